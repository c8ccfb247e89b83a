import PyProof.Rows.All
import KE.IntBitsLaws
import KE.KIsAll
import KE.KSortTup
import KE.LcSums
import KE.KDictOf
import Lean
import PyProof.EqAt
import PyProof.EqKinds
import PyProof.TupleCall
import PySem.Challenge.RW_sheetfold_k08_whole_drawn_and_seen
set_option genSizeOf false
set_option genInjectivity false
set_option compiler.extract_closed false
set_option Elab.async false
set_option linter.all false
set_option maxRecDepth 100000
open PySem renaming starEach→sj,wpAny→sm,mainGlobals→su,sizeLine→sv,wpAny_loadPart'→sy,compareOp→sA,foldedSetIterable→sD,bootBuiltins→sE,backTo→sG,binaryOp→sH,assignEach→sI,cLine→sL,attributeBase→sM,cellsFrom→sP,richCompare→sR,keywordEach→sT,sysModules→sU,pushCells→sV,swapsWith→sX,pyNext→sY,firstArgMember→s9,codeAny→td,rawInt→tm,behindInMarks→tq,backToKw→tv,sliceBounds→tz,seqItems?→tG,intKind→tH,letOwnedTupleGo→tJ,seqIndex?→tL,hashInt→tM,wpAny_comprehension_free→tP,treeTable→tQ,eqIsQuiet→tS,reduceHash→tY
open PyProof.Rows renaming seqObj→sS,envOfC→tK,subscriptTail_builtinR→tU
open PySem.W renaming openGood→tR
abbrev se:=@decide_eq_false
abbrev sh:=@decide_eq_true
abbrev si:=@if_pos
abbrev sk:=@if_neg
abbrev sx:=@of_decide_eq_true
abbrev sF:=@beq_eq_false_iff_ne
abbrev sO:=@decide_eq_true_eq
abbrev sQ:=@if_false
abbrev sW:=@if_true
abbrev sZ:=@or_false
abbrev tE:=@beq_self_eq_true
abbrev tX:=@beq_iff_eq
open Option renaming some→bB,none→bC
open Bool renaming true→bD,false→bE
open PySem renaming PyData→Ka,wpAny_bind→Kb,Value→Ke,Shared→Kf,Addr→Kg,wpAny_pure→Ki,Expr→KI,Program→KO,Around→KZ,World→K0,Heap→K4,wpAny_newObj_type→Vb,Stmt→Ve,boot_len→Vu,Paired→VB,wpAny_call_entry→VE,wpAny_holding→VJ,wpAny_truthy_bool→VU,FuncData→VW,plainId_quiet→VY,ReadsAll→V1,Scope→V5,codeAny_builtin→Ua,wpAny_callSpecial?_slot→Uc,Keyword→Ui,mem_of_lookup→Uj,wpAny_seqItems→Uq,wpAny_mono→Uy,wpAny_tryCatch→UF,wpAny_field→UH,Reads→UM,wpAny_typeNameOfWhole_itemiter→UO,Builtin→UQ,wpAny_typeNameOfWhole_keyiter→UR,wpAny_fieldsOf→UV,IsItemIter→UY,DictEntry→UZ,wpAny_passesOwn→U2,wpAny_pyIter_list→U6,wpAny_dictEntries→U7,wpAny_typeNameOf_itemiter→Xd,sizeLine_eq→Xe,wpAny_letGo→Xg,wpAny_typeNameOf_keyiter→Xl,wpAny_pyIter_tuple→Xt,intKind_is→Xv,wpAny_dictEpoch→Xw,wpAny_updateSeq→Xx,wpAny_setField_rec→Xy,wpAny_isOneOf_itemiter→XF,wpAny_of_eq→X0,call_function_tree→X8,call_meets→Nc,wpAny_setField→Nd,richCompare_meets_room→Nn,wpAny_attempt→Nu,wpAny_forIn_list→Nv,OsState→NC,wpAny_notOrdered_dict→NH,wpAny_isOneOf_keyiter→NI,Params→NN,wpAny_execs_nil→NP,wpAny_specialOf→NQ,IntMulOk→N3,wpAny_Call_Name_kw→N8,wpAny_newList→Eg,wpAny_pyIter_slot→Eo,typeIs_str→Ep,NameKind→Eu,concat_meets→Ey,noFill_tuple_add→Ez,wpAny_isInstance→EC,PassesOwn→ET,pushCells_keeps→EX,wpAny_newTuple→E7
open List renaming length_map→Kc,getElem?_eq_getElem→Kj,replicate→Kk,mem_map→Kl,map_cons→Km,mem_cons→Ko,length_append→Kr,range→Ku,length_cons→Kv,map_append→Kw,map_map→Kx,mem_singleton→Ky,size_toArray→KA,getElem?_map→KJ,all_eq_true→KN,length_singleton→KQ,length_range→KR,mem_cons_of_mem→KS,getElem?_eq_some_iff→KW,mem_of_getElem?→KY,mem_append_right→K5,mem_append→K6,find?_cons→Vd,getElem?_append_left→Vf,mem_append_left→Vi,length_replicate→Vj,map_congr_left→Vm,lookup_cons→Vt,getElem?_set_self→Vv,append_nil→Vw,getElem?_append_right→Vy,drop_eq_getElem_cons→VD,getElem_mem→VF,append_assoc→VG,mem_cons_self→VO,find?_eq_none→VP,not_mem_nil→VR,nodup_append→VV,mem_range→VX,nodup_cons→VZ,map_nil→V9,length_set→Ub,getD_eq_getElem?_getD→Ue,length_nil→Uu,range'→Uv,any_cons→UA,mem_of_find?_eq_some→UG,getElem?_set_ne→UK,all_map→UP,getElem?_replicate→US,nodup_nil→UU,idxOf_lt_length_of_mem→U1,getElem?_eq_none_iff→Xc,length→Xf,drop_length→Xk,getElem_of_mem→Xn,zip_cons_cons→Xu,nil_append→Xz,find?_some→XC,getElem?_eq_none→XO,filterMap_append→XR,map_id→X1,filterMap_cons→X2,mem_filterMap→X4,getElem?_nil→Nj,drop_eq_nil_of_le→Np,length_pos_of_mem→Nr,getElem?_toArray→NJ,eq_replicate_iff→NK,replicate_succ→N1,zipIdx_map_fst→N2,lookup→N5,zip_nil_right→N9,zip_nil_left→En,getElem?_zip_eq_some→Er,pairwise_iff_getElem→Es,length_take→Ew,getElem?_take_of_lt→Ex,length_drop→EA,range'_succ→EK,filter_cons_of_pos→ER,of_mem_zip→EV,forIn_cons→EW,length_zip→EY,set_append_right→E6,countP_le_length→E9
open PySem.W renaming Frag→Kd,nsIn→K7,mg_none_of→Vp,kia_one→Vq,findIn→Ug,kitOne→Uh,keepIn→UD,fnOf→UL,mg_of→U5,mroIn→Xp,kas_rev→Xq,codeIn→XJ,kas_desc→NB,kas_descPart→NY,methodObj→Eh,specialIn→Ei,kitx_list→Ej,kitx_dict→Ek,OpenLaw→El,plainGet→Et,kas_sort→EF,instObj→ES,takesIn→EU,cellsFrom_some→EZ,lookIn→E5,kitx_tuple→Ff,hasDictIn→Fi,plainOver→Fj,kitx_none→Fk,kitx_bool→Fl
open PySem.Heap renaming get?_push_of_some→Kh,get?_push_size→Ks,lt_size→Kz,get?_update_other→Vc,size_push→Vk,SameBut→V7,get?_update_self→UE
open PySem.Str renaming ofString→Kn
open Nat renaming le_refl→Kp,ne_of_lt→KD,lt_succ_of_lt→K3,lt_of_lt_of_le→Vg,zero_le→Vr,le_trans→Vx,le_of_lt→VL,ne_of_gt→V8,lt_irrefl→Ud,lt_succ_self→UT,le_succ→XE,lt_trans→XN,le_succ_of_le→Nk,add_assoc→Nt,le_max_right→Nx,succ_ne_self→Ny,min_le_left→NR,le_max_left→NV,succ_le_succ→EB,zero_add→EE,add_comm→Fg,lt_or_ge→Fh
open PySem.PyData renaming canLayAll0→Kq,int→Kt,depthAll→KB,eqv→KC,canLay0→KU,bool→VI,tuple→VM,list→UI,depth→UN,str→XU,dict→E4
open Bool renaming and_eq_true→KF,false_ne_true→Vl,false_eq_true→Vz,eq_iff_iff→Xs,false_or→XY,false→NO,or_eq_true→NS,true→N7,not_true→Ee,eq_false_iff→Em,true_or→EH,and_eq_true_iff→Fd
open PySem.SeqAt renaming canLay_of_shaped→KG,shaped→K8,eqAt_reads→Nw
open PySem.Builtin.Str renaming occurrences→KM,strKind→Ul,partsBetween→Uo,strSub→Nb
open PySem.Value renaming ref→KP,none→Vo,type→VA,bool→Um,builtin→Uw,str→XT,notImplemented→NT,int→N6
open PySem.PassesOwn renaming never→K9
open Int renaming toNat_natCast→Va,emod_nonneg→XA,emod_lt_of_pos→XB,le_refl→XH,fdiv_eq_ediv_of_nonneg→Eb
open Array renaming length_toList→Vh,getElem?_eq_none→V2,getElem?_eq_getElem→V3,getElem?_eq_some_iff→U4,mem_toList_iff→U9,getElem?_toList→XM,getElem_toList→NU,toList_inj→EG,mk→Fb
open Option renaming none→Vn,some→UX,map_eq_some_iff→XD,isSome_iff_exists→X5
open PySem.NameKind renaming free→Vs,cell→VQ
open PySem.Builtin.Tuple renaming tupleHashOf→VC,tupleExact→Xj,tupleCompareSizes→NL,tupleItemsOf→Ed
open PySem.Builtin.Builtins renaming bindParams→VH
open PySem.Around renaming under_plainId→VN
open PySem.W.Fast renaming te10110043849684766642→VS,te14364793385576792824→VT,te4187177175401517315→Ux
open Prod renaming ext→V0
open PySem.F renaming slot_dict_itemiterator_next→V4,slot_dict_keyiterator_next→Ur,plain_min_loop→UB,plain_max_loop→UC,slot_tuple_iterator_next→U3,plainAttrs_list→Xo,slot_str_split→XG,slot_tuple_hash→XI,args_tuple_add_2→X6,slot_list_getattribute→X9,args_str_split_2→Na,entry_tuple_add→Nh,entry_str_split→Ni,slot_tuple_add→Nl,slot_list_append→Nm,plainAttrs_str→Nq,typeOf_object_class→NF,slot_dict_get→NG,args_dict_itemiterator_next_1→NM,args_dict_keyiterator_next_1→NW,entry_dict_itemiterator_next→NX,entry_dict_keyiterator_next→NZ,slot_dict_itemiterator_iter→N0,args_tuple_iterator_next_1→N4,entry_tuple_iterator_next→Ea,type_list_append→ED,entry_min_loop→EI,entry_max_loop→EJ,slot_list_index→EL,args_dict_get_3→EM,plainAttrs_dict→EN,entry_dict_get→E3,slot_dict_items→Fc,slot_gs_get→Fe
open Ne renaming symm→V6
open PySem.Builtin.Int renaming intBits→Uk
open PySem.Obj renaming mapSeq→Up,mk→XW,data_mapFields→X7,isFreed_of_fields→E8
open PySem.Builtin.Dict_items renaming ownsTuple→Us,ownedTupleFields→Nf,ownedTupleIsFree→Ng,pairFromOwner→Nz
open Option.some renaming inj→Ut
open True renaming intro→Uz
open Prod.mk renaming inj→UJ
open PyProof.Rows renaming slot_tuple_getitem→UW,callWith_type1→U0,AllBare→ND,listUpdate_at→Ef,seqEpoch_at→E1
open False renaming elim→U8
open PySem.Builtin.Slice renaming slicePlaces→Xa,sliceAdjust→X3,sliceApplied→Ec
open PySem.Builtin.SmallTypes renaming nextOf→Xb
open PyProof.Rows.Reads renaming keeps→Xh
open PySem.Txt renaming split→Xi,join→NA
open PySem.Heap.SameBut renaming update→Xm
open ForInStep renaming yield→Xr
open PySem.Builtin.Dict renaming showsAll→XQ,updateFrom→EO
open PySem.Paired renaming length→XX,cons→E2
open List.cons renaming inj→XZ
noncomputable section
set_option hygiene false in
local macro_rules
|`('#')=>`((by omega))
|`('$')=>`((by decide +kernel))
|`('%')=>`((by decide))
|`('&')=>`((λcdv A outer s H E hr G=>?_))
|`('*')=>`((by dsimp only;omega))
|`('+')=>`((by simp))
|`(',')=>`((by kernel_rfl))
|`('-')=>`({ cls:=.type "dict", data:=.dict #[] })
namespace HD
open PySem PySem.W PySem.Calls PyProof.Rows
noncomputable def vw:KO:=view PySem.Challenge.pw_sheetfold_k08_whole_drawn_and_seen [1,2,3,5,6,7,8,9,11,13,14,16,17,18,19,20,21,22,24,25,26,27,28,29,30,31,32,33,34,35,36,37,38,39,40,42,43,44,45,46,47,48,49,50,51,52,53,54,55,56,57]
noncomputable def tp (i:Nat):Ve:=PySem.Challenge.pw_sheetfold_k08_whole_drawn_and_seen.main.body.getD i (.Pass ⟨0,0,0,0⟩)
noncomputable def dA:Ve->Arguments
 |.FunctionDef _ a _ _ _ _ _ _ _ _=>a
 |_=>default
noncomputable def dB:Ve->List Ve
 |.FunctionDef _ _ b _ _ _ _ _ _ _=>b
 |_=>[]
noncomputable def dS:Ve->V5
 |.FunctionDef _ _ _ _ _ _ s _ _ _=>s
 |_=>default
noncomputable abbrev de (P:NN)(x:String)(t:Nat)(v:Ke):UZ:=DictEntry.mk (PyData.keyHash P (Kn x)) (XT (Kn x) t) v
noncomputable abbrev S (x:String)(t:Nat):Ke:=XT (Kn x) t
abbrev I (n:Int)(t:Nat):Ke:=N6 n t
noncomputable abbrev R (a:Kg):Ke:=KP a
abbrev Y (x:String):Ke:=VA x
noncomputable abbrev N:Ke:=Vo
noncomputable abbrev tu (a:Array Ke):Obj:=XW (VA "tuple") Vn (Data.seq a) #[]
abbrev cc (x:String)(t1 t2 t3:Nat)(l n:Int)(a1:Kg)(k:Int)(a2:Kg)(u v:Ke)(a3:Kg)(t4:Int)(t5:Nat):Obj:=XW (VA "code") Vn (Data.fields #[S x t1,S x t2,S "/claim/cut.py" t3,I l 0,I n 0,I 0 0,I 0 0,I 3 0,R a1,Um N7,I k 0,R a2,N,u,v,R a3,I t4 0,I l 0,S "/claim/cut.py" t5]) #[]
abbrev xc (x:String)(e a d b:Kg)(t u:Nat):Obj:=XW (Y "type") Vn (Data.cls (ClassData.mk (Kn x) [R e] [R a,R e,Y "ValueError", Y "Exception", Y "BaseException", Y "object"] d (Kn x) N7 [] [] NO Vn NO)) #[UX (R b),Vn,UX (S x t),UX (S x u),UX (Uw "ValueError.__new__"),UX (Um N7)]
abbrev xd (P:NN)(t1 t2 t3:Nat)(l:Int)(t4 t5:Nat)(a:Kg)(t6:Nat):Obj:=XW (Y "dict") Vn (Data.dict #[de P "__module__" t1 (S "sheetfold.errors" t2),de P "__firstlineno__" t3 (I l t4),de P "__static_attributes__" t5 (R a),de P "__doc__" t6 N] 2) #[]
abbrev fu (x:String)(i:Nat)(m:String)(t:Nat)(c:Kg):Obj:=XW (VA "function") Vn (Data.func (FuncData.mk (Kn x) (Kn x) (dA (tp i)) (FuncBody.stmts (dB (tp i))) (dS (tp i)) 3 [] N N N (S m t) Vn (R c) N 0)) #[]
set_option maxHeartbeats 0 in
noncomputable def KH:NN->Kd:=λP =>
(nat_lit 2,XW N Vn (Data.dict #[]) #[]) ::
(nat_lit 3,XW (Y "dict") Vn (Data.dict #[de P "__name__" 165 (S "law_sheetfold_k08_whole_drawn_and_seen" 475),de P "__doc__" 166 N,de P "__package__" 167 N,de P "__loader__" 168 (Uw "__main__.__loader__#opaque"),de P "__spec__" 169 N,de P "__annotations__" 170 (R 6),de P "__builtins__" 171 (R 4),de P "__file__" 173 (S "/claim/cut.py" 172),de P "__cached__" 174 N,de P "SheetError" 206 (R 24),de P "NoDrawing" 222 (R 37),de P "NoSheet" 247 (R 56),de P "least_twice" 259 (R 65),de P "numbers_of" 265 (R 70),de P "links_of" 271 (R 75),de P "reached_from" 283 (R 82),de P "least_apart" 293 (R 89),de P "is_whole" 302 (R 96),de P "BENDS" 309 (R 97),de P "is_bend" 316 (R 104),de P "MOST_CELLS" 320 (I 26 319),de P "STEPS" 331 (R 109),de P "step_between" 339 (R 116),de P "sheet_of" 351 (R 123),de P "sheet_from" 360 (R 130),de P "numbered_joins" 366 (R 135),de P "are_neighbours" 374 (R 142),de P "MOST" 378 (I 61 377),de P "CELL" 380 (S "#" 379),de P "NOTHING" 382 (S "." 381),de P "JOINS" 384 (S "v+^" 383),de P "drawn" 390 (R 147),de P "row_text" 396 (R 152),de P "place_of" 402 (R 157),de P "between" 410 (R 164),de P "seen" 416 (R 169),de P "refuse_wrong_sizes" 422 (R 174),de P "is_fit" 429 (R 181),de P "ends_at" 437 (R 188),de P "signs_for" 444 (R 195),de P "sign_at" 452 (R 202),de P "cell_at" 460 (R 209),de P "sheet_text" 467 (R 216),de P "sheet_read" 474 (R 223),de P "_law_cell_at" 484 (R 230),de P "_law_whole" 491 (R 237),de P "_law_triple" 500 (R 244),de P "_law_offset" 508 (R 251),de P "_law_mixed" 517 (R 258),de P "_law_most" 527 (R 265),de P "_law_steps" 533 (R 270),de P "_law_beside" 541 (R 277),de P "_law_grown" 555 (R 284),de P "_law_moved_cells" 561 (R 289),de P "_law_sheet" 572 (R 296),de P "_law_sheet_alike" 582 (R 303),de P "_law_painted" 588 (R 308),de P "_law_texts" 597 (R 315),de P "_law_framed" 603 (R 320),de P "law" 609 (R 325)] 60) #[]) ::
(nat_lit 15,tu #[Y "ValueError"]) ::
(nat_lit 22,tu #[]) ::
(nat_lit 23,XW (Y "dict") Vn (Data.dict #[de P "__module__" 196 (S "sheetfold.errors" 187),de P "__firstlineno__" 200 (I 2 199),de P "__static_attributes__" 201 (R 22),de P "__weakref__" 203 (R 25),de P "__doc__" 204 N] 3) #[]) ::
(nat_lit 24,XW (Y "type") Vn (Data.cls (ClassData.mk (Kn "SheetError") [Y "ValueError"] [R 24,Y "ValueError", Y "Exception", Y "BaseException", Y "object"] 23 (Kn "SheetError") N7 [] [R 37,R 56] NO Vn NO)) #[UX (R 15),Vn,UX (S "SheetError" 189),UX (S "SheetError" 197),UX (Uw "ValueError.__new__"),UX (Um N7)]) ::
(nat_lit 25,XW (Y "getset_descriptor") Vn (Data.fields #[S "__weakref__" 202,R 24,Uw "ExceptionGroup.__weakref__", N]) #[]) ::
(nat_lit 28,tu #[R 24]) ::
(nat_lit 35,tu #[]) ::
(nat_lit 36,xd P 214 187 218 4 217 219 35 220) ::
(nat_lit 37,xc "NoDrawing" 24 37 36 28 207 215) ::
(nat_lit 40,tu #[R 24]) ::
(nat_lit 47,tu #[]) ::
(nat_lit 49,tu #[S "self" 238,S "why" 239]) ::
(nat_lit 50,tu #[]) ::
(nat_lit 52,XW (Y "code") Vn (Data.fields #[S "__init__" 235,S "NoSheet.__init__" 236,S "/claim/cut.py" 237,I 8 0,I 2 0,I 0 0,I 0 0,I 3 0,R 47,Um N7,I 181 0,R 48,N,R 49,R 50,R 51,I 240 0,I 8 0,S "/claim/cut.py" 241]) #[]) ::
(nat_lit 53,XW (Y "function") Vn (Data.func (FuncData.mk (Kn "__init__") (Kn "NoSheet.__init__") (Arguments.mk [] [Arg.mk (Kn "self") Vn (Pos.mk 8 17 8 21),Arg.mk (Kn "why") Vn (Pos.mk 8 23 8 26)] Vn [] [] Vn []) (FuncBody.stmts [Stmt.Expr (Expr.Call (Expr.Attribute (Expr.Name (Kn "SheetError") (Pos.mk 9 8 9 18)) (Kn "__init__") (Pos.mk 9 8 9 27)) [Expr.Name (Kn "self") (Pos.mk 9 28 9 32),Expr.JoinedStr [Expr.Constant (Const.str (Kn "no sheet: ")) 0 (Pos.mk 9 36 9 46),Expr.FormattedValue (Expr.Name (Kn "why") (Pos.mk 9 47 9 50)) 114 Vn (Pos.mk 9 46 9 53)] (Pos.mk 9 34 9 54)] [] (Pos.mk 9 8 9 55)) (Pos.mk 9 8 9 55),Stmt.Assign [Expr.Attribute (Expr.Name (Kn "self") (Pos.mk 10 8 10 12)) (Kn "why") (Pos.mk 10 8 10 16)] (Expr.Name (Kn "why") (Pos.mk 10 19 10 22)) (Pos.mk 10 8 10 22)]) (Scope.mk ScopeKind.function [(Kn "self", NameKind.local),(Kn "why", NameKind.local),(Kn "SheetError", NameKind.globalImplicit)] NO NO []) 3 [] N N N (S "sheetfold.errors" 187) Vn (R 52) N 0)) #[]) ::
(nat_lit 54,tu #[S "why" 243]) ::
(nat_lit 55,XW (Y "dict") Vn (Data.dict #[de P "__module__" 230 (S "sheetfold.errors" 187),de P "__firstlineno__" 234 (I 6 233),de P "__init__" 242 (R 53),de P "__static_attributes__" 244 (R 54),de P "__doc__" 245 N] 2) #[]) ::
(nat_lit 56,xc "NoSheet" 24 56 55 40 223 231) ::
(nat_lit 59,tu #[]) ::
(nat_lit 61,tu #[S "things" 253,S "ordered" 254,S "one" 255,S "other" 256]) ::
(nat_lit 62,tu #[]) ::
(nat_lit 64,cc "least_twice" 250 251 252 12 1 59 181 60 (R 61) (R 62) 63 257 258) ::
(nat_lit 65,fu "least_twice" 5 "sheetfold.hanging" 248 64) ::
(nat_lit 66,tu #[]) ::
(nat_lit 69,cc "numbers_of" 260 261 262 18 1 66 181 67 N N 68 263 264) ::
(nat_lit 70,fu "numbers_of" 6 "sheetfold.hanging" 248 69) ::
(nat_lit 71,tu #[]) ::
(nat_lit 74,cc "links_of" 266 267 268 20 2 71 181 72 N N 73 269 270) ::
(nat_lit 75,fu "links_of" 7 "sheetfold.hanging" 248 74) ::
(nat_lit 76,tu #[]) ::
(nat_lit 78,tu #[S "start" 275,S "links" 276,S "origins" 277,S "waiting" 278,S "k" 279,S "j" 280]) ::
(nat_lit 79,tu #[]) ::
(nat_lit 81,cc "reached_from" 272 273 274 26 2 76 181 77 (R 78) (R 79) 80 281 282) ::
(nat_lit 82,fu "reached_from" 8 "sheetfold.hanging" 248 81) ::
(nat_lit 83,tu #[]) ::
(nat_lit 85,tu #[S "count" 287,S "pairs" 288,S "reached" 289,S "k" 290]) ::
(nat_lit 86,tu #[]) ::
(nat_lit 88,cc "least_apart" 284 285 286 36 2 83 181 84 (R 85) (R 86) 87 291 292) ::
(nat_lit 89,fu "least_apart" 9 "sheetfold.hanging" 248 88) ::
(nat_lit 90,tu #[]) ::
(nat_lit 92,tu #[S "thing" 299]) ::
(nat_lit 93,tu #[]) ::
(nat_lit 95,cc "is_whole" 296 297 298 43 1 90 181 91 (R 92) (R 93) 94 300 301) ::
(nat_lit 96,fu "is_whole" 11 "sheetfold.turns" 294 95) ::
(nat_lit 97,tu #[I (-1) 306,I 0 307,I 1 308]) ::
(nat_lit 98,tu #[]) ::
(nat_lit 100,tu #[S "thing" 313]) ::
(nat_lit 101,tu #[]) ::
(nat_lit 103,cc "is_bend" 310 311 312 47 1 98 181 99 (R 100) (R 101) 102 314 315) ::
(nat_lit 104,fu "is_bend" 14 "sheetfold.joins" 303 103) ::
(nat_lit 105,tu #[I 1 321,I 0 322]) ::
(nat_lit 106,tu #[I 0 323,I 1 324]) ::
(nat_lit 107,tu #[I (-1) 326,I 0 327]) ::
(nat_lit 108,tu #[I 0 328,I (-1) 330]) ::
(nat_lit 109,tu #[R 105,R 106,R 107,R 108]) ::
(nat_lit 110,tu #[]) ::
(nat_lit 112,tu #[S "cell" 335,S "other" 336]) ::
(nat_lit 113,tu #[]) ::
(nat_lit 115,cc "step_between" 332 333 334 52 2 110 181 111 (R 112) (R 113) 114 337 338) ::
(nat_lit 116,fu "step_between" 18 "sheetfold.sheets" 317 115) ::
(nat_lit 117,tu #[]) ::
(nat_lit 119,tu #[S "cells" 343,S "joins" 344,S "count" 345,S "twice" 346,S "sheet" 347,S "apart" 348]) ::
(nat_lit 120,tu #[]) ::
(nat_lit 122,cc "sheet_of" 340 341 342 54 2 117 181 118 (R 119) (R 120) 121 349 350) ::
(nat_lit 123,fu "sheet_of" 19 "sheetfold.sheets" 317 122) ::
(nat_lit 124,tu #[]) ::
(nat_lit 126,tu #[S "cells" 355,S "joins" 356,S "ordered" 357]) ::
(nat_lit 127,tu #[]) ::
(nat_lit 129,cc "sheet_from" 352 353 354 66 2 124 181 125 (R 126) (R 127) 128 358 359) ::
(nat_lit 130,fu "sheet_from" 20 "sheetfold.sheets" 317 129) ::
(nat_lit 131,tu #[]) ::
(nat_lit 134,cc "numbered_joins" 361 362 363 69 2 131 181 132 N N 133 364 365) ::
(nat_lit 135,fu "numbered_joins" 21 "sheetfold.sheets" 317 134) ::
(nat_lit 136,tu #[]) ::
(nat_lit 138,tu #[S "numbers" 370,S "pair" 371]) ::
(nat_lit 139,tu #[]) ::
(nat_lit 141,cc "are_neighbours" 367 368 369 78 2 136 181 137 (R 138) (R 139) 140 372 373) ::
(nat_lit 142,fu "are_neighbours" 22 "sheetfold.sheets" 317 141) ::
(nat_lit 143,tu #[]) ::
(nat_lit 146,cc "drawn" 385 386 387 85 1 143 181 144 N N 145 388 389) ::
(nat_lit 147,fu "drawn" 28 "sheetfold.drawings" 375 146) ::
(nat_lit 148,tu #[]) ::
(nat_lit 151,cc "row_text" 391 392 393 95 3 148 181 149 N N 150 394 395) ::
(nat_lit 152,fu "row_text" 29 "sheetfold.drawings" 375 151) ::
(nat_lit 153,tu #[]) ::
(nat_lit 156,cc "place_of" 397 398 399 97 2 153 181 154 N N 155 400 401) ::
(nat_lit 157,fu "place_of" 30 "sheetfold.drawings" 375 156) ::
(nat_lit 158,tu #[]) ::
(nat_lit 160,tu #[S "one" 406,S "other" 407]) ::
(nat_lit 161,tu #[]) ::
(nat_lit 163,cc "between" 403 404 405 101 2 158 181 159 (R 160) (R 161) 162 408 409) ::
(nat_lit 164,fu "between" 31 "sheetfold.drawings" 375 163) ::
(nat_lit 165,tu #[]) ::
(nat_lit 168,cc "seen" 411 412 413 103 1 165 181 166 N N 167 414 415) ::
(nat_lit 169,fu "seen" 32 "sheetfold.drawings" 375 168) ::
(nat_lit 170,tu #[]) ::
(nat_lit 173,cc "refuse_wrong_sizes" 417 418 419 120 1 170 181 171 N N 172 420 421) ::
(nat_lit 174,fu "refuse_wrong_sizes" 33 "sheetfold.drawings" 375 173) ::
(nat_lit 175,tu #[]) ::
(nat_lit 177,tu #[S "length" 426]) ::
(nat_lit 178,tu #[]) ::
(nat_lit 180,cc "is_fit" 423 424 425 125 1 175 181 176 (R 177) (R 178) 179 427 428) ::
(nat_lit 181,fu "is_fit" 34 "sheetfold.drawings" 375 180) ::
(nat_lit 182,tu #[]) ::
(nat_lit 184,tu #[S "row" 433,S "column" 434]) ::
(nat_lit 185,tu #[]) ::
(nat_lit 187,cc "ends_at" 430 431 432 127 2 182 181 183 (R 184) (R 185) 186 435 436) ::
(nat_lit 188,fu "ends_at" 35 "sheetfold.drawings" 375 187) ::
(nat_lit 189,tu #[]) ::
(nat_lit 191,tu #[S "ends" 441]) ::
(nat_lit 192,tu #[]) ::
(nat_lit 194,cc "signs_for" 438 439 440 135 1 189 181 190 (R 191) (R 192) 193 442 443) ::
(nat_lit 195,fu "signs_for" 36 "sheetfold.drawings" 375 194) ::
(nat_lit 196,tu #[]) ::
(nat_lit 198,tu #[S "rows" 448,S "place" 449]) ::
(nat_lit 199,tu #[]) ::
(nat_lit 201,cc "sign_at" 445 446 447 137 2 196 181 197 (R 198) (R 199) 200 450 451) ::
(nat_lit 202,fu "sign_at" 37 "sheetfold.drawings" 375 201) ::
(nat_lit 203,tu #[]) ::
(nat_lit 205,tu #[S "rows" 456,S "place" 457]) ::
(nat_lit 206,tu #[]) ::
(nat_lit 208,cc "cell_at" 453 454 455 139 2 203 181 204 (R 205) (R 206) 207 458 459) ::
(nat_lit 209,fu "cell_at" 38 "sheetfold.drawings" 375 208) ::
(nat_lit 210,tu #[]) ::
(nat_lit 212,tu #[S "sheet" 464]) ::
(nat_lit 213,tu #[]) ::
(nat_lit 215,cc "sheet_text" 461 462 463 141 1 210 181 211 (R 212) (R 213) 214 465 466) ::
(nat_lit 216,fu "sheet_text" 39 "sheetfold.drawings" 375 215) ::
(nat_lit 217,tu #[]) ::
(nat_lit 219,tu #[S "text" 471]) ::
(nat_lit 220,tu #[]) ::
(nat_lit 222,cc "sheet_read" 468 469 470 143 1 217 181 218 (R 219) (R 220) 221 472 473) ::
(nat_lit 223,fu "sheet_read" 40 "sheetfold.drawings" 375 222) ::
(nat_lit 224,tu #[]) ::
(nat_lit 226,tu #[S "_law_script" 480,S "_law_k" 481]) ::
(nat_lit 227,tu #[]) ::
(nat_lit 229,cc "_law_cell_at" 477 478 479 146 2 224 181 225 (R 226) (R 227) 228 482 483) ::
(nat_lit 230,fu "_law_cell_at" 42 "law_sheetfold_k08_whole_drawn_and_seen" 475 229) ::
(nat_lit 231,tu #[]) ::
(nat_lit 233,tu #[S "_law_found" 488]) ::
(nat_lit 234,tu #[]) ::
(nat_lit 236,cc "_law_whole" 485 486 487 150 1 231 181 232 (R 233) (R 234) 235 489 490) ::
(nat_lit 237,fu "_law_whole" 43 "law_sheetfold_k08_whole_drawn_and_seen" 475 236) ::
(nat_lit 238,tu #[]) ::
(nat_lit 240,tu #[S "_law_found" 495,S "_law_due" 496,S "_law_number" 497]) ::
(nat_lit 241,tu #[]) ::
(nat_lit 243,cc "_law_triple" 492 493 494 152 2 238 181 239 (R 240) (R 241) 242 498 499) ::
(nat_lit 244,fu "_law_triple" 44 "law_sheetfold_k08_whole_drawn_and_seen" 475 243) ::
(nat_lit 245,tu #[]) ::
(nat_lit 247,tu #[S "_law_cell" 504,S "_law_rest" 505]) ::
(nat_lit 248,tu #[]) ::
(nat_lit 250,cc "_law_offset" 501 502 503 159 1 245 181 246 (R 247) (R 248) 249 506 507) ::
(nat_lit 251,fu "_law_offset" 45 "law_sheetfold_k08_whole_drawn_and_seen" 475 250) ::
(nat_lit 252,tu #[]) ::
(nat_lit 254,tu #[S "_law_cell" 512,S "_law_k" 513,S "_law_number" 514]) ::
(nat_lit 255,tu #[]) ::
(nat_lit 257,cc "_law_mixed" 509 510 511 168 2 252 181 253 (R 254) (R 255) 256 515 516) ::
(nat_lit 258,fu "_law_mixed" 46 "law_sheetfold_k08_whole_drawn_and_seen" 475 257) ::
(nat_lit 259,tu #[]) ::
(nat_lit 261,tu #[S "_law_script" 521,S "_law_at" 522,S "_law_most_here" 523,S "_law_cell" 524]) ::
(nat_lit 262,tu #[]) ::
(nat_lit 264,cc "_law_most" 518 519 520 171 3 259 181 260 (R 261) (R 262) 263 525 526) ::
(nat_lit 265,fu "_law_most" 47 "law_sheetfold_k08_whole_drawn_and_seen" 475 264) ::
(nat_lit 266,tu #[]) ::
(nat_lit 269,cc "_law_steps" 528 529 530 176 3 266 181 267 N N 268 531 532) ::
(nat_lit 270,fu "_law_steps" 48 "law_sheetfold_k08_whole_drawn_and_seen" 475 269) ::
(nat_lit 271,tu #[]) ::
(nat_lit 273,tu #[S "_law_cell" 537,S "_law_way" 538]) ::
(nat_lit 274,tu #[]) ::
(nat_lit 276,cc "_law_beside" 534 535 536 189 2 271 181 272 (R 273) (R 274) 275 539 540) ::
(nat_lit 277,fu "_law_beside" 49 "law_sheetfold_k08_whole_drawn_and_seen" 475 276) ::
(nat_lit 278,tu #[]) ::
(nat_lit 280,tu #[S "_law_steps_here" 545,S "_law_most_here" 546,S "_law_found" 547,S "_law_joins" 548,S "_law_step" 549,S "_law_one" 550,S "_law_other" 551,S "_law_pair" 552]) ::
(nat_lit 281,tu #[]) ::
(nat_lit 283,cc "_law_grown" 542 543 544 191 2 278 181 279 (R 280) (R 281) 282 553 554) ::
(nat_lit 284,fu "_law_grown" 50 "law_sheetfold_k08_whole_drawn_and_seen" 475 283) ::
(nat_lit 285,tu #[]) ::
(nat_lit 288,cc "_law_moved_cells" 556 557 558 204 3 285 181 286 N N 287 559 560) ::
(nat_lit 289,fu "_law_moved_cells" 51 "law_sheetfold_k08_whole_drawn_and_seen" 475 288) ::
(nat_lit 290,tu #[]) ::
(nat_lit 292,tu #[S "_law_found" 565,S "_law_joins" 566,S "_law_cells" 567,S "_law_made" 568,S "_law_pair" 569]) ::
(nat_lit 293,tu #[]) ::
(nat_lit 295,cc "_law_sheet" 562 563 564 211 2 290 181 291 (R 292) (R 293) 294 570 571) ::
(nat_lit 296,fu "_law_sheet" 52 "law_sheetfold_k08_whole_drawn_and_seen" 475 295) ::
(nat_lit 297,tu #[]) ::
(nat_lit 299,tu #[S "_law_found" 576,S "_law_due" 577,S "_law_k" 578,S "_law_at" 579]) ::
(nat_lit 300,tu #[]) ::
(nat_lit 302,cc "_law_sheet_alike" 573 574 575 217 2 297 181 298 (R 299) (R 300) 301 580 581) ::
(nat_lit 303,fu "_law_sheet_alike" 53 "law_sheetfold_k08_whole_drawn_and_seen" 475 302) ::
(nat_lit 304,tu #[]) ::
(nat_lit 307,cc "_law_painted" 583 584 585 227 2 304 181 305 N N 306 586 587) ::
(nat_lit 308,fu "_law_painted" 54 "law_sheetfold_k08_whole_drawn_and_seen" 475 307) ::
(nat_lit 309,tu #[]) ::
(nat_lit 311,tu #[S "_law_found" 592,S "_law_due" 593,S "_law_row" 594]) ::
(nat_lit 312,tu #[]) ::
(nat_lit 314,cc "_law_texts" 589 590 591 242 2 309 181 310 (R 311) (R 312) 313 595 596) ::
(nat_lit 315,fu "_law_texts" 55 "law_sheetfold_k08_whole_drawn_and_seen" 475 314) ::
(nat_lit 316,tu #[]) ::
(nat_lit 319,cc "_law_framed" 598 599 600 249 5 316 181 317 N N 318 601 602) ::
(nat_lit 320,fu "_law_framed" 56 "law_sheetfold_k08_whole_drawn_and_seen" 475 319) ::
(nat_lit 321,tu #[]) ::
(nat_lit 324,cc "law" 604 605 606 255 1 321 181 322 N N 323 607 608) ::
(nat_lit 325,fu "law" 57 "law_sheetfold_k08_whole_drawn_and_seen" 475 324)::[]
noncomputable def kA:List Kg:=[2,3,15,22,23,24,25,28,35,36,37,40,47,49,50,52,53,54,55,56,59,61,62,64,65,66,69,70,71,74,75,76,78,79,81,82,83,85,86,88,89,90,92,93,95,96,97,98,100,101,103,104,105,106,107,108,109,110,112,113,115,116,117,119,120,122,123,124,126,127,129,130,131,134,135,136,138,139,141,142,143,146,147,148,151,152,153,156,157,158,160,161,163,164,165,168,169,170,173,174,175,177,178,180,181,182,184,185,187,188,189,191,192,194,195,196,198,199,201,202,203,205,206,208,209,210,212,213,215,216,217,219,220,222,223,224,226,227,229,230,231,233,234,236,237,238,240,241,243,244,245,247,248,250,251,252,254,255,257,258,259,261,262,264,265,266,269,270,271,273,274,276,277,278,280,281,283,284,285,288,289,290,292,293,295,296,297,299,300,302,303,304,307,308,309,311,312,314,315,316,319,320,321,324,325]
theorem kE (P:NN):kA=(KH P).map (·.1):=by kernel_rfl
noncomputable abbrev hk:Hook:=kHook KH kA kE
noncomputable def mkT:List Obj->Nat->BT->BT
 |[],_,t=>t
 |o::os,n,t=>mkT os (n+1) (t.ins n o)
noncomputable abbrev bH (P:NN):K4:=boot_heap P
noncomputable def bT (P:NN):BT:=mkT (bH P).objs.toList 0 .nil
theorem bA (P:NN):absHeap (bT P) (bH P).objs.size (bH P).life=bH P:=by kernel_rfl
theorem qj6 (t:Thread):through t=(endAt 0 t).isSome:=by
 obtain⟨u,c,p,k⟩:=t
 cases k with
 |cons a k=>rfl
 |nil =>
  cases u with
  |pure f=>cases f<;>rfl
  |_=>rfl
theorem seg0 {tb:String->Option UQ}{p:KO}{w:K0}{m:Nat}{an:Option Ke}{f:Flow}{s':Kf}{c:Code}{q:Pos}:∀{n:Nat} {s:Kf} {t:Thread},segRun tb p w m an 0 n s t=bB (f,s',c,q)->topRun tb p w m an n s t=bB s':=by
 intro n
 induction n with
 |zero=>exact λh=>nomatch h
 |succ n ih =>
  intro s t h
  rw[segRun]at h
  rw[topRun,qj6]
  cases e:endAt 0 t with
  |some g=>rw[e]at h;cases h;rfl
  |none =>
   rw[e]at h
   dsimp only at h ⊢
   cases k:stepOk m an t with
   |false=>rw[k]at h;cases h
   |true =>
    rw[k]at h
    cases g:step (denote tb) p w s t with
    |halt a b=>rw[g]at h;cases h
    |go s2 t2=>rw[g]at h;exact ih h
noncomputable def toK {β:Type}(t:BT):Nat->List Obj->(List Obj->β)->β
 |0,l,k=>k l
 |n+1,l,k=>match t.get n with
  |some ⟨a,b,c,d⟩=>toK t n (⟨a,b,c,d⟩::l) k
  |none=>toK t n (default::l) k
theorem qme {β:Type}(t:BT)(k:List Obj->β):∀(n:Nat) (l:List Obj),toK t n l k=k (t.list n++l):=by
 intro n
 induction n with
 |zero=>exact λl=>rfl
 |succ n ih =>
  intro l
  have e:t.list (n+1)++l=t.list n++((t.get n).getD default::l):=by
   unfold BT.list
   rw[List.range_succ,Kw,VG]
   rfl
  rw[e,toK]
  cases t.get n with
  |none=>exact ih _
  |some o=>exact ih _
def fz {β:Type}(s:SharedT)(k:Kf->β):β:=toK s.tree s.n [] λl=>k ⟨⟨l.toArray,s.life⟩,s.gens,s.drawn,s.toks,s.os⟩
theorem qkf {β:Type}(s:SharedT)(k:Kf->β):fz s k=k s.abs:=by
 unfold fz
 rw[qme,Vw]
 rfl
noncomputable abbrev sn (s:Kf):=openSeen vw [] (importedModules PySem.Challenge.pw_sheetfold_k08_whole_drawn_and_seen.main.body) (λs=>xlAt vw [] s&&recOk (RowW.records (OpenRow.toRowW (OpenLaw.row PySem.Challenge.rw_sheetfold_k08_whole_drawn_and_seen))) s) bD s
noncomputable abbrev ck (h:K4)(u:Kf):Bool:=staticsOk (importedModules PySem.Challenge.pw_sheetfold_k08_whole_drawn_and_seen.main.body) h u.heap&&namesBound PySem.Challenge.pw_sheetfold_k08_whole_drawn_and_seen u.heap&&gensDone u&&laidKept h u.heap
noncomputable abbrev bS (w:K0)(os:NC):SharedT:=⟨bT w.params,(bH w.params).objs.size,(bH w.params).life,Fb [],boot_drawn,boot_toks,os⟩
def n1 {A B:Type}:A×B->A|(a,_)=>a
noncomputable def n2 {A B C D:Type}:A×B×C×D->B×C|(_,b,c,_)=>(b,c)
noncomputable def n4 {A B C D E F:Type}:A×B×C×D×E×F->D×E|(_,_,_,d,e,_)=>(d,e)
noncomputable def n6 {A B C D E F G:Type}:A×B×C×D×E×F×G->F|(_,_,_,_,_,f,_)=>f
noncomputable def n7 {A B C D E F G:Type}:A×B×C×D×E×F×G->G|(_,_,_,_,_,_,g)=>g
theorem seven {A B C D E F G:Type}{z x:A×B×C×D×E×F×G}(h1:n1 z=x.1)(h2:n2 z=(x.2.1,x.2.2.1))(h4:n4 z=(x.2.2.2.1,x.2.2.2.2.1))(h6:n6 z=x.2.2.2.2.2.1)(h7:n7 z=x.2.2.2.2.2.2):z=x:=by
 obtain⟨a,b,c,d,e,i,j⟩:=z
 obtain⟨a',b',c',d',e',i',j'⟩:=x
 simp only[n1,n2,n4,n6,n7,Prod.mk.injEq]at h1 h2 h4 h6 h7
 obtain⟨h2,h3⟩:=h2
 obtain⟨h4,h5⟩:=h4
 subst h1 h2 h3 h4 h5 h6 h7
 rfl
noncomputable abbrev sr (w:K0)(os:NC):=segRunT tQ PySem.Challenge.pw_sheetfold_k08_whole_drawn_and_seen w (bH w.params).objs.size ((bH w.params).nsMap su "__annotations__") 0 4138 (bS w os) (topStub PySem.Challenge.pw_sheetfold_k08_whole_drawn_and_seen)
set_option maxHeartbeats 0 in
theorem rc (w:K0)(os:NC):(sr w os).map (λr=>fz r.2.1 λu=>ck (bH w.params) u)=bB bD:=by
 unfold sr
 rw[VS,VT]
 kernel_rfl
set_option maxHeartbeats 0 in
theorem rY (w:K0)(os:NC):(sr w os).map (λr=>fz r.2.1 λu=>Hook.obs hk u)=bB (Hook.val hk w):=by
 unfold sr
 rw[VS,VT]
 kernel_rfl
set_option maxHeartbeats 0 in
theorem r1 (w:K0)(os:NC):(sr w os).map (λr=>fz r.2.1 λu=>n1 (sn u))=bB (tR vw []).1:=by
 unfold sr sn
 rw[VS,VT,Ux]
 kernel_rfl
set_option maxHeartbeats 0 in
theorem r2 (w:K0)(os:NC):(sr w os).map (λr=>fz r.2.1 λu=>n2 (sn u))=bB ((tR vw []).2.1,(tR vw []).2.2.1):=by
 unfold sr sn
 rw[VS,VT,Ux]
 kernel_rfl
set_option maxHeartbeats 0 in
theorem r4 (w:K0)(os:NC):(sr w os).map (λr=>fz r.2.1 λu=>n4 (sn u))=bB ((tR vw []).2.2.2.1,(tR vw []).2.2.2.2.1):=by
 unfold sr sn
 rw[VS,VT,Ux]
 kernel_rfl
set_option maxHeartbeats 0 in
theorem r6 (w:K0)(os:NC):(sr w os).map (λr=>fz r.2.1 λu=>n6 (sn u))=bB (tR vw []).2.2.2.2.2.1:=by
 unfold sr sn
 rw[VS,VT,Ux]
 kernel_rfl
set_option maxHeartbeats 0 in
theorem r7 (w:K0)(os:NC):(sr w os).map (λr=>fz r.2.1 λu=>n7 (sn u))=bB (tR vw []).2.2.2.2.2.2:=by
 unfold sr sn
 rw[VS,VT,Ux]
 kernel_rfl
theorem pq {A B:Type}{a c:A}{b d:B}(h:a=c)(g:b=d):(a,b)=(c,d):=by rw[h,g]
theorem qiV {p:KO}{w:K0}{N:Nat}{s s':Kf}(e:fencedOpening tQ p w N=bB s)(tf:topFrom tQ p w N s=bB s'){β:Type}{F:Kf->β}{v:β}(h:F s'=v):(openEnds tQ p w N).map F=bB v:=by
 unfold openEnds
 rw[e]
 show(topFrom tQ p w N s).map F=bB v
 rw[tf,←h]
 rfl
set_option maxHeartbeats 0 in
theorem said:OpenLaw.wellSaid PySem.Challenge.rw_sheetfold_k08_whole_drawn_and_seen=bD:=by
 rw[Fast.te9446332074065402090]
 kernel_rfl
theorem left:LeftO PySem.Challenge.pw_sheetfold_k08_whole_drawn_and_seen vw [] (λs=>xlAt vw [] s&&recOk (RowW.records (OpenRow.toRowW (OpenLaw.row PySem.Challenge.rw_sheetfold_k08_whole_drawn_and_seen))) s) (Hook.obs hk) (Hook.val hk) 4138:=λw=>by
 obtain⟨s,e,e'⟩:=XD.mp (boot_open (p:=PySem.Challenge.pw_sheetfold_k08_whole_drawn_and_seen) (N:=4138) ',' ',' (λs=>by kernel_rfl) w)
 obtain⟨h,gs,d,k,os⟩:=s
 cases e'
 obtain⟨⟨f,s',c,q⟩,e1,e2⟩:=XD.mp (rc w os)
 have say:∀{β:Type} {g:Kf->β} {v:β},(sr w os).map (λr=>fz r.2.1 g)=bB v->g s'.abs=v:=λ{β g v} z=>by
  rw[e1]at z
  exact(qkf s' g).symm.trans (Ut z)
 have e2:=(qkf s' _).symm.trans e2
 have e3:=seven (say (r1 w os)) (say (r2 w os)) (say (r4 w os)) (say (r6 w os)) (say (r7 w os))
 have e4:=say (rY w os)
 have e1:=segRun_of e1
 have ab:(bS w os).abs=⟨bH w.params,Fb [],boot_drawn,boot_toks,os⟩:=congrArg (λz=>(⟨z,Fb [],boot_drawn,boot_toks,os⟩:Kf)) (bA w.params)
 rw[ab]at e1
 have z:((bH w.params).isNs su&&(Fb []:Array GenState).size==0)=bD:=by kernel_rfl
 have tf:topFrom tQ PySem.Challenge.pw_sheetfold_k08_whole_drawn_and_seen w 4138 ⟨bH w.params,Fb [],boot_drawn,boot_toks,os⟩=bB s'.abs:=by
  unfold topFrom
  dsimp only
  rw[z,seg0 e1]
  show(match ck (bH w.params) s'.abs with | true=>bB s'.abs|false=>bC)=_
  rw[e2]
 exact qiV e tf (pq e3 e4)
end HD
namespace L2
open PySem PySem.Spec PyProof.Rows
theorem on1 {α:Type}{P:List α->Prop}(h:∀a0,P [a0]):∀us:List α,us.length=1->P us:=by
 intro us hl
 cases us with
 |nil=>cases hl
 |cons x0 r0=>
 cases r0 with
 |nil=>exact h _
 |cons=>cases hl
theorem on2 {α:Type}{P:List α->Prop}(h:∀a0 a1,P [a0,a1]):∀us:List α,us.length=2->P us:=by
 intro us hl
 cases us with
 |nil=>cases hl
 |cons x0 r0=>
 cases r0 with
 |nil=>cases hl
 |cons x1 r1=>
 cases r1 with
 |nil=>exact h _ _
 |cons=>cases hl
theorem on3 {α:Type}{P:List α->Prop}(h:∀a0 a1 a2,P [a0,a1,a2]):∀us:List α,us.length=3->P us:=by
 intro us hl
 cases us with
 |nil=>cases hl
 |cons x0 r0=>
 cases r0 with
 |nil=>cases hl
 |cons x1 r1=>
 cases r1 with
 |nil=>cases hl
 |cons x2 r2=>
 cases r2 with
 |nil=>exact h _ _ _
 |cons=>cases hl
theorem on5 {α:Type}{P:List α->Prop}(h:∀a0 a1 a2 a3 a4,P [a0,a1,a2,a3,a4]):∀us:List α,us.length=5->P us:=by
 intro us hl
 cases us with
 |nil=>cases hl
 |cons x0 r0=>
 cases r0 with
 |nil=>cases hl
 |cons x1 r1=>
 cases r1 with
 |nil=>cases hl
 |cons x2 r2=>
 cases r2 with
 |nil=>cases hl
 |cons x3 r3=>
 cases r3 with
 |nil=>cases hl
 |cons x4 r4=>
 cases r4 with
 |nil=>exact h _ _ _ _ _
 |cons=>cases hl
noncomputable abbrev Key:=Sum Int Str
abbrev bz:=List Ve
abbrev br:=Result->Kf->Prop
abbrev bq:=Ka->Ka->Ka->Option Ka
abbrev bp:=Nat->Nat->Option Bool
abbrev bh:=Ka->Ka->Option (List Ka)
abbrev be:=Option Ke->Kf->Prop
noncomputable abbrev bc:=List Env
abbrev aZ:=List (Str×Value)
abbrev aY:=Nat->K4->Prop
noncomputable abbrev aX:=Array Nat
abbrev aW:=List (Int×Value)
noncomputable abbrev aV:=Option Int
noncomputable abbrev aU:=Option (List Ka)
noncomputable abbrev aS:=Array Ke
abbrev aQ:=Ke->Ke->Sem Ke
abbrev aO:=Option Kg
abbrev aM:=List (Str×Addr)
noncomputable abbrev aK:=Nat->Nat->Bool
noncomputable abbrev aJ:=List (List Int)
noncomputable abbrev aH:=List KI
abbrev aG:=List (List Nat)
noncomputable abbrev aF:=List Int
noncomputable abbrev aE:=Option Ka
noncomputable abbrev aD:=Ka->Ka->Option Ka
noncomputable abbrev aA:=List Str
noncomputable abbrev aw:=List Kg
noncomputable abbrev av:=List Ka->Option Ka
abbrev au:=Array (Option Ke)
noncomputable abbrev ar:=List Ke
noncomputable abbrev aq:=Str->Option Ke
noncomputable abbrev ao:=List Nat
noncomputable abbrev ah:=List (Kg×Obj)
abbrev ag:=Ke->Kf->Prop
noncomputable abbrev ae:=List Ka
def qkh:Key->Ke->Bool
 |.inl k,v=>Value.isInt k v
 |.inr x,v=>Value.isStrOf x v
def keyH (w:K0):Key->Int
 |.inl k=>tM k
 |.inr x=>hashStr w x
theorem Qi:∀{k:Key} {v:Ke},qkh k v=bD->(∃i t,k=Sum.inl i/\v=N6 i t)\/(∃x t,k=Sum.inr x/\v=XT x t)
 |.inl i,v,h=>by
  obtain⟨t,e⟩:=Value.isInt_shape (k:=i) (v:=v) h
  exact .inl ⟨i,t,rfl,e⟩
 |.inr x,v,h=>by
  obtain⟨t,e⟩:=Value.isStrOf_shape (x:=x) (v:=v) h
  exact .inr ⟨x,t,rfl,e⟩
theorem qk9 (a b:Int):decide ((Sum.inl a:Key)=Sum.inl b)=(a==b):=by
 by_cases e:a=b
 .subst e;simp
 .have h:¬(Sum.inl a:Key)=Sum.inl b:=λq=>e (Sum.inl.inj q)
  rw[se h]
  exact(sF.mpr e).symm
theorem qlc (a b:Str):decide ((Sum.inr a:Key)=Sum.inr b)=decide (a=b):=by
 by_cases e:a=b
 .subst e;simp
 .have h:¬(Sum.inr a:Key)=Sum.inr b:=λq=>e (Sum.inr.inj q)
  rw[se h,se e]
theorem qla (a:Int)(b:Str):decide ((Sum.inl a:Key)=Sum.inr b)=bE:=se (λq=>nomatch q)
theorem qlb (a:Str)(b:Int):decide ((Sum.inr a:Key)=Sum.inl b)=bE:=se (λq=>nomatch q)
def qcl (prog:KO)(w:K0):PySem.KeyKind prog w Key where
 is:=qkh
 hash:=keyH w
 inj:=λv a b ha hb=>by
  rcases Qi ha with ⟨i,t,rfl,rfl⟩|⟨x,t,rfl,rfl⟩
  .rcases Qi hb with ⟨j,u,rfl,e⟩|⟨y,u,rfl,e⟩
   .injection e with e1 _;rw[e1]
   .exact nomatch e
  .rcases Qi hb with ⟨j,u,rfl,e⟩|⟨y,u,rfl,e⟩
   .exact nomatch e
   .injection e with e1 _;rw[e1]
 byValue:=λk v h=>by
  rcases Qi h with ⟨i,t,rfl,rfl⟩|⟨x,t,rfl,rfl⟩<;>rfl
 pyHash:=λhv h=>by
  rcases Qi hv with ⟨i,t,rfl,rfl⟩|⟨x,t,rfl,rfl⟩
  .exact wpAny_pyHash_int h
  .exact wpAny_pyHash_str h
 eqBool:=λhu hv h=>by
  rcases Qi hu with ⟨i,t,rfl,rfl⟩|⟨x,t,rfl,rfl⟩
  .rcases Qi hv with ⟨j,u,rfl,rfl⟩|⟨y,u,rfl,rfl⟩
   .rw[qk9]at h;exact wpAny_eqBool_int h
   .rw[qla]at h;exact SeqAt.EqAt.int_str i t y u _ _ _ _ h
  .rcases Qi hv with ⟨j,u,rfl,rfl⟩|⟨y,u,rfl,rfl⟩
   .rw[qlb]at h;exact SeqAt.EqAt.str_int x t j u _ _ _ _ h
   .rw[qlc]at h;exact wpAny_eqBool_str h
 «strs»:=λk x t v h=>by
  rcases Qi h with ⟨i,u,rfl,e⟩|⟨y,u,rfl,e⟩
  .exact nomatch e
  .injection e with e1 _
   subst e1
   cases v<;>rfl
inductive V where
 |non|bl (b:Bool)|int (i:Int)|str (x:Str)|byt (b:Array UInt8)|flt (b:UInt64)|ref (a:Kg)|ty (n:String)
 deriving DecidableEq
def RelV:V->Ke->Prop
 |.non,u=>u=Vo
 |.bl b,u=>u=Um b
 |.int i,u=>∃t,u=N6 i t
 |.str x,u=>∃t,u=XT x t
 |.byt b,u=>∃t,u=Value.bytes b t
 |.flt b,u=>∃t,u=Value.float b t
 |.ref a,u=>u=KP a
 |.ty n,u=>u=VA n
abbrev Vals:List V->List Ke->Prop:=VB RelV
theorem Vals.length {xs:List V}{us:ar}(r:Vals xs us):xs.length=us.length:=XX r
theorem Vals.get:∀{xs:List V} {us:ar} {i:Nat} {x:V},Vals xs us->xs[i]?=bB x->∃u,us[i]?=bB u/\RelV x u
 |_,_,_,_,.nil,e=>by simp at e
 |_,_,0,_,.cons r _,e=>by simp at e;subst e;exact⟨_,rfl,r⟩
 |_,_,i+1,x,.cons _ t,e=>by
  obtain⟨u,h1,h2⟩:=Vals.get (i:=i) (x:=x) t (by simpa using e)
  exact⟨u,by simpa using h1,h2⟩
theorem Vals.set {x:V}{u:Ke}(r:RelV x u):∀{xs:List V} {us:ar} (i:Nat),Vals xs us->Vals (xs.set i x) (us.set i u)
 |_,_,_,.nil=>.nil
 |_,_,0,.cons _ t=>.cons r t
 |_,_,i+1,.cons q t=>.cons q (Vals.set r i t)
theorem Vals.append {xs ys:List V}{us ws:ar}(h:Vals xs us)(s:Vals ys ws):Vals (xs++ys) (us++ws):=by
 induction h with
 |nil=>exact s
 |cons r _ ih=>exact .cons r ih
theorem Vals.take:∀{xs:List V} {us:ar} (n:Nat),Vals xs us->Vals (xs.take n) (us.take n)
 |_,_,0,_=>.nil
 |_,_,_+1,.nil=>.nil
 |_,_,n+1,.cons r t=>.cons r (Vals.take n t)
theorem Vals.drop:∀{xs:List V} {us:ar} (n:Nat),Vals xs us->Vals (xs.drop n) (us.drop n)
 |_,_,0,r=>r
 |_,_,_+1,.nil=>.nil
 |_,_,n+1,.cons _ t=>Vals.drop n t
def RelO:Option V->Option Ke->Prop
 |some v,bB u=>RelV v u
 |none,bC=>True
 |_,_=>False
def KV {κ:Type}:List (κ×V)->List (κ×Value)->Prop:=VB λ(p:κ×V) (q:κ×Value)=>p.1=q.1/\RelV p.2 q.2
def kV:Key->V
 |.inl i=>.int i
 |.inr x=>.str x
inductive HO where
 |lst (xs:List V)
 |tup (xs:List V)
 |dK (kvs:List (Key×V))|dT (kvs:List (List Key×V))
 |set (S:Int->Bool) (n:Nat)
 |ins (C dx:Kg) (fs:List (Str×V))
 |own (x:Kg)
 |xd (fs:List (Str×V))
 |met (f x:Kg)
 |rng (lo hi:Int)
 |frz (o:Obj) (u:HO)
 |tbl (ps:aS)
 |ext (φ:K4->Prop)
noncomputable abbrev Hp:=Kg->Option HO
def upd (H:Hp)(a:Kg)(o:HO):Hp:=λb=>if b=a then bB o else H b
theorem q8 {H:Hp}{a:Kg}{o:HO}:upd H a o a=bB o:=by unfold upd;rw[si rfl]
theorem qK {H:Hp}{a b:Kg}{o:HO}(h:b≠a):upd H a o b=H b:=by unfold upd;rw[sk h]
theorem QT {H:Hp}{a b:Kg}{o:HO}(h:H a=bB o)(h':H b=bC):a≠b:=by
 intro e;subst e;rw[h]at h';cases h'
section
variable (P:KO)(w:K0)
def QF (H:Hp)(h:K4)(a:Kg):HO->Prop
 |.lst xs=>xs.length<=sv/\∃(its:ar) (n:Nat),Vals xs its/\h.get? a=bB { cls:=.type "list", data:=.seq its.toArray n }
 |.tup xs=>xs.length<=sv/\∃its:List Ke,Vals xs its/\IsTup h a its.toArray
 |.dK kvs=>kvs.length<=sv/\(a==sU)=bE/\∃vs,KV kvs vs/\h.DictOf (qcl P w) a vs
 |.dT kvs=>kvs.length<=sv/\(a==sU)=bE/\∃xs:List (List Key×Addr×Value),
   VB (λ(p:List Key×V) (q:List Key×Addr×Value)=>p.1=q.1/\H q.2.1=bB (.tup (p.1.map kV))/\RelV p.2 q.2.2) kvs xs/\
   ∃o es ep,h.get? a=bB o/\o.ExactDict/\o.data=.dict es ep/\es.toList=xs.map (entryOfKey (tupleKind (qcl P w)))/\(xs.map (·.1)).Nodup
 |.set S n=>h.SetOf (tH P w) a S n
 |.ins C dx fs=>H dx=bB (.own a)/\fs.length<=1000/\dx≠a/\h.get? a=bB (ES C dx)/\
   ∃mA,h.Ns1 dx mA/\(∀f,RelO (fs.lookup f) (mA f))/\PySem.Within mA (fs.map (·.1))
 |.own _=>∃o,h.get? a=bB o
 |.xd fs=>∃mA,h.Ns1 a mA/\∀f,RelO (fs.lookup f) (mA f)
 |.rng lo hi=>∃t u v,h.get? a=bB { cls:=.type "range", data:=.fields #[.int lo t,.int hi u,.int 1 v] }
 |.frz o u=>h.get? a=bB o/\QF H h a u
 |.tbl ps=>h.get? a=bB { cls:=.none,data:=.fields ps }
 |.met f x=>h.get? a=bB (Eh (.ref f) (.ref x))
 |.ext φ=>φ h/\(∃o,h.get? a=bB o)/\∀h1 h2:K4,φ h1->(∀o,h1.get? a=bB o->h2.get? a=bB o)->φ h2
def HOk (H:Hp)(h:K4):Prop:=∀a o,H a=bB o->QF P w H h a o
end
section
variable {P:KO}{w:K0}{H H':Hp}{h h':K4}{a:Kg}{o:HO}
theorem QF.lt (x:QF P w H h a o):a<h.objs.size:=by
 cases o with
 |lst xs=>obtain⟨_,_,_,_,e⟩:=x;exact Kz e
 |tup xs=>obtain⟨_,_,_,p⟩:=x;exact p.lt
 |dK kvs=>obtain⟨_,_,_,_,o,_,_,e,_⟩:=x;exact Kz e
 |dT kvs=>obtain⟨_,_,_,_,o,_,_,e,_⟩:=x;exact Kz e
 |set S n=>obtain⟨o,_,_,_,e,_⟩:=x;exact Kz e
 |ins C dx fs=>obtain⟨_,_,_,e,_⟩:=x;exact Kz e
 |own y=>obtain⟨_,e⟩:=x;exact Kz e
 |xd fs=>obtain⟨_,⟨_,_,_,e,_⟩,_⟩:=x;exact Kz e
 |rng lo hi=>obtain⟨_,_,_,e⟩:=x;exact Kz e
 |frz ob u=>obtain⟨e,_⟩:=x;exact Kz e
 |tbl ps=>exact Kz (show h.get? a=bB _ from x)
 |met f y=>exact Kz (show h.get? a=bB _ from x)
 |ext φ=>obtain⟨_,⟨_,e⟩,_⟩:=x;exact Kz e
theorem Paired.mapP {α β:Type}{F G:α->β->Prop}:∀{l₁:List α} {l₂:List β},VB F l₁ l₂->(∀a b,F a b->G a b)->VB G l₁ l₂
 |_,_,.nil,_=>.nil
 |_,_,.cons r t,f=>.cons (f _ _ r) (Paired.mapP t f)
theorem QF.stay (x:QF P w H h a o)(k:∀b u,(b=a\/H b=bB (.own a))->h.get? b=bB u->h'.get? b=bB u)
  (ho:∀b,H b=bB (.own a)->H' b=bB (.own a)) (ht:∀b xs,H b=bB (.tup xs)->H' b=bB (.tup xs)):QF P w H' h' a o:=by
 induction o with
 |lst xs=>obtain⟨z,its,n,r,e⟩:=x;exact⟨z,its,n,r,k _ _ (.inl rfl) e⟩
 |tup xs=>obtain⟨z,its,r,ob,e,c⟩:=x;exact⟨z,its,r,ob,k _ _ (.inl rfl) e,c⟩
 |dK kvs=>obtain⟨z,y,vs,r,ob,es,ep,e,c⟩:=x;exact⟨z,y,vs,r,ob,es,ep,k _ _ (.inl rfl) e,c⟩
 |dT kvs =>
  obtain⟨z,y,xs,r,ob,es,ep,e,c⟩:=x
  exact⟨z,y,xs,Paired.mapP r λp q z=>⟨z.1,ht _ _ z.2.1,z.2.2⟩,ob,es,ep,k _ _ (.inl rfl) e,c⟩
 |set S n=>obtain⟨ob,es,ep,t,e,c⟩:=x;exact⟨ob,es,ep,t,k _ _ (.inl rfl) e,c⟩
 |ins C dx fs =>
  obtain⟨d,z,ne,e,mA,⟨od,es,ep,e2,c⟩,r⟩:=x
  exact⟨ho _ d,z,ne,k _ _ (.inl rfl) e,mA,⟨od,es,ep,k _ _ (.inr d) e2,c⟩,r⟩
 |own y=>obtain⟨ob,e⟩:=x;exact⟨ob,k _ _ (.inl rfl) e⟩
 |xd fs=>obtain⟨mA,⟨od,es,ep,e,c⟩,r⟩:=x;exact⟨mA,⟨od,es,ep,k _ _ (.inl rfl) e,c⟩,r⟩
 |rng lo hi=>obtain⟨t,u,v,e⟩:=x;exact⟨t,u,v,k _ _ (.inl rfl) e⟩
 |frz ob u ih=>obtain⟨e,q⟩:=x;exact⟨k _ _ (.inl rfl) e,ih q⟩
 |tbl ps =>
  have e:h.get? a=bB { cls:=.none,data:=.fields ps }:=x
  show h'.get? a=bB { cls:=.none,data:=.fields ps }
  exact k a _ (.inl rfl) e
 |met f y =>
  have e:h.get? a=bB (Eh (.ref f) (.ref y)):=x
  show h'.get? a=bB (Eh (.ref f) (.ref y))
  exact k a _ (.inl rfl) e
 |ext φ=>obtain⟨p,⟨o,e⟩,st⟩:=x;exact⟨st _ _ p λo q=>k _ _ (.inl rfl) q,⟨o,k _ _ (.inl rfl) e⟩,st⟩
theorem HOk.lt (x:HOk P w H h)(e:H a=bB o):a<h.objs.size:=(x a o e).lt
theorem HOk.fresh (x:HOk P w H h)(e:h.objs.size<=a):H a=bC:=by
 cases q:H a with
 |none=>rfl
 |some u=>exact absurd (Vg (x.lt q) e) (Ud _)
theorem HOk.kept (x:HOk P w H h)(k:∀b u,h.get? b=bB u->h'.get? b=bB u):HOk P w H h':=λa o e =>
 (x a o e).stay (λb u _ q=>k b u q) (λ_ q=>q) λ_ _ q=>q
theorem HOk.laid (x:HOk P w H h)(k:∀b u,h.get? b=bB u->h'.get? b=bB u)(hp:h.objs.size<=a)(new:QF P w (upd H a o) h' a o):HOk P w (upd H a o) h':=λb u e=>by
 have hn:=x.fresh hp
 by_cases hb:b=a
 .subst hb;rw[q8]at e;cases e;exact new
 .rw[qK hb]at e
  exact(x b u e).stay (λc v _ q=>k c v q) (λc q=>by rw[qK (QT q hn)];exact q) λc xs q=>by rw[qK (QT q hn)];exact q
end
def Rd (H:Hp)(a:Kg)(u:HO):Prop:=H a=bB u\/∃o,H a=bB (.frz o u)
theorem Rd.ok {P:KO}{w:K0}{H:Hp}{h:K4}{a:Kg}{u:HO}(r:Rd H a u)(x:HOk P w H h):QF P w H h a u:=by
 rcases r with r|⟨o,r⟩
 .exact x a u r
 .obtain⟨_,q⟩:=x a _ r
  exact q
def Mut:Option HO->Prop
 |some (.lst _)=>True
 |some (.dK _)=>True
 |some (.dT _)=>True
 |some (.set _ _)=>True
 |some (.ins _ _ _)=>True
 |some (.ext _)=>True
 |_=>False
section
variable {P:KO}{w:K0}{H:Hp}{h h':K4}{x e:Kg}{o':HO}
theorem HOk.write (ok:HOk P w H h)(mu:Mut (H x))(he:e=x\/H e=bB (.own x))(k:∀b u,b≠e->h.get? b=bB u->h'.get? b=bB u)(gZ:∃u,h'.get? e=bB u)
  (new:QF P w (upd H x o') h' x o'):HOk P w (upd H x o') h':=λb u q=>by
 have kI:∀c y,H c=bB (.own y)->c≠x:=λc y r z=>by subst z;rw[r]at mu;exact mu
 have mN:∀c xs,H c=bB (.tup xs)->c≠x:=λc xs r z=>by subst z;rw[r]at mu;exact mu
 by_cases hb:b=x
 .subst hb;rw[q8]at q;cases q;exact new
 .rw[qK hb]at q
  by_cases iy:b=e
  .have q':H b=bB (.own x):=by
    rcases he with z|z
    .exact absurd (iy.trans z) hb
    .rw[iy];exact z
   rw[q]at q';cases q'
   obtain⟨v,hv⟩:=gZ
   exact⟨v,by rw[iy];exact hv⟩
  .refine(ok b u q).stay (λc v hc r=>k c v ?_ r) (λc r=>by rw[qK (kI c b r)];exact r) λc xs r=>by rw[qK (mN c xs r)];exact r
   rcases hc with rfl|hc
   .exact iy
   .rintro rfl
    rcases he with z|z
    .exact kI c b hc z
    .rw[hc]at z;cases z;exact hb rfl
end
structure Un (fs ex:aw)(H H':Hp)(h h':K4):Prop where
 keep:∀b o,h.get? b=bB o->H b=bC->b∉fs->b∉ex->h'.get? b=bB o
 slot:∀b o,h.get? b=bB o->H b=bC->b∈fs->b∉ex->∃sl,h'.get? b=bB { o with slots:=sl }
 free:∀b o,h.get? b=bB o->H b=bC->b∉ex->H' b=bC
 there:∀b o,h.get? b=bB o->b∉ex->∃o',h'.get? b=bB o'
 tups:∀b xs,H b=bB (.tup xs)->H' b=bB (.tup xs)
 frzs:∀b o u,H b=bB (.frz o u)->H' b=bB (.frz o u)
 tbls:∀b ps,H b=bB (.tbl ps)->∃more,H' b=bB (.tbl (ps++more))
section
variable {fs fs' ex ex':aw}{H H1 H2:Hp}{h h1 h2 h':K4}{a x e:Kg}{o:HO}
theorem Un.any (u:Un fs ex H H1 h h1){b:Kg}{ob:Obj}(q:h.get? b=bB ob)(n:H b=bC)(hx:b∉ex):∃sl,h1.get? b=bB { ob with slots:=sl }:=by
 by_cases hb:b∈fs
 .exact u.slot b ob q n hb hx
 .exact⟨ob.slots,u.keep b ob q n hb hx⟩
theorem Un.kept (k:∀b u,h.get? b=bB u->h'.get? b=bB u):Un fs ex H H h h' :=
 ⟨λb ob q _ _ _=>k b ob q,λb ob q _ _ _=>⟨ob.slots,k b ob q⟩,λ_ _ _ n _=>n,λb ob q _=>⟨ob,k b ob q⟩,λ_ _ q=>q,λ_ _ _ q=>q,λ_ ps q=>⟨#[],by rw[q];simp⟩⟩
theorem Un.refl:Un fs ex H H h h:=Un.kept λ_ _ q=>q
theorem Un.laid (k:∀b u,h.get? b=bB u->h'.get? b=bB u)(hp:h.objs.size<=a)(hn:H a=bC):Un fs ex H (upd H a o) h h' where
 keep:=λb u q _ _ _=>k b u q
 slot:=λb u q _ _ _=>⟨u.slots,k b u q⟩
 free:=λb u q n _=>by rw[qK (KD (Vg (Kz q) hp))];exact n
 there:=λb u q _=>⟨u,k b u q⟩
 tups:=λb xs q=>by rw[qK (QT q hn)];exact q
 frzs:=λb u xs q=>by rw[qK (QT q hn)];exact q
 tbls:=λb ps q=>⟨#[],by rw[qK (QT q hn),q];simp⟩
theorem Un.write (mu:Mut (H x))(he:e=x\/H e=bB (.own x))(k:∀b u,b≠e->h.get? b=bB u->h'.get? b=bB u)(gZ:∃u,h'.get? e=bB u):Un fs ex H (upd H x o) h h':=by
 have hx:∀b,H b=bC->b≠x:=λb n z=>by subst z;rw[n]at mu;exact mu
 have hb:∀b,H b=bC->b≠e:=λb n z=>by
  subst z
  rcases he with r|r
  .exact hx b n r
  .rw[n]at r;cases r
 have hm:∀b u,H b=bB u->¬Mut (bB u)->b≠x:=λb u q nm z=>by subst z;rw[q]at mu;exact nm mu
 refine⟨λb u q n _ _=>k b u (hb b n) q,λb u q n _ _=>⟨u.slots,k b u (hb b n) q⟩,λb u q n _=>by rw[qK (hx b n)];exact n,λb u q _=>?_,
  λb xs q=>by rw[qK (hm b _ q λz=>z)];exact q,λb u xs q=>by rw[qK (hm b _ q λz=>z)];exact q,λb ps q=>⟨#[],by rw[qK (hm b _ q λz=>z),q];simp⟩⟩
 by_cases iy:b=e
 .subst iy;exact gZ
 .exact⟨u,k b u iy q⟩
end
def trk (h:K4)(H:Hp):List Kg:=(Ku h.objs.size).filter λa=>(H a).isSome
def hidT (h:K4)(H:Hp):K4:=PySem.W.hideAll h (trk h H)
theorem qfQ (h:K4)(H:Hp):(hidT h H).objs.size=h.objs.size:=PySem.W.hideAll_size _ _
theorem qgZ {h:K4}{H:Hp}{b:Kg}{o:Obj}(e:h.get? b=bB o)(n:H b=bC):(hidT h H).get? b=bB o :=
 PySem.W.hideAll_get _ e λhm=>by
  have q:(H b).isSome=bD:=(List.mem_filter.mp hm).2
  rw[n]at q;simp at q
theorem qjr {h:K4}{H:Hp}{b:Kg}{o:Obj}(e:(hidT h H).get? b=bB o):h.get? b=bB o/\H b=bC:=by
 have e':h.get? b=bB o:=PySem.W.of_hideAll (trk h H) e
 refine⟨e',?_⟩
 cases q:H b with
 |none=>rfl
 |some x =>
  have hm:b∈trk h H:=List.mem_filter.mpr ⟨VX.mpr (Kz e'),by simp [q]⟩
  have z:(hidT h H).get? b=bC:=PySem.W.hideAll_none (trk h H) hm
  rw[z]at e;cases e
structure Mod (K:Kd)(mg:aq)(base:K4):Prop where
 kin:K.In base
 glob:base.Ns su mg
 blt:∃mb,base.Ns builtinsNs mb/\∀x:Str,x ≠ "__name__"->mb x=sE x
 nolimit:base.NoLimit
structure Cx where
 prog:KO
 w:K0
 K:Kd
 mg:Str->Option Ke
 base:K4
 A:KZ
 N:List Str
 s₀:Kf
 H₀:Hp
 env:Env
 outer:List Env
 stack:List Env
 ex:List Kg
 fn:Str->Bool
 calm:Bool
 pn:List (Kg×Obj)
 xe:Ke->Kf->Prop
def frs (l:bc):List Kg:=l.filterMap (·.frame)
abbrev Cx.fs (X:Cx):List Kg:=frs X.outer
def Vis (sc:V5)(x:Str):Prop:=sc.names.lookup x=bB .local\/sc.names.lookup x=bB .cell\/sc.names.lookup x=bB .free
def Loc (sc:V5)(x:Str):Prop:=sc.names.lookup x=bB .local\/sc.names.lookup x=bB .cell
def Look (env:Env)(h:K4)(m:aq)(x:Str)(u:Ke):Prop :=
 (env.kindOf x=bB .local/\m x=bB u)\/((env.kindOf x=bB .cell\/env.kindOf x=bB .free)/\∃c,env.cells.lookup x=bB c/\h.IsCell c (bB u))
structure Cx.Ok (X:Cx):Prop where
 mod:Mod X.K X.mg X.base
 kind:X.env.scope.kind=.function
 glob:X.env.globals=su
 blt:X.env.builtins=builtinsNs
 above:X.s₀.heap.objs.size<=X.env.locals
 inj:∀x y c,X.env.cells.lookup x=bB c->X.env.cells.lookup y=bB c->x=y
 has:∀x,(X.env.kindOf x=bB .cell\/X.env.kindOf x=bB .free)->∃c,X.env.cells.lookup x=bB c
 cab:∀x c,X.fn x=bD->X.env.cells.lookup x=bB c->X.s₀.heap.objs.size<=c
 hd:X.calm=bD->X.A.handled=bC
 frames:X.A.frames=bB X.stack
 stk:X.stack=X.outer\/(X.stack=X.env::X.outer/\X.env.frame=bB X.env.locals)
 exf:∀b∈X.ex,b≠X.env.locals/\∀x c,X.env.cells.lookup x=bB c->c≠b
 bs:∀b o,X.base.get? b=bB o->X.s₀.heap.get? b=bB o/\X.H₀ b=bC
 bsz:X.base.objs.size<=X.s₀.heap.objs.size
 noex:∀b o,X.base.get? b=bB o->b∉X.ex
 exfs:∀b∈X.ex,b∉X.fs
 funs:X.s₀.heap.FunFrames X.base X.outer
 frf:∀b∈X.fs,X.H₀ b=bC
structure Inv (X:Cx)(sd:ah)(σ:List (Option V))(H:Hp)(s:Kf):Prop where
 ok:X.Ok
 os:s.os=X.s₀.os
 bare:ND s.gens
 base:Un X.fs X.ex X.H₀ H X.s₀.heap s.heap
 loc:∃m,s.heap.Ns X.env.locals m/\∀(i:Nat) (x:Str) (v:V),X.N[i]?=bB x->σ[i]?=bB (bB v)->Vis X.env.scope x->∃u,RelV v u/\Look X.env s.heap m x u
 cell:∀x c,X.env.cells.lookup x=bB c->∃v,s.heap.IsCell c v
 free:H X.env.locals=bC
 freeC:∀x c,X.env.cells.lookup x=bB c->H c=bC
 pin:∀p∈X.pn++sd,s.heap.get? p.1=bB p.2/\H p.1=bC/\p.1≠X.env.locals/\p.1∉X.fs/\∀v,p.2.data≠.cell v
 hok:HOk X.prog X.w H s.heap
 len:σ.length=X.N.length
section
variable {X:Cx}{sd:ah}{σ:List (Option V)}{H H':Hp}{s:Kf}{h':K4}
theorem Cx.Ok.nofr (ok:X.Ok){b:Kg}{o:Obj}(e:X.base.get? b=bB o):b∉X.fs:=λhb=>by
 have:=(ok.funs.mem hb).1
 rw[e]at this;cases this
theorem Inv.bs (I:Inv X sd σ H s):∀b o,X.base.get? b=bB o->s.heap.get? b=bB o/\H b=bC:=λb o e =>
 ⟨I.base.keep b o (I.ok.bs b o e).1 (I.ok.bs b o e).2 (I.ok.nofr e) (I.ok.noex b o e),I.base.free b o (I.ok.bs b o e).1 (I.ok.bs b o e).2 (I.ok.noex b o e)⟩
theorem Inv.bk (I:Inv X sd σ H s):∀b o,X.base.get? b=bB o->s.heap.get? b=bB o:=λb o e=>(I.bs b o e).1
theorem Inv.mod (I:Inv X sd σ H s):Mod X.K X.mg X.base:=I.ok.mod
theorem Inv.kIn (I:Inv X sd σ H s):X.K.In s.heap:=I.ok.mod.kin.keeps I.bk
theorem Inv.lt (I:Inv X sd σ H s):X.env.locals<s.heap.objs.size:=let ⟨_,hn,_⟩:=I.loc;hn.lt
theorem Inv.sz (I:Inv X sd σ H s):X.s₀.heap.objs.size<=s.heap.objs.size:=Vx I.ok.above (VL I.lt)
theorem Inv.nofs (I:Inv X sd σ H s){a:Kg}(h:s.heap.objs.size<=a):a∉X.fs:=λhb=>by
 obtain⟨_,o,ho,_⟩:=I.ok.funs.mem hb
 exact absurd (Vg (Kz ho) (Vx I.sz h)) (Ud _)
theorem Inv.cne (I:Inv X sd σ H s):∀x c,X.env.cells.lookup x=bB c->c≠X.env.locals:=λx c e z=>by
 obtain⟨v,o,ho,hd⟩:=I.cell x c e
 obtain⟨m,⟨o',es,ep,fv,hd',_⟩,_⟩:=I.loc
 rw[z,fv]at ho;cases ho;rw[hd']at hd;cases hd
theorem Inv.funs (I:Inv X sd σ H s):s.heap.FunFrames X.base X.outer:=by
 have all:∀(l:bc),(∀b∈frs l,b∈X.fs)->X.s₀.heap.FunFrames X.base l->s.heap.FunFrames X.base l:=by
  intro l
  induction l with
  |nil=>intro _ _;trivial
  |cons env r ih =>
   intro hs hl
   obtain⟨hk,⟨L,o,hf,hn,ho,hd⟩,hr⟩:=hl
   have hL:L∈X.fs:=hs L (by unfold frs;rw[X2,hf];exact VO)
   obtain⟨sl,e⟩:=I.base.slot L o ho (I.ok.frf L hL) hL λz=>I.ok.exfs L z hL
   exact⟨hk,⟨L,_,hf,hn,e,hd⟩,ih (λb hb=>hs b (by unfold frs;rw[X2,hf];exact KS _ hb)) hr⟩
 exact all X.outer (λ_ hb=>hb) I.ok.funs
theorem Inv.stack (I:Inv X sd σ H s):s.heap.FunFrames X.base X.stack:=by
 rcases I.ok.stk with e|⟨e,hf⟩
 .rw[e];exact I.funs
 .rw[e]
  obtain⟨m,hn,_⟩:=I.loc
  refine .cons (by rw[I.ok.kind];decide) hf hn ?_ I.funs
  exact Heap.get?_none_of_le (Vx I.ok.bsz I.ok.above)
theorem Inv.stkSub (I:Inv X sd σ H s):∀b∈frs X.stack,b∈X.env.locals::X.fs:=λb hb=>by
 rcases I.ok.stk with e|⟨e,hf⟩
 .rw[e]at hb;exact KS _ hb
 .rw[e]at hb
  unfold frs at hb
  rw[X2,hf]at hb
  exact hb
theorem Inv.stkFree (I:Inv X sd σ H s):∀b∈frs X.stack,H b=bC:=λb hb=>by
 rcases Ko.mp (I.stkSub b hb) with e|hb
 .rw[e];exact I.free
 .obtain⟨_,o,ho,_⟩:=I.ok.funs.mem hb
  exact I.base.free b o ho (I.ok.frf b hb) λz=>I.ok.exfs b z hb
theorem Inv.step {g':Array GenState}{t':Nat}{d':Drawn}{ch:aw}(I:Inv X sd σ H s)
  (gh:∀b∈ch,(b∈X.ex\/X.s₀.heap.objs.size<=b)/\b≠X.env.locals/\(∀x c,X.env.cells.lookup x=bB c->c≠b)/\∀p∈X.pn++sd,p.1≠b)
  (keep:∀b o,b≠X.env.locals->b∉X.fs->b∉ch->s.heap.get? b=bB o->H b=bC->h'.get? b=bB o)
  (slot:∀b o,b≠X.env.locals->b∈X.fs->b∉ch->s.heap.get? b=bB o->H b=bC->∃sl,h'.get? b=bB { o with slots:=sl }) (free:∀b o,b∉ch->s.heap.get? b=bB o->H b=bC->H' b=bC)
  (there:∀b o,b∉ch->s.heap.get? b=bB o->∃o',h'.get? b=bB o')
  (tups:∀b xs,H b=bB (.tup xs)->H' b=bB (.tup xs)) (frzs:∀b o u,H b=bB (.frz o u)->H' b=bB (.frz o u)) (tbls:∀b ps,H b=bB (.tbl ps)->∃more,H' b=bB (.tbl (ps++more)))
  (ns:∀m,s.heap.Ns X.env.locals m->h'.Ns X.env.locals m) (hok:HOk X.prog X.w H' h') (hg:ND g'):
  Inv X sd σ H' { s with heap:=h',gens:=g',drawn:=d',toks:=t' }:=by
 have oG:∀b o,X.s₀.heap.get? b=bB o->b≠X.env.locals:=λb o e=>KD (Vg (Kz e) I.ok.above)
 have lX:∀b o,X.s₀.heap.get? b=bB o->b∉X.ex->b∉ch:=λb o e hx hb=>by
  rcases(gh b hb).1 with z|z
  .exact hx z
  .exact absurd (Vg (Kz e) z) (Ud _)
 have cellK:∀x c,X.env.cells.lookup x=bB c->∀v,s.heap.IsCell c v->h'.IsCell c v:=λx c e v ⟨o,ho,hd⟩=>by
  have kJ:c∉ch:=λz=>(gh c z).2.2.1 x c e rfl
  by_cases hc:c∈X.fs
  .obtain⟨sl,q⟩:=slot c o (I.cne x c e) hc kJ ho (I.freeC x c e)
   exact⟨_,q,hd⟩
  .exact⟨o,keep c o (I.cne x c e) hc kJ ho (I.freeC x c e),hd⟩
 refine⟨I.ok,I.os,hg,⟨λb o e n hb hx=>?_,λb o e n hb hx=>?_,λb o e n hx=>?_,λb o e hx=>?_,λb xs e=>tups b xs (I.base.tups b xs e),λb o xs e=>frzs b o xs (I.base.frzs b o xs e),λb ps e=>?_⟩,?_,λx c e=>?_,?_,λx c e=>?_,λp hp=>?_,hok,I.len⟩
 .exact keep b o (oG b o e) hb (lX b o e hx) (I.base.keep b o e n hb hx) (I.base.free b o e n hx)
 .obtain⟨sl,e1⟩:=I.base.slot b o e n hb hx
  obtain⟨mO,e2⟩:=slot b _ (oG b o e) hb (lX b o e hx) e1 (I.base.free b o e n hx)
  exact⟨mO,e2⟩
 .obtain⟨o',e1⟩:=I.base.there b o e hx
  exact free b o' (lX b o e hx) e1 (I.base.free b o e n hx)
 .obtain⟨o',e1⟩:=I.base.there b o e hx
  exact there b o' (lX b o e hx) e1
 .obtain⟨m1,e1⟩:=I.base.tbls b ps e
  obtain⟨m2,e2⟩:=tbls b _ e1
  exact⟨m1++m2,by rw[e2,Array.append_assoc]⟩
 .obtain⟨m,hn,hl⟩:=I.loc
  refine⟨m,ns m hn,λi x v e1 e2 e3=>?_⟩
  obtain⟨u,r,l⟩:=hl i x v e1 e2 e3
  refine⟨u,r,?_⟩
  rcases l with l|⟨k,c,e,z⟩
  .exact .inl l
  .exact .inr ⟨k,c,e,cellK x c e _ z⟩
 .obtain⟨v,z⟩:=I.cell x c e
  exact⟨v,cellK x c e v z⟩
 .obtain⟨m,⟨o,_,_,ho,_⟩,_⟩:=I.loc
  exact free _ o (λz=>(gh _ z).2.1 rfl) ho I.free
 .obtain⟨v,o,ho,hd⟩:=I.cell x c e
  exact free c o (λz=>(gh c z).2.2.1 x c e rfl) ho (I.freeC x c e)
 .obtain⟨e,n,ne,nf,d⟩:=I.pin p hp
  have kJ:p.1∉ch:=λz=>(gh p.1 z).2.2.2 p hp rfl
  exact⟨keep p.1 p.2 ne nf kJ e n,free p.1 p.2 kJ e n,ne,nf,d⟩
theorem Inv.un {t':Nat}(I:Inv X sd σ H s)(u:Un X.fs [] H H' s.heap h')(hok:HOk X.prog X.w H' h'):Inv X sd σ H' { s with heap:=h',toks:=t' }:=by
 obtain⟨m,⟨o,es,ep,ho,r⟩,_⟩:=id I.loc
 obtain⟨sl,hL⟩:=u.any ho I.free '+'
 exact I.step (g':=s.gens) (d':=s.drawn) (ch:=[]) (λ_ z=>nomatch z) (λb o _ hb _ e n=>u.keep b o e n hb '+') (λb o _ hb _ e n=>u.slot b o e n hb '+') (λb o _ e n=>u.free b o e n '+') (λb o _ e=>u.there b o e '+') u.tups u.frzs u.tbls (λm' hm=>by
  obtain⟨o',fg,c6,fv,r'⟩:=hm
  rw[ho]at fv;cases fv
  exact⟨_,fg,c6,hL,r'⟩) hok I.bare
theorem Inv.call {g':Array GenState}{t':Nat}{d':Drawn}{ch:aw}(I:Inv X sd σ H s)(u:Un (frs X.stack) ch H H' s.heap h')(hok:HOk X.prog X.w H' h')(hg:ND g')
  (gh:∀b∈ch,(b∈X.ex\/X.s₀.heap.objs.size<=b)/\b≠X.env.locals/\(∀x c,X.env.cells.lookup x=bB c->c≠b)/\∀p∈X.pn++sd,p.1≠b):
  Inv X sd σ H' { s with heap:=h',gens:=g',drawn:=d',toks:=t' }:=by
 obtain⟨m,⟨o,es,ep,ho,r⟩,_⟩:=id I.loc
 obtain⟨sl,hL⟩:=u.any ho I.free λz=>(gh _ z).2.1 rfl
 exact I.step (ch:=ch) gh (λb o hL hb hc e n=>u.keep b o e n (λz=>(Ko.mp (I.stkSub b z)).elim hL hb) hc) (λb o _ _ hc e n=>u.any e n hc) (λb o hc e n=>u.free b o e n hc) (λb o hc e=>u.there b o e hc) u.tups u.frzs u.tbls (λm' hm=>by
  obtain⟨o',fg,c6,fv,r'⟩:=hm
  rw[ho]at fv;cases fv
  exact⟨_,fg,c6,hL,r'⟩) hok hg
theorem Inv.turned {t':Nat}{it:Kg}(I:Inv X sd σ H s)(k:∀b o,b≠it->s.heap.get? b=bB o->h'.get? b=bB o)(hn:H it=bC)(hL:it≠X.env.locals)
  (h1:it∈X.ex\/X.s₀.heap.objs.size<=it) (h2:∀x c,X.env.cells.lookup x=bB c->c≠it) (h3:∀p∈X.pn++sd,p.1≠it):Inv X sd σ H { s with heap:=h',toks:=t' }:=by
 have g6:∀b u,H b=bB u->b≠it:=λb u e z=>by rw[z,hn]at e;cases e
 refine I.step (g':=s.gens) (d':=s.drawn) (ch:=[it]) (λb hb=>?_) (λb o _ _ hc e _=>k b o (λz=>hc (by simp [z])) e) (λb o _ _ hc e _=>⟨o.slots,k b o (λz=>hc (by simp [z])) e⟩) (λ_ _ _ _ n=>n)
  (λb o hc e=>⟨o,k b o (λz=>hc (by simp [z])) e⟩) (λ_ _ e=>e) (λ_ _ _ e=>e) (λb ps e=>⟨#[],by rw[e];simp⟩) (λm hm=>?_) (λb u e=>?_) I.bare
 .have e:b=it:=by simpa using hb
  subst e
  exact⟨h1,hL,h2,h3⟩
 .obtain⟨o,es,ep,ho,r⟩:=hm
  exact⟨o,es,ep,k _ o (V6 hL) ho,r⟩
 .refine(I.hok b u e).stay (λc v hc q=>k c v ?_ q) (λ_ q=>q) λ_ _ q=>q
  rcases hc with z|z
  .rw[z];exact g6 b u e
  .exact g6 c _ z
theorem Inv.tok (I:Inv X sd σ H s)(t:Nat):Inv X sd σ H { s with toks:=t }:=I.un (h':=s.heap) (t':=t) Un.refl I.hok
theorem Inv.kept {t':Nat}(I:Inv X sd σ H s)(k:∀b u,s.heap.get? b=bB u->h'.get? b=bB u):Inv X sd σ H { s with heap:=h',toks:=t' }:=I.un (Un.kept k) (I.hok.kept k)
theorem Inv.laid {a:Kg}{o:HO}{t':Nat}(I:Inv X sd σ H s)(k:∀b u,s.heap.get? b=bB u->h'.get? b=bB u)(hp:s.heap.objs.size<=a)(new:QF X.prog X.w (upd H a o) h' a o):
  Inv X sd σ (upd H a o) { s with heap:=h',toks:=t' }:=I.un (Un.laid k hp (I.hok.fresh hp)) (I.hok.laid k hp new)
theorem Inv.write {x e:Kg}{o:HO}{t':Nat}(I:Inv X sd σ H s)(mu:Mut (H x))(he:e=x\/H e=bB (.own x))(k:∀b u,b≠e->s.heap.get? b=bB u->h'.get? b=bB u)(gZ:∃u,h'.get? e=bB u)
  (new:QF X.prog X.w (upd H x o) h' x o):Inv X sd σ (upd H x o) { s with heap:=h',toks:=t' }:=I.un (Un.write mu he k gZ) (I.hok.write mu he k gZ new)
theorem Inv.pins_of {g7:ah}(I:Inv X sd σ H s)(h:∀p∈g7,s.heap.get? p.1=bB p.2/\H p.1=bC/\p.1≠X.env.locals/\p.1∉X.fs/\∀v,p.2.data≠.cell v):Inv X g7 σ H s :=
 ⟨I.ok,I.os,I.bare,I.base,I.loc,I.cell,I.free,I.freeC,λp hp=>(K6.mp hp).elim (λz=>I.pin p (Vi _ z)) (h p),I.hok,I.len⟩
theorem qdr {N:aA}(hN:N.Nodup){i j:Nat}{x:Str}(a:N[i]?=bB x)(b:N[j]?=bB x):i=j:=by
 obtain⟨h1,e1⟩:=KW.mp a
 obtain⟨h2,e2⟩:=KW.mp b
 exact(List.getElem_inj hN).mp (e1.trans e2.symm)
theorem qbD {M:Model}{A:KZ}{E:ag}{i:Nat}{x:Str}{v:V}{u:Ke}{Q:Unit->Kf->Prop}(I:Inv X sd σ H s)(hN:X.N.Nodup)(hi:X.N[i]?=bB x)(hx:Loc X.env.scope x)(r:RelV v u)
  (h:∀s',Inv X sd (σ.set i (bB v)) H s'->(∃a,V7 a s.heap s'.heap/\(a=X.env.locals\/X.env.cells.lookup x=bB a))->Q () s') (hf:X.fn x=bD\/X.env.scope.names.lookup x=bB .local:=by first|exact .inl rfl|exact .inr rfl|assumption):sm M A (storeName X.env x u) Q E s:=by
 obtain⟨m,hn,hl⟩:=id I.loc
 have mP:(X.env.scope.kind==.class||(X.env.scope.kind==.module&&X.env.locals != X.env.globals))=bE:=by rw[I.ok.kind];rfl
 have kK:i<σ.length:=by rw[I.len];exact(KW.mp hi).1
 have cne:=I.cne
 have tracked:∀{a:Kg} {h':K4},(∃o,s.heap.get? a=bB o/\H a=bC)->V7 a s.heap h'->HOk X.prog X.w H h':=λ{a h'} ha hs b ob e=>by
  obtain⟨_,_,g8⟩:=ha
  refine(I.hok b ob e).stay (λc w' hc q=>(hs.2 c ?_).trans q) (λ_ q=>q) λ_ _ q=>q
  rintro rfl
  rcases hc with rfl|hc
  .rw[g8]at e;cases e
  .rw[g8]at hc;cases hc
 rcases hx with hk|hk
 .refine wpAny_storeName_local hk hn (λh' hn' hs=>?_) mP
  obtain⟨oL,_,_,hoL,_⟩:=id hn
  refine h _ ⟨I.ok,I.os,I.bare,⟨λb o e n hb hx=>?_,λb o e n hb hx=>?_,I.base.free,λb o e hx=>?_,I.base.tups,I.base.frzs,I.base.tbls⟩,⟨_,hn',λj y v' e1 e2 e3=>?_⟩,λy c e=>?_,I.free,I.freeC,λp hp=>?_,tracked ⟨oL,hoL,I.free⟩ hs,by simpa using I.len⟩ ⟨_,hs,.inl rfl⟩
  .exact(hs.2 b (KD (Vg (Kz e) I.ok.above))).trans (I.base.keep b o e n hb hx)
  .obtain⟨sl,e1⟩:=I.base.slot b o e n hb hx
   exact⟨sl,(hs.2 b (KD (Vg (Kz e) I.ok.above))).trans e1⟩
  .obtain⟨o',e1⟩:=I.base.there b o e hx
   exact⟨o',(hs.2 b (KD (Vg (Kz e) I.ok.above))).trans e1⟩
  .by_cases hj:j=i
   .subst hj
    rw[hi]at e1;cases e1
    rw[Vv kK]at e2
    cases e2
    exact⟨u,r,.inl ⟨hk,by simp⟩⟩
   .rw[UK (V6 hj)]at e2
    obtain⟨u',r',q⟩:=hl j y v' e1 e2 e3
    refine⟨u',r',?_⟩
    rcases q with ⟨k,e⟩|⟨k,c,e,z⟩
    .refine .inl ⟨k,?_⟩
     have:y≠x:=λe=>hj (qdr hN e1 (e ▸ hi))
     simp [this,e]
    .exact .inr ⟨k,c,e,z.sameBut hs (cne y c e)⟩
  .obtain⟨w',z⟩:=I.cell y c e
   exact⟨w',z.sameBut hs (cne y c e)⟩
  .obtain⟨e,n,ne,nf,d⟩:=I.pin p hp
   exact⟨(hs.2 p.1 ne).trans e,n,ne,nf,d⟩
 .have mQ:X.fn x=bD:=by
   rcases hf with z|z
   .exact z
   .rw[z]at hk;cases hk
  obtain⟨c,hc⟩:=I.ok.has x (.inl hk)
  obtain⟨w',z⟩:=I.cell x c hc
  refine wpAny_storeName_cell I.ok.kind hk hc z (λh' oH hs=>?_)
  obtain⟨oc,oI,mR⟩:=id z
  refine h { s with heap:=h' } ⟨I.ok,I.os,I.bare,⟨λb o e n hb hx=>?_,λb o e n hb hx=>?_,I.base.free,λb o e hx=>?_,I.base.tups,I.base.frzs,I.base.tbls⟩,⟨m,hn.sameBut hs (V6 (cne x c hc)),λj y v' e1 e2 e3=>?_⟩,λy c' e=>?_,I.free,I.freeC,λp hp=>?_,tracked ⟨oc,oI,I.freeC x c hc⟩ hs,by simpa using I.len⟩ ⟨c,hs,.inr hc⟩
  .exact(hs.2 b (KD (Vg (Kz e) (I.ok.cab x c mQ hc)))).trans (I.base.keep b o e n hb hx)
  .obtain⟨sl,e1⟩:=I.base.slot b o e n hb hx
   exact⟨sl,(hs.2 b (KD (Vg (Kz e) (I.ok.cab x c mQ hc)))).trans e1⟩
  .obtain⟨o',e1⟩:=I.base.there b o e hx
   exact⟨o',(hs.2 b (KD (Vg (Kz e) (I.ok.cab x c mQ hc)))).trans e1⟩
  .by_cases hj:j=i
   .subst hj
    rw[hi]at e1;cases e1
    rw[Vv kK]at e2
    cases e2
    exact⟨u,r,.inr ⟨.inl hk,c,hc,oH⟩⟩
   .rw[UK (V6 hj)]at e2
    obtain⟨u',r',q⟩:=hl j y v' e1 e2 e3
    refine⟨u',r',?_⟩
    rcases q with q|⟨k,c',e,z'⟩
    .exact .inl q
    .refine .inr ⟨k,c',e,z'.sameBut hs ?_⟩
     rintro rfl
     exact hj (qdr hN e1 (I.ok.inj _ _ _ e hc ▸ hi))
  .by_cases fy:c'=c
   .subst fy;exact⟨_,oH⟩
   .obtain⟨w2,z2⟩:=I.cell y c' e
    exact⟨w2,z2.sameBut hs fy⟩
  .obtain⟨e,n,ne,nf,d⟩:=I.pin p hp
   refine⟨(hs.2 p.1 ?_).trans e,n,ne,nf,d⟩
   intro q
   rw[q,oI]at e
   have q':oc=p.2:=Ut e
   exact d w' (by rw[←q'];exact mR)
theorem qdX {M:Model}{A:KZ}{E:ag}{i:Nat}{x:Str}{v:V}{u:Ke}{Q:Unit->Kf->Prop}(I:Inv X sd σ H s)(hN:X.N.Nodup)(hi:X.N[i]?=bB x)(hx:Loc X.env.scope x)(r:RelV v u)
  (h:∀s',Inv X sd (σ.set i (bB v)) H s'->Q () s') (hf:X.fn x=bD\/X.env.scope.names.lookup x=bB .local:=by first|exact .inl rfl|exact .inr rfl|assumption):sm M A (storeName X.env x u) Q E s :=
 qbD I hN hi hx r (λs' I' _=>h s' I') hf
theorem Inv.call' {s':Kf}{ch:aw}(I:Inv X sd σ H s)(ho:s'.os=s.os)(u:Un (frs X.stack) ch H H' s.heap s'.heap)(hok:HOk X.prog X.w H' s'.heap)(hg:ND s'.gens)
  (gh:∀b∈ch,(b∈X.ex\/X.s₀.heap.objs.size<=b)/\b≠X.env.locals/\(∀x c,X.env.cells.lookup x=bB c->c≠b)/\∀p∈X.pn++sd,p.1≠b):Inv X sd σ H' s':=by
 obtain⟨h',g',d',t',o'⟩:=s'
 have e:o'=s.os:=ho
 subst e
 exact I.call (g':=g') (t':=t') (d':=d') u hok hg gh
end
abbrev XK:=Ke->Option Kg->Hp->Prop
noncomputable abbrev St:=List (Option V)
abbrev VK:=V->Hp->Prop
abbrev bw:=List V->Hp->VK->Prop
abbrev bj:=V->List V->Hp->VK->Prop
abbrev aR:=V->Option Int->Option Int->Hp->VK->Prop
abbrev TE:=St->Hp->VK->Prop
abbrev TT:=St->Hp->(Bool->Hp->Prop)->Prop
abbrev TA:=St->Hp->(List V->Hp->Prop)->Prop
structure Ends where
 nx:St->Hp->Prop
 rt:VK
 bk:St->Hp->Prop:=λ_ _=>False
 ct:St->Hp->Prop:=λ_ _=>False
abbrev TS:=Ends->St->Hp->Prop
def EP (X:Cx)(sd:ah)(σ:St)(Q:VK)(u:Ke)(s':Kf):Prop:=∃v H',Inv X sd σ H' s'/\RelV v u/\Q v H'
def TP (X:Cx)(sd:ah)(σ:St)(Q:Bool->Hp->Prop)(b:Bool)(s':Kf):Prop:=∃H',Inv X sd σ H' s'/\Q b H'
def AP (X:Cx)(sd:ah)(σ:St)(Q:List V->Hp->Prop)(us:ar)(s':Kf):Prop:=∃vs H',Inv X sd σ H' s'/\Vals vs us/\Q vs H'
def SP (X:Cx)(sd:ah)(D:Ends)(f:Flow)(s':Kf):Prop :=
 match f with
 |.next=>∃ σ' H',Inv X sd σ' H' s'/\D.nx σ' H'
 |.brk=>∃ σ' H',Inv X sd σ' H' s'/\D.bk σ' H'
 |.cont=>∃ σ' H',Inv X sd σ' H' s'/\D.ct σ' H'
 |.ret u=>∃v σ' H',Inv X sd σ' H' s'/\RelV v u/\D.rt v H'
def PE (X:Cx)(e:KI)(t:TE):Prop :=
 ∀(sd:ah) (s:Kf) (σ:St) (H:Hp) (Q:VK),Inv X sd σ H s->t σ H Q->sm (model X.prog X.w) X.A (eval e X.env) (EP X sd σ Q) X.xe s
def PT (X:Cx)(e:KI)(t:TT):Prop :=
 ∀(sd:ah) (s:Kf) (σ:St) (H:Hp) (Q:Bool->Hp->Prop),Inv X sd σ H s->t σ H Q->sm (model X.prog X.w) X.A (isTrue e X.env (eval e X.env)) (TP X sd σ Q) X.xe s
def PW (X:Cx)(e:KI)(t:TT):Prop :=
 ∀(whole:Sem Ke) (sd:ah) (s:Kf) (σ:St) (H:Hp) (Q:Bool->Hp->Prop),Inv X sd σ H s->t σ H Q->sm (model X.prog X.w) X.A (isTrue e X.env whole) (TP X sd σ Q) X.xe s
theorem PW.pt {X:Cx}{e:KI}{t:TT}(h:PW X e t):PT X e t:=h _
def PA (X:Cx)(es:aH)(t:TA):Prop :=
 ∀(pos:Pos) (sd:ah) (s:Kf) (σ:St) (H:Hp) (Q:List V->Hp->Prop),Inv X sd σ H s->t σ H Q->sm (model X.prog X.w) X.A (spliced (sG pos (sj es X.env))) (AP X sd σ Q) X.xe s
def PS (X:Cx)(st:Ve)(t:TS):Prop :=
 ∀(sd:ah) (s:Kf) (σ:St) (H:Hp) (D:Ends),Inv X sd σ H s->t D σ H->sm (model X.prog X.w) X.A (exec st X.env) (SP X sd D) X.xe s
def PSs (X:Cx)(st:bz)(t:TS):Prop :=
 ∀(sd:ah) (s:Kf) (σ:St) (H:Hp) (D:Ends),Inv X sd σ H s->t D σ H->sm (model X.prog X.w) X.A (execs st X.env) (SP X sd D) X.xe s
theorem thn {α:Type}{t:Sem α}{Q Q':α->Kf->Prop}{M:Model}{A:KZ}{E:ag}{s:Kf}(h:sm M A t Q E s)(hQ:∀a s,Q a s->Q' a s):sm M A t Q' E s:=Uy h hQ λ_ _ x=>x
section
variable {X:Cx}
def tVar (i:Nat):TE:=λσ H Q=>∃v,σ[i]?=bB (bB v)/\Q v H
def tC (v:V):TE:=λ_ H Q=>Q v H
theorem qhS {i:Nat}{x:Str}{pos:Pos}(hN:X.N[i]?=bB x)(hv:Vis X.env.scope x)(hd:(x==("__debug__" : Str))=bE:=by decide)(dD:(x==("__classdict__" : Str))=bE:=by decide):PE X (.Name x pos) (tVar i):=by
 intro sd s σ H Q I h
 obtain⟨v,e,h⟩:=h
 obtain⟨m,hn,hl⟩:=I.loc
 obtain⟨u,r,l⟩:=hl i x v hN e hv
 have fin:EP X sd σ Q u s:=⟨v,H,I,r,h⟩
 rcases l with ⟨hk,hm⟩|⟨hk,c,hc,g9⟩
 .exact wpAny_Name (wpAny_loadName_local I.ok.kind hk hn hm fin) hd
 .rcases hk with hk|hk
  .exact wpAny_Name (wpAny_loadName_cell I.ok.kind hk hc g9 fin) hd
  .exact wpAny_Name (wpAny_loadName_free I.ok.kind hk hc g9 fin dD) hd
theorem qlw {i j pos}:PE X (.Constant (.int i) j pos) (tC (.int i)):=λ_ _ _ H _ I h=>wpAny_Constant_int ⟨.int i,H,I.tok _,⟨_,rfl⟩,h⟩
theorem pe_bl {b j pos}:PE X (.Constant (.bool b) j pos) (tC (.bl b)):=λ_ _ _ H _ I h=>Constant_bool ⟨.bl b,H,I,rfl,h⟩
theorem qlx {j pos}:PE X (.Constant .none j pos) (tC .non):=λ_ _ _ H _ I h=>Constant_none ⟨.non,H,I,rfl,h⟩
theorem qhR {x j pos}:PE X (.Constant (.str x) j pos) (tC (.str x)):=λ_ _ _ H _ I h=>Calls.Constant_str ⟨.str x,H,I.tok _,⟨_,rfl⟩,h⟩
def Gl (X:Cx)(x:Str):Prop:=X.env.kindOf x=bB .globalImplicit
theorem qfh {E:ag}{sd:ah}{s:Kf}{σ:St}{H:Hp}{x:Str}{u:Ke}{pos:Pos}{Q:ag}(I:Inv X sd σ H s)(hg:Gl X x)(hm:X.mg x=bB u)(h:Q u s)
  (hd:(x==("__debug__" : Str))=bE:=by decide):sm (model X.prog X.w) X.A (eval (.Name x pos) X.env) Q E s :=
 Calls.Name_function_global I.ok.kind hg (Calls.loadGlobal_global (by rw[I.ok.glob];exact I.mod.glob.keeps I.bk) hm h) hd
theorem wN {E:ag}{sd:ah}{s:Kf}{σ:St}{H:Hp}{x:Str}{u:Ke}{pos:Pos}{Q:ag}(I:Inv X sd σ H s)(hg:Gl X x)(hm:X.mg x=bC)(hv:sE x=bB u)(h:Q u s)
  (hn:x ≠ "__name__" := by decide) (hd:(x==("__debug__" : Str))=bE:=by decide):sm (model X.prog X.w) X.A (eval (.Name x pos) X.env) Q E s:=by
 obtain⟨mb,h1,h2⟩:=I.mod.blt
 exact Calls.Name_function_global I.ok.kind hg (Calls.loadGlobal_builtin (by rw[I.ok.glob];exact I.mod.glob.keeps I.bk) hm (by rw[I.ok.blt];exact h1.keeps I.bk) ((h2 x hn).trans hv) h) hd
theorem qjF {x:Str}{v:V}{u:Ke}{pos:Pos}(hg:Gl X x)(hm:X.mg x=bB u)(r:RelV v u)(hd:(x==("__debug__" : Str))=bE:=by decide):PE X (.Name x pos) (tC v) :=
 λ_ _ _ H _ I h=>qfh I hg hm ⟨v,H,I,r,h⟩ hd
theorem qjD {x:Str}{v:V}{u:Ke}{pos:Pos}(hg:Gl X x)(hm:X.mg x=bC)(hv:sE x=bB u)(r:RelV v u)(hn:x ≠ "__name__" := by decide)(hd:(x==("__debug__" : Str))=bE:=by decide):PE X (.Name x pos) (tC v) :=
 λ_ _ _ H _ I h=>wN I hg hm hv ⟨v,H,I,r,h⟩ hn hd
variable {a b:KI}{ta tb:TE}{pos:Pos}
def tB (t:TE):TT:=λσ H Q=>t σ H λx H1=>∃c,x=.bl c/\Q c H1
theorem qlK {e:KI}{t:TE}(h:PE X e t)(he:∀whole,isTrue e X.env whole=(do let v ←whole;standAt e.pos;holding [v] (truthy v)):=by intro _;rfl):PT X e (tB t):=by
 intro sd s σ H Q I hw
 refine isTrue_plain (thn (h sd s σ H _ I hw) λv s1 ⟨x,H1,I1,r1,q1⟩=>?_) (he _)
 obtain⟨d,rfl,q⟩:=q1
 cases r1
 exact VU ⟨H1,I1,q⟩
variable {tA lY:TT}{rest:aH}
def tAnd (t u:TT):TT:=λσ H Q=>t σ H λc H1=>if c=bD then u σ H1 Q else Q bE H1
def tOr (t u:TT):TT:=λσ H Q=>t σ H λc H1=>if c=bD then Q bD H1 else u σ H1 Q
def tNot (t:TT):TT:=λσ H Q=>t σ H λc H1=>Q (!c) H1
theorem qjQ (ha:PT X a tA):PW X (.BoolOp .And [a] pos) tA:=by
 intro wh sd s σ H Q I h
 refine isTrue_and (thn (ha sd s σ H Q I h) λc s1 e=>?_)
 cases c with
 |true=>exact isTrue_and_nil e
 |false=>exact e
theorem qlN (ha:PT X a tA):PW X (.BoolOp .Or [a] pos) tA:=by
 intro wh sd s σ H Q I h
 refine isTrue_or (thn (ha sd s σ H Q I h) λc s1 e=>?_)
 cases c with
 |false=>exact isTrue_or_nil e
 |true=>exact e
theorem qlM (ha:PT X a tA)(hb:PW X (.BoolOp .And (b::rest) pos) lY):PW X (.BoolOp .And (a::b::rest) pos) (tAnd tA lY):=by
 intro wh sd s σ H Q I h
 refine isTrue_and (thn (ha sd s σ H _ I h) λc s1 ⟨H1,I1,q1⟩=>?_)
 cases c with
 |true=>exact hb wh sd s1 σ H1 Q I1 q1
 |false=>exact⟨H1,I1,q1⟩
theorem pw_or (ha:PT X a tA)(hb:PW X (.BoolOp .Or (b::rest) pos) lY):PW X (.BoolOp .Or (a::b::rest) pos) (tOr tA lY):=by
 intro wh sd s σ H Q I h
 refine isTrue_or (thn (ha sd s σ H _ I h) λc s1 ⟨H1,I1,q1⟩=>?_)
 cases c with
 |true=>exact⟨H1,I1,q1⟩
 |false=>exact hb wh sd s1 σ H1 Q I1 q1
theorem qlJ (ha:PT X a tA):PT X (.UnaryOp .Not a pos) (tNot tA):=by
 intro sd s σ H Q I h
 exact isTrue_not (ha sd s σ H (λc H1=>Q (!c) H1) I h)
def tAndV (ta tb:TE):TE:=λσ H Q=>ta σ H λx H1=>∃c,x=.bl c/\if c=bD then tb σ H1 Q else Q (.bl bE) H1
def tNotV (ta:TE):TE:=λσ H Q=>ta σ H λx H1=>∃c,x=.bl c/\Q (.bl (!c)) H1
theorem qlz {op}{t:TE}(h:PE X a t):PE X (.BoolOp op [a] pos) t:=λsd s σ H Q I hw=>BoolOp_one (h sd s σ H Q I hw)
theorem qlv (ha:PE X a ta)(hb:PE X (.BoolOp .And (b::rest) pos) tb):PE X (.BoolOp .And (a::b::rest) pos) (tAndV ta tb):=by
 intro sd s σ H Q I h
 refine BoolOp_and (thn (ha sd s σ H _ I h) λv s1 ⟨x,H1,I1,r1,q1⟩=>?_)
 obtain⟨c,rfl,q1⟩:=q1
 cases r1
 refine VU ?_
 cases c with
 |true=>exact hb sd s1 σ H1 Q I1 q1
 |false=>exact⟨.bl bE,H1,I1,rfl,q1⟩
theorem qly (ha:PE X a ta):PE X (.UnaryOp .Not a pos) (tNotV ta):=by
 intro sd s σ H Q I h
 refine UnaryOp_ (thn (ha sd s σ H _ I h) λv s1 ⟨x,H1,I1,r1,q1⟩=>?_)
 obtain⟨c,rfl,q1⟩:=q1
 cases r1
 exact not_of (VU ⟨.bl (!c),H1,I1,rfl,q1⟩)
end
def SqL (K:Kd)(H:Hp)(a:Kg)(xs:List V):Prop :=
 Rd H a (.lst xs)\/
  ∃(o:Obj) (its:aS) (n:Nat),K.lookup a=bB o/\o.cls=.type "list"/\o.dict=bC/\o.data=.seq its n/\its.size<=sv/\Vals xs its.toList
def SqT (K:Kd)(H:Hp)(a:Kg)(xs:List V):Prop :=
 Rd H a (.tup xs)\/
  ∃(o:Obj) (its:aS) (n:Nat),K.lookup a=bB o/\o.cls=.type "tuple"/\o.data=.seq its n/\its.size<=sv/\Vals xs its.toList
noncomputable def absV:Ke->Option V
 |.none=>bB .non
 |.bool b=>bB (.bl b)
 |.int i _=>bB (.int i)
 |.str x _=>bB (.str x)
 |.bytes b _=>bB (.byt b)
 |.float b _=>bB (.flt b)
 |.ref a=>bB (.ref a)
 |.type n=>bB (.ty n)
 |_=>bC
theorem RelV.abs {x:V}{u:Ke}(r:RelV x u):absV u=bB x:=by
 cases x with
 |non=>cases r;rfl
 |bl _=>cases r;rfl
 |int _=>obtain⟨t,rfl⟩:=r;rfl
 |str _=>obtain⟨t,rfl⟩:=r;rfl
 |byt _=>obtain⟨t,rfl⟩:=r;rfl
 |flt _=>obtain⟨t,rfl⟩:=r;rfl
 |ref _=>cases r;rfl
 |ty _=>cases r;rfl
theorem RelV.inj {x y:V}{u:Ke}(r:RelV x u)(q:RelV y u):x=y:=Ut (r.abs.symm.trans q.abs)
theorem Vals.inj {xs ys:List V}{us:ar}(h:Vals xs us)(g:Vals ys us):xs=ys:=by
 induction h generalizing ys with
 |nil=>cases g;rfl
 |cons r _ ih =>
  cases g with
  |cons r' t'=>rw[r.inj r',ih t']
section
variable {X:Cx}{sd:ah}{σ:St}{H:Hp}{s:Kf}{a:Kg}{xs ys:List V}
theorem SqL.of {K:Kd}(h:H a=bB (.lst xs)):SqL K H a xs:=.inl (.inl h)
theorem SqT.of {K:Kd}(h:H a=bB (.tup xs)):SqT K H a xs:=.inl (.inl h)
theorem Inv.list (I:Inv X sd σ H s)(h:SqL X.K H a xs):∃its:List Ke,Vals xs its/\PlainL s.heap a its.toArray/\xs.length<=sv:=by
 rcases h with h|⟨o,its,n,hk,hc,hd,hs,hz,r⟩
 .obtain⟨z,its,n,r,e⟩:=h.ok I.hok
  exact⟨its,r,⟨_,n,e,rfl,rfl,rfl⟩,z⟩
 .refine⟨its.toList,r,⟨o,n,I.kIn a o hk,hc,hd,by simpa using hs⟩,?_⟩
  have e:=r.length
  simp only[Vh]at e
  omega
theorem Inv.tuple (I:Inv X sd σ H s)(h:SqT X.K H a xs):∃its:List Ke,Vals xs its/\IsTup s.heap a its.toArray/\xs.length<=sv:=by
 rcases h with h|⟨o,its,n,hk,hc,hs,hz,r⟩
 .obtain⟨z,its,r,p⟩:=h.ok I.hok
  exact⟨its,r,p,z⟩
 .refine⟨its.toList,r,⟨o,I.kIn a o hk,hc,n,by simpa using hs⟩,?_⟩
  have e:=r.length
  simp only[Vh]at e
  omega
theorem Inv.list_inj (I:Inv X sd σ H s)(h:SqL X.K H a xs)(h':SqL X.K H a ys):xs=ys:=by
 obtain⟨its,r,⟨o,n,e,_,_,d⟩,_⟩:=I.list h
 obtain⟨its',r',⟨o',n',e',_,_,d'⟩,_⟩:=I.list h'
 rw[e]at e';cases e'
 rw[d]at d'
 injection d' with d1 _
 have:its=its':=by simpa using congrArg Array.toList d1
 subst this
 exact r.inj r'
theorem Inv.tuple_inj (I:Inv X sd σ H s)(h:SqT X.K H a xs)(h':SqT X.K H a ys):xs=ys:=by
 obtain⟨its,r,⟨o,e,_,n,d⟩,_⟩:=I.tuple h
 obtain⟨its',r',⟨o',e',_,n',d'⟩,_⟩:=I.tuple h'
 rw[e]at e';cases e'
 rw[d]at d'
 injection d' with d1 _
 have:its=its':=by simpa using congrArg Array.toList d1
 subst this
 exact r.inj r'
end
noncomputable abbrev Cx.wish (X:Cx)(E:ag):Cx:={ X with xe:=E }
abbrev Cx.nox (X:Cx):Cx:=X.wish λ_ _=>False
theorem Cx.Ok.wish {X:Cx}(ok:X.Ok)(E:ag):(X.wish E).Ok :=
 ⟨ok.mod,ok.kind,ok.glob,ok.blt,ok.above,ok.inj,ok.has,ok.cab,ok.hd,ok.frames,ok.stk,ok.exf,ok.bs,ok.bsz,ok.noex,ok.exfs,ok.funs,ok.frf⟩
theorem Cx.Ok.unwish {X:Cx}{E:ag}(ok:(X.wish E).Ok):X.Ok :=
 ⟨ok.mod,ok.kind,ok.glob,ok.blt,ok.above,ok.inj,ok.has,ok.cab,ok.hd,ok.frames,ok.stk,ok.exf,ok.bs,ok.bsz,ok.noex,ok.exfs,ok.funs,ok.frf⟩
section
variable {X:Cx}{sd:ah}{σ:St}{H:Hp}{s:Kf}{E:ag}
theorem Inv.wish (I:Inv X sd σ H s)(E:ag):Inv (X.wish E) sd σ H s:=⟨I.ok.wish E,I.os,I.bare,I.base,I.loc,I.cell,I.free,I.freeC,I.pin,I.hok,I.len⟩
theorem Inv.unwish (I:Inv (X.wish E) sd σ H s):Inv X sd σ H s:=⟨I.ok.unwish,I.os,I.bare,I.base,I.loc,I.cell,I.free,I.freeC,I.pin,I.hok,I.len⟩
theorem SP.unwish {D:Ends}{f:Flow}{s':Kf}(h:SP (X.wish E) sd D f s'):SP X sd D f s':=by
 cases f with
 |next=>obtain⟨σ',H',I,q⟩:=h;exact⟨σ',H',I.unwish,q⟩
 |brk=>obtain⟨σ',H',I,q⟩:=h;exact⟨σ',H',I.unwish,q⟩
 |cont=>obtain⟨σ',H',I,q⟩:=h;exact⟨σ',H',I.unwish,q⟩
 |ret u=>obtain⟨v,σ',H',I,r,q⟩:=h;exact⟨v,σ',H',I.unwish,r,q⟩
theorem PSs.nox {st:bz}{t:TS}(h:PSs X.nox st t):PSs X st t:=λsd s σ H D I hw =>
 Uy (h sd s σ H D (I.wish _) hw) (λ_ _ q=>q.unwish) λ_ _ z=>U8 z
end
section
variable {X:Cx}{st:Ve}{rest:bz}{t u:TS}{e:KI}{te:TE}{pos:Pos}
def tNext:TS:=λD σ H=>D.nx σ H
def tSeq (t u:TS):TS:=λD σ H=>t { D with nx:=u D } σ H
theorem qjL:PSs X [] tNext:=λ_ _ σ H _ I h=>NP ⟨σ,H,I,h⟩
theorem qh9 (h1:PS X st t)(h2:PSs X rest u):PSs X (st::rest) (tSeq t u):=by
 intro sd s σ H D I h
 refine wpAny_execs_cons (thn (h1 sd s σ H { D with nx:=u D } I h) λf s1 q=>?_)
 cases f with
 |next =>
  obtain⟨σ',H',I',q⟩:=q
  exact h2 sd s1 σ' H' D I' q
 |ret v=>exact q
 |brk=>exact q
 |cont=>exact q
theorem qjM (h1:PS X st t):PSs X [st] t:=by
 intro sd s σ H D I h
 refine wpAny_execs_cons (thn (h1 sd s σ H D I h) λf s1 q=>?_)
 cases f with
 |next=>exact NP q
 |ret v=>exact q
 |brk=>exact q
 |cont=>exact q
def tCont:TS:=λD σ H=>D.ct σ H
theorem qdG:PS X (.Continue pos) tCont:=λ_ _ σ H _ I h=>wpAny_Continue ⟨σ,H,I,h⟩
theorem Inv.quiet {sd:ah}{σ:St}{H:Hp}{s:Kf}(I:Inv X sd σ H s):interactive X.env=bE:=by simp [interactive,I.ok.kind]
def tDrop (te:TE):TS:=λD σ H=>te σ H λ_ H1=>D.nx σ H1
theorem qcu (he:PE X e te)(hs:sX e bC pos.line X.env=pure bE:=by rfl):PS X (.Expr e pos) (tDrop te):=by
 intro sd s σ H D I h
 exact wpAny_Expr_any (thn (he sd s σ H _ I h) λv s1 ⟨x,H1,I1,r1,q1⟩=>⟨σ,H1,I1,q1⟩) I.quiet hs
def tRet (te:TE):TS:=λD σ H=>te σ H D.rt
theorem qh7 (he:PE X e te):PS X (.Return (bB e) pos) (tRet te):=by
 intro sd s σ H D I h
 exact wpAny_Return_some (thn (he sd s σ H _ I h) λv s1 ⟨x,H1,I1,r1,q1⟩=>⟨x,σ,H1,I1,r1,q1⟩)
def tIfS (c:TT)(t u:TS):TS:=λD σ H=>c σ H λb H1=>if b=bD then t D σ H1 else u D σ H1
theorem ps_if {c:KI}{a b:bz}{tc:TT}(hc:PT X c tc)(ha:PSs X a t)(hb:PSs X b u):PS X (.If c a b pos) (tIfS tc t u):=by
 intro sd s σ H D I h
 refine wpAny_If (thn (hc sd s σ H _ I h) λd s1 ⟨H1,I1,q1⟩=>?_)
 cases d with
 |true=>exact ha sd s1 σ H1 D I1 q1
 |false=>exact hb sd s1 σ H1 D I1 q1
end
abbrev TG:=V->St->Hp->(St->Hp->Prop)->Prop
abbrev TGs:=List V->St->Hp->(St->Hp->Prop)->Prop
def PG (X:Cx)(target:KI)(t:TG):Prop :=
 ∀(sd:ah) (s:Kf) (σ:St) (H:Hp) (v:V) (u:Ke) (Q:St->Hp->Prop),Inv X sd σ H s->RelV v u->t v σ H Q->
  sm (model X.prog X.w) X.A (assign target X.env u) (λ_ s'=>∃ σ' H',Inv X sd σ' H' s'/\Q σ' H') X.xe s
def PGs (X:Cx)(ts:aH)(t:TGs):Prop :=
 ∀(sd:ah) (s:Kf) (σ:St) (H:Hp) (vs:List V) (us:ar) (Q:St->Hp->Prop),Inv X sd σ H s->Vals vs us->t vs σ H Q->
  sm (model X.prog X.w) X.A (assignInOrder ((sI ts X.env).map (·.2)) us) (λ_ s'=>∃ σ' H',Inv X sd σ' H' s'/\Q σ' H') X.xe s
abbrev TSet:=V->V->V->Hp->(Hp->Prop)->Prop
def PSet (X:Cx)(t:TSet):Prop :=
 ∀(sd:ah) (s:Kf) (σ:St) (H:Hp) (o i v:V) (ov iv u:Ke) (Q:Hp->Prop),Inv X sd σ H s->RelV o ov->RelV i iv->RelV v u->t o i v H Q->
  sm (model X.prog X.w) X.A (setItem ov iv u) (λ_ s'=>∃H',Inv X sd σ H' s'/\Q H') X.xe s
section
variable {X:Cx}{pos:Pos}
def qe7 (i:Nat):TG:=λv σ H Q=>Q (σ.set i (bB v)) H
theorem qfn {i:Nat}{x:Str}(hN:X.N.Nodup)(hi:X.N[i]?=bB x)(hx:Loc X.env.scope x)(hf:X.fn x=bD\/X.env.scope.names.lookup x=bB .local:=by first|exact .inl rfl|exact .inr rfl|assumption):PG X (.Name x pos) (qe7 i):=by
 intro sd s σ H v u Q I r h
 exact wpAny_assign_Name (qdX I hN hi hx r (λs' I'=>⟨_,H,I',h⟩) hf)
def gNil:TGs:=λvs σ H Q=>vs=[]/\Q σ H
def gCons (t:TG)(u:TGs):TGs:=λvs σ H Q=>∃v r,vs=v::r/\t v σ H λσ' H'=>u r σ' H' Q
theorem qfo:PGs X [] gNil:=by
 intro sd s σ H vs us Q I r h
 obtain⟨e,h⟩:=h
 subst e
 cases r
 exact assignInOrder_nil ⟨σ,H,I,h⟩
theorem qdC {e:KI}{es:aH}{t:TG}{u:TGs}(h1:PG X e t)(h2:PGs X es u)
  (hs:(sI (e::es) X.env).map (·.2)=assign e X.env::(sI es X.env).map (·.2):=by rfl):PGs X (e::es) (gCons t u):=by
 intro sd s σ H vs us Q I r h
 obtain⟨v,vr,e1,h⟩:=h
 subst e1
 cases r with
 |cons r rr =>
  rw[hs]
  refine assignInOrder_cons (thn (h1 sd s σ H _ _ _ I r h) λ_ s1 ⟨σ1,H1,I1,q1⟩=>?_)
  exact h2 sd s1 σ1 H1 _ _ Q I1 rr q1
def gTup (K:Kd)(n:Nat)(t:TGs):TG:=λv σ H Q=>∃a xs,v=.ref a/\SqT K H a xs/\xs.length=n/\t xs σ H Q
theorem qhY {es:aH}{k:Nat}{t:TGs}{n:Nat}(hc:X.calm=bD)(h:PGs X es t)
  (hn:(sI es X.env).length=n:=by rfl) (hU:(sI es X.env).findIdx? (·.1)=bC:=by rfl):PG X (.Tuple es k pos) (gTup X.K n t):=by
 intro sd s σ H v u Q I r hw
 obtain⟨a,xs,e1,hq,hl,hw⟩:=hw
 subst e1
 cases r
 obtain⟨its,rv,ht,hz⟩:=I.tuple hq
 refine assign_Tuple_tuple (I.ok.hd hc) ht (by simp [hn,←hl,rv.length]) hU λh' hx=>?_
 have I1:Inv X sd σ H { s with heap:=h' }:=I.kept (t':=s.toks) λb o e=>hx b o (KD (Kz e)) e
 exact h sd _ σ H xs _ Q I1 (by simpa using rv) hw
def gSub (to ti:TE)(t:TSet):TG:=λv σ H Q=>to σ H λo H1=>ti σ H1 λi H2=>t o i v H2 λH3=>Q σ H3
theorem qlB {o i:KI}{to ti:TE}{t:TSet}(ho:PE X o to)(hi:PE X i ti)(hs:PSet X t)
  (ha:∀v,assign (.Subscript o i pos) X.env v=(do
   let ov ←holding [v] (eval o X.env)
   let iv ←holding [v,ov] (eval i X.env)
   standAt pos
   holding [v,ov,iv] (setItem ov iv v)
   release [v,ov,iv] []):=by intro _;rfl):PG X (.Subscript o i pos) (gSub to ti t):=by
 intro sd s σ H v u Q I r h
 rw[ha]
 refine Kb (VJ (thn (ho sd s σ H _ I h) λov s1 ⟨x,H1,I1,r1,q1⟩=>?_))
 refine Kb (VJ (thn (hi sd s1 σ H1 _ I1 q1) λiv s2 ⟨y,H2,I2,r2,q2⟩=>?_))
 refine Kb (wpAny_standAt (Kb (VJ (thn (hs sd s2 σ H2 x y v ov iv u _ I2 r1 r2 r q2) λ_ s3 ⟨H3,I3,q3⟩=>?_))))
 exact wpAny_release ⟨σ,H3,I3,q3⟩
def tAsg (te:TE)(g:TG):TS:=λD σ H=>te σ H λx H1=>g x σ H1 D.nx
theorem qh5 {tg e:KI}{te:TE}{g:TG}(he:PE X e te)(hg:PG X tg g)(hs:swapsWithSole [tg] e pos.line X.env=pure bE:=by rfl)(hw:swappedStores [tg] e X.env=pure bC:=by rfl)
  (h1:(sI [tg] X.env).map (·.2)=[assign tg X.env]:=by rfl):PS X (.Assign [tg] e pos) (tAsg te g):=by
 intro sd s σ H D I h
 refine wpAny_Assign_stores (thn (he sd s σ H _ I h) λv s1 ⟨x,H1,I1,r1,q1⟩=>?_) hs hw
 rw[h1]
 exact thn (hg sd s1 σ H1 x v _ I1 r1 q1) λ_ s2 q=>q
theorem qcv {i:Nat}{x:Str}{e:KI}{te:TE}{pos':Pos}(hN:X.N.Nodup)(hi:X.N[i]?=bB x)(hx:Loc X.env.scope x)(he:PE X e te)(hs:sX e (bB (.Name x pos')) pos.line X.env=pure bE:=by rfl)(hf:X.fn x=bD\/X.env.scope.names.lookup x=bB .local:=by first|exact .inl rfl|exact .inr rfl|assumption):
  PS X (.Assign [.Name x pos'] e pos) (tAsg te (qe7 i)):=by
 intro sd s σ H D I h
 refine wpAny_Assign_Name (thn (he sd s σ H _ I h) λv s1 ⟨y,H1,I1,r1,q1⟩=>?_) hs
 exact qdX I1 hN hi hx r1 (λs2 I2=>⟨_,H1,I2,q1⟩) hf
end
section
variable {X:Cx}{pos:Pos}
def qmb (c:TT)(tb:TS):TS:=λD σ H=>∃W:Nat->St->Hp->Prop,(∃m,W m σ H)/\∀m σ H,W m σ H->
 c σ H λb H1=>if b=bD then ∃N:St->Hp->Prop,(∀ σ' H',N σ' H'->∃m',m'<m/\W m' σ' H')/\tb { D with nx:=N,ct:=N,bk:=D.nx } σ H1 else D.nx σ H1
theorem qh8 {c:KI}{body:bz}{tc:TT}{tb:TS}(hp:ET (model X.prog X.w) X.A X.env X.xe)(hc:PT X c tc)(hb:PSs X body tb):PS X (.While c body [] pos) (qmb tc tb):=by
 intro sd s σ H D I h
 obtain⟨W,⟨m0,w0⟩,turn⟩:=h
 refine wpAny_While (codeAny_whileLoop (λn s'=>∃ σ' H',Inv X sd σ' H' s'/\W n σ' H') ?_ m0 ⟨σ,H,I,w0⟩)
 rintro n s1 ⟨σ1,H1,I1,w1⟩
 refine U2 hp (thn (hc sd s1 σ1 H1 _ I1 (turn n σ1 H1 w1)) λb s2 ⟨H2,I2,q2⟩=>?_)
 cases b with
 |true =>
  obtain⟨N,hN,q2⟩:=q2
  rw[si rfl]
  refine U2 hp (thn (hb sd s2 σ1 H2 _ I2 q2) λf s3 q3=>?_)
  cases f with
  |next =>
   obtain⟨σ3,H3,I3,n3⟩:=q3
   obtain⟨m',hm,w3⟩:=hN σ3 H3 n3
   exact⟨m',hm,σ3,H3,I3,w3⟩
  |cont =>
   obtain⟨σ3,H3,I3,n3⟩:=q3
   obtain⟨m',hm,w3⟩:=hN σ3 H3 n3
   exact⟨m',hm,σ3,H3,I3,w3⟩
  |brk=>exact q3
  |ret v=>exact q3
 |false =>
  rw[sk Vl]
  exact NP ⟨σ1,H2,I2,q2⟩
end
structure It where
 go:Nat->Hp->Prop
 yld:Nat->Hp->V->Hp->Prop
 stop:Nat->Hp->Prop
def FpOk (X:Cx)(sd:ah)(H:Hp)(b:Kg):Prop :=
 H b=bC/\b≠X.env.locals/\b∉X.fs/\(b∈X.ex\/X.s₀.heap.objs.size<=b)/\(∀x c,X.env.cells.lookup x=bB c->c≠b)/\∀p∈X.pn++sd,p.1≠b
theorem Inv.fpOk {X:Cx}{sd:ah}{σ:St}{H H':Hp}{s:Kf}{b:Kg}(I:Inv X sd σ H s)(hb:s.heap.objs.size<=b)(hn:H' b=bC):FpOk X sd H' b:=by
 refine⟨hn,V8 (Vg I.lt hb),I.nofs hb,.inr (Vx I.sz hb),λx c e z=>?_,λp hp z=>?_⟩
 .obtain⟨v,q⟩:=I.cell x c e
  exact absurd (Vg q.lt (by rw[z];exact hb)) (Ud _)
 .exact absurd (Vg (Kz (I.pin p hp).1) (by rw[z];exact hb)) (Ud _)
structure Turn (P:KO)(w:K0)(K:Kd)(tg:KI)(J:It)(fp:aw)(it:Kg)(tn:aY):Prop where
 mem:it∈fp
 obj:∀i h,tn i h->∀b∈fp,∃o,h.get? b=bB o/\∀v,o.data≠.cell v
 keep:∀i h h',tn i h->(∀b∈fp,∀o,h.get? b=bB o->h'.get? b=bB o)->tn i h'
 item:∀(X:Cx),X.prog=P->X.w=w->X.K=K->X.calm=bD->∀(i:Nat) (sd:ah) (s:Kf) (σ:St) (H:Hp) (E:ag),Inv X sd σ H s->(∀b∈fp,FpOk X sd H b)->tn i s.heap->J.go i H->
  sm (model P w) X.A (sY (.ref it)) (λr s1=>∃u,r=bB u/\
   sm (model P w) X.A (tJ tg (.ref it) u) (λ_ s2=>∃x H',Inv X sd σ H' s2/\RelV x u/\J.yld i H x H'/\tn (i+1) s2.heap/\∀b∈fp,H' b=bC) E s1) E s
 done:∀(X:Cx),X.prog=P->X.w=w->X.K=K->X.calm=bD->∀(i:Nat) (sd:ah) (s:Kf) (σ:St) (H:Hp) (E:ag),Inv X sd σ H s->(∀b∈fp,FpOk X sd H b)->tn i s.heap->J.stop i H->
  sm (model P w) X.A (sY (.ref it)) (λr s1=>r=bC/\Inv X sd σ H s1) E s
 self:∀(A:KZ) (i:Nat) (s:Kf) (Q:ag) (E:ag),tn i s.heap->Q (.ref it) s->sm (model P w) A (pyIter (.ref it)) Q E s
abbrev TI:=St->Hp->(It->Hp->Prop)->Prop
def PIE (X:Cx)(sd:ah)(σ:St)(tg:KI)(R:It->Hp->Prop)(lZ:Ke)(s2:Kf):Prop :=
 ∃(it:Kg) (fp:aw) (tn:aY) (J:It) (H':Hp),lZ=.ref it/\Inv X sd σ H' s2/\Turn X.prog X.w X.K tg J fp it tn/\tn 0 s2.heap/\(∀b∈fp,FpOk X sd H' b)/\R J H'
def PI (X:Cx)(tg iter:KI)(wi:TI):Prop :=
 ∀(sd:ah) (s:Kf) (σ:St) (H:Hp) (R:It->Hp->Prop),Inv X sd σ H s->wi σ H R->
  sm (model X.prog X.w) X.A (eval iter X.env) (λv s1=>sm (model X.prog X.w) X.A (pyIter v) (PIE X sd σ tg R) X.xe s1) X.xe s
theorem qe8 {M:Model}{A:KZ}{E:ag}{s:Kf}{tg:KI}{it:Kg}{u:Ke}{o:Obj}{n:String}{vs:aS}{Q:Unit->Kf->Prop}(ho:s.heap.get? it=bB o)(hc:o.cls=.type n)(hd:o.data=.fields vs)
  (hn:["enumerate", "zip", "dict_itemiterator", "dict_reverseitemiterator", "odict_iterator", "itertools.zip_longest", "itertools.pairwise"].contains n=bE) (hQ:Q () s):sm M A (tJ tg (.ref it) u) Q E s:=by
 unfold tJ
 cases tg<;>first
  |exact Ki hQ
  |(cases u<;>first
    |exact Ki hQ
    |(
      refine Kb (wpAny_load ho ?_)
      rw[hc,hd]
      show sm M A (if (["enumerate", "zip", "dict_itemiterator", "dict_reverseitemiterator", "odict_iterator", "itertools.zip_longest", "itertools.pairwise"].contains n&&vs[0]?==bB (tm _))=bD then _ else _) Q E s
      rw[sk (by intro h;rw[hn,Bool.false_and]at h;cases h)]
      exact Ki hQ))
def Itl (K:Kd)(a:Kg):It :=
 ⟨λi H=>∃xs x,SqL K H a xs/\xs[i]?=bB x,λi H x H'=>H'=H/\∀xs,SqL K H a xs->xs[i]?=bB x,λi H=>∃xs,SqL K H a xs/\xs.length<=i⟩
def Itt (K:Kd)(a:Kg):It :=
 ⟨λi H=>∃xs x,SqT K H a xs/\xs[i]?=bB x,λi H x H'=>H'=H/\∀xs,SqT K H a xs->xs[i]?=bB x,λi H=>∃xs,SqT K H a xs/\xs.length<=i⟩
noncomputable def Itr (lo:Int)(n:Nat):It:=⟨λi _=>i<n,λi H x H'=>H'=H/\x=.int (lo+i),λi _=>n<=i⟩
theorem qgo {P:KO}{w:K0}{K:Kd}{tg:KI}(a it:Kg):Turn P w K tg (Itl K a) [it] it (λi h=>h.IsListIter it a i) where
 mem:=by simp
 obj:=λi h st b hb=>by
  have e:b=it:=by simpa using hb
  subst e
  obtain⟨o,e,c,d⟩:=st
  exact⟨o,e,λv z=>by rw[d]at z;cases z⟩
 keep:=λi h h' st k=>st.at λo e=>k it '+' o e
 item:=by
  intro X hP hw hK hc i sd s σ H E I hf st hg
  subst hP hw hK
  obtain⟨xs,x,hq,hx⟩:=hg
  obtain⟨its,rv,p,hz⟩:=I.list hq
  obtain⟨u,hu,ru⟩:=rv.get hx
  obtain⟨f0,f1,f2,f3,f4,f5⟩:=hf it '+'
  refine wpAny_pyNext_list_item st p.isList (x:=u) (by simpa using hu) λh' cS sb=>?_
  have I1:Inv X sd σ H { s with heap:=h' }:=I.turned (t':=s.toks) (λb o hb e=>(sb.2 b hb).trans e) f0 f1 f3 f4 f5
  obtain⟨o,e,c,d⟩:=id cS
  exact⟨u,rfl,qe8 (s:={ s with heap:=h' }) e c d '%' ⟨x,H,I1,ru,⟨rfl,λys hy=>by rw[I.list_inj hy hq];exact hx⟩,cS,λb hb=>(hf b hb).1⟩⟩
 done:=by
  intro X hP hw hK hc i sd s σ H E I hf st hg
  subst hP hw hK
  obtain⟨xs,hq,hx⟩:=hg
  obtain⟨its,rv,p,hz⟩:=I.list hq
  obtain⟨f0,f1,f2,f3,f4,f5⟩:=hf it '+'
  have hl:=rv.length
  exact wpAny_pyNext_list_end (I.ok.hd hc) st p.isList (by simp;omega) λh' eb=>⟨rfl,I.turned (t':=s.toks) (λb o hb e=>eb b o hb e) f0 f1 f3 f4 f5⟩
 self:=λ_ _ _ _ _ st h=>wpAny_pyIter_listiter st h
theorem qeB {P:KO}{w:K0}{K:Kd}{tg:KI}(a it:Kg):Turn P w K tg (Itt K a) [it] it (λi h=>h.IsTupleIter it a i) where
 mem:=by simp
 obj:=λi h st b hb=>by
  have e:b=it:=by simpa using hb
  subst e
  obtain⟨o,e,c,d⟩:=st
  exact⟨o,e,λv z=>by rw[d]at z;cases z⟩
 keep:=λi h h' st k=>st.at λo e=>k it '+' o e
 item:=by
  intro X hP hw hK hc i sd s σ H E I hf st hg
  subst hP hw hK
  obtain⟨xs,x,hq,hx⟩:=hg
  obtain⟨its,rv,p,hz⟩:=I.tuple hq
  obtain⟨u,hu,ru⟩:=rv.get hx
  obtain⟨f0,f1,f2,f3,f4,f5⟩:=hf it '+'
  refine wpAny_pyNext_tuple_item st (show s.heap.IsTuple a its.toArray from p) (x:=u) (by simpa using hu) λh' cS sb=>?_
  have I1:Inv X sd σ H { s with heap:=h' }:=I.turned (t':=s.toks) (λb o hb e=>(sb.2 b hb).trans e) f0 f1 f3 f4 f5
  obtain⟨o,e,c,d⟩:=id cS
  exact⟨u,rfl,qe8 (s:={ s with heap:=h' }) e c d '%' ⟨x,H,I1,ru,⟨rfl,λys hy=>by rw[I.tuple_inj hy hq];exact hx⟩,cS,λb hb=>(hf b hb).1⟩⟩
 done:=by
  intro X hP hw hK hc i sd s σ H E I hf st hg
  subst hP hw hK
  obtain⟨xs,hq,hx⟩:=hg
  obtain⟨its,rv,p,hz⟩:=I.tuple hq
  obtain⟨f0,f1,f2,f3,f4,f5⟩:=hf it '+'
  have hl:=rv.length
  exact wpAny_pyNext_tuple_end (I.ok.hd hc) st (show s.heap.IsTuple a its.toArray from p) (by simp;omega) λh' eb=>⟨rfl,I.turned (t':=s.toks) (λb o hb e=>eb b o hb e) f0 f1 f3 f4 f5⟩
 self:=λ_ _ _ _ _ st h=>wpAny_pyIter_tupleiter st h
theorem qeA {P:KO}{w:K0}{K:Kd}{tg:KI}(it:Kg)(lo:Int)(n:Nat):Turn P w K tg (Itr lo n) [it] it (λi h=>IsRangeIter h it (lo+(i:Nat)*1) ((n:Int)-(i:Nat)) 1) where
 mem:=by simp
 obj:=λi h st b hb=>by
  have e:b=it:=by simpa using hb
  subst e
  exact⟨_,st,λv z=>by
   have z':Data.fields _=Data.cell v:=z
   cases z'⟩
 keep:=λi h h' st k=>k it '+' _ st
 item:=by
  intro X hP hw hK hc i sd s σ H E I hf st hg
  subst hP hw hK
  obtain⟨f0,f1,f2,f3,f4,f5⟩:=hf it '+'
  have W:=Walks.range (prog:=X.prog) (w:=X.w) (I.ok.hd hc) it lo 1 n
  refine W.item i s _ _ hg st λv h' tk hv cS kk=>?_
  obtain⟨t,rfl⟩:=hv
  have I1:Inv X sd σ H { s with heap:=h',toks:=tk }:=I.turned (λb o hb e=>kk b o (by simpa using hb) e) f0 f1 f3 f4 f5
  refine⟨_,rfl,qe8 (s:={ s with heap:=h',toks:=tk }) (n := "range_iterator") cS rfl rfl '%' ⟨.int (lo+i),H,I1,⟨t,?_⟩,⟨rfl,rfl⟩,cS,λb hb=>(hf b hb).1⟩⟩
  rw[Int.mul_one]
 done:=by
  intro X hP hw hK hc i sd s σ H E I hf st hg
  subst hP hw hK
  obtain⟨f0,f1,f2,f3,f4,f5⟩:=hf it '+'
  exact wpAny_pyNext_range_end (I.ok.hd hc) st (by have:n<=i:=hg;omega) λh' eb=>⟨rfl,I.turned (t':=s.toks) (λb o hb e=>eb b o hb e) f0 f1 f3 f4 f5⟩
 self:=λ_ _ _ _ _ st h=>wpAny_pyIter_rangeiter st h
section
variable {X:Cx}{tg:KI}
theorem qic {sd:ah}{σ:St}{H:Hp}{s:Kf}{R:It->Hp->Prop}{E:ag}{lo hi:Int}{t u v:Tok}{tk:Nat}(I:Inv X sd σ H s)(h1:-(2 ^ 62)<=lo)(h2:lo<2 ^ 62)(h3:-(2 ^ 62)<=hi)(h4:hi<2 ^ 62)
  (q:R (Itr lo (hi-lo).toNat) H):sm (model X.prog X.w) X.A (pyIter (.ref s.heap.objs.size)) (PIE X sd σ tg R) E { s with heap:=s.heap.push { cls:=.type "range", data:=.fields #[.int lo t,.int hi u,.int 1 v] },toks:=tk }:=by
 refine wpAny_pyIter_range (IsRange.new ..) (small_one h1 h2 h3 h4) ?_
 have I1:Inv X sd σ H { s with heap:=s.heap.push { cls:=.type "range", data:=.fields #[.int lo t,.int hi u,.int 1 v] },toks:=tk }:=I.kept λb o e=>Kh _ e
 refine⟨(s.heap.push { cls:=.type "range", data:=.fields #[.int lo t,.int hi u,.int 1 v] }).objs.size,[(s.heap.push { cls:=.type "range", data:=.fields #[.int lo t,.int hi u,.int 1 v] }).objs.size],_,_,H,rfl,
  I1.kept (t':=tk) λb o e=>Kh _ e,qeA _ lo (hi-lo).toNat,?_,λb hb=>?_,q⟩
 .have e1:lo+((0:Nat):Int)*1=lo:=by simp
  have e2:(((hi-lo).toNat:Nat):Int)-((0:Nat):Int)=Builtin.Range.rangeSize lo hi 1:=by rw[rangeSize_one];split<;>omega
  show IsRangeIter _ _ (lo+((0:Nat):Int)*1) ((((hi-lo).toNat:Nat):Int)-((0:Nat):Int)) 1
  rw[e1,e2]
  exact Ks _ rfl
 .have e:b=(s.heap.push { cls:=.type "range", data:=.fields #[.int lo t,.int hi u,.int 1 v] }).objs.size:=by simpa using hb
  subst e
  exact I1.fpOk (Kp _) (I1.hok.fresh (Kp _))
def iRng1 (ta:TA):TI:=λσ H R=>ta σ H λvs H1=>∃j:Int,vs=[.int j]/\-(2 ^ 62)<=j/\j<2 ^ 62/\R (Itr 0 j.toNat) H1
theorem qbx {a:KI}{ta:TA}{p pos:Pos}(hg:Gl X "range")(hm:X.mg "range" = bC)(ha:PA X [a] ta)(hs:sj [a] X.env=[(bE,eval a X.env)]:=by rfl):PI X tg (.Call (.Name "range" p) [a] [] pos) (iRng1 ta):=by
 intro sd s σ H R I h
 refine Call_ (wN I hg hm boot_range (U0 (thn (ha pos sd s σ H _ I h) λus s1 ⟨vs,H1,I1,r1,q1⟩=>?_) hs rfl))
 obtain⟨j,e,q1,q2,q⟩:=q1
 subst e
 cases r1 with
 |cons r rr =>
  cases rr
  obtain⟨t,rfl⟩:=r
  exact call_range_1 (qic I1 '#' '#' q1 q2 (by simpa using q))
def tFor (wi:TI)(g:TG)(tb:TS):TS:=λD σ H=>wi σ H λJ H1=>∃W:Nat->Nat->St->Hp->Prop,(∃m,W 0 m σ H1)/\∀i m σ H,W i m σ H->
 (J.stop i H/\D.nx σ H)\/(J.go i H/\∃N:St->Hp->Prop,(∀ σ' H',N σ' H'->∃m',m'<m/\W (i+1) m' σ' H')/\∀x H',J.yld i H x H'->g x σ H' λσ2 H2=>tb { D with nx:=N,ct:=N,bk:=D.nx } σ2 H2)
def jj (fp:aw)(h:K4):List (Kg×Obj):=fp.filterMap λb=>(h.get? b).map λo=>(b,o)
theorem Z0 {fp:aw}{h:K4}{b:Kg}{o:Obj}(hb:b∈fp)(e:h.get? b=bB o):(b,o)∈jj fp h:=X4.mpr ⟨b,hb,by rw[e];rfl⟩
theorem wQ {fp:aw}{h:K4}{p:Kg×Obj}(hp:p∈jj fp h):p.1∈fp/\h.get? p.1=bB p.2:=by
 obtain⟨b,hb,e⟩:=X4.mp hp
 cases q:h.get? b with
 |none=>rw[q]at e;cases e
 |some o =>
  rw[q]at e
  have e':(b,o)=p:=Ut e
  subst e'
  exact⟨hb,q⟩
theorem Inv.pinned {sd:ah}{σ:St}{H:Hp}{s:Kf}{fp:aw}(I:Inv X sd σ H s)(hf:∀b∈fp,FpOk X sd H b)(ho:∀b∈fp,∃o,s.heap.get? b=bB o/\∀v,o.data≠.cell v):Inv X (sd++jj fp s.heap) σ H s :=
 I.pins_of λp hp=>(K6.mp hp).elim (λz=>I.pin p (K5 _ z)) λz=>by
  obtain⟨hb,e⟩:=wQ z
  obtain⟨f0,f1,f2,_⟩:=hf p.1 hb
  obtain⟨o,e',d⟩:=ho p.1 hb
  rw[e]at e';cases e'
  exact⟨e,f0,f1,f2,d⟩
theorem Inv.unpinned {sd pl:ah}{σ:St}{H:Hp}{s:Kf}(I:Inv X (sd++pl) σ H s):Inv X sd σ H s:=I.pins_of λp hp=>I.pin p (K5 _ (Vi _ hp))
theorem qh6 {iter:KI}{body:bz}{wi:TI}{g:TG}{tb:TS}{pos:Pos}(hp:ET (model X.prog X.w) X.A X.env X.xe)(hc:X.calm=bD)(hi:PI X tg iter wi)(hg:PG X tg g)(hb:PSs X body tb)
  (hs:∀x,sD iter X.env x=pure x:=by intro _;rfl):PS X (.For tg iter body [] pos) (tFor wi g tb):=by
 intro sd s σ H D I h
 refine wpAny_For (thn (hi sd s σ H _ I h) λv s1 h1=>thn h1 λlZ s2 h2=>?_) hs
 obtain⟨it,fp,tn,J,H2,e,I2,T,fj,f2,W,⟨m0,w0⟩,turn⟩:=h2
 subst e
 have eA:∀{H':Hp},(∀b∈fp,H' b=bC)->∀b∈fp,FpOk X sd H' b:=λhn b hb=>⟨hn b hb,(f2 b hb).2⟩
 refine codeAny_forLoop_any (λn s'=>∃i σ' H',Inv X sd σ' H' s'/\tn i s'.heap/\(∀b∈fp,H' b=bC)/\W i n σ' H') ?_ m0 ⟨0,σ,H2,I2,fj,λb hb=>(f2 b hb).1,w0⟩
 rintro n s3 ⟨i,σ3,H3,I3,kL,gn,w3⟩
 rcases turn i n σ3 H3 w3 with ⟨stop,qn⟩|⟨go,N,hN,step⟩
 .refine U2 hp (thn (T.done X rfl rfl rfl hc i sd s3 σ3 H3 X.xe I3 (eA gn) kL stop) λr s4 ⟨hr,I4⟩=>?_)
  subst hr
  exact NP ⟨σ3,H3,I4,qn⟩
 .refine U2 hp (thn (T.item X rfl rfl rfl hc i sd s3 σ3 H3 X.xe I3 (eA gn) kL go) λr s4 ⟨u,hr,h4⟩=>?_)
  subst hr
  refine U2 hp (thn h4 λ_ s5 ⟨x,H5,I5,r5,y5,iz,mS⟩=>?_)
  have mT:=I5.pinned (eA mS) (T.obj _ _ iz)
  refine U2 hp (thn (hg _ s5 σ3 H5 x u _ mT r5 (step x H5 y5)) λ_ s6 ⟨σ6,H6,I6,q6⟩=>?_)
  refine U2 hp (thn (hb _ s6 σ6 H6 _ I6 q6) λf s7 q7=>?_)
  have again:∀{σ7:St} {H7:Hp},Inv X (sd++jj fp s5.heap) σ7 H7 s7->N σ7 H7->∃m,m<n/\∃i σ' H',Inv X sd σ' H' s7/\tn i s7.heap/\(∀b∈fp,H' b=bC)/\W i m σ' H':=λ{σ7 H7} I7 n7=>by
   obtain⟨m',hm,w7⟩:=hN σ7 H7 n7
   refine⟨m',hm,i+1,σ7,H7,I7.unpinned,T.keep _ _ _ iz λb hb o e=>(I7.pin (b,o) (K5 _ (K5 _ (Z0 hb e)))).1,λb hb=>?_,w7⟩
   obtain⟨o,e,d⟩:=T.obj _ _ iz b hb
   exact(I7.pin (b,o) (K5 _ (K5 _ (Z0 hb e)))).2.1
  cases f with
  |next=>obtain⟨σ7,H7,I7,n7⟩:=q7;exact again I7 n7
  |cont=>obtain⟨σ7,H7,I7,n7⟩:=q7;exact again I7 n7
  |brk=>obtain⟨σ7,H7,I7,q7⟩:=q7;exact⟨σ7,H7,I7.unpinned,q7⟩
  |ret v=>obtain⟨x7,σ7,H7,I7,r7,q7⟩:=q7;exact⟨x7,σ7,H7,I7.unpinned,r7,q7⟩
end
abbrev R2:=V->V->Hp->VK->Prop
def OpR (X:Cx)(f:aQ)(r:R2):Prop :=
 ∀(sd:ah) (s:Kf) (σ:St) (H:Hp) (x y:V) (v u:Ke) (Q:VK),Inv X sd σ H s->RelV x v->RelV y u->r x y H Q->
  sm (model X.prog X.w) X.A (f v u) (EP X sd σ Q) X.xe s
def UnR (X:Cx)(f:Ke->Sem Ke)(r:V->Hp->VK->Prop):Prop :=
 ∀(sd:ah) (s:Kf) (σ:St) (H:Hp) (x:V) (v:Ke) (Q:VK),Inv X sd σ H s->RelV x v->r x H Q->
  sm (model X.prog X.w) X.A (f v) (EP X sd σ Q) X.xe s
def Jj (X:Cx)(f:Ke)(r:bw):Prop :=
 ∀(sd:ah) (s:Kf) (σ:St) (H:Hp) (xs:List V) (us:ar) (Q:VK),Inv X sd σ H s->Vals xs us->r xs H Q->
  sm (model X.prog X.w) X.A (call f us) (EP X sd σ Q) X.xe s
def TruR (X:Cx)(r:V->Hp->(Bool->Hp->Prop)->Prop):Prop :=
 ∀(sd:ah) (s:Kf) (σ:St) (H:Hp) (x:V) (v:Ke) (Q:Bool->Hp->Prop),Inv X sd σ H s->RelV x v->r x H Q->
  sm (model X.prog X.w) X.A (truthy v) (TP X sd σ Q) X.xe s
def tOp (r:R2)(ta tb:TE):TE:=λσ H Q=>ta σ H λx H1=>tb σ H1 λy H2=>r x y H2 Q
def tUn (r:V->Hp->VK->Prop)(ta:TE):TE:=λσ H Q=>ta σ H λx H1=>r x H1 Q
def rI (C:Int->Int->Prop)(g:Int->Int->V):R2:=λx y H Q=>∃i j,x=.int i/\y=.int j/\C i j/\Q (g i j) H
def rI0 (g:Int->Int->V):R2:=λx y H Q=>∃i j,x=.int i/\y=.int j/\Q (g i j) H
def rU (g:Int->V):V->Hp->VK->Prop:=λx H Q=>∃i,x=.int i/\Q (g i) H
section
variable {X:Cx}{a b c:KI}{ta tb tc:TE}{pos:Pos}
theorem binT (ha:PE X a ta)(hb:PE X b tb){sd:ah}{s:Kf}{σ:St}{H:Hp}{R:V->V->Hp->Prop}(I:Inv X sd σ H s)
  (h:ta σ H λx H1=>tb σ H1 λy H2=>R x y H2) {Q:ag} {f:aQ}
  (hf:∀v u s2 x y H2,Inv X sd σ H2 s2->RelV x v->RelV y u->R x y H2->sm (model X.prog X.w) X.A (f v u) Q X.xe s2):
  sm (model X.prog X.w) X.A (eval a X.env) (λv s₁=>sm (model X.prog X.w) X.A (eval b X.env) (λu s₂=>sm (model X.prog X.w) X.A (f v u) Q X.xe s₂) X.xe s₁) X.xe s:=by
 refine thn (ha sd s σ H _ I h) λv s1 ⟨x,H1,I1,r1,q1⟩=>?_
 refine thn (hb sd s1 σ H1 _ I1 q1) λu s2 ⟨y,H2,I2,r2,q2⟩=>?_
 exact hf v u s2 x y H2 I2 r1 r2 q2
theorem pe_op {op:Operator}{r:R2}(ho:OpR X (sH op) r)(ha:PE X a ta)(hb:PE X b tb):PE X (.BinOp a op b pos) (tOp r ta tb):=by
 intro sd s σ H Q I h
 exact wpAny_BinOp (binT ha hb I h λv u s2 x y H2 I2 rx ry q=>ho sd s2 σ H2 x y v u Q I2 rx ry q)
theorem pe_un {op:UnaryOp}{r:V->Hp->VK->Prop}(ho:UnR X (unaryOp op) r)(ha:PE X a ta):PE X (.UnaryOp op a pos) (tUn r ta):=by
 intro sd s σ H Q I h
 exact UnaryOp_ (thn (ha sd s σ H _ I h) λv s1 ⟨x,H1,I1,r1,q1⟩=>ho sd s1 σ H1 x v Q I1 r1 q1)
theorem opI {f:aQ}{C:Int->Int->Prop}{g:Int->Int->Int}
  (rule:∀(i j:Int) (t u:Tok) (s:Kf) (Q:ag) (E:ag),C i j->Q (.int (g i j) s.toks) { s with toks:=s.toks+1 }->sm (model X.prog X.w) X.A (f (.int i t) (.int j u)) Q E s):
  OpR X f (rI C λi j=>.int (g i j)):=by
 intro sd s σ H x y v u Q I rx ry h
 obtain⟨i,j,rfl,rfl,hc,q⟩:=h
 obtain⟨t,rfl⟩:=rx
 obtain⟨t',rfl⟩:=ry
 exact rule i j t t' s _ _ hc ⟨.int (g i j),H,I.tok _,⟨_,rfl⟩,q⟩
theorem opI0 {f:aQ}{g:Int->Int->Int}
  (rule:∀(i j:Int) (t u:Tok) (s:Kf) (Q:ag) (E:ag),Q (.int (g i j) s.toks) { s with toks:=s.toks+1 }->sm (model X.prog X.w) X.A (f (.int i t) (.int j u)) Q E s):
  OpR X f (rI0 λi j=>.int (g i j)):=by
 intro sd s σ H x y v u Q I rx ry h
 obtain⟨i,j,rfl,rfl,q⟩:=h
 obtain⟨t,rfl⟩:=rx
 obtain⟨t',rfl⟩:=ry
 exact rule i j t t' s _ _ ⟨.int (g i j),H,I.tok _,⟨_,rfl⟩,q⟩
theorem opB0 {f:aQ}{g:Int->Int->Bool}
  (rule:∀(i j:Int) (t u:Tok) (s:Kf) (Q:ag) (E:ag),Q (.bool (g i j)) s->sm (model X.prog X.w) X.A (f (.int i t) (.int j u)) Q E s):
  OpR X f (rI0 λi j=>.bl (g i j)):=by
 intro sd s σ H x y v u Q I rx ry h
 obtain⟨i,j,rfl,rfl,q⟩:=h
 obtain⟨t,rfl⟩:=rx
 obtain⟨t',rfl⟩:=ry
 exact rule i j t t' s _ _ ⟨.bl (g i j),H,I,rfl,q⟩
def CDiv (i j:Int):Prop:=0<j/\j<1073741824
def CPow (i j:Int):Prop:=0<=j/\j<=1000000/\i.natAbs<2 ^ 64
theorem qlm:OpR X (sH .Add) (rI0 λi j=>.int (i+j)):=opI0 λ_ _ _ _ _ _ _ q=>add_int q
theorem qlr:OpR X (sH .Sub) (rI0 λi j=>.int (i-j)):=opI0 λ_ _ _ _ _ _ _ q=>sub_int q
theorem qjw:OpR X (sH .FloorDiv) (rI CDiv λi j=>.int (i / j)):=opI λi j _ _ _ _ _ hc q=>by
 have h1:(0:Int)<j:=hc.1
 have h2:j<1073741824:=hc.2
 exact floordiv_int '#' (by rw[Eb i '#'];exact q) (.inl (PyProof.noPylong_small '#'))
theorem qlo:OpR X (sH .Mod) (rI (λ_ j=>0<j) λi j=>.int (i%j)):=opI λi j _ _ _ _ _ hc q=>by
 have h1:(0:Int)<j:=hc
 exact mod_int' '#' (by rw[Int.fmod_eq_emod_of_nonneg i '#'];exact q)
theorem qlq:OpR X (sH .Pow) (rI CPow λi j=>.int (i ^ j.toNat)):=opI λ_ _ _ _ _ _ _ hc q=>pow_int_small hc.1 hc.2.1 hc.2.2 q
theorem unI {f:Ke->Sem Ke}{g:Int->Int}
  (rule:∀(i:Int) (t:Tok) (s:Kf) (Q:ag) (E:ag),Q (.int (g i) s.toks) { s with toks:=s.toks+1 }->sm (model X.prog X.w) X.A (f (.int i t)) Q E s):
  UnR X f (rU λi=>.int (g i)):=by
 intro sd s σ H x v Q I rx h
 obtain⟨i,rfl,q⟩:=h
 obtain⟨t,rfl⟩:=rx
 exact rule i t s _ _ ⟨.int (g i),H,I.tok _,⟨_,rfl⟩,q⟩
theorem qmm:UnR X (unaryOp .USub) (rU λi=>.int (-i)):=unI λ_ _ _ _ _ q=>neg_int q
end
section
variable {X:Cx}{a b c:KI}{ta tb tc:TE}{pos:Pos}
theorem j5 {sd:ah}{σ:St}{H:Hp}{s:Kf}{Q:VK}{k k':Bool}(I:Inv X sd σ H s)(q:Q (.bl k) H)(e:k=k'):EP X sd σ Q (.bool k') s:=by
 subst e
 exact⟨.bl k,H,I,rfl,q⟩
theorem op_le:OpR X (sA .LtE) (rI0 λi j=>.bl (decide (i<=j))):=opB0 λ_ _ _ _ _ _ _ q=>le_int q
theorem qjy:OpR X (sA .IsNot) (λx y H Q=>y=.non/\Q (.bl (!decide (x=.non))) H):=by
 intro sd s σ H x y v u Q I rx ry h
 obtain⟨rfl,q⟩:=h
 cases ry
 refine isnot_none_gen (j5 I q ?_)
 cases x<;>first
  |(cases rx;rfl)
  |(obtain⟨t,rfl⟩:=rx;rfl)
theorem qcq:OpR X (sA .NotIn) (λx y H Q=>∃i j,x=.str i/\y=.str j/\Q (.bl (!(!(KM j i 0 j.length 1).isEmpty))) H):=by
 intro sd s σ H x y v u Q I rx ry h
 obtain⟨i,j,rfl,rfl,q⟩:=h
 obtain⟨t,rfl⟩:=rx
 obtain⟨t',rfl⟩:=ry
 exact notIn_str (j5 I q rfl)
theorem OpR.or {f:aQ}{r r':R2}(h:OpR X f r)(h':OpR X f r'):OpR X f (λx y H Q=>r x y H Q\/r' x y H Q):=by
 intro sd s σ H x y v u Q I rx ry q
 rcases q with q|q
 .exact h sd s σ H x y v u Q I rx ry q
 .exact h' sd s σ H x y v u Q I rx ry q
theorem zK (b:KI){op:CmpOp}(h:op≠.In:=by decide)(h2:op≠.NotIn:=by decide):tq op b=bE:=by
 have e1:(op==CmpOp.In)=bE:=by cases op<;>first|rfl|exact absurd rfl h
 have e2:(op==CmpOp.NotIn)=bE:=by cases op<;>first|rfl|exact absurd rfl h2
 cases b<;>simp [tq,e1,e2]
theorem qjE {op:CmpOp}{r:R2}(ho:OpR X (sA op) r)(ha:PE X a ta)(hb:PE X b tb)(hm:tq op b=bE):PE X (.Compare a [op] [b] pos) (tOp r ta tb):=by
 intro sd s σ H Q I h
 exact wpAny_Compare1 (binT ha hb I h λv u s2 x y H2 I2 rx ry q=>ho sd s2 σ H2 x y v u Q I2 rx ry q) hm
def qkw (t:TE):TT:=λσ H Q=>t σ H λx H'=>∃k,x=.bl k/\Q k H'
theorem qjN {op:CmpOp}{r:R2}(ho:OpR X (sA op) r)(ha:PE X a ta)(hb:PE X b tb)(hm:tq op b=bE):PT X (.Compare a [op] [b] pos) (qkw (tOp r ta tb)):=by
 intro sd s σ H Q I h
 refine wpAny_isTrue_Compare1 (thn (ha sd s σ H _ I h) λv s1 ⟨x,H1,I1,r1,q1⟩=>thn (hb sd s1 σ H1 _ I1 q1) λu s2 ⟨y,H2,I2,r2,q2⟩ =>
  thn (ho sd s2 σ H2 x y v u _ I2 r1 r2 q2) λc s3 ⟨z,H3,I3,r3,k,e,q3⟩=>?_) hm
 subst e
 cases r3
 exact VU ⟨H3,I3,q3⟩
def qio (r r':R2)(ta tb tc:TE):TE:=λσ H Q=>ta σ H λx H1=>tb σ H1 λy H2=>r x y H2 λz H3=>∃k,z=.bl k/\
 (if k=bD then tc σ H3 λw' H4=>r' y w' H4 Q else Q (.bl bE) H3)
theorem qia {op iA:CmpOp}{r r':R2}(ho:OpR X (sA op) r)(fv:OpR X (sA iA) r')(ha:PE X a ta)(hb:PE X b tb)(hc:PE X c tc)
  (hm:lastMarks [op,iA] [b,c]=bE:=by with_unfolding_all rfl):PT X (.Compare a [op,iA] [b,c] pos) (qkw (qio r r' ta tb tc)):=by
 intro sd s σ H Q I h
 refine isTrue_chain (thn (ha sd s σ H _ I h) λv s1 ⟨x,H1,I1,r1,q1⟩=>test_link (thn (hb sd s1 σ H1 _ I1 q1) λu s2 ⟨y,H2,I2,r2,q2⟩ =>
  thn (ho sd s2 σ H2 x y v u _ I2 r1 r2 q2) λd s3 ⟨z,H3,I3,r3,k,e,q3⟩=>?_)) hm
 subst e
 cases r3
 refine VU ?_
 cases k with
 |false =>
  obtain⟨k',e',q'⟩:=q3
  cases e'
  exact ite_ff ⟨H3,I3,q'⟩
 |true =>
  refine ite_tt (test_last (thn (hc sd s3 σ H3 _ I3 q3) λw' s4 ⟨z',H4,I4,r4,q4⟩=>thn (fv sd s4 σ H4 y z' u w' _ I4 r2 r4 q4) λd' s5 ⟨z2,H5,I5,r5,k2,e2,q5⟩=>?_))
  subst e2
  cases r5
  exact VU ⟨H5,I5,q5⟩
def TruV (K:Kd)(x:V)(H:Hp)(k:Bool):Prop :=
 match x with
 |.non=>k=bE
 |.bl b=>k=b
 |.int i=>k=(i != 0)
 |.str y=>y.length<=sv/\k=((y.length:Int) != 0)
 |.byt y=>y.size<=sv/\k=((y.size:Int) != 0)
 |.ref p=>(∃xs,SqL K H p xs/\k=!xs.isEmpty)\/(∃xs,SqT K H p xs/\k=!xs.isEmpty)\/∃kvs,H p=bB (.dK kvs)/\k=!kvs.isEmpty
 |_=>False
theorem qd8 {κ:Type}{kvs:List (κ×V)}{vs:List (κ×Value)}(r:KV kvs vs):(!vs.isEmpty)=!kvs.isEmpty:=by
 cases r<;>rfl
theorem qah {xs:List V}{its:ar}(r:Vals xs its):(!its.toArray.isEmpty)=!xs.isEmpty:=by
 cases r<;>simp
theorem wO:(sv:Nat)<2 ^ 63:=by rw[Xe];decide
theorem qmh:TruR X (λx H Q=>∃k,TruV X.K x H k/\Q k H):=by
 intro sd s σ H x v Q I rx h
 obtain⟨k,e,q⟩:=h
 have hl:=wO
 have hs:sv=16777216:=Xe
 cases x with
 |non =>
  cases rx
  have e':k=bE:=e
  subst e'
  exact truthy_none ⟨H,I,q⟩
 |bl b =>
  cases rx
  have e':k=b:=e
  subst e'
  exact VU ⟨H,I,q⟩
 |int i =>
  obtain⟨t,rfl⟩:=rx
  have e':k=(i != 0):=e
  subst e'
  exact PySem.P.truthy_int ⟨H,I,q⟩
 |str y =>
  obtain⟨t,rfl⟩:=rx
  obtain⟨hy,e'⟩:y.length<=sv/\k=((y.length:Int) != 0):=e
  subst e'
  exact PySem.P.truthy_str '#' ⟨H,I.tok _,q⟩
 |byt y =>
  obtain⟨t,rfl⟩:=rx
  obtain⟨hy,e'⟩:y.size<=sv/\k=((y.size:Int) != 0):=e
  subst e'
  exact PySem.W.truthy_bytes '#' ⟨H,I.tok _,q⟩
 |ref p =>
  cases rx
  have e':(∃xs,SqL X.K H p xs/\k=!xs.isEmpty)\/(∃xs,SqT X.K H p xs/\k=!xs.isEmpty)\/∃kvs,H p=bB (.dK kvs)/\k=!kvs.isEmpty:=e
  rcases e' with ⟨xs,hx,e'⟩|⟨xs,hx,e'⟩|⟨kvs,hx,e'⟩
  .subst e'
   obtain⟨its,r,pl,hz⟩:=I.list hx
   have hlen:=r.length
   exact wpAny_truthy_list pl.isList (by simp only[KA];omega) ⟨H,I.tok _,by rw[qah r];exact q⟩
  .subst e'
   obtain⟨its,r,pl,hz⟩:=I.tuple hx
   have hlen:=r.length
   exact truthy_tuple pl (by simp only[KA];omega) ⟨H,I.tok _,by rw[qah r];exact q⟩
  .subst e'
   obtain⟨hz,hS,vs,r,m⟩:kvs.length<=sv/\(p==sU)=bE/\∃vs,KV kvs vs/\s.heap.DictOf (qcl X.prog X.w) p vs:=I.hok p _ hx
   have hlen:kvs.length=vs.length:=XX r
   exact wpAny_truthy_dict hS m '#' ⟨H,I.tok _,by rw[qd8 r];exact q⟩
 |_=>exact(show False from e).elim
theorem qib (ha:PE X a ta)(he:∀whole,isTrue a X.env whole=(do let v ←whole;standAt a.pos;holding [v] (truthy v))):
  PT X a (λσ H Q=>ta σ H λx H'=>∃k,TruV X.K x H' k/\Q k H'):=by
 intro sd s σ H Q I h
 exact isTrue_plain (thn (ha sd s σ H _ I h) λv s1 ⟨x,H1,I1,r1,q1⟩=>qmh sd s1 σ H1 x v Q I1 r1 q1) (he _)
theorem qen:OpR X (sH .Add) (λx y H Q=>∃i j,x=.str i/\y=.str j/\i.length+j.length<=sv/\Q (.str (i++j)) H):=by
 intro sd s σ H x y v u Q I rx ry h
 obtain⟨i,j,rfl,rfl,hz,q⟩:=h
 obtain⟨t,rfl⟩:=rx
 obtain⟨t',rfl⟩:=ry
 exact add_str (λt' tk=>⟨.str (i++j),H,I.tok _,⟨_,rfl⟩,q⟩) hz
theorem vals1 {x:V}{us:ar}(r:Vals [x] us):∃u,us=[u]/\RelV x u:=by
 cases r with
 |cons r1 r2=>cases r2;exact⟨_,rfl,r1⟩
theorem vals2 {x y:V}{us:ar}(r:Vals [x,y] us):∃u w',us=[u,w']/\RelV x u/\RelV y w':=by
 cases r with
 |cons r1 r2 =>
  cases r2 with
  |cons r3 r4=>cases r4;exact⟨_,_,rfl,r1,r3⟩
end
structure ObjM (h:K4)(x dx C:Kg)(mA:aq):Prop where
 obj:h.get? x=bB (ES C dx)
 ns:h.Ns1 dx mA
 ne:dx≠x
theorem qf4 {h:K4}{dx:Kg}{mA:aq}(n:h.Ns1 dx mA):∃od,h.get? dx=bB od/\∀name,E5 name od=bB (mA name):=by
 obtain⟨o,es,ep,ho,hd,hk,_,hm⟩:=n
 refine⟨o,ho,λname=>?_⟩
 have e:=hm name
 unfold nsFind findBy at e
 rw[←Array.find?_toList]at e
 unfold E5
 rw[hd]
 dsimp only
 split
 .rename_i y q
  rw[q]at e
  exact congrArg bB e
 .rename_i q
  rw[q]at e
  have a:es.toList.any (·.refKey)=bE:=by
   rw[List.any_eq_false]
   intro y hy
   obtain⟨z,t,c8⟩:=hk y (U9.mp hy)
   simp [DictEntry.refKey,c8]
  have a':¬es.toList.any (·.refKey)=bD:=by rw[a];exact Vl
  rw[sk a']
  exact congrArg bB e
theorem ObjM.look {h:K4}{x dx C:Kg}{mA:aq}(I:ObjM h x dx C mA):∃od,PySem.W.InstAt h x (ES C dx) C (bB od)/\∀name,E5 name od=bB (mA name) :=
 let ⟨od,ho,hl⟩:=qf4 I.ns
 ⟨od,⟨I.obj,rfl,rfl,ho⟩,hl⟩
section
variable {P:KO}{w:K0}{H H':Hp}{h h':K4}{a C dx:Kg}{fs fs':List (Str×V)}
theorem qi7 (hok:HOk P w H h)(e:H a=bB (.ins C dx fs)):∃mA,ObjM h a dx C mA/\(∀f,RelO (fs.lookup f) (mA f))/\PySem.Within mA (fs.map (·.1))/\fs.length<=1000/\H dx=bB (.own a):=by
 obtain⟨d,z,ne,ob,mA,n,r,q⟩:=(show QF P w H h a (.ins C dx fs) from hok a _ e)
 exact⟨mA,⟨ob,n,ne⟩,r,q,z,d⟩
end
structure Cls (K:Kd)(C:Kg):Prop where
 pg:Et K C Str.empty=bD
 hd:Fi K C=bD
 po:Fj K C=bD
 sa:Ug K (.ref C) "__setattr__" = bB (bB (.builtin "object.__setattr__"))
theorem Cls.get {K:Kd}{C:Kg}(c:Cls K C)(f:Str):Et K C f=bD:=c.pg
section
variable {X:Cx}{sd:ah}{σ:St}{H:Hp}{s:Kf}{A:KZ}{E:ag}{Q:ag}{c:Ke}{b:Bool}
inductive TyOf (K:Kd)(H:Hp):V->Ke->Prop where
 |non:TyOf K H .non (.type "NoneType")
 |bl (x:Bool):TyOf K H (.bl x) (.type "bool")
 |int (i:Int):TyOf K H (.int i) (.type "int")
 |str (x:Str):TyOf K H (.str x) (.type "str")
 |flt (x:UInt64):TyOf K H (.flt x) (.type "float")
 |lst {a:Kg} {xs:List V} (e:H a=bB (.lst xs)):TyOf K H (.ref a) (.type "list")
 |frz {a:Kg} {o:Obj} {xs:List V} (e:H a=bB (.frz o (.lst xs))):TyOf K H (.ref a) (.type "list")
 |tup {a:Kg} {xs:List V} (e:H a=bB (.tup xs)):TyOf K H (.ref a) (.type "tuple")
 |dK {a:Kg} {kvs:List (Key×V)} (e:H a=bB (.dK kvs)):TyOf K H (.ref a) (.type "dict")
 |dT {a:Kg} {kvs:List (List Key×V)} (e:H a=bB (.dT kvs)):TyOf K H (.ref a) (.type "dict")
 |ins {a C dx:Kg} {fs:List (Str×V)} (e:H a=bB (.ins C dx fs)) (cl:Cls K C) (ha:Ug K (.ref C) "__class__" = bB (bB (.builtin "object.__class__")))
   (hn:Ei K (.builtin "object.__class__") "__get__" = bB (bB (.builtin "getset_descriptor.__get__"))) (oJ:EU K (.builtin "object.__class__")=bB bD)
   (hm:Xp K C (.type "object")=bB bD):TyOf K H (.ref a) (.ref C)
theorem qfT {x:V}{u t:Ke}(I:Inv X sd σ H s)(rx:RelV x u)(ty:TyOf X.K H x t)(e:Uh X.K t c=bB b)(h:∀tk,Q (.bool b) { s with toks:=tk }):
  sm (model X.prog X.w) A (call (.builtin "isinstance") [u,c]) Q E s:=by
 cases ty with
 |non=>cases(show u=Vo from rx);exact Vq Fk I.kIn Uz e (λz=>nomatch z) h
 |bl y=>cases(show u=Um y from rx);exact Vq Fl I.kIn Uz e (λz=>nomatch z) h
 |int i=>obtain⟨t,q⟩:=(show ∃t,u=N6 i t from rx);cases q;exact Vq PySem.W.kitx_int I.kIn Uz e (λz=>nomatch z) h
 |str y=>obtain⟨t,q⟩:=(show ∃t,u=XT y t from rx);cases q;exact Vq PySem.W.kitx_str I.kIn Uz e (λz=>nomatch z) h
 |flt y=>obtain⟨t,q⟩:=(show ∃t,u=Value.float y t from rx);cases q;exact Vq PySem.W.kitx_float I.kIn Uz e (λz=>nomatch z) h
 | @lst a xs ea =>
  cases(show u=KP a from rx)
  obtain⟨_,_,n,_,h1⟩:=(show QF X.prog X.w H s.heap a (.lst xs) from I.hok a _ ea)
  exact Vq Ej I.kIn ⟨_,h1,rfl⟩ e (λz=>nomatch z) h
 | @frz a ob xs ea =>
  cases(show u=KP a from rx)
  obtain⟨_,_,_,n,_,h1⟩:=(show QF X.prog X.w H s.heap a (.frz ob (.lst xs)) from I.hok a _ ea)
  exact Vq Ej I.kIn ⟨_,h1,rfl⟩ e (λz=>nomatch z) h
 | @tup a xs ea =>
  cases(show u=KP a from rx)
  obtain⟨_,_,_,p⟩:=(show QF X.prog X.w H s.heap a (.tup xs) from I.hok a _ ea)
  obtain⟨o,h1,h2,_⟩:=p
  exact Vq Ff I.kIn ⟨o,h1,h2⟩ e (λz=>nomatch z) h
 | @dK a kvs ea =>
  cases(show u=KP a from rx)
  obtain⟨_,_,vs,_,p⟩:=(show QF X.prog X.w H s.heap a (.dK kvs) from I.hok a _ ea)
  obtain⟨o,es,ep,h1,h2,_⟩:=p
  exact Vq Ek I.kIn ⟨o,h1,h2.1⟩ e (λz=>nomatch z) h
 | @dT a kvs ea =>
  cases(show u=KP a from rx)
  obtain⟨_,_,xs,_,o,es,ep,h1,h2,_⟩:=(show QF X.prog X.w H s.heap a (.dT kvs) from I.hok a _ ea)
  exact Vq Ek I.kIn ⟨o,h1,h2.1⟩ e (λz=>nomatch z) h
 | @ins a C dx fs ea cl ha hn oJ hm =>
  cases(show u=KP a from rx)
  obtain⟨mA,O,_⟩:=qi7 I.hok ea
  obtain⟨od,J,_⟩:=O.look
  exact Vq (PySem.W.kitx_own (cl.get _) cl.hd ha hn oJ hm) I.kIn J e (λz=>nomatch z) h
end
structure Room (k:Nat)(A:KZ):Prop where
 hd:A.handled=bC
 dp:A.depth+3*k+5<recursionLimit
 un:A.units+16*k+200<sL
 gd:A.guards=bB []
theorem Room.mono {j k:Nat}{A:KZ}(r:Room k A)(h:j<=k):Room j A:=⟨r.hd,by have:=r.dp;omega,by have:=r.un;omega,r.gd⟩
theorem Room.deeper {k:Nat}{A:KZ}(r:Room (k+1) A)(env:Env):Room k (A.deeper env) :=
 ⟨r.hd,by have:=r.dp;show A.depth+1+3*k+5<_;omega,by have:=r.un;show A.units+3+16*k+200<_;omega,r.gd⟩
theorem Room.depth {k:Nat}{A:KZ}(r:Room k A):A.depth<recursionLimit:=by have:=r.dp;omega
theorem Room.units {k:Nat}{A:KZ}(r:Room k A):A.units+64<sL:=by have:=r.un;omega
def tNil:TA:=λ_ H Q=>Q [] H
def tCons (ta:TE)(tr:TA):TA:=λσ H Q=>ta σ H λx H1=>tr σ H1 λxs H2=>Q (x::xs) H2
section
variable {X:Cx}{e:KI}{es:aH}{te:TE}{t:TA}{pos:Pos}
theorem qhG:PA X [] tNil:=λ_ _ _ _ H Q I h=>Calls.spliced_nil ⟨[],H,I,.nil,h⟩
theorem qcr (ha:PE X e te)(hr:PA X es t)(hs:sj (e::es) X.env=(bE,eval e X.env)::sj es X.env:=by rfl):PA X (e::es) (tCons te t):=by
 intro pos sd s σ H Q I h
 rw[hs]
 show sm _ _ (spliced ((bE,eval e X.env)::sG pos (sj es X.env))) _ _ s
 refine Calls.spliced_cons (thn (ha sd s σ H _ I h) λu s1 ⟨x,H1,I1,r1,q1⟩=>?_)
 exact thn (hr pos sd s1 σ H1 _ I1 q1) λus s2 ⟨xs,H2,I2,r2,q2⟩=>⟨x::xs,H2,I2,.cons r1 r2,q2⟩
def tTup (t:TA):TE:=λσ H Q=>t σ H λxs H1=>xs.length<=sv/\∀p,H1 p=bC->Q (.ref p) (upd H1 p (.tup xs))
def tLst (t:TA):TE:=λσ H Q=>t σ H λxs H1=>xs.length<=sv/\∀p,H1 p=bC->Q (.ref p) (upd H1 p (.lst xs))
theorem qlA {x1}(h:PA X es t):PE X (.Tuple es x1 pos) (tTup t):=by
 intro sd s σ H Q I hq
 refine wpAny_Tuple_spliced (thn (h pos sd s σ H _ I hq) λus s1 ⟨xs,H1,I1,r,z,q⟩=>⟨by rw[←r.length];exact z,?_⟩)
 have hf:H1 s1.heap.objs.size=bC:=I1.hok.fresh (Kp _)
 refine⟨.ref s1.heap.objs.size,upd H1 s1.heap.objs.size (.tup xs),I1.laid (t':=s1.toks) (λb u e=>Kh _ e) (Kp _) ?_,rfl,q _ hf⟩
 exact⟨z,us,r,⟨_,Ks _ rfl,rfl,_,rfl⟩⟩
theorem qhP (h:PA X es t):PE X (.List es pos) (tLst t):=by
 intro sd s σ H Q I hq
 refine wpAny_List_spliced (thn (h pos sd s σ H _ I hq) λus s1 ⟨xs,H1,I1,r,z,q⟩=>⟨by rw[←r.length];exact z,?_⟩)
 have hf:H1 s1.heap.objs.size=bC:=I1.hok.fresh (Kp _)
 refine⟨.ref s1.heap.objs.size,upd H1 s1.heap.objs.size (.lst xs),I1.laid (t':=s1.toks) (λb u e=>Kh _ e) (Kp _) ?_,rfl,q _ hf⟩
 exact⟨z,us,0,r,Ks _ rfl⟩
end
abbrev Sp:=List V->Hp->VK->XK->Prop
abbrev CXT:=List Env->Hp->Kf->XK->Ke->Kf->Prop
structure Env0 (P:KO)(w:K0)(K:Kd)(mg:aq)(base:K4)(A:KZ)(outer:bc)(s:Kf)(H:Hp):Prop where
 frames:A.frames=bB outer
 mod:Mod K mg base
 bs:∀b o,base.get? b=bB o->s.heap.get? b=bB o/\H b=bC
 bsz:base.objs.size<=s.heap.objs.size
 funs:s.heap.FunFrames base outer
 frf:∀b∈frs outer,H b=bC
 hok:HOk P w H s.heap
 bare:ND s.gens
def CE (outer:bc)(P:KO)(w:K0)(H:Hp)(s:Kf)(Q:VK)(u:Ke)(s':Kf):Prop :=
 ∃v H',s'.os=s.os/\ND s'.gens/\Un (frs outer) [] H H' s.heap s'.heap/\HOk P w H' s'.heap/\RelV v u/\Q v H'
def CR (CX:CXT)(outer:bc)(P:KO)(w:K0)(H:Hp)(s:Kf)(Q:VK)(E:XK)(r:Result)(s':Kf):Prop :=
 match r with
 |.ok (.ret u)=>CE outer P w H s Q u s'
 |.ok _=>False
 |.error e=>CX outer H s E e s'
structure FnOk (P:KO)(w:K0)(K:Kd)(mg:aq)(base:K4)(CX:CXT)(k:Nat)(f:Kg)(fd:VW)(ps:aA)(sp:Sp):Prop where
 len:∀vs H Q E,sp vs H Q E->vs.length=ps.length
 run:∀(A:KZ) (outer:bc) (s:Kf) (H:Hp) (args:Args) (us:ar) (vs:List V) (Q:VK) (E:XK),Room k A->Env0 P w K mg base A outer s H->BindsTo s fd args (ps.zip us)->Vals vs us->sp vs H Q E->
  td (model P w) A (.call (.ref f) args) (CR CX outer P w H s Q E) s
theorem FnOk.imp {P:KO}{w:K0}{K:Kd}{mg:aq}{base:K4}{CX:CXT}{k:Nat}{f:Kg}{fd:VW}{ps:aA}{sp oK:Sp}(F:FnOk P w K mg base CX k f fd ps sp)
  (h:∀vs H Q E,oK vs H Q E->sp vs H Q E):FnOk P w K mg base CX k f fd ps oK :=
 ⟨λvs H Q E q=>F.len vs H Q E (h _ _ _ _ q),λA outer s H args us vs Q E hr he hb hv hs=>F.run A outer s H args us vs Q E hr he hb hv (h _ _ _ _ hs)⟩
section
variable {X:Cx}{sd:ah}{σ:St}{H:Hp}{s s':Kf}
theorem Inv.env0 (I:Inv X sd σ H s):Env0 X.prog X.w X.K X.mg X.base X.A X.stack s H :=
 ⟨I.ok.frames,I.ok.mod,I.bs,Vx I.ok.bsz I.sz,I.stack,I.stkFree,I.hok,I.bare⟩
theorem Inv.after {Q:VK}{u:Ke}(I:Inv X sd σ H s)(h:CE X.stack X.prog X.w H s Q u s'):EP X sd σ Q u s':=by
 obtain⟨v,H',os,bare,un,hok,r,q⟩:=h
 obtain⟨hh,g,d,t,l0⟩:=s'
 obtain rfl:l0=s.os:=os
 exact⟨v,H',I.call (h':=hh) (g':=g) (d':=d) (t':=t) (ch:=[]) un hok bare (λb z=>absurd z '+'),r,q⟩
end
def tCall (sp:Sp)(hV:List V)(E:XK)(t:TA):TE:=λσ H Q=>t σ H λvs H1=>sp (vs++hV) H1 Q E
def Binds (K:Kd)(fd:VW)(ps:aA)(ds:ar):Prop :=
 ∀(s:Kf) (us:ar),K.In s.heap->(us++ds).length=ps.length->BindsTo s fd ⟨us,[]⟩ (ps.zip (us++ds))
theorem Binds.all {K:Kd}{fd:VW}{ps:aA}(h:∀us:List Ke,us.length=ps.length->bindArgs fd ⟨us,[]⟩=pure (ps.zip us)):Binds K fd ps []:=λs us _ hl=>by
 rw[Vw]at hl ⊢
 exact .of_eq (h us hl)
def qbL (CX:CXT)(X:Cx)(E:XK):Prop:=∀(sd:ah) (σ:St) (H:Hp) (s:Kf) (e:Ke) (s':Kf),Inv X sd σ H s->CX X.stack H s E e s'->X.xe e s'
section
variable {X:Cx}{CX:CXT}{k:Nat}{f C:Kg}{fd:VW}{ps:aA}{sp:Sp}{hV:List V}{ds:ar}{E:XK}{x m:Str}{p pos apos:Pos}{e o:KI}{es:aH}{ta:TE}{t:TA}
theorem qlU {sd:ah}{σ:St}{H:Hp}{s:Kf}{Q:VK}{us:ar}{vs:List V}(F:FnOk X.prog X.w X.K X.mg X.base CX k f fd ps sp)(hr:Room k X.A)(hb:Binds X.K fd ps ds)(hd:Vals hV ds)(hx:qbL CX X E)
  (I:Inv X sd σ H s) (r:Vals vs us) (h:sp (vs++hV) H Q E):sm (model X.prog X.w) X.A (call (.ref f) us) (EP X sd σ Q) X.xe s:=by
 have r2:Vals (vs++hV) (us++ds):=r.append hd
 have hl:(us++ds).length=ps.length:=by rw[←r2.length];exact F.len _ _ _ _ h
 refine wpAny_call (codeAny_mono (F.run X.A X.stack s H ⟨us,[]⟩ (us++ds) (vs++hV) Q E hr I.env0 (hb s us I.kIn hl) r2 h) λr s' hq=>?_)
 cases r with
 |error e=>exact hx sd σ H s e s' I hq
 |ok fl =>
  cases fl with
  |ret u=>exact I.after hq
  |next=>exact U8 hq
  |brk=>exact U8 hq
  |cont=>exact U8 hq
theorem qfk (F:FnOk X.prog X.w X.K X.mg X.base CX k f fd ps sp)(hr:Room k X.A)(hg:Gl X x)(hm:X.mg x=bB (.ref f))(hk:UD X.K (.ref f)=bD)(hb:Binds X.K fd ps ds)(hd:Vals hV ds)(hx:qbL CX X E)
  (ha:PA X (e::es) t) (dH:(x==("__debug__" : Str))=bE:=by decide) (he:sj (e::es) X.env=(bE,eval e X.env)::sj es X.env:=by rfl) (dq:(sG pos (sj es X.env)).any (·.1)=bE:=by rfl):
  PE X (.Call (.Name x p) (e::es) [] pos) (tCall sp hV E t):=by
 intro sd s σ H Q I h
 refine N8 (qfh I hg hm ?_ dH)
 refine PySem.W.callWith_K (h₀:=X.base) I.ok.mod.kin hk (thn (ha pos sd s σ H _ I h) λus s1 ⟨vs,H1,I1,r,q⟩=>⟨I1.kIn,?_⟩) he dq
 exact qlU F hr hb hd hx I1 r q
end
structure FnScope (N P:aA)(sc:V5):Prop where
 kind:sc.kind=.function
 co:sc.isCoroutine=bE
 gen:sc.isGenerator=bE
 nd:N.Nodup
 pre:N.take P.length=P
 par:∀x∈P,sc.names.lookup x=bB .local\/sc.names.lookup x=bB .cell
 nofree:∀y∈sc.names,y.2≠.free
theorem qa9 {kindOf:Str->Option Eu}{x:Str}:∀{binds:aZ} {m:aq},(∀v,(x,v)∉binds)->bindL kindOf binds m x=m x
 |[],_,_=>rfl
 |(n,v)::r,m,h=>by
  unfold bindL
  rw[qa9 λw hw=>h w (KS _ hw)]
  split
  .have:x≠n:=by rintro rfl;exact h v VO
   simp [this]
  .rfl
theorem qa7 {kindOf:Str->Option Eu}{x:Str}:∀{binds:aZ} {m:aq},(∀v,(x,v)∉binds)->bindC kindOf binds m x=m x
 |[],_,_=>rfl
 |(n,v)::r,m,h=>by
  unfold bindC
  rw[qa7 λw hw=>h w (KS _ hw)]
  split
  .rfl
  .have:x≠n:=by rintro rfl;exact h v VO
   simp [this]
theorem qa8 {kindOf:Str->Option Eu}{x:Str}{v:Ke}:∀{P:aA} {vs:ar} {i:Nat} {m:aq},P.Nodup->P[i]?=bB x->vs[i]?=bB v->kindOf x=bB .local->
  bindL kindOf (P.zip vs) m x=bB v
 |[],_,_,_,_,h,_,_=>by simp at h
 |_::_,[],_,_,_,_,h,_=>by simp at h
 |p::P,w::vs,0,m,nd,h1,h2,hk=>by
  simp at h1 h2;subst h1;subst h2
  show bindL kindOf ((p,w)::P.zip vs) m p=_
  unfold bindL
  rw[qa9 λv hv=>(VZ.mp nd).1 (EV hv).1,si hk]
  simp
 |p::P,w::vs,i+1,m,nd,h1,h2,hk=>by
  show bindL kindOf ((p,w)::P.zip vs) m x=_
  unfold bindL
  exact qa8 (i:=i) (VZ.mp nd).2 (by simpa using h1) (by simpa using h2) hk
theorem qa6 {kindOf:Str->Option Eu}{x:Str}{v:Ke}:∀{P:aA} {vs:ar} {i:Nat} {m:aq},P.Nodup->P[i]?=bB x->vs[i]?=bB v->kindOf x≠bB .local->
  bindC kindOf (P.zip vs) m x=bB v
 |[],_,_,_,_,h,_,_=>by simp at h
 |_::_,[],_,_,_,_,h,_=>by simp at h
 |p::P,w::vs,0,m,nd,h1,h2,hk=>by
  simp at h1 h2;subst h1;subst h2
  show bindC kindOf ((p,w)::P.zip vs) m p=_
  unfold bindC
  rw[qa7 λv hv=>(VZ.mp nd).1 (EV hv).1,sk hk]
  simp
 |p::P,w::vs,i+1,m,nd,h1,h2,hk=>by
  show bindC kindOf ((p,w)::P.zip vs) m x=_
  unfold bindC
  exact qa6 (i:=i) (VZ.mp nd).2 (by simpa using h1) (by simpa using h2) hk
def start (N:aA)(vs:List V):St:=vs.map bB++Kk (N.length-vs.length) bC
def cxOf (CX:CXT)(P:KO)(w:K0)(K:Kd)(mg:aq)(base:K4)(N:aA)(qual:Str)(scope:V5)(f:Kg)(cd:Ke)(A:KZ)(outer:bc)(s:Kf)(H:Hp)(E:XK):Cx where
 prog:=P
 w:=w
 K:=K
 mg:=mg
 base:=base
 A:=A.deeper (tK qual scope s.heap.objs.size f cd)
 N:=N
 s₀:=s
 H₀:=H
 env:=tK qual scope s.heap.objs.size f cd
 outer:=outer
 stack:=tK qual scope s.heap.objs.size f cd::outer
 ex:=[]
 calm:=bD
 fn:=λ_=>bD
 pn:=[]
 xe:=λe s'=>sm (model P w) (A.deeper (tK qual scope s.heap.objs.size f cd)) (leaving (tK qual scope s.heap.objs.size f cd) e) (λ_ mU=>CX outer H s E e mU) (λe' mU=>CX outer H s E e' mU) s'
theorem qcU {sc:V5}{n:Nat}{x:Str}(h:sc.names.lookup x=bB .cell):∃c,(sP n sc.names []).lookup x=bB c:=by
 have q:=EZ sc.names n [] (.inl h)
 exact X5.mp q
theorem qfS {CX:CXT}{P:KO}{w:K0}{K:Kd}{mg:aq}{base:K4}{N ps:aA}{qual:Str}{scope:V5}{f:Kg}{cd:Ke}{A:KZ}{outer:bc}{s s1:Kf}{H:Hp}{E:XK}{us:ar}{vs:List V}
  (S:FnScope N ps scope) (hd:A.handled=bC) (e0:Env0 P w K mg base A outer s H) (hl:vs.length=ps.length) (r:Vals vs us)
  (x:InCallC s s.heap.objs.size (bindL (tK qual scope s.heap.objs.size f cd).kindOf (ps.zip us) λ_=>bC) (sP (s.heap.objs.size+1) scope.names []) (bindC (tK qual scope s.heap.objs.size f cd).kindOf (ps.zip us) λ_=>bC) s1):
  Inv (cxOf CX P w K mg base N qual scope f cd A outer s H E) [] (start N vs) H s1:=by
 have dq:ps.length<=N.length:=by have:=congrArg Xf S.pre;rw[Ew]at this;omega
 obtain⟨h1,tk,rfl,hk⟩:=x.done
 have kM:∀b:Kg,b∉(cxOf CX P w K mg base N qual scope f cd A outer s H E).ex:=λb z=>absurd (show b∈([]:List Kg) from z) '+'
 refine⟨⟨e0.mod,S.kind,rfl,rfl,Kp _,λy z c h1 h2=>?_,λy hy=>?_,λy c _ h=>?_,λ_=>hd,Around.frames_deeper e0.frames,.inr ⟨rfl,rfl⟩,λb z=>absurd z (kM b),e0.bs,e0.bsz,λb _ _=>kM b,λb z=>absurd z (kM b),e0.funs,e0.frf⟩,
  rfl,e0.bare,Un.kept hk,⟨_,x.toInCall.ns,λi y v h1 h2 h3=>?_⟩,λy c h=>⟨_,x.cell y c h⟩,e0.hok.fresh (Kp _),λy c h=>?_,λp hp=>absurd (show p∈([]:List (Kg×Obj)) from hp) '+',e0.hok.kept hk,?_⟩
 .exact name_of_addr x.apart (Uj h1) (Uj h2)
 .have hy:scope.names.lookup y=bB .cell\/scope.names.lookup y=bB .free:=hy
  rcases hy with hy|hy
  .exact qcU hy
  .exact absurd rfl (S.nofree _ (Uj hy))
 .exact VL (x.above y c (Uj h))
 .have hi:i<vs.length:=by
   unfold start at h2
   by_cases hi:i<vs.length
   .exact hi
   .rw[Vy (by simpa using hi)]at h2
    rw[US]at h2
    split at h2<;>cases h2
  have ha:vs[i]?=bB v:=by
   unfold start at h2
   rw[Vf (by simpa using hi),KJ]at h2
   cases e:vs[i]? with
   |none=>rw[e]at h2;cases h2
   |some a=>rw[e]at h2;cases h2;rfl
  obtain⟨u,hu,rv⟩:=r.get ha
  have hp:ps[i]?=bB y:=by
   rw[←S.pre,Ex '#'];exact h1
  have oM:ps.Nodup:=by rw[←S.pre];exact S.nd.sublist (List.take_sublist _ _)
  refine⟨u,rv,?_⟩
  rcases S.par y (KY hp) with k|k
  .exact .inl ⟨k,qa8 oM hp hu k⟩
  .obtain⟨c,e⟩:=qcU (n:=s.heap.objs.size+1) k
   refine .inr ⟨.inl k,c,e,?_⟩
   have q:=x.cell y c e
   rw[qa6 oM hp hu (by show scope.names.lookup y≠_;rw[k];decide)]at q
   exact q
 .exact e0.hok.fresh (VL (x.above y c (Uj h)))
 .unfold start
  show _=N.length
  rw[Kr,Kc,Vj]
  omega
theorem fn_of {CX:CXT}{P:KO}{w:K0}{K:Kd}{mg:aq}{base:K4}{k:Nat}{f:Kg}{name qual:Str}{params:Arguments}{body:bz}{scope:V5}{dV kV doc pm cdv ct oc:Ke}{an od:aO}
  {osl:au} {N ps:aA} {sp:Sp} (lk:K.lookup f=bB ⟨oc,od,.func (UL name qual params body scope dV kV doc pm an cdv ct),osl⟩) (dD:XJ K cdv qual=bD) (S:FnScope N ps scope)
  (len:∀vs H Q E,sp vs H Q E->vs.length=ps.length)
  (cT:∀(A:KZ) (outer:bc) (s:Kf) (H:Hp) (vs:List V) (Q:VK) (E:XK),Room k (A.deeper (tK qual scope s.heap.objs.size f cdv))->sp vs H Q E->
   ∃t,PSs (cxOf CX P w K mg base N qual scope f cdv A outer s H E) body t/\t { nx:=λ_ H'=>Q .non H',rt:=Q } (start N vs) H):
  FnOk P w K mg base CX (k+1) f (UL name qual params body scope dV kV doc pm an cdv ct) ps sp:=by
 refine⟨len,λA outer s H args us vs Q E hr e0 hb r ke=>?_⟩
 have hl:=len _ _ _ _ ke
 have KX:K.In s.heap:=e0.mod.kin.keeps λb o e=>(e0.bs b o e).1
 have lim:s.heap.NoLimit:=e0.mod.nolimit.keeps λb o e=>(e0.bs b o e).1
 have kN:∀y∈ps.zip us,scope.names.lookup y.1=bB .local\/(scope.names.lookup y.1=bB .cell/\((sP (s.heap.objs.size+1) scope.names []).lookup y.1).isSome=bD):=λ⟨n,v⟩ hy=>by
  rcases S.par n (EV hy).1 with q|q
  .exact .inl q
  .exact .inr ⟨q,EZ _ _ _ (.inl q)⟩
 refine codeAny_call_function hr.depth (KX _ _ lk) rfl S.co S.gen rfl (PySem.W.codeRec_of KX dD) (hb _ _ _ _ ?_)
 refine wpAny_newFunctionEnv_cells S.kind kN λenv he s1 x=>?_
 subst he
 refine⟨lim.keeps x.toInCall.keep,codeAny_func ?_⟩
 obtain⟨t,ht,hq⟩:=cT A outer s H vs Q E (hr.deeper _) ke
 have I:Inv (cxOf CX P w K mg base N qual scope f cdv A outer s H E) [] (start N vs) H s1:=qfS S hr.hd e0 hl r x
 refine Uy (ht [] s1 (start N vs) H _ I hq) (λfl s' hs=>?_) λe s' hs=>hs
 have fin:∀{σ':St} {H':Hp} {v:V} {u:Ke},Inv (cxOf CX P w K mg base N qual scope f cdv A outer s H E) [] σ' H' s'->RelV v u->Q v H'->CE outer P w H s Q u s' :=
  λ{σ' H' v u} J rv q=>⟨v,H',J.os,J.bare,J.base,J.hok,rv,q⟩
 cases fl with
 |ret u =>
  obtain⟨v,σ',H',J,rv,q⟩:=hs
  exact fin J rv q
 |next =>
  obtain⟨σ',H',J,q⟩:=hs
  exact fin (v:=V.non) (u:=Vo) J rfl q
 |brk =>
  obtain⟨_,_,_,q⟩:=hs
  exact U8 q
 |cont =>
  obtain⟨_,_,_,q⟩:=hs
  exact U8 q
section
variable {X:Cx}{x:Str}{p pos:Pos}{e:KI}{es:aH}{t:TA}{id T:String}{r:bw}
def tCB (r:bw)(t:TA):TE:=λσ H Q=>t σ H λvs H1=>r vs H1 Q
theorem qay (hc:Jj X (.builtin id) r)(hg:Gl X x)(hm:X.mg x=bC)(hv:sE x=bB (.builtin id))(ha:PA X (e::es) t)(hn:x ≠ "__name__" := by decide)(dH:(x==("__debug__" : Str))=bE:=by decide)
  (he:sj (e::es) X.env=(bE,eval e X.env)::sj es X.env:=by rfl) (dq:(sG pos (sj es X.env)).any (·.1)=bE:=by rfl):PE X (.Call (.Name x p) (e::es) [] pos) (tCB r t):=by
 intro sd s σ H Q I h
 refine N8 (wN I hg hm hv ?_ hn dH)
 exact PyProof.Rows.callWith_builtin1 (thn (ha pos sd s σ H _ I h) λus s1 ⟨vs,H1,I1,r1,q1⟩=>hc sd s1 σ H1 vs us Q I1 r1 q1) he dq
theorem qgf (hc:Jj X (.type T) r)(hg:Gl X x)(hm:X.mg x=bC)(hv:sE x=bB (.type T))(ha:PA X (e::es) t)(hn:x ≠ "__name__" := by decide)(dH:(x==("__debug__" : Str))=bE:=by decide)
  (he:sj (e::es) X.env=(bE,eval e X.env)::sj es X.env:=by rfl) (dq:(sG pos (sj es X.env)).any (·.1)=bE:=by rfl):PE X (.Call (.Name x p) (e::es) [] pos) (tCB r t):=by
 intro sd s σ H Q I h
 refine N8 (wN I hg hm hv ?_ hn dH)
 exact U0 (thn (ha pos sd s σ H _ I h) λus s1 ⟨vs,H1,I1,r1,q1⟩=>hc sd s1 σ H1 vs us Q I1 r1 q1) he dq
end
end L2
namespace HT
open PySem PyProof.Rows
noncomputable def lexLt:List Int->List Int->Bool
 |[],[]=>bE
 |[],_::_=>bD
 |_::_,[]=>bE
 |x::xs,y::ys=>if x=y then lexLt xs ys else decide (x<y)
theorem ZZ (x y:Int)(xs ys:List Int):lexLt (x::xs) (y::ys)=if x=y then lexLt xs ys else decide (x<y):=rfl
theorem qdN (A:KZ)(s:Kf)(a:Int)(t:Tok)(c:Int)(u:Tok)(prog:KO)(w:K0)(E:Ke->Kf->Prop)(Q:Ke->Kf->Prop)(h:Q (.bool (decide (a<c))) s):
  sm (model prog w) A (sR .Lt (.int a t) (.int c u)) Q E s :=
 (PyProof.Rows.lt_int h:sm (model prog w) A (sA .Lt (.int a t) (.int c u)) Q E s)
section
open PySem.SeqAt
open PySem.AutoSeq1 (wpAny_loadPart')
open PySem.MeetsSeq PySem.MeetsSeq2 PySem.MeetsSeq3
end
section
variable {prog:KO}{w:K0}{A:KZ}{E:Ke->Kf->Prop}{s:Kf}
theorem qiG {t b:Kg}{vs ws:List Ke}{Q:Ke->Kf->Prop}(ht:IsTup s.heap t vs.toArray)(hb:IsTup s.heap b ws.toArray)(hv:vs≠[])
  (h1:ws=[]->Q (.ref t) s) (h2:ws≠[]->Q (.ref s.heap.objs.size) { s with heap:=s.heap.push { cls:=.type "tuple", data:=.seq (vs++ws).toArray } })
  (hsz:vs.length+ws.length<=sv):sm (model prog w) A (sH .Add (.ref t) (.ref b)) Q E s:=by
 obtain⟨⟨cls,dd,data,sl⟩,ho,hc,n,hd⟩:=id ht
 obtain⟨⟨fA,dM,data2,dN⟩,eY,eF,n2,hd2⟩:=id hb
 simp only at hc hd eF hd2
 subst hc hd eF hd2
 have e:vs.toArray++ws.toArray=(vs++ws).toArray:=by simp
 by_cases hw:ws=[]
 .exact Ey ⟨_,ho,rfl⟩ ⟨_,eY,rfl⟩ Ez seq_tuple_add Nl Nh (X6 _ _)
   (tuple_addW1 t b vs.toArray ws.toArray n n2 dd dM sl dN (by simpa using hv) (by simp [hw])) ⟨ho,eY,h1 hw⟩
 .refine Ey ⟨_,ho,rfl⟩ ⟨_,eY,rfl⟩ Ez seq_tuple_add Nl Nh (X6 _ _)
   (tuple_addW2 t b vs.toArray ws.toArray n n2 dd dM sl dN (by simpa using hv) (by simpa using hw) (by rw[KA,KA];exact hsz)) ⟨ho,eY,?_⟩
  rw[e]
  exact h2 hw
noncomputable def sIx (n d:Nat):Option Int->Nat
 |none=>d
 |some v=>if v<0 then (v+(n:Int)).toNat else min v.toNat n
theorem qjW (n d k:Nat):sIx n d (bB (k:Int))=min k n:=by
 show(if (k:Int)<0 then ((k:Int)+(n:Int)).toNat else min (k:Int).toNat n)=min k n
 rw[sk '#',Va]
theorem qlY (n d:Nat)(hd:d<=n)(o:Option Int):sIx n d o<=n:=by
 cases o with
 |none=>exact hd
 |some v =>
  show(if v<0 then (v+(n:Int)).toNat else min v.toNat n)<=n
  by_cases hv:v<0
  .rw[si hv];omega
  .rw[sk hv];exact Nat.min_le_right _ _
theorem qeO (v:Int)(n d:Nat):(if v<0 then max (v+(n:Int)) 0 else min v (n:Int))=((sIx n d (bB v):Nat):Int):=by
 show(if v<0 then max (v+(n:Int)) 0 else min v (n:Int))=(((if v<0 then (v+(n:Int)).toNat else min v.toNat n):Nat):Int)
 by_cases hv:v<0
 .simp only[si hv];omega
 .simp only[sk hv];omega
theorem qd1 (lo hi:Option Int)(n:Nat):X3 lo hi 1 (n:Int)=(((sIx n 0 lo:Nat):Int),((sIx n n hi:Nat):Int)):=by
 have h1:¬((1:Int)<0):=by omega
 unfold X3
 simp only[h1,sQ]
 refine V0 ?_ ?_
 .cases lo with
  |none=>rfl
  |some v=>exact qeO v n 0
 .cases hi with
  |none=>rfl
  |some v=>exact qeO v n n
theorem qeq (i j:Nat):Xa (i:Int) (j:Int) 1=j-i:=by
 unfold Xa
 have h1:(1:Int) > 0:=by omega
 simp only[h1,sW,Int.ediv_one]
 split<;>omega
theorem qaG {v:Ke}{o:Option Int}{Q:Option Int->Kf->Prop}(p:IsPart v o)(h:Q o s):sm (model prog w) A (Builtin.Slice.slicePartIndex v) Q E s:=by
 cases p with
 |none=>exact slicePart_none h
 |int i t=>exact slicePart_int h
theorem wW {sl:Kg}{vl vu:Ke}{lo hi:Option Int}{n:Nat}{Q:Int×Int×Nat->Kf->Prop}(hs:s.heap.IsSliceOf sl vl vu .none)(pl:IsPart vl lo)(pu:IsPart vu hi)
  (h:Q (((sIx n 0 lo:Nat):Int),1,sIx n n hi-sIx n 0 lo) s):sm (model prog w) A (Ec (.ref sl) (pure (n:Int))) Q E s:=by
 obtain⟨os,gq,l5,l6⟩:=id hs
 unfold Ec Builtin.Slice.sliceFields
 refine Kb (Kb (UH gq l6 (x:=vl) rfl (Kb (UH gq l6 (x:=vu) rfl (Kb (UH gq l6 (x:=.none) rfl (Ki ?_)))))))
 refine Kb (slicePart_none ?_)
 show sm _ _ (if ((1:Int)==0)=bD then _ else _) _ _ s
 rw[sk '%']
 refine Kb (qaG pl (Kb (qaG pu (Kb (Ki ?_)))))
 show sm _ _ (match X3 lo hi 1 (n:Int) with | (lo,hi)=>pure (lo,(1:Int),Xa lo hi 1)) _ _ s
 rw[qd1 lo hi n]
 show sm _ _ (pure (((sIx n 0 lo:Nat):Int),(1:Int),Xa ((sIx n 0 lo:Nat):Int) ((sIx n n hi:Nat):Int) 1)) _ _ s
 rw[qeq]
 exact Ki h
theorem qh1 (xs:Array Ke)(i k:Nat):((Ku k).filterMap λ(m:Nat)=>xs[((i:Int)+(m:Int)*1).toNat]?).toArray=((xs.toList.drop i).take k).toArray:=by
 have e:(λ(m:Nat)=>xs[((i:Int)+(m:Int)*1).toNat]?)=λm=>xs[i+m]?:=by
  funext m
  have:((i:Int)+(m:Int)*1).toNat=i+m:=by omega
  rw[this]
 rw[e]
 have:=pick_run xs i k
 rw[List.filterMap_map]at this
 have e2:((λx=>xs[x]?) ∘ λx=>i+x)=λm=>xs[i+m]?:=rfl
 rw[e2]at this
 rw[this]
theorem YZ {t sl:Kg}{items:Array Ke}{vl vu:Ke}{lo hi:Option Int}{Q:Ke->Kf->Prop}(ht:IsTup s.heap t items)(hs:s.heap.IsSliceOf sl vl vu .none)(pl:IsPart vl lo)(pu:IsPart vu hi)
  (hw:¬(sIx items.size 0 lo=0/\sIx items.size items.size hi=items.size))
  (h:Q (.ref s.heap.objs.size) { s with heap:=s.heap.push { cls:=.type "tuple", data:=.seq ((items.toList.drop (sIx items.size 0 lo)).take (sIx items.size items.size hi-sIx items.size 0 lo)).toArray } })
  (hsz:items.size<=sv):sm (model prog w) A (getItem (.ref t) (.ref sl)) Q E s:=by
 have eK:sizeOk (.seq ((items.toList.drop (sIx items.size 0 lo)).take (sIx items.size items.size hi-sIx items.size 0 lo)).toArray):=by
  show((items.toList.drop (sIx items.size 0 lo)).take (sIx items.size items.size hi-sIx items.size 0 lo)).toArray.size<=sv
  rw[KA,Ew,EA,Vh]
  omega
 have hj:sIx items.size items.size hi<=items.size:=qlY _ _ (Kp _) hi
 obtain⟨os,gq,l5,l6⟩:=id hs
 have hTs:s.TypeIs (.ref sl) "slice" := ⟨os,gq,l5⟩
 unfold getItem
 try with_reducible refine VJ ?_
 first|refine Kb (Ki ?_)|skip
 refine Kb (wpAny_sequenceKey ht.typeIs '%' ?_)
 refine Kb (Uc (name:=Kn "__getitem__") ht.typeIs UW
  (VE UW ht.typeIs entry_tuple_getitem ?_ (args_tuple_getitem _ _)))
 show sm _ _ (Ed (.ref t) >>= _) _ _ s
 refine Kb (tupleItemsOf_ ht ?_)
 refine Kb (wpAny_typeOf hTs ?_)
 rw[si '%']
 refine Kb (wW hs pl pu ?_)
 have mV:¬((((sIx items.size 0 lo:Nat):Int)==0&&(1:Int)==1&&(sIx items.size items.size hi-sIx items.size 0 lo)==items.size)=bD):=by
  intro q
  rw[KF,KF]at q
  have q1:((sIx items.size 0 lo:Nat):Int)=0:=eq_of_beq q.1.1
  have q2:sIx items.size items.size hi-sIx items.size 0 lo=items.size:=eq_of_beq q.2
  exact hw ⟨by omega,by omega⟩
 show sm _ _ (if (((sIx items.size 0 lo:Nat):Int)==0&&(1:Int)==1&&(sIx items.size items.size hi-sIx items.size 0 lo)==items.size)=bD then _ else _) _ _ s
 rw[sk mV,qh1]
 first
  |exact Kb (m:=Xj _) (Vb (Ki ⟨_,rfl,Ki h⟩) eK)
  |exact Kb (m:=Xj _) (Vb (Kb (Ki (Ki ⟨_,rfl,Ki h⟩))) eK)
  |exact Kb (Kb (m:=Xj _) (Vb (Ki (Ki ⟨_,rfl,Ki h⟩)) eK))
  |exact Kb (Kb (m:=Xj _) (Vb (Ki ⟨_,rfl,Ki h⟩) eK))
end
end HT
namespace L2
open PySem PySem.Spec PyProof.Rows
abbrev TO:=St->Hp->(Option Int->Hp->Prop)->Prop
def PO (X:Cx)(e:Option KI)(t:TO):Prop :=
 ∀(sd:ah) (s:Kf) (σ:St) (H:Hp) (Q:Option Int->Hp->Prop),Inv X sd σ H s->t σ H Q->
  sm (model X.prog X.w) X.A (evalPart e X.env) (λu s'=>∃o H',Inv X sd σ H' s'/\IsPart u o/\Q o H') X.xe s
def qj4:TO:=λ_ H Q=>Q bC H
def tPart (t:TE):TO:=λσ H Q=>t σ H λx H1=>∃i,x=.int i/\Q (bB i) H1
section
variable {X:Cx}{e:KI}{te:TE}{lo hi:Option KI}{tl th:TO}{pos p2:Pos}
theorem qjJ:PO X bC qj4:=by
 intro sd s σ H Q I h
 rw[evalPart_none]
 exact Ki ⟨bC,H,I,.none,h⟩
theorem qjK (h:PE X e te):PO X (bB e) (tPart te):=by
 intro sd s σ H Q I hw
 rw[evalPart_some]
 refine thn (h sd s σ H _ I hw) λu s1 ⟨x,H1,I1,r1,q1⟩=>?_
 obtain⟨i,rfl,q⟩:=q1
 obtain⟨t,rfl⟩:=r1
 exact⟨bB i,H1,I1,.int i t,q⟩
def SlR (X:Cx)(r:aR):Prop :=
 ∀(sd:ah) (s:Kf) (σ:St) (H:Hp) (x:V) (v vl vu:Ke) (lo hi:aV) (sl:Kg) (Q:VK),Inv X sd σ H s->RelV x v->s.heap.IsSliceOf sl vl vu .none->IsPart vl lo->IsPart vu hi->r x lo hi H Q->
  ∃T id,typeLookup (.type T) "__getitem__" = pure (bB (.builtin id))/\s.TypeIs v T/\sm (model X.prog X.w) X.A (getItem v (.ref sl)) (EP X sd σ Q) X.xe s
theorem SlR.or {r r':aR}(h:SlR X r)(h':SlR X r'):SlR X (λx lo hi H Q=>r x lo hi H Q\/r' x lo hi H Q):=by
 intro sd s σ H x v vl vu lo hi sl Q I rx hs pl pu q
 rcases q with q|q
 .exact h sd s σ H x v vl vu lo hi sl Q I rx hs pl pu q
 .exact h' sd s σ H x v vl vu lo hi sl Q I rx hs pl pu q
def tSl (r:aR)(te:TE)(tl th:TO):TE:=λσ H Q=>te σ H λx H1=>tl σ H1 λl H2=>th σ H2 λu H3=>r x l u H3 Q
theorem qhQ {r:aR}(hr:SlR X r)(he:PE X e te)(hl:PO X lo tl)(hu:PO X hi th):PE X (.Subscript e (.Slice lo hi bC p2) pos) (tSl r te tl th):=by
 intro sd s σ H Q I h
 refine Subscript_ (thn (he sd s σ H _ I h) λv s1 ⟨x,H1,I1,r1,q1⟩=>?_)
 refine wpAny_Slice (thn (hl sd s1 σ H1 _ I1 q1) λvl s2 ⟨l,H2,I2,pl,q2⟩=>thn (hu sd s2 σ H2 _ I2 q2) λvu s3 ⟨u,H3,I3,pu,q3⟩=>?_)
 rw[evalPart_none]
 refine Ki ?_
 have I4:Inv X sd σ H3 { s3 with heap:=s3.heap.push { cls:=.type "slice", data:=.fields #[vl,vu,.none] } }:=I3.kept (t':=s3.toks) λb ob q=>Kh _ q
 obtain⟨T,id,hT,ht,hg⟩:=hr sd { s3 with heap:=s3.heap.push { cls:=.type "slice", data:=.fields #[vl,vu,.none] } } σ H3 x v vl vu l u s3.heap.objs.size Q I4 r1 (Heap.IsSliceOf.new ..) pl pu q3
 show sm (model X.prog X.w) X.A (subscriptTail e (.Slice lo hi bC p2) v (.ref s3.heap.objs.size)) (EP X sd σ Q) X.xe { s3 with heap:=s3.heap.push { cls:=.type "slice", data:=.fields #[vl,vu,.none] } }
 exact tail_any (ops:=[.ref s3.heap.objs.size,v]) ht hT hg (by with_unfolding_all rfl)
def cutV (xs:List V)(lo hi:aV):List V:=(xs.drop (HT.sIx xs.length 0 lo)).take (HT.sIx xs.length xs.length hi-HT.sIx xs.length 0 lo)
theorem We (xs:List V)(lo hi:aV):(cutV xs lo hi).length<=xs.length:=by
 unfold cutV
 rw[Ew,EA]
 omega
def rSlT (K:Kd):V->Option Int->Option Int->Hp->VK->Prop:=λx lo hi H Q=>∃a xs,x=.ref a/\SqT K H a xs/\
 ¬(HT.sIx xs.length 0 lo=0/\HT.sIx xs.length xs.length hi=xs.length)/\∀p,H p=bC->Q (.ref p) (upd H p (.tup (cutV xs lo hi)))
theorem ql7:SlR X (rSlT X.K):=by
 intro sd s σ H x v vl vu lo hi sl Q I rx hs pl pu h
 obtain⟨a,xs,rfl,hx,hw,q⟩:=h
 cases rx
 obtain⟨its,r,ht,hz⟩:=I.tuple hx
 have hlen:its.toArray.size=xs.length:=by rw[KA];exact r.length.symm
 refine⟨"tuple", _,UW.lookup,ht.typeIs,?_⟩
 refine HT.YZ ht hs pl pu (by rw[hlen];exact hw) ?_ (by rw[hlen];exact hz)
 rw[hlen]
 refine⟨.ref s.heap.objs.size,_,I.laid (t':=s.toks) (o:=.tup (cutV xs lo hi)) (λb ob q=>Kh _ q) (Kp _) ?_,rfl,q _ (I.hok.fresh (Kp _))⟩
 exact⟨Vx (We xs lo hi) hz,_,(r.drop (HT.sIx xs.length 0 lo)).take (HT.sIx xs.length xs.length hi-HT.sIx xs.length 0 lo),IsTup.new _ _⟩
def qkn (K:Kd):R2:=λx y H Q=>∃a b xs ys,x=.ref a/\y=.ref b/\SqT K H a xs/\SqT K H b ys/\xs≠[]/\xs.length+ys.length<=sv/\
 (ys=[]->Q (.ref a) H)/\(ys≠[]->∀p,H p=bC->Q (.ref p) (upd H p (.tup (xs++ys))))
theorem Vals.nil_iff {xs:List V}{us:ar}(r:Vals xs us):us=[]↔xs=[]:=by
 cases r with
 |nil=>simp
 |cons _ _=>simp
theorem qjv:OpR X (sH .Add) (qkn X.K):=by
 intro sd s σ H x y v u Q I rx ry h
 obtain⟨a,b,xs,ys,rfl,rfl,ha,hb,hx,hz,q1,q2⟩:=h
 cases rx
 cases ry
 obtain⟨its,r1,p1,_⟩:=I.tuple ha
 obtain⟨dP,r2,p2,_⟩:=I.tuple hb
 refine HT.qiG p1 p2 (λz=>hx (r1.nil_iff.mp z)) (λz=>⟨.ref a,H,I,rfl,q1 (r2.nil_iff.mp z)⟩) (λz=>?_) (by rw[←r1.length,←r2.length];exact hz)
 refine⟨.ref s.heap.objs.size,_,I.laid (t':=s.toks) (o:=.tup (xs++ys)) (λb ob q=>Kh _ q) (Kp _) ?_,rfl,q2 (λw=>z (r2.nil_iff.mpr w)) _ (I.hok.fresh (Kp _))⟩
 exact⟨by rw[Kr];exact hz,_,r1.append r2,IsTup.new _ _⟩
end
noncomputable def ixN (n:Nat)(i:Int):Option Nat:=if 0<=i then (if i<n then bB i.toNat else bC) else if -(n:Int)<=i then bB (i+n).toNat else bC
def atI {α:Type}(xs:List α)(i:Int):Option α:=(ixN xs.length i).bind λj=>xs[j]?
theorem qja {n:Nat}{i:Int}{j:Nat}(h:ixN n i=bB j):tL i n=bB j/\j<n/\-(n:Int)<=i/\i<n:=by
 unfold ixN at h
 by_cases h0:0<=i
 .rw[si h0]at h
  by_cases h1:i<n
  .rw[si h1]at h
   have e:i.toNat=j:=Ut h
   exact⟨by rw[seqIndex_of h0 h1,e],by omega,by omega,h1⟩
  .rw[sk h1]at h;cases h
 .rw[sk h0]at h
  by_cases h1:-(n:Int)<=i
  .rw[si h1]at h
   have e:(i+n).toNat=j:=Ut h
   exact⟨by rw[seqIndex_neg '#' h1,e],by omega,h1,by omega⟩
  .rw[sk h1]at h;cases h
theorem qbM {α:Type}{xs:List α}{i:Int}{v:α}(h:atI xs i=bB v):∃j,tL i xs.length=bB j/\xs[j]?=bB v/\j<xs.length/\-(xs.length:Int)<=i/\i<xs.length:=by
 unfold atI at h
 cases e:ixN xs.length i with
 |none=>rw[e]at h;cases h
 |some j =>
  rw[e]at h
  obtain⟨h1,h2,h3,h4⟩:=qja e
  exact⟨j,h1,h,h2,h3,h4⟩
theorem qeK {α:Type}{xs:List α}{j:Nat}{v:α}(h:xs[j]?=bB v):atI xs (j:Int)=bB v:=by
 have hj:j<xs.length:=(KW.mp h).1
 have e:ixN xs.length (j:Int)=bB j:=by
  unfold ixN
  rw[si '#',si '#'];simp
 unfold atI;rw[e];exact h
def YL (b:KI):Prop:=∀o i,subscripted b bE o i=operate [o,i] (getItem o i)
def IxR (X:Cx)(r:R2):Prop :=
 ∀(value slice:KI) (sd:ah) (s:Kf) (σ:St) (H:Hp) (x y:V) (v u:Ke) (Q:VK),Inv X sd σ H s->RelV x v->RelV y u->r x y H Q->
  subscripted slice bE v u=operate [v,u] (getItem v u)->sm (model X.prog X.w) X.A (subscriptTail value slice v u) (EP X sd σ Q) X.xe s
def MtR (X:Cx)(id:String)(r:bj):Prop :=
 ∀(sd:ah) (s:Kf) (σ:St) (H:Hp) (x:V) (xs:List V) (v:Ke) (us:ar) (Q:VK),Inv X sd σ H s->RelV x v->Vals xs us->r x xs H Q->
  sm (model X.prog X.w) X.A (call (.builtin id) (v::us)) (EP X sd σ Q) X.xe s
section
variable {X:Cx}{a b:KI}{ta tb:TE}{pos:Pos}
theorem IxR.or {r r':R2}(h:IxR X r)(h':IxR X r'):IxR X (λx y H Q=>r x y H Q\/r' x y H Q):=by
 intro value slice sd s σ H x y v u Q I rx ry q hs
 rcases q with q|q
 .exact h value slice sd s σ H x y v u Q I rx ry q hs
 .exact h' value slice sd s σ H x y v u Q I rx ry q hs
theorem qfm {r:R2}(hr:IxR X r)(ha:PE X a ta)(hb:PE X b tb)(hs:YL b):PE X (.Subscript a b pos) (tOp r ta tb):=by
 intro sd s σ H Q I h
 exact Subscript_ (binT ha hb I h λv u s2 x y H2 I2 rx ry q=>hr a b sd s2 σ H2 x y v u Q I2 rx ry q (hs _ _))
def rIxL (K:Kd):R2:=λx y H Q=>∃p xs i v,x=.ref p/\y=.int i/\SqL K H p xs/\atI xs i=bB v/\Q v H
def rIxT (K:Kd):R2:=λx y H Q=>∃p xs i v,x=.ref p/\y=.int i/\SqT K H p xs/\atI xs i=bB v/\Q v H
def rIxS:R2:=λx y H Q=>∃z i c,x=.str z/\y=.int i/\z.length<=sv/\atI z.cps.toList i=bB c/\Q (.str ⟨#[c]⟩) H
theorem WM:IxR X (rIxL X.K):=by
 intro value slice sd s σ H x y v u Q I rx ry h hs
 obtain⟨p,xs,i,z,rfl,rfl,hq,he,q⟩:=h
 cases rx
 obtain⟨t,rfl⟩:=ry
 obtain⟨its,r,pl,hz⟩:=I.list hq
 obtain⟨j,h1,h2,h3,h4,h5⟩:=qbM he
 obtain⟨w,ew,iB⟩:=r.get h2
 have hl:=r.length
 have hn:=wO
 have fin:EP X sd σ Q w s:=⟨z,H,I,iB,q⟩
 by_cases h0:0<=i
 .have hj:i.toNat=j:=by
   rw[seqIndex_of h0 h5]at h1
   exact Ut h1
  exact item_listR pl.isList h0 '#' (by rw[hj];simpa using ew) fin hs
 .have hj:(i+(its.toArray.size:Int)).toNat=j:=by
   rw[seqIndex_neg '#' h4]at h1
   rw[KA,←hl]
   exact Ut h1
  exact tU (x:=w) pl.isList.typeIs slot_list_getitem.lookup
   (wpAny_getItem_list_neg (Q:=λr s'=>r=w/\EP X sd σ Q r s') pl.isList '#' (by rw[KA]<;>omega) '#' (by rw[hj];simpa using ew) ⟨rfl,fin⟩) hs
theorem qb3:IxR X (rIxT X.K):=by
 intro value slice sd s σ H x y v u Q I rx ry h hs
 obtain⟨p,xs,i,z,rfl,rfl,hq,he,q⟩:=h
 cases rx
 obtain⟨t,rfl⟩:=ry
 obtain⟨its,r,pl,hz⟩:=I.tuple hq
 obtain⟨j,h1,h2,h3,h4,h5⟩:=qbM he
 obtain⟨w,ew,iB⟩:=r.get h2
 have hl:=r.length
 have hn:=wO
 have fin:EP X sd σ Q w s:=⟨z,H,I,iB,q⟩
 exact tU (x:=w) pl.typeIs UW.lookup
  (getItem_tuple (j:=j) (Q:=λr s'=>r=w/\EP X sd σ Q r s') pl '#' '#' (by rw[KA,←hl];exact h1) (by simpa using ew) ⟨rfl,fin⟩) hs
theorem qk5:IxR X rIxS:=by
 intro value slice sd s σ H x y v u Q I rx ry h hs
 obtain⟨z,i,c,rfl,rfl,hz,he,q⟩:=h
 obtain⟨t,rfl⟩:=rx
 obtain⟨t',rfl⟩:=ry
 obtain⟨j,h1,h2,h3,h4,h5⟩:=qbM he
 have hl:z.cps.toList.length=z.length:=by simp [Str.length]
 rw[hl]at h1 h4 h5
 have hn:=wO
 exact tail_any (Ep s z t) slot_str_getitem.lookup (getItem_str (c:=c) (by
  have e1:decide (i < -(2 ^ 63:Int))=bE:=se '#'
  have e2:decide (i >= 2 ^ 63)=bE:=se '#'
  rw[e1,e2,Bool.or_false]) (by rw[h1];simpa using h2) ⟨.str ⟨#[c]⟩,H,I.tok _,⟨_,rfl⟩,q⟩) hs
theorem qcC (lo hi:aV)(n:Nat):(tz lo hi bC n).1=((HT.sIx n 0 lo:Nat):Int)/\(tz lo hi bC n).2.1=((HT.sIx n n hi:Nat):Int)/\(tz lo hi bC n).2.2=1:=by
 refine⟨?_,?_,rfl⟩
 .cases lo with
  |none=>simp [tz,HT.sIx]
  |some i =>
   simp only[tz,HT.sIx,Option.getD_none,show(1:Int) > 0 by decide,sW]
   by_cases h:i<0
   .simp only[h,sW]<;>omega
   .simp only[h,sQ]<;>omega
 .cases hi with
  |none=>simp [tz,HT.sIx]
  |some i =>
   simp only[tz,HT.sIx,Option.getD_none,show(1:Int) > 0 by decide,sW]
   by_cases h:i<0
   .simp only[h,sW]<;>omega
   .simp only[h,sQ]<;>omega
theorem qaV (its:ar)(lo hi:aV):slicePick its.toArray lo hi bC=((its.drop (HT.sIx its.length 0 lo)).take (HT.sIx its.length its.length hi-HT.sIx its.length 0 lo)).toArray:=by
 obtain⟨h1,h2,h3⟩:=qcC lo hi its.toArray.size
 unfold slicePick
 rw[h1,h2,h3]
 simp only[sliceRange_one,pick_run,KA]<;>rfl
def rSlL (K:Kd):V->Option Int->Option Int->Hp->VK->Prop:=λx lo hi H Q=>∃a xs,x=.ref a/\SqL K H a xs/\∀p,H p=bC->Q (.ref p) (upd H p (.lst (cutV xs lo hi)))
theorem qj0:SlR X (rSlL X.K):=by
 intro sd s σ H x v vl vu lo hi sl Q I rx hs pl pu h
 obtain⟨a,xs,rfl,hx,q⟩:=h
 cases rx
 obtain⟨its,r,ht,hz⟩:=I.list hx
 have hlen:=r.length
 refine⟨"list", _,slot_list_getitem.lookup,ht.isList.typeIs,?_⟩
 refine wpAny_getItem_list_slice ht.isList hs pl pu .none '+' ?_ (by rw[KA]<;>omega)
 rw[qaV,←hlen]
 refine⟨.ref s.heap.objs.size,_,I.laid (t':=s.toks) (o:=.lst (cutV xs lo hi)) (λb ob q=>Kh _ q) (Kp _) ?_,rfl,q _ (I.hok.fresh (Kp _))⟩
 exact⟨Vx (We xs lo hi) hz,_,0,(r.drop (HT.sIx xs.length 0 lo)).take (HT.sIx xs.length xs.length hi-HT.sIx xs.length 0 lo),Ks _ rfl⟩
theorem qbN:Jj X (.builtin "len") (λxs H Q=>∃p ys,xs=[.ref p]/\(SqL X.K H p ys\/SqT X.K H p ys)/\Q (.int ys.length) H):=by
 intro sd s σ H xs us Q I r h
 obtain⟨p,ys,rfl,hq,q⟩:=h
 obtain⟨u,rfl,rx⟩:=vals1 r
 cases rx
 have hn:=wO
 rcases hq with hq|hq
 .obtain⟨its,r',pl,hz⟩:=I.list hq
  have hlen:=r'.length
  exact Calls.call_len_list pl.isList (by simp only[KA]<;>omega) ⟨.int ys.length,H,I.tok _,⟨s.toks+1,by rw[KA,hlen]⟩,q⟩
 .obtain⟨its,r',pl,hz⟩:=I.tuple hq
  have hlen:=r'.length
  exact len_tuple pl (by simp only[KA]<;>omega) ⟨.int ys.length,H,I.tok _,⟨s.toks+1,by rw[KA,hlen]⟩,q⟩
theorem qbO:Jj X (.builtin "len") (λxs H Q=>∃z,xs=[.str z]/\z.length<=sv/\Q (.int z.length) H):=by
 intro sd s σ H xs us Q I r h
 obtain⟨z,rfl,hz,q⟩:=h
 obtain⟨u,rfl,t,rfl⟩:=vals1 r
 have hn:=wO
 exact len_str '#' ⟨.int z.length,H,I.tok _,⟨_,rfl⟩,q⟩
theorem Jj.or {f:Ke}{r r':bw}(h:Jj X f r)(h':Jj X f r'):Jj X f (λxs H Q=>r xs H Q\/r' xs H Q):=by
 intro sd s σ H xs us Q I rs q
 rcases q with q|q
 .exact h sd s σ H xs us Q I rs q
 .exact h' sd s σ H xs us Q I rs q
def tyV (K:Kd)(T:String)(x:V)(H:Hp):Prop:=match x with
 |.str _=>T = "str"
 |.int _=>T = "int"
 |.ref p=>(T = "list"/\∃xs,SqL K H p xs)\/(T = "tuple"/\∃o,K.lookup p=bB o/\o.cls=.type "tuple"/\o.dict=bC)\/
   (T = "dict"/\((∃kvs,H p=bB (.dK kvs))\/∃kvs,H p=bB (.dT kvs)))\/(T = "set"/\∃S n,H p=bB (.set S n))
 |_=>False
theorem qmk {sd:ah}{σ:St}{H:Hp}{s:Kf}{T:String}{x:V}{v:Ke}(I:Inv X sd σ H s)(r:RelV x v)(ty:tyV X.K T x H):
  s.TypeIs v T/\∀a,v=.ref a->∃ob,s.heap.get? a=bB ob/\ob.dict=bC:=by
 cases x with
 |str z =>
  obtain⟨t,rfl⟩:=r
  cases(show T = "str" from ty)
  exact⟨Ep s z t,λ_ e=>nomatch e⟩
 |int i =>
  obtain⟨t,rfl⟩:=r
  cases(show T = "int" from ty)
  exact⟨typeIs_int s i t,λ_ e=>nomatch e⟩
 |ref p =>
  cases r
  rcases ty with ⟨rfl,xs,hq⟩|⟨rfl,o,hk,hc,hd⟩|⟨rfl,hk⟩|⟨rfl,S,n,hk⟩
  .obtain⟨its,_,pl,_⟩:=I.list hq
   refine⟨pl.isList.typeIs,λa e=>?_⟩
   cases e
   obtain⟨o,n,e,c,hd,_⟩:=pl
   exact⟨o,e,hd⟩
  .refine⟨⟨o,I.kIn p o hk,hc⟩,λa e=>?_⟩
   cases e
   exact⟨o,I.kIn _ o hk,hd⟩
  .have z:∃o,s.heap.get? p=bB o/\o.ExactDict:=by
    rcases hk with ⟨kvs,hk⟩|⟨kvs,hk⟩
    .obtain⟨_,_,_,_,o,_,_,e,ex,_⟩:=I.hok p _ hk
     exact⟨o,e,ex⟩
    .obtain⟨_,_,_,_,o,_,_,e,ex,_⟩:=I.hok p _ hk
     exact⟨o,e,ex⟩
   obtain⟨o,e,ex⟩:=z
   refine⟨⟨o,e,ex.1⟩,λa e2=>?_⟩
   cases e2
   exact⟨o,e,ex.2.1⟩
  .obtain⟨o,_,_,_,e,ex,_⟩:=I.hok p _ hk
   refine⟨⟨o,e,ex.1⟩,λa e2=>?_⟩
   cases e2
   exact⟨o,e,ex.2.1⟩
 |_=>exact U8 ty
def tBM (K:Kd)(T:String)(r:bj)(to:TE)(t:TA):TE:=λσ H Q=>to σ H λx H1=>tyV K T x H1/\t σ H1 λxs H2=>r x xs H2 Q
variable {o e:KI}{es:aH}{to:TE}{t:TA}{name:Str}{apos bG:Pos}{T id:String}{r:bj}
theorem qax (pa:PlainAttrs T)(slot:Slot T name id)(hty:typeOf (.builtin id)=pure (.type "method_descriptor"))(hm:MtR X id r)(ho:PE X o to)(ha:PA X (e::es) t)
  (bP:sM o name X.env (eval o X.env)=eval o X.env:=by rfl)
  (cz:((sG bG (sj (e::es) X.env)).all (λx=>!x.1)&&(tv bG (sT [] X.env)).all (λx=>x.1.isSome)
   && decide ((e::es).length+([]:List Ui).length+(if ([]:List Ui).isEmpty then 0 else 1)<30))=bD:=by rfl)
  (bQ:(apos.endLine==bG.line)=bD:=by rfl) (hs:sj (e::es) X.env=(bE,eval e X.env)::sj es X.env:=by rfl) (bU:(sG bG (sj es X.env)).any (·.1)=bE:=by rfl):
  PE X (.Call (.Attribute o name apos) (e::es) [] bG) (tBM X.K T r to t):=by
 intro sd s σ H Q I h
 refine wpAny_Call_method_late bP cz bQ rfl (thn (ho sd s σ H _ I h) λv s1 ⟨x,H1,I1,r1,ty,q1⟩=>?_)
 obtain⟨h1,h2⟩:=qmk I1 r1 ty
 refine⟨T,id,pa,slot,hty,h1,h2,?_⟩
 have hA:=ha bG sd s1 σ H1 _ I1 q1
 rw[hs]at hA ⊢
 refine Calls.callWith_builtin (by show(bE||(sG bG (sj es X.env)).any (·.1))=bE;rw[bU]<;>rfl) (Calls.evalArgs_plain ?_)
 exact thn hA λus s2 ⟨vs,H2,I2,r2,q2⟩=>hm sd s2 σ H2 x vs v us Q I2 r1 r2 q2
end
def MtM (X:Cx)(id:String)(r:bj):Prop :=
 ∀(sd:ah) (s:Kf) (σ:St) (H:Hp) (x:V) (xs:List V) (v:Ke) (us:ar) (Q:VK),Inv X sd σ H s->RelV x v->Vals xs us->r x xs H Q->
  sm (model X.prog X.w) X.A (call (.builtin id) (v::us)) (EP X sd σ Q) X.xe s
theorem Vals.one {x:V}{us:ar}(h:Vals [x] us):∃u,us=[u]/\RelV x u:=by
 cases h with
 |cons r t=>cases t;exact⟨_,rfl,r⟩
theorem Vals.two {x y:V}{us:ar}(h:Vals [x,y] us):∃u v,us=[u,v]/\RelV x u/\RelV y v:=by
 cases h with
 |cons r t =>
  obtain⟨v,rfl,q⟩:=Vals.one t
  exact⟨_,_,rfl,r,q⟩
theorem Vals.eraseIdx:∀{xs:List V} {us:ar} (i:Nat),Vals xs us->Vals (xs.eraseIdx i) (us.eraseIdx i)
 |_,_,_,.nil=>.nil
 |_,_,0,.cons _ t=>t
 |_,_,i+1,.cons r t=>.cons r (Vals.eraseIdx i t)
theorem qbh {α:Type}:∀(l:List α) (i:Nat),(l.eraseIdx i).length<=l.length
 |[],_=>Kp _
 |_::_,0=>XE _
 |_::r,i+1=>EB (qbh r i)
section
variable {X:Cx}{sd:ah}{σ:St}{H:Hp}{s:Kf}{l b:Kg}{xs ys zs:List V}
theorem Inv.lset {its its':ar}{n:Nat}{f:Array Ke->Array Ke}{t':Nat}(I:Inv X sd σ H s)(hH:H l=bB (.lst xs))
  (e:s.heap.get? l=bB { cls:=.type "list", data:=.seq its.toArray n }) (hf:f its.toArray=its'.toArray) (hv:Vals ys its') (hz:ys.length<=sv):
  Inv X sd σ (upd H l (.lst ys)) { s with heap:=s.heap.update l (Up f),toks:=t' }:=by
 have q:=PySem.IsL.update e f
 rw[hf]at q
 refine I.write (x:=l) (e:=l) (by rw[hH];exact trivial) (.inl rfl) (λb' u hb hu=>(Vc s.heap (Up f) (V6 hb)).trans hu) ⟨_,q⟩ ?_
 exact⟨hz,its',_,hv,q⟩
theorem Inv.lnew {its:ar}{t':Nat}(I:Inv X sd σ H s)(hv:Vals ys its)(hz:ys.length<=sv):
  Inv X sd σ (upd H s.heap.objs.size (.lst ys)) { s with heap:=s.heap.push { cls:=.type "list", data:=.seq its.toArray },toks:=t' } :=
 I.laid (λ_ _ q=>Kh _ q) (Kp _) ⟨hz,its,0,hv,Ks _ rfl⟩
theorem Inv.fresh (I:Inv X sd σ H s):H s.heap.objs.size=bC:=I.hok.fresh (Kp _)
theorem Inv.lstM (I:Inv X sd σ H s)(hH:H l=bB (.lst xs)):xs.length<=sv/\∃(its:ar) (n:Nat),Vals xs its/\xs.length=its.length/\s.heap.get? l=bB { cls:=.type "list", data:=.seq its.toArray n }:=by
 obtain⟨z,its,n,r,e⟩:=I.hok l _ hH
 exact⟨z,its,n,r,r.length,e⟩
end
section
variable {X:Cx}
def qjR:V->List V->Hp->VK->Prop:=λx vs H Q=>∃l xs y,x=.ref l/\vs=[y]/\H l=bB (.lst xs)/\xs.length<sv/\Q .non (upd H l (.lst (xs++[y])))
theorem qbp:MtM X "list.append" qjR:=by
 intro sd s σ H x vs v us Q I rx rv h
 obtain⟨l,xs,y,rfl,rfl,hH,hz,q⟩:=h
 cases rx
 obtain⟨u,rfl,ru⟩:=rv.one
 obtain⟨z,its,n,r,hl,e⟩:=I.lstM hH
 refine Nc Nm ⟨_,e,rfl⟩ F.entry_list_append (F.args_list_append_2 _ _) (PySem.list_append l its.toArray n u (by rw[KA];omega)) ⟨e,?_⟩
 refine⟨.non,_,I.lset (its':=its++[u]) hH e '+' (r.append (.cons ru .nil)) ?_,rfl,q⟩
 rw[Kr,KQ]
 omega
def qlO:V->List V->Hp->VK->Prop:=λx vs H Q=>∃l xs i k y,x=.ref l/\vs=[.int i]/\H l=bB (.lst xs)/\-(2 ^ 63)<=i/\i<2 ^ 63/\tL i xs.length=bB k/\xs[k]?=bB y/\Q y (upd H l (.lst (xs.eraseIdx k)))
theorem qhx:MtM X "list.pop" qlO:=by
 intro sd s σ H x vs v us Q I rx rv h
 obtain⟨l,xs,i,k,y,rfl,rfl,hH,h1,h2,hk,hy,q⟩:=h
 cases rx
 obtain⟨u,rfl,ru⟩:=rv.one
 obtain⟨t,rfl⟩:=ru
 obtain⟨z,its,n,r,hl,e⟩:=I.lstM hH
 obtain⟨w,hw,iB⟩:=r.get hy
 refine Nc F.slot_list_pop ⟨_,e,rfl⟩ F.entry_list_pop (F.args_list_pop_2 _ _)
  (MeetsSeq.list_pop_at l its.toArray n i t k w (fitsIndex_both h1 h2) (by rw[KA,←hl];exact hk) (by rw[←XM];exact hw) (by rw[KA];omega)) ⟨e,?_⟩
 refine⟨y,_,I.lset (its':=its.eraseIdx k) hH e ?_ (r.eraseIdx k) ?_,iB,q⟩
 .show its.toArray.eraseIdxIfInBounds k=(its.eraseIdx k).toArray
  rw[List.eraseIdxIfInBounds_toArray]
 .have:=qbh xs k
  omega
end
section
variable {prog:KO}{w:K0}{A:KZ}{E:ag}{s:Kf}
set_option maxRecDepth 100000 in
end
end L2
namespace Att
open PySem PySem.W PySem.Calls PyProof.Rows
theorem Wv {P:NN}{h:K4}:∀(ns:List Int) (vs:List Ke),WellAll P h vs (ns.map WData.int)->IntsAre vs ns:=by
 intro ns
 induction ns with
 |nil =>
  intro vs w
  rw[V9]at w
  cases w
  exact .nil
 |cons n ns ih =>
  intro vs w
  rw[Km]at w
  cases w with
  |cons a b =>
   cases a
   exact .cons _ _ (ih _ b)
theorem qgk {l:El}{n:Nat}(hn:l.most=bB n){P:NN}{h:K4}{args:List WData}{vals:List Ke}
  (gr:l.row.toRowW.claim.pre args=bD) (mW:WellAll P h vals args):
  ∃a vs ns,vals=[KP a]/\args=[WData.list (ns.map WData.int)]/\h.get? a=bB { cls:=.type "list", data:=.seq vs.toArray }/\IntsAre vs ns/\ns.length<=n:=by
 have hsh:WShape.hasAll [] args [.list .int]=bD:=(pre_splitW gr).1
 have hc:l.pre.holds [] { args:=args }=bD:=(pre_splitW gr).2
 obtain⟨d,r,rfl,h1,h2⟩:=hasAllW_cons hsh
 obtain rfl:=hasAllW_nil h2
 obtain⟨xs,rfl,h3⟩:=hasW_list h1
 obtain⟨ns,rfl⟩:=items_int h3
 have hlen:ns.length<=n:=by
  unfold OpenLaw.pre at hc
  have h4:(WTm.not (.lt (.lit (.int (n:Int))) (.len (.arg 0)))).holds [] { args:=[.list (ns.map .int)] }=bD:=by
   have h4:=(holds_andW hc).1
   rw[hn]at h4
   exact h4
  have h5:=condW_of h4 (w_not (w_lt w_lit (w_len_list (w_arg rfl))))
  rw[Kc]at h5
  refine Nat.le_of_not_lt λq=>?_
  have q':(n:Int)<((ns.length:Nat):Int):=by omega
  first
   |(rw[sh q']at h5;exact absurd h5 '%')
   |(simp at h5;omega)
 cases mW with
 |cons w1 w2 =>
  cases w2
  cases w1 with
  |list ho dE=>exact⟨_,_,ns,rfl,rfl,ho,Wv ns _ dE,hlen⟩
theorem qgi (l:El)(args:List WData):l.row.toRowW.claim.post args (.bool bD) args=bD :=
 postW_of (r:=l.row.toRowW) (X:=(bD==bD))
  (show WShape.has [] (.bool bD) .bool=bD by first|rfl|decide|simp [WShape.has,WShape.arms,WShape.armsAll])
  (show(WTm.eq .res (.lit (.bool bD))).value [] { args:=args,res:=bB (.bool bD),after:=args }=bB (.bool (bD==bD)) from w_eq_bool (w_res rfl) w_lit) rfl
end Att
namespace L2
open PySem PySem.Spec PyProof.Rows
theorem qbJ:∀{vs:ar} {ns:aF},IntsAre vs ns->Vals (ns.map V.int) vs
 |_,_,.nil=>.nil
 |_,_,.cons n t h=>.cons ⟨t,rfl⟩ (qbJ h)
def Only (H:Hp):Prop:=∀b,H b=bC\/∃o xs,H b=bB (.frz o (.lst xs))
theorem qhf {P:KO}{w:K0}{K:Kd}{mg mb:aq}{CX:CXT}{k:Nat}{fa a:Kg}{fd:VW}{x:Str}{sp:Sp}{s₁:Kf}{vs:ar}{ns:aF}
  (KX:K.In s₁.heap) (kf:s₁.heap.Ns su mg) (hb:s₁.heap.Ns builtinsNs mb) (mX:∀x:Str,x ≠ "__name__"->mb x=sE x) (mY:s₁.heap.NoLimit) (hg:s₁.gens=#[])
  (ha:s₁.heap.get? a=bB { cls:=.type "list", data:=.seq vs.toArray }) (hi:IntsAre vs ns) (hl:ns.length<=sv) (hr:Room k callerA)
  (F:∀base:K4,K.In base->base.Ns su mg->FnOk P w K mg base CX k fa fd [x] sp) (kO:∀(s:Kf) (u:Ke),BindsTo s fd ⟨[u],[]⟩ [(x,u)])
  (ke:∀H:Hp,Only H->SqL K H a (ns.map V.int)->sp [.ref a] H (λv _=>v=.bl bD) λ_ _ _=>False)
  (hCX:∀H e s',CX [] H s₁ (λ_ _ _=>False) e s'->False):
  td (model P w) callerA (.call (.ref fa) ⟨[.ref a],[]⟩) (λr s'=>r=.ok (.ret (.bool bD))/\OldK s₁.heap s'.heap/\s'.os=s₁.os/\ND s'.gens) s₁:=by
 have rv:=qbJ hi
 have mZ:=hi.length
 have core:∀H:Hp,Only H->SqL K H a (ns.map V.int)->HOk P w H s₁.heap->(∀b,H b≠bC->b=a)->(H a≠bC->K.lookup a=bC)->
   td (model P w) callerA (.call (.ref fa) ⟨[.ref a],[]⟩) (λr s'=>r=.ok (.ret (.bool bD))/\OldK s₁.heap s'.heap/\s'.os=s₁.os/\ND s'.gens) s₁:=by
  intro H hO hS hok hA hK
  have eM:∀{b:Kg} {o:Obj},s₁.heap.get? b=bB o->H b=bC->(hidT s₁.heap H).get? b=bB o:=λe n=>qgZ e n
  have kM:∀{b:Kg} {o:Obj} {es:Array UZ} {ep:Nat},s₁.heap.get? b=bB o->o.data=.dict es ep->H b=bC:=λ{b o es ep} e d=>by
   cases q:H b with
   |none=>rfl
   |some u =>
    have e':b=a:=hA b (by rw[q];simp)
    subst e'
    rw[ha]at e;cases e
    have d':Data.seq vs.toArray _=Data.dict es ep:=d
    cases d'
  have l7:∀{b:Kg} {m:aq},s₁.heap.Ns b m->(hidT s₁.heap H).Ns b m:=λ{b m} ⟨o,es,ep,e,d,r⟩=>⟨o,es,ep,eM e (kM e d),d,r⟩
  have oO:K.In (hidT s₁.heap H):=λb o e=>eM (KX b o e) (by
   cases q:H b with
   |none=>rfl
   |some u =>
    have e':b=a:=hA b (by rw[q];simp)
    subst e'
    rw[hK (by rw[q];simp)]at e;cases e)
  have hM:Mod K mg (hidT s₁.heap H):=⟨oO,l7 kf,⟨mb,l7 hb,mX⟩,let ⟨mc,h1,h2⟩:=mY;⟨mc,l7 h1,h2⟩⟩
  have e0:Env0 P w K mg (hidT s₁.heap H) callerA [] s₁ H:=⟨rfl,hM,λb o e=>qjr e,Nat.le_of_eq (qfQ _ _),trivial,λb hb=>absurd (show b∈([]:List Kg) from hb) '+',hok,.of_eq hg⟩
  refine codeAny_mono ((F _ oO (l7 kf)).run callerA [] s₁ H ⟨[.ref a],[]⟩ [.ref a] [.ref a] _ _ hr e0 (kO s₁ (.ref a)) (.cons rfl .nil) (ke H hO hS)) λr s' h=>?_
  cases r with
  |error e=>exact(hCX H e s' h).elim
  |ok fl =>
   cases fl with
   |next=>exact U8 h
   |brk=>exact U8 h
   |cont=>exact U8 h
   |ret u =>
    obtain⟨v,H',os,bare,un,m7,r',q⟩:=h
    have q':v=.bl bD:=q
    subst q'
    obtain rfl:u=Um bD:=r'
    refine⟨rfl,OldK.of_keep λb o e=>?_,os,bare⟩
    cases q:H b with
    |none=>exact un.keep b o e q (by intro z;exact absurd (show b∈([]:List Kg) from z) '+') '+'
    |some u =>
     rcases hO b with z|⟨ob,xs,z⟩
     .rw[q]at z;cases z
     .have z2:=un.frzs b ob _ z
      obtain⟨e1,_⟩:=hok b _ z
      obtain⟨e2,_⟩:=m7 b _ z2
      rw[e]at e1;cases e1
      exact e2
 cases hk:K.lookup a with
 |some o =>
  have e:=KX a o hk
  rw[ha]at e
  cases e
  refine core (λ_=>bC) (λ_=>.inl rfl) (.inr ⟨_,vs.toArray,_,hk,rfl,rfl,rfl,by rw[KA,mZ];exact hl,by simpa using rv⟩) (λb u z=>by have z':(bC:Option HO)=bB u:=z;cases z') (λb z=>absurd rfl z) λz=>absurd rfl z
 |none =>
  refine core (λb=>if b=a then bB (.frz { cls:=.type "list", data:=.seq vs.toArray } (.lst (ns.map V.int))) else bC) (λb=>?_) (.inl (.inr ⟨{ cls:=.type "list", data:=.seq vs.toArray },si rfl⟩)) (λb u z=>?_) (λb z=>?_) λ_=>hk
  .by_cases hb:b=a
   .exact .inr ⟨_,_,si hb⟩
   .exact .inl (sk hb)
  .by_cases hb:b=a
   .have z':=(si hb).symm.trans z
    cases z'
    subst hb
    exact⟨ha,by rw[Kc];exact hl,vs,_,rv,ha⟩
   .have z':=(sk hb).symm.trans z
    cases z'
  .by_cases hb:b=a
   .exact hb
   .exact absurd (sk hb) z
noncomputable def jT (s:Ve):Arguments:=match s with
 |.FunctionDef _ a _ _ _ _ _ _ _ _=>a
 |_=>{ posonlyargs:=[],args:=[],vararg:=bC,kwonlyargs:=[],kw_defaults:=[],kwarg:=bC,defaults:=[] }
noncomputable def Q0 (s:Ve):List Ve:=match s with
 |.FunctionDef _ _ b _ _ _ _ _ _ _=>b
 |_=>[]
noncomputable def qj (s:Ve):V5:=match s with
 |.FunctionDef _ _ _ _ _ _ sc _ _ _=>sc
 |_=>{ kind:=.function,names:=[],isGenerator:=bE,isCoroutine:=bE }
abbrev CX0:CXT:=λ_ _ _ _ _ _=>False
abbrev E0:XK:=λ_ _ _=>False
theorem qkm {X:Cx}:qbL CX0 X E0:=λ_ _ _ _ _ _ _ h=>h.elim
structure Fun (K:Kd)(x qual:Str)(st:Ve)(f:Kg)(fd:VW):Prop where
 ex:∃(oc:Ke) (od:aO) (kV doc pm:Ke) (an:aO) (cdv ct:Ke) (osl:au),
  fd=UL x qual (jT st) (Q0 st) (qj st) .none kV doc pm an cdv ct/\K.lookup f=bB ⟨oc,od,.func fd,osl⟩/\XJ K cdv qual=bD
 kp:UD K (.ref f)=bD
section
variable {P:KO}{w:K0}{K:Kd}{mg:aq}{base:K4}
theorem Fun.binds {x qual:Str}{st:Ve}{f:Kg}{fd:VW}{ps:aA}(F:Fun K x qual st f fd)
  (h:∀(kV doc pm:Ke) (an:aO) (cdv ct:Ke) (us:ar),us.length=ps.length->bindArgs (UL x qual (jT st) (Q0 st) (qj st) .none kV doc pm an cdv ct) ⟨us,[]⟩=pure (ps.zip us)):Binds K fd ps []:=by
 obtain⟨oc,od,kV,doc,pm,an,cdv,ct,osl,rfl,lk,dD⟩:=F.ex
 exact .all (h kV doc pm an cdv ct)
theorem qgX {x qual:Str}{st:Ve}{f:Kg}{oc:Ke}{od an:aO}{osl:au}{kV doc pm cdv ct:Ke}(l:K.lookup f=bB ⟨oc,od,.func (UL x qual (jT st) (Q0 st) (qj st) .none kV doc pm an cdv ct),osl⟩)
  (c:XJ K cdv qual=bD) (k:UD K (.ref f)=bD):Fun K x qual st f (UL x qual (jT st) (Q0 st) (qj st) .none kV doc pm an cdv ct):=⟨⟨oc,od,kV,doc,pm,an,cdv,ct,osl,rfl,l,c⟩,k⟩
end
theorem zL {n:Nat}(h:n<=1000):n<sv:=Nat.lt_of_le_of_lt h '%'
theorem iteF {A B:Prop}(h:B):if bE=bD then A else B:=by
 rw[sk Vl]
 exact h
theorem iteT {A B:Prop}(h:A):if bD=bD then A else B:=by
 rw[si rfl]
 exact h
def Same (H H':Hp):Prop:=∀b o,H b=bB o->H' b=bB o
theorem Same.refl (H:Hp):Same H H:=λ_ _ h=>h
theorem Same.trans {H H1 H2:Hp}(a:Same H H1)(b:Same H1 H2):Same H H2:=λc o h=>b c o (a c o h)
theorem Same.free {H H':Hp}(e:Same H H'){l:Kg}(h:H' l=Vn):H l=Vn:=by
 cases q:H l with
 |none=>rfl
 |some o =>
  rw[e l o q]at h
  cases h
theorem Same.seq {K:Kd}{H H':Hp}{a:Kg}{xs:List V}(e:Same H H')(h:SqL K H a xs):SqL K H' a xs:=by
 rcases h with (h|⟨o,h⟩)|h
 .exact .inl (.inl (e _ _ h))
 .exact .inl (.inr ⟨o,e _ _ h⟩)
 .exact .inr h
end L2
set_option maxHeartbeats 4000000
namespace L2
open PySem PySem.Spec PyProof.Rows
theorem qcV {env:Env}(body:(Str×NameKind)->List (Str×Addr)->Sem (ForInStep (List (Str×Addr))))
  (hf:∀n k acc c,k=Vs->env.cells.lookup n=bB c->body (n,k) acc=pure (.yield ((n,c)::acc)))
  (hn:∀n k acc,k≠Vs->body (n,k) acc=pure (.yield acc)):
  ∀(names:List (Str×NameKind)) (acc:aM),(∀y∈names,y.2=.free->∃c,env.cells.lookup y.1=bB c)->
   (∀y c,acc.lookup y=bB c->env.cells.lookup y=bB c)->
   ∃cl,forIn names acc body=pure cl/\(∀y c,cl.lookup y=bB c->env.cells.lookup y=bB c)/\(∀y,(∃c,acc.lookup y=bB c)->∃c,cl.lookup y=bB c)/\∀y,(y,Vs)∈names->∃c,cl.lookup y=bB c:=by
 intro names
 induction names with
 |nil=>exact λacc _ ha=>⟨acc,rfl,ha,λ_ h=>h,λ_ h=>by cases h⟩
 |cons p r ih =>
  obtain⟨n,k⟩:=p
  intro acc h ha
  by_cases hk:k=Vs
  .obtain⟨c,hc⟩:=h (n,k) VO hk
   obtain⟨cl,e,h1,h2,h3⟩:=ih ((n,c)::acc) (λy hy=>h y (KS _ hy)) (λy c' e=>by
    rw[Vt]at e
    split at e
    .rename_i q
     have q':y=n:=by simpa using q
     subst q';cases e;exact hc
    .exact ha y c' e)
   refine⟨cl,?_,h1,λy hy=>h2 y ?_,λy hy=>?_⟩
   .rw[EW,hf n k acc c hk hc]
    exact e
   .obtain⟨c',e'⟩:=hy
    rw[Vt]
    split
    .exact⟨_,rfl⟩
    .exact⟨_,e'⟩
   .rcases Ko.mp hy with q|q
    .cases q
     exact h2 _ ⟨c,by rw[Vt];simp⟩
    .exact h3 y q
  .obtain⟨cl,e,h1,h2,h3⟩:=ih acc (λy hy=>h y (KS _ hy)) ha
   refine⟨cl,?_,h1,h2,λy hy=>?_⟩
   .rw[EW,hn n k acc hk]
    exact e
   .rcases Ko.mp hy with q|q
    .cases q;exact absurd rfl hk
    .exact h3 y q
theorem W6 {sc:V5}{env:Env}(h:∀y∈sc.names,y.2=.free->∃c,env.cells.lookup y.1=bB c):
  ∃cl,closureFor sc env=pure cl/\(∀y c,cl.lookup y=bB c->env.cells.lookup y=bB c)/\∀y,(y,Vs)∈sc.names->∃c,cl.lookup y=bB c:=by
 simp only[closureFor]
 obtain⟨cl,e,h1,_,h3⟩:=qcV (env:=env) (λx cs=>if (x.2==Vs)=bD then (do let a ←cellOf env x.1;pure (Xr ((x.1,a)::cs))) else pure (Xr cs)) (λn k acc c hk hc=>by
   subst hk
   simp only[cellOf,hc,tE,sW];rfl) (λn k acc hk=>by
   have:(k==Vs)=bE:=by simpa using hk
   simp only[this,Vz,sQ]) sc.names [] h (λy c e=>by cases e)
 refine⟨cl,?_,h1,h3⟩
 exact(congrArg (· >>= λr=>pure r) e).trans rfl
def qQ (X:Cx)(N':aA)(sc:V5)(cl:aM)(C:Kg)(fp:aw)(sd:ah)(s:Kf)(H:Hp):Cx where
 prog:=X.prog
 w:=X.w
 K:=X.K
 mg:=X.mg
 base:=X.base
 A:=X.A
 N:=N'
 s₀:=s
 H₀:=H
 env:=compEnvC sc cl C X.env
 outer:=X.stack
 stack:=X.stack
 ex:=fp
 fn:=λx=>decide (sc.names.lookup x=bB .cell)
 calm:=X.calm
 pn:=X.pn++sd
 xe:=λ_ _=>False
def PTs (X:Cx)(ifs:aH)(t:TT):Prop :=
 ∀(sd:ah) (s:Kf) (σ:St) (H:Hp) (Q:Bool->Hp->Prop),Inv X sd σ H s->t σ H Q->
  sm (model X.prog X.w) X.A (forIn ifs bD λc r=>if r=bD then do let ok ←isTrue c X.env (eval c X.env);pure (Xr ok) else pure (Xr r)) (TP X sd σ Q) X.xe s
def tTru:TT:=λ_ H Q=>Q bD H
theorem qjO:PTs X [] tTru:=λ_ _ _ H _ I h=>wpAny_tests_nil ⟨H,I,h⟩
theorem thF {α:Type}{t:Sem α}{Q Q':α->Kf->Prop}{M:Model}{A:KZ}{E:ag}{s:Kf}(h:sm M A t Q (λ_ _=>False) s)(hQ:∀a s,Q a s->Q' a s):sm M A t Q' E s:=Uy h hQ λ_ _ x=>x.elim
theorem qek {prog:KO}{w:K0}{A:KZ}{R:br}{s:Kf}{elt target iter:KI}{ifs:aH}{scope:V5}{pos:Pos}{it acc:Ke}{env:Env}(I:Nat->Kf->Prop)
  (turn:∀n s,I n s->sm (model prog w) A (sY it) (λr s₁=>match r with
   |none=>R (.ok .next) s₁
   |some v=>sm (model prog w) A (tJ target it v) (λ_ s₁=>sm (model prog w) A (assign target env v) (λ_ s₂ =>
     sm (model prog w) A (forIn ifs bD λc r=>if r=bD then do let ok ←isTrue c env (eval c env);pure (Xr ok) else pure (Xr r)) (λok s₃ =>
      if ok=bD then sm (model prog w) A (eval elt env) (λx s₄ =>
       sm (model prog w) A (call (.builtin "list.append") [acc,x]) (λ_ s₅=>∃m,m<n/\I m s₅) (notedBy (model prog w) A env λe s'=>R (.error e) s') s₄) (notedBy (model prog w) A env λe s'=>R (.error e) s') s₃
      else ∃m,m<n/\I m s₃) (notedBy (model prog w) A env λe s'=>R (.error e) s') s₂) (notedBy (model prog w) A env λe s'=>R (.error e) s') s₁) (notedBy (model prog w) A env λe s'=>R (.error e) s') s₁) (notedBy (model prog w) A env λe s'=>R (.error e) s') s)
  (n:Nat) (h:I n s):
  td (model prog w) A (.compLoop (.ListComp elt [⟨target,iter,ifs,0⟩] scope pos) 0 it acc env) R s:=by
 refine codeAny_loop rfl I (λn s hI=>?_) n h
 show sm _ A ((compTurn (.ListComp elt [⟨target,iter,ifs,0⟩] scope pos) 0 it acc env).onRaise (λx=>do noteFrame x env;theTreesLotGoes x)) _ _ s
 refine wpAny_noted ?_
 rw[compTurn_list]
 refine Kb (wpAny_standAt (Kb (Uy (turn n s hI) (λr s₁ h₁=>?_) λ_ _ h'=>h')))
 cases r with
 |none=>exact Ki h₁
 |some v =>
  refine Kb (Uy h₁ (λ_ oP kQ=>?_) λ_ _ h'=>h')
  refine Kb (Uy kQ (λ_ s₂ h₂=>Kb (Uy h₂ (λok s₃ h₃=>?_) λ_ _ h'=>h')) λ_ _ h'=>h')
  cases ok with
  |false=>exact Ki ⟨rfl,h₃⟩
  |true =>
   exact Kb (Kb (Uy h₃ (λx s₄ h₄=>Kb (Uy h₄ (λ_ s₅ h₅=>Ki (Ki ⟨rfl,h₅⟩)) λ_ _ h'=>h')) λ_ _ h'=>h'))
structure CompOk (X:Cx)(N':aA)(k:Nat)(sc:V5):Prop where
 calm:X.calm=bD
 kind:sc.kind=.function
 nd:X.N.Nodup
 nd':N'.Nodup
 len:N'.length=X.N.length+k
 cells:∀y∈sc.names,y.2=.cell->sc.names.lookup y.1=bB .cell
 names:∀y∈sc.names,y.2=.local->sc.names.lookup y.1=bB .local
 old:∀i y,i<X.N.length->N'[i]?=bB y->(X.N[i]?=bB y/\sc.names.lookup y≠bB .local/\sc.names.lookup y≠bB .cell)\/sc.names.lookup y=bC
 free:∀y∈sc.names,y.2=.free->X.env.kindOf y.1=bB .cell\/X.env.kindOf y.1=bB .free
theorem cf_ok (lo:Nat):∀(names:List (Str×NameKind)) (h:K4) (acc:aM),lo<=h.objs.size->(∀y c,acc.lookup y=bB c->lo<=c->c<h.objs.size)->(∀y z c,lo<=c->acc.lookup y=bB c->acc.lookup z=bB c->y=z)->
  (∀y c,(sP h.objs.size names acc).lookup y=bB c->acc.lookup y=bB c\/(h.objs.size<=c/\(sV h names).IsCell c bC))/\(∀y,(∃c,acc.lookup y=bB c)->∃c,(sP h.objs.size names acc).lookup y=bB c)/\
  (∀y,(y,VQ)∈names->∃c,(sP h.objs.size names acc).lookup y=bB c/\h.objs.size<=c)/\(∀y,(y,VQ)∉names->(sP h.objs.size names acc).lookup y=acc.lookup y)/\
  ∀y z c,lo<=c->(sP h.objs.size names acc).lookup y=bB c->(sP h.objs.size names acc).lookup z=bB c->y=z:=by
 intro names
 induction names with
 |nil=>exact λh acc _ _ inj=>⟨λ_ _ e=>.inl e,λ_ e=>e,(λ_ e=>by cases e),λ_ _=>rfl,inj⟩
 |cons p r ih =>
  obtain⟨name,kind⟩:=p
  intro h acc hl hb inj
  by_cases hk:kind=.cell
  .subst hk
   have sz:(h.push { cls:=.type "cell", data:=.cell bC }).objs.size=h.objs.size+1:=Vk ..
   have lk:∀y,N5 y ((name,h.objs.size)::acc)=if y=name then bB h.objs.size else acc.lookup y:=λy=>by
    rw[Vt]
    by_cases q:y=name
    .rw[si q,tX.mpr q]
    .rw[sk q,sF.mpr q]
   obtain⟨a1,a2,a3,a4,a5⟩:=ih (h.push { cls:=.type "cell", data:=.cell bC }) ((name,h.objs.size)::acc) '#' (λy c e q=>by
     rw[lk]at e
     rw[sz]
     split at e
     .cases e;exact UT _
     .exact K3 (hb y c e q)) (λy z c q e1 e2=>by
     rw[lk]at e1 e2
     split at e1<;>split at e2
     .rename_i u v;rw[u,v]
     .cases e1;exact absurd (hb z _ e2 q) (Ud _)
     .cases e2;exact absurd (hb y _ e1 q) (Ud _)
     .exact inj y z c q e1 e2)
   rw[sz]at a1 a2 a3 a4 a5
   have e0:sP h.objs.size ((name,VQ)::r) acc=sP (h.objs.size+1) r ((name,h.objs.size)::acc):=rfl
   have e1:sV h ((name,VQ)::r)=sV (h.push { cls:=.type "cell", data:=.cell bC }) r:=rfl
   rw[e0,e1]
   have b1:∀y c,(sP (h.objs.size+1) r ((name,h.objs.size)::acc)).lookup y=bB c->acc.lookup y=bB c\/(h.objs.size<=c/\(sV (h.push { cls:=.type "cell", data:=.cell bC }) r).IsCell c bC):=λy c e=>by
    rcases a1 y c e with q|⟨q1,q2⟩
    .rw[lk]at q
     split at q
     .cases q
      exact .inr ⟨Kp _,_,EX r _ _ _ (Ks _ rfl),rfl⟩
     .exact .inl q
    .exact .inr ⟨by omega,q2⟩
   refine⟨b1,λy e=>a2 y ?_,λy e=>?_,λy e=>?_,a5⟩
   .obtain⟨c,e⟩:=e
    rw[lk]
    split
    .exact⟨_,rfl⟩
    .exact⟨_,e⟩
   .rcases Ko.mp e with q|q
    .cases q
     obtain⟨c,q⟩:=a2 name ⟨h.objs.size,by rw[lk,si rfl]⟩
     refine⟨c,q,?_⟩
     rcases a1 name c q with z|z
     .rw[lk,si rfl]at z;cases z;exact Kp _
     .omega
    .obtain⟨c,q1,q2⟩:=a3 y q
     exact⟨c,q1,by omega⟩
   .rw[a4 y λz=>e (KS _ z),lk,sk λz=>e (by rw[z];exact VO)]
  .have du:(kind==VQ)=bE:=sF.mpr hk
   have e0:sP h.objs.size ((name,kind)::r) acc=sP h.objs.size r acc:=by rw[sP,du];rfl
   have e1:sV h ((name,kind)::r)=sV h r:=by rw[sV,du];rfl
   rw[e0,e1]
   obtain⟨a1,a2,a3,a4,a5⟩:=ih h acc hl hb inj
   refine⟨a1,a2,λy e=>?_,λy e=>a4 y λz=>e (KS _ z),a5⟩
   rcases Ko.mp e with q|q
   .cases q;exact absurd rfl hk
   .exact a3 y q
theorem qjn {M:Model}{A:KZ}{E:ag}{s:Kf}{sc:V5}{gl:Kg}{cl:aM}{qual:Str}{func:aO}{code:Ke}{env:Env}{bl:Kg}{Q:Env->Kf->Prop}
  (hQ:Q (newEnv sc s.heap.objs.size gl (sP (s.heap.objs.size+1) sc.names cl) qual func code (bB env) bl) { s with heap:=sV (s.heap.push '-') sc.names }):
  sm M A (newFunctionEnv sc gl cl [] qual func code (bB env) bl) Q E s:=by
 simp only[newFunctionEnv,Option.isSome_some,sW]
 refine Kb (wpAny_alloc (Kb (wpAny_layCells _ (λname kind cells=>by cases hkc:kind==VQ<;>simp [hkc]) _ _ _ _ ?_)))
 rw[show({ s with heap:=s.heap.push '-' }:Kf).heap.objs.size=s.heap.objs.size+1 from Vk ..]
 rw[List.forIn_nil]
 exact Kb (Ki (Ki hQ))
structure ClOk (X:Cx)(sc:V5)(cl:aM)(n:Nat)(h:K4):Prop where
 old:∀y c,cl.lookup y=bB c->X.env.cells.lookup y=bB c\/(n<c/\∃v,h.IsCell c v)
 free:∀y,sc.names.lookup y=bB .free->∃c,cl.lookup y=bB c/\X.env.cells.lookup y=bB c
 cell:∀y,sc.names.lookup y=bB .cell->∃c,cl.lookup y=bB c/\n<c
 inj:∀y z c,cl.lookup y=bB c->cl.lookup z=bB c->y=z
def qip (J:It)(wg:TG)(tt:TT)(te:TE)(W:Nat->Nat->List V->St->Hp->Prop)(i m:Nat)(ys:List V)(σ:St)(H:Hp):Prop :=
 ∀x H2,J.yld i H x H2->wg x σ H2 λσ3 H3=>tt σ3 H3 λb H4=>if b=bD then te σ3 H4 λv H5=>ys.length<sv/\∃m',m'<m/\W (i+1) m' (ys++[v]) σ3 H5
  else ∃m',m'<m/\W (i+1) m' ys σ3 H4
def qiq (k:Nat)(J:It)(wg:TG)(tt:TT)(te:TE)(σ:St)(H:Hp)(Q:VK):Prop :=
 ∃W:Nat->Nat->List V->St->Hp->Prop,(∃m,W 0 m [] (σ++Kk k bC) H)/\∀i m ys σ' H',W i m ys σ' H'->
  (J.stop i H'/\∀D,H' D=bC->Q (.ref D) (upd H' D (.lst ys)))\/(J.go i H'/\qip J wg tt te W i m ys σ' H')
def qbG (k:Nat)(wi:TI)(wg:TG)(tt:TT)(te:TE):TE:=λσ H Q=>wi σ H λJ H1=>qiq k J wg tt te σ H1 Q
theorem ZC {env:Env}:∀{names:List (Str×NameKind)} {x:Str} {k:Eu},
  (names.map λ(n,k)=>if (k==Vs&&env.scope.kind==.function&&env.kindOf n==bB .cell) then (n,VQ) else (n,k)).lookup x=bB k->
   (names.lookup x=bB k)\/(k=.cell/\names.lookup x=bB .free):=by
 intro names x k
 induction names with
 |nil=>intro h;cases h
 |cons q r ih =>
  intro h
  obtain⟨n,k'⟩:=q
  have h':N5 x ((if (k'==Vs&&env.scope.kind==.function&&env.kindOf n==bB .cell)=bD then (n,VQ) else (n,k'))::(r.map λ(n,k)=>if (k==Vs&&env.scope.kind==.function&&env.kindOf n==bB .cell) then (n,VQ) else (n,k)))=bB k:=h
  cases hx:x==n with
  |true =>
   by_cases hc:(k'==Vs&&env.scope.kind==.function&&env.kindOf n==bB .cell)=bD
   .rw[si hc]at h'
    simp only[Vt,hx]at h' ⊢
    cases h'
    have:k'=.free:=by
     rw[KF,KF]at hc
     simpa using hc.1.1
    subst this
    exact .inr ⟨rfl,rfl⟩
   .rw[sk hc]at h'
    simp only[Vt,hx]at h' ⊢
    exact .inl h'
  |false =>
   by_cases hc:(k'==Vs&&env.scope.kind==.function&&env.kindOf n==bB .cell)=bD
   .rw[si hc]at h'
    simp only[Vt,hx]at h' ⊢
    exact ih h'
   .rw[sk hc]at h'
    simp only[Vt,hx]at h' ⊢
    exact ih h'
section
variable {X:Cx}{elt iter:KI}{ifs:aH}{tg:KI}{N':aA}{sc:V5}{pos:Pos}{wi:TI}{wg:TG}{tt:TT}{te:TE}{k:Nat}
theorem qgI {sd:ah}{σ:St}{H:Hp}{s s':Kf}{cl:aM}{fp:aw}{m:aq}(O:CompOk X N' k sc)(I:Inv X sd σ H s)(cK:ClOk X sc cl s.heap.objs.size s'.heap)
  (hf:∀b∈fp,FpOk X sd H b) (bK:∀b∈fp,b<s.heap.objs.size) (gq:s'.os=s.os) (hg:s'.gens=s.gens) (hk:∀b o,s.heap.get? b=bB o->s'.heap.get? b=bB o) (kf:s'.heap.Ns s.heap.objs.size m):
  Inv (qQ X N' sc cl s.heap.objs.size fp sd s H) [] (σ++Kk k bC) H s':=by
 have stk:∀b,b≠X.env.locals->b∉X.fs->b∉frs X.stack:=λb h1 h2 hb=>by
  rcases Ko.mp (I.stkSub b hb) with z|z
  .exact h1 z
  .exact h2 z
 have hr:∀{y:Str},(relabel sc X.env).names.lookup y=bB .cell\/(relabel sc X.env).names.lookup y=bB .free->sc.names.lookup y=bB .free\/sc.names.lookup y=bB .cell:=λ{y} h=>by
  rcases h with h|h
  .rcases ZC h with q|q
   .exact .inr q
   .exact .inl q.2
  .rcases ZC h with q|q
   .exact .inl q
   .exact .inl q.2
 refine⟨⟨I.ok.mod,O.kind,I.ok.glob,I.ok.blt,Kp _,cK.inj,λy hy=>?_,λy c z e=>?_,I.ok.hd,I.ok.frames,.inl rfl,λb hb=>?_,I.bs,Vx I.ok.bsz I.sz,λb o e hb=>?_,λb hb=>?_,I.stack,I.stkFree⟩,
  gq,?_,Un.kept hk,⟨m,kf,λi y v h1 h2 h3=>?_⟩,λy c h=>?_,I.hok.fresh (Kp _),λy c h=>(cK.old y c h).elim (I.freeC y c) λz=>I.hok.fresh (VL z.1),λp hp=>?_,I.hok.kept hk,?_⟩
 .rcases hr hy with q|q
  .obtain⟨c,e,_⟩:=cK.free y q;exact⟨c,e⟩
  .obtain⟨c,e,_⟩:=cK.cell y q;exact⟨c,e⟩
 .obtain⟨c',e',q⟩:=cK.cell y (sx z)
  have e:cl.lookup y=bB c:=e
  rw[e']at e;cases e
  exact VL q
 .have q:=hf b hb
  exact⟨KD (bK b hb),λz c e=>(cK.old z c e).elim (q.2.2.2.2.1 z c) λw=>V8 (XN (bK b hb) w.1)⟩
 .have du:b∈fp:=hb
  rcases(hf b du).2.2.2.1 with z|z
  .exact I.ok.noex b o e z
  .exact absurd (Vg (Kz (I.ok.bs b o e).1) z) (Ud _)
 .exact stk b (hf b hb).2.1 (hf b hb).2.2.1
 .rw[hg];exact I.bare
 .have hl:=I.len
  have hi:i<X.N.length:=by
   by_cases hi:i<X.N.length
   .exact hi
   .rw[Vy '#']at h2
    have:=US (a:=(bC:Option V)) (n:=k) (i:=i-σ.length)
    rw[this]at h2
    split at h2<;>cases h2
  have iC:X.N[i]?=bB y/\sc.names.lookup y≠bB .local/\sc.names.lookup y≠bB .cell:=by
   rcases O.old i y hi h1 with q|q
   .exact q
   .have no:∀kk,(relabel sc X.env).names.lookup y≠bB kk:=λkk z=>by
     rcases ZC z with w|w
     .rw[q]at w;cases w
     .rw[q]at w;cases w.2
    rcases h3 with h3|h3|h3
    .exact absurd h3 (no _)
    .exact absurd h3 (no _)
    .exact absurd h3 (no _)
  obtain⟨iC,h1n,oQ⟩:=iC
  have l8:σ[i]?=bB (bB v):=by
   rw[Vf '#']at h2
   exact h2
  have key:sc.names.lookup y=bB .free/\((relabel sc X.env).names.lookup y=bB .cell\/(relabel sc X.env).names.lookup y=bB .free):=by
   rcases h3 with h3|h3|h3
   .rcases ZC h3 with q|q
    .exact absurd q h1n
    .cases q.1
   .exact⟨(hr (.inl h3)).resolve_right oQ,.inl h3⟩
   .exact⟨(hr (.inr h3)).resolve_right oQ,.inr h3⟩
  obtain⟨q,kd⟩:=key
  have mem:=Uj q
  have kx:=O.free _ mem rfl
  obtain⟨m0,hn,iD⟩:=I.loc
  obtain⟨u,r,l⟩:=iD i y v iC l8 (by rcases kx with z|z;exact .inr (.inl z);exact .inr (.inr z))
  rcases l with ⟨l,_⟩|⟨_,c,e,z⟩
  .rcases kx with z|z
   .rw[l]at z;cases z
   .rw[l]at z;cases z
  .obtain⟨c',e',e2⟩:=cK.free y q
   rw[e]at e2;cases e2
   obtain⟨o,ho,hd⟩:=z
   exact⟨u,r,.inr ⟨kd,c,e',o,hk _ _ ho,hd⟩⟩
 .rcases cK.old y c h with z|z
  .obtain⟨v,o,ho,hd⟩:=I.cell y c z
   exact⟨v,o,hk _ _ ho,hd⟩
  .exact z.2
 .have kR:p∈X.pn++sd:=by
   rcases K6.mp hp with z|z
   .exact z
   .cases z
  obtain⟨e,n,ne,nf,d⟩:=I.pin p kR
  exact⟨hk _ _ e,n,KD (Kz e),stk p.1 ne nf,d⟩
 .show(σ++Kk k bC).length=N'.length
  rw[Kr,Vj,I.len,O.len]
theorem comp_back {σ σ':St}{H H':Hp}{s s1:Kf}{cl:aM}{C:Kg}(I:Inv X sd σ H s)(hf:∀b∈fp,FpOk X sd H b)
  (J:Inv (qQ X N' sc cl C fp sd s H) [] σ' H' s1):Inv X sd σ H' s1 :=
 I.call' (ch:=fp) J.os J.base J.hok J.bare λb hb=>⟨(hf b hb).2.2.2.1,(hf b hb).2.1,(hf b hb).2.2.2.2.1,(hf b hb).2.2.2.2.2⟩
theorem Inv.track   {o:HO} (I:Inv X sd σ H s) (hn:H D=bC) (hL:D≠X.env.locals) (h1:D∈X.ex\/X.s₀.heap.objs.size<=D) (h2:∀x c,X.env.cells.lookup x=bB c->c≠D) (h3:∀p∈X.pn++sd,p.1≠D)
  (ok:QF X.prog X.w (upd H D o) s.heap D o):Inv X sd σ (upd H D o) s:=by
 have ne:∀b u,H b=bB u->b≠D:=λb u e=>QT e hn
 exact I.step (g':=s.gens) (d':=s.drawn) (t':=s.toks) (ch:=[D]) (h':=s.heap) (λb hb=>by
   have e:b=D:=by simpa using hb
   subst e
   exact⟨h1,hL,h2,h3⟩) (λb o _ _ _ e _=>e) (λb o _ _ _ e _=>⟨o.slots,e⟩) (λb o hc e n=>by rw[qK (λz=>hc (by simp [z]))];exact n) (λb o _ e=>⟨o,e⟩)
  (λb xs e=>by rw[qK (ne b _ e)];exact e) (λb o u e=>by rw[qK (ne b _ e)];exact e) (λb ps e=>⟨#[],by rw[qK (ne b _ e),e];simp⟩) (λm hm=>hm) (λb u e=>by
   by_cases hb:b=D
   .subst hb;rw[q8]at e;cases e;exact ok
   .rw[qK hb]at e
    exact(I.hok b u e).stay (λc v _ q=>q) (λc q=>by rw[qK (ne c _ q)];exact q) λc xs q=>by rw[qK (ne c _ q)];exact q) I.bare
theorem qfI {sd:ah}{σ:St}{H:Hp}{s s':Kf}{cl:aM}{fp:aw}{m:aq}{it D:Kg}{tn:aY}{J:It}{R:br}{Qd:List V->Hp->Prop}(O:CompOk X N' k sc)
  (I:Inv X sd σ H s) (cK:ClOk X sc cl s.heap.objs.size s'.heap) (hf:∀b∈D::fp,FpOk X sd H b) (bK:∀b∈D::fp,b<s.heap.objs.size)
  (gq:s'.os=s.os) (hg:s'.gens=s.gens) (hk:∀b o,s.heap.get? b=bB o->s'.heap.get? b=bB o) (kf:s'.heap.Ns s.heap.objs.size m)
  (T:Turn X.prog X.w X.K tg J fp it tn) (kg:D∉fp) (st:tn 0 s'.heap) (hD:s'.heap.PlainList D #[])
  (pg:PG (qQ X N' sc cl s.heap.objs.size (D::fp) sd s H) tg wg) (hq:PTs (qQ X N' sc cl s.heap.objs.size (D::fp) sd s H) ifs tt) (he:PE (qQ X N' sc cl s.heap.objs.size (D::fp) sd s H) elt te)
  (W:Nat->Nat->List V->St->Hp->Prop) (m0:Nat) (w0:W 0 m0 [] (σ++Kk k bC) H) (turn:∀i m ys σ' H',W i m ys σ' H'->(J.stop i H'/\Qd ys H')\/(J.go i H'/\qip J wg tt te W i m ys σ' H'))
  (fin:∀s1 H1 σ1 (ys:List V) (its:ar),Inv (qQ X N' sc cl s.heap.objs.size (D::fp) sd s H) [] σ1 H1 s1->H1 D=bC->s1.heap.PlainList D its.toArray->Vals ys its->ys.length<=sv->Qd ys H1->R (.ok .next) s1):
  td (model X.prog X.w) X.A (.compLoop (.ListComp elt [⟨tg,iter,ifs,0⟩] sc pos) 0 (.ref it) (.ref D) (compEnvC sc cl s.heap.objs.size X.env)) R s':=by
 have I0:Inv (qQ X N' sc cl s.heap.objs.size (D::fp) sd s H) [] (σ++Kk k bC) H s':=qgI O I cK hf bK gq hg hk kf
 have stk:∀b,b≠X.env.locals->b∉X.fs->b∉frs X.stack:=λb h1 h2 hb=>by
  rcases Ko.mp (I.stkSub b hb) with z|z
  .exact h1 z
  .exact h2 z
 have eA:∀{H':Hp},(∀b∈D::fp,H' b=bC)->∀b∈D::fp,FpOk (qQ X N' sc cl s.heap.objs.size (D::fp) sd s H) [] H' b:=λhn b hb =>
  ⟨hn b hb,KD (bK b hb),stk b (hf b hb).2.1 (hf b hb).2.2.1,.inl hb,λz c e=>(cK.old z c e).elim ((hf b hb).2.2.2.2.1 z c) λw=>V8 (XN (bK b hb) w.1),λp hp=>by
   have kR:p∈X.pn++sd:=by
    rcases K6.mp hp with z|z
    .exact z
    .cases z
   exact(hf b hb).2.2.2.2.2 p kR⟩
 have ia:∀{H':Hp},(∀b∈D::fp,H' b=bC)->∀b∈fp,FpOk (qQ X N' sc cl s.heap.objs.size (D::fp) sd s H) [] H' b:=λhn b hb=>eA hn b (KS _ hb)
 refine qek (λkk s1=>∃i ys its σ' H',Inv (qQ X N' sc cl s.heap.objs.size (D::fp) sd s H) [] σ' H' s1/\tn i s1.heap/\(∀b∈D::fp,H' b=bC)/\s1.heap.PlainList D its.toArray/\Vals ys its/\ys.length<=sv/\W i kk ys σ' H') ?_ m0 ⟨0,[],[],σ++Kk k bC,H,I0,st,λb hb=>(hf b hb).1,hD,.nil,Vr _,w0⟩
 rintro kk s3 ⟨i,ys,its,σ3,H3,I3,kL,gn,l9,mf,mh,w3⟩
 rcases turn i kk ys σ3 H3 w3 with ⟨stop,qn⟩|⟨go,step⟩
 .have J3:=I3.pinned (fp:=[D]) (λb hb=>by
   have e:b=D:=by simpa using hb
   subst e
   exact eA gn b VO) (λb hb=>by
   have e:b=D:=by simpa using hb
   subst e
   obtain⟨n,e⟩:=l9
   exact⟨_,e,λv z=>by cases z⟩)
  have mi:∀b∈fp,FpOk (qQ X N' sc cl s.heap.objs.size (D::fp) sd s H) ([]++jj [D] s3.heap) H3 b:=λb hb=>by
   obtain⟨a1,a2,a3,a4,a5,a6⟩:=ia gn b hb
   refine⟨a1,a2,a3,a4,a5,λp hp=>?_⟩
   rcases K6.mp hp with z|z
   .exact a6 p (Vi _ z)
   .have z':p∈jj [D] s3.heap:=by simpa using z
    have:=(wQ z').1
    have e:p.1=D:=by simpa using this
    rw[e]
    intro z2
    subst z2
    exact kg hb
  refine thn (T.done (qQ X N' sc cl s.heap.objs.size (D::fp) sd s H) rfl rfl rfl O.calm i _ s3 σ3 H3 _ J3 mi kL stop) λr s4 ⟨hr,I4⟩=>?_
  subst hr
  obtain⟨n,e⟩:=l9
  have e4:=(I4.pin (D,_) (K5 _ (K5 _ (Z0 '+' e)))).1
  exact fin s4 H3 σ3 ys its I4.unpinned (gn D VO) ⟨n,e4⟩ mf mh qn
 .have J3:=I3.pinned (fp:=[D]) (λb hb=>by
   have e:b=D:=by simpa using hb
   subst e
   exact eA gn b VO) (λb hb=>by
   have e:b=D:=by simpa using hb
   subst e
   obtain⟨n,e⟩:=l9
   exact⟨_,e,λv z=>by cases z⟩)
  have mi:∀{H':Hp},(∀b∈fp,H' b=bC)->∀b∈fp,FpOk (qQ X N' sc cl s.heap.objs.size (D::fp) sd s H) ([]++jj [D] s3.heap) H' b:=λ{H'} hn b hb=>by
   obtain⟨_,a2,a3,a4,a5,a6⟩:=ia gn b hb
   refine⟨hn b hb,a2,a3,a4,a5,λp hp=>?_⟩
   rcases K6.mp hp with z|z
   .exact a6 p (Vi _ z)
   .have z':p∈jj [D] s3.heap:=by simpa using z
    have:=(wQ z').1
    have e:p.1=D:=by simpa using this
    rw[e]
    intro z2
    subst z2
    exact kg hb
  refine thn (T.item (qQ X N' sc cl s.heap.objs.size (D::fp) sd s H) rfl rfl rfl O.calm i _ s3 σ3 H3 _ J3 (mi λb hb=>gn b (KS _ hb)) kL go) λr s4 ⟨u,hr,h4⟩=>?_
  subst hr
  refine thn h4 λ_ s5 ⟨y,H5,I5,r5,y5,iz,mS⟩=>?_
  have mT:=I5.pinned (mi mS) (T.obj _ _ iz)
  have kS:=step y H5 y5
  obtain⟨n3,e3⟩:=l9
  have iE:∀{σ7:St} {H7:Hp} {s7:Kf},Inv (qQ X N' sc cl s.heap.objs.size (D::fp) sd s H) ([]++jj [D] s3.heap++jj fp s5.heap) σ7 H7 s7->s7.heap.get? D=bB { cls:=.type "list", data:=.seq its.toArray n3 }/\H7 D=bC:=λ{σ7 H7 s7} I7=>by
   have q:=I7.pin (D,_) (K5 _ (Vi _ (K5 _ (Z0 '+' e3))))
   exact⟨q.1,q.2.1⟩
  have ic:∀{σ7:St} {H7:Hp} {s7:Kf},Inv (qQ X N' sc cl s.heap.objs.size (D::fp) sd s H) ([]++jj [D] s3.heap++jj fp s5.heap) σ7 H7 s7->tn (i+1) s7.heap/\∀b∈D::fp,H7 b=bC:=λ{σ7 H7 s7} I7=>by
   refine⟨T.keep _ _ _ iz λb hb o e=>(I7.pin (b,o) (K5 _ (K5 _ (Z0 hb e)))).1,λb hb=>?_⟩
   rcases Ko.mp hb with rfl|hb
   .exact(iE I7).2
   .obtain⟨o,e,d⟩:=T.obj _ _ iz b hb
    exact(I7.pin (b,o) (K5 _ (K5 _ (Z0 hb e)))).2.1
  refine thF (pg _ s5 σ3 H5 y u _ mT r5 kS) λ_ s6 ⟨σ6,H6,I6,kT⟩=>?_
  refine thF (hq _ s6 _ H6 _ I6 kT) λb s7 ⟨H7,I7,q7⟩=>?_
  cases b with
  |false =>
   simp only[Vz,sQ]at q7 ⊢
   obtain⟨m',hm,w8⟩:=q7
   obtain⟨t8,f8⟩:=ic I7
   exact⟨m',hm,i+1,ys,its,_,H7,I7.unpinned.unpinned,t8,f8,⟨n3,(iE I7).1⟩,mf,mh,w8⟩
  |true =>
   simp only[sW]at q7 ⊢
   refine thF (he _ s7 _ H7 _ I7 q7) λv s8 ⟨vv,H8,I8,r8,hz,m',hm,w8⟩=>?_
   have hlen:=mf.length
   refine wpAny_list_append_plain ⟨n3,(iE I8).1⟩ (λh9 pl9 oR=>?_) (by rw[KA];omega)
   obtain⟨t8,f8⟩:=ic I8
   have kU:=eA f8 D VO
   have I9:Inv (qQ X N' sc cl s.heap.objs.size (D::fp) sd s H) [] σ6 H8 { s8 with heap:=h9 } :=
    I8.unpinned.unpinned.turned (t':=s8.toks) (λb o hb e=>(oR.2 b hb).trans e) kU.1 kU.2.1 kU.2.2.2.1 kU.2.2.2.2.1 kU.2.2.2.2.2
   refine⟨m',hm,i+1,ys++[vv],its++[v],_,H8,I9,T.keep _ _ _ t8 λb hb o e=>(oR.2 b (λz=>kg (z ▸ hb))).trans e,f8,by simpa using pl9,mf.append (.cons r8 .nil),?_,w8⟩
   rw[Kr,KQ]
   omega
theorem W8 {E:ag}{sd:ah}{σ:St}{H:Hp}{s:Kf}{cl:aM}{fp:aw}{it:Kg}{tn:aY}{J:It}{RR:Ke->Kg->Result->Kf->Prop}{Qd:V->Hp->Prop}(O:CompOk X N' k sc)
  (I:Inv X sd σ H s) (dQ:∀y c,cl.lookup y=bB c->X.env.cells.lookup y=bB c) (fB:∀y,(y,Vs)∈sc.names->∃c,cl.lookup y=bB c) (hf:∀b∈fp,FpOk X sd H b)
  (T:Turn X.prog X.w X.K tg J fp it tn) (st:tn 0 s.heap)
  (hg:∀cl C fp sd s H,PG (qQ X N' sc cl C fp sd s H) tg wg) (hq:∀cl C fp sd s H,PTs (qQ X N' sc cl C fp sd s H) ifs tt) (he:∀cl C fp sd s H,PE (qQ X N' sc cl C fp sd s H) elt te)
  (turn:qiq k J wg tt te σ H Qd)
  (fin:∀D C s1 H1 m,Inv X sd σ H1 s1->s1.heap.Ns C m->H1 C=bC->C≠X.env.locals->(X.s₀.heap.objs.size<=C)->(∀z c,X.env.cells.lookup z=bB c->c≠C)->(∀p∈X.pn++sd,p.1≠C)->Qd (.ref D) H1->RR (.ref D) C (.ok .next) s1):
  sm (model X.prog X.w) X.A (newList []) (λacc s₃=>sm (model X.prog X.w) X.A (newFunctionEnv sc X.env.globals cl [] X.env.qual bC .none (bB X.env)) (λkW s₄ =>
   td (model X.prog X.w) X.A (.compStart (.ListComp elt [⟨tg,iter,ifs,0⟩] sc pos) 0 (.ref it) acc { kW with scope:=relabel sc X.env }) (RR acc kW.locals) s₄) E s₃) E s:=by
 refine Vb (qjn ?_)
 dsimp only
 have hD:=I.hok.fresh (Kp s.heap.objs.size)
 have I3:Inv X sd σ H { s with heap:=s.heap.push { cls:=.type "list", dict:=bC,data:=.seq ([]:List Ke).toArray } } :=
  I.kept (t':=s.toks) (λb u e=>Kh _ e)
 have oT:∀b∈fp,b<s.heap.objs.size:=λb hb=>by
  obtain⟨o,e,_⟩:=T.obj _ _ st b hb
  exact Kz e
 have fD:FpOk X sd H s.heap.objs.size:=I.fpOk (Kp _) hD
 have oU:∀b∈s.heap.objs.size::fp,FpOk X sd H b:=λb hb=>by
  rcases Ko.mp hb with rfl|hb
  .exact fD
  .exact hf b hb
 have eD:(s.heap.push { cls:=.type "list", dict:=bC,data:=.seq ([]:List Ke).toArray }).get? s.heap.objs.size=bB { cls:=.type "list", dict:=bC,data:=.seq ([]:List Ke).toArray }:=Ks _ rfl
 generalize mj:s.heap.push { cls:=.type "list", dict:=bC,data:=.seq ([]:List Ke).toArray }=H2 at I3 eD ⊢
 have hC:H2.objs.size=s.heap.objs.size+1:=by rw[←mj,Vk]
 have oV:(H2.push '-').objs.size=H2.objs.size+1:=Vk ..
 obtain⟨a1,a2,a3,a4,a5⟩:=cf_ok H2.objs.size sc.names (H2.push '-') cl '#' (λy c e q=>by
  obtain⟨v,z⟩:=I3.cell y c (dQ y c e)
  exact Vg z.lt (by rw[oV];exact XE _)) (λy z c q e1 e2=>I3.ok.inj y z c (dQ _ _ e1) (dQ _ _ e2))
 rw[oV]at a1 a2 a3 a4 a5
 generalize hcl':sP (H2.objs.size+1) sc.names cl=mq at a1 a2 a3 a4 a5 ⊢
 have iF:∀b o,H2.get? b=bB o->(sV (H2.push '-') sc.names).get? b=bB o:=λb o e=>EX _ _ _ _ (Kh _ e)
 have iG:(sV (H2.push '-') sc.names).Ns H2.objs.size (λ_=>bC):=(Heap.Ns.new H2 (.type "dict")).keeps (EX _ _)
 have cK:ClOk X sc mq H2.objs.size (sV (H2.push '-') sc.names):=by
  have fr:∀y,sc.names.lookup y=bB .free->∃c,mq.lookup y=bB c/\X.env.cells.lookup y=bB c:=λy e=>by
   obtain⟨c,q⟩:=fB y (Uj e)
   refine⟨c,?_,dQ y c q⟩
   rw[a4 y λz=>by have:=O.cells _ z rfl;rw[e]at this;cases this]
   exact q
  have ol:∀y c,mq.lookup y=bB c->X.env.cells.lookup y=bB c\/(H2.objs.size<c/\∃v,(sV (H2.push '-') sc.names).IsCell c v):=λy c e=>by
   rcases a1 y c e with z|⟨z1,z2⟩
   .exact .inl (dQ y c z)
   .exact .inr ⟨by omega,bC,z2⟩
  refine⟨ol,fr,λy e=>?_,λy z c e1 e2=>?_⟩
  .obtain⟨c,q1,q2⟩:=a3 y (Uj e)
   exact⟨c,q1,by omega⟩
  .by_cases hc:H2.objs.size<=c
   .exact a5 y z c hc e1 e2
   .rcases ol y c e1 with q|q
    .rcases ol z c e2 with r|r
     .exact I3.ok.inj y z c q r
     .omega
    .omega
 generalize sV (H2.push '-') sc.names=h₁ at *
 have m8:∀b o,s.heap.get? b=bB o->H2.get? b=bB o:=λb o e=>mj ▸ Kh _ e
 obtain⟨W,⟨m0,w0⟩,tr⟩:=turn
 have kX:tn 0 h₁:=T.keep _ _ _ st λb _ o e=>iF b o (m8 b o e)
 have loop:td (model X.prog X.w) X.A (.compLoop (.ListComp elt [⟨tg,iter,ifs,0⟩] sc pos) 0 (.ref it) (.ref s.heap.objs.size) (compEnvC sc mq H2.objs.size X.env)) (RR (.ref s.heap.objs.size) H2.objs.size)
   { s with heap:=h₁ }:=by
  refine qfI (s:={ s with heap:=H2 }) (s':={ s with heap:=h₁ }) (Qd:=λys H'=>∀D,H' D=bC->Qd (.ref D) (upd H' D (.lst ys))) O I3 cK oU (λb hb=>?_) rfl rfl iF iG T (λz=>Ud _ (oT _ z)) kX ⟨0,iF _ _ eD⟩ (hg _ _ _ _ _ _) (hq _ _ _ _ _ _) (he _ _ _ _ _ _) W m0 w0 tr ?_
  .show b<H2.objs.size
   rw[hC]
   rcases Ko.mp hb with hb|hb
   .rw[hb];exact UT _
   .exact K3 (oT b hb)
  intro s1 H1 σ1 ys its J1 oW pl1 kh hz1 q1
  obtain⟨m,hn1,_⟩:=J1.loc
  obtain⟨n1,e1⟩:=pl1
  have I4:=(comp_back I3 oU J1).track (D:=s.heap.objs.size) (o:=.lst ys) oW fD.2.1 fD.2.2.2.1 fD.2.2.2.2.1 fD.2.2.2.2.2 ⟨hz1,its,n1,kh,e1⟩
  refine fin _ _ s1 _ m I4 hn1 (by rw[qK (by show H2.objs.size≠s.heap.objs.size;omega)];exact J1.free) (V8 I3.lt) I3.sz (λz c e h=>?_) (λp hp h=>?_) (q1 _ oW)
  .obtain⟨v,q⟩:=I3.cell z c e
   have:=q.lt
   rw[h]at this
   exact Ud _ this
  .have:=Kz (I3.pin p hp).1
   rw[h]at this
   exact Ud _ this
 exact codeAny_compStart_list loop (T.self _ 0 _ _ _ kX loop)
theorem qfl (O:CompOk X N' k sc)(hi:PI X tg iter wi)(hg:∀cl C fp sd s H,PG (qQ X N' sc cl C fp sd s H) tg wg)(hq:∀cl C fp sd s H,PTs (qQ X N' sc cl C fp sd s H) ifs tt)(he:∀cl C fp sd s H,PE (qQ X N' sc cl C fp sd s H) elt te)
  (hs:∀v,sD iter X.env v=pure v:=by intro _;rfl):PE X (.ListComp elt [⟨tg,iter,ifs,0⟩] sc pos) (qbG k wi wg tt te):=by
 intro sd s σ H Q I h
 rw[eval_ListComp]
 obtain⟨cl,m9,dQ,fB⟩:=W6 (sc:=sc) (env:=X.env) (λy hy hf=>I.ok.has y.1 (O.free y hy hf))
 refine tP (use:=bC) rfl hs m9 O.kind O.names ?_
 refine thn (hi sd s σ H _ I h) λv s1 h1=>thn h1 λlZ s2 h2=>?_
 obtain⟨it,fp,tn,J,H2,e,I2,T,fj,f2,q⟩:=h2
 subst e
 refine W8 (RR:=λacc C=>compPost (model X.prog X.w) X.A X.xe bC (EP X sd σ Q) acc C) (Qd:=Q) O I2 dQ fB f2 T fj hg hq he q ?_
 intro D C s3 H3 m I3 nc ng hL hsz gu ki q3
 exact⟨m,nc,λh' sb=>⟨.ref D,H3,I3.turned (t':=s3.toks) (λb o hb e=>(sb.2 b hb).trans e) ng hL (.inr hsz) gu ki,rfl,q3⟩⟩
theorem qfq {py eB:Pos}(O:CompOk X N' k sc)(hj:X.N[j]?=bB y)(hy:X.env.scope.names.lookup y=bB .local)(hi:PI X tg iter wi)(hg:∀cl C fp sd s H,PG (qQ X N' sc cl C fp sd s H) tg wg)(hq:∀cl C fp sd s H,PTs (qQ X N' sc cl C fp sd s H) ifs tt)(he:∀cl C fp sd s H,PE (qQ X N' sc cl C fp sd s H) elt te)
  (iH:sX (.ListComp elt [⟨tg,iter,ifs,0⟩] sc pos) (bB (.Name y py)) eB.line X.env=pure bD:=by rfl)
  (hs:∀v,sD iter X.env v=pure v:=by intro _;rfl):PS X (.Assign [.Name y py] (.ListComp elt [⟨tg,iter,ifs,0⟩] sc pos) eB) (tAsg (qbG k wi wg tt te) (qe7 j)):=by
 intro sd s σ H D I h
 rw[exec_Assign_Name_used _ _ _ _ iH]
 refine Kb (wpAny_standAt (Kb ?_))
 show sm _ X.A (do let _ ←comprehension (.ListComp elt [⟨tg,iter,ifs,0⟩] sc pos) sc X.env _ (newList []) bE (eval iter X.env) (bB (assign (.Name y py) X.env))) _ _ s
 obtain⟨cl,m9,dQ,fB⟩:=W6 (sc:=sc) (env:=X.env) (λy hy hf=>I.ok.has y.1 (O.free y hy hf))
 refine Kb (Uy (tP (use:=bB (assign (.Name y py) X.env)) (Q:=λ_ s'=>SP X sd D .next s') rfl hs m9 O.kind O.names ?_) (λ_ s' hq=>Ki (Ki hq)) λ_ _ e=>e)
 refine thn (hi sd s σ H _ I h) λv s1 h1=>thn h1 λlZ s2 h2=>?_
 obtain⟨it,fp,tn,J,H2,e,I2,T,fj,f2,q⟩:=h2
 subst e
 refine W8 (RR:=λacc C=>compPost (model X.prog X.w) X.A X.xe (bB (assign (.Name y py) X.env)) (λ_ s'=>SP X sd D .next s') acc C) (Qd:=λx H1=>qe7 j x σ H1 D.nx) O I2 dQ fB f2 T fj hg hq he q ?_
 intro B C s3 H3 m I3 nc ng hL hsz gu ki q3
 refine wpAny_assign_Name (qbD I3 O.nd hj (.inl hy) (v:=.ref B) rfl (λs4 I4 ⟨a,sb,ha⟩=>?_) (.inr hy))
 have hCa:C≠a:=by
  rcases ha with ha|ha
  .rw[ha];exact hL
  .exact V6 (gu _ _ ha)
 refine⟨m,nc.sameBut sb hCa,λh' sb'=>⟨_,H3,I4.turned (t':=s4.toks) (λb o hb e=>(sb'.2 b hb).trans e) ng hL (.inr hsz) gu ki,q3⟩⟩
end
noncomputable abbrev K2:=List (Int ⊕ List Int)
abbrev aP:=List (K2×Addr×Value)
noncomputable def k2D (k:Int ⊕ List Int):Ka:=match k with
 |.inl i=>.int i
 |.inr js=>.tuple (js.map .int)
def k2T (ks:K2):Ka:=.tuple (ks.map k2D)
noncomputable def k2H (k:Int ⊕ List Int):Int:=match k with
 |.inl i=>tM i
 |.inr js=>tY (VC (js.map tM))
noncomputable def k2N (k:Int ⊕ List Int):Nat:=match k with
 |.inl _=>1
 |.inr js=>js.length+1
theorem Wj:∀{a b:aF},a.map Kt=b.map Kt->a=b
 |[],[],_=>rfl
 |[],_::_,e=>by simp at e
 |_::_,[],e=>by simp at e
 |x::xs,y::ys,e=>by
  rw[Km,Km]at e
  injection e with e1 e2
  injection e1 with e1
  rw[e1,Wj e2]
theorem qjc (e:k2D a=k2D b):a=b:=by
 cases a with
 |inl i=>cases b with
  |inl j=>injection (show Kt i=Kt j from e) with e;rw[e]
  |inr js=>cases(show Kt i=VM _ from e)
 |inr is=>cases b with
  |inl j=>cases(show VM _=Kt j from e)
  |inr js=>injection (show VM (is.map .int)=VM (js.map .int) from e) with e;rw[Wj e]
theorem qdh:∀{a b:K2},a.map k2D=b.map k2D->a=b
 |[],[],_=>rfl
 |[],_::_,e=>by simp at e
 |_::_,[],e=>by simp at e
 |x::xs,y::ys,e=>by
  rw[Km,Km]at e
  injection e with e1 e2
  rw[qjc e1,qdh e2]
theorem qjd (e:k2T a=k2T b):a=b:=by
 injection (show VM (a.map k2D)=VM (b.map k2D) from e) with e
 exact qdh e
theorem qgC (ns:aF):Kq (ns.map .int)=bD/\KB (ns.map .int)=0:=by
 induction ns with
 |nil=>exact⟨rfl,rfl⟩
 |cons n ns ih=>exact⟨ih.1,by show max 0 (KB (ns.map .int))=0;rw[ih.2];rfl⟩
theorem qgD (ks:K2):Kq (ks.map k2D)=bD/\KB (ks.map k2D)<=1:=by
 induction ks with
 |nil=>exact⟨rfl,Vr _⟩
 |cons k ks ih =>
  have hk:(k2D k).canLay0=bD/\(k2D k).depth<=1:=by
   cases k with
   |inl i=>exact⟨rfl,Vr _⟩
   |inr js=>exact⟨(qgC js).1,by show KB (js.map .int)+1<=1;rw[(qgC js).2];exact Kp _⟩
  refine⟨?_,?_⟩
  .show((k2D k).canLay0&&Kq (ks.map k2D))=bD
   rw[hk.1,ih.1];rfl
  .show max (k2D k).depth (KB (ks.map k2D))<=1
   exact Nat.max_le.mpr ⟨hk.2,ih.2⟩
theorem Ww (ks:K2):(k2T ks).canLay0=bD/\(k2T ks).depth<=2:=⟨(qgD ks).1,EB (qgD ks).2⟩
def Is2 (h:K4)(ks:K2)(a:Kg):Prop:=∃as,UM h (.ref a) (k2T ks) as
section
variable {prog:KO}{w:K0}{A:KZ}{E:ag}{s:Kf}
def wF (prog:KO)(w:K0)(A:KZ)(h:K4)(v:Ke)(p:Int×Nat):Prop :=
 ∀(E:ag) (s:Kf) (Q:Int->Kf->Prop),s.heap=h->Q p.1 { s with toks:=s.toks+p.2 }->sm (model prog w) A (pyHash v) Q E s
theorem qdd {o:Obj}  {hs:List (Int×Nat)} {Q:Int->Kf->Prop} (hu:A.units<sL) (ho:s.heap.get? a=bB o) (hc:o.cls=.type "tuple") (hd:o.data=.seq items n)
  (hi:VB (wF prog w A.in1 s.heap) items.toList hs) (h:Q (tY (VC (hs.map (·.1)))) { s with toks:=s.toks+((hs.map (·.2)).sum+1) }):sm (model prog w) A (pyHash (.ref a)) Q E s:=by
 have hT:s.TypeIs (.ref a) "tuple" := ⟨o,ho,hc⟩
 unfold pyHash
 first|unfold pyHashByItsType|skip
 first|exact Kb (wpAny_cRoomFor_or (.inr hu) ?_)|skip
 first|refine Kb (wpAny_cRoomFor_or (.inr hu) (Kb (NQ hT XI.lookup ?_)))|refine Kb (NQ hT XI.lookup (id ?_))
 refine(id ?_:sm _ _ (if (bB (Uw "tuple.__hash__")==bB Vo)=bD then _ else _) Q E s)
 rw[sk (λz=>by rw[beq_builtin_none]at z;cases z)]
 refine Kb (NQ hT XI.lookup (id ?_:sm _ _ (callSpecialIfBoundUnlessNone? (.ref a) "__hash__" _ >>= _) Q E s))
 refine Kb (wpAny_callSpecialIfBoundUnlessNone?_slot hT XI (VE XI hT F.entry_tuple_hash (?_:sm _ _ (Ed (.ref a) >>= _) _ _ s) (F.args_tuple_hash_1 _)))
 refine Kb (wpAny_tupleItemsOf ho hd (Kb ?_))
 rw[←Array.forIn_toList]
 refine Nv _ (λrest (b:Array Int) s'=>∃done left,hs=done++left/\VB (wF prog w A.in1 s.heap) rest left/\b.toList=done.map (·.1)/\s'={ s with toks:=s.toks+(done.map (·.2)).sum }) _ ?_ ?_ _ _ ⟨[],hs,rfl,hi,rfl,rfl⟩
 .rintro x rest b s' ⟨done,left,rfl,hl,hb,rfl⟩
  cases hl with
  | @cons _ p _ ps h1 iD =>
   refine Kb (h1 _ _ _ rfl ?_)
   first
    |exact Ki ⟨done++[p],ps,by simp,iD,by simp [hb],by simp [Nt]⟩
    |exact Kb (Ki (Ki ⟨done++[p],ps,by simp,iD,by simp [hb],by simp [Nt]⟩))
 .rintro b s' ⟨done,left,rfl,hl,hb,rfl⟩
  cases hl
  rw[Vw]at h
  refine(id ?_:sm _ _ (retInt (VC b.toList)) _ _ _)
  rw[hb]
  refine wpAny_ret_mkInt (id ?_:sm _ _ (if (decide (-(2:Int) ^ 63<=VC (done.map (·.1)))&&decide (VC (done.map (·.1))<2 ^ 63))=bD then _ else _) Q E _)
  unfold tY at h
  by_cases hr:(decide (-(2:Int) ^ 63<=VC (done.map (·.1)))&&decide (VC (done.map (·.1))<2 ^ 63))=bD
  .rw[si hr]at h ⊢
   exact Ki (by simpa [Nt] using h)
  .rw[sk hr]at h ⊢
   exact Kb (wpAny_rule (Ki (by simpa [Nt] using h)))
theorem qdc (i:Int)(t:Tok):wF prog w A h (.int i t) (tM i,1):=λ_ _ _ _ q=>wpAny_pyHash_int q
theorem qfO {h:K4}:∀{vs:ar} {ns:aF} {as:aw},V1 h vs (ns.map .int) as->VB (wF prog w A h) vs (ns.map λi=>(tM i,1)):=by
 intro vs ns
 induction ns generalizing vs with
 |nil=>intro as r;cases r;exact .nil
 |cons n ns ih =>
  intro as r
  cases r with
  |cons a t=>cases a;exact .cons (qdc _ _) (ih t)
theorem qin (ns:aF):((ns.map λi=>(tM i,1)).map (·.2)).sum=ns.length:=by
 induction ns with
 |nil=>rfl
 |cons n ns ih=>rw[Km,Km,List.sum_cons,ih,Kv];omega
theorem qfP  (hu:A.units<sL) (r:UM h v (k2D k) as):wF prog w A h v (k2H k,k2N k):=by
 cases k with
 |inl i =>
  cases(show UM h v (.int i) as from r)
  exact qdc _ _
 |inr js =>
  cases(show UM h v (.tuple (js.map .int)) as from r) with
  |tuple h1 h2 h3 h4 =>
   intro E s Q e q
   subst e
   refine qdd hu h1 h2 h3 (qfO h4) ?_
   have e:(js.map λi=>(tM i,1)).map (·.1)=js.map tM:=by rw[Kx];rfl
   rw[e,qin]
   exact q
theorem Wf (hu:A.units<sL):∀{vs:ar} {ks:K2} {as:aw},V1 h vs (ks.map k2D) as->VB (wF prog w A h) vs (ks.map λk=>(k2H k,k2N k))
 |_,[],_,r=>by cases r;exact .nil
 |_,k::ks,_,r=>by
  cases r with
  |cons a t=>exact .cons (qfP hu a) (Wf hu t)
theorem qfs   (r:UM h v (.int i) as):tS n v=pure bD:=by
 cases r
 cases n<;>rfl
theorem qbz {m:Nat}{o:Obj}  {Q:Bool->Kf->Prop} (ho:s.heap.get? a=bB o) (hc:o.cls=.type "tuple") (hd:o.data=.seq items n)
  (hi:∀v∈items.toList,∀Q':Bool->Kf->Prop,Q' bD s->sm (model prog w) A (tS m v) Q' E s) (h:Q bD s):sm (model prog w) A (tS (m+1) (.ref a)) Q E s:=by
 have hT:s.TypeIs (.ref a) "tuple" := ⟨o,ho,hc⟩
 unfold tS
 refine Kb (NQ hT F.slot_tuple_eq.lookup (?_:sm _ _ (isInstance (.ref a) (.type "tuple") >>= _) _ _ s))
 refine Kb (EC hT isSubtype_tuple_tuple (id ?_))
 simp only[Ee,sQ,Vz]
 refine Kb (Uq ho hd (Kb (?_:sm _ _ (forIn items _ _) _ _ s)))
 rw[←Array.forIn_toList]
 refine Nv _ (λrest r s'=>r.1=bC/\s'=s/\∀v∈rest,∀Q':Bool->Kf->Prop,Q' bD s->sm (model prog w) A (tS m v) Q' E s) _ ?_ ?_ _ _ ⟨rfl,rfl,hi⟩
 .rintro v rest r s' ⟨hr,rfl,dE⟩
  refine Kb (dE v VO _ ?_)
  simp only[Ee,sQ,Vz]
  exact Ki ⟨rfl,rfl,λu nh=>dE u (KS _ nh)⟩
 .rintro⟨r1,r2⟩ s' ⟨hr,rfl,_⟩
  simp only at hr
  subst hr
  exact Ki h
theorem Jb:∀{vs:ar} {ds:ae} {as:aw},V1 h vs ds as->∀v∈vs,∃d∈ds,∃bs,UM h v d bs
 |_,_,_,.nil,v,hv=>by cases hv
 |_,_,_,.cons r t,v,hv=>by
  rcases Ko.mp hv with rfl|hv
  .exact⟨_,.head _,_,r⟩
  .obtain⟨d,hd,bs,q⟩:=Jb t v hv
   exact⟨d,.tail _ hd,bs,q⟩
theorem Is2.quiet  (x:Is2 s.heap ks a) (h:Q bD s):sm (model prog w) A (tS 8 (.ref a)) Q E s:=by
 obtain⟨as,r⟩:=x
 cases r with
 |tuple h1 h2 h3 h4 =>
  refine qbz h1 h2 h3 (λv hv Q' q=>?_) h
  obtain⟨d,hd,bs,rv⟩:=Jb h4 v hv
  obtain⟨k,_,rfl⟩:=Kl.mp hd
  cases k with
  |inl i=>rw[qfs (show UM s.heap v (.int i) bs from rv)];exact Ki q
  |inr js =>
   cases(show UM s.heap v (.tuple (js.map .int)) bs from rv) with
   |tuple g1 g2 g3 g4 =>
    refine qbz g1 g2 g3 (λu hu Q2 q2=>?_) q
    obtain⟨d,hd,cs,ru⟩:=Jb g4 u hu
    obtain⟨i,_,rfl⟩:=Kl.mp hd
    rw[qfs ru]
    exact Ki q2
theorem Is2.inj  (hx:Is2 h x a) (hy:Is2 h y a):x=y:=by
 obtain⟨as,r⟩:=hx
 obtain⟨bs,q⟩:=hy
 exact qjd (SeqAt.Reads.unique _ _ _ _ _ (Ww x).1 r q)
theorem qcw {h h':K4}{d:Kg}(k:∀b o,b≠d->h.get? b=bB o->h'.get? b=bB o):∀{vs:ar} {ns:aF} {as:aw},V1 h vs (ns.map .int) as->V1 h' vs (ns.map .int) as:=by
 intro vs ns
 induction ns generalizing vs with
 |nil=>intro as r;cases r;exact .nil
 |cons n ns ih =>
  intro as r
  cases r with
  |cons a t=>cases a;exact .cons (.int _ _) (ih t)
theorem Is2.keeps {h h':K4}  {o:Obj}  (x:Is2 h ks a) (ho:h.get? d=bB o) (hd:o.data=.dict es ep) (hs:V7 d h h'):Is2 h' ks a:=by
 have k:∀b o,b≠d->h.get? b=bB o->h'.get? b=bB o:=λb o hb e=>(hs.2 b hb).trans e
 have ne:∀{b:Kg} {ob:Obj} {items:aS} {n:Nat},h.get? b=bB ob->ob.data=.seq items n->b≠d:=λe q z=>by
  subst z
  rw[ho]at e
  cases e
  rw[hd]at q
  cases q
 have item:∀{vs:ar} {ks:K2} {as:aw},V1 h vs (ks.map k2D) as->V1 h' vs (ks.map k2D) as:=by
  intro vs ks
  induction ks generalizing vs with
  |nil=>intro as r;cases r;exact .nil
  |cons k1 ks ih =>
   intro as r
   cases r with
   |cons a t =>
    refine .cons ?_ (ih t)
    cases k1 with
    |inl i=>cases(show UM h _ (.int i) _ from a);exact .int _ _
    |inr js =>
     cases(show UM h _ (.tuple (js.map .int)) _ from a) with
     |tuple g1 g2 g3 g4=>exact .tuple (k _ _ (ne g1 g3) g1) g2 g3 (qcw k g4)
 obtain⟨as,r⟩:=x
 cases r with
 |tuple h1 h2 h3 h4=>exact⟨_,.tuple (k _ _ (ne h1 h3) h1) h2 h3 (item h4)⟩
theorem qc5:∀a b:List Int,KC (.tuple (a.map .int)) (.tuple (b.map .int))=decide (a=b)
 |[],[]=>rfl
 |[],_::_=>rfl
 |_::_,[]=>rfl
 |x::xs,y::ys=>by
  have:KC (.tuple ((x::xs).map .int)) (.tuple ((y::ys).map .int))=((x==y)&&KC (.tuple (xs.map .int)) (.tuple (ys.map .int))):=rfl
  rw[this,qc5 xs ys,Xs]
  simp
theorem qi0 (a b:Int ⊕ List Int):KC (k2D a) (k2D b)=decide (a=b):=by
 cases a with
 |inl i=>cases b with
  |inl j =>
   have:KC (k2D (.inl i)) (k2D (.inl j))=(i==j):=rfl
   rw[this,Xs]
   simp
  |inr js=>exact(se (λz=>by cases z)).symm
 |inr is=>cases b with
  |inl j=>exact(se (λz=>by cases z)).symm
  |inr js =>
   have:KC (k2D (.inr is)) (k2D (.inr js))=KC (.tuple (is.map .int)) (.tuple (js.map .int)):=rfl
   rw[this,qc5,Xs]
   simp
theorem qbS:∀a b:K2,KC (k2T a) (k2T b)=decide (a=b)
 |[],[]=>rfl
 |[],_::_=>rfl
 |_::_,[]=>rfl
 |x::xs,y::ys=>by
  have:KC (k2T (x::xs)) (k2T (y::ys))=(KC (k2D x) (k2D y)&&KC (k2T xs) (k2T ys)):=rfl
  rw[this,qi0,qbS xs ys,Xs]
  simp
end
def qao (prog:KO)(w:K0):HeapKind prog w K2 where
 is:=Is2
 hash:=λks=>tY (VC (ks.map k2H))
 draws:=λks=>((ks.map λk=>(k2H k,k2N k)).map (·.2)).sum+1
 room:=λA=>A.units+3<sL
 inj:=λhx hy=>hx.inj hy
 keeps:=λx ho hd hs=>x.keeps ho hd hs
 pyHash:=λ{A E s k a Q} hu hk h=>by
  obtain⟨as,r⟩:=hk
  cases r with
  |tuple h1 h2 h3 h4 =>
   have ni:A.in1.units<sL:=by show A.units+1<sL;omega
   refine qdd '#' h1 h2 h3 (Wf ni h4) ?_
   have e:(k.map λx=>(k2H x,k2N x)).map (·.1)=k.map k2H:=by rw[Kx];rfl
   rw[e]
   exact h
 eqBool:=λ{A E s x y a b Q} hu hx hy h=>by
  obtain⟨as,r⟩:=hx
  obtain⟨bs,q⟩:=hy
  refine Nw _ _ A s _ _ _ _ r q (Ww x).1 (Ww y).1 ?_ prog w E Q (by rw[qbS];exact h)
  have:=(Ww x).2
  have:=NR (k2T x).depth (k2T y).depth
  omega
 quiet:=λhk h=>hk.quiet h
def qk7 (ks:K2):Int:=tY (VC (ks.map k2H))
abbrev KX:=Int ⊕ K2
def kxD (k:KX):Ka:=match k with
 |.inl i=>.int i
 |.inr ks=>k2T ks
def kxV (k:KX)(b:Kg):V:=match k with
 |.inl i=>.int i
 |.inr _=>.ref b
def kxI (k:KX):Bool:=match k with
 |.inl _=>bD
 |.inr _=>bE
noncomputable def qg3:Ka->Bool
 |.int _=>bD
 |_=>bE
theorem qd9 (k:KX):qg3 (kxD k)=kxI k:=by cases k<;>rfl
theorem qbT (a b:KX):KC (kxD a) (kxD b)=decide (a=b):=by
 cases a with
 |inl i=>cases b with
  |inl j =>
   have:KC (kxD (.inl i)) (kxD (.inl j))=(i==j):=rfl
   rw[this,Xs]
   simp
  |inr js=>exact(se (λz=>by cases z)).symm
 |inr is=>cases b with
  |inl j=>exact(se (λz=>by cases z)).symm
  |inr js =>
   have:KC (kxD (.inr is)) (kxD (.inr js))=KC (k2T is) (k2T js):=rfl
   rw[this,qbS,Xs]
   simp
abbrev PkT (p:KX×Addr×V)(q:K2×Addr×Value):Prop:=p.1=.inr q.1/\p.2.1=q.2.1/\RelV p.2.2 q.2.2
abbrev PkI (p:KX×Addr×V)(q:Int×Value):Prop:=p.1=.inl q.1/\RelV p.2.2 q.2
abbrev EnI (e:UZ)(q:Int×Value):Prop:=e.hash=tM q.1/\(∃t,e.key=.int q.1 t)/\e.val=q.2
def DctT (a:Kg)(kvs:List (KX×Addr×V))(ep:Nat)(h:K4):Prop :=
 ∃xs:List (K2×Addr×Value),VB PkT kvs xs/\∃o es,h.get? a=bB o/\o.ExactDict/\o.data=.dict es ep/\es.toList=xs.map (λx=>(⟨qk7 x.1,.ref x.2.1,x.2.2⟩:UZ))/\(xs.map (·.1)).Nodup
def DctI (a:Kg)(kvs:List (KX×Addr×V))(ep:Nat)(h:K4):Prop :=
 ∃vs:List (Int×Value),VB PkI kvs vs/\∃o es,h.get? a=bB o/\o.ExactDict/\o.data=.dict es ep/\VB EnI es.toList vs/\(vs.map (·.1)).Nodup
def zQ (a:Kg)(kvs:List (KX×Addr×V))(ep:Nat)(h:K4):Prop :=
 kvs.length<=sv/\(a==sU)=bE/\(DctT a kvs ep h\/DctI a kvs ep h)
def DctO (a:Kg)(kvs:List (KX×Addr×V))(ep:Nat):HO:=.ext (zQ a kvs ep)
theorem zQ.ok    (d:zQ a kvs ep h):QF P w H h a (DctO a kvs ep):=by
 refine⟨d,?_,λh1 h2 ⟨z,y,e⟩ k=>⟨z,y,e.imp (λ⟨xs,r,o,es,g1,g2⟩=>⟨xs,r,o,es,k o g1,g2⟩) λ⟨xs,r,o,es,g1,g2⟩=>⟨xs,r,o,es,k o g1,g2⟩⟩⟩
 obtain⟨_,_,⟨_,_,o,_,g1,_⟩|⟨_,_,o,_,g1,_⟩⟩:=d
 .exact⟨o,g1⟩
 .exact⟨o,g1⟩
theorem zQ.of    (x:QF P w H h a (DctO a kvs ep)):zQ a kvs ep h:=x.1
def dkv (kvs:List (KX×Addr×V))(ds:ae):List (Ka×PyData):=(kvs.map λp=>kxD p.1).zip ds
theorem qc0 {kvs:List (KX×Addr×V)}{ds:ae}(h:kvs.length=ds.length):(dkv kvs ds).map (·.1)=kvs.map λp=>kxD p.1:=by
 unfold dkv
 rw[List.map_fst_zip (by rw[Kc,h];exact Kp _)]
theorem qh2 {kvs:List (KX×Addr×V)}{xs:aP}(r:VB PkT kvs xs):Vals (kvs.map λp=>kxV p.1 p.2.1) (xs.map λx=>KP x.2.1)/\Vals (kvs.map (·.2.2)) (xs.map (·.2.2)):=by
 induction r with
 |nil=>exact⟨.nil,.nil⟩
 |cons h t ih=>exact⟨.cons (by dsimp only;rw[h.1,h.2.1];rfl) ih.1,.cons h.2.2 ih.2⟩
theorem qdE:∀{kvs:List (KX×Addr×V)} {vs:aW} {es:List UZ},VB PkI kvs vs->VB EnI es vs->Vals (kvs.map λp=>kxV p.1 p.2.1) (es.map (·.key))/\Vals (kvs.map (·.2.2)) (es.map (·.val))
 |_,_,_,.nil,.nil=>⟨.nil,.nil⟩
 |_,_,_,.cons h t,.cons g u=>by
  obtain⟨i1,i2⟩:=qdE t u
  obtain⟨_,⟨tk,g1⟩,g2⟩:=g
  exact⟨.cons (by dsimp only;rw[h.1,g1];exact⟨tk,rfl⟩) i1,.cons (by dsimp only;rw[g2];exact h.2) i2⟩
theorem zQ.vals {h:K4}{kvs:List (KX×Addr×V)}(d:zQ a kvs ep h):∃o es,h.get? a=bB o/\o.ExactDict/\o.data=.dict es ep/\Vals (kvs.map λp=>kxV p.1 p.2.1) (es.toList.map (·.key))/\Vals (kvs.map (·.2.2)) (es.toList.map (·.val)):=by
 obtain⟨_,_,⟨xs,r,o,es,g1,g2,g3,g4,_⟩|⟨vs,r,o,es,g1,g2,g3,g4,_⟩⟩:=d
 .refine⟨o,es,g1,g2,g3,?_⟩
  rw[g4,Kx,Kx]
  exact qh2 r
 .exact⟨o,es,g1,g2,g3,qdE r g4⟩
theorem zQ.tup  (d:zQ a kvs ep h) (hk:∀p∈kvs,kxI p.1=bE):DctT a kvs ep h:=by
 obtain⟨_,_,d|⟨vs,r,o,es,g1,g2,g3,g4,g5⟩⟩:=d
 .exact d
 .cases r with
  |nil =>
   have he:es.toList=[]:=by cases h:es.toList with
    |nil=>rfl
    |cons=>rw[h]at g4;cases g4
   exact⟨[],.nil,o,es,g1,g2,g3,he,UU⟩
  | @cons p q _ _ h t =>
   have:=hk p (.head _)
   rw[h.1]at this
   cases this
theorem zQ.int  (d:zQ a kvs ep h) (hk:∀p∈kvs,kxI p.1=bD):DctI a kvs ep h:=by
 obtain⟨_,_,⟨xs,r,o,es,g1,g2,g3,g4,g5⟩|d⟩:=d
 .cases r with
  |nil=>exact⟨[],.nil,o,es,g1,g2,g3,by rw[g4];exact .nil,UU⟩
  | @cons p q _ _ h t =>
   have:=hk p (.head _)
   rw[h.1]at this
   cases this
 .exact d
noncomputable def YX:List String:=["int", "bool", "tuple", "list", "str"]
def xcB (K:Kd)(C:Kg):Bool :=
 (PySem.W.clsIn K C).isSome&&(Ug K (.ref C) "__getattribute__" == bB (bB (.builtin "BaseException.__getattribute__")))&&(Ug K (.ref C) "__getattr__" == bB bC)
 && (Ug K (.ref C) "__class__" == bB (bB (.builtin "object.__class__")))&&(Xp K C (.type "object")==bB bD)&&(Xp K C (.type "BaseException")==bB bD)
 && YX.all λT=>Uh K (.ref C) (.type T)==bB bE
structure XcK (K:Kd)(C:Kg):Prop where
 cls:(PySem.W.clsIn K C).isSome=bD
 ga:Ug K (.ref C) "__getattribute__" = bB (bB (.builtin "BaseException.__getattribute__"))
 gt:Ug K (.ref C) "__getattr__" = bB bC
 cl:Ug K (.ref C) "__class__" = bB (bB (.builtin "object.__class__"))
 mo:Xp K C (.type "object")=bB bD
 mb:Xp K C (.type "BaseException")=bB bD
 ts:∀T∈YX,Uh K (.ref C) (.type T)=bB bE
theorem qiw {K:Kd}{C:Kg}(h:xcB K C=bD):XcK K C:=by
 unfold xcB at h
 simp only[KF,tX,KN]at h
 obtain⟨⟨⟨⟨⟨⟨h1,h2⟩,h3⟩,h4⟩,h5⟩,h6⟩,h7⟩:=h
 exact⟨h1,h2,h3,h4,h5,h6,h7⟩
section
variable {prog:KO}{w:K0}{A:KZ}{E:ag}{s:Kf}{K:Kd}{x C:Kg}
def OfC (h:K4)(x C:Kg):Prop:=∃o,h.get? x=bB o/\o.cls=.ref C
theorem OfC.ty (I:OfC h x C):PySem.W.Looks M h (typeOf (.ref x)) (.ref C):=by
 obtain⟨o,h1,h2⟩:=I
 exact h2 ▸ (PySem.W.Looks.ld h1).andThen .now
open PySem.W in
theorem qbV {M:Model}{ie:Ke}(Z:XcK K C)(X:K.In s.heap)(I:OfC s.heap x C)(hq:Q () s):
  sm M A (checkBuiltinCall "BaseException.__getattribute__" ⟨[.ref x,ie],[]⟩) Q E s:=by
 obtain⟨hh,g,d,t,os⟩:=s
 have hk:builtinKind "BaseException.__getattribute__" = bB .slot:=by decide +kernel
 have hs:splitId "BaseException.__getattribute__" = bB ("BaseException", "__getattribute__"):=by decide +kernel
 have L0:=I.ty (M:=M)
 have L1:=looks_mroIn (M:=M) X Z.mb
 have ha:=F.args_bexc_ga (.ref x) ie
 simp only[checkBuiltinCall,hk,hs]
 refine Kb ?_
 unfold isInstance
 repeat (first|with_reducible refine Looks.at (by assumption) ?_|wp_step)
 exact hq
open PySem.W in
theorem qaN (Z:XcK K C)(X:K.In s.heap)(I:OfC s.heap x C)(hq:R (.ok (.ret (.ref C))) s):
  td (model prog w) A (.call (.builtin "getset_descriptor.__get__") ⟨[.builtin "object.__class__", .ref x,.ref C],[]⟩) R s:=by
 obtain⟨hh,g,d,t,os⟩:=s
 have oX:(⟨hh,g,d,t,os⟩:Kf).TypeIs (.builtin "object.__class__") "getset_descriptor" := NF
 have L0:=I.ty (M:=model prog w)
 have L1:Looks (model prog w) hh (isSubtype (.ref C) (.type (".".intercalate ("object.__class__".cutAt '.').dropLast))) bD:=by
  rw[F.owner_object_class]
  exact looks_mroIn (M:=model prog w) X Z.mo
 refine codeAny_call_builtin Fe.plain F.entry_gs_get (Fe.check _ _ _ _ _ _ _ _ oX (F.args_gs_get _ _ _) ?_)
 repeat (any_goals (first|assumption|with_reducible refine Looks.at (by assumption) ?_|wp_step))
 refine⟨Code.quiet_builtin _ '$',Ua F.entry_object_class ?_⟩
 repeat (any_goals (first|assumption|with_reducible refine Looks.at (by assumption) ?_|wp_step))
open PySem.W in
theorem Wu {tk:Tok}(Z:XcK K C)(X:K.In s.heap)(I:OfC s.heap x C)(hq:Q (.done (.ret (.ref C))) s):
  sm (model prog w) A (UQ.«object.__getattribute__» ⟨[.ref x,.str "__class__" tk],[]⟩) Q E s:=by
 obtain⟨hh,g,d,t,os⟩:=s
 have oX:(⟨hh,g,d,t,os⟩:Kf).TypeIs (.builtin "object.__class__") "getset_descriptor" := NF
 have L0:=I.ty (M:=model prog w)
 have L1:=looks_findIn (M:=model prog w) X Z.cl
 have f5:=NF;have f6:=Fe.lookup;have f7:=F.slot_gs_set.lookup
 repeat (any_goals (first|assumption|with_reducible refine Looks.at (by assumption) ?_|wp_step))
 refine qaN Z X I ?_
 repeat (any_goals (first|assumption|wp_step))
open PySem.W in
theorem qbU {tk:Tok}(Z:XcK K C)(X:K.In s.heap)(I:OfC s.heap x C)(hq:Q (.ref C) s):
  sm (model prog w) A (getAttrBy (.ref x) (.str "__class__" tk) bE) Q E s:=by
 obtain⟨hh,g,d,t,os⟩:=s
 have L0:=I.ty (M:=model prog w)
 have L1:=looks_findIn (M:=model prog w) X Z.ga
 have L2:=looks_findIn (M:=model prog w) X Z.gt
 have f3:=F.excAttr_ValueError.ga.bind (.ref x)
 have hx2:(Uw "BaseException.__getattribute__" == Uw "object.__getattribute__")=bE:=by decide +kernel
 have nj:(onTheHeap (KP C)&&Uw "BaseException.__getattribute__" == Uw "object.__getattribute__")=bE:=by rw[hx2];exact Bool.and_false _
 repeat (any_goals (first|assumption|with_reducible refine Looks.at (by assumption) ?_|wp_step))
 refine codeAny_call_builtin F.excAttr_ValueError.ga.plain F.entry_bexc_ga (qbV Z X I (Wu Z X I ?_))
 repeat (any_goals (first|assumption|wp_step))
open PySem.W in
theorem qfM (Z:XcK K C)(X:K.In s.heap)(I:OfC s.heap x C)(hq:Q (bB (.ref C)) { s with toks:=s.toks+1 }):
  sm (model prog w) A (getAttr? (.ref x) "__class__") Q E s:=by
 obtain⟨hh,g,d,t,os⟩:=s
 unfold getAttr? getAttrBy?
 refine Kb (wpAny_mkText (Kb (Nu (qbU (s:=⟨hh,g,d,t+1,os⟩) Z X I ?_))))
 exact Ki hq
end
open PySem.W in
theorem qhe {K:Kd}{a C:Kg}(Z:XcK K C):KitX K (.ref a) (.ref C) (λh=>OfC h a C) where
 ty:=λ_ _ _ I=>I.ty
 it:=λ_ _ X _=>by
  have z:=Z.cls
  unfold clsIn at z
  split at z
  .rename_i c' d' cd' mO ho
   intro A' Q' E' s' k q;unfold isType loadHead
   exact Kb (wpAny_loadPart (k _ _ (X _ _ ho)) (Ki q))
  .cases z
 ne:=λh tp dd its n sl X htp=>by
  have z:=Z.cls
  refine Em.mpr λq=>?_
  have e:C=tp:=Value.ref.inj (tX.mp q)
  subst e;unfold clsIn at z
  split at z
  .rename_i c' d' cd' mO ho
   have y:=(X _ _ ho).symm.trans htp
   cases y
  .cases z
 ca:=λX I k=>qfM Z X I k
def icB (K:Kd)(C:Kg):Bool :=
 Et K C Str.empty&&Fi K C&&Fj K C&&(Ug K (.ref C) "__setattr__" == bB (bB (.builtin "object.__setattr__")))
 && (Ug K (.ref C) "__class__" == bB (bB (.builtin "object.__class__")))&&(Ei K (.builtin "object.__class__") "__get__" == bB (bB (.builtin "getset_descriptor.__get__")))
 && (EU K (.builtin "object.__class__")==bB bD)&&(Xp K C (.type "object")==bB bD)&&YX.all λT=>Uh K (.ref C) (.type T)==bB bE
structure IcK (K:Kd)(C:Kg):Prop where
 cl:Cls K C
 ha:Ug K (.ref C) "__class__" = bB (bB (.builtin "object.__class__"))
 hn:Ei K (.builtin "object.__class__") "__get__" = bB (bB (.builtin "getset_descriptor.__get__"))
 tk:EU K (.builtin "object.__class__")=bB bD
 mo:Xp K C (.type "object")=bB bD
 ts:∀T∈YX,Uh K (.ref C) (.type T)=bB bE
theorem qg0 {K:Kd}{C:Kg}(h:icB K C=bD):IcK K C:=by
 unfold icB at h
 simp only[KF,tX,KN]at h
 obtain⟨⟨⟨⟨⟨⟨⟨⟨h1,h2⟩,h3⟩,h4⟩,h5⟩,h6⟩,h7⟩,h8⟩,h9⟩:=h
 exact⟨⟨h1,h2,h3,h4⟩,h5,h6,h7,h8,h9⟩
theorem IcK.ty {K:Kd}{H:Hp}{a C dx:Kg}{fs:List (Str×V)}(Z:IcK K C)(e:H a=bB (.ins C dx fs)):TyOf K H (.ref a) (.ref C):=.ins e Z.cl Z.ha Z.hn Z.tk Z.mo
abbrev Av:=Kg->Prop
noncomputable def J9:HO->Bool
 |.lst _=>bD
 |.dK _=>bD
 |.dT _=>bD
 |.ext _=>bD
 |_=>bE
def Dm (S:Av)(H:Hp):Prop:=∀a,S a->∃o,H a=bB o/\J9 o=bD
def Off (S:Av)(H H':Hp):Prop:=∀b o,¬S b->H b=bB o->H' b=bB o
def KqL (K:Kd)(a:Kg)(xs:List V):Prop:=∃(o:Obj) (its:aS) (n:Nat),K.lookup a=bB o/\o.cls=.type "list"/\o.dict=bC/\o.data=.seq its n/\its.size<=sv/\Vals xs its.toList
def SqLS (K:Kd)(H:Hp)(S:Av)(a:Kg)(xs:List V):Prop:=(Rd H a (.lst xs)/\¬S a)\/KqL K a xs
def ExcO (K:Kd)(o:Obj)(c:Str):Prop:=∃C vs,o.cls=.ref C/\o.data=.fields vs/\K7 K su c=bB (bB (.ref C))/\xcB K C=bD
noncomputable def excD (c:Str)(d:Ka):Ka:=.dict [(.str c,d),(.int 0,.none)]
noncomputable def excK:List (Ka×PyData)->Bool
 |(.str _,_)::_=>bD
 |_=>bE
theorem qc6:excK (dkv kvs ds)=bE:=by
 cases kvs with
 |nil=>rfl
 |cons p ps =>
  cases ds with
  |nil=>rfl
  |cons d ds=>obtain⟨k|k,_⟩:=p<;>rfl
noncomputable def objD (c:Str):Ka:=.dict [(.str c,.none),(.int 1,.none)]
mutual
inductive Den (K:Kd)(H:Hp)(S:Av):V->Ka->Prop
 |none:Den K H S .non .none
 |bool (b:Bool):Den K H S (.bl b) (.bool b)
 |int (i:Int):Den K H S (.int i) (.int i)
 |str (x:Str):Den K H S (.str x) (.str x)
 |list {a:Kg} {xs:List V} {ds:ae}:SqLS K H S a xs->DenL K H S xs ds->Den K H S (.ref a) (.list ds)
 |tuple {a:Kg} {xs:List V} {ds:ae}:SqT K H a xs->DenL K H S xs ds->Den K H S (.ref a) (.tuple ds)
 |dict {a:Kg} {kvs:List (KX×Addr×V)} {ep:Nat} {ds:ae}:(H a=bB (DctO a kvs ep)/\¬S a)->DenL K H S (kvs.map λp=>kxV p.1 p.2.1) (kvs.map λp=>kxD p.1)->DenL K H S (kvs.map (·.2.2)) ds->Den K H S (.ref a) (.dict (dkv kvs ds))
 |exc0 {a:Kg} {o:Obj} {c:Str}:H a=bB (.frz o (.own a))->ExcO K o c->Den K H S (.ref a) (excD c .none)
 |exc1 {a dx:Kg} {o:Obj} {c n:Str} {v:V} {d:Ka}:H a=bB (.frz o (.own a))->ExcO K o c->o.dict=bB dx->H dx=bB (.xd [(n,v)])->Den K H S v d->Den K H S (.ref a) (excD c (.tuple [.str n,d]))
 |ins {a dx C:Kg} {c:Str}:H a=bB (.ins C dx [])->(K7 K su c=bB (bB (.ref C))/\icB K C=bD)->Den K H S (.ref a) (objD c)
inductive DenL (K:Kd)(H:Hp)(S:Av):List V->List Ka->Prop
 |nil:DenL K H S [] []
 |cons {x:V} {d:Ka} {xs:List V} {ds:ae}:Den K H S x d->DenL K H S xs ds->DenL K H S (x::xs) (d::ds)
end
mutual
def flat:Ka->Bool
 |.none=>bD
 |.bool _=>bD
 |.int _=>bD
 |.str _=>bD
 |.list _=>bE
 |.tuple ds=>jm ds
 |.dict _=>bE
def jm:List Ka->Bool
 |[]=>bD
 |d::ds=>flat d&&jm ds
end
section
variable {K:Kd}{H H':Hp}{S S':Av}
theorem SqLS.sq (h:SqLS K H S a xs):SqL K H a xs:=h.imp (·.1) id
theorem SqLS.new (h:H a=bB (.lst xs))(n:¬S a):SqLS K H S a xs:=.inl ⟨.inl h,n⟩
theorem Dm.free (m:Dm S H)(h:H p=bC):¬S p:=λq=>by
 obtain⟨o,e,_⟩:=m p q
 rw[h]at e;cases e
theorem Dm.same (e:Same H H')(m:Dm S H):Dm S H':=λa q=>by
 obtain⟨o,h,w⟩:=m a q
 exact⟨o,e a o h,w⟩
theorem Dm.sub (m:Dm S H)(h:∀a,S' a->S a):Dm S' H:=λa q=>m a (h a q)
theorem Dm.tup (m:Dm S H)(h:Rd H a (.tup xs)):¬S a:=λq=>by
 obtain⟨o,e,w⟩:=m a q
 rcases h with h|⟨u,h⟩
 .rw[h]at e;cases e;cases w
 .rw[h]at e;cases e;cases w
theorem Dm.not (m:Dm S H)(h:H a=bB u)(n:J9 u=bE):¬S a:=λq=>by
 obtain⟨o,e,w⟩:=m a q
 rw[h]at e;cases e;rw[n]at w;cases w
theorem Rd.off (e:Off S H H')(n:¬S a)(h:Rd H a o):Rd H' a o:=by
 rcases h with h|⟨u,h⟩
 .exact .inl (e _ _ n h)
 .exact .inr ⟨u,e _ _ n h⟩
theorem Rd.dom (h:Rd H a o):H a≠bC:=by
 rcases h with h|⟨u,h⟩<;>(rw[h];exact λz=>nomatch z)
theorem Same.off (e:Same H H'):Off S H H':=λb o _ h=>e b o h
theorem Same.sqT (e:Same H H')(h:SqT K H a xs):SqT K H' a xs:=by
 rcases h with (h|⟨o,h⟩)|h
 .exact .inl (.inl (e _ _ h))
 .exact .inl (.inr ⟨o,e _ _ h⟩)
 .exact .inr h
theorem Same.lay (hn:H p=bC):Same H (L2.upd H p o):=λb u q=>by rw[qK (QT q hn)];exact q
theorem Same.lay'  (e:Same H0 H) (hn:H p=bC):Same H0 (L2.upd H p o):=e.trans (Same.lay hn)
theorem Den.off (m:Dm S H)(e:Off S H H'){v:V}{d:Ka}(h:Den K H S v d):Den K H' S v d :=
 Den.rec (motive_1:=λv d _=>Den K H' S v d) (motive_2:=λvs ds _=>DenL K H' S vs ds) .none .bool .int .str (λh _ t=>.list (h.imp (λq=>⟨q.1.off e q.2,q.2⟩) id) t) (λh _ t=>.tuple (h.imp (λq=>q.off e (m.tup q)) id) t)
  (λh _ _ k t=>.dict ⟨e _ _ h.2 h.1,h.2⟩ k t) (λh o=>.exc0 (e _ _ (m.not h rfl) h) o) (λh o x y _ t=>.exc1 (e _ _ (m.not h rfl) h) o x (e _ _ (m.not y rfl) y) t) (λh o=>.ins (e _ _ (m.not h rfl) h) o) .nil (λ_ _ h t=>.cons h t) h
theorem DenL.byE {K:Kd}{H:Hp}{S:Av}{P:List V->List Ka->Prop}(n:P [] [])(c:∀{x:V} {d:Ka} {xs:List V} {ds:ae},Den K H S x d->DenL K H S xs ds->P xs ds->P (x::xs) (d::ds)){vs:List V}{ds:ae}(h:DenL K H S vs ds):P vs ds :=
 DenL.rec (motive_1:=λ_ _ _=>True) (motive_2:=λvs ds _=>P vs ds) trivial (λ_=>trivial) (λ_=>trivial) (λ_=>trivial) (λ_ _ _=>trivial) (λ_ _ _=>trivial) (λ_ _ _ _ _=>trivial) (λ_ _=>trivial) (λ_ _ _ _ _ _=>trivial) (λ_ _=>trivial) n (λh t _ p=>c h t p) h
theorem DenL.off (m:Dm S H)(e:Off S H H'){vs:List V}{ds:ae}(h:DenL K H S vs ds):DenL K H' S vs ds:=h.byE (P:=λvs ds=>DenL K H' S vs ds) .nil λh _ t=>.cons (h.off m e) t
theorem Den.same (e:Same H H'){v:V}{d:Ka}(h:Den K H S v d):Den K H' S v d :=
 Den.rec (motive_1:=λv d _=>Den K H' S v d) (motive_2:=λvs ds _=>DenL K H' S vs ds) .none .bool .int .str (λh _ t=>.list (h.imp (λq=>⟨q.1.off (S:=S) e.off q.2,q.2⟩) id) t) (λh _ t=>.tuple (e.sqT h) t)
  (λh _ _ k t=>.dict ⟨e _ _ h.1,h.2⟩ k t) (λh o=>.exc0 (e _ _ h) o) (λh o x y _ t=>.exc1 (e _ _ h) o x (e _ _ y) t) (λh o=>.ins (e _ _ h) o) .nil (λ_ _ h t=>.cons h t) h
theorem DenL.same (e:Same H H'){vs:List V}{ds:ae}(h:DenL K H S vs ds):DenL K H' S vs ds:=h.byE (P:=λvs ds=>DenL K H' S vs ds) .nil λh _ t=>.cons (h.same e) t
theorem Den.sub (e:∀a,H a≠Vn->S' a->S a){v:V}{d:Ka}(h:Den K H S v d):Den K H S' v d :=
 Den.rec (motive_1:=λv d _=>Den K H S' v d) (motive_2:=λvs ds _=>DenL K H S' vs ds) .none .bool .int .str (λh _ t=>.list (h.imp (λq=>⟨q.1,λz=>q.2 (e _ q.1.dom z)⟩) id) t) (λh _ t=>.tuple h t)
  (λh _ _ k t=>.dict ⟨h.1,λz=>h.2 (e _ (by rw[h.1];exact λy=>nomatch y) z)⟩ k t) (λh o=>.exc0 h o) (λh o x y _ t=>.exc1 h o x y t) (λh o=>.ins h o) .nil (λ_ _ h t=>.cons h t) h
theorem DenL.sub (e:∀a,H a≠bC->S' a->S a){vs:List V}{ds:ae}(h:DenL K H S vs ds):DenL K H S' vs ds:=h.byE (P:=λvs ds=>DenL K H S' vs ds) .nil λh _ t=>.cons (h.sub e) t
theorem Den.flat {v:V}{d:Ka}(f:L2.flat d=bD)(h:Den K H S v d):Den K H S' v d :=
 Den.rec (motive_1:=λv d _=>L2.flat d=bD->Den K H S' v d) (motive_2:=λvs ds _=>jm ds=bD->DenL K H S' vs ds) (λ_=>.none) (λb _=>.bool b) (λi _=>.int i) (λx _=>.str x) (λ_ _ _ f=>nomatch f) (λh _ t f=>.tuple h (t (by rw[L2.flat]at f;exact f)))
  (λ_ _ _ _ _ f=>nomatch f) (λ_ _ f=>nomatch f) (λ_ _ _ _ _ _ f=>nomatch f) (λ_ _ f=>nomatch f) (λ_=>.nil) (λ_ _ h t f=>by rw[jm,KF]at f;exact .cons (h f.1) (t f.2)) h f
theorem DenL.length {vs:List V}{ds:ae}(h:DenL K H S vs ds):vs.length=ds.length:=h.byE (P:=λvs ds=>vs.length=ds.length) rfl λ_ _ t=>by rw[Kv,Kv,t]
theorem DenL.append {vs ws:List V}{ds es:ae}(h:DenL K H S vs ds)(q:DenL K H S ws es):DenL K H S (vs++ws) (ds++es):=h.byE (P:=λvs ds=>DenL K H S (vs++ws) (ds++es)) q λh _ t=>.cons h t
theorem DenL.snoc {vs:List V}{ds:ae}{v:V}{d:Ka}(h:DenL K H S vs ds)(q:Den K H S v d):DenL K H S (vs++[v]) (ds++[d]):=h.append (.cons q .nil)
theorem DenL.get:∀{vs:List V} {ds:ae} {i:Nat} {d:Ka},DenL K H S vs ds->ds[i]?=bB d->∃v,vs[i]?=bB v/\Den K H S v d
 |_,_,_,_,.nil,e=>by simp at e
 |_,_,0,_,.cons h _,e=>by simp at e;subst e;exact⟨_,rfl,h⟩
 |_,_,i+1,d,.cons _ t,e=>by
  obtain⟨v,h1,h2⟩:=DenL.get (i:=i) (d:=d) t (by simpa using e)
  exact⟨v,by simpa using h1,h2⟩
theorem DenL.drop:∀{vs:List V} {ds:ae} (n:Nat),DenL K H S vs ds->DenL K H S (vs.drop n) (ds.drop n)
 |_,_,0,h=>h
 |_,_,_+1,.nil=>.nil
 |_,_,n+1,.cons _ t=>t.drop n
theorem DenL.take:∀{vs:List V} {ds:ae} (n:Nat),DenL K H S vs ds->DenL K H S (vs.take n) (ds.take n)
 |_,_,0,_=>.nil
 |_,_,_+1,.nil=>.nil
 |_,_,n+1,.cons h t=>.cons h (t.take n)
theorem DenL.ints:∀ns:List Int,DenL K H S (ns.map V.int) (ns.map Kt)
 |[]=>.nil
 |n::ns=>.cons (.int n) (DenL.ints ns)
theorem Den.int_inv (h:Den K H S v (.int i)):v=.int i:=by cases h;rfl
theorem Den.bool_inv (h:Den K H S v (.bool b)):v=.bl b:=by cases h;rfl
theorem Den.list_inv (h:Den K H S v (.list ds)):∃a xs,v=.ref a/\SqLS K H S a xs/\DenL K H S xs ds:=by
 cases h with
 |list h t=>exact⟨_,_,rfl,h,t⟩
theorem Den.tuple_inv (h:Den K H S v (.tuple ds)):∃a xs,v=.ref a/\SqT K H a xs/\DenL K H S xs ds:=by
 cases h with
 |tuple h t=>exact⟨_,_,rfl,h,t⟩
theorem DenL.inv1 (h:DenL K H S vs [d]):∃v,vs=[v]/\Den K H S v d:=by
 cases h with
 |cons a t=>cases t;exact⟨_,rfl,a⟩
theorem DenL.inv2 (h:DenL K H S vs [d,e]):∃v w,vs=[v,w]/\Den K H S v d/\Den K H S w e:=by
 cases h with
 |cons a t=>obtain⟨w,rfl,b⟩:=t.inv1;exact⟨_,w,rfl,a,b⟩
end
section
variable {X:Cx}{sd:ah}{σ:St}{H:Hp}{s:Kf}{S:Av}
theorem DenL.readsE (I:Inv X sd σ H s){vs:List V}{ds:ae}(h:DenL X.K H S vs ds)(f:∀{x:V} {d:Ka} {u:Ke},Den X.K H S x d->d.canLay0=bD->RelV x u->∃as,UM s.heap u d as){us:ar}(c:Kq ds=bD)(r:Vals vs us):∃as,V1 s.heap us ds as :=
 h.byE (P:=λvs ds=>∀us,Kq ds=bD->Vals vs us->∃as,V1 s.heap us ds as) (λ_ _ r=>by cases r;exact⟨_,.nil⟩) (λh _ t _ c r=>by
  cases r with
  |cons r rr =>
   rw[Kq,KF]at c
   obtain⟨as,q⟩:=f h c.1 r
   obtain⟨bs,q'⟩:=t _ c.2 rr
   exact⟨_,.cons q q'⟩) us c r
theorem Den.reads (I:Inv X sd σ H s){v:V}{d:Ka}{u:Ke}(h:Den X.K H S v d)(c:d.canLay0=bD)(r:RelV v u):∃as,UM s.heap u d as :=
 Den.rec (motive_1:=λv d _=>∀u,d.canLay0=bD->RelV v u->∃as,UM s.heap u d as) (motive_2:=λvs ds _=>∀us,Kq ds=bD->Vals vs us->∃as,V1 s.heap us ds as)
  (λu _ r=>by cases(show u=Vo from r);exact⟨_,.none⟩) (λb u _ r=>by cases(show u=Um b from r);exact⟨_,.bool b⟩) (λi u _ r=>by obtain⟨t,e⟩:=(show ∃t,u=N6 i t from r);cases e;exact⟨_,.int i t⟩) (λx u _ r=>by obtain⟨t,e⟩:=(show ∃t,u=XT x t from r);cases e;exact⟨_,.str x t⟩)
  (@λa xs ds h _ t u c0 r=>by
   cases(show u=KP a from r)
   obtain⟨its,rv,⟨o,n,e,c,_,d⟩,_⟩:=I.list h.sq
   obtain⟨as,q⟩:=t its (by rw[KU]at c0;exact c0) rv
   exact⟨_,.list e c d (by rw[List.toList_toArray];exact q)⟩)
  (@λa xs ds h _ t u c0 r=>by
   cases(show u=KP a from r)
   obtain⟨its,rv,⟨o,e,c,n,d⟩,_⟩:=I.tuple h
   obtain⟨as,q⟩:=t its (by rw[KU]at c0;exact c0) rv
   exact⟨_,.tuple e c d (by rw[List.toList_toArray];exact q)⟩)
  (λ_ _ _ _ _ _ c0 _=>by rw[KU]at c0;cases c0) (λ_ _ _ c0 _=>by unfold excD at c0;rw[KU]at c0;cases c0) (λ_ _ _ _ _ _ _ c0 _=>by unfold excD at c0;rw[KU]at c0;cases c0) (λ_ _ _ c0 _=>by unfold objD at c0;rw[KU]at c0;cases c0)
  (λ_ _ r=>by cases r;exact⟨_,.nil⟩) (λ_ _ h t _ c r=>by
   cases r with
   |cons r rr =>
    rw[Kq,KF]at c
    obtain⟨as,q⟩:=h _ c.1 r
    obtain⟨bs,q'⟩:=t _ c.2 rr
    exact⟨_,.cons q q'⟩) h u c r
theorem DenL.reads (I:Inv X sd σ H s){vs:List V}{ds:ae}{us:ar}(h:DenL X.K H S vs ds)(c:Kq ds=bD)(r:Vals vs us):∃as,V1 s.heap us ds as:=h.readsE I (λh c r=>h.reads I c r) c r
end
section
variable {X:Cx}{sd:ah}{σ:St}{H:Hp}{s:Kf}
def rEqD (K:Kd):R2:=λx y H Q=>∃S d e,Den K H S x d/\Den K H S y e/\K8 d=bD/\K8 e=bD/\Q (.bl (KC d e)) H
def rNeD (K:Kd):R2:=λx y H Q=>∃S d e,Den K H S x d/\Den K H S y e/\K8 d=bD/\K8 e=bD/\Q (.bl (!PyData.eqv d e)) H
theorem qln (hr:Room k X.A):OpR X (sA .Eq) (rEqD X.K):=by
 intro sd s σ H x y v u Q I rx ry h
 obtain⟨S,d,e,h1,h2,s1,s2,q⟩:=h
 obtain⟨as,q1⟩:=h1.reads I (KG s1) rx
 obtain⟨bs,q2⟩:=h2.reads I (KG s2) ry
 exact eq_dataH q1 q2 s1 s2 hr.units (j5 I q rfl)
theorem qlp (hr:Room k X.A):OpR X (sA .NotEq) (rNeD X.K):=by
 intro sd s σ H x y v u Q I rx ry h
 obtain⟨S,d,e,h1,h2,s1,s2,q⟩:=h
 obtain⟨as,q1⟩:=h1.reads I (KG s1) rx
 obtain⟨bs,q2⟩:=h2.reads I (KG s2) ry
 exact ne_dataH q1 q2 s1 s2 hr.units (j5 I q rfl)
theorem qjx:OpR X (sH .Mult) (rI N3 λi j=>.int (i*j)):=opI λ_ _ _ _ _ _ _ hc q=>mul_int q hc
inductive TyD (K:Kd)(H:Hp):V->String->Prop
 |non:TyD K H .non "NoneType"
 |bl (b:Bool):TyD K H (.bl b) "bool"
 |int (i:Int):TyD K H (.int i) "int"
 |str (x:Str):TyD K H (.str x) "str"
 |lst {a:Kg} {xs:List V} (h:SqL K H a xs):TyD K H (.ref a) "list"
 |tup {a:Kg} {xs:List V} (h:SqT K H a xs):TyD K H (.ref a) "tuple"
 |dct {a:Kg} {kvs:List (KX×Addr×V)} {ep:Nat} (h:H a=bB (DctO a kvs ep)):TyD K H (.ref a) "dict"
def rIsi (K:Kd):List V->Hp->VK->Prop:=λvs H Q=>∃x T t b,vs=[x,.ty T]/\TyD K H x t/\Uh K (.type t) (.type T)=bB b/\Q (.bl b) H
theorem qgB:Jj X (.builtin "isinstance") (rIsi X.K):=by
 intro sd s σ H xs us Q I r h
 obtain⟨x,T,t,b,rfl,ty,e,q⟩:=h
 obtain⟨u,c,rfl,ru,rc⟩:=r.two
 cases(show c=VA T from rc)
 have fin:∀tk,EP X sd σ Q (.bool b) { s with toks:=tk }:=λtk=>⟨.bl b,H,I.tok tk,rfl,q⟩
 cases ty with
 |non=>cases(show u=Vo from ru);exact Vq Fk I.kIn Uz e (λz=>nomatch z) fin
 |bl y=>cases(show u=Um y from ru);exact Vq Fl I.kIn Uz e (λz=>nomatch z) fin
 |int i=>obtain⟨t,q⟩:=(show ∃t,u=N6 i t from ru);cases q;exact Vq PySem.W.kitx_int I.kIn Uz e (λz=>nomatch z) fin
 |str y=>obtain⟨t,q⟩:=(show ∃t,u=XT y t from ru);cases q;exact Vq PySem.W.kitx_str I.kIn Uz e (λz=>nomatch z) fin
 | @lst a xs ea =>
  cases(show u=KP a from ru)
  obtain⟨_,_,⟨o,n,h1,h2,_⟩,_⟩:=I.list ea
  exact Vq Ej I.kIn ⟨o,h1,h2⟩ e (λz=>nomatch z) fin
 | @tup a xs ea =>
  cases(show u=KP a from ru)
  obtain⟨_,_,⟨o,h1,h2,_⟩,_⟩:=I.tuple ea
  exact Vq Ff I.kIn ⟨o,h1,h2⟩ e (λz=>nomatch z) fin
 | @dct a kvs ep ea =>
  cases(show u=KP a from ru)
  obtain⟨o,_,h1,h2,_⟩:=(zQ.of (I.hok a _ ea)).vals
  exact Vq Ek I.kIn ⟨o,h1,h2.1⟩ e (λz=>nomatch z) fin
def ExcH (K:Kd)(H:Hp)(a:Kg)(c:Str):Prop:=∃o,H a=bB (.frz o (.own a))/\ExcO K o c
theorem Inv.excAt (I:Inv X sd σ H s)(h:ExcH X.K H a c):∃C,K7 X.K su c=bB (bB (.ref C))/\xcB X.K C=bD/\OfC s.heap a C:=by
 obtain⟨o,ha,C,vs,h1,h2,h3,h4⟩:=h
 exact⟨C,h3,h4,o,(I.hok a _ ha).1,h1⟩
def qkp (K:Kd):List V->Hp->VK->Prop:=λvs H Q=>∃a c T b,vs=[.ref a,.ty T]/\ExcH K H a c/\(∀C,xcB K C=bD->Uh K (.ref C) (.type T)=bB b)/\Q (.bl b) H
theorem qfH:Jj X (.builtin "isinstance") (qkp X.K):=by
 intro sd s σ H xs us Q I r h
 obtain⟨a,c,T,b,rfl,hx,e,q⟩:=h
 obtain⟨u,c',rfl,ru,rc⟩:=r.two
 cases(show c'=VA T from rc)
 cases(show u=KP a from ru)
 obtain⟨C,_,h4,IA⟩:=I.excAt hx
 exact Vq (qhe (qiw h4)) I.kIn IA (e C h4) (λz=>nomatch z) λtk=>⟨.bl b,H,I.tok tk,rfl,q⟩
def qko (K:Kd):List V->Hp->VK->Prop:=λvs H Q=>∃a C dx T b,vs=[.ref a,.ty T]/\H a=bB (.ins C dx [])/\icB K C=bD/\Uh K (.ref C) (.type T)=bB b/\Q (.bl b) H
theorem qfG:Jj X (.builtin "isinstance") (qko X.K):=by
 intro sd s σ H xs us Q I r h
 obtain⟨a,C,dx,T,b,rfl,hx,hc,e,q⟩:=h
 obtain⟨u,c',rfl,ru,rc⟩:=r.two
 cases(show c'=VA T from rc)
 exact qfT I ru ((qg0 hc).ty hx) e λtk=>⟨.bl b,H,I.tok tk,rfl,q⟩
end
noncomputable abbrev Rho:=List (Option Ka)
abbrev bg:=Rho->Option (Option Int)
abbrev az:=List Ka->Rho->Option Rho
abbrev aj:=Rho->Option Bool
abbrev ai:=Rho->Option (List Ka)
abbrev af:=Ka->Rho->Option Rho
abbrev aa:=Rho->Option Ka
def DenS (K:Kd)(H:Hp)(S:Av)(M:ao)(σ:St)(ρ:Rho):Prop:=Dm S H/\σ.length=ρ.length/\∀(i:Nat) (d:Ka),i∉M->ρ[i]?=bB (bB d)->∃v,σ[i]?=bB (bB v)/\Den K H S v d
section
variable {K:Kd}{H H':Hp}{S:Av}{M:ao}{σ:St}{ρ:Rho}{v:V}{d:Ka}
theorem DenS.same (e:Same H H')(h:DenS K H S M σ ρ):DenS K H' S M σ ρ:=⟨h.1.same e,h.2.1,λi d n q=>let ⟨v,a,b⟩:=h.2.2 i d n q;⟨v,a,b.same e⟩⟩
theorem DenS.set (h:DenS K H S M σ ρ)(q:Den K H S v d)(i:Nat):DenS K H S M (σ.set i (bB v)) (ρ.set i (bB d)):=by
 refine⟨h.1,by rw[Ub,Ub];exact h.2.1,λj e n he=>?_⟩
 by_cases hj:i=j
 .subst hj
  by_cases hi:i<ρ.length
  .rw[Vv hi]at he
   cases he
   exact⟨v,Vv (by rw[h.2.1];exact hi),q⟩
  .rw[List.set_eq_of_length_le '#']at he
   exact absurd (KW.mp he).1 hi
 .rw[UK hj]at he
  obtain⟨w,a,b⟩:=h.2.2 j e n he
  exact⟨w,by rw[UK hj];exact a,b⟩
theorem DenS.start {ds:ae}(m:Dm S H)(h:DenL K H S vs ds)(N:aA):DenS K H S [] (start N vs) (ds.map bB++Kk (N.length-ds.length) bC):=by
 have hl:=h.length
 refine⟨m,?_,λj e _ he=>?_⟩
 .unfold L2.start
  rw[Kr,Kr,Kc,Kc,Vj,Vj,hl]
 .by_cases hj:j<ds.length
  .rw[Vf (by simpa using hj),KJ]at he
   cases e1:ds[j]? with
   |none=>rw[e1]at he;cases he
   |some d =>
    rw[e1]at he
    cases he
    obtain⟨v,a,b⟩:=h.get e1
    refine⟨v,?_,b⟩
    unfold L2.start
    rw[Vf (by rw[Kc];omega),KJ,a]
    rfl
  .rw[Vy (by simpa using hj),US]at he
   split at he<;>cases he
end
def tD (K:Kd)(M:ao)(f:aa):TE:=λσ H Q=>∃S ρ d,DenS K H S M σ ρ/\f ρ=bB d/\∀v H',Same H H'->Den K H' S v d->Q v H'
def tDA (K:Kd)(M:ao)(f:ai):TA:=λσ H Q=>∃S ρ ds,DenS K H S M σ ρ/\f ρ=bB ds/\∀vs H',Same H H'->DenL K H' S vs ds->Q vs H'
def tDT (K:Kd)(M:ao)(f:aj):TT:=λσ H Q=>∃S ρ b,DenS K H S M σ ρ/\f ρ=bB b/\∀H',Same H H'->Q b H'
inductive Out where
 |nx (ρ:Rho)|rt (d:Ka)|bk (ρ:Rho)|ct (ρ:Rho)
abbrev ak:=Rho->Option Out
def PD (X:Cx)(M:ao)(e:KI)(f:aa):Prop:=PE X e (tD X.K M f)
def PDA (X:Cx)(M:ao)(es:aH)(f:ai):Prop:=PA X es (tDA X.K M f)
def PDT (X:Cx)(M:ao)(e:KI)(f:aj):Prop:=PT X e (tDT X.K M f)
theorem PE.weak {X:Cx}{e:KI}{t t':TE}(h:PE X e t)(w:∀ σ H Q,t' σ H Q->t σ H Q):PE X e t':=λsd s σ H Q I q=>h sd s σ H Q I (w σ H Q q)
theorem PT.weak {X:Cx}{e:KI}{t t':TT}(h:PT X e t)(w:∀ σ H Q,t' σ H Q->t σ H Q):PT X e t':=λsd s σ H Q I q=>h sd s σ H Q I (w σ H Q q)
theorem PW.weak {X:Cx}{e:KI}{t t':TT}(h:PW X e t)(w:∀ σ H Q,t' σ H Q->t σ H Q):PW X e t':=λwh sd s σ H Q I q=>h wh sd s σ H Q I (w σ H Q q)
theorem PA.weak {X:Cx}{e:aH}{t t':TA}(h:PA X e t)(w:∀ σ H Q,t' σ H Q->t σ H Q):PA X e t':=λpos sd s σ H Q I q=>h pos sd s σ H Q I (w σ H Q q)
theorem PS.weak {X:Cx}{e:Ve}{t t':TS}(h:PS X e t)(w:∀D σ H,t' D σ H->t D σ H):PS X e t':=λsd s σ H D I q=>h sd s σ H D I (w D σ H q)
theorem PSs.weak {X:Cx}{e:bz}{t t':TS}(h:PSs X e t)(w:∀D σ H,t' D σ H->t D σ H):PSs X e t':=λsd s σ H D I q=>h sd s σ H D I (w D σ H q)
noncomputable def ob {α β:Type}(a:Option α)(f:α->Option β):Option β:=match a with | some x=>f x|none=>bC
theorem qe {α β:Type}{a:Option α}{f:α->Option β}{y:β}(h:ob a f=bB y):∃x,a=bB x/\f x=bB y:=by
 cases a with
 |none=>cases h
 |some x=>exact⟨x,rfl,h⟩
noncomputable def visB (sc:V5)(x:Str):Bool:=decide (sc.names.lookup x=bB .local)||decide (sc.names.lookup x=bB .cell)||decide (sc.names.lookup x=bB .free)
noncomputable def locB (sc:V5)(x:Str):Bool:=decide (sc.names.lookup x=bB .local)||decide (sc.names.lookup x=bB .cell)
noncomputable def glB (sc:V5)(x:Str):Bool:=decide (sc.names.lookup x=bB .globalImplicit)
theorem qiv (h:visB sc x=bD):Vis sc x:=by
 unfold visB at h
 simp only[NS,sO]at h
 rcases h with (h|h)|h
 .exact .inl h
 .exact .inr (.inl h)
 .exact .inr (.inr h)
theorem qhj (h:locB sc x=bD):Loc sc x:=by
 unfold locB at h
 simp only[NS,sO]at h
 exact h
theorem gl_fn {X:Cx}(sc:V5)(hs:X.env.scope=sc)(h:glB sc x=bD):Gl X x:=by
 subst hs
 have h':X.env.scope.names.lookup x=bB .globalImplicit:=sx h
 exact h'
theorem JR {env:Env}:∀{names:List (Str×NameKind)} {x:Str} {k:Eu},names.lookup x=bB k->
  (names.map λ(n,k)=>if (k==Vs&&env.scope.kind==.function&&env.kindOf n==bB .cell) then (n,VQ) else (n,k)).lookup x=bB k\/
  (k=.free/\(names.map λ(n,k)=>if (k==Vs&&env.scope.kind==.function&&env.kindOf n==bB .cell) then (n,VQ) else (n,k)).lookup x=bB .cell):=by
 intro names x k
 induction names with
 |nil=>intro h;cases h
 |cons q r ih =>
  intro h
  obtain⟨n,k'⟩:=q
  show N5 x ((if (k'==Vs&&env.scope.kind==.function&&env.kindOf n==bB .cell)=bD then (n,VQ) else (n,k'))::_)=_\/(_/\N5 x ((if (k'==Vs&&env.scope.kind==.function&&env.kindOf n==bB .cell)=bD then (n,VQ) else (n,k'))::_)=_)
  cases hx:x==n with
  |true =>
   simp only[Vt,hx]at h
   have hk:k'=k:=Ut h
   subst hk
   by_cases hc:(k'==Vs&&env.scope.kind==.function&&env.kindOf n==bB .cell)=bD
   .rw[si hc]
    rw[KF,KF]at hc
    exact .inr ⟨by simpa using hc.1.1,by simp [Vt,hx]⟩
   .rw[sk hc]
    exact .inl (by simp [Vt,hx])
  |false =>
   simp only[Vt,hx]at h
   by_cases hc:(k'==Vs&&env.scope.kind==.function&&env.kindOf n==bB .cell)=bD
   .rw[si hc]
    simp only[Vt,hx]
    exact ih h
   .rw[sk hc]
    simp only[Vt,hx]
    exact ih h
section
variable {X:Cx}{x:Str}{N':aA}{sc:V5}{cl:aM}{C:Kg}{fp:aw}{sd:ah}{s:Kf}{H:Hp}
theorem qG (h:visB sc x=bD):Vis (qQ X N' sc cl C fp sd s H).env.scope x:=by
 rcases qiv h with h|h|h
 .rcases JR (env:=X.env) h with q|q
  .exact .inl q
  .cases q.1
 .rcases JR (env:=X.env) h with q|q
  .exact .inr (.inl q)
  .cases q.1
 .rcases JR (env:=X.env) h with q|q
  .exact .inr (.inr q)
  .exact .inr (.inl q.2)
theorem jV (h:glB sc x=bD):Gl (qQ X N' sc cl C fp sd s H) x:=by
 rcases JR (env:=X.env) (sx h) with q|q
 .exact q
 .cases q.1
end
def vr (i:Nat):Rho->Option Ka:=λρ=>(ρ[i]?).join
def kd (d:Ka):Rho->Option Ka:=λ_=>bB d
def ev1 (fa:aa)(g:Ka->Option Ka):Rho->Option Ka:=λρ=>ob (fa ρ) g
def aN:Rho->Option (List Ka):=λ_=>bB []
def aC (fa:aa)(fs:ai):Rho->Option (List Ka):=λρ=>ob (fa ρ) λx=>ob (fs ρ) λxs=>bB (x::xs)
def evA (fs:ai)(h:av):Rho->Option Ka:=λρ=>ob (fs ρ) h
def evC (n:Nat)(fs:ai)(h:av):Rho->Option Ka:=λρ=>ob (fs ρ) λds=>if ds.length=n then h ds else bC
def evC0 (h:av):Rho->Option Ka:=λ_=>h []
section
variable {X:Cx}{M:ao}{a b c:KI}{es:aH}{f g fa fb:aa}{pos:Pos}
theorem q9 (i:Nat)(hv:Vis X.env.scope x)(hM:i∉M)(hN:X.N[i]?=bB x:=by rfl)(hd:(x==("__debug__" : Str))=bE:=by decide +kernel)
  (dD:(x==("__classdict__" : Str))=bE:=by decide +kernel):PD X M (.Name x pos) (vr i) :=
 (qhS hN hv hd dD).weak λσ H Q ⟨S,ρ,d,hs,e,q⟩=>by
  have e:(ρ[i]?).join=bB d:=e
  have e':ρ[i]?=bB (bB d):=by
   cases h:ρ[i]? with
   |none=>rw[h]at e;cases e
   |some o=>rw[h]at e;exact congrArg bB e
  obtain⟨v,h1,h2⟩:=hs.2.2 i d hM e'
  exact⟨v,h1,q v H (Same.refl H) h2⟩
theorem qd {i j p}:PD X M (.Constant (.int i) j p) (kd (.int i)):=qlw.weak λσ H Q ⟨S,_,d,_,e,q⟩=>by cases e;exact q _ H (Same.refl H) (.int i)
theorem ye {i j p}:PD X M (.Constant (.bool i) j p) (kd (.bool i)):=pe_bl.weak λσ H Q ⟨S,_,d,_,e,q⟩=>by cases e;exact q _ H (Same.refl H) (.bool i)
theorem qav {j p}:PD X M (.Constant .none j p) (kd .none):=qlx.weak λσ H Q ⟨S,_,d,_,e,q⟩=>by cases e;exact q _ H (Same.refl H) .none
theorem jM {i j p}:PD X M (.Constant (.str i) j p) (kd (.str i)):=qhR.weak λσ H Q ⟨S,_,d,_,e,q⟩=>by cases e;exact q _ H (Same.refl H) (.str i)
theorem qjA  (hg:Gl X x) (hm:X.mg x=bB u) (r:RelV v u) (hd:∀H S,Den X.K H S v d) (dH:(x==("__debug__" : Str))=bE:=by decide +kernel):PD X M (.Name x pos) (kd d) :=
 (qjF hg hm r dH).weak λσ H Q ⟨S,_,d',_,e,q⟩=>by cases e;exact q _ H (Same.refl H) (hd H S)
def rD2 (K:Kd)(g:aD):R2:=λx y H Q=>∃S dx dy d,Dm S H/\Den K H S x dx/\Den K H S y dy/\g dx dy=bB d/\∀v H',Same H H'->Den K H' S v d->Q v H'
def OpD (X:Cx)(f:aQ)(g:aD):Prop:=OpR X f (rD2 X.K g)
def UnD (X:Cx)(f:Ke->Sem Ke)(g:Ka->Option Ka):Prop:=UnR X f (λx H Q=>∃S dx d,Dm S H/\Den X.K H S x dx/\g dx=bB d/\∀v H',Same H H'->Den X.K H' S v d->Q v H')
def CallD (X:Cx)(f:Ke)(g:av):Prop:=Jj X f (λvs H Q=>∃S ds d,Dm S H/\DenL X.K H S vs ds/\g ds=bB d/\∀v H',Same H H'->Den X.K H' S v d->Q v H')
def ev2 (fa fb:aa)(g:aD)(ρ:Rho):Option Ka:=ob (fa ρ) λx=>ob (fb ρ) λy=>g x y
theorem tD2 {K:Kd}{g:aD}:∀ σ H Q,tD K M (ev2 fa fb g) σ H Q->tOp (rD2 K g) (tD K M fa) (tD K M fb) σ H Q:=by
 intro σ H Q ⟨S,ρ,d,hs,e,q⟩
 obtain⟨x,e1,e⟩:=qe e
 obtain⟨y,e2,e⟩:=qe e
 exact⟨S,ρ,x,hs,e1,λv H1 g1 d1=>⟨S,ρ,y,hs.same g1,e2,λw H2 g2 d2=>⟨S,x,y,d,hs.1.same (g1.trans g2),d1.same g2,d2,e,λz H3 g3 d3=>q z H3 (g1.trans (g2.trans g3)) d3⟩⟩⟩
theorem qw {op:Operator}{g:aD}(ho:OpD X (sH op) g)(ha:PD X M a fa)(hb:PD X M b fb):PD X M (.BinOp a op b pos) (ev2 fa fb g):=(pe_op ho ha hb).weak tD2
theorem j9 {op:CmpOp}{g:aD}(ho:OpD X (sA op) g)(ha:PD X M a fa)(hb:PD X M b fb)(hm:tq op b=bE):PD X M (.Compare a [op] [b] pos) (ev2 fa fb g):=(qjE ho ha hb hm).weak tD2
theorem qhJ {op:UnaryOp}{g:Ka->Option Ka}(ho:UnD X (unaryOp op) g)(ha:PD X M a fa):PD X M (.UnaryOp op a pos) (ev1 fa g) :=
 (pe_un ho ha).weak λσ H Q ⟨S,ρ,d,hs,e,q⟩=>by
  obtain⟨x,e1,e⟩:=qe e
  exact⟨S,ρ,x,hs,e1,λv H1 g1 d1=>⟨S,x,d,hs.1.same g1,d1,e,λz H3 g3 d3=>q z H3 (g1.trans g3) d3⟩⟩
def ixD:Ka->Ka->Option Ka
 |.tuple ds,.int i=>atI ds i
 |.list ds,.int i=>atI ds i
 |_,_=>bC
theorem DenL.atI {K:Kd}{H:Hp}{S:Av}{vs:List V}{ds:ae}{i:Int}{d:Ka}(h:DenL K H S vs ds)(e:atI ds i=bB d):∃v,L2.atI vs i=bB v/\Den K H S v d:=by
 unfold L2.atI at e ⊢
 rw[h.length]
 cases q:ixN ds.length i with
 |none=>rw[q]at e;cases e
 |some j=>rw[q]at e;exact h.get e
theorem qM (ha:PD X M a fa)(hb:PD X M b fb)(hs:YL b:=by intro _ _;rfl):PD X M (.Subscript a b pos) (ev2 fa fb ixD) :=
 (qfm (r:=λx y H Q=>rIxL X.K x y H Q\/rIxT X.K x y H Q) (WM.or qb3) ha hb hs).weak λσ H Q ⟨S,ρ,d,hs,e,q⟩=>by
  obtain⟨x,e1,e⟩:=qe e
  obtain⟨y,e2,e⟩:=qe e
  refine⟨S,ρ,x,hs,e1,λv H1 g1 d1=>⟨S,ρ,y,hs.same g1,e2,λw H2 g2 d2=>?_⟩⟩
  have kY:=d1.same g2
  cases kY with
  |list h t =>
   cases d2 with
   |int i=>obtain⟨z,z1,z2⟩:=t.atI e;exact .inl ⟨_,_,_,_,rfl,rfl,h.sq,z1,q z H2 (g1.trans g2) z2⟩
   |_=>cases e
  |tuple h t =>
   cases d2 with
   |int i=>obtain⟨z,z1,z2⟩:=t.atI e;exact .inr ⟨_,_,_,_,rfl,rfl,h,z1,q z H2 (g1.trans g2) z2⟩
   |_=>cases e
  |_=>cases e
theorem zZ:PDA X M [] aN:=qhG.weak λσ H Q ⟨S,_,d,_,e,q⟩=>by cases e;exact q [] H (Same.refl H) .nil
theorem zy {fs:ai}(ha:PD X M a fa)(hr:PDA X M es fs)(hs:sj (a::es) X.env=(bE,eval a X.env)::sj es X.env:=by rfl):PDA X M (a::es) (aC fa fs) :=
 (qcr ha hr hs).weak λσ H Q ⟨S,ρ,d,hs,e,q⟩=>by
  obtain⟨x,e1,e⟩:=qe e
  obtain⟨xs,e2,e⟩:=qe e
  cases e
  exact⟨S,ρ,x,hs,e1,λv H1 g1 d1=>⟨S,ρ,xs,hs.same g1,e2,λvs H2 g2 d2=>q _ H2 (g1.trans g2) (.cons (d1.same g2) d2)⟩⟩
def tupD (ds:ae):Option Ka:=if ds.length<=1000 then bB (.tuple ds) else bC
def lstD (ds:ae):Option Ka:=if ds.length<=1000 then bB (.list ds) else bC
theorem qgl {ds:ae}{d:Ka}(h:tupD ds=bB d):ds.length<=1000/\d=.tuple ds:=by
 unfold tupD at h
 split at h
 .rename_i q;cases h;exact⟨q,rfl⟩
 .cases h
theorem qbn {ds:ae}{d:Ka}(h:lstD ds=bB d):ds.length<=1000/\d=.list ds:=by
 unfold lstD at h
 split at h
 .rename_i q;cases h;exact⟨q,rfl⟩
 .cases h
theorem qX {fs:ai}{x1}(h:PDA X M es fs):PD X M (.Tuple es x1 pos) (evA fs tupD) :=
 (qlA h).weak λσ H Q ⟨S,ρ,d,hs,e,q⟩=>by
  obtain⟨xs,e1,e⟩:=qe e
  obtain⟨hz,rfl⟩:=qgl e
  refine⟨S,ρ,xs,hs,e1,λvs H1 g1 d1=>⟨VL (zL (by rw[d1.length];exact hz)),λp hp=>?_⟩⟩
  exact q _ _ (g1.lay' hp) (.tuple (SqT.of q8) (d1.same (Same.lay hp)))
theorem wR {fs:ai}(h:PDA X M es fs):PD X M (.List es pos) (evA fs lstD) :=
 (qhP h).weak λσ H Q ⟨S,ρ,d,hs,e,q⟩=>by
  obtain⟨xs,e1,e⟩:=qe e
  obtain⟨hz,rfl⟩:=qbn e
  refine⟨S,ρ,xs,hs,e1,λvs H1 g1 d1=>⟨VL (zL (by rw[d1.length];exact hz)),λp hp=>?_⟩⟩
  exact q _ _ (g1.lay' hp) (.list (SqLS.new q8 ((hs.1.same g1).free hp)) (d1.same (Same.lay hp)))
def spF (K:Kd)(n:Nat)(f:av):Sp:=λvs H Q _=>∃S ds d,Dm S H/\DenL K H S vs ds/\ds.length=n/\f ds=bB d/\∀v H',Same H H'->Den K H' S v d->Q v H'
theorem qjz {CX:CXT}{k n:Nat}{fn:Kg}{fd:VW}{ps:aA}{h:av}{E:XK}{x:Str}{p:Pos}{fs:ai}(F:FnOk X.prog X.w X.K X.mg X.base CX k fn fd ps (spF X.K n h))(hr:Room k X.A)(hg:Gl X x)(hm:X.mg x=bB (.ref fn))(hk:UD X.K (.ref fn)=bD)
  (hb:Binds X.K fd ps []) (hx:qbL CX X E) (ha:PDA X M (a::es) fs) (hl:(a::es).length=n) (dH:(x==("__debug__" : Str))=bE:=by decide +kernel) (he:sj (a::es) X.env=(bE,eval a X.env)::sj es X.env:=by rfl) (dq:(sG pos (sj es X.env)).any (·.1)=bE:=by rfl):
  PD X M (.Call (.Name x p) (a::es) [] pos) (evC n fs h) :=
 (qfk F hr hg hm hk hb .nil hx ha dH he dq).weak λσ H Q ⟨S,ρ,d,hs,e,q⟩=>by
  obtain⟨ds,e1,e⟩:=qe e
  have e:(if ds.length=n then h ds else bC)=bB d:=e
  split at e
  .rename_i hn
   exact⟨S,ρ,ds,hs,e1,λvs H1 g1 d1=>⟨S,ds,d,hs.1.same g1,by rw[Vw];exact d1,hn,e,λv H' g2 d2=>q v H' (g1.trans g2) d2⟩⟩
  .cases e
theorem qH {id:String}{x:Str}{p:Pos}{h:av}{fs:ai}(hc:CallD X (.builtin id) h)(hg:Gl X x)(hm:X.mg x=bC)(hv:sE x=bB (.builtin id))(ha:PDA X M (a::es) fs)(hn:x ≠ "__name__" := by decide +kernel)(dH:(x==("__debug__" : Str))=bE:=by decide +kernel)
  (he:sj (a::es) X.env=(bE,eval a X.env)::sj es X.env:=by rfl) (dq:(sG pos (sj es X.env)).any (·.1)=bE:=by rfl):PD X M (.Call (.Name x p) (a::es) [] pos) (evA fs h) :=
 (qay hc hg hm hv ha hn dH he dq).weak λσ H Q ⟨S,ρ,d,hs,e,q⟩=>by
  obtain⟨ds,e1,e⟩:=qe e
  exact⟨S,ρ,ds,hs,e1,λvs H1 g1 d1=>⟨S,ds,d,hs.1.same g1,d1,e,λv H' g2 d2=>q v H' (g1.trans g2) d2⟩⟩
noncomputable def tyS:Ka->String
 |.none => "NoneType" |.bool _ => "bool" |.int _ => "int" |.str _ => "str" |.list _ => "list" |.tuple _ => "tuple" |.dict _ => "dict"
noncomputable def isiT (T:String):Ka->Bool
 |.none=>T == "NoneType" || T == "object"
 |.bool _=>T == "bool" || T == "int" || T == "object"
 |.int _=>T == "int" || T == "object"
 |.str _=>T == "str" || T == "object"
 |.list _=>T == "list" || T == "object"
 |.tuple _=>T == "tuple" || T == "object"
 |.dict _=>T == "dict" || T == "object"
def isiD (T:String)(d:Ka):Option Ka:=bB (.bool (isiT T d))
def qaY (K:Kd)(T:String):Prop:=∀d:Ka,Uh K (.type (tyS d)) (.type T)=bB (isiT T d)
theorem qff (K:Kd):qaY K "int" := λd=>by cases d<;>rfl
theorem qdk (K:Kd):qaY K "bool" := λd=>by cases d<;>rfl
theorem kit_tuple (K:Kd):qaY K "tuple" := λd=>by cases d<;>rfl
theorem qdl (K:Kd):qaY K "list" := λd=>by cases d<;>rfl
theorem qji (K:Kd):qaY K "str" := λd=>by cases d<;>rfl
theorem qe4 {K:Kd}{T:String}{C:Kg}{c:Str}{d:Ka}(hT:T∈YX)(h:xcB K C=bD):Uh K (.ref C) (.type T)=bB (isiT T (excD c d)):=by
 rw[(qiw h).ts T hT]
 have:(T == "dict" || T == "object")=bE:=by
  simp only[YX,Ko,VR,sZ]at hT
  rcases hT with rfl|rfl|rfl|rfl|rfl<;>decide +kernel
 exact congrArg bB this.symm
theorem qi8 {K:Kd}{T:String}{C:Kg}{c:Str}(hT:T∈YX)(h:icB K C=bD):Uh K (.ref C) (.type T)=bB (isiT T (objD c)):=by
 rw[(qg0 h).ts T hT]
 have:(T == "dict" || T == "object")=bE:=by
  simp only[YX,Ko,VR,sZ]at hT
  rcases hT with rfl|rfl|rfl|rfl|rfl<;>decide +kernel
 exact congrArg bB this.symm
theorem JQ {T:String}{p p2:Pos}(kit:qaY X.K T)(hg:Gl X "isinstance")(hm:X.mg "isinstance" = bC)(hgT:Gl X (Kn T))(hmT:X.mg (Kn T)=bC)(hvT:sE (Kn T)=bB (.type T))(hv:sE "isinstance" = bB (.builtin "isinstance"))(ha:PD X M a fa)(hnT:Kn T ≠ "__name__" := by decide +kernel)(hdT:(Kn T==("__debug__" : Str))=bE:=by decide +kernel)(hT:T∈YX:=by decide +kernel)
  (he:sj [a,.Name (Kn T) p2] X.env=(bE,eval a X.env)::sj [.Name (Kn T) p2] X.env:=by rfl) (dq:(sG pos (sj [.Name (Kn T) p2] X.env)).any (·.1)=bE:=by rfl)
  (dI:sj [.Name (Kn T) p2] X.env=(bE,eval (.Name (Kn T) p2) X.env)::sj [] X.env:=by rfl):
  PD X M (.Call (.Name "isinstance" p) [a,.Name (Kn T) p2] [] pos) (ev1 fa (isiD T)) :=
 (qay (qgB.or (qfH.or qfG)) hg hm hv (qcr ha (qcr (qjD (v:=.ty T) hgT hmT hvT rfl hnT hdT) qhG dI) he) '$' '$' he dq).weak λσ H Q ⟨S,ρ,d,hs,e,q⟩=>by
  obtain⟨x,e1,e⟩:=qe e
  cases e
  refine⟨S,ρ,x,hs,e1,λv H1 g1 d1=>?_⟩
  have fin:=q (.bl (isiT T x)) H1 g1 (.bool _)
  have k:=kit x
  show rIsi X.K [v,.ty T] H1 Q\/qkp X.K [v,.ty T] H1 Q\/qko X.K [v,.ty T] H1 Q
  cases d1 with
  |none=>exact .inl ⟨_,_,_,_,rfl,.non,k,fin⟩
  |bool y=>exact .inl ⟨_,_,_,_,rfl,.bl y,k,fin⟩
  |int y=>exact .inl ⟨_,_,_,_,rfl,.int y,k,fin⟩
  |str y=>exact .inl ⟨_,_,_,_,rfl,.str y,k,fin⟩
  |list h t=>exact .inl ⟨_,_,_,_,rfl,.lst h.sq,k,fin⟩
  |tuple h t=>exact .inl ⟨_,_,_,_,rfl,.tup h,k,fin⟩
  |dict h k2 t=>exact .inl ⟨_,_,_,_,rfl,.dct h.1,k,fin⟩
  |exc0 h o=>exact .inr (.inl ⟨_,_,_,_,rfl,⟨_,h,o⟩,λC z=>qe4 hT z,fin⟩)
  |exc1 h o x y t=>exact .inr (.inl ⟨_,_,_,_,rfl,⟨_,h,o⟩,λC z=>qe4 hT z,fin⟩)
  |ins h o=>exact .inr (.inr ⟨_,_,_,_,_,rfl,h,o.2,qi8 hT o.2,fin⟩)
theorem Yp {f:aQ}{g:aD}{r:R2}(h:OpR X f r)(w:∀x y dx dy d H S (Q:VK),Dm S H->Den X.K H S x dx->Den X.K H S y dy->g dx dy=bB d->(∀v H',Same H H'->Den X.K H' S v d->Q v H')->r x y H Q):OpD X f g :=
 λsd s σ H x y v u Q I rx ry ⟨S,dx,dy,d,m,h1,h2,e,q⟩=>h sd s σ H x y v u Q I rx ry (w x y dx dy d H S Q m h1 h2 e q)
noncomputable def iiD (h:Int->Int->Option Ka):Ka->Ka->Option Ka
 |.int i,.int j=>h i j
 |_,_=>bC
theorem qag (e:iiD h x y=bB d):∃i j,x=.int i/\y=.int j/\h i j=bB d:=by
 cases x<;>cases y<;>first|exact⟨_,_,rfl,rfl,e⟩|cases e
theorem qjs {f:aQ}{gi:Int->Int->Int}(h:OpR X f (rI0 λi j=>.int (gi i j))):OpD X f (iiD λi j=>bB (.int (gi i j))) :=
 Yp h λx y dx dy d H S Q m h1 h2 e q=>by
  obtain⟨i,j,rfl,rfl,e⟩:=qag e
  cases h1;cases h2;cases e
  exact⟨i,j,rfl,rfl,q _ H (Same.refl H) (.int _)⟩
theorem Y8 {f:aQ}{C:Int->Int->Prop}[∀i j,Decidable (C i j)]{gi:Int->Int->Int}(h:OpR X f (rI C λi j=>.int (gi i j))):OpD X f (iiD λi j=>if C i j then bB (.int (gi i j)) else bC) :=
 Yp h λx y dx dy d H S Q m h1 h2 e q=>by
  obtain⟨i,j,rfl,rfl,e'⟩:=qag e
  split at e'
  .rename_i c
   cases h1;cases h2;cases e'
   exact⟨i,j,rfl,rfl,c,q _ H (Same.refl H) (.int _)⟩
  .cases e'
theorem qhE {f:aQ}{gi:Int->Int->Bool}(h:OpR X f (rI0 λi j=>.bl (gi i j))):OpD X f (iiD λi j=>bB (.bool (gi i j))) :=
 Yp h λx y dx dy d H S Q m h1 h2 e q=>by
  obtain⟨i,j,rfl,rfl,e⟩:=qag e
  cases h1;cases h2;cases e
  exact⟨i,j,rfl,rfl,q _ H (Same.refl H) (.bool _)⟩
noncomputable instance (i j:Int):Decidable (N3 i j):=by unfold N3;exact inferInstance
noncomputable instance (i j:Int):Decidable (CDiv i j):=by unfold CDiv;exact inferInstance
noncomputable instance (i j:Int):Decidable (CPow i j):=by unfold CPow;exact inferInstance
def subD:Ka->Ka->Option Ka:=iiD λi j=>bB (.int (i-j))
def mulD:Ka->Ka->Option Ka:=iiD λi j=>if N3 i j then bB (.int (i*j)) else bC
def jf:Ka->Ka->Option Ka:=iiD λi j=>if CDiv i j then bB (.int (i / j)) else bC
def modD:Ka->Ka->Option Ka:=iiD λi j=>if 0<j then bB (.int (i%j)) else bC
def powD:Ka->Ka->Option Ka:=iiD λi j=>if CPow i j then bB (.int (i ^ j.toNat)) else bC
theorem Zu:OpD X (sH .Sub) subD:=qjs qlr
theorem jl:OpD X (sH .Mult) mulD:=Y8 qjx
theorem Zh:OpD X (sH .FloorDiv) jf:=Y8 qjw
theorem Qh:OpD X (sH .Mod) modD:=Y8 (C:=λ_ j=>0<j) qlo
theorem qaa:OpD X (sH .Pow) powD:=Y8 qlq
def leD:Ka->Ka->Option Ka:=iiD λi j=>bB (.bool (decide (i<=j)))
theorem d_le:OpD X (sA .LtE) leD:=qhE op_le
noncomputable def eqD (x y:Ka):Option Ka:=if K8 x=bD/\K8 y=bD then bB (.bool (KC x y)) else bC
noncomputable def neD (x y:Ka):Option Ka:=if K8 x=bD/\K8 y=bD then bB (.bool (!PyData.eqv x y)) else bC
theorem d_eq (hr:Room k X.A):OpD X (sA .Eq) eqD:=Yp (qln hr) λx y dx dy d H S Q m h1 h2 e q=>by
 unfold eqD at e
 split at e
 .rename_i c;cases e;exact⟨S,dx,dy,h1,h2,c.1,c.2,q _ H (Same.refl H) (.bool _)⟩
 .cases e
theorem d_ne (hr:Room k X.A):OpD X (sA .NotEq) neD:=Yp (qlp hr) λx y dx dy d H S Q m h1 h2 e q=>by
 unfold neD at e
 split at e
 .rename_i c;cases e;exact⟨S,dx,dy,h1,h2,c.1,c.2,q _ H (Same.refl H) (.bool _)⟩
 .cases e
noncomputable def negD:Ka->Option Ka
 |.int i=>bB (.int (-i))
 |_=>bC
theorem qgM:UnD X (unaryOp .USub) negD:=λsd s σ H x v Q I rx ⟨S,dx,d,m,h1,e,q⟩=>qmm sd s σ H x v Q I rx (by
 cases h1<;>first|(cases e;exact⟨_,rfl,q _ H (Same.refl H) (.int _)⟩)|cases e)
noncomputable def lenD:List Ka->Option Ka
 |[.list ds]=>bB (.int ds.length)
 |[.tuple ds]=>bB (.int ds.length)
 |_=>bC
theorem DenL.seq1 {K:Kd}{H:Hp}{S:Av}{xs:List V}{ds:ae}(h1:DenL K H S xs ds){F:List Ka->Ka}{g:av}(hg:∀ds d,g ds=bB d->(∃l,ds=[.list l]/\d=F l)\/∃l,ds=[.tuple l]/\d=F l){d:Ka}(e:g ds=bB d):∃a ys l,xs=[.ref a]/\d=F l/\DenL K H S ys l/\(SqL K H a ys\/SqT K H a ys):=by
 rcases hg _ _ e with ⟨l,rfl,rfl⟩|⟨l,rfl,rfl⟩
 .obtain⟨v,rfl,hv⟩:=h1.inv1
  obtain⟨a,ys,rfl,hs,t⟩:=hv.list_inv
  exact⟨a,ys,l,rfl,rfl,t,.inl hs.sq⟩
 .obtain⟨v,rfl,hv⟩:=h1.inv1
  obtain⟨a,ys,rfl,hs,t⟩:=hv.tuple_inv
  exact⟨a,ys,l,rfl,rfl,t,.inr hs⟩
theorem qf3 (ds:ae)(d:Ka)(e:lenD ds=bB d):(∃l,ds=[.list l]/\d=.int (l.length:Nat))\/∃l,ds=[.tuple l]/\d=.int (l.length:Nat):=by
 unfold lenD at e
 split at e
 .cases e;exact .inl ⟨_,rfl,rfl⟩
 .cases e;exact .inr ⟨_,rfl,rfl⟩
 .cases e
theorem J8:CallD X (.builtin "len") lenD:=λsd s σ H xs us Q I r ⟨S,ds,d,m,h1,e,q⟩=>qbN sd s σ H xs us Q I r (by
 obtain⟨a,ys,l,rfl,rfl,t,h⟩:=h1.seq1 qf3 e
 exact⟨_,_,rfl,h,by rw[t.length];exact q _ H (Same.refl H) (.int _)⟩)
end
noncomputable def YQ:Ka->Option Bool
 |.bool b=>bB b
 |_=>bC
def tV (f:aa):Rho->Option Bool:=λρ=>ob (f ρ) YQ
def tN (p:aj):Rho->Option Bool:=λρ=>ob (p ρ) λb=>bB (!b)
def tA (p q:aj):Rho->Option Bool:=λρ=>ob (p ρ) λc=>if c=bD then q ρ else bB bE
def tO (p q:aj):Rho->Option Bool:=λρ=>ob (p ρ) λc=>if c=bD then bB bD else q ρ
def tT:Rho->Option Bool:=λ_=>bB bD
def vA (fa fb:aa):Rho->Option Ka:=λρ=>ob (fa ρ) λx=>ob (YQ x) λc=>if c=bD then fb ρ else bB (.bool bE)
def vN (fa:aa):Rho->Option Ka:=λρ=>ob (fa ρ) λx=>ob (YQ x) λc=>bB (.bool (!c))
def evI (f:aa)(h:Ka->Option (List Ka)):Rho->Option (List Ka):=λρ=>ob (f ρ) h
def evR (fs:ai)(h:List Ka->Option (List Ka)):Rho->Option (List Ka):=λρ=>ob (fs ρ) h
def sN:Rho->Option Out:=λρ=>bB (.nx ρ)
def sRet (f:aa):Rho->Option Out:=λρ=>ob (f ρ) λd=>bB (.rt d)
def sIf (p:aj)(u w:ak):Rho->Option Out:=λρ=>ob (p ρ) λb=>if b=bD then u ρ else w ρ
def sSet (i:Nat)(f:aa):Rho->Option Out:=λρ=>ob (f ρ) λd=>bB (.nx (ρ.set i (bB d)))
def sAsg (f:aa)(g:af):Rho->Option Out:=λρ=>ob (f ρ) λd=>ob (g d ρ) λρ'=>bB (.nx ρ')
def gNm (i:Nat):Ka->Rho->Option Rho:=λd ρ=>bB (ρ.set i (bB d))
def gsN:List Ka->Rho->Option Rho:=λds ρ=>match ds with | []=>bB ρ|_=>bC
def gsC (g1:af)(g2:az):List Ka->Rho->Option Rho:=λds ρ=>match ds with | d::r=>ob (g1 d ρ) λρ'=>g2 r ρ'|[]=>bC
def sBk:Rho->Option Out:=λρ=>bB (.bk ρ)
def sCt:Rho->Option Out:=λρ=>bB (.ct ρ)
section
variable {X:Cx}{M:ao}{a b c:KI}{es rest:aH}{f g fa fb:aa}{p q:aj}{pos:Pos}
theorem ZQ {d:Ka}{b:Bool}(h:YQ d=bB b):d=.bool b:=by cases d<;>first|(cases h;rfl)|cases h
theorem Ql (h:PD X M a f)(he:∀whole,isTrue a X.env whole=(do let v ←whole;standAt a.pos;holding [v] (truthy v)):=by intro _;rfl):PDT X M a (tV f) :=
 (qlK h he).weak λσ H Q ⟨S,ρ,d,hs,e,q⟩=>by
  obtain⟨x,e1,e⟩:=qe e
  cases ZQ e
  exact⟨S,ρ,_,hs,e1,λv H1 g1 d1=>⟨d,d1.bool_inv,q H1 g1⟩⟩
theorem zb {op:CmpOp}{g:aD}(ho:OpD X (sA op) g)(ha:PD X M a fa)(hb:PD X M b fb)(hm:tq op b=bE):PDT X M (.Compare a [op] [b] pos) (tV (ev2 fa fb g)) :=
 (qjN ho ha hb hm).weak λσ H Q ⟨S,ρ,d,hs,e,q⟩=>by
  obtain⟨x,e1,e⟩:=qe e
  cases ZQ e
  exact tD2 σ H _ ⟨S,ρ,_,hs,e1,λv H1 g1 d1=>⟨d,d1.bool_inv,q H1 g1⟩⟩
theorem Qk (h:PDT X M a p):PDT X M (.UnaryOp .Not a pos) (tN p) :=
 (qlJ h).weak λσ H Q ⟨S,ρ,d,hs,e,q⟩=>by
  obtain⟨x,e1,e⟩:=qe e
  cases e
  exact⟨S,ρ,x,hs,e1,λH1 g1=>q H1 g1⟩
def PDW (X:Cx)(M:ao)(e:KI)(f:aj):Prop:=PW X e (tDT X.K M f)
theorem PDW.pdt (h:PDW X M a p):PDT X M a p:=PW.pt h
theorem qaw (h:PDT X M a p):PDW X M (.BoolOp .And [a] pos) p:=qjQ h
theorem jx (h:PDT X M a p):PDW X M (.BoolOp .Or [a] pos) p:=qlN h
theorem WP (ha:PDT X M a p)(hb:PDW X M (.BoolOp .And (b::rest) pos) q):PDW X M (.BoolOp .And (a::b::rest) pos) (tA p q) :=
 (qlM ha hb).weak λσ H Q ⟨S,ρ,d,hs,e,w⟩=>by
  obtain⟨x,e1,e⟩:=qe e
  refine⟨S,ρ,x,hs,e1,λH1 g1=>?_⟩
  cases x with
  |true=>exact iteT ⟨S,ρ,d,hs.same g1,e,λH2 g2=>w H2 (g1.trans g2)⟩
  |false=>cases e;exact iteF (w H1 g1)
theorem Ja (ha:PDT X M a p)(hb:PDW X M (.BoolOp .Or (b::rest) pos) q):PDW X M (.BoolOp .Or (a::b::rest) pos) (tO p q) :=
 (pw_or ha hb).weak λσ H Q ⟨S,ρ,d,hs,e,w⟩=>by
  obtain⟨x,e1,e⟩:=qe e
  refine⟨S,ρ,x,hs,e1,λH1 g1=>?_⟩
  cases x with
  |true=>cases e;exact iteT (w H1 g1)
  |false=>exact iteF ⟨S,ρ,d,hs.same g1,e,λH2 g2=>w H2 (g1.trans g2)⟩
theorem wU {op}(h:PD X M a f):PD X M (.BoolOp op [a] pos) f:=qlz h
theorem Yq (ha:PD X M a fa)(hb:PD X M (.BoolOp .And (b::rest) pos) fb):PD X M (.BoolOp .And (a::b::rest) pos) (vA fa fb) :=
 (qlv ha hb).weak λσ H Q ⟨S,ρ,d,hs,e,w⟩=>by
  obtain⟨x,e1,e⟩:=qe e
  obtain⟨c,e2,e⟩:=qe e
  cases ZQ e2
  refine⟨S,ρ,_,hs,e1,λv H1 g1 d1=>⟨c,d1.bool_inv,?_⟩⟩
  cases c with
  |true=>exact iteT ⟨S,ρ,d,hs.same g1,e,λv H2 g2 d2=>w v H2 (g1.trans g2) d2⟩
  |false=>cases e;exact iteF (w _ H1 g1 (.bool bE))
theorem qhI (ha:PD X M a fa):PD X M (.UnaryOp .Not a pos) (vN fa) :=
 (qly ha).weak λσ H Q ⟨S,ρ,d,hs,e,w⟩=>by
  obtain⟨x,e1,e⟩:=qe e
  obtain⟨c,e2,e⟩:=qe e
  cases ZQ e2
  cases e
  exact⟨S,ρ,_,hs,e1,λv H1 g1 d1=>⟨c,d1.bool_inv,w _ H1 g1 (.bool _)⟩⟩
structure IsIt (K:Kd)(S:Av)(J:It)(H:Hp)(ds:ae):Prop where
 go:∀(i:Nat) (H':Hp),Same H H'->i<ds.length->J.go i H'
 yld:∀(i:Nat) (H':Hp) (x:V) (H2:Hp),Same H H'->J.yld i H' x H2->Same H' H2/\∀d,ds[i]?=bB d->∀S':Av,(∀y e,Den K H S y e->Den K H2 S' y e)->Den K H2 S' x d
 stop:∀H':Hp,Same H H'->J.stop ds.length H'
theorem IsIt.lst {K:Kd}{H:Hp}{S:Av}{l:Kg}{xs:List V}{ds:ae}(h:SqL K H l xs)(t:DenL K H S xs ds):IsIt K S (Itl K l) H ds where
 go:=λi H' e hi=>by
  have dm:i<xs.length:=by rw[t.length];exact hi
  exact⟨xs,xs[i],e.seq h,Kj dm⟩
 yld:=λi H' x H2 e ⟨e2,q⟩=>⟨by rw[e2];exact Same.refl _,λd hd S' w=>by
  obtain⟨v,h1,h2⟩:=t.get hd
  have:=q xs (e.seq h)
  rw[h1]at this
  cases this
  exact w _ _ h2⟩
 stop:=λH' e=>⟨xs,e.seq h,by rw[t.length];exact Kp _⟩
theorem IsIt.tup {K:Kd}{H:Hp}{S:Av}{l:Kg}{xs:List V}{ds:ae}(h:SqT K H l xs)(t:DenL K H S xs ds):IsIt K S (Itt K l) H ds where
 go:=λi H' e hi=>by
  have dm:i<xs.length:=by rw[t.length];exact hi
  exact⟨xs,xs[i],e.sqT h,Kj dm⟩
 yld:=λi H' x H2 e ⟨e2,q⟩=>⟨by rw[e2];exact Same.refl _,λd hd S' w=>by
  obtain⟨v,h1,h2⟩:=t.get hd
  have:=q xs (e.sqT h)
  rw[h1]at this
  cases this
  exact w _ _ h2⟩
 stop:=λH' e=>⟨xs,e.sqT h,by rw[t.length];exact Kp _⟩
theorem SqLS.off {K:Kd}{H H':Hp}{S:Av}{a:Kg}{xs:List V}(e:Off S H H')(h:SqLS K H S a xs):SqLS K H' S a xs:=h.imp (λq=>⟨q.1.off e q.2,q.2⟩) id
theorem SqT.off {K:Kd}{H H':Hp}{S:Av}{a:Kg}{xs:List V}(m:Dm S H)(e:Off S H H')(h:SqT K H a xs):SqT K H' a xs:=h.imp (λq=>q.off e (m.tup q)) id
noncomputable def rngL:Int->Nat->List Ka
 |_,0=>[]
 |lo,n+1=>.int lo::rngL (lo+1) n
theorem yH:∀(lo:Int) (n:Nat),(rngL lo n).length=n
 |_,0=>rfl
 |lo,n+1=>by rw[rngL,Kv,yH]
theorem qdO:∀(lo:Int) (n i:Nat) (d:Ka),(rngL lo n)[i]?=bB d->d=.int (lo+i)
 |_,0,_,_,h=>by simp [rngL]at h
 |lo,n+1,0,d,h=>by simp [rngL]at h;subst h;simp
 |lo,n+1,i+1,d,h=>by
  have:=qdO (lo+1) n i d (by simpa [rngL] using h)
  rw[this]
  congr 1
  omega
theorem IsIt.rng {K:Kd}{H:Hp}{S:Av}(lo:Int)(n:Nat):IsIt K S (Itr lo n) H (rngL lo n) where
 go:=λi H' e hi=>by rw[yH]at hi;exact hi
 yld:=λi H' x H2 e ⟨e2,q⟩=>⟨by rw[e2];exact Same.refl _,λd hd _ _=>by
  have q':x=.int (lo+i):=q
  rw[qdO lo n i d hd,q']
  exact .int _⟩
 stop:=λH' e=>by rw[yH];exact Kp n
def tDI (K:Kd)(M:ao)(f:ai):TI:=λσ H R=>∃S ρ ds,DenS K H S M σ ρ/\f ρ=bB ds/\∀J H',Same H H'->(∀H2,Off S H' H2->IsIt K S J H2 ds)->R J H'
def PDI (X:Cx)(M:ao)(tg iter:KI)(f:ai):Prop:=PI X tg iter (tDI X.K M f)
theorem PI.weak  (h:PI X tg e t) (w:∀ σ H R,t' σ H R->t σ H R):PI X tg e t':=λsd s σ H Q I q=>h sd s σ H Q I (w σ H Q q)
def iSeq (K:Kd)(tl:TE):TI:=λσ H R=>tl σ H λx H1=>∃a,x=.ref a/\(((∃xs,SqL K H1 a xs)/\R (Itl K a) H1)\/((∃xs,SqT K H1 a xs)/\R (Itt K a) H1))
theorem qlC (hl:PE X l tl):PI X tg l (iSeq X.K tl):=by
 intro sd s σ H R I h
 refine thn (hl sd s σ H _ I h) λv s1 ⟨x,H1,I1,r1,q1⟩=>?_
 obtain⟨a,e,q1⟩:=q1
 subst e
 cases r1
 have fp:∀b∈[s1.heap.objs.size],FpOk X sd H1 b:=λb hb=>by
  have e:b=s1.heap.objs.size:=by simpa using hb
  subst e
  exact I1.fpOk (Kp _) (I1.hok.fresh (Kp _))
 rcases q1 with ⟨⟨xs,hq⟩,q⟩|⟨⟨xs,hq⟩,q⟩
 .obtain⟨its,rv,p,hz⟩:=I1.list hq
  refine U6 p.isList ?_
  exact⟨s1.heap.objs.size,[s1.heap.objs.size],_,_,H1,rfl,I1.kept (t':=s1.toks) λb o e=>Kh _ e,qgo a _,⟨_,Ks _ rfl,rfl,rfl⟩,fp,q⟩
 .obtain⟨its,rv,p,hz⟩:=I1.tuple hq
  refine Xt (show s1.heap.IsTuple a its.toArray from p) ?_
  exact⟨s1.heap.objs.size,[s1.heap.objs.size],_,_,H1,rfl,I1.kept (t':=s1.toks) λb o e=>Kh _ e,qeB a _,⟨_,Ks _ rfl,rfl,rfl⟩,fp,q⟩
noncomputable def seqD:Ka->Option (List Ka)
 |.list ds=>bB ds
 |.tuple ds=>bB ds
 |_=>bC
theorem zU (h:PD X M a f):PDI X M tg a (evI f seqD) :=
 (qlC h).weak λσ H R ⟨S,ρ,ds,hs,e,w⟩=>by
  obtain⟨x,e1,e⟩:=qe e
  refine⟨S,ρ,x,hs,e1,λv H1 g1 d1=>?_⟩
  cases d1 with
  |list h t=>cases e;exact⟨_,rfl,.inl ⟨⟨_,h.sq⟩,w _ _ g1 λH2 o=>IsIt.lst (h.off o).sq (t.off (hs.1.same g1) o)⟩⟩
  |tuple h t=>cases e;exact⟨_,rfl,.inr ⟨⟨_,h⟩,w _ _ g1 λH2 o=>IsIt.tup (h.off (hs.1.same g1) o) (t.off (hs.1.same g1) o)⟩⟩
  |_=>cases e
def QJ:List Ka->Option (List Ka)
 |[.int j]=>if -1000<=j/\j<=1000 then bB (rngL 0 j.toNat) else bC
 |_=>bC
theorem Z1 {tg:KI}{fs:ai}{p:Pos}(hg:Gl X "range")(hm:X.mg "range" = bC)(ha:PDA X M [a] fs)(hs:sj [a] X.env=[(bE,eval a X.env)]:=by rfl):PDI X M tg (.Call (.Name "range" p) [a] [] pos) (evR fs QJ) :=
 (qbx hg hm ha hs).weak λσ H R ⟨S,ρ,ds,hs,e,w⟩=>by
  obtain⟨xs,e1,e⟩:=qe e
  refine⟨S,ρ,xs,hs,e1,λvs H1 g1 d1=>?_⟩
  unfold QJ at e
  split at e
  .rename_i j
   split at e
   .rename_i hj
    cases e
    obtain⟨v,rfl,q⟩:=d1.inv1
    cases q
    exact⟨j,rfl,by omega,by omega,w _ _ g1 λ_ _=>IsIt.rng 0 _⟩
   .cases e
  .cases e
def Qv (tt:aj)(te:aa)(ρ:Rho):List Ka->Option (List Ka)
 |[]=>bB []
 |d::ds=>ob (tt (ρ++[bB d])) λb=>if b=bD then ob (te (ρ++[bB d])) λy=>ob (Qv tt te ρ ds) λys=>bB (y::ys) else Qv tt te ρ ds
def ZM (n:Nat)(fi:ai)(tt:aj)(te:aa)(ρ:Rho):Option Ka :=
 ob (fi ρ) λds=>if ρ.length=n/\ds.length<=1000 then ob (Qv tt te ρ ds) λys=>bB (.list ys) else bC
def PDTs (X:Cx)(M:ao)(ifs:aH)(p:aj):Prop:=PTs X ifs (tDT X.K M p)
theorem zF:PDTs X M [] tT:=λsd s σ H Q I ⟨S,ρ,b,hs,e,q⟩=>by
 cases e
 exact qjO sd s σ H Q I (q H (Same.refl H))
noncomputable def lc1 (sc:V5)(x:Str):Bool:=decide (sc.names.lookup x=bB .local)||decide (sc.names.lookup x=bB .cell)
theorem qcx {env:Env}:∀{names:List (Str×NameKind)} {x:Str},names.lookup x=bB .cell->
  (names.map λ(n,k)=>if (k==Vs&&env.scope.kind==.function&&env.kindOf n==bB .cell) then (n,VQ) else (n,k)).lookup x=bB .cell:=by
 intro names x
 induction names with
 |nil=>intro h;cases h
 |cons q r ih =>
  intro h
  obtain⟨n,k⟩:=q
  show N5 x ((if (k==Vs&&env.scope.kind==.function&&env.kindOf n==bB .cell)=bD then (n,VQ) else (n,k))::_)=_
  rw[Vt]at h
  by_cases hx:(x==n)=bD
  .rw[hx]at h;cases h
   split<;>rw[Vt,hx]
  .rw[Em.mpr hx]at h
   split<;>rw[Vt,Em.mpr hx]<;>exact ih h
def tDGc (K:Kd)(M:ao)(g:af):TG:=λv σ H Q=>∃S ρ d ρ',DenS K H S M σ ρ/\Den K H S v d/\g d ρ=bB ρ'/\∀ σ' H',Same H H'->DenS K H' S M σ' ρ'->Q σ' H'
def tDGcs (K:Kd)(M:ao)(g:az):TGs:=λvs σ H Q=>∃S ρ ds ρ',DenS K H S M σ ρ/\DenL K H S vs ds/\g ds ρ=bB ρ'/\∀ σ' H',Same H H'->DenS K H' S M σ' ρ'->Q σ' H'
def PDGc (X:Cx)(M:ao)(t:KI)(g:af):Prop:=PG X t (tDGc X.K M g)
def qeE (X:Cx)(M:ao)(t:aH)(g:az):Prop:=PGs X t (tDGcs X.K M g)
theorem PG.weak  (h:PG X e t) (w:∀v σ H Q,t' v σ H Q->t v σ H Q):PG X e t':=λsd s σ H v u Q I r q=>h sd s σ H v u Q I r (w v σ H Q q)
theorem PGs.weak  (h:PGs X e t) (w:∀v σ H Q,t' v σ H Q->t v σ H Q):PGs X e t':=λsd s σ H v u Q I r q=>h sd s σ H v u Q I r (w v σ H Q q)
def unpD (n:Nat)(g:az):Ka->Rho->Option Rho
 |.tuple ds,ρ=>if ds.length=n then g ds ρ else bC
 |_,_=>bC
theorem qbu (i:Nat)(hN:X.N.Nodup)(hx:Loc X.env.scope x)(hi:X.N[i]?=bB x)(hf:X.fn x=bD\/X.env.scope.names.lookup x=bB .local):PDGc X M (.Name x pos) (gNm i) :=
 (qfn hN hi hx hf).weak λv σ H Q ⟨S,ρ,d,ρ',hs,hd,e,q⟩=>by
  cases e
  exact q _ H (Same.refl H) (hs.set hd i)
theorem Q6:qeE X M [] gsN :=
 qfo.weak λv σ H Q ⟨S,ρ,d,ρ',hs,hd,e,q⟩=>by
  cases hd with
  |nil=>cases e;exact⟨rfl,q _ H (Same.refl H) hs⟩
  |cons a t=>cases e
theorem zj  (h1:PDGc X M t g1) (h2:qeE X M ts g2) (hs:(sI (t::ts) X.env).map (·.2)=assign t X.env::(sI ts X.env).map (·.2):=by rfl):
  qeE X M (t::ts) (gsC g1 g2) :=
 (qdC h1 h2 hs).weak λv σ H Q ⟨S,ρ,d,ρ',hs,hd,e,q⟩=>by
  cases hd with
  |nil=>cases e
  |cons a t =>
   obtain⟨ρ1,e1,e⟩:=qe e
   exact⟨_,_,rfl,S,ρ,_,ρ1,hs,a,e1,λσ' H' g1 c7=>⟨S,ρ1,_,ρ',c7,t.same g1,e,λσ2 H2 g2 dI=>q σ2 H2 (g1.trans g2) dI⟩⟩
theorem ZF {ts:aH}{k:Nat}{n:Nat}{g:az}(hc:X.calm=bD)(h:qeE X M ts g)(hn:(sI ts X.env).length=n:=by rfl)(hU:(sI ts X.env).findIdx? (·.1)=bC:=by rfl):PDGc X M (.Tuple ts k pos) (unpD n g) :=
 (qhY hc h hn hU).weak λv σ H Q ⟨S,ρ,d,ρ',hs,hd,e,q⟩=>by
  cases hd with
  | @tuple a xs ds h t =>
   have e:(if ds.length=n then g ds ρ else bC)=bB ρ':=e
   split at e
   .rename_i hl
    exact⟨_,_,rfl,h,by rw[t.length];exact hl,S,ρ,_,ρ',hs,t,e,q⟩
   .cases e
  |_=>cases e
def GIn (n k:Nat)(g:af):Prop:=∀d (ρ r ρ1:Rho),ρ.length=n->r.length=k->g d (ρ++r)=bB ρ1->∃r',r'.length=k/\ρ1=ρ++r'
def GIns (n k:Nat)(g:az):Prop:=∀d (ρ r ρ1:Rho),ρ.length=n->r.length=k->g d (ρ++r)=bB ρ1->∃r',r'.length=k/\ρ1=ρ++r'
theorem zx (h:n<=i):GIn n k (gNm i):=λd ρ r ρ1 h1 h2 e=>by
 cases e
 refine⟨r.set (i-n) (bB d),by rw[Ub];exact h2,?_⟩
 rw[E6 _ _ '#',h1]
theorem Zz:GIns n k gsN:=λd ρ r ρ1 h1 h2 e=>by
 cases d with
 |nil=>cases e;exact⟨r,h2,rfl⟩
 |cons _ _=>cases e
theorem zA  (a:GIn n k g1) (b:GIns n k g2):GIns n k (gsC g1 g2):=λd ρ r ρ1 h1 h2 e=>by
 cases d with
 |nil=>cases e
 |cons d ds =>
  obtain⟨ρ2,e1,e2⟩:=qe e
  obtain⟨r1,l1,rfl⟩:=a d ρ r ρ2 h1 h2 e1
  exact b ds ρ r1 ρ1 h1 l1 e2
theorem jt {n k m:Nat}{g:az}(a:GIns n k g):GIn n k (unpD m g):=λd ρ r ρ1 h1 h2 e=>by
 cases d with
 |tuple ds =>
  have e:(if ds.length=m then g ds (ρ++r) else bC)=bB ρ1:=e
  split at e
  .exact a ds ρ r ρ1 h1 h2 e
  .cases e
 |_=>cases e
def Qp (k:Nat)(g:af)(tt:aj)(te:aa)(ρ:Rho):List Ka->Option (List Ka)
 |[]=>bB []
 |d::ds=>ob (g d (ρ++Kk k bC)) λρ1=>ob (tt ρ1) λb=>if b=bD then ob (te ρ1) λy=>ob (Qp k g tt te ρ ds) λys=>bB (y::ys) else Qp k g tt te ρ ds
def Q8 (n k:Nat)(fi:ai)(g:af)(tt:aj)(te:aa)(ρ:Rho):Option Ka :=
 ob (fi ρ) λds=>if ρ.length=n/\ds.length<=1000 then ob (Qp k g tt te ρ ds) λys=>bB (.list ys) else bC
theorem W7 {ρ:Rho}(hn:ρ.length=n):∀ds,Qp 1 (gNm n) tt te ρ ds=Qv tt te ρ ds
 |[]=>rfl
 |d::ds=>by
  have e:gNm n d (ρ++Kk 1 bC)=bB (ρ++[bB d]):=by
   show bB ((ρ++[bC]).set n (bB d))=_
   rw[←hn,E6 _ _ (Kp _)]
   simp
  rw[Qp,Qv,e]
  show(ob (tt (ρ++[bB d])) λb=>_)=_
  rw[W7 hn ds]
theorem Yh (n:Nat)(fi:ai)(tt:aj)(te:aa):ZM n fi tt te=Q8 n 1 fi (gNm n) tt te:=by
 funext ρ
 unfold ZM Q8
 cases fi ρ with
 |none=>rfl
 |some ds =>
  show(if ρ.length=n/\ds.length<=1000 then _ else bC)=(if ρ.length=n/\ds.length<=1000 then _ else bC)
  split
  .rename_i h
   rw[W7 h.1]
  .rfl
theorem DenS.forget {K:Kd}{H:Hp}{S:Av}{σ:St}{ρ r':Rho}{k:Nat}(h:DenS K H S M σ (ρ++r'))(hk:r'.length=k):DenS K H S M σ (ρ++Kk k bC):=by
 refine⟨h.1,by rw[h.2.1,Kr,Kr,Vj,hk],λi d hi e=>?_⟩
 by_cases bK:i<ρ.length
 .rw[Vf bK]at e
  exact h.2.2 i d hi (by rw[Vf bK];exact e)
 .rw[Vy '#']at e
  have:=US (a:=(bC:aE)) (n:=k) (i:=i-ρ.length)
  rw[this]at e
  split at e<;>cases e
theorem DenS.more {K:Kd}{H:Hp}{S:Av}{σ:St}{ρ:Rho}(k:Nat)(h:DenS K H S M σ ρ):DenS K H S M (σ++Kk k bC) (ρ++Kk k bC):=by
 refine⟨h.1,by rw[Kr,Kr,h.2.1,Vj,Vj],λi d hi e=>?_⟩
 by_cases bK:i<ρ.length
 .rw[Vf bK]at e
  obtain⟨v,a,b⟩:=h.2.2 i d hi e
  exact⟨v,by rw[Vf (by rw[h.2.1];exact bK)];exact a,b⟩
 .rw[Vy '#']at e
  have:=US (a:=(bC:aE)) (n:=k) (i:=i-ρ.length)
  rw[this]at e
  split at e<;>cases e
theorem qfy {K:Kd}{n k:Nat}{fi:ai}{g:af}(hg:GIn n k g):∀ σ H Q S ρ ds ys,DenS K H S M σ ρ->fi ρ=bB ds->ρ.length=n->ds.length<=1000->Qp k g p f ρ ds=bB ys->(∀H' zs,Same H H'->DenL K H' S zs ys->∀D,H' D=bC->Q (.ref D) (upd H' D (.lst zs)))->qbG k (tDI K M fi) (tDGc K M g) (tDT K M p) (tD K M f) σ H Q:=by
 intro σ H Q S ρ ds ys hs e1 hn hz e2 q
 refine⟨S,ρ,ds,hs,e1,λJ H1 g1 kZ=>?_⟩
 have hJ:=kZ H1 λ_ _ _ z=>z
 have fC:1000<sv:=zL (Kp _)
 refine⟨λi m zs σ' H'=>m=ds.length-i/\i<=ds.length/\zs.length<=i/\Same H1 H'/\DenS K H' S M σ' (ρ++Kk k bC)/\∃pre rest,DenL K H' S zs pre/\Qp k g p f ρ (ds.drop i)=bB rest/\pre++rest=ys,⟨ds.length,by simp,Vr _,Kp _,Same.refl _,(hs.same g1).more k,[],ys,.nil,e2,rfl⟩,?_⟩
 rintro i m zs σ' H' ⟨rfl,hi,nk,g2,hS,pre,rest,dl,er,rfl⟩
 by_cases bK:i<ds.length
 .refine .inr ⟨hJ.go i H' g2 bK,λx H2 y=>?_⟩
  obtain⟨gv,yd⟩:=hJ.yld i H' x H2 g2 y
  have hd:=yd _ (Kj bK) S λy e q=>q.same (g2.trans gv)
  rw[VD bK]at er
  obtain⟨ρ1,r1,er⟩:=qe er
  obtain⟨bb,b1,er⟩:=qe er
  obtain⟨r',fm,rfl⟩:=hg _ ρ _ ρ1 hn (Vj) r1
  have g2:=g2.trans gv
  have dl:=dl.same gv
  refine⟨S,_,_,_,hS.same gv,hd,r1,λσ3 H3 g3 gz=>⟨S,_,bb,gz,b1,λH4 g4=>?_⟩⟩
  cases bb with
  |true =>
   rw[si rfl]at er
   obtain⟨y1,e3,er⟩:=qe er
   obtain⟨nq,e4,er⟩:=qe er
   cases er
   refine iteT ⟨S,_,y1,gz.same g4,e3,λv H5 g5 d5=>⟨by omega,ds.length-(i+1),by omega,rfl,bK,by rw[Kr,KQ];omega,g2.trans (g3.trans (g4.trans g5)),(gz.same (g4.trans g5)).forget fm,pre++[y1],nq,(dl.same (g3.trans (g4.trans g5))).snoc d5,e4,by simp⟩⟩
  |false =>
   rw[sk Vl]at er
   exact iteF ⟨ds.length-(i+1),by omega,rfl,bK,by omega,g2.trans (g3.trans g4),(gz.same g4).forget fm,pre,rest,dl.same (g3.trans g4),er,rfl⟩
 .have dm:i=ds.length:=by omega
  subst dm
  rw[Xk]at er
  cases er
  refine .inl ⟨hJ.stop H' g2,λD hD=>q H' zs (g1.trans g2) (by rw[Vw];exact dl) D hD⟩
theorem Yi {n k:Nat}{fi:ai}{g:af}{tt:aj}{te:aa}{ρ:Rho}{d:Ka}(e:Q8 n k fi g tt te ρ=bB d):∃ds ys,fi ρ=bB ds/\ρ.length=n/\ds.length<=1000/\Qp k g tt te ρ ds=bB ys/\d=.list ys:=by
 obtain⟨ds,e1,e⟩:=qe e
 split at e
 .rename_i hc
  obtain⟨ys,e2,e⟩:=qe e
  cases e
  exact⟨ds,ys,e1,hc.1,hc.2,e2,rfl⟩
 .cases e
theorem qma {K:Kd}{n k:Nat}{fi:ai}{g:af}(hg:GIn n k g):∀ σ H Q,tD K M (Q8 n k fi g p f) σ H Q->qbG k (tDI K M fi) (tDGc K M g) (tDT K M p) (tD K M f) σ H Q:=by
 intro σ H Q ⟨S,ρ,d,hs,e,q⟩
 obtain⟨ds,ys,e1,hn,hz,e2,rfl⟩:=Yi e
 exact qfy hg σ H Q S ρ ds ys hs e1 hn hz e2 λH' zs g2 dl D hD=>q _ _ (g2.lay' hD) (.list (SqLS.new q8 ((hs.1.same g2).free hD)) (dl.same (Same.lay hD)))
section
variable {elt iter tg:KI}{ifs:aH}{x:Str}{N':aA}{px:Pos}{sc:V5}{n k:Nat}{fi:ai}{g:af}
theorem zM (O:CompOk X N' k sc)(hx:N'[i]?=bB x)(hl:lc1 sc x=bD)(cl:aM)(C:Kg)(fp:aw)(sd:ah)(s:Kf)(H:Hp):PDGc (qQ X N' sc cl C fp sd s H) M (.Name x px) (gNm i) :=
 (Bool.or_eq_true_iff.mp hl).elim (λhl =>
  have gA:(relabel sc X.env).names.lookup x=bB .local:=lookup_relabel_local (sx hl)
  qbu (X:=qQ X N' sc cl C fp sd s H) i O.nd' (.inl gA) hx (.inr gA)) λhl =>
  have gA:(relabel sc X.env).names.lookup x=bB .cell:=qcx (sx hl)
  qbu (X:=qQ X N' sc cl C fp sd s H) i O.nd' (.inr gA) hx (.inl hl)
theorem ZD (O:CompOk X N' k sc)(gi:GIn n k g)(hi:PDI X M tg iter fi)(hg:∀cl C fp sd s H,PDGc (qQ X N' sc cl C fp sd s H) M tg g)(hq:∀cl C fp sd s H,PDTs (qQ X N' sc cl C fp sd s H) M ifs p)(he:∀cl C fp sd s H,PD (qQ X N' sc cl C fp sd s H) M elt f)
  (hs:∀v,sD iter X.env v=pure v:=by intro _;rfl):PD X M (.ListComp elt [⟨tg,iter,ifs,0⟩] sc pos) (Q8 n k fi g p f) :=
 (qfl (wg:=tDGc X.K M g) (tt:=tDT X.K M p) (te:=tD X.K M f) O hi hg hq he hs).weak (qma gi)
theorem ju (O:CompOk X N' 1 sc)(hx:N'[n]?=bB x)(hl:lc1 sc x=bD)(hi:PDI X M (.Name x px) iter fi)(hq:∀cl C fp sd s H,PDTs (qQ X N' sc cl C fp sd s H) M ifs p)(he:∀cl C fp sd s H,PD (qQ X N' sc cl C fp sd s H) M elt f)
  (hs:∀v,sD iter X.env v=pure v:=by intro _;rfl):PD X M (.ListComp elt [⟨.Name x px,iter,ifs,0⟩] sc pos) (ZM n fi p f):=by
 rw[Yh]
 exact ZD O (zx (Kp _)) hi (zM O hx hl) hq he hs
end
end
structure Gm where
 H0:Hp
 S0:Av
 lk:Nat->Kg×PyData
def insA (S:Av)(p:Kg):Av:=λa=>S a\/a=p
inductive OwnO (K:Kd)(H:Hp)(S:Av)(p:Kg):Ka->Prop
 |lst {xs:List V} {ds:ae}:H p=bB (.lst xs)->DenL K H S xs ds->OwnO K H S p (.list ds)
 |dct {kvs:List (KX×Addr×V)} {ep:Nat} {ds:ae}:H p=bB (DctO p kvs ep)->DenL K H S (kvs.map λp=>kxV p.1 p.2.1) (kvs.map λp=>kxD p.1)->DenL K H S (kvs.map (·.2.2)) ds->OwnO K H S p (.dict (dkv kvs ds))
section
variable {K:Kd}{H H':Hp}{S S':Av}{p:Kg}{d:Ka}
theorem OwnO.same (e:Same H H')(h:OwnO K H S p d):OwnO K H' S p d:=by
 cases h with
 |lst h t=>exact .lst (e _ _ h) (t.same e)
 |dct h k t=>exact .dct (e _ _ h) (k.same e) (t.same e)
theorem OwnO.sub (e:∀a,H a≠bC->S' a->S a)(h:OwnO K H S p d):OwnO K H S' p d:=by
 cases h with
 |lst h t=>exact .lst h (t.sub e)
 |dct h k t=>exact .dct h (k.sub e) (t.sub e)
theorem OwnO.mut (h:OwnO K H S p d):∃o,H p=bB o/\J9 o=bD:=by
 cases h with
 |lst h t=>exact⟨_,h,rfl⟩
 |dct h k t=>exact⟨_,h,rfl⟩
theorem OwnO.dom (h:OwnO K H S p d):H p≠bC:=by
 obtain⟨o,e,_⟩:=h.mut
 rw[e];exact λz=>nomatch z
theorem OwnO.den (h:OwnO K H S p d)(n:¬S' p)(e:∀a,H a≠bC->S' a->S a):Den K H S' (.ref p) d:=by
 cases h with
 |lst h t=>exact .list (SqLS.new h n) (t.sub e)
 |dct h k t=>exact .dict ⟨h,n⟩ (k.sub e) (t.sub e)
theorem OwnO.upd (m:Dm S H)(h:OwnO K H S p d)(hq:S q)(hm:J9 o=bD)(ne:p≠q):OwnO K (upd H q o) S p d:=by
 have off:Off S H (L2.upd H q o):=λb u n e=>by
  rw[qK (λz=>n (by rw[z];exact hq))];exact e
 cases h with
 |lst h t=>exact .lst (by rw[qK ne];exact h) (t.off m off)
 |dct h k t=>exact .dct (by rw[qK ne];exact h) (k.off m off) (t.off m off)
theorem Dm.upd (m:Dm S H)(hm:J9 o=bD):Dm S (upd H q o):=λa ha=>by
 by_cases e:a=q
 .subst e;exact⟨o,q8,hm⟩
 .rw[qK e];exact m a ha
theorem Dm.ins (m:Dm S H)(h:∃o,H p=bB o/\J9 o=bD):Dm (insA S p) H:=λa ha=>by
 rcases ha with ha|rfl
 .exact m a ha
 .exact h
end
inductive Kids (K:Kd)(H:Hp)(S:Av):List Kg->List Ka->Prop
 |nil:Kids K H S [] []
 |cons {q:Kg} {xs:List V} {es:ae} {qs:aw} {ds:ae}:H q=bB (.lst xs)->DenL K H S xs es->q∉qs->Kids K H S qs ds->Kids K H S (q::qs) (.list es::ds)
inductive Mx (K:Kd)(H:Hp)(S:Av):List Kg->List V->List Ka->Prop
 |nil:Mx K H S [] [] []
 |kid {q:Kg} {xs:List V} {es:ae} {qs:aw} {vs:List V} {ds:ae}:H q=bB (.lst xs)->DenL K H S xs es->q∉qs->Mx K H S qs vs ds->Mx K H S (q::qs) (.ref q::vs) (.list es::ds)
 |flt {v:V} {d:Ka} {qs:aw} {vs:List V} {ds:ae}:Den K H S v d->flat d=bD->Mx K H S qs vs ds->Mx K H S qs (v::vs) (d::ds)
inductive DeepO (K:Kd)(H:Hp)(S:Av):List Kg->Kg->Ka->Prop
 |tpl {p:Kg} {qs:aw} {vs:List V} {ds:ae}:H p=bB (.tup vs)->Mx K H S qs vs ds->DeepO K H S qs p (.tuple ds)
 |lst {p:Kg} {qs:aw} {ds:ae}:H p=bB (.lst (qs.map V.ref))->p∉qs->Kids K H S qs ds->DeepO K H S (p::qs) p (.list ds)
 |dct {p:Kg} {kvs:List (KX×Addr×V)} {ep:Nat} {qs:aw} {ds:ae}:H p=bB (DctO p kvs ep)->DenL K H S (kvs.map λp=>kxV p.1 p.2.1) (kvs.map λp=>kxD p.1)->kvs.map (·.2.2)=qs.map V.ref->p∉qs->Kids K H S qs ds->DeepO K H S (p::qs) p (.dict (dkv kvs ds))
section
variable {K:Kd}{H H':Hp}{S S':Av}{p:Kg}{d:Ka}{fp qs:aw}{ds:ae}
theorem Kids.same (e:Same H H')(h:Kids K H S qs ds):Kids K H' S qs ds:=by
 induction h with
 |nil=>exact .nil
 |cons h t n _ r=>exact .cons (e _ _ h) (t.same e) n r
theorem Kids.sub (e:∀a,H a≠bC->S' a->S a)(h:Kids K H S qs ds):Kids K H S' qs ds:=by
 induction h with
 |nil=>exact .nil
 |cons h t n _ r=>exact .cons h (t.sub e) n r
theorem Kids.mx (h:Kids K H S qs ds):Mx K H S qs (qs.map V.ref) ds:=by
 induction h with
 |nil=>exact .nil
 |cons h t n _ r=>exact .kid h t n r
theorem Mx.same {vs:List V}(e:Same H H')(h:Mx K H S qs vs ds):Mx K H' S qs vs ds:=by
 induction h with
 |nil=>exact .nil
 |kid h t n _ r=>exact .kid (e _ _ h) (t.same e) n r
 |flt a f _ r=>exact .flt (a.same e) f r
theorem Mx.sub {vs:List V}(e:∀a,H a≠bC->S' a->S a)(h:Mx K H S qs vs ds):Mx K H S' qs vs ds:=by
 induction h with
 |nil=>exact .nil
 |kid h t n _ r=>exact .kid h (t.sub e) n r
 |flt a f _ r=>exact .flt (a.sub e) f r
theorem Mx.mut {vs:List V}(h:Mx K H S qs vs ds)(q:Kg)(hq:q∈qs):∃o,H q=bB o/\J9 o=bD:=by
 induction h with
 |nil=>exact nomatch hq
 |kid h t n _ r=>exact(Ko.mp hq).elim (λe=>by rw[e];exact⟨_,h,rfl⟩) r
 |flt a f _ r=>exact r hq
theorem Kids.mut (h:Kids K H S qs ds):∀q∈qs,∃o,H q=bB o/\J9 o=bD:=h.mx.mut
theorem Mx.den {vs:List V}(e:∀a,H a≠bC->S' a->S a)(n:∀q∈qs,¬S' q)(h:Mx K H S qs vs ds):DenL K H S' vs ds:=by
 induction h with
 |nil=>exact .nil
 |kid h t _ _ r=>exact .cons (.list (SqLS.new h (n _ (.head _))) (t.sub e)) (r λq hq=>n q (.tail _ hq))
 |flt a f _ r=>exact .cons (a.sub e) (r n)
theorem Kids.den (e:∀a,H a≠bC->S' a->S a)(n:∀q∈qs,¬S' q)(h:Kids K H S qs ds):DenL K H S' (qs.map V.ref) ds:=h.mx.den e n
theorem Kids.upd {q:Kg}{o:HO}(m:Dm S H)(hq:S q)(n:q∉qs)(h:Kids K H S qs ds):Kids K (upd H q o) S qs ds:=by
 induction h with
 |nil=>exact .nil
 |cons h t n' _ r=>exact .cons (by rw[qK (λz=>n (by rw[z];exact .head _))];exact h) (t.off m λb u z e=>by rw[qK (λy=>z (by rw[y];exact hq))];exact e) n' (r λz=>n (.tail _ z))
theorem Mx.upd {q:Kg}{o:HO}{vs:List V}(m:Dm S H)(hq:S q)(n:q∉qs)(h:Mx K H S qs vs ds):Mx K (upd H q o) S qs vs ds:=by
 have off:Off S H (L2.upd H q o):=λb u z e=>by rw[qK (λy=>z (by rw[y];exact hq))];exact e
 induction h with
 |nil=>exact .nil
 |kid h t n' _ r=>exact .kid (by rw[qK (λz=>n (by rw[z];exact .head _))];exact h) (t.off m off) n' (r λz=>n (.tail _ z))
 |flt a f _ r=>exact .flt (a.off m off) f (r n)
theorem Mx.length {vs:List V}(h:Mx K H S qs vs ds):vs.length=ds.length:=by
 induction h with
 |nil=>rfl
 |kid _ _ _ _ r=>rw[Kv,Kv,r]
 |flt _ _ _ r=>rw[Kv,Kv,r]
theorem DeepO.same (e:Same H H')(h:DeepO K H S fp p d):DeepO K H' S fp p d:=by
 cases h with
 |tpl h t=>exact .tpl (e _ _ h) (t.same e)
 |lst h n t=>exact .lst (e _ _ h) n (t.same e)
 |dct h k v n t=>exact .dct (e _ _ h) (k.same e) v n (t.same e)
theorem DeepO.sub (e:∀a,H a≠bC->S' a->S a)(h:DeepO K H S fp p d):DeepO K H S' fp p d:=by
 cases h with
 |tpl h t=>exact .tpl h (t.sub e)
 |lst h n t=>exact .lst h n (t.sub e)
 |dct h k v n t=>exact .dct h (k.sub e) v n (t.sub e)
theorem DeepO.mut (h:DeepO K H S fp p d):∀q∈fp,∃o,H q=bB o/\J9 o=bD:=by
 cases h with
 |tpl h t=>exact t.mut
 |lst h n t=>exact λq hq=>(Ko.mp hq).elim (λe=>by rw[e];exact⟨_,h,rfl⟩) (t.mut q)
 |dct h k v n t=>exact λq hq=>(Ko.mp hq).elim (λe=>by rw[e];exact⟨_,h,rfl⟩) (t.mut q)
theorem DeepO.den (h:DeepO K H S fp p d)(n:∀q∈fp,¬S' q)(e:∀a,H a≠bC->S' a->S a):Den K H S' (.ref p) d:=by
 cases h with
 |tpl h t=>exact .tuple (.inl (.inl h)) (t.den e n)
 |lst h _ t=>exact .list (SqLS.new h (n _ (.head _))) (t.den e λq hq=>n q (.tail _ hq))
 |dct h k v _ t=>exact .dict ⟨h,n _ (.head _)⟩ (k.sub e) (by rw[v];exact t.den e λq hq=>n q (.tail _ hq))
theorem DeepO.upd (m:Dm S H)(h:DeepO K H S fp p d)(hq:S q)(ne:q∉fp):DeepO K (upd H q o) S fp p d:=by
 have off:Off S H (L2.upd H q o):=λb u n e=>by
  rw[qK (λz=>n (by rw[z];exact hq))];exact e
 cases h with
 |tpl h t=>exact .tpl (by rw[qK (λz=>m.tup (.inl h) (by rw[z];exact hq))];exact h) (t.upd m hq ne)
 |lst h n t=>exact .lst (by rw[qK (λz=>ne (by rw[z];exact .head _))];exact h) n (t.upd m hq λz=>ne (.tail _ z))
 |dct h k v n t=>exact .dct (by rw[qK (λz=>ne (by rw[z];exact .head _))];exact h) (k.off m off) v n (t.upd m hq λz=>ne (.tail _ z))
end
abbrev Flt (M:ao)(i:Nat):Prop:=i∈M/\i+1000∉M
abbrev Dp (M:ao)(i:Nat):Prop:=i∈M/\i+1000∈M
abbrev Out0 (M:ao)(i:Nat):Prop:=i∉M/\i+1000∉M/\i<1000
structure SubM (A B:ao):Prop where
 sub:∀i∈A,i∈B
 dp:∀i∈A,i+1000∈B->i+1000∈A
theorem SubM.flt (h:SubM A B)(q:Flt A i):Flt B i:=⟨h.sub i q.1,λz=>q.2 (h.dp i q.1 z)⟩
theorem SubM.deep (h:SubM A B)(q:Dp A i):Dp B i:=⟨h.sub i q.1,h.sub _ q.2⟩
def Has (ρ:Rho)(i:Nat):Prop:=∃d:Ka,ρ[i]?=bB (bB d)
structure DeepF (K:Kd)(G:Gm)(M:ao)(H:Hp)(S:Av)(σ:St)(ρ:Rho)(F:Nat->List Kg):Prop where
 own:∀i,Dp M i->∀d,ρ[i]?=bB (bB d)->∃p,σ[i]?=bB (bB (.ref p))/\DeepO K H S (F i) p d/\∀q∈F i,S q/\¬G.S0 q/\G.H0 q=bC
 disj:∀i,Dp M i->∀j,Dp M j->Has ρ i->Has ρ j->∀q,q∈F i->q∈F j->i=j
 flat:∀i,Flt M i->∀j,Dp M j->Has ρ i->Has ρ j->∀p,σ[i]?=bB (bB (.ref p))->p∉F j
structure OwnS (K:Kd)(G:Gm)(M L:ao)(H:Hp)(S:Av)(σ:St)(ρ:Rho):Prop where
 ds:DenS K H S M σ ρ
 s0:∀a,G.S0 a->S a
 h0:Same G.H0 H
 own:∀i,Flt M i->∀d,ρ[i]?=bB (bB d)->∃p,σ[i]?=bB (bB (.ref p))/\OwnO K H S p d/\S p/\¬G.S0 p/\(i∉L->G.H0 p=bC)/\(i∈L->(p,d)=G.lk i)
 apart:∀i,Flt M i->∀j,Flt M j->∀d e p,ρ[i]?=bB (bB d)->ρ[j]?=bB (bB e)->σ[i]?=bB (bB (.ref p))->σ[j]?=bB (bB (.ref p))->i=j
 bnd:∀a,S a->G.S0 a\/G.H0 a=bC\/∃i∈L,a=(G.lk i).1
 lkd:∀i∈L,Flt M i/\ρ[i]?=bB (bB (G.lk i).2)
 deep:∃F,DeepF K G M H S σ ρ F
section
variable {K:Kd}{G:Gm}{M M' L:ao}{H H':Hp}{S:Av}{σ:St}{ρ:Rho}{v:V}{d:Ka}
theorem OwnS.same (e:Same H H')(h:OwnS K G M L H S σ ρ):OwnS K G M L H' S σ ρ :=
 ⟨h.ds.same e,h.s0,h.h0.trans e,λi hi d q=>let ⟨p,a,b,c⟩:=h.own i hi d q;⟨p,a,b.same e,c⟩,h.apart,h.bnd,h.lkd,let ⟨F,f⟩:=h.deep;⟨F,λi hi d q=>let ⟨p,a,b,c⟩:=f.own i hi d q;⟨p,a,b.same e,c⟩,f.disj,f.flat⟩⟩
theorem OwnS.lks (h:OwnS K G M L H S σ ρ):∀i∈L,S (G.lk i).1:=λi hi=>by
 obtain⟨hm,e⟩:=h.lkd i hi
 obtain⟨p,_,_,c,_,_,w⟩:=h.own i hm _ e
 rw[←w hi];exact c
theorem OwnS.den (h:OwnS K G M L H S σ ρ):DenS K H G.S0 [] σ ρ:=by
 refine⟨h.ds.1.sub h.s0,h.ds.2.1,λi d _ q=>?_⟩
 by_cases hi:i∈M
 .by_cases hk:i+1000∈M
  .obtain⟨F,f⟩:=h.deep
   obtain⟨p,a,b,c⟩:=f.own i ⟨hi,hk⟩ d q
   exact⟨_,a,b.den (λq hq=>(c q hq).2.1) λa _ z=>h.s0 a z⟩
  .obtain⟨p,a,b,c,n,_⟩:=h.own i ⟨hi,hk⟩ d q
   exact⟨_,a,b.den n λa _ z=>h.s0 a z⟩
 .obtain⟨v,a,b⟩:=h.ds.2.2 i d hi q
  exact⟨v,a,b.sub λa _ z=>h.s0 a z⟩
theorem qC {α:Type}{xs:List α}{i j:Nat}{x:α}(h:i≠j):(xs.set i x)[j]?=xs[j]?:=UK h
theorem OwnS.set (h:OwnS K G M L H S σ ρ)(q:Den K H S v d){i:Nat}(hi:i∉M):OwnS K G M L H S (σ.set i (bB v)) (ρ.set i (bB d)):=by
 have ne:∀j∈M,i≠j:=λj hj e=>hi (by rw[e];exact hj)
 obtain⟨F,f⟩:=h.deep
 refine⟨h.ds.set q i,h.s0,h.h0,λj hj e he=>?_,λj hj k hk e e' p h1 h2 h3 h4=>?_,h.bnd,λj hj=>⟨(h.lkd j hj).1,by rw[qC (ne j (h.lkd j hj).1.1)];exact(h.lkd j hj).2⟩,F,λj hj e he=>?_,λj hj k hk h1 h2=>?_,λj hj k hk h1 h2 p h3=>?_⟩
 .rw[qC (ne j hj.1)]at he ⊢
  exact h.own j hj e he
 .rw[qC (ne j hj.1)]at h1 h3
  rw[qC (ne k hk.1)]at h2 h4
  exact h.apart j hj k hk e e' p h1 h2 h3 h4
 .rw[qC (ne j hj.1)]at he ⊢
  exact f.own j hj e he
 .unfold Has at h1 h2
  rw[qC (ne j hj.1)]at h1
  rw[qC (ne k hk.1)]at h2
  exact f.disj j hj k hk h1 h2
 .unfold Has at h1 h2
  rw[qC (ne j hj.1)]at h1 h3
  rw[qC (ne k hk.1)]at h2
  exact f.flat j hj k hk h1 h2 p h3
theorem OwnS.frz (h:OwnS K G M L H S σ ρ)(hs:SubM M' M)(hl:∀i∈L,i∈M->i∈M'):∃S',OwnS K G M' L H S' σ ρ:=by
 obtain⟨F,f⟩:=h.deep
 have sb:∀a,(S a/\(¬ ∃i,Flt M i/\i∉M'/\Has ρ i/\σ[i]?=bB (bB (.ref a)))/\¬ ∃i,Dp M i/\i∉M'/\Has ρ i/\a∈F i)->S a:=λa z=>z.1
 refine⟨λa=>S a/\(¬ ∃i,Flt M i/\i∉M'/\Has ρ i/\σ[i]?=bB (bB (.ref a)))/\¬ ∃i,Dp M i/\i∉M'/\Has ρ i/\a∈F i,⟨?_,?_,?_⟩,?_,h.h0,?_,?_,?_,λi hi=>⟨⟨hl i hi (h.lkd i hi).1.1,λz=>(h.lkd i hi).1.2 (hs.sub _ z)⟩,(h.lkd i hi).2⟩,F,?_,?_,?_⟩
 .exact h.ds.1.sub λa z=>z.1
 .exact h.ds.2.1
 .intro i d hi q
  by_cases hm:i∈M
  .by_cases hk:i+1000∈M
   .obtain⟨p,a,b,c⟩:=f.own i ⟨hm,hk⟩ d q
    exact⟨_,a,b.den (λr hr z=>z.2.2 ⟨i,⟨hm,hk⟩,hi,⟨d,q⟩,hr⟩) λa _ z=>z.1⟩
   .obtain⟨p,a,b,c,_⟩:=h.own i ⟨hm,hk⟩ d q
    exact⟨_,a,b.den (λz=>z.2.1 ⟨i,⟨hm,hk⟩,hi,⟨d,q⟩,a⟩) λa _ z=>z.1⟩
  .obtain⟨v,a,b⟩:=h.ds.2.2 i d hm q
   exact⟨v,a,b.sub λa _ z=>z.1⟩
 .intro a ha
  refine⟨h.s0 a ha,λ⟨i,hm,hi,⟨d,q⟩,e⟩=>?_,λ⟨i,hm,hi,⟨d,q⟩,e⟩=>?_⟩
  .obtain⟨p,e',b,c,n,_⟩:=h.own i hm d q
   rw[e]at e';cases e'
   exact n ha
  .obtain⟨p,e',b,c⟩:=f.own i hm d q
   exact(c a e).2.1 ha
 .intro i hi d q
  obtain⟨p,a,b,c,n,w,w'⟩:=h.own i (hs.flt hi) d q
  refine⟨p,a,b.sub λa _ z=>z.1,⟨c,λ⟨j,hj,dF,⟨e,q'⟩,a'⟩=>?_,λ⟨j,hj,dF,q',a'⟩=>?_⟩,n,w,w'⟩
  .have:=h.apart i (hs.flt hi) j hj d e p q q' a a'
   subst this
   exact dF hi.1
  .exact f.flat i (hs.flt hi) j hj ⟨d,q⟩ q' p a a'
 .exact λi hi j hj=>h.apart i (hs.flt hi) j (hs.flt hj)
 .exact λa z=>h.bnd a z.1
 .intro i hi d q
  obtain⟨p,a,b,c⟩:=f.own i (hs.deep hi) d q
  refine⟨p,a,b.sub λa _ z=>z.1,λr hr=>⟨⟨(c r hr).1,λ⟨j,hj,dF,q',a'⟩=>?_,λ⟨j,hj,dF,q',a'⟩=>?_⟩,(c r hr).2⟩⟩
  .exact f.flat j hj i (hs.deep hi) q' ⟨d,q⟩ r a' hr
  .have:=f.disj i (hs.deep hi) j hj ⟨d,q⟩ q' r hr a'
   subst this
   exact dF hi.1
 .exact λi hi j hj=>f.disj i (hs.deep hi) j (hs.deep hj)
 .exact λi hi j hj=>f.flat i (hs.flt hi) j (hs.deep hj)
theorem qkR (hi:Out0 M i)(hj:Flt M j):Flt (i::M) j:=⟨.tail _ hj.1,λz=>by rcases Ko.mp z with e|z;(have:=hi.2.2;omega);exact hj.2 z⟩
theorem wK (hj:Flt (i::M) j)(ne:i≠j):Flt M j:=⟨(Ko.mp hj.1).resolve_left λz=>ne z.symm,λz=>hj.2 (.tail _ z)⟩
theorem qe1 (hi:Out0 M i)(hj:Dp (i::M) j):Dp M j:=by
 have q:j+1000∈M:=(Ko.mp hj.2).resolve_left λz=>by have:=hi.2.2;omega
 refine⟨(Ko.mp hj.1).resolve_left λz=>hi.2.1 (by rw[←z];exact q),q⟩
theorem OwnS.take (h:OwnS K G M L H S σ ρ){p:Kg}{i:Nat}(hn:H p=bC)(e:Same H H')(o:OwnO K H' (insA S p) p d)(hi:Out0 M i)(hl:i∉L)(hz:i<ρ.length):OwnS K G (i::M) L H' (insA S p) (σ.set i (bB (.ref p))) (ρ.set i (bB d)):=by
 have np:¬S p:=h.ds.1.free hn
 have sub:∀a,H a≠bC->insA S p a->S a:=λa ha z=>by
  rcases z with z|rfl
  .exact z
  .exact absurd hn ha
 have ne:∀j∈M,i≠j:=λj hj e=>hi.1 (by rw[e];exact hj)
 have dO:i<σ.length:=by rw[h.ds.2.1];exact hz
 have gi:(ρ.set i (bB d))[i]?=bB (bB d):=Vv hz
 have kj:(σ.set i (bB (.ref p)))[i]?=bB (bB (.ref p)):=Vv dO
 obtain⟨F,f⟩:=h.deep
 refine⟨⟨(h.ds.1.same e).ins o.mut,by rw[Ub,Ub];exact h.ds.2.1,λj d' hj q=>?_⟩,λa z=>.inl (h.s0 a z),h.h0.trans e,λj hj d' q=>?_,λj hj k hk d1 d2 q h1 h2 h3 h4=>?_,λa z=>?_,λj hj=>⟨qkR hi (h.lkd j hj).1,by rw[qC (λz=>hl (by rw[z];exact hj))];exact(h.lkd j hj).2⟩,
  F,λj hj d' q=>?_,λj hj k hk h1 h2=>?_,λj hj k hk h1 h2 r h3=>?_⟩
 .have bY:i≠j:=λz=>hj (by rw[z];exact .head _)
  rw[qC bY]at q ⊢
  obtain⟨v,a,b⟩:=h.ds.2.2 j d' (λz=>hj (.tail _ z)) q
  exact⟨v,a,(b.sub sub).same e⟩
 .by_cases bY:i=j
  .subst bY
   rw[gi]at q;cases q
   exact⟨p,kj,o,.inr rfl,λz=>np (h.s0 p z),λ_=>h.h0.free hn,λz=>absurd z hl⟩
  .rw[qC bY]at q ⊢
   obtain⟨q',a,b,c,n,w⟩:=h.own j (wK hj bY) d' q
   exact⟨q',a,(b.sub sub).same e,.inl c,n,w⟩
 .have key:∀m,Flt M m->∀(d':Ka) (q:Kg),(ρ.set i (bB d))[m]?=bB (bB d')->(σ.set i (bB (.ref p)))[m]?=bB (bB (.ref q))->q≠p:=λm hm d' q e1 e2 z=>by
   rw[qC (ne m hm.1)]at e1 e2
   obtain⟨q',a,b,_⟩:=h.own m hm d' e1
   rw[e2]at a;cases a
   subst z
   exact b.dom hn
  by_cases ej:i=j
  .by_cases ek:i=k
   .rw[←ej,←ek]
   .rw[←ej,kj]at h3
    cases h3
    exact absurd rfl (key k (wK hk ek) d2 p h2 h4)
  .by_cases ek:i=k
   .rw[←ek,kj]at h4
    cases h4
    exact absurd rfl (key j (wK hj ej) d1 p h1 h3)
   .rw[qC ej]at h1 h3
    rw[qC ek]at h2 h4
    exact h.apart j (wK hj ej) k (wK hk ek) d1 d2 q h1 h2 h3 h4
 .rcases z with z|rfl
  .exact h.bnd a z
  .exact .inr (.inl (h.h0.free hn))
 .have dF:=qe1 hi hj
  rw[qC (ne j dF.1)]at q ⊢
  obtain⟨q',a,b,c⟩:=f.own j dF d' q
  exact⟨q',a,(b.sub sub).same e,λr hr=>⟨.inl (c r hr).1,(c r hr).2⟩⟩
 .have dF:=qe1 hi hj
  have fo:=qe1 hi hk
  unfold Has at h1 h2
  rw[qC (ne j dF.1)]at h1
  rw[qC (ne k fo.1)]at h2
  exact f.disj j dF k fo h1 h2
 .have fo:=qe1 hi hk
  unfold Has at h1 h2
  rw[qC (ne k fo.1)]at h2
  by_cases ej:i=j
  .rw[←ej,kj]at h3
   cases h3
   obtain⟨d2,e2⟩:=h2
   obtain⟨q',a,b,c⟩:=f.own k fo d2 e2
   intro z
   obtain⟨o2,z2,_⟩:=b.mut p z
   rw[hn]at z2;cases z2
  .rw[qC ej]at h1 h3
   exact f.flat j (wK hj ej) k fo h1 h2 r h3
def insL (S:Av)(fp:aw):Av:=λa=>S a\/a∈fp
theorem Dm.insL (m:Dm S H)(h:∀q∈fp,∃o,H q=bB o/\J9 o=bD):Dm (insL S fp) H:=λa ha=>by
 rcases ha with ha|ha
 .exact m a ha
 .exact h a ha
theorem qiu (hj:j∈i::(i+1000)::M)(ne:i≠j)(n2:j≠i+1000):j∈M:=(Ko.mp ((Ko.mp hj).resolve_left λz=>ne z.symm)).resolve_left n2
theorem WQ (hj:Flt (i::(i+1000)::M) j)(n2:j≠i+1000):i≠j/\Flt M j:=by
 have ne:i≠j:=λz=>hj.2 (by rw[←z];exact .tail _ (.head _))
 exact⟨ne,qiu hj.1 ne n2,λz=>hj.2 (.tail _ (.tail _ z))⟩
theorem qeC (hi:i<1000)(hj:Dp (i::(i+1000)::M) j)(ne:i≠j)(n2:j≠i+1000):Dp M j:=by
 refine⟨qiu hj.1 ne n2,?_⟩
 rcases Ko.mp hj.2 with z|z
 .omega
 .rcases Ko.mp z with z|z
  .omega
  .exact z
theorem qmj (hi:i<1000)(hj:Flt M j)(ne:i≠j):Flt (i::(i+1000)::M) j:=⟨.tail _ (.tail _ hj.1),λz=>by
 rcases Ko.mp z with z|z
 .omega
 .rcases Ko.mp z with z|z
  .omega
  .exact hj.2 z⟩
theorem qkU (h:Has ρ i):i<ρ.length:=by
 obtain⟨d,e⟩:=h
 exact(KW.mp e).1
theorem OwnS.takeD (h:OwnS K G M L H S σ ρ){p:Kg}{fp:aw}{i:Nat}(hn:∀q∈fp,H q=bC)(e:Same H H')(o:DeepO K H' (insL S fp) fp p d)(hi:Out0 M i)(hl:i∉L)(hz:i<ρ.length)(oY:ρ.length<=1000):
  OwnS K G (i::(i+1000)::M) L H' (insL S fp) (σ.set i (bB (.ref p))) (ρ.set i (bB d)):=by
 have sub:∀a,H a≠bC->insL S fp a->S a:=λa ha z=>by
  rcases z with z|z
  .exact z
  .exact absurd (hn a z) ha
 have dO:i<σ.length:=by rw[h.ds.2.1];exact hz
 have gi:(ρ.set i (bB d))[i]?=bB (bB d):=Vv hz
 have kj:(σ.set i (bB (.ref p)))[i]?=bB (bB (.ref p)):=Vv dO
 have n2:∀j,Has (ρ.set i (bB d)) j->j≠i+1000:=λj hj=>by
  have:=qkU hj
  rw[Ub]at this
  omega
 obtain⟨F,f⟩:=h.deep
 have k6:∀j,j≠i->(if j=i then fp else F j)=F j:=λj hj=>sk hj
 refine⟨⟨(h.ds.1.same e).insL o.mut,by rw[Ub,Ub];exact h.ds.2.1,λj d' hj q=>?_⟩,λa z=>.inl (h.s0 a z),h.h0.trans e,λj hj d' q=>?_,λj hj k hk d1 d2 q h1 h2 h3 h4=>?_,λa z=>?_,λj hj=>?_,
  λj=>if j=i then fp else F j,λj hj d' q=>?_,λj hj k hk h1 h2=>?_,λj hj k hk h1 h2 r h3=>?_⟩
 .have bY:i≠j:=λz=>hj (by rw[z];exact .head _)
  rw[qC bY]at q ⊢
  obtain⟨v,a,b⟩:=h.ds.2.2 j d' (λz=>hj (.tail _ (.tail _ z))) q
  exact⟨v,a,(b.sub sub).same e⟩
 .obtain⟨bY,dF⟩:=WQ hj (n2 j ⟨d',q⟩)
  rw[qC bY]at q ⊢
  obtain⟨q',a,b,c,n,w⟩:=h.own j dF d' q
  exact⟨q',a,(b.sub sub).same e,.inl c,n,w⟩
 .obtain⟨ej,dF⟩:=WQ hj (n2 j ⟨d1,h1⟩)
  obtain⟨ek,fo⟩:=WQ hk (n2 k ⟨d2,h2⟩)
  rw[qC ej]at h1 h3
  rw[qC ek]at h2 h4
  exact h.apart j dF k fo d1 d2 q h1 h2 h3 h4
 .rcases z with z|z
  .exact h.bnd a z
  .exact .inr (.inl (h.h0.free (hn a z)))
 .have ne:i≠j:=λz=>hl (by rw[z];exact hj)
  exact⟨qmj hi.2.2 (h.lkd j hj).1 ne,by rw[qC ne];exact(h.lkd j hj).2⟩
 .by_cases bY:i=j
  .subst bY
   rw[gi]at q;cases q
   rw[si rfl]
   exact⟨p,kj,o,λr hr=>⟨.inr hr,λz=>h.ds.1.free (hn r hr) (h.s0 r z),h.h0.free (hn r hr)⟩⟩
  .rw[k6 j (V6 bY)]
   have dF:=qeC hi.2.2 hj bY (n2 j ⟨d',q⟩)
   rw[qC bY]at q ⊢
   obtain⟨q',a,b,c⟩:=f.own j dF d' q
   exact⟨q',a,(b.sub sub).same e,λr hr=>⟨.inl (c r hr).1,(c r hr).2⟩⟩
 .have old:∀j,i≠j->Dp (i::(i+1000)::M) j->Has (ρ.set i (bB d)) j->Has ρ j/\Dp M j/\∀r∈F j,r∉fp:=λj ne hj h1=>by
   have dF:=qeC hi.2.2 hj ne (n2 j h1)
   unfold Has at h1
   rw[qC ne]at h1
   refine⟨h1,dF,λr hr z=>?_⟩
   obtain⟨d2,e2⟩:=h1
   obtain⟨q',a,b,c⟩:=f.own j dF d2 e2
   obtain⟨o2,z2,_⟩:=b.mut r hr
   rw[hn r z]at z2;cases z2
  intro r hr fm
  by_cases ej:i=j
  .by_cases ek:i=k
   .rw[←ej,←ek]
   .rw[si ej.symm]at hr
    rw[k6 k (V6 ek)]at fm
    exact absurd hr ((old k ek hk h2).2.2 r fm)
  .rw[k6 j (V6 ej)]at hr
   by_cases ek:i=k
   .rw[si ek.symm]at fm
    exact absurd fm ((old j ej hj h1).2.2 r hr)
   .rw[k6 k (V6 ek)]at fm
    exact f.disj j (old j ej hj h1).2.1 k (old k ek hk h2).2.1 (old j ej hj h1).1 (old k ek hk h2).1 r hr fm
 .obtain⟨ej,dF⟩:=WQ hj (n2 j h1)
  obtain⟨d1,e1⟩:=h1
  rw[qC ej]at e1 h3
  by_cases ek:i=k
  .rw[si ek.symm]
   intro z
   obtain⟨q',a,b,c⟩:=h.own j dF d1 e1
   rw[h3]at a;cases a
   exact b.dom (hn _ z)
  .rw[k6 k (V6 ek)]
   have fo:=qeC hi.2.2 hk ek (n2 k h2)
   unfold Has at h2
   rw[qC ek]at h2
   exact f.flat j dF k fo ⟨d1,e1⟩ h2 r h3
theorem OwnS.write (h:OwnS K G M L H S σ ρ){p:Kg}{i:Nat}{o:HO}{d₀:Ka}(hi:Flt M i)(hl:i∉L)(e0:ρ[i]?=bB (bB d₀))(e1:σ[i]?=bB (bB (.ref p)))(hm:J9 o=bD)(ow:OwnO K (upd H p o) S p d):OwnS K G M L (upd H p o) S σ (ρ.set i (bB d)):=by
 obtain⟨p',a,b,c,n,w,_⟩:=h.own i hi d₀ e0
 rw[e1]at a;cases a
 have off:Off S H (upd H p o):=λb u z e=>by
  rw[qK (λy=>z (by rw[y];exact c))];exact e
 have hz:i<ρ.length:=(KW.mp e0).1
 have get:∀m d',(ρ.set i (bB d))[m]?=bB (bB d')->∃nu,ρ[m]?=bB (bB nu):=λm d' q=>by
  by_cases k7:i=m
  .subst k7;exact⟨_,e0⟩
  .rw[qC k7]at q;exact⟨_,q⟩
 have dR:∀m,Has (ρ.set i (bB d)) m->Has ρ m:=λm ⟨d',q⟩=>get m d' q
 have ko:∀j,Dp M j->i≠j:=λj hj z=>hi.2 (by rw[z];exact hj.2)
 obtain⟨F,f⟩:=h.deep
 refine⟨⟨h.ds.1.upd hm,by rw[Ub];exact h.ds.2.1,λj d' hj q=>?_⟩,h.s0,λa u q=>?_,λj hj d' q=>?_,λj hj k hk d1 d2 q h1 h2 h3 h4=>?_,h.bnd,λj hj=>⟨(h.lkd j hj).1,by rw[qC (λz=>hl (by rw[z];exact hj))];exact(h.lkd j hj).2⟩,
  F,λj hj d' q=>?_,λj hj k hk h1 h2=>f.disj j hj k hk (dR j h1) (dR k h2),λj hj k hk h1 h2=>f.flat j hj k hk (dR j h1) (dR k h2)⟩
 .have bY:i≠j:=λz=>hj (by rw[←z];exact hi.1)
  rw[qC bY]at q
  obtain⟨v,a,b⟩:=h.ds.2.2 j d' hj q
  exact⟨v,a,b.off h.ds.1 off⟩
 .have:a≠p:=λz=>by subst z;rw[w hl]at q;cases q
  rw[qK this]
  exact h.h0 a u q
 .by_cases bY:i=j
  .subst bY
   rw[Vv hz]at q;cases q
   exact⟨p,e1,ow,c,n,w,λz=>absurd z hl⟩
  .rw[qC bY]at q
   obtain⟨q',a,b',c',n',w'⟩:=h.own j hj d' q
   have:q'≠p:=λz=>by subst z;exact bY (h.apart i hi j hj d₀ d' q' e0 q e1 a)
   exact⟨q',a,b'.upd h.ds.1 c hm this,c',n',w'⟩
 .obtain⟨x1,y1⟩:=get j d1 h1
  obtain⟨x2,y2⟩:=get k d2 h2
  exact h.apart j hj k hk x1 x2 q y1 y2 h3 h4
 .rw[qC (ko j hj)]at q
  obtain⟨q',a,b',c'⟩:=f.own j hj d' q
  exact⟨q',a,b'.upd h.ds.1 c (f.flat i hi j hj ⟨_,e0⟩ ⟨_,q⟩ p e1),c'⟩
theorem OwnS.writeD (h:OwnS K G M L H S σ ρ){F:Nat->List Kg}(f:DeepF K G M H S σ ρ F){p q2:Kg}{i:Nat}{o:HO}{d₀:Ka}(hi:Dp M i)(e0:ρ[i]?=bB (bB d₀))(e1:σ[i]?=bB (bB (.ref p)))(hq:q2∈F i)(hm:J9 o=bD)(ow:DeepO K (upd H q2 o) S (F i) p d):
  OwnS K G M L (upd H q2 o) S σ (ρ.set i (bB d)):=by
 obtain⟨p',a,b,cc⟩:=f.own i hi d₀ e0
 rw[e1]at a;cases a
 obtain⟨c,n,w⟩:=cc q2 hq
 have off:Off S H (upd H q2 o):=λb u z e=>by
  rw[qK (λy=>z (by rw[y];exact c))];exact e
 have hz:i<ρ.length:=(KW.mp e0).1
 have get:∀m d',(ρ.set i (bB d))[m]?=bB (bB d')->∃nu,ρ[m]?=bB (bB nu):=λm d' q=>by
  by_cases k7:i=m
  .subst k7;exact⟨_,e0⟩
  .rw[qC k7]at q;exact⟨_,q⟩
 have dR:∀m,Has (ρ.set i (bB d)) m->Has ρ m:=λm ⟨d',q⟩=>get m d' q
 have ko:∀j,Flt M j->i≠j:=λj hj z=>hj.2 (by rw[←z];exact hi.2)
 refine⟨⟨h.ds.1.upd hm,by rw[Ub];exact h.ds.2.1,λj d' hj q=>?_⟩,h.s0,λa u q=>?_,λj hj d' q=>?_,λj hj k hk d1 d2 q h1 h2 h3 h4=>?_,h.bnd,λj hj=>⟨(h.lkd j hj).1,by rw[qC (ko j (h.lkd j hj).1)];exact(h.lkd j hj).2⟩,
  F,λj hj d' q=>?_,λj hj k hk h1 h2=>f.disj j hj k hk (dR j h1) (dR k h2),λj hj k hk h1 h2=>f.flat j hj k hk (dR j h1) (dR k h2)⟩
 .have bY:i≠j:=λz=>hj (by rw[←z];exact hi.1)
  rw[qC bY]at q
  obtain⟨v,a,b⟩:=h.ds.2.2 j d' hj q
  exact⟨v,a,b.off h.ds.1 off⟩
 .have e2:=h.h0 a u q
  by_cases ne:a=q2
  .rw[ne,w]at q;cases q
  .rw[qK ne];exact e2
 .rw[qC (ko j hj)]at q
  obtain⟨q',a,b',c',n',w'⟩:=h.own j hj d' q
  exact⟨q',a,b'.upd h.ds.1 c hm (λz=>by subst z;exact f.flat j hj i hi ⟨_,q⟩ ⟨_,e0⟩ _ a hq),c',n',w'⟩
 .rw[qC (ko j hj)]at h1
  rw[qC (ko k hk)]at h2
  exact h.apart j hj k hk d1 d2 q h1 h2 h3 h4
 .by_cases bY:i=j
  .subst bY
   rw[Vv hz]at q;cases q
   exact⟨p,e1,ow,cc⟩
  .rw[qC bY]at q
   obtain⟨q',a,b',c'⟩:=f.own j hj d' q
   exact⟨q',a,b'.upd h.ds.1 c (λz=>bY (f.disj i hi j hj ⟨_,e0⟩ ⟨_,q⟩ _ hq z)),c'⟩
noncomputable def cut (P:Prop)(o:Option HO):Option HO:=@ite _ P (Classical.propDecidable P) bC o
theorem Wx (h:P):cut P o=bC:=si h
theorem qbP (h:¬P):cut P o=o:=sk h
noncomputable def Gm.base (G:Gm)(S:Av)(H:Hp):Gm:={ G with H0:=λa=>cut (S a/\G.H0 a=bC) (H a) }
theorem qfD (h:Same G.H0 H):Same G.H0 (G.base S H).H0:=λa o q=>(qbP (λz=>by rw[q]at z;cases z.2)).trans (h a o q)
theorem qgv:Off S H (G.base S H).H0:=λa o n q=>(qbP (λz=>n z.1)).trans q
theorem qiC:Same (G.base S H).H0 H:=λa o q=>by
 have q:cut (S a/\G.H0 a=bC) (H a)=bB o:=q
 by_cases h:S a/\G.H0 a=bC
 .rw[Wx h]at q;cases q
 .rw[qbP h]at q;exact q
theorem OwnS.base (h:OwnS K G M L H S σ ρ):OwnS K (G.base S H) M L H S σ ρ:=by
 obtain⟨F,f⟩:=h.deep
 refine⟨h.ds,h.s0,qiC,λi hi d q=>?_,h.apart,λa z=>?_,h.lkd,F,λi hi d q=>let ⟨p,a,b,c⟩:=f.own i hi d q;⟨p,a,b,λr hr=>⟨(c r hr).1,(c r hr).2.1,Wx ⟨(c r hr).1,(c r hr).2.2⟩⟩⟩,f.disj,f.flat⟩
 .obtain⟨p,a,b,c,n,w,w'⟩:=h.own i hi d q
  exact⟨p,a,b,c,n,λhl=>Wx ⟨c,w hl⟩,w'⟩
 .rcases h.bnd a z with y|y|y
  .exact .inl y
  .exact .inr (.inl (Wx ⟨z,y⟩))
  .exact .inr (.inr y)
theorem OwnS.unbase {G':Gm}(s:Same G.H0 G'.H0)(e:G'.S0=G.S0)(e':G'.lk=G.lk)(h:OwnS K G' M L H S σ ρ):OwnS K G M L H S σ ρ:=by
 obtain⟨F,f⟩:=h.deep
 refine⟨h.ds,by rw[←e];exact h.s0,s.trans h.h0,λi hi d q=>?_,h.apart,λa z=>?_,by rw[←e'];exact h.lkd,F,λi hi d q=>let ⟨p,a,b,c⟩:=f.own i hi d q;⟨p,a,b,λr hr=>⟨(c r hr).1,by rw[←e];exact(c r hr).2.1,s.free (c r hr).2.2⟩⟩,f.disj,f.flat⟩
 .obtain⟨p,a,b,c,n,w,w'⟩:=h.own i hi d q
  exact⟨p,a,b,c,by rw[←e];exact n,λhl=>s.free (w hl),by rw[←e'];exact w'⟩
 .rcases h.bnd a z with y|y|y
  .exact .inl (by rw[←e];exact y)
  .exact .inr (.inl (s.free y))
  .exact .inr (.inr (by rw[←e'];exact y))
theorem OwnS.turn {G':Gm}  (s0:∀a,G'.S0 a->S a) (sl:∀i∈L,S (G'.lk i).1) (h:OwnS K G' M L H S' σ ρ) (q:Den K G'.H0 S x d):Den K H S' x d:=by
 refine(q.sub λa ha z=>?_).same h.h0
 rcases h.bnd a z with y|y|⟨i,hi,rfl⟩
 .exact s0 a y
 .exact absurd y ha
 .exact sl i hi
end
inductive Fr where
 |pl|nw|dp
def OutQ (K:Kd)(G:Gm)(M' Mb L:ao)(fr:Fr)(D:Ends):Out->Prop
 |.nx ρ=>∀ σ' H' S',OwnS K G M' L H' S' σ' ρ->D.nx σ' H'
 |.rt d=>match fr with
  |.nw=>∀p H',Same G.H0 H'->G.H0 p=bC->¬G.S0 p->OwnO K H' (insA G.S0 p) p d->D.rt (.ref p) H'
  |.dp=>∀p fp H',Same G.H0 H'->(∀q∈fp,G.H0 q=bC/\¬G.S0 q)->DeepO K H' (insL G.S0 fp) fp p d->D.rt (.ref p) H'
  |.pl=>∀v H',Same G.H0 H'->Den K H' G.S0 v d->D.rt v H'
 |.bk ρ=>∀ σ' H' S',OwnS K G Mb L H' S' σ' ρ->D.bk σ' H'
 |.ct ρ=>∀ σ' H' S',OwnS K G Mb L H' S' σ' ρ->D.ct σ' H'
def tDS (K:Kd)(G:Gm)(M L M' Mb:ao)(fr:Fr)(f:ak):TS:=λD σ H=>∃S ρ o,OwnS K G M L H S σ ρ/\f ρ=bB o/\OutQ K G M' Mb L fr D o
def PDS (X:Cx)(G:Gm)(M L M' Mb:ao)(fr:Fr)(s:Ve)(f:ak):Prop:=PS X s (tDS X.K G M L M' Mb fr f)
def PDSs (X:Cx)(G:Gm)(M L M' Mb:ao)(fr:Fr)(s:bz)(f:ak):Prop:=PSs X s (tDS X.K G M L M' Mb fr f)
def tF (K:Kd)(M:ao)(f:aa):TE:=λσ H Q=>∃S ρ d,DenS K H S M σ ρ/\f ρ=bB d/\∀p H',Same H H'->H p=bC->OwnO K H' (insA S p) p d->Q (.ref p) H'
def PF (X:Cx)(M:ao)(e:KI)(f:aa):Prop:=PE X e (tF X.K M f)
def qe5 (f:aa):Rho->Option Ka:=λρ=>ob (f ρ) λd=>if flat d=bD then bB d else bC
noncomputable def flatO:Ka->Bool
 |.list ds=>jm ds
 |_=>bE
def seqO (u w:ak)(ρ:Rho):Option Out:=ob (u ρ) λo=>match o with | .nx ρ'=>w ρ'|o=>bB o
section
variable {X:Cx}{G:Gm}{M M1 M2 M' Mb L:ao}{fr:Fr}{a b c:KI}{es:aH}{f g:aa}{p:aj}{pos:Pos}{s1:Ve}{ss kX fj:bz}{u w:ak}
theorem jL (h:PF X M a f):PD X M a f:=h.weak λσ H Q ⟨S,ρ,d,hs,e,q⟩=>⟨S,ρ,d,hs,e,λp H' g n o=>q _ H' g (o.den (hs.1.free n) λa _ z=>.inl z)⟩
theorem qZ:PDSs X G M L M Mb fr [] sN:=qjL.weak λD σ H ⟨S,ρ,o,hs,e,q⟩=>by cases e;exact q σ H S hs
theorem qg (h1:PDS X G M L M1 Mb fr s1 u)(h2:PDSs X G M1 L M2 Mb fr ss w):PDSs X G M L M2 Mb fr (s1::ss) (seqO u w) :=
 (qh9 h1 h2).weak λD σ H ⟨S,ρ,o,hs,e,q⟩=>by
  obtain⟨o1,e1,e⟩:=qe e
  refine⟨S,ρ,o1,hs,e1,?_⟩
  cases o1 with
  |nx ρ'=>exact λσ' H' S' c7=>⟨S',ρ',o,c7,e,q⟩
  |rt d=>cases e;exact q
  |bk d=>cases e;exact q
  |ct d=>cases e;exact q
theorem ql (h1:PDS X G M L M' Mb fr s1 u):PDSs X G M L M' Mb fr [s1] u:=qjM h1
def subB (A B:ao):Bool:=A.all λi=>B.contains i&&(!(B.contains (i+1000))||A.contains (i+1000))
theorem qil (h:subB A B=bD):∀i∈A,i∈B:=λi hi=>by
 have:=KN.mp h i hi
 rw[KF]at this
 simpa using this.1
theorem qj3 (h:subB A B=bD):SubM A B:=⟨qil h,λi hi hk=>by
 have:=KN.mp h i hi
 rw[KF,NS]at this
 rcases this.2 with z|z
 .rw[Bool.not_eq_true',←Bool.not_eq_true]at z
  exact absurd (by simpa using hk) z
 .simpa using z⟩
theorem qgb (h:PDS X G M1 L M' Mb fr s1 u)(h1:subB M1 M=bD:=by decide)(h2:subB L M1=bD:=by decide):PDS X G M L M' Mb fr s1 u :=
 h.weak λD σ H ⟨S,ρ,o,hs,e,q⟩=>let ⟨S',c7⟩:=hs.frz (qj3 h1) λi hi _=>qil h2 i hi;⟨S',ρ,o,c7,e,q⟩
theorem qD (h:PD X [] a f):PDS X G M L M' Mb .pl (.Return (bB a) pos) (sRet f) :=
 (qh7 h).weak λD σ H ⟨S,ρ,o,hs,e,q⟩=>by
  obtain⟨d,e1,e⟩:=qe e
  cases e
  exact⟨G.S0,ρ,d,hs.den,e1,λv H' g1 d1=>q v H' (hs.h0.trans g1) d1⟩
theorem qhN (h:PF X [] a f):PDS X G M L M' Mb .nw (.Return (bB a) pos) (sRet f) :=
 (qh7 h).weak λD σ H ⟨S,ρ,o,hs,e,q⟩=>by
  obtain⟨d,e1,e⟩:=qe e
  cases e
  exact⟨G.S0,ρ,d,hs.den,e1,λp H' g1 n o=>q p H' (hs.h0.trans g1) (hs.h0.free n) (hs.den.1.free n) o⟩
theorem qct (i:Nat)(hv:Vis X.env.scope x)(hN:X.N[i]?=bB x:=by rfl)(hd:(x==("__debug__" : Str))=bE:=by decide +kernel)
  (dD:(x==("__classdict__" : Str))=bE:=by decide +kernel):PE X (.Name x pos) (λσ H Q=>∃v,σ[i]?=bB (bB v)/\Q v H):=qhS hN hv hd dD
theorem jY  (e:vr i ρ=bB d):ρ[i]?=bB (bB d):=by
 have e:(ρ[i]?).join=bB d:=e
 cases h:ρ[i]? with
 |none=>rw[h]at e;cases e
 |some o=>rw[h]at e;exact congrArg bB e
theorem zu (hc:PDT X [] c p)(h1:PDSs X G M L M' Mb fr kX u)(h2:PDSs X G M L M' Mb fr fj w):PDS X G M L M' Mb fr (.If c kX fj pos) (sIf p u w) :=
 (ps_if hc h1 h2).weak λD σ H ⟨S,ρ,o,hs,e,q⟩=>by
  obtain⟨d,e1,e⟩:=qe e
  refine⟨G.S0,ρ,d,hs.den,e1,λH1 g1=>?_⟩
  cases d with
  |true=>exact iteT ⟨S,ρ,o,hs.same g1,e,q⟩
  |false=>exact iteF ⟨S,ρ,o,hs.same g1,e,q⟩
theorem qcs:PDS X G Mb L M' Mb fr (.Continue pos) sCt:=qdG.weak λD σ H ⟨S,ρ,o,hs,e,q⟩=>by cases e;exact q σ H S hs
def tDG (K:Kd)(G:Gm)(M L:ao)(g:af):TG:=λv σ H Q=>∃S ρ d ρ',OwnS K G M L H S σ ρ/\Den K H S v d/\g d ρ=bB ρ'/\∀ σ' H',Same H H'->OwnS K G M L H' S σ' ρ'->Q σ' H'
def tDGs (K:Kd)(G:Gm)(M L:ao)(g:az):TGs:=λvs σ H Q=>∃S ρ ds ρ',OwnS K G M L H S σ ρ/\DenL K H S vs ds/\g ds ρ=bB ρ'/\∀ σ' H',Same H H'->OwnS K G M L H' S σ' ρ'->Q σ' H'
def PDG (X:Cx)(G:Gm)(M L:ao)(t:KI)(g:af):Prop:=PG X t (tDG X.K G M L g)
def PDGs (X:Cx)(G:Gm)(M L:ao)(t:aH)(g:az):Prop:=PGs X t (tDGs X.K G M L g)
theorem qhK (i:Nat)(hN:X.N.Nodup)(hx:Loc X.env.scope x)(hM:i∉M)(hi:X.N[i]?=bB x:=by rfl)(hf:X.fn x=bD\/X.env.scope.names.lookup x=bB .local:=by first|exact .inl rfl|exact .inr rfl|assumption):PDG X G M L (.Name x pos) (gNm i) :=
 (qfn hN hi hx hf).weak λv σ H Q ⟨S,ρ,d,ρ',hs,hd,e,q⟩=>by
  cases e
  exact q _ H (Same.refl H) (hs.set hd hM)
theorem Ze:PDGs X G M L [] gsN :=
 qfo.weak λv σ H Q ⟨S,ρ,d,ρ',hs,hd,e,q⟩=>by
  cases hd with
  |nil=>cases e;exact⟨rfl,q _ H (Same.refl H) hs⟩
  |cons a t=>cases e
theorem zg  (h1:PDG X G M L t g1) (h2:PDGs X G M L ts g2) (hs:(sI (t::ts) X.env).map (·.2)=assign t X.env::(sI ts X.env).map (·.2):=by rfl):
  PDGs X G M L (t::ts) (gsC g1 g2) :=
 (qdC h1 h2 hs).weak λv σ H Q ⟨S,ρ,d,ρ',hs,hd,e,q⟩=>by
  cases hd with
  |nil=>cases e
  |cons a t =>
   obtain⟨ρ1,e1,e⟩:=qe e
   exact⟨_,_,rfl,S,ρ,_,ρ1,hs,a,e1,λσ' H' g1 c7=>⟨S,ρ1,_,ρ',c7,t.same g1,e,λσ2 H2 g2 dI=>q σ2 H2 (g1.trans g2) dI⟩⟩
theorem Z7 {ts:aH}{k:Nat}{n:Nat}{g:az}(hc:X.calm=bD)(h:PDGs X G M L ts g)(hn:(sI ts X.env).length=n:=by rfl)(hU:(sI ts X.env).findIdx? (·.1)=bC:=by rfl):PDG X G M L (.Tuple ts k pos) (unpD n g) :=
 (qhY hc h hn hU).weak λv σ H Q ⟨S,ρ,d,ρ',hs,hd,e,q⟩=>by
  cases hd with
  | @tuple a xs ds h t =>
   have e:(if ds.length=n then g ds ρ else bC)=bB ρ':=e
   split at e
   .rename_i hl
    exact⟨_,_,rfl,h,by rw[t.length];exact hl,S,ρ,_,ρ',hs,t,e,q⟩
   .cases e
  |_=>cases e
theorem WN {tg:KI}{g:af}(he:PD X M a f)(hg:PDG X G M L tg g)(hs:swapsWithSole [tg] a pos.line X.env=pure bE:=by rfl)(hw:swappedStores [tg] a X.env=pure bC:=by rfl)
  (h1:(sI [tg] X.env).map (·.2)=[assign tg X.env]:=by rfl):PDS X G M L M Mb fr (.Assign [tg] a pos) (sAsg f g) :=
 (qh5 he hg hs hw h1).weak λD σ H ⟨S,ρ,o,hs,e,q⟩=>by
  obtain⟨d,e1,e⟩:=qe e
  obtain⟨ρ',e2,e⟩:=qe e
  cases e
  exact⟨S,ρ,d,hs.ds,e1,λv H1 g1 d1=>⟨S,ρ,d,ρ',hs.same g1,d1,e2,λσ2 H2 g2 dI=>q σ2 H2 S dI⟩⟩
theorem qI (i:Nat)(hN:X.N.Nodup)(hx:Loc X.env.scope x)(hi:X.N[i]?=bB x)(hs:sX a (bB (.Name x p')) pos.line X.env=pure bE)(hf:X.fn x=bD\/X.env.scope.names.lookup x=bB .local)(hM:i∉M)(he:PD X M a f):
  PDS X G M L M Mb fr (.Assign [.Name x p'] a pos) (sSet i f) :=
 (qcv hN hi hx he hs hf).weak λD σ H ⟨S,ρ,o,hs,e,q⟩=>by
  obtain⟨d,e1,e⟩:=qe e
  cases e
  exact⟨S,ρ,d,hs.ds,e1,λv H1 g1 d1=>q _ H1 S ((hs.same g1).set d1 hM)⟩
theorem qhO (i:Nat)(hN:X.N.Nodup)(hx:Loc X.env.scope x)(hi:X.N[i]?=bB x)(hs:sX a (bB (.Name x p')) pos.line X.env=pure bE)(hf:X.fn x=bD\/X.env.scope.names.lookup x=bB .local)(hM:i∉M)(he:PD X [] a f):
  PDS X G M L M Mb fr (.Assign [.Name x p'] a pos) (sSet i (qe5 f)) :=
 (qcv hN hi hx he hs hf).weak λD σ H ⟨S,ρ,o,hs,e,q⟩=>by
  obtain⟨d,e1,e⟩:=qe e
  cases e
  obtain⟨d',e3,e4⟩:=qe e1
  split at e4
  .rename_i hf
   cases e4
   exact⟨G.S0,ρ,d,hs.den,e3,λv H1 g1 d1=>q _ H1 S ((hs.same g1).set (d1.flat hf) hM)⟩
  .cases e4
def QW (i:Nat)(f:aa):Rho->Option Out:=λρ=>if i<ρ.length then ob (f ρ) λd=>bB (.nx (ρ.set i (bB d))) else bC
theorem Qj (i:Nat)(hN:X.N.Nodup)(hx:Loc X.env.scope x)(hi:X.N[i]?=bB x)(hs:sX a (bB (.Name x p')) pos.line X.env=pure bE)(hf:X.fn x=bD\/X.env.scope.names.lookup x=bB .local)(hM:Out0 M i)(hL:i∉L)(he:PF X M a f):
  PDS X G M L (i::M) Mb fr (.Assign [.Name x p'] a pos) (QW i f) :=
 (qcv hN hi hx he hs hf).weak λD σ H ⟨S,ρ,o,hs,e,q⟩=>by
  unfold QW at e
  split at e
  .rename_i hz
   obtain⟨d,e1,e⟩:=qe e
   cases e
   exact⟨S,ρ,d,hs.ds,e1,λp H1 g1 n o=>q _ H1 _ (hs.take n g1 o hM hL hz)⟩
  .cases e
def forD (g:af)(body:ak):List Ka->Rho->Option Out
 |[],ρ=>bB (.nx ρ)
 |d::ds,ρ=>ob (g d ρ) λρ1=>ob (body ρ1) λo=>match o with
  |.nx ρ'=>forD g body ds ρ'
  |.ct ρ'=>forD g body ds ρ'
  |.bk ρ'=>bB (.nx ρ')
  |.rt r=>bB (.rt r)
def sFor (fi:ai)(g:af)(u:ak):Rho->Option Out:=λρ=>ob (fi ρ) λds=>forD g u ds ρ
theorem OutQ.based {K:Kd}{G':Gm}{D:Ends}{o:Out}(s:Same G.H0 G'.H0)(e:G'.S0=G.S0)(e':G'.lk=G.lk)(q:OutQ K G M' Mb L fr D o):OutQ K G' M' Mb L fr D o:=by
 cases o with
 |nx ρ=>exact λσ' H' S' hs=>q σ' H' S' (hs.unbase s e e')
 |rt d =>
  cases fr with
  |nw=>exact λp H' h0 n n' o=>q p H' (s.trans h0) (s.free n) (by rw[←e];exact n') (by rw[←e];exact o)
  |dp=>exact λp fp H' h0 n o=>q p fp H' (s.trans h0) (λr hr=>⟨s.free (n r hr).1,by rw[←e];exact(n r hr).2⟩) (by rw[←e];exact o)
  |pl=>exact λv H' h0 d=>q v H' (s.trans h0) (by rw[←e];exact d)
 |bk ρ=>exact λσ' H' S' hs=>q σ' H' S' (hs.unbase s e e')
 |ct ρ=>exact λσ' H' S' hs=>q σ' H' S' (hs.unbase s e e')
theorem QH {tg iter:KI}{body:bz}{fi:ai}{g:af}(hp:ET (model X.prog X.w) X.A X.env X.xe)(hc:X.calm=bD)(hi:PDI X M tg iter fi)(hg:∀G,PDG X G M L tg g)(hb:∀G,PDSs X G M L M M fr body u)
  (hs:∀x,sD iter X.env x=pure x:=by intro _;rfl):PDS X G M L M Mb fr (.For tg iter body [] pos) (sFor fi g u):=by
 have hg':PG X tg (λv σ H Q=>∃G,tDG X.K G M L g v σ H Q):=λsd s σ H v u Q I r ⟨G,q⟩=>hg G sd s σ H v u Q I r q
 have du:PSs X body (λD σ H=>∃G,tDS X.K G M L M M fr u D σ H):=λsd s σ H D I ⟨G,q⟩=>hb G sd s σ H D I q
 refine(qh6 hp hc hi hg' du hs).weak λD σ H ⟨S,ρ,o,os,e,q⟩=>?_
 obtain⟨ds,e1,e⟩:=qe e
 refine⟨S,ρ,ds,os.ds,e1,λJ H1 g1 kZ=>?_⟩
 have cW:=os.same g1
 have hJ:IsIt X.K S J ((G.base S H1).H0) ds:=kZ _ qgv
 have bs:Same G.H0 (G.base S H1).H0:=qfD cW.h0
 have bo:=cW.base
 have sl:=cW.lks
 generalize hG:G.base S H1=G1 at hJ bs bo
 have eS:G1.S0=G.S0:=by rw[←hG];rfl
 have eL:G1.lk=G.lk:=by rw[←hG];rfl
 have sl1:∀i∈L,S (G1.lk i).1:=by rw[eL];exact sl
 have s01:∀a,G1.S0 a->S a:=by rw[eS];exact os.s0
 refine⟨λi m σ' H'=>m=ds.length-i/\i<=ds.length/\∃S' ρ o,OwnS X.K G1 M L H' S' σ' ρ/\forD g u (ds.drop i) ρ=bB o/\OutQ X.K G M Mb L fr D o,⟨ds.length,by simp,Vr _,S,ρ,o,bo,e,q⟩,?_⟩
 rintro i m σ' H' ⟨rfl,hi,S',ρ',o',c7,e',q'⟩
 by_cases bK:i<ds.length
 .rw[VD bK]at e'
  obtain⟨ρ1,e2,e'⟩:=qe e'
  obtain⟨o1,e3,e'⟩:=qe e'
  have key:∀N:St->Hp->Prop,OutQ X.K G1 M M L fr { D with nx:=N,ct:=N,bk:=D.nx } o1->∀x H2,J.yld i H' x H2->∃G,tDG X.K G M L g x σ' H2 λσ2 H2=>∃G,tDS X.K G M L M M fr u { D with nx:=N,ct:=N,bk:=D.nx } σ2 H2:=λN hN x H2 y=>by
   obtain⟨e4,yd⟩:=hJ.yld i H' x H2 c7.h0 y
   exact⟨G1,S',ρ',_,ρ1,c7.same e4,yd _ (Kj bK) S' λy e q=>(c7.turn s01 sl1 q).same e4,e2,λσ2 H3 g3 cQ=>⟨G1,S',ρ1,o1,cQ,e3,hN⟩⟩
  refine .inr ⟨hJ.go i H' c7.h0 bK,?_⟩
  have next:∀ ρ2,forD g u (ds.drop (i+1)) ρ2=bB o'->∃N:St->Hp->Prop,(∀ σ' ig,N σ' ig->∃m',m'<ds.length-i/\(m'=ds.length-(i+1)/\i+1<=ds.length/\∃S' ρ o,OwnS X.K G1 M L ig S' σ' ρ/\forD g u (ds.drop (i+1)) ρ=bB o/\OutQ X.K G M Mb L fr D o))/\∀ σ2 H2 S2,OwnS X.K G1 M L H2 S2 σ2 ρ2->N σ2 H2:=λρ2 e4 =>
   ⟨λσ2 H2=>∃S2,OwnS X.K G1 M L H2 S2 σ2 ρ2,λσ2 H2 ⟨S2,cQ⟩=>⟨ds.length-(i+1),by omega,rfl,bK,S2,ρ2,o',cQ,e4,q'⟩,λσ2 H2 S2 cQ=>⟨S2,cQ⟩⟩
  cases o1 with
  |nx ρ2 =>
   obtain⟨N,n1,n2⟩:=next ρ2 e'
   exact⟨N,n1,key N λσ3 H3 S3 cQ=>n2 σ3 H3 S3 cQ⟩
  |ct ρ2 =>
   obtain⟨N,n1,n2⟩:=next ρ2 e'
   exact⟨N,n1,key N λσ3 H3 S3 cQ=>n2 σ3 H3 S3 cQ⟩
  |bk ρ2 =>
   cases e'
   exact⟨λ_ _=>False,λ_ _ z=>z.elim,key _ λσ3 H3 S3 cQ=>q' σ3 H3 S3 (cQ.unbase bs eS eL)⟩
  |rt r =>
   cases e'
   refine⟨λ_ _=>False,λ_ _ z=>z.elim,key _ ?_⟩
   have q2:OutQ X.K G1 M Mb L fr D (.rt r):=q'.based bs eS eL
   exact q2
 .have dm:i=ds.length:=by omega
  subst dm
  rw[Xk]at e'
  cases e'
  exact .inl ⟨hJ.stop H' c7.h0,q' σ' H' S' (c7.unbase bs eS eL)⟩
end
noncomputable def outD:Out->Option Ka
 |.rt d=>bB d
 |.nx _=>bB .none
 |_=>bC
noncomputable def outF:Out->Option Ka
 |.rt d=>bB d
 |_=>bC
def rho0 (n:Nat)(ds:ae):Rho:=ds.map bB++Kk (n-ds.length) bC
def G0 (H:Hp)(S:Av):Gm:=⟨H,S,λ_=>(0,.none)⟩
theorem OwnS.start {K:Kd}{H:Hp}{S:Av}{vs:List V}{ds:ae}(m:Dm S H)(h:DenL K H S vs ds)(N:aA):OwnS K (G0 H S) [] [] H S (start N vs) (rho0 N.length ds) :=
 ⟨DenS.start m h N,λ_ z=>z,Same.refl _,(λ_ h=>nomatch h.1),(λ_ h=>nomatch h.1),λ_ z=>.inl z,(λ_ h=>nomatch h),λ_=>[],(λ_ h=>nomatch h.1),(λ_ h=>nomatch h.1),(λ_ h=>nomatch h.1)⟩
def spN (K:Kd)(n:Nat)(f:av):Sp:=λvs H Q _=>∃S ds d,Dm S H/\DenL K H S vs ds/\ds.length=n/\f ds=bB d/\∀p H',Same H H'->H p=bC->OwnO K H' (insA S p) p d->Q (.ref p) H'
structure FunG (K:Kd)(x qual:Str)(st:Ve)(f:Kg)(fd:VW):Prop where
 ex:∃(oc dV:Ke) (od:aO) (kV doc pm:Ke) (an:aO) (cdv ct:Ke) (osl:au),
  fd=UL x qual (jT st) (Q0 st) (qj st) dV kV doc pm an cdv ct/\K.lookup f=bB ⟨oc,od,.func fd,osl⟩/\XJ K cdv qual=bD
 kp:UD K (.ref f)=bD
theorem Fun.g {K:Kd}{x qual:Str}{st:Ve}{f:Kg}{fd:VW}(F:Fun K x qual st f fd):FunG K x qual st f fd:=by
 obtain⟨oc,od,kV,doc,pm,an,cdv,ct,osl,e,lk,dD⟩:=F.ex
 exact⟨⟨oc,_,od,kV,doc,pm,an,cdv,ct,osl,e,lk,dD⟩,F.kp⟩
section
variable {P:KO}{w:K0}{K:Kd}{mg:aq}{base:K4}
theorem FunG.ok {x qual:Str}{st:Ve}{f:Kg}{fd:VW}{N ps:aA}{k:Nat}{sp:Sp}(F:FunG K x qual st f fd)(S:FnScope N ps (qj st))(len:∀vs H Q E,sp vs H Q E->vs.length=ps.length)
  (cT:∀(cdv:Ke) (A:KZ) (outer:bc) (s:Kf) (H:Hp) (vs:List V) (Q:VK) (E:XK),Room k (A.deeper (tK qual (qj st) s.heap.objs.size f cdv))->sp vs H Q E->
   ∃t,PSs (cxOf CX0 P w K mg base N qual (qj st) f cdv A outer s H E).nox (Q0 st) t/\t { nx:=λ_ H'=>Q .non H',rt:=Q } (start N vs) H):FnOk P w K mg base CX0 (k+1) f fd ps sp:=by
 obtain⟨oc,dV,od,kV,doc,pm,an,cdv,ct,osl,rfl,lk,dD⟩:=F.ex
 refine fn_of lk dD S len λA outer s H vs Q E hr ke=>?_
 obtain⟨t,h,q⟩:=cT cdv A outer s H vs Q E hr ke
 exact⟨t,h.nox,q⟩
theorem FunG.pure {x qual:Str}{st:Ve}{f:Kg}{fd:VW}{N ps:aA}{k n:Nat}{u:ak}{M':ao}(F:FunG K x qual st f fd)(S:FnScope N ps (qj st))(hn:ps.length=n)
  (cT:∀(cdv:Ke) (A:KZ) (outer:bc) (s:Kf) (H:Hp) (E:XK),Room k (A.deeper (tK qual (qj st) s.heap.objs.size f cdv))->∀G:Gm,
   PDSs (cxOf CX0 P w K mg base N qual (qj st) f cdv A outer s H E).nox G [] [] M' [] .pl (Q0 st) u):
  FnOk P w K mg base CX0 (k+1) f fd ps (spF K n λds=>ob (u (rho0 N.length ds)) outD):=by
 refine F.ok S (λvs H Q E h=>?_) (λcdv A outer s H vs Q E hr h=>?_)
 .obtain⟨_,ds,d,_,h1,h2,_⟩:=h
  rw[h1.length,h2,hn]
 .obtain⟨Sv,ds,d,m,h1,h2,e,q⟩:=h
  obtain⟨o,e1,e⟩:=qe e
  refine⟨_,cT cdv A outer s H E hr (G0 H Sv),Sv,rho0 N.length ds,o,OwnS.start m h1 N,e1,?_⟩
  cases o with
  |rt r=>cases e;exact q
  |nx ρ=>cases e;exact λσ' H' S' hs=>q _ H' hs.h0 .none
  |bk ρ=>cases e
  |ct ρ=>cases e
theorem Fun.pure {x qual:Str}{st:Ve}{f:Kg}{fd:VW}{N ps:aA}{k n:Nat}{u:ak}{M':ao}(F:Fun K x qual st f fd)(S:FnScope N ps (qj st))(hn:ps.length=n)
  (cT:∀(cdv:Ke) (A:KZ) (outer:bc) (s:Kf) (H:Hp) (E:XK),Room k (A.deeper (tK qual (qj st) s.heap.objs.size f cdv))->∀G:Gm,
   PDSs (cxOf CX0 P w K mg base N qual (qj st) f cdv A outer s H E).nox G [] [] M' [] .pl (Q0 st) u):
  FnOk P w K mg base CX0 (k+1) f fd ps (spF K n λds=>ob (u (rho0 N.length ds)) outD) :=
 F.g.pure S hn cT
theorem FunG.new {x qual:Str}{st:Ve}{f:Kg}{fd:VW}{N ps:aA}{k n:Nat}{u:ak}{M':ao}(F:FunG K x qual st f fd)(S:FnScope N ps (qj st))(hn:ps.length=n)
  (cT:∀(cdv:Ke) (A:KZ) (outer:bc) (s:Kf) (H:Hp) (E:XK),Room k (A.deeper (tK qual (qj st) s.heap.objs.size f cdv))->∀G:Gm,
   PDSs (cxOf CX0 P w K mg base N qual (qj st) f cdv A outer s H E).nox G [] [] M' [] .nw (Q0 st) u):
  FnOk P w K mg base CX0 (k+1) f fd ps (spN K n λds=>ob (u (rho0 N.length ds)) outF):=by
 refine F.ok S (λvs H Q E h=>?_) (λcdv A outer s H vs Q E hr h=>?_)
 .obtain⟨_,ds,d,_,h1,h2,_⟩:=h
  rw[h1.length,h2,hn]
 .obtain⟨Sv,ds,d,m,h1,h2,e,q⟩:=h
  obtain⟨o,e1,e⟩:=qe e
  refine⟨_,cT cdv A outer s H E hr (G0 H Sv),Sv,rho0 N.length ds,o,OwnS.start m h1 N,e1,?_⟩
  cases o with
  |rt r=>cases e;exact λp H' g n _ o=>q p H' g n o
  |nx ρ=>cases e
  |bk ρ=>cases e
  |ct ρ=>cases e
theorem Fun.new {x qual:Str}{st:Ve}{f:Kg}{fd:VW}{N ps:aA}{k n:Nat}{u:ak}{M':ao}(F:Fun K x qual st f fd)(S:FnScope N ps (qj st))(hn:ps.length=n)
  (cT:∀(cdv:Ke) (A:KZ) (outer:bc) (s:Kf) (H:Hp) (E:XK),Room k (A.deeper (tK qual (qj st) s.heap.objs.size f cdv))->∀G:Gm,
   PDSs (cxOf CX0 P w K mg base N qual (qj st) f cdv A outer s H E).nox G [] [] M' [] .nw (Q0 st) u):
  FnOk P w K mg base CX0 (k+1) f fd ps (spN K n λds=>ob (u (rho0 N.length ds)) outF) :=
 F.g.new S hn cT
structure Known (P:KO)(w:K0)(K:Kd)(mg:aq)(base:K4)(x:Str)(n k:Nat)(h:av):Prop where
 ex:∃(f:Kg) (fd:VW) (ps:aA),FnOk P w K mg base CX0 k f fd ps (spF K n h)/\mg x=bB (.ref f)/\UD K (.ref f)=bD/\Binds K fd ps []
structure KnownN (P:KO)(w:K0)(K:Kd)(mg:aq)(base:K4)(x:Str)(n k:Nat)(h:av):Prop where
 ex:∃(f:Kg) (fd:VW) (ps:aA),FnOk P w K mg base CX0 k f fd ps (spN K n h)/\mg x=bB (.ref f)/\UD K (.ref f)=bD/\Binds K fd ps []
theorem KnownN.known  (F:KnownN P w K mg base x n k h):Known P w K mg base x n k h:=by
 obtain⟨f,fd,ps,F,m,kp,b⟩:=F.ex
 exact⟨f,fd,ps,F.imp λvs H Q E ⟨S,ds,d,m,h1,h2,e,q⟩=>⟨S,ds,d,m,h1,h2,e,λp H' g n o=>q _ H' g (o.den (m.free n) λa _ z=>.inl z)⟩,m,kp,b⟩
end
section
variable {X:Cx}{G:Gm}{M M' Mb L:ao}{fr:Fr}{a b c:KI}{es:aH}{f g:aa}{p:aj}{pos:Pos}{u:ak}
theorem qu {p:Pos}  (F:Known X.prog X.w X.K X.mg X.base x n k h) (hr:Room k' X.A) (hk:k<=k') (hg:Gl X x) (ha:PDA X M (a::es) fs) (hl:(a::es).length=n)
  (dH:(x==("__debug__" : Str))=bE:=by decide +kernel) (he:sj (a::es) X.env=(bE,eval a X.env)::sj es X.env:=by rfl) (dq:(sG pos (sj es X.env)).any (·.1)=bE:=by rfl):
  PD X M (.Call (.Name x p) (a::es) [] pos) (evC n fs h):=by
 obtain⟨f,fd,ps,F,m,kp,b⟩:=F.ex
 exact qjz F (hr.mono hk) hg m kp b qkm ha hl dH he dq
theorem qhW {p:Pos}  (F:KnownN X.prog X.w X.K X.mg X.base x n k h) (hr:Room k' X.A) (hk:k<=k') (hg:Gl X x) (ha:PDA X M (a::es) fs) (hl:(a::es).length=n)
  (dH:(x==("__debug__" : Str))=bE:=by decide +kernel) (he:sj (a::es) X.env=(bE,eval a X.env)::sj es X.env:=by rfl) (dq:(sG pos (sj es X.env)).any (·.1)=bE:=by rfl):
  PF X M (.Call (.Name x p) (a::es) [] pos) (evC n fs h):=by
 obtain⟨f,fd,ps,F,m,kp,b⟩:=F.ex
 refine(qfk F (hr.mono hk) hg m kp b .nil qkm ha dH he dq).weak λσ H Q ⟨S,ρ,d,hs,e,q⟩=>?_
 obtain⟨ds,e1,e⟩:=qe e
 have e:(if ds.length=n then h ds else bC)=bB d:=e
 split at e
 .rename_i hn
  exact⟨S,ρ,ds,hs,e1,λvs H1 g1 d1=>⟨S,ds,d,hs.1.same g1,by rw[Vw];exact d1,hn,e,λp H' g2 n o=>q p H' (g1.trans g2) (g1.free n) o⟩⟩
 .cases e
theorem OwnO.laid {K:Kd}{H:Hp}{S:Av}{p:Kg}{vs:List V}{ds:ae}(n:H p=bC)(t:DenL K H S vs ds):OwnO K (L2.upd H p (.lst vs)) (insA S p) p (.list ds) :=
 .lst q8 ((t.sub λa ha z=>z.elim id λy=>absurd (by rw[y];exact n) ha).same (Same.lay n))
theorem yF (h:PDA X M es fs):PF X M (.List es pos) (evA fs lstD) :=
 (qhP h).weak λσ H Q ⟨S,ρ,d,hs,e,q⟩=>by
  obtain⟨xs,e1,e⟩:=qe e
  obtain⟨hz,rfl⟩:=qbn e
  exact⟨S,ρ,xs,hs,e1,λvs H1 g1 d1=>⟨VL (zL (by rw[d1.length];exact hz)),λp hp=>q _ _ (g1.lay' hp) (g1.free hp) (OwnO.laid hp d1)⟩⟩
def qeD (X:Cx)(f:Ke)(g:av):Prop:=Jj X f (λvs H Q=>∃S ds d,Dm S H/\DenL X.K H S vs ds/\g ds=bB d/\∀p H',Same H H'->H p=bC->OwnO X.K H' (insA S p) p d->Q (.ref p) H')
theorem yD {id:String}{x:Str}{p:Pos}{h:av}{fs:ai}(hc:qeD X (.builtin id) h)(hg:Gl X x)(hm:X.mg x=bC)(hv:sE x=bB (.builtin id))(ha:PDA X M (a::es) fs)(hn:x ≠ "__name__" := by decide +kernel)(dH:(x==("__debug__" : Str))=bE:=by decide +kernel)
  (he:sj (a::es) X.env=(bE,eval a X.env)::sj es X.env:=by rfl) (dq:(sG pos (sj es X.env)).any (·.1)=bE:=by rfl):PF X M (.Call (.Name x p) (a::es) [] pos) (evA fs h) :=
 (qay hc hg hm hv ha hn dH he dq).weak λσ H Q ⟨S,ρ,d,hs,e,q⟩=>by
  obtain⟨ds,e1,e⟩:=qe e
  exact⟨S,ρ,ds,hs,e1,λvs H1 g1 d1=>⟨S,ds,d,hs.1.same g1,d1,e,λp H' g2 n o=>q p H' (g1.trans g2) (g1.free n) o⟩⟩
theorem qgg {p:Pos}  (hc:qeD X (.type T) h) (hg:Gl X x) (hm:X.mg x=bC) (hv:sE x=bB (.type T)) (ha:PDA X M (a::es) fs) (hn:x ≠ "__name__" := by decide +kernel) (dH:(x==("__debug__" : Str))=bE:=by decide +kernel)
  (he:sj (a::es) X.env=(bE,eval a X.env)::sj es X.env:=by rfl) (dq:(sG pos (sj es X.env)).any (·.1)=bE:=by rfl):PF X M (.Call (.Name x p) (a::es) [] pos) (evA fs h) :=
 (qgf hc hg hm hv ha hn dH he dq).weak λσ H Q ⟨S,ρ,d,hs,e,q⟩=>by
  obtain⟨ds,e1,e⟩:=qe e
  exact⟨S,ρ,ds,hs,e1,λvs H1 g1 d1=>⟨S,ds,d,hs.1.same g1,d1,e,λp H' g2 n o=>q p H' (g1.trans g2) (g1.free n) o⟩⟩
noncomputable def appD:Ka->Ka->Option Ka
 |.list ds,d=>if ds.length<1000 then bB (.list (ds++[d])) else bC
 |_,_=>bC
def sApp (i:Nat)(f:aa):Rho->Option Out:=λρ=>ob (vr i ρ) λl=>ob (f ρ) λd=>ob (appD l d) λl'=>bB (.nx (ρ.set i (bB l')))
theorem wG (e:appD l d=bB l'):∃ds,l=.list ds/\ds.length<1000/\l'=.list (ds++[d]):=by
 unfold appD at e
 split at e
 .split at e
  .rename_i hz;cases e;exact⟨_,rfl,hz,rfl⟩
  .cases e
 .cases e
theorem Off.upd {S:Av}{H:Hp}{p:Kg}{o:HO}(c:S p):Off S H (L2.upd H p o):=λb u z e=>by
 rw[qK (λy=>z (by rw[y];exact c))];exact e
theorem jw (i:Nat){px apos bG:Pos}(hv:Vis X.env.scope x)(hM:Flt M i)(hL:i∉L)(he:PD X M a f)(hN:X.N[i]?=bB x:=by rfl)(hd:(x==("__debug__" : Str))=bE:=by decide +kernel)(dD:(x==("__classdict__" : Str))=bE:=by decide +kernel)
  (bP:sM (.Name x px) "append" X.env (eval (.Name x px) X.env)=eval (.Name x px) X.env:=by rfl)
  (cz:((sG bG (sj [a] X.env)).all (λx=>!x.1)&&(tv bG (sT [] X.env)).all (λx=>x.1.isSome)
   && decide ([a].length+([]:List Ui).length+(if ([]:List Ui).isEmpty then 0 else 1)<30))=bD:=by rfl)
  (bQ:(apos.endLine==bG.line)=bD:=by rfl) (hs:sj [a] X.env=(bE,eval a X.env)::sj [] X.env:=by rfl) (bU:(sG bG (sj [] X.env)).any (·.1)=bE:=by rfl)
  (iH:sX (.Call (.Attribute (.Name x px) "append" apos) [a] [] bG) bC pos.line X.env=pure bE:=by rfl):
  PDS X G M L M Mb fr (.Expr (.Call (.Attribute (.Name x px) "append" apos) [a] [] bG) pos) (sApp i f) :=
 (qcu (qax Xo Nm ED qbp (qct i hv hN hd dD) (zy he zZ hs) bP cz bQ hs bU) iH).weak λD σ H ⟨S,ρ,o,os,e,q⟩=>by
  obtain⟨l,e1,e⟩:=qe e
  obtain⟨d,e2,e⟩:=qe e
  obtain⟨l',e3,e⟩:=qe e
  cases e
  obtain⟨ds,rfl,hz,rfl⟩:=wG e3
  obtain⟨pp,a1,b1,c1,n1,w1,_⟩:=os.own i hM _ (jY e1)
  cases b1 with
  | @lst xs _ h t =>
   refine⟨_,a1,.inl ⟨rfl,_,SqL.of h⟩,S,ρ,[d],os.ds,by show ob (f ρ) _=_;rw[e2];rfl,λvs H2 g2 dl=>?_⟩
   obtain⟨v,rfl,dv⟩:=dl.inv1
   have fq:=os.same g2
   refine⟨pp,xs,v,rfl,rfl,g2 _ _ h,Vg (by rw[t.length];exact hz) (VL (zL (Kp _))),?_⟩
   exact q _ _ _ (fq.write hM hL (jY e1) a1 rfl (.lst q8 (((t.same g2).snoc dv).off fq.ds.1 (Off.upd c1))))
noncomputable def isNone:Ka->Bool
 |.none=>bD
 |_=>bE
def isD:Ka->Ka->Option Ka
 |x,.none=>bB (.bool (isNone x))
 |.bool b,.bool c=>bB (.bool (b==c))
 |_,_=>bC
def isnD:Ka->Ka->Option Ka
 |x,.none=>bB (.bool (!isNone x))
 |.bool b,.bool c=>bB (.bool (!(b==c)))
 |_,_=>bC
theorem qea {K:Kd}{H:Hp}{S:Av}{v:V}{d:Ka}(h:Den K H S v d):decide (v=.non)=isNone d:=by cases h<;>rfl
theorem qkd:OpD X (sA .IsNot) isnD:=by
 intro sd s σ H x y v u Q I rx ry ⟨S,dx,dy,d,m,h1,h2,e,q⟩
 unfold isnD at e
 split at e
 .cases e;cases h2
  exact qjy sd s σ H x _ v u Q I rx ry ⟨rfl,by rw[qea h1];exact q _ H (Same.refl H) (.bool _)⟩
 .cases e;cases h1;cases h2
  cases(show v=Um _ from rx);cases(show u=Um _ from ry)
  exact isnot_bool (j5 I (q _ H (Same.refl H) (.bool _)) rfl)
 .cases e
end
section
variable {X:Cx}{G:Gm}{M M' Mb L:ao}{fr:Fr}{a b c:KI}{es:aH}{f g:aa}{p:aj}{pos:Pos}{u:ak}
def Yx (t:aj)(body:ak):Nat->Rho->Option Out
 |0,_=>bC
 |n+1,ρ=>ob (t ρ) λb=>if b=bD then ob (body ρ) λo=>match o with
   |.nx ρ'=>Yx t body n ρ'
   |.ct ρ'=>Yx t body n ρ'
   |.bk ρ'=>bB (.nx ρ')
   |.rt r=>bB (.rt r)
  else bB (.nx ρ)
def qes (t:aj)(body:ak):Rho->Option Out:=Yx t body 1000000
theorem qgd (hp:ET (model X.prog X.w) X.A X.env X.xe)(hc:PDT X [] c p)(hb:PDSs X G M L M M fr body u):PDS X G M L M Mb fr (.While c body [] pos) (qes p u) :=
 (qh8 hp hc hb).weak λD σ H ⟨S,ρ,o,os,e,q⟩=>by
  refine⟨λm σ' H'=>∃S' ρ' o',OwnS X.K G M L H' S' σ' ρ'/\Yx p u m ρ'=bB o'/\OutQ X.K G M Mb L fr D o',⟨1000000,S,ρ,o,os,e,q⟩,?_⟩
  rintro m σ' H' ⟨S',ρ',o',l0,e',q'⟩
  cases m with
  |zero=>cases e'
  |succ m =>
   obtain⟨b,e1,e'⟩:=qe e'
   refine⟨G.S0,ρ',b,l0.den,e1,λH1 g1=>?_⟩
   have cW:=l0.same g1
   cases b with
   |false =>
    cases e'
    exact iteF (q' σ' H1 S' cW)
   |true =>
    rw[si rfl]at e'
    obtain⟨o1,e2,e'⟩:=qe e'
    refine iteT ?_
    have next:∀ ρ2,Yx p u m ρ2=bB o'->∃N:St->Hp->Prop,(∀ σ' ig,N σ' ig->∃m',m'<m+1/\∃S' ρ' o',OwnS X.K G M L ig S' σ' ρ'/\Yx p u m' ρ'=bB o'/\OutQ X.K G M Mb L fr D o')/\∀ σ2 H2 S2,OwnS X.K G M L H2 S2 σ2 ρ2->N σ2 H2:=λρ2 e4 =>
     ⟨λσ2 H2=>∃S2,OwnS X.K G M L H2 S2 σ2 ρ2,λσ2 H2 ⟨S2,cQ⟩=>⟨m,UT m,S2,ρ2,o',cQ,e4,q'⟩,λσ2 H2 S2 cQ=>⟨S2,cQ⟩⟩
    cases o1 with
    |nx ρ2 =>
     obtain⟨N,n1,n2⟩:=next ρ2 e'
     exact⟨N,n1,S',ρ',_,cW,e2,λσ3 H3 S3 cQ=>n2 σ3 H3 S3 cQ⟩
    |ct ρ2 =>
     obtain⟨N,n1,n2⟩:=next ρ2 e'
     exact⟨N,n1,S',ρ',_,cW,e2,λσ3 H3 S3 cQ=>n2 σ3 H3 S3 cQ⟩
    |bk ρ2 =>
     cases e'
     exact⟨λ_ _=>False,λ_ _ z=>z.elim,S',ρ',_,cW,e2,λσ3 H3 S3 cQ=>q' σ3 H3 S3 cQ⟩
    |rt r =>
     cases e'
     have q2:OutQ X.K G M Mb L fr D (.rt r):=q'
     exact⟨λ_ _=>False,λ_ _ z=>z.elim,S',ρ',_,cW,e2,q2⟩
noncomputable def intD:Ka->Option Int
 |.int i=>bB i
 |_=>bC
def PDO (X:Cx)(M:ao)(e:Option KI)(f:bg):Prop:=PO X e (λσ H Q=>∃S ρ i,DenS X.K H S M σ ρ/\f ρ=bB i/\∀H',Same H H'->Q i H')
def oN:Rho->Option (Option Int):=λ_=>bB bC
def oS (f:aa):Rho->Option (Option Int):=λρ=>ob (f ρ) λd=>ob (intD d) λi=>bB (bB i)
theorem qfR (h:intD d=bB i):d=.int i:=by cases d<;>first|(cases h;rfl)|cases h
theorem qdy:PDO X M bC oN:=λsd s σ H Q I ⟨S,ρ,i,hs,e,q⟩=>by
 cases e
 exact qjJ sd s σ H Q I (q H (Same.refl H))
theorem qdz (h:PD X M a f):PDO X M (bB a) (oS f):=λsd s σ H Q I ⟨S,ρ,i,hs,e,q⟩=>by
 obtain⟨d,e1,e⟩:=qe e
 obtain⟨j,e2,e⟩:=qe e
 cases e
 cases qfR e2
 exact qjK h sd s σ H Q I ⟨S,ρ,_,hs,e1,λv H' g d=>⟨j,d.int_inv,q H' g⟩⟩
def cutD (ds:ae)(lo hi:aV):List Ka:=(ds.drop (HT.sIx ds.length 0 lo)).take (HT.sIx ds.length ds.length hi-HT.sIx ds.length 0 lo)
def sliD (x:Ka)(lo hi:aV):Option Ka:=match x with
 |.list ds=>bB (.list (cutD ds lo hi))
 |.tuple ds=>if HT.sIx ds.length 0 lo=0/\HT.sIx ds.length ds.length hi=ds.length then bC else bB (.tuple (cutD ds lo hi))
 |_=>bC
def evS (fa:aa)(fl fh:bg):Rho->Option Ka:=λρ=>ob (fa ρ) λx=>ob (fl ρ) λl=>ob (fh ρ) λh=>sliD x l h
theorem qcX {K:Kd}{H:Hp}{S:Av}{vs:List V}{ds:ae}(t:DenL K H S vs ds)(lo hi:aV):DenL K H S (cutV vs lo hi) (cutD ds lo hi):=by
 unfold cutV cutD
 rw[t.length]
 exact(t.drop _).take _
theorem qdw {lo hi:Option KI}{fl fh:bg}{p2:Pos}(ha:PD X M a f)(hl:PDO X M lo fl)(hh:PDO X M hi fh):PD X M (.Subscript a (.Slice lo hi bC p2) pos) (evS f fl fh) :=
 (qhQ (r:=λx lo hi H Q=>rSlL X.K x lo hi H Q\/rSlT X.K x lo hi H Q) (qj0.or ql7) ha hl hh).weak λσ H Q ⟨S,ρ,d,hs,e,q⟩=>by
  obtain⟨x,e1,e⟩:=qe e
  obtain⟨l,e2,e⟩:=qe e
  obtain⟨h,e3,e⟩:=qe e
  refine⟨S,ρ,x,hs,e1,λv H1 g1 d1=>⟨S,ρ,l,hs.same g1,e2,λH2 g2=>⟨S,ρ,h,hs.same (g1.trans g2),e3,λH3 g3=>?_⟩⟩⟩
  have nv:=g1.trans (g2.trans g3)
  have d3:=d1.same (g2.trans g3)
  cases d3 with
  |list hq t =>
   cases e
   exact .inl ⟨_,_,rfl,hq.sq,λp hp=>q _ _ (nv.lay' hp) (.list (SqLS.new q8 ((hs.1.same nv).free hp)) ((qcX t l h).same (Same.lay hp)))⟩
  | @tuple a' xs ds hq t =>
   have e:(if HT.sIx ds.length 0 l=0/\HT.sIx ds.length ds.length h=ds.length then bC else bB (VM (cutD ds l h)))=bB d:=e
   split at e
   .cases e
   .rename_i hc
    cases e
    refine .inr ⟨_,_,rfl,hq,by rw[t.length];exact hc,λp hp=>q _ _ (nv.lay' hp) (.tuple (SqT.of q8) ((qcX t l h).same (Same.lay hp)))⟩
  |_=>cases e
noncomputable def qeF (x y:Ka):Option Ka:=match x,y with
 |.int i,.int j=>bB (.int (i+j))
 |.tuple ds,.tuple es=>if ds.length+es.length<=1000 then bB (.tuple (ds++es)) else bC
 |_,_=>bC
theorem qgE {prog:KO}{w:K0}{A:KZ}{E:ag}{s:Kf}{t b:Kg}{vs ws:ar}{Q:ag}(ht:IsTup s.heap t vs.toArray)(hb:IsTup s.heap b ws.toArray)(hv:vs=[])(h:Q (.ref b) s):
  sm (model prog w) A (sH .Add (.ref t) (.ref b)) Q E s:=by
 obtain⟨⟨cls,dd,data,sl⟩,ho,hc,n,hd⟩:=id ht
 obtain⟨⟨fA,dM,data2,dN⟩,eY,eF,n2,hd2⟩:=id hb
 simp only at hc hd eF hd2
 subst hc hd eF hd2
 exact Ey ⟨_,ho,rfl⟩ ⟨_,eY,rfl⟩ Ez seq_tuple_add Nl Nh (X6 _ _) (tuple_addW0 t b vs.toArray ws.toArray n n2 dd dM sl dN (by simp [hv])) ⟨ho,eY,h⟩
theorem qjt:OpR X (sH .Add) (λx y H Q=>∃a b ys,x=.ref a/\y=.ref b/\SqT X.K H a []/\SqT X.K H b ys/\Q (.ref b) H):=by
 intro sd s σ H x y v u Q I rx ry h
 obtain⟨a,b,ys,rfl,rfl,ha,hb,q⟩:=h
 cases rx
 cases ry
 obtain⟨its,r1,p1,_⟩:=I.tuple ha
 obtain⟨dP,r2,p2,_⟩:=I.tuple hb
 exact qgE p1 p2 (r1.nil_iff.mpr rfl) ⟨.ref b,H,I,rfl,q⟩
theorem qgJ:OpD X (sH .Add) qeF:=by
 refine Yp (r:=λx y H Q=>rI0 (λi j=>.int (i+j)) x y H Q\/(qkn X.K x y H Q\/(∃a b ys,x=.ref a/\y=.ref b/\SqT X.K H a []/\SqT X.K H b ys/\Q (.ref b) H))) (qlm.or (qjv.or qjt)) λx y dx dy d H S Q m h1 h2 e q=>?_
 unfold qeF at e
 split at e
 .cases e;cases h1;cases h2
  exact .inl ⟨_,_,rfl,rfl,q _ H (Same.refl H) (.int _)⟩
 .split at e
  .rename_i ds es hc
   cases e
   cases h1 with
   |tuple a1 t1 =>
    cases h2 with
    |tuple a2 t2 =>
     cases ds with
     |nil =>
      cases t1
      exact .inr (.inr ⟨_,_,_,rfl,rfl,a1,a2,q _ H (Same.refl H) (.tuple a2 t2)⟩)
     |cons d0 ds =>
      refine .inr (.inl ⟨_,_,_,_,rfl,rfl,a1,a2,λz=>?_,?_,λz=>?_,λz p hp=>q _ _ (Same.lay hp) (.tuple (SqT.of q8) ((t1.append t2).same (Same.lay hp)))⟩)
      .subst z;cases t1
      .rw[t1.length,t2.length]
       exact VL (zL hc)
      .subst z;cases t2
       rw[Vw]at q
       exact q _ H (Same.refl H) (.tuple a1 t1)
  .cases e
 .cases e
end
section
variable {X:Cx}{G:Gm}{M M1 M' Mb L:ao}{fr:Fr}{a b c:KI}{es:aH}{f g:aa}{p:aj}{pos:Pos}{u:ak}{ss:bz}{s1:Ve}
def PDR (X:Cx)(tg iter:KI)(f:ai):Prop:=PI X tg iter (λσ H R=>∃S ρ ds,DenS X.K H S [] σ ρ/\f ρ=bB ds/\∀J H',Same H H'->(∀H2 S2,IsIt X.K S2 J H2 ds)->R J H')
theorem QV {tg:KI}{fs:ai}{p:Pos}(hg:Gl X "range")(hm:X.mg "range" = bC)(ha:PDA X [] [a] fs)(hs:sj [a] X.env=[(bE,eval a X.env)]:=by rfl):PDR X tg (.Call (.Name "range" p) [a] [] pos) (evR fs QJ) :=
 (qbx hg hm ha hs).weak λσ H R ⟨S,ρ,ds,hs,e,w⟩=>by
  obtain⟨xs,e1,e⟩:=qe e
  refine⟨S,ρ,xs,hs,e1,λvs H1 g1 d1=>?_⟩
  unfold QJ at e
  split at e
  .rename_i j
   split at e
   .rename_i hj
    cases e
    obtain⟨v,rfl,q⟩:=d1.inv1
    cases q
    exact⟨j,rfl,by omega,by omega,w _ _ g1 λ_ _=>IsIt.rng 0 _⟩
   .cases e
  .cases e
theorem jh {tg iter:KI}{body:bz}{fi:ai}{g:af}(hp:ET (model X.prog X.w) X.A X.env X.xe)(hc:X.calm=bD)(hi:PDR X tg iter fi)(hg:PDG X G M L tg g)(hb:PDSs X G M L M M fr body u)
  (hs:∀x,sD iter X.env x=pure x:=by intro _;rfl):PDS X G M L M Mb fr (.For tg iter body [] pos) (sFor fi g u):=by
 refine(qh6 hp hc hi hg hb hs).weak λD σ H ⟨S,ρ,o,os,e,q⟩=>?_
 obtain⟨ds,e1,e⟩:=qe e
 refine⟨G.S0,ρ,ds,os.den,e1,λJ H1 g1 hJ=>?_⟩
 refine⟨λi m σ' H'=>m=ds.length-i/\i<=ds.length/\∃S' ρ o,OwnS X.K G M L H' S' σ' ρ/\forD g u (ds.drop i) ρ=bB o/\OutQ X.K G M Mb L fr D o,⟨ds.length,by simp,Vr _,S,ρ,o,os.same g1,e,q⟩,?_⟩
 rintro i m σ' H' ⟨rfl,hi,S',ρ',o',c7,e',q'⟩
 by_cases bK:i<ds.length
 .rw[VD bK]at e'
  obtain⟨ρ1,e2,e'⟩:=qe e'
  obtain⟨o1,e3,e'⟩:=qe e'
  have key:∀N:St->Hp->Prop,OutQ X.K G M M L fr { D with nx:=N,ct:=N,bk:=D.nx } o1->∀x H2,J.yld i H' x H2->tDG X.K G M L g x σ' H2 λσ2 H2=>tDS X.K G M L M M fr u { D with nx:=N,ct:=N,bk:=D.nx } σ2 H2:=λN hN x H2 y=>by
   obtain⟨e4,yd⟩:=(hJ H' S').yld i H' x H2 (Same.refl _) y
   exact⟨S',ρ',_,ρ1,c7.same e4,yd _ (Kj bK) S' λy e q=>q.same e4,e2,λσ2 H3 g3 cQ=>⟨S',ρ1,o1,cQ,e3,hN⟩⟩
  refine .inr ⟨(hJ H' S').go i H' (Same.refl _) bK,?_⟩
  have next:∀ ρ2,forD g u (ds.drop (i+1)) ρ2=bB o'->∃N:St->Hp->Prop,(∀ σ' ig,N σ' ig->∃m',m'<ds.length-i/\(m'=ds.length-(i+1)/\i+1<=ds.length/\∃S' ρ o,OwnS X.K G M L ig S' σ' ρ/\forD g u (ds.drop (i+1)) ρ=bB o/\OutQ X.K G M Mb L fr D o))/\∀ σ2 H2 S2,OwnS X.K G M L H2 S2 σ2 ρ2->N σ2 H2:=λρ2 e4 =>
   ⟨λσ2 H2=>∃S2,OwnS X.K G M L H2 S2 σ2 ρ2,λσ2 H2 ⟨S2,cQ⟩=>⟨ds.length-(i+1),by omega,rfl,bK,S2,ρ2,o',cQ,e4,q'⟩,λσ2 H2 S2 cQ=>⟨S2,cQ⟩⟩
  cases o1 with
  |nx ρ2 =>
   obtain⟨N,n1,n2⟩:=next ρ2 e'
   exact⟨N,n1,key N λσ3 H3 S3 cQ=>n2 σ3 H3 S3 cQ⟩
  |ct ρ2 =>
   obtain⟨N,n1,n2⟩:=next ρ2 e'
   exact⟨N,n1,key N λσ3 H3 S3 cQ=>n2 σ3 H3 S3 cQ⟩
  |bk ρ2 =>
   cases e'
   exact⟨λ_ _=>False,λ_ _ z=>z.elim,key _ λσ3 H3 S3 cQ=>q' σ3 H3 S3 cQ⟩
  |rt r =>
   cases e'
   have q2:OutQ X.K G M Mb L fr D (.rt r):=q'
   exact⟨λ_ _=>False,λ_ _ z=>z.elim,key _ q2⟩
 .have dm:i=ds.length:=by omega
  subst dm
  rw[Xk]at e'
  cases e'
  exact .inl ⟨(hJ H' S').stop H' (Same.refl _),q' σ' H' S' c7⟩
theorem qbw (M1:ao)(h1:subB M1 M=bD)(h2:subB L M1=bD)(h:PDS X G M1 L M' Mb fr s1 u):PDS X G M L M' Mb fr s1 u:=qgb h h1 h2
end
def intsOf:List Ka->Option (List Int)
 |[]=>bB []
 |.int i::r=>ob (intsOf r) λns=>bB (i::ns)
 |_::_=>bC
def boolsOf:List Ka->Option (List Bool)
 |[]=>bB []
 |.bool i::r=>ob (boolsOf r) λns=>bB (i::ns)
 |_::_=>bC
theorem Wg:∀{ds:ae} {ns:aF},intsOf ds=bB ns->ds=ns.map .int
 |[],_,h=>by cases h;rfl
 |.int i::r,ns,h=>by
  obtain⟨ms,e1,e2⟩:=qe h
  cases e2
  rw[Wg e1]
  rfl
 |.none::_,_,h=>by cases h
 |.bool _::_,_,h=>by cases h
 |.str _::_,_,h=>by cases h
 |.list _::_,_,h=>by cases h
 |.tuple _::_,_,h=>by cases h
 |.dict _::_,_,h=>by cases h
theorem JF:∀{ds:ae} {ns:List Bool},boolsOf ds=bB ns->ds=ns.map .bool
 |[],_,h=>by cases h;rfl
 |.bool i::r,ns,h=>by
  obtain⟨ms,e1,e2⟩:=qe h
  cases e2
  rw[JF e1]
  rfl
 |.none::_,_,h=>by cases h
 |.int _::_,_,h=>by cases h
 |.str _::_,_,h=>by cases h
 |.list _::_,_,h=>by cases h
 |.tuple _::_,_,h=>by cases h
 |.dict _::_,_,h=>by cases h
def inOk (ds:ae)(x:Ka):Bool:=Kq ds&&(x.canLay0&&decide (x.depth<=63))
def inL (ds:ae)(x:Ka):Bool:=ds.any λy=>KC y x
def inD (x y:Ka):Option Ka:=match y with
 |.list ds=>if inOk ds x=bD then bB (.bool (inL ds x)) else bC
 |.tuple ds=>if inOk ds x=bD then bB (.bool (inL ds x)) else bC
 |_=>bC
def ninD (x y:Ka):Option Ka:=match y with
 |.list ds=>if inOk ds x=bD then bB (.bool (!inL ds x)) else bC
 |.tuple ds=>if inOk ds x=bD then bB (.bool (!inL ds x)) else bC
 |_=>bC
def allD:List Ka->Option Ka
 |[.list ds]=>ob (boolsOf ds) λbs=>bB (.bool (bs.all id))
 |_=>bC
def anyD:List Ka->Option Ka
 |[.list ds]=>ob (boolsOf ds) λbs=>bB (.bool (bs.any id))
 |_=>bC
section
variable {X:Cx}
theorem jK {x:Ka}(h:inOk ds x=bD):Kq ds=bD/\x.canLay0=bD/\x.depth<=63:=by
 unfold inOk at h
 rw[KF,KF]at h
 exact⟨h.1,h.2.1,sx h.2.2⟩
theorem Y0 {A:KZ}{x:Ka}(hd:x.depth<=63)(hu:A.units+64<sL):A.units+1+min (KB ds) x.depth<sL:=by
 have:=Nat.min_le_right (KB ds) x.depth
 omega
theorem d_in (hr:Room k X.A):OpD X (sA .In) inD:=by
 intro sd s σ H x y v u Q I rx ry h
 obtain⟨S,dx,dy,d,m,h1,h2,e,q⟩:=h
 unfold inD at e
 split at e
 .split at e
  .rename_i hc
   obtain⟨c1,c2,c3⟩:=jK hc
   cases e
   obtain⟨as,q1⟩:=h1.reads I c2 rx
   obtain⟨bs,q2⟩:=h2.reads I (by rw[KU];exact c1) ry
   exact SeqAt.in_list_reads q2 q1 c1 c2 (Y0 c3 hr.units) (j5 I (q _ H (Same.refl H) (.bool _)) rfl)
  .cases e
 .split at e
  .rename_i hc
   obtain⟨c1,c2,c3⟩:=jK hc
   cases e
   obtain⟨as,q1⟩:=h1.reads I c2 rx
   obtain⟨bs,q2⟩:=h2.reads I (by rw[KU];exact c1) ry
   exact SeqAt.in_tuple_reads q2 q1 c1 c2 (Y0 c3 hr.units) (j5 I (q _ H (Same.refl H) (.bool _)) rfl)
  .cases e
 .cases e
theorem WD (hr:Room k X.A):OpD X (sA .NotIn) ninD:=by
 intro sd s σ H x y v u Q I rx ry h
 obtain⟨S,dx,dy,d,m,h1,h2,e,q⟩:=h
 unfold ninD at e
 split at e
 .split at e
  .rename_i hc
   obtain⟨c1,c2,c3⟩:=jK hc
   cases e
   obtain⟨as,q1⟩:=h1.reads I c2 rx
   obtain⟨bs,q2⟩:=h2.reads I (by rw[KU];exact c1) ry
   exact SeqAt.notIn_list_reads q2 q1 c1 c2 (Y0 c3 hr.units) (j5 I (q _ H (Same.refl H) (.bool _)) rfl)
  .cases e
 .split at e
  .rename_i hc
   obtain⟨c1,c2,c3⟩:=jK hc
   cases e
   obtain⟨as,q1⟩:=h1.reads I c2 rx
   obtain⟨bs,q2⟩:=h2.reads I (by rw[KU];exact c1) ry
   exact SeqAt.notIn_tuple_reads q2 q1 c1 c2 (Y0 c3 hr.units) (j5 I (q _ H (Same.refl H) (.bool _)) rfl)
  .cases e
 .cases e
theorem DenL.bools_inv {K:Kd}{H:Hp}{S:Av}:∀{vs:List V} {ns:List Bool},DenL K H S vs (ns.map VI)->vs=ns.map V.bl:=by
 intro vs ns
 induction ns generalizing vs with
 |nil=>intro h;cases h;rfl
 |cons n ns ih =>
  intro h
  cases h with
  |cons a t=>cases a;rw[ih t];rfl
theorem Wd:∀{ns:List Bool} {us:ar},Vals (ns.map V.bl) us->LSm.BoolsAre us ns:=by
 intro ns
 induction ns with
 |nil=>intro us h;cases h;exact .nil
 |cons n ns ih =>
  intro us h
  cases h with
  |cons r t=>cases(show _=Um n from r);exact .cons n (ih t)
theorem b_all (hc:X.calm=bD):CallD X (.builtin "all") allD:=by
 intro sd s σ H xs us Q I r h
 obtain⟨S,ds,d,m,h1,e,q⟩:=h
 unfold allD at e
 split at e
 .rename_i ds
  obtain⟨bs,e1,e2⟩:=qe e
  cases e2
  rw[JF e1]at h1
  obtain⟨v,rfl,hv⟩:=h1.inv1
  obtain⟨a,ys,rfl,hs,ht⟩:=hv.list_inv
  rw[ht.bools_inv]at hs
  obtain⟨u,rfl,ru⟩:=vals1 r
  cases(show u=KP a from ru)
  obtain⟨its,rv,p,_⟩:=I.list hs.sq
  have hb:=Wd rv
  have hl:=p.isList
  have bK:a<s.heap.objs.size:=by obtain⟨_,e,_⟩:=hl;exact Kz e
  refine call_all_walk (U6 hl ?_)
  refine⟨s.heap.objs.size,[s.heap.objs.size,a],[s.heap.objs.size],its.toArray.size,_,_,λi=>(bs[i]?).getD bD,rfl,Walks.list (A:=X.A.in1) (I.ok.hd hc) _ a (KD bK) its.toArray,
   ⟨⟨_,Ks _ rfl,rfl,rfl⟩,hl.push _⟩,λi v s' Q' E' hP hQ=>?_,λh' tk hk=>?_⟩
  .obtain⟨b,e,rfl⟩:=hb.get i v (by simpa using hP)
   simp only[e,Option.getD_some]at hQ
   exact VU hQ
  .have e:((Ku its.toArray.size).all λi=>(bs[i]?).getD bD)=bs.all id:=by
    rw[KA,hb.length];exact LSm.range_all bs
   rw[e]
   exact⟨.bl (bs.all id),H,I.kept (LSm.kept_iter hk),rfl,q _ H (Same.refl H) (.bool _)⟩
 .cases e
theorem b_any (hc:X.calm=bD):CallD X (.builtin "any") anyD:=by
 intro sd s σ H xs us Q I r h
 obtain⟨S,ds,d,m,h1,e,q⟩:=h
 unfold anyD at e
 split at e
 .rename_i ds
  obtain⟨bs,e1,e2⟩:=qe e
  cases e2
  rw[JF e1]at h1
  obtain⟨v,rfl,hv⟩:=h1.inv1
  obtain⟨a,ys,rfl,hs,ht⟩:=hv.list_inv
  rw[ht.bools_inv]at hs
  obtain⟨u,rfl,ru⟩:=vals1 r
  cases(show u=KP a from ru)
  obtain⟨its,rv,p,_⟩:=I.list hs.sq
  have hb:=Wd rv
  have hl:=p.isList
  have bK:a<s.heap.objs.size:=by obtain⟨_,e,_⟩:=hl;exact Kz e
  refine call_any_walk (U6 hl ?_)
  refine⟨s.heap.objs.size,[s.heap.objs.size,a],[s.heap.objs.size],its.toArray.size,_,_,λi=>(bs[i]?).getD bE,rfl,Walks.list (A:=X.A.in1) (I.ok.hd hc) _ a (KD bK) its.toArray,
   ⟨⟨_,Ks _ rfl,rfl,rfl⟩,hl.push _⟩,λi v s' Q' E' hP hQ=>?_,λh' tk hk=>?_⟩
  .obtain⟨b,e,rfl⟩:=hb.get i v (by simpa using hP)
   simp only[e,Option.getD_some]at hQ
   exact VU hQ
  .have e:((Ku its.toArray.size).any λi=>(bs[i]?).getD bE)=bs.any id:=by
    rw[KA,hb.length];exact LSm.range_any bs
   rw[e]
   exact⟨.bl (bs.any id),H,I.kept (LSm.kept_iter hk),rfl,q _ H (Same.refl H) (.bool _)⟩
 .cases e
end
section
variable {X:Cx}{G:Gm}{M M' Mb L:ao}{fr:Fr}{f:aa}{p:aj}{pos:Pos}
theorem qir {K:Kd}{n k:Nat}{fi:ai}{g:af}(hg:GIn n k g):∀ σ H Q,tF K M (Q8 n k fi g p f) σ H Q->qbG k (tDI K M fi) (tDGc K M g) (tDT K M p) (tD K M f) σ H Q:=by
 intro σ H Q ⟨S,ρ,d,hs,e,q⟩
 obtain⟨ds,ys,e1,hn,hz,e2,rfl⟩:=Yi e
 exact qfy hg σ H Q S ρ ds ys hs e1 hn hz e2 λH' zs g2 dl D hD=>q _ _ (g2.lay' hD) (g2.free hD) (OwnO.laid hD dl)
variable {elt iter tg:KI}{ifs:aH}{x:Str}{N':aA}{px:Pos}{sc:V5}{n k:Nat}{fi:ai}{g:af}
theorem qhU (O:CompOk X N' k sc)(gi:GIn n k g)(hi:PDI X M tg iter fi)(hg:∀cl C fp sd s H,PDGc (qQ X N' sc cl C fp sd s H) M tg g)(hq:∀cl C fp sd s H,PDTs (qQ X N' sc cl C fp sd s H) M ifs p)(he:∀cl C fp sd s H,PD (qQ X N' sc cl C fp sd s H) M elt f)
  (hs:∀v,sD iter X.env v=pure v:=by intro _;rfl):PF X M (.ListComp elt [⟨tg,iter,ifs,0⟩] sc pos) (Q8 n k fi g p f) :=
 (qfl (wg:=tDGc X.K M g) (tt:=tDT X.K M p) (te:=tD X.K M f) O hi hg hq he hs).weak (qir gi)
theorem qjG (O:CompOk X N' 1 sc)(hx:N'[n]?=bB x)(hl:lc1 sc x=bD)(hi:PDI X M (.Name x px) iter fi)(hq:∀cl C fp sd s H,PDTs (qQ X N' sc cl C fp sd s H) M ifs p)(he:∀cl C fp sd s H,PD (qQ X N' sc cl C fp sd s H) M elt f)
  (hs:∀v,sD iter X.env v=pure v:=by intro _;rfl):PF X M (.ListComp elt [⟨.Name x px,iter,ifs,0⟩] sc pos) (ZM n fi p f):=by
 rw[Yh]
 exact qhU O (zx (Kp _)) hi (zM O hx hl) hq he hs
noncomputable def swB (bR sc:V5)(t:Str)(pt p:Pos):Bool:=decide (bR.names.lookup t=bB .local)&&(pt.line==p.line)&&!(sc.names.any λ(n,k)=>n==t&&(k==.local||k==.cell))
theorem qaH  (ft:X.env.scope=bR) (h:swB bR sc y py pos=bD):X.env.scope.names.lookup y=bB .local:=by
 subst ft
 unfold swB at h
 rw[KF,KF]at h
 exact sx h.1.1
theorem qkv    (ft:X.env.scope=bR) (h:swB bR sc y py pos=bD) (iI:X.env.blockKind=.function):sX (.ListComp elt gens sc pos) (bB (.Name y py)) line X.env=pure bD:=by
 have h0:=qaH ft h
 subst ft
 unfold swB at h
 rw[KF,KF]at h
 show pure (X.env.blockKind==.function&&X.env.kindOf y==bB .local&&py.line==pos.line&&!(sc.names.any λ(n,k)=>n==y&&(k==.local||k==.cell)))=pure bD
 have e1:(X.env.blockKind==ScopeKind.function)=bD:=by rw[iI];rfl
 have e2:(X.env.kindOf y==bB NameKind.local)=bD:=by
  show(X.env.scope.names.lookup y==bB NameKind.local)=bD
  rw[h0];rfl
 rw[e1,e2,h.1.2,h.2]
 rfl
theorem qbv (j:Nat){py eB:Pos}(O:CompOk X N' k sc)(gi:GIn n k g)(bR:V5)(ft:X.env.scope=bR)(hB:swB bR sc y py pos=bD)(hM:Out0 M j)(hL:j∉L)(hi:PDI X M tg iter fi)(hg:∀cl C fp sd s H,PDGc (qQ X N' sc cl C fp sd s H) M tg g)(hq:∀cl C fp sd s H,PDTs (qQ X N' sc cl C fp sd s H) M ifs p)(he:∀cl C fp sd s H,PD (qQ X N' sc cl C fp sd s H) M elt f)
  (hj:X.N[j]?=bB y:=by rfl) (iI:X.env.blockKind=.function:=by rfl)
  (hs:∀v,sD iter X.env v=pure v:=by intro _;rfl):PDS X G M L (j::M) Mb fr (.Assign [.Name y py] (.ListComp elt [⟨tg,iter,ifs,0⟩] sc pos) eB) (QW j (Q8 n k fi g p f)) :=
 (qfq (wg:=tDGc X.K M g) (tt:=tDT X.K M p) (te:=tD X.K M f) O hj (qaH ft hB) hi hg hq he (qkv ft hB iI) hs).weak λD σ H ⟨S,ρ,o,hs,e,q⟩=>by
  unfold QW at e
  split at e
  .rename_i hz
   obtain⟨d,e1,e⟩:=qe e
   cases e
   exact qir gi σ H _ ⟨S,ρ,d,hs.ds,e1,λp H1 g1 n o=>q _ H1 _ (hs.take n g1 o hM hL hz)⟩
  .cases e
theorem qhL (j:Nat){py eB:Pos}(O:CompOk X N' 1 sc)(hx:N'[n]?=bB x)(hl:lc1 sc x=bD)(bR:V5)(ft:X.env.scope=bR)(hB:swB bR sc y py pos=bD)(hM:Out0 M j)(hL:j∉L)(hi:PDI X M (.Name x px) iter fi)(hq:∀cl C fp sd s H,PDTs (qQ X N' sc cl C fp sd s H) M ifs p)(he:∀cl C fp sd s H,PD (qQ X N' sc cl C fp sd s H) M elt f)
  (hj:X.N[j]?=bB y:=by rfl) (iI:X.env.blockKind=.function:=by rfl)
  (hs:∀v,sD iter X.env v=pure v:=by intro _;rfl):PDS X G M L (j::M) Mb fr (.Assign [.Name y py] (.ListComp elt [⟨.Name x px,iter,ifs,0⟩] sc pos) eB) (QW j (ZM n fi p f)):=by
 rw[Yh]
 exact qbv j O (zx (Kp _)) bR ft hB hM hL hi (zM O hx hl) hq he hj iI hs
end
def qeW (N N':aA)(k:Nat)(bR sc:V5):Bool :=
 decide (sc.kind=.function)&&decide N.Nodup&&decide N'.Nodup&&decide (N'.length=N.length+k)&&sc.names.all (λy=>decide (y.2≠.cell)||decide (sc.names.lookup y.1=bB .cell))&&sc.names.all (λy=>decide (y.2≠.local)||decide (sc.names.lookup y.1=bB .local)) &&
 (N.zip N').all (λy=>(decide (y.1=y.2)&&(decide (sc.names.lookup y.2≠bB .local)&&decide (sc.names.lookup y.2≠bB .cell)))||decide (sc.names.lookup y.2=bC)) &&
 sc.names.all (λy=>decide (y.2≠.free)||decide (bR.names.lookup y.1=bB .cell)||decide (bR.names.lookup y.1=bB .free))
theorem CompOk.of {X:Cx}  (N N':aA) (bR:V5) (hc:X.calm=bD) (hN:X.N=N) (hs:X.env.scope=bR) (h:qeW N N' k bR sc=bD):CompOk X N' k sc:=by
 subst hN
 subst hs
 unfold qeW at h
 simp only[KF,sO,KN,NS]at h
 obtain⟨⟨⟨⟨⟨⟨⟨h1,h2⟩,l8⟩,h2l⟩,h3⟩,h4⟩,h7⟩,h8⟩:=h
 refine⟨hc,h1,h2,l8,h2l,λy hy q=>(h3 y hy).resolve_left (λz=>z q),λy hy q=>(h4 y hy).resolve_left (λz=>z q),λi y hi e=>?_,λy hy q=>?_⟩
 .have hz:(X.N.zip N')[i]?=bB (X.N[i],y):=by
   rw[Er]
   exact⟨Kj hi,e⟩
  rcases h7 _ (KY hz) with ⟨q,w⟩|q
  .refine .inl ⟨?_,w⟩
   rw[Kj hi]
   exact congrArg bB q
  .exact .inr q
 .rcases h8 y hy with (z|z)|z
  .exact absurd q z
  .exact .inl z
  .exact .inr z
theorem qaL:∀{ns:aF} {n:Int},n∈ns->PySem.W.WData.weight (.int n)<=PySem.W.WData.weightAll (ns.map .int)
 |m::ns,n,h=>by
  rw[Km,PySem.W.WData.weightAll]
  rcases Ko.mp h with rfl|h
  .omega
  .have:=qaL h
   omega
theorem W4 {ns:aF}(h:PySem.W.WData.layableAll [.list (ns.map .int)]=bD):∀n∈ns,Uk n<=2 ^ 20:=by
 intro n hn
 have h1:PySem.W.WData.layable (.list (ns.map .int))=bD:=by
  unfold PySem.W.WData.layableAll at h
  simpa using h
 unfold PySem.W.WData.layable at h1
 rw[KF]at h1
 have h2:=sx h1.2
 rw[PySem.W.WData.weight]at h2
 have h3:=Vx (qaL hn) h2
 rw[PySem.W.WData.weight]at h3
 exact h3
end L2
namespace Att
open PySem PySem.W PySem.Calls PyProof.Rows
theorem attach_callB {l:El}{n:Nat}{q:KO}{loose:List Str}{XP:(Str->Option Ke)->K4->Prop}{YP:K0->K4->Prop}{d:DefRec}
  (hn:l.most=bB n) (nz:d.params.defaults=[])
  (call:∀(w:K0) (s₀ s₁:Kf) (mg mb:Str->Option Ke) (fa:Kg) (o:Obj) (pm cd doc:Ke) (a:Kg) (vs:List Ke) (ns:List Int),
   Ground q loose [] XP w s₀ mg mb s₁.heap->YP w s₁.heap->
   s₁.heap.get? fa=bB o->o.data=.func (docDef d.name d.params d.body d.scope pm cd doc)->s₁.heap.CodeRec cd d.name->mg d.name=bB (.ref fa)->
   s₁.heap.get? a=bB { cls:=.type "list", data:=.seq vs.toArray }->IntsAre vs ns->ns.length<=n->(∀k∈ns,Uk k<=2 ^ 20)->s₁.gens=#[]->
   td (model l.prog w) callerA (.call (.ref fa) ⟨[.ref a],[]⟩) (λr s'=>r=.ok (.ret (.bool bD))/\OldK s₁.heap s'.heap/\s'.os=s₁.os/\ND s'.gens) s₁):
  WalkO q loose XP YP l.row.toRowW d [] (λf vs=>PySem.call f vs):=by
 intro w s₀ s₁ mg mb G Y fa o pm cd doc dV kV ho hd dD hD k8 hg args vals as gr nA hrd mW hlo
 obtain rfl:dV=.none:=Dflts.none hD nz
 obtain rfl:kV=.none:=Dflts.noKw hD
 obtain⟨a,vs,ns,rfl,rfl,fE,hints,hlen⟩:=qgk hn gr mW
 refine enter_call (codeAny_mono (call w s₀ s₁ mg mb fa o pm cd doc a vs ns G Y ho (fd_plain hd) dD k8 fE hints hlen (L2.W4 nA) hg) λr s' hq=>?_)
 obtain⟨rfl,h2,h3,h4⟩:=hq
 exact⟨.inl ⟨.bool bD,.bool bD,[],rfl,λ_=>rfl,.bool bD,qgi l _,λ_=>⟨List.Pairwise.nil,λ_ hm=>(nomatch hm)⟩⟩,h2,h3,h4⟩
end Att
namespace L2
open PySem PySem.Spec PyProof.Rows
def qey (K:Kd)(n:Nat):Sp:=λvs H Q _=>∃(a:Kg) (ns:aF),vs=[.ref a]/\SqL K H a (ns.map V.int)/\ns.length<=n/\(∀k∈ns,Uk k<=2 ^ 20)/\∀H',Q (.bl bD) H'
theorem qhg {P:KO}{w:K0}{K:Kd}{mg:aq}{base:K4}{CX:CXT}{k n:Nat}{f:Kg}{fd:VW}{ps:aA}{h:av}(F:FnOk P w K mg base CX k f fd ps (spF K 1 h))
  (e:∀ns:List Int,ns.length<=n->(∀k∈ns,Uk k<=2 ^ 20)->h [.list (ns.map .int)]=bB (.bool bD)):FnOk P w K mg base CX k f fd ps (qey K n) :=
 F.imp λvs H Q E ⟨a,ns,h1,h2,h3,h4,q⟩=>by
  subst h1
  exact⟨λ_=>False,[.list (ns.map .int)],.bool bD,(λ_ z=>z.elim),.cons (.list (h2.imp (λy=>⟨y,id⟩) id) (DenL.ints ns)) .nil,rfl,e ns h3 h4,λv H' _ d=>by rw[d.bool_inv];exact q H'⟩
theorem qgp {l:El}{n k:Nat}{q:KO}{loose:aA}{XP:(Str->Option Ke)->K4->Prop}{YP:K0->K4->Prop}{d:DefRec}{K:NN->Kd}{x:Str}
  (hn:l.most=bB n) (oZ:n<=sv) (nz:d.params.defaults=[]) (hr:Room k callerA)
  (hY:∀(w:K0) (h:K4),YP w h->(K w.params).In h)
  (F:∀(w:K0) (mg:aq) (fa:Kg) (h:K4),(K w.params).In h->h.Ns su mg->mg d.name=bB (.ref fa)->
   ∃fd:VW,(∀(s:Kf) (u:Ke),BindsTo s fd ⟨[u],[]⟩ [(x,u)])/\
    ∀base:K4,(K w.params).In base->base.Ns su mg->FnOk l.prog w (K w.params) mg base CX0 k fa fd [x] (qey (K w.params) n)):
  PySem.W.WalkO q loose XP YP l.row.toRowW d [] (λf vs=>PySem.call f vs):=by
 refine Att.attach_callB hn nz λw s₀ s₁ mg mb fa o pm cd doc a vs ns G Y ho hd dD k8 fE hints hlen k9 hg=>?_
 have KX:=hY w _ Y
 obtain⟨fd,hb,hF⟩:=F w mg fa _ KX G.T.g k8
 exact qhf KX G.T.g G.T.b G.T.builtins G.T.nolimit hg fE hints (Vx hlen oZ) hr hF hb (λH hO hS=>⟨a,ns,rfl,hS,hlen,k9,λ_=>rfl⟩) λH e s' h=>h
mutual
def ltX:Ka->Ka->Option Bool
 |.int i,.int j=>bB (decide (i<j))
 |.tuple xs,.tuple ys=>ltXs xs ys
 |.list xs,.list ys=>ltXs xs ys
 |_,_=>bC
def ltXs:List Ka->List Ka->Option Bool
 |[],[]=>bB bE
 |[],_::_=>bB bD
 |_::_,[]=>bB bE
 |x::xs,y::ys=>if KC x y=bD then ltXs xs ys else ltX x y
end
def LtAt (A:KZ)(s:Kf)(y x:Ke)(b:Bool):Prop:=∀(prog:KO) (w:K0) (E Q:ag),Q (.bool b) s->sm (model prog w) A (sR .Lt y x) Q E s
def w6 (A:KZ)(s:Kf):List Ke->List Ke->Bool->Prop
 |[],[],r=>r=bE
 |[],_::_,r=>r=bD
 |_::_,[],r=>r=bE
 |y::ys,x::xs,r=>∃e,SeqAt.EqAt A s y x e/\(e=bD->w6 A s ys xs r)/\(e=bE->LtAt A s y x r)
section
open PySem.SeqAt
open PySem.AutoSeq1 (wpAny_loadPart')
open PySem.MeetsSeq PySem.MeetsSeq2 PySem.MeetsSeq3
theorem qcJ (l b:Kg)(items bL:aS)(n n2:Nat)(dd dM:aO)(sl dN:au):
  Meets (UQ.«tuple.__lt__» ⟨[.ref l,.ref b],[]⟩)
   (λA R s=>s.heap.get? l=bB { cls:=.type "tuple", dict:=dd,data:=.seq items n,slots:=sl }/\s.heap.get? b=bB { cls:=.type "tuple", dict:=dM,data:=.seq bL n2,slots:=dN }/\
    ∃r,w6 A.in1 s items.toList bL.toList r/\R (.ok (.ret (.bool r))) s) :=
 .of_wp λprog w A R s h=>by
  obtain⟨hp,g,d,tk,os⟩:=s;obtain⟨hl,hb,r,hx,h⟩:=h
  have f2:=AutoSeq1.sub_tuple_tuple
  wp_walk using sy hl,sy hb,Nv _ (λrest b s'=>b.1=bC/\s'=⟨hp,g,d,tk,os⟩/\∃(vs ws:ar),rest=vs.zip ws/\
   w6 A.in1 ⟨hp,g,d,tk,os⟩ vs ws r/\vs.length+bL.size=ws.length+items.size) _
  case turn =>
   rintro⟨y,x⟩ rest b s' ⟨du,rfl,vs,ws,hz,fF,hlen⟩
   cases vs with
   |nil=>rw[En]at hz;cases hz
   |cons v vs =>
    cases ws with
    |nil=>rw[N9]at hz;cases hz
    |cons u ws =>
     rw[Xu]at hz
     injection hz with nB fG
     injection nB with hy ij
     subst hy ij
     simp only[Kv]at hlen
     obtain⟨e,he,h1,h2⟩:=fF
     refine Kb (he prog w _ _ ?_)
     cases e with
     |true =>
      wp_walk
      exact⟨rfl,rfl,_,_,fG,h1 rfl,by omega⟩
     |false =>
      have la:=h2 rfl prog w
      wp_walk using la
      exact⟨_,rfl,by simpa using h⟩
  case fin =>
   rintro⟨b1,b2⟩ s' ⟨du,rfl,vs,ws,hz,fF,hlen⟩
   simp only at du
   subst du
   have hv:r=decide (items.size<bL.size):=by
    cases vs with
    |nil =>
     cases ws with
     |nil =>
      simp only[Uu]at hlen
      rw[show r=bE from fF]
      exact(se '#').symm
     |cons c hw =>
      simp only[Uu,Kv]at hlen
      rw[show r=bD from fF]
      exact(sh '#').symm
    |cons a hv =>
     cases ws with
     |nil =>
      simp only[Uu,Kv]at hlen
      rw[show r=bE from fF]
      exact(se '#').symm
     |cons c hw =>
      rw[Xu]at hz
      cases hz
   rw[hv]at h
   wp_walk
   exact⟨_,rfl,by simpa [NL] using h⟩
  case h =>
   exact⟨rfl,rfl,items.toList,bL.toList,rfl,hx,by simp [Fg]⟩
end
theorem qhn {A:KZ}{s:Kf}{items bL:aS}(hl:IsTup s.heap l items)(hb:IsTup s.heap b bL)(hu:A.units<sL)(h:w6 A.in1 s items.toList bL.toList r):LtAt A s (.ref l) (.ref b) r:=λprog w E Q q=>by
 obtain⟨⟨cls,dd,data,sl⟩,ho,hc,n,hd⟩:=id hl
 obtain⟨⟨fA,dM,data2,dN⟩,eY,eF,n2,hd2⟩:=id hb
 simp only at hc hd eF hd2
 subst hc hd eF hd2
 exact Nn (op:=.Lt) ⟨_,ho,rfl⟩ ⟨_,eY,rfl⟩ PySem.F.slot_tuple_lt PySem.F.entry_tuple_lt (PySem.F.args_tuple_lt_2 _ _) (qcJ l b items bL n n2 dd dM sl dN)
  ⟨ho,eY,r,h,show Um r≠NT/\Q (.bool r) s from ⟨(λx=>nomatch x),q⟩⟩ hu
section
open PySem.SeqAt
open PySem.AutoSeq1 (wpAny_loadPart')
open PySem.MeetsSeq PySem.MeetsSeq2 PySem.MeetsSeq3
theorem qci (l b:Kg)(xs ys:aS)(n n2:Nat)(dd dM:aO)(sl dN:au):∀(k i:Nat),xs.size=i+k->i<=ys.size->Meets (UQ.«list.__eq__.loop» ⟨[.ref l,.ref b,tm i,tm 0],[]⟩)
   (λA R s=>s.heap.get? l=bB ⟨.type "list", dd,.seq xs n,sl⟩/\s.heap.get? b=bB ⟨.type "list", dM,.seq ys n2,dN⟩/\∃r,w6 A.in1 s (xs.toList.drop i) (ys.toList.drop i) r/\R (.ok (.ret (.bool r))) s):=by
 intro k
 induction k with
 |zero =>
  intro i hx hy prog w A R s ⟨hl,hb,r,hq,hR⟩
  obtain⟨hp,g,d,tk,os⟩:=s
  have e1:xs.toList.drop i=[]:=Np (by rw[Vh];omega)
  have e2:xs[((i:Nat):Int).toNat]?=bC:=by rw[Va];exact V2 '#'
  rw[e1]at hq
  have hr:r=decide (xs.size<ys.size):=by
   by_cases h:i<ys.size
   .have e3:ys.toList.drop i=ys[i]::ys.toList.drop (i+1):=by rw[VD (by rw[Vh];exact h),NU]
    rw[e3]at hq
    rw[show r=bD from hq];exact(sh '#').symm
   .rw[Np (by rw[Vh];omega)]at hq
    rw[show r=bE from hq];exact(se '#').symm
  rw[hr]at hR
  wp_walk using sy hl,sy hb
  rw[e2]
  wp_walk using sy hl,sy hb
  exact hR
 |succ k ih =>
  intro i hx hy prog w A R s ⟨hl,hb,r,hq,hR⟩
  obtain⟨hp,g,d,tk,os⟩:=s
  have h1:i<xs.size:=by omega
  have e1:xs.toList.drop i=xs[i]::xs.toList.drop (i+1):=by rw[VD (by rw[Vh];exact h1),NU]
  have e2:xs[((i:Nat):Int).toNat]?=bB xs[i]:=by rw[Va];exact V3 h1
  rw[e1]at hq
  wp_walk using sy hl,sy hb
  by_cases h2:i<ys.size
  .have e3:ys.toList.drop i=ys[i]::ys.toList.drop (i+1):=by rw[VD (by rw[Vh];exact h2),NU]
   have e4:ys[((i:Nat):Int).toNat]?=bB ys[i]:=by rw[Va];exact V3 h2
   rw[e3]at hq
   obtain⟨e,he,q1,q2⟩:=hq
   rw[e2,e4]
   refine Kb (he prog w _ _ ?_)
   cases e with
   |true =>
    wp_walk
    refine⟨VY plain_eq_loop _,Ua entry_eq_loop ?_⟩
    rw[VN plain_eq_loop _]
    exact ih (i+1) '#' h2 prog w A R _ ⟨hl,hb,r,q1 rfl,hR⟩
   |false =>
    wp_walk using sy hl,sy hb
    rw[e2,e4]
    have la:=q2 rfl prog w
    wp_walk using la
    exact hR
  .rw[Np (as:=ys.toList) (by rw[Vh];omega)]at hq
   have e4:ys[((i:Nat):Int).toNat]?=bC:=by rw[Va];exact V2 '#'
   have hr:r=decide (xs.size<ys.size):=by rw[show r=bE from hq];exact(se '#').symm
   rw[hr]at hR
   rw[e2,e4]
   wp_walk using sy hl,sy hb
   exact hR
theorem qdo (l b:Kg)(xs ys:aS)(n n2:Nat)(dd dM:aO)(sl dN:au):Meets (UQ.«list.__lt__» ⟨[.ref l,.ref b],[]⟩)
   (λA R s=>s.heap.get? l=bB ⟨.type "list", dd,.seq xs n,sl⟩/\s.heap.get? b=bB ⟨.type "list", dM,.seq ys n2,dN⟩/\∃r,w6 A.in1 s xs.toList ys.toList r/\R (.ok (.ret (.bool r))) s):=by
 intro prog w A R s ⟨hl,hb,r,hq,hR⟩
 obtain⟨hp,g,d,tk,os⟩:=s
 have f3:=AutoSeq1.sub_list_list
 wp_walk using sy hl,sy hb
 refine⟨VY plain_eq_loop _,Ua entry_eq_loop ?_⟩
 rw[VN plain_eq_loop _]
 exact qci l b xs ys n n2 dd dM sl dN xs.size 0 (EE _).symm (Vr _) prog w A R _ ⟨hl,hb,r,hq,hR⟩
end
theorem qf5 {A:KZ}{s:Kf}{o o2:Obj}{xs ys:aS}  (h1:s.heap.get? l=bB o) (c1:o.cls=.type "list") (d1:o.data=.seq xs n) (h2:s.heap.get? b=bB o2) (c2:o2.cls=.type "list") (d2:o2.data=.seq ys n2) (hu:A.units<sL) (h:w6 A.in1 s xs.toList ys.toList r):LtAt A s (.ref l) (.ref b) r:=λprog w E Q q=>by
 obtain⟨cls,dd,data,sl⟩:=o
 obtain⟨fA,dM,data2,dN⟩:=o2
 simp only at c1 d1 c2 d2
 subst c1 d1 c2 d2
 exact Nn (op:=.Lt) ⟨_,h1,rfl⟩ ⟨_,h2,rfl⟩ PySem.F.slot_list_lt PySem.F.entry_list_lt (PySem.F.args_list_lt_2 _ _) (qdo l b xs ys n n2 dd dM sl dN)
  ⟨h1,h2,r,h,show Um r≠NT/\Q (.bool r) s from ⟨(λx=>nomatch x),q⟩⟩ hu
theorem Wi {A:KZ}{s:Kf}(hu:A.units+m+1<sL)(hit:∀(x y:Ka) (a b:Ke) (as bs:aw) (r:Bool),x.depth<=m->UM s.heap a x as->UM s.heap b y bs->x.canLay0=bD->y.canLay0=bD->ltX x y=bB r->LtAt A s a b r):
  ∀(xs ys:ae) (vs ws:ar) (as bs:aw) (r:Bool),KB xs<=m->V1 s.heap vs xs as->V1 s.heap ws ys bs->Kq xs=bD->Kq ys=bD->ltXs xs ys=bB r->w6 A s vs ws r:=by
 intro xs
 induction xs with
 |nil =>
  intro ys vs ws as bs r _ h1 h2 _ _ e
  cases h1
  cases ys with
  |nil=>cases h2;rw[ltXs]at e;cases e;rfl
  |cons y ys=>cases h2;rw[ltXs]at e;cases e;rfl
 |cons x xs ih =>
  intro ys vs ws as bs r hm h1 h2 c1 c2 e
  cases h1 with
  |cons rx lb =>
   cases ys with
   |nil=>cases h2;rw[ltXs]at e;cases e;rfl
   |cons y ys =>
    cases h2 with
    |cons ry lg =>
     have fH:x.canLay0=bD/\Kq xs=bD:=by simpa [Kq] using c1
     have fI:y.canLay0=bD/\Kq ys=bD:=by simpa [Kq] using c2
     have hd:max x.depth (KB xs)<=m:=by rw[KB]at hm;exact hm
     have m1:=Vx (NV x.depth (KB xs)) hd
     have m2:=Vx (Nx x.depth (KB xs)) hd
     rw[ltXs]at e
     refine⟨KC x y,Nw x y A s _ _ _ _ rx ry fH.1 fI.1 (by have:=NR x.depth y.depth;omega),λq=>?_,λq=>?_⟩
     .rw[si q]at e
      exact ih ys _ _ _ _ r m2 lb lg fH.2 fI.2 e
     .rw[sk (by rw[q];exact Vl)]at e
      exact hit x y _ _ _ _ r m1 rx ry fH.1 fI.1 e
theorem JM:∀(n:Nat) (da db:Ka) (A:KZ) (s:Kf) (a b:Ke) (as bs:aw) (r:Bool),da.depth<=n->UM s.heap a da as->UM s.heap b db bs->da.canLay0=bD->db.canLay0=bD->A.units+n+1<sL->ltX da db=bB r->LtAt A s a b r:=by
 intro n
 induction n with
 |zero =>
  intro da db A s a b as bs r hd ra rb ca cb hu e
  cases da with
  |int i =>
   cases db with
   |int j =>
    cases ra;cases rb
    rw[ltX]at e
    cases e
    exact λprog w E Q q=>HT.qdN A s i _ j _ prog w E Q q
   |_=>simp [ltX]at e
  |tuple xs =>
   rw[UN]at hd
   omega
  |list xs =>
   rw[UN]at hd
   omega
  |_=>simp [ltX]at e
 |succ n ih =>
  intro da db A s a b as bs r hd ra rb ca cb hu e
  cases da with
  |int i =>
   cases db with
   |int j =>
    cases ra;cases rb
    rw[ltX]at e
    cases e
    exact λprog w E Q q=>HT.qdN A s i _ j _ prog w E Q q
   |_=>simp [ltX]at e
  |tuple xs =>
   cases db with
   |tuple ys =>
    rw[UN]at hd
    rw[ltX]at e
    cases ra with
    |tuple e1 c1 d1 t1 =>
     cases rb with
     |tuple e2 c2 d2 t2 =>
      refine qhn ⟨_,e1,c1,_,d1⟩ ⟨_,e2,c2,_,d2⟩ '#' ?_
      exact Wi (m:=n) (by show A.units+1+n+1<sL;omega) (λx y a b as bs r hx r1 r2 k1 k2 e=>ih x y A.in1 s a b as bs r hx r1 r2 k1 k2 (by show A.units+1+n+1<sL;omega) e)
       xs ys _ _ _ _ r '#' t1 t2 (by simpa [KU] using ca) (by simpa [KU] using cb) e
   |_=>simp [ltX]at e
  |list xs =>
   cases db with
   |list ys =>
    rw[UN]at hd
    rw[ltX]at e
    cases ra with
    |list e1 c1 d1 t1 =>
     cases rb with
     |list e2 c2 d2 t2 =>
      refine qf5 e1 c1 d1 e2 c2 d2 '#' ?_
      exact Wi (m:=n) (by show A.units+1+n+1<sL;omega) (λx y a b as bs r hx r1 r2 k1 k2 e=>ih x y A.in1 s a b as bs r hx r1 r2 k1 k2 (by show A.units+1+n+1<sL;omega) e)
       xs ys _ _ _ _ r '#' t1 t2 (by simpa [KU] using ca) (by simpa [KU] using cb) e
   |_=>simp [ltX]at e
  |_=>simp [ltX]at e
def ltD2 (x y:Ka):Option Ka:=if K8 x=bD/\K8 y=bD/\x.depth<=60 then ob (ltX x y) λr=>bB (.bool r) else bC
theorem qgL {X:Cx}(hr:Room k X.A):OpD X (sA .Lt) ltD2:=by
 intro sd s σ H x y v u Q I rx ry ⟨S,dx,dy,d,m,h1,h2,e,q⟩
 unfold ltD2 at e
 split at e
 .rename_i hc
  obtain⟨as,q1⟩:=h1.reads I (KG hc.1) rx
  obtain⟨bs,q2⟩:=h2.reads I (KG hc.2.1) ry
  obtain⟨r,e1,e⟩:=qe e
  cases e
  have hu:=hr.units
  exact JM 60 dx dy X.A s v u as bs r hc.2.2 q1 q2 (KG hc.1) (KG hc.2.1) '#' e1 X.prog X.w X.xe _ (j5 I (q _ H (Same.refl H) (.bool r)) rfl)
 .cases e
end L2
namespace L2
open PySem PySem.Spec PyProof.Rows PySem.W
def runC {α:Type}(lt:bp):KasT α->Option α
 |.ret a=>bB a
 |.ask i j k=>ob (lt i j) λb=>runC lt (k b)
theorem qfv {α:Type}  {Q:α->Kf->Prop} (hc:∀i j b C,lt i j=bB b->C b s->cmp i j C s):
  ∀(t:KasT α) (a:α),runC lt t=bB a->Q a s->t.kasWp cmp Q s
 |.ret x,a,e,q=>by cases e;exact q
 |.ask i j k,a,e,q=>by
  obtain⟨b,e1,e2⟩:=qe e
  exact hc i j b _ e1 (qfv hc (k b) a e2 q)
section
variable {prog:KO}{w:K0}{A:KZ}{E:ag}{s:Kf}
def Kept (a:Kg)(s s':Kf):Prop:=∀b o,b≠a->s.heap.get? b=bB o->s'.heap.get? b=bB o
theorem qew {vs:ar}{P:PySem.Fin->Kf->Prop}{κ:SortKind}{p:aX}(ho:s.heap.get? a=bB (sS "list" vs.toArray n))(h2:2<=vs.length)(iJ:vs.length<64)
  (hk:∀(s':Kf) (Q:SortKind->Kf->Prop),Kept a s s'->Q κ s'->sm (model prog w) A (keyKind' vs.toArray) Q E s')
  (hr:∀(s':Kf) (G:Array Nat->Kf->Prop),Kept a s s'->G p s'->(EF vs.length).kasWp (kas_ask prog w A κ vs) G s')
  (h:P (.done (.ret .none)) { s with heap:=sortedHeap s.heap a vs (p.toList.map λi=>vs.getD i Vo).toArray }):
  sm (model prog w) A (UQ.«list.sort» ⟨[.ref a],[]⟩) P E s:=by
 have small:vs.length<=sv:=by rw[Xe];omega
 have lt:=Kz ho
 obtain⟨e1,o1⟩:∃e1,(s.heap.update a (Up λ_=>#[])).get? a=bB (sS "list" #[] e1):=⟨_,get?_update_seq ho λ_=>#[]⟩
 rw[list_sort_plain]
 refine Kb (listItems_at ho rfl (Kb (Ef ho rfl (Kb (E1 o1 rfl (Kb ?_))) (by simpa using small) (Vr _))))
 refine E7 (Kb (Eg (VJ ?_) (Vr _))) (by simpa using small)
 obtain⟨h6,hE⟩:∃h6,h6=((s.heap.update a (Up λ_=>(#[]:Array Ke))).push (sS "tuple" vs.toArray 0)).push (sS "list" #[] 0):=⟨_,rfl⟩
 have kp:Kept a s { s with heap:=h6 }:=λb o ne e=>by
  show h6.get? b=bB o
  rw[hE]
  refine Kh _ (Kh _ ?_)
  rw[Heap.get?_update_ne _ _ _ _ ne]
  exact e
 have o6:h6.get? a=bB (sS "list" #[] e1):=by
  rw[hE]
  exact Kh _ (Kh _ o1)
 show sm (model prog w) A _ P E { s with heap:=((s.heap.update a (Up λ_=>(#[]:Array Ke))).push (sS "tuple" vs.toArray 0)).push (sS "list" #[] 0) }
 rw[←hE]
 have n2:¬vs.toArray.size<2:=by rw[KA];omega
 dsimp only
 rw[sk n2,sk n2]
 refine Kb (hk _ _ kp ?_)
 refine Kb (Uy (kat_run (Q:=λcS s'=>s'={ s with heap:=h6 }/\arrOf cS=p.map (kas_item (vs.toArray.zip vs.toArray))/\failedOf cS=bC/\p.size=vs.length) rfl h2 iJ
  (λp' cS s' z nC hf hg=>⟨hg.1,by rw[←hg.2];exact nC,hf,by rw[←hg.2];exact z⟩) (hr _ (λp' s'=>s'={ s with heap:=h6 }/\p'=p) kp ⟨rfl,rfl⟩)) ?_ λ_ _ e=>e)
 rintro⟨⟨⟩,cS⟩ s' ⟨rfl,nC,hf,hz⟩
 dsimp only
 rw[kat_snds rfl nC]
 refine Kb (E1 o6 rfl (Kb (Ef o6 rfl ?_ (Vr _) (by rw[KA,Kc,Vh,hz];omega))))
 rw[hf]
 simp only[bne_self_eq_false,Vz,sQ]
 refine Ki ?_
 rw[hE]
 exact h
theorem qex {vs:ar}{P:PySem.Fin->Kf->Prop}(ho:s.heap.get? a=bB (sS "list" vs.toArray n))(h2:vs.length<2)
  (h:P (.done (.ret .none)) { s with heap:=sortedHeap s.heap a vs vs.toArray }):sm (model prog w) A (UQ.«list.sort» ⟨[.ref a],[]⟩) P E s:=by
 have small:vs.length<=sv:=by rw[Xe];omega
 obtain⟨e1,o1⟩:∃e1,(s.heap.update a (Up λ_=>#[])).get? a=bB (sS "list" #[] e1):=⟨_,get?_update_seq ho λ_=>#[]⟩
 rw[list_sort_plain]
 refine Kb (listItems_at ho rfl (Kb (Ef ho rfl (Kb (E1 o1 rfl (Kb ?_))) (by simpa using small) (Vr _))))
 refine E7 (Kb (Eg (VJ ?_) (Vr _))) (by simpa using small)
 obtain⟨h6,hE⟩:∃h6,h6=((s.heap.update a (Up λ_=>(#[]:Array Ke))).push (sS "tuple" vs.toArray 0)).push (sS "list" #[] 0):=⟨_,rfl⟩
 have o6:h6.get? a=bB (sS "list" #[] e1):=by
  rw[hE]
  exact Kh _ (Kh _ o1)
 show sm (model prog w) A _ P E { s with heap:=((s.heap.update a (Up λ_=>(#[]:Array Ke))).push (sS "tuple" vs.toArray 0)).push (sS "list" #[] 0) }
 rw[←hE]
 have n2:vs.toArray.size<2:=by rw[KA];omega
 dsimp only
 rw[si n2,si n2]
 refine Kb (Ki ?_)
 rw[StateT.run_pure]
 refine Kb (Ki ?_)
 dsimp only
 have eo:Array.map (λx=>x.2) (vs.toArray.zip vs.toArray)=vs.toArray:=by
  apply EG.mp
  simp [List.map_snd_zip]
 show sm (model prog w) A (seqEpoch a >>= _) P E { s with heap:=h6 }
 refine Kb (E1 o6 rfl (Kb ?_))
 rw[show Array.map (λx=>x.2) (arrOf (SortSt.mk' general' (vs.toArray.zip vs.toArray) #[] 7 bC))=vs.toArray from eo]
 refine Ef o6 rfl ?_ (Vr _) (by rw[KA];omega)
 simp only[bne_self_eq_false,Vz,sQ]
 refine Ki ?_
 rw[hE]
 exact h
theorem qcF {vs:ar}{Q:ag}{κ:SortKind}{p:aX}(hl:s.heap.IsList l vs.toArray)(h2:2<=vs.length)(iJ:vs.length<64)
  (hk:∀(s':Kf) (Q:SortKind->Kf->Prop),(∀b o,s.heap.get? b=bB o->s'.heap.get? b=bB o)->Q κ s'->sm (model prog w) A.in1.in1 (keyKind' vs.toArray) Q (λ_ _=>False) s')
  (hr:∀(s':Kf) (G:Array Nat->Kf->Prop),(∀b o,s.heap.get? b=bB o->s'.heap.get? b=bB o)->G p s'->(EF vs.length).kasWp (kas_ask prog w A.in1.in1 κ vs) G s')
  (h:Q (.ref (s.heap.objs.size+1)) { s with heap:=sortedAll s.heap vs (p.toList.map λi=>vs.getD i Vo).toArray }):
  sm (model prog w) A (call (.builtin "sorted") [.ref l]) Q E s:=by
 have small:vs.length<=sv:=by rw[Xe];omega
 refine Calls.call_function_entry kind_sorted plain_sorted entry_sorted (args_sorted1 _) ?_
 unfold UQ.«sorted»
 refine Kb (m:=checkCount "sorted" 1 1 _) (Ki (Kb (collect_list hl (Kb (Eg ?_ (by simpa using small))) (by simpa using small))))
 have zz:((s.heap.push (sS "list" #[] 0)).update s.heap.objs.size (Up (·++vs.toArray))).objs.size=s.heap.objs.size+1:=by rw[Heap.size_update,size_push']
 obtain⟨h3,hH⟩:∃h3,h3=((s.heap.push (sS "list" #[] 0)).update s.heap.objs.size (Up (·++vs.toArray))).push (sS "list" vs.toArray 0):=⟨_,rfl⟩
 have oL:h3.get? (s.heap.objs.size+1)=bB (sS "list" vs.toArray 0):=by
  rw[hH,←zz]
  exact Ks _ rfl
 have keep:∀b o,s.heap.get? b=bB o->h3.get? b=bB o:=λb o e=>by
  rw[hH]
  have bK:=Kz e
  refine Kh _ ?_
  rw[Heap.get?_update_ne _ _ _ _ (KD bK)]
  exact Kh _ e
 show sm _ _ _ _ _ { s with heap:=((s.heap.push (sS "list" #[] 0)).update s.heap.objs.size (Up (·++vs.toArray))).push (sS "list" vs.toArray 0) }
 rw[zz,←hH]
 have k2:∀s':Kf,Kept (s.heap.objs.size+1) { s with heap:=h3 } s'->∀b o,s.heap.get? b=bB o->s'.heap.get? b=bB o:=λs' kp b o e=>kp b o (KD (K3 (Kz e))) (keep b o e)
 refine Kb (VJ (VE slot_list_sort ⟨_,oL,rfl⟩ entry_list_sort (qew (κ:=κ) (p:=p) oL h2 iJ (λs' Q kp q=>Uy (hk s' Q (k2 s' kp) q) (λ_ _ z=>z) λ_ _ z=>z.elim) (λs' G kp q=>hr s' G (k2 s' kp) q) ⟨_,rfl,?_⟩) (args_list_sort _)))
 refine Ki ⟨_,rfl,?_⟩
 have hA:sortedHeap h3 (s.heap.objs.size+1) vs (p.toList.map λi=>vs.getD i Vo).toArray=sortedAll s.heap vs (p.toList.map λi=>vs.getD i Vo).toArray:=by
  rw[hH]
  rfl
 rw[hA]
 exact h
theorem qcG {vs:ar}{Q:ag}(hl:s.heap.IsList l vs.toArray)(h2:vs.length<2)
  (h:Q (.ref (s.heap.objs.size+1)) { s with heap:=sortedAll s.heap vs vs.toArray }):
  sm (model prog w) A (call (.builtin "sorted") [.ref l]) Q E s:=by
 have small:vs.length<=sv:=by rw[Xe];omega
 refine Calls.call_function_entry kind_sorted plain_sorted entry_sorted (args_sorted1 _) ?_
 unfold UQ.«sorted»
 refine Kb (m:=checkCount "sorted" 1 1 _) (Ki (Kb (collect_list hl (Kb (Eg ?_ (by simpa using small))) (by simpa using small))))
 have zz:((s.heap.push (sS "list" #[] 0)).update s.heap.objs.size (Up (·++vs.toArray))).objs.size=s.heap.objs.size+1:=by rw[Heap.size_update,size_push']
 obtain⟨h3,hH⟩:∃h3,h3=((s.heap.push (sS "list" #[] 0)).update s.heap.objs.size (Up (·++vs.toArray))).push (sS "list" vs.toArray 0):=⟨_,rfl⟩
 have oL:h3.get? (s.heap.objs.size+1)=bB (sS "list" vs.toArray 0):=by
  rw[hH,←zz]
  exact Ks _ rfl
 show sm _ _ _ _ _ { s with heap:=((s.heap.push (sS "list" #[] 0)).update s.heap.objs.size (Up (·++vs.toArray))).push (sS "list" vs.toArray 0) }
 rw[zz,←hH]
 refine Kb (VJ (VE slot_list_sort ⟨_,oL,rfl⟩ entry_list_sort (qex oL h2 ⟨_,rfl,?_⟩) (args_list_sort _)))
 refine Ki ⟨_,rfl,?_⟩
 have hA:sortedHeap h3 (s.heap.objs.size+1) vs vs.toArray=sortedAll s.heap vs vs.toArray:=by
  rw[hH]
  rfl
 rw[hA]
 exact h
end
def qdp (ds:ae)(i j:Nat):Option Bool:=match ds[i]?,ds[j]? with
 |some x,bB y=>ltX x y
 |_,_=>bC
noncomputable def keyD:Ka->Nat
 |.tuple (.int _::_)=>0
 |.tuple (.tuple _::_)=>1
 |.int _=>2
 |_=>3
def qdD (ds:ae)(p:aX):Option Ka:=if (p.toList.all λi=>decide (i<ds.length))=bD/\p.toList.length<=1000 then bB (.list (p.toList.map λi=>ds.getD i .none)) else bC
def jk (k:Nat)(ds:ae):Bool:=(ds.all λd=>keyD d==k)&&(decide (2<=ds.length)&&(decide (ds.length<64)&&(Kq ds&&decide (KB ds<=50))))
def Qq:List Ka->Option Ka
 |[.list ds]=>if ds.length<2 then bB (.list ds) else if jk 0 ds=bD\/jk 1 ds=bD then ob (runC (qdp ds) (EF ds.length)) λp=>qdD ds p else bC
 |_=>bC
section
variable {prog:KO}{w:K0}{A:KZ}{s:Kf}
theorem qcf {b fin:Bool}  (hu:A.units+m+1<sL) (q:Q r s):
  ∀(xs ys:ae) (vs ws:ar) (as bs:aw) (i:Nat),KB xs<=m->V1 s.heap vs xs as->V1 s.heap ws ys bs->Kq xs=bD->Kq ys=bD->ltXs xs ys=bB r->
   (b=bD->i=0->∀x y,xs.head?=bB x->ys.head?=bB y->∃n k,x=.int n/\y=.int k)->fin=decide (xs.length<ys.length)->KatLex prog w A b fin Q (vs.zip ws) i s:=by
 intro xs
 induction xs with
 |nil =>
  intro ys vs ws as bs i _ h1 h2 _ _ e _ hf
  cases h1
  rw[En]
  refine kat_nil ?_
  cases ys with
  |nil=>rw[ltXs]at e;cases e;rw[hf];simpa using q
  |cons y ys=>rw[ltXs]at e;cases e;rw[hf];simpa using q
 |cons x xs ih =>
  intro ys vs ws as bs i hm h1 h2 c1 c2 e hb hf
  cases h1 with
  |cons rx lb =>
   cases ys with
   |nil =>
    cases h2
    rw[N9]
    refine kat_nil ?_
    rw[ltXs]at e;cases e;rw[hf];simpa using q
   |cons y ys =>
    cases h2 with
    |cons ry lg =>
     have fH:x.canLay0=bD/\Kq xs=bD:=by simpa [Kq] using c1
     have fI:y.canLay0=bD/\Kq ys=bD:=by simpa [Kq] using c2
     have hd:max x.depth (KB xs)<=m:=by rw[KB]at hm;exact hm
     have m1:=Vx (NV x.depth (KB xs)) hd
     have m2:=Vx (Nx x.depth (KB xs)) hd
     rw[ltXs]at e
     rw[Xu]
     refine kat_cons (Nw x y A s _ _ _ _ rx ry fH.1 fI.1 (by have:=NR x.depth y.depth;omega) prog w _ _ (kat_go (λz=>?_) λz=>?_))
     .rw[si z]at e
      refine kat_yes (ih ys _ _ _ _ (i+1) m2 lb lg fH.2 fI.2 e (λ_ z=>by omega) ?_)
      rw[hf,Kv,Kv]
      exact decide_eq_decide.mpr '#'
     .rw[sk (by rw[z];exact Vl)]at e
      refine kat_no ?_
      cases nE:(b&&i==0) with
      |true =>
       rw[KF]at nE
       obtain⟨n,k,rfl,rfl⟩:=hb nE.1 (by simpa using nE.2) x y rfl rfl
       cases rx;cases ry
       rw[ltX]at e
       cases e
       exact oneLt_int q
      |false =>
       exact kat_one _ _ (JM m x y A s _ _ _ _ r m1 rx ry fH.1 fI.1 hu e prog w _ _ q)
theorem wu:∀{vs:ar} {ds:ae} {as:aw},V1 h vs ds as->vs.length=ds.length
 |_,_,_,.nil=>rfl
 |_,_,_,.cons _ t=>by rw[Kv,Kv,wu t]
theorem wj:∀{vs:ar} {ds:ae} {as:aw} {i:Nat} {d:Ka},V1 h vs ds as->ds[i]?=bB d->∃v bs,vs[i]?=bB v/\UM h v d bs
 |_,_,_,_,_,.nil,e=>by simp at e
 |_,_,_,0,_,.cons r _,e=>by simp at e;subst e;exact⟨_,_,rfl,r⟩
 |_,_,_,i+1,d,.cons _ t,e=>by
  obtain⟨v,bs,h1,h2⟩:=wj (i:=i) (d:=d) t (by simpa using e)
  exact⟨v,bs,by simpa using h1,h2⟩
theorem Yg:∀{ds:ae} {i:Nat} {d:Ka},Kq ds=bD->ds[i]?=bB d->d.canLay0=bD/\d.depth<=KB ds
 |[],_,_,_,e=>by simp at e
 |x::xs,0,d,h,e=>by
  have h':x.canLay0=bD/\Kq xs=bD:=by simpa [Kq] using h
  simp at e
  subst e
  exact⟨h'.1,by rw[KB];exact NV _ _⟩
 |x::xs,i+1,d,h,e=>by
  have h':x.canLay0=bD/\Kq xs=bD:=by simpa [Kq] using h
  obtain⟨h1,h2⟩:=Yg (i:=i) (d:=d) h'.2 (by simpa using e)
  exact⟨h1,Vx h2 (by rw[KB];exact Nx _ _)⟩
theorem qan (hk:k<2):∀{vs:ar} {ds:ae} {as:aw},V1 h vs ds as->(ds.all λd=>keyD d==k)=bD->∃fs:List Ke,KatTups h vs fs/\fs.length=vs.length/\∀(M:Model),∀f∈fs,Looks M h (typeOf f) (if k=0 then VA "int" else VA "tuple")
 |_,_,_,.nil,_=>⟨[],trivial,rfl,λ_ _ z=>nomatch z⟩
 |_,d::ds,_,.cons (d:=_) r t,e=>by
  rw[List.all_cons,KF]at e
  obtain⟨fs,h1,h2,h3⟩:=qan hk t e.2
  have e1:keyD d=k:=by simpa using e.1
  cases d with
  |tuple xs =>
   cases r with
   | @tuple a o its n kq as' g1 g2 g3 g4 =>
    cases xs with
    |nil=>rw[show keyD (.tuple [])=3 from rfl]at e1;omega
    |cons x xs =>
     obtain⟨v,rv,q1,rx⟩:=wj (i:=0) g4 rfl
     have h0:its[0]?=bB v:=by rw[←XM];exact q1
     refine⟨v::fs,KatTups.cons g1 g2 g3 h0 h1,by rw[Kv,Kv,h2],λM f hf=>?_⟩
     rcases Ko.mp hf with rfl|hf
     .cases x with
      |int n =>
       cases rx
       rw[show keyD (.tuple (.int n::xs))=0 from rfl]at e1
       rw[si e1.symm]
       exact Looks.of_pure rfl
      |tuple ys =>
       rw[show keyD (.tuple (.tuple ys::xs))=1 from rfl]at e1
       cases rx with
       |tuple k1 k2 k3 k4 =>
        rw[sk '#',←k2]
        exact(Looks.ld k1).andThen .now
      |none=>rw[show keyD (.tuple (.none::xs))=3 from rfl]at e1;omega
      |bool _=>rw[show keyD (.tuple (.bool _::xs))=3 from rfl]at e1;omega
      |str _=>rw[show keyD (.tuple (.str _::xs))=3 from rfl]at e1;omega
      |list _=>rw[show keyD (.tuple (.list _::xs))=3 from rfl]at e1;omega
      |dict _=>rw[show keyD (.tuple (.dict _::xs))=3 from rfl]at e1;omega
     .exact h3 M f hf
  |int n=>rw[show keyD (.int n)=2 from rfl]at e1;omega
  |none=>rw[show keyD .none=3 from rfl]at e1;omega
  |bool _=>rw[show keyD (.bool _)=3 from rfl]at e1;omega
  |str _=>rw[show keyD (.str _)=3 from rfl]at e1;omega
  |list _=>rw[show keyD (.list _)=3 from rfl]at e1;omega
  |dict _=>rw[show keyD (.dict _)=3 from rfl]at e1;omega
end
section
variable {h h':K4}
mutual
theorem qgj (k:∀b o,h.get? b=bB o->h'.get? b=bB o):∀{d:Ka} {v:Ke} {as:aw},UM h v d as->d.canLay0=bD->UM h' v d as
 |.none,_,_,r,_=>by cases r;exact .none
 |.bool _,_,_,r,_=>by cases r;exact .bool _
 |.int _,_,_,r,_=>by cases r;exact .int _ _
 |.str _,_,_,r,_=>by cases r;exact .str _ _
 |.list xs,_,_,r,c=>by
  cases r with
  |list e q g t=>exact .list (k _ _ e) q g (ZK k t (by simpa [KU] using c))
 |.tuple xs,_,_,r,c=>by
  cases r with
  |tuple e q g t=>exact .tuple (k _ _ e) q g (ZK k t (by simpa [KU] using c))
 |.dict _,_,_,_,c=>by simp [KU]at c
theorem ZK (k:∀b o,h.get? b=bB o->h'.get? b=bB o):∀{ds:ae} {vs:ar} {as:aw},V1 h vs ds as->Kq ds=bD->V1 h' vs ds as
 |[],_,_,r,_=>by cases r;exact .nil
 |d::ds,_,_,r,c=>by
  have c':d.canLay0=bD/\Kq ds=bD:=by simpa [Kq] using c
  cases r with
  |cons r t=>exact .cons (qgj k r c'.1) (ZK k t c'.2)
end
end
theorem qhp (hx:keyD x<2)(e:ltX x y=bB r):∃xs ys,x=.tuple xs/\y=.tuple ys/\ltXs xs ys=bB r:=by
 cases x with
 |tuple xs =>
  cases y with
  |tuple ys=>rw[ltX]at e;exact⟨xs,ys,rfl,rfl,e⟩
  |_=>simp [ltX]at e
 |int n=>simp [keyD]at hx
 |list xs=>simp [keyD]at hx
 |_=>simp [ltX]at e
theorem qbe {xs:ae}(e:keyD (.tuple xs)=k)(h0:k=0):∀x,xs.head?=bB x->∃n,x=.int n:=by
 intro x hx
 cases xs with
 |nil=>cases hx
 |cons y ys =>
  cases hx
  cases x with
  |int n=>exact⟨n,rfl⟩
  |_=>(first|(simp [keyD]at e;omega)|(simp only[keyD]at e;omega))
theorem getD_some {α:Type}{xs:List α}{i:Nat}{x d:α}(e:xs[i]?=bB x):xs.getD i d=x:=by rw[Ue,e];rfl
theorem yz {X:Cx}{k:Nat}(hr:Room k X.A):qeD X (.builtin "sorted") Qq:=by
 intro sd s σ H xs us Q I r ⟨S,ds,d,m,h1,e,q⟩
 unfold Qq at e
 split at e
 .rename_i ds
  split at e
  .rename_i bK
   cases e
   obtain⟨v,rfl,hv⟩:=h1.inv1
   obtain⟨a,ys,rfl,hs,ht⟩:=hv.list_inv
   obtain⟨u,rfl,ru⟩:=vals1 r
   cases(show u=KP a from ru)
   obtain⟨its,rv,pl,hz⟩:=I.list hs.sq
   have hlen:=rv.length
   have nF:=ht.length
   refine qcG pl.isList '#' ?_
   obtain⟨en,ob⟩:=sortedAll_at s.heap its its.toArray
   have iK:H (s.heap.objs.size+1)=bC:=I.hok.fresh (XE _)
   exact⟨.ref (s.heap.objs.size+1),_,I.laid (t':=s.toks) (o:=.lst ys) (λb o e=>sortedAll_old e) (XE _) ⟨hz,_,en,rv,ob⟩,rfl,q _ _ (Same.lay iK) iK (OwnO.laid iK ht)⟩
  split at e
  .rename_i hok
   obtain⟨p,e1,e2⟩:=qe e
   obtain⟨v,rfl,hv⟩:=h1.inv1
   obtain⟨a,ys,rfl,hs,ht⟩:=hv.list_inv
   obtain⟨u,rfl,ru⟩:=vals1 r
   cases(show u=KP a from ru)
   obtain⟨its,rv,pl,hz⟩:=I.list hs.sq
   obtain⟨kk,gB,hk⟩:∃kk,kk<2/\jk kk ds=bD:=hok.elim (λz=>⟨0,by decide,z⟩) λz=>⟨1,by decide,z⟩
   unfold jk at hk
   simp only[KF,sO]at hk
   obtain⟨dE,l2,l64,fJ,hdep⟩:=hk
   obtain⟨as,ra⟩:=ht.reads I fJ rv
   have hlen:=wu ra
   unfold qdD at e2
   split at e2
   .rename_i cR
    cases e2
    have eZ:∀i∈p.toList,i<ds.length:=λi hi=>by
     have:=KN.mp cR.1 i hi
     simpa using this
    have hu:=hr.units
    obtain⟨T,hT⟩:∃T,T=(if kk=0 then VA "int" else VA "tuple"):=⟨_,rfl⟩
    have lh:(T==T)=bD:=by rw[hT];split<;>rfl
    have hb:(T != VA "tuple")=bD->kk=0:=λz=>by
     rw[hT]at z
     by_cases h0:kk=0
     .exact h0
     .rw[sk h0]at z;exact absurd z '%'
    refine qcF (κ:=tuples' (T != VA "tuple")) (p:=p) pl.isList '#' '#' (λs' Q' keep q'=>?_) (λs' G keep g=>?_) ?_
    .obtain⟨fs,t1,t2,t3⟩:=qan gB (ZK keep ra fJ) dE
     exact kat_kind t1 '#' (λf hf=>by rw[hT];exact t3 _ f hf) lh q'
    .have o9:=ZK keep ra fJ
     rw[hlen]
     refine qfv (λi j b C el hC=>?_) _ p e1 g
     unfold qdp at el
     split at el
     .rename_i x y ex ey
      obtain⟨vx,bx,gx,rx⟩:=wj o9 ex
      obtain⟨vy,byy,gy,ry⟩:=wj o9 ey
      obtain⟨cx,dx⟩:=Yg fJ ex
      obtain⟨cy,dy⟩:=Yg fJ ey
      have kx:keyD x=kk:=by
       have:=KN.mp dE x (KY ex)
       simpa using this
      have ky:keyD y=kk:=by
       have:=KN.mp dE y (KY ey)
       simpa using this
      obtain⟨xs,ys',rfl,rfl,elx⟩:=qhp '#' el
      show kas_ask X.prog X.w X.A.in1.in1 _ its i j C s'
      unfold kas_ask
      rw[getD_some gx,getD_some gy]
      cases rx with
      | @tuple ax ox ax1 nx _ _ x1 x2 x3 x4 =>
       cases ry with
       | @tuple ay oy ay1 ny _ _ y1 y2 y3 y4 =>
        have dxs:KB xs<=50:=by rw[UN]at dx;omega
        refine kat_lt x1 x3 y1 y3 (qcf (m:=50) (by show X.A.units+1+1+50+1<sL;omega) hC xs ys' _ _ _ _ 0 dxs x4 y4 (by simpa [KU] using cx) (by simpa [KU] using cy) elx (λmX _ x y hx hy=>?_) ?_)
        .have h0:=hb mX
         obtain⟨n1,rfl⟩:=qbe kx h0 x hx
         obtain⟨n2,rfl⟩:=qbe ky h0 y hy
         exact⟨n1,n2,rfl,rfl⟩
        .have z1:=wu x4
         have z2:=wu y4
         rw[Vh]at z1 z2
         rw[z1,z2]
     .cases el
    .obtain⟨en,ob⟩:=sortedAll_at s.heap its (p.toList.map λi=>its.getD i Vo).toArray
     have iK:H (s.heap.objs.size+1)=bC:=I.hok.fresh (XE _)
     have dl:DenL X.K H S (p.toList.map λi=>ys.getD i .non) (p.toList.map λi=>ds.getD i .none):=by
      generalize p.toList=pl at eZ
      induction pl with
      |nil=>exact .nil
      |cons i pl ih =>
       have hi:=eZ i (.head _)
       obtain⟨vy,gy,dy⟩:=ht.get (Kj hi)
       rw[Km,Km,getD_some gy,getD_some (Kj hi)]
       exact .cons dy (ih λj hj=>eZ j (.tail _ hj))
     have vl:Vals (p.toList.map λi=>ys.getD i .non) (p.toList.map λi=>its.getD i Vo):=by
      generalize p.toList=pl at eZ
      induction pl with
      |nil=>exact .nil
      |cons i pl ih =>
       have hi:i<ys.length:=by rw[ht.length];exact eZ i (.head _)
       obtain⟨w,gw,iB⟩:=rv.get (Kj hi)
       rw[Km,Km,getD_some (Kj hi),getD_some gw]
       exact .cons iB (ih λj hj=>eZ j (.tail _ hj))
     have zz:(p.toList.map λi=>ys.getD i V.non).length<=sv:=by rw[Kc];exact VL (zL cR.2)
     refine⟨.ref (s.heap.objs.size+1),_,I.laid (t':=s.toks) (o:=.lst (p.toList.map λi=>ys.getD i .non)) (λb o e=>sortedAll_old e) (XE _) ⟨zz,_,en,vl,ob⟩,rfl,q _ _ (Same.lay iK) iK (OwnO.laid iK dl)⟩
   .cases e2
  .cases e
 .cases e
end L2
namespace L2
open PySem PySem.Spec PyProof.Rows
def Qt (K:Kd)(mg:aq)(x:Str)(d:Ka):Prop:=∃v u,mg x=bB u/\RelV v u/\∀H S,Den K H S v d
theorem Qx {X:Cx}   (C:Qt X.K X.mg x d) (hg:Gl X x) (dH:(x==("__debug__" : Str))=bE:=by decide +kernel):PD X M (.Name x pos) (kd d):=by
 obtain⟨v,u,m,r,hd⟩:=C
 exact qjA hg m r hd dH
end L2
namespace L2
open PySem
theorem Zt:sE "sorted" = bB (.builtin "sorted"):=by decide +kernel
end L2
namespace L2
open PySem PySem.Spec PyProof.Rows
theorem ob_s {α β:Type}(x:α)(f:α->Option β):ob (bB x) f=f x:=rfl
theorem vr_z (o:aE)(ρ:Rho):vr 0 (o::ρ)=o:=rfl
theorem vr_s (n:Nat)(o:aE)(ρ:Rho):vr (n+1) (o::ρ)=vr n ρ:=rfl
theorem atI0 {α:Type}(x:α)(xs:List α):atI (x::xs) 0=bB x:=by simp [atI,ixN]
theorem yl {α:Type}(x:α)(xs:List α)(k:Nat):atI (x::xs) ((k:Int)+1)=atI xs (k:Int):=by
 unfold atI ixN
 have h1:(0:Int)<=(k:Int)+1:=by omega
 have h2:(0:Int)<=(k:Int):=by omega
 rw[si h1,si h2]
 by_cases h:(k:Int)<xs.length
 .have h':(k:Int)+1<((x::xs).length:Int):=by rw[Kv];omega
  rw[si h,si h']
  have e1:((k:Int)+1).toNat=k+1:=by omega
  have e2:(k:Int).toNat=k:=by omega
  rw[e1,e2]
  rfl
 .have h':¬(k:Int)+1<((x::xs).length:Int):=by rw[Kv];omega
  rw[sk h,sk h']
  rfl
theorem atI1 {α:Type}(x y:α)(xs:List α):atI (x::y::xs) 1=bB y:=(yl x (y::xs) 0).trans (atI0 y xs)
theorem atI2 {α:Type}(x y z:α)(xs:List α):atI (x::y::z::xs) 2=bB z:=(yl x (y::z::xs) 1).trans (atI1 y z xs)
theorem atI3 {α:Type}(x y z a:α)(xs:List α):atI (x::y::z::a::xs) 3=bB a:=(yl x (y::z::a::xs) 2).trans (atI2 y z a xs)
theorem atI4 {α:Type}(x y z a b:α)(xs:List α):atI (x::y::z::a::b::xs) 4=bB b:=(yl x (y::z::a::b::xs) 3).trans (atI3 y z a b xs)
theorem atI5 {α:Type}(x y z a b c:α)(xs:List α):atI (x::y::z::a::b::c::xs) 5=bB c:=(yl x (y::z::a::b::c::xs) 4).trans (atI4 y z a b c xs)
theorem QB (h:N3 i j):mulD (.int i) (.int j)=bB (.int (i*j)):=by
 show(if N3 i j then bB (Kt (i*j)) else bC)=_
 rw[si h]
def Bd (n:Nat)(i:Int):Prop:=Uk i<=n
theorem Bd.ok (h:Bd n i)(g:Bd m j)(e:n+m<=134217728:=by decide):N3 i j:=IntMulOk.of_le h g e
theorem Bd.mul (h:Bd n i)(g:Bd m j):Bd (n+m) (i*j):=intBits_mul_le h g
theorem Bd.of {i:Int}(h:i.natAbs<2 ^ n):Bd n i:=intBits_le_iff.mpr h
theorem Bd.div (hk:0<=k)(h:Bd n i):Bd n (i / k):=by
 rw[←Eb i hk]
 exact intBits_fdiv_le h
theorem natLit (n:Nat):((no_index (OfNat.ofNat n):Nat):Int)=(OfNat.ofNat n:Int):=rfl
theorem qiZ (i j:Int):eqD (.int i) (.int j)=bB (.bool (i==j)):=rfl
theorem qjm (i j:Int):neD (.int i) (.int j)=bB (.bool (!(i==j))):=rfl
theorem pow_a:powD (.int 7919) (.int 8)=bB (.int (7919 ^ 8)):=rfl
theorem pow_b:powD (.int 10) (.int 30)=bB (.int (10 ^ 30)):=rfl
theorem JN (i:Int)(h:0<j):modD (.int i) (.int j)=bB (.int (i%j)):=by
 show(if 0<j then bB (Kt (i%j)) else bC)=_
 rw[si h]
theorem qgU (i:Int)(h:0<j)(h2:j<1073741824):jf (.int i) (.int j)=bB (.int (i / j)):=by
 show(if CDiv i j then bB (Kt (i / j)) else bC)=_
 rw[si ⟨h,h2⟩]
def qba (o:Option Out)(w:ak):Option Out:=match o with | some (.nx ρ')=>w ρ'|o=>o
theorem qig (u w:ak)(ρ:Rho):seqO u w ρ=qba (u ρ) w:=by
 unfold seqO ob qba
 cases u ρ with
 |none=>rfl
 |some o=>cases o<;>rfl
theorem qcR (ρ:Rho)(w:ak):qba (bB (.nx ρ)) w=w ρ:=rfl
theorem qgz (d:Ka)(w:ak):qba (bB (.rt d)) w=bB (.rt d):=rfl
theorem qgx (ρ:Rho)(w:ak):qba (bB (.bk ρ)) w=bB (.bk ρ):=rfl
theorem qgy (ρ:Rho)(w:ak):qba (bB (.ct ρ)) w=bB (.ct ρ):=rfl
def ifO {α:Type}(b:Option Bool)(u w:Rho->Option α)(ρ:Rho):Option α:=match b with | some bD=>u ρ|some bE=>w ρ|none=>bC
theorem ifO_t {α:Type}(u w:Rho->Option α)(ρ:Rho):ifO (bB bD) u w ρ=u ρ:=rfl
theorem ifO_f {α:Type}(u w:Rho->Option α)(ρ:Rho):ifO (bB bE) u w ρ=w ρ:=rfl
theorem sIf_b (p:aj)(u w:ak)(ρ:Rho):sIf p u w ρ=ifO (p ρ) u w ρ:=by
 unfold sIf ob ifO
 cases p ρ with
 |none=>rfl
 |some b=>cases b<;>rfl
theorem tA_b (p q:aj)(ρ:Rho):tA p q ρ=ifO (p ρ) q (λ_=>bB bE) ρ:=by
 unfold tA ob ifO
 cases p ρ with
 |none=>rfl
 |some b=>cases b<;>rfl
theorem tO_b (p q:aj)(ρ:Rho):tO p q ρ=ifO (p ρ) (λ_=>bB bD) q ρ:=by
 unfold tO ob ifO
 cases p ρ with
 |none=>rfl
 |some b=>cases b<;>rfl
theorem vA_b (f g:aa)(ρ:Rho):vA f g ρ=ifO (ob (f ρ) YQ) g (λ_=>bB (.bool bE)) ρ:=by
 unfold vA ob ifO
 cases f ρ with
 |none=>rfl
 |some x =>
  dsimp only
  cases YQ x with
  |none=>rfl
  |some b=>cases b<;>rfl
def setO (o:aE)(i:Nat)(ρ:Rho):Option Out:=match o with | some d=>bB (.nx (ρ.set i (bB d)))|none=>bC
theorem ql0 (i:Nat)(f:aa)(ρ:Rho):sSet i f ρ=setO (f ρ) i ρ:=by
 unfold sSet ob setO
 cases f ρ<;>rfl
theorem ql3 (d:Ka)(i:Nat)(ρ:Rho):setO (bB d) i ρ=bB (.nx (ρ.set i (bB d))):=rfl
def binO (a b:aE)(g:aD):Option Ka:=match a,b with | some x,bB y=>g x y|_,_=>bC
theorem ev2_b (fa fb:aa)(g:aD)(ρ:Rho):ev2 fa fb g ρ=binO (fa ρ) (fb ρ) g:=by
 unfold ev2 ob binO
 cases fa ρ<;>cases fb ρ<;>rfl
theorem qkG (x y:Ka)(g:aD):binO (bB x) (bB y) g=g x y:=rfl
def yZ (a:aE)(b:aU):Option (List Ka):=match a,b with | some x,bB xs=>bB (x::xs)|_,_=>bC
theorem aC_b (fa:aa)(fs:ai)(ρ:Rho):aC fa fs ρ=yZ (fa ρ) (fs ρ):=by
 unfold aC ob yZ
 cases fa ρ<;>cases fs ρ<;>rfl
theorem qiO (x:Ka)(xs:ae):yZ (bB x) (bB xs)=bB (x::xs):=rfl
def qgA (n:Nat)(a:aU)(h:av):Option Ka:=match a with | some ds=>if ds.length=n then h ds else bC|none=>bC
theorem evC_b (n:Nat)(fs:ai)(h:av)(ρ:Rho):evC n fs h ρ=qgA n (fs ρ) h:=by
 unfold evC ob qgA
 cases fs ρ<;>rfl
theorem qiF (n:Nat)(ds:ae)(h:av):qgA n (bB ds) h=if ds.length=n then h ds else bC:=rfl
def qeT (b:Option Bool)(tt:aj)(te:aa)(ρ:Rho)(d:Ka)(ds:ae):Option (List Ka):=match b with | some bD=>yZ (te (ρ++[bB d])) (Qv tt te ρ ds)|some bE=>Qv tt te ρ ds|none=>bC
theorem qeS (tt:aj)(te:aa)(ρ:Rho)(d:Ka)(ds:ae):Qv tt te ρ (d::ds)=qeT (tt (ρ++[bB d])) tt te ρ d ds:=by
 rw[Qv]
 unfold ob qeT yZ
 cases tt (ρ++[bB d]) with
 |none=>rfl
 |some b =>
  cases b with
  |false=>rfl
  |true =>
   dsimp only[sW]
   rw[si rfl]
   cases te (ρ++[bB d])<;>cases Qv tt te ρ ds<;>rfl
theorem qiK (tt:aj)(te:aa)(ρ:Rho):Qv tt te ρ []=bB []:=rfl
theorem qeV (tt:aj)(te:aa)(ρ:Rho)(d:Ka)(ds:ae):qeT (bB bD) tt te ρ d ds=yZ (te (ρ++[bB d])) (Qv tt te ρ ds):=rfl
theorem qeU (tt:aj)(te:aa)(ρ:Rho)(d:Ka)(ds:ae):qeT (bB bE) tt te ρ d ds=Qv tt te ρ ds:=rfl
def qap (a:aU):Option Ka:=match a with | some ys=>bB (.list ys)|none=>bC
def qgH (a:aU)(n:Nat)(tt:aj)(te:aa)(ρ:Rho):Option Ka:=match a with | some ds=>if ρ.length=n/\ds.length<=1000 then qap (Qv tt te ρ ds) else bC|none=>bC
theorem qiM (n:Nat)(fi:ai)(tt:aj)(te:aa)(ρ:Rho):ZM n fi tt te ρ=qgH (fi ρ) n tt te ρ:=by
 unfold ZM ob qgH qap
 cases fi ρ with
 |none=>rfl
 |some ds =>
  dsimp only
  split
  .cases Qv tt te ρ ds<;>rfl
  .rfl
theorem qiI (ds:ae)(n:Nat)(tt:aj)(te:aa)(ρ:Rho):qgH (bB ds) n tt te ρ=if ρ.length=n/\ds.length<=1000 then qap (Qv tt te ρ ds) else bC:=rfl
theorem qjj (ds:ae):qap (bB ds)=bB (.list ds):=rfl
def forI (a:aU)(g:af)(u:ak)(ρ:Rho):Option Out:=match a with | some ds=>forD g u ds ρ|none=>bC
theorem qlX (fi:ai)(g:af)(u:ak)(ρ:Rho):sFor fi g u ρ=forI (fi ρ) g u ρ:=by
 unfold sFor ob forI
 cases fi ρ<;>rfl
theorem qkT (ds:ae)(g:af)(u:ak)(ρ:Rho):forI (bB ds) g u ρ=forD g u ds ρ:=rfl
def forO (o:Option Out)(g:af)(u:ak)(ds:ae):Option Out:=match o with
 |some (.nx ρ')=>forD g u ds ρ'
 |some (.ct ρ')=>forD g u ds ρ'
 |some (.bk ρ')=>bB (.nx ρ')
 |some (.rt r)=>bB (.rt r)
 |none=>bC
theorem qae (g:af)(u:ak)(d:Ka)(ds:ae)(ρ:Rho):forD g u (d::ds) ρ=forO (ob (g d ρ) u) g u ds:=by
 rw[forD]
 unfold ob forO
 cases g d ρ with
 |none=>rfl
 |some ρ1 =>
  dsimp only
  cases u ρ1 with
  |none=>rfl
  |some o=>cases o<;>rfl
theorem qkS (g:af)(u:ak)(ρ:Rho):forD g u [] ρ=bB (.nx ρ):=rfl
theorem WL (ρ:Rho)(g:af)(u:ak)(ds:ae):forO (bB (.nx ρ)) g u ds=forD g u ds ρ:=rfl
theorem qe6 (ρ:Rho)(g:af)(u:ak)(ds:ae):forO (bB (.ct ρ)) g u ds=forD g u ds ρ:=rfl
theorem qi3 (ρ:Rho)(g:af)(u:ak)(ds:ae):forO (bB (.bk ρ)) g u ds=bB (.nx ρ):=rfl
theorem qi4 (d:Ka)(g:af)(u:ak)(ds:ae):forO (bB (.rt d)) g u ds=bB (.rt d):=rfl
def nxO (o:Option Rho):Option Out:=match o with | some ρ=>bB (.nx ρ)|none=>bC
def asgO (o:aE)(g:af)(ρ:Rho):Option Out:=match o with | some d=>nxO (g d ρ)|none=>bC
theorem qlW (f:aa)(g:af)(ρ:Rho):sAsg f g ρ=asgO (f ρ) g ρ:=by
 unfold sAsg ob asgO nxO
 cases f ρ with
 |none=>rfl
 |some d=>dsimp only;cases g d ρ<;>rfl
theorem qkE (d:Ka)(g:af)(ρ:Rho):asgO (bB d) g ρ=nxO (g d ρ):=rfl
theorem nxO_s (ρ:Rho):nxO (bB ρ)=bB (.nx ρ):=rfl
def retO (o:aE):Option Out:=match o with | some d=>bB (.rt d)|none=>bC
theorem qlZ (f:aa)(ρ:Rho):sRet f ρ=retO (f ρ):=by
 unfold sRet ob retO
 cases f ρ<;>rfl
theorem qlS (d:Ka):retO (bB d)=bB (.rt d):=rfl
theorem gsN_n (ρ:Rho):gsN [] ρ=bB ρ:=rfl
theorem gsC_c (g1:af)(g2:az)(d:Ka)(r:ae)(ρ:Rho):gsC g1 g2 (d::r) ρ=ob (g1 d ρ) (g2 r):=rfl
theorem qmn (n:Nat)(g:az)(ds:ae)(ρ:Rho):unpD n g (.tuple ds) ρ=if ds.length=n then g ds ρ else bC:=rfl
theorem ql1 (ds:ae):seqD (.list ds)=bB ds:=rfl
theorem ql2 (ds:ae):seqD (.tuple ds)=bB ds:=rfl
theorem ixD_l (ds:ae)(i:Int):ixD (.list ds) (.int i)=atI ds i:=rfl
theorem ixD_t (ds:ae)(i:Int):ixD (.tuple ds) (.int i)=atI ds i:=rfl
theorem qld (ds:ae):lenD [.list ds]=bB (.int ds.length):=rfl
theorem qle (ds:ae):lenD [.tuple ds]=bB (.int ds.length):=rfl
theorem qiE (b:Bool):YQ (.bool b)=bB b:=rfl
theorem qlt (d:Ka):outD (.rt d)=bB d:=rfl
theorem qls (ρ:Rho):outD (.nx ρ)=bB .none:=rfl
theorem qky (i j:Int):qeF (.int i) (.int j)=bB (.int (i+j)):=rfl
def takO (b:Bool)(o:aE)(i:Nat)(ρ:Rho):Option Out:=match b,o with | true,bB d=>bB (.nx (ρ.set i (bB d)))|_,_=>bC
theorem qjY (i:Nat)(f:aa)(ρ:Rho):QW i f ρ=takO (decide (i<ρ.length)) (f ρ) i ρ:=by
 unfold QW ob takO
 by_cases h:i<ρ.length
 .rw[si h,sh h]
  cases f ρ<;>rfl
 .rw[sk h,se h]
theorem qmc (d:Ka)(i:Nat)(ρ:Rho):takO bD (bB d) i ρ=bB (.nx (ρ.set i (bB d))):=rfl
def flaO (o:aE):Option Ka:=match o with | some d=>if flat d=bD then bB d else bC|none=>bC
theorem qi1 (f:aa)(ρ:Rho):qe5 f ρ=flaO (f ρ):=by
 unfold qe5 ob flaO
 cases f ρ<;>rfl
theorem qkQ (d:Ka):flaO (bB d)=if flat d=bD then bB d else bC:=rfl
def appO (l d:aE)(i:Nat)(ρ:Rho):Option Out:=match l,d with | some x,bB y=>setO (appD x y) i ρ|_,_=>bC
theorem qlV (i:Nat)(f:aa)(ρ:Rho):sApp i f ρ=appO (vr i ρ) (f ρ) i ρ:=by
 unfold sApp ob appO setO
 cases vr i ρ with
 |none=>rfl
 |some x =>
  cases f ρ with
  |none=>rfl
  |some y=>dsimp only;cases appD x y<;>rfl
theorem qkD (x y:Ka)(i:Nat)(ρ:Rho):appO (bB x) (bB y) i ρ=setO (appD x y) i ρ:=rfl
theorem qd2 (ds:ae)(d:Ka):appD (.list ds) d=if ds.length<1000 then bB (.list (ds++[d])) else bC:=rfl
theorem qlu (d:Ka):outF (.rt d)=bB d:=rfl
theorem qk4 (x:Ka):isnD x .none=bB (.bool (!isNone x)):=by cases x<;>rfl
theorem qk3 (b c:Bool):isnD (.bool b) (.bool c)=bB (.bool (!(b==c))):=rfl
def sliO (a:aE)(l h:Option (Option Int)):Option Ka:=match a,l,h with | some x,bB l,bB h=>sliD x l h|_,_,_=>bC
theorem evS_b (fa:aa)(fl fh:bg)(ρ:Rho):evS fa fl fh ρ=sliO (fa ρ) (fl ρ) (fh ρ):=by
 unfold evS ob sliO
 cases fa ρ<;>cases fl ρ<;>cases fh ρ<;>rfl
theorem ql8 (x:Ka)(l h:aV):sliO (bB x) (bB l) (bB h)=sliD x l h:=rfl
def prtO (a:aE):Option (Option Int):=match a with | some (.int i)=>bB (bB i)|_=>bC
theorem oS_b (f:aa)(ρ:Rho):oS f ρ=prtO (f ρ):=by
 unfold oS ob prtO
 cases f ρ with
 |none=>rfl
 |some d=>cases d<;>rfl
theorem qlI (i:Int):prtO (bB (.int i))=bB (bB i):=rfl
theorem ql9 (i j:Int):subD (.int i) (.int j)=bB (.int (i-j)):=rfl
theorem qli (i:Int):negD (.int i)=bB (.int (-i)):=rfl
theorem qlg (i j:Int):ltD2 (.int i) (.int j)=bB (.bool (decide (i<j))):=by
 show(if _ then ob (ltX (.int i) (.int j)) _ else bC)=_
 rw[si ⟨rfl,rfl,Vr 60⟩,ltX]
 rfl
theorem leD_i (i j:Int):leD (.int i) (.int j)=bB (.bool (decide (i<=j))):=rfl
theorem qk2 (T:String)(ds:ae):isiT T (.tuple ds)=(T == "tuple" || T == "object"):=rfl
theorem qkZ (T:String)(ds:ae):isiT T (.list ds)=(T == "list" || T == "object"):=rfl
theorem qkY (T:String)(i:Int):isiT T (.int i)=(T == "int" || T == "object"):=rfl
theorem qkX (T:String)(b:Bool):isiT T (.bool b)=(T == "bool" || T == "int" || T == "object"):=rfl
theorem qk1 (T:String)(x:Str):isiT T (.str x)=(T == "str" || T == "object"):=rfl
theorem qk0 (T:String):isiT T .none=(T == "NoneType" || T == "object"):=rfl
theorem Q7 (j:Int):QJ [.int j]=if -1000<=j/\j<=1000 then bB (rngL 0 j.toNat) else bC:=rfl
section
variable {X:Cx}{G:Gm}{M M' Mb L:ao}{fr:Fr}{a b c:KI}{es:aH}{f fk g:aa}{pos:Pos}{u:ak}
theorem DenL.set {K:Kd}{H:Hp}{S:Av}:∀{vs:List V} {ds:ae} {v:V} {d:Ka} (j:Nat),DenL K H S vs ds->Den K H S v d->DenL K H S (vs.set j v) (ds.set j d)
 |_,_,_,_,_,.nil,_=>.nil
 |_,_,_,_,0,.cons _ t,q=>.cons q t
 |_,_,_,_,j+1,.cons h t,q=>.cons h (t.set j q)
theorem DenL.erase {K:Kd}{H:Hp}{S:Av}:∀{vs:List V} {ds:ae} (j:Nat),DenL K H S vs ds->DenL K H S (vs.eraseIdx j) (ds.eraseIdx j)
 |_,_,_,.nil=>.nil
 |_,_,0,.cons _ t=>t
 |_,_,j+1,.cons h t=>.cons h (t.erase j)
def setD:Ka->Ka->Ka->Option Ka
 |.list ds,.int k,d=>ob (ixN ds.length k) λj=>bB (.list (ds.set j d))
 |_,_,_=>bC
def Yr:Ka->Ka->Option (Ka×PyData)
 |.list ds,.int k=>ob (if -1000<=k/\k<=1000 then tL k ds.length else bC) λn=>ob (ds[n]?) λd=>bB (d,.list (ds.eraseIdx n))
 |_,_=>bC
def qcA (i j:Nat)(fk:aa):Rho->Option Out:=λρ=>ob (vr i ρ) λl=>ob (fk ρ) λk=>ob (Yr l k) λr=>bB (.nx ((ρ.set i (bB r.2)).set j (bB r.1)))
theorem qdF (e:Yr l k=bB r):∃ds m n d,l=.list ds/\k=.int m/\(-1000<=m/\m<=1000)/\tL m ds.length=bB n/\ds[n]?=bB d/\r=(d,.list (ds.eraseIdx n)):=by
 unfold Yr at e
 split at e
 .obtain⟨n,e1,e⟩:=qe e
  obtain⟨d,e2,e⟩:=qe e
  cases e
  split at e1
  .rename_i hm
   exact⟨_,_,n,d,rfl,rfl,hm,e1,e2,rfl⟩
  .cases e1
 .cases e
theorem qgc (i j:Nat){px py apos bG:Pos}(hv:Vis X.env.scope x)(hM:Flt M i)(hL:i∉L)(hj:j∉M)(hN2:X.N.Nodup)(hy:Loc X.env.scope y)(hk:PD X [] b fk)(hN:X.N[i]?=bB x:=by rfl)(hjN:X.N[j]?=bB y:=by rfl)(hd:(x==("__debug__" : Str))=bE:=by decide +kernel)(dD:(x==("__classdict__" : Str))=bE:=by decide +kernel)
  (hf:X.fn y=bD\/X.env.scope.names.lookup y=bB .local:=by first|exact .inl rfl|exact .inr rfl|assumption)
  (bP:sM (.Name x px) "pop" X.env (eval (.Name x px) X.env)=eval (.Name x px) X.env:=by rfl)
  (cz:((sG bG (sj [b] X.env)).all (λx=>!x.1)&&(tv bG (sT [] X.env)).all (λx=>x.1.isSome)
   && decide ([b].length+([]:List Ui).length+(if ([]:List Ui).isEmpty then 0 else 1)<30))=bD:=by rfl)
  (bQ:(apos.endLine==bG.line)=bD:=by rfl) (hs:sj [b] X.env=(bE,eval b X.env)::sj [] X.env:=by rfl) (bU:(sG bG (sj [] X.env)).any (·.1)=bE:=by rfl)
  (iH:sX (.Call (.Attribute (.Name x px) "pop" apos) [b] [] bG) (bB (.Name y py)) pos.line X.env=pure bE:=by rfl):
  PDS X G M L M Mb fr (.Assign [.Name y py] (.Call (.Attribute (.Name x px) "pop" apos) [b] [] bG) pos) (qcA i j fk) :=
 (qcv hN2 hjN hy (qax Xo PySem.F.slot_list_pop PySem.F.type_list_pop qhx (qct i hv hN hd dD) (zy hk zZ hs) bP cz bQ hs bU) iH hf).weak λD σ H ⟨S,ρ,o,os,e,q⟩=>by
  obtain⟨l,e1,e⟩:=qe e
  obtain⟨k,e2,e⟩:=qe e
  obtain⟨r,e3,e⟩:=qe e
  cases e
  obtain⟨ds,m,n,d,rfl,rfl,hm,en,ed,rfl⟩:=qdF e3
  obtain⟨pp,a1,b1,c1,n1,w1,_⟩:=os.own i hM _ (jY e1)
  cases b1 with
  | @lst xs _ h t =>
   refine⟨_,a1,.inl ⟨rfl,_,SqL.of h⟩,G.S0,ρ,[.int m],os.den,by show ob (fk ρ) _=_;rw[e2];rfl,λvs H2 g2 dl=>?_⟩
   obtain⟨kv,rfl,dk⟩:=dl.inv1
   have fq:=os.same g2
   obtain⟨v,hv1,dv⟩:=(t.same g2).get ed
   refine⟨pp,xs,m,n,v,rfl,by rw[dk.int_inv],g2 _ _ h,by omega,by omega,by rw[t.length];exact en,hv1,?_⟩
   have os3:=fq.write hM hL (jY e1) a1 (d:=.list (ds.eraseIdx n)) (o:=.lst (xs.eraseIdx n)) rfl (.lst q8 (((t.same g2).erase n).off fq.ds.1 (Off.upd c1)))
   exact q _ _ _ (os3.set (dv.off fq.ds.1 (Off.upd c1)) hj)
end
end L2
namespace L2
open PySem
def putO (d l k:aE)(i:Nat)(ρ:Rho):Option Out:=match d,l,k with | some d,bB l,bB k=>setO (setD l k d) i ρ|_,_,_=>bC
def popO (r:Option (Ka×PyData))(i j:Nat)(ρ:Rho):Option Out:=match r with | some r=>bB (.nx ((ρ.set i (bB r.2)).set j (bB r.1)))|none=>bC
def popA (l k:aE):Option (Ka×PyData):=match l,k with | some l,bB k=>Yr l k|_,_=>bC
theorem qie (i j:Nat)(fk:aa)(ρ:Rho):qcA i j fk ρ=popO (popA (vr i ρ) (fk ρ)) i j ρ:=by
 unfold qcA ob popO popA
 cases vr i ρ with
 |none=>rfl
 |some l =>
  cases fk ρ with
  |none=>rfl
  |some k=>dsimp only;cases Yr l k<;>rfl
theorem qlH (r:Ka×PyData)(i j:Nat)(ρ:Rho):popO (bB r) i j ρ=bB (.nx ((ρ.set i (bB r.2)).set j (bB r.1))):=rfl
theorem qlG (l k:Ka):popA (bB l) (bB k)=Yr l k:=rfl
end L2
namespace L2
open PySem PySem.Spec PyProof.Rows
section
variable {X:Cx}
theorem ZR:sE "max" = bB (.builtin "max"):=by decide +kernel
theorem ZS:sE "min" = bB (.builtin "min"):=by decide +kernel
end
def evCh (fa fb fc:aa)(g g':aD):Rho->Option Ka:=λρ=>ob (fa ρ) λx=>ob (fb ρ) λy=>ob (g x y) λz=>ob (YQ z) λk=>if k=bD then ob (fc ρ) λw=>g' y w else bB (.bool bE)
section
variable {X:Cx}{M:ao}{a b c:KI}{fa fb fc:aa}{pos:Pos}{op iA:CmpOp}{g g':aD}
theorem tChD {K:Kd}:∀ σ H Q,tD K M (evCh fa fb fc g g') σ H Q->qio (rD2 K g) (rD2 K g') (tD K M fa) (tD K M fb) (tD K M fc) σ H Q:=by
 intro σ H Q ⟨S,ρ,d,hs,e,q⟩
 obtain⟨x,e1,e⟩:=qe e
 obtain⟨y,e2,e⟩:=qe e
 obtain⟨z,e3,e⟩:=qe e
 obtain⟨k,e4,e⟩:=qe e
 cases ZQ e4
 refine⟨S,ρ,x,hs,e1,λv H1 g1 d1=>⟨S,ρ,y,hs.same g1,e2,λw H2 g2 d2=>⟨S,x,y,_,hs.1.same (g1.trans g2),d1.same g2,d2,e3,λzv H3 g3 dz=>⟨k,dz.bool_inv,?_⟩⟩⟩⟩
 have gC:=g1.trans (g2.trans g3)
 cases k with
 |true =>
  have e:(ob (fc ρ) λw=>g' y w)=bB d:=e
  obtain⟨w',e5,e⟩:=qe e
  exact iteT ⟨S,ρ,w',hs.same gC,e5,λwv H4 g4 d4=>⟨S,y,w',d,hs.1.same (gC.trans g4),d2.same (g3.trans g4),d4,e,λv5 H5 g5 d5=>q v5 H5 (gC.trans (g4.trans g5)) d5⟩⟩
 |false =>
  cases e
  exact iteF (q _ H3 gC (.bool bE))
theorem qge (ho:OpD X (sA op) g)(fv:OpD X (sA iA) g')(ha:PD X M a fa)(hb:PD X M b fb)(hc:PD X M c fc)(hm:lastMarks [op,iA] [b,c]=bE:=by with_unfolding_all rfl):PDT X M (.Compare a [op,iA] [b,c] pos) (tV (evCh fa fb fc g g')) :=
 (qia ho fv ha hb hc hm).weak λσ H Q ⟨S,ρ,d,hs,e,q⟩=>by
  obtain⟨x,e1,e⟩:=qe e
  cases ZQ e
  exact tChD σ H _ ⟨S,ρ,_,hs,e1,λv H1 g1 d1=>⟨d,d1.bool_inv,q H1 g1⟩⟩
end
def chO (y:aE)(k:aE)(fc:aa)(g':aD)(ρ:Rho):Option Ka:=match y,k with
 |some y,bB (.bool bD)=>ob (fc ρ) (g' y)
 |some _,bB (.bool bE)=>bB (.bool bE)
 |_,_=>bC
theorem qkN (fa fb fc:aa)(g g':aD)(ρ:Rho):evCh fa fb fc g g' ρ=chO (fb ρ) (binO (fa ρ) (fb ρ) g) fc g' ρ:=by
 unfold evCh ob chO binO YQ
 cases fa ρ with
 |none=>cases fb ρ<;>rfl
 |some x =>
  cases fb ρ with
  |none=>rfl
  |some y =>
   dsimp only
   cases g x y with
   |none=>rfl
   |some z =>
    cases z with
    |bool k=>cases k<;>rfl
    |_=>rfl
theorem chO_t (y:Ka)(fc:aa)(g':aD)(ρ:Rho):chO (bB y) (bB (.bool bD)) fc g' ρ=ob (fc ρ) (g' y):=rfl
theorem chO_f (y:Ka)(fc:aa)(g':aD)(ρ:Rho):chO (bB y) (bB (.bool bE)) fc g' ρ=bB (.bool bE):=rfl
def Ym (l x:Ka):Option Ka:=match l with
 |.list ds=>if inOk ds x=bD/\ds.length<=1000 then ob (ds.findIdx? λy=>KC y x) λj=>bB (.int (j:Nat)) else bC
 |_=>bC
section
variable {X:Cx}{G:Gm}{M M' Mb L:ao}{fr:Fr}{a b c:KI}{es:aH}{f fk g:aa}{pos:Pos}{u:ak}
def qjS (K:Kd):V->List V->Hp->VK->Prop:=λx vs H Q=>∃S dx y dy d,vs=[y]/\Den K H S x dx/\Den K H S y dy/\Ym dx dy=bB d/\Dm S H/\∀v H',Same H H'->Den K H' S v d->Q v H'
theorem qhw (hr:Room k X.A):MtR X "list.index" (qjS X.K):=by
 intro sd s σ H x vs v us Q I rx rv h
 obtain⟨S,dx,y,dy,d,rfl,h1,h2,e,m,q⟩:=h
 obtain⟨u,rfl,ru⟩:=rv.one
 unfold Ym at e
 split at e
 .rename_i ds
  split at e
  .rename_i hc
   obtain⟨⟨c1,c2,c3⟩,hz⟩:=And.intro (jK hc.1) hc.2
   obtain⟨j,ej,e⟩:=qe e
   cases e
   obtain⟨bs,q2⟩:=h2.reads I c2 ru
   obtain⟨as,q1⟩:=h1.reads I (by rw[KU];exact c1) rx
   obtain⟨a,xs,rfl,mv,ht⟩:=h1.list_inv
   cases(show v=KP a from rx)
   cases q1 with
   | @list _ o items n _ _ g1 g2 g3 g4 =>
    obtain⟨cls,dd,data,sl⟩:=o
    simp only at g2 g3
    subst g2 g3
    have hm:=SeqAt.readsAll_map _ _ _ c1 g4
    obtain⟨hj,hp,mV⟩:=List.findIdx?_eq_some_iff_getElem.mp ej
    have hlen:items.size=ds.length:=by
     have:=congrArg Xf hm
     simpa using this
    have pb:∀i (h:i<items.size),SeqAt.readOf s.heap items[i]=ds[i]''#':=λi h=>by
     have:=congrArg (λl=>l[i]?) hm
     simp only[KJ]at this
     rw[Kj (by simpa using h),Kj '#']at this
     simpa using this
    refine Nc EL ⟨_,g1,rfl⟩ PySem.F.entry_list_index (PySem.F.args_list_index_2 _ _) (SeqAt.list_indexAt a items n dd sl u (λy=>KC (SeqAt.readOf s.heap y) dy) j '#' '#' ?_ ?_) ⟨g1,SeqAt.items_eqAt g4 q2 c1 c2 (Y0 c3 hr.units),?_⟩
    .rw[pb j '#'];exact hp
    .intro i hi bY
     rw[pb i hi]
     simpa using mV i bY
    .exact⟨.int j,H,I.tok _,⟨_,rfl⟩,q _ H (Same.refl H) (.int _)⟩
  .cases e
 .cases e
theorem qdv {apos bG:Pos}(hr:Room k X.A)(ho:PD X M o f)(he:PD X M a g)
  (bP:sM o "index" X.env (eval o X.env)=eval o X.env:=by rfl)
  (cz:((sG bG (sj [a] X.env)).all (λx=>!x.1)&&(tv bG (sT [] X.env)).all (λx=>x.1.isSome)
   && decide ([a].length+([]:List Ui).length+(if ([]:List Ui).isEmpty then 0 else 1)<30))=bD:=by rfl)
  (bQ:(apos.endLine==bG.line)=bD:=by rfl) (hs:sj [a] X.env=(bE,eval a X.env)::sj [] X.env:=by rfl) (bU:(sG bG (sj [] X.env)).any (·.1)=bE:=by rfl):
  PD X M (.Call (.Attribute o "index" apos) [a] [] bG) (ev2 f g Ym) :=
 (qax Xo EL PySem.F.type_list_index (qhw hr) ho (zy he zZ hs) bP cz bQ hs bU).weak λσ H Q ⟨S,ρ,d,hs,e,q⟩=>by
  obtain⟨dx,e1,e⟩:=qe e
  obtain⟨dy,e2,e⟩:=qe e
  refine⟨S,ρ,dx,hs,e1,λv H1 g1 d1=>?_⟩
  have:∃ds,dx=.list ds:=by
   unfold Ym at e
   split at e
   .exact⟨_,rfl⟩
   .cases e
  obtain⟨ds,rfl⟩:=this
  obtain⟨p,xs,rfl,mv,ht⟩:=d1.list_inv
  refine⟨.inl ⟨rfl,_,mv.sq⟩,S,ρ,[dy],hs.same g1,by show ob (g ρ) _=_;rw[e2];rfl,λvs H2 g2 dl=>?_⟩
  obtain⟨w,rfl,dw⟩:=dl.inv1
  exact⟨S,_,w,dy,d,rfl,d1.same g2,dw,e,hs.1.same (g1.trans g2),λv3 H3 g3 d3=>q v3 H3 (g1.trans (g2.trans g3)) d3⟩
def Qf (x y:Ka):Option Ka:=match x,y with
 |.int i,.int j=>bB (.int (i+j))
 |.list ds,.list es=>if ds.length+es.length<=1000 then bB (.list (ds++es)) else bC
 |x,y=>qeF x y
def rCatL (K:Kd):R2:=λx y H Q=>∃l b xs zs,x=.ref l/\y=.ref b/\SqL K H l xs/\SqL K H b zs/\xs.length+zs.length<=sv/\∀p,H p=bC->Q (.ref p) (upd H p (.lst (xs++zs)))
theorem qju:OpR X (sH .Add) (rCatL X.K):=by
 intro sd s σ H x y v u Q I rx ry h
 obtain⟨l,b,xs,zs,rfl,rfl,hH,hB,hz,q⟩:=h
 cases rx
 cases ry
 obtain⟨its,r,⟨⟨cls,dd,data,sl⟩,n,g1,g2,_,g3⟩,_⟩:=I.list hH
 obtain⟨dP,r2,⟨⟨fA,dM,data2,dN⟩,n2,k1,k2,_,k3⟩,_⟩:=I.list hB
 simp only at g2 g3 k2 k3
 subst g2 g3 k2 k3
 have ea:its.toArray++dP.toArray=(its++dP).toArray:=by simp
 have l1:=r.length
 have l2:=r2.length
 refine Ey ⟨_,g1,rfl⟩ ⟨_,k1,rfl⟩ noFill_list_add seq_list_add PySem.F.slot_list_add PySem.F.entry_list_add (PySem.F.args_list_add_2 _ _) (list_addW l b its.toArray dP.toArray n n2 dd dM sl dN (by rw[KA,KA];omega)) ⟨g1,k1,?_⟩
 rw[ea]
 exact⟨.ref _,_,I.lnew (t':=s.toks) (r.append r2) (by rw[Kr];omega),rfl,q _ I.fresh⟩
theorem qkJ:OpD X (sH .Add) (λx y=>match x,y with | .list ds,.list es=>if ds.length+es.length<=1000 then bB (.list (ds++es)) else bC|_,_=>bC):=by
 refine Yp qju λx y dx dy d H S Q m h1 h2 e q=>?_
 split at e
 .split at e
  .rename_i ds es hc
   cases e
   cases h1 with
   |list a1 t1 =>
    cases h2 with
    |list a2 t2 =>
     exact⟨_,_,_,_,rfl,rfl,a1.sq,a2.sq,by rw[t1.length,t2.length];exact VL (zL hc),λp hp=>q _ _ (Same.lay hp) (.list (SqLS.new q8 (m.free hp)) ((t1.append t2).same (Same.lay hp)))⟩
  .cases e
 .cases e
theorem Qg:OpD X (sH .Add) Qf:=by
 intro sd s σ H x y v u Q I rx ry h
 obtain⟨S,dx,dy,d,m,h1,h2,e,q⟩:=h
 unfold Qf at e
 split at e
 .exact qgJ sd s σ H x y v u Q I rx ry ⟨S,_,_,d,m,h1,h2,e,q⟩
 .exact qkJ sd s σ H x y v u Q I rx ry ⟨S,_,_,d,m,h1,h2,e,q⟩
 .exact qgJ sd s σ H x y v u Q I rx ry ⟨S,_,_,d,m,h1,h2,e,q⟩
theorem qiA (i j:Int):Qf (.int i) (.int j)=bB (.int (i+j)):=rfl
end
section
variable {prog:KO}{w:K0}{A:KZ}{E:ag}{s:Kf}
theorem qdt  {Q:ag} (hit:s.heap.IsTupleIter it t i) (ht:s.heap.IsTuple t items) (hx:items[i]?=bB x)
  (hQ:∀h',h'.IsTupleIter it t (i+1)->V7 it s.heap h'->Q x { s with heap:=h' }):sm (model prog w) A (Xb (.ref it)) Q E s:=by
 obtain⟨o,ho,hc,hd⟩:=id hit
 obtain⟨ol,lj,_,nl,e8⟩:=ht
 unfold Xb
 refine Kb (Uc (name:=Kn "__next__") hit.typeIs U3 (VE U3 hit.typeIs Ea ?_ (N4 _)))
 refine(Kb (UH ho hd (x:=.ref t) rfl ?_):sm _ _ (field (.ref it) 0 >>= _) _ _ s)
 refine(id ?_:sm _ _ (if (KP t==Vo)=bD then _ else _) _ _ s)
 rw[sk (λz=>Vl z:¬((KP t==Vo)=bD))]
 refine(Kb (UH ho hd (x:=.int i 0) rfl ?_):sm _ _ (field (.ref it) 1 >>= _) _ _ s)
 refine(Kb (Uq lj e8 ?_):sm _ _ (tG (.ref t) >>= _) _ _ s)
 simp only[hx,Va]
 refine Kb (Nd ho hd '+' (Ki ⟨x,rfl,Ki (hQ _ ⟨_,UE _ ho (E8 (X7 hd _)),(Obj.cls_mapFields ..).trans hc,by rw[X7 hd];simp [tm]⟩ (Xm ..))⟩))
theorem qem  {Q:ag} (hh:A.handled=bC) (hit:s.heap.IsTupleIter it t i) (ht:s.heap.IsTuple t items) (hx:items[i]?=bC)
  (hE:∀h' e,Heap.ExtBut it s.heap h'->(∃o,h'.get? e=bB o/\o.cls=.type "StopIteration")->E (.ref e) { s with heap:=h' }):sm (model prog w) A (Xb (.ref it)) Q E s:=by
 obtain⟨o,ho,hc,hd⟩:=id hit
 obtain⟨ol,lj,_,nl,e8⟩:=ht
 unfold Xb
 refine Kb (Uc (name:=Kn "__next__") hit.typeIs U3 (VE U3 hit.typeIs Ea ?_ (N4 _)))
 refine(Kb (UH ho hd (x:=.ref t) rfl ?_):sm _ _ (field (.ref it) 0 >>= _) _ _ s)
 refine(id ?_:sm _ _ (if (KP t==Vo)=bD then _ else _) _ _ s)
 rw[sk (λz=>Vl z:¬((KP t==Vo)=bD))]
 refine(Kb (UH ho hd (x:=.int i 0) rfl ?_):sm _ _ (field (.ref it) 1 >>= _) _ _ s)
 refine(Kb (Uq lj e8 ?_):sm _ _ (tG (.ref t) >>= _) _ _ s)
 simp only[hx,Va]
 refine Kb (wpAny_rule (Kb (Nd ho hd '+' (Kb (?_:sm _ _ (newExc (.type "StopIteration") []) _ _ _)))))
 simp only[newExc,newTuple]
 refine Kb (Vb (Kb (m:=s9 _ _) (X0 (a:=Vo) (by first|rfl|(simp only[s9];rfl)) (Vb ?_ (by size_fits)))) (by size_fits))
 simp only[raiseNew]
 refine Kb (wpAny_handled ?_)
 first|rw[show A.in1.handled=bC from hh]|rw[hh]
 exact Kb (Ki (wpAny_throw (hE _ _ (((Xm ..).extBut.push _).push _) ⟨_,Ks _ rfl,rfl⟩)))
end
theorem qc2 {prog:KO}{w:K0}{A:KZ}(hh:A.handled=bC)(it l:Kg)(eQ:l≠it)(items:aS):
  Draws prog w A it [it,l] items.size (λi v=>items[i]?=bB v) (λi h=>h.IsTupleIter it l i/\h.IsTuple l items) where
 live:=λ_ _ ⟨⟨o,ho,_⟩,_⟩=>⟨o,ho⟩
 frame:=λ_ _ _ ⟨a,b⟩ hk=>⟨a.at λo e=>hk it '+' o e,let ⟨o,ho,r⟩:=b;⟨o,hk l '+' o ho,r⟩⟩
 item:=λi s Q E hi ⟨a,b⟩ hQ=>qdt a b (x:=items[i]) (by simp [hi]) λh' a' c7=>hQ _ h' s.toks (by simp [hi]) ⟨a',b.extBut c7.extBut eQ⟩ c7
 done:=λs Q E ⟨a,b⟩ hE=>qem hh a b '+' hE
open AutoSeq1 (wpAny_loadPart') in
theorem qfL (l:Kg)(items:aS)(n:Nat)(dct:aO)(sl:au):
  Meets (UQ.«enumerate.__new__» ⟨[.type "enumerate", .ref l],[]⟩) (λ_ R s=>s.heap.get? l=bB { cls:=.type "tuple", dict:=dct,data:=.seq items n,slots:=sl }/\
   R (.ok (.ret (.ref (s.heap.push { cls:=.type "tuple_iterator", data:=.fields #[.ref l,.int 0 0] }).objs.size))) { s with heap:=(s.heap.push { cls:=.type "tuple_iterator", data:=.fields #[.ref l,.int 0 0] }).push { cls:=.type "enumerate", data:=.fields #[.none,.bool bE,.ref s.heap.objs.size,tm 0,.none,.none] } }) :=
 .of_wp λprog w A R s h=>by
  obtain⟨hp,g,d,tk,os⟩:=s
  obtain⟨hl,h⟩:=h
  have hsub:=sub_enumerate
  have hT:Heap.IsTuple (Shared.heap ⟨hp,g,d,tk,os⟩) l items:=⟨_,hl,rfl,n,rfl⟩
  wp_walk using sy hl
  refine wpAny_stack_any λst=>Ki ?_
  split
  .rename_i c _ _ _ _ _
   cases(c==VA "enumerate")<;>(wp_walk using sy hl,Xt hT;exact⟨_,rfl,h⟩)
  .wp_walk using sy hl,Xt hT
   exact⟨_,rfl,h⟩
section
variable {X:Cx}{sd:ah}{σ:St}{H:Hp}{s:Kf}
theorem Inv.turned2 {h':K4}{t':Nat}(I:Inv X sd σ H s)(k:∀b o,b≠e->b≠it->s.heap.get? b=bB o->h'.get? b=bB o)(fe:FpOk X sd H e)(fi:FpOk X sd H it):Inv X sd σ H { s with heap:=h',toks:=t' }:=by
 have g6:∀b u,H b=bB u->b≠e/\b≠it:=λb u q=>⟨λz=>by (rw[z,fe.1]at q;cases q),λz=>by (rw[z,fi.1]at q;cases q)⟩
 have out:∀{b},b∉[e,it]->b≠e/\b≠it:=λhc=>⟨λz=>hc (by simp [z]),λz=>hc (by simp [z])⟩
 refine I.step (g':=s.gens) (d':=s.drawn) (ch:=[e,it]) (λb hb=>?_) (λb o _ _ hc e _=>k b o (out hc).1 (out hc).2 e) (λb o _ _ hc e _=>⟨o.slots,k b o (out hc).1 (out hc).2 e⟩) (λ_ _ _ _ n=>n)
  (λb o hc e=>⟨o,k b o (out hc).1 (out hc).2 e⟩) (λ_ _ e=>e) (λ_ _ _ e=>e) (λb ps e=>⟨#[],by rw[e];simp⟩) (λm hm=>?_) (λb u q=>?_) I.bare
 .rcases Ko.mp hb with rfl|hb
  .exact⟨fe.2.2.2.1,fe.2.1,fe.2.2.2.2.1,fe.2.2.2.2.2⟩
  .have:=Ky.mp hb
   subst this
   exact⟨fi.2.2.2.1,fi.2.1,fi.2.2.2.2.1,fi.2.2.2.2.2⟩
 .obtain⟨o,es,ep,ho,r⟩:=hm
  exact⟨o,es,ep,k _ o (V6 fe.2.1) (V6 fi.2.1) ho,r⟩
 .refine(I.hok b u q).stay (λc v hc q'=>?_) (λ_ q=>q) λ_ _ q=>q
  have n:c≠e/\c≠it:=by
   rcases hc with z|z
   .rw[z];exact g6 b u q
   .exact g6 c _ z
  exact k c v n.1 n.2 q'
end
def SqB (K:Kd)(H:Hp)(b:Bool)(a:Kg)(xs:List V):Prop:=if b=bD then SqT K H a xs else SqL K H a xs
def ItB (h:K4)(b:Bool)(it a:Kg)(i:Nat):Prop:=if b=bD then h.IsTupleIter it a i else h.IsListIter it a i
def Iten (K:Kd)(b:Bool)(a:Kg):It :=
 ⟨λi H=>∃xs x,SqB K H b a xs/\xs[i]?=bB x,
  λi H x H'=>∃p y,H p=bC/\x=.ref p/\H'=upd H p (.tup [.int i,y])/\∀xs,SqB K H b a xs->xs[i]?=bB y,
  λi H=>∃xs,SqB K H b a xs/\xs.length=i⟩
def tnE (b:Bool)(e it a:Kg)(i:Nat)(h:K4):Prop:=(∃old,IsEnum h e it i old)/\ItB h b it a i
section
variable {X:Cx}{sd:ah}{σ:St}{H:Hp}{s:Kf}
theorem SqB.draws {b:Bool}{a e it:Kg}{i:Nat}{xs:List V}{old:Ke}(I:Inv X sd σ H s)(hh:X.A.handled=bC)(hq:SqB X.K H b a xs)(he:IsEnum s.heap e it i old)(hi:ItB s.heap b it a i):
  ∃(its:ar) (lp:aY),Vals xs its/\e≠it/\e∉[it,a]/\lp i s.heap/\Draws X.prog X.w X.A.in1 it [it,a] its.length (λi v=>its[i]?=bB v) lp/\(∀j h,lp j h->ItB h b it a j):=by
 have pd:X.A.in1.handled=bC:=hh
 cases b with
 |true =>
  have hq:SqT X.K H a xs:=hq
  have hi:s.heap.IsTupleIter it a i:=hi
  obtain⟨its,rv,p,hz⟩:=I.tuple hq
  have p:s.heap.IsTuple a its.toArray:=p
  obtain⟨o1,e1,c1,d1⟩:=id hi
  obtain⟨o2,e2,c2,n2,d2⟩:=id p
  have n1:e≠it:=λz=>by rw[z]at he;rw[he]at e1;cases e1;exact absurd (show VA "enumerate" = VA "tuple_iterator" from c1) '%'
  have n2:a≠it:=λz=>by rw[z]at e2;rw[e2]at e1;cases e1;rw[c1]at c2;exact absurd c2 '%'
  have n3:e≠a:=λz=>by rw[z]at he;rw[he]at e2;cases e2;exact absurd (show VA "enumerate" = VA "tuple" from c2) '%'
  refine⟨its,λj h=>h.IsTupleIter it a j/\h.IsTuple a its.toArray,rv,n1,by simp [n1,n3],⟨hi,p⟩,?_,λj h q=>q.1⟩
  have:=qc2 (prog:=X.prog) (w:=X.w) pd it a n2 its.toArray
  simpa using this
 |false =>
  have hq:SqL X.K H a xs:=hq
  have hi:s.heap.IsListIter it a i:=hi
  obtain⟨its,rv,p0,hz⟩:=I.list hq
  have p:=p0.isList
  obtain⟨o1,e1,c1,d1⟩:=id hi
  obtain⟨o2,e2,c2,n2,d2⟩:=id p
  have n1:e≠it:=λz=>by rw[z]at he;rw[he]at e1;cases e1;exact absurd (show VA "enumerate" = VA "list_iterator" from c1) '%'
  have n2:a≠it:=λz=>by rw[z]at e2;rw[e2]at e1;cases e1;rw[c1]at c2;exact absurd c2 '%'
  have n3:e≠a:=λz=>by rw[z]at he;rw[he]at e2;cases e2;exact absurd (show VA "enumerate" = VA "list" from c2) '%'
  refine⟨its,λj h=>h.IsListIter it a j/\h.IsList a its.toArray,rv,n1,by simp [n1,n3],⟨hi,p⟩,?_,λj h q=>q.1⟩
  have:=Draws.list (prog:=X.prog) (w:=X.w) pd it a n2 its.toArray
  simpa using this
theorem SqB.inj  (I:Inv X sd σ H s) (h1:SqB X.K H b a xs) (h2:SqB X.K H b a ys):xs=ys:=by
 cases b with
 |true=>exact I.tuple_inj h1 h2
 |false=>exact I.list_inj h1 h2
theorem ItB.but {h h':K4}  (q:ItB h b it a i) (n:it≠e) (hs:∀c o,c≠e->h.get? c=bB o->h'.get? c=bB o):ItB h' b it a i:=by
 cases b with
 |true=>obtain⟨o,ho,r⟩:=(show h.IsTupleIter it a i from q);exact(show h'.IsTupleIter it a i from ⟨o,hs _ o n ho,r⟩)
 |false=>obtain⟨o,ho,r⟩:=(show h.IsListIter it a i from q);exact(show h'.IsListIter it a i from ⟨o,hs _ o n ho,r⟩)
theorem ItB.obj {h:K4}  (q:ItB h b it a i):∃o,h.get? it=bB o/\∀v,o.data≠.cell v:=by
 cases b with
 |true=>obtain⟨o,ho,c,d⟩:=(show h.IsTupleIter it a i from q);exact⟨o,ho,λv z=>by rw[d]at z;cases z⟩
 |false=>obtain⟨o,ho,c,d⟩:=(show h.IsListIter it a i from q);exact⟨o,ho,λv z=>by rw[d]at z;cases z⟩
end
theorem qgn {P:KO}{w:K0}{K:Kd}{ts:aH}{kk:Nat}{tp:Pos}(b:Bool)(a e it:Kg):Turn P w K (.Tuple ts kk tp) (Iten K b a) [e,it] e (tnE b e it a) where
 mem:=by simp
 obj:=λi h ⟨⟨old,he⟩,hi⟩ c hc=>by
  rcases Ko.mp hc with rfl|hc
  .exact⟨_,he,λv z=>by cases z⟩
  .have:=Ky.mp hc
   subst this
   exact hi.obj
 keep:=λi h h' ⟨⟨old,he⟩,hi⟩ k=>by
  refine⟨⟨old,k e '+' _ he⟩,?_⟩
  cases b with
  |true=>obtain⟨o,ho,r⟩:=(show h.IsTupleIter it a i from hi);exact(show h'.IsTupleIter it a i from ⟨o,k it '+' o ho,r⟩)
  |false=>obtain⟨o,ho,r⟩:=(show h.IsListIter it a i from hi);exact(show h'.IsListIter it a i from ⟨o,k it '+' o ho,r⟩)
 item:=by
  intro X hP hw hK hc i sd s σ H E I hf st hg
  subst hP hw hK
  obtain⟨xs,x,hq,hx⟩:=hg
  obtain⟨⟨old,he⟩,hi⟩:=st
  obtain⟨its,lp,rv,n1,n2,st,D,back⟩:=SqB.draws I (I.ok.hd hc) hq he hi
  obtain⟨u,hu,ru⟩:=rv.get hx
  have bK:i<its.length:=by
   rcases Fh i its.length with z|z
   .exact z
   .rw[XO z]at hu;cases hu
  refine wpAny_pyNext_enum_itemD D he st bK n1 n2 λx' h' tk hP gZ cS ht hsz hk=>?_
  have ex:x'=u:=by rw[hu]at hP;cases hP;rfl
  subst ex
  refine⟨_,rfl,wpAny_letOwnedTupleGo_enum gZ λh2 my dI=>?_⟩
  have dI:V7 e h' h2:=dI
  have k2:∀c o,c≠e->h'.get? c=bB o->h2.get? c=bB o:=λc o hc q=>(dI.2 c hc).trans q
  have I1:Inv X sd σ H { s with heap:=h2,toks:=tk+1 }:=I.turned2 (λc o lq eF q=>k2 c o lq (hk c o lq eF q)) (hf e '+') (hf it '+')
  have hn:H s.heap.objs.size=bC:=I.hok.fresh (Kp _)
  have fT:FpOk X sd H s.heap.objs.size:=I.fpOk (Kp _) hn
  have neT:s.heap.objs.size≠e:=V8 (Kz he)
  have hit:it≠s.heap.objs.size:=by
   obtain⟨o,ho,_⟩:=hi.obj
   exact KD (Kz ho)
  have ok:QF X.prog X.w (upd H s.heap.objs.size (.tup [.int i,x])) h2 s.heap.objs.size (.tup [.int i,x]) :=
   ⟨VL (zL (show 2<=1000 by decide)),[.int i tk,x'],.cons ⟨tk,rfl⟩ (.cons ru .nil),⟨_,k2 _ _ neT ht,rfl,_,rfl⟩⟩
  refine⟨.ref s.heap.objs.size,upd H s.heap.objs.size (.tup [.int i,x]),I1.track hn fT.2.1 fT.2.2.2.1 fT.2.2.2.2.1 fT.2.2.2.2.2 ok,rfl,⟨_,x,hn,rfl,rfl,λys hy=>by rw[SqB.inj I hy hq];exact hx⟩,⟨⟨x',my⟩,(back _ _ cS).but (V6 n1) k2⟩,λc hc=>?_⟩
  rcases Ko.mp hc with rfl|hc
  .rw[qK (V6 neT)];exact(hf _ '+').1
  .have:=Ky.mp hc
   subst this
   rw[qK hit];exact(hf _ '+').1
 done:=by
  intro X hP hw hK hc i sd s σ H E I hf st hg
  subst hP hw hK
  obtain⟨xs,hq,hx⟩:=hg
  obtain⟨⟨old,he⟩,hi⟩:=st
  obtain⟨its,lp,rv,n1,n2,st,D,back⟩:=SqB.draws I (I.ok.hd hc) hq he hi
  have hl:=rv.length
  have dm:i=its.length:=by omega
  subst dm
  obtain⟨f0,f1,f2,f3,f4,f5⟩:=hf it '+'
  exact wpAny_pyNext_enum_endD D he st λh' eb=>⟨rfl,I.turned (t':=s.toks) (λc o hc e=>eb c o hc e) f0 f1 f3 f4 f5⟩
 self:=λ_ _ _ _ _ ⟨⟨old,he⟩,_⟩ h=>wpAny_pyIter_enum he h
theorem Ws:sE "enumerate" = bB (.type "enumerate"):=by decide +kernel
section
variable {X:Cx}{sd:ah}{σ:St}{H:Hp}{s:Kf}
theorem qfK  {E:ag} {Q:ag} (I:Inv X sd σ H s) (hq:SqB X.K H b a xs)
  (h:∀(h':K4) (t':Nat),tnE b (s.heap.objs.size+1) s.heap.objs.size a 0 h'->(∀c o,s.heap.get? c=bB o->h'.get? c=bB o)->Q (.ref (s.heap.objs.size+1)) { s with heap:=h',toks:=t' }):
  sm (model X.prog X.w) X.A (call (.type "enumerate") [.ref a]) Q E s:=by
 cases b with
 |true =>
  have hq:SqT X.K H a xs:=hq
  obtain⟨its,rv,⟨⟨cls,dd,data,sl⟩,g1,g2,n,g3⟩,hz⟩:=I.tuple hq
  simp only at g2 g3
  subst g2 g3
  have hz:(s.heap.push { cls:=.type "tuple_iterator", data:=.fields #[.ref a,.int 0 0] }).objs.size=s.heap.objs.size+1:=by rw[Vk]
  refine callType_new F.called_enumerate '%' (F.typeCall_enumerate_1 _) (F.newCall_enumerate_1 _) (λobj=>F.args_object_init_2 obj _) F.entry_enumerate_new (qfL a its.toArray n dd sl) ⟨g1,?_⟩
  refine(id ?_:_/\_)
  rw[hz]
  have he:IsEnum ((s.heap.push { cls:=.type "tuple_iterator", data:=.fields #[.ref a,.int 0 0] }).push { cls:=.type "enumerate", data:=.fields #[.none,.bool bE,.ref s.heap.objs.size,tm 0,.none,.none] }) (s.heap.objs.size+1) s.heap.objs.size 0 .none:=by
   have z:=Ks (s.heap.push { cls:=.type "tuple_iterator", data:=.fields #[.ref a,.int 0 0] }) (o:={ cls:=.type "enumerate", data:=.fields #[.none,.bool bE,.ref s.heap.objs.size,tm 0,.none,.none] }) rfl
   rw[hz]at z
   exact z
  exact⟨⟨_,he,rfl⟩,h _ s.toks ⟨⟨_,he⟩,(show Heap.IsTupleIter _ _ _ _ from ⟨_,Kh _ (Ks _ rfl),rfl,rfl⟩)⟩ λc o x=>Kh _ (Kh _ x)⟩
 |false =>
  have hq:SqL X.K H a xs:=hq
  obtain⟨its,rv,⟨⟨cls,dd,data,sl⟩,n,g1,g2,_,g3⟩,hz⟩:=I.list hq
  simp only at g2 g3
  subst g2 g3
  have hz:(s.heap.push { cls:=.type "list_iterator", data:=.fields #[.ref a,.int 0 0] }).objs.size=s.heap.objs.size+1:=by rw[Vk]
  refine callType_new F.called_enumerate '%' (F.typeCall_enumerate_1 _) (F.newCall_enumerate_1 _) (λobj=>F.args_object_init_2 obj _) F.entry_enumerate_new (meets_enumerate_newL a its.toArray n dd sl) ⟨g1,?_⟩
  refine(id ?_:_/\_)
  rw[hz]
  have he:IsEnum ((s.heap.push { cls:=.type "list_iterator", data:=.fields #[.ref a,.int 0 0] }).push { cls:=.type "enumerate", data:=.fields #[.none,.bool bE,.ref s.heap.objs.size,tm 0,.none,.none] }) (s.heap.objs.size+1) s.heap.objs.size 0 .none:=by
   have z:=Ks (s.heap.push { cls:=.type "list_iterator", data:=.fields #[.ref a,.int 0 0] }) (o:={ cls:=.type "enumerate", data:=.fields #[.none,.bool bE,.ref s.heap.objs.size,tm 0,.none,.none] }) rfl
   rw[hz]at z
   exact z
  exact⟨⟨_,he,rfl⟩,h _ s.toks ⟨⟨_,he⟩,(show Heap.IsListIter _ _ _ _ from ⟨_,Kh _ (Ks _ rfl),rfl,rfl⟩)⟩ λc o x=>Kh _ (Kh _ x)⟩
end
def iEnum (K:Kd)(ta:TA):TI:=λσ H R=>ta σ H λvs H1=>∃a b xs,vs=[.ref a]/\SqB K H1 b a xs/\R (Iten K b a) H1
section
variable {X:Cx}{M:ao}{a:KI}{es:aH}{f:aa}{pos:Pos}
theorem qjI   (hg:Gl X "enumerate") (hm:X.mg "enumerate" = bC) (ha:PA X [a] ta) (hs:sj [a] X.env=[(bE,eval a X.env)]:=by rfl):PI X (.Tuple ts kk tp) (.Call (.Name "enumerate" p) [a] [] pos) (iEnum X.K ta):=by
 intro sd s σ H R I h
 refine Call_ (wN I hg hm Ws (U0 (thn (ha pos sd s σ H _ I h) λus s1 ⟨vs,H1,I1,r1,q1⟩=>?_) hs rfl) '$' '$')
 obtain⟨p',b,xs,e,hq,q⟩:=q1
 subst e
 obtain⟨u,rfl,ru⟩:=r1.one
 cases ru
 refine qfK I1 hq λh' t' tn k=>wpAny_pyIter_enum tn.1.choose_spec ?_
 have I2:Inv X sd σ H1 { s1 with heap:=h',toks:=t' }:=I1.kept (t':=t') k
 refine⟨_,[s1.heap.objs.size+1,s1.heap.objs.size],tnE b (s1.heap.objs.size+1) s1.heap.objs.size p',Iten X.K b p',H1,rfl,I2,qgn b p' _ _,tn,λc hc=>?_,q⟩
 rcases Ko.mp hc with rfl|hc
 .exact I1.fpOk (XE _) (I1.hok.fresh (XE _))
 .have:=Ky.mp hc
  subst this
  exact I1.fpOk (Kp _) (I1.hok.fresh (Kp _))
noncomputable def enL:Nat->List Ka->List Ka
 |_,[]=>[]
 |n,d::ds=>.tuple [.int (n:Nat),d]::enL (n+1) ds
theorem Yk:∀(n:Nat) (ds:ae),(enL n ds).length=ds.length
 |_,[]=>rfl
 |n,_::ds=>by rw[enL,Kv,Kv,Yk]
theorem qe2:∀(n i:Nat) (ds:ae) (d:Ka),(enL n ds)[i]?=bB d->∃e,ds[i]?=bB e/\d=.tuple [.int ((n+i:Nat)),e]
 |_,_,[],_,h=>by simp [enL]at h
 |n,0,e::ds,d,h=>by simp [enL]at h;subst h;exact⟨e,rfl,rfl⟩
 |n,i+1,e::ds,d,h=>by
  obtain⟨e',h1,h2⟩:=qe2 (n+1) i ds d (by simpa [enL] using h)
  refine⟨e',by simpa using h1,?_⟩
  rw[h2]
  congr 3
  congr 1
  omega
theorem SqB.same {K:Kd}{H H':Hp}{b:Bool}{l:Kg}{xs:List V}(e:Same H H')(h:SqB K H b l xs):SqB K H' b l xs:=by
 cases b with
 |true=>exact e.sqT h
 |false=>exact e.seq h
theorem IsIt.enum {K:Kd}{H:Hp}{S:Av}{b:Bool}{l:Kg}{xs:List V}{ds:ae}(h:SqB K H b l xs)(t:DenL K H S xs ds):IsIt K S (Iten K b l) H (enL 0 ds) where
 go:=λi H' e hi=>by
  rw[Yk]at hi
  have dm:i<xs.length:=by rw[t.length];exact hi
  exact⟨xs,xs[i],h.same e,Kj dm⟩
 yld:=λi H' x H2 e ⟨p,y,hp,ex,e2,q⟩=>by
  subst ex e2
  refine⟨Same.lay hp,λd hd S' w=>?_⟩
  obtain⟨de,h1,rfl⟩:=qe2 0 i ds d hd
  obtain⟨v,h2,h3⟩:=t.get h1
  have:=q xs (h.same e)
  rw[h2]at this
  cases this
  rw[EE]
  exact .tuple (SqT.of q8) (.cons (.int _) (.cons (w _ _ h3) .nil))
 stop:=λH' e=>⟨xs,h.same e,by rw[Yk,t.length]⟩
def qc3:Ka->Option (List Ka)
 |.list ds=>bB (enL 0 ds)
 |.tuple ds=>bB (enL 0 ds)
 |_=>bC
theorem qdx  (hg:Gl X "enumerate") (hm:X.mg "enumerate" = bC) (ha:PD X M a f) (hs:sj [a] X.env=[(bE,eval a X.env)]:=by rfl):PDI X M (.Tuple ts kk tp) (.Call (.Name "enumerate" p) [a] [] pos) (evI f qc3) :=
 (qjI hg hm (zy ha zZ hs) hs).weak λσ H R ⟨S,ρ,ds,hs,e,w⟩=>by
  obtain⟨x,e1,e⟩:=qe e
  refine⟨S,ρ,[x],hs,by show ob (f ρ) _=_;rw[e1];rfl,λvs H1 g1 dl=>?_⟩
  obtain⟨v,rfl,dv⟩:=dl.inv1
  cases dv with
  |list h t=>cases e;exact⟨_,bE,_,rfl,h.sq,w _ _ g1 λH2 o=>IsIt.enum (b:=bE) (h.off o).sq (t.off (hs.1.same g1) o)⟩
  |tuple h t=>cases e;exact⟨_,bD,_,rfl,h,w _ _ g1 λH2 o=>IsIt.enum (b:=bD) (h.off (hs.1.same g1) o) (t.off (hs.1.same g1) o)⟩
  |_=>cases e
theorem qiW (ds:ae):qc3 (.list ds)=bB (enL 0 ds):=rfl
theorem qiX (ds:ae):qc3 (.tuple ds)=bB (enL 0 ds):=rfl
theorem enL_n (n:Nat):enL n []=[]:=rfl
theorem enL_c (n:Nat)(d:Ka)(ds:ae):enL n (d::ds)=.tuple [.int (n:Nat),d]::enL (n+1) ds:=rfl
def qeQ (o:Option Rho)(k:Nat)(g:af)(tt:aj)(te:aa)(ρ:Rho)(ds:ae):Option (List Ka):=match o with
 |some ρ1=>(match tt ρ1 with | some bD=>yZ (te ρ1) (Qp k g tt te ρ ds)|some bE=>Qp k g tt te ρ ds|none=>bC)
 |none=>bC
theorem qeX (k:Nat)(g:af)(tt:aj)(te:aa)(ρ:Rho)(d:Ka)(ds:ae):Qp k g tt te ρ (d::ds)=qeQ (g d (ρ++Kk k bC)) k g tt te ρ ds:=by
 rw[Qp]
 unfold ob qeQ yZ
 cases g d (ρ++Kk k bC) with
 |none=>rfl
 |some ρ1 =>
  dsimp only
  cases tt ρ1 with
  |none=>rfl
  |some b =>
   cases b with
   |false=>rfl
   |true=>cases te ρ1<;>cases Qp k g tt te ρ ds<;>rfl
theorem qiN (k:Nat)(g:af)(tt:aj)(te:aa)(ρ:Rho):Qp k g tt te ρ []=bB []:=rfl
def qcW (b:Option Bool)(y:aE)(r:aU):Option (List Ka):=match b with | some bD=>yZ y r|some bE=>r|none=>bC
theorem qeR (ρ1:Rho)(k:Nat)(g:af)(tt:aj)(te:aa)(ρ:Rho)(ds:ae):qeQ (bB ρ1) k g tt te ρ ds=qcW (tt ρ1) (te ρ1) (Qp k g tt te ρ ds):=by
 unfold qeQ qcW
 rfl
theorem qeP (y:aE)(r:aU):qcW (bB bD) y r=yZ y r:=rfl
theorem qiJ (y:aE)(r:aU):qcW (bB bE) y r=r:=rfl
def qgG (a:aU)(n k:Nat)(g:af)(tt:aj)(te:aa)(ρ:Rho):Option Ka:=match a with | some ds=>if ρ.length=n/\ds.length<=1000 then qap (Qp k g tt te ρ ds) else bC|none=>bC
theorem qiL (n k:Nat)(fi:ai)(g:af)(tt:aj)(te:aa)(ρ:Rho):Q8 n k fi g tt te ρ=qgG (fi ρ) n k g tt te ρ:=by
 unfold Q8 ob qgG qap
 cases fi ρ with
 |none=>rfl
 |some ds =>
  dsimp only
  split
  .cases Qp k g tt te ρ ds<;>rfl
  .rfl
theorem qiH (ds:ae)(n k:Nat)(g:af)(tt:aj)(te:aa)(ρ:Rho):qgG (bB ds) n k g tt te ρ=if ρ.length=n/\ds.length<=1000 then qap (Qp k g tt te ρ ds) else bC:=rfl
end
def k1Of:Ka->Option (Int ⊕ List Int)
 |.int i=>bB (.inl i)
 |.tuple ds=>ob (intsOf ds) λjs=>bB (.inr js)
 |_=>bC
def qg7:List Ka->Option K2
 |[]=>bB []
 |d::ds=>ob (k1Of d) λk=>ob (qg7 ds) λks=>bB (k::ks)
def k2Of:Ka->Option K2
 |.tuple ds=>qg7 ds
 |_=>bC
theorem qfU (e:k1Of d=bB k):d=k2D k:=by
 unfold k1Of at e
 split at e
 .cases e;rfl
 .obtain⟨js,e1,e⟩:=qe e
  cases e
  rw[Wg e1];rfl
 .cases e
theorem qai:∀{ds:ae} {ks:K2},qg7 ds=bB ks->ds=ks.map k2D
 |[],_,e=>by cases e;rfl
 |d::ds,_,e=>by
  obtain⟨k,e1,e⟩:=qe e
  obtain⟨ks,e2,e⟩:=qe e
  cases e
  rw[qfU e1,qai e2];rfl
theorem qfV (e:k2Of d=bB ks):d=k2T ks:=by
 unfold k2Of at e
 split at e
 .rw[qai e];rfl
 .cases e
def kxOf:Ka->Option KX
 |.int i=>bB (.inl i)
 |d=>ob (k2Of d) λks=>bB (.inr ks)
theorem jz (e:kxOf d=bB k):d=kxD k:=by
 unfold kxOf at e
 split at e
 .cases e;rfl
 .obtain⟨ks,e1,e⟩:=qe e
  cases e
  exact qfV e1
def kOk (kvs:List (Ka×PyData))(k:KX):Bool:=kvs.all λp=>qg3 p.1==kxI k
theorem qdf:∀js:List Int,Kq (js.map .int)=bD
 |[]=>rfl
 |j::js=>by rw[Km,Kq,KU,qdf js];rfl
theorem qee:∀ks:K2,Kq (ks.map k2D)=bD
 |[]=>rfl
 |.inl i::ks=>by rw[Km,Kq,qee ks];rfl
 |.inr js::ks=>by
  rw[Km,Kq,qee ks]
  show(KU (.tuple (js.map .int))&&bD)=bD
  rw[KU,qdf];rfl
theorem qfa (ks:K2):(k2T ks).canLay0=bD:=by unfold k2T;rw[KU];exact qee ks
theorem qje (c:Str)(z:Int)(d:Ka)(ks:KX):kOk [(.str c,d),(.int z,.none)] ks=bE:=by
 cases ks with
 |inl i=>rfl
 |inr k=>rfl
theorem ji {α β:Type}{a:Option β}{g:β->KX}{F:β->Option α}{c:Str}{z:Int}{d:Ka}{r:α}(e:(ob a λks=>if kOk [(.str c,d),(.int z,.none)] (g ks)=bD then F ks else bC)=bB r):False:=by
 obtain⟨ks,_,e⟩:=qe e
 rw[qje]at e
 cases e
def zp (kvs:List (Ka×PyData))(ks:KX):Option Ka:=(kvs.find? λp=>KC p.1 (kxD ks)).map (·.2)
def putD (kvs:List (Ka×PyData))(ks:KX)(v:Ka):List (Ka×PyData) :=
 if (zp kvs ks).isSome=bD then kvs.map (λp=>if KC p.1 (kxD ks)=bD then (p.1,v) else p) else kvs++[(kxD ks,v)]
def putV (kvs:List (KX×Addr×V))(ks:KX)(b:Kg)(v:V):List (KX×Addr×V) :=
 if (kvs.any λp=>decide (p.1=ks))=bD then kvs.map (λp=>if p.1=ks then (p.1,p.2.1,v) else p) else kvs++[(ks,b,v)]
section
variable {K:Kd}{H:Hp}{S:Av}
theorem Jr (p:KX×Addr×V)(kvs:List (KX×Addr×V))(d:Ka)(ds:ae):dkv (p::kvs) (d::ds)=(kxD p.1,d)::dkv kvs ds:=rfl
theorem wJ  (e:k=ks):zp ((kxD k,d)::kvs) ks=bB d:=by
 unfold zp
 rw[Vd,qbT,sh e];rfl
theorem wI  (e:k≠ks):zp ((kxD k,d)::kvs) ks=zp kvs ks:=by
 unfold zp
 rw[Vd,qbT,se e]
theorem Ys {α β:Type}{R:α->β->Prop}{a:α}{b:β}:∀{as:List α} {bs:List β},VB R as bs->R a b->VB R (as++[a]) (bs++[b])
 |_,_,.nil,h=>.cons h .nil
 |_,_,.cons h t,q=>.cons h (Ys t q)
theorem qjP {ks:KX}{v:V}{d:Ka}(dv:Den K H S v d):∀{kvs:List (KX×Addr×V)} {ds:ae},DenL K H S (kvs.map (·.2.2)) ds->∃dC,DenL K H S ((kvs.map λp=>if p.1=ks then (p.1,p.2.1,v) else p).map (·.2.2)) dC/\dkv (kvs.map λp=>if p.1=ks then (p.1,p.2.1,v) else p) dC=(dkv kvs ds).map (λp=>if KC p.1 (kxD ks)=bD then (p.1,d) else p):=by
 intro kvs
 induction kvs with
 |nil=>intro ds t;cases t;exact⟨[],.nil,rfl⟩
 |cons p kvs ih =>
  intro ds t
  cases t with
  | @cons _ d0 _ ds dv0 t' =>
   obtain⟨dC,h1,h2⟩:=ih t'
   rw[Km,Km,Jr,Km,qbT]
   by_cases e:p.1=ks
   .refine⟨d::dC,?_,?_⟩
    .rw[si e];exact .cons dv h1
    .rw[si e,Jr,h2,si (sh e)]
   .refine⟨d0::dC,?_,?_⟩
    .rw[sk e];exact .cons dv0 h1
    .rw[sk e,Jr,h2,sk (λz=>e (sx z))]
theorem qgQ {kvs:List (KX×Addr×V)}{ds:ae}(hl:kvs.length=ds.length)(p:KX×Addr×V)(d:Ka):dkv (kvs++[p]) (ds++[d])=dkv kvs ds++[(kxD p.1,d)]:=by
 unfold dkv
 rw[Kw,List.zip_append (by rw[Kc,hl])]
 rfl
theorem qdL {b:Kg}  {kvs:List (KX×Addr×V)} (t:DenL K H S (kvs.map (·.2.2)) ds) (dv:Den K H S v d) (he:(kvs.any λp=>decide (p.1=ks))=(zp (dkv kvs ds) ks).isSome):
  ∃dC,DenL K H S ((putV kvs ks b v).map (·.2.2)) dC/\dkv (putV kvs ks b v) dC=putD (dkv kvs ds) ks d:=by
 have hl:kvs.length=ds.length:=by
  have:=t.length
  rwa[Kc]at this
 unfold putV putD
 rw[he]
 split
 .exact qjP dv t
 .refine⟨ds++[d],?_,qgQ hl _ _⟩
  rw[Kw]
  exact t.append (.cons dv .nil)
theorem qdI  {kvs:List (KX×Addr×V)} (k:DenL K H S (kvs.map λp=>kxV p.1 p.2.1) (kvs.map λp=>kxD p.1)) (dk:Den K H S (kxV ks b) (kxD ks)):DenL K H S ((putV kvs ks b v).map λp=>kxV p.1 p.2.1) ((putV kvs ks b v).map λp=>kxD p.1):=by
 unfold putV
 split
 .have e1:(kvs.map λp=>if p.1=ks then (p.1,p.2.1,v) else p).map (λp=>kxV p.1 p.2.1)=kvs.map λp=>kxV p.1 p.2.1:=by
   rw[Kx]
   refine Vm λp _=>?_
   show kxV (if p.1=ks then (p.1,p.2.1,v) else p).1 (if p.1=ks then (p.1,p.2.1,v) else p).2.1=_
   split<;>rfl
  have e2:(kvs.map λp=>if p.1=ks then (p.1,p.2.1,v) else p).map (λp=>kxD p.1)=kvs.map λp=>kxD p.1:=by
   rw[Kx]
   refine Vm λp _=>?_
   show kxD (if p.1=ks then (p.1,p.2.1,v) else p).1=_
   split<;>rfl
  rw[e1,e2];exact k
 .rw[Kw,Kw]
  exact k.append (.cons dk .nil)
end
section
variable {K:Kd}{H:Hp}{S:Av}
theorem Y5 {kvs:List (KX×Addr×V)}{ds:ae}(hl:kvs.length=ds.length)(h:kOk (dkv kvs ds) k=bD):∀p∈kvs,kxI p.1=kxI k:=by
 intro p hp
 have hm:kxD p.1∈(dkv kvs ds).map (·.1):=by rw[qc0 hl];exact Kl.mpr ⟨p,hp,rfl⟩
 obtain⟨q,hq,e⟩:=Kl.mp hm
 have:=KN.mp h q hq
 rw[e,qd9]at this
 simpa using this
theorem Jw (ks:K2):∀{kvs:List (KX×Addr×V)} {xs:aP} {ds:ae},VB PkT kvs xs->DenL K H S (kvs.map (·.2.2)) ds->
  (zp (dkv kvs ds) (.inr ks)=bC/\atKey xs ks=bC/\(kvs.any λp=>decide (p.1=.inr ks))=bE)\/∃d b y u,zp (dkv kvs ds) (.inr ks)=bB d/\atKey xs ks=bB (b,u)/\RelV y u/\Den K H S y d/\(kvs.any λp=>decide (p.1=.inr ks))=bD:=by
 intro kvs
 induction kvs with
 |nil =>
  intro _ _ r t
  cases r
  cases t
  exact .inl ⟨rfl,rfl,rfl⟩
 |cons p kvs ih =>
  intro _ _ r t
  cases r with
  | @cons _ q _ qs h r' =>
   cases t with
   | @cons _ d _ ds dv t' =>
    rw[Jr]
    by_cases e:p.1=.inr ks
    .refine .inr ⟨d,q.2.1,p.2.2,q.2.2,wJ e,?_,h.2.2,dv,by rw[UA,sh e,EH]⟩
     unfold atKey
     have eq:q.1=ks:=Sum.inr.inj (h.1.symm.trans e)
     rw[Vd,sh eq];rfl
    .have e':¬q.1=ks:=λz=>e (by rw[h.1,z])
     have ea:atKey (q::qs) ks=atKey qs ks:=by
      unfold atKey
      rw[Vd,se e']
     rw[wI e,ea,UA,se e,XY]
     exact ih r' t'
theorem yQ (i:Int):∀{kvs:List (KX×Addr×V)} {vs:aW} {ds:ae},VB PkI kvs vs->DenL K H S (kvs.map (·.2.2)) ds->
  (zp (dkv kvs ds) (.inl i)=bC/\valueAt vs i=bC/\(kvs.any λp=>decide (p.1=.inl i))=bE)\/∃d y u,zp (dkv kvs ds) (.inl i)=bB d/\valueAt vs i=bB u/\RelV y u/\Den K H S y d/\(kvs.any λp=>decide (p.1=.inl i))=bD:=by
 intro kvs
 induction kvs with
 |nil =>
  intro _ _ r t
  cases r
  cases t
  exact .inl ⟨rfl,rfl,rfl⟩
 |cons p kvs ih =>
  intro _ _ r t
  cases r with
  | @cons _ q _ qs h r' =>
   cases t with
   | @cons _ d _ ds dv t' =>
    rw[Jr]
    by_cases e:p.1=.inl i
    .refine .inr ⟨d,p.2.2,q.2,wJ e,?_,h.2,dv,by rw[UA,sh e,EH]⟩
     unfold valueAt
     have eq:q.1=i:=Sum.inl.inj (h.1.symm.trans e)
     rw[Vd,sh eq];rfl
    .have e':¬q.1=i:=λz=>e (by rw[h.1,z])
     have ea:valueAt (q::qs) i=valueAt qs i:=by
      unfold valueAt
      rw[Vd,se e']
     rw[wI e,ea,UA,se e,XY]
     exact ih r' t'
theorem qaB  (rv:RelV v u):∀{kvs:List (KX×Addr×V)} {xs:aP},VB PkT kvs xs->VB PkT (kvs.map λp=>if p.1=.inr ks then (p.1,p.2.1,v) else p) (xs.map (putAt ks u))
 |[],_,r=>by cases r;exact .nil
 |p::kvs,_,r=>by
  cases r with
  | @cons _ q _ qs h r' =>
   rw[Km,Km]
   refine .cons ?_ (qaB rv r')
   unfold putAt
   by_cases e:p.1=.inr ks
   .have eq:q.1=ks:=Sum.inr.inj (h.1.symm.trans e)
    rw[si e,si eq];exact⟨h.1,h.2.1,rv⟩
   .rw[sk e,sk (λz=>e (by rw[h.1,z]))];exact h
theorem qdK {ks:K2}{b:Kg}{v:V}{u:Ke}{kvs:List (KX×Addr×V)}{xs:aP}(r:VB PkT kvs xs)(rv:RelV v u)(he:(kvs.any λp=>decide (p.1=.inr ks))=(atKey xs ks).isSome):VB PkT (putV kvs (.inr ks) b v) (storedH xs ks b u):=by
 unfold putV storedH
 rw[he]
 split
 .exact qaB rv r
 .exact Ys r ⟨rfl,rfl,rv⟩
theorem qaA  (rv:RelV v u):∀{kvs:List (KX×Addr×V)} {xs:aW},VB PkI kvs xs->VB PkI (kvs.map λp=>if p.1=.inl i then (p.1,p.2.1,v) else p) (xs.map λq=>if q.1=i then (q.1,u) else q)
 |[],_,r=>by cases r;exact .nil
 |p::kvs,_,r=>by
  cases r with
  | @cons _ q _ qs h r' =>
   rw[Km,Km]
   refine .cons ?_ (qaA rv r')
   by_cases e:p.1=.inl i
   .have eq:q.1=i:=Sum.inl.inj (h.1.symm.trans e)
    rw[si e,si eq];exact⟨h.1,rv⟩
   .rw[sk e,sk (λz=>e (by rw[h.1,z]))];exact h
theorem qeH (i:Int):∀{kvs:List (KX×Addr×V)} {xs:aW},VB PkI kvs xs->(kvs.any λp=>decide (p.1=.inl i))=xs.any λq=>decide (q.1=i)
 |_,_,.nil=>rfl
 |_,_,@E2 _ _ _ p q _ _ h t=>by
  rw[UA,UA,qeH i t]
  by_cases e:p.1=.inl i
  .rw[sh e,sh (Sum.inl.inj (h.1.symm.trans e):q.1=i)]
  .rw[se e,se (λz=>e (by rw[h.1,z]):¬q.1=i)]
theorem qdJ {i:Int}{b:Kg}{v:V}{u:Ke}{kvs:List (KX×Addr×V)}{xs:aW}(r:VB PkI kvs xs)(rv:RelV v u):VB PkI (putV kvs (.inl i) b v) (stored xs i u):=by
 unfold putV stored
 rw[qeH i r]
 split
 .exact qaA rv r
 .exact Ys r ⟨rfl,rv⟩
end
section
variable {X:Cx}{sd:ah}{σ:St}{H:Hp}{s:Kf}{S:Av}
theorem qfd (I:Inv X sd σ H s):∀{kvs:List (KX×Addr×V)} {xs:aP},VB PkT kvs xs->DenL X.K H S (kvs.map λp=>kxV p.1 p.2.1) (kvs.map λp=>kxD p.1)->∀x∈xs,Is2 s.heap x.1 x.2.1
 |_,_,.nil,_,x,hx=>by cases hx
 |_,_,@E2 _ _ _ p q kvs qs h t,k,x,hx=>by
  cases k with
  |cons dk k' =>
   have dk:Den X.K H S (kxV p.1 p.2.1) (kxD p.1):=dk
   rcases Ko.mp hx with rfl|hx
   .rw[h.1]at dk
    obtain⟨as,r⟩:=Den.reads I dk (qfa _) (u:=KP x.2.1) (by rw[h.2.1];rfl)
    exact⟨as,r⟩
   .exact qfd I t k' x hx
theorem YS (I:Inv X sd σ H s){kvs:List (KX×Addr×V)}(h:H a=bB (DctO a kvs ep))(k:DenL X.K H S (kvs.map λp=>kxV p.1 p.2.1) (kvs.map λp=>kxD p.1))(hk:∀p∈kvs,kxI p.1=bE):
  kvs.length<=sv/\(a==sU)=bE/\∃xs:List (K2×Addr×Value),VB PkT kvs xs/\s.heap.DictOfH (qao X.prog X.w) a xs:=by
 have d:=zQ.of (I.hok a _ h)
 obtain⟨xs,pk,o,es,h1,h2,h3,h4,h5⟩:=d.tup hk
 exact⟨d.1,d.2.1,xs,pk,o,es,ep,h1,h2,h3,h4,qfd I pk k,h5⟩
theorem qat:∀{es:List UZ} {vs:aW},VB EnI es vs->Pairs (tH P w) es vs
 |_,_,.nil=>.nil
 |_,_,.cons h t=>by
  obtain⟨_,⟨tk,h2⟩,h3⟩:=h
  exact .cons (by rw[h2];exact Xv P w _ tk) h3 (qat t)
theorem qbf {es:Array UZ}(h:VB EnI es.toList vs):PySem.KeysOf (tH P w) es:=by
 intro e he
 have he:e∈es.toList:=U9.mpr he
 generalize es.toList=l at h he
 induction h with
 |nil=>cases he
 | @cons a b as bs h t ih =>
  rcases Ko.mp he with rfl|he
  .obtain⟨h1,⟨tk,h2⟩,_⟩:=h
   exact⟨b.1,by rw[h2];exact Xv P w _ tk,h1⟩
  .exact ih he
theorem JP:∀{es:List UZ} {vs:aW},Pairs (tH P w) es vs->(∀e∈es,∃k,(tH P w).is k e.key=bD/\e.hash=(tH P w).hash k)->VB EnI es vs
 |_,_,.nil,_=>.nil
 |_,_,.cons h1 h2 t,hk=>by
  refine .cons ?_ (JP t λe he=>hk e (.tail _ he))
  obtain⟨k,g1,g2⟩:=hk _ (.head _)
  obtain⟨tk,e⟩:=Value.isInt_shape h1
  have mz:=(tH P w).inj _ _ _ g1 h1
  exact⟨by rw[g2,mz];rfl,⟨tk,e⟩,h2⟩
theorem yO (I:Inv X sd σ H s)  (h:H a=bB (DctO a kvs ep)) (hk:∀p∈kvs,kxI p.1=bD):
  kvs.length<=sv/\(a==sU)=bE/\∃vs:List (Int×Value),VB PkI kvs vs/\s.heap.DictOf (tH X.prog X.w) a vs:=by
 have d:=zQ.of (I.hok a _ h)
 obtain⟨vs,pk,o,es,h1,h2,h3,h4,h5⟩:=d.int hk
 exact⟨d.1,d.2.1,vs,pk,o,es,ep,h1,h2,h3,qbf h4,qat h4,h5⟩
theorem key_is (I:Inv X sd σ H s)  (d:Den X.K H S y (k2T ks)) (r:RelV y u):∃b,y=.ref b/\u=.ref b/\Is2 s.heap ks b:=by
 obtain⟨a,xs,e,_,_⟩:=d.tuple_inv
 subst e
 cases(show u=KP a from r)
 obtain⟨as,q⟩:=d.reads I (qfa ks) (u:=.ref a) rfl
 exact⟨a,rfl,rfl,as,q⟩
theorem JL  (d:Den X.K H S y (.int i)) (r:RelV y u):y=.int i/\∃t,u=.int i t:=by
 cases d
 exact⟨rfl,r⟩
end
def dgetD (d k:Ka):Option Ka:=match d with
 |.dict kvs=>ob (kxOf k) λks=>if kOk kvs ks=bD then zp kvs ks else bC
 |_=>bC
def ix2D (d k:Ka):Option Ka:=match d with
 |.dict kvs=>dgetD (.dict kvs) k
 |d=>ixD d k
def in2D (k d:Ka):Option Ka:=match d with
 |.dict kvs=>ob (kxOf k) λks=>if kOk kvs ks=bD then bB (.bool (zp kvs ks).isSome) else bC
 |d=>inD k d
def qbs (k d:Ka):Option Ka:=match d with
 |.dict kvs=>ob (kxOf k) λks=>if kOk kvs ks=bD then bB (.bool (!(zp kvs ks).isSome)) else bC
 |d=>ninD k d
def Yj (d k x:Ka):Option Ka:=match d with
 |.dict kvs=>ob (kxOf k) λks=>if kOk kvs ks=bD then bB ((zp kvs ks).getD x) else bC
 |_=>bC
def jF (d k v:Ka):Option Ka:=match d with
 |.dict kvs=>ob (kxOf k) λks=>if kOk kvs ks=bD/\kvs.length<1000 then bB (.dict (putD kvs ks v)) else bC
 |_=>bC
section
variable {X:Cx}{sd:ah}{σ:St}{H:Hp}{s:Kf}{S:Av}{A:KZ}{E:ag}{a:Kg}{kvs:List (KX×Addr×V)}{ep:Nat}{ds:ae}{ks:KX}{y x v:V}{u r:Ke}{d dx:Ka}
theorem qdP {A:KZ}(hu:A.units+64<sL):A.in1.units+3<sL:=by show A.units+1+3<sL;omega
theorem qab (I:Inv X sd σ H s)(h:H a=bB (DctO a kvs ep)):s.TypeIs (.ref a) "dict"/\∃o,s.heap.get? a=bB o/\o.dict=bC:=by
 obtain⟨o,es,h1,h2,_⟩:=(zQ.of (I.hok a _ h)).vals
 exact⟨⟨o,h1,h2.1⟩,o,h1,h2.2.1⟩
theorem qiQ {Q:ag}(hu:A.units+64<sL)(I:Inv X sd σ H s)(h:H a=bB (DctO a kvs ep))(k:DenL X.K H S (kvs.map λp=>kxV p.1 p.2.1) (kvs.map λp=>kxD p.1))(t:DenL X.K H S (kvs.map (·.2.2)) ds)(hk:∀p∈kvs,kxI p.1=kxI ks)
  (dy:Den X.K H S y (kxD ks)) (ry:RelV y u) (e:zp (dkv kvs ds) ks=bB d) (q:∀v w' s',Inv X sd σ H s'->RelV v w'->Den X.K H S v d->Q w' s'):sm (model X.prog X.w) A (getItem (.ref a) u) Q E s:=by
 cases ks with
 |inr ks =>
  obtain⟨z,hs,xs,pk,dd⟩:=YS I h k hk
  obtain⟨b,rfl,rfl,hk⟩:=key_is I dy ry
  rcases Jw ks pk t with ⟨e1,_,_⟩|⟨d',b',v,w',e1,e2,rv,dv,_⟩
  .rw[e]at e1;cases e1
  .rw[e]at e1
   cases e1
   exact wpAny_getItem_heap (knd:=qao X.prog X.w) (qdP hu) hk dd e2 (q v w' _ (I.tok _) rv dv)
 |inl i =>
  obtain⟨z,hs,vs,pk,dd⟩:=yO I h hk
  obtain⟨rfl,t',rfl⟩:=JL dy ry
  rcases yQ i pk t with ⟨e1,_,_⟩|⟨d',v,w',e1,e2,rv,dv,_⟩
  .rw[e]at e1;cases e1
  .rw[e]at e1
   cases e1
   exact wpAny_getItem_of (Xv _ _ i t') dd.mapOf e2 (q v w' _ (I.tok _) rv dv)
theorem dg_in {Q:ag}(hu:A.units+64<sL)(I:Inv X sd σ H s)(h:H a=bB (DctO a kvs ep))(k:DenL X.K H S (kvs.map λp=>kxV p.1 p.2.1) (kvs.map λp=>kxD p.1))(t:DenL X.K H S (kvs.map (·.2.2)) ds)(hk:∀p∈kvs,kxI p.1=kxI ks)
  (dy:Den X.K H S y (kxD ks)) (ry:RelV y u) (q:∀s',Inv X sd σ H s'->Q (.bool (zp (dkv kvs ds) ks).isSome) s'):sm (model X.prog X.w) A (sA .In u (.ref a)) Q E s:=by
 cases ks with
 |inr ks =>
  obtain⟨z,hs,xs,pk,dd⟩:=YS I h k hk
  obtain⟨b,rfl,rfl,hk⟩:=key_is I dy ry
  refine wpAny_in_heap (knd:=qao X.prog X.w) (qdP hu) hk hs dd ?_
  rcases Jw ks pk t with ⟨e1,e2,_⟩|⟨d',b',v,w',e1,e2,rv,dv,_⟩
  .rw[e1]at q;rw[e2];exact q _ (I.tok _)
  .rw[e1]at q;rw[e2];exact q _ (I.tok _)
 |inl i =>
  obtain⟨z,hs,vs,pk,dd⟩:=yO I h hk
  obtain⟨rfl,t',rfl⟩:=JL dy ry
  refine wpAny_in_of (Xv _ _ i t') hs dd.mapOf ?_
  rcases yQ i pk t with ⟨e1,e2,_⟩|⟨d',v,w',e1,e2,rv,dv,_⟩
  .rw[e1]at q;rw[e2];exact q _ (I.tok _)
  .rw[e1]at q;rw[e2];exact q _ (I.tok _)
theorem qgP {Q:ag}(hu:A.units+64<sL)(I:Inv X sd σ H s)(h:H a=bB (DctO a kvs ep))(k:DenL X.K H S (kvs.map λp=>kxV p.1 p.2.1) (kvs.map λp=>kxD p.1))(t:DenL X.K H S (kvs.map (·.2.2)) ds)(hk:∀p∈kvs,kxI p.1=kxI ks)
  (dy:Den X.K H S y (kxD ks)) (ry:RelV y u) (q:∀s',Inv X sd σ H s'->Q (.bool (!(zp (dkv kvs ds) ks).isSome)) s'):sm (model X.prog X.w) A (sA .NotIn u (.ref a)) Q E s:=by
 cases ks with
 |inr ks =>
  obtain⟨z,hs,xs,pk,dd⟩:=YS I h k hk
  obtain⟨b,rfl,rfl,hk⟩:=key_is I dy ry
  refine wpAny_notIn_heap (knd:=qao X.prog X.w) (qdP hu) hk hs dd ?_
  rcases Jw ks pk t with ⟨e1,e2,_⟩|⟨d',b',v,w',e1,e2,rv,dv,_⟩
  .rw[e1]at q;rw[e2];exact q _ (I.tok _)
  .rw[e1]at q;rw[e2];exact q _ (I.tok _)
 |inl i =>
  obtain⟨z,hs,vs,pk,dd⟩:=yO I h hk
  obtain⟨rfl,t',rfl⟩:=JL dy ry
  refine wpAny_notIn_of (Xv _ _ i t') hs dd.mapOf ?_
  rcases yQ i pk t with ⟨e1,e2,_⟩|⟨d',v,w',e1,e2,rv,dv,_⟩
  .rw[e1]at q;rw[e2];exact q _ (I.tok _)
  .rw[e1]at q;rw[e2];exact q _ (I.tok _)
theorem qiP {Q:ag}(hu:A.units+64<sL)(I:Inv X sd σ H s)(h:H a=bB (DctO a kvs ep))(k:DenL X.K H S (kvs.map λp=>kxV p.1 p.2.1) (kvs.map λp=>kxD p.1))(t:DenL X.K H S (kvs.map (·.2.2)) ds)(hk:∀p∈kvs,kxI p.1=kxI ks)
  (dy:Den X.K H S y (kxD ks)) (ry:RelV y u) (pe:Den X.K H S x dx) (rx:RelV x r) (q:∀v w' s',Inv X sd σ H s'->RelV v w'->Den X.K H S v ((zp (dkv kvs ds) ks).getD dx)->Q w' s'):sm (model X.prog X.w) A (call (.builtin "dict.get") [.ref a,u,r]) Q E s:=by
 cases ks with
 |inr ks =>
  obtain⟨z,hs,xs,pk,dd⟩:=YS I h k hk
  obtain⟨b,rfl,rfl,hk⟩:=key_is I dy ry
  refine call_meetsIn NG dd.typeIs E3 (EM _ _ _) (meetsH_dict_get_default (qao X.prog X.w) a b hs r) ⟨qdP hu,ks,xs,hk,dd,?_⟩
  rcases Jw ks pk t with ⟨e1,e2,_⟩|⟨d',b',v,w',e1,e2,rv,dv,_⟩
  .rw[e1]at q;rw[e2];exact q _ _ _ (I.tok _) rx pe
  .rw[e1]at q;rw[e2];exact q _ _ _ (I.tok _) rv dv
 |inl i =>
  obtain⟨z,hs,vs,pk,dd⟩:=yO I h hk
  obtain⟨rfl,t',rfl⟩:=JL dy ry
  refine call_meetsIn NG dd.typeIs E3 (EM _ _ _) (meets_dict_get_default (tH X.prog X.w) a (Xv _ _ i t') hs r) ⟨_,dd.mapOf,?_⟩
  rcases yQ i pk t with ⟨e1,e2,_⟩|⟨d',v,w',e1,e2,rv,dv,_⟩
  .rw[e1]at q;rw[e2];exact q _ _ _ (I.tok _) rx pe
  .rw[e1]at q;rw[e2];exact q _ _ _ (I.tok _) rv dv
def qlP (K:Kd):TSet:=λo i v H Q=>∃S p kvs ep ks ds d,o=.ref p/\H p=bB (DctO p kvs ep)/\DenL K H S (kvs.map λp=>kxV p.1 p.2.1) (kvs.map λp=>kxD p.1)/\DenL K H S (kvs.map (·.2.2)) ds/\(∀p∈kvs,kxI p.1=kxI ks)/\Den K H S i (kxD ks)/\Den K H S v d/\kvs.length<1000/\∀b c6,i=kxV ks b->Q (upd H p (DctO p (putV kvs ks b v) c6))
theorem yG (kvs:List (KX×Addr×V))(ks:KX)(b:Kg)(v:V):(putV kvs ks b v).length<=kvs.length+1:=by
 unfold putV
 split
 .rw[Kc];omega
 .rw[Kr,KQ];omega
theorem set_dict (hu:X.A.units+64<sL):PSet X (qlP X.K):=by
 intro sd s σ H o i v ov iv u Q I ro ri rv h
 obtain⟨S,p,kvs,ep,ks,ds,d,rfl,hp,k,t,hk,di,dv,hz,q⟩:=h
 cases ro
 have fC:1000<sv:=zL (Kp _)
 cases ks with
 |inr ks =>
  obtain⟨z,hs,xs,pk,dd⟩:=YS I hp k hk
  obtain⟨b,rfl,rfl,hk⟩:=key_is I di ri
  have iL:xs.length<=sv:=by rw[←XX pk];exact z
  have he:(kvs.any λp=>decide (p.1=.inr ks))=(atKey xs ks).isSome:=by
   rcases Jw ks pk t with ⟨_,e2,e3⟩|⟨_,_,_,_,_,e2,_,_,e3⟩
   .rw[e2,e3];rfl
   .rw[e2,e3];rfl
  refine wpAny_setItem_heap (knd:=qao X.prog X.w) (hsz:=iL) (qdP hu) hk dd λh' gD c7=>?_
  obtain⟨o,es,c6,g1,g2,g3,g4,_,g5⟩:=gD
  have dct:zQ p (putV kvs (.inr ks) b v) c6 h':=⟨by have:=yG kvs (.inr ks) b v;omega,hs,.inl ⟨_,qdK pk rv he,o,es,g1,g2,g3,g4,g5⟩⟩
  exact⟨_,I.write (x:=p) (e:=p) (by rw[hp];exact Uz) (.inl rfl) (λc o' hc e=>(c7.2 c hc).trans e) ⟨o,g1⟩ dct.ok,q b c6 rfl⟩
 |inl i =>
  obtain⟨z,hs,vs,pk,dd⟩:=yO I hp hk
  obtain⟨rfl,t',rfl⟩:=JL di ri
  have iL:vs.length<=sv:=by rw[←XX pk];exact z
  refine wpAny_setItem_pairs (hsz:=iL) (Xv _ _ i t') dd λh' gD c7=>?_
  obtain⟨o,es,c6,g1,g2,g3,g4,g4',g5⟩:=gD
  have dct:zQ p (putV kvs (.inl i) 0 v) c6 h':=⟨by have:=yG kvs (.inl i) 0 v;omega,hs,.inr ⟨_,qdJ pk rv,o,es,g1,g2,g3,JP g4' λe he=>g4 e (U9.mp he),g5⟩⟩
  exact⟨_,I.write (x:=p) (e:=p) (by rw[hp];exact Uz) (.inl rfl) (λc o' hc e=>(c7.2 c hc).trans e) ⟨o,g1⟩ dct.ok,q 0 c6 rfl⟩
end
section
variable {prog:KO}{w:K0}{A:KZ}{E:ag}{s:Kf}
theorem qi9 {od:Obj}  {Q:ag} (hd:(d==sU)=bE) (ho:s.heap.get? d=bB od) (hx:od.ExactDict) (e9:od.data=.dict es ep)
  (hQ:Q (.ref s.heap.objs.size) { s with heap:=s.heap.push { cls:=.type "dict_keyiterator", data:=.fields #[.ref d,.int 0 0,.int es.size 0,.int ep 0] } }):sm (model prog w) A (pyIter (.ref d)) Q E s:=by
 have hT:s.TypeIs (.ref d) "dict" := ⟨od,ho,hx.1⟩
 refine Eo hT F.slot_dict_iter (VE F.slot_dict_iter hT F.entry_dict_iter (id ?_) (F.args_dict_iter_1 _))
 unfold UQ.«dict.__iter__»
 refine Kb (id ?_)
 unfold Builtin.Dict.dictSlotNone
 refine Kb (NH hT (id ?_:sm _ _ (pure (KP d)) _ _ s))
 refine Ki (id ?_:sm _ _ (XQ d >>= _) _ _ s)
 unfold XQ
 rw[sk (λz=>by rw[hd]at z;cases z)]
 refine Kb (Ki (Kb (U7 ho e9 (Kb (Xw ho e9 ?_)))))
 refine Kb (Vb (Ki ⟨_,rfl, "dict_keyiterator", _,⟨_,Ks _ rfl,rfl⟩,Ur.lookup,by simpa [tm] using hQ⟩))
theorem qcn {od:Obj}{es:Array UZ}  {Q:be} (hit:s.heap.IsKeyIter it d i es.size ep) (fK:s.heap.get? d=bB od) (fL:od.data=.dict es ep) (hx:es[i]?=bB e)
  (hQ:∀h',h'.IsKeyIter it d (i+1) es.size ep->V7 it s.heap h'->Q (bB e.key) { s with heap:=h' }):sm (model prog w) A (sY (.ref it)) Q E s:=by
 obtain⟨o,ho,hc,hd⟩:=id hit
 unfold sY
 refine Kb (Nu (Uc (name:=Kn "__next__") hit.typeIs Ur (VE Ur hit.typeIs NZ (Kb (Ki (Kb (Kb ?_)))) (NW _))))
 first|refine Kb (UR hit.typeIs (Ki (Kb (UV ho hd ?_))))|refine Kb (Xl hit.typeIs (Ki (Kb (UV ho hd ?_))))
 have dU:Us "dict_keyiterator" = bE:=rfl
 simp only[Vz,dU,sQ]
 refine(id ?_:sm _ _ (if (KP d==Vo)=bD then _ else _) _ _ s)
 rw[sk (λz=>Vl z:¬((KP d==Vo)=bD))]
 refine Kb (Ki (Kb (U7 fK fL ?_)))
 rw[sk '+']
 refine Kb (Ki (Kb (Xw fK fL ?_)))
 rw[sk '+']
 refine Ki (id ?_)
 have bK:i<es.size:=(U4.mp hx).1
 have nG:es[i]=e:=(U4.mp hx).2
 simp only[show ¬((i:Int)<0) from by omega,Va,sQ,V3 bK,nG]
 refine Kb (id ?_)
 first|refine Kb (UR hit.typeIs (Ki (Kb (NI hit.typeIs ?_))))|refine Kb (Xl hit.typeIs (Ki (Kb (NI hit.typeIs ?_))))
 refine(Kb (Nd ho hd '+' ?_):sm _ _ (setField (.ref it) 1 (tm ((i:Int)+1)) >>= _) _ _ s)
 have lr:(s.heap.update it (Obj.mapFields (·.setIfInBounds 1 (tm ((i:Int)+1))))).IsKeyIter it d (i+1) es.size ep:=⟨_,UE _ ho (E8 (X7 hd _)),(Obj.cls_mapFields ..).trans hc,by rw[X7 hd];simp [tm]⟩
 refine Kb (VJ (Kb (NI (s:={ s with heap:=s.heap.update it (Obj.mapFields (·.setIfInBounds 1 (tm ((i:Int)+1)))) }) lr.typeIs (id ?_:sm _ _ (pure e.key) _ _ _))))
 exact Ki (Ki ⟨_,rfl,Ki (hQ _ lr (Xm ..))⟩)
theorem qds {od:Obj}{es:Array UZ}{Q:be}(hh:A.handled=bC)(hit:s.heap.IsKeyIter it d i es.size ep)(fK:s.heap.get? d=bB od)(fL:od.data=.dict es ep)(lu:es.size<=i)
  (hQ:∀h',Heap.ExtBut it s.heap h'->Q bC { s with heap:=h' }):sm (model prog w) A (sY (.ref it)) Q E s:=by
 obtain⟨o,ho,hc,hd⟩:=id hit
 unfold sY
 refine Kb (Nu (Uc (name:=Kn "__next__") hit.typeIs Ur (VE Ur hit.typeIs NZ (Kb (Ki (Kb (Kb ?_)))) (NW _))))
 first|refine Kb (UR hit.typeIs (Ki (Kb (UV ho hd ?_))))|refine Kb (Xl hit.typeIs (Ki (Kb (UV ho hd ?_))))
 have dU:Us "dict_keyiterator" = bE:=rfl
 simp only[Vz,dU,sQ]
 refine(id ?_:sm _ _ (if (KP d==Vo)=bD then _ else _) _ _ s)
 rw[sk (λz=>Vl z:¬((KP d==Vo)=bD))]
 refine Kb (Ki (Kb (U7 fK fL ?_)))
 rw[sk '+']
 refine Kb (Ki (Kb (Xw fK fL ?_)))
 rw[sk '+']
 refine Ki (id ?_)
 simp only[show ¬((i:Int)<0) from by omega,Va,sQ,V2 lu]
 refine Kb (id ?_)
 first|refine Kb (UR hit.typeIs (Ki (id ?_)))|refine Kb (Xl hit.typeIs (Ki (id ?_)))
 refine(Kb (Nd ho hd '+' ?_):sm _ _ (setField (.ref it) 0 .none >>= _) _ _ s)
 refine(Kb ?_:sm _ _ (newExc (.type "StopIteration") [] >>= _) _ _ _)
 simp only[newExc,newTuple]
 refine Kb (Vb (Kb (m:=s9 _ _) (X0 (a:=Vo) (by first|rfl|(simp only[s9];rfl)) (Vb ?_ (by size_fits)))) (by size_fits))
 simp only[raiseNew]
 refine Kb (wpAny_handled (id ?_))
 rw[show A.in1.handled=bC from hh]
 refine Kb (Ki (wpAny_throw (id ?_)))
 exact Kb (EC (T := "StopIteration") (b:=bD) ⟨_,Ks _ rfl,rfl⟩ isSubtype_stop (Ki (hQ _ (((Xm ..).extBut.push _).push _))))
end
def Itd (a:Kg)(kvs:List (KX×Addr×V))(ep:Nat):It :=
 ⟨λi H=>H a=bB (DctO a kvs ep)/\i<kvs.length,λi H x H'=>H'=H/\∃p,kvs[i]?=bB p/\x=kxV p.1 p.2.1,λi H=>H a=bB (DctO a kvs ep)/\kvs.length<=i⟩
theorem Zn {h:K4}{kvs:List (KX×Addr×V)}(d:zQ a kvs ep h):∃o es,h.get? a=bB o/\o.ExactDict/\o.data=.dict es ep/\es.size=kvs.length/\∀(i:Nat) p,kvs[i]?=bB p->∃e,es[i]?=bB e/\RelV (kxV p.1 p.2.1) e.key/\RelV p.2.2 e.val:=by
 obtain⟨o,es,h1,h2,h3,vk,vv⟩:=d.vals
 have hsz:es.size=kvs.length:=by
  have:=vk.length
  rw[Kc,Kc,Vh]at this
  exact this.symm
 refine⟨o,es,h1,h2,h3,hsz,λi p hp=>?_⟩
 have hi:i<es.size:=by rw[hsz];exact(KW.mp hp).1
 refine⟨es[i],V3 hi,?_,?_⟩
 .obtain⟨u,hu,ru⟩:=vk.get (i:=i) (x:=kxV p.1 p.2.1) (by rw[KJ,hp];rfl)
  rw[KJ,XM,V3 hi]at hu
  cases hu
  exact ru
 .obtain⟨u,hu,ru⟩:=vv.get (i:=i) (x:=p.2.2) (by rw[KJ,hp];rfl)
  rw[KJ,XM,V3 hi]at hu
  cases hu
  exact ru
theorem qgm {P:KO}{w:K0}{K:Kd}{tg:KI}(a it:Kg)(kvs:List (KX×Addr×V))(ep:Nat):Turn P w K tg (Itd a kvs ep) [it] it (λi h=>h.IsKeyIter it a i kvs.length ep) where
 mem:=by simp
 obj:=λi h st b hb=>by
  have e:b=it:=by simpa using hb
  subst e
  obtain⟨o,e,c,d⟩:=st
  exact⟨o,e,λv z=>by rw[d]at z;cases z⟩
 keep:=λi h h' st k=>st.at λo e=>k it '+' o e
 item:=by
  intro X hP hw hK hc i sd s σ H E I hf st hg
  subst hP hw hK
  obtain⟨hq,bK⟩:=hg
  obtain⟨o,es,h1,h2,h3,hsz,c8⟩:=Zn (zQ.of (I.hok a _ hq))
  obtain⟨e,he,hk,_⟩:=c8 i kvs[i] (Kj bK)
  obtain⟨f0,f1,f2,f3,f4,f5⟩:=hf it '+'
  have cS:s.heap.IsKeyIter it a i es.size ep:=by rw[hsz];exact st
  refine qcn cS h1 h3 he λh' fj sb=>?_
  have I1:Inv X sd σ H { s with heap:=h' }:=I.turned (t':=s.toks) (λb o hb e=>(sb.2 b hb).trans e) f0 f1 f3 f4 f5
  obtain⟨o2,e2,c2,d2⟩:=id fj
  refine⟨e.key,rfl,qe8 (s:={ s with heap:=h' }) e2 c2 d2 '%' ⟨kxV kvs[i].1 kvs[i].2.1,H,I1,hk,⟨rfl,_,Kj bK,rfl⟩,by rw[hsz]at fj;exact fj,λb hb=>(hf b hb).1⟩⟩
 done:=by
  intro X hP hw hK hc i sd s σ H E I hf st hg
  subst hP hw hK
  obtain⟨hq,lu⟩:=hg
  obtain⟨o,es,h1,h2,h3,hsz,c8⟩:=Zn (zQ.of (I.hok a _ hq))
  obtain⟨f0,f1,f2,f3,f4,f5⟩:=hf it '+'
  have cS:s.heap.IsKeyIter it a i es.size ep:=by rw[hsz];exact st
  exact qds (I.ok.hd hc) cS h1 h3 '#' λh' eb=>⟨rfl,I.turned (t':=s.toks) (λb o hb e=>eb b o hb e) f0 f1 f3 f4 f5⟩
 self:=λ_ _ _ _ _ st h=>wpAny_pyIter_keyiter st h
def iDct (tl:TE):TI:=λσ H R=>tl σ H λx H1=>∃a kvs ep,x=.ref a/\H1 a=bB (DctO a kvs ep)/\R (Itd a kvs ep) H1
section
variable {X:Cx}{M:ao}{a:KI}{f:aa}
theorem qjH {tg l:KI}{tl:TE}(hl:PE X l tl):PI X tg l (iDct tl):=by
 intro sd s σ H R I h
 refine thn (hl sd s σ H _ I h) λv s1 ⟨x,H1,I1,r1,p,kvs,ep,ex,hq,q⟩=>?_
 subst ex
 cases r1
 have d:=zQ.of (I1.hok p _ hq)
 obtain⟨o,es,h1,h2,h3,hsz,_⟩:=Zn d
 refine qi9 d.2.1 h1 h2 h3 ?_
 rw[hsz]
 refine⟨s1.heap.objs.size,[s1.heap.objs.size],_,_,H1,rfl,I1.kept (t':=s1.toks) λb o e=>Kh _ e,qgm p _ kvs ep,⟨_,Ks _ rfl,rfl,rfl⟩,λb hb=>?_,q⟩
 have e:b=s1.heap.objs.size:=by simpa using hb
 subst e
 exact I1.fpOk (Kp _) (I1.hok.fresh (Kp _))
theorem IsIt.dct {K:Kd}{H:Hp}{S:Av}{l:Kg}{kvs:List (KX×Addr×V)}{ep:Nat}(h:H l=bB (DctO l kvs ep))(k:DenL K H S (kvs.map λp=>kxV p.1 p.2.1) (kvs.map λp=>kxD p.1)):IsIt K S (Itd l kvs ep) H (kvs.map λp=>kxD p.1) where
 go:=λi H' e hi=>⟨e _ _ h,by rwa[Kc]at hi⟩
 yld:=λi H' x H2 e ⟨e2,p,hp,ex⟩=>⟨by rw[e2];exact Same.refl _,λd hd S' w=>by
  obtain⟨v,h1,h2⟩:=k.get hd
  rw[KJ,hp]at h1
  cases h1
  rw[ex]
  exact w _ _ h2⟩
 stop:=λH' e=>⟨e _ _ h,by rw[Kc];exact Kp _⟩
def Wh:Ka->Option (List Ka)
 |.dict kvs=>if excK kvs=bD then bC else bB (kvs.map (·.1))
 |_=>bC
theorem yC (h:PD X M a f):PDI X M tg a (evI f Wh) :=
 (qjH h).weak λσ H R ⟨S,ρ,ds,hs,e,w⟩=>by
  obtain⟨x,e1,e⟩:=qe e
  refine⟨S,ρ,x,hs,e1,λv H1 g1 d1=>?_⟩
  cases d1 with
  | @dict p kvs ep dC h k t =>
   have hl:kvs.length=dC.length:=by
    have:=t.length
    rwa[Kc]at this
   have e:(if excK (dkv kvs dC)=bD then bC else bB ((dkv kvs dC).map (·.1)))=bB ds:=e
   rw[qc6,qc0 hl]at e
   cases e
   exact⟨p,kvs,ep,rfl,h.1,w _ _ g1 λH2 o=>IsIt.dct (o _ _ h.2 h.1) (k.off (hs.1.same g1) o)⟩
  |_=>cases e
end
def qkq (K:Kd):R2:=λx y H Q=>∃S a kvs ep ks ds d,x=.ref a/\H a=bB (DctO a kvs ep)/\DenL K H S (kvs.map λp=>kxV p.1 p.2.1) (kvs.map λp=>kxD p.1)/\DenL K H S (kvs.map (·.2.2)) ds/\(∀p∈kvs,kxI p.1=kxI ks)/\Den K H S y (kxD ks)/\zp (dkv kvs ds) ks=bB d/\∀v,Den K H S v d->Q v H
section
variable {X:Cx}{G:Gm}{M M' Mb L:ao}{fr:Fr}{a b c:KI}{es:aH}{f fk fx g fa fb:aa}{pos:Pos}{u:ak}
theorem qjb (hu:X.A.units+64<sL):IxR X (qkq X.K):=by
 intro value slice sd s σ H x y v u Q I rx ry h hs
 obtain⟨S,p,kvs,ep,ks,ds,d,rfl,hp,k,t,hk,dy,e,q⟩:=h
 cases rx
 exact tail_any (qab I hp).1 PySem.F.slot_dict_getitem.lookup (qiQ hu I hp k t hk dy ry e λv' w' s' I' r' d'=>⟨v',H,I',r',q v' d'⟩) hs
theorem qau (hr:Room k X.A)(ha:PD X M a fa)(hb:PD X M b fb)(hs:YL b:=by intro _ _;rfl):PD X M (.Subscript a b pos) (ev2 fa fb ix2D) :=
 (qfm (r:=λx y H Q=>(rIxL X.K x y H Q\/rIxT X.K x y H Q)\/qkq X.K x y H Q) ((WM.or qb3).or (qjb hr.units)) ha hb hs).weak λσ H Q ⟨S,ρ,d,hs,e,q⟩=>by
  obtain⟨x,e1,e⟩:=qe e
  obtain⟨y,e2,e⟩:=qe e
  refine⟨S,ρ,x,hs,e1,λv H1 g1 d1=>⟨S,ρ,y,hs.same g1,e2,λw H2 g2 d2=>?_⟩⟩
  have kY:=d1.same g2
  cases kY with
  |list h t =>
   cases d2 with
   |int i =>
    obtain⟨z,h1,h2⟩:=t.atI e
    exact .inl (.inl ⟨_,_,i,z,rfl,rfl,h.sq,h1,q z H2 (g1.trans g2) h2⟩)
   |_=>cases e
  |tuple h t =>
   cases d2 with
   |int i =>
    obtain⟨z,h1,h2⟩:=t.atI e
    exact .inl (.inr ⟨_,_,i,z,rfl,rfl,h,h1,q z H2 (g1.trans g2) h2⟩)
   |_=>cases e
  | @dict p kvs ep ds h k t =>
   have e:ob (kxOf y) (λks=>if kOk (dkv kvs ds) ks=bD then zp (dkv kvs ds) ks else bC)=bB d:=e
   obtain⟨ks,e3,e⟩:=qe e
   have hl:kvs.length=ds.length:=by
    have:=t.length
    rwa[Kc]at this
   split at e
   case isFalse=>cases e
   rename_i hok
   rw[jz e3]at d2
   exact .inr ⟨S,p,kvs,ep,ks,ds,d,rfl,h.1,k,t,Y5 hl hok,d2,e,λv' d'=>q v' H2 (g1.trans g2) d'⟩
  |exc0 h o=>exact(ji (g:=id) e).elim
  |exc1 h o x z t=>exact(ji (g:=id) e).elim
  |ins h o=>exact(ji (g:=id) e).elim
  |_=>cases e
theorem qgK (hr:Room k X.A):OpD X (sA .In) in2D:=by
 intro sd s σ H x y v u Q I rx ry h
 obtain⟨S,dx,dy,d,m,h1,h2,e,q⟩:=h
 cases h2 with
 | @dict p kvs ep ds hp kk t =>
  have e:ob (kxOf dx) (λks=>if kOk (dkv kvs ds) ks=bD then bB (VI (zp (dkv kvs ds) ks).isSome) else bC)=bB d:=e
  obtain⟨ks,e3,e⟩:=qe e
  have hl:kvs.length=ds.length:=by
   have:=t.length
   rwa[Kc]at this
  split at e
  case isFalse=>cases e
  rename_i hok
  cases e
  rw[jz e3]at h1
  cases(show u=KP p from ry)
  exact dg_in hr.units I hp.1 kk t (Y5 hl hok) h1 rx λs' I'=>⟨.bl _,H,I',rfl,q _ H (Same.refl H) (.bool _)⟩
 |list a b=>exact d_in hr sd s σ H x _ v u Q I rx ry ⟨S,dx,_,d,m,h1,.list a b,e,q⟩
 |tuple a b=>exact d_in hr sd s σ H x _ v u Q I rx ry ⟨S,dx,_,d,m,h1,.tuple a b,e,q⟩
 |exc0 h o=>exact(ji (g:=id) e).elim
 |exc1 h o x z t=>exact(ji (g:=id) e).elim
 |ins h o=>exact(ji (g:=id) e).elim
 |_=>cases e
theorem W9 (hr:Room k X.A):OpD X (sA .NotIn) qbs:=by
 intro sd s σ H x y v u Q I rx ry h
 obtain⟨S,dx,dy,d,m,h1,h2,e,q⟩:=h
 cases h2 with
 | @dict p kvs ep ds hp kk t =>
  have e:ob (kxOf dx) (λks=>if kOk (dkv kvs ds) ks=bD then bB (VI (!(zp (dkv kvs ds) ks).isSome)) else bC)=bB d:=e
  obtain⟨ks,e3,e⟩:=qe e
  have hl:kvs.length=ds.length:=by
   have:=t.length
   rwa[Kc]at this
  split at e
  case isFalse=>cases e
  rename_i hok
  cases e
  rw[jz e3]at h1
  cases(show u=KP p from ry)
  exact qgP hr.units I hp.1 kk t (Y5 hl hok) h1 rx λs' I'=>⟨.bl _,H,I',rfl,q _ H (Same.refl H) (.bool _)⟩
 |list a b=>exact WD hr sd s σ H x _ v u Q I rx ry ⟨S,dx,_,d,m,h1,.list a b,e,q⟩
 |tuple a b=>exact WD hr sd s σ H x _ v u Q I rx ry ⟨S,dx,_,d,m,h1,.tuple a b,e,q⟩
 |exc0 h o=>exact(ji (g:=id) e).elim
 |exc1 h o x z t=>exact(ji (g:=id) e).elim
 |ins h o=>exact(ji (g:=id) e).elim
 |_=>cases e
theorem yE:PF X M (.Dict [] [] pos) (kd (.dict [])):=λsd s σ H Q I ⟨S,ρ,d,hs,e,q⟩=>by
 cases e
 have hb:sU<s.heap.objs.size:=XN '%' (show su<s.heap.objs.size from (I.mod.glob.keeps I.bk).lt)
 have hn:=I.hok.fresh (Kp s.heap.objs.size)
 have dct:zQ s.heap.objs.size [] 0 (s.heap.push '-'):=⟨Vr _,sF.mpr (V6 (KD hb)),.inl ⟨[],.nil,_,#[],Ks _ rfl,⟨rfl,rfl,rfl⟩,rfl,rfl,UU⟩⟩
 exact wpAny_Dict_empty ⟨.ref s.heap.objs.size,_,I.laid (a:=s.heap.objs.size) (o:=DctO s.heap.objs.size [] 0) (t':=s.toks) (λ_ _ q=>Kh _ q) (Kp _) dct.ok,rfl,q _ _ (Same.lay hn) hn (.dct (kvs:=[]) (ds:=[]) q8 .nil .nil)⟩
def ev3 (f g h:aa)(r:bq):Rho->Option Ka:=λρ=>ob (f ρ) λx=>ob (g ρ) λy=>ob (h ρ) λz=>r x y z
theorem qfj {apos bG:Pos}(hr:Room k X.A)(ho:PD X M o f)(he:PD X M a fk)(hx:PD X M b fx)
  (bP:sM o "get" X.env (eval o X.env)=eval o X.env:=by rfl)
  (cz:((sG bG (sj [a,b] X.env)).all (λx=>!x.1)&&(tv bG (sT [] X.env)).all (λx=>x.1.isSome)
   && decide ([a,b].length+([]:List Ui).length+(if ([]:List Ui).isEmpty then 0 else 1)<30))=bD:=by rfl)
  (bQ:(apos.endLine==bG.line)=bD:=by rfl) (lz:sG bG (sj [a,b] X.env)=[(bE,eval a X.env),(bE,eval b X.env)]:=by rfl):
  PD X M (.Call (.Attribute o "get" apos) [a,b] [] bG) (ev3 f fk fx Yj):=by
 intro sd s σ H Q I ⟨S,ρ,d,hs,e,q⟩
 obtain⟨x,e1,e⟩:=qe e
 obtain⟨y,e2,e⟩:=qe e
 obtain⟨z,e3,e⟩:=qe e
 refine wpAny_Call_method bP cz bQ EN NG PySem.F.type_dict_get (thn (ho sd s σ H (λv H1=>Same H H1/\Den X.K H1 S v x) I ⟨S,ρ,x,hs,e1,λv H1 g1 d1=>⟨g1,d1⟩⟩) λv s1 ⟨xv,H1,I1,rx,g1,d1⟩=>?_)
 cases d1 with
 | @dict p kvs ep ds h kk t =>
  have e:ob (kxOf y) (λks=>if kOk (dkv kvs ds) ks=bD then bB ((zp (dkv kvs ds) ks).getD z) else bC)=bB d:=e
  obtain⟨ks,e4,e⟩:=qe e
  have hl:kvs.length=ds.length:=by
   have:=t.length
   rwa[Kc]at this
  split at e
  case isFalse=>cases e
  rename_i hok
  cases e
  obtain rfl:v=KP p:=rx
  refine⟨(qab I1 h.1).1,λa' q'=>?_,?_⟩
  .cases q'
   exact(qab I1 h.1).2
  rw[lz]
  refine Calls.callWith_builtin rfl (Calls.evalArgs_plain (Calls.spliced_cons (thn (he sd s1 σ H1 (λv H2=>Same H1 H2/\Den X.K H2 S v y) I1 ⟨S,ρ,y,hs.same g1,e2,λv H2 g2 d2=>⟨g2,d2⟩⟩) λkv s2 ⟨yv,H2,I2,ry,g2,d2⟩ =>
   Calls.spliced_cons (thn (hx sd s2 σ H2 (λv H3=>Same H2 H3/\Den X.K H3 S v z) I2 ⟨S,ρ,z,hs.same (g1.trans g2),e3,λv H3 g3 d3=>⟨g3,d3⟩⟩) λzv s3 ⟨zz,H3,I3,rz,g3,d3⟩=>Calls.spliced_nil ?_))))
  have mB:=g2.trans g3
  rw[jz e4]at d2
  exact qiP hr.units I3 (mB _ _ h.1) (kk.same mB) (t.same mB) (Y5 hl hok) (d2.same g3) ry d3 rz λv' w' s' I' r' dv=>⟨v',H3,I',r',q v' H3 (g1.trans mB) dv⟩
 |exc0 h o=>exact(ji (g:=id) e).elim
 |exc1 h o x z t=>exact(ji (g:=id) e).elim
 |ins h o=>exact(ji (g:=id) e).elim
 |_=>cases e
def yf (i:Nat)(fk f:aa):Rho->Option Out:=λρ=>ob (f ρ) λd=>ob (vr i ρ) λl=>ob (fk ρ) λk=>ob (jF l k d) λl'=>bB (.nx (ρ.set i (bB l')))
theorem qi2 (js:aF):jm (js.map .int)=bD:=by
 induction js with
 |nil=>rfl
 |cons j js ih=>exact ih
theorem qbZ:∀ks:K2,jm (ks.map k2D)=bD
 |[]=>rfl
 |.inl _::ks=>qbZ ks
 |.inr js::ks=>by
  show(jm (js.map .int)&&jm (ks.map k2D))=bD
  rw[qi2,qbZ];rfl
theorem qgV (k:KX):flat (kxD k)=bD:=by
 cases k with
 |inl i=>rfl
 |inr ks=>exact qbZ ks
theorem qd7 (e:jF l k d=bB l'):∃kvs ks,l=.dict kvs/\k=kxD ks/\kOk kvs ks=bD/\kvs.length<1000/\l'=.dict (putD kvs ks d):=by
 unfold jF at e
 split at e
 .obtain⟨ks,e1,e⟩:=qe e
  split at e
  .rename_i hc;cases e;exact⟨_,ks,rfl,jz e1,hc.1,hc.2,rfl⟩
  .cases e
 .cases e
theorem qhF {kvs:List (KX×Addr×V)}{ep:Nat}{ds:ae}{S:Av}{σ:St}{ρ:Rho}{H:Hp}{i:Nat}{pp b:Kg}{ks:KX}{v:V}{d:Ka}{c6:Nat}(os:OwnS X.K G M L H S σ ρ)(hM:Flt M i)(hL:i∉L)(e0:ρ[i]?=bB (bB (.dict (dkv kvs ds))))(a1:σ[i]?=bB (bB (.ref pp)))(c1:S pp)(h:H pp=bB (DctO pp kvs ep))(k:DenL X.K H S (kvs.map λp=>kxV p.1 p.2.1) (kvs.map λp=>kxD p.1))(t:DenL X.K H S (kvs.map (·.2.2)) ds)(dk:Den X.K H S (kxV ks b) (kxD ks))(dv:Den X.K H S v d)
  (he:(kvs.any λp=>decide (p.1=ks))=(zp (dkv kvs ds) ks).isSome):OwnS X.K G M L (upd H pp (DctO pp (putV kvs ks b v) c6)) S σ (ρ.set i (bB (.dict (putD (dkv kvs ds) ks d)))):=by
 obtain⟨dC,t',ed⟩:=qdL (b:=b) t dv he
 refine os.write hM hL e0 a1 rfl ?_
 rw[←ed]
 exact .dct q8 ((qdI k dk).off os.ds.1 (Off.upd c1)) (t'.off os.ds.1 (Off.upd c1))
theorem WY {K:Kd}{H:Hp}{S:Av}(ks:KX):∀{kvs:List (KX×Addr×V)} {ds:ae},DenL K H S (kvs.map (·.2.2)) ds->(kvs.any λp=>decide (p.1=ks))=(zp (dkv kvs ds) ks).isSome
 |[],_,t=>by cases t;rfl
 |p::kvs,_,t=>by
  cases t with
  | @cons _ d _ ds dv t' =>
   rw[Jr,UA]
   by_cases e:p.1=ks
   .rw[wJ e,sh e];rfl
   .rw[wI e,se e,XY];exact WY ks t'
theorem qiS {kvs:List (KX×Addr×V)}{ds:ae}(h:kvs.length=ds.length):(dkv kvs ds).length=kvs.length:=by
 unfold dkv
 rw[EY,Kc,h,Nat.min_self]
theorem ZG (hr:Room k X.A)(i:Nat){px sp:Pos}(hv:Vis X.env.scope x)(hM:Flt M i)(hL:i∉L)(hk:PD X [] b fk)(he:PD X M a f)(hN:X.N[i]?=bB x:=by rfl)(hd:(x==("__debug__" : Str))=bE:=by decide +kernel)(dD:(x==("__classdict__" : Str))=bE:=by decide +kernel)
  (ha:∀v,assign (.Subscript (.Name x px) b sp) X.env v=(do
   let ov ←holding [v] (eval (.Name x px) X.env)
   let iv ←holding [v,ov] (eval b X.env)
   standAt sp
   holding [v,ov,iv] (setItem ov iv v)
   release [v,ov,iv] []):=by intro _;rfl)
  (hs:swapsWithSole [.Subscript (.Name x px) b sp] a pos.line X.env=pure bE:=by rfl) (hw:swappedStores [.Subscript (.Name x px) b sp] a X.env=pure bC:=by rfl)
  (h1:(sI [.Subscript (.Name x px) b sp] X.env).map (·.2)=[assign (.Subscript (.Name x px) b sp) X.env]:=by rfl):
  PDS X G M L M Mb fr (.Assign [.Subscript (.Name x px) b sp] a pos) (yf i fk f) :=
 (qh5 he (qlB (qct i hv hN hd dD) hk (set_dict hr.units) ha) hs hw h1).weak λD σ H ⟨S,ρ,o,os,e,q⟩=>by
  obtain⟨d,e1,e⟩:=qe e
  obtain⟨l,e2,e⟩:=qe e
  obtain⟨kd,e3,e⟩:=qe e
  obtain⟨l',e4,e⟩:=qe e
  cases e
  obtain⟨kvs0,ks,rfl,rfl,hok,hz,rfl⟩:=qd7 e4
  refine⟨S,ρ,d,os.ds,e1,λv H1 g1 d1=>?_⟩
  have cW:=os.same g1
  obtain⟨pp,a1,b1,c1,n1,w1,_⟩:=cW.own i hM _ (jY e2)
  cases b1 with
  | @dct kvs ep ds h kk t =>
   refine⟨_,a1,G.S0,ρ,_,cW.den,e3,λkv H2 g2 dk=>?_⟩
   have fq:=cW.same g2
   have dk:Den X.K H2 S kv (kxD ks):=dk.flat (qgV ks)
   have hl:kvs.length=ds.length:=by
    have:=t.length
    rwa[Kc]at this
   rw[qiS hl]at hz
   refine⟨S,pp,kvs,ep,ks,ds,d,rfl,g2 _ _ h,kk.same g2,t.same g2,Y5 hl hok,dk,d1.same g2,hz,λb' c6 eb=>?_⟩
   subst eb
   exact q _ _ _ (qhF fq hM hL (jY e2) a1 c1 (g2 _ _ h) (kk.same g2) (t.same g2) dk (d1.same g2) (WY ks t))
end
section
variable {X:Cx}{G:Gm}{M M' Mb L:ao}{fr:Fr}{a b c:KI}{es:aH}{f fk g:aa}{pos:Pos}{u:ak}
def sNo:Rho->Option Out:=λ_=>bC
theorem Z2:PDS X G M L M' Mb fr (.Raise e1 e2 pos) sNo:=λsd s σ H D I ⟨S,ρ,o,os,e,q⟩=>by cases e
end
def tVd (K:Kd)(M:ao)(f:aa):TE:=λσ H Q=>∃S ρ d,DenS K H S M σ ρ/\f ρ=bB d/\∀p fp H',Same H H'->(∀q∈fp,H q=bC)->DeepO K H' (insL S fp) fp p d->Q (.ref p) H'
noncomputable def Yb:Ka->Bool
 |.list _=>bD
 |_=>bE
theorem Kids.length {K:Kd}{H:Hp}{S:Av}{qs:aw}{ds:ae}(h:Kids K H S qs ds):qs.length=ds.length:=by
 induction h with
 |nil=>rfl
 |cons _ _ _ _ r=>rw[Kv,Kv,r]
theorem Kids.get {K:Kd}{H:Hp}{S:Av}{qs:aw}{ds:ae}{i:Nat}{d:Ka}(h:Kids K H S qs ds)(e:ds[i]?=bB d):∃q xs es,qs[i]?=bB q/\d=.list es/\H q=bB (.lst xs)/\DenL K H S xs es:=by
 induction h generalizing i with
 |nil=>cases Nj.symm.trans e
 |cons h t _ _ r =>
  cases i with
  |zero=>cases e;exact⟨_,_,_,rfl,rfl,h,t⟩
  |succ i=>exact r e
theorem qc9 {d:Ka}(h:Yb d=bD):flat d=bE:=by
 unfold Yb at h
 split at h
 .rfl
 .cases h
theorem Mx.get {K:Kd}{H:Hp}{S:Av}{qs:aw}{vs:List V}{ds:ae}{i:Nat}{d:Ka}(h:Mx K H S qs vs ds)(e:ds[i]?=bB d)(hl:Yb d=bD):∃q xs es,q∈qs/\vs[i]?=bB (.ref q)/\d=.list es/\H q=bB (.lst xs)/\DenL K H S xs es:=by
 induction h generalizing i with
 |nil=>cases Nj.symm.trans e
 |kid h t _ _ r =>
  cases i with
  |zero=>cases e;exact⟨_,_,_,.head _,rfl,rfl,h,t⟩
  |succ i =>
   obtain⟨q,xs,es,h1,h2⟩:=r e
   exact⟨q,xs,es,.tail _ h1,h2⟩
 |flt a f _ r =>
  cases i with
  |zero=>cases e;rw[qc9 hl]at f;cases f
  |succ i=>exact r e
theorem Mx.put {K:Kd}{H:Hp}{S:Av}{q:Kg}{xs:List V}{es:ae}(m:Dm S H)(hq:S q)(t:DenL K (L2.upd H q (.lst xs)) S xs es){qs:aw}{vs:List V}{ds:ae}{i:Nat}{d:Ka}(h:Mx K H S qs vs ds)(e:vs[i]?=bB (.ref q))(hl:Yb d=bD)(e2:ds[i]?=bB d):Mx K (L2.upd H q (.lst xs)) S qs vs (ds.set i (.list es)):=by
 have off:Off S H (L2.upd H q (.lst xs)):=λb u z e=>by rw[qK (λy=>z (by rw[y];exact hq))];exact e
 induction h generalizing i with
 |nil=>cases Nj.symm.trans e
 |kid h t' n r ih =>
  cases i with
  |zero=>cases e;exact .kid q8 t n (r.upd m hq n)
  |succ i =>
   obtain⟨q2,_,_,m2,h2,_⟩:=r.get e2 hl
   cases(show bB (V.ref q)=bB (.ref q2) from e.symm.trans h2)
   refine .kid ?_ (t'.off m off) n (ih e e2)
   rw[qK (λz=>n (by rw[z];exact m2))];exact h
 |flt a f r ih =>
  cases i with
  |zero=>cases e2;rw[qc9 hl]at f;cases f
  |succ i=>exact .flt (a.off m off) f (ih e e2)
theorem Kids.put {K:Kd}{H:Hp}{S:Av}{q:Kg}{xs:List V}{es:ae}(m:Dm S H)(hq:S q)(t:DenL K (L2.upd H q (.lst xs)) S xs es){qs:aw}{ds:ae}{i:Nat}(h:Kids K H S qs ds)(e:qs[i]?=bB q):Kids K (L2.upd H q (.lst xs)) S qs (ds.set i (.list es)):=by
 induction h generalizing i with
 |nil=>cases Nj.symm.trans e
 |cons h t' n r ih =>
  cases i with
  |zero=>cases e;exact .cons q8 t n (r.upd m hq n)
  |succ i =>
   refine .cons ?_ (t'.off m λb u z e=>by rw[qK (λy=>z (by rw[y];exact hq))];exact e) n (ih e)
   rw[qK (λz=>n (by rw[z];exact KY e))];exact h
section
variable {X:Cx}{G:Gm}{M M' Mb L:ao}{fr:Fr}{a b c:KI}{es:aH}{f fk g:aa}{pos:Pos}{u:ak}{fs:ai}
theorem DenS.insO {K:Kd}{H H':Hp}{S:Av}{σ:St}{ρ:Rho}{p:Kg}{d:Ka}(hs:DenS K H S M σ ρ)(e:Same H H')(n:H p=bC)(o:OwnO K H' (insA S p) p d):DenS K H' (insA S p) M σ ρ :=
 ⟨(hs.1.same e).ins o.mut,hs.2.1,λi d hi q=>let ⟨v,a,b⟩:=hs.2.2 i d hi q;⟨v,a,(b.sub λa ha z=>z.elim id λy=>absurd (by rw[y];exact n) ha).same e⟩⟩
def qaE (i:Nat)(f:aa):Rho->Option Out:=λρ=>if i<ρ.length/\ρ.length<=1000 then ob (f ρ) λd=>bB (.nx (ρ.set i (bB d))) else bC
def Y6:Ka->Ka->Option Nat
 |.tuple ds,.int k=>ixN ds.length k
 |.list ds,.int k=>ixN ds.length k
 |_,_=>bC
noncomputable def qbg:Ka->Nat->Option Ka
 |.tuple ds,j=>ds[j]?
 |.list ds,j=>ds[j]?
 |_,_=>bC
noncomputable def qch:Ka->Nat->Ka->Ka
 |.tuple ds,j,l=>.tuple (ds.set j l)
 |.list ds,j,l=>.list (ds.set j l)
 |d,_,_=>d
theorem DeepF.same {K:Kd}{H H':Hp}{S:Av}{σ:St}{ρ:Rho}{F:Nat->List Kg}(e:Same H H')(f:DeepF K G M H S σ ρ F):DeepF K G M H' S σ ρ F :=
 ⟨λi hi d q=>let ⟨p,a,b,c⟩:=f.own i hi d q;⟨p,a,b.same e,c⟩,f.disj,f.flat⟩
theorem jQ {qs:aw}{j:Nat}{k:Int}{q:Kg}{n:Nat}(h:n=qs.length)(e:ixN n k=bB j)(e':qs[j]?=bB q):atI (qs.map V.ref) k=bB (.ref q):=by
 unfold atI
 rw[Kc,←h,e]
 show(qs.map V.ref)[j]?=_
 rw[KJ,e'];rfl
theorem DeepO.kid {K:Kd}{H:Hp}{S:Av}{fp:aw}{p:Kg}{d0 l:Ka}{j:Nat}(b:DeepO K H S fp p d0)(e:qbg d0 j=bB l)(hk:Yb l=bD):∃q xs es,q∈fp/\l=.list es/\H q=bB (.lst xs)/\DenL K H S xs es/\
  (∀k,Y6 d0 (.int k)=bB j->∀Q:VK,Q (.ref q) H->(rIxL K (.ref p) (.int k) H Q\/rIxT K (.ref p) (.int k) H Q))/\
  ∀H2,Same H H2->∀kq fg,S q->Dm S H2->DenL K (L2.upd H2 q (.lst kq)) S kq fg->DeepO K (L2.upd H2 q (.lst kq)) S fp p (qch d0 j (.list fg)):=by
 cases b with
 | @tpl _ qs vs ds h t =>
  obtain⟨q,xs,es,h1,hv,rfl,h2,h3⟩:=t.get (show ds[j]?=bB l from e) hk
  refine⟨q,xs,es,h1,rfl,h2,h3,λk hk Q hQ=>.inr ⟨p,_,k,_,rfl,rfl,.inl (.inl h),?_,hQ⟩,λH2 g kq fg hS m t'=>?_⟩
  .have hk:ixN ds.length k=bB j:=hk
   unfold atI
   rw[t.length,hk]
   exact hv
  exact .tpl (by rw[qK (λz=>m.tup (.inl (g _ _ h)) (by rw[z];exact hS))];exact g _ _ h) (Mx.put m hS t' (t.same g) hv hk e)
 | @lst _ qs ds h n t =>
  obtain⟨q,xs,es,h1,rfl,h2,h3⟩:=t.get (show ds[j]?=bB l from e)
  have hm:=KY h1
  refine⟨q,xs,es,.tail _ hm,rfl,h2,h3,λk hk Q hQ=>.inl ⟨p,_,k,_,rfl,rfl,SqL.of h,jQ t.length.symm hk h1,hQ⟩,λH2 g kq fg hS m t'=>?_⟩
  exact .lst (by rw[qK (λz=>n (by rw[z];exact hm))];exact g _ _ h) n (Kids.put m hS t' (t.same g) h1)
 |dct h k v n t=>cases e
def qdQ (i:Nat)(fk f:aa):Rho->Option Out:=λρ=>ob (vr i ρ) λc=>ob (fk ρ) λk=>ob (Y6 c k) λj=>ob (qbg c j) λl=>ob (f ρ) λd=>ob (appD l d) λl'=>bB (.nx (ρ.set i (bB (qch c j l'))))
theorem qf1 {c k:Ka}{j:Nat}(e:Y6 c k=bB j):∃n,k=.int n:=by
 unfold Y6 at e
 split at e
 .exact⟨_,rfl⟩
 .exact⟨_,rfl⟩
 .cases e
theorem qdA (i:Nat){x:Str}{px sp apos bG:Pos}(hv:Vis X.env.scope x)(hM:Dp M i)(hb:PD X M b fk)(he:PD X M a f)(hpx:YL b:=by intro _ _;rfl)(hN:X.N[i]?=bB x:=by rfl)(hd:(x==("__debug__" : Str))=bE:=by decide +kernel)(dD:(x==("__classdict__" : Str))=bE:=by decide +kernel)
  (bP:sM (.Subscript (.Name x px) b sp) "append" X.env (eval (.Subscript (.Name x px) b sp) X.env)=eval (.Subscript (.Name x px) b sp) X.env:=by rfl)
  (cz:((sG bG (sj [a] X.env)).all (λx=>!x.1)&&(tv bG (sT [] X.env)).all (λx=>x.1.isSome)
   && decide ([a].length+([]:List Ui).length+(if ([]:List Ui).isEmpty then 0 else 1)<30))=bD:=by rfl)
  (bQ:(apos.endLine==bG.line)=bD:=by rfl) (hs:sj [a] X.env=(bE,eval a X.env)::sj [] X.env:=by rfl) (bU:(sG bG (sj [] X.env)).any (·.1)=bE:=by rfl)
  (iH:sX (.Call (.Attribute (.Subscript (.Name x px) b sp) "append" apos) [a] [] bG) bC pos.line X.env=pure bE:=by rfl):
  PDS X G M L M Mb fr (.Expr (.Call (.Attribute (.Subscript (.Name x px) b sp) "append" apos) [a] [] bG) pos) (qdQ i fk f) :=
 (qcu (qax Xo Nm ED qbp (qfm (r:=λx y H Q=>rIxL X.K x y H Q\/rIxT X.K x y H Q) (WM.or qb3) (qct i hv hN hd dD) hb hpx) (zy he zZ hs) bP cz bQ hs bU) iH).weak λD σ H ⟨S,ρ,o,os,e,q⟩=>by
  obtain⟨c0,e1,e⟩:=qe e
  obtain⟨k0,e2,e⟩:=qe e
  obtain⟨j,e3,e⟩:=qe e
  obtain⟨l,e4,e⟩:=qe e
  obtain⟨d,e5,e⟩:=qe e
  obtain⟨l',e6,e⟩:=qe e
  cases e
  obtain⟨k,rfl⟩:=qf1 e3
  obtain⟨F,f0⟩:=os.deep
  obtain⟨pp,a1,b1,c1⟩:=f0.own i hM _ (jY e1)
  refine⟨_,a1,S,ρ,.int k,os.ds,e2,λw H1 g1 d1=>?_⟩
  cases d1.int_inv
  have gj:Yb l=bD:=by
   obtain⟨ds,e7,_⟩:=wG e6
   rw[e7];rfl
  obtain⟨q0,xs,es,m0,rfl,h0,t0,ix,put⟩:=(b1.same g1).kid e4 gj
  refine ix k e3 _ ⟨.inl ⟨rfl,_,SqL.of h0⟩,S,ρ,[d],os.ds.same g1,by show ob (f ρ) _=_;rw[e5];rfl,λvs H2 g2 dl=>?_⟩
  obtain⟨v,rfl,dv⟩:=dl.inv1
  have fq:=os.same (g1.trans g2)
  obtain⟨ds,e7,hz,rfl⟩:=wG e6
  cases e7
  refine⟨q0,xs,v,rfl,rfl,g2 _ _ h0,Vg (by rw[t0.length];exact hz) (VL (zL (Kp _))),?_⟩
  exact q _ _ _ (fq.writeD (f0.same (g1.trans g2)) hM (jY e1) a1 m0 rfl (put H2 g2 _ _ (c1 q0 m0).1 fq.ds.1 (((t0.same g2).snoc dv).off fq.ds.1 (Off.upd (c1 q0 m0).1))))
end
theorem qfF:sE "zip" = bB (.type "zip"):=by decide +kernel
section
variable {X:Cx}{sd:ah}{σ:St}{H:Hp}{s:Kf}
theorem Inv.turnedL {h':K4}{t':Nat}{fp:aw}(I:Inv X sd σ H s)(k:∀b o,b∉fp->s.heap.get? b=bB o->h'.get? b=bB o)(ff:∀b∈fp,FpOk X sd H b):Inv X sd σ H { s with heap:=h',toks:=t' }:=by
 have g6:∀b u,H b=bB u->b∉fp:=λb u q z=>by rw[(ff b z).1]at q;cases q
 refine I.step (g':=s.gens) (d':=s.drawn) (ch:=fp) (λb hb=>⟨(ff b hb).2.2.2.1,(ff b hb).2.1,(ff b hb).2.2.2.2.1,(ff b hb).2.2.2.2.2⟩) (λb o _ _ hc e _=>k b o hc e) (λb o _ _ hc e _=>⟨o.slots,k b o hc e⟩) (λ_ _ _ _ n=>n)
  (λb o hc e=>⟨o,k b o hc e⟩) (λ_ _ e=>e) (λ_ _ _ e=>e) (λb ps e=>⟨#[],by rw[e];simp⟩) (λm hm=>?_) (λb u q=>?_) I.bare
 .obtain⟨o,es,ep,ho,r⟩:=hm
  exact⟨o,es,ep,k _ o (λz=>(ff _ z).2.1 rfl) ho,r⟩
 .refine(I.hok b u q).stay (λc v hc q'=>k c v ?_ q') (λ_ q=>q) λ_ _ q=>q
  rcases hc with z|z
  .rw[z];exact g6 b u q
  .exact g6 c _ z
end
def Itz (K:Kd)(a b:Kg):It :=
 ⟨λi H=>∃xs ys x y,SqL K H a xs/\SqL K H b ys/\xs[i]?=bB x/\ys[i]?=bB y,
  λi H v H'=>∃p x y,H p=bC/\v=.ref p/\H'=upd H p (.tup [x,y])/\(∀xs,SqL K H a xs->xs[i]?=bB x)/\∀ys,SqL K H b ys->ys[i]?=bB y,
  λi H=>∃xs ys,SqL K H a xs/\SqL K H b ys/\(xs[i]?=bC\/ys[i]?=bC)⟩
def tnZ (z ti to i1 i2 a b:Kg)(i:Nat)(h:K4):Prop:=IsZip h z ti to .none/\IsPair h ti (.ref i1) (.ref i2)/\(∃u v,IsPair h to u v)/\h.IsListIter i1 a i/\h.IsListIter i2 b i
theorem qit {P:KO}{w:K0}{K:Kd}{ts:aH}{kk:Nat}{tp:Pos}{z ti to i1 i2 a b:Kg}(D:ZipApart z ti to i1 i2 a b):Turn P w K (.Tuple ts kk tp) (Itz K a b) [z,ti,to,i1,i2] z (tnZ z ti to i1 i2 a b) where
 mem:=by simp
 obj:=λi h ⟨hz,gE,⟨u,v,ik⟩,⟨o1,e1,c1,d1⟩,⟨o2,e2,c2,d2⟩⟩ c hc=>by
  simp only[Ko,VR,sZ]at hc
  rcases hc with rfl|rfl|rfl|rfl|rfl
  .exact⟨_,hz,λv z=>by cases z⟩
  .exact⟨_,gE,λv z=>by cases z⟩
  .exact⟨_,ik,λv z=>by cases z⟩
  .exact⟨_,e1,λv z=>by rw[d1]at z;cases z⟩
  .exact⟨_,e2,λv z=>by rw[d2]at z;cases z⟩
 keep:=λi h h' ⟨hz,gE,⟨u,v,ik⟩,⟨o1,e1,r1⟩,⟨o2,e2,r2⟩⟩ k =>
  ⟨k z '+' _ hz,k ti '+' _ gE,⟨u,v,k to '+' _ ik⟩,⟨o1,k i1 '+' o1 e1,r1⟩,⟨o2,k i2 '+' o2 e2,r2⟩⟩
 item:=by
  intro X hP hw hK hc i sd s σ H E I hf st hg
  subst hP hw hK
  obtain⟨xs,ys,x,y,ku,gk,hx,hy⟩:=hg
  obtain⟨hz,gE,⟨u0,v0,ik⟩,h1,h2⟩:=st
  obtain⟨iM,kh,p1,_⟩:=I.list ku
  obtain⟨dP,kz,p2,_⟩:=I.list gk
  obtain⟨u1,ni,nH⟩:=kh.get hx
  obtain⟨u2,hu2,nI⟩:=kz.get hy
  refine wpAny_pyNext_zip_item D hz gE ik h1 h2 p1.isList p2.isList (x:=u1) (y:=u2) (by simpa using ni) (by simpa using hu2) λh' a1 a2 a3 a4 a5 a6 hk=>⟨_,rfl,wpAny_letOwnedTupleGo_zip a1 λh3 mh cQ=>?_⟩
  have k3:∀c o,c≠z->h'.get? c=bB o->h3.get? c=bB o:=λc o hc q=>(cQ.2 c hc).trans q
  have I1:Inv X sd σ H { s with heap:=h3,toks:=s.toks }:=I.turnedL (fp:=[z,ti,to,i1,i2]) (λc o hc q=>by
   simp only[Ko,VR,sZ,not_or]at hc
   exact k3 c o hc.1 (hk c o hc.1 hc.2.2.1 hc.2.2.2.1 hc.2.2.2.2 q)) hf
  have hn:H s.heap.objs.size=bC:=I.hok.fresh (Kp _)
  have fT:FpOk X sd H s.heap.objs.size:=I.fpOk (Kp _) hn
  have lt:∀{b:Kg} {o:Obj},s.heap.get? b=bB o->s.heap.objs.size≠b:=λe=>V8 (Kz e)
  have n1:s.heap.objs.size≠i1:=by obtain⟨o,e,_⟩:=h1;exact lt e
  have n2:s.heap.objs.size≠i2:=by obtain⟨o,e,_⟩:=h2;exact lt e
  have ok:QF X.prog X.w (upd H s.heap.objs.size (.tup [x,y])) h3 s.heap.objs.size (.tup [x,y]) :=
   ⟨VL (zL (show 2<=1000 by decide)),[u1,u2],.cons nH (.cons nI .nil),⟨_,k3 _ _ (lt hz) a5,rfl,_,rfl⟩⟩
  refine⟨.ref s.heap.objs.size,upd H s.heap.objs.size (.tup [x,y]),I1.track hn fT.2.1 fT.2.2.2.1 fT.2.2.2.2.1 fT.2.2.2.2.2 ok,rfl,⟨_,x,y,hn,rfl,rfl,λzs nJ=>by rw[I.list_inj nJ ku];exact hx,λzs nJ=>by rw[I.list_inj nJ gk];exact hy⟩,
   ⟨mh,k3 _ _ D.TIz (hk _ _ D.TIz D.TITO D.TIi1 D.TIi2 gE),⟨_,_,k3 _ _ D.TOz a2⟩,a3.extBut cQ.extBut D.i1z,a4.extBut cQ.extBut D.i2z⟩,λc hc=>?_⟩
  have fy:=(hf c hc).1
  simp only[Ko,VR,sZ]at hc
  rw[qK ?_]
  .exact fy
  .rcases hc with rfl|rfl|rfl|rfl|rfl
   .exact V6 (lt hz)
   .exact V6 (lt gE)
   .exact V6 (lt ik)
   .exact V6 n1
   .exact V6 n2
 done:=by
  intro X hP hw hK hc i sd s σ H E I hf st hg
  subst hP hw hK
  obtain⟨xs,ys,ku,gk,hx⟩:=hg
  obtain⟨hz,gE,⟨u0,v0,ik⟩,h1,h2⟩:=st
  obtain⟨iM,kh,p1,_⟩:=I.list ku
  obtain⟨dP,kz,p2,_⟩:=I.list gk
  have l1:=kh.length
  have l2:=kz.length
  have nK:iM.toArray[i]?=bC\/dP.toArray[i]?=bC:=by
   rcases hx with hx|hx
   .left
    rw[Xc]at hx
    rw[V2];rw[KA];omega
   .right
    rw[Xc]at hx
    rw[V2];rw[KA];omega
  exact wpAny_pyNext_zip_end (I.ok.hd hc) D hz gE ik h1 h2 p1.isList p2.isList nK λh' hk=>⟨rfl,I.turnedL (fp:=[z,ti,to,i1,i2]) (t':=s.toks) (λc o hc q=>by
   simp only[Ko,VR,sZ,not_or]at hc
   exact hk c o hc.1 hc.2.2.1 hc.2.2.2.1 hc.2.2.2.2 q) hf⟩
 self:=λ_ _ _ _ _ st h=>wpAny_pyIter_zip st.1 h
theorem qgq {n p1 p2:Nat}(h1:p1<n)(h2:p2<n):ZipApart (n+4) (n+2) (n+3) n (n+1) p1 p2:=by
 constructor<;>first|exact KD '#'|exact V8 '#'
def iZip (K:Kd)(ta:TA):TI:=λσ H R=>ta σ H λvs H1=>∃a b xs ys,vs=[.ref a,.ref b]/\SqL K H1 a xs/\SqL K H1 b ys/\R (Itz K a b) H1
section
variable {X:Cx}{M:ao}{a b:KI}{es:aH}{f fa fb:aa}{pos:Pos}
theorem qlD {ts:aH}{kk:Nat}{tp:Pos}{ta:TA}{p:Pos}(hg:Gl X "zip")(hm:X.mg "zip" = bC)(ha:PA X [a,b] ta)(hs:sj [a,b] X.env=(bE,eval a X.env)::sj [b] X.env:=by rfl)(dq:(sG pos (sj [b] X.env)).any (·.1)=bE:=by rfl):PI X (.Tuple ts kk tp) (.Call (.Name "zip" p) [a,b] [] pos) (iZip X.K ta):=by
 intro sd s σ H R I h
 refine Call_ (wN I hg hm qfF (U0 (thn (ha pos sd s σ H _ I h) λus s1 ⟨vs,H1,I1,r1,q1⟩=>?_) hs dq) '$' '$')
 obtain⟨p1,p2,xs,ys,e,ku,gk,q⟩:=q1
 subst e
 cases r1 with
 |cons nH r2 =>
 cases r2 with
 |cons nI r3 =>
 cases r3
 cases nH
 cases nI
 obtain⟨iM,kh,l1,_⟩:=I1.list ku
 obtain⟨dP,kz,l2,_⟩:=I1.list gk
 have lt1:p1<s1.heap.objs.size:=by obtain⟨o,e,_⟩:=l1.isList;exact Kz e
 have lt2:p2<s1.heap.objs.size:=by obtain⟨o,e,_⟩:=l2.isList;exact Kz e
 refine call_zip_2 l1.isList l2.isList λh' a1 a2 a3 a4 a5 a6 k=>wpAny_pyIter_zip a1 ?_
 have I2:Inv X sd σ H1 { s1 with heap:=h',toks:=s1.toks }:=I1.kept (t':=s1.toks) k
 have D:ZipApart (s1.heap.objs.size+4) (s1.heap.objs.size+2) (s1.heap.objs.size+3) s1.heap.objs.size (s1.heap.objs.size+1) p1 p2:=qgq lt1 lt2
 refine⟨_,[s1.heap.objs.size+4,s1.heap.objs.size+2,s1.heap.objs.size+3,s1.heap.objs.size,s1.heap.objs.size+1],_,Itz X.K p1 p2,H1,rfl,I2,qit D,⟨a1,a2,⟨_,_,a3⟩,a4,a5⟩,λc hc=>?_,q⟩
 have hl:s1.heap.objs.size<=c:=by
  simp only[Ko,VR,sZ]at hc
  rcases hc with e|e|e|e|e<;>(rw[e];first|exact Kp _|exact Nat.le_add_right _ _)
 exact I1.fpOk hl (I1.hok.fresh hl)
noncomputable def zpL:List Ka->List Ka->List Ka
 |d::ds,e::es=>.tuple [d,e]::zpL ds es
 |_,_=>[]
theorem qcL:∀(ds es:ae) (i:Nat) (d:Ka),(zpL ds es)[i]?=bB d->∃x y,ds[i]?=bB x/\es[i]?=bB y/\d=.tuple [x,y]
 |[],_,_,_,h=>by simp [zpL]at h
 |_::_,[],_,_,h=>by simp [zpL]at h
 |x::ds,y::es,0,d,h=>by simp [zpL]at h;exact⟨x,y,rfl,rfl,h.symm⟩
 |x::ds,y::es,i+1,d,h=>by
  obtain⟨x',y',h1,h2,h3⟩:=qcL ds es i d (by simpa [zpL] using h)
  exact⟨x',y',by simpa using h1,by simpa using h2,h3⟩
theorem qfB:∀(ds es:ae),ds[(zpL ds es).length]?=bC\/es[(zpL ds es).length]?=bC
 |[],_=>.inl rfl
 |_::_,[]=>.inr rfl
 |x::ds,y::es=>by
  rcases qfB ds es with h|h
  .left;simpa [zpL] using h
  .right;simpa [zpL] using h
theorem IsIt.zip {K:Kd}{H:Hp}{S:Av}{l m:Kg}{xs ys:List V}{ds es:ae}(h:SqL K H l xs)(t:DenL K H S xs ds)(h':SqL K H m ys)(t':DenL K H S ys es):IsIt K S (Itz K l m) H (zpL ds es) where
 go:=λi H' e hi=>by
  obtain⟨d,hd⟩:∃d,(zpL ds es)[i]?=bB d:=⟨_,Kj hi⟩
  obtain⟨x,y,h1,h2,_⟩:=qcL ds es i d hd
  obtain⟨v,h3,_⟩:=t.get h1
  obtain⟨w,h4,_⟩:=t'.get h2
  exact⟨xs,ys,v,w,e.seq h,e.seq h',h3,h4⟩
 yld:=λi H' x H2 e ⟨p,y1,y2,hp,ex,e2,q1,q2⟩=>by
  subst ex e2
  refine⟨Same.lay hp,λd hd S' w=>?_⟩
  obtain⟨d1,d2,h1,h2,rfl⟩:=qcL ds es i d hd
  obtain⟨v1,h3,r1⟩:=t.get h1
  obtain⟨v2,h4,r2⟩:=t'.get h2
  have e3:=q1 xs (e.seq h)
  have e4:=q2 ys (e.seq h')
  rw[h3]at e3
  rw[h4]at e4
  cases e3
  cases e4
  exact .tuple (SqT.of q8) (.cons (w _ _ r1) (.cons (w _ _ r2) .nil))
 stop:=λH' e=>⟨xs,ys,e.seq h,e.seq h',by
  have a:=t.length
  have b:=t'.length
  rcases qfB ds es with z|z
  .left;rw[Xc]at z ⊢;omega
  .right;rw[Xc]at z ⊢;omega⟩
def zipD:Ka->Ka->Option (List Ka)
 |.list ds,.list es=>bB (zpL ds es)
 |_,_=>bC
def evI2 (fa fb:aa)(g:bh)(ρ:Rho):Option (List Ka):=ob (fa ρ) λx=>ob (fb ρ) λy=>g x y
theorem qjB {ts:aH}{kk:Nat}{tp p:Pos}(hg:Gl X "zip")(hm:X.mg "zip" = bC)(ha:PD X M a fa)(hb:PD X M b fb)(hs:sj [a,b] X.env=(bE,eval a X.env)::sj [b] X.env:=by rfl)(dI:sj [b] X.env=(bE,eval b X.env)::sj [] X.env:=by rfl)(dq:(sG pos (sj [b] X.env)).any (·.1)=bE:=by rfl):
  PDI X M (.Tuple ts kk tp) (.Call (.Name "zip" p) [a,b] [] pos) (evI2 fa fb zipD) :=
 (qlD hg hm (zy ha (zy hb zZ dI) hs) hs dq).weak λσ H R ⟨S,ρ,ds,hs,e,w⟩=>by
  obtain⟨x,e1,e⟩:=qe e
  obtain⟨y,e2,e⟩:=qe e
  refine⟨S,ρ,[x,y],hs,by show ob (fa ρ) _=_;rw[e1];show ob (ob (fb ρ) _) _=_;rw[e2];rfl,λvs H1 g1 dl=>?_⟩
  cases dl with
  |cons d1 dl =>
  cases dl with
  |cons d2 dl =>
  cases dl
  cases d1 with
  |list h t =>
   cases d2 with
   |list h' t'=>cases e;exact⟨_,_,_,_,rfl,h.sq,h'.sq,w _ _ g1 λH2 o=>IsIt.zip (h.off o).sq (t.off (hs.1.same g1) o) (h'.off o).sq (t'.off (hs.1.same g1) o)⟩
   |_=>cases e
  |_=>cases e
theorem qj9 (ds es:ae):zipD (.list ds) (.list es)=bB (zpL ds es):=rfl
theorem qkx (d e:Ka)(ds es:ae):zpL (d::ds) (e::es)=.tuple [d,e]::zpL ds es:=rfl
theorem qiy (es:ae):zpL [] es=[]:=by cases es<;>rfl
theorem qiz (ds:ae):zpL ds []=[]:=by cases ds<;>rfl
end
theorem qdM (A:KZ)(s:Kf)(a:Int)(t:Tok)(c:Int)(u:Tok)(prog:KO)(w:K0)(E:ag)(Q:ag)(h:Q (.bool (decide (a > c))) s):sm (model prog w) A (sR .Gt (.int a t) (.int c u)) Q E s :=
 (PyProof.Rows.gt_int h:sm (model prog w) A (sA .Gt (.int a t) (.int c u)) Q E s)
mutual
def gtX:Ka->Ka->Option Bool
 |.int i,.int j=>bB (decide (i > j))
 |.tuple xs,.tuple ys=>gtXs xs ys
 |_,_=>bC
def gtXs:List Ka->List Ka->Option Bool
 |[],[]=>bB bE
 |[],_::_=>bB bE
 |_::_,[]=>bB bD
 |x::xs,y::ys=>if KC x y=bD then gtXs xs ys else gtX x y
end
def GtAt (A:KZ)(s:Kf)(y x:Ke)(b:Bool):Prop:=∀(prog:KO) (w:K0) (E Q:ag),Q (.bool b) s->sm (model prog w) A (sR .Gt y x) Q E s
def qcM (A:KZ)(s:Kf):List Ke->List Ke->Bool->Prop
 |[],[],r=>r=bE
 |[],_::_,r=>r=bE
 |_::_,[],r=>r=bD
 |y::ys,x::xs,r=>∃e,SeqAt.EqAt A s y x e/\(e=bD->qcM A s ys xs r)/\(e=bE->GtAt A s y x r)
section
open PySem.SeqAt
open PySem.AutoSeq1 (wpAny_loadPart')
open PySem.MeetsSeq PySem.MeetsSeq2 PySem.MeetsSeq3
theorem qcI (l b:Kg)(items bL:aS)(n n2:Nat)(dd dM:aO)(sl dN:au):
  Meets (UQ.«tuple.__gt__» ⟨[.ref l,.ref b],[]⟩)
   (λA R s=>s.heap.get? l=bB { cls:=.type "tuple", dict:=dd,data:=.seq items n,slots:=sl }/\s.heap.get? b=bB { cls:=.type "tuple", dict:=dM,data:=.seq bL n2,slots:=dN }/\∃r,qcM A.in1 s items.toList bL.toList r/\R (.ok (.ret (.bool r))) s) :=
 .of_wp λprog w A R s h=>by
  obtain⟨hp,g,d,tk,os⟩:=s;obtain⟨hl,hb,r,hx,h⟩:=h
  have f2:=AutoSeq1.sub_tuple_tuple;wp_walk using sy hl,sy hb,Nv _ (λrest b s'=>b.1=bC/\s'=⟨hp,g,d,tk,os⟩/\∃(vs ws:ar),rest=vs.zip ws/\
   qcM A.in1 ⟨hp,g,d,tk,os⟩ vs ws r/\vs.length+bL.size=ws.length+items.size) _
  case turn =>
   rintro⟨y,x⟩ rest b s' ⟨du,rfl,vs,ws,hz,fF,hlen⟩
   cases vs with
   |nil=>rw[En]at hz;cases hz
   |cons v vs =>
    cases ws with
    |nil=>rw[N9]at hz;cases hz
    |cons u ws =>
     rw[Xu]at hz
     injection hz with nB fG
     injection nB with hy ij
     subst hy ij
     simp only[Kv]at hlen
     obtain⟨e,he,h1,h2⟩:=fF
     refine Kb (he prog w _ _ ?_)
     cases e with
     |true =>
      wp_walk
      exact⟨rfl,rfl,_,_,fG,h1 rfl,by omega⟩
     |false =>
      have la:=h2 rfl prog w
      wp_walk using la
      exact⟨_,rfl,by simpa using h⟩
  case fin =>
   rintro⟨b1,b2⟩ s' ⟨du,rfl,vs,ws,hz,fF,hlen⟩
   simp only at du
   subst du
   have hv:r=decide (items.size > bL.size):=by
    cases vs with
    |nil =>
     cases ws with
     |nil =>
      simp only[Uu]at hlen
      rw[show r=bE from fF]
      exact(se '#').symm
     |cons c hw =>
      simp only[Uu,Kv]at hlen
      rw[show r=bE from fF]
      exact(se '#').symm
    |cons a hv =>
     cases ws with
     |nil =>
      simp only[Uu,Kv]at hlen
      rw[show r=bD from fF]
      exact(sh '#').symm
     |cons c hw =>
      rw[Xu]at hz
      cases hz
   rw[hv]at h
   wp_walk
   exact⟨_,rfl,by simpa [NL] using h⟩
  case h =>
   exact⟨rfl,rfl,items.toList,bL.toList,rfl,hx,by simp [Fg]⟩
end
theorem qgY {A:KZ}{s:Kf}{items bL:aS}(hl:IsTup s.heap l items)(hb:IsTup s.heap b bL)(hu:A.units<sL)(h:qcM A.in1 s items.toList bL.toList r):GtAt A s (.ref l) (.ref b) r:=λprog w E Q q=>by
 obtain⟨⟨cls,dd,data,sl⟩,ho,hc,n,hd⟩:=id hl;obtain⟨⟨fA,dM,data2,dN⟩,eY,eF,n2,hd2⟩:=id hb
 simp only at hc hd eF hd2
 subst hc hd eF hd2
 exact Nn (op:=.Gt) ⟨_,ho,rfl⟩ ⟨_,eY,rfl⟩ PySem.F.slot_tuple_gt PySem.F.entry_tuple_gt (PySem.F.args_tuple_gt_2 _ _) (qcI l b items bL n n2 dd dM sl dN)
  ⟨ho,eY,r,h,show Um r≠NT/\Q (.bool r) s from ⟨(λx=>nomatch x),q⟩⟩ hu
theorem qdm {A:KZ}{s:Kf}(hu:A.units+m+1<sL)(hit:∀(x y:Ka) (a b:Ke) (as bs:aw) (r:Bool),x.depth<=m->UM s.heap a x as->UM s.heap b y bs->x.canLay0=bD->y.canLay0=bD->gtX x y=bB r->GtAt A s a b r):
  ∀(xs ys:ae) (vs ws:ar) (as bs:aw) (r:Bool),KB xs<=m->V1 s.heap vs xs as->V1 s.heap ws ys bs->Kq xs=bD->Kq ys=bD->gtXs xs ys=bB r->qcM A s vs ws r:=by
 intro xs
 induction xs with
 |nil =>
  intro ys vs ws as bs r _ h1 h2 _ _ e
  cases h1
  cases ys with
  |nil=>cases h2;rw[gtXs]at e;cases e;rfl
  |cons y ys=>cases h2;rw[gtXs]at e;cases e;rfl
 |cons x xs ih =>
  intro ys vs ws as bs r hm h1 h2 c1 c2 e
  cases h1 with
  |cons rx lb =>
   cases ys with
   |nil=>cases h2;rw[gtXs]at e;cases e;rfl
   |cons y ys =>
    cases h2 with
    |cons ry lg =>
     have fH:x.canLay0=bD/\Kq xs=bD:=by simpa [Kq] using c1
     have fI:y.canLay0=bD/\Kq ys=bD:=by simpa [Kq] using c2
     have hd:max x.depth (KB xs)<=m:=by rw[KB]at hm;exact hm
     have m1:=Vx (NV x.depth (KB xs)) hd
     have m2:=Vx (Nx x.depth (KB xs)) hd
     rw[gtXs]at e
     refine⟨KC x y,Nw x y A s _ _ _ _ rx ry fH.1 fI.1 (by have:=NR x.depth y.depth;omega),λq=>?_,λq=>?_⟩
     .rw[si q]at e
      exact ih ys _ _ _ _ r m2 lb lg fH.2 fI.2 e
     .rw[sk (by rw[q];exact Vl)]at e
      exact hit x y _ _ _ _ r m1 rx ry fH.1 fI.1 e
theorem qaf:∀(n:Nat) (da db:Ka) (A:KZ) (s:Kf) (a b:Ke) (as bs:aw) (r:Bool),da.depth<=n->UM s.heap a da as->UM s.heap b db bs->da.canLay0=bD->db.canLay0=bD->A.units+n+1<sL->gtX da db=bB r->GtAt A s a b r:=by
 intro n
 induction n with
 |zero =>
  intro da db A s a b as bs r hd ra rb ca cb hu e
  cases da with
  |int i =>
   cases db with
   |int j =>
    cases ra;cases rb
    rw[gtX]at e
    cases e
    exact λprog w E Q q=>qdM A s i _ j _ prog w E Q q
   |_=>simp [gtX]at e
  |tuple xs =>
   rw[UN]at hd
   omega
  |_=>simp [gtX]at e
 |succ n ih =>
  intro da db A s a b as bs r hd ra rb ca cb hu e
  cases da with
  |int i =>
   cases db with
   |int j =>
    cases ra;cases rb
    rw[gtX]at e
    cases e
    exact λprog w E Q q=>qdM A s i _ j _ prog w E Q q
   |_=>simp [gtX]at e
  |tuple xs =>
   cases db with
   |tuple ys =>
    rw[UN]at hd
    rw[gtX]at e
    cases ra with
    |tuple e1 c1 d1 t1 =>
     cases rb with
     |tuple e2 c2 d2 t2 =>
      refine qgY ⟨_,e1,c1,_,d1⟩ ⟨_,e2,c2,_,d2⟩ '#' ?_
      exact qdm (m:=n) (by show A.units+1+n+1<sL;omega) (λx y a b as bs r hx r1 r2 k1 k2 e=>ih x y A.in1 s a b as bs r hx r1 r2 k1 k2 (by show A.units+1+n+1<sL;omega) e)
       xs ys _ _ _ _ r '#' t1 t2 (by simpa [KU] using ca) (by simpa [KU] using cb) e
   |_=>simp [gtX]at e
  |_=>simp [gtX]at e
def bestOf (bt:aK):Nat->Nat
 |0=>0
 |k+1=>if bt (k+1) (bestOf bt k) then k+1 else bestOf bt k
theorem wH (bt:aK):∀k,bestOf bt k<=k
 |0=>Kp _
 |k+1=>by
  have:=wH bt k
  rw[bestOf]
  split<;>omega
def qaX (prog:KO)(w:K0)(A:KZ)(h0:K4)(P:Nat->Ke->Prop)(bt:aK):Prop :=
 ∀(i j:Nat) (x y:Ke) (s:Kf) (Q E:ag),j<i->(∀b o,h0.get? b=bB o->s.heap.get? b=bB o)->P i x->P j y->Q (.bool (bt i j)) s->sm (model prog w) A (sR .Lt x y) Q E s
section
variable {prog:KO}{w:K0}{A:KZ}{R:br}{it:Kg}{fp wr:aw}{n:Nat}{P:Nat->Ke->Prop}{St:aY}{h0:K4}
theorem qhl (W:Walks prog w A.in1 it fp wr n P St)(bt:aK)(hc:qaX prog w A.in1 h0 P bt)(Z:Kg)(hZ:Z∉fp)(hw:∀b o,h0.get? b=bB o->b∉wr/\b≠Z)(kw:aZ):
  ∀(m j:Nat) (s:Kf) (x:Ke) (c:Nat),n-(j+1)=m->j+1<=n->St (j+1) s.heap->P (bestOf bt j) x->(∀b o,h0.get? b=bB o->s.heap.get? b=bB o)->
  s.heap.get? Z=bB { cls:=.type "list", dict:=bC,data:=.seq #[x,x] c,slots:=#[] }->
  (∀v g tk,P (bestOf bt (n-1)) v->(∀b o,b∉wr->b≠Z->s.heap.get? b=bB o->g.get? b=bB o)->R (.ok (.ret v)) { s with heap:=g,toks:=tk })->
  td (model prog w) A (.builtin "min.loop" ⟨[.ref it,.none,.ref Z],kw⟩) R s:=by
 have zw:Z∉wr:=λh=>hZ (W.sub _ h)
 have nm:(toString "min" ++ toString ".loop" : String) = "min.loop" := by decide
 intro m
 induction m with
 |zero =>
  intro j s x c hm hj st hP hb hz hR
  have last:j+1=n:=by omega
  refine Ua EI ?_;rw[VN UB _]
  show sm _ A.in1 (tG (.ref Z) >>= _) _ _ s
  refine Kb (Uq hz rfl ?_)
  show sm _ A.in1 (tryCatch (sY (.ref it)) _ >>= _) _ _ s
  refine Kb (UF (W.done s _ _ (last ▸ st) λg tk k=>?_))
  have dO:=k Z _ zw hz
  show sm _ A.in1 (updateSeq Z (λ_=>#[]) >>= _) _ _ _
  refine Kb (Xx dO rfl (Kb (Xg (Ki ?_))))
  exact hR x _ tk (by rw[←last];exact hP) λb o h1 h2 e=>(Vc _ _ (λz=>h2 z.symm)).trans (k b o h1 e)
 |succ m ih =>
  intro j s x c hm hj st hP hb hz hR
  have more:j+1<n:=by omega
  refine Ua EI ?_;rw[VN UB _]
  show sm _ A.in1 (tG (.ref Z) >>= _) _ _ s
  refine Kb (Uq hz rfl ?_)
  show sm _ A.in1 (tryCatch (sY (.ref it)) _ >>= _) _ _ s
  refine Kb (UF (W.item (j+1) s _ _ more st λy g tk hy cS k=>?_))
  have dO:=k Z _ zw hz
  have du:∀b o,h0.get? b=bB o->g.get? b=bB o:=λb o e=>k b o (hw b o e).1 (hb b o e)
  show sm _ A.in1 (tryCatch (holding [y,y] (sR .Lt y x >>= _)) _ >>= _) _ _ _
  refine Kb (UF (VJ (Kb (hc (j+1) (bestOf bt j) y x _ _ _ (Nat.lt_succ_of_le (wH bt j)) du hy hP ?_))))
  refine Kb (VJ (VU (Kb (Xg (Ki ?_)))))
  cases hh:bt (j+1) (bestOf bt j) with
  |true =>
   simp only[sW]
   refine Kb (Xx dO rfl (Kb (Xg ?_)))
   rw[nm]
   refine Ki ⟨VY UB _,ih (j+1) _ y _ '#' more (W.frame _ _ _ cS λb h1 o e=>(Vc _ _ (λh:Z=b=>hZ (by rw[h];exact h1))).trans e) (by simp only[bestOf,hh,sW];exact hy)
    (λb o e=>(Vc _ _ (λh:Z=b=>(hw b o e).2 h.symm)).trans (du b o e)) (UE _ dO rfl) λv g2 eU h1 h2=>?_⟩
   exact hR v g2 eU h1 λb o n1 n2 e=>h2 b o n1 n2 ((Vc _ _ (λz=>n2 z.symm)).trans (k b o n1 e))
  |false =>
   simp only[Vz,sQ];refine Kb (Xg ?_)
   rw[nm]
   refine Ki ⟨VY UB _,ih (j+1) _ x c '#' more cS (by simp only[bestOf,hh,Vz,sQ];exact hP) du dO λv g2 eU h1 h2=>?_⟩
   exact hR v g2 eU h1 λb o n1 n2 e=>h2 b o n1 n2 (k b o n1 e)
theorem qbm (W:Walks prog w A.in1 it fp wr n P St)(bt:aK)(hc:qaX prog w A.in1 h0 P bt)(Z:Kg)(hZ:Z∉fp)(hw:∀b o,h0.get? b=bB o->b∉wr/\b≠Z)(kw:aZ)(hn:0<n){s:Kf}{c:Nat}(st:St 0 s.heap)(hb:∀b o,h0.get? b=bB o->s.heap.get? b=bB o)
  (hz:s.heap.get? Z=bB { cls:=.type "list", dict:=bC,data:=.seq #[] c,slots:=#[] })
  (hR:∀v g tk,P (bestOf bt (n-1)) v->(∀b o,b∉wr->b≠Z->s.heap.get? b=bB o->g.get? b=bB o)->R (.ok (.ret v)) { s with heap:=g,toks:=tk }):
  td (model prog w) A (.builtin "min.loop" ⟨[.ref it,.none,.ref Z],kw⟩) R s:=by
 have zw:Z∉wr:=λh=>hZ (W.sub _ h)
 have nm:(toString "min" ++ toString ".loop" : String) = "min.loop" := by decide
 refine Ua EI ?_;rw[VN UB _]
 show sm _ A.in1 (tG (.ref Z) >>= _) _ _ s
 refine Kb (Uq hz rfl ?_)
 show sm _ A.in1 (tryCatch (sY (.ref it)) _ >>= _) _ _ s
 refine Kb (UF (W.item 0 s _ _ hn st λy g tk hy cS k=>?_))
 have dO:=k Z _ zw hz
 show sm _ A.in1 (updateSeq Z (λ_=>#[y,y]) >>= _) _ _ _
 refine Kb (Xx dO rfl ?_)
 rw[nm]
 refine Ki ⟨VY UB _,qhl W bt hc Z hZ hw kw _ 0 _ y _ rfl hn (W.frame _ _ _ cS λb h1 o e=>(Vc _ _ (λh:Z=b=>hZ (by rw[h];exact h1))).trans e) hy
  (λb o e=>(Vc _ _ (λh:Z=b=>(hw b o e).2 h.symm)).trans (k b o (hw b o e).1 (hb b o e))) (UE _ dO rfl) λv g2 eU h1 h2=>?_⟩
 exact hR v g2 eU h1 λb o n1 n2 e=>h2 b o n1 n2 ((Vc _ _ (λz=>n2 z.symm)).trans (k b o n1 e))
end
section
variable {s:Kf}{prog:KO}{w:K0}{A:KZ}{E:ag}
theorem qj8 {Q:ag}(hh:A.handled=bC)(hc:∀(s':Kf) (Q' E':ag),(∀b o,s.heap.get? b=bB o->s'.heap.get? b=bB o)->Q' (.bool b) s'->sm (model prog w) A.in1 (sR .Lt y x) Q' E' s')
  (h:∀g tk,(∀b o,s.heap.get? b=bB o->g.get? b=bB o)->Q (if b=bD then y else x) { s with heap:=g,toks:=tk }):sm (model prog w) A (call (.builtin "min") [x,y]) Q E s:=by
 have nm:(toString "min" ++ toString ".loop" : String) = "min.loop" := by decide
 have hT:(s.heap.push { cls:=.type "tuple", data:=.seq #[x,y] }).IsTuple s.heap.objs.size #[x,y]:=⟨_,Ks _ rfl,rfl,0,rfl⟩
 have z1:(s.heap.push { cls:=.type "tuple", data:=.seq #[x,y] }).objs.size=s.heap.objs.size+1:=Vk ..
 refine X8 (id := "min") F.kind_min F.plain_min F.entry_min (F.args_min2 x y) ?_
 have par:VH "min" ["key", "default"] 0 ⟨[],[]⟩=pure [bC,bC]:=rfl
 refine(Kb (X0 par ?_):sm _ A.in1 (VH "min" _ 0 _ >>= _) _ _ s)
 refine Kb (Vb ?_);refine Kb (Xt hT (Kb (Vb ?_)))
 rw[nm]
 have lt:∀{b:Kg} {o:Obj},s.heap.get? b=bB o->b<s.heap.objs.size:=λe=>Kz e
 refine Ki ⟨VY UB _,qbm (h0:=s.heap) (Walks.tuple (A:=A.in1) hh _ s.heap.objs.size (by rw[z1];exact KD (UT _)) #[x,y]) (λ_ _=>b) (λi j u v s' Q' E' bY k hu hv q=>?_) _ ?_ (λb o e=>?_) [] '+'
  ⟨⟨_,Kh _ (Ks _ rfl),rfl,rfl⟩,(hT.push _).push _⟩ (λb o e=>Kh _ (Kh _ (Kh _ e))) (Ks _ rfl) λv g tk hv k=>?_⟩
 .dsimp only at hu hv
  have hi:i<2:=by
   rcases Fh i 2 with z|z
   .exact z
   .rw[V2 (by simpa using z)]at hu;cases hu
  obtain rfl:i=1:=by omega
  obtain rfl:j=0:=by omega
  cases hu
  cases hv
  exact hc s' Q' E' k q
 .dsimp only
  simp only[Vk]
  intro hm;simp only[Ko,VR,sZ]at hm
  rcases hm with hm|hm
  .exact Ny _ hm
  .exact absurd hm (V8 (K3 (UT _)))
 .have:=lt e
  simp only[Vk]
  exact⟨λhm=>absurd (Ky.mp hm) (KD (K3 this)),KD (K3 (K3 this))⟩
 .have lA:v=if b=bD then y else x:=by
   cases b with
   |true=>cases hv;rfl
   |false=>cases hv;rfl
  rw[lA]
  refine h g tk λb o e=>k b o ?_ ?_ (Kh _ (Kh _ (Kh _ e)))
  .have:=lt e
   simp only[Vk]
   exact λhm=>absurd (Ky.mp hm) (KD (K3 this))
  .have:=lt e
   simp only[Vk]
   exact KD (K3 (K3 this))
end
def qaW (prog:KO)(w:K0)(A:KZ)(h0:K4)(P:Nat->Ke->Prop)(bt:aK):Prop :=
 ∀(i j:Nat) (x y:Ke) (s:Kf) (Q E:ag),j<i->(∀b o,h0.get? b=bB o->s.heap.get? b=bB o)->P i x->P j y->Q (.bool (bt i j)) s->sm (model prog w) A (sR .Gt x y) Q E s
section
variable {prog:KO}{w:K0}{A:KZ}{R:br}{it:Kg}{fp wr:aw}{n:Nat}{P:Nat->Ke->Prop}{St:aY}{h0:K4}
theorem qhk (W:Walks prog w A.in1 it fp wr n P St)(bt:aK)(hc:qaW prog w A.in1 h0 P bt)(Z:Kg)(hZ:Z∉fp)(hw:∀b o,h0.get? b=bB o->b∉wr/\b≠Z)(kw:aZ):
  ∀(m j:Nat) (s:Kf) (x:Ke) (c:Nat),n-(j+1)=m->j+1<=n->St (j+1) s.heap->P (bestOf bt j) x->(∀b o,h0.get? b=bB o->s.heap.get? b=bB o)->
  s.heap.get? Z=bB { cls:=.type "list", dict:=bC,data:=.seq #[x,x] c,slots:=#[] }->
  (∀v g tk,P (bestOf bt (n-1)) v->(∀b o,b∉wr->b≠Z->s.heap.get? b=bB o->g.get? b=bB o)->R (.ok (.ret v)) { s with heap:=g,toks:=tk })->
  td (model prog w) A (.builtin "max.loop" ⟨[.ref it,.none,.ref Z],kw⟩) R s:=by
 have zw:Z∉wr:=λh=>hZ (W.sub _ h)
 have nm:(toString "max" ++ toString ".loop" : String) = "max.loop" := by decide
 intro m
 induction m with
 |zero =>
  intro j s x c hm hj st hP hb hz hR
  have last:j+1=n:=by omega
  refine Ua EJ ?_;rw[VN UC _]
  show sm _ A.in1 (tG (.ref Z) >>= _) _ _ s
  refine Kb (Uq hz rfl ?_)
  show sm _ A.in1 (tryCatch (sY (.ref it)) _ >>= _) _ _ s
  refine Kb (UF (W.done s _ _ (last ▸ st) λg tk k=>?_))
  have dO:=k Z _ zw hz
  show sm _ A.in1 (updateSeq Z (λ_=>#[]) >>= _) _ _ _
  refine Kb (Xx dO rfl (Kb (Xg (Ki ?_))))
  exact hR x _ tk (by rw[←last];exact hP) λb o h1 h2 e=>(Vc _ _ (λz=>h2 z.symm)).trans (k b o h1 e)
 |succ m ih =>
  intro j s x c hm hj st hP hb hz hR
  have more:j+1<n:=by omega
  refine Ua EJ ?_;rw[VN UC _]
  show sm _ A.in1 (tG (.ref Z) >>= _) _ _ s
  refine Kb (Uq hz rfl ?_)
  show sm _ A.in1 (tryCatch (sY (.ref it)) _ >>= _) _ _ s
  refine Kb (UF (W.item (j+1) s _ _ more st λy g tk hy cS k=>?_))
  have dO:=k Z _ zw hz
  have du:∀b o,h0.get? b=bB o->g.get? b=bB o:=λb o e=>k b o (hw b o e).1 (hb b o e)
  show sm _ A.in1 (tryCatch (holding [y,y] (sR .Gt y x >>= _)) _ >>= _) _ _ _
  refine Kb (UF (VJ (Kb (hc (j+1) (bestOf bt j) y x _ _ _ (Nat.lt_succ_of_le (wH bt j)) du hy hP ?_))))
  refine Kb (VJ (VU (Kb (Xg (Ki ?_)))))
  cases hh:bt (j+1) (bestOf bt j) with
  |true =>
   simp only[sW]
   refine Kb (Xx dO rfl (Kb (Xg ?_)))
   rw[nm]
   refine Ki ⟨VY UC _,ih (j+1) _ y _ '#' more (W.frame _ _ _ cS λb h1 o e=>(Vc _ _ (λh:Z=b=>hZ (by rw[h];exact h1))).trans e) (by simp only[bestOf,hh,sW];exact hy)
    (λb o e=>(Vc _ _ (λh:Z=b=>(hw b o e).2 h.symm)).trans (du b o e)) (UE _ dO rfl) λv g2 eU h1 h2=>?_⟩
   exact hR v g2 eU h1 λb o n1 n2 e=>h2 b o n1 n2 ((Vc _ _ (λz=>n2 z.symm)).trans (k b o n1 e))
  |false =>
   simp only[Vz,sQ];refine Kb (Xg ?_)
   rw[nm]
   refine Ki ⟨VY UC _,ih (j+1) _ x c '#' more cS (by simp only[bestOf,hh,Vz,sQ];exact hP) du dO λv g2 eU h1 h2=>?_⟩
   exact hR v g2 eU h1 λb o n1 n2 e=>h2 b o n1 n2 (k b o n1 e)
theorem qbl (W:Walks prog w A.in1 it fp wr n P St)(bt:aK)(hc:qaW prog w A.in1 h0 P bt)(Z:Kg)(hZ:Z∉fp)(hw:∀b o,h0.get? b=bB o->b∉wr/\b≠Z)(kw:aZ)(hn:0<n){s:Kf}{c:Nat}(st:St 0 s.heap)(hb:∀b o,h0.get? b=bB o->s.heap.get? b=bB o)
  (hz:s.heap.get? Z=bB { cls:=.type "list", dict:=bC,data:=.seq #[] c,slots:=#[] })
  (hR:∀v g tk,P (bestOf bt (n-1)) v->(∀b o,b∉wr->b≠Z->s.heap.get? b=bB o->g.get? b=bB o)->R (.ok (.ret v)) { s with heap:=g,toks:=tk }):
  td (model prog w) A (.builtin "max.loop" ⟨[.ref it,.none,.ref Z],kw⟩) R s:=by
 have zw:Z∉wr:=λh=>hZ (W.sub _ h)
 have nm:(toString "max" ++ toString ".loop" : String) = "max.loop" := by decide
 refine Ua EJ ?_;rw[VN UC _]
 show sm _ A.in1 (tG (.ref Z) >>= _) _ _ s
 refine Kb (Uq hz rfl ?_)
 show sm _ A.in1 (tryCatch (sY (.ref it)) _ >>= _) _ _ s
 refine Kb (UF (W.item 0 s _ _ hn st λy g tk hy cS k=>?_))
 have dO:=k Z _ zw hz
 show sm _ A.in1 (updateSeq Z (λ_=>#[y,y]) >>= _) _ _ _
 refine Kb (Xx dO rfl ?_)
 rw[nm]
 refine Ki ⟨VY UC _,qhk W bt hc Z hZ hw kw _ 0 _ y _ rfl hn (W.frame _ _ _ cS λb h1 o e=>(Vc _ _ (λh:Z=b=>hZ (by rw[h];exact h1))).trans e) hy
  (λb o e=>(Vc _ _ (λh:Z=b=>(hw b o e).2 h.symm)).trans (k b o (hw b o e).1 (hb b o e))) (UE _ dO rfl) λv g2 eU h1 h2=>?_⟩
 exact hR v g2 eU h1 λb o n1 n2 e=>h2 b o n1 n2 ((Vc _ _ (λz=>n2 z.symm)).trans (k b o n1 e))
end
section
variable {s:Kf}{prog:KO}{w:K0}{A:KZ}{E:ag}
theorem qj7 {Q:ag}(hh:A.handled=bC)(hc:∀(s':Kf) (Q' E':ag),(∀b o,s.heap.get? b=bB o->s'.heap.get? b=bB o)->Q' (.bool b) s'->sm (model prog w) A.in1 (sR .Gt y x) Q' E' s')
  (h:∀g tk,(∀b o,s.heap.get? b=bB o->g.get? b=bB o)->Q (if b=bD then y else x) { s with heap:=g,toks:=tk }):sm (model prog w) A (call (.builtin "max") [x,y]) Q E s:=by
 have nm:(toString "max" ++ toString ".loop" : String) = "max.loop" := by decide
 have hT:(s.heap.push { cls:=.type "tuple", data:=.seq #[x,y] }).IsTuple s.heap.objs.size #[x,y]:=⟨_,Ks _ rfl,rfl,0,rfl⟩
 have z1:(s.heap.push { cls:=.type "tuple", data:=.seq #[x,y] }).objs.size=s.heap.objs.size+1:=Vk ..
 refine X8 (id := "max") F.kind_max F.plain_max F.entry_max (F.args_max2 x y) ?_
 have par:VH "max" ["key", "default"] 0 ⟨[],[]⟩=pure [bC,bC]:=rfl
 refine(Kb (X0 par ?_):sm _ A.in1 (VH "max" _ 0 _ >>= _) _ _ s)
 refine Kb (Vb ?_);refine Kb (Xt hT (Kb (Vb ?_)))
 rw[nm]
 have lt:∀{b:Kg} {o:Obj},s.heap.get? b=bB o->b<s.heap.objs.size:=λe=>Kz e
 refine Ki ⟨VY UC _,qbl (h0:=s.heap) (Walks.tuple (A:=A.in1) hh _ s.heap.objs.size (by rw[z1];exact KD (UT _)) #[x,y]) (λ_ _=>b) (λi j u v s' Q' E' bY k hu hv q=>?_) _ ?_ (λb o e=>?_) [] '+'
  ⟨⟨_,Kh _ (Ks _ rfl),rfl,rfl⟩,(hT.push _).push _⟩ (λb o e=>Kh _ (Kh _ (Kh _ e))) (Ks _ rfl) λv g tk hv k=>?_⟩
 .dsimp only at hu hv
  have hi:i<2:=by
   rcases Fh i 2 with z|z
   .exact z
   .rw[V2 (by simpa using z)]at hu;cases hu
  obtain rfl:i=1:=by omega
  obtain rfl:j=0:=by omega
  cases hu
  cases hv
  exact hc s' Q' E' k q
 .dsimp only
  simp only[Vk]
  intro hm;simp only[Ko,VR,sZ]at hm
  rcases hm with hm|hm
  .exact Ny _ hm
  .exact absurd hm (V8 (K3 (UT _)))
 .have:=lt e
  simp only[Vk]
  exact⟨λhm=>absurd (Ky.mp hm) (KD (K3 this)),KD (K3 (K3 this))⟩
 .have lA:v=if b=bD then y else x:=by
   cases b with
   |true=>cases hv;rfl
   |false=>cases hv;rfl
  rw[lA]
  refine h g tk λb o e=>k b o ?_ ?_ (Kh _ (Kh _ (Kh _ e)))
  .have:=lt e
   simp only[Vk]
   exact λhm=>absurd (Ky.mp hm) (KD (K3 this))
  .have:=lt e
   simp only[Vk]
   exact KD (K3 (K3 this))
end
section
variable {X:Cx}
def j8:List Ka->Option Ka
 |[x,y]=>if K8 x=bD/\K8 y=bD/\y.depth<=50 then ob (ltX y x) λr=>bB (if r=bD then y else x) else bC
 |_=>bC
def j7:List Ka->Option Ka
 |[x,y]=>if K8 x=bD/\K8 y=bD/\y.depth<=50 then ob (gtX y x) λr=>bB (if r=bD then y else x) else bC
 |_=>bC
theorem qeM (hr:Room k X.A):CallD X (.builtin "min") j8:=λsd s σ H xs us Q I r ⟨S,ds,d,m,h1,e,q⟩=>by
 unfold j8 at e
 split at e
 .split at e
  .rename_i hc
   obtain⟨b,e1,e⟩:=qe e
   cases e
   obtain⟨v1,v2,rfl,d1,d2⟩:=h1.inv2
   obtain⟨u1,u2,rfl,r1,r2⟩:=vals2 r
   obtain⟨as,q1⟩:=d1.reads I (KG hc.1) r1
   obtain⟨bs,q2⟩:=d2.reads I (KG hc.2.1) r2
   have hu:=hr.units
   refine qj8 (b:=b) hr.hd (λs' Q' E' k q'=>JM 50 _ _ X.A.in1 s' u2 u1 bs as b hc.2.2 (Xh k q2) (Xh k q1) (KG hc.2.1) (KG hc.1) (by show X.A.units+1+50+1<sL;omega) e1 X.prog X.w E' Q' q') λg tk k=>?_
   cases b with
   |true=>exact⟨v2,H,I.kept k,r2,q _ H (Same.refl H) d2⟩
   |false=>exact⟨v1,H,I.kept k,r1,q _ H (Same.refl H) d1⟩
  .cases e
 .cases e
theorem qeL (hr:Room k X.A):CallD X (.builtin "max") j7:=λsd s σ H xs us Q I r ⟨S,ds,d,m,h1,e,q⟩=>by
 unfold j7 at e
 split at e
 .split at e
  .rename_i hc
   obtain⟨b,e1,e⟩:=qe e
   cases e
   obtain⟨v1,v2,rfl,d1,d2⟩:=h1.inv2
   obtain⟨u1,u2,rfl,r1,r2⟩:=vals2 r
   obtain⟨as,q1⟩:=d1.reads I (KG hc.1) r1
   obtain⟨bs,q2⟩:=d2.reads I (KG hc.2.1) r2
   have hu:=hr.units
   refine qj7 (b:=b) hr.hd (λs' Q' E' k q'=>qaf 50 _ _ X.A.in1 s' u2 u1 bs as b hc.2.2 (Xh k q2) (Xh k q1) (KG hc.2.1) (KG hc.1) (by show X.A.units+1+50+1<sL;omega) e1 X.prog X.w E' Q' q') λg tk k=>?_
   cases b with
   |true=>exact⟨v2,H,I.kept k,r2,q _ H (Same.refl H) d2⟩
   |false=>exact⟨v1,H,I.kept k,r1,q _ H (Same.refl H) d1⟩
  .cases e
 .cases e
theorem qar (x y:Ka):j8 [x,y]=if K8 x=bD/\K8 y=bD/\y.depth<=50 then ob (ltX y x) λr=>bB (if r=bD then y else x) else bC:=rfl
theorem qaq (x y:Ka):j7 [x,y]=if K8 x=bD/\K8 y=bD/\y.depth<=50 then ob (gtX y x) λr=>bB (if r=bD then y else x) else bC:=rfl
theorem qht (i j:Int):j8 [.int i,.int j]=bB (.int (if j<i then j else i)):=by
 have c:K8 (.int i)=bD/\K8 (.int j)=bD/\(Kt j).depth<=50:=⟨rfl,rfl,Vr _⟩
 rw[qar,si c,ltX]
 by_cases h:j<i
 .rw[si h,sh h];rfl
 .rw[sk h,se h];rfl
theorem qhs (i j:Int):j7 [.int i,.int j]=bB (.int (if j > i then j else i)):=by
 have c:K8 (.int i)=bD/\K8 (.int j)=bD/\(Kt j).depth<=50:=⟨rfl,rfl,Vr _⟩
 rw[qaq,si c,gtX]
 by_cases h:j > i
 .rw[si h,sh h];rfl
 .rw[sk h,se h];rfl
end
theorem Vals.back:∀{vs:List V} {us:ar} {i:Nat} {u:Ke},Vals vs us->us[i]?=bB u->∃v,vs[i]?=bB v/\RelV v u
 |_,_,_,_,.nil,h=>by simp at h
 |_,_,0,_,.cons r _,h=>by cases h;exact⟨_,rfl,r⟩
 |_,_,i+1,_,.cons _ t,h=>by
  obtain⟨v,hv,r⟩:=Vals.back t (i:=i) (by simpa using h)
  exact⟨v,by simpa using hv,r⟩
theorem DenL.back {K:Kd}{H:Hp}{S:Av}:∀{vs:List V} {ds:ae} {i:Nat} {v:V},DenL K H S vs ds->vs[i]?=bB v->∃d,ds[i]?=bB d/\Den K H S v d
 |_,_,_,_,.nil,h=>by simp at h
 |_,_,0,_,.cons r _,h=>by cases h;exact⟨_,rfl,r⟩
 |_,_,i+1,_,.cons _ t,h=>by
  obtain⟨v,hv,r⟩:=DenL.back t (i:=i) (by simpa using h)
  exact⟨v,by simpa using hv,r⟩
section
variable {s:Kf}{prog:KO}{w:K0}{A:KZ}{E:ag}
theorem qhi {items:aS}{bt:aK}{Q:ag}(hh:A.handled=bC)(hl:s.heap.IsList l items)(hn:0<items.size)
  (hc:∀(i j:Nat) (x y:Ke) (s':Kf) (Q' E':ag),j<i->(∀b o,s.heap.get? b=bB o->s'.heap.get? b=bB o)->items[i]?=bB x->items[j]?=bB y->Q' (.bool (bt i j)) s'->sm (model prog w) A.in1 (sR .Lt x y) Q' E' s')
  (h:∀v g tk,items[bestOf bt (items.size-1)]?=bB v->(∀b o,s.heap.get? b=bB o->g.get? b=bB o)->Q v { s with heap:=g,toks:=tk }):sm (model prog w) A (call (.builtin "min") [.ref l]) Q E s:=by
 have nm:(toString "min" ++ toString ".loop" : String) = "min.loop" := by decide
 have lt:∀{b:Kg} {o:Obj},s.heap.get? b=bB o->b<s.heap.objs.size:=λe=>Kz e
 have gj:l<s.heap.objs.size:=by obtain⟨o,e,_⟩:=id hl;exact lt e
 refine X8 (id := "min") F.kind_min F.plain_min F.entry_min (F.args_min1 (.ref l)) ?_
 have par:VH "min" ["key", "default"] 0 ⟨[],[]⟩=pure [bC,bC]:=rfl
 refine(Kb (X0 par ?_):sm _ A.in1 (VH "min" _ 0 _ >>= _) _ _ s)
 refine Kb (Ki (Kb (U6 hl (Kb (Vb ?_)))))
 rw[nm]
 refine Ki ⟨VY UB _,qbm (h0:=s.heap) (Walks.list (A:=A.in1) hh _ l (KD gj) items) bt (λi j u v s' Q' E' bY k hu hv q=>hc i j u v s' Q' E' bY k hu hv q) _ ?_ (λb o e=>?_) [] hn
  ⟨⟨_,Kh _ (Ks _ rfl),rfl,rfl⟩,(hl.push _).push _⟩ (λb o e=>Kh _ (Kh _ e)) (Ks _ rfl) λv g tk hv k=>?_⟩
 .simp only[Vk]
  intro hm;simp only[Ko,VR,sZ]at hm
  rcases hm with hm|hm
  .exact Ny _ hm
  .exact absurd hm (V8 (K3 gj))
 .have:=lt e
  simp only[Vk]
  exact⟨λhm=>absurd (Ky.mp hm) (KD this),KD (K3 this)⟩
 .refine h v g tk hv λb o e=>k b o ?_ ?_ (Kh _ (Kh _ e))
  .exact λhm=>absurd (Ky.mp hm) (KD (lt e))
  .have:=lt e
   simp only[Vk]
   exact KD (K3 this)
end
section
variable {X:Cx}
def yN (ds:ae):Bool:=ds.all λd=>K8 d&&decide (d.depth<=50)&&ds.all λe=>(ltX d e).isSome
def Z6 (ds:ae)(i j:Nat):Bool:=match ds[i]?,ds[j]? with
 |some d,bB e=>(ltX d e).getD bE
 |_,_=>bE
def Yc:List Ka->Option Ka
 |[.list ds]=>if yN ds=bD/\ds.length<=1000 then ds[bestOf (Z6 ds) (ds.length-1)]? else bC
 |_=>bC
theorem W3 {k:Nat}(hr:Room k X.A):CallD X (.builtin "min") Yc:=λsd s σ H xs us Q I r ⟨S,ds,d,m,h1,e,q⟩=>by
 unfold Yc at e
 split at e
 .rename_i ls
  split at e
  .rename_i hc
   obtain⟨v1,rfl,d1⟩:=h1.inv1
   obtain⟨u1,rfl,r1⟩:=r.one
   obtain⟨a,ys,rfl,hs,t⟩:=d1.list_inv
   cases(show u1=KP a from r1)
   obtain⟨its,rv,p,hz⟩:=I.list hs.sq
   have hl:=rv.length
   have ht:=t.length
   have hu:=hr.units
   have nL:0<ls.length:=by
    cases ls with
    |nil=>cases e
    |cons=>exact Nat.zero_lt_succ _
   have get:∀{i:Nat} {x:Ke},its.toArray[i]?=bB x->∃y d,ys[i]?=bB y/\RelV y x/\ls[i]?=bB d/\Den X.K H S y d:=λ{i x} hx=>by
    rw[NJ]at hx
    obtain⟨hi,-⟩:=KW.mp hx
    have dm:i<ys.length:=by omega
    obtain⟨y,hy,ry⟩:=Vals.back rv hx
    obtain⟨d,hd,dd⟩:=t.back hy
    exact⟨y,d,hy,ry,hd,dd⟩
   have ok:=KN.mp hc.1
   refine qhi (bt:=Z6 ls) hr.hd p.isList (by simp;omega) (λi j x y s' Q' E' bY kp hx hy q'=>?_) λv g tk hv kp=>?_
   .obtain⟨vx,dx,_,rx,ex,gx⟩:=get hx
    obtain⟨vy,dy,_,ry,ey,gy⟩:=get hy
    have ox:=ok dx (KY ex)
    have oy:=ok dy (KY ey)
    rw[KF,KF]at ox oy
    obtain⟨as,nM⟩:=gx.reads I (KG ox.1.1) rx
    obtain⟨bs,nN⟩:=gy.reads I (KG oy.1.1) ry
    have lt:=KN.mp ox.2 dy (KY ey)
    obtain⟨b,eb⟩:=X5.mp lt
    have nO:Z6 ls i j=b:=by unfold Z6;rw[ex,ey];show(ltX dx dy).getD bE=b;rw[eb];rfl
    rw[nO]at q'
    exact JM 50 _ _ X.A.in1 s' x y as bs b (sx ox.1.2) (Xh kp nM) (Xh kp nN) (KG ox.1.1) (KG oy.1.1) (by show X.A.units+1+50+1<sL;omega) eb X.prog X.w E' Q' q'
   .obtain⟨vx,dx,_,rx,ex,gx⟩:=get hv
    have hsz:its.toArray.size=ls.length:=by simp;omega
    rw[hsz]at ex
    rw[e]at ex
    cases ex
    exact⟨vx,H,I.kept kp,rx,q _ H (Same.refl H) gx⟩
  .cases e
 .cases e
end
section
variable {s:Kf}{prog:KO}{w:K0}{A:KZ}{E:ag}
theorem qhh {items:aS}{bt:aK}{Q:ag}(hh:A.handled=bC)(hl:s.heap.IsList l items)(hn:0<items.size)
  (hc:∀(i j:Nat) (x y:Ke) (s':Kf) (Q' E':ag),j<i->(∀b o,s.heap.get? b=bB o->s'.heap.get? b=bB o)->items[i]?=bB x->items[j]?=bB y->Q' (.bool (bt i j)) s'->sm (model prog w) A.in1 (sR .Gt x y) Q' E' s')
  (h:∀v g tk,items[bestOf bt (items.size-1)]?=bB v->(∀b o,s.heap.get? b=bB o->g.get? b=bB o)->Q v { s with heap:=g,toks:=tk }):sm (model prog w) A (call (.builtin "max") [.ref l]) Q E s:=by
 have nm:(toString "max" ++ toString ".loop" : String) = "max.loop" := by decide
 have lt:∀{b:Kg} {o:Obj},s.heap.get? b=bB o->b<s.heap.objs.size:=λe=>Kz e
 have gj:l<s.heap.objs.size:=by obtain⟨o,e,_⟩:=id hl;exact lt e
 refine X8 (id := "max") F.kind_max F.plain_max F.entry_max (F.args_max1 (.ref l)) ?_
 have par:VH "max" ["key", "default"] 0 ⟨[],[]⟩=pure [bC,bC]:=rfl
 refine(Kb (X0 par ?_):sm _ A.in1 (VH "max" _ 0 _ >>= _) _ _ s)
 refine Kb (Ki (Kb (U6 hl (Kb (Vb ?_)))))
 rw[nm]
 refine Ki ⟨VY UC _,qbl (h0:=s.heap) (Walks.list (A:=A.in1) hh _ l (KD gj) items) bt (λi j u v s' Q' E' bY k hu hv q=>hc i j u v s' Q' E' bY k hu hv q) _ ?_ (λb o e=>?_) [] hn
  ⟨⟨_,Kh _ (Ks _ rfl),rfl,rfl⟩,(hl.push _).push _⟩ (λb o e=>Kh _ (Kh _ e)) (Ks _ rfl) λv g tk hv k=>?_⟩
 .simp only[Vk]
  intro hm;simp only[Ko,VR,sZ]at hm
  rcases hm with hm|hm
  .exact Ny _ hm
  .exact absurd hm (V8 (K3 gj))
 .have:=lt e
  simp only[Vk]
  exact⟨λhm=>absurd (Ky.mp hm) (KD this),KD (K3 this)⟩
 .refine h v g tk hv λb o e=>k b o ?_ ?_ (Kh _ (Kh _ e))
  .exact λhm=>absurd (Ky.mp hm) (KD (lt e))
  .have:=lt e
   simp only[Vk]
   exact KD (K3 this)
end
section
variable {X:Cx}
def yM (ds:ae):Bool:=ds.all λd=>K8 d&&decide (d.depth<=50)&&ds.all λe=>(gtX d e).isSome
def Z5 (ds:ae)(i j:Nat):Bool:=match ds[i]?,ds[j]? with
 |some d,bB e=>(gtX d e).getD bE
 |_,_=>bE
def yc:List Ka->Option Ka
 |[.list ds]=>if yM ds=bD/\ds.length<=1000 then ds[bestOf (Z5 ds) (ds.length-1)]? else bC
 |_=>bC
theorem W0 {k:Nat}(hr:Room k X.A):CallD X (.builtin "max") yc:=λsd s σ H xs us Q I r ⟨S,ds,d,m,h1,e,q⟩=>by
 unfold yc at e
 split at e
 .rename_i ls
  split at e
  .rename_i hc
   obtain⟨v1,rfl,d1⟩:=h1.inv1
   obtain⟨u1,rfl,r1⟩:=r.one
   obtain⟨a,ys,rfl,hs,t⟩:=d1.list_inv
   cases(show u1=KP a from r1)
   obtain⟨its,rv,p,hz⟩:=I.list hs.sq
   have hl:=rv.length
   have ht:=t.length
   have hu:=hr.units
   have nL:0<ls.length:=by
    cases ls with
    |nil=>cases e
    |cons=>exact Nat.zero_lt_succ _
   have get:∀{i:Nat} {x:Ke},its.toArray[i]?=bB x->∃y d,ys[i]?=bB y/\RelV y x/\ls[i]?=bB d/\Den X.K H S y d:=λ{i x} hx=>by
    rw[NJ]at hx
    obtain⟨hi,-⟩:=KW.mp hx
    have dm:i<ys.length:=by omega
    obtain⟨y,hy,ry⟩:=Vals.back rv hx
    obtain⟨d,hd,dd⟩:=t.back hy
    exact⟨y,d,hy,ry,hd,dd⟩
   have ok:=KN.mp hc.1
   refine qhh (bt:=Z5 ls) hr.hd p.isList (by simp;omega) (λi j x y s' Q' E' bY kp hx hy q'=>?_) λv g tk hv kp=>?_
   .obtain⟨vx,dx,_,rx,ex,gx⟩:=get hx
    obtain⟨vy,dy,_,ry,ey,gy⟩:=get hy
    have ox:=ok dx (KY ex)
    have oy:=ok dy (KY ey)
    rw[KF,KF]at ox oy
    obtain⟨as,nM⟩:=gx.reads I (KG ox.1.1) rx
    obtain⟨bs,nN⟩:=gy.reads I (KG oy.1.1) ry
    have lt:=KN.mp ox.2 dy (KY ey)
    obtain⟨b,eb⟩:=X5.mp lt
    have nO:Z5 ls i j=b:=by unfold Z5;rw[ex,ey];show(gtX dx dy).getD bE=b;rw[eb];rfl
    rw[nO]at q'
    exact qaf 50 _ _ X.A.in1 s' x y as bs b (sx ox.1.2) (Xh kp nM) (Xh kp nN) (KG ox.1.1) (KG oy.1.1) (by show X.A.units+1+50+1<sL;omega) eb X.prog X.w E' Q' q'
   .obtain⟨vx,dx,_,rx,ex,gx⟩:=get hv
    have hsz:its.toArray.size=ls.length:=by simp;omega
    rw[hsz]at ex
    rw[e]at ex
    cases ex
    exact⟨vx,H,I.kept kp,rx,q _ H (Same.refl H) gx⟩
  .cases e
 .cases e
end
section
variable {prog:KO}{w:K0}{A:KZ}{E:ag}{s:Kf}
theorem qd5 {od:Obj}  {Q:ag} (hd:(d==sU)=bE) (ho:s.heap.get? d=bB od) (hx:od.ExactDict) (e9:od.data=.dict es ep)
  (h:Q (.ref s.heap.objs.size) { s with heap:=s.heap.push { cls:=.type "dict_items", data:=.fields #[.ref d] } }):sm (model prog w) A (call (.builtin "dict.items") [.ref d]) Q E s:=by
 have hT:s.TypeIs (.ref d) "dict" := ⟨od,ho,hx.1⟩
 refine VE Fc hT F.entry_dict_items (id ?_) (F.args_dict_items_1 _)
 unfold UQ.«dict.items»
 refine Kb (id ?_)
 unfold Builtin.Dict.noArgs
 refine Kb (NH hT (id ?_:sm _ _ (pure d) _ _ s))
 refine Ki (id ?_:sm _ _ (XQ d >>= _) _ _ s)
 unfold XQ
 rw[sk (λz=>by rw[hd]at z;cases z)]
 refine Kb (Ki (id ?_))
 exact Kb (Vb (Ki ⟨_,rfl,h⟩))
theorem qg4 {od:Obj}  {Q:ag} (hv:s.heap.IsItemsView v d) (ho:s.heap.get? d=bB od) (e9:od.data=.dict es ep)
  (hQ:Q (.ref s.heap.objs.size) { s with heap:=s.heap.push { cls:=.type "dict_itemiterator", data:=.fields #[.none,.bool bE,.ref d,.int 0 0,.int es.size 0,.int ep 0,.none,.none] } }):sm (model prog w) A (pyIter (.ref v)) Q E s:=by
 obtain⟨ov,hov,hcv,hdv⟩:=id hv
 refine Eo hv.typeIs F.slot_dict_items_iter (VE F.slot_dict_items_iter hv.typeIs F.entry_dict_items_iter (id ?_) (F.args_dict_items_iter_1 _))
 unfold UQ.«dict_items.__iter__»
 refine Kb (Ki (Kb (id ?_)))
 unfold Builtin.Dict_items.dictOf
 refine Kb (UH hov hdv (x:=.ref d) rfl (Ki (Kb (id ?_))))
 unfold Builtin.Dict_items.newIterator
 refine Kb (U7 ho e9 (Kb (Xw ho e9 (id ?_))))
 have dU:Us "dict_itemiterator" = bD:=by decide
 simp only[dU,sW];refine Vb (Ki ⟨_,rfl, "dict_itemiterator", _,⟨_,Ks _ rfl,rfl⟩,V4.lookup,?_⟩) (by simp only[sizeOk,Nf,KA,Kr,Kv,Uu,Xe];omega)
 simpa [tm,Nf] using hQ
theorem qaU {od:Obj}{es:Array UZ}  {Q:be} (hit:UY s.heap it d i es.size ep ok ov) (fK:s.heap.get? d=bB od) (fL:od.data=.dict es ep) (hx:es[i]?=bB en)
  (hQ:∀h',IsItemIterOut h' it d (i+1) es.size ep en.key en.val s.heap.objs.size->h'.get? s.heap.objs.size=bB { cls:=.type "tuple", data:=.seq #[en.key,en.val] }->
   (∀b o,b≠it->s.heap.get? b=bB o->h'.get? b=bB o)->Q (bB (.ref s.heap.objs.size)) { s with heap:=h' }):sm (model prog w) A (sY (.ref it)) Q E s:=by
 obtain⟨hp,g,dr,tk,os⟩:=s
 have hT:Shared.TypeIs ⟨hp,g,dr,tk,os⟩ (.ref it) "dict_itemiterator" := ⟨_,hit,rfl⟩
 unfold sY
 refine Kb (Nu (Uc (name:=Kn "__next__") hT V4 (VE V4 hT NX (Kb (Ki (Kb (Kb ?_)))) (NM _))))
 first|refine Kb (UO hT (Ki (Kb (UV hit rfl ?_))))|refine Kb (Xd hT (Ki (Kb (UV hit rfl ?_))))
 have dU:Us "dict_itemiterator" = bD:=by decide
 simp only[dU,sW];refine(id ?_:sm _ _ (if (KP d==Vo)=bD then _ else _) _ _ _)
 rw[sk (λz=>Vl z:¬((KP d==Vo)=bD))]
 refine Kb (Ki (Kb (U7 fK fL ?_)))
 rw[sk '+'];refine Kb (Ki (Kb (Xw fK fL ?_)))
 rw[sk '+'];refine Ki (id ?_)
 have iN:i<es.size:=(U4.mp hx).1
 have nG:es[i]=en:=(U4.mp hx).2
 simp only[show ¬((i:Int)<0) from by omega,sQ,Va,V3 iN,nG];refine Kb (id ?_)
 first|refine Kb (UO hT (Ki (Kb (XF hT ?_))))|refine Kb (Xd hT (Ki (Kb (XF hT ?_))))
 refine(Kb (Xy hit '+' λh₁ eV eW=>?_):sm _ _ (setField (.ref it) 3 (tm ((i:Int)+1)) >>= _) _ _ ⟨hp,g,dr,tk,os⟩)
 have eW:V7 it hp h₁:=eW
 have eV:UY h₁ it d (i+1) es.size ep ok ov:=by
  have e:((i+1:Nat):Int)=(i:Int)+1:=by omega
  unfold UY;rw[e];simpa [tm] using eV
 have ip:Shared.TypeIs ⟨h₁,g,dr,tk,os⟩ (.ref it) "dict_itemiterator" := ⟨_,eV,rfl⟩
 refine Kb (VJ (Kb (XF ip (Kb (XF ip ?_)))))
 refine(id ?_:sm _ _ (Nz (.ref it) 6 en.key en.val) _ _ ⟨h₁,g,dr,tk,os⟩)
 unfold Nz
 refine Kb (E7 (id ?_))
 have eE:UY (h₁.push { cls:=.type "tuple", data:=.seq #[en.key,en.val] }) it d (i+1) es.size ep ok ov:=Kh _ eV
 generalize iq:h₁.push { cls:=.type "tuple", data:=.seq #[en.key,en.val] }=h₂ at eE
 have ir:h₁.objs.size=hp.objs.size:=eW.1
 have hil:it<hp.objs.size:=Kz hit
 have lB:h₂.get? hp.objs.size=bB { cls:=.type "tuple", data:=.seq #[en.key,en.val] }:=by rw[←iq,←ir];exact Ks _ rfl
 have lD:∀b o,b≠it->hp.get? b=bB o->h₂.get? b=bB o:=λb o hb e=>by rw[←iq];exact Kh _ (eW.extBut b o hb e)
 refine(id ?_:sm _ _ (Ng (.ref it) >>= _) _ _ ⟨h₂,g,dr,tk,os⟩)
 rw[ir]
 refine Kb (id ?_);unfold Ng
 refine Kb (UH eE rfl (x:=.none) rfl (Ki (id ?_)));simp only[sW]
 refine Kb (UH eE rfl (x:=ok) rfl (Kb (UH eE rfl (x:=ov) rfl (Kb (Xy eE '+' λh₃ fM fN=>?_)))))
 have fN:V7 it h₂ h₃:=fN
 have fM:UY h₃ it d (i+1) es.size ep en.key ov:=fM
 refine Kb (Xy fM '+' λh₄ fO fP=>(id ?_))
 have fP:V7 it h₃ h₄:=fP
 have fO:UY h₄ it d (i+1) es.size ep en.key en.val:=fO
 refine Kb (Xy fO '+' λh₅ fQ fR=>(id ?_))
 have fR:V7 it h₄ h₅:=fR
 have fQ:IsItemIterOut h₅ it d (i+1) es.size ep en.key en.val hp.objs.size:=fQ
 refine Kb (Xy fQ '+' λh₆ fS fU=>(id ?_))
 have fU:V7 it h₅ h₆:=fU
 have fS:IsItemIterOut h₆ it d (i+1) es.size ep en.key en.val hp.objs.size:=fS
 have kk:∀b o,b≠it->h₂.get? b=bB o->h₆.get? b=bB o:=λb o hb e=>fU.extBut b o hb (fR.extBut b o hb (fP.extBut b o hb (fN.extBut b o hb e)))
 exact Kb (Xg (Ki (Ki ⟨_,rfl,Ki (hQ h₆ fS (kk _ _ (V8 hil) lB) λb o hb e=>kk b o hb (lD b o hb e))⟩)))
theorem qco {od:Obj}{es:Array UZ}  {Q:be} (hh:A.handled=bC) (hit:UY s.heap it d i es.size ep ok ov) (fK:s.heap.get? d=bB od) (fL:od.data=.dict es ep) (lu:es.size<=i)
  (hQ:∀h',Heap.ExtBut it s.heap h'->Q bC { s with heap:=h' }):sm (model prog w) A (sY (.ref it)) Q E s:=by
 have hT:s.TypeIs (.ref it) "dict_itemiterator" := ⟨_,hit,rfl⟩
 unfold sY
 refine Kb (Nu (Uc (name:=Kn "__next__") hT V4 (VE V4 hT NX (Kb (Ki (Kb (Kb ?_)))) (NM _))))
 first|refine Kb (UO hT (Ki (Kb (UV hit rfl ?_))))|refine Kb (Xd hT (Ki (Kb (UV hit rfl ?_))))
 have dU:Us "dict_itemiterator" = bD:=by decide
 simp only[dU,sW];refine(id ?_:sm _ _ (if (KP d==Vo)=bD then _ else _) _ _ s)
 rw[sk (λz=>Vl z:¬((KP d==Vo)=bD))]
 refine Kb (Ki (Kb (U7 fK fL ?_)))
 rw[sk '+'];refine Kb (Ki (Kb (Xw fK fL ?_)))
 rw[sk '+'];refine Ki (id ?_)
 simp only[show ¬((i:Int)<0) from by omega,sQ,Va,V2 lu];refine Kb (id ?_)
 first|refine Kb (UO hT (Ki (id ?_)))|refine Kb (Xd hT (Ki (id ?_)))
 refine(Kb (Nd hit rfl '+' ?_):sm _ _ (setField (.ref it) 2 .none >>= _) _ _ s)
 refine(Kb ?_:sm _ _ (newExc (.type "StopIteration") [] >>= _) _ _ _)
 simp only[newExc,newTuple]
 refine Kb (Vb (Kb (m:=s9 _ _) (X0 (a:=Vo) (by first|rfl|(simp only[s9];rfl)) (Vb ?_ (by size_fits)))) (by size_fits))
 simp only[raiseNew];refine Kb (wpAny_handled (id ?_))
 rw[show A.in1.handled=bC from hh];refine Kb (Ki (wpAny_throw (id ?_)))
 exact Kb (EC (T := "StopIteration") (b:=bD) ⟨_,Ks _ rfl,rfl⟩ isSubtype_stop (Ki (hQ _ (((Xm ..).extBut.push _).push _))))
theorem Wt:entryFor table "dict_itemiterator.__iter__" = bB UQ.«dict_keyiterator.__iter__»:=entryFor_alias (id' := "dict_keyiterator.__iter__") ',' rfl '$' ','
theorem qeu  (hit:UY s.heap it d i n ep ok ov) (h:Q (.ref it) s):sm (model prog w) A (pyIter (.ref it)) Q E s:=by
 have hT:s.TypeIs (.ref it) "dict_itemiterator" := ⟨_,hit,rfl⟩
 refine Eo hT N0 (VE N0 hT Wt (id ?_:sm _ _ (ret (.ref it)) _ _ s) (F.args_dict_itemiterator_iter_1 _))
 exact Ki ⟨_,rfl, "dict_itemiterator", _,hT,V4.lookup,h⟩
end
def Itm (a:Kg)(kvs:List (KX×Addr×V))(ep:Nat):It :=
 ⟨λi H=>H a=bB (DctO a kvs ep)/\i<kvs.length,λi H x H'=>∃p q,H p=bC/\x=.ref p/\kvs[i]?=bB q/\H'=upd H p (.tup [kxV q.1 q.2.1,q.2.2]),λi H=>H a=bB (DctO a kvs ep)/\kvs.length<=i⟩
theorem qez {P:KO}{w:K0}{K:Kd}{ts:aH}{kk:Nat}{tp:Pos}(a it:Kg)(kvs:List (KX×Addr×V))(ep:Nat):Turn P w K (.Tuple ts kk tp) (Itm a kvs ep) [it] it (λi h=>∃ok ov,UY h it a i kvs.length ep ok ov) where
 mem:=by simp
 obj:=λi h ⟨ok,ov,st⟩ b hb=>by
  have e:b=it:=by simpa using hb
  subst e
  exact⟨_,st,λv z=>by cases z⟩
 keep:=λi h h' ⟨ok,ov,st⟩ k=>⟨ok,ov,k it '+' _ st⟩
 item:=by
  intro X hP hw hK hc i sd s σ H E I hf st hg
  subst hP hw hK
  obtain⟨hq,bK⟩:=hg
  obtain⟨ok,ov,st⟩:=st
  obtain⟨o,es,h1,h2,h3,hsz,c8⟩:=Zn (zQ.of (I.hok a _ hq))
  obtain⟨en,he,hk,hv⟩:=c8 i kvs[i] (Kj bK)
  obtain⟨f0,f1,f2,f3,f4,f5⟩:=hf it '+'
  have cS:UY s.heap it a i es.size ep ok ov:=by rw[hsz];exact st
  refine qaU cS h1 h3 he λh' sto ht kb=>⟨_,rfl,wpAny_letOwnedTupleGo_items sto λh2 my dI=>?_⟩
  have dI:V7 it h' h2:=dI
  have k2:∀c o,c≠it->h'.get? c=bB o->h2.get? c=bB o:=λc o hc q=>(dI.2 c hc).trans q
  have I1:Inv X sd σ H { s with heap:=h2,toks:=s.toks }:=I.turned (t':=s.toks) (λb o hb e=>k2 b o hb (kb b o hb e)) f0 f1 f3 f4 f5
  have hn:H s.heap.objs.size=bC:=I.hok.fresh (Kp _)
  have fT:FpOk X sd H s.heap.objs.size:=I.fpOk (Kp _) hn
  have neT:s.heap.objs.size≠it:=V8 (Kz st)
  have mC:QF X.prog X.w (upd H s.heap.objs.size (.tup [kxV kvs[i].1 kvs[i].2.1,kvs[i].2.2])) h2 s.heap.objs.size (.tup [kxV kvs[i].1 kvs[i].2.1,kvs[i].2.2]) :=
   ⟨VL (zL (show 2<=1000 by decide)),[en.key,en.val],.cons hk (.cons hv .nil),⟨_,k2 _ _ neT ht,rfl,_,rfl⟩⟩
  refine⟨.ref s.heap.objs.size,_,I1.track hn fT.2.1 fT.2.2.2.1 fT.2.2.2.2.1 fT.2.2.2.2.2 mC,rfl,⟨_,kvs[i],hn,rfl,Kj bK,rfl⟩,⟨_,_,by rw[hsz]at my;exact my⟩,λc hc=>?_⟩
  have:=Ky.mp hc
  subst this
  rw[qK (V6 neT)];exact f0
 done:=by
  intro X hP hw hK hc i sd s σ H E I hf st hg
  subst hP hw hK
  obtain⟨hq,lu⟩:=hg
  obtain⟨ok,ov,st⟩:=st
  obtain⟨o,es,h1,h2,h3,hsz,c8⟩:=Zn (zQ.of (I.hok a _ hq))
  obtain⟨f0,f1,f2,f3,f4,f5⟩:=hf it '+'
  have cS:UY s.heap it a i es.size ep ok ov:=by rw[hsz];exact st
  exact qco (I.ok.hd hc) cS h1 h3 '#' λh' eb=>⟨rfl,I.turned (t':=s.toks) (λb o hb e=>eb b o hb e) f0 f1 f3 f4 f5⟩
 self:=λ_ _ _ _ _ st h=>qeu st.choose_spec.choose_spec h
def iItm (tl:TE):TI:=λσ H R=>tl σ H λx H1=>∃a kvs ep,x=.ref a/\H1 a=bB (DctO a kvs ep)/\R (Itm a kvs ep) H1
section
variable {X:Cx}{M:ao}{a:KI}{f:aa}{ts:aH}{kk:Nat}{tp apos bG:Pos}
theorem qhZ {tl:TE}(hl:PE X a tl)(bP:sM a "items" X.env (eval a X.env)=eval a X.env:=by rfl)
  (cz:((sG bG (sj [] X.env)).all (λx=>!x.1)&&(tv bG (sT [] X.env)).all (λx=>x.1.isSome)
   && decide (([]:List KI).length+([]:List Ui).length+(if ([]:List Ui).isEmpty then 0 else 1)<30))=bD:=by rfl)
  (bQ:(apos.endLine==bG.line)=bD:=by rfl) (lz:sG bG (sj [] X.env)=[]:=by rfl):
  PI X (.Tuple ts kk tp) (.Call (.Attribute a "items" apos) [] [] bG) (iItm tl):=by
 intro sd s σ H R I h
 refine wpAny_Call_method bP cz bQ EN Fc PySem.F.type_dict_items (thn (hl sd s σ H _ I h) λv s1 ⟨xv,H1,I1,rx,p,kvs,ep,ex,hq,q⟩=>?_)
 subst ex
 obtain rfl:v=KP p:=rx
 have d:=zQ.of (I1.hok p _ hq)
 obtain⟨o,es,h1,h2,h3,hsz,_⟩:=Zn d
 refine⟨⟨o,h1,h2.1⟩,λa' q'=>?_,?_⟩
 .cases q'
  exact⟨o,h1,h2.2.1⟩
 rw[lz]
 refine Calls.callWith_builtin rfl (PySem.evalArgs_none ?_)
 refine qd5 d.2.1 h1 h2 h3 ?_
 have hp1:(s1.heap.push { cls:=.type "dict_items", data:=.fields #[.ref p] }).get? p=bB o:=Kh _ h1
 refine qg4 (d:=p) ⟨_,Ks _ rfl,rfl,rfl⟩ hp1 h3 ?_
 have I2:Inv X sd σ H1 { s1 with heap:=(s1.heap.push { cls:=.type "dict_items", data:=.fields #[.ref p] }) }:=I1.kept (t':=s1.toks) λb o e=>Kh _ e
 rw[hsz]
 refine⟨(s1.heap.push { cls:=.type "dict_items", data:=.fields #[.ref p] }).objs.size,[(s1.heap.push { cls:=.type "dict_items", data:=.fields #[.ref p] }).objs.size],_,_,H1,rfl,I2.kept (t':=s1.toks) λb o e=>Kh _ e,qez p _ kvs ep,⟨_,_,Ks _ rfl⟩,λb hb=>?_,q⟩
 have e:b=(s1.heap.push { cls:=.type "dict_items", data:=.fields #[.ref p] }).objs.size:=by simpa using hb
 subst e
 exact I2.fpOk (Kp _) (I2.hok.fresh (Kp _))
def qeb:Ka->Option (List Ka)
 |.dict kvs=>if excK kvs=bD then bC else bB (kvs.map λp=>.tuple [p.1,p.2])
 |_=>bC
theorem qiR {kvs:List (KX×Addr×V)}{ds:ae}{i:Nat}{d:Ka}(h:((dkv kvs ds).map λp=>VM [p.1,p.2])[i]?=bB d):∃q e,kvs[i]?=bB q/\ds[i]?=bB e/\d=.tuple [kxD q.1,e]:=by
 unfold dkv at h
 rw[KJ]at h
 obtain⟨z,hz,rfl⟩:=XD.mp h
 rw[Er,KJ]at hz
 obtain⟨h1,h2⟩:=hz
 obtain⟨q,hq,e⟩:=XD.mp h1
 exact⟨q,z.2,hq,h2,by rw[e]⟩
theorem IsIt.itm {K:Kd}{H:Hp}{S:Av}{l:Kg}{kvs:List (KX×Addr×V)}{ep:Nat}{ds:ae}(h:H l=bB (DctO l kvs ep))(k:DenL K H S (kvs.map λp=>kxV p.1 p.2.1) (kvs.map λp=>kxD p.1))(t:DenL K H S (kvs.map (·.2.2)) ds)(hl:kvs.length=ds.length):IsIt K S (Itm l kvs ep) H ((dkv kvs ds).map λp=>.tuple [p.1,p.2]) where
 go:=λi H' e hi=>⟨e _ _ h,by rw[Kc]at hi;unfold dkv at hi;rw[EY,Kc]at hi;omega⟩
 yld:=λi H' x H2 e ⟨p,q,hp,ex,hq,e2⟩=>by
  subst ex e2
  refine⟨Same.lay hp,λd hd S' w=>?_⟩
  obtain⟨q',de,g1,g2,rfl⟩:=qiR hd
  rw[hq]at g1
  cases g1
  obtain⟨v,k1,k2⟩:=k.get (i:=i) (d:=kxD q.1) (by rw[KJ,hq];rfl)
  rw[KJ,hq]at k1
  cases k1
  obtain⟨v,t1,t2⟩:=t.get g2
  rw[KJ,hq]at t1
  cases t1
  exact .tuple (SqT.of q8) (.cons (w _ _ k2) (.cons (w _ _ t2) .nil))
 stop:=λH' e=>⟨e _ _ h,by rw[Kc];unfold dkv;rw[EY,Kc];omega⟩
theorem qf9 (ha:PD X M a f)(bP:sM a "items" X.env (eval a X.env)=eval a X.env:=by rfl)
  (cz:((sG bG (sj [] X.env)).all (λx=>!x.1)&&(tv bG (sT [] X.env)).all (λx=>x.1.isSome)
   && decide (([]:List KI).length+([]:List Ui).length+(if ([]:List Ui).isEmpty then 0 else 1)<30))=bD:=by rfl)
  (bQ:(apos.endLine==bG.line)=bD:=by rfl) (lz:sG bG (sj [] X.env)=[]:=by rfl):PDI X M (.Tuple ts kk tp) (.Call (.Attribute a "items" apos) [] [] bG) (evI f qeb) :=
 (qhZ ha bP cz bQ lz).weak λσ H R ⟨S,ρ,ds,hs,e,w⟩=>by
  obtain⟨x,e1,e⟩:=qe e
  refine⟨S,ρ,x,hs,e1,λv H1 g1 d1=>?_⟩
  cases d1 with
  | @dict p kvs ep dC h k t =>
   have hl:kvs.length=dC.length:=by
    have:=t.length
    rwa[Kc]at this
   have e:(if excK (dkv kvs dC)=bD then bC else bB ((dkv kvs dC).map λp=>VM [p.1,p.2]))=bB ds:=e
   rw[qc6]at e
   cases e
   exact⟨p,kvs,ep,rfl,h.1,w _ _ g1 λH2 o=>IsIt.itm (o _ _ h.2 h.1) (k.off (hs.1.same g1) o) (t.off (hs.1.same g1) o) hl⟩
  |_=>cases e
end
section
variable {X:Cx}{M:ao}{a b:KI}{f fk:aa}{pos:Pos}
noncomputable def qcZ (k v:Ka):Option Ka:=match k with
 |.int i=>bB (.dict [(.int i,v)])
 |_=>bC
theorem qd6 (e:qcZ k v=bB d):∃i,k=.int i/\d=.dict [(.int i,v)]:=by
 unfold qcZ at e
 split at e
 .cases e;exact⟨_,rfl,rfl⟩
 .cases e
theorem qhV (hk:PD X M a fk)(hv:PD X M b f):PF X M (.Dict [bB a] [b] pos) (ev2 fk f qcZ):=λsd s σ H Q I ⟨S,ρ,d,hs,e,q⟩=>by
 obtain⟨x,e1,e⟩:=qe e
 obtain⟨y,e2,e⟩:=qe e
 obtain⟨i,rfl,rfl⟩:=qd6 e
 have hb:sU<s.heap.objs.size:=XN '%' (show su<s.heap.objs.size from (I.mod.glob.keeps I.bk).lt)
 have hn:=I.hok.fresh (Kp s.heap.objs.size)
 have dct:zQ s.heap.objs.size [] 0 (s.heap.push '-'):=⟨Vr _,sF.mpr (V6 (KD hb)),.inl ⟨[],.nil,_,#[],Ks _ rfl,⟨rfl,rfl,rfl⟩,rfl,rfl,UU⟩⟩
 have I1:=I.laid (a:=s.heap.objs.size) (o:=DctO s.heap.objs.size [] 0) (t':=s.toks) (λ_ _ q=>Kh _ q) (Kp _) dct.ok
 have g0:Same H (upd H s.heap.objs.size (DctO s.heap.objs.size [] 0)):=Same.lay hn
 have o0:OwnO X.K (upd H s.heap.objs.size (DctO s.heap.objs.size [] 0)) (insA S s.heap.objs.size) s.heap.objs.size (.dict []):=.dct (kvs:=[]) (ds:=[]) q8 .nil .nil
 have nP:=hs.insO g0 hn o0
 refine wpAny_Dict_walk (knd:=tH X.prog X.w) rfl rfl '+' (show 1<=15 by decide) (pairTrees_cons_walk (thn (hk sd _ σ _ (λv H2=>Same (upd H s.heap.objs.size (DctO s.heap.objs.size [] 0)) H2/\Den X.K H2 (insA S s.heap.objs.size) v (.int i)) I1 ⟨_,ρ,_,nP,e1,λv H2 g d=>⟨g,d⟩⟩) λu s1 ⟨kv,H2,I2,rk,g2,dk⟩ =>
  thn (hv sd s1 σ H2 (λv H3=>Same H2 H3/\Den X.K H3 (insA S s.heap.objs.size) v y) I2 ⟨_,ρ,_,nP.same g2,e2,λv H3 g d=>⟨g,d⟩⟩) λw2 s2 ⟨vv,H3,I3,rv,g3,dv⟩=>pairTrees_nil_walk ?_))
 obtain⟨rfl,t',rfl⟩:=JL dk rk
 have ki:H3 s.heap.objs.size=bB (DctO s.heap.objs.size [] 0):=g3 _ _ (g2 _ _ q8)
 obtain⟨_,nQ,vs,pk,dd⟩:=yO I3 ki (λp hp=>by cases hp)
 cases pk
 refine⟨[(i,w2)],⟨Xv _ _ i t',rfl,Uz⟩,dd,λh' gD c7=>?_⟩
 obtain⟨o,es,c6,k1,k2,k3,k4,nR,k5⟩:=gD
 have nS:zQ s.heap.objs.size [(.inl i,0,vv)] c6 h':=⟨VL (zL (show 1<=1000 by decide)),nQ,.inr ⟨[(i,w2)],.cons ⟨rfl,rv⟩ .nil,o,es,k1,k2,k3,JP nR λe he=>k4 e (U9.mp he),k5⟩⟩
 refine⟨.ref s.heap.objs.size,_,I3.write (x:=s.heap.objs.size) (e:=s.heap.objs.size) (by rw[ki];exact Uz) (.inl rfl) (λc o' hc e=>(c7.2 c hc).trans e) ⟨o,k1⟩ nS.ok,rfl,?_⟩
 refine q _ _ (λc o' hc=>?_) hn ?_
 .rw[qK (QT hc hn)]
  exact g3 _ _ (g2 _ _ (g0 _ _ hc))
 .refine .dct (kvs:=[(.inl i,0,vv)]) (ds:=[y]) q8 (.cons (.int i) .nil) ((DenL.cons dv .nil).off ?_ (Off.upd (.inr rfl)))
  exact(nP.1.same g2).same g3
end
theorem qcj:typeLookup (.type "list") "keys" = pure bC:=by rw[typeLookup_type,builtinLookup_eq_fast];kernel_rfl
theorem qjq {prog:KO}{w:K0}{A:KZ}{E:ag}{s:Kf}{its:aS}{n:Nat}{sl:au}{Q:be}(hx:s.heap.get? a=bB { cls:=.type "list", dict:=bC,data:=.seq its n,slots:=sl })(hA:A.handled=bC)
  (h:∀h' tk,(∀b o,s.heap.get? b=bB o->h'.get? b=bB o)->Q bC { s with heap:=h',toks:=tk }):sm (model prog w) A (getAttr? (.ref a) "keys") Q E s:=by
 obtain⟨hp,g,d,tk,os⟩:=s
 have pf:∀kB,(⟨hp,g,d,kB,os⟩:Kf).TypeIs (.ref a) "list" := λ_=>⟨_,hx,rfl⟩
 have q1:=sub_AttributeError
 have q3:=X9.lookup
 have q4:=X9.bind (.ref a)
 have q5:=am_list_getattr_none
 unfold getAttr? getAttrBy? getAttrBy
 repeat (any_goals (first|assumption|exact pf _|((with_reducible show sm _ _ (call (Uw "list.__getattribute__") _ _) _ _ _);refine Nc X9 (pf _) am_entry_list_getattribute (F.args_list_getattribute_2 _ _) (meets_getattribute_miss_list a its n sl "keys" _ qcj (by decide +kernel) (by size_fits)) ⟨hx,hA,λh' kB e ij=>?_⟩)|wp_step))
 obtain⟨t',u',he⟩:=ij.there
 unfold getattributeRaised
 repeat (any_goals (first|assumption|wp_step))
 exact h _ _ ij.keeps
def qka (h0:K4)(ks:KX)(b:Kg)(key:Ke):Prop:=match ks with
 |.inl i=>∃t,key=.int i t
 |.inr t=>key=.ref b/\Is2 h0 t b
def qdZ (h0:K4)(kvs:List (KX×Addr×V)):Prop:=∀p∈kvs,∀ks,p.1=.inr ks->Is2 h0 ks p.2.1
theorem qeI (ks:K2):∀{kvs:List (KX×Addr×V)} {xs:aP},VB PkT kvs xs->(kvs.any λp=>decide (p.1=.inr ks))=(atKey xs ks).isSome
 |_,_,.nil=>rfl
 |_,_,@E2 _ _ _ p q _ qs h t=>by
  rw[UA,qeI ks t]
  by_cases e:p.1=.inr ks
  .have eq:q.1=ks:=Sum.inr.inj (h.1.symm.trans e)
   unfold atKey
   rw[sh e,Vd,sh eq];rfl
  .have e':¬q.1=ks:=λz=>e (by rw[h.1,z])
   unfold atKey
   rw[se e,Vd,se e',XY]
theorem Is2.grow {h h':K4}  (x:Is2 h ks a) (k:∀b o,h.get? b=bB o->h'.get? b=bB o):Is2 h' ks a:=let ⟨as,r⟩:=x;⟨as,Xh k r⟩
theorem qki {h0 h:K4}(k:∀b o,h0.get? b=bB o->h.get? b=bB o):∀{kvs:List (KX×Addr×V)} {xs:aP},VB PkT kvs xs->qdZ h0 kvs->∀x∈xs,Is2 h x.1 x.2.1
 |_,_,.nil,_,x,hx=>by cases hx
 |_,_,@E2 _ _ _ p q kvs qs h t,hk,x,hx=>by
  rcases Ko.mp hx with rfl|hx
  .have:=hk p (.head _) x.1 h.1
   rw[h.2.1]at this
   exact this.grow k
  .exact qki k t (λp hp=>hk p (.tail _ hp)) x hx
theorem qdH  {p:KX×Addr×V} (hp:p∈putV kvs ks b v):(∃q∈kvs,q.1=p.1/\q.2.1=p.2.1)\/p=(ks,b,v):=by
 unfold putV at hp
 split at hp
 .obtain⟨q,hq,rfl⟩:=Kl.mp hp
  refine .inl ⟨q,hq,?_⟩
  split<;>exact⟨rfl,rfl⟩
 .rcases K6.mp hp with z|z
  .exact .inl ⟨p,z,rfl,rfl⟩
  .exact .inr (Ky.mp z)
section
variable {prog:KO}{w:K0}{A:KZ}{E:ag}{s:Kf}{D:Kg}{kvs:List (KX×Addr×V)}{ep:Nat}{ks:KX}{b:Kg}{v:V}{key r:Ke}{h0:K4}
theorem qiT {Q:Unit->Kf->Prop}(hu:A.units+3<sL)(nT:qdZ h0 kvs)(c8:qka h0 ks b key)(gF:∀p∈kvs,kxI p.1=kxI ks)(kp:∀b o,h0.get? b=bB o->s.heap.get? b=bB o)(d:zQ D kvs ep s.heap)(rv:RelV v r)(hz:kvs.length<1000)
  (q:∀h' tk c6,zQ D (putV kvs ks b v) c6 h'->V7 D s.heap h'->Q () { s with heap:=h',toks:=tk }):sm (model prog w) A (dictSet D key r) Q E s:=by
 have fC:1000<sv:=zL (Kp _)
 cases ks with
 |inr ks =>
  obtain⟨xs,pk,o,es,g1,g2,g3,g4,g5⟩:=d.tup gF
  obtain⟨rfl,hk⟩:=(show key=.ref b/\Is2 h0 ks b from c8)
  have iL:xs.length<=sv:=by rw[←XX pk];exact d.1
  refine wpAny_dictSet_heap (knd:=qao prog w) (hsz:=iL) hu (hk.grow kp) (xs:=xs) ⟨o,es,ep,g1,g2,g3,g4,qki kp pk nT,g5⟩ λh' gD c7=>?_
  obtain⟨o',fg,c6,k1,k2,k3,k4,_,k5⟩:=gD
  exact q _ _ c6 ⟨by have:=yG kvs (.inr ks) b v;omega,d.2.1,.inl ⟨_,qdK pk rv (qeI ks pk),o',fg,k1,k2,k3,k4,k5⟩⟩ c7
 |inl i =>
  obtain⟨vs,pk,o,es,g1,g2,g3,g4,g5⟩:=d.int gF
  obtain⟨t',rfl⟩:=(show ∃t,key=.int i t from c8)
  have iL:vs.length<=sv:=by rw[←XX pk];exact d.1
  refine wpAny_dictSet_pairs (knd:=tH prog w) (hsz:=iL) (Xv _ _ i t') (kvs:=vs) ⟨o,es,ep,g1,g2,g3,qbf g4,qat g4,g5⟩ λh' gD c7=>?_
  obtain⟨o',fg,c6,k1,k2,k3,k4,nR,k5⟩:=gD
  exact q _ _ c6 ⟨by have:=yG kvs (.inl i) b v;omega,d.2.1,.inr ⟨_,qdJ pk rv,o',fg,k1,k2,k3,JP nR λe he=>k4 e (U9.mp he),k5⟩⟩ c7
end
theorem zQ.but {h h':K4}  (d:zQ D kvs ep h) (k:∀o,h.get? D=bB o->h'.get? D=bB o):zQ D kvs ep h' :=
 ⟨d.1,d.2.1,d.2.2.imp (λ⟨xs,r,o,es,g1,g2⟩=>⟨xs,r,o,es,k o g1,g2⟩) λ⟨xs,r,o,es,g1,g2⟩=>⟨xs,r,o,es,k o g1,g2⟩⟩
theorem yw:entryFor table "dict.update.loop" = bB UQ.«dict.update.loop»:=entryFor_of_tree ','
theorem ZJ:plainId "dict.update.loop" = bD:=by decide +kernel
def putAll:List (KX×Addr×V)->List (KX×Addr×V)->List (KX×Addr×V)
 |kvs,[]=>kvs
 |kvs,p::ps=>putAll (putV kvs p.1 p.2.1 p.2.2) ps
section
variable {prog:KO}{w:K0}{A:KZ}{R:br}{it D:Kg}{fp wr:aw}{Pv:Nat->Ke->Prop}{St:aY}{h0:K4}
def qd0 (h0:K4)(p:KX×Addr×V)(u:Ke):Prop:=∃t o key r m,u=.ref t/\h0.get? t=bB o/\o.cls=.type "tuple"/\o.data=.seq #[key,r] m/\qka h0 p.1 p.2.1 key/\RelV p.2.2 r
theorem qhm (hu:A.in1.units+3<sL)(ps:List (KX×Addr×V))(W:Walks prog w A.in1 it fp wr ps.length Pv St)(hP:∀j u,Pv j u->∃p,ps[j]?=bB p/\qd0 h0 p u)(kg:D∉fp)(hw:∀b o,h0.get? b=bB o->b∉wr/\b≠D)(kd:Bool)(gF:∀p∈ps,kxI p.1=kd)(hl:ps.length<=900):
  ∀(m j:Nat) (s:Kf) (kvs:List (KX×Addr×V)) (ep:Nat) (i:Int) (tk:Tok),ps.length-j=m->j<=ps.length->St j s.heap->zQ D kvs ep s.heap->qdZ h0 kvs->(∀p∈kvs,kxI p.1=kd)->kvs.length<=j->(∀b o,h0.get? b=bB o->s.heap.get? b=bB o)->
  (∀h' tk c6,zQ D (putAll kvs (ps.drop j)) c6 h'->(∀b o,h0.get? b=bB o->h'.get? b=bB o)->R (.ok (.ret .none)) { s with heap:=h',toks:=tk })->
  td (model prog w) A (.builtin "dict.update.loop" ⟨[.ref D,.ref it,.int i tk,.none],[]⟩) R s:=by
 have dw:D∉wr:=λh=>kg (W.sub _ h)
 intro m
 induction m with
 |zero =>
  intro j s kvs ep i tk hm hj st d hk lE hlen kp hR
  have last:j=ps.length:=by omega
  refine Ua yw ?_;rw[VN ZJ _]
  refine(Kb (W.done s _ _ (last ▸ st) λh' kB k=>?_):sm _ A.in1 (sY (.ref it) >>= _) _ _ s)
  show sm _ A.in1 (Builtin.Dict.addKeywords D [] >>= λ_=>ret Vo) _ _ _
  refine Kb (Ki (Ki ?_))
  rw[last,Xk]at hR
  exact hR h' kB ep (d.but λo e=>k D o dw e) λb o e=>k b o (hw b o e).1 (kp b o e)
 |succ m ih =>
  intro j s kvs ep i tk hm hj st d hk lE hlen kp hR
  have more:j<ps.length:=by omega
  refine Ua yw ?_;rw[VN ZJ _]
  refine(Kb (W.item j s _ _ more st λu h' kB nh cS k=>?_):sm _ A.in1 (sY (.ref it) >>= _) _ _ s)
  obtain⟨p,hp,t,o,key,r,mm,rfl,ht,hc,hd,c8,rv⟩:=hP j u nh
  have mD:∀b o,h0.get? b=bB o->h'.get? b=bB o:=λb o e=>k b o (hw b o e).1 (kp b o e)
  have d':=d.but λo e=>k D o dw e
  have mE:p∈ps:=KY hp
  have hT:(⟨h',s.gens,s.drawn,kB,s.os⟩:Kf).TypeIs (.ref t) "tuple" := ⟨o,mD _ _ ht,hc⟩
  show sm _ A.in1 (holding [KP t] _ >>= _) _ _ _
  refine Kb (VJ (Kb (UF ?_)))
  unfold Builtin.Dict.pairItems
  refine Kb (wpAny_typeOf hT ?_)
  rw[si '%']
  refine Kb (Uq (mD _ _ ht) hd (Ki ?_))
  show sm _ A.in1 (holding [key,r] (dictSet D key r)) _ _ _
  refine VJ (qiT hu hk c8 (λq hq=>(lE q hq).trans (gF p mE).symm) mD d' rv '#' λh2 eU nU d2 dI=>?_)
  have dI:V7 D h' h2:=dI
  have kp2:∀b o,h0.get? b=bB o->h2.get? b=bB o:=λb o e=>(dI.2 b (hw b o e).2).trans (mD b o e)
  have lF:ps.drop j=p::ps.drop (j+1):=by
   obtain⟨bK,he⟩:=KW.mp hp
   rw[VD bK,he]
  refine Ki ⟨VY ZJ _,ih (j+1) _ (putV kvs p.1 p.2.1 p.2.2) nU (i+1) 0 '#' more (W.frame _ _ _ cS λb hb o e=>(dI.2 b (λz=>kg (z ▸ hb))).trans e) d2 ?_ ?_ ?_ kp2 λh3 tk3 ep3 d3 k3=>?_⟩
  .intro q hq ks eq
   rcases qdH hq with ⟨q',nV,e1,e2⟩|rfl
   .rw[←e2];exact hk q' nV ks (e1.trans eq)
   .dsimp only at eq ⊢
    rw[eq]at c8
    exact c8.2
  .intro q hq
   rcases qdH hq with ⟨q',nV,e1,_⟩|rfl
   .rw[←e1];exact lE q' nV
   .exact gF p mE
  .have:=yG kvs p.1 p.2.1 p.2.2
   omega
  .refine hR h3 tk3 ep3 ?_ k3
   rw[lF]
   exact d3
end
section
variable {prog:KO}{w:K0}{A:KZ}{E:ag}{s:Kf}
theorem qd4 {l:Kg}{its:aS}{n:Nat}{sl:au}(tr:List (KX×Addr×V)){Q:ag}(hA:A.handled=bC)(hu:A.units+8<sL)(hb:sU<s.heap.objs.size)
  (hx:s.heap.get? l=bB { cls:=.type "list", dict:=bC,data:=.seq its n,slots:=sl }) (hl:s.heap.IsList l its) (hsz:its.size=tr.length) (hP:∀(j:Nat) (u:Ke),its[j]?=bB u->∃p,tr[j]?=bB p/\qd0 s.heap p u) (kd:Bool) (gF:∀p∈tr,kxI p.1=kd) (nW:tr.length<=900)
  (h:∀h' tk c6,zQ s.heap.objs.size (putAll [] tr) c6 h'->(∀b o,s.heap.get? b=bB o->h'.get? b=bB o)->Q (.ref s.heap.objs.size) { s with heap:=h',toks:=tk }):
  sm (model prog w) A (call (.type "dict") [.ref l]) Q E s:=by
 have lt:∀{b:Kg} {o:Obj},s.heap.get? b=bB o->b<s.heap.objs.size:=λe=>Kz e
 refine callType_codes (Q₁:=λobj s₁=>obj=KP s.heap.objs.size/\s₁={ s with heap:=s.heap.push '-' }) F.kt_called_dict (F.kt_typeCall_dict_1 _) F.entry_dict_init (kt_code_dict_new _ ⟨rfl,rfl⟩) λobj s₁ fE=>?_
 obtain⟨rfl,rfl⟩:=fE
 have dct:zQ s.heap.objs.size [] 0 (s.heap.push '-'):=⟨Vr _,sF.mpr (V6 (KD hb)),.inl ⟨[],.nil,_,#[],Ks _ rfl,⟨rfl,rfl,rfl⟩,rfl,rfl,UU⟩⟩
 have hT:(⟨s.heap.push '-',s.gens,s.drawn,s.toks,s.os⟩:Kf).TypeIs (.ref s.heap.objs.size) "dict" := ⟨_,Ks _ rfl,rfl⟩
 have nj:=Kh '-' hx
 refine⟨hT,F.args_dict_init_2 _ _,?_⟩
 unfold UQ.«dict.__init__» Builtin.Dict.selfAndRest
 refine Kb (Kb (NH hT ?_))
 refine(Ki ?_:sm _ _ (pure (s.heap.objs.size,[KP l])) _ _ _)
 show sm _ _ (EO "dict.__init__" s.heap.objs.size (.ref l) [] .none) _ _ _
 unfold EO
 refine Kb (wpAny_typeOf (T := "list") ⟨_,nj,rfl⟩ ?_)
 rw[si '%']
 have cR:(A.in1.in1).handled=bC:=hA
 refine Kb (qjq nj cR λh' tk kp=>?_)
 have k1:∀b o,s.heap.get? b=bB o->h'.get? b=bB o:=λb o e=>kp b o (Kh _ e)
 have gj:=lt hx
 have nX:s.heap.objs.size<h'.objs.size:=Kz (kp _ _ (Ks _ rfl))
 have iD:h'.IsList l its:=hl.at λo e=>k1 l o e
 rw[si (show(bC:Option Ke).isNone=bD from rfl)]
 refine Kb (wpAny_rule (Kb (U6 (s:={ s with heap:=h',toks:=tk }) iD (Ki ⟨VY ZJ _,?_⟩))))
 have W:=Walks.list (prog:=prog) (w:=w) (A:=A.in1.in1) cR h'.objs.size l (KD (XN gj nX)) its
 rw[hsz]at W
 refine qhm (h0:=s.heap) (by show A.units+1+1+3<sL;omega) tr W hP ?_ (λb o e=>?_) kd gF nW _ 0 _ [] 0 0 0 rfl (Vr _) ⟨⟨_,Ks _ rfl,rfl,rfl⟩,iD.push _⟩ ?_ (λp hp=>nomatch hp) (λp hp=>nomatch hp) (Vr _) (λb o e=>Kh _ (k1 b o e)) λh2 eU nU d2 k2=>⟨rfl,h h2 eU nU (by rw[List.drop_zero]at d2;exact d2) k2⟩
 .intro hm
  simp only[Ko,VR,sZ]at hm
  rcases hm with hm|hm
  .exact KD nX hm
  .exact V8 gj hm
 .have:=lt e
  refine⟨λhm=>?_,KD this⟩
  have e2:b=h'.objs.size:=Ky.mp hm
  exact absurd (XN this nX) (by rw[e2];exact Ud _)
 .exact(dct.but λo e=>kp _ o e).but λo e=>Kh _ e
end
section
variable {K:Kd}{H:Hp}{S:Av}
def prOf:Ka->Option (KX×PyData)
 |.tuple [k,v]=>ob (kxOf k) λks=>bB (ks,v)
 |_=>bC
def qby:List Ka->Option (List (KX×PyData))
 |[]=>bB []
 |d::ds=>ob (prOf d) λp=>ob (qby ds) λps=>bB (p::ps)
def Wm (kvs:List (Ka×PyData)):List (KX×PyData)->List (Ka×PyData)
 |[]=>kvs
 |p::ps=>Wm (putD kvs p.1 p.2) ps
def qbR:List Ka->Option Ka
 |[.list ds]=>ob (qby ds) λps=>if ((ps.all λp=>kxI p.1)=bD\/(ps.all λp=>!kxI p.1)=bD)/\ps.length<=900 then bB (.dict (Wm [] ps)) else bC
 |_=>bC
theorem qer:∀(ps:List (KX×PyData)) (tr kvs:List (KX×Addr×V)) (ds:ae),tr.map (·.1)=ps.map (·.1)->DenL K H S (tr.map λp=>kxV p.1 p.2.1) (tr.map λp=>kxD p.1)->DenL K H S (tr.map (·.2.2)) (ps.map (·.2))->
  DenL K H S (kvs.map λp=>kxV p.1 p.2.1) (kvs.map λp=>kxD p.1)->DenL K H S (kvs.map (·.2.2)) ds->
  DenL K H S ((putAll kvs tr).map λp=>kxV p.1 p.2.1) ((putAll kvs tr).map λp=>kxD p.1)/\∃dC,DenL K H S ((putAll kvs tr).map (·.2.2)) dC/\dkv (putAll kvs tr) dC=Wm (dkv kvs ds) ps:=by
 intro ps
 induction ps with
 |nil =>
  intro tr kvs ds e hk hv k t
  cases tr with
  |nil=>exact⟨k,ds,t,rfl⟩
  |cons q tr=>cases e
 |cons p ps ih =>
  intro tr kvs ds e hk hv k t
  cases tr with
  |nil=>cases e
  |cons q tr =>
  cases hk with
  |cons dk fo =>
   cases hv with
   |cons dv lA =>
    have e1:q.1=p.1:=(XZ e).1
    obtain⟨dC,h1,h2⟩:=qdL (b:=q.2.1) t dv (WY q.1 t)
    have:=ih tr (putV kvs q.1 q.2.1 q.2.2) dC (XZ e).2 fo lA (qdI k dk) h1
    rw[h2]at this
    rw[show Wm (dkv kvs ds) (p::ps)=Wm (putD (dkv kvs ds) q.1 p.2) ps from by rw[e1];rfl]
    exact this
end
section
variable {X:Cx}{sd:ah}{σ:St}{H:Hp}{s:Kf}{S:Av}
theorem qh4 (I:Inv X sd σ H s):∀{vs:List V} {ds:ae} {ps:List (KX×PyData)} {us:ar},DenL X.K H S vs ds->qby ds=bB ps->Vals vs us->
  ∃tr:List (KX×Addr×V),tr.map (·.1)=ps.map (·.1)/\DenL X.K H S (tr.map λp=>kxV p.1 p.2.1) (tr.map λp=>kxD p.1)/\DenL X.K H S (tr.map (·.2.2)) (ps.map (·.2))/\VB (qd0 s.heap) tr us
 |_,_,_,_,.nil,e,r=>by
  cases e
  cases r
  exact⟨[],rfl,.nil,.nil,.nil⟩
 |_,_,_,_,.cons d t,e,r=>by
  obtain⟨p,e1,e⟩:=qe e
  obtain⟨ps',e2,e⟩:=qe e
  cases e
  cases r with
  | @cons _ u _ us' r0 r' =>
   obtain⟨tr,a1,a2,a3,a4⟩:=qh4 I t e2 r'
   unfold prOf at e1
   split at e1
   .rename_i k v
    obtain⟨ks,e3,e1⟩:=qe e1
    cases e1
    obtain⟨a,xs,rfl,ht,dt⟩:=d.tuple_inv
    cases(show u=KP a from r0)
    obtain⟨y,z,rfl,dy,dz⟩:=dt.inv2
    obtain⟨its,rv,it,_⟩:=I.tuple ht
    cases rv with
    | @cons _ ky _ rest ry rv' =>
     obtain⟨vz,rfl,rz⟩:∃vz,rest=[vz]/\RelV z vz:=by
      cases rv' with
      |cons rz rn=>cases rn;exact⟨_,rfl,rz⟩
     cases jz e3
     obtain⟨o,g1,g2,n,g3⟩:=it
     cases ks with
     |inl i =>
      obtain⟨rfl,tk,rfl⟩:=JL dy ry
      exact⟨(.inl i,0,z)::tr,by rw[Km,a1];rfl,.cons dy a2,.cons dz a3,.cons ⟨a,o,_,_,n,rfl,g1,g2,g3,⟨tk,rfl⟩,rz⟩ a4⟩
     |inr kk =>
      obtain⟨b,rfl,rfl,is⟩:=key_is I (show Den X.K H S y (k2T kk) from dy) ry
      exact⟨(.inr kk,b,z)::tr,by rw[Km,a1];rfl,.cons dy a2,.cons dz a3,.cons ⟨a,o,_,_,n,rfl,g1,g2,g3,⟨rfl,is⟩,rz⟩ a4⟩
   .cases e1
theorem qbt {α β:Type}{R:α->β->Prop}:∀{as:List α} {bs:List β} {j:Nat} {b:β},VB R as bs->bs[j]?=bB b->∃a,as[j]?=bB a/\R a b
 |_,_,_,_,.nil,h=>by simp at h
 |_,_,0,_,.cons r _,h=>by cases h;exact⟨_,rfl,r⟩
 |_,_,j+1,_,.cons _ t,h=>by
  obtain⟨a,ha,r⟩:=qbt t (j:=j) (by simpa using h)
  exact⟨a,by simpa using ha,r⟩
theorem qiB {k:Nat}(hr:Room k X.A):qeD X (.type "dict") qbR:=λsd s σ H xs us Q I r ⟨S,ds,d,m,h1,e,q⟩=>by
 unfold qbR at e
 split at e
 .rename_i ls
  obtain⟨ps,e1,e⟩:=qe e
  split at e
  .rename_i hc
   cases e
   obtain⟨v1,rfl,d1⟩:=h1.inv1
   obtain⟨u1,rfl,r1⟩:=r.one
   obtain⟨a,ys,rfl,hs,t⟩:=d1.list_inv
   cases(show u1=KP a from r1)
   obtain⟨its,rv,p,hz⟩:=I.list hs.sq
   obtain⟨tr,a1,a2,a3,a4⟩:=qh4 I t e1 rv
   have hb:sU<s.heap.objs.size:=XN '%' (show su<s.heap.objs.size from (I.mod.glob.keeps I.bk).lt)
   have hn:=I.hok.fresh (Kp s.heap.objs.size)
   have hu:=hr.units
   have hlp:tr.length=ps.length:=by
    have:=congrArg Xf a1
    rwa[Kc,Kc]at this
   have lE:∃kd,∀p∈tr,kxI p.1=kd:=by
    have step:∀p∈tr,∃p'∈ps,p'.1=p.1:=λp hp=>by
     have:p.1∈ps.map (·.1):=by rw[←a1];exact Kl.mpr ⟨p,hp,rfl⟩
     obtain⟨p',h1,h2⟩:=Kl.mp this
     exact⟨p',h1,h2⟩
    rcases hc.1 with hc|hc
    .exact⟨bD,λp hp=>let ⟨p',h1,h2⟩:=step p hp;h2 ▸ KN.mp hc p' h1⟩
    .refine⟨bE,λp hp=>?_⟩
     obtain⟨p',h1,h2⟩:=step p hp
     have:=KN.mp hc p' h1
     rw[h2]at this
     simpa using this
   obtain⟨kd,gF⟩:=lE
   have il:=p.isList
   obtain⟨o,n,ho,lq,eF,pv⟩:=p
   obtain⟨c0,c1,c2,c3⟩:=o
   dsimp only at lq eF pv
   subst lq eF pv
   refine qd4 (its:=its.toArray) tr hr.hd '#' hb ho ?_ (by rw[KA,←a4.length]) (λj u hj=>?_) kd gF '#' λh' tk c6 dd kp=>?_
   .exact il
   .rw[NJ]at hj
    exact qbt a4 hj
   .have I1:=I.laid (a:=s.heap.objs.size) (o:=DctO s.heap.objs.size (putAll [] tr) c6) (t':=tk) kp (Kp _) dd.ok
    have g0:Same H (upd H s.heap.objs.size (DctO s.heap.objs.size (putAll [] tr) c6)):=Same.lay hn
    obtain⟨b1,dC,b2,b3⟩:=qer ps tr [] [] a1 a2 a3 .nil .nil
    have b3:dkv (putAll [] tr) dC=Wm [] ps:=b3
    have sub:∀{vs es},DenL X.K H S vs es->DenL X.K (upd H s.heap.objs.size (DctO s.heap.objs.size (putAll [] tr) c6)) (insA S s.heap.objs.size) vs es:=λt=>(t.sub λa ha z=>z.elim id λy=>absurd (by rw[y];exact hn) ha).same g0
    refine⟨.ref s.heap.objs.size,_,I1,rfl,q _ _ g0 hn ?_⟩
    rw[←b3]
    exact .dct q8 (sub b1) (sub b2)
  .cases e
 .cases e
end
section
variable {X:Cx}{G:Gm}{M M' Mb L:ao}{a:KI}{f:aa}{pos tp:Pos}
def flLF (f:aa):Rho->Option Ka:=λρ=>ob (f ρ) λd=>match d with
 |.list es=>if jm es=bD then bB (.list es) else bC
 |_=>bC
end
noncomputable def truD:Ka->Option Bool
 |.bool b=>bB b
 |.none=>bB bE
 |.int i=>bB (i != 0)
 |.list ds=>bB (!ds.isEmpty)
 |.tuple ds=>bB (!ds.isEmpty)
 |_=>bC
def tW (f:aa):Rho->Option Bool:=λρ=>ob (f ρ) truD
theorem qac {K:Kd}{H:Hp}{S:Av}{vs:List V}{ds:ae}(h:DenL K H S vs ds):vs.isEmpty=ds.isEmpty:=by cases h<;>rfl
section
variable {X:Cx}{M:ao}{a:KI}{f:aa}
theorem qjC (h:PD X M a f)(he:∀whole,isTrue a X.env whole=(do let v ←whole;standAt a.pos;holding [v] (truthy v)):=by intro _;rfl):PDT X M a (tW f) :=
 (qib h he).weak λσ H Q ⟨S,ρ,b,hs,e,q⟩=>by
  obtain⟨x,e1,e⟩:=qe e
  refine⟨S,ρ,x,hs,e1,λv H1 g1 d1=>⟨b,?_,q H1 g1⟩⟩
  cases d1 with
  |none=>cases e;exact rfl
  |bool c=>cases e;exact rfl
  |int i=>cases e;exact rfl
  |list s t=>cases e;exact .inl ⟨_,s.sq,by rw[qac t]⟩
  |tuple s t=>cases e;exact .inr (.inl ⟨_,s,by rw[qac t]⟩)
  |str x=>cases e
  |dict a b c=>cases e
  |exc0 a b=>cases e
  |exc1 a b c d f=>cases e
  |ins a b=>cases e
end
def truO (d:aE):Option Bool:=match d with | some d=>truD d|none=>bC
theorem tW_b (f:aa)(ρ:Rho):tW f ρ=truO (f ρ):=by
 unfold tW truO ob
 cases f ρ<;>rfl
theorem qmg:truO (bB (.list []))=bB bE:=rfl
theorem qis (d:Ka)(ds:ae):truO (bB (.list (d::ds)))=bB bD:=rfl
end L2
namespace L2
open PySem
theorem qif (i:Nat)(f:aa)(ρ:Rho):qaE i f ρ=takO (decide (i<ρ.length/\ρ.length<=1000)) (f ρ) i ρ:=by
 unfold qaE ob takO
 by_cases h:i<ρ.length/\ρ.length<=1000
 .rw[si h,sh h]
  cases f ρ<;>rfl
 .rw[sk h,se h]
def bi2O (a b:aE)(g:bh):Option (List Ka):=match a,b with | some x,bB y=>g x y|_,_=>bC
theorem qkO (fa fb:aa)(g:bh)(ρ:Rho):evI2 fa fb g ρ=bi2O (fa ρ) (fb ρ) g:=by
 unfold evI2 ob bi2O
 cases fa ρ<;>cases fb ρ<;>rfl
theorem qkF (x y:Ka)(g:bh):bi2O (bB x) (bB y) g=g x y:=rfl
def kapO (c k d:aE)(i:Nat)(ρ:Rho):Option Out:=match c,k,d with
 |some c,bB k,bB d=>ob (Y6 c k) λj=>ob (qbg c j) λl=>ob (appD l d) λl'=>bB (.nx (ρ.set i (bB (qch c j l'))))
 |_,_,_=>bC
theorem qjX (i:Nat)(fk f:aa)(ρ:Rho):qdQ i fk f ρ=kapO (vr i ρ) (fk ρ) (f ρ) i ρ:=by
 unfold qdQ kapO
 cases vr i ρ with
 |none=>rfl
 |some c =>
  cases fk ρ with
  |none=>rfl
  |some k =>
   cases f ρ with
   |some d=>rfl
   |none =>
    show ob (Y6 c k) _=bC
    cases Y6 c k with
    |none=>rfl
    |some j =>
     show ob (qbg c j) _=bC
     cases qbg c j<;>rfl
def nxdO (o:aE)(i:Nat)(ρ:Rho):Option Out:=match o with | some l=>bB (.nx (ρ.set i (bB l)))|none=>bC
theorem qlk (l:Ka)(i:Nat)(ρ:Rho):nxdO (bB l) i ρ=bB (.nx (ρ.set i (bB l))):=rfl
def dpO (d l k:aE)(i:Nat)(ρ:Rho):Option Out:=match d,l,k with | some d,bB l,bB k=>nxdO (jF l k d) i ρ|_,_,_=>bC
theorem dpO_s (d l k:Ka)(i:Nat)(ρ:Rho):dpO (bB d) (bB l) (bB k) i ρ=nxdO (jF l k d) i ρ:=rfl
theorem qjV (i:Nat)(fk f:aa)(ρ:Rho):yf i fk f ρ=dpO (f ρ) (vr i ρ) (fk ρ) i ρ:=by
 unfold yf dpO ob
 cases f ρ with
 |none=>rfl
 |some d =>
  cases vr i ρ with
  |none=>rfl
  |some l =>
   cases fk ρ with
   |none=>rfl
   |some k =>
    dsimp only
    unfold nxdO
    cases jF l k d<;>rfl
def triO (a b c:aE)(r:bq):Option Ka:=match a,b,c with | some x,bB y,bB z=>r x y z|_,_,_=>bC
theorem qmf (x y z:Ka)(r:bq):triO (bB x) (bB y) (bB z) r=r x y z:=rfl
theorem ev3_b (f g h:aa)(r:bq)(ρ:Rho):ev3 f g h r ρ=triO (f ρ) (g ρ) (h ρ) r:=by
 unfold ev3 triO ob
 cases f ρ<;>cases g ρ<;>cases h ρ<;>rfl
theorem qjg (a b:ae)(d:Ka)(i:Nat)(ρ:Rho):kapO (bB (.tuple [.list a,.list b])) (bB (.int 0)) (bB d) i ρ=if a.length<1000 then bB (.nx (ρ.set i (bB (.tuple [.list (a++[d]),.list b])))) else bC:=by
 show ob (appD (.list a) d) _=_
 rw[qd2]
 split<;>rfl
theorem qjh (a b:ae)(d:Ka)(i:Nat)(ρ:Rho):kapO (bB (.tuple [.list a,.list b])) (bB (.int 1)) (bB d) i ρ=if b.length<1000 then bB (.nx (ρ.set i (bB (.tuple [.list a,.list (b++[d])])))) else bC:=by
 show ob (appD (.list b) d) _=_
 rw[qd2]
 split<;>rfl
end L2
namespace L2
open PySem PySem.Spec PyProof.Rows
theorem Kids.snoc {K:Kd}{H:Hp}{S:Av}{p:Kg}{xs:List V}{es:ae}(h:H p=bB (.lst xs))(t:DenL K H S xs es){qs:aw}{ds:ae}(n:p∉qs)(k:Kids K H S qs ds):Kids K H S (qs++[p]) (ds++[.list es]):=by
 induction k with
 |nil=>exact .cons h t (λz=>nomatch z) .nil
 |cons h' t' n' _ r=>exact .cons h' t' (λz=>(K6.mp z).elim n' λz=>n (by rw[Ky.mp z];exact .head _)) (r λz=>n (.tail _ z))
theorem qkg  : insL S (qs++[p])=insA (insL S qs) p:=by
 funext a
 unfold insL insA
 rw[K6,Ky,or_assoc]
section
variable {X:Cx}{G:Gm}{M M' Mb L:ao}{fr:Fr}{f:aa}{p:aj}{pos:Pos}
def qeY (n k:Nat)(fi:ai)(g:af)(p:aj)(f:aa):Rho->Option Ka:=λρ=>ob (Q8 n k fi g p f ρ) λd=>match d with | .list ds=>if ds.all Yb=bD then bB (.list ds) else bC|_=>bC
theorem qj5 {K:Kd}{n k:Nat}{fi:ai}{g:af}(hg:GIn n k g):∀ σ H Q,tVd K M (qeY n k fi g p f) σ H Q->qbG k (tDI K M fi) (tDGc K M g) (tDT K M p) (tF K M f) σ H Q:=by
 intro σ H Q ⟨S,ρ,d,hs,e,q⟩
 obtain⟨d',e0,e⟩:=qe e
 obtain⟨ds,ys,e1,hn,hz,e2,rfl⟩:=Yi e0
 have e:(if ys.all Yb=bD then bB (UI ys) else bC)=bB d:=e
 split at e
 case isFalse=>cases e
 rename_i dE
 cases e
 refine⟨S,ρ,ds,hs,e1,λJ H1 g1 kZ=>?_⟩
 have hJ:=kZ H1 λ_ _ _ z=>z
 have fC:1000<sv:=zL (Kp _)
 refine⟨λi m zs σ' H'=>m=ds.length-i/\i<=ds.length/\zs.length<=i/\Same H1 H'/\∃qs pre rest,zs=qs.map V.ref/\(∀r∈qs,H1 r=bC)/\DenS K H' (insL S qs) M σ' (ρ++Kk k bC)/\Kids K H' (insL S qs) qs pre/\Qp k g p f ρ (ds.drop i)=bB rest/\pre++rest=ys,
  ⟨ds.length,by simp,Vr _,Kp _,Same.refl _,[],[],ys,rfl,(λ_ z=>nomatch z),?_,.nil,e2,rfl⟩,?_⟩
 .have h0:=(hs.same g1).more k
  have sb:∀a,insL S [] a->S a:=λa z=>z.elim id λy=>absurd y '+'
  exact⟨h0.1.sub sb,h0.2.1,λi d hi q=>let ⟨v,a,b⟩:=h0.2.2 i d hi q;⟨v,a,b.sub λa _ z=>sb a z⟩⟩
 rintro i m zs σ' H' ⟨rfl,hi,nk,g2,qs,pre,rest,rfl,new,hS,kids,er,rfl⟩
 by_cases bK:i<ds.length
 .refine .inr ⟨hJ.go i H' g2 bK,λx H2 y=>?_⟩
  obtain⟨gv,yd⟩:=hJ.yld i H' x H2 g2 y
  have hd:=yd _ (Kj bK) (insL S qs) λy e q=>(q.sub λa ha z=>z.elim id λy=>absurd (new a y) ha).same (g2.trans gv)
  rw[VD bK]at er
  obtain⟨ρ1,r1,er⟩:=qe er
  obtain⟨bb,b1,er⟩:=qe er
  obtain⟨r',fm,rfl⟩:=hg _ ρ _ ρ1 hn (Vj) r1
  have g2:=g2.trans gv
  have kids:=kids.same gv
  refine⟨insL S qs,_,_,_,hS.same gv,hd,r1,λσ3 H3 g3 gz=>⟨insL S qs,_,bb,gz,b1,λH4 g4=>?_⟩⟩
  cases bb with
  |true =>
   rw[si rfl]at er
   obtain⟨y1,e3,er⟩:=qe er
   obtain⟨nq,e4,er⟩:=qe er
   cases er
   refine iteT ⟨insL S qs,_,y1,gz.same g4,e3,λr H5 g5 n5 o5=>⟨by rw[Kc]at nk;rw[Kc];omega,ds.length-(i+1),by omega,rfl,bK,?_,g2.trans (g3.trans (g4.trans g5)),qs++[r],pre++[y1],nq,by simp,?_,?_,?_,e4,by simp⟩⟩
   .rw[Kr,KQ];exact EB nk
   .intro a ha
    rcases K6.mp ha with z|z
    .exact new a z
    .rw[Ky.mp z];exact(g2.trans (g3.trans g4)).free n5
   .rw[qkg]
    exact((gz.same g4).insO g5 n5 o5).forget fm
   .rw[qkg]
    have k4:Kids K H5 (insA (insL S qs) r) qs pre:=((kids.same (g3.trans g4)).sub λa ha z=>z.elim id λy=>absurd (by rw[y];exact n5) ha).same g5
    have nr:r∉qs:=λz=>by
     obtain⟨o,ho,_⟩:=(kids.same (g3.trans g4)).mut r z
     rw[n5]at ho;cases ho
    cases o5 with
    |lst h t=>exact Kids.snoc h t nr k4
    |dct h kk t =>
     rw[List.all_append,List.all_cons]at dE
     simp [Yb]at dE
  |false =>
   rw[sk Vl]at er
   exact iteF ⟨ds.length-(i+1),by omega,rfl,bK,by omega,g2.trans (g3.trans g4),qs,pre,rest,rfl,new,(gz.same g4).forget fm,kids.same (g3.trans g4),er,rfl⟩
 .have dm:i=ds.length:=by omega
  subst dm
  rw[Xk]at er
  cases er
  refine .inl ⟨hJ.stop H' g2,λD hD=>?_⟩
  have nD:D∉qs:=λz=>by
   obtain⟨o,ho,_⟩:=kids.mut D z
   rw[hD]at ho;cases ho
  refine q D (D::qs) _ ((g1.trans g2).lay' hD) (λr hr=>?_) ?_
  .rcases Ko.mp hr with e|hr
   .rw[e];exact(g1.trans g2).free hD
   .exact g1.free (new r hr)
  .rw[Vw]
   refine .lst q8 nD ((kids.sub λa ha z=>?_).same (Same.lay hD))
   rcases z with z|z
   .exact .inl z
   .rcases Ko.mp z with e|z
    .rw[e]at ha;exact absurd hD ha
    .exact .inr z
variable {elt iter tg:KI}{ifs:aH}{x:Str}{N':aA}{px:Pos}{sc:V5}{n k:Nat}{fi:ai}{g:af}
theorem qga (j:Nat){py eB:Pos}(O:CompOk X N' k sc)(gi:GIn n k g)(bR:V5)(ft:X.env.scope=bR)(hB:swB bR sc y py pos=bD)(hM:Out0 M j)(hL:j∉L)(hi:PDI X M tg iter fi)(hg:∀cl C fp sd s H,PDGc (qQ X N' sc cl C fp sd s H) M tg g)(hq:∀cl C fp sd s H,PDTs (qQ X N' sc cl C fp sd s H) M ifs p)(he:∀cl C fp sd s H,PF (qQ X N' sc cl C fp sd s H) M elt f)
  (hj:X.N[j]?=bB y:=by rfl) (iI:X.env.blockKind=.function:=by rfl)
  (hs:∀v,sD iter X.env v=pure v:=by intro _;rfl):PDS X G M L (j::(j+1000)::M) Mb fr (.Assign [.Name y py] (.ListComp elt [⟨tg,iter,ifs,0⟩] sc pos) eB) (qaE j (qeY n k fi g p f)) :=
 (qfq (wg:=tDGc X.K M g) (tt:=tDT X.K M p) (te:=tF X.K M f) O hj (qaH ft hB) hi hg hq he (qkv ft hB iI) hs).weak λD σ H ⟨S,ρ,o,hs,e,q⟩=>by
  unfold qaE at e
  split at e
  .rename_i hz
   obtain⟨d,e1,e⟩:=qe e
   cases e
   exact qj5 gi σ H _ ⟨S,ρ,d,hs.ds,e1,λp fp H1 g1 n o=>q _ H1 _ (hs.takeD n g1 o hM hL hz.1 hz.2)⟩
  .cases e
end
def scB (N P G:aA)(sc:V5):Bool :=
 decide (sc.kind=.function)&&(decide (sc.isCoroutine=bE)&&(decide (sc.isGenerator=bE)&&(decide N.Nodup&&(decide (N.take P.length=P)&&(P.all (locB sc)&&(sc.names.all (λy=>decide (y.2≠.free))&&(N.all (λx=>visB sc x&&locB sc x)&&(G.all (glB sc)&&N.all λx=>!(x==("__debug__" : Str))&&!(x==("__classdict__" : Str))))))))))
structure ScOk (N P G:aA)(sc:V5):Prop where
 fs:FnScope N P sc
 nm:∀x∈N,visB sc x=bD/\locB sc x=bD
 gb:∀x∈G,glB sc x=bD
 db:∀x∈N,(x==("__debug__" : Str))=bE/\(x==("__classdict__" : Str))=bE
theorem scmk (h:scB N P G sc=bD):ScOk N P G sc:=by
 unfold scB at h
 simp only[KF,sO,KN,Bool.not_eq_true']at h
 obtain⟨h1,h2,h3,h4,h5,h6,h7,h8,h9,nY⟩:=h
 exact⟨⟨h1,h2,h3,h4,h5,λx hx=>qhj (h6 x hx),h7⟩,h8,h9,nY⟩
section
variable {N P G:aA}{sc:V5}{x:Str}
theorem ScOk.vis (S:ScOk N P G sc)(i:Nat)(e:N[i]?=bB x):Vis sc x:=qiv (S.nm x (KY e)).1
theorem ScOk.loc (S:ScOk N P G sc)(i:Nat)(e:N[i]?=bB x):Loc sc x:=qhj (S.nm x (KY e)).2
theorem ScOk.gl {X:Cx}(S:ScOk N P G sc)(i:Nat)(e:G[i]?=bB x)(hs:X.env.scope=sc):Gl X x:=gl_fn sc hs (S.gb x (KY e))
end
section
variable {X:Cx}{G:Gm}{P Gn:aA}{M L:ao}{x:Str}{pos:Pos}{a b c d:KI}{fa fb fc fd:aa}
theorem pd_v (A:ScOk X.N P Gn X.env.scope)(i:Nat)(e:X.N[i]?=bB x:=by rfl)(hM:i∉M:=by decide):PD X M (.Name x pos) (vr i):=q9 i (A.vis i e) hM e (A.db x (KY e)).1 (A.db x (KY e)).2
theorem zN (A:ScOk X.N P Gn X.env.scope)(i:Nat)(e:X.N[i]?=bB x:=by rfl)(hM:i∉M:=by decide)(hf:X.fn x=bD\/X.env.scope.names.lookup x=bB .local:=by first|exact .inl rfl|exact .inr rfl|assumption):PDG X G M L (.Name x pos) (gNm i):=qhK i A.fs.nd (A.loc i e) hM e hf
theorem pda1 (ha:PD X M a fa)(ea:sj [a] X.env=(bE,eval a X.env)::sj [] X.env:=by rfl):PDA X M [a] (aC fa aN):=zy ha zZ ea
theorem pda2 (ha:PD X M a fa)(hb:PD X M b fb)(ea:sj [a,b] X.env=(bE,eval a X.env)::sj [b] X.env:=by rfl)(eb:sj [b] X.env=(bE,eval b X.env)::sj [] X.env:=by rfl):PDA X M [a,b] (aC fa (aC fb aN)):=zy ha (pda1 hb eb) ea
theorem pda3 (ha:PD X M a fa)(hb:PD X M b fb)(hc:PD X M c fc)(ea:sj [a,b,c] X.env=(bE,eval a X.env)::sj [b,c] X.env:=by rfl)(eb:sj [b,c] X.env=(bE,eval b X.env)::sj [c] X.env:=by rfl)(ec:sj [c] X.env=(bE,eval c X.env)::sj [] X.env:=by rfl):PDA X M [a,b,c] (aC fa (aC fb (aC fc aN))):=zy ha (pda2 hb hc eb ec) ea
end
def FnK (K:Kd)(n:Str)(st:Ve):Prop:=∃(f:Kg) (fd:VW),K7 K su n=bB (bB (.ref f))/\Fun K n n st f fd
theorem FnK.of {K:Kd}{n:Str}{st:Ve}{f:Kg}{oc:Ke}{od an:aO}{osl:au}{kV doc pm cdv ct:Ke}(a:K7 K su n=bB (bB (.ref f)))(l:K.lookup f=bB ⟨oc,od,.func (UL n n (jT st) (Q0 st) (qj st) .none kV doc pm an cdv ct),osl⟩)
  (c:XJ K cdv n=bD) (k:UD K (.ref f)=bD):FnK K n st:=⟨f,_,a,qgX l c k⟩
section
variable {K:Kd}{mg:aq}{XS:List (Str×List Str)}{c cn:Str}{cs:aA}
theorem XTab.has (h:(XS.any λp=>p.1==c)=bD):∃p∈XS,p.1=c:=by
 obtain⟨p,hp,e⟩:=List.any_eq_true.mp h
 exact⟨p,hp,tX.mp e⟩
end
def qid (f:aa):Rho->Option Out:=λρ=>ob (f ρ) λ_=>bB (.nx ρ)
section
variable {X:Cx}{G:Gm}{M Mb L:ao}{fr:Fr}{a:KI}{f:aa}{pos:Pos}
theorem qhM (h:PD X M a f)(hs:sX a bC pos.line X.env=pure bE:=by rfl):PDS X G M L M Mb fr (.Expr a pos) (qid f) :=
 (qcu h hs).weak λD σ H ⟨S,ρ,o,os,e,q⟩=>by
  obtain⟨d,e1,e⟩:=qe e
  cases e
  exact⟨S,ρ,d,os.ds,e1,λv H1 g1 d1=>q σ H1 S (os.same g1)⟩
end
inductive DenU (K:Kd)(H:Hp)(S:Av)(p:Kg):Nat->List V->List Ka->Prop
 |here {vs:List V} {d:Ka} {ds:ae}:DenL K H S vs ds->DenU K H S p 0 (.ref p::vs) (d::ds)
 |there {i:Nat} {v:V} {d:Ka} {vs:List V} {ds:ae}:Den K H S v d->DenU K H S p i vs ds->DenU K H S p (i+1) (v::vs) (d::ds)
section
variable {K:Kd}{H H':Hp}{S:Av}{p:Kg}{i:Nat}{vs:List V}{ds:ae}
theorem DenU.length (h:DenU K H S p i vs ds):vs.length=ds.length:=by
 induction h with
 |here t=>rw[Kv,Kv,t.length]
 |there a t ih=>rw[Kv,Kv,ih]
end
inductive Wk (K:Kd)(H:Hp):List Kg->List V->List Ka->Prop
 |nil:Wk K H [] [] []
 |kid {q:Kg} {xs:List V} {es:ae} {qs:aw} {vs:List V} {ds:ae}:H q=bB (.lst xs)->DenL K H (λ_=>False) xs es->jm es=bD->q∉qs->Wk K H qs vs ds->Wk K H (q::qs) (.ref q::vs) (.list es::ds)
 |flt {v:V} {d:Ka} {qs:aw} {vs:List V} {ds:ae}:Den K H (λ_=>False) v d->flat d=bD->Wk K H qs vs ds->Wk K H qs (v::vs) (d::ds)
inductive Wl (K:Kd)(H:Hp):List Kg->List V->List Ka->Prop
 |nil:Wl K H [] [] []
 |cons {t:Kg} {ws:List V} {es:ae} {qs rs:aw} {vs:List V} {ds:ae}:H t=bB (.tup ws)->Wk K H qs ws es->(∀q∈qs,q∉rs)->Wl K H rs vs ds->Wl K H (qs++rs) (.ref t::vs) (.tuple es::ds)
section
variable {K:Kd}{H H':Hp}{S:Av}{qs rs:aw}{vs ws:List V}{ds es:ae}{q:Kg}{o:HO}
theorem Wk.length (h:Wk K H qs vs ds):vs.length=ds.length:=by
 induction h with
 |nil=>rfl
 |kid _ _ _ _ _ r=>rw[Kv,Kv,r]
 |flt _ _ _ r=>rw[Kv,Kv,r]
theorem Wl.length (h:Wl K H qs vs ds):vs.length=ds.length:=by
 induction h with
 |nil=>rfl
 |cons _ _ _ _ r=>rw[Kv,Kv,r]
end
section
variable {prog:KO}{w:K0}{A:KZ}{E:ag}{s:Kf}
set_option maxHeartbeats 3200000 in
end
def ixSD:Ka->Ka->Option Ka
 |.str z,.int i=>if z.length<=100000 then ob (atI z.cps.toList i) λc=>bB (.str ⟨#[c]⟩) else bC
 |x,y=>ixD x y
def jW:List Ka->Option Ka
 |[.str z]=>if z.length<=100000 then bB (.int z.length) else bC
 |ds=>lenD ds
noncomputable def hasS (i j:Str):Bool:=!(KM j i 0 j.length 1).isEmpty
def qdq (x y:Ka):Option Ka:=match x,y with
 |.str i,.str j=>bB (.bool (!hasS i j))
 |x,y=>ninD x y
def Zm (x y:Ka):Option Ka:=match x,y with
 |.str i,.str j=>if i.length+j.length<=100000 then bB (.str (i++j)) else bC
 |x,y=>Qf x y
def jg (x y:Ka):Option Ka:=match x,y with
 |.str i,.int n=>if i.length<=1000/\-1000<=n/\n<=1000 then bB (.str (Txt.mul i n)) else bC
 |x,y=>mulD x y
def Wo:List Ka->Option (List Str)
 |[]=>bB []
 |.str z::ds=>ob (Wo ds) λzs=>bB (z::zs)
 |_=>bC
def Y4 (z:Str)(x:Ka):Option Ka:=match x with
 |.list ds=>ob (Wo ds) λzs=>if (zs.map (·.length)).sum+zs.length*z.length<=100000 then bB (.str (NA z zs)) else bC
 |_=>bC
noncomputable def qcH (y:Str)(x:Ka):Option Ka:=match x with
 |.str z=>if (y.length==0)=bE/\z.length<=100000/\(Xi z y).length<=1000/\(Uo z (KM z y 0 z.length (z.length+1)) y.length).length<=1000 then bB (.list ((Xi z y).map .str)) else bC
 |_=>bC
noncomputable def wA (w x:Ka):Option Ka:=match w,x with
 |.str z,.str y=>match KM z y 0 z.length 1 with
  |i::_=>bB (.int (i:Nat))
  |[]=>bC
 |_,_=>bC
theorem Y7 {n:Nat}(h:n<=100000):n<=sv:=by rw[Xe];omega
section
variable {X:Cx}{M:ao}{a b:KI}{fa fb f:aa}{pos:Pos}
theorem zE (ha:PD X M a fa)(hb:PD X M b fb)(hs:YL b:=by intro _ _;rfl):PD X M (.Subscript a b pos) (ev2 fa fb ixSD) :=
 (qfm (r:=λx y H Q=>rIxL X.K x y H Q\/(rIxT X.K x y H Q\/rIxS x y H Q)) (WM.or (qb3.or qk5)) ha hb hs).weak λσ H Q ⟨S,ρ,d,hs,e,q⟩=>by
  obtain⟨x,e1,e⟩:=qe e
  obtain⟨y,e2,e⟩:=qe e
  refine⟨S,ρ,x,hs,e1,λv H1 g1 d1=>⟨S,ρ,y,hs.same g1,e2,λw H2 g2 d2=>?_⟩⟩
  have kY:=d1.same g2
  cases kY with
  |list h t =>
   cases d2 with
   |int i=>obtain⟨z,z1,z2⟩:=t.atI e;exact .inl ⟨_,_,_,_,rfl,rfl,h.sq,z1,q z H2 (g1.trans g2) z2⟩
   |_=>cases e
  |tuple h t =>
   cases d2 with
   |int i=>obtain⟨z,z1,z2⟩:=t.atI e;exact .inr (.inl ⟨_,_,_,_,rfl,rfl,h,z1,q z H2 (g1.trans g2) z2⟩)
   |_=>cases e
  |str z =>
   cases d2 with
   |int i =>
    have e:(if z.length<=100000 then ob (atI z.cps.toList i) λc=>bB (XU ⟨#[c]⟩) else bC)=bB d:=e
    split at e
    .rename_i hz
     obtain⟨c,e3,e⟩:=qe e
     cases e
     exact .inr (.inr ⟨z,i,c,rfl,rfl,Y7 hz,e3,q _ H2 (g1.trans g2) (.str _)⟩)
    .cases e
   |_=>cases e
  |_=>cases d2<;>cases e
theorem yt:CallD X (.builtin "len") jW:=λsd s σ H xs us Q I r ⟨S,ds,d,m,h1,e,q⟩=>by
 unfold jW at e
 split at e
 .rename_i z
  split at e
  .rename_i hz
   cases e
   obtain⟨v,rfl,dv⟩:=h1.inv1
   cases dv
   exact qbO sd s σ H _ us Q I r ⟨z,rfl,Y7 hz,q _ H (Same.refl H) (.int _)⟩
  .cases e
 .exact J8 sd s σ H xs us Q I r ⟨S,ds,d,m,h1,e,q⟩
theorem qgN {k:Nat}(hr:Room k X.A):OpD X (sA .NotIn) qdq:=by
 intro sd s σ H x y v u Q I rx ry h
 obtain⟨S,dx,dy,d,m,h1,h2,e,q⟩:=h
 unfold qdq at e
 split at e
 .cases e
  cases h1
  cases h2
  exact qcq sd s σ H _ _ v u Q I rx ry ⟨_,_,rfl,rfl,q _ H (Same.refl H) (.bool _)⟩
 .exact WD hr sd s σ H x y v u Q I rx ry ⟨S,_,_,d,m,h1,h2,e,q⟩
theorem Zg:OpD X (sH .Add) Zm:=by
 intro sd s σ H x y v u Q I rx ry h
 obtain⟨S,dx,dy,d,m,h1,h2,e,q⟩:=h
 unfold Zm at e
 split at e
 .split at e
  .rename_i hz
   cases e
   cases h1
   cases h2
   exact qen sd s σ H _ _ v u Q I rx ry ⟨_,_,rfl,rfl,Y7 hz,q _ H (Same.refl H) (.str _)⟩
  .cases e
 .exact Qg sd s σ H x y v u Q I rx ry ⟨S,_,_,d,m,h1,h2,e,q⟩
theorem qjl {z:Str}{n:Int}(h:z.length<=1000/\-1000<=n/\n<=1000):MulOk z n:=by
 obtain⟨h1,h2,h3⟩:=h
 refine⟨?_,λh4 _=>?_,λh4 _=>?_⟩
 .rw[se '#',se '#'];rfl
 .intro h5
  have m:(z.length:Int)*n<=1000*1000:=Int.mul_le_mul '#' h3 '#' '%'
  have:=(Int.le_ediv_iff_mul_le (show 0<n by omega)).mpr (show(z.length:Int)*n<=2 ^ 63-1 by omega)
  omega
 .unfold Builtin.Str.tooLong sv
  have:z.length*n.toNat<=1000*1000:=Nat.mul_le_mul h1 '#'
  exact se '#'
theorem jZ:OpD X (sH .Mult) jg:=by
 intro sd s σ H x y v u Q I rx ry h
 obtain⟨S,dx,dy,d,m,h1,h2,e,q⟩:=h
 unfold jg at e
 split at e
 .split at e
  .rename_i hz
   cases e
   cases h1
   cases h2
   obtain⟨t,rfl⟩:=rx
   obtain⟨t',rfl⟩:=ry
   exact SB.mul (qjl hz) λt' k=>⟨.str _,H,I.kept λ_ _ e=>e,⟨_,rfl⟩,q _ H (Same.refl H) (.str _)⟩
  .cases e
 .exact jl sd s σ H x y v u Q I rx ry ⟨S,_,_,d,m,h1,h2,e,q⟩
end
theorem qik {ds:ae}{zs:aA}(e:Wo ds=bB zs):ds=zs.map .str:=by
 induction ds generalizing zs with
 |nil=>cases e;rfl
 |cons d ds ih =>
  cases d with
  |str z =>
   obtain⟨ys,e1,e⟩:=qe (show ob (Wo ds) (λzs=>bB (z::zs))=bB zs from e)
   cases e
   rw[ih e1];rfl
  |_=>cases e
theorem qdY {K:Kd}{H:Hp}{S:Av}:∀{vs:List V} {zs:aA},DenL K H S vs (zs.map .str)->vs=zs.map .str
 |[],[],_=>rfl
 |_::_,[],h=>by cases h
 |[],_::_,h=>by cases h
 |v::vs,z::zs,h=>by
  rw[Km]at h
  cases h with
  |cons a t=>cases a;rw[qdY t];rfl
theorem qbF:∀{zs:aA} {us:ar},Vals (zs.map .str) us->StrsAre us zs
 |[],[],_=>.nil
 |[],_::_,h=>by cases h
 |_::_,[],h=>by cases h
 |z::zs,u::us,h=>by
  rw[Km]at h
  cases h with
  |cons a t=>obtain⟨tk,rfl⟩:=a;exact .cons z tk (qbF t)
theorem qcY {K:Kd}{H:Hp}{S:Av}:∀(zs:aA),DenL K H S (zs.map .str) (zs.map .str)
 |[]=>.nil
 |z::zs=>.cons (.str z) (qcY zs)
theorem qbI:∀(zs:aA) (k:Nat),Vals (zs.map .str) (strsFrom k zs)
 |[],_=>.nil
 |z::zs,k=>.cons ⟨k,rfl⟩ (qbI zs (k+1))
section
variable {X:Cx}{M:ao}{a o:KI}{f:aa}
def rJoin (K:Kd):V->List V->Hp->VK->Prop:=λx xs H Q=>∃z l zs,x=.str z/\xs=[.ref l]/\SqL K H l (zs.map .str)/\(zs.map (·.length)).sum+zs.length*z.length<=100000/\Q (.str (NA z zs)) H
theorem qjk:MtR X "str.join" (rJoin X.K):=by
 intro sd s σ H x xs v us Q I rx rv h
 obtain⟨z,l,zs,rfl,rfl,hq,hz,q⟩:=h
 obtain⟨t,rfl⟩:=rx
 obtain⟨u,rfl,ru⟩:=rv.one
 cases(show u=KP l from ru)
 obtain⟨its,kz,pl,_⟩:=I.list hq
 exact PyProof.Rows.join_list (ys:=zs) pl.isList (by simpa using qbF kz) '#' λt' k=>⟨.str _,H,I.kept λ_ _ e=>e,⟨_,rfl⟩,q⟩
theorem Y9 {z:Str}{j:Nat}{p apos bG:Pos}(ha:PD X M a f)(bP:sM (.Constant (.str z) j p) "join" X.env (eval (.Constant (.str z) j p) X.env)=eval (.Constant (.str z) j p) X.env:=by rfl)
  (cz:((sG bG (sj [a] X.env)).all (λx=>!x.1)&&(tv bG (sT [] X.env)).all (λx=>x.1.isSome)
   && decide ([a].length+([]:List Ui).length+(if ([]:List Ui).isEmpty then 0 else 1)<30))=bD:=by rfl)
  (bQ:(apos.endLine==bG.line)=bD:=by rfl) (hs:sj [a] X.env=(bE,eval a X.env)::sj [] X.env:=by rfl) (bU:(sG bG (sj [] X.env)).any (·.1)=bE:=by rfl):
  PD X M (.Call (.Attribute (.Constant (.str z) j p) "join" apos) [a] [] bG) (ev1 f (Y4 z)) :=
 (qax Nq PySem.F.slot_str_join PySem.F.type_str_join qjk qhR (zy ha zZ hs) bP cz bQ hs bU).weak λσ H Q ⟨S,ρ,d,hs,e,q⟩=>by
  obtain⟨x,e1,e⟩:=qe e
  refine⟨rfl,S,ρ,[x],hs,by show ob (f ρ) _=_;rw[e1];rfl,λvs H2 g2 dl=>?_⟩
  obtain⟨v,rfl,dv⟩:=dl.inv1
  unfold Y4 at e
  split at e
  .rename_i ds
   obtain⟨zs,e2,e⟩:=qe e
   split at e
   .rename_i hz
    cases e
    have:=qik e2
    subst this
    obtain⟨l,ys,rfl,mv,t⟩:=dv.list_inv
    have:=qdY t
    subst this
    exact⟨z,l,zs,rfl,rfl,mv.sq,hz,q _ H2 g2 (.str _)⟩
   .cases e
  .cases e
def qlQ:V->List V->Hp->VK->Prop:=λx xs H Q=>∃z y,x=.str z/\xs=[.str y]/\(y.length==0)=bE/\z.length<=100000/\(Xi z y).length<=1000/\(Uo z (KM z y 0 z.length (z.length+1)) y.length).length<=1000/\∀p,H p=bC->Q (.ref p) (upd H p (.lst ((Xi z y).map .str)))
theorem qhy:MtR X "str.split" qlQ:=by
 intro sd s σ H x xs v us Q I rx rv h
 obtain⟨z,y,rfl,rfl,hy,hz,hn,oZ,q⟩:=h
 obtain⟨t,rfl⟩:=rx
 obtain⟨u,rfl,ru⟩:=rv.one
 obtain⟨t2,rfl⟩:=(show ∃t,u=XT y t from ru)
 have fr:H s.heap.objs.size=bC:=I.hok.fresh (Kp _)
 have fin:∀(zs:aA) (us:ar) (k:Nat),zs=Xi z y->Vals (zs.map .str) us->EP X sd σ Q (.ref s.heap.objs.size) { s with toks:=k,heap:=s.heap.push { cls:=.type "list", data:=.seq us.toArray } }:=λzs us k e vv=>by
  subst e
  have I2:=I.laid (t':=k) (o:=.lst ((Xi z y).map .str)) (h':=s.heap.push { cls:=.type "list", data:=.seq us.toArray }) (λb o e=>Kh _ e) (Kp _) ⟨by rw[Kc,Xe];omega,us,0,vv,Ks _ rfl⟩
  exact⟨.ref _,_,I2,rfl,q _ fr⟩
 have dG:Xi z y=if (decide (z.length<y.length)||decide (Ul z<Ul y))=bD then [z] else if (KM z y 0 z.length (z.length+1)).isEmpty=bD then [z] else Uo z (KM z y 0 z.length (z.length+1)) y.length:=rfl
 cases h1:(decide (z.length<y.length)||decide (Ul z<Ul y))
 .cases hf:(KM z y 0 z.length (z.length+1)).isEmpty
  .refine Nc XG (Ep _ _ _) Ni (Na _ _) (meets_str_split_sep z y t t2 h1 hy hf (Y7 hz) (Y7 '#')) ?_
   exact fin _ _ _ (by rw[dG,h1,hf];rfl) (qbI _ _)
  .refine Nc XG (Ep _ _ _) Ni (Na _ _) (meets_str_split_not_found z y t t2 h1 hy hf) ?_
   exact fin [z] [.str z t] s.toks (by rw[dG,h1,hf];rfl) (.cons ⟨t,rfl⟩ .nil)
 .refine Nc XG (Ep _ _ _) Ni (Na _ _) (meets_str_split_cannot_occur z y t t2 h1) ?_
  exact fin [z] [.str z t] s.toks (by rw[dG,h1];rfl) (.cons ⟨t,rfl⟩ .nil)
theorem qhX {y:Str}{j:Nat}{p apos bG:Pos}(ho:PD X M o f)(bP:sM o "split" X.env (eval o X.env)=eval o X.env:=by rfl)
  (cz:((sG bG (sj [.Constant (.str y) j p] X.env)).all (λx=>!x.1)&&(tv bG (sT [] X.env)).all (λx=>x.1.isSome)
   && decide ([Expr.Constant (.str y) j p].length+([]:List Ui).length+(if ([]:List Ui).isEmpty then 0 else 1)<30))=bD:=by rfl)
  (bQ:(apos.endLine==bG.line)=bD:=by rfl) (hs:sj [.Constant (.str y) j p] X.env=(bE,eval (.Constant (.str y) j p) X.env)::sj [] X.env:=by rfl) (bU:(sG bG (sj [] X.env)).any (·.1)=bE:=by rfl):
  PF X M (.Call (.Attribute o "split" apos) [.Constant (.str y) j p] [] bG) (ev1 f (qcH y)) :=
 (qax Nq XG PySem.F.type_str_split qhy ho (zy (M:=M) jM zZ hs) bP cz bQ hs bU).weak λσ H Q ⟨S,ρ,d,hs,e,q⟩=>by
  obtain⟨x,e1,e⟩:=qe e
  refine⟨S,ρ,x,hs,e1,λv H1 g1 d1=>?_⟩
  unfold qcH at e
  split at e
  .rename_i z
   split at e
   .rename_i hc
    cases e
    cases d1
    refine⟨rfl,S,ρ,[.str y],hs.same g1,rfl,λvs H2 g2 dl=>?_⟩
    obtain⟨w,rfl,dw⟩:=dl.inv1
    cases dw
    exact⟨z,y,rfl,rfl,hc.1,hc.2.1,hc.2.2.1,hc.2.2.2,λp hp=>q p _ ((g1.trans g2).lay' hp) ((g1.trans g2).free hp) (OwnO.laid hp (qcY _))⟩
   .cases e
  .cases e
theorem qcB {w x d:Ka}(e:wA w x=bB d):∃z y i r,w=.str z/\x=.str y/\KM z y 0 z.length 1=i::r/\d=.int (i:Nat):=by
 unfold wA at e
 split at e
 .split at e
  .rename_i h;cases e;exact⟨_,_,_,_,rfl,rfl,h,rfl⟩
  .cases e
 .cases e
def qjT:V->List V->Hp->VK->Prop:=λx xs H Q=>∃z y i r,x=.str z/\xs=[.str y]/\KM z y 0 z.length 1=i::r/\Q (.int (i:Nat)) H
theorem qf6:MtR X "str.index" qjT:=by
 intro sd s σ H x xs v us Q I rx rv h
 obtain⟨z,y,i,r,rfl,rfl,ho,q⟩:=h
 obtain⟨t,rfl⟩:=rx
 obtain⟨u,rfl,ru⟩:=rv.one
 obtain⟨t2,rfl⟩:=(show ∃t,u=XT y t from ru)
 exact SC.index ho ⟨.int _,H,I.tok _,⟨_,rfl⟩,q⟩
theorem qf8 {g:aa}{apos bG:Pos}(ho:PD X M o f)(ha:PD X M a g)(bP:sM o "index" X.env (eval o X.env)=eval o X.env:=by rfl)
  (cz:((sG bG (sj [a] X.env)).all (λx=>!x.1)&&(tv bG (sT [] X.env)).all (λx=>x.1.isSome)
   && decide ([a].length+([]:List Ui).length+(if ([]:List Ui).isEmpty then 0 else 1)<30))=bD:=by rfl)
  (bQ:(apos.endLine==bG.line)=bD:=by rfl) (hs:sj [a] X.env=(bE,eval a X.env)::sj [] X.env:=by rfl) (bU:(sG bG (sj [] X.env)).any (·.1)=bE:=by rfl):
  PD X M (.Call (.Attribute o "index" apos) [a] [] bG) (ev2 f g wA) :=
 (qax Nq PySem.F.slot_str_index PySem.F.type_str_index qf6 ho (zy ha zZ hs) bP cz bQ hs bU).weak λσ H Q ⟨S,ρ,d,hs,e,q⟩=>by
  obtain⟨x,e1,e⟩:=qe e
  obtain⟨y,e2,e⟩:=qe e
  refine⟨S,ρ,x,hs,e1,λv H1 g1 d1=>?_⟩
  obtain⟨z,y,i,r,rfl,rfl,ho,rfl⟩:=qcB e
  cases d1
  refine⟨rfl,S,ρ,[.str y],hs.same g1,by show ob (g ρ) _=_;rw[e2];rfl,λvs H2 g2 dl=>?_⟩
  obtain⟨w,rfl,dw⟩:=dl.inv1
  cases dw
  exact⟨z,y,i,r,rfl,rfl,ho,q _ H2 (g1.trans g2) (.int _)⟩
end
end L2
namespace L2
open PySem PySem.W PyProof.Rows
theorem jA {α β:Type}{lt:bp}{f:α->KasT β}:∀(t:KasT α),runC lt (t.bind f)=ob (runC lt t) λa=>runC lt (f a)
 |.ret _=>rfl
 |.ask i j k=>by
  show ob (lt i j) (λb=>runC lt ((k b).bind f))=ob (ob (lt i j) λb=>runC lt (k b)) _
  cases lt i j with
  |none=>rfl
  |some b=>exact jA (k b)
structure IOrd (n:Nat)(lt:bp)(blt:aK):Prop where
 ask:∀i j,i<n->j<n->lt i j=bB (blt i j)
 irr:∀i,blt i i=bE
 tr:∀i j k,blt i j=bD->blt j k=bD->blt i k=bD
 neg:∀i j k,blt i k=bD->blt i j=bD\/blt j k=bD
def gp (p:aX)(i:Nat):Nat:=p.getD i 0
def QG (n:Nat)(p:aX):Prop:=p.toList.Perm (Ku n)
def UpTo (blt:aK)(p:aX)(m:Nat):Prop:=∀i j,i<=j->j<m->blt (gp p j) (gp p i)=bE
section
variable {n:Nat}{lt:bp}{blt:aK}{p:aX}
theorem QG.size (h:QG n p):p.size=n:=by
 have:=h.length_eq
 rw[Vh,KR]at this
 exact this
theorem QG.inb (h:QG n p)(hi:i<n):gp p i<n:=by
 have hs:=h.size
 have e:gp p i=p[i]''#':=by simp [gp,Array.getD,hs,hi]
 have hm:p[i]''#'∈p.toList:=by simp
 have:=h.mem_iff.mp hm
 rw[e]
 exact VX.mp this
theorem qdb (h:q[i]?=p[j]?):gp q i=gp p j:=by
 unfold gp
 simp only[Array.getD_eq_getD_getElem?,h]
theorem IOrd.le_tr (O:IOrd n lt blt)(h1:blt b a=bE)(h2:blt c b=bE):blt c a=bE:=by
 cases h:blt c a with
 |false=>rfl
 |true =>
  rcases O.neg c b a h with z|z
  .rw[h2]at z;cases z
  .rw[h1]at z;cases z
theorem IOrd.asym (O:IOrd n lt blt)(h:blt a b=bD):blt b a=bE:=by
 cases z:blt b a with
 |false=>rfl
 |true =>
  have:=O.tr a b a h z
  rw[O.irr]at this
  cases this
theorem qgh (O:IOrd n lt blt)(hp:QG n p)(hk:k<n)(hs:UpTo blt p k):∀(f l r:Nat),r-l<=f->l<=r->r<=k->(∀i,i<l->blt (gp p k) (gp p i)=bE)->(∀i,r<=i->i<k->blt (gp p k) (gp p i)=bD)->
  ∃m,runC lt (kas_place p k f l r)=bB m/\m<=k/\(∀i,i<m->blt (gp p k) (gp p i)=bE)/\(∀i,m<=i->i<k->blt (gp p k) (gp p i)=bD):=by
 intro f
 induction f with
 |zero =>
  intro l r h1 h2 h3 h4 h5
  exact⟨l,rfl,by omega,h4,λi hi kD=>h5 i '#' kD⟩
 |succ f ih =>
  intro l r h1 h2 h3 h4 h5
  unfold kas_place
  by_cases pw:l >= r
  .rw[si pw]
   exact⟨l,rfl,by omega,h4,λi hi kD=>h5 i '#' kD⟩
  .rw[sk pw]
   have hm:(l+r) / 2<k:=by omega
   have ea:=O.ask (gp p k) (gp p ((l+r) / 2)) (hp.inb hk) (hp.inb '#')
   show ∃m,ob (lt (gp p k) (gp p ((l+r) / 2))) (λc=>runC lt (if c=bD then kas_place p k f l ((l+r) / 2) else kas_place p k f ((l+r) / 2+1) r))=bB m/\_
   rw[ea]
   cases hb:blt (gp p k) (gp p ((l+r) / 2)) with
   |true =>
    refine ih l ((l+r) / 2) '#' '#' '#' h4 λi hi kD=>?_
    cases z:blt (gp p k) (gp p i) with
    |true=>rfl
    |false =>
     have:=hs ((l+r) / 2) i hi kD
     have q:=O.le_tr this z
     rw[hb]at q
     cases q
   |false =>
    refine ih ((l+r) / 2+1) r '#' '#' h3 (λi hi=>?_) h5
    exact O.le_tr (hs i ((l+r) / 2) '#' hm) hb
theorem qdB {q:aX}(h:QG n p)(hq:q.Perm p):QG n q:=(Array.perm_iff_toList_perm.mp hq).trans h
theorem qbc (hk:k<p.size)(hm:m<=k)(i:Nat):gp (bubble p k (k-m)) i=if i=m then gp p k else if m<i/\i<=k then gp p (i-1) else gp p i:=by
 have e:=getElem?_bubble hk (k-m) '#' i
 have hkm:k-(k-m)=m:=by omega
 rw[hkm]at e
 by_cases h1:i=m
 .rw[si h1]at e ⊢;exact qdb e
 .rw[sk h1]at e ⊢
  by_cases h2:m<i/\i<=k
  .rw[si h2]at e ⊢;exact qdb e
  .rw[sk h2]at e ⊢;exact qdb e
theorem j6 (hj:j<=p.size)(k:Nat):gp (Xq p i j) k=if i<=k/\k<j then gp p (i+j-1-k) else gp p k:=by
 have e:=getElem?_mirror_all (i:=i) hj k
 unfold Xq
 by_cases h1:i<=k/\k<j
 .rw[si h1]at e ⊢;exact qdb e
 .rw[sk h1]at e ⊢;exact qdb e
theorem Jx (h:QG n p)(i j:Nat):QG n (Xq p i j):=qdB h (mirror_perm _ _ _ _)
theorem qiD (O:IOrd n lt blt):∀(f:Nat) (p:aX) (k:Nat),QG n p->UpTo blt p k->k+f=n->∃p',runC lt (kas_bin f p k)=bB p'/\QG n p'/\UpTo blt p' n:=by
 intro f
 induction f with
 |zero=>exact λp k hp hs e=>⟨p,rfl,hp,by rw[←e];exact hs⟩
 |succ f ih =>
  intro p k hp hs e
  have hk:k<n:=by omega
  obtain⟨m,e1,h1,h2,h3⟩:=qgh O hp hk hs k 0 k '#' '#' '#' (λi hi=>by omega) (λi hi kD=>by omega)
  have hz:=hp.size
  obtain⟨p',e2,h4,h5⟩:=ih (bubble p k (k-m)) (k+1) (qdB hp (bubble_perm _ _ _)) (λi j bY hj=>by
   rw[qbc '#' h1,qbc '#' h1]
   by_cases a1:j=m
   .rw[si a1]
    by_cases a2:i=m
    .rw[si a2];exact O.irr _
    .rw[sk a2,sk '#']
     exact h2 i '#'
   .rw[sk a1]
    by_cases a3:m<j/\j<=k
    .rw[si a3]
     by_cases a2:i=m
     .rw[si a2]
      exact O.asym (h3 (j-1) '#' '#')
     .rw[sk a2]
      by_cases a4:m<i/\i<=k
      .rw[si a4]
       exact hs (i-1) (j-1) '#' '#'
      .rw[sk a4]
       exact hs i (j-1) '#' '#'
    .rw[sk a3,sk '#',sk '#']
     exact hs i j bY '#') '#'
  refine⟨p',?_,h4,h5⟩
  unfold kas_bin
  rw[jA,e1]
  exact e2
theorem qeJ (O:IOrd n lt blt)(hp:QG n p):∀(f m:Nat),1<=m->m+f<=n->UpTo blt p m->∃m',runC lt (kas_asc p f m)=bB m'/\m<=m'/\m'<=m+f/\UpTo blt p m'/\(m'<m+f->blt (gp p m') (gp p (m'-1))=bD):=by
 intro f
 induction f with
 |zero=>exact λm h1 h2 hs=>⟨m,rfl,by omega,by omega,hs,λz=>by omega⟩
 |succ f ih =>
  intro m h1 h2 hs
  have ea:=O.ask (gp p m) (gp p (m-1)) (hp.inb '#') (hp.inb '#')
  unfold kas_asc
  show ∃m',ob (lt (gp p m) (gp p (m-1))) (λc=>runC lt (if c=bD then .ret m else kas_asc p f (m+1)))=bB m'/\_
  rw[ea]
  cases hb:blt (gp p m) (gp p (m-1)) with
  |true=>exact⟨m,rfl,by omega,by omega,hs,λ_=>hb⟩
  |false =>
   obtain⟨m',e1,h3,h4,h5,h6⟩:=ih (m+1) '#' '#' (λi j bY hj=>by
    by_cases gG:j=m
    .subst gG
     by_cases hi:i=j
     .subst hi;exact O.irr _
     .exact O.le_tr (hs i (j-1) '#' '#') hb
    .exact hs i j bY '#')
   exact⟨m',e1,by omega,by omega,h5,λz=>h6 '#'⟩
def wD (blt:aK)(p:aX)(m:Nat):Prop:=∀i j,i<=j->j<m->blt (gp p i) (gp p j)=bE
def qgr (blt:aK)(p:aX)(a b:Nat):Prop:=∀i j,a<=i->i<b->a<=j->j<b->blt (gp p i) (gp p j)=bE
theorem qc1 (hp:QG n p)(hm:m<=n)(ha:a<=m)(hd:wD blt p m)(hs:qgr blt p a m):wD blt (Xq p a m) m/\∀i,i<m->∃i',i'<m/\gp (Xq p a m) i=gp p i':=by
 have hz:=hp.size
 refine⟨λi j bY hj=>?_,λi hi=>?_⟩
 .rw[j6 '#',j6 '#']
  by_cases h1:a<=i/\i<m
  .rw[si h1,si '#']
   exact hs _ _ '#' '#' '#' '#'
  .rw[sk h1]
   by_cases h2:a<=j/\j<m
   .rw[si h2];exact hd _ _ '#' '#'
   .rw[sk h2];exact hd _ _ bY hj
 .rw[j6 '#']
  by_cases h1:a<=i/\i<m
  .rw[si h1];exact⟨_,by omega,rfl⟩
  .rw[sk h1];exact⟨i,hi,rfl⟩
theorem qgO (O:IOrd n lt blt):∀(f:Nat) (p:aX) (m q:Nat),QG n p->m+f<=n->q+1<=m->wD blt p m->qgr blt p (m-(q+1)) m->
  ∃p' m' q',runC lt (NB f p m q)=bB (p',m',q')/\QG n p'/\m<=m'/\m'<=m+f/\q'+1<=m'/\wD blt p' m'/\qgr blt p' (m'-(q'+1)) m':=by
 intro f
 induction f with
 |zero=>exact λp m q hp _ hq hd hs=>⟨p,m,q,rfl,hp,by omega,by omega,hq,hd,hs⟩
 |succ f ih =>
  intro p m q hp hm hq hd hs
  have hz:=hp.size
  have e1:=O.ask (gp p m) (gp p (m-1)) (hp.inb '#') (hp.inb '#')
  have e2:=O.ask (gp p (m-1)) (gp p m) (hp.inb '#') (hp.inb '#')
  unfold NB
  show ∃p' m' q',ob (lt (gp p m) (gp p (m-1))) (λc=>runC lt (if c=bD then (if q > 0 then NB f (Xq p (m-(q+1)) m) (m+1) 0 else NB f p (m+1) 0)
   else .ask (p.getD (m-1) 0) (p.getD m 0) λd=>if d=bD then .ret (p,m,q) else NB f p (m+1) (q+1)))=bB (p',m',q')/\_
  rw[e1]
  cases hb:blt (gp p m) (gp p (m-1)) with
  |true =>
   have below:∀i,i<m->blt (gp p i) (gp p m)=bE:=λi hi=>O.le_tr (O.asym hb) (hd i (m-1) '#' '#')
   show ∃p' m' q',runC lt (if q > 0 then NB f (Xq p (m-(q+1)) m) (m+1) 0 else NB f p (m+1) 0)=bB (p',m',q')/\_
   by_cases pz:q > 0
   .rw[si pz]
    obtain⟨d1,d2⟩:=qc1 (blt:=blt) hp (m:=m) (a:=m-(q+1)) '#' '#' hd hs
    have gm:gp (Xq p (m-(q+1)) m) m=gp p m:=by rw[j6 '#',sk '#']
    obtain⟨p',m',q',r1,r2,r3,r4,r5,r6,r7⟩:=ih (Xq p (m-(q+1)) m) (m+1) 0 (Jx hp _ _) '#' '#' (λi j bY hj=>by
     by_cases gG:j=m
     .subst gG
      by_cases hi:i=j
      .subst hi;exact O.irr _
      .obtain⟨i',dm,ei⟩:=d2 i '#'
       rw[ei,gm]
       exact below i' dm
     .exact d1 i j bY '#') (λi j h1 h2 h3 h4=>by
      have:i=m:=by omega
      have:j=m:=by omega
      subst i;subst j;exact O.irr _)
    exact⟨p',m',q',r1,r2,by omega,by omega,r5,r6,r7⟩
   .rw[sk pz]
    obtain⟨p',m',q',r1,r2,r3,r4,r5,r6,r7⟩:=ih p (m+1) 0 hp '#' '#' (λi j bY hj=>by
     by_cases gG:j=m
     .subst gG
      by_cases hi:i=j
      .subst hi;exact O.irr _
      .exact below i '#'
     .exact hd i j bY '#') (λi j h1 h2 h3 h4=>by
      have:i=m:=by omega
      have:j=m:=by omega
      subst i;subst j;exact O.irr _)
    exact⟨p',m',q',r1,r2,by omega,by omega,r5,r6,r7⟩
  |false =>
   show ∃p' m' q',ob (lt (gp p (m-1)) (gp p m)) (λd=>runC lt (if d=bD then .ret (p,m,q) else NB f p (m+1) (q+1)))=bB (p',m',q')/\_
   rw[e2]
   cases hd2:blt (gp p (m-1)) (gp p m) with
   |true=>exact⟨p,m,q,rfl,hp,by omega,by omega,hq,hd,hs⟩
   |false =>
    obtain⟨p',m',q',r1,r2,r3,r4,r5,r6,r7⟩:=ih p (m+1) (q+1) hp '#' '#' (λi j bY hj=>by
     by_cases gG:j=m
     .subst gG
      by_cases hi:i=j
      .subst hi;exact O.irr _
      .exact O.le_tr hd2 (hd i (j-1) '#' '#')
     .exact hd i j bY '#') (λi j h1 h2 h3 h4=>by
      have s1:∀i,m-(q+1)<=i->i<m->blt (gp p i) (gp p m)=bE/\blt (gp p m) (gp p i)=bE:=λi a b =>
       ⟨O.le_tr hd2 (hs i (m-1) a b '#' '#'),O.le_tr (hs (m-1) i '#' '#' a b) hb⟩
      by_cases hi:i=m
      .subst hi
       by_cases hj:j=i
       .subst hj;exact O.irr _
       .exact(s1 j '#' '#').2
      .by_cases hj:j=m
       .subst hj;exact(s1 i '#' '#').1
       .exact hs i j '#' '#' '#' '#')
    exact⟨p',m',q',r1,r2,by omega,by omega,r5,r6,r7⟩
theorem qbH (O:IOrd n lt blt)(hp:QG n p){m:Nat}(h1:1<=m)(h2:m<=n)(hd:wD blt p m):∃m' p',runC lt (kas_tail3 m n p)=bB (m',p')/\QG n p'/\1<=m'/\m'<=n/\UpTo blt p' m':=by
 have hz:=hp.size
 obtain⟨m',e1,h3,h4,h5,_⟩:=qeJ O (Jx hp 0 m) (n-m) m h1 '#' (λi j bY hj=>by
  rw[j6 '#',j6 '#',si '#',si '#']
  exact hd _ _ '#' '#')
 refine⟨m',Xq p 0 m,?_,Jx hp 0 m,by omega,by omega,h5⟩
 unfold kas_tail3
 rw[jA,e1]
 rfl
theorem YT (O:IOrd n lt blt)(hp:QG n p){k:Nat}(h2:k+1<=n)(hd:wD blt p (k+1)):∃m' p',runC lt (NY k n p)=bB (m',p')/\QG n p'/\1<=m'/\m'<=n/\UpTo blt p' m':=by
 obtain⟨p1,m1,q1,e1,r2,r3,r4,r5,r6,r7⟩:=qgO O (n-(k+1)) p (k+1) 0 hp '#' '#' hd (λi j a1 a2 a3 a4=>by
  have:i=k:=by omega
  have:j=k:=by omega
  subst i;subst j;exact O.irr _)
 unfold NY
 rw[jA,e1]
 show ∃m' p',runC lt (if q1 > 0 then kas_tail3 m1 n (Xq p1 (m1-(q1+1)) m1) else kas_tail3 m1 n p1)=bB (m',p')/\_
 by_cases hq:q1 > 0
 .rw[si hq]
  exact qbH O (Jx r2 _ _) '#' '#' (qc1 r2 '#' '#' r6 r7).1
 .rw[sk hq]
  exact qbH O r2 '#' '#' r6
theorem qfJ (O:IOrd n lt blt)(hp:QG n p)(hn:1<=n):∃m' p',runC lt (kas_count n p)=bB (m',p')/\QG n p'/\1<=m'/\m'<=n/\UpTo blt p' m':=by
 have hz:=hp.size
 obtain⟨m,e1,h3,h4,h5,h6⟩:=qeJ O hp (n-1) 1 '#' '#' (λi j bY hj=>by
  have:i=0:=by omega
  have:j=0:=by omega
  subst i;subst j;exact O.irr _)
 unfold kas_count
 rw[jA,e1]
 show ∃m' p',runC lt (if (m==n)=bD then .ret (m,p) else if m > 1 then .ask (p.getD 0 0) (p.getD (m-1) 0) λc=>if c=bD then .ret (m,p) else NY m n (Xq p 0 m) else NY m n p)=bB (m',p')/\_
 by_cases pA:m=n
 .rw[si (by simpa using pA)]
  exact⟨m,p,rfl,hp,by omega,by omega,h5⟩
 .rw[sk (by simpa using pA)]
  have hb:=h6 '#'
  by_cases pB:m > 1
  .rw[si pB]
   have ea:=O.ask (gp p 0) (gp p (m-1)) (hp.inb '#') (hp.inb '#')
   show ∃m' p',ob (lt (gp p 0) (gp p (m-1))) (λc=>runC lt (if c=bD then .ret (m,p) else NY m n (Xq p 0 m)))=bB (m',p')/\_
   rw[ea]
   cases hc:blt (gp p 0) (gp p (m-1)) with
   |true=>exact⟨m,p,rfl,hp,by omega,by omega,h5⟩
   |false =>
    refine YT O (Jx hp 0 m) '#' (λi j bY hj=>?_)
    by_cases gG:j=m
    .by_cases hi:i=j
     .rw[hi];exact O.irr _
     .rw[j6 '#',j6 '#',si '#',sk '#',gG]
      exact O.le_tr (O.asym hb) (O.le_tr hc (h5 0 (0+m-1-i) '#' '#'))
    .rw[j6 '#',j6 '#',si '#',si '#']
     exact h5 _ _ '#' '#'
  .rw[sk pB]
   have hm:m=1:=by omega
   subst hm
   refine YT O hp '#' (λi j bY hj=>?_)
   by_cases hi:i=j
   .rw[hi];exact O.irr _
   .have e0:i=0:=by omega
    have ej:j=1:=by omega
    rw[e0,ej]
    exact O.asym hb
theorem qij (O:IOrd n lt blt)(hn:1<=n):∃p',runC lt (EF n)=bB p'/\QG n p'/\UpTo blt p' n:=by
 obtain⟨m,p,e1,h1,h2,h3,h4⟩:=qfJ O (p:=(Ku n).toArray) (show QG n _ from by unfold QG;exact List.Perm.refl _) hn
 unfold EF
 rw[jA,e1]
 show ∃p',runC lt (if m<n then kas_bin (n-max m 1) p (max m 1) else .ret p)=bB p'/\_
 have nZ:max m 1=m:=by omega
 by_cases hm:m<n
 .rw[si hm,nZ]
  exact qiD O (n-m) p m h1 h4 '#'
 .rw[sk hm]
  have:m=n:=by omega
  subst this
  exact⟨p,rfl,h1,h4⟩
end
def tI (ns:aF):Ka:=.tuple (ns.map .int)
theorem qbi:∀xs:List Int,HT.lexLt xs xs=bE
 |[]=>rfl
 |x::xs=>by rw[HT.ZZ,si rfl];exact qbi xs
theorem qdn:∀xs ys zs:List Int,HT.lexLt xs ys=bD->HT.lexLt ys zs=bD->HT.lexLt xs zs=bD
 |[],[],_,h,_=>by cases h
 |[],_::_,[],_,h=>by cases h
 |[],_::_,_::_,_,_=>rfl
 |_::_,[],_,h,_=>by cases h
 |_::_,_::_,[],_,h=>by cases h
 |x::xs,y::ys,z::zs,h1,h2=>by
  rw[HT.ZZ]at h1 h2 ⊢
  by_cases e1:x=y
  .rw[si e1]at h1
   by_cases e2:y=z
   .rw[si e2]at h2
    rw[si (e1.trans e2)]
    exact qdn xs ys zs h1 h2
   .rw[sk e2]at h2
    rw[sk (by rw[e1];exact e2),e1]
    exact h2
  .rw[sk e1]at h1
   have iC:=sx h1
   by_cases e2:y=z
   .rw[sk (by rw[←e2];exact e1),←e2]
    exact h1
   .rw[sk e2]at h2
    have l8:=sx h2
    rw[sk '#']
    exact sh '#'
theorem qbj:∀xs ys zs:List Int,HT.lexLt xs zs=bD->HT.lexLt xs ys=bD\/HT.lexLt ys zs=bD
 |[],[],zs,h=>.inr h
 |[],_::_,_,_=>.inl rfl
 |_::_,_,[],h=>by cases h
 |_::_,[],_::_,_=>.inr rfl
 |x::xs,y::ys,z::zs,h=>by
  rw[HT.ZZ]at h ⊢
  rw[HT.ZZ]
  by_cases e1:x=z
  .rw[si e1]at h
   subst e1
   by_cases e2:x=y
   .subst e2
    rw[si rfl,si rfl]
    exact qbj xs ys zs h
   .rw[sk e2,sk (λz=>e2 z.symm)]
    by_cases hl:x<y
    .exact .inl (sh hl)
    .exact .inr (sh '#')
  .rw[sk e1]at h
   have h':=sx h
   by_cases e2:x=y
   .subst e2
    rw[sk e1]
    exact .inr h
   .rw[sk e2]
    by_cases hl:x<y
    .exact .inl (sh hl)
    .right
     rw[sk '#']
     exact sh '#'
theorem qbk:∀xs ys:List Int,HT.lexLt xs ys=bE->HT.lexLt ys xs=bE->xs=ys
 |[],[],_,_=>rfl
 |[],_::_,h,_=>by cases h
 |_::_,[],_,h=>by cases h
 |x::xs,y::ys,h1,h2=>by
  rw[HT.ZZ]at h1 h2
  by_cases e:x=y
  .subst e
   rw[si rfl]at h1 h2
   rw[qbk xs ys h1 h2]
  .rw[sk e]at h1
   rw[sk (λz=>e z.symm)]at h2
   have a1:=of_decide_eq_false h1
   have a2:=of_decide_eq_false h2
   omega
theorem qbo:∀xs ys:List Int,ltXs (xs.map .int) (ys.map .int)=bB (HT.lexLt xs ys)
 |[],[]=>by rw[V9,ltXs];rfl
 |[],_::_=>by rw[V9,Km,ltXs];rfl
 |_::_,[]=>by rw[V9,Km,ltXs];rfl
 |x::xs,y::ys=>by
  rw[Km,Km,ltXs,HT.ZZ]
  have e:KC (.int x) (.int y)=(x==y):=rfl
  rw[e]
  by_cases h:x=y
  .rw[si (by simpa using h),si h]
   exact qbo xs ys
  .rw[sk (by simpa using h),sk h,ltX]
theorem qho (xs ys:aF):ltX (tI xs) (tI ys)=bB (HT.lexLt xs ys):=by
 unfold tI
 rw[ltX]
 exact qbo xs ys
theorem qaz {α:Type}(xs:List α)(d:α):(Ku xs.length).map (λi=>xs.getD i d)=xs:=by
 apply List.ext_getElem
 .simp
 .intro i h1 h2
  simp [Ue,h2]
theorem qdV {tI:List Int->Ka}{nss:aJ}(bK:∀a∈nss,∀b∈nss,ltX (tI a) (tI b)=bB (HT.lexLt a b))(hok:jk 0 (nss.map tI)=bD\/jk 1 (nss.map tI)=bD):∃dJ:List (List Int),Qq [.list (nss.map tI)]=bB (.list (dJ.map tI))/\dJ.Perm nss/\dJ.Pairwise (λa b=>HT.lexLt b a=bE):=by
 have hn:2<=nss.length/\nss.length<64:=by
  unfold jk at hok
  simp only[KF,sO,Kc]at hok
  exact hok.elim (λh=>⟨h.2.1,h.2.2.1⟩) λh=>⟨h.2.1,h.2.2.1⟩
 have O:IOrd nss.length (qdp (nss.map tI)) (λi j=>HT.lexLt (nss.getD i []) (nss.getD j [])):=by
  refine⟨λi j hi hj=>?_,λi=>qbi _,λi j k=>qdn _ _ _,λi j k=>qbj _ _ _⟩
  unfold qdp
  rw[KJ,KJ,Kj hi,Kj hj]
  show ltX (tI nss[i]) (tI nss[j])=_
  rw[bK _ (VF hi) _ (VF hj),getD_some (Kj hi),getD_some (Kj hj)]
 obtain⟨p,e1,hp,hs⟩:=qij O '#'
 have cR:∀i∈p.toList,i<nss.length:=λi hi=>VX.mp (hp.mem_iff.mp hi)
 refine⟨p.toList.map λi=>nss.getD i [],?_,?_,?_⟩
 .show(if (nss.map tI).length<2 then bB (UI (nss.map tI)) else if jk 0 (nss.map tI)=bD\/jk 1 (nss.map tI)=bD then ob (runC (qdp (nss.map tI)) (EF (nss.map tI).length)) λp=>qdD (nss.map tI) p else bC)=_
  rw[sk (by rw[Kc];omega),si hok,Kc,e1]
  show qdD (nss.map tI) p=_
  unfold qdD
  rw[si ⟨KN.mpr λi hi=>by rw[Kc];exact sh (cR i hi),by rw[Vh,hp.size];omega⟩]
  congr 2
  rw[Kx]
  refine Vm λi hi=>?_
  have dm:=cR i hi
  show(nss.map tI).getD i .none=tI (nss.getD i [])
  rw[getD_some (show(nss.map tI)[i]?=bB (tI nss[i]) from by rw[KJ,Kj dm];rfl),getD_some (Kj dm)]
 .have:=hp.map (λi=>nss.getD i [])
  rw[qaz]at this
  exact this
 .rw[List.pairwise_map,Es]
  intro i j hi hj bY
  have hsz:=hp.size
  rw[Vh]at hi hj
  have:=hs i j '#' '#'
  have g1:gp p i=p.toList[i]'(by rw[Vh];exact hi):=by simp [gp,Array.getD,hi]
  have g2:gp p j=p.toList[j]'(by rw[Vh];exact hj):=by simp [gp,Array.getD,hj]
  rw[g1,g2]at this
  exact this
theorem qcD {nss:aJ}(hok:jk 0 (nss.map tI)=bD):∃dJ:List (List Int),Qq [.list (nss.map tI)]=bB (.list (dJ.map tI))/\dJ.Perm nss/\dJ.Pairwise (λa b=>HT.lexLt b a=bE):=qdV (λa _ b _=>qho a b) (.inl hok)
theorem qcS:∀ns:List Int,Kq (ns.map .int)=bD/\KB (ns.map .int)=0
 |[]=>⟨rfl,rfl⟩
 |n::ns=>by
  obtain⟨h1,h2⟩:=qcS ns
  rw[Km]
  exact⟨by simp [Kq,KU,h1],by simp [KB,UN,h2]⟩
theorem W5:∀nss:List (List Int),Kq (nss.map tI)=bD/\KB (nss.map tI)<=1
 |[]=>⟨rfl,Vr _⟩
 |ns::nss=>by
  obtain⟨h1,h2⟩:=W5 nss
  obtain⟨h3,h4⟩:=qcS ns
  rw[Km]
  refine⟨by simp [Kq,tI,KU,h1,h3],?_⟩
  rw[KB,show(tI ns).depth=1 from by simp [tI,UN,h4]]
  omega
theorem qdU {nss:aJ}(h2:2<=nss.length)(iJ:nss.length<64)(eQ:∀ns∈nss,ns≠[]):jk 0 (nss.map tI)=bD:=by
 obtain⟨h3,h4⟩:=W5 nss
 unfold jk
 simp only[KF,sO,Kc]
 refine⟨KN.mpr λd hd=>?_,h2,iJ,h3,by omega⟩
 obtain⟨ns,hn,rfl⟩:=Kl.mp hd
 cases ns with
 |nil=>exact absurd rfl (eQ [] hn)
 |cons n ns=>rfl
theorem wB {nss:aJ}(iJ:nss.length<64)(eQ:∀ns∈nss,ns≠[]):∃dJ:List (List Int),Qq [.list (nss.map tI)]=bB (.list (dJ.map tI))/\dJ.Perm nss/\dJ.Pairwise (λa b=>HT.lexLt b a=bE):=by
 by_cases h2:2<=nss.length
 .exact qcD (qdU h2 iJ eQ)
 .refine⟨nss,?_,List.Perm.refl _,?_⟩
  .show(if (nss.map tI).length<2 then bB (UI (nss.map tI)) else _)=_
   rw[si (by rw[Kc];omega)]
  .match nss,h2 with
   |[],_=>exact .nil
   |[a],_=>exact .cons (λ_ z=>nomatch z) .nil
   |_::_::_,h2=>exact absurd '+' h2
theorem Jc:∀{as bs:aJ},as.Perm bs->as.Pairwise (λa b=>HT.lexLt b a=bE)->bs.Pairwise (λa b=>HT.lexLt b a=bE)->as=bs
 |[],bs,h,_,_=>(List.nil_perm.mp h).symm
 |a::as,[],h,_,_=>absurd h '+'
 |a::as,b::bs,h,h1,h2=>by
  rw[List.pairwise_cons]at h1 h2
  have e:a=b:=by
   have ma:a∈b::bs:=h.mem_iff.mp (.head _)
   have mb:b∈a::as:=h.mem_iff.mpr (.head _)
   rcases Ko.mp ma with z|z
   .exact z
   .rcases Ko.mp mb with y|y
    .exact y.symm
    .exact qbk a b (h2.1 a z) (h1.1 b y)
  subst e
  rw[Jc h.cons_inv h1.2 h2.2]
end L2
namespace SF
open PySem L2
variable (P:KO)(w:K0){K:Kd}{mg:aq}(base:K4){f:Kg}{fd:VW}
noncomputable def top (i:Nat):Ve:=PySem.Challenge.pw_sheetfold_k08_whole_drawn_and_seen.main.body.getD i (.Pass ⟨0,0,0,0⟩)
noncomputable def Wy:Ka:=(.tuple [(.int (-1)),(.int (0)),(.int (1))])
noncomputable def Wz:Ka:=(.tuple [(.tuple [(.int (1)),(.int (0))]),(.tuple [(.int (0)),(.int (1))]),(.tuple [(.int (-1)),(.int (0))]),(.tuple [(.int (0)),(.int (-1))])])
def ZV:Ka:=(.str ".")
def qbQ:Ka:=(.int (61))
noncomputable def jR:Ka:=(.str "v+^")
noncomputable def JG:Ka:=(.str "#")
def jq:Ka:=(.int (26))
abbrev Tq9:Ve:=top 5
noncomputable abbrev yX:List Str:=["things", "ordered", "one", "other"]
theorem zf:ScOk yX ["things"] ["sorted", "zip"] (qj Tq9):=scmk ','
abbrev J7:Rho->Option Out:=(sIf (tV (ev2 (vr 2) (vr 3) eqD)) (sRet (vr 2)) sN)
def Jf:Rho->Option Out:=(seqO (sSet 1 (evA (aC (vr 0) aN) Qq)) (seqO (sFor (evI2 (vr 1) (evS (vr 1) (oS (kd (.int 1))) oN) zipD) (unpD 2 (gsC (gNm 2) (gsC (gNm 3) gsN))) J7) (sRet (kd .none))))
def Zd (ds:ae):Option Ka:=ob (Jf (rho0 yX.length ds)) outD
theorem qaT (F:Fun K "least_twice" "least_twice" Tq9 f fd)(m:mg "least_twice" = bB (.ref f))(b:Binds K fd ["things"] [])(z_sorted:mg "sorted" = bC)(z_zip:mg "zip" = bC):Known P w K mg base "least_twice" 1 1 Zd:=by
 refine⟨f,fd,["things"],F.pure (k:=0) (u:=Jf) (M':=[]) zf.fs rfl '&',m,F.kp,b⟩
 refine qg (M1:=[]) ?_ (qg (M1:=[]) (QH K9 rfl (qjB (zf.gl 1 rfl rfl) z_zip (pd_v zf 1) (qdw (pd_v zf 1) (qdz qd) qdy)) (λ_=>Z7 rfl (zg (zN zf 2) (zg (zN zf 3) Ze))) (λ_=>ql (zu (zb (d_eq hr) (pd_v zf 2) (pd_v zf 3) (zK _)) (ql (qD (pd_v zf 2))) qZ))) (ql (qD qav)))
 refine qI 1 ?_ ?_ ?_ ?_ ?_ ?_ (jL (yD (yz hr) (zf.gl 0 rfl rfl) z_sorted Zt (pda1 (pd_v zf 0))))
 .exact zf.fs.nd
 .exact(zf.loc 1 rfl)
 .rfl
 .rfl
 .exact .inl rfl
 .decide
abbrev Tq15:Ve:=top 6
abbrev Zr:List Str:=["things"]
theorem jo:ScOk Zr ["things"] ["enumerate", "dict"] (qj Tq15):=scmk ','
def JX:Rho->Option Out:=(sRet (evA (aC (Q8 1 2 (evI (vr 0) qc3) (unpD 2 (gsC (gNm 1) (gsC (gNm 2) gsN))) tT (evA (aC (vr 2) (aC (vr 1) aN)) tupD)) aN) qbR))
def Zw (ds:ae):Option Ka:=ob (JX (rho0 Zr.length ds)) outD
theorem qcb (F:Fun K "numbers_of" "numbers_of" Tq15 f fd)(m:mg "numbers_of" = bB (.ref f))(b:Binds K fd ["things"] [])(z_dict:mg "dict" = bC)(z_enumerate:mg "enumerate" = bC):Known P w K mg base "numbers_of" 1 1 Zw:=by
 refine⟨f,fd,["things"],F.pure (k:=0) (u:=JX) (M':=[]) jo.fs rfl '&',m,F.kp,b⟩
 exact ql (qD (jL (qgg (qiB hr) (jo.gl 1 rfl rfl) z_dict rfl (pda1 (ZD (CompOk.of (k:=2) Zr ["things", "k", "thing"] (qj Tq15) rfl rfl rfl '$') (jt (zA (zx '%') (zA (zx '%') Zz))) (qdx (jo.gl 0 rfl rfl) z_enumerate (pd_v jo 0)) (λ_ _ _ _ _ _=>ZF rfl (zj (zM (i:=1) (CompOk.of (k:=2) Zr ["things", "k", "thing"] (qj Tq15) rfl rfl rfl '$') rfl '$' _ _ _ _ _ _) (zj (zM (i:=2) (CompOk.of (k:=2) Zr ["things", "k", "thing"] (qj Tq15) rfl rfl rfl '$') rfl '$' _ _ _ _ _ _) Q6))) (λ_ _ _ _ _ _=>zF) (λ_ _ _ _ _ _=>qX (pda2 (q9 2 (qG '$') '%') (q9 1 (qG '$') '%'))))))))
abbrev Tq27:Ve:=top 7
noncomputable abbrev JC:List Str:=["count", "pairs", "links", "pair"]
theorem zV:ScOk JC ["count", "pairs"] ["range"] (qj Tq27):=scmk ','
abbrev YM:Rho->Option Out:=(seqO (qdQ 2 (ev2 (vr 3) (kd (.int 0)) ixD) (ev2 (vr 3) (kd (.int 1)) ixD)) (qdQ 2 (ev2 (vr 3) (kd (.int 1)) ixD) (ev2 (vr 3) (kd (.int 0)) ixD)))
def Yt:Rho->Option Out:=(seqO (qaE 2 (qeY 4 1 (evR (aC (vr 0) aN) QJ) (gNm 4) tT (evA aN lstD))) (seqO (sFor (evI (vr 1) seqD) (gNm 3) YM) (sRet (vr 2))))
def jG (ds:ae):Option Ka:=ob (Yt (rho0 JC.length ds)) outD
theorem qeg (F:Fun K "links_of" "links_of" Tq27 f fd)(m:mg "links_of" = bB (.ref f))(b:Binds K fd ["count", "pairs"] [])(z_range:mg "range" = bC):Known P w K mg base "links_of" 2 1 jG:=by
 refine⟨f,fd,["count", "pairs"],F.pure (k:=0) (u:=Yt) (M':=[]) zV.fs rfl '&',m,F.kp,b⟩
 exact qg (M1:=[2,1002]) (qga 2 (CompOk.of (k:=1) JC ["count", "pairs", "links", "pair", "k"] (qj Tq27) rfl rfl rfl '$') (zx '%') (qj Tq27) rfl '$' '%' '%' (Z1 (zV.gl 0 rfl rfl) z_range (pda1 (pd_v zV 0))) (λ_ _ _ _ _ _=>zM (i:=4) (CompOk.of (k:=1) JC ["count", "pairs", "links", "pair", "k"] (qj Tq27) rfl rfl rfl '$') rfl '$' _ _ _ _ _ _) (λ_ _ _ _ _ _=>zF) (λ_ _ _ _ _ _=>yF zZ)) (qg (M1:=[2,1002]) (QH K9 rfl (zU (pd_v zV 1)) (λ_=>zN zV 3) (λ_=>qg (M1:=[2,1002]) (qdA 2 (zV.vis 2 rfl) '%' (qM (pd_v zV 3) qd) (qM (pd_v zV 3) qd)) (ql (qdA 2 (zV.vis 2 rfl) '%' (qM (pd_v zV 3) qd) (qM (pd_v zV 3) qd))))) (ql (qD (pd_v zV 2))))
abbrev Tq5:Ve:=top 8
abbrev yh:List Str:=["start", "links", "origins", "waiting", "k", "j"]
theorem qF:ScOk yh ["start", "links"] [] (qj Tq5):=scmk ','
abbrev Jq:Rho->Option Out:=(sIf (tV (ev2 (vr 5) (vr 2) qbs)) (seqO (yf 2 (vr 5) (vr 4)) (sApp 3 (vr 5))) sN)
abbrev ZP:Rho->Option Out:=(seqO (qcA 3 4 (kd (.int 0))) (sFor (evI (ev2 (vr 1) (vr 4) ixD) seqD) (gNm 5) Jq))
def jO:Rho->Option Out:=(seqO (QW 2 (ev2 (vr 0) (kd .none) qcZ)) (seqO (QW 3 (evA (aC (vr 0) aN) lstD)) (seqO (qes (tW (vr 3)) ZP) (sRet (vr 2)))))
def QR (ds:ae):Option Ka:=ob (jO (rho0 yh.length ds)) outD
theorem qal (F:Fun K "reached_from" "reached_from" Tq5 f fd)(m:mg "reached_from" = bB (.ref f))(b:Binds K fd ["start", "links"] []):Known P w K mg base "reached_from" 2 1 QR:=by
 refine⟨f,fd,["start", "links"],F.pure (k:=0) (u:=jO) (M':=[]) qF.fs rfl '&',m,F.kp,b⟩
 refine qg (M1:=[2]) ?_ ?_
 refine Qj 2 ?_ ?_ ?_ ?_ ?_ ?_ ?_ (qhV (pd_v qF 0) qav)
 .exact qF.fs.nd
 .exact(qF.loc 2 rfl)
 .rfl
 .rfl
 .exact .inl rfl
 .decide
 .decide
 refine qg (M1:=[3,2]) ?_ (qg (M1:=[3,2]) (qgd K9 (qjC (pd_v qF 3)) (qg (M1:=[3,2]) (qgc 3 4 (qF.vis 3 rfl) '%' '%' '%' qF.fs.nd (qF.loc 4 rfl) qd) (ql (QH K9 rfl (zU (qM (pd_v qF 1) (pd_v qF 4))) (λ_=>zN qF 5) (λ_=>ql (zu (zb (W9 hr) (pd_v qF 5) (pd_v qF 2) rfl) (qg (M1:=[3,2]) (ZG hr 2 (qF.vis 2 rfl) '%' '%' (pd_v qF 5) (pd_v qF 4)) (ql (jw 3 (qF.vis 3 rfl) '%' '%' (pd_v qF 5)))) qZ)))))) (ql (qD (pd_v qF 2))))
 refine Qj 3 ?_ ?_ ?_ ?_ ?_ ?_ ?_ (yF (pda1 (pd_v qF 0)))
 .exact qF.fs.nd
 .exact(qF.loc 3 rfl)
 .rfl
 .rfl
 .exact .inl rfl
 .decide
 .decide
abbrev Tq10:Ve:=top 9
noncomputable abbrev yW:List Str:=["count", "pairs", "reached", "k"]
theorem zc:ScOk yW ["count", "pairs"] ["links_of", "reached_from", "range"] (qj Tq10):=scmk ','
abbrev J6:Rho->Option Out:=(sIf (tV (ev2 (vr 3) (vr 2) qbs)) (sRet (vr 3)) sN)
def Je:Rho->Option Out:=(seqO (sSet 2 (evC 2 (aC (kd (.int 0)) (aC (evC 2 (aC (vr 0) (aC (vr 1) aN)) jG) aN)) QR)) (seqO (sFor (evR (aC (vr 0) aN) QJ) (gNm 3) J6) (sRet (kd .none))))
def Qm (ds:ae):Option Ka:=ob (Je (rho0 yW.length ds)) outD
theorem qaS (F:Fun K "least_apart" "least_apart" Tq10 f fd)(m:mg "least_apart" = bB (.ref f))(b:Binds K fd ["count", "pairs"] [])(cq:Known P w K mg base "reached_from" 2 1 QR)(cX:Known P w K mg base "links_of" 2 1 jG)(z_range:mg "range" = bC):Known P w K mg base "least_apart" 2 2 Qm:=by
 refine⟨f,fd,["count", "pairs"],F.pure (k:=1) (u:=Je) (M':=[]) zc.fs rfl '&',m,F.kp,b⟩
 refine qg (M1:=[]) ?_ (qg (M1:=[]) (jh K9 rfl (QV (zc.gl 2 rfl rfl) z_range (pda1 (pd_v zc 0))) (zN zc 3) (ql (zu (zb (W9 hr) (pd_v zc 3) (pd_v zc 2) rfl) (ql (qD (pd_v zc 3))) qZ))) (ql (qD qav)))
 refine qI 2 ?_ ?_ ?_ ?_ ?_ ?_ (qu cq hr '%' (zc.gl 1 rfl rfl) (pda2 qd (qu cX hr '%' (zc.gl 0 rfl rfl) (pda2 (pd_v zc 0) (pd_v zc 1)) rfl)) rfl)
 .exact zc.fs.nd
 .exact(zc.loc 2 rfl)
 .rfl
 .rfl
 .exact .inl rfl
 .decide
abbrev Tq28:Ve:=top 11
abbrev WT:List Str:=["thing"]
theorem Zf:ScOk WT ["thing"] ["isinstance", "int", "bool"] (qj Tq28):=scmk ','
def qaK:Rho->Option Out:=(sRet (vA (ev1 (vr 0) (isiD "int")) (vN (ev1 (vr 0) (isiD "bool")))))
def JH (ds:ae):Option Ka:=ob (qaK (rho0 WT.length ds)) outD
theorem qef (F:Fun K "is_whole" "is_whole" Tq28 f fd)(m:mg "is_whole" = bB (.ref f))(b:Binds K fd ["thing"] [])(z_isinstance:mg "isinstance" = bC)(z_int:mg "int" = bC)(z_bool:mg "bool" = bC):Known P w K mg base "is_whole" 1 1 JH:=by
 refine⟨f,fd,["thing"],F.pure (k:=0) (u:=qaK) (M':=[]) Zf.fs rfl '&',m,F.kp,b⟩
 exact ql (qD (Yq (JQ (T := "int") (qff _) (Zf.gl 0 rfl rfl) z_isinstance (Zf.gl 1 rfl rfl) z_int rfl rfl (pd_v Zf 0)) (wU (qhI (JQ (T := "bool") (qdk _) (Zf.gl 0 rfl rfl) z_isinstance (Zf.gl 2 rfl rfl) z_bool rfl rfl (pd_v Zf 0))))))
abbrev Tq32:Ve:=top 14
abbrev qa2:List Str:=["thing"]
theorem Ji:ScOk qa2 ["thing"] ["is_whole", "BENDS"] (qj Tq32):=scmk ','
def wZ:Rho->Option Out:=(sRet (vA (evC 1 (aC (vr 0) aN) JH) (ev2 (vr 0) (kd Wy) inD)))
def Jt (ds:ae):Option Ka:=ob (wZ (rho0 qa2.length ds)) outD
theorem qfZ (F:Fun K "is_bend" "is_bend" Tq32 f fd)(m:mg "is_bend" = bB (.ref f))(b:Binds K fd ["thing"] [])(cY:Known P w K mg base "is_whole" 1 1 JH)(dW:Qt K mg "BENDS" Wy):Known P w K mg base "is_bend" 1 2 Jt:=by
 refine⟨f,fd,["thing"],F.pure (k:=1) (u:=wZ) (M':=[]) Ji.fs rfl '&',m,F.kp,b⟩
 exact ql (qD (Yq (qu cY hr '%' (Ji.gl 0 rfl rfl) (pda1 (pd_v Ji 0)) rfl) (wU (j9 (d_in hr) (pd_v Ji 0) (Qx dW (Ji.gl 1 rfl rfl)) rfl))))
abbrev Tq6:Ve:=top 18
abbrev yj:List Str:=["cell", "other"]
theorem QK:ScOk yj ["cell", "other"] [] (qj Tq6):=scmk ','
def jP:Rho->Option Out:=(sRet (evA (aC (ev2 (ev2 (vr 1) (kd (.int 0)) ixD) (ev2 (vr 0) (kd (.int 0)) ixD) subD) (aC (ev2 (ev2 (vr 1) (kd (.int 1)) ixD) (ev2 (vr 0) (kd (.int 1)) ixD) subD) aN)) tupD))
def QS (ds:ae):Option Ka:=ob (jP (rho0 yj.length ds)) outD
theorem qam (F:Fun K "step_between" "step_between" Tq6 f fd)(m:mg "step_between" = bB (.ref f))(b:Binds K fd ["cell", "other"] []):Known P w K mg base "step_between" 2 1 QS:=by
 refine⟨f,fd,["cell", "other"],F.pure (k:=0) (u:=jP) (M':=[]) QK.fs rfl '&',m,F.kp,b⟩
 exact ql (qD (qX (pda2 (qw Zu (qM (pd_v QK 1) qd) (qM (pd_v QK 0) qd)) (qw Zu (qM (pd_v QK 1) qd) (qM (pd_v QK 0) qd)))))
abbrev Tq3:Ve:=top 22
abbrev Jk:List Str:=["numbers", "pair"]
theorem zq:ScOk Jk ["numbers", "pair"] ["step_between", "STEPS"] (qj Tq3):=scmk ','
def Z3:Rho->Option Out:=(sRet (vA (ev2 (ev2 (vr 1) (kd (.int 0)) ixD) (vr 0) in2D) (vA (ev2 (ev2 (vr 1) (kd (.int 1)) ixD) (vr 0) in2D) (ev2 (evC 2 (aC (ev2 (vr 1) (kd (.int 0)) ixD) (aC (ev2 (vr 1) (kd (.int 1)) ixD) aN)) QS) (evS (kd Wz) oN (oS (kd (.int 2)))) inD))))
def Qw (ds:ae):Option Ka:=ob (Z3 (rho0 Jk.length ds)) outD
theorem wL (F:Fun K "are_neighbours" "are_neighbours" Tq3 f fd)(m:mg "are_neighbours" = bB (.ref f))(b:Binds K fd ["numbers", "pair"] [])(cu:Known P w K mg base "step_between" 2 1 QS)(dX:Qt K mg "STEPS" Wz):Known P w K mg base "are_neighbours" 2 2 Qw:=by
 refine⟨f,fd,["numbers", "pair"],F.pure (k:=1) (u:=Z3) (M':=[]) zq.fs rfl '&',m,F.kp,b⟩
 exact ql (qD (Yq (j9 (qgK hr) (qM (pd_v zq 1) qd) (pd_v zq 0) rfl) (Yq (j9 (qgK hr) (qM (pd_v zq 1) qd) (pd_v zq 0) rfl) (wU (j9 (d_in hr) (qu cu hr '%' (zq.gl 0 rfl rfl) (pda2 (qM (pd_v zq 1) qd) (qM (pd_v zq 1) qd)) rfl) (qdw (Qx dX (zq.gl 1 rfl rfl)) qdy (qdz qd)) rfl)))))
abbrev Tq29:Ve:=top 29
noncomputable abbrev Ye:List Str:=["signs", "row", "width"]
theorem Yd:ScOk Ye ["signs", "row", "width"] ["range"] (qj Tq29):=scmk ','
def Yv:Rho->Option Out:=(sRet (ev1 (ZM 3 (evR (aC (vr 2) aN) QJ) tT (ev3 (vr 0) (evA (aC (vr 1) (aC (vr 3) aN)) tupD) (kd ZV) Yj)) (Y4 "")))
def ZX (ds:ae):Option Ka:=ob (Yv (rho0 Ye.length ds)) outD
theorem qei (F:Fun K "row_text" "row_text" Tq29 f fd)(m:mg "row_text" = bB (.ref f))(b:Binds K fd ["signs", "row", "width"] [])(z_range:mg "range" = bC)(cj:Qt K mg "NOTHING" ZV):Known P w K mg base "row_text" 3 1 ZX:=by
 refine⟨f,fd,["signs", "row", "width"],F.pure (k:=0) (u:=Yv) (M':=[]) Yd.fs rfl '&',m,F.kp,b⟩
 exact ql (qD (Y9 (ju (CompOk.of (k:=1) Ye ["signs", "row", "width", "column"] (qj Tq29) rfl rfl rfl '$') rfl '$' (Z1 (Yd.gl 0 rfl rfl) z_range (pda1 (pd_v Yd 2))) (λ_ _ _ _ _ _=>zF) (λ_ _ _ _ _ _=>qfj hr (q9 0 (qG '$') '%') (qX (pda2 (q9 1 (qG '$') '%') (q9 3 (qG '$') '%'))) (Qx cj (jV '$'))))))
abbrev Tq30:Ve:=top 30
noncomputable abbrev JD:List Str:=["cells", "cell", "highest", "leftmost"]
theorem zP:ScOk JD ["cells", "cell"] ["max", "min"] (qj Tq30):=scmk ','
def Yu:Rho->Option Out:=(seqO (sSet 2 (evA (aC (ZM 4 (evI (vr 0) seqD) tT (ev2 (vr 4) (kd (.int 1)) ixD)) aN) yc)) (seqO (sSet 3 (evA (aC (ZM 4 (evI (vr 0) seqD) tT (ev2 (vr 4) (kd (.int 0)) ixD)) aN) Yc)) (sRet (evA (aC (ev2 (kd (.int 2)) (ev2 (vr 2) (ev2 (vr 1) (kd (.int 1)) ixD) subD) mulD) (aC (ev2 (kd (.int 2)) (ev2 (ev2 (vr 1) (kd (.int 0)) ixD) (vr 3) subD) mulD) aN)) tupD))))
def Zi (ds:ae):Option Ka:=ob (Yu (rho0 JD.length ds)) outD
theorem qeh (F:Fun K "place_of" "place_of" Tq30 f fd)(m:mg "place_of" = bB (.ref f))(b:Binds K fd ["cells", "cell"] [])(z_max:mg "max" = bC)(z_min:mg "min" = bC):Known P w K mg base "place_of" 2 1 Zi:=by
 refine⟨f,fd,["cells", "cell"],F.pure (k:=0) (u:=Yu) (M':=[]) zP.fs rfl '&',m,F.kp,b⟩
 refine qg (M1:=[]) ?_ ?_
 refine qI 2 ?_ ?_ ?_ ?_ ?_ ?_ (qH (W0 hr) (zP.gl 0 rfl rfl) z_max ZR (pda1 (ju (CompOk.of (k:=1) JD ["cells", "cell", "highest", "leftmost", "other"] (qj Tq30) rfl rfl rfl '$') rfl '$' (zU (pd_v zP 0)) (λ_ _ _ _ _ _=>zF) (λ_ _ _ _ _ _=>qM (q9 4 (qG '$') '%') qd))))
 .exact zP.fs.nd
 .exact(zP.loc 2 rfl)
 .rfl
 .rfl
 .exact .inl rfl
 .decide
 refine qg (M1:=[]) ?_ (ql (qD (qX (pda2 (qw jl qd (qw Zu (pd_v zP 2) (qM (pd_v zP 1) qd))) (qw jl qd (qw Zu (qM (pd_v zP 1) qd) (pd_v zP 3)))))))
 refine qI 3 ?_ ?_ ?_ ?_ ?_ ?_ (qH (W3 hr) (zP.gl 1 rfl rfl) z_min ZS (pda1 (ju (CompOk.of (k:=1) JD ["cells", "cell", "highest", "leftmost", "other"] (qj Tq30) rfl rfl rfl '$') rfl '$' (zU (pd_v zP 0)) (λ_ _ _ _ _ _=>zF) (λ_ _ _ _ _ _=>qM (q9 4 (qG '$') '%') qd))))
 .exact zP.fs.nd
 .exact(zP.loc 3 rfl)
 .rfl
 .rfl
 .exact .inl rfl
 .decide
abbrev Tq33:Ve:=top 31
abbrev qaZ:List Str:=["one", "other"]
theorem Jg:ScOk qaZ ["one", "other"] [] (qj Tq33):=scmk ','
def wX:Rho->Option Out:=(sRet (evA (aC (ev2 (ev2 (ev2 (vr 0) (kd (.int 0)) ixD) (ev2 (vr 1) (kd (.int 0)) ixD) Qf) (kd (.int 2)) jf) (aC (ev2 (ev2 (ev2 (vr 0) (kd (.int 1)) ixD) (ev2 (vr 1) (kd (.int 1)) ixD) Qf) (kd (.int 2)) jf) aN)) tupD))
def Js (ds:ae):Option Ka:=ob (wX (rho0 qaZ.length ds)) outD
theorem qfW (F:Fun K "between" "between" Tq33 f fd)(m:mg "between" = bB (.ref f))(b:Binds K fd ["one", "other"] []):Known P w K mg base "between" 2 1 Js:=by
 refine⟨f,fd,["one", "other"],F.pure (k:=0) (u:=wX) (M':=[]) Jg.fs rfl '&',m,F.kp,b⟩
 exact ql (qD (qX (pda2 (qw Zh (qw Qg (qM (pd_v Jg 0) qd) (qM (pd_v Jg 1) qd)) qd) (qw Zh (qw Qg (qM (pd_v Jg 0) qd) (qM (pd_v Jg 1) qd)) qd))))
abbrev Tq37:Ve:=top 34
abbrev qcN:List Str:=["length"]
theorem Yy:ScOk qcN ["length"] ["MOST"] (qj Tq37):=scmk ','
def qaJ:Rho->Option Out:=(sRet (vA (ev2 (ev2 (vr 0) (kd (.int 2)) modD) (kd (.int 1)) eqD) (ev2 (vr 0) (kd qbQ) leD)))
def Ju (ds:ae):Option Ka:=ob (qaJ (rho0 qcN.length ds)) outD
theorem qhc (F:Fun K "is_fit" "is_fit" Tq37 f fd)(m:mg "is_fit" = bB (.ref f))(b:Binds K fd ["length"] [])(eH:Qt K mg "MOST" qbQ):Known P w K mg base "is_fit" 1 1 Ju:=by
 refine⟨f,fd,["length"],F.pure (k:=0) (u:=qaJ) (M':=[]) Yy.fs rfl '&',m,F.kp,b⟩
 exact ql (qD (Yq (j9 (d_eq hr) (qw Qh (pd_v Yy 0) qd) qd (zK _)) (wU (j9 d_le (pd_v Yy 0) (Qx eH (Yy.gl 0 rfl rfl)) (zK _)))))
abbrev Tq34:Ve:=top 35
abbrev qa1:List Str:=["row", "column"]
theorem zO:ScOk qa1 ["row", "column"] [] (qj Tq34):=scmk ','
def jB:Rho->Option Out:=(seqO (sIf (tA (tV (ev2 (ev2 (vr 0) (kd (.int 2)) modD) (kd (.int 0)) eqD)) (tV (ev2 (ev2 (vr 1) (kd (.int 2)) modD) (kd (.int 0)) eqD))) (sRet (evA (aC (evA (aC (vr 0) (aC (vr 1) aN)) tupD) aN) lstD)) sN) (seqO (sIf (tV (ev2 (ev2 (vr 0) (kd (.int 2)) modD) (kd (.int 0)) eqD)) (sRet (evA (aC (evA (aC (vr 0) (aC (ev2 (vr 1) (kd (.int 1)) subD) aN)) tupD) (aC (evA (aC (vr 0) (aC (ev2 (vr 1) (kd (.int 1)) Qf) aN)) tupD) aN)) lstD)) sN) (seqO (sIf (tV (ev2 (ev2 (vr 1) (kd (.int 2)) modD) (kd (.int 0)) eqD)) (sRet (evA (aC (evA (aC (ev2 (vr 0) (kd (.int 1)) subD) (aC (vr 1) aN)) tupD) (aC (evA (aC (ev2 (vr 0) (kd (.int 1)) Qf) (aC (vr 1) aN)) tupD) aN)) lstD)) sN) (sRet (evA aN lstD)))))
def Zq (ds:ae):Option Ka:=ob (jB (rho0 qa1.length ds)) outD
theorem qfY (F:Fun K "ends_at" "ends_at" Tq34 f fd)(m:mg "ends_at" = bB (.ref f))(b:Binds K fd ["row", "column"] []):Known P w K mg base "ends_at" 2 1 Zq:=by
 refine⟨f,fd,["row", "column"],F.pure (k:=0) (u:=jB) (M':=[]) zO.fs rfl '&',m,F.kp,b⟩
 refine qg (M1:=[]) (zu (PDW.pdt (WP (zb (d_eq hr) (qw Qh (pd_v zO 0) qd) qd (zK _)) (qaw (zb (d_eq hr) (qw Qh (pd_v zO 1) qd) qd (zK _))))) (ql (qD (wR (pda1 (qX (pda2 (pd_v zO 0) (pd_v zO 1))))))) qZ) ?_
 exact qg (M1:=[]) (zu (zb (d_eq hr) (qw Qh (pd_v zO 0) qd) qd (zK _)) (ql (qD (wR (pda2 (qX (pda2 (pd_v zO 0) (qw Zu (pd_v zO 1) qd))) (qX (pda2 (pd_v zO 0) (qw Qg (pd_v zO 1) qd))))))) qZ) (qg (M1:=[]) (zu (zb (d_eq hr) (qw Qh (pd_v zO 1) qd) qd (zK _)) (ql (qD (wR (pda2 (qX (pda2 (qw Zu (pd_v zO 0) qd) (pd_v zO 1))) (qX (pda2 (qw Qg (pd_v zO 0) qd) (pd_v zO 1))))))) qZ) (ql (qD (wR zZ))))
abbrev Tq25:Ve:=top 36
abbrev Wb:List Str:=["ends"]
theorem jc:ScOk Wb ["ends"] ["JOINS", "CELL", "len"] (qj Tq25):=scmk ','
def Wq:Rho->Option Out:=(sRet (ev2 (evA (aC (kd (.str "")) (aC (kd JG) (aC (kd jR) aN))) tupD) (evA (aC (vr 0) aN) jW) ixSD))
def je (ds:ae):Option Ka:=ob (Wq (rho0 Wb.length ds)) outD
theorem qdj (F:Fun K "signs_for" "signs_for" Tq25 f fd)(m:mg "signs_for" = bB (.ref f))(b:Binds K fd ["ends"] [])(z_len:mg "len" = bC)(bZ:Qt K mg "JOINS" jR)(cA:Qt K mg "CELL" JG):Known P w K mg base "signs_for" 1 1 je:=by
 refine⟨f,fd,["ends"],F.pure (k:=0) (u:=Wq) (M':=[]) jc.fs rfl '&',m,F.kp,b⟩
 exact ql (qD (zE (qX (pda3 jM (Qx cA (jc.gl 1 rfl rfl)) (Qx bZ (jc.gl 0 rfl rfl)))) (qH yt (jc.gl 2 rfl rfl) z_len Vu (pda1 (pd_v jc 0)))))
abbrev Tq35:Ve:=top 37
abbrev qa3:List Str:=["rows", "place"]
theorem yK:ScOk qa3 ["rows", "place"] [] (qj Tq35):=scmk ','
def w5:Rho->Option Out:=(sRet (ev2 (ev2 (vr 0) (ev2 (vr 1) (kd (.int 0)) ixSD) ixSD) (ev2 (vr 1) (kd (.int 1)) ixSD) ixSD))
def Jv (ds:ae):Option Ka:=ob (w5 (rho0 qa3.length ds)) outD
theorem qf0 (F:Fun K "sign_at" "sign_at" Tq35 f fd)(m:mg "sign_at" = bB (.ref f))(b:Binds K fd ["rows", "place"] []):Known P w K mg base "sign_at" 2 1 Jv:=by
 refine⟨f,fd,["rows", "place"],F.pure (k:=0) (u:=w5) (M':=[]) yK.fs rfl '&',m,F.kp,b⟩
 exact ql (qD (zE (zE (pd_v yK 0) (zE (pd_v yK 1) qd)) (zE (pd_v yK 1) qd)))
abbrev Tq36:Ve:=top 38
abbrev qa0:List Str:=["rows", "place"]
theorem Jh:ScOk qa0 ["rows", "place"] ["len"] (qj Tq36):=scmk ','
def wY:Rho->Option Out:=(sRet (evA (aC (ev2 (ev2 (vr 1) (kd (.int 1)) ixD) (kd (.int 2)) jf) (aC (ev2 (ev2 (ev2 (evA (aC (vr 0) aN) lenD) (kd (.int 1)) subD) (ev2 (vr 1) (kd (.int 0)) ixD) subD) (kd (.int 2)) jf) aN)) tupD))
def ZW (ds:ae):Option Ka:=ob (wY (rho0 qa0.length ds)) outD
theorem qfX (F:Fun K "cell_at" "cell_at" Tq36 f fd)(m:mg "cell_at" = bB (.ref f))(b:Binds K fd ["rows", "place"] [])(z_len:mg "len" = bC):Known P w K mg base "cell_at" 2 1 ZW:=by
 refine⟨f,fd,["rows", "place"],F.pure (k:=0) (u:=wY) (M':=[]) Jh.fs rfl '&',m,F.kp,b⟩
 exact ql (qD (qX (pda2 (qw Zh (qM (pd_v Jh 1) qd) qd) (qw Zh (qw Zu (qw Zu (qH J8 (Jh.gl 0 rfl rfl) z_len Vu (pda1 (pd_v Jh 0))) qd) (qM (pd_v Jh 1) qd)) qd))))
abbrev Tq7:Ve:=top 42
noncomputable abbrev yg:List Str:=["_law_script", "_law_k"]
theorem Qs:ScOk yg ["_law_script", "_law_k"] ["len"] (qj Tq7):=scmk ','
def jN:Rho->Option Out:=(seqO (sIf (tV (ev2 (vr 1) (evA (aC (vr 0) aN) lenD) ltD2)) (sRet (ev2 (vr 0) (vr 1) ixD)) sN) (sRet (kd (.int 0))))
def qW (ds:ae):Option Ka:=ob (jN (rho0 yg.length ds)) outD
theorem qaj (F:Fun K "_law_cell_at" "_law_cell_at" Tq7 f fd)(m:mg "_law_cell_at" = bB (.ref f))(b:Binds K fd ["_law_script", "_law_k"] [])(z_len:mg "len" = bC):Known P w K mg base "_law_cell_at" 2 1 qW:=by
 refine⟨f,fd,["_law_script", "_law_k"],F.pure (k:=0) (u:=jN) (M':=[]) Qs.fs rfl '&',m,F.kp,b⟩
 exact qg (M1:=[]) (zu (zb (qgL hr) (pd_v Qs 1) (qH J8 (Qs.gl 0 rfl rfl) z_len Vu (pda1 (pd_v Qs 0))) (zK _)) (ql (qD (qM (pd_v Qs 0) (pd_v Qs 1)))) qZ) (ql (qD qd))
abbrev Tq16:Ve:=top 43
abbrev YF:List Str:=["_law_found"]
theorem Qy:ScOk YF ["_law_found"] ["isinstance", "int", "bool"] (qj Tq16):=scmk ','
def wC:Rho->Option Out:=(sRet (vA (ev1 (vr 0) (isiD "int")) (vN (ev1 (vr 0) (isiD "bool")))))
def jr (ds:ae):Option Ka:=ob (wC (rho0 YF.length ds)) outD
theorem qca (F:Fun K "_law_whole" "_law_whole" Tq16 f fd)(m:mg "_law_whole" = bB (.ref f))(b:Binds K fd ["_law_found"] [])(z_isinstance:mg "isinstance" = bC)(z_int:mg "int" = bC)(z_bool:mg "bool" = bC):Known P w K mg base "_law_whole" 1 1 jr:=by
 refine⟨f,fd,["_law_found"],F.pure (k:=0) (u:=wC) (M':=[]) Qy.fs rfl '&',m,F.kp,b⟩
 exact ql (qD (Yq (JQ (T := "int") (qff _) (Qy.gl 0 rfl rfl) z_isinstance (Qy.gl 1 rfl rfl) z_int rfl rfl (pd_v Qy 0)) (wU (qhI (JQ (T := "bool") (qdk _) (Qy.gl 0 rfl rfl) z_isinstance (Qy.gl 2 rfl rfl) z_bool rfl rfl (pd_v Qy 0))))))
abbrev Tq11:Ve:=top 44
noncomputable abbrev yV:List Str:=["_law_found", "_law_due", "_law_number"]
theorem qY:ScOk yV ["_law_found", "_law_due"] ["isinstance", "tuple", "len", "_law_whole"] (qj Tq11):=scmk ','
abbrev Wr:Rho->Option Out:=(sIf (tN (tV (evC 1 (aC (vr 2) aN) jr))) (sRet (kd (.bool bE))) sN)
def jb:Rho->Option Out:=(seqO (sIf (tO (tN (tV (ev1 (vr 0) (isiD "tuple")))) (tV (ev2 (evA (aC (vr 0) aN) lenD) (evA (aC (vr 1) aN) lenD) neD))) (sRet (kd (.bool bE))) sN) (seqO (sFor (evI (vr 0) seqD) (gNm 2) Wr) (sRet (ev2 (vr 0) (vr 1) eqD))))
def Qa (ds:ae):Option Ka:=ob (jb (rho0 yV.length ds)) outD
theorem qaR (F:Fun K "_law_triple" "_law_triple" Tq11 f fd)(m:mg "_law_triple" = bB (.ref f))(b:Binds K fd ["_law_found", "_law_due"] [])(cH:Known P w K mg base "_law_whole" 1 1 jr)(z_isinstance:mg "isinstance" = bC)(z_tuple:mg "tuple" = bC)(z_len:mg "len" = bC):Known P w K mg base "_law_triple" 2 2 Qa:=by
 refine⟨f,fd,["_law_found", "_law_due"],F.pure (k:=1) (u:=jb) (M':=[]) qY.fs rfl '&',m,F.kp,b⟩
 exact qg (M1:=[]) (zu (PDW.pdt (Ja (Qk (Ql (JQ (T := "tuple") (kit_tuple _) (qY.gl 0 rfl rfl) z_isinstance (qY.gl 1 rfl rfl) z_tuple rfl rfl (pd_v qY 0)))) (jx (zb (d_ne hr) (qH J8 (qY.gl 2 rfl rfl) z_len Vu (pda1 (pd_v qY 0))) (qH J8 (qY.gl 2 rfl rfl) z_len Vu (pda1 (pd_v qY 1))) (zK _))))) (ql (qD ye)) qZ) (qg (M1:=[]) (QH K9 rfl (zU (pd_v qY 0)) (λ_=>zN qY 2) (λ_=>ql (zu (Qk (Ql (qu cH hr '%' (qY.gl 3 rfl rfl) (pda1 (pd_v qY 2)) rfl))) (ql (qD ye)) qZ))) (ql (qD (j9 (d_eq hr) (pd_v qY 0) (pd_v qY 1) (zK _)))))
abbrev Tq12:Ve:=top 45
noncomputable abbrev yU:List Str:=["_law_cell", "_law_rest"]
theorem zB:ScOk yU ["_law_cell"] [] (qj Tq12):=scmk ','
def Qn:Rho->Option Out:=(seqO (sSet 1 (ev2 (vr 0) (kd (.int 4)) jf)) (seqO (sIf (tV (ev2 (ev2 (vr 0) (kd (.int 4)) modD) (kd (.int 1)) eqD)) (sRet (ev2 (ev2 (vr 1) (ev2 (ev2 (kd (.int 2)) (ev2 (kd (.int 10)) (kd (.int 19)) powD) mulD) (kd (.int 1)) Qf) modD) (ev2 (kd (.int 10)) (kd (.int 19)) powD) subD)) sN) (seqO (sIf (tV (ev2 (ev2 (vr 0) (kd (.int 4)) modD) (kd (.int 2)) eqD)) (sRet (ev2 (evA (aC (ev2 (kd (.int 10)) (kd (.int 19)) powD) (aC (ev1 (ev2 (kd (.int 10)) (kd (.int 19)) powD) negD) aN)) lstD) (ev2 (vr 1) (kd (.int 2)) modD) ixD)) sN) (seqO (sIf (tV (ev2 (ev2 (vr 0) (kd (.int 4)) modD) (kd (.int 3)) eqD)) (sRet (ev2 (ev2 (ev2 (vr 1) (ev2 (kd (.int 7919)) (kd (.int 6)) powD) mulD) (ev2 (ev2 (kd (.int 2)) (ev2 (kd (.int 10)) (kd (.int 19)) powD) mulD) (kd (.int 1)) Qf) modD) (ev2 (kd (.int 10)) (kd (.int 19)) powD) subD)) sN) (sRet (ev2 (ev2 (vr 1) (kd (.int 11)) modD) (kd (.int 5)) subD))))))
def zH (ds:ae):Option Ka:=ob (Qn (rho0 yU.length ds)) outD
theorem qaQ (F:Fun K "_law_offset" "_law_offset" Tq12 f fd)(m:mg "_law_offset" = bB (.ref f))(b:Binds K fd ["_law_cell"] []):Known P w K mg base "_law_offset" 1 1 zH:=by
 refine⟨f,fd,["_law_cell"],F.pure (k:=0) (u:=Qn) (M':=[]) zB.fs rfl '&',m,F.kp,b⟩
 refine qg (M1:=[]) ?_ (qg (M1:=[]) (zu (zb (d_eq hr) (qw Qh (pd_v zB 0) qd) qd (zK _)) (ql (qD (qw Zu (qw Qh (pd_v zB 1) (qw Qg (qw jl qd (qw qaa qd qd)) qd)) (qw qaa qd qd)))) qZ) (qg (M1:=[]) (zu (zb (d_eq hr) (qw Qh (pd_v zB 0) qd) qd (zK _)) (ql (qD (qM (wR (pda2 (qw qaa qd qd) (qhJ qgM (qw qaa qd qd)))) (qw Qh (pd_v zB 1) qd)))) qZ) (qg (M1:=[]) (zu (zb (d_eq hr) (qw Qh (pd_v zB 0) qd) qd (zK _)) (ql (qD (qw Zu (qw Qh (qw jl (pd_v zB 1) (qw qaa qd qd)) (qw Qg (qw jl qd (qw qaa qd qd)) qd)) (qw qaa qd qd)))) qZ) (ql (qD (qw Zu (qw Qh (pd_v zB 1) qd) qd))))))
 refine qI 1 ?_ ?_ ?_ ?_ ?_ ?_ (qw Zh (pd_v zB 0) qd)
 .exact zB.fs.nd
 .exact(zB.loc 1 rfl)
 .rfl
 .rfl
 .exact .inl rfl
 .decide
abbrev Tq17:Ve:=top 46
noncomputable abbrev YB:List Str:=["_law_cell", "_law_k", "_law_number"]
theorem zW:ScOk YB ["_law_cell", "_law_k"] [] (qj Tq17):=scmk ','
def JT:Rho->Option Out:=(seqO (sSet 2 (ev2 (ev2 (ev2 (ev2 (ev2 (ev2 (vr 0) (kd (.int 1000000007)) modD) (ev2 (ev2 (kd (.int 7)) (vr 1) mulD) (vr 1) mulD) Qf) (ev2 (kd (.int 13)) (vr 1) mulD) Qf) (kd (.int 5)) Qf) (kd (.int 48271)) mulD) (kd (.int 2147483647)) modD)) (sRet (ev2 (ev2 (ev2 (ev2 (ev2 (vr 2) (kd (.int 69621)) mulD) (vr 1) Qf) (kd (.int 1000000007)) modD) (kd (.int 40692)) mulD) (kd (.int 2147483399)) modD)))
def zr (ds:ae):Option Ka:=ob (JT (rho0 YB.length ds)) outD
theorem qb6 (F:Fun K "_law_mixed" "_law_mixed" Tq17 f fd)(m:mg "_law_mixed" = bB (.ref f))(b:Binds K fd ["_law_cell", "_law_k"] []):Known P w K mg base "_law_mixed" 2 1 zr:=by
 refine⟨f,fd,["_law_cell", "_law_k"],F.pure (k:=0) (u:=JT) (M':=[]) zW.fs rfl '&',m,F.kp,b⟩
 refine qg (M1:=[]) ?_ (ql (qD (qw Qh (qw jl (qw Qh (qw Qg (qw jl (pd_v zW 2) qd) (pd_v zW 1)) qd) qd) qd)))
 refine qI 2 ?_ ?_ ?_ ?_ ?_ ?_ (qw Qh (qw jl (qw Qg (qw Qg (qw Qg (qw Qh (pd_v zW 0) qd) (qw jl (qw jl qd (pd_v zW 1)) (pd_v zW 1))) (qw jl qd (pd_v zW 1))) qd) qd) qd)
 .exact zW.fs.nd
 .exact(zW.loc 2 rfl)
 .rfl
 .rfl
 .exact .inl rfl
 .decide
abbrev Tq26:Ve:=top 47
noncomputable abbrev Wa:List Str:=["_law_script", "_law_at", "_law_most_here", "_law_cell"]
theorem zR:ScOk Wa ["_law_script", "_law_at", "_law_most_here"] ["_law_cell_at", "_law_mixed"] (qj Tq26):=scmk ','
def jX:Rho->Option Out:=(seqO (sSet 3 (evC 2 (aC (vr 0) (aC (vr 1) aN)) qW)) (seqO (sIf (tV (ev2 (ev2 (vr 3) (kd (.int 2)) modD) (kd (.int 1)) eqD)) (sRet (vr 2)) sN) (sRet (ev2 (kd (.int 1)) (ev2 (evC 2 (aC (vr 3) (aC (kd (.int 77)) aN)) zr) (vr 2) modD) Qf))))
def Zo (ds:ae):Option Ka:=ob (jX (rho0 Wa.length ds)) outD
theorem qdi (F:Fun K "_law_most" "_law_most" Tq26 f fd)(m:mg "_law_most" = bB (.ref f))(b:Binds K fd ["_law_script", "_law_at", "_law_most_here"] [])(bF:Known P w K mg base "_law_cell_at" 2 1 qW)(bM:Known P w K mg base "_law_mixed" 2 1 zr):Known P w K mg base "_law_most" 3 2 Zo:=by
 refine⟨f,fd,["_law_script", "_law_at", "_law_most_here"],F.pure (k:=1) (u:=jX) (M':=[]) zR.fs rfl '&',m,F.kp,b⟩
 refine qg (M1:=[]) ?_ (qg (M1:=[]) (zu (zb (d_eq hr) (qw Qh (pd_v zR 3) qd) qd (zK _)) (ql (qD (pd_v zR 2))) qZ) (ql (qD (qw Qg qd (qw Qh (qu bM hr '%' (zR.gl 1 rfl rfl) (pda2 (pd_v zR 3) qd) rfl) (pd_v zR 2))))))
 refine qI 3 ?_ ?_ ?_ ?_ ?_ ?_ (qu bF hr '%' (zR.gl 0 rfl rfl) (pda2 (pd_v zR 0) (pd_v zR 1)) rfl)
 .exact zR.fs.nd
 .exact(zR.loc 3 rfl)
 .rfl
 .rfl
 .exact .inl rfl
 .decide
abbrev Tq18:Ve:=top 48
noncomputable abbrev JB:List Str:=["_law_script", "_law_at", "_law_base", "_law_cell", "_law_rest", "_law_many", "_law_found", "_law_k"]
theorem qy:ScOk JB ["_law_script", "_law_at", "_law_base"] ["_law_cell_at", "range", "_law_mixed"] (qj Tq18):=scmk ','
abbrev yq:Rho->Option Out:=(seqO (sApp 6 (ev2 (vr 4) (vr 2) modD)) (sSet 4 (ev2 (vr 4) (vr 2) jf)))
def jy:Rho->Option Out:=(seqO (sSet 3 (evC 2 (aC (vr 0) (aC (vr 1) aN)) qW)) (seqO (sIf (tV (ev2 (ev2 (vr 3) (kd (.int 2)) modD) (kd (.int 1)) eqD)) (seqO (sSet 4 (ev2 (vr 3) (kd (.int 2)) jf)) (seqO (sSet 5 (ev2 (vr 4) (kd (.int 61)) modD)) (seqO (sSet 4 (ev2 (vr 4) (kd (.int 61)) jf)) (seqO (QW 6 (evA aN lstD)) (seqO (sFor (evR (aC (vr 5) aN) QJ) (gNm 7) yq) (sRet (vr 6))))))) sN) (seqO (sSet 5 (ev2 (evC 2 (aC (vr 3) (aC (kd (.int 3)) aN)) zr) (kd (.int 61)) modD)) (sRet (ZM 8 (evR (aC (vr 5) aN) QJ) tT (evC 2 (aC (evC 2 (aC (vr 0) (aC (ev2 (ev2 (vr 1) (kd (.int 1)) Qf) (vr 8) Qf) aN)) qW) (aC (ev2 (vr 8) (vr 5) Qf) aN)) zr))))))
def Q3 (ds:ae):Option Ka:=ob (jy (rho0 JB.length ds)) outD
theorem qb8 (F:Fun K "_law_steps" "_law_steps" Tq18 f fd)(m:mg "_law_steps" = bB (.ref f))(b:Binds K fd ["_law_script", "_law_at", "_law_base"] [])(bF:Known P w K mg base "_law_cell_at" 2 1 qW)(bM:Known P w K mg base "_law_mixed" 2 1 zr)(z_range:mg "range" = bC):Known P w K mg base "_law_steps" 3 2 Q3:=by
 refine⟨f,fd,["_law_script", "_law_at", "_law_base"],F.pure (k:=1) (u:=jy) (M':=[]) qy.fs rfl '&',m,F.kp,b⟩
 refine qg (M1:=[]) ?_ ?_
 refine qI 3 ?_ ?_ ?_ ?_ ?_ ?_ (qu bF hr '%' (qy.gl 0 rfl rfl) (pda2 (pd_v qy 0) (pd_v qy 1)) rfl)
 .exact qy.fs.nd
 .exact(qy.loc 3 rfl)
 .rfl
 .rfl
 .exact .inl rfl
 .decide
 refine qg (M1:=[]) ?_ ?_
 refine zu (zb (d_eq hr) (qw Qh (pd_v qy 3) qd) qd (zK _)) ?_ qZ
 refine qg (M1:=[]) ?_ ?_
 refine qI 4 ?_ ?_ ?_ ?_ ?_ ?_ (qw Zh (pd_v qy 3) qd)
 .exact qy.fs.nd
 .exact(qy.loc 4 rfl)
 .rfl
 .rfl
 .exact .inl rfl
 .decide
 refine qg (M1:=[]) ?_ ?_
 refine qI 5 ?_ ?_ ?_ ?_ ?_ ?_ (qw Qh (pd_v qy 4) qd)
 .exact qy.fs.nd
 .exact(qy.loc 5 rfl)
 .rfl
 .rfl
 .exact .inl rfl
 .decide
 refine qg (M1:=[]) ?_ ?_
 refine qI 4 ?_ ?_ ?_ ?_ ?_ ?_ (qw Zh (pd_v qy 4) qd)
 .exact qy.fs.nd
 .exact(qy.loc 4 rfl)
 .rfl
 .rfl
 .exact .inl rfl
 .decide
 refine qg (M1:=[6]) ?_ ?_
 refine Qj 6 ?_ ?_ ?_ ?_ ?_ ?_ ?_ (yF zZ)
 .exact qy.fs.nd
 .exact(qy.loc 6 rfl)
 .rfl
 .rfl
 .exact .inl rfl
 .decide
 .decide
 refine qg (M1:=[6]) ?_ (ql (qD (pd_v qy 6)))
 refine jh K9 rfl (QV (qy.gl 1 rfl rfl) z_range (pda1 (pd_v qy 5))) (zN qy 7) ?_
 refine qg (M1:=[6]) (jw 6 (qy.vis 6 rfl) '%' '%' (qw Qh (pd_v qy 4) (pd_v qy 2))) ?_
 refine ql ?_
 refine qI 4 ?_ ?_ ?_ ?_ ?_ ?_ (qw Zh (pd_v qy 4) (pd_v qy 2))
 .exact qy.fs.nd
 .exact(qy.loc 4 rfl)
 .rfl
 .rfl
 .exact .inl rfl
 .decide
 refine qg (M1:=[]) ?_ (ql (qD (ju (CompOk.of (k:=1) JB ["_law_script", "_law_at", "_law_base", "_law_cell", "_law_rest", "_law_many", "_law_found", "", "_law_k"] (qj Tq18) rfl rfl rfl '$') rfl '$' (Z1 (qy.gl 1 rfl rfl) z_range (pda1 (pd_v qy 5))) (λ_ _ _ _ _ _=>zF) (λ_ _ _ _ _ _=>qu bM hr '%' (jV '$') (pda2 (qu bF hr '%' (jV '$') (pda2 (q9 0 (qG '$') '%') (qw Qg (qw Qg (q9 1 (qG '$') '%') qd) (q9 8 (qG '$') '%'))) rfl) (qw Qg (q9 8 (qG '$') '%') (q9 5 (qG '$') '%'))) rfl))))
 refine qI 5 ?_ ?_ ?_ ?_ ?_ ?_ (qw Qh (qu bM hr '%' (qy.gl 2 rfl rfl) (pda2 (pd_v qy 3) qd) rfl) qd)
 .exact qy.fs.nd
 .exact(qy.loc 5 rfl)
 .rfl
 .rfl
 .exact .inl rfl
 .decide
abbrev Tq13:Ve:=top 49
noncomputable abbrev yS:List Str:=["_law_cell", "_law_way"]
theorem zG:ScOk yS ["_law_cell", "_law_way"] [] (qj Tq13):=scmk ','
def Jd:Rho->Option Out:=(sRet (ev2 (evA (aC (evA (aC (ev2 (ev2 (vr 0) (kd (.int 0)) ixD) (kd (.int 1)) Qf) (aC (ev2 (vr 0) (kd (.int 1)) ixD) aN)) tupD) (aC (evA (aC (ev2 (vr 0) (kd (.int 0)) ixD) (aC (ev2 (ev2 (vr 0) (kd (.int 1)) ixD) (kd (.int 1)) Qf) aN)) tupD) (aC (evA (aC (ev2 (ev2 (vr 0) (kd (.int 0)) ixD) (kd (.int 1)) subD) (aC (ev2 (vr 0) (kd (.int 1)) ixD) aN)) tupD) (aC (evA (aC (ev2 (vr 0) (kd (.int 0)) ixD) (aC (ev2 (ev2 (vr 0) (kd (.int 1)) ixD) (kd (.int 1)) subD) aN)) tupD) aN)))) lstD) (vr 1) ixD))
def Zb (ds:ae):Option Ka:=ob (Jd (rho0 yS.length ds)) outD
theorem qaO (F:Fun K "_law_beside" "_law_beside" Tq13 f fd)(m:mg "_law_beside" = bB (.ref f))(b:Binds K fd ["_law_cell", "_law_way"] []):Known P w K mg base "_law_beside" 2 1 Zb:=by
 refine⟨f,fd,["_law_cell", "_law_way"],F.pure (k:=0) (u:=Jd) (M':=[]) zG.fs rfl '&',m,F.kp,b⟩
 refine ql ?_
 refine qD ?_
 refine qM ?_ (pd_v zG 1)
 refine wR ?_
 exact zy (qX (pda2 (qw Qg (qM (pd_v zG 0) qd) qd) (qM (pd_v zG 0) qd))) (zy (qX (pda2 (qM (pd_v zG 0) qd) (qw Qg (qM (pd_v zG 0) qd) qd))) (zy (qX (pda2 (qw Zu (qM (pd_v zG 0) qd) qd) (qM (pd_v zG 0) qd))) (zy (qX (pda2 (qM (pd_v zG 0) qd) (qw Zu (qM (pd_v zG 0) qd) qd))) zZ)))
abbrev Tq19:Ve:=top 50
noncomputable abbrev Yz:List Str:=["_law_steps_here", "_law_most_here", "_law_found", "_law_joins", "_law_step", "_law_one", "_law_other", "_law_pair"]
theorem qp:ScOk Yz ["_law_steps_here", "_law_most_here"] ["len", "_law_beside", "max", "min"] (qj Tq19):=scmk ','
abbrev ym:Rho->Option Out:=(seqO (sSet 5 (qe5 (ev2 (vr 2) (ev2 (ev2 (vr 4) (kd (.int 12)) jf) (evA (aC (vr 2) aN) lenD) modD) ixD))) (seqO (sSet 6 (evC 2 (aC (vr 5) (aC (ev2 (vr 4) (kd (.int 4)) modD) aN)) Zb)) (seqO (sSet 7 (evA (aC (evA (aC (vr 5) (aC (vr 6) aN)) j8) (aC (evA (aC (vr 5) (aC (vr 6) aN)) j7) aN)) tupD)) (sIf (tA (tV (ev2 (vr 6) (vr 2) ninD)) (tV (ev2 (evA (aC (vr 2) aN) lenD) (vr 1) ltD2))) (seqO (sApp 2 (vr 6)) (yf 3 (vr 7) (ev2 (ev2 (ev2 (vr 4) (kd (.int 4)) jf) (kd (.int 3)) modD) (kd (.int 1)) subD))) (sIf (tA (tV (ev2 (vr 6) (vr 2) inD)) (tA (tV (ev2 (vr 7) (vr 3) qbs)) (tO (tV (ev2 (vr 4) (kd (.int 312)) ltD2)) (tV (ev2 (ev2 (ev2 (vr 4) (kd (.int 312)) jf) (kd (.int 4)) modD) (kd (.int 0)) eqD))))) (yf 3 (vr 7) (ev2 (ev2 (ev2 (vr 4) (kd (.int 4)) jf) (kd (.int 3)) modD) (kd (.int 1)) subD)) sN)))))
def JS:Rho->Option Out:=(seqO (QW 2 (evA (aC (evA (aC (kd (.int 0)) (aC (kd (.int 0)) aN)) tupD) aN) lstD)) (seqO (QW 3 (kd (.dict []))) (seqO (sFor (evI (vr 0) seqD) (gNm 4) ym) (sRet (evA (aC (vr 2) (aC (vr 3) aN)) tupD)))))
def Zv (ds:ae):Option Ka:=ob (JS (rho0 Yz.length ds)) outD
theorem qb5 (F:Fun K "_law_grown" "_law_grown" Tq19 f fd)(m:mg "_law_grown" = bB (.ref f))(b:Binds K fd ["_law_steps_here", "_law_most_here"] [])(cB:Known P w K mg base "_law_beside" 2 1 Zb)(z_len:mg "len" = bC)(z_max:mg "max" = bC)(z_min:mg "min" = bC):Known P w K mg base "_law_grown" 2 2 Zv:=by
 refine⟨f,fd,["_law_steps_here", "_law_most_here"],F.pure (k:=1) (u:=JS) (M':=[]) qp.fs rfl '&',m,F.kp,b⟩
 refine qg (M1:=[2]) ?_ ?_
 refine Qj 2 ?_ ?_ ?_ ?_ ?_ ?_ ?_ ?_
 .exact qp.fs.nd
 .exact(qp.loc 2 rfl)
 .rfl
 .rfl
 .exact .inl rfl
 .decide
 .decide
 exact yF (pda1 (qX (pda2 qd qd)))
 refine qg (M1:=[3,2]) ?_ ?_
 refine Qj 3 ?_ ?_ ?_ ?_ ?_ ?_ ?_ yE
 .exact qp.fs.nd
 .exact(qp.loc 3 rfl)
 .rfl
 .rfl
 .exact .inl rfl
 .decide
 .decide
 refine qg (M1:=[3,2]) ?_ (ql (qD (qX (pda2 (pd_v qp 2) (pd_v qp 3)))))
 refine QH K9 rfl (zU (pd_v qp 0)) (λ_=>zN qp 4) (λ_=>?_)
 refine qg (M1:=[3,2]) ?_ ?_
 refine qhO 5 ?_ ?_ ?_ ?_ ?_ ?_ (qM (pd_v qp 2) (qw Qh (qw Zh (pd_v qp 4) qd) (qH J8 (qp.gl 0 rfl rfl) z_len Vu (pda1 (pd_v qp 2)))))
 .exact qp.fs.nd
 .exact(qp.loc 5 rfl)
 .rfl
 .rfl
 .exact .inl rfl
 .decide
 refine qg (M1:=[3,2]) ?_ ?_
 refine qI 6 ?_ ?_ ?_ ?_ ?_ ?_ (qu cB hr '%' (qp.gl 1 rfl rfl) (pda2 (pd_v qp 5) (qw Qh (pd_v qp 4) qd)) rfl)
 .exact qp.fs.nd
 .exact(qp.loc 6 rfl)
 .rfl
 .rfl
 .exact .inl rfl
 .decide
 refine qg (M1:=[3,2]) ?_ (ql (zu (PDW.pdt (WP (zb (WD hr) (pd_v qp 6) (pd_v qp 2) rfl) (qaw (zb (qgL hr) (qH J8 (qp.gl 0 rfl rfl) z_len Vu (pda1 (pd_v qp 2))) (pd_v qp 1) (zK _))))) (qg (M1:=[3,2]) (jw 2 (qp.vis 2 rfl) '%' '%' (pd_v qp 6)) (ql (ZG hr 3 (qp.vis 3 rfl) '%' '%' (pd_v qp 7) (qw Zu (qw Qh (qw Zh (pd_v qp 4) qd) qd) qd)))) (ql (zu (PDW.pdt (WP (zb (d_in hr) (pd_v qp 6) (pd_v qp 2) rfl) (WP (zb (W9 hr) (pd_v qp 7) (pd_v qp 3) rfl) (qaw (PDW.pdt (Ja (zb (qgL hr) (pd_v qp 4) qd (zK _)) (jx (zb (d_eq hr) (qw Qh (qw Zh (pd_v qp 4) qd) qd) qd (zK _))))))))) (ql (ZG hr 3 (qp.vis 3 rfl) '%' '%' (pd_v qp 7) (qw Zu (qw Qh (qw Zh (pd_v qp 4) qd) qd) qd))) qZ))))
 refine qI 7 ?_ ?_ ?_ ?_ ?_ ?_ ?_
 .exact qp.fs.nd
 .exact(qp.loc 7 rfl)
 .rfl
 .rfl
 .exact .inl rfl
 .decide
 exact qX (pda2 (qH (qeM hr) (qp.gl 3 rfl rfl) z_min ZS (pda2 (pd_v qp 5) (pd_v qp 6))) (qH (qeL hr) (qp.gl 2 rfl rfl) z_max ZR (pda2 (pd_v qp 5) (pd_v qp 6))))
abbrev Tq1:Ve:=top 51
noncomputable abbrev Qe:List Str:=["_law_found", "_law_joins", "_law_shift", "_law_cells", "_law_made", "_law_one", "_law_other", "_law_first"]
theorem qx:ScOk Qe ["_law_found", "_law_joins", "_law_shift"] [] (qj Tq1):=scmk ','
abbrev jd:Rho->Option Out:=(seqO (sSet 7 (evA (aC (ev2 (ev2 (vr 5) (kd (.int 0)) ixD) (ev2 (vr 2) (kd (.int 0)) ixD) Qf) (aC (ev2 (ev2 (vr 5) (kd (.int 1)) ixD) (ev2 (vr 2) (kd (.int 1)) ixD) Qf) aN)) tupD)) (yf 4 (evA (aC (vr 7) (aC (evA (aC (ev2 (ev2 (vr 6) (kd (.int 0)) ixD) (ev2 (vr 2) (kd (.int 0)) ixD) Qf) (aC (ev2 (ev2 (vr 6) (kd (.int 1)) ixD) (ev2 (vr 2) (kd (.int 1)) ixD) Qf) aN)) tupD) aN)) tupD) (ev2 (vr 1) (evA (aC (vr 5) (aC (vr 6) aN)) tupD) ix2D)))
def Zj:Rho->Option Out:=(seqO (QW 3 (Q8 8 2 (evI (vr 0) seqD) (unpD 2 (gsC (gNm 8) (gsC (gNm 9) gsN))) tT (evA (aC (ev2 (vr 8) (ev2 (vr 2) (kd (.int 0)) ixD) Qf) (aC (ev2 (vr 9) (ev2 (vr 2) (kd (.int 1)) ixD) Qf) aN)) tupD))) (seqO (QW 4 (kd (.dict []))) (seqO (sFor (evI (vr 1) Wh) (unpD 2 (gsC (gNm 5) (gsC (gNm 6) gsN))) jd) (sRet (evA (aC (vr 3) (aC (vr 4) aN)) tupD)))))
def qU (ds:ae):Option Ka:=ob (Zj (rho0 Qe.length ds)) outD
theorem Yn (F:Fun K "_law_moved_cells" "_law_moved_cells" Tq1 f fd)(m:mg "_law_moved_cells" = bB (.ref f))(b:Binds K fd ["_law_found", "_law_joins", "_law_shift"] []):Known P w K mg base "_law_moved_cells" 3 1 qU:=by
 refine⟨f,fd,["_law_found", "_law_joins", "_law_shift"],F.pure (k:=0) (u:=Zj) (M':=[]) qx.fs rfl '&',m,F.kp,b⟩
 refine qg (M1:=[3]) ?_ ?_
 exact qbv 3 (CompOk.of (k:=2) Qe ["_law_found", "_law_joins", "_law_shift", "_law_cells", "_law_made", "_law_one", "_law_other", "_law_first", "_law_x", "_law_y"] (qj Tq1) rfl rfl rfl '$') (jt (zA (zx '%') (zA (zx '%') Zz))) (qj Tq1) rfl '$' '%' '%' (zU (pd_v qx 0)) (λ_ _ _ _ _ _=>ZF rfl (zj (zM (i:=8) (CompOk.of (k:=2) Qe ["_law_found", "_law_joins", "_law_shift", "_law_cells", "_law_made", "_law_one", "_law_other", "_law_first", "_law_x", "_law_y"] (qj Tq1) rfl rfl rfl '$') rfl '$' _ _ _ _ _ _) (zj (zM (i:=9) (CompOk.of (k:=2) Qe ["_law_found", "_law_joins", "_law_shift", "_law_cells", "_law_made", "_law_one", "_law_other", "_law_first", "_law_x", "_law_y"] (qj Tq1) rfl rfl rfl '$') rfl '$' _ _ _ _ _ _) Q6))) (λ_ _ _ _ _ _=>zF) (λ_ _ _ _ _ _=>qX (pda2 (qw Qg (q9 8 (qG '$') '%') (qM (q9 2 (qG '$') '%') qd)) (qw Qg (q9 9 (qG '$') '%') (qM (q9 2 (qG '$') '%') qd))))
 refine qg (M1:=[4,3]) ?_ ?_
 refine Qj 4 ?_ ?_ ?_ ?_ ?_ ?_ ?_ yE
 .exact qx.fs.nd
 .exact(qx.loc 4 rfl)
 .rfl
 .rfl
 .exact .inl rfl
 .decide
 .decide
 refine qg (M1:=[4,3]) ?_ (ql (qD (qX (pda2 (pd_v qx 3) (pd_v qx 4)))))
 refine QH K9 rfl (yC (pd_v qx 1)) (λ_=>Z7 rfl (zg (zN qx 5) (zg (zN qx 6) Ze))) (λ_=>?_)
 refine qg (M1:=[4,3]) ?_ (ql (ZG hr 4 (qx.vis 4 rfl) '%' '%' (qX (pda2 (pd_v qx 7) (qX (pda2 (qw Qg (qM (pd_v qx 6) qd) (qM (pd_v qx 2) qd)) (qw Qg (qM (pd_v qx 6) qd) (qM (pd_v qx 2) qd)))))) (qau hr (pd_v qx 1) (qX (pda2 (pd_v qx 5) (pd_v qx 6))))))
 refine qI 7 ?_ ?_ ?_ ?_ ?_ ?_ ?_
 .exact qx.fs.nd
 .exact(qx.loc 7 rfl)
 .rfl
 .rfl
 .exact .inl rfl
 .decide
 exact qX (pda2 (qw Qg (qM (pd_v qx 5) qd) (qM (pd_v qx 2) qd)) (qw Qg (qM (pd_v qx 5) qd) (qM (pd_v qx 2) qd)))
abbrev Tq20:Ve:=top 52
noncomputable abbrev YC:List Str:=["_law_found", "_law_joins", "_law_cells", "_law_made", "_law_pair"]
theorem qN:ScOk YC ["_law_found", "_law_joins"] ["sorted"] (qj Tq20):=scmk ','
abbrev yo:Rho->Option Out:=(sApp 3 (evA (aC (ev2 (vr 2) (ev2 (vr 4) (kd (.int 0)) ixD) Ym) (aC (ev2 (vr 2) (ev2 (vr 4) (kd (.int 1)) ixD) Ym) (aC (ev2 (vr 1) (vr 4) ix2D) aN))) tupD))
def JV:Rho->Option Out:=(seqO (sSet 2 (evA (aC (vr 0) aN) Qq)) (seqO (QW 3 (evA aN lstD)) (seqO (sFor (evI (vr 1) Wh) (gNm 4) yo) (sRet (evA (aC (vr 2) (aC (evA (aC (vr 3) aN) Qq) aN)) tupD)))))
def zY (ds:ae):Option Ka:=ob (JV (rho0 YC.length ds)) outD
theorem qb7 (F:Fun K "_law_sheet" "_law_sheet" Tq20 f fd)(m:mg "_law_sheet" = bB (.ref f))(b:Binds K fd ["_law_found", "_law_joins"] [])(z_sorted:mg "sorted" = bC):Known P w K mg base "_law_sheet" 2 1 zY:=by
 refine⟨f,fd,["_law_found", "_law_joins"],F.pure (k:=0) (u:=JV) (M':=[]) qN.fs rfl '&',m,F.kp,b⟩
 refine qg (M1:=[]) ?_ ?_
 refine qI 2 ?_ ?_ ?_ ?_ ?_ ?_ (jL (yD (yz hr) (qN.gl 0 rfl rfl) z_sorted Zt (pda1 (pd_v qN 0))))
 .exact qN.fs.nd
 .exact(qN.loc 2 rfl)
 .rfl
 .rfl
 .exact .inl rfl
 .decide
 refine qg (M1:=[3]) ?_ (qg (M1:=[3]) (QH K9 rfl (yC (pd_v qN 1)) (λ_=>zN qN 4) (λ_=>ql (jw 3 (qN.vis 3 rfl) '%' '%' (qX (pda3 (qdv hr (pd_v qN 2) (qM (pd_v qN 4) qd)) (qdv hr (pd_v qN 2) (qM (pd_v qN 4) qd)) (qau hr (pd_v qN 1) (pd_v qN 4))))))) (ql (qD (qX (pda2 (pd_v qN 2) (jL (yD (yz hr) (qN.gl 0 rfl rfl) z_sorted Zt (pda1 (pd_v qN 3)))))))))
 refine Qj 3 ?_ ?_ ?_ ?_ ?_ ?_ ?_ (yF zZ)
 .exact qN.fs.nd
 .exact(qN.loc 3 rfl)
 .rfl
 .rfl
 .exact .inl rfl
 .decide
 .decide
abbrev Tq2:Ve:=top 53
noncomputable abbrev jC:List Str:=["_law_found", "_law_due", "_law_k", "_law_at"]
theorem qm:ScOk jC ["_law_found", "_law_due"] ["isinstance", "tuple", "len", "list", "_law_triple", "range"] (qj Tq2):=scmk ','
abbrev QM:Rho->Option Out:=(sIf (tN (tV (evC 2 (aC (ev2 (ev2 (vr 0) (vr 2) ixD) (vr 3) ixD) (aC (ev2 (ev2 (vr 1) (vr 2) ixD) (vr 3) ixD) aN)) Qa))) (sRet (kd (.bool bE))) sN)
abbrev yp:Rho->Option Out:=(seqO (sIf (tO (tN (tV (ev1 (ev2 (vr 0) (vr 2) ixD) (isiD "list")))) (tV (ev2 (evA (aC (ev2 (vr 0) (vr 2) ixD) aN) lenD) (evA (aC (ev2 (vr 1) (vr 2) ixD) aN) lenD) neD))) (sRet (kd (.bool bE))) sN) (sFor (evR (aC (evA (aC (ev2 (vr 1) (vr 2) ixD) aN) lenD) aN) QJ) (gNm 3) QM))
def Zk:Rho->Option Out:=(seqO (sIf (tO (tN (tV (ev1 (vr 0) (isiD "tuple")))) (tV (ev2 (evA (aC (vr 0) aN) lenD) (kd (.int 2)) neD))) (sRet (kd (.bool bE))) sN) (seqO (sFor (evR (aC (kd (.int 2)) aN) QJ) (gNm 2) yp) (sRet (kd (.bool bD)))))
def zm (ds:ae):Option Ka:=ob (Zk (rho0 jC.length ds)) outD
theorem Yo (F:Fun K "_law_sheet_alike" "_law_sheet_alike" Tq2 f fd)(m:mg "_law_sheet_alike" = bB (.ref f))(b:Binds K fd ["_law_found", "_law_due"] [])(cC:Known P w K mg base "_law_triple" 2 2 Qa)(z_isinstance:mg "isinstance" = bC)(z_tuple:mg "tuple" = bC)(z_len:mg "len" = bC)(z_list:mg "list" = bC)(z_range:mg "range" = bC):Known P w K mg base "_law_sheet_alike" 2 3 zm:=by
 refine⟨f,fd,["_law_found", "_law_due"],F.pure (k:=2) (u:=Zk) (M':=[]) qm.fs rfl '&',m,F.kp,b⟩
 exact qg (M1:=[]) (zu (PDW.pdt (Ja (Qk (Ql (JQ (T := "tuple") (kit_tuple _) (qm.gl 0 rfl rfl) z_isinstance (qm.gl 1 rfl rfl) z_tuple rfl rfl (pd_v qm 0)))) (jx (zb (d_ne hr) (qH J8 (qm.gl 2 rfl rfl) z_len Vu (pda1 (pd_v qm 0))) qd (zK _))))) (ql (qD ye)) qZ) (qg (M1:=[]) (jh K9 rfl (QV (qm.gl 5 rfl rfl) z_range (pda1 qd)) (zN qm 2) (qg (M1:=[]) (zu (PDW.pdt (Ja (Qk (Ql (JQ (T := "list") (qdl _) (qm.gl 0 rfl rfl) z_isinstance (qm.gl 3 rfl rfl) z_list rfl rfl (qM (pd_v qm 0) (pd_v qm 2))))) (jx (zb (d_ne hr) (qH J8 (qm.gl 2 rfl rfl) z_len Vu (pda1 (qM (pd_v qm 0) (pd_v qm 2)))) (qH J8 (qm.gl 2 rfl rfl) z_len Vu (pda1 (qM (pd_v qm 1) (pd_v qm 2)))) (zK _))))) (ql (qD ye)) qZ) (ql (jh K9 rfl (QV (qm.gl 5 rfl rfl) z_range (pda1 (qH J8 (qm.gl 2 rfl rfl) z_len Vu (pda1 (qM (pd_v qm 1) (pd_v qm 2)))))) (zN qm 3) (ql (zu (Qk (Ql (qu cC hr '%' (qm.gl 4 rfl rfl) (pda2 (qM (qM (pd_v qm 0) (pd_v qm 2)) (pd_v qm 3)) (qM (qM (pd_v qm 1) (pd_v qm 2)) (pd_v qm 3))) rfl))) (ql (qD ye)) qZ)))))) (ql (qD ye)))
abbrev Tq8:Ve:=top 54
noncomputable abbrev qR:List Str:=["_law_cells", "_law_joins", "_law_low", "_law_high", "_law_signs", "_law_x", "_law_y", "_law_one", "_law_other", "_law_rows", "_law_k", "_law_row", "_law_at"]
theorem qi:ScOk qR ["_law_cells", "_law_joins"] ["min", "max", "range"] (qj Tq8):=scmk ','
abbrev Jl:Rho->Option Out:=(yf 4 (evA (aC (ev2 (kd (.int 2)) (vr 5) jg) (aC (ev2 (kd (.int 2)) (vr 6) jg) aN)) tupD) (kd (.str "#")))
abbrev Jp:Rho->Option Out:=(sSet 11 (ev2 (vr 11) (ev3 (vr 4) (evA (aC (ev2 (ev2 (kd (.int 2)) (ev2 (vr 2) (kd (.int 0)) ixSD) jg) (vr 12) Zm) (aC (ev2 (ev2 (kd (.int 2)) (ev2 (vr 3) (kd (.int 1)) ixSD) jg) (vr 10) subD) aN)) tupD) (kd (.str ".")) Yj) Zm))
abbrev Jm:Rho->Option Out:=(yf 4 (evA (aC (ev2 (ev2 (vr 7) (kd (.int 0)) ixSD) (ev2 (vr 8) (kd (.int 0)) ixSD) Zm) (aC (ev2 (ev2 (vr 7) (kd (.int 1)) ixSD) (ev2 (vr 8) (kd (.int 1)) ixSD) Zm) aN)) tupD) (ev2 (kd (.str "v+^")) (ev2 (ev2 (vr 1) (evA (aC (vr 7) (aC (vr 8) aN)) tupD) ix2D) (kd (.int 1)) Zm) ixSD))
abbrev Jo:Rho->Option Out:=(seqO (sSet 11 (kd (.str ""))) (seqO (sFor (evR (aC (ev2 (ev2 (kd (.int 2)) (ev2 (ev2 (vr 3) (kd (.int 0)) ixSD) (ev2 (vr 2) (kd (.int 0)) ixSD) subD) jg) (kd (.int 1)) Zm) aN) QJ) (gNm 12) Jp) (sApp 9 (vr 11))))
def ZL:Rho->Option Out:=(seqO (sSet 2 (evA (aC (evA (aC (Q8 13 2 (evI (vr 0) seqD) (unpD 2 (gsC (gNm 13) (gsC (gNm 14) gsN))) tT (vr 13)) aN) Yc) (aC (evA (aC (Q8 13 2 (evI (vr 0) seqD) (unpD 2 (gsC (gNm 13) (gsC (gNm 14) gsN))) tT (vr 14)) aN) Yc) aN)) tupD)) (seqO (sSet 3 (evA (aC (evA (aC (Q8 13 2 (evI (vr 0) seqD) (unpD 2 (gsC (gNm 13) (gsC (gNm 14) gsN))) tT (vr 13)) aN) yc) (aC (evA (aC (Q8 13 2 (evI (vr 0) seqD) (unpD 2 (gsC (gNm 13) (gsC (gNm 14) gsN))) tT (vr 14)) aN) yc) aN)) tupD)) (seqO (QW 4 (kd (.dict []))) (seqO (sFor (evI (vr 0) seqD) (unpD 2 (gsC (gNm 5) (gsC (gNm 6) gsN))) Jl) (seqO (sFor (evI (vr 1) Wh) (unpD 2 (gsC (gNm 7) (gsC (gNm 8) gsN))) Jm) (seqO (QW 9 (evA aN lstD)) (seqO (sFor (evR (aC (ev2 (ev2 (kd (.int 2)) (ev2 (ev2 (vr 3) (kd (.int 1)) ixSD) (ev2 (vr 2) (kd (.int 1)) ixSD) subD) jg) (kd (.int 1)) Zm) aN) QJ) (gNm 10) Jo) (sRet (vr 9)))))))))
def QQ (ds:ae):Option Ka:=ob (ZL (rho0 qR.length ds)) outD
theorem qak (F:Fun K "_law_painted" "_law_painted" Tq8 f fd)(m:mg "_law_painted" = bB (.ref f))(b:Binds K fd ["_law_cells", "_law_joins"] [])(z_min:mg "min" = bC)(z_max:mg "max" = bC)(z_range:mg "range" = bC):Known P w K mg base "_law_painted" 2 1 QQ:=by
 refine⟨f,fd,["_law_cells", "_law_joins"],F.pure (k:=0) (u:=ZL) (M':=[]) qi.fs rfl '&',m,F.kp,b⟩
 refine qg (M1:=[]) ?_ ?_
 refine qI 2 ?_ ?_ ?_ ?_ ?_ ?_ ?_
 .exact qi.fs.nd
 .exact(qi.loc 2 rfl)
 .rfl
 .rfl
 .exact .inl rfl
 .decide
 exact qX (pda2 (qH (W3 hr) (qi.gl 0 rfl rfl) z_min ZS (pda1 (ZD (CompOk.of (k:=2) qR ["_law_cells", "_law_joins", "_law_low", "_law_high", "_law_signs", "", " ", "_law_one", "_law_other", "_law_rows", "_law_k", "_law_row", "_law_at", "_law_x", "_law_y"] (qj Tq8) rfl rfl rfl '$') (jt (zA (zx '%') (zA (zx '%') Zz))) (zU (pd_v qi 0)) (λ_ _ _ _ _ _=>ZF rfl (zj (zM (i:=13) (CompOk.of (k:=2) qR ["_law_cells", "_law_joins", "_law_low", "_law_high", "_law_signs", "", " ", "_law_one", "_law_other", "_law_rows", "_law_k", "_law_row", "_law_at", "_law_x", "_law_y"] (qj Tq8) rfl rfl rfl '$') rfl '$' _ _ _ _ _ _) (zj (zM (i:=14) (CompOk.of (k:=2) qR ["_law_cells", "_law_joins", "_law_low", "_law_high", "_law_signs", "", " ", "_law_one", "_law_other", "_law_rows", "_law_k", "_law_row", "_law_at", "_law_x", "_law_y"] (qj Tq8) rfl rfl rfl '$') rfl '$' _ _ _ _ _ _) Q6))) (λ_ _ _ _ _ _=>zF) (λ_ _ _ _ _ _=>q9 13 (qG '$') '%')))) (qH (W3 hr) (qi.gl 0 rfl rfl) z_min ZS (pda1 (ZD (CompOk.of (k:=2) qR ["_law_cells", "_law_joins", "_law_low", "_law_high", "_law_signs", "", " ", "_law_one", "_law_other", "_law_rows", "_law_k", "_law_row", "_law_at", "_law_x", "_law_y"] (qj Tq8) rfl rfl rfl '$') (jt (zA (zx '%') (zA (zx '%') Zz))) (zU (pd_v qi 0)) (λ_ _ _ _ _ _=>ZF rfl (zj (zM (i:=13) (CompOk.of (k:=2) qR ["_law_cells", "_law_joins", "_law_low", "_law_high", "_law_signs", "", " ", "_law_one", "_law_other", "_law_rows", "_law_k", "_law_row", "_law_at", "_law_x", "_law_y"] (qj Tq8) rfl rfl rfl '$') rfl '$' _ _ _ _ _ _) (zj (zM (i:=14) (CompOk.of (k:=2) qR ["_law_cells", "_law_joins", "_law_low", "_law_high", "_law_signs", "", " ", "_law_one", "_law_other", "_law_rows", "_law_k", "_law_row", "_law_at", "_law_x", "_law_y"] (qj Tq8) rfl rfl rfl '$') rfl '$' _ _ _ _ _ _) Q6))) (λ_ _ _ _ _ _=>zF) (λ_ _ _ _ _ _=>q9 14 (qG '$') '%')))))
 refine qg (M1:=[]) ?_ ?_
 refine qI 3 ?_ ?_ ?_ ?_ ?_ ?_ ?_
 .exact qi.fs.nd
 .exact(qi.loc 3 rfl)
 .rfl
 .rfl
 .exact .inl rfl
 .decide
 exact qX (pda2 (qH (W0 hr) (qi.gl 1 rfl rfl) z_max ZR (pda1 (ZD (CompOk.of (k:=2) qR ["_law_cells", "_law_joins", "_law_low", "_law_high", "_law_signs", "", " ", "_law_one", "_law_other", "_law_rows", "_law_k", "_law_row", "_law_at", "_law_x", "_law_y"] (qj Tq8) rfl rfl rfl '$') (jt (zA (zx '%') (zA (zx '%') Zz))) (zU (pd_v qi 0)) (λ_ _ _ _ _ _=>ZF rfl (zj (zM (i:=13) (CompOk.of (k:=2) qR ["_law_cells", "_law_joins", "_law_low", "_law_high", "_law_signs", "", " ", "_law_one", "_law_other", "_law_rows", "_law_k", "_law_row", "_law_at", "_law_x", "_law_y"] (qj Tq8) rfl rfl rfl '$') rfl '$' _ _ _ _ _ _) (zj (zM (i:=14) (CompOk.of (k:=2) qR ["_law_cells", "_law_joins", "_law_low", "_law_high", "_law_signs", "", " ", "_law_one", "_law_other", "_law_rows", "_law_k", "_law_row", "_law_at", "_law_x", "_law_y"] (qj Tq8) rfl rfl rfl '$') rfl '$' _ _ _ _ _ _) Q6))) (λ_ _ _ _ _ _=>zF) (λ_ _ _ _ _ _=>q9 13 (qG '$') '%')))) (qH (W0 hr) (qi.gl 1 rfl rfl) z_max ZR (pda1 (ZD (CompOk.of (k:=2) qR ["_law_cells", "_law_joins", "_law_low", "_law_high", "_law_signs", "", " ", "_law_one", "_law_other", "_law_rows", "_law_k", "_law_row", "_law_at", "_law_x", "_law_y"] (qj Tq8) rfl rfl rfl '$') (jt (zA (zx '%') (zA (zx '%') Zz))) (zU (pd_v qi 0)) (λ_ _ _ _ _ _=>ZF rfl (zj (zM (i:=13) (CompOk.of (k:=2) qR ["_law_cells", "_law_joins", "_law_low", "_law_high", "_law_signs", "", " ", "_law_one", "_law_other", "_law_rows", "_law_k", "_law_row", "_law_at", "_law_x", "_law_y"] (qj Tq8) rfl rfl rfl '$') rfl '$' _ _ _ _ _ _) (zj (zM (i:=14) (CompOk.of (k:=2) qR ["_law_cells", "_law_joins", "_law_low", "_law_high", "_law_signs", "", " ", "_law_one", "_law_other", "_law_rows", "_law_k", "_law_row", "_law_at", "_law_x", "_law_y"] (qj Tq8) rfl rfl rfl '$') rfl '$' _ _ _ _ _ _) Q6))) (λ_ _ _ _ _ _=>zF) (λ_ _ _ _ _ _=>q9 14 (qG '$') '%')))))
 refine qg (M1:=[4]) ?_ ?_
 refine Qj 4 ?_ ?_ ?_ ?_ ?_ ?_ ?_ yE
 .exact qi.fs.nd
 .exact(qi.loc 4 rfl)
 .rfl
 .rfl
 .exact .inl rfl
 .decide
 .decide
 refine qg (M1:=[4]) (QH K9 rfl (zU (pd_v qi 0)) (λ_=>Z7 rfl (zg (zN qi 5) (zg (zN qi 6) Ze))) (λ_=>ql (ZG hr 4 (qi.vis 4 rfl) '%' '%' (qX (pda2 (qw jZ qd (pd_v qi 5)) (qw jZ qd (pd_v qi 6)))) jM))) ?_
 refine qg (M1:=[4]) (QH K9 rfl (yC (pd_v qi 1)) (λ_=>Z7 rfl (zg (zN qi 7) (zg (zN qi 8) Ze))) (λ_=>ql (ZG hr 4 (qi.vis 4 rfl) '%' '%' (qX (pda2 (qw Zg (zE (pd_v qi 7) qd) (zE (pd_v qi 8) qd)) (qw Zg (zE (pd_v qi 7) qd) (zE (pd_v qi 8) qd)))) (zE jM (qw Zg (qau hr (pd_v qi 1) (qX (pda2 (pd_v qi 7) (pd_v qi 8)))) qd))))) ?_
 refine qg (M1:=[9,4]) ?_ ?_
 refine Qj 9 ?_ ?_ ?_ ?_ ?_ ?_ ?_ (yF zZ)
 .exact qi.fs.nd
 .exact(qi.loc 9 rfl)
 .rfl
 .rfl
 .exact .inl rfl
 .decide
 .decide
 refine qg (M1:=[9]) ?_ (ql (qD (pd_v qi 9)))
 refine qbw [9] ?_ ?_ ?_
 .rfl
 .rfl
 refine jh K9 rfl (QV (qi.gl 2 rfl rfl) z_range (pda1 (qw Zg (qw jZ qd (qw Zu (zE (pd_v qi 3) qd) (zE (pd_v qi 2) qd))) qd))) (zN qi 10) ?_
 refine qg (M1:=[9]) ?_ ?_
 refine qI 11 ?_ ?_ ?_ ?_ ?_ ?_ jM
 .exact qi.fs.nd
 .exact(qi.loc 11 rfl)
 .rfl
 .rfl
 .exact .inl rfl
 .decide
 refine qg (M1:=[9]) ?_ (ql (jw 9 (qi.vis 9 rfl) '%' '%' (pd_v qi 11)))
 refine jh K9 rfl (QV (qi.gl 2 rfl rfl) z_range (pda1 (qw Zg (qw jZ qd (qw Zu (zE (pd_v qi 3) qd) (zE (pd_v qi 2) qd))) qd))) (zN qi 12) ?_
 refine ql ?_
 refine qI 11 ?_ ?_ ?_ ?_ ?_ ?_ ?_
 .exact qi.fs.nd
 .exact(qi.loc 11 rfl)
 .rfl
 .rfl
 .exact .inl rfl
 .decide
 exact qw Zg (pd_v qi 11) (qfj hr (pd_v qi 4) (qX (pda2 (qw Zg (qw jZ qd (zE (pd_v qi 2) qd)) (pd_v qi 12)) (qw Zu (qw jZ qd (zE (pd_v qi 3) qd)) (pd_v qi 10)))) jM)
abbrev Tq21:Ve:=top 55
noncomputable abbrev YD:List Str:=["_law_found", "_law_due", "_law_row"]
theorem zJ:ScOk YD ["_law_found", "_law_due"] ["isinstance", "list", "str"] (qj Tq21):=scmk ','
abbrev yr:Rho->Option Out:=(sIf (tN (tV (ev1 (vr 2) (isiD "str")))) (sRet (kd (.bool bE))) sN)
def JW:Rho->Option Out:=(seqO (sIf (tN (tV (ev1 (vr 0) (isiD "list")))) (sRet (kd (.bool bE))) sN) (seqO (sFor (evI (vr 0) seqD) (gNm 2) yr) (sRet (ev2 (vr 0) (vr 1) eqD))))
def Q4 (ds:ae):Option Ka:=ob (JW (rho0 YD.length ds)) outD
theorem qb9 (F:Fun K "_law_texts" "_law_texts" Tq21 f fd)(m:mg "_law_texts" = bB (.ref f))(b:Binds K fd ["_law_found", "_law_due"] [])(z_isinstance:mg "isinstance" = bC)(z_list:mg "list" = bC)(z_str:mg "str" = bC):Known P w K mg base "_law_texts" 2 1 Q4:=by
 refine⟨f,fd,["_law_found", "_law_due"],F.pure (k:=0) (u:=JW) (M':=[]) zJ.fs rfl '&',m,F.kp,b⟩
 exact qg (M1:=[]) (zu (Qk (Ql (JQ (T := "list") (qdl _) (zJ.gl 0 rfl rfl) z_isinstance (zJ.gl 1 rfl rfl) z_list rfl rfl (pd_v zJ 0)))) (ql (qD ye)) qZ) (qg (M1:=[]) (QH K9 rfl (zU (pd_v zJ 0)) (λ_=>zN zJ 2) (λ_=>ql (zu (Qk (Ql (JQ (T := "str") (qji _) (zJ.gl 0 rfl rfl) z_isinstance (zJ.gl 2 rfl rfl) z_str rfl rfl (pd_v zJ 2)))) (ql (qD ye)) qZ))) (ql (qD (j9 (d_eq hr) (pd_v zJ 0) (pd_v zJ 1) (zK _)))))
abbrev Tq14:Ve:=top 56
noncomputable abbrev Za:List Str:=["_law_rows", "_law_left", "_law_right", "_law_low", "_law_high", "_law_wide", "_law_made", "_law_row"]
theorem qJ:ScOk Za ["_law_rows", "_law_left", "_law_right", "_law_low", "_law_high"] ["len", "range"] (qj Tq14):=scmk ','
abbrev J5:Rho->Option Out:=(sApp 6 (ev2 (ev2 (ev2 (kd (.str ".")) (vr 1) jg) (vr 7) Zm) (ev2 (kd (.str ".")) (vr 2) jg) Zm))
def Z9:Rho->Option Out:=(seqO (sSet 5 (ev2 (ev2 (vr 1) (vr 2) Zm) (evA (aC (ev2 (vr 0) (kd (.int 0)) ixSD) aN) jW) Zm)) (seqO (QW 6 (ZM 8 (evR (aC (vr 4) aN) QJ) tT (ev2 (kd (.str ".")) (vr 5) jg))) (seqO (sFor (evI (vr 0) seqD) (gNm 7) J5) (sRet (ev2 (vr 6) (ZM 8 (evR (aC (vr 3) aN) QJ) tT (ev2 (kd (.str ".")) (vr 5) jg)) Zm)))))
def Zc (ds:ae):Option Ka:=ob (Z9 (rho0 Za.length ds)) outD
theorem qaP (F:Fun K "_law_framed" "_law_framed" Tq14 f fd)(m:mg "_law_framed" = bB (.ref f))(b:Binds K fd ["_law_rows", "_law_left", "_law_right", "_law_low", "_law_high"] [])(z_len:mg "len" = bC)(z_range:mg "range" = bC):Known P w K mg base "_law_framed" 5 1 Zc:=by
 refine⟨f,fd,["_law_rows", "_law_left", "_law_right", "_law_low", "_law_high"],F.pure (k:=0) (u:=Z9) (M':=[]) qJ.fs rfl '&',m,F.kp,b⟩
 refine qg (M1:=[]) ?_ (qg (M1:=[6]) (qhL 6 (CompOk.of (k:=1) Za ["_law_rows", "_law_left", "_law_right", "_law_low", "_law_high", "_law_wide", "_law_made", "_law_row", "_law_k"] (qj Tq14) rfl rfl rfl '$') rfl '$' (qj Tq14) rfl '$' '%' '%' (Z1 (qJ.gl 1 rfl rfl) z_range (pda1 (pd_v qJ 4))) (λ_ _ _ _ _ _=>zF) (λ_ _ _ _ _ _=>qw jZ jM (q9 5 (qG '$') '%'))) (qg (M1:=[6]) (QH K9 rfl (zU (pd_v qJ 0)) (λ_=>zN qJ 7) (λ_=>ql (jw 6 (qJ.vis 6 rfl) '%' '%' (qw Zg (qw Zg (qw jZ jM (pd_v qJ 1)) (pd_v qJ 7)) (qw jZ jM (pd_v qJ 2)))))) (ql (qD (qw Zg (pd_v qJ 6) (ju (CompOk.of (k:=1) Za ["_law_rows", "_law_left", "_law_right", "_law_low", "_law_high", "_law_wide", "_law_made", "_law_row", "_law_k"] (qj Tq14) rfl rfl rfl '$') rfl '$' (Z1 (qJ.gl 1 rfl rfl) z_range (pda1 (pd_v qJ 3))) (λ_ _ _ _ _ _=>zF) (λ_ _ _ _ _ _=>qw jZ jM (q9 5 (qG '$') '%'))))))))
 refine qI 5 ?_ ?_ ?_ ?_ ?_ ?_ (qw Zg (qw Zg (pd_v qJ 1) (pd_v qJ 2)) (qH yt (qJ.gl 0 rfl rfl) z_len Vu (pda1 (zE (pd_v qJ 0) qd))))
 .exact qJ.fs.nd
 .exact(qJ.loc 5 rfl)
 .rfl
 .rfl
 .exact .inl rfl
 .decide
abbrev Tq4:Ve:=top 21
noncomputable abbrev Qu:List Str:=["cells", "joins", "numbers", "bends", "k", "join", "pair"]
theorem qt:ScOk Qu ["cells", "joins"] ["numbers_of", "max", "min", "are_neighbours", "is_bend", "enumerate", "sorted"] (qj Tq4):=scmk ','
abbrev jE:Rho->Option Out:=(seqO (sSet 6 (evA (aC (evA (aC (ev2 (vr 5) (kd (.int 0)) ixD) (aC (ev2 (vr 5) (kd (.int 1)) ixD) aN)) j8) (aC (evA (aC (ev2 (vr 5) (kd (.int 0)) ixD) (aC (ev2 (vr 5) (kd (.int 1)) ixD) aN)) j7) aN)) tupD)) (seqO (sIf (tO (tN (tV (evC 2 (aC (vr 2) (aC (vr 6) aN)) Qw))) (tO (tN (tV (evC 1 (aC (ev2 (vr 5) (kd (.int 2)) ixD) aN) Jt))) (tV (ev2 (vr 6) (vr 3) in2D)))) sNo sN) (yf 3 (vr 6) (ev2 (vr 5) (kd (.int 2)) ixD))))
def Z4:Rho->Option Out:=(seqO (sSet 2 (evC 1 (aC (vr 0) aN) Zw)) (seqO (QW 3 (kd (.dict []))) (seqO (sFor (evI (vr 1) qc3) (unpD 2 (gsC (gNm 4) (gsC (gNm 5) gsN))) jE) (sRet (evA (aC (Q8 7 2 (evI (vr 3) qeb) (unpD 2 (gsC (gNm 7) (gsC (gNm 8) gsN))) tT (evA (aC (ev2 (vr 2) (ev2 (vr 7) (kd (.int 0)) ixD) ix2D) (aC (ev2 (vr 2) (ev2 (vr 7) (kd (.int 1)) ixD) ix2D) (aC (vr 8) aN))) tupD)) aN) Qq)))))
def Qc (ds:ae):Option Ka:=ob (Z4 (rho0 Qu.length ds)) outD
theorem wM (F:Fun K "numbered_joins" "numbered_joins" Tq4 f fd)(m:mg "numbered_joins" = bB (.ref f))(b:Binds K fd ["cells", "joins"] [])(cI:Known P w K mg base "numbers_of" 1 1 Zw)(bV:Known P w K mg base "are_neighbours" 2 2 Qw)(dc:Known P w K mg base "is_bend" 1 2 Jt)(z_max:mg "max" = bC)(z_min:mg "min" = bC)(z_enumerate:mg "enumerate" = bC)(z_sorted:mg "sorted" = bC):Known P w K mg base "numbered_joins" 2 3 Qc:=by
 refine⟨f,fd,["cells", "joins"],F.pure (k:=2) (u:=Z4) (M':=[]) qt.fs rfl '&',m,F.kp,b⟩
 refine qg (M1:=[]) ?_ ?_
 refine qI 2 ?_ ?_ ?_ ?_ ?_ ?_ (qu cI hr '%' (qt.gl 0 rfl rfl) (pda1 (pd_v qt 0)) rfl)
 .exact qt.fs.nd
 .exact(qt.loc 2 rfl)
 .rfl
 .rfl
 .exact .inl rfl
 .decide
 refine qg (M1:=[3]) ?_ ?_
 refine Qj 3 ?_ ?_ ?_ ?_ ?_ ?_ ?_ yE
 .exact qt.fs.nd
 .exact(qt.loc 3 rfl)
 .rfl
 .rfl
 .exact .inl rfl
 .decide
 .decide
 refine qg (M1:=[3]) ?_ (ql (qD (jL (yD (yz hr) (qt.gl 6 rfl rfl) z_sorted Zt (pda1 (ZD (CompOk.of (k:=2) Qu ["cells", "joins", "numbers", "bends", "k", "join", "", "pair", "bend"] (qj Tq4) rfl rfl rfl '$') (jt (zA (zx '%') (zA (zx '%') Zz))) (qf9 (pd_v qt 3)) (λ_ _ _ _ _ _=>ZF rfl (zj (zM (i:=7) (CompOk.of (k:=2) Qu ["cells", "joins", "numbers", "bends", "k", "join", "", "pair", "bend"] (qj Tq4) rfl rfl rfl '$') rfl '$' _ _ _ _ _ _) (zj (zM (i:=8) (CompOk.of (k:=2) Qu ["cells", "joins", "numbers", "bends", "k", "join", "", "pair", "bend"] (qj Tq4) rfl rfl rfl '$') rfl '$' _ _ _ _ _ _) Q6))) (λ_ _ _ _ _ _=>zF) (λ_ _ _ _ _ _=>qX (pda3 (qau hr (q9 2 (qG '$') '%') (qM (q9 7 (qG '$') '%') qd)) (qau hr (q9 2 (qG '$') '%') (qM (q9 7 (qG '$') '%') qd)) (q9 8 (qG '$') '%')))))))))
 refine QH K9 rfl (qdx (qt.gl 5 rfl rfl) z_enumerate (pd_v qt 1)) (λ_=>Z7 rfl (zg (zN qt 4) (zg (zN qt 5) Ze))) (λ_=>?_)
 refine qg (M1:=[3]) ?_ (qg (M1:=[3]) (zu (PDW.pdt (Ja (Qk (Ql (qu bV hr '%' (qt.gl 3 rfl rfl) (pda2 (pd_v qt 2) (pd_v qt 6)) rfl))) (Ja (Qk (Ql (qu dc hr '%' (qt.gl 4 rfl rfl) (pda1 (qM (pd_v qt 5) qd)) rfl))) (jx (zb (qgK hr) (pd_v qt 6) (pd_v qt 3) rfl))))) (ql Z2) qZ) (ql (ZG hr 3 (qt.vis 3 rfl) '%' '%' (pd_v qt 6) (qM (pd_v qt 5) qd))))
 refine qI 6 ?_ ?_ ?_ ?_ ?_ ?_ ?_
 .exact qt.fs.nd
 .exact(qt.loc 6 rfl)
 .rfl
 .rfl
 .exact .inl rfl
 .decide
 exact qX (pda2 (qH (qeM hr) (qt.gl 2 rfl rfl) z_min ZS (pda2 (qM (pd_v qt 5) qd) (qM (pd_v qt 5) qd))) (qH (qeL hr) (qt.gl 1 rfl rfl) z_max ZR (pda2 (qM (pd_v qt 5) qd) (qM (pd_v qt 5) qd))))
abbrev Tq38:Ve:=top 28
noncomputable abbrev yL:List Str:=["sheet", "cells", "signs", "cell", "i", "j", "bend", "height", "width"]
theorem qO:ScOk yL ["sheet"] ["place_of", "CELL", "between", "JOINS", "max", "range"] (qj Tq38):=scmk ','
abbrev qa4:Rho->Option Out:=(yf 2 (evC 2 (aC (vr 1) (aC (vr 3) aN)) Zi) (kd JG))
abbrev qa5:Rho->Option Out:=(yf 2 (evC 2 (aC (evC 2 (aC (vr 1) (aC (ev2 (vr 1) (vr 4) ixSD) aN)) Zi) (aC (evC 2 (aC (vr 1) (aC (ev2 (vr 1) (vr 5) ixSD) aN)) Zi) aN)) Js) (ev2 (kd jR) (ev2 (vr 6) (kd (.int 1)) Zm) ixSD))
def WR:Rho->Option Out:=(seqO (sSet 1 (ev2 (vr 0) (kd (.int 0)) ixSD)) (seqO (QW 2 (kd (.dict []))) (seqO (sFor (evI (vr 1) seqD) (gNm 3) qa4) (seqO (sFor (evI (ev2 (vr 0) (kd (.int 1)) ixSD) seqD) (unpD 3 (gsC (gNm 4) (gsC (gNm 5) (gsC (gNm 6) gsN)))) qa5) (seqO (sSet 7 (ev2 (kd (.int 1)) (evA (aC (ZM 9 (evI (vr 2) Wh) tT (ev2 (vr 9) (kd (.int 0)) ixSD)) aN) yc) Zm)) (seqO (sSet 8 (ev2 (kd (.int 1)) (evA (aC (ZM 9 (evI (vr 2) Wh) tT (ev2 (vr 9) (kd (.int 1)) ixSD)) aN) yc) Zm)) (sRet (ZM 9 (evR (aC (vr 7) aN) QJ) tT (evC 3 (aC (vr 2) (aC (vr 9) (aC (vr 8) aN))) ZX)))))))))
def jU (ds:ae):Option Ka:=ob (WR (rho0 yL.length ds)) outF
theorem qjf (F:Fun K "drawn" "drawn" Tq38 f fd)(m:mg "drawn" = bB (.ref f))(b:Binds K fd ["sheet"] [])(cv:Known P w K mg base "place_of" 2 1 Zi)(df:Known P w K mg base "between" 2 1 Js)(cZ:Known P w K mg base "row_text" 3 1 ZX)(z_max:mg "max" = bC)(z_range:mg "range" = bC)(cA:Qt K mg "CELL" JG)(bZ:Qt K mg "JOINS" jR):KnownN P w K mg base "drawn" 1 2 jU:=by
 refine⟨f,fd,["sheet"],F.new (k:=1) (u:=WR) (M':=[]) qO.fs rfl '&',m,F.kp,b⟩
 refine qg (M1:=[]) ?_ ?_
 refine qI 1 ?_ ?_ ?_ ?_ ?_ ?_ (zE (pd_v qO 0) qd)
 .exact qO.fs.nd
 .exact(qO.loc 1 rfl)
 .rfl
 .rfl
 .exact .inl rfl
 .decide
 refine qg (M1:=[2]) ?_ ?_
 refine Qj 2 ?_ ?_ ?_ ?_ ?_ ?_ ?_ yE
 .exact qO.fs.nd
 .exact(qO.loc 2 rfl)
 .rfl
 .rfl
 .exact .inl rfl
 .decide
 .decide
 refine qg (M1:=[2]) (QH K9 rfl (zU (pd_v qO 1)) (λ_=>zN qO 3) (λ_=>ql (ZG hr 2 (qO.vis 2 rfl) '%' '%' (qu cv hr '%' (qO.gl 0 rfl rfl) (pda2 (pd_v qO 1) (pd_v qO 3)) rfl) (Qx cA (qO.gl 1 rfl rfl))))) ?_
 refine qg (M1:=[2]) (QH K9 rfl (zU (zE (pd_v qO 0) qd)) (λ_=>Z7 rfl (zg (zN qO 4) (zg (zN qO 5) (zg (zN qO 6) Ze)))) (λ_=>ql (ZG hr 2 (qO.vis 2 rfl) '%' '%' (qu df hr '%' (qO.gl 2 rfl rfl) (pda2 (qu cv hr '%' (qO.gl 0 rfl rfl) (pda2 (pd_v qO 1) (zE (pd_v qO 1) (pd_v qO 4))) rfl) (qu cv hr '%' (qO.gl 0 rfl rfl) (pda2 (pd_v qO 1) (zE (pd_v qO 1) (pd_v qO 5))) rfl)) rfl) (zE (Qx bZ (qO.gl 3 rfl rfl)) (qw Zg (pd_v qO 6) qd))))) ?_
 refine qg (M1:=[]) ?_ ?_
 refine qbw [] ?_ ?_ ?_
 .rfl
 .rfl
 refine qI 7 ?_ ?_ ?_ ?_ ?_ ?_ (qw Zg qd (qH (W0 hr) (qO.gl 4 rfl rfl) z_max ZR (pda1 (ju (CompOk.of (k:=1) yL ["sheet", "cells", "signs", "cell", "i", "j", "bend", "height", "width", "place"] (qj Tq38) rfl rfl rfl '$') rfl '$' (yC (pd_v qO 2)) (λ_ _ _ _ _ _=>zF) (λ_ _ _ _ _ _=>zE (q9 9 (qG '$') '%') qd)))))
 .exact qO.fs.nd
 .exact(qO.loc 7 rfl)
 .rfl
 .rfl
 .exact .inl rfl
 .decide
 refine qg (M1:=[]) ?_ (ql (qhN (qjG (CompOk.of (k:=1) yL ["sheet", "cells", "signs", "cell", "i", "j", "bend", "height", "width", "row"] (qj Tq38) rfl rfl rfl '$') rfl '$' (Z1 (qO.gl 5 rfl rfl) z_range (pda1 (pd_v qO 7))) (λ_ _ _ _ _ _=>zF) (λ_ _ _ _ _ _=>qu cZ hr '%' (jV '$') (pda3 (q9 2 (qG '$') '%') (q9 9 (qG '$') '%') (q9 8 (qG '$') '%')) rfl))))
 refine qI 8 ?_ ?_ ?_ ?_ ?_ ?_ (qw Zg qd (qH (W0 hr) (qO.gl 4 rfl rfl) z_max ZR (pda1 (ju (CompOk.of (k:=1) yL ["sheet", "cells", "signs", "cell", "i", "j", "bend", "height", "width", "place"] (qj Tq38) rfl rfl rfl '$') rfl '$' (yC (pd_v qO 2)) (λ_ _ _ _ _ _=>zF) (λ_ _ _ _ _ _=>zE (q9 9 (qG '$') '%') qd)))))
 .exact qO.fs.nd
 .exact(qO.loc 8 rfl)
 .rfl
 .rfl
 .exact .inl rfl
 .decide
abbrev Tq0:Ve:=top 33
abbrev QL:List Str:=["rows"]
theorem qT:ScOk QL ["rows"] ["len", "is_fit", "any"] (qj Tq0):=scmk ','
def QX:Rho->Option Out:=(seqO (sIf (tN (tV (evC 1 (aC (evA (aC (vr 0) aN) jW) aN) Ju))) sNo sN) (sIf (tO (tN (tV (evC 1 (aC (evA (aC (ev2 (vr 0) (kd (.int 0)) ixSD) aN) jW) aN) Ju))) (tV (evA (aC (ZM 1 (evI (vr 0) seqD) tT (ev2 (evA (aC (vr 1) aN) jW) (evA (aC (ev2 (vr 0) (kd (.int 0)) ixSD) aN) jW) neD)) aN) anyD))) sNo sN))
def zT (ds:ae):Option Ka:=ob (QX (rho0 QL.length ds)) outD
theorem yx (F:Fun K "refuse_wrong_sizes" "refuse_wrong_sizes" Tq0 f fd)(m:mg "refuse_wrong_sizes" = bB (.ref f))(b:Binds K fd ["rows"] [])(c9:Known P w K mg base "is_fit" 1 1 Ju)(z_len:mg "len" = bC)(z_any:mg "any" = bC):Known P w K mg base "refuse_wrong_sizes" 1 2 zT:=by
 refine⟨f,fd,["rows"],F.pure (k:=1) (u:=QX) (M':=[]) qT.fs rfl '&',m,F.kp,b⟩
 exact qg (M1:=[]) (zu (Qk (Ql (qu c9 hr '%' (qT.gl 1 rfl rfl) (pda1 (qH yt (qT.gl 0 rfl rfl) z_len Vu (pda1 (pd_v qT 0)))) rfl))) (ql Z2) qZ) (ql (zu (PDW.pdt (Ja (Qk (Ql (qu c9 hr '%' (qT.gl 1 rfl rfl) (pda1 (qH yt (qT.gl 0 rfl rfl) z_len Vu (pda1 (zE (pd_v qT 0) qd)))) rfl))) (jx (Ql (qH (b_any rfl) (qT.gl 2 rfl rfl) z_any rfl (pda1 (ju (CompOk.of (k:=1) QL ["rows", "row"] (qj Tq0) rfl rfl rfl '$') rfl '$' (zU (pd_v qT 0)) (λ_ _ _ _ _ _=>zF) (λ_ _ _ _ _ _=>j9 (d_ne hr) (qH yt (jV '$') z_len Vu (pda1 (q9 1 (qG '$') '%'))) (qH yt (jV '$') z_len Vu (pda1 (zE (q9 0 (qG '$') '%') qd))) (zK _))))))))) (ql Z2) qZ))
abbrev Tq22:Ve:=top 39
abbrev YK:List Str:=["sheet"]
theorem Jz:ScOk YK ["sheet"] ["drawn"] (qj Tq22):=scmk ','
def J4:Rho->Option Out:=(sRet (ev1 (evC 1 (aC (vr 0) aN) jU) (Y4 "/")))
def Zy (ds:ae):Option Ka:=ob (J4 (rho0 YK.length ds)) outD
theorem qce (F:Fun K "sheet_text" "sheet_text" Tq22 f fd)(m:mg "sheet_text" = bB (.ref f))(b:Binds K fd ["sheet"] [])(cJ:KnownN P w K mg base "drawn" 1 2 jU):Known P w K mg base "sheet_text" 1 3 Zy:=by
 refine⟨f,fd,["sheet"],F.pure (k:=2) (u:=J4) (M':=[]) Jz.fs rfl '&',m,F.kp,b⟩
 exact ql (qD (Y9 (qu cJ.known hr '%' (Jz.gl 0 rfl rfl) (pda1 (pd_v Jz 0)) rfl)))
abbrev Tq23:Ve:=top 20
noncomputable abbrev YH:List Str:=["cells", "joins", "ordered"]
theorem zX:ScOk YH ["cells", "joins"] ["sorted", "numbered_joins"] (qj Tq23):=scmk ','
def JZ:Rho->Option Out:=(seqO (sSet 2 (evA (aC (vr 0) aN) Qq)) (sRet (evA (aC (vr 2) (aC (evC 2 (aC (vr 2) (aC (vr 1) aN)) Qc) aN)) tupD)))
def Zx (ds:ae):Option Ka:=ob (JZ (rho0 YH.length ds)) outD
theorem qcc (F:Fun K "sheet_from" "sheet_from" Tq23 f fd)(m:mg "sheet_from" = bB (.ref f))(b:Binds K fd ["cells", "joins"] [])(bW:Known P w K mg base "numbered_joins" 2 3 Qc)(z_sorted:mg "sorted" = bC):Known P w K mg base "sheet_from" 2 4 Zx:=by
 refine⟨f,fd,["cells", "joins"],F.pure (k:=3) (u:=JZ) (M':=[]) zX.fs rfl '&',m,F.kp,b⟩
 refine qg (M1:=[]) ?_ (ql (qD (qX (pda2 (pd_v zX 2) (qu bW hr '%' (zX.gl 1 rfl rfl) (pda2 (pd_v zX 2) (pd_v zX 1)) rfl)))))
 refine qI 2 ?_ ?_ ?_ ?_ ?_ ?_ (jL (yD (yz hr) (zX.gl 0 rfl rfl) z_sorted Zt (pda1 (pd_v zX 0))))
 .exact zX.fs.nd
 .exact(zX.loc 2 rfl)
 .rfl
 .rfl
 .exact .inl rfl
 .decide
abbrev Tq31:Ve:=top 19
noncomputable abbrev WW:List Str:=["cells", "joins", "count", "twice", "sheet", "apart"]
theorem qP:ScOk WW ["cells", "joins"] ["len", "MOST_CELLS", "least_twice", "sheet_from", "least_apart"] (qj Tq31):=scmk ','
def Yw:Rho->Option Out:=(seqO (sSet 2 (evA (aC (vr 0) aN) lenD)) (seqO (sIf (tN (tV (evCh (kd (.int 1)) (vr 2) (kd jq) leD leD))) sNo sN) (seqO (sSet 3 (evC 1 (aC (vr 0) aN) Zd)) (seqO (sIf (tV (ev2 (vr 3) (kd .none) isnD)) sNo sN) (seqO (sSet 4 (evC 2 (aC (vr 0) (aC (vr 1) aN)) Zx)) (seqO (sSet 5 (evC 2 (aC (vr 2) (aC (ev2 (vr 4) (kd (.int 1)) ixD) aN)) Qm)) (seqO (sIf (tV (ev2 (vr 5) (kd .none) isnD)) sNo sN) (sRet (vr 4)))))))))
def jH (ds:ae):Option Ka:=ob (Yw (rho0 WW.length ds)) outD
theorem qej (F:Fun K "sheet_of" "sheet_of" Tq31 f fd)(m:mg "sheet_of" = bB (.ref f))(b:Binds K fd ["cells", "joins"] [])(cD:Known P w K mg base "least_twice" 1 1 Zd)(cL:Known P w K mg base "sheet_from" 2 4 Zx)(cE:Known P w K mg base "least_apart" 2 2 Qm)(z_len:mg "len" = bC)(cM:Qt K mg "MOST_CELLS" jq):Known P w K mg base "sheet_of" 2 5 jH:=by
 refine⟨f,fd,["cells", "joins"],F.pure (k:=4) (u:=Yw) (M':=[]) qP.fs rfl '&',m,F.kp,b⟩
 refine qg (M1:=[]) ?_ ?_
 refine qI 2 ?_ ?_ ?_ ?_ ?_ ?_ (qH J8 (qP.gl 0 rfl rfl) z_len Vu (pda1 (pd_v qP 0)))
 .exact qP.fs.nd
 .exact(qP.loc 2 rfl)
 .rfl
 .rfl
 .exact .inl rfl
 .decide
 refine qg (M1:=[]) (zu (Qk (qge d_le d_le qd (pd_v qP 2) (Qx cM (qP.gl 1 rfl rfl)))) (ql Z2) qZ) ?_
 refine qg (M1:=[]) ?_ ?_
 refine qI 3 ?_ ?_ ?_ ?_ ?_ ?_ (qu cD hr '%' (qP.gl 2 rfl rfl) (pda1 (pd_v qP 0)) rfl)
 .exact qP.fs.nd
 .exact(qP.loc 3 rfl)
 .rfl
 .rfl
 .exact .inl rfl
 .decide
 refine qg (M1:=[]) (zu (zb qkd (pd_v qP 3) qav (zK _)) (ql Z2) qZ) ?_
 refine qg (M1:=[]) ?_ ?_
 refine qI 4 ?_ ?_ ?_ ?_ ?_ ?_ (qu cL hr '%' (qP.gl 3 rfl rfl) (pda2 (pd_v qP 0) (pd_v qP 1)) rfl)
 .exact qP.fs.nd
 .exact(qP.loc 4 rfl)
 .rfl
 .rfl
 .exact .inl rfl
 .decide
 refine qg (M1:=[]) ?_ (qg (M1:=[]) (zu (zb qkd (pd_v qP 5) qav (zK _)) (ql Z2) qZ) (ql (qD (pd_v qP 4))))
 refine qI 5 ?_ ?_ ?_ ?_ ?_ ?_ (qu cE hr '%' (qP.gl 4 rfl rfl) (pda2 (pd_v qP 2) (qM (pd_v qP 4) qd)) rfl)
 .exact qP.fs.nd
 .exact(qP.loc 5 rfl)
 .rfl
 .rfl
 .exact .inl rfl
 .decide
abbrev Tq39:Ve:=top 32
noncomputable abbrev qbK:List Str:=["rows", "cells", "joins", "row", "column", "sign", "ends"]
theorem qL:ScOk qbK ["rows"] ["refuse_wrong_sizes", "NOTHING", "ends_at", "signs_for", "all", "CELL", "cell_at", "JOINS", "len", "range", "sheet_of"] (qj Tq39):=scmk ','
abbrev yu:Rho->Option Out:=(seqO (sSet 5 (ev2 (ev2 (vr 0) (vr 3) ixSD) (vr 4) ixSD)) (seqO (sIf (tV (ev2 (vr 5) (kd ZV) eqD)) sCt sN) (seqO (sSet 6 (evC 2 (aC (vr 3) (aC (vr 4) aN)) Zq)) (seqO (sIf (tO (tV (ev2 (vr 5) (evC 1 (aC (vr 6) aN) je) qdq)) (tN (tV (evA (aC (ZM 7 (evI (vr 6) seqD) tT (ev2 (evC 2 (aC (vr 0) (aC (vr 7) aN)) Jv) (kd JG) eqD)) aN) allD)))) sNo sN) (sIf (tV (ev2 (vr 5) (kd JG) eqD)) (sApp 1 (evC 2 (aC (vr 0) (aC (ev2 (vr 6) (kd (.int 0)) ixSD) aN)) ZW)) (sApp 2 (evA (aC (evC 2 (aC (vr 0) (aC (ev2 (vr 6) (kd (.int 0)) ixSD) aN)) ZW) (aC (evC 2 (aC (vr 0) (aC (ev2 (vr 6) (kd (.int 1)) ixSD) aN)) ZW) (aC (ev2 (ev2 (kd jR) (vr 5) wA) (kd (.int 1)) subD) aN))) tupD)))))))
abbrev qcO:Rho->Option Out:=(sFor (evR (aC (evA (aC (ev2 (vr 0) (kd (.int 0)) ixSD) aN) jW) aN) QJ) (gNm 4) yu)
def qcK:Rho->Option Out:=(seqO (qid (evC 1 (aC (vr 0) aN) zT)) (seqO (QW 1 (evA aN lstD)) (seqO (QW 2 (evA aN lstD)) (seqO (sFor (evR (aC (evA (aC (vr 0) aN) jW) aN) QJ) (gNm 3) qcO) (sRet (evC 2 (aC (vr 1) (aC (vr 2) aN)) jH))))))
def JK (ds:ae):Option Ka:=ob (qcK (rho0 qbK.length ds)) outD
theorem qk8 (F:Fun K "seen" "seen" Tq39 f fd)(m:mg "seen" = bB (.ref f))(b:Binds K fd ["rows"] [])(bO:Known P w K mg base "refuse_wrong_sizes" 1 2 zT)(dg:Known P w K mg base "ends_at" 2 1 Zq)(cU:Known P w K mg base "signs_for" 1 1 je)(dh:Known P w K mg base "sign_at" 2 1 Jv)(cG:Known P w K mg base "cell_at" 2 1 ZW)(c4:Known P w K mg base "sheet_of" 2 5 jH)(z_all:mg "all" = bC)(z_range:mg "range" = bC)(z_len:mg "len" = bC)(cj:Qt K mg "NOTHING" ZV)(cA:Qt K mg "CELL" JG)(bZ:Qt K mg "JOINS" jR):Known P w K mg base "seen" 1 6 JK:=by
 refine⟨f,fd,["rows"],F.pure (k:=5) (u:=qcK) (M':=[]) qL.fs rfl '&',m,F.kp,b⟩
 refine qg (M1:=[]) (qhM (qu bO hr '%' (qL.gl 0 rfl rfl) (pda1 (pd_v qL 0)) rfl)) ?_
 refine qg (M1:=[1]) ?_ ?_
 refine Qj 1 ?_ ?_ ?_ ?_ ?_ ?_ ?_ (yF zZ)
 .exact qL.fs.nd
 .exact(qL.loc 1 rfl)
 .rfl
 .rfl
 .exact .inl rfl
 .decide
 .decide
 refine qg (M1:=[2,1]) ?_ ?_
 refine Qj 2 ?_ ?_ ?_ ?_ ?_ ?_ ?_ (yF zZ)
 .exact qL.fs.nd
 .exact(qL.loc 2 rfl)
 .rfl
 .rfl
 .exact .inl rfl
 .decide
 .decide
 refine qg (M1:=[2,1]) ?_ (ql (qD (qu c4 hr '%' (qL.gl 10 rfl rfl) (pda2 (pd_v qL 1) (pd_v qL 2)) rfl)))
 refine jh K9 rfl (QV (qL.gl 9 rfl rfl) z_range (pda1 (qH yt (qL.gl 8 rfl rfl) z_len Vu (pda1 (pd_v qL 0))))) (zN qL 3) ?_
 refine ql ?_
 refine jh K9 rfl (QV (qL.gl 9 rfl rfl) z_range (pda1 (qH yt (qL.gl 8 rfl rfl) z_len Vu (pda1 (zE (pd_v qL 0) qd))))) (zN qL 4) ?_
 refine qg (M1:=[2,1]) ?_ ?_
 refine qI 5 ?_ ?_ ?_ ?_ ?_ ?_ (zE (zE (pd_v qL 0) (pd_v qL 3)) (pd_v qL 4))
 .exact qL.fs.nd
 .exact(qL.loc 5 rfl)
 .rfl
 .rfl
 .exact .inl rfl
 .decide
 refine qg (M1:=[2,1]) (zu (zb (d_eq hr) (pd_v qL 5) (Qx cj (qL.gl 1 rfl rfl)) (zK _)) (ql qcs) qZ) ?_
 refine qg (M1:=[2,1]) ?_ (qg (M1:=[2,1]) (zu (PDW.pdt (Ja (zb (qgN hr) (pd_v qL 5) (qu cU hr '%' (qL.gl 3 rfl rfl) (pda1 (pd_v qL 6)) rfl) rfl) (jx (Qk (Ql (qH (b_all rfl) (qL.gl 4 rfl rfl) z_all rfl (pda1 (ju (CompOk.of (k:=1) qbK ["rows", "cells", "joins", "row", "column", "sign", "ends", "end"] (qj Tq39) rfl rfl rfl '$') rfl '$' (zU (pd_v qL 6)) (λ_ _ _ _ _ _=>zF) (λ_ _ _ _ _ _=>j9 (d_eq hr) (qu dh hr '%' (jV '$') (pda2 (q9 0 (qG '$') '%') (q9 7 (qG '$') '%')) rfl) (Qx cA (jV '$')) (zK _)))))))))) (ql Z2) qZ) (ql (zu (zb (d_eq hr) (pd_v qL 5) (Qx cA (qL.gl 5 rfl rfl)) (zK _)) (ql (jw 1 (qL.vis 1 rfl) '%' '%' (qu cG hr '%' (qL.gl 6 rfl rfl) (pda2 (pd_v qL 0) (zE (pd_v qL 6) qd)) rfl))) (ql (jw 2 (qL.vis 2 rfl) '%' '%' (qX (pda3 (qu cG hr '%' (qL.gl 6 rfl rfl) (pda2 (pd_v qL 0) (zE (pd_v qL 6) qd)) rfl) (qu cG hr '%' (qL.gl 6 rfl rfl) (pda2 (pd_v qL 0) (zE (pd_v qL 6) qd)) rfl) (qw Zu (qf8 (Qx bZ (qL.gl 7 rfl rfl)) (pd_v qL 5)) qd))))))))
 refine qI 6 ?_ ?_ ?_ ?_ ?_ ?_ (qu dg hr '%' (qL.gl 2 rfl rfl) (pda2 (pd_v qL 3) (pd_v qL 4)) rfl)
 .exact qL.fs.nd
 .exact(qL.loc 6 rfl)
 .rfl
 .rfl
 .exact .inl rfl
 .decide
abbrev Tq24:Ve:=top 40
abbrev YJ:List Str:=["text"]
theorem Jy:ScOk YJ ["text"] ["seen"] (qj Tq24):=scmk ','
def J0:Rho->Option Out:=(sRet (evC 1 (aC (ev1 (vr 0) (qcH "/")) aN) JK))
def Q5 (ds:ae):Option Ka:=ob (J0 (rho0 YJ.length ds)) outD
theorem qcd (F:Fun K "sheet_read" "sheet_read" Tq24 f fd)(m:mg "sheet_read" = bB (.ref f))(b:Binds K fd ["text"] [])(c5:Known P w K mg base "seen" 1 6 JK):Known P w K mg base "sheet_read" 1 7 Q5:=by
 refine⟨f,fd,["text"],F.pure (k:=6) (u:=J0) (M':=[]) Jy.fs rfl '&',m,F.kp,b⟩
 exact ql (qD (qu c5 hr '%' (Jy.gl 0 rfl rfl) (pda1 (jL (qhX (pd_v Jy 0)))) rfl))
abbrev Tq40:Ve:=top 57
noncomputable abbrev YG:List Str:=["_law_script", "_law_plain", "_law_plain_joins", "_law_shift", "_law_found", "_law_joins", "_law_sheet_here", "_law_due", "_law_told", "_law_low", "_law_cells", "_law_frame", "_law_left", "_law_up", "_law_rows"]
theorem qz:ScOk YG ["_law_script"] ["_law_most", "_law_steps", "_law_grown", "_law_cell_at", "_law_offset", "_law_moved_cells", "_law_sheet", "_law_painted", "drawn", "_law_texts", "sheet_text", "min", "seen", "_law_sheet_alike", "sheet_read", "_law_framed"] (qj Tq40):=scmk ','
def qfz:Rho->Option Out:=(seqO (sAsg (evC 2 (aC (evC 3 (aC (vr 0) (aC (kd (.int 3)) (aC (kd (.int 312)) aN))) Q3) (aC (evC 3 (aC (vr 0) (aC (kd (.int 3)) (aC (kd (.int 26)) aN))) Zo) aN)) Zv) (unpD 2 (gsC (gNm 1) (gsC (gNm 2) gsN)))) (seqO (sSet 3 (evA (aC (evC 1 (aC (evC 2 (aC (vr 0) (aC (kd (.int 0)) aN)) qW) aN) zH) (aC (evC 1 (aC (evC 2 (aC (vr 0) (aC (kd (.int 1)) aN)) qW) aN) zH) aN)) tupD)) (seqO (sAsg (evC 3 (aC (vr 1) (aC (vr 2) (aC (vr 3) aN))) qU) (unpD 2 (gsC (gNm 4) (gsC (gNm 5) gsN)))) (seqO (sSet 6 (evC 2 (aC (vr 4) (aC (vr 5) aN)) zY)) (seqO (sSet 7 (evC 2 (aC (vr 4) (aC (vr 5) aN)) QQ)) (seqO (QW 8 (evC 1 (aC (vr 6) aN) jU)) (seqO (sIf (tO (tN (tV (evC 2 (aC (vr 8) (aC (vr 7) aN)) Q4))) (tV (ev2 (evC 1 (aC (vr 6) aN) Zy) (ev1 (vr 7) (Y4 "/")) neD))) (sRet (kd (.bool bE))) sN) (seqO (sSet 9 (evA (aC (evA (aC (Q8 15 2 (evI (vr 1) seqD) (unpD 2 (gsC (gNm 15) (gsC (gNm 16) gsN))) tT (vr 15)) aN) Yc) (aC (evA (aC (Q8 15 2 (evI (vr 1) seqD) (unpD 2 (gsC (gNm 15) (gsC (gNm 16) gsN))) tT (vr 16)) aN) Yc) aN)) tupD)) (seqO (sAsg (evC 3 (aC (vr 1) (aC (vr 2) (aC (evA (aC (ev1 (ev2 (vr 9) (kd (.int 0)) ixD) negD) (aC (ev1 (ev2 (vr 9) (kd (.int 1)) ixD) negD) aN)) tupD) aN))) qU) (unpD 2 (gsC (gNm 10) (gsC (gNm 5) gsN)))) (seqO (sIf (tO (tN (tV (evC 2 (aC (evC 1 (aC (vr 8) aN) JK) (aC (evC 2 (aC (vr 10) (aC (vr 5) aN)) zY) aN)) zm))) (tV (ev2 (vr 8) (vr 7) neD))) (sRet (kd (.bool bE))) sN) (seqO (sIf (tN (tV (evC 2 (aC (evC 1 (aC (ev1 (vr 7) (Y4 "/")) aN) Q5) (aC (evC 2 (aC (vr 10) (aC (vr 5) aN)) zY) aN)) zm))) (sRet (kd (.bool bE))) sN) (seqO (sSet 11 (ev2 (evC 2 (aC (vr 0) (aC (kd (.int 2)) aN)) qW) (kd (.int 81)) modD)) (seqO (sSet 12 (ev2 (vr 11) (kd (.int 3)) modD)) (seqO (sSet 13 (ev2 (ev2 (vr 11) (kd (.int 9)) jf) (kd (.int 3)) modD)) (seqO (sSet 14 (evC 5 (aC (vr 7) (aC (ev2 (kd (.int 2)) (vr 12) mulD) (aC (ev2 (ev2 (ev2 (vr 11) (kd (.int 3)) jf) (kd (.int 3)) modD) (kd (.int 2)) mulD) (aC (ev2 (kd (.int 2)) (vr 13) mulD) (aC (ev2 (ev2 (vr 11) (kd (.int 27)) jf) (kd (.int 2)) mulD) aN))))) Zc)) (seqO (sAsg (evC 3 (aC (vr 10) (aC (vr 5) (aC (evA (aC (vr 12) (aC (vr 13) aN)) tupD) aN))) qU) (unpD 2 (gsC (gNm 10) (gsC (gNm 5) gsN)))) (seqO (sIf (tN (tV (evC 2 (aC (evC 1 (aC (vr 14) aN) JK) (aC (evC 2 (aC (vr 10) (aC (vr 5) aN)) zY) aN)) zm))) (sRet (kd (.bool bE))) sN) (seqO (sApp 8 (kd (.str ""))) (sRet (vA (evC 2 (aC (evC 1 (aC (vr 6) aN) jU) (aC (vr 7) aN)) Q4) (evC 2 (aC (evC 1 (aC (ev1 (vr 14) (Y4 "/")) aN) Q5) (aC (evC 2 (aC (vr 10) (aC (vr 5) aN)) zY) aN)) zm)))))))))))))))))))))
def qgT (ds:ae):Option Ka:=ob (qfz (rho0 YG.length ds)) outD
theorem qll (F:Fun K "law" "law" Tq40 f fd)(cN:Known P w K mg base "_law_grown" 2 2 Zv)(cV:Known P w K mg base "_law_most" 3 2 Zo)(cO:Known P w K mg base "_law_steps" 3 2 Q3)(bX:Known P w K mg base "_law_offset" 1 1 zH)(bF:Known P w K mg base "_law_cell_at" 2 1 qW)(bJ:Known P w K mg base "_law_moved_cells" 3 1 qU)(bN:Known P w K mg base "_law_sheet" 2 1 zY)(cw:Known P w K mg base "_law_painted" 2 1 QQ)(cJ:KnownN P w K mg base "drawn" 1 2 jU)(cf:Known P w K mg base "_law_texts" 2 1 Q4)(cP:Known P w K mg base "sheet_text" 1 3 Zy)(bI:Known P w K mg base "_law_sheet_alike" 2 3 zm)(c5:Known P w K mg base "seen" 1 6 JK)(cg:Known P w K mg base "sheet_read" 1 7 Q5)(cF:Known P w K mg base "_law_framed" 5 1 Zc)(z_min:mg "min" = bC):FnOk P w K mg base CX0 8 f fd ["_law_script"] (spF K 1 qgT):=by
 refine F.pure (k:=7) (u:=qfz) (M':=[]) qz.fs rfl '&'
 refine qg (M1:=[]) (WN (qu cN hr '%' (qz.gl 2 rfl rfl) (pda2 (qu cO hr '%' (qz.gl 1 rfl rfl) (pda3 (pd_v qz 0) qd qd) rfl) (qu cV hr '%' (qz.gl 0 rfl rfl) (pda3 (pd_v qz 0) qd qd) rfl)) rfl) (Z7 rfl (zg (zN qz 1) (zg (zN qz 2) Ze)))) ?_
 refine qg (M1:=[]) ?_ ?_
 refine qI 3 ?_ ?_ ?_ ?_ ?_ ?_ ?_
 .exact qz.fs.nd
 .exact(qz.loc 3 rfl)
 .rfl
 .rfl
 .exact .inl rfl
 .decide
 exact qX (pda2 (qu bX hr '%' (qz.gl 4 rfl rfl) (pda1 (qu bF hr '%' (qz.gl 3 rfl rfl) (pda2 (pd_v qz 0) qd) rfl)) rfl) (qu bX hr '%' (qz.gl 4 rfl rfl) (pda1 (qu bF hr '%' (qz.gl 3 rfl rfl) (pda2 (pd_v qz 0) qd) rfl)) rfl))
 refine qg (M1:=[]) (WN (qu bJ hr '%' (qz.gl 5 rfl rfl) (pda3 (pd_v qz 1) (pd_v qz 2) (pd_v qz 3)) rfl) (Z7 rfl (zg (zN qz 4) (zg (zN qz 5) Ze)))) ?_
 refine qg (M1:=[]) ?_ ?_
 refine qI 6 ?_ ?_ ?_ ?_ ?_ ?_ (qu bN hr '%' (qz.gl 6 rfl rfl) (pda2 (pd_v qz 4) (pd_v qz 5)) rfl)
 .exact qz.fs.nd
 .exact(qz.loc 6 rfl)
 .rfl
 .rfl
 .exact .inl rfl
 .decide
 refine qg (M1:=[]) ?_ ?_
 refine qI 7 ?_ ?_ ?_ ?_ ?_ ?_ (qu cw hr '%' (qz.gl 7 rfl rfl) (pda2 (pd_v qz 4) (pd_v qz 5)) rfl)
 .exact qz.fs.nd
 .exact(qz.loc 7 rfl)
 .rfl
 .rfl
 .exact .inl rfl
 .decide
 refine qg (M1:=[8]) ?_ ?_
 refine Qj 8 ?_ ?_ ?_ ?_ ?_ ?_ ?_ (qhW cJ hr '%' (qz.gl 8 rfl rfl) (pda1 (pd_v qz 6)) rfl)
 .exact qz.fs.nd
 .exact(qz.loc 8 rfl)
 .rfl
 .rfl
 .exact .inl rfl
 .decide
 .decide
 refine qg (M1:=[8]) (zu (PDW.pdt (Ja (Qk (Ql (qu cf hr '%' (qz.gl 9 rfl rfl) (pda2 (pd_v qz 8) (pd_v qz 7)) rfl))) (jx (zb (d_ne hr) (qu cP hr '%' (qz.gl 10 rfl rfl) (pda1 (pd_v qz 6)) rfl) (Y9 (pd_v qz 7)) (zK _))))) (ql (qD ye)) qZ) ?_
 refine qg (M1:=[8]) ?_ ?_
 refine qI 9 ?_ ?_ ?_ ?_ ?_ ?_ ?_
 .exact qz.fs.nd
 .exact(qz.loc 9 rfl)
 .rfl
 .rfl
 .exact .inl rfl
 .decide
 exact qX (pda2 (qH (W3 hr) (qz.gl 11 rfl rfl) z_min ZS (pda1 (ZD (CompOk.of (k:=2) YG ["_law_script", "_law_plain", "_law_plain_joins", "_law_shift", "_law_found", "_law_joins", "_law_sheet_here", "_law_due", "_law_told", "_law_low", "_law_cells", "_law_frame", "_law_left", "_law_up", "_law_rows", "_law_x", "_law_y"] (qj Tq40) rfl rfl rfl '$') (jt (zA (zx '%') (zA (zx '%') Zz))) (zU (pd_v qz 1)) (λ_ _ _ _ _ _=>ZF rfl (zj (zM (i:=15) (CompOk.of (k:=2) YG ["_law_script", "_law_plain", "_law_plain_joins", "_law_shift", "_law_found", "_law_joins", "_law_sheet_here", "_law_due", "_law_told", "_law_low", "_law_cells", "_law_frame", "_law_left", "_law_up", "_law_rows", "_law_x", "_law_y"] (qj Tq40) rfl rfl rfl '$') rfl '$' _ _ _ _ _ _) (zj (zM (i:=16) (CompOk.of (k:=2) YG ["_law_script", "_law_plain", "_law_plain_joins", "_law_shift", "_law_found", "_law_joins", "_law_sheet_here", "_law_due", "_law_told", "_law_low", "_law_cells", "_law_frame", "_law_left", "_law_up", "_law_rows", "_law_x", "_law_y"] (qj Tq40) rfl rfl rfl '$') rfl '$' _ _ _ _ _ _) Q6))) (λ_ _ _ _ _ _=>zF) (λ_ _ _ _ _ _=>q9 15 (qG '$') '%')))) (qH (W3 hr) (qz.gl 11 rfl rfl) z_min ZS (pda1 (ZD (CompOk.of (k:=2) YG ["_law_script", "_law_plain", "_law_plain_joins", "_law_shift", "_law_found", "_law_joins", "_law_sheet_here", "_law_due", "_law_told", "_law_low", "_law_cells", "_law_frame", "_law_left", "_law_up", "_law_rows", "_law_x", "_law_y"] (qj Tq40) rfl rfl rfl '$') (jt (zA (zx '%') (zA (zx '%') Zz))) (zU (pd_v qz 1)) (λ_ _ _ _ _ _=>ZF rfl (zj (zM (i:=15) (CompOk.of (k:=2) YG ["_law_script", "_law_plain", "_law_plain_joins", "_law_shift", "_law_found", "_law_joins", "_law_sheet_here", "_law_due", "_law_told", "_law_low", "_law_cells", "_law_frame", "_law_left", "_law_up", "_law_rows", "_law_x", "_law_y"] (qj Tq40) rfl rfl rfl '$') rfl '$' _ _ _ _ _ _) (zj (zM (i:=16) (CompOk.of (k:=2) YG ["_law_script", "_law_plain", "_law_plain_joins", "_law_shift", "_law_found", "_law_joins", "_law_sheet_here", "_law_due", "_law_told", "_law_low", "_law_cells", "_law_frame", "_law_left", "_law_up", "_law_rows", "_law_x", "_law_y"] (qj Tq40) rfl rfl rfl '$') rfl '$' _ _ _ _ _ _) Q6))) (λ_ _ _ _ _ _=>zF) (λ_ _ _ _ _ _=>q9 16 (qG '$') '%')))))
 refine qg (M1:=[8]) (WN (qu bJ hr '%' (qz.gl 5 rfl rfl) (pda3 (pd_v qz 1) (pd_v qz 2) (qX (pda2 (qhJ qgM (qM (pd_v qz 9) qd)) (qhJ qgM (qM (pd_v qz 9) qd))))) rfl) (Z7 rfl (zg (zN qz 10) (zg (zN qz 5) Ze)))) ?_
 refine qg (M1:=[8]) (zu (PDW.pdt (Ja (Qk (Ql (qu bI hr '%' (qz.gl 13 rfl rfl) (pda2 (qu c5 hr '%' (qz.gl 12 rfl rfl) (pda1 (pd_v qz 8)) rfl) (qu bN hr '%' (qz.gl 6 rfl rfl) (pda2 (pd_v qz 10) (pd_v qz 5)) rfl)) rfl))) (jx (zb (d_ne hr) (pd_v qz 8) (pd_v qz 7) (zK _))))) (ql (qD ye)) qZ) ?_
 refine qg (M1:=[8]) (zu (Qk (Ql (qu bI hr '%' (qz.gl 13 rfl rfl) (pda2 (qu cg hr '%' (qz.gl 14 rfl rfl) (pda1 (Y9 (pd_v qz 7))) rfl) (qu bN hr '%' (qz.gl 6 rfl rfl) (pda2 (pd_v qz 10) (pd_v qz 5)) rfl)) rfl))) (ql (qD ye)) qZ) ?_
 refine qg (M1:=[8]) ?_ ?_
 refine qI 11 ?_ ?_ ?_ ?_ ?_ ?_ (qw Qh (qu bF hr '%' (qz.gl 3 rfl rfl) (pda2 (pd_v qz 0) qd) rfl) qd)
 .exact qz.fs.nd
 .exact(qz.loc 11 rfl)
 .rfl
 .rfl
 .exact .inl rfl
 .decide
 refine qg (M1:=[8]) ?_ ?_
 refine qI 12 ?_ ?_ ?_ ?_ ?_ ?_ (qw Qh (pd_v qz 11) qd)
 .exact qz.fs.nd
 .exact(qz.loc 12 rfl)
 .rfl
 .rfl
 .exact .inl rfl
 .decide
 refine qg (M1:=[8]) ?_ ?_
 refine qI 13 ?_ ?_ ?_ ?_ ?_ ?_ (qw Qh (qw Zh (pd_v qz 11) qd) qd)
 .exact qz.fs.nd
 .exact(qz.loc 13 rfl)
 .rfl
 .rfl
 .exact .inl rfl
 .decide
 refine qg (M1:=[8]) ?_ (qg (M1:=[8]) (WN (qu bJ hr '%' (qz.gl 5 rfl rfl) (pda3 (pd_v qz 10) (pd_v qz 5) (qX (pda2 (pd_v qz 12) (pd_v qz 13)))) rfl) (Z7 rfl (zg (zN qz 10) (zg (zN qz 5) Ze)))) (qg (M1:=[8]) (zu (Qk (Ql (qu bI hr '%' (qz.gl 13 rfl rfl) (pda2 (qu c5 hr '%' (qz.gl 12 rfl rfl) (pda1 (pd_v qz 14)) rfl) (qu bN hr '%' (qz.gl 6 rfl rfl) (pda2 (pd_v qz 10) (pd_v qz 5)) rfl)) rfl))) (ql (qD ye)) qZ) (qg (M1:=[8]) (jw 8 (qz.vis 8 rfl) '%' '%' jM) (ql (qD (Yq (qu cf hr '%' (qz.gl 9 rfl rfl) (pda2 (qu cJ.known hr '%' (qz.gl 8 rfl rfl) (pda1 (pd_v qz 6)) rfl) (pd_v qz 7)) rfl) (wU (qu bI hr '%' (qz.gl 13 rfl rfl) (pda2 (qu cg hr '%' (qz.gl 14 rfl rfl) (pda1 (Y9 (pd_v qz 14))) rfl) (qu bN hr '%' (qz.gl 6 rfl rfl) (pda2 (pd_v qz 10) (pd_v qz 5)) rfl)) rfl))))))))
 refine qI 14 ?_ ?_ ?_ ?_ ?_ ?_ (qu cF hr '%' (qz.gl 15 rfl rfl) (zy (pd_v qz 7) (zy (qw jl qd (pd_v qz 12)) (zy (qw jl (qw Qh (qw Zh (pd_v qz 11) qd) qd) qd) (zy (qw jl qd (pd_v qz 13)) (zy (qw jl (qw Zh (pd_v qz 11) qd) qd) zZ))))) rfl)
 .exact qz.fs.nd
 .exact(qz.loc 14 rfl)
 .rfl
 .rfl
 .exact .inl rfl
 .decide
end SF
local macro_rules
 | `(tactic| simp_arith [$ts,*] $[$loc]?)=> do
  let q := ("L2.rho0 Km V9 Kv Uu Nat.reduceAdd Nat.reduceSub EE Nat.sub_self N1 List.replicate_zero List.cons_append Xz Vw L2.qig L2.qcR L2.qgz L2.qgx L2.qgy L2.ifO_t L2.ifO_f L2.sIf_b L2.tA_b L2.tO_b L2.vA_b L2.vN L2.ql0 L2.ql3 L2.qlW L2.qkE L2.nxO_s L2.qlZ L2.qlS L2.sN L2.sBk L2.sCt L2.tV L2.tN L2.tT L2.ev2_b L2.qkG L2.ev1 L2.vr_z L2.vr_s L2.kd L2.evA L2.evC_b L2.qiF L2.evC0 L2.aC_b L2.qiO L2.aN L2.qld L2.qle L2.tupD L2.lstD L2.qky L2.ql9 L2.qli L2.qgU L2.JN L2.pow_a L2.pow_b L2.qiZ L2.qjm L2.qlg L2.leD_i L2.qiE L2.ixD_l L2.ixD_t L2.atI0 L2.atI1 L2.atI2 L2.atI3 L2.atI4 L2.atI5 L2.qlt L2.qls L2.ob_s L2.gNm L2.gsN_n L2.gsC_c L2.qmn List.set_cons_zero List.set_cons_succ List.set_nil L2.evI L2.evR L2.ql1 L2.ql2 L2.Q7 L2.rngL L2.qiM L2.qiI L2.qeS L2.qiK L2.qeV L2.qeU L2.qjj L2.qlX L2.qkT L2.qae L2.qkS L2.WL L2.qe6 L2.qi3 L2.qi4 if_true if_false Vz Ee Bool.not_false Nat.reduceLeDiff and_self and_true true_and Int.reduceToNat Int.reduceAdd Int.reduceSub Int.reduceLE Int.reduceLT Int.reduceNeg reduceIte L2.isiD L2.qk2 L2.qkZ L2.qkY L2.qkX L2.qk1 L2.qk0 String.reduceBEq L2.natLit Int.reduceBEq EH Bool.or_true XY Bool.or_false L2.qjY L2.qmc L2.qi1 L2.qkQ L2.qlV L2.qkD L2.qd2 L2.qlu L2.qk4 L2.qk3 L2.evS_b L2.ql8 L2.oN L2.oS_b L2.qlI Nat.reduceLT decide_true decide_false L2.qie L2.qlH L2.qlG L2.qhs L2.qht L2.qif L2.qkO L2.qkF L2.qj9 L2.qkx L2.qiy L2.qiz L2.qjX L2.qjg L2.qjh L2.qkN L2.chO_t L2.chO_f L2.qiA L2.qiW L2.qiX L2.enL_n L2.enL_c L2.qeX L2.qiN L2.qeR L2.qeP L2.qiJ L2.qiL L2.qiH L2.qjV L2.dpO_s L2.qlk L2.ev3_b L2.qmf".splitOn " ").toArray.map λs => Lean.mkIdent s.toName
  `(tactic| simp only[$[$q:term],*, $ts,*] $[$loc]?)
namespace SF
open PySem L2
def Qo (ns:aF)(k:Int):Int:=ns.getD k.toNat 0
theorem qeN {ns:aF}(h:∀k∈ns,Uk k<=2 ^ 20)(k:Int):Bd 1048576 (Qo ns k):=by
 unfold Qo
 by_cases hk:k.toNat<ns.length
 .rw[Ue,Kj hk]
  exact h _ (VF hk)
 .rw[Ue,XO '#']
  show Uk 0<=1048576
  decide
theorem cell_eq (ns:aF)(k:Int)(hk:0<=k):qW [.list (ns.map .int),.int k]=bB (.int (Qo ns k)):=by
 delta qW jN
 simp_arith []
 by_cases h:k<((ns.map Kt).length:Int)
 .have h':k.toNat<ns.length:=by rw[Kc]at h;omega
  have e:atI (ns.map Kt) k=bB (.int (Qo ns k)):=by
   have e1:((k.toNat:Nat):Int)=k:=by omega
   have:=qeK (xs:=ns.map Kt) (j:=k.toNat) (v:=.int (Qo ns k)) (by
    rw[KJ,Kj h']
    unfold Qo
    rw[Ue,Kj h']
    rfl)
   rw[e1]at this
   exact this
  simp_arith [sh h,e]
 .have h':¬k.toNat<ns.length:=by rw[Kc]at h;omega
  have e:Qo ns k=0:=by
   unfold Qo
   rw[Ue,XO '#']
   rfl
  simp_arith [se h,e]
noncomputable abbrev Sp:=Int×Int×Int
def eS (s:Sp):Ka:=.tuple [.int s.1,.int s.2.1,.int s.2.2]
def l3 (s:Sp):List Int:=[s.1,s.2.1,s.2.2]
def b3:List Int->Sp
 |[a,b,c]=>(a,b,c)
 |_=>(0,0,0)
theorem qhr (xs:List Sp):xs.map eS=(xs.map l3).map tI:=by rw[Kx];rfl
theorem qbC {xs:List Sp}(h:xs.length<64):∃ys:List Sp,Qq [.list (xs.map eS)]=bB (.list (ys.map eS))/\ys.Perm xs/\(ys.map l3).Pairwise (λa b=>HT.lexLt b a=bE):=by
 obtain⟨dJ,e,p,o⟩:=wB (nss:=xs.map l3) (by rw[Kc];exact h) (by
  intro ns hn
  obtain⟨x,_,rfl⟩:=Kl.mp hn
  exact λz=>by cases z)
 have back:∀m∈dJ,(l3 ∘ b3) m=id m:=λm hm=>by
  obtain⟨x,_,rfl⟩:=Kl.mp (p.mem_iff.mp hm)
  rfl
 have hm:(dJ.map b3).map l3=dJ:=by
  rw[Kx]
  exact(Vm back).trans (X1 dJ)
 refine⟨dJ.map b3,?_,?_,?_⟩
 .rw[qhr,e,qhr,hm]
 .have:=p.map b3
  rw[Kx]at this
  have e2:xs.map (b3 ∘ l3)=xs:=(Vm (λx _=>rfl)).trans (X1 xs)
  rwa[e2]at this
 .rw[hm];exact o
theorem qdW {as bs:List Sp}(p:as.Perm bs)(h1:(as.map l3).Pairwise (λa b=>HT.lexLt b a=bE))(h2:(bs.map l3).Pairwise (λa b=>HT.lexLt b a=bE)):as=bs:=by
 have:=Jc (p.map l3) h1 h2
 have e:=congrArg (List.map b3) this
 rw[Kx,Kx]at e
 have k:∀xs:List Sp,xs.map (b3 ∘ l3)=xs:=λxs=>(Vm (λx _=>rfl)).trans (X1 xs)
 rwa[k,k]at e
theorem qkM (a b:Sp):KC (eS a) (eS b)=decide (a=b):=by
 have:KC (eS a) (eS b)=((a.1==b.1)&&((a.2.1==b.2.1)&&((a.2.2==b.2.2)&&bD))):=rfl
 rw[this]
 obtain⟨a1,a2,a3⟩:=a
 obtain⟨b1,b2,b3⟩:=b
 by_cases h1:a1=b1<;>by_cases h2:a2=b2<;>by_cases h3:a3=b3<;>simp [h1,h2,h3]
theorem qda {α:Type}(enc:α->Ka){g:af}{u:ak}(I:List α->Rho->Prop)(all:List α)(step:∀a∈all,∀done ρ,done.length<all.length->I done ρ->∃ ρ',ob (g (enc a) ρ) u=bB (.nx ρ')/\I (done++[a]) ρ'):
  ∀(as done:List α) (ρ:Rho),(∀a∈as,a∈all)->done.length+as.length=all.length->I done ρ->∃ ρ',forD g u (as.map enc) ρ=bB (.nx ρ')/\I (done++as) ρ'
 |[],done,ρ,_,_,h=>⟨ρ,rfl,by rw[Vw];exact h⟩
 |a::as,done,ρ,hm,hl,h=>by
  rw[Kv]at hl
  obtain⟨ρ1,e1,h1⟩:=step a (hm a (.head _)) done ρ '#' h
  obtain⟨ρ2,e2,h2⟩:=qda enc I all step as (done++[a]) ρ1 (λx hx=>hm x (.tail _ hx)) (by rw[Kr,KQ];omega) h1
  refine⟨ρ2,?_,by rw[VG]at h2;exact h2⟩
  rw[Km,qae,e1,WL]
  exact e2
theorem QC {α:Type}(enc:α->Ka){g:af}{u:ak}(I:List α->Rho->Prop)(as:List α)(ρ:Rho)(h:I [] ρ)(step:∀a∈as,∀done ρ,done.length<as.length->I done ρ->∃ ρ',ob (g (enc a) ρ) u=bB (.nx ρ')/\I (done++[a]) ρ'):
  ∃ ρ',forD g u (as.map enc) ρ=bB (.nx ρ')/\I as ρ':=by
 obtain⟨ρ',e,i⟩:=qda enc I as step as [] ρ (λ_ h=>h) '+' h
 exact⟨ρ',e,by rwa[Xz]at i⟩
theorem qbb {α:Type}(enc:α->Ka){tt:aj}{te:aa}{ρ:Rho}(p:α->Bool)(f:α->Ka):∀(as:List α),(∀a∈as,tt (ρ++[bB (enc a)])=bB (p a))->(∀a∈as,p a=bD->te (ρ++[bB (enc a)])=bB (f a))->Qv tt te ρ (as.map enc)=bB ((as.filter p).map f)
 |[],_,_=>rfl
 |a::as,h1,h2=>by
  have ih:=qbb enc p f as (λx hx=>h1 x (.tail _ hx)) (λx hx=>h2 x (.tail _ hx))
  rw[Km,qeS,h1 a (.head _),List.filter_cons]
  cases e:p a with
  |true=>rw[qeV,h2 a (.head _) e,ih];rfl
  |false=>rw[qeU,ih];rfl
theorem Qz {α:Type}(enc:α->Ka){te:aa}{ρ:Rho}(f:α->Ka)(as:List α)(h2:∀a∈as,te (ρ++[bB (enc a)])=bB (f a)):Qv tT te ρ (as.map enc)=bB (as.map f):=by
 have:=qbb enc (tt:=tT) (te:=te) (ρ:=ρ) (λ_=>bD) f as (λ_ _=>rfl) (λa ha _=>h2 a ha)
 rwa[List.filter_eq_self.mpr (λ_ _=>rfl)]at this
theorem qiY (a b:Sp):eqD (eS a) (eS b)=bB (.bool (decide (a=b))):=by
 unfold eqD
 rw[si ⟨rfl,rfl⟩,qkM]
theorem jQ {α β:Type}{f:α->β}{xs:List α}{k:Int}{x:α}(h0:0<=k)(h:xs[k.toNat]?=bB x):atI (xs.map f) k=bB (f x):=by
 have e1:((k.toNat:Nat):Int)=k:=by omega
 have:=qeK (xs:=xs.map f) (j:=k.toNat) (v:=f x) (by rw[KJ,h];rfl)
 rwa[e1]at this
theorem seqIx {i:Int}{n:Nat}(h0:0<=i)(h1:i<(n:Int)):tL i n=bB i.toNat:=by
 show(if (decide (0<=(if i<0 then i+(n:Int) else i))&&decide ((if i<0 then i+(n:Int) else i)<(n:Int)))=bD then bB (if i<0 then i+(n:Int) else i).toNat else bC)=_
 have h:(if i<0 then i+(n:Int) else i)=i:=sk '#'
 rw[h,si (by simp;omega)]
theorem za {u w:ak}{ρ ρ':Rho}{r:Option Out}(h:u ρ=bB (.nx ρ'))(h2:w ρ'=r):seqO u w ρ=r:=by rw[qig,h,qcR];exact h2
theorem jJ {α:Type}(enc:α->Ka){g:af}{u:ak}(I:List α->Rho->Prop)(all:List α)(ρ:Rho)(h0:I [] ρ)(step:∀a done rest ρ,all=done++a::rest->I done ρ->∃ ρ',ob (g (enc a) ρ) u=bB (.nx ρ')/\I (done++[a]) ρ'):
  ∃ ρ',forD g u (all.map enc) ρ=bB (.nx ρ')/\I all ρ':=by
 have key:∀(as done:List α) (ρ:Rho),all=done++as->I done ρ->∃ ρ',forD g u (as.map enc) ρ=bB (.nx ρ')/\I all ρ':=by
  intro as
  induction as with
  |nil=>intro done ρ e h;rw[Vw]at e;subst e;exact⟨ρ,rfl,h⟩
  |cons a as ih =>
   intro done ρ e h
   obtain⟨ρ1,e1,h1⟩:=step a done as ρ e h
   obtain⟨ρ2,e2,h2⟩:=ih (done++[a]) ρ1 (by rw[e,VG];rfl) h1
   refine⟨ρ2,?_,h2⟩
   rw[Km,qae,e1,WL]
   exact e2
 exact key all [] ρ rfl h0
theorem ixe0 (s:Sp):ixD (eS s) (.int 0)=bB (.int s.1):=rfl
theorem ixe1 (s:Sp):ixD (eS s) (.int 1)=bB (.int s.2.1):=rfl
theorem bd2:Bd 2 2:=Bd.of '%'
theorem yI (n:Nat):rngL 0 n=(Ku n).map λk=>Kt (k:Nat):=by
 have:∀(n m:Nat),rngL (m:Nat) n=(Uv m n).map λk=>Kt (k:Nat):=by
  intro n
  induction n with
  |zero=>intro m;rfl
  |succ n ih =>
   intro m
   rw[rngL,EK,Km,←ih (m+1)]
   rfl
 rw[List.range_eq_range']
 exact this n 0
theorem qiU {α:Type}{xs:List α}(x:Int)(h:0<xs.length):∃y∈xs,xs[(x%(xs.length:Int)).toNat]?=bB y:=by
 have a1:=XA x (b:=(xs.length:Int)) '#'
 have a2:=XB x (b:=(xs.length:Int)) '#'
 have bK:(x%(xs.length:Int)).toNat<xs.length:=by omega
 exact⟨xs[(x%(xs.length:Int)).toNat],VF bK,Kj bK⟩
theorem qgu {α β:Type}(f:α->β){xs:List α}{k:Nat}(h:k∈Ku xs.length):∃x∈xs,atI (xs.map f) (k:Int)=bB (f x):=by
 have hk:=VX.mp h
 exact⟨xs[k],VF hk,jQ '#' (by simp [Kj hk])⟩
noncomputable abbrev Ce:=Int×Int
abbrev bu:=Ce->Nat
abbrev aL:=List (Ce×Nat)
abbrev aB:=List Ce
def eC (c:Ce):Ka:=.tuple [.int c.1,.int c.2]
def l2 (c:Ce):List Int:=[c.1,c.2]
def b2:List Int->Ce
 |[a,b]=>(a,b)
 |_=>(0,0)
theorem qbB {xs:aB}(h:xs.length<64):∃ys:List Ce,Qq [.list (xs.map eC)]=bB (.list (ys.map eC))/\ys.Perm xs/\(ys.map l2).Pairwise (λa b=>HT.lexLt b a=bE):=by
 obtain⟨dJ,e,p,o⟩:=wB (nss:=xs.map l2) (by rw[Kc];exact h) (by
  intro ns hn
  obtain⟨x,_,rfl⟩:=Kl.mp hn
  exact λz=>by cases z)
 have me:∀zs:List Ce,zs.map eC=(zs.map l2).map tI:=λzs=>by rw[Kx];rfl
 have hm:(dJ.map b2).map l2=dJ:=by
  rw[Kx]
  refine(Vm λm hm=>?_).trans (X1 dJ)
  obtain⟨x,_,rfl⟩:=Kl.mp (p.mem_iff.mp hm)
  rfl
 refine⟨dJ.map b2,?_,?_,?_⟩
 .rw[me,e,me,hm]
 .have:=p.map b2
  rw[Kx]at this
  have e2:xs.map (b2 ∘ l2)=xs:=(Vm (λx _=>rfl)).trans (X1 xs)
  rwa[e2]at this
 .rw[hm];exact o
theorem qcE {as bs:aB}(p:as.Perm bs)(h1:(as.map l2).Pairwise (λa b=>HT.lexLt b a=bE))(h2:(bs.map l2).Pairwise (λa b=>HT.lexLt b a=bE)):as=bs:=by
 have e:=congrArg (List.map b2) (Jc (p.map l2) h1 h2)
 rw[Kx,Kx]at e
 have k:∀xs:List Ce,xs.map (b2 ∘ l2)=xs:=λxs=>(Vm (λx _=>rfl)).trans (X1 xs)
 rwa[k,k]at e
theorem Yl (a b:Ce):KC (eC a) (eC b)=decide (a=b):=by
 have:KC (eC a) (eC b)=((a.1==b.1)&&((a.2==b.2)&&bD)):=rfl
 rw[this]
 obtain⟨a1,a2⟩:=a
 obtain⟨b1,b2⟩:=b
 by_cases h1:a1=b1<;>by_cases h2:a2=b2<;>simp [h1,h2]
theorem qkI:∀xs:List Ce,Kq (xs.map eC)=bD/\KB (xs.map eC)<=1:=λxs=>by
 have me:xs.map eC=(xs.map l2).map tI:=by rw[Kx];rfl
 rw[me];exact W5 _
theorem qb2 (xs:aB)(q:Ce):inOk (xs.map eC) (eC q)=bD:=by
 unfold inOk
 rw[(qkI xs).1,Bool.true_and,KF]
 exact⟨rfl,rfl⟩
theorem qg2 (xs:aB)(q:Ce):inL (xs.map eC) (eC q)=decide (q∈xs):=by
 unfold inL
 rw[List.any_map]
 induction xs with
 |nil=>rfl
 |cons x xs ih =>
  rw[UA,ih]
  show(KC (eC x) (eC q)||_)=_
  rw[Yl]
  by_cases h:x=q
  .subst h;rw[sh rfl,EH,sh VO]
  .rw[se h,XY]
   by_cases h2:q∈xs
   .rw[sh h2,sh (KS _ h2)]
   .rw[se h2,se (by rw[Ko];rintro(rfl|z);exact h rfl;exact h2 z)]
theorem qkW (xs:aB)(q:Ce):inD (eC q) (.list (xs.map eC))=bB (.bool (decide (q∈xs))):=by
 show(if inOk (xs.map eC) (eC q)=bD then bB (VI (inL (xs.map eC) (eC q))) else bC)=_
 rw[qb2,qg2];rfl
theorem qjp (xs:aB)(q:Ce):ninD (eC q) (.list (xs.map eC))=bB (.bool (!decide (q∈xs))):=by
 show(if inOk (xs.map eC) (eC q)=bD then bB (VI (!inL (xs.map eC) (eC q))) else bC)=_
 rw[qb2,qg2];rfl
theorem qgS (a b:Ce):eqD (eC a) (eC b)=bB (.bool (decide (a=b))):=by
 unfold eqD
 rw[si ⟨rfl,rfl⟩,Yl]
theorem ixc0 (s:Ce):ixD (eC s) (.int 0)=bB (.int s.1):=rfl
theorem ixc1 (s:Ce):ixD (eC s) (.int 1)=bB (.int s.2):=rfl
theorem yR (s:Ce):flat (eC s)=bD:=rfl
theorem qde {xs:aB}{q:Ce}(h:q∈xs)(hl:xs.length<=900):Ym (.list (xs.map eC)) (eC q)=bB (.int (xs.idxOf q:Nat)):=by
 have e:(xs.map eC).findIdx? (λy=>KC y (eC q))=bB (xs.idxOf q):=by
  clear hl
  induction xs with
  |nil=>cases h
  |cons x xs ih =>
   rw[Km,List.findIdx?_cons,Yl,List.idxOf_cons]
   by_cases hx:x=q
   .subst hx;simp
   .have hq:q∈xs:=by rcases Ko.mp h with z|z;exact absurd z.symm hx;exact z
    have e1:(x==q)=bE:=sF.mpr hx
    rw[se hx,ih hq,e1]
    rfl
 show(if inOk (xs.map eC) (eC q)=bD/\(xs.map eC).length<=1000 then ob ((xs.map eC).findIdx? λy=>KC y (eC q)) (λj=>bB (Kt (j:Nat))) else bC)=_
 rw[si ⟨qb2 _ _,by rw[Kc];omega⟩,e]
 rfl
abbrev Jn:=(Ce×Ce)×Int
abbrev aI:=List Jn
def eP (p:Ce×Ce):Ka:=.tuple [eC p.1,eC p.2]
def kP (p:Ce×Ce):KX:=.inr [.inr [p.1.1,p.1.2],.inr [p.2.1,p.2.2]]
def eJ (js:aI):List (Ka×PyData):=js.map λp=>(eP p.1,.int p.2)
theorem qfb (p:Ce×Ce):kxOf (eP p)=bB (kP p):=rfl
theorem qhb (p:Ce×Ce):kxD (kP p)=eP p:=rfl
theorem qb4 (js:aI)(q:Ce×Ce):kOk (eJ js) (kP q)=bD:=by
 unfold kOk eJ
 rw[UP]
 exact KN.mpr λp _=>rfl
theorem qkL (p q:Ce×Ce):KC (eP p) (eP q)=decide (p=q):=by
 have:KC (eP p) (eP q)=(KC (eC p.1) (eC q.1)&&(KC (eC p.2) (eC q.2)&&bD)):=rfl
 rw[this,Yl,Yl]
 obtain⟨a,b⟩:=p
 obtain⟨c,d⟩:=q
 by_cases h1:a=c<;>by_cases h2:b=d<;>simp [h1,h2]
theorem yP (q:Ce×Ce):∀js:List Jn,zp (eJ js) (kP q)=(js.find? λp=>decide (p.1=q)).map λp=>Kt p.2
 |[]=>rfl
 |p::js=>by
  have ih:=yP q js
  unfold zp eJ at *
  rw[Km,Vd,Vd,qhb,qkL]
  rw[qhb]at ih
  by_cases h:p.1=q
  .rw[sh h];rfl
  .rw[se h];exact ih
theorem qbY {js:aI}{q:Ce×Ce}(h:∀p∈js,p.1≠q):zp (eJ js) (kP q)=bC:=by
 rw[yP,VP.mpr λp hp=>by simpa using h p hp];rfl
theorem qc7:∀{js:aI} {p:Jn},(js.map (·.1)).Nodup->p∈js->zp (eJ js) (kP p.1)=bB (.int p.2)
 |j::js,p,hn,hp=>by
  rw[yP,Vd]
  rw[Km,VZ]at hn
  by_cases h:j.1=p.1
  .rw[sh h]
   rcases Ko.mp hp with rfl|z
   .rfl
   .exact absurd (Kl.mpr ⟨p,z,h.symm⟩) hn.1
  .rw[se h]
   rcases Ko.mp hp with rfl|z
   .exact absurd rfl h
   .have:=qc7 hn.2 z
    rwa[yP]at this
theorem qec {js:aI}{p:Jn}(hn:(js.map (·.1)).Nodup)(hp:p∈js):ix2D (.dict (eJ js)) (eP p.1)=bB (.int p.2):=by
 show ob (kxOf (eP p.1)) (λks=>if kOk (eJ js) ks=bD then zp (eJ js) ks else bC)=_
 rw[qfb,ob_s,si (qb4 _ _),qc7 hn hp]
theorem qjo (js:aI)(q:Ce×Ce):qbs (eP q) (.dict (eJ js))=bB (.bool (!decide (q∈js.map (·.1)))):=by
 show ob (kxOf (eP q)) (λks=>if kOk (eJ js) ks=bD then bB (VI (!(zp (eJ js) ks).isSome)) else bC)=_
 rw[qfb,ob_s,si (qb4 _ _)]
 by_cases h:q∈js.map (·.1)
 .obtain⟨p,hp,rfl⟩:=Kl.mp h
  rw[sh h,yP]
  cases e:js.find? (λx=>decide (x.1=p.1)) with
  |some x=>rfl
  |none=>exact absurd (VP.mp e p hp) '+'
 .rw[se h,qbY λp hp z=>h (Kl.mpr ⟨p,hp,z⟩)];rfl
theorem YW {js:aI}{q:Ce×Ce}(v:Int)(hl:js.length<900)(h:∀p∈js,p.1≠q):jF (.dict (eJ js)) (eP q) (.int v)=bB (.dict (eJ (js++[(q,v)]))):=by
 show ob (kxOf (eP q)) (λks=>if kOk (eJ js) ks=bD/\(eJ js).length<1000 then bB (E4 (putD (eJ js) ks (.int v))) else bC)=_
 rw[qfb,ob_s,si ⟨qb4 _ _,by unfold eJ;rw[Kc];omega⟩]
 unfold putD
 rw[qbY h,sk '%',qhb]
 unfold eJ
 rw[Kw]
 rfl
theorem qcg (js:aI):Wh (.dict (eJ js))=bB (js.map λp=>eP p.1):=by
 show(if excK (eJ js)=bD then bC else bB ((eJ js).map (·.1)))=_
 rw[sk (show ¬excK (eJ js)=bD by cases js<;>exact Vl)]
 unfold eJ
 rw[Kx]
 rfl
theorem QZ {α:Type}(enc:α->Ka){k:Nat}{g:af}{te:aa}{ρ:Rho}(f:α->Ka):∀(as:List α),(∀a∈as,ob (g (enc a) (ρ++Kk k bC)) te=bB (f a))->Qp k g tT te ρ (as.map enc)=bB (as.map f)
 |[],_=>rfl
 |a::as,h=>by
  have ih:=QZ enc f as λx hx=>h x (.tail _ hx)
  obtain⟨ρ1,e1,e2⟩:=qe (h a (.head _))
  rw[Km,qeX,e1,qeR]
  show qcW (bB bD) _ _=_
  rw[qeP,e2,ih]
  rfl
theorem qfC {α β:Type}(f:α->Ka)(g:β->Ka):∀(as:List α) (bs:List β),zpL (as.map f) (bs.map g)=(as.zip bs).map λp=>.tuple [f p.1,g p.2]
 |[],bs=>by rw[V9,qiy];rfl
 |_::_,[]=>by rw[V9,qiz];rfl
 |a::as,b::bs=>by rw[Km,Km,qkx,qfC f g as bs];rfl
def WX (d:Ka):Prop:=KC d d=bD
theorem wV {α:Type}{f:α->Ka}(h:∀a,WX (f a)):∀xs:List α,WX (.list (xs.map f))
 |[]=>rfl
 |x::xs=>by
  have:KC (.list ((x::xs).map f)) (.list ((x::xs).map f))=(KC (f x) (f x)&&KC (.list (xs.map f)) (.list (xs.map f))):=rfl
  unfold WX
  rw[this,h x,wV h xs]
  rfl
def Adj (a b:Ce):Prop:=b=(a.1+1,a.2)\/b=(a.1,a.2+1)
def bs (w:Nat)(c:Ce):Ce:=match w with
 |0=>(c.1+1,c.2)
 |1=>(c.1,c.2+1)
 |2=>(c.1-1,c.2)
 |_=>(c.1,c.2-1)
theorem emod4 (x:Int):∃w:Nat,w<4/\x%4=(w:Nat):=⟨(x%4).toNat,by omega,by omega⟩
theorem qfE (c:Ce){w:Nat}(hw:w<4):Zb [eC c,.int (w:Nat)]=bB (eC (bs w c)):=by
 have h:w=0\/w=1\/w=2\/w=3:=by omega
 simp only[Zb,Jd,eC]
 rcases h with rfl|rfl|rfl|rfl
 .simp_arith [Int.natCast_zero];rfl
 .have e:((1:Nat):Int)=1:=rfl
  simp_arith [e];rfl
 .have e:((2:Nat):Int)=2:=rfl
  simp_arith [e];rfl
 .have e:((3:Nat):Int)=3:=rfl
  simp_arith [e];rfl
def pk (w:Nat)(c:Ce):Ce×Ce:=match w with
 |0=>(c,bs 0 c)
 |1=>(c,bs 1 c)
 |2=>(bs 2 c,c)
 |_=>(bs 3 c,c)
theorem ltC (a b:Ce):ltX (eC a) (eC b)=bB (if a.1=b.1 then decide (a.2<b.2) else decide (a.1<b.1)):=by
 have:ltX (eC a) (eC b)=if KC (.int a.1) (.int b.1)=bD then (if KC (.int a.2) (.int b.2)=bD then bB bE else bB (decide (a.2<b.2))) else bB (decide (a.1<b.1)):=by
  simp only[eC,ltX,ltXs]
 have e:∀x y:Int,(KC (.int x) (.int y)=bD)=(x=y):=λx y=>by
  have:KC (.int x) (.int y)=(x==y):=rfl
  rw[this];simp
 rw[this]
 simp only[e]
 by_cases h1:a.1=b.1
 .rw[si h1,si h1]
  by_cases h2:a.2=b.2
  .rw[si h2,se '#']
  .rw[sk h2]
 .rw[sk h1,sk h1]
theorem gtC (a b:Ce):gtX (eC a) (eC b)=bB (if a.1=b.1 then decide (a.2 > b.2) else decide (a.1 > b.1)):=by
 have:gtX (eC a) (eC b)=if KC (.int a.1) (.int b.1)=bD then (if KC (.int a.2) (.int b.2)=bD then bB bE else bB (decide (a.2 > b.2))) else bB (decide (a.1 > b.1)):=by
  simp only[eC,gtX,gtXs]
 have e:∀x y:Int,(KC (.int x) (.int y)=bD)=(x=y):=λx y=>by
  have:KC (.int x) (.int y)=(x==y):=rfl
  rw[this];simp
 rw[this]
 simp only[e]
 by_cases h1:a.1=b.1
 .rw[si h1,si h1]
  by_cases h2:a.2=b.2
  .rw[si h2,se '#']
  .rw[sk h2]
 .rw[sk h1,sk h1]
theorem cmpC {x y:Ce}(h:x.1<y.1\/(x.1=y.1/\x.2<y.2)):ltX (eC x) (eC y)=bB bD/\ltX (eC y) (eC x)=bB bE/\gtX (eC y) (eC x)=bB bD/\gtX (eC x) (eC y)=bB bE:=by
 rw[ltC,ltC,gtC,gtC]
 by_cases e:x.1=y.1
 .rw[si e,si e.symm,si e.symm,si e,sh (by omega:x.2<y.2),se (by omega:¬y.2<x.2)]
  exact⟨rfl,rfl,rfl,rfl⟩
 .have e':¬y.1=x.1:=λz=>e z.symm
  rw[sk e,sk e',sk e',sk e,sh (by omega:x.1<y.1),se (by omega:¬y.1<x.1)]
  exact⟨rfl,rfl,rfl,rfl⟩
theorem minC {a b:Ce}(h:Adj a b):j8 [eC a,eC b]=bB (eC a)/\j8 [eC b,eC a]=bB (eC a)/\j7 [eC a,eC b]=bB (eC b)/\j7 [eC b,eC a]=bB (eC b):=by
 have c:∀x y:Ce,K8 (eC x)=bD/\K8 (eC y)=bD/\(eC y).depth<=50:=λx y=>⟨rfl,rfl,by show(1:Nat)<=50;decide⟩
 obtain⟨k1,k2,k3,k4⟩:=cmpC (x:=a) (y:=b) (by rcases h with rfl|rfl<;>dsimp only<;>omega)
 rw[qar,qar,qaq,qaq,si (c _ _),si (c _ _),si (c _ _),si (c _ _),k1,k2,k3,k4]
 exact⟨rfl,rfl,rfl,rfl⟩
theorem qh3 (c:Ce){w:Nat}(hw:w<4):Adj (pk w c).1 (pk w c).2/\(pk w c=(c,bs w c)\/pk w c=(bs w c,c)):=by
 have h:w=0\/w=1\/w=2\/w=3:=by omega
 obtain⟨x,y⟩:=c
 rcases h with rfl|rfl|rfl|rfl<;>simp [pk,bs,Adj]
theorem mm_eq (c:Ce){w:Nat}(hw:w<4):j8 [eC c,eC (bs w c)]=bB (eC (pk w c).1)/\j7 [eC c,eC (bs w c)]=bB (eC (pk w c).2):=by
 obtain⟨h1,h2⟩:=qh3 c hw
 have m:=minC h1
 rcases h2 with e|e<;>rw[e]at m ⊢
 .exact⟨m.1,m.2.2.1⟩
 .exact⟨m.2.1,m.2.2.2⟩
def Conn (fs:aB)(js:aI):Prop:=∀k,0<k->k<fs.length->∃i p,i<k/\p∈js/\((fs[i]?=bB p.1.1/\fs[k]?=bB p.1.2)\/(fs[k]?=bB p.1.1/\fs[i]?=bB p.1.2))
structure Gr (mo:Int)(n:Nat)(fs:aB)(js:aI):Prop where
 h0:0<fs.length
 h1:fs.length<=n+1
 hm:(fs.length:Int)<=mo
 h2:fs.Nodup
 h3:js.length<=n
 h4:(js.map (·.1)).Nodup
 h5:∀p∈js,p.1.1∈fs/\p.1.2∈fs/\Adj p.1.1 p.1.2/\-1<=p.2/\p.2<=1
 hc:Conn fs js
 hz:fs[0]?=bB (0,0)
theorem Gr.stay {mo:Int}{n:Nat}{fs:aB}{js:aI}(g:Gr mo n fs js):Gr mo (n+1) fs js :=
 ⟨g.h0,Nk g.h1,g.hm,g.h2,Nk g.h3,g.h4,g.h5,g.hc,g.hz⟩
theorem Gr.join {mo:Int}{n:Nat}{fs:aB}{js:aI}{k:Ce×Ce}{v:Int}(g:Gr mo n fs js)(hk:k∉js.map (·.1))(m1:k.1∈fs)(m2:k.2∈fs)(ad:Adj k.1 k.2)(hv:-1<=v/\v<=1):Gr mo (n+1) fs (js++[(k,v)]):=by
 refine⟨g.h0,Nk g.h1,g.hm,g.h2,by rw[Kr,KQ];have:=g.h3;omega,?_,λp hp=>?_,λi h1 h2=>?_,g.hz⟩
 .rw[Kw,VV]
  exact⟨g.h4,by simp,λa ha b hb z=>by subst z;exact hk (by have:=Ky.mp hb;subst this;exact ha)⟩
 .rcases K6.mp hp with q|q
  .exact g.h5 p q
  .rw[Ky.mp q]
   exact⟨m1,m2,ad,hv⟩
 .obtain⟨j,p,a,b,c⟩:=g.hc i h1 h2
  exact⟨j,p,a,Vi _ b,c⟩
theorem Gr.grow {mo:Int}{n:Nat}{fs:aB}{js:aI}{c o:Ce}{k:Ce×Ce}{v:Int}(g:Gr mo n fs js)(hc:c∈fs)(ho:o∉fs)(bK:(fs.length:Int)<mo)(hk:k=(c,o)\/k=(o,c))(ad:Adj k.1 k.2)(hv:-1<=v/\v<=1):Gr mo (n+1) (fs++[o]) (js++[(k,v)]):=by
 have eQ:k∉js.map (·.1):=λz=>by
  obtain⟨p,hp,rfl⟩:=Kl.mp z
  obtain⟨q1,q2,_⟩:=g.h5 p hp
  rcases hk with y|y<;>rw[y]at q1 q2
  .exact ho q2
  .exact ho q1
 have i1:c∈fs++[o]:=Vi _ hc
 have i2:o∈fs++[o]:=K5 _ '+'
 refine⟨by simp,by rw[Kr,KQ];have:=g.h1;omega,by rw[Kr,KQ];omega,?_,by rw[Kr,KQ];have:=g.h3;omega,?_,λp hp=>?_,λi h1 h2=>?_,by rw[Vf g.h0];exact g.hz⟩
 .rw[VV]
  exact⟨g.h2,by simp,λa ha b hb z=>by subst z;exact ho (by have:=Ky.mp hb;subst this;exact ha)⟩
 .rw[Kw,VV]
  exact⟨g.h4,by simp,λa ha b hb z=>by subst z;exact eQ (by have:=Ky.mp hb;subst this;exact ha)⟩
 .rcases K6.mp hp with q|q
  .obtain⟨q1,q2,q3⟩:=g.h5 p q
   exact⟨Vi _ q1,Vi _ q2,q3⟩
  .rw[Ky.mp q]
   refine⟨?_,?_,ad,hv⟩<;>rcases hk with z|z<;>rw[z]<;>assumption
 .by_cases hi:i<fs.length
  .obtain⟨j,p,a,b,c⟩:=g.hc i h1 hi
   refine⟨j,p,a,Vi _ b,?_⟩
   rw[Vf hi,Vf '#']
   exact c
  .have hi:i=fs.length:=by rw[Kr,KQ]at h2;omega
   obtain⟨j,hj,ej⟩:=Xn hc
   refine⟨j,(k,v),by omega,K5 _ '+',?_⟩
   have e1:(fs++[o])[j]?=bB c:=by rw[Vf hj,Kj hj,ej]
   have e2:(fs++[o])[i]?=bB o:=by rw[hi,Vy (Kp _),Nat.sub_self];rfl
   rw[e1,e2]
   rcases hk with z|z<;>rw[z]
   .exact .inl ⟨rfl,rfl⟩
   .exact .inr ⟨rfl,rfl⟩
def sh2 (s c:Ce):Ce:=(c.1+s.1,c.2+s.2)
def shJ (s:Ce)(p:Jn):Jn:=((sh2 s p.1.1,sh2 s p.1.2),p.2)
theorem ww {s a b:Ce}(h:sh2 s a=sh2 s b):a=b:=by
 unfold sh2 at h
 obtain⟨h1,h2⟩:=UJ h
 exact V0 '#' '#'
theorem qf7 (s:Ce){js:aI}(h:(js.map (·.1)).Nodup):((js.map (shJ s)).map (·.1)).Nodup:=by
 have e:(js.map (shJ s)).map (·.1)=(js.map (·.1)).map λp=>(sh2 s p.1,sh2 s p.2):=by rw[Kx,Kx];rfl
 rw[e]
 exact h.map _ λa b z y=>z (by obtain⟨y1,y2⟩:=UJ y;exact V0 (ww y1) (ww y2))
theorem qas (fs:aB)(js:aI)(s:Ce)(hf:fs.length<=900)(hj:js.length<=800)(hn:(js.map (·.1)).Nodup):qU [.list (fs.map eC),.dict (eJ js),eC s]=bB (.tuple [.list ((fs.map (sh2 s)).map eC),.dict (eJ (js.map (shJ s)))]):=by
 have hc:∀o3 o4 o5 o6 o7:Option Ka,Qp 2 (unpD 2 (gsC (gNm 8) (gsC (gNm 9) gsN))) tT (evA (aC (ev2 (vr 8) (ev2 (vr 2) (kd (.int 0)) ixD) Qf) (aC (ev2 (vr 9) (ev2 (vr 2) (kd (.int 1)) ixD) Qf) aN)) tupD) [bB (.list (fs.map eC)),bB (.dict (eJ js)),bB (eC s),o3,o4,o5,o6,o7] (fs.map eC)=bB (fs.map λc=>eC (sh2 s c)):=λo3 o4 o5 o6 o7 =>
  QZ eC _ fs λa _=>by
   simp only[eC]
   simp_arith []
   rfl
 obtain⟨ρ',e,o5,o6,o7,rfl⟩:=jJ (λp:Jn=>eP p.1) (g:=unpD 2 (gsC (gNm 5) (gsC (gNm 6) gsN))) (u:=jd)
  (λdone ρ=>∃o5 o6 o7:Option Ka,ρ=[bB (.list (fs.map eC)),bB (.dict (eJ js)),bB (eC s),bB (.list (fs.map λc=>eC (sh2 s c))),bB (.dict (eJ (done.map (shJ s)))),o5,o6,o7]) js [bB (.list (fs.map eC)),bB (.dict (eJ js)),bB (eC s),bB (.list (fs.map λc=>eC (sh2 s c))),bB (.dict []),bC,bC,bC] ⟨bC,bC,bC,rfl⟩ (by
   rintro a done rest ρ dj ⟨o5,o6,o7,rfl⟩
   have ha:a∈js:=by rw[dj];simp
   have i1:ix2D (.dict (eJ js)) (.tuple [eC a.1.1,eC a.1.2])=bB (.int a.2):=qec hn ha
   have hd:jF (.dict (eJ (done.map (shJ s)))) (.tuple [.tuple [.int (a.1.1.1+s.1),.int (a.1.1.2+s.2)],.tuple [.int (a.1.2.1+s.1),.int (a.1.2.2+s.2)]]) (.int a.2)=bB (.dict (eJ ((done++[a]).map (shJ s)))):=by
    rw[Kw]
    refine YW (q:=(sh2 s a.1.1,sh2 s a.1.2)) a.2 (by have:=congrArg Xf dj;rw[Kr]at this;rw[Kc];omega) λp hp z=>?_
    obtain⟨q,hq,rfl⟩:=Kl.mp hp
    have hk:q.1=a.1:=by
     obtain⟨z1,z2⟩:=UJ z
     exact V0 (ww z1) (ww z2)
    rw[dj,Kw,VV]at hn
    exact hn.2.2 q.1 (Kl.mpr ⟨q,hq,rfl⟩) a.1 '+' hk
   refine⟨_,?_,bB (eC a.1.1),bB (eC a.1.2),bB (.tuple [.int (a.1.1.1+s.1),.int (a.1.1.2+s.2)]),rfl⟩
   simp only[eP]
   simp_arith [ixc0,ixc1,i1,hd])
 have hlen:(fs.map eC).length<=1000:=by rw[Kc];omega
 have hm:(fs.map λc=>eC (sh2 s c))=(fs.map (sh2 s)).map eC:=by rw[Kx];rfl
 delta qU Zj
 simp_arith [hlen,hc,qcg,e]
 rw[hm]
def jn (S:aB)(p:Jn):Sp:=((S.idxOf p.1.1:Nat),(S.idxOf p.1.2:Nat),p.2)
abbrev RisC (S:aB):Prop:=(S.map l2).Pairwise (λa b=>HT.lexLt b a=bE)
abbrev RisS (J:List Sp):Prop:=(J.map l3).Pairwise (λa b=>HT.lexLt b a=bE)
theorem qaF (fs:aB)(js:aI)(hf:fs.length<64)(hj:js.length<64)(hn:(js.map (·.1)).Nodup)(hm:∀p∈js,p.1.1∈fs/\p.1.2∈fs):∃(S:aB) (J:List Sp),zY [.list (fs.map eC),.dict (eJ js)]=bB (.tuple [.list (S.map eC),.list (J.map eS)])/\S.Perm fs/\RisC S/\J.Perm (js.map (jn S))/\RisS J:=by
 obtain⟨S,es,p,r⟩:=qbB hf
 have hl:S.length<=900:=by rw[p.length_eq];omega
 obtain⟨ρ',e,o4,rfl⟩:=QC (λp:Jn=>eP p.1) (g:=gNm 4) (u:=yo)
  (λdone ρ=>∃o4:Option Ka,ρ=[bB (.list (fs.map eC)),bB (.dict (eJ js)),bB (.list (S.map eC)),bB (.list ((done.map (jn S)).map eS)),o4]) js [bB (.list (fs.map eC)),bB (.dict (eJ js)),bB (.list (S.map eC)),bB (.list []),bC] ⟨bC,rfl⟩ (by
   rintro a ha done ρ e8 ⟨o4,rfl⟩
   obtain⟨m1,m2⟩:=hm a ha
   have i1:=qde (p.mem_iff.mpr m1) hl
   have i2:=qde (p.mem_iff.mpr m2) hl
   have i3:ix2D (.dict (eJ js)) (eP a.1)=bB (.int a.2):=qec hn ha
   have x0:ixD (eP a.1) (.int 0)=bB (eC a.1.1):=rfl
   have x1:ixD (eP a.1) (.int 1)=bB (eC a.1.2):=rfl
   have hz:((done.map (jn S)).map eS).length<1000:=by rw[Kc,Kc];omega
   refine⟨_,?_,bB (eP a.1),rfl⟩
   simp_arith [x0,x1,i1,i2,i3,hz]
   simp only[Kw,Km,V9,jn,eS])
 obtain⟨J,ej,pj,rj⟩:=qbC (xs:=js.map (jn S)) (by rw[Kc];exact hj)
 refine⟨S,J,?_,p,r,pj,rj⟩
 delta zY JV
 simp_arith [es,qcg,e,ej]
theorem qfA (n:Int):jr [.int n]=bB (.bool bD):=rfl
theorem tripC (c:Ce):Qa [eC c,eC c]=bB (.bool bD):=by
 have e:=qgS c c
 rw[sh rfl]at e
 have e:eqD (.tuple [.int c.1,.int c.2]) (.tuple [.int c.1,.int c.2])=bB (.bool bD):=e
 simp only[Qa,jb,eC]
 simp_arith [qfA,e]
theorem tripS (c:Sp):Qa [eS c,eS c]=bB (.bool bD):=by
 have e:=qiY c c
 rw[sh rfl]at e
 have e:eqD (.tuple [.int c.1,.int c.2.1,.int c.2.2]) (.tuple [.int c.1,.int c.2.1,.int c.2.2])=bB (.bool bD):=e
 simp only[Qa,jb,eS]
 simp_arith [qfA,e]
theorem qft {α:Type}(xs:List α)(hl:xs.length<=900):(if (-1000:Int)<=((xs.length:Nat):Int)/\((xs.length:Nat):Int)<=1000 then bB (rngL 0 (((xs.length:Nat):Int)).toNat) else bC)=bB ((Ku xs.length).map λk:Nat=>Kt (k:Nat)):=by
 rw[si '#',Va,yI]
theorem qgt {α:Type}(f:α->Ka)(hf:∀a,Qa [f a,f a]=bB (.bool bD)){ys:List α}{P:Ka}{K:Int}(hp:ixD P (.int K)=bB (.list (ys.map f)))(o3:aE):
  ∃o,forD (gNm 3) QM ((Ku (ys.map f).length).map λk:Nat=>Kt (k:Nat)) [bB P,bB P,bB (.int K),o3]=bB (.nx [bB P,bB P,bB (.int K),o]):=by
 obtain⟨ρ',e,o,rfl⟩:=QC (λk:Nat=>Kt (k:Nat)) (g:=gNm 3) (u:=QM)
  (λdone ρ=>∃o,ρ=[bB P,bB P,bB (.int K),o]) (Ku (ys.map f).length) [bB P,bB P,bB (.int K),o3] ⟨o3,rfl⟩ (by
   rintro k hk done ρ-⟨o,rfl⟩
   rw[Kc]at hk
   obtain⟨y,-,ey⟩:=qgu f hk
   refine⟨_,?_,bB (.int (k:Nat)),rfl⟩
   simp_arith [hp,ey,hf y])
 exact⟨o,e⟩
theorem qeG {S:aB}{J:List Sp}(h1:S.length<=900)(h2:J.length<=900):zm [.tuple [.list (S.map eC),.list (J.map eS)],.tuple [.list (S.map eC),.list (J.map eS)]]=bB (.bool bD):=by
 have e1:=qft (S.map eC) (by rw[Kc];exact h1)
 have e2:=qft (J.map eS) (by rw[Kc];exact h2)
 obtain⟨o,l1⟩:=qgt eC tripC (ys:=S) (P:=.tuple [.list (S.map eC),.list (J.map eS)]) (K:=0) rfl bC
 obtain⟨o',l2⟩:=qgt eS tripS (ys:=J) (P:=.tuple [.list (S.map eC),.list (J.map eS)]) (K:=1) rfl o
 delta zm Zk
 simp_arith [tE,e1,e2,l1,l2]
theorem qe3 {α:Type}(e:α->Ka):∀(xs:List α) (n:Nat),enL (n:Nat) (xs.map e)=(xs.zipIdx n).map λp=>.tuple [.int (p.2:Nat),e p.1]
 |[],_=>rfl
 |x::xs,n=>by
  rw[Km,List.zipIdx_cons,Km,←qe3 e xs (n+1)]
  rfl
theorem qc4 {α:Type}(e:α->Ka)(xs:List α):enL 0 (xs.map e)=xs.zipIdx.map λp=>.tuple [.int (p.2:Nat),e p.1]:=qe3 e xs 0
abbrev Tj:=Ce×Ce×Int
def eT (t:Tj):Ka:=.tuple [eC t.1,eC t.2.1,.int t.2.2]
def nt (t:Tj):Jn:=if t.1.1+t.1.2<t.2.1.1+t.2.1.2 then ((t.1,t.2.1),t.2.2) else ((t.2.1,t.1),t.2.2)
theorem qel {a b:Ce}(v:Int)(h:Adj a b):nt (a,b,v)=((a,b),v)/\nt (b,a,v)=((a,b),v):=by
 unfold nt
 have:b.1+b.2=a.1+a.2+1:=by rcases h with rfl|rfl<;>dsimp only<;>omega
 dsimp only
 rw[si '#',sk '#']
 exact⟨rfl,rfl⟩
theorem qix:∀{S:aB},S.Nodup->∀p∈S.zip (S.drop 1),p.1≠p.2
 |[],_,p,h=>by cases h
 |[a],_,p,h=>by cases h
 |a::b::S,hn,p,h=>by
  rcases Ko.mp h with rfl|h
  .exact λz=>(VZ.mp hn).1 (by rw[show a=b from z];exact .head _)
  .exact qix (VZ.mp hn).2 p h
theorem qmi {C S:aB}(hs:Qq [.list (C.map eC)]=bB (.list (S.map eC)))(hn:S.Nodup)(hl:S.length<=900):Zd [.list (C.map eC)]=bB .none:=by
 have sl:sliD (.list (S.map eC)) (bB 1) bC=bB (.list ((S.drop 1).map eC)):=by
  show bB (UI (cutD (S.map eC) (bB ((1:Nat):Int)) bC))=_
  unfold cutD
  rw[HT.qjW,List.map_drop]
  have:HT.sIx (S.map eC).length (S.map eC).length bC=(S.map eC).length:=rfl
  rw[this,Kc]
  cases S with
  |nil=>rfl
  |cons a S =>
   have e:min 1 (a::S).length=1:=by simp
   rw[e,List.take_of_length_le (by rw[EA,Kc];exact Kp _)]
 have hz:=qfC eC eC S (S.drop 1)
 obtain⟨ρ',el,o2,o3,rfl⟩:=QC (λp:Ce×Ce=>VM [eC p.1,eC p.2]) (g:=unpD 2 (gsC (gNm 2) (gsC (gNm 3) gsN))) (u:=J7)
  (λ_ ρ=>∃o2 o3:Option Ka,ρ=[bB (.list (C.map eC)),bB (.list (S.map eC)),o2,o3]) (S.zip (S.drop 1)) [bB (.list (C.map eC)),bB (.list (S.map eC)),bC,bC] ⟨bC,bC,rfl⟩ (by
   rintro⟨a,b⟩ ha done ρ-⟨o2,o3,rfl⟩
   have eQ:=qix hn _ ha
   refine⟨_,?_,bB (eC a),bB (eC b),rfl⟩
   simp_arith [qgS,se eQ])
 delta Zd Jf
 simp_arith [hs,sl,hz,el]
def kC (c:Ce):KX:=.inr [.inl c.1,.inl c.2]
theorem qbd (c:Ce):kxD (kC c)=eC c:=rfl
theorem qfg (c:Ce):kxOf (eC c)=bB (kC c):=rfl
def eN (zs:aL):List (Ka×PyData):=zs.map λp=>(eC p.1,.int (p.2:Nat))
theorem qg9 (zs:aL)(c:Ce):kOk (eN zs) (kC c)=bD:=by
 unfold kOk eN
 rw[UP]
 exact KN.mpr λp _=>rfl
theorem WK (c:Ce):∀zs:List (Ce×Nat),zp (eN zs) (kC c)=(zs.find? λp=>decide (p.1=c)).map λp=>Kt (p.2:Nat)
 |[]=>rfl
 |p::zs=>by
  have ih:=WK c zs
  unfold zp eN at *
  rw[Km,Vd,Vd,qbd,Yl]
  rw[qbd]at ih
  by_cases h:p.1=c
  .rw[sh h];rfl
  .rw[se h];exact ih
theorem qfp {α:Type}{f:α->Ka}{g:α->KX×PyData}(h:∀a,prOf (f a)=bB (g a)):∀xs:List α,qby (xs.map f)=bB (xs.map g)
 |[]=>rfl
 |x::xs=>by
  show ob (prOf (f x)) (λp=>ob (qby (xs.map f)) λps=>bB (p::ps))=_
  rw[h,qfp h xs]
  rfl
theorem qfr:∀(zs done:aL),((done++zs).map (·.1)).Nodup->Wm (eN done) (zs.map λp=>(kC p.1,.int (p.2:Nat)))=eN (done++zs)
 |[],done,_=>by rw[Vw];rfl
 |z::zs,done,hn=>by
  have hf:zp (eN done) (kC z.1)=bC:=by
   rw[WK,VP.mpr λp hp=>?_]
   .rfl
   .simp only[sO]
    intro e
    rw[Kw,VV]at hn
    exact hn.2.2 p.1 (Kl.mpr ⟨p,hp,rfl⟩) z.1 '+' e
  have hp:putD (eN done) (kC z.1) (.int (z.2:Nat))=eN (done++[z]):=by
   unfold putD
   rw[hf,sk '%',qbd]
   unfold eN
   rw[Kw]
   rfl
  show Wm (putD (eN done) (kC z.1) (.int (z.2:Nat))) _=_
  rw[hp,qfr zs (done++[z]) (by rw[VG];exact hn),VG]
  rfl
theorem qad (c:Ce):∀(S:aB) (n:Nat),c∈S->(S.zipIdx n).find? (λp=>decide (p.1=c))=bB (c,n+S.idxOf c)
 |x::S,n,h=>by
  rw[List.zipIdx_cons,Vd,List.idxOf_cons]
  by_cases hx:x=c
  .subst hx;simp
  .have hc:c∈S:=by rcases Ko.mp h with z|z;exact absurd z.symm hx;exact z
   have e1:(x==c)=bE:=sF.mpr hx
   rw[se hx,qad c S (n+1) hc,e1]
   show bB (c,n+1+S.idxOf c)=bB (c,n+(S.idxOf c+1))
   rw[Nt,Fg 1]
theorem qhD {S:aB}(hn:S.Nodup)(hl:S.length<=900):Zw [.list (S.map eC)]=bB (.dict (eN S.zipIdx)):=by
 have hc:Qp 2 (unpD 2 (gsC (gNm 1) (gsC (gNm 2) gsN))) tT (evA (aC (vr 2) (aC (vr 1) aN)) tupD) [bB (.list (S.map eC))] (S.zipIdx.map λp:Ce×Nat=>.tuple [.int (p.2:Nat),eC p.1])=bB (S.zipIdx.map λp=>.tuple [eC p.1,.int (p.2:Nat)]) :=
  QZ (λp:Ce×Nat=>.tuple [.int (p.2:Nat),eC p.1]) _ S.zipIdx λa _=>by simp_arith []
 have hlen:(S.zipIdx.map λp:Ce×Nat=>VM [.int (p.2:Nat),eC p.1]).length<=1000:=by rw[Kc,List.length_zipIdx];omega
 have hd:qbR [.list (S.zipIdx.map λp:Ce×Nat=>.tuple [eC p.1,.int (p.2:Nat)])]=bB (.dict (eN S.zipIdx)):=by
  have e1:=qfp (f:=λp:Ce×Nat=>VM [eC p.1,.int (p.2:Nat)]) (g:=λp=>(kC p.1,.int (p.2:Nat))) (λ_=>rfl) S.zipIdx
  show ob (qby _) _=_
  rw[e1,ob_s,si ⟨.inr (by rw[UP];exact KN.mpr λp _=>rfl),by rw[Kc,List.length_zipIdx];omega⟩]
  have:=qfr S.zipIdx [] (by rw[Xz,N2];exact hn)
  rw[Xz]at this
  exact congrArg (λz=>bB (E4 z)) this
 delta Zw JX
 simp_arith [qc4,hlen,hc,hd]
theorem qhB {S:aB}{c:Ce}(h:c∈S):in2D (eC c) (.dict (eN S.zipIdx))=bB (.bool bD):=by
 show ob (kxOf (eC c)) (λks=>if kOk (eN S.zipIdx) ks=bD then bB (VI (zp (eN S.zipIdx) ks).isSome) else bC)=_
 rw[qfg,ob_s,si (qg9 _ _),WK,qad c S 0 h]
 rfl
theorem qhC {S:aB}{c:Ce}(h:c∈S):ix2D (.dict (eN S.zipIdx)) (eC c)=bB (.int (S.idxOf c:Nat)):=by
 show ob (kxOf (eC c)) (λks=>if kOk (eN S.zipIdx) ks=bD then zp (eN S.zipIdx) ks else bC)=_
 rw[qfg,ob_s,si (qg9 _ _),WK,qad c S 0 h,EE]
 rfl
theorem qkV (js:aI)(q:Ce×Ce):in2D (eP q) (.dict (eJ js))=bB (.bool (decide (q∈js.map (·.1)))):=by
 show ob (kxOf (eP q)) (λks=>if kOk (eJ js) ks=bD then bB (VI ((zp (eJ js) ks).isSome)) else bC)=_
 rw[qfb,ob_s,si (qb4 _ _)]
 by_cases h:q∈js.map (·.1)
 .obtain⟨p,hp,rfl⟩:=Kl.mp h
  rw[sh h,yP]
  cases e:js.find? (λx=>decide (x.1=p.1)) with
  |some x=>rfl
  |none=>exact absurd (VP.mp e p hp) '+'
 .rw[se h,qbY λp hp z=>h (Kl.mpr ⟨p,hp,z⟩)];rfl
theorem qlj {S:aB}{a b:Ce}(ha:a∈S)(hb:b∈S)(h:Adj a b):Qw [.dict (eN S.zipIdx),.tuple [eC a,eC b]]=bB (.bool bD):=by
 have st:QS [eC a,eC b]=bB (.tuple [.int (b.1-a.1),.int (b.2-a.2)]):=by
  delta QS jP
  simp_arith [ixc0,ixc1]
 obtain⟨d,hd⟩:∃d,sliD Wz bC (bB 2)=bB d:=⟨_,rfl⟩
 have k0:inD (.tuple [.int 1,.int 0]) d=bB (.bool bD):=by cases hd;kernel_rfl
 have k1:inD (.tuple [.int 0,.int 1]) d=bB (.bool bD):=by cases hd;kernel_rfl
 have k:inD (.tuple [.int (b.1-a.1),.int (b.2-a.2)]) d=bB (.bool bD):=by
  obtain⟨x,y⟩:=a
  rcases h with rfl|rfl
  .have e1:x+1-x=1:=by omega
   have e3:y-y=0:=by omega
   dsimp only;rw[e1,e3];exact k0
  .have e1:y+1-y=1:=by omega
   have e3:x-x=0:=by omega
   dsimp only;rw[e1,e3];exact k1
 delta Qw Z3
 simp_arith [qhB ha,qhB hb,st,hd,k]
theorem bend6 {v:Int}(h:-1<=v/\v<=1):Jt [.int v]=bB (.bool bD):=by
 have w:JH [.int v]=bB (.bool bD):=rfl
 have k:inD (.int v) Wy=bB (.bool bD):=by
  have:v=-1\/v=0\/v=1:=by omega
  rcases this with rfl|rfl|rfl<;>kernel_rfl
 delta Jt wZ
 simp_arith [w,k]
theorem mm6 {t:Tj}(h:Adj t.1 t.2.1\/Adj t.2.1 t.1):j8 [eC t.1,eC t.2.1]=bB (eC (nt t).1.1)/\j7 [eC t.1,eC t.2.1]=bB (eC (nt t).1.2)/\Adj (nt t).1.1 (nt t).1.2/\(nt t).2=t.2.2:=by
 obtain⟨a,b,v⟩:=t
 rcases h with h|h
 .rw[(qel v h).1]
  exact⟨(minC h).1,(minC h).2.2.1,h,rfl⟩
 .rw[(qel v h).2]
  exact⟨(minC h).2.1,(minC h).2.2.2,h,rfl⟩
theorem ixT0 (t:Tj):ixD (eT t) (.int 0)=bB (eC t.1):=rfl
theorem ixT1 (t:Tj):ixD (eT t) (.int 1)=bB (eC t.2.1):=rfl
theorem ixT2 (t:Tj):ixD (eT t) (.int 2)=bB (.int t.2.2):=rfl
theorem qk6 {S:aB}{T:List Tj}(hS:S.Nodup)(hl:S.length<=900)(hT:T.length<64)(had:∀t∈T,Adj t.1 t.2.1\/Adj t.2.1 t.1)(hk:((T.map nt).map (·.1)).Nodup)(hm:∀p∈T.map nt,p.1.1∈S/\p.1.2∈S/\-1<=p.2/\p.2<=1)
  {J:List Sp} (pJ:J.Perm ((T.map nt).map (jn S))) (rJ:RisS J):Qc [.list (S.map eC),.list (T.map eT)]=bB (.list (J.map eS)):=by
 have n0:=qhD hS hl
 obtain⟨ρ',el,o4,o5,o6,rfl⟩:=jJ (λp:Tj×Nat=>VM [.int (p.2:Nat),eT p.1]) (g:=unpD 2 (gsC (gNm 4) (gsC (gNm 5) gsN))) (u:=jE)
  (λdone ρ=>∃o4 o5 o6:Option Ka,ρ=[bB (.list (S.map eC)),bB (.list (T.map eT)),bB (.dict (eN S.zipIdx)),bB (.dict (eJ (done.map λp=>nt p.1))),o4,o5,o6]) T.zipIdx [bB (.list (S.map eC)),bB (.list (T.map eT)),bB (.dict (eN S.zipIdx)),bB (.dict []),bC,bC,bC] ⟨bC,bC,bC,rfl⟩ (by
   rintro⟨t,k⟩ done rest ρ dj ⟨o4,o5,o6,rfl⟩
   have lh:T=done.map (·.1)++t::rest.map (·.1):=by
    have:=congrArg (List.map (·.1)) dj
    rwa[N2,Kw,Km]at this
   have ht:t∈T:=by rw[lh];simp
   obtain⟨m1,m2,ad,ev⟩:=mm6 (had t ht)
   obtain⟨s1,s2,s3⟩:=hm (nt t) (Kl.mpr ⟨t,ht,rfl⟩)
   rw[ev]at s3
   have hnb:=qlj s1 s2 ad
   have hb:=bend6 s3
   have e1:done.map (λp:Tj×Nat=>nt p.1)=(done.map (·.1)).map nt:=by rw[Kx];rfl
   have lG:(nt t).1∉(done.map λp:Tj×Nat=>nt p.1).map (·.1):=λz=>by
    rw[lh,Kw,Kw,VV]at hk
    rw[e1]at z
    exact hk.2.2 _ z (nt t).1 '+' rfl
   have cR:in2D (.tuple [eC (nt t).1.1,eC (nt t).1.2]) (.dict (eJ (done.map λp:Tj×Nat=>nt p.1)))=bB (.bool bE):=by
    have:=qkV (done.map λp:Tj×Nat=>nt p.1) (nt t).1
    rw[se lG]at this
    exact this
   have e8:done.length<900:=by
    have:=congrArg Xf lh
    rw[Kr,Kc]at this
    omega
   have hd:jF (.dict (eJ (done.map λp:Tj×Nat=>nt p.1))) (.tuple [eC (nt t).1.1,eC (nt t).1.2]) (.int t.2.2)=bB (.dict (eJ ((done++[(t,k)]).map λp:Tj×Nat=>nt p.1))):=by
    rw[Kw,←ev]
    exact YW (q:=(nt t).1) (nt t).2 (by rw[Kc];exact e8) λp hp z=>lG (Kl.mpr ⟨p,hp,z⟩)
   refine⟨_,?_,bB (.int (k:Nat)),bB (eT t),bB (.tuple [eC (nt t).1.1,eC (nt t).1.2]),rfl⟩
   simp_arith [ixT0,ixT1,ixT2,m1,m2,hnb,hb,cR,hd])
 have e2:T.zipIdx.map (λp:Tj×Nat=>nt p.1)=T.map nt:=by
  have:T.zipIdx.map (λp:Tj×Nat=>nt p.1)=(T.zipIdx.map (·.1)).map nt:=by rw[Kx];rfl
  rw[this,N2]
 rw[e2]at el
 have hit:qeb (.dict (eJ (T.map nt)))=bB ((T.map nt).map λp=>.tuple [eP p.1,.int p.2]):=by
  show(if excK (eJ (T.map nt))=bD then bC else bB ((eJ (T.map nt)).map λp=>VM [p.1,p.2]))=_
  rw[sk (show ¬excK (eJ (T.map nt))=bD by cases T<;>exact Vl)]
  unfold eJ
  rw[Kx]
  rfl
 have hc:Qp 2 (unpD 2 (gsC (gNm 7) (gsC (gNm 8) gsN))) tT (evA (aC (ev2 (vr 2) (ev2 (vr 7) (kd (.int 0)) ixD) ix2D) (aC (ev2 (vr 2) (ev2 (vr 7) (kd (.int 1)) ixD) ix2D) (aC (vr 8) aN))) tupD) [bB (.list (S.map eC)),bB (.list (T.map eT)),bB (.dict (eN S.zipIdx)),bB (.dict (eJ (T.map nt))),o4,o5,o6] ((T.map nt).map λp=>.tuple [eP p.1,.int p.2])=bB ((T.map nt).map λp=>eS (jn S p)) :=
  QZ (λp:Jn=>.tuple [eP p.1,.int p.2]) _ (T.map nt) λa ha=>by
   obtain⟨s1,s2,_⟩:=hm a ha
   have x0:ixD (eP a.1) (.int 0)=bB (eC a.1.1):=rfl
   have x1:ixD (eP a.1) (.int 1)=bB (eC a.1.2):=rfl
   simp_arith [x0,x1,qhC s1,qhC s2]
   rfl
 have hlen:((T.map nt).map λp:Jn=>VM [eP p.1,.int p.2]).length<=1000:=by rw[Kc,Kc];omega
 obtain⟨J',ej,pj,rj⟩:=qbC (xs:=(T.map nt).map (jn S)) (by rw[Kc,Kc];exact hT)
 have hJ:J'=J:=qdW (pj.trans pJ.symm) rj rJ
 have ej:Qq [.list ((T.map nt).map λp=>eS (jn S p))]=bB (.list (J.map eS)):=by
  rw[←hJ,←ej,Kx (f:=jn S)]
  rfl
 delta Qc Z4
 simp_arith [n0,qc4,el,hit,hlen,hc,ej]
def eLn (l:aF):Ka:=.list (l.map .int)
def eL (LL:aJ):Ka:=.list (LL.map eLn)
def In (LL:aJ)(i x:Int):Prop:=∃l,LL[i.toNat]?=bB l/\x∈l
structure Lk (n m:Nat)(LL:aJ):Prop where
 len:LL.length=n
 bd:∀l∈LL,l.length<=m/\∀x∈l,0<=x/\x<(n:Int)
theorem Lk.at {n m:Nat}{LL:aJ}(h:Lk n m LL){i:Int}(h0:0<=i)(h1:i<(n:Int)):∃l,LL[i.toNat]?=bB l/\l∈LL:=by
 have bK:i.toNat<LL.length:=by rw[h.len];omega
 exact⟨LL[i.toNat],Kj bK,VF bK⟩
theorem Lk.add {n m:Nat}{LL:aJ}(h:Lk n m LL){i x:Int}{l:aF}(h0:0<=i)(e:LL[i.toNat]?=bB l)(x0:0<=x)(x1:x<(n:Int)):
  Lk n (m+1) (LL.set i.toNat (l++[x]))/\In (LL.set i.toNat (l++[x])) i x/\∀j y,In LL j y->In (LL.set i.toNat (l++[x])) j y:=by
 obtain⟨bK,hl⟩:=KW.mp e
 refine⟨⟨by rw[Ub];exact h.len,λq hq=>?_⟩,⟨l++[x],by rw[Vv bK],by simp⟩,λj y ⟨q,hq,hy⟩=>?_⟩
 .rcases List.mem_or_eq_of_mem_set hq with z|rfl
  .exact⟨Nk (h.bd q z).1,(h.bd q z).2⟩
  .have hb:=h.bd l (by rw[←hl];exact VF bK)
   refine⟨by rw[Kr,KQ];omega,λy hy=>?_⟩
   rcases K6.mp hy with z|z
   .exact hb.2 y z
   .rw[Ky.mp z];exact⟨x0,x1⟩
 .by_cases hj:i.toNat=j.toNat
  .rw[←hj,e]at hq
   cases hq
   exact⟨l++[x],by rw[←hj,Vv bK],Vi _ hy⟩
  .exact⟨q,by rw[UK hj];exact hq,hy⟩
theorem qhd {LL:aJ}{i x:Int}{l:aF}(h0:0<=i)(e:LL[i.toNat]?=bB l)(hl:l.length<1000)(ρ:Rho):kapO (bB (eL LL)) (bB (.int i)) (bB (.int x)) 2 ρ=bB (.nx (ρ.set 2 (bB (eL (LL.set i.toNat (l++[x])))))):=by
 obtain⟨bK,he⟩:=KW.mp e
 have h1:Y6 (eL LL) (.int i)=bB i.toNat:=by
  show ixN (LL.map eLn).length i=_
  unfold ixN
  rw[si h0,si (by rw[Kc];omega)]
 have h2:qbg (eL LL) i.toNat=bB (eLn l):=by
  show(LL.map eLn)[i.toNat]?=_
  rw[KJ,e];rfl
 have h3:appD (eLn l) (.int x)=bB (eLn (l++[x])):=by
  show(if (l.map Kt).length<1000 then bB (UI (l.map Kt++[.int x])) else bC)=_
  rw[si (by rw[Kc];exact hl)]
  unfold eLn
  rw[Kw]
  rfl
 have h4:qch (eL LL) i.toNat (eLn (l++[x]))=eL (LL.set i.toNat (l++[x])):=by
  show UI ((LL.map eLn).set i.toNat (eLn (l++[x])))=_
  unfold eL
  rw[List.map_set]
 show ob (Y6 (eL LL) (.int i)) _=_
 rw[h1,ob_s,h2,ob_s,h3,ob_s,h4]
theorem qlf {n:Nat}(hn:n<=100){J:List Sp}(hJ:∀t∈J,(0<=t.1/\t.1<(n:Int))/\0<=t.2.1/\t.2.1<(n:Int))(hl:J.length<=100):∃LL:List (List Int),jG [.int (n:Nat),.list (J.map eS)]=bB (eL LL)/\Lk n 900 LL/\∀t∈J,In LL t.1 t.2.1/\In LL t.2.1 t.1:=by
 have hv:∀o1 o2 o3:Option Ka,qeY 4 1 (evR (aC (vr 0) aN) QJ) (gNm 4) tT (evA aN lstD) [bB (.int (n:Nat)),o1,o2,o3]=bB (eL ((Ku n).map λ_=>[])):=λo1 o2 o3=>by
  have hc:Qp 1 (gNm 4) tT (evA aN lstD) [bB (.int (n:Nat)),o1,o2,o3] ((Ku n).map λk:Nat=>Kt (k:Nat))=bB ((Ku n).map λ_=>.list []) :=
   QZ (λk:Nat=>Kt (k:Nat)) _ (Ku n) λa _=>by simp_arith []
  have hr:(if (-1000:Int)<=((n:Nat):Int)/\((n:Nat):Int)<=1000 then bB (rngL 0 (((n:Nat):Int)).toNat) else bC)=bB ((Ku n).map λk:Nat=>Kt (k:Nat)):=by
   rw[si '#',Va,yI]
  have hlen:((Ku n).map λk:Nat=>Kt (k:Nat)).length<=1000:=by rw[Kc,KR];omega
  have hg:Q8 4 1 (evR (aC (vr 0) aN) QJ) (gNm 4) tT (evA aN lstD) [bB (.int (n:Nat)),o1,o2,o3]=bB (.list ((Ku n).map λ_=>.list [])):=by
   simp_arith [hr,hlen,hc]
  show ob (Q8 4 1 (evR (aC (vr 0) aN) QJ) (gNm 4) tT (evA aN lstD) [bB (.int (n:Nat)),o1,o2,o3]) _=_
  rw[hg,ob_s]
  show(if ((Ku n).map λ_=>UI []).all Yb=bD then bB (UI ((Ku n).map λ_=>UI [])) else bC)=_
  rw[si (by rw[UP];exact KN.mpr λ_ _=>rfl)]
  unfold eL
  rw[Kx]
  rfl
 obtain⟨ρ',el,LL,o3,rfl,lk,cR⟩:=QC eS (g:=gNm 3) (u:=YM)
  (λdone ρ=>∃(LL:aJ) (o3:aE),ρ=[bB (.int (n:Nat)),bB (.list (J.map eS)),bB (eL LL),o3]/\Lk n (2*done.length) LL/\∀t∈done,In LL t.1 t.2.1/\In LL t.2.1 t.1) J [bB (.int (n:Nat)),bB (.list (J.map eS)),bB (eL ((Ku n).map λ_=>[])),bC] ⟨_,bC,rfl,⟨by rw[Kc,KR],λl hl=>by obtain⟨_,_,rfl⟩:=Kl.mp hl;exact⟨Vr _,λx hx=>by cases hx⟩⟩,λt ht=>by cases ht⟩ (by
   rintro t ht done ρ e8 ⟨LL,o3,rfl,lk,cR⟩
   obtain⟨⟨a0,a1⟩,b0,b1⟩:=hJ t ht
   obtain⟨l,e1,ml⟩:=lk.at a0 a1
   have hl1:=(lk.bd l ml).1
   obtain⟨n8,in2,iu⟩:=lk.add a0 e1 b0 b1
   obtain⟨l2,e2,ml2⟩:=n8.at b0 b1
   have nF:=(n8.bd l2 ml2).1
   obtain⟨lk3,in3,fV⟩:=n8.add b0 e2 a0 a1
   have k1:=qhd (x:=t.2.1) a0 e1 '#'
   have k2:=qhd (x:=t.1) b0 e2 '#'
   refine⟨_,?_,_,bB (eS t),rfl,by rw[Kr,KQ];exact lk3,λs hs=>?_⟩
   .simp_arith [ixe0,ixe1,k1,k2]
   .rcases K6.mp hs with z|z
    .exact⟨fV _ _ (iu _ _ (cR s z).1),fV _ _ (iu _ _ (cR s z).2)⟩
    .rw[Ky.mp z]
     exact⟨fV _ _ in2,in3⟩)
 refine⟨LL,?_,⟨lk.len,λl h=>⟨by have:=(lk.bd l h).1;omega,(lk.bd l h).2⟩⟩,cR⟩
 delta jG Yt
 simp_arith [hv,el]
theorem qaM {t:aj}{body:ak}(I:Nat->Rho->Prop)(step:∀m ρ,I m ρ->t ρ=bB bE\/(t ρ=bB bD/\∃ ρ' m',body ρ=bB (.nx ρ')/\m'<m/\I m' ρ')):
  ∀(fuel m:Nat) (ρ:Rho),m<fuel->I m ρ->∃ ρ' m',Yx t body fuel ρ=bB (.nx ρ')/\I m' ρ'/\t ρ'=bB bE
 |0,_,_,h,_=>absurd h (Nat.not_lt_zero _)
 |fuel+1,m,ρ,h,i=>by
  rcases step m ρ i with e|⟨e,ρ1,m1,e1,hm,i1⟩
  .refine⟨ρ,m,?_,i,e⟩
   show ob (t ρ) _=_
   rw[e];rfl
  .obtain⟨ρ2,m2,e2,i2,e3⟩:=qaM I step fuel m1 ρ1 '#' i1
   refine⟨ρ2,m2,?_,i2,e3⟩
   show ob (t ρ) _=_
   rw[e,ob_s,si rfl,e1,ob_s]
   exact e2
noncomputable abbrev Og:=Int×PyData
abbrev ky (os:List Og):List Int:=os.map λp=>p.1
def eO (os:List Og):List (Ka×PyData):=os.map λp=>(.int p.1,p.2)
theorem qha (os:List Og)(i:Int):kOk (eO os) (.inl i)=bD:=by
 unfold kOk eO
 rw[UP]
 exact KN.mpr λp _=>rfl
theorem qbX (i:Int):∀os:List Og,(zp (eO os) (.inl i)).isSome=decide (i∈ky os)
 |[]=>rfl
 |p::os=>by
  have ih:=qbX i os
  have e:zp (eO (p::os)) (.inl i)=if p.1=i then bB p.2 else zp (eO os) (.inl i):=by
   unfold zp eO
   rw[Km,Vd]
   have:KC (.int p.1) (kxD (.inl i))=(p.1==i):=rfl
   rw[this]
   by_cases h:p.1=i
   .rw[si h];simp [h]
   .rw[sk h]
    have:(p.1==i)=bE:=sF.mpr h
    rw[this]
  rw[e]
  by_cases h:p.1=i
  .rw[si h];simp [h]
  .rw[sk h,ih]
   by_cases h2:i∈ky os
   .rw[sh h2,sh (show i∈ky (p::os) from .tail _ h2)]
   .rw[se h2,se (show ¬i∈ky (p::os) from λz=>(Ko.mp z).elim (λz=>h z.symm) h2)]
theorem qhz (os:List Og)(i:Int):qbs (.int i) (.dict (eO os))=bB (.bool (!decide (i∈ky os))):=by
 show ob (kxOf (.int i)) (λks=>if kOk (eO os) ks=bD then bB (VI (!(zp (eO os) ks).isSome)) else bC)=_
 have:kxOf (.int i)=bB (.inl i):=rfl
 rw[this,ob_s,si (qha _ _),qbX]
theorem qlL {os:List Og}{i:Int}(d:Ka)(hl:os.length<900)(h:i∉ky os):jF (.dict (eO os)) (.int i) d=bB (.dict (eO (os++[(i,d)]))):=by
 show ob (kxOf (.int i)) (λks=>if kOk (eO os) ks=bD/\(eO os).length<1000 then bB (E4 (putD (eO os) ks d)) else bC)=_
 have:kxOf (.int i)=bB (.inl i):=rfl
 rw[this,ob_s,si ⟨qha _ _,by unfold eO;rw[Kc];omega⟩]
 unfold putD
 rw[qbX,se h,sk '%']
 unfold eO
 rw[Kw]
 rfl
def un (n:Nat)(os:List Og):Nat:=(Ku n).countP λk=>!decide (((k:Nat):Int)∈ky os)
theorem qgF {p q:Nat->Bool}:∀{l:ao},(∀x∈l,p x=bD->q x=bD)->(∃x∈l,q x=bD/\p x=bE)->l.countP p<l.countP q
 |[],_,⟨_,h,_⟩=>by cases h
 |y::l,h1,⟨x,hx,h2,h3⟩=>by
  rw[List.countP_cons,List.countP_cons]
  have iC:∀x∈l,p x=bD->q x=bD:=λx hx=>h1 x (.tail _ hx)
  rcases Ko.mp hx with rfl|hx
  .have:=List.countP_mono_left iC
   rw[si h2,sk (by rw[h3];decide)]
   omega
  .have:=qgF iC ⟨x,hx,h2,h3⟩
   have hy:=h1 y (.head _)
   cases hp:p y with
   |true=>rw[si rfl,si (hy hp)];omega
   |false=>rw[sk '%'];omega
theorem qml {n:Nat}{os:List Og}{i:Int}(d:Ka)(h0:0<=i)(h1:i<(n:Int))(h:i∉ky os):un n (os++[(i,d)])<un n os:=by
 refine qgF (λx _ hx=>?_) ⟨i.toNat,VX.mpr '#',?_,?_⟩
 .simp at hx ⊢
  exact λa b=>hx.1 a b
 .have:((i.toNat:Nat):Int)=i:=by omega
  rw[this,se h];rfl
 .have:((i.toNat:Nat):Int)=i:=by omega
  rw[this,sh '+'];rfl
structure Bf (n:Nat)(os:List Og)(ws:aF):Prop where
 kr:∀k∈ky os,0<=k/\k<(n:Int)
 wk:∀w∈ws,w∈ky os
 zero:(0:Int)∈ky os
 size:os.length+un n os<=n+1
 wsz:ws.length<=os.length
theorem pop0 (d:Ka)(ds:ae):Yr (.list (d::ds)) (.int 0)=bB (d,.list ds):=by
 show ob (if (-1000:Int)<=0/\(0:Int)<=1000 then tL 0 (d::ds).length else bC) _=_
 rw[si ⟨by decide,by decide⟩,seqIx (XH 0) (by rw[Kv];omega),ob_s]
 rfl
def Mn (n:Nat)(LL:aJ)(os:List Og):Prop:=∀P:Int->Prop,P 0->(∀k x,0<=k->k<(n:Int)->P k->In LL k x->P x)->∀k∈ky os,P k
theorem qlR {n:Nat}(pD:0<n)(hn:n<=100){LL:aJ}(lk:Lk n 900 LL):∃os:List Og,QR [.int 0,eL LL]=bB (.dict (eO os))/\(0:Int)∈ky os/\(∀k∈ky os,∀x,In LL k x->x∈ky os)/\Mn n LL os:=by
 obtain⟨ρ',m',ew,⟨os,ws,o4,o5,rfl,bf,cl,mn,-⟩,et⟩:=qaM (t:=tW (vr 3)) (body:=ZP)
  (λm ρ=>∃(os:List Og) (ws:aF) (o4 o5:aE),ρ=[bB (.int 0),bB (eL LL),bB (.dict (eO os)),bB (.list (ws.map .int)),o4,o5]/\Bf n os ws/\(∀k∈ky os,k∉ws->∀x,In LL k x->x∈ky os)/\Mn n LL os/\m=2*un n os+ws.length) (by
   rintro m ρ ⟨os,ws,o4,o5,rfl,bf,cl,mn,rfl⟩
   cases ws with
   |nil=>exact .inl (by simp_arith [V9,tW_b,qmg])
   |cons w ws =>
    refine .inr ⟨by simp_arith [Km,tW_b,qis],?_⟩
    obtain⟨w0,w1⟩:=bf.kr w (bf.wk w (.head _))
    obtain⟨l,e1,ml⟩:=lk.at w0 w1
    have hlb:=(lk.bd l ml).2
    have hix:ixD (eL LL) (.int w)=bB (eLn l):=by
     show atI (LL.map eLn) w=_
     exact jQ w0 e1
    obtain⟨ρ1,el,cW,fW,o5',rfl,b1,g1,g2,g3,g4,kF,g5⟩:=QC Kt (g:=gNm 5) (u:=Jq)
     (λdone ρ=>∃(cW:List Og) (fW:aF) (o5:aE),ρ=[bB (.int 0),bB (eL LL),bB (.dict (eO cW)),bB (.list (fW.map .int)),bB (.int w),o5]/\Bf n cW fW/\(∀x∈done,x∈ky cW)/\(∀k∈ky os,k∈ky cW)/\(∀k∈ws,k∈fW)/\(∀k∈ky cW,k∉fW->k∈ky os)/\Mn n LL cW/\2*un n cW+fW.length<=2*un n os+ws.length) l [bB (.int 0),bB (eL LL),bB (.dict (eO os)),bB (.list (ws.map .int)),bB (.int w),o5] ⟨os,ws,o5,rfl,⟨bf.kr,λk hk=>bf.wk k (.tail _ hk),bf.zero,bf.size,by have:=bf.wsz;rw[Kv]at this;omega⟩,(λx hx=>by cases hx),λk h=>h,λk h=>h,λk h _=>h,mn,Kp _⟩ (by
      rintro j hj done ρ e8 ⟨cW,fW,o5,rfl,b1,g1,g2,g3,g4,kF,g5⟩
      obtain⟨j0,j1⟩:=hlb j hj
      have lG:=qhz cW j
      have lj:cW.length<900:=by have:=b1.size;omega
      by_cases cR:j∈ky cW
      .refine⟨_,?_,cW,fW,bB (.int j),rfl,b1,λx hx=>?_,g2,g3,g4,kF,g5⟩
       .simp_arith [lG,sh cR]
       .rcases K6.mp hx with z|z
        .exact g1 x z
        .rw[Ky.mp z];exact cR
      .have hp:=qlL (.int w) lj cR
       have hu:=qml (.int w) j0 j1 cR
       have hz:(fW.map Kt).length<1000:=by rw[Kc];have:=b1.wsz;omega
       have mk:∀k,k∈ky (cW++[(j,Kt w)])↔k∈ky cW\/k=j:=λk=>by unfold ky;rw[Kw,K6];simp
       refine⟨_,?_,cW++[(j,.int w)],fW++[j],bB (.int j),rfl,⟨λk hk=>?_,λk hk=>?_,(mk 0).mpr (.inl b1.zero),?_,?_⟩,λx hx=>?_,λk hk=>(mk k).mpr (.inl (g2 k hk)),λk hk=>Vi _ (g3 k hk),λk hk hw=>?_,λP h0 hc k hk=>?_,?_⟩
       .simp_arith [lG,se cR,hp,hz]
        simp only[Kw,Km,V9]
       .rcases(mk k).mp hk with z|rfl
        .exact b1.kr k z
        .exact⟨j0,j1⟩
       .rcases K6.mp hk with z|z
        .exact(mk k).mpr (.inl (b1.wk k z))
        .exact(mk k).mpr (.inr (Ky.mp z))
       .have:=b1.size
        rw[Kr,KQ];omega
       .have:=b1.wsz
        rw[Kr,Kr,KQ,KQ];omega
       .rcases K6.mp hx with z|z
        .exact(mk x).mpr (.inl (g1 x z))
        .exact(mk x).mpr (.inr (Ky.mp z))
       .rcases(mk k).mp hk with z|rfl
        .exact g4 k z λy=>hw (Vi _ y)
        .exact absurd (K5 _ (Ky.mpr rfl)) hw
       .rcases(mk k).mp hk with z|rfl
        .exact kF P h0 hc k z
        .exact hc w k w0 w1 (mn P h0 hc w (bf.wk w (.head _))) ⟨l,e1,hj⟩
       .rw[Kr,KQ];omega)
    refine⟨_,_,?_,?_,cW,fW,bB (.int w),o5',rfl,b1,λk hk pE x hx=>?_,kF,rfl⟩
    .have hp0:=pop0 (.int w) (ws.map .int)
     have sq:seqD (eLn l)=bB (l.map .int):=rfl
     simp_arith [Km,hp0,hix,sq,el]
    .rw[Kv];omega
    .by_cases mz:k=w
     .subst mz
      obtain⟨l',pF,ij⟩:=hx
      rw[e1]at pF
      cases pF
      exact g1 x ij
     .exact g2 x (cl k (g4 k hk pE) (λz=>(Ko.mp z).elim mz λz=>pE (g3 k z)) x hx)) 1000000 (2*un n [(0,.none)]+1) [bB (.int 0),bB (eL LL),bB (.dict (eO [(0,.none)])),bB (.list ([(0:Int)].map .int)),bC,bC] (by
   have:un n [(0,.none)]<=n:=by
    unfold un
    exact Vx E9 (by rw[KR];exact Kp _)
   omega) ⟨[(0,.none)],[0],bC,bC,rfl,⟨λk hk=>by rw[Ky.mp hk];exact⟨XH 0,by show(0:Int)<(n:Int);omega⟩,λw hw=>hw,.head _,by
    have:un n [(0,.none)]<=n:=by
     unfold un
     exact Vx E9 (by rw[KR];exact Kp _)
    rw[KQ];omega,Kp _⟩,λk hk hw=>absurd hk hw,λP h0 _ k hk=>by rw[Ky.mp hk];exact h0,rfl⟩
 have hws:ws=[]:=by
  cases ws with
  |nil=>rfl
  |cons w ws =>
   simp_arith [Km,tW_b,qis]at et
   cases et
 subst hws
 refine⟨os,?_,bf.zero,λk hk x hx=>cl k hk (λz=>by cases z) x hx,mn⟩
 have hw:qes (tW (vr 3)) ZP [bB (.int 0),bB (eL LL),bB (.dict [(.int 0,.none)]),bB (.list [.int 0]),bC,bC]=bB (.nx [bB (.int 0),bB (eL LL),bB (.dict (eO os)),bB (.list []),o4,o5]):=ew
 have d1:qcZ (.int 0) .none=bB (.dict [(.int 0,.none)]):=rfl
 delta QR jO
 simp_arith [d1,hw]
theorem qkC {n:Nat}(pD:0<n)(hn:n<=100){J:List Sp}(hJ:∀t∈J,(0<=t.1/\t.1<(n:Int))/\0<=t.2.1/\t.2.1<(n:Int))(hl:J.length<=100)
  (hc:∀P:Int->Prop,P 0->(∀t∈J,(P t.1->P t.2.1)/\(P t.2.1->P t.1))->∀k:Nat,k<n->P (k:Nat)):Qm [.int (n:Nat),.list (J.map eS)]=bB .none:=by
 obtain⟨LL,e1,lk,cR⟩:=qlf hn hJ hl
 obtain⟨os,e2,z0,cl,_⟩:=qlR pD hn lk
 have all:=hc (λk=>k∈ky os) z0 λt ht=>⟨λh=>cl t.1 h t.2.1 (cR t ht).1,λh=>cl t.2.1 h t.1 (cR t ht).2⟩
 have hr:(if (-1000:Int)<=((n:Nat):Int)/\((n:Nat):Int)<=1000 then bB (rngL 0 (((n:Nat):Int)).toNat) else bC)=bB ((Ku n).map λk:Nat=>Kt (k:Nat)):=by
  rw[si '#',Va,yI]
 obtain⟨ρ',el,o3,rfl⟩:=QC (λk:Nat=>Kt (k:Nat)) (g:=gNm 3) (u:=J6)
  (λ_ ρ=>∃o3:Option Ka,ρ=[bB (.int (n:Nat)),bB (.list (J.map eS)),bB (.dict (eO os)),o3]) (Ku n) [bB (.int (n:Nat)),bB (.list (J.map eS)),bB (.dict (eO os)),bC] ⟨bC,rfl⟩ (by
   rintro k hk done ρ-⟨o3,rfl⟩
   have hi:=qhz os (k:Nat)
   rw[sh (all k (VX.mp hk))]at hi
   refine⟨_,?_,bB (.int (k:Nat)),rfl⟩
   simp_arith [hi])
 delta Qm Je
 simp_arith [e1,e2,hr,el]
theorem qg1 {S:aB}(hS:S.Nodup){k:Nat}(hk:k<S.length):S.idxOf S[k]=k:=by
 have bK:=U1 (VF hk)
 have e:=List.getElem_idxOf bK
 have key:=Es.mp hS
 rcases Nat.lt_trichotomy (S.idxOf S[k]) k with z|z|z
 .exact absurd e (key _ _ bK hk z)
 .exact z
 .exact absurd e.symm (key _ _ hk bK z)
theorem conn6 {F S:aB}{js:aI}{J:List Sp}(hF:F.Nodup)(pS:S.Perm F)(pJ:J.Perm (js.map (jn S)))(hc:Conn F js)(h0:0<F.length)(P:Int->Prop)(hP:P 0)(hj:∀t∈J,(P t.1->P t.2.1)/\(P t.2.1->P t.1)):∀k:Nat,k<S.length->P (k:Nat):=by
 have hS:S.Nodup:=pS.nodup_iff.mpr hF
 have pG:0<S.length:=by rw[pS.length_eq];exact h0
 have step:∀p∈js,(P (S.idxOf p.1.1:Nat)↔P (S.idxOf p.1.2:Nat)):=λp hp=>by
  have:=hj (jn S p) (pJ.mem_iff.mpr (Kl.mpr ⟨p,hp,rfl⟩))
  exact⟨this.1,this.2⟩
 have all:∀k,k<F.length->∀c,F[k]?=bB c->(P (S.idxOf F[0]:Nat)↔P (S.idxOf c:Nat)):=by
  intro k
  induction k using Nat.strongRecOn with
  |_ k ih =>
   intro hk c fy
   by_cases nT:k=0
   .subst nT
    rw[Kj h0]at fy
    cases fy
    exact Iff.rfl
   .obtain⟨i,p,hi,hp,h⟩:=hc k '#' hk
    have hU:=step p hp
    rcases h with ⟨a,b⟩|⟨a,b⟩
    .rw[fy]at b
     cases b
     exact(ih i hi '#' _ a).trans hU
    .rw[fy]at a
     cases a
     exact(ih i hi '#' _ b).trans hU.symm
 have mem:∀c∈S,∃k,k<F.length/\F[k]?=bB c:=λc l5=>by
  obtain⟨k,hk,e⟩:=Xn (pS.mem_iff.mp l5)
  exact⟨k,hk,by rw[Kj hk,e]⟩
 have hz:P (S.idxOf S[0]:Nat):=by rw[qg1 hS pG];exact hP
 obtain⟨m,hm,em⟩:=mem S[0] (VF pG)
 have hF0:=(all m hm _ em).mpr hz
 intro k hk
 obtain⟨m',lH,em'⟩:=mem S[k] (VF hk)
 have:=(all m' lH _ em').mp hF0
 rwa[qg1 hS hk]at this
def flO (d:aE):Option Ka:=match d with
 |some (.list es)=>if jm es=bD then bB (.list es) else bC
 |_=>bC
theorem qkP (f:aa)(ρ:Rho):flLF f ρ=flO (f ρ):=by
 unfold flLF flO ob
 cases f ρ with
 |none=>rfl
 |some d=>cases d<;>rfl
theorem flO_s {es:ae}(h:jm es=bD):flO (bB (.list es))=bB (.list es):=by
 show(if jm es=bD then bB (UI es) else bC)=_
 rw[si h]
theorem qc8:∀J:List Sp,jm (J.map eS)=bD
 |[]=>rfl
 |_::J=>by
  show(bD&&jm (J.map eS))=bD
  rw[qc8 J];rfl
theorem ql5 {C S:aB}{T:List Tj}{J:List Sp}(h1:0<C.length)(mF:C.length<=26)(hs:Qq [.list (C.map eC)]=bB (.list (S.map eC)))(hS:S.Nodup)(hl:S.length=C.length)
  (hj:Qc [.list (S.map eC),.list (T.map eT)]=bB (.list (J.map eS))) (ha:Qm [.int (C.length:Nat),.list (J.map eS)]=bB .none):jH [.list (C.map eC),.list (T.map eT)]=bB (.tuple [.list (S.map eC),.list (J.map eS)]):=by
 have tw:=qmi hs hS '#'
 have hf:Zx [.list (C.map eC),.list (T.map eT)]=bB (.tuple [.list (S.map eC),.list (J.map eS)]):=by
  delta Zx JZ
  simp_arith [hs,hj,qkP,flO_s (qc8 J)]
 have mc:jq=.int 26:=rfl
 have d1:decide ((1:Int)<=(((C.map eC).length:Nat):Int))=bD:=sh (by rw[Kc];omega)
 have d2:decide ((((C.map eC).length:Nat):Int)<=26)=bD:=sh (by rw[Kc];omega)
 have ha:Qm [.int (((C.map eC).length:Nat):Int),.list (J.map eS)]=bB .none:=by rw[Kc];exact ha
 have in1:isNone PyData.none=bD:=rfl
 have fn:flat PyData.none=bD:=rfl
 delta jH Yw
 simp_arith [mc,d1,d2,tw,in1,Ee,hf,ha,fn]
theorem Conn.moved {fs:aB}{js:aI}(s:Ce)(h:Conn fs js):Conn (fs.map (sh2 s)) (js.map (shJ s)):=λk h1 h2=>by
 rw[Kc]at h2
 obtain⟨i,p,hi,hp,e⟩:=h k h1 h2
 refine⟨i,shJ s p,hi,Kl.mpr ⟨p,hp,rfl⟩,?_⟩
 rw[KJ,KJ]
 rcases e with ⟨a,b⟩|⟨a,b⟩
 .rw[a,b];exact .inl ⟨rfl,rfl⟩
 .rw[a,b];exact .inr ⟨rfl,rfl⟩
theorem qkz (s:Ce){a b:Ce}(h:Adj a b):Adj (sh2 s a) (sh2 s b):=by
 unfold sh2
 rcases h with rfl|rfl
 .left;dsimp only;congr 1;omega
 .right;dsimp only;congr 1;omega
theorem qkl {c:Int}(h:Bd 1048576 c):∃v:Int,zH [.int c]=bB (.int v)/\v.natAbs<=10 ^ 19:=by
 have mG:powD (.int 10) (.int 19)=bB (.int (10 ^ 19)):=rfl
 have p6:powD (.int 7919) (.int 6)=bB (.int (7919 ^ 6)):=rfl
 have m2:mulD (.int 2) (.int (10 ^ 19))=bB (.int (2*10 ^ 19)):=QB (Bd.ok (n:=2) (m:=70) (Bd.of '%') (Bd.of '%'))
 have m6:mulD (.int (c / 4)) (.int (7919 ^ 6))=bB (.int (c / 4*7919 ^ 6)):=QB (Bd.ok (n:=1048576) (m:=90) (h.div '%') (Bd.of '%'))
 have md:∀x:Int,modD (.int x) (.int (2*10 ^ 19+1))=bB (.int (x%(2*10 ^ 19+1))):=λx=>JN x '%'
 have bd:∀x:Int,(x%(2*10 ^ 19+1)-10 ^ 19).natAbs<=10 ^ 19:=λx=>by
  have a:=XA x (b:=2*10 ^ 19+1) '%'
  have b:=XB x (b:=2*10 ^ 19+1) '%'
  omega
 have h4:c%4=0\/c%4=1\/c%4=2\/c%4=3:=by omega
 rcases h4 with e|e|e|e
 .have e1:(c%4==1)=bE:=by rw[e];rfl
  have e2:(c%4==2)=bE:=by rw[e];rfl
  have e3:(c%4==3)=bE:=by rw[e];rfl
  refine⟨c / 4%11-5,?_,by omega⟩
  delta zH Qn
  simp_arith [e1,e2,e3]
 .have e1:(c%4==1)=bD:=by rw[e];rfl
  refine⟨c / 4%(2*10 ^ 19+1)-10 ^ 19,?_,bd _⟩
  delta zH Qn
  simp_arith [-L2.JN,JN c (by decide:(0:Int)<4),e1,mG,m2,md]
 .have e1:(c%4==1)=bE:=by rw[e];rfl
  have e2:(c%4==2)=bD:=by rw[e];rfl
  rcases(by omega:c / 4%2=0\/c / 4%2=1) with g|g
  .refine⟨10 ^ 19,?_,by decide⟩
   delta zH Qn
   simp_arith [e1,e2,mG,g]
  .refine⟨-10 ^ 19,?_,by decide⟩
   delta zH Qn
   simp_arith [e1,e2,mG,g]
 .have e1:(c%4==1)=bE:=by rw[e];rfl
  have e2:(c%4==2)=bE:=by rw[e];rfl
  have e3:(c%4==3)=bD:=by rw[e];rfl
  refine⟨c / 4*7919 ^ 6%(2*10 ^ 19+1)-10 ^ 19,?_,bd _⟩
  delta zH Qn
  simp_arith [-L2.JN,JN c (by decide:(0:Int)<4),e1,e2,e3,mG,p6,m2,m6,md]
theorem qcm (x:Int)(k:Nat)(hk:k<=200):∃v:Int,zr [.int x,.int (k:Nat)]=bB (.int v):=by
 have a1:=XA x (b:=1000000007) '%'
 have a2:=XB x (b:=1000000007) '%'
 have b7:Bd 3 7:=Bd.of '%'
 have n9:Bd 4 13:=Bd.of '%'
 have bk:Bd 8 ((k:Nat):Int):=Bd.of '#'
 have m1:=QB (b7.ok bk)
 have m2:=QB ((b7.mul bk).ok bk)
 have m3:=QB (n9.ok bk)
 have kk:(7*((k:Nat):Int)*((k:Nat):Int)).natAbs<=280000:=by
  have:7*k*k<=7*200*200:=Nat.mul_le_mul (Nat.mul_le_mul_left 7 hk) hk
  have e:7*((k:Nat):Int)*((k:Nat):Int)=((7*k*k:Nat):Int):=by simp
  rw[e,Int.natAbs_natCast];exact this
 generalize hz:7*((k:Nat):Int)*((k:Nat):Int)=z at *
 have b5:Bd 32 (x%1000000007+z+13*((k:Nat):Int)+5):=Bd.of '#'
 have m4:=QB (b5.ok (Bd.of (n:=16) (i:=48271) '%'))
 generalize hy:(x%1000000007+z+13*((k:Nat):Int)+5)*48271=y at *
 have c1:=XA y (b:=2147483647) '%'
 have c2:=XB y (b:=2147483647) '%'
 have b6:Bd 31 (y%2147483647):=Bd.of '#'
 have m5:=QB (b6.ok (Bd.of (n:=17) (i:=69621) '%'))
 have d1:=XA (y%2147483647*69621+((k:Nat):Int)) (b:=1000000007) '%'
 have d2:=XB (y%2147483647*69621+((k:Nat):Int)) (b:=1000000007) '%'
 have b8:Bd 31 ((y%2147483647*69621+((k:Nat):Int))%1000000007):=Bd.of '#'
 have m6:=QB (b8.ok (Bd.of (n:=16) (i:=40692) '%'))
 refine⟨(y%2147483647*69621+((k:Nat):Int))%1000000007*40692%2147483399,?_⟩
 delta zr JT
 simp_arith [m1,hz,m2,m3,m4,m5,m6]
theorem qlh (ns:aF):∃m:Int,Zo [.list (ns.map .int),.int 3,.int 26]=bB (.int m)/\1<=m/\m<=26:=by
 have c3:=cell_eq ns 3 '%'
 rcases(by omega:Qo ns 3%2=1\/Qo ns 3%2=0) with o|o
 .have e:(Qo ns 3%2==1)=bD:=by rw[o];rfl
  refine⟨26,?_,by decide,by decide⟩
  delta Zo jX
  simp_arith [c3,e]
 .have e:(Qo ns 3%2==1)=bE:=by rw[o];rfl
  obtain⟨v,ev⟩:=qcm (Qo ns 3) 77 '%'
  have ev:zr [.int (Qo ns 3),.int 77]=bB (.int v):=ev
  refine⟨1+v%26,?_,by omega,by omega⟩
  delta Zo jX
  simp_arith [c3,e,ev]
theorem qhv (g:Nat->Int)(p:Nat->Nat):∃mx:Nat->Int,∀k:Nat,p k<=200->zr [.int (g k),.int (p k:Nat)]=bB (.int (mx k)):=by
 have h:∀k:Nat,∃v:Int,p k<=200->zr [.int (g k),.int (p k:Nat)]=bB (.int v):=λk=>by
  by_cases hk:p k<=200
  .obtain⟨v,e⟩:=qcm (g k) (p k) hk;exact⟨v,λ_=>e⟩
  .exact⟨0,λz=>absurd z hk⟩
 exact⟨λk=>(h k).choose,λk=>(h k).choose_spec⟩
theorem qj2 (ns:aF):∃ms:List Int,Q3 [.list (ns.map .int),.int 3,.int 312]=bB (.list (ms.map .int))/\ms.length<=60:=by
 have c3:=cell_eq ns 3 '%'
 have rg:∀k:Nat,k<=100->QJ [.int (k:Nat)]=bB ((Ku k).map λk:Nat=>Kt (k:Nat)):=λk h=>by
  rw[Q7,si '#',Va,yI]
 rcases(by omega:Qo ns 3%2=1\/Qo ns 3%2=0) with o|o
 .have e:(Qo ns 3%2==1)=bD:=by rw[o];rfl
  obtain⟨m,hm,oa⟩:∃m:Nat,Qo ns 3 / 2%61=(m:Nat)/\m<=60:=⟨(Qo ns 3 / 2%61).toNat,by omega,by omega⟩
  obtain⟨ρ',el,ms,r,o7,rfl,hl⟩:=QC (λk:Nat=>Kt (k:Nat)) (g:=gNm 7) (u:=yq)
   (λdone ρ=>∃(ms:aF) (r:Int) (o7:aE),ρ=[bB (.list (ns.map .int)),bB (.int 3),bB (.int 312),bB (.int (Qo ns 3)),bB (.int r),bB (.int (m:Nat)),bB (.list (ms.map .int)),o7]/\ms.length=done.length) (Ku m) [bB (.list (ns.map .int)),bB (.int 3),bB (.int 312),bB (.int (Qo ns 3)),bB (.int (Qo ns 3 / 2 / 61)),bB (.int (m:Nat)),bB (.list []),bC] ⟨[],_,bC,rfl,rfl⟩ (by
    rintro k _ done ρ hd ⟨ms,r,o7,rfl,hl⟩
    rw[KR]at hd
    have hz:(ms.map Kt).length<1000:=by rw[Kc];omega
    refine⟨_,by simp_arith [hz];rfl,ms++[r%312],r / 312,bB (.int (k:Nat)),by rw[Kw];rfl,by rw[Kr,Kr,hl];rfl⟩)
  rw[KR]at hl
  refine⟨ms,?_,by omega⟩
  have r1:=rg m '#'
  delta Q3 jy
  simp_arith [-L2.Q7,c3,e,hm,r1,el]
 .have e:(Qo ns 3%2==1)=bE:=by rw[o];rfl
  obtain⟨v,ev⟩:=qcm (Qo ns 3) 3 '%'
  have ev:zr [.int (Qo ns 3),.int 3]=bB (.int v):=ev
  obtain⟨m,hm,oa⟩:∃m:Nat,v%61=(m:Nat)/\m<=60:=⟨(v%61).toNat,by omega,by omega⟩
  obtain⟨mx,hx⟩:=qhv (λk=>Qo ns (3+1+(k:Int))) (λk=>k+m)
  have r1:=rg m '#'
  have hc:Qv tT (evC 2 (aC (evC 2 (aC (vr 0) (aC (ev2 (ev2 (vr 1) (kd (.int 1)) Qf) (vr 8) Qf) aN)) qW) (aC (ev2 (vr 8) (vr 5) Qf) aN)) zr) [bB (.list (ns.map .int)),bB (.int 3),bB (.int 312),bB (.int (Qo ns 3)),bC,bB (.int (m:Nat)),bC,bC] ((Ku m).map λk:Nat=>Kt (k:Nat))=bB (((Ku m).map mx).map .int):=by
   rw[Kx]
   refine Qz (λk:Nat=>Kt (k:Nat)) _ (Ku m) λk hk=>?_
   have hk:=VX.mp hk
   have ce:=cell_eq ns (3+1+(k:Int)) '#'
   have me:=hx k '#'
   have ek:((k:Nat):Int)+((m:Nat):Int)=((k+m:Nat):Int):=by omega
   have e4:(3:Int)+1+((k:Nat):Int)=4+((k:Nat):Int):=by omega
   rw[e4]at ce me
   simp_arith [ce,ek,me]
   rfl
  have hz:((Ku m).map λk:Nat=>Kt (k:Nat)).length<=1000:=by rw[Kc,KR];omega
  refine⟨(Ku m).map mx,?_,by rw[Kc,KR];omega⟩
  delta Q3 jy
  simp_arith [-L2.Q7,c3,e,ev,hm,r1,hz,hc]
theorem qi6 (ms:aF)(hms:ms.length<=60)(mo:Int)(hmo:1<=mo):∃(fs:aB) (js:aI),Zv [.list (ms.map .int),.int mo]=bB (.tuple [.list (fs.map eC),.dict (eJ js)])/\Gr mo ms.length fs js:=by
 obtain⟨ρ',e,fs,js,o4,o5,o6,o7,rfl,g⟩:=QC Kt (g:=gNm 4) (u:=ym)
  (λdone ρ=>∃(fs:aB) (js:aI) (o4 o5 o6 o7:aE),ρ=[bB (.list (ms.map .int)),bB (.int mo),bB (.list (fs.map eC)),bB (.dict (eJ js)),o4,o5,o6,o7]/\Gr mo done.length fs js) ms [bB (.list (ms.map .int)),bB (.int mo),bB (.list [eC (0,0)]),bB (.dict []),bC,bC,bC,bC] ⟨[(0,0)],[],bC,bC,bC,bC,rfl,by decide,by decide,hmo,by decide,by decide,UU,(λ_ h=>by cases h),(λk h1 h2=>by simp at h2;omega),rfl⟩ (by
   rintro x hx done ρ e8 ⟨fs,js,o4,o5,o6,o7,rfl,g⟩
   have hlen:(done++[x]).length=done.length+1:=by simp
   obtain⟨c,hc,ec⟩:=qiU (x / 12) g.h0
   have e3:modD (.int (x / 12)) (.int (((fs.map eC).length:Nat):Int))=bB (.int (x / 12%(fs.length:Int))):=by rw[Kc];exact JN _ (by have:=g.h0;omega)
   have e4:atI (fs.map eC) (x / 12%(fs.length:Int))=bB (eC c):=jQ (XA _ (by have:=g.h0;omega)) ec
   obtain⟨w,hw,ew⟩:=emod4 x
   have e5:=qfE c hw
   obtain⟨m1,m2⟩:=mm_eq c hw
   obtain⟨ad,hp⟩:=qh3 c hw
   have nn:=qjp fs (bs w c)
   have ii:=qkW fs (bs w c)
   have pp:(VM [eC (pk w c).1,eC (pk w c).2])=eP (pk w c):=rfl
   have n2:=qjo js (pk w c)
   generalize ho:bs w c=o at *
   generalize hk:pk w c=k at *
   have oe:js.length<900:=by have:=g.h3;omega
   have hv:-1<=x / 4%3-1/\x / 4%3-1<=1:=by omega
   by_cases cR:o∈fs
   .by_cases gB:k∈js.map (·.1)
    .refine⟨[bB (.list (ms.map .int)),bB (.int mo),bB (.list (fs.map eC)),bB (.dict (eJ js)),bB (.int x),bB (eC c),bB (eC o),bB (eP k)],?_,fs,js,_,_,_,_,rfl,by rw[hlen];exact g.stay⟩
     simp_arith [e3,e4,yR,ew,e5,nn,ii,sh cR,m1,m2,pp,n2,sh gB]
    .have eQ:∀p∈js,p.1≠k:=λp hp z=>gB (Kl.mpr ⟨p,hp,z⟩)
     have mk:k.1∈fs/\k.2∈fs:=by rcases hp with z|z<;>rw[z]<;>exact⟨by assumption,by assumption⟩
     cases hq:decide (x<312) with
     |true =>
      refine⟨[bB (.list (ms.map .int)),bB (.int mo),bB (.list (fs.map eC)),bB (.dict (eJ (js++[(k,x / 4%3-1)]))),bB (.int x),bB (eC c),bB (eC o),bB (eP k)],?_,fs,_,_,_,_,_,rfl,by rw[hlen];exact g.join gB mk.1 mk.2 ad hv⟩
      simp_arith [e3,e4,yR,ew,e5,nn,ii,sh cR,hq,m1,m2,pp,n2,se gB,YW _ oe eQ]
     |false =>
      cases hr:x / 312%4==0 with
      |true =>
       refine⟨[bB (.list (ms.map .int)),bB (.int mo),bB (.list (fs.map eC)),bB (.dict (eJ (js++[(k,x / 4%3-1)]))),bB (.int x),bB (eC c),bB (eC o),bB (eP k)],?_,fs,_,_,_,_,_,rfl,by rw[hlen];exact g.join gB mk.1 mk.2 ad hv⟩
       simp_arith [e3,e4,yR,ew,e5,nn,ii,sh cR,hq,hr,m1,m2,pp,n2,se gB,YW _ oe eQ]
      |false =>
       refine⟨[bB (.list (ms.map .int)),bB (.int mo),bB (.list (fs.map eC)),bB (.dict (eJ js)),bB (.int x),bB (eC c),bB (eC o),bB (eP k)],?_,fs,js,_,_,_,_,rfl,by rw[hlen];exact g.stay⟩
       simp_arith [e3,e4,yR,ew,e5,nn,ii,sh cR,hq,hr,m1,m2,pp,n2,se gB]
   .cases bK:decide ((((fs.map eC).length:Nat):Int)<mo) with
    |false =>
     refine⟨[bB (.list (ms.map .int)),bB (.int mo),bB (.list (fs.map eC)),bB (.dict (eJ js)),bB (.int x),bB (eC c),bB (eC o),bB (eP k)],?_,fs,js,_,_,_,_,rfl,by rw[hlen];exact g.stay⟩
     simp_arith [e3,e4,yR,ew,e5,nn,ii,se cR,bK,m1,m2,pp]
    |true =>
     have iN:(fs.length:Int)<mo:=by have:=sx bK;rwa[Kc]at this
     have g':=g.grow hc cR iN hp ad hv
     have eQ:∀p∈js,p.1≠k:=λp mE z=>by
      obtain⟨q1,q2,_⟩:=g.h5 p mE
      rw[z]at q1 q2
      rcases hp with y|y<;>rw[y]at q1 q2
      .exact cR q2
      .exact cR q1
     have hz:(fs.map eC).length<1000:=by rw[Kc];have:=g.h1;omega
     refine⟨[bB (.list (ms.map .int)),bB (.int mo),bB (.list ((fs++[o]).map eC)),bB (.dict (eJ (js++[(k,x / 4%3-1)]))),bB (.int x),bB (eC c),bB (eC o),bB (eP k)],?_,_,_,_,_,_,_,rfl,by rw[hlen];exact g'⟩
     simp_arith [e3,e4,yR,ew,e5,nn,ii,se cR,bK,hz,m1,m2,pp,YW _ oe eQ]
     simp only[Kw,Km,V9])
 refine⟨fs,js,?_,g⟩
 have p0:(VM [.int 0,.int 0])=eC (0,0):=rfl
 delta Zv JS
 simp_arith [p0,e]
def tx (l:ao):Str:=⟨l.toArray⟩
def eX (l:ao):Ka:=.str (tx l)
def eR (rows:aG):Ka:=.list (rows.map eX)
theorem Q9 (l:ao):(tx l).length=l.length:=by simp [tx,Str.length]
theorem yJ (l:ao):(tx l).cps.toList=l:=by simp [tx]
theorem qaI (a b:ao):tx a++tx b=tx (a++b):=Str.ext' (by rw[Str.cps_append];simp [tx])
noncomputable def jnL:List (List Nat)->List Nat
 |[]=>[]
 |[r]=>r
 |r::s::rest=>r++47::jnL (s::rest)
theorem qe9:∀rows:List (List Nat),Str.join (tx [47]) (rows.map tx)=tx (jnL rows)
 |[]=>rfl
 |[r]=>rfl
 |r::s::rest=>by
  show tx r++tx [47]++Str.join (tx [47]) ((s::rest).map tx)=_
  rw[qe9 (s::rest),qaI,qaI,VG]
  rfl
theorem qdg:∀rows:List (List Nat),Str.join (tx []) (rows.map tx)=tx rows.flatten
 |[]=>rfl
 |[r]=>by show tx r=tx ([r].flatten);simp
 |r::s::rest=>by
  show tx r++tx []++Str.join (tx []) ((s::rest).map tx)=_
  rw[qdg (s::rest),qaI,qaI,Vw]
  rfl
theorem strs_map (rows:aG):Wo (rows.map eX)=bB (rows.map tx):=by
 induction rows with
 |nil=>rfl
 |cons r rows ih =>
  show ob (Wo (rows.map eX)) (λzs=>bB (tx r::zs))=_
  rw[ih];rfl
theorem qim {rows:aG}{w:Nat}(h:∀r∈rows,r.length<=w):((rows.map tx).map (·.length)).sum<=rows.length*w:=by
 induction rows with
 |nil=>simp
 |cons r rows ih =>
  have a:=ih λq hq=>h q (KS _ hq)
  have b:=h r '+'
  simp only[Km,List.sum_cons,Kv,Q9]
  rw[Nat.add_mul]
  simp only[Kx]at a ⊢
  omega
theorem qg6 {rows:aG}(hl:rows.length<=100)(h:∀r∈rows,r.length<=100):Y4 "/" (eR rows)=bB (eX (jnL rows)):=by
 have e:(Kn "/" : Str)=tx [47]:=by decide +kernel
 have hs:((rows.map tx).map (·.length)).sum+(rows.map tx).length*(tx [47]).length<=100000:=by
  have a:=qim h
  have b:rows.length*100<=100*100:=Nat.mul_le_mul_right _ hl
  rw[Kc,Q9]
  simp only[KQ]
  omega
 show ob (Wo (rows.map eX)) (λzs=>if (zs.map (·.length)).sum+zs.length*(Kn "/").length<=100000 then bB (XU (NA (Kn "/") zs)) else bC)=_
 rw[strs_map,e]
 show(if ((rows.map tx).map (·.length)).sum+(rows.map tx).length*(tx [47]).length<=100000 then bB (XU (NA (tx [47]) (rows.map tx))) else bC)=_
 rw[si hs]
 unfold NA
 rw[StrLaws.glued_eq_join,qe9]
 rfl
theorem join0 {cs:ao}(hl:cs.length<=1000):Y4 "" (.list (cs.map λc=>eX [c]))=bB (eX cs):=by
 have e:(Kn "" : Str)=tx []:=by decide +kernel
 have em:(cs.map λc=>eX [c])=(cs.map λc=>[c]).map eX:=by rw[Kx];rfl
 have ef:(cs.map λc=>[c]).flatten=cs:=by
  induction cs with
  |nil=>rfl
  |cons c cs ih=>simp only[Km,List.flatten_cons];rw[ih (by simp at hl;omega) (by rw[Kx];rfl)];rfl
 have hs:(((cs.map λc=>[c]).map tx).map (·.length)).sum+((cs.map λc=>[c]).map tx).length*(tx []).length<=100000:=by
  have a:=qim (rows:=cs.map λc=>[c]) (w:=1) (λr hr=>by obtain⟨c,-,rfl⟩:=Kl.mp hr;exact Kp _)
  rw[Q9]
  simp only[Kc,Uu]at a ⊢
  omega
 show ob (Wo (cs.map λc=>eX [c])) (λzs=>if (zs.map (·.length)).sum+zs.length*(Kn "").length<=100000 then bB (XU (NA (Kn "") zs)) else bC)=_
 rw[em,strs_map,e]
 show(if (((cs.map λc=>[c]).map tx).map (·.length)).sum+((cs.map λc=>[c]).map tx).length*(tx []).length<=100000 then bB (XU (NA (tx []) ((cs.map λc=>[c]).map tx))) else bC)=_
 rw[si hs]
 unfold NA
 rw[StrLaws.glued_eq_join,qdg,ef]
 rfl
theorem qcp (X:Str):∀(n a:Nat) (st:Array Nat×Nat),st.1.size<=a->st.2<=a->a+n<=X.length+1->
  (forIn (Uv a n) st (StrLaws.occBody X (tx [47]) X.length (X.length+1))).run.fst.toList=st.1.toList++(Uv a n).filter λi=>decide (X.cps.toList[i]?=bB 47)
 |0,a,st,_,_,_=>by simp
 |n+1,a,st,h1,h2,h3=>by
  have cond:(((st.fst.size<X.length+1/\st.snd<=a)/\a+(tx [47]).length<=X.length)/\Builtin.Str.subAt X (tx [47]) a=bD)↔X.cps.toList[a]?=bB 47:=by
   rw[StrLaws.subAt_eq,Q9,yJ]
   have hn:X.cps.toList.length=X.length:=by simp [Str.length]
   constructor
   .rintro⟨⟨_,h⟩,e⟩
    have e:=eq_of_beq e
    have:((X.cps.toList.drop a).take 1)[0]?=bB 47:=by
     show((X.cps.toList.drop a).take [47].length)[0]?=bB 47
     rw[e];rfl
    rwa[Ex '%',List.getElem?_drop,Nat.add_zero]at this
   .intro e
    have bK:a<X.cps.toList.length:=(KW.mp e).1
    refine⟨⟨⟨by omega,h2⟩,by simp only[KQ];omega⟩,?_⟩
    have:(X.cps.toList.drop a).take [47].length=[47]:=by
     rw[VD bK]
     have:=(KW.mp e).2
     rw[this];rfl
    rw[this];rfl
  rw[EK,EW]
  unfold StrLaws.occBody
  by_cases hc:X.cps.toList[a]?=bB 47
  .rw[si (cond.mpr hc),ER (by simpa using hc)]
   have:=qcp X n (a+1) (st.1.push a,a+(tx [47]).length) (by simp;omega) (by rw[Q9];exact Kp _) '#'
   refine this.trans ?_
   rw[Array.toList_push,VG]
   rfl
  .rw[sk λz=>hc (cond.mp z),List.filter_cons_of_neg (by simpa using hc)]
   exact qcp X n (a+1) (st.1,st.2) (by show st.1.size<=a+1;omega) (by show st.2<=a+1;omega) '#'
theorem qhA (pre r post:ao)(h:47∉r):(Uv pre.length r.length).filter (λi=>decide ((pre++(r++post))[i]?=bB 47))=[]:=by
 rw[List.filter_eq_nil_iff]
 intro i hi
 rw[List.mem_range'_1]at hi
 intro z
 have z:=sx z
 rw[Vy '#',Vf '#']at z
 exact h (KY z)
theorem qfx (pre r post:ao):Nb (tx (pre++(r++post))) pre.length (pre.length+r.length)=tx r:=by
 apply Str.ext'
 apply EG.mp
 rw[StrLaws.strSub_toList,yJ,yJ,List.drop_append_of_le_length (Kp _),Xk,Xz,Nat.add_sub_cancel_left,List.take_append_of_le_length (Kp _),List.take_length]
theorem qdu:∀(rows:aG) (pre:ao),rows≠[]->(∀r∈rows,47∉r)->
  StrLaws.partsFrom (tx (pre++jnL rows)) 1 pre.length ((Uv pre.length ((jnL rows).length+1)).filter λi=>decide ((pre++jnL rows)[i]?=bB 47))=rows.map tx
 |[],_,h,_=>absurd rfl h
 |[r],pre,_,h=>by
  have hr:=h r '+'
  have e:=qhA pre r [] hr
  have e2:(Uv pre.length ((jnL [r]).length+1)).filter (λi=>decide ((pre++jnL [r])[i]?=bB 47))=[]:=by
   show(Uv pre.length (r.length+1)).filter (λi=>decide ((pre++r)[i]?=bB 47))=[]
   rw[Vw]at e
   rw[List.range'_concat,List.filter_append,e]
   have:(pre++r)[pre.length+1*r.length]?=bC:=XO '+'
   simp [this]
  rw[e2]
  show[Nb (tx (pre++r)) pre.length (tx (pre++r)).length]=[tx r]
  have:=qfx pre r []
  rw[Vw]at this
  rw[Q9,Kr,this]
 |r::s::rest,pre,_,h=>by
  have hr:=h r '+'
  have ih:=qdu (s::rest) (pre++(r++[47])) '+' (λq hq=>h q (KS _ hq))
  have eX:pre++(r++47::jnL (s::rest))=pre++(r++[47])++jnL (s::rest):=by simp
  have el:(pre++(r++[47])).length=pre.length+r.length+1:=by simp;omega
  have e1:=qhA pre r (47::jnL (s::rest)) hr
  have e2:(pre++(r++47::jnL (s::rest)))[pre.length+r.length]?=bB 47:=by
   rw[Vy '#',Vy '#']
   have:pre.length+r.length-pre.length-r.length=0:=by omega
   rw[this];rfl
  have er:Uv pre.length ((jnL (r::s::rest)).length+1)=Uv pre.length r.length++(pre.length+r.length)::Uv (pre.length+r.length+1) ((jnL (s::rest)).length+1):=by
   have:(jnL (r::s::rest)).length+1=r.length+((jnL (s::rest)).length+1+1):=by
    show(r++47::jnL (s::rest)).length+1=_
    simp;omega
   rw[this,←List.range'_append_1,EK]
  show StrLaws.partsFrom (tx (pre++(r++47::jnL (s::rest)))) 1 pre.length ((Uv pre.length ((jnL (r::s::rest)).length+1)).filter λi=>decide ((pre++(r++47::jnL (s::rest)))[i]?=bB 47))=_
  rw[er,List.filter_append,e1,Xz,ER (by simpa using e2)]
  show Nb (tx (pre++(r++47::jnL (s::rest)))) pre.length (pre.length+r.length)::StrLaws.partsFrom (tx (pre++(r++47::jnL (s::rest)))) 1 (pre.length+r.length+1) _=_
  rw[qfx,eX,←el,ih]
  rfl
theorem qbE {l:ao}(h:∀c∈l,c<256):Ul (tx l)=1:=by
 unfold Ul
 have:(tx l).cps.all (· < 256)=bD:=by
  simp only[tx,List.all_toArray]
  exact KN.mpr λc hc=>sh (h c hc)
 rw[si this]
theorem qed:∀{rows:aG} {c:Nat},c∈jnL rows->c=47\/∃r∈rows,c∈r
 |[],_,h=>by cases h
 |[r],_,h=>.inr ⟨r,by simp,h⟩
 |r::s::rest,c,h=>by
  have h:c∈r++47::jnL (s::rest):=h
  rcases K6.mp h with a|a
  .exact .inr ⟨r,by simp,a⟩
  .rcases Ko.mp a with b|b
   .exact .inl b
   .rcases qed b with d|⟨q,q1,q2⟩
    .exact .inl d
    .exact .inr ⟨q,KS _ q1,q2⟩
theorem qg5:∀{rows:aG} {w:Nat},(∀r∈rows,r.length<=w)->(jnL rows).length<=rows.length*(w+1)
 |[],_,_=>Vr _
 |[r],w,h=>by have:=h r '+';show r.length<=1*(w+1);omega
 |r::s::rest,w,h=>by
  have a:=qg5 (rows:=s::rest) (w:=w) λq hq=>h q (KS _ hq)
  have b:=h r '+'
  show(r++47::jnL (s::rest)).length<=((s::rest).length+1)*(w+1)
  rw[Kr,Kv,Nat.add_mul]
  omega
theorem qj1 {rows:aG}(h0:rows≠[])(hl:rows.length<=100)(h:∀r∈rows,r.length<=100)(hc:∀r∈rows,∀c∈r,c<256/\c≠47):qcH "/" (eX (jnL rows))=bB (eR rows):=by
 have e:(Kn "/" : Str)=tx [47]:=by decide +kernel
 have hk:Ul (tx (jnL rows))=1:=qbE λc fy=>by
  rcases qed fy with z|⟨r,hr,z⟩
  .rw[z];decide
  .exact(hc r hr c z).1
 have hlen:(jnL rows).length<=100*101:=Vx (qg5 h) (Nat.mul_le_mul_right _ hl)
 have og:KM (tx (jnL rows)) (tx [47]) 0 (tx (jnL rows)).length ((tx (jnL rows)).length+1)=(Uv 0 ((jnL rows).length+1)).filter λi=>decide ((jnL rows)[i]?=bB 47):=by
  rw[StrLaws.occ_eq,qcp _ _ 0 _ (Kp _) (Kp _) '#',yJ,Q9]
  rfl
 have hp:Uo (tx (jnL rows)) (KM (tx (jnL rows)) (tx [47]) 0 (tx (jnL rows)).length ((tx (jnL rows)).length+1)) (tx [47]).length=rows.map tx:=by
  rw[og,StrLaws.partsBetween_eq]
  have:=qdu rows [] h0 (λr hr z=>(hc r hr 47 z).2 rfl)
  exact this
 have hs:Xi (tx (jnL rows)) (tx [47])=rows.map tx:=by
  unfold Xi
  split
  .rename_i z
   rw[hk]at z
   have k1:Ul (tx [47])=1:=qbE '%'
   rw[k1,Q9,Q9]at z
   have z:(jnL rows).length<1:=by simpa using z
   have hz:jnL rows=[]:=List.length_eq_zero_iff.mp '#'
   rw[hz]at hp ⊢
   have:Uo (tx []) (KM (tx []) (tx [47]) 0 (tx []).length ((tx []).length+1)) (tx [47]).length=[tx []]:=by decide +kernel
   rw[←hp,this]
  .split
   .rename_i z
    rw[List.isEmpty_iff]at z
    rw[z]at hp
    rw[←hp]
    show _=[Nb (tx (jnL rows)) 0 (tx (jnL rows)).length]
    rw[StrLaws.sub_whole]
   .exact hp
 show(if ((Kn "/" : Str).length==0)=bE/\(tx (jnL rows)).length<=100000/\(Xi (tx (jnL rows)) (Kn "/")).length<=1000/\(Uo (tx (jnL rows)) (KM (tx (jnL rows)) (Kn "/") 0 (tx (jnL rows)).length ((tx (jnL rows)).length+1)) (Kn "/" : Str).length).length<=1000 then bB (UI ((Xi (tx (jnL rows)) (Kn "/")).map .str)) else bC)=_
 rw[e,hs,hp,si ⟨rfl,by rw[Q9];omega,by rw[Kc];omega,by rw[Kc];omega⟩,Kx]
 rfl
noncomputable def bch (v:Int):Nat:=if v=-1 then 118 else if v=0 then 43 else 94
def sC (c:Ce):Ce×Nat:=((2*c.1,2*c.2),35)
def sJ (p:Jn):Ce×Nat:=((p.1.1.1+p.1.2.1,p.1.1.2+p.1.2.2),bch p.2)
def sgs (F:aB)(K:aI):List (Ce×Nat):=F.map sC++K.map sJ
def sgA (gs:aL)(q:Ce):Nat:=((gs.find? λp=>decide (p.1=q)).map (·.2)).getD 46
def eG (gs:aL):List (Ka×PyData):=gs.map λp=>(eC p.1,eX [p.2])
def pic (g:bu)(x0 y1:Int)(W H:Nat):List (List Nat):=(Ku H).map λk:Nat=>(Ku W).map λa:Nat=>g (x0+(a:Nat),y1-(k:Nat))
theorem qdS:∀{gs:aL} {p:Ce×Nat},(gs.map (·.1)).Nodup->p∈gs->sgA gs p.1=p.2
 |j::js,p,hn,hp=>by
  unfold sgA
  rw[Vd]
  rw[Km,VZ]at hn
  by_cases h:j.1=p.1
  .rw[sh h]
   rcases Ko.mp hp with rfl|z
   .rfl
   .exact absurd (Kl.mpr ⟨p,z,h.symm⟩) hn.1
  .rw[se h]
   rcases Ko.mp hp with rfl|z
   .exact absurd rfl h
   .exact qdS hn.2 z
theorem qev {gs:aL}{q:Ce}(h:∀p∈gs,p.1≠q):sgA gs q=46:=by
 unfold sgA
 rw[VP.mpr λp hp=>by simpa using h p hp];rfl
theorem qdR (gs:aL)(q:Ce):(sgA gs q=46/\∀p∈gs,p.1≠q)\/∃p∈gs,p.1=q/\sgA gs q=p.2:=by
 unfold sgA
 cases e:gs.find? (λp=>decide (p.1=q)) with
 |none=>exact .inl ⟨rfl,λp hp=>by simpa using VP.mp e p hp⟩
 |some p=>exact .inr ⟨p,UG e,by simpa using XC e,rfl⟩
theorem qg8 (gs:aL)(c:Ce):kOk (eG gs) (kC c)=bD:=by
 unfold kOk eG
 rw[UP]
 exact KN.mpr λp _=>rfl
theorem qbW (c:Ce):∀gs:List (Ce×Nat),zp (eG gs) (kC c)=(gs.find? λp=>decide (p.1=c)).map λp=>eX [p.2]
 |[]=>rfl
 |p::gs=>by
  have ih:=qbW c gs
  unfold zp eG at *
  rw[Km,Vd,Vd,qbd,Yl]
  rw[qbd]at ih
  by_cases h:p.1=c
  .rw[sh h];rfl
  .rw[se h];exact ih
theorem WF {gs:aL}{q:Ce}(v:Nat)(hl:gs.length<900)(h:∀p∈gs,p.1≠q):jF (.dict (eG gs)) (eC q) (eX [v])=bB (.dict (eG (gs++[(q,v)]))):=by
 have no:zp (eG gs) (kC q)=bC:=by rw[qbW,VP.mpr λp hp=>by simpa using h p hp];rfl
 show ob (kxOf (eC q)) (λks=>if kOk (eG gs) ks=bD/\(eG gs).length<1000 then bB (E4 (putD (eG gs) ks (eX [v]))) else bC)=_
 rw[qfg,ob_s,si ⟨qg8 _ _,by unfold eG;rw[Kc];omega⟩]
 unfold putD
 rw[no,sk '%',qbd]
 unfold eG
 rw[Kw]
 rfl
theorem qe0 (gs:aL)(q:Ce):Yj (.dict (eG gs)) (eC q) (.str ".")=bB (eX [sgA gs q]):=by
 have e:(Kn "." : Str)=tx [46]:=by decide +kernel
 show ob (kxOf (eC q)) (λks=>if kOk (eG gs) ks=bD then bB ((zp (eG gs) ks).getD (.str (Kn "."))) else bC)=_
 rw[qfg,ob_s,si (qg8 _ _),qbW,e]
 unfold sgA
 cases gs.find? (λp=>decide (p.1=q))<;>rfl
theorem qfe (gs:aL):Wh (.dict (eG gs))=bB (gs.map λp=>eC p.1):=by
 show(if excK (eG gs)=bD then bC else bB ((eG gs).map (·.1)))=_
 rw[sk (show ¬excK (eG gs)=bD by cases gs<;>exact Vl)]
 unfold eG
 rw[Kx]
 rfl
structure Rt (F:aB)(K:aI):Prop where
 fn:F.Nodup
 kn:(K.map (·.1)).Nodup
 km:∀p∈K,p.1.1∈F/\p.1.2∈F/\Adj p.1.1 p.1.2/\-1<=p.2/\p.2<=1
theorem qaD {p:Jn}(h:Adj p.1.1 p.1.2):((sJ p).1.1=2*p.1.1.1+1/\(sJ p).1.2=2*p.1.1.2/\p.1.2=(p.1.1.1+1,p.1.1.2))\/((sJ p).1.1=2*p.1.1.1/\(sJ p).1.2=2*p.1.1.2+1/\p.1.2=(p.1.1.1,p.1.1.2+1)):=by
 unfold sJ
 rcases h with e|e<;>rw[e]<;>dsimp only
 .exact .inl ⟨by omega,by omega,rfl⟩
 .exact .inr ⟨by omega,by omega,rfl⟩
theorem qcz {p q:Jn}(hp:Adj p.1.1 p.1.2)(hq:Adj q.1.1 q.1.2)(e:(sJ p).1=(sJ q).1):p.1=q.1:=by
 have e1:(sJ p).1.1=(sJ q).1.1:=by rw[e]
 have e2:(sJ p).1.2=(sJ q).1.2:=by rw[e]
 rcases qaD hp with ⟨a,b,c⟩|⟨a,b,c⟩<;>rcases qaD hq with ⟨a',b',c'⟩|⟨a',b',c'⟩
 .have h1:p.1.1=q.1.1:=V0 '#' '#'
  exact V0 h1 (by rw[c,c',h1])
 .omega
 .omega
 .have h1:p.1.1=q.1.1:=V0 '#' '#'
  exact V0 h1 (by rw[c,c',h1])
theorem qfw {c:Ce}{p:Jn}(hp:Adj p.1.1 p.1.2):(sC c).1≠(sJ p).1:=λe=>by
 have e1:(sC c).1.1=(sJ p).1.1:=by rw[e]
 have e2:(sC c).1.2=(sJ p).1.2:=by rw[e]
 unfold sC at e1 e2
 dsimp only at e1 e2
 rcases qaD hp with ⟨a,b,c⟩|⟨a,b,c⟩<;>omega
theorem qcy {c d:Ce}(e:(sC c).1=(sC d).1):c=d:=by
 unfold sC at e
 obtain⟨e1,e2⟩:=UJ e
 exact V0 '#' '#'
theorem Rt.nd {F:aB}{K:aI}(h:Rt F K):((sgs F K).map (·.1)).Nodup:=by
 unfold sgs
 rw[Kw,VV,Kx,Kx]
 refine⟨h.fn.map _ λa b z y=>z (qcy y),?_,?_⟩
 .have key:∀{K:aI},(K.map (·.1)).Nodup->(∀p∈K,Adj p.1.1 p.1.2)->(K.map ((·.1) ∘ sJ)).Nodup:=by
   intro K
   induction K with
   |nil=>intro _ _;exact UU
   |cons p K ih =>
    intro hn ha
    rw[Km,VZ]at hn ⊢
    refine⟨λz=>?_,ih hn.2 λq hq=>ha q (KS _ hq)⟩
    obtain⟨q,hq,e⟩:=Kl.mp z
    have:=qcz (ha q (KS _ hq)) (ha p '+') e
    exact hn.1 (Kl.mpr ⟨q,hq,this⟩)
  exact key h.kn λp hp=>(h.km p hp).2.2.1
 .intro a ha b hb e
  obtain⟨c,-,rfl⟩:=Kl.mp ha
  obtain⟨p,hp,rfl⟩:=Kl.mp hb
  exact qfw (h.km p hp).2.2.1 e
theorem qcQ (l:aF):∀k,k<l.length->∃m,l[bestOf (Z6 (l.map .int)) k]?=bB m/\m∈l/\∀i,i<=k->∀x,l[i]?=bB x->m<=x
 |0,h=>⟨l[0],Kj h,VF h,λi hi x hx=>by
   have:i=0:=by omega
   subst this
   rw[Kj h]at hx
   cases hx
   exact XH _⟩
 |k+1,h=>by
  obtain⟨m,e,hm,hle⟩:=qcQ l k '#'
  have hb:Z6 (l.map .int) (k+1) (bestOf (Z6 (l.map .int)) k)=decide (l[k+1]<m):=by
   generalize bestOf (Z6 (l.map .int)) k=j at e
   unfold Z6
   rw[KJ,KJ,e,Kj h]
   rfl
  unfold bestOf
  rw[hb]
  by_cases bK:l[k+1]<m
  .rw[sh bK,si rfl]
   refine⟨l[k+1],Kj h,VF h,λi hi x hx=>?_⟩
   by_cases hk:i=k+1
   .subst hk
    rw[Kj h]at hx
    cases hx
    exact XH _
   .exact Int.le_trans (Int.le_of_lt bK) (hle i '#' x hx)
  .rw[se bK,sk '%']
   refine⟨m,e,hm,λi hi x hx=>?_⟩
   by_cases hk:i=k+1
   .subst hk
    rw[Kj h]at hx
    cases hx
    omega
   .exact hle i '#' x hx
theorem qcP (l:aF):∀k,k<l.length->∃m,l[bestOf (Z5 (l.map .int)) k]?=bB m/\m∈l/\∀i,i<=k->∀x,l[i]?=bB x->x<=m
 |0,h=>⟨l[0],Kj h,VF h,λi hi x hx=>by
   have:i=0:=by omega
   subst this
   rw[Kj h]at hx
   cases hx
   exact XH _⟩
 |k+1,h=>by
  obtain⟨m,e,hm,hle⟩:=qcP l k '#'
  have hb:Z5 (l.map .int) (k+1) (bestOf (Z5 (l.map .int)) k)=decide (l[k+1] > m):=by
   generalize bestOf (Z5 (l.map .int)) k=j at e
   unfold Z5
   rw[KJ,KJ,e,Kj h]
   rfl
  unfold bestOf
  rw[hb]
  by_cases bK:l[k+1] > m
  .rw[sh bK,si rfl]
   refine⟨l[k+1],Kj h,VF h,λi hi x hx=>?_⟩
   by_cases hk:i=k+1
   .subst hk
    rw[Kj h]at hx
    cases hx
    exact XH _
   .exact Int.le_trans (hle i '#' x hx) (Int.le_of_lt bK)
  .rw[se bK,sk '%']
   refine⟨m,e,hm,λi hi x hx=>?_⟩
   by_cases hk:i=k+1
   .subst hk
    rw[Kj h]at hx
    cases hx
    omega
   .exact hle i '#' x hx
theorem qhu {l:aF}(hz:l.length<=900){m:Int}(hm:m∈l)(h:∀x∈l,m<=x):Yc [.list (l.map .int)]=bB (.int m):=by
 have h0:=Nr hm
 obtain⟨m',e,lH,hle⟩:=qcQ l (l.length-1) '#'
 have ok:yN (l.map .int)=bD:=by
  unfold yN
  rw[UP,KN]
  intro a _
  show(bD&&bD&&(l.map Kt).all _)=bD
  rw[UP]
  exact KN.mpr λb _=>rfl
 show(if yN (l.map .int)=bD/\(l.map Kt).length<=1000 then (l.map Kt)[bestOf (Z6 (l.map .int)) ((l.map Kt).length-1)]? else bC)=_
 rw[si ⟨ok,by rw[Kc];omega⟩,Kc,KJ,e]
 obtain⟨i,hi,ei⟩:=Xn hm
 have a:=hle i '#' m (by rw[Kj hi,ei])
 have b:=h m' lH
 have:m'=m:=by omega
 rw[this];rfl
theorem qck {l:aF}(hz:l.length<=900){m:Int}(hm:m∈l)(h:∀x∈l,x<=m):yc [.list (l.map .int)]=bB (.int m):=by
 have h0:=Nr hm
 obtain⟨m',e,lH,hle⟩:=qcP l (l.length-1) '#'
 have ok:yM (l.map .int)=bD:=by
  unfold yM
  rw[UP,KN]
  intro a _
  show(bD&&bD&&(l.map Kt).all _)=bD
  rw[UP]
  exact KN.mpr λb _=>rfl
 show(if yM (l.map .int)=bD/\(l.map Kt).length<=1000 then (l.map Kt)[bestOf (Z5 (l.map .int)) ((l.map Kt).length-1)]? else bC)=_
 rw[si ⟨ok,by rw[Kc];omega⟩,Kc,KJ,e]
 obtain⟨i,hi,ei⟩:=Xn hm
 have a:=hle i '#' m (by rw[Kj hi,ei])
 have b:=h m' lH
 have:m'=m:=by omega
 rw[this];rfl
theorem qb1:∀{l:aF},l≠[]->∃m∈l,∀x∈l,m<=x
 |[],h=>absurd rfl h
 |[a],_=>⟨a,by simp,λx hx=>by have:=Ky.mp hx;omega⟩
 |a::b::l,_=>by
  obtain⟨m,hm,h⟩:=qb1 (l:=b::l) '+'
  by_cases z:a<=m
  .exact⟨a,by simp,λx hx=>by
    rcases Ko.mp hx with y|y
    .omega
    .have:=h x y;omega⟩
  .exact⟨m,KS _ hm,λx hx=>by
    rcases Ko.mp hx with y|y
    .omega
    .exact h x y⟩
theorem qb0:∀{l:aF},l≠[]->∃m∈l,∀x∈l,x<=m
 |[],h=>absurd rfl h
 |[a],_=>⟨a,by simp,λx hx=>by have:=Ky.mp hx;omega⟩
 |a::b::l,_=>by
  obtain⟨m,hm,h⟩:=qb0 (l:=b::l) '+'
  by_cases z:m<=a
  .exact⟨a,by simp,λx hx=>by
    rcases Ko.mp hx with y|y
    .omega
    .have:=h x y;omega⟩
  .exact⟨m,KS _ hm,λx hx=>by
    rcases Ko.mp hx with y|y
    .omega
    .exact h x y⟩
structure Box (F:aB)(lx hx ly hy:Int):Prop where
 a:∃c∈F,c.1=lx
 b:∃c∈F,c.1=hx
 c:∃c∈F,c.2=ly
 d:∃c∈F,c.2=hy
 all:∀c∈F,lx<=c.1/\c.1<=hx/\ly<=c.2/\c.2<=hy
theorem qkH {F:aB}(h:F≠[]):∃lx hx ly hy,Box F lx hx ly hy:=by
 have h1:F.map (·.1)≠[]:=λz=>h (List.map_eq_nil_iff.mp z)
 have h2:F.map (·.2)≠[]:=λz=>h (List.map_eq_nil_iff.mp z)
 obtain⟨lx,m1,a1⟩:=qb1 h1
 obtain⟨hx,m2,a2⟩:=qb0 h1
 obtain⟨ly,m3,a3⟩:=qb1 h2
 obtain⟨hy,m4,a4⟩:=qb0 h2
 exact⟨lx,hx,ly,hy,Kl.mp m1,Kl.mp m2,Kl.mp m3,Kl.mp m4,λc hc=>⟨a1 _ (Kl.mpr ⟨c,hc,rfl⟩),a2 _ (Kl.mpr ⟨c,hc,rfl⟩),a3 _ (Kl.mpr ⟨c,hc,rfl⟩),a4 _ (Kl.mpr ⟨c,hc,rfl⟩)⟩⟩
theorem Box.perm {F S:aB}{lx hx ly hy:Int}(h:Box F lx hx ly hy)(p:S.Perm F):Box S lx hx ly hy:=by
 obtain⟨⟨a,a1,a2⟩,⟨b,b1,b2⟩,⟨c,c1,c2⟩,⟨d,d1,d2⟩,all⟩:=h
 exact⟨⟨a,p.mem_iff.mpr a1,a2⟩,⟨b,p.mem_iff.mpr b1,b2⟩,⟨c,p.mem_iff.mpr c1,c2⟩,⟨d,p.mem_iff.mpr d1,d2⟩,λc hc=>all c (p.mem_iff.mp hc)⟩
theorem Box.moved {F:aB}{lx hx ly hy:Int}(h:Box F lx hx ly hy)(s:Ce):Box (F.map (sh2 s)) (lx+s.1) (hx+s.1) (ly+s.2) (hy+s.2):=by
 obtain⟨⟨a,a1,a2⟩,⟨b,b1,b2⟩,⟨c,c1,c2⟩,⟨d,d1,d2⟩,all⟩:=h
 refine⟨⟨_,Kl.mpr ⟨a,a1,rfl⟩,by rw[←a2];rfl⟩,⟨_,Kl.mpr ⟨b,b1,rfl⟩,by rw[←b2];rfl⟩,⟨_,Kl.mpr ⟨c,c1,rfl⟩,by rw[←c2];rfl⟩,⟨_,Kl.mpr ⟨d,d1,rfl⟩,by rw[←d2];rfl⟩,λc hc=>?_⟩
 obtain⟨e,he,rfl⟩:=Kl.mp hc
 have:=all e he
 unfold sh2
 dsimp only
 omega
theorem Box.mins {F:aB}{lx hx ly hy:Int}(h:Box F lx hx ly hy)(hl:F.length<=900):Yc [.list (F.map λc=>.int c.1)]=bB (.int lx)/\yc [.list (F.map λc=>.int c.1)]=bB (.int hx)/\Yc [.list (F.map λc=>.int c.2)]=bB (.int ly)/\yc [.list (F.map λc=>.int c.2)]=bB (.int hy):=by
 have e1:(F.map λc=>Kt c.1)=(F.map (·.1)).map .int:=by rw[Kx];rfl
 have e2:(F.map λc=>Kt c.2)=(F.map (·.2)).map .int:=by rw[Kx];rfl
 have l1:(F.map (·.1)).length<=900:=by rw[Kc];exact hl
 have l2:(F.map (·.2)).length<=900:=by rw[Kc];exact hl
 rw[e1,e2]
 refine⟨qhu l1 (Kl.mpr h.a) ?_,qck l1 (Kl.mpr h.b) ?_,qhu l2 (Kl.mpr h.c) ?_,qck l2 (Kl.mpr h.d) ?_⟩<;>intro x hx<;>obtain⟨c,hc,rfl⟩:=Kl.mp hx<;>have:=h.all c hc
 .exact this.1
 .exact this.2.1
 .exact this.2.2.1
 .exact this.2.2.2
theorem ext1 {F:aB}{K:aI}(π:Ce->Int)(hπ:∀p∈K,(π p.1.1-π p.1.2).natAbs<=1)(hc:Conn F K):∀k,0<k->k<=F.length->∃lo hi:Int,hi-lo<=(k:Nat)-1/\∀i,i<k->∀c,F[i]?=bB c->lo<=π c/\π c<=hi:=by
 intro k
 induction k with
 |zero=>intro h;omega
 |succ k ih =>
  intro _ hk
  by_cases h0:k=0
  .subst h0
   refine⟨π F[0],π F[0],by omega,λi hi c e=>?_⟩
   have:i=0:=by omega
   subst this
   rw[Kj '#']at e
   cases e
   exact⟨XH _,XH _⟩
  .obtain⟨lo,hi,hd,hb⟩:=ih '#' '#'
   obtain⟨i,p,dm,hp,e⟩:=hc k '#' '#'
   have hn:=hπ p hp
   have hx:∃d y,F[i]?=bB d/\F[k]?=bB y/\(π d-π y).natAbs<=1:=by
    rcases e with ⟨a,b⟩|⟨a,b⟩
    .exact⟨_,_,a,b,hn⟩
    .exact⟨_,_,b,a,by omega⟩
   obtain⟨d,y,ed,ey,hdy⟩:=hx
   have dH:=hb i dm d ed
   by_cases z1:π y<lo
   .refine⟨π y,hi,by omega,λj hj c ec=>?_⟩
    by_cases lI:j=k
    .subst lI
     rw[ey]at ec
     cases ec
     omega
    .have:=hb j '#' c ec
     omega
   .by_cases z2:hi<π y
    .refine⟨lo,π y,by omega,λj hj c ec=>?_⟩
     by_cases lI:j=k
     .subst lI
      rw[ey]at ec
      cases ec
      omega
     .have:=hb j '#' c ec
      omega
    .refine⟨lo,hi,by omega,λj hj c ec=>?_⟩
     by_cases lI:j=k
     .subst lI
      rw[ey]at ec
      cases ec
      omega
     .have:=hb j '#' c ec
      omega
theorem Box.ext {F:aB}{K:aI}{lx hx ly hy:Int}(h:Box F lx hx ly hy)(r:Rt F K)(hc:Conn F K)(hl:F.length<=26):lx<=hx/\ly<=hy/\hx-lx<=25/\hy-ly<=25:=by
 obtain⟨⟨a,a1,a2⟩,⟨b,b1,b2⟩,⟨c,c1,c2⟩,⟨d,d1,d2⟩,all⟩:=h
 have h0:=Nr a1
 obtain⟨lo,hi,e,q⟩:=ext1 (λc=>c.1) (λp hp=>by rcases(r.km p hp).2.2.1 with z|z<;>rw[z]<;>dsimp only<;>omega) hc F.length h0 (Kp _)
 obtain⟨lo',dm,e',q'⟩:=ext1 (λc=>c.2) (λp hp=>by rcases(r.km p hp).2.2.1 with z|z<;>rw[z]<;>dsimp only<;>omega) hc F.length h0 (Kp _)
 have at_:∀{x:Ce},x∈F->∃i,i<F.length/\F[i]?=bB x:=λhx=>by
  obtain⟨i,hi,ei⟩:=Xn hx
  exact⟨i,hi,by rw[Kj hi,ei]⟩
 obtain⟨i1,j1,k1⟩:=at_ a1
 obtain⟨i2,j2,k2⟩:=at_ b1
 obtain⟨i3,j3,k3⟩:=at_ c1
 obtain⟨i4,j4,k4⟩:=at_ d1
 have q1:=q i1 j1 _ k1
 have q2:=q i2 j2 _ k2
 have q3:=q' i3 j3 _ k3
 have q4:=q' i4 j4 _ k4
 have r1:=all a a1
 have r2:=all c c1
 omega
theorem e35:(Kn "#" : Str)=tx [35]:=by decide +kernel
theorem e46:(Kn "." : Str)=tx [46]:=by decide +kernel
theorem e00:(Kn "" : Str)=tx []:=by decide +kernel
theorem evb:(Kn "v+^" : Str)=tx [118,43,94]:=by decide +kernel
theorem qbq {x:Int}(h:Bd 200 x):jg (.int 2) (.int x)=bB (.int (2*x)):=QB (bd2.ok h)
theorem Wc (x y:Int):Zm (.int x) (.int y)=bB (.int (x+y)):=rfl
theorem ixS0 (c:Ce):ixSD (eC c) (.int 0)=bB (.int c.1):=rfl
theorem ixS1 (c:Ce):ixSD (eC c) (.int 1)=bB (.int c.2):=rfl
theorem ixb (v:Int)(h:-1<=v/\v<=1):ixSD (.str (Kn "v+^")) (.int (v+1))=bB (eX [bch v]):=by
 rw[evb]
 have:v=-1\/v=0\/v=1:=by omega
 rcases this with rfl|rfl|rfl<;>rfl
theorem addX {a b:ao}(h:a.length+b.length<=1000):Zm (eX a) (eX b)=bB (eX (a++b)):=by
 show(if (tx a).length+(tx b).length<=100000 then bB (XU (tx a++tx b)) else bC)=_
 rw[si (by rw[Q9,Q9];omega),qaI]
 rfl
theorem Wn {n:Nat}(h:n<=1000):QJ [.int (n:Nat)]=bB ((Ku n).map λk:Nat=>Kt (k:Nat)):=by
 rw[Q7,si '#',Va,yI]
theorem qhH {F:aB}{K:aI}{lx hx ly hy:Int}{W H:Nat}(rt:Rt F K)(bx:Box F lx hx ly hy)(hl:F.length<=26)(hk:K.length<=60)(hW:((W:Nat):Int)=2*(hx-lx)+1)(hH:((H:Nat):Int)=2*(hy-ly)+1)(w1:W<=100)(h1:H<=100)(hB:∀c∈F,Bd 200 c.1/\Bd 200 c.2):
  QQ [.list (F.map eC),.dict (eJ K)]=bB (eR (pic (sgA (sgs F K)) (2*lx) (2*hy) W H)):=by
 obtain⟨m1,m2,m3,m4⟩:=bx.mins '#'
 have blx:Bd 200 lx:=by obtain⟨c,hc,e⟩:=bx.a;rw[←e];exact(hB c hc).1
 have bhy:Bd 200 hy:=by obtain⟨c,hc,e⟩:=bx.d;rw[←e];exact(hB c hc).2
 have ux:jg (.int 2) (.int (hx-lx))=bB (.int (2*(hx-lx))):=qbq (Bd.of '#')
 have uy:jg (.int 2) (.int (hy-ly))=bB (.int (2*(hy-ly))):=qbq (Bd.of '#')
 have ulx:=qbq blx
 have uhy:=qbq bhy
 have rW:=Wn (n:=W) '#'
 have rH:=Wn (n:=H) '#'
 have hlen:(F.map eC).length<=1000:=by rw[Kc];omega
 have c1:∀o2 o3:Option Ka,Qp 2 (unpD 2 (gsC (gNm 13) (gsC (gNm 14) gsN))) tT (vr 13) [bB (.list (F.map eC)),bB (.dict (eJ K)),o2,o3,bC,bC,bC,bC,bC,bC,bC,bC,bC] (F.map eC)=bB (F.map λc=>.int c.1):=λo2 o3=>QZ eC _ F λa _=>by
  simp only[eC]
  simp_arith []
 have c2:∀o2 o3:Option Ka,Qp 2 (unpD 2 (gsC (gNm 13) (gsC (gNm 14) gsN))) tT (vr 14) [bB (.list (F.map eC)),bB (.dict (eJ K)),o2,o3,bC,bC,bC,bC,bC,bC,bC,bC,bC] (F.map eC)=bB (F.map λc=>.int c.2):=λo2 o3=>QZ eC _ F λa _=>by
  simp only[eC]
  simp_arith []
 have nd:=rt.nd
 unfold sgs at nd
 rw[Kw]at nd
 obtain⟨ρ1,l1,o5,o6,rfl⟩:=jJ eC (g:=unpD 2 (gsC (gNm 5) (gsC (gNm 6) gsN))) (u:=Jl)
  (λdone ρ=>∃o5 o6:Option Ka,ρ=[bB (.list (F.map eC)),bB (.dict (eJ K)),bB (.tuple [.int lx,.int ly]),bB (.tuple [.int hx,.int hy]),bB (.dict (eG (done.map sC))),o5,o6,bC,bC,bC,bC,bC,bC]) F [bB (.list (F.map eC)),bB (.dict (eJ K)),bB (.tuple [.int lx,.int ly]),bB (.tuple [.int hx,.int hy]),bB (.dict []),bC,bC,bC,bC,bC,bC,bC,bC] ⟨bC,bC,rfl⟩ (by
   rintro a done rest ρ dj ⟨o5,o6,rfl⟩
   have ha:a∈F:=by rw[dj];simp
   have u1:=qbq (hB a ha).1
   have u2:=qbq (hB a ha).2
   have hd:jF (.dict (eG (done.map sC))) (.tuple [.int (2*a.1),.int (2*a.2)]) (.str (Kn "#"))=bB (.dict (eG ((done++[a]).map sC))):=by
    rw[e35,Kw]
    refine WF (q:=(2*a.1,2*a.2)) 35 (by have:=congrArg Xf dj;rw[Kr]at this;rw[Kc];omega) λp hp z=>?_
    obtain⟨q,hq,rfl⟩:=Kl.mp hp
    have hk:q=a:=qcy z
    have hn:=rt.fn
    rw[dj,VV]at hn
    exact hn.2.2 q hq a '+' hk
   refine⟨_,?_,bB (.int a.1),bB (.int a.2),rfl⟩
   simp only[eC]
   simp_arith [u1,u2,hd])
 obtain⟨ρ2,l2,o7,o8,rfl⟩:=jJ (λp:Jn=>eP p.1) (g:=unpD 2 (gsC (gNm 7) (gsC (gNm 8) gsN))) (u:=Jm)
  (λdone ρ=>∃o7 o8:Option Ka,ρ=[bB (.list (F.map eC)),bB (.dict (eJ K)),bB (.tuple [.int lx,.int ly]),bB (.tuple [.int hx,.int hy]),bB (.dict (eG (F.map sC++done.map sJ))),o5,o6,o7,o8,bC,bC,bC,bC]) K [bB (.list (F.map eC)),bB (.dict (eJ K)),bB (.tuple [.int lx,.int ly]),bB (.tuple [.int hx,.int hy]),bB (.dict (eG (F.map sC))),o5,o6,bC,bC,bC,bC,bC,bC] ⟨bC,bC,by simp⟩ (by
   rintro a done rest ρ dj ⟨o7,o8,rfl⟩
   have ha:a∈K:=by rw[dj];simp
   obtain⟨ka,kb,kc,kd⟩:=rt.km a ha
   have i1:ix2D (.dict (eJ K)) (.tuple [eC a.1.1,eC a.1.2])=bB (.int a.2):=qec rt.kn ha
   have ib:=ixb a.2 kd
   have hd:jF (.dict (eG (F.map sC++done.map sJ))) (.tuple [.int (a.1.1.1+a.1.2.1),.int (a.1.1.2+a.1.2.2)]) (eX [bch a.2])=bB (.dict (eG (F.map sC++(done++[a]).map sJ))):=by
    rw[Kw,←VG]
    refine WF (q:=(a.1.1.1+a.1.2.1,a.1.1.2+a.1.2.2)) (bch a.2) (by have:=congrArg Xf dj;rw[Kr]at this;rw[Kr,Kc,Kc];omega) λp hp z=>?_
    rcases K6.mp hp with y|y
    .obtain⟨q,hq,rfl⟩:=Kl.mp y
     exact qfw (p:=a) kc z
    .obtain⟨q,hq,rfl⟩:=Kl.mp y
     have gk:q∈K:=by rw[dj];simp [hq]
     have hk:q.1=a.1:=qcz (rt.km q gk).2.2.1 kc z
     have hn:=rt.kn
     rw[dj,Kw,VV]at hn
     exact hn.2.2 q.1 (Kl.mpr ⟨q,hq,rfl⟩) a.1 '+' hk
   refine⟨_,?_,bB (eC a.1.1),bB (eC a.1.2),rfl⟩
   simp only[eP]
   simp_arith [ixS0,ixS1,Wc,i1,ib,hd])
 obtain⟨ρ3,l3,mH,mI,kG,rfl⟩:=QC (λk:Nat=>Kt (k:Nat)) (g:=gNm 10) (u:=Jo)
  (λdone ρ=>∃mH mI kG:Option Ka,ρ=[bB (.list (F.map eC)),bB (.dict (eJ K)),bB (.tuple [.int lx,.int ly]),bB (.tuple [.int hx,.int hy]),bB (.dict (eG (sgs F K))),o5,o6,o7,o8,bB (eR (done.map λk:Nat=>(Ku W).map λa:Nat=>sgA (sgs F K) (2*lx+(a:Nat),2*hy-(k:Nat)))),mH,mI,kG]) (Ku H) [bB (.list (F.map eC)),bB (.dict (eJ K)),bB (.tuple [.int lx,.int ly]),bB (.tuple [.int hx,.int hy]),bB (.dict (eG (sgs F K))),o5,o6,o7,o8,bB (.list []),bC,bC,bC] ⟨bC,bC,bC,rfl⟩ (by
   rintro k hk done ρ e8 ⟨mH,mI,kG,rfl⟩
   rw[KR]at e8
   generalize pH:(done.map λk:Nat=>(Ku W).map λa:Nat=>sgA (sgs F K) (2*lx+(a:Nat),2*hy-(k:Nat)))=rs
   have hrl:(rs.map eX).length<1000:=by rw[Kc,←pH,Kc];omega
   obtain⟨ρ4,l4,mJ,rfl⟩:=QC (λk:Nat=>Kt (k:Nat)) (g:=gNm 12) (u:=Jp)
    (λdn ρ=>∃mJ:Option Ka,ρ=[bB (.list (F.map eC)),bB (.dict (eJ K)),bB (.tuple [.int lx,.int ly]),bB (.tuple [.int hx,.int hy]),bB (.dict (eG (sgs F K))),o5,o6,o7,o8,bB (eR rs),bB (.int (k:Nat)),bB (eX (dn.map λa:Nat=>sgA (sgs F K) (2*lx+(a:Nat),2*hy-(k:Nat)))),mJ]) (Ku W) [bB (.list (F.map eC)),bB (.dict (eJ K)),bB (.tuple [.int lx,.int ly]),bB (.tuple [.int hx,.int hy]),bB (.dict (eG (sgs F K))),o5,o6,o7,o8,bB (eR rs),bB (.int (k:Nat)),bB (.str (Kn "")),kG] ⟨kG,by rw[e00];rfl⟩ (by
     rintro a ha dn ρ hdn ⟨mJ,rfl⟩
     rw[KR]at hdn
     have g1:Yj (.dict (eG (sgs F K))) (.tuple [.int (2*lx+(a:Nat)),.int (2*hy-(k:Nat))]) (.str (Kn "."))=bB (eX [sgA (sgs F K) (2*lx+(a:Nat),2*hy-(k:Nat))]):=qe0 (sgs F K) (2*lx+(a:Nat),2*hy-(k:Nat))
     have x0:ixSD (.tuple [.int lx,.int ly]) (.int 0)=bB (.int lx):=rfl
     have x1:ixSD (.tuple [.int hx,.int hy]) (.int 1)=bB (.int hy):=rfl
     have ad:=addX (a:=dn.map λa:Nat=>sgA (sgs F K) (2*lx+(a:Nat),2*hy-(k:Nat))) (b:=[sgA (sgs F K) (2*lx+(a:Nat),2*hy-(k:Nat))]) (by rw[Kc];simp only[KQ];omega)
     refine⟨_,?_,bB (.int (a:Nat)),rfl⟩
     simp_arith [x0,x1,ulx,uhy,Wc,g1,ad]
     rw[Kw]
     rfl)
   have x0:ixSD (.tuple [.int lx,.int ly]) (.int 0)=bB (.int lx):=rfl
   have x1:ixSD (.tuple [.int hx,.int hy]) (.int 0)=bB (.int hx):=rfl
   refine⟨_,?_,bB (.int (k:Nat)),bB (eX ((Ku W).map λa:Nat=>sgA (sgs F K) (2*lx+(a:Nat),2*hy-(k:Nat)))),mJ,rfl⟩
   have l4:=l4
   rw[Kw,pH]
   unfold eR at l4 ⊢
   simp_arith [x0,x1,ux,Wc,←hW,-L2.Q7,rW,l4,hrl]
   rw[Kw]
   rfl)
 have e:ZL (rho0 qR.length [.list (F.map eC),.dict (eJ K)])=bB (.rt (eR (pic (sgA (sgs F K)) (2*lx) (2*hy) W H))):=by
  unfold ZL
  refine za (ρ':=[bB (.list (F.map eC)),bB (.dict (eJ K)),bB (.tuple [.int lx,.int ly]),bC,bC,bC,bC,bC,bC,bC,bC,bC,bC]) (by simp_arith [hlen,c1,c2,m1,m3]) ?_
  refine za (ρ':=[bB (.list (F.map eC)),bB (.dict (eJ K)),bB (.tuple [.int lx,.int ly]),bB (.tuple [.int hx,.int hy]),bC,bC,bC,bC,bC,bC,bC,bC,bC]) (by simp_arith [hlen,c1,c2,m2,m4]) ?_
  refine za (ρ':=[bB (.list (F.map eC)),bB (.dict (eJ K)),bB (.tuple [.int lx,.int ly]),bB (.tuple [.int hx,.int hy]),bB (.dict []),bC,bC,bC,bC,bC,bC,bC,bC]) (by simp_arith []) ?_
  refine za (ρ':=[bB (.list (F.map eC)),bB (.dict (eJ K)),bB (.tuple [.int lx,.int ly]),bB (.tuple [.int hx,.int hy]),bB (.dict (eG (F.map sC))),o5,o6,bC,bC,bC,bC,bC,bC]) (by simp_arith [l1]) ?_
  refine za (ρ':=[bB (.list (F.map eC)),bB (.dict (eJ K)),bB (.tuple [.int lx,.int ly]),bB (.tuple [.int hx,.int hy]),bB (.dict (eG (sgs F K))),o5,o6,o7,o8,bC,bC,bC,bC]) (by simp_arith [qcg,l2];rfl) ?_
  refine za (ρ':=[bB (.list (F.map eC)),bB (.dict (eJ K)),bB (.tuple [.int lx,.int ly]),bB (.tuple [.int hx,.int hy]),bB (.dict (eG (sgs F K))),o5,o6,o7,o8,bB (.list []),bC,bC,bC]) (by simp_arith []) ?_
  have x0:ixSD (.tuple [.int lx,.int ly]) (.int 1)=bB (.int ly):=rfl
  have x1:ixSD (.tuple [.int hx,.int hy]) (.int 1)=bB (.int hy):=rfl
  refine za (ρ':=[bB (.list (F.map eC)),bB (.dict (eJ K)),bB (.tuple [.int lx,.int ly]),bB (.tuple [.int hx,.int hy]),bB (.dict (eG (sgs F K))),o5,o6,o7,o8,bB (eR (pic (sgA (sgs F K)) (2*lx) (2*hy) W H)),mH,mI,kG]) (by simp_arith [x0,x1,uy,Wc,←hH,-L2.Q7,rH,l3];rfl) ?_
  simp_arith []
 unfold QQ
 rw[e]
 rfl
def ph (lx hy:Int)(q:Ce):Ce:=(2*hy-q.2,q.1-2*lx)
theorem qeo {lx hy:Int}{a b:Ce}(h:ph lx hy a=ph lx hy b):a=b:=by
 unfold ph at h
 obtain⟨h1,h2⟩:=UJ h
 exact V0 '#' '#'
def mgp (lx hy:Int)(e:Ce×Nat):Ce×Nat:=(ph lx hy e.1,e.2)
theorem qkt (lx hy:Int)(q:Ce):∀gs:List (Ce×Nat),sgA (gs.map (mgp lx hy)) (ph lx hy q)=sgA gs q
 |[]=>rfl
 |e::gs=>by
  have ih:=qkt lx hy q gs
  unfold sgA at *
  rw[Km,Vd,Vd]
  by_cases h:e.1=q
  .have h2:(mgp lx hy e).1=ph lx hy q:=by rw[←h];rfl
   rw[sh h,sh h2]
   rfl
  .have h2:¬(mgp lx hy e).1=ph lx hy q:=λz=>h (qeo z)
   rw[se h,se h2]
   exact ih
theorem qjZ {as bs:aL}(p:as.Perm bs)(h:(bs.map (·.1)).Nodup)(q:Ce):sgA as q=sgA bs q:=by
 rcases qdR bs q with ⟨e,z⟩|⟨b,hb,e1,e2⟩
 .rw[e,qev λa ha=>z a (p.mem_iff.mp ha)]
 .rw[e2,←e1]
  exact qdS ((p.map _).nodup_iff.mpr h) (p.mem_iff.mpr hb)
theorem qhT {α β:Type}{f:α->β}{l m:List β}(h:l.Perm m):∀K:List α,m=K.map f->∃K':List α,K'.Perm K/\l=K'.map f:=by
 induction h with
 |nil=>intro K e;exact⟨K,.refl _,e⟩
 |cons x h ih =>
  intro K e
  cases K with
  |nil=>cases e
  |cons k K =>
   rw[Km]at e
   obtain⟨e1,e2⟩:=XZ e
   obtain⟨K',p,e3⟩:=ih K e2
   exact⟨k::K',p.cons k,by rw[Km,e3,e1]⟩
 |swap x y l =>
  intro K e
  match K,e with
  |a::b::K,e =>
   rw[Km,Km]at e
   obtain⟨e1,e2⟩:=XZ e
   obtain⟨e3,e4⟩:=XZ e2
   exact⟨b::a::K,List.Perm.swap a b K,by rw[Km,Km,e1,e3,e4]⟩
 |trans h1 h2 ih1 ih2 =>
  intro K e
  obtain⟨K2,p2,e2⟩:=ih2 K e
  obtain⟨K1,p1,e1⟩:=ih1 K2 e2
  exact⟨K1,p1.trans p2,e1⟩
theorem Rt.perm {F S:aB}{K L:aI}(h:Rt F K)(p:S.Perm F)(q:L.Perm K):Rt S L:=by
 refine⟨p.nodup_iff.mpr h.fn,(q.map _).nodup_iff.mpr h.kn,λj hj=>?_⟩
 obtain⟨a,b,c⟩:=h.km j (q.mem_iff.mp hj)
 exact⟨p.mem_iff.mpr a,p.mem_iff.mpr b,c⟩
theorem qih {F S:aB}{K L:aI}(p:S.Perm F)(q:L.Perm K):(sgs S L).Perm (sgs F K):=(p.map _).append (q.map _)
theorem qlF {S:aB}{lx hx ly hy:Int}(bx:Box S lx hx ly hy)(hl:S.length<=26)(h1:hx-lx<=25)(h2:hy-ly<=25){c:Ce}(hc:c∈S):Zi [.list (S.map eC),eC c]=bB (eC (ph lx hy (sC c).1)):=by
 obtain⟨m1,m2,m3,m4⟩:=bx.mins '#'
 have hb:=bx.all c hc
 have u1:mulD (.int 2) (.int (hy-c.2))=bB (.int (2*(hy-c.2))):=QB (bd2.ok (m:=200) (Bd.of '#'))
 have u2:mulD (.int 2) (.int (c.1-lx))=bB (.int (2*(c.1-lx))):=QB (bd2.ok (m:=200) (Bd.of '#'))
 have hlen:(S.map eC).length<=1000:=by rw[Kc];omega
 have k1:∀o2 o3:Option Ka,Qv tT (ev2 (vr 4) (kd (.int 1)) ixD) [bB (.list (S.map eC)),bB (eC c),o2,o3] (S.map eC)=bB (S.map λc=>.int c.2):=λo2 o3=>Qz eC _ S λa _=>by simp_arith [ixc1]
 have k2:∀o2 o3:Option Ka,Qv tT (ev2 (vr 4) (kd (.int 0)) ixD) [bB (.list (S.map eC)),bB (eC c),o2,o3] (S.map eC)=bB (S.map λc=>.int c.1):=λo2 o3=>Qz eC _ S λa _=>by simp_arith [ixc0]
 have ee:eC (ph lx hy (sC c).1)=.tuple [.int (2*(hy-c.2)),.int (2*(c.1-lx))]:=by
  unfold eC ph sC
  dsimp only
  rw[show 2*hy-2*c.2=2*(hy-c.2) by omega,show 2*c.1-2*lx=2*(c.1-lx) by omega]
 rw[ee]
 delta Zi Yu
 simp_arith [hlen,k1,k2,m4,m1,ixc0,ixc1,u1,u2]
theorem qgw {lx hy:Int}(a b:Ce):Js [eC (ph lx hy (sC a).1),eC (ph lx hy (sC b).1)]=bB (eC (ph lx hy (sJ ((a,b),0)).1)):=by
 have ee:eC (ph lx hy (sJ ((a,b),0)).1)=.tuple [.int ((2*hy-2*a.2+(2*hy-2*b.2)) / 2),.int ((2*a.1-2*lx+(2*b.1-2*lx)) / 2)]:=by
  unfold eC ph sJ
  dsimp only
  rw[show(2*hy-2*a.2+(2*hy-2*b.2)) / 2=2*hy-(a.2+b.2) by omega,show(2*a.1-2*lx+(2*b.1-2*lx)) / 2=a.1+b.1-2*lx by omega]
 rw[ee]
 simp only[Js,wX,ph,sC]
 simp_arith [ixc0,ixc1]
theorem qeZ:JG=.str (Kn "#"):=rfl
theorem dNo:ZV=.str (Kn "."):=rfl
theorem dJo:jR=.str (Kn "v+^"):=rfl
theorem row8 (gs:aL)(lx hy:Int)(k:Nat){W:Nat}(hW:W<=900):ZX [.dict (eG (gs.map (mgp lx hy))),.int (k:Nat),.int (W:Nat)]=bB (eX ((Ku W).map λa:Nat=>sgA gs (2*lx+(a:Nat),2*hy-(k:Nat)))):=by
 have rW:=Wn (n:=W) '#'
 have hlen:((Ku W).map λk:Nat=>Kt (k:Nat)).length<=1000:=by rw[Kc,KR];omega
 have k1:Qv tT (ev3 (vr 0) (evA (aC (vr 1) (aC (vr 3) aN)) tupD) (kd ZV) Yj) [bB (.dict (eG (gs.map (mgp lx hy)))),bB (.int (k:Nat)),bB (.int (W:Nat))] ((Ku W).map λk:Nat=>Kt (k:Nat))=bB ((Ku W).map λa:Nat=>eX [sgA gs (2*lx+(a:Nat),2*hy-(k:Nat))]):=Qz (λk:Nat=>Kt (k:Nat)) _ (Ku W) λa _=>by
  have ep:ph lx hy (2*lx+(a:Nat),2*hy-(k:Nat))=(((k:Nat):Int),((a:Nat):Int)):=by
   unfold ph
   dsimp only
   rw[show 2*hy-(2*hy-((k:Nat):Int))=((k:Nat):Int) by omega,show 2*lx+((a:Nat):Int)-2*lx=((a:Nat):Int) by omega]
  have g1:=qe0 (gs.map (mgp lx hy)) (((k:Nat):Int),((a:Nat):Int))
  rw[←ep,qkt,ep]at g1
  have g1:Yj (.dict (eG (gs.map (mgp lx hy)))) (.tuple [.int (k:Nat),.int (a:Nat)]) (.str (Kn "."))=bB (eX [sgA gs (2*lx+(a:Nat),2*hy-(k:Nat))]):=g1
  simp_arith [dNo,g1]
 have em:((Ku W).map λa:Nat=>eX [sgA gs (2*lx+(a:Nat),2*hy-(k:Nat))])=(((Ku W).map λa:Nat=>sgA gs (2*lx+(a:Nat),2*hy-(k:Nat))).map λc=>eX [c]):=by rw[Kx];rfl
 have j:=join0 (cs:=(Ku W).map λa:Nat=>sgA gs (2*lx+(a:Nat),2*hy-(k:Nat))) (by rw[Kc,KR];omega)
 rw[←em]at j
 delta ZX Yv
 simp_arith [-L2.Q7,rW,hlen,k1,j]
theorem qkK {S:aB}{K:aI}{lx hx ly hy:Int}{W H:Nat}(rt:Rt S K)(bx:Box S lx hx ly hy)(hl:S.length<=26)(hk:K.length<=60)(hW:((W:Nat):Int)=2*(hx-lx)+1)(hH:((H:Nat):Int)=2*(hy-ly)+1)(pI:hx-lx<=25)(pL:hy-ly<=25):
  jU [.tuple [.list (S.map eC),.list ((K.map (jn S)).map eS)]]=bB (eR (pic (sgA (sgs S K)) (2*lx) (2*hy) W H)):=by
 obtain⟨D,hD⟩:∃D:List (Ce×Nat),D=(sgs S K).map (mgp lx hy):=⟨_,rfl⟩
 have pl:=λ{c:Ce} (hc:c∈S)=>qlF bx hl pI pL hc
 obtain⟨ρ1,l1,o3,rfl⟩:=jJ eC (g:=gNm 3) (u:=qa4)
  (λdone ρ=>∃o3:Option Ka,ρ=[bB (.tuple [.list (S.map eC),.list ((K.map (jn S)).map eS)]),bB (.list (S.map eC)),bB (.dict (eG ((done.map sC).map (mgp lx hy)))),o3,bC,bC,bC,bC,bC]) S [bB (.tuple [.list (S.map eC),.list ((K.map (jn S)).map eS)]),bB (.list (S.map eC)),bB (.dict []),bC,bC,bC,bC,bC,bC] ⟨bC,rfl⟩ (by
   rintro a done rest ρ dj ⟨o3,rfl⟩
   have ha:a∈S:=by rw[dj];simp
   have pa:=pl ha
   have hd:jF (.dict (eG ((done.map sC).map (mgp lx hy)))) (eC (ph lx hy (sC a).1)) (.str (Kn "#"))=bB (.dict (eG (((done++[a]).map sC).map (mgp lx hy)))):=by
    rw[e35,Kw,Kw]
    refine WF (q:=ph lx hy (sC a).1) 35 (by have:=congrArg Xf dj;rw[Kr]at this;rw[Kc,Kc];omega) λp hp z=>?_
    rw[Kx]at hp
    obtain⟨q,hq,rfl⟩:=Kl.mp hp
    have hk:q=a:=qcy (qeo z)
    have hn:=rt.fn
    rw[dj,VV]at hn
    exact hn.2.2 q hq a '+' hk
   refine⟨_,?_,bB (eC a),rfl⟩
   simp_arith [pa,qeZ,hd])
 obtain⟨ρ2,l2,o4,o5,o6,rfl⟩:=jJ (λp:Jn=>eS (jn S p)) (g:=unpD 3 (gsC (gNm 4) (gsC (gNm 5) (gsC (gNm 6) gsN)))) (u:=qa5)
  (λdone ρ=>∃o4 o5 o6:Option Ka,ρ=[bB (.tuple [.list (S.map eC),.list ((K.map (jn S)).map eS)]),bB (.list (S.map eC)),bB (.dict (eG ((S.map sC++done.map sJ).map (mgp lx hy)))),o3,o4,o5,o6,bC,bC]) K [bB (.tuple [.list (S.map eC),.list ((K.map (jn S)).map eS)]),bB (.list (S.map eC)),bB (.dict (eG ((S.map sC).map (mgp lx hy)))),o3,bC,bC,bC,bC,bC] ⟨bC,bC,bC,by simp⟩ (by
   rintro a done rest ρ dj ⟨o4,o5,o6,rfl⟩
   have ha:a∈K:=by rw[dj];simp
   obtain⟨ka,kb,kc,kd⟩:=rt.km a ha
   have at_:∀{c:Ce},c∈S->ixSD (.list (S.map eC)) (.int (S.idxOf c:Nat))=bB (eC c):=λ{c} hc=>by
    have bK:=U1 hc
    exact jQ '#' (by rw[Va,Kj bK,List.getElem_idxOf bK])
   have i1:=at_ ka
   have i2:=at_ kb
   have p1:=pl ka
   have p2:=pl kb
   have b1:=qgw (lx:=lx) (hy:=hy) a.1.1 a.1.2
   have ib:=ixb a.2 kd
   have es:(sJ ((a.1.1,a.1.2),0)).1=(sJ a).1:=rfl
   have hd:jF (.dict (eG ((S.map sC++done.map sJ).map (mgp lx hy)))) (eC (ph lx hy (sJ ((a.1.1,a.1.2),0)).1)) (eX [bch a.2])=bB (.dict (eG ((S.map sC++(done++[a]).map sJ).map (mgp lx hy)))):=by
    rw[es]
    have e3:(S.map sC++(done++[a]).map sJ).map (mgp lx hy)=(S.map sC++done.map sJ).map (mgp lx hy)++[(ph lx hy (sJ a).1,bch a.2)]:=by
     simp only[Kw,Km,V9,VG]
     rfl
    rw[e3]
    refine WF (q:=ph lx hy (sJ a).1) (bch a.2) (by have:=congrArg Xf dj;rw[Kr]at this;rw[Kc,Kr,Kc,Kc];omega) λp hp z=>?_
    obtain⟨p',kR,rfl⟩:=Kl.mp hp
    have z:=qeo z
    rcases K6.mp kR with y|y
    .obtain⟨q,hq,rfl⟩:=Kl.mp y
     exact qfw (p:=a) kc z
    .obtain⟨q,hq,rfl⟩:=Kl.mp y
     have gk:q∈K:=by rw[dj];simp [hq]
     have hk:q.1=a.1:=qcz (rt.km q gk).2.2.1 kc z
     have hn:=rt.kn
     rw[dj,Kw,VV]at hn
     exact hn.2.2 q.1 (Kl.mpr ⟨q,hq,rfl⟩) a.1 '+' hk
   refine⟨_,?_,bB (.int (S.idxOf a.1.1:Nat)),bB (.int (S.idxOf a.1.2:Nat)),bB (.int a.2),rfl⟩
   simp only[eS,jn]
   simp_arith [i1,i2,p1,p2,b1,dJo,Wc,ib,hd])
 have eD:(S.map sC++K.map sJ).map (mgp lx hy)=D:=by rw[hD];rfl
 rw[eD]at l2
 have pM:D.length<=86:=by rw[hD,Kc];unfold sgs;rw[Kr,Kc,Kc];omega
 have pN:∀e∈D,e.1.1<=2*(hy-ly)/\e.1.2<=2*(hx-lx):=λe he=>by
  rw[hD]at he
  obtain⟨s,hs,rfl⟩:=Kl.mp he
  unfold sgs at hs
  unfold mgp ph
  dsimp only
  rcases K6.mp hs with y|y
  .obtain⟨c,hc,rfl⟩:=Kl.mp y
   have:=bx.all c hc
   unfold sC
   dsimp only
   omega
  .obtain⟨p,hp,rfl⟩:=Kl.mp y
   obtain⟨ka,kb,_⟩:=rt.km p hp
   have q1:=bx.all _ ka
   have q2:=bx.all _ kb
   unfold sJ
   dsimp only
   omega
 have cm:∀{c:Ce},c∈S->(ph lx hy (sC c).1,35)∈D:=λ{c} hc=>by
  rw[hD]
  exact Kl.mpr ⟨sC c,by unfold sgs;exact Vi _ (Kl.mpr ⟨c,hc,rfl⟩),rfl⟩
 have x1:yc [.list (D.map λe=>.int e.1.1)]=bB (.int (2*(hy-ly))):=by
  have e1:(D.map λe=>Kt e.1.1)=(D.map λe=>e.1.1).map .int:=by rw[Kx];rfl
  rw[e1]
  refine qck (by rw[Kc];omega) ?_ λx hx=>?_
  .obtain⟨c,hc,e⟩:=bx.c
   exact Kl.mpr ⟨_,cm hc,by unfold ph sC;dsimp only;omega⟩
  .obtain⟨e,he,rfl⟩:=Kl.mp hx
   exact(pN e he).1
 have x2:yc [.list (D.map λe=>.int e.1.2)]=bB (.int (2*(hx-lx))):=by
  have e1:(D.map λe=>Kt e.1.2)=(D.map λe=>e.1.2).map .int:=by rw[Kx];rfl
  rw[e1]
  refine qck (by rw[Kc];omega) ?_ λx hx=>?_
  .obtain⟨c,hc,e⟩:=bx.b
   exact Kl.mpr ⟨_,cm hc,by unfold ph sC;dsimp only;omega⟩
  .obtain⟨e,he,rfl⟩:=Kl.mp hx
   exact(pN e he).2
 have q1:∀o7:Option Ka,Qv tT (ev2 (vr 9) (kd (.int 0)) ixSD) [bB (.tuple [.list (S.map eC),.list ((K.map (jn S)).map eS)]),bB (.list (S.map eC)),bB (.dict (eG D)),o3,o4,o5,o6,o7,bC] (D.map λp=>eC p.1)=bB (D.map λe=>.int e.1.1):=λo7=>Qz (λp:Ce×Nat=>eC p.1) _ D λa _=>by simp_arith [ixS0]
 have q2:∀o7:Option Ka,Qv tT (ev2 (vr 9) (kd (.int 1)) ixSD) [bB (.tuple [.list (S.map eC),.list ((K.map (jn S)).map eS)]),bB (.list (S.map eC)),bB (.dict (eG D)),o3,o4,o5,o6,o7,bC] (D.map λp=>eC p.1)=bB (D.map λe=>.int e.1.2):=λo7=>Qz (λp:Ce×Nat=>eC p.1) _ D λa _=>by simp_arith [ixS1]
 have pO:(D.map λp=>eC p.1).length<=1000:=by rw[Kc];omega
 have rH:=Wn (n:=H) '#'
 have hHm:((Ku H).map λk:Nat=>Kt (k:Nat)).length<=1000:=by rw[Kc,KR];omega
 have q3:Qv tT (evC 3 (aC (vr 2) (aC (vr 9) (aC (vr 8) aN))) ZX) [bB (.tuple [.list (S.map eC),.list ((K.map (jn S)).map eS)]),bB (.list (S.map eC)),bB (.dict (eG D)),o3,o4,o5,o6,bB (.int (H:Nat)),bB (.int (W:Nat))] ((Ku H).map λk:Nat=>Kt (k:Nat))=bB ((pic (sgA (sgs S K)) (2*lx) (2*hy) W H).map eX):=by
  have ep:(pic (sgA (sgs S K)) (2*lx) (2*hy) W H).map eX=(Ku H).map λk:Nat=>eX ((Ku W).map λa:Nat=>sgA (sgs S K) (2*lx+(a:Nat),2*hy-(k:Nat))):=by
   unfold pic
   rw[Kx]
   rfl
  rw[ep]
  refine Qz (λk:Nat=>Kt (k:Nat)) _ (Ku H) λk _=>?_
  have r:=row8 (sgs S K) lx hy k (W:=W) '#'
  rw[←hD]at r
  simp_arith [r]
 have z0:ixSD (.tuple [.list (S.map eC),.list ((K.map (jn S)).map eS)]) (.int 0)=bB (.list (S.map eC)):=rfl
 have z1:ixSD (.tuple [.list (S.map eC),.list ((K.map (jn S)).map eS)]) (.int 1)=bB (.list ((K.map (jn S)).map eS)):=rfl
 have em:(K.map (jn S)).map eS=K.map λp=>eS (jn S p):=by rw[Kx];rfl
 have e:WR (rho0 yL.length [.tuple [.list (S.map eC),.list ((K.map (jn S)).map eS)]])=bB (.rt (eR (pic (sgA (sgs S K)) (2*lx) (2*hy) W H))):=by
  unfold WR
  refine za (ρ':=[bB (.tuple [.list (S.map eC),.list ((K.map (jn S)).map eS)]),bB (.list (S.map eC)),bC,bC,bC,bC,bC,bC,bC]) (by simp_arith [z0]) ?_
  refine za (ρ':=[bB (.tuple [.list (S.map eC),.list ((K.map (jn S)).map eS)]),bB (.list (S.map eC)),bB (.dict []),bC,bC,bC,bC,bC,bC]) (by simp_arith []) ?_
  refine za (ρ':=[bB (.tuple [.list (S.map eC),.list ((K.map (jn S)).map eS)]),bB (.list (S.map eC)),bB (.dict (eG ((S.map sC).map (mgp lx hy)))),o3,bC,bC,bC,bC,bC]) (by simp_arith [l1]) ?_
  refine za (ρ':=[bB (.tuple [.list (S.map eC),.list ((K.map (jn S)).map eS)]),bB (.list (S.map eC)),bB (.dict (eG D)),o3,o4,o5,o6,bC,bC]) (by rw[em]at l2 z1 ⊢;simp_arith [z1,l2]) ?_
  refine za (ρ':=[bB (.tuple [.list (S.map eC),.list ((K.map (jn S)).map eS)]),bB (.list (S.map eC)),bB (.dict (eG D)),o3,o4,o5,o6,bB (.int (H:Nat)),bC]) (by simp_arith [qfe,pO,q1,x1,Wc];rw[hH,Int.add_comm]) ?_
  refine za (ρ':=[bB (.tuple [.list (S.map eC),.list ((K.map (jn S)).map eS)]),bB (.list (S.map eC)),bB (.dict (eG D)),o3,o4,o5,o6,bB (.int (H:Nat)),bB (.int (W:Nat))]) (by simp_arith [qfe,pO,q2,x2,Wc];rw[hW,Int.add_comm]) ?_
  simp_arith [-L2.Q7,rH,hHm,q3]
  rfl
 unfold jU
 rw[e]
 rfl
theorem isi_X (l:ao):isiT "str" (eX l)=bD:=rfl
theorem ok_X {l:ao}(h:∀c∈l,c<256):KU (eX l)=bD:=by
 show(tx l).cps.all (· < 0x110000)=bD
 simp only[tx,List.all_toArray]
 exact KN.mpr λc hc=>sh (by have:=h c hc;omega)
theorem qkb:∀{rows:aG},(∀r∈rows,∀c∈r,c<256)->Kq (rows.map eX)=bD/\KB (rows.map eX)=0
 |[],_=>⟨rfl,rfl⟩
 |x::xs,h=>by
   have ih:=qkb (rows:=xs) λr hr=>h r (KS _ hr)
   have e1:Kq ((x::xs).map eX)=(KU (eX x)&&Kq (xs.map eX)):=rfl
   have e2:KB ((x::xs).map eX)=max 0 (KB (xs.map eX)):=rfl
   rw[e1,e2,ih.1,ih.2,ok_X (h x '+')]
   exact⟨rfl,rfl⟩
theorem qet (l:ao):WX (eX l):=by show(tx l==tx l)=bD;exact tE _
theorem wy {rows:aG}(h:∀r∈rows,∀c∈r,c<256):K8 (eR rows)=bD:=by
 have h:=qkb h
 have h2:UN (eR rows)=KB (rows.map eX)+1:=rfl
 unfold K8
 rw[h2,KF]
 exact⟨h.1,sh '#'⟩
theorem wz {l:ao}(h:∀c∈l,c<256):K8 (eX l)=bD:=by
 unfold K8
 rw[ok_X h]
 rfl
theorem eqD_X {rows:aG}(h:∀r∈rows,∀c∈r,c<256):eqD (eR rows) (eR rows)=bB (.bool bD):=by
 unfold eqD
 have:=wV (f:=eX) qet rows
 unfold WX at this
 rw[si ⟨wy h,wy h⟩]
 unfold eR
 rw[this]
theorem neD_X {rows:aG}(h:∀r∈rows,∀c∈r,c<256):neD (eR rows) (eR rows)=bB (.bool bE):=by
 unfold neD
 have:=wV (f:=eX) qet rows
 unfold WX at this
 rw[si ⟨wy h,wy h⟩]
 unfold eR
 rw[this]
 rfl
theorem neD_x {l:ao}(h:∀c∈l,c<256):neD (eX l) (eX l)=bB (.bool bE):=by
 unfold neD
 have:=qet l
 unfold WX at this
 rw[si ⟨wz h,wz h⟩,this]
 rfl
theorem qke {a b:Nat}(ha:a<256)(hb:b<256):eqD (eX [a]) (eX [b])=bB (.bool (decide (a=b))):=by
 unfold eqD
 rw[si ⟨wz (by simpa using ha),wz (by simpa using hb)⟩]
 have:KC (eX [a]) (eX [b])=decide (tx [a]=tx [b]):=rfl
 rw[this]
 by_cases h:a=b
 .rw[h,sh rfl,sh rfl]
 .have h2:¬tx [a]=tx [b]:=λz=>h (by have:=congrArg (λs:Str=>s.cps.toList) z;simp only[yJ]at this;exact(XZ this).1)
  rw[se h,se h2]
theorem qmd {rows:aG}(h:∀r∈rows,∀c∈r,c<256):Q4 [eR rows,eR rows]=bB (.bool bD):=by
 obtain⟨ρ1,l1,o,rfl⟩:=QC eX (g:=gNm 2) (u:=yr)
  (λ_ ρ=>∃o:Option Ka,ρ=[bB (eR rows),bB (eR rows),o]) rows [bB (eR rows),bB (eR rows),bC] ⟨bC,rfl⟩ (by
   rintro a ha done ρ e8 ⟨o,rfl⟩
   refine⟨_,?_,bB (eX a),rfl⟩
   simp_arith [isi_X])
 have q:=eqD_X h
 have li:isiT "list" (eR rows)=bD:=rfl
 have sq:seqD (eR rows)=bB (rows.map eX):=rfl
 delta Q4 JW
 simp_arith [li,sq,l1,q]
theorem qgW:∀(n:Nat) (acc:aX),(Kk n #[46]).foldl (·++·) acc=acc++(Kk n 46).toArray
 |0,acc=>by simp
 |n+1,acc=>by
  rw[N1,List.foldl_cons,qgW n,N1]
  apply EG.mp
  simp
theorem mulX {n:Nat}(h:n<=900):jg (.str (Kn ".")) (.int (n:Nat))=bB (eX (Kk n 46)):=by
 rw[e46]
 show(if (tx [46]).length<=1000/\-1000<=((n:Nat):Int)/\((n:Nat):Int)<=1000 then bB (XU (Txt.mul (tx [46]) (n:Nat))) else bC)=_
 rw[si ⟨by rw[Q9];decide,by omega,by omega⟩]
 have:Txt.mul (tx [46]) (n:Nat)=tx (Kk n 46):=by
  unfold Txt.mul
  by_cases h0:n=0
  .subst h0;rfl
  .rw[sk '#']
   by_cases h1:n=1
   .subst h1;rfl
   .have hb:(((n:Nat):Int)==1||(tx [46]).length==0)=bE:=by
     rw[Q9]
     have:(((n:Nat):Int)==1)=bE:=by simpa using (by omega:¬((n:Nat):Int)=1)
     rw[this];rfl
    rw[hb,sk '%',Va]
    have e:(tx [46]).cps=#[46]:=rfl
    rw[e,qgW]
    simp [tx]
 rw[this]
 rfl
def rowP (g:bu)(x0 y:Int)(W:Nat):List Nat:=(Ku W).map λa:Nat=>g (x0+(a:Nat),y)
theorem QD (g:bu)(x0 y1:Int)(W H:Nat):pic g x0 y1 W H=(Ku H).map λk:Nat=>rowP g x0 (y1-(k:Nat)) W:=rfl
theorem qhq {n:Nat}{f:Nat->Nat}(h:∀i,i<n->f i=46):(Ku n).map f=Kk n 46:=by
 refine NK.mpr ⟨by rw[Kc,KR],λb hb=>?_⟩
 obtain⟨i,hi,rfl⟩:=Kl.mp hb
 exact h i (VX.mp hi)
theorem rng3 {β:Type}(f:Nat->β)(a b c:Nat):(Ku (a+b+c)).map f=(Ku a).map f++(Ku b).map (λi=>f (a+i))++(Ku c).map (λi=>f (a+b+i)):=by
 rw[List.range_add,List.range_add,Kw,Kw,Kx,Kx]
 rfl
theorem qlT {g:bu}{x0 y:Int}{W:Nat}(h:∀x:Int,(x<x0\/x0+(W:Nat)<=x)->g (x,y)=46)(l r:Nat):rowP g (x0-(l:Nat)) y (l+W+r)=Kk l 46++rowP g x0 y W++Kk r 46:=by
 unfold rowP
 rw[rng3,qhq λi hi=>h _ '#',qhq (n:=r) λi hi=>h _ '#']
 congr 2
 refine Vm λa _=>?_
 congr 2
 omega
theorem qfu {g:bu}{x0 y:Int}{W:Nat}(h:∀x:Int,g (x,y)=46):rowP g x0 y W=Kk W 46:=qhq λ_ _=>h _
theorem qlE {g:bu}{x0 y1:Int}{W H:Nat}(h:∀x y:Int,(x<x0\/x0+(W:Nat)<=x\/y1<y\/y<=y1-(H:Nat))->g (x,y)=46)(l r lo hi:Nat):
  pic g (x0-(l:Nat)) (y1+(hi:Nat)) (l+W+r) (hi+H+lo)=Kk hi (Kk (l+W+r) 46)++(pic g x0 y1 W H).map (λq=>Kk l 46++q++Kk r 46)++Kk lo (Kk (l+W+r) 46):=by
 rw[QD,QD,rng3,Kx]
 have rep:∀{n:Nat} {f:Nat->List Nat},(∀i,i<n->f i=Kk (l+W+r) 46)->(Ku n).map f=Kk n (Kk (l+W+r) 46):=λ{n f} h=>by
  refine NK.mpr ⟨by rw[Kc,KR],λb hb=>?_⟩
  obtain⟨i,hi,rfl⟩:=Kl.mp hb
  exact h i (VX.mp hi)
 rw[rep λi hi=>qfu λx=>h x _ '#',rep (n:=lo) λi hi=>qfu λx=>h x _ '#']
 congr 2
 refine Vm λk _=>?_
 show rowP g (x0-(l:Nat)) (y1+(hi:Nat)-((hi+k:Nat):Int)) (l+W+r)=_
 have e:y1+(hi:Nat)-((hi+k:Nat):Int)=y1-(k:Nat):=by omega
 rw[e]
 exact qlT (λx hx=>h x _ '#') l r
theorem qfi {l:ao}(h:l.length<=1000):jW [eX l]=bB (.int (l.length:Nat)):=by
 show(if (tx l).length<=100000 then bB (Kt ((tx l).length:Nat)) else bC)=_
 rw[Q9,si '#']
theorem Z8 (g:bu)(x0 y:Int)(W:Nat):(rowP g x0 y W).length=W:=by unfold rowP;rw[Kc,KR]
theorem qaC {g:bu}{x0 y1:Int}{W H:Nat}{k:Int}(h0:0<=k)(h1:k<(H:Nat)):ixSD (eR (pic g x0 y1 W H)) (.int k)=bB (eX (rowP g x0 (y1-k) W)):=by
 obtain⟨n,rfl⟩:∃n:Nat,k=(n:Nat):=⟨k.toNat,by omega⟩
 rw[QD]
 exact jQ h0 (by rw[Va,KJ,List.getElem?_range '#'];rfl)
theorem qkc {g:bu}{x0 y:Int}{W:Nat}{k:Int}(hW:W<=900)(h0:0<=k)(h1:k<(W:Nat)):ixSD (eX (rowP g x0 y W)) (.int k)=bB (eX [g (x0+k,y)]):=by
 obtain⟨n,rfl⟩:∃n:Nat,k=(n:Nat):=⟨k.toNat,by omega⟩
 have e:atI (rowP g x0 y W) (n:Nat)=bB (g (x0+(n:Nat),y)):=by
  unfold rowP
  exact jQ h0 (by rw[Va,List.getElem?_range '#'])
 show(if (tx (rowP g x0 y W)).length<=100000 then ob (atI (tx (rowP g x0 y W)).cps.toList (n:Nat)) (λc=>bB (XU ⟨#[c]⟩)) else bC)=_
 rw[Q9,Z8,si '#',yJ,e]
 rfl
theorem qi5 {g:bu}{x0 y1:Int}{W H:Nat}(h:∀x y:Int,(x<x0\/x0+(W:Nat)<=x\/y1<y\/y<=y1-(H:Nat))->g (x,y)=46){l r lo hi:Nat}(hW:W<=100)(hH:H<=100)(hH0:0<H)(hl:l<=100)(hr:r<=100)(hlo:lo<=100)(hhi:hi<=100):
  Zc [eR (pic g x0 y1 W H),.int (l:Nat),.int (r:Nat),.int (lo:Nat),.int (hi:Nat)]=bB (eR (pic g (x0-(l:Nat)) (y1+(hi:Nat)) (l+W+r) (hi+H+lo))):=by
 have z0:=qaC (g:=g) (x0:=x0) (y1:=y1) (W:=W) (H:=H) (k:=0) '#' '#'
 have z1:=qfi (l:=rowP g x0 (y1-0) W) (by rw[Z8];omega)
 rw[Z8]at z1
 have ew:((l:Nat):Int)+((r:Nat):Int)+((W:Nat):Int)=((l+W+r:Nat):Int):=by omega
 have mw:=mulX (n:=l+W+r) '#'
 have ml:=mulX (n:=l) '#'
 have mr:=mulX (n:=r) '#'
 have rh:=Wn (n:=hi) '#'
 have rl:=Wn (n:=lo) '#'
 rw[qlE h l r lo hi]
 obtain⟨R,hR⟩:∃R:List (List Nat),R=pic g x0 y1 W H:=⟨_,rfl⟩
 have hRl:R.length=H:=by rw[hR,QD,Kc,KR]
 have hRw:∀q∈R,q.length=W:=λq hq=>by
  rw[hR,QD]at hq
  obtain⟨k,-,rfl⟩:=Kl.mp hq
  exact Z8 _ _ _ _
 rw[←hR]at z0 ⊢
 have lJ:∀(n:Nat) (o6 o7:aE),Qv tT (ev2 (kd (.str (Kn "."))) (vr 5) jg) [bB (eR R),bB (.int (l:Nat)),bB (.int (r:Nat)),bB (.int (lo:Nat)),bB (.int (hi:Nat)),bB (.int ((l+W+r:Nat):Int)),o6,o7] ((Ku n).map λk:Nat=>Kt (k:Nat))=bB ((Kk n (Kk (l+W+r) 46)).map eX):=λn o6 o7=>by
  have e:(Kk n (Kk (l+W+r) 46)).map eX=(Ku n).map λ_=>eX (Kk (l+W+r) 46):=by
   rw[List.map_replicate]
   exact(NK.mpr ⟨by rw[Kc,KR],λb hb=>by obtain⟨i,-,rfl⟩:=Kl.mp hb;rfl⟩).symm
  rw[e]
  exact Qz (λk:Nat=>Kt (k:Nat)) _ (Ku n) λk _=>by simp_arith [mw]
 obtain⟨ρ1,l1,o,rfl⟩:=QC eX (g:=gNm 7) (u:=J5)
  (λdone ρ=>∃o:Option Ka,ρ=[bB (eR R),bB (.int (l:Nat)),bB (.int (r:Nat)),bB (.int (lo:Nat)),bB (.int (hi:Nat)),bB (.int ((l+W+r:Nat):Int)),bB (.list ((Kk hi (Kk (l+W+r) 46)++done.map λq=>Kk l 46++q++Kk r 46).map eX)),o]) R [bB (eR R),bB (.int (l:Nat)),bB (.int (r:Nat)),bB (.int (lo:Nat)),bB (.int (hi:Nat)),bB (.int ((l+W+r:Nat):Int)),bB (.list ((Kk hi (Kk (l+W+r) 46)).map eX)),bC] ⟨bC,by simp⟩ (by
   rintro a ha done ρ e8 ⟨o,rfl⟩
   have hw:=hRw a ha
   have a1:=addX (a:=Kk l 46) (b:=a) (by rw[Vj];omega)
   have a2:=addX (a:=Kk l 46++a) (b:=Kk r 46) (by rw[Kr,Vj,Vj];omega)
   have hz:((Kk hi (Kk (l+W+r) 46)++done.map λq=>Kk l 46++q++Kk r 46).map eX).length<1000:=by rw[Kc,Kr,Vj,Kc];omega
   refine⟨_,?_,bB (eX a),rfl⟩
   simp_arith [ml,mr,a1,a2,hz]
   simp only[Kw,Km,V9,VG])
 have oY:((Kk hi (Kk (l+W+r) 46)++R.map λq=>Kk l 46++q++Kk r 46).map eX).length+((Kk lo (Kk (l+W+r) 46)).map eX).length<=1000:=by
  rw[Kc,Kr,Vj,Kc,Kc,Vj];omega
 have ad:Zm (.list ((Kk hi (Kk (l+W+r) 46)++R.map λq=>Kk l 46++q++Kk r 46).map eX)) (.list ((Kk lo (Kk (l+W+r) 46)).map eX))=bB (.list ((Kk hi (Kk (l+W+r) 46)++R.map λq=>Kk l 46++q++Kk r 46).map eX++(Kk lo (Kk (l+W+r) 46)).map eX)):=by
  show(if _ then _ else bC)=_
  rw[si oY]
 have hh:((Ku hi).map λk:Nat=>Kt (k:Nat)).length<=1000:=by rw[Kc,KR];omega
 have nF:((Ku lo).map λk:Nat=>Kt (k:Nat)).length<=1000:=by rw[Kc,KR];omega
 have sq:seqD (eR R)=bB (R.map eX):=rfl
 have e:Z9 (rho0 Za.length [eR R,.int (l:Nat),.int (r:Nat),.int (lo:Nat),.int (hi:Nat)])=bB (.rt (eR (Kk hi (Kk (l+W+r) 46)++R.map (λq=>Kk l 46++q++Kk r 46)++Kk lo (Kk (l+W+r) 46)))):=by
  unfold Z9
  refine za (ρ':=[bB (eR R),bB (.int (l:Nat)),bB (.int (r:Nat)),bB (.int (lo:Nat)),bB (.int (hi:Nat)),bB (.int ((l+W+r:Nat):Int)),bC,bC]) (by simp_arith [Wc,z0,z1,ew]) ?_
  refine za (ρ':=[bB (eR R),bB (.int (l:Nat)),bB (.int (r:Nat)),bB (.int (lo:Nat)),bB (.int (hi:Nat)),bB (.int ((l+W+r:Nat):Int)),bB (.list ((Kk hi (Kk (l+W+r) 46)).map eX)),bC]) (by simp_arith [-L2.Q7,rh,hh,lJ]) ?_
  refine za (ρ':=[bB (eR R),bB (.int (l:Nat)),bB (.int (r:Nat)),bB (.int (lo:Nat)),bB (.int (hi:Nat)),bB (.int ((l+W+r:Nat):Int)),bB (.list ((Kk hi (Kk (l+W+r) 46)++R.map λq=>Kk l 46++q++Kk r 46).map eX)),o]) (by simp_arith [sq,l1]) ?_
  simp_arith [-L2.Q7,rl,nF,lJ,ad]
  unfold eR
  rw[Kw (l₁:=Kk hi (Kk (l+W+r) 46)++R.map λq=>Kk l 46++q++Kk r 46)]
 unfold Zc
 rw[e]
 rfl
theorem fit8 {n:Nat}(h1:n%2=1)(h2:n<=61):Ju [.int (n:Nat)]=bB (.bool bD):=by
 have e0:((n:Nat):Int)%2=1:=by omega
 have e1:(((n:Nat):Int)%2==1)=bD:=by rw[e0];rfl
 have mc:qbQ=.int 61:=rfl
 have d1:decide (((n:Nat):Int)<=61)=bD:=sh '#'
 delta Ju qaJ
 simp_arith [e1,mc,d1]
theorem qdT {g:bu}{y1:Int}{W H:Nat}{r c:Int}(hW:W<=900)(r0:0<=r)(r1:r<(H:Nat))(c0:0<=c)(c1:c<(W:Nat)):Jv [eR (pic g 0 y1 W H),.tuple [.int r,.int c]]=bB (eX [g (c,y1-r)]):=by
 have z1:=qaC (g:=g) (x0:=0) (y1:=y1) (W:=W) r0 r1
 have z2:=qkc (g:=g) (x0:=0) (y:=y1-r) hW c0 c1
 rw[Int.zero_add]at z2
 have i0:ixSD (.tuple [.int r,.int c]) (.int 0)=bB (.int r):=rfl
 have i1:ixSD (.tuple [.int r,.int c]) (.int 1)=bB (.int c):=rfl
 delta Jv w5
 simp_arith [i0,i1,z1,z2]
theorem qcT {g:bu}{x0 y1:Int}{W H:Nat}(r c:Int):ZW [eR (pic g x0 y1 W H),.tuple [.int r,.int c]]=bB (eC (c / 2,((H:Nat)-1-r) / 2)):=by
 have z:lenD [eR (pic g x0 y1 W H)]=bB (.int (H:Nat)):=by
  show bB (Kt (((pic g x0 y1 W H).map eX).length:Nat))=_
  rw[Kc,QD,Kc,KR]
 delta ZW wY
 simp_arith [z]
 rfl
theorem qgR (r c:Int):Zq [.int r,.int c]=bB (.list (if r%2=0/\c%2=0 then [.tuple [.int r,.int c]] else if r%2=0 then [.tuple [.int r,.int (c-1)],.tuple [.int r,.int (c+1)]] else if c%2=0 then [.tuple [.int (r-1),.int c],.tuple [.int (r+1),.int c]] else [])):=by
 rcases(by omega:r%2=0\/r%2=1) with a|a<;>rcases(by omega:c%2=0\/c%2=1) with b|b
 .have e1:(r%2==0)=bD:=by rw[a];rfl
  have e2:(c%2==0)=bD:=by rw[b];rfl
  rw[si ⟨a,b⟩]
  delta Zq jB
  simp_arith [e1,e2]
 .have e1:(r%2==0)=bD:=by rw[a];rfl
  have e2:(c%2==0)=bE:=by rw[b];rfl
  rw[sk '#',si a]
  delta Zq jB
  simp_arith [e1,e2]
 .have e1:(r%2==0)=bE:=by rw[a];rfl
  have e2:(c%2==0)=bD:=by rw[b];rfl
  rw[sk '#',sk '#',si b]
  delta Zq jB
  simp_arith [e1,e2]
 .have e1:(r%2==0)=bE:=by rw[a];rfl
  have e2:(c%2==0)=bE:=by rw[b];rfl
  rw[sk '#',sk '#',sk '#']
  delta Zq jB
  simp_arith [e1,e2]
theorem ql6 (a:Ka):je [.list [a]]=bB (.str (Kn "#")):=rfl
theorem qii (a b:Ka):je [.list [a,b]]=bB (.str (Kn "v+^")):=rfl
theorem hasC:qdq (eX [35]) (.str (Kn "#"))=bB (.bool bE):=by
 rw[e35]
 show bB (VI (!(!(KM (tx [35]) ⟨#[35]⟩ 0 (tx [35]).length 1).isEmpty)))=_
 rw[StrLaws.found_one,yJ]
 rfl
theorem hasJ {v:Int}(h:-1<=v/\v<=1):qdq (eX [bch v]) (.str (Kn "v+^"))=bB (.bool bE):=by
 rw[evb]
 show bB (VI (!(!(KM (tx [118,43,94]) ⟨#[bch v]⟩ 0 (tx [118,43,94]).length 1).isEmpty)))=_
 rw[StrLaws.found_one,yJ]
 have:v=-1\/v=0\/v=1:=by omega
 rcases this with rfl|rfl|rfl<;>rfl
theorem idxJ {v:Int}(h:-1<=v/\v<=1):wA (.str (Kn "v+^")) (eX [bch v])=bB (.int (v+1)):=by
 rw[evb]
 have:v=-1\/v=0\/v=1:=by omega
 have o0:KM (tx [118,43,94]) (tx [118]) 0 (tx [118,43,94]).length 1=[0]:=by decide +kernel
 have o1:KM (tx [118,43,94]) (tx [43]) 0 (tx [118,43,94]).length 1=[1]:=by decide +kernel
 have o2:KM (tx [118,43,94]) (tx [94]) 0 (tx [118,43,94]).length 1=[2]:=by decide +kernel
 rcases this with rfl|rfl|rfl
 .show(match KM (tx [118,43,94]) (tx [118]) 0 (tx [118,43,94]).length 1 with | i::_=>bB (Kt (i:Nat))|[]=>bC)=_
  rw[o0];rfl
 .show(match KM (tx [118,43,94]) (tx [43]) 0 (tx [118,43,94]).length 1 with | i::_=>bB (Kt (i:Nat))|[]=>bC)=_
  rw[o1];rfl
 .show(match KM (tx [118,43,94]) (tx [94]) 0 (tx [118,43,94]).length 1 with | i::_=>bB (Kt (i:Nat))|[]=>bC)=_
  rw[o2];rfl
theorem qbA {α:Type}(f:α->Ce){l:List α}{Q:aB}(hQ:Q.Nodup)(hl:l.Nodup)(inj:∀a∈l,∀b∈l,f a=f b->a=b)(cR:∀a∈l,f a∈Q):(Q.filterMap λq=>l.find? λa=>decide (f a=q)).Perm l:=by
 have nd:(Q.filterMap λq=>l.find? λa=>decide (f a=q)).Nodup:=List.Pairwise.filterMap _ (λq q' hq b hb b' du e=>by
  have h1:f b=q:=by simpa using XC hb
  have h2:f b'=q':=by simpa using XC du
  exact hq (by rw[←h1,←h2,e])) hQ
 refine(List.perm_ext_iff_of_nodup nd hl).mpr λa=>⟨λh=>?_,λh=>?_⟩
 .obtain⟨q,-,e⟩:=X4.mp h
  exact UG e
 .refine X4.mpr ⟨f a,cR a h,?_⟩
  cases e:l.find? (λb=>decide (f b=f a)) with
  |none=>exact absurd (VP.mp e a h) '+'
  |some b =>
   have h1:f b=f a:=by simpa using XC e
   rw[inj b (UG e) a h h1]
theorem qfc:∀{K:aI},(K.map (·.1)).Nodup->∀p∈K,∀q∈K,p.1=q.1->p=q
 |[],_,p,hp,_,_,_=>by cases hp
 |k::K,h,p,hp,q,hq,e=>by
  rw[Km,VZ]at h
  rcases Ko.mp hp with a|a<;>rcases Ko.mp hq with b|b
  .rw[a,b]
  .exact absurd (Kl.mpr ⟨q,b,by rw[←e,a]⟩) h.1
  .exact absurd (Kl.mpr ⟨p,a,by rw[e,b]⟩) h.1
  .exact qfc h.2 p a q b e
theorem qbr {α β:Type}{f:α->β}:∀{l:List α},(l.map f).Nodup->l.Nodup
 |[],_=>UU
 |a::l,h=>by
  rw[Km,VZ]at h
  exact VZ.mpr ⟨λz=>h.1 (Kl.mpr ⟨a,z,rfl⟩),qbr h.2⟩
theorem qfN {α:Type}(enc:α->Ka){g:af}{u:ak}(I:List α->Rho->Prop)(all:List α)(ρ:Rho)(h0:I [] ρ)(step:∀a done rest ρ,all=done++a::rest->I done ρ->∃ ρ',(ob (g (enc a) ρ) u=bB (.nx ρ')\/ob (g (enc a) ρ) u=bB (.ct ρ'))/\I (done++[a]) ρ'):
  ∃ ρ',forD g u (all.map enc) ρ=bB (.nx ρ')/\I all ρ':=by
 have key:∀(as done:List α) (ρ:Rho),all=done++as->I done ρ->∃ ρ',forD g u (as.map enc) ρ=bB (.nx ρ')/\I all ρ':=by
  intro as
  induction as with
  |nil=>intro done ρ e h;rw[Vw]at e;subst e;exact⟨ρ,rfl,h⟩
  |cons a as ih =>
   intro done ρ e h
   obtain⟨ρ1,e1,h1⟩:=step a done as ρ e h
   obtain⟨ρ2,e2,h2⟩:=ih (done++[a]) ρ1 (by rw[e,VG];rfl) h1
   refine⟨ρ2,?_,h2⟩
   rcases e1 with e1|e1
   .rw[Km,qae,e1,WL]
    exact e2
   .rw[Km,qae,e1,qe6]
    exact e2
 exact key all [] ρ rfl h0
theorem qd3 (v:Int):bch v<256/\bch v≠46/\bch v≠35/\bch v≠47:=by
 unfold bch
 split
 .decide
 .split<;>decide
theorem sg_lt (C:aB)(K:aI)(q:Ce):sgA (sgs C K) q<256/\sgA (sgs C K) q≠47:=by
 rcases qdR (sgs C K) q with ⟨e,-⟩|⟨p,hp,-,e⟩
 .rw[e];decide
 .rw[e]
  unfold sgs at hp
  rcases K6.mp hp with y|y
  .obtain⟨c,-,rfl⟩:=Kl.mp y
   show 35<256/\35≠47
   decide
  .obtain⟨p,-,rfl⟩:=Kl.mp y
   exact⟨(qd3 p.2).1,(qd3 p.2).2.2.2⟩
theorem eqN {a:Nat}(h:a<256):eqD (eX [a]) (.str (Kn "."))=bB (.bool (decide (a=46))):=by rw[e46];exact qke h '%'
theorem eqH {a:Nat}(h:a<256):eqD (eX [a]) (.str (Kn "#"))=bB (.bool (decide (a=35))):=by rw[e35];exact qke h '%'
def tj (p:Jn):Tj:=if p.1.2=(p.1.1.1+1,p.1.1.2) then (p.1.1,p.1.2,p.2) else (p.1.2,p.1.1,p.2)
theorem qkk {p:Jn}(h:Adj p.1.1 p.1.2):nt (tj p)=p/\(Adj (tj p).1 (tj p).2.1\/Adj (tj p).2.1 (tj p).1):=by
 have n:=qel p.2 h
 unfold tj
 split
 .exact⟨n.1,.inl h⟩
 .exact⟨n.2,.inr h⟩
section
variable {C:aB}{K:aI}{W H:Nat}
abbrev Pc (C:aB)(K:aI)(W H:Nat):Ka:=eR (pic (sgA (sgs C K)) 0 ((H:Nat)-1) W H)
theorem sgn8 (hW:W<=900){r c:Nat}(hr:r<H)(hc:c<W):ixSD (Pc C K W H) (.int (r:Nat))=bB (eX (rowP (sgA (sgs C K)) 0 ((H:Nat)-1-(r:Nat)) W))/\ixSD (eX (rowP (sgA (sgs C K)) 0 ((H:Nat)-1-(r:Nat)) W)) (.int (c:Nat))=bB (eX [sgA (sgs C K) ((c:Nat),(H:Nat)-1-(r:Nat))]):=by
 refine⟨qaC '#' '#',?_⟩
 have:=qkc (g:=sgA (sgs C K)) (x0:=0) (y:=(H:Nat)-1-(r:Nat)) (W:=W) (k:=(c:Nat)) hW '#' '#'
 rwa[Int.zero_add]at this
theorem seenA (rt:Rt C K)(hH:H%2=1)(hW:W<=61){r c:Nat}(hr:r<H)(hc:c<W){a:Ce}(ha:a∈C)(ea:(sC a).1=(((c:Nat):Int),(H:Nat)-1-((r:Nat):Int))){X Y:ae}(hX:X.length<1000)(o5 o6:aE):
  ∃p5 p6,yu [bB (Pc C K W H),bB (.list X),bB (.list Y),bB (.int (r:Nat)),bB (.int (c:Nat)),o5,o6]=bB (.nx [bB (Pc C K W H),bB (.list (X++[eC a])),bB (.list Y),bB (.int (r:Nat)),bB (.int (c:Nat)),p5,p6]):=by
 obtain⟨z1,z2⟩:=sgn8 (C:=C) (K:=K) (H:=H) (by omega:W<=900) hr hc
 have sg:sgA (sgs C K) (((c:Nat):Int),(H:Nat)-1-((r:Nat):Int))=35:=by
  rw[←ea]
  exact qdS (p:=sC a) rt.nd (by unfold sgs;exact Vi _ (Kl.mpr ⟨a,ha,rfl⟩))
 obtain⟨e1,e2⟩:=UJ ea
 have s1:=qdT (g:=sgA (sgs C K)) (y1:=(H:Nat)-1) (W:=W) (H:=H) (r:=(r:Nat)) (c:=(c:Nat)) '#' '#' '#' '#' '#'
 rw[sg]at z2 s1
 have n1:=eqN (a:=35) '%'
 have h1:=eqH (a:=35) '%'
 have d1:decide (35=46)=bE:=by decide
 have d2:decide (35=35)=bD:=by decide
 rw[d1]at n1
 rw[d2]at h1
 have en:=qgR (r:Nat) (c:Nat)
 rw[si '#']at en
 have cl:=qcT (g:=sgA (sgs C K)) (x0:=0) (y1:=(H:Nat)-1) (W:=W) (H:=H) (r:Nat) (c:Nat)
 have ec:((((c:Nat):Int) / 2,((H:Nat)-1-((r:Nat):Int)) / 2):Ce)=a:=V0 '*' '*'
 rw[ec]at cl
 have sf:=ql6 (.tuple [.int (r:Nat),.int (c:Nat)])
 have hc:=hasC
 have i0:ixSD (.list [.tuple [.int (r:Nat),.int (c:Nat)]]) (.int 0)=bB (.tuple [.int (r:Nat),.int (c:Nat)]):=rfl
 have al:allD [.list [.bool bD]]=bB (.bool bD):=rfl
 refine⟨bB (eX [35]),bB (.list [.tuple [.int (r:Nat),.int (c:Nat)]]),?_⟩
 simp_arith [z1,z2,dNo,n1,en,sf,hc,s1,al,qeZ,h1,i0,cl,hX]
theorem seenB (rt:Rt C K)(hH:H%2=1)(hW:W<=61)(hb:∀c∈C,0<=c.1/\2*c.1<(W:Nat)/\0<=c.2/\2*c.2<(H:Nat)){r c:Nat}(hr:r<H)(hc:c<W){p:Jn}(hp:p∈K)(ea:(sJ p).1=(((c:Nat):Int),(H:Nat)-1-((r:Nat):Int))){X Y:ae}(hY:Y.length<1000)(o5 o6:aE):
  ∃p5 p6,yu [bB (Pc C K W H),bB (.list X),bB (.list Y),bB (.int (r:Nat)),bB (.int (c:Nat)),o5,o6]=bB (.nx [bB (Pc C K W H),bB (.list X),bB (.list (Y++[eT (tj p)])),bB (.int (r:Nat)),bB (.int (c:Nat)),p5,p6]):=by
 obtain⟨z1,z2⟩:=sgn8 (C:=C) (K:=K) (H:=H) (by omega:W<=900) hr hc
 obtain⟨ka,kb,kc,kv⟩:=rt.km p hp
 have sg:sgA (sgs C K) (((c:Nat):Int),(H:Nat)-1-((r:Nat):Int))=bch p.2:=by
  rw[←ea]
  exact qdS (p:=sJ p) rt.nd (by unfold sgs;exact K5 _ (Kl.mpr ⟨p,hp,rfl⟩))
 rw[sg]at z2
 have sc:∀{a:Ce},a∈C->∀{q:Ce},q=(2*a.1,2*a.2)->sgA (sgs C K) q=35:=λ{a} ha {q} e=>by
  rw[e]
  exact qdS (p:=sC a) rt.nd (by unfold sgs;exact Vi _ (Kl.mpr ⟨a,ha,rfl⟩))
 obtain⟨bl,b46,oh,-⟩:=qd3 p.2
 have n1:=eqN bl
 have h1:=eqH bl
 rw[se b46]at n1
 rw[se oh]at h1
 have hh:=eqH (a:=35) '%'
 have d2:decide (35=35)=bD:=by decide
 rw[d2]at hh
 have hj:=hasJ kv
 have ix:=idxJ kv
 have al:allD [.list [.bool bD,.bool bD]]=bB (.bool bD):=rfl
 have ba:=hb _ ka
 have bb:=hb _ kb
 have e1:(sJ p).1.1=((c:Nat):Int):=by rw[ea]
 have e2:(sJ p).1.2=(H:Nat)-1-((r:Nat):Int):=by rw[ea]
 have bv:p.2+1-1=p.2:=by omega
 rcases qaD kc with ⟨f1,f2,f3⟩|⟨f1,f2,f3⟩
 .have f4:p.1.2.1=p.1.1.1+1:=by rw[f3]
  have f5:p.1.2.2=p.1.1.2:=by rw[f3]
  have et:eT (tj p)=.tuple [eC p.1.1,eC p.1.2,.int p.2]:=by unfold tj;rw[si f3];rfl
  have en:=qgR (r:Nat) (c:Nat)
  rw[sk '#',si '#']at en
  have s1:=qdT (g:=sgA (sgs C K)) (y1:=(H:Nat)-1) (W:=W) (H:=H) (r:=(r:Nat)) (c:=(c:Nat)-1) '#' '#' '#' '#' '#'
  have s2:=qdT (g:=sgA (sgs C K)) (y1:=(H:Nat)-1) (W:=W) (H:=H) (r:=(r:Nat)) (c:=(c:Nat)+1) '#' '#' '#' '#' '#'
  rw[sc ka (V0 '*' '*')]at s1
  rw[sc kb (V0 '*' '*')]at s2
  have lL:=qcT (g:=sgA (sgs C K)) (x0:=0) (y1:=(H:Nat)-1) (W:=W) (H:=H) (r:Nat) ((c:Nat)-1)
  have kH:=qcT (g:=sgA (sgs C K)) (x0:=0) (y1:=(H:Nat)-1) (W:=W) (H:=H) (r:Nat) ((c:Nat)+1)
  rw[show(((((c:Nat):Int)-1) / 2,((H:Nat)-1-((r:Nat):Int)) / 2):Ce)=p.1.1 from V0 '*' '*']at lL
  rw[show(((((c:Nat):Int)+1) / 2,((H:Nat)-1-((r:Nat):Int)) / 2):Ce)=p.1.2 from V0 '*' '*']at kH
  have sf:=qii (.tuple [.int (r:Nat),.int ((c:Nat)-1)]) (.tuple [.int (r:Nat),.int ((c:Nat)+1)])
  have i0:ixSD (.list [.tuple [.int (r:Nat),.int ((c:Nat)-1)],.tuple [.int (r:Nat),.int ((c:Nat)+1)]]) (.int 0)=bB (.tuple [.int (r:Nat),.int ((c:Nat)-1)]):=rfl
  have i1:ixSD (.list [.tuple [.int (r:Nat),.int ((c:Nat)-1)],.tuple [.int (r:Nat),.int ((c:Nat)+1)]]) (.int 1)=bB (.tuple [.int (r:Nat),.int ((c:Nat)+1)]):=rfl
  refine⟨bB (eX [bch p.2]),bB (.list [.tuple [.int (r:Nat),.int ((c:Nat)-1)],.tuple [.int (r:Nat),.int ((c:Nat)+1)]]),?_⟩
  rw[et]
  simp_arith [z1,z2,dNo,n1,en,sf,hj,s1,s2,hh,al,qeZ,h1,i0,i1,lL,kH,dJo,ix,bv,hY]
 .have f4:p.1.2.1=p.1.1.1:=by rw[f3]
  have f5:p.1.2.2=p.1.1.2+1:=by rw[f3]
  have et:eT (tj p)=.tuple [eC p.1.2,eC p.1.1,.int p.2]:=by
   unfold tj
   rw[sk (λz=>by have:=congrArg Prod.fst z;dsimp only at this;omega)]
   rfl
  have en:=qgR (r:Nat) (c:Nat)
  rw[sk '#',sk '#',si '#']at en
  have s1:=qdT (g:=sgA (sgs C K)) (y1:=(H:Nat)-1) (W:=W) (H:=H) (r:=(r:Nat)-1) (c:=(c:Nat)) '#' '#' '#' '#' '#'
  have s2:=qdT (g:=sgA (sgs C K)) (y1:=(H:Nat)-1) (W:=W) (H:=H) (r:=(r:Nat)+1) (c:=(c:Nat)) '#' '#' '#' '#' '#'
  rw[sc kb (V0 '*' '*')]at s1
  rw[sc ka (V0 '*' '*')]at s2
  have lL:=qcT (g:=sgA (sgs C K)) (x0:=0) (y1:=(H:Nat)-1) (W:=W) (H:=H) ((r:Nat)-1) (c:Nat)
  have kH:=qcT (g:=sgA (sgs C K)) (x0:=0) (y1:=(H:Nat)-1) (W:=W) (H:=H) ((r:Nat)+1) (c:Nat)
  rw[show((((c:Nat):Int) / 2,((H:Nat)-1-(((r:Nat):Int)-1)) / 2):Ce)=p.1.2 from V0 '*' '*']at lL
  rw[show((((c:Nat):Int) / 2,((H:Nat)-1-(((r:Nat):Int)+1)) / 2):Ce)=p.1.1 from V0 '*' '*']at kH
  have sf:=qii (.tuple [.int ((r:Nat)-1),.int (c:Nat)]) (.tuple [.int ((r:Nat)+1),.int (c:Nat)])
  have i0:ixSD (.list [.tuple [.int ((r:Nat)-1),.int (c:Nat)],.tuple [.int ((r:Nat)+1),.int (c:Nat)]]) (.int 0)=bB (.tuple [.int ((r:Nat)-1),.int (c:Nat)]):=rfl
  have i1:ixSD (.list [.tuple [.int ((r:Nat)-1),.int (c:Nat)],.tuple [.int ((r:Nat)+1),.int (c:Nat)]]) (.int 1)=bB (.tuple [.int ((r:Nat)+1),.int (c:Nat)]):=rfl
  refine⟨bB (eX [bch p.2]),bB (.list [.tuple [.int ((r:Nat)-1),.int (c:Nat)],.tuple [.int ((r:Nat)+1),.int (c:Nat)]]),?_⟩
  rw[et]
  simp_arith [z1,z2,dNo,n1,en,sf,hj,s1,s2,hh,al,qeZ,h1,i0,i1,lL,kH,dJo,ix,bv,hY]
theorem seenC (hW:W<=61){r c:Nat}(hr:r<H)(hc:c<W)(sg:sgA (sgs C K) (((c:Nat):Int),(H:Nat)-1-((r:Nat):Int))=46){X Y:ae}(o5 o6:aE):
  yu [bB (Pc C K W H),bB (.list X),bB (.list Y),bB (.int (r:Nat)),bB (.int (c:Nat)),o5,o6]=bB (.ct [bB (Pc C K W H),bB (.list X),bB (.list Y),bB (.int (r:Nat)),bB (.int (c:Nat)),bB (eX [46]),o6]):=by
 obtain⟨z1,z2⟩:=sgn8 (C:=C) (K:=K) (H:=H) (by omega:W<=900) hr hc
 rw[sg]at z2
 have n1:=eqN (a:=46) '%'
 have d1:decide (46=46)=bD:=by decide
 rw[d1]at n1
 simp_arith [z1,z2,dNo,n1]
end
theorem qkB {α:Type}(l:List α):anyD [.list (l.map λ_=>VI bE)]=bB (.bool bE):=by
 have h:∃bs:List Bool,boolsOf (l.map λ_=>VI bE)=bB bs/\bs.any id=bE:=by
  induction l with
  |nil=>exact⟨[],rfl,rfl⟩
  |cons a l ih =>
   obtain⟨bs,e,f⟩:=ih
   refine⟨bE::bs,?_,by rw[UA,f];rfl⟩
   show ob (boolsOf (l.map λ_=>VI bE)) (λns=>bB (bE::ns))=_
   rw[e];rfl
 obtain⟨bs,e,f⟩:=h
 show ob (boolsOf (l.map λ_=>VI bE)) (λbs=>bB (VI (bs.any id)))=_
 rw[e]
 show bB (VI (bs.any id))=_
 rw[f]
theorem qkj (g:bu)(x0 y1:Int)(W H:Nat):jW [eR (pic g x0 y1 W H)]=bB (.int (H:Nat)):=by
 show bB (Kt (((pic g x0 y1 W H).map eX).length:Nat))=_
 rw[Kc,QD,Kc,KR]
theorem qjU {g:bu}{x0 y1:Int}{W H:Nat}(w1:W%2=1)(w2:W<=61)(h1:H%2=1)(h2:H<=61):zT [eR (pic g x0 y1 W H)]=bB .none:=by
 have z1:=qkj g x0 y1 W H
 have fh:=fit8 h1 h2
 have fw:=fit8 w1 w2
 have z0:=qaC (g:=g) (x0:=x0) (y1:=y1) (W:=W) (H:=H) (k:=0) '#' '#'
 have z2:=qfi (l:=rowP g x0 (y1-0) W) (by rw[Z8];omega)
 rw[Z8]at z2
 have hR:∀q∈pic g x0 y1 W H,q.length=W:=λq hq=>by
  rw[QD]at hq
  obtain⟨k,-,rfl⟩:=Kl.mp hq
  exact Z8 _ _ _ _
 have hl:((pic g x0 y1 W H).map eX).length<=1000:=by rw[Kc,QD,Kc,KR];omega
 have nn:neD (.int (W:Nat)) (.int (W:Nat))=bB (.bool bE):=by
  show bB (VI (!(((W:Nat):Int)==((W:Nat):Int))))=_
  rw[tE];rfl
 obtain⟨R,hRe⟩:∃R,R=pic g x0 y1 W H:=⟨_,rfl⟩
 rw[←hRe]at z1 z0 hR hl ⊢
 have cp:Qv tT (ev2 (evA (aC (vr 1) aN) jW) (evA (aC (ev2 (vr 0) (kd (.int 0)) ixSD) aN) jW) neD) [bB (eR R)] (R.map eX)=bB (R.map λ_=>VI bE):=Qz eX _ R λq hq=>by
  have z3:=qfi (l:=q) (by rw[hR q hq];omega)
  rw[hR q hq]at z3
  simp_arith [z0,z2,z3,nn]
 have sq:seqD (eR R)=bB (R.map eX):=rfl
 have an:=qkB R
 delta zT QX
 simp_arith [z1,fh,z0,z2,fw,sq,hl,cp,an]
def rowQ (W H:Nat)(r:Nat):List Ce:=(Ku W).map λc:Nat=>(((c:Nat):Int),(H:Nat)-1-((r:Nat):Int))
theorem Q_nd (W H:Nat):((Ku H).flatMap (rowQ W H)).Nodup:=by
 refine List.pairwise_flatMap.mpr ⟨λr _=>?_,?_⟩
 .unfold rowQ
  exact List.nodup_range.map _ λa b z y=>z (by have:=(UJ y).1;omega)
 .refine List.nodup_range.imp_of_mem λ{a b} _ _ hab x hx y hy e=>?_
  unfold rowQ at hx hy
  obtain⟨c,-,rfl⟩:=Kl.mp hx
  obtain⟨d,-,rfl⟩:=Kl.mp hy
  have:=(UJ e).2
  exact hab '#'
theorem qgs {W H:Nat}{x y:Int}(x0:0<=x)(x1:x<(W:Nat))(y0:0<=y)(y1:y<(H:Nat)):(x,y)∈(Ku H).flatMap (rowQ W H):=by
 refine List.mem_flatMap.mpr ⟨((H:Nat)-1-y).toNat,VX.mpr '#',?_⟩
 unfold rowQ
 exact Kl.mpr ⟨x.toNat,VX.mpr '#',V0 '*' '*'⟩
def fcq (C:aB)(q:Ce):Option Ce:=C.find? λa=>decide ((sC a).1=q)
def fjq (K:aI)(q:Ce):Option Jn:=K.find? λp=>decide ((sJ p).1=q)
theorem qks {C:aB}{K:aI}{W H:Nat}(rt:Rt C K)(cn:Conn C K)(hC0:0<C.length)(hC:C.length<=26)(hK:K.length<=60)(hb:∀c∈C,0<=c.1/\2*c.1<(W:Nat)/\0<=c.2/\2*c.2<(H:Nat))(w1:W%2=1)(w2:W<=61)(h1:H%2=1)(h2:H<=61)
  {S:aB} {J:List Sp} (pS:S.Perm C) (rS:RisC S) (pJ:J.Perm (K.map (jn S))) (rJ:RisS J):JK [Pc C K W H]=bB (.tuple [.list (S.map eC),.list (J.map eS)]):=by
 have rf:=qjU (g:=sgA (sgs C K)) (x0:=0) (y1:=(H:Nat)-1) w1 w2 h1 h2
 have z1:=qkj (sgA (sgs C K)) 0 ((H:Nat)-1) W H
 have z0:=qaC (g:=sgA (sgs C K)) (x0:=0) (y1:=(H:Nat)-1) (W:=W) (H:=H) (k:=0) '#' '#'
 have z2:=qfi (l:=rowP (sgA (sgs C K)) 0 ((H:Nat)-1-0) W) (by rw[Z8];omega)
 rw[Z8]at z2
 have rW:=Wn (n:=W) '#'
 have rH:=Wn (n:=H) '#'
 obtain⟨Q,hQ⟩:∃Q,Q=(Ku H).flatMap (rowQ W H):=⟨_,rfl⟩
 have hbj:∀p∈K,(sJ p).1∈Q:=λp hp=>by
  obtain⟨ka,kb,kc,-⟩:=rt.km p hp
  have qa:=hb _ ka
  have qb:=hb _ kb
  rw[hQ]
  rcases qaD kc with ⟨f1,f2,f3⟩|⟨f1,f2,f3⟩
  .have f4:p.1.2.1=p.1.1.1+1:=by rw[f3]
   exact qgs (x:=(sJ p).1.1) (y:=(sJ p).1.2) '#' '#' '#' '#'
  .have f4:p.1.2.2=p.1.1.2+1:=by rw[f3]
   exact qgs (x:=(sJ p).1.1) (y:=(sJ p).1.2) '#' '#' '#' '#'
 have hbc:∀c∈C,(sC c).1∈Q:=λc hc=>by
  have q:=hb _ hc
  rw[hQ]
  exact qgs (x:=2*c.1) (y:=2*c.2) '#' '#' '#' '#'
 have pC:(Q.filterMap (fcq C)).Perm C:=qbA (λa=>(sC a).1) (by rw[hQ];exact Q_nd W H) rt.fn (λa _ b _ e=>qcy e) hbc
 have pK:(Q.filterMap (fjq K)).Perm K:=qbA (λp=>(sJ p).1) (by rw[hQ];exact Q_nd W H) (qbr rt.kn) (λa ha b hb e=>qfc rt.kn a ha b hb (qcz (rt.km a ha).2.2.1 (rt.km b hb).2.2.1 e)) hbj
 obtain⟨ρ1,l1,o3,o4,o5,o6,rfl⟩:=jJ (λk:Nat=>Kt (k:Nat)) (g:=gNm 3) (u:=qcO)
  (λdone ρ=>∃o3 o4 o5 o6:Option Ka,ρ=[bB (Pc C K W H),bB (.list (((done.flatMap (rowQ W H)).filterMap (fcq C)).map eC)),bB (.list ((((done.flatMap (rowQ W H)).filterMap (fjq K)).map tj).map eT)),o3,o4,o5,o6]) (Ku H) [bB (Pc C K W H),bB (.list []),bB (.list []),bC,bC,bC,bC] ⟨bC,bC,bC,bC,rfl⟩ (by
   rintro r done rest ρ dj ⟨o3,o4,o5,o6,rfl⟩
   have hr:r<H:=VX.mp (by rw[dj];simp)
   have pP:Q=done.flatMap (rowQ W H)++(rowQ W H r++rest.flatMap (rowQ W H)):=by rw[hQ,dj,List.flatMap_append,List.flatMap_cons]
   generalize hD:done.flatMap (rowQ W H)=D at pP
   obtain⟨ρ2,l2,p4,p5,p6,rfl⟩:=qfN (λk:Nat=>Kt (k:Nat)) (g:=gNm 4) (u:=yu)
    (λdn ρ=>∃p4 p5 p6:Option Ka,ρ=[bB (Pc C K W H),bB (.list (((D++dn.map λc:Nat=>(((c:Nat):Int),(H:Nat)-1-((r:Nat):Int))).filterMap (fcq C)).map eC)),bB (.list ((((D++dn.map λc:Nat=>(((c:Nat):Int),(H:Nat)-1-((r:Nat):Int))).filterMap (fjq K)).map tj).map eT)),bB (.int (r:Nat)),p4,p5,p6]) (Ku W) [bB (Pc C K W H),bB (.list ((D.filterMap (fcq C)).map eC)),bB (.list (((D.filterMap (fjq K)).map tj).map eT)),bB (.int (r:Nat)),o4,o5,o6] ⟨o4,o5,o6,by simp⟩ (by
     rintro c dn rs ρ lM ⟨p4,p5,p6,rfl⟩
     have hc:c<W:=VX.mp (by rw[lM];simp)
     have oi:Q=(D++dn.map λc:Nat=>(((c:Nat):Int),(H:Nat)-1-((r:Nat):Int)))++((((c:Nat):Int),(H:Nat)-1-((r:Nat):Int))::(rs.map λc:Nat=>(((c:Nat):Int),(H:Nat)-1-((r:Nat):Int)))++rest.flatMap (rowQ W H)):=by
      rw[pP]
      have:rowQ W H r=dn.map (λc:Nat=>(((c:Nat):Int),(H:Nat)-1-((r:Nat):Int)))++(((c:Nat):Int),(H:Nat)-1-((r:Nat):Int))::rs.map (λc:Nat=>(((c:Nat):Int),(H:Nat)-1-((r:Nat):Int))):=by
       unfold rowQ
       rw[lM,Kw,Km]
      rw[this]
      simp only[VG,List.cons_append]
     rw[Kw (l₁:=dn),←VG]
     generalize hE:(D++dn.map λc:Nat=>(((c:Nat):Int),(H:Nat)-1-((r:Nat):Int)))=E at oi
     have lC:(E.filterMap (fcq C)).length<=26:=by
      have:=pC.length_eq
      rw[oi,XR,Kr]at this
      omega
     have lK:(E.filterMap (fjq K)).length<=60:=by
      have:=pK.length_eq
      rw[oi,XR,Kr]at this
      omega
     have hX:((E.filterMap (fcq C)).map eC).length<1000:=by rw[Kc];omega
     have hY:(((E.filterMap (fjq K)).map tj).map eT).length<1000:=by rw[Kc,Kc];omega
     rw[XR,XR,Kw,Kw,Kw]
     have one:∀{β:Type} (f:Ce->Option β),List.filterMap f ([c].map (λc:Nat=>(((c:Nat):Int),(H:Nat)-1-((r:Nat):Int))))=(f (((c:Nat):Int),(H:Nat)-1-((r:Nat):Int))).toList:=λf=>by
      rw[Km,V9,X2]
      cases f _<;>rfl
     rw[one,one]
     have gg:gNm 4 (.int (c:Nat)) [bB (Pc C K W H),bB (.list ((E.filterMap (fcq C)).map eC)),bB (.list (((E.filterMap (fjq K)).map tj).map eT)),bB (.int (r:Nat)),p4,p5,p6]=bB [bB (Pc C K W H),bB (.list ((E.filterMap (fcq C)).map eC)),bB (.list (((E.filterMap (fjq K)).map tj).map eT)),bB (.int (r:Nat)),bB (.int (c:Nat)),p5,p6]:=rfl
     rw[gg]
     cases ec:fcq C (((c:Nat):Int),(H:Nat)-1-((r:Nat):Int)) with
     |some a =>
      have ha:a∈C:=UG ec
      have ea:(sC a).1=(((c:Nat):Int),(H:Nat)-1-((r:Nat):Int)):=by simpa using XC ec
      have ej:fjq K (((c:Nat):Int),(H:Nat)-1-((r:Nat):Int))=bC:=VP.mpr λp hp z=>qfw (c:=a) (rt.km p hp).2.2.1 (by rw[ea];exact(sx z).symm)
      obtain⟨q5,q6,e⟩:=seenA rt h1 w2 hr hc ha ea hX (Y:=((E.filterMap (fjq K)).map tj).map eT) p5 p6
      refine⟨_,.inl e,bB (.int (c:Nat)),q5,q6,?_⟩
      rw[ej]
      simp
     |none =>
      cases ej:fjq K (((c:Nat):Int),(H:Nat)-1-((r:Nat):Int)) with
      |some p =>
       have hp:p∈K:=UG ej
       have ea:(sJ p).1=(((c:Nat):Int),(H:Nat)-1-((r:Nat):Int)):=by simpa using XC ej
       obtain⟨q5,q6,e⟩:=seenB rt h1 w2 hb hr hc hp ea (X:=(E.filterMap (fcq C)).map eC) hY p5 p6
       refine⟨_,.inl e,bB (.int (c:Nat)),q5,q6,?_⟩
       simp
      |none =>
       have sg:sgA (sgs C K) (((c:Nat):Int),(H:Nat)-1-((r:Nat):Int))=46:=qev λs hs z=>by
        unfold sgs at hs
        rcases K6.mp hs with y|y
        .obtain⟨a,ha,rfl⟩:=Kl.mp y
         exact VP.mp ec a ha (sh z)
        .obtain⟨p,hp,rfl⟩:=Kl.mp y
         exact VP.mp ej p hp (sh z)
       refine⟨_,.inr (seenC w2 hr hc sg (X:=(E.filterMap (fcq C)).map eC) (Y:=((E.filterMap (fjq K)).map tj).map eT) p5 p6),bB (.int (c:Nat)),bB (eX [46]),p6,?_⟩
       simp)
   have er:D++(Ku W).map (λc:Nat=>(((c:Nat):Int),(H:Nat)-1-((r:Nat):Int)))=(done++[r]).flatMap (rowQ W H):=by
    rw[List.flatMap_append,hD]
    simp [rowQ]
   rw[er]at l2
   refine⟨_,?_,bB (.int (r:Nat)),p4,p5,p6,rfl⟩
   simp_arith [z0,z2,-L2.Q7,rW,l2])
 rw[←hQ]at l1
 obtain⟨T,hT⟩:∃T:List Tj,T=(Q.filterMap (fjq K)).map tj:=⟨_,rfl⟩
 rw[←hT]at l1
 generalize hCL:Q.filterMap (fcq C)=CL at pC l1
 generalize hKL:Q.filterMap (fjq K)=KL at pK hT
 have oj:T.map nt=KL:=by
  rw[hT,Kx]
  have:KL.map (nt ∘ tj)=KL.map id:=Vm λp hp=>(qkk (rt.km p (pK.mem_iff.mp hp)).2.2.1).1
  rw[this,X1]
 have hTl:T.length<=60:=by rw[hT,Kc,pK.length_eq];exact hK
 have aT:∀t∈T,Adj t.1 t.2.1\/Adj t.2.1 t.1:=λt ht=>by
  rw[hT]at ht
  obtain⟨p,hp,rfl⟩:=Kl.mp ht
  exact(qkk (rt.km p (pK.mem_iff.mp hp)).2.2.1).2
 have hCl:=pC.length_eq
 have pQ:S.length=CL.length:=by rw[pS.length_eq,hCl]
 have pR:S.Nodup:=pS.nodup_iff.mpr rt.fn
 have hJl:J.length<=60:=by rw[pJ.length_eq,Kc];exact hK
 have hs:Qq [.list (CL.map eC)]=bB (.list (S.map eC)):=by
  obtain⟨S',es,p,r⟩:=qbB (xs:=CL) '#'
  rw[es,qcE (p.trans (pC.trans pS.symm)) r rS]
 have hj:=qk6 pR '#' '#' aT (by rw[oj];exact(pK.map _).nodup_iff.mpr rt.kn) (λp hp=>by
  rw[oj]at hp
  obtain⟨a,b,_,d⟩:=rt.km p (pK.mem_iff.mp hp)
  exact⟨pS.mem_iff.mpr a,pS.mem_iff.mpr b,d⟩) (by rw[oj];exact pJ.trans (pK.map _).symm) rJ
 have hJr:∀t∈J,(0<=t.1/\t.1<((CL.length:Nat):Int))/\0<=t.2.1/\t.2.1<((CL.length:Nat):Int):=λt ht=>by
  obtain⟨p,hp,rfl⟩:=Kl.mp (pJ.mem_iff.mp ht)
  obtain⟨a,b,_⟩:=rt.km p hp
  have q1:=U1 (pS.mem_iff.mpr a)
  have q2:=U1 (pS.mem_iff.mpr b)
  unfold jn
  dsimp only
  omega
 have ha:=qkC (n:=CL.length) '#' '#' hJr '#' (by
  rw[←pQ]
  exact λP h0 hp=>conn6 rt.fn pS pJ cn hC0 P h0 hp)
 have so:=ql5 (C:=CL) (T:=T) '#' '#' hs pR pQ hj ha
 have e:qcK (rho0 qbK.length [Pc C K W H])=bB (.rt (.tuple [.list (S.map eC),.list (J.map eS)])):=by
  unfold qcK
  refine za (ρ':=[bB (Pc C K W H),bC,bC,bC,bC,bC,bC]) (by simp_arith [qid,rf]) ?_
  refine za (ρ':=[bB (Pc C K W H),bB (.list []),bC,bC,bC,bC,bC]) (by simp_arith []) ?_
  refine za (ρ':=[bB (Pc C K W H),bB (.list []),bB (.list []),bC,bC,bC,bC]) (by simp_arith []) ?_
  refine za (ρ':=[bB (Pc C K W H),bB (.list (CL.map eC)),bB (.list (T.map eT)),o3,o4,o5,o6]) (by simp_arith [z1,-L2.Q7,rH,l1]) ?_
  simp_arith [so]
 unfold JK
 rw[e]
 rfl
theorem Rt.moved {F:aB}{K:aI}(h:Rt F K)(s:Ce):Rt (F.map (sh2 s)) (K.map (shJ s)):=by
 refine⟨h.fn.map _ λa b z y=>z (ww y),qf7 s h.kn,λp hp=>?_⟩
 obtain⟨q,hq,rfl⟩:=Kl.mp hp
 obtain⟨a,b,c,d⟩:=h.km q hq
 exact⟨Kl.mpr ⟨_,a,rfl⟩,Kl.mpr ⟨_,b,rfl⟩,qkz _ c,d⟩
def sg2 (s:Ce)(e:Ce×Nat):Ce×Nat:=((e.1.1+2*s.1,e.1.2+2*s.2),e.2)
theorem ql4 (F:aB)(K:aI)(s:Ce):sgs (F.map (sh2 s)) (K.map (shJ s))=(sgs F K).map (sg2 s):=by
 unfold sgs
 rw[Kw,Kx,Kx,Kx,Kx]
 congr 1
 .refine Vm λc _=>?_
  show sC (sh2 s c)=sg2 s (sC c)
  unfold sC sh2 sg2
  dsimp only
  rw[Int.mul_add,Int.mul_add]
 .refine Vm λp _=>?_
  show sJ (shJ s p)=sg2 s (sJ p)
  unfold sJ shJ sh2 sg2
  dsimp only
  rw[show p.1.1.1+s.1+(p.1.2.1+s.1)=p.1.1.1+p.1.2.1+2*s.1 by omega,show p.1.1.2+s.2+(p.1.2.2+s.2)=p.1.1.2+p.1.2.2+2*s.2 by omega]
theorem qku (s q:Ce):∀gs:List (Ce×Nat),sgA (gs.map (sg2 s)) (q.1+2*s.1,q.2+2*s.2)=sgA gs q
 |[]=>rfl
 |e::gs=>by
  have ih:=qku s q gs
  unfold sgA at *
  rw[Km,Vd,Vd]
  by_cases h:e.1=q
  .have h2:(sg2 s e).1=(q.1+2*s.1,q.2+2*s.2):=by rw[←h];rfl
   rw[sh h,sh h2]
   rfl
  .have h2:¬(sg2 s e).1=(q.1+2*s.1,q.2+2*s.2):=λz=>h (by
    unfold sg2 at z
    obtain⟨z1,z2⟩:=UJ z
    exact V0 '#' '#')
   rw[se h,se h2]
   exact ih
theorem qep (F:aB)(K:aI)(s:Ce)(x0 y1:Int)(W H:Nat){x0' y1':Int}(e1:x0'=x0+2*s.1)(e2:y1'=y1+2*s.2):pic (sgA (sgs (F.map (sh2 s)) (K.map (shJ s)))) x0' y1' W H=pic (sgA (sgs F K)) x0 y1 W H:=by
 rw[ql4]
 unfold pic
 refine Vm λk _=>Vm λa _=>?_
 have:=qku s (x0+(a:Nat),y1-(k:Nat)) (sgs F K)
 rw[←this]
 congr 1
 exact V0 '*' '*'
theorem qh0 (C:aB)(K:aI)(x0 y1:Int)(W H:Nat):(pic (sgA (sgs C K)) x0 y1 W H).length=H/\(∀r∈pic (sgA (sgs C K)) x0 y1 W H,r.length=W)/\∀r∈pic (sgA (sgs C K)) x0 y1 W H,∀c∈r,c<256/\c≠47:=by
 refine⟨by rw[QD,Kc,KR],λr hr=>?_,λr hr c hc=>?_⟩
 .rw[QD]at hr
  obtain⟨k,-,rfl⟩:=Kl.mp hr
  exact Z8 _ _ _ _
 .rw[QD]at hr
  obtain⟨k,-,rfl⟩:=Kl.mp hr
  unfold rowP at hc
  obtain⟨a,-,rfl⟩:=Kl.mp hc
  exact sg_lt _ _ _
theorem jn_lt {rows:aG}(h:∀r∈rows,∀c∈r,c<256):∀c∈jnL rows,c<256:=λc hc=>by
 rcases qed hc with z|⟨r,hr,z⟩
 .rw[z];decide
 .exact h r hr c z
theorem qkr {rows:aG}{d:Ka}(h0:rows≠[])(hl:rows.length<=100)(h:∀r∈rows,r.length<=100)(hc:∀r∈rows,∀c∈r,c<256/\c≠47)(e:JK [eR rows]=bB d)(fl:∃a b,d=.tuple [a,b]):Q5 [eX (jnL rows)]=bB d:=by
 have s:=qj1 h0 hl h hc
 obtain⟨a,b,rfl⟩:=fl
 delta Q5 J0
 simp_arith [s,e]
theorem qf2 (ns:aF)(_:ns.length<=63)(hb:∀k∈ns,Uk k<=2 ^ 20):qgT [.list (ns.map .int)]=bB (.bool bD):=by
 have c0:=cell_eq ns 0 '%'
 have c1:=cell_eq ns 1 '%'
 have c2:=cell_eq ns 2 '%'
 obtain⟨ms,em,hm⟩:=qj2 ns
 obtain⟨mo,eo,mo1,mo26⟩:=qlh ns
 obtain⟨fs,js,eg,g⟩:=qi6 ms hm mo mo1
 obtain⟨x,ex,bx⟩:=qkl (qeN hb 0)
 obtain⟨y,ey,by_⟩:=qkl (qeN hb 1)
 have mF:fs.length<=26:=by have:=g.hm;omega
 have h60:js.length<=60:=by have:=g.h3;omega
 have rt:Rt fs js:=⟨g.h2,g.h4,g.h5⟩
 have ne:fs≠[]:=List.length_pos_iff.mp g.h0
 obtain⟨lx,hx,ly,hy,box⟩:=qkH ne
 obtain⟨x1,y1,pI,pL⟩:=box.ext rt g.hc mF
 have hz0:((0,0):Ce)∈fs:=KY g.hz
 have b0:=box.all _ hz0
 dsimp only at b0
 obtain⟨W,hW⟩:∃W:Nat,((W:Nat):Int)=2*(hx-lx)+1:=⟨(2*(hx-lx)+1).toNat,by omega⟩
 obtain⟨H,hH⟩:∃H:Nat,((H:Nat):Int)=2*(hy-ly)+1:=⟨(2*(hy-ly)+1).toNat,by omega⟩
 have pT:qU [.list (fs.map eC),.dict (eJ js),.tuple [.int x,.int y]]=bB (.tuple [.list ((fs.map (sh2 (x,y))).map eC),.dict (eJ (js.map (shJ (x,y))))]):=qas fs js (x,y) '#' '#' g.h4
 have iO:=rt.moved (x,y)
 have iP:=box.moved (x,y)
 have lN:=qep fs js (x,y) (2*lx) (2*hy) W H (x0':=2*(lx+x)) (y1':=2*(hy+y)) '*' '*'
 have pU:∀c∈fs.map (sh2 (x,y)),Bd 200 c.1/\Bd 200 c.2:=λc hc=>by
  obtain⟨d,hd,rfl⟩:=Kl.mp hc
  have:=box.all d hd
  unfold sh2
  dsimp only
  exact⟨Bd.of '#',Bd.of '#'⟩
 obtain⟨F,hF⟩:∃F:List Ce,F=fs.map (sh2 (x,y)):=⟨_,rfl⟩
 obtain⟨K,hK⟩:∃K:List Jn,K=js.map (shJ (x,y)):=⟨_,rfl⟩
 rw[←hF,←hK]at pT iO lN
 rw[←hF]at iP pU
 have fl:F.length=fs.length:=by rw[hF,Kc]
 have kl:K.length=js.length:=by rw[hK,Kc]
 obtain⟨S,J,pV,pS,rS,pJ,rJ⟩:=qaF F K '#' '#' iO.kn λp hp=>⟨(iO.km p hp).1,(iO.km p hp).2.1⟩
 have pa:=qhH (W:=W) (H:=H) iO iP '#' '#' '*' '*' '#' '#' pU
 obtain⟨K',om,eJ'⟩:=qhT pJ K rfl
 have dr:=qkK (W:=W) (H:=H) (iO.perm pS om) (iP.perm pS) (by rw[pS.length_eq];omega) (by rw[om.length_eq];omega) '*' '*' '*' '*'
 rw[←eJ',show sgA (sgs S K')=sgA (sgs F K) from funext λq=>qjZ (qih pS om) iO.nd q]at dr
 dsimp only at pa dr
 have pW:qU [.list (fs.map eC),.dict (eJ js),.tuple [.int (-lx),.int (-ly)]]=bB (.tuple [.list ((fs.map (sh2 (-lx,-ly))).map eC),.dict (eJ (js.map (shJ (-lx,-ly))))]):=qas fs js (-lx,-ly) '#' '#' g.h4
 have iw:=rt.moved (-lx,-ly)
 have oo:Conn (fs.map (sh2 (-lx,-ly))) (js.map (shJ (-lx,-ly))):=g.hc.moved _
 have iQ:=box.moved (-lx,-ly)
 have lO:=qep fs js (-lx,-ly) (2*lx) (2*hy) W H (x0':=0) (y1':=(H:Nat)-1) '*' '*'
 obtain⟨C,hC⟩:∃C:List Ce,C=fs.map (sh2 (-lx,-ly)):=⟨_,rfl⟩
 obtain⟨L,hL⟩:∃L:List Jn,L=js.map (shJ (-lx,-ly)):=⟨_,rfl⟩
 rw[←hC,←hL]at pW iw oo lO
 rw[←hC]at iQ
 have cl:C.length=fs.length:=by rw[hC,Kc]
 have ll:L.length=js.length:=by rw[hL,Kc]
 rw[lN,←lO]at pa dr
 obtain⟨S1,J1,oq,pX,rS1,pY,rJ1⟩:=qaF C L '#' '#' iw.kn λp hp=>⟨(iw.km p hp).1,(iw.km p hp).2.1⟩
 have mK:∀c∈C,0<=c.1/\2*c.1<(W:Nat)/\0<=c.2/\2*c.2<(H:Nat):=λc hc=>by
  have:=iQ.all c hc
  dsimp only at this
  omega
 have mL:=qks (W:=W) (H:=H) iw oo (by have:=g.h0;omega) '#' '#' mK '#' '#' '#' '#' pX rS1 pY rJ1
 have ot:=qeG (S:=S1) (J:=J1) (by rw[pX.length_eq];omega) (by rw[pY.length_eq,Kc];omega)
 obtain⟨pZ,mC,p3⟩:=qh0 C L 0 ((H:Nat)-1) W H
 have jD:=qg6 (rows:=pic (sgA (sgs C L)) 0 ((H:Nat)-1) W H) '#' (λr hr=>by rw[mC r hr];omega)
 have ou:∀r∈pic (sgA (sgs C L)) 0 ((H:Nat)-1) W H,∀c∈r,c<256:=λr hr c hc=>(p3 r hr c hc).1
 have ok5:pic (sgA (sgs C L)) 0 ((H:Nat)-1) W H≠[]:=λz=>by rw[z]at pZ;simp at pZ;omega
 have p7:=qkr ok5 '#' (λr hr=>by rw[mC r hr];omega) p3 mL ⟨_,_,rfl⟩
 have tD:=qmd ou
 have nD:=neD_X ou
 have nx:=neD_x (jn_lt ou)
 obtain⟨w,hw⟩:∃w:Int,w=Qo ns 2%81:=⟨_,rfl⟩
 have hw0:0<=w/\w<81:=by omega
 obtain⟨a,ha,a2⟩:∃a:Nat,w%3=(a:Nat)/\a<=2:=⟨(w%3).toNat,by omega,by omega⟩
 obtain⟨b,hb_,b2⟩:∃b:Nat,w / 3%3=(b:Nat)/\b<=2:=⟨(w / 3%3).toNat,by omega,by omega⟩
 obtain⟨c,hc,cc2⟩:∃c:Nat,w / 9%3=(c:Nat)/\c<=2:=⟨(w / 9%3).toNat,by omega,by omega⟩
 obtain⟨d,hd,d2⟩:∃d:Nat,w / 27=(d:Nat)/\d<=2:=⟨(w / 27).toNat,by omega,by omega⟩
 have m1:mulD (.int 2) (.int (a:Nat))=bB (.int ((2*a:Nat):Int)):=by rw[QB (bd2.ok (m:=200) (Bd.of '#'))];congr 2
 have m2:mulD (.int (b:Nat)) (.int 2)=bB (.int ((2*b:Nat):Int)):=by rw[QB (Bd.ok (n:=200) (Bd.of '#') bd2)];congr 2;omega
 have m3:mulD (.int 2) (.int (c:Nat))=bB (.int ((2*c:Nat):Int)):=by rw[QB (bd2.ok (m:=200) (Bd.of '#'))];congr 2
 have m4:mulD (.int (d:Nat)) (.int 2)=bB (.int ((2*d:Nat):Int)):=by rw[QB (Bd.ok (n:=200) (Bd.of '#') bd2)];congr 2;omega
 have out:∀x y:Int,(x<0\/0+(W:Nat)<=x\/((H:Nat):Int)-1<y\/y<=((H:Nat):Int)-1-(H:Nat))->sgA (sgs C L) (x,y)=46:=λx y h=>qev λs hs z=>by
  unfold sgs at hs
  rcases K6.mp hs with q|q
  .obtain⟨e,he,rfl⟩:=Kl.mp q
   have:=mK e he
   obtain⟨z1,z2⟩:=UJ z
   omega
  .obtain⟨p,hp,rfl⟩:=Kl.mp q
   obtain⟨ka,kb,_⟩:=iw.km p hp
   have q1:=mK _ ka
   have q2:=mK _ kb
   obtain⟨z1,z2⟩:=UJ z
   omega
 have fr:=qi5 (l:=2*a) (r:=2*b) (lo:=2*c) (hi:=2*d) out '#' '#' '#' '#' '#' '#' '#'
 have p8:qU [.list (C.map eC),.dict (eJ L),.tuple [.int (a:Nat),.int (c:Nat)]]=bB (.tuple [.list ((C.map (sh2 ((a:Nat),(c:Nat)))).map eC),.dict (eJ (L.map (shJ ((a:Nat),(c:Nat)))))]):=qas C L ((a:Nat),(c:Nat)) '#' '#' iw.kn
 have lP:=iw.moved (((a:Nat):Int),((c:Nat):Int))
 have p9:Conn (C.map (sh2 (((a:Nat):Int),((c:Nat):Int)))) (L.map (shJ (((a:Nat):Int),((c:Nat):Int)))):=oo.moved _
 have lQ:=iQ.moved (((a:Nat):Int),((c:Nat):Int))
 have lR:=qep C L (((a:Nat):Int),((c:Nat):Int)) (0-((2*a:Nat):Int)) ((H:Nat)-1+((2*d:Nat):Int)) (2*a+W+2*b) (2*d+H+2*c) (x0':=0) (y1':=((2*d+H+2*c:Nat):Int)-1) '*' '*'
 obtain⟨C2,oz⟩:∃C2:List Ce,C2=C.map (sh2 (((a:Nat):Int),((c:Nat):Int))):=⟨_,rfl⟩
 obtain⟨fX,qc⟩:∃fX:List Jn,fX=L.map (shJ (((a:Nat):Int),((c:Nat):Int))):=⟨_,rfl⟩
 rw[←oz,←qc]at p8 lP p9 lR
 rw[←oz]at lQ
 rw[←lR]at fr
 have kH:C2.length=fs.length:=by rw[oz,Kc,cl]
 have ll2:fX.length=js.length:=by rw[qc,Kc,ll]
 obtain⟨S2,J2,oA,qf,rS2,qh,rJ2⟩:=qaF C2 fX '#' '#' lP.kn λp hp=>⟨(lP.km p hp).1,(lP.km p hp).2.1⟩
 obtain⟨W2,hW2⟩:∃W2:Nat,W2=2*a+W+2*b:=⟨_,rfl⟩
 obtain⟨H2,mj⟩:∃H2:Nat,H2=2*d+H+2*c:=⟨_,rfl⟩
 rw[←hW2,←mj]at fr
 have hb2:∀e∈C2,0<=e.1/\2*e.1<(W2:Nat)/\0<=e.2/\2*e.2<(H2:Nat):=λe he=>by
  have:=lQ.all e he
  dsimp only at this
  omega
 have mM:=qks (W:=W2) (H:=H2) lP p9 (by have:=g.h0;omega) '#' '#' hb2 '#' '#' '#' '#' qf rS2 qh rJ2
 have oB:=qeG (S:=S2) (J:=J2) (by rw[qf.length_eq];omega) (by rw[qh.length_eq,Kc];omega)
 obtain⟨qk,qo,pk3⟩:=qh0 C2 fX 0 ((H2:Nat)-1) W2 H2
 have jD2:=qg6 (rows:=pic (sgA (sgs C2 fX)) 0 ((H2:Nat)-1) W2 H2) '#' (λr hr=>by rw[qo r hr];omega)
 have pk5:pic (sgA (sgs C2 fX)) 0 ((H2:Nat)-1) W2 H2≠[]:=λz=>by rw[z]at qk;simp at qk;omega
 have qq:=qkr pk5 '#' (λr hr=>by rw[qo r hr];omega) pk3 mM ⟨_,_,rfl⟩
 unfold Pc at mL mM
 generalize hD:pic (sgA (sgs C L)) 0 ((H:Nat)-1) W H=D at *
 generalize hD2:pic (sgA (sgs C2 fX)) 0 ((H2:Nat)-1) W2 H2=D2 at *
 have st:Zy [.tuple [.list (S.map eC),.list (J.map eS)]]=bB (eX (jnL D)):=by
  delta Zy J4
  simp_arith [dr,jD]
 obtain⟨kF,-,mn2,-⟩:=box.mins '#'
 have hlen:(fs.map eC).length<=1000:=by rw[Kc];omega
 have pM:(D.map eX).length<1000:=by rw[Kc];omega
 obtain⟨A,hA⟩:∃A:Ka,A=.tuple [.list (S.map eC),.list (J.map eS)]:=⟨_,rfl⟩
 obtain⟨B1,hB1⟩:∃B1:Ka,B1=.tuple [.list (S1.map eC),.list (J1.map eS)]:=⟨_,rfl⟩
 obtain⟨B2,hB2⟩:∃B2:Ka,B2=.tuple [.list (S2.map eC),.list (J2.map eS)]:=⟨_,rfl⟩
 rw[←hA]at pV dr st
 rw[←hB1]at oq mL ot p7
 rw[←hB2]at oA mM oB qq
 have k1:Qp 2 (unpD 2 (gsC (gNm 15) (gsC (gNm 16) gsN))) tT (vr 15) [bB (.list (ns.map .int)),bB (.list (fs.map eC)),bB (.dict (eJ js)),bB (.tuple [.int x,.int y]),bB (.list (F.map eC)),bB (.dict (eJ K)),bB A,bB (eR D),bB (eR D),bC,bC,bC,bC,bC,bC] (fs.map eC)=bB (fs.map λc=>.int c.1):=QZ eC _ fs λa _=>by
  simp only[eC]
  simp_arith []
 have k2:Qp 2 (unpD 2 (gsC (gNm 15) (gsC (gNm 16) gsN))) tT (vr 16) [bB (.list (ns.map .int)),bB (.list (fs.map eC)),bB (.dict (eJ js)),bB (.tuple [.int x,.int y]),bB (.list (F.map eC)),bB (.dict (eJ K)),bB A,bB (eR D),bB (eR D),bC,bC,bC,bC,bC,bC] (fs.map eC)=bB (fs.map λc=>.int c.2):=QZ eC _ fs λa _=>by
  simp only[eC]
  simp_arith []
 have e:qfz (rho0 YG.length [.list (ns.map .int)])=bB (.rt (.bool bD)):=by
  unfold qfz
  refine za (ρ':=[bB (.list (ns.map .int)),bB (.list (fs.map eC)),bB (.dict (eJ js)),bC,bC,bC,bC,bC,bC,bC,bC,bC,bC,bC,bC]) (by simp_arith [em,eo,eg]) ?_
  refine za (ρ':=[bB (.list (ns.map .int)),bB (.list (fs.map eC)),bB (.dict (eJ js)),bB (.tuple [.int x,.int y]),bC,bC,bC,bC,bC,bC,bC,bC,bC,bC,bC]) (by simp_arith [c0,c1,ex,ey]) ?_
  refine za (ρ':=[bB (.list (ns.map .int)),bB (.list (fs.map eC)),bB (.dict (eJ js)),bB (.tuple [.int x,.int y]),bB (.list (F.map eC)),bB (.dict (eJ K)),bC,bC,bC,bC,bC,bC,bC,bC,bC]) (by simp_arith [pT]) ?_
  refine za (ρ':=[bB (.list (ns.map .int)),bB (.list (fs.map eC)),bB (.dict (eJ js)),bB (.tuple [.int x,.int y]),bB (.list (F.map eC)),bB (.dict (eJ K)),bB A,bC,bC,bC,bC,bC,bC,bC,bC]) (by simp_arith [pV]) ?_
  refine za (ρ':=[bB (.list (ns.map .int)),bB (.list (fs.map eC)),bB (.dict (eJ js)),bB (.tuple [.int x,.int y]),bB (.list (F.map eC)),bB (.dict (eJ K)),bB A,bB (eR D),bC,bC,bC,bC,bC,bC,bC]) (by simp_arith [pa]) ?_
  refine za (ρ':=[bB (.list (ns.map .int)),bB (.list (fs.map eC)),bB (.dict (eJ js)),bB (.tuple [.int x,.int y]),bB (.list (F.map eC)),bB (.dict (eJ K)),bB A,bB (eR D),bB (eR D),bC,bC,bC,bC,bC,bC]) (by simp_arith [dr]) ?_
  refine za (ρ':=[bB (.list (ns.map .int)),bB (.list (fs.map eC)),bB (.dict (eJ js)),bB (.tuple [.int x,.int y]),bB (.list (F.map eC)),bB (.dict (eJ K)),bB A,bB (eR D),bB (eR D),bC,bC,bC,bC,bC,bC]) (by simp_arith [tD,st,jD,nx]) ?_
  refine za (ρ':=[bB (.list (ns.map .int)),bB (.list (fs.map eC)),bB (.dict (eJ js)),bB (.tuple [.int x,.int y]),bB (.list (F.map eC)),bB (.dict (eJ K)),bB A,bB (eR D),bB (eR D),bB (.tuple [.int lx,.int ly]),bC,bC,bC,bC,bC]) (by simp_arith [hlen,k1,k2,kF,mn2]) ?_
  refine za (ρ':=[bB (.list (ns.map .int)),bB (.list (fs.map eC)),bB (.dict (eJ js)),bB (.tuple [.int x,.int y]),bB (.list (F.map eC)),bB (.dict (eJ L)),bB A,bB (eR D),bB (eR D),bB (.tuple [.int lx,.int ly]),bB (.list (C.map eC)),bC,bC,bC,bC]) (by simp_arith [pW]) ?_
  refine za (ρ':=[bB (.list (ns.map .int)),bB (.list (fs.map eC)),bB (.dict (eJ js)),bB (.tuple [.int x,.int y]),bB (.list (F.map eC)),bB (.dict (eJ L)),bB A,bB (eR D),bB (eR D),bB (.tuple [.int lx,.int ly]),bB (.list (C.map eC)),bC,bC,bC,bC]) (by simp_arith [mL,oq,ot,nD]) ?_
  refine za (ρ':=[bB (.list (ns.map .int)),bB (.list (fs.map eC)),bB (.dict (eJ js)),bB (.tuple [.int x,.int y]),bB (.list (F.map eC)),bB (.dict (eJ L)),bB A,bB (eR D),bB (eR D),bB (.tuple [.int lx,.int ly]),bB (.list (C.map eC)),bC,bC,bC,bC]) (by simp_arith [jD,p7,oq,ot]) ?_
  refine za (ρ':=[bB (.list (ns.map .int)),bB (.list (fs.map eC)),bB (.dict (eJ js)),bB (.tuple [.int x,.int y]),bB (.list (F.map eC)),bB (.dict (eJ L)),bB A,bB (eR D),bB (eR D),bB (.tuple [.int lx,.int ly]),bB (.list (C.map eC)),bB (.int w),bC,bC,bC]) (by simp_arith [c2,←hw]) ?_
  refine za (ρ':=[bB (.list (ns.map .int)),bB (.list (fs.map eC)),bB (.dict (eJ js)),bB (.tuple [.int x,.int y]),bB (.list (F.map eC)),bB (.dict (eJ L)),bB A,bB (eR D),bB (eR D),bB (.tuple [.int lx,.int ly]),bB (.list (C.map eC)),bB (.int w),bB (.int (a:Nat)),bC,bC]) (by simp_arith [ha]) ?_
  refine za (ρ':=[bB (.list (ns.map .int)),bB (.list (fs.map eC)),bB (.dict (eJ js)),bB (.tuple [.int x,.int y]),bB (.list (F.map eC)),bB (.dict (eJ L)),bB A,bB (eR D),bB (eR D),bB (.tuple [.int lx,.int ly]),bB (.list (C.map eC)),bB (.int w),bB (.int (a:Nat)),bB (.int (c:Nat)),bC]) (by simp_arith [hc]) ?_
  refine za (ρ':=[bB (.list (ns.map .int)),bB (.list (fs.map eC)),bB (.dict (eJ js)),bB (.tuple [.int x,.int y]),bB (.list (F.map eC)),bB (.dict (eJ L)),bB A,bB (eR D),bB (eR D),bB (.tuple [.int lx,.int ly]),bB (.list (C.map eC)),bB (.int w),bB (.int (a:Nat)),bB (.int (c:Nat)),bB (eR D2)]) (by simp_arith [hb_,hd,m1,m2,m3,m4,fr]) ?_
  refine za (ρ':=[bB (.list (ns.map .int)),bB (.list (fs.map eC)),bB (.dict (eJ js)),bB (.tuple [.int x,.int y]),bB (.list (F.map eC)),bB (.dict (eJ fX)),bB A,bB (eR D),bB (eR D),bB (.tuple [.int lx,.int ly]),bB (.list (C2.map eC)),bB (.int w),bB (.int (a:Nat)),bB (.int (c:Nat)),bB (eR D2)]) (by simp_arith [p8]) ?_
  refine za (ρ':=[bB (.list (ns.map .int)),bB (.list (fs.map eC)),bB (.dict (eJ js)),bB (.tuple [.int x,.int y]),bB (.list (F.map eC)),bB (.dict (eJ fX)),bB A,bB (eR D),bB (eR D),bB (.tuple [.int lx,.int ly]),bB (.list (C2.map eC)),bB (.int w),bB (.int (a:Nat)),bB (.int (c:Nat)),bB (eR D2)]) (by simp_arith [mM,oA,oB]) ?_
  refine za (ρ':=[bB (.list (ns.map .int)),bB (.list (fs.map eC)),bB (.dict (eJ js)),bB (.tuple [.int x,.int y]),bB (.list (F.map eC)),bB (.dict (eJ fX)),bB A,bB (eR D),bB (.list (D.map eX++[.str (Kn "")])),bB (.tuple [.int lx,.int ly]),bB (.list (C2.map eC)),bB (.int w),bB (.int (a:Nat)),bB (.int (c:Nat)),bB (eR D2)]) (by unfold eR;simp_arith [pM]) ?_
  simp_arith [dr,tD,jD2,qq,oA,oB]
 unfold qgT
 rw[e]
 rfl
theorem qkA {l:El}{w:K0}{K:Kd}{h:K4}{fa oC:Kg}(X:K.In h)(G:h.Ns su mg)(hfa:mg "law" = bB (.ref fa))
  {oD lS:aO} {oE:au} {oF lT lU lV iR lW:Ke}
  (h0:FnK K "least_twice" Tq9)
  (h1:FnK K "numbers_of" Tq15)
  (h2:FnK K "links_of" Tq27)
  (h3:FnK K "reached_from" Tq5)
  (h4:FnK K "least_apart" Tq10)
  (h5:FnK K "is_whole" Tq28)
  (h6:FnK K "is_bend" Tq32)
  (h7:FnK K "step_between" Tq6)
  (h8:FnK K "are_neighbours" Tq3)
  (h9:FnK K "row_text" Tq29)
  (nY:FnK K "place_of" Tq30)
  (h11:FnK K "between" Tq33)
  (h12:FnK K "is_fit" Tq37)
  (h13:FnK K "ends_at" Tq34)
  (h14:FnK K "signs_for" Tq25)
  (h15:FnK K "sign_at" Tq35)
  (h16:FnK K "cell_at" Tq36)
  (h17:FnK K "_law_cell_at" Tq7)
  (h18:FnK K "_law_whole" Tq16)
  (h19:FnK K "_law_triple" Tq11)
  (h20:FnK K "_law_offset" Tq12)
  (h21:FnK K "_law_mixed" Tq17)
  (h22:FnK K "_law_most" Tq26)
  (h23:FnK K "_law_steps" Tq18)
  (h24:FnK K "_law_beside" Tq13)
  (h25:FnK K "_law_grown" Tq19)
  (mF:FnK K "_law_moved_cells" Tq1)
  (h27:FnK K "_law_sheet" Tq20)
  (h28:FnK K "_law_sheet_alike" Tq2)
  (h29:FnK K "_law_painted" Tq8)
  (h30:FnK K "_law_texts" Tq21)
  (h31:FnK K "_law_framed" Tq14)
  (h32:FnK K "numbered_joins" Tq4)
  (h33:FnK K "drawn" Tq38)
  (h34:FnK K "refuse_wrong_sizes" Tq0)
  (h35:FnK K "sheet_text" Tq22)
  (h36:FnK K "sheet_from" Tq23)
  (h37:FnK K "sheet_of" Tq31)
  (h38:FnK K "seen" Tq39)
  (h39:FnK K "sheet_read" Tq24)
  (a40:K7 K su "law" = bB (bB (.ref oC))) (l40:K.lookup oC=bB ⟨oF,oD,.func (UL "law" "law" (jT Tq40) (Q0 Tq40) (qj Tq40) .none lT lU lV lS iR lW),oE⟩) (c40:XJ K iR "law" = bD) (k40:UD K (.ref oC)=bD)
  (z0:K7 K su "sorted" = bB bC)
  (z1:K7 K su "zip" = bB bC)
  (z2:K7 K su "dict" = bB bC)
  (z3:K7 K su "enumerate" = bB bC)
  (z4:K7 K su "range" = bB bC)
  (z5:K7 K su "isinstance" = bB bC)
  (z6:K7 K su "int" = bB bC)
  (z7:K7 K su "bool" = bB bC)
  (z8:K7 K su "max" = bB bC)
  (z9:K7 K su "min" = bB bC)
  (z10:K7 K su "len" = bB bC)
  (z11:K7 K su "tuple" = bB bC)
  (z12:K7 K su "list" = bB bC)
  (z13:K7 K su "str" = bB bC)
  (z14:K7 K su "any" = bB bC)
  (z15:K7 K su "all" = bB bC)
  {dY:Kg}
  {iS:aO}
  {iT:Nat}
  {iU:au}
  {iV:Tok}
  {iW:Tok}
  {iX:Tok}
  (kc0:K7 K su "BENDS" = bB (bB (.ref dY)))
  (iY:K.lookup dY=bB ⟨.type "tuple", iS,.seq #[(.int (-1) iV),(.int (0) iW),(.int (1) iX)] iT,iU⟩)
  {dZ:Kg}
  {iZ:aO}
  {i5:Nat}
  {i6:au}
  {eI:Kg}
  {i7:aO}
  {i8:Nat}
  {i9:au}
  {ja:Tok}
  {jv:Tok}
  {eh:Kg}
  {gH:aO}
  {gI:Nat}
  {gJ:au}
  {gK:Tok}
  {gL:Tok}
  {eu:Kg}
  {gM:aO}
  {gN:Nat}
  {gO:au}
  {gP:Tok}
  {gQ:Tok}
  {ez:Kg}
  {gR:aO}
  {gS:Nat}
  {gT:au}
  {gU:Tok}
  {gV:Tok}
  (kc1:K7 K su "STEPS" = bB (bB (.ref dZ)))
  (jI:K.lookup dZ=bB ⟨.type "tuple", iZ,.seq #[(.ref eI),(.ref eh),(.ref eu),(.ref ez)] i5,i6⟩)
  (jS:K.lookup eI=bB ⟨.type "tuple", i7,.seq #[(.int (1) ja),(.int (0) jv)] i8,i9⟩)
  (gW:K.lookup eh=bB ⟨.type "tuple", gH,.seq #[(.int (0) gK),(.int (1) gL)] gI,gJ⟩)
  (gX:K.lookup eu=bB ⟨.type "tuple", gM,.seq #[(.int (-1) gP),(.int (0) gQ)] gN,gO⟩)
  (gY:K.lookup ez=bB ⟨.type "tuple", gR,.seq #[(.int (0) gU),(.int (-1) gV)] gS,gT⟩)
  {fY:Tok}
  (kc2:K7 K su "NOTHING" = bB (bB (.str "." fY)))
  {fZ:Tok}
  (kc3:K7 K su "MOST" = bB (bB (.int (61) fZ)))
  {f':Tok}
  (kc4:K7 K su "JOINS" = bB (bB (.str "v+^" f')))
  {gc:Tok}
  (kc5:K7 K su "CELL" = bB (bB (.str "#" gc)))
  {gf:Tok}
  (kc6:K7 K su "MOST_CELLS" = bB (bB (.int (26) gf)))
  : ∃fd:VW,(∀(s:Kf) (v:Ke),BindsTo s fd ⟨[v],[]⟩ [("_law_script", v)])/\∀base:K4,K.In base->base.Ns su mg->FnOk l.prog w K mg base CX0 8 fa fd ["_law_script"] (qey K 63):=by
 have g {n:Str} {v:Ke} (e:K7 K su n=bB (bB v)):mg n=bB v:=U5 X G e
 have e:=hfa.symm.trans (g a40)
 cases e
 obtain⟨f0,d0,a0,F0⟩:=h0
 have b0:=F0.binds (ps:=["things"]) λ_ _ _ _ _ _=>L2.on1 λ_=>rfl
 obtain⟨f1,d1,a1,F1⟩:=h1
 have b1:=F1.binds (ps:=["things"]) λ_ _ _ _ _ _=>L2.on1 λ_=>rfl
 obtain⟨f2,d2,a2,F2⟩:=h2
 have b2:=F2.binds (ps:=["count", "pairs"]) λ_ _ _ _ _ _=>L2.on2 λ_ _=>rfl
 obtain⟨f3,d3,a3,F3⟩:=h3
 have b3:=F3.binds (ps:=["start", "links"]) λ_ _ _ _ _ _=>L2.on2 λ_ _=>rfl
 obtain⟨f4,d4,a4,F4⟩:=h4
 have b4:=F4.binds (ps:=["count", "pairs"]) λ_ _ _ _ _ _=>L2.on2 λ_ _=>rfl
 obtain⟨f5,d5,a5,F5⟩:=h5
 have b5:=F5.binds (ps:=["thing"]) λ_ _ _ _ _ _=>L2.on1 λ_=>rfl
 obtain⟨f6,d6,a6,F6⟩:=h6
 have b6:=F6.binds (ps:=["thing"]) λ_ _ _ _ _ _=>L2.on1 λ_=>rfl
 obtain⟨f7,d7,a7,F7⟩:=h7
 have b7:=F7.binds (ps:=["cell", "other"]) λ_ _ _ _ _ _=>L2.on2 λ_ _=>rfl
 obtain⟨f8,d8,a8,F8⟩:=h8
 have b8:=F8.binds (ps:=["numbers", "pair"]) λ_ _ _ _ _ _=>L2.on2 λ_ _=>rfl
 obtain⟨f9,d9,a9,F9⟩:=h9
 have b9:=F9.binds (ps:=["signs", "row", "width"]) λ_ _ _ _ _ _=>L2.on3 λ_ _ _=>rfl
 obtain⟨f10,d10,a10,qr⟩:=nY
 have b10:=qr.binds (ps:=["cells", "cell"]) λ_ _ _ _ _ _=>L2.on2 λ_ _=>rfl
 obtain⟨f11,d11,a11,qv⟩:=h11
 have b11:=qv.binds (ps:=["one", "other"]) λ_ _ _ _ _ _=>L2.on2 λ_ _=>rfl
 obtain⟨f12,d12,a12,qA⟩:=h12
 have b12:=qA.binds (ps:=["length"]) λ_ _ _ _ _ _=>L2.on1 λ_=>rfl
 obtain⟨f13,d13,a13,qB⟩:=h13
 have n9:=qB.binds (ps:=["row", "column"]) λ_ _ _ _ _ _=>L2.on2 λ_ _=>rfl
 obtain⟨f14,d14,a14,qE⟩:=h14
 have b14:=qE.binds (ps:=["ends"]) λ_ _ _ _ _ _=>L2.on1 λ_=>rfl
 obtain⟨f15,d15,a15,qS⟩:=h15
 have b15:=qS.binds (ps:=["rows", "place"]) λ_ _ _ _ _ _=>L2.on2 λ_ _=>rfl
 obtain⟨f16,d16,a16,qV⟩:=h16
 have b16:=qV.binds (ps:=["rows", "place"]) λ_ _ _ _ _ _=>L2.on2 λ_ _=>rfl
 obtain⟨f17,d17,a17,rd⟩:=h17
 have b17:=rd.binds (ps:=["_law_script", "_law_k"]) λ_ _ _ _ _ _=>L2.on2 λ_ _=>rfl
 obtain⟨f18,d18,a18,rm⟩:=h18
 have b18:=rm.binds (ps:=["_law_found"]) λ_ _ _ _ _ _=>L2.on1 λ_=>rfl
 obtain⟨f19,d19,a19,rp⟩:=h19
 have b19:=rp.binds (ps:=["_law_found", "_law_due"]) λ_ _ _ _ _ _=>L2.on2 λ_ _=>rfl
 obtain⟨f20,d20,a20,rq⟩:=h20
 have b20:=rq.binds (ps:=["_law_cell"]) λ_ _ _ _ _ _=>L2.on1 λ_=>rfl
 obtain⟨f21,d21,a21,rA⟩:=h21
 have b21:=rA.binds (ps:=["_law_cell", "_law_k"]) λ_ _ _ _ _ _=>L2.on2 λ_ _=>rfl
 obtain⟨f22,d22,a22,rB⟩:=h22
 have b22:=rB.binds (ps:=["_law_script", "_law_at", "_law_most_here"]) λ_ _ _ _ _ _=>L2.on3 λ_ _ _=>rfl
 obtain⟨f23,d23,a23,rC⟩:=h23
 have b23:=rC.binds (ps:=["_law_script", "_law_at", "_law_base"]) λ_ _ _ _ _ _=>L2.on3 λ_ _ _=>rfl
 obtain⟨f24,d24,a24,rD⟩:=h24
 have b24:=rD.binds (ps:=["_law_cell", "_law_way"]) λ_ _ _ _ _ _=>L2.on2 λ_ _=>rfl
 obtain⟨f25,d25,a25,rE⟩:=h25
 have b25:=rE.binds (ps:=["_law_steps_here", "_law_most_here"]) λ_ _ _ _ _ _=>L2.on2 λ_ _=>rfl
 obtain⟨f26,d26,a26,rF⟩:=mF
 have b26:=rF.binds (ps:=["_law_found", "_law_joins", "_law_shift"]) λ_ _ _ _ _ _=>L2.on3 λ_ _ _=>rfl
 obtain⟨f27,d27,a27,rG⟩:=h27
 have b27:=rG.binds (ps:=["_law_found", "_law_joins"]) λ_ _ _ _ _ _=>L2.on2 λ_ _=>rfl
 obtain⟨f28,d28,a28,rK⟩:=h28
 have b28:=rK.binds (ps:=["_law_found", "_law_due"]) λ_ _ _ _ _ _=>L2.on2 λ_ _=>rfl
 obtain⟨f29,d29,a29,rL⟩:=h29
 have b29:=rL.binds (ps:=["_law_cells", "_law_joins"]) λ_ _ _ _ _ _=>L2.on2 λ_ _=>rfl
 obtain⟨f30,d30,a30,rM⟩:=h30
 have b30:=rM.binds (ps:=["_law_found", "_law_due"]) λ_ _ _ _ _ _=>L2.on2 λ_ _=>rfl
 obtain⟨f31,d31,a31,rN⟩:=h31
 have b31:=rN.binds (ps:=["_law_rows", "_law_left", "_law_right", "_law_low", "_law_high"]) λ_ _ _ _ _ _=>L2.on5 λ_ _ _ _ _=>rfl
 obtain⟨f32,d32,a32,rO⟩:=h32
 have b32:=rO.binds (ps:=["cells", "joins"]) λ_ _ _ _ _ _=>L2.on2 λ_ _=>rfl
 obtain⟨f33,d33,a33,rP⟩:=h33
 have b33:=rP.binds (ps:=["sheet"]) λ_ _ _ _ _ _=>L2.on1 λ_=>rfl
 obtain⟨f34,d34,a34,rQ⟩:=h34
 have b34:=rQ.binds (ps:=["rows"]) λ_ _ _ _ _ _=>L2.on1 λ_=>rfl
 obtain⟨f35,d35,a35,rR⟩:=h35
 have oh:=rR.binds (ps:=["sheet"]) λ_ _ _ _ _ _=>L2.on1 λ_=>rfl
 obtain⟨f36,d36,a36,rT⟩:=h36
 have b36:=rT.binds (ps:=["cells", "joins"]) λ_ _ _ _ _ _=>L2.on2 λ_ _=>rfl
 obtain⟨f37,d37,a37,rV⟩:=h37
 have b37:=rV.binds (ps:=["cells", "joins"]) λ_ _ _ _ _ _=>L2.on2 λ_ _=>rfl
 obtain⟨f38,d38,a38,rX⟩:=h38
 have b38:=rX.binds (ps:=["rows"]) λ_ _ _ _ _ _=>L2.on1 λ_=>rfl
 obtain⟨f39,d39,a39,rZ⟩:=h39
 have b39:=rZ.binds (ps:=["text"]) λ_ _ _ _ _ _=>L2.on1 λ_=>rfl
 have r9:=qgX (st:=Tq40) l40 c40 k40
 have z_sorted:=Vp X G z0
 have z_zip:=Vp X G z1
 have z_dict:=Vp X G z2
 have z_enumerate:=Vp X G z3
 have z_range:=Vp X G z4
 have z_isinstance:=Vp X G z5
 have z_int:=Vp X G z6
 have z_bool:=Vp X G z7
 have z_max:=Vp X G z8
 have z_min:=Vp X G z9
 have z_len:=Vp X G z10
 have z_tuple:=Vp X G z11
 have z_list:=Vp X G z12
 have z_str:=Vp X G z13
 have z_any:=Vp X G z14
 have z_all:=Vp X G z15
 have dW:Qt K mg "BENDS" Wy:=⟨(.ref dY),(.ref dY),U5 X G kc0,rfl,λH S=>(.tuple (xs:=[(.int (-1)),(.int (0)),(.int (1))]) (.inr ⟨_,_,_,iY,rfl,rfl,(show 3<=sv by decide),(.cons ⟨_,rfl⟩ (.cons ⟨_,rfl⟩ (.cons ⟨_,rfl⟩ .nil)))⟩) (.cons (.int (-1)) (.cons (.int (0)) (.cons (.int (1)) .nil))))⟩
 have dX:Qt K mg "STEPS" Wz:=⟨(.ref dZ),(.ref dZ),U5 X G kc1,rfl,λH S=>(.tuple (xs:=[(.ref eI),(.ref eh),(.ref eu),(.ref ez)]) (.inr ⟨_,_,_,jI,rfl,rfl,(show 4<=sv by decide),(.cons rfl (.cons rfl (.cons rfl (.cons rfl .nil))))⟩) (.cons (.tuple (xs:=[(.int (1)),(.int (0))]) (.inr ⟨_,_,_,jS,rfl,rfl,(show 2<=sv by decide),(.cons ⟨_,rfl⟩ (.cons ⟨_,rfl⟩ .nil))⟩) (.cons (.int (1)) (.cons (.int (0)) .nil))) (.cons (.tuple (xs:=[(.int (0)),(.int (1))]) (.inr ⟨_,_,_,gW,rfl,rfl,(show 2<=sv by decide),(.cons ⟨_,rfl⟩ (.cons ⟨_,rfl⟩ .nil))⟩) (.cons (.int (0)) (.cons (.int (1)) .nil))) (.cons (.tuple (xs:=[(.int (-1)),(.int (0))]) (.inr ⟨_,_,_,gX,rfl,rfl,(show 2<=sv by decide),(.cons ⟨_,rfl⟩ (.cons ⟨_,rfl⟩ .nil))⟩) (.cons (.int (-1)) (.cons (.int (0)) .nil))) (.cons (.tuple (xs:=[(.int (0)),(.int (-1))]) (.inr ⟨_,_,_,gY,rfl,rfl,(show 2<=sv by decide),(.cons ⟨_,rfl⟩ (.cons ⟨_,rfl⟩ .nil))⟩) (.cons (.int (0)) (.cons (.int (-1)) .nil))) .nil)))))⟩
 have cj:Qt K mg "NOTHING" ZV:=⟨(.str "."),(.str "." fY),U5 X G kc2,⟨_,rfl⟩,λH S=>(.str ".")⟩
 have eH:Qt K mg "MOST" qbQ:=⟨(.int (61)),(.int (61) fZ),U5 X G kc3,⟨_,rfl⟩,λH S=>(.int (61))⟩
 have bZ:Qt K mg "JOINS" jR:=⟨(.str "v+^"),(.str "v+^" f'),U5 X G kc4,⟨_,rfl⟩,λH S=>(.str "v+^")⟩
 have cA:Qt K mg "CELL" JG:=⟨(.str "#"),(.str "#" gc),U5 X G kc5,⟨_,rfl⟩,λH S=>(.str "#")⟩
 have cM:Qt K mg "MOST_CELLS" jq:=⟨(.int (26)),(.int (26) gf),U5 X G kc6,⟨_,rfl⟩,λH S=>(.int (26))⟩
 refine⟨UL "law" "law" (jT Tq40) (Q0 Tq40) (qj Tq40) .none lT lU lV lS iR lW,λs v=>.of_eq rfl,λbase _ _=>?_⟩
 have b40:=r9.binds (ps:=["_law_script"]) λ_ _ _ _ _ _=>L2.on1 λ_=>rfl
 have cD:=qaT l.prog w base F0 (g a0) b0 z_sorted z_zip
 have cI:=qcb l.prog w base F1 (g a1) b1 z_dict z_enumerate
 have cX:=qeg l.prog w base F2 (g a2) b2 z_range
 have cq:=qal l.prog w base F3 (g a3) b3
 have cE:=qaS l.prog w base F4 (g a4) b4 cq cX z_range
 have cY:=qef l.prog w base F5 (g a5) b5 z_isinstance z_int z_bool
 have dc:=qfZ l.prog w base F6 (g a6) b6 cY dW
 have cu:=qam l.prog w base F7 (g a7) b7
 have bV:=wL l.prog w base F8 (g a8) b8 cu dX
 have cZ:=qei l.prog w base F9 (g a9) b9 z_range cj
 have cv:=qeh l.prog w base qr (g a10) b10 z_max z_min
 have df:=qfW l.prog w base qv (g a11) b11
 have c9:=qhc l.prog w base qA (g a12) b12 eH
 have dg:=qfY l.prog w base qB (g a13) n9
 have cU:=qdj l.prog w base qE (g a14) b14 z_len bZ cA
 have dh:=qf0 l.prog w base qS (g a15) b15
 have cG:=qfX l.prog w base qV (g a16) b16 z_len
 have bF:=qaj l.prog w base rd (g a17) b17 z_len
 have cH:=qca l.prog w base rm (g a18) b18 z_isinstance z_int z_bool
 have cC:=qaR l.prog w base rp (g a19) b19 cH z_isinstance z_tuple z_len
 have bX:=qaQ l.prog w base rq (g a20) b20
 have bM:=qb6 l.prog w base rA (g a21) b21
 have cV:=qdi l.prog w base rB (g a22) b22 bF bM
 have cO:=qb8 l.prog w base rC (g a23) b23 bF bM z_range
 have cB:=qaO l.prog w base rD (g a24) b24
 have cN:=qb5 l.prog w base rE (g a25) b25 cB z_len z_max z_min
 have bJ:=Yn l.prog w base rF (g a26) b26
 have bN:=qb7 l.prog w base rG (g a27) b27 z_sorted
 have bI:=Yo l.prog w base rK (g a28) b28 cC z_isinstance z_tuple z_len z_list z_range
 have cw:=qak l.prog w base rL (g a29) b29 z_min z_max z_range
 have cf:=qb9 l.prog w base rM (g a30) b30 z_isinstance z_list z_str
 have cF:=qaP l.prog w base rN (g a31) b31 z_len z_range
 have bW:=wM l.prog w base rO (g a32) b32 cI bV dc z_max z_min z_enumerate z_sorted
 have cJ:=qjf l.prog w base rP (g a33) b33 cv df cZ z_max z_range cA bZ
 have bO:=yx l.prog w base rQ (g a34) b34 c9 z_len z_any
 have cP:=qce l.prog w base rR (g a35) oh cJ
 have cL:=qcc l.prog w base rT (g a36) b36 bW z_sorted
 have c4:=qej l.prog w base rV (g a37) b37 cD cL cE z_len cM
 have c5:=qk8 l.prog w base rX (g a38) b38 bO dg cU dh cG c4 z_all z_range z_len cj cA bZ
 have cg:=qcd l.prog w base rZ (g a39) b39 c5
 exact qhg (qll l.prog w base r9 cN cV cO bX bF bJ bN cw cJ cf cP bI c5 cg cF z_min) qf2
end SF
open PySem PySem.W PyProof.Rows
set_option maxRecDepth 100000 in
set_option maxHeartbeats 0 in
theorem PySem.Challenge.cw_sheetfold_k08_whole_drawn_and_seen_holds : PySem.Challenge.rw_sheetfold_k08_whole_drawn_and_seen.Holds := by
 w_on
 refine PySem.W.holds_law HD.said λsaid=>?_
 refine PySem.W.holds_open (q:=HD.vw) (YP:=(PySem.W.kHook HD.KH HD.kA HD.kE).says) HD.left (PySem.W.Hook.of _) (PySem.W.Hook.keeps _) (λs e=>PySem.W.xl_of s (Fd.mp e).1) PySem.W.XL.keeps (by rfl) (by rfl) (by rfl) (λs e=>PySem.W.recFacts_of (Fd.mp e).2) (by rfl) (by first|assumption|decide +kernel) '$' ⟨rfl,rfl,rfl,rfl,rfl,by decide +kernel⟩ ?hw ?hc
 case hw=>w_witness2
 k_fill
 refine L2.qgp (l:=PySem.Challenge.rw_sheetfold_k08_whole_drawn_and_seen) (n:=63) (k:=8) (x := "_law_script") rfl '%' rfl ⟨rfl,by decide,by decide,rfl⟩ (λw h Y=>PySem.W.kIn_of Y) ?F
 case F =>
  intro w mg fa h KX G k8
  refine' SF.qkA KX G k8 ?_ ?_ ?_ ?_ ?_ ?_ ?_ ?_ ?_ ?_ ?_ ?_ ?_ ?_ ?_ ?_ ?_ ?_ ?_ ?_ ?_ ?_ ?_ ?_ ?_ ?_ ?_ ?_ ?_ ?_ ?_ ?_ ?_ ?_ ?_ ?_ ?_ ?_ ?_ ?_ ?_ ?_ ?_ ?_ ?_ ?_ ?_ ?_ ?_ ?_ ?_ ?_ ?_ ?_ ?_ ?_ ?_ ?_ ?_ ?_ ?_ ?_ ?_ ?_ ?_ ?_ ?_ ?_ ?_ ?_ ?_ ?_ ?_
  all_goals try first|k_is|exact L2.FnK.of (by k_is) (by k_is) (by k_is) (by k_is)|kernel_rfl
