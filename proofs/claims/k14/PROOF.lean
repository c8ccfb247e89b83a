import PyProof.Rows.All
import KE.IntBitsLaws
import KE.KIsAll
import KE.KSortTup
import KE.KRevIter
import KE.LcSums
import Lean
import PyProof.EqAt
import PyProof.EqKinds
import PyProof.TupleCall
import PySem.Challenge.RW_sheetfold_k14_whole_folded_or_why
set_option genSizeOf false
set_option genInjectivity false
set_option compiler.extract_closed false
set_option Elab.async false
set_option linter.all false
set_option maxRecDepth 100000
def sg_q (t:String):Lean.Syntax:=Lean.mkIdent t.toName
def sg_n (k:Lean.Name)(a:Array Lean.Syntax):Lean.Syntax:=.node .none k a
def sg_a (s:String):Lean.Syntax:=.atom .none s
def sg_s (l:List Lean.Syntax)(w:String):List Lean.Syntax:=match w.toList with
|c::r=>
 let t:=String.ofList r
 let n:=t.toNat?.getD 0
 let k:=l.drop n
 let a:=(l.take n).reverse.toArray
 let p:=sg_n `null (Lean.mkSepArray a (sg_a ","))
 let b:=sg_n `Lean.Parser.Term.hygienicLParen #[sg_a "(",sg_n `hygieneInfo #[Lean.mkIdent .anonymous]]
 match c,l with
 |'@',_=>match k with|f::k=>sg_n `Lean.Parser.Term.app #[f,sg_n `null a]::k|_=>[]
 |'[',_=>sg_n (.mkSimple "term[_]") #[sg_a "[",p,sg_a "]"]::k
 |'#',_=>sg_n (.mkSimple "term#[_,]") #[sg_a "#[",p,sg_a "]"]::k
 |'⟨',_=>sg_n `Lean.Parser.Term.anonymousCtor #[sg_a "⟨",p,sg_a "⟩"]::k
 |'(',_=>sg_n `Lean.Parser.Term.tuple #[b,sg_n `null #[a[0]!,sg_a ",",sg_n `null (Lean.mkSepArray (a.extract 1 n) (sg_a ","))],sg_a ")"]::k
 |':',y::x::l=>sg_n `Lean.Parser.Term.typeAscription #[b,x,sg_a ":",sg_n `null #[y],sg_a ")"]::l
 |'\\',y::l=>sg_n `Lean.Parser.Term.fun #[sg_a "fun",sg_n `Lean.Parser.Term.basicFun #[sg_n `null (l.take n).reverse.toArray,sg_n `null #[],sg_a "=>",y]]::l.drop n
 |'¬',y::l=>sg_n `Lean.Parser.Term.forall #[sg_a "∀",sg_n `null (l.take n).reverse.toArray,sg_n `null #[],sg_a ",",y]::l.drop n
 |'>',y::x::l=>sg_n `Lean.Parser.Term.arrow #[x,sg_a "→",y]::l
 |'.',_=>sg_n `Lean.Parser.Term.dotIdent #[sg_a ".",sg_q t]::l
 |'!',x::l=>sg_n `Lean.Parser.Term.proj #[x,sg_a ".",if t.front.isDigit then sg_n `fieldIdx #[sg_a t] else sg_q t]::l
 |'?',y::x::l=>sg_n (.mkSimple ("term_"++t++"_")) #[x,sg_a t,y]::l
 |'$',_=>Lean.Syntax.mkCharLit (.ofNat n)::l
 |'"',_=>Lean.Syntax.mkStrLit t::l
 |'_',_=>(if t.isEmpty then sg_n `Lean.Parser.Term.hole #[sg_a "_"] else sg_q w)::l
 |_,_=>(if c.isDigit then (Lean.Syntax.mkNumLit w).raw else sg_q w)::l
|_=>l
def sg_t:="# .tuple .list S.map eC @1 @1 .list J.map eS @1 @1 [2 @1
$ kd .int 0 @1 @1
% kd .int 1 @1 @1
& Inv X bE σ H s @5
* model X.prog X.w @2
+ x \"__debug__ Str : ?==
, model prog w @2
- qX X N' sc cl C fp bE s H @9
/ .tuple .int 1 @1 .int 1 @1 .int 0 @1 [3 @1 .tuple .int 1 @1 .int 0 @1 .int 0 @1 [3 @1 .tuple .int 0 @1 .int 1 @1 .int 0 @1 [3 @1 [3
0 ps.map p encP p !1 p !2 @2 \\1 @1
1 qX X N' sc cl s.heap.objs.size D fp ?:: bE s H @9
2 rngP S P @2 !map p encP p !1 p !2 @2 \\1 @1
3 .Name x px @2
4 List KX Addr V ?× ?× @1"
open PySem renaming starEach→bG,wpAny→bK,mainGlobals→bL,sizeLine→bM,wpAny_loadPart'→bO,compareOp→bQ,foldedSetIterable→bR,bootBuiltins→bS,backTo→bT,attributeBase→bU,assignEach→bV,NameKind→bX,binaryOp→bY,swapsWith→bZ,cellsFrom→cf,cLine→cg,pushCells→cp,richCompare→cq,keywordEach→cu,codeAny→cA,sysModules→cB,behindInMarks→cE,sliceBounds→cF,seqItems?→cG,backToKw→cH,rawInt→cI,pyNext→cJ,letOwnedTupleGo→cL,seqIndex?→cM,firstArgMember→cN,hashInt→cO,intKind→cP,swapsWithSole→cQ,swappedStores→cR,wpAny_comprehension_free→cS,eqIsQuiet→cU,standAt→cV,reduceHash→cX
open PyProof.Rows renaming seqObj→cj,envOfC→cD,IsTup→cT,subscriptTail_builtinR→cW
abbrev bF:=@decide_eq_true
abbrev bH:=@decide_eq_false
abbrev bI:=@if_pos
abbrev bJ:=@if_neg
abbrev bN:=@of_decide_eq_true
abbrev bP:=@beq_eq_false_iff_ne
abbrev bW:=@decide_eq_true_eq
abbrev cm:=@if_false
abbrev cv:=@beq_iff_eq
abbrev cw:=@if_true
abbrev cz:=@beq_self_eq_true
abbrev cC:=@or_false
open PySem renaming PyData→Ka,Value→Kc,wpAny_bind→Kd,Addr→Ke,Shared→Kh,wpAny_pure→Kn,Expr→KB,Program→KJ,Stmt→KQ,Heap→KS,World→KZ,Around→K0,boot_len→Vb,FuncData→Vp,wpAny_newObj_type→Vx,Paired→VP,wpAny_holding→VZ,wpAny_call_entry→V4,ReadsAll→V5,Scope→V9,wpAny_truthy_bool→Ua,mem_of_lookup→Ui,wpAny_mono→Uj,plainId_quiet→Uq,wpAny_seqItems→Ut,codeAny_builtin→Uz,Keyword→UI,wpAny_field→UK,Reads→UN,wpAny_typeNameOfWhole_itemiter→UP,Builtin→UQ,wpAny_callSpecial?_slot→US,wpAny_tryCatch→UW,wpAny_letGo→U1,IsItemIter→U2,wpAny_Call_Name_kw→U4,wpAny_passesOwn→U9,wpAny_updateSeq→Xa,wpAny_typeNameOf_itemiter→Xh,sizeLine_eq→Xj,DictEntry→Xp,wpAny_specialOf→Xt,wpAny_pyIter_tuple→Xv,wpAny_setField_rec→Xx,wpAny_ite_split→Xy,wpAny_isOneOf_itemiter→Xz,wpAny_forIn_list→XH,intKind_is→X7,richCompare_meets_room→Nf,IntMulOk→Nj,wpAny_execs_nil→NA,call_meets→NC,codeAny_call_builtin→NF,wpAny_fieldsOf→NT,wpAny_newList→Ea,wpAny_dictEntries→Ej,NameKind→En,concat_meets→Eo,noFill_tuple_add→Ep,wpAny_isInstance→Eu,PassesOwn→EH,pushCells_keeps→EK,wpAny_dictEpoch→EL,wpAny_of_eq→ER,wpAny_newTuple→EZ,wpAny_setField→E1,evalArgs_none→Fc
open PySem.W renaming Frag→Kb,nsIn→KR,keepIn→Vl,kia_one→Vn,findIn→Vy,kitOne→VB,mg_none_of→VC,emptyDict→VQ,instObj→V0,fnOf→Ud,codeIn→UH,mroIn→Xn,kas_rev→Xo,mg_of→Ni,plainGet→Nk,kas_desc→Nr,makesIn→NB,kas_descPart→NN,lookIn→NQ,looks_findIn→NR,methodObj→Ec,specialIn→Ed,kitx_list→Ee,kitx_dict→Ef,OpenLaw→Eg,Looks→Em,kas_sort→Ex,takesIn→EI,cellsFrom_some→EN,plainGet_of→Fb,isFn→Fd,kitx_tuple→Fe,callWith_K→Ff,hasDictIn→Fj,plainOver→Fk,kitx_none→Fl,kitx_bool→Fm
open List renaming length_map→Kf,length_append→Kj,getElem?_eq_getElem→Kk,getElem?_eq_some_iff→Kl,mem_cons→Kr,mem_singleton→Ks,length_singleton→Kt,map_cons→Ku,length_cons→Kw,getElem?_map→Ky,map_append→Kz,size_toArray→KA,mem_append_right→KG,getElem?_append_left→KL,mem_append_left→KM,range→KN,mem_append→KO,length_range→KY,mem_map→K3,mem_of_getElem?→Va,getElem?_set_self→Vc,all_eq_true→Vg,getElem?_append_right→Vi,map_map→Vj,lookup_cons→Vr,replicate→Vt,mem_cons_of_mem→Vw,length_replicate→VD,map_nil→VF,drop_eq_getElem_cons→VH,mem_cons_self→VI,append_nil→VM,length_set→VN,length_nil→VO,getElem?_set_ne→VR,not_mem_nil→VW,find?_cons→V2,getElem?_of_mem→V3,filterMap_cons→V7,map_congr_left→V8,getElem?_eq_none→Ue,mem_of_find?_eq_some→Uk,mem_range→Ur,getElem?_replicate→Uu,reverse_cons→Uv,append_assoc→Uw,nodup_append→Ux,mem_filterMap→UG,any_cons→UR,length_take→UU,filterMap_nil→U7,find?_eq_none→U8,getD_eq_getElem?_getD→Xc,pairwise_map→Xe,length_filterMap_le→Xl,nodup_cons→Xq,zip_cons_cons→Xw,countP_le_length→XD,length→XO,length_reverse→XQ,getElem?_range→XR,getElem?_zip_eq_some→XU,find?_some→XW,nil_append→XX,getElem?_take_of_lt→XZ,nodup_nil→X6,Nodup→Na,getElem?_nil→Nc,drop_eq_nil_of_le→Ng,findIdx?_eq_some_iff_getElem→Nh,drop_length→Nn,getElem_mem→Nt,eraseIdxIfInBounds_toArray→Nx,length_zip→NL,all_map→NO,mem_zipIdx_iff_getElem?→NU,lookup→NW,zip_nil_right→N1,zip_nil_left→Ei,ext_getElem?→Ek,length_drop→Er,idxOf_lt_length_iff→ED,pairwise_singleton→EF,getLast?_cons_cons→EG,of_mem_zip→EJ,map_id→ET,take_of_length_le→EU,drop_of_length_le→EW,set_append_right→EY,filterMap_append→E2
open PySem.Str renaming ofString→Kg
open PySem.Heap renaming get?_push_of_some→Ki,get?_push_size→Kx,lt_size→KF,get?_update_other→K6,size_push→Vo,SameBut→UB,get?_update_self→UJ
open PySem.PyData renaming int→Km,canLayAll0→Kq,eqv→Kv,depthAll→KI,canLay0→KP,tuple→Vk,list→Vu,depth→UO,bool→UZ,dict→EV
open Option renaming none→Ko,some→K9,map_eq_some_iff→UD,isSome_some→Fg
open Nat renaming le_refl→Kp,ne_of_lt→KW,lt_of_lt_of_le→K8,le_trans→Ve,zero_le→Vh,lt_succ_of_lt→Vm,le_of_lt→VA,lt_irrefl→Uc,ne_of_gt→UC,lt_succ_self→UE,le_succ→UL,not_lt_zero→Xb,sub_self→X5,le_max_right→Np,min_le_left→ND,le_max_left→NJ,add_assoc→N8,le_succ_of_le→El,succ_le_succ→Es,lt_trans→Et,zero_add→Ew,succ_ne_self→EA,add_comm→Fh,lt_or_ge→Fi
open PySem.Pos renaming mk→KC
open Bool renaming and_eq_true→KD,false→Vz,false_ne_true→VJ,false_eq_true→VL,true→Ug,eq_iff_iff→Xu,false_or→XJ,or_eq_true→NG,true_or→NK,eq_false_iff→Eh,and_eq_true_iff→E6,not_true→E7,true_and→E9
open Array renaming length_toList→KU,getElem?_eq_getElem→VS,getElem?_toList→Um,getElem?_eq_none→U0,mem_toList_iff→XG,getElem_toList→NI,getElem?_eq_some_iff→Eb
open PySem.PassesOwn renaming never→K1
open Int renaming toNat_natCast→K4,le_refl→NX,natCast_nonneg→N4,emod_nonneg→EM
open PySem.Expr renaming Name→K5,Call→U3,Constant→XI,Subscript→EX
open PySem.SeqAt renaming canLay_of_shaped→K7,shaped→Vf,readOf→X4,eqAt_reads→Nl
open PySem.Value renaming ref→Vd,type→Vs,bool→Vv,none→VE,builtin→VU,str→Nu,notImplemented→NH,int→NY
open PySem.NameKind renaming free→Vq,cell→VV,globalImplicit→VX
open PySem.Builtin.Tuple renaming tupleHashOf→VG,tupleExact→Xk,tupleCompareSizes→Ny,tupleItemsOf→N7
open PySem.Obj renaming mk→VT,mapSeq→Ub
open PySem.F renaming plainAttrs_list→VY,slot_dict_itemiterator_next→V6,plain_min_loop→UV,plain_max_loop→UX,slot_tuple_iterator_next→Xd,slot_list_pop→Xm,slot_list_append→Xr,slot_tuple_hash→XA,args_tuple_add_2→X2,type_list_append→X3,entry_tuple_add→Nb,slot_tuple_add→Nd,typeOf_object_class→Nv,type_list_pop→Nw,args_dict_itemiterator_next_1→Nz,entry_dict_itemiterator_next→NM,slot_dict_itemiterator_iter→NP,args_tuple_iterator_next_1→NS,entry_tuple_iterator_next→N2,slot_tuple_index→Ey,entry_min_loop→Ez,entry_max_loop→EB,slot_list_index→EE,slot_list_clear→E4,slot_dict_items→E5,slot_gs_get→E8
open Option.some renaming inj→V1
open PySem.Around renaming under_plainId→Uh
open Ne renaming symm→Ul
open PySem.ScopeKind renaming function→Uo
open True renaming intro→Us
open PyProof.Rows renaming callWith_type1→Uy,slot_tuple_getitem→UY,AllBare→XN,listUpdate_at→N9,seqEpoch_at→EO
open PySem.Data renaming fields→UA,func→XE,dict→XY,cls→E3
open PySem.FuncBody renaming stmts→UF
open False renaming elim→UM
open PySem.Builtin.Int renaming intBits→UT
open PySem.Builtin.Builtins renaming bindParams→U5
open PySem.Builtin.List renaming listExtendWith→U6,listLengthHint→N3,listSameRef→EC,listItems→ES
open PySem.Builtin.Slice renaming slicePlaces→Xf,sliceAdjust→XT,sliceApplied→N6
open PySem.Builtin.SmallTypes renaming nextOf→Xg
open PySem.FuncData renaming mk→Xi
open ForInStep renaming yield→Xs
open PySem.Arguments renaming mk→XB
open PySem.Builtin.Dict_items renaming ownsTuple→XC,ownedTupleFields→X8,ownedTupleIsFree→X9,pairFromOwner→Nq
open PySem.W.Fast renaming tw14364793385576792824→XF,tw14082659384304107361→NZ,te14364793385576792824→N0,tw1435165496053646825→N5
open PySem.Stmt renaming Return→XM,Assign→NV
noncomputable section
local macro_rules
|`($c:char)=>match (sg_t.splitOn "\n").find? (λs=>s.front==c.getChar) with
 |some s=>match ((s.splitOn " ").tail.foldl sg_s []) with|x::_=>pure x|_=>Lean.Macro.throwUnsupported
 |_=>Lean.Macro.throwUnsupported
namespace HD
open PySem PySem.W PySem.Calls PyProof.Rows
noncomputable def vw:KJ:=view PySem.Challenge.pw_sheetfold_k14_whole_folded_or_why [1,2,4,5,6,7,8,10,11,12,13,14,15,16,18,20,21,22,23,24,25,26,28,29,30,32,33,34,36,37,39,40,41,42,43,44,45,46,47,48,49,50,51,52,53,54,55,56,57,58,59,60,61,62,63]
def tp (i:Nat):KQ:=PySem.Challenge.pw_sheetfold_k14_whole_folded_or_why.main.body.getD i (.Pass ⟨0,0,0,0⟩)
def dA:KQ->Arguments
 | .FunctionDef _ a _ _ _ _ _ _ _ _=>a
 | _=>default
def dB:KQ->List KQ
 | .FunctionDef _ _ b _ _ _ _ _ _ _=>b
 | _=>[]
def dS:KQ->V9
 | .FunctionDef _ _ _ _ _ _ s _ _ _=>s
 | _=>default
abbrev de (P:Params)(x:String)(t:Nat)(v:Kc):Xp:=DictEntry.mk (PyData.keyHash P (Kg x)) (Nu (Kg x) t) v
noncomputable abbrev S (x:String)(t:Nat):Kc:=Nu (Kg x) t
abbrev I (n:Int)(t:Nat):Kc:=NY n t
noncomputable abbrev R (a:Ke):Kc:=Vd a
abbrev Y (x:String):Kc:=Vs x
noncomputable abbrev N:Kc:=VE
abbrev tu (a:Array Kc):Obj:=VT (Vs "tuple") Ko (Data.seq a) #[]
abbrev cc (x:String)(t1 t2 t3:Nat)(l n:Int)(a1:Ke)(k:Int)(a2:Ke)(u v:Kc)(a3:Ke)(t4:Int)(t5:Nat):Obj:=VT (Vs "code") Ko (UA #[S x t1,S x t2,S "/claim/cut.py" t3,I l 0,I n 0,I 0 0,I 0 0,I 3 0,R a1,Vv Ug,I k 0,R a2,N,u,v,R a3,I t4 0,I l 0,S "/claim/cut.py" t5]) #[]
abbrev xc (x:String)(e a d b:Ke)(t u:Nat):Obj:=VT (Y "type") Ko (E3 (ClassData.mk (Kg x) [R e] [R a,R e,Y "ValueError", Y "Exception", Y "BaseException", Y "object"] d (Kg x) Ug [] [] Vz Ko Vz)) #[K9 (R b),Ko,K9 (S x t),K9 (S x u),K9 (VU "ValueError.__new__"),K9 (Vv Ug)]
abbrev xd (P:Params)(t1 t2 t3:Nat)(l:Int)(t4 t5:Nat)(a:Ke)(t6:Nat):Obj:=VT (Y "dict") Ko (XY #[de P "__module__" t1 (S "sheetfold.errors" t2),de P "__firstlineno__" t3 (I l t4),de P "__static_attributes__" t5 (R a),de P "__doc__" t6 N] 2) #[]
abbrev fu (x:String)(i:Nat)(m:String)(t:Nat)(c:Ke):Obj:=VT (Vs "function") Ko (XE (Xi (Kg x) (Kg x) (dA (tp i)) (UF (dB (tp i))) (dS (tp i)) 3 [] N N N (S m t) Ko (R c) N 0)) #[]
set_option maxHeartbeats 0 in
noncomputable def KH:Params->Kb:=λP =>
(nat_lit 2,VT N Ko (XY #[]) #[]) ::
(nat_lit 3,VT (Y "dict") Ko (XY #[de P "__name__" 165 (S "law_sheetfold_k14_whole_folded_or_why" 569),de P "__doc__" 166 N,de P "__package__" 167 N,de P "__loader__" 168 (VU "__main__.__loader__#opaque"),de P "__spec__" 169 N,de P "__annotations__" 170 (R 6),de P "__builtins__" 171 (R 4),de P "__file__" 173 (S "/claim/cut.py" 172),de P "__cached__" 174 N,de P "SheetError" 206 (R 24),de P "NoBend" 222 (R 37),de P "links_of" 230 (R 44),de P "reached_from" 242 (R 51),de P "first_meeting" 252 (R 58),de P "path_back" 261 (R 65),de P "path_between" 272 (R 72),de P "is_whole" 281 (R 79),de P "added" 289 (R 86),de P "negated" 296 (R 93),de P "cross" 304 (R 100),de P "turned" 310 (R 105),de P "joined_turns" 318 (R 112),de P "turn_back" 324 (R 117),de P "out_of" 333 (R 124),de P "BENDS" 340 (R 125),de P "unit_of" 348 (R 132),de P "Join" 398 (R 163),de P "Up" 430 (R 191),de P "Down" 462 (R 217),de P "is_bend" 469 (R 226),de P "join_of" 476 (R 233),de P "STEPS" 489 (R 238),de P "step_between" 497 (R 245),de P "neighbours" 511 (R 252),de P "START" 523 (R 256),de P "steps_of" 535 (R 263),de P "led_by" 543 (R 270),de P "folded" 550 (R 276),de P "poses_along" 562 (R 283),de P "clash_or_folded" 568 (R 288),de P "_law_cell" 578 (R 295),de P "_law_mixed" 587 (R 302),de P "_law_steps" 601 (R 309),de P "_law_place" 608 (R 316),de P "_law_whole" 615 (R 323),de P "_law_cross" 629 (R 330),de P "_law_dot" 637 (R 337),de P "_law_sum" 646 (R 344),de P "_law_unit" 654 (R 351),de P "_law_led" 669 (R 358),de P "_law_is_spot" 675 (R 363),de P "_law_is_pose" 681 (R 368),de P "_law_neighbour" 689 (R 375),de P "_law_joined" 695 (R 380),de P "_law_grown" 711 (R 387),de P "_law_sheet" 717 (R 392),de P "_law_near" 723 (R 397),de P "_law_walked" 729 (R 402),de P "_law_poses" 735 (R 407),de P "_law_clash" 744 (R 414),de P "_law_leads" 756 (R 421),de P "_law_folded" 766 (R 428),de P "_law_ring" 777 (R 435),de P "_law_right" 789 (R 442),de P "law" 803 (R 449)] 65) #[]) ::
(nat_lit 15,tu #[Y "ValueError"]) ::
(nat_lit 22,tu #[]) ::
(nat_lit 23,VT (Y "dict") Ko (XY #[de P "__module__" 196 (S "sheetfold.errors" 187),de P "__firstlineno__" 200 (I 2 199),de P "__static_attributes__" 201 (R 22),de P "__weakref__" 203 (R 25),de P "__doc__" 204 N] 3) #[]) ::
(nat_lit 24,VT (Y "type") Ko (E3 (ClassData.mk (Kg "SheetError") [Y "ValueError"] [R 24,Y "ValueError", Y "Exception", Y "BaseException", Y "object"] 23 (Kg "SheetError") Ug [] [R 37] Vz Ko Vz)) #[K9 (R 15),Ko,K9 (S "SheetError" 189),K9 (S "SheetError" 197),K9 (VU "ValueError.__new__"),K9 (Vv Ug)]) ::
(nat_lit 25,VT (Y "getset_descriptor") Ko (UA #[S "__weakref__" 202,R 24,VU "ExceptionGroup.__weakref__", N]) #[]) ::
(nat_lit 28,tu #[R 24]) ::
(nat_lit 35,tu #[]) ::
(nat_lit 36,xd P 214 187 218 4 217 219 35 220) ::
(nat_lit 37,xc "NoBend" 24 37 36 28 207 215) ::
(nat_lit 40,tu #[]) ::
(nat_lit 43,cc "links_of" 225 226 227 7 2 40 181 41 N N 42 228 229) ::
(nat_lit 44,fu "links_of" 4 "sheetfold.hanging" 223 43) ::
(nat_lit 45,tu #[]) ::
(nat_lit 47,tu #[S "start" 234,S "links" 235,S "origins" 236,S "waiting" 237,S "k" 238,S "j" 239]) ::
(nat_lit 48,tu #[]) ::
(nat_lit 50,cc "reached_from" 231 232 233 13 2 45 181 46 (R 47) (R 48) 49 240 241) ::
(nat_lit 51,fu "reached_from" 5 "sheetfold.hanging" 223 50) ::
(nat_lit 52,tu #[]) ::
(nat_lit 54,tu #[S "things" 246,S "numbers" 247,S "j" 248,S "thing" 249]) ::
(nat_lit 55,tu #[]) ::
(nat_lit 57,cc "first_meeting" 243 244 245 23 1 52 181 53 (R 54) (R 55) 56 250 251) ::
(nat_lit 58,fu "first_meeting" 6 "sheetfold.hanging" 223 57) ::
(nat_lit 59,tu #[]) ::
(nat_lit 61,tu #[S "origins" 256,S "k" 257,S "path" 258]) ::
(nat_lit 62,tu #[]) ::
(nat_lit 64,cc "path_back" 253 254 255 30 2 59 181 60 (R 61) (R 62) 63 259 260) ::
(nat_lit 65,fu "path_back" 7 "sheetfold.hanging" 223 64) ::
(nat_lit 66,tu #[]) ::
(nat_lit 68,tu #[S "origins" 265,S "i" 266,S "j" 267,S "there" 268,S "back" 269]) ::
(nat_lit 69,tu #[]) ::
(nat_lit 71,cc "path_between" 262 263 264 36 3 66 181 67 (R 68) (R 69) 70 270 271) ::
(nat_lit 72,fu "path_between" 8 "sheetfold.hanging" 223 71) ::
(nat_lit 73,tu #[]) ::
(nat_lit 75,tu #[S "thing" 278]) ::
(nat_lit 76,tu #[]) ::
(nat_lit 78,cc "is_whole" 275 276 277 44 1 73 181 74 (R 75) (R 76) 77 279 280) ::
(nat_lit 79,fu "is_whole" 10 "sheetfold.turns" 273 78) ::
(nat_lit 80,tu #[]) ::
(nat_lit 82,tu #[S "one" 285,S "other" 286]) ::
(nat_lit 83,tu #[]) ::
(nat_lit 85,cc "added" 282 283 284 46 2 80 181 81 (R 82) (R 83) 84 287 288) ::
(nat_lit 86,fu "added" 11 "sheetfold.turns" 273 85) ::
(nat_lit 87,tu #[]) ::
(nat_lit 89,tu #[S "spot" 293]) ::
(nat_lit 90,tu #[]) ::
(nat_lit 92,cc "negated" 290 291 292 48 1 87 181 88 (R 89) (R 90) 91 294 295) ::
(nat_lit 93,fu "negated" 12 "sheetfold.turns" 273 92) ::
(nat_lit 94,tu #[]) ::
(nat_lit 96,tu #[S "one" 300,S "other" 301]) ::
(nat_lit 97,tu #[]) ::
(nat_lit 99,cc "cross" 297 298 299 50 2 94 181 95 (R 96) (R 97) 98 302 303) ::
(nat_lit 100,fu "cross" 13 "sheetfold.turns" 273 99) ::
(nat_lit 101,tu #[]) ::
(nat_lit 104,cc "turned" 305 306 307 52 2 101 181 102 N N 103 308 309) ::
(nat_lit 105,fu "turned" 14 "sheetfold.turns" 273 104) ::
(nat_lit 106,tu #[]) ::
(nat_lit 108,tu #[S "first" 314,S "second" 315]) ::
(nat_lit 109,tu #[]) ::
(nat_lit 111,cc "joined_turns" 311 312 313 54 2 106 181 107 (R 108) (R 109) 110 316 317) ::
(nat_lit 112,fu "joined_turns" 15 "sheetfold.turns" 273 111) ::
(nat_lit 113,tu #[]) ::
(nat_lit 116,cc "turn_back" 319 320 321 56 1 113 181 114 N N 115 322 323) ::
(nat_lit 117,fu "turn_back" 16 "sheetfold.turns" 273 116) ::
(nat_lit 118,tu #[]) ::
(nat_lit 120,tu #[S "pose" 330]) ::
(nat_lit 121,tu #[]) ::
(nat_lit 123,cc "out_of" 327 328 329 59 1 118 181 119 (R 120) (R 121) 122 331 332) ::
(nat_lit 124,fu "out_of" 18 "sheetfold.moves" 325 123) ::
(nat_lit 125,tu #[I (-1) 337,I 0 338,I 1 339]) ::
(nat_lit 126,tu #[]) ::
(nat_lit 128,tu #[S "pose" 344,S "way" 345]) ::
(nat_lit 129,tu #[]) ::
(nat_lit 131,cc "unit_of" 341 342 343 63 2 126 181 127 (R 128) (R 129) 130 346 347) ::
(nat_lit 132,fu "unit_of" 21 "sheetfold.joins" 334 131) ::
(nat_lit 140,tu #[]) ::
(nat_lit 142,tu #[S "self" 364]) ::
(nat_lit 143,tu #[]) ::
(nat_lit 145,VT (Y "code") Ko (UA #[S "bend" 361,S "Join.bend" 362,S "/claim/cut.py" 363,I 67 0,I 1 0,I 0 0,I 0 0,I 3 0,R 140,Vv Ug,I 181 0,R 141,N,R 142,R 143,R 144,I 365 0,I 67 0,S "/claim/cut.py" 366]) #[]) ::
(nat_lit 146,VT (Y "function") Ko (XE (Xi (Kg "bend") (Kg "Join.bend") (XB [] [Arg.mk (Kg "self") Ko (KC 67 13 67 17)] Ko [] [] Ko []) (UF [XM (K9 (XI (Const.int 0) 0 (KC 68 15 68 16))) (KC 68 8 68 16)]) (Scope.mk Uo [(Kg "self", bX.local)] Vz Vz []) 3 [] N N N (S "sheetfold.joins" 334) Ko (R 145) N 0)) #[]) ::
(nat_lit 147,tu #[]) ::
(nat_lit 149,tu #[S "self" 371,S "unit" 372,S "out" 373]) ::
(nat_lit 150,tu #[]) ::
(nat_lit 152,VT (Y "code") Ko (UA #[S "goes_on" 368,S "Join.goes_on" 369,S "/claim/cut.py" 370,I 70 0,I 3 0,I 0 0,I 0 0,I 3 0,R 147,Vv Ug,I 181 0,R 148,N,R 149,R 150,R 151,I 374 0,I 70 0,S "/claim/cut.py" 375]) #[]) ::
(nat_lit 153,VT (Y "function") Ko (XE (Xi (Kg "goes_on") (Kg "Join.goes_on") (XB [] [Arg.mk (Kg "self") Ko (KC 70 16 70 20),Arg.mk (Kg "unit") Ko (KC 70 22 70 26),Arg.mk (Kg "out") Ko (KC 70 28 70 31)] Ko [] [] Ko []) (UF [XM (K9 (K5 (Kg "unit") (KC 71 15 71 19))) (KC 71 8 71 19)]) (Scope.mk Uo [(Kg "self", bX.local),(Kg "unit", bX.local),(Kg "out", bX.local)] Vz Vz []) 3 [] N N N (S "sheetfold.joins" 334) Ko (R 152) N 0)) #[]) ::
(nat_lit 154,tu #[]) ::
(nat_lit 156,tu #[S "self" 380,S "pose" 381,S "way" 382,S "unit" 383,S "out" 384,S "edge" 385,S "beyond" 386,S "turn" 387]) ::
(nat_lit 157,tu #[]) ::
(nat_lit 159,VT (Y "code") Ko (UA #[S "led" 377,S "Join.led" 378,S "/claim/cut.py" 379,I 73 0,I 3 0,I 0 0,I 0 0,I 3 0,R 154,Vv Ug,I 181 0,R 155,N,R 156,R 157,R 158,I 388 0,I 73 0,S "/claim/cut.py" 389]) #[]) ::
(nat_lit 160,VT (Y "function") Ko (XE (Xi (Kg "led") (Kg "Join.led") (XB [] [Arg.mk (Kg "self") Ko (KC 73 12 73 16),Arg.mk (Kg "pose") Ko (KC 73 18 73 22),Arg.mk (Kg "way") Ko (KC 73 24 73 27)] Ko [] [] Ko []) (UF [NV [K5 (Kg "unit") (KC 74 8 74 12)] (U3 (K5 (Kg "unit_of") (KC 74 15 74 22)) [K5 (Kg "pose") (KC 74 23 74 27),K5 (Kg "way") (KC 74 29 74 32)] [] (KC 74 15 74 33)) (KC 74 8 74 33),NV [K5 (Kg "out") (KC 75 8 75 11)] (U3 (K5 (Kg "out_of") (KC 75 14 75 20)) [K5 (Kg "pose") (KC 75 21 75 25)] [] (KC 75 14 75 26)) (KC 75 8 75 26),NV [K5 (Kg "edge") (KC 76 8 76 12)] (U3 (K5 (Kg "cross") (KC 76 15 76 20)) [K5 (Kg "unit") (KC 76 21 76 25),K5 (Kg "out") (KC 76 27 76 30)] [] (KC 76 15 76 31)) (KC 76 8 76 31),NV [K5 (Kg "beyond") (KC 77 8 77 14)] (U3 (Expr.Attribute (K5 (Kg "self") (KC 77 17 77 21)) (Kg "goes_on") (KC 77 17 77 29)) [K5 (Kg "unit") (KC 77 30 77 34),K5 (Kg "out") (KC 77 36 77 39)] [] (KC 77 17 77 40)) (KC 77 8 77 40),NV [K5 (Kg "turn") (KC 78 8 78 12)] (U3 (K5 (Kg "joined_turns") (KC 78 15 78 27)) [U3 (K5 (Kg "turn_back") (KC 78 28 78 37)) [Expr.Tuple [K5 (Kg "unit") (KC 78 39 78 43),K5 (Kg "out") (KC 78 45 78 48),K5 (Kg "edge") (KC 78 50 78 54)] 0 (KC 78 38 78 55)] [] (KC 78 28 78 56),Expr.Tuple [K5 (Kg "beyond") (KC 78 59 78 65),U3 (K5 (Kg "cross") (KC 78 67 78 72)) [K5 (Kg "edge") (KC 78 73 78 77),K5 (Kg "beyond") (KC 78 79 78 85)] [] (KC 78 67 78 86),K5 (Kg "edge") (KC 78 88 78 92)] 0 (KC 78 58 78 93)] [] (KC 78 15 78 94)) (KC 78 8 78 94),XM (K9 (Expr.Tuple [U3 (K5 (Kg "added") (KC 79 16 79 21)) [U3 (K5 (Kg "added") (KC 79 22 79 27)) [EX (K5 (Kg "pose") (KC 79 28 79 32)) (XI (Const.int 0) 0 (KC 79 33 79 34)) (KC 79 28 79 35),K5 (Kg "unit") (KC 79 37 79 41)] [] (KC 79 22 79 42),K5 (Kg "beyond") (KC 79 44 79 50)] [] (KC 79 16 79 51),U3 (K5 (Kg "turned") (KC 79 53 79 59)) [K5 (Kg "turn") (KC 79 60 79 64),EX (K5 (Kg "pose") (KC 79 66 79 70)) (XI (Const.int 1) 0 (KC 79 71 79 72)) (KC 79 66 79 73)] [] (KC 79 53 79 74),U3 (K5 (Kg "turned") (KC 79 76 79 82)) [K5 (Kg "turn") (KC 79 83 79 87),EX (K5 (Kg "pose") (KC 79 89 79 93)) (XI (Const.int 2) 0 (KC 79 94 79 95)) (KC 79 89 79 96)] [] (KC 79 76 79 97)] 0 (KC 79 15 79 98))) (KC 79 8 79 98)]) (Scope.mk Uo [(Kg "self", bX.local),(Kg "pose", bX.local),(Kg "way", bX.local),(Kg "unit", bX.local),(Kg "out", bX.local),(Kg "edge", bX.local),(Kg "beyond", bX.local),(Kg "turn", bX.local),(Kg "unit_of", VX),(Kg "out_of", VX),(Kg "cross", VX),(Kg "joined_turns", VX),(Kg "turn_back", VX),(Kg "added", VX),(Kg "turned", VX)] Vz Vz []) 3 [] N N N (S "sheetfold.joins" 334) Ko (R 159) N 0)) #[]) ::
(nat_lit 161,tu #[]) ::
(nat_lit 162,VT (Y "dict") Ko (XY #[de P "__module__" 356 (S "sheetfold.joins" 334),de P "__firstlineno__" 360 (I 65 359),de P "bend" 367 (R 146),de P "goes_on" 376 (R 153),de P "led" 390 (R 160),de P "__static_attributes__" 391 (R 161),de P "__dict__" 393 (R 164),de P "__weakref__" 395 (R 165),de P "__doc__" 396 N] 4) #[]) ::
(nat_lit 163,VT (Y "type") Ko (E3 (ClassData.mk (Kg "Join") [Y "object"] [R 163,Y "object"] 162 (Kg "Join") Ug [] [R 191,R 217] Vz Ko Vz)) #[Ko,Ko,K9 (S "Join" 349),K9 (S "Join" 357),K9 (VU "object.__new__"),K9 (Vv Ug)]) ::
(nat_lit 164,VT (Y "getset_descriptor") Ko (UA #[S "__dict__" 392,R 163,VU "function.__dict__", VU "function.__dict__#set"]) #[]) ::
(nat_lit 165,VT (Y "getset_descriptor") Ko (UA #[S "__weakref__" 394,R 163,VU "ExceptionGroup.__weakref__", N]) #[]) ::
(nat_lit 168,tu #[R 163]) ::
(nat_lit 175,tu #[]) ::
(nat_lit 177,tu #[S "self" 414]) ::
(nat_lit 178,tu #[]) ::
(nat_lit 180,VT (Y "code") Ko (UA #[S "bend" 411,S "Up.bend" 412,S "/claim/cut.py" 413,I 82 0,I 1 0,I 0 0,I 0 0,I 3 0,R 175,Vv Ug,I 181 0,R 176,N,R 177,R 178,R 179,I 415 0,I 82 0,S "/claim/cut.py" 416]) #[]) ::
(nat_lit 181,VT (Y "function") Ko (XE (Xi (Kg "bend") (Kg "Up.bend") (XB [] [Arg.mk (Kg "self") Ko (KC 82 13 82 17)] Ko [] [] Ko []) (UF [XM (K9 (XI (Const.int 1) 0 (KC 83 15 83 16))) (KC 83 8 83 16)]) (Scope.mk Uo [(Kg "self", bX.local)] Vz Vz []) 3 [] N N N (S "sheetfold.joins" 334) Ko (R 180) N 0)) #[]) ::
(nat_lit 182,tu #[]) ::
(nat_lit 184,tu #[S "self" 421,S "unit" 422,S "out" 423]) ::
(nat_lit 185,tu #[]) ::
(nat_lit 187,VT (Y "code") Ko (UA #[S "goes_on" 418,S "Up.goes_on" 419,S "/claim/cut.py" 420,I 85 0,I 3 0,I 0 0,I 0 0,I 3 0,R 182,Vv Ug,I 181 0,R 183,N,R 184,R 185,R 186,I 424 0,I 85 0,S "/claim/cut.py" 425]) #[]) ::
(nat_lit 188,VT (Y "function") Ko (XE (Xi (Kg "goes_on") (Kg "Up.goes_on") (XB [] [Arg.mk (Kg "self") Ko (KC 85 16 85 20),Arg.mk (Kg "unit") Ko (KC 85 22 85 26),Arg.mk (Kg "out") Ko (KC 85 28 85 31)] Ko [] [] Ko []) (UF [XM (K9 (K5 (Kg "out") (KC 86 15 86 18))) (KC 86 8 86 18)]) (Scope.mk Uo [(Kg "self", bX.local),(Kg "unit", bX.local),(Kg "out", bX.local)] Vz Vz []) 3 [] N N N (S "sheetfold.joins" 334) Ko (R 187) N 0)) #[]) ::
(nat_lit 189,tu #[]) ::
(nat_lit 190,VT (Y "dict") Ko (XY #[de P "__module__" 406 (S "sheetfold.joins" 334),de P "__firstlineno__" 410 (I 80 409),de P "bend" 417 (R 181),de P "goes_on" 426 (R 188),de P "__static_attributes__" 427 (R 189),de P "__doc__" 428 N] 2) #[]) ::
(nat_lit 191,VT (Y "type") Ko (E3 (ClassData.mk (Kg "Up") [R 163] [R 191,R 163,Y "object"] 190 (Kg "Up") Ug [] [] Vz Ko Vz)) #[K9 (R 168),Ko,K9 (S "Up" 399),K9 (S "Up" 407),K9 (VU "object.__new__"),K9 (Vv Ug)]) ::
(nat_lit 194,tu #[R 163]) ::
(nat_lit 201,tu #[]) ::
(nat_lit 203,tu #[S "self" 446]) ::
(nat_lit 204,tu #[]) ::
(nat_lit 206,VT (Y "code") Ko (UA #[S "bend" 443,S "Down.bend" 444,S "/claim/cut.py" 445,I 89 0,I 1 0,I 0 0,I 0 0,I 3 0,R 201,Vv Ug,I 181 0,R 202,N,R 203,R 204,R 205,I 447 0,I 89 0,S "/claim/cut.py" 448]) #[]) ::
(nat_lit 207,VT (Y "function") Ko (XE (Xi (Kg "bend") (Kg "Down.bend") (XB [] [Arg.mk (Kg "self") Ko (KC 89 13 89 17)] Ko [] [] Ko []) (UF [XM (K9 (Expr.UnaryOp UnaryOp.USub (XI (Const.int 1) 0 (KC 90 16 90 17)) (KC 90 15 90 17))) (KC 90 8 90 17)]) (Scope.mk Uo [(Kg "self", bX.local)] Vz Vz []) 3 [] N N N (S "sheetfold.joins" 334) Ko (R 206) N 0)) #[]) ::
(nat_lit 208,tu #[]) ::
(nat_lit 210,tu #[S "self" 453,S "unit" 454,S "out" 455]) ::
(nat_lit 211,tu #[]) ::
(nat_lit 213,VT (Y "code") Ko (UA #[S "goes_on" 450,S "Down.goes_on" 451,S "/claim/cut.py" 452,I 92 0,I 3 0,I 0 0,I 0 0,I 3 0,R 208,Vv Ug,I 181 0,R 209,N,R 210,R 211,R 212,I 456 0,I 92 0,S "/claim/cut.py" 457]) #[]) ::
(nat_lit 214,VT (Y "function") Ko (XE (Xi (Kg "goes_on") (Kg "Down.goes_on") (XB [] [Arg.mk (Kg "self") Ko (KC 92 16 92 20),Arg.mk (Kg "unit") Ko (KC 92 22 92 26),Arg.mk (Kg "out") Ko (KC 92 28 92 31)] Ko [] [] Ko []) (UF [XM (K9 (U3 (K5 (Kg "negated") (KC 93 15 93 22)) [K5 (Kg "out") (KC 93 23 93 26)] [] (KC 93 15 93 27))) (KC 93 8 93 27)]) (Scope.mk Uo [(Kg "self", bX.local),(Kg "unit", bX.local),(Kg "out", bX.local),(Kg "negated", VX)] Vz Vz []) 3 [] N N N (S "sheetfold.joins" 334) Ko (R 213) N 0)) #[]) ::
(nat_lit 215,tu #[]) ::
(nat_lit 216,VT (Y "dict") Ko (XY #[de P "__module__" 438 (S "sheetfold.joins" 334),de P "__firstlineno__" 442 (I 87 441),de P "bend" 449 (R 207),de P "goes_on" 458 (R 214),de P "__static_attributes__" 459 (R 215),de P "__doc__" 460 N] 2) #[]) ::
(nat_lit 217,VT (Y "type") Ko (E3 (ClassData.mk (Kg "Down") [R 163] [R 217,R 163,Y "object"] 216 (Kg "Down") Ug [] [] Vz Ko Vz)) #[K9 (R 194),Ko,K9 (S "Down" 431),K9 (S "Down" 439),K9 (VU "object.__new__"),K9 (Vv Ug)]) ::
(nat_lit 220,tu #[]) ::
(nat_lit 222,tu #[S "thing" 466]) ::
(nat_lit 223,tu #[]) ::
(nat_lit 225,cc "is_bend" 463 464 465 94 1 220 181 221 (R 222) (R 223) 224 467 468) ::
(nat_lit 226,fu "is_bend" 25 "sheetfold.joins" 334 225) ::
(nat_lit 227,tu #[]) ::
(nat_lit 229,tu #[S "bend" 473]) ::
(nat_lit 230,tu #[]) ::
(nat_lit 232,cc "join_of" 470 471 472 96 1 227 181 228 (R 229) (R 230) 231 474 475) ::
(nat_lit 233,fu "join_of" 26 "sheetfold.joins" 334 232) ::
(nat_lit 234,tu #[I 1 479,I 0 480]) ::
(nat_lit 235,tu #[I 0 481,I 1 482]) ::
(nat_lit 236,tu #[I (-1) 484,I 0 485]) ::
(nat_lit 237,tu #[I 0 486,I (-1) 488]) ::
(nat_lit 238,tu #[R 234,R 235,R 236,R 237]) ::
(nat_lit 239,tu #[]) ::
(nat_lit 241,tu #[S "cell" 493,S "other" 494]) ::
(nat_lit 242,tu #[]) ::
(nat_lit 244,cc "step_between" 490 491 492 106 2 239 181 240 (R 241) (R 242) 243 495 496) ::
(nat_lit 245,fu "step_between" 29 "sheetfold.sheets" 477 244) ::
(nat_lit 246,tu #[]) ::
(nat_lit 248,tu #[S "sheet" 501,S "k" 502,S "cells" 503,S "found" 504,S "i" 505,S "j" 506,S "bend" 507,S "other" 508]) ::
(nat_lit 249,tu #[]) ::
(nat_lit 251,cc "neighbours" 498 499 500 108 2 246 181 247 (R 248) (R 249) 250 509 510) ::
(nat_lit 252,fu "neighbours" 30 "sheetfold.sheets" 477 251) ::
(nat_lit 253,tu #[I 1 514,I 1 515,I 0 516]) ::
(nat_lit 254,tu #[I 1 517,I 0 518,I 0 519]) ::
(nat_lit 255,tu #[I 0 520,I 1 521,I 0 522]) ::
(nat_lit 256,tu #[R 253,R 254,R 255]) ::
(nat_lit 257,tu #[]) ::
(nat_lit 259,tu #[S "sheet" 527,S "steps" 528,S "k" 529,S "way" 530,S "j" 531,S "bend" 532]) ::
(nat_lit 260,tu #[]) ::
(nat_lit 262,cc "steps_of" 524 525 526 118 1 257 181 258 (R 259) (R 260) 261 533 534) ::
(nat_lit 263,fu "steps_of" 33 "sheetfold.folding" 512 262) ::
(nat_lit 264,tu #[]) ::
(nat_lit 266,tu #[S "step" 539,S "pose" 540]) ::
(nat_lit 267,tu #[]) ::
(nat_lit 269,cc "led_by" 536 537 538 124 2 264 181 265 (R 266) (R 267) 268 541 542) ::
(nat_lit 270,fu "led_by" 34 "sheetfold.folding" 512 269) ::
(nat_lit 271,tu #[I 0 544,N]) ::
(nat_lit 272,tu #[]) ::
(nat_lit 275,cc "folded" 545 546 547 126 3 272 181 273 N N 274 548 549) ::
(nat_lit 276,VT (Y "function") Ko (XE (Xi (Kg "folded") (Kg "folded") (dA (tp 35)) (UF (dB (tp 35))) (dS (tp 35)) 3 [] (R 271) N N (S "sheetfold.folding" 512) Ko (R 275) N 0)) #[]) ::
(nat_lit 277,tu #[]) ::
(nat_lit 279,tu #[S "steps" 554,S "origins" 555,S "pose" 556,S "poses" 557,S "k" 558,S "origin" 559]) ::
(nat_lit 280,tu #[]) ::
(nat_lit 282,cc "poses_along" 551 552 553 134 3 277 181 278 (R 279) (R 280) 281 560 561) ::
(nat_lit 283,fu "poses_along" 36 "sheetfold.folding" 512 282) ::
(nat_lit 284,tu #[]) ::
(nat_lit 287,cc "clash_or_folded" 563 564 565 139 1 284 181 285 N N 286 566 567) ::
(nat_lit 288,fu "clash_or_folded" 37 "sheetfold.folding" 512 287) ::
(nat_lit 289,tu #[]) ::
(nat_lit 291,tu #[S "_law_script" 574,S "_law_k" 575]) ::
(nat_lit 292,tu #[]) ::
(nat_lit 294,cc "_law_cell" 571 572 573 145 2 289 181 290 (R 291) (R 292) 293 576 577) ::
(nat_lit 295,fu "_law_cell" 39 "law_sheetfold_k14_whole_folded_or_why" 569 294) ::
(nat_lit 296,tu #[]) ::
(nat_lit 298,tu #[S "_law_cell_here" 582,S "_law_k" 583,S "_law_number" 584]) ::
(nat_lit 299,tu #[]) ::
(nat_lit 301,cc "_law_mixed" 579 580 581 149 2 296 181 297 (R 298) (R 299) 300 585 586) ::
(nat_lit 302,fu "_law_mixed" 40 "law_sheetfold_k14_whole_folded_or_why" 569 301) ::
(nat_lit 303,tu #[]) ::
(nat_lit 305,tu #[S "_law_script" 591,S "_law_at" 592,S "_law_base" 593,S "_law_cell_here" 594,S "_law_found" 595,S "_law_rest" 596,S "_law_k" 597,S "_law_many" 598]) ::
(nat_lit 306,tu #[]) ::
(nat_lit 308,cc "_law_steps" 588 589 590 152 3 303 181 304 (R 305) (R 306) 307 599 600) ::
(nat_lit 309,fu "_law_steps" 41 "law_sheetfold_k14_whole_folded_or_why" 569 308) ::
(nat_lit 310,tu #[]) ::
(nat_lit 312,tu #[S "_law_cell_here" 605]) ::
(nat_lit 313,tu #[]) ::
(nat_lit 315,cc "_law_place" 602 603 604 165 1 310 181 311 (R 312) (R 313) 314 606 607) ::
(nat_lit 316,fu "_law_place" 42 "law_sheetfold_k14_whole_folded_or_why" 569 315) ::
(nat_lit 317,tu #[]) ::
(nat_lit 319,tu #[S "_law_found" 612]) ::
(nat_lit 320,tu #[]) ::
(nat_lit 322,cc "_law_whole" 609 610 611 169 1 317 181 318 (R 319) (R 320) 321 613 614) ::
(nat_lit 323,fu "_law_whole" 43 "law_sheetfold_k14_whole_folded_or_why" 569 322) ::
(nat_lit 324,tu #[]) ::
(nat_lit 326,tu #[S "_law_one" 619,S "_law_other" 620,S "_law_a" 621,S "_law_b" 622,S "_law_c" 623,S "_law_d" 624,S "_law_e" 625,S "_law_f" 626]) ::
(nat_lit 327,tu #[]) ::
(nat_lit 329,cc "_law_cross" 616 617 618 171 2 324 181 325 (R 326) (R 327) 328 627 628) ::
(nat_lit 330,fu "_law_cross" 44 "law_sheetfold_k14_whole_folded_or_why" 569 329) ::
(nat_lit 331,tu #[]) ::
(nat_lit 333,tu #[S "_law_one" 633,S "_law_other" 634]) ::
(nat_lit 334,tu #[]) ::
(nat_lit 336,cc "_law_dot" 630 631 632 175 2 331 181 332 (R 333) (R 334) 335 635 636) ::
(nat_lit 337,fu "_law_dot" 45 "law_sheetfold_k14_whole_folded_or_why" 569 336) ::
(nat_lit 338,tu #[]) ::
(nat_lit 340,tu #[S "_law_one" 641,S "_law_many" 642,S "_law_other" 643]) ::
(nat_lit 341,tu #[]) ::
(nat_lit 343,cc "_law_sum" 638 639 640 177 3 338 181 339 (R 340) (R 341) 342 644 645) ::
(nat_lit 344,fu "_law_sum" 46 "law_sheetfold_k14_whole_folded_or_why" 569 343) ::
(nat_lit 345,tu #[]) ::
(nat_lit 347,tu #[S "_law_pose" 650,S "_law_way" 651]) ::
(nat_lit 348,tu #[]) ::
(nat_lit 350,cc "_law_unit" 647 648 649 179 2 345 181 346 (R 347) (R 348) 349 652 653) ::
(nat_lit 351,fu "_law_unit" 47 "law_sheetfold_k14_whole_folded_or_why" 569 350) ::
(nat_lit 352,tu #[]) ::
(nat_lit 354,tu #[S "_law_pose" 658,S "_law_way" 659,S "_law_bend" 660,S "_law_along" 661,S "_law_out" 662,S "_law_on" 663,S "_law_edge" 664,S "_law_told" 665,S "_law_unit_here" 666]) ::
(nat_lit 355,tu #[]) ::
(nat_lit 357,cc "_law_led" 655 656 657 181 3 352 181 353 (R 354) (R 355) 356 667 668) ::
(nat_lit 358,fu "_law_led" 48 "law_sheetfold_k14_whole_folded_or_why" 569 357) ::
(nat_lit 359,tu #[]) ::
(nat_lit 362,cc "_law_is_spot" 670 671 672 192 1 359 181 360 N N 361 673 674) ::
(nat_lit 363,fu "_law_is_spot" 49 "law_sheetfold_k14_whole_folded_or_why" 569 362) ::
(nat_lit 364,tu #[]) ::
(nat_lit 367,cc "_law_is_pose" 676 677 678 196 1 364 181 365 N N 366 679 680) ::
(nat_lit 368,fu "_law_is_pose" 50 "law_sheetfold_k14_whole_folded_or_why" 569 367) ::
(nat_lit 369,tu #[]) ::
(nat_lit 371,tu #[S "_law_cell_here" 685,S "_law_way" 686]) ::
(nat_lit 372,tu #[]) ::
(nat_lit 374,cc "_law_neighbour" 682 683 684 200 2 369 181 370 (R 371) (R 372) 373 687 688) ::
(nat_lit 375,fu "_law_neighbour" 51 "law_sheetfold_k14_whole_folded_or_why" 569 374) ::
(nat_lit 376,tu #[]) ::
(nat_lit 379,cc "_law_joined" 690 691 692 202 5 376 181 377 N N 378 693 694) ::
(nat_lit 380,fu "_law_joined" 52 "law_sheetfold_k14_whole_folded_or_why" 569 379) ::
(nat_lit 381,tu #[]) ::
(nat_lit 383,tu #[S "_law_script" 699,S "_law_at" 700,S "_law_most" 701,S "_law_bends" 702,S "_law_cells" 703,S "_law_joins" 704,S "_law_step" 705,S "_law_one" 706,S "_law_other" 707,S "_law_bend" 708]) ::
(nat_lit 384,tu #[]) ::
(nat_lit 386,cc "_law_grown" 696 697 698 206 4 381 181 382 (R 383) (R 384) 385 709 710) ::
(nat_lit 387,fu "_law_grown" 53 "law_sheetfold_k14_whole_folded_or_why" 569 386) ::
(nat_lit 388,tu #[]) ::
(nat_lit 391,cc "_law_sheet" 712 713 714 220 2 388 181 389 N N 390 715 716) ::
(nat_lit 392,fu "_law_sheet" 54 "law_sheetfold_k14_whole_folded_or_why" 569 391) ::
(nat_lit 393,tu #[]) ::
(nat_lit 396,cc "_law_near" 718 719 720 223 1 393 181 394 N N 395 721 722) ::
(nat_lit 397,fu "_law_near" 55 "law_sheetfold_k14_whole_folded_or_why" 569 396) ::
(nat_lit 398,tu #[]) ::
(nat_lit 401,cc "_law_walked" 724 725 726 230 3 398 181 399 N N 400 727 728) ::
(nat_lit 402,fu "_law_walked" 56 "law_sheetfold_k14_whole_folded_or_why" 569 401) ::
(nat_lit 403,tu #[]) ::
(nat_lit 406,cc "_law_poses" 730 731 732 237 3 403 181 404 N N 405 733 734) ::
(nat_lit 407,fu "_law_poses" 57 "law_sheetfold_k14_whole_folded_or_why" 569 406) ::
(nat_lit 408,tu #[]) ::
(nat_lit 410,tu #[S "_law_poses_here" 739,S "_law_j" 740,S "_law_i" 741]) ::
(nat_lit 411,tu #[]) ::
(nat_lit 413,cc "_law_clash" 736 737 738 250 1 408 181 409 (R 410) (R 411) 412 742 743) ::
(nat_lit 414,fu "_law_clash" 58 "law_sheetfold_k14_whole_folded_or_why" 569 413) ::
(nat_lit 415,tu #[]) ::
(nat_lit 417,tu #[S "_law_near_here" 748,S "_law_poses_here" 749,S "_law_k" 750,S "_law_way" 751,S "_law_j" 752,S "_law_bend" 753]) ::
(nat_lit 418,tu #[]) ::
(nat_lit 420,cc "_law_leads" 745 746 747 256 2 415 181 416 (R 417) (R 418) 419 754 755) ::
(nat_lit 421,fu "_law_leads" 59 "law_sheetfold_k14_whole_folded_or_why" 569 420) ::
(nat_lit 422,tu #[]) ::
(nat_lit 424,tu #[S "_law_near_here" 760,S "_law_poses_here" 761,S "_law_pose" 762,S "_law_told" 763]) ::
(nat_lit 425,tu #[]) ::
(nat_lit 427,cc "_law_folded" 757 758 759 262 3 422 181 423 (R 424) (R 425) 426 764 765) ::
(nat_lit 428,fu "_law_folded" 60 "law_sheetfold_k14_whole_folded_or_why" 569 427) ::
(nat_lit 429,tu #[]) ::
(nat_lit 431,tu #[S "_law_near_here" 770,S "_law_numbers" 771,S "_law_k" 772,S "_law_pose" 773,S "_law_found" 774]) ::
(nat_lit 432,tu #[]) ::
(nat_lit 434,cc "_law_ring" 767 768 769 269 2 429 181 430 (R 431) (R 432) 433 775 776) ::
(nat_lit 435,fu "_law_ring" 61 "law_sheetfold_k14_whole_folded_or_why" 569 434) ::
(nat_lit 436,tu #[]) ::
(nat_lit 438,tu #[S "_law_near_here" 781,S "_law_found" 782,S "_law_pose" 783,S "_law_poses_here" 784,S "_law_fits" 785,S "_law_clash_here" 786]) ::
(nat_lit 439,tu #[]) ::
(nat_lit 441,cc "_law_right" 778 779 780 280 2 436 181 437 (R 438) (R 439) 440 787 788) ::
(nat_lit 442,fu "_law_right" 62 "law_sheetfold_k14_whole_folded_or_why" 569 441) ::
(nat_lit 443,tu #[]) ::
(nat_lit 445,tu #[S "_law_script" 793,S "_law_bends" 794,S "_law_cells" 795,S "_law_joins" 796,S "_law_sheet_here" 797,S "_law_near_here" 798,S "_law_handed" 799,S "_law_found" 800]) ::
(nat_lit 446,tu #[]) ::
(nat_lit 448,cc "law" 790 791 792 291 1 443 181 444 (R 445) (R 446) 447 801 802) ::
(nat_lit 449,fu "law" 63 "law_sheetfold_k14_whole_folded_or_why" 569 448)::[]
noncomputable def kA:List Ke:=[2,3,15,22,23,24,25,28,35,36,37,40,43,44,45,47,48,50,51,52,54,55,57,58,59,61,62,64,65,66,68,69,71,72,73,75,76,78,79,80,82,83,85,86,87,89,90,92,93,94,96,97,99,100,101,104,105,106,108,109,111,112,113,116,117,118,120,121,123,124,125,126,128,129,131,132,140,142,143,145,146,147,149,150,152,153,154,156,157,159,160,161,162,163,164,165,168,175,177,178,180,181,182,184,185,187,188,189,190,191,194,201,203,204,206,207,208,210,211,213,214,215,216,217,220,222,223,225,226,227,229,230,232,233,234,235,236,237,238,239,241,242,244,245,246,248,249,251,252,253,254,255,256,257,259,260,262,263,264,266,267,269,270,271,272,275,276,277,279,280,282,283,284,287,288,289,291,292,294,295,296,298,299,301,302,303,305,306,308,309,310,312,313,315,316,317,319,320,322,323,324,326,327,329,330,331,333,334,336,337,338,340,341,343,344,345,347,348,350,351,352,354,355,357,358,359,362,363,364,367,368,369,371,372,374,375,376,379,380,381,383,384,386,387,388,391,392,393,396,397,398,401,402,403,406,407,408,410,411,413,414,415,417,418,420,421,422,424,425,427,428,429,431,432,434,435,436,438,439,441,442,443,445,446,448,449]
theorem kE (P:Params):kA=(KH P).map (·.1):=by kernel_rfl
noncomputable abbrev hk:Hook:=kHook KH kA kE
noncomputable def tfQ (tr:(String->Option UQ)->KJ->KZ->Nat->Option Kc->Nat->Kh->Thread->Option Kh)(tb:String->Option UQ)(p:KJ)(w:KZ)(N:Nat)(s:Kh):Option Kh :=
 match s.heap.isNs bL&&s.gens.size==0 with
 | true=>(tr tb p w s.heap.objs.size (s.heap.nsMap bL "__annotations__") N s (topStub p)).bind λu =>
   match staticsOk (importedModules p.main.body) s.heap u.heap&&namesBound p u.heap&&gensDone u&&laidKept s.heap u.heap with
   | true=>some u
   | false=>none
 | false=>none
theorem tf_q (p:KJ)(w:KZ)(N:Nat):topFrom treeTable p w N=tfQ NZ XF p w N:=by
 rw [← Fast.te14082659384304107361,← N0]
 rfl
noncomputable def opQ (p:KJ)(w:KZ)(N:Nat):Option Kh :=
 (Fast.tw10274390034422433532 XF (opening p) w N (N5 (opening p)).1 (N5 (opening p)).2).bind (Fast.tw14289696077712309145 p)
theorem op_q (p:KJ)(w:KZ)(N:Nat):fencedOpening treeTable p w N=opQ p w N:=by
 unfold opQ
 rw [← Fast.te10274390034422433532,← N0,← Fast.te1435165496053646825,← Fast.te14289696077712309145]
 rfl
noncomputable def endsQ (p:KJ)(w:KZ)(N:Nat):Option Kh:=(opQ p w N).bind (tfQ NZ XF p w N)
theorem qlV (p:KJ)(w:KZ)(N:Nat):openEnds treeTable p w N=endsQ p w N:=by
 unfold openEnds endsQ
 rw [op_q,tf_q]
set_option maxHeartbeats 0 in
theorem left:LeftO PySem.Challenge.pw_sheetfold_k14_whole_folded_or_why vw [(Kg "folded")] (λs=>xlAt vw [] s&&recOk (RowW.records (OpenRow.toRowW (OpenLaw.row PySem.Challenge.rw_sheetfold_k14_whole_folded_or_why))) s) (Hook.obs hk) (Hook.val hk) 5832:=by
 intro w
 rw [qlV,Fast.te4187177175401517315]
 kernel_rfl
end HD
namespace L2
open PySem PySem.Spec PyProof.Rows
theorem on1 {α:Type}{P:List α->Prop}(h:∀ a0,P [a0]):∀ us:List α,us.length=1->P us:=by
 intro us hl
 cases us with
 |nil=>cases hl
 |cons x0 r0=>
 cases r0 with
 |nil=>exact h _
 |cons=>cases hl
theorem on2 {α:Type}{P:List α->Prop}(h:∀ a0 a1,P [a0,a1]):∀ us:List α,us.length=2->P us:=by
 intro us hl
 cases us with
 |nil=>cases hl
 |cons x0 r0=>
 cases r0 with
 |nil=>cases hl
 |cons x1 r1=>
 cases r1 with
 |nil=>exact h _ _
 |cons=>cases hl
theorem on3 {α:Type}{P:List α->Prop}(h:∀ a0 a1 a2,P [a0,a1,a2]):∀ us:List α,us.length=3->P us:=by
 intro us hl
 cases us with
 |nil=>cases hl
 |cons x0 r0=>
 cases r0 with
 |nil=>cases hl
 |cons x1 r1=>
 cases r1 with
 |nil=>cases hl
 |cons x2 r2=>
 cases r2 with
 |nil=>exact h _ _ _
 |cons=>cases hl
theorem on4 {α:Type}{P:List α->Prop}(h:∀ a0 a1 a2 a3,P [a0,a1,a2,a3]):∀ us:List α,us.length=4->P us:=by
 intro us hl
 cases us with
 |nil=>cases hl
 |cons x0 r0=>
 cases r0 with
 |nil=>cases hl
 |cons x1 r1=>
 cases r1 with
 |nil=>cases hl
 |cons x2 r2=>
 cases r2 with
 |nil=>cases hl
 |cons x3 r3=>
 cases r3 with
 |nil=>exact h _ _ _ _
 |cons=>cases hl
theorem on5 {α:Type}{P:List α->Prop}(h:∀ a0 a1 a2 a3 a4,P [a0,a1,a2,a3,a4]):∀ us:List α,us.length=5->P us:=by
 intro us hl
 cases us with
 |nil=>cases hl
 |cons x0 r0=>
 cases r0 with
 |nil=>cases hl
 |cons x1 r1=>
 cases r1 with
 |nil=>cases hl
 |cons x2 r2=>
 cases r2 with
 |nil=>cases hl
 |cons x3 r3=>
 cases r3 with
 |nil=>cases hl
 |cons x4 r4=>
 cases r4 with
 |nil=>exact h _ _ _ _ _
 |cons=>cases hl
noncomputable abbrev Key:=Sum Int Str
abbrev bC:=List (Str×List Str)
abbrev bz:=Nat->Nat->Option Bool
abbrev bw:=Nat->KS->Prop
noncomputable abbrev bu:=List KQ
abbrev bg:=Result->Kh->Prop
noncomputable abbrev be:=Array Nat
abbrev ba:=List (Str×Value)
abbrev aY:=Int->Int->Prop
abbrev aW:=List (Int×Value)
noncomputable abbrev aV:=Option Int
noncomputable abbrev aU:=List Env
noncomputable abbrev aT:=Array Kc
abbrev aR:=Kc->Kc->Sem Kc
noncomputable abbrev aQ:=Option (List Ka)
abbrev aO:=List (Str×Addr)
noncomputable abbrev aM:=Nat->Nat->Bool
noncomputable abbrev aJ:=List KB
noncomputable abbrev aI:=Option Ke
noncomputable abbrev aH:=List Ke
noncomputable abbrev aG:=Ka->Ka->Option Ka
noncomputable abbrev aE:=List (List Int)
noncomputable abbrev aD:=Option Ka
noncomputable abbrev aB:=List Str
noncomputable abbrev aA:=List Int
noncomputable abbrev az:=List Kc
abbrev au:=Array (Option Kc)
noncomputable abbrev aq:=List Nat
noncomputable abbrev ao:=Str->Option Kc
noncomputable abbrev ak:=List Ka->Option Ka
noncomputable abbrev ah:=Kc->Kh->Prop
noncomputable abbrev ag:=List (Ke×Obj)
noncomputable abbrev ae:=List Ka
def qlt:Key->Kc->Bool
 | .inl k,v=>Value.isInt k v
 | .inr x,v=>Value.isStrOf x v
def keyH (w:KZ):Key->Int
 | .inl k=>cO k
 | .inr x=>hashStr w x
theorem Qp:∀ {k:Key} {v:Kc},qlt k v=true->(∃ i t,k=Sum.inl i/\v=NY i t)\/(∃ x t,k=Sum.inr x/\v=Nu x t)
 | .inl i,v,h=>by
  obtain ⟨t,e⟩:=Value.isInt_shape (k:=i) (v:=v) h
  exact .inl ⟨i,t,rfl,e⟩
 | .inr x,v,h=>by
  obtain ⟨t,e⟩:=Value.isStrOf_shape (x:=x) (v:=v) h
  exact .inr ⟨x,t,rfl,e⟩
theorem qml (a b:Int):decide ((Sum.inl a:Key)=Sum.inl b)=(a==b):=by
 by_cases e:a=b
 ·subst e;simp
 ·have h:¬ (Sum.inl a:Key)=Sum.inl b:=λq=>e (Sum.inl.inj q)
  rw [bH h]
  exact (bP.mpr e).symm
theorem qmo (a b:Str):decide ((Sum.inr a:Key)=Sum.inr b)=decide (a=b):=by
 by_cases e:a=b
 ·subst e;simp
 ·have h:¬ (Sum.inr a:Key)=Sum.inr b:=λq=>e (Sum.inr.inj q)
  rw [bH h,bH e]
theorem qmm (a:Int)(b:Str):decide ((Sum.inl a:Key)=Sum.inr b)=false:=bH (λq=>nomatch q)
theorem qmn (a:Str)(b:Int):decide ((Sum.inr a:Key)=Sum.inl b)=false:=bH (λq=>nomatch q)
def qcT (prog:KJ)(w:KZ):PySem.KeyKind prog w Key where
 is:=qlt
 hash:=keyH w
 inj:=λv a b ha hb=>by
  rcases Qp ha with ⟨i,t,rfl,rfl⟩|⟨x,t,rfl,rfl⟩
  ·rcases Qp hb with ⟨j,u,rfl,e⟩|⟨y,u,rfl,e⟩
   ·injection e with e1 _;rw [e1]
   ·exact nomatch e
  ·rcases Qp hb with ⟨j,u,rfl,e⟩|⟨y,u,rfl,e⟩
   ·exact nomatch e
   ·injection e with e1 _;rw [e1]
 byValue:=λk v h=>by
  rcases Qp h with ⟨i,t,rfl,rfl⟩|⟨x,t,rfl,rfl⟩<;>rfl
 pyHash:=λhv h=>by
  rcases Qp hv with ⟨i,t,rfl,rfl⟩|⟨x,t,rfl,rfl⟩
  ·exact wpAny_pyHash_int h
  ·exact wpAny_pyHash_str h
 eqBool:=λhu hv h=>by
  rcases Qp hu with ⟨i,t,rfl,rfl⟩|⟨x,t,rfl,rfl⟩
  ·rcases Qp hv with ⟨j,u,rfl,rfl⟩|⟨y,u,rfl,rfl⟩
   ·rw [qml] at h;exact wpAny_eqBool_int h
   ·rw [qmm] at h;exact SeqAt.EqAt.int_str i t y u _ _ _ _ h
  ·rcases Qp hv with ⟨j,u,rfl,rfl⟩|⟨y,u,rfl,rfl⟩
   ·rw [qmn] at h;exact SeqAt.EqAt.str_int x t j u _ _ _ _ h
   ·rw [qmo] at h;exact wpAny_eqBool_str h
 «strs»:=λk x t v h=>by
  rcases Qp h with ⟨i,u,rfl,e⟩|⟨y,u,rfl,e⟩
  ·exact nomatch e
  ·injection e with e1 _
   subst e1
   cases v<;>rfl
inductive V where
 | non|bl (b:Bool)|int (i:Int)|str (x:Str)|byt (b:Array UInt8)|flt (b:UInt64)|ref (a:Ke)|ty (n:String)
 deriving DecidableEq
abbrev bD:=List (Str×V)
noncomputable def RelV:V->Kc->Prop
 | .non,u=>u=VE
 | .bl b,u=>u=Vv b
 | .int i,u=>∃ t,u=NY i t
 | .str x,u=>∃ t,u=Nu x t
 | .byt b,u=>∃ t,u=Value.bytes b t
 | .flt b,u=>∃ t,u=Value.float b t
 | .ref a,u=>u=Vd a
 | .ty n,u=>u=Vs n
abbrev Vals:List V->List Kc->Prop:=VP RelV
theorem Vals.length {xs:List V}{us:az}(r:Vals xs us):xs.length=us.length:=Paired.length r
theorem Vals.get:∀ {xs:List V} {us:az} {i:Nat} {x:V},Vals xs us->xs[i]?=some x->∃ u,us[i]?=some u/\RelV x u
 | _,_,_,_,.nil,e=>by simp at e
 | _,_,0,_,.cons r _,e=>by simp at e;subst e;exact ⟨_,rfl,r⟩
 | _,_,i+1,x,.cons _ t,e=>by
  obtain ⟨u,h1,h2⟩:=Vals.get (i:=i) (x:=x) t (by simpa using e)
  exact ⟨u,by simpa using h1,h2⟩
theorem Vals.set {x:V}{u:Kc}(r:RelV x u):∀ {xs:List V} {us:az} (i:Nat),Vals xs us->Vals (xs.set i x) (us.set i u)
 | _,_,_,.nil=>.nil
 | _,_,0,.cons _ t=>.cons r t
 | _,_,i+1,.cons q t=>.cons q (Vals.set r i t)
theorem Vals.append {xs ys:List V}{us ws:az}(h:Vals xs us)(s:Vals ys ws):Vals (xs++ys) (us++ws):=by
 induction h with
 | nil=>exact s
 | cons r _ ih=>exact .cons r ih
theorem Vals.take:∀ {xs:List V} {us:az} (n:Nat),Vals xs us->Vals (xs.take n) (us.take n)
 | _,_,0,_=>.nil
 | _,_,_+1,.nil=>.nil
 | _,_,n+1,.cons r t=>.cons r (Vals.take n t)
theorem Vals.drop:∀ {xs:List V} {us:az} (n:Nat),Vals xs us->Vals (xs.drop n) (us.drop n)
 | _,_,0,r=>r
 | _,_,_+1,.nil=>.nil
 | _,_,n+1,.cons _ t=>Vals.drop n t
def RelO:Option V->Option Kc->Prop
 | some v,some u=>RelV v u
 | none,none=>True
 | _,_=>False
def KV {κ:Type}:List (κ×V)->List (κ×Value)->Prop:=VP λ(p:κ×V) (q:κ×Value)=>p.1=q.1/\RelV p.2 q.2
def kV:Key->V
 | .inl i=>.int i
 | .inr x=>.str x
inductive HO where
 | lst (xs:List V)
 | tup (xs:List V)
 | dK (kvs:List (Key×V))|dT (kvs:List (List Key×V))
 | set (S:Int->Bool) (n:Nat)
 | ins (C dx:Ke) (fs:bD)
 | own (x:Ke)
 | xd (fs:bD)
 | met (f x:Ke)
 | rng (lo hi:Int)
 | frz (o:Obj) (u:HO)
 | tbl (ps:aT)
 | ext (φ:KS->Prop)
noncomputable abbrev Hp:=Ke->Option HO
def upd (H:Hp)(a:Ke)(o:HO):Hp:=λb=>if b=a then some o else H b
theorem qU {H:Hp}{a:Ke}{o:HO}:upd H a o a=some o:=by unfold upd;rw [bI rfl]
theorem qO {H:Hp}{a b:Ke}{o:HO}(h:b≠a):upd H a o b=H b:=by unfold upd;rw [bJ h]
theorem Qt {H:Hp}{a b:Ke}{o:HO}(h:H a=some o)(h':H b=none):a≠b:=by
 intro e;subst e;rw [h] at h';cases h'
section
variable (P:KJ)(w:KZ)
def Qw (H:Hp)(h:KS)(a:Ke):HO->Prop
 | .lst xs=>xs.length<=bM/\∃ (its:az) (n:Nat),Vals xs its/\h.get? a=some { cls:=.type "list", data:=.seq its.toArray n }
 | .tup xs=>xs.length<=bM/\∃ its:List Kc,Vals xs its/\cT h a its.toArray
 | .dK kvs=>kvs.length<=bM/\(a==cB)=false/\∃ vs,KV kvs vs/\h.DictOf (qcT P w) a vs
 | .dT kvs=>kvs.length<=bM/\(a==cB)=false/\∃ xs:List (List Key×Addr×Value),
   VP (λ(p:List Key×V) (q:List Key×Addr×Value)=>p.1=q.1/\H q.2.1=some (.tup (p.1.map kV))/\RelV p.2 q.2.2) kvs xs/\
   ∃ o es ep,h.get? a=some o/\o.ExactDict/\o.data=.dict es ep/\es.toList=xs.map (entryOfKey (tupleKind (qcT P w)))/\(xs.map (·.1)).Nodup
 | .set S n=>h.SetOf (cP P w) a S n
 | .ins C dx fs=>H dx=some (.own a)/\fs.length<=1000/\dx≠a/\h.get? a=some (V0 C dx)/\
   ∃ mA,h.Ns1 dx mA/\(∀ f,RelO (fs.lookup f) (mA f))/\PySem.Within mA (fs.map (·.1))
 | .own _=>∃ o,h.get? a=some o
 | .xd fs=>∃ mA,h.Ns1 a mA/\∀ f,RelO (fs.lookup f) (mA f)
 | .rng lo hi=>∃ t u v,h.get? a=some { cls:=.type "range", data:=.fields #[.int lo t,.int hi u,.int 1 v] }
 | .frz o u=>h.get? a=some o/\Qw H h a u
 | .tbl ps=>h.get? a=some { cls:=.none,data:=.fields ps }
 | .met f x=>h.get? a=some (Ec (.ref f) (.ref x))
 | .ext φ=>φ h/\(∃ o,h.get? a=some o)/\∀ h1 h2:KS,φ h1->(∀ o,h1.get? a=some o->h2.get? a=some o)->φ h2
def HOk (H:Hp)(h:KS):Prop:=∀ a o,H a=some o->Qw P w H h a o
end
section
variable {P:KJ}{w:KZ}{H H':Hp}{h h':KS}{a:Ke}{o:HO}
theorem Qw.lt (x:Qw P w H h a o):a<h.objs.size:=by
 cases o with
 | lst xs=>obtain ⟨_,_,_,_,e⟩:=x;exact KF e
 | tup xs=>obtain ⟨_,_,_,p⟩:=x;exact p.lt
 | dK kvs=>obtain ⟨_,_,_,_,o,_,_,e,_⟩:=x;exact KF e
 | dT kvs=>obtain ⟨_,_,_,_,o,_,_,e,_⟩:=x;exact KF e
 | set S n=>obtain ⟨o,_,_,_,e,_⟩:=x;exact KF e
 | ins C dx fs=>obtain ⟨_,_,_,e,_⟩:=x;exact KF e
 | own y=>obtain ⟨_,e⟩:=x;exact KF e
 | xd fs=>obtain ⟨_,⟨_,_,_,e,_⟩,_⟩:=x;exact KF e
 | rng lo hi=>obtain ⟨_,_,_,e⟩:=x;exact KF e
 | frz ob u=>obtain ⟨e,_⟩:=x;exact KF e
 | tbl ps=>exact KF (show h.get? a=some _ from x)
 | met f y=>exact KF (show h.get? a=some _ from x)
 | ext φ=>obtain ⟨_,⟨_,e⟩,_⟩:=x;exact KF e
theorem Paired.mapP {α β:Type}{F G:α->β->Prop}:∀ {l₁:List α} {l₂:List β},VP F l₁ l₂->(∀ a b,F a b->G a b)->VP G l₁ l₂
 | _,_,.nil,_=>.nil
 | _,_,.cons r t,f=>.cons (f _ _ r) (Paired.mapP t f)
theorem Qw.stay (x:Qw P w H h a o)(k:∀ b u,(b=a\/H b=some (.own a))->h.get? b=some u->h'.get? b=some u)
  (ho:∀ b,H b=some (.own a)->H' b=some (.own a)) (ht:∀ b xs,H b=some (.tup xs)->H' b=some (.tup xs)):Qw P w H' h' a o:=by
 induction o with
 | lst xs=>obtain ⟨z,its,n,r,e⟩:=x;exact ⟨z,its,n,r,k _ _ (.inl rfl) e⟩
 | tup xs=>obtain ⟨z,its,r,ob,e,c⟩:=x;exact ⟨z,its,r,ob,k _ _ (.inl rfl) e,c⟩
 | dK kvs=>obtain ⟨z,y,vs,r,ob,es,ep,e,c⟩:=x;exact ⟨z,y,vs,r,ob,es,ep,k _ _ (.inl rfl) e,c⟩
 | dT kvs =>
  obtain ⟨z,y,xs,r,ob,es,ep,e,c⟩:=x
  exact ⟨z,y,xs,Paired.mapP r λp q z=>⟨z.1,ht _ _ z.2.1,z.2.2⟩,ob,es,ep,k _ _ (.inl rfl) e,c⟩
 | set S n=>obtain ⟨ob,es,ep,t,e,c⟩:=x;exact ⟨ob,es,ep,t,k _ _ (.inl rfl) e,c⟩
 | ins C dx fs =>
  obtain ⟨d,z,ne,e,mA,⟨od,es,ep,e2,c⟩,r⟩:=x
  exact ⟨ho _ d,z,ne,k _ _ (.inl rfl) e,mA,⟨od,es,ep,k _ _ (.inr d) e2,c⟩,r⟩
 | own y=>obtain ⟨ob,e⟩:=x;exact ⟨ob,k _ _ (.inl rfl) e⟩
 | xd fs=>obtain ⟨mA,⟨od,es,ep,e,c⟩,r⟩:=x;exact ⟨mA,⟨od,es,ep,k _ _ (.inl rfl) e,c⟩,r⟩
 | rng lo hi=>obtain ⟨t,u,v,e⟩:=x;exact ⟨t,u,v,k _ _ (.inl rfl) e⟩
 | frz ob u ih=>obtain ⟨e,q⟩:=x;exact ⟨k _ _ (.inl rfl) e,ih q⟩
 | tbl ps =>
  have e:h.get? a=some { cls:=.none,data:=.fields ps }:=x
  show h'.get? a=some { cls:=.none,data:=.fields ps }
  exact k a _ (.inl rfl) e
 | met f y =>
  have e:h.get? a=some (Ec (.ref f) (.ref y)):=x
  show h'.get? a=some (Ec (.ref f) (.ref y))
  exact k a _ (.inl rfl) e
 | ext φ=>obtain ⟨p,⟨o,e⟩,st⟩:=x;exact ⟨st _ _ p λo q=>k _ _ (.inl rfl) q,⟨o,k _ _ (.inl rfl) e⟩,st⟩
theorem HOk.lt (x:HOk P w H h)(e:H a=some o):a<h.objs.size:=(x a o e).lt
theorem HOk.fresh (x:HOk P w H h)(e:h.objs.size<=a):H a=none:=by
 cases q:H a with
 | none=>rfl
 | some u=>exact absurd (K8 (x.lt q) e) (Uc _)
theorem HOk.kept (x:HOk P w H h)(k:∀ b u,h.get? b=some u->h'.get? b=some u):HOk P w H h':=λa o e =>
 (x a o e).stay (λb u _ q=>k b u q) (λ_ q=>q) λ_ _ q=>q
theorem HOk.laid (x:HOk P w H h)(k:∀ b u,h.get? b=some u->h'.get? b=some u)(hp:h.objs.size<=a)(new:Qw P w (upd H a o) h' a o):HOk P w (upd H a o) h':=λb u e=>by
 have hn:=x.fresh hp
 by_cases hb:b=a
 ·subst hb;rw [qU] at e;cases e;exact new
 ·rw [qO hb] at e
  exact (x b u e).stay (λc v _ q=>k c v q) (λc q=>by rw [qO (Qt q hn)];exact q) λc xs q=>by rw [qO (Qt q hn)];exact q
end
def Rd (H:Hp)(a:Ke)(u:HO):Prop:=H a=some u\/∃ o,H a=some (.frz o u)
theorem Rd.ok {P:KJ}{w:KZ}{H:Hp}{h:KS}{a:Ke}{u:HO}(r:Rd H a u)(x:HOk P w H h):Qw P w H h a u:=by
 rcases r with r|⟨o,r⟩
 ·exact x a u r
 ·obtain ⟨_,q⟩:=x a _ r
  exact q
def Mut:Option HO->Prop
 | some (.lst _)=>True
 | some (.dK _)=>True
 | some (.dT _)=>True
 | some (.set _ _)=>True
 | some (.ins _ _ _)=>True
 | some (.ext _)=>True
 | _=>False
section
variable {P:KJ}{w:KZ}{H:Hp}{h h':KS}{x e:Ke}{o':HO}
theorem HOk.write (ok:HOk P w H h)(mu:Mut (H x))(he:e=x\/H e=some (.own x))(k:∀ b u,b≠e->h.get? b=some u->h'.get? b=some u)(heo:∃ u,h'.get? e=some u)
  (new:Qw P w (upd H x o') h' x o'):HOk P w (upd H x o') h':=λb u q=>by
 have nown:∀ c y,H c=some (.own y)->c≠x:=λc y r z=>by subst z;rw [r] at mu;exact mu
 have ntup:∀ c xs,H c=some (.tup xs)->c≠x:=λc xs r z=>by subst z;rw [r] at mu;exact mu
 by_cases hb:b=x
 ·subst hb;rw [qU] at q;cases q;exact new
 ·rw [qO hb] at q
  by_cases hbe:b=e
  ·have q':H b=some (.own x):=by
    rcases he with z|z
    ·exact absurd (hbe.trans z) hb
    ·rw [hbe];exact z
   rw [q] at q';cases q'
   obtain ⟨v,hv⟩:=heo
   exact ⟨v,by rw [hbe];exact hv⟩
  ·refine (ok b u q).stay (λc v hc r=>k c v ?_ r) (λc r=>by rw [qO (nown c b r)];exact r) λc xs r=>by rw [qO (ntup c xs r)];exact r
   rcases hc with rfl|hc
   ·exact hbe
   ·rintro rfl
    rcases he with z|z
    ·exact nown c b hc z
    ·rw [hc] at z;cases z;exact hb rfl
end
structure Un (fs ex:aH)(H H':Hp)(h h':KS):Prop where
 keep:∀ b o,h.get? b=some o->H b=none->b∉fs->b∉ex->h'.get? b=some o
 slot:∀ b o,h.get? b=some o->H b=none->b∈fs->b∉ex->∃ sl,h'.get? b=some { o with slots:=sl }
 free:∀ b o,h.get? b=some o->H b=none->b∉ex->H' b=none
 there:∀ b o,h.get? b=some o->b∉ex->∃ o',h'.get? b=some o'
 tups:∀ b xs,H b=some (.tup xs)->H' b=some (.tup xs)
 frzs:∀ b o u,H b=some (.frz o u)->H' b=some (.frz o u)
 tbls:∀ b ps,H b=some (.tbl ps)->∃ more,H' b=some (.tbl (ps++more))
section
variable {fs fs' ex ex':aH}{H H1 H2:Hp}{h h1 h2 h':KS}{a x e:Ke}{o:HO}
theorem Un.any (u:Un fs ex H H1 h h1){b:Ke}{ob:Obj}(q:h.get? b=some ob)(n:H b=none)(hx:b∉ex):∃ sl,h1.get? b=some { ob with slots:=sl }:=by
 by_cases hb:b∈fs
 ·exact u.slot b ob q n hb hx
 ·exact ⟨ob.slots,u.keep b ob q n hb hx⟩
theorem Un.kept (k:∀ b u,h.get? b=some u->h'.get? b=some u):Un fs ex H H h h' :=
 ⟨λb ob q _ _ _=>k b ob q,λb ob q _ _ _=>⟨ob.slots,k b ob q⟩,λ_ _ _ n _=>n,λb ob q _=>⟨ob,k b ob q⟩,λ_ _ q=>q,λ_ _ _ q=>q,λ_ ps q=>⟨#[],by rw [q];simp⟩⟩
theorem Un.refl:Un fs ex H H h h:=Un.kept λ_ _ q=>q
theorem Un.laid (k:∀ b u,h.get? b=some u->h'.get? b=some u)(hp:h.objs.size<=a)(hn:H a=none):Un fs ex H (upd H a o) h h' where
 keep:=λb u q _ _ _=>k b u q
 slot:=λb u q _ _ _=>⟨u.slots,k b u q⟩
 free:=λb u q n _=>by rw [qO (KW (K8 (KF q) hp))];exact n
 there:=λb u q _=>⟨u,k b u q⟩
 tups:=λb xs q=>by rw [qO (Qt q hn)];exact q
 frzs:=λb u xs q=>by rw [qO (Qt q hn)];exact q
 tbls:=λb ps q=>⟨#[],by rw [qO (Qt q hn),q];simp⟩
theorem Un.write (mu:Mut (H x))(he:e=x\/H e=some (.own x))(k:∀ b u,b≠e->h.get? b=some u->h'.get? b=some u)(heo:∃ u,h'.get? e=some u):Un fs ex H (upd H x o) h h':=by
 have hx:∀ b,H b=none->b≠x:=λb n z=>by subst z;rw [n] at mu;exact mu
 have hb:∀ b,H b=none->b≠e:=λb n z=>by
  subst z
  rcases he with r|r
  ·exact hx b n r
  ·rw [n] at r;cases r
 have hm:∀ b u,H b=some u->¬ Mut (some u)->b≠x:=λb u q nm z=>by subst z;rw [q] at mu;exact nm mu
 refine ⟨λb u q n _ _=>k b u (hb b n) q,λb u q n _ _=>⟨u.slots,k b u (hb b n) q⟩,λb u q n _=>by rw [qO (hx b n)];exact n,λb u q _=>?_,
  λb xs q=>by rw [qO (hm b _ q λz=>z)];exact q,λb u xs q=>by rw [qO (hm b _ q λz=>z)];exact q,λb ps q=>⟨#[],by rw [qO (hm b _ q λz=>z),q];simp⟩⟩
 by_cases hbe:b=e
 ·subst hbe;exact heo
 ·exact ⟨u,k b u hbe q⟩
end
def trk (h:KS)(H:Hp):List Ke:=(KN h.objs.size).filter λa=>(H a).isSome
def hidT (h:KS)(H:Hp):KS:=PySem.W.hideAll h (trk h H)
theorem qgv (h:KS)(H:Hp):(hidT h H).objs.size=h.objs.size:=PySem.W.hideAll_size _ _
theorem qhO {h:KS}{H:Hp}{b:Ke}{o:Obj}(e:h.get? b=some o)(n:H b=none):(hidT h H).get? b=some o :=
 PySem.W.hideAll_get _ e λhm=>by
  have q:(H b).isSome=true:=(List.mem_filter.mp hm).2
  rw [n] at q;simp at q
theorem qkt {h:KS}{H:Hp}{b:Ke}{o:Obj}(e:(hidT h H).get? b=some o):h.get? b=some o/\H b=none:=by
 have e':h.get? b=some o:=PySem.W.of_hideAll (trk h H) e
 refine ⟨e',?_⟩
 cases q:H b with
 | none=>rfl
 | some x =>
  have hm:b∈trk h H:=List.mem_filter.mpr ⟨Ur.mpr (KF e'),by simp [q]⟩
  have z:(hidT h H).get? b=none:=PySem.W.hideAll_none (trk h H) hm
  rw [z] at e;cases e
structure Mod (K:Kb)(mg:ao)(base:KS):Prop where
 kin:K.In base
 glob:base.Ns bL mg
 blt:∃ mb,base.Ns builtinsNs mb/\∀ x:Str,x ≠ "__name__"->mb x=bS x
 nolimit:base.NoLimit
structure Cx where
 prog:KJ
 w:KZ
 K:Kb
 mg:Str->Option Kc
 base:KS
 A:K0
 N:List Str
 s₀:Kh
 H₀:Hp
 env:Env
 outer:List Env
 stack:List Env
 ex:List Ke
 fn:Str->Bool
 calm:Bool
 pn:List (Ke×Obj)
 xe:Kc->Kh->Prop
def frs (l:aU):List Ke:=l.filterMap (·.frame)
abbrev Cx.fs (X:Cx):List Ke:=frs X.outer
def Vis (sc:V9)(x:Str):Prop:=sc.names.lookup x=some .local\/sc.names.lookup x=some .cell\/sc.names.lookup x=some .free
def Loc (sc:V9)(x:Str):Prop:=sc.names.lookup x=some .local\/sc.names.lookup x=some .cell
def Look (env:Env)(h:KS)(m:ao)(x:Str)(u:Kc):Prop :=
 (env.kindOf x=some .local/\m x=some u)\/((env.kindOf x=some .cell\/env.kindOf x=some .free)/\∃ c,env.cells.lookup x=some c/\h.IsCell c (some u))
structure Cx.Ok (X:Cx):Prop where
 mod:Mod X.K X.mg X.base
 kind:X.env.scope.kind=.function
 glob:X.env.globals=bL
 blt:X.env.builtins=builtinsNs
 above:X.s₀.heap.objs.size<=X.env.locals
 inj:∀ x y c,X.env.cells.lookup x=some c->X.env.cells.lookup y=some c->x=y
 has:∀ x,(X.env.kindOf x=some .cell\/X.env.kindOf x=some .free)->∃ c,X.env.cells.lookup x=some c
 cab:∀ x c,X.fn x=true->X.env.cells.lookup x=some c->X.s₀.heap.objs.size<=c
 hd:X.calm=true->X.A.handled=none
 frames:X.A.frames=some X.stack
 stk:X.stack=X.outer\/(X.stack=X.env::X.outer/\X.env.frame=some X.env.locals)
 exf:∀ b∈X.ex,b≠X.env.locals/\∀ x c,X.env.cells.lookup x=some c->c≠b
 bs:∀ b o,X.base.get? b=some o->X.s₀.heap.get? b=some o/\X.H₀ b=none
 bsz:X.base.objs.size<=X.s₀.heap.objs.size
 noex:∀ b o,X.base.get? b=some o->b∉X.ex
 exfs:∀ b∈X.ex,b∉X.fs
 funs:X.s₀.heap.FunFrames X.base X.outer
 frf:∀ b∈X.fs,X.H₀ b=none
structure Inv (X:Cx)(bE:ag)(σ:List (Option V))(H:Hp)(s:Kh):Prop where
 ok:X.Ok
 os:s.os=X.s₀.os
 bare:XN s.gens
 base:Un X.fs X.ex X.H₀ H X.s₀.heap s.heap
 loc:∃ m,s.heap.Ns X.env.locals m/\∀ (i:Nat) (x:Str) (v:V),X.N[i]?=some x->σ[i]?=some (some v)->Vis X.env.scope x->∃ u,RelV v u/\Look X.env s.heap m x u
 cell:∀ x c,X.env.cells.lookup x=some c->∃ v,s.heap.IsCell c v
 free:H X.env.locals=none
 freeC:∀ x c,X.env.cells.lookup x=some c->H c=none
 pin:∀ p∈X.pn++bE,s.heap.get? p.1=some p.2/\H p.1=none/\p.1≠X.env.locals/\p.1∉X.fs/\∀ v,p.2.data≠.cell v
 hok:HOk X.prog X.w H s.heap
 len:σ.length=X.N.length
section
variable {X:Cx}{bE:ag}{σ:List (Option V)}{H H':Hp}{s:Kh}{h':KS}
theorem Cx.Ok.nofr (ok:X.Ok){b:Ke}{o:Obj}(e:X.base.get? b=some o):b∉X.fs:=λhb=>by
 have:=(ok.funs.mem hb).1
 rw [e] at this;cases this
theorem Inv.bs (I:'&'):∀ b o,X.base.get? b=some o->s.heap.get? b=some o/\H b=none:=λb o e =>
 ⟨I.base.keep b o (I.ok.bs b o e).1 (I.ok.bs b o e).2 (I.ok.nofr e) (I.ok.noex b o e),I.base.free b o (I.ok.bs b o e).1 (I.ok.bs b o e).2 (I.ok.noex b o e)⟩
theorem Inv.bk (I:'&'):∀ b o,X.base.get? b=some o->s.heap.get? b=some o:=λb o e=>(I.bs b o e).1
theorem Inv.mod (I:'&'):Mod X.K X.mg X.base:=I.ok.mod
theorem Inv.kIn (I:'&'):X.K.In s.heap:=I.ok.mod.kin.keeps I.bk
theorem Inv.lt (I:'&'):X.env.locals<s.heap.objs.size:=let ⟨_,hn,_⟩:=I.loc;hn.lt
theorem Inv.sz (I:'&'):X.s₀.heap.objs.size<=s.heap.objs.size:=Ve I.ok.above (VA I.lt)
theorem Inv.nofs (I:'&'){a:Ke}(h:s.heap.objs.size<=a):a∉X.fs:=λhb=>by
 obtain ⟨_,o,ho,_⟩:=I.ok.funs.mem hb
 exact absurd (K8 (KF ho) (Ve I.sz h)) (Uc _)
theorem Inv.cne (I:'&'):∀ x c,X.env.cells.lookup x=some c->c≠X.env.locals:=λx c e z=>by
 obtain ⟨v,o,ho,hd⟩:=I.cell x c e
 obtain ⟨m,⟨o',es,ep,ho',hd',_⟩,_⟩:=I.loc
 rw [z,ho'] at ho;cases ho;rw [hd'] at hd;cases hd
theorem Inv.funs (I:'&'):s.heap.FunFrames X.base X.outer:=by
 have all:∀ (l:aU),(∀ b∈frs l,b∈X.fs)->X.s₀.heap.FunFrames X.base l->s.heap.FunFrames X.base l:=by
  intro l
  induction l with
  | nil=>intro _ _;trivial
  | cons env r ih =>
   intro hs hl
   obtain ⟨hk,⟨L,o,hf,hn,ho,hd⟩,hr⟩:=hl
   have hL:L∈X.fs:=hs L (by unfold frs;rw [V7,hf];exact VI)
   obtain ⟨sl,e⟩:=I.base.slot L o ho (I.ok.frf L hL) hL λz=>I.ok.exfs L z hL
   exact ⟨hk,⟨L,_,hf,hn,e,hd⟩,ih (λb hb=>hs b (by unfold frs;rw [V7,hf];exact Vw _ hb)) hr⟩
 exact all X.outer (λ_ hb=>hb) I.ok.funs
theorem Inv.stack (I:'&'):s.heap.FunFrames X.base X.stack:=by
 rcases I.ok.stk with e|⟨e,hf⟩
 ·rw [e];exact I.funs
 ·rw [e]
  obtain ⟨m,hn,_⟩:=I.loc
  refine .cons (by rw [I.ok.kind];decide) hf hn ?_ I.funs
  exact Heap.get?_none_of_le (Ve I.ok.bsz I.ok.above)
theorem Inv.stkSub (I:'&'):∀ b∈frs X.stack,b∈X.env.locals::X.fs:=λb hb=>by
 rcases I.ok.stk with e|⟨e,hf⟩
 ·rw [e] at hb;exact Vw _ hb
 ·rw [e] at hb
  unfold frs at hb
  rw [V7,hf] at hb
  exact hb
theorem Inv.stkFree (I:'&'):∀ b∈frs X.stack,H b=none:=λb hb=>by
 rcases Kr.mp (I.stkSub b hb) with e|hb
 ·rw [e];exact I.free
 ·obtain ⟨_,o,ho,_⟩:=I.ok.funs.mem hb
  exact I.base.free b o ho (I.ok.frf b hb) λz=>I.ok.exfs b z hb
theorem Inv.step {g':Array GenState}{t':Nat}{d':Drawn}{ch:aH}(I:'&')
  (hch:∀ b∈ch,(b∈X.ex\/X.s₀.heap.objs.size<=b)/\b≠X.env.locals/\(∀ x c,X.env.cells.lookup x=some c->c≠b)/\∀ p∈X.pn++bE,p.1≠b)
  (keep:∀ b o,b≠X.env.locals->b∉X.fs->b∉ch->s.heap.get? b=some o->H b=none->h'.get? b=some o)
  (slot:∀ b o,b≠X.env.locals->b∈X.fs->b∉ch->s.heap.get? b=some o->H b=none->∃ sl,h'.get? b=some { o with slots:=sl }) (free:∀ b o,b∉ch->s.heap.get? b=some o->H b=none->H' b=none)
  (there:∀ b o,b∉ch->s.heap.get? b=some o->∃ o',h'.get? b=some o')
  (tups:∀ b xs,H b=some (.tup xs)->H' b=some (.tup xs)) (frzs:∀ b o u,H b=some (.frz o u)->H' b=some (.frz o u)) (tbls:∀ b ps,H b=some (.tbl ps)->∃ more,H' b=some (.tbl (ps++more)))
  (ns:∀ m,s.heap.Ns X.env.locals m->h'.Ns X.env.locals m) (hok:HOk X.prog X.w H' h') (hg:XN g') :
  Inv X bE σ H' { s with heap:=h',gens:=g',drawn:=d',toks:=t' }:=by
 have neL:∀ b o,X.s₀.heap.get? b=some o->b≠X.env.locals:=λb o e=>KW (K8 (KF e) I.ok.above)
 have neC:∀ b o,X.s₀.heap.get? b=some o->b∉X.ex->b∉ch:=λb o e hx hb=>by
  rcases (hch b hb).1 with z|z
  ·exact hx z
  ·exact absurd (K8 (KF e) z) (Uc _)
 have cellK:∀ x c,X.env.cells.lookup x=some c->∀ v,s.heap.IsCell c v->h'.IsCell c v:=λx c e v ⟨o,ho,hd⟩=>by
  have nch:c∉ch:=λz=>(hch c z).2.2.1 x c e rfl
  by_cases hc:c∈X.fs
  ·obtain ⟨sl,q⟩:=slot c o (I.cne x c e) hc nch ho (I.freeC x c e)
   exact ⟨_,q,hd⟩
  ·exact ⟨o,keep c o (I.cne x c e) hc nch ho (I.freeC x c e),hd⟩
 refine ⟨I.ok,I.os,hg,⟨λb o e n hb hx=>?_,λb o e n hb hx=>?_,λb o e n hx=>?_,λb o e hx=>?_,λb xs e=>tups b xs (I.base.tups b xs e),λb o xs e=>frzs b o xs (I.base.frzs b o xs e),λb ps e=>?_⟩,?_,λx c e=>?_,?_,λx c e=>?_,λp hp=>?_,hok,I.len⟩
 ·exact keep b o (neL b o e) hb (neC b o e hx) (I.base.keep b o e n hb hx) (I.base.free b o e n hx)
 ·obtain ⟨sl,e1⟩:=I.base.slot b o e n hb hx
  obtain ⟨sl',e2⟩:=slot b _ (neL b o e) hb (neC b o e hx) e1 (I.base.free b o e n hx)
  exact ⟨sl',e2⟩
 ·obtain ⟨o',e1⟩:=I.base.there b o e hx
  exact free b o' (neC b o e hx) e1 (I.base.free b o e n hx)
 ·obtain ⟨o',e1⟩:=I.base.there b o e hx
  exact there b o' (neC b o e hx) e1
 ·obtain ⟨m1,e1⟩:=I.base.tbls b ps e
  obtain ⟨m2,e2⟩:=tbls b _ e1
  exact ⟨m1++m2,by rw [e2,Array.append_assoc]⟩
 ·obtain ⟨m,hn,hl⟩:=I.loc
  refine ⟨m,ns m hn,λi x v e1 e2 e3=>?_⟩
  obtain ⟨u,r,l⟩:=hl i x v e1 e2 e3
  refine ⟨u,r,?_⟩
  rcases l with l|⟨k,c,e,z⟩
  ·exact .inl l
  ·exact .inr ⟨k,c,e,cellK x c e _ z⟩
 ·obtain ⟨v,z⟩:=I.cell x c e
  exact ⟨v,cellK x c e v z⟩
 ·obtain ⟨m,⟨o,_,_,ho,_⟩,_⟩:=I.loc
  exact free _ o (λz=>(hch _ z).2.1 rfl) ho I.free
 ·obtain ⟨v,o,ho,hd⟩:=I.cell x c e
  exact free c o (λz=>(hch c z).2.2.1 x c e rfl) ho (I.freeC x c e)
 ·obtain ⟨e,n,ne,nf,d⟩:=I.pin p hp
  have nch:p.1∉ch:=λz=>(hch p.1 z).2.2.2 p hp rfl
  exact ⟨keep p.1 p.2 ne nf nch e n,free p.1 p.2 nch e n,ne,nf,d⟩
theorem Inv.un {t':Nat}(I:'&')(u:Un X.fs [] H H' s.heap h')(hok:HOk X.prog X.w H' h'):Inv X bE σ H' { s with heap:=h',toks:=t' }:=by
 obtain ⟨m,⟨o,es,ep,ho,r⟩,_⟩:=id I.loc
 obtain ⟨sl,hL⟩:=u.any ho I.free (by simp)
 exact I.step (g':=s.gens) (d':=s.drawn) (ch:=[]) (λ_ z=>nomatch z) (λb o _ hb _ e n=>u.keep b o e n hb (by simp)) (λb o _ hb _ e n=>u.slot b o e n hb (by simp)) (λb o _ e n=>u.free b o e n (by simp)) (λb o _ e=>u.there b o e (by simp)) u.tups u.frzs u.tbls (λm' hm=>by
  obtain ⟨o',es',ep',ho',r'⟩:=hm
  rw [ho] at ho';cases ho'
  exact ⟨_,es',ep',hL,r'⟩) hok I.bare
theorem Inv.call {g':Array GenState}{t':Nat}{d':Drawn}{ch:aH}(I:'&')(u:Un (frs X.stack) ch H H' s.heap h')(hok:HOk X.prog X.w H' h')(hg:XN g')
  (hch:∀ b∈ch,(b∈X.ex\/X.s₀.heap.objs.size<=b)/\b≠X.env.locals/\(∀ x c,X.env.cells.lookup x=some c->c≠b)/\∀ p∈X.pn++bE,p.1≠b) :
  Inv X bE σ H' { s with heap:=h',gens:=g',drawn:=d',toks:=t' }:=by
 obtain ⟨m,⟨o,es,ep,ho,r⟩,_⟩:=id I.loc
 obtain ⟨sl,hL⟩:=u.any ho I.free λz=>(hch _ z).2.1 rfl
 exact I.step (ch:=ch) hch (λb o hL hb hc e n=>u.keep b o e n (λz=>(Kr.mp (I.stkSub b z)).elim hL hb) hc) (λb o _ _ hc e n=>u.any e n hc) (λb o hc e n=>u.free b o e n hc) (λb o hc e=>u.there b o e hc) u.tups u.frzs u.tbls (λm' hm=>by
  obtain ⟨o',es',ep',ho',r'⟩:=hm
  rw [ho] at ho';cases ho'
  exact ⟨_,es',ep',hL,r'⟩) hok hg
theorem Inv.turned {t':Nat}{it:Ke}(I:'&')(k:∀ b o,b≠it->s.heap.get? b=some o->h'.get? b=some o)(hn:H it=none)(hL:it≠X.env.locals)
  (h1:it∈X.ex\/X.s₀.heap.objs.size<=it) (h2:∀ x c,X.env.cells.lookup x=some c->c≠it) (h3:∀ p∈X.pn++bE,p.1≠it):Inv X bE σ H { s with heap:=h',toks:=t' }:=by
 have nit:∀ b u,H b=some u->b≠it:=λb u e z=>by rw [z,hn] at e;cases e
 refine I.step (g':=s.gens) (d':=s.drawn) (ch:=[it]) (λb hb=>?_) (λb o _ _ hc e _=>k b o (λz=>hc (by simp [z])) e) (λb o _ _ hc e _=>⟨o.slots,k b o (λz=>hc (by simp [z])) e⟩) (λ_ _ _ _ n=>n)
  (λb o hc e=>⟨o,k b o (λz=>hc (by simp [z])) e⟩) (λ_ _ e=>e) (λ_ _ _ e=>e) (λb ps e=>⟨#[],by rw [e];simp⟩) (λm hm=>?_) (λb u e=>?_) I.bare
 ·have e:b=it:=by simpa using hb
  subst e
  exact ⟨h1,hL,h2,h3⟩
 ·obtain ⟨o,es,ep,ho,r⟩:=hm
  exact ⟨o,es,ep,k _ o (Ul hL) ho,r⟩
 ·refine (I.hok b u e).stay (λc v hc q=>k c v ?_ q) (λ_ q=>q) λ_ _ q=>q
  rcases hc with z|z
  ·rw [z];exact nit b u e
  ·exact nit c _ z
theorem Inv.tok (I:'&')(t:Nat):Inv X bE σ H { s with toks:=t }:=I.un (h':=s.heap) (t':=t) Un.refl I.hok
theorem Inv.kept {t':Nat}(I:'&')(k:∀ b u,s.heap.get? b=some u->h'.get? b=some u):Inv X bE σ H { s with heap:=h',toks:=t' }:=I.un (Un.kept k) (I.hok.kept k)
theorem Inv.laid {a:Ke}{o:HO}{t':Nat}(I:'&')(k:∀ b u,s.heap.get? b=some u->h'.get? b=some u)(hp:s.heap.objs.size<=a)(new:Qw X.prog X.w (upd H a o) h' a o) :
  Inv X bE σ (upd H a o) { s with heap:=h',toks:=t' }:=I.un (Un.laid k hp (I.hok.fresh hp)) (I.hok.laid k hp new)
theorem Inv.write {x e:Ke}{o:HO}{t':Nat}(I:'&')(mu:Mut (H x))(he:e=x\/H e=some (.own x))(k:∀ b u,b≠e->s.heap.get? b=some u->h'.get? b=some u)(heo:∃ u,h'.get? e=some u)
  (new:Qw X.prog X.w (upd H x o) h' x o):Inv X bE σ (upd H x o) { s with heap:=h',toks:=t' }:=I.un (Un.write mu he k heo) (I.hok.write mu he k heo new)
theorem Inv.pins_of {pins':ag}(I:'&')(h:∀ p∈pins',s.heap.get? p.1=some p.2/\H p.1=none/\p.1≠X.env.locals/\p.1∉X.fs/\∀ v,p.2.data≠.cell v):Inv X pins' σ H s :=
 ⟨I.ok,I.os,I.bare,I.base,I.loc,I.cell,I.free,I.freeC,λp hp=>(KO.mp hp).elim (λz=>I.pin p (KM _ z)) (h p),I.hok,I.len⟩
theorem qdY {N:aB}(hN:N.Nodup){i j:Nat}{x:Str}(a:N[i]?=some x)(b:N[j]?=some x):i=j:=by
 obtain ⟨h1,e1⟩:=Kl.mp a
 obtain ⟨h2,e2⟩:=Kl.mp b
 exact (List.getElem_inj hN).mp (e1.trans e2.symm)
theorem qcc {M:Model}{A:K0}{E:ah}{i:Nat}{x:Str}{v:V}{u:Kc}{Q:Unit->Kh->Prop}(I:'&')(hN:X.N.Nodup)(hi:X.N[i]?=some x)(hx:Loc X.env.scope x)(r:RelV v u)
  (h:∀ s',Inv X bE (σ.set i (some v)) H s'->(∃ a,UB a s.heap s'.heap/\(a=X.env.locals\/X.env.cells.lookup x=some a))->Q () s') (hf:X.fn x=true\/X.env.scope.names.lookup x=some .local:=by first|exact .inl rfl|exact .inr rfl|assumption):bK M A (storeName X.env x u) Q E s:=by
 obtain ⟨m,hn,hl⟩:=id I.loc
 have hcls:(X.env.scope.kind==.class||(X.env.scope.kind==.module&&X.env.locals != X.env.globals))=false:=by rw [I.ok.kind];rfl
 have hiσ:i<σ.length:=by rw [I.len];exact (Kl.mp hi).1
 have cne:=I.cne
 have tracked:∀ {a:Ke} {h':KS},(∃ o,s.heap.get? a=some o/\H a=none)->UB a s.heap h'->HOk X.prog X.w H h':=λ{a h'} ha hs b ob e=>by
  obtain ⟨_,_,hfree⟩:=ha
  refine (I.hok b ob e).stay (λc w' hc q=>(hs.2 c ?_).trans q) (λ_ q=>q) λ_ _ q=>q
  rintro rfl
  rcases hc with rfl|hc
  ·rw [hfree] at e;cases e
  ·rw [hfree] at hc;cases hc
 rcases hx with hk|hk
 ·refine wpAny_storeName_local hk hn (λh' hn' hs=>?_) hcls
  obtain ⟨oL,_,_,hoL,_⟩:=id hn
  refine h _ ⟨I.ok,I.os,I.bare,⟨λb o e n hb hx=>?_,λb o e n hb hx=>?_,I.base.free,λb o e hx=>?_,I.base.tups,I.base.frzs,I.base.tbls⟩,⟨_,hn',λj y v' e1 e2 e3=>?_⟩,λy c e=>?_,I.free,I.freeC,λp hp=>?_,tracked ⟨oL,hoL,I.free⟩ hs,by simpa using I.len⟩ ⟨_,hs,.inl rfl⟩
  ·exact (hs.2 b (KW (K8 (KF e) I.ok.above))).trans (I.base.keep b o e n hb hx)
  ·obtain ⟨sl,e1⟩:=I.base.slot b o e n hb hx
   exact ⟨sl,(hs.2 b (KW (K8 (KF e) I.ok.above))).trans e1⟩
  ·obtain ⟨o',e1⟩:=I.base.there b o e hx
   exact ⟨o',(hs.2 b (KW (K8 (KF e) I.ok.above))).trans e1⟩
  ·by_cases hj:j=i
   ·subst hj
    rw [hi] at e1;cases e1
    rw [Vc hiσ] at e2
    cases e2
    exact ⟨u,r,.inl ⟨hk,by simp⟩⟩
   ·rw [VR (Ul hj)] at e2
    obtain ⟨u',r',q⟩:=hl j y v' e1 e2 e3
    refine ⟨u',r',?_⟩
    rcases q with ⟨k,e⟩|⟨k,c,e,z⟩
    ·refine .inl ⟨k,?_⟩
     have:y≠x:=λe=>hj (qdY hN e1 (e ▸ hi))
     simp [this,e]
    ·exact .inr ⟨k,c,e,z.sameBut hs (cne y c e)⟩
  ·obtain ⟨w',z⟩:=I.cell y c e
   exact ⟨w',z.sameBut hs (cne y c e)⟩
  ·obtain ⟨e,n,ne,nf,d⟩:=I.pin p hp
   exact ⟨(hs.2 p.1 ne).trans e,n,ne,nf,d⟩
 ·have hfn:X.fn x=true:=by
   rcases hf with z|z
   ·exact z
   ·rw [z] at hk;cases hk
  obtain ⟨c,hc⟩:=I.ok.has x (.inl hk)
  obtain ⟨w',z⟩:=I.cell x c hc
  refine wpAny_storeName_cell I.ok.kind hk hc z (λh' hc' hs=>?_)
  obtain ⟨oc,hoc,hocd⟩:=id z
  refine h { s with heap:=h' } ⟨I.ok,I.os,I.bare,⟨λb o e n hb hx=>?_,λb o e n hb hx=>?_,I.base.free,λb o e hx=>?_,I.base.tups,I.base.frzs,I.base.tbls⟩,⟨m,hn.sameBut hs (Ul (cne x c hc)),λj y v' e1 e2 e3=>?_⟩,λy c' e=>?_,I.free,I.freeC,λp hp=>?_,tracked ⟨oc,hoc,I.freeC x c hc⟩ hs,by simpa using I.len⟩ ⟨c,hs,.inr hc⟩
  ·exact (hs.2 b (KW (K8 (KF e) (I.ok.cab x c hfn hc)))).trans (I.base.keep b o e n hb hx)
  ·obtain ⟨sl,e1⟩:=I.base.slot b o e n hb hx
   exact ⟨sl,(hs.2 b (KW (K8 (KF e) (I.ok.cab x c hfn hc)))).trans e1⟩
  ·obtain ⟨o',e1⟩:=I.base.there b o e hx
   exact ⟨o',(hs.2 b (KW (K8 (KF e) (I.ok.cab x c hfn hc)))).trans e1⟩
  ·by_cases hj:j=i
   ·subst hj
    rw [hi] at e1;cases e1
    rw [Vc hiσ] at e2
    cases e2
    exact ⟨u,r,.inr ⟨.inl hk,c,hc,hc'⟩⟩
   ·rw [VR (Ul hj)] at e2
    obtain ⟨u',r',q⟩:=hl j y v' e1 e2 e3
    refine ⟨u',r',?_⟩
    rcases q with q|⟨k,c',e,z'⟩
    ·exact .inl q
    ·refine .inr ⟨k,c',e,z'.sameBut hs ?_⟩
     rintro rfl
     exact hj (qdY hN e1 (I.ok.inj _ _ _ e hc ▸ hi))
  ·by_cases hcc:c'=c
   ·subst hcc;exact ⟨_,hc'⟩
   ·obtain ⟨w2,z2⟩:=I.cell y c' e
    exact ⟨w2,z2.sameBut hs hcc⟩
  ·obtain ⟨e,n,ne,nf,d⟩:=I.pin p hp
   refine ⟨(hs.2 p.1 ?_).trans e,n,ne,nf,d⟩
   intro q
   rw [q,hoc] at e
   have q':oc=p.2:=V1 e
   exact d w' (by rw [← q'];exact hocd)
theorem qej {M:Model}{A:K0}{E:ah}{i:Nat}{x:Str}{v:V}{u:Kc}{Q:Unit->Kh->Prop}(I:'&')(hN:X.N.Nodup)(hi:X.N[i]?=some x)(hx:Loc X.env.scope x)(r:RelV v u)
  (h:∀ s',Inv X bE (σ.set i (some v)) H s'->Q () s') (hf:X.fn x=true\/X.env.scope.names.lookup x=some .local:=by first|exact .inl rfl|exact .inr rfl|assumption):bK M A (storeName X.env x u) Q E s :=
 qcc I hN hi hx r (λs' I' _=>h s' I') hf
theorem Inv.call' {s':Kh}{ch:aH}(I:'&')(ho:s'.os=s.os)(u:Un (frs X.stack) ch H H' s.heap s'.heap)(hok:HOk X.prog X.w H' s'.heap)(hg:XN s'.gens)
  (hch:∀ b∈ch,(b∈X.ex\/X.s₀.heap.objs.size<=b)/\b≠X.env.locals/\(∀ x c,X.env.cells.lookup x=some c->c≠b)/\∀ p∈X.pn++bE,p.1≠b):Inv X bE σ H' s':=by
 obtain ⟨h',g',d',t',o'⟩:=s'
 have e:o'=s.os:=ho
 subst e
 exact I.call (g':=g') (t':=t') (d':=d') u hok hg hch
end
abbrev XK:=Kc->Option Ke->Hp->Prop
noncomputable abbrev St:=List (Option V)
abbrev VK:=V->Hp->Prop
abbrev bB:=List V->Hp->VK->Prop
abbrev aX:=V->List V->Hp->VK->Prop
abbrev aS:=V->Option Int->Option Int->Hp->VK->Prop
abbrev TE:=St->Hp->VK->Prop
abbrev TT:=St->Hp->(Bool->Hp->Prop)->Prop
abbrev TA:=St->Hp->(List V->Hp->Prop)->Prop
structure Ends where
 nx:St->Hp->Prop
 rt:VK
 bk:St->Hp->Prop:=λ_ _=>False
 ct:St->Hp->Prop:=λ_ _=>False
abbrev TS:=Ends->St->Hp->Prop
def EP (X:Cx)(bE:ag)(σ:St)(Q:VK)(u:Kc)(s':Kh):Prop:=∃ v H',Inv X bE σ H' s'/\RelV v u/\Q v H'
def TP (X:Cx)(bE:ag)(σ:St)(Q:Bool->Hp->Prop)(b:Bool)(s':Kh):Prop:=∃ H',Inv X bE σ H' s'/\Q b H'
def AP (X:Cx)(bE:ag)(σ:St)(Q:List V->Hp->Prop)(us:az)(s':Kh):Prop:=∃ vs H',Inv X bE σ H' s'/\Vals vs us/\Q vs H'
def SP (X:Cx)(bE:ag)(D:Ends)(f:Flow)(s':Kh):Prop :=
 match f with
 | .next=>∃ σ' H',Inv X bE σ' H' s'/\D.nx σ' H'
 | .brk=>∃ σ' H',Inv X bE σ' H' s'/\D.bk σ' H'
 | .cont=>∃ σ' H',Inv X bE σ' H' s'/\D.ct σ' H'
 | .ret u=>∃ v σ' H',Inv X bE σ' H' s'/\RelV v u/\D.rt v H'
def PE (X:Cx)(e:KB)(t:TE):Prop :=
 ∀ (bE:ag) (s:Kh) (σ:St) (H:Hp) (Q:VK),Inv X bE σ H s->t σ H Q->bK '*' X.A (eval e X.env) (EP X bE σ Q) X.xe s
def PT (X:Cx)(e:KB)(t:TT):Prop :=
 ∀ (bE:ag) (s:Kh) (σ:St) (H:Hp) (Q:Bool->Hp->Prop),Inv X bE σ H s->t σ H Q->bK '*' X.A (isTrue e X.env (eval e X.env)) (TP X bE σ Q) X.xe s
def PW (X:Cx)(e:KB)(t:TT):Prop :=
 ∀ (whole:Sem Kc) (bE:ag) (s:Kh) (σ:St) (H:Hp) (Q:Bool->Hp->Prop),Inv X bE σ H s->t σ H Q->bK '*' X.A (isTrue e X.env whole) (TP X bE σ Q) X.xe s
theorem PW.pt {X:Cx}{e:KB}{t:TT}(h:PW X e t):PT X e t:=h _
def PA (X:Cx)(es:aJ)(t:TA):Prop :=
 ∀ (pos:Pos) (bE:ag) (s:Kh) (σ:St) (H:Hp) (Q:List V->Hp->Prop),Inv X bE σ H s->t σ H Q->bK '*' X.A (spliced (bT pos (bG es X.env))) (AP X bE σ Q) X.xe s
def PS (X:Cx)(st:KQ)(t:TS):Prop :=
 ∀ (bE:ag) (s:Kh) (σ:St) (H:Hp) (D:Ends),Inv X bE σ H s->t D σ H->bK '*' X.A (exec st X.env) (SP X bE D) X.xe s
def PSs (X:Cx)(st:bu)(t:TS):Prop :=
 ∀ (bE:ag) (s:Kh) (σ:St) (H:Hp) (D:Ends),Inv X bE σ H s->t D σ H->bK '*' X.A (execs st X.env) (SP X bE D) X.xe s
theorem thn {α:Type}{t:Sem α}{Q Q':α->Kh->Prop}{M:Model}{A:K0}{E:ah}{s:Kh}(h:bK M A t Q E s)(hQ:∀ a s,Q a s->Q' a s):bK M A t Q' E s:=Uj h hQ λ_ _ x=>x
section
variable {X:Cx}
def tVar (i:Nat):TE:=λσ H Q=>∃ v,σ[i]?=some (some v)/\Q v H
def tC (v:V):TE:=λ_ H Q=>Q v H
theorem qiI {i:Nat}{x:Str}{pos:Pos}(hN:X.N[i]?=some x)(hv:Vis X.env.scope x)(hd:'+'=false:=by decide)(hcd:(x==("__classdict__" : Str))=false:=by decide):PE X (.Name x pos) (tVar i):=by
 intro bE s σ H Q I h
 obtain ⟨v,e,h⟩:=h
 obtain ⟨m,hn,hl⟩:=I.loc
 obtain ⟨u,r,l⟩:=hl i x v hN e hv
 have fin:EP X bE σ Q u s:=⟨v,H,I,r,h⟩
 rcases l with ⟨hk,hm⟩|⟨hk,c,hc,hcell⟩
 ·exact wpAny_Name (wpAny_loadName_local I.ok.kind hk hn hm fin) hd
 ·rcases hk with hk|hk
  ·exact wpAny_Name (wpAny_loadName_cell I.ok.kind hk hc hcell fin) hd
  ·exact wpAny_Name (wpAny_loadName_free I.ok.kind hk hc hcell fin hcd) hd
theorem qmM {i j pos}:PE X (.Constant (.int i) j pos) (tC (.int i)):=λ_ _ _ H _ I h=>wpAny_Constant_int ⟨.int i,H,I.tok _,⟨_,rfl⟩,h⟩
theorem pe_bl {b j pos}:PE X (.Constant (.bool b) j pos) (tC (.bl b)):=λ_ _ _ H _ I h=>Constant_bool ⟨.bl b,H,I,rfl,h⟩
theorem qmN {j pos}:PE X (.Constant .none j pos) (tC .non):=λ_ _ _ H _ I h=>Constant_none ⟨.non,H,I,rfl,h⟩
theorem qmQ {x j pos}:PE X (.Constant (.str x) j pos) (tC (.str x)):=λ_ _ _ H _ I h=>Calls.Constant_str ⟨.str x,H,I.tok _,⟨_,rfl⟩,h⟩
def Gl (X:Cx)(x:Str):Prop:=X.env.kindOf x=some .globalImplicit
theorem qcN {E:ah}{bE:ag}{s:Kh}{σ:St}{H:Hp}{x:Str}{u:Kc}{pos:Pos}{Q:ah}(I:'&')(hg:Gl X x)(hm:X.mg x=some u)(h:Q u s)
  (hd:'+'=false:=by decide):bK '*' X.A (eval (.Name x pos) X.env) Q E s :=
 Calls.Name_function_global I.ok.kind hg (Calls.loadGlobal_global (by rw [I.ok.glob];exact I.mod.glob.keeps I.bk) hm h) hd
theorem YC {E:ah}{bE:ag}{s:Kh}{σ:St}{H:Hp}{x:Str}{u:Kc}{pos:Pos}{Q:ah}(I:'&')(hg:Gl X x)(hm:X.mg x=none)(hv:bS x=some u)(h:Q u s)
  (hn:x ≠ "__name__" := by decide) (hd:'+'=false:=by decide):bK '*' X.A (eval (.Name x pos) X.env) Q E s:=by
 obtain ⟨mb,h1,h2⟩:=I.mod.blt
 exact Calls.Name_function_global I.ok.kind hg (Calls.loadGlobal_builtin (by rw [I.ok.glob];exact I.mod.glob.keeps I.bk) hm (by rw [I.ok.blt];exact h1.keeps I.bk) ((h2 x hn).trans hv) h) hd
theorem qfY {x:Str}{v:V}{u:Kc}{pos:Pos}(hg:Gl X x)(hm:X.mg x=some u)(r:RelV v u)(hd:'+'=false:=by decide):PE X (.Name x pos) (tC v) :=
 λ_ _ _ H _ I h=>qcN I hg hm ⟨v,H,I,r,h⟩ hd
theorem qkH {x:Str}{v:V}{u:Kc}{pos:Pos}(hg:Gl X x)(hm:X.mg x=none)(hv:bS x=some u)(r:RelV v u)(hn:x ≠ "__name__" := by decide)(hd:'+'=false:=by decide):PE X (.Name x pos) (tC v) :=
 λ_ _ _ H _ I h=>YC I hg hm hv ⟨v,H,I,r,h⟩ hn hd
variable {a b:KB}{ta tb:TE}{pos:Pos}
def tB (t:TE):TT:=λσ H Q=>t σ H λx H1=>∃ c,x=.bl c/\Q c H1
theorem qmX {e:KB}{t:TE}(h:PE X e t)(he:∀ whole,isTrue e X.env whole=(do let v ← whole;cV e.pos;holding [v] (truthy v)):=by intro _;rfl):PT X e (tB t):=by
 intro bE s σ H Q I hw
 refine isTrue_plain (thn (h bE s σ H _ I hw) λv s1 ⟨x,H1,I1,r1,q1⟩=>?_) (he _)
 obtain ⟨d,rfl,q⟩:=q1
 cases r1
 exact Ua ⟨H1,I1,q⟩
variable {tA tB':TT}{rest:aJ}
def tAnd (t u:TT):TT:=λσ H Q=>t σ H λc H1=>if c=true then u σ H1 Q else Q false H1
def tOr (t u:TT):TT:=λσ H Q=>t σ H λc H1=>if c=true then Q true H1 else u σ H1 Q
def tNot (t:TT):TT:=λσ H Q=>t σ H λc H1=>Q (!c) H1
theorem qkU (ha:PT X a tA):PW X (.BoolOp .And [a] pos) tA:=by
 intro wh bE s σ H Q I h
 refine isTrue_and (thn (ha bE s σ H Q I h) λc s1 e=>?_)
 cases c with
 | true=>exact isTrue_and_nil e
 | false=>exact e
theorem qmZ (ha:PT X a tA):PW X (.BoolOp .Or [a] pos) tA:=by
 intro wh bE s σ H Q I h
 refine isTrue_or (thn (ha bE s σ H Q I h) λc s1 e=>?_)
 cases c with
 | false=>exact isTrue_or_nil e
 | true=>exact e
theorem qmY (ha:PT X a tA)(hb:PW X (.BoolOp .And (b::rest) pos) tB'):PW X (.BoolOp .And (a::b::rest) pos) (tAnd tA tB'):=by
 intro wh bE s σ H Q I h
 refine isTrue_and (thn (ha bE s σ H _ I h) λc s1 ⟨H1,I1,q1⟩=>?_)
 cases c with
 | true=>exact hb wh bE s1 σ H1 Q I1 q1
 | false=>exact ⟨H1,I1,q1⟩
theorem pw_or (ha:PT X a tA)(hb:PW X (.BoolOp .Or (b::rest) pos) tB'):PW X (.BoolOp .Or (a::b::rest) pos) (tOr tA tB'):=by
 intro wh bE s σ H Q I h
 refine isTrue_or (thn (ha bE s σ H _ I h) λc s1 ⟨H1,I1,q1⟩=>?_)
 cases c with
 | true=>exact ⟨H1,I1,q1⟩
 | false=>exact hb wh bE s1 σ H1 Q I1 q1
theorem qmW (ha:PT X a tA):PT X (.UnaryOp .Not a pos) (tNot tA):=by
 intro bE s σ H Q I h
 exact isTrue_not (ha bE s σ H (λc H1=>Q (!c) H1) I h)
def tAndV (ta tb:TE):TE:=λσ H Q=>ta σ H λx H1=>∃ c,x=.bl c/\if c=true then tb σ H1 Q else Q (.bl false) H1
def tNotV (ta:TE):TE:=λσ H Q=>ta σ H λx H1=>∃ c,x=.bl c/\Q (.bl (!c)) H1
theorem qmP {op}{t:TE}(h:PE X a t):PE X (.BoolOp op [a] pos) t:=λbE s σ H Q I hw=>BoolOp_one (h bE s σ H Q I hw)
theorem qmL (ha:PE X a ta)(hb:PE X (.BoolOp .And (b::rest) pos) tb):PE X (.BoolOp .And (a::b::rest) pos) (tAndV ta tb):=by
 intro bE s σ H Q I h
 refine BoolOp_and (thn (ha bE s σ H _ I h) λv s1 ⟨x,H1,I1,r1,q1⟩=>?_)
 obtain ⟨c,rfl,q1⟩:=q1
 cases r1
 refine Ua ?_
 cases c with
 | true=>exact hb bE s1 σ H1 Q I1 q1
 | false=>exact ⟨.bl false,H1,I1,rfl,q1⟩
theorem qmO (ha:PE X a ta):PE X (.UnaryOp .Not a pos) (tNotV ta):=by
 intro bE s σ H Q I h
 refine UnaryOp_ (thn (ha bE s σ H _ I h) λv s1 ⟨x,H1,I1,r1,q1⟩=>?_)
 obtain ⟨c,rfl,q1⟩:=q1
 cases r1
 exact not_of (Ua ⟨.bl (!c),H1,I1,rfl,q1⟩)
def tIf (t:TT)(ta tb:TE):TE:=λσ H Q=>t σ H λc H1=>if c=true then ta σ H1 Q else tb σ H1 Q
theorem qiF {c:KB}(hc:PT X c tA)(ha:PE X a ta)(hb:PE X b tb):PE X (.IfExp c a b pos) (tIf tA ta tb):=by
 intro bE s σ H Q I h
 refine wpAny_IfExp (thn (hc bE s σ H _ I h) λd s1 ⟨H1,I1,q1⟩=>?_)
 cases d with
 | true=>exact ha bE s1 σ H1 Q I1 q1
 | false=>exact hb bE s1 σ H1 Q I1 q1
end
def SqL (K:Kb)(H:Hp)(a:Ke)(xs:List V):Prop :=
 Rd H a (.lst xs)\/
  ∃ (o:Obj) (its:aT) (n:Nat),K.lookup a=some o/\o.cls=.type "list"/\o.dict=none/\o.data=.seq its n/\its.size<=bM/\Vals xs its.toList
def SqT (K:Kb)(H:Hp)(a:Ke)(xs:List V):Prop :=
 Rd H a (.tup xs)\/
  ∃ (o:Obj) (its:aT) (n:Nat),K.lookup a=some o/\o.cls=.type "tuple"/\o.data=.seq its n/\its.size<=bM/\Vals xs its.toList
def absV:Kc->Option V
 | .none=>some .non
 | .bool b=>some (.bl b)
 | .int i _=>some (.int i)
 | .str x _=>some (.str x)
 | .bytes b _=>some (.byt b)
 | .float b _=>some (.flt b)
 | .ref a=>some (.ref a)
 | .type n=>some (.ty n)
 | _=>none
theorem RelV.abs {x:V}{u:Kc}(r:RelV x u):absV u=some x:=by
 cases x with
 | non=>cases r;rfl
 | bl _=>cases r;rfl
 | int _=>obtain ⟨t,rfl⟩:=r;rfl
 | str _=>obtain ⟨t,rfl⟩:=r;rfl
 | byt _=>obtain ⟨t,rfl⟩:=r;rfl
 | flt _=>obtain ⟨t,rfl⟩:=r;rfl
 | ref _=>cases r;rfl
 | ty _=>cases r;rfl
theorem RelV.inj {x y:V}{u:Kc}(r:RelV x u)(q:RelV y u):x=y:=V1 (r.abs.symm.trans q.abs)
theorem Vals.inj {xs ys:List V}{us:az}(h:Vals xs us)(g:Vals ys us):xs=ys:=by
 induction h generalizing ys with
 | nil=>cases g;rfl
 | cons r _ ih =>
  cases g with
  | cons r' t'=>rw [r.inj r',ih t']
section
variable {X:Cx}{bE:ag}{σ:St}{H:Hp}{s:Kh}{a:Ke}{xs ys:List V}
theorem SqL.of {K:Kb}(h:H a=some (.lst xs)):SqL K H a xs:=.inl (.inl h)
theorem SqT.of {K:Kb}(h:H a=some (.tup xs)):SqT K H a xs:=.inl (.inl h)
theorem Inv.list (I:'&')(h:SqL X.K H a xs):∃ its:List Kc,Vals xs its/\PlainL s.heap a its.toArray/\xs.length<=bM:=by
 rcases h with h|⟨o,its,n,hk,hc,hd,hs,hz,r⟩
 ·obtain ⟨z,its,n,r,e⟩:=h.ok I.hok
  exact ⟨its,r,⟨_,n,e,rfl,rfl,rfl⟩,z⟩
 ·refine ⟨its.toList,r,⟨o,n,I.kIn a o hk,hc,hd,by simpa using hs⟩,?_⟩
  have e:=r.length
  simp only [KU] at e
  omega
theorem Inv.tuple (I:'&')(h:SqT X.K H a xs):∃ its:List Kc,Vals xs its/\cT s.heap a its.toArray/\xs.length<=bM:=by
 rcases h with h|⟨o,its,n,hk,hc,hs,hz,r⟩
 ·obtain ⟨z,its,r,p⟩:=h.ok I.hok
  exact ⟨its,r,p,z⟩
 ·refine ⟨its.toList,r,⟨o,I.kIn a o hk,hc,n,by simpa using hs⟩,?_⟩
  have e:=r.length
  simp only [KU] at e
  omega
theorem Inv.list_inj (I:'&')(h:SqL X.K H a xs)(h':SqL X.K H a ys):xs=ys:=by
 obtain ⟨its,r,⟨o,n,e,_,_,d⟩,_⟩:=I.list h
 obtain ⟨its',r',⟨o',n',e',_,_,d'⟩,_⟩:=I.list h'
 rw [e] at e';cases e'
 rw [d] at d'
 injection d' with d1 _
 have:its=its':=by simpa using congrArg Array.toList d1
 subst this
 exact r.inj r'
theorem Inv.tuple_inj (I:'&')(h:SqT X.K H a xs)(h':SqT X.K H a ys):xs=ys:=by
 obtain ⟨its,r,⟨o,e,_,n,d⟩,_⟩:=I.tuple h
 obtain ⟨its',r',⟨o',e',_,n',d'⟩,_⟩:=I.tuple h'
 rw [e] at e';cases e'
 rw [d] at d'
 injection d' with d1 _
 have:its=its':=by simpa using congrArg Array.toList d1
 subst this
 exact r.inj r'
end
abbrev Cx.wish (X:Cx)(E:ah):Cx:={ X with xe:=E }
abbrev Cx.nox (X:Cx):Cx:=X.wish λ_ _=>False
theorem Cx.Ok.wish {X:Cx}(ok:X.Ok)(E:ah):(X.wish E).Ok :=
 ⟨ok.mod,ok.kind,ok.glob,ok.blt,ok.above,ok.inj,ok.has,ok.cab,ok.hd,ok.frames,ok.stk,ok.exf,ok.bs,ok.bsz,ok.noex,ok.exfs,ok.funs,ok.frf⟩
theorem Cx.Ok.unwish {X:Cx}{E:ah}(ok:(X.wish E).Ok):X.Ok :=
 ⟨ok.mod,ok.kind,ok.glob,ok.blt,ok.above,ok.inj,ok.has,ok.cab,ok.hd,ok.frames,ok.stk,ok.exf,ok.bs,ok.bsz,ok.noex,ok.exfs,ok.funs,ok.frf⟩
section
variable {X:Cx}{bE:ag}{σ:St}{H:Hp}{s:Kh}{E:ah}
theorem Inv.wish (I:'&')(E:ah):Inv (X.wish E) bE σ H s:=⟨I.ok.wish E,I.os,I.bare,I.base,I.loc,I.cell,I.free,I.freeC,I.pin,I.hok,I.len⟩
theorem Inv.unwish (I:Inv (X.wish E) bE σ H s):Inv X bE σ H s:=⟨I.ok.unwish,I.os,I.bare,I.base,I.loc,I.cell,I.free,I.freeC,I.pin,I.hok,I.len⟩
theorem SP.unwish {D:Ends}{f:Flow}{s':Kh}(h:SP (X.wish E) bE D f s'):SP X bE D f s':=by
 cases f with
 | next=>obtain ⟨σ',H',I,q⟩:=h;exact ⟨σ',H',I.unwish,q⟩
 | brk=>obtain ⟨σ',H',I,q⟩:=h;exact ⟨σ',H',I.unwish,q⟩
 | cont=>obtain ⟨σ',H',I,q⟩:=h;exact ⟨σ',H',I.unwish,q⟩
 | ret u=>obtain ⟨v,σ',H',I,r,q⟩:=h;exact ⟨v,σ',H',I.unwish,r,q⟩
theorem PE.nox {e:KB}{t:TE}(h:PE X.nox e t):PE X e t:=λbE s σ H Q I hw =>
 Uj (h bE s σ H Q (I.wish _) hw) (λ_ _ ⟨v,H',I',r,q⟩=>⟨v,H',I'.unwish,r,q⟩) λ_ _ z=>UM z
theorem PT.nox {e:KB}{t:TT}(h:PT X.nox e t):PT X e t:=λbE s σ H Q I hw =>
 Uj (h bE s σ H Q (I.wish _) hw) (λ_ _ ⟨H',I',q⟩=>⟨H',I'.unwish,q⟩) λ_ _ z=>UM z
theorem PSs.nox {st:bu}{t:TS}(h:PSs X.nox st t):PSs X st t:=λbE s σ H D I hw =>
 Uj (h bE s σ H D (I.wish _) hw) (λ_ _ q=>q.unwish) λ_ _ z=>UM z
end
section
variable {X:Cx}{st:KQ}{rest:bu}{t u:TS}{e:KB}{te:TE}{pos:Pos}
def tNext:TS:=λD σ H=>D.nx σ H
def tSeq (t u:TS):TS:=λD σ H=>t { D with nx:=u D } σ H
theorem qf7:PSs X [] tNext:=λ_ _ σ H _ I h=>NA ⟨σ,H,I,h⟩
theorem qed (h1:PS X st t)(h2:PSs X rest u):PSs X (st::rest) (tSeq t u):=by
 intro bE s σ H D I h
 refine wpAny_execs_cons (thn (h1 bE s σ H { D with nx:=u D } I h) λf s1 q=>?_)
 cases f with
 | next =>
  obtain ⟨σ',H',I',q⟩:=q
  exact h2 bE s1 σ' H' D I' q
 | ret v=>exact q
 | brk=>exact q
 | cont=>exact q
theorem qf8 (h1:PS X st t):PSs X [st] t:=by
 intro bE s σ H D I h
 refine wpAny_execs_cons (thn (h1 bE s σ H D I h) λf s1 q=>?_)
 cases f with
 | next=>exact NA q
 | ret v=>exact q
 | brk=>exact q
 | cont=>exact q
theorem Inv.quiet {bE:ag}{σ:St}{H:Hp}{s:Kh}(I:'&'):interactive X.env=false:=by simp [interactive,I.ok.kind]
def tDrop (te:TE):TS:=λD σ H=>te σ H λ_ H1=>D.nx σ H1
theorem Yk (he:PE X e te)(hs:bZ e none pos.line X.env=pure false:=by rfl):PS X (.Expr e pos) (tDrop te):=by
 intro bE s σ H D I h
 exact wpAny_Expr_any (thn (he bE s σ H _ I h) λv s1 ⟨x,H1,I1,r1,q1⟩=>⟨σ,H1,I1,q1⟩) I.quiet hs
def tRet (te:TE):TS:=λD σ H=>te σ H D.rt
theorem qbl (he:PE X e te):PS X (.Return (some e) pos) (tRet te):=by
 intro bE s σ H D I h
 exact wpAny_Return_some (thn (he bE s σ H _ I h) λv s1 ⟨x,H1,I1,r1,q1⟩=>⟨x,σ,H1,I1,r1,q1⟩)
def tIfS (c:TT)(t u:TS):TS:=λD σ H=>c σ H λb H1=>if b=true then t D σ H1 else u D σ H1
theorem qlz {c:KB}{a b:bu}{tc:TT}(hc:PT X c tc)(ha:PSs X a t)(hb:PSs X b u):PS X (.If c a b pos) (tIfS tc t u):=by
 intro bE s σ H D I h
 refine wpAny_If (thn (hc bE s σ H _ I h) λd s1 ⟨H1,I1,q1⟩=>?_)
 cases d with
 | true=>exact ha bE s1 σ H1 D I1 q1
 | false=>exact hb bE s1 σ H1 D I1 q1
end
abbrev TG:=V->St->Hp->(St->Hp->Prop)->Prop
abbrev TGs:=List V->St->Hp->(St->Hp->Prop)->Prop
def PG (X:Cx)(target:KB)(t:TG):Prop :=
 ∀ (bE:ag) (s:Kh) (σ:St) (H:Hp) (v:V) (u:Kc) (Q:St->Hp->Prop),Inv X bE σ H s->RelV v u->t v σ H Q->
  bK '*' X.A (assign target X.env u) (λ_ s'=>∃ σ' H',Inv X bE σ' H' s'/\Q σ' H') X.xe s
def PGs (X:Cx)(ts:aJ)(t:TGs):Prop :=
 ∀ (bE:ag) (s:Kh) (σ:St) (H:Hp) (vs:List V) (us:az) (Q:St->Hp->Prop),Inv X bE σ H s->Vals vs us->t vs σ H Q->
  bK '*' X.A (assignInOrder ((bV ts X.env).map (·.2)) us) (λ_ s'=>∃ σ' H',Inv X bE σ' H' s'/\Q σ' H') X.xe s
abbrev TSet:=V->V->V->Hp->(Hp->Prop)->Prop
def PSet (X:Cx)(t:TSet):Prop :=
 ∀ (bE:ag) (s:Kh) (σ:St) (H:Hp) (o i v:V) (ov iv u:Kc) (Q:Hp->Prop),Inv X bE σ H s->RelV o ov->RelV i iv->RelV v u->t o i v H Q->
  bK '*' X.A (setItem ov iv u) (λ_ s'=>∃ H',Inv X bE σ H' s'/\Q H') X.xe s
section
variable {X:Cx}{pos:Pos}
def qfy (i:Nat):TG:=λv σ H Q=>Q (σ.set i (some v)) H
theorem qf0 {i:Nat}{x:Str}(hN:X.N.Nodup)(hi:X.N[i]?=some x)(hx:Loc X.env.scope x)(hf:X.fn x=true\/X.env.scope.names.lookup x=some .local:=by first|exact .inl rfl|exact .inr rfl|assumption):PG X (.Name x pos) (qfy i):=by
 intro bE s σ H v u Q I r h
 exact wpAny_assign_Name (qej I hN hi hx r (λs' I'=>⟨_,H,I',h⟩) hf)
def gNil:TGs:=λvs σ H Q=>vs=[]/\Q σ H
def gCons (t:TG)(u:TGs):TGs:=λvs σ H Q=>∃ v r,vs=v::r/\t v σ H λσ' H'=>u r σ' H' Q
theorem qf1:PGs X [] gNil:=by
 intro bE s σ H vs us Q I r h
 obtain ⟨e,h⟩:=h
 subst e
 cases r
 exact assignInOrder_nil ⟨σ,H,I,h⟩
theorem qd9 {e:KB}{es:aJ}{t:TG}{u:TGs}(h1:PG X e t)(h2:PGs X es u)
  (hs:(bV (e::es) X.env).map (·.2)=assign e X.env::(bV es X.env).map (·.2):=by rfl):PGs X (e::es) (gCons t u):=by
 intro bE s σ H vs us Q I r h
 obtain ⟨v,vr,e1,h⟩:=h
 subst e1
 cases r with
 | cons r rr =>
  rw [hs]
  refine assignInOrder_cons (thn (h1 bE s σ H _ _ _ I r h) λ_ s1 ⟨σ1,H1,I1,q1⟩=>?_)
  exact h2 bE s1 σ1 H1 _ _ Q I1 rr q1
def gTup (K:Kb)(n:Nat)(t:TGs):TG:=λv σ H Q=>∃ a xs,v=.ref a/\SqT K H a xs/\xs.length=n/\t xs σ H Q
theorem qiL {es:aJ}{k:Nat}{t:TGs}{n:Nat}(hc:X.calm=true)(h:PGs X es t)
  (hn:(bV es X.env).length=n:=by rfl) (hst:(bV es X.env).findIdx? (·.1)=none:=by rfl):PG X (.Tuple es k pos) (gTup X.K n t):=by
 intro bE s σ H v u Q I r hw
 obtain ⟨a,xs,e1,hq,hl,hw⟩:=hw
 subst e1
 cases r
 obtain ⟨its,rv,ht,hz⟩:=I.tuple hq
 refine assign_Tuple_tuple (I.ok.hd hc) ht (by simp [hn,← hl,rv.length]) hst λh' hx=>?_
 have I1:Inv X bE σ H { s with heap:=h' }:=I.kept (t':=s.toks) λb o e=>hx b o (KW (KF e)) e
 exact h bE _ σ H xs _ Q I1 (by simpa using rv) hw
def gSub (to ti:TE)(t:TSet):TG:=λv σ H Q=>to σ H λo H1=>ti σ H1 λi H2=>t o i v H2 λH3=>Q σ H3
theorem qiK {o i:KB}{to ti:TE}{t:TSet}(ho:PE X o to)(hi:PE X i ti)(hs:PSet X t)
  (ha:∀ v,assign (.Subscript o i pos) X.env v=(do
   let ov ← holding [v] (eval o X.env)
   let iv ← holding [v,ov] (eval i X.env)
   cV pos
   holding [v,ov,iv] (setItem ov iv v)
   release [v,ov,iv] []):=by intro _;rfl):PG X (.Subscript o i pos) (gSub to ti t):=by
 intro bE s σ H v u Q I r h
 rw [ha]
 refine Kd (VZ (thn (ho bE s σ H _ I h) λov s1 ⟨x,H1,I1,r1,q1⟩=>?_))
 refine Kd (VZ (thn (hi bE s1 σ H1 _ I1 q1) λiv s2 ⟨y,H2,I2,r2,q2⟩=>?_))
 refine Kd (wpAny_standAt (Kd (VZ (thn (hs bE s2 σ H2 x y v ov iv u _ I2 r1 r2 r q2) λ_ s3 ⟨H3,I3,q3⟩=>?_))))
 exact wpAny_release ⟨σ,H3,I3,q3⟩
def tAsg (te:TE)(g:TG):TS:=λD σ H=>te σ H λx H1=>g x σ H1 D.nx
theorem qeV {tg e:KB}{te:TE}{g:TG}(he:PE X e te)(hg:PG X tg g)(hs:cQ [tg] e pos.line X.env=pure false:=by rfl)(hw:cR [tg] e X.env=pure none:=by rfl)
  (h1:(bV [tg] X.env).map (·.2)=[assign tg X.env]:=by rfl):PS X (.Assign [tg] e pos) (tAsg te g):=by
 intro bE s σ H D I h
 refine wpAny_Assign_stores (thn (he bE s σ H _ I h) λv s1 ⟨x,H1,I1,r1,q1⟩=>?_) hs hw
 rw [h1]
 exact thn (hg bE s1 σ H1 x v _ I1 r1 q1) λ_ s2 q=>q
theorem YK {i:Nat}{x:Str}{e:KB}{te:TE}{pos':Pos}(hN:X.N.Nodup)(hi:X.N[i]?=some x)(hx:Loc X.env.scope x)(he:PE X e te)(hs:bZ e (some (.Name x pos')) pos.line X.env=pure false:=by rfl)(hf:X.fn x=true\/X.env.scope.names.lookup x=some .local:=by first|exact .inl rfl|exact .inr rfl|assumption) :
  PS X (.Assign [.Name x pos'] e pos) (tAsg te (qfy i)):=by
 intro bE s σ H D I h
 refine wpAny_Assign_Name (thn (he bE s σ H _ I h) λv s1 ⟨y,H1,I1,r1,q1⟩=>?_) hs
 exact qej I1 hN hi hx r1 (λs2 I2=>⟨_,H1,I2,q1⟩) hf
end
section
variable {X:Cx}{pos:Pos}
def qnl (c:TT)(tb:TS):TS:=λD σ H=>∃ W:Nat->St->Hp->Prop,(∃ m,W m σ H)/\∀ m σ H,W m σ H->
 c σ H λb H1=>if b=true then ∃ N:St->Hp->Prop,(∀ σ' H',N σ' H'->∃ m',m'<m/\W m' σ' H')/\tb { D with nx:=N,ct:=N,bk:=D.nx } σ H1 else D.nx σ H1
theorem qiS {c:KB}{body:bu}{tc:TT}{tb:TS}(hp:EH '*' X.A X.env X.xe)(hc:PT X c tc)(hb:PSs X body tb):PS X (.While c body [] pos) (qnl tc tb):=by
 intro bE s σ H D I h
 obtain ⟨W,⟨m0,w0⟩,turn⟩:=h
 refine wpAny_While (codeAny_whileLoop (λn s'=>∃ σ' H',Inv X bE σ' H' s'/\W n σ' H') ?_ m0 ⟨σ,H,I,w0⟩)
 rintro n s1 ⟨σ1,H1,I1,w1⟩
 refine U9 hp (thn (hc bE s1 σ1 H1 _ I1 (turn n σ1 H1 w1)) λb s2 ⟨H2,I2,q2⟩=>?_)
 cases b with
 | true =>
  obtain ⟨N,hN,q2⟩:=q2
  rw [bI rfl]
  refine U9 hp (thn (hb bE s2 σ1 H2 _ I2 q2) λf s3 q3=>?_)
  cases f with
  | next =>
   obtain ⟨σ3,H3,I3,n3⟩:=q3
   obtain ⟨m',hm,w3⟩:=hN σ3 H3 n3
   exact ⟨m',hm,σ3,H3,I3,w3⟩
  | cont =>
   obtain ⟨σ3,H3,I3,n3⟩:=q3
   obtain ⟨m',hm,w3⟩:=hN σ3 H3 n3
   exact ⟨m',hm,σ3,H3,I3,w3⟩
  | brk=>exact q3
  | ret v=>exact q3
 | false =>
  rw [bJ VJ]
  exact NA ⟨σ1,H2,I2,q2⟩
end
structure It where
 go:Nat->Hp->Prop
 yld:Nat->Hp->V->Hp->Prop
 stop:Nat->Hp->Prop
def FpOk (X:Cx)(bE:ag)(H:Hp)(b:Ke):Prop :=
 H b=none/\b≠X.env.locals/\b∉X.fs/\(b∈X.ex\/X.s₀.heap.objs.size<=b)/\(∀ x c,X.env.cells.lookup x=some c->c≠b)/\∀ p∈X.pn++bE,p.1≠b
theorem Inv.fpOk {X:Cx}{bE:ag}{σ:St}{H H':Hp}{s:Kh}{b:Ke}(I:'&')(hb:s.heap.objs.size<=b)(hn:H' b=none):FpOk X bE H' b:=by
 refine ⟨hn,UC (K8 I.lt hb),I.nofs hb,.inr (Ve I.sz hb),λx c e z=>?_,λp hp z=>?_⟩
 ·obtain ⟨v,q⟩:=I.cell x c e
  exact absurd (K8 q.lt (by rw [z];exact hb)) (Uc _)
 ·exact absurd (K8 (KF (I.pin p hp).1) (by rw [z];exact hb)) (Uc _)
structure Turn (P:KJ)(w:KZ)(K:Kb)(tg:KB)(J:It)(fp:aH)(it:Ke)(tn:bw):Prop where
 mem:it∈fp
 obj:∀ i h,tn i h->∀ b∈fp,∃ o,h.get? b=some o/\∀ v,o.data≠.cell v
 keep:∀ i h h',tn i h->(∀ b∈fp,∀ o,h.get? b=some o->h'.get? b=some o)->tn i h'
 item:∀ (X:Cx),X.prog=P->X.w=w->X.K=K->X.calm=true->∀ (i:Nat) (bE:ag) (s:Kh) (σ:St) (H:Hp) (E:ah),Inv X bE σ H s->(∀ b∈fp,FpOk X bE H b)->tn i s.heap->J.go i H->
  bK (model P w) X.A (cJ (.ref it)) (λr s1=>∃ u,r=some u/\
   bK (model P w) X.A (cL tg (.ref it) u) (λ_ s2=>∃ x H',Inv X bE σ H' s2/\RelV x u/\J.yld i H x H'/\tn (i+1) s2.heap/\∀ b∈fp,H' b=none) E s1) E s
 done:∀ (X:Cx),X.prog=P->X.w=w->X.K=K->X.calm=true->∀ (i:Nat) (bE:ag) (s:Kh) (σ:St) (H:Hp) (E:ah),Inv X bE σ H s->(∀ b∈fp,FpOk X bE H b)->tn i s.heap->J.stop i H->
  bK (model P w) X.A (cJ (.ref it)) (λr s1=>r=none/\Inv X bE σ H s1) E s
 self:∀ (A:K0) (i:Nat) (s:Kh) (Q:ah) (E:ah),tn i s.heap->Q (.ref it) s->bK (model P w) A (pyIter (.ref it)) Q E s
abbrev TI:=St->Hp->(It->Hp->Prop)->Prop
def PIE (X:Cx)(bE:ag)(σ:St)(tg:KB)(R:It->Hp->Prop)(itv:Kc)(s2:Kh):Prop :=
 ∃ (it:Ke) (fp:aH) (tn:bw) (J:It) (H':Hp),itv=.ref it/\Inv X bE σ H' s2/\Turn X.prog X.w X.K tg J fp it tn/\tn 0 s2.heap/\(∀ b∈fp,FpOk X bE H' b)/\R J H'
def PI (X:Cx)(tg iter:KB)(wi:TI):Prop :=
 ∀ (bE:ag) (s:Kh) (σ:St) (H:Hp) (R:It->Hp->Prop),Inv X bE σ H s->wi σ H R->
  bK '*' X.A (eval iter X.env) (λv s1=>bK '*' X.A (pyIter v) (PIE X bE σ tg R) X.xe s1) X.xe s
theorem qhM {M:Model}{A:K0}{E:ah}{s:Kh}{tg:KB}{it:Ke}{u:Kc}{o:Obj}{n:String}{vs:aT}{Q:Unit->Kh->Prop}(ho:s.heap.get? it=some o)(hc:o.cls=.type n)(hd:o.data=.fields vs)
  (hn:["enumerate", "zip", "dict_itemiterator", "dict_reverseitemiterator", "odict_iterator", "itertools.zip_longest", "itertools.pairwise"].contains n=false) (hQ:Q () s):bK M A (cL tg (.ref it) u) Q E s:=by
 unfold cL
 cases tg<;>first
  | exact Kn hQ
  | (cases u<;>first
    | exact Kn hQ
    | (
      refine Kd (wpAny_load ho ?_)
      rw [hc,hd]
      show bK M A (if (["enumerate", "zip", "dict_itemiterator", "dict_reverseitemiterator", "odict_iterator", "itertools.zip_longest", "itertools.pairwise"].contains n&&vs[0]?==some (cI _))=true then _ else _) Q E s
      rw [bJ (by intro h;rw [hn,Bool.false_and] at h;cases h)]
      exact Kn hQ))
def Itl (K:Kb)(a:Ke):It :=
 ⟨λi H=>∃ xs x,SqL K H a xs/\xs[i]?=some x,λi H x H'=>H'=H/\∀ xs,SqL K H a xs->xs[i]?=some x,λi H=>∃ xs,SqL K H a xs/\xs.length<=i⟩
def Itt (K:Kb)(a:Ke):It :=
 ⟨λi H=>∃ xs x,SqT K H a xs/\xs[i]?=some x,λi H x H'=>H'=H/\∀ xs,SqT K H a xs->xs[i]?=some x,λi H=>∃ xs,SqT K H a xs/\xs.length<=i⟩
def Itr (lo:Int)(n:Nat):It:=⟨λi _=>i<n,λi H x H'=>H'=H/\x=.int (lo+i),λi _=>n<=i⟩
theorem qhd {P:KJ}{w:KZ}{K:Kb}{tg:KB}(a it:Ke):Turn P w K tg (Itl K a) [it] it (λi h=>h.IsListIter it a i) where
 mem:=by simp
 obj:=λi h st b hb=>by
  have e:b=it:=by simpa using hb
  subst e
  obtain ⟨o,e,c,d⟩:=st
  exact ⟨o,e,λv z=>by rw [d] at z;cases z⟩
 keep:=λi h h' st k=>st.at λo e=>k it (by simp) o e
 item:=by
  intro X hP hw hK hc i bE s σ H E I hf st hg
  subst hP hw hK
  obtain ⟨xs,x,hq,hx⟩:=hg
  obtain ⟨its,rv,p,hz⟩:=I.list hq
  obtain ⟨u,hu,ru⟩:=rv.get hx
  obtain ⟨f0,f1,f2,f3,f4,f5⟩:=hf it (by simp)
  refine wpAny_pyNext_list_item st p.isList (x:=u) (by simpa using hu) λh' st' sb=>?_
  have I1:Inv X bE σ H { s with heap:=h' }:=I.turned (t':=s.toks) (λb o hb e=>(sb.2 b hb).trans e) f0 f1 f3 f4 f5
  obtain ⟨o,e,c,d⟩:=id st'
  exact ⟨u,rfl,qhM (s:={ s with heap:=h' }) e c d (by decide) ⟨x,H,I1,ru,⟨rfl,λys hy=>by rw [I.list_inj hy hq];exact hx⟩,st',λb hb=>(hf b hb).1⟩⟩
 done:=by
  intro X hP hw hK hc i bE s σ H E I hf st hg
  subst hP hw hK
  obtain ⟨xs,hq,hx⟩:=hg
  obtain ⟨its,rv,p,hz⟩:=I.list hq
  obtain ⟨f0,f1,f2,f3,f4,f5⟩:=hf it (by simp)
  have hl:=rv.length
  exact wpAny_pyNext_list_end (I.ok.hd hc) st p.isList (by simp;omega) λh' eb=>⟨rfl,I.turned (t':=s.toks) (λb o hb e=>eb b o hb e) f0 f1 f3 f4 f5⟩
 self:=λ_ _ _ _ _ st h=>wpAny_pyIter_listiter st h
theorem qe6 {P:KJ}{w:KZ}{K:Kb}{tg:KB}(a it:Ke):Turn P w K tg (Itt K a) [it] it (λi h=>h.IsTupleIter it a i) where
 mem:=by simp
 obj:=λi h st b hb=>by
  have e:b=it:=by simpa using hb
  subst e
  obtain ⟨o,e,c,d⟩:=st
  exact ⟨o,e,λv z=>by rw [d] at z;cases z⟩
 keep:=λi h h' st k=>st.at λo e=>k it (by simp) o e
 item:=by
  intro X hP hw hK hc i bE s σ H E I hf st hg
  subst hP hw hK
  obtain ⟨xs,x,hq,hx⟩:=hg
  obtain ⟨its,rv,p,hz⟩:=I.tuple hq
  obtain ⟨u,hu,ru⟩:=rv.get hx
  obtain ⟨f0,f1,f2,f3,f4,f5⟩:=hf it (by simp)
  refine wpAny_pyNext_tuple_item st (show s.heap.IsTuple a its.toArray from p) (x:=u) (by simpa using hu) λh' st' sb=>?_
  have I1:Inv X bE σ H { s with heap:=h' }:=I.turned (t':=s.toks) (λb o hb e=>(sb.2 b hb).trans e) f0 f1 f3 f4 f5
  obtain ⟨o,e,c,d⟩:=id st'
  exact ⟨u,rfl,qhM (s:={ s with heap:=h' }) e c d (by decide) ⟨x,H,I1,ru,⟨rfl,λys hy=>by rw [I.tuple_inj hy hq];exact hx⟩,st',λb hb=>(hf b hb).1⟩⟩
 done:=by
  intro X hP hw hK hc i bE s σ H E I hf st hg
  subst hP hw hK
  obtain ⟨xs,hq,hx⟩:=hg
  obtain ⟨its,rv,p,hz⟩:=I.tuple hq
  obtain ⟨f0,f1,f2,f3,f4,f5⟩:=hf it (by simp)
  have hl:=rv.length
  exact wpAny_pyNext_tuple_end (I.ok.hd hc) st (show s.heap.IsTuple a its.toArray from p) (by simp;omega) λh' eb=>⟨rfl,I.turned (t':=s.toks) (λb o hb e=>eb b o hb e) f0 f1 f3 f4 f5⟩
 self:=λ_ _ _ _ _ st h=>wpAny_pyIter_tupleiter st h
theorem qe5 {P:KJ}{w:KZ}{K:Kb}{tg:KB}(it:Ke)(lo:Int)(n:Nat):Turn P w K tg (Itr lo n) [it] it (λi h=>IsRangeIter h it (lo+(i:Nat)*1) ((n:Int)-(i:Nat)) 1) where
 mem:=by simp
 obj:=λi h st b hb=>by
  have e:b=it:=by simpa using hb
  subst e
  exact ⟨_,st,λv z=>by
   have z':UA _=Data.cell v:=z
   cases z'⟩
 keep:=λi h h' st k=>k it (by simp) _ st
 item:=by
  intro X hP hw hK hc i bE s σ H E I hf st hg
  subst hP hw hK
  obtain ⟨f0,f1,f2,f3,f4,f5⟩:=hf it (by simp)
  have W:=Walks.range (prog:=X.prog) (w:=X.w) (I.ok.hd hc) it lo 1 n
  refine W.item i s _ _ hg st λv h' tk hv st' kk=>?_
  obtain ⟨t,rfl⟩:=hv
  have I1:Inv X bE σ H { s with heap:=h',toks:=tk }:=I.turned (λb o hb e=>kk b o (by simpa using hb) e) f0 f1 f3 f4 f5
  refine ⟨_,rfl,qhM (s:={ s with heap:=h',toks:=tk }) (n := "range_iterator") st' rfl rfl (by decide) ⟨.int (lo+i),H,I1,⟨t,?_⟩,⟨rfl,rfl⟩,st',λb hb=>(hf b hb).1⟩⟩
  rw [Int.mul_one]
 done:=by
  intro X hP hw hK hc i bE s σ H E I hf st hg
  subst hP hw hK
  obtain ⟨f0,f1,f2,f3,f4,f5⟩:=hf it (by simp)
  exact wpAny_pyNext_range_end (I.ok.hd hc) st (by have:n<=i:=hg;omega) λh' eb=>⟨rfl,I.turned (t':=s.toks) (λb o hb e=>eb b o hb e) f0 f1 f3 f4 f5⟩
 self:=λ_ _ _ _ _ st h=>wpAny_pyIter_rangeiter st h
section
variable {X:Cx}{tg:KB}
theorem qi0 {bE:ag}{σ:St}{H:Hp}{s:Kh}{R:It->Hp->Prop}{E:ah}{lo hi:Int}{t u v:Tok}{tk:Nat}(I:'&')(h1:-(2 ^ 62)<=lo)(h2:lo<2 ^ 62)(h3:-(2 ^ 62)<=hi)(h4:hi<2 ^ 62)
  (q:R (Itr lo (hi-lo).toNat) H):bK '*' X.A (pyIter (.ref s.heap.objs.size)) (PIE X bE σ tg R) E { s with heap:=s.heap.push { cls:=.type "range", data:=.fields #[.int lo t,.int hi u,.int 1 v] },toks:=tk }:=by
 refine wpAny_pyIter_range (IsRange.new ..) (small_one h1 h2 h3 h4) ?_
 have I1:Inv X bE σ H { s with heap:=s.heap.push { cls:=.type "range", data:=.fields #[.int lo t,.int hi u,.int 1 v] },toks:=tk }:=I.kept λb o e=>Ki _ e
 refine ⟨(s.heap.push { cls:=.type "range", data:=.fields #[.int lo t,.int hi u,.int 1 v] }).objs.size,[(s.heap.push { cls:=.type "range", data:=.fields #[.int lo t,.int hi u,.int 1 v] }).objs.size],_,_,H,rfl,
  I1.kept (t':=tk) λb o e=>Ki _ e,qe5 _ lo (hi-lo).toNat,?_,λb hb=>?_,q⟩
 ·have e1:lo+((0:Nat):Int)*1=lo:=by simp
  have e2:(((hi-lo).toNat:Nat):Int)-((0:Nat):Int)=Builtin.Range.rangeSize lo hi 1:=by rw [rangeSize_one];split<;>omega
  show IsRangeIter _ _ (lo+((0:Nat):Int)*1) ((((hi-lo).toNat:Nat):Int)-((0:Nat):Int)) 1
  rw [e1,e2]
  exact Kx _ rfl
 ·have e:b=(s.heap.push { cls:=.type "range", data:=.fields #[.int lo t,.int hi u,.int 1 v] }).objs.size:=by simpa using hb
  subst e
  exact I1.fpOk (Kp _) (I1.hok.fresh (Kp _))
def iRng1 (ta:TA):TI:=λσ H R=>ta σ H λvs H1=>∃ j:Int,vs=[.int j]/\-(2 ^ 62)<=j/\j<2 ^ 62/\R (Itr 0 j.toNat) H1
theorem qb8 {a:KB}{ta:TA}{p pos:Pos}(hg:Gl X "range")(hm:X.mg "range" = none)(ha:PA X [a] ta)(hs:bG [a] X.env=[(false,eval a X.env)]:=by rfl):PI X tg (.Call (.Name "range" p) [a] [] pos) (iRng1 ta):=by
 intro bE s σ H R I h
 refine Call_ (YC I hg hm boot_range (Uy (thn (ha pos bE s σ H _ I h) λus s1 ⟨vs,H1,I1,r1,q1⟩=>?_) hs rfl))
 obtain ⟨j,e,q1,q2,q⟩:=q1
 subst e
 cases r1 with
 | cons r rr =>
  cases rr
  obtain ⟨t,rfl⟩:=r
  exact call_range_1 (qi0 I1 (by omega) (by omega) q1 q2 (by simpa using q))
def tFor (wi:TI)(g:TG)(tb:TS):TS:=λD σ H=>wi σ H λJ H1=>∃ W:Nat->Nat->St->Hp->Prop,(∃ m,W 0 m σ H1)/\∀ i m σ H,W i m σ H->
 (J.stop i H/\D.nx σ H)\/(J.go i H/\∃ N:St->Hp->Prop,(∀ σ' H',N σ' H'->∃ m',m'<m/\W (i+1) m' σ' H')/\∀ x H',J.yld i H x H'->g x σ H' λσ2 H2=>tb { D with nx:=N,ct:=N,bk:=D.nx } σ2 H2)
def jq (fp:aH)(h:KS):List (Ke×Obj):=fp.filterMap λb=>(h.get? b).map λo=>(b,o)
theorem Z7 {fp:aH}{h:KS}{b:Ke}{o:Obj}(hb:b∈fp)(e:h.get? b=some o):(b,o)∈jq fp h:=UG.mpr ⟨b,hb,by rw [e];rfl⟩
theorem WL {fp:aH}{h:KS}{p:Ke×Obj}(hp:p∈jq fp h):p.1∈fp/\h.get? p.1=some p.2:=by
 obtain ⟨b,hb,e⟩:=UG.mp hp
 cases q:h.get? b with
 | none=>rw [q] at e;cases e
 | some o =>
  rw [q] at e
  have e':(b,o)=p:=V1 e
  subst e'
  exact ⟨hb,q⟩
theorem Inv.pinned {bE:ag}{σ:St}{H:Hp}{s:Kh}{fp:aH}(I:'&')(hf:∀ b∈fp,FpOk X bE H b)(ho:∀ b∈fp,∃ o,s.heap.get? b=some o/\∀ v,o.data≠.cell v):Inv X (bE++jq fp s.heap) σ H s :=
 I.pins_of λp hp=>(KO.mp hp).elim (λz=>I.pin p (KG _ z)) λz=>by
  obtain ⟨hb,e⟩:=WL z
  obtain ⟨f0,f1,f2,_⟩:=hf p.1 hb
  obtain ⟨o,e',d⟩:=ho p.1 hb
  rw [e] at e';cases e'
  exact ⟨e,f0,f1,f2,d⟩
theorem Inv.unpinned {bE pl:ag}{σ:St}{H:Hp}{s:Kh}(I:Inv X (bE++pl) σ H s):Inv X bE σ H s:=I.pins_of λp hp=>I.pin p (KG _ (KM _ hp))
theorem qiR {iter:KB}{body:bu}{wi:TI}{g:TG}{tb:TS}{pos:Pos}(hp:EH '*' X.A X.env X.xe)(hc:X.calm=true)(hi:PI X tg iter wi)(hg:PG X tg g)(hb:PSs X body tb)
  (hs:∀ x,bR iter X.env x=pure x:=by intro _;rfl):PS X (.For tg iter body [] pos) (tFor wi g tb):=by
 intro bE s σ H D I h
 refine wpAny_For (thn (hi bE s σ H _ I h) λv s1 h1=>thn h1 λitv s2 h2=>?_) hs
 obtain ⟨it,fp,tn,J,H2,e,I2,T,st2,f2,W,⟨m0,w0⟩,turn⟩:=h2
 subst e
 have stat:∀ {H':Hp},(∀ b∈fp,H' b=none)->∀ b∈fp,FpOk X bE H' b:=λhn b hb=>⟨hn b hb,(f2 b hb).2⟩
 refine codeAny_forLoop_any (λn s'=>∃ i σ' H',Inv X bE σ' H' s'/\tn i s'.heap/\(∀ b∈fp,H' b=none)/\W i n σ' H') ?_ m0 ⟨0,σ,H2,I2,st2,λb hb=>(f2 b hb).1,w0⟩
 rintro n s3 ⟨i,σ3,H3,I3,st3,fr3,w3⟩
 rcases turn i n σ3 H3 w3 with ⟨stop,qn⟩|⟨go,N,hN,step⟩
 ·refine U9 hp (thn (T.done X rfl rfl rfl hc i bE s3 σ3 H3 X.xe I3 (stat fr3) st3 stop) λr s4 ⟨hr,I4⟩=>?_)
  subst hr
  exact NA ⟨σ3,H3,I4,qn⟩
 ·refine U9 hp (thn (T.item X rfl rfl rfl hc i bE s3 σ3 H3 X.xe I3 (stat fr3) st3 go) λr s4 ⟨u,hr,h4⟩=>?_)
  subst hr
  refine U9 hp (thn h4 λ_ s5 ⟨x,H5,I5,r5,y5,st5,fr5⟩=>?_)
  have I5':=I5.pinned (stat fr5) (T.obj _ _ st5)
  refine U9 hp (thn (hg _ s5 σ3 H5 x u _ I5' r5 (step x H5 y5)) λ_ s6 ⟨σ6,H6,I6,q6⟩=>?_)
  refine U9 hp (thn (hb _ s6 σ6 H6 _ I6 q6) λf s7 q7=>?_)
  have again:∀ {σ7:St} {H7:Hp},Inv X (bE++jq fp s5.heap) σ7 H7 s7->N σ7 H7->∃ m,m<n/\∃ i σ' H',Inv X bE σ' H' s7/\tn i s7.heap/\(∀ b∈fp,H' b=none)/\W i m σ' H':=λ{σ7 H7} I7 n7=>by
   obtain ⟨m',hm,w7⟩:=hN σ7 H7 n7
   refine ⟨m',hm,i+1,σ7,H7,I7.unpinned,T.keep _ _ _ st5 λb hb o e=>(I7.pin (b,o) (KG _ (KG _ (Z7 hb e)))).1,λb hb=>?_,w7⟩
   obtain ⟨o,e,d⟩:=T.obj _ _ st5 b hb
   exact (I7.pin (b,o) (KG _ (KG _ (Z7 hb e)))).2.1
  cases f with
  | next=>obtain ⟨σ7,H7,I7,n7⟩:=q7;exact again I7 n7
  | cont=>obtain ⟨σ7,H7,I7,n7⟩:=q7;exact again I7 n7
  | brk=>obtain ⟨σ7,H7,I7,q7⟩:=q7;exact ⟨σ7,H7,I7.unpinned,q7⟩
  | ret v=>obtain ⟨x7,σ7,H7,I7,r7,q7⟩:=q7;exact ⟨x7,σ7,H7,I7.unpinned,r7,q7⟩
end
abbrev R2:=V->V->Hp->VK->Prop
def OpR (X:Cx)(f:aR)(r:R2):Prop :=
 ∀ (bE:ag) (s:Kh) (σ:St) (H:Hp) (x y:V) (v u:Kc) (Q:VK),Inv X bE σ H s->RelV x v->RelV y u->r x y H Q->
  bK '*' X.A (f v u) (EP X bE σ Q) X.xe s
def UnR (X:Cx)(f:Kc->Sem Kc)(r:V->Hp->VK->Prop):Prop :=
 ∀ (bE:ag) (s:Kh) (σ:St) (H:Hp) (x:V) (v:Kc) (Q:VK),Inv X bE σ H s->RelV x v->r x H Q->
  bK '*' X.A (f v) (EP X bE σ Q) X.xe s
def jD (X:Cx)(f:Kc)(r:bB):Prop :=
 ∀ (bE:ag) (s:Kh) (σ:St) (H:Hp) (xs:List V) (us:az) (Q:VK),Inv X bE σ H s->Vals xs us->r xs H Q->
  bK '*' X.A (call f us) (EP X bE σ Q) X.xe s
def TruR (X:Cx)(r:V->Hp->(Bool->Hp->Prop)->Prop):Prop :=
 ∀ (bE:ag) (s:Kh) (σ:St) (H:Hp) (x:V) (v:Kc) (Q:Bool->Hp->Prop),Inv X bE σ H s->RelV x v->r x H Q->
  bK '*' X.A (truthy v) (TP X bE σ Q) X.xe s
def tOp (r:R2)(ta tb:TE):TE:=λσ H Q=>ta σ H λx H1=>tb σ H1 λy H2=>r x y H2 Q
def tUn (r:V->Hp->VK->Prop)(ta:TE):TE:=λσ H Q=>ta σ H λx H1=>r x H1 Q
def rI (C:aY)(g:Int->Int->V):R2:=λx y H Q=>∃ i j,x=.int i/\y=.int j/\C i j/\Q (g i j) H
def rI0 (g:Int->Int->V):R2:=λx y H Q=>∃ i j,x=.int i/\y=.int j/\Q (g i j) H
def rU (g:Int->V):V->Hp->VK->Prop:=λx H Q=>∃ i,x=.int i/\Q (g i) H
section
variable {X:Cx}{a b c:KB}{ta tb tc:TE}{pos:Pos}
theorem binT (ha:PE X a ta)(hb:PE X b tb){bE:ag}{s:Kh}{σ:St}{H:Hp}{R:V->V->Hp->Prop}(I:'&')
  (h:ta σ H λx H1=>tb σ H1 λy H2=>R x y H2) {Q:ah} {f:aR}
  (hf:∀ v u s2 x y H2,Inv X bE σ H2 s2->RelV x v->RelV y u->R x y H2->bK '*' X.A (f v u) Q X.xe s2) :
  bK '*' X.A (eval a X.env) (λv s₁=>bK '*' X.A (eval b X.env) (λu s₂=>bK '*' X.A (f v u) Q X.xe s₂) X.xe s₁) X.xe s:=by
 refine thn (ha bE s σ H _ I h) λv s1 ⟨x,H1,I1,r1,q1⟩=>?_
 refine thn (hb bE s1 σ H1 _ I1 q1) λu s2 ⟨y,H2,I2,r2,q2⟩=>?_
 exact hf v u s2 x y H2 I2 r1 r2 q2
theorem qly {op:Operator}{r:R2}(ho:OpR X (bY op) r)(ha:PE X a ta)(hb:PE X b tb):PE X (.BinOp a op b pos) (tOp r ta tb):=by
 intro bE s σ H Q I h
 exact wpAny_BinOp (binT ha hb I h λv u s2 x y H2 I2 rx ry q=>ho bE s2 σ H2 x y v u Q I2 rx ry q)
theorem pe_un {op:UnaryOp}{r:V->Hp->VK->Prop}(ho:UnR X (unaryOp op) r)(ha:PE X a ta):PE X (.UnaryOp op a pos) (tUn r ta):=by
 intro bE s σ H Q I h
 exact UnaryOp_ (thn (ha bE s σ H _ I h) λv s1 ⟨x,H1,I1,r1,q1⟩=>ho bE s1 σ H1 x v Q I1 r1 q1)
theorem opI {f:aR}{C:aY}{g:Int->Int->Int}
  (rule:∀ (i j:Int) (t u:Tok) (s:Kh) (Q:ah) (E:ah),C i j->Q (.int (g i j) s.toks) { s with toks:=s.toks+1 }->bK '*' X.A (f (.int i t) (.int j u)) Q E s) :
  OpR X f (rI C λi j=>.int (g i j)):=by
 intro bE s σ H x y v u Q I rx ry h
 obtain ⟨i,j,rfl,rfl,hc,q⟩:=h
 obtain ⟨t,rfl⟩:=rx
 obtain ⟨t',rfl⟩:=ry
 exact rule i j t t' s _ _ hc ⟨.int (g i j),H,I.tok _,⟨_,rfl⟩,q⟩
theorem opI0 {f:aR}{g:Int->Int->Int}
  (rule:∀ (i j:Int) (t u:Tok) (s:Kh) (Q:ah) (E:ah),Q (.int (g i j) s.toks) { s with toks:=s.toks+1 }->bK '*' X.A (f (.int i t) (.int j u)) Q E s) :
  OpR X f (rI0 λi j=>.int (g i j)):=by
 intro bE s σ H x y v u Q I rx ry h
 obtain ⟨i,j,rfl,rfl,q⟩:=h
 obtain ⟨t,rfl⟩:=rx
 obtain ⟨t',rfl⟩:=ry
 exact rule i j t t' s _ _ ⟨.int (g i j),H,I.tok _,⟨_,rfl⟩,q⟩
theorem opB0 {f:aR}{g:Int->Int->Bool}
  (rule:∀ (i j:Int) (t u:Tok) (s:Kh) (Q:ah) (E:ah),Q (.bool (g i j)) s->bK '*' X.A (f (.int i t) (.int j u)) Q E s) :
  OpR X f (rI0 λi j=>.bl (g i j)):=by
 intro bE s σ H x y v u Q I rx ry h
 obtain ⟨i,j,rfl,rfl,q⟩:=h
 obtain ⟨t,rfl⟩:=rx
 obtain ⟨t',rfl⟩:=ry
 exact rule i j t t' s _ _ ⟨.bl (g i j),H,I,rfl,q⟩
def CDiv (i j:Int):Prop:=0<j/\j<1073741824
def CPow (i j:Int):Prop:=0<=j/\j<=1000000/\i.natAbs<2 ^ 64
def CMul (i j:Int):Prop:=(-(2 ^ 64)<i/\i<2 ^ 64)\/(-(2 ^ 64)<j/\j<2 ^ 64)
theorem CMul.ok {i j:Int}(h:CMul i j):Nj i j:=by
 rcases h with ⟨h1,h2⟩|⟨h1,h2⟩
 ·exact .of_left (intBits_le_64 h1 h2)
 ·exact .of_right (intBits_le_64 h1 h2)
theorem qmA:OpR X (bY .Add) (rI0 λi j=>.int (i+j)):=opI0 λ_ _ _ _ _ _ _ q=>add_int q
theorem qmG:OpR X (bY .Sub) (rI0 λi j=>.int (i-j)):=opI0 λ_ _ _ _ _ _ _ q=>sub_int q
theorem qkx:OpR X (bY .FloorDiv) (rI CDiv λi j=>.int (i / j)):=opI λi j _ _ _ _ _ hc q=>by
 have h1:(0:Int)<j:=hc.1
 have h2:j<1073741824:=hc.2
 exact floordiv_int (by omega) (by rw [Int.fdiv_eq_ediv_of_nonneg i (by omega)];exact q) (.inl (PyProof.noPylong_small (by omega)))
theorem qmD:OpR X (bY .Mod) (rI (λ_ j=>0<j) λi j=>.int (i % j)):=opI λi j _ _ _ _ _ hc q=>by
 have h1:(0:Int)<j:=hc
 exact mod_int' (by omega) (by rw [Int.fmod_eq_emod_of_nonneg i (by omega)];exact q)
theorem qmF:OpR X (bY .Pow) (rI CPow λi j=>.int (i ^ j.toNat)):=opI λ_ _ _ _ _ _ _ hc q=>pow_int_small hc.1 hc.2.1 hc.2.2 q
theorem unI {f:Kc->Sem Kc}{g:Int->Int}
  (rule:∀ (i:Int) (t:Tok) (s:Kh) (Q:ah) (E:ah),Q (.int (g i) s.toks) { s with toks:=s.toks+1 }->bK '*' X.A (f (.int i t)) Q E s) :
  UnR X f (rU λi=>.int (g i)):=by
 intro bE s σ H x v Q I rx h
 obtain ⟨i,rfl,q⟩:=h
 obtain ⟨t,rfl⟩:=rx
 exact rule i t s _ _ ⟨.int (g i),H,I.tok _,⟨_,rfl⟩,q⟩
theorem qnr:UnR X (unaryOp .USub) (rU λi=>.int (-i)):=unI λ_ _ _ _ _ q=>neg_int q
end
section
variable {X:Cx}{a b c:KB}{ta tb tc:TE}{pos:Pos}
theorem jM {bE:ag}{σ:St}{H:Hp}{s:Kh}{Q:VK}{k k':Bool}(I:'&')(q:Q (.bl k) H)(e:k=k'):EP X bE σ Q (.bool k') s:=by
 subst e
 exact ⟨.bl k,H,I,rfl,q⟩
theorem op_le:OpR X (bQ .LtE) (rI0 λi j=>.bl (decide (i<=j))):=opB0 λ_ _ _ _ _ _ _ q=>le_int q
theorem op_gt:OpR X (bQ .Gt) (rI0 λi j=>.bl (decide (j<i))):=opB0 λ_ _ _ _ _ _ _ q=>gt_int q
theorem qmC:OpR X (bQ .Is) (λx y H Q=>y=.non/\Q (.bl (decide (x=.non))) H):=by
 intro bE s σ H x y v u Q I rx ry h
 obtain ⟨rfl,q⟩:=h
 cases ry
 refine is_none_gen (jM I q ?_)
 cases x<;>first
  | (cases rx;rfl)
  | (obtain ⟨t,rfl⟩:=rx;rfl)
theorem qkz:OpR X (bQ .IsNot) (λx y H Q=>y=.non/\Q (.bl (!decide (x=.non))) H):=by
 intro bE s σ H x y v u Q I rx ry h
 obtain ⟨rfl,q⟩:=h
 cases ry
 refine isnot_none_gen (jM I q ?_)
 cases x<;>first
  | (cases rx;rfl)
  | (obtain ⟨t,rfl⟩:=rx;rfl)
theorem OpR.or {f:aR}{r r':R2}(h:OpR X f r)(h':OpR X f r'):OpR X f (λx y H Q=>r x y H Q\/r' x y H Q):=by
 intro bE s σ H x y v u Q I rx ry q
 rcases q with q|q
 ·exact h bE s σ H x y v u Q I rx ry q
 ·exact h' bE s σ H x y v u Q I rx ry q
theorem zg (b:KB){op:CmpOp}(h:op≠.In:=by decide)(h2:op≠.NotIn:=by decide):cE op b=false:=by
 have e1:(op==CmpOp.In)=false:=by cases op<;>first|rfl|exact absurd rfl h
 have e2:(op==CmpOp.NotIn)=false:=by cases op<;>first|rfl|exact absurd rfl h2
 cases b<;>simp [cE,e1,e2]
theorem qkI {op:CmpOp}{r:R2}(ho:OpR X (bQ op) r)(ha:PE X a ta)(hb:PE X b tb)(hm:cE op b=false):PE X (.Compare a [op] [b] pos) (tOp r ta tb):=by
 intro bE s σ H Q I h
 exact wpAny_Compare1 (binT ha hb I h λv u s2 x y H2 I2 rx ry q=>ho bE s2 σ H2 x y v u Q I2 rx ry q) hm
def qlG (t:TE):TT:=λσ H Q=>t σ H λx H'=>∃ k,x=.bl k/\Q k H'
theorem qkQ {op:CmpOp}{r:R2}(ho:OpR X (bQ op) r)(ha:PE X a ta)(hb:PE X b tb)(hm:cE op b=false):PT X (.Compare a [op] [b] pos) (qlG (tOp r ta tb)):=by
 intro bE s σ H Q I h
 refine wpAny_isTrue_Compare1 (thn (ha bE s σ H _ I h) λv s1 ⟨x,H1,I1,r1,q1⟩=>thn (hb bE s1 σ H1 _ I1 q1) λu s2 ⟨y,H2,I2,r2,q2⟩ =>
  thn (ho bE s2 σ H2 x y v u _ I2 r1 r2 q2) λc s3 ⟨z,H3,I3,r3,k,e,q3⟩=>?_) hm
 subst e
 cases r3
 exact Ua ⟨H3,I3,q3⟩
def qi9 (r r':R2)(ta tb tc:TE):TE:=λσ H Q=>ta σ H λx H1=>tb σ H1 λy H2=>r x y H2 λz H3=>∃ k,z=.bl k/\
 (if k=true then tc σ H3 λw' H4=>r' y w' H4 Q else Q (.bl false) H3)
theorem qiT {op op':CmpOp}{r r':R2}(ho:OpR X (bQ op) r)(ho':OpR X (bQ op') r')(ha:PE X a ta)(hb:PE X b tb)(hc:PE X c tc)
  (hm:lastMarks [op,op'] [b,c]=false:=by with_unfolding_all rfl):PT X (.Compare a [op,op'] [b,c] pos) (qlG (qi9 r r' ta tb tc)):=by
 intro bE s σ H Q I h
 refine isTrue_chain (thn (ha bE s σ H _ I h) λv s1 ⟨x,H1,I1,r1,q1⟩=>test_link (thn (hb bE s1 σ H1 _ I1 q1) λu s2 ⟨y,H2,I2,r2,q2⟩ =>
  thn (ho bE s2 σ H2 x y v u _ I2 r1 r2 q2) λd s3 ⟨z,H3,I3,r3,k,e,q3⟩=>?_)) hm
 subst e
 cases r3
 refine Ua ?_
 cases k with
 | false =>
  obtain ⟨k',e',q'⟩:=q3
  cases e'
  exact ite_ff ⟨H3,I3,q'⟩
 | true =>
  refine ite_tt (test_last (thn (hc bE s3 σ H3 _ I3 q3) λw' s4 ⟨z',H4,I4,r4,q4⟩=>thn (ho' bE s4 σ H4 y z' u w' _ I4 r2 r4 q4) λd' s5 ⟨z2,H5,I5,r5,k2,e2,q5⟩=>?_))
  subst e2
  cases r5
  exact Ua ⟨H5,I5,q5⟩
def TruV (K:Kb)(x:V)(H:Hp)(k:Bool):Prop :=
 match x with
 | .non=>k=false
 | .bl b=>k=b
 | .int i=>k=(i != 0)
 | .str y=>y.length<=bM/\k=((y.length:Int) != 0)
 | .byt y=>y.size<=bM/\k=((y.size:Int) != 0)
 | .ref p=>(∃ xs,SqL K H p xs/\k=!xs.isEmpty)\/(∃ xs,SqT K H p xs/\k=!xs.isEmpty)\/∃ kvs,H p=some (.dK kvs)/\k=!kvs.isEmpty
 | _=>False
theorem qey {κ:Type}{kvs:List (κ×V)}{vs:List (κ×Value)}(r:KV kvs vs):(!vs.isEmpty)=!kvs.isEmpty:=by
 cases r<;>rfl
theorem qaM {xs:List V}{its:az}(r:Vals xs its):(!its.toArray.isEmpty)=!xs.isEmpty:=by
 cases r<;>simp
theorem qcO:(bM:Nat)<2 ^ 63:=by rw [Xj];decide
theorem qnp:TruR X (λx H Q=>∃ k,TruV X.K x H k/\Q k H):=by
 intro bE s σ H x v Q I rx h
 obtain ⟨k,e,q⟩:=h
 have hl:=qcO
 have hs:bM=16777216:=Xj
 cases x with
 | non =>
  cases rx
  have e':k=false:=e
  subst e'
  exact truthy_none ⟨H,I,q⟩
 | bl b =>
  cases rx
  have e':k=b:=e
  subst e'
  exact Ua ⟨H,I,q⟩
 | int i =>
  obtain ⟨t,rfl⟩:=rx
  have e':k=(i != 0):=e
  subst e'
  exact PySem.P.truthy_int ⟨H,I,q⟩
 | str y =>
  obtain ⟨t,rfl⟩:=rx
  obtain ⟨hy,e'⟩:y.length<=bM/\k=((y.length:Int) != 0):=e
  subst e'
  exact PySem.P.truthy_str (by omega) ⟨H,I.tok _,q⟩
 | byt y =>
  obtain ⟨t,rfl⟩:=rx
  obtain ⟨hy,e'⟩:y.size<=bM/\k=((y.size:Int) != 0):=e
  subst e'
  exact PySem.W.truthy_bytes (by omega) ⟨H,I.tok _,q⟩
 | ref p =>
  cases rx
  have e':(∃ xs,SqL X.K H p xs/\k=!xs.isEmpty)\/(∃ xs,SqT X.K H p xs/\k=!xs.isEmpty)\/∃ kvs,H p=some (.dK kvs)/\k=!kvs.isEmpty:=e
  rcases e' with ⟨xs,hx,e'⟩|⟨xs,hx,e'⟩|⟨kvs,hx,e'⟩
  ·subst e'
   obtain ⟨its,r,pl,hz⟩:=I.list hx
   have hlen:=r.length
   exact wpAny_truthy_list pl.isList (by simp only [KA];omega) ⟨H,I.tok _,by rw [qaM r];exact q⟩
  ·subst e'
   obtain ⟨its,r,pl,hz⟩:=I.tuple hx
   have hlen:=r.length
   exact truthy_tuple pl (by simp only [KA];omega) ⟨H,I.tok _,by rw [qaM r];exact q⟩
  ·subst e'
   obtain ⟨hz,hS,vs,r,m⟩:kvs.length<=bM/\(p==cB)=false/\∃ vs,KV kvs vs/\s.heap.DictOf (qcT X.prog X.w) p vs:=I.hok p _ hx
   have hlen:kvs.length=vs.length:=Paired.length r
   exact wpAny_truthy_dict hS m (by omega) ⟨H,I.tok _,by rw [qey r];exact q⟩
 | _=>exact (show False from e).elim
theorem qiU (ha:PE X a ta)(he:∀ whole,isTrue a X.env whole=(do let v ← whole;cV a.pos;holding [v] (truthy v))) :
  PT X a (λσ H Q=>ta σ H λx H'=>∃ k,TruV X.K x H' k/\Q k H'):=by
 intro bE s σ H Q I h
 exact isTrue_plain (thn (ha bE s σ H _ I h) λv s1 ⟨x,H1,I1,r1,q1⟩=>qnp bE s1 σ H1 x v Q I1 r1 q1) (he _)
theorem vals1 {x:V}{us:az}(r:Vals [x] us):∃ u,us=[u]/\RelV x u:=by
 cases r with
 | cons r1 r2=>cases r2;exact ⟨_,rfl,r1⟩
theorem vals2 {x y:V}{us:az}(r:Vals [x,y] us):∃ u w',us=[u,w']/\RelV x u/\RelV y w':=by
 cases r with
 | cons r1 r2 =>
  cases r2 with
  | cons r3 r4=>cases r4;exact ⟨_,_,rfl,r1,r3⟩
theorem qgk:jD X (.type "int") (λxs H Q=>(∃ i,xs=[.int i]/\Q (.int i) H)\/∃ k,xs=[.bl k]/\Q (.int (if k then 1 else 0)) H):=by
 intro bE s σ H xs us Q I r h
 rcases h with ⟨i,rfl,q⟩|⟨k,rfl,q⟩
 ·obtain ⟨u,rfl,t,rfl⟩:=vals1 r
  exact call_int_int ⟨.int i,H,I,⟨_,rfl⟩,q⟩
 ·obtain ⟨u,rfl,r1⟩:=vals1 r
  cases r1
  exact call_int_bool ⟨.int (if k then 1 else 0),H,I.tok _,⟨_,rfl⟩,q⟩
end
structure ObjM (h:KS)(x dx C:Ke)(mA:ao):Prop where
 obj:h.get? x=some (V0 C dx)
 ns:h.Ns1 dx mA
 ne:dx≠x
theorem qgJ {h:KS}{dx:Ke}{mA:ao}(n:h.Ns1 dx mA):∃ od,h.get? dx=some od/\∀ name,NQ name od=some (mA name):=by
 obtain ⟨o,es,ep,ho,hd,hk,_,hm⟩:=n
 refine ⟨o,ho,λname=>?_⟩
 have e:=hm name
 unfold nsFind findBy at e
 rw [← Array.find?_toList] at e
 unfold NQ
 rw [hd]
 dsimp only
 split
 ·rename_i y q
  rw [q] at e
  exact congrArg some e
 ·rename_i q
  rw [q] at e
  have a:es.toList.any (·.refKey)=false:=by
   rw [List.any_eq_false]
   intro y hy
   obtain ⟨z,t,hkey⟩:=hk y (XG.mp hy)
   simp [DictEntry.refKey,hkey]
  have a':¬ es.toList.any (·.refKey)=true:=by rw [a];exact VJ
  rw [bJ a']
  exact congrArg some e
theorem ObjM.look {h:KS}{x dx C:Ke}{mA:ao}(I:ObjM h x dx C mA):∃ od,PySem.W.InstAt h x (V0 C dx) C (some od)/\∀ name,NQ name od=some (mA name) :=
 let ⟨od,ho,hl⟩:=qgJ I.ns
 ⟨od,⟨I.obj,rfl,rfl,ho⟩,hl⟩
section
variable {prog:KJ}{w:KZ}{A:K0}{E:ah}{s:Kh}{K:Kb}{x dx C f:Ke}{mA:ao}{name:Str}{v:Kc}
theorem qhL {pl:Sem Bool}{Q:Kc×List Kc->Kh->Prop}(X:K.In s.heap)(I:ObjM s.heap x dx C mA)(hg:Nk K C name=true)
  (hf:Vy K (.ref C) name=some (some (.ref f))) (ht:Fd K (.ref f)=true) (hv:mA name=none) (h:Q (.ref f,[.ref x]) s) :
  bK ',' A (getMethod (.ref x) name pl) Q E s:=by
 obtain ⟨od,J,hl⟩:=I.look
 exact PySem.W.method_fn X J (Fb hg).1 (Fb hg).2 hf (cv.mp ht) (by show (NQ name od).map (·.isSome)=some false;rw [hl,hv];rfl) h
theorem qgO {R:bg}(X:K.In s.heap)(hm:NB K C=true)
  (hi:Vy K (.ref C) "__init__" = some (some (.builtin "object.__init__")))
  (hb:∀ self,Em ',' s.heap (bindSpecial (.builtin "object.__init__") self) (.builtin "object.__init__", [self]))
  (h:cA ',' (A.under (.builtin "type.__call__" ⟨[.ref C],[]⟩)) (.call (.builtin "object.__init__") ⟨[.ref (s.heap.objs.size+1)],[]⟩) (PySem.W.InitBack (s.heap.objs.size+1) R)
   { s with heap:=(s.heap.push VQ).push (V0 C s.heap.objs.size) }) :
  cA ',' A (.call (.ref C) ⟨[],[]⟩) R s:=by
 obtain ⟨hh,g,d,t,os⟩:=s
 exact PySem.W.make_core (PySem.W.makes_of X hm) (NR X hi) hb (.inr ⟨rfl,rfl⟩) h
end
theorem RelO.none_of {o:Option Kc}(r:RelO none o):o=none:=by
 cases o with
 | none=>rfl
 | some u=>exact (show False from r).elim
section
variable {P:KJ}{w:KZ}{H H':Hp}{h h':KS}{a C dx:Ke}{fs fs':bD}
theorem qfB (hok:HOk P w H h)(e:H a=some (.ins C dx fs)):∃ mA,ObjM h a dx C mA/\(∀ f,RelO (fs.lookup f) (mA f))/\PySem.Within mA (fs.map (·.1))/\fs.length<=1000/\H dx=some (.own a):=by
 obtain ⟨d,z,ne,ob,mA,n,r,q⟩:=(show Qw P w H h a (.ins C dx fs) from hok a _ e)
 exact ⟨mA,⟨ob,n,ne⟩,r,q,z,d⟩
end
structure Cls (K:Kb)(C:Ke):Prop where
 pg:Nk K C Str.empty=true
 hd:Fj K C=true
 po:Fk K C=true
 sa:Vy K (.ref C) "__setattr__" = some (some (.builtin "object.__setattr__"))
theorem Cls.get {K:Kb}{C:Ke}(c:Cls K C)(f:Str):Nk K C f=true:=c.pg
structure Meth (K:Kb)(C:Ke)(m:Str)(f:Ke):Prop where
 at_:Vy K (.ref C) m=some (some (.ref f))
 fn:Fd K (.ref f)=true
 kp:Vl K (.ref f)=true
section
variable {X:Cx}{bE:ag}{σ:St}{H:Hp}{s:Kh}{a C dx:Ke}{fs:bD}{f:Str}{v:V}{A:K0}{E:ah}
theorem qev {m:Str}{g:Ke}{pl:Sem Bool}{Q:Kc×List Kc->Kh->Prop}(I:'&')(e:H a=some (.ins C dx fs))(c:Cls X.K C)(k:Meth X.K C m g)(l:fs.lookup m=none)
  (h:Q (.ref g,[.ref a]) s):bK '*' A (getMethod (.ref a) m pl) Q E s:=by
 obtain ⟨mA,O,r,_,_,_⟩:=qfB I.hok e
 have hn:mA m=none:=RelO.none_of (by rw [← l];exact r m)
 exact qhL I.kIn O (c.get m) k.at_ k.fn hn h
theorem Inv.made (I:'&'):Inv X bE σ (upd (upd H s.heap.objs.size (.own (s.heap.objs.size+1))) (s.heap.objs.size+1) (.ins C s.heap.objs.size []))
  { s with heap:=(s.heap.push VQ).push (V0 C s.heap.objs.size) }:=by
 have e1:(s.heap.push VQ).get? s.heap.objs.size=some VQ:=Kx s.heap rfl
 have e2:((s.heap.push VQ).push (V0 C s.heap.objs.size)).get? (s.heap.objs.size+1)=some (V0 C s.heap.objs.size):=by
  have:=Kx (s.heap.push VQ) (o:=V0 C s.heap.objs.size) rfl
  rwa [Vo] at this
 have e3:(s.heap.push VQ).Ns s.heap.objs.size (λ_=>none):=⟨VQ,#[],_,e1,rfl,(λe he=>absurd he (by simp)),λ_=>rfl⟩
 have I1:=I.laid (a:=s.heap.objs.size) (o:=.own (s.heap.objs.size+1)) (h':=s.heap.push VQ) (t':=s.toks) (λb u q=>Ki _ q) (Kp _) ⟨_,e1⟩
 refine I1.laid (a:=s.heap.objs.size+1) (o:=.ins C s.heap.objs.size []) (t':=s.toks) (λb u q=>Ki _ q) (Nat.le_of_eq (Vo _ _)) ?_
 have ne:s.heap.objs.size≠s.heap.objs.size+1:=KW (UE _)
 refine ⟨by rw [qO ne,qU],Vh _,ne,e2,λ_=>none,(Heap.Ns1.of_empty e3).at λo q=>Ki _ q,λ_=>Us,λy hy=>absurd rfl hy⟩
end
section
variable {X:Cx}{bE:ag}{σ:St}{H:Hp}{s:Kh}{A:K0}{E:ah}{Q:ah}{c:Kc}{b:Bool}
inductive TyOf (K:Kb)(H:Hp):V->Kc->Prop where
 | non:TyOf K H .non (.type "NoneType")
 | bl (x:Bool):TyOf K H (.bl x) (.type "bool")
 | int (i:Int):TyOf K H (.int i) (.type "int")
 | str (x:Str):TyOf K H (.str x) (.type "str")
 | flt (x:UInt64):TyOf K H (.flt x) (.type "float")
 | lst {a:Ke} {xs:List V} (e:H a=some (.lst xs)):TyOf K H (.ref a) (.type "list")
 | frz {a:Ke} {o:Obj} {xs:List V} (e:H a=some (.frz o (.lst xs))):TyOf K H (.ref a) (.type "list")
 | tup {a:Ke} {xs:List V} (e:H a=some (.tup xs)):TyOf K H (.ref a) (.type "tuple")
 | dK {a:Ke} {kvs:List (Key×V)} (e:H a=some (.dK kvs)):TyOf K H (.ref a) (.type "dict")
 | dT {a:Ke} {kvs:List (List Key×V)} (e:H a=some (.dT kvs)):TyOf K H (.ref a) (.type "dict")
 | ins {a C dx:Ke} {fs:bD} (e:H a=some (.ins C dx fs)) (cl:Cls K C) (ha:Vy K (.ref C) "__class__" = some (some (.builtin "object.__class__")))
   (hn:Ed K (.builtin "object.__class__") "__get__" = some (some (.builtin "getset_descriptor.__get__"))) (htk:EI K (.builtin "object.__class__")=some true)
   (hm:Xn K C (.type "object")=some true):TyOf K H (.ref a) (.ref C)
theorem qgy {x:V}{u t:Kc}(I:'&')(rx:RelV x u)(ty:TyOf X.K H x t)(e:VB X.K t c=some b)(h:∀ tk,Q (.bool b) { s with toks:=tk }) :
  bK '*' A (call (.builtin "isinstance") [u,c]) Q E s:=by
 cases ty with
 | non=>cases (show u=VE from rx);exact Vn Fl I.kIn Us e (λz=>nomatch z) h
 | bl y=>cases (show u=Vv y from rx);exact Vn Fm I.kIn Us e (λz=>nomatch z) h
 | int i=>obtain ⟨t,q⟩:=(show ∃ t,u=NY i t from rx);cases q;exact Vn PySem.W.kitx_int I.kIn Us e (λz=>nomatch z) h
 | str y=>obtain ⟨t,q⟩:=(show ∃ t,u=Nu y t from rx);cases q;exact Vn PySem.W.kitx_str I.kIn Us e (λz=>nomatch z) h
 | flt y=>obtain ⟨t,q⟩:=(show ∃ t,u=Value.float y t from rx);cases q;exact Vn PySem.W.kitx_float I.kIn Us e (λz=>nomatch z) h
 | @lst a xs ea =>
  cases (show u=Vd a from rx)
  obtain ⟨_,_,n,_,h1⟩:=(show Qw X.prog X.w H s.heap a (.lst xs) from I.hok a _ ea)
  exact Vn Ee I.kIn ⟨_,h1,rfl⟩ e (λz=>nomatch z) h
 | @frz a ob xs ea =>
  cases (show u=Vd a from rx)
  obtain ⟨_,_,_,n,_,h1⟩:=(show Qw X.prog X.w H s.heap a (.frz ob (.lst xs)) from I.hok a _ ea)
  exact Vn Ee I.kIn ⟨_,h1,rfl⟩ e (λz=>nomatch z) h
 | @tup a xs ea =>
  cases (show u=Vd a from rx)
  obtain ⟨_,_,_,p⟩:=(show Qw X.prog X.w H s.heap a (.tup xs) from I.hok a _ ea)
  obtain ⟨o,h1,h2,_⟩:=p
  exact Vn Fe I.kIn ⟨o,h1,h2⟩ e (λz=>nomatch z) h
 | @dK a kvs ea =>
  cases (show u=Vd a from rx)
  obtain ⟨_,_,vs,_,p⟩:=(show Qw X.prog X.w H s.heap a (.dK kvs) from I.hok a _ ea)
  obtain ⟨o,es,ep,h1,h2,_⟩:=p
  exact Vn Ef I.kIn ⟨o,h1,h2.1⟩ e (λz=>nomatch z) h
 | @dT a kvs ea =>
  cases (show u=Vd a from rx)
  obtain ⟨_,_,xs,_,o,es,ep,h1,h2,_⟩:=(show Qw X.prog X.w H s.heap a (.dT kvs) from I.hok a _ ea)
  exact Vn Ef I.kIn ⟨o,h1,h2.1⟩ e (λz=>nomatch z) h
 | @ins a C dx fs ea cl ha hn htk hm =>
  cases (show u=Vd a from rx)
  obtain ⟨mA,O,_⟩:=qfB I.hok ea
  obtain ⟨od,J,_⟩:=O.look
  exact Vn (PySem.W.kitx_own (cl.get _) cl.hd ha hn htk hm) I.kIn J e (λz=>nomatch z) h
end
structure Room (k:Nat)(A:K0):Prop where
 hd:A.handled=none
 dp:A.depth+3*k+5<recursionLimit
 un:A.units+16*k+200<cg
 gd:A.guards=some []
theorem Room.mono {j k:Nat}{A:K0}(r:Room k A)(h:j<=k):Room j A:=⟨r.hd,by have:=r.dp;omega,by have:=r.un;omega,r.gd⟩
theorem Room.deeper {k:Nat}{A:K0}(r:Room (k+1) A)(env:Env):Room k (A.deeper env) :=
 ⟨r.hd,by have:=r.dp;show A.depth+1+3*k+5<_;omega,by have:=r.un;show A.units+3+16*k+200<_;omega,r.gd⟩
theorem Room.depth {k:Nat}{A:K0}(r:Room k A):A.depth<recursionLimit:=by have:=r.dp;omega
theorem Room.units {k:Nat}{A:K0}(r:Room k A):A.units+64<cg:=by have:=r.un;omega
def tNil:TA:=λ_ H Q=>Q [] H
def tCons (ta:TE)(tr:TA):TA:=λσ H Q=>ta σ H λx H1=>tr σ H1 λxs H2=>Q (x::xs) H2
section
variable {X:Cx}{e:KB}{es:aJ}{te:TE}{t:TA}{pos:Pos}
theorem qa7:PA X [] tNil:=λ_ _ _ _ H Q I h=>Calls.spliced_nil ⟨[],H,I,.nil,h⟩
theorem jd (ha:PE X e te)(hr:PA X es t)(hs:bG (e::es) X.env=(false,eval e X.env)::bG es X.env:=by rfl):PA X (e::es) (tCons te t):=by
 intro pos bE s σ H Q I h
 rw [hs]
 show bK _ _ (spliced ((false,eval e X.env)::bT pos (bG es X.env))) _ _ s
 refine Calls.spliced_cons (thn (ha bE s σ H _ I h) λu s1 ⟨x,H1,I1,r1,q1⟩=>?_)
 exact thn (hr pos bE s1 σ H1 _ I1 q1) λus s2 ⟨xs,H2,I2,r2,q2⟩=>⟨x::xs,H2,I2,.cons r1 r2,q2⟩
def tTup (t:TA):TE:=λσ H Q=>t σ H λxs H1=>xs.length<=bM/\∀ p,H1 p=none->Q (.ref p) (upd H1 p (.tup xs))
def tLst (t:TA):TE:=λσ H Q=>t σ H λxs H1=>xs.length<=bM/\∀ p,H1 p=none->Q (.ref p) (upd H1 p (.lst xs))
theorem qeS {x1}(h:PA X es t):PE X (.Tuple es x1 pos) (tTup t):=by
 intro bE s σ H Q I hq
 refine wpAny_Tuple_spliced (thn (h pos bE s σ H _ I hq) λus s1 ⟨xs,H1,I1,r,z,q⟩=>⟨by rw [← r.length];exact z,?_⟩)
 have hf:H1 s1.heap.objs.size=none:=I1.hok.fresh (Kp _)
 refine ⟨.ref s1.heap.objs.size,upd H1 s1.heap.objs.size (.tup xs),I1.laid (t':=s1.toks) (λb u e=>Ki _ e) (Kp _) ?_,rfl,q _ hf⟩
 exact ⟨z,us,r,⟨_,Kx _ rfl,rfl,_,rfl⟩⟩
theorem qiG (h:PA X es t):PE X (.List es pos) (tLst t):=by
 intro bE s σ H Q I hq
 refine wpAny_List_spliced (thn (h pos bE s σ H _ I hq) λus s1 ⟨xs,H1,I1,r,z,q⟩=>⟨by rw [← r.length];exact z,?_⟩)
 have hf:H1 s1.heap.objs.size=none:=I1.hok.fresh (Kp _)
 refine ⟨.ref s1.heap.objs.size,upd H1 s1.heap.objs.size (.lst xs),I1.laid (t':=s1.toks) (λb u e=>Ki _ e) (Kp _) ?_,rfl,q _ hf⟩
 exact ⟨z,us,0,r,Kx _ rfl⟩
end
abbrev Sp:=List V->Hp->VK->XK->Prop
abbrev CXT:=List Env->Hp->Kh->XK->Kc->Kh->Prop
structure Env0 (P:KJ)(w:KZ)(K:Kb)(mg:ao)(base:KS)(A:K0)(outer:aU)(s:Kh)(H:Hp):Prop where
 frames:A.frames=some outer
 mod:Mod K mg base
 bs:∀ b o,base.get? b=some o->s.heap.get? b=some o/\H b=none
 bsz:base.objs.size<=s.heap.objs.size
 funs:s.heap.FunFrames base outer
 frf:∀ b∈frs outer,H b=none
 hok:HOk P w H s.heap
 bare:XN s.gens
def CE (outer:aU)(P:KJ)(w:KZ)(H:Hp)(s:Kh)(Q:VK)(u:Kc)(s':Kh):Prop :=
 ∃ v H',s'.os=s.os/\XN s'.gens/\Un (frs outer) [] H H' s.heap s'.heap/\HOk P w H' s'.heap/\RelV v u/\Q v H'
def CR (CX:CXT)(outer:aU)(P:KJ)(w:KZ)(H:Hp)(s:Kh)(Q:VK)(E:XK)(r:Result)(s':Kh):Prop :=
 match r with
 | .ok (.ret u)=>CE outer P w H s Q u s'
 | .ok _=>False
 | .error e=>CX outer H s E e s'
structure FnOk (P:KJ)(w:KZ)(K:Kb)(mg:ao)(base:KS)(CX:CXT)(k:Nat)(f:Ke)(fd:Vp)(ps:aB)(sp:Sp):Prop where
 len:∀ vs H Q E,sp vs H Q E->vs.length=ps.length
 run:∀ (A:K0) (outer:aU) (s:Kh) (H:Hp) (args:Args) (us:az) (vs:List V) (Q:VK) (E:XK),Room k A->Env0 P w K mg base A outer s H->BindsTo s fd args (ps.zip us)->Vals vs us->sp vs H Q E->
  cA (model P w) A (.call (.ref f) args) (CR CX outer P w H s Q E) s
theorem FnOk.imp {P:KJ}{w:KZ}{K:Kb}{mg:ao}{base:KS}{CX:CXT}{k:Nat}{f:Ke}{fd:Vp}{ps:aB}{sp sp':Sp}(F:FnOk P w K mg base CX k f fd ps sp)
  (h:∀ vs H Q E,sp' vs H Q E->sp vs H Q E):FnOk P w K mg base CX k f fd ps sp' :=
 ⟨λvs H Q E q=>F.len vs H Q E (h _ _ _ _ q),λA outer s H args us vs Q E hr he hb hv hs=>F.run A outer s H args us vs Q E hr he hb hv (h _ _ _ _ hs)⟩
section
variable {X:Cx}{bE:ag}{σ:St}{H:Hp}{s s':Kh}
theorem Inv.env0 (I:'&'):Env0 X.prog X.w X.K X.mg X.base X.A X.stack s H :=
 ⟨I.ok.frames,I.ok.mod,I.bs,Ve I.ok.bsz I.sz,I.stack,I.stkFree,I.hok,I.bare⟩
theorem Inv.after {Q:VK}{u:Kc}(I:'&')(h:CE X.stack X.prog X.w H s Q u s'):EP X bE σ Q u s':=by
 obtain ⟨v,H',os,bare,un,hok,r,q⟩:=h
 obtain ⟨hh,g,d,t,os'⟩:=s'
 obtain rfl:os'=s.os:=os
 exact ⟨v,H',I.call (h':=hh) (g':=g) (d':=d) (t':=t) (ch:=[]) un hok bare (λb z=>absurd z (by simp)),r,q⟩
end
def tCall (sp:Sp)(dvs:List V)(E:XK)(t:TA):TE:=λσ H Q=>t σ H λvs H1=>sp (vs++dvs) H1 Q E
def Binds (K:Kb)(fd:Vp)(ps:aB)(ds:az):Prop :=
 ∀ (s:Kh) (us:az),K.In s.heap->(us++ds).length=ps.length->BindsTo s fd ⟨us,[]⟩ (ps.zip (us++ds))
theorem Binds.all {K:Kb}{fd:Vp}{ps:aB}(h:∀ us:List Kc,us.length=ps.length->bindArgs fd ⟨us,[]⟩=pure (ps.zip us)):Binds K fd ps []:=λs us _ hl=>by
 rw [VM] at hl ⊢
 exact .of_eq (h us hl)
def qci (CX:CXT)(X:Cx)(E:XK):Prop:=∀ (bE:ag) (σ:St) (H:Hp) (s:Kh) (e:Kc) (s':Kh),Inv X bE σ H s->CX X.stack H s E e s'->X.xe e s'
section
variable {X:Cx}{CX:CXT}{k:Nat}{f C:Ke}{fd:Vp}{ps:aB}{sp:Sp}{dvs:List V}{ds:az}{E:XK}{x m:Str}{p pos apos:Pos}{e o:KB}{es:aJ}{ta:TE}{t:TA}
theorem qi2 {bE:ag}{σ:St}{H:Hp}{s:Kh}{Q:VK}{us:az}{vs:List V}(F:FnOk X.prog X.w X.K X.mg X.base CX k f fd ps sp)(hr:Room k X.A)(hb:Binds X.K fd ps ds)(hd:Vals dvs ds)(hx:qci CX X E)
  (I:'&') (r:Vals vs us) (h:sp (vs++dvs) H Q E):bK '*' X.A (call (.ref f) us) (EP X bE σ Q) X.xe s:=by
 have r2:Vals (vs++dvs) (us++ds):=r.append hd
 have hl:(us++ds).length=ps.length:=by rw [← r2.length];exact F.len _ _ _ _ h
 refine wpAny_call (codeAny_mono (F.run X.A X.stack s H ⟨us,[]⟩ (us++ds) (vs++dvs) Q E hr I.env0 (hb s us I.kIn hl) r2 h) λr s' hq=>?_)
 cases r with
 | error e=>exact hx bE σ H s e s' I hq
 | ok fl =>
  cases fl with
  | ret u=>exact I.after hq
  | next=>exact UM hq
  | brk=>exact UM hq
  | cont=>exact UM hq
theorem Yj (F:FnOk X.prog X.w X.K X.mg X.base CX k f fd ps sp)(hr:Room k X.A)(hg:Gl X x)(hm:X.mg x=some (.ref f))(hk:Vl X.K (.ref f)=true)(hb:Binds X.K fd ps ds)(hd:Vals dvs ds)(hx:qci CX X E)
  (ha:PA X (e::es) t) (hdb:'+'=false:=by decide) (he:bG (e::es) X.env=(false,eval e X.env)::bG es X.env:=by rfl) (hpl:(bT pos (bG es X.env)).any (·.1)=false:=by rfl) :
  PE X (.Call (.Name x p) (e::es) [] pos) (tCall sp dvs E t):=by
 intro bE s σ H Q I h
 refine U4 (qcN I hg hm ?_ hdb)
 refine Ff (h₀:=X.base) I.ok.mod.kin hk (thn (ha pos bE s σ H _ I h) λus s1 ⟨vs,H1,I1,r,q⟩=>⟨I1.kIn,?_⟩) he hpl
 exact qi2 F hr hb hd hx I1 r q
end
structure FnScope (N P:aB)(sc:V9):Prop where
 kind:sc.kind=.function
 co:sc.isCoroutine=false
 gen:sc.isGenerator=false
 nd:N.Nodup
 pre:N.take P.length=P
 par:∀ x∈P,sc.names.lookup x=some .local\/sc.names.lookup x=some .cell
 nofree:∀ y∈sc.names,y.2≠.free
theorem qbQ {kindOf:Str->Option En}{x:Str}:∀ {binds:ba} {m:ao},(∀ v,(x,v)∉binds)->bindL kindOf binds m x=m x
 | [],_,_=>rfl
 | (n,v)::r,m,h=>by
  unfold bindL
  rw [qbQ λw hw=>h w (Vw _ hw)]
  split
  ·have:x≠n:=by rintro rfl;exact h v VI
   simp [this]
  ·rfl
theorem qbO {kindOf:Str->Option En}{x:Str}:∀ {binds:ba} {m:ao},(∀ v,(x,v)∉binds)->bindC kindOf binds m x=m x
 | [],_,_=>rfl
 | (n,v)::r,m,h=>by
  unfold bindC
  rw [qbO λw hw=>h w (Vw _ hw)]
  split
  ·rfl
  ·have:x≠n:=by rintro rfl;exact h v VI
   simp [this]
theorem qbP {kindOf:Str->Option En}{x:Str}{v:Kc}:∀ {P:aB} {vs:az} {i:Nat} {m:ao},P.Nodup->P[i]?=some x->vs[i]?=some v->kindOf x=some .local->
  bindL kindOf (P.zip vs) m x=some v
 | [],_,_,_,_,h,_,_=>by simp at h
 | _::_,[],_,_,_,_,h,_=>by simp at h
 | p::P,w::vs,0,m,nd,h1,h2,hk=>by
  simp at h1 h2;subst h1;subst h2
  show bindL kindOf ((p,w)::P.zip vs) m p=_
  unfold bindL
  rw [qbQ λv hv=>(Xq.mp nd).1 (EJ hv).1,bI hk]
  simp
 | p::P,w::vs,i+1,m,nd,h1,h2,hk=>by
  show bindL kindOf ((p,w)::P.zip vs) m x=_
  unfold bindL
  exact qbP (i:=i) (Xq.mp nd).2 (by simpa using h1) (by simpa using h2) hk
theorem qbN {kindOf:Str->Option En}{x:Str}{v:Kc}:∀ {P:aB} {vs:az} {i:Nat} {m:ao},P.Nodup->P[i]?=some x->vs[i]?=some v->kindOf x≠some .local->
  bindC kindOf (P.zip vs) m x=some v
 | [],_,_,_,_,h,_,_=>by simp at h
 | _::_,[],_,_,_,_,h,_=>by simp at h
 | p::P,w::vs,0,m,nd,h1,h2,hk=>by
  simp at h1 h2;subst h1;subst h2
  show bindC kindOf ((p,w)::P.zip vs) m p=_
  unfold bindC
  rw [qbO λv hv=>(Xq.mp nd).1 (EJ hv).1,bJ hk]
  simp
 | p::P,w::vs,i+1,m,nd,h1,h2,hk=>by
  show bindC kindOf ((p,w)::P.zip vs) m x=_
  unfold bindC
  exact qbN (i:=i) (Xq.mp nd).2 (by simpa using h1) (by simpa using h2) hk
def start (N:aB)(vs:List V):St:=vs.map some++Vt (N.length-vs.length) none
def cxOf (CX:CXT)(P:KJ)(w:KZ)(K:Kb)(mg:ao)(base:KS)(N:aB)(qual:Str)(scope:V9)(f:Ke)(cd:Kc)(A:K0)(outer:aU)(s:Kh)(H:Hp)(E:XK):Cx where
 prog:=P
 w:=w
 K:=K
 mg:=mg
 base:=base
 A:=A.deeper (cD qual scope s.heap.objs.size f cd)
 N:=N
 s₀:=s
 H₀:=H
 env:=cD qual scope s.heap.objs.size f cd
 outer:=outer
 stack:=cD qual scope s.heap.objs.size f cd::outer
 ex:=[]
 calm:=true
 fn:=λ_=>true
 pn:=[]
 xe:=λe s'=>bK (model P w) (A.deeper (cD qual scope s.heap.objs.size f cd)) (leaving (cD qual scope s.heap.objs.size f cd) e) (λ_ s''=>CX outer H s E e s'') (λe' s''=>CX outer H s E e' s'') s'
theorem qdh {sc:V9}{n:Nat}{x:Str}(h:sc.names.lookup x=some .cell):∃ c,(cf n sc.names []).lookup x=some c:=by
 have q:=EN sc.names n [] (.inl h)
 exact Option.isSome_iff_exists.mp q
theorem qgx {CX:CXT}{P:KJ}{w:KZ}{K:Kb}{mg:ao}{base:KS}{N ps:aB}{qual:Str}{scope:V9}{f:Ke}{cd:Kc}{A:K0}{outer:aU}{s s1:Kh}{H:Hp}{E:XK}{us:az}{vs:List V}
  (S:FnScope N ps scope) (hd:A.handled=none) (e0:Env0 P w K mg base A outer s H) (hl:vs.length=ps.length) (r:Vals vs us)
  (x:InCallC s s.heap.objs.size (bindL (cD qual scope s.heap.objs.size f cd).kindOf (ps.zip us) λ_=>none) (cf (s.heap.objs.size+1) scope.names []) (bindC (cD qual scope s.heap.objs.size f cd).kindOf (ps.zip us) λ_=>none) s1) :
  Inv (cxOf CX P w K mg base N qual scope f cd A outer s H E) [] (start N vs) H s1:=by
 have hpl:ps.length<=N.length:=by have:=congrArg XO S.pre;rw [UU] at this;omega
 obtain ⟨h1,tk,rfl,hk⟩:=x.done
 have noA:∀ b:Ke,b∉(cxOf CX P w K mg base N qual scope f cd A outer s H E).ex:=λb z=>absurd (show b∈([]:List Ke) from z) (by simp)
 refine ⟨⟨e0.mod,S.kind,rfl,rfl,Kp _,λy z c h1 h2=>?_,λy hy=>?_,λy c _ h=>?_,λ_=>hd,Around.frames_deeper e0.frames,.inr ⟨rfl,rfl⟩,λb z=>absurd z (noA b),e0.bs,e0.bsz,λb _ _=>noA b,λb z=>absurd z (noA b),e0.funs,e0.frf⟩,
  rfl,e0.bare,Un.kept hk,⟨_,x.toInCall.ns,λi y v h1 h2 h3=>?_⟩,λy c h=>⟨_,x.cell y c h⟩,e0.hok.fresh (Kp _),λy c h=>?_,λp hp=>absurd (show p∈([]:List (Ke×Obj)) from hp) (by simp),e0.hok.kept hk,?_⟩
 ·exact name_of_addr x.apart (Ui h1) (Ui h2)
 ·have hy:scope.names.lookup y=some .cell\/scope.names.lookup y=some .free:=hy
  rcases hy with hy|hy
  ·exact qdh hy
  ·exact absurd rfl (S.nofree _ (Ui hy))
 ·exact VA (x.above y c (Ui h))
 ·have hi:i<vs.length:=by
   unfold start at h2
   by_cases hi:i<vs.length
   ·exact hi
   ·rw [Vi (by simpa using hi)] at h2
    rw [Uu] at h2
    split at h2<;>cases h2
  have ha:vs[i]?=some v:=by
   unfold start at h2
   rw [KL (by simpa using hi),Ky] at h2
   cases e:vs[i]? with
   | none=>rw [e] at h2;cases h2
   | some a=>rw [e] at h2;cases h2;rfl
  obtain ⟨u,hu,rv⟩:=r.get ha
  have hp:ps[i]?=some y:=by
   rw [← S.pre,XZ (by omega)];exact h1
  have ndP:ps.Nodup:=by rw [← S.pre];exact S.nd.sublist (List.take_sublist _ _)
  refine ⟨u,rv,?_⟩
  rcases S.par y (Va hp) with k|k
  ·exact .inl ⟨k,qbP ndP hp hu k⟩
  ·obtain ⟨c,e⟩:=qdh (n:=s.heap.objs.size+1) k
   refine .inr ⟨.inl k,c,e,?_⟩
   have q:=x.cell y c e
   rw [qbN ndP hp hu (by show scope.names.lookup y≠_;rw [k];decide)] at q
   exact q
 ·exact e0.hok.fresh (VA (x.above y c (Ui h)))
 ·unfold start
  show _=N.length
  rw [Kj,Kf,VD]
  omega
theorem qlr {CX:CXT}{P:KJ}{w:KZ}{K:Kb}{mg:ao}{base:KS}{k:Nat}{f:Ke}{name qual:Str}{params:Arguments}{body:bu}{scope:V9}{dV kV doc pm cdv ct oc:Kc}{an od:aI}
  {osl:au} {N ps:aB} {sp:Sp} (lk:K.lookup f=some ⟨oc,od,.func (Ud name qual params body scope dV kV doc pm an cdv ct),osl⟩) (hcd:UH K cdv qual=true) (S:FnScope N ps scope)
  (len:∀ vs H Q E,sp vs H Q E->vs.length=ps.length)
  (hbody:∀ (A:K0) (outer:aU) (s:Kh) (H:Hp) (vs:List V) (Q:VK) (E:XK),Room k (A.deeper (cD qual scope s.heap.objs.size f cdv))->sp vs H Q E->
   ∃ t,PSs (cxOf CX P w K mg base N qual scope f cdv A outer s H E) body t/\t { nx:=λ_ H'=>Q .non H',rt:=Q } (start N vs) H) :
  FnOk P w K mg base CX (k+1) f (Ud name qual params body scope dV kV doc pm an cdv ct) ps sp:=by
 refine ⟨len,λA outer s H args us vs Q E hr e0 hb r hsp=>?_⟩
 have hl:=len _ _ _ _ hsp
 have KX:K.In s.heap:=e0.mod.kin.keeps λb o e=>(e0.bs b o e).1
 have lim:s.heap.NoLimit:=e0.mod.nolimit.keeps λb o e=>(e0.bs b o e).1
 have hkind:∀ y∈ps.zip us,scope.names.lookup y.1=some .local\/(scope.names.lookup y.1=some .cell/\((cf (s.heap.objs.size+1) scope.names []).lookup y.1).isSome=true):=λ⟨n,v⟩ hy=>by
  rcases S.par n (EJ hy).1 with q|q
  ·exact .inl q
  ·exact .inr ⟨q,EN _ _ _ (.inl q)⟩
 refine codeAny_call_function hr.depth (KX _ _ lk) rfl S.co S.gen rfl (PySem.W.codeRec_of KX hcd) (hb _ _ _ _ ?_)
 refine wpAny_newFunctionEnv_cells S.kind hkind λenv he s1 x=>?_
 subst he
 refine ⟨lim.keeps x.toInCall.keep,codeAny_func ?_⟩
 obtain ⟨t,ht,hq⟩:=hbody A outer s H vs Q E (hr.deeper _) hsp
 have I:Inv (cxOf CX P w K mg base N qual scope f cdv A outer s H E) [] (start N vs) H s1:=qgx S hr.hd e0 hl r x
 refine Uj (ht [] s1 (start N vs) H _ I hq) (λfl s' hs=>?_) λe s' hs=>hs
 have fin:∀ {σ':St} {H':Hp} {v:V} {u:Kc},Inv (cxOf CX P w K mg base N qual scope f cdv A outer s H E) [] σ' H' s'->RelV v u->Q v H'->CE outer P w H s Q u s' :=
  λ{σ' H' v u} J rv q=>⟨v,H',J.os,J.bare,J.base,J.hok,rv,q⟩
 cases fl with
 | ret u =>
  obtain ⟨v,σ',H',J,rv,q⟩:=hs
  exact fin J rv q
 | next =>
  obtain ⟨σ',H',J,q⟩:=hs
  exact fin (v:=V.non) (u:=VE) J rfl q
 | brk =>
  obtain ⟨_,_,_,q⟩:=hs
  exact UM q
 | cont =>
  obtain ⟨_,_,_,q⟩:=hs
  exact UM q
section
variable {X:Cx}{x:Str}{p pos:Pos}{e:KB}{es:aJ}{t:TA}{id T:String}{r:bB}
def tCB (r:bB)(t:TA):TE:=λσ H Q=>t σ H λvs H1=>r vs H1 Q
theorem qbg (hc:jD X (.builtin id) r)(hg:Gl X x)(hm:X.mg x=none)(hv:bS x=some (.builtin id))(ha:PA X (e::es) t)(hn:x ≠ "__name__" := by decide)(hdb:'+'=false:=by decide)
  (he:bG (e::es) X.env=(false,eval e X.env)::bG es X.env:=by rfl) (hpl:(bT pos (bG es X.env)).any (·.1)=false:=by rfl):PE X (.Call (.Name x p) (e::es) [] pos) (tCB r t):=by
 intro bE s σ H Q I h
 refine U4 (YC I hg hm hv ?_ hn hdb)
 exact PyProof.Rows.callWith_builtin1 (thn (ha pos bE s σ H _ I h) λus s1 ⟨vs,H1,I1,r1,q1⟩=>hc bE s1 σ H1 vs us Q I1 r1 q1) he hpl
theorem qg4 (hc:jD X (.type T) r)(hg:Gl X x)(hm:X.mg x=none)(hv:bS x=some (.type T))(ha:PA X (e::es) t)(hn:x ≠ "__name__" := by decide)(hdb:'+'=false:=by decide)
  (he:bG (e::es) X.env=(false,eval e X.env)::bG es X.env:=by rfl) (hpl:(bT pos (bG es X.env)).any (·.1)=false:=by rfl):PE X (.Call (.Name x p) (e::es) [] pos) (tCB r t):=by
 intro bE s σ H Q I h
 refine U4 (YC I hg hm hv ?_ hn hdb)
 exact Uy (thn (ha pos bE s σ H _ I h) λus s1 ⟨vs,H1,I1,r1,q1⟩=>hc bE s1 σ H1 vs us Q I1 r1 q1) he hpl
end
end L2
namespace HT
open PySem PyProof.Rows
def lexLt:List Int->List Int->Bool
 | [],[]=>false
 | [],_::_=>true
 | _::_,[]=>false
 | x::xs,y::ys=>if x=y then lexLt xs ys else decide (x<y)
theorem jO (x y:Int)(xs ys:List Int):lexLt (x::xs) (y::ys)=if x=y then lexLt xs ys else decide (x<y):=rfl
theorem qeg (A:K0)(s:Kh)(a:Int)(t:Tok)(c:Int)(u:Tok)(prog:KJ)(w:KZ)(E:Kc->Kh->Prop)(Q:Kc->Kh->Prop)(h:Q (.bool (decide (a<c))) s) :
  bK ',' A (cq .Lt (.int a t) (.int c u)) Q E s :=
 (PyProof.Rows.lt_int h:bK ',' A (bQ .Lt (.int a t) (.int c u)) Q E s)
section
open PySem.SeqAt
open PySem.AutoSeq1 (wpAny_loadPart')
open PySem.MeetsSeq PySem.MeetsSeq2 PySem.MeetsSeq3
end
section
variable {prog:KJ}{w:KZ}{A:K0}{E:Kc->Kh->Prop}{s:Kh}
theorem qjz {t b:Ke}{vs ws:List Kc}{Q:Kc->Kh->Prop}(ht:cT s.heap t vs.toArray)(hb:cT s.heap b ws.toArray)(hv:vs≠[])
  (h1:ws=[]->Q (.ref t) s) (h2:ws≠[]->Q (.ref s.heap.objs.size) { s with heap:=s.heap.push { cls:=.type "tuple", data:=.seq (vs++ws).toArray } })
  (hsz:vs.length+ws.length<=bM):bK ',' A (bY .Add (.ref t) (.ref b)) Q E s:=by
 obtain ⟨⟨cls,dd,data,sl⟩,ho,hc,n,hd⟩:=id ht
 obtain ⟨⟨cls2,dd2,data2,sl2⟩,ho2,hc2,n2,hd2⟩:=id hb
 simp only at hc hd hc2 hd2
 subst hc hd hc2 hd2
 have e:vs.toArray++ws.toArray=(vs++ws).toArray:=by simp
 by_cases hw:ws=[]
 ·exact Eo ⟨_,ho,rfl⟩ ⟨_,ho2,rfl⟩ Ep seq_tuple_add Nd Nb (X2 _ _)
   (tuple_addW1 t b vs.toArray ws.toArray n n2 dd dd2 sl sl2 (by simpa using hv) (by simp [hw])) ⟨ho,ho2,h1 hw⟩
 ·refine Eo ⟨_,ho,rfl⟩ ⟨_,ho2,rfl⟩ Ep seq_tuple_add Nd Nb (X2 _ _)
   (tuple_addW2 t b vs.toArray ws.toArray n n2 dd dd2 sl sl2 (by simpa using hv) (by simpa using hw) (by rw [KA,KA];exact hsz)) ⟨ho,ho2,?_⟩
  rw [e]
  exact h2 hw
noncomputable def sIx (n d:Nat):Option Int->Nat
 | none=>d
 | some v=>if v<0 then (v+(n:Int)).toNat else min v.toNat n
theorem qk2 (n d k:Nat):sIx n d (some (k:Int))=min k n:=by
 show (if (k:Int)<0 then ((k:Int)+(n:Int)).toNat else min (k:Int).toNat n)=min k n
 rw [bJ (by omega),K4]
theorem qm9 (n d:Nat)(hd:d<=n)(o:Option Int):sIx n d o<=n:=by
 cases o with
 | none=>exact hd
 | some v =>
  show (if v<0 then (v+(n:Int)).toNat else min v.toNat n)<=n
  by_cases hv:v<0
  ·rw [bI hv];omega
  ·rw [bJ hv];exact Nat.min_le_right _ _
theorem qfh (v:Int)(n d:Nat):(if v<0 then max (v+(n:Int)) 0 else min v (n:Int))=((sIx n d (some v):Nat):Int):=by
 show (if v<0 then max (v+(n:Int)) 0 else min v (n:Int))=(((if v<0 then (v+(n:Int)).toNat else min v.toNat n):Nat):Int)
 by_cases hv:v<0
 ·simp only [bI hv];omega
 ·simp only [bJ hv];omega
theorem qeo (lo hi:Option Int)(n:Nat):XT lo hi 1 (n:Int)=(((sIx n 0 lo:Nat):Int),((sIx n n hi:Nat):Int)):=by
 have h1:¬ ((1:Int)<0):=by omega
 unfold XT
 simp only [h1,cm]
 refine Prod.ext ?_ ?_
 ·cases lo with
  | none=>rfl
  | some v=>exact qfh v n 0
 ·cases hi with
  | none=>rfl
  | some v=>exact qfh v n n
theorem qeU (i j:Nat):Xf (i:Int) (j:Int) 1=j-i:=by
 unfold Xf
 have h1:(1:Int) > 0:=by omega
 simp only [h1,cw,Int.ediv_one]
 split<;>omega
theorem qbp {v:Kc}{o:Option Int}{Q:Option Int->Kh->Prop}(p:IsPart v o)(h:Q o s):bK ',' A (Builtin.Slice.slicePartIndex v) Q E s:=by
 cases p with
 | none=>exact slicePart_none h
 | int i t=>exact slicePart_int h
theorem WP {sl:Ke}{vl vu:Kc}{lo hi:Option Int}{n:Nat}{Q:Int×Int×Nat->Kh->Prop}(hs:s.heap.IsSliceOf sl vl vu .none)(pl:IsPart vl lo)(pu:IsPart vu hi)
  (h:Q (((sIx n 0 lo:Nat):Int),1,sIx n n hi-sIx n 0 lo) s):bK ',' A (N6 (.ref sl) (pure (n:Int))) Q E s:=by
 obtain ⟨os,hos,hcs,hds⟩:=id hs
 unfold N6 Builtin.Slice.sliceFields
 refine Kd (Kd (UK hos hds (x:=vl) rfl (Kd (UK hos hds (x:=vu) rfl (Kd (UK hos hds (x:=.none) rfl (Kn ?_)))))))
 refine Kd (slicePart_none ?_)
 show bK _ _ (if ((1:Int)==0)=true then _ else _) _ _ s
 rw [bJ (by decide)]
 refine Kd (qbp pl (Kd (qbp pu (Kd (Kn ?_)))))
 show bK _ _ (match XT lo hi 1 (n:Int) with | (lo,hi)=>pure (lo,(1:Int),Xf lo hi 1)) _ _ s
 rw [qeo lo hi n]
 show bK _ _ (pure (((sIx n 0 lo:Nat):Int),(1:Int),Xf ((sIx n 0 lo:Nat):Int) ((sIx n n hi:Nat):Int) 1)) _ _ s
 rw [qeU]
 exact Kn h
theorem qiN (xs:Array Kc)(i k:Nat):((KN k).filterMap λ(m:Nat)=>xs[((i:Int)+(m:Int)*1).toNat]?).toArray=((xs.toList.drop i).take k).toArray:=by
 have e:(λ(m:Nat)=>xs[((i:Int)+(m:Int)*1).toNat]?)=λm=>xs[i+m]?:=by
  funext m
  have:((i:Int)+(m:Int)*1).toNat=i+m:=by omega
  rw [this]
 rw [e]
 have:=pick_run xs i k
 rw [List.filterMap_map] at this
 have e2:((λx=>xs[x]?) ∘ λx=>i+x)=λm=>xs[i+m]?:=rfl
 rw [e2] at this
 rw [this]
theorem wU {t sl:Ke}{items:Array Kc}{vl vu:Kc}{lo hi:Option Int}{Q:Kc->Kh->Prop}(ht:cT s.heap t items)(hs:s.heap.IsSliceOf sl vl vu .none)(pl:IsPart vl lo)(pu:IsPart vu hi)
  (hw:¬ (sIx items.size 0 lo=0/\sIx items.size items.size hi=items.size))
  (h:Q (.ref s.heap.objs.size) { s with heap:=s.heap.push { cls:=.type "tuple", data:=.seq ((items.toList.drop (sIx items.size 0 lo)).take (sIx items.size items.size hi-sIx items.size 0 lo)).toArray } })
  (hsz:items.size<=bM):bK ',' A (getItem (.ref t) (.ref sl)) Q E s:=by
 have htake:sizeOk (.seq ((items.toList.drop (sIx items.size 0 lo)).take (sIx items.size items.size hi-sIx items.size 0 lo)).toArray):=by
  show ((items.toList.drop (sIx items.size 0 lo)).take (sIx items.size items.size hi-sIx items.size 0 lo)).toArray.size<=bM
  rw [KA,UU,Er,KU]
  omega
 have hj:sIx items.size items.size hi<=items.size:=qm9 _ _ (Kp _) hi
 obtain ⟨os,hos,hcs,hds⟩:=id hs
 have hTs:s.TypeIs (.ref sl) "slice" := ⟨os,hos,hcs⟩
 unfold getItem
 try with_reducible refine VZ ?_
 first|refine Kd (Kn ?_)|skip
 refine Kd (wpAny_sequenceKey ht.typeIs (by decide) ?_)
 refine Kd (US (name:=Kg "__getitem__") ht.typeIs UY
  (V4 UY ht.typeIs entry_tuple_getitem ?_ (args_tuple_getitem _ _)))
 show bK _ _ (N7 (.ref t) >>= _) _ _ s
 refine Kd (tupleItemsOf_ ht ?_)
 refine Kd (wpAny_typeOf hTs ?_)
 rw [bI (by decide)]
 refine Kd (WP hs pl pu ?_)
 have hno:¬ ((((sIx items.size 0 lo:Nat):Int)==0&&(1:Int)==1&&(sIx items.size items.size hi-sIx items.size 0 lo)==items.size)=true):=by
  intro q
  rw [KD,KD] at q
  have q1:((sIx items.size 0 lo:Nat):Int)=0:=eq_of_beq q.1.1
  have q2:sIx items.size items.size hi-sIx items.size 0 lo=items.size:=eq_of_beq q.2
  exact hw ⟨by omega,by omega⟩
 show bK _ _ (if (((sIx items.size 0 lo:Nat):Int)==0&&(1:Int)==1&&(sIx items.size items.size hi-sIx items.size 0 lo)==items.size)=true then _ else _) _ _ s
 rw [bJ hno,qiN]
 first
  | exact Kd (m:=Xk _) (Vx (Kn ⟨_,rfl,Kn h⟩) htake)
  | exact Kd (m:=Xk _) (Vx (Kd (Kn (Kn ⟨_,rfl,Kn h⟩))) htake)
  | exact Kd (Kd (m:=Xk _) (Vx (Kn (Kn ⟨_,rfl,Kn h⟩)) htake))
  | exact Kd (Kd (m:=Xk _) (Vx (Kn ⟨_,rfl,Kn h⟩) htake))
end
end HT
namespace L2
open PySem PySem.Spec PyProof.Rows
abbrev TO:=St->Hp->(Option Int->Hp->Prop)->Prop
def PO (X:Cx)(e:Option KB)(t:TO):Prop :=
 ∀ (bE:ag) (s:Kh) (σ:St) (H:Hp) (Q:Option Int->Hp->Prop),Inv X bE σ H s->t σ H Q->
  bK '*' X.A (evalPart e X.env) (λu s'=>∃ o H',Inv X bE σ H' s'/\IsPart u o/\Q o H') X.xe s
def qle:TO:=λ_ H Q=>Q none H
def tPart (t:TE):TO:=λσ H Q=>t σ H λx H1=>∃ i,x=.int i/\Q (some i) H1
section
variable {X:Cx}{e:KB}{te:TE}{lo hi:Option KB}{tl th:TO}{pos p2:Pos}
theorem qkN:PO X none qle:=by
 intro bE s σ H Q I h
 rw [evalPart_none]
 exact Kn ⟨none,H,I,.none,h⟩
theorem qkO (h:PE X e te):PO X (some e) (tPart te):=by
 intro bE s σ H Q I hw
 rw [evalPart_some]
 refine thn (h bE s σ H _ I hw) λu s1 ⟨x,H1,I1,r1,q1⟩=>?_
 obtain ⟨i,rfl,q⟩:=q1
 obtain ⟨t,rfl⟩:=r1
 exact ⟨some i,H1,I1,.int i t,q⟩
def SlR (X:Cx)(r:aS):Prop :=
 ∀ (bE:ag) (s:Kh) (σ:St) (H:Hp) (x:V) (v vl vu:Kc) (lo hi:aV) (sl:Ke) (Q:VK),Inv X bE σ H s->RelV x v->s.heap.IsSliceOf sl vl vu .none->IsPart vl lo->IsPart vu hi->r x lo hi H Q->
  ∃ T id,typeLookup (.type T) "__getitem__" = pure (some (.builtin id))/\s.TypeIs v T/\bK '*' X.A (getItem v (.ref sl)) (EP X bE σ Q) X.xe s
theorem SlR.or {r r':aS}(h:SlR X r)(h':SlR X r'):SlR X (λx lo hi H Q=>r x lo hi H Q\/r' x lo hi H Q):=by
 intro bE s σ H x v vl vu lo hi sl Q I rx hs pl pu q
 rcases q with q|q
 ·exact h bE s σ H x v vl vu lo hi sl Q I rx hs pl pu q
 ·exact h' bE s σ H x v vl vu lo hi sl Q I rx hs pl pu q
def tSl (r:aS)(te:TE)(tl th:TO):TE:=λσ H Q=>te σ H λx H1=>tl σ H1 λl H2=>th σ H2 λu H3=>r x l u H3 Q
theorem qiH {r:aS}(hr:SlR X r)(he:PE X e te)(hl:PO X lo tl)(hu:PO X hi th):PE X (.Subscript e (.Slice lo hi none p2) pos) (tSl r te tl th):=by
 intro bE s σ H Q I h
 refine Subscript_ (thn (he bE s σ H _ I h) λv s1 ⟨x,H1,I1,r1,q1⟩=>?_)
 refine wpAny_Slice (thn (hl bE s1 σ H1 _ I1 q1) λvl s2 ⟨l,H2,I2,pl,q2⟩=>thn (hu bE s2 σ H2 _ I2 q2) λvu s3 ⟨u,H3,I3,pu,q3⟩=>?_)
 rw [evalPart_none]
 refine Kn ?_
 have I4:Inv X bE σ H3 { s3 with heap:=s3.heap.push { cls:=.type "slice", data:=.fields #[vl,vu,.none] } }:=I3.kept (t':=s3.toks) λb ob q=>Ki _ q
 obtain ⟨T,id,hT,ht,hg⟩:=hr bE { s3 with heap:=s3.heap.push { cls:=.type "slice", data:=.fields #[vl,vu,.none] } } σ H3 x v vl vu l u s3.heap.objs.size Q I4 r1 (Heap.IsSliceOf.new ..) pl pu q3
 show bK '*' X.A (subscriptTail e (.Slice lo hi none p2) v (.ref s3.heap.objs.size)) (EP X bE σ Q) X.xe { s3 with heap:=s3.heap.push { cls:=.type "slice", data:=.fields #[vl,vu,.none] } }
 exact tail_any (ops:=[.ref s3.heap.objs.size,v]) ht hT hg (by with_unfolding_all rfl)
def cutV (xs:List V)(lo hi:aV):List V:=(xs.drop (HT.sIx xs.length 0 lo)).take (HT.sIx xs.length xs.length hi-HT.sIx xs.length 0 lo)
theorem W5 (xs:List V)(lo hi:aV):(cutV xs lo hi).length<=xs.length:=by
 unfold cutV
 rw [UU,Er]
 omega
def rSlT (K:Kb):V->Option Int->Option Int->Hp->VK->Prop:=λx lo hi H Q=>∃ a xs,x=.ref a/\SqT K H a xs/\
 ¬ (HT.sIx xs.length 0 lo=0/\HT.sIx xs.length xs.length hi=xs.length)/\∀ p,H p=none->Q (.ref p) (upd H p (.tup (cutV xs lo hi)))
theorem qnh:SlR X (rSlT X.K):=by
 intro bE s σ H x v vl vu lo hi sl Q I rx hs pl pu h
 obtain ⟨a,xs,rfl,hx,hw,q⟩:=h
 cases rx
 obtain ⟨its,r,ht,hz⟩:=I.tuple hx
 have hlen:its.toArray.size=xs.length:=by rw [KA];exact r.length.symm
 refine ⟨"tuple", _,UY.lookup,ht.typeIs,?_⟩
 refine HT.wU ht hs pl pu (by rw [hlen];exact hw) ?_ (by rw [hlen];exact hz)
 rw [hlen]
 refine ⟨.ref s.heap.objs.size,_,I.laid (t':=s.toks) (o:=.tup (cutV xs lo hi)) (λb ob q=>Ki _ q) (Kp _) ?_,rfl,q _ (I.hok.fresh (Kp _))⟩
 exact ⟨Ve (W5 xs lo hi) hz,_,(r.drop (HT.sIx xs.length 0 lo)).take (HT.sIx xs.length xs.length hi-HT.sIx xs.length 0 lo),cT.new _ _⟩
def qlA (K:Kb):R2:=λx y H Q=>∃ a b xs ys,x=.ref a/\y=.ref b/\SqT K H a xs/\SqT K H b ys/\xs≠[]/\xs.length+ys.length<=bM/\
 (ys=[]->Q (.ref a) H)/\(ys≠[]->∀ p,H p=none->Q (.ref p) (upd H p (.tup (xs++ys))))
theorem Vals.nil_iff {xs:List V}{us:az}(r:Vals xs us):us=[]↔xs=[]:=by
 cases r with
 | nil=>simp
 | cons _ _=>simp
theorem qkw:OpR X (bY .Add) (qlA X.K):=by
 intro bE s σ H x y v u Q I rx ry h
 obtain ⟨a,b,xs,ys,rfl,rfl,ha,hb,hx,hz,q1,q2⟩:=h
 cases rx
 cases ry
 obtain ⟨its,r1,p1,_⟩:=I.tuple ha
 obtain ⟨its2,r2,p2,_⟩:=I.tuple hb
 refine HT.qjz p1 p2 (λz=>hx (r1.nil_iff.mp z)) (λz=>⟨.ref a,H,I,rfl,q1 (r2.nil_iff.mp z)⟩) (λz=>?_) (by rw [← r1.length,← r2.length];exact hz)
 refine ⟨.ref s.heap.objs.size,_,I.laid (t':=s.toks) (o:=.tup (xs++ys)) (λb ob q=>Ki _ q) (Kp _) ?_,rfl,q2 (λw=>z (r2.nil_iff.mpr w)) _ (I.hok.fresh (Kp _))⟩
 exact ⟨by rw [Kj];exact hz,_,r1.append r2,cT.new _ _⟩
end
noncomputable def ixN (n:Nat)(i:Int):Option Nat:=if 0<=i then (if i<n then some i.toNat else none) else if -(n:Int)<=i then some (i+n).toNat else none
def atI {α:Type}(xs:List α)(i:Int):Option α:=(ixN xs.length i).bind λj=>xs[j]?
theorem qj6 {n:Nat}{i:Int}{j:Nat}(h:ixN n i=some j):cM i n=some j/\j<n/\-(n:Int)<=i/\i<n:=by
 unfold ixN at h
 by_cases h0:0<=i
 ·rw [bI h0] at h
  by_cases h1:i<n
  ·rw [bI h1] at h
   have e:i.toNat=j:=V1 h
   exact ⟨by rw [seqIndex_of h0 h1,e],by omega,by omega,h1⟩
  ·rw [bJ h1] at h;cases h
 ·rw [bJ h0] at h
  by_cases h1:-(n:Int)<=i
  ·rw [bI h1] at h
   have e:(i+n).toNat=j:=V1 h
   exact ⟨by rw [seqIndex_neg (by omega) h1,e],by omega,h1,by omega⟩
  ·rw [bJ h1] at h;cases h
theorem qfg {α:Type}{xs:List α}{i:Int}{v:α}(h:atI xs i=some v):∃ j,cM i xs.length=some j/\xs[j]?=some v/\j<xs.length/\-(xs.length:Int)<=i/\i<xs.length:=by
 unfold atI at h
 cases e:ixN xs.length i with
 | none=>rw [e] at h;cases h
 | some j =>
  rw [e] at h
  obtain ⟨h1,h2,h3,h4⟩:=qj6 e
  exact ⟨j,h1,h,h2,h3,h4⟩
theorem qag {α:Type}{xs:List α}{j:Nat}{v:α}(h:xs[j]?=some v):atI xs (j:Int)=some v:=by
 have hj:j<xs.length:=(Kl.mp h).1
 have e:ixN xs.length (j:Int)=some j:=by
  unfold ixN
  rw [bI (by omega),bI (by omega)];simp
 unfold atI;rw [e];exact h
def wF (b:KB):Prop:=∀ o i,subscripted b false o i=operate [o,i] (getItem o i)
def IxR (X:Cx)(r:R2):Prop :=
 ∀ (value slice:KB) (bE:ag) (s:Kh) (σ:St) (H:Hp) (x y:V) (v u:Kc) (Q:VK),Inv X bE σ H s->RelV x v->RelV y u->r x y H Q->
  subscripted slice false v u=operate [v,u] (getItem v u)->bK '*' X.A (subscriptTail value slice v u) (EP X bE σ Q) X.xe s
def MtR (X:Cx)(id:String)(r:aX):Prop :=
 ∀ (bE:ag) (s:Kh) (σ:St) (H:Hp) (x:V) (xs:List V) (v:Kc) (us:az) (Q:VK),Inv X bE σ H s->RelV x v->Vals xs us->r x xs H Q->
  bK '*' X.A (call (.builtin id) (v::us)) (EP X bE σ Q) X.xe s
section
variable {X:Cx}{a b:KB}{ta tb:TE}{pos:Pos}
theorem IxR.or {r r':R2}(h:IxR X r)(h':IxR X r'):IxR X (λx y H Q=>r x y H Q\/r' x y H Q):=by
 intro value slice bE s σ H x y v u Q I rx ry q hs
 rcases q with q|q
 ·exact h value slice bE s σ H x y v u Q I rx ry q hs
 ·exact h' value slice bE s σ H x y v u Q I rx ry q hs
theorem qfZ {r:R2}(hr:IxR X r)(ha:PE X a ta)(hb:PE X b tb)(hs:wF b):PE X (.Subscript a b pos) (tOp r ta tb):=by
 intro bE s σ H Q I h
 exact Subscript_ (binT ha hb I h λv u s2 x y H2 I2 rx ry q=>hr a b bE s2 σ H2 x y v u Q I2 rx ry q (hs _ _))
def rIxL (K:Kb):R2:=λx y H Q=>∃ p xs i v,x=.ref p/\y=.int i/\SqL K H p xs/\atI xs i=some v/\Q v H
def rIxT (K:Kb):R2:=λx y H Q=>∃ p xs i v,x=.ref p/\y=.int i/\SqT K H p xs/\atI xs i=some v/\Q v H
theorem qal:IxR X (rIxL X.K):=by
 intro value slice bE s σ H x y v u Q I rx ry h hs
 obtain ⟨p,xs,i,z,rfl,rfl,hq,he,q⟩:=h
 cases rx
 obtain ⟨t,rfl⟩:=ry
 obtain ⟨its,r,pl,hz⟩:=I.list hq
 obtain ⟨j,h1,h2,h3,h4,h5⟩:=qfg he
 obtain ⟨w,ew,rw'⟩:=r.get h2
 have hl:=r.length
 have hn:=qcO
 have fin:EP X bE σ Q w s:=⟨z,H,I,rw',q⟩
 by_cases h0:0<=i
 ·have hj:i.toNat=j:=by
   rw [seqIndex_of h0 h5] at h1
   exact V1 h1
  exact item_listR pl.isList h0 (by omega) (by rw [hj];simpa using ew) fin hs
 ·have hj:(i+(its.toArray.size:Int)).toNat=j:=by
   rw [seqIndex_neg (by omega) h4] at h1
   rw [KA,← hl]
   exact V1 h1
  exact cW (x:=w) pl.isList.typeIs slot_list_getitem.lookup
   (wpAny_getItem_list_neg (Q:=λr s'=>r=w/\EP X bE σ Q r s') pl.isList (by omega) (by rw [KA]<;>omega) (by omega) (by rw [hj];simpa using ew) ⟨rfl,fin⟩) hs
theorem qcx:IxR X (rIxT X.K):=by
 intro value slice bE s σ H x y v u Q I rx ry h hs
 obtain ⟨p,xs,i,z,rfl,rfl,hq,he,q⟩:=h
 cases rx
 obtain ⟨t,rfl⟩:=ry
 obtain ⟨its,r,pl,hz⟩:=I.tuple hq
 obtain ⟨j,h1,h2,h3,h4,h5⟩:=qfg he
 obtain ⟨w,ew,rw'⟩:=r.get h2
 have hl:=r.length
 have hn:=qcO
 have fin:EP X bE σ Q w s:=⟨z,H,I,rw',q⟩
 exact cW (x:=w) pl.typeIs UY.lookup
  (getItem_tuple (j:=j) (Q:=λr s'=>r=w/\EP X bE σ Q r s') pl (by omega) (by omega) (by rw [KA,← hl];exact h1) (by simpa using ew) ⟨rfl,fin⟩) hs
theorem qc0 (lo hi:aV)(n:Nat):(cF lo hi none n).1=((HT.sIx n 0 lo:Nat):Int)/\(cF lo hi none n).2.1=((HT.sIx n n hi:Nat):Int)/\(cF lo hi none n).2.2=1:=by
 refine ⟨?_,?_,rfl⟩
 ·cases lo with
  | none=>simp [cF,HT.sIx]
  | some i =>
   simp only [cF,HT.sIx,Option.getD_none,show (1:Int) > 0 by decide,cw]
   by_cases h:i<0
   ·simp only [h,cw]<;>omega
   ·simp only [h,cm]<;>omega
 ·cases hi with
  | none=>simp [cF,HT.sIx]
  | some i =>
   simp only [cF,HT.sIx,Option.getD_none,show (1:Int) > 0 by decide,cw]
   by_cases h:i<0
   ·simp only [h,cw]<;>omega
   ·simp only [h,cm]<;>omega
theorem qbF (its:az)(lo hi:aV):slicePick its.toArray lo hi none=((its.drop (HT.sIx its.length 0 lo)).take (HT.sIx its.length its.length hi-HT.sIx its.length 0 lo)).toArray:=by
 obtain ⟨h1,h2,h3⟩:=qc0 lo hi its.toArray.size
 unfold slicePick
 rw [h1,h2,h3]
 simp only [sliceRange_one,pick_run,KA]<;>rfl
def rSlL (K:Kb):V->Option Int->Option Int->Hp->VK->Prop:=λx lo hi H Q=>∃ a xs,x=.ref a/\SqL K H a xs/\∀ p,H p=none->Q (.ref p) (upd H p (.lst (cutV xs lo hi)))
theorem qla:SlR X (rSlL X.K):=by
 intro bE s σ H x v vl vu lo hi sl Q I rx hs pl pu h
 obtain ⟨a,xs,rfl,hx,q⟩:=h
 cases rx
 obtain ⟨its,r,ht,hz⟩:=I.list hx
 have hlen:=r.length
 refine ⟨"list", _,slot_list_getitem.lookup,ht.isList.typeIs,?_⟩
 refine wpAny_getItem_list_slice ht.isList hs pl pu .none (by simp) ?_ (by rw [KA]<;>omega)
 rw [qbF,← hlen]
 refine ⟨.ref s.heap.objs.size,_,I.laid (t':=s.toks) (o:=.lst (cutV xs lo hi)) (λb ob q=>Ki _ q) (Kp _) ?_,rfl,q _ (I.hok.fresh (Kp _))⟩
 exact ⟨Ve (W5 xs lo hi) hz,_,0,(r.drop (HT.sIx xs.length 0 lo)).take (HT.sIx xs.length xs.length hi-HT.sIx xs.length 0 lo),Kx _ rfl⟩
theorem qcl:jD X (.builtin "len") (λxs H Q=>∃ p ys,xs=[.ref p]/\(SqL X.K H p ys\/SqT X.K H p ys)/\Q (.int ys.length) H):=by
 intro bE s σ H xs us Q I r h
 obtain ⟨p,ys,rfl,hq,q⟩:=h
 obtain ⟨u,rfl,rx⟩:=vals1 r
 cases rx
 have hn:=qcO
 rcases hq with hq|hq
 ·obtain ⟨its,r',pl,hz⟩:=I.list hq
  have hlen:=r'.length
  exact Calls.call_len_list pl.isList (by simp only [KA]<;>omega) ⟨.int ys.length,H,I.tok _,⟨s.toks+1,by rw [KA,hlen]⟩,q⟩
 ·obtain ⟨its,r',pl,hz⟩:=I.tuple hq
  have hlen:=r'.length
  exact len_tuple pl (by simp only [KA]<;>omega) ⟨.int ys.length,H,I.tok _,⟨s.toks+1,by rw [KA,hlen]⟩,q⟩
theorem jD.or {f:Kc}{r r':bB}(h:jD X f r)(h':jD X f r'):jD X f (λxs H Q=>r xs H Q\/r' xs H Q):=by
 intro bE s σ H xs us Q I rs q
 rcases q with q|q
 ·exact h bE s σ H xs us Q I rs q
 ·exact h' bE s σ H xs us Q I rs q
theorem qcm:jD X (.type "list") (λxs H Q=>∃ p ys,xs=[.ref p]/\(SqL X.K H p ys\/SqT X.K H p ys)/\∀ l,H l=none->Q (.ref l) (upd H l (.lst ys))):=by
 intro bE s σ H xs us Q I r h
 obtain ⟨p,ys,rfl,hq,q⟩:=h
 obtain ⟨u,rfl,rx⟩:=vals1 r
 cases rx
 have fin:∀ (its:az),Vals ys its->ys.length<=bM->∀ (h':KS) (c':Nat),(∀ b o',s.heap.get? b=some o'->h'.get? b=some o')->
   h'.get? s.heap.objs.size=some { cls:=.type "list", dict:=none,data:=.seq its.toArray c',slots:=#[] }->EP X bE σ Q (.ref s.heap.objs.size) { s with heap:=h' }:=λits r' hz h' c' kp e =>
  ⟨.ref s.heap.objs.size,_,I.laid (t':=s.toks) kp (Kp _) (show Qw X.prog X.w _ h' _ (.lst ys) from ⟨hz,its,c',r',e⟩),rfl,q _ (I.hok.fresh (Kp _))⟩
 rcases hq with hq|hq
 ·obtain ⟨its,r',pl,hz⟩:=I.list hq
  have hlen:=r'.length
  obtain ⟨o,ho,hc,n,hd⟩:=pl.isList
  exact call_list_seq p (.inl rfl) ho hc hd (λh' c' kp e=>fin its r' hz h' c' kp e) (by simp only [KA]<;>omega)
 ·obtain ⟨its,r',pl,hz⟩:=I.tuple hq
  have hlen:=r'.length
  obtain ⟨o,ho,hc,n,hd⟩:=pl
  exact call_list_seq p (.inr rfl) ho hc hd (λh' c' kp e=>fin its r' hz h' c' kp e) (by simp only [KA]<;>omega)
theorem qby:jD X (.type "tuple") (λxs H Q=>∃ p ys,xs=[.ref p]/\((SqL X.K H p ys/\∀ l,H l=none->Q (.ref l) (upd H l (.tup ys)))\/(SqT X.K H p ys/\Q (.ref p) H))):=by
 intro bE s σ H xs us Q I r h
 obtain ⟨p,ys,rfl,h⟩:=h
 obtain ⟨u,rfl,rx⟩:=vals1 r
 cases rx
 rcases h with ⟨hq,q⟩|⟨hq,q⟩
 ·obtain ⟨its,r',pl,hz⟩:=I.list hq
  have hlen:=r'.length
  refine call_tuple_list pl.isList (λh' kp=>?_) (by simp only [KA]<;>omega)
  have I1:Inv X bE σ H { s with heap:=h' }:=I.kept (t':=s.toks) kp
  have I2:Inv X bE σ (upd H h'.objs.size (.tup ys)) { s with heap:=h'.push { cls:=.type "tuple", data:=.seq its.toArray } } :=
   I1.laid (t':=s.toks) (λb o e=>Ki _ e) (Kp _) (show Qw X.prog X.w _ _ _ (.tup ys) from ⟨hz,its,r',cT.new _ _⟩)
  exact ⟨.ref h'.objs.size,_,I2,rfl,q _ (I1.hok.fresh (Kp _))⟩
 ·obtain ⟨its,r',pl,hz⟩:=I.tuple hq
  exact call_tuple_same pl ⟨.ref p,H,I,rfl,q⟩
def tyV (K:Kb)(T:String)(x:V)(H:Hp):Prop:=match x with
 | .str _=>T = "str"
 | .int _=>T = "int"
 | .ref p=>(T = "list"/\∃ xs,SqL K H p xs)\/(T = "tuple"/\∃ o,K.lookup p=some o/\o.cls=.type "tuple"/\o.dict=none)\/
   (T = "dict"/\((∃ kvs,H p=some (.dK kvs))\/∃ kvs,H p=some (.dT kvs)))\/(T = "set"/\∃ S n,H p=some (.set S n))
 | _=>False
theorem qjk {bE:ag}{σ:St}{H:Hp}{s:Kh}{T:String}{x:V}{v:Kc}(I:'&')(r:RelV x v)(ty:tyV X.K T x H) :
  s.TypeIs v T/\∀ a,v=.ref a->∃ ob,s.heap.get? a=some ob/\ob.dict=none:=by
 cases x with
 | str z =>
  obtain ⟨t,rfl⟩:=r
  cases (show T = "str" from ty)
  exact ⟨typeIs_str s z t,λ_ e=>nomatch e⟩
 | int i =>
  obtain ⟨t,rfl⟩:=r
  cases (show T = "int" from ty)
  exact ⟨typeIs_int s i t,λ_ e=>nomatch e⟩
 | ref p =>
  cases r
  rcases ty with ⟨rfl,xs,hq⟩|⟨rfl,o,hk,hc,hd⟩|⟨rfl,hk⟩|⟨rfl,S,n,hk⟩
  ·obtain ⟨its,_,pl,_⟩:=I.list hq
   refine ⟨pl.isList.typeIs,λa e=>?_⟩
   cases e
   obtain ⟨o,n,e,c,hd,_⟩:=pl
   exact ⟨o,e,hd⟩
  ·refine ⟨⟨o,I.kIn p o hk,hc⟩,λa e=>?_⟩
   cases e
   exact ⟨o,I.kIn _ o hk,hd⟩
  ·have z:∃ o,s.heap.get? p=some o/\o.ExactDict:=by
    rcases hk with ⟨kvs,hk⟩|⟨kvs,hk⟩
    ·obtain ⟨_,_,_,_,o,_,_,e,ex,_⟩:=I.hok p _ hk
     exact ⟨o,e,ex⟩
    ·obtain ⟨_,_,_,_,o,_,_,e,ex,_⟩:=I.hok p _ hk
     exact ⟨o,e,ex⟩
   obtain ⟨o,e,ex⟩:=z
   refine ⟨⟨o,e,ex.1⟩,λa e2=>?_⟩
   cases e2
   exact ⟨o,e,ex.2.1⟩
  ·obtain ⟨o,_,_,_,e,ex,_⟩:=I.hok p _ hk
   refine ⟨⟨o,e,ex.1⟩,λa e2=>?_⟩
   cases e2
   exact ⟨o,e,ex.2.1⟩
 | _=>exact UM ty
def tBM0 (K:Kb)(T:String)(r:aX)(to:TE):TE:=λσ H Q=>to σ H λx H1=>tyV K T x H1/\r x [] H1 Q
def tBM (K:Kb)(T:String)(r:aX)(to:TE)(t:TA):TE:=λσ H Q=>to σ H λx H1=>tyV K T x H1/\t σ H1 λxs H2=>r x xs H2 Q
variable {o e:KB}{es:aJ}{to:TE}{t:TA}{name:Str}{apos cpos:Pos}{T id:String}{r:aX}
theorem qeR (pa:PlainAttrs T)(slot:Slot T name id)(hty:typeOf (.builtin id)=pure (.type "method_descriptor"))(hm:MtR X id r)(ho:PE X o to)
  (hbase:bU o name X.env (eval o X.env)=eval o X.env:=by rfl) (hline:(apos.endLine==cpos.line)=true:=by rfl):PE X (.Call (.Attribute o name apos) [] [] cpos) (tBM0 X.K T r to):=by
 intro bE s σ H Q I h
 refine wpAny_Call_method0_late hbase hline (thn (ho bE s σ H _ I h) λv s1 ⟨x,H1,I1,r1,ty,q1⟩=>?_)
 obtain ⟨h1,h2⟩:=qjk I1 r1 ty
 exact ⟨T,id,pa,slot,hty,h1,h2,Calls.callWith_builtin rfl (Fc (hm bE s1 σ H1 x [] v [] Q I1 r1 .nil q1))⟩
theorem qb7 (pa:PlainAttrs T)(slot:Slot T name id)(hty:typeOf (.builtin id)=pure (.type "method_descriptor"))(hm:MtR X id r)(ho:PE X o to)(ha:PA X (e::es) t)
  (hbase:bU o name X.env (eval o X.env)=eval o X.env:=by rfl)
  (hfew:((bT cpos (bG (e::es) X.env)).all (λx=>!x.1)&&(cH cpos (cu [] X.env)).all (λx=>x.1.isSome)
   && decide ((e::es).length+([]:List UI).length+(if ([]:List UI).isEmpty then 0 else 1)<30))=true:=by rfl)
  (hline:(apos.endLine==cpos.line)=true:=by rfl) (hs:bG (e::es) X.env=(false,eval e X.env)::bG es X.env:=by rfl) (hplain:(bT cpos (bG es X.env)).any (·.1)=false:=by rfl) :
  PE X (.Call (.Attribute o name apos) (e::es) [] cpos) (tBM X.K T r to t):=by
 intro bE s σ H Q I h
 refine wpAny_Call_method_late hbase hfew hline rfl (thn (ho bE s σ H _ I h) λv s1 ⟨x,H1,I1,r1,ty,q1⟩=>?_)
 obtain ⟨h1,h2⟩:=qjk I1 r1 ty
 refine ⟨T,id,pa,slot,hty,h1,h2,?_⟩
 have hA:=ha cpos bE s1 σ H1 _ I1 q1
 rw [hs] at hA ⊢
 refine Calls.callWith_builtin (by show (false||(bT cpos (bG es X.env)).any (·.1))=false;rw [hplain]<;>rfl) (Calls.evalArgs_plain ?_)
 exact thn hA λus s2 ⟨vs,H2,I2,r2,q2⟩=>hm bE s2 σ H2 x vs v us Q I2 r1 r2 q2
end
def MtM (X:Cx)(id:String)(r:aX):Prop :=
 ∀ (bE:ag) (s:Kh) (σ:St) (H:Hp) (x:V) (xs:List V) (v:Kc) (us:az) (Q:VK),Inv X bE σ H s->RelV x v->Vals xs us->r x xs H Q->
  bK '*' X.A (call (.builtin id) (v::us)) (EP X bE σ Q) X.xe s
theorem Vals.one {x:V}{us:az}(h:Vals [x] us):∃ u,us=[u]/\RelV x u:=by
 cases h with
 | cons r t=>cases t;exact ⟨_,rfl,r⟩
theorem Vals.two {x y:V}{us:az}(h:Vals [x,y] us):∃ u v,us=[u,v]/\RelV x u/\RelV y v:=by
 cases h with
 | cons r t =>
  obtain ⟨v,rfl,q⟩:=Vals.one t
  exact ⟨_,_,rfl,r,q⟩
theorem Vals.zero:∀ {us:az},Vals [] us->us=[]
 | _,.nil=>rfl
theorem Vals.dropLast {xs:List V}{us:az}(h:Vals xs us):Vals xs.dropLast us.dropLast:=by
 induction h with
 | nil=>exact .nil
 | cons r t ih =>
  cases t with
  | nil=>exact .nil
  | cons q t'=>exact .cons r ih
theorem Vals.eraseIdx:∀ {xs:List V} {us:az} (i:Nat),Vals xs us->Vals (xs.eraseIdx i) (us.eraseIdx i)
 | _,_,_,.nil=>.nil
 | _,_,0,.cons _ t=>t
 | _,_,i+1,.cons r t=>.cons r (Vals.eraseIdx i t)
theorem qet {α:Type}(l:List α):l.eraseIdx (l.length-1)=l.dropLast:=by
 induction l with
 | nil=>rfl
 | cons a r ih =>
  cases r with
  | nil=>rfl
  | cons b r =>
   have e:(a::b::r).length-1=((b::r).length-1)+1:=by
    have h1:(a::b::r).length=r.length+2:=rfl
    have h2:(b::r).length=r.length+1:=rfl
    omega
   rw [e,List.eraseIdx_cons_succ,ih]
   all_goals rfl
theorem qbY {α:Type}:∀ (l:List α) (i:Nat),(l.eraseIdx i).length<=l.length
 | [],_=>Kp _
 | _::_,0=>UL _
 | _::r,i+1=>Es (qbY r i)
section
variable {X:Cx}{bE:ag}{σ:St}{H:Hp}{s:Kh}{l b:Ke}{xs ys zs:List V}
theorem Inv.lset {its its':az}{n:Nat}{f:Array Kc->Array Kc}{t':Nat}(I:'&')(hH:H l=some (.lst xs))
  (e:s.heap.get? l=some { cls:=.type "list", data:=.seq its.toArray n }) (hf:f its.toArray=its'.toArray) (hv:Vals ys its') (hz:ys.length<=bM) :
  Inv X bE σ (upd H l (.lst ys)) { s with heap:=s.heap.update l (Ub f),toks:=t' }:=by
 have q:=PySem.IsL.update e f
 rw [hf] at q
 refine I.write (x:=l) (e:=l) (by rw [hH];exact trivial) (.inl rfl) (λb' u hb hu=>(K6 s.heap (Ub f) (Ul hb)).trans hu) ⟨_,q⟩ ?_
 exact ⟨hz,its',_,hv,q⟩
theorem Inv.lnew {its:az}{t':Nat}(I:'&')(hv:Vals ys its)(hz:ys.length<=bM) :
  Inv X bE σ (upd H s.heap.objs.size (.lst ys)) { s with heap:=s.heap.push { cls:=.type "list", data:=.seq its.toArray },toks:=t' } :=
 I.laid (λ_ _ q=>Ki _ q) (Kp _) ⟨hz,its,0,hv,Kx _ rfl⟩
theorem Inv.fresh (I:'&'):H s.heap.objs.size=none:=I.hok.fresh (Kp _)
theorem Inv.lstM (I:'&')(hH:H l=some (.lst xs)):xs.length<=bM/\∃ (its:az) (n:Nat),Vals xs its/\xs.length=its.length/\s.heap.get? l=some { cls:=.type "list", data:=.seq its.toArray n }:=by
 obtain ⟨z,its,n,r,e⟩:=I.hok l _ hH
 exact ⟨z,its,n,r,r.length,e⟩
end
section
variable {X:Cx}
def qkV:V->List V->Hp->VK->Prop:=λx vs H Q=>∃ l xs y,x=.ref l/\vs=[y]/\H l=some (.lst xs)/\xs.length<bM/\Q .non (upd H l (.lst (xs++[y])))
theorem WK:MtM X "list.append" qkV:=by
 intro bE s σ H x vs v us Q I rx rv h
 obtain ⟨l,xs,y,rfl,rfl,hH,hz,q⟩:=h
 cases rx
 obtain ⟨u,rfl,ru⟩:=rv.one
 obtain ⟨z,its,n,r,hl,e⟩:=I.lstM hH
 refine NC Xr ⟨_,e,rfl⟩ F.entry_list_append (F.args_list_append_2 _ _) (PySem.list_append l its.toArray n u (by rw [KA];omega)) ⟨e,?_⟩
 refine ⟨.non,_,I.lset (its':=its++[u]) hH e (by simp) (r.append (.cons ru .nil)) ?_,rfl,q⟩
 rw [Kj,Kt]
 omega
def rPop:V->List V->Hp->VK->Prop:=λx vs H Q=>∃ l xs y,x=.ref l/\vs=[]/\H l=some (.lst xs)/\xs[xs.length-1]?=some y/\Q y (upd H l (.lst xs.dropLast))
theorem qij:MtM X "list.pop" rPop:=by
 intro bE s σ H x vs v us Q I rx rv h
 obtain ⟨l,xs,y,rfl,rfl,hH,hy,q⟩:=h
 cases rx
 have hus:=rv.zero
 subst hus
 obtain ⟨z,its,n,r,hl,e⟩:=I.lstM hH
 obtain ⟨u,hu,ru⟩:=r.get hy
 have hy':its.toArray[its.toArray.size-1]?=some u:=by
  show its.toArray[its.length-1]?=some u
  rw [← Um,← hl]
  exact hu
 refine NC Xm ⟨_,e,rfl⟩ F.entry_list_pop (F.args_list_pop_1 _) (MeetsSeq.list_pop_last l its.toArray n u hy' (by rw [KA];omega)) ⟨e,?_⟩
 refine ⟨y,_,I.lset (its':=its.dropLast) hH e ?_ r.dropLast ?_,ru,q⟩
 ·show its.toArray.eraseIdxIfInBounds (its.toArray.size-1)=its.dropLast.toArray
  rw [KA,Nx,qet]
 ·rw [List.length_dropLast]
  omega
def qm1:V->List V->Hp->VK->Prop:=λx vs H Q=>∃ l xs i k y,x=.ref l/\vs=[.int i]/\H l=some (.lst xs)/\-(2 ^ 63)<=i/\i<2 ^ 63/\cM i xs.length=some k/\xs[k]?=some y/\Q y (upd H l (.lst (xs.eraseIdx k)))
theorem qik:MtM X "list.pop" qm1:=by
 intro bE s σ H x vs v us Q I rx rv h
 obtain ⟨l,xs,i,k,y,rfl,rfl,hH,h1,h2,hk,hy,q⟩:=h
 cases rx
 obtain ⟨u,rfl,ru⟩:=rv.one
 obtain ⟨t,rfl⟩:=ru
 obtain ⟨z,its,n,r,hl,e⟩:=I.lstM hH
 obtain ⟨w,hw,rw'⟩:=r.get hy
 refine NC Xm ⟨_,e,rfl⟩ F.entry_list_pop (F.args_list_pop_2 _ _)
  (MeetsSeq.list_pop_at l its.toArray n i t k w (fitsIndex_both h1 h2) (by rw [KA,← hl];exact hk) (by rw [← Um];exact hw) (by rw [KA];omega)) ⟨e,?_⟩
 refine ⟨y,_,I.lset (its':=its.eraseIdx k) hH e ?_ (r.eraseIdx k) ?_,rw',q⟩
 ·show its.toArray.eraseIdxIfInBounds k=(its.eraseIdx k).toArray
  rw [Nx]
 ·have:=qbY xs k
  omega
def qm0:V->List V->Hp->VK->Prop:=λx vs H Q=>∃ l xs,x=.ref l/\vs=[]/\H l=some (.lst xs)/\Q .non (upd H l (.lst []))
theorem qih:MtM X "list.clear" qm0:=by
 intro bE s σ H x vs v us Q I rx rv h
 obtain ⟨l,xs,rfl,rfl,hH,q⟩:=h
 cases rx
 have hus:=rv.zero
 subst hus
 obtain ⟨z,its,n,r,hl,e⟩:=I.lstM hH
 refine NC E4 ⟨_,e,rfl⟩ F.entry_list_clear (F.args_list_clear_1 _) (AutoSeq1.list_clear_list_0 l its.toArray n (by rw [KA];omega)) ⟨e,?_⟩
 exact ⟨.non,_,I.lset (its':=[]) (ys:=[]) hH e rfl .nil (Vh _),rfl,q⟩
end
section
variable {prog:KJ}{w:KZ}{A:K0}{E:ah}{s:Kh}
set_option maxRecDepth 100000 in
end
end L2
namespace Att
open PySem PySem.W PySem.Calls PyProof.Rows
theorem qae {P:Params}{h:KS}:∀ (ns:List Int) (vs:List Kc),WellAll P h vs (ns.map WData.int)->IntsAre vs ns:=by
 intro ns
 induction ns with
 | nil =>
  intro vs w
  rw [VF] at w
  cases w
  exact .nil
 | cons n ns ih =>
  intro vs w
  rw [Ku] at w
  cases w with
  | cons a b =>
   cases a
   exact .cons _ _ (ih _ b)
theorem qha {l:Eg}{n:Nat}(hn:l.most=some n){P:Params}{h:KS}{args:List WData}{vals:List Kc}
  (hpre:l.row.toRowW.claim.pre args=true) (hwl:WellAll P h vals args) :
  ∃ a vs ns,vals=[Vd a]/\args=[WData.list (ns.map WData.int)]/\h.get? a=some { cls:=.type "list", data:=.seq vs.toArray }/\IntsAre vs ns/\ns.length<=n:=by
 have hsh:WShape.hasAll [] args [.list .int]=true:=(pre_splitW hpre).1
 have hc:l.pre.holds [] { args:=args }=true:=(pre_splitW hpre).2
 obtain ⟨d,r,rfl,h1,h2⟩:=hasAllW_cons hsh
 obtain rfl:=hasAllW_nil h2
 obtain ⟨xs,rfl,h3⟩:=hasW_list h1
 obtain ⟨ns,rfl⟩:=items_int h3
 have hlen:ns.length<=n:=by
  unfold OpenLaw.pre at hc
  have h4:(WTm.not (.lt (.lit (.int (n:Int))) (.len (.arg 0)))).holds [] { args:=[.list (ns.map .int)] }=true:=by
   have h4:=(holds_andW hc).1
   rw [hn] at h4
   exact h4
  have h5:=condW_of h4 (w_not (w_lt w_lit (w_len_list (w_arg rfl))))
  rw [Kf] at h5
  refine Nat.le_of_not_lt λq=>?_
  have q':(n:Int)<((ns.length:Nat):Int):=by omega
  first
   | (rw [bF q'] at h5;exact absurd h5 (by decide))
   | (simp at h5;omega)
 cases hwl with
 | cons w1 w2 =>
  cases w2
  cases w1 with
  | list ho hall=>exact ⟨_,_,ns,rfl,rfl,ho,qae ns _ hall,hlen⟩
theorem qg6 (l:Eg)(args:List WData):l.row.toRowW.claim.post args (.bool true) args=true :=
 postW_of (r:=l.row.toRowW) (X:=(true==true))
  (show WShape.has [] (.bool true) .bool=true by first|rfl|decide|simp [WShape.has,WShape.arms,WShape.armsAll])
  (show (WTm.eq .res (.lit (.bool true))).value [] { args:=args,res:=some (.bool true),after:=args }=some (.bool (true==true)) from w_eq_bool (w_res rfl) w_lit) rfl
end Att
namespace L2
open PySem PySem.Spec PyProof.Rows
theorem qch:∀ {vs:az} {ns:aA},IntsAre vs ns->Vals (ns.map V.int) vs
 | _,_,.nil=>.nil
 | _,_,.cons n t h=>.cons ⟨t,rfl⟩ (qch h)
def Only (H:Hp):Prop:=∀ b,H b=none\/∃ o xs,H b=some (.frz o (.lst xs))
theorem qh3 {P:KJ}{w:KZ}{K:Kb}{mg mb:ao}{CX:CXT}{k:Nat}{fa a:Ke}{fd:Vp}{x:Str}{sp:Sp}{s₁:Kh}{vs:az}{ns:aA}
  (KX:K.In s₁.heap) (hns:s₁.heap.Ns bL mg) (hb:s₁.heap.Ns builtinsNs mb) (hbb:∀ x:Str,x ≠ "__name__"->mb x=bS x) (hlim:s₁.heap.NoLimit) (hg:s₁.gens=#[])
  (ha:s₁.heap.get? a=some { cls:=.type "list", data:=.seq vs.toArray }) (hi:IntsAre vs ns) (hl:ns.length<=bM) (hr:Room k callerA)
  (F:∀ base:KS,K.In base->base.Ns bL mg->FnOk P w K mg base CX k fa fd [x] sp) (hbind:∀ (s:Kh) (u:Kc),BindsTo s fd ⟨[u],[]⟩ [(x,u)])
  (hsp:∀ H:Hp,Only H->SqL K H a (ns.map V.int)->sp [.ref a] H (λv _=>v=.bl true) λ_ _ _=>False)
  (hCX:∀ H e s',CX [] H s₁ (λ_ _ _=>False) e s'->False) :
  cA (model P w) callerA (.call (.ref fa) ⟨[.ref a],[]⟩) (λr s'=>r=.ok (.ret (.bool true))/\OldK s₁.heap s'.heap/\s'.os=s₁.os/\XN s'.gens) s₁:=by
 have rv:=qch hi
 have lenV:=hi.length
 have core:∀ H:Hp,Only H->SqL K H a (ns.map V.int)->HOk P w H s₁.heap->(∀ b,H b≠none->b=a)->(H a≠none->K.lookup a=none)->
   cA (model P w) callerA (.call (.ref fa) ⟨[.ref a],[]⟩) (λr s'=>r=.ok (.ret (.bool true))/\OldK s₁.heap s'.heap/\s'.os=s₁.os/\XN s'.gens) s₁:=by
  intro H hO hS hok hA hK
  have base_of:∀ {b:Ke} {o:Obj},s₁.heap.get? b=some o->H b=none->(hidT s₁.heap H).get? b=some o:=λe n=>qhO e n
  have noA:∀ {b:Ke} {o:Obj} {es:Array Xp} {ep:Nat},s₁.heap.get? b=some o->o.data=.dict es ep->H b=none:=λ{b o es ep} e d=>by
   cases q:H b with
   | none=>rfl
   | some u =>
    have e':b=a:=hA b (by rw [q];simp)
    subst e'
    rw [ha] at e;cases e
    have d':Data.seq vs.toArray _=XY es ep:=d
    cases d'
  have nsK:∀ {b:Ke} {m:ao},s₁.heap.Ns b m->(hidT s₁.heap H).Ns b m:=λ{b m} ⟨o,es,ep,e,d,r⟩=>⟨o,es,ep,base_of e (noA e d),d,r⟩
  have hKb:K.In (hidT s₁.heap H):=λb o e=>base_of (KX b o e) (by
   cases q:H b with
   | none=>rfl
   | some u =>
    have e':b=a:=hA b (by rw [q];simp)
    subst e'
    rw [hK (by rw [q];simp)] at e;cases e)
  have hM:Mod K mg (hidT s₁.heap H):=⟨hKb,nsK hns,⟨mb,nsK hb,hbb⟩,let ⟨mc,h1,h2⟩:=hlim;⟨mc,nsK h1,h2⟩⟩
  have e0:Env0 P w K mg (hidT s₁.heap H) callerA [] s₁ H:=⟨rfl,hM,λb o e=>qkt e,Nat.le_of_eq (qgv _ _),trivial,λb hb=>absurd (show b∈([]:List Ke) from hb) (by simp),hok,.of_eq hg⟩
  refine codeAny_mono ((F _ hKb (nsK hns)).run callerA [] s₁ H ⟨[.ref a],[]⟩ [.ref a] [.ref a] _ _ hr e0 (hbind s₁ (.ref a)) (.cons rfl .nil) (hsp H hO hS)) λr s' h=>?_
  cases r with
  | error e=>exact (hCX H e s' h).elim
  | ok fl =>
   cases fl with
   | next=>exact UM h
   | brk=>exact UM h
   | cont=>exact UM h
   | ret u =>
    obtain ⟨v,H',os,bare,un,hok',r',q⟩:=h
    have q':v=.bl true:=q
    subst q'
    obtain rfl:u=Vv true:=r'
    refine ⟨rfl,OldK.of_keep λb o e=>?_,os,bare⟩
    cases q:H b with
    | none=>exact un.keep b o e q (by intro z;exact absurd (show b∈([]:List Ke) from z) (by simp)) (by simp)
    | some u =>
     rcases hO b with z|⟨ob,xs,z⟩
     ·rw [q] at z;cases z
     ·have z2:=un.frzs b ob _ z
      obtain ⟨e1,_⟩:=hok b _ z
      obtain ⟨e2,_⟩:=hok' b _ z2
      rw [e] at e1;cases e1
      exact e2
 cases hk:K.lookup a with
 | some o =>
  have e:=KX a o hk
  rw [ha] at e
  cases e
  refine core (λ_=>none) (λ_=>.inl rfl) (.inr ⟨_,vs.toArray,_,hk,rfl,rfl,rfl,by rw [KA,lenV];exact hl,by simpa using rv⟩) (λb u z=>by have z':(none:Option HO)=some u:=z;cases z') (λb z=>absurd rfl z) λz=>absurd rfl z
 | none =>
  refine core (λb=>if b=a then some (.frz { cls:=.type "list", data:=.seq vs.toArray } (.lst (ns.map V.int))) else none) (λb=>?_) (.inl (.inr ⟨{ cls:=.type "list", data:=.seq vs.toArray },bI rfl⟩)) (λb u z=>?_) (λb z=>?_) λ_=>hk
  ·by_cases hb:b=a
   ·exact .inr ⟨_,_,bI hb⟩
   ·exact .inl (bJ hb)
  ·by_cases hb:b=a
   ·have z':=(bI hb).symm.trans z
    cases z'
    subst hb
    exact ⟨ha,by rw [Kf];exact hl,vs,_,rv,ha⟩
   ·have z':=(bJ hb).symm.trans z
    cases z'
  ·by_cases hb:b=a
   ·exact hb
   ·exact absurd (bJ hb) z
def Zh (s:KQ):Arguments:=match s with
 | .FunctionDef _ a _ _ _ _ _ _ _ _=>a
 | _=>{ posonlyargs:=[],args:=[],vararg:=none,kwonlyargs:=[],kw_defaults:=[],kwarg:=none,defaults:=[] }
def zO (s:KQ):List KQ:=match s with
 | .FunctionDef _ _ b _ _ _ _ _ _ _=>b
 | _=>[]
def qe (s:KQ):V9:=match s with
 | .FunctionDef _ _ _ _ _ _ sc _ _ _=>sc
 | _=>{ kind:=.function,names:=[],isGenerator:=false,isCoroutine:=false }
abbrev CX0:CXT:=λ_ _ _ _ _ _=>False
abbrev E0:XK:=λ_ _ _=>False
theorem qa8 {X:Cx}:qci CX0 X E0:=λ_ _ _ _ _ _ _ h=>h.elim
structure Fun (K:Kb)(x qual:Str)(st:KQ)(f:Ke)(fd:Vp):Prop where
 ex:∃ (oc:Kc) (od:aI) (kV doc pm:Kc) (an:aI) (cdv ct:Kc) (osl:au),
  fd=Ud x qual (Zh st) (zO st) (qe st) .none kV doc pm an cdv ct/\K.lookup f=some ⟨oc,od,.func fd,osl⟩/\UH K cdv qual=true
 kp:Vl K (.ref f)=true
section
variable {P:KJ}{w:KZ}{K:Kb}{mg:ao}{base:KS}
theorem Fun.ok {x qual:Str}{st:KQ}{f:Ke}{fd:Vp}{N ps:aB}{k:Nat}{sp:Sp}(F:Fun K x qual st f fd)(S:FnScope N ps (qe st))(len:∀ vs H Q E,sp vs H Q E->vs.length=ps.length)
  (hbody:∀ (cdv:Kc) (A:K0) (outer:aU) (s:Kh) (H:Hp) (vs:List V) (Q:VK) (E:XK),Room k (A.deeper (cD qual (qe st) s.heap.objs.size f cdv))->sp vs H Q E->
   ∃ t,PSs (cxOf CX0 P w K mg base N qual (qe st) f cdv A outer s H E).nox (zO st) t/\t { nx:=λ_ H'=>Q .non H',rt:=Q } (start N vs) H):FnOk P w K mg base CX0 (k+1) f fd ps sp:=by
 obtain ⟨oc,od,kV,doc,pm,an,cdv,ct,osl,rfl,lk,hcd⟩:=F.ex
 refine qlr lk hcd S len λA outer s H vs Q E hr hsp=>?_
 obtain ⟨t,h,q⟩:=hbody cdv A outer s H vs Q E hr hsp
 exact ⟨t,h.nox,q⟩
theorem Fun.binds {x qual:Str}{st:KQ}{f:Ke}{fd:Vp}{ps:aB}(F:Fun K x qual st f fd)
  (h:∀ (kV doc pm:Kc) (an:aI) (cdv ct:Kc) (us:az),us.length=ps.length->bindArgs (Ud x qual (Zh st) (zO st) (qe st) .none kV doc pm an cdv ct) ⟨us,[]⟩=pure (ps.zip us)):Binds K fd ps []:=by
 obtain ⟨oc,od,kV,doc,pm,an,cdv,ct,osl,rfl,lk,hcd⟩:=F.ex
 exact .all (h kV doc pm an cdv ct)
theorem qeu {x qual:Str}{st:KQ}{f:Ke}{oc:Kc}{od an:aI}{osl:au}{kV doc pm cdv ct:Kc}(l:K.lookup f=some ⟨oc,od,.func (Ud x qual (Zh st) (zO st) (qe st) .none kV doc pm an cdv ct),osl⟩)
  (c:UH K cdv qual=true) (k:Vl K (.ref f)=true):Fun K x qual st f (Ud x qual (Zh st) (zO st) (qe st) .none kV doc pm an cdv ct):=⟨⟨oc,od,kV,doc,pm,an,cdv,ct,osl,rfl,l,c⟩,k⟩
end
theorem zB {n:Nat}(h:n<=1000):n<bM:=Nat.lt_of_le_of_lt h (by decide)
theorem iteF {A B:Prop}(h:B):if false=true then A else B:=by
 rw [bJ VJ]
 exact h
theorem iteT {A B:Prop}(h:A):if true=true then A else B:=by
 rw [bI rfl]
 exact h
def Same (H H':Hp):Prop:=∀ b o,H b=some o->H' b=some o
theorem Same.refl (H:Hp):Same H H:=λ_ _ h=>h
theorem Same.trans {H H1 H2:Hp}(a:Same H H1)(b:Same H1 H2):Same H H2:=λc o h=>b c o (a c o h)
theorem Same.free {H H':Hp}(e:Same H H'){l:Ke}(h:H' l=Ko):H l=Ko:=by
 cases q:H l with
 | none=>rfl
 | some o =>
  rw [e l o q] at h
  cases h
theorem Same.seq {K:Kb}{H H':Hp}{a:Ke}{xs:List V}(e:Same H H')(h:SqL K H a xs):SqL K H' a xs:=by
 rcases h with (h|⟨o,h⟩)|h
 ·exact .inl (.inl (e _ _ h))
 ·exact .inl (.inr ⟨o,e _ _ h⟩)
 ·exact .inr h
end L2
set_option maxHeartbeats 4000000
namespace L2
open PySem PySem.Spec PyProof.Rows
theorem qdi {env:Env}(body:(Str×NameKind)->List (Str×Addr)->Sem (ForInStep (List (Str×Addr))))
  (hf:∀ n k acc c,k=Vq->env.cells.lookup n=some c->body (n,k) acc=pure (.yield ((n,c)::acc)))
  (hn:∀ n k acc,k≠Vq->body (n,k) acc=pure (.yield acc)) :
  ∀ (names:List (Str×NameKind)) (acc:aO),(∀ y∈names,y.2=.free->∃ c,env.cells.lookup y.1=some c)->
   (∀ y c,acc.lookup y=some c->env.cells.lookup y=some c)->
   ∃ cl,forIn names acc body=pure cl/\(∀ y c,cl.lookup y=some c->env.cells.lookup y=some c)/\(∀ y,(∃ c,acc.lookup y=some c)->∃ c,cl.lookup y=some c)/\∀ y,(y,Vq)∈names->∃ c,cl.lookup y=some c:=by
 intro names
 induction names with
 | nil=>exact λacc _ ha=>⟨acc,rfl,ha,λ_ h=>h,λ_ h=>by cases h⟩
 | cons p r ih =>
  obtain ⟨n,k⟩:=p
  intro acc h ha
  by_cases hk:k=Vq
  ·obtain ⟨c,hc⟩:=h (n,k) VI hk
   obtain ⟨cl,e,h1,h2,h3⟩:=ih ((n,c)::acc) (λy hy=>h y (Vw _ hy)) (λy c' e=>by
    rw [Vr] at e
    split at e
    ·rename_i q
     have q':y=n:=by simpa using q
     subst q';cases e;exact hc
    ·exact ha y c' e)
   refine ⟨cl,?_,h1,λy hy=>h2 y ?_,λy hy=>?_⟩
   ·rw [List.forIn_cons,hf n k acc c hk hc]
    exact e
   ·obtain ⟨c',e'⟩:=hy
    rw [Vr]
    split
    ·exact ⟨_,rfl⟩
    ·exact ⟨_,e'⟩
   ·rcases Kr.mp hy with q|q
    ·cases q
     exact h2 _ ⟨c,by rw [Vr];simp⟩
    ·exact h3 y q
  ·obtain ⟨cl,e,h1,h2,h3⟩:=ih acc (λy hy=>h y (Vw _ hy)) ha
   refine ⟨cl,?_,h1,h2,λy hy=>?_⟩
   ·rw [List.forIn_cons,hn n k acc hk]
    exact e
   ·rcases Kr.mp hy with q|q
    ·cases q;exact absurd rfl hk
    ·exact h3 y q
theorem qaD {sc:V9}{env:Env}(h:∀ y∈sc.names,y.2=.free->∃ c,env.cells.lookup y.1=some c) :
  ∃ cl,closureFor sc env=pure cl/\(∀ y c,cl.lookup y=some c->env.cells.lookup y=some c)/\∀ y,(y,Vq)∈sc.names->∃ c,cl.lookup y=some c:=by
 simp only [closureFor]
 obtain ⟨cl,e,h1,_,h3⟩:=qdi (env:=env) (λx cs=>if (x.2==Vq)=true then (do let a ← cellOf env x.1;pure (Xs ((x.1,a)::cs))) else pure (Xs cs)) (λn k acc c hk hc=>by
   subst hk
   simp only [cellOf,hc,cz,cw];rfl) (λn k acc hk=>by
   have:(k==Vq)=false:=by simpa using hk
   simp only [this,VL,cm]) sc.names [] h (λy c e=>by cases e)
 refine ⟨cl,?_,h1,h3⟩
 exact (congrArg (· >>= λr=>pure r) e).trans rfl
def qX (X:Cx)(N':aB)(sc:V9)(cl:aO)(C:Ke)(fp:aH)(bE:ag)(s:Kh)(H:Hp):Cx where
 prog:=X.prog
 w:=X.w
 K:=X.K
 mg:=X.mg
 base:=X.base
 A:=X.A
 N:=N'
 s₀:=s
 H₀:=H
 env:=compEnvC sc cl C X.env
 outer:=X.stack
 stack:=X.stack
 ex:=fp
 fn:=λx=>decide (sc.names.lookup x=some .cell)
 calm:=X.calm
 pn:=X.pn++bE
 xe:=λ_ _=>False
def PTs (X:Cx)(ifs:aJ)(t:TT):Prop :=
 ∀ (bE:ag) (s:Kh) (σ:St) (H:Hp) (Q:Bool->Hp->Prop),Inv X bE σ H s->t σ H Q->
  bK '*' X.A (forIn ifs true λc r=>if r=true then do let ok ← isTrue c X.env (eval c X.env);pure (Xs ok) else pure (Xs r)) (TP X bE σ Q) X.xe s
def tTru:TT:=λ_ H Q=>Q true H
theorem qkR:PTs X [] tTru:=λ_ _ _ H _ I h=>wpAny_tests_nil ⟨H,I,h⟩
theorem qkS  (h:PT X c t):PTs X [c] t:=λbE s σ H Q I q=>wpAny_tests_one (h bE s σ H Q I q)
theorem thF {α:Type}{t:Sem α}{Q Q':α->Kh->Prop}{M:Model}{A:K0}{E:ah}{s:Kh}(h:bK M A t Q (λ_ _=>False) s)(hQ:∀ a s,Q a s->Q' a s):bK M A t Q' E s:=Uj h hQ λ_ _ x=>x.elim
theorem qeN {prog:KJ}{w:KZ}{A:K0}{R:bg}{s:Kh}{elt target iter:KB}{ifs:aJ}{scope:V9}{pos:Pos}{it acc:Kc}{env:Env}(I:Nat->Kh->Prop)
  (turn:∀ n s,I n s->bK ',' A (cJ it) (λr s₁=>match r with
   | none=>R (.ok .next) s₁
   | some v=>bK ',' A (cL target it v) (λ_ s₁=>bK ',' A (assign target env v) (λ_ s₂ =>
     bK ',' A (forIn ifs true λc r=>if r=true then do let ok ← isTrue c env (eval c env);pure (Xs ok) else pure (Xs r)) (λok s₃ =>
      if ok=true then bK ',' A (eval elt env) (λx s₄ =>
       bK ',' A (call (.builtin "list.append") [acc,x]) (λ_ s₅=>∃ m,m<n/\I m s₅) (notedBy ',' A env λe s'=>R (.error e) s') s₄) (notedBy ',' A env λe s'=>R (.error e) s') s₃
      else ∃ m,m<n/\I m s₃) (notedBy ',' A env λe s'=>R (.error e) s') s₂) (notedBy ',' A env λe s'=>R (.error e) s') s₁) (notedBy ',' A env λe s'=>R (.error e) s') s₁) (notedBy ',' A env λe s'=>R (.error e) s') s)
  (n:Nat) (h:I n s) :
  cA ',' A (.compLoop (.ListComp elt [⟨target,iter,ifs,0⟩] scope pos) 0 it acc env) R s:=by
 refine codeAny_loop rfl I (λn s hI=>?_) n h
 show bK _ A ((compTurn (.ListComp elt [⟨target,iter,ifs,0⟩] scope pos) 0 it acc env).onRaise (λx=>do noteFrame x env;theTreesLotGoes x)) _ _ s
 refine wpAny_noted ?_
 rw [compTurn_list]
 refine Kd (wpAny_standAt (Kd (Uj (turn n s hI) (λr s₁ h₁=>?_) λ_ _ h'=>h')))
 cases r with
 | none=>exact Kn h₁
 | some v =>
  refine Kd (Uj h₁ (λ_ s₁' h₁'=>?_) λ_ _ h'=>h')
  refine Kd (Uj h₁' (λ_ s₂ h₂=>Kd (Uj h₂ (λok s₃ h₃=>?_) λ_ _ h'=>h')) λ_ _ h'=>h')
  cases ok with
  | false=>exact Kn ⟨rfl,h₃⟩
  | true =>
   exact Kd (Kd (Uj h₃ (λx s₄ h₄=>Kd (Uj h₄ (λ_ s₅ h₅=>Kn (Kn ⟨rfl,h₅⟩)) λ_ _ h'=>h')) λ_ _ h'=>h'))
structure CompOk (X:Cx)(N':aB)(k:Nat)(sc:V9):Prop where
 calm:X.calm=true
 kind:sc.kind=.function
 nd:X.N.Nodup
 nd':N'.Nodup
 len:N'.length=X.N.length+k
 cells:∀ y∈sc.names,y.2=.cell->sc.names.lookup y.1=some .cell
 names:∀ y∈sc.names,y.2=.local->sc.names.lookup y.1=some .local
 old:∀ i y,i<X.N.length->N'[i]?=some y->(X.N[i]?=some y/\sc.names.lookup y≠some .local/\sc.names.lookup y≠some .cell)\/sc.names.lookup y=none
 free:∀ y∈sc.names,y.2=.free->X.env.kindOf y.1=some .cell\/X.env.kindOf y.1=some .free
theorem cf_ok (lo:Nat):∀ (names:List (Str×NameKind)) (h:KS) (acc:aO),lo<=h.objs.size->(∀ y c,acc.lookup y=some c->lo<=c->c<h.objs.size)->(∀ y z c,lo<=c->acc.lookup y=some c->acc.lookup z=some c->y=z)->
  (∀ y c,(cf h.objs.size names acc).lookup y=some c->acc.lookup y=some c\/(h.objs.size<=c/\(cp h names).IsCell c none))/\(∀ y,(∃ c,acc.lookup y=some c)->∃ c,(cf h.objs.size names acc).lookup y=some c)/\
  (∀ y,(y,VV)∈names->∃ c,(cf h.objs.size names acc).lookup y=some c/\h.objs.size<=c)/\(∀ y,(y,VV)∉names->(cf h.objs.size names acc).lookup y=acc.lookup y)/\
  ∀ y z c,lo<=c->(cf h.objs.size names acc).lookup y=some c->(cf h.objs.size names acc).lookup z=some c->y=z:=by
 intro names
 induction names with
 | nil=>exact λh acc _ _ inj=>⟨λ_ _ e=>.inl e,λ_ e=>e,(λ_ e=>by cases e),λ_ _=>rfl,inj⟩
 | cons p r ih =>
  obtain ⟨name,kind⟩:=p
  intro h acc hl hb inj
  by_cases hk:kind=.cell
  ·subst hk
   have sz:(h.push { cls:=.type "cell", data:=.cell none }).objs.size=h.objs.size+1:=Vo ..
   have lk:∀ y,NW y ((name,h.objs.size)::acc)=if y=name then some h.objs.size else acc.lookup y:=λy=>by
    rw [Vr]
    by_cases q:y=name
    ·rw [bI q,cv.mpr q]
    ·rw [bJ q,bP.mpr q]
   obtain ⟨a1,a2,a3,a4,a5⟩:=ih (h.push { cls:=.type "cell", data:=.cell none }) ((name,h.objs.size)::acc) (by omega) (λy c e q=>by
     rw [lk] at e
     rw [sz]
     split at e
     ·cases e;exact UE _
     ·exact Vm (hb y c e q)) (λy z c q e1 e2=>by
     rw [lk] at e1 e2
     split at e1<;>split at e2
     ·rename_i u v;rw [u,v]
     ·cases e1;exact absurd (hb z _ e2 q) (Uc _)
     ·cases e2;exact absurd (hb y _ e1 q) (Uc _)
     ·exact inj y z c q e1 e2)
   rw [sz] at a1 a2 a3 a4 a5
   have e0:cf h.objs.size ((name,VV)::r) acc=cf (h.objs.size+1) r ((name,h.objs.size)::acc):=rfl
   have e1:cp h ((name,VV)::r)=cp (h.push { cls:=.type "cell", data:=.cell none }) r:=rfl
   rw [e0,e1]
   have b1:∀ y c,(cf (h.objs.size+1) r ((name,h.objs.size)::acc)).lookup y=some c->acc.lookup y=some c\/(h.objs.size<=c/\(cp (h.push { cls:=.type "cell", data:=.cell none }) r).IsCell c none):=λy c e=>by
    rcases a1 y c e with q|⟨q1,q2⟩
    ·rw [lk] at q
     split at q
     ·cases q
      exact .inr ⟨Kp _,_,EK r _ _ _ (Kx _ rfl),rfl⟩
     ·exact .inl q
    ·exact .inr ⟨by omega,q2⟩
   refine ⟨b1,λy e=>a2 y ?_,λy e=>?_,λy e=>?_,a5⟩
   ·obtain ⟨c,e⟩:=e
    rw [lk]
    split
    ·exact ⟨_,rfl⟩
    ·exact ⟨_,e⟩
   ·rcases Kr.mp e with q|q
    ·cases q
     obtain ⟨c,q⟩:=a2 name ⟨h.objs.size,by rw [lk,bI rfl]⟩
     refine ⟨c,q,?_⟩
     rcases a1 name c q with z|z
     ·rw [lk,bI rfl] at z;cases z;exact Kp _
     ·omega
    ·obtain ⟨c,q1,q2⟩:=a3 y q
     exact ⟨c,q1,by omega⟩
   ·rw [a4 y λz=>e (Vw _ z),lk,bJ λz=>e (by rw [z];exact VI)]
  ·have hb':(kind==VV)=false:=bP.mpr hk
   have e0:cf h.objs.size ((name,kind)::r) acc=cf h.objs.size r acc:=by rw [cf,hb'];rfl
   have e1:cp h ((name,kind)::r)=cp h r:=by rw [cp,hb'];rfl
   rw [e0,e1]
   obtain ⟨a1,a2,a3,a4,a5⟩:=ih h acc hl hb inj
   refine ⟨a1,a2,λy e=>?_,λy e=>a4 y λz=>e (Vw _ z),a5⟩
   rcases Kr.mp e with q|q
   ·cases q;exact absurd rfl hk
   ·exact a3 y q
theorem qkq {M:Model}{A:K0}{E:ah}{s:Kh}{sc:V9}{gl:Ke}{cl:aO}{qual:Str}{func:aI}{code:Kc}{env:Env}{bl:Ke}{Q:Env->Kh->Prop}
  (hQ:Q (newEnv sc s.heap.objs.size gl (cf (s.heap.objs.size+1) sc.names cl) qual func code (some env) bl) { s with heap:=cp (s.heap.push { cls:=.type "dict", data:=.dict #[] }) sc.names }) :
  bK M A (newFunctionEnv sc gl cl [] qual func code (some env) bl) Q E s:=by
 simp only [newFunctionEnv,Fg,cw]
 refine Kd (wpAny_alloc (Kd (wpAny_layCells _ (λname kind cells=>by cases hkc:kind==VV<;>simp [hkc]) _ _ _ _ ?_)))
 rw [show ({ s with heap:=s.heap.push { cls:=.type "dict", data:=.dict #[] } }:Kh).heap.objs.size=s.heap.objs.size+1 from Vo ..]
 rw [List.forIn_nil]
 exact Kd (Kn (Kn hQ))
structure ClOk (X:Cx)(sc:V9)(cl:aO)(n:Nat)(h:KS):Prop where
 old:∀ y c,cl.lookup y=some c->X.env.cells.lookup y=some c\/(n<c/\∃ v,h.IsCell c v)
 free:∀ y,sc.names.lookup y=some .free->∃ c,cl.lookup y=some c/\X.env.cells.lookup y=some c
 cell:∀ y,sc.names.lookup y=some .cell->∃ c,cl.lookup y=some c/\n<c
 inj:∀ y z c,cl.lookup y=some c->cl.lookup z=some c->y=z
def qja (J:It)(wg:TG)(tt:TT)(te:TE)(W:Nat->Nat->List V->St->Hp->Prop)(i m:Nat)(ys:List V)(σ:St)(H:Hp):Prop :=
 ∀ x H2,J.yld i H x H2->wg x σ H2 λσ3 H3=>tt σ3 H3 λb H4=>if b=true then te σ3 H4 λv H5=>ys.length<bM/\∃ m',m'<m/\W (i+1) m' (ys++[v]) σ3 H5
  else ∃ m',m'<m/\W (i+1) m' ys σ3 H4
def qjb (k:Nat)(J:It)(wg:TG)(tt:TT)(te:TE)(σ:St)(H:Hp)(Q:VK):Prop :=
 ∃ W:Nat->Nat->List V->St->Hp->Prop,(∃ m,W 0 m [] (σ++Vt k none) H)/\∀ i m ys σ' H',W i m ys σ' H'->
  (J.stop i H'/\∀ D,H' D=none->Q (.ref D) (upd H' D (.lst ys)))\/(J.go i H'/\qja J wg tt te W i m ys σ' H')
def qcd (k:Nat)(wi:TI)(wg:TG)(tt:TT)(te:TE):TE:=λσ H Q=>wi σ H λJ H1=>qjb k J wg tt te σ H1 Q
theorem Q0 {env:Env}:∀ {names:List (Str×NameKind)} {x:Str} {k:En},
  (names.map λ(n,k)=>if (k==Vq&&env.scope.kind==.function&&env.kindOf n==some .cell) then (n,VV) else (n,k)).lookup x=some k->
   (names.lookup x=some k)\/(k=.cell/\names.lookup x=some .free)
 | [],_,_,h=>by simp at h
 | (n,k')::r,x,k,h=>by
  have h':NW x ((if (k'==Vq&&env.scope.kind==.function&&env.kindOf n==some .cell)=true then (n,VV) else (n,k'))::(r.map λ(n,k)=>if (k==Vq&&env.scope.kind==.function&&env.kindOf n==some .cell) then (n,VV) else (n,k)))=some k:=h
  have ih:=@Q0 env r x k
  cases hx:x==n with
  | true =>
   by_cases hc:(k'==Vq&&env.scope.kind==.function&&env.kindOf n==some .cell)=true
   ·rw [bI hc] at h'
    simp only [Vr,hx] at h' ⊢
    cases h'
    have:k'=.free:=by
     rw [KD,KD] at hc
     simpa using hc.1.1
    subst this
    exact .inr ⟨rfl,rfl⟩
   ·rw [bJ hc] at h'
    simp only [Vr,hx] at h' ⊢
    exact .inl h'
  | false =>
   by_cases hc:(k'==Vq&&env.scope.kind==.function&&env.kindOf n==some .cell)=true
   ·rw [bI hc] at h'
    simp only [Vr,hx] at h' ⊢
    exact ih h'
   ·rw [bJ hc] at h'
    simp only [Vr,hx] at h' ⊢
    exact ih h'
section
variable {X:Cx}{elt iter:KB}{ifs:aJ}{tg:KB}{N':aB}{sc:V9}{pos:Pos}{wi:TI}{wg:TG}{tt:TT}{te:TE}{k:Nat}
theorem qhz {bE:ag}{σ:St}{H:Hp}{s s':Kh}{cl:aO}{fp:aH}{m:ao}(O:CompOk X N' k sc)(I:'&')(cK:ClOk X sc cl s.heap.objs.size s'.heap)
  (hf:∀ b∈fp,FpOk X bE H b) (hlt:∀ b∈fp,b<s.heap.objs.size) (hos:s'.os=s.os) (hg:s'.gens=s.gens) (hk:∀ b o,s.heap.get? b=some o->s'.heap.get? b=some o) (hns:s'.heap.Ns s.heap.objs.size m) :
  Inv (qX X N' sc cl s.heap.objs.size fp bE s H) [] (σ++Vt k none) H s':=by
 have stk:∀ b,b≠X.env.locals->b∉X.fs->b∉frs X.stack:=λb h1 h2 hb=>by
  rcases Kr.mp (I.stkSub b hb) with z|z
  ·exact h1 z
  ·exact h2 z
 have hr:∀ {y:Str},(relabel sc X.env).names.lookup y=some .cell\/(relabel sc X.env).names.lookup y=some .free->sc.names.lookup y=some .free\/sc.names.lookup y=some .cell:=λ{y} h=>by
  rcases h with h|h
  ·rcases Q0 h with q|q
   ·exact .inr q
   ·exact .inl q.2
  ·rcases Q0 h with q|q
   ·exact .inl q
   ·exact .inl q.2
 refine ⟨⟨I.ok.mod,O.kind,I.ok.glob,I.ok.blt,Kp _,cK.inj,λy hy=>?_,λy c z e=>?_,I.ok.hd,I.ok.frames,.inl rfl,λb hb=>?_,I.bs,Ve I.ok.bsz I.sz,λb o e hb=>?_,λb hb=>?_,I.stack,I.stkFree⟩,
  hos,?_,Un.kept hk,⟨m,hns,λi y v h1 h2 h3=>?_⟩,λy c h=>?_,I.hok.fresh (Kp _),λy c h=>(cK.old y c h).elim (I.freeC y c) λz=>I.hok.fresh (VA z.1),λp hp=>?_,I.hok.kept hk,?_⟩
 ·rcases hr hy with q|q
  ·obtain ⟨c,e,_⟩:=cK.free y q;exact ⟨c,e⟩
  ·obtain ⟨c,e,_⟩:=cK.cell y q;exact ⟨c,e⟩
 ·obtain ⟨c',e',q⟩:=cK.cell y (bN z)
  have e:cl.lookup y=some c:=e
  rw [e'] at e;cases e
  exact VA q
 ·have q:=hf b hb
  exact ⟨KW (hlt b hb),λz c e=>(cK.old z c e).elim (q.2.2.2.2.1 z c) λw=>UC (Et (hlt b hb) w.1)⟩
 ·have hb':b∈fp:=hb
  rcases (hf b hb').2.2.2.1 with z|z
  ·exact I.ok.noex b o e z
  ·exact absurd (K8 (KF (I.ok.bs b o e).1) z) (Uc _)
 ·exact stk b (hf b hb).2.1 (hf b hb).2.2.1
 ·rw [hg];exact I.bare
 ·have hl:=I.len
  have hi:i<X.N.length:=by
   by_cases hi:i<X.N.length
   ·exact hi
   ·rw [Vi (by omega)] at h2
    have:=Uu (a:=(none:Option V)) (n:=k) (i:=i-σ.length)
    rw [this] at h2
    split at h2<;>cases h2
  have h1':X.N[i]?=some y/\sc.names.lookup y≠some .local/\sc.names.lookup y≠some .cell:=by
   rcases O.old i y hi h1 with q|q
   ·exact q
   ·have no:∀ kk,(relabel sc X.env).names.lookup y≠some kk:=λkk z=>by
     rcases Q0 z with w|w
     ·rw [q] at w;cases w
     ·rw [q] at w;cases w.2
    rcases h3 with h3|h3|h3
    ·exact absurd h3 (no _)
    ·exact absurd h3 (no _)
    ·exact absurd h3 (no _)
  obtain ⟨h1',h1n,h1c⟩:=h1'
  have h2':σ[i]?=some (some v):=by
   rw [KL (by omega)] at h2
   exact h2
  have key:sc.names.lookup y=some .free/\((relabel sc X.env).names.lookup y=some .cell\/(relabel sc X.env).names.lookup y=some .free):=by
   rcases h3 with h3|h3|h3
   ·rcases Q0 h3 with q|q
    ·exact absurd q h1n
    ·cases q.1
   ·exact ⟨(hr (.inl h3)).resolve_right h1c,.inl h3⟩
   ·exact ⟨(hr (.inr h3)).resolve_right h1c,.inr h3⟩
  obtain ⟨q,kd⟩:=key
  have mem:=Ui q
  have kx:=O.free _ mem rfl
  obtain ⟨m0,hn,hl'⟩:=I.loc
  obtain ⟨u,r,l⟩:=hl' i y v h1' h2' (by rcases kx with z|z;exact .inr (.inl z);exact .inr (.inr z))
  rcases l with ⟨l,_⟩|⟨_,c,e,z⟩
  ·rcases kx with z|z
   ·rw [l] at z;cases z
   ·rw [l] at z;cases z
  ·obtain ⟨c',e',e2⟩:=cK.free y q
   rw [e] at e2;cases e2
   obtain ⟨o,ho,hd⟩:=z
   exact ⟨u,r,.inr ⟨kd,c,e',o,hk _ _ ho,hd⟩⟩
 ·rcases cK.old y c h with z|z
  ·obtain ⟨v,o,ho,hd⟩:=I.cell y c z
   exact ⟨v,o,hk _ _ ho,hd⟩
  ·exact z.2
 ·have hp':p∈X.pn++bE:=by
   rcases KO.mp hp with z|z
   ·exact z
   ·cases z
  obtain ⟨e,n,ne,nf,d⟩:=I.pin p hp'
  exact ⟨hk _ _ e,n,KW (KF e),stk p.1 ne nf,d⟩
 ·show (σ++Vt k none).length=N'.length
  rw [Kj,VD,I.len,O.len]
theorem comp_back {σ σ':St}{H H':Hp}{s s1:Kh}{cl:aO}{C:Ke}(I:'&')(hf:∀ b∈fp,FpOk X bE H b)
  (J:Inv '-' [] σ' H' s1):Inv X bE σ H' s1 :=
 I.call' (ch:=fp) J.os J.base J.hok J.bare λb hb=>⟨(hf b hb).2.2.2.1,(hf b hb).2.1,(hf b hb).2.2.2.2.1,(hf b hb).2.2.2.2.2⟩
theorem Inv.track   {o:HO} (I:'&') (hn:H D=none) (hL:D≠X.env.locals) (h1:D∈X.ex\/X.s₀.heap.objs.size<=D) (h2:∀ x c,X.env.cells.lookup x=some c->c≠D) (h3:∀ p∈X.pn++bE,p.1≠D)
  (ok:Qw X.prog X.w (upd H D o) s.heap D o):Inv X bE σ (upd H D o) s:=by
 have ne:∀ b u,H b=some u->b≠D:=λb u e=>Qt e hn
 exact I.step (g':=s.gens) (d':=s.drawn) (t':=s.toks) (ch:=[D]) (h':=s.heap) (λb hb=>by
   have e:b=D:=by simpa using hb
   subst e
   exact ⟨h1,hL,h2,h3⟩) (λb o _ _ _ e _=>e) (λb o _ _ _ e _=>⟨o.slots,e⟩) (λb o hc e n=>by rw [qO (λz=>hc (by simp [z]))];exact n) (λb o _ e=>⟨o,e⟩)
  (λb xs e=>by rw [qO (ne b _ e)];exact e) (λb o u e=>by rw [qO (ne b _ e)];exact e) (λb ps e=>⟨#[],by rw [qO (ne b _ e),e];simp⟩) (λm hm=>hm) (λb u e=>by
   by_cases hb:b=D
   ·subst hb;rw [qU] at e;cases e;exact ok
   ·rw [qO hb] at e
    exact (I.hok b u e).stay (λc v _ q=>q) (λc q=>by rw [qO (ne c _ q)];exact q) λc xs q=>by rw [qO (ne c _ q)];exact q) I.bare
theorem qgn {bE:ag}{σ:St}{H:Hp}{s s':Kh}{cl:aO}{fp:aH}{m:ao}{it D:Ke}{tn:bw}{J:It}{R:bg}{Qd:List V->Hp->Prop}(O:CompOk X N' k sc)
  (I:'&') (cK:ClOk X sc cl s.heap.objs.size s'.heap) (hf:∀ b∈D::fp,FpOk X bE H b) (hlt:∀ b∈D::fp,b<s.heap.objs.size)
  (hos:s'.os=s.os) (hg:s'.gens=s.gens) (hk:∀ b o,s.heap.get? b=some o->s'.heap.get? b=some o) (hns:s'.heap.Ns s.heap.objs.size m)
  (T:Turn X.prog X.w X.K tg J fp it tn) (hDf:D∉fp) (st:tn 0 s'.heap) (hD:s'.heap.PlainList D #[])
  (pg:PG '1' tg wg) (hq:PTs '1' ifs tt) (he:PE '1' elt te)
  (W:Nat->Nat->List V->St->Hp->Prop) (m0:Nat) (w0:W 0 m0 [] (σ++Vt k none) H) (turn:∀ i m ys σ' H',W i m ys σ' H'->(J.stop i H'/\Qd ys H')\/(J.go i H'/\qja J wg tt te W i m ys σ' H'))
  (fin:∀ s1 H1 σ1 (ys:List V) (its:az),Inv '1' [] σ1 H1 s1->H1 D=none->s1.heap.PlainList D its.toArray->Vals ys its->ys.length<=bM->Qd ys H1->R (.ok .next) s1) :
  cA '*' X.A (.compLoop (.ListComp elt [⟨tg,iter,ifs,0⟩] sc pos) 0 (.ref it) (.ref D) (compEnvC sc cl s.heap.objs.size X.env)) R s':=by
 have I0:Inv '1' [] (σ++Vt k none) H s':=qhz O I cK hf hlt hos hg hk hns
 have stk:∀ b,b≠X.env.locals->b∉X.fs->b∉frs X.stack:=λb h1 h2 hb=>by
  rcases Kr.mp (I.stkSub b hb) with z|z
  ·exact h1 z
  ·exact h2 z
 have stat:∀ {H':Hp},(∀ b∈D::fp,H' b=none)->∀ b∈D::fp,FpOk '1' [] H' b:=λhn b hb =>
  ⟨hn b hb,KW (hlt b hb),stk b (hf b hb).2.1 (hf b hb).2.2.1,.inl hb,λz c e=>(cK.old z c e).elim ((hf b hb).2.2.2.2.1 z c) λw=>UC (Et (hlt b hb) w.1),λp hp=>by
   have hp':p∈X.pn++bE:=by
    rcases KO.mp hp with z|z
    ·exact z
    ·cases z
   exact (hf b hb).2.2.2.2.2 p hp'⟩
 have statF:∀ {H':Hp},(∀ b∈D::fp,H' b=none)->∀ b∈fp,FpOk '1' [] H' b:=λhn b hb=>stat hn b (Vw _ hb)
 refine qeN (λkk s1=>∃ i ys its σ' H',Inv '1' [] σ' H' s1/\tn i s1.heap/\(∀ b∈D::fp,H' b=none)/\s1.heap.PlainList D its.toArray/\Vals ys its/\ys.length<=bM/\W i kk ys σ' H') ?_ m0 ⟨0,[],[],σ++Vt k none,H,I0,st,λb hb=>(hf b hb).1,hD,.nil,Vh _,w0⟩
 rintro kk s3 ⟨i,ys,its,σ3,H3,I3,st3,fr3,pl3,rv3,hz3,w3⟩
 rcases turn i kk ys σ3 H3 w3 with ⟨stop,qn⟩|⟨go,step⟩
 ·have J3:=I3.pinned (fp:=[D]) (λb hb=>by
   have e:b=D:=by simpa using hb
   subst e
   exact stat fr3 b VI) (λb hb=>by
   have e:b=D:=by simpa using hb
   subst e
   obtain ⟨n,e⟩:=pl3
   exact ⟨_,e,λv z=>by cases z⟩)
  have fpo:∀ b∈fp,FpOk '1' ([]++jq [D] s3.heap) H3 b:=λb hb=>by
   obtain ⟨a1,a2,a3,a4,a5,a6⟩:=statF fr3 b hb
   refine ⟨a1,a2,a3,a4,a5,λp hp=>?_⟩
   rcases KO.mp hp with z|z
   ·exact a6 p (KM _ z)
   ·have z':p∈jq [D] s3.heap:=by simpa using z
    have:=(WL z').1
    have e:p.1=D:=by simpa using this
    rw [e]
    intro z2
    subst z2
    exact hDf hb
  refine thn (T.done '1' rfl rfl rfl O.calm i _ s3 σ3 H3 _ J3 fpo st3 stop) λr s4 ⟨hr,I4⟩=>?_
  subst hr
  obtain ⟨n,e⟩:=pl3
  have e4:=(I4.pin (D,_) (KG _ (KG _ (Z7 (by simp) e)))).1
  exact fin s4 H3 σ3 ys its I4.unpinned (fr3 D VI) ⟨n,e4⟩ rv3 hz3 qn
 ·have J3:=I3.pinned (fp:=[D]) (λb hb=>by
   have e:b=D:=by simpa using hb
   subst e
   exact stat fr3 b VI) (λb hb=>by
   have e:b=D:=by simpa using hb
   subst e
   obtain ⟨n,e⟩:=pl3
   exact ⟨_,e,λv z=>by cases z⟩)
  have fpo:∀ {H':Hp},(∀ b∈fp,H' b=none)->∀ b∈fp,FpOk '1' ([]++jq [D] s3.heap) H' b:=λ{H'} hn b hb=>by
   obtain ⟨_,a2,a3,a4,a5,a6⟩:=statF fr3 b hb
   refine ⟨hn b hb,a2,a3,a4,a5,λp hp=>?_⟩
   rcases KO.mp hp with z|z
   ·exact a6 p (KM _ z)
   ·have z':p∈jq [D] s3.heap:=by simpa using z
    have:=(WL z').1
    have e:p.1=D:=by simpa using this
    rw [e]
    intro z2
    subst z2
    exact hDf hb
  refine thn (T.item '1' rfl rfl rfl O.calm i _ s3 σ3 H3 _ J3 (fpo λb hb=>fr3 b (Vw _ hb)) st3 go) λr s4 ⟨u,hr,h4⟩=>?_
  subst hr
  refine thn h4 λ_ s5 ⟨y,H5,I5,r5,y5,st5,fr5⟩=>?_
  have I5':=I5.pinned (fpo fr5) (T.obj _ _ st5)
  have step':=step y H5 y5
  obtain ⟨n3,e3⟩:=pl3
  have dpin:∀ {σ7:St} {H7:Hp} {s7:Kh},Inv '1' ([]++jq [D] s3.heap++jq fp s5.heap) σ7 H7 s7->s7.heap.get? D=some { cls:=.type "list", data:=.seq its.toArray n3 }/\H7 D=none:=λ{σ7 H7 s7} I7=>by
   have q:=I7.pin (D,_) (KG _ (KM _ (KG _ (Z7 (by simp) e3))))
   exact ⟨q.1,q.2.1⟩
  have tkeep:∀ {σ7:St} {H7:Hp} {s7:Kh},Inv '1' ([]++jq [D] s3.heap++jq fp s5.heap) σ7 H7 s7->tn (i+1) s7.heap/\∀ b∈D::fp,H7 b=none:=λ{σ7 H7 s7} I7=>by
   refine ⟨T.keep _ _ _ st5 λb hb o e=>(I7.pin (b,o) (KG _ (KG _ (Z7 hb e)))).1,λb hb=>?_⟩
   rcases Kr.mp hb with rfl|hb
   ·exact (dpin I7).2
   ·obtain ⟨o,e,d⟩:=T.obj _ _ st5 b hb
    exact (I7.pin (b,o) (KG _ (KG _ (Z7 hb e)))).2.1
  refine thF (pg _ s5 σ3 H5 y u _ I5' r5 step') λ_ s6 ⟨σ6,H6,I6,step6⟩=>?_
  refine thF (hq _ s6 _ H6 _ I6 step6) λb s7 ⟨H7,I7,q7⟩=>?_
  cases b with
  | false =>
   simp only [VL,cm] at q7 ⊢
   obtain ⟨m',hm,w8⟩:=q7
   obtain ⟨t8,f8⟩:=tkeep I7
   exact ⟨m',hm,i+1,ys,its,_,H7,I7.unpinned.unpinned,t8,f8,⟨n3,(dpin I7).1⟩,rv3,hz3,w8⟩
  | true =>
   simp only [cw] at q7 ⊢
   refine thF (he _ s7 _ H7 _ I7 q7) λv s8 ⟨vv,H8,I8,r8,hz,m',hm,w8⟩=>?_
   have hlen:=rv3.length
   refine wpAny_list_append_plain ⟨n3,(dpin I8).1⟩ (λh9 pl9 sb9=>?_) (by rw [KA];omega)
   obtain ⟨t8,f8⟩:=tkeep I8
   have st8:=stat f8 D VI
   have I9:Inv '1' [] σ6 H8 { s8 with heap:=h9 } :=
    I8.unpinned.unpinned.turned (t':=s8.toks) (λb o hb e=>(sb9.2 b hb).trans e) st8.1 st8.2.1 st8.2.2.2.1 st8.2.2.2.2.1 st8.2.2.2.2.2
   refine ⟨m',hm,i+1,ys++[vv],its++[v],_,H8,I9,T.keep _ _ _ t8 λb hb o e=>(sb9.2 b (λz=>hDf (z ▸ hb))).trans e,f8,by simpa using pl9,rv3.append (.cons r8 .nil),?_,w8⟩
   rw [Kj,Kt]
   omega
theorem qaG {E:ah}{bE:ag}{σ:St}{H:Hp}{s:Kh}{cl:aO}{fp:aH}{it:Ke}{tn:bw}{J:It}{RR:Kc->Ke->Result->Kh->Prop}{Qd:V->Hp->Prop}(O:CompOk X N' k sc)
  (I:'&') (hcl1:∀ y c,cl.lookup y=some c->X.env.cells.lookup y=some c) (hcl2:∀ y,(y,Vq)∈sc.names->∃ c,cl.lookup y=some c) (hf:∀ b∈fp,FpOk X bE H b)
  (T:Turn X.prog X.w X.K tg J fp it tn) (st:tn 0 s.heap)
  (hg:∀ cl C fp bE s H,PG '-' tg wg) (hq:∀ cl C fp bE s H,PTs '-' ifs tt) (he:∀ cl C fp bE s H,PE '-' elt te)
  (turn:qjb k J wg tt te σ H Qd)
  (fin:∀ D C s1 H1 m,Inv X bE σ H1 s1->s1.heap.Ns C m->H1 C=none->C≠X.env.locals->(X.s₀.heap.objs.size<=C)->(∀ z c,X.env.cells.lookup z=some c->c≠C)->(∀ p∈X.pn++bE,p.1≠C)->Qd (.ref D) H1->RR (.ref D) C (.ok .next) s1) :
  bK '*' X.A (newList []) (λacc s₃=>bK '*' X.A (newFunctionEnv sc X.env.globals cl [] X.env.qual none .none (some X.env)) (λcenv s₄ =>
   cA '*' X.A (.compStart (.ListComp elt [⟨tg,iter,ifs,0⟩] sc pos) 0 (.ref it) acc { cenv with scope:=relabel sc X.env }) (RR acc cenv.locals) s₄) E s₃) E s:=by
 refine Vx (qkq ?_)
 dsimp only
 have hD:=I.hok.fresh (Kp s.heap.objs.size)
 have I3:Inv X bE σ H { s with heap:=s.heap.push { cls:=.type "list", dict:=none,data:=.seq ([]:List Kc).toArray } } :=
  I.kept (t':=s.toks) (λb u e=>Ki _ e)
 have fpl:∀ b∈fp,b<s.heap.objs.size:=λb hb=>by
  obtain ⟨o,e,_⟩:=T.obj _ _ st b hb
  exact KF e
 have fD:FpOk X bE H s.heap.objs.size:=I.fpOk (Kp _) hD
 have hf3:∀ b∈s.heap.objs.size::fp,FpOk X bE H b:=λb hb=>by
  rcases Kr.mp hb with rfl|hb
  ·exact fD
  ·exact hf b hb
 have eD:(s.heap.push { cls:=.type "list", dict:=none,data:=.seq ([]:List Kc).toArray }).get? s.heap.objs.size=some { cls:=.type "list", dict:=none,data:=.seq ([]:List Kc).toArray }:=Kx _ rfl
 generalize hH2:s.heap.push { cls:=.type "list", dict:=none,data:=.seq ([]:List Kc).toArray }=H2 at I3 eD ⊢
 have hC:H2.objs.size=s.heap.objs.size+1:=by rw [← hH2,Vo]
 have sz2:(H2.push { cls:=.type "dict", data:=.dict #[] }).objs.size=H2.objs.size+1:=Vo ..
 obtain ⟨a1,a2,a3,a4,a5⟩:=cf_ok H2.objs.size sc.names (H2.push { cls:=.type "dict", data:=.dict #[] }) cl (by omega) (λy c e q=>by
  obtain ⟨v,z⟩:=I3.cell y c (hcl1 y c e)
  exact K8 z.lt (by rw [sz2];exact UL _)) (λy z c q e1 e2=>I3.ok.inj y z c (hcl1 _ _ e1) (hcl1 _ _ e2))
 rw [sz2] at a1 a2 a3 a4 a5
 generalize hcl':cf (H2.objs.size+1) sc.names cl=cl' at a1 a2 a3 a4 a5 ⊢
 have old3:∀ b o,H2.get? b=some o->(cp (H2.push { cls:=.type "dict", data:=.dict #[] }) sc.names).get? b=some o:=λb o e=>EK _ _ _ _ (Ki _ e)
 have hns₁:(cp (H2.push { cls:=.type "dict", data:=.dict #[] }) sc.names).Ns H2.objs.size (λ_=>none):=(Heap.Ns.new H2 (.type "dict")).keeps (EK _ _)
 have cK:ClOk X sc cl' H2.objs.size (cp (H2.push { cls:=.type "dict", data:=.dict #[] }) sc.names):=by
  have fr:∀ y,sc.names.lookup y=some .free->∃ c,cl'.lookup y=some c/\X.env.cells.lookup y=some c:=λy e=>by
   obtain ⟨c,q⟩:=hcl2 y (Ui e)
   refine ⟨c,?_,hcl1 y c q⟩
   rw [a4 y λz=>by have:=O.cells _ z rfl;rw [e] at this;cases this]
   exact q
  have ol:∀ y c,cl'.lookup y=some c->X.env.cells.lookup y=some c\/(H2.objs.size<c/\∃ v,(cp (H2.push { cls:=.type "dict", data:=.dict #[] }) sc.names).IsCell c v):=λy c e=>by
   rcases a1 y c e with z|⟨z1,z2⟩
   ·exact .inl (hcl1 y c z)
   ·exact .inr ⟨by omega,none,z2⟩
  refine ⟨ol,fr,λy e=>?_,λy z c e1 e2=>?_⟩
  ·obtain ⟨c,q1,q2⟩:=a3 y (Ui e)
   exact ⟨c,q1,by omega⟩
  ·by_cases hc:H2.objs.size<=c
   ·exact a5 y z c hc e1 e2
   ·rcases ol y c e1 with q|q
    ·rcases ol z c e2 with r|r
     ·exact I3.ok.inj y z c q r
     ·omega
    ·omega
 generalize cp (H2.push { cls:=.type "dict", data:=.dict #[] }) sc.names=h₁ at *
 have old2:∀ b o,s.heap.get? b=some o->H2.get? b=some o:=λb o e=>hH2 ▸ Ki _ e
 obtain ⟨W,⟨m0,w0⟩,tr⟩:=turn
 have st1:tn 0 h₁:=T.keep _ _ _ st λb _ o e=>old3 b o (old2 b o e)
 have loop:cA '*' X.A (.compLoop (.ListComp elt [⟨tg,iter,ifs,0⟩] sc pos) 0 (.ref it) (.ref s.heap.objs.size) (compEnvC sc cl' H2.objs.size X.env)) (RR (.ref s.heap.objs.size) H2.objs.size)
   { s with heap:=h₁ }:=by
  refine qgn (s:={ s with heap:=H2 }) (s':={ s with heap:=h₁ }) (Qd:=λys H'=>∀ D,H' D=none->Qd (.ref D) (upd H' D (.lst ys))) O I3 cK hf3 (λb hb=>?_) rfl rfl old3 hns₁ T (λz=>Uc _ (fpl _ z)) st1 ⟨0,old3 _ _ eD⟩ (hg _ _ _ _ _ _) (hq _ _ _ _ _ _) (he _ _ _ _ _ _) W m0 w0 tr ?_
  ·show b<H2.objs.size
   rw [hC]
   rcases Kr.mp hb with hb|hb
   ·rw [hb];exact UE _
   ·exact Vm (fpl b hb)
  intro s1 H1 σ1 ys its J1 hD1 pl1 rv1 hz1 q1
  obtain ⟨m,hn1,_⟩:=J1.loc
  obtain ⟨n1,e1⟩:=pl1
  have I4:=(comp_back I3 hf3 J1).track (D:=s.heap.objs.size) (o:=.lst ys) hD1 fD.2.1 fD.2.2.2.1 fD.2.2.2.2.1 fD.2.2.2.2.2 ⟨hz1,its,n1,rv1,e1⟩
  refine fin _ _ s1 _ m I4 hn1 (by rw [qO (by show H2.objs.size≠s.heap.objs.size;omega)];exact J1.free) (UC I3.lt) I3.sz (λz c e h=>?_) (λp hp h=>?_) (q1 _ hD1)
  ·obtain ⟨v,q⟩:=I3.cell z c e
   have:=q.lt
   rw [h] at this
   exact Uc _ this
  ·have:=KF (I3.pin p hp).1
   rw [h] at this
   exact Uc _ this
 exact codeAny_compStart_list loop (T.self _ 0 _ _ _ st1 loop)
theorem qfX (O:CompOk X N' k sc)(hi:PI X tg iter wi)(hg:∀ cl C fp bE s H,PG '-' tg wg)(hq:∀ cl C fp bE s H,PTs '-' ifs tt)(he:∀ cl C fp bE s H,PE '-' elt te)
  (hs:∀ v,bR iter X.env v=pure v:=by intro _;rfl):PE X (.ListComp elt [⟨tg,iter,ifs,0⟩] sc pos) (qcd k wi wg tt te):=by
 intro bE s σ H Q I h
 rw [eval_ListComp]
 obtain ⟨cl,hcl,hcl1,hcl2⟩:=qaD (sc:=sc) (env:=X.env) (λy hy hf=>I.ok.has y.1 (O.free y hy hf))
 refine cS (use:=none) rfl hs hcl O.kind O.names ?_
 refine thn (hi bE s σ H _ I h) λv s1 h1=>thn h1 λitv s2 h2=>?_
 obtain ⟨it,fp,tn,J,H2,e,I2,T,st2,f2,q⟩:=h2
 subst e
 refine qaG (RR:=λacc C=>compPost '*' X.A X.xe none (EP X bE σ Q) acc C) (Qd:=Q) O I2 hcl1 hcl2 f2 T st2 hg hq he q ?_
 intro D C s3 H3 m I3 hn3 hC3 hL hsz hcl3 hp3 q3
 exact ⟨m,hn3,λh' sb=>⟨.ref D,H3,I3.turned (t':=s3.toks) (λb o hb e=>(sb.2 b hb).trans e) hC3 hL (.inr hsz) hcl3 hp3,rfl,q3⟩⟩
theorem qf6 {py spos:Pos}(O:CompOk X N' k sc)(hj:X.N[j]?=some y)(hy:X.env.scope.names.lookup y=some .local)(hi:PI X tg iter wi)(hg:∀ cl C fp bE s H,PG '-' tg wg)(hq:∀ cl C fp bE s H,PTs '-' ifs tt)(he:∀ cl C fp bE s H,PE '-' elt te)
  (hsw:bZ (.ListComp elt [⟨tg,iter,ifs,0⟩] sc pos) (some (.Name y py)) spos.line X.env=pure true:=by rfl)
  (hs:∀ v,bR iter X.env v=pure v:=by intro _;rfl):PS X (.Assign [.Name y py] (.ListComp elt [⟨tg,iter,ifs,0⟩] sc pos) spos) (tAsg (qcd k wi wg tt te) (qfy j)):=by
 intro bE s σ H D I h
 rw [exec_Assign_Name_used _ _ _ _ hsw]
 refine Kd (wpAny_standAt (Kd ?_))
 show bK _ X.A (do let _ ← comprehension (.ListComp elt [⟨tg,iter,ifs,0⟩] sc pos) sc X.env _ (newList []) false (eval iter X.env) (some (assign (.Name y py) X.env))) _ _ s
 obtain ⟨cl,hcl,hcl1,hcl2⟩:=qaD (sc:=sc) (env:=X.env) (λy hy hf=>I.ok.has y.1 (O.free y hy hf))
 refine Kd (Uj (cS (use:=some (assign (.Name y py) X.env)) (Q:=λ_ s'=>SP X bE D .next s') rfl hs hcl O.kind O.names ?_) (λ_ s' hq=>Kn (Kn hq)) λ_ _ e=>e)
 refine thn (hi bE s σ H _ I h) λv s1 h1=>thn h1 λitv s2 h2=>?_
 obtain ⟨it,fp,tn,J,H2,e,I2,T,st2,f2,q⟩:=h2
 subst e
 refine qaG (RR:=λacc C=>compPost '*' X.A X.xe (some (assign (.Name y py) X.env)) (λ_ s'=>SP X bE D .next s') acc C) (Qd:=λx H1=>qfy j x σ H1 D.nx) O I2 hcl1 hcl2 f2 T st2 hg hq he q ?_
 intro B C s3 H3 m I3 hn3 hC3 hL hsz hcl3 hp3 q3
 refine wpAny_assign_Name (qcc I3 O.nd hj (.inl hy) (v:=.ref B) rfl (λs4 I4 ⟨a,sb,ha⟩=>?_) (.inr hy))
 have hCa:C≠a:=by
  rcases ha with ha|ha
  ·rw [ha];exact hL
  ·exact Ul (hcl3 _ _ ha)
 refine ⟨m,hn3.sameBut sb hCa,λh' sb'=>⟨_,H3,I4.turned (t':=s4.toks) (λb o hb e=>(sb'.2 b hb).trans e) hC3 hL (.inr hsz) hcl3 hp3,q3⟩⟩
end
noncomputable abbrev K2:=List (Int ⊕ List Int)
abbrev aZ:=List (K2×Addr×Value)
def k2D (k:Int ⊕ List Int):Ka:=match k with
 | .inl i=>.int i
 | .inr js=>.tuple (js.map .int)
def k2T (ks:K2):Ka:=.tuple (ks.map k2D)
def k2H (k:Int ⊕ List Int):Int:=match k with
 | .inl i=>cO i
 | .inr js=>cX (VG (js.map cO))
def k2N (k:Int ⊕ List Int):Nat:=match k with
 | .inl _=>1
 | .inr js=>js.length+1
theorem qaa:∀ {a b:aA},a.map Km=b.map Km->a=b
 | [],[],_=>rfl
 | [],_::_,e=>by simp at e
 | _::_,[],e=>by simp at e
 | x::xs,y::ys,e=>by
  rw [Ku,Ku] at e
  injection e with e1 e2
  injection e1 with e1
  rw [e1,qaa e2]
theorem qj9 (e:k2D a=k2D b):a=b:=by
 cases a with
 | inl i=>cases b with
  | inl j=>injection (show Km i=Km j from e) with e;rw [e]
  | inr js=>cases (show Km i=Vk _ from e)
 | inr is=>cases b with
  | inl j=>cases (show Vk _=Km j from e)
  | inr js=>injection (show Vk (is.map .int)=Vk (js.map .int) from e) with e;rw [qaa e]
theorem qdG:∀ {a b:K2},a.map k2D=b.map k2D->a=b
 | [],[],_=>rfl
 | [],_::_,e=>by simp at e
 | _::_,[],e=>by simp at e
 | x::xs,y::ys,e=>by
  rw [Ku,Ku] at e
  injection e with e1 e2
  rw [qj9 e1,qdG e2]
theorem qka (e:k2T a=k2T b):a=b:=by
 injection (show Vk (a.map k2D)=Vk (b.map k2D) from e) with e
 exact qdG e
theorem qht (ns:aA):Kq (ns.map .int)=true/\KI (ns.map .int)=0:=by
 induction ns with
 | nil=>exact ⟨rfl,rfl⟩
 | cons n ns ih=>exact ⟨ih.1,by show max 0 (KI (ns.map .int))=0;rw [ih.2];rfl⟩
theorem qhu (ks:K2):Kq (ks.map k2D)=true/\KI (ks.map k2D)<=1:=by
 induction ks with
 | nil=>exact ⟨rfl,Vh _⟩
 | cons k ks ih =>
  have hk:(k2D k).canLay0=true/\(k2D k).depth<=1:=by
   cases k with
   | inl i=>exact ⟨rfl,Vh _⟩
   | inr js=>exact ⟨(qht js).1,by show KI (js.map .int)+1<=1;rw [(qht js).2];exact Kp _⟩
  refine ⟨?_,?_⟩
  ·show ((k2D k).canLay0&&Kq (ks.map k2D))=true
   rw [hk.1,ih.1];rfl
  ·show max (k2D k).depth (KI (ks.map k2D))<=1
   exact Nat.max_le.mpr ⟨hk.2,ih.2⟩
theorem qah (ks:K2):(k2T ks).canLay0=true/\(k2T ks).depth<=2:=⟨(qhu ks).1,Es (qhu ks).2⟩
def Is2 (h:KS)(ks:K2)(a:Ke):Prop:=∃ as,UN h (.ref a) (k2T ks) as
section
variable {prog:KJ}{w:KZ}{A:K0}{E:ah}{s:Kh}
def Wq (prog:KJ)(w:KZ)(A:K0)(h:KS)(v:Kc)(p:Int×Nat):Prop :=
 ∀ (E:ah) (s:Kh) (Q:Int->Kh->Prop),s.heap=h->Q p.1 { s with toks:=s.toks+p.2 }->bK ',' A (pyHash v) Q E s
theorem qdA {o:Obj}  {hs:List (Int×Nat)} {Q:Int->Kh->Prop} (hu:A.units<cg) (ho:s.heap.get? a=some o) (hc:o.cls=.type "tuple") (hd:o.data=.seq items n)
  (hi:VP (Wq prog w A.in1 s.heap) items.toList hs) (h:Q (cX (VG (hs.map (·.1)))) { s with toks:=s.toks+((hs.map (·.2)).sum+1) }):bK ',' A (pyHash (.ref a)) Q E s:=by
 have hT:s.TypeIs (.ref a) "tuple" := ⟨o,ho,hc⟩
 unfold pyHash
 first|unfold pyHashByItsType|skip
 first|exact Kd (wpAny_cRoomFor_or (.inr hu) ?_)|skip
 first|refine Kd (wpAny_cRoomFor_or (.inr hu) (Kd (Xt hT XA.lookup ?_)))|refine Kd (Xt hT XA.lookup (id ?_))
 refine (id ?_:bK _ _ (if (some (VU "tuple.__hash__")==some VE)=true then _ else _) Q E s)
 rw [bJ (λz=>by rw [beq_builtin_none] at z;cases z)]
 refine Kd (Xt hT XA.lookup (id ?_:bK _ _ (callSpecialIfBoundUnlessNone? (.ref a) "__hash__" _ >>= _) Q E s))
 refine Kd (wpAny_callSpecialIfBoundUnlessNone?_slot hT XA (V4 XA hT F.entry_tuple_hash (?_:bK _ _ (N7 (.ref a) >>= _) _ _ s) (F.args_tuple_hash_1 _)))
 refine Kd (wpAny_tupleItemsOf ho hd (Kd ?_))
 rw [← Array.forIn_toList]
 refine XH _ (λrest (b:Array Int) s'=>∃ done left,hs=done++left/\VP (Wq prog w A.in1 s.heap) rest left/\b.toList=done.map (·.1)/\s'={ s with toks:=s.toks+(done.map (·.2)).sum }) _ ?_ ?_ _ _ ⟨[],hs,rfl,hi,rfl,rfl⟩
 ·rintro x rest b s' ⟨done,left,rfl,hl,hb,rfl⟩
  cases hl with
  | @cons _ p _ ps h1 hl' =>
   refine Kd (h1 _ _ _ rfl ?_)
   first
    | exact Kn ⟨done++[p],ps,by simp,hl',by simp [hb],by simp [N8]⟩
    | exact Kd (Kn (Kn ⟨done++[p],ps,by simp,hl',by simp [hb],by simp [N8]⟩))
 ·rintro b s' ⟨done,left,rfl,hl,hb,rfl⟩
  cases hl
  rw [VM] at h
  refine (id ?_:bK _ _ (retInt (VG b.toList)) _ _ _)
  rw [hb]
  refine wpAny_ret_mkInt (id ?_:bK _ _ (if (decide (-(2:Int) ^ 63<=VG (done.map (·.1)))&&decide (VG (done.map (·.1))<2 ^ 63))=true then _ else _) Q E _)
  unfold cX at h
  by_cases hr:(decide (-(2:Int) ^ 63<=VG (done.map (·.1)))&&decide (VG (done.map (·.1))<2 ^ 63))=true
  ·rw [bI hr] at h ⊢
   exact Kn (by simpa [N8] using h)
  ·rw [bJ hr] at h ⊢
   exact Kd (wpAny_rule (Kn (by simpa [N8] using h)))
theorem qdz (i:Int)(t:Tok):Wq prog w A h (.int i t) (cO i,1):=λ_ _ _ _ q=>wpAny_pyHash_int q
theorem qbV:∀ {vs:az} {ns:aA} {as:aH},V5 h vs (ns.map .int) as->VP (Wq prog w A h) vs (ns.map λi=>(cO i,1))
 | _,[],_,r=>by cases r;exact .nil
 | _,n::ns,_,r=>by
  cases r with
  | cons a t=>cases a;exact .cons (qdz _ _) (qbV t)
theorem qi8 (ns:aA):((ns.map λi=>(cO i,1)).map (·.2)).sum=ns.length:=by
 induction ns with
 | nil=>rfl
 | cons n ns ih=>rw [Ku,Ku,List.sum_cons,ih,Kw];omega
theorem qgu  (hu:A.units<cg) (r:UN h v (k2D k) as):Wq prog w A h v (k2H k,k2N k):=by
 cases k with
 | inl i =>
  cases (show UN h v (.int i) as from r)
  exact qdz _ _
 | inr js =>
  cases (show UN h v (.tuple (js.map .int)) as from r) with
  | tuple h1 h2 h3 h4 =>
   intro E s Q e q
   subst e
   refine qdA hu h1 h2 h3 (qbV h4) ?_
   have e:(js.map λi=>(cO i,1)).map (·.1)=js.map cO:=by rw [Vj];rfl
   rw [e,qi8]
   exact q
theorem W6 (hu:A.units<cg):∀ {vs:az} {ks:K2} {as:aH},V5 h vs (ks.map k2D) as->VP (Wq prog w A h) vs (ks.map λk=>(k2H k,k2N k))
 | _,[],_,r=>by cases r;exact .nil
 | _,k::ks,_,r=>by
  cases r with
  | cons a t=>exact .cons (qgu hu a) (W6 hu t)
theorem qga   (r:UN h v (.int i) as):cU n v=pure true:=by
 cases r
 cases n<;>rfl
theorem qca {m:Nat}{o:Obj}  {Q:Bool->Kh->Prop} (ho:s.heap.get? a=some o) (hc:o.cls=.type "tuple") (hd:o.data=.seq items n)
  (hi:∀ v∈items.toList,∀ Q':Bool->Kh->Prop,Q' true s->bK ',' A (cU m v) Q' E s) (h:Q true s):bK ',' A (cU (m+1) (.ref a)) Q E s:=by
 have hT:s.TypeIs (.ref a) "tuple" := ⟨o,ho,hc⟩
 unfold cU
 refine Kd (Xt hT F.slot_tuple_eq.lookup (?_:bK _ _ (isInstance (.ref a) (.type "tuple") >>= _) _ _ s))
 refine Kd (Eu hT isSubtype_tuple_tuple (id ?_))
 simp only [E7,cm,VL]
 refine Kd (Ut ho hd (Kd (?_:bK _ _ (forIn items _ _) _ _ s)))
 rw [← Array.forIn_toList]
 refine XH _ (λrest r s'=>r.1=none/\s'=s/\∀ v∈rest,∀ Q':Bool->Kh->Prop,Q' true s->bK ',' A (cU m v) Q' E s) _ ?_ ?_ _ _ ⟨rfl,rfl,hi⟩
 ·rintro v rest r s' ⟨hr,rfl,hall⟩
  refine Kd (hall v VI _ ?_)
  simp only [E7,cm,VL]
  exact Kn ⟨rfl,rfl,λu hu'=>hall u (Vw _ hu')⟩
 ·rintro ⟨r1,r2⟩ s' ⟨hr,rfl,_⟩
  simp only at hr
  subst hr
  exact Kn h
theorem Jg:∀ {vs:az} {ds:ae} {as:aH},V5 h vs ds as->∀ v∈vs,∃ d∈ds,∃ bs,UN h v d bs
 | _,_,_,.nil,v,hv=>by cases hv
 | _,_,_,.cons r t,v,hv=>by
  rcases Kr.mp hv with rfl|hv
  ·exact ⟨_,.head _,_,r⟩
  ·obtain ⟨d,hd,bs,q⟩:=Jg t v hv
   exact ⟨d,.tail _ hd,bs,q⟩
theorem Is2.quiet  (x:Is2 s.heap ks a) (h:Q true s):bK ',' A (cU 8 (.ref a)) Q E s:=by
 obtain ⟨as,r⟩:=x
 cases r with
 | tuple h1 h2 h3 h4 =>
  refine qca h1 h2 h3 (λv hv Q' q=>?_) h
  obtain ⟨d,hd,bs,rv⟩:=Jg h4 v hv
  obtain ⟨k,_,rfl⟩:=K3.mp hd
  cases k with
  | inl i=>rw [qga (show UN s.heap v (.int i) bs from rv)];exact Kn q
  | inr js =>
   cases (show UN s.heap v (.tuple (js.map .int)) bs from rv) with
   | tuple g1 g2 g3 g4 =>
    refine qca g1 g2 g3 (λu hu Q2 q2=>?_) q
    obtain ⟨d,hd,cs,ru⟩:=Jg g4 u hu
    obtain ⟨i,_,rfl⟩:=K3.mp hd
    rw [qga ru]
    exact Kn q2
theorem Is2.inj  (hx:Is2 h x a) (hy:Is2 h y a):x=y:=by
 obtain ⟨as,r⟩:=hx
 obtain ⟨bs,q⟩:=hy
 exact qka (SeqAt.Reads.unique _ _ _ _ _ (qah x).1 r q)
theorem Wg {h h':KS}(k:∀ b o,b≠d->h.get? b=some o->h'.get? b=some o):∀ {vs:az} {ns:aA} {as:aH},V5 h vs (ns.map .int) as->V5 h' vs (ns.map .int) as
 | _,[],_,r=>by cases r;exact .nil
 | _,n::ns,_,r=>by
  cases r with
  | cons a t=>cases a;exact .cons (.int _ _) (Wg k t)
theorem Is2.keeps {h h':KS}  {o:Obj}  (x:Is2 h ks a) (ho:h.get? d=some o) (hd:o.data=.dict es ep) (hs:UB d h h'):Is2 h' ks a:=by
 have k:∀ b o,b≠d->h.get? b=some o->h'.get? b=some o:=λb o hb e=>(hs.2 b hb).trans e
 have ne:∀ {b:Ke} {ob:Obj} {items:aT} {n:Nat},h.get? b=some ob->ob.data=.seq items n->b≠d:=λe q z=>by
  subst z
  rw [ho] at e
  cases e
  rw [hd] at q
  cases q
 have item:∀ {vs:az} {ks:K2} {as:aH},V5 h vs (ks.map k2D) as->V5 h' vs (ks.map k2D) as:=by
  intro vs ks
  induction ks generalizing vs with
  | nil=>intro as r;cases r;exact .nil
  | cons k1 ks ih =>
   intro as r
   cases r with
   | cons a t =>
    refine .cons ?_ (ih t)
    cases k1 with
    | inl i=>cases (show UN h _ (.int i) _ from a);exact .int _ _
    | inr js =>
     cases (show UN h _ (.tuple (js.map .int)) _ from a) with
     | tuple g1 g2 g3 g4=>exact .tuple (k _ _ (ne g1 g3) g1) g2 g3 (Wg k g4)
 obtain ⟨as,r⟩:=x
 cases r with
 | tuple h1 h2 h3 h4=>exact ⟨_,.tuple (k _ _ (ne h1 h3) h1) h2 h3 (item h4)⟩
theorem qdq:∀ a b:List Int,Kv (.tuple (a.map .int)) (.tuple (b.map .int))=decide (a=b)
 | [],[]=>rfl
 | [],_::_=>rfl
 | _::_,[]=>rfl
 | x::xs,y::ys=>by
  have:Kv (.tuple ((x::xs).map .int)) (.tuple ((y::ys).map .int))=((x==y)&&Kv (.tuple (xs.map .int)) (.tuple (ys.map .int))):=rfl
  rw [this,qdq xs ys,Xu]
  simp
theorem qjS (a b:Int ⊕ List Int):Kv (k2D a) (k2D b)=decide (a=b):=by
 cases a with
 | inl i=>cases b with
  | inl j =>
   have:Kv (k2D (.inl i)) (k2D (.inl j))=(i==j):=rfl
   rw [this,Xu]
   simp
  | inr js=>exact (bH (λz=>by cases z)).symm
 | inr is=>cases b with
  | inl j=>exact (bH (λz=>by cases z)).symm
  | inr js =>
   have:Kv (k2D (.inr is)) (k2D (.inr js))=Kv (.tuple (is.map .int)) (.tuple (js.map .int)):=rfl
   rw [this,qdq,Xu]
   simp
theorem qcp:∀ a b:K2,Kv (k2T a) (k2T b)=decide (a=b)
 | [],[]=>rfl
 | [],_::_=>rfl
 | _::_,[]=>rfl
 | x::xs,y::ys=>by
  have:Kv (k2T (x::xs)) (k2T (y::ys))=(Kv (k2D x) (k2D y)&&Kv (k2T xs) (k2T ys)):=rfl
  rw [this,qjS,qcp xs ys,Xu]
  simp
end
def qdN (prog:KJ)(w:KZ):HeapKind prog w K2 where
 is:=Is2
 hash:=λks=>cX (VG (ks.map k2H))
 draws:=λks=>((ks.map λk=>(k2H k,k2N k)).map (·.2)).sum+1
 room:=λA=>A.units+3<cg
 inj:=λhx hy=>hx.inj hy
 keeps:=λx ho hd hs=>x.keeps ho hd hs
 pyHash:=λ{A E s k a Q} hu hk h=>by
  obtain ⟨as,r⟩:=hk
  cases r with
  | tuple h1 h2 h3 h4 =>
   have hu1:A.in1.units<cg:=by show A.units+1<cg;omega
   refine qdA (by omega) h1 h2 h3 (W6 hu1 h4) ?_
   have e:(k.map λx=>(k2H x,k2N x)).map (·.1)=k.map k2H:=by rw [Vj];rfl
   rw [e]
   exact h
 eqBool:=λ{A E s x y a b Q} hu hx hy h=>by
  obtain ⟨as,r⟩:=hx
  obtain ⟨bs,q⟩:=hy
  refine Nl _ _ A s _ _ _ _ r q (qah x).1 (qah y).1 ?_ prog w E Q (by rw [qcp];exact h)
  have:=(qah x).2
  have:=ND (k2T x).depth (k2T y).depth
  omega
 quiet:=λhk h=>hk.quiet h
def qmk (ks:K2):Int:=cX (VG (ks.map k2H))
abbrev KX:=Int ⊕ K2
def kxD (k:KX):Ka:=match k with
 | .inl i=>.int i
 | .inr ks=>k2T ks
def kxV (k:KX)(b:Ke):V:=match k with
 | .inl i=>.int i
 | .inr _=>.ref b
def kxI (k:KX):Bool:=match k with
 | .inl _=>true
 | .inr _=>false
def qhT:Ka->Bool
 | .int _=>true
 | _=>false
theorem qez (k:KX):qhT (kxD k)=kxI k:=by cases k<;>rfl
theorem qcq (a b:KX):Kv (kxD a) (kxD b)=decide (a=b):=by
 cases a with
 | inl i=>cases b with
  | inl j =>
   have:Kv (kxD (.inl i)) (kxD (.inl j))=(i==j):=rfl
   rw [this,Xu]
   simp
  | inr js=>exact (bH (λz=>by cases z)).symm
 | inr is=>cases b with
  | inl j=>exact (bH (λz=>by cases z)).symm
  | inr js =>
   have:Kv (kxD (.inr is)) (kxD (.inr js))=Kv (k2T is) (k2T js):=rfl
   rw [this,qcp,Xu]
   simp
abbrev PkT (p:KX×Addr×V)(q:K2×Addr×Value):Prop:=p.1=.inr q.1/\p.2.1=q.2.1/\RelV p.2.2 q.2.2
abbrev PkI (p:KX×Addr×V)(q:Int×Value):Prop:=p.1=.inl q.1/\RelV p.2.2 q.2
abbrev EnI (e:Xp)(q:Int×Value):Prop:=e.hash=cO q.1/\(∃ t,e.key=.int q.1 t)/\e.val=q.2
def DctT (a:Ke)(kvs:'4')(ep:Nat)(h:KS):Prop :=
 ∃ xs:List (K2×Addr×Value),VP PkT kvs xs/\∃ o es,h.get? a=some o/\o.ExactDict/\o.data=.dict es ep/\es.toList=xs.map (λx=>(⟨qmk x.1,.ref x.2.1,x.2.2⟩:Xp))/\(xs.map (·.1)).Nodup
def DctI (a:Ke)(kvs:'4')(ep:Nat)(h:KS):Prop :=
 ∃ vs:List (Int×Value),VP PkI kvs vs/\∃ o es,h.get? a=some o/\o.ExactDict/\o.data=.dict es ep/\VP EnI es.toList vs/\(vs.map (·.1)).Nodup
def QJ (a:Ke)(kvs:'4')(ep:Nat)(h:KS):Prop :=
 kvs.length<=bM/\(a==cB)=false/\(DctT a kvs ep h\/DctI a kvs ep h)
def DctO (a:Ke)(kvs:'4')(ep:Nat):HO:=.ext (QJ a kvs ep)
theorem QJ.ok    (d:QJ a kvs ep h):Qw P w H h a (DctO a kvs ep):=by
 refine ⟨d,?_,λh1 h2 ⟨z,y,e⟩ k=>⟨z,y,e.imp (λ⟨xs,r,o,es,g1,g2⟩=>⟨xs,r,o,es,k o g1,g2⟩) λ⟨xs,r,o,es,g1,g2⟩=>⟨xs,r,o,es,k o g1,g2⟩⟩⟩
 obtain ⟨_,_,⟨_,_,o,_,g1,_⟩|⟨_,_,o,_,g1,_⟩⟩:=d
 ·exact ⟨o,g1⟩
 ·exact ⟨o,g1⟩
theorem QJ.of    (x:Qw P w H h a (DctO a kvs ep)):QJ a kvs ep h:=x.1
def dkv (kvs:'4')(ds:ae):List (Ka×PyData):=(kvs.map λp=>kxD p.1).zip ds
theorem qhF {kvs:'4'}{ds:ae}(h:kvs.length=ds.length):(dkv kvs ds).map (·.1)=kvs.map λp=>kxD p.1:=by
 unfold dkv
 rw [List.map_fst_zip (by rw [Kf,h];exact Kp _)]
theorem qiO {kvs:'4'}{xs:aZ}(r:VP PkT kvs xs):Vals (kvs.map λp=>kxV p.1 p.2.1) (xs.map λx=>Vd x.2.1)/\Vals (kvs.map (·.2.2)) (xs.map (·.2.2)):=by
 induction r with
 | nil=>exact ⟨.nil,.nil⟩
 | cons h t ih=>exact ⟨.cons (by dsimp only;rw [h.1,h.2.1];rfl) ih.1,.cons h.2.2 ih.2⟩
theorem qeb:∀ {kvs:'4'} {vs:aW} {es:List Xp},VP PkI kvs vs->VP EnI es vs->Vals (kvs.map λp=>kxV p.1 p.2.1) (es.map (·.key))/\Vals (kvs.map (·.2.2)) (es.map (·.val))
 | _,_,_,.nil,.nil=>⟨.nil,.nil⟩
 | _,_,_,.cons h t,.cons g u=>by
  obtain ⟨i1,i2⟩:=qeb t u
  obtain ⟨_,⟨tk,g1⟩,g2⟩:=g
  exact ⟨.cons (by dsimp only;rw [h.1,g1];exact ⟨tk,rfl⟩) i1,.cons (by dsimp only;rw [g2];exact h.2) i2⟩
theorem QJ.vals {h:KS}{kvs:'4'}(d:QJ a kvs ep h):∃ o es,h.get? a=some o/\o.ExactDict/\o.data=.dict es ep/\Vals (kvs.map λp=>kxV p.1 p.2.1) (es.toList.map (·.key))/\Vals (kvs.map (·.2.2)) (es.toList.map (·.val)):=by
 obtain ⟨_,_,⟨xs,r,o,es,g1,g2,g3,g4,_⟩|⟨vs,r,o,es,g1,g2,g3,g4,_⟩⟩:=d
 ·refine ⟨o,es,g1,g2,g3,?_⟩
  rw [g4,Vj,Vj]
  exact qiO r
 ·exact ⟨o,es,g1,g2,g3,qeb r g4⟩
theorem QJ.tup  (d:QJ a kvs ep h) (hk:∀ p∈kvs,kxI p.1=false):DctT a kvs ep h:=by
 obtain ⟨_,_,d|⟨vs,r,o,es,g1,g2,g3,g4,g5⟩⟩:=d
 ·exact d
 ·cases r with
  | nil =>
   have he:es.toList=[]:=by cases h:es.toList with
    | nil=>rfl
    | cons=>rw [h] at g4;cases g4
   exact ⟨[],.nil,o,es,g1,g2,g3,he,X6⟩
  | @cons p q _ _ h t =>
   have:=hk p (.head _)
   rw [h.1] at this
   cases this
theorem QJ.int  (d:QJ a kvs ep h) (hk:∀ p∈kvs,kxI p.1=true):DctI a kvs ep h:=by
 obtain ⟨_,_,⟨xs,r,o,es,g1,g2,g3,g4,g5⟩|d⟩:=d
 ·cases r with
  | nil=>exact ⟨[],.nil,o,es,g1,g2,g3,by rw [g4];exact .nil,X6⟩
  | @cons p q _ _ h t =>
   have:=hk p (.head _)
   rw [h.1] at this
   cases this
 ·exact d
def wQ:List String:=["int", "bool", "tuple", "list", "str"]
noncomputable def xcB (K:Kb)(C:Ke):Bool :=
 (PySem.W.clsIn K C).isSome&&(Vy K (.ref C) "__getattribute__" == some (some (.builtin "BaseException.__getattribute__")))&&(Vy K (.ref C) "__getattr__" == some none)
 && (Vy K (.ref C) "__class__" == some (some (.builtin "object.__class__")))&&(Xn K C (.type "object")==some true)&&(Xn K C (.type "BaseException")==some true)
 && wQ.all λT=>VB K (.ref C) (.type T)==some false
structure XcK (K:Kb)(C:Ke):Prop where
 cls:(PySem.W.clsIn K C).isSome=true
 ga:Vy K (.ref C) "__getattribute__" = some (some (.builtin "BaseException.__getattribute__"))
 gt:Vy K (.ref C) "__getattr__" = some none
 cl:Vy K (.ref C) "__class__" = some (some (.builtin "object.__class__"))
 mo:Xn K C (.type "object")=some true
 mb:Xn K C (.type "BaseException")=some true
 ts:∀ T∈wQ,VB K (.ref C) (.type T)=some false
theorem qjp {K:Kb}{C:Ke}(h:xcB K C=true):XcK K C:=by
 unfold xcB at h
 simp only [KD,cv,Vg] at h
 obtain ⟨⟨⟨⟨⟨⟨h1,h2⟩,h3⟩,h4⟩,h5⟩,h6⟩,h7⟩:=h
 exact ⟨h1,h2,h3,h4,h5,h6,h7⟩
section
variable {prog:KJ}{w:KZ}{A:K0}{E:ah}{s:Kh}{K:Kb}{x C:Ke}
def OfC (h:KS)(x C:Ke):Prop:=∃ o,h.get? x=some o/\o.cls=.ref C
theorem OfC.ty (I:OfC h x C):Em M h (typeOf (.ref x)) (.ref C):=by
 obtain ⟨o,h1,h2⟩:=I
 exact h2 ▸ (PySem.W.Looks.ld h1).andThen .now
open PySem.W in
theorem qcs {M:Model}{nameV:Kc}(Z:XcK K C)(X:K.In s.heap)(I:OfC s.heap x C)(hq:Q () s) :
  bK M A (checkBuiltinCall "BaseException.__getattribute__" ⟨[.ref x,nameV],[]⟩) Q E s:=by
 obtain ⟨hh,g,d,t,os⟩:=s
 have hk:builtinKind "BaseException.__getattribute__" = some .slot:=by decide +kernel
 have hs:splitId "BaseException.__getattribute__" = some ("BaseException", "__getattribute__"):=by decide +kernel
 have L0:=I.ty (M:=M)
 have L1:=looks_mroIn (M:=M) X Z.mb
 have ha:=F.args_bexc_ga (.ref x) nameV
 simp only [checkBuiltinCall,hk,hs]
 refine Kd ?_
 unfold isInstance
 repeat (first|with_reducible refine Looks.at (by assumption) ?_|wp_step)
 exact hq
open PySem.W in
theorem qbz (Z:XcK K C)(X:K.In s.heap)(I:OfC s.heap x C)(hq:R (.ok (.ret (.ref C))) s) :
  cA ',' A (.call (.builtin "getset_descriptor.__get__") ⟨[.builtin "object.__class__", .ref x,.ref C],[]⟩) R s:=by
 obtain ⟨hh,g,d,t,os⟩:=s
 have hT5:(⟨hh,g,d,t,os⟩:Kh).TypeIs (.builtin "object.__class__") "getset_descriptor" := Nv
 have L0:=I.ty (M:=model prog w)
 have L1:Em ',' hh (isSubtype (.ref C) (.type (".".intercalate ("object.__class__".cutAt '.').dropLast))) true:=by
  rw [F.owner_object_class]
  exact looks_mroIn (M:=model prog w) X Z.mo
 refine NF E8.plain F.entry_gs_get (E8.check _ _ _ _ _ _ _ _ hT5 (F.args_gs_get _ _ _) ?_)
 repeat (any_goals (first|assumption|with_reducible refine Looks.at (by assumption) ?_|wp_step))
 refine ⟨Code.quiet_builtin _ (by decide +kernel),Uz F.entry_object_class ?_⟩
 repeat (any_goals (first|assumption|with_reducible refine Looks.at (by assumption) ?_|wp_step))
open PySem.W in
theorem qad {tk:Tok}(Z:XcK K C)(X:K.In s.heap)(I:OfC s.heap x C)(hq:Q (.done (.ret (.ref C))) s) :
  bK ',' A (UQ.«object.__getattribute__» ⟨[.ref x,.str "__class__" tk],[]⟩) Q E s:=by
 obtain ⟨hh,g,d,t,os⟩:=s
 have hT5:(⟨hh,g,d,t,os⟩:Kh).TypeIs (.builtin "object.__class__") "getset_descriptor" := Nv
 have L0:=I.ty (M:=model prog w)
 have L1:=NR (M:=model prog w) X Z.cl
 have f5:=Nv;have f6:=E8.lookup;have f7:=F.slot_gs_set.lookup
 repeat (any_goals (first|assumption|with_reducible refine Looks.at (by assumption) ?_|wp_step))
 refine qbz Z X I ?_
 repeat (any_goals (first|assumption|wp_step))
open PySem.W in
theorem qcr {tk:Tok}(Z:XcK K C)(X:K.In s.heap)(I:OfC s.heap x C)(hq:Q (.ref C) s) :
  bK ',' A (getAttrBy (.ref x) (.str "__class__" tk) false) Q E s:=by
 obtain ⟨hh,g,d,t,os⟩:=s
 have L0:=I.ty (M:=model prog w)
 have L1:=NR (M:=model prog w) X Z.ga
 have L2:=NR (M:=model prog w) X Z.gt
 have f3:=F.excAttr_ValueError.ga.bind (.ref x)
 have hx2:(VU "BaseException.__getattribute__" == VU "object.__getattribute__")=false:=by decide +kernel
 have hx1:(onTheHeap (Vd C)&&VU "BaseException.__getattribute__" == VU "object.__getattribute__")=false:=by rw [hx2];exact Bool.and_false _
 repeat (any_goals (first|assumption|with_reducible refine Looks.at (by assumption) ?_|wp_step))
 refine NF F.excAttr_ValueError.ga.plain F.entry_bexc_ga (qcs Z X I (qad Z X I ?_))
 repeat (any_goals (first|assumption|wp_step))
open PySem.W in
theorem qgt (Z:XcK K C)(X:K.In s.heap)(I:OfC s.heap x C)(hq:Q (some (.ref C)) { s with toks:=s.toks+1 }) :
  bK ',' A (getAttr? (.ref x) "__class__") Q E s:=by
 obtain ⟨hh,g,d,t,os⟩:=s
 unfold getAttr? getAttrBy?
 refine Kd (wpAny_mkText (Kd (wpAny_attempt (qcr (s:=⟨hh,g,d,t+1,os⟩) Z X I ?_))))
 exact Kn hq
end
open PySem.W in
theorem qh2 {K:Kb}{a C:Ke}(Z:XcK K C):KitX K (.ref a) (.ref C) (λh=>OfC h a C) where
 ty:=λ_ _ _ I=>I.ty
 it:=λ_ _ X _=>by
  have z:=Z.cls
  unfold clsIn at z
  split at z
  ·rename_i c' d' cd' sl' ho
   intro A' Q' E' s' k q;unfold isType loadHead
   exact Kd (wpAny_loadPart (k _ _ (X _ _ ho)) (Kn q))
  ·cases z
 ne:=λh tp dd its n sl X htp=>by
  have z:=Z.cls
  refine Eh.mpr λq=>?_
  have e:C=tp:=Value.ref.inj (cv.mp q)
  subst e;unfold clsIn at z
  split at z
  ·rename_i c' d' cd' sl' ho
   have y:=(X _ _ ho).symm.trans htp
   cases y
  ·cases z
 ca:=λX I k=>qgt Z X I k
noncomputable def icB (K:Kb)(C:Ke):Bool :=
 Nk K C Str.empty&&Fj K C&&Fk K C&&(Vy K (.ref C) "__setattr__" == some (some (.builtin "object.__setattr__")))
 && (Vy K (.ref C) "__class__" == some (some (.builtin "object.__class__")))&&(Ed K (.builtin "object.__class__") "__get__" == some (some (.builtin "getset_descriptor.__get__")))
 && (EI K (.builtin "object.__class__")==some true)&&(Xn K C (.type "object")==some true)&&wQ.all λT=>VB K (.ref C) (.type T)==some false
structure IcK (K:Kb)(C:Ke):Prop where
 cl:Cls K C
 ha:Vy K (.ref C) "__class__" = some (some (.builtin "object.__class__"))
 hn:Ed K (.builtin "object.__class__") "__get__" = some (some (.builtin "getset_descriptor.__get__"))
 tk:EI K (.builtin "object.__class__")=some true
 mo:Xn K C (.type "object")=some true
 ts:∀ T∈wQ,VB K (.ref C) (.type T)=some false
theorem qex {K:Kb}{C:Ke}(h:icB K C=true):IcK K C:=by
 unfold icB at h
 simp only [KD,cv,Vg] at h
 obtain ⟨⟨⟨⟨⟨⟨⟨⟨h1,h2⟩,h3⟩,h4⟩,h5⟩,h6⟩,h7⟩,h8⟩,h9⟩:=h
 exact ⟨⟨h1,h2,h3,h4⟩,h5,h6,h7,h8,h9⟩
theorem IcK.ty {K:Kb}{H:Hp}{a C dx:Ke}{fs:bD}(Z:IcK K C)(e:H a=some (.ins C dx fs)):TyOf K H (.ref a) (.ref C):=.ins e Z.cl Z.ha Z.hn Z.tk Z.mo
noncomputable abbrev Av:=Ke->Prop
def yh:HO->Bool
 | .lst _=>true
 | .dK _=>true
 | .dT _=>true
 | .ext _=>true
 | _=>false
def Dm (S:Av)(H:Hp):Prop:=∀ a,S a->∃ o,H a=some o/\yh o=true
def Off (S:Av)(H H':Hp):Prop:=∀ b o,¬ S b->H b=some o->H' b=some o
def KqL (K:Kb)(a:Ke)(xs:List V):Prop:=∃ (o:Obj) (its:aT) (n:Nat),K.lookup a=some o/\o.cls=.type "list"/\o.dict=none/\o.data=.seq its n/\its.size<=bM/\Vals xs its.toList
def SqLS (K:Kb)(H:Hp)(S:Av)(a:Ke)(xs:List V):Prop:=(Rd H a (.lst xs)/\¬ S a)\/KqL K a xs
def ExcO (K:Kb)(o:Obj)(c:Str):Prop:=∃ C vs,o.cls=.ref C/\o.data=.fields vs/\KR K bL c=some (some (.ref C))/\xcB K C=true
def excD (c:Str)(d:Ka):Ka:=.dict [(.str c,d),(.int 0,.none)]
def excK:List (Ka×PyData)->Bool
 | (.str _,_)::_=>true
 | _=>false
theorem qdr:excK (dkv kvs ds)=false:=by
 cases kvs with
 | nil=>rfl
 | cons p ps =>
  cases ds with
  | nil=>rfl
  | cons d ds=>obtain ⟨k|k,_⟩:=p<;>rfl
def objD (c:Str):Ka:=.dict [(.str c,.none),(.int 1,.none)]
mutual
inductive Den (K:Kb)(H:Hp)(S:Av):V->Ka->Prop
 | none:Den K H S .non .none
 | bool (b:Bool):Den K H S (.bl b) (.bool b)
 | int (i:Int):Den K H S (.int i) (.int i)
 | str (x:Str):Den K H S (.str x) (.str x)
 | list {a:Ke} {xs:List V} {ds:ae}:SqLS K H S a xs->DenL K H S xs ds->Den K H S (.ref a) (.list ds)
 | tuple {a:Ke} {xs:List V} {ds:ae}:SqT K H a xs->DenL K H S xs ds->Den K H S (.ref a) (.tuple ds)
 | dict {a:Ke} {kvs:List (KX×Addr×V)} {ep:Nat} {ds:ae}:(H a=some (DctO a kvs ep)/\¬ S a)->DenL K H S (kvs.map λp=>kxV p.1 p.2.1) (kvs.map λp=>kxD p.1)->DenL K H S (kvs.map (·.2.2)) ds->Den K H S (.ref a) (.dict (dkv kvs ds))
 | exc0 {a:Ke} {o:Obj} {c:Str}:H a=some (.frz o (.own a))->ExcO K o c->Den K H S (.ref a) (excD c .none)
 | exc1 {a dx:Ke} {o:Obj} {c n:Str} {v:V} {d:Ka}:H a=some (.frz o (.own a))->ExcO K o c->o.dict=some dx->H dx=some (.xd [(n,v)])->Den K H S v d->Den K H S (.ref a) (excD c (.tuple [.str n,d]))
 | ins {a dx C:Ke} {c:Str}:H a=some (.ins C dx [])->(KR K bL c=some (some (.ref C))/\icB K C=true)->Den K H S (.ref a) (objD c)
inductive DenL (K:Kb)(H:Hp)(S:Av):List V->List Ka->Prop
 | nil:DenL K H S [] []
 | cons {x:V} {d:Ka} {xs:List V} {ds:ae}:Den K H S x d->DenL K H S xs ds->DenL K H S (x::xs) (d::ds)
end
mutual
def flat:Ka->Bool
 | .none=>true
 | .bool _=>true
 | .int _=>true
 | .str _=>true
 | .list _=>false
 | .tuple ds=>ZZ ds
 | .dict _=>false
def ZZ:List Ka->Bool
 | []=>true
 | d::ds=>flat d&&ZZ ds
end
section
variable {K:Kb}{H H':Hp}{S S':Av}
theorem SqLS.sq (h:SqLS K H S a xs):SqL K H a xs:=h.imp (·.1) id
theorem SqLS.new (h:H a=some (.lst xs))(n:¬ S a):SqLS K H S a xs:=.inl ⟨.inl h,n⟩
theorem Dm.free (m:Dm S H)(h:H p=none):¬ S p:=λq=>by
 obtain ⟨o,e,_⟩:=m p q
 rw [h] at e;cases e
theorem Dm.same (e:Same H H')(m:Dm S H):Dm S H':=λa q=>by
 obtain ⟨o,h,w⟩:=m a q
 exact ⟨o,e a o h,w⟩
theorem Dm.sub (m:Dm S H)(h:∀ a,S' a->S a):Dm S' H:=λa q=>m a (h a q)
theorem Dm.tup (m:Dm S H)(h:Rd H a (.tup xs)):¬ S a:=λq=>by
 obtain ⟨o,e,w⟩:=m a q
 rcases h with h|⟨u,h⟩
 ·rw [h] at e;cases e;cases w
 ·rw [h] at e;cases e;cases w
theorem Dm.not (m:Dm S H)(h:H a=some u)(n:yh u=false):¬ S a:=λq=>by
 obtain ⟨o,e,w⟩:=m a q
 rw [h] at e;cases e;rw [n] at w;cases w
theorem Rd.off (e:Off S H H')(n:¬ S a)(h:Rd H a o):Rd H' a o:=by
 rcases h with h|⟨u,h⟩
 ·exact .inl (e _ _ n h)
 ·exact .inr ⟨u,e _ _ n h⟩
theorem Rd.dom (h:Rd H a o):H a≠none:=by
 rcases h with h|⟨u,h⟩<;>(rw [h];exact λz=>nomatch z)
theorem Same.off (e:Same H H'):Off S H H':=λb o _ h=>e b o h
theorem SqT.upd  (h:SqT K H a xs) (hn:H p=none):SqT K (upd H p o) a xs:=by
 rcases h with (h|⟨o',h⟩)|h
 ·exact .inl (.inl (by rw [qO (Qt h hn)];exact h))
 ·exact .inl (.inr ⟨o',by rw [qO (Qt h hn)];exact h⟩)
 ·exact .inr h
theorem Same.sqT (e:Same H H')(h:SqT K H a xs):SqT K H' a xs:=by
 rcases h with (h|⟨o,h⟩)|h
 ·exact .inl (.inl (e _ _ h))
 ·exact .inl (.inr ⟨o,e _ _ h⟩)
 ·exact .inr h
theorem Same.lay (hn:H p=none):Same H (L2.upd H p o):=λb u q=>by rw [qO (Qt q hn)];exact q
theorem Same.lay'  (e:Same H0 H) (hn:H p=none):Same H0 (L2.upd H p o):=e.trans (Same.lay hn)
theorem Den.off (m:Dm S H)(e:Off S H H'){v:V}{d:Ka}(h:Den K H S v d):Den K H' S v d :=
 Den.rec (motive_1:=λv d _=>Den K H' S v d) (motive_2:=λvs ds _=>DenL K H' S vs ds) .none .bool .int .str (λh _ t=>.list (h.imp (λq=>⟨q.1.off e q.2,q.2⟩) id) t) (λh _ t=>.tuple (h.imp (λq=>q.off e (m.tup q)) id) t)
  (λh _ _ k t=>.dict ⟨e _ _ h.2 h.1,h.2⟩ k t) (λh o=>.exc0 (e _ _ (m.not h rfl) h) o) (λh o x y _ t=>.exc1 (e _ _ (m.not h rfl) h) o x (e _ _ (m.not y rfl) y) t) (λh o=>.ins (e _ _ (m.not h rfl) h) o) .nil (λ_ _ h t=>.cons h t) h
theorem DenL.byE {K:Kb}{H:Hp}{S:Av}{P:List V->List Ka->Prop}(n:P [] [])(c:∀ {x:V} {d:Ka} {xs:List V} {ds:ae},Den K H S x d->DenL K H S xs ds->P xs ds->P (x::xs) (d::ds)){vs:List V}{ds:ae}(h:DenL K H S vs ds):P vs ds :=
 DenL.rec (motive_1:=λ_ _ _=>True) (motive_2:=λvs ds _=>P vs ds) trivial (λ_=>trivial) (λ_=>trivial) (λ_=>trivial) (λ_ _ _=>trivial) (λ_ _ _=>trivial) (λ_ _ _ _ _=>trivial) (λ_ _=>trivial) (λ_ _ _ _ _ _=>trivial) (λ_ _=>trivial) n (λh t _ p=>c h t p) h
theorem DenL.off (m:Dm S H)(e:Off S H H'){vs:List V}{ds:ae}(h:DenL K H S vs ds):DenL K H' S vs ds:=h.byE (P:=λvs ds=>DenL K H' S vs ds) .nil λh _ t=>.cons (h.off m e) t
theorem Den.same (e:Same H H'){v:V}{d:Ka}(h:Den K H S v d):Den K H' S v d :=
 Den.rec (motive_1:=λv d _=>Den K H' S v d) (motive_2:=λvs ds _=>DenL K H' S vs ds) .none .bool .int .str (λh _ t=>.list (h.imp (λq=>⟨q.1.off (S:=S) e.off q.2,q.2⟩) id) t) (λh _ t=>.tuple (e.sqT h) t)
  (λh _ _ k t=>.dict ⟨e _ _ h.1,h.2⟩ k t) (λh o=>.exc0 (e _ _ h) o) (λh o x y _ t=>.exc1 (e _ _ h) o x (e _ _ y) t) (λh o=>.ins (e _ _ h) o) .nil (λ_ _ h t=>.cons h t) h
theorem DenL.same (e:Same H H'){vs:List V}{ds:ae}(h:DenL K H S vs ds):DenL K H' S vs ds:=h.byE (P:=λvs ds=>DenL K H' S vs ds) .nil λh _ t=>.cons (h.same e) t
theorem Den.sub (e:∀ a,H a≠Ko->S' a->S a){v:V}{d:Ka}(h:Den K H S v d):Den K H S' v d :=
 Den.rec (motive_1:=λv d _=>Den K H S' v d) (motive_2:=λvs ds _=>DenL K H S' vs ds) .none .bool .int .str (λh _ t=>.list (h.imp (λq=>⟨q.1,λz=>q.2 (e _ q.1.dom z)⟩) id) t) (λh _ t=>.tuple h t)
  (λh _ _ k t=>.dict ⟨h.1,λz=>h.2 (e _ (by rw [h.1];exact λy=>nomatch y) z)⟩ k t) (λh o=>.exc0 h o) (λh o x y _ t=>.exc1 h o x y t) (λh o=>.ins h o) .nil (λ_ _ h t=>.cons h t) h
theorem DenL.sub (e:∀ a,H a≠none->S' a->S a){vs:List V}{ds:ae}(h:DenL K H S vs ds):DenL K H S' vs ds:=h.byE (P:=λvs ds=>DenL K H S' vs ds) .nil λh _ t=>.cons (h.sub e) t
theorem Den.flat {v:V}{d:Ka}(f:L2.flat d=true)(h:Den K H S v d):Den K H S' v d :=
 Den.rec (motive_1:=λv d _=>L2.flat d=true->Den K H S' v d) (motive_2:=λvs ds _=>ZZ ds=true->DenL K H S' vs ds) (λ_=>.none) (λb _=>.bool b) (λi _=>.int i) (λx _=>.str x) (λ_ _ _ f=>nomatch f) (λh _ t f=>.tuple h (t (by rw [L2.flat] at f;exact f)))
  (λ_ _ _ _ _ f=>nomatch f) (λ_ _ f=>nomatch f) (λ_ _ _ _ _ _ f=>nomatch f) (λ_ _ f=>nomatch f) (λ_=>.nil) (λ_ _ h t f=>by rw [ZZ,KD] at f;exact .cons (h f.1) (t f.2)) h f
theorem DenL.flat {vs:List V}{ds:ae}(f:ZZ ds=true)(h:DenL K H S vs ds):DenL K H S' vs ds :=
 h.byE (P:=λvs ds=>ZZ ds=true->DenL K H S' vs ds) (λ_=>.nil) (λh _ t f=>by rw [ZZ,KD] at f;exact .cons (h.flat f.1) (t f.2)) f
theorem DenL.length {vs:List V}{ds:ae}(h:DenL K H S vs ds):vs.length=ds.length:=h.byE (P:=λvs ds=>vs.length=ds.length) rfl λ_ _ t=>by rw [Kw,Kw,t]
theorem DenL.append {vs ws:List V}{ds es:ae}(h:DenL K H S vs ds)(q:DenL K H S ws es):DenL K H S (vs++ws) (ds++es):=h.byE (P:=λvs ds=>DenL K H S (vs++ws) (ds++es)) q λh _ t=>.cons h t
theorem DenL.snoc {vs:List V}{ds:ae}{v:V}{d:Ka}(h:DenL K H S vs ds)(q:Den K H S v d):DenL K H S (vs++[v]) (ds++[d]):=h.append (.cons q .nil)
theorem DenL.get:∀ {vs:List V} {ds:ae} {i:Nat} {d:Ka},DenL K H S vs ds->ds[i]?=some d->∃ v,vs[i]?=some v/\Den K H S v d
 | _,_,_,_,.nil,e=>by simp at e
 | _,_,0,_,.cons h _,e=>by simp at e;subst e;exact ⟨_,rfl,h⟩
 | _,_,i+1,d,.cons _ t,e=>by
  obtain ⟨v,h1,h2⟩:=DenL.get (i:=i) (d:=d) t (by simpa using e)
  exact ⟨v,by simpa using h1,h2⟩
theorem DenL.drop:∀ {vs:List V} {ds:ae} (n:Nat),DenL K H S vs ds->DenL K H S (vs.drop n) (ds.drop n)
 | _,_,0,h=>h
 | _,_,_+1,.nil=>.nil
 | _,_,n+1,.cons _ t=>t.drop n
theorem DenL.take:∀ {vs:List V} {ds:ae} (n:Nat),DenL K H S vs ds->DenL K H S (vs.take n) (ds.take n)
 | _,_,0,_=>.nil
 | _,_,_+1,.nil=>.nil
 | _,_,n+1,.cons h t=>.cons h (t.take n)
theorem DenL.ints:∀ ns:List Int,DenL K H S (ns.map V.int) (ns.map Km)
 | []=>.nil
 | n::ns=>.cons (.int n) (DenL.ints ns)
theorem Den.int_inv (h:Den K H S v (.int i)):v=.int i:=by cases h;rfl
theorem Den.bool_inv (h:Den K H S v (.bool b)):v=.bl b:=by cases h;rfl
theorem Den.list_inv (h:Den K H S v (.list ds)):∃ a xs,v=.ref a/\SqLS K H S a xs/\DenL K H S xs ds:=by
 cases h with
 | list h t=>exact ⟨_,_,rfl,h,t⟩
theorem Den.tuple_inv (h:Den K H S v (.tuple ds)):∃ a xs,v=.ref a/\SqT K H a xs/\DenL K H S xs ds:=by
 cases h with
 | tuple h t=>exact ⟨_,_,rfl,h,t⟩
theorem DenL.inv1 (h:DenL K H S vs [d]):∃ v,vs=[v]/\Den K H S v d:=by
 cases h with
 | cons a t=>cases t;exact ⟨_,rfl,a⟩
theorem DenL.inv2 (h:DenL K H S vs [d,e]):∃ v w,vs=[v,w]/\Den K H S v d/\Den K H S w e:=by
 cases h with
 | cons a t=>obtain ⟨w,rfl,b⟩:=t.inv1;exact ⟨_,w,rfl,a,b⟩
end
section
variable {X:Cx}{bE:ag}{σ:St}{H:Hp}{s:Kh}{S:Av}
theorem DenL.readsE (I:'&'){vs:List V}{ds:ae}(h:DenL X.K H S vs ds)(f:∀ {x:V} {d:Ka} {u:Kc},Den X.K H S x d->d.canLay0=true->RelV x u->∃ as,UN s.heap u d as){us:az}(c:Kq ds=true)(r:Vals vs us):∃ as,V5 s.heap us ds as :=
 h.byE (P:=λvs ds=>∀ us,Kq ds=true->Vals vs us->∃ as,V5 s.heap us ds as) (λ_ _ r=>by cases r;exact ⟨_,.nil⟩) (λh _ t _ c r=>by
  cases r with
  | cons r rr =>
   rw [Kq,KD] at c
   obtain ⟨as,q⟩:=f h c.1 r
   obtain ⟨bs,q'⟩:=t _ c.2 rr
   exact ⟨_,.cons q q'⟩) us c r
theorem Den.reads (I:'&'){v:V}{d:Ka}{u:Kc}(h:Den X.K H S v d)(c:d.canLay0=true)(r:RelV v u):∃ as,UN s.heap u d as :=
 Den.rec (motive_1:=λv d _=>∀ u,d.canLay0=true->RelV v u->∃ as,UN s.heap u d as) (motive_2:=λvs ds _=>∀ us,Kq ds=true->Vals vs us->∃ as,V5 s.heap us ds as)
  (λu _ r=>by cases (show u=VE from r);exact ⟨_,.none⟩) (λb u _ r=>by cases (show u=Vv b from r);exact ⟨_,.bool b⟩) (λi u _ r=>by obtain ⟨t,e⟩:=(show ∃ t,u=NY i t from r);cases e;exact ⟨_,.int i t⟩) (λx u _ r=>by obtain ⟨t,e⟩:=(show ∃ t,u=Nu x t from r);cases e;exact ⟨_,.str x t⟩)
  (@λa xs ds h _ t u c0 r=>by
   cases (show u=Vd a from r)
   obtain ⟨its,rv,⟨o,n,e,c,_,d⟩,_⟩:=I.list h.sq
   obtain ⟨as,q⟩:=t its (by rw [KP] at c0;exact c0) rv
   exact ⟨_,.list e c d (by rw [List.toList_toArray];exact q)⟩)
  (@λa xs ds h _ t u c0 r=>by
   cases (show u=Vd a from r)
   obtain ⟨its,rv,⟨o,e,c,n,d⟩,_⟩:=I.tuple h
   obtain ⟨as,q⟩:=t its (by rw [KP] at c0;exact c0) rv
   exact ⟨_,.tuple e c d (by rw [List.toList_toArray];exact q)⟩)
  (λ_ _ _ _ _ _ c0 _=>by rw [KP] at c0;cases c0) (λ_ _ _ c0 _=>by unfold excD at c0;rw [KP] at c0;cases c0) (λ_ _ _ _ _ _ _ c0 _=>by unfold excD at c0;rw [KP] at c0;cases c0) (λ_ _ _ c0 _=>by unfold objD at c0;rw [KP] at c0;cases c0)
  (λ_ _ r=>by cases r;exact ⟨_,.nil⟩) (λ_ _ h t _ c r=>by
   cases r with
   | cons r rr =>
    rw [Kq,KD] at c
    obtain ⟨as,q⟩:=h _ c.1 r
    obtain ⟨bs,q'⟩:=t _ c.2 rr
    exact ⟨_,.cons q q'⟩) h u c r
theorem DenL.reads (I:'&'){vs:List V}{ds:ae}{us:az}(h:DenL X.K H S vs ds)(c:Kq ds=true)(r:Vals vs us):∃ as,V5 s.heap us ds as:=h.readsE I (λh c r=>h.reads I c r) c r
end
section
variable {X:Cx}{bE:ag}{σ:St}{H:Hp}{s:Kh}
def rEqD (K:Kb):R2:=λx y H Q=>∃ S d e,Den K H S x d/\Den K H S y e/\Vf d=true/\Vf e=true/\Q (.bl (Kv d e)) H
def rNeD (K:Kb):R2:=λx y H Q=>∃ S d e,Den K H S x d/\Den K H S y e/\Vf d=true/\Vf e=true/\Q (.bl (!PyData.eqv d e)) H
theorem qmB (hr:Room k X.A):OpR X (bQ .Eq) (rEqD X.K):=by
 intro bE s σ H x y v u Q I rx ry h
 obtain ⟨S,d,e,h1,h2,s1,s2,q⟩:=h
 obtain ⟨as,q1⟩:=h1.reads I (K7 s1) rx
 obtain ⟨bs,q2⟩:=h2.reads I (K7 s2) ry
 exact eq_dataH q1 q2 s1 s2 hr.units (jM I q rfl)
theorem qmE (hr:Room k X.A):OpR X (bQ .NotEq) (rNeD X.K):=by
 intro bE s σ H x y v u Q I rx ry h
 obtain ⟨S,d,e,h1,h2,s1,s2,q⟩:=h
 obtain ⟨as,q1⟩:=h1.reads I (K7 s1) rx
 obtain ⟨bs,q2⟩:=h2.reads I (K7 s2) ry
 exact ne_dataH q1 q2 s1 s2 hr.units (jM I q rfl)
theorem qky:OpR X (bY .Mult) (rI Nj λi j=>.int (i*j)):=opI λ_ _ _ _ _ _ _ hc q=>mul_int q hc
inductive TyD (K:Kb)(H:Hp):V->String->Prop
 | non:TyD K H .non "NoneType"
 | bl (b:Bool):TyD K H (.bl b) "bool"
 | int (i:Int):TyD K H (.int i) "int"
 | str (x:Str):TyD K H (.str x) "str"
 | lst {a:Ke} {xs:List V} (h:SqL K H a xs):TyD K H (.ref a) "list"
 | tup {a:Ke} {xs:List V} (h:SqT K H a xs):TyD K H (.ref a) "tuple"
 | dct {a:Ke} {kvs:'4'} {ep:Nat} (h:H a=some (DctO a kvs ep)):TyD K H (.ref a) "dict"
def rIsi (K:Kb):List V->Hp->VK->Prop:=λvs H Q=>∃ x T t b,vs=[x,.ty T]/\TyD K H x t/\VB K (.type t) (.type T)=some b/\Q (.bl b) H
theorem qhq:jD X (.builtin "isinstance") (rIsi X.K):=by
 intro bE s σ H xs us Q I r h
 obtain ⟨x,T,t,b,rfl,ty,e,q⟩:=h
 obtain ⟨u,c,rfl,ru,rc⟩:=r.two
 cases (show c=Vs T from rc)
 have fin:∀ tk,EP X bE σ Q (.bool b) { s with toks:=tk }:=λtk=>⟨.bl b,H,I.tok tk,rfl,q⟩
 cases ty with
 | non=>cases (show u=VE from ru);exact Vn Fl I.kIn Us e (λz=>nomatch z) fin
 | bl y=>cases (show u=Vv y from ru);exact Vn Fm I.kIn Us e (λz=>nomatch z) fin
 | int i=>obtain ⟨t,q⟩:=(show ∃ t,u=NY i t from ru);cases q;exact Vn PySem.W.kitx_int I.kIn Us e (λz=>nomatch z) fin
 | str y=>obtain ⟨t,q⟩:=(show ∃ t,u=Nu y t from ru);cases q;exact Vn PySem.W.kitx_str I.kIn Us e (λz=>nomatch z) fin
 | @lst a xs ea =>
  cases (show u=Vd a from ru)
  obtain ⟨_,_,⟨o,n,h1,h2,_⟩,_⟩:=I.list ea
  exact Vn Ee I.kIn ⟨o,h1,h2⟩ e (λz=>nomatch z) fin
 | @tup a xs ea =>
  cases (show u=Vd a from ru)
  obtain ⟨_,_,⟨o,h1,h2,_⟩,_⟩:=I.tuple ea
  exact Vn Fe I.kIn ⟨o,h1,h2⟩ e (λz=>nomatch z) fin
 | @dct a kvs ep ea =>
  cases (show u=Vd a from ru)
  obtain ⟨o,_,h1,h2,_⟩:=(QJ.of (I.hok a _ ea)).vals
  exact Vn Ef I.kIn ⟨o,h1,h2.1⟩ e (λz=>nomatch z) fin
def ExcH (K:Kb)(H:Hp)(a:Ke)(c:Str):Prop:=∃ o,H a=some (.frz o (.own a))/\ExcO K o c
theorem Inv.excAt (I:'&')(h:ExcH X.K H a c):∃ C,KR X.K bL c=some (some (.ref C))/\xcB X.K C=true/\OfC s.heap a C:=by
 obtain ⟨o,ha,C,vs,h1,h2,h3,h4⟩:=h
 exact ⟨C,h3,h4,o,(I.hok a _ ha).1,h1⟩
def qlC (K:Kb):List V->Hp->VK->Prop:=λvs H Q=>∃ a c T b,vs=[.ref a,.ty T]/\ExcH K H a c/\(∀ C,xcB K C=true->VB K (.ref C) (.type T)=some b)/\Q (.bl b) H
theorem qgm:jD X (.builtin "isinstance") (qlC X.K):=by
 intro bE s σ H xs us Q I r h
 obtain ⟨a,c,T,b,rfl,hx,e,q⟩:=h
 obtain ⟨u,c',rfl,ru,rc⟩:=r.two
 cases (show c'=Vs T from rc)
 cases (show u=Vd a from ru)
 obtain ⟨C,_,h4,IA⟩:=I.excAt hx
 exact Vn (qh2 (qjp h4)) I.kIn IA (e C h4) (λz=>nomatch z) λtk=>⟨.bl b,H,I.tok tk,rfl,q⟩
theorem Den.ins_inv {K:Kb}{S:Av}{v:V}{c:Str}(h:Den K H S v (objD c)):∃ a dx C,v=.ref a/\H a=some (.ins C dx [])/\KR K bL c=some (some (.ref C))/\icB K C=true:=by
 generalize hd:objD c=x at h
 cases h with
 | @dict a kvs ep ds h k t =>
  have:excK (dkv kvs ds)=true:=by
   have:=PyData.dict.inj hd
   rw [← this];rfl
  rw [qdr] at this
  cases this
 | ins h o=>cases hd;exact ⟨_,_,_,rfl,h,o.1,o.2⟩
 | _=>cases hd
def qlB (K:Kb):List V->Hp->VK->Prop:=λvs H Q=>∃ a C dx T b,vs=[.ref a,.ty T]/\H a=some (.ins C dx [])/\icB K C=true/\VB K (.ref C) (.type T)=some b/\Q (.bl b) H
theorem qgl:jD X (.builtin "isinstance") (qlB X.K):=by
 intro bE s σ H xs us Q I r h
 obtain ⟨a,C,dx,T,b,rfl,hx,hc,e,q⟩:=h
 obtain ⟨u,c',rfl,ru,rc⟩:=r.two
 cases (show c'=Vs T from rc)
 exact qgy I ru ((qex hc).ty hx) e λtk=>⟨.bl b,H,I.tok tk,rfl,q⟩
end
noncomputable abbrev Rho:=List (Option Ka)
abbrev bj:=Rho->Option (Option Int)
abbrev aF:=List Ka->Rho->Option Rho
abbrev aj:=Rho->Option Bool
abbrev af:=Ka->Rho->Option Rho
abbrev ab:=Rho->Option (List Ka)
abbrev aa:=Rho->Option Ka
def DenS (K:Kb)(H:Hp)(S:Av)(M:aq)(σ:St)(ρ:Rho):Prop:=Dm S H/\σ.length=ρ.length/\∀ (i:Nat) (d:Ka),i∉M->ρ[i]?=some (some d)->∃ v,σ[i]?=some (some v)/\Den K H S v d
section
variable {K:Kb}{H H':Hp}{S:Av}{M:aq}{σ:St}{ρ:Rho}{v:V}{d:Ka}
theorem DenS.same (e:Same H H')(h:DenS K H S M σ ρ):DenS K H' S M σ ρ:=⟨h.1.same e,h.2.1,λi d n q=>let ⟨v,a,b⟩:=h.2.2 i d n q;⟨v,a,b.same e⟩⟩
theorem DenS.set (h:DenS K H S M σ ρ)(q:Den K H S v d)(i:Nat):DenS K H S M (σ.set i (some v)) (ρ.set i (some d)):=by
 refine ⟨h.1,by rw [VN,VN];exact h.2.1,λj e n he=>?_⟩
 by_cases hj:i=j
 ·subst hj
  by_cases hi:i<ρ.length
  ·rw [Vc hi] at he
   cases he
   exact ⟨v,Vc (by rw [h.2.1];exact hi),q⟩
  ·rw [List.set_eq_of_length_le (by omega)] at he
   exact absurd (Kl.mp he).1 hi
 ·rw [VR hj] at he
  obtain ⟨w,a,b⟩:=h.2.2 j e n he
  exact ⟨w,by rw [VR hj];exact a,b⟩
theorem DenS.start {ds:ae}(m:Dm S H)(h:DenL K H S vs ds)(N:aB):DenS K H S [] (start N vs) (ds.map some++Vt (N.length-ds.length) none):=by
 have hl:=h.length
 refine ⟨m,?_,λj e _ he=>?_⟩
 ·unfold L2.start
  rw [Kj,Kj,Kf,Kf,VD,VD,hl]
 ·by_cases hj:j<ds.length
  ·rw [KL (by simpa using hj),Ky] at he
   cases e1:ds[j]? with
   | none=>rw [e1] at he;cases he
   | some d =>
    rw [e1] at he
    cases he
    obtain ⟨v,a,b⟩:=h.get e1
    refine ⟨v,?_,b⟩
    unfold L2.start
    rw [KL (by rw [Kf];omega),Ky,a]
    rfl
  ·rw [Vi (by simpa using hj),Uu] at he
   split at he<;>cases he
end
def tD (K:Kb)(M:aq)(f:aa):TE:=λσ H Q=>∃ S ρ d,DenS K H S M σ ρ/\f ρ=some d/\∀ v H',Same H H'->Den K H' S v d->Q v H'
def tDA (K:Kb)(M:aq)(f:ab):TA:=λσ H Q=>∃ S ρ ds,DenS K H S M σ ρ/\f ρ=some ds/\∀ vs H',Same H H'->DenL K H' S vs ds->Q vs H'
def tDT (K:Kb)(M:aq)(f:aj):TT:=λσ H Q=>∃ S ρ b,DenS K H S M σ ρ/\f ρ=some b/\∀ H',Same H H'->Q b H'
inductive Out where
 | nx (ρ:Rho)|rt (d:Ka)|bk (ρ:Rho)|ct (ρ:Rho)
abbrev ai:=Rho->Option Out
def PD (X:Cx)(M:aq)(e:KB)(f:aa):Prop:=PE X e (tD X.K M f)
def PDA (X:Cx)(M:aq)(es:aJ)(f:ab):Prop:=PA X es (tDA X.K M f)
def PDT (X:Cx)(M:aq)(e:KB)(f:aj):Prop:=PT X e (tDT X.K M f)
theorem PE.weak {X:Cx}{e:KB}{t t':TE}(h:PE X e t)(w:∀ σ H Q,t' σ H Q->t σ H Q):PE X e t':=λbE s σ H Q I q=>h bE s σ H Q I (w σ H Q q)
theorem PT.weak {X:Cx}{e:KB}{t t':TT}(h:PT X e t)(w:∀ σ H Q,t' σ H Q->t σ H Q):PT X e t':=λbE s σ H Q I q=>h bE s σ H Q I (w σ H Q q)
theorem PW.weak {X:Cx}{e:KB}{t t':TT}(h:PW X e t)(w:∀ σ H Q,t' σ H Q->t σ H Q):PW X e t':=λwh bE s σ H Q I q=>h wh bE s σ H Q I (w σ H Q q)
theorem PA.weak {X:Cx}{e:aJ}{t t':TA}(h:PA X e t)(w:∀ σ H Q,t' σ H Q->t σ H Q):PA X e t':=λpos bE s σ H Q I q=>h pos bE s σ H Q I (w σ H Q q)
theorem PS.weak {X:Cx}{e:KQ}{t t':TS}(h:PS X e t)(w:∀ D σ H,t' D σ H->t D σ H):PS X e t':=λbE s σ H D I q=>h bE s σ H D I (w D σ H q)
theorem PSs.weak {X:Cx}{e:bu}{t t':TS}(h:PSs X e t)(w:∀ D σ H,t' D σ H->t D σ H):PSs X e t':=λbE s σ H D I q=>h bE s σ H D I (w D σ H q)
noncomputable def ob {α β:Type}(a:Option α)(f:α->Option β):Option β:=match a with | some x=>f x|none=>none
theorem qd {α β:Type}{a:Option α}{f:α->Option β}{y:β}(h:ob a f=some y):∃ x,a=some x/\f x=some y:=by
 cases a with
 | none=>cases h
 | some x=>exact ⟨x,rfl,h⟩
def visB (sc:V9)(x:Str):Bool:=decide (sc.names.lookup x=some .local)||decide (sc.names.lookup x=some .cell)||decide (sc.names.lookup x=some .free)
def locB (sc:V9)(x:Str):Bool:=decide (sc.names.lookup x=some .local)||decide (sc.names.lookup x=some .cell)
def glB (sc:V9)(x:Str):Bool:=decide (sc.names.lookup x=some .globalImplicit)
theorem qjo (h:visB sc x=true):Vis sc x:=by
 unfold visB at h
 simp only [NG,bW] at h
 rcases h with (h|h)|h
 ·exact .inl h
 ·exact .inr (.inl h)
 ·exact .inr (.inr h)
theorem qh7 (h:locB sc x=true):Loc sc x:=by
 unfold locB at h
 simp only [NG,bW] at h
 exact h
theorem gl_fn {X:Cx}(sc:V9)(hs:X.env.scope=sc)(h:glB sc x=true):Gl X x:=by
 subst hs
 have h':X.env.scope.names.lookup x=some .globalImplicit:=bN h
 exact h'
theorem jU {env:Env}:∀ {names:List (Str×NameKind)} {x:Str} {k:En},names.lookup x=some k->
  (names.map λ(n,k)=>if (k==Vq&&env.scope.kind==.function&&env.kindOf n==some .cell) then (n,VV) else (n,k)).lookup x=some k\/
  (k=.free/\(names.map λ(n,k)=>if (k==Vq&&env.scope.kind==.function&&env.kindOf n==some .cell) then (n,VV) else (n,k)).lookup x=some .cell)
 | [],_,_,h=>by simp at h
 | (n,k')::r,x,k,h=>by
  have ih:=@jU env r x k
  show NW x ((if (k'==Vq&&env.scope.kind==.function&&env.kindOf n==some .cell)=true then (n,VV) else (n,k'))::_)=_\/(_/\NW x ((if (k'==Vq&&env.scope.kind==.function&&env.kindOf n==some .cell)=true then (n,VV) else (n,k'))::_)=_)
  cases hx:x==n with
  | true =>
   simp only [Vr,hx] at h
   cases h
   by_cases hc:(k'==Vq&&env.scope.kind==.function&&env.kindOf n==some .cell)=true
   ·rw [bI hc]
    rw [KD,KD] at hc
    exact .inr ⟨by simpa using hc.1.1,by simp [Vr,hx]⟩
   ·rw [bJ hc]
    exact .inl (by simp [Vr,hx])
  | false =>
   simp only [Vr,hx] at h
   by_cases hc:(k'==Vq&&env.scope.kind==.function&&env.kindOf n==some .cell)=true
   ·rw [bI hc]
    simp only [Vr,hx]
    exact ih h
   ·rw [bJ hc]
    simp only [Vr,hx]
    exact ih h
section
variable {X:Cx}{x:Str}{N':aB}{sc:V9}{cl:aO}{C:Ke}{fp:aH}{bE:ag}{s:Kh}{H:Hp}
theorem qW (h:visB sc x=true):Vis '-'.env.scope x:=by
 rcases qjo h with h|h|h
 ·rcases jU (env:=X.env) h with q|q
  ·exact .inl q
  ·cases q.1
 ·rcases jU (env:=X.env) h with q|q
  ·exact .inr (.inl q)
  ·cases q.1
 ·rcases jU (env:=X.env) h with q|q
  ·exact .inr (.inr q)
  ·exact .inr (.inl q.2)
theorem qfA (h:glB sc x=true):Gl '-' x:=by
 rcases jU (env:=X.env) (bN h) with q|q
 ·exact q
 ·cases q.1
end
def vr (i:Nat):Rho->Option Ka:=λρ=>(ρ[i]?).join
def kd (d:Ka):Rho->Option Ka:=λ_=>some d
def ev1 (fa:aa)(g:Ka->Option Ka):Rho->Option Ka:=λρ=>ob (fa ρ) g
def aN:Rho->Option (List Ka):=λ_=>some []
def aC (fa:aa)(fs:ab):Rho->Option (List Ka):=λρ=>ob (fa ρ) λx=>ob (fs ρ) λxs=>some (x::xs)
def evA (fs:ab)(h:ak):Rho->Option Ka:=λρ=>ob (fs ρ) h
def evC (n:Nat)(fs:ab)(h:ak):Rho->Option Ka:=λρ=>ob (fs ρ) λds=>if ds.length=n then h ds else none
def evC0 (h:ak):Rho->Option Ka:=λ_=>h []
section
variable {X:Cx}{M:aq}{a b c:KB}{es:aJ}{f g fa fb:aa}{pos:Pos}
theorem zr (i:Nat)(hv:Vis X.env.scope x)(hM:i∉M)(hN:X.N[i]?=some x:=by rfl)(hd:'+'=false:=by decide +kernel)
  (hcd:(x==("__classdict__" : Str))=false:=by decide +kernel):PD X M (.Name x pos) (vr i) :=
 (qiI hN hv hd hcd).weak λσ H Q ⟨S,ρ,d,hs,e,q⟩=>by
  have e:(ρ[i]?).join=some d:=e
  have e':ρ[i]?=some (some d):=by
   cases h:ρ[i]? with
   | none=>rw [h] at e;cases e
   | some o=>rw [h] at e;exact congrArg some e
  obtain ⟨v,h1,h2⟩:=hs.2.2 i d hM e'
  exact ⟨v,h1,q v H (Same.refl H) h2⟩
theorem qb {i j p}:PD X M (.Constant (.int i) j p) (kd (.int i)):=qmM.weak λσ H Q ⟨S,_,d,_,e,q⟩=>by cases e;exact q _ H (Same.refl H) (.int i)
theorem Jx {i j p}:PD X M (.Constant (.bool i) j p) (kd (.bool i)):=pe_bl.weak λσ H Q ⟨S,_,d,_,e,q⟩=>by cases e;exact q _ H (Same.refl H) (.bool i)
theorem JT {j p}:PD X M (.Constant .none j p) (kd .none):=qmN.weak λσ H Q ⟨S,_,d,_,e,q⟩=>by cases e;exact q _ H (Same.refl H) .none
theorem YH {i j p}:PD X M (.Constant (.str i) j p) (kd (.str i)):=qmQ.weak λσ H Q ⟨S,_,d,_,e,q⟩=>by cases e;exact q _ H (Same.refl H) (.str i)
theorem qkB  (hg:Gl X x) (hm:X.mg x=some u) (r:RelV v u) (hd:∀ H S,Den X.K H S v d) (hdb:'+'=false:=by decide +kernel):PD X M (.Name x pos) (kd d) :=
 (qfY hg hm r hdb).weak λσ H Q ⟨S,_,d',_,e,q⟩=>by cases e;exact q _ H (Same.refl H) (hd H S)
def rD2 (K:Kb)(g:aG):R2:=λx y H Q=>∃ S dx dy d,Dm S H/\Den K H S x dx/\Den K H S y dy/\g dx dy=some d/\∀ v H',Same H H'->Den K H' S v d->Q v H'
def OpD (X:Cx)(f:aR)(g:aG):Prop:=OpR X f (rD2 X.K g)
def UnD (X:Cx)(f:Kc->Sem Kc)(g:Ka->Option Ka):Prop:=UnR X f (λx H Q=>∃ S dx d,Dm S H/\Den X.K H S x dx/\g dx=some d/\∀ v H',Same H H'->Den X.K H' S v d->Q v H')
def CallD (X:Cx)(f:Kc)(g:ak):Prop:=jD X f (λvs H Q=>∃ S ds d,Dm S H/\DenL X.K H S vs ds/\g ds=some d/\∀ v H',Same H H'->Den X.K H' S v d->Q v H')
def ev2 (fa fb:aa)(g:aG)(ρ:Rho):Option Ka:=ob (fa ρ) λx=>ob (fb ρ) λy=>g x y
theorem tD2 {K:Kb}{g:aG}:∀ σ H Q,tD K M (ev2 fa fb g) σ H Q->tOp (rD2 K g) (tD K M fa) (tD K M fb) σ H Q:=by
 intro σ H Q ⟨S,ρ,d,hs,e,q⟩
 obtain ⟨x,e1,e⟩:=qd e
 obtain ⟨y,e2,e⟩:=qd e
 exact ⟨S,ρ,x,hs,e1,λv H1 g1 d1=>⟨S,ρ,y,hs.same g1,e2,λw H2 g2 d2=>⟨S,x,y,d,hs.1.same (g1.trans g2),d1.same g2,d2,e,λz H3 g3 d3=>q z H3 (g1.trans (g2.trans g3)) d3⟩⟩⟩
theorem qG {op:Operator}{g:aG}(ho:OpD X (bY op) g)(ha:PD X M a fa)(hb:PD X M b fb):PD X M (.BinOp a op b pos) (ev2 fa fb g):=(qly ho ha hb).weak tD2
theorem jP {op:CmpOp}{g:aG}(ho:OpD X (bQ op) g)(ha:PD X M a fa)(hb:PD X M b fb)(hm:cE op b=false):PD X M (.Compare a [op] [b] pos) (ev2 fa fb g):=(qkI ho ha hb hm).weak tD2
theorem Jy {op:UnaryOp}{g:Ka->Option Ka}(ho:UnD X (unaryOp op) g)(ha:PD X M a fa):PD X M (.UnaryOp op a pos) (ev1 fa g) :=
 (pe_un ho ha).weak λσ H Q ⟨S,ρ,d,hs,e,q⟩=>by
  obtain ⟨x,e1,e⟩:=qd e
  exact ⟨S,ρ,x,hs,e1,λv H1 g1 d1=>⟨S,x,d,hs.1.same g1,d1,e,λz H3 g3 d3=>q z H3 (g1.trans g3) d3⟩⟩
def ixD:Ka->Ka->Option Ka
 | .tuple ds,.int i=>atI ds i
 | .list ds,.int i=>atI ds i
 | _,_=>none
theorem DenL.atI {K:Kb}{H:Hp}{S:Av}{vs:List V}{ds:ae}{i:Int}{d:Ka}(h:DenL K H S vs ds)(e:atI ds i=some d):∃ v,L2.atI vs i=some v/\Den K H S v d:=by
 unfold L2.atI at e ⊢
 rw [h.length]
 cases q:ixN ds.length i with
 | none=>rw [q] at e;cases e
 | some j=>rw [q] at e;exact h.get e
theorem qp (ha:PD X M a fa)(hb:PD X M b fb)(hs:wF b:=by intro _ _;rfl):PD X M (.Subscript a b pos) (ev2 fa fb ixD) :=
 (qfZ (r:=λx y H Q=>rIxL X.K x y H Q\/rIxT X.K x y H Q) (qal.or qcx) ha hb hs).weak λσ H Q ⟨S,ρ,d,hs,e,q⟩=>by
  obtain ⟨x,e1,e⟩:=qd e
  obtain ⟨y,e2,e⟩:=qd e
  refine ⟨S,ρ,x,hs,e1,λv H1 g1 d1=>⟨S,ρ,y,hs.same g1,e2,λw H2 g2 d2=>?_⟩⟩
  have d1':=d1.same g2
  cases d1' with
  | list h t =>
   cases d2 with
   | int i=>obtain ⟨z,z1,z2⟩:=t.atI e;exact .inl ⟨_,_,_,_,rfl,rfl,h.sq,z1,q z H2 (g1.trans g2) z2⟩
   | _=>cases e
  | tuple h t =>
   cases d2 with
   | int i=>obtain ⟨z,z1,z2⟩:=t.atI e;exact .inr ⟨_,_,_,_,rfl,rfl,h,z1,q z H2 (g1.trans g2) z2⟩
   | _=>cases e
  | _=>cases e
theorem zV:PDA X M [] aN:=qa7.weak λσ H Q ⟨S,_,d,_,e,q⟩=>by cases e;exact q [] H (Same.refl H) .nil
theorem qT {fs:ab}(ha:PD X M a fa)(hr:PDA X M es fs)(hs:bG (a::es) X.env=(false,eval a X.env)::bG es X.env:=by rfl):PDA X M (a::es) (aC fa fs) :=
 (jd ha hr hs).weak λσ H Q ⟨S,ρ,d,hs,e,q⟩=>by
  obtain ⟨x,e1,e⟩:=qd e
  obtain ⟨xs,e2,e⟩:=qd e
  cases e
  exact ⟨S,ρ,x,hs,e1,λv H1 g1 d1=>⟨S,ρ,xs,hs.same g1,e2,λvs H2 g2 d2=>q _ H2 (g1.trans g2) (.cons (d1.same g2) d2)⟩⟩
def tupD (ds:ae):Option Ka:=if ds.length<=1000 then some (.tuple ds) else none
def lstD (ds:ae):Option Ka:=if ds.length<=1000 then some (.list ds) else none
theorem WQ {ds:ae}{d:Ka}(h:tupD ds=some d):ds.length<=1000/\d=.tuple ds:=by
 unfold tupD at h
 split at h
 ·rename_i q;cases h;exact ⟨q,rfl⟩
 ·cases h
theorem qb1 {ds:ae}{d:Ka}(h:lstD ds=some d):ds.length<=1000/\d=.list ds:=by
 unfold lstD at h
 split at h
 ·rename_i q;cases h;exact ⟨q,rfl⟩
 ·cases h
theorem qY {fs:ab}{x1}(h:PDA X M es fs):PD X M (.Tuple es x1 pos) (evA fs tupD) :=
 (qeS h).weak λσ H Q ⟨S,ρ,d,hs,e,q⟩=>by
  obtain ⟨xs,e1,e⟩:=qd e
  obtain ⟨hz,rfl⟩:=WQ e
  refine ⟨S,ρ,xs,hs,e1,λvs H1 g1 d1=>⟨VA (zB (by rw [d1.length];exact hz)),λp hp=>?_⟩⟩
  exact q _ _ (g1.lay' hp) (.tuple (SqT.of qU) (d1.same (Same.lay hp)))
theorem qbb {fs:ab}(h:PDA X M es fs):PD X M (.List es pos) (evA fs lstD) :=
 (qiG h).weak λσ H Q ⟨S,ρ,d,hs,e,q⟩=>by
  obtain ⟨xs,e1,e⟩:=qd e
  obtain ⟨hz,rfl⟩:=qb1 e
  refine ⟨S,ρ,xs,hs,e1,λvs H1 g1 d1=>⟨VA (zB (by rw [d1.length];exact hz)),λp hp=>?_⟩⟩
  exact q _ _ (g1.lay' hp) (.list (SqLS.new qU ((hs.1.same g1).free hp)) (d1.same (Same.lay hp)))
def spF (K:Kb)(n:Nat)(f:ak):Sp:=λvs H Q _=>∃ S ds d,Dm S H/\DenL K H S vs ds/\ds.length=n/\f ds=some d/\∀ v H',Same H H'->Den K H' S v d->Q v H'
theorem qkA {CX:CXT}{k n:Nat}{fn:Ke}{fd:Vp}{ps:aB}{h:ak}{E:XK}{x:Str}{p:Pos}{fs:ab}(F:FnOk X.prog X.w X.K X.mg X.base CX k fn fd ps (spF X.K n h))(hr:Room k X.A)(hg:Gl X x)(hm:X.mg x=some (.ref fn))(hk:Vl X.K (.ref fn)=true)
  (hb:Binds X.K fd ps []) (hx:qci CX X E) (ha:PDA X M (a::es) fs) (hl:(a::es).length=n) (hdb:'+'=false:=by decide +kernel) (he:bG (a::es) X.env=(false,eval a X.env)::bG es X.env:=by rfl) (hpl:(bT pos (bG es X.env)).any (·.1)=false:=by rfl) :
  PD X M (.Call (.Name x p) (a::es) [] pos) (evC n fs h) :=
 (Yj F hr hg hm hk hb .nil hx ha hdb he hpl).weak λσ H Q ⟨S,ρ,d,hs,e,q⟩=>by
  obtain ⟨ds,e1,e⟩:=qd e
  have e:(if ds.length=n then h ds else none)=some d:=e
  split at e
  ·rename_i hn
   exact ⟨S,ρ,ds,hs,e1,λvs H1 g1 d1=>⟨S,ds,d,hs.1.same g1,by rw [VM];exact d1,hn,e,λv H' g2 d2=>q v H' (g1.trans g2) d2⟩⟩
  ·cases e
theorem zc {id:String}{x:Str}{p:Pos}{h:ak}{fs:ab}(hc:CallD X (.builtin id) h)(hg:Gl X x)(hm:X.mg x=none)(hv:bS x=some (.builtin id))(ha:PDA X M (a::es) fs)(hn:x ≠ "__name__" := by decide +kernel)(hdb:'+'=false:=by decide +kernel)
  (he:bG (a::es) X.env=(false,eval a X.env)::bG es X.env:=by rfl) (hpl:(bT pos (bG es X.env)).any (·.1)=false:=by rfl):PD X M (.Call (.Name x p) (a::es) [] pos) (evA fs h) :=
 (qbg hc hg hm hv ha hn hdb he hpl).weak λσ H Q ⟨S,ρ,d,hs,e,q⟩=>by
  obtain ⟨ds,e1,e⟩:=qd e
  exact ⟨S,ρ,ds,hs,e1,λvs H1 g1 d1=>⟨S,ds,d,hs.1.same g1,d1,e,λv H' g2 d2=>q v H' (g1.trans g2) d2⟩⟩
theorem jA {T:String}{x:Str}{p:Pos}{h:ak}{fs:ab}(hc:CallD X (.type T) h)(hg:Gl X x)(hm:X.mg x=none)(hv:bS x=some (.type T))(ha:PDA X M (a::es) fs)(hn:x ≠ "__name__" := by decide +kernel)(hdb:'+'=false:=by decide +kernel)
  (he:bG (a::es) X.env=(false,eval a X.env)::bG es X.env:=by rfl) (hpl:(bT pos (bG es X.env)).any (·.1)=false:=by rfl):PD X M (.Call (.Name x p) (a::es) [] pos) (evA fs h) :=
 (qg4 hc hg hm hv ha hn hdb he hpl).weak λσ H Q ⟨S,ρ,d,hs,e,q⟩=>by
  obtain ⟨ds,e1,e⟩:=qd e
  exact ⟨S,ρ,ds,hs,e1,λvs H1 g1 d1=>⟨S,ds,d,hs.1.same g1,d1,e,λv H' g2 d2=>q v H' (g1.trans g2) d2⟩⟩
def tyS:Ka->String
 | .none => "NoneType" | .bool _ => "bool" | .int _ => "int" | .str _ => "str" | .list _ => "list" | .tuple _ => "tuple" | .dict _ => "dict"
noncomputable def isiT (T:String):Ka->Bool
 | .none=>T == "NoneType" || T == "object"
 | .bool _=>T == "bool" || T == "int" || T == "object"
 | .int _=>T == "int" || T == "object"
 | .str _=>T == "str" || T == "object"
 | .list _=>T == "list" || T == "object"
 | .tuple _=>T == "tuple" || T == "object"
 | .dict _=>T == "dict" || T == "object"
def isiD (T:String)(d:Ka):Option Ka:=some (.bool (isiT T d))
def qc9 (K:Kb)(T:String):Prop:=∀ d:Ka,VB K (.type (tyS d)) (.type T)=some (isiT T d)
theorem qfG (K:Kb):qc9 K "int" := λd=>by cases d<;>rfl
theorem qdO (K:Kb):qc9 K "bool" := λd=>by cases d<;>rfl
theorem kit_tuple (K:Kb):qc9 K "tuple" := λd=>by cases d<;>rfl
theorem qdP (K:Kb):qc9 K "list" := λd=>by cases d<;>rfl
theorem qfv {K:Kb}{T:String}{C:Ke}{c:Str}{d:Ka}(hT:T∈wQ)(h:xcB K C=true):VB K (.ref C) (.type T)=some (isiT T (excD c d)):=by
 rw [(qjp h).ts T hT]
 have:(T == "dict" || T == "object")=false:=by
  simp only [wQ,Kr,VW,cC] at hT
  rcases hT with rfl|rfl|rfl|rfl|rfl<;>decide +kernel
 exact congrArg some this.symm
theorem qj5 {K:Kb}{T:String}{C:Ke}{c:Str}(hT:T∈wQ)(h:icB K C=true):VB K (.ref C) (.type T)=some (isiT T (objD c)):=by
 rw [(qex h).ts T hT]
 have:(T == "dict" || T == "object")=false:=by
  simp only [wQ,Kr,VW,cC] at hT
  rcases hT with rfl|rfl|rfl|rfl|rfl<;>decide +kernel
 exact congrArg some this.symm
theorem Je {T:String}{p p2:Pos}(kit:qc9 X.K T)(hg:Gl X "isinstance")(hm:X.mg "isinstance" = none)(hgT:Gl X (Kg T))(hmT:X.mg (Kg T)=none)(hvT:bS (Kg T)=some (.type T))(hv:bS "isinstance" = some (.builtin "isinstance"))(ha:PD X M a fa)(hnT:Kg T ≠ "__name__" := by decide +kernel)(hdT:(Kg T==("__debug__" : Str))=false:=by decide +kernel)(hT:T∈wQ:=by decide +kernel)
  (he:bG [a,.Name (Kg T) p2] X.env=(false,eval a X.env)::bG [.Name (Kg T) p2] X.env:=by rfl) (hpl:(bT pos (bG [.Name (Kg T) p2] X.env)).any (·.1)=false:=by rfl)
  (hs2:bG [.Name (Kg T) p2] X.env=(false,eval (.Name (Kg T) p2) X.env)::bG [] X.env:=by rfl) :
  PD X M (.Call (.Name "isinstance" p) [a,.Name (Kg T) p2] [] pos) (ev1 fa (isiD T)) :=
 (qbg (qhq.or (qgm.or qgl)) hg hm hv (jd ha (jd (qkH (v:=.ty T) hgT hmT hvT rfl hnT hdT) qa7 hs2) he) (by decide +kernel) (by decide +kernel) he hpl).weak λσ H Q ⟨S,ρ,d,hs,e,q⟩=>by
  obtain ⟨x,e1,e⟩:=qd e
  cases e
  refine ⟨S,ρ,x,hs,e1,λv H1 g1 d1=>?_⟩
  have fin:=q (.bl (isiT T x)) H1 g1 (.bool _)
  have k:=kit x
  show rIsi X.K [v,.ty T] H1 Q\/qlC X.K [v,.ty T] H1 Q\/qlB X.K [v,.ty T] H1 Q
  cases d1 with
  | none=>exact .inl ⟨_,_,_,_,rfl,.non,k,fin⟩
  | bool y=>exact .inl ⟨_,_,_,_,rfl,.bl y,k,fin⟩
  | int y=>exact .inl ⟨_,_,_,_,rfl,.int y,k,fin⟩
  | str y=>exact .inl ⟨_,_,_,_,rfl,.str y,k,fin⟩
  | list h t=>exact .inl ⟨_,_,_,_,rfl,.lst h.sq,k,fin⟩
  | tuple h t=>exact .inl ⟨_,_,_,_,rfl,.tup h,k,fin⟩
  | dict h k2 t=>exact .inl ⟨_,_,_,_,rfl,.dct h.1,k,fin⟩
  | exc0 h o=>exact .inr (.inl ⟨_,_,_,_,rfl,⟨_,h,o⟩,λC z=>qfv hT z,fin⟩)
  | exc1 h o x y t=>exact .inr (.inl ⟨_,_,_,_,rfl,⟨_,h,o⟩,λC z=>qfv hT z,fin⟩)
  | ins h o=>exact .inr (.inr ⟨_,_,_,_,_,rfl,h,o.2,qj5 hT o.2,fin⟩)
theorem YF {f:aR}{g:aG}{r:R2}(h:OpR X f r)(w:∀ x y dx dy d H S (Q:VK),Dm S H->Den X.K H S x dx->Den X.K H S y dy->g dx dy=some d->(∀ v H',Same H H'->Den X.K H' S v d->Q v H')->r x y H Q):OpD X f g :=
 λbE s σ H x y v u Q I rx ry ⟨S,dx,dy,d,m,h1,h2,e,q⟩=>h bE s σ H x y v u Q I rx ry (w x y dx dy d H S Q m h1 h2 e q)
noncomputable def iiD (h:Int->Int->Option Ka):Ka->Ka->Option Ka
 | .int i,.int j=>h i j
 | _,_=>none
theorem qaL (e:iiD h x y=some d):∃ i j,x=.int i/\y=.int j/\h i j=some d:=by
 cases x<;>cases y<;>first|exact ⟨_,_,rfl,rfl,e⟩|cases e
theorem qku {f:aR}{gi:Int->Int->Int}(h:OpR X f (rI0 λi j=>.int (gi i j))):OpD X f (iiD λi j=>some (.int (gi i j))) :=
 YF h λx y dx dy d H S Q m h1 h2 e q=>by
  obtain ⟨i,j,rfl,rfl,e⟩:=qaL e
  cases h1;cases h2;cases e
  exact ⟨i,j,rfl,rfl,q _ H (Same.refl H) (.int _)⟩
theorem w5 {f:aR}{C:aY}[∀ i j,Decidable (C i j)]{gi:Int->Int->Int}(h:OpR X f (rI C λi j=>.int (gi i j))):OpD X f (iiD λi j=>if C i j then some (.int (gi i j)) else none) :=
 YF h λx y dx dy d H S Q m h1 h2 e q=>by
  obtain ⟨i,j,rfl,rfl,e'⟩:=qaL e
  split at e'
  ·rename_i c
   cases h1;cases h2;cases e'
   exact ⟨i,j,rfl,rfl,c,q _ H (Same.refl H) (.int _)⟩
  ·cases e'
theorem qd0 {f:aR}{gi:Int->Int->Bool}(h:OpR X f (rI0 λi j=>.bl (gi i j))):OpD X f (iiD λi j=>some (.bool (gi i j))) :=
 YF h λx y dx dy d H S Q m h1 h2 e q=>by
  obtain ⟨i,j,rfl,rfl,e⟩:=qaL e
  cases h1;cases h2;cases e
  exact ⟨i,j,rfl,rfl,q _ H (Same.refl H) (.bool _)⟩
instance (i j:Int):Decidable (Nj i j):=by unfold Nj;exact inferInstance
instance (i j:Int):Decidable (CDiv i j):=by unfold CDiv;exact inferInstance
instance (i j:Int):Decidable (CPow i j):=by unfold CPow;exact inferInstance
def subD:Ka->Ka->Option Ka:=iiD λi j=>some (.int (i-j))
def mulD:Ka->Ka->Option Ka:=iiD λi j=>if Nj i j then some (.int (i*j)) else none
def jL:Ka->Ka->Option Ka:=iiD λi j=>if CDiv i j then some (.int (i / j)) else none
def modD:Ka->Ka->Option Ka:=iiD λi j=>if 0<j then some (.int (i % j)) else none
def powD:Ka->Ka->Option Ka:=iiD λi j=>if CPow i j then some (.int (i ^ j.toNat)) else none
theorem j7:OpD X (bY .Sub) subD:=qku qmG
theorem Qm:OpD X (bY .Mult) mulD:=w5 qky
theorem Jc:OpD X (bY .FloorDiv) jL:=w5 qkx
theorem ZX:OpD X (bY .Mod) modD:=w5 (C:=λ_ j=>0<j) qmD
theorem qlp:OpD X (bY .Pow) powD:=w5 qmF
def leD:Ka->Ka->Option Ka:=iiD λi j=>some (.bool (decide (i<=j)))
def gtD:Ka->Ka->Option Ka:=iiD λi j=>some (.bool (decide (j<i)))
theorem d_le:OpD X (bQ .LtE) leD:=qd0 op_le
theorem d_gt:OpD X (bQ .Gt) gtD:=qd0 op_gt
noncomputable def eqD (x y:Ka):Option Ka:=if Vf x=true/\Vf y=true then some (.bool (Kv x y)) else none
noncomputable def neD (x y:Ka):Option Ka:=if Vf x=true/\Vf y=true then some (.bool (!PyData.eqv x y)) else none
theorem d_eq (hr:Room k X.A):OpD X (bQ .Eq) eqD:=YF (qmB hr) λx y dx dy d H S Q m h1 h2 e q=>by
 unfold eqD at e
 split at e
 ·rename_i c;cases e;exact ⟨S,dx,dy,h1,h2,c.1,c.2,q _ H (Same.refl H) (.bool _)⟩
 ·cases e
theorem d_ne (hr:Room k X.A):OpD X (bQ .NotEq) neD:=YF (qmE hr) λx y dx dy d H S Q m h1 h2 e q=>by
 unfold neD at e
 split at e
 ·rename_i c;cases e;exact ⟨S,dx,dy,h1,h2,c.1,c.2,q _ H (Same.refl H) (.bool _)⟩
 ·cases e
noncomputable def negD:Ka->Option Ka
 | .int i=>some (.int (-i))
 | _=>none
theorem Jt:UnD X (unaryOp .USub) negD:=λbE s σ H x v Q I rx ⟨S,dx,d,m,h1,e,q⟩=>qnr bE s σ H x v Q I rx (by
 cases h1<;>first|(cases e;exact ⟨_,rfl,q _ H (Same.refl H) (.int _)⟩)|cases e)
noncomputable def lenD:List Ka->Option Ka
 | [.list ds]=>some (.int ds.length)
 | [.tuple ds]=>some (.int ds.length)
 | _=>none
theorem DenL.seq1 {K:Kb}{H:Hp}{S:Av}{xs:List V}{ds:ae}(h1:DenL K H S xs ds){F:List Ka->Ka}{g:ak}(hg:∀ ds d,g ds=some d->(∃ l,ds=[.list l]/\d=F l)\/∃ l,ds=[.tuple l]/\d=F l){d:Ka}(e:g ds=some d):∃ a ys l,xs=[.ref a]/\d=F l/\DenL K H S ys l/\(SqL K H a ys\/SqT K H a ys):=by
 rcases hg _ _ e with ⟨l,rfl,rfl⟩|⟨l,rfl,rfl⟩
 ·obtain ⟨v,rfl,hv⟩:=h1.inv1
  obtain ⟨a,ys,rfl,hs,t⟩:=hv.list_inv
  exact ⟨a,ys,l,rfl,rfl,t,.inl hs.sq⟩
 ·obtain ⟨v,rfl,hv⟩:=h1.inv1
  obtain ⟨a,ys,rfl,hs,t⟩:=hv.tuple_inv
  exact ⟨a,ys,l,rfl,rfl,t,.inr hs⟩
theorem qgI (ds:ae)(d:Ka)(e:lenD ds=some d):(∃ l,ds=[.list l]/\d=.int (l.length:Nat))\/∃ l,ds=[.tuple l]/\d=.int (l.length:Nat):=by
 unfold lenD at e
 split at e
 ·cases e;exact .inl ⟨_,rfl,rfl⟩
 ·cases e;exact .inr ⟨_,rfl,rfl⟩
 ·cases e
theorem QL:CallD X (.builtin "len") lenD:=λbE s σ H xs us Q I r ⟨S,ds,d,m,h1,e,q⟩=>qcl bE s σ H xs us Q I r (by
 obtain ⟨a,ys,l,rfl,rfl,t,h⟩:=h1.seq1 qgI e
 exact ⟨_,_,rfl,h,by rw [t.length];exact q _ H (Same.refl H) (.int _)⟩)
noncomputable def WR:List Ka->Option Ka
 | [.list ds]=>some (.tuple ds)
 | [.tuple ds]=>some (.tuple ds)
 | _=>none
theorem qck:CallD X (.type "tuple") WR:=λbE s σ H xs us Q I r ⟨S,ds,d,m,h1,e,q⟩=>qby bE s σ H xs us Q I r (by
 cases h1 with
 | nil=>cases e
 | cons a t =>
  cases t with
  | cons a' t'=>cases a<;>cases e
  | nil =>
   cases a with
   | list h t=>cases e;exact ⟨_,_,rfl,.inl ⟨h.sq,λl hl=>q _ _ (Same.lay hl) (.tuple (SqT.of qU) (t.same (Same.lay hl)))⟩⟩
   | tuple h t=>cases e;exact ⟨_,_,rfl,.inr ⟨h,q _ H (Same.refl H) (.tuple h t)⟩⟩
   | _=>cases e)
def W9:List Ka->Option Ka
 | [.list ds]=>some (.list ds)
 | [.tuple ds]=>some (.list ds)
 | _=>none
theorem qeL (ds:ae)(d:Ka)(e:W9 ds=some d):(∃ l,ds=[.list l]/\d=.list l)\/∃ l,ds=[.tuple l]/\d=.list l:=by
 unfold W9 at e
 split at e
 ·cases e;exact .inl ⟨_,rfl,rfl⟩
 ·cases e;exact .inr ⟨_,rfl,rfl⟩
 ·cases e
theorem qhl:CallD X (.type "list") W9:=λbE s σ H xs us Q I r ⟨S,ds,d,m,h1,e,q⟩=>qcm bE s σ H xs us Q I r (by
 obtain ⟨a,ys,l,rfl,rfl,t,h⟩:=h1.seq1 qeL e
 exact ⟨_,_,rfl,h,λl hl=>q _ _ (Same.lay hl) (.list (SqLS.new qU (m.free hl)) (t.same (Same.lay hl)))⟩)
end
noncomputable def wI:Ka->Option Bool
 | .bool b=>some b
 | _=>none
def tV (f:aa):Rho->Option Bool:=λρ=>ob (f ρ) wI
def tN (p:aj):Rho->Option Bool:=λρ=>ob (p ρ) λb=>some (!b)
def tA (p q:aj):Rho->Option Bool:=λρ=>ob (p ρ) λc=>if c=true then q ρ else some false
def tO (p q:aj):Rho->Option Bool:=λρ=>ob (p ρ) λc=>if c=true then some true else q ρ
def tT:Rho->Option Bool:=λ_=>some true
def vA (fa fb:aa):Rho->Option Ka:=λρ=>ob (fa ρ) λx=>ob (wI x) λc=>if c=true then fb ρ else some (.bool false)
def vN (fa:aa):Rho->Option Ka:=λρ=>ob (fa ρ) λx=>ob (wI x) λc=>some (.bool (!c))
def vIf (p:aj)(fa fb:aa):Rho->Option Ka:=λρ=>ob (p ρ) λx=>if x=true then fa ρ else fb ρ
def evI (f:aa)(h:Ka->Option (List Ka)):Rho->Option (List Ka):=λρ=>ob (f ρ) h
def evR (fs:ab)(h:List Ka->Option (List Ka)):Rho->Option (List Ka):=λρ=>ob (fs ρ) h
def sN:Rho->Option Out:=λρ=>some (.nx ρ)
def sRet (f:aa):Rho->Option Out:=λρ=>ob (f ρ) λd=>some (.rt d)
def sIf (p:aj)(u w:ai):Rho->Option Out:=λρ=>ob (p ρ) λb=>if b=true then u ρ else w ρ
def sSet (i:Nat)(f:aa):Rho->Option Out:=λρ=>ob (f ρ) λd=>some (.nx (ρ.set i (some d)))
def sAsg (f:aa)(g:af):Rho->Option Out:=λρ=>ob (f ρ) λd=>ob (g d ρ) λρ'=>some (.nx ρ')
def gNm (i:Nat):Ka->Rho->Option Rho:=λd ρ=>some (ρ.set i (some d))
def gsN:List Ka->Rho->Option Rho:=λds ρ=>match ds with | []=>some ρ|_=>none
def gsC (g1:af)(g2:aF):List Ka->Rho->Option Rho:=λds ρ=>match ds with | d::r=>ob (g1 d ρ) λρ'=>g2 r ρ'|[]=>none
def sBk:Rho->Option Out:=λρ=>some (.bk ρ)
def sCt:Rho->Option Out:=λρ=>some (.ct ρ)
section
variable {X:Cx}{M:aq}{a b c:KB}{es rest:aJ}{f g fa fb:aa}{p q:aj}{pos:Pos}
theorem Z1 {d:Ka}{b:Bool}(h:wI d=some b):d=.bool b:=by cases d<;>first|(cases h;rfl)|cases h
theorem ZR (h:PD X M a f)(he:∀ whole,isTrue a X.env whole=(do let v ← whole;cV a.pos;holding [v] (truthy v)):=by intro _;rfl):PDT X M a (tV f) :=
 (qmX h he).weak λσ H Q ⟨S,ρ,d,hs,e,q⟩=>by
  obtain ⟨x,e1,e⟩:=qd e
  cases Z1 e
  exact ⟨S,ρ,_,hs,e1,λv H1 g1 d1=>⟨d,d1.bool_inv,q H1 g1⟩⟩
theorem q8 {op:CmpOp}{g:aG}(ho:OpD X (bQ op) g)(ha:PD X M a fa)(hb:PD X M b fb)(hm:cE op b=false):PDT X M (.Compare a [op] [b] pos) (tV (ev2 fa fb g)) :=
 (qkQ ho ha hb hm).weak λσ H Q ⟨S,ρ,d,hs,e,q⟩=>by
  obtain ⟨x,e1,e⟩:=qd e
  cases Z1 e
  exact tD2 σ H _ ⟨S,ρ,_,hs,e1,λv H1 g1 d1=>⟨d,d1.bool_inv,q H1 g1⟩⟩
theorem Zi (h:PDT X M a p):PDT X M (.UnaryOp .Not a pos) (tN p) :=
 (qmW h).weak λσ H Q ⟨S,ρ,d,hs,e,q⟩=>by
  obtain ⟨x,e1,e⟩:=qd e
  cases e
  exact ⟨S,ρ,x,hs,e1,λH1 g1=>q H1 g1⟩
def PDW (X:Cx)(M:aq)(e:KB)(f:aj):Prop:=PW X e (tDT X.K M f)
theorem PDW.pdt (h:PDW X M a p):PDT X M a p:=PW.pt h
theorem qiE (h:PDT X M a p):PDW X M (.BoolOp .And [a] pos) p:=qkU h
theorem Ja (h:PDT X M a p):PDW X M (.BoolOp .Or [a] pos) p:=qmZ h
theorem qfW (ha:PDT X M a p)(hb:PDW X M (.BoolOp .And (b::rest) pos) q):PDW X M (.BoolOp .And (a::b::rest) pos) (tA p q) :=
 (qmY ha hb).weak λσ H Q ⟨S,ρ,d,hs,e,w⟩=>by
  obtain ⟨x,e1,e⟩:=qd e
  refine ⟨S,ρ,x,hs,e1,λH1 g1=>?_⟩
  cases x with
  | true=>exact iteT ⟨S,ρ,d,hs.same g1,e,λH2 g2=>w H2 (g1.trans g2)⟩
  | false=>cases e;exact iteF (w H1 g1)
theorem yL (ha:PDT X M a p)(hb:PDW X M (.BoolOp .Or (b::rest) pos) q):PDW X M (.BoolOp .Or (a::b::rest) pos) (tO p q) :=
 (pw_or ha hb).weak λσ H Q ⟨S,ρ,d,hs,e,w⟩=>by
  obtain ⟨x,e1,e⟩:=qd e
  refine ⟨S,ρ,x,hs,e1,λH1 g1=>?_⟩
  cases x with
  | true=>cases e;exact iteT (w H1 g1)
  | false=>exact iteF ⟨S,ρ,d,hs.same g1,e,λH2 g2=>w H2 (g1.trans g2)⟩
theorem JV {op}(h:PD X M a f):PD X M (.BoolOp op [a] pos) f:=qmP h
theorem Z8 (ha:PD X M a fa)(hb:PD X M (.BoolOp .And (b::rest) pos) fb):PD X M (.BoolOp .And (a::b::rest) pos) (vA fa fb) :=
 (qmL ha hb).weak λσ H Q ⟨S,ρ,d,hs,e,w⟩=>by
  obtain ⟨x,e1,e⟩:=qd e
  obtain ⟨c,e2,e⟩:=qd e
  cases Z1 e2
  refine ⟨S,ρ,_,hs,e1,λv H1 g1 d1=>⟨c,d1.bool_inv,?_⟩⟩
  cases c with
  | true=>exact iteT ⟨S,ρ,d,hs.same g1,e,λv H2 g2 d2=>w v H2 (g1.trans g2) d2⟩
  | false=>cases e;exact iteF (w _ H1 g1 (.bool false))
theorem qiv (ha:PD X M a fa):PD X M (.UnaryOp .Not a pos) (vN fa) :=
 (qmO ha).weak λσ H Q ⟨S,ρ,d,hs,e,w⟩=>by
  obtain ⟨x,e1,e⟩:=qd e
  obtain ⟨c,e2,e⟩:=qd e
  cases Z1 e2
  cases e
  exact ⟨S,ρ,_,hs,e1,λv H1 g1 d1=>⟨c,d1.bool_inv,w _ H1 g1 (.bool _)⟩⟩
theorem qba (hc:PDT X M c p)(ha:PD X M a fa)(hb:PD X M b fb):PD X M (.IfExp c a b pos) (vIf p fa fb) :=
 (qiF hc ha hb).weak λσ H Q ⟨S,ρ,d,hs,e,w⟩=>by
  obtain ⟨x,e1,e⟩:=qd e
  refine ⟨S,ρ,x,hs,e1,λH1 g1=>?_⟩
  cases x with
  | true=>exact iteT ⟨S,ρ,d,hs.same g1,e,λv H2 g2 d2=>w v H2 (g1.trans g2) d2⟩
  | false=>exact iteF ⟨S,ρ,d,hs.same g1,e,λv H2 g2 d2=>w v H2 (g1.trans g2) d2⟩
structure IsIt (K:Kb)(S:Av)(J:It)(H:Hp)(ds:ae):Prop where
 go:∀ (i:Nat) (H':Hp),Same H H'->i<ds.length->J.go i H'
 yld:∀ (i:Nat) (H':Hp) (x:V) (H2:Hp),Same H H'->J.yld i H' x H2->Same H' H2/\∀ d,ds[i]?=some d->∀ S':Av,(∀ y e,Den K H S y e->Den K H2 S' y e)->Den K H2 S' x d
 stop:∀ H':Hp,Same H H'->J.stop ds.length H'
theorem IsIt.lst {K:Kb}{H:Hp}{S:Av}{l:Ke}{xs:List V}{ds:ae}(h:SqL K H l xs)(t:DenL K H S xs ds):IsIt K S (Itl K l) H ds where
 go:=λi H' e hi=>by
  have hi':i<xs.length:=by rw [t.length];exact hi
  exact ⟨xs,xs[i],e.seq h,Kk hi'⟩
 yld:=λi H' x H2 e ⟨e2,q⟩=>⟨by rw [e2];exact Same.refl _,λd hd S' w=>by
  obtain ⟨v,h1,h2⟩:=t.get hd
  have:=q xs (e.seq h)
  rw [h1] at this
  cases this
  exact w _ _ h2⟩
 stop:=λH' e=>⟨xs,e.seq h,by rw [t.length];exact Kp _⟩
theorem IsIt.tup {K:Kb}{H:Hp}{S:Av}{l:Ke}{xs:List V}{ds:ae}(h:SqT K H l xs)(t:DenL K H S xs ds):IsIt K S (Itt K l) H ds where
 go:=λi H' e hi=>by
  have hi':i<xs.length:=by rw [t.length];exact hi
  exact ⟨xs,xs[i],e.sqT h,Kk hi'⟩
 yld:=λi H' x H2 e ⟨e2,q⟩=>⟨by rw [e2];exact Same.refl _,λd hd S' w=>by
  obtain ⟨v,h1,h2⟩:=t.get hd
  have:=q xs (e.sqT h)
  rw [h1] at this
  cases this
  exact w _ _ h2⟩
 stop:=λH' e=>⟨xs,e.sqT h,by rw [t.length];exact Kp _⟩
theorem SqLS.off {K:Kb}{H H':Hp}{S:Av}{a:Ke}{xs:List V}(e:Off S H H')(h:SqLS K H S a xs):SqLS K H' S a xs:=h.imp (λq=>⟨q.1.off e q.2,q.2⟩) id
theorem SqT.off {K:Kb}{H H':Hp}{S:Av}{a:Ke}{xs:List V}(m:Dm S H)(e:Off S H H')(h:SqT K H a xs):SqT K H' a xs:=h.imp (λq=>q.off e (m.tup q)) id
def rngL:Int->Nat->List Ka
 | _,0=>[]
 | lo,n+1=>.int lo::rngL (lo+1) n
theorem yM:∀ (lo:Int) (n:Nat),(rngL lo n).length=n
 | _,0=>rfl
 | lo,n+1=>by rw [rngL,Kw,yM]
theorem qeh:∀ (lo:Int) (n i:Nat) (d:Ka),(rngL lo n)[i]?=some d->d=.int (lo+i)
 | _,0,_,_,h=>by simp [rngL] at h
 | lo,n+1,0,d,h=>by simp [rngL] at h;subst h;simp
 | lo,n+1,i+1,d,h=>by
  have:=qeh (lo+1) n i d (by simpa [rngL] using h)
  rw [this]
  congr 1
  omega
theorem IsIt.rng {K:Kb}{H:Hp}{S:Av}(lo:Int)(n:Nat):IsIt K S (Itr lo n) H (rngL lo n) where
 go:=λi H' e hi=>by rw [yM] at hi;exact hi
 yld:=λi H' x H2 e ⟨e2,q⟩=>⟨by rw [e2];exact Same.refl _,λd hd _ _=>by
  have q':x=.int (lo+i):=q
  rw [qeh lo n i d hd,q']
  exact .int _⟩
 stop:=λH' e=>by rw [yM];exact Kp n
def tDI (K:Kb)(M:aq)(f:ab):TI:=λσ H R=>∃ S ρ ds,DenS K H S M σ ρ/\f ρ=some ds/\∀ J H',Same H H'->(∀ H2,Off S H' H2->IsIt K S J H2 ds)->R J H'
def PDI (X:Cx)(M:aq)(tg iter:KB)(f:ab):Prop:=PI X tg iter (tDI X.K M f)
theorem PI.weak  (h:PI X tg e t) (w:∀ σ H R,t' σ H R->t σ H R):PI X tg e t':=λbE s σ H Q I q=>h bE s σ H Q I (w σ H Q q)
def iSeq (K:Kb)(tl:TE):TI:=λσ H R=>tl σ H λx H1=>∃ a,x=.ref a/\(((∃ xs,SqL K H1 a xs)/\R (Itl K a) H1)\/((∃ xs,SqT K H1 a xs)/\R (Itt K a) H1))
theorem qmR (hl:PE X l tl):PI X tg l (iSeq X.K tl):=by
 intro bE s σ H R I h
 refine thn (hl bE s σ H _ I h) λv s1 ⟨x,H1,I1,r1,q1⟩=>?_
 obtain ⟨a,e,q1⟩:=q1
 subst e
 cases r1
 have fp:∀ b∈[s1.heap.objs.size],FpOk X bE H1 b:=λb hb=>by
  have e:b=s1.heap.objs.size:=by simpa using hb
  subst e
  exact I1.fpOk (Kp _) (I1.hok.fresh (Kp _))
 rcases q1 with ⟨⟨xs,hq⟩,q⟩|⟨⟨xs,hq⟩,q⟩
 ·obtain ⟨its,rv,p,hz⟩:=I1.list hq
  refine wpAny_pyIter_list p.isList ?_
  exact ⟨s1.heap.objs.size,[s1.heap.objs.size],_,_,H1,rfl,I1.kept (t':=s1.toks) λb o e=>Ki _ e,qhd a _,⟨_,Kx _ rfl,rfl,rfl⟩,fp,q⟩
 ·obtain ⟨its,rv,p,hz⟩:=I1.tuple hq
  refine Xv (show s1.heap.IsTuple a its.toArray from p) ?_
  exact ⟨s1.heap.objs.size,[s1.heap.objs.size],_,_,H1,rfl,I1.kept (t':=s1.toks) λb o e=>Ki _ e,qe6 a _,⟨_,Kx _ rfl,rfl,rfl⟩,fp,q⟩
noncomputable def seqD:Ka->Option (List Ka)
 | .list ds=>some ds
 | .tuple ds=>some ds
 | _=>none
theorem zW (h:PD X M a f):PDI X M tg a (evI f seqD) :=
 (qmR h).weak λσ H R ⟨S,ρ,ds,hs,e,w⟩=>by
  obtain ⟨x,e1,e⟩:=qd e
  refine ⟨S,ρ,x,hs,e1,λv H1 g1 d1=>?_⟩
  cases d1 with
  | list h t=>cases e;exact ⟨_,rfl,.inl ⟨⟨_,h.sq⟩,w _ _ g1 λH2 o=>IsIt.lst (h.off o).sq (t.off (hs.1.same g1) o)⟩⟩
  | tuple h t=>cases e;exact ⟨_,rfl,.inr ⟨⟨_,h⟩,w _ _ g1 λH2 o=>IsIt.tup (h.off (hs.1.same g1) o) (t.off (hs.1.same g1) o)⟩⟩
  | _=>cases e
noncomputable def Zy:List Ka->Option (List Ka)
 | [.int j]=>if -1000<=j/\j<=1000 then some (rngL 0 j.toNat) else none
 | _=>none
theorem jR {tg:KB}{fs:ab}{p:Pos}(hg:Gl X "range")(hm:X.mg "range" = none)(ha:PDA X M [a] fs)(hs:bG [a] X.env=[(false,eval a X.env)]:=by rfl):PDI X M tg (.Call (.Name "range" p) [a] [] pos) (evR fs Zy) :=
 (qb8 hg hm ha hs).weak λσ H R ⟨S,ρ,ds,hs,e,w⟩=>by
  obtain ⟨xs,e1,e⟩:=qd e
  refine ⟨S,ρ,xs,hs,e1,λvs H1 g1 d1=>?_⟩
  unfold Zy at e
  split at e
  ·rename_i j
   split at e
   ·rename_i hj
    cases e
    obtain ⟨v,rfl,q⟩:=d1.inv1
    cases q
    exact ⟨j,rfl,by omega,by omega,w _ _ g1 λ_ _=>IsIt.rng 0 _⟩
   ·cases e
  ·cases e
def Zc (tt:aj)(te:aa)(ρ:Rho):List Ka->Option (List Ka)
 | []=>some []
 | d::ds=>ob (tt (ρ++[some d])) λb=>if b=true then ob (te (ρ++[some d])) λy=>ob (Zc tt te ρ ds) λys=>some (y::ys) else Zc tt te ρ ds
def jJ (n:Nat)(fi:ab)(tt:aj)(te:aa)(ρ:Rho):Option Ka :=
 ob (fi ρ) λds=>if ρ.length=n/\ds.length<=1000 then ob (Zc tt te ρ ds) λys=>some (.list ys) else none
def PDTs (X:Cx)(M:aq)(ifs:aJ)(p:aj):Prop:=PTs X ifs (tDT X.K M p)
theorem Q4:PDTs X M [] tT:=λbE s σ H Q I ⟨S,ρ,b,hs,e,q⟩=>by
 cases e
 exact qkR bE s σ H Q I (q H (Same.refl H))
theorem qiD (h:PDT X M c p):PDTs X M [c] p:=qkS h
def lc1 (sc:V9)(x:Str):Bool:=decide (sc.names.lookup x=some .local)||decide (sc.names.lookup x=some .cell)
theorem Wh {env:Env}:∀ {names:List (Str×NameKind)} {x:Str},names.lookup x=some .cell->
  (names.map λ(n,k)=>if (k==Vq&&env.scope.kind==.function&&env.kindOf n==some .cell) then (n,VV) else (n,k)).lookup x=some .cell
 | [],_,h=>by simp at h
 | (n,k)::r,x,h=>by
  have ih:=@Wh env r x
  show NW x ((if (k==Vq&&env.scope.kind==.function&&env.kindOf n==some .cell)=true then (n,VV) else (n,k))::_)=_
  rw [Vr] at h
  by_cases hx:(x==n)=true
  ·rw [hx] at h;cases h
   split<;>rw [Vr,hx]
  ·rw [Eh.mpr hx] at h
   split<;>rw [Vr,Eh.mpr hx]<;>exact ih h
def tDGc (K:Kb)(M:aq)(g:af):TG:=λv σ H Q=>∃ S ρ d ρ',DenS K H S M σ ρ/\Den K H S v d/\g d ρ=some ρ'/\∀ σ' H',Same H H'->DenS K H' S M σ' ρ'->Q σ' H'
def tDGcs (K:Kb)(M:aq)(g:aF):TGs:=λvs σ H Q=>∃ S ρ ds ρ',DenS K H S M σ ρ/\DenL K H S vs ds/\g ds ρ=some ρ'/\∀ σ' H',Same H H'->DenS K H' S M σ' ρ'->Q σ' H'
def PDGc (X:Cx)(M:aq)(t:KB)(g:af):Prop:=PG X t (tDGc X.K M g)
def qfb (X:Cx)(M:aq)(t:aJ)(g:aF):Prop:=PGs X t (tDGcs X.K M g)
theorem PG.weak  (h:PG X e t) (w:∀ v σ H Q,t' v σ H Q->t v σ H Q):PG X e t':=λbE s σ H v u Q I r q=>h bE s σ H v u Q I r (w v σ H Q q)
theorem PGs.weak  (h:PGs X e t) (w:∀ v σ H Q,t' v σ H Q->t v σ H Q):PGs X e t':=λbE s σ H v u Q I r q=>h bE s σ H v u Q I r (w v σ H Q q)
def unpD (n:Nat)(g:aF):Ka->Rho->Option Rho
 | .tuple ds,ρ=>if ds.length=n then g ds ρ else none
 | _,_=>none
theorem qb4 (i:Nat)(hN:X.N.Nodup)(hx:Loc X.env.scope x)(hi:X.N[i]?=some x)(hf:X.fn x=true\/X.env.scope.names.lookup x=some .local):PDGc X M (.Name x pos) (gNm i) :=
 (qf0 hN hi hx hf).weak λv σ H Q ⟨S,ρ,d,ρ',hs,hd,e,q⟩=>by
  cases e
  exact q _ H (Same.refl H) (hs.set hd i)
theorem qb5:qfb X M [] gsN :=
 qf1.weak λv σ H Q ⟨S,ρ,d,ρ',hs,hd,e,q⟩=>by
  cases hd with
  | nil=>cases e;exact ⟨rfl,q _ H (Same.refl H) hs⟩
  | cons a t=>cases e
theorem Z9  (h1:PDGc X M t g1) (h2:qfb X M ts g2) (hs:(bV (t::ts) X.env).map (·.2)=assign t X.env::(bV ts X.env).map (·.2):=by rfl) :
  qfb X M (t::ts) (gsC g1 g2) :=
 (qd9 h1 h2 hs).weak λv σ H Q ⟨S,ρ,d,ρ',hs,hd,e,q⟩=>by
  cases hd with
  | nil=>cases e
  | cons a t =>
   obtain ⟨ρ1,e1,e⟩:=qd e
   exact ⟨_,_,rfl,S,ρ,_,ρ1,hs,a,e1,λσ' H' g1 hs'=>⟨S,ρ1,_,ρ',hs',t.same g1,e,λσ2 H2 g2 hs2=>q σ2 H2 (g1.trans g2) hs2⟩⟩
theorem qd5 {ts:aJ}{k:Nat}{n:Nat}{g:aF}(hc:X.calm=true)(h:qfb X M ts g)(hn:(bV ts X.env).length=n:=by rfl)(hst:(bV ts X.env).findIdx? (·.1)=none:=by rfl):PDGc X M (.Tuple ts k pos) (unpD n g) :=
 (qiL hc h hn hst).weak λv σ H Q ⟨S,ρ,d,ρ',hs,hd,e,q⟩=>by
  cases hd with
  | @tuple a xs ds h t =>
   have e:(if ds.length=n then g ds ρ else none)=some ρ':=e
   split at e
   ·rename_i hl
    exact ⟨_,_,rfl,h,by rw [t.length];exact hl,S,ρ,_,ρ',hs,t,e,q⟩
   ·cases e
  | _=>cases e
def GIn (n k:Nat)(g:af):Prop:=∀ d (ρ r ρ1:Rho),ρ.length=n->r.length=k->g d (ρ++r)=some ρ1->∃ r',r'.length=k/\ρ1=ρ++r'
def GIns (n k:Nat)(g:aF):Prop:=∀ d (ρ r ρ1:Rho),ρ.length=n->r.length=k->g d (ρ++r)=some ρ1->∃ r',r'.length=k/\ρ1=ρ++r'
theorem QZ (h:n<=i):GIn n k (gNm i):=λd ρ r ρ1 h1 h2 e=>by
 cases e
 refine ⟨r.set (i-n) (some d),by rw [VN];exact h2,?_⟩
 rw [EY _ _ (by omega),h1]
theorem qdw:GIns n k gsN:=λd ρ r ρ1 h1 h2 e=>by
 cases d with
 | nil=>cases e;exact ⟨r,h2,rfl⟩
 | cons _ _=>cases e
theorem jz  (a:GIn n k g1) (b:GIns n k g2):GIns n k (gsC g1 g2):=λd ρ r ρ1 h1 h2 e=>by
 cases d with
 | nil=>cases e
 | cons d ds =>
  obtain ⟨ρ2,e1,e2⟩:=qd e
  obtain ⟨r1,l1,rfl⟩:=a d ρ r ρ2 h1 h2 e1
  exact b ds ρ r1 ρ1 h1 l1 e2
theorem qfz {n k m:Nat}{g:aF}(a:GIns n k g):GIn n k (unpD m g):=λd ρ r ρ1 h1 h2 e=>by
 cases d with
 | tuple ds =>
  have e:(if ds.length=m then g ds (ρ++r) else none)=some ρ1:=e
  split at e
  ·exact a ds ρ r ρ1 h1 h2 e
  ·cases e
 | _=>cases e
def QM (k:Nat)(g:af)(tt:aj)(te:aa)(ρ:Rho):List Ka->Option (List Ka)
 | []=>some []
 | d::ds=>ob (g d (ρ++Vt k none)) λρ1=>ob (tt ρ1) λb=>if b=true then ob (te ρ1) λy=>ob (QM k g tt te ρ ds) λys=>some (y::ys) else QM k g tt te ρ ds
def jh (n k:Nat)(fi:ab)(g:af)(tt:aj)(te:aa)(ρ:Rho):Option Ka :=
 ob (fi ρ) λds=>if ρ.length=n/\ds.length<=1000 then ob (QM k g tt te ρ ds) λys=>some (.list ys) else none
theorem qaF {ρ:Rho}(hn:ρ.length=n):∀ ds,QM 1 (gNm n) tt te ρ ds=Zc tt te ρ ds
 | []=>rfl
 | d::ds=>by
  have e:gNm n d (ρ++Vt 1 none)=some (ρ++[some d]):=by
   show some ((ρ++[none]).set n (some d))=_
   rw [← hn,EY _ _ (Kp _)]
   simp
  rw [QM,Zc,e]
  show (ob (tt (ρ++[some d])) λb=>_)=_
  rw [qaF hn ds]
theorem Yu (n:Nat)(fi:ab)(tt:aj)(te:aa):jJ n fi tt te=jh n 1 fi (gNm n) tt te:=by
 funext ρ
 unfold jJ jh
 cases fi ρ with
 | none=>rfl
 | some ds =>
  show (if ρ.length=n/\ds.length<=1000 then _ else none)=(if ρ.length=n/\ds.length<=1000 then _ else none)
  split
  ·rename_i h
   rw [qaF h.1]
  ·rfl
theorem DenS.forget {K:Kb}{H:Hp}{S:Av}{σ:St}{ρ r':Rho}{k:Nat}(h:DenS K H S M σ (ρ++r'))(hk:r'.length=k):DenS K H S M σ (ρ++Vt k none):=by
 refine ⟨h.1,by rw [h.2.1,Kj,Kj,VD,hk],λi d hi e=>?_⟩
 by_cases hlt:i<ρ.length
 ·rw [KL hlt] at e
  exact h.2.2 i d hi (by rw [KL hlt];exact e)
 ·rw [Vi (by omega)] at e
  have:=Uu (a:=(none:aD)) (n:=k) (i:=i-ρ.length)
  rw [this] at e
  split at e<;>cases e
theorem DenS.more {K:Kb}{H:Hp}{S:Av}{σ:St}{ρ:Rho}(k:Nat)(h:DenS K H S M σ ρ):DenS K H S M (σ++Vt k none) (ρ++Vt k none):=by
 refine ⟨h.1,by rw [Kj,Kj,h.2.1,VD,VD],λi d hi e=>?_⟩
 by_cases hlt:i<ρ.length
 ·rw [KL hlt] at e
  obtain ⟨v,a,b⟩:=h.2.2 i d hi e
  exact ⟨v,by rw [KL (by rw [h.2.1];exact hlt)];exact a,b⟩
 ·rw [Vi (by omega)] at e
  have:=Uu (a:=(none:aD)) (n:=k) (i:=i-ρ.length)
  rw [this] at e
  split at e<;>cases e
theorem qge {K:Kb}{n k:Nat}{fi:ab}{g:af}(hg:GIn n k g):∀ σ H Q S ρ ds ys,DenS K H S M σ ρ->fi ρ=some ds->ρ.length=n->ds.length<=1000->QM k g p f ρ ds=some ys->(∀ H' zs,Same H H'->DenL K H' S zs ys->∀ D,H' D=none->Q (.ref D) (upd H' D (.lst zs)))->qcd k (tDI K M fi) (tDGc K M g) (tDT K M p) (tD K M f) σ H Q:=by
 intro σ H Q S ρ ds ys hs e1 hn hz e2 q
 refine ⟨S,ρ,ds,hs,e1,λJ H1 g1 hJ0=>?_⟩
 have hJ:=hJ0 H1 λ_ _ _ z=>z
 have z1000:1000<bM:=zB (Kp _)
 refine ⟨λi m zs σ' H'=>m=ds.length-i/\i<=ds.length/\zs.length<=i/\Same H1 H'/\DenS K H' S M σ' (ρ++Vt k none)/\∃ pre rest,DenL K H' S zs pre/\QM k g p f ρ (ds.drop i)=some rest/\pre++rest=ys,⟨ds.length,by simp,Vh _,Kp _,Same.refl _,(hs.same g1).more k,[],ys,.nil,e2,rfl⟩,?_⟩
 rintro i m zs σ' H' ⟨rfl,hi,hzi,g2,hS,pre,rest,dl,er,rfl⟩
 by_cases hlt:i<ds.length
 ·refine .inr ⟨hJ.go i H' g2 hlt,λx H2 y=>?_⟩
  obtain ⟨g2',yd⟩:=hJ.yld i H' x H2 g2 y
  have hd:=yd _ (Kk hlt) S λy e q=>q.same (g2.trans g2')
  rw [VH hlt] at er
  obtain ⟨ρ1,r1,er⟩:=qd er
  obtain ⟨bb,b1,er⟩:=qd er
  obtain ⟨r',hr',rfl⟩:=hg _ ρ _ ρ1 hn (VD) r1
  have g2:=g2.trans g2'
  have dl:=dl.same g2'
  refine ⟨S,_,_,_,hS.same g2',hd,r1,λσ3 H3 g3 hS3=>⟨S,_,bb,hS3,b1,λH4 g4=>?_⟩⟩
  cases bb with
  | true =>
   rw [bI rfl] at er
   obtain ⟨y1,e3,er⟩:=qd er
   obtain ⟨ys1,e4,er⟩:=qd er
   cases er
   refine iteT ⟨S,_,y1,hS3.same g4,e3,λv H5 g5 d5=>⟨by omega,ds.length-(i+1),by omega,rfl,hlt,by rw [Kj,Kt];omega,g2.trans (g3.trans (g4.trans g5)),(hS3.same (g4.trans g5)).forget hr',pre++[y1],ys1,(dl.same (g3.trans (g4.trans g5))).snoc d5,e4,by simp⟩⟩
  | false =>
   rw [bJ VJ] at er
   exact iteF ⟨ds.length-(i+1),by omega,rfl,hlt,by omega,g2.trans (g3.trans g4),(hS3.same g4).forget hr',pre,rest,dl.same (g3.trans g4),er,rfl⟩
 ·have hi':i=ds.length:=by omega
  subst hi'
  rw [Nn] at er
  cases er
  refine .inl ⟨hJ.stop H' g2,λD hD=>q H' zs (g1.trans g2) (by rw [VM];exact dl) D hD⟩
theorem Yv {n k:Nat}{fi:ab}{g:af}{tt:aj}{te:aa}{ρ:Rho}{d:Ka}(e:jh n k fi g tt te ρ=some d):∃ ds ys,fi ρ=some ds/\ρ.length=n/\ds.length<=1000/\QM k g tt te ρ ds=some ys/\d=.list ys:=by
 obtain ⟨ds,e1,e⟩:=qd e
 split at e
 ·rename_i hc
  obtain ⟨ys,e2,e⟩:=qd e
  cases e
  exact ⟨ds,ys,e1,hc.1,hc.2,e2,rfl⟩
 ·cases e
theorem qnk {K:Kb}{n k:Nat}{fi:ab}{g:af}(hg:GIn n k g):∀ σ H Q,tD K M (jh n k fi g p f) σ H Q->qcd k (tDI K M fi) (tDGc K M g) (tDT K M p) (tD K M f) σ H Q:=by
 intro σ H Q ⟨S,ρ,d,hs,e,q⟩
 obtain ⟨ds,ys,e1,hn,hz,e2,rfl⟩:=Yv e
 exact qge hg σ H Q S ρ ds ys hs e1 hn hz e2 λH' zs g2 dl D hD=>q _ _ (g2.lay' hD) (.list (SqLS.new qU ((hs.1.same g2).free hD)) (dl.same (Same.lay hD)))
section
variable {elt iter tg:KB}{ifs:aJ}{x:Str}{N':aB}{px:Pos}{sc:V9}{n k:Nat}{fi:ab}{g:af}
theorem ZS (O:CompOk X N' k sc)(hx:N'[i]?=some x)(hl:lc1 sc x=true)(cl:aO)(C:Ke)(fp:aH)(bE:ag)(s:Kh)(H:Hp):PDGc '-' M '3' (gNm i) :=
 (Bool.or_eq_true_iff.mp hl).elim (λhl =>
  have hloc:(relabel sc X.env).names.lookup x=some .local:=lookup_relabel_local (bN hl)
  qb4 (X:=qX X N' sc cl C fp bE s H) i O.nd' (.inl hloc) hx (.inr hloc)) λhl =>
  have hloc:(relabel sc X.env).names.lookup x=some .cell:=Wh (bN hl)
  qb4 (X:=qX X N' sc cl C fp bE s H) i O.nd' (.inr hloc) hx (.inl hl)
theorem qa9 (O:CompOk X N' k sc)(gi:GIn n k g)(hi:PDI X M tg iter fi)(hg:∀ cl C fp bE s H,PDGc '-' M tg g)(hq:∀ cl C fp bE s H,PDTs '-' M ifs p)(he:∀ cl C fp bE s H,PD '-' M elt f)
  (hs:∀ v,bR iter X.env v=pure v:=by intro _;rfl):PD X M (.ListComp elt [⟨tg,iter,ifs,0⟩] sc pos) (jh n k fi g p f) :=
 (qfX (wg:=tDGc X.K M g) (tt:=tDT X.K M p) (te:=tD X.K M f) O hi hg hq he hs).weak (qnk gi)
theorem Yh (O:CompOk X N' 1 sc)(hx:N'[n]?=some x)(hl:lc1 sc x=true)(hi:PDI X M '3' iter fi)(hq:∀ cl C fp bE s H,PDTs '-' M ifs p)(he:∀ cl C fp bE s H,PD '-' M elt f)
  (hs:∀ v,bR iter X.env v=pure v:=by intro _;rfl):PD X M (.ListComp elt [⟨.Name x px,iter,ifs,0⟩] sc pos) (jJ n fi p f):=by
 rw [Yu]
 exact qa9 O (QZ (Kp _)) hi (ZS O hx hl) hq he hs
end
end
structure Gm where
 H0:Hp
 S0:Av
 lk:Nat->Ke×PyData
def insA (S:Av)(p:Ke):Av:=λa=>S a\/a=p
inductive OwnO (K:Kb)(H:Hp)(S:Av)(p:Ke):Ka->Prop
 | lst {xs:List V} {ds:ae}:H p=some (.lst xs)->DenL K H S xs ds->OwnO K H S p (.list ds)
 | dct {kvs:List (KX×Addr×V)} {ep:Nat} {ds:ae}:H p=some (DctO p kvs ep)->DenL K H S (kvs.map λp=>kxV p.1 p.2.1) (kvs.map λp=>kxD p.1)->DenL K H S (kvs.map (·.2.2)) ds->OwnO K H S p (.dict (dkv kvs ds))
section
variable {K:Kb}{H H':Hp}{S S':Av}{p:Ke}{d:Ka}
theorem OwnO.same (e:Same H H')(h:OwnO K H S p d):OwnO K H' S p d:=by
 cases h with
 | lst h t=>exact .lst (e _ _ h) (t.same e)
 | dct h k t=>exact .dct (e _ _ h) (k.same e) (t.same e)
theorem OwnO.sub (e:∀ a,H a≠none->S' a->S a)(h:OwnO K H S p d):OwnO K H S' p d:=by
 cases h with
 | lst h t=>exact .lst h (t.sub e)
 | dct h k t=>exact .dct h (k.sub e) (t.sub e)
theorem OwnO.mut (h:OwnO K H S p d):∃ o,H p=some o/\yh o=true:=by
 cases h with
 | lst h t=>exact ⟨_,h,rfl⟩
 | dct h k t=>exact ⟨_,h,rfl⟩
theorem OwnO.dom (h:OwnO K H S p d):H p≠none:=by
 obtain ⟨o,e,_⟩:=h.mut
 rw [e];exact λz=>nomatch z
theorem OwnO.den (h:OwnO K H S p d)(n:¬ S' p)(e:∀ a,H a≠none->S' a->S a):Den K H S' (.ref p) d:=by
 cases h with
 | lst h t=>exact .list (SqLS.new h n) (t.sub e)
 | dct h k t=>exact .dict ⟨h,n⟩ (k.sub e) (t.sub e)
theorem OwnO.upd (m:Dm S H)(h:OwnO K H S p d)(hq:S q)(hm:yh o=true)(ne:p≠q):OwnO K (upd H q o) S p d:=by
 have off:Off S H (L2.upd H q o):=λb u n e=>by
  rw [qO (λz=>n (by rw [z];exact hq))];exact e
 cases h with
 | lst h t=>exact .lst (by rw [qO ne];exact h) (t.off m off)
 | dct h k t=>exact .dct (by rw [qO ne];exact h) (k.off m off) (t.off m off)
theorem Dm.upd (m:Dm S H)(hm:yh o=true):Dm S (upd H q o):=λa ha=>by
 by_cases e:a=q
 ·subst e;exact ⟨o,qU,hm⟩
 ·rw [qO e];exact m a ha
theorem Dm.ins (m:Dm S H)(h:∃ o,H p=some o/\yh o=true):Dm (insA S p) H:=λa ha=>by
 rcases ha with ha|rfl
 ·exact m a ha
 ·exact h
end
inductive Kids (K:Kb)(H:Hp)(S:Av):List Ke->List Ka->Prop
 | nil:Kids K H S [] []
 | cons {q:Ke} {xs:List V} {es:ae} {qs:aH} {ds:ae}:H q=some (.lst xs)->DenL K H S xs es->q∉qs->Kids K H S qs ds->Kids K H S (q::qs) (.list es::ds)
inductive Mx (K:Kb)(H:Hp)(S:Av):List Ke->List V->List Ka->Prop
 | nil:Mx K H S [] [] []
 | kid {q:Ke} {xs:List V} {es:ae} {qs:aH} {vs:List V} {ds:ae}:H q=some (.lst xs)->DenL K H S xs es->q∉qs->Mx K H S qs vs ds->Mx K H S (q::qs) (.ref q::vs) (.list es::ds)
 | flt {v:V} {d:Ka} {qs:aH} {vs:List V} {ds:ae}:Den K H S v d->flat d=true->Mx K H S qs vs ds->Mx K H S qs (v::vs) (d::ds)
inductive DeepO (K:Kb)(H:Hp)(S:Av):List Ke->Ke->Ka->Prop
 | tpl {p:Ke} {qs:aH} {vs:List V} {ds:ae}:H p=some (.tup vs)->Mx K H S qs vs ds->DeepO K H S qs p (.tuple ds)
 | lst {p:Ke} {qs:aH} {ds:ae}:H p=some (.lst (qs.map V.ref))->p∉qs->Kids K H S qs ds->DeepO K H S (p::qs) p (.list ds)
 | dct {p:Ke} {kvs:List (KX×Addr×V)} {ep:Nat} {qs:aH} {ds:ae}:H p=some (DctO p kvs ep)->DenL K H S (kvs.map λp=>kxV p.1 p.2.1) (kvs.map λp=>kxD p.1)->kvs.map (·.2.2)=qs.map V.ref->p∉qs->Kids K H S qs ds->DeepO K H S (p::qs) p (.dict (dkv kvs ds))
section
variable {K:Kb}{H H':Hp}{S S':Av}{p:Ke}{d:Ka}{fp qs:aH}{ds:ae}
theorem Kids.same (e:Same H H')(h:Kids K H S qs ds):Kids K H' S qs ds:=by
 induction h with
 | nil=>exact .nil
 | cons h t n _ r=>exact .cons (e _ _ h) (t.same e) n r
theorem Kids.sub (e:∀ a,H a≠none->S' a->S a)(h:Kids K H S qs ds):Kids K H S' qs ds:=by
 induction h with
 | nil=>exact .nil
 | cons h t n _ r=>exact .cons h (t.sub e) n r
theorem Kids.mx (h:Kids K H S qs ds):Mx K H S qs (qs.map V.ref) ds:=by
 induction h with
 | nil=>exact .nil
 | cons h t n _ r=>exact .kid h t n r
theorem Mx.same {vs:List V}(e:Same H H')(h:Mx K H S qs vs ds):Mx K H' S qs vs ds:=by
 induction h with
 | nil=>exact .nil
 | kid h t n _ r=>exact .kid (e _ _ h) (t.same e) n r
 | flt a f _ r=>exact .flt (a.same e) f r
theorem Mx.sub {vs:List V}(e:∀ a,H a≠none->S' a->S a)(h:Mx K H S qs vs ds):Mx K H S' qs vs ds:=by
 induction h with
 | nil=>exact .nil
 | kid h t n _ r=>exact .kid h (t.sub e) n r
 | flt a f _ r=>exact .flt (a.sub e) f r
theorem Mx.mut {vs:List V}(h:Mx K H S qs vs ds)(q:Ke)(hq:q∈qs):∃ o,H q=some o/\yh o=true:=by
 induction h with
 | nil=>exact nomatch hq
 | kid h t n _ r=>exact (Kr.mp hq).elim (λe=>by rw [e];exact ⟨_,h,rfl⟩) r
 | flt a f _ r=>exact r hq
theorem Kids.mut (h:Kids K H S qs ds):∀ q∈qs,∃ o,H q=some o/\yh o=true:=h.mx.mut
theorem Mx.den {vs:List V}(e:∀ a,H a≠none->S' a->S a)(n:∀ q∈qs,¬ S' q)(h:Mx K H S qs vs ds):DenL K H S' vs ds:=by
 induction h with
 | nil=>exact .nil
 | kid h t _ _ r=>exact .cons (.list (SqLS.new h (n _ (.head _))) (t.sub e)) (r λq hq=>n q (.tail _ hq))
 | flt a f _ r=>exact .cons (a.sub e) (r n)
theorem Kids.den (e:∀ a,H a≠none->S' a->S a)(n:∀ q∈qs,¬ S' q)(h:Kids K H S qs ds):DenL K H S' (qs.map V.ref) ds:=h.mx.den e n
theorem Kids.upd {q:Ke}{o:HO}(m:Dm S H)(hq:S q)(n:q∉qs)(h:Kids K H S qs ds):Kids K (upd H q o) S qs ds:=by
 induction h with
 | nil=>exact .nil
 | cons h t n' _ r=>exact .cons (by rw [qO (λz=>n (by rw [z];exact .head _))];exact h) (t.off m λb u z e=>by rw [qO (λy=>z (by rw [y];exact hq))];exact e) n' (r λz=>n (.tail _ z))
theorem Mx.upd {q:Ke}{o:HO}{vs:List V}(m:Dm S H)(hq:S q)(n:q∉qs)(h:Mx K H S qs vs ds):Mx K (upd H q o) S qs vs ds:=by
 have off:Off S H (L2.upd H q o):=λb u z e=>by rw [qO (λy=>z (by rw [y];exact hq))];exact e
 induction h with
 | nil=>exact .nil
 | kid h t n' _ r=>exact .kid (by rw [qO (λz=>n (by rw [z];exact .head _))];exact h) (t.off m off) n' (r λz=>n (.tail _ z))
 | flt a f _ r=>exact .flt (a.off m off) f (r n)
theorem Mx.length {vs:List V}(h:Mx K H S qs vs ds):vs.length=ds.length:=by
 induction h with
 | nil=>rfl
 | kid _ _ _ _ r=>rw [Kw,Kw,r]
 | flt _ _ _ r=>rw [Kw,Kw,r]
theorem DeepO.same (e:Same H H')(h:DeepO K H S fp p d):DeepO K H' S fp p d:=by
 cases h with
 | tpl h t=>exact .tpl (e _ _ h) (t.same e)
 | lst h n t=>exact .lst (e _ _ h) n (t.same e)
 | dct h k v n t=>exact .dct (e _ _ h) (k.same e) v n (t.same e)
theorem DeepO.sub (e:∀ a,H a≠none->S' a->S a)(h:DeepO K H S fp p d):DeepO K H S' fp p d:=by
 cases h with
 | tpl h t=>exact .tpl h (t.sub e)
 | lst h n t=>exact .lst h n (t.sub e)
 | dct h k v n t=>exact .dct h (k.sub e) v n (t.sub e)
theorem DeepO.mut (h:DeepO K H S fp p d):∀ q∈fp,∃ o,H q=some o/\yh o=true:=by
 cases h with
 | tpl h t=>exact t.mut
 | lst h n t=>exact λq hq=>(Kr.mp hq).elim (λe=>by rw [e];exact ⟨_,h,rfl⟩) (t.mut q)
 | dct h k v n t=>exact λq hq=>(Kr.mp hq).elim (λe=>by rw [e];exact ⟨_,h,rfl⟩) (t.mut q)
theorem DeepO.den (h:DeepO K H S fp p d)(n:∀ q∈fp,¬ S' q)(e:∀ a,H a≠none->S' a->S a):Den K H S' (.ref p) d:=by
 cases h with
 | tpl h t=>exact .tuple (.inl (.inl h)) (t.den e n)
 | lst h _ t=>exact .list (SqLS.new h (n _ (.head _))) (t.den e λq hq=>n q (.tail _ hq))
 | dct h k v _ t=>exact .dict ⟨h,n _ (.head _)⟩ (k.sub e) (by rw [v];exact t.den e λq hq=>n q (.tail _ hq))
theorem DeepO.upd (m:Dm S H)(h:DeepO K H S fp p d)(hq:S q)(ne:q∉fp):DeepO K (upd H q o) S fp p d:=by
 have off:Off S H (L2.upd H q o):=λb u n e=>by
  rw [qO (λz=>n (by rw [z];exact hq))];exact e
 cases h with
 | tpl h t=>exact .tpl (by rw [qO (λz=>m.tup (.inl h) (by rw [z];exact hq))];exact h) (t.upd m hq ne)
 | lst h n t=>exact .lst (by rw [qO (λz=>ne (by rw [z];exact .head _))];exact h) n (t.upd m hq λz=>ne (.tail _ z))
 | dct h k v n t=>exact .dct (by rw [qO (λz=>ne (by rw [z];exact .head _))];exact h) (k.off m off) v n (t.upd m hq λz=>ne (.tail _ z))
end
abbrev Flt (M:aq)(i:Nat):Prop:=i∈M/\i+1000∉M
abbrev Dp (M:aq)(i:Nat):Prop:=i∈M/\i+1000∈M
abbrev Out0 (M:aq)(i:Nat):Prop:=i∉M/\i+1000∉M/\i<1000
structure SubM (A B:aq):Prop where
 sub:∀ i∈A,i∈B
 dp:∀ i∈A,i+1000∈B->i+1000∈A
theorem SubM.flt (h:SubM A B)(q:Flt A i):Flt B i:=⟨h.sub i q.1,λz=>q.2 (h.dp i q.1 z)⟩
theorem SubM.deep (h:SubM A B)(q:Dp A i):Dp B i:=⟨h.sub i q.1,h.sub _ q.2⟩
def Has (ρ:Rho)(i:Nat):Prop:=∃ d:Ka,ρ[i]?=some (some d)
structure DeepF (K:Kb)(G:Gm)(M:aq)(H:Hp)(S:Av)(σ:St)(ρ:Rho)(F:Nat->List Ke):Prop where
 own:∀ i,Dp M i->∀ d,ρ[i]?=some (some d)->∃ p,σ[i]?=some (some (.ref p))/\DeepO K H S (F i) p d/\∀ q∈F i,S q/\¬ G.S0 q/\G.H0 q=none
 disj:∀ i,Dp M i->∀ j,Dp M j->Has ρ i->Has ρ j->∀ q,q∈F i->q∈F j->i=j
 flat:∀ i,Flt M i->∀ j,Dp M j->Has ρ i->Has ρ j->∀ p,σ[i]?=some (some (.ref p))->p∉F j
structure OwnS (K:Kb)(G:Gm)(M L:aq)(H:Hp)(S:Av)(σ:St)(ρ:Rho):Prop where
 ds:DenS K H S M σ ρ
 s0:∀ a,G.S0 a->S a
 h0:Same G.H0 H
 own:∀ i,Flt M i->∀ d,ρ[i]?=some (some d)->∃ p,σ[i]?=some (some (.ref p))/\OwnO K H S p d/\S p/\¬ G.S0 p/\(i∉L->G.H0 p=none)/\(i∈L->(p,d)=G.lk i)
 apart:∀ i,Flt M i->∀ j,Flt M j->∀ d e p,ρ[i]?=some (some d)->ρ[j]?=some (some e)->σ[i]?=some (some (.ref p))->σ[j]?=some (some (.ref p))->i=j
 bnd:∀ a,S a->G.S0 a\/G.H0 a=none\/∃ i∈L,a=(G.lk i).1
 lkd:∀ i∈L,Flt M i/\ρ[i]?=some (some (G.lk i).2)
 deep:∃ F,DeepF K G M H S σ ρ F
section
variable {K:Kb}{G:Gm}{M M' L:aq}{H H':Hp}{S:Av}{σ:St}{ρ:Rho}{v:V}{d:Ka}
theorem OwnS.same (e:Same H H')(h:OwnS K G M L H S σ ρ):OwnS K G M L H' S σ ρ :=
 ⟨h.ds.same e,h.s0,h.h0.trans e,λi hi d q=>let ⟨p,a,b,c⟩:=h.own i hi d q;⟨p,a,b.same e,c⟩,h.apart,h.bnd,h.lkd,let ⟨F,f⟩:=h.deep;⟨F,λi hi d q=>let ⟨p,a,b,c⟩:=f.own i hi d q;⟨p,a,b.same e,c⟩,f.disj,f.flat⟩⟩
theorem OwnS.lks (h:OwnS K G M L H S σ ρ):∀ i∈L,S (G.lk i).1:=λi hi=>by
 obtain ⟨hm,e⟩:=h.lkd i hi
 obtain ⟨p,_,_,c,_,_,w⟩:=h.own i hm _ e
 rw [← w hi];exact c
theorem OwnS.den (h:OwnS K G M L H S σ ρ):DenS K H G.S0 [] σ ρ:=by
 refine ⟨h.ds.1.sub h.s0,h.ds.2.1,λi d _ q=>?_⟩
 by_cases hi:i∈M
 ·by_cases hk:i+1000∈M
  ·obtain ⟨F,f⟩:=h.deep
   obtain ⟨p,a,b,c⟩:=f.own i ⟨hi,hk⟩ d q
   exact ⟨_,a,b.den (λq hq=>(c q hq).2.1) λa _ z=>h.s0 a z⟩
  ·obtain ⟨p,a,b,c,n,_⟩:=h.own i ⟨hi,hk⟩ d q
   exact ⟨_,a,b.den n λa _ z=>h.s0 a z⟩
 ·obtain ⟨v,a,b⟩:=h.ds.2.2 i d hi q
  exact ⟨v,a,b.sub λa _ z=>h.s0 a z⟩
theorem qz {α:Type}{xs:List α}{i j:Nat}{x:α}(h:i≠j):(xs.set i x)[j]?=xs[j]?:=VR h
theorem OwnS.set (h:OwnS K G M L H S σ ρ)(q:Den K H S v d){i:Nat}(hi:i∉M):OwnS K G M L H S (σ.set i (some v)) (ρ.set i (some d)):=by
 have ne:∀ j∈M,i≠j:=λj hj e=>hi (by rw [e];exact hj)
 obtain ⟨F,f⟩:=h.deep
 refine ⟨h.ds.set q i,h.s0,h.h0,λj hj e he=>?_,λj hj k hk e e' p h1 h2 h3 h4=>?_,h.bnd,λj hj=>⟨(h.lkd j hj).1,by rw [qz (ne j (h.lkd j hj).1.1)];exact (h.lkd j hj).2⟩,F,λj hj e he=>?_,λj hj k hk h1 h2=>?_,λj hj k hk h1 h2 p h3=>?_⟩
 ·rw [qz (ne j hj.1)] at he ⊢
  exact h.own j hj e he
 ·rw [qz (ne j hj.1)] at h1 h3
  rw [qz (ne k hk.1)] at h2 h4
  exact h.apart j hj k hk e e' p h1 h2 h3 h4
 ·rw [qz (ne j hj.1)] at he ⊢
  exact f.own j hj e he
 ·unfold Has at h1 h2
  rw [qz (ne j hj.1)] at h1
  rw [qz (ne k hk.1)] at h2
  exact f.disj j hj k hk h1 h2
 ·unfold Has at h1 h2
  rw [qz (ne j hj.1)] at h1 h3
  rw [qz (ne k hk.1)] at h2
  exact f.flat j hj k hk h1 h2 p h3
theorem OwnS.frz (h:OwnS K G M L H S σ ρ)(hs:SubM M' M)(hl:∀ i∈L,i∈M->i∈M'):∃ S',OwnS K G M' L H S' σ ρ:=by
 obtain ⟨F,f⟩:=h.deep
 have sb:∀ a,(S a/\(¬ ∃ i,Flt M i/\i∉M'/\Has ρ i/\σ[i]?=some (some (.ref a)))/\¬ ∃ i,Dp M i/\i∉M'/\Has ρ i/\a∈F i)->S a:=λa z=>z.1
 refine ⟨λa=>S a/\(¬ ∃ i,Flt M i/\i∉M'/\Has ρ i/\σ[i]?=some (some (.ref a)))/\¬ ∃ i,Dp M i/\i∉M'/\Has ρ i/\a∈F i,⟨?_,?_,?_⟩,?_,h.h0,?_,?_,?_,λi hi=>⟨⟨hl i hi (h.lkd i hi).1.1,λz=>(h.lkd i hi).1.2 (hs.sub _ z)⟩,(h.lkd i hi).2⟩,F,?_,?_,?_⟩
 ·exact h.ds.1.sub λa z=>z.1
 ·exact h.ds.2.1
 ·intro i d hi q
  by_cases hm:i∈M
  ·by_cases hk:i+1000∈M
   ·obtain ⟨p,a,b,c⟩:=f.own i ⟨hm,hk⟩ d q
    exact ⟨_,a,b.den (λr hr z=>z.2.2 ⟨i,⟨hm,hk⟩,hi,⟨d,q⟩,hr⟩) λa _ z=>z.1⟩
   ·obtain ⟨p,a,b,c,_⟩:=h.own i ⟨hm,hk⟩ d q
    exact ⟨_,a,b.den (λz=>z.2.1 ⟨i,⟨hm,hk⟩,hi,⟨d,q⟩,a⟩) λa _ z=>z.1⟩
  ·obtain ⟨v,a,b⟩:=h.ds.2.2 i d hm q
   exact ⟨v,a,b.sub λa _ z=>z.1⟩
 ·intro a ha
  refine ⟨h.s0 a ha,λ⟨i,hm,hi,⟨d,q⟩,e⟩=>?_,λ⟨i,hm,hi,⟨d,q⟩,e⟩=>?_⟩
  ·obtain ⟨p,e',b,c,n,_⟩:=h.own i hm d q
   rw [e] at e';cases e'
   exact n ha
  ·obtain ⟨p,e',b,c⟩:=f.own i hm d q
   exact (c a e).2.1 ha
 ·intro i hi d q
  obtain ⟨p,a,b,c,n,w,w'⟩:=h.own i (hs.flt hi) d q
  refine ⟨p,a,b.sub λa _ z=>z.1,⟨c,λ⟨j,hj,hj',⟨e,q'⟩,a'⟩=>?_,λ⟨j,hj,hj',q',a'⟩=>?_⟩,n,w,w'⟩
  ·have:=h.apart i (hs.flt hi) j hj d e p q q' a a'
   subst this
   exact hj' hi.1
  ·exact f.flat i (hs.flt hi) j hj ⟨d,q⟩ q' p a a'
 ·exact λi hi j hj=>h.apart i (hs.flt hi) j (hs.flt hj)
 ·exact λa z=>h.bnd a z.1
 ·intro i hi d q
  obtain ⟨p,a,b,c⟩:=f.own i (hs.deep hi) d q
  refine ⟨p,a,b.sub λa _ z=>z.1,λr hr=>⟨⟨(c r hr).1,λ⟨j,hj,hj',q',a'⟩=>?_,λ⟨j,hj,hj',q',a'⟩=>?_⟩,(c r hr).2⟩⟩
  ·exact f.flat j hj i (hs.deep hi) q' ⟨d,q⟩ r a' hr
  ·have:=f.disj i (hs.deep hi) j hj ⟨d,q⟩ q' r hr a'
   subst this
   exact hj' hi.1
 ·exact λi hi j hj=>f.disj i (hs.deep hi) j (hs.deep hj)
 ·exact λi hi j hj=>f.flat i (hs.flt hi) j (hs.deep hj)
theorem ql1 (hi:Out0 M i)(hj:Flt M j):Flt (i::M) j:=⟨.tail _ hj.1,λz=>by rcases Kr.mp z with e|z;(have:=hi.2.2;omega);exact hj.2 z⟩
theorem WD (hj:Flt (i::M) j)(ne:i≠j):Flt M j:=⟨(Kr.mp hj.1).resolve_left λz=>ne z.symm,λz=>hj.2 (.tail _ z)⟩
theorem qft (hi:Out0 M i)(hj:Dp (i::M) j):Dp M j:=by
 have q:j+1000∈M:=(Kr.mp hj.2).resolve_left λz=>by have:=hi.2.2;omega
 refine ⟨(Kr.mp hj.1).resolve_left λz=>hi.2.1 (by rw [← z];exact q),q⟩
theorem OwnS.take (h:OwnS K G M L H S σ ρ){p:Ke}{i:Nat}(hn:H p=none)(e:Same H H')(o:OwnO K H' (insA S p) p d)(hi:Out0 M i)(hl:i∉L)(hz:i<ρ.length):OwnS K G (i::M) L H' (insA S p) (σ.set i (some (.ref p))) (ρ.set i (some d)):=by
 have np:¬ S p:=h.ds.1.free hn
 have sub:∀ a,H a≠none->insA S p a->S a:=λa ha z=>by
  rcases z with z|rfl
  ·exact z
  ·exact absurd hn ha
 have ne:∀ j∈M,i≠j:=λj hj e=>hi.1 (by rw [e];exact hj)
 have hz':i<σ.length:=by rw [h.ds.2.1];exact hz
 have gi:(ρ.set i (some d))[i]?=some (some d):=Vc hz
 have gi':(σ.set i (some (.ref p)))[i]?=some (some (.ref p)):=Vc hz'
 obtain ⟨F,f⟩:=h.deep
 refine ⟨⟨(h.ds.1.same e).ins o.mut,by rw [VN,VN];exact h.ds.2.1,λj d' hj q=>?_⟩,λa z=>.inl (h.s0 a z),h.h0.trans e,λj hj d' q=>?_,λj hj k hk d1 d2 q h1 h2 h3 h4=>?_,λa z=>?_,λj hj=>⟨ql1 hi (h.lkd j hj).1,by rw [qz (λz=>hl (by rw [z];exact hj))];exact (h.lkd j hj).2⟩,
  F,λj hj d' q=>?_,λj hj k hk h1 h2=>?_,λj hj k hk h1 h2 r h3=>?_⟩
 ·have hij:i≠j:=λz=>hj (by rw [z];exact .head _)
  rw [qz hij] at q ⊢
  obtain ⟨v,a,b⟩:=h.ds.2.2 j d' (λz=>hj (.tail _ z)) q
  exact ⟨v,a,(b.sub sub).same e⟩
 ·by_cases hij:i=j
  ·subst hij
   rw [gi] at q;cases q
   exact ⟨p,gi',o,.inr rfl,λz=>np (h.s0 p z),λ_=>h.h0.free hn,λz=>absurd z hl⟩
  ·rw [qz hij] at q ⊢
   obtain ⟨q',a,b,c,n,w⟩:=h.own j (WD hj hij) d' q
   exact ⟨q',a,(b.sub sub).same e,.inl c,n,w⟩
 ·have key:∀ m,Flt M m->∀ (d':Ka) (q:Ke),(ρ.set i (some d))[m]?=some (some d')->(σ.set i (some (.ref p)))[m]?=some (some (.ref q))->q≠p:=λm hm d' q e1 e2 z=>by
   rw [qz (ne m hm.1)] at e1 e2
   obtain ⟨q',a,b,_⟩:=h.own m hm d' e1
   rw [e2] at a;cases a
   subst z
   exact b.dom hn
  by_cases ej:i=j
  ·by_cases ek:i=k
   ·rw [← ej,← ek]
   ·rw [← ej,gi'] at h3
    cases h3
    exact absurd rfl (key k (WD hk ek) d2 p h2 h4)
  ·by_cases ek:i=k
   ·rw [← ek,gi'] at h4
    cases h4
    exact absurd rfl (key j (WD hj ej) d1 p h1 h3)
   ·rw [qz ej] at h1 h3
    rw [qz ek] at h2 h4
    exact h.apart j (WD hj ej) k (WD hk ek) d1 d2 q h1 h2 h3 h4
 ·rcases z with z|rfl
  ·exact h.bnd a z
  ·exact .inr (.inl (h.h0.free hn))
 ·have hj':=qft hi hj
  rw [qz (ne j hj'.1)] at q ⊢
  obtain ⟨q',a,b,c⟩:=f.own j hj' d' q
  exact ⟨q',a,(b.sub sub).same e,λr hr=>⟨.inl (c r hr).1,(c r hr).2⟩⟩
 ·have hj':=qft hi hj
  have hk':=qft hi hk
  unfold Has at h1 h2
  rw [qz (ne j hj'.1)] at h1
  rw [qz (ne k hk'.1)] at h2
  exact f.disj j hj' k hk' h1 h2
 ·have hk':=qft hi hk
  unfold Has at h1 h2
  rw [qz (ne k hk'.1)] at h2
  by_cases ej:i=j
  ·rw [← ej,gi'] at h3
   cases h3
   obtain ⟨d2,e2⟩:=h2
   obtain ⟨q',a,b,c⟩:=f.own k hk' d2 e2
   intro z
   obtain ⟨o2,z2,_⟩:=b.mut p z
   rw [hn] at z2;cases z2
  ·rw [qz ej] at h1 h3
   exact f.flat j (WD hj ej) k hk' h1 h2 r h3
def insL (S:Av)(fp:aH):Av:=λa=>S a\/a∈fp
theorem Dm.insL (m:Dm S H)(h:∀ q∈fp,∃ o,H q=some o/\yh o=true):Dm (insL S fp) H:=λa ha=>by
 rcases ha with ha|ha
 ·exact m a ha
 ·exact h a ha
theorem qjj (hj:j∈i::(i+1000)::M)(ne:i≠j)(n2:j≠i+1000):j∈M:=(Kr.mp ((Kr.mp hj).resolve_left λz=>ne z.symm)).resolve_left n2
theorem qap (hj:Flt (i::(i+1000)::M) j)(n2:j≠i+1000):i≠j/\Flt M j:=by
 have ne:i≠j:=λz=>hj.2 (by rw [← z];exact .tail _ (.head _))
 exact ⟨ne,qjj hj.1 ne n2,λz=>hj.2 (.tail _ (.tail _ z))⟩
theorem qe7 (hi:i<1000)(hj:Dp (i::(i+1000)::M) j)(ne:i≠j)(n2:j≠i+1000):Dp M j:=by
 refine ⟨qjj hj.1 ne n2,?_⟩
 rcases Kr.mp hj.2 with z|z
 ·omega
 ·rcases Kr.mp z with z|z
  ·omega
  ·exact z
theorem qnq (hi:i<1000)(hj:Flt M j)(ne:i≠j):Flt (i::(i+1000)::M) j:=⟨.tail _ (.tail _ hj.1),λz=>by
 rcases Kr.mp z with z|z
 ·omega
 ·rcases Kr.mp z with z|z
  ·omega
  ·exact hj.2 z⟩
theorem ql6 (h:Has ρ i):i<ρ.length:=by
 obtain ⟨d,e⟩:=h
 exact (Kl.mp e).1
theorem OwnS.takeD (h:OwnS K G M L H S σ ρ){p:Ke}{fp:aH}{i:Nat}(hn:∀ q∈fp,H q=none)(e:Same H H')(o:DeepO K H' (insL S fp) fp p d)(hi:Out0 M i)(hl:i∉L)(hz:i<ρ.length)(hz2:ρ.length<=1000) :
  OwnS K G (i::(i+1000)::M) L H' (insL S fp) (σ.set i (some (.ref p))) (ρ.set i (some d)):=by
 have sub:∀ a,H a≠none->insL S fp a->S a:=λa ha z=>by
  rcases z with z|z
  ·exact z
  ·exact absurd (hn a z) ha
 have hz':i<σ.length:=by rw [h.ds.2.1];exact hz
 have gi:(ρ.set i (some d))[i]?=some (some d):=Vc hz
 have gi':(σ.set i (some (.ref p)))[i]?=some (some (.ref p)):=Vc hz'
 have n2:∀ j,Has (ρ.set i (some d)) j->j≠i+1000:=λj hj=>by
  have:=ql6 hj
  rw [VN] at this
  omega
 obtain ⟨F,f⟩:=h.deep
 have fne:∀ j,j≠i->(if j=i then fp else F j)=F j:=λj hj=>bJ hj
 refine ⟨⟨(h.ds.1.same e).insL o.mut,by rw [VN,VN];exact h.ds.2.1,λj d' hj q=>?_⟩,λa z=>.inl (h.s0 a z),h.h0.trans e,λj hj d' q=>?_,λj hj k hk d1 d2 q h1 h2 h3 h4=>?_,λa z=>?_,λj hj=>?_,
  λj=>if j=i then fp else F j,λj hj d' q=>?_,λj hj k hk h1 h2=>?_,λj hj k hk h1 h2 r h3=>?_⟩
 ·have hij:i≠j:=λz=>hj (by rw [z];exact .head _)
  rw [qz hij] at q ⊢
  obtain ⟨v,a,b⟩:=h.ds.2.2 j d' (λz=>hj (.tail _ (.tail _ z))) q
  exact ⟨v,a,(b.sub sub).same e⟩
 ·obtain ⟨hij,hj'⟩:=qap hj (n2 j ⟨d',q⟩)
  rw [qz hij] at q ⊢
  obtain ⟨q',a,b,c,n,w⟩:=h.own j hj' d' q
  exact ⟨q',a,(b.sub sub).same e,.inl c,n,w⟩
 ·obtain ⟨ej,hj'⟩:=qap hj (n2 j ⟨d1,h1⟩)
  obtain ⟨ek,hk'⟩:=qap hk (n2 k ⟨d2,h2⟩)
  rw [qz ej] at h1 h3
  rw [qz ek] at h2 h4
  exact h.apart j hj' k hk' d1 d2 q h1 h2 h3 h4
 ·rcases z with z|z
  ·exact h.bnd a z
  ·exact .inr (.inl (h.h0.free (hn a z)))
 ·have ne:i≠j:=λz=>hl (by rw [z];exact hj)
  exact ⟨qnq hi.2.2 (h.lkd j hj).1 ne,by rw [qz ne];exact (h.lkd j hj).2⟩
 ·by_cases hij:i=j
  ·subst hij
   rw [gi] at q;cases q
   rw [bI rfl]
   exact ⟨p,gi',o,λr hr=>⟨.inr hr,λz=>h.ds.1.free (hn r hr) (h.s0 r z),h.h0.free (hn r hr)⟩⟩
  ·rw [fne j (Ul hij)]
   have hj':=qe7 hi.2.2 hj hij (n2 j ⟨d',q⟩)
   rw [qz hij] at q ⊢
   obtain ⟨q',a,b,c⟩:=f.own j hj' d' q
   exact ⟨q',a,(b.sub sub).same e,λr hr=>⟨.inl (c r hr).1,(c r hr).2⟩⟩
 ·have old:∀ j,i≠j->Dp (i::(i+1000)::M) j->Has (ρ.set i (some d)) j->Has ρ j/\Dp M j/\∀ r∈F j,r∉fp:=λj ne hj h1=>by
   have hj':=qe7 hi.2.2 hj ne (n2 j h1)
   unfold Has at h1
   rw [qz ne] at h1
   refine ⟨h1,hj',λr hr z=>?_⟩
   obtain ⟨d2,e2⟩:=h1
   obtain ⟨q',a,b,c⟩:=f.own j hj' d2 e2
   obtain ⟨o2,z2,_⟩:=b.mut r hr
   rw [hn r z] at z2;cases z2
  intro r hr hr'
  by_cases ej:i=j
  ·by_cases ek:i=k
   ·rw [← ej,← ek]
   ·rw [bI ej.symm] at hr
    rw [fne k (Ul ek)] at hr'
    exact absurd hr ((old k ek hk h2).2.2 r hr')
  ·rw [fne j (Ul ej)] at hr
   by_cases ek:i=k
   ·rw [bI ek.symm] at hr'
    exact absurd hr' ((old j ej hj h1).2.2 r hr)
   ·rw [fne k (Ul ek)] at hr'
    exact f.disj j (old j ej hj h1).2.1 k (old k ek hk h2).2.1 (old j ej hj h1).1 (old k ek hk h2).1 r hr hr'
 ·obtain ⟨ej,hj'⟩:=qap hj (n2 j h1)
  obtain ⟨d1,e1⟩:=h1
  rw [qz ej] at e1 h3
  by_cases ek:i=k
  ·rw [bI ek.symm]
   intro z
   obtain ⟨q',a,b,c⟩:=h.own j hj' d1 e1
   rw [h3] at a;cases a
   exact b.dom (hn _ z)
  ·rw [fne k (Ul ek)]
   have hk':=qe7 hi.2.2 hk ek (n2 k h2)
   unfold Has at h2
   rw [qz ek] at h2
   exact f.flat j hj' k hk' ⟨d1,e1⟩ h2 r h3
theorem OwnS.write (h:OwnS K G M L H S σ ρ){p:Ke}{i:Nat}{o:HO}{d₀:Ka}(hi:Flt M i)(hl:i∉L)(e0:ρ[i]?=some (some d₀))(e1:σ[i]?=some (some (.ref p)))(hm:yh o=true)(ow:OwnO K (upd H p o) S p d):OwnS K G M L (upd H p o) S σ (ρ.set i (some d)):=by
 obtain ⟨p',a,b,c,n,w,_⟩:=h.own i hi d₀ e0
 rw [e1] at a;cases a
 have off:Off S H (upd H p o):=λb u z e=>by
  rw [qO (λy=>z (by rw [y];exact c))];exact e
 have hz:i<ρ.length:=(Kl.mp e0).1
 have get:∀ m d',(ρ.set i (some d))[m]?=some (some d')->∃ d'',ρ[m]?=some (some d''):=λm d' q=>by
  by_cases him:i=m
  ·subst him;exact ⟨_,e0⟩
  ·rw [qz him] at q;exact ⟨_,q⟩
 have get2:∀ m,Has (ρ.set i (some d)) m->Has ρ m:=λm ⟨d',q⟩=>get m d' q
 have dne:∀ j,Dp M j->i≠j:=λj hj z=>hi.2 (by rw [z];exact hj.2)
 obtain ⟨F,f⟩:=h.deep
 refine ⟨⟨h.ds.1.upd hm,by rw [VN];exact h.ds.2.1,λj d' hj q=>?_⟩,h.s0,λa u q=>?_,λj hj d' q=>?_,λj hj k hk d1 d2 q h1 h2 h3 h4=>?_,h.bnd,λj hj=>⟨(h.lkd j hj).1,by rw [qz (λz=>hl (by rw [z];exact hj))];exact (h.lkd j hj).2⟩,
  F,λj hj d' q=>?_,λj hj k hk h1 h2=>f.disj j hj k hk (get2 j h1) (get2 k h2),λj hj k hk h1 h2=>f.flat j hj k hk (get2 j h1) (get2 k h2)⟩
 ·have hij:i≠j:=λz=>hj (by rw [← z];exact hi.1)
  rw [qz hij] at q
  obtain ⟨v,a,b⟩:=h.ds.2.2 j d' hj q
  exact ⟨v,a,b.off h.ds.1 off⟩
 ·have:a≠p:=λz=>by subst z;rw [w hl] at q;cases q
  rw [qO this]
  exact h.h0 a u q
 ·by_cases hij:i=j
  ·subst hij
   rw [Vc hz] at q;cases q
   exact ⟨p,e1,ow,c,n,w,λz=>absurd z hl⟩
  ·rw [qz hij] at q
   obtain ⟨q',a,b',c',n',w'⟩:=h.own j hj d' q
   have:q'≠p:=λz=>by subst z;exact hij (h.apart i hi j hj d₀ d' q' e0 q e1 a)
   exact ⟨q',a,b'.upd h.ds.1 c hm this,c',n',w'⟩
 ·obtain ⟨x1,y1⟩:=get j d1 h1
  obtain ⟨x2,y2⟩:=get k d2 h2
  exact h.apart j hj k hk x1 x2 q y1 y2 h3 h4
 ·rw [qz (dne j hj)] at q
  obtain ⟨q',a,b',c'⟩:=f.own j hj d' q
  exact ⟨q',a,b'.upd h.ds.1 c (f.flat i hi j hj ⟨_,e0⟩ ⟨_,q⟩ p e1),c'⟩
theorem OwnS.writeD (h:OwnS K G M L H S σ ρ){F:Nat->List Ke}(f:DeepF K G M H S σ ρ F){p q2:Ke}{i:Nat}{o:HO}{d₀:Ka}(hi:Dp M i)(e0:ρ[i]?=some (some d₀))(e1:σ[i]?=some (some (.ref p)))(hq:q2∈F i)(hm:yh o=true)(ow:DeepO K (upd H q2 o) S (F i) p d) :
  OwnS K G M L (upd H q2 o) S σ (ρ.set i (some d)):=by
 obtain ⟨p',a,b,cc⟩:=f.own i hi d₀ e0
 rw [e1] at a;cases a
 obtain ⟨c,n,w⟩:=cc q2 hq
 have off:Off S H (upd H q2 o):=λb u z e=>by
  rw [qO (λy=>z (by rw [y];exact c))];exact e
 have hz:i<ρ.length:=(Kl.mp e0).1
 have get:∀ m d',(ρ.set i (some d))[m]?=some (some d')->∃ d'',ρ[m]?=some (some d''):=λm d' q=>by
  by_cases him:i=m
  ·subst him;exact ⟨_,e0⟩
  ·rw [qz him] at q;exact ⟨_,q⟩
 have get2:∀ m,Has (ρ.set i (some d)) m->Has ρ m:=λm ⟨d',q⟩=>get m d' q
 have dne:∀ j,Flt M j->i≠j:=λj hj z=>hj.2 (by rw [← z];exact hi.2)
 refine ⟨⟨h.ds.1.upd hm,by rw [VN];exact h.ds.2.1,λj d' hj q=>?_⟩,h.s0,λa u q=>?_,λj hj d' q=>?_,λj hj k hk d1 d2 q h1 h2 h3 h4=>?_,h.bnd,λj hj=>⟨(h.lkd j hj).1,by rw [qz (dne j (h.lkd j hj).1)];exact (h.lkd j hj).2⟩,
  F,λj hj d' q=>?_,λj hj k hk h1 h2=>f.disj j hj k hk (get2 j h1) (get2 k h2),λj hj k hk h1 h2=>f.flat j hj k hk (get2 j h1) (get2 k h2)⟩
 ·have hij:i≠j:=λz=>hj (by rw [← z];exact hi.1)
  rw [qz hij] at q
  obtain ⟨v,a,b⟩:=h.ds.2.2 j d' hj q
  exact ⟨v,a,b.off h.ds.1 off⟩
 ·have e2:=h.h0 a u q
  by_cases ne:a=q2
  ·rw [ne,w] at q;cases q
  ·rw [qO ne];exact e2
 ·rw [qz (dne j hj)] at q
  obtain ⟨q',a,b',c',n',w'⟩:=h.own j hj d' q
  exact ⟨q',a,b'.upd h.ds.1 c hm (λz=>by subst z;exact f.flat j hj i hi ⟨_,q⟩ ⟨_,e0⟩ _ a hq),c',n',w'⟩
 ·rw [qz (dne j hj)] at h1
  rw [qz (dne k hk)] at h2
  exact h.apart j hj k hk d1 d2 q h1 h2 h3 h4
 ·by_cases hij:i=j
  ·subst hij
   rw [Vc hz] at q;cases q
   exact ⟨p,e1,ow,cc⟩
  ·rw [qz hij] at q
   obtain ⟨q',a,b',c'⟩:=f.own j hj d' q
   exact ⟨q',a,b'.upd h.ds.1 c (λz=>hij (f.disj i hi j hj ⟨_,e0⟩ ⟨_,q⟩ _ hq z)),c'⟩
noncomputable def cut (P:Prop)(o:Option HO):Option HO:=@ite _ P (Classical.propDecidable P) none o
theorem qai (h:P):cut P o=none:=bI h
theorem qcn (h:¬ P):cut P o=o:=bJ h
noncomputable def Gm.base (G:Gm)(S:Av)(H:Hp):Gm:={ G with H0:=λa=>cut (S a/\G.H0 a=none) (H a) }
theorem qgh (h:Same G.H0 H):Same G.H0 (G.base S H).H0:=λa o q=>(qcn (λz=>by rw [q] at z;cases z.2)).trans (h a o q)
theorem qhm:Off S H (G.base S H).H0:=λa o n q=>(qcn (λz=>n z.1)).trans q
theorem qju:Same (G.base S H).H0 H:=λa o q=>by
 have q:cut (S a/\G.H0 a=none) (H a)=some o:=q
 by_cases h:S a/\G.H0 a=none
 ·rw [qai h] at q;cases q
 ·rw [qcn h] at q;exact q
theorem OwnS.base (h:OwnS K G M L H S σ ρ):OwnS K (G.base S H) M L H S σ ρ:=by
 obtain ⟨F,f⟩:=h.deep
 refine ⟨h.ds,h.s0,qju,λi hi d q=>?_,h.apart,λa z=>?_,h.lkd,F,λi hi d q=>let ⟨p,a,b,c⟩:=f.own i hi d q;⟨p,a,b,λr hr=>⟨(c r hr).1,(c r hr).2.1,qai ⟨(c r hr).1,(c r hr).2.2⟩⟩⟩,f.disj,f.flat⟩
 ·obtain ⟨p,a,b,c,n,w,w'⟩:=h.own i hi d q
  exact ⟨p,a,b,c,n,λhl=>qai ⟨c,w hl⟩,w'⟩
 ·rcases h.bnd a z with y|y|y
  ·exact .inl y
  ·exact .inr (.inl (qai ⟨z,y⟩))
  ·exact .inr (.inr y)
theorem OwnS.unbase {G':Gm}(s:Same G.H0 G'.H0)(e:G'.S0=G.S0)(e':G'.lk=G.lk)(h:OwnS K G' M L H S σ ρ):OwnS K G M L H S σ ρ:=by
 obtain ⟨F,f⟩:=h.deep
 refine ⟨h.ds,by rw [← e];exact h.s0,s.trans h.h0,λi hi d q=>?_,h.apart,λa z=>?_,by rw [← e'];exact h.lkd,F,λi hi d q=>let ⟨p,a,b,c⟩:=f.own i hi d q;⟨p,a,b,λr hr=>⟨(c r hr).1,by rw [← e];exact (c r hr).2.1,s.free (c r hr).2.2⟩⟩,f.disj,f.flat⟩
 ·obtain ⟨p,a,b,c,n,w,w'⟩:=h.own i hi d q
  exact ⟨p,a,b,c,by rw [← e];exact n,λhl=>s.free (w hl),by rw [← e'];exact w'⟩
 ·rcases h.bnd a z with y|y|y
  ·exact .inl (by rw [← e];exact y)
  ·exact .inr (.inl (s.free y))
  ·exact .inr (.inr (by rw [← e'];exact y))
theorem OwnS.turn {G':Gm}  (s0:∀ a,G'.S0 a->S a) (sl:∀ i∈L,S (G'.lk i).1) (h:OwnS K G' M L H S' σ ρ) (q:Den K G'.H0 S x d):Den K H S' x d:=by
 refine (q.sub λa ha z=>?_).same h.h0
 rcases h.bnd a z with y|y|⟨i,hi,rfl⟩
 ·exact s0 a y
 ·exact absurd y ha
 ·exact sl i hi
end
inductive Fr where
 | pl|nw|dp
def OutQ (K:Kb)(G:Gm)(M' Mb L:aq)(fr:Fr)(D:Ends):Out->Prop
 | .nx ρ=>∀ σ' H' S',OwnS K G M' L H' S' σ' ρ->D.nx σ' H'
 | .rt d=>match fr with
  | .nw=>∀ p H',Same G.H0 H'->G.H0 p=none->¬ G.S0 p->OwnO K H' (insA G.S0 p) p d->D.rt (.ref p) H'
  | .dp=>∀ p fp H',Same G.H0 H'->(∀ q∈fp,G.H0 q=none/\¬ G.S0 q)->DeepO K H' (insL G.S0 fp) fp p d->D.rt (.ref p) H'
  | .pl=>∀ v H',Same G.H0 H'->Den K H' G.S0 v d->D.rt v H'
 | .bk ρ=>∀ σ' H' S',OwnS K G Mb L H' S' σ' ρ->D.bk σ' H'
 | .ct ρ=>∀ σ' H' S',OwnS K G Mb L H' S' σ' ρ->D.ct σ' H'
def tDS (K:Kb)(G:Gm)(M L M' Mb:aq)(fr:Fr)(f:ai):TS:=λD σ H=>∃ S ρ o,OwnS K G M L H S σ ρ/\f ρ=some o/\OutQ K G M' Mb L fr D o
def PDS (X:Cx)(G:Gm)(M L M' Mb:aq)(fr:Fr)(s:KQ)(f:ai):Prop:=PS X s (tDS X.K G M L M' Mb fr f)
def PDSs (X:Cx)(G:Gm)(M L M' Mb:aq)(fr:Fr)(s:bu)(f:ai):Prop:=PSs X s (tDS X.K G M L M' Mb fr f)
def tF (K:Kb)(M:aq)(f:aa):TE:=λσ H Q=>∃ S ρ d,DenS K H S M σ ρ/\f ρ=some d/\∀ p H',Same H H'->H p=none->OwnO K H' (insA S p) p d->Q (.ref p) H'
def PF (X:Cx)(M:aq)(e:KB)(f:aa):Prop:=PE X e (tF X.K M f)
def Yr (f:aa):Rho->Option Ka:=λρ=>ob (f ρ) λd=>if flat d=true then some d else none
def qhK:Ka->Bool
 | .list ds=>ZZ ds
 | _=>false
def seqO (u w:ai)(ρ:Rho):Option Out:=ob (u ρ) λo=>match o with | .nx ρ'=>w ρ'|o=>some o
section
variable {X:Cx}{G:Gm}{M M1 M2 M' Mb L:aq}{fr:Fr}{a b c:KB}{es:aJ}{f g:aa}{p:aj}{pos:Pos}{s1:KQ}{ss st1 st2:bu}{u w:ai}
theorem w6 (h:PF X M a f):PD X M a f:=h.weak λσ H Q ⟨S,ρ,d,hs,e,q⟩=>⟨S,ρ,d,hs,e,λp H' g n o=>q _ H' g (o.den (hs.1.free n) λa _ z=>.inl z)⟩
theorem OwnO.flat {K:Kb}{H:Hp}{S S':Av}{p:Ke}{d:Ka}(fl:qhK d=true)(h:OwnO K H S p d):OwnO K H S' p d:=by
 cases h with
 | lst h t=>exact .lst h (t.flat fl)
 | dct h k t=>cases fl
theorem zm:PDSs X G M L M Mb fr [] sN:=qf7.weak λD σ H ⟨S,ρ,o,hs,e,q⟩=>by cases e;exact q σ H S hs
theorem qg (h1:PDS X G M L M1 Mb fr s1 u)(h2:PDSs X G M1 L M2 Mb fr ss w):PDSs X G M L M2 Mb fr (s1::ss) (seqO u w) :=
 (qed h1 h2).weak λD σ H ⟨S,ρ,o,hs,e,q⟩=>by
  obtain ⟨o1,e1,e⟩:=qd e
  refine ⟨S,ρ,o1,hs,e1,?_⟩
  cases o1 with
  | nx ρ'=>exact λσ' H' S' hs'=>⟨S',ρ',o,hs',e,q⟩
  | rt d=>cases e;exact q
  | bk d=>cases e;exact q
  | ct d=>cases e;exact q
theorem qj (h1:PDS X G M L M' Mb fr s1 u):PDSs X G M L M' Mb fr [s1] u:=qf8 h1
def subB (A B:aq):Bool:=A.all λi=>B.contains i&&(!(B.contains (i+1000))||A.contains (i+1000))
theorem YM (h:subB A B=true):∀ i∈A,i∈B:=λi hi=>by
 have:=Vg.mp h i hi
 rw [KD] at this
 simpa using this.1
theorem Yl (h:subB A B=true):SubM A B:=⟨YM h,λi hi hk=>by
 have:=Vg.mp h i hi
 rw [KD,NG] at this
 rcases this.2 with z|z
 ·rw [Bool.not_eq_true',← Bool.not_eq_true] at z
  exact absurd (by simpa using hk) z
 ·simpa using z⟩
theorem qgY (h:PDS X G M1 L M' Mb fr s1 u)(h1:subB M1 M=true:=by decide)(h2:subB L M1=true:=by decide):PDS X G M L M' Mb fr s1 u :=
 h.weak λD σ H ⟨S,ρ,o,hs,e,q⟩=>let ⟨S',hs'⟩:=hs.frz (Yl h1) λi hi _=>YM h2 i hi;⟨S',ρ,o,hs',e,q⟩
theorem OutQ.drop {K:Kb}{D:Ends}{o:Out}(h1:subB M1 M'=true)(h2:subB L M1=true)(q:OutQ K G M1 Mb L fr D o):OutQ K G M' Mb L fr D o:=by
 cases o with
 | nx ρ=>exact λσ' H' S' hs=>let ⟨S2,hs2⟩:=hs.frz (Yl h1) λi hi _=>YM h2 i hi;q σ' H' S2 hs2
 | rt d=>exact q
 | bk ρ=>exact q
 | ct ρ=>exact q
theorem qC (h:PD X [] a f):PDS X G M L M' Mb .pl (.Return (some a) pos) (sRet f) :=
 (qbl h).weak λD σ H ⟨S,ρ,o,hs,e,q⟩=>by
  obtain ⟨d,e1,e⟩:=qd e
  cases e
  exact ⟨G.S0,ρ,d,hs.den,e1,λv H' g1 d1=>q v H' (hs.h0.trans g1) d1⟩
theorem qiA (h:PF X [] a f):PDS X G M L M' Mb .nw (.Return (some a) pos) (sRet f) :=
 (qbl h).weak λD σ H ⟨S,ρ,o,hs,e,q⟩=>by
  obtain ⟨d,e1,e⟩:=qd e
  cases e
  exact ⟨G.S0,ρ,d,hs.den,e1,λp H' g1 n o=>q p H' (hs.h0.trans g1) (hs.h0.free n) (hs.den.1.free n) o⟩
theorem jo (i:Nat)(hv:Vis X.env.scope x)(hN:X.N[i]?=some x:=by rfl)(hd:'+'=false:=by decide +kernel)
  (hcd:(x==("__classdict__" : Str))=false:=by decide +kernel):PE X (.Name x pos) (λσ H Q=>∃ v,σ[i]?=some (some v)/\Q v H):=qiI hN hv hd hcd
theorem zN  (e:vr i ρ=some d):ρ[i]?=some (some d):=by
 have e:(ρ[i]?).join=some d:=e
 cases h:ρ[i]? with
 | none=>rw [h] at e;cases e
 | some o=>rw [h] at e;exact congrArg some e
theorem qiB (i:Nat){px:Pos}(hv:Vis X.env.scope x)(hM:Flt M i)(hL:i∉L)(hN:X.N[i]?=some x:=by rfl)(hd:'+'=false:=by decide +kernel)
  (hcd:(x==("__classdict__" : Str))=false:=by decide +kernel):PDS X G M L M' Mb .nw (.Return (some '3') pos) (sRet (vr i)) :=
 (qbl (jo i hv hN hd hcd)).weak λD σ H ⟨S,ρ,o,hs,e,q⟩=>by
  obtain ⟨d,e1,e⟩:=qd e
  cases e
  obtain ⟨p,a,b,c,n,w,_⟩:=hs.own i hM d (zN e1)
  exact ⟨_,a,q p H hs.h0 (w hL) n (b.sub λa _ z=>z.elim (λy=>hs.s0 a y) λy=>by rw [y];exact c)⟩
theorem zG (hc:PDT X [] c p)(h1:PDSs X G M L M' Mb fr st1 u)(h2:PDSs X G M L M' Mb fr st2 w):PDS X G M L M' Mb fr (.If c st1 st2 pos) (sIf p u w) :=
 (qlz hc h1 h2).weak λD σ H ⟨S,ρ,o,hs,e,q⟩=>by
  obtain ⟨d,e1,e⟩:=qd e
  refine ⟨G.S0,ρ,d,hs.den,e1,λH1 g1=>?_⟩
  cases d with
  | true=>exact iteT ⟨S,ρ,o,hs.same g1,e,q⟩
  | false=>exact iteF ⟨S,ρ,o,hs.same g1,e,q⟩
def tDG (K:Kb)(G:Gm)(M L:aq)(g:af):TG:=λv σ H Q=>∃ S ρ d ρ',OwnS K G M L H S σ ρ/\Den K H S v d/\g d ρ=some ρ'/\∀ σ' H',Same H H'->OwnS K G M L H' S σ' ρ'->Q σ' H'
def tDGs (K:Kb)(G:Gm)(M L:aq)(g:aF):TGs:=λvs σ H Q=>∃ S ρ ds ρ',OwnS K G M L H S σ ρ/\DenL K H S vs ds/\g ds ρ=some ρ'/\∀ σ' H',Same H H'->OwnS K G M L H' S σ' ρ'->Q σ' H'
def PDG (X:Cx)(G:Gm)(M L:aq)(t:KB)(g:af):Prop:=PG X t (tDG X.K G M L g)
def PDGs (X:Cx)(G:Gm)(M L:aq)(t:aJ)(g:aF):Prop:=PGs X t (tDGs X.K G M L g)
theorem qiw (i:Nat)(hN:X.N.Nodup)(hx:Loc X.env.scope x)(hM:i∉M)(hi:X.N[i]?=some x:=by rfl)(hf:X.fn x=true\/X.env.scope.names.lookup x=some .local:=by first|exact .inl rfl|exact .inr rfl|assumption):PDG X G M L (.Name x pos) (gNm i) :=
 (qf0 hN hi hx hf).weak λv σ H Q ⟨S,ρ,d,ρ',hs,hd,e,q⟩=>by
  cases e
  exact q _ H (Same.refl H) (hs.set hd hM)
theorem Q3:PDGs X G M L [] gsN :=
 qf1.weak λv σ H Q ⟨S,ρ,d,ρ',hs,hd,e,q⟩=>by
  cases hd with
  | nil=>cases e;exact ⟨rfl,q _ H (Same.refl H) hs⟩
  | cons a t=>cases e
theorem qP  (h1:PDG X G M L t g1) (h2:PDGs X G M L ts g2) (hs:(bV (t::ts) X.env).map (·.2)=assign t X.env::(bV ts X.env).map (·.2):=by rfl) :
  PDGs X G M L (t::ts) (gsC g1 g2) :=
 (qd9 h1 h2 hs).weak λv σ H Q ⟨S,ρ,d,ρ',hs,hd,e,q⟩=>by
  cases hd with
  | nil=>cases e
  | cons a t =>
   obtain ⟨ρ1,e1,e⟩:=qd e
   exact ⟨_,_,rfl,S,ρ,_,ρ1,hs,a,e1,λσ' H' g1 hs'=>⟨S,ρ1,_,ρ',hs',t.same g1,e,λσ2 H2 g2 hs2=>q σ2 H2 (g1.trans g2) hs2⟩⟩
theorem ZQ {ts:aJ}{k:Nat}{n:Nat}{g:aF}(hc:X.calm=true)(h:PDGs X G M L ts g)(hn:(bV ts X.env).length=n:=by rfl)(hst:(bV ts X.env).findIdx? (·.1)=none:=by rfl):PDG X G M L (.Tuple ts k pos) (unpD n g) :=
 (qiL hc h hn hst).weak λv σ H Q ⟨S,ρ,d,ρ',hs,hd,e,q⟩=>by
  cases hd with
  | @tuple a xs ds h t =>
   have e:(if ds.length=n then g ds ρ else none)=some ρ':=e
   split at e
   ·rename_i hl
    exact ⟨_,_,rfl,h,by rw [t.length];exact hl,S,ρ,_,ρ',hs,t,e,q⟩
   ·cases e
  | _=>cases e
theorem qan {tg:KB}{g:af}(he:PD X M a f)(hg:PDG X G M L tg g)(hs:cQ [tg] a pos.line X.env=pure false:=by rfl)(hw:cR [tg] a X.env=pure none:=by rfl)
  (h1:(bV [tg] X.env).map (·.2)=[assign tg X.env]:=by rfl):PDS X G M L M Mb fr (.Assign [tg] a pos) (sAsg f g) :=
 (qeV he hg hs hw h1).weak λD σ H ⟨S,ρ,o,hs,e,q⟩=>by
  obtain ⟨d,e1,e⟩:=qd e
  obtain ⟨ρ',e2,e⟩:=qd e
  cases e
  exact ⟨S,ρ,d,hs.ds,e1,λv H1 g1 d1=>⟨S,ρ,d,ρ',hs.same g1,d1,e2,λσ2 H2 g2 hs2=>q σ2 H2 S hs2⟩⟩
theorem za (i:Nat)(hN:X.N.Nodup)(hx:Loc X.env.scope x)(hi:X.N[i]?=some x)(hs:bZ a (some (.Name x p')) pos.line X.env=pure false)(hf:X.fn x=true\/X.env.scope.names.lookup x=some .local)(hM:i∉M)(he:PD X M a f) :
  PDS X G M L M Mb fr (.Assign [.Name x p'] a pos) (sSet i f) :=
 (YK hN hi hx he hs hf).weak λD σ H ⟨S,ρ,o,hs,e,q⟩=>by
  obtain ⟨d,e1,e⟩:=qd e
  cases e
  exact ⟨S,ρ,d,hs.ds,e1,λv H1 g1 d1=>q _ H1 S ((hs.same g1).set d1 hM)⟩
theorem Wc (i:Nat)(hN:X.N.Nodup)(hx:Loc X.env.scope x)(hi:X.N[i]?=some x)(hs:bZ a (some (.Name x p')) pos.line X.env=pure false)(hf:X.fn x=true\/X.env.scope.names.lookup x=some .local)(hM:i∉M)(he:PD X [] a f) :
  PDS X G M L M Mb fr (.Assign [.Name x p'] a pos) (sSet i (Yr f)) :=
 (YK hN hi hx he hs hf).weak λD σ H ⟨S,ρ,o,hs,e,q⟩=>by
  obtain ⟨d,e1,e⟩:=qd e
  cases e
  obtain ⟨d',e3,e4⟩:=qd e1
  split at e4
  ·rename_i hf
   cases e4
   exact ⟨G.S0,ρ,d,hs.den,e3,λv H1 g1 d1=>q _ H1 S ((hs.same g1).set (d1.flat hf) hM)⟩
  ·cases e4
def Q5 (i:Nat)(f:aa):Rho->Option Out:=λρ=>if i<ρ.length then ob (f ρ) λd=>some (.nx (ρ.set i (some d))) else none
theorem Qi (i:Nat)(hN:X.N.Nodup)(hx:Loc X.env.scope x)(hi:X.N[i]?=some x)(hs:bZ a (some (.Name x p')) pos.line X.env=pure false)(hf:X.fn x=true\/X.env.scope.names.lookup x=some .local)(hM:Out0 M i)(hL:i∉L)(he:PF X M a f) :
  PDS X G M L (i::M) Mb fr (.Assign [.Name x p'] a pos) (Q5 i f) :=
 (YK hN hi hx he hs hf).weak λD σ H ⟨S,ρ,o,hs,e,q⟩=>by
  unfold Q5 at e
  split at e
  ·rename_i hz
   obtain ⟨d,e1,e⟩:=qd e
   cases e
   exact ⟨S,ρ,d,hs.ds,e1,λp H1 g1 n o=>q _ H1 _ (hs.take n g1 o hM hL hz)⟩
  ·cases e
def forD (g:af)(body:ai):List Ka->Rho->Option Out
 | [],ρ=>some (.nx ρ)
 | d::ds,ρ=>ob (g d ρ) λρ1=>ob (body ρ1) λo=>match o with
  | .nx ρ'=>forD g body ds ρ'
  | .ct ρ'=>forD g body ds ρ'
  | .bk ρ'=>some (.nx ρ')
  | .rt r=>some (.rt r)
def sFor (fi:ab)(g:af)(u:ai):Rho->Option Out:=λρ=>ob (fi ρ) λds=>forD g u ds ρ
theorem OutQ.based {K:Kb}{G':Gm}{D:Ends}{o:Out}(s:Same G.H0 G'.H0)(e:G'.S0=G.S0)(e':G'.lk=G.lk)(q:OutQ K G M' Mb L fr D o):OutQ K G' M' Mb L fr D o:=by
 cases o with
 | nx ρ=>exact λσ' H' S' hs=>q σ' H' S' (hs.unbase s e e')
 | rt d =>
  cases fr with
  | nw=>exact λp H' h0 n n' o=>q p H' (s.trans h0) (s.free n) (by rw [← e];exact n') (by rw [← e];exact o)
  | dp=>exact λp fp H' h0 n o=>q p fp H' (s.trans h0) (λr hr=>⟨s.free (n r hr).1,by rw [← e];exact (n r hr).2⟩) (by rw [← e];exact o)
  | pl=>exact λv H' h0 d=>q v H' (s.trans h0) (by rw [← e];exact d)
 | bk ρ=>exact λσ' H' S' hs=>q σ' H' S' (hs.unbase s e e')
 | ct ρ=>exact λσ' H' S' hs=>q σ' H' S' (hs.unbase s e e')
theorem QB {tg iter:KB}{body:bu}{fi:ab}{g:af}(hp:EH '*' X.A X.env X.xe)(hc:X.calm=true)(hi:PDI X M tg iter fi)(hg:∀ G,PDG X G M L tg g)(hb:∀ G,PDSs X G M L M M fr body u)
  (hs:∀ x,bR iter X.env x=pure x:=by intro _;rfl):PDS X G M L M Mb fr (.For tg iter body [] pos) (sFor fi g u):=by
 have hg':PG X tg (λv σ H Q=>∃ G,tDG X.K G M L g v σ H Q):=λbE s σ H v u Q I r ⟨G,q⟩=>hg G bE s σ H v u Q I r q
 have hb':PSs X body (λD σ H=>∃ G,tDS X.K G M L M M fr u D σ H):=λbE s σ H D I ⟨G,q⟩=>hb G bE s σ H D I q
 refine (qiR hp hc hi hg' hb' hs).weak λD σ H ⟨S,ρ,o,os,e,q⟩=>?_
 obtain ⟨ds,e1,e⟩:=qd e
 refine ⟨S,ρ,ds,os.ds,e1,λJ H1 g1 hJ0=>?_⟩
 have os1:=os.same g1
 have hJ:IsIt X.K S J ((G.base S H1).H0) ds:=hJ0 _ qhm
 have bs:Same G.H0 (G.base S H1).H0:=qgh os1.h0
 have bo:=os1.base
 have sl:=os1.lks
 generalize hG:G.base S H1=G1 at hJ bs bo
 have eS:G1.S0=G.S0:=by rw [← hG];rfl
 have eL:G1.lk=G.lk:=by rw [← hG];rfl
 have sl1:∀ i∈L,S (G1.lk i).1:=by rw [eL];exact sl
 have s01:∀ a,G1.S0 a->S a:=by rw [eS];exact os.s0
 refine ⟨λi m σ' H'=>m=ds.length-i/\i<=ds.length/\∃ S' ρ o,OwnS X.K G1 M L H' S' σ' ρ/\forD g u (ds.drop i) ρ=some o/\OutQ X.K G M Mb L fr D o,⟨ds.length,by simp,Vh _,S,ρ,o,bo,e,q⟩,?_⟩
 rintro i m σ' H' ⟨rfl,hi,S',ρ',o',hs',e',q'⟩
 by_cases hlt:i<ds.length
 ·rw [VH hlt] at e'
  obtain ⟨ρ1,e2,e'⟩:=qd e'
  obtain ⟨o1,e3,e'⟩:=qd e'
  have key:∀ N:St->Hp->Prop,OutQ X.K G1 M M L fr { D with nx:=N,ct:=N,bk:=D.nx } o1->∀ x H2,J.yld i H' x H2->∃ G,tDG X.K G M L g x σ' H2 λσ2 H2=>∃ G,tDS X.K G M L M M fr u { D with nx:=N,ct:=N,bk:=D.nx } σ2 H2:=λN hN x H2 y=>by
   obtain ⟨e4,yd⟩:=hJ.yld i H' x H2 hs'.h0 y
   exact ⟨G1,S',ρ',_,ρ1,hs'.same e4,yd _ (Kk hlt) S' λy e q=>(hs'.turn s01 sl1 q).same e4,e2,λσ2 H3 g3 hs3=>⟨G1,S',ρ1,o1,hs3,e3,hN⟩⟩
  refine .inr ⟨hJ.go i H' hs'.h0 hlt,?_⟩
  have next:∀ ρ2,forD g u (ds.drop (i+1)) ρ2=some o'->∃ N:St->Hp->Prop,(∀ σ' H'',N σ' H''->∃ m',m'<ds.length-i/\(m'=ds.length-(i+1)/\i+1<=ds.length/\∃ S' ρ o,OwnS X.K G1 M L H'' S' σ' ρ/\forD g u (ds.drop (i+1)) ρ=some o/\OutQ X.K G M Mb L fr D o))/\∀ σ2 H2 S2,OwnS X.K G1 M L H2 S2 σ2 ρ2->N σ2 H2:=λρ2 e4 =>
   ⟨λσ2 H2=>∃ S2,OwnS X.K G1 M L H2 S2 σ2 ρ2,λσ2 H2 ⟨S2,hs3⟩=>⟨ds.length-(i+1),by omega,rfl,hlt,S2,ρ2,o',hs3,e4,q'⟩,λσ2 H2 S2 hs3=>⟨S2,hs3⟩⟩
  cases o1 with
  | nx ρ2 =>
   obtain ⟨N,n1,n2⟩:=next ρ2 e'
   exact ⟨N,n1,key N λσ3 H3 S3 hs3=>n2 σ3 H3 S3 hs3⟩
  | ct ρ2 =>
   obtain ⟨N,n1,n2⟩:=next ρ2 e'
   exact ⟨N,n1,key N λσ3 H3 S3 hs3=>n2 σ3 H3 S3 hs3⟩
  | bk ρ2 =>
   cases e'
   exact ⟨λ_ _=>False,λ_ _ z=>z.elim,key _ λσ3 H3 S3 hs3=>q' σ3 H3 S3 (hs3.unbase bs eS eL)⟩
  | rt r =>
   cases e'
   refine ⟨λ_ _=>False,λ_ _ z=>z.elim,key _ ?_⟩
   have q2:OutQ X.K G1 M Mb L fr D (.rt r):=q'.based bs eS eL
   exact q2
 ·have hi':i=ds.length:=by omega
  subst hi'
  rw [Nn] at e'
  cases e'
  exact .inl ⟨hJ.stop H' hs'.h0,q' σ' H' S' (hs'.unbase bs eS eL)⟩
end
noncomputable def outD:Out->Option Ka
 | .rt d=>some d
 | .nx _=>some .none
 | _=>none
noncomputable def outF:Out->Option Ka
 | .rt d=>some d
 | _=>none
def rho0 (n:Nat)(ds:ae):Rho:=ds.map some++Vt (n-ds.length) none
def G0 (H:Hp)(S:Av):Gm:=⟨H,S,λ_=>(0,.none)⟩
theorem OwnS.start {K:Kb}{H:Hp}{S:Av}{vs:List V}{ds:ae}(m:Dm S H)(h:DenL K H S vs ds)(N:aB):OwnS K (G0 H S) [] [] H S (start N vs) (rho0 N.length ds) :=
 ⟨DenS.start m h N,λ_ z=>z,Same.refl _,(λ_ h=>nomatch h.1),(λ_ h=>nomatch h.1),λ_ z=>.inl z,(λ_ h=>nomatch h),λ_=>[],(λ_ h=>nomatch h.1),(λ_ h=>nomatch h.1),(λ_ h=>nomatch h.1)⟩
def spN (K:Kb)(n:Nat)(f:ak):Sp:=λvs H Q _=>∃ S ds d,Dm S H/\DenL K H S vs ds/\ds.length=n/\f ds=some d/\∀ p H',Same H H'->H p=none->OwnO K H' (insA S p) p d->Q (.ref p) H'
structure FunG (K:Kb)(x qual:Str)(st:KQ)(f:Ke)(fd:Vp):Prop where
 ex:∃ (oc dV:Kc) (od:aI) (kV doc pm:Kc) (an:aI) (cdv ct:Kc) (osl:au),
  fd=Ud x qual (Zh st) (zO st) (qe st) dV kV doc pm an cdv ct/\K.lookup f=some ⟨oc,od,.func fd,osl⟩/\UH K cdv qual=true
 kp:Vl K (.ref f)=true
theorem Fun.g {K:Kb}{x qual:Str}{st:KQ}{f:Ke}{fd:Vp}(F:Fun K x qual st f fd):FunG K x qual st f fd:=by
 obtain ⟨oc,od,kV,doc,pm,an,cdv,ct,osl,e,lk,hcd⟩:=F.ex
 exact ⟨⟨oc,_,od,kV,doc,pm,an,cdv,ct,osl,e,lk,hcd⟩,F.kp⟩
theorem qj1 {K:Kb}{x qual:Str}{st:KQ}{f:Ke}{oc:Kc}{od an:aI}{osl:au}{dV kV doc pm cdv ct:Kc}(l:K.lookup f=some ⟨oc,od,.func (Ud x qual (Zh st) (zO st) (qe st) dV kV doc pm an cdv ct),osl⟩)
  (c:UH K cdv qual=true) (k:Vl K (.ref f)=true):FunG K x qual st f (Ud x qual (Zh st) (zO st) (qe st) dV kV doc pm an cdv ct):=⟨⟨oc,dV,od,kV,doc,pm,an,cdv,ct,osl,rfl,l,c⟩,k⟩
section
variable {P:KJ}{w:KZ}{K:Kb}{mg:ao}{base:KS}
theorem FunG.ok {x qual:Str}{st:KQ}{f:Ke}{fd:Vp}{N ps:aB}{k:Nat}{sp:Sp}(F:FunG K x qual st f fd)(S:FnScope N ps (qe st))(len:∀ vs H Q E,sp vs H Q E->vs.length=ps.length)
  (hbody:∀ (cdv:Kc) (A:K0) (outer:aU) (s:Kh) (H:Hp) (vs:List V) (Q:VK) (E:XK),Room k (A.deeper (cD qual (qe st) s.heap.objs.size f cdv))->sp vs H Q E->
   ∃ t,PSs (cxOf CX0 P w K mg base N qual (qe st) f cdv A outer s H E).nox (zO st) t/\t { nx:=λ_ H'=>Q .non H',rt:=Q } (start N vs) H):FnOk P w K mg base CX0 (k+1) f fd ps sp:=by
 obtain ⟨oc,dV,od,kV,doc,pm,an,cdv,ct,osl,rfl,lk,hcd⟩:=F.ex
 refine qlr lk hcd S len λA outer s H vs Q E hr hsp=>?_
 obtain ⟨t,h,q⟩:=hbody cdv A outer s H vs Q E hr hsp
 exact ⟨t,h.nox,q⟩
theorem FunG.pure {x qual:Str}{st:KQ}{f:Ke}{fd:Vp}{N ps:aB}{k n:Nat}{u:ai}{M':aq}(F:FunG K x qual st f fd)(S:FnScope N ps (qe st))(hn:ps.length=n)
  (hbody:∀ (cdv:Kc) (A:K0) (outer:aU) (s:Kh) (H:Hp) (E:XK),Room k (A.deeper (cD qual (qe st) s.heap.objs.size f cdv))->∀ G:Gm,
   PDSs (cxOf CX0 P w K mg base N qual (qe st) f cdv A outer s H E).nox G [] [] M' [] .pl (zO st) u) :
  FnOk P w K mg base CX0 (k+1) f fd ps (spF K n λds=>ob (u (rho0 N.length ds)) outD):=by
 refine F.ok S (λvs H Q E h=>?_) (λcdv A outer s H vs Q E hr h=>?_)
 ·obtain ⟨_,ds,d,_,h1,h2,_⟩:=h
  rw [h1.length,h2,hn]
 ·obtain ⟨Sv,ds,d,m,h1,h2,e,q⟩:=h
  obtain ⟨o,e1,e⟩:=qd e
  refine ⟨_,hbody cdv A outer s H E hr (G0 H Sv),Sv,rho0 N.length ds,o,OwnS.start m h1 N,e1,?_⟩
  cases o with
  | rt r=>cases e;exact q
  | nx ρ=>cases e;exact λσ' H' S' hs=>q _ H' hs.h0 .none
  | bk ρ=>cases e
  | ct ρ=>cases e
theorem Fun.pure {x qual:Str}{st:KQ}{f:Ke}{fd:Vp}{N ps:aB}{k n:Nat}{u:ai}{M':aq}(F:Fun K x qual st f fd)(S:FnScope N ps (qe st))(hn:ps.length=n)
  (hbody:∀ (cdv:Kc) (A:K0) (outer:aU) (s:Kh) (H:Hp) (E:XK),Room k (A.deeper (cD qual (qe st) s.heap.objs.size f cdv))->∀ G:Gm,
   PDSs (cxOf CX0 P w K mg base N qual (qe st) f cdv A outer s H E).nox G [] [] M' [] .pl (zO st) u) :
  FnOk P w K mg base CX0 (k+1) f fd ps (spF K n λds=>ob (u (rho0 N.length ds)) outD) :=
 F.g.pure S hn hbody
theorem FunG.new {x qual:Str}{st:KQ}{f:Ke}{fd:Vp}{N ps:aB}{k n:Nat}{u:ai}{M':aq}(F:FunG K x qual st f fd)(S:FnScope N ps (qe st))(hn:ps.length=n)
  (hbody:∀ (cdv:Kc) (A:K0) (outer:aU) (s:Kh) (H:Hp) (E:XK),Room k (A.deeper (cD qual (qe st) s.heap.objs.size f cdv))->∀ G:Gm,
   PDSs (cxOf CX0 P w K mg base N qual (qe st) f cdv A outer s H E).nox G [] [] M' [] .nw (zO st) u) :
  FnOk P w K mg base CX0 (k+1) f fd ps (spN K n λds=>ob (u (rho0 N.length ds)) outF):=by
 refine F.ok S (λvs H Q E h=>?_) (λcdv A outer s H vs Q E hr h=>?_)
 ·obtain ⟨_,ds,d,_,h1,h2,_⟩:=h
  rw [h1.length,h2,hn]
 ·obtain ⟨Sv,ds,d,m,h1,h2,e,q⟩:=h
  obtain ⟨o,e1,e⟩:=qd e
  refine ⟨_,hbody cdv A outer s H E hr (G0 H Sv),Sv,rho0 N.length ds,o,OwnS.start m h1 N,e1,?_⟩
  cases o with
  | rt r=>cases e;exact λp H' g n _ o=>q p H' g n o
  | nx ρ=>cases e
  | bk ρ=>cases e
  | ct ρ=>cases e
theorem Fun.new {x qual:Str}{st:KQ}{f:Ke}{fd:Vp}{N ps:aB}{k n:Nat}{u:ai}{M':aq}(F:Fun K x qual st f fd)(S:FnScope N ps (qe st))(hn:ps.length=n)
  (hbody:∀ (cdv:Kc) (A:K0) (outer:aU) (s:Kh) (H:Hp) (E:XK),Room k (A.deeper (cD qual (qe st) s.heap.objs.size f cdv))->∀ G:Gm,
   PDSs (cxOf CX0 P w K mg base N qual (qe st) f cdv A outer s H E).nox G [] [] M' [] .nw (zO st) u) :
  FnOk P w K mg base CX0 (k+1) f fd ps (spN K n λds=>ob (u (rho0 N.length ds)) outF) :=
 F.g.new S hn hbody
structure Known (P:KJ)(w:KZ)(K:Kb)(mg:ao)(base:KS)(x:Str)(n k:Nat)(h:ak):Prop where
 ex:∃ (f:Ke) (fd:Vp) (ps:aB),FnOk P w K mg base CX0 k f fd ps (spF K n h)/\mg x=some (.ref f)/\Vl K (.ref f)=true/\Binds K fd ps []
structure KnownN (P:KJ)(w:KZ)(K:Kb)(mg:ao)(base:KS)(x:Str)(n k:Nat)(h:ak):Prop where
 ex:∃ (f:Ke) (fd:Vp) (ps:aB),FnOk P w K mg base CX0 k f fd ps (spN K n h)/\mg x=some (.ref f)/\Vl K (.ref f)=true/\Binds K fd ps []
end
section
variable {X:Cx}{G:Gm}{M M' Mb L:aq}{fr:Fr}{a b c:KB}{es:aJ}{f g:aa}{p:aj}{pos:Pos}{u:ai}
theorem qm {p:Pos}  (F:Known X.prog X.w X.K X.mg X.base x n k h) (hr:Room k' X.A) (hk:k<=k') (hg:Gl X x) (ha:PDA X M (a::es) fs) (hl:(a::es).length=n)
  (hdb:'+'=false:=by decide +kernel) (he:bG (a::es) X.env=(false,eval a X.env)::bG es X.env:=by rfl) (hpl:(bT pos (bG es X.env)).any (·.1)=false:=by rfl) :
  PD X M (.Call (.Name x p) (a::es) [] pos) (evC n fs h):=by
 obtain ⟨f,fd,ps,F,m,kp,b⟩:=F.ex
 exact qkA F (hr.mono hk) hg m kp b qa8 ha hl hdb he hpl
theorem qbk {p:Pos}  (F:KnownN X.prog X.w X.K X.mg X.base x n k h) (hr:Room k' X.A) (hk:k<=k') (hg:Gl X x) (ha:PDA X M (a::es) fs) (hl:(a::es).length=n)
  (hdb:'+'=false:=by decide +kernel) (he:bG (a::es) X.env=(false,eval a X.env)::bG es X.env:=by rfl) (hpl:(bT pos (bG es X.env)).any (·.1)=false:=by rfl) :
  PF X M (.Call (.Name x p) (a::es) [] pos) (evC n fs h):=by
 obtain ⟨f,fd,ps,F,m,kp,b⟩:=F.ex
 refine (Yj F (hr.mono hk) hg m kp b .nil qa8 ha hdb he hpl).weak λσ H Q ⟨S,ρ,d,hs,e,q⟩=>?_
 obtain ⟨ds,e1,e⟩:=qd e
 have e:(if ds.length=n then h ds else none)=some d:=e
 split at e
 ·rename_i hn
  exact ⟨S,ρ,ds,hs,e1,λvs H1 g1 d1=>⟨S,ds,d,hs.1.same g1,by rw [VM];exact d1,hn,e,λp H' g2 n o=>q p H' (g1.trans g2) (g1.free n) o⟩⟩
 ·cases e
theorem OwnO.laid {K:Kb}{H:Hp}{S:Av}{p:Ke}{vs:List V}{ds:ae}(n:H p=none)(t:DenL K H S vs ds):OwnO K (L2.upd H p (.lst vs)) (insA S p) p (.list ds) :=
 .lst qU ((t.sub λa ha z=>z.elim id λy=>absurd (by rw [y];exact n) ha).same (Same.lay n))
theorem Jf (h:PDA X M es fs):PF X M (.List es pos) (evA fs lstD) :=
 (qiG h).weak λσ H Q ⟨S,ρ,d,hs,e,q⟩=>by
  obtain ⟨xs,e1,e⟩:=qd e
  obtain ⟨hz,rfl⟩:=qb1 e
  exact ⟨S,ρ,xs,hs,e1,λvs H1 g1 d1=>⟨VA (zB (by rw [d1.length];exact hz)),λp hp=>q _ _ (g1.lay' hp) (g1.free hp) (OwnO.laid hp d1)⟩⟩
def qlj (X:Cx)(f:Kc)(g:ak):Prop:=jD X f (λvs H Q=>∃ S ds d,Dm S H/\DenL X.K H S vs ds/\g ds=some d/\∀ p H',Same H H'->H p=none->OwnO X.K H' (insA S p) p d->Q (.ref p) H')
theorem qbi {id:String}{x:Str}{p:Pos}{h:ak}{fs:ab}(hc:qlj X (.builtin id) h)(hg:Gl X x)(hm:X.mg x=none)(hv:bS x=some (.builtin id))(ha:PDA X M (a::es) fs)(hn:x ≠ "__name__" := by decide +kernel)(hdb:'+'=false:=by decide +kernel)
  (he:bG (a::es) X.env=(false,eval a X.env)::bG es X.env:=by rfl) (hpl:(bT pos (bG es X.env)).any (·.1)=false:=by rfl):PF X M (.Call (.Name x p) (a::es) [] pos) (evA fs h) :=
 (qbg hc hg hm hv ha hn hdb he hpl).weak λσ H Q ⟨S,ρ,d,hs,e,q⟩=>by
  obtain ⟨ds,e1,e⟩:=qd e
  exact ⟨S,ρ,ds,hs,e1,λvs H1 g1 d1=>⟨S,ds,d,hs.1.same g1,d1,e,λp H' g2 n o=>q p H' (g1.trans g2) (g1.free n) o⟩⟩
noncomputable def appD:Ka->Ka->Option Ka
 | .list ds,d=>if ds.length<1000 then some (.list (ds++[d])) else none
 | _,_=>none
def sApp (i:Nat)(f:aa):Rho->Option Out:=λρ=>ob (vr i ρ) λl=>ob (f ρ) λd=>ob (appD l d) λl'=>some (.nx (ρ.set i (some l')))
theorem yX (e:appD l d=some l'):∃ ds,l=.list ds/\ds.length<1000/\l'=.list (ds++[d]):=by
 unfold appD at e
 split at e
 ·split at e
  ·rename_i hz;cases e;exact ⟨_,rfl,hz,rfl⟩
  ·cases e
 ·cases e
theorem Off.upd {S:Av}{H:Hp}{p:Ke}{o:HO}(c:S p):Off S H (L2.upd H p o):=λb u z e=>by
 rw [qO (λy=>z (by rw [y];exact c))];exact e
theorem j9 (i:Nat){px apos cpos:Pos}(hv:Vis X.env.scope x)(hM:Flt M i)(hL:i∉L)(he:PD X M a f)(hN:X.N[i]?=some x:=by rfl)(hd:'+'=false:=by decide +kernel)(hcd:(x==("__classdict__" : Str))=false:=by decide +kernel)
  (hbase:bU '3' "append" X.env (eval '3' X.env)=eval '3' X.env:=by rfl)
  (hfew:((bT cpos (bG [a] X.env)).all (λx=>!x.1)&&(cH cpos (cu [] X.env)).all (λx=>x.1.isSome)
   && decide ([a].length+([]:List UI).length+(if ([]:List UI).isEmpty then 0 else 1)<30))=true:=by rfl)
  (hline:(apos.endLine==cpos.line)=true:=by rfl) (hs:bG [a] X.env=(false,eval a X.env)::bG [] X.env:=by rfl) (hplain:(bT cpos (bG [] X.env)).any (·.1)=false:=by rfl)
  (hsw:bZ (.Call (.Attribute '3' "append" apos) [a] [] cpos) none pos.line X.env=pure false:=by rfl) :
  PDS X G M L M Mb fr (.Expr (.Call (.Attribute '3' "append" apos) [a] [] cpos) pos) (sApp i f) :=
 (Yk (qb7 VY Xr X3 WK (jo i hv hN hd hcd) (qT he zV hs) hbase hfew hline hs hplain) hsw).weak λD σ H ⟨S,ρ,o,os,e,q⟩=>by
  obtain ⟨l,e1,e⟩:=qd e
  obtain ⟨d,e2,e⟩:=qd e
  obtain ⟨l',e3,e⟩:=qd e
  cases e
  obtain ⟨ds,rfl,hz,rfl⟩:=yX e3
  obtain ⟨pp,a1,b1,c1,n1,w1,_⟩:=os.own i hM _ (zN e1)
  cases b1 with
  | @lst xs _ h t =>
   refine ⟨_,a1,.inl ⟨rfl,_,SqL.of h⟩,S,ρ,[d],os.ds,by show ob (f ρ) _=_;rw [e2];rfl,λvs H2 g2 dl=>?_⟩
   obtain ⟨v,rfl,dv⟩:=dl.inv1
   have os2:=os.same g2
   refine ⟨pp,xs,v,rfl,rfl,g2 _ _ h,K8 (by rw [t.length];exact hz) (VA (zB (Kp _))),?_⟩
   exact q _ _ _ (os2.write hM hL (zN e1) a1 rfl (.lst qU (((t.same g2).snoc dv).off os2.ds.1 (Off.upd c1))))
def isNone:Ka->Bool
 | .none=>true
 | _=>false
noncomputable def isD:Ka->Ka->Option Ka
 | x,.none=>some (.bool (isNone x))
 | .bool b,.bool c=>some (.bool (b==c))
 | _,_=>none
def isnD:Ka->Ka->Option Ka
 | x,.none=>some (.bool (!isNone x))
 | .bool b,.bool c=>some (.bool (!(b==c)))
 | _,_=>none
theorem qaN {K:Kb}{H:Hp}{S:Av}{v:V}{d:Ka}(h:Den K H S v d):decide (v=.non)=isNone d:=by cases h<;>rfl
theorem d_is:OpD X (bQ .Is) isD:=by
 intro bE s σ H x y v u Q I rx ry ⟨S,dx,dy,d,m,h1,h2,e,q⟩
 unfold isD at e
 split at e
 ·cases e;cases h2
  exact qmC bE s σ H x _ v u Q I rx ry ⟨rfl,by rw [qaN h1];exact q _ H (Same.refl H) (.bool _)⟩
 ·cases e;cases h1;cases h2
  cases (show v=Vv _ from rx);cases (show u=Vv _ from ry)
  exact is_bool (jM I (q _ H (Same.refl H) (.bool _)) rfl)
 ·cases e
theorem qlo:OpD X (bQ .IsNot) isnD:=by
 intro bE s σ H x y v u Q I rx ry ⟨S,dx,dy,d,m,h1,h2,e,q⟩
 unfold isnD at e
 split at e
 ·cases e;cases h2
  exact qkz bE s σ H x _ v u Q I rx ry ⟨rfl,by rw [qaN h1];exact q _ H (Same.refl H) (.bool _)⟩
 ·cases e;cases h1;cases h2
  cases (show v=Vv _ from rx);cases (show u=Vv _ from ry)
  exact isnot_bool (jM I (q _ H (Same.refl H) (.bool _)) rfl)
 ·cases e
end
section
variable {X:Cx}{G:Gm}{M M' Mb L:aq}{fr:Fr}{a b c:KB}{es:aJ}{f g:aa}{p:aj}{pos:Pos}{u:ai}
def Jm (t:aj)(body:ai):Nat->Rho->Option Out
 | 0,_=>none
 | n+1,ρ=>ob (t ρ) λb=>if b=true then ob (body ρ) λo=>match o with
   | .nx ρ'=>Jm t body n ρ'
   | .ct ρ'=>Jm t body n ρ'
   | .bk ρ'=>some (.nx ρ')
   | .rt r=>some (.rt r)
  else some (.nx ρ)
def JX (t:aj)(body:ai):Rho->Option Out:=Jm t body 1000000
theorem Yi (hp:EH '*' X.A X.env X.xe)(hc:PDT X [] c p)(hb:PDSs X G M L M M fr body u):PDS X G M L M Mb fr (.While c body [] pos) (JX p u) :=
 (qiS hp hc hb).weak λD σ H ⟨S,ρ,o,os,e,q⟩=>by
  refine ⟨λm σ' H'=>∃ S' ρ' o',OwnS X.K G M L H' S' σ' ρ'/\Jm p u m ρ'=some o'/\OutQ X.K G M Mb L fr D o',⟨1000000,S,ρ,o,os,e,q⟩,?_⟩
  rintro m σ' H' ⟨S',ρ',o',os',e',q'⟩
  cases m with
  | zero=>cases e'
  | succ m =>
   obtain ⟨b,e1,e'⟩:=qd e'
   refine ⟨G.S0,ρ',b,os'.den,e1,λH1 g1=>?_⟩
   have os1:=os'.same g1
   cases b with
   | false =>
    cases e'
    exact iteF (q' σ' H1 S' os1)
   | true =>
    rw [bI rfl] at e'
    obtain ⟨o1,e2,e'⟩:=qd e'
    refine iteT ?_
    have next:∀ ρ2,Jm p u m ρ2=some o'->∃ N:St->Hp->Prop,(∀ σ' H'',N σ' H''->∃ m',m'<m+1/\∃ S' ρ' o',OwnS X.K G M L H'' S' σ' ρ'/\Jm p u m' ρ'=some o'/\OutQ X.K G M Mb L fr D o')/\∀ σ2 H2 S2,OwnS X.K G M L H2 S2 σ2 ρ2->N σ2 H2:=λρ2 e4 =>
     ⟨λσ2 H2=>∃ S2,OwnS X.K G M L H2 S2 σ2 ρ2,λσ2 H2 ⟨S2,hs3⟩=>⟨m,UE m,S2,ρ2,o',hs3,e4,q'⟩,λσ2 H2 S2 hs3=>⟨S2,hs3⟩⟩
    cases o1 with
    | nx ρ2 =>
     obtain ⟨N,n1,n2⟩:=next ρ2 e'
     exact ⟨N,n1,S',ρ',_,os1,e2,λσ3 H3 S3 hs3=>n2 σ3 H3 S3 hs3⟩
    | ct ρ2 =>
     obtain ⟨N,n1,n2⟩:=next ρ2 e'
     exact ⟨N,n1,S',ρ',_,os1,e2,λσ3 H3 S3 hs3=>n2 σ3 H3 S3 hs3⟩
    | bk ρ2 =>
     cases e'
     exact ⟨λ_ _=>False,λ_ _ z=>z.elim,S',ρ',_,os1,e2,λσ3 H3 S3 hs3=>q' σ3 H3 S3 hs3⟩
    | rt r =>
     cases e'
     have q2:OutQ X.K G M Mb L fr D (.rt r):=q'
     exact ⟨λ_ _=>False,λ_ _ z=>z.elim,S',ρ',_,os1,e2,q2⟩
def intD:Ka->Option Int
 | .int i=>some i
 | _=>none
def PDO (X:Cx)(M:aq)(e:Option KB)(f:bj):Prop:=PO X e (λσ H Q=>∃ S ρ i,DenS X.K H S M σ ρ/\f ρ=some i/\∀ H',Same H H'->Q i H')
def oN:Rho->Option (Option Int):=λ_=>some none
def oS (f:aa):Rho->Option (Option Int):=λρ=>ob (f ρ) λd=>ob (intD d) λi=>some (some i)
theorem qgw (h:intD d=some i):d=.int i:=by cases d<;>first|(cases h;rfl)|cases h
theorem qbd:PDO X M none oN:=λbE s σ H Q I ⟨S,ρ,i,hs,e,q⟩=>by
 cases e
 exact qkN bE s σ H Q I (q H (Same.refl H))
theorem qbe (h:PD X M a f):PDO X M (some a) (oS f):=λbE s σ H Q I ⟨S,ρ,i,hs,e,q⟩=>by
 obtain ⟨d,e1,e⟩:=qd e
 obtain ⟨j,e2,e⟩:=qd e
 cases e
 cases qgw e2
 exact qkO h bE s σ H Q I ⟨S,ρ,_,hs,e1,λv H' g d=>⟨j,d.int_inv,q H' g⟩⟩
def cutD (ds:ae)(lo hi:aV):List Ka:=(ds.drop (HT.sIx ds.length 0 lo)).take (HT.sIx ds.length ds.length hi-HT.sIx ds.length 0 lo)
def sliD (x:Ka)(lo hi:aV):Option Ka:=match x with
 | .list ds=>some (.list (cutD ds lo hi))
 | .tuple ds=>if HT.sIx ds.length 0 lo=0/\HT.sIx ds.length ds.length hi=ds.length then none else some (.tuple (cutD ds lo hi))
 | _=>none
def evS (fa:aa)(fl fh:bj):Rho->Option Ka:=λρ=>ob (fa ρ) λx=>ob (fl ρ) λl=>ob (fh ρ) λh=>sliD x l h
theorem qdk {K:Kb}{H:Hp}{S:Av}{vs:List V}{ds:ae}(t:DenL K H S vs ds)(lo hi:aV):DenL K H S (cutV vs lo hi) (cutD ds lo hi):=by
 unfold cutV cutD
 rw [t.length]
 exact (t.drop _).take _
theorem qbc {lo hi:Option KB}{fl fh:bj}{p2:Pos}(ha:PD X M a f)(hl:PDO X M lo fl)(hh:PDO X M hi fh):PD X M (.Subscript a (.Slice lo hi none p2) pos) (evS f fl fh) :=
 (qiH (r:=λx lo hi H Q=>rSlL X.K x lo hi H Q\/rSlT X.K x lo hi H Q) (qla.or qnh) ha hl hh).weak λσ H Q ⟨S,ρ,d,hs,e,q⟩=>by
  obtain ⟨x,e1,e⟩:=qd e
  obtain ⟨l,e2,e⟩:=qd e
  obtain ⟨h,e3,e⟩:=qd e
  refine ⟨S,ρ,x,hs,e1,λv H1 g1 d1=>⟨S,ρ,l,hs.same g1,e2,λH2 g2=>⟨S,ρ,h,hs.same (g1.trans g2),e3,λH3 g3=>?_⟩⟩⟩
  have g13:=g1.trans (g2.trans g3)
  have d3:=d1.same (g2.trans g3)
  cases d3 with
  | list hq t =>
   cases e
   exact .inl ⟨_,_,rfl,hq.sq,λp hp=>q _ _ (g13.lay' hp) (.list (SqLS.new qU ((hs.1.same g13).free hp)) ((qdk t l h).same (Same.lay hp)))⟩
  | @tuple a' xs ds hq t =>
   have e:(if HT.sIx ds.length 0 l=0/\HT.sIx ds.length ds.length h=ds.length then none else some (Vk (cutD ds l h)))=some d:=e
   split at e
   ·cases e
   ·rename_i hc
    cases e
    refine .inr ⟨_,_,rfl,hq,by rw [t.length];exact hc,λp hp=>q _ _ (g13.lay' hp) (.tuple (SqT.of qU) ((qdk t l h).same (Same.lay hp)))⟩
  | _=>cases e
def qfc (x y:Ka):Option Ka:=match x,y with
 | .int i,.int j=>some (.int (i+j))
 | .tuple ds,.tuple es=>if ds.length+es.length<=1000 then some (.tuple (ds++es)) else none
 | _,_=>none
theorem qhv {prog:KJ}{w:KZ}{A:K0}{E:ah}{s:Kh}{t b:Ke}{vs ws:az}{Q:ah}(ht:cT s.heap t vs.toArray)(hb:cT s.heap b ws.toArray)(hv:vs=[])(h:Q (.ref b) s) :
  bK ',' A (bY .Add (.ref t) (.ref b)) Q E s:=by
 obtain ⟨⟨cls,dd,data,sl⟩,ho,hc,n,hd⟩:=id ht
 obtain ⟨⟨cls2,dd2,data2,sl2⟩,ho2,hc2,n2,hd2⟩:=id hb
 simp only at hc hd hc2 hd2
 subst hc hd hc2 hd2
 exact Eo ⟨_,ho,rfl⟩ ⟨_,ho2,rfl⟩ Ep seq_tuple_add Nd Nb (X2 _ _) (tuple_addW0 t b vs.toArray ws.toArray n n2 dd dd2 sl sl2 (by simp [hv])) ⟨ho,ho2,h⟩
theorem qkv:OpR X (bY .Add) (λx y H Q=>∃ a b ys,x=.ref a/\y=.ref b/\SqT X.K H a []/\SqT X.K H b ys/\Q (.ref b) H):=by
 intro bE s σ H x y v u Q I rx ry h
 obtain ⟨a,b,ys,rfl,rfl,ha,hb,q⟩:=h
 cases rx
 cases ry
 obtain ⟨its,r1,p1,_⟩:=I.tuple ha
 obtain ⟨its2,r2,p2,_⟩:=I.tuple hb
 exact qhv p1 p2 (r1.nil_iff.mpr rfl) ⟨.ref b,H,I,rfl,q⟩
theorem qhB:OpD X (bY .Add) qfc:=by
 refine YF (r:=λx y H Q=>rI0 (λi j=>.int (i+j)) x y H Q\/(qlA X.K x y H Q\/(∃ a b ys,x=.ref a/\y=.ref b/\SqT X.K H a []/\SqT X.K H b ys/\Q (.ref b) H))) (qmA.or (qkw.or qkv)) λx y dx dy d H S Q m h1 h2 e q=>?_
 unfold qfc at e
 split at e
 ·cases e;cases h1;cases h2
  exact .inl ⟨_,_,rfl,rfl,q _ H (Same.refl H) (.int _)⟩
 ·split at e
  ·rename_i ds es hc
   cases e
   cases h1 with
   | tuple a1 t1 =>
    cases h2 with
    | tuple a2 t2 =>
     cases ds with
     | nil =>
      cases t1
      exact .inr (.inr ⟨_,_,_,rfl,rfl,a1,a2,q _ H (Same.refl H) (.tuple a2 t2)⟩)
     | cons d0 ds =>
      refine .inr (.inl ⟨_,_,_,_,rfl,rfl,a1,a2,λz=>?_,?_,λz=>?_,λz p hp=>q _ _ (Same.lay hp) (.tuple (SqT.of qU) ((t1.append t2).same (Same.lay hp)))⟩)
      ·subst z;cases t1
      ·rw [t1.length,t2.length]
       exact VA (zB hc)
      ·subst z;cases t2
       rw [VM] at q
       exact q _ H (Same.refl H) (.tuple a1 t1)
  ·cases e
 ·cases e
end
section
variable {X:Cx}{G:Gm}{M M1 M' Mb L:aq}{fr:Fr}{a b c:KB}{es:aJ}{f g:aa}{p:aj}{pos:Pos}{u:ai}{ss:bu}{s1:KQ}
def PDR (X:Cx)(tg iter:KB)(f:ab):Prop:=PI X tg iter (λσ H R=>∃ S ρ ds,DenS X.K H S [] σ ρ/\f ρ=some ds/\∀ J H',Same H H'->(∀ H2 S2,IsIt X.K S2 J H2 ds)->R J H')
theorem Zq {tg:KB}{fs:ab}{p:Pos}(hg:Gl X "range")(hm:X.mg "range" = none)(ha:PDA X [] [a] fs)(hs:bG [a] X.env=[(false,eval a X.env)]:=by rfl):PDR X tg (.Call (.Name "range" p) [a] [] pos) (evR fs Zy) :=
 (qb8 hg hm ha hs).weak λσ H R ⟨S,ρ,ds,hs,e,w⟩=>by
  obtain ⟨xs,e1,e⟩:=qd e
  refine ⟨S,ρ,xs,hs,e1,λvs H1 g1 d1=>?_⟩
  unfold Zy at e
  split at e
  ·rename_i j
   split at e
   ·rename_i hj
    cases e
    obtain ⟨v,rfl,q⟩:=d1.inv1
    cases q
    exact ⟨j,rfl,by omega,by omega,w _ _ g1 λ_ _=>IsIt.rng 0 _⟩
   ·cases e
  ·cases e
theorem jT {tg iter:KB}{body:bu}{fi:ab}{g:af}(hp:EH '*' X.A X.env X.xe)(hc:X.calm=true)(hi:PDR X tg iter fi)(hg:PDG X G M L tg g)(hb:PDSs X G M L M M fr body u)
  (hs:∀ x,bR iter X.env x=pure x:=by intro _;rfl):PDS X G M L M Mb fr (.For tg iter body [] pos) (sFor fi g u):=by
 refine (qiR hp hc hi hg hb hs).weak λD σ H ⟨S,ρ,o,os,e,q⟩=>?_
 obtain ⟨ds,e1,e⟩:=qd e
 refine ⟨G.S0,ρ,ds,os.den,e1,λJ H1 g1 hJ=>?_⟩
 refine ⟨λi m σ' H'=>m=ds.length-i/\i<=ds.length/\∃ S' ρ o,OwnS X.K G M L H' S' σ' ρ/\forD g u (ds.drop i) ρ=some o/\OutQ X.K G M Mb L fr D o,⟨ds.length,by simp,Vh _,S,ρ,o,os.same g1,e,q⟩,?_⟩
 rintro i m σ' H' ⟨rfl,hi,S',ρ',o',hs',e',q'⟩
 by_cases hlt:i<ds.length
 ·rw [VH hlt] at e'
  obtain ⟨ρ1,e2,e'⟩:=qd e'
  obtain ⟨o1,e3,e'⟩:=qd e'
  have key:∀ N:St->Hp->Prop,OutQ X.K G M M L fr { D with nx:=N,ct:=N,bk:=D.nx } o1->∀ x H2,J.yld i H' x H2->tDG X.K G M L g x σ' H2 λσ2 H2=>tDS X.K G M L M M fr u { D with nx:=N,ct:=N,bk:=D.nx } σ2 H2:=λN hN x H2 y=>by
   obtain ⟨e4,yd⟩:=(hJ H' S').yld i H' x H2 (Same.refl _) y
   exact ⟨S',ρ',_,ρ1,hs'.same e4,yd _ (Kk hlt) S' λy e q=>q.same e4,e2,λσ2 H3 g3 hs3=>⟨S',ρ1,o1,hs3,e3,hN⟩⟩
  refine .inr ⟨(hJ H' S').go i H' (Same.refl _) hlt,?_⟩
  have next:∀ ρ2,forD g u (ds.drop (i+1)) ρ2=some o'->∃ N:St->Hp->Prop,(∀ σ' H'',N σ' H''->∃ m',m'<ds.length-i/\(m'=ds.length-(i+1)/\i+1<=ds.length/\∃ S' ρ o,OwnS X.K G M L H'' S' σ' ρ/\forD g u (ds.drop (i+1)) ρ=some o/\OutQ X.K G M Mb L fr D o))/\∀ σ2 H2 S2,OwnS X.K G M L H2 S2 σ2 ρ2->N σ2 H2:=λρ2 e4 =>
   ⟨λσ2 H2=>∃ S2,OwnS X.K G M L H2 S2 σ2 ρ2,λσ2 H2 ⟨S2,hs3⟩=>⟨ds.length-(i+1),by omega,rfl,hlt,S2,ρ2,o',hs3,e4,q'⟩,λσ2 H2 S2 hs3=>⟨S2,hs3⟩⟩
  cases o1 with
  | nx ρ2 =>
   obtain ⟨N,n1,n2⟩:=next ρ2 e'
   exact ⟨N,n1,key N λσ3 H3 S3 hs3=>n2 σ3 H3 S3 hs3⟩
  | ct ρ2 =>
   obtain ⟨N,n1,n2⟩:=next ρ2 e'
   exact ⟨N,n1,key N λσ3 H3 S3 hs3=>n2 σ3 H3 S3 hs3⟩
  | bk ρ2 =>
   cases e'
   exact ⟨λ_ _=>False,λ_ _ z=>z.elim,key _ λσ3 H3 S3 hs3=>q' σ3 H3 S3 hs3⟩
  | rt r =>
   cases e'
   have q2:OutQ X.K G M Mb L fr D (.rt r):=q'
   exact ⟨λ_ _=>False,λ_ _ z=>z.elim,key _ q2⟩
 ·have hi':i=ds.length:=by omega
  subst hi'
  rw [Nn] at e'
  cases e'
  exact .inl ⟨(hJ H' S').stop H' (Same.refl _),q' σ' H' S' hs'⟩
theorem qgZ (M1:aq)(h1:subB M1 M=true)(h2:subB L M1=true)(h:PDS X G M1 L M' Mb fr s1 u):PDS X G M L M' Mb fr s1 u:=qgY h h1 h2
end
def intsOf:List Ka->Option (List Int)
 | []=>some []
 | .int i::r=>ob (intsOf r) λns=>some (i::ns)
 | _::_=>none
def boolsOf:List Ka->Option (List Bool)
 | []=>some []
 | .bool i::r=>ob (boolsOf r) λns=>some (i::ns)
 | _::_=>none
theorem W7:∀ {ds:ae} {ns:aA},intsOf ds=some ns->ds=ns.map .int
 | [],_,h=>by cases h;rfl
 | .int i::r,ns,h=>by
  obtain ⟨ms,e1,e2⟩:=qd h
  cases e2
  rw [W7 e1]
  rfl
 | .none::_,_,h=>by cases h
 | .bool _::_,_,h=>by cases h
 | .str _::_,_,h=>by cases h
 | .list _::_,_,h=>by cases h
 | .tuple _::_,_,h=>by cases h
 | .dict _::_,_,h=>by cases h
theorem wJ:∀ {ds:ae} {ns:List Bool},boolsOf ds=some ns->ds=ns.map .bool
 | [],_,h=>by cases h;rfl
 | .bool i::r,ns,h=>by
  obtain ⟨ms,e1,e2⟩:=qd h
  cases e2
  rw [wJ e1]
  rfl
 | .none::_,_,h=>by cases h
 | .int _::_,_,h=>by cases h
 | .str _::_,_,h=>by cases h
 | .list _::_,_,h=>by cases h
 | .tuple _::_,_,h=>by cases h
 | .dict _::_,_,h=>by cases h
def inOk (ds:ae)(x:Ka):Bool:=Kq ds&&(x.canLay0&&decide (x.depth<=63))
def inL (ds:ae)(x:Ka):Bool:=ds.any λy=>Kv y x
def inD (x y:Ka):Option Ka:=match y with
 | .list ds=>if inOk ds x=true then some (.bool (inL ds x)) else none
 | .tuple ds=>if inOk ds x=true then some (.bool (inL ds x)) else none
 | _=>none
def ninD (x y:Ka):Option Ka:=match y with
 | .list ds=>if inOk ds x=true then some (.bool (!inL ds x)) else none
 | .tuple ds=>if inOk ds x=true then some (.bool (!inL ds x)) else none
 | _=>none
def allD:List Ka->Option Ka
 | [.list ds]=>ob (boolsOf ds) λbs=>some (.bool (bs.all id))
 | _=>none
section
variable {X:Cx}
theorem Z5 {x:Ka}(h:inOk ds x=true):Kq ds=true/\x.canLay0=true/\x.depth<=63:=by
 unfold inOk at h
 rw [KD,KD] at h
 exact ⟨h.1,h.2.1,bN h.2.2⟩
theorem Ye {A:K0}{x:Ka}(hd:x.depth<=63)(hu:A.units+64<cg):A.units+1+min (KI ds) x.depth<cg:=by
 have:=Nat.min_le_right (KI ds) x.depth
 omega
theorem d_in (hr:Room k X.A):OpD X (bQ .In) inD:=by
 intro bE s σ H x y v u Q I rx ry h
 obtain ⟨S,dx,dy,d,m,h1,h2,e,q⟩:=h
 unfold inD at e
 split at e
 ·split at e
  ·rename_i hc
   obtain ⟨c1,c2,c3⟩:=Z5 hc
   cases e
   obtain ⟨as,q1⟩:=h1.reads I c2 rx
   obtain ⟨bs,q2⟩:=h2.reads I (by rw [KP];exact c1) ry
   exact SeqAt.in_list_reads q2 q1 c1 c2 (Ye c3 hr.units) (jM I (q _ H (Same.refl H) (.bool _)) rfl)
  ·cases e
 ·split at e
  ·rename_i hc
   obtain ⟨c1,c2,c3⟩:=Z5 hc
   cases e
   obtain ⟨as,q1⟩:=h1.reads I c2 rx
   obtain ⟨bs,q2⟩:=h2.reads I (by rw [KP];exact c1) ry
   exact SeqAt.in_tuple_reads q2 q1 c1 c2 (Ye c3 hr.units) (jM I (q _ H (Same.refl H) (.bool _)) rfl)
  ·cases e
 ·cases e
theorem qaj (hr:Room k X.A):OpD X (bQ .NotIn) ninD:=by
 intro bE s σ H x y v u Q I rx ry h
 obtain ⟨S,dx,dy,d,m,h1,h2,e,q⟩:=h
 unfold ninD at e
 split at e
 ·split at e
  ·rename_i hc
   obtain ⟨c1,c2,c3⟩:=Z5 hc
   cases e
   obtain ⟨as,q1⟩:=h1.reads I c2 rx
   obtain ⟨bs,q2⟩:=h2.reads I (by rw [KP];exact c1) ry
   exact SeqAt.notIn_list_reads q2 q1 c1 c2 (Ye c3 hr.units) (jM I (q _ H (Same.refl H) (.bool _)) rfl)
  ·cases e
 ·split at e
  ·rename_i hc
   obtain ⟨c1,c2,c3⟩:=Z5 hc
   cases e
   obtain ⟨as,q1⟩:=h1.reads I c2 rx
   obtain ⟨bs,q2⟩:=h2.reads I (by rw [KP];exact c1) ry
   exact SeqAt.notIn_tuple_reads q2 q1 c1 c2 (Ye c3 hr.units) (jM I (q _ H (Same.refl H) (.bool _)) rfl)
  ·cases e
 ·cases e
theorem DenL.bools_inv {K:Kb}{H:Hp}{S:Av}:∀ {vs:List V} {ns:List Bool},DenL K H S vs (ns.map UZ)->vs=ns.map V.bl
 | _,[],h=>by cases h;rfl
 | _,n::ns,h=>by
  cases h with
  | cons a t=>cases a;rw [t.bools_inv];rfl
theorem W4:∀ {ns:List Bool} {us:az},Vals (ns.map V.bl) us->LSm.BoolsAre us ns
 | [],_,h=>by cases h;exact .nil
 | n::ns,_,h=>by
  cases h with
  | cons r t=>cases (show _=Vv n from r);exact .cons n (W4 t)
theorem qll (hc:X.calm=true):CallD X (.builtin "all") allD:=by
 intro bE s σ H xs us Q I r h
 obtain ⟨S,ds,d,m,h1,e,q⟩:=h
 unfold allD at e
 split at e
 ·rename_i ds
  obtain ⟨bs,e1,e2⟩:=qd e
  cases e2
  rw [wJ e1] at h1
  obtain ⟨v,rfl,hv⟩:=h1.inv1
  obtain ⟨a,ys,rfl,hs,ht⟩:=hv.list_inv
  rw [ht.bools_inv] at hs
  obtain ⟨u,rfl,ru⟩:=vals1 r
  cases (show u=Vd a from ru)
  obtain ⟨its,rv,p,_⟩:=I.list hs.sq
  have hb:=W4 rv
  have hl:=p.isList
  have hlt:a<s.heap.objs.size:=by obtain ⟨_,e,_⟩:=hl;exact KF e
  refine call_all_walk (wpAny_pyIter_list hl ?_)
  refine ⟨s.heap.objs.size,[s.heap.objs.size,a],[s.heap.objs.size],its.toArray.size,_,_,λi=>(bs[i]?).getD true,rfl,Walks.list (A:=X.A.in1) (I.ok.hd hc) _ a (KW hlt) its.toArray,
   ⟨⟨_,Kx _ rfl,rfl,rfl⟩,hl.push _⟩,λi v s' Q' E' hP hQ=>?_,λh' tk hk=>?_⟩
  ·obtain ⟨b,e,rfl⟩:=hb.get i v (by simpa using hP)
   simp only [e,Option.getD_some] at hQ
   exact Ua hQ
  ·have e:((KN its.toArray.size).all λi=>(bs[i]?).getD true)=bs.all id:=by
    rw [KA,hb.length];exact LSm.range_all bs
   rw [e]
   exact ⟨.bl (bs.all id),H,I.kept (LSm.kept_iter hk),rfl,q _ H (Same.refl H) (.bool _)⟩
 ·cases e
end
section
variable {X:Cx}{G:Gm}{M M' Mb L:aq}{fr:Fr}{f:aa}{p:aj}{pos:Pos}
theorem qjc {K:Kb}{n k:Nat}{fi:ab}{g:af}(hg:GIn n k g):∀ σ H Q,tF K M (jh n k fi g p f) σ H Q->qcd k (tDI K M fi) (tDGc K M g) (tDT K M p) (tD K M f) σ H Q:=by
 intro σ H Q ⟨S,ρ,d,hs,e,q⟩
 obtain ⟨ds,ys,e1,hn,hz,e2,rfl⟩:=Yv e
 exact qge hg σ H Q S ρ ds ys hs e1 hn hz e2 λH' zs g2 dl D hD=>q _ _ (g2.lay' hD) (g2.free hD) (OwnO.laid hD dl)
variable {elt iter tg:KB}{ifs:aJ}{x:Str}{N':aB}{px:Pos}{sc:V9}{n k:Nat}{fi:ab}{g:af}
theorem qiJ (O:CompOk X N' k sc)(gi:GIn n k g)(hi:PDI X M tg iter fi)(hg:∀ cl C fp bE s H,PDGc '-' M tg g)(hq:∀ cl C fp bE s H,PDTs '-' M ifs p)(he:∀ cl C fp bE s H,PD '-' M elt f)
  (hs:∀ v,bR iter X.env v=pure v:=by intro _;rfl):PF X M (.ListComp elt [⟨tg,iter,ifs,0⟩] sc pos) (jh n k fi g p f) :=
 (qfX (wg:=tDGc X.K M g) (tt:=tDT X.K M p) (te:=tD X.K M f) O hi hg hq he hs).weak (qjc gi)
theorem qkK (O:CompOk X N' 1 sc)(hx:N'[n]?=some x)(hl:lc1 sc x=true)(hi:PDI X M '3' iter fi)(hq:∀ cl C fp bE s H,PDTs '-' M ifs p)(he:∀ cl C fp bE s H,PD '-' M elt f)
  (hs:∀ v,bR iter X.env v=pure v:=by intro _;rfl):PF X M (.ListComp elt [⟨.Name x px,iter,ifs,0⟩] sc pos) (jJ n fi p f):=by
 rw [Yu]
 exact qiJ O (QZ (Kp _)) hi (ZS O hx hl) hq he hs
def swB (sc₀ sc:V9)(t:Str)(pt p:Pos):Bool:=decide (sc₀.names.lookup t=some .local)&&(pt.line==p.line)&&!(sc.names.any λ(n,k)=>n==t&&(k==.local||k==.cell))
theorem qbq  (hsc:X.env.scope=sc₀) (h:swB sc₀ sc y py pos=true):X.env.scope.names.lookup y=some .local:=by
 subst hsc
 unfold swB at h
 rw [KD,KD] at h
 exact bN h.1.1
theorem qlF    (hsc:X.env.scope=sc₀) (h:swB sc₀ sc y py pos=true) (hbk:X.env.blockKind=.function):bZ (.ListComp elt gens sc pos) (some (.Name y py)) line X.env=pure true:=by
 have h0:=qbq hsc h
 subst hsc
 unfold swB at h
 rw [KD,KD] at h
 show pure (X.env.blockKind==.function&&X.env.kindOf y==some .local&&py.line==pos.line&&!(sc.names.any λ(n,k)=>n==y&&(k==.local||k==.cell)))=pure true
 have e1:(X.env.blockKind==Uo)=true:=by rw [hbk];rfl
 have e2:(X.env.kindOf y==some bX.local)=true:=by
  show (X.env.scope.names.lookup y==some bX.local)=true
  rw [h0];rfl
 rw [e1,e2,h.1.2,h.2]
 rfl
theorem qgW (j:Nat){py spos:Pos}(O:CompOk X N' k sc)(gi:GIn n k g)(sc₀:V9)(hsc:X.env.scope=sc₀)(hB:swB sc₀ sc y py pos=true)(hM:Out0 M j)(hL:j∉L)(hi:PDI X M tg iter fi)(hg:∀ cl C fp bE s H,PDGc '-' M tg g)(hq:∀ cl C fp bE s H,PDTs '-' M ifs p)(he:∀ cl C fp bE s H,PD '-' M elt f)
  (hj:X.N[j]?=some y:=by rfl) (hbk:X.env.blockKind=.function:=by rfl)
  (hs:∀ v,bR iter X.env v=pure v:=by intro _;rfl):PDS X G M L (j::M) Mb fr (.Assign [.Name y py] (.ListComp elt [⟨tg,iter,ifs,0⟩] sc pos) spos) (Q5 j (jh n k fi g p f)) :=
 (qf6 (wg:=tDGc X.K M g) (tt:=tDT X.K M p) (te:=tD X.K M f) O hj (qbq hsc hB) hi hg hq he (qlF hsc hB hbk) hs).weak λD σ H ⟨S,ρ,o,hs,e,q⟩=>by
  unfold Q5 at e
  split at e
  ·rename_i hz
   obtain ⟨d,e1,e⟩:=qd e
   cases e
   exact qjc gi σ H _ ⟨S,ρ,d,hs.ds,e1,λp H1 g1 n o=>q _ H1 _ (hs.take n g1 o hM hL hz)⟩
  ·cases e
theorem qiz (j:Nat){py spos:Pos}(O:CompOk X N' 1 sc)(hx:N'[n]?=some x)(hl:lc1 sc x=true)(sc₀:V9)(hsc:X.env.scope=sc₀)(hB:swB sc₀ sc y py pos=true)(hM:Out0 M j)(hL:j∉L)(hi:PDI X M '3' iter fi)(hq:∀ cl C fp bE s H,PDTs '-' M ifs p)(he:∀ cl C fp bE s H,PD '-' M elt f)
  (hj:X.N[j]?=some y:=by rfl) (hbk:X.env.blockKind=.function:=by rfl)
  (hs:∀ v,bR iter X.env v=pure v:=by intro _;rfl):PDS X G M L (j::M) Mb fr (.Assign [.Name y py] (.ListComp elt [⟨.Name x px,iter,ifs,0⟩] sc pos) spos) (Q5 j (jJ n fi p f)):=by
 rw [Yu]
 exact qgW j O (QZ (Kp _)) sc₀ hsc hB hM hL hi (ZS O hx hl) hq he hj hbk hs
end
def qfp (N N':aB)(k:Nat)(sc₀ sc:V9):Bool :=
 decide (sc.kind=.function)&&decide N.Nodup&&decide N'.Nodup&&decide (N'.length=N.length+k)&&sc.names.all (λy=>decide (y.2≠.cell)||decide (sc.names.lookup y.1=some .cell))&&sc.names.all (λy=>decide (y.2≠.local)||decide (sc.names.lookup y.1=some .local)) &&
 (N.zip N').all (λy=>(decide (y.1=y.2)&&(decide (sc.names.lookup y.2≠some .local)&&decide (sc.names.lookup y.2≠some .cell)))||decide (sc.names.lookup y.2=none)) &&
 sc.names.all (λy=>decide (y.2≠.free)||decide (sc₀.names.lookup y.1=some .cell)||decide (sc₀.names.lookup y.1=some .free))
theorem CompOk.of {X:Cx}  (N N':aB) (sc₀:V9) (hc:X.calm=true) (hN:X.N=N) (hs:X.env.scope=sc₀) (h:qfp N N' k sc₀ sc=true):CompOk X N' k sc:=by
 subst hN
 subst hs
 unfold qfp at h
 simp only [KD,bW,Vg,NG] at h
 obtain ⟨⟨⟨⟨⟨⟨⟨h1,h2⟩,h2'⟩,h2l⟩,h3⟩,h4⟩,h7⟩,h8⟩:=h
 refine ⟨hc,h1,h2,h2',h2l,λy hy q=>(h3 y hy).resolve_left (λz=>z q),λy hy q=>(h4 y hy).resolve_left (λz=>z q),λi y hi e=>?_,λy hy q=>?_⟩
 ·have hz:(X.N.zip N')[i]?=some (X.N[i],y):=by
   rw [XU]
   exact ⟨Kk hi,e⟩
  rcases h7 _ (Va hz) with ⟨q,w⟩|q
  ·refine .inl ⟨?_,w⟩
   rw [Kk hi]
   exact congrArg some q
  ·exact .inr q
 ·rcases h8 y hy with (z|z)|z
  ·exact absurd q z
  ·exact .inl z
  ·exact .inr z
theorem qbv:∀ {ns:aA} {n:Int},n∈ns->PySem.W.WData.weight (.int n)<=PySem.W.WData.weightAll (ns.map .int)
 | m::ns,n,h=>by
  rw [Ku,PySem.W.WData.weightAll]
  rcases Kr.mp h with rfl|h
  ·omega
  ·have:=qbv h
   omega
theorem qaC {ns:aA}(h:PySem.W.WData.layableAll [.list (ns.map .int)]=true):∀ n∈ns,UT n<=2 ^ 20:=by
 intro n hn
 have h1:PySem.W.WData.layable (.list (ns.map .int))=true:=by
  unfold PySem.W.WData.layableAll at h
  simpa using h
 unfold PySem.W.WData.layable at h1
 rw [KD] at h1
 have h2:=bN h1.2
 rw [PySem.W.WData.weight] at h2
 have h3:=Ve (qbv hn) h2
 rw [PySem.W.WData.weight] at h3
 exact h3
end L2
namespace Att
open PySem PySem.W PySem.Calls PyProof.Rows
theorem attach_callB {l:Eg}{n:Nat}{q:KJ}{loose:List Str}{XP:(Str->Option Kc)->KS->Prop}{YP:KZ->KS->Prop}{d:DefRec}
  (hn:l.most=some n) (hdf:d.params.defaults=[])
  (call:∀ (w:KZ) (s₀ s₁:Kh) (mg mb:Str->Option Kc) (fa:Ke) (o:Obj) (pm cd doc:Kc) (a:Ke) (vs:List Kc) (ns:List Int),
   Ground q loose [] XP w s₀ mg mb s₁.heap->YP w s₁.heap->
   s₁.heap.get? fa=some o->o.data=.func (docDef d.name d.params d.body d.scope pm cd doc)->s₁.heap.CodeRec cd d.name->mg d.name=some (.ref fa)->
   s₁.heap.get? a=some { cls:=.type "list", data:=.seq vs.toArray }->IntsAre vs ns->ns.length<=n->(∀ k∈ns,UT k<=2 ^ 20)->s₁.gens=#[]->
   cA (model l.prog w) callerA (.call (.ref fa) ⟨[.ref a],[]⟩) (λr s'=>r=.ok (.ret (.bool true))/\OldK s₁.heap s'.heap/\s'.os=s₁.os/\XN s'.gens) s₁) :
  WalkO q loose XP YP l.row.toRowW d [] (λf vs=>PySem.call f vs):=by
 intro w s₀ s₁ mg mb G Y fa o pm cd doc dV kV ho hd hcd hD hmg hg args vals as hpre hlay hrd hwl hlo
 obtain rfl:dV=.none:=Dflts.none hD hdf
 obtain rfl:kV=.none:=Dflts.noKw hD
 obtain ⟨a,vs,ns,rfl,rfl,hobj,hints,hlen⟩:=qha hn hpre hwl
 refine enter_call (codeAny_mono (call w s₀ s₁ mg mb fa o pm cd doc a vs ns G Y ho (fd_plain hd) hcd hmg hobj hints hlen (L2.qaC hlay) hg) λr s' hq=>?_)
 obtain ⟨rfl,h2,h3,h4⟩:=hq
 exact ⟨.inl ⟨.bool true,.bool true,[],rfl,λ_=>rfl,.bool true,qg6 l _,λ_=>⟨List.Pairwise.nil,λ_ hm=>(nomatch hm)⟩⟩,h2,h3,h4⟩
end Att
namespace L2
open PySem PySem.Spec PyProof.Rows
def qe2 (K:Kb)(n:Nat):Sp:=λvs H Q _=>∃ (a:Ke) (ns:aA),vs=[.ref a]/\SqL K H a (ns.map V.int)/\ns.length<=n/\(∀ k∈ns,UT k<=2 ^ 20)/\∀ H',Q (.bl true) H'
theorem qh4 {P:KJ}{w:KZ}{K:Kb}{mg:ao}{base:KS}{CX:CXT}{k n:Nat}{f:Ke}{fd:Vp}{ps:aB}{h:ak}(F:FnOk P w K mg base CX k f fd ps (spF K 1 h))
  (e:∀ ns:List Int,ns.length<=n->(∀ k∈ns,UT k<=2 ^ 20)->h [.list (ns.map .int)]=some (.bool true)):FnOk P w K mg base CX k f fd ps (qe2 K n) :=
 F.imp λvs H Q E ⟨a,ns,h1,h2,h3,h4,q⟩=>by
  subst h1
  exact ⟨λ_=>False,[.list (ns.map .int)],.bool true,(λ_ z=>z.elim),.cons (.list (h2.imp (λy=>⟨y,id⟩) id) (DenL.ints ns)) .nil,rfl,e ns h3 h4,λv H' _ d=>by rw [d.bool_inv];exact q H'⟩
theorem qhe {l:Eg}{n k:Nat}{q:KJ}{loose:aB}{XP:(Str->Option Kc)->KS->Prop}{YP:KZ->KS->Prop}{d:DefRec}{K:Params->Kb}{x:Str}
  (hn:l.most=some n) (hn2:n<=bM) (hdf:d.params.defaults=[]) (hr:Room k callerA)
  (hY:∀ (w:KZ) (h:KS),YP w h->(K w.params).In h)
  (F:∀ (w:KZ) (mg:ao) (fa:Ke) (h:KS),(K w.params).In h->h.Ns bL mg->mg d.name=some (.ref fa)->
   ∃ fd:Vp,(∀ (s:Kh) (u:Kc),BindsTo s fd ⟨[u],[]⟩ [(x,u)])/\
    ∀ base:KS,(K w.params).In base->base.Ns bL mg->FnOk l.prog w (K w.params) mg base CX0 k fa fd [x] (qe2 (K w.params) n)) :
  PySem.W.WalkO q loose XP YP l.row.toRowW d [] (λf vs=>PySem.call f vs):=by
 refine Att.attach_callB hn hdf λw s₀ s₁ mg mb fa o pm cd doc a vs ns G Y ho hd hcd hmg hobj hints hlen hbits hg=>?_
 have KX:=hY w _ Y
 obtain ⟨fd,hb,hF⟩:=F w mg fa _ KX G.T.g hmg
 exact qh3 KX G.T.g G.T.b G.T.builtins G.T.nolimit hg hobj hints (Ve hlen hn2) hr hF hb (λH hO hS=>⟨a,ns,rfl,hS,hlen,hbits,λ_=>rfl⟩) λH e s' h=>h
mutual
def ltX:Ka->Ka->Option Bool
 | .int i,.int j=>some (decide (i<j))
 | .tuple xs,.tuple ys=>ltXs xs ys
 | .list xs,.list ys=>ltXs xs ys
 | _,_=>none
def ltXs:List Ka->List Ka->Option Bool
 | [],[]=>some false
 | [],_::_=>some true
 | _::_,[]=>some false
 | x::xs,y::ys=>if Kv x y=true then ltXs xs ys else ltX x y
end
def LtAt (A:K0)(s:Kh)(y x:Kc)(b:Bool):Prop:=∀ (prog:KJ) (w:KZ) (E Q:ah),Q (.bool b) s->bK ',' A (cq .Lt y x) Q E s
def WX (A:K0)(s:Kh):List Kc->List Kc->Bool->Prop
 | [],[],r=>r=false
 | [],_::_,r=>r=true
 | _::_,[],r=>r=false
 | y::ys,x::xs,r=>∃ e,SeqAt.EqAt A s y x e/\(e=true->WX A s ys xs r)/\(e=false->LtAt A s y x r)
section
open PySem.SeqAt
open PySem.AutoSeq1 (wpAny_loadPart')
open PySem.MeetsSeq PySem.MeetsSeq2 PySem.MeetsSeq3
theorem qc6 (l b:Ke)(items items2:aT)(n n2:Nat)(dd dd2:aI)(sl sl2:au) :
  Meets (UQ.«tuple.__lt__» ⟨[.ref l,.ref b],[]⟩)
   (λA R s=>s.heap.get? l=some { cls:=.type "tuple", dict:=dd,data:=.seq items n,slots:=sl }/\s.heap.get? b=some { cls:=.type "tuple", dict:=dd2,data:=.seq items2 n2,slots:=sl2 }/\
    ∃ r,WX A.in1 s items.toList items2.toList r/\R (.ok (.ret (.bool r))) s) :=
 .of_wp λprog w A R s h=>by
  obtain ⟨hp,g,d,tk,os⟩:=s;obtain ⟨hl,hb,r,hx,h⟩:=h
  have f2:=AutoSeq1.sub_tuple_tuple
  wp_walk using bO hl,bO hb,XH _ (λrest b s'=>b.1=none/\s'=⟨hp,g,d,tk,os⟩/\∃ (vs ws:az),rest=vs.zip ws/\
   WX A.in1 ⟨hp,g,d,tk,os⟩ vs ws r/\vs.length+items2.size=ws.length+items.size) _
  case turn =>
   rintro ⟨y,x⟩ rest b s' ⟨hb',rfl,vs,ws,hz,hlx,hlen⟩
   cases vs with
   | nil=>rw [Ei] at hz;cases hz
   | cons v vs =>
    cases ws with
    | nil=>rw [N1] at hz;cases hz
    | cons u ws =>
     rw [Xw] at hz
     injection hz with hyx hrest
     injection hyx with hy hx'
     subst hy hx'
     simp only [Kw] at hlen
     obtain ⟨e,he,h1,h2⟩:=hlx
     refine Kd (he prog w _ _ ?_)
     cases e with
     | true =>
      wp_walk
      exact ⟨rfl,rfl,_,_,hrest,h1 rfl,by omega⟩
     | false =>
      have hri:=h2 rfl prog w
      wp_walk using hri
      exact ⟨_,rfl,by simpa using h⟩
  case fin =>
   rintro ⟨b1,b2⟩ s' ⟨hb',rfl,vs,ws,hz,hlx,hlen⟩
   simp only at hb'
   subst hb'
   have hv:r=decide (items.size<items2.size):=by
    cases vs with
    | nil =>
     cases ws with
     | nil =>
      simp only [VO] at hlen
      rw [show r=false from hlx]
      exact (bH (by omega)).symm
     | cons c hw =>
      simp only [VO,Kw] at hlen
      rw [show r=true from hlx]
      exact (bF (by omega)).symm
    | cons a hv =>
     cases ws with
     | nil =>
      simp only [VO,Kw] at hlen
      rw [show r=false from hlx]
      exact (bH (by omega)).symm
     | cons c hw =>
      rw [Xw] at hz
      cases hz
   rw [hv] at h
   wp_walk
   exact ⟨_,rfl,by simpa [Ny] using h⟩
  case h =>
   exact ⟨rfl,rfl,items.toList,items2.toList,rfl,hx,by simp [Fh]⟩
end
theorem qib {A:K0}{s:Kh}{items items2:aT}(hl:cT s.heap l items)(hb:cT s.heap b items2)(hu:A.units<cg)(h:WX A.in1 s items.toList items2.toList r):LtAt A s (.ref l) (.ref b) r:=λprog w E Q q=>by
 obtain ⟨⟨cls,dd,data,sl⟩,ho,hc,n,hd⟩:=id hl
 obtain ⟨⟨cls2,dd2,data2,sl2⟩,ho2,hc2,n2,hd2⟩:=id hb
 simp only at hc hd hc2 hd2
 subst hc hd hc2 hd2
 exact Nf (op:=.Lt) ⟨_,ho,rfl⟩ ⟨_,ho2,rfl⟩ PySem.F.slot_tuple_lt PySem.F.entry_tuple_lt (PySem.F.args_tuple_lt_2 _ _) (qc6 l b items items2 n n2 dd dd2 sl sl2)
  ⟨ho,ho2,r,h,show Vv r≠NH/\Q (.bool r) s from ⟨(λx=>nomatch x),q⟩⟩ hu
section
open PySem.SeqAt
open PySem.AutoSeq1 (wpAny_loadPart')
open PySem.MeetsSeq PySem.MeetsSeq2 PySem.MeetsSeq3
theorem qcP (l b:Ke)(xs ys:aT)(n n2:Nat)(dd dd2:aI)(sl sl2:au):∀ (k i:Nat),xs.size=i+k->i<=ys.size->Meets (UQ.«list.__eq__.loop» ⟨[.ref l,.ref b,cI i,cI 0],[]⟩)
   (λA R s=>s.heap.get? l=some ⟨.type "list", dd,.seq xs n,sl⟩/\s.heap.get? b=some ⟨.type "list", dd2,.seq ys n2,sl2⟩/\∃ r,WX A.in1 s (xs.toList.drop i) (ys.toList.drop i) r/\R (.ok (.ret (.bool r))) s):=by
 intro k
 induction k with
 | zero =>
  intro i hx hy prog w A R s ⟨hl,hb,r,hq,hR⟩
  obtain ⟨hp,g,d,tk,os⟩:=s
  have e1:xs.toList.drop i=[]:=Ng (by rw [KU];omega)
  have e2:xs[((i:Nat):Int).toNat]?=none:=by rw [K4];exact U0 (by omega)
  rw [e1] at hq
  have hr:r=decide (xs.size<ys.size):=by
   by_cases h:i<ys.size
   ·have e3:ys.toList.drop i=ys[i]::ys.toList.drop (i+1):=by rw [VH (by rw [KU];exact h),NI]
    rw [e3] at hq
    rw [show r=true from hq];exact (bF (by omega)).symm
   ·rw [Ng (by rw [KU];omega)] at hq
    rw [show r=false from hq];exact (bH (by omega)).symm
  rw [hr] at hR
  wp_walk using bO hl,bO hb
  rw [e2]
  wp_walk using bO hl,bO hb
  exact hR
 | succ k ih =>
  intro i hx hy prog w A R s ⟨hl,hb,r,hq,hR⟩
  obtain ⟨hp,g,d,tk,os⟩:=s
  have h1:i<xs.size:=by omega
  have e1:xs.toList.drop i=xs[i]::xs.toList.drop (i+1):=by rw [VH (by rw [KU];exact h1),NI]
  have e2:xs[((i:Nat):Int).toNat]?=some xs[i]:=by rw [K4];exact VS h1
  rw [e1] at hq
  wp_walk using bO hl,bO hb
  by_cases h2:i<ys.size
  ·have e3:ys.toList.drop i=ys[i]::ys.toList.drop (i+1):=by rw [VH (by rw [KU];exact h2),NI]
   have e4:ys[((i:Nat):Int).toNat]?=some ys[i]:=by rw [K4];exact VS h2
   rw [e3] at hq
   obtain ⟨e,he,q1,q2⟩:=hq
   rw [e2,e4]
   refine Kd (he prog w _ _ ?_)
   cases e with
   | true =>
    wp_walk
    refine ⟨Uq plain_eq_loop _,Uz entry_eq_loop ?_⟩
    rw [Uh plain_eq_loop _]
    exact ih (i+1) (by omega) h2 prog w A R _ ⟨hl,hb,r,q1 rfl,hR⟩
   | false =>
    wp_walk using bO hl,bO hb
    rw [e2,e4]
    have hri:=q2 rfl prog w
    wp_walk using hri
    exact hR
  ·rw [Ng (as:=ys.toList) (by rw [KU];omega)] at hq
   have e4:ys[((i:Nat):Int).toNat]?=none:=by rw [K4];exact U0 (by omega)
   have hr:r=decide (xs.size<ys.size):=by rw [show r=false from hq];exact (bH (by omega)).symm
   rw [hr] at hR
   rw [e2,e4]
   wp_walk using bO hl,bO hb
   exact hR
theorem qdS (l b:Ke)(xs ys:aT)(n n2:Nat)(dd dd2:aI)(sl sl2:au):Meets (UQ.«list.__lt__» ⟨[.ref l,.ref b],[]⟩)
   (λA R s=>s.heap.get? l=some ⟨.type "list", dd,.seq xs n,sl⟩/\s.heap.get? b=some ⟨.type "list", dd2,.seq ys n2,sl2⟩/\∃ r,WX A.in1 s xs.toList ys.toList r/\R (.ok (.ret (.bool r))) s):=by
 intro prog w A R s ⟨hl,hb,r,hq,hR⟩
 obtain ⟨hp,g,d,tk,os⟩:=s
 have f3:=AutoSeq1.sub_list_list
 wp_walk using bO hl,bO hb
 refine ⟨Uq plain_eq_loop _,Uz entry_eq_loop ?_⟩
 rw [Uh plain_eq_loop _]
 exact qcP l b xs ys n n2 dd dd2 sl sl2 xs.size 0 (Ew _).symm (Vh _) prog w A R _ ⟨hl,hb,r,hq,hR⟩
end
theorem qgM {A:K0}{s:Kh}{o o2:Obj}{xs ys:aT}  (h1:s.heap.get? l=some o) (c1:o.cls=.type "list") (d1:o.data=.seq xs n) (h2:s.heap.get? b=some o2) (c2:o2.cls=.type "list") (d2:o2.data=.seq ys n2) (hu:A.units<cg) (h:WX A.in1 s xs.toList ys.toList r):LtAt A s (.ref l) (.ref b) r:=λprog w E Q q=>by
 obtain ⟨cls,dd,data,sl⟩:=o
 obtain ⟨cls2,dd2,data2,sl2⟩:=o2
 simp only at c1 d1 c2 d2
 subst c1 d1 c2 d2
 exact Nf (op:=.Lt) ⟨_,h1,rfl⟩ ⟨_,h2,rfl⟩ PySem.F.slot_list_lt PySem.F.entry_list_lt (PySem.F.args_list_lt_2 _ _) (qdS l b xs ys n n2 dd dd2 sl sl2)
  ⟨h1,h2,r,h,show Vv r≠NH/\Q (.bool r) s from ⟨(λx=>nomatch x),q⟩⟩ hu
theorem W8 {A:K0}{s:Kh}(hu:A.units+m+1<cg)(hit:∀ (x y:Ka) (a b:Kc) (as bs:aH) (r:Bool),x.depth<=m->UN s.heap a x as->UN s.heap b y bs->x.canLay0=true->y.canLay0=true->ltX x y=some r->LtAt A s a b r) :
  ∀ (xs ys:ae) (vs ws:az) (as bs:aH) (r:Bool),KI xs<=m->V5 s.heap vs xs as->V5 s.heap ws ys bs->Kq xs=true->Kq ys=true->ltXs xs ys=some r->WX A s vs ws r:=by
 intro xs
 induction xs with
 | nil =>
  intro ys vs ws as bs r _ h1 h2 _ _ e
  cases h1
  cases ys with
  | nil=>cases h2;rw [ltXs] at e;cases e;rfl
  | cons y ys=>cases h2;rw [ltXs] at e;cases e;rfl
 | cons x xs ih =>
  intro ys vs ws as bs r hm h1 h2 c1 c2 e
  cases h1 with
  | cons rx rxs =>
   cases ys with
   | nil=>cases h2;rw [ltXs] at e;cases e;rfl
   | cons y ys =>
    cases h2 with
    | cons ry rys =>
     have c1':x.canLay0=true/\Kq xs=true:=by simpa [Kq] using c1
     have c2':y.canLay0=true/\Kq ys=true:=by simpa [Kq] using c2
     have hd:max x.depth (KI xs)<=m:=by rw [KI] at hm;exact hm
     have m1:=Ve (NJ x.depth (KI xs)) hd
     have m2:=Ve (Np x.depth (KI xs)) hd
     rw [ltXs] at e
     refine ⟨Kv x y,Nl x y A s _ _ _ _ rx ry c1'.1 c2'.1 (by have:=ND x.depth y.depth;omega),λq=>?_,λq=>?_⟩
     ·rw [bI q] at e
      exact ih ys _ _ _ _ r m2 rxs rys c1'.2 c2'.2 e
     ·rw [bJ (by rw [q];exact VJ)] at e
      exact hit x y _ _ _ _ r m1 rx ry c1'.1 c2'.1 e
theorem YD:∀ (n:Nat) (da db:Ka) (A:K0) (s:Kh) (a b:Kc) (as bs:aH) (r:Bool),da.depth<=n->UN s.heap a da as->UN s.heap b db bs->da.canLay0=true->db.canLay0=true->A.units+n+1<cg->ltX da db=some r->LtAt A s a b r:=by
 intro n
 induction n with
 | zero =>
  intro da db A s a b as bs r hd ra rb ca cb hu e
  cases da with
  | int i =>
   cases db with
   | int j =>
    cases ra;cases rb
    rw [ltX] at e
    cases e
    exact λprog w E Q q=>HT.qeg A s i _ j _ prog w E Q q
   | _=>simp [ltX] at e
  | tuple xs =>
   rw [UO] at hd
   omega
  | list xs =>
   rw [UO] at hd
   omega
  | _=>simp [ltX] at e
 | succ n ih =>
  intro da db A s a b as bs r hd ra rb ca cb hu e
  cases da with
  | int i =>
   cases db with
   | int j =>
    cases ra;cases rb
    rw [ltX] at e
    cases e
    exact λprog w E Q q=>HT.qeg A s i _ j _ prog w E Q q
   | _=>simp [ltX] at e
  | tuple xs =>
   cases db with
   | tuple ys =>
    rw [UO] at hd
    rw [ltX] at e
    cases ra with
    | tuple e1 c1 d1 t1 =>
     cases rb with
     | tuple e2 c2 d2 t2 =>
      refine qib ⟨_,e1,c1,_,d1⟩ ⟨_,e2,c2,_,d2⟩ (by omega) ?_
      exact W8 (m:=n) (by show A.units+1+n+1<cg;omega) (λx y a b as bs r hx r1 r2 k1 k2 e=>ih x y A.in1 s a b as bs r hx r1 r2 k1 k2 (by show A.units+1+n+1<cg;omega) e)
       xs ys _ _ _ _ r (by omega) t1 t2 (by simpa [KP] using ca) (by simpa [KP] using cb) e
   | _=>simp [ltX] at e
  | list xs =>
   cases db with
   | list ys =>
    rw [UO] at hd
    rw [ltX] at e
    cases ra with
    | list e1 c1 d1 t1 =>
     cases rb with
     | list e2 c2 d2 t2 =>
      refine qgM e1 c1 d1 e2 c2 d2 (by omega) ?_
      exact W8 (m:=n) (by show A.units+1+n+1<cg;omega) (λx y a b as bs r hx r1 r2 k1 k2 e=>ih x y A.in1 s a b as bs r hx r1 r2 k1 k2 (by show A.units+1+n+1<cg;omega) e)
       xs ys _ _ _ _ r (by omega) t1 t2 (by simpa [KP] using ca) (by simpa [KP] using cb) e
   | _=>simp [ltX] at e
  | _=>simp [ltX] at e
def ltD2 (x y:Ka):Option Ka:=if Vf x=true/\Vf y=true/\x.depth<=60 then ob (ltX x y) λr=>some (.bool r) else none
theorem qfr {X:Cx}(hr:Room k X.A):OpD X (bQ .Lt) ltD2:=by
 intro bE s σ H x y v u Q I rx ry ⟨S,dx,dy,d,m,h1,h2,e,q⟩
 unfold ltD2 at e
 split at e
 ·rename_i hc
  obtain ⟨as,q1⟩:=h1.reads I (K7 hc.1) rx
  obtain ⟨bs,q2⟩:=h2.reads I (K7 hc.2.1) ry
  obtain ⟨r,e1,e⟩:=qd e
  cases e
  have hu:=hr.units
  exact YD 60 dx dy X.A s v u as bs r hc.2.2 q1 q2 (K7 hc.1) (K7 hc.2.1) (by omega) e1 X.prog X.w X.xe _ (jM I (q _ H (Same.refl H) (.bool r)) rfl)
 ·cases e
end L2
namespace L2
open PySem PySem.Spec PyProof.Rows PySem.W
def runC {α:Type}(lt:bz):KasT α->Option α
 | .ret a=>some a
 | .ask i j k=>ob (lt i j) λb=>runC lt (k b)
theorem qgc {α:Type}  {Q:α->Kh->Prop} (hc:∀ i j b C,lt i j=some b->C b s->cmp i j C s) :
  ∀ (t:KasT α) (a:α),runC lt t=some a->Q a s->t.kasWp cmp Q s
 | .ret x,a,e,q=>by cases e;exact q
 | .ask i j k,a,e,q=>by
  obtain ⟨b,e1,e2⟩:=qd e
  exact hc i j b _ e1 (qgc hc (k b) a e2 q)
section
variable {prog:KJ}{w:KZ}{A:K0}{E:ah}{s:Kh}
def Kept (a:Ke)(s s':Kh):Prop:=∀ b o,b≠a->s.heap.get? b=some o->s'.heap.get? b=some o
theorem qe0 {vs:az}{P:PySem.Fin->Kh->Prop}{κ:SortKind}{p:be}(ho:s.heap.get? a=some (cj "list" vs.toArray n))(h2:2<=vs.length)(h64:vs.length<64)
  (hk:∀ (s':Kh) (Q:SortKind->Kh->Prop),Kept a s s'->Q κ s'->bK ',' A (keyKind' vs.toArray) Q E s')
  (hr:∀ (s':Kh) (G:Array Nat->Kh->Prop),Kept a s s'->G p s'->(Ex vs.length).kasWp (kas_ask prog w A κ vs) G s')
  (h:P (.done (.ret .none)) { s with heap:=sortedHeap s.heap a vs (p.toList.map λi=>vs.getD i VE).toArray }) :
  bK ',' A (UQ.«list.sort» ⟨[.ref a],[]⟩) P E s:=by
 have small:vs.length<=bM:=by rw [Xj];omega
 have lt:=KF ho
 obtain ⟨e1,o1⟩:∃ e1,(s.heap.update a (Ub λ_=>#[])).get? a=some (cj "list" #[] e1):=⟨_,get?_update_seq ho λ_=>#[]⟩
 rw [list_sort_plain]
 refine Kd (listItems_at ho rfl (Kd (N9 ho rfl (Kd (EO o1 rfl (Kd ?_))) (by simpa using small) (Vh _))))
 refine EZ (Kd (Ea (VZ ?_) (Vh _))) (by simpa using small)
 obtain ⟨h6,hE⟩:∃ h6,h6=((s.heap.update a (Ub λ_=>(#[]:Array Kc))).push (cj "tuple" vs.toArray 0)).push (cj "list" #[] 0):=⟨_,rfl⟩
 have kp:Kept a s { s with heap:=h6 }:=λb o ne e=>by
  show h6.get? b=some o
  rw [hE]
  refine Ki _ (Ki _ ?_)
  rw [Heap.get?_update_ne _ _ _ _ ne]
  exact e
 have o6:h6.get? a=some (cj "list" #[] e1):=by
  rw [hE]
  exact Ki _ (Ki _ o1)
 show bK ',' A _ P E { s with heap:=((s.heap.update a (Ub λ_=>(#[]:Array Kc))).push (cj "tuple" vs.toArray 0)).push (cj "list" #[] 0) }
 rw [← hE]
 have n2:¬ vs.toArray.size<2:=by rw [KA];omega
 dsimp only
 rw [bJ n2,bJ n2]
 refine Kd (hk _ _ kp ?_)
 refine Kd (Uj (kat_run (Q:=λst' s'=>s'={ s with heap:=h6 }/\arrOf st'=p.map (kas_item (vs.toArray.zip vs.toArray))/\failedOf st'=none/\p.size=vs.length) rfl h2 h64
  (λp' st' s' z har hf hg=>⟨hg.1,by rw [← hg.2];exact har,hf,by rw [← hg.2];exact z⟩) (hr _ (λp' s'=>s'={ s with heap:=h6 }/\p'=p) kp ⟨rfl,rfl⟩)) ?_ λ_ _ e=>e)
 rintro ⟨⟨⟩,st'⟩ s' ⟨rfl,har,hf,hz⟩
 dsimp only
 rw [kat_snds rfl har]
 refine Kd (EO o6 rfl (Kd (N9 o6 rfl ?_ (Vh _) (by rw [KA,Kf,KU,hz];omega))))
 rw [hf]
 simp only [bne_self_eq_false,VL,cm]
 refine Kn ?_
 rw [hE]
 exact h
theorem qe1 {vs:az}{P:PySem.Fin->Kh->Prop}(ho:s.heap.get? a=some (cj "list" vs.toArray n))(h2:vs.length<2)
  (h:P (.done (.ret .none)) { s with heap:=sortedHeap s.heap a vs vs.toArray }):bK ',' A (UQ.«list.sort» ⟨[.ref a],[]⟩) P E s:=by
 have small:vs.length<=bM:=by rw [Xj];omega
 obtain ⟨e1,o1⟩:∃ e1,(s.heap.update a (Ub λ_=>#[])).get? a=some (cj "list" #[] e1):=⟨_,get?_update_seq ho λ_=>#[]⟩
 rw [list_sort_plain]
 refine Kd (listItems_at ho rfl (Kd (N9 ho rfl (Kd (EO o1 rfl (Kd ?_))) (by simpa using small) (Vh _))))
 refine EZ (Kd (Ea (VZ ?_) (Vh _))) (by simpa using small)
 obtain ⟨h6,hE⟩:∃ h6,h6=((s.heap.update a (Ub λ_=>(#[]:Array Kc))).push (cj "tuple" vs.toArray 0)).push (cj "list" #[] 0):=⟨_,rfl⟩
 have o6:h6.get? a=some (cj "list" #[] e1):=by
  rw [hE]
  exact Ki _ (Ki _ o1)
 show bK ',' A _ P E { s with heap:=((s.heap.update a (Ub λ_=>(#[]:Array Kc))).push (cj "tuple" vs.toArray 0)).push (cj "list" #[] 0) }
 rw [← hE]
 have n2:vs.toArray.size<2:=by rw [KA];omega
 dsimp only
 rw [bI n2,bI n2]
 refine Kd (Kn ?_)
 rw [StateT.run_pure]
 refine Kd (Kn ?_)
 dsimp only
 have eo:Array.map (λx=>x.2) (vs.toArray.zip vs.toArray)=vs.toArray:=by
  apply Array.toList_inj.mp
  simp [List.map_snd_zip]
 show bK ',' A (seqEpoch a >>= _) P E { s with heap:=h6 }
 refine Kd (EO o6 rfl (Kd ?_))
 rw [show Array.map (λx=>x.2) (arrOf (SortSt.mk' general' (vs.toArray.zip vs.toArray) #[] 7 none))=vs.toArray from eo]
 refine N9 o6 rfl ?_ (Vh _) (by rw [KA];omega)
 simp only [bne_self_eq_false,VL,cm]
 refine Kn ?_
 rw [hE]
 exact h
theorem qc2 {vs:az}{Q:ah}{κ:SortKind}{p:be}(hl:s.heap.IsList l vs.toArray)(h2:2<=vs.length)(h64:vs.length<64)
  (hk:∀ (s':Kh) (Q:SortKind->Kh->Prop),(∀ b o,s.heap.get? b=some o->s'.heap.get? b=some o)->Q κ s'->bK ',' A.in1.in1 (keyKind' vs.toArray) Q (λ_ _=>False) s')
  (hr:∀ (s':Kh) (G:Array Nat->Kh->Prop),(∀ b o,s.heap.get? b=some o->s'.heap.get? b=some o)->G p s'->(Ex vs.length).kasWp (kas_ask prog w A.in1.in1 κ vs) G s')
  (h:Q (.ref (s.heap.objs.size+1)) { s with heap:=sortedAll s.heap vs (p.toList.map λi=>vs.getD i VE).toArray }) :
  bK ',' A (call (.builtin "sorted") [.ref l]) Q E s:=by
 have small:vs.length<=bM:=by rw [Xj];omega
 refine Calls.call_function_entry kind_sorted plain_sorted entry_sorted (args_sorted1 _) ?_
 unfold UQ.«sorted»
 refine Kd (m:=checkCount "sorted" 1 1 _) (Kn (Kd (collect_list hl (Kd (Ea ?_ (by simpa using small))) (by simpa using small))))
 have zz:((s.heap.push (cj "list" #[] 0)).update s.heap.objs.size (Ub (·++vs.toArray))).objs.size=s.heap.objs.size+1:=by rw [Heap.size_update,size_push']
 obtain ⟨h3,hH⟩:∃ h3,h3=((s.heap.push (cj "list" #[] 0)).update s.heap.objs.size (Ub (·++vs.toArray))).push (cj "list" vs.toArray 0):=⟨_,rfl⟩
 have oL:h3.get? (s.heap.objs.size+1)=some (cj "list" vs.toArray 0):=by
  rw [hH,← zz]
  exact Kx _ rfl
 have keep:∀ b o,s.heap.get? b=some o->h3.get? b=some o:=λb o e=>by
  rw [hH]
  have hlt:=KF e
  refine Ki _ ?_
  rw [Heap.get?_update_ne _ _ _ _ (KW hlt)]
  exact Ki _ e
 show bK _ _ _ _ _ { s with heap:=((s.heap.push (cj "list" #[] 0)).update s.heap.objs.size (Ub (·++vs.toArray))).push (cj "list" vs.toArray 0) }
 rw [zz,← hH]
 have k2:∀ s':Kh,Kept (s.heap.objs.size+1) { s with heap:=h3 } s'->∀ b o,s.heap.get? b=some o->s'.heap.get? b=some o:=λs' kp b o e=>kp b o (KW (Vm (KF e))) (keep b o e)
 refine Kd (VZ (V4 slot_list_sort ⟨_,oL,rfl⟩ entry_list_sort (qe0 (κ:=κ) (p:=p) oL h2 h64 (λs' Q kp q=>Uj (hk s' Q (k2 s' kp) q) (λ_ _ z=>z) λ_ _ z=>z.elim) (λs' G kp q=>hr s' G (k2 s' kp) q) ⟨_,rfl,?_⟩) (args_list_sort _)))
 refine Kn ⟨_,rfl,?_⟩
 have hA:sortedHeap h3 (s.heap.objs.size+1) vs (p.toList.map λi=>vs.getD i VE).toArray=sortedAll s.heap vs (p.toList.map λi=>vs.getD i VE).toArray:=by
  rw [hH]
  rfl
 rw [hA]
 exact h
theorem qc3 {vs:az}{Q:ah}(hl:s.heap.IsList l vs.toArray)(h2:vs.length<2)
  (h:Q (.ref (s.heap.objs.size+1)) { s with heap:=sortedAll s.heap vs vs.toArray }) :
  bK ',' A (call (.builtin "sorted") [.ref l]) Q E s:=by
 have small:vs.length<=bM:=by rw [Xj];omega
 refine Calls.call_function_entry kind_sorted plain_sorted entry_sorted (args_sorted1 _) ?_
 unfold UQ.«sorted»
 refine Kd (m:=checkCount "sorted" 1 1 _) (Kn (Kd (collect_list hl (Kd (Ea ?_ (by simpa using small))) (by simpa using small))))
 have zz:((s.heap.push (cj "list" #[] 0)).update s.heap.objs.size (Ub (·++vs.toArray))).objs.size=s.heap.objs.size+1:=by rw [Heap.size_update,size_push']
 obtain ⟨h3,hH⟩:∃ h3,h3=((s.heap.push (cj "list" #[] 0)).update s.heap.objs.size (Ub (·++vs.toArray))).push (cj "list" vs.toArray 0):=⟨_,rfl⟩
 have oL:h3.get? (s.heap.objs.size+1)=some (cj "list" vs.toArray 0):=by
  rw [hH,← zz]
  exact Kx _ rfl
 show bK _ _ _ _ _ { s with heap:=((s.heap.push (cj "list" #[] 0)).update s.heap.objs.size (Ub (·++vs.toArray))).push (cj "list" vs.toArray 0) }
 rw [zz,← hH]
 refine Kd (VZ (V4 slot_list_sort ⟨_,oL,rfl⟩ entry_list_sort (qe1 oL h2 ⟨_,rfl,?_⟩) (args_list_sort _)))
 refine Kn ⟨_,rfl,?_⟩
 have hA:sortedHeap h3 (s.heap.objs.size+1) vs vs.toArray=sortedAll s.heap vs vs.toArray:=by
  rw [hH]
  rfl
 rw [hA]
 exact h
end
def qdU (ds:ae)(i j:Nat):Option Bool:=match ds[i]?,ds[j]? with
 | some x,some y=>ltX x y
 | _,_=>none
def keyD:Ka->Nat
 | .tuple (.int _::_)=>0
 | .tuple (.tuple _::_)=>1
 | .int _=>2
 | _=>3
def qea (ds:ae)(p:be):Option Ka:=if (p.toList.all λi=>decide (i<ds.length))=true/\p.toList.length<=1000 then some (.list (p.toList.map λi=>ds.getD i .none)) else none
def Jh (k:Nat)(ds:ae):Bool:=(ds.all λd=>keyD d==k)&&(decide (2<=ds.length)&&(decide (ds.length<64)&&(Kq ds&&decide (KI ds<=50))))
def je:List Ka->Option Ka
 | [.list ds]=>if ds.length<2 then some (.list ds) else if Jh 0 ds=true\/Jh 1 ds=true then ob (runC (qdU ds) (Ex ds.length)) λp=>qea ds p else none
 | _=>none
section
variable {prog:KJ}{w:KZ}{A:K0}{s:Kh}
theorem qcM {b fin:Bool}  (hu:A.units+m+1<cg) (q:Q r s) :
  ∀ (xs ys:ae) (vs ws:az) (as bs:aH) (i:Nat),KI xs<=m->V5 s.heap vs xs as->V5 s.heap ws ys bs->Kq xs=true->Kq ys=true->ltXs xs ys=some r->
   (b=true->i=0->∀ x y,xs.head?=some x->ys.head?=some y->∃ n k,x=.int n/\y=.int k)->fin=decide (xs.length<ys.length)->KatLex prog w A b fin Q (vs.zip ws) i s:=by
 intro xs
 induction xs with
 | nil =>
  intro ys vs ws as bs i _ h1 h2 _ _ e _ hf
  cases h1
  rw [Ei]
  refine kat_nil ?_
  cases ys with
  | nil=>rw [ltXs] at e;cases e;rw [hf];simpa using q
  | cons y ys=>rw [ltXs] at e;cases e;rw [hf];simpa using q
 | cons x xs ih =>
  intro ys vs ws as bs i hm h1 h2 c1 c2 e hb hf
  cases h1 with
  | cons rx rxs =>
   cases ys with
   | nil =>
    cases h2
    rw [N1]
    refine kat_nil ?_
    rw [ltXs] at e;cases e;rw [hf];simpa using q
   | cons y ys =>
    cases h2 with
    | cons ry rys =>
     have c1':x.canLay0=true/\Kq xs=true:=by simpa [Kq] using c1
     have c2':y.canLay0=true/\Kq ys=true:=by simpa [Kq] using c2
     have hd:max x.depth (KI xs)<=m:=by rw [KI] at hm;exact hm
     have m1:=Ve (NJ x.depth (KI xs)) hd
     have m2:=Ve (Np x.depth (KI xs)) hd
     rw [ltXs] at e
     rw [Xw]
     refine kat_cons (Nl x y A s _ _ _ _ rx ry c1'.1 c2'.1 (by have:=ND x.depth y.depth;omega) prog w _ _ (kat_go (λz=>?_) λz=>?_))
     ·rw [bI z] at e
      refine kat_yes (ih ys _ _ _ _ (i+1) m2 rxs rys c1'.2 c2'.2 e (λ_ z=>by omega) ?_)
      rw [hf,Kw,Kw]
      exact decide_eq_decide.mpr (by omega)
     ·rw [bJ (by rw [z];exact VJ)] at e
      refine kat_no ?_
      cases hbi:(b&&i==0) with
      | true =>
       rw [KD] at hbi
       obtain ⟨n,k,rfl,rfl⟩:=hb hbi.1 (by simpa using hbi.2) x y rfl rfl
       cases rx;cases ry
       rw [ltX] at e
       cases e
       exact oneLt_int q
      | false =>
       exact kat_one _ _ (YD m x y A s _ _ _ _ r m1 rx ry c1'.1 c2'.1 hu e prog w _ _ q)
theorem Wf:∀ {vs:az} {ds:ae} {as:aH},V5 h vs ds as->vs.length=ds.length
 | _,_,_,.nil=>rfl
 | _,_,_,.cons _ t=>by rw [Kw,Kw,Wf t]
theorem We:∀ {vs:az} {ds:ae} {as:aH} {i:Nat} {d:Ka},V5 h vs ds as->ds[i]?=some d->∃ v bs,vs[i]?=some v/\UN h v d bs
 | _,_,_,_,_,.nil,e=>by simp at e
 | _,_,_,0,_,.cons r _,e=>by simp at e;subst e;exact ⟨_,_,rfl,r⟩
 | _,_,_,i+1,d,.cons _ t,e=>by
  obtain ⟨v,bs,h1,h2⟩:=We (i:=i) (d:=d) t (by simpa using e)
  exact ⟨v,bs,by simpa using h1,h2⟩
theorem Yt:∀ {ds:ae} {i:Nat} {d:Ka},Kq ds=true->ds[i]?=some d->d.canLay0=true/\d.depth<=KI ds
 | [],_,_,_,e=>by simp at e
 | x::xs,0,d,h,e=>by
  have h':x.canLay0=true/\Kq xs=true:=by simpa [Kq] using h
  simp at e
  subst e
  exact ⟨h'.1,by rw [KI];exact NJ _ _⟩
 | x::xs,i+1,d,h,e=>by
  have h':x.canLay0=true/\Kq xs=true:=by simpa [Kq] using h
  obtain ⟨h1,h2⟩:=Yt (i:=i) (d:=d) h'.2 (by simpa using e)
  exact ⟨h1,Ve h2 (by rw [KI];exact Np _ _)⟩
theorem qaX (hk:k<2):∀ {vs:az} {ds:ae} {as:aH},V5 h vs ds as->(ds.all λd=>keyD d==k)=true->∃ fs:List Kc,KatTups h vs fs/\fs.length=vs.length/\∀ (M:Model),∀ f∈fs,Em M h (typeOf f) (if k=0 then Vs "int" else Vs "tuple")
 | _,_,_,.nil,_=>⟨[],trivial,rfl,λ_ _ z=>nomatch z⟩
 | _,d::ds,_,.cons (d:=_) r t,e=>by
  rw [List.all_cons,KD] at e
  obtain ⟨fs,h1,h2,h3⟩:=qaX hk t e.2
  have e1:keyD d=k:=by simpa using e.1
  cases d with
  | tuple xs =>
   cases r with
   | @tuple a o its n xs' as' g1 g2 g3 g4 =>
    cases xs with
    | nil=>rw [show keyD (.tuple [])=3 from rfl] at e1;omega
    | cons x xs =>
     obtain ⟨v,rv,q1,rx⟩:=We (i:=0) g4 rfl
     have h0:its[0]?=some v:=by rw [← Um];exact q1
     refine ⟨v::fs,KatTups.cons g1 g2 g3 h0 h1,by rw [Kw,Kw,h2],λM f hf=>?_⟩
     rcases Kr.mp hf with rfl|hf
     ·cases x with
      | int n =>
       cases rx
       rw [show keyD (.tuple (.int n::xs))=0 from rfl] at e1
       rw [bI e1.symm]
       exact Looks.of_pure rfl
      | tuple ys =>
       rw [show keyD (.tuple (.tuple ys::xs))=1 from rfl] at e1
       cases rx with
       | tuple k1 k2 k3 k4 =>
        rw [bJ (by omega),← k2]
        exact (Looks.ld k1).andThen .now
      | none=>rw [show keyD (.tuple (.none::xs))=3 from rfl] at e1;omega
      | bool _=>rw [show keyD (.tuple (.bool _::xs))=3 from rfl] at e1;omega
      | str _=>rw [show keyD (.tuple (.str _::xs))=3 from rfl] at e1;omega
      | list _=>rw [show keyD (.tuple (.list _::xs))=3 from rfl] at e1;omega
      | dict _=>rw [show keyD (.tuple (.dict _::xs))=3 from rfl] at e1;omega
     ·exact h3 M f hf
  | int n=>rw [show keyD (.int n)=2 from rfl] at e1;omega
  | none=>rw [show keyD .none=3 from rfl] at e1;omega
  | bool _=>rw [show keyD (.bool _)=3 from rfl] at e1;omega
  | str _=>rw [show keyD (.str _)=3 from rfl] at e1;omega
  | list _=>rw [show keyD (.list _)=3 from rfl] at e1;omega
  | dict _=>rw [show keyD (.dict _)=3 from rfl] at e1;omega
end
section
variable {h h':KS}
mutual
theorem qg8 (k:∀ b o,h.get? b=some o->h'.get? b=some o):∀ {d:Ka} {v:Kc} {as:aH},UN h v d as->d.canLay0=true->UN h' v d as
 | .none,_,_,r,_=>by cases r;exact .none
 | .bool _,_,_,r,_=>by cases r;exact .bool _
 | .int _,_,_,r,_=>by cases r;exact .int _ _
 | .str _,_,_,r,_=>by cases r;exact .str _ _
 | .list xs,_,_,r,c=>by
  cases r with
  | list e q g t=>exact .list (k _ _ e) q g (ZV k t (by simpa [KP] using c))
 | .tuple xs,_,_,r,c=>by
  cases r with
  | tuple e q g t=>exact .tuple (k _ _ e) q g (ZV k t (by simpa [KP] using c))
 | .dict _,_,_,_,c=>by simp [KP] at c
theorem ZV (k:∀ b o,h.get? b=some o->h'.get? b=some o):∀ {ds:ae} {vs:az} {as:aH},V5 h vs ds as->Kq ds=true->V5 h' vs ds as
 | [],_,_,r,_=>by cases r;exact .nil
 | d::ds,_,_,r,c=>by
  have c':d.canLay0=true/\Kq ds=true:=by simpa [Kq] using c
  cases r with
  | cons r t=>exact .cons (qg8 k r c'.1) (ZV k t c'.2)
end
end
theorem qid (hx:keyD x<2)(e:ltX x y=some r):∃ xs ys,x=.tuple xs/\y=.tuple ys/\ltXs xs ys=some r:=by
 cases x with
 | tuple xs =>
  cases y with
  | tuple ys=>rw [ltX] at e;exact ⟨xs,ys,rfl,rfl,e⟩
  | _=>simp [ltX] at e
 | int n=>simp [keyD] at hx
 | list xs=>simp [keyD] at hx
 | _=>simp [ltX] at e
theorem qbW {xs:ae}(e:keyD (.tuple xs)=k)(h0:k=0):∀ x,xs.head?=some x->∃ n,x=.int n:=by
 intro x hx
 cases xs with
 | nil=>cases hx
 | cons y ys =>
  cases hx
  cases x with
  | int n=>exact ⟨n,rfl⟩
  | _=>(first|(simp [keyD] at e;omega)|(simp only [keyD] at e;omega))
theorem getD_some {α:Type}{xs:List α}{i:Nat}{x d:α}(e:xs[i]?=some x):xs.getD i d=x:=by rw [Xc,e];rfl
theorem qa5 {X:Cx}{k:Nat}(hr:Room k X.A):qlj X (.builtin "sorted") je:=by
 intro bE s σ H xs us Q I r ⟨S,ds,d,m,h1,e,q⟩
 unfold je at e
 split at e
 ·rename_i ds
  split at e
  ·rename_i hlt
   cases e
   obtain ⟨v,rfl,hv⟩:=h1.inv1
   obtain ⟨a,ys,rfl,hs,ht⟩:=hv.list_inv
   obtain ⟨u,rfl,ru⟩:=vals1 r
   cases (show u=Vd a from ru)
   obtain ⟨its,rv,pl,hz⟩:=I.list hs.sq
   have hlen:=rv.length
   have hl2:=ht.length
   refine qc3 pl.isList (by omega) ?_
   obtain ⟨en,ob⟩:=sortedAll_at s.heap its its.toArray
   have hfr:H (s.heap.objs.size+1)=none:=I.hok.fresh (UL _)
   exact ⟨.ref (s.heap.objs.size+1),_,I.laid (t':=s.toks) (o:=.lst ys) (λb o e=>sortedAll_old e) (UL _) ⟨hz,_,en,rv,ob⟩,rfl,q _ _ (Same.lay hfr) hfr (OwnO.laid hfr ht)⟩
  split at e
  ·rename_i hok
   obtain ⟨p,e1,e2⟩:=qd e
   obtain ⟨v,rfl,hv⟩:=h1.inv1
   obtain ⟨a,ys,rfl,hs,ht⟩:=hv.list_inv
   obtain ⟨u,rfl,ru⟩:=vals1 r
   cases (show u=Vd a from ru)
   obtain ⟨its,rv,pl,hz⟩:=I.list hs.sq
   obtain ⟨kk,hk2,hk⟩:∃ kk,kk<2/\Jh kk ds=true:=hok.elim (λz=>⟨0,by decide,z⟩) λz=>⟨1,by decide,z⟩
   unfold Jh at hk
   simp only [KD,bW] at hk
   obtain ⟨hall,l2,l64,hcan,hdep⟩:=hk
   obtain ⟨as,ra⟩:=ht.reads I hcan rv
   have hlen:=Wf ra
   unfold qea at e2
   split at e2
   ·rename_i hin
    cases e2
    have hin':∀ i∈p.toList,i<ds.length:=λi hi=>by
     have:=Vg.mp hin.1 i hi
     simpa using this
    have hu:=hr.units
    obtain ⟨T,hT⟩:∃ T,T=(if kk=0 then Vs "int" else Vs "tuple"):=⟨_,rfl⟩
    have hT2:(T==T)=true:=by rw [hT];split<;>rfl
    have hb:(T != Vs "tuple")=true->kk=0:=λz=>by
     rw [hT] at z
     by_cases h0:kk=0
     ·exact h0
     ·rw [bJ h0] at z;exact absurd z (by decide)
    refine qc2 (κ:=tuples' (T != Vs "tuple")) (p:=p) pl.isList (by omega) (by omega) (λs' Q' keep q'=>?_) (λs' G keep g=>?_) ?_
    ·obtain ⟨fs,t1,t2,t3⟩:=qaX hk2 (ZV keep ra hcan) hall
     exact kat_kind t1 (by omega) (λf hf=>by rw [hT];exact t3 _ f hf) hT2 q'
    ·have ra':=ZV keep ra hcan
     rw [hlen]
     refine qgc (λi j b C el hC=>?_) _ p e1 g
     unfold qdU at el
     split at el
     ·rename_i x y ex ey
      obtain ⟨vx,bx,gx,rx⟩:=We ra' ex
      obtain ⟨vy,byy,gy,ry⟩:=We ra' ey
      obtain ⟨cx,dx⟩:=Yt hcan ex
      obtain ⟨cy,dy⟩:=Yt hcan ey
      have kx:keyD x=kk:=by
       have:=Vg.mp hall x (Va ex)
       simpa using this
      have ky:keyD y=kk:=by
       have:=Vg.mp hall y (Va ey)
       simpa using this
      obtain ⟨xs,ys',rfl,rfl,elx⟩:=qid (by omega) el
      show kas_ask X.prog X.w X.A.in1.in1 _ its i j C s'
      unfold kas_ask
      rw [getD_some gx,getD_some gy]
      cases rx with
      | @tuple ax ox ax1 nx _ _ x1 x2 x3 x4 =>
       cases ry with
       | @tuple ay oy ay1 ny _ _ y1 y2 y3 y4 =>
        have dxs:KI xs<=50:=by rw [UO] at dx;omega
        refine kat_lt x1 x3 y1 y3 (qcM (m:=50) (by show X.A.units+1+1+50+1<cg;omega) hC xs ys' _ _ _ _ 0 dxs x4 y4 (by simpa [KP] using cx) (by simpa [KP] using cy) elx (λhbb _ x y hx hy=>?_) ?_)
        ·have h0:=hb hbb
         obtain ⟨n1,rfl⟩:=qbW kx h0 x hx
         obtain ⟨n2,rfl⟩:=qbW ky h0 y hy
         exact ⟨n1,n2,rfl,rfl⟩
        ·have z1:=Wf x4
         have z2:=Wf y4
         rw [KU] at z1 z2
         rw [z1,z2]
     ·cases el
    ·obtain ⟨en,ob⟩:=sortedAll_at s.heap its (p.toList.map λi=>its.getD i VE).toArray
     have hfr:H (s.heap.objs.size+1)=none:=I.hok.fresh (UL _)
     have dl:DenL X.K H S (p.toList.map λi=>ys.getD i .non) (p.toList.map λi=>ds.getD i .none):=by
      generalize p.toList=pl at hin'
      induction pl with
      | nil=>exact .nil
      | cons i pl ih =>
       have hi:=hin' i (.head _)
       obtain ⟨vy,gy,dy⟩:=ht.get (Kk hi)
       rw [Ku,Ku,getD_some gy,getD_some (Kk hi)]
       exact .cons dy (ih λj hj=>hin' j (.tail _ hj))
     have vl:Vals (p.toList.map λi=>ys.getD i .non) (p.toList.map λi=>its.getD i VE):=by
      generalize p.toList=pl at hin'
      induction pl with
      | nil=>exact .nil
      | cons i pl ih =>
       have hi:i<ys.length:=by rw [ht.length];exact hin' i (.head _)
       obtain ⟨w,gw,rw'⟩:=rv.get (Kk hi)
       rw [Ku,Ku,getD_some (Kk hi),getD_some gw]
       exact .cons rw' (ih λj hj=>hin' j (.tail _ hj))
     have zz:(p.toList.map λi=>ys.getD i V.non).length<=bM:=by rw [Kf];exact VA (zB hin.2)
     refine ⟨.ref (s.heap.objs.size+1),_,I.laid (t':=s.toks) (o:=.lst (p.toList.map λi=>ys.getD i .non)) (λb o e=>sortedAll_old e) (UL _) ⟨zz,_,en,vl,ob⟩,rfl,q _ _ (Same.lay hfr) hfr (OwnO.laid hfr dl)⟩
   ·cases e2
  ·cases e
 ·cases e
end L2
namespace L2
open PySem PySem.Spec PyProof.Rows
def qar (K:Kb)(mg:ao)(x:Str)(d:Ka):Prop:=∃ v u,mg x=some u/\RelV v u/\∀ H S,Den K H S v d
theorem qd3 {X:Cx}   (C:qar X.K X.mg x d) (hg:Gl X x) (hdb:'+'=false:=by decide +kernel):PD X M (.Name x pos) (kd d):=by
 obtain ⟨v,u,m,r,hd⟩:=C
 exact qkB hg m r hd hdb
end L2
namespace L2
open PySem
theorem JG:bS "sorted" = some (.builtin "sorted"):=by decide +kernel
end L2
namespace L2
open PySem PySem.Spec PyProof.Rows
theorem ob_s {α β:Type}(x:α)(f:α->Option β):ob (some x) f=f x:=rfl
theorem vr_z (o:aD)(ρ:Rho):vr 0 (o::ρ)=o:=rfl
theorem vr_s (n:Nat)(o:aD)(ρ:Rho):vr (n+1) (o::ρ)=vr n ρ:=rfl
theorem atI0 {α:Type}(x:α)(xs:List α):atI (x::xs) 0=some x:=by simp [atI,ixN]
theorem yC {α:Type}(x:α)(xs:List α)(k:Nat):atI (x::xs) ((k:Int)+1)=atI xs (k:Int):=by
 unfold atI ixN
 have h1:(0:Int)<=(k:Int)+1:=by omega
 have h2:(0:Int)<=(k:Int):=by omega
 rw [bI h1,bI h2]
 by_cases h:(k:Int)<xs.length
 ·have h':(k:Int)+1<((x::xs).length:Int):=by rw [Kw];omega
  rw [bI h,bI h']
  have e1:((k:Int)+1).toNat=k+1:=by omega
  have e2:(k:Int).toNat=k:=by omega
  rw [e1,e2]
  rfl
 ·have h':¬ (k:Int)+1<((x::xs).length:Int):=by rw [Kw];omega
  rw [bJ h,bJ h']
  rfl
theorem atI1 {α:Type}(x y:α)(xs:List α):atI (x::y::xs) 1=some y:=(yC x (y::xs) 0).trans (atI0 y xs)
theorem atI2 {α:Type}(x y z:α)(xs:List α):atI (x::y::z::xs) 2=some z:=(yC x (y::z::xs) 1).trans (atI1 y z xs)
theorem atI3 {α:Type}(x y z a:α)(xs:List α):atI (x::y::z::a::xs) 3=some a:=(yC x (y::z::a::xs) 2).trans (atI2 y z a xs)
theorem atI4 {α:Type}(x y z a b:α)(xs:List α):atI (x::y::z::a::b::xs) 4=some b:=(yC x (y::z::a::b::xs) 3).trans (atI3 y z a b xs)
theorem atI5 {α:Type}(x y z a b c:α)(xs:List α):atI (x::y::z::a::b::c::xs) 5=some c:=(yC x (y::z::a::b::c::xs) 4).trans (atI4 y z a b c xs)
theorem zf (h:Nj i j):mulD (.int i) (.int j)=some (.int (i*j)):=by
 show (if Nj i j then some (Km (i*j)) else none)=_
 rw [bI h]
def Bd (n:Nat)(i:Int):Prop:=UT i<=n
theorem Bd.ok (h:Bd n i)(g:Bd m j)(e:n+m<=134217728:=by decide):Nj i j:=IntMulOk.of_le h g e
theorem Bd.mul (h:Bd n i)(g:Bd m j):Bd (n+m) (i*j):=intBits_mul_le h g
theorem Bd.add (h:Bd n i)(g:Bd m j):Bd (max n m+1) (i+j):=intBits_add_le h g
theorem Bd.mono (h:Bd n i)(e:n<=m:=by decide):Bd m i:=Ve h e
theorem Bd.of {i:Int}(h:i.natAbs<2 ^ n):Bd n i:=intBits_le_iff.mpr h
theorem natLit (n:Nat):((no_index (OfNat.ofNat n):Nat):Int)=(OfNat.ofNat n:Int):=rfl
theorem qjR (i j:Int):eqD (.int i) (.int j)=some (.bool (i==j)):=rfl
theorem qfQ (i j:Int):neD (.int i) (.int j)=some (.bool (!(i==j))):=rfl
theorem pow_a:powD (.int 7919) (.int 8)=some (.int (7919 ^ 8)):=rfl
theorem pow_b:powD (.int 10) (.int 30)=some (.int (10 ^ 30)):=rfl
theorem j8 (i:Int)(h:0<j):modD (.int i) (.int j)=some (.int (i % j)):=by
 show (if 0<j then some (Km (i % j)) else none)=_
 rw [bI h]
theorem qhJ (i:Int)(h:0<j)(h2:j<1073741824):jL (.int i) (.int j)=some (.int (i / j)):=by
 show (if CDiv i j then some (Km (i / j)) else none)=_
 rw [bI ⟨h,h2⟩]
def qbR (o:Option Out)(w:ai):Option Out:=match o with | some (.nx ρ')=>w ρ'|o=>o
theorem qeZ (u w:ai)(ρ:Rho):seqO u w ρ=qbR (u ρ) w:=by
 unfold seqO ob qbR
 cases u ρ with
 | none=>rfl
 | some o=>cases o<;>rfl
theorem qde (ρ:Rho)(w:ai):qbR (some (.nx ρ)) w=w ρ:=rfl
theorem qdf (d:Ka)(w:ai):qbR (some (.rt d)) w=some (.rt d):=rfl
theorem qhn (ρ:Rho)(w:ai):qbR (some (.bk ρ)) w=some (.bk ρ):=rfl
theorem qho (ρ:Rho)(w:ai):qbR (some (.ct ρ)) w=some (.ct ρ):=rfl
def ifO {α:Type}(b:Option Bool)(u w:Rho->Option α)(ρ:Rho):Option α:=match b with | some true=>u ρ|some false=>w ρ|none=>none
theorem ifO_t {α:Type}(u w:Rho->Option α)(ρ:Rho):ifO (some true) u w ρ=u ρ:=rfl
theorem ifO_f {α:Type}(u w:Rho->Option α)(ρ:Rho):ifO (some false) u w ρ=w ρ:=rfl
theorem sIf_b (p:aj)(u w:ai)(ρ:Rho):sIf p u w ρ=ifO (p ρ) u w ρ:=by
 unfold sIf ob ifO
 cases p ρ with
 | none=>rfl
 | some b=>cases b<;>rfl
theorem qlI (p:aj)(u w:aa)(ρ:Rho):vIf p u w ρ=ifO (p ρ) u w ρ:=by
 unfold vIf ob ifO
 cases p ρ with
 | none=>rfl
 | some b=>cases b<;>rfl
theorem tA_b (p q:aj)(ρ:Rho):tA p q ρ=ifO (p ρ) q (λ_=>some false) ρ:=by
 unfold tA ob ifO
 cases p ρ with
 | none=>rfl
 | some b=>cases b<;>rfl
theorem tO_b (p q:aj)(ρ:Rho):tO p q ρ=ifO (p ρ) (λ_=>some true) q ρ:=by
 unfold tO ob ifO
 cases p ρ with
 | none=>rfl
 | some b=>cases b<;>rfl
theorem vA_b (f g:aa)(ρ:Rho):vA f g ρ=ifO (ob (f ρ) wI) g (λ_=>some (.bool false)) ρ:=by
 unfold vA ob ifO
 cases f ρ with
 | none=>rfl
 | some x =>
  dsimp only
  cases wI x with
  | none=>rfl
  | some b=>cases b<;>rfl
def setO (o:aD)(i:Nat)(ρ:Rho):Option Out:=match o with | some d=>some (.nx (ρ.set i (some d)))|none=>none
theorem qnc (i:Nat)(f:aa)(ρ:Rho):sSet i f ρ=setO (f ρ) i ρ:=by
 unfold sSet ob setO
 cases f ρ<;>rfl
theorem qng (d:Ka)(i:Nat)(ρ:Rho):setO (some d) i ρ=some (.nx (ρ.set i (some d))):=rfl
def binO (a b:aD)(g:aG):Option Ka:=match a,b with | some x,some y=>g x y|_,_=>none
theorem ev2_b (fa fb:aa)(g:aG)(ρ:Rho):ev2 fa fb g ρ=binO (fa ρ) (fb ρ) g:=by
 unfold ev2 ob binO
 cases fa ρ<;>cases fb ρ<;>rfl
theorem qlQ (x y:Ka)(g:aG):binO (some x) (some y) g=g x y:=rfl
def Yq (a:aD)(b:aQ):Option (List Ka):=match a,b with | some x,some xs=>some (x::xs)|_,_=>none
theorem aC_b (fa:aa)(fs:ab)(ρ:Rho):aC fa fs ρ=Yq (fa ρ) (fs ρ):=by
 unfold aC ob Yq
 cases fa ρ<;>cases fs ρ<;>rfl
theorem qjI (x:Ka)(xs:ae):Yq (some x) (some xs)=some (x::xs):=rfl
def qhp (n:Nat)(a:aQ)(h:ak):Option Ka:=match a with | some ds=>if ds.length=n then h ds else none|none=>none
theorem evC_b (n:Nat)(fs:ab)(h:ak)(ρ:Rho):evC n fs h ρ=qhp n (fs ρ) h:=by
 unfold evC ob qhp
 cases fs ρ<;>rfl
theorem qjy (n:Nat)(ds:ae)(h:ak):qhp n (some ds) h=if ds.length=n then h ds else none:=rfl
def qfm (b:Option Bool)(tt:aj)(te:aa)(ρ:Rho)(d:Ka)(ds:ae):Option (List Ka):=match b with | some true=>Yq (te (ρ++[some d])) (Zc tt te ρ ds)|some false=>Zc tt te ρ ds|none=>none
theorem qfl (tt:aj)(te:aa)(ρ:Rho)(d:Ka)(ds:ae):Zc tt te ρ (d::ds)=qfm (tt (ρ++[some d])) tt te ρ d ds:=by
 rw [Zc]
 unfold ob qfm Yq
 cases tt (ρ++[some d]) with
 | none=>rfl
 | some b =>
  cases b with
  | false=>rfl
  | true =>
   dsimp only [cw]
   rw [bI rfl]
   cases te (ρ++[some d])<;>cases Zc tt te ρ ds<;>rfl
theorem qjE (tt:aj)(te:aa)(ρ:Rho):Zc tt te ρ []=some []:=rfl
theorem qfo (tt:aj)(te:aa)(ρ:Rho)(d:Ka)(ds:ae):qfm (some true) tt te ρ d ds=Yq (te (ρ++[some d])) (Zc tt te ρ ds):=rfl
theorem qfn (tt:aj)(te:aa)(ρ:Rho)(d:Ka)(ds:ae):qfm (some false) tt te ρ d ds=Zc tt te ρ ds:=rfl
def qa0 (a:aQ):Option Ka:=match a with | some ys=>some (.list ys)|none=>none
def qhy (a:aQ)(n:Nat)(tt:aj)(te:aa)(ρ:Rho):Option Ka:=match a with | some ds=>if ρ.length=n/\ds.length<=1000 then qa0 (Zc tt te ρ ds) else none|none=>none
theorem qjG (n:Nat)(fi:ab)(tt:aj)(te:aa)(ρ:Rho):jJ n fi tt te ρ=qhy (fi ρ) n tt te ρ:=by
 unfold jJ ob qhy qa0
 cases fi ρ with
 | none=>rfl
 | some ds =>
  dsimp only
  split
  ·cases Zc tt te ρ ds<;>rfl
  ·rfl
theorem qjC (ds:ae)(n:Nat)(tt:aj)(te:aa)(ρ:Rho):qhy (some ds) n tt te ρ=if ρ.length=n/\ds.length<=1000 then qa0 (Zc tt te ρ ds) else none:=rfl
theorem qkm (ds:ae):qa0 (some ds)=some (.list ds):=rfl
def forI (a:aQ)(g:af)(u:ai)(ρ:Rho):Option Out:=match a with | some ds=>forD g u ds ρ|none=>none
theorem qm8 (fi:ab)(g:af)(u:ai)(ρ:Rho):sFor fi g u ρ=forI (fi ρ) g u ρ:=by
 unfold sFor ob forI
 cases fi ρ<;>rfl
theorem ql3 (ds:ae)(g:af)(u:ai)(ρ:Rho):forI (some ds) g u ρ=forD g u ds ρ:=rfl
def forO (o:Option Out)(g:af)(u:ai)(ds:ae):Option Out:=match o with
 | some (.nx ρ')=>forD g u ds ρ'
 | some (.ct ρ')=>forD g u ds ρ'
 | some (.bk ρ')=>some (.nx ρ')
 | some (.rt r)=>some (.rt r)
 | none=>none
theorem Qs (g:af)(u:ai)(d:Ka)(ds:ae)(ρ:Rho):forD g u (d::ds) ρ=forO (ob (g d ρ) u) g u ds:=by
 rw [forD]
 unfold ob forO
 cases g d ρ with
 | none=>rfl
 | some ρ1 =>
  dsimp only
  cases u ρ1 with
  | none=>rfl
  | some o=>cases o<;>rfl
theorem Yy (g:af)(u:ai)(ρ:Rho):forD g u [] ρ=some (.nx ρ):=rfl
theorem jc (ρ:Rho)(g:af)(u:ai)(ds:ae):forO (some (.nx ρ)) g u ds=forD g u ds ρ:=rfl
theorem qj0 (ρ:Rho)(g:af)(u:ai)(ds:ae):forO (some (.ct ρ)) g u ds=forD g u ds ρ:=rfl
theorem qjZ (ρ:Rho)(g:af)(u:ai)(ds:ae):forO (some (.bk ρ)) g u ds=some (.nx ρ):=rfl
theorem qfx (d:Ka)(g:af)(u:ai)(ds:ae):forO (some (.rt d)) g u ds=some (.rt d):=rfl
def nxO (o:Option Rho):Option Out:=match o with | some ρ=>some (.nx ρ)|none=>none
def asgO (o:aD)(g:af)(ρ:Rho):Option Out:=match o with | some d=>nxO (g d ρ)|none=>none
theorem qm7 (f:aa)(g:af)(ρ:Rho):sAsg f g ρ=asgO (f ρ) g ρ:=by
 unfold sAsg ob asgO nxO
 cases f ρ with
 | none=>rfl
 | some d=>dsimp only;cases g d ρ<;>rfl
theorem qlO (d:Ka)(g:af)(ρ:Rho):asgO (some d) g ρ=nxO (g d ρ):=rfl
theorem nxO_s (ρ:Rho):nxO (some ρ)=some (.nx ρ):=rfl
def retO (o:aD):Option Out:=match o with | some d=>some (.rt d)|none=>none
theorem qnb (f:aa)(ρ:Rho):sRet f ρ=retO (f ρ):=by
 unfold sRet ob retO
 cases f ρ<;>rfl
theorem qm3 (d:Ka):retO (some d)=some (.rt d):=rfl
theorem gsN_n (ρ:Rho):gsN [] ρ=some ρ:=rfl
theorem gsC_c (g1:af)(g2:aF)(d:Ka)(r:ae)(ρ:Rho):gsC g1 g2 (d::r) ρ=ob (g1 d ρ) (g2 r):=rfl
theorem qns (n:Nat)(g:aF)(ds:ae)(ρ:Rho):unpD n g (.tuple ds) ρ=if ds.length=n then g ds ρ else none:=rfl
theorem qnd (ds:ae):seqD (.list ds)=some ds:=rfl
theorem qne (ds:ae):seqD (.tuple ds)=some ds:=rfl
theorem ixD_l (ds:ae)(i:Int):ixD (.list ds) (.int i)=atI ds i:=rfl
theorem ixD_t (ds:ae)(i:Int):ixD (.tuple ds) (.int i)=atI ds i:=rfl
theorem qmp (ds:ae):lenD [.list ds]=some (.int ds.length):=rfl
theorem qmq (ds:ae):lenD [.tuple ds]=some (.int ds.length):=rfl
theorem qjh (ds:ae):WR [.list ds]=some (.tuple ds):=rfl
theorem qji (ds:ae):WR [.tuple ds]=some (.tuple ds):=rfl
theorem qkk (ds:ae):W9 [.list ds]=some (.list ds):=rfl
theorem qkl (ds:ae):W9 [.tuple ds]=some (.list ds):=rfl
theorem qjx (b:Bool):wI (.bool b)=some b:=rfl
theorem qmI (d:Ka):outD (.rt d)=some d:=rfl
theorem qmH (ρ:Rho):outD (.nx ρ)=some .none:=rfl
theorem qlK (i j:Int):qfc (.int i) (.int j)=some (.int (i+j)):=rfl
def takO (b:Bool)(o:aD)(i:Nat)(ρ:Rho):Option Out:=match b,o with | true,some d=>some (.nx (ρ.set i (some d)))|_,_=>none
theorem qk6 (i:Nat)(f:aa)(ρ:Rho):Q5 i f ρ=takO (decide (i<ρ.length)) (f ρ) i ρ:=by
 unfold Q5 ob takO
 by_cases h:i<ρ.length
 ·rw [bI h,bF h]
  cases f ρ<;>rfl
 ·rw [bJ h,bH h]
theorem qnm (d:Ka)(i:Nat)(ρ:Rho):takO true (some d) i ρ=some (.nx (ρ.set i (some d))):=rfl
def flaO (o:aD):Option Ka:=match o with | some d=>if flat d=true then some d else none|none=>none
theorem qjV (f:aa)(ρ:Rho):Yr f ρ=flaO (f ρ):=by
 unfold Yr ob flaO
 cases f ρ<;>rfl
theorem ql0 (d:Ka):flaO (some d)=if flat d=true then some d else none:=rfl
def appO (l d:aD)(i:Nat)(ρ:Rho):Option Out:=match l,d with | some x,some y=>setO (appD x y) i ρ|_,_=>none
theorem qm6 (i:Nat)(f:aa)(ρ:Rho):sApp i f ρ=appO (vr i ρ) (f ρ) i ρ:=by
 unfold sApp ob appO setO
 cases vr i ρ with
 | none=>rfl
 | some x =>
  cases f ρ with
  | none=>rfl
  | some y=>dsimp only;cases appD x y<;>rfl
theorem qlN (x y:Ka)(i:Nat)(ρ:Rho):appO (some x) (some y) i ρ=setO (appD x y) i ρ:=rfl
theorem qep (ds:ae)(d:Ka):appD (.list ds) d=if ds.length<1000 then some (.list (ds++[d])) else none:=rfl
theorem qmJ (d:Ka):outF (.rt d)=some d:=rfl
theorem isD_n (x:Ka):isD x .none=some (.bool (isNone x)):=by cases x<;>rfl
theorem qmh (x:Ka):isnD x .none=some (.bool (!isNone x)):=by cases x<;>rfl
theorem isD_b (b c:Bool):isD (.bool b) (.bool c)=some (.bool (b==c)):=rfl
theorem qmg (b c:Bool):isnD (.bool b) (.bool c)=some (.bool (!(b==c))):=rfl
def sliO (a:aD)(l h:Option (Option Int)):Option Ka:=match a,l,h with | some x,some l,some h=>sliD x l h|_,_,_=>none
theorem evS_b (fa:aa)(fl fh:bj)(ρ:Rho):evS fa fl fh ρ=sliO (fa ρ) (fl ρ) (fh ρ):=by
 unfold evS ob sliO
 cases fa ρ<;>cases fl ρ<;>cases fh ρ<;>rfl
theorem qni (x:Ka)(l h:aV):sliO (some x) (some l) (some h)=sliD x l h:=rfl
def prtO (a:aD):Option (Option Int):=match a with | some (.int i)=>some (some i)|_=>none
theorem oS_b (f:aa)(ρ:Rho):oS f ρ=prtO (f ρ):=by
 unfold oS ob prtO
 cases f ρ with
 | none=>rfl
 | some d=>cases d<;>rfl
theorem qmV (i:Int):prtO (some (.int i))=some (some i):=rfl
theorem qnj (i j:Int):subD (.int i) (.int j)=some (.int (i-j)):=rfl
theorem qmw (i:Int):negD (.int i)=some (.int (-i)):=rfl
theorem qmr (i j:Int):ltD2 (.int i) (.int j)=some (.bool (decide (i<j))):=by
 show (if _ then ob (ltX (.int i) (.int j)) _ else none)=_
 rw [bI ⟨rfl,rfl,Vh 60⟩,ltX]
 rfl
theorem leD_i (i j:Int):leD (.int i) (.int j)=some (.bool (decide (i<=j))):=rfl
theorem gtD_i (i j:Int):gtD (.int i) (.int j)=some (.bool (decide (j<i))):=rfl
theorem qmf (T:String)(ds:ae):isiT T (.tuple ds)=(T == "tuple" || T == "object"):=rfl
theorem qmc (T:String)(ds:ae):isiT T (.list ds)=(T == "list" || T == "object"):=rfl
theorem qmb (T:String)(i:Int):isiT T (.int i)=(T == "int" || T == "object"):=rfl
theorem qma (T:String)(b:Bool):isiT T (.bool b)=(T == "bool" || T == "int" || T == "object"):=rfl
theorem qme (T:String)(x:Str):isiT T (.str x)=(T == "str" || T == "object"):=rfl
theorem qmd (T:String):isiT T .none=(T == "NoneType" || T == "object"):=rfl
theorem qk0 (j:Int):Zy [.int j]=if -1000<=j/\j<=1000 then some (rngL 0 j.toNat) else none:=rfl
def S3 (a b c:Int):Ka:=.tuple [.int a,.int b,.int c]
def T3 (p q r:Ka):Ka:=.tuple [p,q,r]
section
variable {X:Cx}{G:Gm}{M M' Mb L:aq}{fr:Fr}{a b c:KB}{es:aJ}{f fk g:aa}{pos:Pos}{u:ai}
theorem DenL.set {K:Kb}{H:Hp}{S:Av}:∀ {vs:List V} {ds:ae} {v:V} {d:Ka} (j:Nat),DenL K H S vs ds->Den K H S v d->DenL K H S (vs.set j v) (ds.set j d)
 | _,_,_,_,_,.nil,_=>.nil
 | _,_,_,_,0,.cons _ t,q=>.cons q t
 | _,_,_,_,j+1,.cons h t,q=>.cons h (t.set j q)
theorem DenL.dropLast {K:Kb}{H:Hp}{S:Av}:∀ {vs:List V} {ds:ae},DenL K H S vs ds->DenL K H S vs.dropLast ds.dropLast
 | _,_,.nil=>.nil
 | _,_,.cons h .nil=>.nil
 | _,_,.cons h (.cons h2 t)=>.cons h (DenL.dropLast (.cons h2 t))
theorem DenL.erase {K:Kb}{H:Hp}{S:Av}:∀ {vs:List V} {ds:ae} (j:Nat),DenL K H S vs ds->DenL K H S (vs.eraseIdx j) (ds.eraseIdx j)
 | _,_,_,.nil=>.nil
 | _,_,0,.cons _ t=>t
 | _,_,j+1,.cons h t=>.cons h (t.erase j)
def setD:Ka->Ka->Ka->Option Ka
 | .list ds,.int k,d=>ob (ixN ds.length k) λj=>some (.list (ds.set j d))
 | _,_,_=>none
def popD:Ka->Option (Ka×PyData)
 | .list ds=>ob (ds[ds.length-1]?) λd=>some (d,.list ds.dropLast)
 | _=>none
def sPop (i j:Nat):Rho->Option Out:=λρ=>ob (vr i ρ) λl=>ob (popD l) λr=>some (.nx ((ρ.set i (some r.2)).set j (some r.1)))
theorem qb9 (e:popD l=some r):∃ ds d,l=.list ds/\ds[ds.length-1]?=some d/\r=(d,.list ds.dropLast):=by
 unfold popD at e
 split at e
 ·obtain ⟨d,e1,e⟩:=qd e
  cases e
  exact ⟨_,d,rfl,e1,rfl⟩
 ·cases e
theorem qkF (i j:Nat){px py apos cpos:Pos}(hv:Vis X.env.scope x)(hM:Flt M i)(hL:i∉L)(hj:j∉M)(hN2:X.N.Nodup)(hy:Loc X.env.scope y)(hN:X.N[i]?=some x:=by rfl)(hjN:X.N[j]?=some y:=by rfl)(hd:'+'=false:=by decide +kernel)(hcd:(x==("__classdict__" : Str))=false:=by decide +kernel)
  (hf:X.fn y=true\/X.env.scope.names.lookup y=some .local:=by first|exact .inl rfl|exact .inr rfl|assumption)
  (hbase:bU '3' "pop" X.env (eval '3' X.env)=eval '3' X.env:=by rfl)
  (hline:(apos.endLine==cpos.line)=true:=by rfl) (hsw:bZ (.Call (.Attribute '3' "pop" apos) [] [] cpos) (some (.Name y py)) pos.line X.env=pure false:=by rfl) :
  PDS X G M L M Mb fr (.Assign [.Name y py] (.Call (.Attribute '3' "pop" apos) [] [] cpos) pos) (sPop i j) :=
 (YK hN2 hjN hy (qeR VY Xm Nw qij (jo i hv hN hd hcd) hbase hline) hsw hf).weak λD σ H ⟨S,ρ,o,os,e,q⟩=>by
  obtain ⟨l,e1,e⟩:=qd e
  obtain ⟨r,e2,e⟩:=qd e
  cases e
  obtain ⟨ds,d,rfl,ed,rfl⟩:=qb9 e2
  obtain ⟨pp,a1,b1,c1,n1,w1,_⟩:=os.own i hM _ (zN e1)
  cases b1 with
  | @lst xs _ h t =>
   obtain ⟨v,hv1,dv⟩:=t.get ed
   refine ⟨_,a1,.inl ⟨rfl,_,SqL.of h⟩,pp,xs,v,rfl,rfl,h,by rw [t.length];exact hv1,?_⟩
   have os2:=os.write hM hL (zN e1) a1 (d:=.list ds.dropLast) (o:=.lst xs.dropLast) rfl (.lst qU ((DenL.dropLast t).off os.ds.1 (Off.upd c1)))
   exact q _ _ _ (os2.set (dv.off os.ds.1 (Off.upd c1)) hj)
def YJ:Ka->Ka->Option (Ka×PyData)
 | .list ds,.int k=>ob (if -1000<=k/\k<=1000 then cM k ds.length else none) λn=>ob (ds[n]?) λd=>some (d,.list (ds.eraseIdx n))
 | _,_=>none
def qcZ (i j:Nat)(fk:aa):Rho->Option Out:=λρ=>ob (vr i ρ) λl=>ob (fk ρ) λk=>ob (YJ l k) λr=>some (.nx ((ρ.set i (some r.2)).set j (some r.1)))
theorem qec (e:YJ l k=some r):∃ ds m n d,l=.list ds/\k=.int m/\(-1000<=m/\m<=1000)/\cM m ds.length=some n/\ds[n]?=some d/\r=(d,.list (ds.eraseIdx n)):=by
 unfold YJ at e
 split at e
 ·obtain ⟨n,e1,e⟩:=qd e
  obtain ⟨d,e2,e⟩:=qd e
  cases e
  split at e1
  ·rename_i hm
   exact ⟨_,_,n,d,rfl,rfl,hm,e1,e2,rfl⟩
  ·cases e1
 ·cases e
theorem qg0 (i j:Nat){px py apos cpos:Pos}(hv:Vis X.env.scope x)(hM:Flt M i)(hL:i∉L)(hj:j∉M)(hN2:X.N.Nodup)(hy:Loc X.env.scope y)(hk:PD X [] b fk)(hN:X.N[i]?=some x:=by rfl)(hjN:X.N[j]?=some y:=by rfl)(hd:'+'=false:=by decide +kernel)(hcd:(x==("__classdict__" : Str))=false:=by decide +kernel)
  (hf:X.fn y=true\/X.env.scope.names.lookup y=some .local:=by first|exact .inl rfl|exact .inr rfl|assumption)
  (hbase:bU '3' "pop" X.env (eval '3' X.env)=eval '3' X.env:=by rfl)
  (hfew:((bT cpos (bG [b] X.env)).all (λx=>!x.1)&&(cH cpos (cu [] X.env)).all (λx=>x.1.isSome)
   && decide ([b].length+([]:List UI).length+(if ([]:List UI).isEmpty then 0 else 1)<30))=true:=by rfl)
  (hline:(apos.endLine==cpos.line)=true:=by rfl) (hs:bG [b] X.env=(false,eval b X.env)::bG [] X.env:=by rfl) (hplain:(bT cpos (bG [] X.env)).any (·.1)=false:=by rfl)
  (hsw:bZ (.Call (.Attribute '3' "pop" apos) [b] [] cpos) (some (.Name y py)) pos.line X.env=pure false:=by rfl) :
  PDS X G M L M Mb fr (.Assign [.Name y py] (.Call (.Attribute '3' "pop" apos) [b] [] cpos) pos) (qcZ i j fk) :=
 (YK hN2 hjN hy (qb7 VY Xm Nw qik (jo i hv hN hd hcd) (qT hk zV hs) hbase hfew hline hs hplain) hsw hf).weak λD σ H ⟨S,ρ,o,os,e,q⟩=>by
  obtain ⟨l,e1,e⟩:=qd e
  obtain ⟨k,e2,e⟩:=qd e
  obtain ⟨r,e3,e⟩:=qd e
  cases e
  obtain ⟨ds,m,n,d,rfl,rfl,hm,en,ed,rfl⟩:=qec e3
  obtain ⟨pp,a1,b1,c1,n1,w1,_⟩:=os.own i hM _ (zN e1)
  cases b1 with
  | @lst xs _ h t =>
   refine ⟨_,a1,.inl ⟨rfl,_,SqL.of h⟩,G.S0,ρ,[.int m],os.den,by show ob (fk ρ) _=_;rw [e2];rfl,λvs H2 g2 dl=>?_⟩
   obtain ⟨kv,rfl,dk⟩:=dl.inv1
   have os2:=os.same g2
   obtain ⟨v,hv1,dv⟩:=(t.same g2).get ed
   refine ⟨pp,xs,m,n,v,rfl,by rw [dk.int_inv],g2 _ _ h,by omega,by omega,by rw [t.length];exact en,hv1,?_⟩
   have os3:=os2.write hM hL (zN e1) a1 (d:=.list (ds.eraseIdx n)) (o:=.lst (xs.eraseIdx n)) rfl (.lst qU (((t.same g2).erase n).off os2.ds.1 (Off.upd c1)))
   exact q _ _ _ (os3.set (dv.off os2.ds.1 (Off.upd c1)) hj)
end
end L2
namespace L2
open PySem
def putO (d l k:aD)(i:Nat)(ρ:Rho):Option Out:=match d,l,k with | some d,some l,some k=>setO (setD l k d) i ρ|_,_,_=>none
def popO (r:Option (Ka×PyData))(i j:Nat)(ρ:Rho):Option Out:=match r with | some r=>some (.nx ((ρ.set i (some r.2)).set j (some r.1)))|none=>none
theorem qna (i j:Nat)(ρ:Rho):sPop i j ρ=popO (ob (vr i ρ) popD) i j ρ:=by
 unfold sPop ob popO
 cases vr i ρ with
 | none=>rfl
 | some l=>dsimp only;cases popD l<;>rfl
def popA (l k:aD):Option (Ka×PyData):=match l,k with | some l,some k=>YJ l k|_,_=>none
theorem qi3 (i j:Nat)(fk:aa)(ρ:Rho):qcZ i j fk ρ=popO (popA (vr i ρ) (fk ρ)) i j ρ:=by
 unfold qcZ ob popO popA
 cases vr i ρ with
 | none=>rfl
 | some l =>
  cases fk ρ with
  | none=>rfl
  | some k=>dsimp only;cases YJ l k<;>rfl
theorem qmT (r:Ka×PyData)(i j:Nat)(ρ:Rho):popO (some r) i j ρ=some (.nx ((ρ.set i (some r.2)).set j (some r.1))):=rfl
theorem qmS (l k:Ka):popA (some l) (some k)=YJ l k:=rfl
end L2
namespace L2
open PySem PySem.Spec PyProof.Rows
section
variable {X:Cx}
theorem qgi:bS "max" = some (.builtin "max"):=by decide +kernel
theorem qgj:bS "min" = some (.builtin "min"):=by decide +kernel
end
def evCh (fa fb fc:aa)(g g':aG):Rho->Option Ka:=λρ=>ob (fa ρ) λx=>ob (fb ρ) λy=>ob (g x y) λz=>ob (wI z) λk=>if k=true then ob (fc ρ) λw=>g' y w else some (.bool false)
section
variable {X:Cx}{M:aq}{a b c:KB}{fa fb fc:aa}{pos:Pos}{op op':CmpOp}{g g':aG}
theorem tChD {K:Kb}:∀ σ H Q,tD K M (evCh fa fb fc g g') σ H Q->qi9 (rD2 K g) (rD2 K g') (tD K M fa) (tD K M fb) (tD K M fc) σ H Q:=by
 intro σ H Q ⟨S,ρ,d,hs,e,q⟩
 obtain ⟨x,e1,e⟩:=qd e
 obtain ⟨y,e2,e⟩:=qd e
 obtain ⟨z,e3,e⟩:=qd e
 obtain ⟨k,e4,e⟩:=qd e
 cases Z1 e4
 refine ⟨S,ρ,x,hs,e1,λv H1 g1 d1=>⟨S,ρ,y,hs.same g1,e2,λw H2 g2 d2=>⟨S,x,y,_,hs.1.same (g1.trans g2),d1.same g2,d2,e3,λzv H3 g3 dz=>⟨k,dz.bool_inv,?_⟩⟩⟩⟩
 have g123:=g1.trans (g2.trans g3)
 cases k with
 | true =>
  have e:(ob (fc ρ) λw=>g' y w)=some d:=e
  obtain ⟨w',e5,e⟩:=qd e
  exact iteT ⟨S,ρ,w',hs.same g123,e5,λwv H4 g4 d4=>⟨S,y,w',d,hs.1.same (g123.trans g4),d2.same (g3.trans g4),d4,e,λv5 H5 g5 d5=>q v5 H5 (g123.trans (g4.trans g5)) d5⟩⟩
 | false =>
  cases e
  exact iteF (q _ H3 g123 (.bool false))
theorem qg3 (ho:OpD X (bQ op) g)(ho':OpD X (bQ op') g')(ha:PD X M a fa)(hb:PD X M b fb)(hc:PD X M c fc)(hm:lastMarks [op,op'] [b,c]=false:=by with_unfolding_all rfl):PDT X M (.Compare a [op,op'] [b,c] pos) (tV (evCh fa fb fc g g')) :=
 (qiT ho ho' ha hb hc hm).weak λσ H Q ⟨S,ρ,d,hs,e,q⟩=>by
  obtain ⟨x,e1,e⟩:=qd e
  cases Z1 e
  exact tChD σ H _ ⟨S,ρ,_,hs,e1,λv H1 g1 d1=>⟨d,d1.bool_inv,q H1 g1⟩⟩
end
def chO (y:aD)(k:aD)(fc:aa)(g':aG)(ρ:Rho):Option Ka:=match y,k with
 | some y,some (.bool true)=>ob (fc ρ) (g' y)
 | some _,some (.bool false)=>some (.bool false)
 | _,_=>none
theorem qlX (fa fb fc:aa)(g g':aG)(ρ:Rho):evCh fa fb fc g g' ρ=chO (fb ρ) (binO (fa ρ) (fb ρ) g) fc g' ρ:=by
 unfold evCh ob chO binO wI
 cases fa ρ with
 | none=>cases fb ρ<;>rfl
 | some x =>
  cases fb ρ with
  | none=>rfl
  | some y =>
   dsimp only
   cases g x y with
   | none=>rfl
   | some z =>
    cases z with
    | bool k=>cases k<;>rfl
    | _=>rfl
theorem chO_t (y:Ka)(fc:aa)(g':aG)(ρ:Rho):chO (some y) (some (.bool true)) fc g' ρ=ob (fc ρ) (g' y):=rfl
theorem chO_f (y:Ka)(fc:aa)(g':aG)(ρ:Rho):chO (some y) (some (.bool false)) fc g' ρ=some (.bool false):=rfl
def JL (l x:Ka):Option Ka:=match l with
 | .list ds=>if inOk ds x=true/\ds.length<=1000 then ob (ds.findIdx? λy=>Kv y x) λj=>some (.int (j:Nat)) else none
 | _=>none
section
variable {X:Cx}{G:Gm}{M M' Mb L:aq}{fr:Fr}{a b c:KB}{es:aJ}{f fk g:aa}{pos:Pos}{u:ai}
def qkW (K:Kb):V->List V->Hp->VK->Prop:=λx vs H Q=>∃ S dx y dy d,vs=[y]/\Den K H S x dx/\Den K H S y dy/\JL dx dy=some d/\Dm S H/\∀ v H',Same H H'->Den K H' S v d->Q v H'
theorem qii (hr:Room k X.A):MtR X "list.index" (qkW X.K):=by
 intro bE s σ H x vs v us Q I rx rv h
 obtain ⟨S,dx,y,dy,d,rfl,h1,h2,e,m,q⟩:=h
 obtain ⟨u,rfl,ru⟩:=rv.one
 unfold JL at e
 split at e
 ·rename_i ds
  split at e
  ·rename_i hc
   obtain ⟨⟨c1,c2,c3⟩,hz⟩:=And.intro (Z5 hc.1) hc.2
   obtain ⟨j,ej,e⟩:=qd e
   cases e
   obtain ⟨bs,q2⟩:=h2.reads I c2 ru
   obtain ⟨as,q1⟩:=h1.reads I (by rw [KP];exact c1) rx
   obtain ⟨a,xs,rfl,hsq,ht⟩:=h1.list_inv
   cases (show v=Vd a from rx)
   cases q1 with
   | @list _ o items n _ _ g1 g2 g3 g4 =>
    obtain ⟨cls,dd,data,sl⟩:=o
    simp only at g2 g3
    subst g2 g3
    have hm:=SeqAt.readsAll_map _ _ _ c1 g4
    obtain ⟨hj,hp,hno⟩:=Nh.mp ej
    have hlen:items.size=ds.length:=by
     have:=congrArg XO hm
     simpa using this
    have hat:∀ i (h:i<items.size),X4 s.heap items[i]=ds[i]'(by omega):=λi h=>by
     have:=congrArg (λl=>l[i]?) hm
     simp only [Ky] at this
     rw [Kk (by simpa using h),Kk (by omega)] at this
     simpa using this
    refine NC EE ⟨_,g1,rfl⟩ PySem.F.entry_list_index (PySem.F.args_list_index_2 _ _) (SeqAt.list_indexAt a items n dd sl u (λy=>Kv (X4 s.heap y) dy) j (by omega) (by omega) ?_ ?_) ⟨g1,SeqAt.items_eqAt g4 q2 c1 c2 (Ye c3 hr.units),?_⟩
    ·rw [hat j (by omega)];exact hp
    ·intro i hi hij
     rw [hat i hi]
     simpa using hno i hij
    ·exact ⟨.int j,H,I.tok _,⟨_,rfl⟩,q _ H (Same.refl H) (.int _)⟩
  ·cases e
 ·cases e
theorem qd4 {apos cpos:Pos}(hr:Room k X.A)(ho:PD X M o f)(he:PD X M a g)
  (hbase:bU o "index" X.env (eval o X.env)=eval o X.env:=by rfl)
  (hfew:((bT cpos (bG [a] X.env)).all (λx=>!x.1)&&(cH cpos (cu [] X.env)).all (λx=>x.1.isSome)
   && decide ([a].length+([]:List UI).length+(if ([]:List UI).isEmpty then 0 else 1)<30))=true:=by rfl)
  (hline:(apos.endLine==cpos.line)=true:=by rfl) (hs:bG [a] X.env=(false,eval a X.env)::bG [] X.env:=by rfl) (hplain:(bT cpos (bG [] X.env)).any (·.1)=false:=by rfl) :
  PD X M (.Call (.Attribute o "index" apos) [a] [] cpos) (ev2 f g JL) :=
 (qb7 VY EE PySem.F.type_list_index (qii hr) ho (qT he zV hs) hbase hfew hline hs hplain).weak λσ H Q ⟨S,ρ,d,hs,e,q⟩=>by
  obtain ⟨dx,e1,e⟩:=qd e
  obtain ⟨dy,e2,e⟩:=qd e
  refine ⟨S,ρ,dx,hs,e1,λv H1 g1 d1=>?_⟩
  have:∃ ds,dx=.list ds:=by
   unfold JL at e
   split at e
   ·exact ⟨_,rfl⟩
   ·cases e
  obtain ⟨ds,rfl⟩:=this
  obtain ⟨p,xs,rfl,hsq,ht⟩:=d1.list_inv
  refine ⟨.inl ⟨rfl,_,hsq.sq⟩,S,ρ,[dy],hs.same g1,by show ob (g ρ) _=_;rw [e2];rfl,λvs H2 g2 dl=>?_⟩
  obtain ⟨w,rfl,dw⟩:=dl.inv1
  exact ⟨S,_,w,dy,d,rfl,d1.same g2,dw,e,hs.1.same (g1.trans g2),λv3 H3 g3 d3=>q v3 H3 (g1.trans (g2.trans g3)) d3⟩
noncomputable def Qk (x y:Ka):Option Ka:=match x,y with
 | .int i,.int j=>some (.int (i+j))
 | .list ds,.list es=>if ds.length+es.length<=1000 then some (.list (ds++es)) else none
 | x,y=>qfc x y
def rCatL (K:Kb):R2:=λx y H Q=>∃ l b xs zs,x=.ref l/\y=.ref b/\SqL K H l xs/\SqL K H b zs/\xs.length+zs.length<=bM/\∀ p,H p=none->Q (.ref p) (upd H p (.lst (xs++zs)))
theorem qfS:OpR X (bY .Add) (rCatL X.K):=by
 intro bE s σ H x y v u Q I rx ry h
 obtain ⟨l,b,xs,zs,rfl,rfl,hH,hB,hz,q⟩:=h
 cases rx
 cases ry
 obtain ⟨its,r,⟨⟨cls,dd,data,sl⟩,n,g1,g2,_,g3⟩,_⟩:=I.list hH
 obtain ⟨its2,r2,⟨⟨cls2,dd2,data2,sl2⟩,n2,k1,k2,_,k3⟩,_⟩:=I.list hB
 simp only at g2 g3 k2 k3
 subst g2 g3 k2 k3
 have ea:its.toArray++its2.toArray=(its++its2).toArray:=by simp
 have l1:=r.length
 have l2:=r2.length
 refine Eo ⟨_,g1,rfl⟩ ⟨_,k1,rfl⟩ noFill_list_add seq_list_add PySem.F.slot_list_add PySem.F.entry_list_add (PySem.F.args_list_add_2 _ _) (list_addW l b its.toArray its2.toArray n n2 dd dd2 sl sl2 (by rw [KA,KA];omega)) ⟨g1,k1,?_⟩
 rw [ea]
 exact ⟨.ref _,_,I.lnew (t':=s.toks) (r.append r2) (by rw [Kj];omega),rfl,q _ I.fresh⟩
theorem qlT:OpD X (bY .Add) (λx y=>match x,y with | .list ds,.list es=>if ds.length+es.length<=1000 then some (.list (ds++es)) else none|_,_=>none):=by
 refine YF qfS λx y dx dy d H S Q m h1 h2 e q=>?_
 split at e
 ·split at e
  ·rename_i ds es hc
   cases e
   cases h1 with
   | list a1 t1 =>
    cases h2 with
    | list a2 t2 =>
     exact ⟨_,_,_,_,rfl,rfl,a1.sq,a2.sq,by rw [t1.length,t2.length];exact VA (zB hc),λp hp=>q _ _ (Same.lay hp) (.list (SqLS.new qU (m.free hp)) ((t1.append t2).same (Same.lay hp)))⟩
  ·cases e
 ·cases e
theorem zZ:OpD X (bY .Add) Qk:=by
 intro bE s σ H x y v u Q I rx ry h
 obtain ⟨S,dx,dy,d,m,h1,h2,e,q⟩:=h
 unfold Qk at e
 split at e
 ·exact qhB bE s σ H x y v u Q I rx ry ⟨S,_,_,d,m,h1,h2,e,q⟩
 ·exact qlT bE s σ H x y v u Q I rx ry ⟨S,_,_,d,m,h1,h2,e,q⟩
 ·exact qhB bE s σ H x y v u Q I rx ry ⟨S,_,_,d,m,h1,h2,e,q⟩
theorem qjr (i j:Int):Qk (.int i) (.int j)=some (.int (i+j)):=rfl
def qc4:List Ka->Option Ka
 | [.int i]=>some (.int i)
 | [.bool k]=>some (.int (if k then 1 else 0))
 | _=>none
theorem b_int:CallD X (.type "int") qc4:=λbE s σ H xs us Q I r ⟨S,ds,d,m,h1,e,q⟩=>qgk bE s σ H xs us Q I r (by
 unfold qc4 at e
 split at e
 ·cases e
  obtain ⟨v,rfl,hv⟩:=h1.inv1
  exact .inl ⟨_,by rw [hv.int_inv],q _ H (Same.refl H) (.int _)⟩
 ·cases e
  obtain ⟨v,rfl,hv⟩:=h1.inv1
  exact .inr ⟨_,by rw [hv.bool_inv],q _ H (Same.refl H) (.int _)⟩
 ·cases e)
def Wj (i:Nat):Rho->Option Out:=λρ=>ob (vr i ρ) λl=>ob (popD l) λr=>some (.nx (ρ.set i (some r.2)))
theorem qd6 (i:Nat){px apos cpos:Pos}(hv:Vis X.env.scope x)(hM:Flt M i)(hL:i∉L)(hN:X.N[i]?=some x:=by rfl)(hd:'+'=false:=by decide +kernel)(hcd:(x==("__classdict__" : Str))=false:=by decide +kernel)
  (hbase:bU '3' "pop" X.env (eval '3' X.env)=eval '3' X.env:=by rfl)
  (hline:(apos.endLine==cpos.line)=true:=by rfl) (hsw:bZ (.Call (.Attribute '3' "pop" apos) [] [] cpos) none pos.line X.env=pure false:=by rfl) :
  PDS X G M L M Mb fr (.Expr (.Call (.Attribute '3' "pop" apos) [] [] cpos) pos) (Wj i) :=
 (Yk (qeR VY Xm Nw qij (jo i hv hN hd hcd) hbase hline) hsw).weak λD σ H ⟨S,ρ,o,os,e,q⟩=>by
  obtain ⟨l,e1,e⟩:=qd e
  obtain ⟨r,e2,e⟩:=qd e
  cases e
  obtain ⟨ds,d,rfl,ed,rfl⟩:=qb9 e2
  obtain ⟨pp,a1,b1,c1,n1,w1,_⟩:=os.own i hM _ (zN e1)
  cases b1 with
  | @lst xs _ h t =>
   obtain ⟨v,hv1,dv⟩:=t.get ed
   refine ⟨_,a1,.inl ⟨rfl,_,SqL.of h⟩,pp,xs,v,rfl,rfl,h,by rw [t.length];exact hv1,?_⟩
   exact q _ _ _ (os.write hM hL (zN e1) a1 (d:=.list ds.dropLast) (o:=.lst xs.dropLast) rfl (.lst qU ((DenL.dropLast t).off os.ds.1 (Off.upd c1))))
end
def popS (r:Option (Ka×PyData))(i:Nat)(ρ:Rho):Option Out:=match r with | some r=>some (.nx (ρ.set i (some r.2)))|none=>none
theorem qk5 (i:Nat)(ρ:Rho):Wj i ρ=popS (ob (vr i ρ) popD) i ρ:=by
 unfold Wj ob popS
 cases vr i ρ with
 | none=>rfl
 | some l=>dsimp only;cases popD l<;>rfl
theorem qmU (r:Ka×PyData)(i:Nat)(ρ:Rho):popS (some r) i ρ=some (.nx (ρ.set i (some r.2))):=rfl
theorem qek (k:Bool):qc4 [.bool k]=some (.int (if k then 1 else 0)):=rfl
section
variable {prog:KJ}{w:KZ}{A:K0}{E:ah}{s:Kh}
theorem qdZ  {Q:ah} (hit:s.heap.IsTupleIter it t i) (ht:s.heap.IsTuple t items) (hx:items[i]?=some x)
  (hQ:∀ h',h'.IsTupleIter it t (i+1)->UB it s.heap h'->Q x { s with heap:=h' }):bK ',' A (Xg (.ref it)) Q E s:=by
 obtain ⟨o,ho,hc,hd⟩:=id hit
 obtain ⟨ol,hol,_,nl,hdl⟩:=ht
 unfold Xg
 refine Kd (US (name:=Kg "__next__") hit.typeIs Xd (V4 Xd hit.typeIs N2 ?_ (NS _)))
 refine (Kd (UK ho hd (x:=.ref t) rfl ?_):bK _ _ (field (.ref it) 0 >>= _) _ _ s)
 refine (id ?_:bK _ _ (if (Vd t==VE)=true then _ else _) _ _ s)
 rw [bJ (λz=>VJ z:¬ ((Vd t==VE)=true))]
 refine (Kd (UK ho hd (x:=.int i 0) rfl ?_):bK _ _ (field (.ref it) 1 >>= _) _ _ s)
 refine (Kd (Ut hol hdl ?_):bK _ _ (cG (.ref t) >>= _) _ _ s)
 simp only [hx,K4]
 refine Kd (E1 ho hd (by simp) (Kn ⟨x,rfl,Kn (hQ _ ⟨_,UJ _ ho (Obj.isFreed_of_fields (Obj.data_mapFields hd _)),(Obj.cls_mapFields ..).trans hc,by rw [Obj.data_mapFields hd];simp [cI]⟩ (Heap.SameBut.update ..))⟩))
theorem qeP  {Q:ah} (hh:A.handled=none) (hit:s.heap.IsTupleIter it t i) (ht:s.heap.IsTuple t items) (hx:items[i]?=none)
  (hE:∀ h' e,Heap.ExtBut it s.heap h'->(∃ o,h'.get? e=some o/\o.cls=.type "StopIteration")->E (.ref e) { s with heap:=h' }):bK ',' A (Xg (.ref it)) Q E s:=by
 obtain ⟨o,ho,hc,hd⟩:=id hit
 obtain ⟨ol,hol,_,nl,hdl⟩:=ht
 unfold Xg
 refine Kd (US (name:=Kg "__next__") hit.typeIs Xd (V4 Xd hit.typeIs N2 ?_ (NS _)))
 refine (Kd (UK ho hd (x:=.ref t) rfl ?_):bK _ _ (field (.ref it) 0 >>= _) _ _ s)
 refine (id ?_:bK _ _ (if (Vd t==VE)=true then _ else _) _ _ s)
 rw [bJ (λz=>VJ z:¬ ((Vd t==VE)=true))]
 refine (Kd (UK ho hd (x:=.int i 0) rfl ?_):bK _ _ (field (.ref it) 1 >>= _) _ _ s)
 refine (Kd (Ut hol hdl ?_):bK _ _ (cG (.ref t) >>= _) _ _ s)
 simp only [hx,K4]
 refine Kd (wpAny_rule (Kd (E1 ho hd (by simp) (Kd (?_:bK _ _ (newExc (.type "StopIteration") []) _ _ _)))))
 simp only [newExc,newTuple]
 refine Kd (Vx (Kd (m:=cN _ _) (ER (a:=VE) (by first|rfl|(simp only [cN];rfl)) (Vx ?_ (by size_fits)))) (by size_fits))
 simp only [raiseNew]
 refine Kd (wpAny_handled ?_)
 first|rw [show A.in1.handled=none from hh]|rw [hh]
 exact Kd (Kn (wpAny_throw (hE _ _ (((Heap.SameBut.update ..).extBut.push _).push _) ⟨_,Kx _ rfl,rfl⟩)))
end
theorem qdn {prog:KJ}{w:KZ}{A:K0}(hh:A.handled=none)(it l:Ke)(hne:l≠it)(items:aT) :
  Draws prog w A it [it,l] items.size (λi v=>items[i]?=some v) (λi h=>h.IsTupleIter it l i/\h.IsTuple l items) where
 live:=λ_ _ ⟨⟨o,ho,_⟩,_⟩=>⟨o,ho⟩
 frame:=λ_ _ _ ⟨a,b⟩ hk=>⟨a.at λo e=>hk it (by simp) o e,let ⟨o,ho,r⟩:=b;⟨o,hk l (by simp) o ho,r⟩⟩
 item:=λi s Q E hi ⟨a,b⟩ hQ=>qdZ a b (x:=items[i]) (by simp [hi]) λh' a' hs'=>hQ _ h' s.toks (by simp [hi]) ⟨a',b.extBut hs'.extBut hne⟩ hs'
 done:=λs Q E ⟨a,b⟩ hE=>qeP hh a b (by simp) hE
open AutoSeq1 (wpAny_loadPart') in
theorem qgs (l:Ke)(items:aT)(n:Nat)(dct:aI)(sl:au) :
  Meets (UQ.«enumerate.__new__» ⟨[.type "enumerate", .ref l],[]⟩) (λ_ R s=>s.heap.get? l=some { cls:=.type "tuple", dict:=dct,data:=.seq items n,slots:=sl }/\
   R (.ok (.ret (.ref (s.heap.push { cls:=.type "tuple_iterator", data:=.fields #[.ref l,.int 0 0] }).objs.size))) { s with heap:=(s.heap.push { cls:=.type "tuple_iterator", data:=.fields #[.ref l,.int 0 0] }).push { cls:=.type "enumerate", data:=.fields #[.none,.bool false,.ref s.heap.objs.size,cI 0,.none,.none] } }) :=
 .of_wp λprog w A R s h=>by
  obtain ⟨hp,g,d,tk,os⟩:=s
  obtain ⟨hl,h⟩:=h
  have hsub:=sub_enumerate
  have hT:Heap.IsTuple (Shared.heap ⟨hp,g,d,tk,os⟩) l items:=⟨_,hl,rfl,n,rfl⟩
  wp_walk using bO hl
  refine wpAny_stack_any λst=>Kn ?_
  split
  ·rename_i c _ _ _ _ _
   cases (c==Vs "enumerate")<;>(wp_walk using bO hl,Xv hT;exact ⟨_,rfl,h⟩)
  ·wp_walk using bO hl,Xv hT
   exact ⟨_,rfl,h⟩
section
variable {X:Cx}{bE:ag}{σ:St}{H:Hp}{s:Kh}
theorem Inv.turned2 {h':KS}{t':Nat}(I:'&')(k:∀ b o,b≠e->b≠it->s.heap.get? b=some o->h'.get? b=some o)(fe:FpOk X bE H e)(fi:FpOk X bE H it):Inv X bE σ H { s with heap:=h',toks:=t' }:=by
 have nit:∀ b u,H b=some u->b≠e/\b≠it:=λb u q=>⟨λz=>by (rw [z,fe.1] at q;cases q),λz=>by (rw [z,fi.1] at q;cases q)⟩
 have out:∀ {b},b∉[e,it]->b≠e/\b≠it:=λhc=>⟨λz=>hc (by simp [z]),λz=>hc (by simp [z])⟩
 refine I.step (g':=s.gens) (d':=s.drawn) (ch:=[e,it]) (λb hb=>?_) (λb o _ _ hc e _=>k b o (out hc).1 (out hc).2 e) (λb o _ _ hc e _=>⟨o.slots,k b o (out hc).1 (out hc).2 e⟩) (λ_ _ _ _ n=>n)
  (λb o hc e=>⟨o,k b o (out hc).1 (out hc).2 e⟩) (λ_ _ e=>e) (λ_ _ _ e=>e) (λb ps e=>⟨#[],by rw [e];simp⟩) (λm hm=>?_) (λb u q=>?_) I.bare
 ·rcases Kr.mp hb with rfl|hb
  ·exact ⟨fe.2.2.2.1,fe.2.1,fe.2.2.2.2.1,fe.2.2.2.2.2⟩
  ·have:=Ks.mp hb
   subst this
   exact ⟨fi.2.2.2.1,fi.2.1,fi.2.2.2.2.1,fi.2.2.2.2.2⟩
 ·obtain ⟨o,es,ep,ho,r⟩:=hm
  exact ⟨o,es,ep,k _ o (Ul fe.2.1) (Ul fi.2.1) ho,r⟩
 ·refine (I.hok b u q).stay (λc v hc q'=>?_) (λ_ q=>q) λ_ _ q=>q
  have n:c≠e/\c≠it:=by
   rcases hc with z|z
   ·rw [z];exact nit b u q
   ·exact nit c _ z
  exact k c v n.1 n.2 q'
end
def SqB (K:Kb)(H:Hp)(b:Bool)(a:Ke)(xs:List V):Prop:=if b=true then SqT K H a xs else SqL K H a xs
def ItB (h:KS)(b:Bool)(it a:Ke)(i:Nat):Prop:=if b=true then h.IsTupleIter it a i else h.IsListIter it a i
def Iten (K:Kb)(b:Bool)(a:Ke):It :=
 ⟨λi H=>∃ xs x,SqB K H b a xs/\xs[i]?=some x,
  λi H x H'=>∃ p y,H p=none/\x=.ref p/\H'=upd H p (.tup [.int i,y])/\∀ xs,SqB K H b a xs->xs[i]?=some y,
  λi H=>∃ xs,SqB K H b a xs/\xs.length=i⟩
def tnE (b:Bool)(e it a:Ke)(i:Nat)(h:KS):Prop:=(∃ old,IsEnum h e it i old)/\ItB h b it a i
section
variable {X:Cx}{bE:ag}{σ:St}{H:Hp}{s:Kh}
theorem SqB.draws {b:Bool}{a e it:Ke}{i:Nat}{xs:List V}{old:Kc}(I:'&')(hh:X.A.handled=none)(hq:SqB X.K H b a xs)(he:IsEnum s.heap e it i old)(hi:ItB s.heap b it a i) :
  ∃ (its:az) (St':bw),Vals xs its/\e≠it/\e∉[it,a]/\St' i s.heap/\Draws X.prog X.w X.A.in1 it [it,a] its.length (λi v=>its[i]?=some v) St'/\(∀ j h,St' j h->ItB h b it a j):=by
 have hh1:X.A.in1.handled=none:=hh
 cases b with
 | true =>
  have hq:SqT X.K H a xs:=hq
  have hi:s.heap.IsTupleIter it a i:=hi
  obtain ⟨its,rv,p,hz⟩:=I.tuple hq
  have p:s.heap.IsTuple a its.toArray:=p
  obtain ⟨o1,e1,c1,d1⟩:=id hi
  obtain ⟨o2,e2,c2,n2,d2⟩:=id p
  have n1:e≠it:=λz=>by rw [z] at he;rw [he] at e1;cases e1;exact absurd (show Vs "enumerate" = Vs "tuple_iterator" from c1) (by decide)
  have n2:a≠it:=λz=>by rw [z] at e2;rw [e2] at e1;cases e1;rw [c1] at c2;exact absurd c2 (by decide)
  have n3:e≠a:=λz=>by rw [z] at he;rw [he] at e2;cases e2;exact absurd (show Vs "enumerate" = Vs "tuple" from c2) (by decide)
  refine ⟨its,λj h=>h.IsTupleIter it a j/\h.IsTuple a its.toArray,rv,n1,by simp [n1,n3],⟨hi,p⟩,?_,λj h q=>q.1⟩
  have:=qdn (prog:=X.prog) (w:=X.w) hh1 it a n2 its.toArray
  simpa using this
 | false =>
  have hq:SqL X.K H a xs:=hq
  have hi:s.heap.IsListIter it a i:=hi
  obtain ⟨its,rv,p0,hz⟩:=I.list hq
  have p:=p0.isList
  obtain ⟨o1,e1,c1,d1⟩:=id hi
  obtain ⟨o2,e2,c2,n2,d2⟩:=id p
  have n1:e≠it:=λz=>by rw [z] at he;rw [he] at e1;cases e1;exact absurd (show Vs "enumerate" = Vs "list_iterator" from c1) (by decide)
  have n2:a≠it:=λz=>by rw [z] at e2;rw [e2] at e1;cases e1;rw [c1] at c2;exact absurd c2 (by decide)
  have n3:e≠a:=λz=>by rw [z] at he;rw [he] at e2;cases e2;exact absurd (show Vs "enumerate" = Vs "list" from c2) (by decide)
  refine ⟨its,λj h=>h.IsListIter it a j/\h.IsList a its.toArray,rv,n1,by simp [n1,n3],⟨hi,p⟩,?_,λj h q=>q.1⟩
  have:=Draws.list (prog:=X.prog) (w:=X.w) hh1 it a n2 its.toArray
  simpa using this
theorem SqB.inj  (I:'&') (h1:SqB X.K H b a xs) (h2:SqB X.K H b a ys):xs=ys:=by
 cases b with
 | true=>exact I.tuple_inj h1 h2
 | false=>exact I.list_inj h1 h2
theorem ItB.but {h h':KS}  (q:ItB h b it a i) (n:it≠e) (hs:∀ c o,c≠e->h.get? c=some o->h'.get? c=some o):ItB h' b it a i:=by
 cases b with
 | true=>obtain ⟨o,ho,r⟩:=(show h.IsTupleIter it a i from q);exact (show h'.IsTupleIter it a i from ⟨o,hs _ o n ho,r⟩)
 | false=>obtain ⟨o,ho,r⟩:=(show h.IsListIter it a i from q);exact (show h'.IsListIter it a i from ⟨o,hs _ o n ho,r⟩)
theorem ItB.obj {h:KS}  (q:ItB h b it a i):∃ o,h.get? it=some o/\∀ v,o.data≠.cell v:=by
 cases b with
 | true=>obtain ⟨o,ho,c,d⟩:=(show h.IsTupleIter it a i from q);exact ⟨o,ho,λv z=>by rw [d] at z;cases z⟩
 | false=>obtain ⟨o,ho,c,d⟩:=(show h.IsListIter it a i from q);exact ⟨o,ho,λv z=>by rw [d] at z;cases z⟩
end
theorem qhc {P:KJ}{w:KZ}{K:Kb}{ts:aJ}{kk:Nat}{tp:Pos}(b:Bool)(a e it:Ke):Turn P w K (.Tuple ts kk tp) (Iten K b a) [e,it] e (tnE b e it a) where
 mem:=by simp
 obj:=λi h ⟨⟨old,he⟩,hi⟩ c hc=>by
  rcases Kr.mp hc with rfl|hc
  ·exact ⟨_,he,λv z=>by cases z⟩
  ·have:=Ks.mp hc
   subst this
   exact hi.obj
 keep:=λi h h' ⟨⟨old,he⟩,hi⟩ k=>by
  refine ⟨⟨old,k e (by simp) _ he⟩,?_⟩
  cases b with
  | true=>obtain ⟨o,ho,r⟩:=(show h.IsTupleIter it a i from hi);exact (show h'.IsTupleIter it a i from ⟨o,k it (by simp) o ho,r⟩)
  | false=>obtain ⟨o,ho,r⟩:=(show h.IsListIter it a i from hi);exact (show h'.IsListIter it a i from ⟨o,k it (by simp) o ho,r⟩)
 item:=by
  intro X hP hw hK hc i bE s σ H E I hf st hg
  subst hP hw hK
  obtain ⟨xs,x,hq,hx⟩:=hg
  obtain ⟨⟨old,he⟩,hi⟩:=st
  obtain ⟨its,St',rv,n1,n2,st,D,back⟩:=SqB.draws I (I.ok.hd hc) hq he hi
  obtain ⟨u,hu,ru⟩:=rv.get hx
  have hlt:i<its.length:=by
   rcases Fi i its.length with z|z
   ·exact z
   ·rw [Ue z] at hu;cases hu
  refine wpAny_pyNext_enum_itemD D he st hlt n1 n2 λx' h' tk hP heo st' ht hsz hk=>?_
  have ex:x'=u:=by rw [hu] at hP;cases hP;rfl
  subst ex
  refine ⟨_,rfl,wpAny_letOwnedTupleGo_enum heo λh2 he2 hs2=>?_⟩
  have hs2:UB e h' h2:=hs2
  have k2:∀ c o,c≠e->h'.get? c=some o->h2.get? c=some o:=λc o hc q=>(hs2.2 c hc).trans q
  have I1:Inv X bE σ H { s with heap:=h2,toks:=tk+1 }:=I.turned2 (λc o hc1 hc2 q=>k2 c o hc1 (hk c o hc1 hc2 q)) (hf e (by simp)) (hf it (by simp))
  have hn:H s.heap.objs.size=none:=I.hok.fresh (Kp _)
  have fT:FpOk X bE H s.heap.objs.size:=I.fpOk (Kp _) hn
  have neT:s.heap.objs.size≠e:=UC (KF he)
  have hit:it≠s.heap.objs.size:=by
   obtain ⟨o,ho,_⟩:=hi.obj
   exact KW (KF ho)
  have ok:Qw X.prog X.w (upd H s.heap.objs.size (.tup [.int i,x])) h2 s.heap.objs.size (.tup [.int i,x]) :=
   ⟨VA (zB (show 2<=1000 by decide)),[.int i tk,x'],.cons ⟨tk,rfl⟩ (.cons ru .nil),⟨_,k2 _ _ neT ht,rfl,_,rfl⟩⟩
  refine ⟨.ref s.heap.objs.size,upd H s.heap.objs.size (.tup [.int i,x]),I1.track hn fT.2.1 fT.2.2.2.1 fT.2.2.2.2.1 fT.2.2.2.2.2 ok,rfl,⟨_,x,hn,rfl,rfl,λys hy=>by rw [SqB.inj I hy hq];exact hx⟩,⟨⟨x',he2⟩,(back _ _ st').but (Ul n1) k2⟩,λc hc=>?_⟩
  rcases Kr.mp hc with rfl|hc
  ·rw [qO (Ul neT)];exact (hf _ (by simp)).1
  ·have:=Ks.mp hc
   subst this
   rw [qO hit];exact (hf _ (by simp)).1
 done:=by
  intro X hP hw hK hc i bE s σ H E I hf st hg
  subst hP hw hK
  obtain ⟨xs,hq,hx⟩:=hg
  obtain ⟨⟨old,he⟩,hi⟩:=st
  obtain ⟨its,St',rv,n1,n2,st,D,back⟩:=SqB.draws I (I.ok.hd hc) hq he hi
  have hl:=rv.length
  have hi':i=its.length:=by omega
  subst hi'
  obtain ⟨f0,f1,f2,f3,f4,f5⟩:=hf it (by simp)
  exact wpAny_pyNext_enum_endD D he st λh' eb=>⟨rfl,I.turned (t':=s.toks) (λc o hc e=>eb c o hc e) f0 f1 f3 f4 f5⟩
 self:=λ_ _ _ _ _ ⟨⟨old,he⟩,_⟩ h=>wpAny_pyIter_enum he h
theorem qab:bS "enumerate" = some (.type "enumerate"):=by decide +kernel
section
variable {X:Cx}{bE:ag}{σ:St}{H:Hp}{s:Kh}
theorem qgr  {E:ah} {Q:ah} (I:'&') (hq:SqB X.K H b a xs)
  (h:∀ (h':KS) (t':Nat),tnE b (s.heap.objs.size+1) s.heap.objs.size a 0 h'->(∀ c o,s.heap.get? c=some o->h'.get? c=some o)->Q (.ref (s.heap.objs.size+1)) { s with heap:=h',toks:=t' }) :
  bK '*' X.A (call (.type "enumerate") [.ref a]) Q E s:=by
 cases b with
 | true =>
  have hq:SqT X.K H a xs:=hq
  obtain ⟨its,rv,⟨⟨cls,dd,data,sl⟩,g1,g2,n,g3⟩,hz⟩:=I.tuple hq
  simp only at g2 g3
  subst g2 g3
  have hz:(s.heap.push { cls:=.type "tuple_iterator", data:=.fields #[.ref a,.int 0 0] }).objs.size=s.heap.objs.size+1:=by rw [Vo]
  refine callType_new F.called_enumerate (by decide) (F.typeCall_enumerate_1 _) (F.newCall_enumerate_1 _) (λobj=>F.args_object_init_2 obj _) F.entry_enumerate_new (qgs a its.toArray n dd sl) ⟨g1,?_⟩
  refine (id ?_:_/\_)
  rw [hz]
  have he:IsEnum ((s.heap.push { cls:=.type "tuple_iterator", data:=.fields #[.ref a,.int 0 0] }).push { cls:=.type "enumerate", data:=.fields #[.none,.bool false,.ref s.heap.objs.size,cI 0,.none,.none] }) (s.heap.objs.size+1) s.heap.objs.size 0 .none:=by
   have z:=Kx (s.heap.push { cls:=.type "tuple_iterator", data:=.fields #[.ref a,.int 0 0] }) (o:={ cls:=.type "enumerate", data:=.fields #[.none,.bool false,.ref s.heap.objs.size,cI 0,.none,.none] }) rfl
   rw [hz] at z
   exact z
  exact ⟨⟨_,he,rfl⟩,h _ s.toks ⟨⟨_,he⟩,(show Heap.IsTupleIter _ _ _ _ from ⟨_,Ki _ (Kx _ rfl),rfl,rfl⟩)⟩ λc o x=>Ki _ (Ki _ x)⟩
 | false =>
  have hq:SqL X.K H a xs:=hq
  obtain ⟨its,rv,⟨⟨cls,dd,data,sl⟩,n,g1,g2,_,g3⟩,hz⟩:=I.list hq
  simp only at g2 g3
  subst g2 g3
  have hz:(s.heap.push { cls:=.type "list_iterator", data:=.fields #[.ref a,.int 0 0] }).objs.size=s.heap.objs.size+1:=by rw [Vo]
  refine callType_new F.called_enumerate (by decide) (F.typeCall_enumerate_1 _) (F.newCall_enumerate_1 _) (λobj=>F.args_object_init_2 obj _) F.entry_enumerate_new (meets_enumerate_newL a its.toArray n dd sl) ⟨g1,?_⟩
  refine (id ?_:_/\_)
  rw [hz]
  have he:IsEnum ((s.heap.push { cls:=.type "list_iterator", data:=.fields #[.ref a,.int 0 0] }).push { cls:=.type "enumerate", data:=.fields #[.none,.bool false,.ref s.heap.objs.size,cI 0,.none,.none] }) (s.heap.objs.size+1) s.heap.objs.size 0 .none:=by
   have z:=Kx (s.heap.push { cls:=.type "list_iterator", data:=.fields #[.ref a,.int 0 0] }) (o:={ cls:=.type "enumerate", data:=.fields #[.none,.bool false,.ref s.heap.objs.size,cI 0,.none,.none] }) rfl
   rw [hz] at z
   exact z
  exact ⟨⟨_,he,rfl⟩,h _ s.toks ⟨⟨_,he⟩,(show Heap.IsListIter _ _ _ _ from ⟨_,Ki _ (Kx _ rfl),rfl,rfl⟩)⟩ λc o x=>Ki _ (Ki _ x)⟩
end
def iEnum (K:Kb)(ta:TA):TI:=λσ H R=>ta σ H λvs H1=>∃ a b xs,vs=[.ref a]/\SqB K H1 b a xs/\R (Iten K b a) H1
section
variable {X:Cx}{M:aq}{a:KB}{es:aJ}{f:aa}{pos:Pos}
theorem qkL   (hg:Gl X "enumerate") (hm:X.mg "enumerate" = none) (ha:PA X [a] ta) (hs:bG [a] X.env=[(false,eval a X.env)]:=by rfl):PI X (.Tuple ts kk tp) (.Call (.Name "enumerate" p) [a] [] pos) (iEnum X.K ta):=by
 intro bE s σ H R I h
 refine Call_ (YC I hg hm qab (Uy (thn (ha pos bE s σ H _ I h) λus s1 ⟨vs,H1,I1,r1,q1⟩=>?_) hs rfl) (by decide +kernel) (by decide +kernel))
 obtain ⟨p',b,xs,e,hq,q⟩:=q1
 subst e
 obtain ⟨u,rfl,ru⟩:=r1.one
 cases ru
 refine qgr I1 hq λh' t' tn k=>wpAny_pyIter_enum tn.1.choose_spec ?_
 have I2:Inv X bE σ H1 { s1 with heap:=h',toks:=t' }:=I1.kept (t':=t') k
 refine ⟨_,[s1.heap.objs.size+1,s1.heap.objs.size],tnE b (s1.heap.objs.size+1) s1.heap.objs.size p',Iten X.K b p',H1,rfl,I2,qhc b p' _ _,tn,λc hc=>?_,q⟩
 rcases Kr.mp hc with rfl|hc
 ·exact I1.fpOk (UL _) (I1.hok.fresh (UL _))
 ·have:=Ks.mp hc
  subst this
  exact I1.fpOk (Kp _) (I1.hok.fresh (Kp _))
def enL:Nat->List Ka->List Ka
 | _,[]=>[]
 | n,d::ds=>.tuple [.int (n:Nat),d]::enL (n+1) ds
theorem Yw:∀ (n:Nat) (ds:ae),(enL n ds).length=ds.length
 | _,[]=>rfl
 | n,_::ds=>by rw [enL,Kw,Kw,Yw]
theorem qfu:∀ (n i:Nat) (ds:ae) (d:Ka),(enL n ds)[i]?=some d->∃ e,ds[i]?=some e/\d=.tuple [.int ((n+i:Nat)),e]
 | _,_,[],_,h=>by simp [enL] at h
 | n,0,e::ds,d,h=>by simp [enL] at h;subst h;exact ⟨e,rfl,rfl⟩
 | n,i+1,e::ds,d,h=>by
  obtain ⟨e',h1,h2⟩:=qfu (n+1) i ds d (by simpa [enL] using h)
  refine ⟨e',by simpa using h1,?_⟩
  rw [h2]
  congr 3
  congr 1
  omega
theorem SqB.same {K:Kb}{H H':Hp}{b:Bool}{l:Ke}{xs:List V}(e:Same H H')(h:SqB K H b l xs):SqB K H' b l xs:=by
 cases b with
 | true=>exact e.sqT h
 | false=>exact e.seq h
theorem IsIt.enum {K:Kb}{H:Hp}{S:Av}{b:Bool}{l:Ke}{xs:List V}{ds:ae}(h:SqB K H b l xs)(t:DenL K H S xs ds):IsIt K S (Iten K b l) H (enL 0 ds) where
 go:=λi H' e hi=>by
  rw [Yw] at hi
  have hi':i<xs.length:=by rw [t.length];exact hi
  exact ⟨xs,xs[i],h.same e,Kk hi'⟩
 yld:=λi H' x H2 e ⟨p,y,hp,ex,e2,q⟩=>by
  subst ex e2
  refine ⟨Same.lay hp,λd hd S' w=>?_⟩
  obtain ⟨de,h1,rfl⟩:=qfu 0 i ds d hd
  obtain ⟨v,h2,h3⟩:=t.get h1
  have:=q xs (h.same e)
  rw [h2] at this
  cases this
  rw [Ew]
  exact .tuple (SqT.of qU) (.cons (.int _) (.cons (w _ _ h3) .nil))
 stop:=λH' e=>⟨xs,h.same e,by rw [Yw,t.length]⟩
def qdo:Ka->Option (List Ka)
 | .list ds=>some (enL 0 ds)
 | .tuple ds=>some (enL 0 ds)
 | _=>none
theorem qix  (hg:Gl X "enumerate") (hm:X.mg "enumerate" = none) (ha:PD X M a f) (hs:bG [a] X.env=[(false,eval a X.env)]:=by rfl):PDI X M (.Tuple ts kk tp) (.Call (.Name "enumerate" p) [a] [] pos) (evI f qdo) :=
 (qkL hg hm (qT ha zV hs) hs).weak λσ H R ⟨S,ρ,ds,hs,e,w⟩=>by
  obtain ⟨x,e1,e⟩:=qd e
  refine ⟨S,ρ,[x],hs,by show ob (f ρ) _=_;rw [e1];rfl,λvs H1 g1 dl=>?_⟩
  obtain ⟨v,rfl,dv⟩:=dl.inv1
  cases dv with
  | list h t=>cases e;exact ⟨_,false,_,rfl,h.sq,w _ _ g1 λH2 o=>IsIt.enum (b:=false) (h.off o).sq (t.off (hs.1.same g1) o)⟩
  | tuple h t=>cases e;exact ⟨_,true,_,rfl,h,w _ _ g1 λH2 o=>IsIt.enum (b:=true) (h.off (hs.1.same g1) o) (t.off (hs.1.same g1) o)⟩
  | _=>cases e
theorem qjP (ds:ae):qdo (.list ds)=some (enL 0 ds):=rfl
theorem qjQ (ds:ae):qdo (.tuple ds)=some (enL 0 ds):=rfl
theorem enL_n (n:Nat):enL n []=[]:=rfl
theorem enL_c (n:Nat)(d:Ka)(ds:ae):enL n (d::ds)=.tuple [.int (n:Nat),d]::enL (n+1) ds:=rfl
def qfj (o:Option Rho)(k:Nat)(g:af)(tt:aj)(te:aa)(ρ:Rho)(ds:ae):Option (List Ka):=match o with
 | some ρ1=>(match tt ρ1 with | some true=>Yq (te ρ1) (QM k g tt te ρ ds)|some false=>QM k g tt te ρ ds|none=>none)
 | none=>none
theorem qfq (k:Nat)(g:af)(tt:aj)(te:aa)(ρ:Rho)(d:Ka)(ds:ae):QM k g tt te ρ (d::ds)=qfj (g d (ρ++Vt k none)) k g tt te ρ ds:=by
 rw [QM]
 unfold ob qfj Yq
 cases g d (ρ++Vt k none) with
 | none=>rfl
 | some ρ1 =>
  dsimp only
  cases tt ρ1 with
  | none=>rfl
  | some b =>
   cases b with
   | false=>rfl
   | true=>cases te ρ1<;>cases QM k g tt te ρ ds<;>rfl
theorem qjH (k:Nat)(g:af)(tt:aj)(te:aa)(ρ:Rho):QM k g tt te ρ []=some []:=rfl
def qdj (b:Option Bool)(y:aD)(r:aQ):Option (List Ka):=match b with | some true=>Yq y r|some false=>r|none=>none
theorem qfk (ρ1:Rho)(k:Nat)(g:af)(tt:aj)(te:aa)(ρ:Rho)(ds:ae):qfj (some ρ1) k g tt te ρ ds=qdj (tt ρ1) (te ρ1) (QM k g tt te ρ ds):=by
 unfold qfj qdj
 rfl
theorem qfi (y:aD)(r:aQ):qdj (some true) y r=Yq y r:=rfl
theorem qjD (y:aD)(r:aQ):qdj (some false) y r=r:=rfl
def qhx (a:aQ)(n k:Nat)(g:af)(tt:aj)(te:aa)(ρ:Rho):Option Ka:=match a with | some ds=>if ρ.length=n/\ds.length<=1000 then qa0 (QM k g tt te ρ ds) else none|none=>none
theorem qjF (n k:Nat)(fi:ab)(g:af)(tt:aj)(te:aa)(ρ:Rho):jh n k fi g tt te ρ=qhx (fi ρ) n k g tt te ρ:=by
 unfold jh ob qhx qa0
 cases fi ρ with
 | none=>rfl
 | some ds =>
  dsimp only
  split
  ·cases QM k g tt te ρ ds<;>rfl
  ·rfl
theorem qjB (ds:ae)(n k:Nat)(g:af)(tt:aj)(te:aa)(ρ:Rho):qhx (some ds) n k g tt te ρ=if ρ.length=n/\ds.length<=1000 then qa0 (QM k g tt te ρ ds) else none:=rfl
end
def k1Of:Ka->Option (Int ⊕ List Int)
 | .int i=>some (.inl i)
 | .tuple ds=>ob (intsOf ds) λjs=>some (.inr js)
 | _=>none
def qhW:List Ka->Option K2
 | []=>some []
 | d::ds=>ob (k1Of d) λk=>ob (qhW ds) λks=>some (k::ks)
def k2Of:Ka->Option K2
 | .tuple ds=>qhW ds
 | _=>none
theorem qgz (e:k1Of d=some k):d=k2D k:=by
 unfold k1Of at e
 split at e
 ·cases e;rfl
 ·obtain ⟨js,e1,e⟩:=qd e
  cases e
  rw [W7 e1];rfl
 ·cases e
theorem qaO:∀ {ds:ae} {ks:K2},qhW ds=some ks->ds=ks.map k2D
 | [],_,e=>by cases e;rfl
 | d::ds,_,e=>by
  obtain ⟨k,e1,e⟩:=qd e
  obtain ⟨ks,e2,e⟩:=qd e
  cases e
  rw [qgz e1,qaO e2];rfl
theorem qgA (e:k2Of d=some ks):d=k2T ks:=by
 unfold k2Of at e
 split at e
 ·rw [qaO e];rfl
 ·cases e
def kxOf:Ka->Option KX
 | .int i=>some (.inl i)
 | d=>ob (k2Of d) λks=>some (.inr ks)
theorem Yg (e:kxOf d=some k):d=kxD k:=by
 unfold kxOf at e
 split at e
 ·cases e;rfl
 ·obtain ⟨ks,e1,e⟩:=qd e
  cases e
  exact qgA e1
def kOk (kvs:List (Ka×PyData))(k:KX):Bool:=kvs.all λp=>qhT p.1==kxI k
theorem qdD:∀ js:List Int,Kq (js.map .int)=true
 | []=>rfl
 | j::js=>by rw [Ku,Kq,KP,qdD js];rfl
theorem qeB:∀ ks:K2,Kq (ks.map k2D)=true
 | []=>rfl
 | .inl i::ks=>by rw [Ku,Kq,qeB ks];rfl
 | .inr js::ks=>by
  rw [Ku,Kq,qeB ks]
  show (KP (.tuple (js.map .int))&&true)=true
  rw [KP,qdD];rfl
theorem qfD (ks:K2):(k2T ks).canLay0=true:=by unfold k2T;rw [KP];exact qeB ks
theorem qkb (c:Str)(z:Int)(d:Ka)(ks:KX):kOk [(.str c,d),(.int z,.none)] ks=false:=by
 cases ks with
 | inl i=>rfl
 | inr k=>rfl
theorem JK {α β:Type}{a:Option β}{g:β->KX}{F:β->Option α}{c:Str}{z:Int}{d:Ka}{r:α}(e:(ob a λks=>if kOk [(.str c,d),(.int z,.none)] (g ks)=true then F ks else none)=some r):False:=by
 obtain ⟨ks,_,e⟩:=qd e
 rw [qkb] at e
 cases e
def zF (kvs:List (Ka×PyData))(ks:KX):Option Ka:=(kvs.find? λp=>Kv p.1 (kxD ks)).map (·.2)
def putD (kvs:List (Ka×PyData))(ks:KX)(v:Ka):List (Ka×PyData) :=
 if (zF kvs ks).isSome=true then kvs.map (λp=>if Kv p.1 (kxD ks)=true then (p.1,v) else p) else kvs++[(kxD ks,v)]
def putV (kvs:'4')(ks:KX)(b:Ke)(v:V):List (KX×Addr×V) :=
 if (kvs.any λp=>decide (p.1=ks))=true then kvs.map (λp=>if p.1=ks then (p.1,p.2.1,v) else p) else kvs++[(ks,b,v)]
section
variable {K:Kb}{H:Hp}{S:Av}
theorem Ju (p:KX×Addr×V)(kvs:'4')(d:Ka)(ds:ae):dkv (p::kvs) (d::ds)=(kxD p.1,d)::dkv kvs ds:=rfl
theorem Wx  (e:k=ks):zF ((kxD k,d)::kvs) ks=some d:=by
 unfold zF
 rw [V2,qcq,bF e];rfl
theorem Ww  (e:k≠ks):zF ((kxD k,d)::kvs) ks=zF kvs ks:=by
 unfold zF
 rw [V2,qcq,bH e]
theorem YL {α β:Type}{R:α->β->Prop}{a:α}{b:β}:∀ {as:List α} {bs:List β},VP R as bs->R a b->VP R (as++[a]) (bs++[b])
 | _,_,.nil,h=>.cons h .nil
 | _,_,.cons h t,q=>.cons h (YL t q)
theorem qf9  (dv:Den K H S v d):∀ {kvs:'4'} {ds:ae},DenL K H S (kvs.map (·.2.2)) ds->∃ ds',DenL K H S ((kvs.map λp=>if p.1=ks then (p.1,p.2.1,v) else p).map (·.2.2)) ds'/\dkv (kvs.map λp=>if p.1=ks then (p.1,p.2.1,v) else p) ds'=(dkv kvs ds).map (λp=>if Kv p.1 (kxD ks)=true then (p.1,d) else p)
 | [],_,t=>by cases t;exact ⟨[],.nil,rfl⟩
 | p::kvs,_,t=>by
  cases t with
  | @cons _ d0 _ ds dv0 t' =>
   obtain ⟨ds',h1,h2⟩:=qf9 dv t'
   rw [Ku,Ku,Ju,Ku,qcq]
   by_cases e:p.1=ks
   ·refine ⟨d::ds',?_,?_⟩
    ·rw [bI e];exact .cons dv h1
    ·rw [bI e,Ju,h2,bI (bF e)]
   ·refine ⟨d0::ds',?_,?_⟩
    ·rw [bJ e];exact .cons dv0 h1
    ·rw [bJ e,Ju,h2,bJ (λz=>e (bN z))]
theorem qhG {kvs:'4'}{ds:ae}(hl:kvs.length=ds.length)(p:KX×Addr×V)(d:Ka):dkv (kvs++[p]) (ds++[d])=dkv kvs ds++[(kxD p.1,d)]:=by
 unfold dkv
 rw [Kz,List.zip_append (by rw [Kf,hl])]
 rfl
theorem qiY {b:Ke}  {kvs:'4'} (t:DenL K H S (kvs.map (·.2.2)) ds) (dv:Den K H S v d) (he:(kvs.any λp=>decide (p.1=ks))=(zF (dkv kvs ds) ks).isSome) :
  ∃ ds',DenL K H S ((putV kvs ks b v).map (·.2.2)) ds'/\dkv (putV kvs ks b v) ds'=putD (dkv kvs ds) ks d:=by
 have hl:kvs.length=ds.length:=by
  have:=t.length
  rwa [Kf] at this
 unfold putV putD
 rw [he]
 split
 ·exact qf9 dv t
 ·refine ⟨ds++[d],?_,qhG hl _ _⟩
  rw [Kz]
  exact t.append (.cons dv .nil)
theorem qiV  {kvs:'4'} (k:DenL K H S (kvs.map λp=>kxV p.1 p.2.1) (kvs.map λp=>kxD p.1)) (dk:Den K H S (kxV ks b) (kxD ks)):DenL K H S ((putV kvs ks b v).map λp=>kxV p.1 p.2.1) ((putV kvs ks b v).map λp=>kxD p.1):=by
 unfold putV
 split
 ·have e1:(kvs.map λp=>if p.1=ks then (p.1,p.2.1,v) else p).map (λp=>kxV p.1 p.2.1)=kvs.map λp=>kxV p.1 p.2.1:=by
   rw [Vj]
   refine V8 λp _=>?_
   show kxV (if p.1=ks then (p.1,p.2.1,v) else p).1 (if p.1=ks then (p.1,p.2.1,v) else p).2.1=_
   split<;>rfl
  have e2:(kvs.map λp=>if p.1=ks then (p.1,p.2.1,v) else p).map (λp=>kxD p.1)=kvs.map λp=>kxD p.1:=by
   rw [Vj]
   refine V8 λp _=>?_
   show kxD (if p.1=ks then (p.1,p.2.1,v) else p).1=_
   split<;>rfl
  rw [e1,e2];exact k
 ·rw [Kz,Kz]
  exact k.append (.cons dk .nil)
end
section
variable {K:Kb}{H:Hp}{S:Av}
theorem wV {kvs:'4'}{ds:ae}(hl:kvs.length=ds.length)(h:kOk (dkv kvs ds) k=true):∀ p∈kvs,kxI p.1=kxI k:=by
 intro p hp
 have hm:kxD p.1∈(dkv kvs ds).map (·.1):=by rw [qhF hl];exact K3.mpr ⟨p,hp,rfl⟩
 obtain ⟨q,hq,e⟩:=K3.mp hm
 have:=Vg.mp h q hq
 rw [e,qez] at this
 simpa using this
theorem Yd (ks:K2):∀ {kvs:'4'} {xs:aZ} {ds:ae},VP PkT kvs xs->DenL K H S (kvs.map (·.2.2)) ds->
  (zF (dkv kvs ds) (.inr ks)=none/\atKey xs ks=none/\(kvs.any λp=>decide (p.1=.inr ks))=false)\/∃ d b y u,zF (dkv kvs ds) (.inr ks)=some d/\atKey xs ks=some (b,u)/\RelV y u/\Den K H S y d/\(kvs.any λp=>decide (p.1=.inr ks))=true:=by
 intro kvs
 induction kvs with
 | nil =>
  intro _ _ r t
  cases r
  cases t
  exact .inl ⟨rfl,rfl,rfl⟩
 | cons p kvs ih =>
  intro _ _ r t
  cases r with
  | @cons _ q _ qs h r' =>
   cases t with
   | @cons _ d _ ds dv t' =>
    rw [Ju]
    by_cases e:p.1=.inr ks
    ·refine .inr ⟨d,q.2.1,p.2.2,q.2.2,Wx e,?_,h.2.2,dv,by rw [UR,bF e,NK]⟩
     unfold atKey
     have eq:q.1=ks:=Sum.inr.inj (h.1.symm.trans e)
     rw [V2,bF eq];rfl
    ·have e':¬ q.1=ks:=λz=>e (by rw [h.1,z])
     have ea:atKey (q::qs) ks=atKey qs ks:=by
      unfold atKey
      rw [V2,bH e']
     rw [Ww e,ea,UR,bH e,XJ]
     exact ih r' t'
theorem Wz (i:Int):∀ {kvs:'4'} {vs:aW} {ds:ae},VP PkI kvs vs->DenL K H S (kvs.map (·.2.2)) ds->
  (zF (dkv kvs ds) (.inl i)=none/\valueAt vs i=none/\(kvs.any λp=>decide (p.1=.inl i))=false)\/∃ d y u,zF (dkv kvs ds) (.inl i)=some d/\valueAt vs i=some u/\RelV y u/\Den K H S y d/\(kvs.any λp=>decide (p.1=.inl i))=true:=by
 intro kvs
 induction kvs with
 | nil =>
  intro _ _ r t
  cases r
  cases t
  exact .inl ⟨rfl,rfl,rfl⟩
 | cons p kvs ih =>
  intro _ _ r t
  cases r with
  | @cons _ q _ qs h r' =>
   cases t with
   | @cons _ d _ ds dv t' =>
    rw [Ju]
    by_cases e:p.1=.inl i
    ·refine .inr ⟨d,p.2.2,q.2,Wx e,?_,h.2,dv,by rw [UR,bF e,NK]⟩
     unfold valueAt
     have eq:q.1=i:=Sum.inl.inj (h.1.symm.trans e)
     rw [V2,bF eq];rfl
    ·have e':¬ q.1=i:=λz=>e (by rw [h.1,z])
     have ea:valueAt (q::qs) i=valueAt qs i:=by
      unfold valueAt
      rw [V2,bH e']
     rw [Ww e,ea,UR,bH e,XJ]
     exact ih r' t'
theorem qbn  (rv:RelV v u):∀ {kvs:'4'} {xs:aZ},VP PkT kvs xs->VP PkT (kvs.map λp=>if p.1=.inr ks then (p.1,p.2.1,v) else p) (xs.map (putAt ks u))
 | [],_,r=>by cases r;exact .nil
 | p::kvs,_,r=>by
  cases r with
  | @cons _ q _ qs h r' =>
   rw [Ku,Ku]
   refine .cons ?_ (qbn rv r')
   unfold putAt
   by_cases e:p.1=.inr ks
   ·have eq:q.1=ks:=Sum.inr.inj (h.1.symm.trans e)
    rw [bI e,bI eq];exact ⟨h.1,h.2.1,rv⟩
   ·rw [bJ e,bJ (λz=>e (by rw [h.1,z]))];exact h
theorem qiX {ks:K2}{b:Ke}{v:V}{u:Kc}{kvs:'4'}{xs:aZ}(r:VP PkT kvs xs)(rv:RelV v u)(he:(kvs.any λp=>decide (p.1=.inr ks))=(atKey xs ks).isSome):VP PkT (putV kvs (.inr ks) b v) (storedH xs ks b u):=by
 unfold putV storedH
 rw [he]
 split
 ·exact qbn rv r
 ·exact YL r ⟨rfl,rfl,rv⟩
theorem qbm  (rv:RelV v u):∀ {kvs:'4'} {xs:aW},VP PkI kvs xs->VP PkI (kvs.map λp=>if p.1=.inl i then (p.1,p.2.1,v) else p) (xs.map λq=>if q.1=i then (q.1,u) else q)
 | [],_,r=>by cases r;exact .nil
 | p::kvs,_,r=>by
  cases r with
  | @cons _ q _ qs h r' =>
   rw [Ku,Ku]
   refine .cons ?_ (qbm rv r')
   by_cases e:p.1=.inl i
   ·have eq:q.1=i:=Sum.inl.inj (h.1.symm.trans e)
    rw [bI e,bI eq];exact ⟨h.1,rv⟩
   ·rw [bJ e,bJ (λz=>e (by rw [h.1,z]))];exact h
theorem qfd (i:Int):∀ {kvs:'4'} {xs:aW},VP PkI kvs xs->(kvs.any λp=>decide (p.1=.inl i))=xs.any λq=>decide (q.1=i)
 | _,_,.nil=>rfl
 | _,_,@Paired.cons _ _ _ p q _ _ h t=>by
  rw [UR,UR,qfd i t]
  by_cases e:p.1=.inl i
  ·rw [bF e,bF (Sum.inl.inj (h.1.symm.trans e):q.1=i)]
  ·rw [bH e,bH (λz=>e (by rw [h.1,z]):¬ q.1=i)]
theorem qiW {i:Int}{b:Ke}{v:V}{u:Kc}{kvs:'4'}{xs:aW}(r:VP PkI kvs xs)(rv:RelV v u):VP PkI (putV kvs (.inl i) b v) (stored xs i u):=by
 unfold putV stored
 rw [qfd i r]
 split
 ·exact qbm rv r
 ·exact YL r ⟨rfl,rv⟩
end
section
variable {X:Cx}{bE:ag}{σ:St}{H:Hp}{s:Kh}{S:Av}
theorem qfF (I:'&'):∀ {kvs:'4'} {xs:aZ},VP PkT kvs xs->DenL X.K H S (kvs.map λp=>kxV p.1 p.2.1) (kvs.map λp=>kxD p.1)->∀ x∈xs,Is2 s.heap x.1 x.2.1
 | _,_,.nil,_,x,hx=>by cases hx
 | _,_,@Paired.cons _ _ _ p q kvs qs h t,k,x,hx=>by
  cases k with
  | cons dk k' =>
   have dk:Den X.K H S (kxV p.1 p.2.1) (kxD p.1):=dk
   rcases Kr.mp hx with rfl|hx
   ·rw [h.1] at dk
    obtain ⟨as,r⟩:=Den.reads I dk (qfD _) (u:=Vd x.2.1) (by rw [h.2.1];rfl)
    exact ⟨as,r⟩
   ·exact qfF I t k' x hx
theorem qak (I:'&'){kvs:'4'}(h:H a=some (DctO a kvs ep))(k:DenL X.K H S (kvs.map λp=>kxV p.1 p.2.1) (kvs.map λp=>kxD p.1))(hk:∀ p∈kvs,kxI p.1=false) :
  kvs.length<=bM/\(a==cB)=false/\∃ xs:List (K2×Addr×Value),VP PkT kvs xs/\s.heap.DictOfH (qdN X.prog X.w) a xs:=by
 have d:=QJ.of (I.hok a _ h)
 obtain ⟨xs,pk,o,es,h1,h2,h3,h4,h5⟩:=d.tup hk
 exact ⟨d.1,d.2.1,xs,pk,o,es,ep,h1,h2,h3,h4,qfF I pk k,h5⟩
theorem qd2:∀ {es:List Xp} {vs:aW},VP EnI es vs->Pairs (cP P w) es vs
 | _,_,.nil=>.nil
 | _,_,.cons h t=>by
  obtain ⟨_,⟨tk,h2⟩,h3⟩:=h
  exact .cons (by rw [h2];exact X7 P w _ tk) h3 (qd2 t)
theorem qgF {es:Array Xp}(h:VP EnI es.toList vs):PySem.KeysOf (cP P w) es:=by
 intro e he
 have he:e∈es.toList:=XG.mpr he
 generalize es.toList=l at h he
 induction h with
 | nil=>cases he
 | @cons a b as bs h t ih =>
  rcases Kr.mp he with rfl|he
  ·obtain ⟨h1,⟨tk,h2⟩,_⟩:=h
   exact ⟨b.1,by rw [h2];exact X7 P w _ tk,h1⟩
  ·exact ih he
theorem YG:∀ {es:List Xp} {vs:aW},Pairs (cP P w) es vs->(∀ e∈es,∃ k,(cP P w).is k e.key=true/\e.hash=(cP P w).hash k)->VP EnI es vs
 | _,_,.nil,_=>.nil
 | _,_,.cons h1 h2 t,hk=>by
  refine .cons ?_ (YG t λe he=>hk e (.tail _ he))
  obtain ⟨k,g1,g2⟩:=hk _ (.head _)
  obtain ⟨tk,e⟩:=Value.isInt_shape h1
  have hkk:=(cP P w).inj _ _ _ g1 h1
  exact ⟨by rw [g2,hkk];rfl,⟨tk,e⟩,h2⟩
theorem wM (I:'&')  (h:H a=some (DctO a kvs ep)) (hk:∀ p∈kvs,kxI p.1=true) :
  kvs.length<=bM/\(a==cB)=false/\∃ vs:List (Int×Value),VP PkI kvs vs/\s.heap.DictOf (cP X.prog X.w) a vs:=by
 have d:=QJ.of (I.hok a _ h)
 obtain ⟨vs,pk,o,es,h1,h2,h3,h4,h5⟩:=d.int hk
 exact ⟨d.1,d.2.1,vs,pk,o,es,ep,h1,h2,h3,qgF h4,qd2 h4,h5⟩
theorem key_is (I:'&')  (d:Den X.K H S y (k2T ks)) (r:RelV y u):∃ b,y=.ref b/\u=.ref b/\Is2 s.heap ks b:=by
 obtain ⟨a,xs,e,_,_⟩:=d.tuple_inv
 subst e
 cases (show u=Vd a from r)
 obtain ⟨as,q⟩:=d.reads I (qfD ks) (u:=.ref a) rfl
 exact ⟨a,rfl,rfl,as,q⟩
theorem wX  (d:Den X.K H S y (.int i)) (r:RelV y u):y=.int i/\∃ t,u=.int i t:=by
 cases d
 exact ⟨rfl,r⟩
end
def dgetD (d k:Ka):Option Ka:=match d with
 | .dict kvs=>ob (kxOf k) λks=>if kOk kvs ks=true then zF kvs ks else none
 | _=>none
def ix2D (d k:Ka):Option Ka:=match d with
 | .dict kvs=>dgetD (.dict kvs) k
 | d=>ixD d k
def in2D (k d:Ka):Option Ka:=match d with
 | .dict kvs=>ob (kxOf k) λks=>if kOk kvs ks=true then some (.bool (zF kvs ks).isSome) else none
 | d=>inD k d
def qfR (k d:Ka):Option Ka:=match d with
 | .dict kvs=>ob (kxOf k) λks=>if kOk kvs ks=true then some (.bool (!(zF kvs ks).isSome)) else none
 | d=>ninD k d
def wO (d k v:Ka):Option Ka:=match d with
 | .dict kvs=>ob (kxOf k) λks=>if kOk kvs ks=true/\kvs.length<1000 then some (.dict (putD kvs ks v)) else none
 | _=>none
section
variable {X:Cx}{bE:ag}{σ:St}{H:Hp}{s:Kh}{S:Av}{A:K0}{E:ah}{a:Ke}{kvs:'4'}{ep:Nat}{ds:ae}{ks:KX}{y x v:V}{u r:Kc}{d dx:Ka}
theorem qgb {A:K0}(hu:A.units+64<cg):A.in1.units+3<cg:=by show A.units+1+3<cg;omega
theorem qhC (I:'&')(h:H a=some (DctO a kvs ep)):s.TypeIs (.ref a) "dict"/\∃ o,s.heap.get? a=some o/\o.dict=none:=by
 obtain ⟨o,es,h1,h2,_⟩:=(QJ.of (I.hok a _ h)).vals
 exact ⟨⟨o,h1,h2.1⟩,o,h1,h2.2.1⟩
theorem qjL {Q:ah}(hu:A.units+64<cg)(I:'&')(h:H a=some (DctO a kvs ep))(k:DenL X.K H S (kvs.map λp=>kxV p.1 p.2.1) (kvs.map λp=>kxD p.1))(t:DenL X.K H S (kvs.map (·.2.2)) ds)(hk:∀ p∈kvs,kxI p.1=kxI ks)
  (dy:Den X.K H S y (kxD ks)) (ry:RelV y u) (e:zF (dkv kvs ds) ks=some d) (q:∀ v w' s',Inv X bE σ H s'->RelV v w'->Den X.K H S v d->Q w' s'):bK '*' A (getItem (.ref a) u) Q E s:=by
 cases ks with
 | inr ks =>
  obtain ⟨z,hs,xs,pk,dd⟩:=qak I h k hk
  obtain ⟨b,rfl,rfl,hk⟩:=key_is I dy ry
  rcases Yd ks pk t with ⟨e1,_,_⟩|⟨d',b',v,w',e1,e2,rv,dv,_⟩
  ·rw [e] at e1;cases e1
  ·rw [e] at e1
   cases e1
   exact wpAny_getItem_heap (knd:=qdN X.prog X.w) (qgb hu) hk dd e2 (q v w' _ (I.tok _) rv dv)
 | inl i =>
  obtain ⟨z,hs,vs,pk,dd⟩:=wM I h hk
  obtain ⟨rfl,t',rfl⟩:=wX dy ry
  rcases Wz i pk t with ⟨e1,_,_⟩|⟨d',v,w',e1,e2,rv,dv,_⟩
  ·rw [e] at e1;cases e1
  ·rw [e] at e1
   cases e1
   exact wpAny_getItem_of (X7 _ _ i t') dd.mapOf e2 (q v w' _ (I.tok _) rv dv)
theorem dg_in {Q:ah}(hu:A.units+64<cg)(I:'&')(h:H a=some (DctO a kvs ep))(k:DenL X.K H S (kvs.map λp=>kxV p.1 p.2.1) (kvs.map λp=>kxD p.1))(t:DenL X.K H S (kvs.map (·.2.2)) ds)(hk:∀ p∈kvs,kxI p.1=kxI ks)
  (dy:Den X.K H S y (kxD ks)) (ry:RelV y u) (q:∀ s',Inv X bE σ H s'->Q (.bool (zF (dkv kvs ds) ks).isSome) s'):bK '*' A (bQ .In u (.ref a)) Q E s:=by
 cases ks with
 | inr ks =>
  obtain ⟨z,hs,xs,pk,dd⟩:=qak I h k hk
  obtain ⟨b,rfl,rfl,hk⟩:=key_is I dy ry
  refine wpAny_in_heap (knd:=qdN X.prog X.w) (qgb hu) hk hs dd ?_
  rcases Yd ks pk t with ⟨e1,e2,_⟩|⟨d',b',v,w',e1,e2,rv,dv,_⟩
  ·rw [e1] at q;rw [e2];exact q _ (I.tok _)
  ·rw [e1] at q;rw [e2];exact q _ (I.tok _)
 | inl i =>
  obtain ⟨z,hs,vs,pk,dd⟩:=wM I h hk
  obtain ⟨rfl,t',rfl⟩:=wX dy ry
  refine wpAny_in_of (X7 _ _ i t') hs dd.mapOf ?_
  rcases Wz i pk t with ⟨e1,e2,_⟩|⟨d',v,w',e1,e2,rv,dv,_⟩
  ·rw [e1] at q;rw [e2];exact q _ (I.tok _)
  ·rw [e1] at q;rw [e2];exact q _ (I.tok _)
theorem qhE {Q:ah}(hu:A.units+64<cg)(I:'&')(h:H a=some (DctO a kvs ep))(k:DenL X.K H S (kvs.map λp=>kxV p.1 p.2.1) (kvs.map λp=>kxD p.1))(t:DenL X.K H S (kvs.map (·.2.2)) ds)(hk:∀ p∈kvs,kxI p.1=kxI ks)
  (dy:Den X.K H S y (kxD ks)) (ry:RelV y u) (q:∀ s',Inv X bE σ H s'->Q (.bool (!(zF (dkv kvs ds) ks).isSome)) s'):bK '*' A (bQ .NotIn u (.ref a)) Q E s:=by
 cases ks with
 | inr ks =>
  obtain ⟨z,hs,xs,pk,dd⟩:=qak I h k hk
  obtain ⟨b,rfl,rfl,hk⟩:=key_is I dy ry
  refine wpAny_notIn_heap (knd:=qdN X.prog X.w) (qgb hu) hk hs dd ?_
  rcases Yd ks pk t with ⟨e1,e2,_⟩|⟨d',b',v,w',e1,e2,rv,dv,_⟩
  ·rw [e1] at q;rw [e2];exact q _ (I.tok _)
  ·rw [e1] at q;rw [e2];exact q _ (I.tok _)
 | inl i =>
  obtain ⟨z,hs,vs,pk,dd⟩:=wM I h hk
  obtain ⟨rfl,t',rfl⟩:=wX dy ry
  refine wpAny_notIn_of (X7 _ _ i t') hs dd.mapOf ?_
  rcases Wz i pk t with ⟨e1,e2,_⟩|⟨d',v,w',e1,e2,rv,dv,_⟩
  ·rw [e1] at q;rw [e2];exact q _ (I.tok _)
  ·rw [e1] at q;rw [e2];exact q _ (I.tok _)
def qm2 (K:Kb):TSet:=λo i v H Q=>∃ S p kvs ep ks ds d,o=.ref p/\H p=some (DctO p kvs ep)/\DenL K H S (kvs.map λp=>kxV p.1 p.2.1) (kvs.map λp=>kxD p.1)/\DenL K H S (kvs.map (·.2.2)) ds/\(∀ p∈kvs,kxI p.1=kxI ks)/\Den K H S i (kxD ks)/\Den K H S v d/\kvs.length<1000/\∀ b ep',i=kxV ks b->Q (upd H p (DctO p (putV kvs ks b v) ep'))
theorem qee (kvs:'4')(ks:KX)(b:Ke)(v:V):(putV kvs ks b v).length<=kvs.length+1:=by
 unfold putV
 split
 ·rw [Kf];omega
 ·rw [Kj,Kt];omega
theorem set_dict (hu:X.A.units+64<cg):PSet X (qm2 X.K):=by
 intro bE s σ H o i v ov iv u Q I ro ri rv h
 obtain ⟨S,p,kvs,ep,ks,ds,d,rfl,hp,k,t,hk,di,dv,hz,q⟩:=h
 cases ro
 have z1000:1000<bM:=zB (Kp _)
 cases ks with
 | inr ks =>
  obtain ⟨z,hs,xs,pk,dd⟩:=qak I hp k hk
  obtain ⟨b,rfl,rfl,hk⟩:=key_is I di ri
  have hxl:xs.length<=bM:=by rw [← Paired.length pk];exact z
  have he:(kvs.any λp=>decide (p.1=.inr ks))=(atKey xs ks).isSome:=by
   rcases Yd ks pk t with ⟨_,e2,e3⟩|⟨_,_,_,_,_,e2,_,_,e3⟩
   ·rw [e2,e3];rfl
   ·rw [e2,e3];rfl
  refine wpAny_setItem_heap (knd:=qdN X.prog X.w) (hsz:=hxl) (qgb hu) hk dd λh' dd' hs'=>?_
  obtain ⟨o,es,ep',g1,g2,g3,g4,_,g5⟩:=dd'
  have dct:QJ p (putV kvs (.inr ks) b v) ep' h':=⟨by have:=qee kvs (.inr ks) b v;omega,hs,.inl ⟨_,qiX pk rv he,o,es,g1,g2,g3,g4,g5⟩⟩
  exact ⟨_,I.write (x:=p) (e:=p) (by rw [hp];exact Us) (.inl rfl) (λc o' hc e=>(hs'.2 c hc).trans e) ⟨o,g1⟩ dct.ok,q b ep' rfl⟩
 | inl i =>
  obtain ⟨z,hs,vs,pk,dd⟩:=wM I hp hk
  obtain ⟨rfl,t',rfl⟩:=wX di ri
  have hxl:vs.length<=bM:=by rw [← Paired.length pk];exact z
  refine wpAny_setItem_pairs (hsz:=hxl) (X7 _ _ i t') dd λh' dd' hs'=>?_
  obtain ⟨o,es,ep',g1,g2,g3,g4,g4',g5⟩:=dd'
  have dct:QJ p (putV kvs (.inl i) 0 v) ep' h':=⟨by have:=qee kvs (.inl i) 0 v;omega,hs,.inr ⟨_,qiW pk rv,o,es,g1,g2,g3,YG g4' λe he=>g4 e (XG.mp he),g5⟩⟩
  exact ⟨_,I.write (x:=p) (e:=p) (by rw [hp];exact Us) (.inl rfl) (λc o' hc e=>(hs'.2 c hc).trans e) ⟨o,g1⟩ dct.ok,q 0 ep' rfl⟩
end
theorem yJ {h:KS}{kvs:'4'}(d:QJ a kvs ep h):∃ o es,h.get? a=some o/\o.ExactDict/\o.data=.dict es ep/\es.size=kvs.length/\∀ (i:Nat) p,kvs[i]?=some p->∃ e,es[i]?=some e/\RelV (kxV p.1 p.2.1) e.key/\RelV p.2.2 e.val:=by
 obtain ⟨o,es,h1,h2,h3,vk,vv⟩:=d.vals
 have hsz:es.size=kvs.length:=by
  have:=vk.length
  rw [Kf,Kf,KU] at this
  exact this.symm
 refine ⟨o,es,h1,h2,h3,hsz,λi p hp=>?_⟩
 have hi:i<es.size:=by rw [hsz];exact (Kl.mp hp).1
 refine ⟨es[i],VS hi,?_,?_⟩
 ·obtain ⟨u,hu,ru⟩:=vk.get (i:=i) (x:=kxV p.1 p.2.1) (by rw [Ky,hp];rfl)
  rw [Ky,Um,VS hi] at hu
  cases hu
  exact ru
 ·obtain ⟨u,hu,ru⟩:=vv.get (i:=i) (x:=p.2.2) (by rw [Ky,hp];rfl)
  rw [Ky,Um,VS hi] at hu
  cases hu
  exact ru
def qlD (K:Kb):R2:=λx y H Q=>∃ S a kvs ep ks ds d,x=.ref a/\H a=some (DctO a kvs ep)/\DenL K H S (kvs.map λp=>kxV p.1 p.2.1) (kvs.map λp=>kxD p.1)/\DenL K H S (kvs.map (·.2.2)) ds/\(∀ p∈kvs,kxI p.1=kxI ks)/\Den K H S y (kxD ks)/\zF (dkv kvs ds) ks=some d/\∀ v,Den K H S v d->Q v H
section
variable {X:Cx}{G:Gm}{M M' Mb L:aq}{fr:Fr}{a b c:KB}{es:aJ}{f fk fx g fa fb:aa}{pos:Pos}{u:ai}
theorem qj7 (hu:X.A.units+64<cg):IxR X (qlD X.K):=by
 intro value slice bE s σ H x y v u Q I rx ry h hs
 obtain ⟨S,p,kvs,ep,ks,ds,d,rfl,hp,k,t,hk,dy,e,q⟩:=h
 cases rx
 exact tail_any (qhC I hp).1 PySem.F.slot_dict_getitem.lookup (qjL hu I hp k t hk dy ry e λv' w' s' I' r' d'=>⟨v',H,I',r',q v' d'⟩) hs
theorem jQ (hr:Room k X.A)(ha:PD X M a fa)(hb:PD X M b fb)(hs:wF b:=by intro _ _;rfl):PD X M (.Subscript a b pos) (ev2 fa fb ix2D) :=
 (qfZ (r:=λx y H Q=>(rIxL X.K x y H Q\/rIxT X.K x y H Q)\/qlD X.K x y H Q) ((qal.or qcx).or (qj7 hr.units)) ha hb hs).weak λσ H Q ⟨S,ρ,d,hs,e,q⟩=>by
  obtain ⟨x,e1,e⟩:=qd e
  obtain ⟨y,e2,e⟩:=qd e
  refine ⟨S,ρ,x,hs,e1,λv H1 g1 d1=>⟨S,ρ,y,hs.same g1,e2,λw H2 g2 d2=>?_⟩⟩
  have d1':=d1.same g2
  cases d1' with
  | list h t =>
   cases d2 with
   | int i =>
    obtain ⟨z,h1,h2⟩:=t.atI e
    exact .inl (.inl ⟨_,_,i,z,rfl,rfl,h.sq,h1,q z H2 (g1.trans g2) h2⟩)
   | _=>cases e
  | tuple h t =>
   cases d2 with
   | int i =>
    obtain ⟨z,h1,h2⟩:=t.atI e
    exact .inl (.inr ⟨_,_,i,z,rfl,rfl,h,h1,q z H2 (g1.trans g2) h2⟩)
   | _=>cases e
  | @dict p kvs ep ds h k t =>
   have e:ob (kxOf y) (λks=>if kOk (dkv kvs ds) ks=true then zF (dkv kvs ds) ks else none)=some d:=e
   obtain ⟨ks,e3,e⟩:=qd e
   have hl:kvs.length=ds.length:=by
    have:=t.length
    rwa [Kf] at this
   split at e
   case isFalse=>cases e
   rename_i hok
   rw [Yg e3] at d2
   exact .inr ⟨S,p,kvs,ep,ks,ds,d,rfl,h.1,k,t,wV hl hok,d2,e,λv' d'=>q v' H2 (g1.trans g2) d'⟩
  | exc0 h o=>exact (JK (g:=id) e).elim
  | exc1 h o x z t=>exact (JK (g:=id) e).elim
  | ins h o=>exact (JK (g:=id) e).elim
  | _=>cases e
theorem d_in2 (hr:Room k X.A):OpD X (bQ .In) in2D:=by
 intro bE s σ H x y v u Q I rx ry h
 obtain ⟨S,dx,dy,d,m,h1,h2,e,q⟩:=h
 cases h2 with
 | @dict p kvs ep ds hp kk t =>
  have e:ob (kxOf dx) (λks=>if kOk (dkv kvs ds) ks=true then some (UZ (zF (dkv kvs ds) ks).isSome) else none)=some d:=e
  obtain ⟨ks,e3,e⟩:=qd e
  have hl:kvs.length=ds.length:=by
   have:=t.length
   rwa [Kf] at this
  split at e
  case isFalse=>cases e
  rename_i hok
  cases e
  rw [Yg e3] at h1
  cases (show u=Vd p from ry)
  exact dg_in hr.units I hp.1 kk t (wV hl hok) h1 rx λs' I'=>⟨.bl _,H,I',rfl,q _ H (Same.refl H) (.bool _)⟩
 | list a b=>exact d_in hr bE s σ H x _ v u Q I rx ry ⟨S,dx,_,d,m,h1,.list a b,e,q⟩
 | tuple a b=>exact d_in hr bE s σ H x _ v u Q I rx ry ⟨S,dx,_,d,m,h1,.tuple a b,e,q⟩
 | exc0 h o=>exact (JK (g:=id) e).elim
 | exc1 h o x z t=>exact (JK (g:=id) e).elim
 | ins h o=>exact (JK (g:=id) e).elim
 | _=>cases e
theorem qdl (hr:Room k X.A):OpD X (bQ .NotIn) qfR:=by
 intro bE s σ H x y v u Q I rx ry h
 obtain ⟨S,dx,dy,d,m,h1,h2,e,q⟩:=h
 cases h2 with
 | @dict p kvs ep ds hp kk t =>
  have e:ob (kxOf dx) (λks=>if kOk (dkv kvs ds) ks=true then some (UZ (!(zF (dkv kvs ds) ks).isSome)) else none)=some d:=e
  obtain ⟨ks,e3,e⟩:=qd e
  have hl:kvs.length=ds.length:=by
   have:=t.length
   rwa [Kf] at this
  split at e
  case isFalse=>cases e
  rename_i hok
  cases e
  rw [Yg e3] at h1
  cases (show u=Vd p from ry)
  exact qhE hr.units I hp.1 kk t (wV hl hok) h1 rx λs' I'=>⟨.bl _,H,I',rfl,q _ H (Same.refl H) (.bool _)⟩
 | list a b=>exact qaj hr bE s σ H x _ v u Q I rx ry ⟨S,dx,_,d,m,h1,.list a b,e,q⟩
 | tuple a b=>exact qaj hr bE s σ H x _ v u Q I rx ry ⟨S,dx,_,d,m,h1,.tuple a b,e,q⟩
 | exc0 h o=>exact (JK (g:=id) e).elim
 | exc1 h o x z t=>exact (JK (g:=id) e).elim
 | ins h o=>exact (JK (g:=id) e).elim
 | _=>cases e
theorem qbj:PF X M (.Dict [] [] pos) (kd (.dict [])):=λbE s σ H Q I ⟨S,ρ,d,hs,e,q⟩=>by
 cases e
 have hb:cB<s.heap.objs.size:=Et (by decide) (show bL<s.heap.objs.size from (I.mod.glob.keeps I.bk).lt)
 have hn:=I.hok.fresh (Kp s.heap.objs.size)
 have dct:QJ s.heap.objs.size [] 0 (s.heap.push { cls:=.type "dict", data:=.dict #[] }):=⟨Vh _,bP.mpr (Ul (KW hb)),.inl ⟨[],.nil,_,#[],Kx _ rfl,⟨rfl,rfl,rfl⟩,rfl,rfl,X6⟩⟩
 exact wpAny_Dict_empty ⟨.ref s.heap.objs.size,_,I.laid (a:=s.heap.objs.size) (o:=DctO s.heap.objs.size [] 0) (t':=s.toks) (λ_ _ q=>Ki _ q) (Kp _) dct.ok,rfl,q _ _ (Same.lay hn) hn (.dct (kvs:=[]) (ds:=[]) qU .nil .nil)⟩
def Wi (i:Nat)(fk f:aa):Rho->Option Out:=λρ=>ob (f ρ) λd=>ob (vr i ρ) λl=>ob (fk ρ) λk=>ob (wO l k d) λl'=>some (.nx (ρ.set i (some l')))
theorem qjY (js:aA):ZZ (js.map .int)=true:=by
 induction js with
 | nil=>rfl
 | cons j js ih=>exact ih
theorem qcv:∀ ks:K2,ZZ (ks.map k2D)=true
 | []=>rfl
 | .inl _::ks=>qcv ks
 | .inr js::ks=>by
  show (ZZ (js.map .int)&&ZZ (ks.map k2D))=true
  rw [qjY,qcv];rfl
theorem qdt (k:KX):flat (kxD k)=true:=by
 cases k with
 | inl i=>rfl
 | inr ks=>exact qcv ks
theorem qaI (e:wO l k d=some l'):∃ kvs ks,l=.dict kvs/\k=kxD ks/\kOk kvs ks=true/\kvs.length<1000/\l'=.dict (putD kvs ks d):=by
 unfold wO at e
 split at e
 ·obtain ⟨ks,e1,e⟩:=qd e
  split at e
  ·rename_i hc;cases e;exact ⟨_,ks,rfl,Yg e1,hc.1,hc.2,rfl⟩
  ·cases e
 ·cases e
theorem qd1 {kvs:'4'}{ep:Nat}{ds:ae}{S:Av}{σ:St}{ρ:Rho}{H:Hp}{i:Nat}{pp b:Ke}{ks:KX}{v:V}{d:Ka}{ep':Nat}(os:OwnS X.K G M L H S σ ρ)(hM:Flt M i)(hL:i∉L)(e0:ρ[i]?=some (some (.dict (dkv kvs ds))))(a1:σ[i]?=some (some (.ref pp)))(c1:S pp)(h:H pp=some (DctO pp kvs ep))(k:DenL X.K H S (kvs.map λp=>kxV p.1 p.2.1) (kvs.map λp=>kxD p.1))(t:DenL X.K H S (kvs.map (·.2.2)) ds)(dk:Den X.K H S (kxV ks b) (kxD ks))(dv:Den X.K H S v d)
  (he:(kvs.any λp=>decide (p.1=ks))=(zF (dkv kvs ds) ks).isSome):OwnS X.K G M L (upd H pp (DctO pp (putV kvs ks b v) ep')) S σ (ρ.set i (some (.dict (putD (dkv kvs ds) ks d)))):=by
 obtain ⟨ds',t',ed⟩:=qiY (b:=b) t dv he
 refine os.write hM hL e0 a1 rfl ?_
 rw [← ed]
 exact .dct qU ((qiV k dk).off os.ds.1 (Off.upd c1)) (t'.off os.ds.1 (Off.upd c1))
theorem qaA {K:Kb}{H:Hp}{S:Av}(ks:KX):∀ {kvs:'4'} {ds:ae},DenL K H S (kvs.map (·.2.2)) ds->(kvs.any λp=>decide (p.1=ks))=(zF (dkv kvs ds) ks).isSome
 | [],_,t=>by cases t;rfl
 | p::kvs,_,t=>by
  cases t with
  | @cons _ d _ ds dv t' =>
   rw [Ju,UR]
   by_cases e:p.1=ks
   ·rw [Wx e,bF e];rfl
   ·rw [Ww e,bH e,XJ];exact qaA ks t'
theorem qfs {kvs:'4'}{ds:ae}(h:kvs.length=ds.length):(dkv kvs ds).length=kvs.length:=by
 unfold dkv
 rw [NL,Kf,h,Nat.min_self]
theorem Wa (hr:Room k X.A)(i:Nat){px sp:Pos}(hv:Vis X.env.scope x)(hM:Flt M i)(hL:i∉L)(hk:PD X [] b fk)(he:PD X M a f)(hN:X.N[i]?=some x:=by rfl)(hd:'+'=false:=by decide +kernel)(hcd:(x==("__classdict__" : Str))=false:=by decide +kernel)
  (ha:∀ v,assign (.Subscript '3' b sp) X.env v=(do
   let ov ← holding [v] (eval '3' X.env)
   let iv ← holding [v,ov] (eval b X.env)
   cV sp
   holding [v,ov,iv] (setItem ov iv v)
   release [v,ov,iv] []):=by intro _;rfl)
  (hs:cQ [.Subscript '3' b sp] a pos.line X.env=pure false:=by rfl) (hw:cR [.Subscript '3' b sp] a X.env=pure none:=by rfl)
  (h1:(bV [.Subscript '3' b sp] X.env).map (·.2)=[assign (.Subscript '3' b sp) X.env]:=by rfl) :
  PDS X G M L M Mb fr (.Assign [.Subscript '3' b sp] a pos) (Wi i fk f) :=
 (qeV he (qiK (jo i hv hN hd hcd) hk (set_dict hr.units) ha) hs hw h1).weak λD σ H ⟨S,ρ,o,os,e,q⟩=>by
  obtain ⟨d,e1,e⟩:=qd e
  obtain ⟨l,e2,e⟩:=qd e
  obtain ⟨kd,e3,e⟩:=qd e
  obtain ⟨l',e4,e⟩:=qd e
  cases e
  obtain ⟨kvs0,ks,rfl,rfl,hok,hz,rfl⟩:=qaI e4
  refine ⟨S,ρ,d,os.ds,e1,λv H1 g1 d1=>?_⟩
  have os1:=os.same g1
  obtain ⟨pp,a1,b1,c1,n1,w1,_⟩:=os1.own i hM _ (zN e2)
  cases b1 with
  | @dct kvs ep ds h kk t =>
   refine ⟨_,a1,G.S0,ρ,_,os1.den,e3,λkv H2 g2 dk=>?_⟩
   have os2:=os1.same g2
   have dk:Den X.K H2 S kv (kxD ks):=dk.flat (qdt ks)
   have hl:kvs.length=ds.length:=by
    have:=t.length
    rwa [Kf] at this
   rw [qfs hl] at hz
   refine ⟨S,pp,kvs,ep,ks,ds,d,rfl,g2 _ _ h,kk.same g2,t.same g2,wV hl hok,dk,d1.same g2,hz,λb' ep' eb=>?_⟩
   subst eb
   exact q _ _ _ (qd1 os2 hM hL (zN e2) a1 c1 (g2 _ _ h) (kk.same g2) (t.same g2) dk (d1.same g2) (qaA ks t))
theorem qgX (hr:Room k X.A)(i:Nat){px sp:Pos}(hv:Vis X.env.scope x)(hM:Flt M i)(hL:i∉L)(hk:PD X [] b fk)(he:PD X [] a f)(hN:X.N[i]?=some x:=by rfl)(hd:'+'=false:=by decide +kernel)(hcd:(x==("__classdict__" : Str))=false:=by decide +kernel)
  (ha:∀ v,assign (.Subscript '3' b sp) X.env v=(do
   let ov ← holding [v] (eval '3' X.env)
   let iv ← holding [v,ov] (eval b X.env)
   cV sp
   holding [v,ov,iv] (setItem ov iv v)
   release [v,ov,iv] []):=by intro _;rfl)
  (hs:cQ [.Subscript '3' b sp] a pos.line X.env=pure false:=by rfl) (hw:cR [.Subscript '3' b sp] a X.env=pure none:=by rfl)
  (h1:(bV [.Subscript '3' b sp] X.env).map (·.2)=[assign (.Subscript '3' b sp) X.env]:=by rfl) :
  PDS X G M L M Mb fr (.Assign [.Subscript '3' b sp] a pos) (Wi i fk (Yr f)) :=
 (qeV he (qiK (jo i hv hN hd hcd) hk (set_dict hr.units) ha) hs hw h1).weak λD σ H ⟨S,ρ,o,os,e,q⟩=>by
  obtain ⟨d,e1,e⟩:=qd e
  obtain ⟨l,e2,e⟩:=qd e
  obtain ⟨kd,e3,e⟩:=qd e
  obtain ⟨l',e4,e⟩:=qd e
  cases e
  obtain ⟨kvs0,ks,rfl,rfl,hok,hz,rfl⟩:=qaI e4
  obtain ⟨d',e5,e6⟩:=qd e1
  have hf:flat d'=true/\d'=d:=by
   split at e6
   ·rename_i hf;cases e6;exact ⟨hf,rfl⟩
   ·cases e6
  obtain ⟨hf,rfl⟩:=hf
  refine ⟨G.S0,ρ,d',os.den,e5,λv H1 g1 d1'=>?_⟩
  have d1:Den X.K H1 S v d':=d1'.flat hf
  have os1:=os.same g1
  obtain ⟨pp,a1,b1,c1,n1,w1,_⟩:=os1.own i hM _ (zN e2)
  cases b1 with
  | @dct kvs ep ds h kk t =>
   refine ⟨_,a1,G.S0,ρ,_,os1.den,e3,λkv H2 g2 dk=>?_⟩
   have os2:=os1.same g2
   have dk:Den X.K H2 S kv (kxD ks):=dk.flat (qdt ks)
   have hl:kvs.length=ds.length:=by
    have:=t.length
    rwa [Kf] at this
   rw [qfs hl] at hz
   refine ⟨S,pp,kvs,ep,ks,ds,d',rfl,g2 _ _ h,kk.same g2,t.same g2,wV hl hok,dk,d1.same g2,hz,λb' ep' eb=>?_⟩
   subst eb
   exact q _ _ _ (qd1 os2 hM hL (zN e2) a1 c1 (g2 _ _ h) (kk.same g2) (t.same g2) dk (d1.same g2) (qaA ks t))
end
section
variable {X:Cx}{G:Gm}{M M' Mb L:aq}{fr:Fr}{a b c:KB}{es:aJ}{f fk g:aa}{pos:Pos}{u:ai}
def sNo:Rho->Option Out:=λ_=>none
theorem qg1:PDS X G M L M' Mb fr (.Raise e1 e2 pos) sNo:=λbE s σ H D I ⟨S,ρ,o,os,e,q⟩=>by cases e
end
open AutoSeq1 (wpAny_loadPart') in
theorem qel (l:Ke)(items:aT)(n:Nat)(dd:aI)(sl:au)(x:Kc)(e:Kc->Bool)(j:Nat)(hj:j<items.size)(hit:e items[j]=true)(hno:∀ m (hm:m<items.size),m<j->e items[m]=false) :
  Meets (UQ.«tuple.index» ⟨[.ref l,x],[]⟩) (λA R s=>s.heap.get? l=some { cls:=.type "tuple", dict:=dd,data:=.seq items n,slots:=sl }/\(∀ y,y∈items->SeqAt.EqAt A.in1 s y x (e y))/\R (.ok (.ret (.int j s.toks))) { s with toks:=s.toks+1 }) :=
 .of_wp λprog w A R s h=>by
  obtain ⟨hp,g,d,tk,os⟩:=s
  obtain ⟨hl,he,h⟩:=h
  unfold UQ.«tuple.index»
  simp only [Std.Legacy.Range.forIn_eq_forIn_range']
  wp_walk using bO hl,XH _ (λrest b s'=>b.1=none/\s'=⟨hp,g,d,tk,os⟩/\∃ i,i<=j/\rest=List.range' i (items.size-i)) _
  case turn =>
   rintro k rest b s' ⟨hb,rfl,i,hi,hr⟩
   have hlt:i<items.size:=by omega
   have e1:items.size-i=(items.size-(i+1))+1:=by omega
   rw [e1,List.range'_succ] at hr
   injection hr with hk hr
   subst hk
   rw [VS hlt]
   refine Kd (he _ (Array.getElem_mem hlt) prog w _ _ (id ?_))
   by_cases hij:k=j
   ·subst hij
    rw [hit]
    wp_walk
    exact ⟨_,rfl,h⟩
   ·rw [hno k hlt (by omega)]
    wp_walk
    exact ⟨rfl,rfl,k+1,by omega,hr⟩
  case fin =>
   rintro b s' ⟨hb,rfl,i,hi,hr⟩
   have:=congrArg XO hr
   rw [List.length_range'] at this
   have:(0:Nat)=items.size-i:=this
   omega
  case h=>exact ⟨rfl,rfl,0,Vh _,by simp [Std.Legacy.Range.size]⟩
def tVd (K:Kb)(M:aq)(f:aa):TE:=λσ H Q=>∃ S ρ d,DenS K H S M σ ρ/\f ρ=some d/\∀ p fp H',Same H H'->(∀ q∈fp,H q=none)->DeepO K H' (insL S fp) fp p d->Q (.ref p) H'
def PV (X:Cx)(M:aq)(e:KB)(f:aa):Prop:=PE X e (tVd X.K M f)
noncomputable def jN:Ka->Bool
 | .list _=>true
 | _=>false
def vC (f:aa)(fs:ab):Rho->Option (List Ka):=λρ=>ob (f ρ) λd=>ob (fs ρ) λds=>if jN d=true then some (d::ds) else none
theorem Kids.length {K:Kb}{H:Hp}{S:Av}{qs:aH}{ds:ae}(h:Kids K H S qs ds):qs.length=ds.length:=by
 induction h with
 | nil=>rfl
 | cons _ _ _ _ r=>rw [Kw,Kw,r]
theorem Kids.get {K:Kb}{H:Hp}{S:Av}{qs:aH}{ds:ae}{i:Nat}{d:Ka}(h:Kids K H S qs ds)(e:ds[i]?=some d):∃ q xs es,qs[i]?=some q/\d=.list es/\H q=some (.lst xs)/\DenL K H S xs es:=by
 induction h generalizing i with
 | nil=>cases Nc.symm.trans e
 | cons h t _ _ r =>
  cases i with
  | zero=>cases e;exact ⟨_,_,_,rfl,rfl,h,t⟩
  | succ i=>exact r e
theorem qdu {d:Ka}(h:jN d=true):flat d=false:=by
 unfold jN at h
 split at h
 ·rfl
 ·cases h
theorem Mx.get {K:Kb}{H:Hp}{S:Av}{qs:aH}{vs:List V}{ds:ae}{i:Nat}{d:Ka}(h:Mx K H S qs vs ds)(e:ds[i]?=some d)(hl:jN d=true):∃ q xs es,q∈qs/\vs[i]?=some (.ref q)/\d=.list es/\H q=some (.lst xs)/\DenL K H S xs es:=by
 induction h generalizing i with
 | nil=>cases Nc.symm.trans e
 | kid h t _ _ r =>
  cases i with
  | zero=>cases e;exact ⟨_,_,_,.head _,rfl,rfl,h,t⟩
  | succ i =>
   obtain ⟨q,xs,es,h1,h2⟩:=r e
   exact ⟨q,xs,es,.tail _ h1,h2⟩
 | flt a f _ r =>
  cases i with
  | zero=>cases e;rw [qdu hl] at f;cases f
  | succ i=>exact r e
theorem Mx.put {K:Kb}{H:Hp}{S:Av}{q:Ke}{xs:List V}{es:ae}(m:Dm S H)(hq:S q)(t:DenL K (L2.upd H q (.lst xs)) S xs es){qs:aH}{vs:List V}{ds:ae}{i:Nat}{d:Ka}(h:Mx K H S qs vs ds)(e:vs[i]?=some (.ref q))(hl:jN d=true)(e2:ds[i]?=some d):Mx K (L2.upd H q (.lst xs)) S qs vs (ds.set i (.list es)):=by
 have off:Off S H (L2.upd H q (.lst xs)):=λb u z e=>by rw [qO (λy=>z (by rw [y];exact hq))];exact e
 induction h generalizing i with
 | nil=>cases Nc.symm.trans e
 | kid h t' n r ih =>
  cases i with
  | zero=>cases e;exact .kid qU t n (r.upd m hq n)
  | succ i =>
   obtain ⟨q2,_,_,m2,h2,_⟩:=r.get e2 hl
   cases (show some (V.ref q)=some (.ref q2) from e.symm.trans h2)
   refine .kid ?_ (t'.off m off) n (ih e e2)
   rw [qO (λz=>n (by rw [z];exact m2))];exact h
 | flt a f r ih =>
  cases i with
  | zero=>cases e2;rw [qdu hl] at f;cases f
  | succ i=>exact .flt (a.off m off) f (ih e e2)
theorem Kids.put {K:Kb}{H:Hp}{S:Av}{q:Ke}{xs:List V}{es:ae}(m:Dm S H)(hq:S q)(t:DenL K (L2.upd H q (.lst xs)) S xs es){qs:aH}{ds:ae}{i:Nat}(h:Kids K H S qs ds)(e:qs[i]?=some q):Kids K (L2.upd H q (.lst xs)) S qs (ds.set i (.list es)):=by
 induction h generalizing i with
 | nil=>cases Nc.symm.trans e
 | cons h t' n r ih =>
  cases i with
  | zero=>cases e;exact .cons qU t n (r.upd m hq n)
  | succ i =>
   refine .cons ?_ (t'.off m λb u z e=>by rw [qO (λy=>z (by rw [y];exact hq))];exact e) n (ih e)
   rw [qO (λz=>n (by rw [z];exact Va e))];exact h
section
variable {X:Cx}{G:Gm}{M M' Mb L:aq}{fr:Fr}{a b c:KB}{es:aJ}{f fk g:aa}{pos:Pos}{u:ai}{fs:ab}
theorem DenS.insO {K:Kb}{H H':Hp}{S:Av}{σ:St}{ρ:Rho}{p:Ke}{d:Ka}(hs:DenS K H S M σ ρ)(e:Same H H')(n:H p=none)(o:OwnO K H' (insA S p) p d):DenS K H' (insA S p) M σ ρ :=
 ⟨(hs.1.same e).ins o.mut,hs.2.1,λi d hi q=>let ⟨v,a,b⟩:=hs.2.2 i d hi q;⟨v,a,(b.sub λa ha z=>z.elim id λy=>absurd (by rw [y];exact n) ha).same e⟩⟩
theorem insAL  : insL (insA S p) qs=insL S (p::qs):=by
 funext a
 unfold insL insA
 rw [Kr,or_assoc]
theorem qbf (h:PV X [] a f):PDS X G M L M' Mb .dp (.Return (some a) pos) (sRet f) :=
 (qbl h).weak λD σ H ⟨S,ρ,o,hs,e,q⟩=>by
  obtain ⟨d,e1,e⟩:=qd e
  cases e
  exact ⟨G.S0,ρ,d,hs.den,e1,λp fp H' g1 n o=>q p fp H' (hs.h0.trans g1) (λr hr=>⟨hs.h0.free (n r hr),hs.den.1.free (n r hr)⟩) o⟩
def JW (i:Nat)(f:aa):Rho->Option Out:=λρ=>if i<ρ.length/\ρ.length<=1000 then ob (f ρ) λd=>some (.nx (ρ.set i (some d))) else none
theorem qiC (i:Nat)(hN:X.N.Nodup)(hx:Loc X.env.scope x)(hi:X.N[i]?=some x)(hs:bZ a (some (.Name x p')) pos.line X.env=pure false)(hf:X.fn x=true\/X.env.scope.names.lookup x=some .local)(hM:Out0 M i)(hL:i∉L)(he:PV X M a f) :
  PDS X G M L (i::(i+1000)::M) Mb fr (.Assign [.Name x p'] a pos) (JW i f) :=
 (YK hN hi hx he hs hf).weak λD σ H ⟨S,ρ,o,hs,e,q⟩=>by
  unfold JW at e
  split at e
  ·rename_i hz
   obtain ⟨d,e1,e⟩:=qd e
   cases e
   exact ⟨S,ρ,d,hs.ds,e1,λp fp H1 g1 n o=>q _ H1 _ (hs.takeD n g1 o hM hL hz.1 hz.2)⟩
  ·cases e
def spD (K:Kb)(n:Nat)(f:ak):Sp:=λvs H Q _=>∃ S ds d,Dm S H/\DenL K H S vs ds/\ds.length=n/\f ds=some d/\∀ p fp H',Same H H'->(∀ q∈fp,H q=none)->DeepO K H' (insL S fp) fp p d->Q (.ref p) H'
theorem FunG.deep {P:KJ}{w:KZ}{K:Kb}{mg:ao}{base:KS}{x qual:Str}{st:KQ}{f:Ke}{fd:Vp}{N ps:aB}{k n:Nat}{u:ai}{M':aq}(F:FunG K x qual st f fd)(S:FnScope N ps (qe st))(hn:ps.length=n)
  (hbody:∀ (cdv:Kc) (A:K0) (outer:aU) (s:Kh) (H:Hp) (E:XK),Room k (A.deeper (cD qual (qe st) s.heap.objs.size f cdv))->∀ G:Gm,
   PDSs (cxOf CX0 P w K mg base N qual (qe st) f cdv A outer s H E).nox G [] [] M' [] .dp (zO st) u) :
  FnOk P w K mg base CX0 (k+1) f fd ps (spD K n λds=>ob (u (rho0 N.length ds)) outF):=by
 refine F.ok S (λvs H Q E h=>?_) (λcdv A outer s H vs Q E hr h=>?_)
 ·obtain ⟨_,ds,d,_,h1,h2,_⟩:=h
  rw [h1.length,h2,hn]
 ·obtain ⟨Sv,ds,d,m,h1,h2,e,q⟩:=h
  obtain ⟨o,e1,e⟩:=qd e
  refine ⟨_,hbody cdv A outer s H E hr (G0 H Sv),Sv,rho0 N.length ds,o,OwnS.start m h1 N,e1,?_⟩
  cases o with
  | rt r=>cases e;exact λp fp H' g n o=>q p fp H' g (λr hr=>(n r hr).1) o
  | nx ρ=>cases e
  | bk ρ=>cases e
  | ct ρ=>cases e
structure KnownD (P:KJ)(w:KZ)(K:Kb)(mg:ao)(base:KS)(x:Str)(n k:Nat)(h:ak):Prop where
 ex:∃ (f:Ke) (fd:Vp) (ps:aB),FnOk P w K mg base CX0 k f fd ps (spD K n h)/\mg x=some (.ref f)/\Vl K (.ref f)=true/\Binds K fd ps []
def Jw:Ka->Ka->Option Nat
 | .tuple ds,.int k=>ixN ds.length k
 | .list ds,.int k=>ixN ds.length k
 | _,_=>none
noncomputable def wY:Ka->Nat->Option Ka
 | .tuple ds,j=>ds[j]?
 | .list ds,j=>ds[j]?
 | _,_=>none
noncomputable def YB:Ka->Nat->Ka->Ka
 | .tuple ds,j,l=>.tuple (ds.set j l)
 | .list ds,j,l=>.list (ds.set j l)
 | d,_,_=>d
theorem DeepF.same {K:Kb}{H H':Hp}{S:Av}{σ:St}{ρ:Rho}{F:Nat->List Ke}(e:Same H H')(f:DeepF K G M H S σ ρ F):DeepF K G M H' S σ ρ F :=
 ⟨λi hi d q=>let ⟨p,a,b,c⟩:=f.own i hi d q;⟨p,a,b.same e,c⟩,f.disj,f.flat⟩
theorem Zg {qs:aH}{j:Nat}{k:Int}{q:Ke}{n:Nat}(h:n=qs.length)(e:ixN n k=some j)(e':qs[j]?=some q):atI (qs.map V.ref) k=some (.ref q):=by
 unfold atI
 rw [Kf,← h,e]
 show (qs.map V.ref)[j]?=_
 rw [Ky,e'];rfl
theorem DeepO.kid {K:Kb}{H:Hp}{S:Av}{fp:aH}{p:Ke}{d0 l:Ka}{j:Nat}(b:DeepO K H S fp p d0)(e:wY d0 j=some l)(hk:jN l=true):∃ q xs es,q∈fp/\l=.list es/\H q=some (.lst xs)/\DenL K H S xs es/\
  (∀ k,Jw d0 (.int k)=some j->∀ Q:VK,Q (.ref q) H->(rIxL K (.ref p) (.int k) H Q\/rIxT K (.ref p) (.int k) H Q))/\
  ∀ H2,Same H H2->∀ xs' es',S q->Dm S H2->DenL K (L2.upd H2 q (.lst xs')) S xs' es'->DeepO K (L2.upd H2 q (.lst xs')) S fp p (YB d0 j (.list es')):=by
 cases b with
 | @tpl _ qs vs ds h t =>
  obtain ⟨q,xs,es,h1,hv,rfl,h2,h3⟩:=t.get (show ds[j]?=some l from e) hk
  refine ⟨q,xs,es,h1,rfl,h2,h3,λk hk Q hQ=>.inr ⟨p,_,k,_,rfl,rfl,.inl (.inl h),?_,hQ⟩,λH2 g xs' es' hS m t'=>?_⟩
  ·have hk:ixN ds.length k=some j:=hk
   unfold atI
   rw [t.length,hk]
   exact hv
  exact .tpl (by rw [qO (λz=>m.tup (.inl (g _ _ h)) (by rw [z];exact hS))];exact g _ _ h) (Mx.put m hS t' (t.same g) hv hk e)
 | @lst _ qs ds h n t =>
  obtain ⟨q,xs,es,h1,rfl,h2,h3⟩:=t.get (show ds[j]?=some l from e)
  have hm:=Va h1
  refine ⟨q,xs,es,.tail _ hm,rfl,h2,h3,λk hk Q hQ=>.inl ⟨p,_,k,_,rfl,rfl,SqL.of h,Zg t.length.symm hk h1,hQ⟩,λH2 g xs' es' hS m t'=>?_⟩
  exact .lst (by rw [qO (λz=>n (by rw [z];exact hm))];exact g _ _ h) n (Kids.put m hS t' (t.same g) h1)
 | dct h k v n t=>cases e
def qbo (i:Nat)(fk f:aa):Rho->Option Out:=λρ=>ob (vr i ρ) λc=>ob (fk ρ) λk=>ob (Jw c k) λj=>ob (wY c j) λl=>ob (f ρ) λd=>ob (appD l d) λl'=>some (.nx (ρ.set i (some (YB c j l'))))
def qgd (i:Nat)(fk:aa):Rho->Option Out:=λρ=>ob (vr i ρ) λc=>ob (fk ρ) λk=>ob (Jw c k) λj=>ob (wY c j) λl=>if jN l=true then some (.nx (ρ.set i (some (YB c j (.list []))))) else none
theorem qbX {c k:Ka}{j:Nat}(e:Jw c k=some j):∃ n,k=.int n:=by
 unfold Jw at e
 split at e
 ·exact ⟨_,rfl⟩
 ·exact ⟨_,rfl⟩
 ·cases e
theorem Wb (i:Nat){x:Str}{px sp apos cpos:Pos}(hv:Vis X.env.scope x)(hM:Dp M i)(hb:PD X M b fk)(he:PD X M a f)(hpx:wF b:=by intro _ _;rfl)(hN:X.N[i]?=some x:=by rfl)(hd:'+'=false:=by decide +kernel)(hcd:(x==("__classdict__" : Str))=false:=by decide +kernel)
  (hbase:bU (.Subscript '3' b sp) "append" X.env (eval (.Subscript '3' b sp) X.env)=eval (.Subscript '3' b sp) X.env:=by rfl)
  (hfew:((bT cpos (bG [a] X.env)).all (λx=>!x.1)&&(cH cpos (cu [] X.env)).all (λx=>x.1.isSome)
   && decide ([a].length+([]:List UI).length+(if ([]:List UI).isEmpty then 0 else 1)<30))=true:=by rfl)
  (hline:(apos.endLine==cpos.line)=true:=by rfl) (hs:bG [a] X.env=(false,eval a X.env)::bG [] X.env:=by rfl) (hplain:(bT cpos (bG [] X.env)).any (·.1)=false:=by rfl)
  (hsw:bZ (.Call (.Attribute (.Subscript '3' b sp) "append" apos) [a] [] cpos) none pos.line X.env=pure false:=by rfl) :
  PDS X G M L M Mb fr (.Expr (.Call (.Attribute (.Subscript '3' b sp) "append" apos) [a] [] cpos) pos) (qbo i fk f) :=
 (Yk (qb7 VY Xr X3 WK (qfZ (r:=λx y H Q=>rIxL X.K x y H Q\/rIxT X.K x y H Q) (qal.or qcx) (jo i hv hN hd hcd) hb hpx) (qT he zV hs) hbase hfew hline hs hplain) hsw).weak λD σ H ⟨S,ρ,o,os,e,q⟩=>by
  obtain ⟨c0,e1,e⟩:=qd e
  obtain ⟨k0,e2,e⟩:=qd e
  obtain ⟨j,e3,e⟩:=qd e
  obtain ⟨l,e4,e⟩:=qd e
  obtain ⟨d,e5,e⟩:=qd e
  obtain ⟨l',e6,e⟩:=qd e
  cases e
  obtain ⟨k,rfl⟩:=qbX e3
  obtain ⟨F,f0⟩:=os.deep
  obtain ⟨pp,a1,b1,c1⟩:=f0.own i hM _ (zN e1)
  refine ⟨_,a1,S,ρ,.int k,os.ds,e2,λw H1 g1 d1=>?_⟩
  cases d1.int_inv
  have hll:jN l=true:=by
   obtain ⟨ds,e7,_⟩:=yX e6
   rw [e7];rfl
  obtain ⟨q0,xs,es,m0,rfl,h0,t0,ix,put⟩:=(b1.same g1).kid e4 hll
  refine ix k e3 _ ⟨.inl ⟨rfl,_,SqL.of h0⟩,S,ρ,[d],os.ds.same g1,by show ob (f ρ) _=_;rw [e5];rfl,λvs H2 g2 dl=>?_⟩
  obtain ⟨v,rfl,dv⟩:=dl.inv1
  have os2:=os.same (g1.trans g2)
  obtain ⟨ds,e7,hz,rfl⟩:=yX e6
  cases e7
  refine ⟨q0,xs,v,rfl,rfl,g2 _ _ h0,K8 (by rw [t0.length];exact hz) (VA (zB (Kp _))),?_⟩
  exact q _ _ _ (os2.writeD (f0.same (g1.trans g2)) hM (zN e1) a1 m0 rfl (put H2 g2 _ _ (c1 q0 m0).1 os2.ds.1 (((t0.same g2).snoc dv).off os2.ds.1 (Off.upd (c1 q0 m0).1))))
theorem qeQ (i:Nat){x:Str}{px sp apos cpos:Pos}(hv:Vis X.env.scope x)(hM:Dp M i)(hb:PD X M b fk)(hpx:wF b:=by intro _ _;rfl)(hN:X.N[i]?=some x:=by rfl)(hd:'+'=false:=by decide +kernel)(hcd:(x==("__classdict__" : Str))=false:=by decide +kernel)
  (hbase:bU (.Subscript '3' b sp) "clear" X.env (eval (.Subscript '3' b sp) X.env)=eval (.Subscript '3' b sp) X.env:=by rfl)
  (hline:(apos.endLine==cpos.line)=true:=by rfl) (hsw:bZ (.Call (.Attribute (.Subscript '3' b sp) "clear" apos) [] [] cpos) none pos.line X.env=pure false:=by rfl) :
  PDS X G M L M Mb fr (.Expr (.Call (.Attribute (.Subscript '3' b sp) "clear" apos) [] [] cpos) pos) (qgd i fk) :=
 (Yk (qeR VY E4 PySem.F.type_list_clear qih (qfZ (r:=λx y H Q=>rIxL X.K x y H Q\/rIxT X.K x y H Q) (qal.or qcx) (jo i hv hN hd hcd) hb hpx) hbase hline) hsw).weak λD σ H ⟨S,ρ,o,os,e,q⟩=>by
  obtain ⟨c0,e1,e⟩:=qd e
  obtain ⟨k0,e2,e⟩:=qd e
  obtain ⟨j,e3,e⟩:=qd e
  obtain ⟨l,e4,e⟩:=qd e
  split at e
  case isFalse=>cases e
  rename_i hll
  cases e
  obtain ⟨k,rfl⟩:=qbX e3
  obtain ⟨F,f0⟩:=os.deep
  obtain ⟨pp,a1,b1,c1⟩:=f0.own i hM _ (zN e1)
  refine ⟨_,a1,S,ρ,.int k,os.ds,e2,λw H1 g1 d1=>?_⟩
  cases d1.int_inv
  obtain ⟨q0,xs,es,m0,rfl,h0,t0,ix,put⟩:=(b1.same g1).kid e4 hll
  have os2:=os.same g1
  exact ix k e3 _ ⟨.inl ⟨rfl,_,SqL.of h0⟩,q0,xs,rfl,rfl,h0,q _ _ _ (os2.writeD (f0.same g1) hM (zN e1) a1 m0 rfl (put H1 (Same.refl H1) _ _ (c1 q0 m0).1 os2.ds.1 .nil))⟩
end
def dfl (h:ak)(dds:ae):List Ka->Option Ka:=λds=>h (ds++dds)
theorem dfl_b (h:ak)(dds ds:ae):dfl h dds ds=h (ds++dds):=rfl
structure KnownX (P:KJ)(w:KZ)(K:Kb)(mg:ao)(base:KS)(x:Str)(n k:Nat)(h:ak)(dds:ae):Prop where
 ex:∃ (f:Ke) (fd:Vp) (ps:aB) (us:az) (dvs:List V),FnOk P w K mg base CX0 k f fd ps (spF K n h)/\mg x=some (.ref f)/\Vl K (.ref f)=true/\Binds K fd ps us/\Vals dvs us/\∀ (H:Hp) (S:Av),DenL K H S dvs dds
theorem Ys {K:Kb}{fd:Vp}{ps:aB}{us:az}    (ht:K.lookup T=some ⟨oc,od,.seq items n,sl⟩) (hd:fd.defaults=.ref T) (hj:j+us.length=ps.length)
  (h:∀ xs:List Kc,xs.length=j->∃ k:Option (Array Kc)->Sem (List (Str×Value)),bindArgs fd ⟨xs,[]⟩=cG fd.defaults >>= k/\k (some items)=pure (ps.zip (xs++us))):Binds K fd ps us:=λs xs KX hl=>by
 obtain ⟨k,h1,h2⟩:=h xs (by rw [Kj] at hl;omega)
 exact BindsTo.of_defaults hd (KX _ _ ht) rfl h1 h2
section
variable {X:Cx}{M:aq}{a:KB}{es:aJ}{pos:Pos}
theorem qgT {p:Pos}  {dds:ae} (F:KnownX X.prog X.w X.K X.mg X.base x n k h dds) (hr:Room k' X.A) (hk:k<=k') (hg:Gl X x) (ha:PDA X M (a::es) fs) (hl:(a::es).length=j) (hj:j+dds.length=n)
  (hdb:'+'=false:=by decide +kernel) (he:bG (a::es) X.env=(false,eval a X.env)::bG es X.env:=by rfl) (hpl:(bT pos (bG es X.env)).any (·.1)=false:=by rfl) :
  PD X M (.Call (.Name x p) (a::es) [] pos) (evC j fs (dfl h dds)):=by
 obtain ⟨f,fd,ps,us,dvs,F,m,kp,b,v,t⟩:=F.ex
 refine (Yj F (hr.mono hk) hg m kp b v qa8 ha hdb he hpl).weak λσ H Q ⟨S,ρ,d,hs,e,q⟩=>?_
 obtain ⟨ds,e1,e⟩:=qd e
 have e:(if ds.length=j then h (ds++dds) else none)=some d:=e
 split at e
 ·rename_i hn
  exact ⟨S,ρ,ds,hs,e1,λvs H1 g1 d1=>⟨S,ds++dds,d,hs.1.same g1,d1.append (t H1 S),by rw [Kj,hn];exact hj,e,λv H' g2 d2=>q v H' (g1.trans g2) d2⟩⟩
 ·cases e
end
def qen (K:Kb)(mg:ao)(x:Str)(d:Ka):Prop:=∃ a o,mg x=some (.ref a)/\K.lookup a=some o/\o.cls=.type "tuple"/\o.dict=none/\∀ H S,Den K H S (.ref a) d
def jf (l x:Ka):Option Ka:=match l with
 | .tuple ds=>if inOk ds x=true/\ds.length<=1000 then ob (ds.findIdx? λy=>Kv y x) λj=>some (.int (j:Nat)) else none
 | _=>none
section
variable {X:Cx}{G:Gm}{M M' Mb L:aq}{fr:Fr}{a b c:KB}{es:aJ}{f fk g:aa}{pos:Pos}{u:ai}
def qkX (K:Kb):V->List V->Hp->VK->Prop:=λx vs H Q=>∃ S dx y dy d,vs=[y]/\Den K H S x dx/\Den K H S y dy/\jf dx dy=some d/\Dm S H/\∀ v H',Same H H'->Den K H' S v d->Q v H'
theorem qgP (hr:Room k X.A):MtR X "tuple.index" (qkX X.K):=by
 intro bE s σ H x vs v us Q I rx rv h
 obtain ⟨S,dx,y,dy,d,rfl,h1,h2,e,m,q⟩:=h
 obtain ⟨u,rfl,ru⟩:=rv.one
 unfold jf at e
 split at e
 ·rename_i ds
  split at e
  ·rename_i hc
   obtain ⟨⟨c1,c2,c3⟩,hz⟩:=And.intro (Z5 hc.1) hc.2
   obtain ⟨j,ej,e⟩:=qd e
   cases e
   obtain ⟨bs,q2⟩:=h2.reads I c2 ru
   obtain ⟨as,q1⟩:=h1.reads I (by rw [KP];exact c1) rx
   obtain ⟨a,xs,rfl,hsq,ht⟩:=h1.tuple_inv
   cases (show v=Vd a from rx)
   cases q1 with
   | @tuple _ o items n _ _ g1 g2 g3 g4 =>
    obtain ⟨cls,dd,data,sl⟩:=o
    simp only at g2 g3
    subst g2 g3
    have hm:=SeqAt.readsAll_map _ _ _ c1 g4
    obtain ⟨hj,hp,hno⟩:=Nh.mp ej
    have hlen:items.size=ds.length:=by
     have:=congrArg XO hm
     simpa using this
    have hat:∀ i (h:i<items.size),X4 s.heap items[i]=ds[i]'(by omega):=λi h=>by
     have:=congrArg (λl=>l[i]?) hm
     simp only [Ky] at this
     rw [Kk (by simpa using h),Kk (by omega)] at this
     simpa using this
    refine NC Ey ⟨_,g1,rfl⟩ PySem.F.entry_tuple_index (PySem.F.args_tuple_index_2 _ _) (qel a items n dd sl u (λy=>Kv (X4 s.heap y) dy) j (by omega) ?_ ?_) ⟨g1,SeqAt.items_eqAt g4 q2 c1 c2 (Ye c3 hr.units),?_⟩
    ·show Kv (X4 s.heap items[j]) dy=true
     rw [hat j (by omega)];exact hp
    ·intro i hi hij
     show Kv (X4 s.heap items[i]) dy=false
     rw [hat i hi]
     simpa using hno i hij
    ·exact ⟨.int j,H,I.tok _,⟨_,rfl⟩,q _ H (Same.refl H) (.int _)⟩
  ·cases e
 ·cases e
theorem qgS {px apos cpos:Pos}(C:qen X.K X.mg x d)(hr:Room k X.A)(hg:Gl X x)(he:PD X M a g)(hdb:'+'=false:=by decide +kernel)
  (hbase:bU '3' "index" X.env (eval '3' X.env)=eval '3' X.env:=by rfl)
  (hfew:((bT cpos (bG [a] X.env)).all (λx=>!x.1)&&(cH cpos (cu [] X.env)).all (λx=>x.1.isSome)
   && decide ([a].length+([]:List UI).length+(if ([]:List UI).isEmpty then 0 else 1)<30))=true:=by rfl)
  (hline:(apos.endLine==cpos.line)=true:=by rfl) (hs:bG [a] X.env=(false,eval a X.env)::bG [] X.env:=by rfl) (hplain:(bT cpos (bG [] X.env)).any (·.1)=false:=by rfl) :
  PD X M (.Call (.Attribute '3' "index" apos) [a] [] cpos) (ev1 g (jf d)):=by
 obtain ⟨l,o,hm,hl,hc,hd,hD⟩:=C
 refine (qb7 PySem.F.plainAttrs_tuple Ey PySem.F.type_tuple_index (qgP hr) (qfY (v:=.ref l) hg hm rfl hdb) (qT he zV hs) hbase hfew hline hs hplain).weak λσ H Q ⟨S,ρ,d',hs,e,q⟩=>?_
 obtain ⟨dy,e2,e⟩:=qd e
 refine ⟨.inr (.inl ⟨rfl,o,hl,hc,hd⟩),S,ρ,[dy],hs,by show ob (g ρ) _=_;rw [e2];rfl,λvs H2 g2 dl=>?_⟩
 obtain ⟨w,rfl,dw⟩:=dl.inv1
 exact ⟨S,_,w,dy,d',rfl,hD H2 S,dw,e,hs.1.same g2,λv3 H3 g3 d3=>q v3 H3 (g2.trans g3) d3⟩
end
theorem qef (A:K0)(s:Kh)(a:Int)(t:Tok)(c:Int)(u:Tok)(prog:KJ)(w:KZ)(E:ah)(Q:ah)(h:Q (.bool (decide (a > c))) s):bK ',' A (cq .Gt (.int a t) (.int c u)) Q E s :=
 (PyProof.Rows.gt_int h:bK ',' A (bQ .Gt (.int a t) (.int c u)) Q E s)
mutual
def gtX:Ka->Ka->Option Bool
 | .int i,.int j=>some (decide (i > j))
 | .tuple xs,.tuple ys=>gtXs xs ys
 | _,_=>none
def gtXs:List Ka->List Ka->Option Bool
 | [],[]=>some false
 | [],_::_=>some false
 | _::_,[]=>some true
 | x::xs,y::ys=>if Kv x y=true then gtXs xs ys else gtX x y
end
def GtAt (A:K0)(s:Kh)(y x:Kc)(b:Bool):Prop:=∀ (prog:KJ) (w:KZ) (E Q:ah),Q (.bool b) s->bK ',' A (cq .Gt y x) Q E s
def qda (A:K0)(s:Kh):List Kc->List Kc->Bool->Prop
 | [],[],r=>r=false
 | [],_::_,r=>r=false
 | _::_,[],r=>r=true
 | y::ys,x::xs,r=>∃ e,SeqAt.EqAt A s y x e/\(e=true->qda A s ys xs r)/\(e=false->GtAt A s y x r)
section
open PySem.SeqAt
open PySem.AutoSeq1 (wpAny_loadPart')
open PySem.MeetsSeq PySem.MeetsSeq2 PySem.MeetsSeq3
theorem qc5 (l b:Ke)(items items2:aT)(n n2:Nat)(dd dd2:aI)(sl sl2:au) :
  Meets (UQ.«tuple.__gt__» ⟨[.ref l,.ref b],[]⟩)
   (λA R s=>s.heap.get? l=some { cls:=.type "tuple", dict:=dd,data:=.seq items n,slots:=sl }/\s.heap.get? b=some { cls:=.type "tuple", dict:=dd2,data:=.seq items2 n2,slots:=sl2 }/\∃ r,qda A.in1 s items.toList items2.toList r/\R (.ok (.ret (.bool r))) s) :=
 .of_wp λprog w A R s h=>by
  obtain ⟨hp,g,d,tk,os⟩:=s;obtain ⟨hl,hb,r,hx,h⟩:=h
  have f2:=AutoSeq1.sub_tuple_tuple;wp_walk using bO hl,bO hb,XH _ (λrest b s'=>b.1=none/\s'=⟨hp,g,d,tk,os⟩/\∃ (vs ws:az),rest=vs.zip ws/\
   qda A.in1 ⟨hp,g,d,tk,os⟩ vs ws r/\vs.length+items2.size=ws.length+items.size) _
  case turn =>
   rintro ⟨y,x⟩ rest b s' ⟨hb',rfl,vs,ws,hz,hlx,hlen⟩
   cases vs with
   | nil=>rw [Ei] at hz;cases hz
   | cons v vs =>
    cases ws with
    | nil=>rw [N1] at hz;cases hz
    | cons u ws =>
     rw [Xw] at hz
     injection hz with hyx hrest
     injection hyx with hy hx'
     subst hy hx'
     simp only [Kw] at hlen
     obtain ⟨e,he,h1,h2⟩:=hlx
     refine Kd (he prog w _ _ ?_)
     cases e with
     | true =>
      wp_walk
      exact ⟨rfl,rfl,_,_,hrest,h1 rfl,by omega⟩
     | false =>
      have hri:=h2 rfl prog w
      wp_walk using hri
      exact ⟨_,rfl,by simpa using h⟩
  case fin =>
   rintro ⟨b1,b2⟩ s' ⟨hb',rfl,vs,ws,hz,hlx,hlen⟩
   simp only at hb'
   subst hb'
   have hv:r=decide (items.size > items2.size):=by
    cases vs with
    | nil =>
     cases ws with
     | nil =>
      simp only [VO] at hlen
      rw [show r=false from hlx]
      exact (bH (by omega)).symm
     | cons c hw =>
      simp only [VO,Kw] at hlen
      rw [show r=false from hlx]
      exact (bH (by omega)).symm
    | cons a hv =>
     cases ws with
     | nil =>
      simp only [VO,Kw] at hlen
      rw [show r=true from hlx]
      exact (bF (by omega)).symm
     | cons c hw =>
      rw [Xw] at hz
      cases hz
   rw [hv] at h
   wp_walk
   exact ⟨_,rfl,by simpa [Ny] using h⟩
  case h =>
   exact ⟨rfl,rfl,items.toList,items2.toList,rfl,hx,by simp [Fh]⟩
end
theorem qhN {A:K0}{s:Kh}{items items2:aT}(hl:cT s.heap l items)(hb:cT s.heap b items2)(hu:A.units<cg)(h:qda A.in1 s items.toList items2.toList r):GtAt A s (.ref l) (.ref b) r:=λprog w E Q q=>by
 obtain ⟨⟨cls,dd,data,sl⟩,ho,hc,n,hd⟩:=id hl;obtain ⟨⟨cls2,dd2,data2,sl2⟩,ho2,hc2,n2,hd2⟩:=id hb
 simp only at hc hd hc2 hd2
 subst hc hd hc2 hd2
 exact Nf (op:=.Gt) ⟨_,ho,rfl⟩ ⟨_,ho2,rfl⟩ PySem.F.slot_tuple_gt PySem.F.entry_tuple_gt (PySem.F.args_tuple_gt_2 _ _) (qc5 l b items items2 n n2 dd dd2 sl sl2)
  ⟨ho,ho2,r,h,show Vv r≠NH/\Q (.bool r) s from ⟨(λx=>nomatch x),q⟩⟩ hu
theorem qdQ {A:K0}{s:Kh}(hu:A.units+m+1<cg)(hit:∀ (x y:Ka) (a b:Kc) (as bs:aH) (r:Bool),x.depth<=m->UN s.heap a x as->UN s.heap b y bs->x.canLay0=true->y.canLay0=true->gtX x y=some r->GtAt A s a b r) :
  ∀ (xs ys:ae) (vs ws:az) (as bs:aH) (r:Bool),KI xs<=m->V5 s.heap vs xs as->V5 s.heap ws ys bs->Kq xs=true->Kq ys=true->gtXs xs ys=some r->qda A s vs ws r:=by
 intro xs
 induction xs with
 | nil =>
  intro ys vs ws as bs r _ h1 h2 _ _ e
  cases h1
  cases ys with
  | nil=>cases h2;rw [gtXs] at e;cases e;rfl
  | cons y ys=>cases h2;rw [gtXs] at e;cases e;rfl
 | cons x xs ih =>
  intro ys vs ws as bs r hm h1 h2 c1 c2 e
  cases h1 with
  | cons rx rxs =>
   cases ys with
   | nil=>cases h2;rw [gtXs] at e;cases e;rfl
   | cons y ys =>
    cases h2 with
    | cons ry rys =>
     have c1':x.canLay0=true/\Kq xs=true:=by simpa [Kq] using c1
     have c2':y.canLay0=true/\Kq ys=true:=by simpa [Kq] using c2
     have hd:max x.depth (KI xs)<=m:=by rw [KI] at hm;exact hm
     have m1:=Ve (NJ x.depth (KI xs)) hd
     have m2:=Ve (Np x.depth (KI xs)) hd
     rw [gtXs] at e
     refine ⟨Kv x y,Nl x y A s _ _ _ _ rx ry c1'.1 c2'.1 (by have:=ND x.depth y.depth;omega),λq=>?_,λq=>?_⟩
     ·rw [bI q] at e
      exact ih ys _ _ _ _ r m2 rxs rys c1'.2 c2'.2 e
     ·rw [bJ (by rw [q];exact VJ)] at e
      exact hit x y _ _ _ _ r m1 rx ry c1'.1 c2'.1 e
theorem qew:∀ (n:Nat) (da db:Ka) (A:K0) (s:Kh) (a b:Kc) (as bs:aH) (r:Bool),da.depth<=n->UN s.heap a da as->UN s.heap b db bs->da.canLay0=true->db.canLay0=true->A.units+n+1<cg->gtX da db=some r->GtAt A s a b r:=by
 intro n
 induction n with
 | zero =>
  intro da db A s a b as bs r hd ra rb ca cb hu e
  cases da with
  | int i =>
   cases db with
   | int j =>
    cases ra;cases rb
    rw [gtX] at e
    cases e
    exact λprog w E Q q=>qef A s i _ j _ prog w E Q q
   | _=>simp [gtX] at e
  | tuple xs =>
   rw [UO] at hd
   omega
  | _=>simp [gtX] at e
 | succ n ih =>
  intro da db A s a b as bs r hd ra rb ca cb hu e
  cases da with
  | int i =>
   cases db with
   | int j =>
    cases ra;cases rb
    rw [gtX] at e
    cases e
    exact λprog w E Q q=>qef A s i _ j _ prog w E Q q
   | _=>simp [gtX] at e
  | tuple xs =>
   cases db with
   | tuple ys =>
    rw [UO] at hd
    rw [gtX] at e
    cases ra with
    | tuple e1 c1 d1 t1 =>
     cases rb with
     | tuple e2 c2 d2 t2 =>
      refine qhN ⟨_,e1,c1,_,d1⟩ ⟨_,e2,c2,_,d2⟩ (by omega) ?_
      exact qdQ (m:=n) (by show A.units+1+n+1<cg;omega) (λx y a b as bs r hx r1 r2 k1 k2 e=>ih x y A.in1 s a b as bs r hx r1 r2 k1 k2 (by show A.units+1+n+1<cg;omega) e)
       xs ys _ _ _ _ r (by omega) t1 t2 (by simpa [KP] using ca) (by simpa [KP] using cb) e
   | _=>simp [gtX] at e
  | _=>simp [gtX] at e
def bestOf (bt:aM):Nat->Nat
 | 0=>0
 | k+1=>if bt (k+1) (bestOf bt k) then k+1 else bestOf bt k
theorem Ws (bt:aM):∀ k,bestOf bt k<=k
 | 0=>Kp _
 | k+1=>by
  have:=Ws bt k
  rw [bestOf]
  split<;>omega
def qbH (prog:KJ)(w:KZ)(A:K0)(h0:KS)(P:Nat->Kc->Prop)(bt:aM):Prop :=
 ∀ (i j:Nat) (x y:Kc) (s:Kh) (Q E:ah),j<i->(∀ b o,h0.get? b=some o->s.heap.get? b=some o)->P i x->P j y->Q (.bool (bt i j)) s->bK ',' A (cq .Lt x y) Q E s
section
variable {prog:KJ}{w:KZ}{A:K0}{R:bg}{it:Ke}{fp wr:aH}{n:Nat}{P:Nat->Kc->Prop}{St:bw}{h0:KS}
theorem qh9 (W:Walks prog w A.in1 it fp wr n P St)(bt:aM)(hc:qbH prog w A.in1 h0 P bt)(Z:Ke)(hZ:Z∉fp)(hw:∀ b o,h0.get? b=some o->b∉wr/\b≠Z)(kw:ba) :
  ∀ (m j:Nat) (s:Kh) (x:Kc) (c:Nat),n-(j+1)=m->j+1<=n->St (j+1) s.heap->P (bestOf bt j) x->(∀ b o,h0.get? b=some o->s.heap.get? b=some o)->
  s.heap.get? Z=some { cls:=.type "list", dict:=none,data:=.seq #[x,x] c,slots:=#[] }->
  (∀ v g tk,P (bestOf bt (n-1)) v->(∀ b o,b∉wr->b≠Z->s.heap.get? b=some o->g.get? b=some o)->R (.ok (.ret v)) { s with heap:=g,toks:=tk })->
  cA ',' A (.builtin "min.loop" ⟨[.ref it,.none,.ref Z],kw⟩) R s:=by
 have zw:Z∉wr:=λh=>hZ (W.sub _ h)
 have nm:(toString "min" ++ toString ".loop" : String) = "min.loop" := by decide
 intro m
 induction m with
 | zero =>
  intro j s x c hm hj st hP hb hz hR
  have last:j+1=n:=by omega
  refine Uz Ez ?_;rw [Uh UV _]
  show bK _ A.in1 (cG (.ref Z) >>= _) _ _ s
  refine Kd (Ut hz rfl ?_)
  show bK _ A.in1 (tryCatch (cJ (.ref it)) _ >>= _) _ _ s
  refine Kd (UW (W.done s _ _ (last ▸ st) λg tk k=>?_))
  have hz':=k Z _ zw hz
  show bK _ A.in1 (updateSeq Z (λ_=>#[]) >>= _) _ _ _
  refine Kd (Xa hz' rfl (Kd (U1 (Kn ?_))))
  exact hR x _ tk (by rw [← last];exact hP) λb o h1 h2 e=>(K6 _ _ (λz=>h2 z.symm)).trans (k b o h1 e)
 | succ m ih =>
  intro j s x c hm hj st hP hb hz hR
  have more:j+1<n:=by omega
  refine Uz Ez ?_;rw [Uh UV _]
  show bK _ A.in1 (cG (.ref Z) >>= _) _ _ s
  refine Kd (Ut hz rfl ?_)
  show bK _ A.in1 (tryCatch (cJ (.ref it)) _ >>= _) _ _ s
  refine Kd (UW (W.item (j+1) s _ _ more st λy g tk hy st' k=>?_))
  have hz':=k Z _ zw hz
  have hb':∀ b o,h0.get? b=some o->g.get? b=some o:=λb o e=>k b o (hw b o e).1 (hb b o e)
  show bK _ A.in1 (tryCatch (holding [y,y] (cq .Lt y x >>= _)) _ >>= _) _ _ _
  refine Kd (UW (VZ (Kd (hc (j+1) (bestOf bt j) y x _ _ _ (Nat.lt_succ_of_le (Ws bt j)) hb' hy hP ?_))))
  refine Kd (VZ (Ua (Kd (U1 (Kn ?_)))))
  cases hh:bt (j+1) (bestOf bt j) with
  | true =>
   simp only [cw]
   refine Kd (Xa hz' rfl (Kd (U1 ?_)))
   rw [nm]
   refine Kn ⟨Uq UV _,ih (j+1) _ y _ (by omega) more (W.frame _ _ _ st' λb h1 o e=>(K6 _ _ (λh:Z=b=>hZ (by rw [h];exact h1))).trans e) (by simp only [bestOf,hh,cw];exact hy)
    (λb o e=>(K6 _ _ (λh:Z=b=>(hw b o e).2 h.symm)).trans (hb' b o e)) (UJ _ hz' rfl) λv g2 tk2 h1 h2=>?_⟩
   exact hR v g2 tk2 h1 λb o n1 n2 e=>h2 b o n1 n2 ((K6 _ _ (λz=>n2 z.symm)).trans (k b o n1 e))
  | false =>
   simp only [VL,cm];refine Kd (U1 ?_)
   rw [nm]
   refine Kn ⟨Uq UV _,ih (j+1) _ x c (by omega) more st' (by simp only [bestOf,hh,VL,cm];exact hP) hb' hz' λv g2 tk2 h1 h2=>?_⟩
   exact hR v g2 tk2 h1 λb o n1 n2 e=>h2 b o n1 n2 (k b o n1 e)
theorem qgL (W:Walks prog w A.in1 it fp wr n P St)(bt:aM)(hc:qbH prog w A.in1 h0 P bt)(Z:Ke)(hZ:Z∉fp)(hw:∀ b o,h0.get? b=some o->b∉wr/\b≠Z)(kw:ba)(hn:0<n){s:Kh}{c:Nat}(st:St 0 s.heap)(hb:∀ b o,h0.get? b=some o->s.heap.get? b=some o)
  (hz:s.heap.get? Z=some { cls:=.type "list", dict:=none,data:=.seq #[] c,slots:=#[] })
  (hR:∀ v g tk,P (bestOf bt (n-1)) v->(∀ b o,b∉wr->b≠Z->s.heap.get? b=some o->g.get? b=some o)->R (.ok (.ret v)) { s with heap:=g,toks:=tk }) :
  cA ',' A (.builtin "min.loop" ⟨[.ref it,.none,.ref Z],kw⟩) R s:=by
 have zw:Z∉wr:=λh=>hZ (W.sub _ h)
 have nm:(toString "min" ++ toString ".loop" : String) = "min.loop" := by decide
 refine Uz Ez ?_;rw [Uh UV _]
 show bK _ A.in1 (cG (.ref Z) >>= _) _ _ s
 refine Kd (Ut hz rfl ?_)
 show bK _ A.in1 (tryCatch (cJ (.ref it)) _ >>= _) _ _ s
 refine Kd (UW (W.item 0 s _ _ hn st λy g tk hy st' k=>?_))
 have hz':=k Z _ zw hz
 show bK _ A.in1 (updateSeq Z (λ_=>#[y,y]) >>= _) _ _ _
 refine Kd (Xa hz' rfl ?_)
 rw [nm]
 refine Kn ⟨Uq UV _,qh9 W bt hc Z hZ hw kw _ 0 _ y _ rfl hn (W.frame _ _ _ st' λb h1 o e=>(K6 _ _ (λh:Z=b=>hZ (by rw [h];exact h1))).trans e) hy
  (λb o e=>(K6 _ _ (λh:Z=b=>(hw b o e).2 h.symm)).trans (k b o (hw b o e).1 (hb b o e))) (UJ _ hz' rfl) λv g2 tk2 h1 h2=>?_⟩
 exact hR v g2 tk2 h1 λb o n1 n2 e=>h2 b o n1 n2 ((K6 _ _ (λz=>n2 z.symm)).trans (k b o n1 e))
end
section
variable {s:Kh}{prog:KJ}{w:KZ}{A:K0}{E:ah}
theorem qli {Q:ah}(hh:A.handled=none)(hc:∀ (s':Kh) (Q' E':ah),(∀ b o,s.heap.get? b=some o->s'.heap.get? b=some o)->Q' (.bool b) s'->bK ',' A.in1 (cq .Lt y x) Q' E' s')
  (h:∀ g tk,(∀ b o,s.heap.get? b=some o->g.get? b=some o)->Q (if b=true then y else x) { s with heap:=g,toks:=tk }):bK ',' A (call (.builtin "min") [x,y]) Q E s:=by
 have nm:(toString "min" ++ toString ".loop" : String) = "min.loop" := by decide
 have hT:(s.heap.push { cls:=.type "tuple", data:=.seq #[x,y] }).IsTuple s.heap.objs.size #[x,y]:=⟨_,Kx _ rfl,rfl,0,rfl⟩
 have z1:(s.heap.push { cls:=.type "tuple", data:=.seq #[x,y] }).objs.size=s.heap.objs.size+1:=Vo ..
 refine call_function_tree (id := "min") F.kind_min F.plain_min F.entry_min (F.args_min2 x y) ?_
 have par:U5 "min" ["key", "default"] 0 ⟨[],[]⟩=pure [none,none]:=rfl
 refine (Kd (ER par ?_):bK _ A.in1 (U5 "min" _ 0 _ >>= _) _ _ s)
 refine Kd (Vx ?_);refine Kd (Xv hT (Kd (Vx ?_)))
 rw [nm]
 have lt:∀ {b:Ke} {o:Obj},s.heap.get? b=some o->b<s.heap.objs.size:=λe=>KF e
 refine Kn ⟨Uq UV _,qgL (h0:=s.heap) (Walks.tuple (A:=A.in1) hh _ s.heap.objs.size (by rw [z1];exact KW (UE _)) #[x,y]) (λ_ _=>b) (λi j u v s' Q' E' hij k hu hv q=>?_) _ ?_ (λb o e=>?_) [] (by simp)
  ⟨⟨_,Ki _ (Kx _ rfl),rfl,rfl⟩,(hT.push _).push _⟩ (λb o e=>Ki _ (Ki _ (Ki _ e))) (Kx _ rfl) λv g tk hv k=>?_⟩
 ·dsimp only at hu hv
  have hi:i<2:=by
   rcases Fi i 2 with z|z
   ·exact z
   ·rw [U0 (by simpa using z)] at hu;cases hu
  obtain rfl:i=1:=by omega
  obtain rfl:j=0:=by omega
  cases hu
  cases hv
  exact hc s' Q' E' k q
 ·dsimp only
  simp only [Vo]
  intro hm;simp only [Kr,VW,cC] at hm
  rcases hm with hm|hm
  ·exact EA _ hm
  ·exact absurd hm (UC (Vm (UE _)))
 ·have:=lt e
  simp only [Vo]
  exact ⟨λhm=>absurd (Ks.mp hm) (KW (Vm this)),KW (Vm (Vm this))⟩
 ·have hv':v=if b=true then y else x:=by
   cases b with
   | true=>cases hv;rfl
   | false=>cases hv;rfl
  rw [hv']
  refine h g tk λb o e=>k b o ?_ ?_ (Ki _ (Ki _ (Ki _ e)))
  ·have:=lt e
   simp only [Vo]
   exact λhm=>absurd (Ks.mp hm) (KW (Vm this))
  ·have:=lt e
   simp only [Vo]
   exact KW (Vm (Vm this))
end
def qbG (prog:KJ)(w:KZ)(A:K0)(h0:KS)(P:Nat->Kc->Prop)(bt:aM):Prop :=
 ∀ (i j:Nat) (x y:Kc) (s:Kh) (Q E:ah),j<i->(∀ b o,h0.get? b=some o->s.heap.get? b=some o)->P i x->P j y->Q (.bool (bt i j)) s->bK ',' A (cq .Gt x y) Q E s
section
variable {prog:KJ}{w:KZ}{A:K0}{R:bg}{it:Ke}{fp wr:aH}{n:Nat}{P:Nat->Kc->Prop}{St:bw}{h0:KS}
theorem qh8 (W:Walks prog w A.in1 it fp wr n P St)(bt:aM)(hc:qbG prog w A.in1 h0 P bt)(Z:Ke)(hZ:Z∉fp)(hw:∀ b o,h0.get? b=some o->b∉wr/\b≠Z)(kw:ba) :
  ∀ (m j:Nat) (s:Kh) (x:Kc) (c:Nat),n-(j+1)=m->j+1<=n->St (j+1) s.heap->P (bestOf bt j) x->(∀ b o,h0.get? b=some o->s.heap.get? b=some o)->
  s.heap.get? Z=some { cls:=.type "list", dict:=none,data:=.seq #[x,x] c,slots:=#[] }->
  (∀ v g tk,P (bestOf bt (n-1)) v->(∀ b o,b∉wr->b≠Z->s.heap.get? b=some o->g.get? b=some o)->R (.ok (.ret v)) { s with heap:=g,toks:=tk })->
  cA ',' A (.builtin "max.loop" ⟨[.ref it,.none,.ref Z],kw⟩) R s:=by
 have zw:Z∉wr:=λh=>hZ (W.sub _ h)
 have nm:(toString "max" ++ toString ".loop" : String) = "max.loop" := by decide
 intro m
 induction m with
 | zero =>
  intro j s x c hm hj st hP hb hz hR
  have last:j+1=n:=by omega
  refine Uz EB ?_;rw [Uh UX _]
  show bK _ A.in1 (cG (.ref Z) >>= _) _ _ s
  refine Kd (Ut hz rfl ?_)
  show bK _ A.in1 (tryCatch (cJ (.ref it)) _ >>= _) _ _ s
  refine Kd (UW (W.done s _ _ (last ▸ st) λg tk k=>?_))
  have hz':=k Z _ zw hz
  show bK _ A.in1 (updateSeq Z (λ_=>#[]) >>= _) _ _ _
  refine Kd (Xa hz' rfl (Kd (U1 (Kn ?_))))
  exact hR x _ tk (by rw [← last];exact hP) λb o h1 h2 e=>(K6 _ _ (λz=>h2 z.symm)).trans (k b o h1 e)
 | succ m ih =>
  intro j s x c hm hj st hP hb hz hR
  have more:j+1<n:=by omega
  refine Uz EB ?_;rw [Uh UX _]
  show bK _ A.in1 (cG (.ref Z) >>= _) _ _ s
  refine Kd (Ut hz rfl ?_)
  show bK _ A.in1 (tryCatch (cJ (.ref it)) _ >>= _) _ _ s
  refine Kd (UW (W.item (j+1) s _ _ more st λy g tk hy st' k=>?_))
  have hz':=k Z _ zw hz
  have hb':∀ b o,h0.get? b=some o->g.get? b=some o:=λb o e=>k b o (hw b o e).1 (hb b o e)
  show bK _ A.in1 (tryCatch (holding [y,y] (cq .Gt y x >>= _)) _ >>= _) _ _ _
  refine Kd (UW (VZ (Kd (hc (j+1) (bestOf bt j) y x _ _ _ (Nat.lt_succ_of_le (Ws bt j)) hb' hy hP ?_))))
  refine Kd (VZ (Ua (Kd (U1 (Kn ?_)))))
  cases hh:bt (j+1) (bestOf bt j) with
  | true =>
   simp only [cw]
   refine Kd (Xa hz' rfl (Kd (U1 ?_)))
   rw [nm]
   refine Kn ⟨Uq UX _,ih (j+1) _ y _ (by omega) more (W.frame _ _ _ st' λb h1 o e=>(K6 _ _ (λh:Z=b=>hZ (by rw [h];exact h1))).trans e) (by simp only [bestOf,hh,cw];exact hy)
    (λb o e=>(K6 _ _ (λh:Z=b=>(hw b o e).2 h.symm)).trans (hb' b o e)) (UJ _ hz' rfl) λv g2 tk2 h1 h2=>?_⟩
   exact hR v g2 tk2 h1 λb o n1 n2 e=>h2 b o n1 n2 ((K6 _ _ (λz=>n2 z.symm)).trans (k b o n1 e))
  | false =>
   simp only [VL,cm];refine Kd (U1 ?_)
   rw [nm]
   refine Kn ⟨Uq UX _,ih (j+1) _ x c (by omega) more st' (by simp only [bestOf,hh,VL,cm];exact hP) hb' hz' λv g2 tk2 h1 h2=>?_⟩
   exact hR v g2 tk2 h1 λb o n1 n2 e=>h2 b o n1 n2 (k b o n1 e)
theorem qgK (W:Walks prog w A.in1 it fp wr n P St)(bt:aM)(hc:qbG prog w A.in1 h0 P bt)(Z:Ke)(hZ:Z∉fp)(hw:∀ b o,h0.get? b=some o->b∉wr/\b≠Z)(kw:ba)(hn:0<n){s:Kh}{c:Nat}(st:St 0 s.heap)(hb:∀ b o,h0.get? b=some o->s.heap.get? b=some o)
  (hz:s.heap.get? Z=some { cls:=.type "list", dict:=none,data:=.seq #[] c,slots:=#[] })
  (hR:∀ v g tk,P (bestOf bt (n-1)) v->(∀ b o,b∉wr->b≠Z->s.heap.get? b=some o->g.get? b=some o)->R (.ok (.ret v)) { s with heap:=g,toks:=tk }) :
  cA ',' A (.builtin "max.loop" ⟨[.ref it,.none,.ref Z],kw⟩) R s:=by
 have zw:Z∉wr:=λh=>hZ (W.sub _ h)
 have nm:(toString "max" ++ toString ".loop" : String) = "max.loop" := by decide
 refine Uz EB ?_;rw [Uh UX _]
 show bK _ A.in1 (cG (.ref Z) >>= _) _ _ s
 refine Kd (Ut hz rfl ?_)
 show bK _ A.in1 (tryCatch (cJ (.ref it)) _ >>= _) _ _ s
 refine Kd (UW (W.item 0 s _ _ hn st λy g tk hy st' k=>?_))
 have hz':=k Z _ zw hz
 show bK _ A.in1 (updateSeq Z (λ_=>#[y,y]) >>= _) _ _ _
 refine Kd (Xa hz' rfl ?_)
 rw [nm]
 refine Kn ⟨Uq UX _,qh8 W bt hc Z hZ hw kw _ 0 _ y _ rfl hn (W.frame _ _ _ st' λb h1 o e=>(K6 _ _ (λh:Z=b=>hZ (by rw [h];exact h1))).trans e) hy
  (λb o e=>(K6 _ _ (λh:Z=b=>(hw b o e).2 h.symm)).trans (k b o (hw b o e).1 (hb b o e))) (UJ _ hz' rfl) λv g2 tk2 h1 h2=>?_⟩
 exact hR v g2 tk2 h1 λb o n1 n2 e=>h2 b o n1 n2 ((K6 _ _ (λz=>n2 z.symm)).trans (k b o n1 e))
end
section
variable {s:Kh}{prog:KJ}{w:KZ}{A:K0}{E:ah}
theorem qlh {Q:ah}(hh:A.handled=none)(hc:∀ (s':Kh) (Q' E':ah),(∀ b o,s.heap.get? b=some o->s'.heap.get? b=some o)->Q' (.bool b) s'->bK ',' A.in1 (cq .Gt y x) Q' E' s')
  (h:∀ g tk,(∀ b o,s.heap.get? b=some o->g.get? b=some o)->Q (if b=true then y else x) { s with heap:=g,toks:=tk }):bK ',' A (call (.builtin "max") [x,y]) Q E s:=by
 have nm:(toString "max" ++ toString ".loop" : String) = "max.loop" := by decide
 have hT:(s.heap.push { cls:=.type "tuple", data:=.seq #[x,y] }).IsTuple s.heap.objs.size #[x,y]:=⟨_,Kx _ rfl,rfl,0,rfl⟩
 have z1:(s.heap.push { cls:=.type "tuple", data:=.seq #[x,y] }).objs.size=s.heap.objs.size+1:=Vo ..
 refine call_function_tree (id := "max") F.kind_max F.plain_max F.entry_max (F.args_max2 x y) ?_
 have par:U5 "max" ["key", "default"] 0 ⟨[],[]⟩=pure [none,none]:=rfl
 refine (Kd (ER par ?_):bK _ A.in1 (U5 "max" _ 0 _ >>= _) _ _ s)
 refine Kd (Vx ?_);refine Kd (Xv hT (Kd (Vx ?_)))
 rw [nm]
 have lt:∀ {b:Ke} {o:Obj},s.heap.get? b=some o->b<s.heap.objs.size:=λe=>KF e
 refine Kn ⟨Uq UX _,qgK (h0:=s.heap) (Walks.tuple (A:=A.in1) hh _ s.heap.objs.size (by rw [z1];exact KW (UE _)) #[x,y]) (λ_ _=>b) (λi j u v s' Q' E' hij k hu hv q=>?_) _ ?_ (λb o e=>?_) [] (by simp)
  ⟨⟨_,Ki _ (Kx _ rfl),rfl,rfl⟩,(hT.push _).push _⟩ (λb o e=>Ki _ (Ki _ (Ki _ e))) (Kx _ rfl) λv g tk hv k=>?_⟩
 ·dsimp only at hu hv
  have hi:i<2:=by
   rcases Fi i 2 with z|z
   ·exact z
   ·rw [U0 (by simpa using z)] at hu;cases hu
  obtain rfl:i=1:=by omega
  obtain rfl:j=0:=by omega
  cases hu
  cases hv
  exact hc s' Q' E' k q
 ·dsimp only
  simp only [Vo]
  intro hm;simp only [Kr,VW,cC] at hm
  rcases hm with hm|hm
  ·exact EA _ hm
  ·exact absurd hm (UC (Vm (UE _)))
 ·have:=lt e
  simp only [Vo]
  exact ⟨λhm=>absurd (Ks.mp hm) (KW (Vm this)),KW (Vm (Vm this))⟩
 ·have hv':v=if b=true then y else x:=by
   cases b with
   | true=>cases hv;rfl
   | false=>cases hv;rfl
  rw [hv']
  refine h g tk λb o e=>k b o ?_ ?_ (Ki _ (Ki _ (Ki _ e)))
  ·have:=lt e
   simp only [Vo]
   exact λhm=>absurd (Ks.mp hm) (KW (Vm this))
  ·have:=lt e
   simp only [Vo]
   exact KW (Vm (Vm this))
end
section
variable {X:Cx}
def JP:List Ka->Option Ka
 | [x,y]=>if Vf x=true/\Vf y=true/\y.depth<=50 then ob (ltX y x) λr=>some (if r=true then y else x) else none
 | _=>none
def JN:List Ka->Option Ka
 | [x,y]=>if Vf x=true/\Vf y=true/\y.depth<=50 then ob (gtX y x) λr=>some (if r=true then y else x) else none
 | _=>none
theorem qjt (hr:Room k X.A):CallD X (.builtin "min") JP:=λbE s σ H xs us Q I r ⟨S,ds,d,m,h1,e,q⟩=>by
 unfold JP at e
 split at e
 ·split at e
  ·rename_i hc
   obtain ⟨b,e1,e⟩:=qd e
   cases e
   obtain ⟨v1,v2,rfl,d1,d2⟩:=h1.inv2
   obtain ⟨u1,u2,rfl,r1,r2⟩:=vals2 r
   obtain ⟨as,q1⟩:=d1.reads I (K7 hc.1) r1
   obtain ⟨bs,q2⟩:=d2.reads I (K7 hc.2.1) r2
   have hu:=hr.units
   refine qli (b:=b) hr.hd (λs' Q' E' k q'=>YD 50 _ _ X.A.in1 s' u2 u1 bs as b hc.2.2 (Reads.keeps k q2) (Reads.keeps k q1) (K7 hc.2.1) (K7 hc.1) (by show X.A.units+1+50+1<cg;omega) e1 X.prog X.w E' Q' q') λg tk k=>?_
   cases b with
   | true=>exact ⟨v2,H,I.kept k,r2,q _ H (Same.refl H) d2⟩
   | false=>exact ⟨v1,H,I.kept k,r1,q _ H (Same.refl H) d1⟩
  ·cases e
 ·cases e
theorem qjs (hr:Room k X.A):CallD X (.builtin "max") JN:=λbE s σ H xs us Q I r ⟨S,ds,d,m,h1,e,q⟩=>by
 unfold JN at e
 split at e
 ·split at e
  ·rename_i hc
   obtain ⟨b,e1,e⟩:=qd e
   cases e
   obtain ⟨v1,v2,rfl,d1,d2⟩:=h1.inv2
   obtain ⟨u1,u2,rfl,r1,r2⟩:=vals2 r
   obtain ⟨as,q1⟩:=d1.reads I (K7 hc.1) r1
   obtain ⟨bs,q2⟩:=d2.reads I (K7 hc.2.1) r2
   have hu:=hr.units
   refine qlh (b:=b) hr.hd (λs' Q' E' k q'=>qew 50 _ _ X.A.in1 s' u2 u1 bs as b hc.2.2 (Reads.keeps k q2) (Reads.keeps k q1) (K7 hc.2.1) (K7 hc.1) (by show X.A.units+1+50+1<cg;omega) e1 X.prog X.w E' Q' q') λg tk k=>?_
   cases b with
   | true=>exact ⟨v2,H,I.kept k,r2,q _ H (Same.refl H) d2⟩
   | false=>exact ⟨v1,H,I.kept k,r1,q _ H (Same.refl H) d1⟩
  ·cases e
 ·cases e
theorem qa3 (x y:Ka):JP [x,y]=if Vf x=true/\Vf y=true/\y.depth<=50 then ob (ltX y x) λr=>some (if r=true then y else x) else none:=rfl
theorem qa2 (x y:Ka):JN [x,y]=if Vf x=true/\Vf y=true/\y.depth<=50 then ob (gtX y x) λr=>some (if r=true then y else x) else none:=rfl
theorem qif (i j:Int):JP [.int i,.int j]=some (.int (if j<i then j else i)):=by
 have c:Vf (.int i)=true/\Vf (.int j)=true/\(Km j).depth<=50:=⟨rfl,rfl,Vh _⟩
 rw [qa3,bI c,ltX]
 by_cases h:j<i
 ·rw [bI h,bF h];rfl
 ·rw [bJ h,bH h];rfl
theorem qie (i j:Int):JN [.int i,.int j]=some (.int (if j > i then j else i)):=by
 have c:Vf (.int i)=true/\Vf (.int j)=true/\(Km j).depth<=50:=⟨rfl,rfl,Vh _⟩
 rw [qa2,bI c,gtX]
 by_cases h:j > i
 ·rw [bI h,bF h];rfl
 ·rw [bJ h,bH h];rfl
end
section
variable {prog:KJ}{w:KZ}{A:K0}{E:ah}{s:Kh}
theorem qeq {od:Obj}  {Q:ah} (hd:(d==cB)=false) (ho:s.heap.get? d=some od) (hx:od.ExactDict) (hdat:od.data=.dict es ep)
  (h:Q (.ref s.heap.objs.size) { s with heap:=s.heap.push { cls:=.type "dict_items", data:=.fields #[.ref d] } }):bK ',' A (call (.builtin "dict.items") [.ref d]) Q E s:=by
 have hT:s.TypeIs (.ref d) "dict" := ⟨od,ho,hx.1⟩
 refine V4 E5 hT F.entry_dict_items (id ?_) (F.args_dict_items_1 _)
 unfold UQ.«dict.items»
 refine Kd (id ?_)
 unfold Builtin.Dict.noArgs
 refine Kd (wpAny_notOrdered_dict hT (id ?_:bK _ _ (pure d) _ _ s))
 refine Kn (id ?_:bK _ _ (Builtin.Dict.showsAll d >>= _) _ _ s)
 unfold Builtin.Dict.showsAll
 rw [bJ (λz=>by rw [hd] at z;cases z)]
 refine Kd (Kn (id ?_))
 exact Kd (Vx (Kn ⟨_,rfl,h⟩))
theorem qhV {od:Obj}  {Q:ah} (hv:s.heap.IsItemsView v d) (ho:s.heap.get? d=some od) (hdat:od.data=.dict es ep)
  (hQ:Q (.ref s.heap.objs.size) { s with heap:=s.heap.push { cls:=.type "dict_itemiterator", data:=.fields #[.none,.bool false,.ref d,.int 0 0,.int es.size 0,.int ep 0,.none,.none] } }):bK ',' A (pyIter (.ref v)) Q E s:=by
 obtain ⟨ov,hov,hcv,hdv⟩:=id hv
 refine wpAny_pyIter_slot hv.typeIs F.slot_dict_items_iter (V4 F.slot_dict_items_iter hv.typeIs F.entry_dict_items_iter (id ?_) (F.args_dict_items_iter_1 _))
 unfold UQ.«dict_items.__iter__»
 refine Kd (Kn (Kd (id ?_)))
 unfold Builtin.Dict_items.dictOf
 refine Kd (UK hov hdv (x:=.ref d) rfl (Kn (Kd (id ?_))))
 unfold Builtin.Dict_items.newIterator
 refine Kd (Ej ho hdat (Kd (EL ho hdat (id ?_))))
 have hown:XC "dict_itemiterator" = true:=by decide
 simp only [hown,cw];refine Vx (Kn ⟨_,rfl, "dict_itemiterator", _,⟨_,Kx _ rfl,rfl⟩,V6.lookup,?_⟩) (by simp only [sizeOk,X8,KA,Kj,Kw,VO,Xj];omega)
 simpa [cI,X8] using hQ
theorem qbE {od:Obj}{es:Array Xp}  {Q:Option Kc->Kh->Prop} (hit:U2 s.heap it d i es.size ep ok ov) (hod:s.heap.get? d=some od) (hdd:od.data=.dict es ep) (hx:es[i]?=some en)
  (hQ:∀ h',IsItemIterOut h' it d (i+1) es.size ep en.key en.val s.heap.objs.size->h'.get? s.heap.objs.size=some { cls:=.type "tuple", data:=.seq #[en.key,en.val] }->
   (∀ b o,b≠it->s.heap.get? b=some o->h'.get? b=some o)->Q (some (.ref s.heap.objs.size)) { s with heap:=h' }):bK ',' A (cJ (.ref it)) Q E s:=by
 obtain ⟨hp,g,dr,tk,os⟩:=s
 have hT:Shared.TypeIs ⟨hp,g,dr,tk,os⟩ (.ref it) "dict_itemiterator" := ⟨_,hit,rfl⟩
 unfold cJ
 refine Kd (wpAny_attempt (US (name:=Kg "__next__") hT V6 (V4 V6 hT NM (Kd (Kn (Kd (Kd ?_)))) (Nz _))))
 first|refine Kd (UP hT (Kn (Kd (NT hit rfl ?_))))|refine Kd (Xh hT (Kn (Kd (NT hit rfl ?_))))
 have hown:XC "dict_itemiterator" = true:=by decide
 simp only [hown,cw];refine (id ?_:bK _ _ (if (Vd d==VE)=true then _ else _) _ _ _)
 rw [bJ (λz=>VJ z:¬ ((Vd d==VE)=true))]
 refine Kd (Kn (Kd (Ej hod hdd ?_)))
 rw [bJ (by simp)];refine Kd (Kn (Kd (EL hod hdd ?_)))
 rw [bJ (by simp)];refine Kn (id ?_)
 have hlt':i<es.size:=(Eb.mp hx).1
 have hee:es[i]=en:=(Eb.mp hx).2
 simp only [show ¬ ((i:Int)<0) from by omega,cm,K4,VS hlt',hee];refine Kd (id ?_)
 first|refine Kd (UP hT (Kn (Kd (Xz hT ?_))))|refine Kd (Xh hT (Kn (Kd (Xz hT ?_))))
 refine (Kd (Xx hit (by simp) λh₁ he₁ hs₁=>?_):bK _ _ (setField (.ref it) 3 (cI ((i:Int)+1)) >>= _) _ _ ⟨hp,g,dr,tk,os⟩)
 have hs₁:UB it hp h₁:=hs₁
 have he₁:U2 h₁ it d (i+1) es.size ep ok ov:=by
  have e:((i+1:Nat):Int)=(i:Int)+1:=by omega
  unfold U2;rw [e];simpa [cI] using he₁
 have hT₁:Shared.TypeIs ⟨h₁,g,dr,tk,os⟩ (.ref it) "dict_itemiterator" := ⟨_,he₁,rfl⟩
 refine Kd (VZ (Kd (Xz hT₁ (Kd (Xz hT₁ ?_)))))
 refine (id ?_:bK _ _ (Nq (.ref it) 6 en.key en.val) _ _ ⟨h₁,g,dr,tk,os⟩)
 unfold Nq
 refine Kd (EZ (id ?_))
 have he₂:U2 (h₁.push { cls:=.type "tuple", data:=.seq #[en.key,en.val] }) it d (i+1) es.size ep ok ov:=Ki _ he₁
 generalize hh₂:h₁.push { cls:=.type "tuple", data:=.seq #[en.key,en.val] }=h₂ at he₂
 have hz₁:h₁.objs.size=hp.objs.size:=hs₁.1
 have hil:it<hp.objs.size:=KF hit
 have ht₂:h₂.get? hp.objs.size=some { cls:=.type "tuple", data:=.seq #[en.key,en.val] }:=by rw [← hh₂,← hz₁];exact Kx _ rfl
 have hk₂:∀ b o,b≠it->hp.get? b=some o->h₂.get? b=some o:=λb o hb e=>by rw [← hh₂];exact Ki _ (hs₁.extBut b o hb e)
 refine (id ?_:bK _ _ (X9 (.ref it) >>= _) _ _ ⟨h₂,g,dr,tk,os⟩)
 rw [hz₁]
 refine Kd (id ?_);unfold X9
 refine Kd (UK he₂ rfl (x:=.none) rfl (Kn (id ?_)));simp only [cw]
 refine Kd (UK he₂ rfl (x:=ok) rfl (Kd (UK he₂ rfl (x:=ov) rfl (Kd (Xx he₂ (by simp) λh₃ he₃ hs₃=>?_)))))
 have hs₃:UB it h₂ h₃:=hs₃
 have he₃:U2 h₃ it d (i+1) es.size ep en.key ov:=he₃
 refine Kd (Xx he₃ (by simp) λh₄ he₄ hs₄=>(id ?_))
 have hs₄:UB it h₃ h₄:=hs₄
 have he₄:U2 h₄ it d (i+1) es.size ep en.key en.val:=he₄
 refine Kd (Xx he₄ (by simp) λh₅ he₅ hs₅=>(id ?_))
 have hs₅:UB it h₄ h₅:=hs₅
 have he₅:IsItemIterOut h₅ it d (i+1) es.size ep en.key en.val hp.objs.size:=he₅
 refine Kd (Xx he₅ (by simp) λh₆ he₆ hs₆=>(id ?_))
 have hs₆:UB it h₅ h₆:=hs₆
 have he₆:IsItemIterOut h₆ it d (i+1) es.size ep en.key en.val hp.objs.size:=he₆
 have kk:∀ b o,b≠it->h₂.get? b=some o->h₆.get? b=some o:=λb o hb e=>hs₆.extBut b o hb (hs₅.extBut b o hb (hs₄.extBut b o hb (hs₃.extBut b o hb e)))
 exact Kd (U1 (Kn (Kn ⟨_,rfl,Kn (hQ h₆ he₆ (kk _ _ (UC hil) ht₂) λb o hb e=>kk b o hb (hk₂ b o hb e))⟩)))
theorem qcV {od:Obj}{es:Array Xp}  {Q:Option Kc->Kh->Prop} (hh:A.handled=none) (hit:U2 s.heap it d i es.size ep ok ov) (hod:s.heap.get? d=some od) (hdd:od.data=.dict es ep) (hge:es.size<=i)
  (hQ:∀ h',Heap.ExtBut it s.heap h'->Q none { s with heap:=h' }):bK ',' A (cJ (.ref it)) Q E s:=by
 have hT:s.TypeIs (.ref it) "dict_itemiterator" := ⟨_,hit,rfl⟩
 unfold cJ
 refine Kd (wpAny_attempt (US (name:=Kg "__next__") hT V6 (V4 V6 hT NM (Kd (Kn (Kd (Kd ?_)))) (Nz _))))
 first|refine Kd (UP hT (Kn (Kd (NT hit rfl ?_))))|refine Kd (Xh hT (Kn (Kd (NT hit rfl ?_))))
 have hown:XC "dict_itemiterator" = true:=by decide
 simp only [hown,cw];refine (id ?_:bK _ _ (if (Vd d==VE)=true then _ else _) _ _ s)
 rw [bJ (λz=>VJ z:¬ ((Vd d==VE)=true))]
 refine Kd (Kn (Kd (Ej hod hdd ?_)))
 rw [bJ (by simp)];refine Kd (Kn (Kd (EL hod hdd ?_)))
 rw [bJ (by simp)];refine Kn (id ?_)
 simp only [show ¬ ((i:Int)<0) from by omega,cm,K4,U0 hge];refine Kd (id ?_)
 first|refine Kd (UP hT (Kn (id ?_)))|refine Kd (Xh hT (Kn (id ?_)))
 refine (Kd (E1 hit rfl (by simp) ?_):bK _ _ (setField (.ref it) 2 .none >>= _) _ _ s)
 refine (Kd ?_:bK _ _ (newExc (.type "StopIteration") [] >>= _) _ _ _)
 simp only [newExc,newTuple]
 refine Kd (Vx (Kd (m:=cN _ _) (ER (a:=VE) (by first|rfl|(simp only [cN];rfl)) (Vx ?_ (by size_fits)))) (by size_fits))
 simp only [raiseNew];refine Kd (wpAny_handled (id ?_))
 rw [show A.in1.handled=none from hh];refine Kd (Kn (wpAny_throw (id ?_)))
 exact Kd (Eu (T := "StopIteration") (b:=true) ⟨_,Kx _ rfl,rfl⟩ isSubtype_stop (Kn (hQ _ (((Heap.SameBut.update ..).extBut.push _).push _))))
theorem qac:entryFor table "dict_itemiterator.__iter__" = some UQ.«dict_keyiterator.__iter__»:=entryFor_alias (id' := "dict_keyiterator.__iter__") (by kernel_rfl) rfl (by decide +kernel) (by kernel_rfl)
theorem qeY  (hit:U2 s.heap it d i n ep ok ov) (h:Q (.ref it) s):bK ',' A (pyIter (.ref it)) Q E s:=by
 have hT:s.TypeIs (.ref it) "dict_itemiterator" := ⟨_,hit,rfl⟩
 refine wpAny_pyIter_slot hT NP (V4 NP hT qac (id ?_:bK _ _ (ret (.ref it)) _ _ s) (F.args_dict_itemiterator_iter_1 _))
 exact Kn ⟨_,rfl, "dict_itemiterator", _,hT,V6.lookup,h⟩
end
def Itm (a:Ke)(kvs:'4')(ep:Nat):It :=
 ⟨λi H=>H a=some (DctO a kvs ep)/\i<kvs.length,λi H x H'=>∃ p q,H p=none/\x=.ref p/\kvs[i]?=some q/\H'=upd H p (.tup [kxV q.1 q.2.1,q.2.2]),λi H=>H a=some (DctO a kvs ep)/\kvs.length<=i⟩
theorem qe4 {P:KJ}{w:KZ}{K:Kb}{ts:aJ}{kk:Nat}{tp:Pos}(a it:Ke)(kvs:'4')(ep:Nat):Turn P w K (.Tuple ts kk tp) (Itm a kvs ep) [it] it (λi h=>∃ ok ov,U2 h it a i kvs.length ep ok ov) where
 mem:=by simp
 obj:=λi h ⟨ok,ov,st⟩ b hb=>by
  have e:b=it:=by simpa using hb
  subst e
  exact ⟨_,st,λv z=>by cases z⟩
 keep:=λi h h' ⟨ok,ov,st⟩ k=>⟨ok,ov,k it (by simp) _ st⟩
 item:=by
  intro X hP hw hK hc i bE s σ H E I hf st hg
  subst hP hw hK
  obtain ⟨hq,hlt⟩:=hg
  obtain ⟨ok,ov,st⟩:=st
  obtain ⟨o,es,h1,h2,h3,hsz,hkey⟩:=yJ (QJ.of (I.hok a _ hq))
  obtain ⟨en,he,hk,hv⟩:=hkey i kvs[i] (Kk hlt)
  obtain ⟨f0,f1,f2,f3,f4,f5⟩:=hf it (by simp)
  have st':U2 s.heap it a i es.size ep ok ov:=by rw [hsz];exact st
  refine qbE st' h1 h3 he λh' sto ht kb=>⟨_,rfl,wpAny_letOwnedTupleGo_items sto λh2 he2 hs2=>?_⟩
  have hs2:UB it h' h2:=hs2
  have k2:∀ c o,c≠it->h'.get? c=some o->h2.get? c=some o:=λc o hc q=>(hs2.2 c hc).trans q
  have I1:Inv X bE σ H { s with heap:=h2,toks:=s.toks }:=I.turned (t':=s.toks) (λb o hb e=>k2 b o hb (kb b o hb e)) f0 f1 f3 f4 f5
  have hn:H s.heap.objs.size=none:=I.hok.fresh (Kp _)
  have fT:FpOk X bE H s.heap.objs.size:=I.fpOk (Kp _) hn
  have neT:s.heap.objs.size≠it:=UC (KF st)
  have ok2:Qw X.prog X.w (upd H s.heap.objs.size (.tup [kxV kvs[i].1 kvs[i].2.1,kvs[i].2.2])) h2 s.heap.objs.size (.tup [kxV kvs[i].1 kvs[i].2.1,kvs[i].2.2]) :=
   ⟨VA (zB (show 2<=1000 by decide)),[en.key,en.val],.cons hk (.cons hv .nil),⟨_,k2 _ _ neT ht,rfl,_,rfl⟩⟩
  refine ⟨.ref s.heap.objs.size,_,I1.track hn fT.2.1 fT.2.2.2.1 fT.2.2.2.2.1 fT.2.2.2.2.2 ok2,rfl,⟨_,kvs[i],hn,rfl,Kk hlt,rfl⟩,⟨_,_,by rw [hsz] at he2;exact he2⟩,λc hc=>?_⟩
  have:=Ks.mp hc
  subst this
  rw [qO (Ul neT)];exact f0
 done:=by
  intro X hP hw hK hc i bE s σ H E I hf st hg
  subst hP hw hK
  obtain ⟨hq,hge⟩:=hg
  obtain ⟨ok,ov,st⟩:=st
  obtain ⟨o,es,h1,h2,h3,hsz,hkey⟩:=yJ (QJ.of (I.hok a _ hq))
  obtain ⟨f0,f1,f2,f3,f4,f5⟩:=hf it (by simp)
  have st':U2 s.heap it a i es.size ep ok ov:=by rw [hsz];exact st
  exact qcV (I.ok.hd hc) st' h1 h3 (by omega) λh' eb=>⟨rfl,I.turned (t':=s.toks) (λb o hb e=>eb b o hb e) f0 f1 f3 f4 f5⟩
 self:=λ_ _ _ _ _ st h=>qeY st.choose_spec.choose_spec h
def iItm (tl:TE):TI:=λσ H R=>tl σ H λx H1=>∃ a kvs ep,x=.ref a/\H1 a=some (DctO a kvs ep)/\R (Itm a kvs ep) H1
section
variable {X:Cx}{M:aq}{a:KB}{f:aa}{ts:aJ}{kk:Nat}{tp apos cpos:Pos}
theorem qiM {tl:TE}(hl:PE X a tl)(hbase:bU a "items" X.env (eval a X.env)=eval a X.env:=by rfl)
  (hfew:((bT cpos (bG [] X.env)).all (λx=>!x.1)&&(cH cpos (cu [] X.env)).all (λx=>x.1.isSome)
   && decide (([]:List KB).length+([]:List UI).length+(if ([]:List UI).isEmpty then 0 else 1)<30))=true:=by rfl)
  (hline:(apos.endLine==cpos.line)=true:=by rfl) (htr:bT cpos (bG [] X.env)=[]:=by rfl) :
  PI X (.Tuple ts kk tp) (.Call (.Attribute a "items" apos) [] [] cpos) (iItm tl):=by
 intro bE s σ H R I h
 refine wpAny_Call_method hbase hfew hline PySem.F.plainAttrs_dict E5 PySem.F.type_dict_items (thn (hl bE s σ H _ I h) λv s1 ⟨xv,H1,I1,rx,p,kvs,ep,ex,hq,q⟩=>?_)
 subst ex
 obtain rfl:v=Vd p:=rx
 have d:=QJ.of (I1.hok p _ hq)
 obtain ⟨o,es,h1,h2,h3,hsz,_⟩:=yJ d
 refine ⟨⟨o,h1,h2.1⟩,λa' q'=>?_,?_⟩
 ·cases q'
  exact ⟨o,h1,h2.2.1⟩
 rw [htr]
 refine Calls.callWith_builtin rfl (Fc ?_)
 refine qeq d.2.1 h1 h2 h3 ?_
 have hp1:(s1.heap.push { cls:=.type "dict_items", data:=.fields #[.ref p] }).get? p=some o:=Ki _ h1
 refine qhV (d:=p) ⟨_,Kx _ rfl,rfl,rfl⟩ hp1 h3 ?_
 have I2:Inv X bE σ H1 { s1 with heap:=(s1.heap.push { cls:=.type "dict_items", data:=.fields #[.ref p] }) }:=I1.kept (t':=s1.toks) λb o e=>Ki _ e
 rw [hsz]
 refine ⟨(s1.heap.push { cls:=.type "dict_items", data:=.fields #[.ref p] }).objs.size,[(s1.heap.push { cls:=.type "dict_items", data:=.fields #[.ref p] }).objs.size],_,_,H1,rfl,I2.kept (t':=s1.toks) λb o e=>Ki _ e,qe4 p _ kvs ep,⟨_,_,Kx _ rfl⟩,λb hb=>?_,q⟩
 have e:b=(s1.heap.push { cls:=.type "dict_items", data:=.fields #[.ref p] }).objs.size:=by simpa using hb
 subst e
 exact I2.fpOk (Kp _) (I2.hok.fresh (Kp _))
def qeA:Ka->Option (List Ka)
 | .dict kvs=>if excK kvs=true then none else some (kvs.map λp=>.tuple [p.1,p.2])
 | _=>none
theorem qjM {kvs:'4'}{ds:ae}{i:Nat}{d:Ka}(h:((dkv kvs ds).map λp=>Vk [p.1,p.2])[i]?=some d):∃ q e,kvs[i]?=some q/\ds[i]?=some e/\d=.tuple [kxD q.1,e]:=by
 unfold dkv at h
 rw [Ky] at h
 obtain ⟨z,hz,rfl⟩:=UD.mp h
 rw [XU,Ky] at hz
 obtain ⟨h1,h2⟩:=hz
 obtain ⟨q,hq,e⟩:=UD.mp h1
 exact ⟨q,z.2,hq,h2,by rw [e]⟩
theorem IsIt.itm {K:Kb}{H:Hp}{S:Av}{l:Ke}{kvs:'4'}{ep:Nat}{ds:ae}(h:H l=some (DctO l kvs ep))(k:DenL K H S (kvs.map λp=>kxV p.1 p.2.1) (kvs.map λp=>kxD p.1))(t:DenL K H S (kvs.map (·.2.2)) ds)(hl:kvs.length=ds.length):IsIt K S (Itm l kvs ep) H ((dkv kvs ds).map λp=>.tuple [p.1,p.2]) where
 go:=λi H' e hi=>⟨e _ _ h,by rw [Kf] at hi;unfold dkv at hi;rw [NL,Kf] at hi;omega⟩
 yld:=λi H' x H2 e ⟨p,q,hp,ex,hq,e2⟩=>by
  subst ex e2
  refine ⟨Same.lay hp,λd hd S' w=>?_⟩
  obtain ⟨q',de,g1,g2,rfl⟩:=qjM hd
  rw [hq] at g1
  cases g1
  obtain ⟨v,k1,k2⟩:=k.get (i:=i) (d:=kxD q.1) (by rw [Ky,hq];rfl)
  rw [Ky,hq] at k1
  cases k1
  obtain ⟨v,t1,t2⟩:=t.get g2
  rw [Ky,hq] at t1
  cases t1
  exact .tuple (SqT.of qU) (.cons (w _ _ k2) (.cons (w _ _ t2) .nil))
 stop:=λH' e=>⟨e _ _ h,by rw [Kf];unfold dkv;rw [NL,Kf];omega⟩
theorem qgU (ha:PD X M a f)(hbase:bU a "items" X.env (eval a X.env)=eval a X.env:=by rfl)
  (hfew:((bT cpos (bG [] X.env)).all (λx=>!x.1)&&(cH cpos (cu [] X.env)).all (λx=>x.1.isSome)
   && decide (([]:List KB).length+([]:List UI).length+(if ([]:List UI).isEmpty then 0 else 1)<30))=true:=by rfl)
  (hline:(apos.endLine==cpos.line)=true:=by rfl) (htr:bT cpos (bG [] X.env)=[]:=by rfl):PDI X M (.Tuple ts kk tp) (.Call (.Attribute a "items" apos) [] [] cpos) (evI f qeA) :=
 (qiM ha hbase hfew hline htr).weak λσ H R ⟨S,ρ,ds,hs,e,w⟩=>by
  obtain ⟨x,e1,e⟩:=qd e
  refine ⟨S,ρ,x,hs,e1,λv H1 g1 d1=>?_⟩
  cases d1 with
  | @dict p kvs ep ds' h k t =>
   have hl:kvs.length=ds'.length:=by
    have:=t.length
    rwa [Kf] at this
   have e:(if excK (dkv kvs ds')=true then none else some ((dkv kvs ds').map λp=>Vk [p.1,p.2]))=some ds:=e
   rw [qdr] at e
   cases e
   exact ⟨p,kvs,ep,rfl,h.1,w _ _ g1 λH2 o=>IsIt.itm (o _ _ h.2 h.1) (k.off (hs.1.same g1) o) (t.off (hs.1.same g1) o) hl⟩
  | _=>cases e
end
section
variable {X:Cx}{M:aq}{a b:KB}{f fk:aa}{pos:Pos}
def qaH (k v:Ka):Option Ka:=match k with
 | .int i=>some (.dict [(.int i,v)])
 | _=>none
theorem qes (e:qaH k v=some d):∃ i,k=.int i/\d=.dict [(.int i,v)]:=by
 unfold qaH at e
 split at e
 ·cases e;exact ⟨_,rfl,rfl⟩
 ·cases e
theorem qd8 (hk:PD X M a fk)(hv:PD X M b f):PF X M (.Dict [some a] [b] pos) (ev2 fk f qaH):=λbE s σ H Q I ⟨S,ρ,d,hs,e,q⟩=>by
 obtain ⟨x,e1,e⟩:=qd e
 obtain ⟨y,e2,e⟩:=qd e
 obtain ⟨i,rfl,rfl⟩:=qes e
 have hb:cB<s.heap.objs.size:=Et (by decide) (show bL<s.heap.objs.size from (I.mod.glob.keeps I.bk).lt)
 have hn:=I.hok.fresh (Kp s.heap.objs.size)
 have dct:QJ s.heap.objs.size [] 0 (s.heap.push { cls:=.type "dict", data:=.dict #[] }):=⟨Vh _,bP.mpr (Ul (KW hb)),.inl ⟨[],.nil,_,#[],Kx _ rfl,⟨rfl,rfl,rfl⟩,rfl,rfl,X6⟩⟩
 have I1:=I.laid (a:=s.heap.objs.size) (o:=DctO s.heap.objs.size [] 0) (t':=s.toks) (λ_ _ q=>Ki _ q) (Kp _) dct.ok
 have g0:Same H (upd H s.heap.objs.size (DctO s.heap.objs.size [] 0)):=Same.lay hn
 have o0:OwnO X.K (upd H s.heap.objs.size (DctO s.heap.objs.size [] 0)) (insA S s.heap.objs.size) s.heap.objs.size (.dict []):=.dct (kvs:=[]) (ds:=[]) qU .nil .nil
 have hs1:=hs.insO g0 hn o0
 refine wpAny_Dict_walk (knd:=cP X.prog X.w) rfl rfl (by simp) (show 1<=15 by decide) (pairTrees_cons_walk (thn (hk bE _ σ _ (λv H2=>Same (upd H s.heap.objs.size (DctO s.heap.objs.size [] 0)) H2/\Den X.K H2 (insA S s.heap.objs.size) v (.int i)) I1 ⟨_,ρ,_,hs1,e1,λv H2 g d=>⟨g,d⟩⟩) λu s1 ⟨kv,H2,I2,rk,g2,dk⟩ =>
  thn (hv bE s1 σ H2 (λv H3=>Same H2 H3/\Den X.K H3 (insA S s.heap.objs.size) v y) I2 ⟨_,ρ,_,hs1.same g2,e2,λv H3 g d=>⟨g,d⟩⟩) λw2 s2 ⟨vv,H3,I3,rv,g3,dv⟩=>pairTrees_nil_walk ?_))
 obtain ⟨rfl,t',rfl⟩:=wX dk rk
 have hp3:H3 s.heap.objs.size=some (DctO s.heap.objs.size [] 0):=g3 _ _ (g2 _ _ qU)
 obtain ⟨_,hsys,vs,pk,dd⟩:=wM I3 hp3 (λp hp=>by cases hp)
 cases pk
 refine ⟨[(i,w2)],⟨X7 _ _ i t',rfl,Us⟩,dd,λh' dd' hs'=>?_⟩
 obtain ⟨o,es,ep',k1,k2,k3,k4,k4',k5⟩:=dd'
 have dct':QJ s.heap.objs.size [(.inl i,0,vv)] ep' h':=⟨VA (zB (show 1<=1000 by decide)),hsys,.inr ⟨[(i,w2)],.cons ⟨rfl,rv⟩ .nil,o,es,k1,k2,k3,YG k4' λe he=>k4 e (XG.mp he),k5⟩⟩
 refine ⟨.ref s.heap.objs.size,_,I3.write (x:=s.heap.objs.size) (e:=s.heap.objs.size) (by rw [hp3];exact Us) (.inl rfl) (λc o' hc e=>(hs'.2 c hc).trans e) ⟨o,k1⟩ dct'.ok,rfl,?_⟩
 refine q _ _ (λc o' hc=>?_) hn ?_
 ·rw [qO (Qt hc hn)]
  exact g3 _ _ (g2 _ _ (g0 _ _ hc))
 ·refine .dct (kvs:=[(.inl i,0,vv)]) (ds:=[y]) qU (.cons (.int i) .nil) ((DenL.cons dv .nil).off ?_ (Off.upd (.inr rfl)))
  exact (hs1.1.same g2).same g3
end
section
variable {X:Cx}{G:Gm}{M M' Mb L:aq}{a:KB}{f:aa}{pos tp:Pos}
def flLF (f:aa):Rho->Option Ka:=λρ=>ob (f ρ) λd=>match d with
 | .list es=>if ZZ es=true then some (.list es) else none
 | _=>none
end
def truD:Ka->Option Bool
 | .bool b=>some b
 | .none=>some false
 | .int i=>some (i != 0)
 | .list ds=>some (!ds.isEmpty)
 | .tuple ds=>some (!ds.isEmpty)
 | _=>none
def tW (f:aa):Rho->Option Bool:=λρ=>ob (f ρ) truD
theorem qaJ {K:Kb}{H:Hp}{S:Av}{vs:List V}{ds:ae}(h:DenL K H S vs ds):vs.isEmpty=ds.isEmpty:=by cases h<;>rfl
section
variable {X:Cx}{M:aq}{a:KB}{f:aa}
theorem qkG (h:PD X M a f)(he:∀ whole,isTrue a X.env whole=(do let v ← whole;cV a.pos;holding [v] (truthy v)):=by intro _;rfl):PDT X M a (tW f) :=
 (qiU h he).weak λσ H Q ⟨S,ρ,b,hs,e,q⟩=>by
  obtain ⟨x,e1,e⟩:=qd e
  refine ⟨S,ρ,x,hs,e1,λv H1 g1 d1=>⟨b,?_,q H1 g1⟩⟩
  cases d1 with
  | none=>cases e;exact rfl
  | bool c=>cases e;exact rfl
  | int i=>cases e;exact rfl
  | list s t=>cases e;exact .inl ⟨_,s.sq,by rw [qaJ t]⟩
  | tuple s t=>cases e;exact .inr (.inl ⟨_,s,by rw [qaJ t]⟩)
  | str x=>cases e
  | dict a b c=>cases e
  | exc0 a b=>cases e
  | exc1 a b c d f=>cases e
  | ins a b=>cases e
end
def truO (d:aD):Option Bool:=match d with | some d=>truD d|none=>none
theorem tW_b (f:aa)(ρ:Rho):tW f ρ=truO (f ρ):=by
 unfold tW truO ob
 cases f ρ<;>rfl
theorem qno:truO (some (.list []))=some false:=rfl
theorem qjg (d:Ka)(ds:ae):truO (some (.list (d::ds)))=some true:=rfl
end L2
namespace L2
open PySem
theorem qi4 (i:Nat)(f:aa)(ρ:Rho):JW i f ρ=takO (decide (i<ρ.length/\ρ.length<=1000)) (f ρ) i ρ:=by
 unfold JW ob takO
 by_cases h:i<ρ.length/\ρ.length<=1000
 ·rw [bI h,bF h]
  cases f ρ<;>rfl
 ·rw [bJ h,bH h]
def vcO (a:aD)(b:aQ):Option (List Ka):=match a,b with | some x,some xs=>if jN x=true then some (x::xs) else none|_,_=>none
theorem vC_b (f:aa)(fs:ab)(ρ:Rho):vC f fs ρ=vcO (f ρ) (fs ρ):=by
 unfold vC ob vcO
 cases f ρ<;>cases fs ρ<;>rfl
theorem vcO_s (ds es:ae):vcO (some (.list ds)) (some es)=some (.list ds::es):=rfl
def kapO (c k d:aD)(i:Nat)(ρ:Rho):Option Out:=match c,k,d with
 | some c,some k,some d=>ob (Jw c k) λj=>ob (wY c j) λl=>ob (appD l d) λl'=>some (.nx (ρ.set i (some (YB c j l'))))
 | _,_,_=>none
theorem qk3 (i:Nat)(fk f:aa)(ρ:Rho):qbo i fk f ρ=kapO (vr i ρ) (fk ρ) (f ρ) i ρ:=by
 unfold qbo kapO
 cases vr i ρ with
 | none=>rfl
 | some c =>
  cases fk ρ with
  | none=>rfl
  | some k =>
   cases f ρ with
   | some d=>rfl
   | none =>
    show ob (Jw c k) _=none
    cases Jw c k with
    | none=>rfl
    | some j =>
     show ob (wY c j) _=none
     cases wY c j<;>rfl
def kclO (c k:aD)(i:Nat)(ρ:Rho):Option Out:=match c,k with
 | some c,some k=>ob (Jw c k) λj=>ob (wY c j) λl=>if jN l=true then some (.nx (ρ.set i (some (YB c j (.list []))))) else none
 | _,_=>none
theorem qk4 (i:Nat)(fk:aa)(ρ:Rho):qgd i fk ρ=kclO (vr i ρ) (fk ρ) i ρ:=by
 unfold qgd kclO
 cases vr i ρ with
 | none=>rfl
 | some c=>cases fk ρ<;>rfl
def nxdO (o:aD)(i:Nat)(ρ:Rho):Option Out:=match o with | some l=>some (.nx (ρ.set i (some l)))|none=>none
theorem qmx (l:Ka)(i:Nat)(ρ:Rho):nxdO (some l) i ρ=some (.nx (ρ.set i (some l))):=rfl
def dpO (d l k:aD)(i:Nat)(ρ:Rho):Option Out:=match d,l,k with | some d,some l,some k=>nxdO (wO l k d) i ρ|_,_,_=>none
theorem dpO_s (d l k:Ka)(i:Nat)(ρ:Rho):dpO (some d) (some l) (some k) i ρ=nxdO (wO l k d) i ρ:=rfl
theorem qk1 (i:Nat)(fk f:aa)(ρ:Rho):Wi i fk f ρ=dpO (f ρ) (vr i ρ) (fk ρ) i ρ:=by
 unfold Wi dpO ob
 cases f ρ with
 | none=>rfl
 | some d =>
  cases vr i ρ with
  | none=>rfl
  | some l =>
   cases fk ρ with
   | none=>rfl
   | some k =>
    dsimp only
    unfold nxdO
    cases wO l k d<;>rfl
theorem qke (a b:ae)(d:Ka)(i:Nat)(ρ:Rho):kapO (some (.tuple [.list a,.list b])) (some (.int 0)) (some d) i ρ=if a.length<1000 then some (.nx (ρ.set i (some (.tuple [.list (a++[d]),.list b])))) else none:=by
 show ob (appD (.list a) d) _=_
 rw [qep]
 split<;>rfl
theorem qkf (a b:ae)(d:Ka)(i:Nat)(ρ:Rho):kapO (some (.tuple [.list a,.list b])) (some (.int 1)) (some d) i ρ=if b.length<1000 then some (.nx (ρ.set i (some (.tuple [.list a,.list (b++[d])])))) else none:=by
 show ob (appD (.list b) d) _=_
 rw [qep]
 split<;>rfl
theorem qkg (a:Ka)(b:ae)(i:Nat)(ρ:Rho):kclO (some (.tuple [a,.list b])) (some (.int 1)) i ρ=some (.nx (ρ.set i (some (.tuple [a,.list []])))):=rfl
theorem qkh (a b:ae)(i:Nat)(ρ:Rho):kclO (some (.tuple [.list a,.list b])) (some (.int 0)) i ρ=some (.nx (ρ.set i (some (.tuple [.list [],.list b])))):=rfl
theorem qki (a b:ae)(i:Nat)(ρ:Rho):kclO (some (.tuple [.list a,.list b])) (some (.int 1)) i ρ=some (.nx (ρ.set i (some (.tuple [.list a,.list []])))):=rfl
end L2
namespace L2
open PySem PySem.Spec PyProof.Rows
theorem Kids.snoc {K:Kb}{H:Hp}{S:Av}{p:Ke}{xs:List V}{es:ae}(h:H p=some (.lst xs))(t:DenL K H S xs es){qs:aH}{ds:ae}(n:p∉qs)(k:Kids K H S qs ds):Kids K H S (qs++[p]) (ds++[.list es]):=by
 induction k with
 | nil=>exact .cons h t (λz=>nomatch z) .nil
 | cons h' t' n' _ r=>exact .cons h' t' (λz=>(KO.mp z).elim n' λz=>n (by rw [Ks.mp z];exact .head _)) (r λz=>n (.tail _ z))
theorem qls  : insL S (qs++[p])=insA (insL S qs) p:=by
 funext a
 unfold insL insA
 rw [KO,Ks,or_assoc]
section
variable {X:Cx}{G:Gm}{M M' Mb L:aq}{fr:Fr}{f:aa}{p:aj}{pos:Pos}
def qbS (n k:Nat)(fi:ab)(g:af)(p:aj)(f:aa):Rho->Option Ka:=λρ=>ob (jh n k fi g p f ρ) λd=>match d with | .list ds=>if ds.all jN=true then some (.list ds) else none|_=>none
theorem qlf {K:Kb}{n k:Nat}{fi:ab}{g:af}(hg:GIn n k g):∀ σ H Q,tVd K M (qbS n k fi g p f) σ H Q->qcd k (tDI K M fi) (tDGc K M g) (tDT K M p) (tF K M f) σ H Q:=by
 intro σ H Q ⟨S,ρ,d,hs,e,q⟩
 obtain ⟨d',e0,e⟩:=qd e
 obtain ⟨ds,ys,e1,hn,hz,e2,rfl⟩:=Yv e0
 have e:(if ys.all jN=true then some (Vu ys) else none)=some d:=e
 split at e
 case isFalse=>cases e
 rename_i hall
 cases e
 refine ⟨S,ρ,ds,hs,e1,λJ H1 g1 hJ0=>?_⟩
 have hJ:=hJ0 H1 λ_ _ _ z=>z
 have z1000:1000<bM:=zB (Kp _)
 refine ⟨λi m zs σ' H'=>m=ds.length-i/\i<=ds.length/\zs.length<=i/\Same H1 H'/\∃ qs pre rest,zs=qs.map V.ref/\(∀ r∈qs,H1 r=none)/\DenS K H' (insL S qs) M σ' (ρ++Vt k none)/\Kids K H' (insL S qs) qs pre/\QM k g p f ρ (ds.drop i)=some rest/\pre++rest=ys,
  ⟨ds.length,by simp,Vh _,Kp _,Same.refl _,[],[],ys,rfl,(λ_ z=>nomatch z),?_,.nil,e2,rfl⟩,?_⟩
 ·have h0:=(hs.same g1).more k
  have sb:∀ a,insL S [] a->S a:=λa z=>z.elim id λy=>absurd y (by simp)
  exact ⟨h0.1.sub sb,h0.2.1,λi d hi q=>let ⟨v,a,b⟩:=h0.2.2 i d hi q;⟨v,a,b.sub λa _ z=>sb a z⟩⟩
 rintro i m zs σ' H' ⟨rfl,hi,hzi,g2,qs,pre,rest,rfl,new,hS,kids,er,rfl⟩
 by_cases hlt:i<ds.length
 ·refine .inr ⟨hJ.go i H' g2 hlt,λx H2 y=>?_⟩
  obtain ⟨g2',yd⟩:=hJ.yld i H' x H2 g2 y
  have hd:=yd _ (Kk hlt) (insL S qs) λy e q=>(q.sub λa ha z=>z.elim id λy=>absurd (new a y) ha).same (g2.trans g2')
  rw [VH hlt] at er
  obtain ⟨ρ1,r1,er⟩:=qd er
  obtain ⟨bb,b1,er⟩:=qd er
  obtain ⟨r',hr',rfl⟩:=hg _ ρ _ ρ1 hn (VD) r1
  have g2:=g2.trans g2'
  have kids:=kids.same g2'
  refine ⟨insL S qs,_,_,_,hS.same g2',hd,r1,λσ3 H3 g3 hS3=>⟨insL S qs,_,bb,hS3,b1,λH4 g4=>?_⟩⟩
  cases bb with
  | true =>
   rw [bI rfl] at er
   obtain ⟨y1,e3,er⟩:=qd er
   obtain ⟨ys1,e4,er⟩:=qd er
   cases er
   refine iteT ⟨insL S qs,_,y1,hS3.same g4,e3,λr H5 g5 n5 o5=>⟨by rw [Kf] at hzi;rw [Kf];omega,ds.length-(i+1),by omega,rfl,hlt,?_,g2.trans (g3.trans (g4.trans g5)),qs++[r],pre++[y1],ys1,by simp,?_,?_,?_,e4,by simp⟩⟩
   ·rw [Kj,Kt];exact Es hzi
   ·intro a ha
    rcases KO.mp ha with z|z
    ·exact new a z
    ·rw [Ks.mp z];exact (g2.trans (g3.trans g4)).free n5
   ·rw [qls]
    exact ((hS3.same g4).insO g5 n5 o5).forget hr'
   ·rw [qls]
    have k4:Kids K H5 (insA (insL S qs) r) qs pre:=((kids.same (g3.trans g4)).sub λa ha z=>z.elim id λy=>absurd (by rw [y];exact n5) ha).same g5
    have nr:r∉qs:=λz=>by
     obtain ⟨o,ho,_⟩:=(kids.same (g3.trans g4)).mut r z
     rw [n5] at ho;cases ho
    cases o5 with
    | lst h t=>exact Kids.snoc h t nr k4
    | dct h kk t =>
     rw [List.all_append,List.all_cons] at hall
     simp [jN] at hall
  | false =>
   rw [bJ VJ] at er
   exact iteF ⟨ds.length-(i+1),by omega,rfl,hlt,by omega,g2.trans (g3.trans g4),qs,pre,rest,rfl,new,(hS3.same g4).forget hr',kids.same (g3.trans g4),er,rfl⟩
 ·have hi':i=ds.length:=by omega
  subst hi'
  rw [Nn] at er
  cases er
  refine .inl ⟨hJ.stop H' g2,λD hD=>?_⟩
  have nD:D∉qs:=λz=>by
   obtain ⟨o,ho,_⟩:=kids.mut D z
   rw [hD] at ho;cases ho
  refine q D (D::qs) _ ((g1.trans g2).lay' hD) (λr hr=>?_) ?_
  ·rcases Kr.mp hr with e|hr
   ·rw [e];exact (g1.trans g2).free hD
   ·exact g1.free (new r hr)
  ·rw [VM]
   refine .lst qU nD ((kids.sub λa ha z=>?_).same (Same.lay hD))
   rcases z with z|z
   ·exact .inl z
   ·rcases Kr.mp z with e|z
    ·rw [e] at ha;exact absurd hD ha
    ·exact .inr z
variable {elt iter tg:KB}{ifs:aJ}{x:Str}{N':aB}{px:Pos}{sc:V9}{n k:Nat}{fi:ab}{g:af}
theorem qb6 (j:Nat){py spos:Pos}(O:CompOk X N' k sc)(gi:GIn n k g)(sc₀:V9)(hsc:X.env.scope=sc₀)(hB:swB sc₀ sc y py pos=true)(hM:Out0 M j)(hL:j∉L)(hi:PDI X M tg iter fi)(hg:∀ cl C fp bE s H,PDGc '-' M tg g)(hq:∀ cl C fp bE s H,PDTs '-' M ifs p)(he:∀ cl C fp bE s H,PF '-' M elt f)
  (hj:X.N[j]?=some y:=by rfl) (hbk:X.env.blockKind=.function:=by rfl)
  (hs:∀ v,bR iter X.env v=pure v:=by intro _;rfl):PDS X G M L (j::(j+1000)::M) Mb fr (.Assign [.Name y py] (.ListComp elt [⟨tg,iter,ifs,0⟩] sc pos) spos) (JW j (qbS n k fi g p f)) :=
 (qf6 (wg:=tDGc X.K M g) (tt:=tDT X.K M p) (te:=tF X.K M f) O hj (qbq hsc hB) hi hg hq he (qlF hsc hB hbk) hs).weak λD σ H ⟨S,ρ,o,hs,e,q⟩=>by
  unfold JW at e
  split at e
  ·rename_i hz
   obtain ⟨d,e1,e⟩:=qd e
   cases e
   exact qlf gi σ H _ ⟨S,ρ,d,hs.ds,e1,λp fp H1 g1 n o=>q _ H1 _ (hs.takeD n g1 o hM hL hz.1 hz.2)⟩
  ·cases e
end
def scB (N P G:aB)(sc:V9):Bool :=
 decide (sc.kind=.function)&&(decide (sc.isCoroutine=false)&&(decide (sc.isGenerator=false)&&(decide N.Nodup&&(decide (N.take P.length=P)&&(P.all (locB sc)&&(sc.names.all (λy=>decide (y.2≠.free))&&(N.all (λx=>visB sc x&&locB sc x)&&(G.all (glB sc)&&N.all λx=>!'+'&&!(x==("__classdict__" : Str))))))))))
structure ScOk (N P G:aB)(sc:V9):Prop where
 fs:FnScope N P sc
 nm:∀ x∈N,visB sc x=true/\locB sc x=true
 gb:∀ x∈G,glB sc x=true
 db:∀ x∈N,'+'=false/\(x==("__classdict__" : Str))=false
theorem scmk (h:scB N P G sc=true):ScOk N P G sc:=by
 unfold scB at h
 simp only [KD,bW,Vg,Bool.not_eq_true'] at h
 obtain ⟨h1,h2,h3,h4,h5,h6,h7,h8,h9,h10⟩:=h
 exact ⟨⟨h1,h2,h3,h4,h5,λx hx=>qh7 (h6 x hx),h7⟩,h8,h9,h10⟩
section
variable {N P G:aB}{sc:V9}{x:Str}
theorem ScOk.vis (S:ScOk N P G sc)(i:Nat)(e:N[i]?=some x):Vis sc x:=qjo (S.nm x (Va e)).1
theorem ScOk.loc (S:ScOk N P G sc)(i:Nat)(e:N[i]?=some x):Loc sc x:=qh7 (S.nm x (Va e)).2
theorem ScOk.gl {X:Cx}(S:ScOk N P G sc)(i:Nat)(e:G[i]?=some x)(hs:X.env.scope=sc):Gl X x:=gl_fn sc hs (S.gb x (Va e))
end
section
variable {X:Cx}{G:Gm}{P Gn:aB}{M L:aq}{x:Str}{pos:Pos}{a b c d:KB}{fa fb fc fd:aa}
theorem pd_v (A:ScOk X.N P Gn X.env.scope)(i:Nat)(e:X.N[i]?=some x:=by rfl)(hM:i∉M:=by decide):PD X M (.Name x pos) (vr i):=zr i (A.vis i e) hM e (A.db x (Va e)).1 (A.db x (Va e)).2
theorem zA (A:ScOk X.N P Gn X.env.scope)(i:Nat)(e:X.N[i]?=some x:=by rfl)(hM:i∉M:=by decide)(hf:X.fn x=true\/X.env.scope.names.lookup x=some .local:=by first|exact .inl rfl|exact .inr rfl|assumption):PDG X G M L (.Name x pos) (gNm i):=qiw i A.fs.nd (A.loc i e) hM e hf
theorem pda1 (ha:PD X M a fa)(ea:bG [a] X.env=(false,eval a X.env)::bG [] X.env:=by rfl):PDA X M [a] (aC fa aN):=qT ha zV ea
theorem pda2 (ha:PD X M a fa)(hb:PD X M b fb)(ea:bG [a,b] X.env=(false,eval a X.env)::bG [b] X.env:=by rfl)(eb:bG [b] X.env=(false,eval b X.env)::bG [] X.env:=by rfl):PDA X M [a,b] (aC fa (aC fb aN)):=qT ha (pda1 hb eb) ea
theorem pda3 (ha:PD X M a fa)(hb:PD X M b fb)(hc:PD X M c fc)(ea:bG [a,b,c] X.env=(false,eval a X.env)::bG [b,c] X.env:=by rfl)(eb:bG [b,c] X.env=(false,eval b X.env)::bG [c] X.env:=by rfl)(ec:bG [c] X.env=(false,eval c X.env)::bG [] X.env:=by rfl):PDA X M [a,b,c] (aC fa (aC fb (aC fc aN))):=qT ha (pda2 hb hc eb ec) ea
end
def FnK (K:Kb)(n:Str)(st:KQ):Prop:=∃ (f:Ke) (fd:Vp),KR K bL n=some (some (.ref f))/\Fun K n n st f fd
theorem FnK.of {K:Kb}{n:Str}{st:KQ}{f:Ke}{oc:Kc}{od an:aI}{osl:au}{kV doc pm cdv ct:Kc}(a:KR K bL n=some (some (.ref f)))(l:K.lookup f=some ⟨oc,od,.func (Ud n n (Zh st) (zO st) (qe st) .none kV doc pm an cdv ct),osl⟩)
  (c:UH K cdv n=true) (k:Vl K (.ref f)=true):FnK K n st:=⟨f,_,a,qeu l c k⟩
structure TrD (h B:KS)(e:Ke)(cls a0:Kc)(dd:aI)(fl:Kc):Prop where
 ex:∃ o fs T p ts,h.get? e=some o/\o.data=.fields fs/\o.cls=cls/\o.dict=dd/\fs[0]?=some a0/\fs[1]?=some (.ref T)/\T≠e/\B.get? T=none/\h.get? T=some p/\p.data=.fields ts/\ts[3]?=some fl
def FlyD (B:KS)(l:aU)(e:Ke)(cls a0:Kc)(dd:aI)(h:KS):Prop:=B.StaysIn h/\B.get? e=none/\h.FunFrames B l/\TrD h B e cls a0 dd .none
def HldD (B:KS)(l:aU)(e:Ke)(cls a0:Kc)(dd:aI)(L:Ke)(h:KS):Prop:=B.StaysIn h/\B.get? e=none/\h.FunFrames B l/\TrD h B e cls a0 dd (cI L)
structure Fly (l:aU)(H H':Hp)(g h B:KS)(a:Ke)(cls:Kc)(t:Ke)(dd:aI):Prop where
 fl:FlyD B l a cls (.ref t) dd h
 trk:∀ b u,H' b=some u->∀ o,h.get? b=some o->B.get? b=some o
 old:∀ b o,g.get? b=some o->H b=none->b∉frs l->B.get? b=some o
 dom:∀ b o,g.get? b=some o->b∉frs l->∃ o',B.get? b=some o'
 un:Un (frs l) [] H H' g h
theorem Qw.ex  {h:KS}  (x:Qw P w H h a o):∃ ob,h.get? a=some ob:=by
 cases o with
 | lst xs=>obtain ⟨_,_,_,_,e⟩:=x;exact ⟨_,e⟩
 | tup xs=>obtain ⟨_,_,_,_,e,_⟩:=x;exact ⟨_,e⟩
 | dK kvs=>obtain ⟨_,_,_,_,o,_,_,e,_⟩:=x;exact ⟨_,e⟩
 | dT kvs=>obtain ⟨_,_,_,_,o,_,_,e,_⟩:=x;exact ⟨_,e⟩
 | set S n=>obtain ⟨o,_,_,_,e,_⟩:=x;exact ⟨_,e⟩
 | ins C dx fs=>obtain ⟨_,_,_,e,_⟩:=x;exact ⟨_,e⟩
 | own y=>obtain ⟨_,e⟩:=x;exact ⟨_,e⟩
 | xd fs=>obtain ⟨_,⟨_,_,_,e,_⟩,_⟩:=x;exact ⟨_,e⟩
 | rng lo hi=>obtain ⟨_,_,_,e⟩:=x;exact ⟨_,e⟩
 | frz ob u=>exact ⟨_,x.1⟩
 | tbl ps=>exact ⟨_,(show h.get? a=some _ from x)⟩
 | met f y=>exact ⟨_,(show h.get? a=some _ from x)⟩
 | ext φ=>exact x.2.1
abbrev exO (C:Ke)(od:aI)(t:Ke):Obj:={ cls:=.ref C,dict:=od,data:=.fields #[.ref t,.none,.none,.none,.bool false,.none] }
def DxD (K:Kb)(H:Hp)(dd:aI)(y:Ka):Prop:=y=.none\/∃ n d dx v,y=.tuple [.str n,d]/\flat d=true/\dd=some dx/\H dx=some (.xd [(n,v)])/\Den K H (λ_=>False) v d
def XMade (X:Cx)(bE:ag)(G:Gm)(M L:aq)(ρ:Rho)(a C:Ke)(y:Ka)(s':Kh):Prop :=
 ∃ σ H S od t,Inv X bE σ H s'/\OwnS X.K G M L H S σ ρ/\DxD X.K H od y/\H a=none/\(X.ex=[]->X.s₀.heap.get? a=none)/\s'.heap.get? a=some (exO C od t)
def XCame (X:Cx)(bE:ag)(G:Gm)(M L:aq)(ρ:Rho)(a C:Ke)(y:Ka)(s':Kh):Prop :=
 ∃ σ H S s1 H' B t dd,DxD X.K H' dd y/\Inv X bE σ H s1/\OwnS X.K G M L H S σ ρ/\Same H H'/\s'.os=s1.os/\XN s'.gens/\HOk X.prog X.w H' s'.heap/\Fly X.stack H H' s1.heap s'.heap B a (.ref C) t dd
def XHeld (X:Cx)(bE:ag)(G:Gm)(M L:aq)(ρ:Rho)(a C:Ke)(y:Ka)(s':Kh):Prop :=
 ∃ s2 B t dd h',((∃ σ H S,Inv X bE σ H s2/\OwnS X.K G M L H S σ ρ/\DxD X.K H dd y/\H a=none/\(X.ex=[]->X.s₀.heap.get? a=none)/\s2.heap.get? a=some (exO C dd t)/\B=PySem.W.hideAll s2.heap (a::frs X.stack))\/
  ∃ σ H S s1 H',DxD X.K H' dd y/\Inv X bE σ H s1/\OwnS X.K G M L H S σ ρ/\Same H H'/\s2.os=s1.os/\XN s2.gens/\HOk X.prog X.w H' s2.heap/\Fly X.stack H H' s1.heap s2.heap B a (.ref C) t dd)/\
  s'={ s2 with heap:=h' }/\HldD B X.stack a (.ref C) (.ref t) dd X.env.locals h'/\s2.heap.UpToSlots h'
def XCls (K:Kb)(c:Str)(C:Ke):Prop:=KR K bL c=some (some (.ref C))/\xcB K C=true
def XAt (X:Cx)(o:Bool)(bE:ag)(G:Gm)(M L:aq)(x:Ka)(ρ:Rho)(e:Kc)(s':Kh):Prop :=
 ∃ a c C y,e=.ref a/\x=excD c y/\XCls X.K c C/\((o=false/\(XMade X bE G M L ρ a C y s'\/XHeld X bE G M L ρ a C y s'))\/XCame X bE G M L ρ a C y s')
section
variable {X:Cx}{G:Gm}{M M1 M' Mb L Mx:aq}{fr:Fr}{a c:KB}{es:aJ}{fs:ab}{p:aj}{pos:Pos}{s1:KQ}{ss st1 st2:bu}{u:ai}{w w1 w2:Rho->Option (Ka×Rho)}{x:Str}{o:Bool}
theorem XAt.drop   (h1:subB Mx M=true) (h2:subB L Mx=true) (q:XAt X o bE G M L d ρ e s'):XAt X o bE G Mx L d ρ e s':=by
 obtain ⟨a,c,C,y,rfl,rfl,hC,q⟩:=q
 refine ⟨a,c,C,y,rfl,rfl,hC,?_⟩
 rcases q with ⟨ho,⟨σ,H,S,od,t,I,os,m⟩|⟨s2,B,t,dd,h',q,r⟩⟩|⟨σ,H,S,s1,H',B,t,dd,dx,I,os,g,r⟩
 ·obtain ⟨S',os'⟩:=os.frz (Yl h1) λi hi _=>YM h2 i hi
  exact .inl ⟨ho,.inl ⟨σ,H,S',od,t,I,os',m⟩⟩
 ·refine .inl ⟨ho,.inr ⟨s2,B,t,dd,h',?_,r⟩⟩
  rcases q with ⟨σ,H,S,I,os,m⟩|⟨σ,H,S,s1,H',dx,I,os,m⟩
  ·obtain ⟨S',os'⟩:=os.frz (Yl h1) λi hi _=>YM h2 i hi
   exact .inl ⟨σ,H,S',I,os',m⟩
  ·obtain ⟨S',os'⟩:=os.frz (Yl h1) λi hi _=>YM h2 i hi
   exact .inr ⟨σ,H,S',s1,H',dx,I,os',m⟩
 ·obtain ⟨S',os'⟩:=os.frz (Yl h1) λi hi _=>YM h2 i hi
  exact .inr ⟨σ,H,S',s1,H',B,t,dd,dx,I,os',g,r⟩
end
def adr (mg:ao)(c:Str):Ke:=match mg c with
 | some (.ref C)=>C
 | _=>0
def vBM:List Kc:=[.type "ValueError", .type "Exception", .type "BaseException", .type "object"]
def excNm (K:Kb)(c:Str):Bool:=match KR K bL c with
 | some (some (.ref C))=>PySem.W.excIn K C vBM "ValueError.__new__"
 | _=>false
section
variable {K:Kb}{mg:ao}{XS:bC}{c cn:Str}{cs:aB}
theorem XTab.has (h:(XS.any λp=>p.1==c)=true):∃ p∈XS,p.1=c:=by
 obtain ⟨p,hp,e⟩:=List.any_eq_true.mp h
 exact ⟨p,hp,cv.mp e⟩
end
def catL:Ka->Ka->Option Ka
 | .list ds,.list es=>if ds.length+es.length<=1000 then some (.list (ds++es)) else none
 | _,_=>none
theorem qkJ   (ha:PD X M a fa) (hb:PD X M b fb):PF X M (.BinOp a .Add b pos) (ev2 fa fb catL) :=
 (qly qfS ha hb).weak λσ H Q ⟨S,ρ,d,hs,e,q⟩=>by
  obtain ⟨x,e1,e⟩:=qd e
  obtain ⟨y,e2,e⟩:=qd e
  refine ⟨S,ρ,x,hs,e1,λv H1 g1 d1=>⟨S,ρ,y,hs.same g1,e2,λv2 H2 g2 d2=>?_⟩⟩
  unfold catL at e
  split at e
  ·split at e
   ·rename_i ds es hc
    cases e
    obtain ⟨l,xs,rfl,h1,t1⟩:=d1.list_inv
    obtain ⟨l2,ys,rfl,h2,t2⟩:=d2.list_inv
    have h1:=h1.imp (λq=>(⟨q.1.off (S:=S) g2.off q.2,q.2⟩:_/\_)) id
    refine ⟨l,l2,xs,ys,rfl,rfl,SqLS.sq (S:=S) h1,h2.sq,by rw [t1.length,t2.length];exact VA (zB hc),λp hp=>q p _ ((g1.trans g2).lay' hp) ((g1.trans g2).free hp) (OwnO.laid hp ((t1.same g2).append t2))⟩
   ·cases e
  ·cases e
structure KnownDX (P:KJ)(w:KZ)(K:Kb)(mg:ao)(base:KS)(x:Str)(n k:Nat)(h:ak)(dds:ae):Prop where
 ex:∃ (f:Ke) (fd:Vp) (ps:aB) (us:az) (dvs:List V),FnOk P w K mg base CX0 k f fd ps (spD K n h)/\mg x=some (.ref f)/\Vl K (.ref f)=true/\Binds K fd ps us/\Vals dvs us/\∀ (H:Hp) (S:Av),DenL K H S dvs dds
theorem KnownDX.known {P:KJ}{w:KZ}{K:Kb}{mg:ao}{base:KS}{x:Str}{n k:Nat}{h:ak}{dds:ae}(F:KnownDX P w K mg base x n k h dds):KnownX P w K mg base x n k h dds:=by
 obtain ⟨f,fd,ps,us,dvs,F,m,kp,b,v,t⟩:=F.ex
 exact ⟨f,fd,ps,us,dvs,F.imp λvs H Q E ⟨S,ds,d,m,h1,h2,e,q⟩=>⟨S,ds,d,m,h1,h2,e,λp fp H' g n o=>q _ H' g (o.den (λr hr=>m.free (n r hr)) λa _ z=>.inl z)⟩,m,kp,b,v,t⟩
section
variable {X:Cx}{G:Gm}{M M1 M' Mb L Mx:aq}{fr:Fr}{a c:KB}{es:aJ}{fs:ab}{pos:Pos}{x:Str}{o:Bool}
theorem qg7 {p:Pos}  {dds:ae} (F:KnownDX X.prog X.w X.K X.mg X.base x n k h dds) (hr:Room k' X.A) (hk:k<=k') (hg:Gl X x) (ha:PDA X M (a::es) fs) (hl:(a::es).length=j) (hj:j+dds.length=n)
  (hdb:'+'=false:=by decide +kernel) (he:bG (a::es) X.env=(false,eval a X.env)::bG es X.env:=by rfl) (hpl:(bT pos (bG es X.env)).any (·.1)=false:=by rfl) :
  PV X M (.Call (.Name x p) (a::es) [] pos) (evC j fs (dfl h dds)):=by
 obtain ⟨f,fd,ps,us,dvs,F,m,kp,b,v,t⟩:=F.ex
 refine (Yj F (hr.mono hk) hg m kp b v qa8 ha hdb he hpl).weak λσ H Q ⟨S,ρ,d,hs,e,q⟩=>?_
 obtain ⟨ds,e1,e⟩:=qd e
 have e:(if ds.length=j then h (ds++dds) else none)=some d:=e
 split at e
 ·rename_i hn
  exact ⟨S,ρ,ds,hs,e1,λvs H1 g1 d1=>⟨S,ds++dds,d,hs.1.same g1,d1.append (t H1 S),by rw [Kj,hn];exact hj,e,λp fp H' g2 n o=>q p fp H' (g1.trans g2) (λr hr=>g1.free (n r hr)) o⟩⟩
 ·cases e
end
def noTs:List String:=["NoneType", "int", "bool", "tuple", "list", "str"]
def ctB (K:Kb)(CS:bC):Bool:=CS.all λc=>match KR K bL c.1 with
 | some (some (.ref C))=>icB K C&&NB K C&&(Vy K (.ref C) "__init__" == some (some (.builtin "object.__init__")))&&Vl K (.ref C)&&(noTs.all λT=>VB K (.type T) (.ref C)==some false)&&(CS.all λd=>match KR K bL d.1 with
   | some (some (.ref D))=>VB K (.ref C) (.ref D)==some (c.2.contains d.1)
   | _=>false)
 | _=>false
structure CTab (K:Kb)(mg:ao)(CS:bC):Prop where
 nm:∀ c∈CS,mg c.1=some (.ref (adr mg c.1))
 ns:∀ c∈CS,KR K bL c.1=some (some (.ref (adr mg c.1)))
 ic:∀ c∈CS,icB K (adr mg c.1)=true
 mkk:∀ c∈CS,NB K (adr mg c.1)=true
 ini:∀ c∈CS,Vy K (.ref (adr mg c.1)) "__init__" = some (some (.builtin "object.__init__"))
 kp:∀ c∈CS,Vl K (.ref (adr mg c.1))=true
 no:∀ c∈CS,∀ T∈noTs,VB K (.type T) (.ref (adr mg c.1))=some false
 kit:∀ c∈CS,∀ d∈CS,VB K (.ref (adr mg c.1)) (.ref (adr mg d.1))=some (c.2.contains d.1)
theorem qjJ {K:Kb}{h:KS}  (X:K.In h) (G:h.Ns bL mg) (e:ctB K CS=true):CTab K mg CS:=by
 have at1:∀ c∈CS,∃ C,KR K bL c.1=some (some (.ref C))/\adr mg c.1=C/\mg c.1=some (.ref C)/\icB K C=true/\NB K C=true/\Vy K (.ref C) "__init__" = some (some (.builtin "object.__init__"))/\Vl K (.ref C)=true/\(∀ T∈noTs,VB K (.type T) (.ref C)=some false)/\∀ d∈CS,∃ D,KR K bL d.1=some (some (.ref D))/\VB K (.ref C) (.ref D)=some (c.2.contains d.1):=λc hc=>by
  have:=Vg.mp e c hc
  split at this
  ·rename_i C hC
   simp only [KD] at this
   obtain ⟨⟨⟨⟨⟨h1,h2⟩,h3⟩,h4⟩,h5⟩,h6⟩:=this
   have hm:=Ni X G hC
   refine ⟨C,hC,by unfold adr;rw [hm],hm,h1,h2,cv.mp h3,h4,λT hT=>cv.mp (Vg.mp h5 T hT),λd hd=>?_⟩
   have:=Vg.mp h6 d hd
   split at this
   ·rename_i D hD
    exact ⟨D,hD,cv.mp this⟩
   ·cases this
  ·cases this
 refine ⟨λc hc=>?_,λc hc=>?_,λc hc=>?_,λc hc=>?_,λc hc=>?_,λc hc=>?_,λc hc T hT=>?_,λc hc d hd=>?_⟩<;>obtain ⟨C,h1,h2,h3,h4,h5,h6,h7,h8,h9⟩:=at1 c hc
 ·rw [h2];exact h3
 ·rw [h2];exact h1
 ·rw [h2];exact h4
 ·rw [h2];exact h5
 ·rw [h2];exact h6
 ·rw [h2];exact h7
 ·rw [h2];exact h8 T hT
 ·obtain ⟨D,g1,g2,_⟩:=at1 d hd
  obtain ⟨D',k1,k2⟩:=h9 d hd
  rw [h2,g2]
  rw [g1] at k1
  cases k1
  exact k2
def objN:Ka->Option Str
 | .dict ((.str c,.none)::(.int 1,.none)::[])=>some c
 | _=>none
theorem qgQ (e:objN d=some c):d=objD c:=by
 unfold objN at e
 split at e
 ·cases e;rfl
 ·cases e
section
variable {X:Cx}{CS:bC}{n:Str}{M:aq}{a b o e:KB}{es:aJ}{f fa fo:aa}{fs:ab}{pos p1 p2 apos:Pos}
theorem qcW (T:CTab X.K X.mg CS)(hg:Gl X n)(hn:(CS.any λp=>p.1==n)=true:=by decide +kernel)(hd:(n==("__debug__" : Str))=false:=by decide +kernel):PD X M (.Call (.Name n p1) [] [] pos) (kd (objD n)):=by
 obtain ⟨p,hp,e⟩:=List.any_eq_true.mp hn
 have e:=cv.mp e
 subst e
 intro bE s σ H Q I ⟨S,ρ,d,hs,e,q⟩
 cases e
 refine U4 (qcN I hg (T.nm p hp) ?_ hd)
 refine PySem.W.callWith_K0 I.kIn (T.kp p hp) (wpAny_call (qgO I.kIn (T.mkk p hp) (T.ini p hp) (λself=>PySem.W.Looks.of_pure (PySem.W.oi_bind self)) ?_))
 have I2:=Inv.made (C:=adr X.mg p.1) I
 have Y:=PySem.W.makes_of (M:=model X.prog X.w) I.kIn (T.mkk p hp)
 have hx:((s.heap.push VQ).push (V0 (adr X.mg p.1) s.heap.objs.size)).get? (s.heap.objs.size+1)=some (V0 (adr X.mg p.1) s.heap.objs.size):=by
  have:=Kx (s.heap.push VQ) (o:=V0 (adr X.mg p.1) s.heap.objs.size) rfl
  rwa [Vo] at this
 have t2:Em '*' ((s.heap.push VQ).push (V0 (adr X.mg p.1) s.heap.objs.size)) (isInstance (.ref (s.heap.objs.size+1)) (.type "object")) true :=
  ((PySem.W.Looks.ld hx).andThen .now).andThen (Y.top.keeps λb o e=>Ki _ (Ki _ e))
 refine NF PySem.W.oi_plain PySem.W.entry_oi (@PySem.W.check_slot '*' _ _ _ "object.__init__" "object" "__init__" (.ref (s.heap.objs.size+1)) [] [] _ PySem.W.oi_kind PySem.W.oi_split t2 (PySem.W.oi_args _) ?_)
 rw [PySem.W.oi_run]
 have n1:H s.heap.objs.size=none:=I.hok.fresh (Kp _)
 have n2:upd H s.heap.objs.size (.own (s.heap.objs.size+1)) (s.heap.objs.size+1)=none:=by
  rw [qO (EA _)]
  exact I.hok.fresh (UL _)
 exact Kn ⟨rfl,⟨.ref (s.heap.objs.size+1),_,I2,rfl,q _ _ ((Same.lay n1).lay' n2) (.ins qU ⟨T.ns p hp,T.ic p hp⟩)⟩⟩
def mtD (tab:List (Str×(List Ka->Option Ka))):List Ka->Option Ka
 | d::ds=>ob (objN d) λc=>ob (tab.find? λp=>p.1==c) λp=>p.2 (d::ds)
 | []=>none
theorem qig  (e:mtD tab (d::ds)=some r):∃ c h,d=objD c/\(c,h)∈tab/\h (d::ds)=some r:=by
 obtain ⟨c,e1,e⟩:=qd (show ob (objN d) _=some r from e)
 obtain ⟨⟨c',h⟩,e2,e3⟩:=qd e
 have:=cv.mp (XW (p:=λp:Str×(List Ka->Option Ka)=>p.1==_) e2)
 dsimp only at this
 subst this
 exact ⟨c',h,qgQ e1,Uk e2,e3⟩
def qjq (P:KJ)(w:KZ)(K:Kb)(mg:ao)(base:KS)(m:Str)(n k:Nat)(c:Str)(h:ak):Prop :=
 ∃ (C f:Ke) (fd:Vp) (ps:aB) (k0:Nat),KR K bL c=some (some (.ref C))/\Meth K C m f/\k0<=k/\FnOk P w K mg base CX0 k0 f fd ps (spF K n h)/\Binds K fd ps []
structure KnownC (P:KJ)(w:KZ)(K:Kb)(mg:ao)(base:KS)(m:Str)(n k:Nat)(tab:List (Str×(List Ka->Option Ka))):Prop where
 ex:∀ p∈tab,qjq P w K mg base m n k p.1 p.2
theorem qiu  {pl:Sem Bool} (F:KnownC X.prog X.w X.K X.mg X.base m j k tab) (hr:Room k' X.A) (hk:k<=k') (ho:PD X M o fo) (ha:PDA X M (e::es) fs)
  (hst:bG (e::es) X.env=(false,eval e X.env)::bG es X.env:=by rfl) (hpl:(bT pos (bG es X.env)).any (·.1)=false:=by rfl)
  (ht:eval (.Call (.Attribute o m apos) (e::es) [] pos) X.env=(do
   let ov ← eval o X.env
   cV apos.atName
   let (f,first) ← holding [ov] (getMethod ov m pl)
   callWith pos f first (bT pos (bG (e::es) X.env)) (cH pos (cu [] X.env))):=by rfl) :
  PD X M (.Call (.Attribute o m apos) (e::es) [] pos) (evC j (aC fo fs) (mtD tab)):=by
 intro bE s σ H Q I ⟨S,ρ,r,hs,e,q⟩
 obtain ⟨ds,e1,e⟩:=qd e
 obtain ⟨d,e2,e1⟩:=qd e1
 obtain ⟨ds',e3,e1⟩:=qd e1
 cases e1
 have e:(if (d::ds').length=j then mtD tab (d::ds') else none)=some r:=e
 split at e
 case isFalse=>cases e
 rename_i hl
 obtain ⟨c,h,rfl,hc,e⟩:=qig e
 obtain ⟨C,f,fd,ps,k0,hC,hm,hk0,F,hb⟩:=F.ex _ hc
 refine PySem.W.methodCall_KW (pl:=pl) (thn (ho bE s σ H (λv H1=>Same H H1/\Den X.K H1 S v (objD c)) I ⟨S,ρ,_,hs,e2,λv H1 g1 d1=>⟨g1,d1⟩⟩) λu s1 ⟨x,H1,I1,rx,g1,d1⟩=>?_) ht
 obtain ⟨a,dx,C',rfl,ea,hC',hic⟩:=d1.ins_inv
 rw [hC] at hC'
 cases hC'
 obtain rfl:u=Vd a:=rx
 refine qev I1 ea (qex hic).cl hm rfl ?_
 refine Ff (first:=[.ref a]) (h₀:=X.base) I.ok.mod.kin hm.kp (thn (ha pos bE s1 σ H1 (λvs H2=>Same H1 H2/\DenL X.K H2 S vs ds') I1 ⟨S,ρ,_,hs.same g1,e3,λvs H2 g2 d2=>⟨g2,d2⟩⟩) λus s2 ⟨vs,H2,I2,r,g2,d2⟩=>⟨I2.kIn,?_⟩) hst hpl
 exact qi2 (us:=.ref a::us) (vs:=.ref a::vs) F (hr.mono (Ve hk0 hk)) hb .nil qa8 I2 (.cons rfl r) ⟨S,_,_,(hs.1.same g1).same g2,by rw [VM];exact .cons (d1.same g2) d2,hl,e,λv H' g3 d3=>q v H' ((g1.trans g2).trans g3) d3⟩
end
def MthK (K:Kb)(c m qual:Str)(st:KQ):Prop:=∃ (C f:Ke) (fd:Vp),KR K bL c=some (some (.ref C))/\Meth K C m f/\Fun K m qual st f fd
theorem MthK.of {K:Kb}{c m qual:Str}{st:KQ}{C f:Ke}{oc:Kc}{od an:aI}{osl:au}{kV doc pm cdv ct:Kc}(a:KR K bL c=some (some (.ref C)))(g:Vy K (.ref C) m=some (some (.ref f)))(i:Fd K (.ref f)=true)
  (l:K.lookup f=some ⟨oc,od,.func (Ud m qual (Zh st) (zO st) (qe st) .none kV doc pm an cdv ct),osl⟩) (d:UH K cdv qual=true) (k:Vl K (.ref f)=true):MthK K c m qual st:=⟨C,f,_,a,⟨g,i,k⟩,qeu l d k⟩
noncomputable def clsB:KQ->List KQ
 | .ClassDef _ _ _ body ..=>body
 | _=>[]
abbrev zpO (f0:Kc)(b:Bool)(ti to:Ke):Obj:={ cls:=.type "zip", dict:=none,data:=.fields #[f0,.bool b,.bool false,.ref ti,.ref to],slots:=#[] }
def Zs (h:KS)(z ti to:Ke):Prop:=∃ f0 b,h.get? z=some (zpO f0 b ti to)/\(f0=.none\/∃ T:Int,f0=cI T)
def Zw (h:KS)(z ti to:Ke):Prop:=∃ f0 b,h.get? z=some (zpO f0 b ti to)
theorem Zs.w {h:KS}{z ti to:Ke}(q:Zs h z ti to):Zw h z ti to:=let ⟨f,b,e,_⟩:=q;⟨f,b,e⟩
def GU (H:Hp)(S0:Av)(p:Ke):Gm:=⟨λa=>if a=p then none else H a,S0,λ_=>(0,.none)⟩
inductive DenU (K:Kb)(H:Hp)(S:Av)(p:Ke):Nat->List V->List Ka->Prop
 | here {vs:List V} {d:Ka} {ds:ae}:DenL K H S vs ds->DenU K H S p 0 (.ref p::vs) (d::ds)
 | there {i:Nat} {v:V} {d:Ka} {vs:List V} {ds:ae}:Den K H S v d->DenU K H S p i vs ds->DenU K H S p (i+1) (v::vs) (d::ds)
section
variable {K:Kb}{H H':Hp}{S:Av}{p:Ke}{i:Nat}{vs:List V}{ds:ae}
theorem DenU.length (h:DenU K H S p i vs ds):vs.length=ds.length:=by
 induction h with
 | here t=>rw [Kw,Kw,t.length]
 | there a t ih=>rw [Kw,Kw,ih]
theorem DenU.at (h:DenU K H S p i vs ds):vs[i]?=some (.ref p):=by
 induction h with
 | here t=>rfl
 | there a t ih=>exact ih
theorem DenU.off (h:DenU K H S p i vs ds):∀ (j:Nat) (d:Ka),j≠i->ds[j]?=some d->∃ v,vs[j]?=some v/\Den K H S v d:=by
 induction h with
 | here t =>
  intro j d n e
  cases j with
  | zero=>exact absurd rfl n
  | succ j=>exact t.get e
 | there a t ih =>
  intro j d n e
  cases j with
  | zero=>cases e;exact ⟨_,rfl,a⟩
  | succ j=>exact ih j d (λz=>n (by rw [z])) e
end
def spU (K:Kb)(n i:Nat)(h:ak):Sp:=λvs H Q _=>∃ S0 p ds d d',Dm (insA S0 p) H/\¬ S0 p/\DenU K H (insA S0 p) p i vs ds/\ds.length=n/\ds[i]?=some d/\OwnO K H (insA S0 p) p d/\h ds=some d'/\
 ∀ H',(∀ a o,a≠p->H a=some o->H' a=some o)->OwnO K H' (insA S0 p) p d'->Q .non H'
theorem OwnS.startU {K:Kb}{H:Hp}{S0:Av}{p:Ke}{i:Nat}{vs:List V}{ds:ae}{d:Ka}(m:Dm (insA S0 p) H)(n0:¬ S0 p)(h:DenU K H (insA S0 p) p i vs ds)(e:ds[i]?=some d)(o:OwnO K H (insA S0 p) p d)(N:aB)(hi:i<1000) :
  OwnS K (GU H S0 p) [i] [] H (insA S0 p) (L2.start N vs) (rho0 N.length ds):=by
 have hl:=h.length
 have get:∀ j e',(rho0 N.length ds)[j]?=some (some e')->ds[j]?=some e':=λj e' q=>by
  unfold rho0 at q
  by_cases hj:j<ds.length
  ·rw [KL (by rw [Kf];exact hj),Ky] at q
   cases z:ds[j]? with
   | none=>rw [z] at q;cases q
   | some x=>rw [z] at q;cases q;rfl
  ·rw [Vi (by rw [Kf];omega),Uu] at q
   split at q<;>cases q
 have put:∀ j v,vs[j]?=some v->(L2.start N vs)[j]?=some (some v):=λj v q=>by
  unfold L2.start
  have hj:=(Kl.mp q).1
  rw [KL (by rw [Kf];exact hj),Ky,q]
  rfl
 have one:∀ j,Flt [i] j->j=i:=λj q=>Ks.mp q.1
 have no:∀ j,Dp [i] j->False:=λj q=>by
  have a:=Ks.mp q.1
  have b:=Ks.mp q.2
  omega
 refine ⟨⟨m,?_,λj d' nj q=>?_⟩,λa z=>.inl z,λa o q=>?_,λj hj d' q=>?_,λj hj k hk _ _ _ _ _ _ _=>(one j hj).trans (one k hk).symm,λa z=>?_,(λ_ h=>nomatch h),λ_=>[],λj hj=>(no j hj).elim,λj hj=>(no j hj).elim,λj _ k hk=>(no k hk).elim⟩
 ·unfold L2.start rho0
  rw [Kj,Kj,Kf,Kf,VD,VD,hl]
 ·obtain ⟨v,a,b⟩:=h.off j d' (λz=>nj (by rw [z];exact .head _)) (get j d' q)
  exact ⟨v,put j v a,b⟩
 ·have q:(if a=p then none else H a)=some o:=q
  split at q
  ·cases q
  ·exact q
 ·have:=one j hj
  subst this
  have:=get _ d' q
  rw [e] at this
  cases this
  exact ⟨p,put _ _ h.at,o,.inr rfl,n0,λ_=>bI rfl,λz=>nomatch z⟩
 ·rcases z with z|z
  ·exact .inl z
  ·exact .inr (.inl (by rw [z];exact bI rfl))
def tDP (K:Kb)(G:Gm)(i:Nat)(f:ai):TS:=λD σ H=>∃ S ρ ρ',OwnS K G [i] [] H S σ ρ/\f ρ=some (.nx ρ')/\∀ σ' H' S',σ'[i]?=σ[i]?->OwnS K G [i] [] H' S' σ' ρ'->D.nx σ' H'
def PDP (X:Cx)(G:Gm)(i:Nat)(s:KQ)(f:ai):Prop:=PS X s (tDP X.K G i f)
def PDPs (X:Cx)(G:Gm)(i:Nat)(s:bu)(f:ai):Prop:=PSs X s (tDP X.K G i f)
section
variable {X:Cx}{G:Gm}{i0:Nat}{a b c:KB}{es:aJ}{f g:aa}{p:aj}{pos:Pos}{s1:KQ}{ss st1 st2:bu}{u w:ai}
theorem qkD:PDPs X G i0 [] sN:=qf7.weak λD σ H ⟨S,ρ,ρ',hs,e,q⟩=>by cases e;exact q σ H S rfl hs
theorem qiy (h1:PDP X G i0 s1 u)(h2:PDPs X G i0 ss w):PDPs X G i0 (s1::ss) (seqO u w) :=
 (qed h1 h2).weak λD σ H ⟨S,ρ,ρ',hs,e,q⟩=>by
  obtain ⟨o1,e1,e⟩:=qd e
  cases o1 with
  | nx ρ1=>exact ⟨S,ρ,ρ1,hs,e1,λσ' H' S' k hs'=>⟨S',ρ1,ρ',hs',e,λσ2 H2 S2 k2 hs2=>q σ2 H2 S2 (k2.trans k) hs2⟩⟩
  | rt d=>cases e
  | bk d=>cases e
  | ct d=>cases e
theorem qfV (h1:PDP X G i0 s1 u):PDPs X G i0 [s1] u:=qf8 h1
theorem qmK (hc:PDT X [] c p)(h1:PDPs X G i0 st1 u)(h2:PDPs X G i0 st2 w):PDP X G i0 (.If c st1 st2 pos) (sIf p u w) :=
 (qlz hc h1 h2).weak λD σ H ⟨S,ρ,ρ',hs,e,q⟩=>by
  obtain ⟨d,e1,e⟩:=qd e
  refine ⟨G.S0,ρ,d,hs.den,e1,λH1 g1=>?_⟩
  cases d with
  | true=>exact iteT ⟨S,ρ,ρ',hs.same g1,e,q⟩
  | false=>exact iteF ⟨S,ρ,ρ',hs.same g1,e,q⟩
theorem qkE (i:Nat){x:Str}{p':Pos}(hN:X.N.Nodup)(hx:Loc X.env.scope x)(hi:X.N[i]?=some x)(hs:bZ a (some (.Name x p')) pos.line X.env=pure false)(hf:X.fn x=true\/X.env.scope.names.lookup x=some .local)(hM:i∉[i0])(he:PD X [i0] a f) :
  PDP X G i0 (.Assign [.Name x p'] a pos) (sSet i f) :=
 (YK hN hi hx he hs hf).weak λD σ H ⟨S,ρ,o,hs,e,q⟩=>by
  obtain ⟨d,e1,e⟩:=qd e
  cases e
  exact ⟨S,ρ,d,hs.ds,e1,λv H1 g1 d1=>q _ H1 S (qz (λz=>hM (by rw [z];exact .head _))) ((hs.same g1).set d1 hM)⟩
theorem qkC {x:Str}{px apos cpos:Pos}(hv:Vis X.env.scope x)(he:PD X [i0] a f)(h1000:i0+1000∉[i0]:=by decide)(hN:X.N[i0]?=some x:=by rfl)(hd:'+'=false:=by decide +kernel)(hcd:(x==("__classdict__" : Str))=false:=by decide +kernel)
  (hbase:bU '3' "append" X.env (eval '3' X.env)=eval '3' X.env:=by rfl)
  (hfew:((bT cpos (bG [a] X.env)).all (λx=>!x.1)&&(cH cpos (cu [] X.env)).all (λx=>x.1.isSome)
   && decide ([a].length+([]:List UI).length+(if ([]:List UI).isEmpty then 0 else 1)<30))=true:=by rfl)
  (hline:(apos.endLine==cpos.line)=true:=by rfl) (hs:bG [a] X.env=(false,eval a X.env)::bG [] X.env:=by rfl) (hplain:(bT cpos (bG [] X.env)).any (·.1)=false:=by rfl)
  (hsw:bZ (.Call (.Attribute '3' "append" apos) [a] [] cpos) none pos.line X.env=pure false:=by rfl) :
  PDP X G i0 (.Expr (.Call (.Attribute '3' "append" apos) [a] [] cpos) pos) (sApp i0 f) :=
 (Yk (qb7 VY Xr X3 WK (jo i0 hv hN hd hcd) (qT he zV hs) hbase hfew hline hs hplain) hsw).weak λD σ H ⟨S,ρ,o,os,e,q⟩=>by
  obtain ⟨l,e1,e⟩:=qd e
  obtain ⟨d,e2,e⟩:=qd e
  obtain ⟨l',e3,e⟩:=qd e
  cases e
  obtain ⟨ds,rfl,hz,rfl⟩:=yX e3
  have hM:Flt [i0] i0:=⟨.head _,h1000⟩
  obtain ⟨pp,a1,b1,c1,n1,w1,_⟩:=os.own i0 hM _ (zN e1)
  cases b1 with
  | @lst xs _ h t =>
   refine ⟨_,a1,.inl ⟨rfl,_,SqL.of h⟩,S,ρ,[d],os.ds,by show ob (f ρ) _=_;rw [e2];rfl,λvs H2 g2 dl=>?_⟩
   obtain ⟨v,rfl,dv⟩:=dl.inv1
   have os2:=os.same g2
   refine ⟨pp,xs,v,rfl,rfl,g2 _ _ h,K8 (by rw [t.length];exact hz) (VA (zB (Kp _))),?_⟩
   exact q _ _ _ rfl (os2.write hM (λz=>nomatch z) (zN e1) a1 rfl (.lst qU (((t.same g2).snoc dv).off os2.ds.1 (Off.upd c1))))
end
def outU (i:Nat):Out->Option Ka
 | .nx ρ=>vr i ρ
 | _=>none
section
variable {P:KJ}{w:KZ}{K:Kb}{mg:ao}{base:KS}
theorem Fun.mutp {x qual:Str}{st:KQ}{f:Ke}{fd:Vp}{N ps:aB}{k n i:Nat}{u:ai}(F:Fun K x qual st f fd)(S:FnScope N ps (qe st))(hn:ps.length=n)(hi:i<1000)
  (hbody:∀ (cdv:Kc) (A:K0) (outer:aU) (s:Kh) (H:Hp) (E:XK),Room k (A.deeper (cD qual (qe st) s.heap.objs.size f cdv))->∀ G:Gm,
   PDPs (cxOf CX0 P w K mg base N qual (qe st) f cdv A outer s H E).nox G i (zO st) u) :
  FnOk P w K mg base CX0 (k+1) f fd ps (spU K n i λds=>ob (u (rho0 N.length ds)) (outU i)):=by
 refine F.g.ok S (λvs H Q E h=>?_) (λcdv A outer s H vs Q E hr h=>?_)
 ·obtain ⟨_,_,ds,_,_,_,_,h1,h2,_⟩:=h
  rw [h1.length,h2,hn]
 ·obtain ⟨S0,p,ds,d,d',m,n0,h1,h2,h3,ow,e,q⟩:=h
  obtain ⟨o,e1,e⟩:=qd e
  cases o with
  | rt r=>cases e
  | bk ρ=>cases e
  | ct ρ=>cases e
  | nx ρ =>
   have hs0:=OwnS.startU m n0 h1 h3 ow N hi
   refine ⟨_,hbody cdv A outer s H E hr (GU H S0 p),insA S0 p,rho0 N.length ds,ρ,hs0,e1,λσ' H' S' k hs=>q H' (λa o na ha=>hs.h0 a o ((bJ na).trans ha)) ?_⟩
   have sp:(L2.start N vs)[i]?=some (some (.ref p)):=by
    unfold L2.start
    rw [KL (by rw [Kf];exact (Kl.mp h1.at).1),Ky,h1.at]
    rfl
   obtain ⟨p',a,b,c,_⟩:=hs.own i ⟨.head _,λz=>by have:=Ks.mp z;omega⟩ d' (zN e)
   rw [k,sp] at a
   cases a
   exact b.sub λa _ z=>z.elim (λz=>hs.s0 a z) λz=>by rw [z];exact c
structure KnownU (P:KJ)(w:KZ)(K:Kb)(mg:ao)(base:KS)(x:Str)(n k i:Nat)(h:ak):Prop where
 ex:∃ (f:Ke) (fd:Vp) (ps:aB),FnOk P w K mg base CX0 k f fd ps (spU K n i h)/\mg x=some (.ref f)/\Vl K (.ref f)=true/\Binds K fd ps []
end
theorem OwnS.denU {K:Kb}{G:Gm}{M L:aq}{H:Hp}{S:Av}{σ:St}{ρ:Rho}(h:OwnS K G M L H S σ ρ){i:Nat}{d:Ka}{p:Ke}(hi:Flt M i)(e:ρ[i]?=some (some d))(es:σ[i]?=some (some (.ref p))):DenS K H (insA G.S0 p) [i] σ ρ:=by
 obtain ⟨p',a,b,c,n,_⟩:=h.own i hi d e
 rw [es] at a
 cases a
 have sub:∀ a,H a≠none->insA G.S0 p a->S a:=λa _ z=>z.elim (λz=>h.s0 a z) λz=>by rw [z];exact c
 refine ⟨λa z=>h.ds.1 a (z.elim (λz=>h.s0 a z) λz=>by rw [z];exact c),h.ds.2.1,λj d' nj q=>?_⟩
 have nji:j≠i:=λz=>nj (by rw [z];exact .head _)
 by_cases hj:j∈M
 ·by_cases hk:j+1000∈M
  ·obtain ⟨F,f⟩:=h.deep
   obtain ⟨p2,a2,b2,c2⟩:=f.own j ⟨hj,hk⟩ d' q
   exact ⟨_,a2,b2.den (λq hq z=>z.elim (c2 q hq).2.1 λz=>f.flat i hi j ⟨hj,hk⟩ ⟨_,e⟩ ⟨_,‹ρ[j]?=some (some d')›⟩ p es (by rw [← z];exact hq)) sub⟩
  ·obtain ⟨p2,a2,b2,c2,n2,_⟩:=h.own j ⟨hj,hk⟩ d' q
   exact ⟨_,a2,b2.den (λz=>z.elim n2 λz=>nji (h.apart j ⟨hj,hk⟩ i hi d' d p q e (by rw [← z];exact a2) es)) sub⟩
 ·obtain ⟨v,a2,b2⟩:=h.ds.2.2 j d' hj q
  exact ⟨v,a2,b2.sub sub⟩
def tAU (K:Kb)(i n:Nat)(fs:ab):TA:=λσ H Q=>∃ S ρ ds p,DenS K H S [i] σ ρ/\σ[i]?=some (some (.ref p))/\fs ρ=some ds/\∀ vs H',Same H H'->DenU K H' S p n vs ds->Q vs H'
def PAU (X:Cx)(i n:Nat)(es:aJ)(fs:ab):Prop:=PA X es (tAU X.K i n fs)/\∀ ρ ds,fs ρ=some ds->∃ d,ρ[i]?=some (some d)/\ds[n]?=some d
section
variable {X:Cx}{G:Gm}{M M' Mb L:aq}{fr:Fr}{a b c:KB}{es:aJ}{f g:aa}{fs:ab}{pos:Pos}
theorem qit (i:Nat){x:Str}(hv:Vis X.env.scope x)(h:PDA X [i] es fs)(hN:X.N[i]?=some x:=by rfl)(hd:'+'=false:=by decide +kernel)(hcd:(x==("__classdict__" : Str))=false:=by decide +kernel)
  (he:bG (.Name x pos::es) X.env=(false,eval (.Name x pos) X.env)::bG es X.env:=by rfl):PAU X i 0 (.Name x pos::es) (aC (vr i) fs) :=
 ⟨(
  jd (jo i hv hN hd hcd) h he).weak λσ H Q ⟨S,ρ,ds,p,hs,e,ef,q⟩=>by
  obtain ⟨d,e1,ef⟩:=qd ef
  obtain ⟨es',e2,ef⟩:=qd ef
  cases ef
  exact ⟨_,e,S,ρ,es',hs,e2,λvs H' g dl=>q _ H' g (.here dl)⟩,λρ ds ef=>by
  obtain ⟨d,e1,ef⟩:=qd ef
  obtain ⟨es',e2,ef⟩:=qd ef
  cases ef
  exact ⟨d,zN e1,rfl⟩⟩
theorem qgR {i n:Nat}(ha:PD X [i] a f)(h:PAU X i n es fs)(he:bG (a::es) X.env=(false,eval a X.env)::bG es X.env:=by rfl):PAU X i (n+1) (a::es) (aC f fs) :=
 ⟨(
  jd ha h.1 he).weak λσ H Q ⟨S,ρ,ds,p,hs,e,ef,q⟩=>by
  obtain ⟨d,e1,ef⟩:=qd ef
  obtain ⟨es',e2,ef⟩:=qd ef
  cases ef
  exact ⟨S,ρ,d,hs,e1,λv H1 g1 d1=>⟨S,ρ,es',p,hs.same g1,e,e2,λvs H2 g2 du=>q _ H2 (g1.trans g2) (.there (d1.same g2) du)⟩⟩,λρ ds ef=>by
  obtain ⟨d,e1,ef⟩:=qd ef
  obtain ⟨es',e2,ef⟩:=qd ef
  cases ef
  exact h.2 ρ es' e2⟩
def qcY (i n:Nat)(fs:ab)(h:ak):Rho->Option Out:=λρ=>ob (fs ρ) λds=>ob (h ds) λd=>if ds.length=n/\qhK d=true then some (.nx (ρ.set i (some d))) else none
theorem qgV (i j:Nat){x:Str}{p cpos:Pos}{n k k':Nat}{h:ak}(F:KnownU X.prog X.w X.K X.mg X.base x n k j h)(hr:Room k' X.A)(hk:k<=k')(hg:Gl X x)(hM:Flt M i)(hL:i∉L)(ha:PAU X i j (a::es) fs)
  (hdb:'+'=false:=by decide +kernel) (he:bG (a::es) X.env=(false,eval a X.env)::bG es X.env:=by rfl) (hpl:(bT cpos (bG es X.env)).any (·.1)=false:=by rfl)
  (hsw:bZ (.Call (.Name x p) (a::es) [] cpos) none pos.line X.env=pure false:=by rfl) :
  PDS X G M L M Mb fr (.Expr (.Call (.Name x p) (a::es) [] cpos) pos) (qcY i n fs h):=by
 obtain ⟨f,fd,ps,F,m,kp,b⟩:=F.ex
 refine (Yk (Yj F (hr.mono hk) hg m kp b .nil qa8 ha.1 hdb he hpl) hsw).weak λD σ H ⟨S,ρ,o,os,e,q⟩=>?_
 obtain ⟨ds,e1,e⟩:=qd e
 obtain ⟨d,e2,e⟩:=qd e
 split at e
 case isFalse=>cases e
 rename_i hc
 cases e
 obtain ⟨d0,r0,d0s⟩:=ha.2 ρ ds e1
 obtain ⟨pp,a1,b1,c1,n1,w1,_⟩:=os.own i hM d0 r0
 have du:=os.denU hM r0 a1
 refine ⟨insA G.S0 pp,ρ,ds,pp,du,a1,e1,λvs H1 g1 dl=>?_⟩
 have os1:=os.same g1
 refine ⟨G.S0,pp,ds,d0,d,du.1.same g1,n1,by rw [VM];exact dl,hc.1,d0s,(b1.same g1).sub λa _ z=>z.elim (λz=>os.s0 a z) λz=>by rw [z];exact c1,e2,λH' kp' ow=>q _ H' S ?_⟩
 obtain ⟨o',eo,mo⟩:=ow.mut
 have eH:H'=L2.upd (λa=>if a=pp then H1 a else H' a) pp o':=by
  funext a
  unfold L2.upd
  by_cases z:a=pp
  ·rw [bI z,z];exact eo
  ·rw [bJ z];exact (bJ z).symm
 have sm:Same H1 (λa=>if a=pp then H1 a else H' a):=λa o ha=>by
  show (if a=pp then H1 a else H' a)=some o
  by_cases z:a=pp
  ·rw [bI z];exact ha
  ·rw [bJ z];exact kp' a o z ha
 have os2:=os1.same sm
 rw [eH] at ow ⊢
 exact os2.write hM hL r0 a1 mo (ow.flat hc.2)
end
section
variable {prog:KJ}{w:KZ}{A:K0}{E:ah}{s:Kh}
theorem qeM:typeLookup (.type "list_reverseiterator") "__len__" = pure none:=by rw [typeLookup_type,builtinLookup_eq_fast];kernel_rfl
theorem qdT:typeLookup (.type "list_reverseiterator") "__length_hint__" = pure (some (.builtin "list_reverseiterator.__length_hint__")):=by rw [typeLookup_type,builtinLookup_eq_fast];kernel_rfl
theorem qhP {it l:Ke}{i:Int}{Q:Bool->Kh->Prop}(hit:s.heap.IsRevIter it l i)(h:Q false s):bK ',' A (N3 (.ref it)) Q E s:=by
 unfold N3
 refine Kd (Xt hit.typeIs qeM ?_)
 refine Xy (λhab=>absurd hab (by decide)) (λ_=>?_)
 refine Xy (λhab=>absurd hab (by decide)) (λ_=>?_)
 refine Kd (Xt hit.typeIs qdT ?_)
 generalize hid:("list_reverseiterator.__length_hint__" : String)=id0
 wp_delta
 rw [show splitId id0=some ("list_reverseiterator", "__length_hint__") from by subst hid;decide +kernel]
 subst hid
 refine Kd (Eu (T := "list_reverseiterator") (b:=true) hit.typeIs (by rw [isSubtype_type];kernel_rfl) ?_)
 refine Xy (λhab=>absurd hab (by decide)) (λ_=>?_)
 refine Xy (λ_=>?_) (λhab=>absurd (by decide +kernel) hab)
 refine Xy (λhab=>absurd hab (by decide +kernel)) (λ_=>Kn h)
theorem qjT {R:bg}{r l:Ke}{items:aT}(hh:A.handled=none)(hr:s.heap.IsRevIter r l ((items.size:Int)-1))(hl:s.heap.IsList l items)(hne:l≠r)(hlen:items.size<=2 ^ 24)(S:Ke)(res:Kc)(c₀:Nat)(hSr:S≠r)(hSl:S≠l)(hS:s.heap.get? S=some { cls:=.type "list", data:=.seq #[] c₀ })
  (hR:∀ h' tk acc' c',(∀ b o,b≠S->b≠r->s.heap.get? b=some o->h'.get? b=some o)->h'.get? S=some { cls:=.type "list", dict:=none,data:=.seq acc' c',slots:=#[] }->
   ItemsOf (λi v=>items[items.size-1-i]?=some v) acc' items.size->R (.ok (.ret res)) { s with heap:=h',toks:=tk }) :
  bK ',' A.in1 (U6 (.ref S) (.ref r) res)
   (λfin s'=>match fin with | .done f=>R (.ok f) s' | .again c'=>c'.quiet=true/\cA ',' A c' R s') (λe s'=>R (.error e) s') s:=by
 have W:=(Walks.listRev (prog:=prog) (w:=w) (A:=A.in1) hh r l hne items).toS
 have hT:=hr.typeIs
 unfold U6
 refine Kd (wpAny_typeOf (T := "list_reverseiterator") hT ?_)
 have h1:EC (.ref S) (.ref r)=false:=by simp [EC,hSr]
 have h2:(Vs "list_reverseiterator" == Vs "list")=false:=by decide
 have h3:(Vs "list_reverseiterator" == Vs "tuple")=false:=by decide
 simp only [h1,h2,h3,Bool.or_false,VL,cm]
 refine Kd (wpAny_pyIter_revIter hr ?_);refine Kd (VZ (qhP hr ?_))
 refine Xy (λhab=>absurd hab (by decide)) (λ_=>Kn ⟨Uq F.plain_extend_loop _,?_⟩)
 refine codeAny_extend_loopS W (by rw [Xj];omega) S (by simp [hSr,hSl]) res items.size 0 _ #[] c₀ rfl (Vh _) ⟨Vh _,by simpa using hr,hl⟩ hS (ItemsOf.nil _) λs' acc' c' hm hS' hacc=>?_
 rw [Moved.eq_with hm]
 exact hR s'.heap s'.toks acc' c' (λb o hb hb2 e=>hm.heap b o (λz=>by simp [hb,hb2] at z) e) hS' hacc
theorem qbx {Q:ah}{r l:Ke}{items:aT}(hh:A.handled=none)(hr:s.heap.IsRevIter r l ((items.size:Int)-1))(hl:s.heap.IsList l items)(hne:l≠r)(hlen:items.size<=2 ^ 24)
  (hQ:∀ h' tk acc' c',(∀ b o,b≠r->s.heap.get? b=some o->h'.get? b=some o)->
   h'.get? s.heap.objs.size=some { cls:=.type "list", dict:=none,data:=.seq acc' c',slots:=#[] }->ItemsOf (λi v=>items[items.size-1-i]?=some v) acc' items.size->Q (.ref s.heap.objs.size) { s with heap:=h',toks:=tk }) :
  bK ',' A (call (.type "list") [.ref r]) Q E s:=by
 have lr:r<s.heap.objs.size:=by obtain ⟨o,e,_⟩:=hr;exact KF e
 have ll:l<s.heap.objs.size:=by obtain ⟨o,e,_⟩:=hl;exact KF e
 refine callType_codes (Q₁:=λobj s₁=>obj=.ref s.heap.objs.size/\s₁={ s with heap:=s.heap.push { cls:=.type "list", data:=.seq #[] } }) F.called_list (F.typeCall_list_1 _) F.entry_list_init (code_list_new _ ⟨rfl,rfl⟩) λobj s₁ h₁=>?_
 obtain ⟨rfl,rfl⟩:=h₁
 have hS:(s.heap.push { cls:=.type "list", data:=.seq #[] }).get? s.heap.objs.size=some { cls:=.type "list", data:=.seq #[] }:=Kx _ rfl
 have hSr:s.heap.objs.size≠r:=UC lr
 have hSl:s.heap.objs.size≠l:=UC ll
 refine ⟨⟨_,hS,rfl⟩,F.args_list_init_2 _ _,?_⟩
 show bK _ _ (do let old ← ES (.ref s.heap.objs.size);Builtin.List.listUpdate (.ref s.heap.objs.size) (λ_=>#[]);letGo old.toList.reverse;U6 (.ref s.heap.objs.size) (.ref r) .none) _ _ _
 refine Kd ?_
 unfold ES
 refine Kd (Ut hS rfl (Kn ?_))
 show bK _ _ (updateSeq s.heap.objs.size (λ_=>#[]) >>= λ_=>letGo (#[]:Array Kc).toList.reverse >>= λ_=>U6 (.ref s.heap.objs.size) (.ref r) .none) _ _ _;refine Kd (Xa hS rfl ?_)
 have hS2:=UJ (Ub (λ_=>(#[]:Array Kc))) hS rfl
 have oth:∀ b o,b≠s.heap.objs.size->s.heap.get? b=some o->((s.heap.push { cls:=.type "list", data:=.seq #[] }).update s.heap.objs.size (Ub (λ_=>(#[]:Array Kc)))).get? b=some o :=
  λb o hb e=>(K6 _ _ (Ul hb)).trans (Ki _ e)
 refine Kd (U1 ?_)
 refine qjT (s:={ s with heap:=(s.heap.push { cls:=.type "list", data:=.seq #[] }).update s.heap.objs.size (Ub (λ_=>(#[]:Array Kc))) }) (A:=A.in1) (items:=items) hh (hr.at λo e=>oth r o (Ul hSr) e) (hl.at λo e=>oth l o (Ul hSl) e) hne hlen _ .none _ hSr hSl hS2 λh' tk acc' c' hk hS' hacc=>?_
 exact ⟨rfl,hQ h' tk acc' c' (λb o hb e=>hk b o (KW (KF e)) hb (oth b o (KW (KF e)) e)) hS' hacc⟩
end
def revD:Ka->Option Ka
 | .list ds=>if ds.length<=1000 then some (.list ds.reverse) else none
 | _=>none
theorem DenL.rev {K:Kb}{H:Hp}{S:Av}:∀ {vs:List V} {ds:ae},DenL K H S vs ds->DenL K H S vs.reverse ds.reverse
 | _,_,.nil=>.nil
 | _,_,.cons a t=>by rw [Uv,Uv];exact (DenL.rev t).snoc a
theorem Vals.rev:∀ {vs:List V} {us:az},Vals vs us->Vals vs.reverse us.reverse
 | _,_,.nil=>.nil
 | _,_,.cons a t=>by rw [Uv,Uv];exact (Vals.rev t).append (.cons a .nil)
theorem qg9 {items acc:aT}(h:ItemsOf (λi v=>items[items.size-1-i]?=some v) acc items.size):acc.toList=items.toList.reverse:=by
 refine Ek λi=>?_
 by_cases hi:i<items.size
 ·have ha:acc[i]?=some (acc[i]'(by rw [h.1];exact hi)):=VS (by rw [h.1];exact hi)
  have hb:=h.2 i _ ha
  rw [List.getElem?_reverse (by rw [KU];exact hi),KU,Um,Um,ha,hb]
 ·rw [Ue (by rw [KU,h.1];omega),Ue (by rw [XQ,KU];omega)]
theorem qeT {X:Cx}{M:aq}{a:KB}{fa:aa}{p1 p2 pos rpos:Pos}{k:Nat}(hr:Room k X.A)(hg:Gl X "list")(hm:X.mg "list" = none)(hgr:Gl X "reversed")(hmr:X.mg "reversed" = none)(ha:PD X M a fa)
  (he:bG [.Call (.Name "reversed" p2) [a] [] rpos] X.env=(false,eval (.Call (.Name "reversed" p2) [a] [] rpos) X.env)::bG [] X.env:=by rfl) (hpl:(bT pos (bG [] X.env)).any (·.1)=false:=by rfl) (he2:bG [a] X.env=(false,eval a X.env)::bG [] X.env:=by rfl) (hpl2:(bT rpos (bG [] X.env)).any (·.1)=false:=by rfl) :
  PF X M (.Call (.Name "list" p1) [.Call (.Name "reversed" p2) [a] [] rpos] [] pos) (ev1 fa revD):=by
 intro bE s σ H Q I ⟨S,ρ,d,hs,e,q⟩
 obtain ⟨x,e1,e⟩:=qd e
 unfold revD at e
 split at e
 case h_2=>cases e
 rename_i ds
 split at e
 case isFalse=>cases e
 rename_i hz
 cases e
 have bl:bS "list" = some (.type "list"):=rfl
 have br:bS "reversed" = some (.type "reversed"):=by decide +kernel
 refine U4 (YC I hg hm bl ?_ (by decide +kernel) (by decide +kernel))
 refine Uy ?_ he hpl
 rw [he]
 refine Calls.spliced_cons ?_
 refine U4 (YC I hgr hmr br ?_ (by decide +kernel) (by decide +kernel))
 refine Uy ?_ he2 hpl2
 refine thn ((qT ha zV he2) rpos bE s σ H (λvs H1=>Same H H1/\DenL X.K H1 S vs [.list ds]) I ⟨S,ρ,_,hs,by show ob (fa ρ) _=_;rw [e1];rfl,λvs H1 g1 d1=>⟨g1,d1⟩⟩) λus s1 ⟨vs,H1,I1,r,g1,d1⟩=>?_
 obtain ⟨v,rfl,dv⟩:=d1.inv1
 obtain ⟨u,rfl,ru⟩:=r.one
 obtain ⟨l,xs,rfl,hsq,hxs⟩:=dv.list_inv
 cases ru
 obtain ⟨its,rv,pl,_⟩:=I1.list hsq.sq
 have hl:=pl.isList
 have ll:l<s1.heap.objs.size:=by obtain ⟨o,e,_⟩:=hl;exact KF e
 have ln:its.toArray.size<=1000:=by rw [KA,← rv.length,hxs.length];exact hz
 refine call_reversed_list hl ?_
 have k1:∀ b o,s1.heap.get? b=some o->(s1.heap.push (revObj l ((its.toArray.size:Int)-1))).get? b=some o:=λb o y=>Ki _ y
 have I2:=I1.kept (t':=s1.toks) (h':=s1.heap.push (revObj l ((its.toArray.size:Int)-1))) k1
 refine Calls.spliced_nil ?_
 have hri:(s1.heap.push (revObj l ((its.toArray.size:Int)-1))).IsRevIter s1.heap.objs.size l ((its.toArray.size:Int)-1):=⟨_,Kx _ rfl,rfl,rfl⟩
 refine qbx (s:={ s1 with heap:=s1.heap.push (revObj l ((its.toArray.size:Int)-1)) }) hr.hd hri (hl.at λo e=>k1 l o e) (KW ll) (by omega) λh' tk acc c' kp hget it=>?_
 have ea:=qg9 it
 have vv:Vals xs.reverse acc.toList:=by rw [ea];exact Vals.rev rv
 have sz:(s1.heap.push (revObj l ((its.toArray.size:Int)-1))).objs.size=s1.heap.objs.size+1:=Vo ..
 have kk:∀ b o,s1.heap.get? b=some o->h'.get? b=some o:=λb o y=>kp b o (KW (KF y)) (k1 b o y)
 have fr:H1 (s1.heap.push (revObj l ((its.toArray.size:Int)-1))).objs.size=none:=I1.hok.fresh (by rw [sz];exact UL _)
 have I3:=I1.laid (a:=(s1.heap.push (revObj l ((its.toArray.size:Int)-1))).objs.size) (t':=tk) (o:=.lst xs.reverse) kk (by rw [sz];exact UL _) ⟨by rw [XQ,hxs.length,Xj];omega,acc.toList,c',vv,by rw [Array.toArray_toList];exact hget⟩
 exact ⟨.ref _,_,I3,rfl,q _ _ (g1.lay' fr) (g1.free fr) (OwnO.laid fr (DenL.rev hxs))⟩
def tMA (K:Kb)(M:aq)(fs:ab):TA:=λσ H Q=>∃ S ρ ds,DenS K H S M σ ρ/\fs ρ=some ds/\∀ qs vs H',Same H H'->(∀ q∈qs,H q=none)->Mx K H' (insL S qs) qs vs ds->Q vs H'
def PMA (X:Cx)(M:aq)(es:aJ)(fs:ab):Prop:=PA X es (tMA X.K M fs)
def vF (f:aa)(fs:ab):Rho->Option (List Ka):=λρ=>ob (f ρ) λd=>ob (fs ρ) λds=>if flat d=true then some (d::ds) else none
section
variable {X:Cx}{G:Gm}{M M' Mb L:aq}{a b:KB}{es:aJ}{f:aa}{pos tp:Pos}{fs:ab}
theorem qf5:PMA X M [] aN:=qa7.weak λσ H Q ⟨S,_,d,_,e,q⟩=>by cases e;exact q [] [] H (Same.refl H) (λ_ h=>nomatch h) .nil
theorem qkM (ha:PF X M a f)(hr:PMA X M es fs)(hs:bG (a::es) X.env=(false,eval a X.env)::bG es X.env:=by rfl):PMA X M (a::es) (vC f fs) :=
 (jd ha hr hs).weak λσ H Q ⟨S,ρ,ds,hs,e,q⟩=>by
  obtain ⟨d,e1,e⟩:=qd e
  obtain ⟨ds',e2,e⟩:=qd e
  split at e
  ·rename_i hl
   cases e
   refine ⟨S,ρ,d,hs,e1,λp H1 g1 n1 o1=>⟨insA S p,ρ,ds',hs.insO g1 n1 o1,e2,λqs vs H2 g2 n2 k2=>?_⟩⟩
   have np:p∉qs:=λz=>o1.dom (n2 p z)
   refine q (p::qs) (.ref p::vs) H2 (g1.trans g2) (λr hr=>(Kr.mp hr).elim (λz=>by rw [z];exact n1) λz=>g1.free (n2 r z)) ?_
   rw [← insAL]
   cases o1 with
   | lst h t=>exact .kid (g2 _ _ h) ((t.sub λa ha z=>z.elim id λy=>absurd (n2 a y) ha).same g2) np k2
   | dct h k t=>cases hl
  ·cases e
theorem Wd (ha:PD X M a f)(hr:PMA X M es fs)(hs:bG (a::es) X.env=(false,eval a X.env)::bG es X.env:=by rfl):PMA X M (a::es) (vF f fs) :=
 (jd ha hr hs).weak λσ H Q ⟨S,ρ,ds,hs,e,q⟩=>by
  obtain ⟨d,e1,e⟩:=qd e
  obtain ⟨ds',e2,e⟩:=qd e
  split at e
  ·rename_i hf
   cases e
   refine ⟨S,ρ,d,hs,e1,λv H1 g1 d1=>⟨S,ρ,ds',hs.same g1,e2,λqs vs H2 g2 n2 k2=>?_⟩⟩
   exact q qs (v::vs) H2 (g1.trans g2) (λr hr=>g1.free (n2 r hr)) (.flt ((d1.same g2).flat hf) hf k2)
  ·cases e
theorem qiZ {x1}(h:PMA X M es fs):PV X M (.Tuple es x1 pos) (evA fs tupD) :=
 (qeS h).weak λσ H Q ⟨S,ρ,d,hs,e,q⟩=>by
  obtain ⟨ds,e1,e⟩:=qd e
  obtain ⟨hz,rfl⟩:=WQ e
  refine ⟨S,ρ,ds,hs,e1,λqs vs H1 g1 n1 k1=>⟨VA (zB (by rw [k1.length];exact hz)),λp hp=>?_⟩⟩
  exact q p qs _ (g1.lay' hp) n1 (.tpl qU (k1.same (Same.lay hp)))
theorem qg2 (i:Nat){x:Str}{px:Pos}{x1}(hv:Vis X.env.scope x)(hM:Flt M i)(hL:i∉L)(he:PD X [] a f)(hN:X.N[i]?=some x:=by rfl)(hd:'+'=false:=by decide +kernel)
  (hcd:(x==("__classdict__" : Str))=false:=by decide +kernel) (hs:bG [a,.Name x px] X.env=(false,eval a X.env)::bG [.Name x px] X.env:=by rfl) (hs2:bG [.Name x px] X.env=(false,eval '3' X.env)::bG [] X.env:=by rfl) :
  PDS X G M L M' Mb .dp (.Return (some (.Tuple [a,.Name x px] x1 tp)) pos) (sRet (evA (vF f (vC (vr i) aN)) tupD)) :=
 (qbl (qeS (jd he (jd (jo i hv hN hd hcd) qa7 hs2) hs))).weak λD σ H ⟨S,ρ,o,os,e,q⟩=>by
  obtain ⟨d,e1,e⟩:=qd e
  cases e
  obtain ⟨ds,e2,e1⟩:=qd e1
  obtain ⟨hz,rfl⟩:=WQ e1
  obtain ⟨c,e3,e2⟩:=qd e2
  obtain ⟨ds',e4,e2⟩:=qd e2
  obtain ⟨l,e5,e4⟩:=qd e4
  obtain ⟨ds2,e6,e4⟩:=qd e4
  cases e6
  split at e4
  case isFalse=>cases e4
  rename_i hl
  cases e4
  split at e2
  case isFalse=>cases e2
  rename_i hf
  cases e2
  refine ⟨G.S0,ρ,c,os.den,e3,λv H1 g1 d1=>?_⟩
  have os1:=os.same g1
  obtain ⟨pp,a1,b1,c1,n1,w1,_⟩:=os1.own i hM _ (zN e5)
  refine ⟨_,a1,VA (zB (show 2<=1000 by decide)),λp hp=>?_⟩
  cases b1 with
  | @lst xs es h t =>
   refine q p [pp] _ (os1.h0.lay' hp) (λr hr=>?_) (.tpl qU (Mx.same (Same.lay hp) (.flt (d1.flat hf) hf (.kid h (t.sub λa ha z=>?_) (λz=>nomatch z) .nil))))
   ·cases Ks.mp hr
    exact ⟨w1 hL,n1⟩
   ·rcases z with z|z
    ·exact os.s0 a z
    ·rw [Ks.mp z];exact c1
  | dct=>cases hl
end
def spV (K:Kb)(n i:Nat)(h:ak):Sp:=λvs H Q _=>∃ S0 p ds d dr,Dm (insA S0 p) H/\¬ S0 p/\DenU K H (insA S0 p) p i vs ds/\ds.length=n/\ds[i]?=some d/\OwnO K H (insA S0 p) p d/\h ds=some dr/\
 ∀ r fp H',(∀ a o,a≠p->H a=some o->H' a=some o)->(∀ q∈fp,q=p\/H q=none)->DeepO K H' (insL S0 fp) fp r dr->Q (.ref r) H'
section
variable {P:KJ}{w:KZ}{K:Kb}{mg:ao}{base:KS}
theorem Fun.ownp {x qual:Str}{st:KQ}{f:Ke}{fd:Vp}{N ps:aB}{k n i:Nat}{M':aq}{u:ai}(F:Fun K x qual st f fd)(S:FnScope N ps (qe st))(hn:ps.length=n)(hi:i<1000)
  (hbody:∀ (cdv:Kc) (A:K0) (outer:aU) (s:Kh) (H:Hp) (E:XK),Room k (A.deeper (cD qual (qe st) s.heap.objs.size f cdv))->∀ G:Gm,
   PDSs (cxOf CX0 P w K mg base N qual (qe st) f cdv A outer s H E).nox G [i] [] M' [] .dp (zO st) u) :
  FnOk P w K mg base CX0 (k+1) f fd ps (spV K n i λds=>ob (u (rho0 N.length ds)) outF):=by
 refine F.g.ok S (λvs H Q E h=>?_) (λcdv A outer s H vs Q E hr h=>?_)
 ·obtain ⟨_,_,ds,_,_,_,_,h1,h2,_⟩:=h
  rw [h1.length,h2,hn]
 ·obtain ⟨S0,p,ds,d,dr,m,n0,h1,h2,h3,ow,e,q⟩:=h
  obtain ⟨o,e1,e⟩:=qd e
  refine ⟨_,hbody cdv A outer s H E hr (GU H S0 p),insA S0 p,rho0 N.length ds,o,OwnS.startU m n0 h1 h3 ow N hi,e1,?_⟩
  cases o with
  | rt r =>
   cases e
   refine λpr fp H' g n o=>q pr fp H' (λa o ne ea=>g a o ((bJ ne).trans ea)) (λr hr=>?_) o
   have hz:(if r=p then none else H r)=none:=(n r hr).1
   by_cases hp:r=p
   ·exact .inl hp
   ·rw [bJ hp] at hz;exact .inr hz
  | nx ρ=>cases e
  | bk ρ=>cases e
  | ct ρ=>cases e
structure KnownV (P:KJ)(w:KZ)(K:Kb)(mg:ao)(base:KS)(x:Str)(n k i:Nat)(h:ak):Prop where
 ex:∃ (f:Ke) (fd:Vp) (ps:aB),FnOk P w K mg base CX0 k f fd ps (spV K n i h)/\mg x=some (.ref f)/\Vl K (.ref f)=true/\Binds K fd ps []
end
section
variable {X:Cx}{M:aq}{a:KB}{f:aa}{pos:Pos}
theorem qeX {x:Str}{p:Pos}{k k':Nat}{h:ak}(F:KnownV X.prog X.w X.K X.mg X.base x 1 k 0 h)(hr:Room k' X.A)(hk:k<=k')(hg:Gl X x)(ha:PF X M a f)
  (hdb:'+'=false:=by decide +kernel) (he:bG [a] X.env=(false,eval a X.env)::bG [] X.env:=by rfl) (hpl:(bT pos (bG [] X.env)).any (·.1)=false:=by rfl) :
  PV X M (.Call (.Name x p) [a] [] pos) (evC 1 (aC f aN) h):=by
 obtain ⟨f',fd,ps,F,m,kp,b⟩:=F.ex
 refine (Yj F (hr.mono hk) hg m kp b .nil qa8 (jd ha qa7 he) hdb he hpl).weak λσ H Q ⟨S,ρ,d,hs,e,q⟩=>?_
 obtain ⟨ds,e1,e⟩:=qd e
 have e:(if ds.length=1 then h ds else none)=some d:=e
 obtain ⟨d0,e2,e1⟩:=qd e1
 cases e1
 rw [bI (show [d0].length=1 from rfl)] at e
 refine ⟨S,ρ,d0,hs,e2,λpp H1 g1 n1 o1=>?_⟩
 refine ⟨S,pp,[d0],d0,d,(hs.1.same g1).ins o1.mut,hs.1.free n1,.here .nil,rfl,rfl,o1,e,λr fp H' hk hf o=>q r fp H' (λa u ea=>hk a u (λz=>by rw [z,n1] at ea;cases ea) (g1 a u ea)) (λz hz=>?_) o⟩
 rcases hf z hz with rfl|y
 ·exact n1
 ·exact g1.free y
end
end L2
namespace L2
open PySem PySem.W PyProof.Rows
theorem jB {α β:Type}{lt:bz}{f:α->KasT β}:∀ (t:KasT α),runC lt (t.bind f)=ob (runC lt t) λa=>runC lt (f a)
 | .ret _=>rfl
 | .ask i j k=>by
  show ob (lt i j) (λb=>runC lt ((k b).bind f))=ob (ob (lt i j) λb=>runC lt (k b)) _
  cases lt i j with
  | none=>rfl
  | some b=>exact jB (k b)
structure IOrd (n:Nat)(lt:bz)(blt:aM):Prop where
 ask:∀ i j,i<n->j<n->lt i j=some (blt i j)
 irr:∀ i,blt i i=false
 tr:∀ i j k,blt i j=true->blt j k=true->blt i k=true
 neg:∀ i j k,blt i k=true->blt i j=true\/blt j k=true
def gp (p:be)(i:Nat):Nat:=p.getD i 0
def QK (n:Nat)(p:be):Prop:=p.toList.Perm (KN n)
def UpTo (blt:aM)(p:be)(m:Nat):Prop:=∀ i j,i<=j->j<m->blt (gp p j) (gp p i)=false
section
variable {n:Nat}{lt:bz}{blt:aM}{p:be}
theorem QK.size (h:QK n p):p.size=n:=by
 have:=h.length_eq
 rw [KU,KY] at this
 exact this
theorem QK.inb (h:QK n p)(hi:i<n):gp p i<n:=by
 have hs:=h.size
 have e:gp p i=p[i]'(by omega):=by simp [gp,Array.getD,hs,hi]
 have hm:p[i]'(by omega)∈p.toList:=by simp
 have:=h.mem_iff.mp hm
 rw [e]
 exact Ur.mp this
theorem qdy (h:q[i]?=p[j]?):gp q i=gp p j:=by
 unfold gp
 simp only [Array.getD_eq_getD_getElem?,h]
theorem IOrd.le_tr (O:IOrd n lt blt)(h1:blt b a=false)(h2:blt c b=false):blt c a=false:=by
 cases h:blt c a with
 | false=>rfl
 | true =>
  rcases O.neg c b a h with z|z
  ·rw [h2] at z;cases z
  ·rw [h1] at z;cases z
theorem IOrd.asym (O:IOrd n lt blt)(h:blt a b=true):blt b a=false:=by
 cases z:blt b a with
 | false=>rfl
 | true =>
  have:=O.tr a b a h z
  rw [O.irr] at this
  cases this
theorem qg5 (O:IOrd n lt blt)(hp:QK n p)(hk:k<n)(hs:UpTo blt p k):∀ (f l r:Nat),r-l<=f->l<=r->r<=k->(∀ i,i<l->blt (gp p k) (gp p i)=false)->(∀ i,r<=i->i<k->blt (gp p k) (gp p i)=true)->
  ∃ m,runC lt (kas_place p k f l r)=some m/\m<=k/\(∀ i,i<m->blt (gp p k) (gp p i)=false)/\(∀ i,m<=i->i<k->blt (gp p k) (gp p i)=true):=by
 intro f
 induction f with
 | zero =>
  intro l r h1 h2 h3 h4 h5
  exact ⟨l,rfl,by omega,h4,λi hi hi2=>h5 i (by omega) hi2⟩
 | succ f ih =>
  intro l r h1 h2 h3 h4 h5
  unfold kas_place
  by_cases hlr:l >= r
  ·rw [bI hlr]
   exact ⟨l,rfl,by omega,h4,λi hi hi2=>h5 i (by omega) hi2⟩
  ·rw [bJ hlr]
   have hm:(l+r) / 2<k:=by omega
   have ea:=O.ask (gp p k) (gp p ((l+r) / 2)) (hp.inb hk) (hp.inb (by omega))
   show ∃ m,ob (lt (gp p k) (gp p ((l+r) / 2))) (λc=>runC lt (if c=true then kas_place p k f l ((l+r) / 2) else kas_place p k f ((l+r) / 2+1) r))=some m/\_
   rw [ea]
   cases hb:blt (gp p k) (gp p ((l+r) / 2)) with
   | true =>
    refine ih l ((l+r) / 2) (by omega) (by omega) (by omega) h4 λi hi hi2=>?_
    cases z:blt (gp p k) (gp p i) with
    | true=>rfl
    | false =>
     have:=hs ((l+r) / 2) i hi hi2
     have q:=O.le_tr this z
     rw [hb] at q
     cases q
   | false =>
    refine ih ((l+r) / 2+1) r (by omega) (by omega) h3 (λi hi=>?_) h5
    exact O.le_tr (hs i ((l+r) / 2) (by omega) hm) hb
theorem qd7 {q:be}(h:QK n p)(hq:q.Perm p):QK n q:=(Array.perm_iff_toList_perm.mp hq).trans h
theorem qbU (hk:k<p.size)(hm:m<=k)(i:Nat):gp (bubble p k (k-m)) i=if i=m then gp p k else if m<i/\i<=k then gp p (i-1) else gp p i:=by
 have e:=getElem?_bubble hk (k-m) (by omega) i
 have hkm:k-(k-m)=m:=by omega
 rw [hkm] at e
 by_cases h1:i=m
 ·rw [bI h1] at e ⊢;exact qdy e
 ·rw [bJ h1] at e ⊢
  by_cases h2:m<i/\i<=k
  ·rw [bI h2] at e ⊢;exact qdy e
  ·rw [bJ h2] at e ⊢;exact qdy e
theorem Jd (hj:j<=p.size)(k:Nat):gp (Xo p i j) k=if i<=k/\k<j then gp p (i+j-1-k) else gp p k:=by
 have e:=getElem?_mirror_all (i:=i) hj k
 unfold Xo
 by_cases h1:i<=k/\k<j
 ·rw [bI h1] at e ⊢;exact qdy e
 ·rw [bJ h1] at e ⊢;exact qdy e
theorem Jz (h:QK n p)(i j:Nat):QK n (Xo p i j):=qd7 h (mirror_perm _ _ _ _)
theorem qjw (O:IOrd n lt blt):∀ (f:Nat) (p:be) (k:Nat),QK n p->UpTo blt p k->k+f=n->∃ p',runC lt (kas_bin f p k)=some p'/\QK n p'/\UpTo blt p' n:=by
 intro f
 induction f with
 | zero=>exact λp k hp hs e=>⟨p,rfl,hp,by rw [← e];exact hs⟩
 | succ f ih =>
  intro p k hp hs e
  have hk:k<n:=by omega
  obtain ⟨m,e1,h1,h2,h3⟩:=qg5 O hp hk hs k 0 k (by omega) (by omega) (by omega) (λi hi=>by omega) (λi hi hi2=>by omega)
  have hz:=hp.size
  obtain ⟨p',e2,h4,h5⟩:=ih (bubble p k (k-m)) (k+1) (qd7 hp (bubble_perm _ _ _)) (λi j hij hj=>by
   rw [qbU (by omega) h1,qbU (by omega) h1]
   by_cases a1:j=m
   ·rw [bI a1]
    by_cases a2:i=m
    ·rw [bI a2];exact O.irr _
    ·rw [bJ a2,bJ (by omega)]
     exact h2 i (by omega)
   ·rw [bJ a1]
    by_cases a3:m<j/\j<=k
    ·rw [bI a3]
     by_cases a2:i=m
     ·rw [bI a2]
      exact O.asym (h3 (j-1) (by omega) (by omega))
     ·rw [bJ a2]
      by_cases a4:m<i/\i<=k
      ·rw [bI a4]
       exact hs (i-1) (j-1) (by omega) (by omega)
      ·rw [bJ a4]
       exact hs i (j-1) (by omega) (by omega)
    ·rw [bJ a3,bJ (by omega),bJ (by omega)]
     exact hs i j hij (by omega)) (by omega)
  refine ⟨p',?_,h4,h5⟩
  unfold kas_bin
  rw [jB,e1]
  exact e2
theorem qff (O:IOrd n lt blt)(hp:QK n p):∀ (f m:Nat),1<=m->m+f<=n->UpTo blt p m->∃ m',runC lt (kas_asc p f m)=some m'/\m<=m'/\m'<=m+f/\UpTo blt p m'/\(m'<m+f->blt (gp p m') (gp p (m'-1))=true):=by
 intro f
 induction f with
 | zero=>exact λm h1 h2 hs=>⟨m,rfl,by omega,by omega,hs,λz=>by omega⟩
 | succ f ih =>
  intro m h1 h2 hs
  have ea:=O.ask (gp p m) (gp p (m-1)) (hp.inb (by omega)) (hp.inb (by omega))
  unfold kas_asc
  show ∃ m',ob (lt (gp p m) (gp p (m-1))) (λc=>runC lt (if c=true then .ret m else kas_asc p f (m+1)))=some m'/\_
  rw [ea]
  cases hb:blt (gp p m) (gp p (m-1)) with
  | true=>exact ⟨m,rfl,by omega,by omega,hs,λ_=>hb⟩
  | false =>
   obtain ⟨m',e1,h3,h4,h5,h6⟩:=ih (m+1) (by omega) (by omega) (λi j hij hj=>by
    by_cases hjm:j=m
    ·subst hjm
     by_cases hi:i=j
     ·subst hi;exact O.irr _
     ·exact O.le_tr (hs i (j-1) (by omega) (by omega)) hb
    ·exact hs i j hij (by omega))
   exact ⟨m',e1,by omega,by omega,h5,λz=>h6 (by omega)⟩
def Wo (blt:aM)(p:be)(m:Nat):Prop:=∀ i j,i<=j->j<m->blt (gp p i) (gp p j)=false
def qhf (blt:aM)(p:be)(a b:Nat):Prop:=∀ i j,a<=i->i<b->a<=j->j<b->blt (gp p i) (gp p j)=false
theorem qdm (hp:QK n p)(hm:m<=n)(ha:a<=m)(hd:Wo blt p m)(hs:qhf blt p a m):Wo blt (Xo p a m) m/\∀ i,i<m->∃ i',i'<m/\gp (Xo p a m) i=gp p i':=by
 have hz:=hp.size
 refine ⟨λi j hij hj=>?_,λi hi=>?_⟩
 ·rw [Jd (by omega),Jd (by omega)]
  by_cases h1:a<=i/\i<m
  ·rw [bI h1,bI (by omega)]
   exact hs _ _ (by omega) (by omega) (by omega) (by omega)
  ·rw [bJ h1]
   by_cases h2:a<=j/\j<m
   ·rw [bI h2];exact hd _ _ (by omega) (by omega)
   ·rw [bJ h2];exact hd _ _ hij hj
 ·rw [Jd (by omega)]
  by_cases h1:a<=i/\i<m
  ·rw [bI h1];exact ⟨_,by omega,rfl⟩
  ·rw [bJ h1];exact ⟨i,hi,rfl⟩
theorem qhD (O:IOrd n lt blt):∀ (f:Nat) (p:be) (m q:Nat),QK n p->m+f<=n->q+1<=m->Wo blt p m->qhf blt p (m-(q+1)) m->
  ∃ p' m' q',runC lt (Nr f p m q)=some (p',m',q')/\QK n p'/\m<=m'/\m'<=m+f/\q'+1<=m'/\Wo blt p' m'/\qhf blt p' (m'-(q'+1)) m':=by
 intro f
 induction f with
 | zero=>exact λp m q hp _ hq hd hs=>⟨p,m,q,rfl,hp,by omega,by omega,hq,hd,hs⟩
 | succ f ih =>
  intro p m q hp hm hq hd hs
  have hz:=hp.size
  have e1:=O.ask (gp p m) (gp p (m-1)) (hp.inb (by omega)) (hp.inb (by omega))
  have e2:=O.ask (gp p (m-1)) (gp p m) (hp.inb (by omega)) (hp.inb (by omega))
  unfold Nr
  show ∃ p' m' q',ob (lt (gp p m) (gp p (m-1))) (λc=>runC lt (if c=true then (if q > 0 then Nr f (Xo p (m-(q+1)) m) (m+1) 0 else Nr f p (m+1) 0)
   else .ask (p.getD (m-1) 0) (p.getD m 0) λd=>if d=true then .ret (p,m,q) else Nr f p (m+1) (q+1)))=some (p',m',q')/\_
  rw [e1]
  cases hb:blt (gp p m) (gp p (m-1)) with
  | true =>
   have below:∀ i,i<m->blt (gp p i) (gp p m)=false:=λi hi=>O.le_tr (O.asym hb) (hd i (m-1) (by omega) (by omega))
   show ∃ p' m' q',runC lt (if q > 0 then Nr f (Xo p (m-(q+1)) m) (m+1) 0 else Nr f p (m+1) 0)=some (p',m',q')/\_
   by_cases hq0:q > 0
   ·rw [bI hq0]
    obtain ⟨d1,d2⟩:=qdm (blt:=blt) hp (m:=m) (a:=m-(q+1)) (by omega) (by omega) hd hs
    have gm:gp (Xo p (m-(q+1)) m) m=gp p m:=by rw [Jd (by omega),bJ (by omega)]
    obtain ⟨p',m',q',r1,r2,r3,r4,r5,r6,r7⟩:=ih (Xo p (m-(q+1)) m) (m+1) 0 (Jz hp _ _) (by omega) (by omega) (λi j hij hj=>by
     by_cases hjm:j=m
     ·subst hjm
      by_cases hi:i=j
      ·subst hi;exact O.irr _
      ·obtain ⟨i',hi',ei⟩:=d2 i (by omega)
       rw [ei,gm]
       exact below i' hi'
     ·exact d1 i j hij (by omega)) (λi j h1 h2 h3 h4=>by
      have:i=m:=by omega
      have:j=m:=by omega
      subst i;subst j;exact O.irr _)
    exact ⟨p',m',q',r1,r2,by omega,by omega,r5,r6,r7⟩
   ·rw [bJ hq0]
    obtain ⟨p',m',q',r1,r2,r3,r4,r5,r6,r7⟩:=ih p (m+1) 0 hp (by omega) (by omega) (λi j hij hj=>by
     by_cases hjm:j=m
     ·subst hjm
      by_cases hi:i=j
      ·subst hi;exact O.irr _
      ·exact below i (by omega)
     ·exact hd i j hij (by omega)) (λi j h1 h2 h3 h4=>by
      have:i=m:=by omega
      have:j=m:=by omega
      subst i;subst j;exact O.irr _)
    exact ⟨p',m',q',r1,r2,by omega,by omega,r5,r6,r7⟩
  | false =>
   show ∃ p' m' q',ob (lt (gp p (m-1)) (gp p m)) (λd=>runC lt (if d=true then .ret (p,m,q) else Nr f p (m+1) (q+1)))=some (p',m',q')/\_
   rw [e2]
   cases hd2:blt (gp p (m-1)) (gp p m) with
   | true=>exact ⟨p,m,q,rfl,hp,by omega,by omega,hq,hd,hs⟩
   | false =>
    obtain ⟨p',m',q',r1,r2,r3,r4,r5,r6,r7⟩:=ih p (m+1) (q+1) hp (by omega) (by omega) (λi j hij hj=>by
     by_cases hjm:j=m
     ·subst hjm
      by_cases hi:i=j
      ·subst hi;exact O.irr _
      ·exact O.le_tr hd2 (hd i (j-1) (by omega) (by omega))
     ·exact hd i j hij (by omega)) (λi j h1 h2 h3 h4=>by
      have s1:∀ i,m-(q+1)<=i->i<m->blt (gp p i) (gp p m)=false/\blt (gp p m) (gp p i)=false:=λi a b =>
       ⟨O.le_tr hd2 (hs i (m-1) a b (by omega) (by omega)),O.le_tr (hs (m-1) i (by omega) (by omega) a b) hb⟩
      by_cases hi:i=m
      ·subst hi
       by_cases hj:j=i
       ·subst hj;exact O.irr _
       ·exact (s1 j (by omega) (by omega)).2
      ·by_cases hj:j=m
       ·subst hj;exact (s1 i (by omega) (by omega)).1
       ·exact hs i j (by omega) (by omega) (by omega) (by omega))
    exact ⟨p',m',q',r1,r2,by omega,by omega,r5,r6,r7⟩
theorem qce (O:IOrd n lt blt)(hp:QK n p){m:Nat}(h1:1<=m)(h2:m<=n)(hd:Wo blt p m):∃ m' p',runC lt (kas_tail3 m n p)=some (m',p')/\QK n p'/\1<=m'/\m'<=n/\UpTo blt p' m':=by
 have hz:=hp.size
 obtain ⟨m',e1,h3,h4,h5,_⟩:=qff O (Jz hp 0 m) (n-m) m h1 (by omega) (λi j hij hj=>by
  rw [Jd (by omega),Jd (by omega),bI (by omega),bI (by omega)]
  exact hd _ _ (by omega) (by omega))
 refine ⟨m',Xo p 0 m,?_,Jz hp 0 m,by omega,by omega,h5⟩
 unfold kas_tail3
 rw [jB,e1]
 rfl
theorem wN (O:IOrd n lt blt)(hp:QK n p){k:Nat}(h2:k+1<=n)(hd:Wo blt p (k+1)):∃ m' p',runC lt (NN k n p)=some (m',p')/\QK n p'/\1<=m'/\m'<=n/\UpTo blt p' m':=by
 obtain ⟨p1,m1,q1,e1,r2,r3,r4,r5,r6,r7⟩:=qhD O (n-(k+1)) p (k+1) 0 hp (by omega) (by omega) hd (λi j a1 a2 a3 a4=>by
  have:i=k:=by omega
  have:j=k:=by omega
  subst i;subst j;exact O.irr _)
 unfold NN
 rw [jB,e1]
 show ∃ m' p',runC lt (if q1 > 0 then kas_tail3 m1 n (Xo p1 (m1-(q1+1)) m1) else kas_tail3 m1 n p1)=some (m',p')/\_
 by_cases hq:q1 > 0
 ·rw [bI hq]
  exact qce O (Jz r2 _ _) (by omega) (by omega) (qdm r2 (by omega) (by omega) r6 r7).1
 ·rw [bJ hq]
  exact qce O r2 (by omega) (by omega) r6
theorem qgo (O:IOrd n lt blt)(hp:QK n p)(hn:1<=n):∃ m' p',runC lt (kas_count n p)=some (m',p')/\QK n p'/\1<=m'/\m'<=n/\UpTo blt p' m':=by
 have hz:=hp.size
 obtain ⟨m,e1,h3,h4,h5,h6⟩:=qff O hp (n-1) 1 (by omega) (by omega) (λi j hij hj=>by
  have:i=0:=by omega
  have:j=0:=by omega
  subst i;subst j;exact O.irr _)
 unfold kas_count
 rw [jB,e1]
 show ∃ m' p',runC lt (if (m==n)=true then .ret (m,p) else if m > 1 then .ask (p.getD 0 0) (p.getD (m-1) 0) λc=>if c=true then .ret (m,p) else NN m n (Xo p 0 m) else NN m n p)=some (m',p')/\_
 by_cases hmn:m=n
 ·rw [bI (by simpa using hmn)]
  exact ⟨m,p,rfl,hp,by omega,by omega,h5⟩
 ·rw [bJ (by simpa using hmn)]
  have hb:=h6 (by omega)
  by_cases hm1:m > 1
  ·rw [bI hm1]
   have ea:=O.ask (gp p 0) (gp p (m-1)) (hp.inb (by omega)) (hp.inb (by omega))
   show ∃ m' p',ob (lt (gp p 0) (gp p (m-1))) (λc=>runC lt (if c=true then .ret (m,p) else NN m n (Xo p 0 m)))=some (m',p')/\_
   rw [ea]
   cases hc:blt (gp p 0) (gp p (m-1)) with
   | true=>exact ⟨m,p,rfl,hp,by omega,by omega,h5⟩
   | false =>
    refine wN O (Jz hp 0 m) (by omega) (λi j hij hj=>?_)
    by_cases hjm:j=m
    ·by_cases hi:i=j
     ·rw [hi];exact O.irr _
     ·rw [Jd (by omega),Jd (by omega),bI (by omega),bJ (by omega),hjm]
      exact O.le_tr (O.asym hb) (O.le_tr hc (h5 0 (0+m-1-i) (by omega) (by omega)))
    ·rw [Jd (by omega),Jd (by omega),bI (by omega),bI (by omega)]
     exact h5 _ _ (by omega) (by omega)
  ·rw [bJ hm1]
   have hm:m=1:=by omega
   subst hm
   refine wN O hp (by omega) (λi j hij hj=>?_)
   by_cases hi:i=j
   ·rw [hi];exact O.irr _
   ·have e0:i=0:=by omega
    have ej:j=1:=by omega
    rw [e0,ej]
    exact O.asym hb
theorem qi5 (O:IOrd n lt blt)(hn:1<=n):∃ p',runC lt (Ex n)=some p'/\QK n p'/\UpTo blt p' n:=by
 obtain ⟨m,p,e1,h1,h2,h3,h4⟩:=qgo O (p:=(KN n).toArray) (show QK n _ from by unfold QK;exact List.Perm.refl _) hn
 unfold Ex
 rw [jB,e1]
 show ∃ p',runC lt (if m<n then kas_bin (n-max m 1) p (max m 1) else .ret p)=some p'/\_
 have hmax:max m 1=m:=by omega
 by_cases hm:m<n
 ·rw [bI hm,hmax]
  exact qjw O (n-m) p m h1 h4 (by omega)
 ·rw [bJ hm]
  have:m=n:=by omega
  subst this
  exact ⟨p,rfl,h1,h4⟩
end
def tI (ns:aA):Ka:=.tuple (ns.map .int)
theorem qbZ:∀ xs:List Int,HT.lexLt xs xs=false
 | []=>rfl
 | x::xs=>by rw [HT.jO,bI rfl];exact qbZ xs
theorem qdR:∀ xs ys zs:List Int,HT.lexLt xs ys=true->HT.lexLt ys zs=true->HT.lexLt xs zs=true
 | [],[],_,h,_=>by cases h
 | [],_::_,[],_,h=>by cases h
 | [],_::_,_::_,_,_=>rfl
 | _::_,[],_,h,_=>by cases h
 | _::_,_::_,[],_,h=>by cases h
 | x::xs,y::ys,z::zs,h1,h2=>by
  rw [HT.jO] at h1 h2 ⊢
  by_cases e1:x=y
  ·rw [bI e1] at h1
   by_cases e2:y=z
   ·rw [bI e2] at h2
    rw [bI (e1.trans e2)]
    exact qdR xs ys zs h1 h2
   ·rw [bJ e2] at h2
    rw [bJ (by rw [e1];exact e2),e1]
    exact h2
  ·rw [bJ e1] at h1
   have h1':=bN h1
   by_cases e2:y=z
   ·rw [bJ (by rw [← e2];exact e1),← e2]
    exact h1
   ·rw [bJ e2] at h2
    have h2':=bN h2
    rw [bJ (by omega)]
    exact bF (by omega)
theorem qb0:∀ xs ys zs:List Int,HT.lexLt xs zs=true->HT.lexLt xs ys=true\/HT.lexLt ys zs=true
 | [],[],zs,h=>.inr h
 | [],_::_,_,_=>.inl rfl
 | _::_,_,[],h=>by cases h
 | _::_,[],_::_,_=>.inr rfl
 | x::xs,y::ys,z::zs,h=>by
  rw [HT.jO] at h ⊢
  rw [HT.jO]
  by_cases e1:x=z
  ·rw [bI e1] at h
   subst e1
   by_cases e2:x=y
   ·subst e2
    rw [bI rfl,bI rfl]
    exact qb0 xs ys zs h
   ·rw [bJ e2,bJ (λz=>e2 z.symm)]
    by_cases hl:x<y
    ·exact .inl (bF hl)
    ·exact .inr (bF (by omega))
  ·rw [bJ e1] at h
   have h':=bN h
   by_cases e2:x=y
   ·subst e2
    rw [bJ e1]
    exact .inr h
   ·rw [bJ e2]
    by_cases hl:x<y
    ·exact .inl (bF hl)
    ·right
     rw [bJ (by omega)]
     exact bF (by omega)
theorem qb2:∀ xs ys:List Int,ltXs (xs.map .int) (ys.map .int)=some (HT.lexLt xs ys)
 | [],[]=>by rw [VF,ltXs];rfl
 | [],_::_=>by rw [VF,Ku,ltXs];rfl
 | _::_,[]=>by rw [VF,Ku,ltXs];rfl
 | x::xs,y::ys=>by
  rw [Ku,Ku,ltXs,HT.jO]
  have e:Kv (.int x) (.int y)=(x==y):=rfl
  rw [e]
  by_cases h:x=y
  ·rw [bI (by simpa using h),bI h]
   exact qb2 xs ys
  ·rw [bJ (by simpa using h),bJ h,ltX]
theorem qic (xs ys:aA):ltX (tI xs) (tI ys)=some (HT.lexLt xs ys):=by
 unfold tI
 rw [ltX]
 exact qb2 xs ys
theorem qbh {α:Type}(xs:List α)(d:α):(KN xs.length).map (λi=>xs.getD i d)=xs:=by
 apply List.ext_getElem
 ·simp
 ·intro i h1 h2
  simp [Xc,h2]
theorem qc1 {nss:aE}(hok:Jh 0 (nss.map tI)=true):∃ mss:List (List Int),je [.list (nss.map tI)]=some (.list (mss.map tI))/\mss.Perm nss/\mss.Pairwise (λa b=>HT.lexLt b a=false):=by
 have hn:2<=nss.length/\nss.length<64:=by
  unfold Jh at hok
  simp only [KD,bW,Kf] at hok
  exact ⟨hok.2.1,hok.2.2.1⟩
 have O:IOrd nss.length (qdU (nss.map tI)) (λi j=>HT.lexLt (nss.getD i []) (nss.getD j [])):=by
  refine ⟨λi j hi hj=>?_,λi=>qbZ _,λi j k=>qdR _ _ _,λi j k=>qb0 _ _ _⟩
  unfold qdU
  rw [Ky,Ky,Kk hi,Kk hj]
  show ltX (tI nss[i]) (tI nss[j])=_
  rw [qic,getD_some (Kk hi),getD_some (Kk hj)]
 obtain ⟨p,e1,hp,hs⟩:=qi5 O (by omega)
 have hin:∀ i∈p.toList,i<nss.length:=λi hi=>Ur.mp (hp.mem_iff.mp hi)
 refine ⟨p.toList.map λi=>nss.getD i [],?_,?_,?_⟩
 ·show (if (nss.map tI).length<2 then some (Vu (nss.map tI)) else if Jh 0 (nss.map tI)=true\/Jh 1 (nss.map tI)=true then ob (runC (qdU (nss.map tI)) (Ex (nss.map tI).length)) λp=>qea (nss.map tI) p else none)=_
  rw [bJ (by rw [Kf];omega),bI (.inl hok),Kf,e1]
  show qea (nss.map tI) p=_
  unfold qea
  rw [bI ⟨Vg.mpr λi hi=>by rw [Kf];exact bF (hin i hi),by rw [KU,hp.size];omega⟩]
  congr 2
  rw [Vj]
  refine V8 λi hi=>?_
  have hi':=hin i hi
  show (nss.map tI).getD i .none=tI (nss.getD i [])
  rw [getD_some (show (nss.map tI)[i]?=some (tI nss[i]) from by rw [Ky,Kk hi'];rfl),getD_some (Kk hi')]
 ·have:=hp.map (λi=>nss.getD i [])
  rw [qbh] at this
  exact this
 ·rw [Xe,List.pairwise_iff_getElem]
  intro i j hi hj hij
  have hsz:=hp.size
  rw [KU] at hi hj
  have:=hs i j (by omega) (by omega)
  have g1:gp p i=p.toList[i]'(by rw [KU];exact hi):=by simp [gp,Array.getD,hi]
  have g2:gp p j=p.toList[j]'(by rw [KU];exact hj):=by simp [gp,Array.getD,hj]
  rw [g1,g2] at this
  exact this
theorem qdg:∀ ns:List Int,Kq (ns.map .int)=true/\KI (ns.map .int)=0
 | []=>⟨rfl,rfl⟩
 | n::ns=>by
  obtain ⟨h1,h2⟩:=qdg ns
  rw [Ku]
  exact ⟨by simp [Kq,KP,h1],by simp [KI,UO,h2]⟩
theorem wK:∀ nss:List (List Int),Kq (nss.map tI)=true/\KI (nss.map tI)<=1
 | []=>⟨rfl,Vh _⟩
 | ns::nss=>by
  obtain ⟨h1,h2⟩:=wK nss
  obtain ⟨h3,h4⟩:=qdg ns
  rw [Ku]
  refine ⟨by simp [Kq,tI,KP,h1,h3],?_⟩
  rw [KI,show (tI ns).depth=1 from by simp [tI,UO,h4]]
  omega
theorem qei {nss:aE}(h2:2<=nss.length)(h64:nss.length<64)(hne:∀ ns∈nss,ns≠[]):Jh 0 (nss.map tI)=true:=by
 obtain ⟨h3,h4⟩:=wK nss
 unfold Jh
 simp only [KD,bW,Kf]
 refine ⟨Vg.mpr λd hd=>?_,h2,h64,h3,by omega⟩
 obtain ⟨ns,hn,rfl⟩:=K3.mp hd
 cases ns with
 | nil=>exact absurd rfl (hne [] hn)
 | cons n ns=>rfl
theorem Wk {nss:aE}(h64:nss.length<64)(hne:∀ ns∈nss,ns≠[]):∃ mss:List (List Int),je [.list (nss.map tI)]=some (.list (mss.map tI))/\mss.Perm nss/\mss.Pairwise (λa b=>HT.lexLt b a=false):=by
 by_cases h2:2<=nss.length
 ·exact qc1 (qei h2 h64 hne)
 ·refine ⟨nss,?_,List.Perm.refl _,?_⟩
  ·show (if (nss.map tI).length<2 then some (Vu (nss.map tI)) else _)=_
   rw [bI (by rw [Kf];omega)]
  ·match nss,h2 with
   | [],_=>exact .nil
   | [a],_=>exact .cons (λ_ z=>nomatch z) .nil
   | _::_::_,h2=>exact absurd (by simp) h2
end L2
namespace SF
open PySem L2
variable (P:KJ)(w:KZ){K:Kb}{mg:ao}(base:KS){f:Ke}{fd:Vp}
noncomputable def top (i:Nat):KQ:=PySem.Challenge.pw_sheetfold_k14_whole_folded_or_why.main.body.getD i (.Pass ⟨0,0,0,0⟩)
def qco:Ka:=(.tuple [(.int (-1)),(.int (0)),(.int (1))])
def jt:Ka:=(.tuple [(.tuple [(.int (1)),(.int (0))]),(.tuple [(.int (0)),(.int (1))]),(.tuple [(.int (-1)),(.int (0))]),(.tuple [(.int (0)),(.int (-1))])])
def wL:Ka:=(.tuple [(.tuple [(.int (1)),(.int (1)),(.int (0))]),(.tuple [(.int (1)),(.int (0)),(.int (0))]),(.tuple [(.int (0)),(.int (1)),(.int (0))])])
def CS:List (Str×List Str):=[("Join", ["Join"]),("Up", ["Up", "Join"]),("Down", ["Down", "Join"])]
abbrev Tq34:KQ:=top 4
abbrev JD:List Str:=["count", "pairs", "links", "pair"]
theorem zX:ScOk JD ["count", "pairs"] ["range"] (qe Tq34):=scmk (by kernel_rfl)
abbrev wG:Rho->Option Out:=(seqO (qbo 2 (ev2 (vr 3) '$' ixD) (ev2 (vr 3) '%' ixD)) (qbo 2 (ev2 (vr 3) '%' ixD) (ev2 (vr 3) '$' ixD)))
def YX:Rho->Option Out:=(seqO (JW 2 (qbS 4 1 (evR (aC (vr 0) aN) Zy) (gNm 4) tT (evA aN lstD))) (seqO (sFor (evI (vr 1) seqD) (gNm 3) wG) (sRet (vr 2))))
def Z3 (ds:ae):Option Ka:=ob (YX (rho0 JD.length ds)) outD
theorem qeH (F:Fun K "links_of" "links_of" Tq34 f fd)(m:mg "links_of" = some (.ref f))(b:Binds K fd ["count", "pairs"] [])(z_range:mg "range" = none):Known P w K mg base "links_of" 2 1 Z3:=by
 refine ⟨f,fd,["count", "pairs"],F.pure (k:=0) (u:=YX) (M':=[]) zX.fs rfl (λcdv A outer s H E hr G=>?_),m,F.kp,b⟩
 exact qg (M1:=[2,1002]) (qb6 2 (CompOk.of (k:=1) JD ["count", "pairs", "links", "pair", "k"] (qe Tq34) rfl rfl rfl (by decide +kernel)) (QZ (by decide)) (qe Tq34) rfl (by decide +kernel) (by decide) (by decide) (jR (zX.gl 0 rfl rfl) z_range (pda1 (pd_v zX 0))) (λ_ _ _ _ _ _=>ZS (i:=4) (CompOk.of (k:=1) JD ["count", "pairs", "links", "pair", "k"] (qe Tq34) rfl rfl rfl (by decide +kernel)) rfl (by decide +kernel) _ _ _ _ _ _) (λ_ _ _ _ _ _=>Q4) (λ_ _ _ _ _ _=>Jf zV)) (qg (M1:=[2,1002]) (QB K1 rfl (zW (pd_v zX 1)) (λ_=>zA zX 3) (λ_=>qg (M1:=[2,1002]) (Wb 2 (zX.vis 2 rfl) (by decide) (qp (pd_v zX 3) qb) (qp (pd_v zX 3) qb)) (qj (Wb 2 (zX.vis 2 rfl) (by decide) (qp (pd_v zX 3) qb) (qp (pd_v zX 3) qb))))) (qj (qC (pd_v zX 2))))
abbrev Tq3:KQ:=top 5
abbrev yw:List Str:=["start", "links", "origins", "waiting", "k", "j"]
theorem qI:ScOk yw ["start", "links"] [] (qe Tq3):=scmk (by kernel_rfl)
abbrev Jq:Rho->Option Out:=(sIf (tV (ev2 (vr 5) (vr 2) qfR)) (seqO (Wi 2 (vr 5) (vr 4)) (sApp 3 (vr 5))) sN)
abbrev Z0:Rho->Option Out:=(seqO (qcZ 3 4 '$') (sFor (evI (ev2 (vr 1) (vr 4) ixD) seqD) (gNm 5) Jq))
def j4:Rho->Option Out:=(seqO (Q5 2 (ev2 (vr 0) (kd .none) qaH)) (seqO (Q5 3 (evA (aC (vr 0) aN) lstD)) (seqO (JX (tW (vr 3)) Z0) (sRet (vr 2)))))
def Qy (ds:ae):Option Ka:=ob (j4 (rho0 yw.length ds)) outD
theorem qaV (F:Fun K "reached_from" "reached_from" Tq3 f fd)(m:mg "reached_from" = some (.ref f))(b:Binds K fd ["start", "links"] []):Known P w K mg base "reached_from" 2 1 Qy:=by
 refine ⟨f,fd,["start", "links"],F.pure (k:=0) (u:=j4) (M':=[]) qI.fs rfl (λcdv A outer s H E hr G=>?_),m,F.kp,b⟩
 refine qg (M1:=[2]) ?_ ?_
 refine Qi 2 ?_ ?_ ?_ ?_ ?_ ?_ ?_ (qd8 (pd_v qI 0) JT)
 ·exact qI.fs.nd
 ·exact (qI.loc 2 rfl)
 ·rfl
 ·rfl
 ·exact .inl rfl
 ·decide
 ·decide
 refine qg (M1:=[3,2]) ?_ (qg (M1:=[3,2]) (Yi K1 (qkG (pd_v qI 3)) (qg (M1:=[3,2]) (qg0 3 4 (qI.vis 3 rfl) (by decide) (by decide) (by decide) qI.fs.nd (qI.loc 4 rfl) qb) (qj (QB K1 rfl (zW (qp (pd_v qI 1) (pd_v qI 4))) (λ_=>zA qI 5) (λ_=>qj (zG (q8 (qdl hr) (pd_v qI 5) (pd_v qI 2) rfl) (qg (M1:=[3,2]) (Wa hr 2 (qI.vis 2 rfl) (by decide) (by decide) (pd_v qI 5) (pd_v qI 4)) (qj (j9 3 (qI.vis 3 rfl) (by decide) (by decide) (pd_v qI 5)))) zm)))))) (qj (qC (pd_v qI 2))))
 refine Qi 3 ?_ ?_ ?_ ?_ ?_ ?_ ?_ (Jf (pda1 (pd_v qI 0)))
 ·exact qI.fs.nd
 ·exact (qI.loc 3 rfl)
 ·rfl
 ·rfl
 ·exact .inl rfl
 ·decide
 ·decide
abbrev Tq2:KQ:=top 6
abbrev ye:List Str:=["things", "numbers", "j", "thing"]
theorem qR:ScOk ye ["things"] ["enumerate"] (qe Tq2):=scmk (by kernel_rfl)
abbrev Ql:Rho->Option Out:=(seqO (sIf (tV (ev2 (vr 3) (vr 1) in2D)) (sRet (evA (aC (ev2 (vr 1) (vr 3) ix2D) (aC (vr 2) aN)) tupD)) sN) (Wi 1 (vr 3) (vr 2)))
def Zj:Rho->Option Out:=(seqO (Q5 1 (kd (.dict []))) (seqO (sFor (evI (vr 0) qdo) (unpD 2 (gsC (gNm 2) (gsC (gNm 3) gsN))) Ql) (sRet (kd .none))))
def zL (ds:ae):Option Ka:=ob (Zj (rho0 ye.length ds)) outD
theorem qaf (F:Fun K "first_meeting" "first_meeting" Tq2 f fd)(m:mg "first_meeting" = some (.ref f))(b:Binds K fd ["things"] [])(z_enumerate:mg "enumerate" = none):Known P w K mg base "first_meeting" 1 1 zL:=by
 refine ⟨f,fd,["things"],F.pure (k:=0) (u:=Zj) (M':=[]) qR.fs rfl (λcdv A outer s H E hr G=>?_),m,F.kp,b⟩
 refine qg (M1:=[1]) ?_ (qg (M1:=[1]) (QB K1 rfl (qix (qR.gl 0 rfl rfl) z_enumerate (pd_v qR 0)) (λ_=>ZQ rfl (qP (zA qR 2) (qP (zA qR 3) Q3))) (λ_=>qg (M1:=[1]) (zG (q8 (d_in2 hr) (pd_v qR 3) (pd_v qR 1) rfl) (qj (qC (qY (pda2 (jQ hr (pd_v qR 1) (pd_v qR 3)) (pd_v qR 2))))) zm) (qj (Wa hr 1 (qR.vis 1 rfl) (by decide) (by decide) (pd_v qR 3) (pd_v qR 2))))) (qj (qC JT)))
 refine Qi 1 ?_ ?_ ?_ ?_ ?_ ?_ ?_ qbj
 ·exact qR.fs.nd
 ·exact (qR.loc 1 rfl)
 ·rfl
 ·rfl
 ·exact .inl rfl
 ·decide
 ·decide
abbrev Tq28:KQ:=top 7
abbrev W3:List Str:=["origins", "k", "path"]
theorem zU:ScOk W3 ["origins", "k"] [] (qe Tq28):=scmk (by kernel_rfl)
abbrev QF:Rho->Option Out:=(seqO (sApp 2 (vr 1)) (sSet 1 (ev2 (vr 0) (vr 1) ix2D)))
def yU:Rho->Option Out:=(seqO (Q5 2 (evA aN lstD)) (seqO (JX (tV (ev2 (vr 1) (kd .none) isnD)) QF) (sRet (vr 2))))
def Zx (ds:ae):Option Ka:=ob (yU (rho0 W3.length ds)) outF
theorem qdL (F:Fun K "path_back" "path_back" Tq28 f fd)(m:mg "path_back" = some (.ref f))(b:Binds K fd ["origins", "k"] []):KnownN P w K mg base "path_back" 2 1 Zx:=by
 refine ⟨f,fd,["origins", "k"],F.new (k:=0) (u:=yU) (M':=[]) zU.fs rfl (λcdv A outer s H E hr G=>?_),m,F.kp,b⟩
 refine qg (M1:=[2]) ?_ ?_
 refine Qi 2 ?_ ?_ ?_ ?_ ?_ ?_ ?_ (Jf zV)
 ·exact zU.fs.nd
 ·exact (zU.loc 2 rfl)
 ·rfl
 ·rfl
 ·exact .inl rfl
 ·decide
 ·decide
 refine qg (M1:=[2]) ?_ (qj (qiB 2 (zU.vis 2 rfl) (by decide) (by decide)))
 refine Yi K1 (q8 qlo (pd_v zU 1) JT (zg _)) ?_
 refine qg (M1:=[2]) (j9 2 (zU.vis 2 rfl) (by decide) (by decide) (pd_v zU 1)) ?_
 refine qj ?_
 refine za 1 ?_ ?_ ?_ ?_ ?_ ?_ (jQ hr (pd_v zU 0) (pd_v zU 1))
 ·exact zU.fs.nd
 ·exact (zU.loc 1 rfl)
 ·rfl
 ·rfl
 ·exact .inl rfl
 ·decide
abbrev Tq4:KQ:=top 8
abbrev yu:List Str:=["origins", "i", "j", "there", "back"]
theorem qH:ScOk yu ["origins", "i", "j"] ["path_back", "len", "list", "reversed"] (qe Tq4):=scmk (by kernel_rfl)
def jZ:Rho->Option Out:=(seqO (Q5 3 (evC 2 (aC (vr 0) (aC (vr 1) aN)) Zx)) (seqO (Q5 4 (evC 2 (aC (vr 0) (aC (vr 2) aN)) Zx)) (seqO (JX (tA (tV (ev2 (evA (aC (vr 3) aN) lenD) '%' gtD)) (tA (tV (ev2 (evA (aC (vr 4) aN) lenD) '%' gtD)) (tV (ev2 (ev2 (vr 3) (ev1 (kd (.int 2)) negD) ixD) (ev2 (vr 4) (ev1 (kd (.int 2)) negD) ixD) eqD)))) (seqO (Wj 3) (Wj 4))) (sRet (ev2 (vr 3) (ev1 (evS (vr 4) oN (oS (ev1 '%' negD))) revD) catL)))))
def QX (ds:ae):Option Ka:=ob (jZ (rho0 yu.length ds)) outF
theorem qaU (F:Fun K "path_between" "path_between" Tq4 f fd)(m:mg "path_between" = some (.ref f))(b:Binds K fd ["origins", "i", "j"] [])(K_path_back:KnownN P w K mg base "path_back" 2 1 Zx)(z_len:mg "len" = none)(z_list:mg "list" = none)(z_reversed:mg "reversed" = none):KnownN P w K mg base "path_between" 3 2 QX:=by
 refine ⟨f,fd,["origins", "i", "j"],F.new (k:=1) (u:=jZ) (M':=[]) qH.fs rfl (λcdv A outer s H E hr G=>?_),m,F.kp,b⟩
 refine qg (M1:=[3]) ?_ ?_
 refine Qi 3 ?_ ?_ ?_ ?_ ?_ ?_ ?_ (qbk K_path_back hr (by decide) (qH.gl 0 rfl rfl) (pda2 (pd_v qH 0) (pd_v qH 1)) rfl)
 ·exact qH.fs.nd
 ·exact (qH.loc 3 rfl)
 ·rfl
 ·rfl
 ·exact .inl rfl
 ·decide
 ·decide
 refine qg (M1:=[4,3]) ?_ (qg (M1:=[4,3]) (Yi K1 (PDW.pdt (qfW (q8 d_gt (zc QL (qH.gl 1 rfl rfl) z_len Vb (pda1 (pd_v qH 3))) qb (zg _)) (qfW (q8 d_gt (zc QL (qH.gl 1 rfl rfl) z_len Vb (pda1 (pd_v qH 4))) qb (zg _)) (qiE (q8 (d_eq hr) (qp (pd_v qH 3) (Jy Jt qb)) (qp (pd_v qH 4) (Jy Jt qb)) (zg _)))))) (qg (M1:=[4,3]) (qd6 3 (qH.vis 3 rfl) (by decide) (by decide)) (qj (qd6 4 (qH.vis 4 rfl) (by decide) (by decide))))) (qj (qiA (qkJ (pd_v qH 3) (w6 (qeT hr (qH.gl 2 rfl rfl) z_list (qH.gl 3 rfl rfl) z_reversed (qbc (pd_v qH 4) qbd (qbe (Jy Jt qb)))))))))
 refine Qi 4 ?_ ?_ ?_ ?_ ?_ ?_ ?_ (qbk K_path_back hr (by decide) (qH.gl 0 rfl rfl) (pda2 (pd_v qH 0) (pd_v qH 2)) rfl)
 ·exact qH.fs.nd
 ·exact (qH.loc 4 rfl)
 ·rfl
 ·rfl
 ·exact .inl rfl
 ·decide
 ·decide
abbrev Tq35:KQ:=top 10
abbrev qaw:List Str:=["thing"]
theorem Zm:ScOk qaw ["thing"] ["isinstance", "int", "bool"] (qe Tq35):=scmk (by kernel_rfl)
def qbr:Rho->Option Out:=(sRet (vA (ev1 (vr 0) (isiD "int")) (vN (ev1 (vr 0) (isiD "bool")))))
def Yx (ds:ae):Option Ka:=ob (qbr (rho0 qaw.length ds)) outD
theorem qeG (F:Fun K "is_whole" "is_whole" Tq35 f fd)(m:mg "is_whole" = some (.ref f))(b:Binds K fd ["thing"] [])(z_isinstance:mg "isinstance" = none)(z_int:mg "int" = none)(z_bool:mg "bool" = none):Known P w K mg base "is_whole" 1 1 Yx:=by
 refine ⟨f,fd,["thing"],F.pure (k:=0) (u:=qbr) (M':=[]) Zm.fs rfl (λcdv A outer s H E hr G=>?_),m,F.kp,b⟩
 exact qj (qC (Z8 (Je (T := "int") (qfG _) (Zm.gl 0 rfl rfl) z_isinstance (Zm.gl 1 rfl rfl) z_int rfl rfl (pd_v Zm 0)) (JV (qiv (Je (T := "bool") (qdO _) (Zm.gl 0 rfl rfl) z_isinstance (Zm.gl 2 rfl rfl) z_bool rfl rfl (pd_v Zm 0))))))
abbrev Tq49:KQ:=top 11
abbrev qe9:List Str:=["one", "other"]
theorem JB:ScOk qe9 ["one", "other"] [] (qe Tq49):=scmk (by kernel_rfl)
def qc7:Rho->Option Out:=(sRet (evA (aC (ev2 (ev2 (vr 0) '$' ixD) (ev2 (vr 1) '$' ixD) Qk) (aC (ev2 (ev2 (vr 0) '%' ixD) (ev2 (vr 1) '%' ixD) Qk) (aC (ev2 (ev2 (vr 0) (kd (.int 2)) ixD) (ev2 (vr 1) (kd (.int 2)) ixD) Qk) aN))) tupD))
def Yb (ds:ae):Option Ka:=ob (qc7 (rho0 qe9.length ds)) outD
theorem qkc (F:Fun K "added" "added" Tq49 f fd)(m:mg "added" = some (.ref f))(b:Binds K fd ["one", "other"] []):Known P w K mg base "added" 2 1 Yb:=by
 refine ⟨f,fd,["one", "other"],F.pure (k:=0) (u:=qc7) (M':=[]) JB.fs rfl (λcdv A outer s H E hr G=>?_),m,F.kp,b⟩
 exact qj (qC (qY (pda3 (qG zZ (qp (pd_v JB 0) qb) (qp (pd_v JB 1) qb)) (qG zZ (qp (pd_v JB 0) qb) (qp (pd_v JB 1) qb)) (qG zZ (qp (pd_v JB 0) qb) (qp (pd_v JB 1) qb)))))
abbrev Tq41:KQ:=top 12
abbrev qbK:List Str:=["spot"]
theorem yW:ScOk qbK ["spot"] [] (qe Tq41):=scmk (by kernel_rfl)
def WT:Rho->Option Out:=(sRet (evA (aC (ev1 (ev2 (vr 0) '$' ixD) negD) (aC (ev1 (ev2 (vr 0) '%' ixD) negD) (aC (ev1 (ev2 (vr 0) (kd (.int 2)) ixD) negD) aN))) tupD))
def Zv (ds:ae):Option Ka:=ob (WT (rho0 qbK.length ds)) outD
theorem qgD (F:Fun K "negated" "negated" Tq41 f fd)(m:mg "negated" = some (.ref f))(b:Binds K fd ["spot"] []):Known P w K mg base "negated" 1 1 Zv:=by
 refine ⟨f,fd,["spot"],F.pure (k:=0) (u:=WT) (M':=[]) yW.fs rfl (λcdv A outer s H E hr G=>?_),m,F.kp,b⟩
 exact qj (qC (qY (pda3 (Jy Jt (qp (pd_v yW 0) qb)) (Jy Jt (qp (pd_v yW 0) qb)) (Jy Jt (qp (pd_v yW 0) qb)))))
abbrev Tq50:KQ:=top 13
abbrev qfa:List Str:=["one", "other"]
theorem Q6:ScOk qfa ["one", "other"] [] (qe Tq50):=scmk (by kernel_rfl)
def qc8:Rho->Option Out:=(sRet (evA (aC (ev2 (ev2 (ev2 (vr 0) '%' ixD) (ev2 (vr 1) (kd (.int 2)) ixD) mulD) (ev2 (ev2 (vr 0) (kd (.int 2)) ixD) (ev2 (vr 1) '%' ixD) mulD) subD) (aC (ev2 (ev2 (ev2 (vr 0) (kd (.int 2)) ixD) (ev2 (vr 1) '$' ixD) mulD) (ev2 (ev2 (vr 0) '$' ixD) (ev2 (vr 1) (kd (.int 2)) ixD) mulD) subD) (aC (ev2 (ev2 (ev2 (vr 0) '$' ixD) (ev2 (vr 1) '%' ixD) mulD) (ev2 (ev2 (vr 0) '%' ixD) (ev2 (vr 1) '$' ixD) mulD) subD) aN))) tupD))
def jw (ds:ae):Option Ka:=ob (qc8 (rho0 qfa.length ds)) outD
theorem qkd (F:Fun K "cross" "cross" Tq50 f fd)(m:mg "cross" = some (.ref f))(b:Binds K fd ["one", "other"] []):Known P w K mg base "cross" 2 1 jw:=by
 refine ⟨f,fd,["one", "other"],F.pure (k:=0) (u:=qc8) (M':=[]) Q6.fs rfl (λcdv A outer s H E hr G=>?_),m,F.kp,b⟩
 exact qj (qC (qY (pda3 (qG j7 (qG Qm (qp (pd_v Q6 0) qb) (qp (pd_v Q6 1) qb)) (qG Qm (qp (pd_v Q6 0) qb) (qp (pd_v Q6 1) qb))) (qG j7 (qG Qm (qp (pd_v Q6 0) qb) (qp (pd_v Q6 1) qb)) (qG Qm (qp (pd_v Q6 0) qb) (qp (pd_v Q6 1) qb))) (qG j7 (qG Qm (qp (pd_v Q6 0) qb) (qp (pd_v Q6 1) qb)) (qG Qm (qp (pd_v Q6 0) qb) (qp (pd_v Q6 1) qb))))))
abbrev Tq45:KQ:=top 14
abbrev qay:List Str:=["turn", "spot"]
theorem qaq:ScOk qay ["turn", "spot"] ["range", "tuple"] (qe Tq45):=scmk (by kernel_rfl)
def qbu:Rho->Option Out:=(sRet (evA (aC (jJ 2 (evR (aC (kd (.int 3)) aN) Zy) tT (ev2 (ev2 (ev2 (ev2 (vr 1) '$' ixD) (ev2 (ev2 (vr 0) '$' ixD) (vr 2) ixD) mulD) (ev2 (ev2 (vr 1) '%' ixD) (ev2 (ev2 (vr 0) '%' ixD) (vr 2) ixD) mulD) Qk) (ev2 (ev2 (vr 1) (kd (.int 2)) ixD) (ev2 (ev2 (vr 0) (kd (.int 2)) ixD) (vr 2) ixD) mulD) Qk)) aN) WR))
def Zf (ds:ae):Option Ka:=ob (qbu (rho0 qay.length ds)) outD
theorem qh0 (F:Fun K "turned" "turned" Tq45 f fd)(m:mg "turned" = some (.ref f))(b:Binds K fd ["turn", "spot"] [])(z_tuple:mg "tuple" = none)(z_range:mg "range" = none):Known P w K mg base "turned" 2 1 Zf:=by
 refine ⟨f,fd,["turn", "spot"],F.pure (k:=0) (u:=qbu) (M':=[]) qaq.fs rfl (λcdv A outer s H E hr G=>?_),m,F.kp,b⟩
 exact qj (qC (jA qck (qaq.gl 1 rfl rfl) z_tuple rfl (pda1 (Yh (CompOk.of (k:=1) qay ["turn", "spot", "k"] (qe Tq45) rfl rfl rfl (by decide +kernel)) rfl (by decide +kernel) (jR (qaq.gl 0 rfl rfl) z_range (pda1 qb)) (λ_ _ _ _ _ _=>Q4) (λ_ _ _ _ _ _=>qG zZ (qG zZ (qG Qm (qp (zr 1 (qW (by decide +kernel)) (by decide)) qb) (qp (qp (zr 0 (qW (by decide +kernel)) (by decide)) qb) (zr 2 (qW (by decide +kernel)) (by decide)))) (qG Qm (qp (zr 1 (qW (by decide +kernel)) (by decide)) qb) (qp (qp (zr 0 (qW (by decide +kernel)) (by decide)) qb) (zr 2 (qW (by decide +kernel)) (by decide))))) (qG Qm (qp (zr 1 (qW (by decide +kernel)) (by decide)) qb) (qp (qp (zr 0 (qW (by decide +kernel)) (by decide)) qb) (zr 2 (qW (by decide +kernel)) (by decide)))))))))
abbrev Tq5:KQ:=top 15
abbrev yt:List Str:=["first", "second"]
theorem zE:ScOk yt ["first", "second"] ["turned"] (qe Tq5):=scmk (by kernel_rfl)
def jY:Rho->Option Out:=(sRet (evA (aC (evC 2 (aC (vr 1) (aC (ev2 (vr 0) '$' ixD) aN)) Zf) (aC (evC 2 (aC (vr 1) (aC (ev2 (vr 0) '%' ixD) aN)) Zf) (aC (evC 2 (aC (vr 1) (aC (ev2 (vr 0) (kd (.int 2)) ixD) aN)) Zf) aN))) tupD))
def QW (ds:ae):Option Ka:=ob (jY (rho0 yt.length ds)) outD
theorem qaT (F:Fun K "joined_turns" "joined_turns" Tq5 f fd)(m:mg "joined_turns" = some (.ref f))(b:Binds K fd ["first", "second"] [])(K_turned:Known P w K mg base "turned" 2 1 Zf):Known P w K mg base "joined_turns" 2 2 QW:=by
 refine ⟨f,fd,["first", "second"],F.pure (k:=1) (u:=jY) (M':=[]) zE.fs rfl (λcdv A outer s H E hr G=>?_),m,F.kp,b⟩
 exact qj (qC (qY (pda3 (qm K_turned hr (by decide) (zE.gl 0 rfl rfl) (pda2 (pd_v zE 1) (qp (pd_v zE 0) qb)) rfl) (qm K_turned hr (by decide) (zE.gl 0 rfl rfl) (pda2 (pd_v zE 1) (qp (pd_v zE 0) qb)) rfl) (qm K_turned hr (by decide) (zE.gl 0 rfl rfl) (pda2 (pd_v zE 1) (qp (pd_v zE 0) qb)) rfl))))
abbrev Tq29:KQ:=top 16
abbrev yz:List Str:=["turn"]
theorem yp:ScOk yz ["turn"] ["range", "tuple"] (qe Tq29):=scmk (by kernel_rfl)
def yV:Rho->Option Out:=(sRet (evA (aC (jJ 1 (evR (aC (kd (.int 3)) aN) Zy) tT (evA (aC (ev2 (ev2 (vr 0) '$' ixD) (vr 1) ixD) (aC (ev2 (ev2 (vr 0) '%' ixD) (vr 1) ixD) (aC (ev2 (ev2 (vr 0) (kd (.int 2)) ixD) (vr 1) ixD) aN))) tupD)) aN) WR))
def jm (ds:ae):Option Ka:=ob (yV (rho0 yz.length ds)) outD
theorem qdM (F:Fun K "turn_back" "turn_back" Tq29 f fd)(m:mg "turn_back" = some (.ref f))(b:Binds K fd ["turn"] [])(z_tuple:mg "tuple" = none)(z_range:mg "range" = none):Known P w K mg base "turn_back" 1 1 jm:=by
 refine ⟨f,fd,["turn"],F.pure (k:=0) (u:=yV) (M':=[]) yp.fs rfl (λcdv A outer s H E hr G=>?_),m,F.kp,b⟩
 exact qj (qC (jA qck (yp.gl 1 rfl rfl) z_tuple rfl (pda1 (Yh (CompOk.of (k:=1) yz ["turn", "k"] (qe Tq29) rfl rfl rfl (by decide +kernel)) rfl (by decide +kernel) (jR (yp.gl 0 rfl rfl) z_range (pda1 qb)) (λ_ _ _ _ _ _=>Q4) (λ_ _ _ _ _ _=>qY (pda3 (qp (qp (zr 0 (qW (by decide +kernel)) (by decide)) qb) (zr 1 (qW (by decide +kernel)) (by decide))) (qp (qp (zr 0 (qW (by decide +kernel)) (by decide)) qb) (zr 1 (qW (by decide +kernel)) (by decide))) (qp (qp (zr 0 (qW (by decide +kernel)) (by decide)) qb) (zr 1 (qW (by decide +kernel)) (by decide)))))))))
abbrev Tq46:KQ:=top 18
abbrev qdc:List Str:=["pose"]
theorem Y5:ScOk qdc ["pose"] ["cross"] (qe Tq46):=scmk (by kernel_rfl)
def qbt:Rho->Option Out:=(sRet (evC 2 (aC (ev2 (vr 0) '%' ixD) (aC (ev2 (vr 0) (kd (.int 2)) ixD) aN)) jw))
def yK (ds:ae):Option Ka:=ob (qbt (rho0 qdc.length ds)) outD
theorem qhZ (F:Fun K "out_of" "out_of" Tq46 f fd)(m:mg "out_of" = some (.ref f))(b:Binds K fd ["pose"] [])(K_cross:Known P w K mg base "cross" 2 1 jw):Known P w K mg base "out_of" 1 2 yK:=by
 refine ⟨f,fd,["pose"],F.pure (k:=1) (u:=qbt) (M':=[]) Y5.fs rfl (λcdv A outer s H E hr G=>?_),m,F.kp,b⟩
 exact qj (qC (qm K_cross hr (by decide) (Y5.gl 0 rfl rfl) (pda2 (qp (pd_v Y5 0) qb) (qp (pd_v Y5 0) qb)) rfl))
abbrev Tq42:KQ:=top 21
abbrev qbL:List Str:=["pose", "way"]
theorem Zu:ScOk qbL ["pose", "way"] ["negated"] (qe Tq42):=scmk (by kernel_rfl)
def WW:Rho->Option Out:=(sRet (ev2 (evA (aC (ev2 (vr 0) '%' ixD) (aC (ev2 (vr 0) (kd (.int 2)) ixD) (aC (evC 1 (aC (ev2 (vr 0) '%' ixD) aN) Zv) (aC (evC 1 (aC (ev2 (vr 0) (kd (.int 2)) ixD) aN) Zv) aN)))) tupD) (vr 1) ixD))
def Jv (ds:ae):Option Ka:=ob (WW (rho0 qbL.length ds)) outD
theorem qgE (F:Fun K "unit_of" "unit_of" Tq42 f fd)(m:mg "unit_of" = some (.ref f))(b:Binds K fd ["pose", "way"] [])(K_negated:Known P w K mg base "negated" 1 1 Zv):Known P w K mg base "unit_of" 2 2 Jv:=by
 refine ⟨f,fd,["pose", "way"],F.pure (k:=1) (u:=WW) (M':=[]) Zu.fs rfl (λcdv A outer s H E hr G=>?_),m,F.kp,b⟩
 exact qj (qC (qp (qY (qT (qp (pd_v Zu 0) qb) (qT (qp (pd_v Zu 0) qb) (qT (qm K_negated hr (by decide) (Zu.gl 0 rfl rfl) (pda1 (qp (pd_v Zu 0) qb)) rfl) (qT (qm K_negated hr (by decide) (Zu.gl 0 rfl rfl) (pda1 (qp (pd_v Zu 0) qb)) rfl) zV))))) (pd_v Zu 1)))
abbrev Tq43:KQ:=top 25
abbrev qbI:List Str:=["thing"]
theorem Jo:ScOk qbI ["thing"] ["is_whole", "BENDS"] (qe Tq43):=scmk (by kernel_rfl)
def qcf:Rho->Option Out:=(sRet (vA (evC 1 (aC (vr 0) aN) Yx) (ev2 (vr 0) (kd qco) inD)))
def Wv (ds:ae):Option Ka:=ob (qcf (rho0 qbI.length ds)) outD
theorem qgB (F:Fun K "is_bend" "is_bend" Tq43 f fd)(m:mg "is_bend" = some (.ref f))(b:Binds K fd ["thing"] [])(K_is_whole:Known P w K mg base "is_whole" 1 1 Yx)(C_BENDS:qar K mg "BENDS" qco):Known P w K mg base "is_bend" 1 2 Wv:=by
 refine ⟨f,fd,["thing"],F.pure (k:=1) (u:=qcf) (M':=[]) Jo.fs rfl (λcdv A outer s H E hr G=>?_),m,F.kp,b⟩
 exact qj (qC (Z8 (qm K_is_whole hr (by decide) (Jo.gl 0 rfl rfl) (pda1 (pd_v Jo 0)) rfl) (JV (jP (d_in hr) (pd_v Jo 0) (qd3 C_BENDS (Jo.gl 1 rfl rfl)) rfl))))
abbrev Tq44:KQ:=top 26
abbrev qbJ:List Str:=["bend"]
theorem Zt:ScOk qbJ ["bend"] ["is_bend", "Up", "Down", "Join"] (qe Tq44):=scmk (by kernel_rfl)
def qcg:Rho->Option Out:=(seqO (sIf (tN (tV (evC 1 (aC (vr 0) aN) Wv))) sNo sN) (seqO (sIf (tV (ev2 (vr 0) '%' eqD)) (sRet (kd (objD "Up"))) sN) (seqO (sIf (tV (ev2 (vr 0) (ev1 '%' negD) eqD)) (sRet (kd (objD "Down"))) sN) (sRet (kd (objD "Join"))))))
def Yc (ds:ae):Option Ka:=ob (qcg (rho0 qbJ.length ds)) outD
theorem qgC (F:Fun K "join_of" "join_of" Tq44 f fd)(m:mg "join_of" = some (.ref f))(b:Binds K fd ["bend"] [])(K_is_bend:Known P w K mg base "is_bend" 1 2 Wv)(CT:CTab K mg CS):Known P w K mg base "join_of" 1 3 Yc:=by
 refine ⟨f,fd,["bend"],F.pure (k:=2) (u:=qcg) (M':=[]) Zt.fs rfl (λcdv A outer s H E hr G=>?_),m,F.kp,b⟩
 exact qg (M1:=[]) (zG (Zi (ZR (qm K_is_bend hr (by decide) (Zt.gl 0 rfl rfl) (pda1 (pd_v Zt 0)) rfl))) (qj qg1) zm) (qg (M1:=[]) (zG (q8 (d_eq hr) (pd_v Zt 0) qb (zg _)) (qj (qC (qcW CT (Zt.gl 1 rfl rfl)))) zm) (qg (M1:=[]) (zG (q8 (d_eq hr) (pd_v Zt 0) (Jy Jt qb) (zg _)) (qj (qC (qcW CT (Zt.gl 2 rfl rfl)))) zm) (qj (qC (qcW CT (Zt.gl 3 rfl rfl))))))
abbrev Tq6:KQ:=top 29
abbrev yx:List Str:=["cell", "other"]
theorem QR:ScOk yx ["cell", "other"] [] (qe Tq6):=scmk (by kernel_rfl)
def j5:Rho->Option Out:=(sRet (evA (aC (ev2 (ev2 (vr 1) '$' ixD) (ev2 (vr 0) '$' ixD) subD) (aC (ev2 (ev2 (vr 1) '%' ixD) (ev2 (vr 0) '%' ixD) subD) aN)) tupD))
def Qg (ds:ae):Option Ka:=ob (j5 (rho0 yx.length ds)) outD
theorem qaW (F:Fun K "step_between" "step_between" Tq6 f fd)(m:mg "step_between" = some (.ref f))(b:Binds K fd ["cell", "other"] []):Known P w K mg base "step_between" 2 1 Qg:=by
 refine ⟨f,fd,["cell", "other"],F.pure (k:=0) (u:=j5) (M':=[]) QR.fs rfl (λcdv A outer s H E hr G=>?_),m,F.kp,b⟩
 exact qj (qC (qY (pda2 (qG j7 (qp (pd_v QR 1) qb) (qp (pd_v QR 0) qb)) (qG j7 (qp (pd_v QR 1) qb) (qp (pd_v QR 0) qb)))))
abbrev Tq15:KQ:=top 30
abbrev wD:List Str:=["sheet", "k", "cells", "found", "i", "j", "bend", "other"]
theorem qD:ScOk wD ["sheet", "k"] ["step_between", "STEPS", "sorted"] (qe Tq15):=scmk (by kernel_rfl)
abbrev yI:Rho->Option Out:=(sIf (tV (ev2 (vr 1) (evA (aC (vr 4) (aC (vr 5) aN)) tupD) inD)) (seqO (sSet 7 (vIf (tV (ev2 (vr 1) (vr 4) eqD)) (vr 5) (vr 4))) (sApp 3 (evA (aC (ev1 (evC 2 (aC (ev2 (vr 2) (vr 1) ixD) (aC (ev2 (vr 2) (vr 7) ixD) aN)) Qg) (jf jt)) (aC (vr 7) (aC (vr 6) aN))) tupD))) sN)
def J9:Rho->Option Out:=(seqO (sSet 2 (ev2 (vr 0) '$' ixD)) (seqO (Q5 3 (evA aN lstD)) (seqO (sFor (evI (ev2 (vr 0) '%' ixD) seqD) (unpD 3 (gsC (gNm 4) (gsC (gNm 5) (gsC (gNm 6) gsN)))) yI) (sRet (evA (aC (vr 3) aN) je)))))
def ZP (ds:ae):Option Ka:=ob (J9 (rho0 wD.length ds)) outD
theorem qcL (F:Fun K "neighbours" "neighbours" Tq15 f fd)(m:mg "neighbours" = some (.ref f))(b:Binds K fd ["sheet", "k"] [])(K_step_between:Known P w K mg base "step_between" 2 1 Qg)(z_sorted:mg "sorted" = none)(C_STEPS:qen K mg "STEPS" jt):Known P w K mg base "neighbours" 2 2 ZP:=by
 refine ⟨f,fd,["sheet", "k"],F.pure (k:=1) (u:=J9) (M':=[]) qD.fs rfl (λcdv A outer s H E hr G=>?_),m,F.kp,b⟩
 refine qg (M1:=[]) ?_ ?_
 refine za 2 ?_ ?_ ?_ ?_ ?_ ?_ (qp (pd_v qD 0) qb)
 ·exact qD.fs.nd
 ·exact (qD.loc 2 rfl)
 ·rfl
 ·rfl
 ·exact .inl rfl
 ·decide
 refine qg (M1:=[3]) ?_ ?_
 refine Qi 3 ?_ ?_ ?_ ?_ ?_ ?_ ?_ (Jf zV)
 ·exact qD.fs.nd
 ·exact (qD.loc 3 rfl)
 ·rfl
 ·rfl
 ·exact .inl rfl
 ·decide
 ·decide
 refine qg (M1:=[3]) ?_ (qj (qC (w6 (qbi (qa5 hr) (qD.gl 2 rfl rfl) z_sorted JG (pda1 (pd_v qD 3))))))
 refine QB K1 rfl (zW (qp (pd_v qD 0) qb)) (λ_=>ZQ rfl (qP (zA qD 4) (qP (zA qD 5) (qP (zA qD 6) Q3)))) (λ_=>?_)
 refine qj ?_
 refine zG (q8 (d_in hr) (pd_v qD 1) (qY (pda2 (pd_v qD 4) (pd_v qD 5))) rfl) ?_ zm
 refine qg (M1:=[3]) ?_ (qj (j9 3 (qD.vis 3 rfl) (by decide) (by decide) (qY (pda3 (qgS C_STEPS hr (qD.gl 1 rfl rfl) (qm K_step_between hr (by decide) (qD.gl 0 rfl rfl) (pda2 (qp (pd_v qD 2) (pd_v qD 1)) (qp (pd_v qD 2) (pd_v qD 7))) rfl)) (pd_v qD 7) (pd_v qD 6)))))
 refine za 7 ?_ ?_ ?_ ?_ ?_ ?_ (qba (q8 (d_eq hr) (pd_v qD 1) (pd_v qD 4) (zg _)) (pd_v qD 5) (pd_v qD 4))
 ·exact qD.fs.nd
 ·exact (qD.loc 7 rfl)
 ·rfl
 ·rfl
 ·exact .inl rfl
 ·decide
abbrev Tq36:KQ:=top 33
abbrev qax:List Str:=["sheet", "steps", "k", "way", "j", "bend"]
theorem zj:ScOk qax ["sheet"] ["neighbours", "len", "range"] (qe Tq36):=scmk (by kernel_rfl)
abbrev JF:Rho->Option Out:=(Wi 1 (evA (aC (vr 2) (aC (vr 4) aN)) tupD) (evA (aC (vr 3) (aC (vr 5) aN)) tupD))
abbrev wH:Rho->Option Out:=(sFor (evI (evC 2 (aC (vr 0) (aC (vr 2) aN)) ZP) seqD) (unpD 3 (gsC (gNm 3) (gsC (gNm 4) (gsC (gNm 5) gsN)))) JF)
def YZ:Rho->Option Out:=(seqO (Q5 1 (kd (.dict []))) (seqO (sFor (evR (aC (evA (aC (ev2 (vr 0) '$' ixD) aN) lenD) aN) Zy) (gNm 2) wH) (sRet (vr 1))))
def Z4 (ds:ae):Option Ka:=ob (YZ (rho0 qax.length ds)) outD
theorem qeI (F:Fun K "steps_of" "steps_of" Tq36 f fd)(m:mg "steps_of" = some (.ref f))(b:Binds K fd ["sheet"] [])(K_neighbours:Known P w K mg base "neighbours" 2 2 ZP)(z_range:mg "range" = none)(z_len:mg "len" = none):Known P w K mg base "steps_of" 1 3 Z4:=by
 refine ⟨f,fd,["sheet"],F.pure (k:=2) (u:=YZ) (M':=[]) zj.fs rfl (λcdv A outer s H E hr G=>?_),m,F.kp,b⟩
 refine qg (M1:=[1]) ?_ (qg (M1:=[1]) (jT K1 rfl (Zq (zj.gl 2 rfl rfl) z_range (pda1 (zc QL (zj.gl 1 rfl rfl) z_len Vb (pda1 (qp (pd_v zj 0) qb))))) (zA zj 2) (qj (QB K1 rfl (zW (qm K_neighbours hr (by decide) (zj.gl 0 rfl rfl) (pda2 (pd_v zj 0) (pd_v zj 2)) rfl)) (λ_=>ZQ rfl (qP (zA zj 3) (qP (zA zj 4) (qP (zA zj 5) Q3)))) (λ_=>qj (Wa hr 1 (zj.vis 1 rfl) (by decide) (by decide) (qY (pda2 (pd_v zj 2) (pd_v zj 4))) (qY (pda2 (pd_v zj 3) (pd_v zj 5)))))))) (qj (qC (pd_v zj 1))))
 refine Qi 1 ?_ ?_ ?_ ?_ ?_ ?_ ?_ qbj
 ·exact zj.fs.nd
 ·exact (zj.loc 1 rfl)
 ·rfl
 ·rfl
 ·exact .inl rfl
 ·decide
 ·decide
abbrev Tq0:KQ:=top 37
abbrev ZC:List Str:=["poses", "meeting"]
theorem zq:ScOk ZC ["poses"] ["first_meeting"] (qe Tq0):=scmk (by kernel_rfl)
def QQ:Rho->Option Out:=(seqO (sSet 1 (Yr (evC 1 (aC (jJ 2 (evI (vr 0) seqD) tT (ev2 (vr 2) '$' ixD)) aN) zL))) (seqO (sIf (tV (ev2 (vr 1) (kd .none) isD)) (sRet (evA (vF (kd (.str "folded")) (vC (vr 0) aN)) tupD)) sN) (sRet (evA (vF (kd (.str "clash")) (vF (ev2 (vr 1) '$' ixD) (vF (ev2 (vr 1) '%' ixD) aN))) tupD))))
def zJ (ds:ae):Option Ka:=ob (QQ (rho0 ZC.length ds)) outF
theorem wW (F:Fun K "clash_or_folded" "clash_or_folded" Tq0 f fd)(m:mg "clash_or_folded" = some (.ref f))(b:Binds K fd ["poses"] [])(K_first_meeting:Known P w K mg base "first_meeting" 1 1 zL):KnownV P w K mg base "clash_or_folded" 1 2 0 zJ:=by
 refine ⟨f,fd,["poses"],F.ownp (k:=1) (u:=QQ) (i:=0) (M':=[]) zq.fs rfl (by decide) (λcdv A outer s H E hr G=>?_),m,F.kp,b⟩
 refine qg (M1:=[0]) ?_ (qg (M1:=[0]) (zG (q8 d_is (pd_v zq 1) JT (zg _)) (qj (qg2 0 (zq.vis 0 rfl) (by decide) (by decide) YH)) zm) (qj (qbf (qiZ (Wd YH (Wd (qp (pd_v zq 1) qb) (Wd (qp (pd_v zq 1) qb) qf5)))))))
 refine Wc 1 ?_ ?_ ?_ ?_ ?_ ?_ (qm K_first_meeting hr (by decide) (zq.gl 0 rfl rfl) (pda1 (Yh (CompOk.of (k:=1) ZC ["poses", "meeting", "pose"] (qe Tq0) rfl rfl rfl (by decide +kernel)) rfl (by decide +kernel) (zW (pd_v zq 0)) (λ_ _ _ _ _ _=>Q4) (λ_ _ _ _ _ _=>qp (zr 2 (qW (by decide +kernel)) (by decide)) qb))) rfl)
 ·exact zq.fs.nd
 ·exact (zq.loc 1 rfl)
 ·rfl
 ·rfl
 ·exact .inl rfl
 ·decide
abbrev Tq30:KQ:=top 39
abbrev WY:List Str:=["_law_script", "_law_k"]
theorem Zr:ScOk WY ["_law_script", "_law_k"] ["len"] (qe Tq30):=scmk (by kernel_rfl)
def yN:Rho->Option Out:=(seqO (sIf (tV (ev2 (vr 1) (evA (aC (vr 0) aN) lenD) ltD2)) (sRet (ev2 (vr 0) (vr 1) ixD)) sN) (sRet '$'))
def zu (ds:ae):Option Ka:=ob (yN (rho0 WY.length ds)) outD
theorem qdH (F:Fun K "_law_cell" "_law_cell" Tq30 f fd)(m:mg "_law_cell" = some (.ref f))(b:Binds K fd ["_law_script", "_law_k"] [])(z_len:mg "len" = none):Known P w K mg base "_law_cell" 2 1 zu:=by
 refine ⟨f,fd,["_law_script", "_law_k"],F.pure (k:=0) (u:=yN) (M':=[]) Zr.fs rfl (λcdv A outer s H E hr G=>?_),m,F.kp,b⟩
 exact qg (M1:=[]) (zG (q8 (qfr hr) (pd_v Zr 1) (zc QL (Zr.gl 0 rfl rfl) z_len Vb (pda1 (pd_v Zr 0))) (zg _)) (qj (qC (qp (pd_v Zr 0) (pd_v Zr 1)))) zm) (qj (qC qb))
abbrev Tq16:KQ:=top 40
abbrev wu:List Str:=["_law_cell_here", "_law_k", "_law_number"]
theorem zY:ScOk wu ["_law_cell_here", "_law_k"] [] (qe Tq16):=scmk (by kernel_rfl)
def J5:Rho->Option Out:=(seqO (sSet 2 (ev2 (ev2 (ev2 (ev2 (ev2 (ev2 (vr 0) (kd (.int 1000000007)) modD) (ev2 (ev2 (kd (.int 7)) (vr 1) mulD) (vr 1) mulD) Qk) (ev2 (kd (.int 13)) (vr 1) mulD) Qk) (kd (.int 5)) Qk) (kd (.int 48271)) mulD) (kd (.int 2147483647)) modD)) (sRet (ev2 (ev2 (ev2 (ev2 (ev2 (vr 2) (kd (.int 69621)) mulD) (vr 1) Qk) (kd (.int 1000000007)) modD) (kd (.int 40692)) mulD) (kd (.int 2147483399)) modD)))
def Q8 (ds:ae):Option Ka:=ob (J5 (rho0 wu.length ds)) outD
theorem qcE (F:Fun K "_law_mixed" "_law_mixed" Tq16 f fd)(m:mg "_law_mixed" = some (.ref f))(b:Binds K fd ["_law_cell_here", "_law_k"] []):Known P w K mg base "_law_mixed" 2 1 Q8:=by
 refine ⟨f,fd,["_law_cell_here", "_law_k"],F.pure (k:=0) (u:=J5) (M':=[]) zY.fs rfl (λcdv A outer s H E hr G=>?_),m,F.kp,b⟩
 refine qg (M1:=[]) ?_ (qj (qC (qG ZX (qG Qm (qG ZX (qG zZ (qG Qm (pd_v zY 2) qb) (pd_v zY 1)) qb) qb) qb)))
 refine za 2 ?_ ?_ ?_ ?_ ?_ ?_ (qG ZX (qG Qm (qG zZ (qG zZ (qG zZ (qG ZX (pd_v zY 0) qb) (qG Qm (qG Qm qb (pd_v zY 1)) (pd_v zY 1))) (qG Qm qb (pd_v zY 1))) qb) qb) qb)
 ·exact zY.fs.nd
 ·exact (zY.loc 2 rfl)
 ·rfl
 ·rfl
 ·exact .inl rfl
 ·decide
abbrev Tq17:KQ:=top 41
abbrev wA:List Str:=["_law_script", "_law_at", "_law_base", "_law_cell_here", "_law_found", "_law_rest", "_law_k", "_law_many"]
theorem qt:ScOk wA ["_law_script", "_law_at", "_law_base"] ["_law_cell", "range", "_law_mixed"] (qe Tq17):=scmk (by kernel_rfl)
abbrev yG:Rho->Option Out:=(seqO (sApp 4 (ev2 (vr 5) (vr 2) modD)) (sSet 5 (ev2 (vr 5) (vr 2) jL)))
abbrev yH:Rho->Option Out:=(sApp 4 (evC 2 (aC (evC 2 (aC (vr 0) (aC (ev2 (ev2 (vr 1) '%' Qk) (vr 6) Qk) aN)) zu) (aC (ev2 (vr 6) (vr 7) Qk) aN)) Q8))
def jy:Rho->Option Out:=(seqO (sSet 3 (evC 2 (aC (vr 0) (aC (vr 1) aN)) zu)) (seqO (Q5 4 (evA aN lstD)) (seqO (sIf (tV (ev2 (ev2 (vr 3) (kd (.int 2)) modD) '%' eqD)) (seqO (sSet 5 (ev2 (ev2 (vr 3) (kd (.int 2)) jL) (kd (.int 61)) jL)) (seqO (sFor (evR (aC (ev2 (ev2 (vr 3) (kd (.int 2)) jL) (kd (.int 61)) modD) aN) Zy) (gNm 6) yG) (sRet (vr 4)))) sN) (seqO (sSet 7 (ev2 (evC 2 (aC (vr 3) (aC (kd (.int 3)) aN)) Q8) (kd (.int 61)) modD)) (seqO (sFor (evR (aC (vr 7) aN) Zy) (gNm 6) yH) (sRet (vr 4)))))))
def Zb (ds:ae):Option Ka:=ob (jy (rho0 wA.length ds)) outD
theorem qcJ (F:Fun K "_law_steps" "_law_steps" Tq17 f fd)(m:mg "_law_steps" = some (.ref f))(b:Binds K fd ["_law_script", "_law_at", "_law_base"] [])(K__law_cell:Known P w K mg base "_law_cell" 2 1 zu)(K__law_mixed:Known P w K mg base "_law_mixed" 2 1 Q8)(z_range:mg "range" = none):Known P w K mg base "_law_steps" 3 2 Zb:=by
 refine ⟨f,fd,["_law_script", "_law_at", "_law_base"],F.pure (k:=1) (u:=jy) (M':=[]) qt.fs rfl (λcdv A outer s H E hr G=>?_),m,F.kp,b⟩
 refine qg (M1:=[]) ?_ ?_
 refine za 3 ?_ ?_ ?_ ?_ ?_ ?_ (qm K__law_cell hr (by decide) (qt.gl 0 rfl rfl) (pda2 (pd_v qt 0) (pd_v qt 1)) rfl)
 ·exact qt.fs.nd
 ·exact (qt.loc 3 rfl)
 ·rfl
 ·rfl
 ·exact .inl rfl
 ·decide
 refine qg (M1:=[4]) ?_ ?_
 refine Qi 4 ?_ ?_ ?_ ?_ ?_ ?_ ?_ (Jf zV)
 ·exact qt.fs.nd
 ·exact (qt.loc 4 rfl)
 ·rfl
 ·rfl
 ·exact .inl rfl
 ·decide
 ·decide
 refine qg (M1:=[4]) ?_ ?_
 refine zG (q8 (d_eq hr) (qG ZX (pd_v qt 3) qb) qb (zg _)) ?_ zm
 refine qg (M1:=[4]) ?_ ?_
 refine za 5 ?_ ?_ ?_ ?_ ?_ ?_ (qG Jc (qG Jc (pd_v qt 3) qb) qb)
 ·exact qt.fs.nd
 ·exact (qt.loc 5 rfl)
 ·rfl
 ·rfl
 ·exact .inl rfl
 ·decide
 refine qg (M1:=[4]) ?_ (qj (qC (pd_v qt 4)))
 refine jT K1 rfl (Zq (qt.gl 1 rfl rfl) z_range (pda1 (qG ZX (qG Jc (pd_v qt 3) qb) qb))) (zA qt 6) ?_
 refine qg (M1:=[4]) (j9 4 (qt.vis 4 rfl) (by decide) (by decide) (qG ZX (pd_v qt 5) (pd_v qt 2))) ?_
 refine qj ?_
 refine za 5 ?_ ?_ ?_ ?_ ?_ ?_ (qG Jc (pd_v qt 5) (pd_v qt 2))
 ·exact qt.fs.nd
 ·exact (qt.loc 5 rfl)
 ·rfl
 ·rfl
 ·exact .inl rfl
 ·decide
 refine qg (M1:=[4]) ?_ (qg (M1:=[4]) (jT K1 rfl (Zq (qt.gl 1 rfl rfl) z_range (pda1 (pd_v qt 7))) (zA qt 6) (qj (j9 4 (qt.vis 4 rfl) (by decide) (by decide) (qm K__law_mixed hr (by decide) (qt.gl 2 rfl rfl) (pda2 (qm K__law_cell hr (by decide) (qt.gl 0 rfl rfl) (pda2 (pd_v qt 0) (qG zZ (qG zZ (pd_v qt 1) qb) (pd_v qt 6))) rfl) (qG zZ (pd_v qt 6) (pd_v qt 7))) rfl)))) (qj (qC (pd_v qt 4))))
 refine za 7 ?_ ?_ ?_ ?_ ?_ ?_ (qG ZX (qm K__law_mixed hr (by decide) (qt.gl 2 rfl rfl) (pda2 (pd_v qt 3) qb) rfl) qb)
 ·exact qt.fs.nd
 ·exact (qt.loc 7 rfl)
 ·rfl
 ·rfl
 ·exact .inl rfl
 ·decide
abbrev Tq18:KQ:=top 42
abbrev ww:List Str:=["_law_cell_here"]
theorem jr:ScOk ww ["_law_cell_here"] [] (qe Tq18):=scmk (by kernel_rfl)
def J6:Rho->Option Out:=(seqO (sIf (tV (ev2 (ev2 (vr 0) (kd (.int 2)) modD) '%' eqD)) (sRet (ev2 (ev2 (ev2 (ev2 (vr 0) (kd (.int 2)) jL) (ev2 (ev2 (kd (.int 2)) (ev2 (kd (.int 10)) (kd (.int 20)) powD) mulD) (kd (.int 59)) subD) modD) (ev2 (kd (.int 10)) (kd (.int 20)) powD) subD) (kd (.int 30)) Qk)) sN) (sRet (ev2 (ev2 (ev2 (vr 0) (kd (.int 2)) jL) (kd (.int 9)) modD) (kd (.int 4)) subD)))
def Q9 (ds:ae):Option Ka:=ob (J6 (rho0 ww.length ds)) outD
theorem qcF (F:Fun K "_law_place" "_law_place" Tq18 f fd)(m:mg "_law_place" = some (.ref f))(b:Binds K fd ["_law_cell_here"] []):Known P w K mg base "_law_place" 1 1 Q9:=by
 refine ⟨f,fd,["_law_cell_here"],F.pure (k:=0) (u:=J6) (M':=[]) jr.fs rfl (λcdv A outer s H E hr G=>?_),m,F.kp,b⟩
 exact qg (M1:=[]) (zG (q8 (d_eq hr) (qG ZX (pd_v jr 0) qb) qb (zg _)) (qj (qC (qG zZ (qG j7 (qG ZX (qG Jc (pd_v jr 0) qb) (qG j7 (qG Qm qb (qG qlp qb qb)) qb)) (qG qlp qb qb)) qb))) zm) (qj (qC (qG j7 (qG ZX (qG Jc (pd_v jr 0) qb) qb) qb)))
abbrev Tq19:KQ:=top 43
abbrev wB:List Str:=["_law_found"]
theorem Qz:ScOk wB ["_law_found"] ["isinstance", "int", "bool"] (qe Tq19):=scmk (by kernel_rfl)
def Wm:Rho->Option Out:=(sRet (vA (ev1 (vr 0) (isiD "int")) (vN (ev1 (vr 0) (isiD "bool")))))
def zQ (ds:ae):Option Ka:=ob (Wm (rho0 wB.length ds)) outD
theorem qcK (F:Fun K "_law_whole" "_law_whole" Tq19 f fd)(m:mg "_law_whole" = some (.ref f))(b:Binds K fd ["_law_found"] [])(z_isinstance:mg "isinstance" = none)(z_int:mg "int" = none)(z_bool:mg "bool" = none):Known P w K mg base "_law_whole" 1 1 zQ:=by
 refine ⟨f,fd,["_law_found"],F.pure (k:=0) (u:=Wm) (M':=[]) Qz.fs rfl (λcdv A outer s H E hr G=>?_),m,F.kp,b⟩
 exact qj (qC (Z8 (Je (T := "int") (qfG _) (Qz.gl 0 rfl rfl) z_isinstance (Qz.gl 1 rfl rfl) z_int rfl rfl (pd_v Qz 0)) (JV (qiv (Je (T := "bool") (qdO _) (Qz.gl 0 rfl rfl) z_isinstance (Qz.gl 2 rfl rfl) z_bool rfl rfl (pd_v Qz 0))))))
abbrev Tq20:KQ:=top 44
abbrev Y8:List Str:=["_law_one", "_law_other", "_law_a", "_law_b", "_law_c", "_law_d", "_law_e", "_law_f"]
theorem qM:ScOk Y8 ["_law_one", "_law_other"] [] (qe Tq20):=scmk (by kernel_rfl)
def J0:Rho->Option Out:=(seqO (sAsg (vr 0) (unpD 3 (gsC (gNm 2) (gsC (gNm 3) (gsC (gNm 4) gsN))))) (seqO (sAsg (vr 1) (unpD 3 (gsC (gNm 5) (gsC (gNm 6) (gsC (gNm 7) gsN))))) (sRet (evA (aC (ev2 (ev2 (vr 3) (vr 7) mulD) (ev2 (vr 4) (vr 6) mulD) subD) (aC (ev2 (ev2 (vr 4) (vr 5) mulD) (ev2 (vr 2) (vr 7) mulD) subD) (aC (ev2 (ev2 (vr 2) (vr 6) mulD) (ev2 (vr 3) (vr 5) mulD) subD) aN))) tupD))))
def Qn (ds:ae):Option Ka:=ob (J0 (rho0 Y8.length ds)) outD
theorem qcB (F:Fun K "_law_cross" "_law_cross" Tq20 f fd)(m:mg "_law_cross" = some (.ref f))(b:Binds K fd ["_law_one", "_law_other"] []):Known P w K mg base "_law_cross" 2 1 Qn:=by
 refine ⟨f,fd,["_law_one", "_law_other"],F.pure (k:=0) (u:=J0) (M':=[]) qM.fs rfl (λcdv A outer s H E hr G=>?_),m,F.kp,b⟩
 exact qg (M1:=[]) (qan (pd_v qM 0) (ZQ rfl (qP (zA qM 2) (qP (zA qM 3) (qP (zA qM 4) Q3))))) (qg (M1:=[]) (qan (pd_v qM 1) (ZQ rfl (qP (zA qM 5) (qP (zA qM 6) (qP (zA qM 7) Q3))))) (qj (qC (qY (pda3 (qG j7 (qG Qm (pd_v qM 3) (pd_v qM 7)) (qG Qm (pd_v qM 4) (pd_v qM 6))) (qG j7 (qG Qm (pd_v qM 4) (pd_v qM 5)) (qG Qm (pd_v qM 2) (pd_v qM 7))) (qG j7 (qG Qm (pd_v qM 2) (pd_v qM 6)) (qG Qm (pd_v qM 3) (pd_v qM 5))))))))
abbrev Tq37:KQ:=top 45
abbrev qat:List Str:=["_law_one", "_law_other"]
theorem Zk:ScOk qat ["_law_one", "_law_other"] [] (qe Tq37):=scmk (by kernel_rfl)
def YS:Rho->Option Out:=(sRet (ev2 (ev2 (ev2 (ev2 (vr 0) '$' ixD) (ev2 (vr 1) '$' ixD) mulD) (ev2 (ev2 (vr 0) '%' ixD) (ev2 (vr 1) '%' ixD) mulD) Qk) (ev2 (ev2 (vr 0) (kd (.int 2)) ixD) (ev2 (vr 1) (kd (.int 2)) ixD) mulD) Qk))
def Z2 (ds:ae):Option Ka:=ob (YS (rho0 qat.length ds)) outD
theorem qeD (F:Fun K "_law_dot" "_law_dot" Tq37 f fd)(m:mg "_law_dot" = some (.ref f))(b:Binds K fd ["_law_one", "_law_other"] []):Known P w K mg base "_law_dot" 2 1 Z2:=by
 refine ⟨f,fd,["_law_one", "_law_other"],F.pure (k:=0) (u:=YS) (M':=[]) Zk.fs rfl (λcdv A outer s H E hr G=>?_),m,F.kp,b⟩
 exact qj (qC (qG zZ (qG zZ (qG Qm (qp (pd_v Zk 0) qb) (qp (pd_v Zk 1) qb)) (qG Qm (qp (pd_v Zk 0) qb) (qp (pd_v Zk 1) qb))) (qG Qm (qp (pd_v Zk 0) qb) (qp (pd_v Zk 1) qb))))
abbrev Tq38:KQ:=top 46
abbrev qav:List Str:=["_law_one", "_law_many", "_law_other"]
theorem Qq:ScOk qav ["_law_one", "_law_many", "_law_other"] [] (qe Tq38):=scmk (by kernel_rfl)
def YW:Rho->Option Out:=(sRet (evA (aC (ev2 (ev2 (vr 0) '$' ixD) (ev2 (vr 1) (ev2 (vr 2) '$' ixD) mulD) Qk) (aC (ev2 (ev2 (vr 0) '%' ixD) (ev2 (vr 1) (ev2 (vr 2) '%' ixD) mulD) Qk) (aC (ev2 (ev2 (vr 0) (kd (.int 2)) ixD) (ev2 (vr 1) (ev2 (vr 2) (kd (.int 2)) ixD) mulD) Qk) aN))) tupD))
def Qf (ds:ae):Option Ka:=ob (YW (rho0 qav.length ds)) outD
theorem qeF (F:Fun K "_law_sum" "_law_sum" Tq38 f fd)(m:mg "_law_sum" = some (.ref f))(b:Binds K fd ["_law_one", "_law_many", "_law_other"] []):Known P w K mg base "_law_sum" 3 1 Qf:=by
 refine ⟨f,fd,["_law_one", "_law_many", "_law_other"],F.pure (k:=0) (u:=YW) (M':=[]) Qq.fs rfl (λcdv A outer s H E hr G=>?_),m,F.kp,b⟩
 exact qj (qC (qY (pda3 (qG zZ (qp (pd_v Qq 0) qb) (qG Qm (pd_v Qq 1) (qp (pd_v Qq 2) qb))) (qG zZ (qp (pd_v Qq 0) qb) (qG Qm (pd_v Qq 1) (qp (pd_v Qq 2) qb))) (qG zZ (qp (pd_v Qq 0) qb) (qG Qm (pd_v Qq 1) (qp (pd_v Qq 2) qb))))))
abbrev Tq31:KQ:=top 47
abbrev W2:List Str:=["_law_pose", "_law_way"]
theorem jg:ScOk W2 ["_law_pose", "_law_way"] ["_law_sum"] (qe Tq31):=scmk (by kernel_rfl)
def yS:Rho->Option Out:=(sRet (evC 3 (aC (evA (aC '$' (aC '$' (aC '$' aN))) tupD) (aC (ev2 '%' (ev2 (kd (.int 2)) (ev2 (vr 1) (kd (.int 2)) jL) mulD) subD) (aC (ev2 (vr 0) (ev2 '%' (ev2 (vr 1) (kd (.int 2)) modD) Qk) ixD) aN))) Qf))
def jk (ds:ae):Option Ka:=ob (yS (rho0 W2.length ds)) outD
theorem qdK (F:Fun K "_law_unit" "_law_unit" Tq31 f fd)(m:mg "_law_unit" = some (.ref f))(b:Binds K fd ["_law_pose", "_law_way"] [])(K__law_sum:Known P w K mg base "_law_sum" 3 1 Qf):Known P w K mg base "_law_unit" 2 2 jk:=by
 refine ⟨f,fd,["_law_pose", "_law_way"],F.pure (k:=1) (u:=yS) (M':=[]) jg.fs rfl (λcdv A outer s H E hr G=>?_),m,F.kp,b⟩
 exact qj (qC (qm K__law_sum hr (by decide) (jg.gl 0 rfl rfl) (pda3 (qY (pda3 qb qb qb)) (qG j7 qb (qG Qm qb (qG Jc (pd_v jg 1) qb))) (qp (pd_v jg 0) (qG zZ qb (qG ZX (pd_v jg 1) qb)))) rfl))
abbrev Tq39:KQ:=top 48
abbrev qau:List Str:=["_law_pose", "_law_way", "_law_bend", "_law_along", "_law_out", "_law_on", "_law_edge", "_law_told", "_law_unit_here"]
theorem qx:ScOk qau ["_law_pose", "_law_way", "_law_bend"] ["_law_unit", "_law_cross", "_law_sum", "_law_dot", "tuple"] (qe Tq39):=scmk (by kernel_rfl)
abbrev qcj:Rho->Option Out:=(sApp 7 (evC 3 (aC (evC 3 (aC (evA (aC '$' (aC '$' (aC '$' aN))) tupD) (aC (evC 2 (aC (vr 8) (aC (vr 3) aN)) Z2) (aC (vr 5) aN))) Qf) (aC (evC 2 (aC (vr 8) (aC (vr 6) aN)) Z2) (aC (vr 6) aN))) Qf))
def YT:Rho->Option Out:=(seqO (sSet 3 (evC 2 (aC (vr 0) (aC (vr 1) aN)) jk)) (seqO (sSet 4 (evC 2 (aC (ev2 (vr 0) '%' ixD) (aC (ev2 (vr 0) (kd (.int 2)) ixD) aN)) Qn)) (seqO (sSet 5 (vr 3)) (seqO (sIf (tV (ev2 (vr 2) '$' neD)) (sSet 5 (evC 3 (aC (evA (aC '$' (aC '$' (aC '$' aN))) tupD) (aC (vr 2) (aC (vr 4) aN))) Qf)) sN) (seqO (sSet 6 (evC 2 (aC (vr 3) (aC (vr 4) aN)) Qn)) (seqO (Q5 7 (evA (aC (evC 3 (aC (evC 3 (aC (ev2 (vr 0) '$' ixD) (aC '%' (aC (vr 3) aN))) Qf) (aC '%' (aC (vr 5) aN))) Qf) aN) lstD)) (seqO (sFor (evI (evS (vr 0) (oS '%') oN) seqD) (gNm 8) qcj) (sRet (evA (aC (vr 7) aN) WR)))))))))
def Qe (ds:ae):Option Ka:=ob (YT (rho0 qau.length ds)) outD
theorem qeE (F:Fun K "_law_led" "_law_led" Tq39 f fd)(m:mg "_law_led" = some (.ref f))(b:Binds K fd ["_law_pose", "_law_way", "_law_bend"] [])(K__law_unit:Known P w K mg base "_law_unit" 2 2 jk)(K__law_cross:Known P w K mg base "_law_cross" 2 1 Qn)(K__law_sum:Known P w K mg base "_law_sum" 3 1 Qf)(K__law_dot:Known P w K mg base "_law_dot" 2 1 Z2)(z_tuple:mg "tuple" = none):Known P w K mg base "_law_led" 3 3 Qe:=by
 refine ⟨f,fd,["_law_pose", "_law_way", "_law_bend"],F.pure (k:=2) (u:=YT) (M':=[]) qx.fs rfl (λcdv A outer s H E hr G=>?_),m,F.kp,b⟩
 refine qg (M1:=[]) ?_ ?_
 refine za 3 ?_ ?_ ?_ ?_ ?_ ?_ (qm K__law_unit hr (by decide) (qx.gl 0 rfl rfl) (pda2 (pd_v qx 0) (pd_v qx 1)) rfl)
 ·exact qx.fs.nd
 ·exact (qx.loc 3 rfl)
 ·rfl
 ·rfl
 ·exact .inl rfl
 ·decide
 refine qg (M1:=[]) ?_ ?_
 refine za 4 ?_ ?_ ?_ ?_ ?_ ?_ (qm K__law_cross hr (by decide) (qx.gl 1 rfl rfl) (pda2 (qp (pd_v qx 0) qb) (qp (pd_v qx 0) qb)) rfl)
 ·exact qx.fs.nd
 ·exact (qx.loc 4 rfl)
 ·rfl
 ·rfl
 ·exact .inl rfl
 ·decide
 refine qg (M1:=[]) ?_ ?_
 refine za 5 ?_ ?_ ?_ ?_ ?_ ?_ (pd_v qx 3)
 ·exact qx.fs.nd
 ·exact (qx.loc 5 rfl)
 ·rfl
 ·rfl
 ·exact .inl rfl
 ·decide
 refine qg (M1:=[]) ?_ ?_
 refine zG (q8 (d_ne hr) (pd_v qx 2) qb (zg _)) ?_ zm
 refine qj ?_
 refine za 5 ?_ ?_ ?_ ?_ ?_ ?_ ?_
 ·exact qx.fs.nd
 ·exact (qx.loc 5 rfl)
 ·rfl
 ·rfl
 ·exact .inl rfl
 ·decide
 exact qm K__law_sum hr (by decide) (qx.gl 2 rfl rfl) (pda3 (qY (pda3 qb qb qb)) (pd_v qx 2) (pd_v qx 4)) rfl
 refine qg (M1:=[]) ?_ ?_
 refine za 6 ?_ ?_ ?_ ?_ ?_ ?_ (qm K__law_cross hr (by decide) (qx.gl 1 rfl rfl) (pda2 (pd_v qx 3) (pd_v qx 4)) rfl)
 ·exact qx.fs.nd
 ·exact (qx.loc 6 rfl)
 ·rfl
 ·rfl
 ·exact .inl rfl
 ·decide
 refine qg (M1:=[7]) ?_ (qg (M1:=[7]) (QB K1 rfl (zW (qbc (pd_v qx 0) (qbe qb) qbd)) (λ_=>zA qx 8) (λ_=>qj (j9 7 (qx.vis 7 rfl) (by decide) (by decide) (qm K__law_sum hr (by decide) (qx.gl 2 rfl rfl) (pda3 (qm K__law_sum hr (by decide) (qx.gl 2 rfl rfl) (pda3 (qY (pda3 qb qb qb)) (qm K__law_dot hr (by decide) (qx.gl 3 rfl rfl) (pda2 (pd_v qx 8) (pd_v qx 3)) rfl) (pd_v qx 5)) rfl) (qm K__law_dot hr (by decide) (qx.gl 3 rfl rfl) (pda2 (pd_v qx 8) (pd_v qx 6)) rfl) (pd_v qx 6)) rfl)))) (qj (qC (jA qck (qx.gl 4 rfl rfl) z_tuple rfl (pda1 (pd_v qx 7))))))
 refine Qi 7 ?_ ?_ ?_ ?_ ?_ ?_ ?_ (Jf (pda1 (qm K__law_sum hr (by decide) (qx.gl 2 rfl rfl) (pda3 (qm K__law_sum hr (by decide) (qx.gl 2 rfl rfl) (pda3 (qp (pd_v qx 0) qb) qb (pd_v qx 3)) rfl) qb (pd_v qx 5)) rfl)))
 ·exact qx.fs.nd
 ·exact (qx.loc 7 rfl)
 ·rfl
 ·rfl
 ·exact .inl rfl
 ·decide
 ·decide
abbrev Tq7:KQ:=top 49
abbrev jF:List Str:=["_law_thing"]
theorem zT:ScOk jF ["_law_thing"] ["isinstance", "tuple", "len", "all"] (qe Tq7):=scmk (by kernel_rfl)
def yP:Rho->Option Out:=(seqO (sIf (tO (tN (tV (ev1 (vr 0) (isiD "tuple")))) (tV (ev2 (evA (aC (vr 0) aN) lenD) (kd (.int 3)) neD))) (sRet (kd (.bool false))) sN) (sRet (evA (aC (jJ 1 (evI (vr 0) seqD) tT (evC 1 (aC (vr 1) aN) zQ)) aN) allD)))
def jK (ds:ae):Option Ka:=ob (yP (rho0 jF.length ds)) outD
theorem qaS (F:Fun K "_law_is_spot" "_law_is_spot" Tq7 f fd)(m:mg "_law_is_spot" = some (.ref f))(b:Binds K fd ["_law_thing"] [])(K__law_whole:Known P w K mg base "_law_whole" 1 1 zQ)(z_isinstance:mg "isinstance" = none)(z_tuple:mg "tuple" = none)(z_len:mg "len" = none)(z_all:mg "all" = none):Known P w K mg base "_law_is_spot" 1 2 jK:=by
 refine ⟨f,fd,["_law_thing"],F.pure (k:=1) (u:=yP) (M':=[]) zT.fs rfl (λcdv A outer s H E hr G=>?_),m,F.kp,b⟩
 exact qg (M1:=[]) (zG (PDW.pdt (yL (Zi (ZR (Je (T := "tuple") (kit_tuple _) (zT.gl 0 rfl rfl) z_isinstance (zT.gl 1 rfl rfl) z_tuple rfl rfl (pd_v zT 0)))) (Ja (q8 (d_ne hr) (zc QL (zT.gl 2 rfl rfl) z_len Vb (pda1 (pd_v zT 0))) qb (zg _))))) (qj (qC Jx)) zm) (qj (qC (zc (qll rfl) (zT.gl 3 rfl rfl) z_all rfl (pda1 (Yh (CompOk.of (k:=1) jF ["_law_thing", "_law_number"] (qe Tq7) rfl rfl rfl (by decide +kernel)) rfl (by decide +kernel) (zW (pd_v zT 0)) (λ_ _ _ _ _ _=>Q4) (λ_ _ _ _ _ _=>qm K__law_whole hr (by decide) (qfA (by decide +kernel)) (pda1 (zr 1 (qW (by decide +kernel)) (by decide))) rfl))))))
abbrev Tq8:KQ:=top 50
abbrev jE:List Str:=["_law_thing"]
theorem zR:ScOk jE ["_law_thing"] ["isinstance", "tuple", "len", "all"] (qe Tq8):=scmk (by kernel_rfl)
def yO:Rho->Option Out:=(seqO (sIf (tO (tN (tV (ev1 (vr 0) (isiD "tuple")))) (tV (ev2 (evA (aC (vr 0) aN) lenD) (kd (.int 3)) neD))) (sRet (kd (.bool false))) sN) (sRet (evA (aC (jJ 1 (evI (vr 0) seqD) tT (evC 1 (aC (vr 1) aN) jK)) aN) allD)))
def ZJ (ds:ae):Option Ka:=ob (yO (rho0 jE.length ds)) outD
theorem qaR (F:Fun K "_law_is_pose" "_law_is_pose" Tq8 f fd)(m:mg "_law_is_pose" = some (.ref f))(b:Binds K fd ["_law_thing"] [])(K__law_is_spot:Known P w K mg base "_law_is_spot" 1 2 jK)(z_isinstance:mg "isinstance" = none)(z_tuple:mg "tuple" = none)(z_len:mg "len" = none)(z_all:mg "all" = none):Known P w K mg base "_law_is_pose" 1 3 ZJ:=by
 refine ⟨f,fd,["_law_thing"],F.pure (k:=2) (u:=yO) (M':=[]) zR.fs rfl (λcdv A outer s H E hr G=>?_),m,F.kp,b⟩
 exact qg (M1:=[]) (zG (PDW.pdt (yL (Zi (ZR (Je (T := "tuple") (kit_tuple _) (zR.gl 0 rfl rfl) z_isinstance (zR.gl 1 rfl rfl) z_tuple rfl rfl (pd_v zR 0)))) (Ja (q8 (d_ne hr) (zc QL (zR.gl 2 rfl rfl) z_len Vb (pda1 (pd_v zR 0))) qb (zg _))))) (qj (qC Jx)) zm) (qj (qC (zc (qll rfl) (zR.gl 3 rfl rfl) z_all rfl (pda1 (Yh (CompOk.of (k:=1) jE ["_law_thing", "_law_spot"] (qe Tq8) rfl rfl rfl (by decide +kernel)) rfl (by decide +kernel) (zW (pd_v zR 0)) (λ_ _ _ _ _ _=>Q4) (λ_ _ _ _ _ _=>qm K__law_is_spot hr (by decide) (qfA (by decide +kernel)) (pda1 (zr 1 (qW (by decide +kernel)) (by decide))) rfl))))))
abbrev Tq1:KQ:=top 51
abbrev Jp:List Str:=["_law_cell_here", "_law_way"]
theorem Qv:ScOk Jp ["_law_cell_here", "_law_way"] [] (qe Tq1):=scmk (by kernel_rfl)
def jb:Rho->Option Out:=(sRet (evA (aC (ev2 (ev2 (vr 0) '$' ixD) (ev2 (evA (aC '%' (aC '$' (aC (ev1 '%' negD) (aC '$' aN)))) tupD) (vr 1) ixD) Qk) (aC (ev2 (ev2 (vr 0) '%' ixD) (ev2 (evA (aC '$' (aC '%' (aC '$' (aC (ev1 '%' negD) aN)))) tupD) (vr 1) ixD) Qk) aN)) tupD))
def Qc (ds:ae):Option Ka:=ob (jb (rho0 Jp.length ds)) outD
theorem WF (F:Fun K "_law_neighbour" "_law_neighbour" Tq1 f fd)(m:mg "_law_neighbour" = some (.ref f))(b:Binds K fd ["_law_cell_here", "_law_way"] []):Known P w K mg base "_law_neighbour" 2 1 Qc:=by
 refine ⟨f,fd,["_law_cell_here", "_law_way"],F.pure (k:=0) (u:=jb) (M':=[]) Qv.fs rfl (λcdv A outer s H E hr G=>?_),m,F.kp,b⟩
 exact qj (qC (qY (pda2 (qG zZ (qp (pd_v Qv 0) qb) (qp (qY (qT qb (qT qb (qT (Jy Jt qb) (qT qb zV))))) (pd_v Qv 1))) (qG zZ (qp (pd_v Qv 0) qb) (qp (qY (qT qb (qT qb (qT qb (qT (Jy Jt qb) zV))))) (pd_v Qv 1))))))
abbrev Tq11:KQ:=top 52
abbrev QD:List Str:=["_law_cells", "_law_joins", "_law_one", "_law_other", "_law_bend", "_law_pair"]
theorem zb:ScOk QD ["_law_cells", "_law_joins", "_law_one", "_law_other", "_law_bend"] ["max", "min"] (qe Tq11):=scmk (by kernel_rfl)
def Jj:Rho->Option Out:=(seqO (sSet 5 (evA (aC (evA (aC (vr 2) (aC (vr 3) aN)) JP) (aC (evA (aC (vr 2) (aC (vr 3) aN)) JN) aN)) tupD)) (sIf (tV (ev2 (vr 5) (jh 6 3 (evI (vr 1) seqD) (unpD 3 (gsC (gNm 6) (gsC (gNm 7) (gsC (gNm 8) gsN)))) tT (evA (aC (vr 6) (aC (vr 7) aN)) tupD)) ninD)) (sApp 1 (evA (aC (ev2 (vr 5) '$' ixD) (aC (ev2 (vr 5) '%' ixD) (aC (vr 4) aN))) tupD)) sN))
def Ze (ds:ae):Option Ka:=ob (Jj (rho0 QD.length ds)) (outU 1)
theorem qbB (F:Fun K "_law_joined" "_law_joined" Tq11 f fd)(m:mg "_law_joined" = some (.ref f))(b:Binds K fd ["_law_cells", "_law_joins", "_law_one", "_law_other", "_law_bend"] [])(z_max:mg "max" = none)(z_min:mg "min" = none):KnownU P w K mg base "_law_joined" 5 1 1 Ze:=by
 refine ⟨f,fd,["_law_cells", "_law_joins", "_law_one", "_law_other", "_law_bend"],F.mutp (k:=0) (u:=Jj) (i:=1) zb.fs rfl (by decide) (λcdv A outer s H E hr G=>?_),m,F.kp,b⟩
 refine qiy ?_ (qfV (qmK (q8 (qaj hr) (pd_v zb 5) (qa9 (CompOk.of (k:=3) QD ["_law_cells", "_law_joins", "_law_one", "_law_other", "_law_bend", "_law_pair", "_law_a", "_law_b", "_law_old"] (qe Tq11) rfl rfl rfl (by decide +kernel)) (qfz (jz (QZ (by decide)) (jz (QZ (by decide)) (jz (QZ (by decide)) qdw)))) (zW (pd_v zb 1)) (λ_ _ _ _ _ _=>qd5 rfl (Z9 (ZS (i:=6) (CompOk.of (k:=3) QD ["_law_cells", "_law_joins", "_law_one", "_law_other", "_law_bend", "_law_pair", "_law_a", "_law_b", "_law_old"] (qe Tq11) rfl rfl rfl (by decide +kernel)) rfl (by decide +kernel) _ _ _ _ _ _) (Z9 (ZS (i:=7) (CompOk.of (k:=3) QD ["_law_cells", "_law_joins", "_law_one", "_law_other", "_law_bend", "_law_pair", "_law_a", "_law_b", "_law_old"] (qe Tq11) rfl rfl rfl (by decide +kernel)) rfl (by decide +kernel) _ _ _ _ _ _) (Z9 (ZS (i:=8) (CompOk.of (k:=3) QD ["_law_cells", "_law_joins", "_law_one", "_law_other", "_law_bend", "_law_pair", "_law_a", "_law_b", "_law_old"] (qe Tq11) rfl rfl rfl (by decide +kernel)) rfl (by decide +kernel) _ _ _ _ _ _) qb5)))) (λ_ _ _ _ _ _=>Q4) (λ_ _ _ _ _ _=>qY (pda2 (zr 6 (qW (by decide +kernel)) (by decide)) (zr 7 (qW (by decide +kernel)) (by decide))))) rfl) (qfV (qkC (zb.vis 1 rfl) (qY (pda3 (qp (pd_v zb 5) qb) (qp (pd_v zb 5) qb) (pd_v zb 4))))) qkD))
 refine qkE 5 ?_ ?_ ?_ ?_ ?_ ?_ ?_
 ·exact zb.fs.nd
 ·exact (zb.loc 5 rfl)
 ·rfl
 ·rfl
 ·exact .inl rfl
 ·decide
 exact qY (pda2 (zc (qjt hr) (zb.gl 1 rfl rfl) z_min qgj (pda2 (pd_v zb 2) (pd_v zb 3))) (zc (qjs hr) (zb.gl 0 rfl rfl) z_max qgi (pda2 (pd_v zb 2) (pd_v zb 3))))
abbrev Tq21:KQ:=top 53
abbrev Y9:List Str:=["_law_script", "_law_at", "_law_most", "_law_bends", "_law_cells", "_law_joins", "_law_step", "_law_one", "_law_other", "_law_bend"]
theorem qi:ScOk Y9 ["_law_script", "_law_at", "_law_most", "_law_bends"] ["_law_cell", "_law_place", "len", "_law_neighbour", "_law_joined", "_law_steps"] (qe Tq21):=scmk (by kernel_rfl)
abbrev jG:Rho->Option Out:=(seqO (sSet 7 (Yr (ev2 (vr 4) (ev2 (ev2 (vr 6) (kd (.int 12)) jL) (evA (aC (vr 4) aN) lenD) modD) ixD))) (seqO (sSet 8 (evC 2 (aC (vr 7) (aC (ev2 (vr 6) (kd (.int 4)) modD) aN)) Qc)) (seqO (sSet 9 (ev2 (ev2 (ev2 (vr 6) (kd (.int 4)) jL) (kd (.int 3)) modD) '%' subD)) (seqO (sIf (tV (ev2 (ev2 (evC 2 (aC (vr 0) (aC (vr 1) aN)) zu) (kd (.int 2)) modD) '$' eqD)) (sSet 9 (ev2 (vr 3) (ev2 (ev2 (vr 6) (kd (.int 3744)) jL) (evA (aC (vr 3) aN) lenD) modD) ixD)) sN) (sIf (tO (tV (ev2 (vr 8) (vr 4) inD)) (tV (ev2 (evA (aC (vr 4) aN) lenD) (vr 2) ltD2))) (seqO (sIf (tV (ev2 (vr 8) (vr 4) ninD)) (sApp 4 (vr 8)) sN) (qcY 5 5 (aC (vr 4) (aC (vr 5) (aC (vr 7) (aC (vr 8) (aC (vr 9) aN))))) Ze)) sN)))))
def J2:Rho->Option Out:=(seqO (Q5 4 (evA (aC (evA (aC (evC 1 (aC (evC 2 (aC (vr 0) (aC '$' aN)) zu) aN) Q9) (aC (evC 1 (aC (evC 2 (aC (vr 0) (aC '%' aN)) zu) aN) Q9) aN)) tupD) aN) lstD)) (seqO (Q5 5 (evA aN lstD)) (seqO (sFor (evI (evC 3 (aC (vr 0) (aC (vr 1) (aC (kd (.int 312)) aN))) Zb) seqD) (gNm 6) jG) (sRet (evA (aC (vr 4) (aC (vr 5) aN)) tupD)))))
def ZG (ds:ae):Option Ka:=ob (J2 (rho0 Y9.length ds)) outD
theorem qcC (F:Fun K "_law_grown" "_law_grown" Tq21 f fd)(m:mg "_law_grown" = some (.ref f))(b:Binds K fd ["_law_script", "_law_at", "_law_most", "_law_bends"] [])(K__law_place:Known P w K mg base "_law_place" 1 1 Q9)(K__law_cell:Known P w K mg base "_law_cell" 2 1 zu)(K__law_neighbour:Known P w K mg base "_law_neighbour" 2 1 Qc)(K__law_joined:KnownU P w K mg base "_law_joined" 5 1 1 Ze)(K__law_steps:Known P w K mg base "_law_steps" 3 2 Zb)(z_len:mg "len" = none):Known P w K mg base "_law_grown" 4 3 ZG:=by
 refine ⟨f,fd,["_law_script", "_law_at", "_law_most", "_law_bends"],F.pure (k:=2) (u:=J2) (M':=[]) qi.fs rfl (λcdv A outer s H E hr G=>?_),m,F.kp,b⟩
 refine qg (M1:=[4]) ?_ ?_
 refine Qi 4 ?_ ?_ ?_ ?_ ?_ ?_ ?_ ?_
 ·exact qi.fs.nd
 ·exact (qi.loc 4 rfl)
 ·rfl
 ·rfl
 ·exact .inl rfl
 ·decide
 ·decide
 exact Jf (pda1 (qY (pda2 (qm K__law_place hr (by decide) (qi.gl 1 rfl rfl) (pda1 (qm K__law_cell hr (by decide) (qi.gl 0 rfl rfl) (pda2 (pd_v qi 0) qb) rfl)) rfl) (qm K__law_place hr (by decide) (qi.gl 1 rfl rfl) (pda1 (qm K__law_cell hr (by decide) (qi.gl 0 rfl rfl) (pda2 (pd_v qi 0) qb) rfl)) rfl))))
 refine qg (M1:=[5,4]) ?_ ?_
 refine Qi 5 ?_ ?_ ?_ ?_ ?_ ?_ ?_ (Jf zV)
 ·exact qi.fs.nd
 ·exact (qi.loc 5 rfl)
 ·rfl
 ·rfl
 ·exact .inl rfl
 ·decide
 ·decide
 refine qg (M1:=[5,4]) ?_ (qj (qC (qY (pda2 (pd_v qi 4) (pd_v qi 5)))))
 refine QB K1 rfl (zW (qm K__law_steps hr (by decide) (qi.gl 5 rfl rfl) (pda3 (pd_v qi 0) (pd_v qi 1) qb) rfl)) (λ_=>zA qi 6) (λ_=>?_)
 refine qg (M1:=[5,4]) ?_ ?_
 refine Wc 7 ?_ ?_ ?_ ?_ ?_ ?_ (qp (pd_v qi 4) (qG ZX (qG Jc (pd_v qi 6) qb) (zc QL (qi.gl 2 rfl rfl) z_len Vb (pda1 (pd_v qi 4)))))
 ·exact qi.fs.nd
 ·exact (qi.loc 7 rfl)
 ·rfl
 ·rfl
 ·exact .inl rfl
 ·decide
 refine qg (M1:=[5,4]) ?_ ?_
 refine za 8 ?_ ?_ ?_ ?_ ?_ ?_ (qm K__law_neighbour hr (by decide) (qi.gl 3 rfl rfl) (pda2 (pd_v qi 7) (qG ZX (pd_v qi 6) qb)) rfl)
 ·exact qi.fs.nd
 ·exact (qi.loc 8 rfl)
 ·rfl
 ·rfl
 ·exact .inl rfl
 ·decide
 refine qg (M1:=[5,4]) ?_ ?_
 refine za 9 ?_ ?_ ?_ ?_ ?_ ?_ (qG j7 (qG ZX (qG Jc (pd_v qi 6) qb) qb) qb)
 ·exact qi.fs.nd
 ·exact (qi.loc 9 rfl)
 ·rfl
 ·rfl
 ·exact .inl rfl
 ·decide
 refine qg (M1:=[5,4]) ?_ (qj (zG (PDW.pdt (yL (q8 (d_in hr) (pd_v qi 8) (pd_v qi 4) rfl) (Ja (q8 (qfr hr) (zc QL (qi.gl 2 rfl rfl) z_len Vb (pda1 (pd_v qi 4))) (pd_v qi 2) (zg _))))) (qg (M1:=[5,4]) (zG (q8 (qaj hr) (pd_v qi 8) (pd_v qi 4) rfl) (qj (j9 4 (qi.vis 4 rfl) (by decide) (by decide) (pd_v qi 8))) zm) (qj (qgV 5 1 K__law_joined hr (by decide) (qi.gl 4 rfl rfl) (by decide) (by decide) (qgR (pd_v qi 4) (qit 5 (qi.vis 5 rfl) (pda3 (pd_v qi 7) (pd_v qi 8) (pd_v qi 9))))))) zm))
 refine zG (q8 (d_eq hr) (qG ZX (qm K__law_cell hr (by decide) (qi.gl 0 rfl rfl) (pda2 (pd_v qi 0) (pd_v qi 1)) rfl) qb) qb (zg _)) ?_ zm
 refine qj ?_
 refine za 9 ?_ ?_ ?_ ?_ ?_ ?_ (qp (pd_v qi 3) (qG ZX (qG Jc (pd_v qi 6) qb) (zc QL (qi.gl 2 rfl rfl) z_len Vb (pda1 (pd_v qi 3)))))
 ·exact qi.fs.nd
 ·exact (qi.loc 9 rfl)
 ·rfl
 ·rfl
 ·exact .inl rfl
 ·decide
abbrev Tq22:KQ:=top 54
abbrev Q7:List Str:=["_law_cells", "_law_joins", "_law_rising"]
theorem Qj:ScOk Q7 ["_law_cells", "_law_joins"] ["sorted"] (qe Tq22):=scmk (by kernel_rfl)
def J8:Rho->Option Out:=(seqO (sSet 2 (evA (aC (vr 0) aN) je)) (sRet (evA (aC (vr 2) (aC (evA (aC (jh 3 3 (evI (vr 1) seqD) (unpD 3 (gsC (gNm 3) (gsC (gNm 4) (gsC (gNm 5) gsN)))) tT (evA (aC (ev2 (vr 2) (vr 3) JL) (aC (ev2 (vr 2) (vr 4) JL) (aC (vr 5) aN))) tupD)) aN) je) aN)) tupD)))
def ZL (ds:ae):Option Ka:=ob (J8 (rho0 Q7.length ds)) outD
theorem qcI (F:Fun K "_law_sheet" "_law_sheet" Tq22 f fd)(m:mg "_law_sheet" = some (.ref f))(b:Binds K fd ["_law_cells", "_law_joins"] [])(z_sorted:mg "sorted" = none):Known P w K mg base "_law_sheet" 2 1 ZL:=by
 refine ⟨f,fd,["_law_cells", "_law_joins"],F.pure (k:=0) (u:=J8) (M':=[]) Qj.fs rfl (λcdv A outer s H E hr G=>?_),m,F.kp,b⟩
 refine qg (M1:=[]) ?_ (qj (qC (qY (pda2 (pd_v Qj 2) (w6 (qbi (qa5 hr) (Qj.gl 0 rfl rfl) z_sorted JG (pda1 (qa9 (CompOk.of (k:=3) Q7 ["_law_cells", "_law_joins", "_law_rising", "_law_a", "_law_b", "_law_bend"] (qe Tq22) rfl rfl rfl (by decide +kernel)) (qfz (jz (QZ (by decide)) (jz (QZ (by decide)) (jz (QZ (by decide)) qdw)))) (zW (pd_v Qj 1)) (λ_ _ _ _ _ _=>qd5 rfl (Z9 (ZS (i:=3) (CompOk.of (k:=3) Q7 ["_law_cells", "_law_joins", "_law_rising", "_law_a", "_law_b", "_law_bend"] (qe Tq22) rfl rfl rfl (by decide +kernel)) rfl (by decide +kernel) _ _ _ _ _ _) (Z9 (ZS (i:=4) (CompOk.of (k:=3) Q7 ["_law_cells", "_law_joins", "_law_rising", "_law_a", "_law_b", "_law_bend"] (qe Tq22) rfl rfl rfl (by decide +kernel)) rfl (by decide +kernel) _ _ _ _ _ _) (Z9 (ZS (i:=5) (CompOk.of (k:=3) Q7 ["_law_cells", "_law_joins", "_law_rising", "_law_a", "_law_b", "_law_bend"] (qe Tq22) rfl rfl rfl (by decide +kernel)) rfl (by decide +kernel) _ _ _ _ _ _) qb5)))) (λ_ _ _ _ _ _=>Q4) (λ_ _ _ _ _ _=>qY (pda3 (qd4 hr (zr 2 (qW (by decide +kernel)) (by decide)) (zr 3 (qW (by decide +kernel)) (by decide))) (qd4 hr (zr 2 (qW (by decide +kernel)) (by decide)) (zr 4 (qW (by decide +kernel)) (by decide))) (zr 5 (qW (by decide +kernel)) (by decide))))))))))))
 refine za 2 ?_ ?_ ?_ ?_ ?_ ?_ (w6 (qbi (qa5 hr) (Qj.gl 0 rfl rfl) z_sorted JG (pda1 (pd_v Qj 0))))
 ·exact Qj.fs.nd
 ·exact (Qj.loc 2 rfl)
 ·rfl
 ·rfl
 ·exact .inl rfl
 ·decide
abbrev Tq32:KQ:=top 55
abbrev j6:List Str:=["_law_sheet_here", "_law_near_here", "_law_i", "_law_j", "_law_bend", "_law_way"]
theorem qL:ScOk j6 ["_law_sheet_here"] ["int"] (qe Tq32):=scmk (by kernel_rfl)
abbrev Yo:Rho->Option Out:=(seqO (sSet 5 (evA (aC (ev2 (ev2 (ev2 (ev2 (vr 0) '$' ixD) (vr 2) ixD) '$' ixD) (ev2 (ev2 (ev2 (vr 0) '$' ixD) (vr 3) ixD) '$' ixD) eqD) aN) qc4)) (seqO (qbo 1 (vr 2) (evA (aC (vr 5) (aC (vr 3) (aC (vr 4) aN))) tupD)) (qbo 1 (vr 3) (evA (aC (ev2 (vr 5) (kd (.int 2)) Qk) (aC (vr 2) (aC (vr 4) aN))) tupD))))
def yQ:Rho->Option Out:=(seqO (JW 1 (qbS 6 1 (evI (ev2 (vr 0) '$' ixD) seqD) (gNm 6) tT (evA aN lstD))) (seqO (sFor (evI (ev2 (vr 0) '%' ixD) seqD) (unpD 3 (gsC (gNm 2) (gsC (gNm 3) (gsC (gNm 4) gsN)))) Yo) (sRet (vr 1))))
def ji (ds:ae):Option Ka:=ob (yQ (rho0 j6.length ds)) outD
theorem qdI (F:Fun K "_law_near" "_law_near" Tq32 f fd)(m:mg "_law_near" = some (.ref f))(b:Binds K fd ["_law_sheet_here"] [])(z_int:mg "int" = none):Known P w K mg base "_law_near" 1 1 ji:=by
 refine ⟨f,fd,["_law_sheet_here"],F.pure (k:=0) (u:=yQ) (M':=[]) qL.fs rfl (λcdv A outer s H E hr G=>?_),m,F.kp,b⟩
 refine qg (M1:=[1,1001]) (qb6 1 (CompOk.of (k:=1) j6 ["_law_sheet_here", "_law_near_here", "_law_i", "_law_j", "_law_bend", "_law_way", "_law_cell_here"] (qe Tq32) rfl rfl rfl (by decide +kernel)) (QZ (by decide)) (qe Tq32) rfl (by decide +kernel) (by decide) (by decide) (zW (qp (pd_v qL 0) qb)) (λ_ _ _ _ _ _=>ZS (i:=6) (CompOk.of (k:=1) j6 ["_law_sheet_here", "_law_near_here", "_law_i", "_law_j", "_law_bend", "_law_way", "_law_cell_here"] (qe Tq32) rfl rfl rfl (by decide +kernel)) rfl (by decide +kernel) _ _ _ _ _ _) (λ_ _ _ _ _ _=>Q4) (λ_ _ _ _ _ _=>Jf zV)) ?_
 refine qg (M1:=[1,1001]) ?_ (qj (qC (pd_v qL 1)))
 refine QB K1 rfl (zW (qp (pd_v qL 0) qb)) (λ_=>ZQ rfl (qP (zA qL 2) (qP (zA qL 3) (qP (zA qL 4) Q3)))) (λ_=>?_)
 refine qg (M1:=[1,1001]) ?_ (qg (M1:=[1,1001]) (Wb 1 (qL.vis 1 rfl) (by decide) (pd_v qL 2) (qY (pda3 (pd_v qL 5) (pd_v qL 3) (pd_v qL 4)))) (qj (Wb 1 (qL.vis 1 rfl) (by decide) (pd_v qL 3) (qY (pda3 (qG zZ (pd_v qL 5) qb) (pd_v qL 2) (pd_v qL 4))))))
 refine za 5 ?_ ?_ ?_ ?_ ?_ ?_ (jA b_int (qL.gl 0 rfl rfl) z_int rfl (pda1 (jP (d_eq hr) (qp (qp (qp (pd_v qL 0) qb) (pd_v qL 2)) qb) (qp (qp (qp (pd_v qL 0) qb) (pd_v qL 3)) qb) (zg _))))
 ·exact qL.fs.nd
 ·exact (qL.loc 5 rfl)
 ·rfl
 ·rfl
 ·exact .inl rfl
 ·decide
abbrev Tq12:KQ:=top 56
abbrev Jb:List Str:=["_law_near_here", "_law_numbers", "_law_pose", "_law_at", "_law_steps_here"]
theorem qQ:ScOk Jb ["_law_near_here", "_law_numbers", "_law_pose"] ["len", "_law_led", "range"] (qe Tq12):=scmk (by kernel_rfl)
abbrev zK:Rho->Option Out:=(seqO (Q5 4 (jJ 5 (evI (ev2 (vr 0) (ev2 (vr 1) (vr 3) ixD) ixD) seqD) (tV (ev2 (ev2 (vr 5) '%' ixD) (ev2 (vr 1) (ev2 (vr 3) '%' Qk) ixD) eqD)) (vr 5))) (seqO (sIf (tV (ev2 (evA (aC (vr 4) aN) lenD) '$' eqD)) (sRet (vr 3)) sN) (sSet 2 (evC 3 (aC (vr 2) (aC (ev2 (ev2 (vr 4) '$' ixD) '$' ixD) (aC (ev2 (ev2 (vr 4) '$' ixD) (kd (.int 2)) ixD) aN))) Qe))))
def Jk:Rho->Option Out:=(seqO (sFor (evR (aC (ev2 (evA (aC (vr 1) aN) lenD) '%' subD) aN) Zy) (gNm 3) zK) (sRet (vr 2)))
def Qa (ds:ae):Option Ka:=ob (Jk (rho0 Jb.length ds)) outD
theorem qbC (F:Fun K "_law_walked" "_law_walked" Tq12 f fd)(m:mg "_law_walked" = some (.ref f))(b:Binds K fd ["_law_near_here", "_law_numbers", "_law_pose"] [])(K__law_led:Known P w K mg base "_law_led" 3 3 Qe)(z_len:mg "len" = none)(z_range:mg "range" = none):Known P w K mg base "_law_walked" 3 4 Qa:=by
 refine ⟨f,fd,["_law_near_here", "_law_numbers", "_law_pose"],F.pure (k:=3) (u:=Jk) (M':=[]) qQ.fs rfl (λcdv A outer s H E hr G=>?_),m,F.kp,b⟩
 refine qg (M1:=[]) ?_ (qj (qC (pd_v qQ 2)))
 refine jT K1 rfl (Zq (qQ.gl 2 rfl rfl) z_range (pda1 (qG j7 (zc QL (qQ.gl 0 rfl rfl) z_len Vb (pda1 (pd_v qQ 1))) qb))) (zA qQ 3) ?_
 refine qg (M1:=[4]) (qiz 4 (CompOk.of (k:=1) Jb ["_law_near_here", "_law_numbers", "_law_pose", "_law_at", "_law_steps_here", "_law_step"] (qe Tq12) rfl rfl rfl (by decide +kernel)) rfl (by decide +kernel) (qe Tq12) rfl (by decide +kernel) (by decide) (by decide) (zW (qp (pd_v qQ 0) (qp (pd_v qQ 1) (pd_v qQ 3)))) (λ_ _ _ _ _ _=>qiD (q8 (d_eq hr) (qp (zr 5 (qW (by decide +kernel)) (by decide)) qb) (qp (zr 1 (qW (by decide +kernel)) (by decide)) (qG zZ (zr 3 (qW (by decide +kernel)) (by decide)) qb)) (zg _))) (λ_ _ _ _ _ _=>zr 5 (qW (by decide +kernel)) (by decide))) ?_
 refine qg (M1:=[4]) (zG (q8 (d_eq hr) (zc QL (qQ.gl 0 rfl rfl) z_len Vb (pda1 (pd_v qQ 4))) qb (zg _)) (qj (qC (pd_v qQ 3))) zm) ?_
 refine qj ?_
 refine qgZ [] ?_ ?_ ?_
 ·rfl
 ·rfl
 refine za 2 ?_ ?_ ?_ ?_ ?_ ?_ (qm K__law_led hr (by decide) (qQ.gl 1 rfl rfl) (pda3 (pd_v qQ 2) (qp (qp (pd_v qQ 4) qb) qb) (qp (qp (pd_v qQ 4) qb) qb)) rfl)
 ·exact qQ.fs.nd
 ·exact (qQ.loc 2 rfl)
 ·rfl
 ·rfl
 ·exact .inl rfl
 ·decide
abbrev Tq23:KQ:=top 57
abbrev JC:List Str:=["_law_near_here", "_law_first", "_law_pose", "_law_poses_here", "_law_waiting", "_law_right_here", "_law_k", "_law_way", "_law_j", "_law_bend", "_law_found"]
theorem ql:ScOk JC ["_law_near_here", "_law_first", "_law_pose"] ["_law_led", "len", "range"] (qe Tq23):=scmk (by kernel_rfl)
abbrev yF:Rho->Option Out:=(seqO (sSet 10 (Yr (evC 3 (aC (ev2 (vr 3) (vr 6) ix2D) (aC (vr 7) (aC (vr 9) aN))) Qe))) (seqO (sIf (tV (ev2 (vr 8) (vr 3) qfR)) (seqO (Wi 3 (vr 8) (vr 10)) (sApp 4 (vr 8))) sN) (sSet 5 (Yr (vA (vr 5) (ev2 (ev2 (vr 3) (vr 8) ix2D) (vr 10) eqD))))))
abbrev jH:Rho->Option Out:=(seqO (sPop 4 6) (sFor (evI (ev2 (vr 0) (vr 6) ixD) seqD) (unpD 3 (gsC (gNm 7) (gsC (gNm 8) (gsC (gNm 9) gsN)))) yF))
def J7:Rho->Option Out:=(seqO (Q5 3 (ev2 (vr 1) (vr 2) qaH)) (seqO (Q5 4 (evA (aC (vr 1) aN) lstD)) (seqO (sSet 5 (kd (.bool true))) (seqO (JX (tV (ev2 (evA (aC (vr 4) aN) lenD) '$' gtD)) jH) (sRet (evA (aC (jJ 11 (evR (aC (evA (aC (vr 0) aN) lenD) aN) Zy) tT (ev2 (vr 3) (vr 11) ix2D)) (aC (vr 5) aN)) tupD))))))
def Za (ds:ae):Option Ka:=ob (J7 (rho0 JC.length ds)) outD
theorem qcG (F:Fun K "_law_poses" "_law_poses" Tq23 f fd)(m:mg "_law_poses" = some (.ref f))(b:Binds K fd ["_law_near_here", "_law_first", "_law_pose"] [])(K__law_led:Known P w K mg base "_law_led" 3 3 Qe)(z_len:mg "len" = none)(z_range:mg "range" = none):Known P w K mg base "_law_poses" 3 4 Za:=by
 refine ⟨f,fd,["_law_near_here", "_law_first", "_law_pose"],F.pure (k:=3) (u:=J7) (M':=[]) ql.fs rfl (λcdv A outer s H E hr G=>?_),m,F.kp,b⟩
 refine qg (M1:=[3]) ?_ ?_
 refine Qi 3 ?_ ?_ ?_ ?_ ?_ ?_ ?_ (qd8 (pd_v ql 1) (pd_v ql 2))
 ·exact ql.fs.nd
 ·exact (ql.loc 3 rfl)
 ·rfl
 ·rfl
 ·exact .inl rfl
 ·decide
 ·decide
 refine qg (M1:=[4,3]) ?_ ?_
 refine Qi 4 ?_ ?_ ?_ ?_ ?_ ?_ ?_ (Jf (pda1 (pd_v ql 1)))
 ·exact ql.fs.nd
 ·exact (ql.loc 4 rfl)
 ·rfl
 ·rfl
 ·exact .inl rfl
 ·decide
 ·decide
 refine qg (M1:=[4,3]) ?_ ?_
 refine za 5 ?_ ?_ ?_ ?_ ?_ ?_ Jx
 ·exact ql.fs.nd
 ·exact (ql.loc 5 rfl)
 ·rfl
 ·rfl
 ·exact .inl rfl
 ·decide
 refine qg (M1:=[4,3]) ?_ (qj (qC (qY (pda2 (Yh (CompOk.of (k:=1) JC ["_law_near_here", "_law_first", "_law_pose", "_law_poses_here", "_law_waiting", "_law_right_here", "", "_law_way", "_law_j", "_law_bend", "_law_found", "_law_k"] (qe Tq23) rfl rfl rfl (by decide +kernel)) rfl (by decide +kernel) (jR (ql.gl 2 rfl rfl) z_range (pda1 (zc QL (ql.gl 1 rfl rfl) z_len Vb (pda1 (pd_v ql 0))))) (λ_ _ _ _ _ _=>Q4) (λ_ _ _ _ _ _=>jQ hr (zr 3 (qW (by decide +kernel)) (by decide)) (zr 11 (qW (by decide +kernel)) (by decide)))) (pd_v ql 5)))))
 refine Yi K1 (q8 d_gt (zc QL (ql.gl 1 rfl rfl) z_len Vb (pda1 (pd_v ql 4))) qb (zg _)) ?_
 refine qg (M1:=[4,3]) (qkF 4 6 (ql.vis 4 rfl) (by decide) (by decide) (by decide) ql.fs.nd (ql.loc 6 rfl)) ?_
 refine qj ?_
 refine QB K1 rfl (zW (qp (pd_v ql 0) (pd_v ql 6))) (λ_=>ZQ rfl (qP (zA ql 7) (qP (zA ql 8) (qP (zA ql 9) Q3)))) (λ_=>?_)
 refine qg (M1:=[4,3]) ?_ ?_
 refine Wc 10 ?_ ?_ ?_ ?_ ?_ ?_ (qm K__law_led hr (by decide) (ql.gl 0 rfl rfl) (pda3 (jQ hr (pd_v ql 3) (pd_v ql 6)) (pd_v ql 7) (pd_v ql 9)) rfl)
 ·exact ql.fs.nd
 ·exact (ql.loc 10 rfl)
 ·rfl
 ·rfl
 ·exact .inl rfl
 ·decide
 refine qg (M1:=[4,3]) (zG (q8 (qdl hr) (pd_v ql 8) (pd_v ql 3) rfl) (qg (M1:=[4,3]) (Wa hr 3 (ql.vis 3 rfl) (by decide) (by decide) (pd_v ql 8) (pd_v ql 10)) (qj (j9 4 (ql.vis 4 rfl) (by decide) (by decide) (pd_v ql 8)))) zm) ?_
 refine qj ?_
 refine Wc 5 ?_ ?_ ?_ ?_ ?_ ?_ (Z8 (pd_v ql 5) (JV (jP (d_eq hr) (jQ hr (pd_v ql 3) (pd_v ql 8)) (pd_v ql 10) (zg _))))
 ·exact ql.fs.nd
 ·exact (ql.loc 5 rfl)
 ·rfl
 ·rfl
 ·exact .inl rfl
 ·decide
abbrev Tq24:KQ:=top 58
abbrev Y7:List Str:=["_law_poses_here", "_law_j", "_law_i"]
theorem zp:ScOk Y7 ["_law_poses_here"] ["range", "len"] (qe Tq24):=scmk (by kernel_rfl)
abbrev QT:Rho->Option Out:=(sIf (tV (ev2 (ev2 (ev2 (vr 0) (vr 2) ixD) '$' ixD) (ev2 (ev2 (vr 0) (vr 1) ixD) '$' ixD) eqD)) (sRet (evA (aC (kd (.str "clash")) (aC (vr 2) (aC (vr 1) aN))) tupD)) sN)
abbrev Qx:Rho->Option Out:=(sFor (evR (aC (vr 1) aN) Zy) (gNm 2) QT)
def jx:Rho->Option Out:=(seqO (sFor (evR (aC (evA (aC (vr 0) aN) lenD) aN) Zy) (gNm 1) Qx) (sRet (kd .none)))
def zP (ds:ae):Option Ka:=ob (jx (rho0 Y7.length ds)) outD
theorem qcA (F:Fun K "_law_clash" "_law_clash" Tq24 f fd)(m:mg "_law_clash" = some (.ref f))(b:Binds K fd ["_law_poses_here"] [])(z_range:mg "range" = none)(z_len:mg "len" = none):Known P w K mg base "_law_clash" 1 1 zP:=by
 refine ⟨f,fd,["_law_poses_here"],F.pure (k:=0) (u:=jx) (M':=[]) zp.fs rfl (λcdv A outer s H E hr G=>?_),m,F.kp,b⟩
 exact qg (M1:=[]) (jT K1 rfl (Zq (zp.gl 0 rfl rfl) z_range (pda1 (zc QL (zp.gl 1 rfl rfl) z_len Vb (pda1 (pd_v zp 0))))) (zA zp 1) (qj (jT K1 rfl (Zq (zp.gl 0 rfl rfl) z_range (pda1 (pd_v zp 1))) (zA zp 2) (qj (zG (q8 (d_eq hr) (qp (qp (pd_v zp 0) (pd_v zp 2)) qb) (qp (qp (pd_v zp 0) (pd_v zp 1)) qb) (zg _)) (qj (qC (qY (pda3 YH (pd_v zp 2) (pd_v zp 1))))) zm))))) (qj (qC JT))
abbrev Tq25:KQ:=top 59
abbrev wj:List Str:=["_law_near_here", "_law_poses_here", "_law_k", "_law_way", "_law_j", "_law_bend"]
theorem q9:ScOk wj ["_law_near_here", "_law_poses_here"] ["_law_led", "len", "range"] (qe Tq25):=scmk (by kernel_rfl)
abbrev yE:Rho->Option Out:=(sIf (tV (ev2 (evC 3 (aC (ev2 (vr 1) (vr 2) ixD) (aC (vr 3) (aC (vr 5) aN))) Qe) (ev2 (vr 1) (vr 4) ixD) neD)) (sRet (kd (.bool false))) sN)
abbrev yD:Rho->Option Out:=(sFor (evI (ev2 (vr 0) (vr 2) ixD) seqD) (unpD 3 (gsC (gNm 3) (gsC (gNm 4) (gsC (gNm 5) gsN)))) yE)
def J4:Rho->Option Out:=(seqO (sFor (evR (aC (evA (aC (vr 0) aN) lenD) aN) Zy) (gNm 2) yD) (sRet (kd (.bool true))))
def ZK (ds:ae):Option Ka:=ob (J4 (rho0 wj.length ds)) outD
theorem qcD (F:Fun K "_law_leads" "_law_leads" Tq25 f fd)(m:mg "_law_leads" = some (.ref f))(b:Binds K fd ["_law_near_here", "_law_poses_here"] [])(K__law_led:Known P w K mg base "_law_led" 3 3 Qe)(z_range:mg "range" = none)(z_len:mg "len" = none):Known P w K mg base "_law_leads" 2 4 ZK:=by
 refine ⟨f,fd,["_law_near_here", "_law_poses_here"],F.pure (k:=3) (u:=J4) (M':=[]) q9.fs rfl (λcdv A outer s H E hr G=>?_),m,F.kp,b⟩
 exact qg (M1:=[]) (jT K1 rfl (Zq (q9.gl 2 rfl rfl) z_range (pda1 (zc QL (q9.gl 1 rfl rfl) z_len Vb (pda1 (pd_v q9 0))))) (zA q9 2) (qj (QB K1 rfl (zW (qp (pd_v q9 0) (pd_v q9 2))) (λ_=>ZQ rfl (qP (zA q9 3) (qP (zA q9 4) (qP (zA q9 5) Q3)))) (λ_=>qj (zG (q8 (d_ne hr) (qm K__law_led hr (by decide) (q9.gl 0 rfl rfl) (pda3 (qp (pd_v q9 1) (pd_v q9 2)) (pd_v q9 3) (pd_v q9 5)) rfl) (qp (pd_v q9 1) (pd_v q9 4)) (zg _)) (qj (qC Jx)) zm))))) (qj (qC Jx))
abbrev Tq13:KQ:=top 60
abbrev Ym:List Str:=["_law_near_here", "_law_poses_here", "_law_pose", "_law_told"]
theorem qN:ScOk Ym ["_law_near_here", "_law_poses_here", "_law_pose"] ["isinstance", "list", "len", "_law_is_pose", "_law_leads", "_law_clash"] (qe Tq13):=scmk (by kernel_rfl)
abbrev yf:Rho->Option Out:=(sIf (tN (tV (evC 1 (aC (vr 3) aN) ZJ))) (sRet (kd (.bool false))) sN)
def Ji:Rho->Option Out:=(seqO (sIf (tO (tN (tV (ev1 (vr 1) (isiD "list")))) (tV (ev2 (evA (aC (vr 1) aN) lenD) (evA (aC (vr 0) aN) lenD) neD))) (sRet (kd (.bool false))) sN) (seqO (sFor (evI (vr 1) seqD) (gNm 3) yf) (sRet (vA (ev2 (ev2 (vr 1) '$' ixD) (vr 2) eqD) (vA (evC 2 (aC (vr 0) (aC (vr 1) aN)) ZK) (ev2 (evC 1 (aC (vr 1) aN) zP) (kd .none) isD))))))
def Zd (ds:ae):Option Ka:=ob (Ji (rho0 Ym.length ds)) outD
theorem qbA (F:Fun K "_law_folded" "_law_folded" Tq13 f fd)(m:mg "_law_folded" = some (.ref f))(b:Binds K fd ["_law_near_here", "_law_poses_here", "_law_pose"] [])(K__law_is_pose:Known P w K mg base "_law_is_pose" 1 3 ZJ)(K__law_leads:Known P w K mg base "_law_leads" 2 4 ZK)(K__law_clash:Known P w K mg base "_law_clash" 1 1 zP)(z_isinstance:mg "isinstance" = none)(z_list:mg "list" = none)(z_len:mg "len" = none):Known P w K mg base "_law_folded" 3 5 Zd:=by
 refine ⟨f,fd,["_law_near_here", "_law_poses_here", "_law_pose"],F.pure (k:=4) (u:=Ji) (M':=[]) qN.fs rfl (λcdv A outer s H E hr G=>?_),m,F.kp,b⟩
 exact qg (M1:=[]) (zG (PDW.pdt (yL (Zi (ZR (Je (T := "list") (qdP _) (qN.gl 0 rfl rfl) z_isinstance (qN.gl 1 rfl rfl) z_list rfl rfl (pd_v qN 1)))) (Ja (q8 (d_ne hr) (zc QL (qN.gl 2 rfl rfl) z_len Vb (pda1 (pd_v qN 1))) (zc QL (qN.gl 2 rfl rfl) z_len Vb (pda1 (pd_v qN 0))) (zg _))))) (qj (qC Jx)) zm) (qg (M1:=[]) (QB K1 rfl (zW (pd_v qN 1)) (λ_=>zA qN 3) (λ_=>qj (zG (Zi (ZR (qm K__law_is_pose hr (by decide) (qN.gl 3 rfl rfl) (pda1 (pd_v qN 3)) rfl))) (qj (qC Jx)) zm))) (qj (qC (Z8 (jP (d_eq hr) (qp (pd_v qN 1) qb) (pd_v qN 2) (zg _)) (Z8 (qm K__law_leads hr (by decide) (qN.gl 4 rfl rfl) (pda2 (pd_v qN 0) (pd_v qN 1)) rfl) (JV (jP d_is (qm K__law_clash hr (by decide) (qN.gl 5 rfl rfl) (pda1 (pd_v qN 1)) rfl) JT (zg _))))))))
abbrev Tq33:KQ:=top 61
abbrev W0:List Str:=["_law_near_here", "_law_numbers", "_law_k", "_law_pose", "_law_found"]
theorem qJ:ScOk W0 ["_law_near_here", "_law_numbers"] ["isinstance", "list", "len", "_law_whole", "_law_walked", "tuple"] (qe Tq33):=scmk (by kernel_rfl)
abbrev Yp:Rho->Option Out:=(sIf (tO (tN (tV (evC 1 (aC (vr 2) aN) zQ))) (tN (tV (evCh '$' (vr 2) (evA (aC (vr 0) aN) lenD) leD ltD2)))) (sRet (kd (.bool false))) sN)
abbrev qbw:Rho->Option Out:=(seqO (sSet 4 (evC 3 (aC (vr 0) (aC (ev2 (vr 1) (evS (vr 1) oN (oS '%')) Qk) (aC (vr 3) aN))) Qa)) (sIf (tO (tN (tV (ev1 (vr 4) (isiD "tuple")))) (tV (ev2 (vr 4) (vr 3) eqD))) (sRet (kd (.bool false))) sN))
def yR:Rho->Option Out:=(seqO (sIf (tO (tN (tV (ev1 (vr 1) (isiD "list")))) (tV (ev2 (evA (aC (vr 1) aN) lenD) '$' eqD))) (sRet (kd (.bool false))) sN) (seqO (sFor (evI (vr 1) seqD) (gNm 2) Yp) (seqO (sFor (evI (evA (aC (evA (aC (evA (aC '%' (aC '%' (aC '$' aN))) tupD) (aC (evA (aC '%' (aC '$' (aC '$' aN))) tupD) (aC (evA (aC '$' (aC '%' (aC '$' aN))) tupD) aN))) tupD) (aC (evA (aC (evA (aC (kd (.int 3)) (aC '$' (aC (ev1 '%' negD) aN))) tupD) (aC (evA (aC '$' (aC '$' (aC '%' aN))) tupD) (aC (evA (aC (ev1 '%' negD) (aC '$' (aC '$' aN))) tupD) aN))) tupD) aN)) lstD) seqD) (gNm 3) qbw) (sRet (kd (.bool true))))))
def jj (ds:ae):Option Ka:=ob (yR (rho0 W0.length ds)) outD
theorem qdJ (F:Fun K "_law_ring" "_law_ring" Tq33 f fd)(m:mg "_law_ring" = some (.ref f))(b:Binds K fd ["_law_near_here", "_law_numbers"] [])(K__law_whole:Known P w K mg base "_law_whole" 1 1 zQ)(K__law_walked:Known P w K mg base "_law_walked" 3 4 Qa)(z_isinstance:mg "isinstance" = none)(z_list:mg "list" = none)(z_len:mg "len" = none)(z_tuple:mg "tuple" = none):Known P w K mg base "_law_ring" 2 5 jj:=by
 refine ⟨f,fd,["_law_near_here", "_law_numbers"],F.pure (k:=4) (u:=yR) (M':=[]) qJ.fs rfl (λcdv A outer s H E hr G=>?_),m,F.kp,b⟩
 refine qg (M1:=[]) (zG (PDW.pdt (yL (Zi (ZR (Je (T := "list") (qdP _) (qJ.gl 0 rfl rfl) z_isinstance (qJ.gl 1 rfl rfl) z_list rfl rfl (pd_v qJ 1)))) (Ja (q8 (d_eq hr) (zc QL (qJ.gl 2 rfl rfl) z_len Vb (pda1 (pd_v qJ 1))) qb (zg _))))) (qj (qC Jx)) zm) ?_
 refine qg (M1:=[]) (QB K1 rfl (zW (pd_v qJ 1)) (λ_=>zA qJ 2) (λ_=>qj (zG (PDW.pdt (yL (Zi (ZR (qm K__law_whole hr (by decide) (qJ.gl 3 rfl rfl) (pda1 (pd_v qJ 2)) rfl))) (Ja (Zi (qg3 d_le (qfr hr) qb (pd_v qJ 2) (zc QL (qJ.gl 2 rfl rfl) z_len Vb (pda1 (pd_v qJ 0)))))))) (qj (qC Jx)) zm))) ?_
 refine qg (M1:=[]) ?_ (qj (qC Jx))
 refine QB K1 rfl ?_ (λ_=>zA qJ 3) (λ_=>?_)
 refine zW ?_
 refine qbb ?_
 refine pda2 ?_ ?_
 exact qY (pda3 (qY (pda3 qb qb qb)) (qY (pda3 qb qb qb)) (qY (pda3 qb qb qb)))
 exact qY (pda3 (qY (pda3 qb qb (Jy Jt qb))) (qY (pda3 qb qb qb)) (qY (pda3 (Jy Jt qb) qb qb)))
 refine qg (M1:=[]) ?_ (qj (zG (PDW.pdt (yL (Zi (ZR (Je (T := "tuple") (kit_tuple _) (qJ.gl 0 rfl rfl) z_isinstance (qJ.gl 5 rfl rfl) z_tuple rfl rfl (pd_v qJ 4)))) (Ja (q8 (d_eq hr) (pd_v qJ 4) (pd_v qJ 3) (zg _))))) (qj (qC Jx)) zm))
 refine za 4 ?_ ?_ ?_ ?_ ?_ ?_ (qm K__law_walked hr (by decide) (qJ.gl 4 rfl rfl) (pda3 (pd_v qJ 0) (qG zZ (pd_v qJ 1) (qbc (pd_v qJ 1) qbd (qbe qb))) (pd_v qJ 3)) rfl)
 ·exact qJ.fs.nd
 ·exact (qJ.loc 4 rfl)
 ·rfl
 ·rfl
 ·exact .inl rfl
 ·decide
abbrev Tq26:KQ:=top 62
abbrev wz:List Str:=["_law_near_here", "_law_found", "_law_pose", "_law_poses_here", "_law_fits", "_law_clash_here"]
theorem qu:ScOk wz ["_law_near_here", "_law_found"] ["isinstance", "tuple", "len", "_law_poses", "_law_ring", "_law_clash", "_law_whole", "_law_folded"] (qe Tq26):=scmk (by kernel_rfl)
def ZW:Rho->Option Out:=(seqO (sSet 2 (evA (aC (evA (aC '%' (aC '%' (aC '$' aN))) tupD) (aC (evA (aC '%' (aC '$' (aC '$' aN))) tupD) (aC (evA (aC '$' (aC '%' (aC '$' aN))) tupD) aN))) tupD)) (seqO (sIf (tO (tN (tV (ev1 (vr 1) (isiD "tuple")))) (tV (ev2 (evA (aC (vr 1) aN) lenD) (kd (.int 2)) ltD2))) (sRet (kd (.bool false))) sN) (seqO (sAsg (evC 3 (aC (vr 0) (aC '$' (aC (vr 2) aN))) Za) (unpD 2 (gsC (gNm 3) (gsC (gNm 4) gsN)))) (seqO (sIf (tN (tV (vr 4))) (sRet (vA (ev2 (evA (aC (vr 1) aN) lenD) (kd (.int 2)) eqD) (vA (ev2 (ev2 (vr 1) '$' ixD) (kd (.str "ring")) eqD) (evC 2 (aC (vr 0) (aC (ev2 (vr 1) '%' ixD) aN)) jj)))) sN) (seqO (sSet 5 (evC 1 (aC (vr 3) aN) zP)) (seqO (sIf (tV (ev2 (vr 5) (kd .none) isnD)) (sRet (vA (ev2 (vr 1) (vr 5) eqD) (vA (evC 1 (aC (ev2 (vr 1) '%' ixD) aN) zQ) (evC 1 (aC (ev2 (vr 1) (kd (.int 2)) ixD) aN) zQ)))) sN) (sRet (vA (ev2 (evA (aC (vr 1) aN) lenD) (kd (.int 2)) eqD) (vA (ev2 (ev2 (vr 1) '$' ixD) (kd (.str "folded")) eqD) (evC 3 (aC (vr 0) (aC (ev2 (vr 1) '%' ixD) (aC (vr 2) aN))) Zd))))))))))
def Qo (ds:ae):Option Ka:=ob (ZW (rho0 wz.length ds)) outD
theorem qcH (F:Fun K "_law_right" "_law_right" Tq26 f fd)(m:mg "_law_right" = some (.ref f))(b:Binds K fd ["_law_near_here", "_law_found"] [])(K__law_poses:Known P w K mg base "_law_poses" 3 4 Za)(K__law_ring:Known P w K mg base "_law_ring" 2 5 jj)(K__law_clash:Known P w K mg base "_law_clash" 1 1 zP)(K__law_whole:Known P w K mg base "_law_whole" 1 1 zQ)(K__law_folded:Known P w K mg base "_law_folded" 3 5 Zd)(z_isinstance:mg "isinstance" = none)(z_tuple:mg "tuple" = none)(z_len:mg "len" = none):Known P w K mg base "_law_right" 2 6 Qo:=by
 refine ⟨f,fd,["_law_near_here", "_law_found"],F.pure (k:=5) (u:=ZW) (M':=[]) qu.fs rfl (λcdv A outer s H E hr G=>?_),m,F.kp,b⟩
 refine qg (M1:=[]) ?_ ?_
 refine za 2 ?_ ?_ ?_ ?_ ?_ ?_ ?_
 ·exact qu.fs.nd
 ·exact (qu.loc 2 rfl)
 ·rfl
 ·rfl
 ·exact .inl rfl
 ·decide
 exact qY (pda3 (qY (pda3 qb qb qb)) (qY (pda3 qb qb qb)) (qY (pda3 qb qb qb)))
 refine qg (M1:=[]) (zG (PDW.pdt (yL (Zi (ZR (Je (T := "tuple") (kit_tuple _) (qu.gl 0 rfl rfl) z_isinstance (qu.gl 1 rfl rfl) z_tuple rfl rfl (pd_v qu 1)))) (Ja (q8 (qfr hr) (zc QL (qu.gl 2 rfl rfl) z_len Vb (pda1 (pd_v qu 1))) qb (zg _))))) (qj (qC Jx)) zm) ?_
 refine qg (M1:=[]) (qan (qm K__law_poses hr (by decide) (qu.gl 3 rfl rfl) (pda3 (pd_v qu 0) qb (pd_v qu 2)) rfl) (ZQ rfl (qP (zA qu 3) (qP (zA qu 4) Q3)))) ?_
 refine qg (M1:=[]) (zG (Zi (ZR (pd_v qu 4))) (qj (qC (Z8 (jP (d_eq hr) (zc QL (qu.gl 2 rfl rfl) z_len Vb (pda1 (pd_v qu 1))) qb (zg _)) (Z8 (jP (d_eq hr) (qp (pd_v qu 1) qb) YH (zg _)) (JV (qm K__law_ring hr (by decide) (qu.gl 4 rfl rfl) (pda2 (pd_v qu 0) (qp (pd_v qu 1) qb)) rfl)))))) zm) ?_
 refine qg (M1:=[]) ?_ (qg (M1:=[]) (zG (q8 qlo (pd_v qu 5) JT (zg _)) (qj (qC (Z8 (jP (d_eq hr) (pd_v qu 1) (pd_v qu 5) (zg _)) (Z8 (qm K__law_whole hr (by decide) (qu.gl 6 rfl rfl) (pda1 (qp (pd_v qu 1) qb)) rfl) (JV (qm K__law_whole hr (by decide) (qu.gl 6 rfl rfl) (pda1 (qp (pd_v qu 1) qb)) rfl)))))) zm) (qj (qC (Z8 (jP (d_eq hr) (zc QL (qu.gl 2 rfl rfl) z_len Vb (pda1 (pd_v qu 1))) qb (zg _)) (Z8 (jP (d_eq hr) (qp (pd_v qu 1) qb) YH (zg _)) (JV (qm K__law_folded hr (by decide) (qu.gl 7 rfl rfl) (pda3 (pd_v qu 0) (qp (pd_v qu 1) qb) (pd_v qu 2)) rfl)))))))
 refine za 5 ?_ ?_ ?_ ?_ ?_ ?_ (qm K__law_clash hr (by decide) (qu.gl 5 rfl rfl) (pda1 (pd_v qu 3)) rfl)
 ·exact qu.fs.nd
 ·exact (qu.loc 5 rfl)
 ·rfl
 ·rfl
 ·exact .inl rfl
 ·decide
abbrev Tq9:KQ:=(clsB (top 22)).getD 1 (.Pass ⟨0,0,0,0⟩)
abbrev yr:List Str:=["self", "unit", "out"]
theorem ym:ScOk yr ["self", "unit", "out"] [] (qe Tq9):=scmk (by kernel_rfl)
def jX:Rho->Option Out:=(sRet (vr 1))
def ZF (ds:ae):Option Ka:=ob (jX (rho0 yr.length ds)) outD
theorem qaQ (F:Fun K "goes_on" "Join.goes_on" Tq9 f fd):FnOk P w K mg base CX0 1 f fd ["self", "unit", "out"] (spF K 3 ZF):=by
 refine F.pure (k:=0) (u:=jX) (M':=[]) ym.fs rfl (λcdv A outer s H E hr G=>?_)
 exact qj (qC (pd_v ym 1))
abbrev Tq27:KQ:=(clsB (top 23)).getD 1 (.Pass ⟨0,0,0,0⟩)
abbrev Y6:List Str:=["self", "unit", "out"]
theorem Y4:ScOk Y6 ["self", "unit", "out"] [] (qe Tq27):=scmk (by kernel_rfl)
def JZ:Rho->Option Out:=(sRet (vr 2))
def ju (ds:ae):Option Ka:=ob (JZ (rho0 Y6.length ds)) outD
theorem qcz (F:Fun K "goes_on" "Up.goes_on" Tq27 f fd):FnOk P w K mg base CX0 1 f fd ["self", "unit", "out"] (spF K 3 ju):=by
 refine F.pure (k:=0) (u:=JZ) (M':=[]) Y4.fs rfl (λcdv A outer s H E hr G=>?_)
 exact qj (qC (pd_v Y4 2))
abbrev Tq10:KQ:=(clsB (top 24)).getD 1 (.Pass ⟨0,0,0,0⟩)
abbrev yq:List Str:=["self", "unit", "out"]
theorem jC:ScOk yq ["self", "unit", "out"] ["negated"] (qe Tq10):=scmk (by kernel_rfl)
def jW:Rho->Option Out:=(sRet (evC 1 (aC (vr 2) aN) Zv))
def ZD (ds:ae):Option Ka:=ob (jW (rho0 yq.length ds)) outD
theorem qaP (F:Fun K "goes_on" "Down.goes_on" Tq10 f fd)(K_negated:Known P w K mg base "negated" 1 1 Zv):FnOk P w K mg base CX0 2 f fd ["self", "unit", "out"] (spF K 3 ZD):=by
 refine F.pure (k:=1) (u:=jW) (M':=[]) jC.fs rfl (λcdv A outer s H E hr G=>?_)
 exact qj (qC (qm K_negated hr (by decide) (jC.gl 0 rfl rfl) (pda1 (pd_v jC 2)) rfl))
def Qh:List (Str×(List Ka->Option Ka)):=[("Join", ZF),("Up", ju),("Down", ZD)]
abbrev Tq40:KQ:=(clsB (top 22)).getD 2 (.Pass ⟨0,0,0,0⟩)
abbrev qas:List Str:=["self", "pose", "way", "unit", "out", "edge", "beyond", "turn"]
theorem qy:ScOk qas ["self", "pose", "way"] ["unit_of", "out_of", "cross", "turn_back", "joined_turns", "turned", "added"] (qe Tq40):=scmk (by kernel_rfl)
def YQ:Rho->Option Out:=(seqO (sSet 3 (evC 2 (aC (vr 1) (aC (vr 2) aN)) Jv)) (seqO (sSet 4 (evC 1 (aC (vr 1) aN) yK)) (seqO (sSet 5 (evC 2 (aC (vr 3) (aC (vr 4) aN)) jw)) (seqO (sSet 6 (evC 3 (aC (vr 0) (aC (vr 3) (aC (vr 4) aN))) (mtD Qh))) (seqO (sSet 7 (evC 2 (aC (evC 1 (aC (evA (aC (vr 3) (aC (vr 4) (aC (vr 5) aN))) tupD) aN) jm) (aC (evA (aC (vr 6) (aC (evC 2 (aC (vr 5) (aC (vr 6) aN)) jw) (aC (vr 5) aN))) tupD) aN)) QW)) (sRet (evA (aC (evC 2 (aC (evC 2 (aC (ev2 (vr 1) '$' ixD) (aC (vr 3) aN)) Yb) (aC (vr 6) aN)) Yb) (aC (evC 2 (aC (vr 7) (aC (ev2 (vr 1) '%' ixD) aN)) Zf) (aC (evC 2 (aC (vr 7) (aC (ev2 (vr 1) (kd (.int 2)) ixD) aN)) Zf) aN))) tupD)))))))
def Zo (ds:ae):Option Ka:=ob (YQ (rho0 qas.length ds)) outD
theorem Yz (F:Fun K "led" "Join.led" Tq40 f fd)(K_unit_of:Known P w K mg base "unit_of" 2 2 Jv)(K_out_of:Known P w K mg base "out_of" 1 2 yK)(K_cross:Known P w K mg base "cross" 2 1 jw)(K_joined_turns:Known P w K mg base "joined_turns" 2 2 QW)(K_turn_back:Known P w K mg base "turn_back" 1 1 jm)(K_turned:Known P w K mg base "turned" 2 1 Zf)(K_added:Known P w K mg base "added" 2 1 Yb)(M_goes_on:KnownC P w K mg base "goes_on" 3 2 Qh):FnOk P w K mg base CX0 3 f fd ["self", "pose", "way"] (spF K 3 Zo):=by
 refine F.pure (k:=2) (u:=YQ) (M':=[]) qy.fs rfl (λcdv A outer s H E hr G=>?_)
 refine qg (M1:=[]) ?_ ?_
 refine za 3 ?_ ?_ ?_ ?_ ?_ ?_ (qm K_unit_of hr (by decide) (qy.gl 0 rfl rfl) (pda2 (pd_v qy 1) (pd_v qy 2)) rfl)
 ·exact qy.fs.nd
 ·exact (qy.loc 3 rfl)
 ·rfl
 ·rfl
 ·exact .inl rfl
 ·decide
 refine qg (M1:=[]) ?_ ?_
 refine za 4 ?_ ?_ ?_ ?_ ?_ ?_ (qm K_out_of hr (by decide) (qy.gl 1 rfl rfl) (pda1 (pd_v qy 1)) rfl)
 ·exact qy.fs.nd
 ·exact (qy.loc 4 rfl)
 ·rfl
 ·rfl
 ·exact .inl rfl
 ·decide
 refine qg (M1:=[]) ?_ ?_
 refine za 5 ?_ ?_ ?_ ?_ ?_ ?_ (qm K_cross hr (by decide) (qy.gl 2 rfl rfl) (pda2 (pd_v qy 3) (pd_v qy 4)) rfl)
 ·exact qy.fs.nd
 ·exact (qy.loc 5 rfl)
 ·rfl
 ·rfl
 ·exact .inl rfl
 ·decide
 refine qg (M1:=[]) ?_ ?_
 refine za 6 ?_ ?_ ?_ ?_ ?_ ?_ (qiu M_goes_on hr (by decide) (pd_v qy 0) (pda2 (pd_v qy 3) (pd_v qy 4)))
 ·exact qy.fs.nd
 ·exact (qy.loc 6 rfl)
 ·rfl
 ·rfl
 ·exact .inl rfl
 ·decide
 refine qg (M1:=[]) ?_ (qj (qC (qY (pda3 (qm K_added hr (by decide) (qy.gl 6 rfl rfl) (pda2 (qm K_added hr (by decide) (qy.gl 6 rfl rfl) (pda2 (qp (pd_v qy 1) qb) (pd_v qy 3)) rfl) (pd_v qy 6)) rfl) (qm K_turned hr (by decide) (qy.gl 5 rfl rfl) (pda2 (pd_v qy 7) (qp (pd_v qy 1) qb)) rfl) (qm K_turned hr (by decide) (qy.gl 5 rfl rfl) (pda2 (pd_v qy 7) (qp (pd_v qy 1) qb)) rfl)))))
 refine za 7 ?_ ?_ ?_ ?_ ?_ ?_ ?_
 ·exact qy.fs.nd
 ·exact (qy.loc 7 rfl)
 ·rfl
 ·rfl
 ·exact .inl rfl
 ·decide
 exact qm K_joined_turns hr (by decide) (qy.gl 4 rfl rfl) (pda2 (qm K_turn_back hr (by decide) (qy.gl 3 rfl rfl) (pda1 (qY (pda3 (pd_v qy 3) (pd_v qy 4) (pd_v qy 5)))) rfl) (qY (pda3 (pd_v qy 6) (qm K_cross hr (by decide) (qy.gl 2 rfl rfl) (pda2 (pd_v qy 5) (pd_v qy 6)) rfl) (pd_v qy 5)))) rfl
def qa4:List (Str×(List Ka->Option Ka)):=[("Join", Zo),("Up", Zo),("Down", Zo)]
abbrev Tq47:KQ:=top 34
abbrev qdb:List Str:=["step", "pose"]
theorem yo:ScOk qdb ["step", "pose"] ["join_of"] (qe Tq47):=scmk (by kernel_rfl)
def qbs:Rho->Option Out:=(sRet (evC 3 (aC (evC 1 (aC (ev2 (vr 0) '%' ixD) aN) Yc) (aC (vr 1) (aC (ev2 (vr 0) '$' ixD) aN))) (mtD qa4)))
def ZM (ds:ae):Option Ka:=ob (qbs (rho0 qdb.length ds)) outD
theorem qhY (F:Fun K "led_by" "led_by" Tq47 f fd)(m:mg "led_by" = some (.ref f))(b:Binds K fd ["step", "pose"] [])(K_join_of:Known P w K mg base "join_of" 1 3 Yc)(M_led:KnownC P w K mg base "led" 3 3 qa4):Known P w K mg base "led_by" 2 4 ZM:=by
 refine ⟨f,fd,["step", "pose"],F.pure (k:=3) (u:=qbs) (M':=[]) yo.fs rfl (λcdv A outer s H E hr G=>?_),m,F.kp,b⟩
 exact qj (qC (qiu M_led hr (by decide) (qm K_join_of hr (by decide) (yo.gl 0 rfl rfl) (pda1 (qp (pd_v yo 0) qb)) rfl) (pda2 (pd_v yo 1) (qp (pd_v yo 0) qb))))
abbrev Tq14:KQ:=top 36
abbrev Yn:List Str:=["steps", "origins", "pose", "poses", "k", "origin"]
theorem qZ:ScOk Yn ["steps", "origins", "pose"] ["led_by"] (qe Tq14):=scmk (by kernel_rfl)
abbrev yg:Rho->Option Out:=(Wi 3 (vr 4) (Yr (vIf (tV (ev2 (vr 5) (kd .none) isD)) (vr 2) (evC 2 (aC (ev2 (vr 0) (evA (aC (vr 5) (aC (vr 4) aN)) tupD) ix2D) (aC (ev2 (vr 3) (vr 5) ix2D) aN)) ZM))))
def Jl:Rho->Option Out:=(seqO (Q5 3 (kd (.dict []))) (seqO (sFor (evI (vr 1) qeA) (unpD 2 (gsC (gNm 4) (gsC (gNm 5) gsN))) yg) (sRet (vr 3))))
def QG (ds:ae):Option Ka:=ob (Jl (rho0 Yn.length ds)) outD
theorem qbD (F:Fun K "poses_along" "poses_along" Tq14 f fd)(m:mg "poses_along" = some (.ref f))(b:Binds K fd ["steps", "origins", "pose"] [])(K_led_by:Known P w K mg base "led_by" 2 4 ZM):Known P w K mg base "poses_along" 3 5 QG:=by
 refine ⟨f,fd,["steps", "origins", "pose"],F.pure (k:=4) (u:=Jl) (M':=[]) qZ.fs rfl (λcdv A outer s H E hr G=>?_),m,F.kp,b⟩
 refine qg (M1:=[3]) ?_ (qg (M1:=[3]) (QB K1 rfl (qgU (pd_v qZ 1)) (λ_=>ZQ rfl (qP (zA qZ 4) (qP (zA qZ 5) Q3))) (λ_=>qj (qgX hr 3 (qZ.vis 3 rfl) (by decide) (by decide) (pd_v qZ 4) (qba (q8 d_is (pd_v qZ 5) JT (zg _)) (pd_v qZ 2) (qm K_led_by hr (by decide) (qZ.gl 0 rfl rfl) (pda2 (jQ hr (pd_v qZ 0) (qY (pda2 (pd_v qZ 5) (pd_v qZ 4)))) (jQ hr (pd_v qZ 3) (pd_v qZ 5))) rfl))))) (qj (qC (pd_v qZ 3))))
 refine Qi 3 ?_ ?_ ?_ ?_ ?_ ?_ ?_ qbj
 ·exact qZ.fs.nd
 ·exact (qZ.loc 3 rfl)
 ·rfl
 ·rfl
 ·exact .inl rfl
 ·decide
 ·decide
abbrev Tq48:KQ:=top 35
abbrev wC:List Str:=["sheet", "first", "pose", "steps", "origins", "poses", "join"]
theorem qK:ScOk wC ["sheet", "first", "pose"] ["steps_of", "len", "links_of", "reached_from", "START", "poses_along", "led_by", "path_between", "range", "clash_or_folded"] (qe Tq48):=scmk (by kernel_rfl)
abbrev Zn:Rho->Option Out:=(sIf (tV (ev2 (evC 2 (aC (ev2 (vr 3) (evA (aC (ev2 (vr 6) '$' ixD) (aC (ev2 (vr 6) '%' ixD) aN)) tupD) ix2D) (aC (ev2 (vr 5) (ev2 (vr 6) '$' ixD) ix2D) aN)) ZM) (ev2 (vr 5) (ev2 (vr 6) '%' ixD) ix2D) neD)) (sRet (evA (vF (kd (.str "ring")) (vC (evC 3 (aC (vr 4) (aC (ev2 (vr 6) '$' ixD) (aC (ev2 (vr 6) '%' ixD) aN))) QX) aN)) tupD)) sN)
def Wn:Rho->Option Out:=(seqO (sSet 3 (evC 1 (aC (vr 0) aN) Z4)) (seqO (sSet 4 (evC 2 (aC (vr 1) (aC (evC 2 (aC (evA (aC (ev2 (vr 0) '$' ixD) aN) lenD) (aC (ev2 (vr 0) '%' ixD) aN)) Z3) aN)) Qy)) (seqO (sSet 5 (evC 3 (aC (vr 3) (aC (vr 4) (aC (vIf (tV (ev2 (vr 2) (kd .none) isD)) (kd wL) (vr 2)) aN))) QG)) (seqO (sFor (evI (ev2 (vr 0) '%' ixD) seqD) (gNm 6) Zn) (sRet (evC 1 (aC (jJ 7 (evR (aC (evA (aC (ev2 (vr 0) '$' ixD) aN) lenD) aN) Zy) tT (ev2 (vr 5) (vr 7) ix2D)) aN) zJ))))))
def QV (ds:ae):Option Ka:=ob (Wn (rho0 wC.length ds)) outF
theorem qiq (F:FunG K "folded" "folded" Tq48 f fd)(K_steps_of:Known P w K mg base "steps_of" 1 3 Z4)(K_reached_from:Known P w K mg base "reached_from" 2 1 Qy)(K_links_of:Known P w K mg base "links_of" 2 1 Z3)(K_poses_along:Known P w K mg base "poses_along" 3 5 QG)(K_led_by:Known P w K mg base "led_by" 2 4 ZM)(K_path_between:KnownN P w K mg base "path_between" 3 2 QX)(K_clash_or_folded:KnownV P w K mg base "clash_or_folded" 1 2 0 zJ)(z_len:mg "len" = none)(z_range:mg "range" = none)(C_START:qar K mg "START" wL):FnOk P w K mg base CX0 6 f fd ["sheet", "first", "pose"] (spD K 3 QV):=by
 refine F.deep (k:=5) (u:=Wn) (M':=[]) qK.fs rfl (λcdv A outer s H E hr G=>?_)
 refine qg (M1:=[]) ?_ ?_
 refine za 3 ?_ ?_ ?_ ?_ ?_ ?_ (qm K_steps_of hr (by decide) (qK.gl 0 rfl rfl) (pda1 (pd_v qK 0)) rfl)
 ·exact qK.fs.nd
 ·exact (qK.loc 3 rfl)
 ·rfl
 ·rfl
 ·exact .inl rfl
 ·decide
 refine qg (M1:=[]) ?_ ?_
 refine za 4 ?_ ?_ ?_ ?_ ?_ ?_ (qm K_reached_from hr (by decide) (qK.gl 3 rfl rfl) (pda2 (pd_v qK 1) (qm K_links_of hr (by decide) (qK.gl 2 rfl rfl) (pda2 (zc QL (qK.gl 1 rfl rfl) z_len Vb (pda1 (qp (pd_v qK 0) qb))) (qp (pd_v qK 0) qb)) rfl)) rfl)
 ·exact qK.fs.nd
 ·exact (qK.loc 4 rfl)
 ·rfl
 ·rfl
 ·exact .inl rfl
 ·decide
 refine qg (M1:=[]) ?_ (qg (M1:=[]) (QB K1 rfl (zW (qp (pd_v qK 0) qb)) (λ_=>zA qK 6) (λ_=>qj (zG (q8 (d_ne hr) (qm K_led_by hr (by decide) (qK.gl 6 rfl rfl) (pda2 (jQ hr (pd_v qK 3) (qY (pda2 (qp (pd_v qK 6) qb) (qp (pd_v qK 6) qb)))) (jQ hr (pd_v qK 5) (qp (pd_v qK 6) qb))) rfl) (jQ hr (pd_v qK 5) (qp (pd_v qK 6) qb)) (zg _)) (qj (qbf (qiZ (Wd YH (qkM (qbk K_path_between hr (by decide) (qK.gl 7 rfl rfl) (pda3 (pd_v qK 4) (qp (pd_v qK 6) qb) (qp (pd_v qK 6) qb)) rfl) qf5))))) zm))) (qj (qbf (qeX K_clash_or_folded hr (by decide) (qK.gl 9 rfl rfl) (qkK (CompOk.of (k:=1) wC ["sheet", "first", "pose", "steps", "origins", "poses", "join", "k"] (qe Tq48) rfl rfl rfl (by decide +kernel)) rfl (by decide +kernel) (jR (qK.gl 8 rfl rfl) z_range (pda1 (zc QL (qK.gl 1 rfl rfl) z_len Vb (pda1 (qp (pd_v qK 0) qb))))) (λ_ _ _ _ _ _=>Q4) (λ_ _ _ _ _ _=>jQ hr (zr 5 (qW (by decide +kernel)) (by decide)) (zr 7 (qW (by decide +kernel)) (by decide))))))))
 refine za 5 ?_ ?_ ?_ ?_ ?_ ?_ (qm K_poses_along hr (by decide) (qK.gl 5 rfl rfl) (pda3 (pd_v qK 3) (pd_v qK 4) (qba (q8 d_is (pd_v qK 2) JT (zg _)) (qd3 C_START (qK.gl 4 rfl rfl)) (pd_v qK 2))) rfl)
 ·exact qK.fs.nd
 ·exact (qK.loc 5 rfl)
 ·rfl
 ·rfl
 ·exact .inl rfl
 ·decide
abbrev Tq51:KQ:=top 63
abbrev qhg:List Str:=["_law_script", "_law_bends", "_law_cells", "_law_joins", "_law_sheet_here", "_law_near_here", "_law_handed", "_law_found"]
theorem zH:ScOk qhg ["_law_script"] ["_law_cell", "_law_grown", "_law_sheet", "_law_near", "list", "folded", "_law_right"] (qe Tq51):=scmk (by kernel_rfl)
def qjl:Rho->Option Out:=(seqO (sSet 1 (ev2 (evA (aC (evA (aC '$' (aC '$' (aC '$' (aC '$' (aC '%' (aC (ev1 '%' negD) aN)))))) lstD) (aC (evA (aC '%' (aC '$' (aC '%' aN))) lstD) (aC (evA (aC '$' (aC '%' (aC (ev1 '%' negD) aN))) lstD) aN))) lstD) (ev2 (evC 2 (aC (vr 0) (aC (kd (.int 2)) aN)) zu) (kd (.int 3)) modD) ixD)) (seqO (sAsg (evC 4 (aC (vr 0) (aC (kd (.int 3)) (aC (kd (.int 26)) (aC (vr 1) aN)))) ZG) (unpD 2 (gsC (gNm 2) (gsC (gNm 3) gsN)))) (seqO (sSet 4 (evC 2 (aC (vr 2) (aC (vr 3) aN)) ZL)) (seqO (sSet 5 (evC 1 (aC (vr 4) aN) ji)) (seqO (sSet 6 (evA (aC (evA (aC (ev2 (vr 4) '$' ixD) aN) W9) (aC (evA (aC (ev2 (vr 4) '%' ixD) aN) W9) aN)) tupD)) (seqO (JW 7 (evC 1 (aC (vr 6) aN) (dfl QV [(.int (0)),.none]))) (seqO (sIf (tN (tV (evC 2 (aC (vr 5) (aC (vr 7) aN)) Qo))) (sRet (kd (.bool false))) sN) (seqO (sIf (tV (ev2 (ev2 (vr 7) '$' ixD) (kd (.str "clash")) neD)) (qgd 7 '%') sN) (sRet (vA (evC 2 (aC (vr 5) (aC (evC 1 (aC (vr 6) aN) (dfl QV [(.int (0)),.none])) aN)) Qo) (ev2 (vr 6) (vr 4) eqD)))))))))))
def qhI (ds:ae):Option Ka:=ob (qjl (rho0 qhg.length ds)) outD
theorem qmz (F:Fun K "law" "law" Tq51 f fd)(K__law_cell:Known P w K mg base "_law_cell" 2 1 zu)(K__law_grown:Known P w K mg base "_law_grown" 4 3 ZG)(K__law_sheet:Known P w K mg base "_law_sheet" 2 1 ZL)(K__law_near:Known P w K mg base "_law_near" 1 1 ji)(K_folded:KnownD P w K mg base "folded" 3 6 QV)(K__law_right:Known P w K mg base "_law_right" 2 6 Qo)(X_folded_2:KnownDX P w K mg base "folded" 3 6 QV [(.int (0)),.none])(z_list:mg "list" = none):FnOk P w K mg base CX0 7 f fd ["_law_script"] (spF K 1 qhI):=by
 refine F.pure (k:=6) (u:=qjl) (M':=[]) zH.fs rfl (λcdv A outer s H E hr G=>?_)
 refine qg (M1:=[]) ?_ ?_
 refine za 1 ?_ ?_ ?_ ?_ ?_ ?_ (qp (qbb (pda3 (qbb (qT qb (qT qb (qT qb (qT qb (qT qb (qT (Jy Jt qb) zV))))))) (qbb (pda3 qb qb qb)) (qbb (pda3 qb qb (Jy Jt qb))))) (qG ZX (qm K__law_cell hr (by decide) (zH.gl 0 rfl rfl) (pda2 (pd_v zH 0) qb) rfl) qb))
 ·exact zH.fs.nd
 ·exact (zH.loc 1 rfl)
 ·rfl
 ·rfl
 ·exact .inl rfl
 ·decide
 refine qg (M1:=[]) (qan (qm K__law_grown hr (by decide) (zH.gl 1 rfl rfl) (qT (pd_v zH 0) (qT qb (qT qb (qT (pd_v zH 1) zV)))) rfl) (ZQ rfl (qP (zA zH 2) (qP (zA zH 3) Q3)))) ?_
 refine qg (M1:=[]) ?_ ?_
 refine za 4 ?_ ?_ ?_ ?_ ?_ ?_ (qm K__law_sheet hr (by decide) (zH.gl 2 rfl rfl) (pda2 (pd_v zH 2) (pd_v zH 3)) rfl)
 ·exact zH.fs.nd
 ·exact (zH.loc 4 rfl)
 ·rfl
 ·rfl
 ·exact .inl rfl
 ·decide
 refine qg (M1:=[]) ?_ ?_
 refine za 5 ?_ ?_ ?_ ?_ ?_ ?_ (qm K__law_near hr (by decide) (zH.gl 3 rfl rfl) (pda1 (pd_v zH 4)) rfl)
 ·exact zH.fs.nd
 ·exact (zH.loc 5 rfl)
 ·rfl
 ·rfl
 ·exact .inl rfl
 ·decide
 refine qg (M1:=[]) ?_ ?_
 refine za 6 ?_ ?_ ?_ ?_ ?_ ?_ ?_
 ·exact zH.fs.nd
 ·exact (zH.loc 6 rfl)
 ·rfl
 ·rfl
 ·exact .inl rfl
 ·decide
 exact qY (pda2 (jA qhl (zH.gl 4 rfl rfl) z_list rfl (pda1 (qp (pd_v zH 4) qb))) (jA qhl (zH.gl 4 rfl rfl) z_list rfl (pda1 (qp (pd_v zH 4) qb))))
 refine qg (M1:=[7,1007]) ?_ (qg (M1:=[7,1007]) (zG (Zi (ZR (qm K__law_right hr (by decide) (zH.gl 6 rfl rfl) (pda2 (pd_v zH 5) (pd_v zH 7)) rfl))) (qj (qC Jx)) zm) (qg (M1:=[7,1007]) (zG (q8 (d_ne hr) (qp (pd_v zH 7) qb) YH (zg _)) (qj (qeQ 7 (zH.vis 7 rfl) (by decide) qb)) zm) (qj (qC (Z8 (qm K__law_right hr (by decide) (zH.gl 6 rfl rfl) (pda2 (pd_v zH 5) (qgT X_folded_2.known hr (by decide) (zH.gl 5 rfl rfl) (pda1 (pd_v zH 6)) rfl rfl)) rfl) (JV (jP (d_eq hr) (pd_v zH 6) (pd_v zH 4) (zg _))))))))
 refine qiC 7 ?_ ?_ ?_ ?_ ?_ ?_ ?_ (qg7 X_folded_2 hr (by decide) (zH.gl 5 rfl rfl) (pda1 (pd_v zH 6)) rfl rfl)
 ·exact zH.fs.nd
 ·exact (zH.loc 7 rfl)
 ·rfl
 ·rfl
 ·exact .inl rfl
 ·decide
 ·decide
end SF
local macro_rules
 | `(tactic| simp_arith [$ts,*] $[$loc]?)=> do
  let q := ("L2.rho0 Ku VF Kw VO Nat.reduceAdd Nat.reduceSub Ew X5 List.replicate_succ List.replicate_zero List.cons_append XX VM L2.qeZ L2.qde L2.qdf L2.qhn L2.qho L2.ifO_t L2.ifO_f L2.sIf_b L2.qlI L2.tA_b L2.tO_b L2.vA_b L2.vN L2.qnc L2.qng L2.qm7 L2.qlO L2.nxO_s L2.qnb L2.qm3 L2.sN L2.sBk L2.sCt L2.tV L2.tN L2.tT L2.ev2_b L2.qlQ L2.ev1 L2.vr_z L2.vr_s L2.kd L2.evA L2.evC_b L2.qjy L2.evC0 L2.aC_b L2.qjI L2.aN L2.qmp L2.qmq L2.tupD L2.lstD L2.qjh L2.qji L2.qkk L2.qkl L2.qlK L2.qnj L2.qmw L2.qhJ L2.j8 L2.pow_a L2.pow_b L2.qjR L2.qfQ L2.qmr L2.leD_i L2.gtD_i L2.qjx L2.ixD_l L2.ixD_t L2.atI0 L2.atI1 L2.atI2 L2.atI3 L2.atI4 L2.atI5 L2.qmI L2.qmH L2.ob_s L2.gNm L2.gsN_n L2.gsC_c L2.qns List.set_cons_zero List.set_cons_succ List.set_nil L2.evI L2.evR L2.qnd L2.qne L2.qk0 L2.rngL L2.qjG L2.qjC L2.qfl L2.qjE L2.qfo L2.qfn L2.qkm L2.qm8 L2.ql3 L2.Qs L2.Yy L2.jc L2.qj0 L2.qjZ L2.qfx if_true if_false VL E7 Bool.not_false Nat.reduceLeDiff and_self and_true true_and Int.reduceToNat Int.reduceAdd Int.reduceSub Int.reduceLE Int.reduceLT Int.reduceNeg reduceIte L2.isiD L2.qmf L2.qmc L2.qmb L2.qma L2.qme L2.qmd String.reduceBEq L2.natLit Int.reduceBEq NK Bool.or_true XJ Bool.or_false L2.qk6 L2.qnm L2.qjV L2.ql0 L2.qm6 L2.qlN L2.qep L2.qmJ L2.dfl_b L2.isD_n L2.qmh L2.isD_b L2.qmg L2.evS_b L2.qni L2.oN L2.oS_b L2.qmV Nat.reduceLT decide_true decide_false L2.qna L2.qi3 L2.qmT L2.qmS L2.qie L2.qif L2.qi4 L2.vC_b L2.vcO_s L2.qk3 L2.qk4 L2.qke L2.qkf L2.qkh L2.qki L2.qlX L2.chO_t L2.chO_f L2.qjr L2.qek L2.qk5 L2.qmU L2.qjP L2.qjQ L2.enL_n L2.enL_c L2.qfq L2.qjH L2.qfk L2.qfi L2.qjD L2.qjF L2.qjB L2.qk1 L2.dpO_s L2.qmx".splitOn " ").toArray.map λs => Lean.mkIdent s.toName
  `(tactic| simp only [$[$q:term],*, $ts,*] $[$loc]?)
namespace SF
open PySem L2
def Jr (ns:aA)(k:Int):Int:=ns.getD k.toNat 0
theorem qgH {a b c d e f:Int}{n m:Nat}(ha:Bd n a)(hb:Bd n b)(hc:Bd n c)(hd:Bd m d)(he:Bd m e)(hf:Bd m f)(hz:n+m<=134217728:=by decide):Qn [S3 a b c,S3 d e f]=some (S3 (b*f-c*e) (c*d-a*f) (a*e-b*d)):=by
 simp only [Qn,J0,S3]
 simp_arith []
 simp only [zf (hb.ok hf hz),zf (hc.ok he hz),zf (hc.ok hd hz),zf (ha.ok hf hz),zf (ha.ok he hz),zf (hb.ok hd hz)]
 simp_arith []
structure Tr where
 (p0 p1 p2 q0 q1 q2 r0 r1 r2:Int)
 deriving DecidableEq
def encT (t:Tr):Ka:=T3 (S3 t.p0 t.p1 t.p2) (S3 t.q0 t.q1 t.q2) (S3 t.r0 t.r1 t.r2)
noncomputable def qF:List Tr:=[⟨1,0,0,0,1,0,0,0,1⟩,⟨1,0,0,0,-1,0,0,0,-1⟩,⟨1,0,0,0,0,1,0,-1,0⟩,⟨1,0,0,0,0,-1,0,1,0⟩,⟨-1,0,0,0,1,0,0,0,-1⟩,⟨-1,0,0,0,-1,0,0,0,1⟩,⟨-1,0,0,0,0,1,0,1,0⟩,⟨-1,0,0,0,0,-1,0,-1,0⟩,⟨0,1,0,1,0,0,0,0,-1⟩,⟨0,1,0,-1,0,0,0,0,1⟩,⟨0,1,0,0,0,1,1,0,0⟩,⟨0,1,0,0,0,-1,-1,0,0⟩,⟨0,-1,0,1,0,0,0,0,1⟩,⟨0,-1,0,-1,0,0,0,0,-1⟩,⟨0,-1,0,0,0,1,-1,0,0⟩,⟨0,-1,0,0,0,-1,1,0,0⟩,⟨0,0,1,1,0,0,0,1,0⟩,⟨0,0,1,-1,0,0,0,-1,0⟩,⟨0,0,1,0,1,0,-1,0,0⟩,⟨0,0,1,0,-1,0,1,0,0⟩,⟨0,0,-1,1,0,0,0,-1,0⟩,⟨0,0,-1,-1,0,0,0,1,0⟩,⟨0,0,-1,0,1,0,1,0,0⟩,⟨0,0,-1,0,-1,0,-1,0,0⟩]
def TrB (t:Tr):Prop:=Bd 1 t.p0/\Bd 1 t.p1/\Bd 1 t.p2/\Bd 1 t.q0/\Bd 1 t.q1/\Bd 1 t.q2/\Bd 1 t.r0/\Bd 1 t.r1/\Bd 1 t.r2
instance (n:Nat) (i:Int):Decidable (Bd n i):=by unfold Bd;exact inferInstance
theorem tr_bd:∀ t∈qF,TrB t:=by
 unfold TrB
 decide
def TrBd (m:Nat)(t:Tr):Prop:=Bd m t.p0/\Bd m t.p1/\Bd m t.p2/\Bd m t.q0/\Bd m t.q1/\Bd m t.q2/\Bd m t.r0/\Bd m t.r1/\Bd m t.r2
theorem TrB.bd {t:Tr}(h:TrB t):TrBd 1 t:=h
noncomputable def mulT (s t:Tr):Tr:=⟨s.p0*t.p0+s.p1*t.q0+s.p2*t.r0,s.p0*t.p1+s.p1*t.q1+s.p2*t.r1,s.p0*t.p2+s.p1*t.q2+s.p2*t.r2,
 s.q0*t.p0+s.q1*t.q0+s.q2*t.r0,s.q0*t.p1+s.q1*t.q1+s.q2*t.r1,s.q0*t.p2+s.q1*t.q2+s.q2*t.r2,
 s.r0*t.p0+s.r1*t.q0+s.r2*t.r0,s.r0*t.p1+s.r1*t.q1+s.r2*t.r1,s.r0*t.p2+s.r1*t.q2+s.r2*t.r2⟩
def trT (s:Tr):Tr:=⟨s.p0,s.q0,s.r0,s.p1,s.q1,s.r1,s.p2,s.q2,s.r2⟩
def idT:Tr:=⟨1,0,0,0,1,0,0,0,1⟩
theorem JM {x y z i j k:Int}{n m:Nat}(hx:Bd n x)(hy:Bd n y)(hz:Bd n z)(hi:Bd m i)(hj:Bd m j)(hk:Bd m k):Bd (n+m+2) (x*i+y*j+z*k) :=
 (((hx.mul hi).add (hy.mul hj)).add (hz.mul hk)).mono (by omega)
theorem qnn {m:Nat}{t:Tr}(h:TrBd m t):TrBd m (trT t):=by
 obtain ⟨h1,h2,h3,h4,h5,h6,h7,h8,h9⟩:=h
 exact ⟨h1,h4,h7,h2,h5,h8,h3,h6,h9⟩
theorem qfP {m n:Nat}{s t:Tr}(hs:TrBd m s)(ht:TrBd n t):TrBd (m+n+2) (mulT s t):=by
 obtain ⟨h1,h2,h3,h4,h5,h6,h7,h8,h9⟩:=hs
 obtain ⟨g1,g2,g3,g4,g5,g6,g7,g8,g9⟩:=ht
 exact ⟨JM h1 h2 h3 g1 g4 g7,JM h1 h2 h3 g2 g5 g8,JM h1 h2 h3 g3 g6 g9,JM h4 h5 h6 g1 g4 g7,JM h4 h5 h6 g2 g5 g8,JM h4 h5 h6 g3 g6 g9,JM h7 h8 h9 g1 g4 g7,JM h7 h8 h9 g2 g5 g8,JM h7 h8 h9 g3 g6 g9⟩
theorem tr_id:∀ t∈qF,mulT t (trT t)=idT/\mulT (trT t) t=idT:=by decide
theorem JQ (s t u:Tr):mulT (mulT s t) u=mulT s (mulT t u):=by
 unfold mulT
 congr 1<;>dsimp only<;>grind
theorem qdV (s:Tr):mulT s idT=s:=by
 unfold mulT idT
 cases s
 congr 1<;>dsimp only<;>grind
theorem qhQ (s:Tr):mulT idT s=s:=by
 unfold mulT idT
 cases s
 congr 1<;>dsimp only<;>grind
structure Sp3 where
 (x y z:Int)
 deriving DecidableEq
noncomputable abbrev aL:=Sp3×Tr
noncomputable abbrev ar:=Int->Sp3×Tr
def encS (s:Sp3):Ka:=S3 s.x s.y s.z
def app (t:Tr)(s:Sp3):Sp3:=⟨s.x*t.p0+s.y*t.q0+s.z*t.r0,s.x*t.p1+s.y*t.q1+s.z*t.r1,s.x*t.p2+s.y*t.q2+s.z*t.r2⟩
noncomputable def addS (s t:Sp3):Sp3:=⟨s.x+t.x,s.y+t.y,s.z+t.z⟩
def negS (s:Sp3):Sp3:=⟨-s.x,-s.y,-s.z⟩
def SpBd (n:Nat)(s:Sp3):Prop:=Bd n s.x/\Bd n s.y/\Bd n s.z
theorem qaB (s t:Tr)(a:Sp3):app (mulT s t) a=app t (app s a):=by
 unfold app mulT
 congr 1<;>dsimp only<;>grind
theorem qfe (a:Sp3):app idT a=a:=by
 unfold app idT
 cases a
 congr 1<;>dsimp only<;>grind
theorem qhj (t:Tr)(a b:Sp3):app t (addS a b)=addS (app t a) (app t b):=by
 unfold app addS
 congr 1<;>dsimp only<;>grind
theorem QS (a b c:Sp3):addS (addS a b) c=addS a (addS b c):=by
 unfold addS
 congr 1<;>dsimp only<;>omega
theorem qbM (a b:Sp3):addS a b=addS b a:=by
 unfold addS
 congr 1<;>omega
theorem qhh (a:Sp3):addS a (negS a)=⟨0,0,0⟩:=by
 unfold addS negS
 congr 1<;>dsimp only<;>omega
theorem Wr (a:Sp3):addS a ⟨0,0,0⟩=a:=by
 unfold addS
 cases a
 congr 1<;>dsimp only<;>omega
theorem qcU (a:Sp3):addS (negS a) a=⟨0,0,0⟩:=by rw [qbM,qhh]
theorem zero_add (a:Sp3):addS ⟨0,0,0⟩ a=a:=by rw [qbM,Wr]
theorem Wl {t:Tr}{m n:Nat}(ht:TrBd m t){s:Sp3}(hs:SpBd n s)(hz:n+m<=134217728:=by decide):Zf [encT t,encS s]=some (encS (app t s)):=by
 obtain ⟨h1,h2,h3,h4,h5,h6,h7,h8,h9⟩:=ht
 obtain ⟨ha,hb,hc⟩:=hs
 simp only [Zf,qbu,S3,T3,encT,encS,app]
 simp_arith [zf (ha.ok h1 hz),zf (ha.ok h2 hz),zf (ha.ok h3 hz),zf (hb.ok h4 hz),zf (hb.ok h5 hz),zf (hb.ok h6 hz),zf (hc.ok h7 hz),zf (hc.ok h8 hz),zf (hc.ok h9 hz)]
noncomputable def rowP (t:Tr):Sp3:=⟨t.p0,t.p1,t.p2⟩
noncomputable def rowQ (t:Tr):Sp3:=⟨t.q0,t.q1,t.q2⟩
noncomputable def rowR (t:Tr):Sp3:=⟨t.r0,t.r1,t.r2⟩
theorem qgq (t:Tr):encT t=.tuple [encS (rowP t),encS (rowQ t),encS (rowR t)]:=rfl
theorem qao {m:Nat}{t:Tr}(h:TrBd m t):SpBd m (rowP t)/\SpBd m (rowQ t)/\SpBd m (rowR t):=by
 obtain ⟨h1,h2,h3,h4,h5,h6,h7,h8,h9⟩:=h
 exact ⟨⟨h1,h2,h3⟩,⟨h4,h5,h6⟩,⟨h7,h8,h9⟩⟩
theorem qgp (s t:Tr):encT (mulT s t)=.tuple [encS (app t (rowP s)),encS (app t (rowQ s)),encS (app t (rowR s))]:=rfl
theorem qj8 {s t:Tr}{m n:Nat}(hs:TrBd m s)(ht:TrBd n t)(hz:m+n<=134217728:=by decide):QW [encT s,encT t]=some (encT (mulT s t)):=by
 obtain ⟨a1,a2,a3⟩:=qao hs
 have e1:=Wl ht a1 hz
 have e2:=Wl ht a2 hz
 have e3:=Wl ht a3 hz
 simp only [QW,jY,qgp,qgq s]
 simp_arith [e1,e2,e3]
noncomputable def JH (a b:Sp3):Sp3:=⟨a.y*b.z-a.z*b.y,a.z*b.x-a.x*b.z,a.x*b.y-a.y*b.x⟩
theorem qer {a b:Sp3}{n m:Nat}(ha:SpBd n a)(hb:SpBd m b)(hz:n+m<=134217728:=by decide):jw [encS a,encS b]=some (encS (JH a b)):=by
 obtain ⟨a1,a2,a3⟩:=ha
 obtain ⟨b1,b2,b3⟩:=hb
 simp only [jw,qc8,encS,S3,JH]
 simp_arith [zf (a2.ok b3 hz),zf (a3.ok b2 hz),zf (a3.ok b1 hz),zf (a1.ok b3 hz),zf (a1.ok b2 hz),zf (a2.ok b1 hz)]
theorem qfJ {a b:Sp3}{n m:Nat}(ha:SpBd n a)(hb:SpBd m b)(hz:n+m<=134217728:=by decide):Qn [encS a,encS b]=some (encS (JH a b)):=qgH ha.1 ha.2.1 ha.2.2 hb.1 hb.2.1 hb.2.2 hz
theorem qje:∀ t∈qF,JH (rowP t) (rowQ t)=rowR t:=by decide
def encP (x:Sp3)(t:Tr):Ka:=.tuple [encS x,encS (rowP t),encS (rowQ t)]
theorem ixP0 (x:Sp3)(t:Tr):ixD (encP x t) (.int 0)=some (encS x):=rfl
theorem ixP1 (x:Sp3)(t:Tr):ixD (encP x t) (.int 1)=some (encS (rowP t)):=rfl
theorem ixP2 (x:Sp3)(t:Tr):ixD (encP x t) (.int 2)=some (encS (rowQ t)):=rfl
theorem ixS0 (x:Sp3):ixD (encS x) (.int 0)=some (.int x.x):=rfl
theorem ixS1 (x:Sp3):ixD (encS x) (.int 1)=some (.int x.y):=rfl
theorem ixS2 (x:Sp3):ixD (encS x) (.int 2)=some (.int x.z):=rfl
theorem lenS (x:Sp3):lenD [encS x]=some (.int 3):=rfl
structure Tn (t:Tr):Prop where
 mem:t∈qF
 bd:TrBd 1 t
 bp:SpBd 1 (rowP t)
 bq:SpBd 1 (rowQ t)
 br:SpBd 1 (rowR t)
 cr:JH (rowP t) (rowQ t)=rowR t
theorem Tn.of {t:Tr}(h:t∈qF):Tn t :=
 have b:=(tr_bd t h).bd
 ⟨h,b,(qao b).1,(qao b).2.1,(qao b).2.2,qje t h⟩
theorem outE {x:Sp3}{t:Tr}(h:Tn t):yK [encP x t]=some (encS (rowR t)):=by
 have e:=qer h.bp h.bq
 rw [h.cr] at e
 delta yK qbt
 simp_arith [ixP1,ixP2,e]
theorem backE (t:Tr):jm [encT t]=some (encT (trT t)):=by
 simp only [jm,yV,encT,trT,S3,T3]
 simp_arith []
theorem qlL (a b:Sp3):Yb [encS a,encS b]=some (encS (addS a b)):=by
 simp only [Yb,qc7,encS,S3,addS]
 simp_arith []
theorem qdW (a:Sp3):Zv [encS a]=some (encS (negS a)):=by
 simp only [Zv,WT,encS,S3,negS]
 simp_arith []
def unV (t:Tr)(w:Int):Sp3:=if w=0 then rowP t else if w=1 then rowQ t else if w=2 then negS (rowP t) else negS (rowQ t)
def beV (t:Tr)(w b:Int):Sp3:=if b=1 then rowR t else if b=-1 then negS (rowR t) else unV t w
def nmB (b:Int):Str:=if b=1 then "Up" else if b=-1 then "Down" else "Join"
def edV (t:Tr)(w:Int):Sp3:=JH (unV t w) (rowR t)
def rwT (a b c:Sp3):Tr:=⟨a.x,a.y,a.z,b.x,b.y,b.z,c.x,c.y,c.z⟩
def tuV (t:Tr)(w b:Int):Tr:=mulT (trT (rwT (unV t w) (rowR t) (edV t w))) (rwT (beV t w b) (JH (edV t w) (beV t w b)) (edV t w))
def stV (t:Tr)(w b:Int):Tr:=rwT (app (tuV t w b) (rowP t)) (app (tuV t w b) (rowQ t)) (JH (app (tuV t w b) (rowP t)) (app (tuV t w b) (rowQ t)))
def spV (x:Sp3)(t:Tr)(w b:Int):Sp3:=addS (addS x (unV t w)) (beV t w b)
def Zz:List Int:=[0,1,2,3]
def zM:List Int:=[-1,0,1]
instance (n:Nat) (s:Sp3):Decidable (SpBd n s):=by unfold SpBd;exact inferInstance
theorem qi7:∀ t∈qF,∀ w∈Zz,∀ b∈zM,stV t w b∈qF:=by decide +kernel
theorem qlH:∀ t∈qF,∀ w∈Zz,SpBd 1 (unV t w)/\SpBd 1 (edV t w):=by decide +kernel
theorem qlm:∀ t∈qF,∀ w∈Zz,∀ b∈zM,SpBd 1 (beV t w b)/\SpBd 1 (JH (edV t w) (beV t w b)):=by decide +kernel
theorem qlb:∀ t∈qF,∀ w∈Zz,∀ b∈zM,stV (stV t w b) ((w+2) % 4) b=t/\addS (addS (unV t w) (beV t w b)) (addS (unV (stV t w b) ((w+2) % 4)) (beV (stV t w b) ((w+2) % 4) b))=⟨0,0,0⟩:=by decide +kernel
theorem unitE (x:Sp3)(t:Tr){w:Int}(hw:w∈Zz):Jv [encP x t,.int w]=some (encS (unV t w)):=by
 simp only [Zz,Kr,VW,cC] at hw
 delta Jv WW
 rcases hw with rfl|rfl|rfl|rfl<;>simp_arith [ixP1,ixP2,qdW]<;>rfl
theorem mt_j (ds:ae):mtD Qh (objD "Join" :: ds)=ZF (objD "Join" :: ds):=by kernel_rfl
theorem mt_u (ds:ae):mtD Qh (objD "Up" :: ds)=ju (objD "Up" :: ds):=by kernel_rfl
theorem mt_d (ds:ae):mtD Qh (objD "Down" :: ds)=ZD (objD "Down" :: ds):=by kernel_rfl
theorem goesE (t:Tr)(w:Int){b:Int}(hb:b∈zM):mtD Qh [objD (nmB b),encS (unV t w),encS (rowR t)]=some (encS (beV t w b)):=by
 simp only [zM,Kr,VW,cC] at hb
 rcases hb with rfl|rfl|rfl
 ·show mtD Qh [objD "Down", encS (unV t w),encS (rowR t)]=some (encS (negS (rowR t)))
  rw [mt_d]
  delta ZD jW
  simp_arith [qdW]
 ·show mtD Qh [objD "Join", encS (unV t w),encS (rowR t)]=some (encS (unV t w))
  rw [mt_j]
  delta ZF jX
  simp_arith []
 ·show mtD Qh [objD "Up", encS (unV t w),encS (rowR t)]=some (encS (rowR t))
  rw [mt_u]
  delta ju JZ
  simp_arith []
theorem mkT3 (a b c:Sp3):Vk [encS a,encS b,encS c]=encT (rwT a b c):=rfl
theorem qjd {n:Nat}{a b c:Sp3}(ha:SpBd n a)(hb:SpBd n b)(hc:SpBd n c):TrBd n (rwT a b c):=⟨ha.1,ha.2.1,ha.2.2,hb.1,hb.2.1,hb.2.2,hc.1,hc.2.1,hc.2.2⟩
theorem ledE (x:Sp3){t:Tr}(h:Tn t){w b:Int}(hw:w∈Zz)(hb:b∈zM):Zo [objD (nmB b),encP x t,.int w]=some (encP (spV x t w b) (stV t w b)):=by
 obtain ⟨u1,u2⟩:=qlH t h.mem w hw
 obtain ⟨u3,u4⟩:=qlm t h.mem w hw b hb
 have e1:=unitE x t hw
 have e2:=outE (x:=x) h
 have e3:=qer u1 h.br
 have e4:=goesE t w hb
 have e5:=qer u2 u3
 have e6:=backE (rwT (unV t w) (rowR t) (edV t w))
 have b1:=qnn (qjd u1 h.br u2)
 have b2:=qjd u3 u4 u2
 have e7:=qj8 b1 b2
 have e8:=Wl (qfP b1 b2) h.bp
 have e9:=Wl (qfP b1 b2) h.bq
 have e3':jw [encS (unV t w),encS (rowR t)]=some (encS (edV t w)):=e3
 delta Zo YQ
 simp_arith [e1,e2,e3',e4,e5,mkT3,e6,e7,ixP0,ixP1,ixP2,qlL,e8,e9]
 rfl
noncomputable abbrev Sp:=Int×Int×Int
def eS (s:Sp):Ka:=.tuple [.int s.1,.int s.2.1,.int s.2.2]
def l3 (s:Sp):List Int:=[s.1,s.2.1,s.2.2]
def b3:List Int->Sp
 | [a,b,c]=>(a,b,c)
 | _=>(0,0,0)
theorem qeO (xs:List Sp):xs.map eS=(xs.map l3).map tI:=by rw [Vj];rfl
theorem qcb {xs:List Sp}(h:xs.length<64):∃ ys:List Sp,je [.list (xs.map eS)]=some (.list (ys.map eS))/\ys.Perm xs/\(ys.map l3).Pairwise (λa b=>HT.lexLt b a=false):=by
 obtain ⟨mss,e,p,o⟩:=Wk (nss:=xs.map l3) (by rw [Kf];exact h) (by
  intro ns hn
  obtain ⟨x,_,rfl⟩:=K3.mp hn
  exact λz=>by cases z)
 have back:∀ m∈mss,(l3 ∘ b3) m=id m:=λm hm=>by
  obtain ⟨x,_,rfl⟩:=K3.mp (p.mem_iff.mp hm)
  rfl
 have hm:(mss.map b3).map l3=mss:=by
  rw [Vj]
  exact (V8 back).trans (ET mss)
 refine ⟨mss.map b3,?_,?_,?_⟩
 ·rw [qeO,e,qeO,hm]
 ·have:=p.map b3
  rw [Vj] at this
  have e2:xs.map (b3 ∘ l3)=xs:=(V8 (λx _=>rfl)).trans (ET xs)
  rwa [e2] at this
 ·rw [hm];exact o
theorem qhH (a b:Sp):Kv (eS a) (eS b)=decide (a=b):=by
 have:Kv (eS a) (eS b)=((a.1==b.1)&&((a.2.1==b.2.1)&&((a.2.2==b.2.2)&&true))):=rfl
 rw [this]
 obtain ⟨a1,a2,a3⟩:=a
 obtain ⟨b1,b2,b3⟩:=b
 by_cases h1:a1=b1<;>by_cases h2:a2=b2<;>by_cases h3:a3=b3<;>simp [h1,h2,h3]
theorem qlR (xs:List Sp):Kq (xs.map eS)=true/\KI (xs.map eS)<=1:=by rw [qeO];exact wK _
theorem qdv {α:Type}(enc:α->Ka){g:af}{u:ai}(I:List α->Rho->Prop)(all:List α)(step:∀ a∈all,∀ done ρ,done.length<all.length->I done ρ->∃ ρ',ob (g (enc a) ρ) u=some (.nx ρ')/\I (done++[a]) ρ') :
  ∀ (as done:List α) (ρ:Rho),(∀ a∈as,a∈all)->done.length+as.length=all.length->I done ρ->∃ ρ',forD g u (as.map enc) ρ=some (.nx ρ')/\I (done++as) ρ'
 | [],done,ρ,_,_,h=>⟨ρ,rfl,by rw [VM];exact h⟩
 | a::as,done,ρ,hm,hl,h=>by
  rw [Kw] at hl
  obtain ⟨ρ1,e1,h1⟩:=step a (hm a (.head _)) done ρ (by omega) h
  obtain ⟨ρ2,e2,h2⟩:=qdv enc I all step as (done++[a]) ρ1 (λx hx=>hm x (.tail _ hx)) (by rw [Kj,Kt];omega) h1
  refine ⟨ρ2,?_,by rw [Uw] at h2;exact h2⟩
  rw [Ku,Qs,e1,jc]
  exact e2
theorem QC {α:Type}(enc:α->Ka){g:af}{u:ai}(I:List α->Rho->Prop)(as:List α)(ρ:Rho)(h:I [] ρ)(step:∀ a∈as,∀ done ρ,done.length<as.length->I done ρ->∃ ρ',ob (g (enc a) ρ) u=some (.nx ρ')/\I (done++[a]) ρ') :
  ∃ ρ',forD g u (as.map enc) ρ=some (.nx ρ')/\I as ρ':=by
 obtain ⟨ρ',e,i⟩:=qdv enc I as step as [] ρ (λ_ h=>h) (by simp) h
 exact ⟨ρ',e,by rwa [XX] at i⟩
theorem yZ {α:Type}(enc:α->Ka){tt:aj}{te:aa}{ρ:Rho}(p:α->Bool)(f:α->Ka):∀ (as:List α),(∀ a∈as,tt (ρ++[some (enc a)])=some (p a))->(∀ a∈as,p a=true->te (ρ++[some (enc a)])=some (f a))->Zc tt te ρ (as.map enc)=some ((as.filter p).map f)
 | [],_,_=>rfl
 | a::as,h1,h2=>by
  have ih:=yZ enc p f as (λx hx=>h1 x (.tail _ hx)) (λx hx=>h2 x (.tail _ hx))
  rw [Ku,qfl,h1 a (.head _),List.filter_cons]
  cases e:p a with
  | true=>rw [qfo,h2 a (.head _) e,ih];rfl
  | false=>rw [qfn,ih];rfl
theorem qaE {α:Type}(enc:α->Ka){te:aa}{ρ:Rho}(f:α->Ka)(as:List α)(h2:∀ a∈as,te (ρ++[some (enc a)])=some (f a)):Zc tT te ρ (as.map enc)=some (as.map f):=by
 have:=yZ enc (tt:=tT) (te:=te) (ρ:=ρ) (λ_=>true) f as (λ_ _=>rfl) (λa ha _=>h2 a ha)
 rwa [List.filter_eq_self.mpr (λ_ _=>rfl)] at this
theorem WM (xs:ae)(v:Ka):popD (.list (xs++[v]))=some (v,.list xs):=by
 show (ob ((xs++[v])[(xs++[v]).length-1]?) λd=>some (d,Vu (xs++[v]).dropLast))=_
 have e:(xs++[v])[(xs++[v]).length-1]?=some v:=by
  rw [Kj,Kt,Nat.add_sub_cancel,Vi (Kp _)]
  simp
 rw [e,List.dropLast_concat]
 rfl
theorem Zg {α β:Type}{f:α->β}{xs:List α}{k:Int}{x:α}(h0:0<=k)(h:xs[k.toNat]?=some x):atI (xs.map f) k=some (f x):=by
 have e1:((k.toNat:Nat):Int)=k:=by omega
 have:=qag (xs:=xs.map f) (j:=k.toNat) (v:=f x) (by rw [Ky,h];rfl)
 rwa [e1] at this
theorem seqIx {i:Int}{n:Nat}(h0:0<=i)(h1:i<(n:Int)):cM i n=some i.toNat:=by
 show (if (decide (0<=(if i<0 then i+(n:Int) else i))&&decide ((if i<0 then i+(n:Int) else i)<(n:Int)))=true then some (if i<0 then i+(n:Int) else i).toNat else none)=_
 have h:(if i<0 then i+(n:Int) else i)=i:=bJ (by omega)
 rw [h,bI (by simp;omega)]
theorem Qu {u w:ai}{ρ ρ':Rho}{r:Option Out}(h:u ρ=some (.nx ρ'))(h2:w ρ'=r):seqO u w ρ=r:=by rw [qeZ,h,qde];exact h2
theorem qaK {α:Type}(enc:α->Ka){g:af}{u:ai}(I:List α->Rho->Prop)(all:List α)(ρ:Rho)(h0:I [] ρ)(step:∀ a done rest ρ,all=done++a::rest->I done ρ->∃ ρ',ob (g (enc a) ρ) u=some (.nx ρ')/\I (done++[a]) ρ') :
  ∃ ρ',forD g u (all.map enc) ρ=some (.nx ρ')/\I all ρ':=by
 have key:∀ (as done:List α) (ρ:Rho),all=done++as->I done ρ->∃ ρ',forD g u (as.map enc) ρ=some (.nx ρ')/\I all ρ':=by
  intro as
  induction as with
  | nil=>intro done ρ e h;rw [VM] at e;subst e;exact ⟨ρ,rfl,h⟩
  | cons a as ih =>
   intro done ρ e h
   obtain ⟨ρ1,e1,h1⟩:=step a done as ρ e h
   obtain ⟨ρ2,e2,h2⟩:=ih (done++[a]) ρ1 (by rw [e,Uw];rfl) h1
   refine ⟨ρ2,?_,h2⟩
   rw [Ku,Qs,e1,jc]
   exact e2
 exact key all [] ρ rfl h0
theorem ixe0 (s:Sp):ixD (eS s) (.int 0)=some (.int s.1):=rfl
theorem ixe1 (s:Sp):ixD (eS s) (.int 1)=some (.int s.2.1):=rfl
theorem ixe2 (s:Sp):ixD (eS s) (.int 2)=some (.int s.2.2):=rfl
theorem ix2:ixN 3 2=some 2:=rfl
theorem jV (n:Nat):rngL 0 n=(KN n).map λk=>Km (k:Nat):=by
 have:∀ (n m:Nat),rngL (m:Nat) n=(List.range' m n).map λk=>Km (k:Nat):=by
  intro n
  induction n with
  | zero=>intro m;rfl
  | succ n ih =>
   intro m
   rw [rngL,List.range'_succ,Ku,← ih (m+1)]
   rfl
 rw [List.range_eq_range']
 exact this n 0
theorem qjO {α:Type}{xs:List α}(x:Int)(h:0<xs.length):∃ y∈xs,xs[(x % (xs.length:Int)).toNat]?=some y:=by
 have a1:=EM x (b:=(xs.length:Int)) (by omega)
 have a2:=Int.emod_lt_of_pos x (b:=(xs.length:Int)) (by omega)
 have hlt:(x % (xs.length:Int)).toNat<xs.length:=by omega
 exact ⟨xs[(x % (xs.length:Int)).toNat],Nt hlt,Kk hlt⟩
noncomputable abbrev Ce:=Int×Int
abbrev aP:=List (Ce×Ce)
abbrev aw:=List Ce
def eC (c:Ce):Ka:=.tuple [.int c.1,.int c.2]
def l2 (c:Ce):List Int:=[c.1,c.2]
def b2:List Int->Ce
 | [a,b]=>(a,b)
 | _=>(0,0)
theorem qhb {xs:aw}(h:xs.length<64):∃ ys:List Ce,je [.list (xs.map eC)]=some (.list (ys.map eC))/\ys.Perm xs/\(ys.map l2).Pairwise (λa b=>HT.lexLt b a=false):=by
 obtain ⟨mss,e,p,o⟩:=Wk (nss:=xs.map l2) (by rw [Kf];exact h) (by
  intro ns hn
  obtain ⟨x,_,rfl⟩:=K3.mp hn
  exact λz=>by cases z)
 have me:∀ zs:List Ce,zs.map eC=(zs.map l2).map tI:=λzs=>by rw [Vj];rfl
 have hm:(mss.map b2).map l2=mss:=by
  rw [Vj]
  refine (V8 λm hm=>?_).trans (ET mss)
  obtain ⟨x,_,rfl⟩:=K3.mp (p.mem_iff.mp hm)
  rfl
 refine ⟨mss.map b2,?_,?_,?_⟩
 ·rw [me,e,me,hm]
 ·have:=p.map b2
  rw [Vj] at this
  have e2:xs.map (b2 ∘ l2)=xs:=(V8 (λx _=>rfl)).trans (ET xs)
  rwa [e2] at this
 ·rw [hm];exact o
theorem Wu (a b:Ce):Kv (eC a) (eC b)=decide (a=b):=by
 have:Kv (eC a) (eC b)=((a.1==b.1)&&((a.2==b.2)&&true)):=rfl
 rw [this]
 obtain ⟨a1,a2⟩:=a
 obtain ⟨b1,b2⟩:=b
 by_cases h1:a1=b1<;>by_cases h2:a2=b2<;>simp [h1,h2]
theorem qhr:∀ xs:List Ce,Kq (xs.map eC)=true/\KI (xs.map eC)<=1:=λxs=>by
 have me:xs.map eC=(xs.map l2).map tI:=by rw [Vj];rfl
 rw [me];exact wK _
theorem qcw (xs:aw)(q:Ce):inOk (xs.map eC) (eC q)=true:=by
 unfold inOk
 rw [(qhr xs).1,E9,KD]
 exact ⟨rfl,rfl⟩
theorem qhR (xs:aw)(q:Ce):inL (xs.map eC) (eC q)=decide (q∈xs):=by
 unfold inL
 rw [List.any_map]
 induction xs with
 | nil=>rfl
 | cons x xs ih =>
  rw [UR,ih]
  show (Kv (eC x) (eC q)||_)=_
  rw [Wu]
  by_cases h:x=q
  ·subst h;rw [bF rfl,NK,bF VI]
  ·rw [bH h,XJ]
   by_cases h2:q∈xs
   ·rw [bF h2,bF (Vw _ h2)]
   ·rw [bH h2,bH (by rw [Kr];rintro (rfl|z);exact h rfl;exact h2 z)]
theorem ql7 (xs:aw)(q:Ce):inD (eC q) (.list (xs.map eC))=some (.bool (decide (q∈xs))):=by
 show (if inOk (xs.map eC) (eC q)=true then some (UZ (inL (xs.map eC) (eC q))) else none)=_
 rw [qcw,qhR];rfl
theorem qkr (xs:aw)(q:Ce):ninD (eC q) (.list (xs.map eC))=some (.bool (!decide (q∈xs))):=by
 show (if inOk (xs.map eC) (eC q)=true then some (UZ (!inL (xs.map eC) (eC q))) else none)=_
 rw [qcw,qhR];rfl
theorem ixc0 (s:Ce):ixD (eC s) (.int 0)=some (.int s.1):=rfl
theorem ixc1 (s:Ce):ixD (eC s) (.int 1)=some (.int s.2):=rfl
theorem qjX (s:Ce):flat (eC s)=true:=rfl
theorem qdC {xs:aw}{q:Ce}(h:q∈xs)(hl:xs.length<=900):JL (.list (xs.map eC)) (eC q)=some (.int (xs.idxOf q:Nat)):=by
 have e:(xs.map eC).findIdx? (λy=>Kv y (eC q))=some (xs.idxOf q):=by
  clear hl
  induction xs with
  | nil=>cases h
  | cons x xs ih =>
   rw [Ku,List.findIdx?_cons,Wu,List.idxOf_cons]
   by_cases hx:x=q
   ·subst hx;simp
   ·have hq:q∈xs:=by rcases Kr.mp h with z|z;exact absurd z.symm hx;exact z
    have e1:(x==q)=false:=bP.mpr hx
    rw [bH hx,ih hq,e1]
    rfl
 show (if inOk (xs.map eC) (eC q)=true/\(xs.map eC).length<=1000 then ob ((xs.map eC).findIdx? λy=>Kv y (eC q)) (λj=>some (Km (j:Nat))) else none)=_
 rw [bI ⟨qcw _ _,by rw [Kf];omega⟩,e]
 rfl
abbrev Jn:=(Ce×Ce)×Int
abbrev bh:=List Jn
def eP (p:Ce×Ce):Ka:=.tuple [eC p.1,eC p.2]
theorem qlW (p q:Ce×Ce):Kv (eP p) (eP q)=decide (p=q):=by
 have:Kv (eP p) (eP q)=(Kv (eC p.1) (eC q.1)&&(Kv (eC p.2) (eC q.2)&&true)):=rfl
 rw [this,Wu,Wu]
 obtain ⟨a,b⟩:=p
 obtain ⟨c,d⟩:=q
 by_cases h1:a=c<;>by_cases h2:b=d<;>simp [h1,h2]
theorem Js {α:Type}(enc:α->Ka){k:Nat}{g:af}{te:aa}{ρ:Rho}(f:α->Ka):∀ (as:List α),(∀ a∈as,ob (g (enc a) (ρ++Vt k none)) te=some (f a))->QM k g tT te ρ (as.map enc)=some (as.map f)
 | [],_=>rfl
 | a::as,h=>by
  have ih:=Js enc f as λx hx=>h x (.tail _ hx)
  obtain ⟨ρ1,e1,e2⟩:=qd (h a (.head _))
  rw [Ku,qfq,e1,qfk]
  show qdj (some true) _ _=_
  rw [qfi,e2,ih]
  rfl
def qaz (d:Ka):Prop:=Kv d d=true
theorem WN {α:Type}{f:α->Ka}(h:∀ a,qaz (f a)):∀ xs:List α,qaz (.list (xs.map f))
 | []=>rfl
 | x::xs=>by
  have:Kv (.list ((x::xs).map f)) (.list ((x::xs).map f))=(Kv (f x) (f x)&&Kv (.list (xs.map f)) (.list (xs.map f))):=rfl
  unfold qaz
  rw [this,h x,WN h xs]
  rfl
theorem qk7 (c:Ce):qaz (eC c):=by unfold qaz;rw [Wu,bF rfl]
theorem qk8 (c:Sp):qaz (eS c):=by unfold qaz;rw [qhH,bF rfl]
theorem qjK {α:Type}(f:α->Ka)(xs:List α){k:Int}(h:0<=k):sliD (.list (xs.map f)) none (some k)=some (.list ((xs.take k.toNat).map f)):=by
 show some (Vu (cutD (xs.map f) none (some k)))=_
 have e:k=((k.toNat:Nat):Int):=by omega
 unfold cutD
 rw [e,HT.qk2]
 have h0:HT.sIx (xs.map f).length 0 none=0:=rfl
 rw [h0,List.drop_zero,Nat.sub_zero,Kf,K4]
 by_cases hk:k.toNat<=xs.length
 ·rw [Nat.min_eq_left hk,List.map_take]
 ·rw [Nat.min_eq_right (by omega),EU (l:=xs) (by omega),EU (by rw [Kf];exact Kp _)]
def put (M:List Sp)(k:Nat)(p:Sp):List Sp:=M.take k++[p]++M.drop k
def Adj (a b:Ce):Prop:=b=(a.1+1,a.2)\/b=(a.1,a.2+1)
def bs (w:Nat)(c:Ce):Ce:=match w with
 | 0=>(c.1+1,c.2)
 | 1=>(c.1,c.2+1)
 | 2=>(c.1-1,c.2)
 | _=>(c.1,c.2-1)
theorem emod4 (x:Int):∃ w:Nat,w<4/\x % 4=(w:Nat):=⟨(x % 4).toNat,by omega,by omega⟩
def pk (w:Nat)(c:Ce):Ce×Ce:=match w with
 | 0=>(c,bs 0 c)
 | 1=>(c,bs 1 c)
 | 2=>(bs 2 c,c)
 | _=>(bs 3 c,c)
theorem ltC (a b:Ce):ltX (eC a) (eC b)=some (if a.1=b.1 then decide (a.2<b.2) else decide (a.1<b.1)):=by
 have:ltX (eC a) (eC b)=if Kv (.int a.1) (.int b.1)=true then (if Kv (.int a.2) (.int b.2)=true then some false else some (decide (a.2<b.2))) else some (decide (a.1<b.1)):=by
  simp only [eC,ltX,ltXs]
 have e:∀ x y:Int,(Kv (.int x) (.int y)=true)=(x=y):=λx y=>by
  have:Kv (.int x) (.int y)=(x==y):=rfl
  rw [this];simp
 rw [this]
 simp only [e]
 by_cases h1:a.1=b.1
 ·rw [bI h1,bI h1]
  by_cases h2:a.2=b.2
  ·rw [bI h2,bH (by omega)]
  ·rw [bJ h2]
 ·rw [bJ h1,bJ h1]
theorem gtC (a b:Ce):gtX (eC a) (eC b)=some (if a.1=b.1 then decide (a.2 > b.2) else decide (a.1 > b.1)):=by
 have:gtX (eC a) (eC b)=if Kv (.int a.1) (.int b.1)=true then (if Kv (.int a.2) (.int b.2)=true then some false else some (decide (a.2 > b.2))) else some (decide (a.1 > b.1)):=by
  simp only [eC,gtX,gtXs]
 have e:∀ x y:Int,(Kv (.int x) (.int y)=true)=(x=y):=λx y=>by
  have:Kv (.int x) (.int y)=(x==y):=rfl
  rw [this];simp
 rw [this]
 simp only [e]
 by_cases h1:a.1=b.1
 ·rw [bI h1,bI h1]
  by_cases h2:a.2=b.2
  ·rw [bI h2,bH (by omega)]
  ·rw [bJ h2]
 ·rw [bJ h1,bJ h1]
theorem cmpC {x y:Ce}(h:x.1<y.1\/(x.1=y.1/\x.2<y.2)):ltX (eC x) (eC y)=some true/\ltX (eC y) (eC x)=some false/\gtX (eC y) (eC x)=some true/\gtX (eC x) (eC y)=some false:=by
 rw [ltC,ltC,gtC,gtC]
 by_cases e:x.1=y.1
 ·rw [bI e,bI e.symm,bI e.symm,bI e,bF (by omega:x.2<y.2),bH (by omega:¬ y.2<x.2)]
  exact ⟨rfl,rfl,rfl,rfl⟩
 ·have e':¬ y.1=x.1:=λz=>e z.symm
  rw [bJ e,bJ e',bJ e',bJ e,bF (by omega:x.1<y.1),bH (by omega:¬ y.1<x.1)]
  exact ⟨rfl,rfl,rfl,rfl⟩
theorem minC {a b:Ce}(h:Adj a b):JP [eC a,eC b]=some (eC a)/\JP [eC b,eC a]=some (eC a)/\JN [eC a,eC b]=some (eC b)/\JN [eC b,eC a]=some (eC b):=by
 have c:∀ x y:Ce,Vf (eC x)=true/\Vf (eC y)=true/\(eC y).depth<=50:=λx y=>⟨rfl,rfl,by show (1:Nat)<=50;decide⟩
 obtain ⟨k1,k2,k3,k4⟩:=cmpC (x:=a) (y:=b) (by rcases h with rfl|rfl<;>dsimp only<;>omega)
 rw [qa3,qa3,qa2,qa2,bI (c _ _),bI (c _ _),bI (c _ _),bI (c _ _),k1,k2,k3,k4]
 exact ⟨rfl,rfl,rfl,rfl⟩
theorem qiP (c:Ce){w:Nat}(hw:w<4):Adj (pk w c).1 (pk w c).2/\(pk w c=(c,bs w c)\/pk w c=(bs w c,c)):=by
 have h:w=0\/w=1\/w=2\/w=3:=by omega
 obtain ⟨x,y⟩:=c
 rcases h with rfl|rfl|rfl|rfl<;>simp [pk,bs,Adj]
theorem mm_eq (c:Ce){w:Nat}(hw:w<4):JP [eC c,eC (bs w c)]=some (eC (pk w c).1)/\JN [eC c,eC (bs w c)]=some (eC (pk w c).2):=by
 obtain ⟨h1,h2⟩:=qiP c hw
 have m:=minC h1
 rcases h2 with e|e<;>rw [e] at m ⊢
 ·exact ⟨m.1,m.2.2.1⟩
 ·exact ⟨m.2.1,m.2.2.2⟩
def jn (S:aw)(p:Jn):Sp:=((S.idxOf p.1.1:Nat),(S.idxOf p.1.2:Nat),p.2)
abbrev RisC (S:aw):Prop:=(S.map l2).Pairwise (λa b=>HT.lexLt b a=false)
abbrev RisS (J:List Sp):Prop:=(J.map l3).Pairwise (λa b=>HT.lexLt b a=false)
def wy (a b:Ce):Int:=if b.1=a.1+1 then 0 else 1
theorem stepI {a b:Ce}(h:Adj a b):∃ d1 d2,Qg [eC a,eC b]=some d1/\jf jt d1=some (.int (wy a b))/\Qg [eC b,eC a]=some d2/\jf jt d2=some (.int (wy a b+2)):=by
 have st:∀ x y:Ce,Qg [eC x,eC y]=some (.tuple [.int (y.1-x.1),.int (y.2-x.2)]):=λx y=>by
  delta Qg j5
  simp_arith [ixc0,ixc1]
 have k0:jf jt (.tuple [.int 1,.int 0])=some (.int 0):=by kernel_rfl
 have k1:jf jt (.tuple [.int 0,.int 1])=some (.int 1):=by kernel_rfl
 have k2:jf jt (.tuple [.int (-1),.int 0])=some (.int 2):=by kernel_rfl
 have k3:jf jt (.tuple [.int 0,.int (-1)])=some (.int 3):=by kernel_rfl
 obtain ⟨x,y⟩:=a
 rcases h with rfl|rfl
 ·have e1:x+1-x=1:=by omega
  have e2:x-(x+1)=-1:=by omega
  have e3:y-y=0:=by omega
  have ew:wy (x,y) (x+1,y)=0:=by simp [wy]
  refine ⟨_,_,st _ _,?_,st _ _,?_⟩<;>rw [ew]<;>dsimp only<;>simp only [e1,e2,e3]
  ·exact k0
  ·exact k2
 ·have e1:y+1-y=1:=by omega
  have e2:y-(y+1)=-1:=by omega
  have e3:x-x=0:=by omega
  have ew:wy (x,y) (x,y+1)=1:=by simp [wy];omega
  refine ⟨_,_,st _ _,?_,st _ _,?_⟩<;>rw [ew]<;>dsimp only<;>simp only [e1,e2,e3]
  ·exact k1
  ·exact k3
def Jok (S:aw)(t:Sp):Prop:=0<=t.1/\0<=t.2.1/\∃ a b,S[t.1.toNat]?=some a/\S[t.2.1.toNat]?=some b/\Adj a b
def nbF (S:aw)(k:Int)(t:Sp):Option Sp:=match S[t.1.toNat]?,S[t.2.1.toNat]? with
 | some a,some b=>if t.1=k then some (wy a b,t.2.1,t.2.2) else if t.2.1=k then some (wy a b+2,t.1,t.2.2) else none
 | _,_=>none
theorem JR {S:aw}{k:Int}{t:Sp}{a b:Ce}(ha:S[t.1.toNat]?=some a)(hb:S[t.2.1.toNat]?=some b):nbF S k t=if t.1=k then some (wy a b,t.2.1,t.2.2) else if t.2.1=k then some (wy a b+2,t.1,t.2.2) else none:=by
 unfold nbF;rw [ha,hb]
theorem qhi {a b:Ce}(h:Adj a b):a≠b:=by
 obtain ⟨x,y⟩:=a
 rcases h with rfl|rfl<;>simp<;>omega
theorem in2 (k i j:Int):inD (.int k) (.tuple [.int i,.int j])=some (.bool ((i==k)||((j==k)||false))):=rfl
theorem qmu {S:aw}{J:List Sp}(hJ:∀ t∈J,Jok S t)(hl:J.length<64){k:Int}{r:Ka}(es:je [.list ((J.filterMap (nbF S k)).map eS)]=some r):ZP [.tuple [.list (S.map eC),.list (J.map eS)],.int k]=some r:=by
 obtain ⟨ρ',e,o4,o5,o6,o7,rfl⟩:=QC eS (g:=unpD 3 (gsC (gNm 4) (gsC (gNm 5) (gsC (gNm 6) gsN)))) (u:=yI)
  (λdone ρ=>∃ o4 o5 o6 o7:Option Ka,ρ=[some '#',some (.int k),some (.list (S.map eC)),some (.list ((done.filterMap (nbF S k)).map eS)),o4,o5,o6,o7]) J [some '#',some (.int k),some (.list (S.map eC)),some (.list []),none,none,none,none] ⟨none,none,none,none,rfl⟩ (by
   rintro t ht done ρ hdl ⟨o4,o5,o6,o7,rfl⟩
   obtain ⟨p1,p2,a,b,ea,eb,ad⟩:=hJ t ht
   obtain ⟨d1,d2,s1,t1,s2,t2⟩:=stepI ad
   have x1:atI (S.map eC) t.1=some (eC a):=Zg p1 ea
   have x2:atI (S.map eC) t.2.1=some (eC b):=Zg p2 eb
   have hz:((done.filterMap (nbF S k)).map eS).length<1000:=by
    rw [Kf]
    have:=Xl (nbF S k) done
    omega
   have hn:=JR (k:=k) ea eb
   have hu:unpD 3 (gsC (gNm 4) (gsC (gNm 5) (gsC (gNm 6) gsN))) (eS t) [some '#',some (.int k),some (.list (S.map eC)),some (.list ((done.filterMap (nbF S k)).map eS)),o4,o5,o6,o7]=some [some '#',some (.int k),some (.list (S.map eC)),some (.list ((done.filterMap (nbF S k)).map eS)),some (.int t.1),some (.int t.2.1),some (.int t.2.2),o7]:=rfl
   rw [hu,ob_s]
   rw [E2]
   by_cases h1:t.1=k
   ·have x3:atI (S.map eC) k=some (eC a):=by rw [← h1];exact x1
    rw [bI h1] at hn
    refine ⟨_,?_,some (.int t.1),some (.int t.2.1),some (.int t.2.2),some (.int t.2.1),rfl⟩
    have q1:(t.1==k)=true:=by simp [h1]
    have q2:(k==t.1)=true:=by simp [h1]
    simp_arith [in2,q1,q2,x3,x2,s1,t1,hz]
    simp only [Kz,V7,U7,hn,Ku,VF,eS]
   ·rw [bJ h1] at hn
    have q1:(t.1==k)=false:=by simp [h1]
    have q2:(k==t.1)=false:=by simp;omega
    by_cases h2:t.2.1=k
    ·have x3:atI (S.map eC) k=some (eC b):=by rw [← h2];exact x2
     rw [bI h2] at hn
     refine ⟨_,?_,some (.int t.1),some (.int t.2.1),some (.int t.2.2),some (.int t.1),rfl⟩
     have q3:(t.2.1==k)=true:=by simp [h2]
     simp_arith [in2,q1,q2,q3,x3,x1,s2,t2,hz]
     simp only [Kz,V7,U7,hn,Ku,VF,eS]
    ·rw [bJ h2] at hn
     refine ⟨_,?_,some (.int t.1),some (.int t.2.1),some (.int t.2.2),o7,rfl⟩
     have q3:(t.2.1==k)=false:=by simp [h2]
     simp_arith [in2,q1,q3]
     simp only [Kz,V7,U7,hn,Ku,VF,VM])
 delta ZP J9
 simp_arith [e,es]
theorem Wt (ns:aA)(k:Int)(hk:0<=k):zu [.list (ns.map .int),.int k]=some (.int (Jr ns k)):=by
 delta zu yN
 simp_arith []
 by_cases h:k<((ns.map Km).length:Int)
 ·have h':k.toNat<ns.length:=by rw [Kf] at h;omega
  have e:atI (ns.map Km) k=some (.int (Jr ns k)):=by
   have e1:((k.toNat:Nat):Int)=k:=by omega
   have:=qag (xs:=ns.map Km) (j:=k.toNat) (v:=.int (Jr ns k)) (by
    rw [Ky,Kk h']
    unfold Jr
    rw [Xc,Kk h']
    rfl)
   rw [e1] at this
   exact this
  simp_arith [bF h,e]
 ·have h':¬ k.toNat<ns.length:=by rw [Kf] at h;omega
  have e:Jr ns k=0:=by
   unfold Jr
   rw [Xc,Ue (by omega)]
   rfl
  simp_arith [bH h,e]
def sumS (a:Sp3)(k:Int)(c:Sp3):Sp3:=⟨a.x+k*c.x,a.y+k*c.y,a.z+k*c.z⟩
def dotS (a c:Sp3):Int:=a.x*c.x+a.y*c.y+a.z*c.z
theorem sumE {n m:Nat}(a:Sp3){k:Int}{c:Sp3}(hk:Bd n k)(hc:SpBd m c)(hz:n+m<=134217728:=by decide):Qf [encS a,.int k,encS c]=some (encS (sumS a k c)):=by
 obtain ⟨c1,c2,c3⟩:=hc
 delta Qf YW
 simp_arith [ixS0,ixS1,ixS2,zf (hk.ok c1 hz),zf (hk.ok c2 hz),zf (hk.ok c3 hz)]
 rfl
theorem dotE {n m:Nat}{a c:Sp3}(ha:SpBd n a)(hc:SpBd m c)(hz:n+m<=134217728:=by decide):Z2 [encS a,encS c]=some (.int (dotS a c)):=by
 obtain ⟨a1,a2,a3⟩:=ha
 obtain ⟨c1,c2,c3⟩:=hc
 delta Z2 YS
 simp_arith [ixS0,ixS1,ixS2,zf (a1.ok c1 hz),zf (a2.ok c2 hz),zf (a3.ok c3 hz)]
 rfl
theorem sum0 (a:Sp3):sumS ⟨0,0,0⟩ 1 a=a:=by
 unfold sumS
 cases a
 congr 1<;>dsimp only<;>omega
theorem sumN (a:Sp3):sumS ⟨0,0,0⟩ (-1) a=negS a:=by
 unfold sumS negS
 congr 1<;>dsimp only<;>omega
theorem sum1 (a b:Sp3):sumS a 1 b=addS a b:=by
 unfold sumS addS
 congr 1<;>omega
theorem qms (x:Sp3){t:Tr}(h:Tn t){w:Int}(hw:w∈Zz):jk [encP x t,.int w]=some (encS (unV t w)):=by
 simp only [Zz,Kr,VW,cC] at hw
 have b1:Bd 1 1:=by decide
 have b2:Bd 1 (-1):=by decide
 have e1:=sumE ⟨0,0,0⟩ b1 h.bp
 have e2:=sumE ⟨0,0,0⟩ b1 h.bq
 have e3:=sumE ⟨0,0,0⟩ b2 h.bp
 have e4:=sumE ⟨0,0,0⟩ b2 h.bq
 have k0:mulD (.int 2) (.int (0 / 2))=some (.int 0):=rfl
 have k1:mulD (.int 2) (.int (1 / 2))=some (.int 0):=rfl
 have k2:mulD (.int 2) (.int (2 / 2))=some (.int 2):=rfl
 have k3:mulD (.int 2) (.int (3 / 2))=some (.int 2):=rfl
 have i0:ixD (encP x t) (.int (1+0 % 2))=some (encS (rowP t)):=rfl
 have i1:ixD (encP x t) (.int (1+1 % 2))=some (encS (rowQ t)):=rfl
 have i2:ixD (encP x t) (.int (1+2 % 2))=some (encS (rowP t)):=rfl
 have i3:ixD (encP x t) (.int (1+3 % 2))=some (encS (rowQ t)):=rfl
 have z:Vk [.int 0,.int 0,.int 0]=encS ⟨0,0,0⟩:=rfl
 delta jk yS
 rcases hw with rfl|rfl|rfl|rfl
 ·simp_arith [k0,i0,z,e1,sum0]
  rfl
 ·simp_arith [k1,i1,z,e2,sum0]
  rfl
 ·simp_arith [k2,i2,z,e3,sumN]
  rfl
 ·simp_arith [k3,i3,z,e4,sumN]
  rfl
theorem on_eq:∀ t∈qF,∀ w∈Zz,∀ b∈zM,b≠0->sumS ⟨0,0,0⟩ b (rowR t)=beV t w b:=by decide +kernel
theorem qlU:∀ t∈qF,∀ w∈Zz,Bd 1 (dotS (rowP t) (unV t w))/\Bd 1 (dotS (rowP t) (edV t w))/\Bd 1 (dotS (rowQ t) (unV t w))/\Bd 1 (dotS (rowQ t) (edV t w)):=by decide +kernel
theorem qlg:∀ t∈qF,∀ w∈Zz,∀ b∈zM,sumS (sumS ⟨0,0,0⟩ (dotS (rowP t) (unV t w)) (beV t w b)) (dotS (rowP t) (edV t w)) (edV t w)=rowP (stV t w b)/\sumS (sumS ⟨0,0,0⟩ (dotS (rowQ t) (unV t w)) (beV t w b)) (dotS (rowQ t) (edV t w)) (edV t w)=rowQ (stV t w b):=by decide +kernel
theorem qh6 (x:Sp3){t:Tr}(h:Tn t){w b:Int}(hw:w∈Zz)(hb:b∈zM):Qe [encP x t,.int w,.int b]=some (encP (spV x t w b) (stV t w b)):=by
 obtain ⟨u1,u2⟩:=qlH t h.mem w hw
 obtain ⟨u3,u4⟩:=qlm t h.mem w hw b hb
 obtain ⟨d1,d2,d3,d4⟩:=qlU t h.mem w hw
 obtain ⟨t1,t2⟩:=qlg t h.mem w hw b hb
 have b1:Bd 1 1:=by decide
 have bb:Bd 1 b:=by
  simp only [zM,Kr,VW,cC] at hb
  rcases hb with rfl|rfl|rfl<;>decide
 have e1:=qms x h hw
 have e2:=qfJ h.bp h.bq
 rw [h.cr] at e2
 have e3:Qn [encS (unV t w),encS (rowR t)]=some (encS (edV t w)):=qfJ u1 h.br
 have e4:=sumE ⟨0,0,0⟩ bb h.br
 have e5:=sumE x b1 u1
 have e6:=sumE (sumS x 1 (unV t w)) b1 u3
 have e7:=dotE h.bp u1
 have e8:=dotE h.bp u2
 have e9:=dotE h.bq u1
 have e10:=dotE h.bq u2
 have s1:=sumE ⟨0,0,0⟩ d1 u3
 have s2:=sumE ⟨0,0,0⟩ d3 u3
 have s3:=sumE (sumS ⟨0,0,0⟩ (dotS (rowP t) (unV t w)) (beV t w b)) d2 u2
 have s4:=sumE (sumS ⟨0,0,0⟩ (dotS (rowQ t) (unV t w)) (beV t w b)) d4 u2
 have z:Vk [.int 0,.int 0,.int 0]=encS ⟨0,0,0⟩:=rfl
 have sl:sliD (encP x t) (some 1) none=some (.tuple [encS (rowP t),encS (rowQ t)]):=rfl
 have fin:Vk [encS (sumS (sumS x 1 (unV t w)) 1 (beV t w b)),encS (rowP (stV t w b)),encS (rowQ (stV t w b))]=encP (spV x t w b) (stV t w b):=by rw [sum1,sum1];rfl
 have fl:∀ s:Sp3,flat (encS s)=true:=λ_=>rfl
 delta Qe YT
 by_cases h0:b=0
 ·have hn:neD (.int b) (.int 0)=some (.bool false):=by rw [h0];rfl
  have hbe:beV t w b=unV t w:=by rw [h0];rfl
  rw [hbe] at e6 s1 s2 s3 s4 t1 t2 fin
  simp_arith [e1,ixP0,ixP1,ixP2,e2,hn,e3,z,e5,e6,sl,e7,e8,e9,e10,s1,s2,s3,s4,t1,t2,fin,fl]
 ·have hn:neD (.int b) (.int 0)=some (.bool true):=by
   have:neD (.int b) (.int 0)=some (.bool (!(b==0))):=rfl
   rw [this,bP.mpr h0];rfl
  rw [on_eq t h.mem w hw b hb h0] at e4
  simp_arith [e1,ixP0,ixP1,ixP2,e2,hn,e3,z,e4,e5,e6,sl,e7,e8,e9,e10,s1,s2,s3,s4,t1,t2,fin,fl]
theorem qhU (x:Sp3)(t:Tr):ZJ [encP x t]=some (.bool true):=by kernel_rfl
theorem qmj {b:Int}(hb:b∈zM):Yc [.int b]=some (objD (nmB b)):=by
 simp only [zM,Kr,VW,cC] at hb
 rcases hb with rfl|rfl|rfl<;>kernel_rfl
theorem qko {b:Int}(hb:b∈zM)(ds:ae):mtD qa4 (objD (nmB b)::ds)=Zo (objD (nmB b)::ds):=by
 simp only [zM,Kr,VW,cC] at hb
 rcases hb with rfl|rfl|rfl<;>kernel_rfl
theorem qfK (x:Sp3){t:Tr}(h:Tn t){w b:Int}(hw:w∈Zz)(hb:b∈zM):ZM [eC (w,b),encP x t]=some (encP (spV x t w b) (stV t w b)):=by
 have e1:=qmj hb
 have e2:=qko hb [encP x t,.int w]
 rw [ledE x h hw hb] at e2
 delta ZM qbs
 simp_arith [ixc0,ixc1,e1,e2]
def eT3 (p:Jn):Ka:=.tuple [eC p.1.1,eC p.1.2,.int p.2]
theorem qdX (c:Ce){w:Nat}(hw:w<4):Qc [eC c,.int (w:Nat)]=some (eC (bs w c)):=by
 have h:w=0\/w=1\/w=2\/w=3:=by omega
 simp only [Qc,jb,eC]
 rcases h with rfl|rfl|rfl|rfl
 ·have e:((0:Nat):Int)=0:=rfl
  simp_arith [e];simp [bs]
 ·have e:((1:Nat):Int)=1:=rfl
  simp_arith [e];simp [bs]
 ·have e:((2:Nat):Int)=2:=rfl
  simp_arith [e];simp [bs];omega
 ·have e:((3:Nat):Int)=3:=rfl
  simp_arith [e];simp [bs];omega
theorem qhs:∀ xs:List (Ce×Ce),Kq (xs.map eP)=true
 | []=>rfl
 | x::xs=>by
  show (KP (eP x)&&Kq (xs.map eP))=true
  rw [qhs xs];rfl
theorem ql8 (xs:aP)(q:Ce×Ce):inL (xs.map eP) (eP q)=decide (q∈xs):=by
 unfold inL
 rw [List.any_map]
 induction xs with
 | nil=>rfl
 | cons x xs ih =>
  rw [UR,ih]
  show (Kv (eP x) (eP q)||_)=_
  rw [qlW]
  by_cases h:x=q
  ·subst h;rw [bF rfl,NK,bF VI]
  ·rw [bH h,XJ]
   by_cases h2:q∈xs
   ·rw [bF h2,bF (Vw _ h2)]
   ·rw [bH h2,bH (by rw [Kr];rintro (rfl|z);exact h rfl;exact h2 z)]
theorem qks (xs:aP)(q:Ce×Ce):ninD (eP q) (.list (xs.map eP))=some (.bool (!decide (q∈xs))):=by
 show (if inOk (xs.map eP) (eP q)=true then some (UZ (!inL (xs.map eP) (eP q))) else none)=_
 have ok:inOk (xs.map eP) (eP q)=true:=by
  unfold inOk
  rw [qhs xs,E9,KD]
  exact ⟨rfl,rfl⟩
 rw [ok,ql8];rfl
theorem qbT:∀ xs:List Jn,qhK (.list (xs.map eT3))=true
 | []=>rfl
 | _::xs=>qbT xs
def jnd (T:bh)(k:Ce×Ce)(v:Int):List Jn:=if k∈T.map (·.1) then T else T++[(k,v)]
theorem qdF (d:Ka)(T:bh)(hT:T.length<=900){c o:Ce}{k:Ce×Ce}(m1:JP [eC c,eC o]=some (eC k.1))(m2:JN [eC c,eC o]=some (eC k.2))(v:Int) :
  Ze [d,.list (T.map eT3),eC c,eC o,.int v]=some (.list ((jnd T k v).map eT3)):=by
 have hc:QM 3 (unpD 3 (gsC (gNm 6) (gsC (gNm 7) (gsC (gNm 8) gsN)))) tT (evA (aC (vr 6) (aC (vr 7) aN)) tupD) [some d,some (.list (T.map eT3)),some (eC c),some (eC o),some (.int v),some (eP k)] (T.map eT3)=some ((T.map (·.1)).map eP):=by
  rw [Vj]
  exact Js eT3 _ T λa _=>by simp_arith [eT3];rfl
 have pp:(Vk [eC k.1,eC k.2])=eP k:=rfl
 have x0:ixD (eP k) (.int 0)=some (eC k.1):=rfl
 have x1:ixD (eP k) (.int 1)=some (eC k.2):=rfl
 have hlen:(T.map eT3).length<=1000:=by rw [Kf];omega
 have hz:(T.map eT3).length<1000:=by rw [Kf];omega
 have nn:=qks (T.map (·.1)) k
 unfold jnd
 delta Ze Jj
 by_cases h:k∈T.map (·.1)
 ·rw [bF h] at nn
  rw [bI h]
  simp_arith [m1,m2,pp,hlen,hc,nn,outU]
 ·rw [bH h] at nn
  rw [bJ h]
  simp_arith [m1,m2,pp,hlen,hc,nn,x0,x1,hz,outU]
  rw [Kz]
  rfl
structure G13 (n:Nat)(fs:aw)(T:bh):Prop where
 h0:0<fs.length
 h1:fs.length<=26
 h2:fs.Nodup
 h3:T.length<=n
 h4:(T.map (·.1)).Nodup
 h5:∀ p∈T,p.1.1∈fs/\p.1.2∈fs/\Adj p.1.1 p.1.2/\p.2∈zM
def flO (d:aD):Option Ka:=match d with
 | some (.list es)=>if ZZ es=true then some (.list es) else none
 | _=>none
theorem qlZ (f:aa)(ρ:Rho):flLF f ρ=flO (f ρ):=by
 unfold flLF flO ob
 cases f ρ with
 | none=>rfl
 | some d=>cases d<;>rfl
theorem flO_s {es:ae}(h:ZZ es=true):flO (some (.list es))=some (.list es):=by
 show (if ZZ es=true then some (Vu es) else none)=_
 rw [bI h]
theorem qds:∀ J:List Sp,ZZ (J.map eS)=true
 | []=>rfl
 | _::J=>by
  show (true&&ZZ (J.map eS))=true
  rw [qds J];rfl
theorem G13.put {n:Nat}{fs:aw}{T:bh}{k:Ce×Ce}{v:Int}(g:G13 n fs T)(m1:k.1∈fs)(m2:k.2∈fs)(ad:Adj k.1 k.2)(hv:v∈zM):G13 (n+1) fs (jnd T k v):=by
 unfold jnd
 split
 ·exact ⟨g.h0,g.h1,g.h2,El g.h3,g.h4,g.h5⟩
 ·rename_i hk
  refine ⟨g.h0,g.h1,g.h2,by rw [Kj];have:=g.h3;simp;omega,?_,λp hp=>?_⟩
  ·rw [Kz,Ux]
   refine ⟨g.h4,by simp,λa ha b hb e=>?_⟩
   simp at hb
   subst hb
   exact hk (by rw [← e];exact ha)
  ·rcases KO.mp hp with q|q
   ·exact g.h5 p q
   ·have:=Ks.mp q
    subst this
    exact ⟨m1,m2,ad,hv⟩
theorem G13.more {n:Nat}{fs:aw}{T:bh}{o:Ce}(g:G13 n fs T)(ho:o∉fs)(hl:fs.length<26):G13 n (fs++[o]) T:=by
 refine ⟨by simp,by simp;omega,?_,g.h3,g.h4,λp hp=>?_⟩
 ·rw [Ux]
  refine ⟨g.h2,by simp,λa ha b hb e=>?_⟩
  have:=Ks.mp hb
  subst this
  exact ho (by rw [← e];exact ha)
 ·obtain ⟨a,b,c⟩:=g.h5 p hp
  exact ⟨KM _ a,KM _ b,c⟩
theorem qk9 {fs:aw}{T:bh}(hf:fs.length<64)(hj:T.length<64)(hm:∀ p∈T,p.1.1∈fs/\p.1.2∈fs):∃ (S:aw) (J:List Sp),ZL [.list (fs.map eC),.list (T.map eT3)]=some '#'/\S.Perm fs/\RisC S/\J.Perm (T.map (jn S))/\RisS J:=by
 obtain ⟨S,es,p,r⟩:=qhb hf
 have hl:S.length<=900:=by rw [p.length_eq];omega
 have hc:QM 3 (unpD 3 (gsC (gNm 3) (gsC (gNm 4) (gsC (gNm 5) gsN)))) tT (evA (aC (ev2 (vr 2) (vr 3) JL) (aC (ev2 (vr 2) (vr 4) JL) (aC (vr 5) aN))) tupD) [some (.list (fs.map eC)),some (.list (T.map eT3)),some (.list (S.map eC))] (T.map eT3)=some ((T.map (jn S)).map eS):=by
  rw [Vj]
  refine Js eT3 _ T λa ha=>?_
  obtain ⟨m1,m2⟩:=hm a ha
  have i1:=qdC (p.mem_iff.mpr m1) hl
  have i2:=qdC (p.mem_iff.mpr m2) hl
  simp_arith [eT3,i1,i2]
  rfl
 have hlen:(T.map eT3).length<=1000:=by rw [Kf];omega
 obtain ⟨J,ej,pj,rj⟩:=qcb (xs:=T.map (jn S)) (by rw [Kf];exact hj)
 refine ⟨S,J,?_,p,r,pj,rj⟩
 delta ZL J8
 simp_arith [es,hlen,hc,ej,qlZ,flO_s (qds J)]
structure J13 (S:aw)(J:List Sp):Prop where
 nd:S.Nodup
 ok:∀ t∈J,Jok S t
 bd:∀ t∈J,t.2.2∈zM
 un:(J.map λt=>(t.1,t.2.1)).Nodup
 lj:J.length<=58
 ls:S.length<=26
 s0:0<S.length
theorem jok13 {m:Nat}{fs S:aw}{T:bh}{J:List Sp}(g:G13 m fs T)(pS:S.Perm fs)(pJ:J.Perm (T.map (jn S)))(hm:m<=58:=by decide):J13 S J:=by
 have at':∀ a∈fs,S[S.idxOf a]?=some a:=λa ha=>by
  have h:=ED.mpr (pS.mem_iff.mpr ha)
  rw [Kk h,List.getElem_idxOf h]
 refine ⟨pS.nodup_iff.mpr g.h2,λt ht=>?_,λt ht=>?_,?_,by rw [pJ.length_eq,Kf];exact Ve g.h3 hm,by rw [pS.length_eq];exact g.h1,by rw [pS.length_eq];exact g.h0⟩
 ·obtain ⟨p,hp,rfl⟩:=K3.mp (pJ.mem_iff.mp ht)
  obtain ⟨m1,m2,ad,_⟩:=g.h5 p hp
  exact ⟨N4 _,N4 _,p.1.1,p.1.2,by show S[((S.idxOf p.1.1:Nat):Int).toNat]?=_;rw [K4];exact at' _ m1,by show S[((S.idxOf p.1.2:Nat):Int).toNat]?=_;rw [K4];exact at' _ m2,ad⟩
 ·obtain ⟨p,hp,rfl⟩:=K3.mp (pJ.mem_iff.mp ht)
  exact (g.h5 p hp).2.2.2
 ·rw [(pJ.map _).nodup_iff,Vj]
  have h4:=g.h4
  unfold Na at h4 ⊢
  rw [Xe] at h4 ⊢
  refine List.Pairwise.imp_of_mem (λ{a b} ha hb n e=>n ?_) h4
  have e1:((S.idxOf a.1.1:Nat):Int)=(S.idxOf b.1.1:Nat):=congrArg Prod.fst e
  have e2:((S.idxOf a.1.2:Nat):Int)=(S.idxOf b.1.2:Nat):=congrArg Prod.snd e
  have q1:=at' _ (g.h5 a ha).1
  have q2:=at' _ (g.h5 b hb).1
  have q3:=at' _ (g.h5 a ha).2.1
  have q4:=at' _ (g.h5 b hb).2.1
  rw [show S.idxOf a.1.1=S.idxOf b.1.1 by omega,q2] at q1
  rw [show S.idxOf a.1.2=S.idxOf b.1.2 by omega,q4] at q3
  exact Prod.ext (V1 q1).symm (V1 q3).symm
def eLS (LL:List (List Sp)):Ka:=.list (LL.map λl=>.list (l.map eS))
theorem qfE {LL:List (List Sp)}{i:Int}{x:Sp}{l:List Sp}(h0:0<=i)(e:LL[i.toNat]?=some l)(hl:l.length<1000)(ρ:Rho):kapO (some (eLS LL)) (some (.int i)) (some (eS x)) 1 ρ=some (.nx (ρ.set 1 (some (eLS (LL.set i.toNat (l++[x])))))):=by
 obtain ⟨hlt,he⟩:=Kl.mp e
 have h1:Jw (eLS LL) (.int i)=some i.toNat:=by
  show ixN (LL.map _).length i=_
  unfold ixN
  rw [bI h0,bI (by rw [Kf];omega)]
 have h2:wY (eLS LL) i.toNat=some (.list (l.map eS)):=by
  show (LL.map _)[i.toNat]?=_
  rw [Ky,e];rfl
 have h3:appD (.list (l.map eS)) (eS x)=some (.list ((l++[x]).map eS)):=by
  show (if (l.map eS).length<1000 then some (Vu (l.map eS++[eS x])) else none)=_
  rw [bI (by rw [Kf];exact hl),Kz]
  rfl
 have h4:YB (eLS LL) i.toNat (.list ((l++[x]).map eS))=eLS (LL.set i.toNat (l++[x])):=by
  show Vu ((LL.map _).set i.toNat _)=_
  unfold eLS
  rw [List.map_set]
 show ob (Jw (eLS LL) (.int i)) _=_
 rw [h1,ob_s,h2,ob_s,h3,ob_s,h4]
def nrL (S:aw)(J:List Sp):List (List Sp):=(KN S.length).map λk:Nat=>J.filterMap (nbF S (k:Int))
theorem qa6 {S:aw}(J:List Sp){k:Nat}(h:k<S.length):(nrL S J)[k]?=some (J.filterMap (nbF S (k:Int))):=by
 unfold nrL
 rw [Ky,XR h]
 rfl
theorem qio {S:aw}{J:List Sp}{t:Sp}{a b:Ce}(p1:0<=t.1)(p2:0<=t.2.1)(ea:S[t.1.toNat]?=some a)(eb:S[t.2.1.toNat]?=some b)(ne:t.1.toNat≠t.2.1.toNat) :
  ((nrL S J).set t.1.toNat (J.filterMap (nbF S t.1)++[(wy a b,t.2.1,t.2.2)])).set t.2.1.toNat (J.filterMap (nbF S t.2.1)++[(wy a b+2,t.1,t.2.2)])=nrL S (J++[t]):=by
 have l1:=(Kl.mp ea).1
 have l2:=(Kl.mp eb).1
 have len:∀ J:List Sp,(nrL S J).length=S.length:=λJ=>by unfold nrL;rw [Kf,KY]
 refine Ek λm=>?_
 by_cases hm:m<S.length
 ·rw [qa6 _ hm,E2]
  have hn:=JR (k:=(m:Int)) ea eb
  by_cases e2:t.2.1.toNat=m
  ·subst e2
   have q1:¬ t.1=((t.2.1.toNat:Nat):Int):=by omega
   have q2:t.2.1=((t.2.1.toNat:Nat):Int):=by omega
   rw [bJ q1,bI q2] at hn
   rw [Vc (by rw [VN,len];exact hm),V7,hn,U7,← q2]
  ·rw [VR e2]
   by_cases e1:t.1.toNat=m
   ·subst e1
    have q1:t.1=((t.1.toNat:Nat):Int):=by omega
    rw [bI q1] at hn
    rw [Vc (by rw [len];exact hm),V7,hn,U7,← q1]
   ·rw [VR e1,qa6 _ hm,V7]
    rw [bJ (by omega),bJ (by omega)] at hn
    rw [hn,U7,VM]
 ·rw [Ue (by rw [VN,VN,len];omega),Ue (by rw [len];omega)]
theorem qmv {S:aw}{J:List Sp}(h:J13 S J):ji [.tuple [.list (S.map eC),.list (J.map eS)]]=some (eLS (nrL S J)):=by
 have hv:∀ o1 o2 o3 o4 o5:Option Ka,qbS 6 1 (evI (ev2 (vr 0) '$' ixD) seqD) (gNm 6) tT (evA aN lstD) [some '#',o1,o2,o3,o4,o5]=some (eLS (nrL S [])):=λo1 o2 o3 o4 o5=>by
  have hc:QM 1 (gNm 6) tT (evA aN lstD) [some '#',o1,o2,o3,o4,o5] (S.map eC)=some (S.map λ_=>.list []) :=
   Js eC _ S λa _=>by simp_arith []
  have hlen:(S.map eC).length<=1000:=by rw [Kf];have:=h.ls;omega
  have hg:jh 6 1 (evI (ev2 (vr 0) '$' ixD) seqD) (gNm 6) tT (evA aN lstD) [some '#',o1,o2,o3,o4,o5]=some (.list (S.map λ_=>.list [])):=by
   simp_arith [hlen,hc]
  show ob (jh 6 1 (evI (ev2 (vr 0) '$' ixD) seqD) (gNm 6) tT (evA aN lstD) [some '#',o1,o2,o3,o4,o5]) _=_
  rw [hg,ob_s]
  show (if (S.map λ_=>Vu []).all jN=true then some (Vu (S.map λ_=>Vu [])) else none)=_
  rw [bI (by rw [NO];exact Vg.mpr λ_ _=>rfl)]
  unfold eLS nrL
  rw [Vj]
  refine congrArg (λz=>some (Vu z)) (Ek λm=>?_)
  rw [Ky,Ky]
  by_cases hm:m<S.length
  ·rw [XR hm,Kk hm];rfl
  ·rw [Ue (by omega),Ue (by rw [KY];omega)]
   rfl
 obtain ⟨ρ',e,o2,o3,o4,o5,rfl⟩:=QC eS (g:=unpD 3 (gsC (gNm 2) (gsC (gNm 3) (gsC (gNm 4) gsN)))) (u:=Yo)
  (λdone ρ=>∃ o2 o3 o4 o5:Option Ka,ρ=[some '#',some (eLS (nrL S done)),o2,o3,o4,o5]) J [some '#',some (eLS (nrL S [])),none,none,none,none] ⟨none,none,none,none,rfl⟩ (by
   rintro t ht done ρ hdl ⟨o2,o3,o4,o5,rfl⟩
   obtain ⟨p1,p2,a,b,ea,eb,ad⟩:=h.ok t ht
   have l1:=(Kl.mp ea).1
   have l2:=(Kl.mp eb).1
   have ne:t.1.toNat≠t.2.1.toNat:=λz=>by rw [z,eb] at ea;exact qhi ad (V1 ea).symm
   have x1:atI (S.map eC) t.1=some (eC a):=Zg p1 ea
   have x2:atI (S.map eC) t.2.1=some (eC b):=Zg p2 eb
   have hu:unpD 3 (gsC (gNm 2) (gsC (gNm 3) (gsC (gNm 4) gsN))) (eS t) [some '#',some (eLS (nrL S done)),o2,o3,o4,o5]=some [some '#',some (eLS (nrL S done)),some (.int t.1),some (.int t.2.1),some (.int t.2.2),o5]:=rfl
   rw [hu,ob_s]
   have fl:∀ k:Int,(done.filterMap (nbF S k)).length<1000:=λk=>by have:=Xl (nbF S k) done;have:=h.lj;omega
   have way:(if (a.1==b.1)=true then (1:Int) else 0)=wy a b:=by
    unfold wy
    obtain ⟨x,y⟩:=a
    rcases ad with rfl|rfl
    ·simp;omega
    ·simp;omega
   have g1:(nrL S done)[t.1.toNat]?=some (done.filterMap (nbF S t.1)):=by
    have:=qa6 (S:=S) done l1
    rwa [show ((t.1.toNat:Nat):Int)=t.1 by omega] at this
   have g2:((nrL S done).set t.1.toNat (done.filterMap (nbF S t.1)++[(wy a b,t.2.1,t.2.2)]))[t.2.1.toNat]?=some (done.filterMap (nbF S t.2.1)):=by
    rw [VR ne]
    have:=qa6 (S:=S) done l2
    rwa [show ((t.2.1.toNat:Nat):Int)=t.2.1 by omega] at this
   have k1:=λρ=>qfE (x:=(wy a b,t.2.1,t.2.2)) p1 g1 (fl _) ρ
   have k2:=λρ=>qfE (x:=(wy a b+2,t.1,t.2.2)) p2 g2 (fl _) ρ
   rw [qio p1 p2 ea eb ne] at k2
   have s1:Vk [.int (wy a b),.int t.2.1,.int t.2.2]=eS (wy a b,t.2.1,t.2.2):=rfl
   have s2:Vk [.int (wy a b+2),.int t.1,.int t.2.2]=eS (wy a b+2,t.1,t.2.2):=rfl
   refine ⟨_,?_,some (.int t.1),some (.int t.2.1),some (.int t.2.2),some (.int (wy a b)),rfl⟩
   simp_arith [x1,x2,ixc0,qek,way,s1,k1,s2,k2])
 delta ji yQ
 have hl:(1:Nat)<6:=by decide
 simp_arith [hv,e]
theorem qdd {a b:Ce}(h:Adj a b)(h':Adj b a):False:=by
 obtain ⟨x,y⟩:=a
 obtain ⟨x',y'⟩:=b
 rcases h with h|h<;>rcases h' with h'|h'<;>simp at h h'<;>omega
theorem qlw {S:aw}{J:List Sp}(h:J13 S J)(k:Int):((J.filterMap (nbF S k)).map (·.2.1)).Nodup:=by
 unfold Na
 rw [Xe,List.pairwise_filterMap]
 have un:=h.un
 unfold Na at un
 rw [Xe] at un
 refine List.Pairwise.imp_of_mem (λ{t t'} ht ht' ne s hs s' hs' e=>?_) un
 obtain ⟨p1,p2,a,b,ea,eb,ad⟩:=h.ok t ht
 obtain ⟨p1',p2',a',b',ea',eb',ad'⟩:=h.ok t' ht'
 rw [JR ea eb] at hs
 rw [JR ea' eb'] at hs'
 split at hs
 ·rename_i k1
  cases hs
  split at hs'
  ·rename_i k2
   cases hs'
   exact ne (Prod.ext (k1.trans k2.symm) e)
  ·split at hs'
   ·rename_i k2
    cases hs'
    have e:t.2.1=t'.1:=e
    rw [← e,eb] at ea'
    rw [k2,← k1,ea] at eb'
    cases ea'
    cases eb'
    exact qdd ad ad'
   ·cases hs'
 ·split at hs
  ·rename_i k1
   cases hs
   split at hs'
   ·rename_i k2
    cases hs'
    have e:t.1=t'.2.1:=e
    rw [← e,ea] at eb'
    rw [k2,← k1,eb] at ea'
    cases ea'
    cases eb'
    exact qdd ad ad'
   ·split at hs'
    ·rename_i k2
     cases hs'
     exact ne (Prod.ext e (k1.trans k2.symm))
    ·cases hs'
  ·cases hs
def kC3 (c:Ce):KX:=.inr [.inl c.1,.inl c.2]
def eW (ws:aP):List (Ka×PyData):=ws.map λp=>(eC p.1,eC p.2)
theorem qhX (ws:aP)(c:Ce):kOk (eW ws) (kC3 c)=true:=by
 unfold kOk eW
 rw [NO]
 exact Vg.mpr λp _=>rfl
theorem qcu (c:Ce):∀ ws:List (Ce×Ce),zF (eW ws) (kC3 c)=(ws.find? λp=>decide (p.1=c)).map λp=>eC p.2
 | []=>rfl
 | p::ws=>by
  have ih:=qcu c ws
  have kk:kxD (kC3 c)=eC c:=rfl
  unfold zF eW at *
  rw [Ku,V2,V2,kk,Wu]
  rw [kk] at ih
  by_cases h:p.1=c
  ·rw [bF h];rfl
  ·rw [bH h];exact ih
theorem qjN {ws:aP}{q:Ce}(v:Ce)(hl:ws.length<900)(h:∀ p∈ws,p.1≠q):wO (.dict (eW ws)) (eC q) (eC v)=some (.dict (eW (ws++[(q,v)]))):=by
 have hf:zF (eW ws) (kC3 q)=none:=by
  rw [qcu,U8.mpr λp hp=>by simp only [bW];exact h p hp]
  rfl
 show ob (kxOf (eC q)) (λks=>if kOk (eW ws) ks=true/\(eW ws).length<1000 then some (EV (putD (eW ws) ks (eC v))) else none)=_
 rw [show kxOf (eC q)=some (kC3 q) from rfl,ob_s,bI ⟨qhX _ _,by unfold eW;rw [Kf];omega⟩]
 unfold putD
 rw [hf,bJ (by decide),show kxD (kC3 q)=eC q from rfl]
 unfold eW
 rw [Kz]
 rfl
structure W13 (S:aw)(J:List Sp)(m:Nat)(W:aP):Prop where
 nd:(W.map (·.1)).Nodup
 len:W.length<=m*26
 iff:∀ p,p∈W↔0<=p.1.1/\p.1.1<(m:Int)/\∃ s∈J.filterMap (nbF S p.1.1),p=((p.1.1,s.2.1),(s.1,s.2.2))
theorem key13 {W:aP}(nd:(W.map (·.1)).Nodup){p q:Ce×Ce}(hp:p∈W)(hq:q∈W)(e:p.1=q.1):p=q:=by
 unfold Na at nd
 rw [Xe] at nd
 by_cases h:p=q
 ·exact h
 ·induction W with
  | nil=>cases hp
  | cons x W ih =>
   rw [List.pairwise_cons] at nd
   rcases Kr.mp hp with z|hp'
   ·rcases Kr.mp hq with z'|hq'
    ·exact z.trans z'.symm
    ·exact absurd e (by rw [z];exact nd.1 q hq')
   ·rcases Kr.mp hq with z'|hq'
    ·exact absurd e.symm (by rw [z'];exact nd.1 p hp')
    ·exact ih nd.2 hp' hq'
theorem yl {S:aw}{J:List Sp}(h:J13 S J){a:Int}{s:Sp}(hs:s∈J.filterMap (nbF S a)):(0<=a/\a<(S.length:Int))/\0<=s.2.1/\s.2.1<(S.length:Int):=by
 obtain ⟨t,ht,hs⟩:=UG.mp hs
 obtain ⟨p1,p2,a',b',ea,eb,ad⟩:=h.ok t ht
 have l1:=(Kl.mp ea).1
 have l2:=(Kl.mp eb).1
 rw [JR ea eb] at hs
 split at hs
 ·rename_i k1
  cases hs
  exact ⟨by omega,p2,by show t.2.1<_;omega⟩
 ·split at hs
  ·rename_i k1
   cases hs
   exact ⟨by omega,p1,by show t.1<_;omega⟩
  ·cases hs
theorem qj4 {S:aw}{J:List Sp}(h:J13 S J){m:Nat}(hm:m<S.length){W:aP}(w:W13 S J m W)(d0:Ka){ys:List Sp}(py:ys.Perm (J.filterMap (nbF S (m:Int))))(o3 o4 o5:aD) :
  ∃ (W':aP) (r3 r4 r5:aD),forD (unpD 3 (gsC (gNm 3) (gsC (gNm 4) (gsC (gNm 5) gsN)))) JF (ys.map eS) [some d0,some (.dict (eW W)),some (.int (m:Nat)),o3,o4,o5]=some (.nx [some d0,some (.dict (eW W')),some (.int (m:Nat)),r3,r4,r5])/\W13 S J (m+1) W':=by
 have un:=(py.map (·.2.1)).nodup_iff.mpr (qlw h (m:Int))
 have ly:ys.length<=26:=by
  have sub:(ys.map (·.2.1)).length<=((KN S.length).map λk:Nat=>(k:Int)).length:=List.Nodup.length_le_of_subset un λx hx=>by
   obtain ⟨s,hs,rfl⟩:=K3.mp hx
   obtain ⟨_,a,b⟩:=yl h (py.mem_iff.mp hs)
   exact K3.mpr ⟨s.2.1.toNat,Ur.mpr (by omega),by omega⟩
  rw [Kf,Kf,KY] at sub
  exact Ve sub h.ls
 have wm:m*26<=25*26:=Nat.mul_le_mul_right _ (by have:=h.ls;omega)
 obtain ⟨ρ',e,r3,r4,r5,rfl⟩:=qaK eS (g:=unpD 3 (gsC (gNm 3) (gsC (gNm 4) (gsC (gNm 5) gsN)))) (u:=JF)
  (λdone ρ=>∃ o3 o4 o5:Option Ka,ρ=[some d0,some (.dict (eW (W++done.map λs=>(((m:Nat):Int),s.2.1,s.1,s.2.2) |> λz=>((z.1,z.2.1),z.2.2)))),some (.int (m:Nat)),o3,o4,o5]) ys [some d0,some (.dict (eW W)),some (.int (m:Nat)),o3,o4,o5] ⟨o3,o4,o5,by simp⟩ (by
   rintro t done rest ρ eall ⟨o3,o4,o5,rfl⟩
   have hu:unpD 3 (gsC (gNm 3) (gsC (gNm 4) (gsC (gNm 5) gsN))) (eS t) [some d0,some (.dict (eW (W++done.map λs=>(((m:Nat):Int),s.2.1,s.1,s.2.2) |> λz=>((z.1,z.2.1),z.2.2)))),some (.int (m:Nat)),o3,o4,o5]=some [some d0,some (.dict (eW (W++done.map λs=>(((m:Nat):Int),s.2.1,s.1,s.2.2) |> λz=>((z.1,z.2.1),z.2.2)))),some (.int (m:Nat)),some (.int t.1),some (.int t.2.1),some (.int t.2.2)]:=rfl
   rw [hu,ob_s]
   have dl:done.length<=26:=by rw [eall] at ly;simp at ly;omega
   have fr:∀ p∈W++done.map (λs=>(((m:Nat):Int),s.2.1,s.1,s.2.2) |> λz=>((z.1,z.2.1),z.2.2)),p.1≠(((m:Nat):Int),t.2.1):=λp hp z=>by
    rcases KO.mp hp with q|q
    ·have:=((w.iff p).mp q).2.1
     rw [z] at this
     exact absurd this (by dsimp only;omega)
    ·obtain ⟨s,hs,rfl⟩:=K3.mp q
     have e2:s.2.1=t.2.1:=congrArg Prod.snd z
     rw [eall,Kz] at un
     exact (Ux.mp un).2.2 s.2.1 (K3.mpr ⟨s,hs,rfl⟩) t.2.1 (by simp) e2
   have dp:=qjN (t.1,t.2.2) (by rw [Kj,Kf];have:=w.len;omega) fr
   have s1:Vk [.int ((m:Nat):Int),.int t.2.1]=eC (((m:Nat):Int),t.2.1):=rfl
   have s2:Vk [.int t.1,.int t.2.2]=eC (t.1,t.2.2):=rfl
   refine ⟨_,?_,some (.int t.1),some (.int t.2.1),some (.int t.2.2),rfl⟩
   simp_arith [s1,s2,dp]
   rw [Kz,Uw]
   rfl)
 refine ⟨_,r3,r4,r5,e,?_,?_,λp=>?_⟩
 ·rw [Kz,Ux]
  refine ⟨w.nd,?_,λa ha b hb z=>?_⟩
  ·rw [Vj]
   unfold Na at un ⊢
   rw [Xe] at un ⊢
   exact un.imp λn z=>n (congrArg Prod.snd z)
  ·obtain ⟨p,hp,rfl⟩:=K3.mp ha
   obtain ⟨q,hq,rfl⟩:=K3.mp hb
   obtain ⟨s,hs,rfl⟩:=K3.mp hq
   have:=((w.iff p).mp hp).2.1
   rw [z] at this
   exact absurd this (by dsimp only;omega)
 ·rw [Kj,Kf]
  have:=w.len
  omega
 ·rw [KO,w.iff p]
  constructor
  ·rintro (⟨a,b,c⟩|q)
   ·exact ⟨a,by omega,c⟩
   ·obtain ⟨s,hs,rfl⟩:=K3.mp q
    exact ⟨N4 _,by dsimp only;omega,s,py.mem_iff.mp hs,rfl⟩
  ·rintro ⟨a,b,s,hs,c⟩
   by_cases hb:p.1.1<(m:Int)
   ·exact .inl ⟨a,hb,s,hs,c⟩
   ·have ep:p.1.1=(m:Int):=by omega
    rw [ep] at hs c
    exact .inr (K3.mpr ⟨s,py.mem_iff.mpr hs,c.symm⟩)
theorem qlc {S:aw}{J:List Sp}(h:J13 S J):∃ W:List (Ce×Ce),Z4 [.tuple [.list (S.map eC),.list (J.map eS)]]=some (.dict (eW W))/\W13 S J S.length W:=by
 obtain ⟨ρ',e,W,o2,o3,o4,o5,rfl,w⟩:=qaK (λk:Nat=>Km (k:Nat)) (g:=gNm 2) (u:=wH)
  (λdone ρ=>∃ (W:aP) (o2 o3 o4 o5:aD),ρ=[some '#',some (.dict (eW W)),o2,o3,o4,o5]/\W13 S J done.length W) (KN S.length) [some '#',some (.dict []),none,none,none,none]
  ⟨[],none,none,none,none,rfl,X6,Vh _,λp=>⟨λz=>(nomatch z),λ⟨a,b,_⟩=>absurd b (by simp;omega)⟩⟩ (by
   rintro k done rest ρ eall ⟨W,o2,o3,o4,o5,rfl,w⟩
   have hlt:done.length<S.length:=by
    have:=congrArg XO eall
    simp at this
    omega
   have hk:k=done.length:=by
    have h2:(KN S.length)[done.length]?=(done++k::rest)[done.length]?:=by rw [← eall]
    rw [XR hlt,Vi (Kp _),X5] at h2
    exact (V1 h2).symm
   subst hk
   obtain ⟨ys,es,py,_⟩:=qcb (xs:=J.filterMap (nbF S ((done.length:Nat):Int))) (by have:=Xl (nbF S ((done.length:Nat):Int)) J;have:=h.lj;omega)
   have nb:=qmu h.ok (by have:=h.lj;omega) es
   obtain ⟨W',o3',o4',o5',e,w'⟩:=qj4 h hlt w '#' py o3 o4 o5
   refine ⟨_,?_,W',some (.int (done.length:Nat)),o3',o4',o5',rfl,by rw [Kj,Kt];exact w'⟩
   simp_arith [-L2.Qs,-L2.Yy,nb,e])
 rw [KY] at w
 refine ⟨W,?_,w⟩
 have hr:(if (-1000:Int)<=(((S.map eC).length:Nat):Int)/\(((S.map eC).length:Nat):Int)<=1000 then some (rngL 0 ((((S.map eC).length:Nat):Int)).toNat) else none)=some ((KN S.length).map λk:Nat=>Km (k:Nat)):=by
  rw [Kf,bI (by have:=h.ls;omega),K4,jV]
 delta Z4 YZ
 simp_arith [hr,e]
def lk13 (S:aw)(J:List Sp)(a b:Int):Option Sp:=(J.filterMap (nbF S a)).find? λs=>decide (s.2.1=b)
theorem qlY {S:aw}{J:List Sp}{W:aP}(h:J13 S J)(w:W13 S J S.length W){a b:Int}:zF (eW W) (kC3 (a,b))=(lk13 S J a b).map λs=>eC (s.1,s.2.2):=by
 rw [qcu]
 cases hl:lk13 S J a b with
 | none =>
  rw [U8.mpr λp hp=>?_]
  ·rfl
  ·simp only [bW]
   intro z
   obtain ⟨_,_,s,hs,c⟩:=(w.iff p).mp hp
   unfold lk13 at hl
   rw [U8] at hl
   have e1:p.1.1=a:=by rw [z]
   rw [e1] at hs
   have e2:s.2.1=b:=by
    have:p.1.2=b:=by rw [z]
    rw [c] at this
    exact this
   exact hl s hs (bF e2)
 | some s =>
  have hl':(J.filterMap (nbF S a)).find? (λs=>decide (s.2.1=b))=some s:=hl
  have hs:=Uk hl'
  have hb:s.2.1=b:=by have z:=XW hl';exact bN z
  have av:=(yl h hs).1
  have mem:((a,b),(s.1,s.2.2))∈W:=(w.iff _).mpr ⟨av.1,av.2,s,hs,by rw [hb]⟩
  cases hf:W.find? λp=>decide (p.1=(a,b)) with
  | none =>
   rw [U8] at hf
   exact absurd (bF rfl) (hf _ mem)
  | some p =>
   have hp:=Uk hf
   have e:p.1=(a,b):=by have z:=XW hf;exact bN z
   rw [key13 w.nd hp mem e]
   rfl
theorem ix13 {S:aw}{J:List Sp}{W:aP}(h:J13 S J)(w:W13 S J S.length W){a b:Int}{s:Sp}(hl:lk13 S J a b=some s):ix2D (.dict (eW W)) (eC (a,b))=some (eC (s.1,s.2.2)):=by
 show ob (kxOf (eC (a,b))) (λks=>if kOk (eW W) ks=true then zF (eW W) ks else none)=_
 rw [show kxOf (eC (a,b))=some (kC3 (a,b)) from rfl,ob_s,bI (qhX _ _),qlY h w,hl]
 rfl
def QH (S:aw)(J:List Sp):List Ce->Nat->Sp3->Tr->Nat ⊕ (Sp3×Tr)
 | [],_,x,t=>.inr (x,t)
 | p::ps,n,x,t=>match lk13 S J p.1 p.2 with
  | none=>.inl n
  | some s=>QH S J ps (n+1) (spV x t s.1 s.2.2) (stV t s.1 s.2.2)
theorem yj {S:aw}{J:List Sp}(h:J13 S J){a b:Int}{s:Sp}(e:lk13 S J a b=some s):s.1∈Zz/\s.2.2∈zM:=by
 have e':(J.filterMap (nbF S a)).find? (λs=>decide (s.2.1=b))=some s:=e
 obtain ⟨t,ht,hs⟩:=UG.mp (Uk e')
 obtain ⟨p1,p2,a',b',ea,eb,ad⟩:=h.ok t ht
 have hb:=h.bd t ht
 rw [JR ea eb] at hs
 have w:wy a' b'=0\/wy a' b'=1:=by unfold wy;split<;>simp
 split at hs
 ·cases hs
  exact ⟨by rcases w with w|w<;>rw [show (wy a' b',t.2.1,t.2.2).1=wy a' b' from rfl,w]<;>decide,hb⟩
 ·split at hs
  ·cases hs
   exact ⟨by rcases w with w|w<;>rw [show (wy a' b'+2,t.1,t.2.2).1=wy a' b'+2 from rfl,w]<;>decide,hb⟩
  ·cases hs
theorem qjW (x:Sp3)(t:Tr):flat (encP x t)=true:=rfl
theorem qip {S:aw}{J:List Sp}{k:Int}(h0:0<=k)(h1:k<(S.length:Int)):ixD (eLS (nrL S J)) (.int k)=some (.list ((J.filterMap (nbF S k)).map eS)):=by
 have e:=qa6 (S:=S) J (k:=k.toNat) (by omega)
 rw [show ((k.toNat:Nat):Int)=k by omega] at e
 exact Zg h0 e
theorem qfM {S:aw}{J:List Sp}(h:J13 S J){ks:aA}(hk:∀ k∈ks,0<=k/\k<(S.length:Int)):∀ (m n:Nat) (x:Sp3) (t:Tr) (o3 o4:aD),n+m+1=ks.length->Tn t->
  match QH S J ((ks.zip (ks.drop 1)).drop n) n x t with
  | .inr r=>∃ r3 r4:Option Ka,forD (gNm 3) zK (rngL (n:Nat) m) [some (eLS (nrL S J)),some (.list (ks.map .int)),some (encP x t),o3,o4]=some (.nx [some (eLS (nrL S J)),some (.list (ks.map .int)),some (encP r.1 r.2),r3,r4])
  | .inl j=>forD (gNm 3) zK (rngL (n:Nat) m) [some (eLS (nrL S J)),some (.list (ks.map .int)),some (encP x t),o3,o4]=some (.rt (.int (j:Nat)))
 | 0,n,x,t,o3,o4,hn,ht=>by
  have e:(ks.zip (ks.drop 1)).drop n=[]:=EW (by rw [NL,Er];omega)
  rw [e]
  exact ⟨o3,o4,rfl⟩
 | m+1,n,x,t,o3,o4,hn,ht=>by
  obtain ⟨a,ea⟩:∃ a,ks[n]?=some a:=⟨_,Kk (by omega)⟩
  obtain ⟨b,eb⟩:∃ b,ks[n+1]?=some b:=⟨_,Kk (by omega)⟩
  obtain ⟨a0,a1⟩:=hk a (Va ea)
  have hz:(ks.zip (ks.drop 1))[n]?=some (a,b):=XU.mpr ⟨ea,by rw [List.getElem?_drop,Fh 1];exact eb⟩
  obtain ⟨hlt,he⟩:=Kl.mp hz
  rw [VH hlt,he]
  have x1:atI (ks.map Km) ((n:Nat):Int)=some (.int a):=qag (by rw [Ky,ea];rfl)
  have x2:atI (ks.map Km) (((n:Nat):Int)+1)=some (.int b):=qag (j:=n+1) (by rw [Ky,eb];rfl)
  have nx:=qip (J:=J) a0 a1
  have hc:Zc (tV (ev2 (ev2 (vr 5) '%' ixD) (ev2 (vr 1) (ev2 (vr 3) '%' Qk) ixD) eqD)) (vr 5) [some (eLS (nrL S J)),some (.list (ks.map .int)),some (encP x t),some (.int (n:Nat)),o4] ((J.filterMap (nbF S a)).map eS)=some (((J.filterMap (nbF S a)).filter λs=>decide (s.2.1=b)).map eS) :=
   yZ eS (λs=>decide (s.2.1=b)) eS _ (λs _=>by simp_arith [ixe1,x2];rfl) (λs _ _=>rfl)
  have hlen:((J.filterMap (nbF S a)).map eS).length<=1000:=by rw [Kf];have:=Xl (nbF S a) J;have:=h.lj;omega
  have hd:((J.filterMap (nbF S a)).filter λs=>decide (s.2.1=b)).head?=lk13 S J a b:=List.head?_filter ..
  have rn:rngL (n:Nat) (m+1)=.int (n:Nat)::rngL ((n+1:Nat):Int) m:=rfl
  unfold QH
  generalize hF:((J.filterMap (nbF S a)).filter λs=>decide (s.2.1=b))=F at hc hd
  cases F with
  | nil =>
   rw [← hd]
   dsimp only [List.head?_nil]
   have hb:zK [some (eLS (nrL S J)),some (.list (ks.map .int)),some (encP x t),some (.int (n:Nat)),o4]=some (.rt (.int (n:Nat))):=by
    simp_arith [x1,nx,hlen,hc]
   rw [rn,Qs]
   show forO (zK [some (eLS (nrL S J)),some (.list (ks.map .int)),some (encP x t),some (.int (n:Nat)),o4]) _ _ _=_
   rw [hb,qfx]
  | cons s F =>
   rw [← hd]
   dsimp only [List.head?_cons]
   obtain ⟨hw,hbd⟩:=yj h hd.symm
   have le:=qh6 x ht hw hbd
   have ih:=qfM h hk m (n+1) (spV x t s.1 s.2.2) (stV t s.1 s.2.2) (some (.int (n:Nat))) (some (.list ((s::F).map eS))) (by omega) (Tn.of (qi7 t ht.mem s.1 hw s.2.2 hbd))
   have hb:zK [some (eLS (nrL S J)),some (.list (ks.map .int)),some (encP x t),some (.int (n:Nat)),o4]=some (.nx [some (eLS (nrL S J)),some (.list (ks.map .int)),some (encP (spV x t s.1 s.2.2) (stV t s.1 s.2.2)),some (.int (n:Nat)),some (.list ((s::F).map eS))]):=by
    have l0:((((F.map eS).length+1:Nat):Int)==0)=false:=bP.mpr (by omega)
    simp_arith [x1,nx,hlen,hc,l0,ixe0,ixe2,le,qjW]
   rw [rn,Qs]
   show (match QH S J ((ks.zip (ks.drop 1)).drop (n+1)) (n+1) (spV x t s.1 s.2.2) (stV t s.1 s.2.2) with
    | .inr r=>∃ r3 r4:Option Ka,forO (zK [some (eLS (nrL S J)),some (.list (ks.map .int)),some (encP x t),some (.int (n:Nat)),o4]) _ _ _=_
    | .inl j=>forO (zK [some (eLS (nrL S J)),some (.list (ks.map .int)),some (encP x t),some (.int (n:Nat)),o4]) _ _ _=_)
   rw [hb,jc]
   exact ih
def due13:Nat ⊕ (Sp3×Tr)->Ka
 | .inl j=>.int (j:Nat)
 | .inr r=>encP r.1 r.2
theorem qgN {S:aw}{J:List Sp}(h:J13 S J){ks:aA}(hk:∀ k∈ks,0<=k/\k<(S.length:Int))(h0:0<ks.length)(hl:ks.length<=90)(x:Sp3){t:Tr}(ht:Tn t) :
  Qa [eLS (nrL S J),.list (ks.map .int),encP x t]=some (due13 (QH S J (ks.zip (ks.drop 1)) 0 x t)):=by
 have lp:=qfM h hk (ks.length-1) 0 x t none none (by omega) ht
 rw [List.drop_zero] at lp
 have hr:(if (-1000:Int)<=(((ks.map Km).length:Nat):Int)-1/\(((ks.map Km).length:Nat):Int)-1<=1000 then some (rngL 0 ((((ks.map Km).length:Nat):Int)-1).toNat) else none)=some (rngL ((0:Nat):Int) (ks.length-1)):=by
  rw [Kf,bI (by omega),show ((ks.length:Int)-1).toNat=ks.length-1 by omega]
  rfl
 delta Qa Jk
 cases hw:QH S J (ks.zip (ks.drop 1)) 0 x t with
 | inr r =>
  rw [hw] at lp
  dsimp only at lp
  obtain ⟨r3,r4,e⟩:=lp
  rw [Int.natCast_zero] at e hr
  simp_arith [-L2.rngL,hr,e]
  rfl
 | inl j =>
  rw [hw] at lp
  dsimp only at lp
  rw [Int.natCast_zero] at lp hr
  simp_arith [-L2.rngL,hr,lp]
  rfl
def eLn (l:aA):Ka:=.list (l.map .int)
def eL (LL:aE):Ka:=.list (LL.map eLn)
def In (LL:aE)(i x:Int):Prop:=∃ l,LL[i.toNat]?=some l/\x∈l
structure Lk (n m:Nat)(LL:aE):Prop where
 len:LL.length=n
 bd:∀ l∈LL,l.length<=m/\∀ x∈l,0<=x/\x<(n:Int)
theorem Lk.at {n m:Nat}{LL:aE}(h:Lk n m LL){i:Int}(h0:0<=i)(h1:i<(n:Int)):∃ l,LL[i.toNat]?=some l/\l∈LL:=by
 have hlt:i.toNat<LL.length:=by rw [h.len];omega
 exact ⟨LL[i.toNat],Kk hlt,Nt hlt⟩
theorem Lk.add {n m:Nat}{LL:aE}(h:Lk n m LL){i x:Int}{l:aA}(h0:0<=i)(e:LL[i.toNat]?=some l)(x0:0<=x)(x1:x<(n:Int)) :
  Lk n (m+1) (LL.set i.toNat (l++[x]))/\In (LL.set i.toNat (l++[x])) i x/\∀ j y,In LL j y->In (LL.set i.toNat (l++[x])) j y:=by
 obtain ⟨hlt,hl⟩:=Kl.mp e
 refine ⟨⟨by rw [VN];exact h.len,λq hq=>?_⟩,⟨l++[x],by rw [Vc hlt],by simp⟩,λj y ⟨q,hq,hy⟩=>?_⟩
 ·rcases List.mem_or_eq_of_mem_set hq with z|rfl
  ·exact ⟨El (h.bd q z).1,(h.bd q z).2⟩
  ·have hb:=h.bd l (by rw [← hl];exact Nt hlt)
   refine ⟨by rw [Kj,Kt];omega,λy hy=>?_⟩
   rcases KO.mp hy with z|z
   ·exact hb.2 y z
   ·rw [Ks.mp z];exact ⟨x0,x1⟩
 ·by_cases hj:i.toNat=j.toNat
  ·rw [← hj,e] at hq
   cases hq
   exact ⟨l++[x],by rw [← hj,Vc hlt],KM _ hy⟩
  ·exact ⟨q,by rw [VR hj];exact hq,hy⟩
theorem qh1 {LL:aE}{i x:Int}{l:aA}(h0:0<=i)(e:LL[i.toNat]?=some l)(hl:l.length<1000)(ρ:Rho):kapO (some (eL LL)) (some (.int i)) (some (.int x)) 2 ρ=some (.nx (ρ.set 2 (some (eL (LL.set i.toNat (l++[x])))))):=by
 obtain ⟨hlt,he⟩:=Kl.mp e
 have h1:Jw (eL LL) (.int i)=some i.toNat:=by
  show ixN (LL.map eLn).length i=_
  unfold ixN
  rw [bI h0,bI (by rw [Kf];omega)]
 have h2:wY (eL LL) i.toNat=some (eLn l):=by
  show (LL.map eLn)[i.toNat]?=_
  rw [Ky,e];rfl
 have h3:appD (eLn l) (.int x)=some (eLn (l++[x])):=by
  show (if (l.map Km).length<1000 then some (Vu (l.map Km++[.int x])) else none)=_
  rw [bI (by rw [Kf];exact hl)]
  unfold eLn
  rw [Kz]
  rfl
 have h4:YB (eL LL) i.toNat (eLn (l++[x]))=eL (LL.set i.toNat (l++[x])):=by
  show Vu ((LL.map eLn).set i.toNat (eLn (l++[x])))=_
  unfold eL
  rw [List.map_set]
 show ob (Jw (eL LL) (.int i)) _=_
 rw [h1,ob_s,h2,ob_s,h3,ob_s,h4]
theorem yc {t:aj}{body:ai}(I:Nat->Rho->Prop)(step:∀ m ρ,I m ρ->t ρ=some false\/(t ρ=some true/\∃ ρ' m',body ρ=some (.nx ρ')/\m'<m/\I m' ρ')) :
  ∀ (fuel m:Nat) (ρ:Rho),m<fuel->I m ρ->∃ ρ' m',Jm t body fuel ρ=some (.nx ρ')/\I m' ρ'/\t ρ'=some false
 | 0,_,_,h,_=>absurd h (Xb _)
 | fuel+1,m,ρ,h,i=>by
  rcases step m ρ i with e|⟨e,ρ1,m1,e1,hm,i1⟩
  ·refine ⟨ρ,m,?_,i,e⟩
   show ob (t ρ) _=_
   rw [e];rfl
  ·obtain ⟨ρ2,m2,e2,i2,e3⟩:=yc I step fuel m1 ρ1 (by omega) i1
   refine ⟨ρ2,m2,?_,i2,e3⟩
   show ob (t ρ) _=_
   rw [e,ob_s,bI rfl,e1,ob_s]
   exact e2
noncomputable abbrev Og:=Int×PyData
abbrev aK:=List Og
abbrev ky (os:aK):List Int:=os.map λp=>p.1
def eO (os:aK):List (Ka×PyData):=os.map λp=>(.int p.1,p.2)
theorem qeC (os:aK)(i:Int):kOk (eO os) (.inl i)=true:=by
 unfold kOk eO
 rw [NO]
 exact Vg.mpr λp _=>rfl
theorem qct (i:Int):∀ os:List Og,(zF (eO os) (.inl i)).isSome=decide (i∈ky os)
 | []=>rfl
 | p::os=>by
  have ih:=qct i os
  have e:zF (eO (p::os)) (.inl i)=if p.1=i then some p.2 else zF (eO os) (.inl i):=by
   unfold zF eO
   rw [Ku,V2]
   have:Kv (.int p.1) (kxD (.inl i))=(p.1==i):=rfl
   rw [this]
   by_cases h:p.1=i
   ·rw [bI h];simp [h]
   ·rw [bJ h]
    have:(p.1==i)=false:=bP.mpr h
    rw [this]
  rw [e]
  by_cases h:p.1=i
  ·rw [bI h];simp [h]
  ·rw [bJ h,ih]
   by_cases h2:i∈ky os
   ·rw [bF h2,bF (show i∈ky (p::os) from .tail _ h2)]
   ·rw [bH h2,bH (show ¬ i∈ky (p::os) from λz=>(Kr.mp z).elim (λz=>h z.symm) h2)]
theorem qin (os:aK)(i:Int):qfR (.int i) (.dict (eO os))=some (.bool (!decide (i∈ky os))):=by
 show ob (kxOf (.int i)) (λks=>if kOk (eO os) ks=true then some (UZ (!(zF (eO os) ks).isSome)) else none)=_
 have:kxOf (.int i)=some (.inl i):=rfl
 rw [this,ob_s,bI (qeC _ _),qct]
theorem qeW {os:aK}{i:Int}(d:Ka)(hl:os.length<900)(h:i∉ky os):wO (.dict (eO os)) (.int i) d=some (.dict (eO (os++[(i,d)]))):=by
 show ob (kxOf (.int i)) (λks=>if kOk (eO os) ks=true/\(eO os).length<1000 then some (EV (putD (eO os) ks d)) else none)=_
 have:kxOf (.int i)=some (.inl i):=rfl
 rw [this,ob_s,bI ⟨qeC _ _,by unfold eO;rw [Kf];omega⟩]
 unfold putD
 rw [qct,bH h,bJ (by decide)]
 unfold eO
 rw [Kz]
 rfl
def un (n:Nat)(os:aK):Nat:=(KN n).countP λk=>!decide (((k:Nat):Int)∈ky os)
theorem qhw {p q:Nat->Bool}:∀ {l:aq},(∀ x∈l,p x=true->q x=true)->(∃ x∈l,q x=true/\p x=false)->l.countP p<l.countP q
 | [],_,⟨_,h,_⟩=>by cases h
 | y::l,h1,⟨x,hx,h2,h3⟩=>by
  rw [List.countP_cons,List.countP_cons]
  have h1':∀ x∈l,p x=true->q x=true:=λx hx=>h1 x (.tail _ hx)
  rcases Kr.mp hx with rfl|hx
  ·have:=List.countP_mono_left h1'
   rw [bI h2,bJ (by rw [h3];decide)]
   omega
  ·have:=qhw h1' ⟨x,hx,h2,h3⟩
   have hy:=h1 y (.head _)
   cases hp:p y with
   | true=>rw [bI rfl,bI (hy hp)];omega
   | false=>rw [bJ (by decide)];omega
theorem qe8 {n:Nat}{os:aK}{i:Int}(d:Ka)(h0:0<=i)(h1:i<(n:Int))(h:i∉ky os):un n (os++[(i,d)])<un n os:=by
 refine qhw (λx _ hx=>?_) ⟨i.toNat,Ur.mpr (by omega),?_,?_⟩
 ·simp at hx ⊢
  exact λa b=>hx.1 a b
 ·have:((i.toNat:Nat):Int)=i:=by omega
  rw [this,bH h];rfl
 ·have:((i.toNat:Nat):Int)=i:=by omega
  rw [this,bF (by simp)];rfl
theorem pop0 (d:Ka)(ds:ae):YJ (.list (d::ds)) (.int 0)=some (d,.list ds):=by
 show ob (if (-1000:Int)<=0/\(0:Int)<=1000 then cM 0 (d::ds).length else none) _=_
 rw [bI ⟨by decide,by decide⟩,seqIx (NX 0) (by rw [Kw];omega),ob_s]
 rfl
def uu (w b:Int):Sp3:=addS (unV idT w) (beV idT w b)
theorem qe3:∀ t∈qF,∀ w∈Zz,∀ b∈zM,stV t w b=mulT (stV idT w b) t/\addS (unV t w) (beV t w b)=app t (uu w b):=by decide +kernel
theorem qil:∀ s∈qF,∀ t∈qF,mulT s t∈qF:=by decide +kernel
theorem qi6 {x:Sp3}{t:Tr}{w b:Int}(ht:t∈qF)(hw:w∈Zz)(hb:b∈zM):spV x t w b=addS x (app t (uu w b)):=by
 unfold spV
 rw [QS,(qe3 t ht w hw b hb).2]
def mvP (p q:aL):Sp3×Tr:=(addS p.1 (app p.2 q.1),mulT q.2 p.2)
def ledP (q:aL)(s:Sp):Sp3×Tr:=(spV q.1 q.2 s.1 s.2.2,stV q.2 s.1 s.2.2)
theorem qeJ {p q:aL}(hp:p.2∈qF)(hq:q.2∈qF){s:Sp}(hw:s.1∈Zz)(hb:s.2.2∈zM):ledP (mvP p q) s=mvP p (ledP q s):=by
 have hm:=qil q.2 hq p.2 hp
 unfold ledP mvP
 dsimp only
 rw [qi6 hm hw hb,qi6 hq hw hb,(qe3 _ hm _ hw _ hb).1,(qe3 _ hq _ hw _ hb).1,qaB,qhj,QS,JQ]
theorem qaY {q:aL}(hq:q.2∈qF){s:Sp}(hw:s.1∈Zz)(hb:s.2.2∈zM):(ledP q s).2∈qF:=qi7 q.2 hq s.1 hw s.2.2 hb
theorem qgg {S:aw}{J:List Sp}(h:J13 S J){p:aL}(hp:p.2∈qF):∀ (ps:aw) (n:Nat) (q:aL),q.2∈qF->
  QH S J ps n (mvP p q).1 (mvP p q).2=match QH S J ps n q.1 q.2 with | .inl m=>.inl m | .inr r=>.inr (mvP p r)
 | [],n,q,hq=>rfl
 | c::ps,n,q,hq=>by
  unfold QH
  cases hl:lk13 S J c.1 c.2 with
  | none=>rfl
  | some s =>
   obtain ⟨hw,hb⟩:=yj h hl
   have e:=qeJ hp hq hw hb
   have ih:=qgg h hp ps (n+1) (ledP q s) (qaY hq hw hb)
   dsimp only
   rw [← e] at ih
   exact ih
theorem qkp {p q r:aL}(hp:p.2∈qF)(e:mvP p q=mvP p r):q=r:=by
 unfold mvP at e
 obtain ⟨e1,e2⟩:=Prod.mk.inj e
 have i:=(tr_id p.2 hp).1
 have f1:q.1=r.1:=by
  have h1:=congrArg (λz=>app (trT p.2) (addS (negS p.1) z)) e1
  rw [← QS,qcU,zero_add,← QS,qcU,zero_add,← qaB,← qaB,i,qfe,qfe] at h1
  exact h1
 have f2:q.2=r.2:=by
  have h2:=congrArg (λz=>mulT z (trT p.2)) e2
  rw [JQ,JQ,i,qdV,qdV] at h2
  exact h2
 exact Prod.ext f1 f2
theorem qaZ {q:aL}(hq:q.2∈qF){s s':Sp}(hw:s.1∈Zz)(hb:s.2.2∈zM)(e1:s'.1=(s.1+2) % 4)(e2:s'.2.2=s.2.2):ledP (ledP q s) s'=q:=by
 obtain ⟨h1,h2⟩:=qlb q.2 hq s.1 hw s.2.2 hb
 unfold ledP
 dsimp only
 rw [e1,e2,h1]
 refine Prod.ext ?_ rfl
 show spV (spV q.1 q.2 s.1 s.2.2) (stV q.2 s.1 s.2.2) ((s.1+2) % 4) s.2.2=q.1
 unfold spV
 rw [QS q.1,QS,QS q.1,h2,Wr]
def Only (J:List Sp)(LL:aE):Prop:=∀ k x,0<=k->In LL k x->∃ t∈J,(k=t.1/\x=t.2.1)\/(k=t.2.1/\x=t.1)
theorem qhS {LL:aE}{i x j y:Int}{l:aA}(e:LL[i.toNat]?=some l)(h:In (LL.set i.toNat (l++[x])) j y):In LL j y\/(j.toNat=i.toNat/\y=x):=by
 obtain ⟨q,hq,hy⟩:=h
 obtain ⟨hlt,_⟩:=Kl.mp e
 by_cases hj:i.toNat=j.toNat
 ·rw [← hj,Vc hlt] at hq
  cases hq
  rcases KO.mp hy with z|z
  ·exact .inl ⟨l,by rw [← hj];exact e,z⟩
  ·exact .inr ⟨hj.symm,Ks.mp z⟩
 ·rw [VR hj] at hq
  exact .inl ⟨q,hq,hy⟩
theorem qkj {n:Nat}(hn:n<=100){J:List Sp}(hJ:∀ t∈J,(0<=t.1/\t.1<(n:Int))/\0<=t.2.1/\t.2.1<(n:Int))(hl:J.length<=100):∃ LL:List (List Int),Z3 [.int (n:Nat),.list (J.map eS)]=some (eL LL)/\Lk n 900 LL/\(∀ t∈J,In LL t.1 t.2.1/\In LL t.2.1 t.1)/\Only J LL:=by
 have hv:∀ o1 o2 o3:Option Ka,qbS 4 1 (evR (aC (vr 0) aN) Zy) (gNm 4) tT (evA aN lstD) [some (.int (n:Nat)),o1,o2,o3]=some (eL ((KN n).map λ_=>[])):=λo1 o2 o3=>by
  have hc:QM 1 (gNm 4) tT (evA aN lstD) [some (.int (n:Nat)),o1,o2,o3] ((KN n).map λk:Nat=>Km (k:Nat))=some ((KN n).map λ_=>.list []) :=
   Js (λk:Nat=>Km (k:Nat)) _ (KN n) λa _=>by simp_arith []
  have hr:(if (-1000:Int)<=((n:Nat):Int)/\((n:Nat):Int)<=1000 then some (rngL 0 (((n:Nat):Int)).toNat) else none)=some ((KN n).map λk:Nat=>Km (k:Nat)):=by
   rw [bI (by omega),K4,jV]
  have hlen:((KN n).map λk:Nat=>Km (k:Nat)).length<=1000:=by rw [Kf,KY];omega
  have hg:jh 4 1 (evR (aC (vr 0) aN) Zy) (gNm 4) tT (evA aN lstD) [some (.int (n:Nat)),o1,o2,o3]=some (.list ((KN n).map λ_=>.list [])):=by
   simp_arith [hr,hlen,hc]
  show ob (jh 4 1 (evR (aC (vr 0) aN) Zy) (gNm 4) tT (evA aN lstD) [some (.int (n:Nat)),o1,o2,o3]) _=_
  rw [hg,ob_s]
  show (if ((KN n).map λ_=>Vu []).all jN=true then some (Vu ((KN n).map λ_=>Vu [])) else none)=_
  rw [bI (by rw [NO];exact Vg.mpr λ_ _=>rfl)]
  unfold eL
  rw [Vj]
  rfl
 obtain ⟨ρ',el,LL,o3,rfl,lk,hin,ho⟩:=QC eS (g:=gNm 3) (u:=wG)
  (λdone ρ=>∃ (LL:aE) (o3:aD),ρ=[some (.int (n:Nat)),some (.list (J.map eS)),some (eL LL),o3]/\Lk n (2*done.length) LL/\(∀ t∈done,In LL t.1 t.2.1/\In LL t.2.1 t.1)/\Only done LL) J [some (.int (n:Nat)),some (.list (J.map eS)),some (eL ((KN n).map λ_=>[])),none] ⟨_,none,rfl,⟨by rw [Kf,KY],λl hl=>by obtain ⟨_,_,rfl⟩:=K3.mp hl;exact ⟨Vh _,λx hx=>by cases hx⟩⟩,(λt ht=>by cases ht),λk x _ ⟨l,hl,hx⟩=>by rw [Ky] at hl;obtain ⟨_,_,rfl⟩:=UD.mp hl;cases hx⟩ (by
   rintro t ht done ρ hdl ⟨LL,o3,rfl,lk,hin,ho⟩
   obtain ⟨⟨a0,a1⟩,b0,b1⟩:=hJ t ht
   obtain ⟨l,e1,ml⟩:=lk.at a0 a1
   have hl1:=(lk.bd l ml).1
   obtain ⟨lk2,in2,mono2⟩:=lk.add a0 e1 b0 b1
   obtain ⟨l2,e2,ml2⟩:=lk2.at b0 b1
   have hl2:=(lk2.bd l2 ml2).1
   obtain ⟨lk3,in3,mono3⟩:=lk2.add b0 e2 a0 a1
   have k1:=qh1 (x:=t.2.1) a0 e1 (by omega)
   have k2:=qh1 (x:=t.1) b0 e2 (by omega)
   refine ⟨_,?_,_,some (eS t),rfl,by rw [Kj,Kt];exact lk3,λs hs=>?_,λk x hk hx=>?_⟩
   ·simp_arith [ixe0,ixe1,k1,k2]
   ·rcases KO.mp hs with z|z
    ·exact ⟨mono3 _ _ (mono2 _ _ (hin s z).1),mono3 _ _ (mono2 _ _ (hin s z).2)⟩
    ·rw [Ks.mp z]
     exact ⟨mono3 _ _ in2,in3⟩
   ·rcases qhS e2 hx with z|⟨z1,z2⟩
    ·rcases qhS e1 z with y|⟨y1,y2⟩
     ·obtain ⟨s,hs,q⟩:=ho k x hk y
      exact ⟨s,KM _ hs,q⟩
     ·exact ⟨t,KG _ (Ks.mpr rfl),.inl ⟨by omega,y2⟩⟩
    ·exact ⟨t,KG _ (Ks.mpr rfl),.inr ⟨by omega,z2⟩⟩)
 refine ⟨LL,?_,⟨lk.len,λl h=>⟨by have:=(lk.bd l h).1;omega,(lk.bd l h).2⟩⟩,hin,ho⟩
 delta Z3 YX
 simp_arith [hv,el]
structure Tk (n:Nat)(f0:Int)(LL:aE)(os:aK)(ws:aA):Prop where
 kr:∀ k∈ky os,0<=k/\k<(n:Int)
 wk:∀ w∈ws,w∈ky os
 nd:(ky os).Nodup
 hd:os[0]?=some (f0,.none)
 par:∀ (i:Nat) (k:Int) (d:Ka),os[i]?=some (k,d)->0<i->∃ (j:Nat) (q:Int),j<i/\d=.int q/\(ky os)[j]?=some q/\In LL q k
 size:os.length+un n os<=n+1
 wsz:ws.length<=os.length
theorem qam (os:aK)(j:Int)(d:Ka):ky (os++[(j,d)])=ky os++[j]:=by unfold ky;rw [Kz];rfl
theorem Tk.add {n:Nat}{f0:Int}{LL:aE}{os:aK}{ws:aA}(b:Tk n f0 LL os ws){w j:Int}(hw:w∈ky os)(hi:In LL w j)(j0:0<=j)(j1:j<(n:Int))(hj:j∉ky os):Tk n f0 LL (os++[(j,.int w)]) (ws++[j]):=by
 have hu:=qe8 (.int w) j0 j1 hj
 have l0:0<os.length:=(Kl.mp b.hd).1
 refine ⟨λk hk=>?_,λk hk=>?_,?_,by rw [KL l0];exact b.hd,λi k d e hi0=>?_,?_,?_⟩
 ·rw [qam] at hk
  rcases KO.mp hk with z|z
  ·exact b.kr k z
  ·rw [Ks.mp z];exact ⟨j0,j1⟩
 ·rw [qam]
  rcases KO.mp hk with z|z
  ·exact KM _ (b.wk k z)
  ·exact KG _ z
 ·rw [qam,Ux]
  exact ⟨b.nd,by simp,λa ha c hc z=>hj (by rw [← Ks.mp hc,← z];exact ha)⟩
 ·rw [qam]
  by_cases hl:i<os.length
  ·rw [KL hl] at e
   obtain ⟨m,q,h1,h2,h3,h4⟩:=b.par i k d e hi0
   exact ⟨m,q,h1,h2,by rw [KL (Kl.mp h3).1];exact h3,h4⟩
  ·have hi2:i=os.length:=by
    have:=(Kl.mp e).1
    rw [Kj,Kt] at this
    omega
   subst hi2
   rw [Vi (Kp _),X5] at e
   cases e
   obtain ⟨m,hm⟩:=V3 hw
   have hlt:=(Kl.mp hm).1
   exact ⟨m,w,by unfold ky at hlt;rw [Kf] at hlt;exact hlt,rfl,by rw [KL hlt];exact hm,hi⟩
 ·have:=b.size
  rw [Kj,Kt];omega
 ·have:=b.wsz
  rw [Kj,Kj,Kt,Kt];omega
theorem qjU {os:aK}(nd:(ky os).Nodup):∀ {i:Nat} {k:Int} {d:Ka},os[i]?=some (k,d)->zF (eO os) (.inl k)=some d:=by
 induction os with
 | nil=>intro i k d e;cases e
 | cons p os ih =>
  intro i k d e
  have ec:zF (eO (p::os)) (.inl k)=if p.1=k then some p.2 else zF (eO os) (.inl k):=by
   unfold zF eO
   rw [Ku,V2]
   have:Kv (.int p.1) (kxD (.inl k))=(p.1==k):=rfl
   rw [this]
   by_cases h:p.1=k
   ·rw [bI h];simp [h]
   ·rw [bJ h,bP.mpr h]
  rw [ec]
  have nd':p.1∉ky os/\(ky os).Nodup:=Xq.mp nd
  cases i with
  | zero=>cases e;rw [bI rfl]
  | succ i =>
   have e':os[i]?=some (k,d):=e
   have hk:k∈ky os:=K3.mpr ⟨(k,d),Va e',rfl⟩
   rw [bJ (λz=>nd'.1 (by rw [z];exact hk))]
   exact ih nd'.2 e'
theorem qdE {os:aK}(nd:(ky os).Nodup){i:Nat}{k:Int}{d:Ka}(e:os[i]?=some (k,d)):ix2D (.dict (eO os)) (.int k)=some d:=by
 show ob (kxOf (.int k)) (λks=>if kOk (eO os) ks=true then zF (eO os) ks else none)=_
 rw [show kxOf (.int k)=some (.inl k) from rfl,ob_s,bI (qeC _ _),qjU nd e]
theorem qkY {n:Nat}(hn:n<=100){f0:Int}(hf:0<=f0/\f0<(n:Int)){LL:aE}(lk:Lk n 900 LL):∃ os:List Og,Qy [.int f0,eL LL]=some (.dict (eO os))/\Tk n f0 LL os []/\(∀ k∈ky os,∀ x,In LL k x->x∈ky os):=by
 obtain ⟨ρ',m',ew,⟨os,ws,o4,o5,rfl,bf,cl,-⟩,et⟩:=yc (t:=tW (vr 3)) (body:=Z0)
  (λm ρ=>∃ (os:aK) (ws:aA) (o4 o5:aD),ρ=[some (.int f0),some (eL LL),some (.dict (eO os)),some (.list (ws.map .int)),o4,o5]/\Tk n f0 LL os ws/\(∀ k∈ky os,k∉ws->∀ x,In LL k x->x∈ky os)/\m=2*un n os+ws.length) (by
   rintro m ρ ⟨os,ws,o4,o5,rfl,bf,cl,rfl⟩
   cases ws with
   | nil=>exact .inl (by simp_arith [VF,tW_b,qno])
   | cons w ws =>
    refine .inr ⟨by simp_arith [Ku,tW_b,qjg],?_⟩
    have hwk:=bf.wk w (.head _)
    obtain ⟨w0,w1⟩:=bf.kr w hwk
    obtain ⟨l,e1,ml⟩:=lk.at w0 w1
    have hlb:=(lk.bd l ml).2
    have hix:ixD (eL LL) (.int w)=some (eLn l):=by
     show atI (LL.map eLn) w=_
     exact Zg w0 e1
    obtain ⟨ρ1,el,os1,ws1,o5',rfl,b1,g1,g2,g3,g4,g5⟩:=QC Km (g:=gNm 5) (u:=Jq)
     (λdone ρ=>∃ (os1:aK) (ws1:aA) (o5:aD),ρ=[some (.int f0),some (eL LL),some (.dict (eO os1)),some (.list (ws1.map .int)),some (.int w),o5]/\Tk n f0 LL os1 ws1/\(∀ x∈done,x∈ky os1)/\(∀ k∈ky os,k∈ky os1)/\(∀ k∈ws,k∈ws1)/\(∀ k∈ky os1,k∉ws1->k∈ky os)/\2*un n os1+ws1.length<=2*un n os+ws.length) l [some (.int f0),some (eL LL),some (.dict (eO os)),some (.list (ws.map .int)),some (.int w),o5] ⟨os,ws,o5,rfl,⟨bf.kr,λk hk=>bf.wk k (.tail _ hk),bf.nd,bf.hd,bf.par,bf.size,by have:=bf.wsz;rw [Kw] at this;omega⟩,(λx hx=>by cases hx),λk h=>h,λk h=>h,λk h _=>h,Kp _⟩ (by
      rintro j hj done ρ hdl ⟨os1,ws1,o5,rfl,b1,g1,g2,g3,g4,g5⟩
      obtain ⟨j0,j1⟩:=hlb j hj
      have hni:=qin os1 j
      have hol:os1.length<900:=by have:=b1.size;omega
      by_cases hin:j∈ky os1
      ·refine ⟨_,?_,os1,ws1,some (.int j),rfl,b1,λx hx=>?_,g2,g3,g4,g5⟩
       ·simp_arith [hni,bF hin]
       ·rcases KO.mp hx with z|z
        ·exact g1 x z
        ·rw [Ks.mp z];exact hin
      ·have hp:=qeW (.int w) hol hin
       have hu:=qe8 (.int w) j0 j1 hin
       have hz:(ws1.map Km).length<1000:=by rw [Kf];have:=b1.wsz;omega
       have mk:∀ k,k∈ky (os1++[(j,Km w)])↔k∈ky os1\/k=j:=λk=>by unfold ky;rw [Kz,KO];simp
       refine ⟨_,?_,os1++[(j,.int w)],ws1++[j],some (.int j),rfl,b1.add (g2 w hwk) ⟨l,e1,hj⟩ j0 j1 hin,λx hx=>?_,λk hk=>(mk k).mpr (.inl (g2 k hk)),λk hk=>KM _ (g3 k hk),λk hk hw=>?_,?_⟩
       ·simp_arith [hni,bH hin,hp,hz]
        simp only [Kz,Ku,VF]
       ·rcases KO.mp hx with z|z
        ·exact (mk x).mpr (.inl (g1 x z))
        ·exact (mk x).mpr (.inr (Ks.mp z))
       ·rcases (mk k).mp hk with z|rfl
        ·exact g4 k z λy=>hw (KM _ y)
        ·exact absurd (KG _ (Ks.mpr rfl)) hw
       ·rw [Kj,Kt];omega)
    refine ⟨_,_,?_,?_,os1,ws1,some (.int w),o5',rfl,b1,λk hk hkw x hx=>?_,rfl⟩
    ·have hp0:=pop0 (.int w) (ws.map .int)
     have sq:seqD (eLn l)=some (l.map .int):=rfl
     simp_arith [Ku,hp0,hix,sq,el]
    ·rw [Kw];omega
    ·by_cases hkk:k=w
     ·subst hkk
      obtain ⟨l',el',hx'⟩:=hx
      rw [e1] at el'
      cases el'
      exact g1 x hx'
     ·exact g2 x (cl k (g4 k hk hkw) (λz=>(Kr.mp z).elim hkk λz=>hkw (g3 k z)) x hx)) 1000000 (2*un n [(f0,.none)]+1) [some (.int f0),some (eL LL),some (.dict (eO [(f0,.none)])),some (.list ([f0].map .int)),none,none] (by
   have:un n [(f0,.none)]<=n:=by
    unfold un
    exact Ve XD (by rw [KY];exact Kp _)
   omega) ⟨[(f0,.none)],[f0],none,none,rfl,⟨λk hk=>by rw [Ks.mp hk];exact hf,λw hw=>hw,by unfold Na;exact EF _ _,rfl,λi k d e hi=>(by cases i with | zero=>exact absurd hi (Uc _)|succ i=>cases e),by
    have:un n [(f0,.none)]<=n:=by
     unfold un
     exact Ve XD (by rw [KY];exact Kp _)
    rw [Kt];omega,Kp _⟩,λk hk hw=>absurd hk hw,rfl⟩
 have hws:ws=[]:=by
  cases ws with
  | nil=>rfl
  | cons w ws =>
   simp_arith [Ku,tW_b,qjg] at et
   cases et
 subst hws
 refine ⟨os,?_,bf,λk hk x hx=>cl k hk (λz=>by cases z) x hx⟩
 have hw:JX (tW (vr 3)) Z0 [some (.int f0),some (eL LL),some (.dict [(.int f0,.none)]),some (.list [.int f0]),none,none]=some (.nx [some (.int f0),some (eL LL),some (.dict (eO os)),some (.list []),o4,o5]):=ew
 have d1:qaH (.int f0) .none=some (.dict [(.int f0,.none)]):=rfl
 delta Qy j4
 simp_arith [d1,hw]
theorem qim {α β:Type}{f:α->β}:∀ {xs:List α},(xs.map f).Nodup->∀ {x y:α},x∈xs->y∈xs->f x=f y->x=y
 | [],_,_,_,hx,_,_=>nomatch hx
 | z::xs,nd,x,y,hx,hy,e=>by
  rw [Ku,Xq] at nd
  rcases Kr.mp hx with zx|hx
  ·rcases Kr.mp hy with zy|hy
   ·exact zx.trans zy.symm
   ·exact absurd (K3.mpr ⟨y,hy,by rw [← e,zx]⟩) nd.1
  ·rcases Kr.mp hy with zy|hy
   ·exact absurd (K3.mpr ⟨x,hx,by rw [e,zy]⟩) nd.1
   ·exact qim nd.2 hx hy e
theorem Z6 {S:aw}{J:List Sp}{a b:Int}{s:Sp}(e:lk13 S J a b=some s):s∈J.filterMap (nbF S a)/\s.2.1=b:=by
 have e':(J.filterMap (nbF S a)).find? (λs=>decide (s.2.1=b))=some s:=e
 exact ⟨Uk e',bN (XW (p:=λs:Sp=>decide (s.2.1=b)) e')⟩
theorem qfL {S:aw}{J:List Sp}(h:J13 S J){a:Int}{s:Sp}(hs:s∈J.filterMap (nbF S a)):lk13 S J a s.2.1=some s:=by
 cases e:lk13 S J a s.2.1 with
 | none =>
  have e':(J.filterMap (nbF S a)).find? (λz=>decide (z.2.1=s.2.1))=none:=e
  have:=U8.mp e' s hs
  exact absurd (bF rfl) this
 | some z =>
  obtain ⟨hz,e2⟩:=Z6 e
  rw [qim (qlw h a) hz hs e2]
theorem lk_t {S:aw}{J:List Sp}(h:J13 S J){t:Sp}(ht:t∈J):∃ w:Int,(w=0\/w=1)/\lk13 S J t.1 t.2.1=some (w,t.2.1,t.2.2)/\lk13 S J t.2.1 t.1=some (w+2,t.1,t.2.2):=by
 obtain ⟨p1,p2,a,b,ea,eb,ad⟩:=h.ok t ht
 have w:wy a b=0\/wy a b=1:=by unfold wy;split<;>simp
 have ne:t.1≠t.2.1:=λz=>by
  rw [z,eb] at ea
  exact qhi ad (V1 ea).symm
 refine ⟨wy a b,w,qfL (s:=(wy a b,t.2.1,t.2.2)) h (UG.mpr ⟨t,ht,?_⟩),qfL (s:=(wy a b+2,t.1,t.2.2)) h (UG.mpr ⟨t,ht,?_⟩)⟩
 ·rw [JR ea eb,bI rfl]
 ·rw [JR ea eb,bJ ne,bI rfl]
theorem qcQ {S:aw}{J:List Sp}(h:J13 S J){a b:Int}{s:Sp}(e:lk13 S J a b=some s):∃ t∈J,(a=t.1/\b=t.2.1)\/(a=t.2.1/\b=t.1):=by
 obtain ⟨hs,rfl⟩:=Z6 e
 obtain ⟨t,ht,hn⟩:=UG.mp hs
 obtain ⟨p1,p2,a',b',ea,eb,ad⟩:=h.ok t ht
 rw [JR ea eb] at hn
 split at hn
 ·rename_i k1
  cases hn
  exact ⟨t,ht,.inl ⟨k1.symm,rfl⟩⟩
 ·split at hn
  ·rename_i k1
   cases hn
   exact ⟨t,ht,.inr ⟨k1.symm,rfl⟩⟩
  ·cases hn
theorem qa1 {S:aw}{J:List Sp}(h:J13 S J){a b:Int}{s:Sp}(e:lk13 S J a b=some s):∃ s',lk13 S J b a=some s'/\s'.1=(s.1+2) % 4/\s'.2.2=s.2.2:=by
 obtain ⟨t,ht,q⟩:=qcQ h e
 obtain ⟨w,hw,e1,e2⟩:=lk_t h ht
 rcases q with ⟨rfl,rfl⟩|⟨rfl,rfl⟩
 ·rw [e1] at e
  cases e
  exact ⟨_,e2,by show w+2=(w+2) % 4;omega,rfl⟩
 ·rw [e2] at e
  cases e
  exact ⟨_,e1,by show w=(w+2+2) % 4;omega,rfl⟩
theorem lk_in {S:aw}{J:List Sp}(h:J13 S J){LL:aE}(on:Only J LL){a b:Int}(ha:0<=a)(hi:In LL a b):∃ s,lk13 S J a b=some s:=by
 obtain ⟨t,ht,q⟩:=on a b ha hi
 obtain ⟨w,_,e1,e2⟩:=lk_t h ht
 rcases q with ⟨rfl,rfl⟩|⟨rfl,rfl⟩
 ·exact ⟨_,e1⟩
 ·exact ⟨_,e2⟩
structure Wy (S:aw)(J:List Sp)(os:aK)(f0:Int)(p0:aL)(P:ar)(m:Nat):Prop where
 at0:P f0=p0
 tn:∀ i k d,i<m->os[i]?=some (k,d)->(P k).2∈qF
 al:∀ i k d,i<m->os[i]?=some (k,d)->0<i->∃ (j:Nat) (q:Int) (dq:Ka) (s:Sp),j<i/\d=.int q/\os[j]?=some (q,dq)/\lk13 S J q k=some s/\P k=ledP (P q) s
theorem qb3 {os:aK}{j:Nat}{q:Int}(e:(ky os)[j]?=some q):∃ d,os[j]?=some (q,d):=by
 unfold ky at e
 rw [Ky] at e
 obtain ⟨p,hp,rfl⟩:=UD.mp e
 exact ⟨p.2,hp⟩
theorem og_ix {os:aK}(nd:(ky os).Nodup){i j:Nat}{k:Int}{d d':Ka}(e:os[i]?=some (k,d))(e':os[j]?=some (k,d')):i=j:=by
 have a:(ky os)[i]?=some k:=by unfold ky;rw [Ky,e];rfl
 have b:(ky os)[j]?=some k:=by unfold ky;rw [Ky,e'];rfl
 exact (List.getElem?_inj (Kl.mp a).1 nd).mp (a.trans b.symm)
theorem qjf {S:aw}{J:List Sp}(h:J13 S J){LL:aE}(on:Only J LL){f0:Int}{os:aK}(tk:Tk S.length f0 LL os []){p0:aL}(hp:p0.2∈qF):∀ m,m<=os.length->∃ P,Wy S J os f0 p0 P m
 | 0,_=>⟨λ_=>p0,rfl,λ_ _ _ h=>absurd h (Xb _),λ_ _ _ h=>absurd h (Xb _)⟩
 | 1,_=>⟨λ_=>p0,rfl,λ_ _ _ _ _=>hp,λi _ _ h _ h0=>absurd h0 (by omega)⟩
 | m+2,hm=>by
  obtain ⟨P,w⟩:=qjf h on tk hp (m+1) (by omega)
  obtain ⟨⟨k,d⟩,ek⟩:∃ o,os[m+1]?=some o:=⟨_,Kk (by omega)⟩
  obtain ⟨j,q,hj,rfl,ej,hi⟩:=tk.par (m+1) k d ek (by omega)
  obtain ⟨dq,ej⟩:=qb3 ej
  obtain ⟨q0,q1⟩:=tk.kr q (K3.mpr ⟨_,Va ej,rfl⟩)
  obtain ⟨s,es⟩:=lk_in h on q0 hi
  obtain ⟨hw,hb⟩:=yj h es
  have nk:∀ i k' d',i<m+1->os[i]?=some (k',d')->k'≠k:=λi k' d' hi e z=>by
   subst z
   have:=og_ix tk.nd e ek
   omega
  have f0k:f0≠k:=nk 0 f0 .none (by omega) tk.hd
  refine ⟨λx=>if x=k then ledP (P q) s else P x,by rw [bJ f0k];exact w.at0,λi k' d' hi e=>?_,λi k' d' hi e h0=>?_⟩
  ·by_cases z:i=m+1
   ·subst z
    rw [ek] at e
    cases e
    rw [bI rfl]
    exact qaY (w.tn j q dq hj ej) hw hb
   ·rw [bJ (nk i k' d' (by omega) e)]
    exact w.tn i k' d' (by omega) e
  ·by_cases z:i=m+1
   ·subst z
    rw [ek] at e
    cases e
    exact ⟨j,q,dq,s,hj,rfl,ej,es,by rw [bI rfl,bJ (nk j q dq hj ej)]⟩
   ·obtain ⟨j',q',dq',s',h1,h2,h3,h4,h5⟩:=w.al i k' d' (by omega) e h0
    exact ⟨j',q',dq',s',h1,h2,h3,h4,by rw [bJ (nk i k' d' (by omega) e),bJ (nk j' q' dq' (by omega) h3)];exact h5⟩
def poD (P:ar)(k:Int):Ka:=encP (P k).1 (P k).2
def dP (os:aK)(P:ar):List Og:=os.map λo=>(o.1,poD P o.1)
theorem qfH (os:aK)(P:ar):ky (dP os P)=ky os:=by unfold ky dP;rw [Vj];rfl
theorem qhA {os:aK}{P:ar}{i:Nat}{k:Int}{d:Ka}(e:os[i]?=some (k,d)):(dP os P)[i]?=some (k,poD P k):=by
 unfold dP;rw [Ky,e];rfl
theorem qkP {S:aw}{J:List Sp}(h:J13 S J){W:aP}(w13:W13 S J S.length W){LL:aE}{f0:Int}{os:aK}(tk:Tk S.length f0 LL os []){p0:aL}{P:ar}(w:Wy S J os f0 p0 P os.length) :
  QG [.dict (eW W),.dict (eO os),encP p0.1 p0.2]=some (.dict (eO (dP os P))):=by
 have ol:os.length<=900:=by have:=tk.size;have:=h.ls;omega
 obtain ⟨ρ',el,o4,o5,rfl⟩:=qaK (λo:Og=>Vk [.int o.1,o.2]) (g:=unpD 2 (gsC (gNm 4) (gsC (gNm 5) gsN))) (u:=yg)
  (λdone ρ=>∃ o4 o5:Option Ka,ρ=[some (.dict (eW W)),some (.dict (eO os)),some (encP p0.1 p0.2),some (.dict (eO (dP done P))),o4,o5]) os [some (.dict (eW W)),some (.dict (eO os)),some (encP p0.1 p0.2),some (.dict []),none,none] ⟨none,none,rfl⟩ (by
   rintro ⟨k,d⟩ done rest ρ eall ⟨o4,o5,rfl⟩
   have dl:done.length<900:=by have:=congrArg XO eall;simp at this;omega
   have nk:k∉ky (dP done P):=λz=>by
    rw [qfH] at z
    have nd:=tk.nd
    rw [eall] at nd
    unfold ky at nd z
    rw [Kz,Ux] at nd
    exact nd.2.2 k z k (by simp) rfl
   have put:=qeW (os:=dP done P) (poD P k) (by unfold dP;rw [Kf];exact dl) nk
   have fl:flat (poD P k)=true:=rfl
   have hd:unpD 2 (gsC (gNm 4) (gsC (gNm 5) gsN)) (Vk [.int k,d]) [some (.dict (eW W)),some (.dict (eO os)),some (encP p0.1 p0.2),some (.dict (eO (dP done P))),o4,o5]=some [some (.dict (eW W)),some (.dict (eO os)),some (encP p0.1 p0.2),some (.dict (eO (dP done P))),some (.int k),some d]:=rfl
   rw [hd,ob_s]
   have ap:dP (done++[(k,d)]) P=dP done P++[(k,poD P k)]:=by unfold dP;rw [Kz];rfl
   have ek:os[done.length]?=some (k,d):=by rw [eall,Vi (Kp _),X5];rfl
   refine ⟨_,?_,some (.int k),some d,rfl⟩
   rw [ap]
   by_cases h0:done.length=0
   ·have hz:=tk.hd
    rw [h0] at ek
    rw [ek] at hz
    cases hz
    have e0:poD P f0=encP p0.1 p0.2:=by unfold poD;rw [w.at0]
    rw [e0] at put ⊢
    have fl:flat (encP p0.1 p0.2)=true:=rfl
    have hi:isD .none .none=some (.bool true):=rfl
    simp_arith [hi,fl,put]
   ·obtain ⟨j,q,dq,s,hj,rfl,ej,es,ep⟩:=w.al done.length k d (Kl.mp ek).1 ek (by omega)
    obtain ⟨hw,hb⟩:=yj h es
    have ix:ix2D (.dict (eW W)) (eC (q,k))=some (eC (s.1,s.2.2)):=ix13 h w13 es
    have tq:=w.tn j q dq (Kl.mp ej).1 ej
    have ejd:done[j]?=some (q,dq):=by rw [eall,KL hj] at ej;exact ej
    have nd':(ky (dP done P)).Nodup:=by
     rw [qfH]
     have nd:=tk.nd
     rw [eall] at nd
     unfold ky at nd
     rw [Kz,Ux] at nd
     exact nd.1
    have ix2:=qdE nd' (qhA (P:=P) ejd)
    have le:ZM [eC (s.1,s.2.2),poD P q]=some (poD P k):=by
     unfold poD
     rw [qfK (P q).1 (Tn.of tq) hw hb,ep]
     rfl
    have hi:isD (.int q) .none=some (.bool false):=rfl
    have s1:Vk [.int q,.int k]=eC (q,k):=rfl
    simp_arith [hi,s1,ix,ix2,le,fl,put])
 have it:qeA (.dict (eO os))=some (os.map λo:Og=>Vk [.int o.1,o.2]):=by
  have ek:excK (eO os)=false:=by cases os<;>rfl
  show (if excK (eO os)=true then none else some ((eO os).map λp=>Vk [p.1,p.2]))=_
  rw [ek,bJ (by decide)]
  unfold eO
  rw [Vj]
  rfl
 delta QG Jl
 simp_arith [it,el]
def Lnk (R:aY):List Int->Prop
 | []=>True
 | [_]=>True
 | a::b::l=>R a b/\Lnk R (b::l)
theorem qcS {R:aY}:∀ {xs ys:aA},Lnk R (xs++ys)->Lnk R xs
 | [],_,_=>trivial
 | [_],_,_=>trivial
 | _::b::l,_,h=>⟨h.1,qcS (xs:=b::l) h.2⟩
theorem qcR {R:aY}{a:Int}{ys:aA}(h2:Lnk R (a::ys)):∀ {xs:aA},Lnk R (xs++[a])->Lnk R (xs++a::ys)
 | [],_=>h2
 | [_],h=>⟨h.1,h2⟩
 | _::b::l,h=>⟨h.1,qcR h2 (xs:=b::l) h.2⟩
theorem qfN {R:aY}(sy:∀ a b,R a b->R b a):∀ {xs:aA},Lnk R xs->Lnk R xs.reverse
 | [],_=>trivial
 | [_],_=>trivial
 | a::b::l,h=>by
  have ih:=qfN sy (xs:=b::l) h.2
  rw [Uv] at ih
  rw [Uv,Uv,Uw]
  exact qcR (a:=b) (ys:=[a]) ⟨sy _ _ h.1,trivial⟩ ih
theorem wZ {R R':aY}(hm:∀ a b,R a b->R' a b):∀ {xs:aA},Lnk R xs->Lnk R' xs
 | [],_=>trivial
 | [_],_=>trivial
 | _::b::l,h=>⟨hm _ _ h.1,wZ hm (xs:=b::l) h.2⟩
def Par (os:aK)(a b:Int):Prop:=∃ i:Nat,os[i]?=some (a,Km b)
theorem qfU {n:Nat}(hn:n<=100){f0:Int}{LL:aE}{os:aK}(tk:Tk n f0 LL os []):∀ (m i fuel:Nat) (c:Int) (d:Ka) (ks:aA),i<m->m<fuel->ks.length+i<900->os[i]?=some (c,d)->
  ∃ tl:List Int,Jm (tV (ev2 (vr 1) (kd .none) isnD)) QF fuel [some (.dict (eO os)),some (.int c),some (.list (ks.map .int))]=some (.nx [some (.dict (eO os)),some .none,some (.list ((ks++c::tl).map .int))])/\Lnk (Par os) (c::tl)/\(∀ a∈c::tl,a∈ky os)/\tl.length<=i/\(c::tl).getLast?=some f0
 | 0,i,_,_,_,_,h,_,_,_=>absurd h (Xb _)
 | m+1,i,fuel,c,d,ks,hi,hf,hk,e=>by
  obtain ⟨fuel,rfl⟩:∃ k,fuel=k+2:=⟨fuel-2,by omega⟩
  have ix:=qdE tk.nd e
  have hc:c∈ky os:=K3.mpr ⟨_,Va e,rfl⟩
  have hi1:isnD (.int c) .none=some (.bool true):=rfl
  have hl:(ks.map Km).length<1000:=by rw [Kf];omega
  have ap:ks.map Km++[.int c]=(ks++[c]).map .int:=by rw [Kz];rfl
  have body:QF [some (.dict (eO os)),some (.int c),some (.list (ks.map .int))]=some (.nx [some (.dict (eO os)),some d,some (.list ((ks++[c]).map .int))]):=by
   simp_arith [hl,ix,ap]
  have t1:tV (ev2 (vr 1) (kd .none) isnD) [some (.dict (eO os)),some (.int c),some (.list (ks.map .int))]=some true:=by
   simp_arith [hi1]
  have st:Jm (tV (ev2 (vr 1) (kd .none) isnD)) QF (fuel+2) [some (.dict (eO os)),some (.int c),some (.list (ks.map .int))]=Jm (tV (ev2 (vr 1) (kd .none) isnD)) QF (fuel+1) [some (.dict (eO os)),some d,some (.list ((ks++[c]).map .int))]:=by
   show ob (tV (ev2 (vr 1) (kd .none) isnD) _) _=_
   rw [t1,ob_s,bI rfl,body,ob_s]
  rw [st]
  by_cases h0:i=0
  ·subst h0
   rw [tk.hd] at e
   cases e
   refine ⟨[],?_,trivial,λa ha=>by rw [Ks.mp ha];exact hc,Kp _,rfl⟩
   have t2:tV (ev2 (vr 1) (kd .none) isnD) [some (.dict (eO os)),some .none,some (.list ((ks++[f0]).map .int))]=some false:=by
    have hi2:isnD .none .none=some (.bool false):=rfl
    simp_arith [hi2]
   show ob (tV (ev2 (vr 1) (kd .none) isnD) _) _=_
   rw [t2,ob_s]
   rfl
  ·obtain ⟨j,q,hj,rfl,ej,_⟩:=tk.par i c d e (by omega)
   obtain ⟨dq,ej⟩:=qb3 ej
   obtain ⟨tl,h1,h2,h3,h4,h5⟩:=qfU hn tk m j (fuel+1) q dq (ks++[c]) (by omega) (by omega) (by rw [Kj,Kt];omega) ej
   refine ⟨q::tl,?_,⟨⟨i,e⟩,h2⟩,λa ha=>?_,by rw [Kw];omega,by rw [EG];exact h5⟩
   ·rw [h1,Uw]
    rfl
   ·rcases Kr.mp ha with rfl|ha
    ·exact hc
    ·exact h3 a ha
theorem qfT {n:Nat}(hn:n<=100){f0:Int}{LL:aE}{os:aK}(tk:Tk n f0 LL os []){k:Int}(hk:k∈ky os):∃ X:List Int,Zx [.dict (eO os),.int k]=some (.list ((X++[f0]).map .int))/\Lnk (Par os) (X++[f0])/\(X++[f0]).head?=some k/\(∀ a∈X++[f0],a∈ky os)/\X.length<=n:=by
 obtain ⟨⟨k',d⟩,ho,ek⟩:=K3.mp hk
 have ek:k'=k:=ek
 subst ek
 obtain ⟨i,e⟩:=V3 ho
 have il:i<os.length:=(Kl.mp e).1
 have:=tk.size
 obtain ⟨tl,h1,h2,h3,h4,h5⟩:=qfU hn tk (i+1) i 1000000 _ d [] (by omega) (by omega) (by rw [VO];omega) e
 rw [XX] at h1
 obtain ⟨X,eX⟩:=List.getLast?_eq_some_iff.mp h5
 have hlX:X.length=tl.length:=by have:=congrArg XO eX;simp at this;omega
 rw [eX] at h1 h2 h3
 refine ⟨X,?_,h2,by rw [← eX];rfl,h3,by omega⟩
 have hw:JX (tV (ev2 (vr 1) (kd .none) isnD)) QF [some (.dict (eO os)),some (.int k'),some (.list [])]=some (.nx [some (.dict (eO os)),some .none,some (.list ((X++[f0]).map .int))]):=h1
 delta Zx yU
 simp_arith [hw]
theorem qhk {α:Type}(xs:List α)(u v:α):atI (xs++[u]++[v]) (-2)=some u:=by
 unfold atI ixN
 rw [bJ (by decide),bI (by rw [Kj,Kj,Kt,Kt];omega)]
 have e:((-2:Int)+((xs++[u]++[v]).length:Int)).toNat=xs.length:=by
  rw [Kj,Kj,Kt,Kt];omega
 show (xs++[u]++[v])[((-2:Int)+((xs++[u]++[v]).length:Int)).toNat]?=some u
 rw [e,Uw,Vi (Kp _),X5]
 rfl
theorem JS {α:Type}(xs:List α):xs=[]\/∃ ys y,xs=ys++[y]:=by
 rcases List.eq_nil_or_concat xs with h|⟨l,b,h⟩
 ·exact .inl h
 ·exact .inr ⟨l,b,by rw [h,List.concat_eq_append]⟩
theorem qdB {α:Type}{xs:List α}{u v k:α}(h:(xs++[u]++[v]).head?=some k):(xs++[u]).head?=some k:=by
 cases xs with
 | nil=>exact h
 | cons x xs=>exact h
def Nxt (os:aK)(a b:Int):Prop:=Par os a b\/Par os b a
theorem qis {n:Nat}(hn:n<=100){f0:Int}{LL:aE}{os:aK}(tk:Tk n f0 LL os []){i j:Int}(hi:i∈ky os)(hj:j∈ky os):∃ ks:List Int,QX [.dict (eO os),.int i,.int j]=some (.list (ks.map .int))/\Lnk (Nxt os) ks/\ks.head?=some i/\ks.getLast?=some j/\(∀ a∈ks,a∈ky os)/\ks.length<=2*n+1:=by
 obtain ⟨X0,ex,lx,hx,mx,nx⟩:=qfT hn tk hi
 obtain ⟨Y0,ey,ly,hy,my,ny⟩:=qfT hn tk hj
 obtain ⟨ρ',m',ew,⟨X,Y,a,rfl,p1,p2,p3,p4,p5,p6,p7,p8,-⟩,et⟩:=yc (t:=tA (tV (ev2 (evA (aC (vr 3) aN) lenD) '%' gtD)) (tA (tV (ev2 (evA (aC (vr 4) aN) lenD) '%' gtD)) (tV (ev2 (ev2 (vr 3) (ev1 (kd (.int 2)) negD) ixD) (ev2 (vr 4) (ev1 (kd (.int 2)) negD) ixD) eqD)))) (body:=seqO (Wj 3) (Wj 4))
  (λm ρ=>∃ (X Y:aA) (a:Int),ρ=[some (.dict (eO os)),some (.int i),some (.int j),some (.list ((X++[a]).map .int)),some (.list ((Y++[a]).map .int))]/\Lnk (Par os) (X++[a])/\Lnk (Par os) (Y++[a])/\(X++[a]).head?=some i/\(Y++[a]).head?=some j/\(∀ b∈X++[a],b∈ky os)/\(∀ b∈Y++[a],b∈ky os)/\X.length<=n/\Y.length<=n/\m=X.length) (by
   rintro m ρ ⟨X,Y,a,rfl,p1,p2,p3,p4,p5,p6,p7,p8,rfl⟩
   have len:∀ Z:List Int,((Z++[a]).map Km).length=Z.length+1:=λZ=>by rw [Kf,Kj,Kt]
   rcases JS X with rfl|⟨X1,x,rfl⟩
   ·exact .inl (by simp_arith [XX,Ku,VF,Kw,VO])
   ·rcases JS Y with rfl|⟨Y1,y,rfl⟩
    ·refine .inl ?_
     have g1:decide ((1:Int)<(((X1++[x]++[a]).map Km).length:Int))=true:=bF (by rw [len,Kj,Kt];omega)
     simp_arith [g1,XX,Ku,VF,Kw,VO]
    ·have g1:decide ((1:Int)<(((X1++[x]++[a]).map Km).length:Int))=true:=bF (by rw [len,Kj,Kt];omega)
     have g2:decide ((1:Int)<(((Y1++[y]++[a]).map Km).length:Int))=true:=bF (by rw [len,Kj,Kt];omega)
     have a1:atI ((X1++[x]++[a]).map Km) (-2)=some (.int x):=by rw [Kz,Kz];exact qhk _ _ _
     have a2:atI ((Y1++[y]++[a]).map Km) (-2)=some (.int y):=by rw [Kz,Kz];exact qhk _ _ _
     by_cases e:x=y
     ·subst e
      refine .inr ⟨by simp_arith [g1,g2,a1,a2,cz],_,_,?_,?_,X1,Y1,x,rfl,qcS p1,qcS p2,qdB p3,qdB p4,λb hb=>p5 b (KM _ hb),λb hb=>p6 b (KM _ hb),?_,?_,rfl⟩
      ·have q1:popD (.list ((X1++[x]++[a]).map Km))=some (.int a,.list ((X1++[x]).map .int)):=by rw [Kz];exact WM _ _
       have q2:popD (.list ((Y1++[x]++[a]).map Km))=some (.int a,.list ((Y1++[x]).map .int)):=by rw [Kz];exact WM _ _
       simp_arith [q1,q2]
      ·rw [Kj,Kt];omega
      ·rw [Kj,Kt] at p7;omega
      ·rw [Kj,Kt] at p8;omega
     ·refine .inl ?_
      have e':(x==y)=false:=bP.mpr e
      simp_arith [g1,g2,a1,a2,e']) 1000000 X0.length [some (.dict (eO os)),some (.int i),some (.int j),some (.list ((X0++[f0]).map .int)),some (.list ((Y0++[f0]).map .int))] (by omega) ⟨X0,Y0,f0,rfl,lx,ly,hx,hy,mx,my,nx,ny,rfl⟩
 have sy:∀ a b,Nxt os a b->Nxt os b a:=λa b h=>h.symm
 have q1:Lnk (Nxt os) (X++[a]):=wZ (λ_ _=>.inl) p1
 have q2:Lnk (Nxt os) (a::Y.reverse):=by
  have:=qfN sy (wZ (λ_ _=>.inl) p2:Lnk (Nxt os) (Y++[a]))
  rw [List.reverse_append] at this
  exact this
 refine ⟨X++a::Y.reverse,?_,qcR q2 q1,?_,?_,λb hb=>?_,?_⟩
 ·have sl:sliD (.list ((Y++[a]).map Km)) none (some (-1))=some (.list (Y.map .int)):=by
   show some (Vu (cutD ((Y++[a]).map Km) none (some (-1))))=_
   have s1:HT.sIx ((Y++[a]).map Km).length ((Y++[a]).map Km).length (some (-1))=Y.length:=by
    rw [Kf,Kj,Kt]
    show (if (-1:Int)<0 then ((-1:Int)+((Y.length+1:Nat):Int)).toNat else min (-1:Int).toNat (Y.length+1))=_
    rw [bI (by decide)]
    omega
   unfold cutD
   rw [s1]
   show some (Vu (((Y++[a]).map Km).take (Y.length-0)))=_
   rw [Nat.sub_zero,Kz,List.take_left' (by rw [Kf])]
  have rv:revD (.list (Y.map Km))=some (.list (Y.reverse.map .int)):=by
   show (if (Y.map Km).length<=1000 then some (Vu (Y.map Km).reverse) else none)=_
   rw [bI (by rw [Kf];omega),List.map_reverse]
  have ad:catL (.list ((X++[a]).map Km)) (.list (Y.reverse.map .int))=some (.list ((X++a::Y.reverse).map .int)):=by
   show (if ((X++[a]).map Km).length+(Y.reverse.map Km).length<=1000 then some (Vu ((X++[a]).map Km++Y.reverse.map Km)) else none)=_
   rw [bI (by rw [Kf,Kf,Kj,Kt,XQ];omega),← Kz,Uw]
   rfl
  have hw:JX (tA (tV (ev2 (evA (aC (vr 3) aN) lenD) '%' gtD)) (tA (tV (ev2 (evA (aC (vr 4) aN) lenD) '%' gtD)) (tV (ev2 (ev2 (vr 3) (ev1 (kd (.int 2)) negD) ixD) (ev2 (vr 4) (ev1 (kd (.int 2)) negD) ixD) eqD)))) (seqO (Wj 3) (Wj 4)) [some (.dict (eO os)),some (.int i),some (.int j),some (.list ((X0++[f0]).map .int)),some (.list ((Y0++[f0]).map .int))]=some (.nx [some (.dict (eO os)),some (.int i),some (.int j),some (.list ((X++[a]).map .int)),some (.list ((Y++[a]).map .int))]):=ew
  delta QX jZ
  simp_arith [ex,ey,hw,sl,rv,ad]
 ·cases X with
  | nil=>exact p3
  | cons x X=>exact p3
 ·cases Y with
  | nil=>rw [List.reverse_nil,List.getLast?_append];exact p4
  | cons y Y =>
   rw [Uv,← List.cons_append,← Uw,List.getLast?_concat]
   exact p4
 ·rcases KO.mp hb with z|z
  ·exact p5 b (KM _ z)
  ·rcases Kr.mp z with rfl|z
   ·exact p5 b (KG _ (Ks.mpr rfl))
   ·exact p6 b (KM _ (List.mem_reverse.mp z))
 ·rw [Kj,Kw,XQ];omega
theorem qdp (a b:Sp3):Kv (encS a) (encS b)=decide (a=b):=by
 have h:=qhH (a.x,a.y,a.z) (b.x,b.y,b.z)
 have e:Kv (encS a) (encS b)=decide ((a.x,a.y,a.z)=(b.x,b.y,b.z)):=h
 rw [e]
 congr 1
 exact propext ⟨λz=>by cases a;cases b;cases z;rfl,λz=>by rw [z]⟩
theorem qi1:∀ s∈qF,∀ t∈qF,rowP s=rowP t->rowQ s=rowQ t->s=t:=by decide +kernel
theorem eqvP (p q:aL)(hp:p.2∈qF)(hq:q.2∈qF):Kv (encP p.1 p.2) (encP q.1 q.2)=decide (p=q):=by
 have h:Kv (encP p.1 p.2) (encP q.1 q.2)=(Kv (encS p.1) (encS q.1)&&(Kv (encS (rowP p.2)) (encS (rowP q.2))&&(Kv (encS (rowQ p.2)) (encS (rowQ q.2))&&true))):=rfl
 rw [h,qdp,qdp,qdp,Bool.and_true,← Bool.decide_and,← Bool.decide_and]
 congr 1
 exact propext ⟨λ⟨a,b,c⟩=>Prod.ext a (qi1 _ hp _ hq b c),λz=>by rw [z];exact ⟨rfl,rfl,rfl⟩⟩
theorem qlx (p q:aL)(hp:p.2∈qF)(hq:q.2∈qF):neD (encP p.1 p.2) (encP q.1 q.2)=some (.bool (!decide (p=q))):=by
 unfold neD
 rw [bI ⟨rfl,rfl⟩,eqvP p q hp hq]
abbrev Nm:=Sp3×Nat
def kS3 (s:Sp3):KX:=.inr [.inl s.x,.inl s.y,.inl s.z]
def eNm (zs:List Nm):List (Ka×PyData):=zs.map λp=>(encS p.1,.int (p.2:Nat))
theorem qcy (zs:List Nm)(s:Sp3):kOk (eNm zs) (kS3 s)=true:=by
 unfold kOk eNm
 rw [NO]
 exact Vg.mpr λp _=>rfl
theorem wR (s:Sp3):∀ zs:List Nm,zF (eNm zs) (kS3 s)=(zs.find? λp=>decide (p.1=s)).map λp=>Km (p.2:Nat)
 | []=>rfl
 | p::zs=>by
  have ih:=wR s zs
  unfold zF eNm at *
  rw [show kxD (kS3 s)=encS s from rfl] at *
  rw [Ku,V2,V2,qdp]
  by_cases h:p.1=s
  ·rw [bF h];rfl
  ·rw [bH h];exact ih
theorem ql9 (zs:List Nm)(s:Sp3):in2D (encS s) (.dict (eNm zs))=some (.bool (zs.find? λp=>decide (p.1=s)).isSome):=by
 show ob (kxOf (encS s)) (λks=>if kOk (eNm zs) ks=true then some (UZ (zF (eNm zs) ks).isSome) else none)=_
 rw [show kxOf (encS s)=some (kS3 s) from rfl,ob_s,bI (qcy _ _),wR,Option.isSome_map]
theorem qmi {zs:List Nm}{s:Sp3}{p:Nm}(e:(zs.find? λp=>decide (p.1=s))=some p):ix2D (.dict (eNm zs)) (encS s)=some (.int (p.2:Nat)):=by
 show ob (kxOf (encS s)) (λks=>if kOk (eNm zs) ks=true then zF (eNm zs) ks else none)=_
 rw [show kxOf (encS s)=some (kS3 s) from rfl,ob_s,bI (qcy _ _),wR,e]
 rfl
theorem qkT {zs:List Nm}{s:Sp3}(n:Nat)(hl:zs.length<900)(e:(zs.find? λp=>decide (p.1=s))=none):wO (.dict (eNm zs)) (encS s) (.int (n:Nat))=some (.dict (eNm (zs++[(s,n)]))):=by
 show ob (kxOf (encS s)) (λks=>if kOk (eNm zs) ks=true/\(eNm zs).length<1000 then some (EV (putD (eNm zs) ks _)) else none)=_
 rw [show kxOf (encS s)=some (kS3 s) from rfl,ob_s,bI ⟨qcy _ _,by unfold eNm;rw [Kf];omega⟩]
 unfold putD
 rw [wR,e,Option.map_none,bJ (by decide)]
 unfold eNm
 rw [Kz]
 rfl
def fmA (zs:List Nm)(n:Nat):List Sp3->Option (Nat×Nat)
 | []=>none
 | x::xs=>match zs.find? λp=>decide (p.1=x) with
  | some p=>some (p.2,n)
  | none=>fmA (zs++[(x,n)]) (n+1) xs
def fmD:Option (Nat×Nat)->Ka
 | none=>.none
 | some p=>.tuple [.int (p.1:Nat),.int (p.2:Nat)]
theorem qlu (d0:Ka):∀ (xs:List Sp3) (zs:List Nm) (n:Nat) (o2 o3:aD),zs.length+xs.length<=800->
  match fmA zs n xs with
  | some p=>forD (unpD 2 (gsC (gNm 2) (gsC (gNm 3) gsN))) Ql (enL n (xs.map encS)) [some d0,some (.dict (eNm zs)),o2,o3]=some (.rt (fmD (some p)))
  | none=>∃ r1 r2 r3,forD (unpD 2 (gsC (gNm 2) (gsC (gNm 3) gsN))) Ql (enL n (xs.map encS)) [some d0,some (.dict (eNm zs)),o2,o3]=some (.nx [some d0,r1,r2,r3])
 | [],zs,n,o2,o3,_=>⟨_,_,_,rfl⟩
 | x::xs,zs,n,o2,o3,hl=>by
  rw [Kw] at hl
  have en:enL n ((x::xs).map encS)=.tuple [.int (n:Nat),encS x]::enL (n+1) (xs.map encS):=rfl
  have hu:unpD 2 (gsC (gNm 2) (gsC (gNm 3) gsN)) (.tuple [.int (n:Nat),encS x]) [some d0,some (.dict (eNm zs)),o2,o3]=some [some d0,some (.dict (eNm zs)),some (.int (n:Nat)),some (encS x)]:=rfl
  have hin:=ql9 zs x
  unfold fmA
  cases e:zs.find? λp=>decide (p.1=x) with
  | some p =>
   have ix:=qmi e
   rw [e,Fg] at hin
   have hb:Ql [some d0,some (.dict (eNm zs)),some (.int (n:Nat)),some (encS x)]=some (.rt (fmD (some (p.2,n)))):=by
    simp_arith [hin,ix]
    rfl
   dsimp only
   rw [en,Qs,hu,ob_s,hb]
   rfl
  | none =>
   have pt:=qkT n (by omega) e
   rw [e,Option.isSome_none] at hin
   have hb:Ql [some d0,some (.dict (eNm zs)),some (.int (n:Nat)),some (encS x)]=some (.nx [some d0,some (.dict (eNm (zs++[(x,n)]))),some (.int (n:Nat)),some (encS x)]):=by
    simp_arith [hin,pt]
   have ih:=qlu d0 xs (zs++[(x,n)]) (n+1) (some (.int (n:Nat))) (some (encS x)) (by rw [Kj,Kt];omega)
   dsimp only
   rw [en,Qs,hu,ob_s,hb,jc]
   exact ih
theorem qmt {xs:List Sp3}(hl:xs.length<=800):zL [.list (xs.map encS)]=some (fmD (fmA [] 0 xs)):=by
 have h:=qlu (.list (xs.map encS)) xs [] 0 none none (by rw [VO];omega)
 have eu:qdo (.list (xs.map encS))=some (enL 0 (xs.map encS)):=rfl
 have h0:(EV [])=.dict (eNm []):=rfl
 cases e:fmA [] 0 xs with
 | some p =>
  rw [e] at h
  simp only [zL,Zj,h0]
  simp_arith [eu,h]
 | none =>
  rw [e] at h
  obtain ⟨r1,r2,r3,h⟩:=h
  simp only [zL,Zj,h0]
  simp_arith [eu,h]
  rfl
def cofD (ps:List (Sp3×Tr)):Ka:=match fmA [] 0 (ps.map (·.1)) with
 | none=>.tuple [.str "folded", .list '0']
 | some q=>.tuple [.str "clash", .int (q.1:Nat),.int (q.2:Nat)]
def vfO:Option Ka->Option (List Ka)->Option (List Ka):=λa b=>ob a λd=>ob b λds=>if flat d=true then some (d::ds) else none
theorem vF_b (f:aa)(fs:ab)(ρ:Rho):vF f fs ρ=vfO (f ρ) (fs ρ):=rfl
theorem qlJ (i:Int)(ds:ae):vfO (some (.int i)) (some ds)=some (.int i::ds):=rfl
theorem qjn (s:Str)(ds:ae):vfO (some (.str s)) (some ds)=some (.str s::ds):=rfl
theorem flN:flat .none=true:=rfl
theorem cof16 {ps:List (Sp3×Tr)}(hl:ps.length<=800):zJ [.list '0']=some (cofD ps):=by
 have hc:Zc tT (ev2 (vr 2) '$' ixD) [some (.list '0'),none] '0'=some ((ps.map (·.1)).map encS):=by
  rw [Vj]
  have:=yZ (ρ:=[some (.list '0'),none]) (tt:=tT) (te:=ev2 (vr 2) '$' ixD) (λp:Sp3×Tr=>encP p.1 p.2) (λ_=>true) (λp=>encS p.1) ps (λ_ _=>rfl) (λp _ _=>rfl)
  rw [this,List.filter_eq_self.mpr λ_ _=>rfl]
  rfl
 have hlen:'0'.length<=1000:=by rw [Kf];omega
 have hm:=qmt (xs:=ps.map (·.1)) (by rw [Kf];exact hl)
 unfold cofD
 cases e:fmA [] 0 (ps.map (·.1)) with
 | none =>
  rw [e] at hm
  have hm:zL [.list ((ps.map (·.1)).map encS)]=some .none:=hm
  have hi:isD .none .none=some (.bool true):=rfl
  delta zJ QQ
  simp_arith [hc,hlen,hm,hi,vF_b,qlJ,qjn,flN]
 | some q =>
  rw [e] at hm
  have hm:zL [.list ((ps.map (·.1)).map encS)]=some (.tuple [.int (q.1:Nat),.int (q.2:Nat)]):=hm
  have hi:isD (.tuple [.int (q.1:Nat),.int (q.2:Nat)]) .none=some (.bool false):=rfl
  have hf2:flat (.tuple [.int (q.1:Nat),.int (q.2:Nat)])=true:=rfl
  delta zJ QQ
  simp_arith [hc,hlen,hm,hi,vF_b,qlJ,qjn,hf2]
def st16:Tr:=⟨1,0,0,0,1,0,0,0,1⟩
def sp16:Sp3:=⟨1,1,0⟩
theorem qnf {u w:ai}{ρ:Rho}{d:Ka}(h:u ρ=some (.rt d)):seqO u w ρ=some (.rt d):=by rw [qeZ,h,qdf]
def Cn (S:aw)(J:List Sp):Prop:=∀ a b:Int,0<=a->a<(S.length:Int)->0<=b->b<(S.length:Int)->∀ K:Int->Prop,K a->(∀ x y s,K x->lk13 S J x y=some s->K y)->K b
def Okj (S:aw)(J:List Sp)(P:ar)(t:Sp):Prop:=∀ s,lk13 S J t.1 t.2.1=some s->P t.2.1=ledP (P t.1) s
structure Rg (S:aw)(os:aK)(t:Sp)(ks:aA):Prop where
 ln:Lnk (Nxt os) ks
 hd:ks.head?=some t.1
 la:ks.getLast?=some t.2.1
 mem:∀ a∈ks,a∈ky os
 len:ks.length<=2*S.length+1
theorem qln {S:aw}{J:List Sp}(h:J13 S J){W:aP}(w13:W13 S J S.length W){LL:aE}{f0:Int}{os:aK}(tk:Tk S.length f0 LL os []){p0:aL}{P:ar}(w:Wy S J os f0 p0 P os.length)(all:∀ k,0<=k->k<(S.length:Int)->k∈ky os)(d0 d1 d2:Ka):∀ (ts:List Sp),(∀ t∈ts,t∈J)->∀ o6:Option Ka,
  ((∀ t∈ts,Okj S J P t)/\∃ r6,forD (gNm 6) Zn (ts.map eS) [some d0,some d1,some d2,some (.dict (eW W)),some (.dict (eO os)),some (.dict (eO (dP os P))),o6]=some (.nx [some d0,some d1,some d2,some (.dict (eW W)),some (.dict (eO os)),some (.dict (eO (dP os P))),r6]))\/
  (∃ t∈ts,¬ Okj S J P t/\∃ ks:List Int,forD (gNm 6) Zn (ts.map eS) [some d0,some d1,some d2,some (.dict (eW W)),some (.dict (eO os)),some (.dict (eO (dP os P))),o6]=some (.rt (.tuple [.str "ring", .list (ks.map .int)]))/\Rg S os t ks)
 | [],_,o6=>.inl ⟨λ_ h=>(nomatch h),o6,rfl⟩
 | t::ts,hts,o6=>by
  have htJ:=hts t (.head _)
  obtain ⟨wt,_,e1,e2⟩:=lk_t h htJ
  obtain ⟨hw,hb⟩:=yj h e1
  obtain ⟨⟨a0,a1⟩,b0,b1⟩:=yl h (Z6 e1).1
  have ka:=all t.1 a0 a1
  have kb:=all t.2.1 b0 b1
  have at':∀ k:Int,k∈ky os->ix2D (.dict (eO (dP os P))) (.int k)=some (poD P k)/\(P k).2∈qF:=λk hk=>by
   obtain ⟨i,ei⟩:=V3 hk
   obtain ⟨d,ei⟩:=qb3 ei
   exact ⟨qdE (by rw [qfH];exact tk.nd) (qhA ei),w.tn i k d (Kl.mp ei).1 ei⟩
  obtain ⟨xa,ta⟩:=at' _ ka
  obtain ⟨xb,tb⟩:=at' _ kb
  have ix:ix2D (.dict (eW W)) (eC (t.1,t.2.1))=some (eC (wt,t.2.2)):=ix13 h w13 e1
  have le:ZM [eC (wt,t.2.2),poD P t.1]=some (encP (ledP (P t.1) (wt,t.2.1,t.2.2)).1 (ledP (P t.1) (wt,t.2.1,t.2.2)).2):=qfK (P t.1).1 (Tn.of ta) hw hb
  have ne:neD (encP (ledP (P t.1) (wt,t.2.1,t.2.2)).1 (ledP (P t.1) (wt,t.2.1,t.2.2)).2) (poD P t.2.1)=some (.bool (!decide (ledP (P t.1) (wt,t.2.1,t.2.2)=P t.2.1))):=qlx _ _ (qaY ta hw hb) tb
  have s1:Vk [.int t.1,.int t.2.1]=eC (t.1,t.2.1):=rfl
  have g:gNm 6 (eS t) [some d0,some d1,some d2,some (.dict (eW W)),some (.dict (eO os)),some (.dict (eO (dP os P))),o6]=some [some d0,some d1,some d2,some (.dict (eW W)),some (.dict (eO os)),some (.dict (eO (dP os P))),some (eS t)]:=rfl
  by_cases hk:ledP (P t.1) (wt,t.2.1,t.2.2)=P t.2.1
  ·rw [bF hk] at ne
   have hbd:Zn [some d0,some d1,some d2,some (.dict (eW W)),some (.dict (eO os)),some (.dict (eO (dP os P))),some (eS t)]=some (.nx [some d0,some d1,some d2,some (.dict (eW W)),some (.dict (eO os)),some (.dict (eO (dP os P))),some (eS t)]):=by
    simp_arith [ixe0,ixe1,s1,ix,xa,xb,le,ne]
   have ok:Okj S J P t:=λs es=>by rw [e1] at es;cases es;exact hk.symm
   rw [Ku,Qs,g,ob_s,hbd,jc]
   rcases qln h w13 tk w all d0 d1 d2 ts (λt ht=>hts t (.tail _ ht)) (some (eS t)) with ⟨q1,q2⟩|⟨z,q0,q1,q2⟩
   ·exact .inl ⟨λz hz=>(Kr.mp hz).elim (λe=>by rw [e];exact ok) (q1 z),q2⟩
   ·exact .inr ⟨z,.tail _ q0,q1,q2⟩
  ·rw [bH hk] at ne
   obtain ⟨ks,ek,l1,l2,l3,l4,l5⟩:=qis (by have:=h.ls;omega) tk ka kb
   have hbd:Zn [some d0,some d1,some d2,some (.dict (eW W)),some (.dict (eO os)),some (.dict (eO (dP os P))),some (eS t)]=some (.rt (.tuple [.str "ring", .list (ks.map .int)])):=by
    simp_arith [ixe0,ixe1,s1,ix,xa,xb,le,ne,ek,vF_b,qjn]
   refine .inr ⟨t,.head _,λz=>hk (z _ e1).symm,ks,?_,l1,l2,l3,l4,l5⟩
   rw [Ku,Qs,g,ob_s,hbd]
   rfl
structure Fo (S:aw)(J:List Sp)(os:aK)(f0:Int)(p0:aL)(P:ar)(r:Ka):Prop where
 wy:Wy S J os f0 p0 P os.length
 all:∀ k,0<=k->k<(S.length:Int)->k∈ky os
 kr:∀ k∈ky os,0<=k/\k<(S.length:Int)
 hd:os[0]?=some (f0,.none)
 ol:os.length<=100
 or:((∀ t∈J,Okj S J P t)/\r=cofD ((KN S.length).map λk:Nat=>P (k:Int)))\/(∃ t∈J,¬ Okj S J P t/\∃ ks:List Int,r=.tuple [.str "ring", .list (ks.map .int)]/\Rg S os t ks)
theorem ql2 {S:aw}{J:List Sp}(h:J13 S J)(cn:Cn S J){f0:Int}(hf:0<=f0/\f0<(S.length:Int)){p0:aL}(hp:p0.2∈qF){pd:Ka}(hpd:(pd=.none/\p0=(sp16,st16))\/pd=encP p0.1 p0.2) :
  ∃ os P r,QV [.tuple [.list (S.map eC),.list (J.map eS)],.int f0,pd]=some r/\Fo S J os f0 p0 P r:=by
 have ls:=h.ls
 obtain ⟨W,ew,w13⟩:=qlc h
 obtain ⟨LL,el,lk,li,on⟩:=qkj (n:=S.length) (by omega) (J:=J) (λt ht=>by
  obtain ⟨_,_,e1,_⟩:=lk_t h ht
  have:=yl h (Z6 e1).1
  exact this) (by have:=h.lj;omega)
 obtain ⟨os,er,tk,cl⟩:=qkY (by omega) hf lk
 obtain ⟨P,w⟩:=qjf h on tk hp os.length (Kp _)
 have ep:=qkP h w13 tk w
 have f0k:f0∈ky os:=K3.mpr ⟨_,Va tk.hd,rfl⟩
 have all:∀ k,0<=k->k<(S.length:Int)->k∈ky os:=λk k0 k1=>cn f0 k hf.1 hf.2 k0 k1 (λx=>x∈ky os) f0k λx y s hx e=>cl x hx y (by
  obtain ⟨t,ht,q⟩:=qcQ h e
  rcases q with ⟨rfl,rfl⟩|⟨rfl,rfl⟩
  ·exact (li t ht).1
  ·exact (li t ht).2)
 have lenS:lenD [.list (S.map eC)]=some (.int ((S.length:Nat):Int)):=by
  show some (Km (((S.map eC).length:Nat):Int))=_
  rw [Kf]
 have hst:(vIf (tV (ev2 (vr 2) (kd .none) isD)) (kd wL) (vr 2)) [some '#',some (.int f0),some pd,some (.dict (eW W)),some (.dict (eO os)),none,none]=some (encP p0.1 p0.2):=by
  rcases hpd with ⟨rfl,rfl⟩|rfl
  ·rfl
  ·rfl
 have s5:sSet 5 (evC 3 (aC (vr 3) (aC (vr 4) (aC (vIf (tV (ev2 (vr 2) (kd .none) isD)) (kd wL) (vr 2)) aN))) QG) [some '#',some (.int f0),some pd,some (.dict (eW W)),some (.dict (eO os)),none,none]=some (.nx [some '#',some (.int f0),some pd,some (.dict (eW W)),some (.dict (eO os)),some (.dict (eO (dP os P))),none]):=by
  simp_arith [-L2.qlI,hst,ep]
 have s3:sSet 3 (evC 1 (aC (vr 0) aN) Z4) [some '#',some (.int f0),some pd,none,none,none,none]=some (.nx [some '#',some (.int f0),some pd,some (.dict (eW W)),none,none,none]):=by
  simp_arith [ew]
 have s4:sSet 4 (evC 2 (aC (vr 1) (aC (evC 2 (aC (evA (aC (ev2 (vr 0) '$' ixD) aN) lenD) (aC (ev2 (vr 0) '%' ixD) aN)) Z3) aN)) Qy) [some '#',some (.int f0),some pd,some (.dict (eW W)),none,none,none]=some (.nx [some '#',some (.int f0),some pd,some (.dict (eW W)),some (.dict (eO os)),none,none]):=by
  simp_arith [lenS,el,er]
 have r0:rho0 wC.length [.tuple [.list (S.map eC),.list (J.map eS)],.int f0,pd]=[some '#',some (.int f0),some pd,none,none,none,none]:=rfl
 rcases qln h w13 tk w all '#' (.int f0) pd J (λt ht=>ht) none with ⟨ok,r6,e6⟩|⟨t,ht,nok,ks,e6,rg⟩
 ·refine ⟨os,P,_,?_,w,all,tk.kr,tk.hd,by have:=tk.size;omega,.inl ⟨ok,rfl⟩⟩
  have fl:sFor (evI (ev2 (vr 0) '%' ixD) seqD) (gNm 6) Zn [some '#',some (.int f0),some pd,some (.dict (eW W)),some (.dict (eO os)),some (.dict (eO (dP os P))),none]=some (.nx [some '#',some (.int f0),some pd,some (.dict (eW W)),some (.dict (eO os)),some (.dict (eO (dP os P))),r6]):=by
   simp_arith [e6]
  have hr:(if (-1000:Int)<=((S.length:Nat):Int)/\((S.length:Nat):Int)<=1000 then some (rngL 0 (((S.length:Nat):Int)).toNat) else none)=some ((KN S.length).map λk:Nat=>Km (k:Nat)):=by
   rw [bI (by omega),K4,jV]
  have hc:Zc tT (ev2 (vr 5) (vr 7) ix2D) [some '#',some (.int f0),some pd,some (.dict (eW W)),some (.dict (eO os)),some (.dict (eO (dP os P))),r6] ((KN S.length).map λk:Nat=>Km (k:Nat))=some ((KN S.length).map λk:Nat=>poD P (k:Int)) :=
   qaE (λk:Nat=>Km (k:Nat)) _ _ λk hk=>by
    have hm:=all (k:Int) (by omega) (by have:=Ur.mp hk;omega)
    obtain ⟨i,ei⟩:=V3 hm
    obtain ⟨d,ei⟩:=qb3 ei
    have x:=qdE (os:=dP os P) (by rw [qfH];exact tk.nd) (qhA (P:=P) ei)
    simp_arith [x]
  have hlen:((KN S.length).map λk:Nat=>Km (k:Nat)).length<=1000:=by rw [Kf,KY];omega
  have hco:zJ [.list ((KN S.length).map λk:Nat=>poD P (k:Int))]=some (cofD ((KN S.length).map λk:Nat=>P (k:Int))):=by
   have:=cof16 (ps:=(KN S.length).map λk:Nat=>P (k:Int)) (by rw [Kf,KY];omega)
   rw [Vj] at this
   exact this
  unfold QV Wn
  rw [r0,Qu s3 (Qu s4 (Qu s5 (Qu fl rfl)))]
  simp_arith [lenS,hr,hlen,hc,hco]
 ·refine ⟨os,P,_,?_,w,all,tk.kr,tk.hd,by have:=tk.size;omega,.inr ⟨t,ht,nok,ks,rfl,rg⟩⟩
  have fl:sFor (evI (ev2 (vr 0) '%' ixD) seqD) (gNm 6) Zn [some '#',some (.int f0),some pd,some (.dict (eW W)),some (.dict (eO os)),some (.dict (eO (dP os P))),none]=some (.rt (.tuple [.str "ring", .list (ks.map .int)])):=by
   simp_arith [e6]
  unfold QV Wn
  rw [r0,Qu s3 (Qu s4 (Qu s5 (qnf fl)))]
  rfl
theorem qdx {S:aw}{J:List Sp}(h:J13 S J){P:ar}(tn:∀ k,0<=k->k<(S.length:Int)->(P k).2∈qF)(g:∀ t∈J,Okj S J P t){a b:Int}{s:Sp}(e:lk13 S J a b=some s):P b=ledP (P a) s:=by
 obtain ⟨t,ht,q⟩:=qcQ h e
 rcases q with ⟨rfl,rfl⟩|⟨rfl,rfl⟩
 ·exact g t ht s e
 ·obtain ⟨s',e',h1,h2⟩:=qa1 h e
  obtain ⟨s0,e0,h3,h4⟩:=qa1 h e'
  rw [e] at e0
  cases e0
  obtain ⟨hw,hb⟩:=yj h e'
  obtain ⟨⟨a0,a1⟩,_⟩:=yl h (Z6 e').1
  rw [g t ht s' e',qaZ (tn _ a0 a1) hw hb h3 h4]
theorem qfw {S:aw}{J:List Sp}{os:aK}{f0:Int}{p0:aL}{P:ar}{r:Ka}(f:Fo S J os f0 p0 P r)(k:Int)(k0:0<=k)(k1:k<(S.length:Int)):(P k).2∈qF:=by
 obtain ⟨i,ei⟩:=V3 (f.all k k0 k1)
 obtain ⟨d,ei⟩:=qb3 ei
 exact f.wy.tn i k d (Kl.mp ei).1 ei
theorem tr24:∀ t∈qF,trT t∈qF/\mulT t (trT t)=idT/\mulT (trT t) t=idT:=by decide +kernel
theorem qlv {p q:aL}(hp:p.2∈qF)(hq:q.2∈qF):∃ m:Sp3×Tr,m.2∈qF/\mvP m q=p:=by
 obtain ⟨h1,h2,_⟩:=tr24 q.2 hq
 refine ⟨(addS p.1 (negS (app (mulT (trT q.2) p.2) q.1)),mulT (trT q.2) p.2),qil _ h1 _ hp,?_⟩
 unfold mvP
 dsimp only
 rw [QS,qcU,Wr,← JQ,h2,qhQ]
theorem qlk {S:aw}{J:List Sp}(h:J13 S J){os:aK}{f0:Int}{p0:aL}{P Q:ar}{r:Ka}(f:Fo S J os f0 p0 P r)(tq:∀ k,0<=k->k<(S.length:Int)->(Q k).2∈qF)(gq:∀ a b s,lk13 S J a b=some s->Q b=ledP (Q a) s){m:aL}(hm:m.2∈qF)(e0:mvP m (Q f0)=p0):∀ (n i:Nat) (k:Int) (d:Ka),i<n->os[i]?=some (k,d)->P k=mvP m (Q k)
 | 0,_,_,_,h,_=>absurd h (Xb _)
 | n+1,i,k,d,hi,e=>by
  by_cases h0:i=0
  ·subst h0
   rw [f.hd] at e
   cases e
   rw [e0,f.wy.at0]
  ·obtain ⟨j,q,dq,s,hj,_,ej,es,ep⟩:=f.wy.al i k d (Kl.mp e).1 e (by omega)
   have ih:=qlk h f tq gq hm e0 n j q dq (by omega) ej
   obtain ⟨hw,hb⟩:=yj h es
   obtain ⟨⟨a0,a1⟩,_⟩:=yl h (Z6 es).1
   rw [ep,ih,qeJ hm (tq q a0 a1) hw hb,gq q k s es]
theorem fo_mv {S:aw}{J:List Sp}(h:J13 S J){os:aK}{f0:Int}{p0:aL}{P Q:ar}{r:Ka}(f:Fo S J os f0 p0 P r)(tq:∀ k,0<=k->k<(S.length:Int)->(Q k).2∈qF)(gq:∀ a b s,lk13 S J a b=some s->Q b=ledP (Q a) s){m:aL}(hm:m.2∈qF)(e0:mvP m (Q f0)=p0)(k:Int)(k0:0<=k)(k1:k<(S.length:Int)):P k=mvP m (Q k):=by
 obtain ⟨i,ei⟩:=V3 (f.all k k0 k1)
 obtain ⟨d,ei⟩:=qb3 ei
 exact qlk h f tq gq hm e0 (i+1) i k d (by omega) ei
theorem fo_f0 {S:aw}{J:List Sp}{os:aK}{f0:Int}{p0:aL}{P:ar}{r:Ka}(f:Fo S J os f0 p0 P r):0<=f0/\f0<(S.length:Int):=f.kr f0 (K3.mpr ⟨_,Va f.hd,rfl⟩)
theorem qj2 {S:aw}{J:List Sp}(h:J13 S J){os:aK}{f0:Int}{p0:aL}{P Q:ar}{r:Ka}(f:Fo S J os f0 p0 P r)(tq:∀ k,0<=k->k<(S.length:Int)->(Q k).2∈qF)(gq:∀ t∈J,Okj S J Q t):∃ m:Sp3×Tr,m.2∈qF/\(∀ k,0<=k->k<(S.length:Int)->P k=mvP m (Q k))/\∀ t∈J,Okj S J P t:=by
 have tp:=qfw f
 obtain ⟨f1,f2⟩:=fo_f0 f
 have hp0:p0.2∈qF:=by rw [← f.wy.at0];exact tp _ f1 f2
 obtain ⟨m,hm,e0⟩:=qlv hp0 (tq f0 f1 f2)
 have ga:∀ a b s,lk13 S J a b=some s->Q b=ledP (Q a) s:=λa b s e=>qdx h tq gq e
 have eq:=fo_mv h f tq ga hm e0
 refine ⟨m,hm,eq,λt ht s e=>?_⟩
 obtain ⟨hw,hb⟩:=yj h e
 obtain ⟨⟨a0,a1⟩,b0,b1⟩:=yl h (Z6 e).1
 rw [(Z6 e).2] at b0 b1
 rw [eq _ a0 a1,eq _ b0 b1,qeJ hm (tq _ a0 a1) hw hb,ga _ _ s e]
def Rr (S:aw)(J:List Sp)(P:ar)(a b:Int):Prop:=∃ s,lk13 S J a b=some s/\P b=ledP (P a) s
theorem qm5 {S:aw}{J:List Sp}(h:J13 S J){P:ar}(tn:∀ k,0<=k->k<(S.length:Int)->(P k).2∈qF){a b:Int}(e:Rr S J P a b):Rr S J P b a:=by
 obtain ⟨s,es,ep⟩:=e
 obtain ⟨s',e',h1,h2⟩:=qa1 h es
 obtain ⟨hw,hb⟩:=yj h es
 obtain ⟨⟨a0,a1⟩,_⟩:=yl h (Z6 es).1
 exact ⟨s',e',by rw [ep,qaZ (tn _ a0 a1) hw hb h1 h2]⟩
theorem qir {S:aw}{J:List Sp}{os:aK}{f0:Int}{p0:aL}{P:ar}{r:Ka}(f:Fo S J os f0 p0 P r){a b:Int}(e:Par os a b):Rr S J P b a:=by
 obtain ⟨i,ei⟩:=e
 by_cases h0:i=0
 ·subst h0
  rw [f.hd] at ei
  cases ei
 ·obtain ⟨j,q,dq,s,_,ed,_,es,ep⟩:=f.wy.al i a _ (Kl.mp ei).1 ei (by omega)
  cases ed
  exact ⟨s,es,ep⟩
theorem qmy {S:aw}{J:List Sp}(h:J13 S J){os:aK}{f0:Int}{p0:aL}{P:ar}{r:Ka}(f:Fo S J os f0 p0 P r)(a b:Int)(e:Nxt os a b):Rr S J P a b :=
 e.elim (λz=>qm5 h (qfw f) (qir f z)) (λz=>qir f z)
theorem qem {S:aw}{J:List Sp}{P:ar}(c:Int):∀ (l:aA) (a z:Int) (n:Nat),Lnk (Rr S J P) (a::l)->(a::l).getLast?=some z->
  ∃ n',QH S J ((a::(l++[c])).zip (l++[c])) n (P a).1 (P a).2=QH S J [(z,c)] n' (P z).1 (P z).2
 | [],a,z,n,_,hz=>by
  cases hz
  exact ⟨n,rfl⟩
 | b::l,a,z,n,hl,hz=>by
  obtain ⟨⟨s,es,ep⟩,h2⟩:=hl
  rw [EG] at hz
  obtain ⟨n',ih⟩:=qem c l b z (n+1) h2 hz
  refine ⟨n',?_⟩
  rw [← ih]
  show QH S J ((a,b)::((b::(l++[c])).zip (l++[c]))) n (P a).1 (P a).2=_
  rw [QH]
  dsimp only
  rw [es]
  show QH S J _ (n+1) (ledP (P a) s).1 (ledP (P a) s).2=_
  rw [← ep]
theorem qm4 {S:aw}{J:List Sp}(h:J13 S J){os:aK}{f0:Int}{p0:aL}{P:ar}{r:Ka}(f:Fo S J os f0 p0 P r){t:Sp}(ht:t∈J)(nok:¬ Okj S J P t){ks:aA}(rg:Rg S os t ks){p:aL}(hp:p.2∈qF) :
  ∃ q:Sp3×Tr,QH S J ((ks++ks.take 1).zip ((ks++ks.take 1).drop 1)) 0 p.1 p.2=.inr q/\q.2∈qF/\q≠p:=by
 have tn:=qfw f
 obtain ⟨l,rfl⟩:∃ l,ks=t.1::l:=by
  have:=rg.hd
  cases ks with
  | nil=>cases this
  | cons a l=>cases this;exact ⟨l,rfl⟩
 have el:(t.1::l++List.take 1 (t.1::l)).zip ((t.1::l++List.take 1 (t.1::l)).drop 1)=(t.1::(l++[t.1])).zip (l++[t.1]):=rfl
 rw [el]
 obtain ⟨n',e⟩:=qem (S:=S) (J:=J) (P:=P) t.1 l t.1 t.2.1 0 (wZ (qmy h f) rg.ln) rg.la
 obtain ⟨wt,_,e1,e2⟩:=lk_t h ht
 obtain ⟨s',e',h1,h2⟩:=qa1 h e1
 obtain ⟨s0,e0,h3,h4⟩:=qa1 h e'
 rw [e1] at e0
 cases e0
 obtain ⟨hw,hb⟩:=yj h e'
 obtain ⟨⟨a0,a1⟩,b0,b1⟩:=yl h (Z6 e').1
 rw [(Z6 e').2] at b0 b1
 have tb:=tn _ b0 b1
 have ta:=tn _ a0 a1
 have ef:QH S J [(t.2.1,t.1)] n' (P t.2.1).1 (P t.2.1).2=.inr (ledP (P t.2.1) s'):=by
  rw [QH]
  dsimp only
  rw [e']
  rfl
 rw [ef] at e
 have ne:ledP (P t.2.1) s'≠P t.1:=λz=>nok λs es=>by
  rw [e1] at es
  cases es
  rw [← z,qaZ ta hw hb h3 h4]
 obtain ⟨m,hm,em⟩:=qlv hp tb
 have wm:=qgg h hm ((t.1::(l++[t.1])).zip (l++[t.1])) 0 (P t.1) tb
 rw [em,e] at wm
 refine ⟨_,wm,qil _ (qaY ta hw hb) _ hm,λz=>ne (qkp hm (z.trans em.symm))⟩
def mxV (c k:Int):Int:=(((c % 1000000007+7*k*k+13*k+5)*48271 % 2147483647)*69621+k) % 1000000007*40692 % 2147483399
theorem bdm (z:Int){m:Int}(h0:0<m)(h1:m<2 ^ 40):Bd 40 (z % m):=Bd.of (by
 have a:=EM z (b:=m) (by omega)
 have b:=Int.emod_lt_of_pos z h0
 omega)
theorem qfO (c:Int){k:Int}(hk:Bd 20 k):Q8 [.int c,.int k]=some (.int (mxV c k)):=by
 have b7:Bd 3 7:=by decide
 have b13:Bd 4 13:=by decide
 have m1:=zf (b7.ok hk)
 have m2:=zf ((b7.mul hk).ok hk)
 have m3:=zf (b13.ok hk)
 have bc:=bdm c (m:=1000000007) (by decide) (by decide)
 have bs:=((bc.add ((b7.mul hk).mul hk)).add (b13.mul hk)).add (show Bd 3 5 by decide)
 have m4:=zf (bs.ok (show Bd 16 48271 by decide))
 have e1:modD (.int c) (.int 1000000007)=some (.int (c % 1000000007)):=j8 _ (by decide)
 have e2:modD (.int ((c % 1000000007+7*k*k+13*k+5)*48271)) (.int 2147483647)=some (.int ((c % 1000000007+7*k*k+13*k+5)*48271 % 2147483647)):=j8 _ (by decide)
 have b2:=bdm ((c % 1000000007+7*k*k+13*k+5)*48271) (m:=2147483647) (by decide) (by decide)
 have m5:=zf (b2.ok (show Bd 17 69621 by decide))
 have e3:modD (.int (((c % 1000000007+7*k*k+13*k+5)*48271 % 2147483647)*69621+k)) (.int 1000000007)=some (.int ((((c % 1000000007+7*k*k+13*k+5)*48271 % 2147483647)*69621+k) % 1000000007)):=j8 _ (by decide)
 have m6:=zf ((bdm (((c % 1000000007+7*k*k+13*k+5)*48271 % 2147483647)*69621+k) (m:=1000000007) (by decide) (by decide)).ok (show Bd 16 40692 by decide))
 have e4:modD (.int ((((c % 1000000007+7*k*k+13*k+5)*48271 % 2147483647)*69621+k) % 1000000007*40692)) (.int 2147483399)=some (.int ((((c % 1000000007+7*k*k+13*k+5)*48271 % 2147483647)*69621+k) % 1000000007*40692 % 2147483399)):=j8 _ (by decide)
 delta Q8 J5
 simp_arith [e1,m1,m2,m3,m4,e2,m5,e3,m6,e4]
 rfl
theorem bd20 {k:Int}(h0:-1000<=k)(h1:k<=1000):Bd 20 k:=Bd.of (by omega)
theorem qld (ns:aA):∃ ms:List Int,Zb [.list (ns.map .int),.int 3,.int 312]=some (.list (ms.map .int))/\ms.length<=60:=by
 have c3:=Wt ns 3 (by decide)
 generalize Jr ns 3=v at c3
 cases hq:(v % 2==1) with
 | true =>
  obtain ⟨n,hn,hn2⟩:∃ n:Nat,v / 2 % 61=(n:Nat)/\n<=60:=⟨(v / 2 % 61).toNat,by omega,by omega⟩
  have hr:(if (-1000:Int)<=v / 2 % 61/\v / 2 % 61<=1000 then some (rngL 0 (v / 2 % 61).toNat) else none)=some ((KN n).map λk:Nat=>Km (k:Nat)):=by
   rw [hn,bI (by omega),K4,jV]
  obtain ⟨ρ',e,ms,r5,r6,rfl,hl⟩:=QC (λk:Nat=>Km (k:Nat)) (g:=gNm 6) (u:=yG)
   (λdone ρ=>∃ (ms:aA) (r:Int) (o6:aD),ρ=[some (.list (ns.map .int)),some (.int 3),some (.int 312),some (.int v),some (.list (ms.map .int)),some (.int r),o6,none]/\ms.length=done.length) (KN n) [some (.list (ns.map .int)),some (.int 3),some (.int 312),some (.int v),some (.list []),some (.int (v / 2 / 61)),none,none] ⟨[],_,none,rfl,rfl⟩ (by
    rintro k hk done ρ hd ⟨ms,r,o6,rfl,hl⟩
    rw [KY] at hd
    have hz:(ms.map Km).length<1000:=by rw [Kf];omega
    refine ⟨_,?_,ms++[r % 312],r / 312,some (.int (k:Nat)),rfl,by rw [Kj,Kj,hl];rfl⟩
    simp_arith [hz]
    simp only [Kz,Ku,VF])
  rw [KY] at hl
  refine ⟨ms,?_,by omega⟩
  delta Zb jy
  simp_arith [c3,hq,hr,e]
 | false =>
  have mx:=qfO v (k:=3) (by decide)
  obtain ⟨n,hn,hn2⟩:∃ n:Nat,mxV v 3 % 61=(n:Nat)/\n<=60:=⟨(mxV v 3 % 61).toNat,by omega,by omega⟩
  have hr:(if (-1000:Int)<=mxV v 3 % 61/\mxV v 3 % 61<=1000 then some (rngL 0 (mxV v 3 % 61).toNat) else none)=some ((KN n).map λk:Nat=>Km (k:Nat)):=by
   rw [hn,bI (by omega),K4,jV]
  obtain ⟨ρ',e,ms,r6,rfl,hl⟩:=QC (λk:Nat=>Km (k:Nat)) (g:=gNm 6) (u:=yH)
   (λdone ρ=>∃ (ms:aA) (o6:aD),ρ=[some (.list (ns.map .int)),some (.int 3),some (.int 312),some (.int v),some (.list (ms.map .int)),none,o6,some (.int (mxV v 3 % 61))]/\ms.length=done.length) (KN n) [some (.list (ns.map .int)),some (.int 3),some (.int 312),some (.int v),some (.list []),none,none,some (.int (mxV v 3 % 61))] ⟨[],none,rfl,rfl⟩ (by
    rintro k hk done ρ hd ⟨ms,o6,rfl,hl⟩
    rw [KY] at hd
    have hk:=Ur.mp hk
    have hz:(ms.map Km).length<1000:=by rw [Kf];omega
    have ck:=Wt ns (3+1+(k:Int)) (by omega)
    have mk:=qfO (Jr ns (3+1+(k:Int))) (k:=(k:Int)+mxV v 3 % 61) (bd20 (by omega) (by omega))
    have s4:((3:Int)+1+(k:Int))=4+(k:Int):=by omega
    rw [s4] at ck mk
    refine ⟨_,?_,ms++[mxV (Jr ns (4+(k:Int))) ((k:Int)+mxV v 3 % 61)],some (.int (k:Nat)),rfl,by rw [Kj,Kj,hl];rfl⟩
    simp_arith [hz,ck,mk]
    simp only [Kz,Ku,VF])
  rw [KY] at hl
  refine ⟨ms,?_,by omega⟩
  delta Zb jy
  simp_arith [c3,hq,mx,hr,e]
theorem qf4 (v:Int):∃ z:Int,Q9 [.int v]=some (.int z):=by
 have p20:powD (.int 10) (.int 20)=some (.int (10 ^ 20)):=rfl
 have m2:mulD (.int 2) (.int (10 ^ 20))=some (.int (2*10 ^ 20)):=rfl
 have md:∀ x:Int,modD (.int x) (.int (2*10 ^ 20-59))=some (.int (x % (2*10 ^ 20-59))):=λx=>j8 _ (by decide)
 delta Q9 J6
 cases hq:(v % 2==1) with
 | true=>simp_arith [hq,p20,m2,md];exact ⟨_,rfl⟩
 | false=>simp_arith [hq];exact ⟨_,rfl⟩
def Cc (fs:aw)(T:bh):Prop:=∀ (i:Nat) (c:Ce),fs[i]?=some c->0<i->∃ (j:Nat) (c':Ce),j<i/\fs[j]?=some c'/\((c',c)∈T.map (·.1)\/(c,c')∈T.map (·.1))
theorem qlS (s:Ce):Cc [s] []:=λi c e h=>by
 cases i with
 | zero=>exact absurd h (Uc _)
 | succ i=>cases e
theorem qfC {T:bh}{k q:Ce×Ce}{v:Int}(h:q∈T.map (·.1)):q∈(jnd T k v).map (·.1):=by
 unfold jnd
 split
 ·exact h
 ·rw [Kz];exact KM _ h
theorem jnd_k (T:bh)(k:Ce×Ce)(v:Int):k∈(jnd T k v).map (·.1):=by
 unfold jnd
 split
 ·assumption
 ·rw [Kz];exact KG _ (Ks.mpr rfl)
theorem Cc.put {fs:aw}{T:bh}(cc:Cc fs T)(k:Ce×Ce)(v:Int):Cc fs (jnd T k v):=λi c e h=>by
 obtain ⟨j,c',h1,h2,h3⟩:=cc i c e h
 exact ⟨j,c',h1,h2,h3.elim (λz=>.inl (qfC z)) (λz=>.inr (qfC z))⟩
theorem Cc.more {fs:aw}{T:bh}(cc:Cc fs T){k:Ce×Ce}(v:Int){c o:Ce}(hc:c∈fs)(hk:k=(c,o)\/k=(o,c)):Cc (fs++[o]) (jnd T k v):=λi x e h=>by
 by_cases hi:i<fs.length
 ·rw [KL hi] at e
  obtain ⟨j,c',h1,h2,h3⟩:=cc.put k v i x e h
  exact ⟨j,c',h1,by rw [KL (by omega)];exact h2,h3⟩
 ·have hl:=(Kl.mp e).1
  rw [Kj,Kt] at hl
  have hi':i=fs.length:=by omega
  subst hi'
  rw [Vi (Kp _),X5] at e
  cases e
  obtain ⟨j,ej⟩:=V3 hc
  have jl:=(Kl.mp ej).1
  refine ⟨j,c,jl,by rw [KL jl];exact ej,?_⟩
  have:=jnd_k T k v
  rcases hk with z|z
  ·exact .inl (by rw [← z];exact this)
  ·exact .inr (by rw [← z];exact this)
theorem ql4 {ns ms:aA}{bl:ae}{L:Int}(lb:lenD [.list bl]=some (.int L))(hL:0<L)(hbl:∀ y:Int,∃ v,atI bl (y % L)=some (.int v)/\v∈zM)(hl:ms.length<=60)(s:Ce) :
  ∃ (fs:aw) (T:bh) (o6 o7 o8 o9:aD),forD (gNm 6) jG (ms.map .int) [some (.list (ns.map .int)),some (.int 3),some (.int 26),some (.list bl),some (.list [eC s]),some (.list []),none,none,none,none] =
   some (.nx [some (.list (ns.map .int)),some (.int 3),some (.int 26),some (.list bl),some (.list (fs.map eC)),some (.list (T.map eT3)),o6,o7,o8,o9])/\G13 ms.length fs T/\Cc fs T/\fs[0]?=some s:=by
 have c3:=Wt ns 3 (by decide)
 generalize Jr ns 3=q at c3
 obtain ⟨ρ',e,fs,T,o6,o7,o8,o9,rfl,g,cc,hs⟩:=QC Km (g:=gNm 6) (u:=jG)
  (λdone ρ=>∃ (fs:aw) (T:bh) (o6 o7 o8 o9:aD),ρ=[some (.list (ns.map .int)),some (.int 3),some (.int 26),some (.list bl),some (.list (fs.map eC)),some (.list (T.map eT3)),o6,o7,o8,o9]/\G13 done.length fs T/\Cc fs T/\fs[0]?=some s) ms [some (.list (ns.map .int)),some (.int 3),some (.int 26),some (.list bl),some (.list [eC s]),some (.list []),none,none,none,none]
  ⟨[s],[],none,none,none,none,rfl,⟨by simp,by simp,by simp,by simp,by simp,λp hp=>nomatch hp⟩,qlS s,rfl⟩ (by
   rintro y hx done ρ hdl ⟨fs,T,o6,o7,o8,o9,rfl,g,cc,hs⟩
   have hlen:(done++[y]).length=done.length+1:=by simp
   obtain ⟨c,hc,ec⟩:=qjO (y / 12) g.h0
   have e3:modD (.int (y / 12)) (.int (((fs.map eC).length:Nat):Int))=some (.int (y / 12 % (fs.length:Int))):=by rw [Kf];exact j8 _ (by have:=g.h0;omega)
   have e4:atI (fs.map eC) (y / 12 % (fs.length:Int))=some (eC c):=Zg (EM _ (by have:=g.h0;omega)) ec
   obtain ⟨w,hw,ew⟩:=emod4 y
   have e5:=qdX c hw
   obtain ⟨m1,m2⟩:=mm_eq c hw
   obtain ⟨ad,hp⟩:=qiP c hw
   have nn:=qkr fs (bs w c)
   have ii:=ql7 fs (bs w c)
   have hT:T.length<=900:=by have:=g.h3;omega
   have hz:(fs.map eC).length<1000:=by rw [Kf];have:=g.h1;omega
   have m1':modD (.int (y / 3744)) (.int L)=some (.int (y / 3744 % L)):=j8 _ hL
   obtain ⟨vb,x0,hvb⟩:=hbl (y / 3744)
   generalize ho:bs w c=o at *
   generalize hk:pk w c=k at *
   have h7:sSet 7 (Yr (ev2 (vr 4) (ev2 (ev2 (vr 6) (kd (.int 12)) jL) (evA (aC (vr 4) aN) lenD) modD) ixD)) [some (.list (ns.map .int)),some (.int 3),some (.int 26),some (.list bl),some (.list (fs.map eC)),some (.list (T.map eT3)),some (.int y),o7,o8,o9]=some (.nx [some (.list (ns.map .int)),some (.int 3),some (.int 26),some (.list bl),some (.list (fs.map eC)),some (.list (T.map eT3)),some (.int y),some (eC c),o8,o9]):=by
    simp_arith [e3,e4,qjX]
   have h8:sSet 8 (evC 2 (aC (vr 7) (aC (ev2 (vr 6) (kd (.int 4)) modD) aN)) Qc) [some (.list (ns.map .int)),some (.int 3),some (.int 26),some (.list bl),some (.list (fs.map eC)),some (.list (T.map eT3)),some (.int y),some (eC c),o8,o9]=some (.nx [some (.list (ns.map .int)),some (.int 3),some (.int 26),some (.list bl),some (.list (fs.map eC)),some (.list (T.map eT3)),some (.int y),some (eC c),some (eC o),o9]):=by
    simp_arith [ew,e5]
   have h9:sSet 9 (ev2 (ev2 (ev2 (vr 6) (kd (.int 4)) jL) (kd (.int 3)) modD) '%' subD) [some (.list (ns.map .int)),some (.int 3),some (.int 26),some (.list bl),some (.list (fs.map eC)),some (.list (T.map eT3)),some (.int y),some (eC c),some (eC o),o9]=some (.nx [some (.list (ns.map .int)),some (.int 3),some (.int 26),some (.list bl),some (.list (fs.map eC)),some (.list (T.map eT3)),some (.int y),some (eC c),some (eC o),some (.int (y / 4 % 3-1))]):=by
    simp_arith []
   obtain ⟨v,hv,hI⟩:∃ v:Int,v∈zM/\sIf (tV (ev2 (ev2 (evC 2 (aC (vr 0) (aC (vr 1) aN)) zu) (kd (.int 2)) modD) '$' eqD)) (sSet 9 (ev2 (vr 3) (ev2 (ev2 (vr 6) (kd (.int 3744)) jL) (evA (aC (vr 3) aN) lenD) modD) ixD)) sN [some (.list (ns.map .int)),some (.int 3),some (.int 26),some (.list bl),some (.list (fs.map eC)),some (.list (T.map eT3)),some (.int y),some (eC c),some (eC o),some (.int (y / 4 % 3-1))]=some (.nx [some (.list (ns.map .int)),some (.int 3),some (.int 26),some (.list bl),some (.list (fs.map eC)),some (.list (T.map eT3)),some (.int y),some (eC c),some (eC o),some (.int v)]):=by
    cases hq:(q % 2==0) with
    | true =>
     refine ⟨vb,hvb,?_⟩
     simp_arith [c3,hq,lb,m1',x0]
    | false =>
     refine ⟨y / 4 % 3-1,?_,?_⟩
     ·have h:y / 4 % 3-1=0\/y / 4 % 3-1=1\/y / 4 % 3-1=-1:=by omega
      rcases h with h|h|h<;>rw [h]<;>decide
     ·simp_arith [c3,hq]
   have fo:=qbT (jnd T k v)
   by_cases hin:o∈fs
   ·have ej:=qdF (.list (fs.map eC)) T hT m1 m2 v
    have mk:k.1∈fs/\k.2∈fs:=by rcases hp with z|z<;>rw [z]<;>exact ⟨by assumption,by assumption⟩
    refine ⟨[some (.list (ns.map .int)),some (.int 3),some (.int 26),some (.list bl),some (.list (fs.map eC)),some (.list ((jnd T k v).map eT3)),some (.int y),some (eC c),some (eC o),some (.int v)],Qu h7 (Qu h8 (Qu h9 (Qu hI ?_))),fs,_,_,_,_,_,rfl,by rw [hlen];exact g.put mk.1 mk.2 ad hv,cc.put k v,hs⟩
    simp_arith [ii,nn,bF hin,qcY,ej,fo]
   ·cases hlt:decide ((((fs.map eC).length:Nat):Int)<26) with
    | false =>
     refine ⟨[some (.list (ns.map .int)),some (.int 3),some (.int 26),some (.list bl),some (.list (fs.map eC)),some (.list (T.map eT3)),some (.int y),some (eC c),some (eC o),some (.int v)],Qu h7 (Qu h8 (Qu h9 (Qu hI ?_))),fs,T,_,_,_,_,rfl,by rw [hlen];exact ⟨g.h0,g.h1,g.h2,El g.h3,g.h4,g.h5⟩,cc,hs⟩
     simp_arith [ii,nn,bH hin,hlt]
    | true =>
     have hlt':fs.length<26:=by have:=bN hlt;rw [Kf] at this;omega
     have g':=g.more hin hlt'
     have ej:=qdF (.list ((fs++[o]).map eC)) T hT m1 m2 v
     have mk:k.1∈fs++[o]/\k.2∈fs++[o]:=by rcases hp with z|z<;>rw [z]<;>simp [hc]
     refine ⟨[some (.list (ns.map .int)),some (.int 3),some (.int 26),some (.list bl),some (.list ((fs++[o]).map eC)),some (.list ((jnd T k v).map eT3)),some (.int y),some (eC c),some (eC o),some (.int v)],Qu h7 (Qu h8 (Qu h9 (Qu hI ?_))),_,_,_,_,_,_,rfl,by rw [hlen];exact g'.put mk.1 mk.2 ad hv,cc.more v hc hp,by rw [KL g.h0];exact hs⟩
     rw [Kz,Ku,VF] at ej
     simp_arith [ii,nn,bH hin,hlt,hz,qcY]
     rw [ej]
     simp_arith [fo]
     simp only [Kz,Ku,VF])
 exact ⟨fs,T,o6,o7,o8,o9,e,g,cc,hs⟩
theorem qj3 (ns:aA){bl:ae}{L:Int}(lb:lenD [.list bl]=some (.int L))(hL:0<L)(hbl:∀ y:Int,∃ v,atI bl (y % L)=some (.int v)/\v∈zM):∃ (fs:aw) (T:bh),ZG [.list (ns.map .int),.int 3,.int 26,.list bl]=some (.tuple [.list (fs.map eC),.list (T.map eT3)])/\G13 60 fs T/\Cc fs T:=by
 obtain ⟨ms,em,hl⟩:=qld ns
 have c0:=Wt ns 0 (by decide)
 have c1:=Wt ns 1 (by decide)
 obtain ⟨x,ex⟩:=qf4 (Jr ns 0)
 obtain ⟨y,ey⟩:=qf4 (Jr ns 1)
 have pc:(Vk [.int x,.int y])=eC (x,y):=rfl
 obtain ⟨fs,T,o6,o7,o8,o9,e,g,cc,_⟩:=ql4 (ns:=ns) lb hL hbl hl (x,y)
 refine ⟨fs,T,?_,⟨g.h0,g.h1,g.h2,Ve g.h3 hl,g.h4,g.h5⟩,cc⟩
 delta ZG J2
 simp_arith [c0,c1,ex,ey,pc,em,e]
theorem qlP {S:aw}{c:Ce}(h:c∈S):S[S.idxOf c]?=some c:=by
 have hl:=ED.mpr h
 rw [Kk hl,List.getElem_idxOf hl]
theorem cn16 {fs S:aw}{T:bh}{J:List Sp}(h:J13 S J)(cc:Cc fs T)(pS:S.Perm fs)(pJ:J.Perm (T.map (jn S))):Cn S J:=by
 intro a b a0 a1 b0 b1 K ka cl
 have lkT:∀ c c':Ce,(c',c)∈T.map (·.1)\/(c,c')∈T.map (·.1)->(K (S.idxOf c:Nat)↔K (S.idxOf c':Nat)):=by
  have one:∀ c c':Ce,(c,c')∈T.map (·.1)->(K (S.idxOf c:Nat)↔K (S.idxOf c':Nat)):=λc c' hm=>by
   obtain ⟨p,hp,e⟩:=K3.mp hm
   have hj:jn S p∈J:=pJ.mem_iff.mpr (K3.mpr ⟨p,hp,rfl⟩)
   obtain ⟨w,_,e1,e2⟩:=lk_t h hj
   have i1:(jn S p).1=((S.idxOf c:Nat):Int):=by show ((S.idxOf p.1.1:Nat):Int)=_;rw [e]
   have i2:(jn S p).2.1=((S.idxOf c':Nat):Int):=by show ((S.idxOf p.1.2:Nat):Int)=_;rw [e]
   rw [i1,i2] at e1 e2
   exact ⟨λz=>cl _ _ _ z e1,λz=>cl _ _ _ z e2⟩
  exact λc c' hm=>hm.elim (λz=>(one c' c z).symm) (one c c')
 have ix:∀ x:Int,0<=x->x<(S.length:Int)->∃ (i:Nat) (c:Ce),fs[i]?=some c/\((S.idxOf c:Nat):Int)=x:=λx x0 x1=>by
  have hl:x.toNat<S.length:=by omega
  have hm:S[x.toNat]∈S:=Nt hl
  obtain ⟨i,ei⟩:=V3 (pS.mem_iff.mp hm)
  refine ⟨i,_,ei,?_⟩
  have e1:=qlP hm
  have e2:S[x.toNat]?=some S[x.toNat]:=Kk hl
  have:=(List.getElem?_inj hl h.nd).mp (e2.trans e1.symm)
  omega
 have f0:0<fs.length:=by rw [← pS.length_eq];exact h.s0
 obtain ⟨z,ez⟩:∃ z,fs[0]?=some z:=⟨_,Kk f0⟩
 have key:∀ (n i:Nat) (c:Ce),i<n->fs[i]?=some c->(K (S.idxOf c:Nat)↔K (S.idxOf z:Nat)):=by
  intro n
  induction n with
  | zero=>exact λ_ _ h=>absurd h (Xb _)
  | succ n ih =>
   intro i c hi e
   by_cases h0:i=0
   ·subst h0
    rw [ez] at e
    cases e
    exact Iff.rfl
   ·obtain ⟨j,c',hj,ej,hm⟩:=cc i c e (by omega)
    exact (lkT c c' hm).trans (ih j c' (by omega) ej)
 obtain ⟨i,c,ei,rfl⟩:=ix a a0 a1
 obtain ⟨j,d,ej,rfl⟩:=ix b b0 b1
 exact (key (j+1) j d (by omega) ej).mpr ((key (i+1) i c (by omega) ei).mp ka)
def pkO (P:ar)(qs:aA):List Og:=qs.map λk=>(k,poD P k)
theorem qfI (P:ar)(qs:aA):ky (pkO P qs)=qs:=by
 unfold ky pkO
 rw [Vj]
 exact List.map_id' qs
theorem qf2 {P:ar}{qs:aA}(nd:qs.Nodup){k:Int}(hk:k∈qs):ix2D (.dict (eO (pkO P qs))) (.int k)=some (poD P k):=by
 obtain ⟨i,ei⟩:=V3 hk
 exact qdE (by rw [qfI];exact nd) (i:=i) (by unfold pkO;rw [Ky,ei];rfl)
structure Dq (n:Nat)(P:ar)(qs ws:aA):Prop where
 kr:∀ k∈qs,0<=k/\k<(n:Int)
 wk:∀ w∈ws,w∈qs
 nd:qs.Nodup
 z:(0:Int)∈qs
 size:qs.length+un n (pkO P qs)<=n+1
 wsz:ws.length<=qs.length
 tn:∀ k∈qs,(P k).2∈qF
def updP (P:ar)(j:Int)(x:aL):Int->Sp3×Tr:=λk=>if k=j then x else P k
theorem qjm {P:ar}{j k:Int}(x:aL)(h:k≠j):updP P j x k=P k:=bJ h
theorem qgf (P:ar)(j:Int)(x:aL):updP P j x j=x:=bI rfl
theorem qiQ {P:ar}{qs:aA}{j:Int}(x:aL)(hj:j∉qs):pkO (updP P j x) qs=pkO P qs:=by
 unfold pkO
 refine V8 λk hk=>?_
 unfold poD
 rw [qjm x (show k≠j from λz=>hj (z ▸ hk))]
theorem qf3 (P:ar)(qs:aA)(j:Int):pkO P (qs++[j])=pkO P qs++[(j,poD P j)]:=by unfold pkO;rw [Kz];rfl
theorem Dq.add {n:Nat}{P:ar}{qs ws:aA}(b:Dq n P qs ws){j:Int}(j0:0<=j)(j1:j<(n:Int))(hj:j∉qs){x:aL}(hx:x.2∈qF):Dq n (updP P j x) (qs++[j]) (ws++[j])/\un n (pkO (updP P j x) (qs++[j]))+1<=un n (pkO P qs):=by
 have hu:=qe8 (poD (updP P j x) j) j0 j1 (os:=pkO P qs) (by rw [qfI];exact hj)
 have e:pkO (updP P j x) (qs++[j])=pkO P qs++[(j,poD (updP P j x) j)]:=by rw [qf3,qiQ x hj]
 refine ⟨⟨λk hk=>?_,λk hk=>?_,?_,KM _ b.z,?_,?_,λk hk=>?_⟩,by rw [e];omega⟩
 ·rcases KO.mp hk with z|z
  ·exact b.kr k z
  ·rw [Ks.mp z];exact ⟨j0,j1⟩
 ·rcases KO.mp hk with z|z
  ·exact KM _ (b.wk k z)
  ·exact KG _ z
 ·rw [Ux]
  exact ⟨b.nd,by simp,λa ha c hc z=>hj (by rw [← Ks.mp hc,← z];exact ha)⟩
 ·rw [e,Kj,Kt]
  have:=b.size
  omega
 ·have:=b.wsz
  rw [Kj,Kj,Kt];omega
 ·rcases KO.mp hk with z|z
  ·rw [qjm x (show k≠j from λy=>hj (y ▸ z))];exact b.tn k z
  ·rw [Ks.mp z,qgf];exact hx
def Gd (S:aw)(J:List Sp)(p0:aL)(Q:ar):Prop:=Q 0=p0/\∀ a b s,lk13 S J a b=some s->Q b=ledP (Q a) s
theorem qia {S:aw}{J:List Sp}(h:J13 S J)(cn:Cn S J){p0:aL}(hp:p0.2∈qF)(Q:ar):∃ (P:ar) (R:Bool),Za [eLS (nrL S J),.int 0,encP p0.1 p0.2]=some (.tuple [.list ((KN S.length).map λk:Nat=>poD P (k:Int)),.bool R])/\
  (∀ k,0<=k->k<(S.length:Int)->(P k).2∈qF)/\(R=true->Gd S J p0 P)/\(Gd S J p0 Q->R=true/\∀ k,0<=k->k<(S.length:Int)->P k=Q k):=by
 have ls:=h.ls
 have s0:=h.s0
 obtain ⟨ρ',m',ew,⟨P,R,qs,ws,o6,o7,o8,o9,o10,rfl,b,p00,cl,gq,-⟩,et⟩:=yc (t:=tV (ev2 (evA (aC (vr 4) aN) lenD) '$' gtD)) (body:=jH)
  (λm ρ=>∃ (P:ar) (R:Bool) (qs ws:aA) (o6 o7 o8 o9 o10:aD),ρ=[some (eLS (nrL S J)),some (.int 0),some (encP p0.1 p0.2),some (.dict (eO (pkO P qs))),some (.list (ws.map .int)),some (.bool R),o6,o7,o8,o9,o10]/\Dq S.length P qs ws/\P 0=p0/\(∀ k∈qs,k∉ws->∀ s∈J.filterMap (nbF S k),s.2.1∈qs/\(R=true->P s.2.1=ledP (P k) s))/\(Gd S J p0 Q->R=true/\∀ k∈qs,P k=Q k)/\m=2*un S.length (pkO P qs)+ws.length) (by
   rintro m ρ ⟨P,R,qs,ws,o6,o7,o8,o9,o10,rfl,b,p00,cl,gq,rfl⟩
   rcases JS ws with rfl|⟨ws,w,rfl⟩
   ·exact .inl (by simp_arith [VF,VO])
   ·have g0:decide ((0:Int)<(((ws++[w]).map Km).length:Int))=true:=bF (by rw [Kf,Kj,Kt];omega)
    refine .inr ⟨by simp_arith [g0],?_⟩
    have hwk:=b.wk w (KG _ (Ks.mpr rfl))
    obtain ⟨w0,w1⟩:=b.kr w hwk
    have hix:=qip (J:=J) w0 w1
    have po:popD (.list ((ws++[w]).map Km))=some (.int w,.list (ws.map .int)):=by rw [Kz];exact WM _ _
    have tw:=b.tn w hwk
    obtain ⟨ρ1,el,P1,R1,qs1,ws1,o7',o8',o9',o10',rfl,b1,q1,q2,g1,g2,g3,g4,g5,gq1⟩:=QC eS (g:=unpD 3 (gsC (gNm 7) (gsC (gNm 8) (gsC (gNm 9) gsN)))) (u:=yF)
     (λdone ρ=>∃ (P1:ar) (R1:Bool) (qs1 ws1:aA) (o7 o8 o9 o10:aD),ρ=[some (eLS (nrL S J)),some (.int 0),some (encP p0.1 p0.2),some (.dict (eO (pkO P1 qs1))),some (.list (ws1.map .int)),some (.bool R1),some (.int w),o7,o8,o9,o10]/\Dq S.length P1 qs1 ws1/\(∀ k∈qs,P1 k=P k)/\(R1=true->R=true)/\(∀ s∈done,s.2.1∈qs1/\(R1=true->P1 s.2.1=ledP (P w) s))/\(∀ k∈qs,k∈qs1)/\(∀ k∈ws,k∈ws1)/\(∀ k∈qs1,k∉ws1->k∈qs)/\2*un S.length (pkO P1 qs1)+ws1.length<=2*un S.length (pkO P qs)+ws.length/\(Gd S J p0 Q->R1=true/\∀ k∈qs1,P1 k=Q k)) (J.filterMap (nbF S w)) [some (eLS (nrL S J)),some (.int 0),some (encP p0.1 p0.2),some (.dict (eO (pkO P qs))),some (.list (ws.map .int)),some (.bool R),some (.int w),o7,o8,o9,o10] ⟨P,R,qs,ws,o7,o8,o9,o10,rfl,⟨b.kr,λk hk=>b.wk k (KM _ hk),b.nd,b.z,b.size,by have:=b.wsz;rw [Kj,Kt] at this;omega,b.tn⟩,λ_ _=>rfl,λz=>z,(λx hx=>by cases hx),λk h=>h,λk h=>h,λk h _=>h,Kp _,gq⟩ (by
      rintro s hs done ρ hdl ⟨P1,R1,qs1,ws1,o7,o8,o9,o10,rfl,b1,q1,q2,g1,g2,g3,g4,g5,gq1⟩
      have es:=qfL h hs
      obtain ⟨hw,hb⟩:=yj h es
      obtain ⟨_,j0,j1⟩:=yl h hs
      have hu:unpD 3 (gsC (gNm 7) (gsC (gNm 8) (gsC (gNm 9) gsN))) (eS s) [some (eLS (nrL S J)),some (.int 0),some (encP p0.1 p0.2),some (.dict (eO (pkO P1 qs1))),some (.list (ws1.map .int)),some (.bool R1),some (.int w),o7,o8,o9,o10]=some [some (eLS (nrL S J)),some (.int 0),some (encP p0.1 p0.2),some (.dict (eO (pkO P1 qs1))),some (.list (ws1.map .int)),some (.bool R1),some (.int w),some (.int s.1),some (.int s.2.1),some (.int s.2.2),o10]:=rfl
      rw [hu,ob_s]
      have xw:ix2D (.dict (eO (pkO P1 qs1))) (.int w)=some (poD P w):=by
       have:=qf2 (P:=P1) b1.nd (g2 w hwk)
       unfold poD at this ⊢
       rw [this,q1 w hwk]
      have tf:(ledP (P w) s).2∈qF:=qaY tw hw hb
      have le:Qe [poD P w,.int s.1,.int s.2.2]=some (encP (ledP (P w) s).1 (ledP (P w) s).2):=qh6 (P w).1 (Tn.of tw) hw hb
      have fl:flat (encP (ledP (P w) s).1 (ledP (P w) s).2)=true:=rfl
      have flb:∀ c,flat (.bool c)=true:=λ_=>rfl
      have hni:=qin (pkO P1 qs1) s.2.1
      rw [qfI] at hni
      have qw:Gd S J p0 Q->ledP (P w) s=Q s.2.1:=λhg=>by
       rw [hg.2 w s.2.1 s es,← q1 w hwk,(gq1 hg).2 w (g2 w hwk)]
      by_cases hin:s.2.1∈qs1
      ·have xj:=qf2 (P:=P1) b1.nd hin
       have eq:eqD (poD P1 s.2.1) (encP (ledP (P w) s).1 (ledP (P w) s).2)=some (.bool (decide (P1 s.2.1=ledP (P w) s))):=by
        have:=eqvP (P1 s.2.1) (ledP (P w) s) (b1.tn _ hin) tf
        unfold eqD poD
        rw [bI ⟨rfl,rfl⟩,this]
       refine ⟨_,?_,P1,R1&&decide (P1 s.2.1=ledP (P w) s),qs1,ws1,some (.int s.1),some (.int s.2.1),some (.int s.2.2),some (encP (ledP (P w) s).1 (ledP (P w) s).2),rfl,b1,q1,λz=>q2 ?_,λx hx=>?_,g2,g3,g4,g5,λhg=>⟨?_,(gq1 hg).2⟩⟩
       ·cases R1 with
        | true=>simp_arith [xw,le,fl,hni,bF hin,xj,eq,flb,E9]
        | false=>simp_arith [xw,le,fl,hni,bF hin,flb,Bool.false_and]
       ·rw [KD] at z;exact z.1
       ·rcases KO.mp hx with z|z
        ·exact ⟨(g1 x z).1,λy=>(g1 x z).2 (by rw [KD] at y;exact y.1)⟩
        ·rw [Ks.mp z]
         exact ⟨hin,λy=>by rw [KD] at y;exact bN y.2⟩
       ·rw [(gq1 hg).1,qw hg,(gq1 hg).2 _ hin,bF rfl];rfl
      ·obtain ⟨bA,uA⟩:=b1.add (P:=P1) j0 j1 hin tf
       have ej:poD (updP P1 s.2.1 (ledP (P w) s)) s.2.1=encP (ledP (P w) s).1 (ledP (P w) s).2:=by unfold poD;rw [qgf]
       have eq:eqD (encP (ledP (P w) s).1 (ledP (P w) s).2) (encP (ledP (P w) s).1 (ledP (P w) s).2)=some (.bool true):=by
        have:=eqvP (ledP (P w) s) (ledP (P w) s) tf tf
        unfold eqD
        rw [bI ⟨rfl,rfl⟩,this,bF rfl]
       have hol:(pkO P1 qs1).length<900:=by unfold pkO;rw [Kf];have:=b1.size;omega
       have hp:=qeW (os:=pkO P1 qs1) (encP (ledP (P w) s).1 (ledP (P w) s).2) hol (by rw [qfI];exact hin)
       have e2:pkO P1 qs1++[(s.2.1,encP (ledP (P w) s).1 (ledP (P w) s).2)]=pkO (updP P1 s.2.1 (ledP (P w) s)) (qs1++[s.2.1]):=by rw [qf3,qiQ _ hin,ej]
       rw [e2] at hp
       have hz:(ws1.map Km).length<1000:=by rw [Kf];have:=b1.wsz;have:=b1.size;omega
       have xj:=qf2 (P:=updP P1 s.2.1 (ledP (P w) s)) bA.nd (KG qs1 (Ks.mpr (rfl:s.2.1=s.2.1)))
       rw [ej] at xj
       have un1:∀ k∈qs1,updP P1 s.2.1 (ledP (P w) s) k=P1 k:=λk hk=>qjm _ λz=>hin (z ▸ hk)
       refine ⟨_,?_,updP P1 s.2.1 (ledP (P w) s),R1,qs1++[s.2.1],ws1++[s.2.1],some (.int s.1),some (.int s.2.1),some (.int s.2.2),some (encP (ledP (P w) s).1 (ledP (P w) s).2),rfl,bA,λk hk=>(un1 k (g2 k hk)).trans (q1 k hk),q2,λx hx=>?_,λk hk=>KM _ (g2 k hk),λk hk=>KM _ (g3 k hk),λk hk hw=>?_,?_,λhg=>⟨(gq1 hg).1,λk hk=>?_⟩⟩
       ·cases R1 with
        | true =>
         simp_arith [xw,le,fl,hni,bH hin,hp,hz,xj,eq,flb]
         simp only [Kz,Ku,VF]
        | false =>
         simp_arith [xw,le,fl,hni,bH hin,hp,hz,flb]
         simp only [Kz,Ku,VF]
       ·rcases KO.mp hx with z|z
        ·exact ⟨KM _ (g1 x z).1,λy=>(un1 _ (g1 x z).1).trans ((g1 x z).2 y)⟩
        ·rw [Ks.mp z];exact ⟨KG _ (Ks.mpr rfl),λ_=>qgf _ _ _⟩
       ·rcases KO.mp hk with z|z
        ·exact g4 k z λy=>hw (KM _ y)
        ·exact absurd (KG _ z) hw
       ·rw [Kj,Kt];omega
       ·rcases KO.mp hk with z|z
        ·rw [un1 k z];exact (gq1 hg).2 k z
        ·rw [Ks.mp z,qgf];exact qw hg)
    refine ⟨_,_,?_,?_,P1,R1,qs1,ws1,some (.int w),o7',o8',o9',o10',rfl,b1,by rw [q1 0 b.z];exact p00,λk hk hkw s hs=>?_,gq1,rfl⟩
    ·have sq:seqD (.list ((J.filterMap (nbF S w)).map eS))=some ((J.filterMap (nbF S w)).map eS):=rfl
     simp_arith [po,hix,sq,el]
    ·rw [Kj,Kt];omega
    ·by_cases hkk:k=w
     ·subst hkk
      rw [q1 k hwk]
      exact g1 s hs
     ·have kq:=g4 k hk hkw
      obtain ⟨c1,c2⟩:=cl k kq (λz=>(KO.mp z).elim (λz=>hkw (g3 k z)) λz=>hkk (Ks.mp z)) s hs
      exact ⟨g2 _ c1,λy=>by rw [q1 _ c1,q1 k kq];exact c2 (q2 y)⟩) 1000000 (2*un S.length (pkO (λ_=>p0) [0])+1) [some (eLS (nrL S J)),some (.int 0),some (encP p0.1 p0.2),some (.dict (eO (pkO (λ_=>p0) [0]))),some (.list ([(0:Int)].map .int)),some (.bool true),none,none,none,none,none] (by
   have:un S.length (pkO (λ_=>p0) [0])<=S.length:=by
    unfold un
    exact Ve XD (by rw [KY];exact Kp _)
   omega) ⟨λ_=>p0,true,[0],[0],none,none,none,none,none,rfl,⟨λk hk=>by rw [Ks.mp hk];exact ⟨NX 0,by omega⟩,λw hw=>hw,by unfold Na;exact EF _ _,.head _,by
    have:un S.length (pkO (λ_=>p0) [0])<=S.length:=by
     unfold un
     exact Ve XD (by rw [KY];exact Kp _)
    rw [Kt];omega,Kp _,λ_ _=>hp⟩,rfl,λk hk hw=>absurd hk hw,λhg=>⟨rfl,λk hk=>by rw [Ks.mp hk];exact hg.1.symm⟩,rfl⟩
 have hws:ws=[]:=by
  rcases JS ws with rfl|⟨ws,w,rfl⟩
  ·rfl
  ·have g0:decide ((0:Int)<(((ws++[w]).map Km).length:Int))=true:=bF (by rw [Kf,Kj,Kt];omega)
   simp_arith [g0] at et
   cases et
 subst hws
 have all:∀ k,0<=k->k<(S.length:Int)->k∈qs:=λk k0 k1=>cn 0 k (NX 0) (by omega) k0 k1 (λx=>x∈qs) b.z λx y s hx e=>by
  obtain ⟨hs,rfl⟩:=Z6 e
  exact (cl x hx (λz=>nomatch z) s hs).1
 refine ⟨P,R,?_,λk k0 k1=>b.tn k (all k k0 k1),λhR=>⟨p00,λa c s e=>?_⟩,λhg=>⟨(gq hg).1,λk k0 k1=>(gq hg).2 k (all k k0 k1)⟩⟩
 ·have hw:JX (tV (ev2 (evA (aC (vr 4) aN) lenD) '$' gtD)) jH [some (eLS (nrL S J)),some (.int 0),some (encP p0.1 p0.2),some (.dict [(.int 0,encP p0.1 p0.2)]),some (.list [.int 0]),some (.bool true),none,none,none,none,none]=some (.nx [some (eLS (nrL S J)),some (.int 0),some (encP p0.1 p0.2),some (.dict (eO (pkO P qs))),some (.list []),some (.bool R),o6,o7,o8,o9,o10]):=ew
  have d1:qaH (.int 0) (encP p0.1 p0.2)=some (.dict [(.int 0,encP p0.1 p0.2)]):=rfl
  have lN:lenD [eLS (nrL S J)]=some (.int ((S.length:Nat):Int)):=by
   show some (Km ((((nrL S J).map λl=>Vu (l.map eS)).length:Nat):Int))=_
   rw [Kf,nrL,Kf,KY]
  have hr:(if (-1000:Int)<=((S.length:Nat):Int)/\((S.length:Nat):Int)<=1000 then some (rngL 0 (((S.length:Nat):Int)).toNat) else none)=some ((KN S.length).map λk:Nat=>Km (k:Nat)):=by
   rw [bI (by omega),K4,jV]
  have hc:Zc tT (ev2 (vr 3) (vr 11) ix2D) [some (eLS (nrL S J)),some (.int 0),some (encP p0.1 p0.2),some (.dict (eO (pkO P qs))),some (.list []),some (.bool R),o6,o7,o8,o9,o10] ((KN S.length).map λk:Nat=>Km (k:Nat))=some ((KN S.length).map λk:Nat=>poD P (k:Int)) :=
   qaE (λk:Nat=>Km (k:Nat)) _ _ λk hk=>by
    have x:=qf2 (P:=P) b.nd (all (k:Int) (by omega) (by have:=Ur.mp hk;omega))
    simp_arith [x]
  have hlen:((KN S.length).map λk:Nat=>Km (k:Nat)).length<=1000:=by rw [Kf,KY];omega
  delta Za J7
  simp_arith [d1,hw,lN,hr,hlen,hc]
 ·obtain ⟨hs,rfl⟩:=Z6 e
  have hi:=(yl h hs).1
  exact (cl a (all a hi.1 hi.2) (λz=>nomatch z) s hs).2 hR
theorem qlq (all:List Sp3):∀ (m n:Nat),n+m=all.length->(∀ (i j:Nat) (a:Sp3),i<j->j<n->all[i]?=some a->all[j]?≠some a)->
  match fmA ((all.take n).zipIdx) n (all.drop n) with
  | none=>∀ (i j:Nat) (a:Sp3),i<j->all[i]?=some a->all[j]?≠some a
  | some q=>q.1<q.2/\(∃ a,all[q.1]?=some a/\all[q.2]?=some a)/\(∀ (i j:Nat) (a:Sp3),i<j->j<q.2->all[i]?=some a->all[j]?≠some a)
 | 0,n,hn,hd=>by
  rw [EW (by omega)]
  exact λi j a hij ei ej=>hd i j a hij (by have:=(Kl.mp ej).1;omega) ei ej
 | m+1,n,hn,hd=>by
  have hl:n<all.length:=by omega
  rw [VH hl]
  unfold fmA
  cases e:((all.take n).zipIdx).find? λp=>decide (p.1=all[n]) with
  | some p =>
   have hm:=Uk e
   have hp:p.1=all[n]:=bN (XW (p:=λp:Sp3×Nat=>decide (p.1=all[n])) e)
   obtain ⟨h1,h2⟩:=NU.mp hm |> λh=>(⟨h,(Kl.mp h).1⟩:_/\_)
   rw [UU] at h2
   rw [XZ (by omega)] at h1
   exact ⟨by show p.2<n;omega,⟨all[n],by show all[p.2]?=_;rw [h1,hp],Kk hl⟩,hd⟩
  | none =>
   have step:(all.take n).zipIdx++[(all[n],n)]=(all.take (n+1)).zipIdx:=by
    rw [List.take_succ,Kk hl,List.zipIdx_append,UU,Nat.min_eq_left (by omega)]
    simp
   dsimp only
   rw [step]
   refine qlq all m (n+1) (by omega) λi j a hij hj ei ej=>?_
   by_cases hjn:j<n
   ·exact hd i j a hij hjn ei ej
   ·have:j=n:=by omega
    subst this
    rw [Kk hl] at ej
    cases ej
    have:=U8.mp e (all[j],i) (NU.mpr (by rw [XZ hij];exact ei))
    exact this (bF rfl)
theorem eqS15 (a b:Sp3):eqD (encS a) (encS b)=some (.bool (decide (a=b))):=by
 unfold eqD
 rw [bI ⟨rfl,rfl⟩,qdp]
theorem clI {ps:List (Sp3×Tr)}{j:Nat}{pj:aL}(ej:ps[j]?=some pj):∀ (m i:Nat) (o2:aD),i+m<=ps.length->
  ((∀ k p,i<=k->k<i+m->ps[k]?=some p->p.1≠pj.1)->∃ r2,forD (gNm 2) QT (rngL (i:Nat) m) [some (.list '0'),some (.int (j:Nat)),o2]=some (.nx [some (.list '0'),some (.int (j:Nat)),r2]))/\
  (∀ q pq,i<=q->q<i+m->ps[q]?=some pq->pq.1=pj.1->(∀ k p,i<=k->k<q->ps[k]?=some p->p.1≠pj.1)->forD (gNm 2) QT (rngL (i:Nat) m) [some (.list '0'),some (.int (j:Nat)),o2]=some (.rt (.tuple [.str "clash", .int (q:Nat),.int (j:Nat)])))
 | 0,i,o2,_=>⟨λ_=>⟨o2,rfl⟩,λq _ h1 h2=>absurd h2 (by omega)⟩
 | m+1,i,o2,hl=>by
  obtain ⟨pi,ei⟩:∃ p,ps[i]?=some p:=⟨_,Kk (by omega)⟩
  have x1:atI '0' ((i:Nat):Int)=some (encP pi.1 pi.2):=Zg (f:=λp:Sp3×Tr=>encP p.1 p.2) (by omega) (by rw [K4];exact ei)
  have x2:atI '0' ((j:Nat):Int)=some (encP pj.1 pj.2):=Zg (f:=λp:Sp3×Tr=>encP p.1 p.2) (by omega) (by rw [K4];exact ej)
  have eq:=eqS15 pi.1 pj.1
  have hr:rngL ((i:Nat):Int) (m+1)=.int (i:Nat)::rngL ((i+1:Nat):Int) m:=rfl
  have hg:gNm 2 (.int (i:Nat)) [some (.list '0'),some (.int (j:Nat)),o2]=some [some (.list '0'),some (.int (j:Nat)),some (.int (i:Nat))]:=rfl
  obtain ⟨ih1,ih2⟩:=clI ej m (i+1) (some (.int (i:Nat))) (by omega)
  have go:pi.1≠pj.1->QT [some (.list '0'),some (.int (j:Nat)),some (.int (i:Nat))]=some (.nx [some (.list '0'),some (.int (j:Nat)),some (.int (i:Nat))]):=λne=>by
   rw [bH ne] at eq
   simp_arith [x1,x2,ixP0,eq]
  have hit:pi.1=pj.1->QT [some (.list '0'),some (.int (j:Nat)),some (.int (i:Nat))]=some (.rt (.tuple [.str "clash", .int (i:Nat),.int (j:Nat)])):=λhe=>by
   rw [bF he] at eq
   simp_arith [x1,x2,ixP0,eq]
  refine ⟨λhn=>?_,λq pq h1 h2 h3 h4 h5=>?_⟩
  ·have ne:=hn i pi (Kp _) (by omega) ei
   rw [hr,Qs,hg,ob_s,go ne,jc]
   exact ih1 λk p h1 h2 h3=>hn k p (by omega) (by omega) h3
  ·by_cases hq:q=i
   ·subst hq
    rw [ei] at h3
    cases h3
    rw [hr,Qs,hg,ob_s,hit h4]
    rfl
   ·have ne:=h5 i pi (Kp _) (by omega) ei
    rw [hr,Qs,hg,ob_s,go ne,jc]
    exact ih2 q pq (by omega) (by omega) h3 h4 λk p h6 h7 h8=>h5 k p (by omega) h7 h8
theorem qlE {n:Nat}(hn:n<=800):(if (-1000:Int)<=((n:Nat):Int)/\((n:Nat):Int)<=1000 then some (rngL 0 (((n:Nat):Int)).toNat) else none)=some (rngL 0 n):=by
 rw [bI (by omega),K4]
theorem clO {ps:List (Sp3×Tr)}(hl:ps.length<=800):∀ (m j:Nat) (o1 o2:aD),j+m<=ps.length->
  ((∀ i k p q,i<k->j<=k->k<j+m->ps[i]?=some p->ps[k]?=some q->p.1≠q.1)->∃ r1 r2,forD (gNm 1) Qx (rngL (j:Nat) m) [some (.list '0'),o1,o2]=some (.nx [some (.list '0'),r1,r2]))/\
  (∀ q k pq pk,j<=k->k<j+m->q<k->ps[q]?=some pq->ps[k]?=some pk->pq.1=pk.1->(∀ i' k' p' q',i'<k'->k'<k->ps[i']?=some p'->ps[k']?=some q'->p'.1≠q'.1)->forD (gNm 1) Qx (rngL (j:Nat) m) [some (.list '0'),o1,o2]=some (.rt (.tuple [.str "clash", .int (q:Nat),.int (k:Nat)])))
 | 0,j,o1,o2,_=>⟨λ_=>⟨o1,o2,rfl⟩,λ_ k _ _ h1 h2=>absurd h2 (by omega)⟩
 | m+1,j,o1,o2,hj=>by
  obtain ⟨pj,ej⟩:∃ p,ps[j]?=some p:=⟨_,Kk (by omega)⟩
  obtain ⟨c1,c2⟩:=clI ej j 0 o2 (by omega)
  rw [show ((0:Nat):Int)=0 from rfl] at c1 c2
  have hr:rngL ((j:Nat):Int) (m+1)=.int (j:Nat)::rngL ((j+1:Nat):Int) m:=rfl
  have hg:gNm 1 (.int (j:Nat)) [some (.list '0'),o1,o2]=some [some (.list '0'),some (.int (j:Nat)),o2]:=rfl
  have rj:=qlE (n:=j) (by omega)
  refine ⟨λhn=>?_,λq k pq pk h1 h2 h3 h4 h5 h6 h7=>?_⟩
  ·obtain ⟨r2,e⟩:=c1 λk p h1 h2 h3=>hn k j p pj (by omega) (Kp _) (by omega) h3 ej
   have hb:Qx [some (.list '0'),some (.int (j:Nat)),o2]=some (.nx [some (.list '0'),some (.int (j:Nat)),r2]):=by
    simp_arith [-L2.Qs,-L2.Yy,rj,e]
   rw [hr,Qs,hg,ob_s,hb,jc]
   exact (clO hl m (j+1) _ _ (by omega)).1 λi k p q a b c d e=>hn i k p q a (by omega) (by omega) d e
  ·by_cases hk:k=j
   ·subst hk
    rw [ej] at h5
    cases h5
    have e:=c2 q pq (Vh _) (by omega) h4 h6 λk' p a b c hh=>h7 k' q p pq b h3 c h4 (by rw [hh,h6])
    have hb:Qx [some (.list '0'),some (.int (k:Nat)),o2]=some (.rt (.tuple [.str "clash", .int (q:Nat),.int (k:Nat)])):=by
     simp_arith [-L2.Qs,-L2.Yy,rj,e]
    rw [hr,Qs,hg,ob_s,hb]
    rfl
   ·obtain ⟨r2,e⟩:=c1 λk' p a b c=>h7 k' j p pj (by omega) (by omega) c ej
    have hb:Qx [some (.list '0'),some (.int (j:Nat)),o2]=some (.nx [some (.list '0'),some (.int (j:Nat)),r2]):=by
     simp_arith [-L2.Qs,-L2.Yy,rj,e]
    rw [hr,Qs,hg,ob_s,hb,jc]
    exact (clO hl m (j+1) _ _ (by omega)).2 q k pq pk (by omega) (by omega) h3 h4 h5 h6 h7
def clD:Option (Nat×Nat)->Ka
 | none=>.none
 | some q=>.tuple [.str "clash", .int (q.1:Nat),.int (q.2:Nat)]
theorem qjA {ps:List (Sp3×Tr)}(hl:ps.length<=800):zP [.list '0']=some (clD (fmA [] 0 (ps.map (·.1)))):=by
 have fm:=qlq (ps.map (·.1)) (ps.map (·.1)).length 0 (Ew _) λ_ _ _ _ h=>absurd h (Xb _)
 have lN:lenD [.list '0']=some (.int ((ps.length:Nat):Int)):=by
  show some (Km (('0'.length:Nat):Int))=_
  rw [Kf]
 have rj:=qlE (n:=ps.length) hl
 obtain ⟨c1,c2⟩:=clO hl ps.length 0 none none (by omega)
 rw [show ((0:Nat):Int)=0 from rfl] at c1 c2
 have sp:∀ {i:Nat} {p:aL},ps[i]?=some p->(ps.map (·.1))[i]?=some p.1:=λe=>by rw [Ky,e];rfl
 have fm:match fmA [] 0 (ps.map (·.1)) with
  | none=>∀ (i j:Nat) (a:Sp3),i<j->(ps.map (·.1))[i]?=some a->(ps.map (·.1))[j]?≠some a
  | some q=>q.1<q.2/\(∃ a,(ps.map (·.1))[q.1]?=some a/\(ps.map (·.1))[q.2]?=some a)/\(∀ (i j:Nat) (a:Sp3),i<j->j<q.2->(ps.map (·.1))[i]?=some a->(ps.map (·.1))[j]?≠some a):=fm
 cases e:fmA [] 0 (ps.map (·.1)) with
 | none =>
  rw [e] at fm
  obtain ⟨r1,r2,e1⟩:=c1 λi k p q hik _ _ e1 e2 hh=>fm i k p.1 hik (sp e1) (by rw [hh];exact sp e2)
  delta zP jx
  simp_arith [-L2.Qs,-L2.Yy,lN,rj,e1]
  rfl
 | some q =>
  rw [e] at fm
  obtain ⟨f1,⟨a,f2,f3⟩,f4⟩:=fm
  rw [Ky] at f2 f3
  obtain ⟨pq,g1,g2⟩:=UD.mp f2
  obtain ⟨pk,g3,g4⟩:=UD.mp f3
  have e1:=c2 q.1 q.2 pq pk (Vh _) (by have:=(Kl.mp g3).1;omega) f1 g1 g3 (g2.trans g4.symm) λi' k' p' q' h1 h2 h3 h4 hh=>f4 i' k' p'.1 h1 h2 (sp h3) (by rw [hh];exact sp h4)
  delta zP jx
  simp_arith [-L2.Qs,-L2.Yy,lN,rj,e1]
  rfl
theorem two15 {fs:aw}{A:bh}(nd:(A.map (·.1)).Nodup)(ok:∀ p∈A,p.1.1∈fs/\Adj p.1.1 p.1.2):A.length<=2*fs.length:=by
 have sub:(A.map (·.1)).length<=(fs.flatMap λa=>[(a,bs 0 a),(a,bs 1 a)]).length:=List.Nodup.length_le_of_subset nd λq hq=>by
  obtain ⟨p,hp,rfl⟩:=K3.mp hq
  obtain ⟨h1,h2⟩:=ok p hp
  refine List.mem_flatMap.mpr ⟨p.1.1,h1,?_⟩
  obtain ⟨⟨a,b⟩,v⟩:=p
  rcases h2 with h2|h2
  ·exact Kr.mpr (.inl (by show (a,b)=(a,bs 0 a);rw [show b=bs 0 a from h2]))
  ·exact Kr.mpr (.inr (Ks.mpr (by show (a,b)=(a,bs 1 a);rw [show b=bs 1 a from h2])))
 rw [Kf] at sub
 refine Ve sub ?_
 clear sub ok
 induction fs with
 | nil=>exact Kp _
 | cons a fs ih=>rw [List.flatMap_cons,Kj,Kw,Kw,Kw,VO];omega
theorem fo_ks {S:aw}{J:List Sp}{os:aK}{f0:Int}{p0:aL}{P:ar}{r:Ka}(f:Fo S J os f0 p0 P r){t:Sp}{ks:aA}(rg:Rg S os t ks):∀ k∈ks,0<=k/\k<(S.length:Int):=λk hk=>f.kr k (rg.mem k hk)
theorem qeK (S:aw)(J:List Sp):lenD [eLS (nrL S J)]=some (.int ((S.length:Nat):Int)):=by
 show some (Km ((((nrL S J).map λl=>Vu (l.map eS)).length:Nat):Int))=_
 rw [Kf,nrL,Kf,KY]
def sp14:Sp3:=⟨3,0,-1⟩
def st14:Tr:=⟨0,0,1,-1,0,0,0,-1,0⟩
theorem qkn {S:aw}{J:List Sp}(h:J13 S J){os:aK}{f0:Int}{p0:aL}{P:ar}{r:Ka}(f:Fo S J os f0 p0 P r){t:Sp}(ht:t∈J)(nok:¬ Okj S J P t){ks:aA}(rg:Rg S os t ks) :
  jj [eLS (nrL S J),.list (ks.map .int)]=some (.bool true):=by
 have ls:=h.ls
 have hk:=fo_ks f rg
 have kl:=rg.len
 have k0:0<ks.length:=by
  cases ks with
  | nil=>exact nomatch rg.hd
  | cons a l=>exact Nat.succ_pos _
 have hk':∀ k∈ks++ks.take 1,0<=k/\k<(S.length:Int):=λk hm=>(KO.mp hm).elim (hk k) λz=>hk k (List.mem_of_mem_take z)
 have wk:∀ p:Sp3×Tr,p.2∈qF->∃ q:Sp3×Tr,Qa [eLS (nrL S J),.list ((ks++ks.take 1).map .int),encP p.1 p.2]=some (encP q.1 q.2)/\eqD (encP q.1 q.2) (encP p.1 p.2)=some (.bool false):=λp hp=>by
  obtain ⟨q,ew,tq,ne⟩:=qm4 h f ht nok rg (p:=p) hp
  have lw:=qgN h hk' (by rw [Kj];omega) (by rw [Kj,UU];omega) p.1 (Tn.of hp)
  have ew:QH S J ((ks++ks.take 1).zip ((ks++ks.take 1).drop 1)) 0 p.1 p.2=.inr q:=ew
  rw [ew] at lw
  refine ⟨q,lw,?_⟩
  have:=eqvP q p tq hp
  unfold eqD
  rw [bI ⟨rfl,rfl⟩,this,bH ne]
 obtain ⟨q1,w1,n1⟩:=wk (sp16,st16) (by decide)
 obtain ⟨q2,w2,n2⟩:=wk (sp14,st14) (by decide)
 have w1:Qa [eLS (nrL S J),.list ((ks++ks.take 1).map .int),.tuple '/']=some (encP q1.1 q1.2):=w1
 have n1:eqD (encP q1.1 q1.2) (.tuple '/')=some (.bool false):=n1
 have w2:Qa [eLS (nrL S J),.list ((ks++ks.take 1).map .int),.tuple [.tuple [.int 3,.int 0,.int (-1)],.tuple [.int 0,.int 0,.int 1],.tuple [.int (-1),.int 0,.int 0]]]=some (encP q2.1 q2.2):=w2
 have n2:eqD (encP q2.1 q2.2) (.tuple [.tuple [.int 3,.int 0,.int (-1)],.tuple [.int 0,.int 0,.int 1],.tuple [.int (-1),.int 0,.int 0]])=some (.bool false):=n2
 have sl:sliD (.list (ks.map Km)) none (some 1)=some (.list ((ks.take 1).map .int)):=qjK Km ks (k:=1) (by decide)
 have ad:Qk (.list (ks.map Km)) (.list ((ks.take 1).map .int))=some (.list ((ks++ks.take 1).map .int)):=by
  show (if (ks.map Km).length+((ks.take 1).map Km).length<=1000 then some (Vu (ks.map Km++(ks.take 1).map Km)) else none)=_
  rw [bI (by rw [Kf,Kf,UU];omega),← Kz]
 have lN:=qeK S J
 obtain ⟨ρ',el,o3,rfl⟩:=QC Km (g:=gNm 2) (u:=Yp) (λ_ ρ=>∃ o3:Option Ka,ρ=[some (eLS (nrL S J)),some (.list (ks.map .int)),o3,none,none]) ks [some (eLS (nrL S J)),some (.list (ks.map .int)),none,none,none] ⟨none,rfl⟩ (by
  rintro k hm done ρ _ ⟨o3,rfl⟩
  obtain ⟨a0,a1⟩:=hk k hm
  have hwh:zQ [.int k]=some (.bool true):=by kernel_rfl
  have c1:leD (.int 0) (.int k)=some (.bool true):=by
   show some (UZ (decide ((0:Int)<=k)))=_
   rw [bF a0]
  have c2:ltD2 (.int k) (.int ((S.length:Nat):Int))=some (.bool true):=by
   show some (UZ (decide (k<((S.length:Nat):Int))))=_
   rw [bF a1]
  refine ⟨_,?_,some (.int k),rfl⟩
  simp_arith [hwh,c1,lN,c2])
 have hil:isiT "list" (.list (ks.map Km))=true:=rfl
 have hit:∀ q:Sp3×Tr,isiT "tuple" (encP q.1 q.2)=true:=λ_=>rfl
 have hle:lenD [.list (ks.map Km)]=some (.int ((ks.length:Nat):Int)):=by
  show some (Km (((ks.map Km).length:Nat):Int))=_
  rw [Kf]
 have h0:(((ks.length:Nat):Int)==0)=false:=bP.mpr (by omega)
 delta jj yR
 simp_arith [hil,hle,h0,el,sl,ad,w1,n1,w2,n2,hit]
def rngP (S:aw)(P:ar):List (Sp3×Tr):=(KN S.length).map λk:Nat=>P (k:Int)
theorem qcX {S:aw}{P:ar}{k:Int}(k0:0<=k)(k1:k<(S.length:Int)):atI '2' k=some (encP (P k).1 (P k).2):=by
 have e:(rngP S P)[k.toNat]?=some (P k):=by
  unfold rngP
  rw [Ky,XR (by omega)]
  show some (P ((k.toNat:Nat):Int))=_
  rw [show ((k.toNat:Nat):Int)=k by omega]
 exact Zg (f:=λp:Sp3×Tr=>encP p.1 p.2) k0 e
theorem qh5 {S:aw}{J:List Sp}(h:J13 S J){P:ar}(tn:∀ k,0<=k->k<(S.length:Int)->(P k).2∈qF)(ga:∀ a b s,lk13 S J a b=some s->P b=ledP (P a) s) :
  ZK [eLS (nrL S J),.list '2']=some (.bool true):=by
 have ls:=h.ls
 have lN:=qeK S J
 have hr:(if (-1000:Int)<=((S.length:Nat):Int)/\((S.length:Nat):Int)<=1000 then some (rngL 0 (((S.length:Nat):Int)).toNat) else none)=some ((KN S.length).map λk:Nat=>Km (k:Nat)):=by
  rw [bI (by omega),K4,jV]
 obtain ⟨ρ',el,o2,o3,o4,o5,rfl⟩:=QC (λk:Nat=>Km (k:Nat)) (g:=gNm 2) (u:=yD) (λ_ ρ=>∃ o2 o3 o4 o5:Option Ka,ρ=[some (eLS (nrL S J)),some (.list '2'),o2,o3,o4,o5]) (KN S.length) [some (eLS (nrL S J)),some (.list '2'),none,none,none,none] ⟨none,none,none,none,rfl⟩ (by
  rintro k hm done ρ _ ⟨o2,o3,o4,o5,rfl⟩
  have hm:=Ur.mp hm
  have k0:(0:Int)<=(k:Int):=by omega
  have k1:(k:Int)<(S.length:Int):=by omega
  have hix:=qip (J:=J) k0 k1
  have tk:=tn _ k0 k1
  have pk:=qcX (P:=P) k0 k1
  obtain ⟨ρ1,e1,p3,p4,p5,rfl⟩:=QC eS (g:=unpD 3 (gsC (gNm 3) (gsC (gNm 4) (gsC (gNm 5) gsN)))) (u:=yE) (λ_ ρ=>∃ o3 o4 o5:Option Ka,ρ=[some (eLS (nrL S J)),some (.list '2'),some (.int (k:Nat)),o3,o4,o5]) (J.filterMap (nbF S (k:Int))) [some (eLS (nrL S J)),some (.list '2'),some (.int (k:Nat)),o3,o4,o5] ⟨o3,o4,o5,rfl⟩ (by
   rintro s hs done ρ _ ⟨o3,o4,o5,rfl⟩
   have es:=qfL h hs
   obtain ⟨hw,hb⟩:=yj h es
   obtain ⟨_,j0,j1⟩:=yl h hs
   have hu:unpD 3 (gsC (gNm 3) (gsC (gNm 4) (gsC (gNm 5) gsN))) (eS s) [some (eLS (nrL S J)),some (.list '2'),some (.int (k:Nat)),o3,o4,o5]=some [some (eLS (nrL S J)),some (.list '2'),some (.int (k:Nat)),some (.int s.1),some (.int s.2.1),some (.int s.2.2)]:=rfl
   rw [hu,ob_s]
   have pj:=qcX (P:=P) j0 j1
   have le:Qe [encP (P (k:Int)).1 (P (k:Int)).2,.int s.1,.int s.2.2]=some (encP (P s.2.1).1 (P s.2.1).2):=by
    rw [qh6 (P (k:Int)).1 (Tn.of tk) hw hb,ga _ s.2.1 s es]
    rfl
   have ne:neD (encP (P s.2.1).1 (P s.2.1).2) (encP (P s.2.1).1 (P s.2.1).2)=some (.bool false):=by
    rw [qlx _ _ (tn _ j0 j1) (tn _ j0 j1),bF rfl]
    rfl
   refine ⟨_,?_,some (.int s.1),some (.int s.2.1),some (.int s.2.2),rfl⟩
   simp_arith [pk,pj,le,ne])
  refine ⟨_,?_,some (.int (k:Nat)),p3,p4,p5,rfl⟩
  have sq:seqD (.list ((J.filterMap (nbF S (k:Int))).map eS))=some ((J.filterMap (nbF S (k:Int))).map eS):=rfl
  simp_arith [hix,sq,e1])
 delta ZK J4
 simp_arith [lN,hr,el]
theorem qkZ {S:aw}{J:List Sp}(h:J13 S J)(cn:Cn S J){os:aK}{P:ar}{r:Ka}(f:Fo S J os 0 (sp16,st16) P r):Qo [eLS (nrL S J),r]=some (.bool true):=by
 have ls:=h.ls
 have s0:=h.s0
 obtain ⟨P',R,lp,tn',g1,g2⟩:=qia h cn (p0:=(sp16,st16)) (by decide) P
 have lp:Za [eLS (nrL S J),.int 0,.tuple '/']=some (.tuple [.list ((KN S.length).map λk:Nat=>poD P' (k:Int)),.bool R]):=lp
 have l2:ltD2 (.int 2) (.int 2)=some (.bool false):=rfl
 have q2:eqD (.int 2) (.int 2)=some (.bool true):=rfl
 rcases f.or with ⟨ok,rfl⟩|⟨t,ht,nok,ks,rfl,rg⟩
 ·have tn:=qfw f
  have ga:∀ a b s,lk13 S J a b=some s->P b=ledP (P a) s:=λa b s e=>qdx h tn ok e
  obtain ⟨rfl,eP⟩:=g2 ⟨f.wy.at0,ga⟩
  have ep:((KN S.length).map λk:Nat=>poD P' (k:Int))=(rngP S P).map λp=>encP p.1 p.2:=by
   unfold rngP
   rw [Vj]
   refine V8 λk hk=>?_
   have:=Ur.mp hk
   unfold poD
   rw [eP _ (by omega) (by omega)]
   rfl
  rw [ep] at lp
  have cl:=qjA (ps:=rngP S P) (by unfold rngP;rw [Kf,KY];omega)
  have hcf:cofD ((KN S.length).map λk:Nat=>P (k:Int))=cofD (rngP S P):=rfl
  rw [hcf]
  unfold cofD
  cases e:fmA [] 0 ((rngP S P).map (·.1)) with
  | none =>
   rw [e] at cl
   have cl:zP [.list '2']=some .none:=cl
   have ll:=qh5 h tn ga
   have lf:Zd [eLS (nrL S J),.list '2',.tuple '/']=some (.bool true):=by
    have lN:=qeK S J
    have lP:lenD [.list '2']=some (.int ((S.length:Nat):Int)):=by
     show some (Km (('2'.length:Nat):Int))=_
     unfold rngP
     rw [Kf,Kf,KY]
    have ne:neD (.int ((S.length:Nat):Int)) (.int ((S.length:Nat):Int))=some (.bool false):=by
     rw [qfQ,cz]
     rfl
    have hil:isiT "list" (.list '2')=true:=rfl
    obtain ⟨ρ',el,o3,rfl⟩:=QC (λp:Sp3×Tr=>encP p.1 p.2) (g:=gNm 3) (u:=yf) (λ_ ρ=>∃ o3:Option Ka,ρ=[some (eLS (nrL S J)),some (.list '2'),some (.tuple '/'),o3]) (rngP S P) [some (eLS (nrL S J)),some (.list '2'),some (.tuple '/'),none] ⟨none,rfl⟩ (by
     rintro p hm done ρ _ ⟨o3,rfl⟩
     have ip:=qhU p.1 p.2
     refine ⟨_,?_,some (encP p.1 p.2),rfl⟩
     simp_arith [ip])
    have p0:=qcX (S:=S) (P:=P) (k:=0) (NX 0) (by omega)
    have e0:encP (P 0).1 (P 0).2=.tuple '/':=by rw [f.wy.at0];rfl
    rw [e0] at p0
    have eq:eqD (.tuple '/') (.tuple '/')=some (.bool true):=by kernel_rfl
    delta Zd Ji
    have hn:isD .none .none=some (.bool true):=rfl
    have hl2:('2'.length:Int)=((S.length:Nat):Int):=by unfold rngP;rw [Kf,Kf,KY]
    have hb2:(((S.length:Nat):Int)==((S.length:Nat):Int))=true:=cz _
    simp_arith [hil,lP,lN,ne,hl2,hb2,el,p0,eq,ll,cl,hn]
   have i1:isiT "tuple" (.tuple [.str "folded", .list '2'])=true:=rfl
   have l1:lenD [.tuple [.str "folded", .list '2']]=some (.int 2):=rfl
   have n2:eqD (.str "folded") (.str "folded")=some (.bool true):=by kernel_rfl
   have hn:isnD .none .none=some (.bool false):=rfl
   dsimp only
   delta Qo ZW
   simp_arith [i1,l1,l2,lp,cl,hn,q2,n2,lf]
  | some z =>
   rw [e] at cl
   have cl:zP [.list '2']=some (.tuple [.str "clash", .int (z.1:Nat),.int (z.2:Nat)]):=cl
   have i1:isiT "tuple" (.tuple [.str "clash", .int (z.1:Nat),.int (z.2:Nat)])=true:=rfl
   have hn:isnD (.tuple [.str "clash", .int (z.1:Nat),.int (z.2:Nat)]) .none=some (.bool true):=rfl
   have ee:eqD (.tuple [.str "clash", .int (z.1:Nat),.int (z.2:Nat)]) (.tuple [.str "clash", .int (z.1:Nat),.int (z.2:Nat)])=some (.bool true):=by
    have ev:Kv (.tuple [.str "clash", .int (z.1:Nat),.int (z.2:Nat)]) (.tuple [.str "clash", .int (z.1:Nat),.int (z.2:Nat)])=(Kv (.str "clash") (.str "clash")&&(((z.1:Int)==(z.1:Int))&&(((z.2:Int)==(z.2:Int))&&true))):=rfl
    have es:Kv (.str "clash") (.str "clash")=true:=by kernel_rfl
    have sh:Vf (.tuple [.str "clash", .int (z.1:Nat),.int (z.2:Nat)])=true:=by kernel_rfl
    unfold eqD
    rw [ev,es,cz,cz,bI ⟨sh,sh⟩]
    rfl
   have l1:lenD [.tuple [.str "clash", .int (z.1:Nat),.int (z.2:Nat)]]=some (.int 3):=rfl
   have l3:ltD2 (.int 3) (.int 2)=some (.bool false):=rfl
   have hw:∀ i:Int,zQ [.int i]=some (.bool true):=λi=>by kernel_rfl
   dsimp only
   delta Qo ZW
   simp_arith [i1,l1,l3,lp,cl,hn,ee,hw]
 ·have hR:R=false:=by
   cases R with
   | false=>rfl
   | true =>
    obtain ⟨_,ga⟩:=g1 rfl
    obtain ⟨_,_,_,gP⟩:=qj2 h f tn' λt _ s e=>ga _ _ s e
    exact absurd (gP t ht) nok
  subst hR
  have lr:=qkn h f ht nok rg
  have i1:isiT "tuple" (.tuple [.str "ring", .list (ks.map .int)])=true:=rfl
  have l1:lenD [.tuple [.str "ring", .list (ks.map .int)]]=some (.int 2):=rfl
  have n2:eqD (.str "ring") (.str "ring")=some (.bool true):=by kernel_rfl
  delta Qo ZW
  simp_arith [i1,l1,l2,lp,q2,n2,lr]
theorem ql5 (cs:aw)(js:List Sp):eqD (.tuple [.list (cs.map eC),.list (js.map eS)]) (.tuple [.list (cs.map eC),.list (js.map eS)])=some (.bool true):=by
 have hc:=qhr cs
 have hj:=qlR js
 have sh:Vf (.tuple [.list (cs.map eC),.list (js.map eS)])=true:=by
  have h2:UO (.tuple [.list (cs.map eC),.list (js.map eS)])=max (KI (cs.map eC)+1) (max (KI (js.map eS)+1) 0)+1:=rfl
  have h3:KP (.tuple [.list (cs.map eC),.list (js.map eS)])=(Kq (cs.map eC)&&(Kq (js.map eS)&&true)):=rfl
  unfold Vf
  rw [h2,h3,hc.1,hj.1,KD]
  exact ⟨rfl,bF (by omega)⟩
 unfold eqD
 have:Kv (.tuple [.list (cs.map eC),.list (js.map eS)]) (.tuple [.list (cs.map eC),.list (js.map eS)])=(Kv (.list (cs.map eC)) (.list (cs.map eC))&&(Kv (.list (js.map eS)) (.list (js.map eS))&&true)):=rfl
 rw [bI ⟨sh,sh⟩,this,WN qk7 cs,WN qk8 js]
 rfl
def bl14 (z:Int):List Ka:=if z=0 then [.int 0,.int 0,.int 0,.int 0,.int 1,.int (-1)] else if z=1 then [.int 1,.int 0,.int 1] else [.int 0,.int 1,.int (-1)]
def ln14 (z:Int):Int:=if z=0 then 6 else 3
theorem qjv (z y:Int):∃ v,atI (bl14 z) (y % ln14 z)=some (.int v)/\v∈zM:=by
 unfold bl14 ln14
 split
 ·have h:y % 6=0\/y % 6=1\/y % 6=2\/y % 6=3\/y % 6=4\/y % 6=5:=by omega
  rcases h with h|h|h|h|h|h<;>rw [h]<;>exact ⟨_,rfl,by decide⟩
 ·have h:y % 3=0\/y % 3=1\/y % 3=2:=by omega
  split
  ·rcases h with h|h|h<;>rw [h]<;>exact ⟨_,rfl,by decide⟩
  ·rcases h with h|h|h<;>rw [h]<;>exact ⟨_,rfl,by decide⟩
theorem len14 (z:Int):lenD [.list (bl14 z)]=some (.int (ln14 z)):=by
 unfold bl14 ln14
 split
 ·rfl
 ·split<;>rfl
theorem pos14 (z:Int):0<ln14 z:=by unfold ln14;split<;>omega
theorem fo14 {S:aw}{J:List Sp}{os:aK}{f0:Int}{p0:aL}{P:ar}{r:Ka}(f:Fo S J os f0 p0 P r):(∃ (a:Str) (b:ae),r=.tuple [.str a,.list b]/\neD (.str a) (.str "clash")=some (.bool true))\/∃ i j:Int,r=.tuple [.str "clash", .int i,.int j]:=by
 rcases f.or with ⟨_,rfl⟩|⟨_,_,_,ks,rfl,_⟩
 ·unfold cofD
  split
  ·exact .inl ⟨_,_,rfl,by kernel_rfl⟩
  ·exact .inr ⟨_,_,rfl⟩
 ·exact .inl ⟨_,_,rfl,by kernel_rfl⟩
theorem qgG (ns:aA)(_:ns.length<=63)(_:∀ k∈ns,UT k<=2 ^ 20):qhI [.list (ns.map .int)]=some (.bool true):=by
 have c2:=Wt ns 2 (by decide)
 generalize Jr ns 2=v2 at c2
 obtain ⟨fs,T,eg,g,cc⟩:=qj3 ns (len14 (v2 % 3)) (pos14 _) (qjv _)
 have h1:=g.h1
 have l2:=two15 g.h4 λp hp=>⟨(g.h5 p hp).1,(g.h5 p hp).2.2.1⟩
 have g':G13 58 fs T:=⟨g.h0,g.h1,g.h2,by omega,g.h4,g.h5⟩
 obtain ⟨S,J,es,pS,_,pJ,_⟩:=qk9 (fs:=fs) (T:=T) (by omega) (by omega) λp hp=>⟨(g.h5 p hp).1,(g.h5 p hp).2.1⟩
 have h:=jok13 g' pS pJ
 have cn:=cn16 h cc pS pJ
 have en:=qmv h
 obtain ⟨os,P,r,er,f⟩:=ql2 h cn (f0:=0) ⟨NX 0,by have:=h.s0;omega⟩ (p0:=(sp16,st16)) (by decide) (.inl ⟨rfl,rfl⟩)
 have rt:=qkZ h cn f
 have hh:=ql5 S J
 have hl:∀ xs:List Ka,W9 [.list xs]=some (.list xs):=λ_=>rfl
 have h3:v2 % 3=0\/v2 % 3=1\/v2 % 3=2:=by omega
 have hb:sSet 1 (ev2 (evA (aC (evA (aC '$' (aC '$' (aC '$' (aC '$' (aC '%' (aC (ev1 '%' negD) aN)))))) lstD) (aC (evA (aC '%' (aC '$' (aC '%' aN))) lstD) (aC (evA (aC '$' (aC '%' (aC (ev1 '%' negD) aN))) lstD) aN))) lstD) (ev2 (evC 2 (aC (vr 0) (aC (kd (.int 2)) aN)) zu) (kd (.int 3)) modD) ixD) [some (.list (ns.map .int)),none,none,none,none,none,none,none]=some (.nx [some (.list (ns.map .int)),some (.list (bl14 (v2 % 3))),none,none,none,none,none,none]):=by
  unfold bl14
  rcases h3 with z|z|z
  ·rw [bI z]
   simp_arith [c2,z]
  ·rw [bJ (by omega),bI z]
   simp_arith [c2,z]
  ·rw [bJ (by omega),bJ (by omega)]
   simp_arith [c2,z]
 have r0:rho0 qhg.length [.list (ns.map .int)]=[some (.list (ns.map .int)),none,none,none,none,none,none,none]:=rfl
 unfold qhI qjl
 rw [r0]
 rcases fo14 f with ⟨a,b,rfl,hne⟩|⟨i,j,rfl⟩
 ·rw [Qu hb rfl]
  simp_arith [eg,es,en,hl,er,rt,hne,qkg,hh]
 ·have hne:neD (.str "clash") (.str "clash")=some (.bool false):=by kernel_rfl
  rw [Qu hb rfl]
  simp_arith [eg,es,en,hl,er,rt,hne,hh]
theorem qlM {l:Eg}{w:KZ}{K:Kb}{h:KS}{fa f50 f51:Ke}(X:K.In h)(G:h.Ns bL mg)(hfa:mg "law" = some (.ref fa))
  {od50 an50 od51 an51:aI} {sl50 sl51:au} {oc50 kV50 dc50 pm50 cd50 ct50 oc51 kV51 dc51 pm51 cd51 ct51:Kc}
  (h0:FnK K "links_of" Tq34)
  (h1:FnK K "reached_from" Tq3)
  (h2:FnK K "first_meeting" Tq2)
  (h3:FnK K "path_back" Tq28)
  (h4:FnK K "path_between" Tq4)
  (h5:FnK K "is_whole" Tq35)
  (h6:FnK K "added" Tq49)
  (h7:FnK K "negated" Tq41)
  (h8:FnK K "cross" Tq50)
  (h9:FnK K "turned" Tq45)
  (h10:FnK K "joined_turns" Tq5)
  (h11:FnK K "turn_back" Tq29)
  (h12:FnK K "out_of" Tq46)
  (h13:FnK K "unit_of" Tq42)
  (h14:FnK K "is_bend" Tq43)
  (h15:FnK K "join_of" Tq44)
  (h16:FnK K "step_between" Tq6)
  (h17:FnK K "neighbours" Tq15)
  (h18:FnK K "steps_of" Tq36)
  (h19:FnK K "clash_or_folded" Tq0)
  (h20:FnK K "_law_cell" Tq30)
  (h21:FnK K "_law_mixed" Tq16)
  (h22:FnK K "_law_steps" Tq17)
  (h23:FnK K "_law_place" Tq18)
  (h24:FnK K "_law_whole" Tq19)
  (h25:FnK K "_law_cross" Tq20)
  (h26:FnK K "_law_dot" Tq37)
  (h27:FnK K "_law_sum" Tq38)
  (h28:FnK K "_law_unit" Tq31)
  (h29:FnK K "_law_led" Tq39)
  (h30:FnK K "_law_is_spot" Tq7)
  (h31:FnK K "_law_is_pose" Tq8)
  (h32:FnK K "_law_neighbour" Tq1)
  (h33:FnK K "_law_joined" Tq11)
  (h34:FnK K "_law_grown" Tq21)
  (h35:FnK K "_law_sheet" Tq22)
  (h36:FnK K "_law_near" Tq32)
  (h37:FnK K "_law_walked" Tq12)
  (h38:FnK K "_law_poses" Tq23)
  (h39:FnK K "_law_clash" Tq24)
  (h40:FnK K "_law_leads" Tq25)
  (h41:FnK K "_law_folded" Tq13)
  (h42:FnK K "_law_ring" Tq33)
  (h43:FnK K "_law_right" Tq26)
  (h48:FnK K "led_by" Tq47)
  (h49:FnK K "poses_along" Tq14)
  {df50_t0:Tok}
  {df50:Ke} {df50c:Kc} {df50d:aI} {df50n:Nat} {df50s:au}
  (a50:KR K bL "folded" = some (some (.ref f50))) (l50:K.lookup f50=some ⟨oc50,od50,.func (Ud "folded" "folded" (Zh Tq48) (zO Tq48) (qe Tq48) (.ref df50) kV50 dc50 pm50 an50 cd50 ct50),sl50⟩) (c50:UH K cd50 "folded" = true) (k50:Vl K (.ref f50)=true)
  (a51:KR K bL "law" = some (some (.ref f51))) (l51:K.lookup f51=some ⟨oc51,od51,.func (Ud "law" "law" (Zh Tq51) (zO Tq51) (qe Tq51) .none kV51 dc51 pm51 an51 cd51 ct51),sl51⟩) (c51:UH K cd51 "law" = true) (k51:Vl K (.ref f51)=true)
  (y50:K.lookup df50=some ⟨df50c,df50d,.seq #[(.int (0) df50_t0),.none] df50n,df50s⟩)
  (z0:KR K bL "range" = some none)
  (z1:KR K bL "enumerate" = some none)
  (z2:KR K bL "len" = some none)
  (z3:KR K bL "list" = some none)
  (z4:KR K bL "reversed" = some none)
  (z5:KR K bL "isinstance" = some none)
  (z6:KR K bL "int" = some none)
  (z7:KR K bL "bool" = some none)
  (z8:KR K bL "tuple" = some none)
  (z9:KR K bL "sorted" = some none)
  (z10:KR K bL "all" = some none)
  (z11:KR K bL "max" = some none)
  (z12:KR K bL "min" = some none)
  (ct:ctB K CS=true)
  (hm0:MthK K "Join" "goes_on" "Join.goes_on" Tq9)
  (hm1:MthK K "Up" "goes_on" "Up.goes_on" Tq27)
  (hm2:MthK K "Down" "goes_on" "Down.goes_on" Tq10)
  (hm3:MthK K "Join" "led" "Join.led" Tq40)
  (hm4:MthK K "Up" "led" "Join.led" Tq40)
  (hm5:MthK K "Down" "led" "Join.led" Tq40)
  {kc0_a0:Ke}
  {kc0_d0:aI}
  {kc0_n0:Nat}
  {kc0_s0:au}
  {kc0_t4:Tok}
  {kc0_t5:Tok}
  {kc0_t6:Tok}
  (kc0:KR K bL "BENDS" = some (some (.ref kc0_a0)))
  (kc0_h0:K.lookup kc0_a0=some ⟨.type "tuple", kc0_d0,.seq #[(.int (-1) kc0_t4),(.int (0) kc0_t5),(.int (1) kc0_t6)] kc0_n0,kc0_s0⟩)
  {kc1_a0:Ke}
  {kc1_n0:Nat}
  {kc1_s0:au}
  {kc1_a3:Ke}
  {kc1_d3:aI}
  {kc1_n3:Nat}
  {kc1_s3:au}
  {kc1_t7:Tok}
  {kc1_t8:Tok}
  {kc1_a9:Ke}
  {kc1_d9:aI}
  {kc1_n9:Nat}
  {kc1_s9:au}
  {kc1_t13:Tok}
  {kc1_t14:Tok}
  {kc1_a15:Ke}
  {kc1_d15:aI}
  {kc1_n15:Nat}
  {kc1_s15:au}
  {kc1_t19:Tok}
  {kc1_t20:Tok}
  {kc1_a21:Ke}
  {kc1_d21:aI}
  {kc1_n21:Nat}
  {kc1_s21:au}
  {kc1_t25:Tok}
  {kc1_t26:Tok}
  (kc1:KR K bL "STEPS" = some (some (.ref kc1_a0)))
  (kc1_h0:K.lookup kc1_a0=some ⟨.type "tuple", none,.seq #[(.ref kc1_a3),(.ref kc1_a9),(.ref kc1_a15),(.ref kc1_a21)] kc1_n0,kc1_s0⟩)
  (kc1_h3:K.lookup kc1_a3=some ⟨.type "tuple", kc1_d3,.seq #[(.int (1) kc1_t7),(.int (0) kc1_t8)] kc1_n3,kc1_s3⟩)
  (kc1_h9:K.lookup kc1_a9=some ⟨.type "tuple", kc1_d9,.seq #[(.int (0) kc1_t13),(.int (1) kc1_t14)] kc1_n9,kc1_s9⟩)
  (kc1_h15:K.lookup kc1_a15=some ⟨.type "tuple", kc1_d15,.seq #[(.int (-1) kc1_t19),(.int (0) kc1_t20)] kc1_n15,kc1_s15⟩)
  (kc1_h21:K.lookup kc1_a21=some ⟨.type "tuple", kc1_d21,.seq #[(.int (0) kc1_t25),(.int (-1) kc1_t26)] kc1_n21,kc1_s21⟩)
  {kc2_a0:Ke}
  {kc2_d0:aI}
  {kc2_n0:Nat}
  {kc2_s0:au}
  {kc2_a4:Ke}
  {kc2_d4:aI}
  {kc2_n4:Nat}
  {kc2_s4:au}
  {kc2_t8:Tok}
  {kc2_t9:Tok}
  {kc2_t10:Tok}
  {kc2_a11:Ke}
  {kc2_d11:aI}
  {kc2_n11:Nat}
  {kc2_s11:au}
  {kc2_t15:Tok}
  {kc2_t16:Tok}
  {kc2_t17:Tok}
  {kc2_a18:Ke}
  {kc2_d18:aI}
  {kc2_n18:Nat}
  {kc2_s18:au}
  {kc2_t22:Tok}
  {kc2_t23:Tok}
  {kc2_t24:Tok}
  (kc2:KR K bL "START" = some (some (.ref kc2_a0)))
  (kc2_h0:K.lookup kc2_a0=some ⟨.type "tuple", kc2_d0,.seq #[(.ref kc2_a4),(.ref kc2_a11),(.ref kc2_a18)] kc2_n0,kc2_s0⟩)
  (kc2_h4:K.lookup kc2_a4=some ⟨.type "tuple", kc2_d4,.seq #[(.int (1) kc2_t8),(.int (1) kc2_t9),(.int (0) kc2_t10)] kc2_n4,kc2_s4⟩)
  (kc2_h11:K.lookup kc2_a11=some ⟨.type "tuple", kc2_d11,.seq #[(.int (1) kc2_t15),(.int (0) kc2_t16),(.int (0) kc2_t17)] kc2_n11,kc2_s11⟩)
  (kc2_h18:K.lookup kc2_a18=some ⟨.type "tuple", kc2_d18,.seq #[(.int (0) kc2_t22),(.int (1) kc2_t23),(.int (0) kc2_t24)] kc2_n18,kc2_s18⟩)
  : ∃ fd:Vp,(∀ (s:Kh) (v:Kc),BindsTo s fd ⟨[v],[]⟩ [("_law_script", v)])/\∀ base:KS,K.In base->base.Ns bL mg->FnOk l.prog w K mg base CX0 7 fa fd ["_law_script"] (qe2 K 63):=by
 have g {n:Str} {v:Kc} (e:KR K bL n=some (some v)):mg n=some v:=Ni X G e
 have e:=hfa.symm.trans (g a51)
 cases e
 obtain ⟨f0,d0,a0,F0⟩:=h0
 have b0:=F0.binds (ps:=["count", "pairs"]) λ_ _ _ _ _ _=>L2.on2 λ_ _=>rfl
 obtain ⟨f1,d1,a1,F1⟩:=h1
 have b1:=F1.binds (ps:=["start", "links"]) λ_ _ _ _ _ _=>L2.on2 λ_ _=>rfl
 obtain ⟨f2,d2,a2,F2⟩:=h2
 have b2:=F2.binds (ps:=["things"]) λ_ _ _ _ _ _=>L2.on1 λ_=>rfl
 obtain ⟨f3,d3,a3,F3⟩:=h3
 have b3:=F3.binds (ps:=["origins", "k"]) λ_ _ _ _ _ _=>L2.on2 λ_ _=>rfl
 obtain ⟨f4,d4,a4,F4⟩:=h4
 have b4:=F4.binds (ps:=["origins", "i", "j"]) λ_ _ _ _ _ _=>L2.on3 λ_ _ _=>rfl
 obtain ⟨f5,d5,a5,F5⟩:=h5
 have b5:=F5.binds (ps:=["thing"]) λ_ _ _ _ _ _=>L2.on1 λ_=>rfl
 obtain ⟨f6,d6,a6,F6⟩:=h6
 have b6:=F6.binds (ps:=["one", "other"]) λ_ _ _ _ _ _=>L2.on2 λ_ _=>rfl
 obtain ⟨f7,d7,a7,F7⟩:=h7
 have b7:=F7.binds (ps:=["spot"]) λ_ _ _ _ _ _=>L2.on1 λ_=>rfl
 obtain ⟨f8,d8,a8,F8⟩:=h8
 have b8:=F8.binds (ps:=["one", "other"]) λ_ _ _ _ _ _=>L2.on2 λ_ _=>rfl
 obtain ⟨f9,d9,a9,F9⟩:=h9
 have b9:=F9.binds (ps:=["turn", "spot"]) λ_ _ _ _ _ _=>L2.on2 λ_ _=>rfl
 obtain ⟨f10,d10,a10,F10⟩:=h10
 have b10:=F10.binds (ps:=["first", "second"]) λ_ _ _ _ _ _=>L2.on2 λ_ _=>rfl
 obtain ⟨f11,d11,a11,F11⟩:=h11
 have b11:=F11.binds (ps:=["turn"]) λ_ _ _ _ _ _=>L2.on1 λ_=>rfl
 obtain ⟨f12,d12,a12,F12⟩:=h12
 have b12:=F12.binds (ps:=["pose"]) λ_ _ _ _ _ _=>L2.on1 λ_=>rfl
 obtain ⟨f13,d13,a13,F13⟩:=h13
 have b13:=F13.binds (ps:=["pose", "way"]) λ_ _ _ _ _ _=>L2.on2 λ_ _=>rfl
 obtain ⟨f14,d14,a14,F14⟩:=h14
 have b14:=F14.binds (ps:=["thing"]) λ_ _ _ _ _ _=>L2.on1 λ_=>rfl
 obtain ⟨f15,d15,a15,F15⟩:=h15
 have b15:=F15.binds (ps:=["bend"]) λ_ _ _ _ _ _=>L2.on1 λ_=>rfl
 obtain ⟨f16,d16,a16,F16⟩:=h16
 have b16:=F16.binds (ps:=["cell", "other"]) λ_ _ _ _ _ _=>L2.on2 λ_ _=>rfl
 obtain ⟨f17,d17,a17,F17⟩:=h17
 have b17:=F17.binds (ps:=["sheet", "k"]) λ_ _ _ _ _ _=>L2.on2 λ_ _=>rfl
 obtain ⟨f18,d18,a18,F18⟩:=h18
 have b18:=F18.binds (ps:=["sheet"]) λ_ _ _ _ _ _=>L2.on1 λ_=>rfl
 obtain ⟨f19,d19,a19,F19⟩:=h19
 have b19:=F19.binds (ps:=["poses"]) λ_ _ _ _ _ _=>L2.on1 λ_=>rfl
 obtain ⟨f20,d20,a20,F20⟩:=h20
 have b20:=F20.binds (ps:=["_law_script", "_law_k"]) λ_ _ _ _ _ _=>L2.on2 λ_ _=>rfl
 obtain ⟨f21,d21,a21,F21⟩:=h21
 have b21:=F21.binds (ps:=["_law_cell_here", "_law_k"]) λ_ _ _ _ _ _=>L2.on2 λ_ _=>rfl
 obtain ⟨f22,d22,a22,F22⟩:=h22
 have b22:=F22.binds (ps:=["_law_script", "_law_at", "_law_base"]) λ_ _ _ _ _ _=>L2.on3 λ_ _ _=>rfl
 obtain ⟨f23,d23,a23,F23⟩:=h23
 have b23:=F23.binds (ps:=["_law_cell_here"]) λ_ _ _ _ _ _=>L2.on1 λ_=>rfl
 obtain ⟨f24,d24,a24,F24⟩:=h24
 have b24:=F24.binds (ps:=["_law_found"]) λ_ _ _ _ _ _=>L2.on1 λ_=>rfl
 obtain ⟨f25,d25,a25,F25⟩:=h25
 have b25:=F25.binds (ps:=["_law_one", "_law_other"]) λ_ _ _ _ _ _=>L2.on2 λ_ _=>rfl
 obtain ⟨f26,d26,a26,F26⟩:=h26
 have b26:=F26.binds (ps:=["_law_one", "_law_other"]) λ_ _ _ _ _ _=>L2.on2 λ_ _=>rfl
 obtain ⟨f27,d27,a27,F27⟩:=h27
 have b27:=F27.binds (ps:=["_law_one", "_law_many", "_law_other"]) λ_ _ _ _ _ _=>L2.on3 λ_ _ _=>rfl
 obtain ⟨f28,d28,a28,F28⟩:=h28
 have b28:=F28.binds (ps:=["_law_pose", "_law_way"]) λ_ _ _ _ _ _=>L2.on2 λ_ _=>rfl
 obtain ⟨f29,d29,a29,F29⟩:=h29
 have b29:=F29.binds (ps:=["_law_pose", "_law_way", "_law_bend"]) λ_ _ _ _ _ _=>L2.on3 λ_ _ _=>rfl
 obtain ⟨f30,d30,a30,F30⟩:=h30
 have b30:=F30.binds (ps:=["_law_thing"]) λ_ _ _ _ _ _=>L2.on1 λ_=>rfl
 obtain ⟨f31,d31,a31,F31⟩:=h31
 have b31:=F31.binds (ps:=["_law_thing"]) λ_ _ _ _ _ _=>L2.on1 λ_=>rfl
 obtain ⟨f32,d32,a32,F32⟩:=h32
 have b32:=F32.binds (ps:=["_law_cell_here", "_law_way"]) λ_ _ _ _ _ _=>L2.on2 λ_ _=>rfl
 obtain ⟨f33,d33,a33,F33⟩:=h33
 have b33:=F33.binds (ps:=["_law_cells", "_law_joins", "_law_one", "_law_other", "_law_bend"]) λ_ _ _ _ _ _=>L2.on5 λ_ _ _ _ _=>rfl
 obtain ⟨f34,d34,a34,F34⟩:=h34
 have b34:=F34.binds (ps:=["_law_script", "_law_at", "_law_most", "_law_bends"]) λ_ _ _ _ _ _=>L2.on4 λ_ _ _ _=>rfl
 obtain ⟨f35,d35,a35,F35⟩:=h35
 have b35:=F35.binds (ps:=["_law_cells", "_law_joins"]) λ_ _ _ _ _ _=>L2.on2 λ_ _=>rfl
 obtain ⟨f36,d36,a36,F36⟩:=h36
 have b36:=F36.binds (ps:=["_law_sheet_here"]) λ_ _ _ _ _ _=>L2.on1 λ_=>rfl
 obtain ⟨f37,d37,a37,F37⟩:=h37
 have b37:=F37.binds (ps:=["_law_near_here", "_law_numbers", "_law_pose"]) λ_ _ _ _ _ _=>L2.on3 λ_ _ _=>rfl
 obtain ⟨f38,d38,a38,F38⟩:=h38
 have b38:=F38.binds (ps:=["_law_near_here", "_law_first", "_law_pose"]) λ_ _ _ _ _ _=>L2.on3 λ_ _ _=>rfl
 obtain ⟨f39,d39,a39,F39⟩:=h39
 have b39:=F39.binds (ps:=["_law_poses_here"]) λ_ _ _ _ _ _=>L2.on1 λ_=>rfl
 obtain ⟨f40,d40,a40,F40⟩:=h40
 have b40:=F40.binds (ps:=["_law_near_here", "_law_poses_here"]) λ_ _ _ _ _ _=>L2.on2 λ_ _=>rfl
 obtain ⟨f41,d41,a41,F41⟩:=h41
 have b41:=F41.binds (ps:=["_law_near_here", "_law_poses_here", "_law_pose"]) λ_ _ _ _ _ _=>L2.on3 λ_ _ _=>rfl
 obtain ⟨f42,d42,a42,F42⟩:=h42
 have b42:=F42.binds (ps:=["_law_near_here", "_law_numbers"]) λ_ _ _ _ _ _=>L2.on2 λ_ _=>rfl
 obtain ⟨f43,d43,a43,F43⟩:=h43
 have b43:=F43.binds (ps:=["_law_near_here", "_law_found"]) λ_ _ _ _ _ _=>L2.on2 λ_ _=>rfl
 obtain ⟨f48,d48,a48,F48⟩:=h48
 have b48:=F48.binds (ps:=["step", "pose"]) λ_ _ _ _ _ _=>L2.on2 λ_ _=>rfl
 obtain ⟨f49,d49,a49,F49⟩:=h49
 have b49:=F49.binds (ps:=["steps", "origins", "pose"]) λ_ _ _ _ _ _=>L2.on3 λ_ _ _=>rfl
 have F50:=qj1 (st:=Tq48) l50 c50 k50
 have F51:=qeu (st:=Tq51) l51 c51 k51
 have z_range:=VC X G z0
 have z_enumerate:=VC X G z1
 have z_len:=VC X G z2
 have z_list:=VC X G z3
 have z_reversed:=VC X G z4
 have z_isinstance:=VC X G z5
 have z_int:=VC X G z6
 have z_bool:=VC X G z7
 have z_tuple:=VC X G z8
 have z_sorted:=VC X G z9
 have z_all:=VC X G z10
 have z_max:=VC X G z11
 have z_min:=VC X G z12
 obtain ⟨C_0,g_0,e_0,n_0,me_0,Fm_0⟩:=hm0
 have bm_0:=Fm_0.binds (ps:=["self", "unit", "out"]) λ_ _ _ _ _ _=>L2.on3 λ_ _ _=>rfl
 obtain ⟨C_1,g_1,e_1,n_1,me_1,Fm_1⟩:=hm1
 have bm_1:=Fm_1.binds (ps:=["self", "unit", "out"]) λ_ _ _ _ _ _=>L2.on3 λ_ _ _=>rfl
 obtain ⟨C_2,g_2,e_2,n_2,me_2,Fm_2⟩:=hm2
 have bm_2:=Fm_2.binds (ps:=["self", "unit", "out"]) λ_ _ _ _ _ _=>L2.on3 λ_ _ _=>rfl
 obtain ⟨C_3,g_3,e_3,n_3,me_3,Fm_3⟩:=hm3
 have bm_3:=Fm_3.binds (ps:=["self", "pose", "way"]) λ_ _ _ _ _ _=>L2.on3 λ_ _ _=>rfl
 obtain ⟨C_4,g_4,e_4,n_4,me_4,Fm_4⟩:=hm4
 have bm_4:=Fm_4.binds (ps:=["self", "pose", "way"]) λ_ _ _ _ _ _=>L2.on3 λ_ _ _=>rfl
 obtain ⟨C_5,g_5,e_5,n_5,me_5,Fm_5⟩:=hm5
 have bm_5:=Fm_5.binds (ps:=["self", "pose", "way"]) λ_ _ _ _ _ _=>L2.on3 λ_ _ _=>rfl
 have CT:=qjJ X G ct
 have C_BENDS:qar K mg "BENDS" qco:=⟨(.ref kc0_a0),(.ref kc0_a0),Ni X G kc0,rfl,λH S=>(.tuple (xs:=[(.int (-1)),(.int (0)),(.int (1))]) (.inr ⟨_,_,_,kc0_h0,rfl,rfl,(show 3<=bM by decide),(.cons ⟨_,rfl⟩ (.cons ⟨_,rfl⟩ (.cons ⟨_,rfl⟩ .nil)))⟩) (.cons (.int (-1)) (.cons (.int (0)) (.cons (.int (1)) .nil))))⟩
 have C_STEPS:qen K mg "STEPS" jt:=⟨_,_,Ni X G kc1,kc1_h0,rfl,rfl,λH S=>(.tuple (xs:=[(.ref kc1_a3),(.ref kc1_a9),(.ref kc1_a15),(.ref kc1_a21)]) (.inr ⟨_,_,_,kc1_h0,rfl,rfl,(show 4<=bM by decide),(.cons rfl (.cons rfl (.cons rfl (.cons rfl .nil))))⟩) (.cons (.tuple (xs:=[(.int (1)),(.int (0))]) (.inr ⟨_,_,_,kc1_h3,rfl,rfl,(show 2<=bM by decide),(.cons ⟨_,rfl⟩ (.cons ⟨_,rfl⟩ .nil))⟩) (.cons (.int (1)) (.cons (.int (0)) .nil))) (.cons (.tuple (xs:=[(.int (0)),(.int (1))]) (.inr ⟨_,_,_,kc1_h9,rfl,rfl,(show 2<=bM by decide),(.cons ⟨_,rfl⟩ (.cons ⟨_,rfl⟩ .nil))⟩) (.cons (.int (0)) (.cons (.int (1)) .nil))) (.cons (.tuple (xs:=[(.int (-1)),(.int (0))]) (.inr ⟨_,_,_,kc1_h15,rfl,rfl,(show 2<=bM by decide),(.cons ⟨_,rfl⟩ (.cons ⟨_,rfl⟩ .nil))⟩) (.cons (.int (-1)) (.cons (.int (0)) .nil))) (.cons (.tuple (xs:=[(.int (0)),(.int (-1))]) (.inr ⟨_,_,_,kc1_h21,rfl,rfl,(show 2<=bM by decide),(.cons ⟨_,rfl⟩ (.cons ⟨_,rfl⟩ .nil))⟩) (.cons (.int (0)) (.cons (.int (-1)) .nil))) .nil)))))⟩
 have C_START:qar K mg "START" wL:=⟨(.ref kc2_a0),(.ref kc2_a0),Ni X G kc2,rfl,λH S=>(.tuple (xs:=[(.ref kc2_a4),(.ref kc2_a11),(.ref kc2_a18)]) (.inr ⟨_,_,_,kc2_h0,rfl,rfl,(show 3<=bM by decide),(.cons rfl (.cons rfl (.cons rfl .nil)))⟩) (.cons (.tuple (xs:=[(.int (1)),(.int (1)),(.int (0))]) (.inr ⟨_,_,_,kc2_h4,rfl,rfl,(show 3<=bM by decide),(.cons ⟨_,rfl⟩ (.cons ⟨_,rfl⟩ (.cons ⟨_,rfl⟩ .nil)))⟩) (.cons (.int (1)) (.cons (.int (1)) (.cons (.int (0)) .nil)))) (.cons (.tuple (xs:=[(.int (1)),(.int (0)),(.int (0))]) (.inr ⟨_,_,_,kc2_h11,rfl,rfl,(show 3<=bM by decide),(.cons ⟨_,rfl⟩ (.cons ⟨_,rfl⟩ (.cons ⟨_,rfl⟩ .nil)))⟩) (.cons (.int (1)) (.cons (.int (0)) (.cons (.int (0)) .nil)))) (.cons (.tuple (xs:=[(.int (0)),(.int (1)),(.int (0))]) (.inr ⟨_,_,_,kc2_h18,rfl,rfl,(show 3<=bM by decide),(.cons ⟨_,rfl⟩ (.cons ⟨_,rfl⟩ (.cons ⟨_,rfl⟩ .nil)))⟩) (.cons (.int (0)) (.cons (.int (1)) (.cons (.int (0)) .nil)))) .nil))))⟩
 refine ⟨Ud "law" "law" (Zh Tq51) (zO Tq51) (qe Tq51) .none kV51 dc51 pm51 an51 cd51 ct51,λs v=>.of_eq rfl,λbase _ _=>?_⟩
 have b51:=F51.binds (ps:=["_law_script"]) λ_ _ _ _ _ _=>L2.on1 λ_=>rfl
 have K_links_of:=qeH l.prog w base F0 (g a0) b0 z_range
 have K_reached_from:=qaV l.prog w base F1 (g a1) b1
 have K_first_meeting:=qaf l.prog w base F2 (g a2) b2 z_enumerate
 have K_path_back:=qdL l.prog w base F3 (g a3) b3
 have K_path_between:=qaU l.prog w base F4 (g a4) b4 K_path_back z_len z_list z_reversed
 have K_is_whole:=qeG l.prog w base F5 (g a5) b5 z_isinstance z_int z_bool
 have K_added:=qkc l.prog w base F6 (g a6) b6
 have K_negated:=qgD l.prog w base F7 (g a7) b7
 have K_cross:=qkd l.prog w base F8 (g a8) b8
 have K_turned:=qh0 l.prog w base F9 (g a9) b9 z_tuple z_range
 have K_joined_turns:=qaT l.prog w base F10 (g a10) b10 K_turned
 have K_turn_back:=qdM l.prog w base F11 (g a11) b11 z_tuple z_range
 have K_out_of:=qhZ l.prog w base F12 (g a12) b12 K_cross
 have K_unit_of:=qgE l.prog w base F13 (g a13) b13 K_negated
 have K_is_bend:=qgB l.prog w base F14 (g a14) b14 K_is_whole C_BENDS
 have K_join_of:=qgC l.prog w base F15 (g a15) b15 K_is_bend CT
 have K_step_between:=qaW l.prog w base F16 (g a16) b16
 have K_neighbours:=qcL l.prog w base F17 (g a17) b17 K_step_between z_sorted C_STEPS
 have K_steps_of:=qeI l.prog w base F18 (g a18) b18 K_neighbours z_range z_len
 have K_clash_or_folded:=wW l.prog w base F19 (g a19) b19 K_first_meeting
 have K__law_cell:=qdH l.prog w base F20 (g a20) b20 z_len
 have K__law_mixed:=qcE l.prog w base F21 (g a21) b21
 have K__law_steps:=qcJ l.prog w base F22 (g a22) b22 K__law_cell K__law_mixed z_range
 have K__law_place:=qcF l.prog w base F23 (g a23) b23
 have K__law_whole:=qcK l.prog w base F24 (g a24) b24 z_isinstance z_int z_bool
 have K__law_cross:=qcB l.prog w base F25 (g a25) b25
 have K__law_dot:=qeD l.prog w base F26 (g a26) b26
 have K__law_sum:=qeF l.prog w base F27 (g a27) b27
 have K__law_unit:=qdK l.prog w base F28 (g a28) b28 K__law_sum
 have K__law_led:=qeE l.prog w base F29 (g a29) b29 K__law_unit K__law_cross K__law_sum K__law_dot z_tuple
 have K__law_is_spot:=qaS l.prog w base F30 (g a30) b30 K__law_whole z_isinstance z_tuple z_len z_all
 have K__law_is_pose:=qaR l.prog w base F31 (g a31) b31 K__law_is_spot z_isinstance z_tuple z_len z_all
 have K__law_neighbour:=WF l.prog w base F32 (g a32) b32
 have K__law_joined:=qbB l.prog w base F33 (g a33) b33 z_max z_min
 have K__law_grown:=qcC l.prog w base F34 (g a34) b34 K__law_place K__law_cell K__law_neighbour K__law_joined K__law_steps z_len
 have K__law_sheet:=qcI l.prog w base F35 (g a35) b35 z_sorted
 have K__law_near:=qdI l.prog w base F36 (g a36) b36 z_int
 have K__law_walked:=qbC l.prog w base F37 (g a37) b37 K__law_led z_len z_range
 have K__law_poses:=qcG l.prog w base F38 (g a38) b38 K__law_led z_len z_range
 have K__law_clash:=qcA l.prog w base F39 (g a39) b39 z_range z_len
 have K__law_leads:=qcD l.prog w base F40 (g a40) b40 K__law_led z_range z_len
 have K__law_folded:=qbA l.prog w base F41 (g a41) b41 K__law_is_pose K__law_leads K__law_clash z_isinstance z_list z_len
 have K__law_ring:=qdJ l.prog w base F42 (g a42) b42 K__law_whole K__law_walked z_isinstance z_list z_len z_tuple
 have K__law_right:=qcH l.prog w base F43 (g a43) b43 K__law_poses K__law_ring K__law_clash K__law_whole K__law_folded z_isinstance z_tuple z_len
 have M_goes_on:KnownC l.prog w K mg base "goes_on" 3 2 Qh:=⟨λp hp=>by
  simp only [Qh,Kr,VW,cC] at hp
  rcases hp with rfl|rfl|rfl
  ·exact ⟨_,_,_,_,_,n_0,me_0,by decide,qaQ l.prog w base Fm_0,bm_0⟩
  ·exact ⟨_,_,_,_,_,n_1,me_1,by decide,qcz l.prog w base Fm_1,bm_1⟩
  ·exact ⟨_,_,_,_,_,n_2,me_2,by decide,qaP l.prog w base Fm_2 K_negated,bm_2⟩⟩
 have M_led:KnownC l.prog w K mg base "led" 3 3 qa4:=⟨λp hp=>by
  simp only [qa4,Kr,VW,cC] at hp
  rcases hp with rfl|rfl|rfl
  ·exact ⟨_,_,_,_,_,n_3,me_3,by decide,Yz l.prog w base Fm_3 K_unit_of K_out_of K_cross K_joined_turns K_turn_back K_turned K_added M_goes_on,bm_3⟩
  ·exact ⟨_,_,_,_,_,n_4,me_4,by decide,Yz l.prog w base Fm_4 K_unit_of K_out_of K_cross K_joined_turns K_turn_back K_turned K_added M_goes_on,bm_4⟩
  ·exact ⟨_,_,_,_,_,n_5,me_5,by decide,Yz l.prog w base Fm_5 K_unit_of K_out_of K_cross K_joined_turns K_turn_back K_turned K_added M_goes_on,bm_5⟩⟩
 have K_led_by:=qhY l.prog w base F48 (g a48) b48 K_join_of M_led
 have K_poses_along:=qbD l.prog w base F49 (g a49) b49 K_led_by
 have O50:=qiq (mg:=mg) l.prog w base F50 K_steps_of K_reached_from K_links_of K_poses_along K_led_by K_path_between K_clash_or_folded z_len z_range C_START
 have K_folded:KnownD l.prog w K mg base "folded" 3 6 QV:=⟨_,_,_,O50,g a50,F50.kp,Ys (us:=[]) (j:=3) y50 rfl rfl (L2.on3 λ_ _ _=>⟨_,rfl,rfl⟩)⟩
 have X_folded_1:KnownDX l.prog w K mg base "folded" 3 6 QV [.none]:=⟨_,_,_,_,[.non],O50,g a50,F50.kp,Ys (us:=[.none]) (j:=2) y50 rfl rfl (L2.on2 λ_ _=>⟨_,rfl,rfl⟩),(.cons rfl .nil),λH S=>(.cons .none .nil)⟩
 have X_folded_2:KnownDX l.prog w K mg base "folded" 3 6 QV [(.int (0)),.none]:=⟨_,_,_,_,[(.int (0)),.non],O50,g a50,F50.kp,Ys (us:=[(.int (0) df50_t0),.none]) (j:=1) y50 rfl rfl (L2.on1 λ_=>⟨_,rfl,rfl⟩),(.cons ⟨_,rfl⟩ (.cons rfl .nil)),λH S=>(.cons (.int (0)) (.cons .none .nil))⟩
 exact qh4 (qmz l.prog w base F51 K__law_cell K__law_grown K__law_sheet K__law_near K_folded K__law_right X_folded_2 z_list) qgG
end SF
open PySem PySem.W PyProof.Rows
set_option maxRecDepth 100000 in
set_option maxHeartbeats 0 in
theorem PySem.Challenge.cw_sheetfold_k14_whole_folded_or_why_holds : PySem.Challenge.rw_sheetfold_k14_whole_folded_or_why.Holds := by
 w_on;o_law
 refine PySem.W.holds_open (q:=HD.vw) (YP:=(PySem.W.kHook HD.KH HD.kA HD.kE).says) HD.left (PySem.W.Hook.of _) (PySem.W.Hook.keeps _) (λs e=>PySem.W.xl_of s (E6.mp e).1) PySem.W.XL.keeps (by rfl) (by rfl) (by rfl) (λs e=>PySem.W.recFacts_of (E6.mp e).2) (by rfl) (by first|assumption|decide +kernel) (by decide +kernel) ⟨rfl,rfl,rfl,rfl,rfl,by decide +kernel⟩ ?hw ?hc
 case hw=>w_witness2
 k_fill
 refine L2.qhe (l:=PySem.Challenge.rw_sheetfold_k14_whole_folded_or_why) (n:=63) (k:=7) (x := "_law_script") rfl (by decide) rfl ⟨rfl,by decide,by decide,rfl⟩ (λw h Y=>PySem.W.kIn_of Y) ?F
 case F =>
  intro w mg fa h KX G hmg
  refine' SF.qlM KX G hmg ?_ ?_ ?_ ?_ ?_ ?_ ?_ ?_ ?_ ?_ ?_ ?_ ?_ ?_ ?_ ?_ ?_ ?_ ?_ ?_ ?_ ?_ ?_ ?_ ?_ ?_ ?_ ?_ ?_ ?_ ?_ ?_ ?_ ?_ ?_ ?_ ?_ ?_ ?_ ?_ ?_ ?_ ?_ ?_ ?_ ?_ ?_ ?_ ?_ ?_ ?_ ?_ ?_ ?_ ?_ ?_ ?_ ?_ ?_ ?_ ?_ ?_ ?_ ?_ ?_ ?_ ?_ ?_ ?_ ?_ ?_ ?_ ?_ ?_ ?_ ?_ ?_ ?_ ?_ ?_ ?_ ?_ ?_ ?_ ?_ ?_ ?_ ?_
  all_goals try first|k_is|exact L2.FnK.of (by k_is) (by k_is) (by k_is) (by k_is)|exact L2.MthK.of (by k_is) (by k_is) (by k_is) (by k_is) (by k_is) (by k_is)|kernel_rfl
