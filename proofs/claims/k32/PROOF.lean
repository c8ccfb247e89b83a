import PyProof.Rows.All
import Wide.All
import OpenK.AllK
import Wide.FinOn
import Lean
import PyProof.EqAt
import PyProof.EqKinds
import PyProof.TupleCall
import PySem.Challenge.RW_sheetfold_k32_whole_solids_same_or_unlik
set_option Elab.async false
set_option linter.all false
set_option maxRecDepth 100000
namespace HD
open PySem PySem.W PySem.Calls PyProof.Rows
noncomputable def vw:Program:=view PySem.Challenge.pw_sheetfold_k32_whole_solids_same_or_unlik [1,2,3,4,5,6,7,8,10,11,13,14,16,17,18,20,21,22,23,24,25,26,27,28,29,30,31,32,33,34,35,36,37,38,39,40]
def tp (i:Nat):Stmt:=PySem.Challenge.pw_sheetfold_k32_whole_solids_same_or_unlik.main.body.getD i (.Pass ⟨0,0,0,0⟩)
def dA:Stmt->Arguments
 | .FunctionDef _ a _ _ _ _ _ _ _ _=>a
 | _=>default
def dB:Stmt->List Stmt
 | .FunctionDef _ _ b _ _ _ _ _ _ _=>b
 | _=>[]
def dS:Stmt->Scope
 | .FunctionDef _ _ _ _ _ _ s _ _ _=>s
 | _=>default
abbrev de (P:Params)(x:String)(t:Nat)(v:Value):DictEntry:=DictEntry.mk (PyData.keyHash P (Str.ofString x)) (Value.str (Str.ofString x) t) v
abbrev S (x:String)(t:Nat):Value:=Value.str (Str.ofString x) t
abbrev I (n:Int)(t:Nat):Value:=Value.int n t
abbrev R (a:Addr):Value:=Value.ref a
abbrev Y (x:String):Value:=Value.type x
abbrev N:Value:=Value.none
abbrev tu (a:Array Value):Obj:=Obj.mk (Value.type "tuple") Option.none (Data.seq a) #[]
abbrev cc (x:String)(t1 t2 t3:Nat)(l n:Int)(a1:Addr)(k:Int)(a2:Addr)(u v:Value)(a3:Addr)(t4:Int)(t5:Nat):Obj:=Obj.mk (Value.type "code") Option.none (Data.fields #[S x t1,S x t2,S "/claim/cut.py" t3,I l 0,I n 0,I 0 0,I 0 0,I 3 0,R a1,Value.bool Bool.true,I k 0,R a2,N,u,v,R a3,I t4 0,I l 0,S "/claim/cut.py" t5]) #[]
abbrev fu (x:String)(i:Nat)(m:String)(t:Nat)(c:Addr):Obj:=Obj.mk (Value.type "function") Option.none (Data.func (FuncData.mk (Str.ofString x) (Str.ofString x) (dA (tp i)) (FuncBody.stmts (dB (tp i))) (dS (tp i)) 3 [] N N N (S m t) Option.none (R c) N 0)) #[]
set_option maxHeartbeats 0 in
noncomputable def KH:Params->Frag:=fun P =>
(nat_lit 2,Obj.mk N Option.none (Data.dict #[]) #[]) ::
(nat_lit 3,Obj.mk (Y "dict") Option.none (Data.dict #[de P "__name__" 165 (S "law_sheetfold_k32_whole_solids_same_or_unlik" 322),de P "__doc__" 166 N,de P "__package__" 167 N,de P "__loader__" 168 (Value.builtin "__main__.__loader__#opaque"),de P "__spec__" 169 N,de P "__annotations__" 170 (R 6),de P "__builtins__" 171 (R 4),de P "__file__" 173 (S "/claim/cut.py" 172),de P "__cached__" 174 N,de P "UNITS" 210 (R 21),de P "is_whole" 217 (R 28),de P "is_unit" 223 (R 33),de P "added" 231 (R 40),de P "cross" 239 (R 47),de P "is_turn" 245 (R 52),de P "all_turns" 255 (R 59),de P "turned" 261 (R 64),de P "middle_of" 270 (R 71),de P "cube_of" 277 (R 78),de P "lows_of" 285 (R 83),de P "shift_between" 291 (R 88),de P "solid_turned" 297 (R 94),de P "solid_onto" 306 (R 101),de P "least_solid" 312 (R 106),de P "same_solids" 321 (R 113),de P "_law_cell_at" 331 (R 120),de P "_law_whole" 338 (R 127),de P "_law_triple" 347 (R 134),de P "_law_offset" 355 (R 141),de P "_law_cross" 369 (R 148),de P "_law_units" 375 (R 155),de P "_law_turn" 381 (R 160),de P "_law_turned" 387 (R 165),de P "_law_mixed" 396 (R 172),de P "_law_most" 406 (R 179),de P "_law_steps" 412 (R 184),de P "_law_solid" 425 (R 191),de P "_law_cube_turned" 435 (R 198),de P "_law_cubes_alike" 444 (R 205),de P "_law_shift" 450 (R 210),de P "_law_lowered" 456 (R 215),de P "_law_least" 462 (R 220),de P "_law_more" 477 (R 227),de P "_law_other" 483 (R 232),de P "_law_is_same" 489 (R 237),de P "law" 501 (R 244)] 46) #[]) ::
(nat_lit 15,tu #[I (-1) 190,I 0 191,I 0 192]) ::
(nat_lit 16,tu #[I 0 193,I (-1) 195,I 0 196]) ::
(nat_lit 17,tu #[I 0 197,I 0 198,I (-1) 200]) ::
(nat_lit 18,tu #[I 0 201,I 0 202,I 1 203]) ::
(nat_lit 19,tu #[I 0 204,I 1 205,I 0 206]) ::
(nat_lit 20,tu #[I 1 207,I 0 208,I 0 209]) ::
(nat_lit 21,tu #[R 15,R 16,R 17,R 18,R 19,R 20]) ::
(nat_lit 22,tu #[]) ::
(nat_lit 24,tu #[S "thing" 214]) ::
(nat_lit 25,tu #[]) ::
(nat_lit 27,cc "is_whole" 211 212 213 3 1 22 181 23 (R 24) (R 25) 26 215 216) ::
(nat_lit 28,fu "is_whole" 2 "sheetfold.turns" 187 27) ::
(nat_lit 29,tu #[]) ::
(nat_lit 32,cc "is_unit" 218 219 220 5 1 29 181 30 N N 31 221 222) ::
(nat_lit 33,fu "is_unit" 3 "sheetfold.turns" 187 32) ::
(nat_lit 34,tu #[]) ::
(nat_lit 36,tu #[S "one" 227,S "other" 228]) ::
(nat_lit 37,tu #[]) ::
(nat_lit 39,cc "added" 224 225 226 9 2 34 181 35 (R 36) (R 37) 38 229 230) ::
(nat_lit 40,fu "added" 4 "sheetfold.turns" 187 39) ::
(nat_lit 41,tu #[]) ::
(nat_lit 43,tu #[S "one" 235,S "other" 236]) ::
(nat_lit 44,tu #[]) ::
(nat_lit 46,cc "cross" 232 233 234 11 2 41 181 42 (R 43) (R 44) 45 237 238) ::
(nat_lit 47,fu "cross" 5 "sheetfold.turns" 187 46) ::
(nat_lit 48,tu #[]) ::
(nat_lit 51,cc "is_turn" 240 241 242 13 1 48 181 49 N N 50 243 244) ::
(nat_lit 52,fu "is_turn" 6 "sheetfold.turns" 187 51) ::
(nat_lit 53,tu #[]) ::
(nat_lit 55,tu #[S "turns" 249,S "right" 250,S "up" 251,S "turn" 252]) ::
(nat_lit 56,tu #[]) ::
(nat_lit 58,cc "all_turns" 246 247 248 19 0 53 181 54 (R 55) (R 56) 57 253 254) ::
(nat_lit 59,fu "all_turns" 7 "sheetfold.turns" 187 58) ::
(nat_lit 60,tu #[]) ::
(nat_lit 63,cc "turned" 256 257 258 27 2 60 181 61 N N 62 259 260) ::
(nat_lit 64,fu "turned" 8 "sheetfold.turns" 187 63) ::
(nat_lit 65,tu #[]) ::
(nat_lit 67,tu #[S "cube" 267]) ::
(nat_lit 68,tu #[]) ::
(nat_lit 70,cc "middle_of" 264 265 266 30 1 65 181 66 (R 67) (R 68) 69 268 269) ::
(nat_lit 71,fu "middle_of" 10 "sheetfold.squares" 262 70) ::
(nat_lit 72,tu #[]) ::
(nat_lit 74,tu #[S "spot" 274]) ::
(nat_lit 75,tu #[]) ::
(nat_lit 77,cc "cube_of" 271 272 273 32 1 72 181 73 (R 74) (R 75) 76 275 276) ::
(nat_lit 78,fu "cube_of" 11 "sheetfold.squares" 262 77) ::
(nat_lit 79,tu #[]) ::
(nat_lit 82,cc "lows_of" 280 281 282 35 1 79 181 80 N N 81 283 284) ::
(nat_lit 83,fu "lows_of" 13 "sheetfold.likes" 278 82) ::
(nat_lit 84,tu #[]) ::
(nat_lit 87,cc "shift_between" 286 287 288 37 2 84 181 85 N N 86 289 290) ::
(nat_lit 88,fu "shift_between" 14 "sheetfold.likes" 278 87) ::
(nat_lit 89,tu #[N]) ::
(nat_lit 90,tu #[]) ::
(nat_lit 93,cc "solid_turned" 292 293 294 39 3 90 181 91 N N 92 295 296) ::
(nat_lit 94,Obj.mk (Y "function") Option.none (Data.func (FuncData.mk (Str.ofString "solid_turned") (Str.ofString "solid_turned") (dA (tp 15)) (FuncBody.stmts (dB (tp 15))) (dS (tp 15)) 3 [] (R 89) N N (S "sheetfold.likes" 278) Option.none (R 93) N 0)) #[]) ::
(nat_lit 95,tu #[]) ::
(nat_lit 97,tu #[S "solid" 301,S "turn" 302,S "cubes" 303]) ::
(nat_lit 98,tu #[]) ::
(nat_lit 100,cc "solid_onto" 298 299 300 42 3 95 181 96 (R 97) (R 98) 99 304 305) ::
(nat_lit 101,fu "solid_onto" 16 "sheetfold.likes" 278 100) ::
(nat_lit 102,tu #[]) ::
(nat_lit 105,cc "least_solid" 307 308 309 44 1 102 181 103 N N 104 310 311) ::
(nat_lit 106,fu "least_solid" 17 "sheetfold.likes" 278 105) ::
(nat_lit 107,tu #[]) ::
(nat_lit 109,tu #[S "one" 316,S "other" 317,S "turn" 318]) ::
(nat_lit 110,tu #[]) ::
(nat_lit 112,cc "same_solids" 313 314 315 46 2 107 181 108 (R 109) (R 110) 111 319 320) ::
(nat_lit 113,fu "same_solids" 18 "sheetfold.likes" 278 112) ::
(nat_lit 114,tu #[]) ::
(nat_lit 116,tu #[S "_law_script" 327,S "_law_k" 328]) ::
(nat_lit 117,tu #[]) ::
(nat_lit 119,cc "_law_cell_at" 324 325 326 52 2 114 181 115 (R 116) (R 117) 118 329 330) ::
(nat_lit 120,fu "_law_cell_at" 20 "law_sheetfold_k32_whole_solids_same_or_unlik" 322 119) ::
(nat_lit 121,tu #[]) ::
(nat_lit 123,tu #[S "_law_found" 335]) ::
(nat_lit 124,tu #[]) ::
(nat_lit 126,cc "_law_whole" 332 333 334 56 1 121 181 122 (R 123) (R 124) 125 336 337) ::
(nat_lit 127,fu "_law_whole" 21 "law_sheetfold_k32_whole_solids_same_or_unlik" 322 126) ::
(nat_lit 128,tu #[]) ::
(nat_lit 130,tu #[S "_law_found" 342,S "_law_due" 343,S "_law_number" 344]) ::
(nat_lit 131,tu #[]) ::
(nat_lit 133,cc "_law_triple" 339 340 341 58 2 128 181 129 (R 130) (R 131) 132 345 346) ::
(nat_lit 134,fu "_law_triple" 22 "law_sheetfold_k32_whole_solids_same_or_unlik" 322 133) ::
(nat_lit 135,tu #[]) ::
(nat_lit 137,tu #[S "_law_cell" 351,S "_law_rest" 352]) ::
(nat_lit 138,tu #[]) ::
(nat_lit 140,cc "_law_offset" 348 349 350 65 1 135 181 136 (R 137) (R 138) 139 353 354) ::
(nat_lit 141,fu "_law_offset" 23 "law_sheetfold_k32_whole_solids_same_or_unlik" 322 140) ::
(nat_lit 142,tu #[]) ::
(nat_lit 144,tu #[S "_law_one" 359,S "_law_other_here" 360,S "_law_a" 361,S "_law_b" 362,S "_law_c" 363,S "_law_d" 364,S "_law_e" 365,S "_law_f" 366]) ::
(nat_lit 145,tu #[]) ::
(nat_lit 147,cc "_law_cross" 356 357 358 74 2 142 181 143 (R 144) (R 145) 146 367 368) ::
(nat_lit 148,fu "_law_cross" 24 "law_sheetfold_k32_whole_solids_same_or_unlik" 322 147) ::
(nat_lit 149,tu #[]) ::
(nat_lit 151,tu #[]) ::
(nat_lit 152,tu #[]) ::
(nat_lit 154,cc "_law_units" 370 371 372 78 0 149 181 150 (R 151) (R 152) 153 373 374) ::
(nat_lit 155,fu "_law_units" 25 "law_sheetfold_k32_whole_solids_same_or_unlik" 322 154) ::
(nat_lit 156,tu #[]) ::
(nat_lit 159,cc "_law_turn" 376 377 378 80 1 156 181 157 N N 158 379 380) ::
(nat_lit 160,fu "_law_turn" 26 "law_sheetfold_k32_whole_solids_same_or_unlik" 322 159) ::
(nat_lit 161,tu #[]) ::
(nat_lit 164,cc "_law_turned" 382 383 384 85 2 161 181 162 N N 163 385 386) ::
(nat_lit 165,fu "_law_turned" 27 "law_sheetfold_k32_whole_solids_same_or_unlik" 322 164) ::
(nat_lit 166,tu #[]) ::
(nat_lit 168,tu #[S "_law_cell" 391,S "_law_k" 392,S "_law_number" 393]) ::
(nat_lit 169,tu #[]) ::
(nat_lit 171,cc "_law_mixed" 388 389 390 89 2 166 181 167 (R 168) (R 169) 170 394 395) ::
(nat_lit 172,fu "_law_mixed" 28 "law_sheetfold_k32_whole_solids_same_or_unlik" 322 171) ::
(nat_lit 173,tu #[]) ::
(nat_lit 175,tu #[S "_law_script" 400,S "_law_at" 401,S "_law_most_here" 402,S "_law_cell" 403]) ::
(nat_lit 176,tu #[]) ::
(nat_lit 178,cc "_law_most" 397 398 399 92 3 173 181 174 (R 175) (R 176) 177 404 405) ::
(nat_lit 179,fu "_law_most" 29 "law_sheetfold_k32_whole_solids_same_or_unlik" 322 178) ::
(nat_lit 180,tu #[]) ::
(nat_lit 183,cc "_law_steps" 407 408 409 97 3 180 181 181 N N 182 410 411) ::
(nat_lit 184,fu "_law_steps" 30 "law_sheetfold_k32_whole_solids_same_or_unlik" 322 183) ::
(nat_lit 185,tu #[]) ::
(nat_lit 187,tu #[S "_law_steps_here" 416,S "_law_most_here" 417,S "_law_found" 418,S "_law_step" 419,S "_law_one" 420,S "_law_unit" 421,S "_law_other_here" 422]) ::
(nat_lit 188,tu #[]) ::
(nat_lit 190,cc "_law_solid" 413 414 415 110 2 185 181 186 (R 187) (R 188) 189 423 424) ::
(nat_lit 191,fu "_law_solid" 31 "law_sheetfold_k32_whole_solids_same_or_unlik" 322 190) ::
(nat_lit 192,tu #[]) ::
(nat_lit 194,tu #[S "_law_turn_here" 429,S "_law_shift_here" 430,S "_law_cube" 431,S "_law_middle" 432]) ::
(nat_lit 195,tu #[]) ::
(nat_lit 197,cc "_law_cube_turned" 426 427 428 119 3 192 181 193 (R 194) (R 195) 196 433 434) ::
(nat_lit 198,fu "_law_cube_turned" 32 "law_sheetfold_k32_whole_solids_same_or_unlik" 322 197) ::
(nat_lit 199,tu #[]) ::
(nat_lit 201,tu #[S "_law_found" 439,S "_law_due" 440,S "_law_k" 441]) ::
(nat_lit 202,tu #[]) ::
(nat_lit 204,cc "_law_cubes_alike" 436 437 438 122 2 199 181 200 (R 201) (R 202) 203 442 443) ::
(nat_lit 205,fu "_law_cubes_alike" 33 "law_sheetfold_k32_whole_solids_same_or_unlik" 322 204) ::
(nat_lit 206,tu #[]) ::
(nat_lit 209,cc "_law_shift" 445 446 447 129 2 206 181 207 N N 208 448 449) ::
(nat_lit 210,fu "_law_shift" 34 "law_sheetfold_k32_whole_solids_same_or_unlik" 322 209) ::
(nat_lit 211,tu #[]) ::
(nat_lit 214,cc "_law_lowered" 451 452 453 131 1 211 181 212 N N 213 454 455) ::
(nat_lit 215,fu "_law_lowered" 35 "law_sheetfold_k32_whole_solids_same_or_unlik" 322 214) ::
(nat_lit 216,tu #[]) ::
(nat_lit 219,cc "_law_least" 457 458 459 134 1 216 181 217 N N 218 460 461) ::
(nat_lit 220,fu "_law_least" 36 "law_sheetfold_k32_whole_solids_same_or_unlik" 322 219) ::
(nat_lit 221,tu #[]) ::
(nat_lit 223,tu #[S "_law_solid_here" 466,S "_law_cell" 467,S "_law_spots" 468,S "_law_a" 469,S "_law_b" 470,S "_law_c" 471,S "_law_x" 472,S "_law_y" 473,S "_law_z" 474]) ::
(nat_lit 224,tu #[]) ::
(nat_lit 226,cc "_law_more" 463 464 465 141 2 221 181 222 (R 223) (R 224) 225 475 476) ::
(nat_lit 227,fu "_law_more" 37 "law_sheetfold_k32_whole_solids_same_or_unlik" 322 226) ::
(nat_lit 228,tu #[]) ::
(nat_lit 231,cc "_law_other" 478 479 480 148 2 228 181 229 N N 230 481 482) ::
(nat_lit 232,fu "_law_other" 38 "law_sheetfold_k32_whole_solids_same_or_unlik" 322 231) ::
(nat_lit 233,tu #[]) ::
(nat_lit 236,cc "_law_is_same" 484 485 486 160 3 233 181 234 N N 235 487 488) ::
(nat_lit 237,fu "_law_is_same" 39 "law_sheetfold_k32_whole_solids_same_or_unlik" 322 236) ::
(nat_lit 238,tu #[]) ::
(nat_lit 240,tu #[S "_law_script" 493,S "_law_one" 494,S "_law_other_here" 495,S "_law_least_here" 496,S "_law_handed" 497,S "_law_found" 498]) ::
(nat_lit 241,tu #[]) ::
(nat_lit 243,cc "law" 490 491 492 172 1 238 181 239 (R 240) (R 241) 242 499 500) ::
(nat_lit 244,fu "law" 40 "law_sheetfold_k32_whole_solids_same_or_unlik" 322 243)::[]
def kA:List Addr:=[2,3,15,16,17,18,19,20,21,22,24,25,27,28,29,32,33,34,36,37,39,40,41,43,44,46,47,48,51,52,53,55,56,58,59,60,63,64,65,67,68,70,71,72,74,75,77,78,79,82,83,84,87,88,89,90,93,94,95,97,98,100,101,102,105,106,107,109,110,112,113,114,116,117,119,120,121,123,124,126,127,128,130,131,133,134,135,137,138,140,141,142,144,145,147,148,149,151,152,154,155,156,159,160,161,164,165,166,168,169,171,172,173,175,176,178,179,180,183,184,185,187,188,190,191,192,194,195,197,198,199,201,202,204,205,206,209,210,211,214,215,216,219,220,221,223,224,226,227,228,231,232,233,236,237,238,240,241,243,244]
theorem kE (P:Params):kA=(KH P).map (·.1):=by kernel_rfl
noncomputable abbrev hk:Hook:=kHook KH kA kE
noncomputable def tfQ (tr:(String->Option Builtin)->Program->World->Nat->Option Value->Nat->Shared->Thread->Option Shared)(tb:String->Option Builtin)(p:Program)(w:World)(N:Nat)(s:Shared):Option Shared :=
 match s.heap.isNs mainGlobals&&s.gens.size==0 with
 | true=>(tr tb p w s.heap.objs.size (s.heap.nsMap mainGlobals "__annotations__") N s (topStub p)).bind fun u =>
   match staticsOk (importedModules p.main.body) s.heap u.heap&&namesBound p u.heap&&gensDone u&&laidKept s.heap u.heap with
   | true=>some u
   | false=>none
 | false=>none
theorem tf_q (p:Program)(w:World)(N:Nat):topFrom treeTable p w N=tfQ Fast.tw14082659384304107361 Fast.tw14364793385576792824 p w N:=by
 rw [← Fast.te14082659384304107361,← Fast.te14364793385576792824]
 rfl
noncomputable def opQ (p:Program)(w:World)(N:Nat):Option Shared :=
 (Fast.tw10274390034422433532 Fast.tw14364793385576792824 (opening p) w N (Fast.tw1435165496053646825 (opening p)).1 (Fast.tw1435165496053646825 (opening p)).2).bind (Fast.tw14289696077712309145 p)
theorem op_q (p:Program)(w:World)(N:Nat):fencedOpening treeTable p w N=opQ p w N:=by
 unfold opQ
 rw [← Fast.te10274390034422433532,← Fast.te14364793385576792824,← Fast.te1435165496053646825,← Fast.te14289696077712309145]
 rfl
noncomputable def endsQ (p:Program)(w:World)(N:Nat):Option Shared:=(opQ p w N).bind (tfQ Fast.tw14082659384304107361 Fast.tw14364793385576792824 p w N)
theorem qgi (p:Program)(w:World)(N:Nat):openEnds treeTable p w N=endsQ p w N:=by
 unfold openEnds endsQ
 rw [op_q,tf_q]
set_option maxHeartbeats 0 in
theorem left:LeftO PySem.Challenge.pw_sheetfold_k32_whole_solids_same_or_unlik vw [(PySem.Str.ofString "solid_turned")] (fun s=>xlAt vw [] s&&recOk (RowW.records (OpenRow.toRowW (OpenLaw.row PySem.Challenge.rw_sheetfold_k32_whole_solids_same_or_unlik))) s) (Hook.obs hk) (Hook.val hk) 2404:=by
 intro w
 rw [qgi,Fast.te4187177175401517315]
 kernel_rfl
end HD
namespace L2
open PySem PySem.Spec PyProof.Rows
abbrev Key:=Sum Int Str
def qfR:Key->Value->Bool
 | .inl k,v=>Value.isInt k v
 | .inr x,v=>Value.isStrOf x v
def keyH (w:World):Key->Int
 | .inl k=>hashInt k
 | .inr x=>hashStr w x
theorem Qm:∀ {k:Key} {v:Value},qfR k v=true->(∃ i t,k=Sum.inl i/\v=Value.int i t)\/(∃ x t,k=Sum.inr x/\v=Value.str x t)
 | .inl i,v,h=>by
  obtain ⟨t,e⟩:=Value.isInt_shape (k:=i) (v:=v) h
  exact .inl ⟨i,t,rfl,e⟩
 | .inr x,v,h=>by
  obtain ⟨t,e⟩:=Value.isStrOf_shape (x:=x) (v:=v) h
  exact .inr ⟨x,t,rfl,e⟩
theorem qgE (a b:Int):decide ((Sum.inl a:Key)=Sum.inl b)=(a==b):=by
 by_cases e:a=b
 ·subst e;simp
 ·have h:¬ (Sum.inl a:Key)=Sum.inl b:=fun q=>e (Sum.inl.inj q)
  rw [decide_eq_false h]
  exact (beq_eq_false_iff_ne.mpr e).symm
theorem qgH (a b:Str):decide ((Sum.inr a:Key)=Sum.inr b)=decide (a=b):=by
 by_cases e:a=b
 ·subst e;simp
 ·have h:¬ (Sum.inr a:Key)=Sum.inr b:=fun q=>e (Sum.inr.inj q)
  rw [decide_eq_false h,decide_eq_false e]
theorem qgF (a:Int)(b:Str):decide ((Sum.inl a:Key)=Sum.inr b)=false:=decide_eq_false (fun q=>nomatch q)
theorem qgG (a:Str)(b:Int):decide ((Sum.inr a:Key)=Sum.inl b)=false:=decide_eq_false (fun q=>nomatch q)
def qbW (prog:Program)(w:World):PySem.KeyKind prog w Key where
 is:=qfR
 hash:=keyH w
 inj:=fun v a b ha hb=>by
  rcases Qm ha with ⟨i,t,rfl,rfl⟩|⟨x,t,rfl,rfl⟩
  ·rcases Qm hb with ⟨j,u,rfl,e⟩|⟨y,u,rfl,e⟩
   ·injection e with e1 _;rw [e1]
   ·exact nomatch e
  ·rcases Qm hb with ⟨j,u,rfl,e⟩|⟨y,u,rfl,e⟩
   ·exact nomatch e
   ·injection e with e1 _;rw [e1]
 byValue:=fun k v h=>by
  rcases Qm h with ⟨i,t,rfl,rfl⟩|⟨x,t,rfl,rfl⟩<;>rfl
 pyHash:=fun hv h=>by
  rcases Qm hv with ⟨i,t,rfl,rfl⟩|⟨x,t,rfl,rfl⟩
  ·exact wpAny_pyHash_int h
  ·exact wpAny_pyHash_str h
 eqBool:=fun hu hv h=>by
  rcases Qm hu with ⟨i,t,rfl,rfl⟩|⟨x,t,rfl,rfl⟩
  ·rcases Qm hv with ⟨j,u,rfl,rfl⟩|⟨y,u,rfl,rfl⟩
   ·rw [qgE] at h;exact wpAny_eqBool_int h
   ·rw [qgF] at h;exact SeqAt.EqAt.int_str i t y u _ _ _ _ h
  ·rcases Qm hv with ⟨j,u,rfl,rfl⟩|⟨y,u,rfl,rfl⟩
   ·rw [qgG] at h;exact SeqAt.EqAt.str_int x t j u _ _ _ _ h
   ·rw [qgH] at h;exact wpAny_eqBool_str h
 «strs»:=fun k x t v h=>by
  rcases Qm h with ⟨i,u,rfl,e⟩|⟨y,u,rfl,e⟩
  ·exact nomatch e
  ·injection e with e1 _
   subst e1
   cases v<;>rfl
end L2
namespace L2
open PySem PySem.Spec PyProof.Rows
inductive V where
 | non|bl (b:Bool)|int (i:Int)|str (x:Str)|byt (b:Array UInt8)|flt (b:UInt64)|ref (a:Addr)|ty (n:String)
 deriving DecidableEq
def RelV:V->Value->Prop
 | .non,u=>u=Value.none
 | .bl b,u=>u=Value.bool b
 | .int i,u=>∃ t,u=Value.int i t
 | .str x,u=>∃ t,u=Value.str x t
 | .byt b,u=>∃ t,u=Value.bytes b t
 | .flt b,u=>∃ t,u=Value.float b t
 | .ref a,u=>u=Value.ref a
 | .ty n,u=>u=Value.type n
abbrev Vals:List V->List Value->Prop:=Paired RelV
theorem Vals.length {xs:List V}{us:List Value}(r:Vals xs us):xs.length=us.length:=Paired.length r
theorem Vals.get:∀ {xs:List V} {us:List Value} {i:Nat} {x:V},Vals xs us->xs[i]?=some x->∃ u,us[i]?=some u/\RelV x u
 | _,_,_,_,.nil,e=>by simp at e
 | _,_,0,_,.cons r _,e=>by simp at e;subst e;exact ⟨_,rfl,r⟩
 | _,_,i+1,x,.cons _ t,e=>by
  obtain ⟨u,h1,h2⟩:=Vals.get (i:=i) (x:=x) t (by simpa using e)
  exact ⟨u,by simpa using h1,h2⟩
theorem Vals.set {x:V}{u:Value}(r:RelV x u):∀ {xs:List V} {us:List Value} (i:Nat),Vals xs us->Vals (xs.set i x) (us.set i u)
 | _,_,_,.nil=>.nil
 | _,_,0,.cons _ t=>.cons r t
 | _,_,i+1,.cons q t=>.cons q (Vals.set r i t)
theorem Vals.append:∀ {xs ys:List V} {us ws:List Value},Vals xs us->Vals ys ws->Vals (xs++ys) (us++ws)
 | _,_,_,_,.nil,s=>s
 | _,_,_,_,.cons r t,s=>.cons r (Vals.append t s)
theorem Vals.take:∀ {xs:List V} {us:List Value} (n:Nat),Vals xs us->Vals (xs.take n) (us.take n)
 | _,_,0,_=>.nil
 | _,_,_+1,.nil=>.nil
 | _,_,n+1,.cons r t=>.cons r (Vals.take n t)
theorem Vals.drop:∀ {xs:List V} {us:List Value} (n:Nat),Vals xs us->Vals (xs.drop n) (us.drop n)
 | _,_,0,r=>r
 | _,_,_+1,.nil=>.nil
 | _,_,n+1,.cons _ t=>Vals.drop n t
def RelO:Option V->Option Value->Prop
 | some v,some u=>RelV v u
 | none,none=>True
 | _,_=>False
def KV {κ:Type}:List (κ×V)->List (κ×Value)->Prop:=Paired fun (p:κ×V) (q:κ×Value)=>p.1=q.1/\RelV p.2 q.2
def kV:Key->V
 | .inl i=>.int i
 | .inr x=>.str x
inductive HO where
 | lst (xs:List V)
 | tup (xs:List V)
 | dK (kvs:List (Key×V))|dT (kvs:List (List Key×V))
 | set (S:Int->Bool) (n:Nat)
 | ins (C dx:Addr) (fs:List (Str×V))
 | own (x:Addr)
 | xd (fs:List (Str×V))
 | met (f x:Addr)
 | rng (lo hi:Int)
 | frz (o:Obj) (u:HO)
 | tbl (ps:Array Value)
 | ext (φ:Heap->Prop)
abbrev Hp:=Addr->Option HO
def upd (H:Hp)(a:Addr)(o:HO):Hp:=fun b=>if b=a then some o else H b
theorem zW {H:Hp}{a:Addr}{o:HO}:upd H a o a=some o:=by unfold upd;rw [if_pos rfl]
theorem zf {H:Hp}{a b:Addr}{o:HO}(h:b≠a):upd H a o b=H b:=by unfold upd;rw [if_neg h]
theorem Qx {H:Hp}{a b:Addr}{o:HO}(h:H a=some o)(h':H b=none):a≠b:=by
 intro e;subst e;rw [h] at h';cases h'
section
variable (P:Program)(w:World)
def Ze (H:Hp)(h:Heap)(a:Addr):HO->Prop
 | .lst xs=>xs.length<=sizeLine/\∃ (its:List Value) (n:Nat),Vals xs its/\h.get? a=some { cls:=.type "list", data:=.seq its.toArray n }
 | .tup xs=>xs.length<=sizeLine/\∃ its:List Value,Vals xs its/\IsTup h a its.toArray
 | .dK kvs=>kvs.length<=sizeLine/\(a==sysModules)=false/\∃ vs,KV kvs vs/\h.DictOf (qbW P w) a vs
 | .dT kvs=>kvs.length<=sizeLine/\(a==sysModules)=false/\∃ xs:List (List Key×Addr×Value),
   Paired (fun (p:List Key×V) (q:List Key×Addr×Value)=>p.1=q.1/\H q.2.1=some (.tup (p.1.map kV))/\RelV p.2 q.2.2) kvs xs/\
   ∃ o es ep,h.get? a=some o/\o.ExactDict/\o.data=.dict es ep/\es.toList=xs.map (entryOfKey (tupleKind (qbW P w)))/\(xs.map (·.1)).Nodup
 | .set S n=>h.SetOf (intKind P w) a S n
 | .ins C dx fs=>H dx=some (.own a)/\fs.length<=1000/\dx≠a/\h.get? a=some (PySem.W.instObj C dx)/\
   ∃ mA,h.Ns1 dx mA/\(∀ f,RelO (fs.lookup f) (mA f))/\PySem.Within mA (fs.map (·.1))
 | .own _=>∃ o,h.get? a=some o
 | .xd fs=>∃ mA,h.Ns1 a mA/\∀ f,RelO (fs.lookup f) (mA f)
 | .rng lo hi=>∃ t u v,h.get? a=some { cls:=.type "range", data:=.fields #[.int lo t,.int hi u,.int 1 v] }
 | .frz o u=>h.get? a=some o/\Ze H h a u
 | .tbl ps=>h.get? a=some { cls:=.none,data:=.fields ps }
 | .met f x=>h.get? a=some (PySem.W.methodObj (.ref f) (.ref x))
 | .ext φ=>φ h/\(∃ o,h.get? a=some o)/\∀ h1 h2:Heap,φ h1->(∀ o,h1.get? a=some o->h2.get? a=some o)->φ h2
def HOk (H:Hp)(h:Heap):Prop:=∀ a o,H a=some o->Ze P w H h a o
end
section
variable {P:Program}{w:World}{H H':Hp}{h h':Heap}{a:Addr}{o:HO}
theorem Ze.lt (x:Ze P w H h a o):a<h.objs.size:=by
 cases o with
 | lst xs=>obtain ⟨_,_,_,_,e⟩:=x;exact Heap.lt_size e
 | tup xs=>obtain ⟨_,_,_,p⟩:=x;exact p.lt
 | dK kvs=>obtain ⟨_,_,_,_,o,_,_,e,_⟩:=x;exact Heap.lt_size e
 | dT kvs=>obtain ⟨_,_,_,_,o,_,_,e,_⟩:=x;exact Heap.lt_size e
 | set S n=>obtain ⟨o,_,_,_,e,_⟩:=x;exact Heap.lt_size e
 | ins C dx fs=>obtain ⟨_,_,_,e,_⟩:=x;exact Heap.lt_size e
 | own y=>obtain ⟨_,e⟩:=x;exact Heap.lt_size e
 | xd fs=>obtain ⟨_,⟨_,_,_,e,_⟩,_⟩:=x;exact Heap.lt_size e
 | rng lo hi=>obtain ⟨_,_,_,e⟩:=x;exact Heap.lt_size e
 | frz ob u=>obtain ⟨e,_⟩:=x;exact Heap.lt_size e
 | tbl ps=>exact Heap.lt_size (show h.get? a=some _ from x)
 | met f y=>exact Heap.lt_size (show h.get? a=some _ from x)
 | ext φ=>obtain ⟨_,⟨_,e⟩,_⟩:=x;exact Heap.lt_size e
theorem Paired.mapP {α β:Type}{F G:α->β->Prop}:∀ {l₁:List α} {l₂:List β},Paired F l₁ l₂->(∀ a b,F a b->G a b)->Paired G l₁ l₂
 | _,_,.nil,_=>.nil
 | _,_,.cons r t,f=>.cons (f _ _ r) (Paired.mapP t f)
theorem Ze.stay (x:Ze P w H h a o)(k:∀ b u,(b=a\/H b=some (.own a))->h.get? b=some u->h'.get? b=some u)
  (ho:∀ b,H b=some (.own a)->H' b=some (.own a)) (ht:∀ b xs,H b=some (.tup xs)->H' b=some (.tup xs)):Ze P w H' h' a o:=by
 induction o with
 | lst xs=>obtain ⟨z,its,n,r,e⟩:=x;exact ⟨z,its,n,r,k _ _ (.inl rfl) e⟩
 | tup xs=>obtain ⟨z,its,r,ob,e,c⟩:=x;exact ⟨z,its,r,ob,k _ _ (.inl rfl) e,c⟩
 | dK kvs=>obtain ⟨z,y,vs,r,ob,es,ep,e,c⟩:=x;exact ⟨z,y,vs,r,ob,es,ep,k _ _ (.inl rfl) e,c⟩
 | dT kvs =>
  obtain ⟨z,y,xs,r,ob,es,ep,e,c⟩:=x
  exact ⟨z,y,xs,Paired.mapP r fun p q z=>⟨z.1,ht _ _ z.2.1,z.2.2⟩,ob,es,ep,k _ _ (.inl rfl) e,c⟩
 | set S n=>obtain ⟨ob,es,ep,t,e,c⟩:=x;exact ⟨ob,es,ep,t,k _ _ (.inl rfl) e,c⟩
 | ins C dx fs =>
  obtain ⟨d,z,ne,e,mA,⟨od,es,ep,e2,c⟩,r⟩:=x
  exact ⟨ho _ d,z,ne,k _ _ (.inl rfl) e,mA,⟨od,es,ep,k _ _ (.inr d) e2,c⟩,r⟩
 | own y=>obtain ⟨ob,e⟩:=x;exact ⟨ob,k _ _ (.inl rfl) e⟩
 | xd fs=>obtain ⟨mA,⟨od,es,ep,e,c⟩,r⟩:=x;exact ⟨mA,⟨od,es,ep,k _ _ (.inl rfl) e,c⟩,r⟩
 | rng lo hi=>obtain ⟨t,u,v,e⟩:=x;exact ⟨t,u,v,k _ _ (.inl rfl) e⟩
 | frz ob u ih=>obtain ⟨e,q⟩:=x;exact ⟨k _ _ (.inl rfl) e,ih q⟩
 | tbl ps =>
  have e:h.get? a=some { cls:=.none,data:=.fields ps }:=x
  show h'.get? a=some { cls:=.none,data:=.fields ps }
  exact k a _ (.inl rfl) e
 | met f y =>
  have e:h.get? a=some (PySem.W.methodObj (.ref f) (.ref y)):=x
  show h'.get? a=some (PySem.W.methodObj (.ref f) (.ref y))
  exact k a _ (.inl rfl) e
 | ext φ=>obtain ⟨p,⟨o,e⟩,st⟩:=x;exact ⟨st _ _ p fun o q=>k _ _ (.inl rfl) q,⟨o,k _ _ (.inl rfl) e⟩,st⟩
theorem HOk.lt (x:HOk P w H h)(e:H a=some o):a<h.objs.size:=(x a o e).lt
theorem HOk.fresh (x:HOk P w H h)(e:h.objs.size<=a):H a=none:=by
 cases q:H a with
 | none=>rfl
 | some u=>exact absurd (Nat.lt_of_lt_of_le (x.lt q) e) (Nat.lt_irrefl _)
theorem HOk.kept (x:HOk P w H h)(k:∀ b u,h.get? b=some u->h'.get? b=some u):HOk P w H h':=fun a o e =>
 (x a o e).stay (fun b u _ q=>k b u q) (fun _ q=>q) fun _ _ q=>q
theorem HOk.laid (x:HOk P w H h)(k:∀ b u,h.get? b=some u->h'.get? b=some u)(hp:h.objs.size<=a)(new:Ze P w (upd H a o) h' a o):HOk P w (upd H a o) h':=fun b u e=>by
 have hn:=x.fresh hp
 by_cases hb:b=a
 ·subst hb;rw [zW] at e;cases e;exact new
 ·rw [zf hb] at e
  exact (x b u e).stay (fun c v _ q=>k c v q) (fun c q=>by rw [zf (Qx q hn)];exact q) fun c xs q=>by rw [zf (Qx q hn)];exact q
end
def Rd (H:Hp)(a:Addr)(u:HO):Prop:=H a=some u\/∃ o,H a=some (.frz o u)
theorem Rd.of {H:Hp}{a:Addr}{u:HO}(h:H a=some u):Rd H a u:=.inl h
theorem Rd.ok {P:Program}{w:World}{H:Hp}{h:Heap}{a:Addr}{u:HO}(r:Rd H a u)(x:HOk P w H h):Ze P w H h a u:=by
 rcases r with r|⟨o,r⟩
 ·exact x a u r
 ·obtain ⟨_,q⟩:=x a _ r
  exact q
def Mut:Option HO->Prop
 | some (.lst _)=>True
 | some (.dK _)=>True
 | some (.dT _)=>True
 | some (.set _ _)=>True
 | some (.ins _ _ _)=>True
 | some (.ext _)=>True
 | _=>False
section
variable {P:Program}{w:World}{H:Hp}{h h':Heap}{x e:Addr}{o':HO}
theorem HOk.write (ok:HOk P w H h)(mu:Mut (H x))(he:e=x\/H e=some (.own x))(k:∀ b u,b≠e->h.get? b=some u->h'.get? b=some u)(heo:∃ u,h'.get? e=some u)
  (new:Ze P w (upd H x o') h' x o'):HOk P w (upd H x o') h':=fun b u q=>by
 have nown:∀ c y,H c=some (.own y)->c≠x:=fun c y r z=>by subst z;rw [r] at mu;exact mu
 have ntup:∀ c xs,H c=some (.tup xs)->c≠x:=fun c xs r z=>by subst z;rw [r] at mu;exact mu
 by_cases hb:b=x
 ·subst hb;rw [zW] at q;cases q;exact new
 ·rw [zf hb] at q
  by_cases hbe:b=e
  ·have q':H b=some (.own x):=by
    rcases he with z|z
    ·exact absurd (hbe.trans z) hb
    ·rw [hbe];exact z
   rw [q] at q';cases q'
   obtain ⟨v,hv⟩:=heo
   exact ⟨v,by rw [hbe];exact hv⟩
  ·refine (ok b u q).stay (fun c v hc r=>k c v ?_ r) (fun c r=>by rw [zf (nown c b r)];exact r) fun c xs r=>by rw [zf (ntup c xs r)];exact r
   rcases hc with rfl|hc
   ·exact hbe
   ·rintro rfl
    rcases he with z|z
    ·exact nown c b hc z
    ·rw [hc] at z;cases z;exact hb rfl
end
structure Un (fs ex:List Addr)(H H':Hp)(h h':Heap):Prop where
 keep:∀ b o,h.get? b=some o->H b=none->b∉fs->b∉ex->h'.get? b=some o
 slot:∀ b o,h.get? b=some o->H b=none->b∈fs->b∉ex->∃ sl,h'.get? b=some { o with slots:=sl }
 free:∀ b o,h.get? b=some o->H b=none->b∉ex->H' b=none
 there:∀ b o,h.get? b=some o->b∉ex->∃ o',h'.get? b=some o'
 tups:∀ b xs,H b=some (.tup xs)->H' b=some (.tup xs)
 frzs:∀ b o u,H b=some (.frz o u)->H' b=some (.frz o u)
 tbls:∀ b ps,H b=some (.tbl ps)->∃ more,H' b=some (.tbl (ps++more))
section
variable {fs fs' ex ex':List Addr}{H H1 H2:Hp}{h h1 h2 h':Heap}{a x e:Addr}{o:HO}
theorem Un.any (u:Un fs ex H H1 h h1){b:Addr}{ob:Obj}(q:h.get? b=some ob)(n:H b=none)(hx:b∉ex):∃ sl,h1.get? b=some { ob with slots:=sl }:=by
 by_cases hb:b∈fs
 ·exact u.slot b ob q n hb hx
 ·exact ⟨ob.slots,u.keep b ob q n hb hx⟩
theorem Un.trans (a:Un fs ex H H1 h h1)(b:Un fs ex H1 H2 h1 h2):Un fs ex H H2 h h2 where
 keep:=fun c ob q n hc hx=>b.keep c ob (a.keep c ob q n hc hx) (a.free c ob q n hx) hc hx
 slot:=fun c ob q n hc hx=>by
  obtain ⟨sl,e1⟩:=a.slot c ob q n hc hx
  obtain ⟨sl',e2⟩:=b.slot c _ e1 (a.free c ob q n hx) hc hx
  exact ⟨sl',e2⟩
 free:=fun c ob q n hx=>by
  obtain ⟨o',e1⟩:=a.there c ob q hx
  exact b.free c o' e1 (a.free c ob q n hx) hx
 there:=fun c ob q hx=>by
  obtain ⟨o',e1⟩:=a.there c ob q hx
  exact b.there c o' e1 hx
 tups:=fun c xs q=>b.tups c xs (a.tups c xs q)
 frzs:=fun c ob xs q=>b.frzs c ob xs (a.frzs c ob xs q)
 tbls:=fun c ps q=>by
  obtain ⟨m1,e1⟩:=a.tbls c ps q
  obtain ⟨m2,e2⟩:=b.tbls c _ e1
  exact ⟨m1++m2,by rw [e2,Array.append_assoc]⟩
theorem Un.kept (k:∀ b u,h.get? b=some u->h'.get? b=some u):Un fs ex H H h h' :=
 ⟨fun b ob q _ _ _=>k b ob q,fun b ob q _ _ _=>⟨ob.slots,k b ob q⟩,fun _ _ _ n _=>n,fun b ob q _=>⟨ob,k b ob q⟩,fun _ _ q=>q,fun _ _ _ q=>q,fun _ ps q=>⟨#[],by rw [q];simp⟩⟩
theorem Un.refl:Un fs ex H H h h:=Un.kept fun _ _ q=>q
theorem Un.laid (k:∀ b u,h.get? b=some u->h'.get? b=some u)(hp:h.objs.size<=a)(hn:H a=none):Un fs ex H (upd H a o) h h' where
 keep:=fun b u q _ _ _=>k b u q
 slot:=fun b u q _ _ _=>⟨u.slots,k b u q⟩
 free:=fun b u q n _=>by rw [zf (Nat.ne_of_lt (Nat.lt_of_lt_of_le (Heap.lt_size q) hp))];exact n
 there:=fun b u q _=>⟨u,k b u q⟩
 tups:=fun b xs q=>by rw [zf (Qx q hn)];exact q
 frzs:=fun b u xs q=>by rw [zf (Qx q hn)];exact q
 tbls:=fun b ps q=>⟨#[],by rw [zf (Qx q hn),q];simp⟩
theorem Un.write (mu:Mut (H x))(he:e=x\/H e=some (.own x))(k:∀ b u,b≠e->h.get? b=some u->h'.get? b=some u)(heo:∃ u,h'.get? e=some u):Un fs ex H (upd H x o) h h':=by
 have hx:∀ b,H b=none->b≠x:=fun b n z=>by subst z;rw [n] at mu;exact mu
 have hb:∀ b,H b=none->b≠e:=fun b n z=>by
  subst z
  rcases he with r|r
  ·exact hx b n r
  ·rw [n] at r;cases r
 have hm:∀ b u,H b=some u->¬ Mut (some u)->b≠x:=fun b u q nm z=>by subst z;rw [q] at mu;exact nm mu
 refine ⟨fun b u q n _ _=>k b u (hb b n) q,fun b u q n _ _=>⟨u.slots,k b u (hb b n) q⟩,fun b u q n _=>by rw [zf (hx b n)];exact n,fun b u q _=>?_,
  fun b xs q=>by rw [zf (hm b _ q fun z=>z)];exact q,fun b u xs q=>by rw [zf (hm b _ q fun z=>z)];exact q,fun b ps q=>⟨#[],by rw [zf (hm b _ q fun z=>z),q];simp⟩⟩
 by_cases hbe:b=e
 ·subst hbe;exact heo
 ·exact ⟨u,k b u hbe q⟩
theorem Un.mono (u:Un fs ex H H1 h h1)(hs:∀ b∈fs,b∈fs')(hx:∀ b∈ex,b∈ex'):Un fs' ex' H H1 h h1 :=
 ⟨fun b ob q n hb he=>u.keep b ob q n (fun z=>hb (hs b z)) fun z=>he (hx b z),fun _ _ q n _ he=>u.any q n fun z=>he (hx _ z),fun b ob q n he=>u.free b ob q n fun z=>he (hx b z),fun b ob q he=>u.there b ob q fun z=>he (hx b z),u.tups,u.frzs,u.tbls⟩
end
def trk (h:Heap)(H:Hp):List Addr:=(List.range h.objs.size).filter fun a=>(H a).isSome
def hidT (h:Heap)(H:Hp):Heap:=PySem.W.hideAll h (trk h H)
theorem qcp (h:Heap)(H:Hp):(hidT h H).objs.size=h.objs.size:=PySem.W.hideAll_size _ _
theorem qdk {h:Heap}{H:Hp}{b:Addr}{o:Obj}(e:h.get? b=some o)(n:H b=none):(hidT h H).get? b=some o :=
 PySem.W.hideAll_get _ e fun hm=>by
  have q:(H b).isSome=true:=(List.mem_filter.mp hm).2
  rw [n] at q;simp at q
theorem qe7 {h:Heap}{H:Hp}{b:Addr}{o:Obj}(e:(hidT h H).get? b=some o):h.get? b=some o/\H b=none:=by
 have e':h.get? b=some o:=PySem.W.of_hideAll (trk h H) e
 refine ⟨e',?_⟩
 cases q:H b with
 | none=>rfl
 | some x =>
  have hm:b∈trk h H:=List.mem_filter.mpr ⟨List.mem_range.mpr (Heap.lt_size e'),by simp [q]⟩
  have z:(hidT h H).get? b=none:=PySem.W.hideAll_none (trk h H) hm
  rw [z] at e;cases e
def qem (g h:Heap)(L:Addr):List (Addr×Obj):=(List.range h.objs.size).filterMap fun a=>if a=L\/(g.get? a).isSome=true then none else (h.get? a).map fun o=>(a,o)
def rest (g h:Heap)(L d:Addr):List (Addr×Obj):=(qem g h L).filter fun p=>decide (p.1≠d)
end L2
namespace L2
open PySem PySem.Spec PyProof.Rows
structure Mod (K:PySem.W.Frag)(mg:Str->Option Value)(base:Heap):Prop where
 kin:K.In base
 glob:base.Ns mainGlobals mg
 blt:∃ mb,base.Ns builtinsNs mb/\∀ x:Str,x ≠ "__name__"->mb x=bootBuiltins x
 nolimit:base.NoLimit
structure Cx where
 prog:Program
 w:World
 K:PySem.W.Frag
 mg:Str->Option Value
 base:Heap
 A:Around
 N:List Str
 s₀:Shared
 H₀:Hp
 env:Env
 outer:List Env
 stack:List Env
 ex:List Addr
 fn:Str->Bool
 calm:Bool
 pn:List (Addr×Obj)
 xe:Value->Shared->Prop
def frs (l:List Env):List Addr:=l.filterMap (·.frame)
abbrev Cx.fs (X:Cx):List Addr:=frs X.outer
def Vis (sc:Scope)(x:Str):Prop:=sc.names.lookup x=some .local\/sc.names.lookup x=some .cell\/sc.names.lookup x=some .free
def Loc (sc:Scope)(x:Str):Prop:=sc.names.lookup x=some .local\/sc.names.lookup x=some .cell
def Look (env:Env)(h:Heap)(m:Str->Option Value)(x:Str)(u:Value):Prop :=
 (env.kindOf x=some .local/\m x=some u)\/((env.kindOf x=some .cell\/env.kindOf x=some .free)/\∃ c,env.cells.lookup x=some c/\h.IsCell c (some u))
structure Cx.Ok (X:Cx):Prop where
 mod:Mod X.K X.mg X.base
 kind:X.env.scope.kind=.function
 glob:X.env.globals=mainGlobals
 blt:X.env.builtins=builtinsNs
 above:X.s₀.heap.objs.size<=X.env.locals
 inj:∀ x y c,X.env.cells.lookup x=some c->X.env.cells.lookup y=some c->x=y
 has:∀ x,(X.env.kindOf x=some .cell\/X.env.kindOf x=some .free)->∃ c,X.env.cells.lookup x=some c
 cab:∀ x c,X.fn x=true->X.env.cells.lookup x=some c->X.s₀.heap.objs.size<=c
 hd:X.calm=true->X.A.handled=none
 frames:X.A.frames=some X.stack
 stk:X.stack=X.outer\/(X.stack=X.env::X.outer/\X.env.frame=some X.env.locals)
 exf:∀ b∈X.ex,b≠X.env.locals/\∀ x c,X.env.cells.lookup x=some c->c≠b
 bs:∀ b o,X.base.get? b=some o->X.s₀.heap.get? b=some o/\X.H₀ b=none
 bsz:X.base.objs.size<=X.s₀.heap.objs.size
 noex:∀ b o,X.base.get? b=some o->b∉X.ex
 exfs:∀ b∈X.ex,b∉X.fs
 funs:X.s₀.heap.FunFrames X.base X.outer
 frf:∀ b∈X.fs,X.H₀ b=none
structure Inv (X:Cx)(pins:List (Addr×Obj))(σ:List (Option V))(H:Hp)(s:Shared):Prop where
 ok:X.Ok
 os:s.os=X.s₀.os
 bare:AllBare s.gens
 base:Un X.fs X.ex X.H₀ H X.s₀.heap s.heap
 loc:∃ m,s.heap.Ns X.env.locals m/\∀ (i:Nat) (x:Str) (v:V),X.N[i]?=some x->σ[i]?=some (some v)->Vis X.env.scope x->∃ u,RelV v u/\Look X.env s.heap m x u
 cell:∀ x c,X.env.cells.lookup x=some c->∃ v,s.heap.IsCell c v
 free:H X.env.locals=none
 freeC:∀ x c,X.env.cells.lookup x=some c->H c=none
 pin:∀ p∈X.pn++pins,s.heap.get? p.1=some p.2/\H p.1=none/\p.1≠X.env.locals/\p.1∉X.fs/\∀ v,p.2.data≠.cell v
 hok:HOk X.prog X.w H s.heap
 len:σ.length=X.N.length
section
variable {X:Cx}{pins:List (Addr×Obj)}{σ:List (Option V)}{H H':Hp}{s:Shared}{h':Heap}
theorem Cx.Ok.nofr (ok:X.Ok){b:Addr}{o:Obj}(e:X.base.get? b=some o):b∉X.fs:=fun hb=>by
 have:=(ok.funs.mem hb).1
 rw [e] at this;cases this
theorem Inv.bs (I:Inv X pins σ H s):∀ b o,X.base.get? b=some o->s.heap.get? b=some o/\H b=none:=fun b o e =>
 ⟨I.base.keep b o (I.ok.bs b o e).1 (I.ok.bs b o e).2 (I.ok.nofr e) (I.ok.noex b o e),I.base.free b o (I.ok.bs b o e).1 (I.ok.bs b o e).2 (I.ok.noex b o e)⟩
theorem Inv.bk (I:Inv X pins σ H s):∀ b o,X.base.get? b=some o->s.heap.get? b=some o:=fun b o e=>(I.bs b o e).1
theorem Inv.mod (I:Inv X pins σ H s):Mod X.K X.mg X.base:=I.ok.mod
theorem Inv.kIn (I:Inv X pins σ H s):X.K.In s.heap:=I.ok.mod.kin.keeps I.bk
theorem Inv.nolimit (I:Inv X pins σ H s):s.heap.NoLimit:=I.ok.mod.nolimit.keeps I.bk
theorem Inv.fr (I:Inv X pins σ H s):∃ m,Fr X.base X.env.locals s.heap m :=
 let ⟨m,hn,_⟩:=I.loc
 ⟨m,hn,I.bk,Nat.le_trans I.ok.bsz I.ok.above⟩
theorem Inv.lt (I:Inv X pins σ H s):X.env.locals<s.heap.objs.size:=let ⟨_,hn,_⟩:=I.loc;hn.lt
theorem Inv.sz (I:Inv X pins σ H s):X.s₀.heap.objs.size<=s.heap.objs.size:=Nat.le_trans I.ok.above (Nat.le_of_lt I.lt)
theorem Inv.nofs (I:Inv X pins σ H s){a:Addr}(h:s.heap.objs.size<=a):a∉X.fs:=fun hb=>by
 obtain ⟨_,o,ho,_⟩:=I.ok.funs.mem hb
 exact absurd (Nat.lt_of_lt_of_le (Heap.lt_size ho) (Nat.le_trans I.sz h)) (Nat.lt_irrefl _)
theorem Inv.cne (I:Inv X pins σ H s):∀ x c,X.env.cells.lookup x=some c->c≠X.env.locals:=fun x c e z=>by
 obtain ⟨v,o,ho,hd⟩:=I.cell x c e
 obtain ⟨m,⟨o',es,ep,ho',hd',_⟩,_⟩:=I.loc
 rw [z,ho'] at ho;cases ho;rw [hd'] at hd;cases hd
theorem Inv.funs (I:Inv X pins σ H s):s.heap.FunFrames X.base X.outer:=by
 have all:∀ (l:List Env),(∀ b∈frs l,b∈X.fs)->X.s₀.heap.FunFrames X.base l->s.heap.FunFrames X.base l:=by
  intro l
  induction l with
  | nil=>intro _ _;trivial
  | cons env r ih =>
   intro hs hl
   obtain ⟨hk,⟨L,o,hf,hn,ho,hd⟩,hr⟩:=hl
   have hL:L∈X.fs:=hs L (by unfold frs;rw [List.filterMap_cons,hf];exact List.mem_cons_self)
   obtain ⟨sl,e⟩:=I.base.slot L o ho (I.ok.frf L hL) hL fun z=>I.ok.exfs L z hL
   exact ⟨hk,⟨L,_,hf,hn,e,hd⟩,ih (fun b hb=>hs b (by unfold frs;rw [List.filterMap_cons,hf];exact List.mem_cons_of_mem _ hb)) hr⟩
 exact all X.outer (fun _ hb=>hb) I.ok.funs
theorem Inv.stack (I:Inv X pins σ H s):s.heap.FunFrames X.base X.stack:=by
 rcases I.ok.stk with e|⟨e,hf⟩
 ·rw [e];exact I.funs
 ·rw [e]
  obtain ⟨m,hn,_⟩:=I.loc
  refine .cons (by rw [I.ok.kind];decide) hf hn ?_ I.funs
  exact Heap.get?_none_of_le (Nat.le_trans I.ok.bsz I.ok.above)
theorem Inv.stkSub (I:Inv X pins σ H s):∀ b∈frs X.stack,b∈X.env.locals::X.fs:=fun b hb=>by
 rcases I.ok.stk with e|⟨e,hf⟩
 ·rw [e] at hb;exact List.mem_cons_of_mem _ hb
 ·rw [e] at hb
  unfold frs at hb
  rw [List.filterMap_cons,hf] at hb
  exact hb
theorem Inv.stkFree (I:Inv X pins σ H s):∀ b∈frs X.stack,H b=none:=fun b hb=>by
 rcases List.mem_cons.mp (I.stkSub b hb) with e|hb
 ·rw [e];exact I.free
 ·obtain ⟨_,o,ho,_⟩:=I.ok.funs.mem hb
  exact I.base.free b o ho (I.ok.frf b hb) fun z=>I.ok.exfs b z hb
theorem Inv.step {g':Array GenState}{t':Nat}{d':Drawn}{ch:List Addr}(I:Inv X pins σ H s)
  (hch:∀ b∈ch,(b∈X.ex\/X.s₀.heap.objs.size<=b)/\b≠X.env.locals/\(∀ x c,X.env.cells.lookup x=some c->c≠b)/\∀ p∈X.pn++pins,p.1≠b)
  (keep:∀ b o,b≠X.env.locals->b∉X.fs->b∉ch->s.heap.get? b=some o->H b=none->h'.get? b=some o)
  (slot:∀ b o,b≠X.env.locals->b∈X.fs->b∉ch->s.heap.get? b=some o->H b=none->∃ sl,h'.get? b=some { o with slots:=sl }) (free:∀ b o,b∉ch->s.heap.get? b=some o->H b=none->H' b=none)
  (there:∀ b o,b∉ch->s.heap.get? b=some o->∃ o',h'.get? b=some o')
  (tups:∀ b xs,H b=some (.tup xs)->H' b=some (.tup xs)) (frzs:∀ b o u,H b=some (.frz o u)->H' b=some (.frz o u)) (tbls:∀ b ps,H b=some (.tbl ps)->∃ more,H' b=some (.tbl (ps++more)))
  (ns:∀ m,s.heap.Ns X.env.locals m->h'.Ns X.env.locals m) (hok:HOk X.prog X.w H' h') (hg:AllBare g') :
  Inv X pins σ H' { s with heap:=h',gens:=g',drawn:=d',toks:=t' }:=by
 have neL:∀ b o,X.s₀.heap.get? b=some o->b≠X.env.locals:=fun b o e=>Nat.ne_of_lt (Nat.lt_of_lt_of_le (Heap.lt_size e) I.ok.above)
 have neC:∀ b o,X.s₀.heap.get? b=some o->b∉X.ex->b∉ch:=fun b o e hx hb=>by
  rcases (hch b hb).1 with z|z
  ·exact hx z
  ·exact absurd (Nat.lt_of_lt_of_le (Heap.lt_size e) z) (Nat.lt_irrefl _)
 have cellK:∀ x c,X.env.cells.lookup x=some c->∀ v,s.heap.IsCell c v->h'.IsCell c v:=fun x c e v ⟨o,ho,hd⟩=>by
  have nch:c∉ch:=fun z=>(hch c z).2.2.1 x c e rfl
  by_cases hc:c∈X.fs
  ·obtain ⟨sl,q⟩:=slot c o (I.cne x c e) hc nch ho (I.freeC x c e)
   exact ⟨_,q,hd⟩
  ·exact ⟨o,keep c o (I.cne x c e) hc nch ho (I.freeC x c e),hd⟩
 refine ⟨I.ok,I.os,hg,⟨fun b o e n hb hx=>?_,fun b o e n hb hx=>?_,fun b o e n hx=>?_,fun b o e hx=>?_,fun b xs e=>tups b xs (I.base.tups b xs e),fun b o xs e=>frzs b o xs (I.base.frzs b o xs e),fun b ps e=>?_⟩,?_,fun x c e=>?_,?_,fun x c e=>?_,fun p hp=>?_,hok,I.len⟩
 ·exact keep b o (neL b o e) hb (neC b o e hx) (I.base.keep b o e n hb hx) (I.base.free b o e n hx)
 ·obtain ⟨sl,e1⟩:=I.base.slot b o e n hb hx
  obtain ⟨sl',e2⟩:=slot b _ (neL b o e) hb (neC b o e hx) e1 (I.base.free b o e n hx)
  exact ⟨sl',e2⟩
 ·obtain ⟨o',e1⟩:=I.base.there b o e hx
  exact free b o' (neC b o e hx) e1 (I.base.free b o e n hx)
 ·obtain ⟨o',e1⟩:=I.base.there b o e hx
  exact there b o' (neC b o e hx) e1
 ·obtain ⟨m1,e1⟩:=I.base.tbls b ps e
  obtain ⟨m2,e2⟩:=tbls b _ e1
  exact ⟨m1++m2,by rw [e2,Array.append_assoc]⟩
 ·obtain ⟨m,hn,hl⟩:=I.loc
  refine ⟨m,ns m hn,fun i x v e1 e2 e3=>?_⟩
  obtain ⟨u,r,l⟩:=hl i x v e1 e2 e3
  refine ⟨u,r,?_⟩
  rcases l with l|⟨k,c,e,z⟩
  ·exact .inl l
  ·exact .inr ⟨k,c,e,cellK x c e _ z⟩
 ·obtain ⟨v,z⟩:=I.cell x c e
  exact ⟨v,cellK x c e v z⟩
 ·obtain ⟨m,⟨o,_,_,ho,_⟩,_⟩:=I.loc
  exact free _ o (fun z=>(hch _ z).2.1 rfl) ho I.free
 ·obtain ⟨v,o,ho,hd⟩:=I.cell x c e
  exact free c o (fun z=>(hch c z).2.2.1 x c e rfl) ho (I.freeC x c e)
 ·obtain ⟨e,n,ne,nf,d⟩:=I.pin p hp
  have nch:p.1∉ch:=fun z=>(hch p.1 z).2.2.2 p hp rfl
  exact ⟨keep p.1 p.2 ne nf nch e n,free p.1 p.2 nch e n,ne,nf,d⟩
theorem Inv.un {t':Nat}(I:Inv X pins σ H s)(u:Un X.fs [] H H' s.heap h')(hok:HOk X.prog X.w H' h'):Inv X pins σ H' { s with heap:=h',toks:=t' }:=by
 obtain ⟨m,⟨o,es,ep,ho,r⟩,_⟩:=id I.loc
 obtain ⟨sl,hL⟩:=u.any ho I.free (by simp)
 exact I.step (g':=s.gens) (d':=s.drawn) (ch:=[]) (fun _ z=>nomatch z) (fun b o _ hb _ e n=>u.keep b o e n hb (by simp)) (fun b o _ hb _ e n=>u.slot b o e n hb (by simp)) (fun b o _ e n=>u.free b o e n (by simp)) (fun b o _ e=>u.there b o e (by simp)) u.tups u.frzs u.tbls (fun m' hm=>by
  obtain ⟨o',es',ep',ho',r'⟩:=hm
  rw [ho] at ho';cases ho'
  exact ⟨_,es',ep',hL,r'⟩) hok I.bare
theorem Inv.call {g':Array GenState}{t':Nat}{d':Drawn}{ch:List Addr}(I:Inv X pins σ H s)(u:Un (frs X.stack) ch H H' s.heap h')(hok:HOk X.prog X.w H' h')(hg:AllBare g')
  (hch:∀ b∈ch,(b∈X.ex\/X.s₀.heap.objs.size<=b)/\b≠X.env.locals/\(∀ x c,X.env.cells.lookup x=some c->c≠b)/\∀ p∈X.pn++pins,p.1≠b) :
  Inv X pins σ H' { s with heap:=h',gens:=g',drawn:=d',toks:=t' }:=by
 obtain ⟨m,⟨o,es,ep,ho,r⟩,_⟩:=id I.loc
 obtain ⟨sl,hL⟩:=u.any ho I.free fun z=>(hch _ z).2.1 rfl
 exact I.step (ch:=ch) hch (fun b o hL hb hc e n=>u.keep b o e n (fun z=>(List.mem_cons.mp (I.stkSub b z)).elim hL hb) hc) (fun b o _ _ hc e n=>u.any e n hc) (fun b o hc e n=>u.free b o e n hc) (fun b o hc e=>u.there b o e hc) u.tups u.frzs u.tbls (fun m' hm=>by
  obtain ⟨o',es',ep',ho',r'⟩:=hm
  rw [ho] at ho';cases ho'
  exact ⟨_,es',ep',hL,r'⟩) hok hg
theorem Inv.turned {t':Nat}{it:Addr}(I:Inv X pins σ H s)(k:∀ b o,b≠it->s.heap.get? b=some o->h'.get? b=some o)(hn:H it=none)(hL:it≠X.env.locals)
  (h1:it∈X.ex\/X.s₀.heap.objs.size<=it) (h2:∀ x c,X.env.cells.lookup x=some c->c≠it) (h3:∀ p∈X.pn++pins,p.1≠it):Inv X pins σ H { s with heap:=h',toks:=t' }:=by
 have nit:∀ b u,H b=some u->b≠it:=fun b u e z=>by rw [z,hn] at e;cases e
 refine I.step (g':=s.gens) (d':=s.drawn) (ch:=[it]) (fun b hb=>?_) (fun b o _ _ hc e _=>k b o (fun z=>hc (by simp [z])) e) (fun b o _ _ hc e _=>⟨o.slots,k b o (fun z=>hc (by simp [z])) e⟩) (fun _ _ _ _ n=>n)
  (fun b o hc e=>⟨o,k b o (fun z=>hc (by simp [z])) e⟩) (fun _ _ e=>e) (fun _ _ _ e=>e) (fun b ps e=>⟨#[],by rw [e];simp⟩) (fun m hm=>?_) (fun b u e=>?_) I.bare
 ·have e:b=it:=by simpa using hb
  subst e
  exact ⟨h1,hL,h2,h3⟩
 ·obtain ⟨o,es,ep,ho,r⟩:=hm
  exact ⟨o,es,ep,k _ o (Ne.symm hL) ho,r⟩
 ·refine (I.hok b u e).stay (fun c v hc q=>k c v ?_ q) (fun _ q=>q) fun _ _ q=>q
  rcases hc with z|z
  ·rw [z];exact nit b u e
  ·exact nit c _ z
theorem Inv.tok (I:Inv X pins σ H s)(t:Nat):Inv X pins σ H { s with toks:=t }:=I.un (h':=s.heap) (t':=t) Un.refl I.hok
theorem Inv.kept {t':Nat}(I:Inv X pins σ H s)(k:∀ b u,s.heap.get? b=some u->h'.get? b=some u):Inv X pins σ H { s with heap:=h',toks:=t' }:=I.un (Un.kept k) (I.hok.kept k)
theorem Inv.laid {a:Addr}{o:HO}{t':Nat}(I:Inv X pins σ H s)(k:∀ b u,s.heap.get? b=some u->h'.get? b=some u)(hp:s.heap.objs.size<=a)(new:Ze X.prog X.w (upd H a o) h' a o) :
  Inv X pins σ (upd H a o) { s with heap:=h',toks:=t' }:=I.un (Un.laid k hp (I.hok.fresh hp)) (I.hok.laid k hp new)
theorem Inv.write {x e:Addr}{o:HO}{t':Nat}(I:Inv X pins σ H s)(mu:Mut (H x))(he:e=x\/H e=some (.own x))(k:∀ b u,b≠e->s.heap.get? b=some u->h'.get? b=some u)(heo:∃ u,h'.get? e=some u)
  (new:Ze X.prog X.w (upd H x o) h' x o):Inv X pins σ (upd H x o) { s with heap:=h',toks:=t' }:=I.un (Un.write mu he k heo) (I.hok.write mu he k heo new)
theorem Inv.weak {σ':List (Option V)}(I:Inv X pins σ H s)(hl:σ'.length=σ.length)(w:∀ (i:Nat) v,σ'[i]?=some (some v)->σ[i]?=some (some v)):Inv X pins σ' H s :=
 ⟨I.ok,I.os,I.bare,I.base,let ⟨m,hn,hl'⟩:=I.loc;⟨m,hn,fun i x v e1 e2 e3=>hl' i x v e1 (w i v e2) e3⟩,I.cell,I.free,I.freeC,I.pin,I.hok,hl.trans I.len⟩
theorem Inv.pins_of {pins':List (Addr×Obj)}(I:Inv X pins σ H s)(h:∀ p∈pins',s.heap.get? p.1=some p.2/\H p.1=none/\p.1≠X.env.locals/\p.1∉X.fs/\∀ v,p.2.data≠.cell v):Inv X pins' σ H s :=
 ⟨I.ok,I.os,I.bare,I.base,I.loc,I.cell,I.free,I.freeC,fun p hp=>(List.mem_append.mp hp).elim (fun z=>I.pin p (List.mem_append_left _ z)) (h p),I.hok,I.len⟩
theorem qaQ {N:List Str}(hN:N.Nodup){i j:Nat}{x:Str}(a:N[i]?=some x)(b:N[j]?=some x):i=j:=by
 obtain ⟨h1,e1⟩:=List.getElem?_eq_some_iff.mp a
 obtain ⟨h2,e2⟩:=List.getElem?_eq_some_iff.mp b
 exact (List.getElem_inj hN).mp (e1.trans e2.symm)
theorem We {M:Model}{A:Around}{E:Value->Shared->Prop}{i:Nat}{x:Str}{v:V}{u:Value}{Q:Unit->Shared->Prop}(I:Inv X pins σ H s)(hN:X.N.Nodup)(hi:X.N[i]?=some x)(hx:Loc X.env.scope x)(r:RelV v u)
  (h:∀ s',Inv X pins (σ.set i (some v)) H s'->(∃ a,Heap.SameBut a s.heap s'.heap/\(a=X.env.locals\/X.env.cells.lookup x=some a))->Q () s') (hf:X.fn x=true\/X.env.scope.names.lookup x=some .local:=by first|exact .inl rfl|exact .inr rfl|assumption):wpAny M A (storeName X.env x u) Q E s:=by
 obtain ⟨m,hn,hl⟩:=id I.loc
 have hcls:(X.env.scope.kind==.class||(X.env.scope.kind==.module&&X.env.locals != X.env.globals))=false:=by rw [I.ok.kind];rfl
 have hiσ:i<σ.length:=by rw [I.len];exact (List.getElem?_eq_some_iff.mp hi).1
 have cne:=I.cne
 have tracked:∀ {a:Addr} {h':Heap},(∃ o,s.heap.get? a=some o/\H a=none)->Heap.SameBut a s.heap h'->HOk X.prog X.w H h':=fun {a h'} ha hs b ob e=>by
  obtain ⟨_,_,hfree⟩:=ha
  refine (I.hok b ob e).stay (fun c w' hc q=>(hs.2 c ?_).trans q) (fun _ q=>q) fun _ _ q=>q
  rintro rfl
  rcases hc with rfl|hc
  ·rw [hfree] at e;cases e
  ·rw [hfree] at hc;cases hc
 rcases hx with hk|hk
 ·refine wpAny_storeName_local hk hn (fun h' hn' hs=>?_) hcls
  obtain ⟨oL,_,_,hoL,_⟩:=id hn
  refine h _ ⟨I.ok,I.os,I.bare,⟨fun b o e n hb hx=>?_,fun b o e n hb hx=>?_,I.base.free,fun b o e hx=>?_,I.base.tups,I.base.frzs,I.base.tbls⟩,⟨_,hn',fun j y v' e1 e2 e3=>?_⟩,fun y c e=>?_,I.free,I.freeC,fun p hp=>?_,tracked ⟨oL,hoL,I.free⟩ hs,by simpa using I.len⟩ ⟨_,hs,.inl rfl⟩
  ·exact (hs.2 b (Nat.ne_of_lt (Nat.lt_of_lt_of_le (Heap.lt_size e) I.ok.above))).trans (I.base.keep b o e n hb hx)
  ·obtain ⟨sl,e1⟩:=I.base.slot b o e n hb hx
   exact ⟨sl,(hs.2 b (Nat.ne_of_lt (Nat.lt_of_lt_of_le (Heap.lt_size e) I.ok.above))).trans e1⟩
  ·obtain ⟨o',e1⟩:=I.base.there b o e hx
   exact ⟨o',(hs.2 b (Nat.ne_of_lt (Nat.lt_of_lt_of_le (Heap.lt_size e) I.ok.above))).trans e1⟩
  ·by_cases hj:j=i
   ·subst hj
    rw [hi] at e1;cases e1
    rw [List.getElem?_set_self hiσ] at e2
    cases e2
    exact ⟨u,r,.inl ⟨hk,by simp⟩⟩
   ·rw [List.getElem?_set_ne (Ne.symm hj)] at e2
    obtain ⟨u',r',q⟩:=hl j y v' e1 e2 e3
    refine ⟨u',r',?_⟩
    rcases q with ⟨k,e⟩|⟨k,c,e,z⟩
    ·refine .inl ⟨k,?_⟩
     have:y≠x:=fun e=>hj (qaQ hN e1 (e ▸ hi))
     simp [this,e]
    ·exact .inr ⟨k,c,e,z.sameBut hs (cne y c e)⟩
  ·obtain ⟨w',z⟩:=I.cell y c e
   exact ⟨w',z.sameBut hs (cne y c e)⟩
  ·obtain ⟨e,n,ne,nf,d⟩:=I.pin p hp
   exact ⟨(hs.2 p.1 ne).trans e,n,ne,nf,d⟩
 ·have hfn:X.fn x=true:=by
   rcases hf with z|z
   ·exact z
   ·rw [z] at hk;cases hk
  obtain ⟨c,hc⟩:=I.ok.has x (.inl hk)
  obtain ⟨w',z⟩:=I.cell x c hc
  refine wpAny_storeName_cell I.ok.kind hk hc z (fun h' hc' hs=>?_)
  obtain ⟨oc,hoc,hocd⟩:=id z
  refine h { s with heap:=h' } ⟨I.ok,I.os,I.bare,⟨fun b o e n hb hx=>?_,fun b o e n hb hx=>?_,I.base.free,fun b o e hx=>?_,I.base.tups,I.base.frzs,I.base.tbls⟩,⟨m,hn.sameBut hs (Ne.symm (cne x c hc)),fun j y v' e1 e2 e3=>?_⟩,fun y c' e=>?_,I.free,I.freeC,fun p hp=>?_,tracked ⟨oc,hoc,I.freeC x c hc⟩ hs,by simpa using I.len⟩ ⟨c,hs,.inr hc⟩
  ·exact (hs.2 b (Nat.ne_of_lt (Nat.lt_of_lt_of_le (Heap.lt_size e) (I.ok.cab x c hfn hc)))).trans (I.base.keep b o e n hb hx)
  ·obtain ⟨sl,e1⟩:=I.base.slot b o e n hb hx
   exact ⟨sl,(hs.2 b (Nat.ne_of_lt (Nat.lt_of_lt_of_le (Heap.lt_size e) (I.ok.cab x c hfn hc)))).trans e1⟩
  ·obtain ⟨o',e1⟩:=I.base.there b o e hx
   exact ⟨o',(hs.2 b (Nat.ne_of_lt (Nat.lt_of_lt_of_le (Heap.lt_size e) (I.ok.cab x c hfn hc)))).trans e1⟩
  ·by_cases hj:j=i
   ·subst hj
    rw [hi] at e1;cases e1
    rw [List.getElem?_set_self hiσ] at e2
    cases e2
    exact ⟨u,r,.inr ⟨.inl hk,c,hc,hc'⟩⟩
   ·rw [List.getElem?_set_ne (Ne.symm hj)] at e2
    obtain ⟨u',r',q⟩:=hl j y v' e1 e2 e3
    refine ⟨u',r',?_⟩
    rcases q with q|⟨k,c',e,z'⟩
    ·exact .inl q
    ·refine .inr ⟨k,c',e,z'.sameBut hs ?_⟩
     rintro rfl
     exact hj (qaQ hN e1 (I.ok.inj _ _ _ e hc ▸ hi))
  ·by_cases hcc:c'=c
   ·subst hcc;exact ⟨_,hc'⟩
   ·obtain ⟨w2,z2⟩:=I.cell y c' e
    exact ⟨w2,z2.sameBut hs hcc⟩
  ·obtain ⟨e,n,ne,nf,d⟩:=I.pin p hp
   refine ⟨(hs.2 p.1 ?_).trans e,n,ne,nf,d⟩
   intro q
   rw [q,hoc] at e
   have q':oc=p.2:=Option.some.inj e
   exact d w' (by rw [← q'];exact hocd)
theorem qa5 {M:Model}{A:Around}{E:Value->Shared->Prop}{i:Nat}{x:Str}{v:V}{u:Value}{Q:Unit->Shared->Prop}(I:Inv X pins σ H s)(hN:X.N.Nodup)(hi:X.N[i]?=some x)(hx:Loc X.env.scope x)(r:RelV v u)
  (h:∀ s',Inv X pins (σ.set i (some v)) H s'->Q () s') (hf:X.fn x=true\/X.env.scope.names.lookup x=some .local:=by first|exact .inl rfl|exact .inr rfl|assumption):wpAny M A (storeName X.env x u) Q E s :=
 We I hN hi hx r (fun s' I' _=>h s' I') hf
theorem Inv.call' {s':Shared}{ch:List Addr}(I:Inv X pins σ H s)(ho:s'.os=s.os)(u:Un (frs X.stack) ch H H' s.heap s'.heap)(hok:HOk X.prog X.w H' s'.heap)(hg:AllBare s'.gens)
  (hch:∀ b∈ch,(b∈X.ex\/X.s₀.heap.objs.size<=b)/\b≠X.env.locals/\(∀ x c,X.env.cells.lookup x=some c->c≠b)/\∀ p∈X.pn++pins,p.1≠b):Inv X pins σ H' s':=by
 obtain ⟨h',g',d',t',o'⟩:=s'
 have e:o'=s.os:=ho
 subst e
 exact I.call (g':=g') (t':=t') (d':=d') u hok hg hch
end
abbrev XK:=Value->Option Addr->Hp->Prop
abbrev St:=List (Option V)
abbrev VK:=V->Hp->Prop
abbrev TE:=St->Hp->VK->Prop
abbrev TT:=St->Hp->(Bool->Hp->Prop)->Prop
abbrev TA:=St->Hp->(List V->Hp->Prop)->Prop
structure Ends where
 nx:St->Hp->Prop
 rt:VK
 bk:St->Hp->Prop:=fun _ _=>False
 ct:St->Hp->Prop:=fun _ _=>False
abbrev TS:=Ends->St->Hp->Prop
def EP (X:Cx)(pins:List (Addr×Obj))(σ:St)(Q:VK)(u:Value)(s':Shared):Prop:=∃ v H',Inv X pins σ H' s'/\RelV v u/\Q v H'
def TP (X:Cx)(pins:List (Addr×Obj))(σ:St)(Q:Bool->Hp->Prop)(b:Bool)(s':Shared):Prop:=∃ H',Inv X pins σ H' s'/\Q b H'
def AP (X:Cx)(pins:List (Addr×Obj))(σ:St)(Q:List V->Hp->Prop)(us:List Value)(s':Shared):Prop:=∃ vs H',Inv X pins σ H' s'/\Vals vs us/\Q vs H'
def SP (X:Cx)(pins:List (Addr×Obj))(D:Ends)(f:Flow)(s':Shared):Prop :=
 match f with
 | .next=>∃ σ' H',Inv X pins σ' H' s'/\D.nx σ' H'
 | .brk=>∃ σ' H',Inv X pins σ' H' s'/\D.bk σ' H'
 | .cont=>∃ σ' H',Inv X pins σ' H' s'/\D.ct σ' H'
 | .ret u=>∃ v σ' H',Inv X pins σ' H' s'/\RelV v u/\D.rt v H'
def PE (X:Cx)(e:Expr)(t:TE):Prop :=
 ∀ (pins:List (Addr×Obj)) (s:Shared) (σ:St) (H:Hp) (Q:VK),Inv X pins σ H s->t σ H Q->wpAny (model X.prog X.w) X.A (eval e X.env) (EP X pins σ Q) X.xe s
def PT (X:Cx)(e:Expr)(t:TT):Prop :=
 ∀ (pins:List (Addr×Obj)) (s:Shared) (σ:St) (H:Hp) (Q:Bool->Hp->Prop),Inv X pins σ H s->t σ H Q->wpAny (model X.prog X.w) X.A (isTrue e X.env (eval e X.env)) (TP X pins σ Q) X.xe s
def PW (X:Cx)(e:Expr)(t:TT):Prop :=
 ∀ (whole:Sem Value) (pins:List (Addr×Obj)) (s:Shared) (σ:St) (H:Hp) (Q:Bool->Hp->Prop),Inv X pins σ H s->t σ H Q->wpAny (model X.prog X.w) X.A (isTrue e X.env whole) (TP X pins σ Q) X.xe s
theorem PW.pt {X:Cx}{e:Expr}{t:TT}(h:PW X e t):PT X e t:=h _
def PA (X:Cx)(es:List Expr)(t:TA):Prop :=
 ∀ (pos:Pos) (pins:List (Addr×Obj)) (s:Shared) (σ:St) (H:Hp) (Q:List V->Hp->Prop),Inv X pins σ H s->t σ H Q->wpAny (model X.prog X.w) X.A (spliced (backTo pos (starEach es X.env))) (AP X pins σ Q) X.xe s
def PS (X:Cx)(st:Stmt)(t:TS):Prop :=
 ∀ (pins:List (Addr×Obj)) (s:Shared) (σ:St) (H:Hp) (D:Ends),Inv X pins σ H s->t D σ H->wpAny (model X.prog X.w) X.A (exec st X.env) (SP X pins D) X.xe s
def PSs (X:Cx)(st:List Stmt)(t:TS):Prop :=
 ∀ (pins:List (Addr×Obj)) (s:Shared) (σ:St) (H:Hp) (D:Ends),Inv X pins σ H s->t D σ H->wpAny (model X.prog X.w) X.A (execs st X.env) (SP X pins D) X.xe s
theorem thn {α:Type}{t:Sem α}{Q Q':α->Shared->Prop}{M:Model}{A:Around}{E:Value->Shared->Prop}{s:Shared}(h:wpAny M A t Q E s)(hQ:∀ a s,Q a s->Q' a s):wpAny M A t Q' E s:=wpAny_mono h hQ fun _ _ x=>x
end L2
namespace L2
open PySem PySem.Spec PyProof.Rows
section
variable {X:Cx}
def tVar (i:Nat):TE:=fun σ H Q=>∃ v,σ[i]?=some (some v)/\Q v H
def tC (v:V):TE:=fun _ H Q=>Q v H
theorem qdV {i:Nat}{x:Str}{pos:Pos}(hN:X.N[i]?=some x)(hv:Vis X.env.scope x)(hd:(x==("__debug__" : Str))=false:=by decide)(hcd:(x==("__classdict__" : Str))=false:=by decide):PE X (.Name x pos) (tVar i):=by
 intro pins s σ H Q I h
 obtain ⟨v,e,h⟩:=h
 obtain ⟨m,hn,hl⟩:=I.loc
 obtain ⟨u,r,l⟩:=hl i x v hN e hv
 have fin:EP X pins σ Q u s:=⟨v,H,I,r,h⟩
 rcases l with ⟨hk,hm⟩|⟨hk,c,hc,hcell⟩
 ·exact wpAny_Name (wpAny_loadName_local I.ok.kind hk hn hm fin) hd
 ·rcases hk with hk|hk
  ·exact wpAny_Name (wpAny_loadName_cell I.ok.kind hk hc hcell fin) hd
  ·exact wpAny_Name (wpAny_loadName_free I.ok.kind hk hc hcell fin hcd) hd
theorem qg6 {i j pos}:PE X (.Constant (.int i) j pos) (tC (.int i)):=fun _ _ _ H _ I h=>wpAny_Constant_int ⟨.int i,H,I.tok _,⟨_,rfl⟩,h⟩
theorem pe_bl {b j pos}:PE X (.Constant (.bool b) j pos) (tC (.bl b)):=fun _ _ _ H _ I h=>Constant_bool ⟨.bl b,H,I,rfl,h⟩
theorem qg7 {j pos}:PE X (.Constant .none j pos) (tC .non):=fun _ _ _ H _ I h=>Constant_none ⟨.non,H,I,rfl,h⟩
theorem qhb {x j pos}:PE X (.Constant (.str x) j pos) (tC (.str x)):=fun _ _ _ H _ I h=>Calls.Constant_str ⟨.str x,H,I.tok _,⟨_,rfl⟩,h⟩
def Gl (X:Cx)(x:Str):Prop:=X.env.kindOf x=some .globalImplicit
theorem W0 {E:Value->Shared->Prop}{pins:List (Addr×Obj)}{s:Shared}{σ:St}{H:Hp}{x:Str}{u:Value}{pos:Pos}{Q:Value->Shared->Prop}(I:Inv X pins σ H s)(hg:Gl X x)(hm:X.mg x=some u)(h:Q u s)
  (hd:(x==("__debug__" : Str))=false:=by decide):wpAny (model X.prog X.w) X.A (eval (.Name x pos) X.env) Q E s :=
 Calls.Name_function_global I.ok.kind hg (Calls.loadGlobal_global (by rw [I.ok.glob];exact I.mod.glob.keeps I.bk) hm h) hd
theorem YH {E:Value->Shared->Prop}{pins:List (Addr×Obj)}{s:Shared}{σ:St}{H:Hp}{x:Str}{u:Value}{pos:Pos}{Q:Value->Shared->Prop}(I:Inv X pins σ H s)(hg:Gl X x)(hm:X.mg x=none)(hv:bootBuiltins x=some u)(h:Q u s)
  (hn:x ≠ "__name__" := by decide) (hd:(x==("__debug__" : Str))=false:=by decide):wpAny (model X.prog X.w) X.A (eval (.Name x pos) X.env) Q E s:=by
 obtain ⟨mb,h1,h2⟩:=I.mod.blt
 exact Calls.Name_function_global I.ok.kind hg (Calls.loadGlobal_builtin (by rw [I.ok.glob];exact I.mod.glob.keeps I.bk) hm (by rw [I.ok.blt];exact h1.keeps I.bk) ((h2 x hn).trans hv) h) hd
theorem qfm {x:Str}{v:V}{u:Value}{pos:Pos}(hg:Gl X x)(hm:X.mg x=some u)(r:RelV v u)(hd:(x==("__debug__" : Str))=false:=by decide):PE X (.Name x pos) (tC v) :=
 fun _ _ _ H _ I h=>W0 I hg hm ⟨v,H,I,r,h⟩ hd
theorem qfj {x:Str}{v:V}{u:Value}{pos:Pos}(hg:Gl X x)(hm:X.mg x=none)(hv:bootBuiltins x=some u)(r:RelV v u)(hn:x ≠ "__name__" := by decide)(hd:(x==("__debug__" : Str))=false:=by decide):PE X (.Name x pos) (tC v) :=
 fun _ _ _ H _ I h=>YH I hg hm hv ⟨v,H,I,r,h⟩ hn hd
variable {a b:Expr}{ta tb:TE}{pos:Pos}
def tB (t:TE):TT:=fun σ H Q=>t σ H fun x H1=>∃ c,x=.bl c/\Q c H1
theorem qhm {e:Expr}{t:TE}(h:PE X e t)(he:∀ whole,isTrue e X.env whole=(do let v ← whole;standAt e.pos;holding [v] (truthy v)):=by intro _;rfl):PT X e (tB t):=by
 intro pins s σ H Q I hw
 refine isTrue_plain (thn (h pins s σ H _ I hw) fun v s1 ⟨x,H1,I1,r1,q1⟩=>?_) (he _)
 obtain ⟨d,rfl,q⟩:=q1
 cases r1
 exact wpAny_truthy_bool ⟨H1,I1,q⟩
variable {tA tB':TT}{rest:List Expr}
def tAnd (t u:TT):TT:=fun σ H Q=>t σ H fun c H1=>if c=true then u σ H1 Q else Q false H1
def tOr (t u:TT):TT:=fun σ H Q=>t σ H fun c H1=>if c=true then Q true H1 else u σ H1 Q
def tNot (t:TT):TT:=fun σ H Q=>t σ H fun c H1=>Q (!c) H1
theorem qfu (ha:PT X a tA):PW X (.BoolOp .And [a] pos) tA:=by
 intro wh pins s σ H Q I h
 refine isTrue_and (thn (ha pins s σ H Q I h) fun c s1 e=>?_)
 cases c with
 | true=>exact isTrue_and_nil e
 | false=>exact e
theorem qhp (ha:PT X a tA):PW X (.BoolOp .Or [a] pos) tA:=by
 intro wh pins s σ H Q I h
 refine isTrue_or (thn (ha pins s σ H Q I h) fun c s1 e=>?_)
 cases c with
 | false=>exact isTrue_or_nil e
 | true=>exact e
theorem qho (ha:PT X a tA)(hb:PW X (.BoolOp .And (b::rest) pos) tB'):PW X (.BoolOp .And (a::b::rest) pos) (tAnd tA tB'):=by
 intro wh pins s σ H Q I h
 refine isTrue_and (thn (ha pins s σ H _ I h) fun c s1 ⟨H1,I1,q1⟩=>?_)
 cases c with
 | true=>exact hb wh pins s1 σ H1 Q I1 q1
 | false=>exact ⟨H1,I1,q1⟩
theorem pw_or (ha:PT X a tA)(hb:PW X (.BoolOp .Or (b::rest) pos) tB'):PW X (.BoolOp .Or (a::b::rest) pos) (tOr tA tB'):=by
 intro wh pins s σ H Q I h
 refine isTrue_or (thn (ha pins s σ H _ I h) fun c s1 ⟨H1,I1,q1⟩=>?_)
 cases c with
 | true=>exact ⟨H1,I1,q1⟩
 | false=>exact hb wh pins s1 σ H1 Q I1 q1
theorem qhl (ha:PT X a tA):PT X (.UnaryOp .Not a pos) (tNot tA):=by
 intro pins s σ H Q I h
 exact isTrue_not (ha pins s σ H (fun c H1=>Q (!c) H1) I h)
def tAndV (ta tb:TE):TE:=fun σ H Q=>ta σ H fun x H1=>∃ c,x=.bl c/\if c=true then tb σ H1 Q else Q (.bl false) H1
def tNotV (ta:TE):TE:=fun σ H Q=>ta σ H fun x H1=>∃ c,x=.bl c/\Q (.bl (!c)) H1
theorem qg9 {op}{t:TE}(h:PE X a t):PE X (.BoolOp op [a] pos) t:=fun pins s σ H Q I hw=>BoolOp_one (h pins s σ H Q I hw)
theorem qg5 (ha:PE X a ta)(hb:PE X (.BoolOp .And (b::rest) pos) tb):PE X (.BoolOp .And (a::b::rest) pos) (tAndV ta tb):=by
 intro pins s σ H Q I h
 refine BoolOp_and (thn (ha pins s σ H _ I h) fun v s1 ⟨x,H1,I1,r1,q1⟩=>?_)
 obtain ⟨c,rfl,q1⟩:=q1
 cases r1
 refine wpAny_truthy_bool ?_
 cases c with
 | true=>exact hb pins s1 σ H1 Q I1 q1
 | false=>exact ⟨.bl false,H1,I1,rfl,q1⟩
theorem qg8 (ha:PE X a ta):PE X (.UnaryOp .Not a pos) (tNotV ta):=by
 intro pins s σ H Q I h
 refine UnaryOp_ (thn (ha pins s σ H _ I h) fun v s1 ⟨x,H1,I1,r1,q1⟩=>?_)
 obtain ⟨c,rfl,q1⟩:=q1
 cases r1
 exact not_of (wpAny_truthy_bool ⟨.bl (!c),H1,I1,rfl,q1⟩)
def tIf (t:TT)(ta tb:TE):TE:=fun σ H Q=>t σ H fun c H1=>if c=true then ta σ H1 Q else tb σ H1 Q
theorem qdT {c:Expr}(hc:PT X c tA)(ha:PE X a ta)(hb:PE X b tb):PE X (.IfExp c a b pos) (tIf tA ta tb):=by
 intro pins s σ H Q I h
 refine wpAny_IfExp (thn (hc pins s σ H _ I h) fun d s1 ⟨H1,I1,q1⟩=>?_)
 cases d with
 | true=>exact ha pins s1 σ H1 Q I1 q1
 | false=>exact hb pins s1 σ H1 Q I1 q1
end
end L2
namespace L2
open PySem PySem.Spec PyProof.Rows
def SqL (K:PySem.W.Frag)(H:Hp)(a:Addr)(xs:List V):Prop :=
 Rd H a (.lst xs)\/
  ∃ (o:Obj) (its:Array Value) (n:Nat),K.lookup a=some o/\o.cls=.type "list"/\o.dict=none/\o.data=.seq its n/\its.size<=sizeLine/\Vals xs its.toList
def SqT (K:PySem.W.Frag)(H:Hp)(a:Addr)(xs:List V):Prop :=
 Rd H a (.tup xs)\/
  ∃ (o:Obj) (its:Array Value) (n:Nat),K.lookup a=some o/\o.cls=.type "tuple"/\o.data=.seq its n/\its.size<=sizeLine/\Vals xs its.toList
def absV:Value->Option V
 | .none=>some .non
 | .bool b=>some (.bl b)
 | .int i _=>some (.int i)
 | .str x _=>some (.str x)
 | .bytes b _=>some (.byt b)
 | .float b _=>some (.flt b)
 | .ref a=>some (.ref a)
 | .type n=>some (.ty n)
 | _=>none
theorem RelV.abs {x:V}{u:Value}(r:RelV x u):absV u=some x:=by
 cases x with
 | non=>cases r;rfl
 | bl _=>cases r;rfl
 | int _=>obtain ⟨t,rfl⟩:=r;rfl
 | str _=>obtain ⟨t,rfl⟩:=r;rfl
 | byt _=>obtain ⟨t,rfl⟩:=r;rfl
 | flt _=>obtain ⟨t,rfl⟩:=r;rfl
 | ref _=>cases r;rfl
 | ty _=>cases r;rfl
theorem RelV.inj {x y:V}{u:Value}(r:RelV x u)(q:RelV y u):x=y:=Option.some.inj (r.abs.symm.trans q.abs)
theorem Vals.inj:∀ {xs ys:List V} {us:List Value},Vals xs us->Vals ys us->xs=ys
 | _,_,_,.nil,.nil=>rfl
 | _,_,_,.cons r t,.cons r' t'=>by rw [r.inj r',Vals.inj t t']
section
variable {X:Cx}{pins:List (Addr×Obj)}{σ:St}{H:Hp}{s:Shared}{a:Addr}{xs ys:List V}
theorem SqL.of {K:PySem.W.Frag}(h:H a=some (.lst xs)):SqL K H a xs:=.inl (.inl h)
theorem SqT.of {K:PySem.W.Frag}(h:H a=some (.tup xs)):SqT K H a xs:=.inl (.inl h)
theorem Inv.list (I:Inv X pins σ H s)(h:SqL X.K H a xs):∃ its:List Value,Vals xs its/\PlainL s.heap a its.toArray/\xs.length<=sizeLine:=by
 rcases h with h|⟨o,its,n,hk,hc,hd,hs,hz,r⟩
 ·obtain ⟨z,its,n,r,e⟩:=h.ok I.hok
  exact ⟨its,r,⟨_,n,e,rfl,rfl,rfl⟩,z⟩
 ·refine ⟨its.toList,r,⟨o,n,I.kIn a o hk,hc,hd,by simpa using hs⟩,?_⟩
  have e:=r.length
  simp only [Array.length_toList] at e
  omega
theorem Inv.tuple (I:Inv X pins σ H s)(h:SqT X.K H a xs):∃ its:List Value,Vals xs its/\IsTup s.heap a its.toArray/\xs.length<=sizeLine:=by
 rcases h with h|⟨o,its,n,hk,hc,hs,hz,r⟩
 ·obtain ⟨z,its,r,p⟩:=h.ok I.hok
  exact ⟨its,r,p,z⟩
 ·refine ⟨its.toList,r,⟨o,I.kIn a o hk,hc,n,by simpa using hs⟩,?_⟩
  have e:=r.length
  simp only [Array.length_toList] at e
  omega
theorem Inv.list_inj (I:Inv X pins σ H s)(h:SqL X.K H a xs)(h':SqL X.K H a ys):xs=ys:=by
 obtain ⟨its,r,⟨o,n,e,_,_,d⟩,_⟩:=I.list h
 obtain ⟨its',r',⟨o',n',e',_,_,d'⟩,_⟩:=I.list h'
 rw [e] at e';cases e'
 rw [d] at d'
 injection d' with d1 _
 have:its=its':=by simpa using congrArg Array.toList d1
 subst this
 exact r.inj r'
theorem Inv.tuple_inj (I:Inv X pins σ H s)(h:SqT X.K H a xs)(h':SqT X.K H a ys):xs=ys:=by
 obtain ⟨its,r,⟨o,e,_,n,d⟩,_⟩:=I.tuple h
 obtain ⟨its',r',⟨o',e',_,n',d'⟩,_⟩:=I.tuple h'
 rw [e] at e';cases e'
 rw [d] at d'
 injection d' with d1 _
 have:its=its':=by simpa using congrArg Array.toList d1
 subst this
 exact r.inj r'
end
abbrev Cx.wish (X:Cx)(E:Value->Shared->Prop):Cx:={ X with xe:=E }
abbrev Cx.nox (X:Cx):Cx:=X.wish fun _ _=>False
theorem Cx.Ok.wish {X:Cx}(ok:X.Ok)(E:Value->Shared->Prop):(X.wish E).Ok :=
 ⟨ok.mod,ok.kind,ok.glob,ok.blt,ok.above,ok.inj,ok.has,ok.cab,ok.hd,ok.frames,ok.stk,ok.exf,ok.bs,ok.bsz,ok.noex,ok.exfs,ok.funs,ok.frf⟩
theorem Cx.Ok.unwish {X:Cx}{E:Value->Shared->Prop}(ok:(X.wish E).Ok):X.Ok :=
 ⟨ok.mod,ok.kind,ok.glob,ok.blt,ok.above,ok.inj,ok.has,ok.cab,ok.hd,ok.frames,ok.stk,ok.exf,ok.bs,ok.bsz,ok.noex,ok.exfs,ok.funs,ok.frf⟩
section
variable {X:Cx}{pins:List (Addr×Obj)}{σ:St}{H:Hp}{s:Shared}{E:Value->Shared->Prop}
theorem Inv.wish (I:Inv X pins σ H s)(E:Value->Shared->Prop):Inv (X.wish E) pins σ H s:=⟨I.ok.wish E,I.os,I.bare,I.base,I.loc,I.cell,I.free,I.freeC,I.pin,I.hok,I.len⟩
theorem Inv.unwish (I:Inv (X.wish E) pins σ H s):Inv X pins σ H s:=⟨I.ok.unwish,I.os,I.bare,I.base,I.loc,I.cell,I.free,I.freeC,I.pin,I.hok,I.len⟩
theorem SP.unwish {D:Ends}{f:Flow}{s':Shared}(h:SP (X.wish E) pins D f s'):SP X pins D f s':=by
 cases f with
 | next=>obtain ⟨σ',H',I,q⟩:=h;exact ⟨σ',H',I.unwish,q⟩
 | brk=>obtain ⟨σ',H',I,q⟩:=h;exact ⟨σ',H',I.unwish,q⟩
 | cont=>obtain ⟨σ',H',I,q⟩:=h;exact ⟨σ',H',I.unwish,q⟩
 | ret u=>obtain ⟨v,σ',H',I,r,q⟩:=h;exact ⟨v,σ',H',I.unwish,r,q⟩
theorem PE.nox {e:Expr}{t:TE}(h:PE X.nox e t):PE X e t:=fun pins s σ H Q I hw =>
 wpAny_mono (h pins s σ H Q (I.wish _) hw) (fun _ _ ⟨v,H',I',r,q⟩=>⟨v,H',I'.unwish,r,q⟩) fun _ _ z=>False.elim z
theorem PT.nox {e:Expr}{t:TT}(h:PT X.nox e t):PT X e t:=fun pins s σ H Q I hw =>
 wpAny_mono (h pins s σ H Q (I.wish _) hw) (fun _ _ ⟨H',I',q⟩=>⟨H',I'.unwish,q⟩) fun _ _ z=>False.elim z
theorem PSs.nox {st:List Stmt}{t:TS}(h:PSs X.nox st t):PSs X st t:=fun pins s σ H D I hw =>
 wpAny_mono (h pins s σ H D (I.wish _) hw) (fun _ _ q=>q.unwish) fun _ _ z=>False.elim z
end
section
variable {X:Cx}{st:Stmt}{rest:List Stmt}{t u:TS}{e:Expr}{te:TE}{pos:Pos}
def tNext:TS:=fun D σ H=>D.nx σ H
def tSeq (t u:TS):TS:=fun D σ H=>t { D with nx:=u D } σ H
theorem qfp:PSs X [] tNext:=fun _ _ σ H _ I h=>wpAny_execs_nil ⟨σ,H,I,h⟩
theorem qdZ (h1:PS X st t)(h2:PSs X rest u):PSs X (st::rest) (tSeq t u):=by
 intro pins s σ H D I h
 refine wpAny_execs_cons (thn (h1 pins s σ H { D with nx:=u D } I h) fun f s1 q=>?_)
 cases f with
 | next =>
  obtain ⟨σ',H',I',q⟩:=q
  exact h2 pins s1 σ' H' D I' q
 | ret v=>exact q
 | brk=>exact q
 | cont=>exact q
theorem qfq (h1:PS X st t):PSs X [st] t:=by
 intro pins s σ H D I h
 refine wpAny_execs_cons (thn (h1 pins s σ H D I h) fun f s1 q=>?_)
 cases f with
 | next=>exact wpAny_execs_nil q
 | ret v=>exact q
 | brk=>exact q
 | cont=>exact q
theorem Inv.quiet {pins:List (Addr×Obj)}{σ:St}{H:Hp}{s:Shared}(I:Inv X pins σ H s):interactive X.env=false:=by simp [interactive,I.ok.kind]
def tDrop (te:TE):TS:=fun D σ H=>te σ H fun _ H1=>D.nx σ H1
theorem qfo (he:PE X e te)(hs:swapsWith e none pos.line X.env=pure false:=by rfl):PS X (.Expr e pos) (tDrop te):=by
 intro pins s σ H D I h
 exact wpAny_Expr_any (thn (he pins s σ H _ I h) fun v s1 ⟨x,H1,I1,r1,q1⟩=>⟨σ,H1,I1,q1⟩) I.quiet hs
def tRet (te:TE):TS:=fun D σ H=>te σ H D.rt
theorem qhk (he:PE X e te):PS X (.Return (some e) pos) (tRet te):=by
 intro pins s σ H D I h
 exact wpAny_Return_some (thn (he pins s σ H _ I h) fun v s1 ⟨x,H1,I1,r1,q1⟩=>⟨x,σ,H1,I1,r1,q1⟩)
def tIfS (c:TT)(t u:TS):TS:=fun D σ H=>c σ H fun b H1=>if b=true then t D σ H1 else u D σ H1
theorem ps_if {c:Expr}{a b:List Stmt}{tc:TT}(hc:PT X c tc)(ha:PSs X a t)(hb:PSs X b u):PS X (.If c a b pos) (tIfS tc t u):=by
 intro pins s σ H D I h
 refine wpAny_If (thn (hc pins s σ H _ I h) fun d s1 ⟨H1,I1,q1⟩=>?_)
 cases d with
 | true=>exact ha pins s1 σ H1 D I1 q1
 | false=>exact hb pins s1 σ H1 D I1 q1
end
abbrev TG:=V->St->Hp->(St->Hp->Prop)->Prop
abbrev TGs:=List V->St->Hp->(St->Hp->Prop)->Prop
def PG (X:Cx)(target:Expr)(t:TG):Prop :=
 ∀ (pins:List (Addr×Obj)) (s:Shared) (σ:St) (H:Hp) (v:V) (u:Value) (Q:St->Hp->Prop),Inv X pins σ H s->RelV v u->t v σ H Q->
  wpAny (model X.prog X.w) X.A (assign target X.env u) (fun _ s'=>∃ σ' H',Inv X pins σ' H' s'/\Q σ' H') X.xe s
def PGs (X:Cx)(ts:List Expr)(t:TGs):Prop :=
 ∀ (pins:List (Addr×Obj)) (s:Shared) (σ:St) (H:Hp) (vs:List V) (us:List Value) (Q:St->Hp->Prop),Inv X pins σ H s->Vals vs us->t vs σ H Q->
  wpAny (model X.prog X.w) X.A (assignInOrder ((assignEach ts X.env).map (·.2)) us) (fun _ s'=>∃ σ' H',Inv X pins σ' H' s'/\Q σ' H') X.xe s
section
variable {X:Cx}{pos:Pos}
def qbP (i:Nat):TG:=fun v σ H Q=>Q (σ.set i (some v)) H
theorem qb1 {i:Nat}{x:Str}(hN:X.N.Nodup)(hi:X.N[i]?=some x)(hx:Loc X.env.scope x)(hf:X.fn x=true\/X.env.scope.names.lookup x=some .local:=by first|exact .inl rfl|exact .inr rfl|assumption):PG X (.Name x pos) (qbP i):=by
 intro pins s σ H v u Q I r h
 exact wpAny_assign_Name (qa5 I hN hi hx r (fun s' I'=>⟨_,H,I',h⟩) hf)
def gNil:TGs:=fun vs σ H Q=>vs=[]/\Q σ H
def gCons (t:TG)(u:TGs):TGs:=fun vs σ H Q=>∃ v r,vs=v::r/\t v σ H fun σ' H'=>u r σ' H' Q
theorem qb2:PGs X [] gNil:=by
 intro pins s σ H vs us Q I r h
 obtain ⟨e,h⟩:=h
 subst e
 cases r
 exact assignInOrder_nil ⟨σ,H,I,h⟩
theorem qaX {e:Expr}{es:List Expr}{t:TG}{u:TGs}(h1:PG X e t)(h2:PGs X es u)
  (hs:(assignEach (e::es) X.env).map (·.2)=assign e X.env::(assignEach es X.env).map (·.2):=by rfl):PGs X (e::es) (gCons t u):=by
 intro pins s σ H vs us Q I r h
 obtain ⟨v,vr,e1,h⟩:=h
 subst e1
 cases r with
 | cons r rr =>
  rw [hs]
  refine assignInOrder_cons (thn (h1 pins s σ H _ _ _ I r h) fun _ s1 ⟨σ1,H1,I1,q1⟩=>?_)
  exact h2 pins s1 σ1 H1 _ _ Q I1 rr q1
def gTup (K:PySem.W.Frag)(n:Nat)(t:TGs):TG:=fun v σ H Q=>∃ a xs,v=.ref a/\SqT K H a xs/\xs.length=n/\t xs σ H Q
theorem qdW {es:List Expr}{k:Nat}{t:TGs}{n:Nat}(hc:X.calm=true)(h:PGs X es t)
  (hn:(assignEach es X.env).length=n:=by rfl) (hst:(assignEach es X.env).findIdx? (·.1)=none:=by rfl):PG X (.Tuple es k pos) (gTup X.K n t):=by
 intro pins s σ H v u Q I r hw
 obtain ⟨a,xs,e1,hq,hl,hw⟩:=hw
 subst e1
 cases r
 obtain ⟨its,rv,ht,hz⟩:=I.tuple hq
 refine assign_Tuple_tuple (I.ok.hd hc) ht (by simp [hn,← hl,rv.length]) hst fun h' hx=>?_
 have I1:Inv X pins σ H { s with heap:=h' }:=I.kept (t':=s.toks) fun b o e=>hx b o (Nat.ne_of_lt (Heap.lt_size e)) e
 exact h pins _ σ H xs _ Q I1 (by simpa using rv) hw
def tAsg (te:TE)(g:TG):TS:=fun D σ H=>te σ H fun x H1=>g x σ H1 D.nx
theorem qhj {tg e:Expr}{te:TE}{g:TG}(he:PE X e te)(hg:PG X tg g)(hs:swapsWithSole [tg] e pos.line X.env=pure false:=by rfl)(hw:swappedStores [tg] e X.env=pure none:=by rfl)
  (h1:(assignEach [tg] X.env).map (·.2)=[assign tg X.env]:=by rfl):PS X (.Assign [tg] e pos) (tAsg te g):=by
 intro pins s σ H D I h
 refine wpAny_Assign_stores (thn (he pins s σ H _ I h) fun v s1 ⟨x,H1,I1,r1,q1⟩=>?_) hs hw
 rw [h1]
 exact thn (hg pins s1 σ H1 x v _ I1 r1 q1) fun _ s2 q=>q
theorem qbk {i:Nat}{x:Str}{e:Expr}{te:TE}{pos':Pos}(hN:X.N.Nodup)(hi:X.N[i]?=some x)(hx:Loc X.env.scope x)(he:PE X e te)(hs:swapsWith e (some (.Name x pos')) pos.line X.env=pure false:=by rfl)(hf:X.fn x=true\/X.env.scope.names.lookup x=some .local:=by first|exact .inl rfl|exact .inr rfl|assumption) :
  PS X (.Assign [.Name x pos'] e pos) (tAsg te (qbP i)):=by
 intro pins s σ H D I h
 refine wpAny_Assign_Name (thn (he pins s σ H _ I h) fun v s1 ⟨y,H1,I1,r1,q1⟩=>?_) hs
 exact qa5 I1 hN hi hx r1 (fun s2 I2=>⟨_,H1,I2,q1⟩) hf
end
section
variable {X:Cx}{pos:Pos}
end
structure It where
 go:Nat->Hp->Prop
 yld:Nat->Hp->V->Hp->Prop
 stop:Nat->Hp->Prop
def FpOk (X:Cx)(pins:List (Addr×Obj))(H:Hp)(b:Addr):Prop :=
 H b=none/\b≠X.env.locals/\b∉X.fs/\(b∈X.ex\/X.s₀.heap.objs.size<=b)/\(∀ x c,X.env.cells.lookup x=some c->c≠b)/\∀ p∈X.pn++pins,p.1≠b
theorem Inv.fpOk {X:Cx}{pins:List (Addr×Obj)}{σ:St}{H H':Hp}{s:Shared}{b:Addr}(I:Inv X pins σ H s)(hb:s.heap.objs.size<=b)(hn:H' b=none):FpOk X pins H' b:=by
 refine ⟨hn,Nat.ne_of_gt (Nat.lt_of_lt_of_le I.lt hb),I.nofs hb,.inr (Nat.le_trans I.sz hb),fun x c e z=>?_,fun p hp z=>?_⟩
 ·obtain ⟨v,q⟩:=I.cell x c e
  exact absurd (Nat.lt_of_lt_of_le q.lt (by rw [z];exact hb)) (Nat.lt_irrefl _)
 ·exact absurd (Nat.lt_of_lt_of_le (Heap.lt_size (I.pin p hp).1) (by rw [z];exact hb)) (Nat.lt_irrefl _)
structure Turn (P:Program)(w:World)(K:PySem.W.Frag)(tg:Expr)(J:It)(fp:List Addr)(it:Addr)(tn:Nat->Heap->Prop):Prop where
 mem:it∈fp
 obj:∀ i h,tn i h->∀ b∈fp,∃ o,h.get? b=some o/\∀ v,o.data≠.cell v
 keep:∀ i h h',tn i h->(∀ b∈fp,∀ o,h.get? b=some o->h'.get? b=some o)->tn i h'
 item:∀ (X:Cx),X.prog=P->X.w=w->X.K=K->X.calm=true->∀ (i:Nat) (pins:List (Addr×Obj)) (s:Shared) (σ:St) (H:Hp) (E:Value->Shared->Prop),Inv X pins σ H s->(∀ b∈fp,FpOk X pins H b)->tn i s.heap->J.go i H->
  wpAny (model P w) X.A (pyNext (.ref it)) (fun r s1=>∃ u,r=some u/\
   wpAny (model P w) X.A (letOwnedTupleGo tg (.ref it) u) (fun _ s2=>∃ x H',Inv X pins σ H' s2/\RelV x u/\J.yld i H x H'/\tn (i+1) s2.heap/\∀ b∈fp,H' b=none) E s1) E s
 done:∀ (X:Cx),X.prog=P->X.w=w->X.K=K->X.calm=true->∀ (i:Nat) (pins:List (Addr×Obj)) (s:Shared) (σ:St) (H:Hp) (E:Value->Shared->Prop),Inv X pins σ H s->(∀ b∈fp,FpOk X pins H b)->tn i s.heap->J.stop i H->
  wpAny (model P w) X.A (pyNext (.ref it)) (fun r s1=>r=none/\Inv X pins σ H s1) E s
 self:∀ (A:Around) (i:Nat) (s:Shared) (Q:Value->Shared->Prop) (E:Value->Shared->Prop),tn i s.heap->Q (.ref it) s->wpAny (model P w) A (pyIter (.ref it)) Q E s
abbrev TI:=St->Hp->(It->Hp->Prop)->Prop
def PIE (X:Cx)(pins:List (Addr×Obj))(σ:St)(tg:Expr)(R:It->Hp->Prop)(itv:Value)(s2:Shared):Prop :=
 ∃ (it:Addr) (fp:List Addr) (tn:Nat->Heap->Prop) (J:It) (H':Hp),itv=.ref it/\Inv X pins σ H' s2/\Turn X.prog X.w X.K tg J fp it tn/\tn 0 s2.heap/\(∀ b∈fp,FpOk X pins H' b)/\R J H'
def PI (X:Cx)(tg iter:Expr)(wi:TI):Prop :=
 ∀ (pins:List (Addr×Obj)) (s:Shared) (σ:St) (H:Hp) (R:It->Hp->Prop),Inv X pins σ H s->wi σ H R->
  wpAny (model X.prog X.w) X.A (eval iter X.env) (fun v s1=>wpAny (model X.prog X.w) X.A (pyIter v) (PIE X pins σ tg R) X.xe s1) X.xe s
theorem qdi {M:Model}{A:Around}{E:Value->Shared->Prop}{s:Shared}{tg:Expr}{it:Addr}{u:Value}{o:Obj}{n:String}{vs:Array Value}{Q:Unit->Shared->Prop}(ho:s.heap.get? it=some o)(hc:o.cls=.type n)(hd:o.data=.fields vs)
  (hn:["enumerate", "zip", "dict_itemiterator", "dict_reverseitemiterator", "odict_iterator", "itertools.zip_longest", "itertools.pairwise"].contains n=false) (hQ:Q () s):wpAny M A (letOwnedTupleGo tg (.ref it) u) Q E s:=by
 unfold letOwnedTupleGo
 cases tg<;>first
  | exact wpAny_pure hQ
  | (cases u<;>first
    | exact wpAny_pure hQ
    | (
      refine wpAny_bind (wpAny_load ho ?_)
      rw [hc,hd]
      show wpAny M A (if (["enumerate", "zip", "dict_itemiterator", "dict_reverseitemiterator", "odict_iterator", "itertools.zip_longest", "itertools.pairwise"].contains n&&vs[0]?==some (rawInt _))=true then _ else _) Q E s
      rw [if_neg (by intro h;rw [hn,Bool.false_and] at h;cases h)]
      exact wpAny_pure hQ))
def Itl (K:PySem.W.Frag)(a:Addr):It :=
 ⟨fun i H=>∃ xs x,SqL K H a xs/\xs[i]?=some x,fun i H x H'=>H'=H/\∀ xs,SqL K H a xs->xs[i]?=some x,fun i H=>∃ xs,SqL K H a xs/\xs.length<=i⟩
def Itt (K:PySem.W.Frag)(a:Addr):It :=
 ⟨fun i H=>∃ xs x,SqT K H a xs/\xs[i]?=some x,fun i H x H'=>H'=H/\∀ xs,SqT K H a xs->xs[i]?=some x,fun i H=>∃ xs,SqT K H a xs/\xs.length<=i⟩
def Itr (lo:Int)(n:Nat):It:=⟨fun i _=>i<n,fun i H x H'=>H'=H/\x=.int (lo+i),fun i _=>n<=i⟩
theorem qcO {P:Program}{w:World}{K:PySem.W.Frag}{tg:Expr}(a it:Addr):Turn P w K tg (Itl K a) [it] it (fun i h=>h.IsListIter it a i) where
 mem:=by simp
 obj:=fun i h st b hb=>by
  have e:b=it:=by simpa using hb
  subst e
  obtain ⟨o,e,c,d⟩:=st
  exact ⟨o,e,fun v z=>by rw [d] at z;cases z⟩
 keep:=fun i h h' st k=>st.at fun o e=>k it (by simp) o e
 item:=by
  intro X hP hw hK hc i pins s σ H E I hf st hg
  subst hP hw hK
  obtain ⟨xs,x,hq,hx⟩:=hg
  obtain ⟨its,rv,p,hz⟩:=I.list hq
  obtain ⟨u,hu,ru⟩:=rv.get hx
  obtain ⟨f0,f1,f2,f3,f4,f5⟩:=hf it (by simp)
  refine wpAny_pyNext_list_item st p.isList (x:=u) (by simpa using hu) fun h' st' sb=>?_
  have I1:Inv X pins σ H { s with heap:=h' }:=I.turned (t':=s.toks) (fun b o hb e=>(sb.2 b hb).trans e) f0 f1 f3 f4 f5
  obtain ⟨o,e,c,d⟩:=id st'
  exact ⟨u,rfl,qdi (s:={ s with heap:=h' }) e c d (by decide) ⟨x,H,I1,ru,⟨rfl,fun ys hy=>by rw [I.list_inj hy hq];exact hx⟩,st',fun b hb=>(hf b hb).1⟩⟩
 done:=by
  intro X hP hw hK hc i pins s σ H E I hf st hg
  subst hP hw hK
  obtain ⟨xs,hq,hx⟩:=hg
  obtain ⟨its,rv,p,hz⟩:=I.list hq
  obtain ⟨f0,f1,f2,f3,f4,f5⟩:=hf it (by simp)
  have hl:=rv.length
  exact wpAny_pyNext_list_end (I.ok.hd hc) st p.isList (by simp;omega) fun h' eb=>⟨rfl,I.turned (t':=s.toks) (fun b o hb e=>eb b o hb e) f0 f1 f3 f4 f5⟩
 self:=fun _ _ _ _ _ st h=>wpAny_pyIter_listiter st h
theorem qbp {P:Program}{w:World}{K:PySem.W.Frag}{tg:Expr}(a it:Addr):Turn P w K tg (Itt K a) [it] it (fun i h=>h.IsTupleIter it a i) where
 mem:=by simp
 obj:=fun i h st b hb=>by
  have e:b=it:=by simpa using hb
  subst e
  obtain ⟨o,e,c,d⟩:=st
  exact ⟨o,e,fun v z=>by rw [d] at z;cases z⟩
 keep:=fun i h h' st k=>st.at fun o e=>k it (by simp) o e
 item:=by
  intro X hP hw hK hc i pins s σ H E I hf st hg
  subst hP hw hK
  obtain ⟨xs,x,hq,hx⟩:=hg
  obtain ⟨its,rv,p,hz⟩:=I.tuple hq
  obtain ⟨u,hu,ru⟩:=rv.get hx
  obtain ⟨f0,f1,f2,f3,f4,f5⟩:=hf it (by simp)
  refine wpAny_pyNext_tuple_item st (show s.heap.IsTuple a its.toArray from p) (x:=u) (by simpa using hu) fun h' st' sb=>?_
  have I1:Inv X pins σ H { s with heap:=h' }:=I.turned (t':=s.toks) (fun b o hb e=>(sb.2 b hb).trans e) f0 f1 f3 f4 f5
  obtain ⟨o,e,c,d⟩:=id st'
  exact ⟨u,rfl,qdi (s:={ s with heap:=h' }) e c d (by decide) ⟨x,H,I1,ru,⟨rfl,fun ys hy=>by rw [I.tuple_inj hy hq];exact hx⟩,st',fun b hb=>(hf b hb).1⟩⟩
 done:=by
  intro X hP hw hK hc i pins s σ H E I hf st hg
  subst hP hw hK
  obtain ⟨xs,hq,hx⟩:=hg
  obtain ⟨its,rv,p,hz⟩:=I.tuple hq
  obtain ⟨f0,f1,f2,f3,f4,f5⟩:=hf it (by simp)
  have hl:=rv.length
  exact wpAny_pyNext_tuple_end (I.ok.hd hc) st (show s.heap.IsTuple a its.toArray from p) (by simp;omega) fun h' eb=>⟨rfl,I.turned (t':=s.toks) (fun b o hb e=>eb b o hb e) f0 f1 f3 f4 f5⟩
 self:=fun _ _ _ _ _ st h=>wpAny_pyIter_tupleiter st h
theorem qbo {P:Program}{w:World}{K:PySem.W.Frag}{tg:Expr}(it:Addr)(lo:Int)(n:Nat):Turn P w K tg (Itr lo n) [it] it (fun i h=>IsRangeIter h it (lo+(i:Nat)*1) ((n:Int)-(i:Nat)) 1) where
 mem:=by simp
 obj:=fun i h st b hb=>by
  have e:b=it:=by simpa using hb
  subst e
  exact ⟨_,st,fun v z=>by
   have z':Data.fields _=Data.cell v:=z
   cases z'⟩
 keep:=fun i h h' st k=>k it (by simp) _ st
 item:=by
  intro X hP hw hK hc i pins s σ H E I hf st hg
  subst hP hw hK
  obtain ⟨f0,f1,f2,f3,f4,f5⟩:=hf it (by simp)
  have W:=Walks.range (prog:=X.prog) (w:=X.w) (I.ok.hd hc) it lo 1 n
  refine W.item i s _ _ hg st fun v h' tk hv st' kk=>?_
  obtain ⟨t,rfl⟩:=hv
  have I1:Inv X pins σ H { s with heap:=h',toks:=tk }:=I.turned (fun b o hb e=>kk b o (by simpa using hb) e) f0 f1 f3 f4 f5
  refine ⟨_,rfl,qdi (s:={ s with heap:=h',toks:=tk }) (n := "range_iterator") st' rfl rfl (by decide) ⟨.int (lo+i),H,I1,⟨t,?_⟩,⟨rfl,rfl⟩,st',fun b hb=>(hf b hb).1⟩⟩
  rw [Int.mul_one]
 done:=by
  intro X hP hw hK hc i pins s σ H E I hf st hg
  subst hP hw hK
  obtain ⟨f0,f1,f2,f3,f4,f5⟩:=hf it (by simp)
  exact wpAny_pyNext_range_end (I.ok.hd hc) st (by have:n<=i:=hg;omega) fun h' eb=>⟨rfl,I.turned (t':=s.toks) (fun b o hb e=>eb b o hb e) f0 f1 f3 f4 f5⟩
 self:=fun _ _ _ _ _ st h=>wpAny_pyIter_rangeiter st h
end L2
namespace L2
open PySem PySem.Spec PyProof.Rows
section
variable {X:Cx}{tg:Expr}
theorem qd0 {pins:List (Addr×Obj)}{σ:St}{H:Hp}{s:Shared}{R:It->Hp->Prop}{E:Value->Shared->Prop}{lo hi:Int}{t u v:Tok}{tk:Nat}(I:Inv X pins σ H s)(h1:-(2 ^ 62)<=lo)(h2:lo<2 ^ 62)(h3:-(2 ^ 62)<=hi)(h4:hi<2 ^ 62)
  (q:R (Itr lo (hi-lo).toNat) H):wpAny (model X.prog X.w) X.A (pyIter (.ref s.heap.objs.size)) (PIE X pins σ tg R) E { s with heap:=s.heap.push { cls:=.type "range", data:=.fields #[.int lo t,.int hi u,.int 1 v] },toks:=tk }:=by
 refine wpAny_pyIter_range (IsRange.new ..) (small_one h1 h2 h3 h4) ?_
 have I1:Inv X pins σ H { s with heap:=s.heap.push { cls:=.type "range", data:=.fields #[.int lo t,.int hi u,.int 1 v] },toks:=tk }:=I.kept fun b o e=>Heap.get?_push_of_some _ e
 refine ⟨(s.heap.push { cls:=.type "range", data:=.fields #[.int lo t,.int hi u,.int 1 v] }).objs.size,[(s.heap.push { cls:=.type "range", data:=.fields #[.int lo t,.int hi u,.int 1 v] }).objs.size],_,_,H,rfl,
  I1.kept (t':=tk) fun b o e=>Heap.get?_push_of_some _ e,qbo _ lo (hi-lo).toNat,?_,fun b hb=>?_,q⟩
 ·have e1:lo+((0:Nat):Int)*1=lo:=by simp
  have e2:(((hi-lo).toNat:Nat):Int)-((0:Nat):Int)=Builtin.Range.rangeSize lo hi 1:=by rw [rangeSize_one];split<;>omega
  show IsRangeIter _ _ (lo+((0:Nat):Int)*1) ((((hi-lo).toNat:Nat):Int)-((0:Nat):Int)) 1
  rw [e1,e2]
  exact Heap.get?_push_size _ rfl
 ·have e:b=(s.heap.push { cls:=.type "range", data:=.fields #[.int lo t,.int hi u,.int 1 v] }).objs.size:=by simpa using hb
  subst e
  exact I1.fpOk (Nat.le_refl _) (I1.hok.fresh (Nat.le_refl _))
def iRng1 (ta:TA):TI:=fun σ H R=>ta σ H fun vs H1=>∃ j:Int,vs=[.int j]/\-(2 ^ 62)<=j/\j<2 ^ 62/\R (Itr 0 j.toNat) H1
theorem Wc {a:Expr}{ta:TA}{p pos:Pos}(hg:Gl X "range")(hm:X.mg "range" = none)(ha:PA X [a] ta)(hs:starEach [a] X.env=[(false,eval a X.env)]:=by rfl):PI X tg (.Call (.Name "range" p) [a] [] pos) (iRng1 ta):=by
 intro pins s σ H R I h
 refine Call_ (YH I hg hm boot_range (PyProof.Rows.callWith_type1 (thn (ha pos pins s σ H _ I h) fun us s1 ⟨vs,H1,I1,r1,q1⟩=>?_) hs rfl))
 obtain ⟨j,e,q1,q2,q⟩:=q1
 subst e
 cases r1 with
 | cons r rr =>
  cases rr
  obtain ⟨t,rfl⟩:=r
  exact call_range_1 (qd0 I1 (by omega) (by omega) q1 q2 (by simpa using q))
def tFor (wi:TI)(g:TG)(tb:TS):TS:=fun D σ H=>wi σ H fun J H1=>∃ W:Nat->Nat->St->Hp->Prop,(∃ m,W 0 m σ H1)/\∀ i m σ H,W i m σ H->
 (J.stop i H/\D.nx σ H)\/(J.go i H/\∃ N:St->Hp->Prop,(∀ σ' H',N σ' H'->∃ m',m'<m/\W (i+1) m' σ' H')/\∀ x H',J.yld i H x H'->g x σ H' fun σ2 H2=>tb { D with nx:=N,ct:=N,bk:=D.nx } σ2 H2)
def Zx (fp:List Addr)(h:Heap):List (Addr×Obj):=fp.filterMap fun b=>(h.get? b).map fun o=>(b,o)
theorem Zh {fp:List Addr}{h:Heap}{b:Addr}{o:Obj}(hb:b∈fp)(e:h.get? b=some o):(b,o)∈Zx fp h:=List.mem_filterMap.mpr ⟨b,hb,by rw [e];rfl⟩
theorem yz {fp:List Addr}{h:Heap}{p:Addr×Obj}(hp:p∈Zx fp h):p.1∈fp/\h.get? p.1=some p.2:=by
 obtain ⟨b,hb,e⟩:=List.mem_filterMap.mp hp
 cases q:h.get? b with
 | none=>rw [q] at e;cases e
 | some o =>
  rw [q] at e
  have e':(b,o)=p:=Option.some.inj e
  subst e'
  exact ⟨hb,q⟩
theorem Inv.pinned {pins:List (Addr×Obj)}{σ:St}{H:Hp}{s:Shared}{fp:List Addr}(I:Inv X pins σ H s)(hf:∀ b∈fp,FpOk X pins H b)(ho:∀ b∈fp,∃ o,s.heap.get? b=some o/\∀ v,o.data≠.cell v):Inv X (pins++Zx fp s.heap) σ H s :=
 I.pins_of fun p hp=>(List.mem_append.mp hp).elim (fun z=>I.pin p (List.mem_append_right _ z)) fun z=>by
  obtain ⟨hb,e⟩:=yz z
  obtain ⟨f0,f1,f2,_⟩:=hf p.1 hb
  obtain ⟨o,e',d⟩:=ho p.1 hb
  rw [e] at e';cases e'
  exact ⟨e,f0,f1,f2,d⟩
theorem Inv.unpinned {pins pl:List (Addr×Obj)}{σ:St}{H:Hp}{s:Shared}(I:Inv X (pins++pl) σ H s):Inv X pins σ H s:=I.pins_of fun p hp=>I.pin p (List.mem_append_right _ (List.mem_append_left _ hp))
theorem qdY {iter:Expr}{body:List Stmt}{wi:TI}{g:TG}{tb:TS}{pos:Pos}(hp:PassesOwn (model X.prog X.w) X.A X.env X.xe)(hc:X.calm=true)(hi:PI X tg iter wi)(hg:PG X tg g)(hb:PSs X body tb)
  (hs:∀ x,foldedSetIterable iter X.env x=pure x:=by intro _;rfl):PS X (.For tg iter body [] pos) (tFor wi g tb):=by
 intro pins s σ H D I h
 refine wpAny_For (thn (hi pins s σ H _ I h) fun v s1 h1=>thn h1 fun itv s2 h2=>?_) hs
 obtain ⟨it,fp,tn,J,H2,e,I2,T,st2,f2,W,⟨m0,w0⟩,turn⟩:=h2
 subst e
 have stat:∀ {H':Hp},(∀ b∈fp,H' b=none)->∀ b∈fp,FpOk X pins H' b:=fun hn b hb=>⟨hn b hb,(f2 b hb).2⟩
 refine codeAny_forLoop_any (fun n s'=>∃ i σ' H',Inv X pins σ' H' s'/\tn i s'.heap/\(∀ b∈fp,H' b=none)/\W i n σ' H') ?_ m0 ⟨0,σ,H2,I2,st2,fun b hb=>(f2 b hb).1,w0⟩
 rintro n s3 ⟨i,σ3,H3,I3,st3,fr3,w3⟩
 rcases turn i n σ3 H3 w3 with ⟨stop,qn⟩|⟨go,N,hN,step⟩
 ·refine wpAny_passesOwn hp (thn (T.done X rfl rfl rfl hc i pins s3 σ3 H3 X.xe I3 (stat fr3) st3 stop) fun r s4 ⟨hr,I4⟩=>?_)
  subst hr
  exact wpAny_execs_nil ⟨σ3,H3,I4,qn⟩
 ·refine wpAny_passesOwn hp (thn (T.item X rfl rfl rfl hc i pins s3 σ3 H3 X.xe I3 (stat fr3) st3 go) fun r s4 ⟨u,hr,h4⟩=>?_)
  subst hr
  refine wpAny_passesOwn hp (thn h4 fun _ s5 ⟨x,H5,I5,r5,y5,st5,fr5⟩=>?_)
  have I5':=I5.pinned (stat fr5) (T.obj _ _ st5)
  refine wpAny_passesOwn hp (thn (hg _ s5 σ3 H5 x u _ I5' r5 (step x H5 y5)) fun _ s6 ⟨σ6,H6,I6,q6⟩=>?_)
  refine wpAny_passesOwn hp (thn (hb _ s6 σ6 H6 _ I6 q6) fun f s7 q7=>?_)
  have again:∀ {σ7:St} {H7:Hp},Inv X (pins++Zx fp s5.heap) σ7 H7 s7->N σ7 H7->∃ m,m<n/\∃ i σ' H',Inv X pins σ' H' s7/\tn i s7.heap/\(∀ b∈fp,H' b=none)/\W i m σ' H':=fun {σ7 H7} I7 n7=>by
   obtain ⟨m',hm,w7⟩:=hN σ7 H7 n7
   refine ⟨m',hm,i+1,σ7,H7,I7.unpinned,T.keep _ _ _ st5 fun b hb o e=>(I7.pin (b,o) (List.mem_append_right _ (List.mem_append_right _ (Zh hb e)))).1,fun b hb=>?_,w7⟩
   obtain ⟨o,e,d⟩:=T.obj _ _ st5 b hb
   exact (I7.pin (b,o) (List.mem_append_right _ (List.mem_append_right _ (Zh hb e)))).2.1
  cases f with
  | next=>obtain ⟨σ7,H7,I7,n7⟩:=q7;exact again I7 n7
  | cont=>obtain ⟨σ7,H7,I7,n7⟩:=q7;exact again I7 n7
  | brk=>obtain ⟨σ7,H7,I7,q7⟩:=q7;exact ⟨σ7,H7,I7.unpinned,q7⟩
  | ret v=>obtain ⟨x7,σ7,H7,I7,r7,q7⟩:=q7;exact ⟨x7,σ7,H7,I7.unpinned,r7,q7⟩
end
end L2
namespace L2
open PySem PySem.Spec PyProof.Rows
abbrev R2:=V->V->Hp->VK->Prop
def OpR (X:Cx)(f:Value->Value->Sem Value)(r:R2):Prop :=
 ∀ (pins:List (Addr×Obj)) (s:Shared) (σ:St) (H:Hp) (x y:V) (v u:Value) (Q:VK),Inv X pins σ H s->RelV x v->RelV y u->r x y H Q->
  wpAny (model X.prog X.w) X.A (f v u) (EP X pins σ Q) X.xe s
def UnR (X:Cx)(f:Value->Sem Value)(r:V->Hp->VK->Prop):Prop :=
 ∀ (pins:List (Addr×Obj)) (s:Shared) (σ:St) (H:Hp) (x:V) (v:Value) (Q:VK),Inv X pins σ H s->RelV x v->r x H Q->
  wpAny (model X.prog X.w) X.A (f v) (EP X pins σ Q) X.xe s
def jx (X:Cx)(f:Value)(r:List V->Hp->VK->Prop):Prop :=
 ∀ (pins:List (Addr×Obj)) (s:Shared) (σ:St) (H:Hp) (xs:List V) (us:List Value) (Q:VK),Inv X pins σ H s->Vals xs us->r xs H Q->
  wpAny (model X.prog X.w) X.A (call f us) (EP X pins σ Q) X.xe s
def tOp (r:R2)(ta tb:TE):TE:=fun σ H Q=>ta σ H fun x H1=>tb σ H1 fun y H2=>r x y H2 Q
def tUn (r:V->Hp->VK->Prop)(ta:TE):TE:=fun σ H Q=>ta σ H fun x H1=>r x H1 Q
def rI (C:Int->Int->Prop)(g:Int->Int->V):R2:=fun x y H Q=>∃ i j,x=.int i/\y=.int j/\C i j/\Q (g i j) H
def rI0 (g:Int->Int->V):R2:=fun x y H Q=>∃ i j,x=.int i/\y=.int j/\Q (g i j) H
def rU (g:Int->V):V->Hp->VK->Prop:=fun x H Q=>∃ i,x=.int i/\Q (g i) H
section
variable {X:Cx}{a b c:Expr}{ta tb tc:TE}{pos:Pos}
theorem binT (ha:PE X a ta)(hb:PE X b tb){pins:List (Addr×Obj)}{s:Shared}{σ:St}{H:Hp}{R:V->V->Hp->Prop}(I:Inv X pins σ H s)
  (h:ta σ H fun x H1=>tb σ H1 fun y H2=>R x y H2) {Q:Value->Shared->Prop} {f:Value->Value->Sem Value}
  (hf:∀ v u s2 x y H2,Inv X pins σ H2 s2->RelV x v->RelV y u->R x y H2->wpAny (model X.prog X.w) X.A (f v u) Q X.xe s2) :
  wpAny (model X.prog X.w) X.A (eval a X.env) (fun v s₁=>wpAny (model X.prog X.w) X.A (eval b X.env) (fun u s₂=>wpAny (model X.prog X.w) X.A (f v u) Q X.xe s₂) X.xe s₁) X.xe s:=by
 refine thn (ha pins s σ H _ I h) fun v s1 ⟨x,H1,I1,r1,q1⟩=>?_
 refine thn (hb pins s1 σ H1 _ I1 q1) fun u s2 ⟨y,H2,I2,r2,q2⟩=>?_
 exact hf v u s2 x y H2 I2 r1 r2 q2
theorem pe_op {op:Operator}{r:R2}(ho:OpR X (binaryOp op) r)(ha:PE X a ta)(hb:PE X b tb):PE X (.BinOp a op b pos) (tOp r ta tb):=by
 intro pins s σ H Q I h
 exact wpAny_BinOp (binT ha hb I h fun v u s2 x y H2 I2 rx ry q=>ho pins s2 σ H2 x y v u Q I2 rx ry q)
theorem pe_un {op:UnaryOp}{r:V->Hp->VK->Prop}(ho:UnR X (unaryOp op) r)(ha:PE X a ta):PE X (.UnaryOp op a pos) (tUn r ta):=by
 intro pins s σ H Q I h
 exact UnaryOp_ (thn (ha pins s σ H _ I h) fun v s1 ⟨x,H1,I1,r1,q1⟩=>ho pins s1 σ H1 x v Q I1 r1 q1)
theorem opI {f:Value->Value->Sem Value}{C:Int->Int->Prop}{g:Int->Int->Int}
  (rule:∀ (i j:Int) (t u:Tok) (s:Shared) (Q:Value->Shared->Prop) (E:Value->Shared->Prop),C i j->Q (.int (g i j) s.toks) { s with toks:=s.toks+1 }->wpAny (model X.prog X.w) X.A (f (.int i t) (.int j u)) Q E s) :
  OpR X f (rI C fun i j=>.int (g i j)):=by
 intro pins s σ H x y v u Q I rx ry h
 obtain ⟨i,j,rfl,rfl,hc,q⟩:=h
 obtain ⟨t,rfl⟩:=rx
 obtain ⟨t',rfl⟩:=ry
 exact rule i j t t' s _ _ hc ⟨.int (g i j),H,I.tok _,⟨_,rfl⟩,q⟩
theorem opI0 {f:Value->Value->Sem Value}{g:Int->Int->Int}
  (rule:∀ (i j:Int) (t u:Tok) (s:Shared) (Q:Value->Shared->Prop) (E:Value->Shared->Prop),Q (.int (g i j) s.toks) { s with toks:=s.toks+1 }->wpAny (model X.prog X.w) X.A (f (.int i t) (.int j u)) Q E s) :
  OpR X f (rI0 fun i j=>.int (g i j)):=by
 intro pins s σ H x y v u Q I rx ry h
 obtain ⟨i,j,rfl,rfl,q⟩:=h
 obtain ⟨t,rfl⟩:=rx
 obtain ⟨t',rfl⟩:=ry
 exact rule i j t t' s _ _ ⟨.int (g i j),H,I.tok _,⟨_,rfl⟩,q⟩
def CDiv (i j:Int):Prop:=0<j/\j<1073741824
def CPow (i j:Int):Prop:=0<=j/\j<=1000000/\i.natAbs<2 ^ 64
def CMul (i j:Int):Prop:=(-(2 ^ 64)<i/\i<2 ^ 64)\/(-(2 ^ 64)<j/\j<2 ^ 64)
theorem CMul.ok {i j:Int}(h:CMul i j):IntMulOk i j:=by
 rcases h with ⟨h1,h2⟩|⟨h1,h2⟩
 ·exact .of_left (intBits_le_64 h1 h2)
 ·exact .of_right (intBits_le_64 h1 h2)
theorem qgV:OpR X (binaryOp .Add) (rI0 fun i j=>.int (i+j)):=opI0 fun _ _ _ _ _ _ _ q=>add_int q
theorem qg1:OpR X (binaryOp .Sub) (rI0 fun i j=>.int (i-j)):=opI0 fun _ _ _ _ _ _ _ q=>sub_int q
theorem qfc:OpR X (binaryOp .FloorDiv) (rI CDiv fun i j=>.int (i / j)):=opI fun i j _ _ _ _ _ hc q=>by
 have h1:(0:Int)<j:=hc.1
 have h2:j<1073741824:=hc.2
 exact floordiv_int (by omega) (by rw [Int.fdiv_eq_ediv_of_nonneg i (by omega)];exact q) (.inl (PyProof.noPylong_small (by omega)))
theorem qgY:OpR X (binaryOp .Mod) (rI (fun _ j=>0<j) fun i j=>.int (i % j)):=opI fun i j _ _ _ _ _ hc q=>by
 have h1:(0:Int)<j:=hc
 exact mod_int' (by omega) (by rw [Int.fmod_eq_emod_of_nonneg i (by omega)];exact q)
theorem qg0:OpR X (binaryOp .Pow) (rI CPow fun i j=>.int (i ^ j.toNat)):=opI fun _ _ _ _ _ _ _ hc q=>pow_int_small hc.1 hc.2.1 hc.2.2 q
theorem unI {f:Value->Sem Value}{g:Int->Int}
  (rule:∀ (i:Int) (t:Tok) (s:Shared) (Q:Value->Shared->Prop) (E:Value->Shared->Prop),Q (.int (g i) s.toks) { s with toks:=s.toks+1 }->wpAny (model X.prog X.w) X.A (f (.int i t)) Q E s) :
  UnR X f (rU fun i=>.int (g i)):=by
 intro pins s σ H x v Q I rx h
 obtain ⟨i,rfl,q⟩:=h
 obtain ⟨t,rfl⟩:=rx
 exact rule i t s _ _ ⟨.int (g i),H,I.tok _,⟨_,rfl⟩,q⟩
theorem qhO:UnR X (unaryOp .USub) (rU fun i=>.int (-i)):=unI fun _ _ _ _ _ q=>neg_int q
end
section
variable {X:Cx}{a b c:Expr}{ta tb tc:TE}{pos:Pos}
theorem jL {pins:List (Addr×Obj)}{σ:St}{H:Hp}{s:Shared}{Q:VK}{k k':Bool}(I:Inv X pins σ H s)(q:Q (.bl k) H)(e:k=k'):EP X pins σ Q (.bool k') s:=by
 subst e
 exact ⟨.bl k,H,I,rfl,q⟩
theorem qgX:OpR X (compareOp .Is) (fun x y H Q=>y=.non/\Q (.bl (decide (x=.non))) H):=by
 intro pins s σ H x y v u Q I rx ry h
 obtain ⟨rfl,q⟩:=h
 cases ry
 refine is_none_gen (jL I q ?_)
 cases x<;>first
  | (cases rx;rfl)
  | (obtain ⟨t,rfl⟩:=rx;rfl)
theorem OpR.or {f:Value->Value->Sem Value}{r r':R2}(h:OpR X f r)(h':OpR X f r'):OpR X f (fun x y H Q=>r x y H Q\/r' x y H Q):=by
 intro pins s σ H x y v u Q I rx ry q
 rcases q with q|q
 ·exact h pins s σ H x y v u Q I rx ry q
 ·exact h' pins s σ H x y v u Q I rx ry q
theorem zF (b:Expr){op:CmpOp}(h:op≠.In:=by decide)(h2:op≠.NotIn:=by decide):behindInMarks op b=false:=by
 have e1:(op==CmpOp.In)=false:=by cases op<;>first|rfl|exact absurd rfl h
 have e2:(op==CmpOp.NotIn)=false:=by cases op<;>first|rfl|exact absurd rfl h2
 cases b<;>simp [behindInMarks,e1,e2]
theorem qfk {op:CmpOp}{r:R2}(ho:OpR X (compareOp op) r)(ha:PE X a ta)(hb:PE X b tb)(hm:behindInMarks op b=false):PE X (.Compare a [op] [b] pos) (tOp r ta tb):=by
 intro pins s σ H Q I h
 exact wpAny_Compare1 (binT ha hb I h fun v u s2 x y H2 I2 rx ry q=>ho pins s2 σ H2 x y v u Q I2 rx ry q) hm
def tTest (t:TE):TT:=fun σ H Q=>t σ H fun x H'=>∃ k,x=.bl k/\Q k H'
theorem qfr {op:CmpOp}{r:R2}(ho:OpR X (compareOp op) r)(ha:PE X a ta)(hb:PE X b tb)(hm:behindInMarks op b=false):PT X (.Compare a [op] [b] pos) (tTest (tOp r ta tb)):=by
 intro pins s σ H Q I h
 refine wpAny_isTrue_Compare1 (thn (ha pins s σ H _ I h) fun v s1 ⟨x,H1,I1,r1,q1⟩=>thn (hb pins s1 σ H1 _ I1 q1) fun u s2 ⟨y,H2,I2,r2,q2⟩ =>
  thn (ho pins s2 σ H2 x y v u _ I2 r1 r2 q2) fun c s3 ⟨z,H3,I3,r3,k,e,q3⟩=>?_) hm
 subst e
 cases r3
 exact wpAny_truthy_bool ⟨H3,I3,q3⟩
theorem qbd:(sizeLine:Nat)<2 ^ 63:=by rw [sizeLine_eq];decide
theorem vals1 {x:V}{us:List Value}(r:Vals [x] us):∃ u,us=[u]/\RelV x u:=by
 cases r with
 | cons r1 r2=>cases r2;exact ⟨_,rfl,r1⟩
theorem vals2 {x y:V}{us:List Value}(r:Vals [x,y] us):∃ u w',us=[u,w']/\RelV x u/\RelV y w':=by
 cases r with
 | cons r1 r2 =>
  cases r2 with
  | cons r3 r4=>cases r4;exact ⟨_,_,rfl,r1,r3⟩
end
end L2
namespace L2
open PySem PySem.Spec PyProof.Rows
section
variable {prog:Program}{w:World}{A:Around}{E:Value->Shared->Prop}{s:Shared}{K:PySem.W.Frag}{x dx C f:Addr}{mA:Str->Option Value}{name:Str}{v:Value}
end
section
variable {P:Program}{w:World}{H H':Hp}{h h':Heap}{a C dx:Addr}{fs fs':List (Str×V)}
end
structure Cls (K:PySem.W.Frag)(C:Addr):Prop where
 pg:PySem.W.plainGet K C Str.empty=true
 hd:PySem.W.hasDictIn K C=true
 po:PySem.W.plainOver K C=true
 sa:PySem.W.findIn K (.ref C) "__setattr__" = some (some (.builtin "object.__setattr__"))
theorem Cls.get {K:PySem.W.Frag}{C:Addr}(c:Cls K C)(f:Str):PySem.W.plainGet K C f=true:=c.pg
section
variable {X:Cx}{pins:List (Addr×Obj)}{σ:St}{H:Hp}{s:Shared}{a C dx:Addr}{fs:List (Str×V)}{f:Str}{v:V}{A:Around}{E:Value->Shared->Prop}
theorem Inv.made (I:Inv X pins σ H s):Inv X pins σ (upd (upd H s.heap.objs.size (.own (s.heap.objs.size+1))) (s.heap.objs.size+1) (.ins C s.heap.objs.size []))
  { s with heap:=(s.heap.push PySem.W.emptyDict).push (PySem.W.instObj C s.heap.objs.size) }:=by
 have e1:(s.heap.push PySem.W.emptyDict).get? s.heap.objs.size=some PySem.W.emptyDict:=Heap.get?_push_size s.heap rfl
 have e2:((s.heap.push PySem.W.emptyDict).push (PySem.W.instObj C s.heap.objs.size)).get? (s.heap.objs.size+1)=some (PySem.W.instObj C s.heap.objs.size):=by
  have:=Heap.get?_push_size (s.heap.push PySem.W.emptyDict) (o:=PySem.W.instObj C s.heap.objs.size) rfl
  rwa [Heap.size_push] at this
 have e3:(s.heap.push PySem.W.emptyDict).Ns s.heap.objs.size (fun _=>none):=⟨PySem.W.emptyDict,#[],_,e1,rfl,(fun e he=>absurd he (by simp)),fun _=>rfl⟩
 have I1:=I.laid (a:=s.heap.objs.size) (o:=.own (s.heap.objs.size+1)) (h':=s.heap.push PySem.W.emptyDict) (t':=s.toks) (fun b u q=>Heap.get?_push_of_some _ q) (Nat.le_refl _) ⟨_,e1⟩
 refine I1.laid (a:=s.heap.objs.size+1) (o:=.ins C s.heap.objs.size []) (t':=s.toks) (fun b u q=>Heap.get?_push_of_some _ q) (Nat.le_of_eq (Heap.size_push _ _)) ?_
 have ne:s.heap.objs.size≠s.heap.objs.size+1:=Nat.ne_of_lt (Nat.lt_succ_self _)
 refine ⟨by rw [zf ne,zW],Nat.zero_le _,ne,e2,fun _=>none,(Heap.Ns1.of_empty e3).at fun o q=>Heap.get?_push_of_some _ q,fun _=>True.intro,fun y hy=>absurd rfl hy⟩
end
section
variable {X:Cx}{o e value:Expr}{f:Str}{pos pos' tpos:Pos}{ta tv:TE}
end
section
variable {X:Cx}{pins:List (Addr×Obj)}{σ:St}{H:Hp}{s:Shared}{A:Around}{E:Value->Shared->Prop}{Q:Value->Shared->Prop}{c:Value}{b:Bool}
end
end L2
namespace L2
open PySem PySem.Spec PyProof.Rows
structure Room (k:Nat)(A:Around):Prop where
 hd:A.handled=none
 dp:A.depth+3*k+5<recursionLimit
 un:A.units+16*k+200<cLine
theorem Room.mono {j k:Nat}{A:Around}(r:Room k A)(h:j<=k):Room j A:=⟨r.hd,by have:=r.dp;omega,by have:=r.un;omega⟩
theorem Room.deeper {k:Nat}{A:Around}(r:Room (k+1) A)(env:Env):Room k (A.deeper env) :=
 ⟨r.hd,by have:=r.dp;show A.depth+1+3*k+5<_;omega,by have:=r.un;show A.units+3+16*k+200<_;omega⟩
theorem Room.in1 {k:Nat}{A:Around}(r:Room (k+1) A):Room k A.in1 :=
 ⟨r.hd,by have:=r.dp;show A.depth+3*k+5<_;omega,by have:=r.un;show A.units+1+16*k+200<_;omega⟩
theorem Room.depth {k:Nat}{A:Around}(r:Room k A):A.depth<recursionLimit:=by have:=r.dp;omega
theorem Room.units {k:Nat}{A:Around}(r:Room k A):A.units+64<cLine:=by have:=r.un;omega
def tNil:TA:=fun _ H Q=>Q [] H
def tCons (ta:TE)(tr:TA):TA:=fun σ H Q=>ta σ H fun x H1=>tr σ H1 fun xs H2=>Q (x::xs) H2
section
variable {X:Cx}{e:Expr}{es:List Expr}{te:TE}{t:TA}{pos:Pos}
theorem qdK:PA X [] tNil:=fun _ _ _ _ H Q I h=>Calls.spliced_nil ⟨[],H,I,.nil,h⟩
theorem W5 (ha:PE X e te)(hr:PA X es t)(hs:starEach (e::es) X.env=(false,eval e X.env)::starEach es X.env:=by rfl):PA X (e::es) (tCons te t):=by
 intro pos pins s σ H Q I h
 rw [hs]
 show wpAny _ _ (spliced ((false,eval e X.env)::backTo pos (starEach es X.env))) _ _ s
 refine Calls.spliced_cons (thn (ha pins s σ H _ I h) fun u s1 ⟨x,H1,I1,r1,q1⟩=>?_)
 exact thn (hr pos pins s1 σ H1 _ I1 q1) fun us s2 ⟨xs,H2,I2,r2,q2⟩=>⟨x::xs,H2,I2,.cons r1 r2,q2⟩
def tTup (t:TA):TE:=fun σ H Q=>t σ H fun xs H1=>xs.length<=sizeLine/\∀ p,H1 p=none->Q (.ref p) (upd H1 p (.tup xs))
def tLst (t:TA):TE:=fun σ H Q=>t σ H fun xs H1=>xs.length<=sizeLine/\∀ p,H1 p=none->Q (.ref p) (upd H1 p (.lst xs))
theorem qhc {x1}(h:PA X es t):PE X (.Tuple es x1 pos) (tTup t):=by
 intro pins s σ H Q I hq
 refine wpAny_Tuple_spliced (thn (h pos pins s σ H _ I hq) fun us s1 ⟨xs,H1,I1,r,z,q⟩=>⟨by rw [← r.length];exact z,?_⟩)
 have hf:H1 s1.heap.objs.size=none:=I1.hok.fresh (Nat.le_refl _)
 refine ⟨.ref s1.heap.objs.size,upd H1 s1.heap.objs.size (.tup xs),I1.laid (t':=s1.toks) (fun b u e=>Heap.get?_push_of_some _ e) (Nat.le_refl _) ?_,rfl,q _ hf⟩
 exact ⟨z,us,r,⟨_,Heap.get?_push_size _ rfl,rfl,_,rfl⟩⟩
theorem qdU (h:PA X es t):PE X (.List es pos) (tLst t):=by
 intro pins s σ H Q I hq
 refine wpAny_List_spliced (thn (h pos pins s σ H _ I hq) fun us s1 ⟨xs,H1,I1,r,z,q⟩=>⟨by rw [← r.length];exact z,?_⟩)
 have hf:H1 s1.heap.objs.size=none:=I1.hok.fresh (Nat.le_refl _)
 refine ⟨.ref s1.heap.objs.size,upd H1 s1.heap.objs.size (.lst xs),I1.laid (t':=s1.toks) (fun b u e=>Heap.get?_push_of_some _ e) (Nat.le_refl _) ?_,rfl,q _ hf⟩
 exact ⟨z,us,0,r,Heap.get?_push_size _ rfl⟩
end
abbrev Sp:=List V->Hp->VK->XK->Prop
abbrev CXT:=List Env->Hp->Shared->XK->Value->Shared->Prop
structure Env0 (P:Program)(w:World)(K:PySem.W.Frag)(mg:Str->Option Value)(base:Heap)(A:Around)(outer:List Env)(s:Shared)(H:Hp):Prop where
 frames:A.frames=some outer
 mod:Mod K mg base
 bs:∀ b o,base.get? b=some o->s.heap.get? b=some o/\H b=none
 bsz:base.objs.size<=s.heap.objs.size
 funs:s.heap.FunFrames base outer
 frf:∀ b∈frs outer,H b=none
 hok:HOk P w H s.heap
 bare:AllBare s.gens
def CE (outer:List Env)(P:Program)(w:World)(H:Hp)(s:Shared)(Q:VK)(u:Value)(s':Shared):Prop :=
 ∃ v H',s'.os=s.os/\AllBare s'.gens/\Un (frs outer) [] H H' s.heap s'.heap/\HOk P w H' s'.heap/\RelV v u/\Q v H'
def CR (CX:CXT)(outer:List Env)(P:Program)(w:World)(H:Hp)(s:Shared)(Q:VK)(E:XK)(r:Result)(s':Shared):Prop :=
 match r with
 | .ok (.ret u)=>CE outer P w H s Q u s'
 | .ok _=>False
 | .error e=>CX outer H s E e s'
structure FnOk (P:Program)(w:World)(K:PySem.W.Frag)(mg:Str->Option Value)(base:Heap)(CX:CXT)(k:Nat)(f:Addr)(fd:FuncData)(ps:List Str)(sp:Sp):Prop where
 len:∀ vs H Q E,sp vs H Q E->vs.length=ps.length
 run:∀ (A:Around) (outer:List Env) (s:Shared) (H:Hp) (args:Args) (us:List Value) (vs:List V) (Q:VK) (E:XK),Room k A->Env0 P w K mg base A outer s H->BindsTo s fd args (ps.zip us)->Vals vs us->sp vs H Q E->
  codeAny (model P w) A (.call (.ref f) args) (CR CX outer P w H s Q E) s
theorem FnOk.mono {P:Program}{w:World}{K:PySem.W.Frag}{mg:Str->Option Value}{base:Heap}{CX:CXT}{j k:Nat}{f:Addr}{fd:FuncData}{ps:List Str}{sp:Sp}(F:FnOk P w K mg base CX j f fd ps sp)(h:j<=k) :
  FnOk P w K mg base CX k f fd ps sp:=⟨F.len,fun A outer s H args us vs Q E hr=>F.run A outer s H args us vs Q E (hr.mono h)⟩
theorem FnOk.imp {P:Program}{w:World}{K:PySem.W.Frag}{mg:Str->Option Value}{base:Heap}{CX:CXT}{k:Nat}{f:Addr}{fd:FuncData}{ps:List Str}{sp sp':Sp}(F:FnOk P w K mg base CX k f fd ps sp)
  (h:∀ vs H Q E,sp' vs H Q E->sp vs H Q E):FnOk P w K mg base CX k f fd ps sp' :=
 ⟨fun vs H Q E q=>F.len vs H Q E (h _ _ _ _ q),fun A outer s H args us vs Q E hr he hb hv hs=>F.run A outer s H args us vs Q E hr he hb hv (h _ _ _ _ hs)⟩
theorem Env0.in1 {P:Program}{w:World}{K:PySem.W.Frag}{mg:Str->Option Value}{base:Heap}{A:Around}{outer:List Env}{s:Shared}{H:Hp}(e:Env0 P w K mg base A outer s H) :
  Env0 P w K mg base A.in1 outer s H:=⟨e.frames,e.mod,e.bs,e.bsz,e.funs,e.frf,e.hok,e.bare⟩
section
variable {X:Cx}{pins:List (Addr×Obj)}{σ:St}{H:Hp}{s s':Shared}
theorem Inv.env0 (I:Inv X pins σ H s):Env0 X.prog X.w X.K X.mg X.base X.A X.stack s H :=
 ⟨I.ok.frames,I.ok.mod,I.bs,Nat.le_trans I.ok.bsz I.sz,I.stack,I.stkFree,I.hok,I.bare⟩
theorem Inv.after {Q:VK}{u:Value}(I:Inv X pins σ H s)(h:CE X.stack X.prog X.w H s Q u s'):EP X pins σ Q u s':=by
 obtain ⟨v,H',os,bare,un,hok,r,q⟩:=h
 obtain ⟨hh,g,d,t,os'⟩:=s'
 obtain rfl:os'=s.os:=os
 exact ⟨v,H',I.call (h':=hh) (g':=g) (d':=d) (t':=t) (ch:=[]) un hok bare (fun b z=>absurd z (by simp)),r,q⟩
end
def qf3 (sp:Sp)(dvs:List V)(E:XK)(t:TA):TE:=fun σ H Q=>t σ H fun vs H1=>sp (vs++dvs) H1 Q E
def Binds (K:PySem.W.Frag)(fd:FuncData)(ps:List Str)(ds:List Value):Prop :=
 ∀ (s:Shared) (us:List Value),K.In s.heap->(us++ds).length=ps.length->BindsTo s fd ⟨us,[]⟩ (ps.zip (us++ds))
theorem Binds.all {K:PySem.W.Frag}{fd:FuncData}{ps:List Str}(h:∀ us:List Value,us.length=ps.length->bindArgs fd ⟨us,[]⟩=pure (ps.zip us)):Binds K fd ps []:=fun s us _ hl=>by
 rw [List.append_nil] at hl ⊢
 exact .of_eq (h us hl)
def yr (CX:CXT)(X:Cx)(E:XK):Prop:=∀ (pins:List (Addr×Obj)) (σ:St) (H:Hp) (s:Shared) (e:Value) (s':Shared),Inv X pins σ H s->CX X.stack H s E e s'->X.xe e s'
section
variable {X:Cx}{CX:CXT}{k:Nat}{f C:Addr}{fd:FuncData}{ps:List Str}{sp:Sp}{dvs:List V}{ds:List Value}{E:XK}{x m:Str}{p pos apos:Pos}{e o:Expr}{es:List Expr}{ta:TE}{t:TA}
theorem qd1 {pins:List (Addr×Obj)}{σ:St}{H:Hp}{s:Shared}{Q:VK}{us:List Value}{vs:List V}(F:FnOk X.prog X.w X.K X.mg X.base CX k f fd ps sp)(hr:Room k X.A)(hb:Binds X.K fd ps ds)(hd:Vals dvs ds)(hx:yr CX X E)
  (I:Inv X pins σ H s) (r:Vals vs us) (h:sp (vs++dvs) H Q E):wpAny (model X.prog X.w) X.A (call (.ref f) us) (EP X pins σ Q) X.xe s:=by
 have r2:Vals (vs++dvs) (us++ds):=r.append hd
 have hl:(us++ds).length=ps.length:=by rw [← r2.length];exact F.len _ _ _ _ h
 refine wpAny_call (codeAny_mono (F.run X.A X.stack s H ⟨us,[]⟩ (us++ds) (vs++dvs) Q E hr I.env0 (hb s us I.kIn hl) r2 h) fun r s' hq=>?_)
 cases r with
 | error e=>exact hx pins σ H s e s' I hq
 | ok fl =>
  cases fl with
  | ret u=>exact I.after hq
  | next=>exact False.elim hq
  | brk=>exact False.elim hq
  | cont=>exact False.elim hq
theorem qb0 (F:FnOk X.prog X.w X.K X.mg X.base CX k f fd ps sp)(hr:Room k X.A)(hg:Gl X x)(hm:X.mg x=some (.ref f))(hk:PySem.W.keepIn X.K (.ref f)=true)(hb:Binds X.K fd ps ds)(hd:Vals dvs ds)(hx:yr CX X E)
  (ha:PA X (e::es) t) (hdb:(x==("__debug__" : Str))=false:=by decide) (he:starEach (e::es) X.env=(false,eval e X.env)::starEach es X.env:=by rfl) (hpl:(backTo pos (starEach es X.env)).any (·.1)=false:=by rfl) :
  PE X (.Call (.Name x p) (e::es) [] pos) (qf3 sp dvs E t):=by
 intro pins s σ H Q I h
 refine wpAny_Call_Name_kw (W0 I hg hm ?_ hdb)
 refine PySem.W.callWith_K (h₀:=X.base) I.ok.mod.kin hk (thn (ha pos pins s σ H _ I h) fun us s1 ⟨vs,H1,I1,r,q⟩=>⟨I1.kIn,?_⟩) he hpl
 exact qd1 F hr hb hd hx I1 r q
theorem qdS (F:FnOk X.prog X.w X.K X.mg X.base CX k f fd ps sp)(hr:Room k X.A)(hg:Gl X x)(hm:X.mg x=some (.ref f))(hk:PySem.W.keepIn X.K (.ref f)=true)(hb:Binds X.K fd ps ds)(hd:Vals dvs ds)(hx:yr CX X E)
  (hdb:(x==("__debug__" : Str))=false:=by decide):PE X (.Call (.Name x p) [] [] pos) (qf3 sp dvs E tNil):=by
 intro pins s σ H Q I h
 refine wpAny_Call_Name_kw (W0 I hg hm ?_ hdb)
 exact PySem.W.callWith_K0 I.kIn hk (qd1 (us:=[]) F hr hb hd hx I .nil h)
end
section
variable {X:Cx}{CX:CXT}{k:Nat}{f C:Addr}{fd:FuncData}{ps ks:List Str}{sp:Sp}{E:XK}{x m:Str}{p pos apos kpos:Pos}{e o:Expr}{es:List Expr}{kws:List Keyword}{te ta:TE}{t tk:TA}{nm:Option Str}
variable {g:List Value->List Value->List Value}{gV:List V->List V->List V}
end
structure FnScope (N P:List Str)(sc:Scope):Prop where
 kind:sc.kind=.function
 co:sc.isCoroutine=false
 gen:sc.isGenerator=false
 nd:N.Nodup
 pre:N.take P.length=P
 par:∀ x∈P,sc.names.lookup x=some .local\/sc.names.lookup x=some .cell
 nofree:∀ y∈sc.names,y.2≠.free
theorem wH {kindOf:Str->Option NameKind}{x:Str}:∀ {binds:List (Str×Value)} {m:Str->Option Value},(∀ v,(x,v)∉binds)->bindL kindOf binds m x=m x
 | [],_,_=>rfl
 | (n,v)::r,m,h=>by
  unfold bindL
  rw [wH fun w hw=>h w (List.mem_cons_of_mem _ hw)]
  split
  ·have:x≠n:=by rintro rfl;exact h v List.mem_cons_self
   simp [this]
  ·rfl
theorem wF {kindOf:Str->Option NameKind}{x:Str}:∀ {binds:List (Str×Value)} {m:Str->Option Value},(∀ v,(x,v)∉binds)->bindC kindOf binds m x=m x
 | [],_,_=>rfl
 | (n,v)::r,m,h=>by
  unfold bindC
  rw [wF fun w hw=>h w (List.mem_cons_of_mem _ hw)]
  split
  ·rfl
  ·have:x≠n:=by rintro rfl;exact h v List.mem_cons_self
   simp [this]
theorem wG {kindOf:Str->Option NameKind}{x:Str}{v:Value}:∀ {P:List Str} {vs:List Value} {i:Nat} {m:Str->Option Value},P.Nodup->P[i]?=some x->vs[i]?=some v->kindOf x=some .local->
  bindL kindOf (P.zip vs) m x=some v
 | [],_,_,_,_,h,_,_=>by simp at h
 | _::_,[],_,_,_,_,h,_=>by simp at h
 | p::P,w::vs,0,m,nd,h1,h2,hk=>by
  simp at h1 h2;subst h1;subst h2
  show bindL kindOf ((p,w)::P.zip vs) m p=_
  unfold bindL
  rw [wH fun v hv=>(List.nodup_cons.mp nd).1 (List.of_mem_zip hv).1,if_pos hk]
  simp
 | p::P,w::vs,i+1,m,nd,h1,h2,hk=>by
  show bindL kindOf ((p,w)::P.zip vs) m x=_
  unfold bindL
  exact wG (i:=i) (List.nodup_cons.mp nd).2 (by simpa using h1) (by simpa using h2) hk
theorem wD {kindOf:Str->Option NameKind}{x:Str}{v:Value}:∀ {P:List Str} {vs:List Value} {i:Nat} {m:Str->Option Value},P.Nodup->P[i]?=some x->vs[i]?=some v->kindOf x≠some .local->
  bindC kindOf (P.zip vs) m x=some v
 | [],_,_,_,_,h,_,_=>by simp at h
 | _::_,[],_,_,_,_,h,_=>by simp at h
 | p::P,w::vs,0,m,nd,h1,h2,hk=>by
  simp at h1 h2;subst h1;subst h2
  show bindC kindOf ((p,w)::P.zip vs) m p=_
  unfold bindC
  rw [wF fun v hv=>(List.nodup_cons.mp nd).1 (List.of_mem_zip hv).1,if_neg hk]
  simp
 | p::P,w::vs,i+1,m,nd,h1,h2,hk=>by
  show bindC kindOf ((p,w)::P.zip vs) m x=_
  unfold bindC
  exact wD (i:=i) (List.nodup_cons.mp nd).2 (by simpa using h1) (by simpa using h2) hk
def start (N:List Str)(vs:List V):St:=vs.map some++List.replicate (N.length-vs.length) none
def cxOf (CX:CXT)(P:Program)(w:World)(K:PySem.W.Frag)(mg:Str->Option Value)(base:Heap)(N:List Str)(qual:Str)(scope:Scope)(f:Addr)(cd:Value)(A:Around)(outer:List Env)(s:Shared)(H:Hp)(E:XK):Cx where
 prog:=P
 w:=w
 K:=K
 mg:=mg
 base:=base
 A:=A.deeper (envOfC qual scope s.heap.objs.size f cd)
 N:=N
 s₀:=s
 H₀:=H
 env:=envOfC qual scope s.heap.objs.size f cd
 outer:=outer
 stack:=envOfC qual scope s.heap.objs.size f cd::outer
 ex:=[]
 calm:=true
 fn:=fun _=>true
 pn:=[]
 xe:=fun e s'=>wpAny (model P w) (A.deeper (envOfC qual scope s.heap.objs.size f cd)) (leaving (envOfC qual scope s.heap.objs.size f cd) e) (fun _ s''=>CX outer H s E e s'') (fun e' s''=>CX outer H s E e' s'') s'
theorem qar {sc:Scope}{n:Nat}{x:Str}(h:sc.names.lookup x=some .cell):∃ c,(cellsFrom n sc.names []).lookup x=some c:=by
 have q:=PySem.W.cellsFrom_some sc.names n [] (.inl h)
 exact Option.isSome_iff_exists.mp q
theorem qcq {CX:CXT}{P:Program}{w:World}{K:PySem.W.Frag}{mg:Str->Option Value}{base:Heap}{N ps:List Str}{qual:Str}{scope:Scope}{f:Addr}{cd:Value}{A:Around}{outer:List Env}{s s1:Shared}{H:Hp}{E:XK}{us:List Value}{vs:List V}
  (S:FnScope N ps scope) (hd:A.handled=none) (e0:Env0 P w K mg base A outer s H) (hl:vs.length=ps.length) (r:Vals vs us)
  (x:InCallC s s.heap.objs.size (bindL (envOfC qual scope s.heap.objs.size f cd).kindOf (ps.zip us) fun _=>none) (cellsFrom (s.heap.objs.size+1) scope.names []) (bindC (envOfC qual scope s.heap.objs.size f cd).kindOf (ps.zip us) fun _=>none) s1) :
  Inv (cxOf CX P w K mg base N qual scope f cd A outer s H E) [] (start N vs) H s1:=by
 have hpl:ps.length<=N.length:=by have:=congrArg List.length S.pre;rw [List.length_take] at this;omega
 obtain ⟨h1,tk,rfl,hk⟩:=x.done
 have noA:∀ b:Addr,b∉(cxOf CX P w K mg base N qual scope f cd A outer s H E).ex:=fun b z=>absurd (show b∈([]:List Addr) from z) (by simp)
 refine ⟨⟨e0.mod,S.kind,rfl,rfl,Nat.le_refl _,fun y z c h1 h2=>?_,fun y hy=>?_,fun y c _ h=>?_,fun _=>hd,Around.frames_deeper e0.frames,.inr ⟨rfl,rfl⟩,fun b z=>absurd z (noA b),e0.bs,e0.bsz,fun b _ _=>noA b,fun b z=>absurd z (noA b),e0.funs,e0.frf⟩,
  rfl,e0.bare,Un.kept hk,⟨_,x.toInCall.ns,fun i y v h1 h2 h3=>?_⟩,fun y c h=>⟨_,x.cell y c h⟩,e0.hok.fresh (Nat.le_refl _),fun y c h=>?_,fun p hp=>absurd (show p∈([]:List (Addr×Obj)) from hp) (by simp),e0.hok.kept hk,?_⟩
 ·exact name_of_addr x.apart (PySem.mem_of_lookup h1) (PySem.mem_of_lookup h2)
 ·have hy:scope.names.lookup y=some .cell\/scope.names.lookup y=some .free:=hy
  rcases hy with hy|hy
  ·exact qar hy
  ·exact absurd rfl (S.nofree _ (PySem.mem_of_lookup hy))
 ·exact Nat.le_of_lt (x.above y c (PySem.mem_of_lookup h))
 ·have hi:i<vs.length:=by
   unfold start at h2
   by_cases hi:i<vs.length
   ·exact hi
   ·rw [List.getElem?_append_right (by simpa using hi)] at h2
    rw [List.getElem?_replicate] at h2
    split at h2<;>cases h2
  have ha:vs[i]?=some v:=by
   unfold start at h2
   rw [List.getElem?_append_left (by simpa using hi),List.getElem?_map] at h2
   cases e:vs[i]? with
   | none=>rw [e] at h2;cases h2
   | some a=>rw [e] at h2;cases h2;rfl
  obtain ⟨u,hu,rv⟩:=r.get ha
  have hp:ps[i]?=some y:=by
   rw [← S.pre,List.getElem?_take_of_lt (by omega)];exact h1
  have ndP:ps.Nodup:=by rw [← S.pre];exact S.nd.sublist (List.take_sublist _ _)
  refine ⟨u,rv,?_⟩
  rcases S.par y (List.mem_of_getElem? hp) with k|k
  ·exact .inl ⟨k,wG ndP hp hu k⟩
  ·obtain ⟨c,e⟩:=qar (n:=s.heap.objs.size+1) k
   refine .inr ⟨.inl k,c,e,?_⟩
   have q:=x.cell y c e
   rw [wD ndP hp hu (by show scope.names.lookup y≠_;rw [k];decide)] at q
   exact q
 ·exact e0.hok.fresh (Nat.le_of_lt (x.above y c (PySem.mem_of_lookup h)))
 ·unfold start
  show _=N.length
  rw [List.length_append,List.length_map,List.length_replicate]
  omega
theorem qfO {CX:CXT}{P:Program}{w:World}{K:PySem.W.Frag}{mg:Str->Option Value}{base:Heap}{k:Nat}{f:Addr}{name qual:Str}{params:Arguments}{body:List Stmt}{scope:Scope}{dV kV doc pm cdv ct oc:Value}{an od:Option Addr}
  {osl:Array (Option Value)} {N ps:List Str} {sp:Sp} (lk:K.lookup f=some ⟨oc,od,.func (PySem.W.fnOf name qual params body scope dV kV doc pm an cdv ct),osl⟩) (hcd:PySem.W.codeIn K cdv qual=true) (S:FnScope N ps scope)
  (len:∀ vs H Q E,sp vs H Q E->vs.length=ps.length)
  (hbody:∀ (A:Around) (outer:List Env) (s:Shared) (H:Hp) (vs:List V) (Q:VK) (E:XK),Room k (A.deeper (envOfC qual scope s.heap.objs.size f cdv))->sp vs H Q E->
   ∃ t,PSs (cxOf CX P w K mg base N qual scope f cdv A outer s H E) body t/\t { nx:=fun _ H'=>Q .non H',rt:=Q } (start N vs) H) :
  FnOk P w K mg base CX (k+1) f (PySem.W.fnOf name qual params body scope dV kV doc pm an cdv ct) ps sp:=by
 refine ⟨len,fun A outer s H args us vs Q E hr e0 hb r hsp=>?_⟩
 have hl:=len _ _ _ _ hsp
 have KX:K.In s.heap:=e0.mod.kin.keeps fun b o e=>(e0.bs b o e).1
 have lim:s.heap.NoLimit:=e0.mod.nolimit.keeps fun b o e=>(e0.bs b o e).1
 have hkind:∀ y∈ps.zip us,scope.names.lookup y.1=some .local\/(scope.names.lookup y.1=some .cell/\((cellsFrom (s.heap.objs.size+1) scope.names []).lookup y.1).isSome=true):=fun ⟨n,v⟩ hy=>by
  rcases S.par n (List.of_mem_zip hy).1 with q|q
  ·exact .inl q
  ·exact .inr ⟨q,PySem.W.cellsFrom_some _ _ _ (.inl q)⟩
 refine codeAny_call_function hr.depth (KX _ _ lk) rfl S.co S.gen rfl (PySem.W.codeRec_of KX hcd) (hb _ _ _ _ ?_)
 refine wpAny_newFunctionEnv_cells S.kind hkind fun env he s1 x=>?_
 subst he
 refine ⟨lim.keeps x.toInCall.keep,codeAny_func ?_⟩
 obtain ⟨t,ht,hq⟩:=hbody A outer s H vs Q E (hr.deeper _) hsp
 have I:Inv (cxOf CX P w K mg base N qual scope f cdv A outer s H E) [] (start N vs) H s1:=qcq S hr.hd e0 hl r x
 refine wpAny_mono (ht [] s1 (start N vs) H _ I hq) (fun fl s' hs=>?_) fun e s' hs=>hs
 have fin:∀ {σ':St} {H':Hp} {v:V} {u:Value},Inv (cxOf CX P w K mg base N qual scope f cdv A outer s H E) [] σ' H' s'->RelV v u->Q v H'->CE outer P w H s Q u s' :=
  fun {σ' H' v u} J rv q=>⟨v,H',J.os,J.bare,J.base,J.hok,rv,q⟩
 cases fl with
 | ret u =>
  obtain ⟨v,σ',H',J,rv,q⟩:=hs
  exact fin J rv q
 | next =>
  obtain ⟨σ',H',J,q⟩:=hs
  exact fin (v:=V.non) (u:=Value.none) J rfl q
 | brk =>
  obtain ⟨_,_,_,q⟩:=hs
  exact False.elim q
 | cont =>
  obtain ⟨_,_,_,q⟩:=hs
  exact False.elim q
end L2
namespace L2
open PySem PySem.Spec PyProof.Rows
section
variable {X:Cx}{x:Str}{p pos:Pos}{e:Expr}{es:List Expr}{t:TA}{id T:String}{r:List V->Hp->VK->Prop}
def tCB (r:List V->Hp->VK->Prop)(t:TA):TE:=fun σ H Q=>t σ H fun vs H1=>r vs H1 Q
theorem YZ (hc:jx X (.builtin id) r)(hg:Gl X x)(hm:X.mg x=none)(hv:bootBuiltins x=some (.builtin id))(ha:PA X (e::es) t)(hn:x ≠ "__name__" := by decide)(hdb:(x==("__debug__" : Str))=false:=by decide)
  (he:starEach (e::es) X.env=(false,eval e X.env)::starEach es X.env:=by rfl) (hpl:(backTo pos (starEach es X.env)).any (·.1)=false:=by rfl):PE X (.Call (.Name x p) (e::es) [] pos) (tCB r t):=by
 intro pins s σ H Q I h
 refine wpAny_Call_Name_kw (YH I hg hm hv ?_ hn hdb)
 exact PyProof.Rows.callWith_builtin1 (thn (ha pos pins s σ H _ I h) fun us s1 ⟨vs,H1,I1,r1,q1⟩=>hc pins s1 σ H1 vs us Q I1 r1 q1) he hpl
theorem qcF (hc:jx X (.type T) r)(hg:Gl X x)(hm:X.mg x=none)(hv:bootBuiltins x=some (.type T))(ha:PA X (e::es) t)(hn:x ≠ "__name__" := by decide)(hdb:(x==("__debug__" : Str))=false:=by decide)
  (he:starEach (e::es) X.env=(false,eval e X.env)::starEach es X.env:=by rfl) (hpl:(backTo pos (starEach es X.env)).any (·.1)=false:=by rfl):PE X (.Call (.Name x p) (e::es) [] pos) (tCB r t):=by
 intro pins s σ H Q I h
 refine wpAny_Call_Name_kw (YH I hg hm hv ?_ hn hdb)
 exact PyProof.Rows.callWith_type1 (thn (ha pos pins s σ H _ I h) fun us s1 ⟨vs,H1,I1,r1,q1⟩=>hc pins s1 σ H1 vs us Q I1 r1 q1) he hpl
end
end L2
namespace HT
open PySem PyProof.Rows
def lexLt:List Int->List Int->Bool
 | [],[]=>false
 | [],_::_=>true
 | _::_,[]=>false
 | x::xs,y::ys=>if x=y then lexLt xs ys else decide (x<y)
theorem Zg (x y:Int)(xs ys:List Int):lexLt (x::xs) (y::ys)=if x=y then lexLt xs ys else decide (x<y):=rfl
theorem qa1 (A:Around)(s:Shared)(a:Int)(t:Tok)(c:Int)(u:Tok)(prog:Program)(w:World)(E:Value->Shared->Prop)(Q:Value->Shared->Prop)(h:Q (.bool (decide (a<c))) s) :
  wpAny (model prog w) A (richCompare .Lt (.int a t) (.int c u)) Q E s :=
 (PyProof.Rows.lt_int h:wpAny (model prog w) A (compareOp .Lt (.int a t) (.int c u)) Q E s)
section
open PySem.SeqAt
open PySem.AutoSeq1 (wpAny_loadPart')
open PySem.MeetsSeq PySem.MeetsSeq2 PySem.MeetsSeq3
end
section
variable {prog:Program}{w:World}{A:Around}{E:Value->Shared->Prop}{s:Shared}
theorem qeu {t b:Addr}{vs ws:List Value}{Q:Value->Shared->Prop}(ht:IsTup s.heap t vs.toArray)(hb:IsTup s.heap b ws.toArray)(hv:vs≠[])
  (h1:ws=[]->Q (.ref t) s) (h2:ws≠[]->Q (.ref s.heap.objs.size) { s with heap:=s.heap.push { cls:=.type "tuple", data:=.seq (vs++ws).toArray } })
  (hsz:vs.length+ws.length<=sizeLine):wpAny (model prog w) A (binaryOp .Add (.ref t) (.ref b)) Q E s:=by
 obtain ⟨⟨cls,dd,data,sl⟩,ho,hc,n,hd⟩:=id ht
 obtain ⟨⟨cls2,dd2,data2,sl2⟩,ho2,hc2,n2,hd2⟩:=id hb
 simp only at hc hd hc2 hd2
 subst hc hd hc2 hd2
 have e:vs.toArray++ws.toArray=(vs++ws).toArray:=by simp
 by_cases hw:ws=[]
 ·exact concat_meets ⟨_,ho,rfl⟩ ⟨_,ho2,rfl⟩ noFill_tuple_add seq_tuple_add PySem.F.slot_tuple_add PySem.F.entry_tuple_add (PySem.F.args_tuple_add_2 _ _)
   (tuple_addW1 t b vs.toArray ws.toArray n n2 dd dd2 sl sl2 (by simpa using hv) (by simp [hw])) ⟨ho,ho2,h1 hw⟩
 ·refine concat_meets ⟨_,ho,rfl⟩ ⟨_,ho2,rfl⟩ noFill_tuple_add seq_tuple_add PySem.F.slot_tuple_add PySem.F.entry_tuple_add (PySem.F.args_tuple_add_2 _ _)
   (tuple_addW2 t b vs.toArray ws.toArray n n2 dd dd2 sl sl2 (by simpa using hv) (by simpa using hw) (by rw [List.size_toArray,List.size_toArray];exact hsz)) ⟨ho,ho2,?_⟩
  rw [e]
  exact h2 hw
def sIx (n d:Nat):Option Int->Nat
 | none=>d
 | some v=>if v<0 then (v+(n:Int)).toNat else min v.toNat n
theorem qb5 (n d k:Nat):sIx n d (some (k:Int))=min k n:=by
 show (if (k:Int)<0 then ((k:Int)+(n:Int)).toNat else min (k:Int).toNat n)=min k n
 rw [if_neg (by omega),Int.toNat_natCast]
end
end HT
namespace L2
open PySem PySem.Spec PyProof.Rows
abbrev TO:=St->Hp->(Option Int->Hp->Prop)->Prop
section
variable {X:Cx}{e:Expr}{te:TE}{lo hi:Option Expr}{tl th:TO}{pos p2:Pos}
def SlR (X:Cx)(r:V->Option Int->Option Int->Hp->VK->Prop):Prop :=
 ∀ (pins:List (Addr×Obj)) (s:Shared) (σ:St) (H:Hp) (x:V) (v vl vu:Value) (lo hi:Option Int) (sl:Addr) (Q:VK),Inv X pins σ H s->RelV x v->s.heap.IsSliceOf sl vl vu .none->IsPart vl lo->IsPart vu hi->r x lo hi H Q->
  ∃ T id,typeLookup (.type T) "__getitem__" = pure (some (.builtin id))/\s.TypeIs v T/\wpAny (model X.prog X.w) X.A (getItem v (.ref sl)) (EP X pins σ Q) X.xe s
theorem SlR.or {r r':V->Option Int->Option Int->Hp->VK->Prop}(h:SlR X r)(h':SlR X r'):SlR X (fun x lo hi H Q=>r x lo hi H Q\/r' x lo hi H Q):=by
 intro pins s σ H x v vl vu lo hi sl Q I rx hs pl pu q
 rcases q with q|q
 ·exact h pins s σ H x v vl vu lo hi sl Q I rx hs pl pu q
 ·exact h' pins s σ H x v vl vu lo hi sl Q I rx hs pl pu q
def qfV (K:PySem.W.Frag):R2:=fun x y H Q=>∃ a b xs ys,x=.ref a/\y=.ref b/\SqT K H a xs/\SqT K H b ys/\xs≠[]/\xs.length+ys.length<=sizeLine/\
 (ys=[]->Q (.ref a) H)/\(ys≠[]->∀ p,H p=none->Q (.ref p) (upd H p (.tup (xs++ys))))
theorem Vals.nil_iff {xs:List V}{us:List Value}(r:Vals xs us):us=[]↔xs=[]:=by
 cases r with
 | nil=>simp
 | cons _ _=>simp
theorem qfb:OpR X (binaryOp .Add) (qfV X.K):=by
 intro pins s σ H x y v u Q I rx ry h
 obtain ⟨a,b,xs,ys,rfl,rfl,ha,hb,hx,hz,q1,q2⟩:=h
 cases rx
 cases ry
 obtain ⟨its,r1,p1,_⟩:=I.tuple ha
 obtain ⟨its2,r2,p2,_⟩:=I.tuple hb
 refine HT.qeu p1 p2 (fun z=>hx (r1.nil_iff.mp z)) (fun z=>⟨.ref a,H,I,rfl,q1 (r2.nil_iff.mp z)⟩) (fun z=>?_) (by rw [← r1.length,← r2.length];exact hz)
 refine ⟨.ref s.heap.objs.size,_,I.laid (t':=s.toks) (o:=.tup (xs++ys)) (fun b ob q=>Heap.get?_push_of_some _ q) (Nat.le_refl _) ?_,rfl,q2 (fun w=>z (r2.nil_iff.mpr w)) _ (I.hok.fresh (Nat.le_refl _))⟩
 exact ⟨by rw [List.length_append];exact hz,_,r1.append r2,IsTup.new _ _⟩
end
end L2
namespace L2
open PySem PySem.Spec PyProof.Rows
def ixN (n:Nat)(i:Int):Option Nat:=if 0<=i then (if i<n then some i.toNat else none) else if -(n:Int)<=i then some (i+n).toNat else none
def atI {α:Type}(xs:List α)(i:Int):Option α:=(ixN xs.length i).bind fun j=>xs[j]?
theorem qeS {n:Nat}{i:Int}{j:Nat}(h:ixN n i=some j):seqIndex? i n=some j/\j<n/\-(n:Int)<=i/\i<n:=by
 unfold ixN at h
 by_cases h0:0<=i
 ·rw [if_pos h0] at h
  by_cases h1:i<n
  ·rw [if_pos h1] at h
   have e:i.toNat=j:=Option.some.inj h
   exact ⟨by rw [seqIndex_of h0 h1,e],by omega,by omega,h1⟩
  ·rw [if_neg h1] at h;cases h
 ·rw [if_neg h0] at h
  by_cases h1:-(n:Int)<=i
  ·rw [if_pos h1] at h
   have e:(i+n).toNat=j:=Option.some.inj h
   exact ⟨by rw [seqIndex_neg (by omega) h1,e],by omega,h1,by omega⟩
  ·rw [if_neg h1] at h;cases h
theorem qby {α:Type}{xs:List α}{i:Int}{v:α}(h:atI xs i=some v):∃ j,seqIndex? i xs.length=some j/\xs[j]?=some v/\j<xs.length/\-(xs.length:Int)<=i/\i<xs.length:=by
 unfold atI at h
 cases e:ixN xs.length i with
 | none=>rw [e] at h;cases h
 | some j =>
  rw [e] at h
  obtain ⟨h1,h2,h3,h4⟩:=qeS e
  exact ⟨j,h1,h,h2,h3,h4⟩
theorem qbz {α:Type}{xs:List α}{j:Nat}{v:α}(h:xs[j]?=some v):atI xs (j:Int)=some v:=by
 have hj:j<xs.length:=(List.getElem?_eq_some_iff.mp h).1
 have e:ixN xs.length (j:Int)=some j:=by
  unfold ixN
  rw [if_pos (by omega),if_pos (by omega)];simp
 unfold atI;rw [e];exact h
theorem qcW {α:Type}(xs:List α)(v:α):atI (xs++[v]) (-1)=some v:=by
 have hl:(xs++[v]).length=xs.length+1:=by simp
 have e:ixN (xs++[v]).length (-1)=some xs.length:=by
  unfold ixN
  rw [hl,if_neg (by decide),if_pos (by omega)]
  congr 1
  omega
 unfold atI
 rw [e]
 show (xs++[v])[xs.length]?=some v
 simp
def qbu (b:Expr):Prop:=∀ o i,subscripted b false o i=operate [o,i] (getItem o i)
def IxR (X:Cx)(r:R2):Prop :=
 ∀ (value slice:Expr) (pins:List (Addr×Obj)) (s:Shared) (σ:St) (H:Hp) (x y:V) (v u:Value) (Q:VK),Inv X pins σ H s->RelV x v->RelV y u->r x y H Q->
  subscripted slice false v u=operate [v,u] (getItem v u)->wpAny (model X.prog X.w) X.A (subscriptTail value slice v u) (EP X pins σ Q) X.xe s
def MtR (X:Cx)(id:String)(r:V->List V->Hp->VK->Prop):Prop :=
 ∀ (pins:List (Addr×Obj)) (s:Shared) (σ:St) (H:Hp) (x:V) (xs:List V) (v:Value) (us:List Value) (Q:VK),Inv X pins σ H s->RelV x v->Vals xs us->r x xs H Q->
  wpAny (model X.prog X.w) X.A (call (.builtin id) (v::us)) (EP X pins σ Q) X.xe s
section
variable {X:Cx}{a b:Expr}{ta tb:TE}{pos:Pos}
theorem IxR.or {r r':R2}(h:IxR X r)(h':IxR X r'):IxR X (fun x y H Q=>r x y H Q\/r' x y H Q):=by
 intro value slice pins s σ H x y v u Q I rx ry q hs
 rcases q with q|q
 ·exact h value slice pins s σ H x y v u Q I rx ry q hs
 ·exact h' value slice pins s σ H x y v u Q I rx ry q hs
theorem MtR.or {id:String}{r r':V->List V->Hp->VK->Prop}(h:MtR X id r)(h':MtR X id r'):MtR X id (fun x xs H Q=>r x xs H Q\/r' x xs H Q):=by
 intro pins s σ H x xs v us Q I rx rs q
 rcases q with q|q
 ·exact h pins s σ H x xs v us Q I rx rs q
 ·exact h' pins s σ H x xs v us Q I rx rs q
theorem pe_ix {r:R2}(hr:IxR X r)(ha:PE X a ta)(hb:PE X b tb)(hs:qbu b):PE X (.Subscript a b pos) (tOp r ta tb):=by
 intro pins s σ H Q I h
 exact Subscript_ (binT ha hb I h fun v u s2 x y H2 I2 rx ry q=>hr a b pins s2 σ H2 x y v u Q I2 rx ry q (hs _ _))
def rIxL (K:PySem.W.Frag):R2:=fun x y H Q=>∃ p xs i v,x=.ref p/\y=.int i/\SqL K H p xs/\atI xs i=some v/\Q v H
def rIxT (K:PySem.W.Frag):R2:=fun x y H Q=>∃ p xs i v,x=.ref p/\y=.int i/\SqT K H p xs/\atI xs i=some v/\Q v H
theorem qeT:IxR X (rIxL X.K):=by
 intro value slice pins s σ H x y v u Q I rx ry h hs
 obtain ⟨p,xs,i,z,rfl,rfl,hq,he,q⟩:=h
 cases rx
 obtain ⟨t,rfl⟩:=ry
 obtain ⟨its,r,pl,hz⟩:=I.list hq
 obtain ⟨j,h1,h2,h3,h4,h5⟩:=qby he
 obtain ⟨w,ew,rw'⟩:=r.get h2
 have hl:=r.length
 have hn:=qbd
 have fin:EP X pins σ Q w s:=⟨z,H,I,rw',q⟩
 by_cases h0:0<=i
 ·have hj:i.toNat=j:=by
   rw [seqIndex_of h0 h5] at h1
   exact Option.some.inj h1
  exact item_listR pl.isList h0 (by omega) (by rw [hj];simpa using ew) fin hs
 ·have hj:(i+(its.toArray.size:Int)).toNat=j:=by
   rw [seqIndex_neg (by omega) h4] at h1
   rw [List.size_toArray,← hl]
   exact Option.some.inj h1
  exact subscriptTail_builtinR (x:=w) pl.isList.typeIs slot_list_getitem.lookup
   (wpAny_getItem_list_neg (Q:=fun r s'=>r=w/\EP X pins σ Q r s') pl.isList (by omega) (by rw [List.size_toArray]<;>omega) (by omega) (by rw [hj];simpa using ew) ⟨rfl,fin⟩) hs
theorem qgC:IxR X (rIxT X.K):=by
 intro value slice pins s σ H x y v u Q I rx ry h hs
 obtain ⟨p,xs,i,z,rfl,rfl,hq,he,q⟩:=h
 cases rx
 obtain ⟨t,rfl⟩:=ry
 obtain ⟨its,r,pl,hz⟩:=I.tuple hq
 obtain ⟨j,h1,h2,h3,h4,h5⟩:=qby he
 obtain ⟨w,ew,rw'⟩:=r.get h2
 have hl:=r.length
 have hn:=qbd
 have fin:EP X pins σ Q w s:=⟨z,H,I,rw',q⟩
 exact subscriptTail_builtinR (x:=w) pl.typeIs slot_tuple_getitem.lookup
  (getItem_tuple (j:=j) (Q:=fun r s'=>r=w/\EP X pins σ Q r s') pl (by omega) (by omega) (by rw [List.size_toArray,← hl];exact h1) (by simpa using ew) ⟨rfl,fin⟩) hs
theorem Inv.lst {pins:List (Addr×Obj)}{σ:St}{H:Hp}{s:Shared}{p:Addr}{xs:List V}(I:Inv X pins σ H s)(h:H p=some (.lst xs)) :
  ∃ (its:List Value) (n:Nat),Vals xs its/\s.heap.get? p=some { cls:=.type "list", data:=.seq its.toArray n }/\xs.length<=sizeLine:=by
 obtain ⟨z,its,n,r,e⟩:=I.hok p _ h
 exact ⟨its,n,r,e,z⟩
theorem Wn:jx X (.builtin "len") (fun xs H Q=>∃ p ys,xs=[.ref p]/\(SqL X.K H p ys\/SqT X.K H p ys)/\Q (.int ys.length) H):=by
 intro pins s σ H xs us Q I r h
 obtain ⟨p,ys,rfl,hq,q⟩:=h
 obtain ⟨u,rfl,rx⟩:=vals1 r
 cases rx
 have hn:=qbd
 rcases hq with hq|hq
 ·obtain ⟨its,r',pl,hz⟩:=I.list hq
  have hlen:=r'.length
  exact Calls.call_len_list pl.isList (by simp only [List.size_toArray]<;>omega) ⟨.int ys.length,H,I.tok _,⟨s.toks+1,by rw [List.size_toArray,hlen]⟩,q⟩
 ·obtain ⟨its,r',pl,hz⟩:=I.tuple hq
  have hlen:=r'.length
  exact len_tuple pl (by simp only [List.size_toArray]<;>omega) ⟨.int ys.length,H,I.tok _,⟨s.toks+1,by rw [List.size_toArray,hlen]⟩,q⟩
theorem jx.or {f:Value}{r r':List V->Hp->VK->Prop}(h:jx X f r)(h':jx X f r'):jx X f (fun xs H Q=>r xs H Q\/r' xs H Q):=by
 intro pins s σ H xs us Q I rs q
 rcases q with q|q
 ·exact h pins s σ H xs us Q I rs q
 ·exact h' pins s σ H xs us Q I rs q
theorem Wo:jx X (.type "list") (fun xs H Q=>∃ p ys,xs=[.ref p]/\(SqL X.K H p ys\/SqT X.K H p ys)/\∀ l,H l=none->Q (.ref l) (upd H l (.lst ys))):=by
 intro pins s σ H xs us Q I r h
 obtain ⟨p,ys,rfl,hq,q⟩:=h
 obtain ⟨u,rfl,rx⟩:=vals1 r
 cases rx
 have fin:∀ (its:List Value),Vals ys its->ys.length<=sizeLine->∀ (h':Heap) (c':Nat),(∀ b o',s.heap.get? b=some o'->h'.get? b=some o')->
   h'.get? s.heap.objs.size=some { cls:=.type "list", dict:=none,data:=.seq its.toArray c',slots:=#[] }->EP X pins σ Q (.ref s.heap.objs.size) { s with heap:=h' }:=fun its r' hz h' c' kp e =>
  ⟨.ref s.heap.objs.size,_,I.laid (t':=s.toks) kp (Nat.le_refl _) (show Ze X.prog X.w _ h' _ (.lst ys) from ⟨hz,its,c',r',e⟩),rfl,q _ (I.hok.fresh (Nat.le_refl _))⟩
 rcases hq with hq|hq
 ·obtain ⟨its,r',pl,hz⟩:=I.list hq
  have hlen:=r'.length
  obtain ⟨o,ho,hc,n,hd⟩:=pl.isList
  exact call_list_seq p (.inl rfl) ho hc hd (fun h' c' kp e=>fin its r' hz h' c' kp e) (by simp only [List.size_toArray]<;>omega)
 ·obtain ⟨its,r',pl,hz⟩:=I.tuple hq
  have hlen:=r'.length
  obtain ⟨o,ho,hc,n,hd⟩:=pl
  exact call_list_seq p (.inr rfl) ho hc hd (fun h' c' kp e=>fin its r' hz h' c' kp e) (by simp only [List.size_toArray]<;>omega)
theorem Y8:jx X (.type "tuple") (fun xs H Q=>∃ p ys,xs=[.ref p]/\((SqL X.K H p ys/\∀ l,H l=none->Q (.ref l) (upd H l (.tup ys)))\/(SqT X.K H p ys/\Q (.ref p) H))):=by
 intro pins s σ H xs us Q I r h
 obtain ⟨p,ys,rfl,h⟩:=h
 obtain ⟨u,rfl,rx⟩:=vals1 r
 cases rx
 rcases h with ⟨hq,q⟩|⟨hq,q⟩
 ·obtain ⟨its,r',pl,hz⟩:=I.list hq
  have hlen:=r'.length
  refine call_tuple_list pl.isList (fun h' kp=>?_) (by simp only [List.size_toArray]<;>omega)
  have I1:Inv X pins σ H { s with heap:=h' }:=I.kept (t':=s.toks) kp
  have I2:Inv X pins σ (upd H h'.objs.size (.tup ys)) { s with heap:=h'.push { cls:=.type "tuple", data:=.seq its.toArray } } :=
   I1.laid (t':=s.toks) (fun b o e=>Heap.get?_push_of_some _ e) (Nat.le_refl _) (show Ze X.prog X.w _ _ _ (.tup ys) from ⟨hz,its,r',IsTup.new _ _⟩)
  exact ⟨.ref h'.objs.size,_,I2,rfl,q _ (I1.hok.fresh (Nat.le_refl _))⟩
 ·obtain ⟨its,r',pl,hz⟩:=I.tuple hq
  exact call_tuple_same pl ⟨.ref p,H,I,rfl,q⟩
def tyV (K:PySem.W.Frag)(T:String)(x:V)(H:Hp):Prop:=match x with
 | .str _=>T = "str"
 | .int _=>T = "int"
 | .ref p=>(T = "list"/\∃ xs,SqL K H p xs)\/(T = "tuple"/\∃ o,K.lookup p=some o/\o.cls=.type "tuple"/\o.dict=none)\/
   (T = "dict"/\((∃ kvs,H p=some (.dK kvs))\/∃ kvs,H p=some (.dT kvs)))\/(T = "set"/\∃ S n,H p=some (.set S n))
 | _=>False
theorem qhN {pins:List (Addr×Obj)}{σ:St}{H:Hp}{s:Shared}{T:String}{x:V}{v:Value}(I:Inv X pins σ H s)(r:RelV x v)(ty:tyV X.K T x H) :
  s.TypeIs v T/\∀ a,v=.ref a->∃ ob,s.heap.get? a=some ob/\ob.dict=none:=by
 cases x with
 | str z =>
  obtain ⟨t,rfl⟩:=r
  cases (show T = "str" from ty)
  exact ⟨typeIs_str s z t,fun _ e=>nomatch e⟩
 | int i =>
  obtain ⟨t,rfl⟩:=r
  cases (show T = "int" from ty)
  exact ⟨typeIs_int s i t,fun _ e=>nomatch e⟩
 | ref p =>
  cases r
  rcases ty with ⟨rfl,xs,hq⟩|⟨rfl,o,hk,hc,hd⟩|⟨rfl,hk⟩|⟨rfl,S,n,hk⟩
  ·obtain ⟨its,_,pl,_⟩:=I.list hq
   refine ⟨pl.isList.typeIs,fun a e=>?_⟩
   cases e
   obtain ⟨o,n,e,c,hd,_⟩:=pl
   exact ⟨o,e,hd⟩
  ·refine ⟨⟨o,I.kIn p o hk,hc⟩,fun a e=>?_⟩
   cases e
   exact ⟨o,I.kIn _ o hk,hd⟩
  ·have z:∃ o,s.heap.get? p=some o/\o.ExactDict:=by
    rcases hk with ⟨kvs,hk⟩|⟨kvs,hk⟩
    ·obtain ⟨_,_,_,_,o,_,_,e,ex,_⟩:=I.hok p _ hk
     exact ⟨o,e,ex⟩
    ·obtain ⟨_,_,_,_,o,_,_,e,ex,_⟩:=I.hok p _ hk
     exact ⟨o,e,ex⟩
   obtain ⟨o,e,ex⟩:=z
   refine ⟨⟨o,e,ex.1⟩,fun a e2=>?_⟩
   cases e2
   exact ⟨o,e,ex.2.1⟩
  ·obtain ⟨o,_,_,_,e,ex,_⟩:=I.hok p _ hk
   refine ⟨⟨o,e,ex.1⟩,fun a e2=>?_⟩
   cases e2
   exact ⟨o,e,ex.2.1⟩
 | _=>exact False.elim ty
def tBM (K:PySem.W.Frag)(T:String)(r:V->List V->Hp->VK->Prop)(to:TE)(t:TA):TE:=fun σ H Q=>to σ H fun x H1=>tyV K T x H1/\t σ H1 fun xs H2=>r x xs H2 Q
variable {o e:Expr}{es:List Expr}{to:TE}{t:TA}{name:Str}{apos cpos:Pos}{T id:String}{r:V->List V->Hp->VK->Prop}
theorem pe_bm (pa:PlainAttrs T)(slot:Slot T name id)(hty:typeOf (.builtin id)=pure (.type "method_descriptor"))(hm:MtR X id r)(ho:PE X o to)(ha:PA X (e::es) t)
  (hbase:attributeBase o name X.env (eval o X.env)=eval o X.env:=by rfl)
  (hfew:((backTo cpos (starEach (e::es) X.env)).all (fun x=>!x.1)&&(backToKw cpos (keywordEach [] X.env)).all (fun x=>x.1.isSome)
   && decide ((e::es).length+([]:List Keyword).length+(if ([]:List Keyword).isEmpty then 0 else 1)<30))=true:=by rfl)
  (hline:(apos.endLine==cpos.line)=true:=by rfl) (hs:starEach (e::es) X.env=(false,eval e X.env)::starEach es X.env:=by rfl) (hplain:(backTo cpos (starEach es X.env)).any (·.1)=false:=by rfl) :
  PE X (.Call (.Attribute o name apos) (e::es) [] cpos) (tBM X.K T r to t):=by
 intro pins s σ H Q I h
 refine wpAny_Call_method_late hbase hfew hline rfl (thn (ho pins s σ H _ I h) fun v s1 ⟨x,H1,I1,r1,ty,q1⟩=>?_)
 obtain ⟨h1,h2⟩:=qhN I1 r1 ty
 refine ⟨T,id,pa,slot,hty,h1,h2,?_⟩
 have hA:=ha cpos pins s1 σ H1 _ I1 q1
 rw [hs] at hA ⊢
 refine Calls.callWith_builtin (by show (false||(backTo cpos (starEach es X.env)).any (·.1))=false;rw [hplain]<;>rfl) (Calls.evalArgs_plain ?_)
 exact thn hA fun us s2 ⟨vs,H2,I2,r2,q2⟩=>hm pins s2 σ H2 x vs v us Q I2 r1 r2 q2
end
end L2
namespace L2
open PySem PySem.Spec PyProof.Rows
def MtM (X:Cx)(id:String)(r:V->List V->Hp->VK->Prop):Prop :=
 ∀ (pins:List (Addr×Obj)) (s:Shared) (σ:St) (H:Hp) (x:V) (xs:List V) (v:Value) (us:List Value) (Q:VK),Inv X pins σ H s->RelV x v->Vals xs us->r x xs H Q->
  wpAny (model X.prog X.w) X.A (call (.builtin id) (v::us)) (EP X pins σ Q) X.xe s
theorem Vals.one:∀ {x:V} {us:List Value},Vals [x] us->∃ u,us=[u]/\RelV x u
 | _,_,.cons r .nil=>⟨_,rfl,r⟩
theorem Vals.two:∀ {x y:V} {us:List Value},Vals [x,y] us->∃ u v,us=[u,v]/\RelV x u/\RelV y v
 | _,_,_,.cons r (.cons q .nil)=>⟨_,_,rfl,r,q⟩
theorem Vals.zero:∀ {us:List Value},Vals [] us->us=[]
 | _,.nil=>rfl
theorem Vals.dropLast {xs:List V}{us:List Value}(h:Vals xs us):Vals xs.dropLast us.dropLast:=by
 induction h with
 | nil=>exact .nil
 | cons r t ih =>
  cases t with
  | nil=>exact .nil
  | cons q t'=>exact .cons r ih
theorem Vals.eraseIdx:∀ {xs:List V} {us:List Value} (i:Nat),Vals xs us->Vals (xs.eraseIdx i) (us.eraseIdx i)
 | _,_,_,.nil=>.nil
 | _,_,0,.cons _ t=>t
 | _,_,i+1,.cons r t=>.cons r (Vals.eraseIdx i t)
section
variable {X:Cx}{pins:List (Addr×Obj)}{σ:St}{H:Hp}{s:Shared}{l b:Addr}{xs ys zs:List V}
theorem Inv.lset {its its':List Value}{n:Nat}{f:Array Value->Array Value}{t':Nat}(I:Inv X pins σ H s)(hH:H l=some (.lst xs))
  (e:s.heap.get? l=some { cls:=.type "list", data:=.seq its.toArray n }) (hf:f its.toArray=its'.toArray) (hv:Vals ys its') (hz:ys.length<=sizeLine) :
  Inv X pins σ (upd H l (.lst ys)) { s with heap:=s.heap.update l (Obj.mapSeq f),toks:=t' }:=by
 have q:=PySem.IsL.update e f
 rw [hf] at q
 refine I.write (x:=l) (e:=l) (by rw [hH];exact trivial) (.inl rfl) (fun b' u hb hu=>(Heap.get?_update_other s.heap (Obj.mapSeq f) (Ne.symm hb)).trans hu) ⟨_,q⟩ ?_
 exact ⟨hz,its',_,hv,q⟩
theorem Inv.lnew {its:List Value}{t':Nat}(I:Inv X pins σ H s)(hv:Vals ys its)(hz:ys.length<=sizeLine) :
  Inv X pins σ (upd H s.heap.objs.size (.lst ys)) { s with heap:=s.heap.push { cls:=.type "list", data:=.seq its.toArray },toks:=t' } :=
 I.laid (fun _ _ q=>Heap.get?_push_of_some _ q) (Nat.le_refl _) ⟨hz,its,0,hv,Heap.get?_push_size _ rfl⟩
theorem Inv.fresh (I:Inv X pins σ H s):H s.heap.objs.size=none:=I.hok.fresh (Nat.le_refl _)
theorem Inv.lstM (I:Inv X pins σ H s)(hH:H l=some (.lst xs)):xs.length<=sizeLine/\∃ (its:List Value) (n:Nat),Vals xs its/\xs.length=its.length/\s.heap.get? l=some { cls:=.type "list", data:=.seq its.toArray n }:=by
 obtain ⟨z,its,n,r,e⟩:=I.hok l _ hH
 exact ⟨z,its,n,r,r.length,e⟩
end
section
variable {X:Cx}
def qfv:V->List V->Hp->VK->Prop:=fun x vs H Q=>∃ l xs y,x=.ref l/\vs=[y]/\H l=some (.lst xs)/\xs.length<sizeLine/\Q .non (upd H l (.lst (xs++[y])))
theorem qcC:MtM X "list.append" qfv:=by
 intro pins s σ H x vs v us Q I rx rv h
 obtain ⟨l,xs,y,rfl,rfl,hH,hz,q⟩:=h
 cases rx
 obtain ⟨u,rfl,ru⟩:=rv.one
 obtain ⟨z,its,n,r,hl,e⟩:=I.lstM hH
 refine call_meets F.slot_list_append ⟨_,e,rfl⟩ F.entry_list_append (F.args_list_append_2 _ _) (PySem.list_append l its.toArray n u (by rw [List.size_toArray];omega)) ⟨e,?_⟩
 refine ⟨.non,_,I.lset (its':=its++[u]) hH e (by simp) (r.append (.cons ru .nil)) ?_,rfl,q⟩
 rw [List.length_append,List.length_singleton]
 omega
end
section
variable {prog:Program}{w:World}{A:Around}{E:Value->Shared->Prop}{s:Shared}
set_option maxRecDepth 100000 in
end
section
variable {X:Cx}
end
end L2
namespace Att
open PySem PySem.W PySem.Calls PyProof.Rows
theorem yS {P:Params}{h:Heap}:∀ (ns:List Int) (vs:List Value),WellAll P h vs (ns.map WData.int)->IntsAre vs ns:=by
 intro ns
 induction ns with
 | nil =>
  intro vs w
  rw [List.map_nil] at w
  cases w
  exact .nil
 | cons n ns ih =>
  intro vs w
  rw [List.map_cons] at w
  cases w with
  | cons a b =>
   cases a
   exact .cons _ _ (ih _ b)
theorem qcK {l:OpenLaw}{n:Nat}(hn:l.most=some n){P:Params}{h:Heap}{args:List WData}{vals:List Value}
  (hpre:l.row.toRowW.claim.pre args=true) (hwl:WellAll P h vals args) :
  ∃ a vs ns,vals=[Value.ref a]/\args=[WData.list (ns.map WData.int)]/\h.get? a=some { cls:=.type "list", data:=.seq vs.toArray }/\IntsAre vs ns/\ns.length<=n:=by
 have hsh:WShape.hasAll [] args [.list .int]=true:=(pre_splitW hpre).1
 have hc:l.pre.holds [] { args:=args }=true:=(pre_splitW hpre).2
 obtain ⟨d,r,rfl,h1,h2⟩:=hasAllW_cons hsh
 obtain rfl:=hasAllW_nil h2
 obtain ⟨xs,rfl,h3⟩:=hasW_list h1
 obtain ⟨ns,rfl⟩:=items_int h3
 have hlen:ns.length<=n:=by
  unfold OpenLaw.pre at hc
  have h4:(WTm.not (.lt (.lit (.int (n:Int))) (.len (.arg 0)))).holds [] { args:=[.list (ns.map .int)] }=true:=by
   have h4:=(holds_andW hc).1
   rw [hn] at h4
   exact h4
  have h5:=condW_of h4 (w_not (w_lt w_lit (w_len_list (w_arg rfl))))
  rw [List.length_map] at h5
  refine Nat.le_of_not_lt fun q=>?_
  have q':(n:Int)<((ns.length:Nat):Int):=by omega
  first
   | (rw [decide_eq_true q'] at h5;exact absurd h5 (by decide))
   | (simp at h5;omega)
 cases hwl with
 | cons w1 w2 =>
  cases w2
  cases w1 with
  | list ho hall=>exact ⟨_,_,ns,rfl,rfl,ho,yS ns _ hall,hlen⟩
theorem qcH (l:OpenLaw)(args:List WData):l.row.toRowW.claim.post args (.bool true) args=true :=
 postW_of (r:=l.row.toRowW) (X:=(true==true))
  (show WShape.has [] (.bool true) .bool=true by first|rfl|decide|simp [WShape.has,WShape.arms,WShape.armsAll])
  (show (WTm.eq .res (.lit (.bool true))).value [] { args:=args,res:=some (.bool true),after:=args }=some (.bool (true==true)) from w_eq_bool (w_res rfl) w_lit) rfl
section
variable {prog:Program}{w:World}{A:Around}{E:Value->Shared->Prop}{s:Shared}{K:Frag}
def ledger (h:Heap)(L d:Addr):List (Addr×Obj):=(List.range h.objs.size).filterMap fun a=>if a=L\/a=d then none else (h.get? a).map fun o=>(a,o)
end
end Att
namespace L2
open PySem PySem.Spec PyProof.Rows
theorem Wk:∀ {vs:List Value} {ns:List Int},IntsAre vs ns->Vals (ns.map V.int) vs
 | _,_,.nil=>.nil
 | _,_,.cons n t h=>.cons ⟨t,rfl⟩ (Wk h)
def Only (H:Hp):Prop:=∀ b,H b=none\/∃ o xs,H b=some (.frz o (.lst xs))
theorem qdq {P:Program}{w:World}{K:PySem.W.Frag}{mg mb:Str->Option Value}{CX:CXT}{k:Nat}{fa a:Addr}{fd:FuncData}{x:Str}{sp:Sp}{s₁:Shared}{vs:List Value}{ns:List Int}
  (KX:K.In s₁.heap) (hns:s₁.heap.Ns mainGlobals mg) (hb:s₁.heap.Ns builtinsNs mb) (hbb:∀ x:Str,x ≠ "__name__"->mb x=bootBuiltins x) (hlim:s₁.heap.NoLimit) (hg:s₁.gens=#[])
  (ha:s₁.heap.get? a=some { cls:=.type "list", data:=.seq vs.toArray }) (hi:IntsAre vs ns) (hl:ns.length<=sizeLine) (hr:Room k callerA)
  (F:∀ base:Heap,K.In base->base.Ns mainGlobals mg->FnOk P w K mg base CX k fa fd [x] sp) (hbind:∀ (s:Shared) (u:Value),BindsTo s fd ⟨[u],[]⟩ [(x,u)])
  (hsp:∀ H:Hp,Only H->SqL K H a (ns.map V.int)->sp [.ref a] H (fun v _=>v=.bl true) fun _ _ _=>False)
  (hCX:∀ H e s',CX [] H s₁ (fun _ _ _=>False) e s'->False) :
  codeAny (model P w) callerA (.call (.ref fa) ⟨[.ref a],[]⟩) (fun r s'=>r=.ok (.ret (.bool true))/\OldK s₁.heap s'.heap/\s'.os=s₁.os/\AllBare s'.gens) s₁:=by
 have rv:=Wk hi
 have lenV:=hi.length
 have core:∀ H:Hp,Only H->SqL K H a (ns.map V.int)->HOk P w H s₁.heap->(∀ b,H b≠none->b=a)->(H a≠none->K.lookup a=none)->
   codeAny (model P w) callerA (.call (.ref fa) ⟨[.ref a],[]⟩) (fun r s'=>r=.ok (.ret (.bool true))/\OldK s₁.heap s'.heap/\s'.os=s₁.os/\AllBare s'.gens) s₁:=by
  intro H hO hS hok hA hK
  have base_of:∀ {b:Addr} {o:Obj},s₁.heap.get? b=some o->H b=none->(hidT s₁.heap H).get? b=some o:=fun e n=>qdk e n
  have noA:∀ {b:Addr} {o:Obj} {es:Array DictEntry} {ep:Nat},s₁.heap.get? b=some o->o.data=.dict es ep->H b=none:=fun {b o es ep} e d=>by
   cases q:H b with
   | none=>rfl
   | some u =>
    have e':b=a:=hA b (by rw [q];simp)
    subst e'
    rw [ha] at e;cases e
    have d':Data.seq vs.toArray _=Data.dict es ep:=d
    cases d'
  have nsK:∀ {b:Addr} {m:Str->Option Value},s₁.heap.Ns b m->(hidT s₁.heap H).Ns b m:=fun {b m} ⟨o,es,ep,e,d,r⟩=>⟨o,es,ep,base_of e (noA e d),d,r⟩
  have hKb:K.In (hidT s₁.heap H):=fun b o e=>base_of (KX b o e) (by
   cases q:H b with
   | none=>rfl
   | some u =>
    have e':b=a:=hA b (by rw [q];simp)
    subst e'
    rw [hK (by rw [q];simp)] at e;cases e)
  have hM:Mod K mg (hidT s₁.heap H):=⟨hKb,nsK hns,⟨mb,nsK hb,hbb⟩,let ⟨mc,h1,h2⟩:=hlim;⟨mc,nsK h1,h2⟩⟩
  have e0:Env0 P w K mg (hidT s₁.heap H) callerA [] s₁ H:=⟨rfl,hM,fun b o e=>qe7 e,Nat.le_of_eq (qcp _ _),trivial,fun b hb=>absurd (show b∈([]:List Addr) from hb) (by simp),hok,.of_eq hg⟩
  refine codeAny_mono ((F _ hKb (nsK hns)).run callerA [] s₁ H ⟨[.ref a],[]⟩ [.ref a] [.ref a] _ _ hr e0 (hbind s₁ (.ref a)) (.cons rfl .nil) (hsp H hO hS)) fun r s' h=>?_
  cases r with
  | error e=>exact (hCX H e s' h).elim
  | ok fl =>
   cases fl with
   | next=>exact False.elim h
   | brk=>exact False.elim h
   | cont=>exact False.elim h
   | ret u =>
    obtain ⟨v,H',os,bare,un,hok',r',q⟩:=h
    have q':v=.bl true:=q
    subst q'
    obtain rfl:u=Value.bool true:=r'
    refine ⟨rfl,OldK.of_keep fun b o e=>?_,os,bare⟩
    cases q:H b with
    | none=>exact un.keep b o e q (by intro z;exact absurd (show b∈([]:List Addr) from z) (by simp)) (by simp)
    | some u =>
     rcases hO b with z|⟨ob,xs,z⟩
     ·rw [q] at z;cases z
     ·have z2:=un.frzs b ob _ z
      obtain ⟨e1,_⟩:=hok b _ z
      obtain ⟨e2,_⟩:=hok' b _ z2
      rw [e] at e1;cases e1
      exact e2
 cases hk:K.lookup a with
 | some o =>
  have e:=KX a o hk
  rw [ha] at e
  cases e
  refine core (fun _=>none) (fun _=>.inl rfl) (.inr ⟨_,vs.toArray,_,hk,rfl,rfl,rfl,by rw [List.size_toArray,lenV];exact hl,by simpa using rv⟩) (fun b u z=>by have z':(none:Option HO)=some u:=z;cases z') (fun b z=>absurd rfl z) fun z=>absurd rfl z
 | none =>
  refine core (fun b=>if b=a then some (.frz { cls:=.type "list", data:=.seq vs.toArray } (.lst (ns.map V.int))) else none) (fun b=>?_) (.inl (.inr ⟨{ cls:=.type "list", data:=.seq vs.toArray },if_pos rfl⟩)) (fun b u z=>?_) (fun b z=>?_) fun _=>hk
  ·by_cases hb:b=a
   ·exact .inr ⟨_,_,if_pos hb⟩
   ·exact .inl (if_neg hb)
  ·by_cases hb:b=a
   ·have z':=(if_pos hb).symm.trans z
    cases z'
    subst hb
    exact ⟨ha,by rw [List.length_map];exact hl,vs,_,rv,ha⟩
   ·have z':=(if_neg hb).symm.trans z
    cases z'
  ·by_cases hb:b=a
   ·exact hb
   ·exact absurd (if_neg hb) z
end L2
namespace L2
open PySem PySem.Spec PyProof.Rows
end L2
namespace L2
open PySem PySem.Spec PyProof.Rows
def Za (s:Stmt):Arguments:=match s with
 | .FunctionDef _ a _ _ _ _ _ _ _ _=>a
 | _=>{ posonlyargs:=[],args:=[],vararg:=none,kwonlyargs:=[],kw_defaults:=[],kwarg:=none,defaults:=[] }
def zZ (s:Stmt):List Stmt:=match s with
 | .FunctionDef _ _ b _ _ _ _ _ _ _=>b
 | _=>[]
def qi (s:Stmt):Scope:=match s with
 | .FunctionDef _ _ _ _ _ _ sc _ _ _=>sc
 | _=>{ kind:=.function,names:=[],isGenerator:=false,isCoroutine:=false }
abbrev CX0:CXT:=fun _ _ _ _ _ _=>False
abbrev E0:XK:=fun _ _ _=>False
theorem qdL {X:Cx}:yr CX0 X E0:=fun _ _ _ _ _ _ _ h=>h.elim
structure Fun (K:PySem.W.Frag)(x qual:Str)(st:Stmt)(f:Addr)(fd:FuncData):Prop where
 ex:∃ (oc:Value) (od:Option Addr) (kV doc pm:Value) (an:Option Addr) (cdv ct:Value) (osl:Array (Option Value)),
  fd=PySem.W.fnOf x qual (Za st) (zZ st) (qi st) .none kV doc pm an cdv ct/\K.lookup f=some ⟨oc,od,.func fd,osl⟩/\PySem.W.codeIn K cdv qual=true
 kp:PySem.W.keepIn K (.ref f)=true
section
variable {P:Program}{w:World}{K:PySem.W.Frag}{mg:Str->Option Value}{base:Heap}
theorem Fun.ok {x qual:Str}{st:Stmt}{f:Addr}{fd:FuncData}{N ps:List Str}{k:Nat}{sp:Sp}(F:Fun K x qual st f fd)(S:FnScope N ps (qi st))(len:∀ vs H Q E,sp vs H Q E->vs.length=ps.length)
  (hbody:∀ (cdv:Value) (A:Around) (outer:List Env) (s:Shared) (H:Hp) (vs:List V) (Q:VK) (E:XK),Room k (A.deeper (envOfC qual (qi st) s.heap.objs.size f cdv))->sp vs H Q E->
   ∃ t,PSs (cxOf CX0 P w K mg base N qual (qi st) f cdv A outer s H E).nox (zZ st) t/\t { nx:=fun _ H'=>Q .non H',rt:=Q } (start N vs) H):FnOk P w K mg base CX0 (k+1) f fd ps sp:=by
 obtain ⟨oc,od,kV,doc,pm,an,cdv,ct,osl,rfl,lk,hcd⟩:=F.ex
 refine qfO lk hcd S len fun A outer s H vs Q E hr hsp=>?_
 obtain ⟨t,h,q⟩:=hbody cdv A outer s H vs Q E hr hsp
 exact ⟨t,h.nox,q⟩
theorem Fun.binds {x qual:Str}{st:Stmt}{f:Addr}{fd:FuncData}{ps:List Str}(F:Fun K x qual st f fd)
  (h:∀ (kV doc pm:Value) (an:Option Addr) (cdv ct:Value) (us:List Value),us.length=ps.length->bindArgs (PySem.W.fnOf x qual (Za st) (zZ st) (qi st) .none kV doc pm an cdv ct) ⟨us,[]⟩=pure (ps.zip us)):Binds K fd ps []:=by
 obtain ⟨oc,od,kV,doc,pm,an,cdv,ct,osl,rfl,lk,hcd⟩:=F.ex
 exact .all (h kV doc pm an cdv ct)
theorem qdg {x qual:Str}{st:Stmt}{f:Addr}{oc:Value}{od an:Option Addr}{osl:Array (Option Value)}{kV doc pm cdv ct:Value}(l:K.lookup f=some ⟨oc,od,.func (PySem.W.fnOf x qual (Za st) (zZ st) (qi st) .none kV doc pm an cdv ct),osl⟩)
  (c:PySem.W.codeIn K cdv qual=true) (k:PySem.W.keepIn K (.ref f)=true):Fun K x qual st f (PySem.W.fnOf x qual (Za st) (zZ st) (qi st) .none kV doc pm an cdv ct):=⟨⟨oc,od,kV,doc,pm,an,cdv,ct,osl,rfl,l,c⟩,k⟩
end
theorem QL {n:Nat}(h:n<=1000):n<sizeLine:=Nat.lt_of_le_of_lt h (by decide)
section
variable {X:Cx}
end
theorem iteF {A B:Prop}(h:B):if false=true then A else B:=by
 rw [if_neg Bool.false_ne_true]
 exact h
theorem iteT {A B:Prop}(h:A):if true=true then A else B:=by
 rw [if_pos rfl]
 exact h
def Same (H H':Hp):Prop:=∀ b o,H b=some o->H' b=some o
theorem Same.refl (H:Hp):Same H H:=fun _ _ h=>h
theorem Same.trans {H H1 H2:Hp}(a:Same H H1)(b:Same H1 H2):Same H H2:=fun c o h=>b c o (a c o h)
theorem Same.free {H H':Hp}(e:Same H H'){l:Addr}(h:H' l=Option.none):H l=Option.none:=by
 cases q:H l with
 | none=>rfl
 | some o =>
  rw [e l o q] at h
  cases h
theorem Same.seq {K:PySem.W.Frag}{H H':Hp}{a:Addr}{xs:List V}(e:Same H H')(h:SqL K H a xs):SqL K H' a xs:=by
 rcases h with (h|⟨o,h⟩)|h
 ·exact .inl (.inl (e _ _ h))
 ·exact .inl (.inr ⟨o,e _ _ h⟩)
 ·exact .inr h
end L2
set_option maxHeartbeats 4000000
namespace L2
open PySem PySem.Spec PyProof.Rows
theorem j7 {env:Env}(body:(Str×NameKind)->List (Str×Addr)->Sem (ForInStep (List (Str×Addr))))
  (hf:∀ n k acc c,k=NameKind.free->env.cells.lookup n=some c->body (n,k) acc=pure (.yield ((n,c)::acc)))
  (hn:∀ n k acc,k≠NameKind.free->body (n,k) acc=pure (.yield acc)) :
  ∀ (names:List (Str×NameKind)) (acc:List (Str×Addr)),(∀ y∈names,y.2=.free->∃ c,env.cells.lookup y.1=some c)->
   (∀ y c,acc.lookup y=some c->env.cells.lookup y=some c)->
   ∃ cl,forIn names acc body=pure cl/\(∀ y c,cl.lookup y=some c->env.cells.lookup y=some c)/\(∀ y,(∃ c,acc.lookup y=some c)->∃ c,cl.lookup y=some c)/\∀ y,(y,NameKind.free)∈names->∃ c,cl.lookup y=some c
 | [],acc,_,ha=>⟨acc,rfl,ha,fun _ h=>h,fun _ h=>by cases h⟩
 | (n,k)::r,acc,h,ha=>by
  by_cases hk:k=NameKind.free
  ·obtain ⟨c,hc⟩:=h (n,k) List.mem_cons_self hk
   obtain ⟨cl,e,h1,h2,h3⟩:=j7 body hf hn r ((n,c)::acc) (fun y hy=>h y (List.mem_cons_of_mem _ hy)) (fun y c' e=>by
    rw [List.lookup_cons] at e
    split at e
    ·rename_i q
     have q':y=n:=by simpa using q
     subst q';cases e;exact hc
    ·exact ha y c' e)
   refine ⟨cl,?_,h1,fun y hy=>h2 y ?_,fun y hy=>?_⟩
   ·rw [List.forIn_cons,hf n k acc c hk hc]
    exact e
   ·obtain ⟨c',e'⟩:=hy
    rw [List.lookup_cons]
    split
    ·exact ⟨_,rfl⟩
    ·exact ⟨_,e'⟩
   ·rcases List.mem_cons.mp hy with q|q
    ·cases q
     exact h2 _ ⟨c,by rw [List.lookup_cons];simp⟩
    ·exact h3 y q
  ·obtain ⟨cl,e,h1,h2,h3⟩:=j7 body hf hn r acc (fun y hy=>h y (List.mem_cons_of_mem _ hy)) ha
   refine ⟨cl,?_,h1,h2,fun y hy=>?_⟩
   ·rw [List.forIn_cons,hn n k acc hk]
    exact e
   ·rcases List.mem_cons.mp hy with q|q
    ·cases q;exact absurd rfl hk
    ·exact h3 y q
theorem Yr {sc:Scope}{env:Env}(h:∀ y∈sc.names,y.2=.free->∃ c,env.cells.lookup y.1=some c) :
  ∃ cl,closureFor sc env=pure cl/\(∀ y c,cl.lookup y=some c->env.cells.lookup y=some c)/\∀ y,(y,NameKind.free)∈sc.names->∃ c,cl.lookup y=some c:=by
 simp only [closureFor]
 obtain ⟨cl,e,h1,_,h3⟩:=j7 (env:=env) (fun x cs=>if (x.2==NameKind.free)=true then (do let a ← cellOf env x.1;pure (ForInStep.yield ((x.1,a)::cs))) else pure (ForInStep.yield cs)) (fun n k acc c hk hc=>by
   subst hk
   simp only [cellOf,hc,beq_self_eq_true,if_true];rfl) (fun n k acc hk=>by
   have:(k==NameKind.free)=false:=by simpa using hk
   simp only [this,Bool.false_eq_true,if_false]) sc.names [] h (fun y c e=>by cases e)
 refine ⟨cl,?_,h1,h3⟩
 exact (congrArg (· >>= fun r=>pure r) e).trans rfl
def q9 (X:Cx)(N':List Str)(sc:Scope)(cl:List (Str×Addr))(C:Addr)(fp:List Addr)(pins:List (Addr×Obj))(s:Shared)(H:Hp):Cx where
 prog:=X.prog
 w:=X.w
 K:=X.K
 mg:=X.mg
 base:=X.base
 A:=X.A
 N:=N'
 s₀:=s
 H₀:=H
 env:=compEnvC sc cl C X.env
 outer:=X.stack
 stack:=X.stack
 ex:=fp
 fn:=fun x=>decide (sc.names.lookup x=some .cell)
 calm:=X.calm
 pn:=X.pn++pins
 xe:=fun _ _=>False
def PTs (X:Cx)(ifs:List Expr)(t:TT):Prop :=
 ∀ (pins:List (Addr×Obj)) (s:Shared) (σ:St) (H:Hp) (Q:Bool->Hp->Prop),Inv X pins σ H s->t σ H Q->
  wpAny (model X.prog X.w) X.A (forIn ifs true fun c r=>if r=true then do let ok ← isTrue c X.env (eval c X.env);pure (ForInStep.yield ok) else pure (ForInStep.yield r)) (TP X pins σ Q) X.xe s
def tTru:TT:=fun _ H Q=>Q true H
theorem qfs {X:Cx}:PTs X [] tTru:=fun _ _ _ H _ I h=>wpAny_tests_nil ⟨H,I,h⟩
theorem qft {X:Cx}{c:Expr}{t:TT}(h:PT X c t):PTs X [c] t:=fun pins s σ H Q I q=>wpAny_tests_one (h pins s σ H Q I q)
theorem thF {α:Type}{t:Sem α}{Q Q':α->Shared->Prop}{M:Model}{A:Around}{E:Value->Shared->Prop}{s:Shared}(h:wpAny M A t Q (fun _ _=>False) s)(hQ:∀ a s,Q a s->Q' a s):wpAny M A t Q' E s:=wpAny_mono h hQ fun _ _ x=>x.elim
theorem qbe {prog:Program}{w:World}{A:Around}{R:Result->Shared->Prop}{s:Shared}{elt target iter:Expr}{ifs:List Expr}{scope:Scope}{pos:Pos}{it acc:Value}{env:Env}(I:Nat->Shared->Prop)
  (turn:∀ n s,I n s->wpAny (model prog w) A (pyNext it) (fun r s₁=>match r with
   | none=>R (.ok .next) s₁
   | some v=>wpAny (model prog w) A (letOwnedTupleGo target it v) (fun _ s₁=>wpAny (model prog w) A (assign target env v) (fun _ s₂ =>
     wpAny (model prog w) A (forIn ifs true fun c r=>if r=true then do let ok ← isTrue c env (eval c env);pure (ForInStep.yield ok) else pure (ForInStep.yield r)) (fun ok s₃ =>
      if ok=true then wpAny (model prog w) A (eval elt env) (fun x s₄ =>
       wpAny (model prog w) A (call (.builtin "list.append") [acc,x]) (fun _ s₅=>∃ m,m<n/\I m s₅) (notedBy (model prog w) A env fun e s'=>R (.error e) s') s₄) (notedBy (model prog w) A env fun e s'=>R (.error e) s') s₃
      else ∃ m,m<n/\I m s₃) (notedBy (model prog w) A env fun e s'=>R (.error e) s') s₂) (notedBy (model prog w) A env fun e s'=>R (.error e) s') s₁) (notedBy (model prog w) A env fun e s'=>R (.error e) s') s₁) (notedBy (model prog w) A env fun e s'=>R (.error e) s') s)
  (n:Nat) (h:I n s) :
  codeAny (model prog w) A (.compLoop (.ListComp elt [⟨target,iter,ifs,0⟩] scope pos) 0 it acc env) R s:=by
 refine codeAny_loop rfl I (fun n s hI=>?_) n h
 show wpAny _ A ((compTurn (.ListComp elt [⟨target,iter,ifs,0⟩] scope pos) 0 it acc env).onRaise (fun x=>do noteFrame x env;theTreesLotGoes x)) _ _ s
 refine wpAny_noted ?_
 rw [compTurn_list]
 refine wpAny_bind (wpAny_standAt (wpAny_bind (wpAny_mono (turn n s hI) (fun r s₁ h₁=>?_) fun _ _ h'=>h')))
 cases r with
 | none=>exact wpAny_pure h₁
 | some v =>
  refine wpAny_bind (wpAny_mono h₁ (fun _ s₁' h₁'=>?_) fun _ _ h'=>h')
  refine wpAny_bind (wpAny_mono h₁' (fun _ s₂ h₂=>wpAny_bind (wpAny_mono h₂ (fun ok s₃ h₃=>?_) fun _ _ h'=>h')) fun _ _ h'=>h')
  cases ok with
  | false=>exact wpAny_pure ⟨rfl,h₃⟩
  | true =>
   exact wpAny_bind (wpAny_bind (wpAny_mono h₃ (fun x s₄ h₄=>wpAny_bind (wpAny_mono h₄ (fun _ s₅ h₅=>wpAny_pure (wpAny_pure ⟨rfl,h₅⟩)) fun _ _ h'=>h')) fun _ _ h'=>h'))
structure CompOk (X:Cx)(N':List Str)(k:Nat)(sc:Scope):Prop where
 calm:X.calm=true
 kind:sc.kind=.function
 nd:X.N.Nodup
 nd':N'.Nodup
 len:N'.length=X.N.length+k
 cells:∀ y∈sc.names,y.2=.cell->sc.names.lookup y.1=some .cell
 names:∀ y∈sc.names,y.2=.local->sc.names.lookup y.1=some .local
 old:∀ i y,i<X.N.length->N'[i]?=some y->(X.N[i]?=some y/\sc.names.lookup y≠some .local/\sc.names.lookup y≠some .cell)\/sc.names.lookup y=none
 free:∀ y∈sc.names,y.2=.free->X.env.kindOf y.1=some .cell\/X.env.kindOf y.1=some .free
theorem qc8 (lo:Nat):∀ (names:List (Str×NameKind)) (h:Heap) (acc:List (Str×Addr)),lo<=h.objs.size->(∀ y c,acc.lookup y=some c->lo<=c->c<h.objs.size)->(∀ y z c,lo<=c->acc.lookup y=some c->acc.lookup z=some c->y=z)->
  (∀ y c,(cellsFrom h.objs.size names acc).lookup y=some c->acc.lookup y=some c\/(h.objs.size<=c/\(pushCells h names).IsCell c none))/\(∀ y,(∃ c,acc.lookup y=some c)->∃ c,(cellsFrom h.objs.size names acc).lookup y=some c)/\
  (∀ y,(y,NameKind.cell)∈names->∃ c,(cellsFrom h.objs.size names acc).lookup y=some c/\h.objs.size<=c)/\(∀ y,(y,NameKind.cell)∉names->(cellsFrom h.objs.size names acc).lookup y=acc.lookup y)/\
  ∀ y z c,lo<=c->(cellsFrom h.objs.size names acc).lookup y=some c->(cellsFrom h.objs.size names acc).lookup z=some c->y=z
 | [],h,acc,_,_,inj=>⟨fun _ _ e=>.inl e,fun _ e=>e,(fun _ e=>by cases e),fun _ _=>rfl,inj⟩
 | (name,kind)::r,h,acc,hl,hb,inj=>by
  by_cases hk:kind=.cell
  ·subst hk
   have sz:(h.push { cls:=.type "cell", data:=.cell none }).objs.size=h.objs.size+1:=Heap.size_push ..
   have lk:∀ y,List.lookup y ((name,h.objs.size)::acc)=if y=name then some h.objs.size else acc.lookup y:=fun y=>by
    rw [List.lookup_cons]
    by_cases q:y=name
    ·rw [if_pos q,beq_iff_eq.mpr q]
    ·rw [if_neg q,beq_eq_false_iff_ne.mpr q]
   obtain ⟨a1,a2,a3,a4,a5⟩:=qc8 lo r (h.push { cls:=.type "cell", data:=.cell none }) ((name,h.objs.size)::acc) (by omega) (fun y c e q=>by
     rw [lk] at e
     rw [sz]
     split at e
     ·cases e;exact Nat.lt_succ_self _
     ·exact Nat.lt_succ_of_lt (hb y c e q)) (fun y z c q e1 e2=>by
     rw [lk] at e1 e2
     split at e1<;>split at e2
     ·rename_i u v;rw [u,v]
     ·cases e1;exact absurd (hb z _ e2 q) (Nat.lt_irrefl _)
     ·cases e2;exact absurd (hb y _ e1 q) (Nat.lt_irrefl _)
     ·exact inj y z c q e1 e2)
   rw [sz] at a1 a2 a3 a4 a5
   have e0:cellsFrom h.objs.size ((name,NameKind.cell)::r) acc=cellsFrom (h.objs.size+1) r ((name,h.objs.size)::acc):=rfl
   have e1:pushCells h ((name,NameKind.cell)::r)=pushCells (h.push { cls:=.type "cell", data:=.cell none }) r:=rfl
   rw [e0,e1]
   have b1:∀ y c,(cellsFrom (h.objs.size+1) r ((name,h.objs.size)::acc)).lookup y=some c->acc.lookup y=some c\/(h.objs.size<=c/\(pushCells (h.push { cls:=.type "cell", data:=.cell none }) r).IsCell c none):=fun y c e=>by
    rcases a1 y c e with q|⟨q1,q2⟩
    ·rw [lk] at q
     split at q
     ·cases q
      exact .inr ⟨Nat.le_refl _,_,pushCells_keeps r _ _ _ (Heap.get?_push_size _ rfl),rfl⟩
     ·exact .inl q
    ·exact .inr ⟨by omega,q2⟩
   refine ⟨b1,fun y e=>a2 y ?_,fun y e=>?_,fun y e=>?_,a5⟩
   ·obtain ⟨c,e⟩:=e
    rw [lk]
    split
    ·exact ⟨_,rfl⟩
    ·exact ⟨_,e⟩
   ·rcases List.mem_cons.mp e with q|q
    ·cases q
     obtain ⟨c,q⟩:=a2 name ⟨h.objs.size,by rw [lk,if_pos rfl]⟩
     refine ⟨c,q,?_⟩
     rcases a1 name c q with z|z
     ·rw [lk,if_pos rfl] at z;cases z;exact Nat.le_refl _
     ·omega
    ·obtain ⟨c,q1,q2⟩:=a3 y q
     exact ⟨c,q1,by omega⟩
   ·rw [a4 y fun z=>e (List.mem_cons_of_mem _ z),lk,if_neg fun z=>e (by rw [z];exact List.mem_cons_self)]
  ·have hb':(kind==NameKind.cell)=false:=beq_eq_false_iff_ne.mpr hk
   have e0:cellsFrom h.objs.size ((name,kind)::r) acc=cellsFrom h.objs.size r acc:=by rw [cellsFrom,hb'];rfl
   have e1:pushCells h ((name,kind)::r)=pushCells h r:=by rw [pushCells,hb'];rfl
   rw [e0,e1]
   obtain ⟨a1,a2,a3,a4,a5⟩:=qc8 lo r h acc hl hb inj
   refine ⟨a1,a2,fun y e=>?_,fun y e=>a4 y fun z=>e (List.mem_cons_of_mem _ z),a5⟩
   rcases List.mem_cons.mp e with q|q
   ·cases q;exact absurd rfl hk
   ·exact a3 y q
theorem qe6 {M:Model}{A:Around}{E:Value->Shared->Prop}{s:Shared}{sc:Scope}{gl:Addr}{cl:List (Str×Addr)}{qual:Str}{func:Option Addr}{code:Value}{env:Env}{bl:Addr}{Q:Env->Shared->Prop}
  (hQ:Q (newEnv sc s.heap.objs.size gl (cellsFrom (s.heap.objs.size+1) sc.names cl) qual func code (some env) bl) { s with heap:=pushCells (s.heap.push { cls:=.type "dict", data:=.dict #[] }) sc.names }) :
  wpAny M A (newFunctionEnv sc gl cl [] qual func code (some env) bl) Q E s:=by
 simp only [newFunctionEnv,Option.isSome_some,if_true]
 refine wpAny_bind (wpAny_alloc (wpAny_bind (wpAny_layCells _ (fun name kind cells=>by cases hkc:kind==NameKind.cell<;>simp [hkc]) _ _ _ _ ?_)))
 rw [show ({ s with heap:=s.heap.push { cls:=.type "dict", data:=.dict #[] } }:Shared).heap.objs.size=s.heap.objs.size+1 from Heap.size_push ..]
 rw [List.forIn_nil]
 exact wpAny_bind (wpAny_pure (wpAny_pure hQ))
structure ClOk (X:Cx)(sc:Scope)(cl:List (Str×Addr))(n:Nat)(h:Heap):Prop where
 old:∀ y c,cl.lookup y=some c->X.env.cells.lookup y=some c\/(n<c/\∃ v,h.IsCell c v)
 free:∀ y,sc.names.lookup y=some .free->∃ c,cl.lookup y=some c/\X.env.cells.lookup y=some c
 cell:∀ y,sc.names.lookup y=some .cell->∃ c,cl.lookup y=some c/\n<c
 inj:∀ y z c,cl.lookup y=some c->cl.lookup z=some c->y=z
def qea (J:It)(wg:TG)(tt:TT)(te:TE)(W:Nat->Nat->List V->St->Hp->Prop)(i m:Nat)(ys:List V)(σ:St)(H:Hp):Prop :=
 ∀ x H2,J.yld i H x H2->wg x σ H2 fun σ3 H3=>tt σ3 H3 fun b H4=>if b=true then te σ3 H4 fun v H5=>ys.length<sizeLine/\∃ m',m'<m/\W (i+1) m' (ys++[v]) σ3 H5
  else ∃ m',m'<m/\W (i+1) m' ys σ3 H4
def qeb (k:Nat)(J:It)(wg:TG)(tt:TT)(te:TE)(σ:St)(H:Hp)(Q:VK):Prop :=
 ∃ W:Nat->Nat->List V->St->Hp->Prop,(∃ m,W 0 m [] (σ++List.replicate k none) H)/\∀ i m ys σ' H',W i m ys σ' H'->
  (J.stop i H'/\∀ D,H' D=none->Q (.ref D) (upd H' D (.lst ys)))\/(J.go i H'/\qea J wg tt te W i m ys σ' H')
def qa7 (k:Nat)(wi:TI)(wg:TG)(tt:TT)(te:TE):TE:=fun σ H Q=>wi σ H fun J H1=>qeb k J wg tt te σ H1 Q
theorem QD {env:Env}:∀ {names:List (Str×NameKind)} {x:Str} {k:NameKind},
  (names.map fun (n,k)=>if (k==NameKind.free&&env.scope.kind==.function&&env.kindOf n==some .cell) then (n,NameKind.cell) else (n,k)).lookup x=some k->
   (names.lookup x=some k)\/(k=.cell/\names.lookup x=some .free)
 | [],_,_,h=>by simp at h
 | (n,k')::r,x,k,h=>by
  have h':List.lookup x ((if (k'==NameKind.free&&env.scope.kind==.function&&env.kindOf n==some .cell)=true then (n,NameKind.cell) else (n,k'))::(r.map fun (n,k)=>if (k==NameKind.free&&env.scope.kind==.function&&env.kindOf n==some .cell) then (n,NameKind.cell) else (n,k)))=some k:=h
  have ih:=@QD env r x k
  cases hx:x==n with
  | true =>
   by_cases hc:(k'==NameKind.free&&env.scope.kind==.function&&env.kindOf n==some .cell)=true
   ·rw [if_pos hc] at h'
    simp only [List.lookup_cons,hx] at h' ⊢
    cases h'
    have:k'=.free:=by
     rw [Bool.and_eq_true,Bool.and_eq_true] at hc
     simpa using hc.1.1
    subst this
    exact .inr ⟨rfl,rfl⟩
   ·rw [if_neg hc] at h'
    simp only [List.lookup_cons,hx] at h' ⊢
    exact .inl h'
  | false =>
   by_cases hc:(k'==NameKind.free&&env.scope.kind==.function&&env.kindOf n==some .cell)=true
   ·rw [if_pos hc] at h'
    simp only [List.lookup_cons,hx] at h' ⊢
    exact ih h'
   ·rw [if_neg hc] at h'
    simp only [List.lookup_cons,hx] at h' ⊢
    exact ih h'
section
variable {X:Cx}{elt iter:Expr}{ifs:List Expr}{tg:Expr}{N':List Str}{sc:Scope}{pos:Pos}{wi:TI}{wg:TG}{tt:TT}{te:TE}{k:Nat}
theorem qdb {pins:List (Addr×Obj)}{σ:St}{H:Hp}{s s':Shared}{cl:List (Str×Addr)}{fp:List Addr}{m:Str->Option Value}(O:CompOk X N' k sc)(I:Inv X pins σ H s)(cK:ClOk X sc cl s.heap.objs.size s'.heap)
  (hf:∀ b∈fp,FpOk X pins H b) (hlt:∀ b∈fp,b<s.heap.objs.size) (hos:s'.os=s.os) (hg:s'.gens=s.gens) (hk:∀ b o,s.heap.get? b=some o->s'.heap.get? b=some o) (hns:s'.heap.Ns s.heap.objs.size m) :
  Inv (q9 X N' sc cl s.heap.objs.size fp pins s H) [] (σ++List.replicate k none) H s':=by
 have stk:∀ b,b≠X.env.locals->b∉X.fs->b∉frs X.stack:=fun b h1 h2 hb=>by
  rcases List.mem_cons.mp (I.stkSub b hb) with z|z
  ·exact h1 z
  ·exact h2 z
 have hr:∀ {y:Str},(relabel sc X.env).names.lookup y=some .cell\/(relabel sc X.env).names.lookup y=some .free->sc.names.lookup y=some .free\/sc.names.lookup y=some .cell:=fun {y} h=>by
  rcases h with h|h
  ·rcases QD h with q|q
   ·exact .inr q
   ·exact .inl q.2
  ·rcases QD h with q|q
   ·exact .inl q
   ·exact .inl q.2
 refine ⟨⟨I.ok.mod,O.kind,I.ok.glob,I.ok.blt,Nat.le_refl _,cK.inj,fun y hy=>?_,fun y c z e=>?_,I.ok.hd,I.ok.frames,.inl rfl,fun b hb=>?_,I.bs,Nat.le_trans I.ok.bsz I.sz,fun b o e hb=>?_,fun b hb=>?_,I.stack,I.stkFree⟩,
  hos,?_,Un.kept hk,⟨m,hns,fun i y v h1 h2 h3=>?_⟩,fun y c h=>?_,I.hok.fresh (Nat.le_refl _),fun y c h=>(cK.old y c h).elim (I.freeC y c) fun z=>I.hok.fresh (Nat.le_of_lt z.1),fun p hp=>?_,I.hok.kept hk,?_⟩
 ·rcases hr hy with q|q
  ·obtain ⟨c,e,_⟩:=cK.free y q;exact ⟨c,e⟩
  ·obtain ⟨c,e,_⟩:=cK.cell y q;exact ⟨c,e⟩
 ·obtain ⟨c',e',q⟩:=cK.cell y (of_decide_eq_true z)
  have e:cl.lookup y=some c:=e
  rw [e'] at e;cases e
  exact Nat.le_of_lt q
 ·have q:=hf b hb
  exact ⟨Nat.ne_of_lt (hlt b hb),fun z c e=>(cK.old z c e).elim (q.2.2.2.2.1 z c) fun w=>Nat.ne_of_gt (Nat.lt_trans (hlt b hb) w.1)⟩
 ·have hb':b∈fp:=hb
  rcases (hf b hb').2.2.2.1 with z|z
  ·exact I.ok.noex b o e z
  ·exact absurd (Nat.lt_of_lt_of_le (Heap.lt_size (I.ok.bs b o e).1) z) (Nat.lt_irrefl _)
 ·exact stk b (hf b hb).2.1 (hf b hb).2.2.1
 ·rw [hg];exact I.bare
 ·have hl:=I.len
  have hi:i<X.N.length:=by
   by_cases hi:i<X.N.length
   ·exact hi
   ·rw [List.getElem?_append_right (by omega)] at h2
    have:=List.getElem?_replicate (a:=(none:Option V)) (n:=k) (i:=i-σ.length)
    rw [this] at h2
    split at h2<;>cases h2
  have h1':X.N[i]?=some y/\sc.names.lookup y≠some .local/\sc.names.lookup y≠some .cell:=by
   rcases O.old i y hi h1 with q|q
   ·exact q
   ·have no:∀ kk,(relabel sc X.env).names.lookup y≠some kk:=fun kk z=>by
     rcases QD z with w|w
     ·rw [q] at w;cases w
     ·rw [q] at w;cases w.2
    rcases h3 with h3|h3|h3
    ·exact absurd h3 (no _)
    ·exact absurd h3 (no _)
    ·exact absurd h3 (no _)
  obtain ⟨h1',h1n,h1c⟩:=h1'
  have h2':σ[i]?=some (some v):=by
   rw [List.getElem?_append_left (by omega)] at h2
   exact h2
  have key:sc.names.lookup y=some .free/\((relabel sc X.env).names.lookup y=some .cell\/(relabel sc X.env).names.lookup y=some .free):=by
   rcases h3 with h3|h3|h3
   ·rcases QD h3 with q|q
    ·exact absurd q h1n
    ·cases q.1
   ·exact ⟨(hr (.inl h3)).resolve_right h1c,.inl h3⟩
   ·exact ⟨(hr (.inr h3)).resolve_right h1c,.inr h3⟩
  obtain ⟨q,kd⟩:=key
  have mem:=PySem.mem_of_lookup q
  have kx:=O.free _ mem rfl
  obtain ⟨m0,hn,hl'⟩:=I.loc
  obtain ⟨u,r,l⟩:=hl' i y v h1' h2' (by rcases kx with z|z;exact .inr (.inl z);exact .inr (.inr z))
  rcases l with ⟨l,_⟩|⟨_,c,e,z⟩
  ·rcases kx with z|z
   ·rw [l] at z;cases z
   ·rw [l] at z;cases z
  ·obtain ⟨c',e',e2⟩:=cK.free y q
   rw [e] at e2;cases e2
   obtain ⟨o,ho,hd⟩:=z
   exact ⟨u,r,.inr ⟨kd,c,e',o,hk _ _ ho,hd⟩⟩
 ·rcases cK.old y c h with z|z
  ·obtain ⟨v,o,ho,hd⟩:=I.cell y c z
   exact ⟨v,o,hk _ _ ho,hd⟩
  ·exact z.2
 ·have hp':p∈X.pn++pins:=by
   rcases List.mem_append.mp hp with z|z
   ·exact z
   ·cases z
  obtain ⟨e,n,ne,nf,d⟩:=I.pin p hp'
  exact ⟨hk _ _ e,n,Nat.ne_of_lt (Heap.lt_size e),stk p.1 ne nf,d⟩
 ·show (σ++List.replicate k none).length=N'.length
  rw [List.length_append,List.length_replicate,I.len,O.len]
theorem comp_back {pins:List (Addr×Obj)}{σ σ':St}{H H':Hp}{s s1:Shared}{cl:List (Str×Addr)}{fp:List Addr}{C:Addr}(I:Inv X pins σ H s)(hf:∀ b∈fp,FpOk X pins H b)
  (J:Inv (q9 X N' sc cl C fp pins s H) [] σ' H' s1):Inv X pins σ H' s1 :=
 I.call' (ch:=fp) J.os J.base J.hok J.bare fun b hb=>⟨(hf b hb).2.2.2.1,(hf b hb).2.1,(hf b hb).2.2.2.2.1,(hf b hb).2.2.2.2.2⟩
theorem Inv.track {pins:List (Addr×Obj)}{σ:St}{H:Hp}{s:Shared}{D:Addr}{o:HO}(I:Inv X pins σ H s)(hn:H D=none)(hL:D≠X.env.locals)(h1:D∈X.ex\/X.s₀.heap.objs.size<=D)(h2:∀ x c,X.env.cells.lookup x=some c->c≠D)(h3:∀ p∈X.pn++pins,p.1≠D)
  (ok:Ze X.prog X.w (upd H D o) s.heap D o):Inv X pins σ (upd H D o) s:=by
 have ne:∀ b u,H b=some u->b≠D:=fun b u e=>Qx e hn
 exact I.step (g':=s.gens) (d':=s.drawn) (t':=s.toks) (ch:=[D]) (h':=s.heap) (fun b hb=>by
   have e:b=D:=by simpa using hb
   subst e
   exact ⟨h1,hL,h2,h3⟩) (fun b o _ _ _ e _=>e) (fun b o _ _ _ e _=>⟨o.slots,e⟩) (fun b o hc e n=>by rw [zf (fun z=>hc (by simp [z]))];exact n) (fun b o _ e=>⟨o,e⟩)
  (fun b xs e=>by rw [zf (ne b _ e)];exact e) (fun b o u e=>by rw [zf (ne b _ e)];exact e) (fun b ps e=>⟨#[],by rw [zf (ne b _ e),e];simp⟩) (fun m hm=>hm) (fun b u e=>by
   by_cases hb:b=D
   ·subst hb;rw [zW] at e;cases e;exact ok
   ·rw [zf hb] at e
    exact (I.hok b u e).stay (fun c v _ q=>q) (fun c q=>by rw [zf (ne c _ q)];exact q) fun c xs q=>by rw [zf (ne c _ q)];exact q) I.bare
theorem qcm {pins:List (Addr×Obj)}{σ:St}{H:Hp}{s s':Shared}{cl:List (Str×Addr)}{fp:List Addr}{m:Str->Option Value}{it D:Addr}{tn:Nat->Heap->Prop}{J:It}{R:Result->Shared->Prop}{Qd:List V->Hp->Prop}(O:CompOk X N' k sc)
  (I:Inv X pins σ H s) (cK:ClOk X sc cl s.heap.objs.size s'.heap) (hf:∀ b∈D::fp,FpOk X pins H b) (hlt:∀ b∈D::fp,b<s.heap.objs.size)
  (hos:s'.os=s.os) (hg:s'.gens=s.gens) (hk:∀ b o,s.heap.get? b=some o->s'.heap.get? b=some o) (hns:s'.heap.Ns s.heap.objs.size m)
  (T:Turn X.prog X.w X.K tg J fp it tn) (hDf:D∉fp) (st:tn 0 s'.heap) (hD:s'.heap.PlainList D #[])
  (pg:PG (q9 X N' sc cl s.heap.objs.size (D::fp) pins s H) tg wg) (hq:PTs (q9 X N' sc cl s.heap.objs.size (D::fp) pins s H) ifs tt) (he:PE (q9 X N' sc cl s.heap.objs.size (D::fp) pins s H) elt te)
  (W:Nat->Nat->List V->St->Hp->Prop) (m0:Nat) (w0:W 0 m0 [] (σ++List.replicate k none) H) (turn:∀ i m ys σ' H',W i m ys σ' H'->(J.stop i H'/\Qd ys H')\/(J.go i H'/\qea J wg tt te W i m ys σ' H'))
  (fin:∀ s1 H1 σ1 (ys:List V) (its:List Value),Inv (q9 X N' sc cl s.heap.objs.size (D::fp) pins s H) [] σ1 H1 s1->H1 D=none->s1.heap.PlainList D its.toArray->Vals ys its->ys.length<=sizeLine->Qd ys H1->R (.ok .next) s1) :
  codeAny (model X.prog X.w) X.A (.compLoop (.ListComp elt [⟨tg,iter,ifs,0⟩] sc pos) 0 (.ref it) (.ref D) (compEnvC sc cl s.heap.objs.size X.env)) R s':=by
 have I0:Inv (q9 X N' sc cl s.heap.objs.size (D::fp) pins s H) [] (σ++List.replicate k none) H s':=qdb O I cK hf hlt hos hg hk hns
 have stk:∀ b,b≠X.env.locals->b∉X.fs->b∉frs X.stack:=fun b h1 h2 hb=>by
  rcases List.mem_cons.mp (I.stkSub b hb) with z|z
  ·exact h1 z
  ·exact h2 z
 have stat:∀ {H':Hp},(∀ b∈D::fp,H' b=none)->∀ b∈D::fp,FpOk (q9 X N' sc cl s.heap.objs.size (D::fp) pins s H) [] H' b:=fun hn b hb =>
  ⟨hn b hb,Nat.ne_of_lt (hlt b hb),stk b (hf b hb).2.1 (hf b hb).2.2.1,.inl hb,fun z c e=>(cK.old z c e).elim ((hf b hb).2.2.2.2.1 z c) fun w=>Nat.ne_of_gt (Nat.lt_trans (hlt b hb) w.1),fun p hp=>by
   have hp':p∈X.pn++pins:=by
    rcases List.mem_append.mp hp with z|z
    ·exact z
    ·cases z
   exact (hf b hb).2.2.2.2.2 p hp'⟩
 have statF:∀ {H':Hp},(∀ b∈D::fp,H' b=none)->∀ b∈fp,FpOk (q9 X N' sc cl s.heap.objs.size (D::fp) pins s H) [] H' b:=fun hn b hb=>stat hn b (List.mem_cons_of_mem _ hb)
 refine qbe (fun kk s1=>∃ i ys its σ' H',Inv (q9 X N' sc cl s.heap.objs.size (D::fp) pins s H) [] σ' H' s1/\tn i s1.heap/\(∀ b∈D::fp,H' b=none)/\s1.heap.PlainList D its.toArray/\Vals ys its/\ys.length<=sizeLine/\W i kk ys σ' H') ?_ m0 ⟨0,[],[],σ++List.replicate k none,H,I0,st,fun b hb=>(hf b hb).1,hD,.nil,Nat.zero_le _,w0⟩
 rintro kk s3 ⟨i,ys,its,σ3,H3,I3,st3,fr3,pl3,rv3,hz3,w3⟩
 rcases turn i kk ys σ3 H3 w3 with ⟨stop,qn⟩|⟨go,step⟩
 ·have J3:=I3.pinned (fp:=[D]) (fun b hb=>by
   have e:b=D:=by simpa using hb
   subst e
   exact stat fr3 b List.mem_cons_self) (fun b hb=>by
   have e:b=D:=by simpa using hb
   subst e
   obtain ⟨n,e⟩:=pl3
   exact ⟨_,e,fun v z=>by cases z⟩)
  have fpo:∀ b∈fp,FpOk (q9 X N' sc cl s.heap.objs.size (D::fp) pins s H) ([]++Zx [D] s3.heap) H3 b:=fun b hb=>by
   obtain ⟨a1,a2,a3,a4,a5,a6⟩:=statF fr3 b hb
   refine ⟨a1,a2,a3,a4,a5,fun p hp=>?_⟩
   rcases List.mem_append.mp hp with z|z
   ·exact a6 p (List.mem_append_left _ z)
   ·have z':p∈Zx [D] s3.heap:=by simpa using z
    have:=(yz z').1
    have e:p.1=D:=by simpa using this
    rw [e]
    intro z2
    subst z2
    exact hDf hb
  refine thn (T.done (q9 X N' sc cl s.heap.objs.size (D::fp) pins s H) rfl rfl rfl O.calm i _ s3 σ3 H3 _ J3 fpo st3 stop) fun r s4 ⟨hr,I4⟩=>?_
  subst hr
  obtain ⟨n,e⟩:=pl3
  have e4:=(I4.pin (D,_) (List.mem_append_right _ (List.mem_append_right _ (Zh (by simp) e)))).1
  exact fin s4 H3 σ3 ys its I4.unpinned (fr3 D List.mem_cons_self) ⟨n,e4⟩ rv3 hz3 qn
 ·have J3:=I3.pinned (fp:=[D]) (fun b hb=>by
   have e:b=D:=by simpa using hb
   subst e
   exact stat fr3 b List.mem_cons_self) (fun b hb=>by
   have e:b=D:=by simpa using hb
   subst e
   obtain ⟨n,e⟩:=pl3
   exact ⟨_,e,fun v z=>by cases z⟩)
  have fpo:∀ {H':Hp},(∀ b∈fp,H' b=none)->∀ b∈fp,FpOk (q9 X N' sc cl s.heap.objs.size (D::fp) pins s H) ([]++Zx [D] s3.heap) H' b:=fun {H'} hn b hb=>by
   obtain ⟨_,a2,a3,a4,a5,a6⟩:=statF fr3 b hb
   refine ⟨hn b hb,a2,a3,a4,a5,fun p hp=>?_⟩
   rcases List.mem_append.mp hp with z|z
   ·exact a6 p (List.mem_append_left _ z)
   ·have z':p∈Zx [D] s3.heap:=by simpa using z
    have:=(yz z').1
    have e:p.1=D:=by simpa using this
    rw [e]
    intro z2
    subst z2
    exact hDf hb
  refine thn (T.item (q9 X N' sc cl s.heap.objs.size (D::fp) pins s H) rfl rfl rfl O.calm i _ s3 σ3 H3 _ J3 (fpo fun b hb=>fr3 b (List.mem_cons_of_mem _ hb)) st3 go) fun r s4 ⟨u,hr,h4⟩=>?_
  subst hr
  refine thn h4 fun _ s5 ⟨y,H5,I5,r5,y5,st5,fr5⟩=>?_
  have I5':=I5.pinned (fpo fr5) (T.obj _ _ st5)
  have step':=step y H5 y5
  obtain ⟨n3,e3⟩:=pl3
  have dpin:∀ {σ7:St} {H7:Hp} {s7:Shared},Inv (q9 X N' sc cl s.heap.objs.size (D::fp) pins s H) ([]++Zx [D] s3.heap++Zx fp s5.heap) σ7 H7 s7->s7.heap.get? D=some { cls:=.type "list", data:=.seq its.toArray n3 }/\H7 D=none:=fun {σ7 H7 s7} I7=>by
   have q:=I7.pin (D,_) (List.mem_append_right _ (List.mem_append_left _ (List.mem_append_right _ (Zh (by simp) e3))))
   exact ⟨q.1,q.2.1⟩
  have tkeep:∀ {σ7:St} {H7:Hp} {s7:Shared},Inv (q9 X N' sc cl s.heap.objs.size (D::fp) pins s H) ([]++Zx [D] s3.heap++Zx fp s5.heap) σ7 H7 s7->tn (i+1) s7.heap/\∀ b∈D::fp,H7 b=none:=fun {σ7 H7 s7} I7=>by
   refine ⟨T.keep _ _ _ st5 fun b hb o e=>(I7.pin (b,o) (List.mem_append_right _ (List.mem_append_right _ (Zh hb e)))).1,fun b hb=>?_⟩
   rcases List.mem_cons.mp hb with rfl|hb
   ·exact (dpin I7).2
   ·obtain ⟨o,e,d⟩:=T.obj _ _ st5 b hb
    exact (I7.pin (b,o) (List.mem_append_right _ (List.mem_append_right _ (Zh hb e)))).2.1
  refine thF (pg _ s5 σ3 H5 y u _ I5' r5 step') fun _ s6 ⟨σ6,H6,I6,step6⟩=>?_
  refine thF (hq _ s6 _ H6 _ I6 step6) fun b s7 ⟨H7,I7,q7⟩=>?_
  cases b with
  | false =>
   simp only [Bool.false_eq_true,if_false] at q7 ⊢
   obtain ⟨m',hm,w8⟩:=q7
   obtain ⟨t8,f8⟩:=tkeep I7
   exact ⟨m',hm,i+1,ys,its,_,H7,I7.unpinned.unpinned,t8,f8,⟨n3,(dpin I7).1⟩,rv3,hz3,w8⟩
  | true =>
   simp only [if_true] at q7 ⊢
   refine thF (he _ s7 _ H7 _ I7 q7) fun v s8 ⟨vv,H8,I8,r8,hz,m',hm,w8⟩=>?_
   have hlen:=rv3.length
   refine wpAny_list_append_plain ⟨n3,(dpin I8).1⟩ (fun h9 pl9 sb9=>?_) (by rw [List.size_toArray];omega)
   obtain ⟨t8,f8⟩:=tkeep I8
   have st8:=stat f8 D List.mem_cons_self
   have I9:Inv (q9 X N' sc cl s.heap.objs.size (D::fp) pins s H) [] σ6 H8 { s8 with heap:=h9 } :=
    I8.unpinned.unpinned.turned (t':=s8.toks) (fun b o hb e=>(sb9.2 b hb).trans e) st8.1 st8.2.1 st8.2.2.2.1 st8.2.2.2.2.1 st8.2.2.2.2.2
   refine ⟨m',hm,i+1,ys++[vv],its++[v],_,H8,I9,T.keep _ _ _ t8 fun b hb o e=>(sb9.2 b (fun z=>hDf (z ▸ hb))).trans e,f8,by simpa using pl9,rv3.append (.cons r8 .nil),?_,w8⟩
   rw [List.length_append,List.length_singleton]
   omega
theorem Yv {E:Value->Shared->Prop}{pins:List (Addr×Obj)}{σ:St}{H:Hp}{s:Shared}{cl:List (Str×Addr)}{fp:List Addr}{it:Addr}{tn:Nat->Heap->Prop}{J:It}{RR:Value->Addr->Result->Shared->Prop}{Qd:V->Hp->Prop}(O:CompOk X N' k sc)
  (I:Inv X pins σ H s) (hcl1:∀ y c,cl.lookup y=some c->X.env.cells.lookup y=some c) (hcl2:∀ y,(y,NameKind.free)∈sc.names->∃ c,cl.lookup y=some c) (hf:∀ b∈fp,FpOk X pins H b)
  (T:Turn X.prog X.w X.K tg J fp it tn) (st:tn 0 s.heap)
  (hg:∀ cl C fp pins s H,PG (q9 X N' sc cl C fp pins s H) tg wg) (hq:∀ cl C fp pins s H,PTs (q9 X N' sc cl C fp pins s H) ifs tt) (he:∀ cl C fp pins s H,PE (q9 X N' sc cl C fp pins s H) elt te)
  (turn:qeb k J wg tt te σ H Qd)
  (fin:∀ D C s1 H1 m,Inv X pins σ H1 s1->s1.heap.Ns C m->H1 C=none->C≠X.env.locals->(X.s₀.heap.objs.size<=C)->(∀ z c,X.env.cells.lookup z=some c->c≠C)->(∀ p∈X.pn++pins,p.1≠C)->Qd (.ref D) H1->RR (.ref D) C (.ok .next) s1) :
  wpAny (model X.prog X.w) X.A (newList []) (fun acc s₃=>wpAny (model X.prog X.w) X.A (newFunctionEnv sc X.env.globals cl [] X.env.qual none .none (some X.env)) (fun cenv s₄ =>
   codeAny (model X.prog X.w) X.A (.compStart (.ListComp elt [⟨tg,iter,ifs,0⟩] sc pos) 0 (.ref it) acc { cenv with scope:=relabel sc X.env }) (RR acc cenv.locals) s₄) E s₃) E s:=by
 refine wpAny_newObj_type (qe6 ?_)
 dsimp only
 have hD:=I.hok.fresh (Nat.le_refl s.heap.objs.size)
 have I3:Inv X pins σ H { s with heap:=s.heap.push { cls:=.type "list", dict:=none,data:=.seq ([]:List Value).toArray } } :=
  I.kept (t':=s.toks) (fun b u e=>Heap.get?_push_of_some _ e)
 have fpl:∀ b∈fp,b<s.heap.objs.size:=fun b hb=>by
  obtain ⟨o,e,_⟩:=T.obj _ _ st b hb
  exact Heap.lt_size e
 have fD:FpOk X pins H s.heap.objs.size:=I.fpOk (Nat.le_refl _) hD
 have hf3:∀ b∈s.heap.objs.size::fp,FpOk X pins H b:=fun b hb=>by
  rcases List.mem_cons.mp hb with rfl|hb
  ·exact fD
  ·exact hf b hb
 have eD:(s.heap.push { cls:=.type "list", dict:=none,data:=.seq ([]:List Value).toArray }).get? s.heap.objs.size=some { cls:=.type "list", dict:=none,data:=.seq ([]:List Value).toArray }:=Heap.get?_push_size _ rfl
 generalize hH2:s.heap.push { cls:=.type "list", dict:=none,data:=.seq ([]:List Value).toArray }=H2 at I3 eD ⊢
 have hC:H2.objs.size=s.heap.objs.size+1:=by rw [← hH2,Heap.size_push]
 have sz2:(H2.push { cls:=.type "dict", data:=.dict #[] }).objs.size=H2.objs.size+1:=Heap.size_push ..
 obtain ⟨a1,a2,a3,a4,a5⟩:=qc8 H2.objs.size sc.names (H2.push { cls:=.type "dict", data:=.dict #[] }) cl (by omega) (fun y c e q=>by
  obtain ⟨v,z⟩:=I3.cell y c (hcl1 y c e)
  exact Nat.lt_of_lt_of_le z.lt (by rw [sz2];exact Nat.le_succ _)) (fun y z c q e1 e2=>I3.ok.inj y z c (hcl1 _ _ e1) (hcl1 _ _ e2))
 rw [sz2] at a1 a2 a3 a4 a5
 generalize hcl':cellsFrom (H2.objs.size+1) sc.names cl=cl' at a1 a2 a3 a4 a5 ⊢
 have old3:∀ b o,H2.get? b=some o->(pushCells (H2.push { cls:=.type "dict", data:=.dict #[] }) sc.names).get? b=some o:=fun b o e=>pushCells_keeps _ _ _ _ (Heap.get?_push_of_some _ e)
 have hns₁:(pushCells (H2.push { cls:=.type "dict", data:=.dict #[] }) sc.names).Ns H2.objs.size (fun _=>none):=(Heap.Ns.new H2 (.type "dict")).keeps (pushCells_keeps _ _)
 have cK:ClOk X sc cl' H2.objs.size (pushCells (H2.push { cls:=.type "dict", data:=.dict #[] }) sc.names):=by
  have fr:∀ y,sc.names.lookup y=some .free->∃ c,cl'.lookup y=some c/\X.env.cells.lookup y=some c:=fun y e=>by
   obtain ⟨c,q⟩:=hcl2 y (PySem.mem_of_lookup e)
   refine ⟨c,?_,hcl1 y c q⟩
   rw [a4 y fun z=>by have:=O.cells _ z rfl;rw [e] at this;cases this]
   exact q
  have ol:∀ y c,cl'.lookup y=some c->X.env.cells.lookup y=some c\/(H2.objs.size<c/\∃ v,(pushCells (H2.push { cls:=.type "dict", data:=.dict #[] }) sc.names).IsCell c v):=fun y c e=>by
   rcases a1 y c e with z|⟨z1,z2⟩
   ·exact .inl (hcl1 y c z)
   ·exact .inr ⟨by omega,none,z2⟩
  refine ⟨ol,fr,fun y e=>?_,fun y z c e1 e2=>?_⟩
  ·obtain ⟨c,q1,q2⟩:=a3 y (PySem.mem_of_lookup e)
   exact ⟨c,q1,by omega⟩
  ·by_cases hc:H2.objs.size<=c
   ·exact a5 y z c hc e1 e2
   ·rcases ol y c e1 with q|q
    ·rcases ol z c e2 with r|r
     ·exact I3.ok.inj y z c q r
     ·omega
    ·omega
 generalize pushCells (H2.push { cls:=.type "dict", data:=.dict #[] }) sc.names=h₁ at *
 have old2:∀ b o,s.heap.get? b=some o->H2.get? b=some o:=fun b o e=>hH2 ▸ Heap.get?_push_of_some _ e
 obtain ⟨W,⟨m0,w0⟩,tr⟩:=turn
 have st1:tn 0 h₁:=T.keep _ _ _ st fun b _ o e=>old3 b o (old2 b o e)
 have loop:codeAny (model X.prog X.w) X.A (.compLoop (.ListComp elt [⟨tg,iter,ifs,0⟩] sc pos) 0 (.ref it) (.ref s.heap.objs.size) (compEnvC sc cl' H2.objs.size X.env)) (RR (.ref s.heap.objs.size) H2.objs.size)
   { s with heap:=h₁ }:=by
  refine qcm (s:={ s with heap:=H2 }) (s':={ s with heap:=h₁ }) (Qd:=fun ys H'=>∀ D,H' D=none->Qd (.ref D) (upd H' D (.lst ys))) O I3 cK hf3 (fun b hb=>?_) rfl rfl old3 hns₁ T (fun z=>Nat.lt_irrefl _ (fpl _ z)) st1 ⟨0,old3 _ _ eD⟩ (hg _ _ _ _ _ _) (hq _ _ _ _ _ _) (he _ _ _ _ _ _) W m0 w0 tr ?_
  ·show b<H2.objs.size
   rw [hC]
   rcases List.mem_cons.mp hb with hb|hb
   ·rw [hb];exact Nat.lt_succ_self _
   ·exact Nat.lt_succ_of_lt (fpl b hb)
  intro s1 H1 σ1 ys its J1 hD1 pl1 rv1 hz1 q1
  obtain ⟨m,hn1,_⟩:=J1.loc
  obtain ⟨n1,e1⟩:=pl1
  have I4:=(comp_back I3 hf3 J1).track (D:=s.heap.objs.size) (o:=.lst ys) hD1 fD.2.1 fD.2.2.2.1 fD.2.2.2.2.1 fD.2.2.2.2.2 ⟨hz1,its,n1,rv1,e1⟩
  refine fin _ _ s1 _ m I4 hn1 (by rw [zf (by show H2.objs.size≠s.heap.objs.size;omega)];exact J1.free) (Nat.ne_of_gt I3.lt) I3.sz (fun z c e h=>?_) (fun p hp h=>?_) (q1 _ hD1)
  ·obtain ⟨v,q⟩:=I3.cell z c e
   have:=q.lt
   rw [h] at this
   exact Nat.lt_irrefl _ this
  ·have:=Heap.lt_size (I3.pin p hp).1
   rw [h] at this
   exact Nat.lt_irrefl _ this
 exact codeAny_compStart_list loop (T.self _ 0 _ _ _ st1 loop)
theorem qfl (O:CompOk X N' k sc)(hi:PI X tg iter wi)(hg:∀ cl C fp pins s H,PG (q9 X N' sc cl C fp pins s H) tg wg)(hq:∀ cl C fp pins s H,PTs (q9 X N' sc cl C fp pins s H) ifs tt)(he:∀ cl C fp pins s H,PE (q9 X N' sc cl C fp pins s H) elt te)
  (hs:∀ v,foldedSetIterable iter X.env v=pure v:=by intro _;rfl):PE X (.ListComp elt [⟨tg,iter,ifs,0⟩] sc pos) (qa7 k wi wg tt te):=by
 intro pins s σ H Q I h
 rw [eval_ListComp]
 obtain ⟨cl,hcl,hcl1,hcl2⟩:=Yr (sc:=sc) (env:=X.env) (fun y hy hf=>I.ok.has y.1 (O.free y hy hf))
 refine wpAny_comprehension_free (use:=none) rfl hs hcl O.kind O.names ?_
 refine thn (hi pins s σ H _ I h) fun v s1 h1=>thn h1 fun itv s2 h2=>?_
 obtain ⟨it,fp,tn,J,H2,e,I2,T,st2,f2,q⟩:=h2
 subst e
 refine Yv (RR:=fun acc C=>compPost (model X.prog X.w) X.A X.xe none (EP X pins σ Q) acc C) (Qd:=Q) O I2 hcl1 hcl2 f2 T st2 hg hq he q ?_
 intro D C s3 H3 m I3 hn3 hC3 hL hsz hcl3 hp3 q3
 exact ⟨m,hn3,fun h' sb=>⟨.ref D,H3,I3.turned (t':=s3.toks) (fun b o hb e=>(sb.2 b hb).trans e) hC3 hL (.inr hsz) hcl3 hp3,rfl,q3⟩⟩
theorem qfn {j:Nat}{y:Str}{py spos:Pos}(O:CompOk X N' k sc)(hj:X.N[j]?=some y)(hy:X.env.scope.names.lookup y=some .local)(hi:PI X tg iter wi)(hg:∀ cl C fp pins s H,PG (q9 X N' sc cl C fp pins s H) tg wg)(hq:∀ cl C fp pins s H,PTs (q9 X N' sc cl C fp pins s H) ifs tt)(he:∀ cl C fp pins s H,PE (q9 X N' sc cl C fp pins s H) elt te)
  (hsw:swapsWith (.ListComp elt [⟨tg,iter,ifs,0⟩] sc pos) (some (.Name y py)) spos.line X.env=pure true:=by rfl)
  (hs:∀ v,foldedSetIterable iter X.env v=pure v:=by intro _;rfl):PS X (.Assign [.Name y py] (.ListComp elt [⟨tg,iter,ifs,0⟩] sc pos) spos) (tAsg (qa7 k wi wg tt te) (qbP j)):=by
 intro pins s σ H D I h
 rw [exec_Assign_Name_used _ _ _ _ hsw]
 refine wpAny_bind (wpAny_standAt (wpAny_bind ?_))
 show wpAny _ X.A (do let _ ← comprehension (.ListComp elt [⟨tg,iter,ifs,0⟩] sc pos) sc X.env _ (newList []) false (eval iter X.env) (some (assign (.Name y py) X.env))) _ _ s
 obtain ⟨cl,hcl,hcl1,hcl2⟩:=Yr (sc:=sc) (env:=X.env) (fun y hy hf=>I.ok.has y.1 (O.free y hy hf))
 refine wpAny_bind (wpAny_mono (wpAny_comprehension_free (use:=some (assign (.Name y py) X.env)) (Q:=fun _ s'=>SP X pins D .next s') rfl hs hcl O.kind O.names ?_) (fun _ s' hq=>wpAny_pure (wpAny_pure hq)) fun _ _ e=>e)
 refine thn (hi pins s σ H _ I h) fun v s1 h1=>thn h1 fun itv s2 h2=>?_
 obtain ⟨it,fp,tn,J,H2,e,I2,T,st2,f2,q⟩:=h2
 subst e
 refine Yv (RR:=fun acc C=>compPost (model X.prog X.w) X.A X.xe (some (assign (.Name y py) X.env)) (fun _ s'=>SP X pins D .next s') acc C) (Qd:=fun x H1=>qbP j x σ H1 D.nx) O I2 hcl1 hcl2 f2 T st2 hg hq he q ?_
 intro B C s3 H3 m I3 hn3 hC3 hL hsz hcl3 hp3 q3
 refine wpAny_assign_Name (We I3 O.nd hj (.inl hy) (v:=.ref B) rfl (fun s4 I4 ⟨a,sb,ha⟩=>?_) (.inr hy))
 have hCa:C≠a:=by
  rcases ha with ha|ha
  ·rw [ha];exact hL
  ·exact Ne.symm (hcl3 _ _ ha)
 refine ⟨m,hn3.sameBut sb hCa,fun h' sb'=>⟨_,H3,I4.turned (t':=s4.toks) (fun b o hb e=>(sb'.2 b hb).trans e) hC3 hL (.inr hsz) hcl3 hp3,q3⟩⟩
end
end L2
namespace L2
open PySem PySem.Spec PyProof.Rows
abbrev K2:=List (Int ⊕ List Int)
def k2D (k:Int ⊕ List Int):PyData:=match k with
 | .inl i=>.int i
 | .inr js=>.tuple (js.map .int)
def k2T (ks:K2):PyData:=.tuple (ks.map k2D)
def k2H (k:Int ⊕ List Int):Int:=match k with
 | .inl i=>hashInt i
 | .inr js=>reduceHash (Builtin.Tuple.tupleHashOf (js.map hashInt))
theorem yP:∀ {a b:List Int},a.map PyData.int=b.map PyData.int->a=b
 | [],[],_=>rfl
 | [],_::_,e=>by simp at e
 | _::_,[],e=>by simp at e
 | x::xs,y::ys,e=>by
  rw [List.map_cons,List.map_cons] at e
  injection e with e1 e2
  injection e1 with e1
  rw [e1,yP e2]
theorem qeU {a b:Int ⊕ List Int}(e:k2D a=k2D b):a=b:=by
 cases a with
 | inl i=>cases b with
  | inl j=>injection (show PyData.int i=PyData.int j from e) with e;rw [e]
  | inr js=>cases (show PyData.int i=PyData.tuple _ from e)
 | inr is=>cases b with
  | inl j=>cases (show PyData.tuple _=PyData.int j from e)
  | inr js=>injection (show PyData.tuple (is.map .int)=PyData.tuple (js.map .int) from e) with e;rw [yP e]
theorem qaB:∀ {a b:K2},a.map k2D=b.map k2D->a=b
 | [],[],_=>rfl
 | [],_::_,e=>by simp at e
 | _::_,[],e=>by simp at e
 | x::xs,y::ys,e=>by
  rw [List.map_cons,List.map_cons] at e
  injection e with e1 e2
  rw [qeU e1,qaB e2]
theorem qeV {a b:K2}(e:k2T a=k2T b):a=b:=by
 injection (show PyData.tuple (a.map k2D)=PyData.tuple (b.map k2D) from e) with e
 exact qaB e
theorem qc5 (ns:List Int):PyData.canLayAll0 (ns.map .int)=true/\PyData.depthAll (ns.map .int)=0:=by
 induction ns with
 | nil=>exact ⟨rfl,rfl⟩
 | cons n ns ih=>exact ⟨ih.1,by show max 0 (PyData.depthAll (ns.map .int))=0;rw [ih.2];rfl⟩
theorem qc6 (ks:K2):PyData.canLayAll0 (ks.map k2D)=true/\PyData.depthAll (ks.map k2D)<=1:=by
 induction ks with
 | nil=>exact ⟨rfl,Nat.zero_le _⟩
 | cons k ks ih =>
  have hk:(k2D k).canLay0=true/\(k2D k).depth<=1:=by
   cases k with
   | inl i=>exact ⟨rfl,Nat.zero_le _⟩
   | inr js=>exact ⟨(qc5 js).1,by show PyData.depthAll (js.map .int)+1<=1;rw [(qc5 js).2];exact Nat.le_refl _⟩
  refine ⟨?_,?_⟩
  ·show ((k2D k).canLay0&&PyData.canLayAll0 (ks.map k2D))=true
   rw [hk.1,ih.1];rfl
  ·show max (k2D k).depth (PyData.depthAll (ks.map k2D))<=1
   exact Nat.max_le.mpr ⟨hk.2,ih.2⟩
theorem qet (ks:K2):(k2T ks).canLay0=true/\(k2T ks).depth<=2:=⟨(qc6 ks).1,Nat.succ_le_succ (qc6 ks).2⟩
def Is2 (h:Heap)(ks:K2)(a:Addr):Prop:=∃ as,Reads h (.ref a) (k2T ks) as
section
variable {prog:Program}{w:World}{A:Around}{E:Value->Shared->Prop}{s:Shared}
theorem Is2.typeIs {ks:K2}{a:Addr}(x:Is2 s.heap ks a):s.TypeIs (.ref a) "tuple" := by
 obtain ⟨as,r⟩:=x
 cases r with
 | tuple h1 h2 h3 h4=>exact ⟨_,h1,h2⟩
theorem qb3 {n:Nat}{h:Heap}{v:Value}{as:List Addr}{i:Int}(r:Reads h v (.int i) as):eqIsQuiet n v=pure true:=by
 cases r
 cases n<;>rfl
theorem Wd {m:Nat}{a:Addr}{o:Obj}{items:Array Value}{n:Nat}{Q:Bool->Shared->Prop}(ho:s.heap.get? a=some o)(hc:o.cls=.type "tuple")(hd:o.data=.seq items n)
  (hi:∀ v∈items.toList,∀ Q':Bool->Shared->Prop,Q' true s->wpAny (model prog w) A (eqIsQuiet m v) Q' E s) (h:Q true s):wpAny (model prog w) A (eqIsQuiet (m+1) (.ref a)) Q E s:=by
 have hT:s.TypeIs (.ref a) "tuple" := ⟨o,ho,hc⟩
 unfold eqIsQuiet
 refine wpAny_bind (wpAny_specialOf hT F.slot_tuple_eq.lookup (?_:wpAny _ _ (isInstance (.ref a) (.type "tuple") >>= _) _ _ s))
 refine wpAny_bind (wpAny_isInstance hT isSubtype_tuple_tuple (id ?_))
 simp only [Bool.not_true,if_false,Bool.false_eq_true]
 refine wpAny_bind (wpAny_seqItems ho hd (wpAny_bind (?_:wpAny _ _ (forIn items _ _) _ _ s)))
 rw [← Array.forIn_toList]
 refine wpAny_forIn_list _ (fun rest r s'=>r.1=none/\s'=s/\∀ v∈rest,∀ Q':Bool->Shared->Prop,Q' true s->wpAny (model prog w) A (eqIsQuiet m v) Q' E s) _ ?_ ?_ _ _ ⟨rfl,rfl,hi⟩
 ·rintro v rest r s' ⟨hr,rfl,hall⟩
  refine wpAny_bind (hall v List.mem_cons_self _ ?_)
  simp only [Bool.not_true,if_false,Bool.false_eq_true]
  exact wpAny_pure ⟨rfl,rfl,fun u hu'=>hall u (List.mem_cons_of_mem _ hu')⟩
 ·rintro ⟨r1,r2⟩ s' ⟨hr,rfl,_⟩
  simp only at hr
  subst hr
  exact wpAny_pure h
theorem jm {h:Heap}:∀ {vs:List Value} {ds:List PyData} {as:List Addr},ReadsAll h vs ds as->∀ v∈vs,∃ d∈ds,∃ bs,Reads h v d bs
 | _,_,_,.nil,v,hv=>by cases hv
 | _,_,_,.cons r t,v,hv=>by
  rcases List.mem_cons.mp hv with rfl|hv
  ·exact ⟨_,.head _,_,r⟩
  ·obtain ⟨d,hd,bs,q⟩:=jm t v hv
   exact ⟨d,.tail _ hd,bs,q⟩
theorem Is2.quiet {ks:K2}{a:Addr}{Q:Bool->Shared->Prop}(x:Is2 s.heap ks a)(h:Q true s):wpAny (model prog w) A (eqIsQuiet 8 (.ref a)) Q E s:=by
 obtain ⟨as,r⟩:=x
 cases r with
 | tuple h1 h2 h3 h4 =>
  refine Wd h1 h2 h3 (fun v hv Q' q=>?_) h
  obtain ⟨d,hd,bs,rv⟩:=jm h4 v hv
  obtain ⟨k,_,rfl⟩:=List.mem_map.mp hd
  cases k with
  | inl i=>rw [qb3 (show Reads s.heap v (.int i) bs from rv)];exact wpAny_pure q
  | inr js =>
   cases (show Reads s.heap v (.tuple (js.map .int)) bs from rv) with
   | tuple g1 g2 g3 g4 =>
    refine Wd g1 g2 g3 (fun u hu Q2 q2=>?_) q
    obtain ⟨d,hd,cs,ru⟩:=jm g4 u hu
    obtain ⟨i,_,rfl⟩:=List.mem_map.mp hd
    rw [qb3 ru]
    exact wpAny_pure q2
theorem Is2.inj {h:Heap}{a:Addr}{x y:K2}(hx:Is2 h x a)(hy:Is2 h y a):x=y:=by
 obtain ⟨as,r⟩:=hx
 obtain ⟨bs,q⟩:=hy
 exact qeV (SeqAt.Reads.unique _ _ _ _ _ (qet x).1 r q)
theorem yc {h h':Heap}{d:Addr}(k:∀ b o,b≠d->h.get? b=some o->h'.get? b=some o):∀ {vs:List Value} {ns:List Int} {as:List Addr},ReadsAll h vs (ns.map .int) as->ReadsAll h' vs (ns.map .int) as
 | _,[],_,r=>by cases r;exact .nil
 | _,n::ns,_,r=>by
  cases r with
  | cons a t=>cases a;exact .cons (.int _ _) (yc k t)
theorem Is2.keeps {h h':Heap}{ks:K2}{a d:Addr}{o:Obj}{es:Array DictEntry}{ep:Nat}(x:Is2 h ks a)(ho:h.get? d=some o)(hd:o.data=.dict es ep)(hs:Heap.SameBut d h h'):Is2 h' ks a:=by
 have k:∀ b o,b≠d->h.get? b=some o->h'.get? b=some o:=fun b o hb e=>(hs.2 b hb).trans e
 have ne:∀ {b:Addr} {ob:Obj} {items:Array Value} {n:Nat},h.get? b=some ob->ob.data=.seq items n->b≠d:=fun e q z=>by
  subst z
  rw [ho] at e
  cases e
  rw [hd] at q
  cases q
 have item:∀ {vs:List Value} {ks:K2} {as:List Addr},ReadsAll h vs (ks.map k2D) as->ReadsAll h' vs (ks.map k2D) as:=by
  intro vs ks
  induction ks generalizing vs with
  | nil=>intro as r;cases r;exact .nil
  | cons k1 ks ih =>
   intro as r
   cases r with
   | cons a t =>
    refine .cons ?_ (ih t)
    cases k1 with
    | inl i=>cases (show Reads h _ (.int i) _ from a);exact .int _ _
    | inr js =>
     cases (show Reads h _ (.tuple (js.map .int)) _ from a) with
     | tuple g1 g2 g3 g4=>exact .tuple (k _ _ (ne g1 g3) g1) g2 g3 (yc k g4)
 obtain ⟨as,r⟩:=x
 cases r with
 | tuple h1 h2 h3 h4=>exact ⟨_,.tuple (k _ _ (ne h1 h3) h1) h2 h3 (item h4)⟩
end
def qgD (ks:K2):Int:=reduceHash (Builtin.Tuple.tupleHashOf (ks.map k2H))
abbrev KX:=Int ⊕ K2
def kxD (k:KX):PyData:=match k with
 | .inl i=>.int i
 | .inr ks=>k2T ks
def kxV (k:KX)(b:Addr):V:=match k with
 | .inl i=>.int i
 | .inr _=>.ref b
def kxI (k:KX):Bool:=match k with
 | .inl _=>true
 | .inr _=>false
def qgt:PyData->Bool
 | .int _=>true
 | _=>false
abbrev PkT (p:KX×Addr×V)(q:K2×Addr×Value):Prop:=p.1=.inr q.1/\p.2.1=q.2.1/\RelV p.2.2 q.2.2
abbrev PkI (p:KX×Addr×V)(q:Int×Value):Prop:=p.1=.inl q.1/\RelV p.2.2 q.2
abbrev EnI (e:DictEntry)(q:Int×Value):Prop:=e.hash=hashInt q.1/\(∃ t,e.key=.int q.1 t)/\e.val=q.2
def DctT (a:Addr)(kvs:List (KX×Addr×V))(ep:Nat)(h:Heap):Prop :=
 ∃ xs:List (K2×Addr×Value),Paired PkT kvs xs/\∃ o es,h.get? a=some o/\o.ExactDict/\o.data=.dict es ep/\es.toList=xs.map (fun x=>(⟨qgD x.1,.ref x.2.1,x.2.2⟩:DictEntry))/\(xs.map (·.1)).Nodup
def DctI (a:Addr)(kvs:List (KX×Addr×V))(ep:Nat)(h:Heap):Prop :=
 ∃ vs:List (Int×Value),Paired PkI kvs vs/\∃ o es,h.get? a=some o/\o.ExactDict/\o.data=.dict es ep/\Paired EnI es.toList vs/\(vs.map (·.1)).Nodup
def ZX (a:Addr)(kvs:List (KX×Addr×V))(ep:Nat)(h:Heap):Prop :=
 kvs.length<=sizeLine/\(a==sysModules)=false/\(DctT a kvs ep h\/DctI a kvs ep h)
def DctO (a:Addr)(kvs:List (KX×Addr×V))(ep:Nat):HO:=.ext (ZX a kvs ep)
theorem ZX.ok {P:Program}{w:World}{H:Hp}{h:Heap}{a:Addr}{kvs:List (KX×Addr×V)}{ep:Nat}(d:ZX a kvs ep h):Ze P w H h a (DctO a kvs ep):=by
 refine ⟨d,?_,fun h1 h2 ⟨z,y,e⟩ k=>⟨z,y,e.imp (fun ⟨xs,r,o,es,g1,g2⟩=>⟨xs,r,o,es,k o g1,g2⟩) fun ⟨xs,r,o,es,g1,g2⟩=>⟨xs,r,o,es,k o g1,g2⟩⟩⟩
 obtain ⟨_,_,⟨_,_,o,_,g1,_⟩|⟨_,_,o,_,g1,_⟩⟩:=d
 ·exact ⟨o,g1⟩
 ·exact ⟨o,g1⟩
theorem ZX.of {P:Program}{w:World}{H:Hp}{h:Heap}{a:Addr}{kvs:List (KX×Addr×V)}{ep:Nat}(x:Ze P w H h a (DctO a kvs ep)):ZX a kvs ep h:=x.1
def dkv (kvs:List (KX×Addr×V))(ds:List PyData):List (PyData×PyData):=(kvs.map fun p=>kxD p.1).zip ds
theorem qdX {kvs:List (KX×Addr×V)}{xs:List (K2×Addr×Value)}(r:Paired PkT kvs xs):Vals (kvs.map fun p=>kxV p.1 p.2.1) (xs.map fun x=>Value.ref x.2.1)/\Vals (kvs.map (·.2.2)) (xs.map (·.2.2)):=by
 induction r with
 | nil=>exact ⟨.nil,.nil⟩
 | cons h t ih=>exact ⟨.cons (by dsimp only;rw [h.1,h.2.1];rfl) ih.1,.cons h.2.2 ih.2⟩
theorem qaZ:∀ {kvs:List (KX×Addr×V)} {vs:List (Int×Value)} {es:List DictEntry},Paired PkI kvs vs->Paired EnI es vs->Vals (kvs.map fun p=>kxV p.1 p.2.1) (es.map (·.key))/\Vals (kvs.map (·.2.2)) (es.map (·.val))
 | _,_,_,.nil,.nil=>⟨.nil,.nil⟩
 | _,_,_,.cons h t,.cons g u=>by
  obtain ⟨i1,i2⟩:=qaZ t u
  obtain ⟨_,⟨tk,g1⟩,g2⟩:=g
  exact ⟨.cons (by dsimp only;rw [h.1,g1];exact ⟨tk,rfl⟩) i1,.cons (by dsimp only;rw [g2];exact h.2) i2⟩
theorem ZX.vals {h:Heap}{a:Addr}{kvs:List (KX×Addr×V)}{ep:Nat}(d:ZX a kvs ep h):∃ o es,h.get? a=some o/\o.ExactDict/\o.data=.dict es ep/\Vals (kvs.map fun p=>kxV p.1 p.2.1) (es.toList.map (·.key))/\Vals (kvs.map (·.2.2)) (es.toList.map (·.val)):=by
 obtain ⟨_,_,⟨xs,r,o,es,g1,g2,g3,g4,_⟩|⟨vs,r,o,es,g1,g2,g3,g4,_⟩⟩:=d
 ·refine ⟨o,es,g1,g2,g3,?_⟩
  rw [g4,List.map_map,List.map_map]
  exact qdX r
 ·exact ⟨o,es,g1,g2,g3,qaZ r g4⟩
theorem ZX.tup {h:Heap}{a:Addr}{kvs:List (KX×Addr×V)}{ep:Nat}(d:ZX a kvs ep h)(hk:∀ p∈kvs,kxI p.1=false):DctT a kvs ep h:=by
 obtain ⟨_,_,d|⟨vs,r,o,es,g1,g2,g3,g4,g5⟩⟩:=d
 ·exact d
 ·cases r with
  | nil =>
   have he:es.toList=[]:=by cases h:es.toList with
    | nil=>rfl
    | cons=>rw [h] at g4;cases g4
   exact ⟨[],.nil,o,es,g1,g2,g3,he,List.nodup_nil⟩
  | @cons p q _ _ h t =>
   have:=hk p (.head _)
   rw [h.1] at this
   cases this
theorem ZX.int {h:Heap}{a:Addr}{kvs:List (KX×Addr×V)}{ep:Nat}(d:ZX a kvs ep h)(hk:∀ p∈kvs,kxI p.1=true):DctI a kvs ep h:=by
 obtain ⟨_,_,⟨xs,r,o,es,g1,g2,g3,g4,g5⟩|d⟩:=d
 ·cases r with
  | nil=>exact ⟨[],.nil,o,es,g1,g2,g3,by rw [g4];exact .nil,List.nodup_nil⟩
  | @cons p q _ _ h t =>
   have:=hk p (.head _)
   rw [h.1] at this
   cases this
 ·exact d
end L2
namespace L2
open PySem PySem.Spec PyProof.Rows
def qav:List String:=["int", "bool", "tuple", "list", "str"]
def xcB (K:PySem.W.Frag)(C:Addr):Bool :=
 (PySem.W.clsIn K C).isSome&&(PySem.W.findIn K (.ref C) "__getattribute__" == some (some (.builtin "BaseException.__getattribute__")))&&(PySem.W.findIn K (.ref C) "__getattr__" == some none)
 && (PySem.W.findIn K (.ref C) "__class__" == some (some (.builtin "object.__class__")))&&(PySem.W.mroIn K C (.type "object")==some true)&&(PySem.W.mroIn K C (.type "BaseException")==some true)
 && qav.all fun T=>PySem.W.kitOne K (.ref C) (.type T)==some false
structure XcK (K:PySem.W.Frag)(C:Addr):Prop where
 cls:(PySem.W.clsIn K C).isSome=true
 ga:PySem.W.findIn K (.ref C) "__getattribute__" = some (some (.builtin "BaseException.__getattribute__"))
 gt:PySem.W.findIn K (.ref C) "__getattr__" = some none
 cl:PySem.W.findIn K (.ref C) "__class__" = some (some (.builtin "object.__class__"))
 mo:PySem.W.mroIn K C (.type "object")=some true
 mb:PySem.W.mroIn K C (.type "BaseException")=some true
 ts:∀ T∈qav,PySem.W.kitOne K (.ref C) (.type T)=some false
theorem qej {K:PySem.W.Frag}{C:Addr}(h:xcB K C=true):XcK K C:=by
 unfold xcB at h
 simp only [Bool.and_eq_true,beq_iff_eq,List.all_eq_true] at h
 obtain ⟨⟨⟨⟨⟨⟨h1,h2⟩,h3⟩,h4⟩,h5⟩,h6⟩,h7⟩:=h
 exact ⟨h1,h2,h3,h4,h5,h6,h7⟩
section
variable {prog:Program}{w:World}{A:Around}{E:Value->Shared->Prop}{s:Shared}{K:PySem.W.Frag}{x C:Addr}
def OfC (h:Heap)(x C:Addr):Prop:=∃ o,h.get? x=some o/\o.cls=.ref C
theorem OfC.ty {h:Heap}{M:Model}(I:OfC h x C):PySem.W.Looks M h (typeOf (.ref x)) (.ref C):=by
 obtain ⟨o,h1,h2⟩:=I
 exact h2 ▸ (PySem.W.Looks.ld h1).andThen .now
open PySem.W in
theorem Ww {M:Model}{nameV:Value}{Q:Unit->Shared->Prop}(Z:XcK K C)(X:K.In s.heap)(I:OfC s.heap x C)(hq:Q () s) :
  wpAny M A (checkBuiltinCall "BaseException.__getattribute__" ⟨[.ref x,nameV],[]⟩) Q E s:=by
 obtain ⟨hh,g,d,t,os⟩:=s
 have hk:builtinKind "BaseException.__getattribute__" = some .slot:=by decide +kernel
 have hs:splitId "BaseException.__getattribute__" = some ("BaseException", "__getattribute__"):=by decide +kernel
 have L0:=I.ty (M:=M)
 have L1:=looks_mroIn (M:=M) X Z.mb
 have ha:=F.args_bexc_ga (.ref x) nameV
 simp only [checkBuiltinCall,hk,hs]
 refine wpAny_bind ?_
 unfold isInstance
 repeat (first|with_reducible refine Looks.at (by assumption) ?_|wp_step)
 exact hq
open PySem.W in
theorem Y9 {R:Result->Shared->Prop}(Z:XcK K C)(X:K.In s.heap)(I:OfC s.heap x C)(hq:R (.ok (.ret (.ref C))) s) :
  codeAny (model prog w) A (.call (.builtin "getset_descriptor.__get__") ⟨[.builtin "object.__class__", .ref x,.ref C],[]⟩) R s:=by
 obtain ⟨hh,g,d,t,os⟩:=s
 have hT5:(⟨hh,g,d,t,os⟩:Shared).TypeIs (.builtin "object.__class__") "getset_descriptor" := F.typeOf_object_class
 have L0:=I.ty (M:=model prog w)
 have L1:Looks (model prog w) hh (isSubtype (.ref C) (.type (".".intercalate ("object.__class__".cutAt '.').dropLast))) true:=by
  rw [F.owner_object_class]
  exact looks_mroIn (M:=model prog w) X Z.mo
 refine codeAny_call_builtin F.slot_gs_get.plain F.entry_gs_get (F.slot_gs_get.check _ _ _ _ _ _ _ _ hT5 (F.args_gs_get _ _ _) ?_)
 repeat (any_goals (first|assumption|with_reducible refine Looks.at (by assumption) ?_|wp_step))
 refine ⟨Code.quiet_builtin _ (by decide +kernel),codeAny_builtin F.entry_object_class ?_⟩
 repeat (any_goals (first|assumption|with_reducible refine Looks.at (by assumption) ?_|wp_step))
open PySem.W in
theorem yR {tk:Tok}{Q:Fin->Shared->Prop}(Z:XcK K C)(X:K.In s.heap)(I:OfC s.heap x C)(hq:Q (.done (.ret (.ref C))) s) :
  wpAny (model prog w) A (Builtin.«object.__getattribute__» ⟨[.ref x,.str "__class__" tk],[]⟩) Q E s:=by
 obtain ⟨hh,g,d,t,os⟩:=s
 have hT5:(⟨hh,g,d,t,os⟩:Shared).TypeIs (.builtin "object.__class__") "getset_descriptor" := F.typeOf_object_class
 have L0:=I.ty (M:=model prog w)
 have L1:=looks_findIn (M:=model prog w) X Z.cl
 have f5:=F.typeOf_object_class;have f6:=F.slot_gs_get.lookup;have f7:=F.slot_gs_set.lookup
 repeat (any_goals (first|assumption|with_reducible refine Looks.at (by assumption) ?_|wp_step))
 refine Y9 Z X I ?_
 repeat (any_goals (first|assumption|wp_step))
open PySem.W in
theorem Wv {tk:Tok}{Q:Value->Shared->Prop}(Z:XcK K C)(X:K.In s.heap)(I:OfC s.heap x C)(hq:Q (.ref C) s) :
  wpAny (model prog w) A (getAttrBy (.ref x) (.str "__class__" tk) false) Q E s:=by
 obtain ⟨hh,g,d,t,os⟩:=s
 have L0:=I.ty (M:=model prog w)
 have L1:=looks_findIn (M:=model prog w) X Z.ga
 have L2:=looks_findIn (M:=model prog w) X Z.gt
 have f3:=F.excAttr_ValueError.ga.bind (.ref x)
 have hx2:(Value.builtin "BaseException.__getattribute__" == Value.builtin "object.__getattribute__")=false:=by decide +kernel
 have hx1:(onTheHeap (Value.ref C)&&Value.builtin "BaseException.__getattribute__" == Value.builtin "object.__getattribute__")=false:=by rw [hx2];exact Bool.and_false _
 repeat (any_goals (first|assumption|with_reducible refine Looks.at (by assumption) ?_|wp_step))
 refine codeAny_call_builtin F.excAttr_ValueError.ga.plain F.entry_bexc_ga (Ww Z X I (yR Z X I ?_))
 repeat (any_goals (first|assumption|wp_step))
open PySem.W in
theorem qco {Q:Option Value->Shared->Prop}(Z:XcK K C)(X:K.In s.heap)(I:OfC s.heap x C)(hq:Q (some (.ref C)) { s with toks:=s.toks+1 }) :
  wpAny (model prog w) A (getAttr? (.ref x) "__class__") Q E s:=by
 obtain ⟨hh,g,d,t,os⟩:=s
 unfold getAttr? getAttrBy?
 refine wpAny_bind (wpAny_mkText (wpAny_bind (wpAny_attempt (Wv (s:=⟨hh,g,d,t+1,os⟩) Z X I ?_))))
 exact wpAny_pure hq
end
open PySem.W in
theorem qdp {K:Frag}{a C:Addr}(Z:XcK K C):KitX K (.ref a) (.ref C) (fun h=>OfC h a C) where
 ty:=fun _ _ _ I=>I.ty
 it:=fun _ _ X _=>by
  have z:=Z.cls
  unfold clsIn at z
  split at z
  ·rename_i c' d' cd' sl' ho
   intro A' Q' E' s' k q;unfold isType loadHead
   exact wpAny_bind (wpAny_loadPart (k _ _ (X _ _ ho)) (wpAny_pure q))
  ·cases z
 ne:=fun h tp dd its n sl X htp=>by
  have z:=Z.cls
  refine Bool.eq_false_iff.mpr fun q=>?_
  have e:C=tp:=Value.ref.inj (beq_iff_eq.mp q)
  subst e;unfold clsIn at z
  split at z
  ·rename_i c' d' cd' sl' ho
   have y:=(X _ _ ho).symm.trans htp
   cases y
  ·cases z
 ca:=fun X I k=>qco Z X I k
end L2
namespace L2
open PySem PySem.Spec PyProof.Rows
abbrev Av:=Addr->Prop
def j8:HO->Bool
 | .lst _=>true
 | .dK _=>true
 | .dT _=>true
 | .ext _=>true
 | _=>false
def Dm (S:Av)(H:Hp):Prop:=∀ a,S a->∃ o,H a=some o/\j8 o=true
def Off (S:Av)(H H':Hp):Prop:=∀ b o,¬ S b->H b=some o->H' b=some o
def KqL (K:PySem.W.Frag)(a:Addr)(xs:List V):Prop:=∃ (o:Obj) (its:Array Value) (n:Nat),K.lookup a=some o/\o.cls=.type "list"/\o.dict=none/\o.data=.seq its n/\its.size<=sizeLine/\Vals xs its.toList
def SqLS (K:PySem.W.Frag)(H:Hp)(S:Av)(a:Addr)(xs:List V):Prop:=(Rd H a (.lst xs)/\¬ S a)\/KqL K a xs
def ExcO (K:PySem.W.Frag)(o:Obj)(c:Str):Prop:=∃ C vs,o.cls=.ref C/\o.data=.fields vs/\PySem.W.nsIn K mainGlobals c=some (some (.ref C))/\xcB K C=true
def excD (c:Str)(d:PyData):PyData:=.dict [(.str c,d),(.int 0,.none)]
mutual
inductive Den (K:PySem.W.Frag)(H:Hp)(S:Av):V->PyData->Prop
 | none:Den K H S .non .none
 | bool (b:Bool):Den K H S (.bl b) (.bool b)
 | int (i:Int):Den K H S (.int i) (.int i)
 | str (x:Str):Den K H S (.str x) (.str x)
 | list {a:Addr} {xs:List V} {ds:List PyData}:SqLS K H S a xs->DenL K H S xs ds->Den K H S (.ref a) (.list ds)
 | tuple {a:Addr} {xs:List V} {ds:List PyData}:SqT K H a xs->DenL K H S xs ds->Den K H S (.ref a) (.tuple ds)
 | dict {a:Addr} {kvs:List (KX×Addr×V)} {ep:Nat} {ds:List PyData}:(H a=some (DctO a kvs ep)/\¬ S a)->DenL K H S (kvs.map fun p=>kxV p.1 p.2.1) (kvs.map fun p=>kxD p.1)->DenL K H S (kvs.map (·.2.2)) ds->Den K H S (.ref a) (.dict (dkv kvs ds))
 | exc0 {a:Addr} {o:Obj} {c:Str}:H a=some (.frz o (.own a))->ExcO K o c->Den K H S (.ref a) (excD c .none)
 | exc1 {a dx:Addr} {o:Obj} {c n:Str} {v:V} {d:PyData}:H a=some (.frz o (.own a))->ExcO K o c->o.dict=some dx->H dx=some (.xd [(n,v)])->Den K H S v d->Den K H S (.ref a) (excD c (.tuple [.str n,d]))
inductive DenL (K:PySem.W.Frag)(H:Hp)(S:Av):List V->List PyData->Prop
 | nil:DenL K H S [] []
 | cons {x:V} {d:PyData} {xs:List V} {ds:List PyData}:Den K H S x d->DenL K H S xs ds->DenL K H S (x::xs) (d::ds)
end
mutual
def flat:PyData->Bool
 | .none=>true
 | .bool _=>true
 | .int _=>true
 | .str _=>true
 | .list _=>false
 | .tuple ds=>qaw ds
 | .dict _=>false
def qaw:List PyData->Bool
 | []=>true
 | d::ds=>flat d&&qaw ds
end
section
variable {K:PySem.W.Frag}{H H':Hp}{S S':Av}
theorem SqLS.sq {a:Addr}{xs:List V}(h:SqLS K H S a xs):SqL K H a xs:=h.imp (·.1) id
theorem SqLS.new {a:Addr}{xs:List V}(h:H a=some (.lst xs))(n:¬ S a):SqLS K H S a xs:=.inl ⟨.inl h,n⟩
theorem Dm.free {p:Addr}(m:Dm S H)(h:H p=none):¬ S p:=fun q=>by
 obtain ⟨o,e,_⟩:=m p q
 rw [h] at e;cases e
theorem Dm.same (e:Same H H')(m:Dm S H):Dm S H':=fun a q=>by
 obtain ⟨o,h,w⟩:=m a q
 exact ⟨o,e a o h,w⟩
theorem Dm.sub (m:Dm S H)(h:∀ a,S' a->S a):Dm S' H:=fun a q=>m a (h a q)
theorem Dm.tup {a:Addr}{xs:List V}(m:Dm S H)(h:Rd H a (.tup xs)):¬ S a:=fun q=>by
 obtain ⟨o,e,w⟩:=m a q
 rcases h with h|⟨u,h⟩
 ·rw [h] at e;cases e;cases w
 ·rw [h] at e;cases e;cases w
theorem Dm.not {a:Addr}{u:HO}(m:Dm S H)(h:H a=some u)(n:j8 u=false):¬ S a:=fun q=>by
 obtain ⟨o,e,w⟩:=m a q
 rw [h] at e;cases e;rw [n] at w;cases w
theorem Rd.off {a:Addr}{o:HO}(e:Off S H H')(n:¬ S a)(h:Rd H a o):Rd H' a o:=by
 rcases h with h|⟨u,h⟩
 ·exact .inl (e _ _ n h)
 ·exact .inr ⟨u,e _ _ n h⟩
theorem Rd.dom {a:Addr}{o:HO}(h:Rd H a o):H a≠none:=by
 rcases h with h|⟨u,h⟩<;>(rw [h];exact fun z=>nomatch z)
theorem Same.off (e:Same H H'):Off S H H':=fun b o _ h=>e b o h
theorem SqT.upd {a p:Addr}{o:HO}{xs:List V}(h:SqT K H a xs)(hn:H p=none):SqT K (upd H p o) a xs:=by
 rcases h with (h|⟨o',h⟩)|h
 ·exact .inl (.inl (by rw [zf (Qx h hn)];exact h))
 ·exact .inl (.inr ⟨o',by rw [zf (Qx h hn)];exact h⟩)
 ·exact .inr h
theorem Same.sqT {a:Addr}{xs:List V}(e:Same H H')(h:SqT K H a xs):SqT K H' a xs:=by
 rcases h with (h|⟨o,h⟩)|h
 ·exact .inl (.inl (e _ _ h))
 ·exact .inl (.inr ⟨o,e _ _ h⟩)
 ·exact .inr h
theorem Same.lay {p:Addr}{o:HO}(hn:H p=none):Same H (L2.upd H p o):=fun b u q=>by rw [zf (Qx q hn)];exact q
theorem Same.lay' {H0:Hp}{p:Addr}{o:HO}(e:Same H0 H)(hn:H p=none):Same H0 (L2.upd H p o):=e.trans (Same.lay hn)
mutual
theorem Den.off (m:Dm S H)(e:Off S H H'):∀ {v:V} {d:PyData},Den K H S v d->Den K H' S v d
 | _,_,.none=>.none
 | _,_,.bool b=>.bool b
 | _,_,.int i=>.int i
 | _,_,.str x=>.str x
 | _,_,.list h t=>.list (h.imp (fun q=>⟨q.1.off e q.2,q.2⟩) id) (DenL.off m e t)
 | _,_,.tuple h t=>.tuple (h.imp (fun q=>q.off e (m.tup q)) id) (DenL.off m e t)
 | _,_,.dict h k t=>.dict ⟨e _ _ h.2 h.1,h.2⟩ (DenL.off m e k) (DenL.off m e t)
 | _,_,.exc0 h o=>.exc0 (e _ _ (m.not h rfl) h) o
 | _,_,.exc1 h o x y t=>.exc1 (e _ _ (m.not h rfl) h) o x (e _ _ (m.not y rfl) y) (Den.off m e t)
theorem DenL.off (m:Dm S H)(e:Off S H H'):∀ {vs:List V} {ds:List PyData},DenL K H S vs ds->DenL K H' S vs ds
 | _,_,.nil=>.nil
 | _,_,.cons h t=>.cons (Den.off m e h) (DenL.off m e t)
end
mutual
theorem Den.same (e:Same H H'):∀ {v:V} {d:PyData},Den K H S v d->Den K H' S v d
 | _,_,.none=>.none
 | _,_,.bool b=>.bool b
 | _,_,.int i=>.int i
 | _,_,.str x=>.str x
 | _,_,.list h t=>.list (h.imp (fun q=>⟨q.1.off (S:=S) e.off q.2,q.2⟩) id) (DenL.same e t)
 | _,_,.tuple h t=>.tuple (e.sqT h) (DenL.same e t)
 | _,_,.dict h k t=>.dict ⟨e _ _ h.1,h.2⟩ (DenL.same e k) (DenL.same e t)
 | _,_,.exc0 h o=>.exc0 (e _ _ h) o
 | _,_,.exc1 h o x y t=>.exc1 (e _ _ h) o x (e _ _ y) (Den.same e t)
theorem DenL.same (e:Same H H'):∀ {vs:List V} {ds:List PyData},DenL K H S vs ds->DenL K H' S vs ds
 | _,_,.nil=>.nil
 | _,_,.cons h t=>.cons (Den.same e h) (DenL.same e t)
end
mutual
theorem Den.sub (e:∀ a,H a≠none->S' a->S a):∀ {v:V} {d:PyData},Den K H S v d->Den K H S' v d
 | _,_,.none=>.none
 | _,_,.bool b=>.bool b
 | _,_,.int i=>.int i
 | _,_,.str x=>.str x
 | _,_,.list h t=>.list (h.imp (fun q=>⟨q.1,fun z=>q.2 (e _ q.1.dom z)⟩) id) (DenL.sub e t)
 | _,_,.tuple h t=>.tuple h (DenL.sub e t)
 | _,_,.dict h k t=>.dict ⟨h.1,fun z=>h.2 (e _ (by rw [h.1];exact fun y=>nomatch y) z)⟩ (DenL.sub e k) (DenL.sub e t)
 | _,_,.exc0 h o=>.exc0 h o
 | _,_,.exc1 h o x y t=>.exc1 h o x y (Den.sub e t)
theorem DenL.sub (e:∀ a,H a≠none->S' a->S a):∀ {vs:List V} {ds:List PyData},DenL K H S vs ds->DenL K H S' vs ds
 | _,_,.nil=>.nil
 | _,_,.cons h t=>.cons (Den.sub e h) (DenL.sub e t)
end
mutual
theorem Den.flat:∀ {v:V} {d:PyData},L2.flat d=true->Den K H S v d->Den K H S' v d
 | _,_,_,.none=>.none
 | _,_,_,.bool b=>.bool b
 | _,_,_,.int i=>.int i
 | _,_,_,.str x=>.str x
 | _,_,f,.list h t=>by cases f
 | _,_,f,.tuple h t=>.tuple h (DenL.flat (by rw [L2.flat] at f;exact f) t)
 | _,_,f,.dict h k t=>by cases f
 | _,_,f,.exc0 h o=>by cases f
 | _,_,f,.exc1 h o x y t=>by cases f
theorem DenL.flat:∀ {vs:List V} {ds:List PyData},qaw ds=true->DenL K H S vs ds->DenL K H S' vs ds
 | _,_,_,.nil=>.nil
 | _,_,f,.cons h t=>by
  rw [qaw,Bool.and_eq_true] at f
  exact .cons (Den.flat f.1 h) (DenL.flat f.2 t)
end
theorem DenL.length:∀ {vs:List V} {ds:List PyData},DenL K H S vs ds->vs.length=ds.length
 | _,_,.nil=>rfl
 | _,_,.cons _ t=>by rw [List.length_cons,List.length_cons,t.length]
theorem DenL.snoc:∀ {vs:List V} {ds:List PyData} {v:V} {d:PyData},DenL K H S vs ds->Den K H S v d->DenL K H S (vs++[v]) (ds++[d])
 | _,_,_,_,.nil,h=>.cons h .nil
 | _,_,_,_,.cons h t,q=>.cons h (t.snoc q)
theorem DenL.append:∀ {vs ws:List V} {ds es:List PyData},DenL K H S vs ds->DenL K H S ws es->DenL K H S (vs++ws) (ds++es)
 | _,_,_,_,.nil,h=>h
 | _,_,_,_,.cons h t,q=>.cons h (t.append q)
theorem DenL.get:∀ {vs:List V} {ds:List PyData} {i:Nat} {d:PyData},DenL K H S vs ds->ds[i]?=some d->∃ v,vs[i]?=some v/\Den K H S v d
 | _,_,_,_,.nil,e=>by simp at e
 | _,_,0,_,.cons h _,e=>by simp at e;subst e;exact ⟨_,rfl,h⟩
 | _,_,i+1,d,.cons _ t,e=>by
  obtain ⟨v,h1,h2⟩:=DenL.get (i:=i) (d:=d) t (by simpa using e)
  exact ⟨v,by simpa using h1,h2⟩
theorem DenL.drop:∀ {vs:List V} {ds:List PyData} (n:Nat),DenL K H S vs ds->DenL K H S (vs.drop n) (ds.drop n)
 | _,_,0,h=>h
 | _,_,_+1,.nil=>.nil
 | _,_,n+1,.cons _ t=>t.drop n
theorem DenL.take:∀ {vs:List V} {ds:List PyData} (n:Nat),DenL K H S vs ds->DenL K H S (vs.take n) (ds.take n)
 | _,_,0,_=>.nil
 | _,_,_+1,.nil=>.nil
 | _,_,n+1,.cons h t=>.cons h (t.take n)
theorem DenL.ints:∀ ns:List Int,DenL K H S (ns.map V.int) (ns.map PyData.int)
 | []=>.nil
 | n::ns=>.cons (.int n) (DenL.ints ns)
theorem Den.bool_inv {v:V}{b:Bool}(h:Den K H S v (.bool b)):v=.bl b:=by cases h;rfl
theorem Den.list_inv {v:V}{ds:List PyData}(h:Den K H S v (.list ds)):∃ a xs,v=.ref a/\SqLS K H S a xs/\DenL K H S xs ds:=by
 cases h with
 | list h t=>exact ⟨_,_,rfl,h,t⟩
theorem DenL.inv1 {vs:List V}{d:PyData}(h:DenL K H S vs [d]):∃ v,vs=[v]/\Den K H S v d:=by
 cases h with
 | cons a t=>cases t;exact ⟨_,rfl,a⟩
theorem DenL.inv2 {vs:List V}{d e:PyData}(h:DenL K H S vs [d,e]):∃ v w,vs=[v,w]/\Den K H S v d/\Den K H S w e:=by
 cases h with
 | cons a t=>obtain ⟨w,rfl,b⟩:=t.inv1;exact ⟨_,w,rfl,a,b⟩
end
section
variable {X:Cx}{pins:List (Addr×Obj)}{σ:St}{H:Hp}{s:Shared}{S:Av}
mutual
theorem Den.reads (I:Inv X pins σ H s):∀ {v:V} {d:PyData} {u:Value},Den X.K H S v d->d.canLay0=true->RelV v u->∃ as,Reads s.heap u d as
 | _,_,u,.none,_,r=>by cases (show u=Value.none from r);exact ⟨_,.none⟩
 | _,_,u,.bool b,_,r=>by cases (show u=Value.bool b from r);exact ⟨_,.bool b⟩
 | _,_,u,.int i,_,r=>by obtain ⟨t,e⟩:=(show ∃ t,u=Value.int i t from r);cases e;exact ⟨_,.int i t⟩
 | _,_,u,.str x,_,r=>by obtain ⟨t,e⟩:=(show ∃ t,u=Value.str x t from r);cases e;exact ⟨_,.str x t⟩
 | _,_,u,@Den.list _ _ _ a xs ds h t,c0,r=>by
  cases (show u=Value.ref a from r)
  obtain ⟨its,rv,⟨o,n,e,c,_,d⟩,_⟩:=I.list h.sq
  obtain ⟨as,q⟩:=DenL.reads I t (by rw [PyData.canLay0] at c0;exact c0) rv
  exact ⟨_,.list e c d (by simpa using q)⟩
 | _,_,u,@Den.tuple _ _ _ a xs ds h t,c0,r=>by
  cases (show u=Value.ref a from r)
  obtain ⟨its,rv,⟨o,e,c,n,d⟩,_⟩:=I.tuple h
  obtain ⟨as,q⟩:=DenL.reads I t (by rw [PyData.canLay0] at c0;exact c0) rv
  exact ⟨_,.tuple e c d (by simpa using q)⟩
 | _,_,u,.dict h k t,c0,r=>by rw [PyData.canLay0] at c0;cases c0
 | _,_,u,.exc0 h o,c0,r=>by unfold excD at c0;rw [PyData.canLay0] at c0;cases c0
 | _,_,u,.exc1 h o x y t,c0,r=>by unfold excD at c0;rw [PyData.canLay0] at c0;cases c0
theorem DenL.reads (I:Inv X pins σ H s):∀ {vs:List V} {ds:List PyData} {us:List Value},DenL X.K H S vs ds->PyData.canLayAll0 ds=true->Vals vs us->∃ as,ReadsAll s.heap us ds as
 | _,_,_,.nil,_,.nil=>⟨_,.nil⟩
 | _,_,_,.cons h t,c0,.cons r rr=>by
  rw [PyData.canLayAll0,Bool.and_eq_true] at c0
  obtain ⟨as,q⟩:=Den.reads I h c0.1 r
  obtain ⟨bs,q'⟩:=DenL.reads I t c0.2 rr
  exact ⟨_,.cons q q'⟩
end
end
section
variable {X:Cx}{pins:List (Addr×Obj)}{σ:St}{H:Hp}{s:Shared}
def rEqD (K:PySem.W.Frag):R2:=fun x y H Q=>∃ S d e,Den K H S x d/\Den K H S y e/\SeqAt.shaped d=true/\SeqAt.shaped e=true/\Q (.bl (PyData.eqv d e)) H
def rNeD (K:PySem.W.Frag):R2:=fun x y H Q=>∃ S d e,Den K H S x d/\Den K H S y e/\SeqAt.shaped d=true/\SeqAt.shaped e=true/\Q (.bl (!PyData.eqv d e)) H
theorem qgW {k:Nat}(hr:Room k X.A):OpR X (compareOp .Eq) (rEqD X.K):=by
 intro pins s σ H x y v u Q I rx ry h
 obtain ⟨S,d,e,h1,h2,s1,s2,q⟩:=h
 obtain ⟨as,q1⟩:=h1.reads I (SeqAt.canLay_of_shaped s1) rx
 obtain ⟨bs,q2⟩:=h2.reads I (SeqAt.canLay_of_shaped s2) ry
 exact eq_dataH q1 q2 s1 s2 hr.units (jL I q rfl)
theorem qgZ {k:Nat}(hr:Room k X.A):OpR X (compareOp .NotEq) (rNeD X.K):=by
 intro pins s σ H x y v u Q I rx ry h
 obtain ⟨S,d,e,h1,h2,s1,s2,q⟩:=h
 obtain ⟨as,q1⟩:=h1.reads I (SeqAt.canLay_of_shaped s1) rx
 obtain ⟨bs,q2⟩:=h2.reads I (SeqAt.canLay_of_shaped s2) ry
 exact ne_dataH q1 q2 s1 s2 hr.units (jL I q rfl)
theorem qfd:OpR X (binaryOp .Mult) (rI IntMulOk fun i j=>.int (i*j)):=opI fun _ _ _ _ _ _ _ hc q=>mul_int q hc
inductive TyD (K:PySem.W.Frag)(H:Hp):V->String->Prop
 | non:TyD K H .non "NoneType"
 | bl (b:Bool):TyD K H (.bl b) "bool"
 | int (i:Int):TyD K H (.int i) "int"
 | str (x:Str):TyD K H (.str x) "str"
 | lst {a:Addr} {xs:List V} (h:SqL K H a xs):TyD K H (.ref a) "list"
 | tup {a:Addr} {xs:List V} (h:SqT K H a xs):TyD K H (.ref a) "tuple"
 | dct {a:Addr} {kvs:List (KX×Addr×V)} {ep:Nat} (h:H a=some (DctO a kvs ep)):TyD K H (.ref a) "dict"
def rIsi (K:PySem.W.Frag):List V->Hp->VK->Prop:=fun vs H Q=>∃ x T t b,vs=[x,.ty T]/\TyD K H x t/\PySem.W.kitOne K (.type t) (.type T)=some b/\Q (.bl b) H
theorem qc4:jx X (.builtin "isinstance") (rIsi X.K):=by
 intro pins s σ H xs us Q I r h
 obtain ⟨x,T,t,b,rfl,ty,e,q⟩:=h
 obtain ⟨u,c,rfl,ru,rc⟩:=r.two
 cases (show c=Value.type T from rc)
 have fin:∀ tk,EP X pins σ Q (.bool b) { s with toks:=tk }:=fun tk=>⟨.bl b,H,I.tok tk,rfl,q⟩
 cases ty with
 | non=>cases (show u=Value.none from ru);exact PySem.W.kia_one PySem.W.kitx_none I.kIn True.intro e (fun z=>nomatch z) fin
 | bl y=>cases (show u=Value.bool y from ru);exact PySem.W.kia_one PySem.W.kitx_bool I.kIn True.intro e (fun z=>nomatch z) fin
 | int i=>obtain ⟨t,q⟩:=(show ∃ t,u=Value.int i t from ru);cases q;exact PySem.W.kia_one PySem.W.kitx_int I.kIn True.intro e (fun z=>nomatch z) fin
 | str y=>obtain ⟨t,q⟩:=(show ∃ t,u=Value.str y t from ru);cases q;exact PySem.W.kia_one PySem.W.kitx_str I.kIn True.intro e (fun z=>nomatch z) fin
 | @lst a xs ea =>
  cases (show u=Value.ref a from ru)
  obtain ⟨_,_,⟨o,n,h1,h2,_⟩,_⟩:=I.list ea
  exact PySem.W.kia_one PySem.W.kitx_list I.kIn ⟨o,h1,h2⟩ e (fun z=>nomatch z) fin
 | @tup a xs ea =>
  cases (show u=Value.ref a from ru)
  obtain ⟨_,_,⟨o,h1,h2,_⟩,_⟩:=I.tuple ea
  exact PySem.W.kia_one PySem.W.kitx_tuple I.kIn ⟨o,h1,h2⟩ e (fun z=>nomatch z) fin
 | @dct a kvs ep ea =>
  cases (show u=Value.ref a from ru)
  obtain ⟨o,_,h1,h2,_⟩:=(ZX.of (I.hok a _ ea)).vals
  exact PySem.W.kia_one PySem.W.kitx_dict I.kIn ⟨o,h1,h2.1⟩ e (fun z=>nomatch z) fin
def ExcH (K:PySem.W.Frag)(H:Hp)(a:Addr)(c:Str):Prop:=∃ o,H a=some (.frz o (.own a))/\ExcO K o c
theorem Inv.excAt {a:Addr}{c:Str}(I:Inv X pins σ H s)(h:ExcH X.K H a c):∃ C,PySem.W.nsIn X.K mainGlobals c=some (some (.ref C))/\xcB X.K C=true/\OfC s.heap a C:=by
 obtain ⟨o,ha,C,vs,h1,h2,h3,h4⟩:=h
 exact ⟨C,h3,h4,o,(I.hok a _ ha).1,h1⟩
def qfW (K:PySem.W.Frag):List V->Hp->VK->Prop:=fun vs H Q=>∃ a c T b,vs=[.ref a,.ty T]/\ExcH K H a c/\(∀ C,xcB K C=true->PySem.W.kitOne K (.ref C) (.type T)=some b)/\Q (.bl b) H
theorem qcl:jx X (.builtin "isinstance") (qfW X.K):=by
 intro pins s σ H xs us Q I r h
 obtain ⟨a,c,T,b,rfl,hx,e,q⟩:=h
 obtain ⟨u,c',rfl,ru,rc⟩:=r.two
 cases (show c'=Value.type T from rc)
 cases (show u=Value.ref a from ru)
 obtain ⟨C,_,h4,IA⟩:=I.excAt hx
 exact PySem.W.kia_one (qdp (qej h4)) I.kIn IA (e C h4) (fun z=>nomatch z) fun tk=>⟨.bl b,H,I.tok tk,rfl,q⟩
end
end L2
namespace L2
open PySem PySem.Spec PyProof.Rows
abbrev Rho:=List (Option PyData)
def DenS (K:PySem.W.Frag)(H:Hp)(S:Av)(M:List Nat)(σ:St)(ρ:Rho):Prop:=Dm S H/\σ.length=ρ.length/\∀ (i:Nat) (d:PyData),i∉M->ρ[i]?=some (some d)->∃ v,σ[i]?=some (some v)/\Den K H S v d
section
variable {K:PySem.W.Frag}{H H':Hp}{S:Av}{M:List Nat}{σ:St}{ρ:Rho}{v:V}{d:PyData}
theorem DenS.same (e:Same H H')(h:DenS K H S M σ ρ):DenS K H' S M σ ρ:=⟨h.1.same e,h.2.1,fun i d n q=>let ⟨v,a,b⟩:=h.2.2 i d n q;⟨v,a,b.same e⟩⟩
theorem DenS.set (h:DenS K H S M σ ρ)(q:Den K H S v d)(i:Nat):DenS K H S M (σ.set i (some v)) (ρ.set i (some d)):=by
 refine ⟨h.1,by rw [List.length_set,List.length_set];exact h.2.1,fun j e n he=>?_⟩
 by_cases hj:i=j
 ·subst hj
  by_cases hi:i<ρ.length
  ·rw [List.getElem?_set_self hi] at he
   cases he
   exact ⟨v,List.getElem?_set_self (by rw [h.2.1];exact hi),q⟩
  ·rw [List.set_eq_of_length_le (by omega)] at he
   exact absurd (List.getElem?_eq_some_iff.mp he).1 hi
 ·rw [List.getElem?_set_ne hj] at he
  obtain ⟨w,a,b⟩:=h.2.2 j e n he
  exact ⟨w,by rw [List.getElem?_set_ne hj];exact a,b⟩
theorem DenS.start {vs:List V}{ds:List PyData}(m:Dm S H)(h:DenL K H S vs ds)(N:List Str):DenS K H S [] (start N vs) (ds.map some++List.replicate (N.length-ds.length) none):=by
 have hl:=h.length
 refine ⟨m,?_,fun j e _ he=>?_⟩
 ·unfold L2.start
  rw [List.length_append,List.length_append,List.length_map,List.length_map,List.length_replicate,List.length_replicate,hl]
 ·by_cases hj:j<ds.length
  ·rw [List.getElem?_append_left (by simpa using hj),List.getElem?_map] at he
   cases e1:ds[j]? with
   | none=>rw [e1] at he;cases he
   | some d =>
    rw [e1] at he
    cases he
    obtain ⟨v,a,b⟩:=h.get e1
    refine ⟨v,?_,b⟩
    unfold L2.start
    rw [List.getElem?_append_left (by rw [List.length_map];omega),List.getElem?_map,a]
    rfl
  ·rw [List.getElem?_append_right (by simpa using hj),List.getElem?_replicate] at he
   split at he<;>cases he
end
def tD (K:PySem.W.Frag)(M:List Nat)(f:Rho->Option PyData):TE:=fun σ H Q=>∃ S ρ d,DenS K H S M σ ρ/\f ρ=some d/\∀ v H',Same H H'->Den K H' S v d->Q v H'
def tDA (K:PySem.W.Frag)(M:List Nat)(f:Rho->Option (List PyData)):TA:=fun σ H Q=>∃ S ρ ds,DenS K H S M σ ρ/\f ρ=some ds/\∀ vs H',Same H H'->DenL K H' S vs ds->Q vs H'
def tDT (K:PySem.W.Frag)(M:List Nat)(f:Rho->Option Bool):TT:=fun σ H Q=>∃ S ρ b,DenS K H S M σ ρ/\f ρ=some b/\∀ H',Same H H'->Q b H'
inductive Out where
 | nx (ρ:Rho)|rt (d:PyData)|bk (ρ:Rho)|ct (ρ:Rho)
def PD (X:Cx)(M:List Nat)(e:Expr)(f:Rho->Option PyData):Prop:=PE X e (tD X.K M f)
def PDA (X:Cx)(M:List Nat)(es:List Expr)(f:Rho->Option (List PyData)):Prop:=PA X es (tDA X.K M f)
def PDT (X:Cx)(M:List Nat)(e:Expr)(f:Rho->Option Bool):Prop:=PT X e (tDT X.K M f)
theorem PE.weak {X:Cx}{e:Expr}{t t':TE}(h:PE X e t)(w:∀ σ H Q,t' σ H Q->t σ H Q):PE X e t':=fun pins s σ H Q I q=>h pins s σ H Q I (w σ H Q q)
theorem PT.weak {X:Cx}{e:Expr}{t t':TT}(h:PT X e t)(w:∀ σ H Q,t' σ H Q->t σ H Q):PT X e t':=fun pins s σ H Q I q=>h pins s σ H Q I (w σ H Q q)
theorem PW.weak {X:Cx}{e:Expr}{t t':TT}(h:PW X e t)(w:∀ σ H Q,t' σ H Q->t σ H Q):PW X e t':=fun wh pins s σ H Q I q=>h wh pins s σ H Q I (w σ H Q q)
theorem PA.weak {X:Cx}{e:List Expr}{t t':TA}(h:PA X e t)(w:∀ σ H Q,t' σ H Q->t σ H Q):PA X e t':=fun pos pins s σ H Q I q=>h pos pins s σ H Q I (w σ H Q q)
theorem PS.weak {X:Cx}{e:Stmt}{t t':TS}(h:PS X e t)(w:∀ D σ H,t' D σ H->t D σ H):PS X e t':=fun pins s σ H D I q=>h pins s σ H D I (w D σ H q)
theorem PSs.weak {X:Cx}{e:List Stmt}{t t':TS}(h:PSs X e t)(w:∀ D σ H,t' D σ H->t D σ H):PSs X e t':=fun pins s σ H D I q=>h pins s σ H D I (w D σ H q)
def ob {α β:Type}(a:Option α)(f:α->Option β):Option β:=match a with | some x=>f x|none=>none
theorem qy {α β:Type}{a:Option α}{f:α->Option β}{y:β}(h:ob a f=some y):∃ x,a=some x/\f x=some y:=by
 cases a with
 | none=>cases h
 | some x=>exact ⟨x,rfl,h⟩
def visB (sc:Scope)(x:Str):Bool:=decide (sc.names.lookup x=some .local)||decide (sc.names.lookup x=some .cell)||decide (sc.names.lookup x=some .free)
def locB (sc:Scope)(x:Str):Bool:=decide (sc.names.lookup x=some .local)||decide (sc.names.lookup x=some .cell)
def glB (sc:Scope)(x:Str):Bool:=decide (sc.names.lookup x=some .globalImplicit)
theorem qei {sc:Scope}{x:Str}(h:visB sc x=true):Vis sc x:=by
 unfold visB at h
 simp only [Bool.or_eq_true,decide_eq_true_eq] at h
 rcases h with (h|h)|h
 ·exact .inl h
 ·exact .inr (.inl h)
 ·exact .inr (.inr h)
theorem qdu {sc:Scope}{x:Str}(h:locB sc x=true):Loc sc x:=by
 unfold locB at h
 simp only [Bool.or_eq_true,decide_eq_true_eq] at h
 exact h
theorem gl_fn {X:Cx}{x:Str}(sc:Scope)(hs:X.env.scope=sc)(h:glB sc x=true):Gl X x:=by
 subst hs
 have h':X.env.scope.names.lookup x=some .globalImplicit:=of_decide_eq_true h
 exact h'
theorem Z7 {env:Env}:∀ {names:List (Str×NameKind)} {x:Str} {k:NameKind},names.lookup x=some k->
  (names.map fun (n,k)=>if (k==NameKind.free&&env.scope.kind==.function&&env.kindOf n==some .cell) then (n,NameKind.cell) else (n,k)).lookup x=some k\/
  (k=.free/\(names.map fun (n,k)=>if (k==NameKind.free&&env.scope.kind==.function&&env.kindOf n==some .cell) then (n,NameKind.cell) else (n,k)).lookup x=some .cell)
 | [],_,_,h=>by simp at h
 | (n,k')::r,x,k,h=>by
  have ih:=@Z7 env r x k
  show List.lookup x ((if (k'==NameKind.free&&env.scope.kind==.function&&env.kindOf n==some .cell)=true then (n,NameKind.cell) else (n,k'))::_)=_\/(_/\List.lookup x ((if (k'==NameKind.free&&env.scope.kind==.function&&env.kindOf n==some .cell)=true then (n,NameKind.cell) else (n,k'))::_)=_)
  cases hx:x==n with
  | true =>
   simp only [List.lookup_cons,hx] at h
   cases h
   by_cases hc:(k'==NameKind.free&&env.scope.kind==.function&&env.kindOf n==some .cell)=true
   ·rw [if_pos hc]
    rw [Bool.and_eq_true,Bool.and_eq_true] at hc
    exact .inr ⟨by simpa using hc.1.1,by simp [List.lookup_cons,hx]⟩
   ·rw [if_neg hc]
    exact .inl (by simp [List.lookup_cons,hx])
  | false =>
   simp only [List.lookup_cons,hx] at h
   by_cases hc:(k'==NameKind.free&&env.scope.kind==.function&&env.kindOf n==some .cell)=true
   ·rw [if_pos hc]
    simp only [List.lookup_cons,hx]
    exact ih h
   ·rw [if_neg hc]
    simp only [List.lookup_cons,hx]
    exact ih h
section
variable {X:Cx}{x:Str}{N':List Str}{sc:Scope}{cl:List (Str×Addr)}{C:Addr}{fp:List Addr}{pins:List (Addr×Obj)}{s:Shared}{H:Hp}
theorem qw (h:visB sc x=true):Vis (q9 X N' sc cl C fp pins s H).env.scope x:=by
 rcases qei h with h|h|h
 ·rcases Z7 (env:=X.env) h with q|q
  ·exact .inl q
  ·cases q.1
 ·rcases Z7 (env:=X.env) h with q|q
  ·exact .inr (.inl q)
  ·cases q.1
 ·rcases Z7 (env:=X.env) h with q|q
  ·exact .inr (.inr q)
  ·exact .inr (.inl q.2)
theorem Qe (h:glB sc x=true):Gl (q9 X N' sc cl C fp pins s H) x:=by
 rcases Z7 (env:=X.env) (of_decide_eq_true h) with q|q
 ·exact q
 ·cases q.1
end
def vr (i:Nat):Rho->Option PyData:=fun ρ=>(ρ[i]?).join
def kd (d:PyData):Rho->Option PyData:=fun _=>some d
def ev1 (fa:Rho->Option PyData)(g:PyData->Option PyData):Rho->Option PyData:=fun ρ=>ob (fa ρ) g
def aN:Rho->Option (List PyData):=fun _=>some []
def aC (fa:Rho->Option PyData)(fs:Rho->Option (List PyData)):Rho->Option (List PyData):=fun ρ=>ob (fa ρ) fun x=>ob (fs ρ) fun xs=>some (x::xs)
def evA (fs:Rho->Option (List PyData))(h:List PyData->Option PyData):Rho->Option PyData:=fun ρ=>ob (fs ρ) h
def evC (n:Nat)(fs:Rho->Option (List PyData))(h:List PyData->Option PyData):Rho->Option PyData:=fun ρ=>ob (fs ρ) fun ds=>if ds.length=n then h ds else none
def evC0 (h:List PyData->Option PyData):Rho->Option PyData:=fun _=>h []
section
variable {X:Cx}{M:List Nat}{a b c:Expr}{es:List Expr}{f g fa fb:Rho->Option PyData}{pos:Pos}
theorem qd (i:Nat){x:Str}(hv:Vis X.env.scope x)(hM:i∉M)(hN:X.N[i]?=some x:=by rfl)(hd:(x==("__debug__" : Str))=false:=by decide +kernel)
  (hcd:(x==("__classdict__" : Str))=false:=by decide +kernel):PD X M (.Name x pos) (vr i) :=
 (qdV hN hv hd hcd).weak fun σ H Q ⟨S,ρ,d,hs,e,q⟩=>by
  have e:(ρ[i]?).join=some d:=e
  have e':ρ[i]?=some (some d):=by
   cases h:ρ[i]? with
   | none=>rw [h] at e;cases e
   | some o=>rw [h] at e;exact congrArg some e
  obtain ⟨v,h1,h2⟩:=hs.2.2 i d hM e'
  exact ⟨v,h1,q v H (Same.refl H) h2⟩
theorem qe {i j p}:PD X M (.Constant (.int i) j p) (kd (.int i)):=qg6.weak fun σ H Q ⟨S,_,d,_,e,q⟩=>by cases e;exact q _ H (Same.refl H) (.int i)
theorem Zr {i j p}:PD X M (.Constant (.bool i) j p) (kd (.bool i)):=pe_bl.weak fun σ H Q ⟨S,_,d,_,e,q⟩=>by cases e;exact q _ H (Same.refl H) (.bool i)
theorem qbj {j p}:PD X M (.Constant .none j p) (kd .none):=qg7.weak fun σ H Q ⟨S,_,d,_,e,q⟩=>by cases e;exact q _ H (Same.refl H) .none
theorem W7 {i j p}:PD X M (.Constant (.str i) j p) (kd (.str i)):=qhb.weak fun σ H Q ⟨S,_,d,_,e,q⟩=>by cases e;exact q _ H (Same.refl H) (.str i)
theorem qfg {x:Str}{v:V}{u:Value}{d:PyData}(hg:Gl X x)(hm:X.mg x=some u)(r:RelV v u)(hd:∀ H S,Den X.K H S v d)(hdb:(x==("__debug__" : Str))=false:=by decide +kernel):PD X M (.Name x pos) (kd d) :=
 (qfm hg hm r hdb).weak fun σ H Q ⟨S,_,d',_,e,q⟩=>by cases e;exact q _ H (Same.refl H) (hd H S)
def rD2 (K:PySem.W.Frag)(g:PyData->PyData->Option PyData):R2:=fun x y H Q=>∃ S dx dy d,Dm S H/\Den K H S x dx/\Den K H S y dy/\g dx dy=some d/\∀ v H',Same H H'->Den K H' S v d->Q v H'
def OpD (X:Cx)(f:Value->Value->Sem Value)(g:PyData->PyData->Option PyData):Prop:=OpR X f (rD2 X.K g)
def UnD (X:Cx)(f:Value->Sem Value)(g:PyData->Option PyData):Prop:=UnR X f (fun x H Q=>∃ S dx d,Dm S H/\Den X.K H S x dx/\g dx=some d/\∀ v H',Same H H'->Den X.K H' S v d->Q v H')
def CallD (X:Cx)(f:Value)(g:List PyData->Option PyData):Prop:=jx X f (fun vs H Q=>∃ S ds d,Dm S H/\DenL X.K H S vs ds/\g ds=some d/\∀ v H',Same H H'->Den X.K H' S v d->Q v H')
def ev2 (fa fb:Rho->Option PyData)(g:PyData->PyData->Option PyData)(ρ:Rho):Option PyData:=ob (fa ρ) fun x=>ob (fb ρ) fun y=>g x y
theorem tD2 {K:PySem.W.Frag}{g:PyData->PyData->Option PyData}:∀ σ H Q,tD K M (ev2 fa fb g) σ H Q->tOp (rD2 K g) (tD K M fa) (tD K M fb) σ H Q:=by
 intro σ H Q ⟨S,ρ,d,hs,e,q⟩
 obtain ⟨x,e1,e⟩:=qy e
 obtain ⟨y,e2,e⟩:=qy e
 exact ⟨S,ρ,x,hs,e1,fun v H1 g1 d1=>⟨S,ρ,y,hs.same g1,e2,fun w H2 g2 d2=>⟨S,x,y,d,hs.1.same (g1.trans g2),d1.same g2,d2,e,fun z H3 g3 d3=>q z H3 (g1.trans (g2.trans g3)) d3⟩⟩⟩
theorem ql {op:Operator}{g:PyData->PyData->Option PyData}(ho:OpD X (binaryOp op) g)(ha:PD X M a fa)(hb:PD X M b fb):PD X M (.BinOp a op b pos) (ev2 fa fb g):=(pe_op ho ha hb).weak tD2
theorem W6 {op:CmpOp}{g:PyData->PyData->Option PyData}(ho:OpD X (compareOp op) g)(ha:PD X M a fa)(hb:PD X M b fb)(hm:behindInMarks op b=false):PD X M (.Compare a [op] [b] pos) (ev2 fa fb g):=(qfk ho ha hb hm).weak tD2
theorem qaS {op:UnaryOp}{g:PyData->Option PyData}(ho:UnD X (unaryOp op) g)(ha:PD X M a fa):PD X M (.UnaryOp op a pos) (ev1 fa g) :=
 (pe_un ho ha).weak fun σ H Q ⟨S,ρ,d,hs,e,q⟩=>by
  obtain ⟨x,e1,e⟩:=qy e
  exact ⟨S,ρ,x,hs,e1,fun v H1 g1 d1=>⟨S,x,d,hs.1.same g1,d1,e,fun z H3 g3 d3=>q z H3 (g1.trans g3) d3⟩⟩
def ixD:PyData->PyData->Option PyData
 | .tuple ds,.int i=>atI ds i
 | .list ds,.int i=>atI ds i
 | _,_=>none
theorem DenL.atI {K:PySem.W.Frag}{H:Hp}{S:Av}{vs:List V}{ds:List PyData}{i:Int}{d:PyData}(h:DenL K H S vs ds)(e:atI ds i=some d):∃ v,L2.atI vs i=some v/\Den K H S v d:=by
 unfold L2.atI at e ⊢
 rw [h.length]
 cases q:ixN ds.length i with
 | none=>rw [q] at e;cases e
 | some j=>rw [q] at e;exact h.get e
theorem qH (ha:PD X M a fa)(hb:PD X M b fb)(hs:qbu b:=by intro _ _;rfl):PD X M (.Subscript a b pos) (ev2 fa fb ixD) :=
 (pe_ix (r:=fun x y H Q=>rIxL X.K x y H Q\/rIxT X.K x y H Q) (qeT.or qgC) ha hb hs).weak fun σ H Q ⟨S,ρ,d,hs,e,q⟩=>by
  obtain ⟨x,e1,e⟩:=qy e
  obtain ⟨y,e2,e⟩:=qy e
  refine ⟨S,ρ,x,hs,e1,fun v H1 g1 d1=>⟨S,ρ,y,hs.same g1,e2,fun w H2 g2 d2=>?_⟩⟩
  have d1':=d1.same g2
  cases d1' with
  | list h t =>
   cases d2 with
   | int i=>obtain ⟨z,z1,z2⟩:=t.atI e;exact .inl ⟨_,_,_,_,rfl,rfl,h.sq,z1,q z H2 (g1.trans g2) z2⟩
   | _=>cases e
  | tuple h t =>
   cases d2 with
   | int i=>obtain ⟨z,z1,z2⟩:=t.atI e;exact .inr ⟨_,_,_,_,rfl,rfl,h,z1,q z H2 (g1.trans g2) z2⟩
   | _=>cases e
  | _=>cases e
theorem qg:PDA X M [] aN:=qdK.weak fun σ H Q ⟨S,_,d,_,e,q⟩=>by cases e;exact q [] H (Same.refl H) .nil
theorem qb {fs:Rho->Option (List PyData)}(ha:PD X M a fa)(hr:PDA X M es fs)(hs:starEach (a::es) X.env=(false,eval a X.env)::starEach es X.env:=by rfl):PDA X M (a::es) (aC fa fs) :=
 (W5 ha hr hs).weak fun σ H Q ⟨S,ρ,d,hs,e,q⟩=>by
  obtain ⟨x,e1,e⟩:=qy e
  obtain ⟨xs,e2,e⟩:=qy e
  cases e
  exact ⟨S,ρ,x,hs,e1,fun v H1 g1 d1=>⟨S,ρ,xs,hs.same g1,e2,fun vs H2 g2 d2=>q _ H2 (g1.trans g2) (.cons (d1.same g2) d2)⟩⟩
def tupD (ds:List PyData):Option PyData:=if ds.length<=1000 then some (.tuple ds) else none
def lstD (ds:List PyData):Option PyData:=if ds.length<=1000 then some (.list ds) else none
theorem qcN {ds:List PyData}{d:PyData}(h:tupD ds=some d):ds.length<=1000/\d=.tuple ds:=by
 unfold tupD at h
 split at h
 ·rename_i q;cases h;exact ⟨q,rfl⟩
 ·cases h
theorem wZ {ds:List PyData}{d:PyData}(h:lstD ds=some d):ds.length<=1000/\d=.list ds:=by
 unfold lstD at h
 split at h
 ·rename_i q;cases h;exact ⟨q,rfl⟩
 ·cases h
theorem zN {fs:Rho->Option (List PyData)}{x1}(h:PDA X M es fs):PD X M (.Tuple es x1 pos) (evA fs tupD) :=
 (qhc h).weak fun σ H Q ⟨S,ρ,d,hs,e,q⟩=>by
  obtain ⟨xs,e1,e⟩:=qy e
  obtain ⟨hz,rfl⟩:=qcN e
  refine ⟨S,ρ,xs,hs,e1,fun vs H1 g1 d1=>⟨Nat.le_of_lt (QL (by rw [d1.length];exact hz)),fun p hp=>?_⟩⟩
  exact q _ _ (g1.lay' hp) (.tuple (SqT.of zW) (d1.same (Same.lay hp)))
theorem JL {fs:Rho->Option (List PyData)}(h:PDA X M es fs):PD X M (.List es pos) (evA fs lstD) :=
 (qdU h).weak fun σ H Q ⟨S,ρ,d,hs,e,q⟩=>by
  obtain ⟨xs,e1,e⟩:=qy e
  obtain ⟨hz,rfl⟩:=wZ e
  refine ⟨S,ρ,xs,hs,e1,fun vs H1 g1 d1=>⟨Nat.le_of_lt (QL (by rw [d1.length];exact hz)),fun p hp=>?_⟩⟩
  exact q _ _ (g1.lay' hp) (.list (SqLS.new zW ((hs.1.same g1).free hp)) (d1.same (Same.lay hp)))
def spF (K:PySem.W.Frag)(n:Nat)(f:List PyData->Option PyData):Sp:=fun vs H Q _=>∃ S ds d,Dm S H/\DenL K H S vs ds/\ds.length=n/\f ds=some d/\∀ v H',Same H H'->Den K H' S v d->Q v H'
theorem qff {CX:CXT}{k n:Nat}{fn:Addr}{fd:FuncData}{ps:List Str}{h:List PyData->Option PyData}{E:XK}{x:Str}{p:Pos}{fs:Rho->Option (List PyData)}(F:FnOk X.prog X.w X.K X.mg X.base CX k fn fd ps (spF X.K n h))(hr:Room k X.A)(hg:Gl X x)(hm:X.mg x=some (.ref fn))(hk:PySem.W.keepIn X.K (.ref fn)=true)
  (hb:Binds X.K fd ps []) (hx:yr CX X E) (ha:PDA X M (a::es) fs) (hl:(a::es).length=n) (hdb:(x==("__debug__" : Str))=false:=by decide +kernel) (he:starEach (a::es) X.env=(false,eval a X.env)::starEach es X.env:=by rfl) (hpl:(backTo pos (starEach es X.env)).any (·.1)=false:=by rfl) :
  PD X M (.Call (.Name x p) (a::es) [] pos) (evC n fs h) :=
 (qb0 F hr hg hm hk hb .nil hx ha hdb he hpl).weak fun σ H Q ⟨S,ρ,d,hs,e,q⟩=>by
  obtain ⟨ds,e1,e⟩:=qy e
  have e:(if ds.length=n then h ds else none)=some d:=e
  split at e
  ·rename_i hn
   exact ⟨S,ρ,ds,hs,e1,fun vs H1 g1 d1=>⟨S,ds,d,hs.1.same g1,by rw [List.append_nil];exact d1,hn,e,fun v H' g2 d2=>q v H' (g1.trans g2) d2⟩⟩
  ·cases e
theorem qdM {CX:CXT}{k:Nat}{fn:Addr}{fd:FuncData}{ps:List Str}{h:List PyData->Option PyData}{E:XK}{x:Str}{p:Pos}(F:FnOk X.prog X.w X.K X.mg X.base CX k fn fd ps (spF X.K 0 h))(hr:Room k X.A)(hg:Gl X x)(hm:X.mg x=some (.ref fn))(hk:PySem.W.keepIn X.K (.ref fn)=true)
  (hb:Binds X.K fd ps []) (hx:yr CX X E) (hdb:(x==("__debug__" : Str))=false:=by decide +kernel):PD X M (.Call (.Name x p) [] [] pos) (evC0 h) :=
 (qdS F hr hg hm hk hb .nil hx hdb).weak fun σ H Q ⟨S,ρ,d,hs,e,q⟩=>⟨S,[],d,hs.1,.nil,rfl,e,fun v H' g2 d2=>q v H' g2 d2⟩
theorem zy {id:String}{x:Str}{p:Pos}{h:List PyData->Option PyData}{fs:Rho->Option (List PyData)}(hc:CallD X (.builtin id) h)(hg:Gl X x)(hm:X.mg x=none)(hv:bootBuiltins x=some (.builtin id))(ha:PDA X M (a::es) fs)(hn:x ≠ "__name__" := by decide +kernel)(hdb:(x==("__debug__" : Str))=false:=by decide +kernel)
  (he:starEach (a::es) X.env=(false,eval a X.env)::starEach es X.env:=by rfl) (hpl:(backTo pos (starEach es X.env)).any (·.1)=false:=by rfl):PD X M (.Call (.Name x p) (a::es) [] pos) (evA fs h) :=
 (YZ hc hg hm hv ha hn hdb he hpl).weak fun σ H Q ⟨S,ρ,d,hs,e,q⟩=>by
  obtain ⟨ds,e1,e⟩:=qy e
  exact ⟨S,ρ,ds,hs,e1,fun vs H1 g1 d1=>⟨S,ds,d,hs.1.same g1,d1,e,fun v H' g2 d2=>q v H' (g1.trans g2) d2⟩⟩
theorem ZS {T:String}{x:Str}{p:Pos}{h:List PyData->Option PyData}{fs:Rho->Option (List PyData)}(hc:CallD X (.type T) h)(hg:Gl X x)(hm:X.mg x=none)(hv:bootBuiltins x=some (.type T))(ha:PDA X M (a::es) fs)(hn:x ≠ "__name__" := by decide +kernel)(hdb:(x==("__debug__" : Str))=false:=by decide +kernel)
  (he:starEach (a::es) X.env=(false,eval a X.env)::starEach es X.env:=by rfl) (hpl:(backTo pos (starEach es X.env)).any (·.1)=false:=by rfl):PD X M (.Call (.Name x p) (a::es) [] pos) (evA fs h) :=
 (qcF hc hg hm hv ha hn hdb he hpl).weak fun σ H Q ⟨S,ρ,d,hs,e,q⟩=>by
  obtain ⟨ds,e1,e⟩:=qy e
  exact ⟨S,ρ,ds,hs,e1,fun vs H1 g1 d1=>⟨S,ds,d,hs.1.same g1,d1,e,fun v H' g2 d2=>q v H' (g1.trans g2) d2⟩⟩
def tyS:PyData->String
 | .none => "NoneType" | .bool _ => "bool" | .int _ => "int" | .str _ => "str" | .list _ => "list" | .tuple _ => "tuple" | .dict _ => "dict"
def isiT (T:String):PyData->Bool
 | .none=>T == "NoneType" || T == "object"
 | .bool _=>T == "bool" || T == "int" || T == "object"
 | .int _=>T == "int" || T == "object"
 | .str _=>T == "str" || T == "object"
 | .list _=>T == "list" || T == "object"
 | .tuple _=>T == "tuple" || T == "object"
 | .dict _=>T == "dict" || T == "object"
def isiD (T:String)(d:PyData):Option PyData:=some (.bool (isiT T d))
def qan (K:PySem.W.Frag)(T:String):Prop:=∀ d:PyData,PySem.W.kitOne K (.type (tyS d)) (.type T)=some (isiT T d)
theorem qbR (K:PySem.W.Frag):qan K "int" := fun d=>by cases d<;>rfl
theorem qaH (K:PySem.W.Frag):qan K "bool" := fun d=>by cases d<;>rfl
theorem kit_tuple (K:PySem.W.Frag):qan K "tuple" := fun d=>by cases d<;>rfl
theorem qdo (K:PySem.W.Frag):qan K "list" := fun d=>by cases d<;>rfl
theorem qbM {K:PySem.W.Frag}{T:String}{C:Addr}{c:Str}{d:PyData}(hT:T∈qav)(h:xcB K C=true):PySem.W.kitOne K (.ref C) (.type T)=some (isiT T (excD c d)):=by
 rw [(qej h).ts T hT]
 have:(T == "dict" || T == "object")=false:=by
  simp only [qav,List.mem_cons,List.not_mem_nil,or_false] at hT
  rcases hT with rfl|rfl|rfl|rfl|rfl<;>decide +kernel
 exact congrArg some this.symm
theorem Z4 {T:String}{p p2:Pos}(kit:qan X.K T)(hg:Gl X "isinstance")(hm:X.mg "isinstance" = none)(hgT:Gl X (Str.ofString T))(hmT:X.mg (Str.ofString T)=none)(hvT:bootBuiltins (Str.ofString T)=some (.type T))(hv:bootBuiltins "isinstance" = some (.builtin "isinstance"))(ha:PD X M a fa)(hnT:Str.ofString T ≠ "__name__" := by decide +kernel)(hdT:(Str.ofString T==("__debug__" : Str))=false:=by decide +kernel)(hT:T∈qav:=by decide +kernel)
  (he:starEach [a,.Name (Str.ofString T) p2] X.env=(false,eval a X.env)::starEach [.Name (Str.ofString T) p2] X.env:=by rfl) (hpl:(backTo pos (starEach [.Name (Str.ofString T) p2] X.env)).any (·.1)=false:=by rfl)
  (hs2:starEach [.Name (Str.ofString T) p2] X.env=(false,eval (.Name (Str.ofString T) p2) X.env)::starEach [] X.env:=by rfl) :
  PD X M (.Call (.Name "isinstance" p) [a,.Name (Str.ofString T) p2] [] pos) (ev1 fa (isiD T)) :=
 (YZ (qc4.or qcl) hg hm hv (W5 ha (W5 (qfj (v:=.ty T) hgT hmT hvT rfl hnT hdT) qdK hs2) he) (by decide +kernel) (by decide +kernel) he hpl).weak fun σ H Q ⟨S,ρ,d,hs,e,q⟩=>by
  obtain ⟨x,e1,e⟩:=qy e
  cases e
  refine ⟨S,ρ,x,hs,e1,fun v H1 g1 d1=>?_⟩
  have fin:=q (.bl (isiT T x)) H1 g1 (.bool _)
  have k:=kit x
  show rIsi X.K [v,.ty T] H1 Q\/qfW X.K [v,.ty T] H1 Q
  cases d1 with
  | none=>exact .inl ⟨_,_,_,_,rfl,.non,k,fin⟩
  | bool y=>exact .inl ⟨_,_,_,_,rfl,.bl y,k,fin⟩
  | int y=>exact .inl ⟨_,_,_,_,rfl,.int y,k,fin⟩
  | str y=>exact .inl ⟨_,_,_,_,rfl,.str y,k,fin⟩
  | list h t=>exact .inl ⟨_,_,_,_,rfl,.lst h.sq,k,fin⟩
  | tuple h t=>exact .inl ⟨_,_,_,_,rfl,.tup h,k,fin⟩
  | dict h k2 t=>exact .inl ⟨_,_,_,_,rfl,.dct h.1,k,fin⟩
  | exc0 h o=>exact .inr ⟨_,_,_,_,rfl,⟨_,h,o⟩,fun C z=>qbM hT z,fin⟩
  | exc1 h o x y t=>exact .inr ⟨_,_,_,_,rfl,⟨_,h,o⟩,fun C z=>qbM hT z,fin⟩
theorem yC {f:Value->Value->Sem Value}{g:PyData->PyData->Option PyData}{r:R2}(h:OpR X f r)(w:∀ x y dx dy d H S (Q:VK),Dm S H->Den X.K H S x dx->Den X.K H S y dy->g dx dy=some d->(∀ v H',Same H H'->Den X.K H' S v d->Q v H')->r x y H Q):OpD X f g :=
 fun pins s σ H x y v u Q I rx ry ⟨S,dx,dy,d,m,h1,h2,e,q⟩=>h pins s σ H x y v u Q I rx ry (w x y dx dy d H S Q m h1 h2 e q)
def iiD (h:Int->Int->Option PyData):PyData->PyData->Option PyData
 | .int i,.int j=>h i j
 | _,_=>none
theorem qaA {h:Int->Int->Option PyData}{x y d:PyData}(e:iiD h x y=some d):∃ i j,x=.int i/\y=.int j/\h i j=some d:=by
 cases x<;>cases y<;>first|exact ⟨_,_,rfl,rfl,e⟩|cases e
theorem qe8 {f:Value->Value->Sem Value}{gi:Int->Int->Int}(h:OpR X f (rI0 fun i j=>.int (gi i j))):OpD X f (iiD fun i j=>some (.int (gi i j))) :=
 yC h fun x y dx dy d H S Q m h1 h2 e q=>by
  obtain ⟨i,j,rfl,rfl,e⟩:=qaA e
  cases h1;cases h2;cases e
  exact ⟨i,j,rfl,rfl,q _ H (Same.refl H) (.int _)⟩
theorem J6 {f:Value->Value->Sem Value}{C:Int->Int->Prop}[∀ i j,Decidable (C i j)]{gi:Int->Int->Int}(h:OpR X f (rI C fun i j=>.int (gi i j))):OpD X f (iiD fun i j=>if C i j then some (.int (gi i j)) else none) :=
 yC h fun x y dx dy d H S Q m h1 h2 e q=>by
  obtain ⟨i,j,rfl,rfl,e'⟩:=qaA e
  split at e'
  ·rename_i c
   cases h1;cases h2;cases e'
   exact ⟨i,j,rfl,rfl,c,q _ H (Same.refl H) (.int _)⟩
  ·cases e'
instance (i j:Int):Decidable (IntMulOk i j):=by unfold IntMulOk;exact inferInstance
instance (i j:Int):Decidable (CDiv i j):=by unfold CDiv;exact inferInstance
instance (i j:Int):Decidable (CPow i j):=by unfold CPow;exact inferInstance
def subD:PyData->PyData->Option PyData:=iiD fun i j=>some (.int (i-j))
def mulD:PyData->PyData->Option PyData:=iiD fun i j=>if IntMulOk i j then some (.int (i*j)) else none
def Q6:PyData->PyData->Option PyData:=iiD fun i j=>if CDiv i j then some (.int (i / j)) else none
def modD:PyData->PyData->Option PyData:=iiD fun i j=>if 0<j then some (.int (i % j)) else none
def powD:PyData->PyData->Option PyData:=iiD fun i j=>if CPow i j then some (.int (i ^ j.toNat)) else none
theorem Zo:OpD X (binaryOp .Sub) subD:=qe8 qg1
theorem zV:OpD X (binaryOp .Mult) mulD:=J6 qfd
theorem Q9:OpD X (binaryOp .FloorDiv) Q6:=J6 qfc
theorem Qo:OpD X (binaryOp .Mod) modD:=J6 (C:=fun _ j=>0<j) qgY
theorem Yw:OpD X (binaryOp .Pow) powD:=J6 qg0
def leD:PyData->PyData->Option PyData:=iiD fun i j=>some (.bool (decide (i<=j)))
def gtD:PyData->PyData->Option PyData:=iiD fun i j=>some (.bool (decide (j<i)))
def geD:PyData->PyData->Option PyData:=iiD fun i j=>some (.bool (decide (j<=i)))
def eqD (x y:PyData):Option PyData:=if SeqAt.shaped x=true/\SeqAt.shaped y=true then some (.bool (PyData.eqv x y)) else none
def neD (x y:PyData):Option PyData:=if SeqAt.shaped x=true/\SeqAt.shaped y=true then some (.bool (!PyData.eqv x y)) else none
theorem d_eq {k:Nat}(hr:Room k X.A):OpD X (compareOp .Eq) eqD:=yC (qgW hr) fun x y dx dy d H S Q m h1 h2 e q=>by
 unfold eqD at e
 split at e
 ·rename_i c;cases e;exact ⟨S,dx,dy,h1,h2,c.1,c.2,q _ H (Same.refl H) (.bool _)⟩
 ·cases e
theorem d_ne {k:Nat}(hr:Room k X.A):OpD X (compareOp .NotEq) neD:=yC (qgZ hr) fun x y dx dy d H S Q m h1 h2 e q=>by
 unfold neD at e
 split at e
 ·rename_i c;cases e;exact ⟨S,dx,dy,h1,h2,c.1,c.2,q _ H (Same.refl H) (.bool _)⟩
 ·cases e
def negD:PyData->Option PyData
 | .int i=>some (.int (-i))
 | _=>none
theorem qas:UnD X (unaryOp .USub) negD:=fun pins s σ H x v Q I rx ⟨S,dx,d,m,h1,e,q⟩=>qhO pins s σ H x v Q I rx (by
 cases h1<;>first|(cases e;exact ⟨_,rfl,q _ H (Same.refl H) (.int _)⟩)|cases e)
def lenD:List PyData->Option PyData
 | [.list ds]=>some (.int ds.length)
 | [.tuple ds]=>some (.int ds.length)
 | _=>none
theorem ZC:CallD X (.builtin "len") lenD:=fun pins s σ H xs us Q I r ⟨S,ds,d,m,h1,e,q⟩=>Wn pins s σ H xs us Q I r (by
 cases h1 with
 | nil=>cases e
 | cons a t =>
  cases t with
  | cons a' t'=>cases a<;>cases e
  | nil =>
   cases a with
   | list h t=>cases e;exact ⟨_,_,rfl,.inl h.sq,by rw [t.length];exact q _ H (Same.refl H) (.int _)⟩
   | tuple h t=>cases e;exact ⟨_,_,rfl,.inr h,by rw [t.length];exact q _ H (Same.refl H) (.int _)⟩
   | _=>cases e)
def JP:List PyData->Option PyData
 | [.list ds]=>some (.tuple ds)
 | [.tuple ds]=>some (.tuple ds)
 | _=>none
theorem yW:CallD X (.type "tuple") JP:=fun pins s σ H xs us Q I r ⟨S,ds,d,m,h1,e,q⟩=>Y8 pins s σ H xs us Q I r (by
 cases h1 with
 | nil=>cases e
 | cons a t =>
  cases t with
  | cons a' t'=>cases a<;>cases e
  | nil =>
   cases a with
   | list h t=>cases e;exact ⟨_,_,rfl,.inl ⟨h.sq,fun l hl=>q _ _ (Same.lay hl) (.tuple (SqT.of zW) (t.same (Same.lay hl)))⟩⟩
   | tuple h t=>cases e;exact ⟨_,_,rfl,.inr ⟨h,q _ H (Same.refl H) (.tuple h t)⟩⟩
   | _=>cases e)
def wY:List PyData->Option PyData
 | [.list ds]=>some (.list ds)
 | [.tuple ds]=>some (.list ds)
 | _=>none
theorem qcY:CallD X (.type "list") wY:=fun pins s σ H xs us Q I r ⟨S,ds,d,m,h1,e,q⟩=>Wo pins s σ H xs us Q I r (by
 cases h1 with
 | nil=>cases e
 | cons a t =>
  cases t with
  | cons a' t'=>cases a<;>cases e
  | nil =>
   cases a with
   | list h t=>cases e;exact ⟨_,_,rfl,.inl h.sq,fun l hl=>q _ _ (Same.lay hl) (.list (SqLS.new zW (m.free hl)) (t.same (Same.lay hl)))⟩
   | tuple h t=>cases e;exact ⟨_,_,rfl,.inr h,fun l hl=>q _ _ (Same.lay hl) (.list (SqLS.new zW (m.free hl)) (t.same (Same.lay hl)))⟩
   | _=>cases e)
end
end L2
namespace L2
open PySem PySem.Spec PyProof.Rows
def j0:PyData->Option Bool
 | .bool b=>some b
 | _=>none
def tV (f:Rho->Option PyData):Rho->Option Bool:=fun ρ=>ob (f ρ) j0
def tN (p:Rho->Option Bool):Rho->Option Bool:=fun ρ=>ob (p ρ) fun b=>some (!b)
def tA (p q:Rho->Option Bool):Rho->Option Bool:=fun ρ=>ob (p ρ) fun c=>if c=true then q ρ else some false
def tO (p q:Rho->Option Bool):Rho->Option Bool:=fun ρ=>ob (p ρ) fun c=>if c=true then some true else q ρ
def tT:Rho->Option Bool:=fun _=>some true
def vA (fa fb:Rho->Option PyData):Rho->Option PyData:=fun ρ=>ob (fa ρ) fun x=>ob (j0 x) fun c=>if c=true then fb ρ else some (.bool false)
def vO (fa fb:Rho->Option PyData):Rho->Option PyData:=fun ρ=>ob (fa ρ) fun x=>ob (j0 x) fun c=>if c=true then some (.bool true) else fb ρ
def vN (fa:Rho->Option PyData):Rho->Option PyData:=fun ρ=>ob (fa ρ) fun x=>ob (j0 x) fun c=>some (.bool (!c))
def vIf (p:Rho->Option Bool)(fa fb:Rho->Option PyData):Rho->Option PyData:=fun ρ=>ob (p ρ) fun x=>if x=true then fa ρ else fb ρ
def evI (f:Rho->Option PyData)(h:PyData->Option (List PyData)):Rho->Option (List PyData):=fun ρ=>ob (f ρ) h
def evR (fs:Rho->Option (List PyData))(h:List PyData->Option (List PyData)):Rho->Option (List PyData):=fun ρ=>ob (fs ρ) h
def sN:Rho->Option Out:=fun ρ=>some (.nx ρ)
def sRet (f:Rho->Option PyData):Rho->Option Out:=fun ρ=>ob (f ρ) fun d=>some (.rt d)
def sIf (p:Rho->Option Bool)(u w:Rho->Option Out):Rho->Option Out:=fun ρ=>ob (p ρ) fun b=>if b=true then u ρ else w ρ
def sSet (i:Nat)(f:Rho->Option PyData):Rho->Option Out:=fun ρ=>ob (f ρ) fun d=>some (.nx (ρ.set i (some d)))
def sAsg (f:Rho->Option PyData)(g:PyData->Rho->Option Rho):Rho->Option Out:=fun ρ=>ob (f ρ) fun d=>ob (g d ρ) fun ρ'=>some (.nx ρ')
def gNm (i:Nat):PyData->Rho->Option Rho:=fun d ρ=>some (ρ.set i (some d))
def gsN:List PyData->Rho->Option Rho:=fun ds ρ=>match ds with | []=>some ρ|_=>none
def gsC (g1:PyData->Rho->Option Rho)(g2:List PyData->Rho->Option Rho):List PyData->Rho->Option Rho:=fun ds ρ=>match ds with | d::r=>ob (g1 d ρ) fun ρ'=>g2 r ρ'|[]=>none
def sBk:Rho->Option Out:=fun ρ=>some (.bk ρ)
def sCt:Rho->Option Out:=fun ρ=>some (.ct ρ)
section
variable {X:Cx}{M:List Nat}{a b c:Expr}{es rest:List Expr}{f g fa fb:Rho->Option PyData}{p q:Rho->Option Bool}{pos:Pos}
theorem jJ {d:PyData}{b:Bool}(h:j0 d=some b):d=.bool b:=by cases d<;>first|(cases h;rfl)|cases h
theorem Qy (h:PD X M a f)(he:∀ whole,isTrue a X.env whole=(do let v ← whole;standAt a.pos;holding [v] (truthy v)):=by intro _;rfl):PDT X M a (tV f) :=
 (qhm h he).weak fun σ H Q ⟨S,ρ,d,hs,e,q⟩=>by
  obtain ⟨x,e1,e⟩:=qy e
  cases jJ e
  exact ⟨S,ρ,_,hs,e1,fun v H1 g1 d1=>⟨d,d1.bool_inv,q H1 g1⟩⟩
theorem zc {op:CmpOp}{g:PyData->PyData->Option PyData}(ho:OpD X (compareOp op) g)(ha:PD X M a fa)(hb:PD X M b fb)(hm:behindInMarks op b=false):PDT X M (.Compare a [op] [b] pos) (tV (ev2 fa fb g)) :=
 (qfr ho ha hb hm).weak fun σ H Q ⟨S,ρ,d,hs,e,q⟩=>by
  obtain ⟨x,e1,e⟩:=qy e
  cases jJ e
  exact tD2 σ H _ ⟨S,ρ,_,hs,e1,fun v H1 g1 d1=>⟨d,d1.bool_inv,q H1 g1⟩⟩
theorem QC (h:PDT X M a p):PDT X M (.UnaryOp .Not a pos) (tN p) :=
 (qhl h).weak fun σ H Q ⟨S,ρ,d,hs,e,q⟩=>by
  obtain ⟨x,e1,e⟩:=qy e
  cases e
  exact ⟨S,ρ,x,hs,e1,fun H1 g1=>q H1 g1⟩
def PDW (X:Cx)(M:List Nat)(e:Expr)(f:Rho->Option Bool):Prop:=PW X e (tDT X.K M f)
theorem PDW.pdt (h:PDW X M a p):PDT X M a p:=PW.pt h
theorem qaV (h:PDT X M a p):PDW X M (.BoolOp .And [a] pos) p:=qfu h
theorem ZG (h:PDT X M a p):PDW X M (.BoolOp .Or [a] pos) p:=qhp h
theorem qbZ (ha:PDT X M a p)(hb:PDW X M (.BoolOp .And (b::rest) pos) q):PDW X M (.BoolOp .And (a::b::rest) pos) (tA p q) :=
 (qho ha hb).weak fun σ H Q ⟨S,ρ,d,hs,e,w⟩=>by
  obtain ⟨x,e1,e⟩:=qy e
  refine ⟨S,ρ,x,hs,e1,fun H1 g1=>?_⟩
  cases x with
  | true=>exact iteT ⟨S,ρ,d,hs.same g1,e,fun H2 g2=>w H2 (g1.trans g2)⟩
  | false=>cases e;exact iteF (w H1 g1)
theorem Zw (ha:PDT X M a p)(hb:PDW X M (.BoolOp .Or (b::rest) pos) q):PDW X M (.BoolOp .Or (a::b::rest) pos) (tO p q) :=
 (pw_or ha hb).weak fun σ H Q ⟨S,ρ,d,hs,e,w⟩=>by
  obtain ⟨x,e1,e⟩:=qy e
  refine ⟨S,ρ,x,hs,e1,fun H1 g1=>?_⟩
  cases x with
  | true=>cases e;exact iteT (w H1 g1)
  | false=>exact iteF ⟨S,ρ,d,hs.same g1,e,fun H2 g2=>w H2 (g1.trans g2)⟩
theorem YT {op}(h:PD X M a f):PD X M (.BoolOp op [a] pos) f:=qg9 h
theorem YQ (ha:PD X M a fa)(hb:PD X M (.BoolOp .And (b::rest) pos) fb):PD X M (.BoolOp .And (a::b::rest) pos) (vA fa fb) :=
 (qg5 ha hb).weak fun σ H Q ⟨S,ρ,d,hs,e,w⟩=>by
  obtain ⟨x,e1,e⟩:=qy e
  obtain ⟨c,e2,e⟩:=qy e
  cases jJ e2
  refine ⟨S,ρ,_,hs,e1,fun v H1 g1 d1=>⟨c,d1.bool_inv,?_⟩⟩
  cases c with
  | true=>exact iteT ⟨S,ρ,d,hs.same g1,e,fun v H2 g2 d2=>w v H2 (g1.trans g2) d2⟩
  | false=>cases e;exact iteF (w _ H1 g1 (.bool false))
theorem qdO (ha:PD X M a fa):PD X M (.UnaryOp .Not a pos) (vN fa) :=
 (qg8 ha).weak fun σ H Q ⟨S,ρ,d,hs,e,w⟩=>by
  obtain ⟨x,e1,e⟩:=qy e
  obtain ⟨c,e2,e⟩:=qy e
  cases jJ e2
  cases e
  exact ⟨S,ρ,_,hs,e1,fun v H1 g1 d1=>⟨c,d1.bool_inv,w _ H1 g1 (.bool _)⟩⟩
theorem qdN (hc:PDT X M c p)(ha:PD X M a fa)(hb:PD X M b fb):PD X M (.IfExp c a b pos) (vIf p fa fb) :=
 (qdT hc ha hb).weak fun σ H Q ⟨S,ρ,d,hs,e,w⟩=>by
  obtain ⟨x,e1,e⟩:=qy e
  refine ⟨S,ρ,x,hs,e1,fun H1 g1=>?_⟩
  cases x with
  | true=>exact iteT ⟨S,ρ,d,hs.same g1,e,fun v H2 g2 d2=>w v H2 (g1.trans g2) d2⟩
  | false=>exact iteF ⟨S,ρ,d,hs.same g1,e,fun v H2 g2 d2=>w v H2 (g1.trans g2) d2⟩
structure IsIt (K:PySem.W.Frag)(S:Av)(J:It)(H:Hp)(ds:List PyData):Prop where
 go:∀ (i:Nat) (H':Hp),Same H H'->i<ds.length->J.go i H'
 yld:∀ (i:Nat) (H':Hp) (x:V) (H2:Hp),Same H H'->J.yld i H' x H2->Same H' H2/\∀ d,ds[i]?=some d->∀ S':Av,(∀ y e,Den K H S y e->Den K H2 S' y e)->Den K H2 S' x d
 stop:∀ H':Hp,Same H H'->J.stop ds.length H'
theorem IsIt.lst {K:PySem.W.Frag}{H:Hp}{S:Av}{l:Addr}{xs:List V}{ds:List PyData}(h:SqL K H l xs)(t:DenL K H S xs ds):IsIt K S (Itl K l) H ds where
 go:=fun i H' e hi=>by
  have hi':i<xs.length:=by rw [t.length];exact hi
  exact ⟨xs,xs[i],e.seq h,List.getElem?_eq_getElem hi'⟩
 yld:=fun i H' x H2 e ⟨e2,q⟩=>⟨by rw [e2];exact Same.refl _,fun d hd S' w=>by
  obtain ⟨v,h1,h2⟩:=t.get hd
  have:=q xs (e.seq h)
  rw [h1] at this
  cases this
  exact w _ _ h2⟩
 stop:=fun H' e=>⟨xs,e.seq h,by rw [t.length];exact Nat.le_refl _⟩
theorem IsIt.tup {K:PySem.W.Frag}{H:Hp}{S:Av}{l:Addr}{xs:List V}{ds:List PyData}(h:SqT K H l xs)(t:DenL K H S xs ds):IsIt K S (Itt K l) H ds where
 go:=fun i H' e hi=>by
  have hi':i<xs.length:=by rw [t.length];exact hi
  exact ⟨xs,xs[i],e.sqT h,List.getElem?_eq_getElem hi'⟩
 yld:=fun i H' x H2 e ⟨e2,q⟩=>⟨by rw [e2];exact Same.refl _,fun d hd S' w=>by
  obtain ⟨v,h1,h2⟩:=t.get hd
  have:=q xs (e.sqT h)
  rw [h1] at this
  cases this
  exact w _ _ h2⟩
 stop:=fun H' e=>⟨xs,e.sqT h,by rw [t.length];exact Nat.le_refl _⟩
theorem SqLS.off {K:PySem.W.Frag}{H H':Hp}{S:Av}{a:Addr}{xs:List V}(e:Off S H H')(h:SqLS K H S a xs):SqLS K H' S a xs:=h.imp (fun q=>⟨q.1.off e q.2,q.2⟩) id
theorem SqT.off {K:PySem.W.Frag}{H H':Hp}{S:Av}{a:Addr}{xs:List V}(m:Dm S H)(e:Off S H H')(h:SqT K H a xs):SqT K H' a xs:=h.imp (fun q=>q.off e (m.tup q)) id
def rngL:Int->Nat->List PyData
 | _,0=>[]
 | lo,n+1=>.int lo::rngL (lo+1) n
theorem Jb:∀ (lo:Int) (n:Nat),(rngL lo n).length=n
 | _,0=>rfl
 | lo,n+1=>by rw [rngL,List.length_cons,Jb]
theorem qa2:∀ (lo:Int) (n i:Nat) (d:PyData),(rngL lo n)[i]?=some d->d=.int (lo+i)
 | _,0,_,_,h=>by simp [rngL] at h
 | lo,n+1,0,d,h=>by simp [rngL] at h;subst h;simp
 | lo,n+1,i+1,d,h=>by
  have:=qa2 (lo+1) n i d (by simpa [rngL] using h)
  rw [this]
  congr 1
  omega
theorem IsIt.rng {K:PySem.W.Frag}{H:Hp}{S:Av}(lo:Int)(n:Nat):IsIt K S (Itr lo n) H (rngL lo n) where
 go:=fun i H' e hi=>by rw [Jb] at hi;exact hi
 yld:=fun i H' x H2 e ⟨e2,q⟩=>⟨by rw [e2];exact Same.refl _,fun d hd _ _=>by
  have q':x=.int (lo+i):=q
  rw [qa2 lo n i d hd,q']
  exact .int _⟩
 stop:=fun H' e=>by rw [Jb];exact Nat.le_refl n
def tDI (K:PySem.W.Frag)(M:List Nat)(f:Rho->Option (List PyData)):TI:=fun σ H R=>∃ S ρ ds,DenS K H S M σ ρ/\f ρ=some ds/\∀ J H',Same H H'->(∀ H2,Off S H' H2->IsIt K S J H2 ds)->R J H'
def PDI (X:Cx)(M:List Nat)(tg iter:Expr)(f:Rho->Option (List PyData)):Prop:=PI X tg iter (tDI X.K M f)
theorem PI.weak {X:Cx}{tg e:Expr}{t t':TI}(h:PI X tg e t)(w:∀ σ H R,t' σ H R->t σ H R):PI X tg e t':=fun pins s σ H Q I q=>h pins s σ H Q I (w σ H Q q)
def iSeq (K:PySem.W.Frag)(tl:TE):TI:=fun σ H R=>tl σ H fun x H1=>∃ a,x=.ref a/\(((∃ xs,SqL K H1 a xs)/\R (Itl K a) H1)\/((∃ xs,SqT K H1 a xs)/\R (Itt K a) H1))
theorem qhd {tg l:Expr}{tl:TE}(hl:PE X l tl):PI X tg l (iSeq X.K tl):=by
 intro pins s σ H R I h
 refine thn (hl pins s σ H _ I h) fun v s1 ⟨x,H1,I1,r1,q1⟩=>?_
 obtain ⟨a,e,q1⟩:=q1
 subst e
 cases r1
 have fp:∀ b∈[s1.heap.objs.size],FpOk X pins H1 b:=fun b hb=>by
  have e:b=s1.heap.objs.size:=by simpa using hb
  subst e
  exact I1.fpOk (Nat.le_refl _) (I1.hok.fresh (Nat.le_refl _))
 rcases q1 with ⟨⟨xs,hq⟩,q⟩|⟨⟨xs,hq⟩,q⟩
 ·obtain ⟨its,rv,p,hz⟩:=I1.list hq
  refine wpAny_pyIter_list p.isList ?_
  exact ⟨s1.heap.objs.size,[s1.heap.objs.size],_,_,H1,rfl,I1.kept (t':=s1.toks) fun b o e=>Heap.get?_push_of_some _ e,qcO a _,⟨_,Heap.get?_push_size _ rfl,rfl,rfl⟩,fp,q⟩
 ·obtain ⟨its,rv,p,hz⟩:=I1.tuple hq
  refine wpAny_pyIter_tuple (show s1.heap.IsTuple a its.toArray from p) ?_
  exact ⟨s1.heap.objs.size,[s1.heap.objs.size],_,_,H1,rfl,I1.kept (t':=s1.toks) fun b o e=>Heap.get?_push_of_some _ e,qbp a _,⟨_,Heap.get?_push_size _ rfl,rfl,rfl⟩,fp,q⟩
def seqD:PyData->Option (List PyData)
 | .list ds=>some ds
 | .tuple ds=>some ds
 | _=>none
theorem zT {tg:Expr}(h:PD X M a f):PDI X M tg a (evI f seqD) :=
 (qhd h).weak fun σ H R ⟨S,ρ,ds,hs,e,w⟩=>by
  obtain ⟨x,e1,e⟩:=qy e
  refine ⟨S,ρ,x,hs,e1,fun v H1 g1 d1=>?_⟩
  cases d1 with
  | list h t=>cases e;exact ⟨_,rfl,.inl ⟨⟨_,h.sq⟩,w _ _ g1 fun H2 o=>IsIt.lst (h.off o).sq (t.off (hs.1.same g1) o)⟩⟩
  | tuple h t=>cases e;exact ⟨_,rfl,.inr ⟨⟨_,h⟩,w _ _ g1 fun H2 o=>IsIt.tup (h.off (hs.1.same g1) o) (t.off (hs.1.same g1) o)⟩⟩
  | _=>cases e
def Z8:List PyData->Option (List PyData)
 | [.int j]=>if -1000<=j/\j<=1000 then some (rngL 0 j.toNat) else none
 | _=>none
def rng2D:List PyData->Option (List PyData)
 | [.int i,.int j]=>if (-1000<=i/\i<=1000)/\(-1000<=j/\j<=1000) then some (rngL i (j-i).toNat) else none
 | _=>none
theorem QT {tg:Expr}{fs:Rho->Option (List PyData)}{p:Pos}(hg:Gl X "range")(hm:X.mg "range" = none)(ha:PDA X M [a] fs)(hs:starEach [a] X.env=[(false,eval a X.env)]:=by rfl):PDI X M tg (.Call (.Name "range" p) [a] [] pos) (evR fs Z8) :=
 (Wc hg hm ha hs).weak fun σ H R ⟨S,ρ,ds,hs,e,w⟩=>by
  obtain ⟨xs,e1,e⟩:=qy e
  refine ⟨S,ρ,xs,hs,e1,fun vs H1 g1 d1=>?_⟩
  unfold Z8 at e
  split at e
  ·rename_i j
   split at e
   ·rename_i hj
    cases e
    obtain ⟨v,rfl,q⟩:=d1.inv1
    cases q
    exact ⟨j,rfl,by omega,by omega,w _ _ g1 fun _ _=>IsIt.rng 0 _⟩
   ·cases e
  ·cases e
def zR (tt:Rho->Option Bool)(te:Rho->Option PyData)(ρ:Rho):List PyData->Option (List PyData)
 | []=>some []
 | d::ds=>ob (tt (ρ++[some d])) fun b=>if b=true then ob (te (ρ++[some d])) fun y=>ob (zR tt te ρ ds) fun ys=>some (y::ys) else zR tt te ρ ds
def Qh (n:Nat)(fi:Rho->Option (List PyData))(tt:Rho->Option Bool)(te:Rho->Option PyData)(ρ:Rho):Option PyData :=
 ob (fi ρ) fun ds=>if ρ.length=n/\ds.length<=1000 then ob (zR tt te ρ ds) fun ys=>some (.list ys) else none
def PDTs (X:Cx)(M:List Nat)(ifs:List Expr)(p:Rho->Option Bool):Prop:=PTs X ifs (tDT X.K M p)
theorem zM:PDTs X M [] tT:=fun pins s σ H Q I ⟨S,ρ,b,hs,e,q⟩=>by
 cases e
 exact qfs pins s σ H Q I (q H (Same.refl H))
theorem qdR (h:PDT X M c p):PDTs X M [c] p:=qft h
def lc1 (sc:Scope)(x:Str):Bool:=decide (sc.names.lookup x=some .local)||decide (sc.names.lookup x=some .cell)
theorem ye {env:Env}:∀ {names:List (Str×NameKind)} {x:Str},names.lookup x=some .cell->
  (names.map fun (n,k)=>if (k==NameKind.free&&env.scope.kind==.function&&env.kindOf n==some .cell) then (n,NameKind.cell) else (n,k)).lookup x=some .cell
 | [],_,h=>by simp at h
 | (n,k)::r,x,h=>by
  have ih:=@ye env r x
  show List.lookup x ((if (k==NameKind.free&&env.scope.kind==.function&&env.kindOf n==some .cell)=true then (n,NameKind.cell) else (n,k))::_)=_
  rw [List.lookup_cons] at h
  by_cases hx:(x==n)=true
  ·rw [hx] at h;cases h
   split<;>rw [List.lookup_cons,hx]
  ·rw [Bool.eq_false_iff.mpr hx] at h
   split<;>rw [List.lookup_cons,Bool.eq_false_iff.mpr hx]<;>exact ih h
def tDGc (K:PySem.W.Frag)(M:List Nat)(g:PyData->Rho->Option Rho):TG:=fun v σ H Q=>∃ S ρ d ρ',DenS K H S M σ ρ/\Den K H S v d/\g d ρ=some ρ'/\∀ σ' H',Same H H'->DenS K H' S M σ' ρ'->Q σ' H'
def tDGcs (K:PySem.W.Frag)(M:List Nat)(g:List PyData->Rho->Option Rho):TGs:=fun vs σ H Q=>∃ S ρ ds ρ',DenS K H S M σ ρ/\DenL K H S vs ds/\g ds ρ=some ρ'/\∀ σ' H',Same H H'->DenS K H' S M σ' ρ'->Q σ' H'
def PDGc (X:Cx)(M:List Nat)(t:Expr)(g:PyData->Rho->Option Rho):Prop:=PG X t (tDGc X.K M g)
def qbt (X:Cx)(M:List Nat)(t:List Expr)(g:List PyData->Rho->Option Rho):Prop:=PGs X t (tDGcs X.K M g)
theorem PG.weak {X:Cx}{e:Expr}{t t':TG}(h:PG X e t)(w:∀ v σ H Q,t' v σ H Q->t v σ H Q):PG X e t':=fun pins s σ H v u Q I r q=>h pins s σ H v u Q I r (w v σ H Q q)
theorem PGs.weak {X:Cx}{e:List Expr}{t t':TGs}(h:PGs X e t)(w:∀ v σ H Q,t' v σ H Q->t v σ H Q):PGs X e t':=fun pins s σ H v u Q I r q=>h pins s σ H v u Q I r (w v σ H Q q)
def unpD (n:Nat)(g:List PyData->Rho->Option Rho):PyData->Rho->Option Rho
 | .tuple ds,ρ=>if ds.length=n then g ds ρ else none
 | _,_=>none
theorem Wb (i:Nat){x:Str}(hN:X.N.Nodup)(hx:Loc X.env.scope x)(hi:X.N[i]?=some x)(hf:X.fn x=true\/X.env.scope.names.lookup x=some .local):PDGc X M (.Name x pos) (gNm i) :=
 (qb1 hN hi hx hf).weak fun v σ H Q ⟨S,ρ,d,ρ',hs,hd,e,q⟩=>by
  cases e
  exact q _ H (Same.refl H) (hs.set hd i)
theorem qcD:qbt X M [] gsN :=
 qb2.weak fun v σ H Q ⟨S,ρ,d,ρ',hs,hd,e,q⟩=>by
  cases hd with
  | nil=>cases e;exact ⟨rfl,q _ H (Same.refl H) hs⟩
  | cons a t=>cases e
theorem YW {t:Expr}{ts:List Expr}{g1:PyData->Rho->Option Rho}{g2:List PyData->Rho->Option Rho}(h1:PDGc X M t g1)(h2:qbt X M ts g2)(hs:(assignEach (t::ts) X.env).map (·.2)=assign t X.env::(assignEach ts X.env).map (·.2):=by rfl) :
  qbt X M (t::ts) (gsC g1 g2) :=
 (qaX h1 h2 hs).weak fun v σ H Q ⟨S,ρ,d,ρ',hs,hd,e,q⟩=>by
  cases hd with
  | nil=>cases e
  | cons a t =>
   obtain ⟨ρ1,e1,e⟩:=qy e
   exact ⟨_,_,rfl,S,ρ,_,ρ1,hs,a,e1,fun σ' H' g1 hs'=>⟨S,ρ1,_,ρ',hs',t.same g1,e,fun σ2 H2 g2 hs2=>q σ2 H2 (g1.trans g2) hs2⟩⟩
theorem qdP {ts:List Expr}{k:Nat}{n:Nat}{g:List PyData->Rho->Option Rho}(hc:X.calm=true)(h:qbt X M ts g)(hn:(assignEach ts X.env).length=n:=by rfl)(hst:(assignEach ts X.env).findIdx? (·.1)=none:=by rfl):PDGc X M (.Tuple ts k pos) (unpD n g) :=
 (qdW hc h hn hst).weak fun v σ H Q ⟨S,ρ,d,ρ',hs,hd,e,q⟩=>by
  cases hd with
  | @tuple a xs ds h t =>
   have e:(if ds.length=n then g ds ρ else none)=some ρ':=e
   split at e
   ·rename_i hl
    exact ⟨_,_,rfl,h,by rw [t.length];exact hl,S,ρ,_,ρ',hs,t,e,q⟩
   ·cases e
  | _=>cases e
def GIn (n k:Nat)(g:PyData->Rho->Option Rho):Prop:=∀ d (ρ r ρ1:Rho),ρ.length=n->r.length=k->g d (ρ++r)=some ρ1->∃ r',r'.length=k/\ρ1=ρ++r'
def GIns (n k:Nat)(g:List PyData->Rho->Option Rho):Prop:=∀ d (ρ r ρ1:Rho),ρ.length=n->r.length=k->g d (ρ++r)=some ρ1->∃ r',r'.length=k/\ρ1=ρ++r'
theorem J4 {n k i:Nat}(h:n<=i):GIn n k (gNm i):=fun d ρ r ρ1 h1 h2 e=>by
 cases e
 refine ⟨r.set (i-n) (some d),by rw [List.length_set];exact h2,?_⟩
 rw [List.set_append_right _ _ (by omega),h1]
theorem qdh {n k:Nat}:GIns n k gsN:=fun d ρ r ρ1 h1 h2 e=>by
 cases d with
 | nil=>cases e;exact ⟨r,h2,rfl⟩
 | cons _ _=>cases e
theorem wM {n k:Nat}{g1:PyData->Rho->Option Rho}{g2:List PyData->Rho->Option Rho}(a:GIn n k g1)(b:GIns n k g2):GIns n k (gsC g1 g2):=fun d ρ r ρ1 h1 h2 e=>by
 cases d with
 | nil=>cases e
 | cons d ds =>
  obtain ⟨ρ2,e1,e2⟩:=qy e
  obtain ⟨r1,l1,rfl⟩:=a d ρ r ρ2 h1 h2 e1
  exact b ds ρ r1 ρ1 h1 l1 e2
theorem qeQ {n k m:Nat}{g:List PyData->Rho->Option Rho}(a:GIns n k g):GIn n k (unpD m g):=fun d ρ r ρ1 h1 h2 e=>by
 cases d with
 | tuple ds =>
  have e:(if ds.length=m then g ds (ρ++r) else none)=some ρ1:=e
  split at e
  ·exact a ds ρ r ρ1 h1 h2 e
  ·cases e
 | _=>cases e
def Zf (k:Nat)(g:PyData->Rho->Option Rho)(tt:Rho->Option Bool)(te:Rho->Option PyData)(ρ:Rho):List PyData->Option (List PyData)
 | []=>some []
 | d::ds=>ob (g d (ρ++List.replicate k none)) fun ρ1=>ob (tt ρ1) fun b=>if b=true then ob (te ρ1) fun y=>ob (Zf k g tt te ρ ds) fun ys=>some (y::ys) else Zf k g tt te ρ ds
def Jy (n k:Nat)(fi:Rho->Option (List PyData))(g:PyData->Rho->Option Rho)(tt:Rho->Option Bool)(te:Rho->Option PyData)(ρ:Rho):Option PyData :=
 ob (fi ρ) fun ds=>if ρ.length=n/\ds.length<=1000 then ob (Zf k g tt te ρ ds) fun ys=>some (.list ys) else none
theorem Yu {tt:Rho->Option Bool}{te:Rho->Option PyData}{ρ:Rho}{n:Nat}(hn:ρ.length=n):∀ ds,Zf 1 (gNm n) tt te ρ ds=zR tt te ρ ds
 | []=>rfl
 | d::ds=>by
  have e:gNm n d (ρ++List.replicate 1 none)=some (ρ++[some d]):=by
   show some ((ρ++[none]).set n (some d))=_
   rw [← hn,List.set_append_right _ _ (Nat.le_refl _)]
   simp
  rw [Zf,zR,e]
  show (ob (tt (ρ++[some d])) fun b=>_)=_
  rw [Yu hn ds]
theorem Ys (n:Nat)(fi:Rho->Option (List PyData))(tt:Rho->Option Bool)(te:Rho->Option PyData):Qh n fi tt te=Jy n 1 fi (gNm n) tt te:=by
 funext ρ
 unfold Qh Jy
 cases fi ρ with
 | none=>rfl
 | some ds =>
  show (if ρ.length=n/\ds.length<=1000 then _ else none)=(if ρ.length=n/\ds.length<=1000 then _ else none)
  split
  ·rename_i h
   rw [Yu h.1]
  ·rfl
theorem DenS.forget {K:PySem.W.Frag}{H:Hp}{S:Av}{σ:St}{ρ r':Rho}{k:Nat}(h:DenS K H S M σ (ρ++r'))(hk:r'.length=k):DenS K H S M σ (ρ++List.replicate k none):=by
 refine ⟨h.1,by rw [h.2.1,List.length_append,List.length_append,List.length_replicate,hk],fun i d hi e=>?_⟩
 by_cases hlt:i<ρ.length
 ·rw [List.getElem?_append_left hlt] at e
  exact h.2.2 i d hi (by rw [List.getElem?_append_left hlt];exact e)
 ·rw [List.getElem?_append_right (by omega)] at e
  have:=List.getElem?_replicate (a:=(none:Option PyData)) (n:=k) (i:=i-ρ.length)
  rw [this] at e
  split at e<;>cases e
theorem DenS.more {K:PySem.W.Frag}{H:Hp}{S:Av}{σ:St}{ρ:Rho}(k:Nat)(h:DenS K H S M σ ρ):DenS K H S M (σ++List.replicate k none) (ρ++List.replicate k none):=by
 refine ⟨h.1,by rw [List.length_append,List.length_append,h.2.1,List.length_replicate,List.length_replicate],fun i d hi e=>?_⟩
 by_cases hlt:i<ρ.length
 ·rw [List.getElem?_append_left hlt] at e
  obtain ⟨v,a,b⟩:=h.2.2 i d hi e
  exact ⟨v,by rw [List.getElem?_append_left (by rw [h.2.1];exact hlt)];exact a,b⟩
 ·rw [List.getElem?_append_right (by omega)] at e
  have:=List.getElem?_replicate (a:=(none:Option PyData)) (n:=k) (i:=i-ρ.length)
  rw [this] at e
  split at e<;>cases e
theorem qb9 {K:PySem.W.Frag}{n k:Nat}{fi:Rho->Option (List PyData)}{g:PyData->Rho->Option Rho}(hg:GIn n k g):∀ σ H Q S ρ ds ys,DenS K H S M σ ρ->fi ρ=some ds->ρ.length=n->ds.length<=1000->Zf k g p f ρ ds=some ys->(∀ H' zs,Same H H'->DenL K H' S zs ys->∀ D,H' D=none->Q (.ref D) (upd H' D (.lst zs)))->qa7 k (tDI K M fi) (tDGc K M g) (tDT K M p) (tD K M f) σ H Q:=by
 intro σ H Q S ρ ds ys hs e1 hn hz e2 q
 refine ⟨S,ρ,ds,hs,e1,fun J H1 g1 hJ0=>?_⟩
 have hJ:=hJ0 H1 fun _ _ _ z=>z
 have z1000:1000<sizeLine:=QL (Nat.le_refl _)
 refine ⟨fun i m zs σ' H'=>m=ds.length-i/\i<=ds.length/\zs.length<=i/\Same H1 H'/\DenS K H' S M σ' (ρ++List.replicate k none)/\∃ pre rest,DenL K H' S zs pre/\Zf k g p f ρ (ds.drop i)=some rest/\pre++rest=ys,⟨ds.length,by simp,Nat.zero_le _,Nat.le_refl _,Same.refl _,(hs.same g1).more k,[],ys,.nil,e2,rfl⟩,?_⟩
 rintro i m zs σ' H' ⟨rfl,hi,hzi,g2,hS,pre,rest,dl,er,rfl⟩
 by_cases hlt:i<ds.length
 ·refine .inr ⟨hJ.go i H' g2 hlt,fun x H2 y=>?_⟩
  obtain ⟨g2',yd⟩:=hJ.yld i H' x H2 g2 y
  have hd:=yd _ (List.getElem?_eq_getElem hlt) S fun y e q=>q.same (g2.trans g2')
  rw [List.drop_eq_getElem_cons hlt] at er
  obtain ⟨ρ1,r1,er⟩:=qy er
  obtain ⟨bb,b1,er⟩:=qy er
  obtain ⟨r',hr',rfl⟩:=hg _ ρ _ ρ1 hn (List.length_replicate) r1
  have g2:=g2.trans g2'
  have dl:=dl.same g2'
  refine ⟨S,_,_,_,hS.same g2',hd,r1,fun σ3 H3 g3 hS3=>⟨S,_,bb,hS3,b1,fun H4 g4=>?_⟩⟩
  cases bb with
  | true =>
   rw [if_pos rfl] at er
   obtain ⟨y1,e3,er⟩:=qy er
   obtain ⟨ys1,e4,er⟩:=qy er
   cases er
   refine iteT ⟨S,_,y1,hS3.same g4,e3,fun v H5 g5 d5=>⟨by omega,ds.length-(i+1),by omega,rfl,hlt,by rw [List.length_append,List.length_singleton];omega,g2.trans (g3.trans (g4.trans g5)),(hS3.same (g4.trans g5)).forget hr',pre++[y1],ys1,(dl.same (g3.trans (g4.trans g5))).snoc d5,e4,by simp⟩⟩
  | false =>
   rw [if_neg Bool.false_ne_true] at er
   exact iteF ⟨ds.length-(i+1),by omega,rfl,hlt,by omega,g2.trans (g3.trans g4),(hS3.same g4).forget hr',pre,rest,dl.same (g3.trans g4),er,rfl⟩
 ·have hi':i=ds.length:=by omega
  subst hi'
  rw [List.drop_length] at er
  cases er
  refine .inl ⟨hJ.stop H' g2,fun D hD=>q H' zs (g1.trans g2) (by rw [List.append_nil];exact dl) D hD⟩
theorem Yt {n k:Nat}{fi:Rho->Option (List PyData)}{g:PyData->Rho->Option Rho}{tt:Rho->Option Bool}{te:Rho->Option PyData}{ρ:Rho}{d:PyData}(e:Jy n k fi g tt te ρ=some d):∃ ds ys,fi ρ=some ds/\ρ.length=n/\ds.length<=1000/\Zf k g tt te ρ ds=some ys/\d=.list ys:=by
 obtain ⟨ds,e1,e⟩:=qy e
 split at e
 ·rename_i hc
  obtain ⟨ys,e2,e⟩:=qy e
  cases e
  exact ⟨ds,ys,e1,hc.1,hc.2,e2,rfl⟩
 ·cases e
theorem qhI {K:PySem.W.Frag}{n k:Nat}{fi:Rho->Option (List PyData)}{g:PyData->Rho->Option Rho}(hg:GIn n k g):∀ σ H Q,tD K M (Jy n k fi g p f) σ H Q->qa7 k (tDI K M fi) (tDGc K M g) (tDT K M p) (tD K M f) σ H Q:=by
 intro σ H Q ⟨S,ρ,d,hs,e,q⟩
 obtain ⟨ds,ys,e1,hn,hz,e2,rfl⟩:=Yt e
 exact qb9 hg σ H Q S ρ ds ys hs e1 hn hz e2 fun H' zs g2 dl D hD=>q _ _ (g2.lay' hD) (.list (SqLS.new zW ((hs.1.same g2).free hD)) (dl.same (Same.lay hD)))
section
variable {elt iter tg:Expr}{ifs:List Expr}{x:Str}{N':List Str}{px:Pos}{sc:Scope}{n k:Nat}{fi:Rho->Option (List PyData)}{g:PyData->Rho->Option Rho}
theorem Yj {i:Nat}(O:CompOk X N' k sc)(hx:N'[i]?=some x)(hl:lc1 sc x=true)(cl:List (Str×Addr))(C:Addr)(fp:List Addr)(pins:List (Addr×Obj))(s:Shared)(H:Hp):PDGc (q9 X N' sc cl C fp pins s H) M (.Name x px) (gNm i) :=
 (Bool.or_eq_true_iff.mp hl).elim (fun hl =>
  have hloc:(relabel sc X.env).names.lookup x=some .local:=lookup_relabel_local (of_decide_eq_true hl)
  Wb (X:=q9 X N' sc cl C fp pins s H) i O.nd' (.inl hloc) hx (.inr hloc)) fun hl =>
  have hloc:(relabel sc X.env).names.lookup x=some .cell:=ye (of_decide_eq_true hl)
  Wb (X:=q9 X N' sc cl C fp pins s H) i O.nd' (.inr hloc) hx (.inl hl)
theorem qaR (O:CompOk X N' k sc)(gi:GIn n k g)(hi:PDI X M tg iter fi)(hg:∀ cl C fp pins s H,PDGc (q9 X N' sc cl C fp pins s H) M tg g)(hq:∀ cl C fp pins s H,PDTs (q9 X N' sc cl C fp pins s H) M ifs p)(he:∀ cl C fp pins s H,PD (q9 X N' sc cl C fp pins s H) M elt f)
  (hs:∀ v,foldedSetIterable iter X.env v=pure v:=by intro _;rfl):PD X M (.ListComp elt [⟨tg,iter,ifs,0⟩] sc pos) (Jy n k fi g p f) :=
 (qfl (wg:=tDGc X.K M g) (tt:=tDT X.K M p) (te:=tD X.K M f) O hi hg hq he hs).weak (qhI gi)
theorem Qn (O:CompOk X N' 1 sc)(hx:N'[n]?=some x)(hl:lc1 sc x=true)(hi:PDI X M (.Name x px) iter fi)(hq:∀ cl C fp pins s H,PDTs (q9 X N' sc cl C fp pins s H) M ifs p)(he:∀ cl C fp pins s H,PD (q9 X N' sc cl C fp pins s H) M elt f)
  (hs:∀ v,foldedSetIterable iter X.env v=pure v:=by intro _;rfl):PD X M (.ListComp elt [⟨.Name x px,iter,ifs,0⟩] sc pos) (Qh n fi p f):=by
 rw [Ys]
 exact qaR O (J4 (Nat.le_refl _)) hi (Yj O hx hl) hq he hs
end
end
end L2
namespace L2
open PySem PySem.Spec PyProof.Rows
structure Gm where
 H0:Hp
 S0:Av
 lk:Nat->Addr×PyData
def insA (S:Av)(p:Addr):Av:=fun a=>S a\/a=p
inductive OwnO (K:PySem.W.Frag)(H:Hp)(S:Av)(p:Addr):PyData->Prop
 | lst {xs:List V} {ds:List PyData}:H p=some (.lst xs)->DenL K H S xs ds->OwnO K H S p (.list ds)
 | dct {kvs:List (KX×Addr×V)} {ep:Nat} {ds:List PyData}:H p=some (DctO p kvs ep)->DenL K H S (kvs.map fun p=>kxV p.1 p.2.1) (kvs.map fun p=>kxD p.1)->DenL K H S (kvs.map (·.2.2)) ds->OwnO K H S p (.dict (dkv kvs ds))
section
variable {K:PySem.W.Frag}{H H':Hp}{S S':Av}{p:Addr}{d:PyData}
theorem OwnO.same (e:Same H H')(h:OwnO K H S p d):OwnO K H' S p d:=by
 cases h with
 | lst h t=>exact .lst (e _ _ h) (t.same e)
 | dct h k t=>exact .dct (e _ _ h) (k.same e) (t.same e)
theorem OwnO.sub (e:∀ a,H a≠none->S' a->S a)(h:OwnO K H S p d):OwnO K H S' p d:=by
 cases h with
 | lst h t=>exact .lst h (t.sub e)
 | dct h k t=>exact .dct h (k.sub e) (t.sub e)
theorem OwnO.mut (h:OwnO K H S p d):∃ o,H p=some o/\j8 o=true:=by
 cases h with
 | lst h t=>exact ⟨_,h,rfl⟩
 | dct h k t=>exact ⟨_,h,rfl⟩
theorem OwnO.dom (h:OwnO K H S p d):H p≠none:=by
 obtain ⟨o,e,_⟩:=h.mut
 rw [e];exact fun z=>nomatch z
theorem OwnO.den (h:OwnO K H S p d)(n:¬ S' p)(e:∀ a,H a≠none->S' a->S a):Den K H S' (.ref p) d:=by
 cases h with
 | lst h t=>exact .list (SqLS.new h n) (t.sub e)
 | dct h k t=>exact .dict ⟨h,n⟩ (k.sub e) (t.sub e)
theorem OwnO.upd {q:Addr}{o:HO}(m:Dm S H)(h:OwnO K H S p d)(hq:S q)(hm:j8 o=true)(ne:p≠q):OwnO K (upd H q o) S p d:=by
 have off:Off S H (L2.upd H q o):=fun b u n e=>by
  rw [zf (fun z=>n (by rw [z];exact hq))];exact e
 cases h with
 | lst h t=>exact .lst (by rw [zf ne];exact h) (t.off m off)
 | dct h k t=>exact .dct (by rw [zf ne];exact h) (k.off m off) (t.off m off)
theorem Dm.upd {q:Addr}{o:HO}(m:Dm S H)(hm:j8 o=true):Dm S (upd H q o):=fun a ha=>by
 by_cases e:a=q
 ·subst e;exact ⟨o,zW,hm⟩
 ·rw [zf e];exact m a ha
theorem Dm.ins (m:Dm S H)(h:∃ o,H p=some o/\j8 o=true):Dm (insA S p) H:=fun a ha=>by
 rcases ha with ha|rfl
 ·exact m a ha
 ·exact h
end
inductive Kids (K:PySem.W.Frag)(H:Hp)(S:Av):List Addr->List PyData->Prop
 | nil:Kids K H S [] []
 | cons {q:Addr} {xs:List V} {es:List PyData} {qs:List Addr} {ds:List PyData}:H q=some (.lst xs)->DenL K H S xs es->q∉qs->Kids K H S qs ds->Kids K H S (q::qs) (.list es::ds)
inductive DeepO (K:PySem.W.Frag)(H:Hp)(S:Av):List Addr->Addr->PyData->Prop
 | tpl {p:Addr} {qs:List Addr} {ds:List PyData}:H p=some (.tup (qs.map V.ref))->Kids K H S qs ds->DeepO K H S qs p (.tuple ds)
 | lst {p:Addr} {qs:List Addr} {ds:List PyData}:H p=some (.lst (qs.map V.ref))->p∉qs->Kids K H S qs ds->DeepO K H S (p::qs) p (.list ds)
 | dct {p:Addr} {kvs:List (KX×Addr×V)} {ep:Nat} {qs:List Addr} {ds:List PyData}:H p=some (DctO p kvs ep)->DenL K H S (kvs.map fun p=>kxV p.1 p.2.1) (kvs.map fun p=>kxD p.1)->kvs.map (·.2.2)=qs.map V.ref->p∉qs->Kids K H S qs ds->DeepO K H S (p::qs) p (.dict (dkv kvs ds))
section
variable {K:PySem.W.Frag}{H H':Hp}{S S':Av}{p:Addr}{d:PyData}{fp qs:List Addr}{ds:List PyData}
theorem Kids.same (e:Same H H'):∀ {qs:List Addr} {ds:List PyData},Kids K H S qs ds->Kids K H' S qs ds
 | _,_,.nil=>.nil
 | _,_,.cons h t n r=>.cons (e _ _ h) (t.same e) n (r.same e)
theorem Kids.sub (e:∀ a,H a≠none->S' a->S a):∀ {qs:List Addr} {ds:List PyData},Kids K H S qs ds->Kids K H S' qs ds
 | _,_,.nil=>.nil
 | _,_,.cons h t n r=>.cons h (t.sub e) n (r.sub e)
theorem Kids.mut:∀ {qs:List Addr} {ds:List PyData},Kids K H S qs ds->∀ q∈qs,∃ o,H q=some o/\j8 o=true
 | _,_,.nil,q,hq=>absurd hq (by simp)
 | _,_,.cons h t n r,q,hq=>by
  rcases List.mem_cons.mp hq with e|hq
  ·rw [e];exact ⟨_,h,rfl⟩
  ·exact r.mut q hq
theorem Kids.den (e:∀ a,H a≠none->S' a->S a):∀ {qs:List Addr} {ds:List PyData},(∀ q∈qs,¬ S' q)->Kids K H S qs ds->DenL K H S' (qs.map V.ref) ds
 | _,_,_,.nil=>.nil
 | _,_,n,.cons h t _ r=>.cons (.list (SqLS.new h (n _ (.head _))) (t.sub e)) (r.den e fun q hq=>n q (.tail _ hq))
theorem Kids.upd {q:Addr}{o:HO}(m:Dm S H)(hq:S q):∀ {qs:List Addr} {ds:List PyData},q∉qs->Kids K H S qs ds->Kids K (upd H q o) S qs ds
 | _,_,_,.nil=>.nil
 | _,_,n,.cons h t n' r=>.cons (by rw [zf (fun z=>n (by rw [z];exact .head _))];exact h) (t.off m fun b u z e=>by rw [zf (fun y=>z (by rw [y];exact hq))];exact e) n' (r.upd m hq fun z=>n (.tail _ z))
theorem DeepO.same (e:Same H H')(h:DeepO K H S fp p d):DeepO K H' S fp p d:=by
 cases h with
 | tpl h t=>exact .tpl (e _ _ h) (t.same e)
 | lst h n t=>exact .lst (e _ _ h) n (t.same e)
 | dct h k v n t=>exact .dct (e _ _ h) (k.same e) v n (t.same e)
theorem DeepO.sub (e:∀ a,H a≠none->S' a->S a)(h:DeepO K H S fp p d):DeepO K H S' fp p d:=by
 cases h with
 | tpl h t=>exact .tpl h (t.sub e)
 | lst h n t=>exact .lst h n (t.sub e)
 | dct h k v n t=>exact .dct h (k.sub e) v n (t.sub e)
theorem DeepO.mut (h:DeepO K H S fp p d):∀ q∈fp,∃ o,H q=some o/\j8 o=true:=by
 cases h with
 | tpl h t=>exact t.mut
 | lst h n t=>exact fun q hq=>(List.mem_cons.mp hq).elim (fun e=>by rw [e];exact ⟨_,h,rfl⟩) (t.mut q)
 | dct h k v n t=>exact fun q hq=>(List.mem_cons.mp hq).elim (fun e=>by rw [e];exact ⟨_,h,rfl⟩) (t.mut q)
theorem DeepO.den (h:DeepO K H S fp p d)(n:∀ q∈fp,¬ S' q)(e:∀ a,H a≠none->S' a->S a):Den K H S' (.ref p) d:=by
 cases h with
 | tpl h t=>exact .tuple (.inl (.inl h)) (t.den e n)
 | lst h _ t=>exact .list (SqLS.new h (n _ (.head _))) (t.den e fun q hq=>n q (.tail _ hq))
 | dct h k v _ t=>exact .dict ⟨h,n _ (.head _)⟩ (k.sub e) (by rw [v];exact t.den e fun q hq=>n q (.tail _ hq))
theorem DeepO.upd {q:Addr}{o:HO}(m:Dm S H)(h:DeepO K H S fp p d)(hq:S q)(ne:q∉fp):DeepO K (upd H q o) S fp p d:=by
 have off:Off S H (L2.upd H q o):=fun b u n e=>by
  rw [zf (fun z=>n (by rw [z];exact hq))];exact e
 cases h with
 | tpl h t=>exact .tpl (by rw [zf (fun z=>m.tup (.inl h) (by rw [z];exact hq))];exact h) (t.upd m hq ne)
 | lst h n t=>exact .lst (by rw [zf (fun z=>ne (by rw [z];exact .head _))];exact h) n (t.upd m hq fun z=>ne (.tail _ z))
 | dct h k v n t=>exact .dct (by rw [zf (fun z=>ne (by rw [z];exact .head _))];exact h) (k.off m off) v n (t.upd m hq fun z=>ne (.tail _ z))
end
abbrev Flt (M:List Nat)(i:Nat):Prop:=i∈M/\i+1000∉M
abbrev Dp (M:List Nat)(i:Nat):Prop:=i∈M/\i+1000∈M
abbrev Out0 (M:List Nat)(i:Nat):Prop:=i∉M/\i+1000∉M/\i<1000
structure SubM (A B:List Nat):Prop where
 sub:∀ i∈A,i∈B
 dp:∀ i∈A,i+1000∈B->i+1000∈A
theorem SubM.flt {A B:List Nat}{i:Nat}(h:SubM A B)(q:Flt A i):Flt B i:=⟨h.sub i q.1,fun z=>q.2 (h.dp i q.1 z)⟩
theorem SubM.deep {A B:List Nat}{i:Nat}(h:SubM A B)(q:Dp A i):Dp B i:=⟨h.sub i q.1,h.sub _ q.2⟩
def Has (ρ:Rho)(i:Nat):Prop:=∃ d:PyData,ρ[i]?=some (some d)
structure DeepF (K:PySem.W.Frag)(G:Gm)(M:List Nat)(H:Hp)(S:Av)(σ:St)(ρ:Rho)(F:Nat->List Addr):Prop where
 own:∀ i,Dp M i->∀ d,ρ[i]?=some (some d)->∃ p,σ[i]?=some (some (.ref p))/\DeepO K H S (F i) p d/\∀ q∈F i,S q/\¬ G.S0 q/\G.H0 q=none
 disj:∀ i,Dp M i->∀ j,Dp M j->Has ρ i->Has ρ j->∀ q,q∈F i->q∈F j->i=j
 flat:∀ i,Flt M i->∀ j,Dp M j->Has ρ i->Has ρ j->∀ p,σ[i]?=some (some (.ref p))->p∉F j
structure OwnS (K:PySem.W.Frag)(G:Gm)(M L:List Nat)(H:Hp)(S:Av)(σ:St)(ρ:Rho):Prop where
 ds:DenS K H S M σ ρ
 s0:∀ a,G.S0 a->S a
 h0:Same G.H0 H
 own:∀ i,Flt M i->∀ d,ρ[i]?=some (some d)->∃ p,σ[i]?=some (some (.ref p))/\OwnO K H S p d/\S p/\¬ G.S0 p/\(i∉L->G.H0 p=none)/\(i∈L->(p,d)=G.lk i)
 apart:∀ i,Flt M i->∀ j,Flt M j->∀ d e p,ρ[i]?=some (some d)->ρ[j]?=some (some e)->σ[i]?=some (some (.ref p))->σ[j]?=some (some (.ref p))->i=j
 bnd:∀ a,S a->G.S0 a\/G.H0 a=none\/∃ i∈L,a=(G.lk i).1
 lkd:∀ i∈L,Flt M i/\ρ[i]?=some (some (G.lk i).2)
 deep:∃ F,DeepF K G M H S σ ρ F
section
variable {K:PySem.W.Frag}{G:Gm}{M M' L:List Nat}{H H':Hp}{S:Av}{σ:St}{ρ:Rho}{v:V}{d:PyData}
theorem OwnS.same (e:Same H H')(h:OwnS K G M L H S σ ρ):OwnS K G M L H' S σ ρ :=
 ⟨h.ds.same e,h.s0,h.h0.trans e,fun i hi d q=>let ⟨p,a,b,c⟩:=h.own i hi d q;⟨p,a,b.same e,c⟩,h.apart,h.bnd,h.lkd,let ⟨F,f⟩:=h.deep;⟨F,fun i hi d q=>let ⟨p,a,b,c⟩:=f.own i hi d q;⟨p,a,b.same e,c⟩,f.disj,f.flat⟩⟩
theorem OwnS.lks (h:OwnS K G M L H S σ ρ):∀ i∈L,S (G.lk i).1:=fun i hi=>by
 obtain ⟨hm,e⟩:=h.lkd i hi
 obtain ⟨p,_,_,c,_,_,w⟩:=h.own i hm _ e
 rw [← w hi];exact c
theorem OwnS.den (h:OwnS K G M L H S σ ρ):DenS K H G.S0 [] σ ρ:=by
 refine ⟨h.ds.1.sub h.s0,h.ds.2.1,fun i d _ q=>?_⟩
 by_cases hi:i∈M
 ·by_cases hk:i+1000∈M
  ·obtain ⟨F,f⟩:=h.deep
   obtain ⟨p,a,b,c⟩:=f.own i ⟨hi,hk⟩ d q
   exact ⟨_,a,b.den (fun q hq=>(c q hq).2.1) fun a _ z=>h.s0 a z⟩
  ·obtain ⟨p,a,b,c,n,_⟩:=h.own i ⟨hi,hk⟩ d q
   exact ⟨_,a,b.den n fun a _ z=>h.s0 a z⟩
 ·obtain ⟨v,a,b⟩:=h.ds.2.2 i d hi q
  exact ⟨v,a,b.sub fun a _ z=>h.s0 a z⟩
theorem qP {α:Type}{xs:List α}{i j:Nat}{x:α}(h:i≠j):(xs.set i x)[j]?=xs[j]?:=List.getElem?_set_ne h
theorem OwnS.set (h:OwnS K G M L H S σ ρ)(q:Den K H S v d){i:Nat}(hi:i∉M):OwnS K G M L H S (σ.set i (some v)) (ρ.set i (some d)):=by
 have ne:∀ j∈M,i≠j:=fun j hj e=>hi (by rw [e];exact hj)
 obtain ⟨F,f⟩:=h.deep
 refine ⟨h.ds.set q i,h.s0,h.h0,fun j hj e he=>?_,fun j hj k hk e e' p h1 h2 h3 h4=>?_,h.bnd,fun j hj=>⟨(h.lkd j hj).1,by rw [qP (ne j (h.lkd j hj).1.1)];exact (h.lkd j hj).2⟩,F,fun j hj e he=>?_,fun j hj k hk h1 h2=>?_,fun j hj k hk h1 h2 p h3=>?_⟩
 ·rw [qP (ne j hj.1)] at he ⊢
  exact h.own j hj e he
 ·rw [qP (ne j hj.1)] at h1 h3
  rw [qP (ne k hk.1)] at h2 h4
  exact h.apart j hj k hk e e' p h1 h2 h3 h4
 ·rw [qP (ne j hj.1)] at he ⊢
  exact f.own j hj e he
 ·unfold Has at h1 h2
  rw [qP (ne j hj.1)] at h1
  rw [qP (ne k hk.1)] at h2
  exact f.disj j hj k hk h1 h2
 ·unfold Has at h1 h2
  rw [qP (ne j hj.1)] at h1 h3
  rw [qP (ne k hk.1)] at h2
  exact f.flat j hj k hk h1 h2 p h3
theorem OwnS.frz (h:OwnS K G M L H S σ ρ)(hs:SubM M' M)(hl:∀ i∈L,i∈M->i∈M'):∃ S',OwnS K G M' L H S' σ ρ:=by
 obtain ⟨F,f⟩:=h.deep
 have sb:∀ a,(S a/\(¬ ∃ i,Flt M i/\i∉M'/\Has ρ i/\σ[i]?=some (some (.ref a)))/\¬ ∃ i,Dp M i/\i∉M'/\Has ρ i/\a∈F i)->S a:=fun a z=>z.1
 refine ⟨fun a=>S a/\(¬ ∃ i,Flt M i/\i∉M'/\Has ρ i/\σ[i]?=some (some (.ref a)))/\¬ ∃ i,Dp M i/\i∉M'/\Has ρ i/\a∈F i,⟨?_,?_,?_⟩,?_,h.h0,?_,?_,?_,fun i hi=>⟨⟨hl i hi (h.lkd i hi).1.1,fun z=>(h.lkd i hi).1.2 (hs.sub _ z)⟩,(h.lkd i hi).2⟩,F,?_,?_,?_⟩
 ·exact h.ds.1.sub fun a z=>z.1
 ·exact h.ds.2.1
 ·intro i d hi q
  by_cases hm:i∈M
  ·by_cases hk:i+1000∈M
   ·obtain ⟨p,a,b,c⟩:=f.own i ⟨hm,hk⟩ d q
    exact ⟨_,a,b.den (fun r hr z=>z.2.2 ⟨i,⟨hm,hk⟩,hi,⟨d,q⟩,hr⟩) fun a _ z=>z.1⟩
   ·obtain ⟨p,a,b,c,_⟩:=h.own i ⟨hm,hk⟩ d q
    exact ⟨_,a,b.den (fun z=>z.2.1 ⟨i,⟨hm,hk⟩,hi,⟨d,q⟩,a⟩) fun a _ z=>z.1⟩
  ·obtain ⟨v,a,b⟩:=h.ds.2.2 i d hm q
   exact ⟨v,a,b.sub fun a _ z=>z.1⟩
 ·intro a ha
  refine ⟨h.s0 a ha,fun ⟨i,hm,hi,⟨d,q⟩,e⟩=>?_,fun ⟨i,hm,hi,⟨d,q⟩,e⟩=>?_⟩
  ·obtain ⟨p,e',b,c,n,_⟩:=h.own i hm d q
   rw [e] at e';cases e'
   exact n ha
  ·obtain ⟨p,e',b,c⟩:=f.own i hm d q
   exact (c a e).2.1 ha
 ·intro i hi d q
  obtain ⟨p,a,b,c,n,w,w'⟩:=h.own i (hs.flt hi) d q
  refine ⟨p,a,b.sub fun a _ z=>z.1,⟨c,fun ⟨j,hj,hj',⟨e,q'⟩,a'⟩=>?_,fun ⟨j,hj,hj',q',a'⟩=>?_⟩,n,w,w'⟩
  ·have:=h.apart i (hs.flt hi) j hj d e p q q' a a'
   subst this
   exact hj' hi.1
  ·exact f.flat i (hs.flt hi) j hj ⟨d,q⟩ q' p a a'
 ·exact fun i hi j hj=>h.apart i (hs.flt hi) j (hs.flt hj)
 ·exact fun a z=>h.bnd a z.1
 ·intro i hi d q
  obtain ⟨p,a,b,c⟩:=f.own i (hs.deep hi) d q
  refine ⟨p,a,b.sub fun a _ z=>z.1,fun r hr=>⟨⟨(c r hr).1,fun ⟨j,hj,hj',q',a'⟩=>?_,fun ⟨j,hj,hj',q',a'⟩=>?_⟩,(c r hr).2⟩⟩
  ·exact f.flat j hj i (hs.deep hi) q' ⟨d,q⟩ r a' hr
  ·have:=f.disj i (hs.deep hi) j hj ⟨d,q⟩ q' r hr a'
   subst this
   exact hj' hi.1
 ·exact fun i hi j hj=>f.disj i (hs.deep hi) j (hs.deep hj)
 ·exact fun i hi j hj=>f.flat i (hs.flt hi) j (hs.deep hj)
theorem qgq {i j:Nat}(hi:Out0 M i)(hj:Flt M j):Flt (i::M) j:=⟨.tail _ hj.1,fun z=>by rcases List.mem_cons.mp z with e|z;(have:=hi.2.2;omega);exact hj.2 z⟩
theorem yx {i j:Nat}(hj:Flt (i::M) j)(ne:i≠j):Flt M j:=⟨(List.mem_cons.mp hj.1).resolve_left fun z=>ne z.symm,fun z=>hj.2 (.tail _ z)⟩
theorem qbI {i j:Nat}(hi:Out0 M i)(hj:Dp (i::M) j):Dp M j:=by
 have q:j+1000∈M:=(List.mem_cons.mp hj.2).resolve_left fun z=>by have:=hi.2.2;omega
 refine ⟨(List.mem_cons.mp hj.1).resolve_left fun z=>hi.2.1 (by rw [← z];exact q),q⟩
theorem OwnS.take (h:OwnS K G M L H S σ ρ){p:Addr}{i:Nat}(hn:H p=none)(e:Same H H')(o:OwnO K H' (insA S p) p d)(hi:Out0 M i)(hl:i∉L)(hz:i<ρ.length):OwnS K G (i::M) L H' (insA S p) (σ.set i (some (.ref p))) (ρ.set i (some d)):=by
 have np:¬ S p:=h.ds.1.free hn
 have sub:∀ a,H a≠none->insA S p a->S a:=fun a ha z=>by
  rcases z with z|rfl
  ·exact z
  ·exact absurd hn ha
 have ne:∀ j∈M,i≠j:=fun j hj e=>hi.1 (by rw [e];exact hj)
 have hz':i<σ.length:=by rw [h.ds.2.1];exact hz
 have gi:(ρ.set i (some d))[i]?=some (some d):=List.getElem?_set_self hz
 have gi':(σ.set i (some (.ref p)))[i]?=some (some (.ref p)):=List.getElem?_set_self hz'
 obtain ⟨F,f⟩:=h.deep
 refine ⟨⟨(h.ds.1.same e).ins o.mut,by rw [List.length_set,List.length_set];exact h.ds.2.1,fun j d' hj q=>?_⟩,fun a z=>.inl (h.s0 a z),h.h0.trans e,fun j hj d' q=>?_,fun j hj k hk d1 d2 q h1 h2 h3 h4=>?_,fun a z=>?_,fun j hj=>⟨qgq hi (h.lkd j hj).1,by rw [qP (fun z=>hl (by rw [z];exact hj))];exact (h.lkd j hj).2⟩,
  F,fun j hj d' q=>?_,fun j hj k hk h1 h2=>?_,fun j hj k hk h1 h2 r h3=>?_⟩
 ·have hij:i≠j:=fun z=>hj (by rw [z];exact .head _)
  rw [qP hij] at q ⊢
  obtain ⟨v,a,b⟩:=h.ds.2.2 j d' (fun z=>hj (.tail _ z)) q
  exact ⟨v,a,(b.sub sub).same e⟩
 ·by_cases hij:i=j
  ·subst hij
   rw [gi] at q;cases q
   exact ⟨p,gi',o,.inr rfl,fun z=>np (h.s0 p z),fun _=>h.h0.free hn,fun z=>absurd z hl⟩
  ·rw [qP hij] at q ⊢
   obtain ⟨q',a,b,c,n,w⟩:=h.own j (yx hj hij) d' q
   exact ⟨q',a,(b.sub sub).same e,.inl c,n,w⟩
 ·have key:∀ m,Flt M m->∀ (d':PyData) (q:Addr),(ρ.set i (some d))[m]?=some (some d')->(σ.set i (some (.ref p)))[m]?=some (some (.ref q))->q≠p:=fun m hm d' q e1 e2 z=>by
   rw [qP (ne m hm.1)] at e1 e2
   obtain ⟨q',a,b,_⟩:=h.own m hm d' e1
   rw [e2] at a;cases a
   subst z
   exact b.dom hn
  by_cases ej:i=j
  ·by_cases ek:i=k
   ·rw [← ej,← ek]
   ·rw [← ej,gi'] at h3
    cases h3
    exact absurd rfl (key k (yx hk ek) d2 p h2 h4)
  ·by_cases ek:i=k
   ·rw [← ek,gi'] at h4
    cases h4
    exact absurd rfl (key j (yx hj ej) d1 p h1 h3)
   ·rw [qP ej] at h1 h3
    rw [qP ek] at h2 h4
    exact h.apart j (yx hj ej) k (yx hk ek) d1 d2 q h1 h2 h3 h4
 ·rcases z with z|rfl
  ·exact h.bnd a z
  ·exact .inr (.inl (h.h0.free hn))
 ·have hj':=qbI hi hj
  rw [qP (ne j hj'.1)] at q ⊢
  obtain ⟨q',a,b,c⟩:=f.own j hj' d' q
  exact ⟨q',a,(b.sub sub).same e,fun r hr=>⟨.inl (c r hr).1,(c r hr).2⟩⟩
 ·have hj':=qbI hi hj
  have hk':=qbI hi hk
  unfold Has at h1 h2
  rw [qP (ne j hj'.1)] at h1
  rw [qP (ne k hk'.1)] at h2
  exact f.disj j hj' k hk' h1 h2
 ·have hk':=qbI hi hk
  unfold Has at h1 h2
  rw [qP (ne k hk'.1)] at h2
  by_cases ej:i=j
  ·rw [← ej,gi'] at h3
   cases h3
   obtain ⟨d2,e2⟩:=h2
   obtain ⟨q',a,b,c⟩:=f.own k hk' d2 e2
   intro z
   obtain ⟨o2,z2,_⟩:=b.mut p z
   rw [hn] at z2;cases z2
  ·rw [qP ej] at h1 h3
   exact f.flat j (yx hj ej) k hk' h1 h2 r h3
def insL (S:Av)(fp:List Addr):Av:=fun a=>S a\/a∈fp
theorem Dm.insL {fp:List Addr}(m:Dm S H)(h:∀ q∈fp,∃ o,H q=some o/\j8 o=true):Dm (insL S fp) H:=fun a ha=>by
 rcases ha with ha|ha
 ·exact m a ha
 ·exact h a ha
theorem OwnS.write (h:OwnS K G M L H S σ ρ){p:Addr}{i:Nat}{o:HO}{d₀:PyData}(hi:Flt M i)(hl:i∉L)(e0:ρ[i]?=some (some d₀))(e1:σ[i]?=some (some (.ref p)))(hm:j8 o=true)(ow:OwnO K (upd H p o) S p d):OwnS K G M L (upd H p o) S σ (ρ.set i (some d)):=by
 obtain ⟨p',a,b,c,n,w,_⟩:=h.own i hi d₀ e0
 rw [e1] at a;cases a
 have off:Off S H (upd H p o):=fun b u z e=>by
  rw [zf (fun y=>z (by rw [y];exact c))];exact e
 have hz:i<ρ.length:=(List.getElem?_eq_some_iff.mp e0).1
 have get:∀ m d',(ρ.set i (some d))[m]?=some (some d')->∃ d'',ρ[m]?=some (some d''):=fun m d' q=>by
  by_cases him:i=m
  ·subst him;exact ⟨_,e0⟩
  ·rw [qP him] at q;exact ⟨_,q⟩
 have get2:∀ m,Has (ρ.set i (some d)) m->Has ρ m:=fun m ⟨d',q⟩=>get m d' q
 have dne:∀ j,Dp M j->i≠j:=fun j hj z=>hi.2 (by rw [z];exact hj.2)
 obtain ⟨F,f⟩:=h.deep
 refine ⟨⟨h.ds.1.upd hm,by rw [List.length_set];exact h.ds.2.1,fun j d' hj q=>?_⟩,h.s0,fun a u q=>?_,fun j hj d' q=>?_,fun j hj k hk d1 d2 q h1 h2 h3 h4=>?_,h.bnd,fun j hj=>⟨(h.lkd j hj).1,by rw [qP (fun z=>hl (by rw [z];exact hj))];exact (h.lkd j hj).2⟩,
  F,fun j hj d' q=>?_,fun j hj k hk h1 h2=>f.disj j hj k hk (get2 j h1) (get2 k h2),fun j hj k hk h1 h2=>f.flat j hj k hk (get2 j h1) (get2 k h2)⟩
 ·have hij:i≠j:=fun z=>hj (by rw [← z];exact hi.1)
  rw [qP hij] at q
  obtain ⟨v,a,b⟩:=h.ds.2.2 j d' hj q
  exact ⟨v,a,b.off h.ds.1 off⟩
 ·have:a≠p:=fun z=>by subst z;rw [w hl] at q;cases q
  rw [zf this]
  exact h.h0 a u q
 ·by_cases hij:i=j
  ·subst hij
   rw [List.getElem?_set_self hz] at q;cases q
   exact ⟨p,e1,ow,c,n,w,fun z=>absurd z hl⟩
  ·rw [qP hij] at q
   obtain ⟨q',a,b',c',n',w'⟩:=h.own j hj d' q
   have:q'≠p:=fun z=>by subst z;exact hij (h.apart i hi j hj d₀ d' q' e0 q e1 a)
   exact ⟨q',a,b'.upd h.ds.1 c hm this,c',n',w'⟩
 ·obtain ⟨x1,y1⟩:=get j d1 h1
  obtain ⟨x2,y2⟩:=get k d2 h2
  exact h.apart j hj k hk x1 x2 q y1 y2 h3 h4
 ·rw [qP (dne j hj)] at q
  obtain ⟨q',a,b',c'⟩:=f.own j hj d' q
  exact ⟨q',a,b'.upd h.ds.1 c (f.flat i hi j hj ⟨_,e0⟩ ⟨_,q⟩ p e1),c'⟩
noncomputable def cut (P:Prop)(o:Option HO):Option HO:=@ite _ P (Classical.propDecidable P) none o
theorem yZ {P:Prop}{o:Option HO}(h:P):cut P o=none:=if_pos h
theorem Wr {P:Prop}{o:Option HO}(h:¬ P):cut P o=o:=if_neg h
noncomputable def Gm.base (G:Gm)(S:Av)(H:Hp):Gm:={ G with H0:=fun a=>cut (S a/\G.H0 a=none) (H a) }
theorem qch (h:Same G.H0 H):Same G.H0 (G.base S H).H0:=fun a o q=>(Wr (fun z=>by rw [q] at z;cases z.2)).trans (h a o q)
theorem qcZ:Off S H (G.base S H).H0:=fun a o n q=>(Wr (fun z=>n z.1)).trans q
theorem qep:Same (G.base S H).H0 H:=fun a o q=>by
 have q:cut (S a/\G.H0 a=none) (H a)=some o:=q
 by_cases h:S a/\G.H0 a=none
 ·rw [yZ h] at q;cases q
 ·rw [Wr h] at q;exact q
theorem OwnS.base (h:OwnS K G M L H S σ ρ):OwnS K (G.base S H) M L H S σ ρ:=by
 obtain ⟨F,f⟩:=h.deep
 refine ⟨h.ds,h.s0,qep,fun i hi d q=>?_,h.apart,fun a z=>?_,h.lkd,F,fun i hi d q=>let ⟨p,a,b,c⟩:=f.own i hi d q;⟨p,a,b,fun r hr=>⟨(c r hr).1,(c r hr).2.1,yZ ⟨(c r hr).1,(c r hr).2.2⟩⟩⟩,f.disj,f.flat⟩
 ·obtain ⟨p,a,b,c,n,w,w'⟩:=h.own i hi d q
  exact ⟨p,a,b,c,n,fun hl=>yZ ⟨c,w hl⟩,w'⟩
 ·rcases h.bnd a z with y|y|y
  ·exact .inl y
  ·exact .inr (.inl (yZ ⟨z,y⟩))
  ·exact .inr (.inr y)
theorem OwnS.unbase {G':Gm}(s:Same G.H0 G'.H0)(e:G'.S0=G.S0)(e':G'.lk=G.lk)(h:OwnS K G' M L H S σ ρ):OwnS K G M L H S σ ρ:=by
 obtain ⟨F,f⟩:=h.deep
 refine ⟨h.ds,by rw [← e];exact h.s0,s.trans h.h0,fun i hi d q=>?_,h.apart,fun a z=>?_,by rw [← e'];exact h.lkd,F,fun i hi d q=>let ⟨p,a,b,c⟩:=f.own i hi d q;⟨p,a,b,fun r hr=>⟨(c r hr).1,by rw [← e];exact (c r hr).2.1,s.free (c r hr).2.2⟩⟩,f.disj,f.flat⟩
 ·obtain ⟨p,a,b,c,n,w,w'⟩:=h.own i hi d q
  exact ⟨p,a,b,c,by rw [← e];exact n,fun hl=>s.free (w hl),by rw [← e'];exact w'⟩
 ·rcases h.bnd a z with y|y|y
  ·exact .inl (by rw [← e];exact y)
  ·exact .inr (.inl (s.free y))
  ·exact .inr (.inr (by rw [← e'];exact y))
theorem OwnS.turn {G':Gm}{S':Av}{x:V}(s0:∀ a,G'.S0 a->S a)(sl:∀ i∈L,S (G'.lk i).1)(h:OwnS K G' M L H S' σ ρ)(q:Den K G'.H0 S x d):Den K H S' x d:=by
 refine (q.sub fun a ha z=>?_).same h.h0
 rcases h.bnd a z with y|y|⟨i,hi,rfl⟩
 ·exact s0 a y
 ·exact absurd y ha
 ·exact sl i hi
end
end L2
namespace L2
open PySem PySem.Spec PyProof.Rows
inductive Fr where
 | pl|nw|dp
def OutQ (K:PySem.W.Frag)(G:Gm)(M' Mb L:List Nat)(fr:Fr)(D:Ends):Out->Prop
 | .nx ρ=>∀ σ' H' S',OwnS K G M' L H' S' σ' ρ->D.nx σ' H'
 | .rt d=>match fr with
  | .nw=>∀ p H',Same G.H0 H'->G.H0 p=none->¬ G.S0 p->OwnO K H' (insA G.S0 p) p d->D.rt (.ref p) H'
  | .dp=>∀ p fp H',Same G.H0 H'->(∀ q∈fp,G.H0 q=none/\¬ G.S0 q)->DeepO K H' (insL G.S0 fp) fp p d->D.rt (.ref p) H'
  | .pl=>∀ v H',Same G.H0 H'->Den K H' G.S0 v d->D.rt v H'
 | .bk ρ=>∀ σ' H' S',OwnS K G Mb L H' S' σ' ρ->D.bk σ' H'
 | .ct ρ=>∀ σ' H' S',OwnS K G Mb L H' S' σ' ρ->D.ct σ' H'
def tDS (K:PySem.W.Frag)(G:Gm)(M L M' Mb:List Nat)(fr:Fr)(f:Rho->Option Out):TS:=fun D σ H=>∃ S ρ o,OwnS K G M L H S σ ρ/\f ρ=some o/\OutQ K G M' Mb L fr D o
def PDS (X:Cx)(G:Gm)(M L M' Mb:List Nat)(fr:Fr)(s:Stmt)(f:Rho->Option Out):Prop:=PS X s (tDS X.K G M L M' Mb fr f)
def PDSs (X:Cx)(G:Gm)(M L M' Mb:List Nat)(fr:Fr)(s:List Stmt)(f:Rho->Option Out):Prop:=PSs X s (tDS X.K G M L M' Mb fr f)
def tF (K:PySem.W.Frag)(M:List Nat)(f:Rho->Option PyData):TE:=fun σ H Q=>∃ S ρ d,DenS K H S M σ ρ/\f ρ=some d/\∀ p H',Same H H'->H p=none->OwnO K H' (insA S p) p d->Q (.ref p) H'
def PF (X:Cx)(M:List Nat)(e:Expr)(f:Rho->Option PyData):Prop:=PE X e (tF X.K M f)
def wK (f:Rho->Option PyData):Rho->Option PyData:=fun ρ=>ob (f ρ) fun d=>if flat d=true then some d else none
def wL:PyData->Bool
 | .list ds=>qaw ds
 | _=>false
def qfN (f:Rho->Option PyData):Rho->Option PyData:=fun ρ=>ob (f ρ) fun d=>if wL d=true then some d else none
def seqO (u w:Rho->Option Out)(ρ:Rho):Option Out:=ob (u ρ) fun o=>match o with | .nx ρ'=>w ρ'|o=>some o
section
variable {X:Cx}{G:Gm}{M M1 M2 M' Mb L:List Nat}{fr:Fr}{a b c:Expr}{es:List Expr}{f g:Rho->Option PyData}{p:Rho->Option Bool}{pos:Pos}{s1:Stmt}{ss st1 st2:List Stmt}{u w:Rho->Option Out}
theorem Z5 (h:PF X M a f):PD X M a f:=h.weak fun σ H Q ⟨S,ρ,d,hs,e,q⟩=>⟨S,ρ,d,hs,e,fun p H' g n o=>q _ H' g (o.den (hs.1.free n) fun a _ z=>.inl z)⟩
theorem OwnO.flat {K:PySem.W.Frag}{H:Hp}{S S':Av}{p:Addr}{d:PyData}(fl:wL d=true)(h:OwnO K H S p d):OwnO K H S' p d:=by
 cases h with
 | lst h t=>exact .lst h (t.flat fl)
 | dct h k t=>cases fl
theorem zg:PDSs X G M L M Mb fr [] sN:=qfp.weak fun D σ H ⟨S,ρ,o,hs,e,q⟩=>by cases e;exact q σ H S hs
theorem qj (h1:PDS X G M L M1 Mb fr s1 u)(h2:PDSs X G M1 L M2 Mb fr ss w):PDSs X G M L M2 Mb fr (s1::ss) (seqO u w) :=
 (qdZ h1 h2).weak fun D σ H ⟨S,ρ,o,hs,e,q⟩=>by
  obtain ⟨o1,e1,e⟩:=qy e
  refine ⟨S,ρ,o1,hs,e1,?_⟩
  cases o1 with
  | nx ρ'=>exact fun σ' H' S' hs'=>⟨S',ρ',o,hs',e,q⟩
  | rt d=>cases e;exact q
  | bk d=>cases e;exact q
  | ct d=>cases e;exact q
theorem qt (h1:PDS X G M L M' Mb fr s1 u):PDSs X G M L M' Mb fr [s1] u:=qfq h1
def subB (A B:List Nat):Bool:=A.all fun i=>B.contains i&&(!(B.contains (i+1000))||A.contains (i+1000))
theorem qd9 {A B:List Nat}(h:subB A B=true):∀ i∈A,i∈B:=fun i hi=>by
 have:=List.all_eq_true.mp h i hi
 rw [Bool.and_eq_true] at this
 simpa using this.1
theorem qfF {A B:List Nat}(h:subB A B=true):SubM A B:=⟨qd9 h,fun i hi hk=>by
 have:=List.all_eq_true.mp h i hi
 rw [Bool.and_eq_true,Bool.or_eq_true] at this
 rcases this.2 with z|z
 ·rw [Bool.not_eq_true',← Bool.not_eq_true] at z
  exact absurd (by simpa using hk) z
 ·simpa using z⟩
theorem OutQ.drop {K:PySem.W.Frag}{D:Ends}{o:Out}(h1:subB M1 M'=true)(h2:subB L M1=true)(q:OutQ K G M1 Mb L fr D o):OutQ K G M' Mb L fr D o:=by
 cases o with
 | nx ρ=>exact fun σ' H' S' hs=>let ⟨S2,hs2⟩:=hs.frz (qfF h1) fun i hi _=>qd9 h2 i hi;q σ' H' S2 hs2
 | rt d=>exact q
 | bk ρ=>exact q
 | ct ρ=>exact q
theorem qfi (h:PDSs X G M L M' Mb fr ss u)(h1:subB M1 M'=true:=by decide)(h2:subB L M1=true:=by decide):PDSs X G M L M1 Mb fr ss u :=
 h.weak fun D σ H ⟨S,ρ,o,hs,e,q⟩=>⟨S,ρ,o,hs,e,q.drop h1 h2⟩
theorem qD (h:PD X [] a f):PDS X G M L M' Mb .pl (.Return (some a) pos) (sRet f) :=
 (qhk h).weak fun D σ H ⟨S,ρ,o,hs,e,q⟩=>by
  obtain ⟨d,e1,e⟩:=qy e
  cases e
  exact ⟨G.S0,ρ,d,hs.den,e1,fun v H' g1 d1=>q v H' (hs.h0.trans g1) d1⟩
theorem qha (i:Nat){x:Str}(hv:Vis X.env.scope x)(hN:X.N[i]?=some x:=by rfl)(hd:(x==("__debug__" : Str))=false:=by decide +kernel)
  (hcd:(x==("__classdict__" : Str))=false:=by decide +kernel):PE X (.Name x pos) (fun σ H Q=>∃ v,σ[i]?=some (some v)/\Q v H):=qdV hN hv hd hcd
theorem qcd {i:Nat}{ρ:Rho}{d:PyData}(e:vr i ρ=some d):ρ[i]?=some (some d):=by
 have e:(ρ[i]?).join=some d:=e
 cases h:ρ[i]? with
 | none=>rw [h] at e;cases e
 | some o=>rw [h] at e;exact congrArg some e
theorem zL (hc:PDT X [] c p)(h1:PDSs X G M L M' Mb fr st1 u)(h2:PDSs X G M L M' Mb fr st2 w):PDS X G M L M' Mb fr (.If c st1 st2 pos) (sIf p u w) :=
 (ps_if hc h1 h2).weak fun D σ H ⟨S,ρ,o,hs,e,q⟩=>by
  obtain ⟨d,e1,e⟩:=qy e
  refine ⟨G.S0,ρ,d,hs.den,e1,fun H1 g1=>?_⟩
  cases d with
  | true=>exact iteT ⟨S,ρ,o,hs.same g1,e,q⟩
  | false=>exact iteF ⟨S,ρ,o,hs.same g1,e,q⟩
def tDG (K:PySem.W.Frag)(G:Gm)(M L:List Nat)(g:PyData->Rho->Option Rho):TG:=fun v σ H Q=>∃ S ρ d ρ',OwnS K G M L H S σ ρ/\Den K H S v d/\g d ρ=some ρ'/\∀ σ' H',Same H H'->OwnS K G M L H' S σ' ρ'->Q σ' H'
def tDGs (K:PySem.W.Frag)(G:Gm)(M L:List Nat)(g:List PyData->Rho->Option Rho):TGs:=fun vs σ H Q=>∃ S ρ ds ρ',OwnS K G M L H S σ ρ/\DenL K H S vs ds/\g ds ρ=some ρ'/\∀ σ' H',Same H H'->OwnS K G M L H' S σ' ρ'->Q σ' H'
def PDG (X:Cx)(G:Gm)(M L:List Nat)(t:Expr)(g:PyData->Rho->Option Rho):Prop:=PG X t (tDG X.K G M L g)
def PDGs (X:Cx)(G:Gm)(M L:List Nat)(t:List Expr)(g:List PyData->Rho->Option Rho):Prop:=PGs X t (tDGs X.K G M L g)
theorem za (i:Nat){x:Str}(hN:X.N.Nodup)(hx:Loc X.env.scope x)(hM:i∉M)(hi:X.N[i]?=some x:=by rfl)(hf:X.fn x=true\/X.env.scope.names.lookup x=some .local:=by first|exact .inl rfl|exact .inr rfl|assumption):PDG X G M L (.Name x pos) (gNm i) :=
 (qb1 hN hi hx hf).weak fun v σ H Q ⟨S,ρ,d,ρ',hs,hd,e,q⟩=>by
  cases e
  exact q _ H (Same.refl H) (hs.set hd hM)
theorem jA:PDGs X G M L [] gsN :=
 qb2.weak fun v σ H Q ⟨S,ρ,d,ρ',hs,hd,e,q⟩=>by
  cases hd with
  | nil=>cases e;exact ⟨rfl,q _ H (Same.refl H) hs⟩
  | cons a t=>cases e
theorem zB {t:Expr}{ts:List Expr}{g1:PyData->Rho->Option Rho}{g2:List PyData->Rho->Option Rho}(h1:PDG X G M L t g1)(h2:PDGs X G M L ts g2)(hs:(assignEach (t::ts) X.env).map (·.2)=assign t X.env::(assignEach ts X.env).map (·.2):=by rfl) :
  PDGs X G M L (t::ts) (gsC g1 g2) :=
 (qaX h1 h2 hs).weak fun v σ H Q ⟨S,ρ,d,ρ',hs,hd,e,q⟩=>by
  cases hd with
  | nil=>cases e
  | cons a t =>
   obtain ⟨ρ1,e1,e⟩:=qy e
   exact ⟨_,_,rfl,S,ρ,_,ρ1,hs,a,e1,fun σ' H' g1 hs'=>⟨S,ρ1,_,ρ',hs',t.same g1,e,fun σ2 H2 g2 hs2=>q σ2 H2 (g1.trans g2) hs2⟩⟩
theorem Jq {ts:List Expr}{k:Nat}{n:Nat}{g:List PyData->Rho->Option Rho}(hc:X.calm=true)(h:PDGs X G M L ts g)(hn:(assignEach ts X.env).length=n:=by rfl)(hst:(assignEach ts X.env).findIdx? (·.1)=none:=by rfl):PDG X G M L (.Tuple ts k pos) (unpD n g) :=
 (qdW hc h hn hst).weak fun v σ H Q ⟨S,ρ,d,ρ',hs,hd,e,q⟩=>by
  cases hd with
  | @tuple a xs ds h t =>
   have e:(if ds.length=n then g ds ρ else none)=some ρ':=e
   split at e
   ·rename_i hl
    exact ⟨_,_,rfl,h,by rw [t.length];exact hl,S,ρ,_,ρ',hs,t,e,q⟩
   ·cases e
  | _=>cases e
theorem Yi {tg:Expr}{g:PyData->Rho->Option Rho}(he:PD X M a f)(hg:PDG X G M L tg g)(hs:swapsWithSole [tg] a pos.line X.env=pure false:=by rfl)(hw:swappedStores [tg] a X.env=pure none:=by rfl)
  (h1:(assignEach [tg] X.env).map (·.2)=[assign tg X.env]:=by rfl):PDS X G M L M Mb fr (.Assign [tg] a pos) (sAsg f g) :=
 (qhj he hg hs hw h1).weak fun D σ H ⟨S,ρ,o,hs,e,q⟩=>by
  obtain ⟨d,e1,e⟩:=qy e
  obtain ⟨ρ',e2,e⟩:=qy e
  cases e
  exact ⟨S,ρ,d,hs.ds,e1,fun v H1 g1 d1=>⟨S,ρ,d,ρ',hs.same g1,d1,e2,fun σ2 H2 g2 hs2=>q σ2 H2 S hs2⟩⟩
theorem zj (i:Nat){x:Str}{p':Pos}(hN:X.N.Nodup)(hx:Loc X.env.scope x)(hi:X.N[i]?=some x)(hs:swapsWith a (some (.Name x p')) pos.line X.env=pure false)(hf:X.fn x=true\/X.env.scope.names.lookup x=some .local)(hM:i∉M)(he:PD X M a f) :
  PDS X G M L M Mb fr (.Assign [.Name x p'] a pos) (sSet i f) :=
 (qbk hN hi hx he hs hf).weak fun D σ H ⟨S,ρ,o,hs,e,q⟩=>by
  obtain ⟨d,e1,e⟩:=qy e
  cases e
  exact ⟨S,ρ,d,hs.ds,e1,fun v H1 g1 d1=>q _ H1 S ((hs.same g1).set d1 hM)⟩
theorem qaU (i:Nat){x:Str}{p':Pos}(hN:X.N.Nodup)(hx:Loc X.env.scope x)(hi:X.N[i]?=some x)(hs:swapsWith a (some (.Name x p')) pos.line X.env=pure false)(hf:X.fn x=true\/X.env.scope.names.lookup x=some .local)(hM:i∉M)(he:PD X [] a f) :
  PDS X G M L M Mb fr (.Assign [.Name x p'] a pos) (sSet i (wK f)) :=
 (qbk hN hi hx he hs hf).weak fun D σ H ⟨S,ρ,o,hs,e,q⟩=>by
  obtain ⟨d,e1,e⟩:=qy e
  cases e
  obtain ⟨d',e3,e4⟩:=qy e1
  split at e4
  ·rename_i hf
   cases e4
   exact ⟨G.S0,ρ,d,hs.den,e3,fun v H1 g1 d1=>q _ H1 S ((hs.same g1).set (d1.flat hf) hM)⟩
  ·cases e4
def jC (i:Nat)(f:Rho->Option PyData):Rho->Option Out:=fun ρ=>if i<ρ.length then ob (f ρ) fun d=>some (.nx (ρ.set i (some d))) else none
theorem J7 (i:Nat){x:Str}{p':Pos}(hN:X.N.Nodup)(hx:Loc X.env.scope x)(hi:X.N[i]?=some x)(hs:swapsWith a (some (.Name x p')) pos.line X.env=pure false)(hf:X.fn x=true\/X.env.scope.names.lookup x=some .local)(hM:Out0 M i)(hL:i∉L)(he:PF X M a f) :
  PDS X G M L (i::M) Mb fr (.Assign [.Name x p'] a pos) (jC i f) :=
 (qbk hN hi hx he hs hf).weak fun D σ H ⟨S,ρ,o,hs,e,q⟩=>by
  unfold jC at e
  split at e
  ·rename_i hz
   obtain ⟨d,e1,e⟩:=qy e
   cases e
   exact ⟨S,ρ,d,hs.ds,e1,fun p H1 g1 n o=>q _ H1 _ (hs.take n g1 o hM hL hz)⟩
  ·cases e
def forD (g:PyData->Rho->Option Rho)(body:Rho->Option Out):List PyData->Rho->Option Out
 | [],ρ=>some (.nx ρ)
 | d::ds,ρ=>ob (g d ρ) fun ρ1=>ob (body ρ1) fun o=>match o with
  | .nx ρ'=>forD g body ds ρ'
  | .ct ρ'=>forD g body ds ρ'
  | .bk ρ'=>some (.nx ρ')
  | .rt r=>some (.rt r)
def sFor (fi:Rho->Option (List PyData))(g:PyData->Rho->Option Rho)(u:Rho->Option Out):Rho->Option Out:=fun ρ=>ob (fi ρ) fun ds=>forD g u ds ρ
theorem OutQ.based {K:PySem.W.Frag}{G':Gm}{D:Ends}{o:Out}(s:Same G.H0 G'.H0)(e:G'.S0=G.S0)(e':G'.lk=G.lk)(q:OutQ K G M' Mb L fr D o):OutQ K G' M' Mb L fr D o:=by
 cases o with
 | nx ρ=>exact fun σ' H' S' hs=>q σ' H' S' (hs.unbase s e e')
 | rt d =>
  cases fr with
  | nw=>exact fun p H' h0 n n' o=>q p H' (s.trans h0) (s.free n) (by rw [← e];exact n') (by rw [← e];exact o)
  | dp=>exact fun p fp H' h0 n o=>q p fp H' (s.trans h0) (fun r hr=>⟨s.free (n r hr).1,by rw [← e];exact (n r hr).2⟩) (by rw [← e];exact o)
  | pl=>exact fun v H' h0 d=>q v H' (s.trans h0) (by rw [← e];exact d)
 | bk ρ=>exact fun σ' H' S' hs=>q σ' H' S' (hs.unbase s e e')
 | ct ρ=>exact fun σ' H' S' hs=>q σ' H' S' (hs.unbase s e e')
theorem jg {tg iter:Expr}{body:List Stmt}{fi:Rho->Option (List PyData)}{g:PyData->Rho->Option Rho}(hp:PassesOwn (model X.prog X.w) X.A X.env X.xe)(hc:X.calm=true)(hi:PDI X M tg iter fi)(hg:∀ G,PDG X G M L tg g)(hb:∀ G,PDSs X G M L M M fr body u)
  (hs:∀ x,foldedSetIterable iter X.env x=pure x:=by intro _;rfl):PDS X G M L M Mb fr (.For tg iter body [] pos) (sFor fi g u):=by
 have hg':PG X tg (fun v σ H Q=>∃ G,tDG X.K G M L g v σ H Q):=fun pins s σ H v u Q I r ⟨G,q⟩=>hg G pins s σ H v u Q I r q
 have hb':PSs X body (fun D σ H=>∃ G,tDS X.K G M L M M fr u D σ H):=fun pins s σ H D I ⟨G,q⟩=>hb G pins s σ H D I q
 refine (qdY hp hc hi hg' hb' hs).weak fun D σ H ⟨S,ρ,o,os,e,q⟩=>?_
 obtain ⟨ds,e1,e⟩:=qy e
 refine ⟨S,ρ,ds,os.ds,e1,fun J H1 g1 hJ0=>?_⟩
 have os1:=os.same g1
 have hJ:IsIt X.K S J ((G.base S H1).H0) ds:=hJ0 _ qcZ
 have bs:Same G.H0 (G.base S H1).H0:=qch os1.h0
 have bo:=os1.base
 have sl:=os1.lks
 generalize hG:G.base S H1=G1 at hJ bs bo
 have eS:G1.S0=G.S0:=by rw [← hG];rfl
 have eL:G1.lk=G.lk:=by rw [← hG];rfl
 have sl1:∀ i∈L,S (G1.lk i).1:=by rw [eL];exact sl
 have s01:∀ a,G1.S0 a->S a:=by rw [eS];exact os.s0
 refine ⟨fun i m σ' H'=>m=ds.length-i/\i<=ds.length/\∃ S' ρ o,OwnS X.K G1 M L H' S' σ' ρ/\forD g u (ds.drop i) ρ=some o/\OutQ X.K G M Mb L fr D o,⟨ds.length,by simp,Nat.zero_le _,S,ρ,o,bo,e,q⟩,?_⟩
 rintro i m σ' H' ⟨rfl,hi,S',ρ',o',hs',e',q'⟩
 by_cases hlt:i<ds.length
 ·rw [List.drop_eq_getElem_cons hlt] at e'
  obtain ⟨ρ1,e2,e'⟩:=qy e'
  obtain ⟨o1,e3,e'⟩:=qy e'
  have key:∀ N:St->Hp->Prop,OutQ X.K G1 M M L fr { D with nx:=N,ct:=N,bk:=D.nx } o1->∀ x H2,J.yld i H' x H2->∃ G,tDG X.K G M L g x σ' H2 fun σ2 H2=>∃ G,tDS X.K G M L M M fr u { D with nx:=N,ct:=N,bk:=D.nx } σ2 H2:=fun N hN x H2 y=>by
   obtain ⟨e4,yd⟩:=hJ.yld i H' x H2 hs'.h0 y
   exact ⟨G1,S',ρ',_,ρ1,hs'.same e4,yd _ (List.getElem?_eq_getElem hlt) S' fun y e q=>(hs'.turn s01 sl1 q).same e4,e2,fun σ2 H3 g3 hs3=>⟨G1,S',ρ1,o1,hs3,e3,hN⟩⟩
  refine .inr ⟨hJ.go i H' hs'.h0 hlt,?_⟩
  have next:∀ ρ2,forD g u (ds.drop (i+1)) ρ2=some o'->∃ N:St->Hp->Prop,(∀ σ' H'',N σ' H''->∃ m',m'<ds.length-i/\(m'=ds.length-(i+1)/\i+1<=ds.length/\∃ S' ρ o,OwnS X.K G1 M L H'' S' σ' ρ/\forD g u (ds.drop (i+1)) ρ=some o/\OutQ X.K G M Mb L fr D o))/\∀ σ2 H2 S2,OwnS X.K G1 M L H2 S2 σ2 ρ2->N σ2 H2:=fun ρ2 e4 =>
   ⟨fun σ2 H2=>∃ S2,OwnS X.K G1 M L H2 S2 σ2 ρ2,fun σ2 H2 ⟨S2,hs3⟩=>⟨ds.length-(i+1),by omega,rfl,hlt,S2,ρ2,o',hs3,e4,q'⟩,fun σ2 H2 S2 hs3=>⟨S2,hs3⟩⟩
  cases o1 with
  | nx ρ2 =>
   obtain ⟨N,n1,n2⟩:=next ρ2 e'
   exact ⟨N,n1,key N fun σ3 H3 S3 hs3=>n2 σ3 H3 S3 hs3⟩
  | ct ρ2 =>
   obtain ⟨N,n1,n2⟩:=next ρ2 e'
   exact ⟨N,n1,key N fun σ3 H3 S3 hs3=>n2 σ3 H3 S3 hs3⟩
  | bk ρ2 =>
   cases e'
   exact ⟨fun _ _=>False,fun _ _ z=>z.elim,key _ fun σ3 H3 S3 hs3=>q' σ3 H3 S3 (hs3.unbase bs eS eL)⟩
  | rt r =>
   cases e'
   refine ⟨fun _ _=>False,fun _ _ z=>z.elim,key _ ?_⟩
   have q2:OutQ X.K G1 M Mb L fr D (.rt r):=q'.based bs eS eL
   exact q2
 ·have hi':i=ds.length:=by omega
  subst hi'
  rw [List.drop_length] at e'
  cases e'
  exact .inl ⟨hJ.stop H' hs'.h0,q' σ' H' S' (hs'.unbase bs eS eL)⟩
end
end L2
namespace L2
open PySem PySem.Spec PyProof.Rows
def outD:Out->Option PyData
 | .rt d=>some d
 | .nx _=>some .none
 | _=>none
def outF:Out->Option PyData
 | .rt d=>some d
 | _=>none
def rho0 (n:Nat)(ds:List PyData):Rho:=ds.map some++List.replicate (n-ds.length) none
def G0 (H:Hp)(S:Av):Gm:=⟨H,S,fun _=>(0,.none)⟩
theorem OwnS.start {K:PySem.W.Frag}{H:Hp}{S:Av}{vs:List V}{ds:List PyData}(m:Dm S H)(h:DenL K H S vs ds)(N:List Str):OwnS K (G0 H S) [] [] H S (start N vs) (rho0 N.length ds) :=
 ⟨DenS.start m h N,fun _ z=>z,Same.refl _,(fun _ h=>nomatch h.1),(fun _ h=>nomatch h.1),fun _ z=>.inl z,(fun _ h=>nomatch h),fun _=>[],(fun _ h=>nomatch h.1),(fun _ h=>nomatch h.1),(fun _ h=>nomatch h.1)⟩
def spN (K:PySem.W.Frag)(n:Nat)(f:List PyData->Option PyData):Sp:=fun vs H Q _=>∃ S ds d,Dm S H/\DenL K H S vs ds/\ds.length=n/\f ds=some d/\∀ p H',Same H H'->H p=none->OwnO K H' (insA S p) p d->Q (.ref p) H'
structure FunG (K:PySem.W.Frag)(x qual:Str)(st:Stmt)(f:Addr)(fd:FuncData):Prop where
 ex:∃ (oc dV:Value) (od:Option Addr) (kV doc pm:Value) (an:Option Addr) (cdv ct:Value) (osl:Array (Option Value)),
  fd=PySem.W.fnOf x qual (Za st) (zZ st) (qi st) dV kV doc pm an cdv ct/\K.lookup f=some ⟨oc,od,.func fd,osl⟩/\PySem.W.codeIn K cdv qual=true
 kp:PySem.W.keepIn K (.ref f)=true
theorem Fun.g {K:PySem.W.Frag}{x qual:Str}{st:Stmt}{f:Addr}{fd:FuncData}(F:Fun K x qual st f fd):FunG K x qual st f fd:=by
 obtain ⟨oc,od,kV,doc,pm,an,cdv,ct,osl,e,lk,hcd⟩:=F.ex
 exact ⟨⟨oc,_,od,kV,doc,pm,an,cdv,ct,osl,e,lk,hcd⟩,F.kp⟩
theorem qeP {K:PySem.W.Frag}{x qual:Str}{st:Stmt}{f:Addr}{oc:Value}{od an:Option Addr}{osl:Array (Option Value)}{dV kV doc pm cdv ct:Value}(l:K.lookup f=some ⟨oc,od,.func (PySem.W.fnOf x qual (Za st) (zZ st) (qi st) dV kV doc pm an cdv ct),osl⟩)
  (c:PySem.W.codeIn K cdv qual=true) (k:PySem.W.keepIn K (.ref f)=true):FunG K x qual st f (PySem.W.fnOf x qual (Za st) (zZ st) (qi st) dV kV doc pm an cdv ct):=⟨⟨oc,dV,od,kV,doc,pm,an,cdv,ct,osl,rfl,l,c⟩,k⟩
section
variable {P:Program}{w:World}{K:PySem.W.Frag}{mg:Str->Option Value}{base:Heap}
theorem FunG.ok {x qual:Str}{st:Stmt}{f:Addr}{fd:FuncData}{N ps:List Str}{k:Nat}{sp:Sp}(F:FunG K x qual st f fd)(S:FnScope N ps (qi st))(len:∀ vs H Q E,sp vs H Q E->vs.length=ps.length)
  (hbody:∀ (cdv:Value) (A:Around) (outer:List Env) (s:Shared) (H:Hp) (vs:List V) (Q:VK) (E:XK),Room k (A.deeper (envOfC qual (qi st) s.heap.objs.size f cdv))->sp vs H Q E->
   ∃ t,PSs (cxOf CX0 P w K mg base N qual (qi st) f cdv A outer s H E).nox (zZ st) t/\t { nx:=fun _ H'=>Q .non H',rt:=Q } (start N vs) H):FnOk P w K mg base CX0 (k+1) f fd ps sp:=by
 obtain ⟨oc,dV,od,kV,doc,pm,an,cdv,ct,osl,rfl,lk,hcd⟩:=F.ex
 refine qfO lk hcd S len fun A outer s H vs Q E hr hsp=>?_
 obtain ⟨t,h,q⟩:=hbody cdv A outer s H vs Q E hr hsp
 exact ⟨t,h.nox,q⟩
theorem FunG.pure {x qual:Str}{st:Stmt}{f:Addr}{fd:FuncData}{N ps:List Str}{k n:Nat}{u:Rho->Option Out}{M':List Nat}(F:FunG K x qual st f fd)(S:FnScope N ps (qi st))(hn:ps.length=n)
  (hbody:∀ (cdv:Value) (A:Around) (outer:List Env) (s:Shared) (H:Hp) (E:XK),Room k (A.deeper (envOfC qual (qi st) s.heap.objs.size f cdv))->∀ G:Gm,
   PDSs (cxOf CX0 P w K mg base N qual (qi st) f cdv A outer s H E).nox G [] [] M' [] .pl (zZ st) u) :
  FnOk P w K mg base CX0 (k+1) f fd ps (spF K n fun ds=>ob (u (rho0 N.length ds)) outD):=by
 refine F.ok S (fun vs H Q E h=>?_) (fun cdv A outer s H vs Q E hr h=>?_)
 ·obtain ⟨_,ds,d,_,h1,h2,_⟩:=h
  rw [h1.length,h2,hn]
 ·obtain ⟨Sv,ds,d,m,h1,h2,e,q⟩:=h
  obtain ⟨o,e1,e⟩:=qy e
  refine ⟨_,hbody cdv A outer s H E hr (G0 H Sv),Sv,rho0 N.length ds,o,OwnS.start m h1 N,e1,?_⟩
  cases o with
  | rt r=>cases e;exact q
  | nx ρ=>cases e;exact fun σ' H' S' hs=>q _ H' hs.h0 .none
  | bk ρ=>cases e
  | ct ρ=>cases e
theorem Fun.pure {x qual:Str}{st:Stmt}{f:Addr}{fd:FuncData}{N ps:List Str}{k n:Nat}{u:Rho->Option Out}{M':List Nat}(F:Fun K x qual st f fd)(S:FnScope N ps (qi st))(hn:ps.length=n)
  (hbody:∀ (cdv:Value) (A:Around) (outer:List Env) (s:Shared) (H:Hp) (E:XK),Room k (A.deeper (envOfC qual (qi st) s.heap.objs.size f cdv))->∀ G:Gm,
   PDSs (cxOf CX0 P w K mg base N qual (qi st) f cdv A outer s H E).nox G [] [] M' [] .pl (zZ st) u) :
  FnOk P w K mg base CX0 (k+1) f fd ps (spF K n fun ds=>ob (u (rho0 N.length ds)) outD) :=
 F.g.pure S hn hbody
theorem FunG.new {x qual:Str}{st:Stmt}{f:Addr}{fd:FuncData}{N ps:List Str}{k n:Nat}{u:Rho->Option Out}{M':List Nat}(F:FunG K x qual st f fd)(S:FnScope N ps (qi st))(hn:ps.length=n)
  (hbody:∀ (cdv:Value) (A:Around) (outer:List Env) (s:Shared) (H:Hp) (E:XK),Room k (A.deeper (envOfC qual (qi st) s.heap.objs.size f cdv))->∀ G:Gm,
   PDSs (cxOf CX0 P w K mg base N qual (qi st) f cdv A outer s H E).nox G [] [] M' [] .nw (zZ st) u) :
  FnOk P w K mg base CX0 (k+1) f fd ps (spN K n fun ds=>ob (u (rho0 N.length ds)) outF):=by
 refine F.ok S (fun vs H Q E h=>?_) (fun cdv A outer s H vs Q E hr h=>?_)
 ·obtain ⟨_,ds,d,_,h1,h2,_⟩:=h
  rw [h1.length,h2,hn]
 ·obtain ⟨Sv,ds,d,m,h1,h2,e,q⟩:=h
  obtain ⟨o,e1,e⟩:=qy e
  refine ⟨_,hbody cdv A outer s H E hr (G0 H Sv),Sv,rho0 N.length ds,o,OwnS.start m h1 N,e1,?_⟩
  cases o with
  | rt r=>cases e;exact fun p H' g n _ o=>q p H' g n o
  | nx ρ=>cases e
  | bk ρ=>cases e
  | ct ρ=>cases e
theorem Fun.new {x qual:Str}{st:Stmt}{f:Addr}{fd:FuncData}{N ps:List Str}{k n:Nat}{u:Rho->Option Out}{M':List Nat}(F:Fun K x qual st f fd)(S:FnScope N ps (qi st))(hn:ps.length=n)
  (hbody:∀ (cdv:Value) (A:Around) (outer:List Env) (s:Shared) (H:Hp) (E:XK),Room k (A.deeper (envOfC qual (qi st) s.heap.objs.size f cdv))->∀ G:Gm,
   PDSs (cxOf CX0 P w K mg base N qual (qi st) f cdv A outer s H E).nox G [] [] M' [] .nw (zZ st) u) :
  FnOk P w K mg base CX0 (k+1) f fd ps (spN K n fun ds=>ob (u (rho0 N.length ds)) outF) :=
 F.g.new S hn hbody
structure Known (P:Program)(w:World)(K:PySem.W.Frag)(mg:Str->Option Value)(base:Heap)(x:Str)(n k:Nat)(h:List PyData->Option PyData):Prop where
 ex:∃ (f:Addr) (fd:FuncData) (ps:List Str),FnOk P w K mg base CX0 k f fd ps (spF K n h)/\mg x=some (.ref f)/\PySem.W.keepIn K (.ref f)=true/\Binds K fd ps []
structure KnownN (P:Program)(w:World)(K:PySem.W.Frag)(mg:Str->Option Value)(base:Heap)(x:Str)(n k:Nat)(h:List PyData->Option PyData):Prop where
 ex:∃ (f:Addr) (fd:FuncData) (ps:List Str),FnOk P w K mg base CX0 k f fd ps (spN K n h)/\mg x=some (.ref f)/\PySem.W.keepIn K (.ref f)=true/\Binds K fd ps []
theorem KnownN.known {x:Str}{n k:Nat}{h:List PyData->Option PyData}(F:KnownN P w K mg base x n k h):Known P w K mg base x n k h:=by
 obtain ⟨f,fd,ps,F,m,kp,b⟩:=F.ex
 exact ⟨f,fd,ps,F.imp fun vs H Q E ⟨S,ds,d,m,h1,h2,e,q⟩=>⟨S,ds,d,m,h1,h2,e,fun p H' g n o=>q _ H' g (o.den (m.free n) fun a _ z=>.inl z)⟩,m,kp,b⟩
end
section
variable {X:Cx}{G:Gm}{M M' Mb L:List Nat}{fr:Fr}{a b c:Expr}{es:List Expr}{f g:Rho->Option PyData}{p:Rho->Option Bool}{pos:Pos}{u:Rho->Option Out}
theorem qp {x:Str}{p:Pos}{n k k':Nat}{h:List PyData->Option PyData}{fs:Rho->Option (List PyData)}(F:Known X.prog X.w X.K X.mg X.base x n k h)(hr:Room k' X.A)(hk:k<=k')(hg:Gl X x)(ha:PDA X M (a::es) fs)(hl:(a::es).length=n)
  (hdb:(x==("__debug__" : Str))=false:=by decide +kernel) (he:starEach (a::es) X.env=(false,eval a X.env)::starEach es X.env:=by rfl) (hpl:(backTo pos (starEach es X.env)).any (·.1)=false:=by rfl) :
  PD X M (.Call (.Name x p) (a::es) [] pos) (evC n fs h):=by
 obtain ⟨f,fd,ps,F,m,kp,b⟩:=F.ex
 exact qff F (hr.mono hk) hg m kp b qdL ha hl hdb he hpl
theorem ZV {x:Str}{p:Pos}{k k':Nat}{h:List PyData->Option PyData}(F:Known X.prog X.w X.K X.mg X.base x 0 k h)(hr:Room k' X.A)(hk:k<=k')(hg:Gl X x)(hdb:(x==("__debug__" : Str))=false:=by decide +kernel):PD X M (.Call (.Name x p) [] [] pos) (evC0 h):=by
 obtain ⟨f,fd,ps,F,m,kp,b⟩:=F.ex
 exact qdM F (hr.mono hk) hg m kp b qdL hdb
theorem OwnO.laid {K:PySem.W.Frag}{H:Hp}{S:Av}{p:Addr}{vs:List V}{ds:List PyData}(n:H p=none)(t:DenL K H S vs ds):OwnO K (L2.upd H p (.lst vs)) (insA S p) p (.list ds) :=
 .lst zW ((t.sub fun a ha z=>z.elim id fun y=>absurd (by rw [y];exact n) ha).same (Same.lay n))
theorem W8 {fs:Rho->Option (List PyData)}(h:PDA X M es fs):PF X M (.List es pos) (evA fs lstD) :=
 (qdU h).weak fun σ H Q ⟨S,ρ,d,hs,e,q⟩=>by
  obtain ⟨xs,e1,e⟩:=qy e
  obtain ⟨hz,rfl⟩:=wZ e
  exact ⟨S,ρ,xs,hs,e1,fun vs H1 g1 d1=>⟨Nat.le_of_lt (QL (by rw [d1.length];exact hz)),fun p hp=>q _ _ (g1.lay' hp) (g1.free hp) (OwnO.laid hp d1)⟩⟩
def qfK (X:Cx)(f:Value)(g:List PyData->Option PyData):Prop:=jx X f (fun vs H Q=>∃ S ds d,Dm S H/\DenL X.K H S vs ds/\g ds=some d/\∀ p H',Same H H'->H p=none->OwnO X.K H' (insA S p) p d->Q (.ref p) H')
theorem Z6 {id:String}{x:Str}{p:Pos}{h:List PyData->Option PyData}{fs:Rho->Option (List PyData)}(hc:qfK X (.builtin id) h)(hg:Gl X x)(hm:X.mg x=none)(hv:bootBuiltins x=some (.builtin id))(ha:PDA X M (a::es) fs)(hn:x ≠ "__name__" := by decide +kernel)(hdb:(x==("__debug__" : Str))=false:=by decide +kernel)
  (he:starEach (a::es) X.env=(false,eval a X.env)::starEach es X.env:=by rfl) (hpl:(backTo pos (starEach es X.env)).any (·.1)=false:=by rfl):PF X M (.Call (.Name x p) (a::es) [] pos) (evA fs h) :=
 (YZ hc hg hm hv ha hn hdb he hpl).weak fun σ H Q ⟨S,ρ,d,hs,e,q⟩=>by
  obtain ⟨ds,e1,e⟩:=qy e
  exact ⟨S,ρ,ds,hs,e1,fun vs H1 g1 d1=>⟨S,ds,d,hs.1.same g1,d1,e,fun p H' g2 n o=>q p H' (g1.trans g2) (g1.free n) o⟩⟩
def appD:PyData->PyData->Option PyData
 | .list ds,d=>if ds.length<1000 then some (.list (ds++[d])) else none
 | _,_=>none
def sApp (i:Nat)(f:Rho->Option PyData):Rho->Option Out:=fun ρ=>ob (vr i ρ) fun l=>ob (f ρ) fun d=>ob (appD l d) fun l'=>some (.nx (ρ.set i (some l')))
theorem qcg {l d l':PyData}(e:appD l d=some l'):∃ ds,l=.list ds/\ds.length<1000/\l'=.list (ds++[d]):=by
 unfold appD at e
 split at e
 ·split at e
  ·rename_i hz;cases e;exact ⟨_,rfl,hz,rfl⟩
  ·cases e
 ·cases e
theorem Off.upd {S:Av}{H:Hp}{p:Addr}{o:HO}(c:S p):Off S H (L2.upd H p o):=fun b u z e=>by
 rw [zf (fun y=>z (by rw [y];exact c))];exact e
theorem Yh (i:Nat){x:Str}{px apos cpos:Pos}(hv:Vis X.env.scope x)(hM:Flt M i)(hL:i∉L)(he:PD X M a f)(hN:X.N[i]?=some x:=by rfl)(hd:(x==("__debug__" : Str))=false:=by decide +kernel)(hcd:(x==("__classdict__" : Str))=false:=by decide +kernel)
  (hbase:attributeBase (.Name x px) "append" X.env (eval (.Name x px) X.env)=eval (.Name x px) X.env:=by rfl)
  (hfew:((backTo cpos (starEach [a] X.env)).all (fun x=>!x.1)&&(backToKw cpos (keywordEach [] X.env)).all (fun x=>x.1.isSome)
   && decide ([a].length+([]:List Keyword).length+(if ([]:List Keyword).isEmpty then 0 else 1)<30))=true:=by rfl)
  (hline:(apos.endLine==cpos.line)=true:=by rfl) (hs:starEach [a] X.env=(false,eval a X.env)::starEach [] X.env:=by rfl) (hplain:(backTo cpos (starEach [] X.env)).any (·.1)=false:=by rfl)
  (hsw:swapsWith (.Call (.Attribute (.Name x px) "append" apos) [a] [] cpos) none pos.line X.env=pure false:=by rfl) :
  PDS X G M L M Mb fr (.Expr (.Call (.Attribute (.Name x px) "append" apos) [a] [] cpos) pos) (sApp i f) :=
 (qfo (pe_bm PySem.F.plainAttrs_list PySem.F.slot_list_append PySem.F.type_list_append qcC (qha i hv hN hd hcd) (qb he qg hs) hbase hfew hline hs hplain) hsw).weak fun D σ H ⟨S,ρ,o,os,e,q⟩=>by
  obtain ⟨l,e1,e⟩:=qy e
  obtain ⟨d,e2,e⟩:=qy e
  obtain ⟨l',e3,e⟩:=qy e
  cases e
  obtain ⟨ds,rfl,hz,rfl⟩:=qcg e3
  obtain ⟨pp,a1,b1,c1,n1,w1,_⟩:=os.own i hM _ (qcd e1)
  cases b1 with
  | @lst xs _ h t =>
   refine ⟨_,a1,.inl ⟨rfl,_,SqL.of h⟩,S,ρ,[d],os.ds,by show ob (f ρ) _=_;rw [e2];rfl,fun vs H2 g2 dl=>?_⟩
   obtain ⟨v,rfl,dv⟩:=dl.inv1
   have os2:=os.same g2
   refine ⟨pp,xs,v,rfl,rfl,g2 _ _ h,Nat.lt_of_lt_of_le (by rw [t.length];exact hz) (Nat.le_of_lt (QL (Nat.le_refl _))),?_⟩
   exact q _ _ _ (os2.write hM hL (qcd e1) a1 rfl (.lst zW (((t.same g2).snoc dv).off os2.ds.1 (Off.upd c1))))
def sClr (i:Nat):Rho->Option Out:=fun ρ=>ob (vr i ρ) fun l=>match l with | .list _=>some (.nx (ρ.set i (some (.list []))))|_=>none
def isNone:PyData->Bool
 | .none=>true
 | _=>false
def isD:PyData->PyData->Option PyData
 | x,.none=>some (.bool (isNone x))
 | .bool b,.bool c=>some (.bool (b==c))
 | _,_=>none
def isnD:PyData->PyData->Option PyData
 | x,.none=>some (.bool (!isNone x))
 | .bool b,.bool c=>some (.bool (!(b==c)))
 | _,_=>none
theorem qbb {K:PySem.W.Frag}{H:Hp}{S:Av}{v:V}{d:PyData}(h:Den K H S v d):decide (v=.non)=isNone d:=by cases h<;>rfl
theorem d_is:OpD X (compareOp .Is) isD:=by
 intro pins s σ H x y v u Q I rx ry ⟨S,dx,dy,d,m,h1,h2,e,q⟩
 unfold isD at e
 split at e
 ·cases e;cases h2
  exact qgX pins s σ H x _ v u Q I rx ry ⟨rfl,by rw [qbb h1];exact q _ H (Same.refl H) (.bool _)⟩
 ·cases e;cases h1;cases h2
  cases (show v=Value.bool _ from rx);cases (show u=Value.bool _ from ry)
  exact is_bool (jL I (q _ H (Same.refl H) (.bool _)) rfl)
 ·cases e
end
end L2
namespace L2
open PySem PySem.Spec PyProof.Rows
section
variable {X:Cx}{G:Gm}{M M' Mb L:List Nat}{fr:Fr}{a b c:Expr}{es:List Expr}{f g:Rho->Option PyData}{p:Rho->Option Bool}{pos:Pos}{u:Rho->Option Out}
def intD:PyData->Option Int
 | .int i=>some i
 | _=>none
def oN:Rho->Option (Option Int):=fun _=>some none
def oS (f:Rho->Option PyData):Rho->Option (Option Int):=fun ρ=>ob (f ρ) fun d=>ob (intD d) fun i=>some (some i)
def cutD (ds:List PyData)(lo hi:Option Int):List PyData:=(ds.drop (HT.sIx ds.length 0 lo)).take (HT.sIx ds.length ds.length hi-HT.sIx ds.length 0 lo)
def sliD (x:PyData)(lo hi:Option Int):Option PyData:=match x with
 | .list ds=>some (.list (cutD ds lo hi))
 | .tuple ds=>if HT.sIx ds.length 0 lo=0/\HT.sIx ds.length ds.length hi=ds.length then none else some (.tuple (cutD ds lo hi))
 | _=>none
def evS (fa:Rho->Option PyData)(fl fh:Rho->Option (Option Int)):Rho->Option PyData:=fun ρ=>ob (fa ρ) fun x=>ob (fl ρ) fun l=>ob (fh ρ) fun h=>sliD x l h
def qbv (x y:PyData):Option PyData:=match x,y with
 | .int i,.int j=>some (.int (i+j))
 | .tuple ds,.tuple es=>if ds.length+es.length<=1000 then some (.tuple (ds++es)) else none
 | _,_=>none
theorem qc7 {prog:Program}{w:World}{A:Around}{E:Value->Shared->Prop}{s:Shared}{t b:Addr}{vs ws:List Value}{Q:Value->Shared->Prop}(ht:IsTup s.heap t vs.toArray)(hb:IsTup s.heap b ws.toArray)(hv:vs=[])(h:Q (.ref b) s) :
  wpAny (model prog w) A (binaryOp .Add (.ref t) (.ref b)) Q E s:=by
 obtain ⟨⟨cls,dd,data,sl⟩,ho,hc,n,hd⟩:=id ht
 obtain ⟨⟨cls2,dd2,data2,sl2⟩,ho2,hc2,n2,hd2⟩:=id hb
 simp only at hc hd hc2 hd2
 subst hc hd hc2 hd2
 exact concat_meets ⟨_,ho,rfl⟩ ⟨_,ho2,rfl⟩ noFill_tuple_add seq_tuple_add PySem.F.slot_tuple_add PySem.F.entry_tuple_add (PySem.F.args_tuple_add_2 _ _) (tuple_addW0 t b vs.toArray ws.toArray n n2 dd dd2 sl sl2 (by simp [hv])) ⟨ho,ho2,h⟩
theorem qe9:OpR X (binaryOp .Add) (fun x y H Q=>∃ a b ys,x=.ref a/\y=.ref b/\SqT X.K H a []/\SqT X.K H b ys/\Q (.ref b) H):=by
 intro pins s σ H x y v u Q I rx ry h
 obtain ⟨a,b,ys,rfl,rfl,ha,hb,q⟩:=h
 cases rx
 cases ry
 obtain ⟨its,r1,p1,_⟩:=I.tuple ha
 obtain ⟨its2,r2,p2,_⟩:=I.tuple hb
 exact qc7 p1 p2 (r1.nil_iff.mpr rfl) ⟨.ref b,H,I,rfl,q⟩
theorem qdc:OpD X (binaryOp .Add) qbv:=by
 refine yC (r:=fun x y H Q=>rI0 (fun i j=>.int (i+j)) x y H Q\/(qfV X.K x y H Q\/(∃ a b ys,x=.ref a/\y=.ref b/\SqT X.K H a []/\SqT X.K H b ys/\Q (.ref b) H))) (qgV.or (qfb.or qe9)) fun x y dx dy d H S Q m h1 h2 e q=>?_
 unfold qbv at e
 split at e
 ·cases e;cases h1;cases h2
  exact .inl ⟨_,_,rfl,rfl,q _ H (Same.refl H) (.int _)⟩
 ·split at e
  ·rename_i ds es hc
   cases e
   cases h1 with
   | tuple a1 t1 =>
    cases h2 with
    | tuple a2 t2 =>
     cases ds with
     | nil =>
      cases t1
      exact .inr (.inr ⟨_,_,_,rfl,rfl,a1,a2,q _ H (Same.refl H) (.tuple a2 t2)⟩)
     | cons d0 ds =>
      refine .inr (.inl ⟨_,_,_,_,rfl,rfl,a1,a2,fun z=>?_,?_,fun z=>?_,fun z p hp=>q _ _ (Same.lay hp) (.tuple (SqT.of zW) ((t1.append t2).same (Same.lay hp)))⟩)
      ·subst z;cases t1
      ·rw [t1.length,t2.length]
       exact Nat.le_of_lt (QL hc)
      ·subst z;cases t2
       rw [List.append_nil] at q
       exact q _ H (Same.refl H) (.tuple a1 t1)
  ·cases e
 ·cases e
end
end L2
namespace L2
open PySem PySem.Spec PyProof.Rows
section
variable {X:Cx}{G:Gm}{M M1 M' Mb L:List Nat}{fr:Fr}{a b c:Expr}{es:List Expr}{f g:Rho->Option PyData}{p:Rho->Option Bool}{pos:Pos}{u:Rho->Option Out}{ss:List Stmt}{s1:Stmt}
def PDR (X:Cx)(tg iter:Expr)(f:Rho->Option (List PyData)):Prop:=PI X tg iter (fun σ H R=>∃ S ρ ds,DenS X.K H S [] σ ρ/\f ρ=some ds/\∀ J H',Same H H'->(∀ H2 S2,IsIt X.K S2 J H2 ds)->R J H')
theorem JM {tg:Expr}{fs:Rho->Option (List PyData)}{p:Pos}(hg:Gl X "range")(hm:X.mg "range" = none)(ha:PDA X [] [a] fs)(hs:starEach [a] X.env=[(false,eval a X.env)]:=by rfl):PDR X tg (.Call (.Name "range" p) [a] [] pos) (evR fs Z8) :=
 (Wc hg hm ha hs).weak fun σ H R ⟨S,ρ,ds,hs,e,w⟩=>by
  obtain ⟨xs,e1,e⟩:=qy e
  refine ⟨S,ρ,xs,hs,e1,fun vs H1 g1 d1=>?_⟩
  unfold Z8 at e
  split at e
  ·rename_i j
   split at e
   ·rename_i hj
    cases e
    obtain ⟨v,rfl,q⟩:=d1.inv1
    cases q
    exact ⟨j,rfl,by omega,by omega,w _ _ g1 fun _ _=>IsIt.rng 0 _⟩
   ·cases e
  ·cases e
theorem YX {tg iter:Expr}{body:List Stmt}{fi:Rho->Option (List PyData)}{g:PyData->Rho->Option Rho}(hp:PassesOwn (model X.prog X.w) X.A X.env X.xe)(hc:X.calm=true)(hi:PDR X tg iter fi)(hg:PDG X G M L tg g)(hb:PDSs X G M L M M fr body u)
  (hs:∀ x,foldedSetIterable iter X.env x=pure x:=by intro _;rfl):PDS X G M L M Mb fr (.For tg iter body [] pos) (sFor fi g u):=by
 refine (qdY hp hc hi hg hb hs).weak fun D σ H ⟨S,ρ,o,os,e,q⟩=>?_
 obtain ⟨ds,e1,e⟩:=qy e
 refine ⟨G.S0,ρ,ds,os.den,e1,fun J H1 g1 hJ=>?_⟩
 refine ⟨fun i m σ' H'=>m=ds.length-i/\i<=ds.length/\∃ S' ρ o,OwnS X.K G M L H' S' σ' ρ/\forD g u (ds.drop i) ρ=some o/\OutQ X.K G M Mb L fr D o,⟨ds.length,by simp,Nat.zero_le _,S,ρ,o,os.same g1,e,q⟩,?_⟩
 rintro i m σ' H' ⟨rfl,hi,S',ρ',o',hs',e',q'⟩
 by_cases hlt:i<ds.length
 ·rw [List.drop_eq_getElem_cons hlt] at e'
  obtain ⟨ρ1,e2,e'⟩:=qy e'
  obtain ⟨o1,e3,e'⟩:=qy e'
  have key:∀ N:St->Hp->Prop,OutQ X.K G M M L fr { D with nx:=N,ct:=N,bk:=D.nx } o1->∀ x H2,J.yld i H' x H2->tDG X.K G M L g x σ' H2 fun σ2 H2=>tDS X.K G M L M M fr u { D with nx:=N,ct:=N,bk:=D.nx } σ2 H2:=fun N hN x H2 y=>by
   obtain ⟨e4,yd⟩:=(hJ H' S').yld i H' x H2 (Same.refl _) y
   exact ⟨S',ρ',_,ρ1,hs'.same e4,yd _ (List.getElem?_eq_getElem hlt) S' fun y e q=>q.same e4,e2,fun σ2 H3 g3 hs3=>⟨S',ρ1,o1,hs3,e3,hN⟩⟩
  refine .inr ⟨(hJ H' S').go i H' (Same.refl _) hlt,?_⟩
  have next:∀ ρ2,forD g u (ds.drop (i+1)) ρ2=some o'->∃ N:St->Hp->Prop,(∀ σ' H'',N σ' H''->∃ m',m'<ds.length-i/\(m'=ds.length-(i+1)/\i+1<=ds.length/\∃ S' ρ o,OwnS X.K G M L H'' S' σ' ρ/\forD g u (ds.drop (i+1)) ρ=some o/\OutQ X.K G M Mb L fr D o))/\∀ σ2 H2 S2,OwnS X.K G M L H2 S2 σ2 ρ2->N σ2 H2:=fun ρ2 e4 =>
   ⟨fun σ2 H2=>∃ S2,OwnS X.K G M L H2 S2 σ2 ρ2,fun σ2 H2 ⟨S2,hs3⟩=>⟨ds.length-(i+1),by omega,rfl,hlt,S2,ρ2,o',hs3,e4,q'⟩,fun σ2 H2 S2 hs3=>⟨S2,hs3⟩⟩
  cases o1 with
  | nx ρ2 =>
   obtain ⟨N,n1,n2⟩:=next ρ2 e'
   exact ⟨N,n1,key N fun σ3 H3 S3 hs3=>n2 σ3 H3 S3 hs3⟩
  | ct ρ2 =>
   obtain ⟨N,n1,n2⟩:=next ρ2 e'
   exact ⟨N,n1,key N fun σ3 H3 S3 hs3=>n2 σ3 H3 S3 hs3⟩
  | bk ρ2 =>
   cases e'
   exact ⟨fun _ _=>False,fun _ _ z=>z.elim,key _ fun σ3 H3 S3 hs3=>q' σ3 H3 S3 hs3⟩
  | rt r =>
   cases e'
   have q2:OutQ X.K G M Mb L fr D (.rt r):=q'
   exact ⟨fun _ _=>False,fun _ _ z=>z.elim,key _ q2⟩
 ·have hi':i=ds.length:=by omega
  subst hi'
  rw [List.drop_length] at e'
  cases e'
  exact .inl ⟨(hJ H' S').stop H' (Same.refl _),q' σ' H' S' hs'⟩
theorem qdQ (M1:List Nat)(h:PDSs X G M L M' Mb fr ss u)(h1:subB M1 M'=true)(h2:subB L M1=true):PDSs X G M L M1 Mb fr ss u:=qfi h h1 h2
end
end L2
namespace L2
open PySem PySem.Spec PyProof.Rows
def intsOf:List PyData->Option (List Int)
 | []=>some []
 | .int i::r=>ob (intsOf r) fun ns=>some (i::ns)
 | _::_=>none
def boolsOf:List PyData->Option (List Bool)
 | []=>some []
 | .bool i::r=>ob (boolsOf r) fun ns=>some (i::ns)
 | _::_=>none
theorem JZ:∀ {ds:List PyData} {ns:List Bool},boolsOf ds=some ns->ds=ns.map .bool
 | [],_,h=>by cases h;rfl
 | .bool i::r,ns,h=>by
  obtain ⟨ms,e1,e2⟩:=qy h
  cases e2
  rw [JZ e1]
  rfl
 | .none::_,_,h=>by cases h
 | .int _::_,_,h=>by cases h
 | .str _::_,_,h=>by cases h
 | .list _::_,_,h=>by cases h
 | .tuple _::_,_,h=>by cases h
 | .dict _::_,_,h=>by cases h
def inOk (ds:List PyData)(x:PyData):Bool:=PyData.canLayAll0 ds&&(x.canLay0&&decide (x.depth<=63))
def inL (ds:List PyData)(x:PyData):Bool:=ds.any fun y=>PyData.eqv y x
def inD (x y:PyData):Option PyData:=match y with
 | .list ds=>if inOk ds x=true then some (.bool (inL ds x)) else none
 | .tuple ds=>if inOk ds x=true then some (.bool (inL ds x)) else none
 | _=>none
def ninD (x y:PyData):Option PyData:=match y with
 | .list ds=>if inOk ds x=true then some (.bool (!inL ds x)) else none
 | .tuple ds=>if inOk ds x=true then some (.bool (!inL ds x)) else none
 | _=>none
def allD:List PyData->Option PyData
 | [.list ds]=>ob (boolsOf ds) fun bs=>some (.bool (bs.all id))
 | _=>none
section
variable {X:Cx}
theorem jM {ds:List PyData}{x:PyData}(h:inOk ds x=true):PyData.canLayAll0 ds=true/\x.canLay0=true/\x.depth<=63:=by
 unfold inOk at h
 rw [Bool.and_eq_true,Bool.and_eq_true] at h
 exact ⟨h.1,h.2.1,of_decide_eq_true h.2.2⟩
theorem Yc {A:Around}{ds:List PyData}{x:PyData}(hd:x.depth<=63)(hu:A.units+64<cLine):A.units+1+min (PyData.depthAll ds) x.depth<cLine:=by
 have:=Nat.min_le_right (PyData.depthAll ds) x.depth
 omega
theorem d_in {k:Nat}(hr:Room k X.A):OpD X (compareOp .In) inD:=by
 intro pins s σ H x y v u Q I rx ry h
 obtain ⟨S,dx,dy,d,m,h1,h2,e,q⟩:=h
 unfold inD at e
 split at e
 ·split at e
  ·rename_i hc
   obtain ⟨c1,c2,c3⟩:=jM hc
   cases e
   obtain ⟨as,q1⟩:=h1.reads I c2 rx
   obtain ⟨bs,q2⟩:=h2.reads I (by rw [PyData.canLay0];exact c1) ry
   exact SeqAt.in_list_reads q2 q1 c1 c2 (Yc c3 hr.units) (jL I (q _ H (Same.refl H) (.bool _)) rfl)
  ·cases e
 ·split at e
  ·rename_i hc
   obtain ⟨c1,c2,c3⟩:=jM hc
   cases e
   obtain ⟨as,q1⟩:=h1.reads I c2 rx
   obtain ⟨bs,q2⟩:=h2.reads I (by rw [PyData.canLay0];exact c1) ry
   exact SeqAt.in_tuple_reads q2 q1 c1 c2 (Yc c3 hr.units) (jL I (q _ H (Same.refl H) (.bool _)) rfl)
  ·cases e
 ·cases e
theorem Ws {k:Nat}(hr:Room k X.A):OpD X (compareOp .NotIn) ninD:=by
 intro pins s σ H x y v u Q I rx ry h
 obtain ⟨S,dx,dy,d,m,h1,h2,e,q⟩:=h
 unfold ninD at e
 split at e
 ·split at e
  ·rename_i hc
   obtain ⟨c1,c2,c3⟩:=jM hc
   cases e
   obtain ⟨as,q1⟩:=h1.reads I c2 rx
   obtain ⟨bs,q2⟩:=h2.reads I (by rw [PyData.canLay0];exact c1) ry
   exact SeqAt.notIn_list_reads q2 q1 c1 c2 (Yc c3 hr.units) (jL I (q _ H (Same.refl H) (.bool _)) rfl)
  ·cases e
 ·split at e
  ·rename_i hc
   obtain ⟨c1,c2,c3⟩:=jM hc
   cases e
   obtain ⟨as,q1⟩:=h1.reads I c2 rx
   obtain ⟨bs,q2⟩:=h2.reads I (by rw [PyData.canLay0];exact c1) ry
   exact SeqAt.notIn_tuple_reads q2 q1 c1 c2 (Yc c3 hr.units) (jL I (q _ H (Same.refl H) (.bool _)) rfl)
  ·cases e
 ·cases e
theorem DenL.bools_inv {K:PySem.W.Frag}{H:Hp}{S:Av}:∀ {vs:List V} {ns:List Bool},DenL K H S vs (ns.map PyData.bool)->vs=ns.map V.bl
 | _,[],h=>by cases h;rfl
 | _,n::ns,h=>by
  cases h with
  | cons a t=>cases a;rw [t.bools_inv];rfl
theorem yN:∀ {ns:List Bool} {us:List Value},Vals (ns.map V.bl) us->LSm.BoolsAre us ns
 | [],_,h=>by cases h;exact .nil
 | n::ns,_,h=>by
  cases h with
  | cons r t=>cases (show _=Value.bool n from r);exact .cons n (yN t)
theorem qfM (hc:X.calm=true):CallD X (.builtin "all") allD:=by
 intro pins s σ H xs us Q I r h
 obtain ⟨S,ds,d,m,h1,e,q⟩:=h
 unfold allD at e
 split at e
 ·rename_i ds
  obtain ⟨bs,e1,e2⟩:=qy e
  cases e2
  rw [JZ e1] at h1
  obtain ⟨v,rfl,hv⟩:=h1.inv1
  obtain ⟨a,ys,rfl,hs,ht⟩:=hv.list_inv
  rw [ht.bools_inv] at hs
  obtain ⟨u,rfl,ru⟩:=vals1 r
  cases (show u=Value.ref a from ru)
  obtain ⟨its,rv,p,_⟩:=I.list hs.sq
  have hb:=yN rv
  have hl:=p.isList
  have hlt:a<s.heap.objs.size:=by obtain ⟨_,e,_⟩:=hl;exact Heap.lt_size e
  refine call_all_walk (wpAny_pyIter_list hl ?_)
  refine ⟨s.heap.objs.size,[s.heap.objs.size,a],[s.heap.objs.size],its.toArray.size,_,_,fun i=>(bs[i]?).getD true,rfl,Walks.list (A:=X.A.in1) (I.ok.hd hc) _ a (Nat.ne_of_lt hlt) its.toArray,
   ⟨⟨_,Heap.get?_push_size _ rfl,rfl,rfl⟩,hl.push _⟩,fun i v s' Q' E' hP hQ=>?_,fun h' tk hk=>?_⟩
  ·obtain ⟨b,e,rfl⟩:=hb.get i v (by simpa using hP)
   simp only [e,Option.getD_some] at hQ
   exact wpAny_truthy_bool hQ
  ·have e:((List.range its.toArray.size).all fun i=>(bs[i]?).getD true)=bs.all id:=by
    rw [List.size_toArray,hb.length];exact LSm.range_all bs
   rw [e]
   exact ⟨.bl (bs.all id),H,I.kept (LSm.kept_iter hk),rfl,q _ H (Same.refl H) (.bool _)⟩
 ·cases e
end
section
variable {X:Cx}{G:Gm}{M M' Mb L:List Nat}{fr:Fr}{f:Rho->Option PyData}{p:Rho->Option Bool}{pos:Pos}
theorem qhJ {K:PySem.W.Frag}{n k:Nat}{fi:Rho->Option (List PyData)}{g:PyData->Rho->Option Rho}(hg:GIn n k g):∀ σ H Q,tF K M (Jy n k fi g p f) σ H Q->qa7 k (tDI K M fi) (tDGc K M g) (tDT K M p) (tD K M f) σ H Q:=by
 intro σ H Q ⟨S,ρ,d,hs,e,q⟩
 obtain ⟨ds,ys,e1,hn,hz,e2,rfl⟩:=Yt e
 exact qb9 hg σ H Q S ρ ds ys hs e1 hn hz e2 fun H' zs g2 dl D hD=>q _ _ (g2.lay' hD) (g2.free hD) (OwnO.laid hD dl)
variable {elt iter tg:Expr}{ifs:List Expr}{x:Str}{N':List Str}{px:Pos}{sc:Scope}{n k:Nat}{fi:Rho->Option (List PyData)}{g:PyData->Rho->Option Rho}
def swB (sc₀ sc:Scope)(t:Str)(pt p:Pos):Bool:=decide (sc₀.names.lookup t=some .local)&&(pt.line==p.line)&&!(sc.names.any fun (n,k)=>n==t&&(k==.local||k==.cell))
theorem qa6 {sc:Scope}{y:Str}{py:Pos}{sc₀:Scope}(hsc:X.env.scope=sc₀)(h:swB sc₀ sc y py pos=true):X.env.scope.names.lookup y=some .local:=by
 subst hsc
 unfold swB at h
 rw [Bool.and_eq_true,Bool.and_eq_true] at h
 exact of_decide_eq_true h.1.1
theorem sw_of {elt:Expr}{gens:List Comprehension}{sc:Scope}{y:Str}{py:Pos}{line:Nat}{sc₀:Scope}(hsc:X.env.scope=sc₀)(h:swB sc₀ sc y py pos=true)(hbk:X.env.blockKind=.function):swapsWith (.ListComp elt gens sc pos) (some (.Name y py)) line X.env=pure true:=by
 have h0:=qa6 hsc h
 subst hsc
 unfold swB at h
 rw [Bool.and_eq_true,Bool.and_eq_true] at h
 show pure (X.env.blockKind==.function&&X.env.kindOf y==some .local&&py.line==pos.line&&!(sc.names.any fun (n,k)=>n==y&&(k==.local||k==.cell)))=pure true
 have e1:(X.env.blockKind==ScopeKind.function)=true:=by rw [hbk];rfl
 have e2:(X.env.kindOf y==some NameKind.local)=true:=by
  show (X.env.scope.names.lookup y==some NameKind.local)=true
  rw [h0];rfl
 rw [e1,e2,h.1.2,h.2]
 rfl
theorem qcE (j:Nat){y:Str}{py spos:Pos}(O:CompOk X N' k sc)(gi:GIn n k g)(sc₀:Scope)(hsc:X.env.scope=sc₀)(hB:swB sc₀ sc y py pos=true)(hM:Out0 M j)(hL:j∉L)(hi:PDI X M tg iter fi)(hg:∀ cl C fp pins s H,PDGc (q9 X N' sc cl C fp pins s H) M tg g)(hq:∀ cl C fp pins s H,PDTs (q9 X N' sc cl C fp pins s H) M ifs p)(he:∀ cl C fp pins s H,PD (q9 X N' sc cl C fp pins s H) M elt f)
  (hj:X.N[j]?=some y:=by rfl) (hbk:X.env.blockKind=.function:=by rfl)
  (hs:∀ v,foldedSetIterable iter X.env v=pure v:=by intro _;rfl):PDS X G M L (j::M) Mb fr (.Assign [.Name y py] (.ListComp elt [⟨tg,iter,ifs,0⟩] sc pos) spos) (jC j (Jy n k fi g p f)) :=
 (qfn (wg:=tDGc X.K M g) (tt:=tDT X.K M p) (te:=tD X.K M f) O hj (qa6 hsc hB) hi hg hq he (sw_of hsc hB hbk) hs).weak fun D σ H ⟨S,ρ,o,hs,e,q⟩=>by
  unfold jC at e
  split at e
  ·rename_i hz
   obtain ⟨d,e1,e⟩:=qy e
   cases e
   exact qhJ gi σ H _ ⟨S,ρ,d,hs.ds,e1,fun p H1 g1 n o=>q _ H1 _ (hs.take n g1 o hM hL hz)⟩
  ·cases e
theorem qaT (j:Nat){y:Str}{py spos:Pos}(O:CompOk X N' 1 sc)(hx:N'[n]?=some x)(hl:lc1 sc x=true)(sc₀:Scope)(hsc:X.env.scope=sc₀)(hB:swB sc₀ sc y py pos=true)(hM:Out0 M j)(hL:j∉L)(hi:PDI X M (.Name x px) iter fi)(hq:∀ cl C fp pins s H,PDTs (q9 X N' sc cl C fp pins s H) M ifs p)(he:∀ cl C fp pins s H,PD (q9 X N' sc cl C fp pins s H) M elt f)
  (hj:X.N[j]?=some y:=by rfl) (hbk:X.env.blockKind=.function:=by rfl)
  (hs:∀ v,foldedSetIterable iter X.env v=pure v:=by intro _;rfl):PDS X G M L (j::M) Mb fr (.Assign [.Name y py] (.ListComp elt [⟨.Name x px,iter,ifs,0⟩] sc pos) spos) (jC j (Qh n fi p f)):=by
 rw [Ys]
 exact qcE j O (J4 (Nat.le_refl _)) sc₀ hsc hB hM hL hi (Yj O hx hl) hq he hj hbk hs
end
end L2
namespace L2
open PySem PySem.Spec PyProof.Rows
def qbG (N N':List Str)(k:Nat)(sc₀ sc:Scope):Bool :=
 decide (sc.kind=.function)&&decide N.Nodup&&decide N'.Nodup&&decide (N'.length=N.length+k)&&sc.names.all (fun y=>decide (y.2≠.cell)||decide (sc.names.lookup y.1=some .cell))&&sc.names.all (fun y=>decide (y.2≠.local)||decide (sc.names.lookup y.1=some .local)) &&
 (N.zip N').all (fun y=>(decide (y.1=y.2)&&(decide (sc.names.lookup y.2≠some .local)&&decide (sc.names.lookup y.2≠some .cell)))||decide (sc.names.lookup y.2=none)) &&
 sc.names.all (fun y=>decide (y.2≠.free)||decide (sc₀.names.lookup y.1=some .cell)||decide (sc₀.names.lookup y.1=some .free))
theorem CompOk.of {X:Cx}{sc:Scope}{k:Nat}(N N':List Str)(sc₀:Scope)(hc:X.calm=true)(hN:X.N=N)(hs:X.env.scope=sc₀)(h:qbG N N' k sc₀ sc=true):CompOk X N' k sc:=by
 subst hN
 subst hs
 unfold qbG at h
 simp only [Bool.and_eq_true,decide_eq_true_eq,List.all_eq_true,Bool.or_eq_true] at h
 obtain ⟨⟨⟨⟨⟨⟨⟨h1,h2⟩,h2'⟩,h2l⟩,h3⟩,h4⟩,h7⟩,h8⟩:=h
 refine ⟨hc,h1,h2,h2',h2l,fun y hy q=>(h3 y hy).resolve_left (fun z=>z q),fun y hy q=>(h4 y hy).resolve_left (fun z=>z q),fun i y hi e=>?_,fun y hy q=>?_⟩
 ·have hz:(X.N.zip N')[i]?=some (X.N[i],y):=by
   rw [List.getElem?_zip_eq_some]
   exact ⟨List.getElem?_eq_getElem hi,e⟩
  rcases h7 _ (List.mem_of_getElem? hz) with ⟨q,w⟩|q
  ·refine .inl ⟨?_,w⟩
   rw [List.getElem?_eq_getElem hi]
   exact congrArg some q
  ·exact .inr q
 ·rcases h8 y hy with (z|z)|z
  ·exact absurd q z
  ·exact .inl z
  ·exact .inr z
theorem Y7:∀ {ns:List Int} {n:Int},n∈ns->PySem.W.WData.weight (.int n)<=PySem.W.WData.weightAll (ns.map .int)
 | m::ns,n,h=>by
  rw [List.map_cons,PySem.W.WData.weightAll]
  rcases List.mem_cons.mp h with rfl|h
  ·omega
  ·have:=Y7 h
   omega
theorem Yo {ns:List Int}(h:PySem.W.WData.layableAll [.list (ns.map .int)]=true):∀ n∈ns,Builtin.Int.intBits n<=2 ^ 20:=by
 intro n hn
 have h1:PySem.W.WData.layable (.list (ns.map .int))=true:=by
  unfold PySem.W.WData.layableAll at h
  simpa using h
 unfold PySem.W.WData.layable at h1
 rw [Bool.and_eq_true] at h1
 have h2:=of_decide_eq_true h1.2
 rw [PySem.W.WData.weight] at h2
 have h3:=Nat.le_trans (Y7 hn) h2
 rw [PySem.W.WData.weight] at h3
 exact h3
end L2
namespace Att
open PySem PySem.W PySem.Calls PyProof.Rows
theorem attach_callB {l:OpenLaw}{n:Nat}{q:Program}{loose:List Str}{XP:(Str->Option Value)->Heap->Prop}{YP:World->Heap->Prop}{d:DefRec}
  (hn:l.most=some n) (hdf:d.params.defaults=[])
  (call:∀ (w:World) (s₀ s₁:Shared) (mg mb:Str->Option Value) (fa:Addr) (o:Obj) (pm cd doc:Value) (a:Addr) (vs:List Value) (ns:List Int),
   Ground q loose [] XP w s₀ mg mb s₁.heap->YP w s₁.heap->
   s₁.heap.get? fa=some o->o.data=.func (docDef d.name d.params d.body d.scope pm cd doc)->s₁.heap.CodeRec cd d.name->mg d.name=some (.ref fa)->
   s₁.heap.get? a=some { cls:=.type "list", data:=.seq vs.toArray }->IntsAre vs ns->ns.length<=n->(∀ k∈ns,Builtin.Int.intBits k<=2 ^ 20)->s₁.gens=#[]->
   codeAny (model l.prog w) callerA (.call (.ref fa) ⟨[.ref a],[]⟩) (fun r s'=>r=.ok (.ret (.bool true))/\OldK s₁.heap s'.heap/\s'.os=s₁.os/\AllBare s'.gens) s₁) :
  WalkO q loose XP YP l.row.toRowW d [] (fun f vs=>PySem.call f vs):=by
 intro w s₀ s₁ mg mb G Y fa o pm cd doc dV kV ho hd hcd hD hmg hg args vals as hpre hlay hrd hwl hlo
 obtain rfl:dV=.none:=Dflts.none hD hdf
 obtain rfl:kV=.none:=Dflts.noKw hD
 obtain ⟨a,vs,ns,rfl,rfl,hobj,hints,hlen⟩:=qcK hn hpre hwl
 refine enter_call (codeAny_mono (call w s₀ s₁ mg mb fa o pm cd doc a vs ns G Y ho (fd_plain hd) hcd hmg hobj hints hlen (L2.Yo hlay) hg) fun r s' hq=>?_)
 obtain ⟨rfl,h2,h3,h4⟩:=hq
 exact ⟨.inl ⟨.bool true,.bool true,[],rfl,fun _=>rfl,.bool true,qcH l _,fun _=>⟨List.Pairwise.nil,fun _ hm=>(nomatch hm)⟩⟩,h2,h3,h4⟩
end Att
namespace L2
open PySem PySem.Spec PyProof.Rows
def qbn (K:PySem.W.Frag)(n:Nat):Sp:=fun vs H Q _=>∃ (a:Addr) (ns:List Int),vs=[.ref a]/\SqL K H a (ns.map V.int)/\ns.length<=n/\(∀ k∈ns,Builtin.Int.intBits k<=2 ^ 20)/\∀ H',Q (.bl true) H'
theorem qdr {P:Program}{w:World}{K:PySem.W.Frag}{mg:Str->Option Value}{base:Heap}{CX:CXT}{k n:Nat}{f:Addr}{fd:FuncData}{ps:List Str}{h:List PyData->Option PyData}(F:FnOk P w K mg base CX k f fd ps (spF K 1 h))
  (e:∀ ns:List Int,ns.length<=n->(∀ k∈ns,Builtin.Int.intBits k<=2 ^ 20)->h [.list (ns.map .int)]=some (.bool true)):FnOk P w K mg base CX k f fd ps (qbn K n) :=
 F.imp fun vs H Q E ⟨a,ns,h1,h2,h3,h4,q⟩=>by
  subst h1
  exact ⟨fun _=>False,[.list (ns.map .int)],.bool true,(fun _ z=>z.elim),.cons (.list (h2.imp (fun y=>⟨y,id⟩) id) (DenL.ints ns)) .nil,rfl,e ns h3 h4,fun v H' _ d=>by rw [d.bool_inv];exact q H'⟩
theorem qcP {l:PySem.W.OpenLaw}{n k:Nat}{q:Program}{loose:List Str}{XP:(Str->Option Value)->Heap->Prop}{YP:World->Heap->Prop}{d:DefRec}{K:Params->PySem.W.Frag}{x:Str}
  (hn:l.most=some n) (hn2:n<=sizeLine) (hdf:d.params.defaults=[]) (hr:Room k callerA)
  (hY:∀ (w:World) (h:Heap),YP w h->(K w.params).In h)
  (F:∀ (w:World) (mg:Str->Option Value) (fa:Addr) (h:Heap),(K w.params).In h->h.Ns mainGlobals mg->mg d.name=some (.ref fa)->
   ∃ fd:FuncData,(∀ (s:Shared) (u:Value),BindsTo s fd ⟨[u],[]⟩ [(x,u)])/\
    ∀ base:Heap,(K w.params).In base->base.Ns mainGlobals mg->FnOk l.prog w (K w.params) mg base CX0 k fa fd [x] (qbn (K w.params) n)) :
  PySem.W.WalkO q loose XP YP l.row.toRowW d [] (fun f vs=>PySem.call f vs):=by
 refine Att.attach_callB hn hdf fun w s₀ s₁ mg mb fa o pm cd doc a vs ns G Y ho hd hcd hmg hobj hints hlen hbits hg=>?_
 have KX:=hY w _ Y
 obtain ⟨fd,hb,hF⟩:=F w mg fa _ KX G.T.g hmg
 exact qdq KX G.T.g G.T.b G.T.builtins G.T.nolimit hg hobj hints (Nat.le_trans hlen hn2) hr hF hb (fun H hO hS=>⟨a,ns,rfl,hS,hlen,hbits,fun _=>rfl⟩) fun H e s' h=>h
end L2
namespace L2
open PySem PySem.Spec PyProof.Rows
mutual
def ltX:PyData->PyData->Option Bool
 | .int i,.int j=>some (decide (i<j))
 | .tuple xs,.tuple ys=>ltXs xs ys
 | .list xs,.list ys=>ltXs xs ys
 | _,_=>none
def ltXs:List PyData->List PyData->Option Bool
 | [],[]=>some false
 | [],_::_=>some true
 | _::_,[]=>some false
 | x::xs,y::ys=>if PyData.eqv x y=true then ltXs xs ys else ltX x y
end
def LtAt (A:Around)(s:Shared)(y x:Value)(b:Bool):Prop:=∀ (prog:Program) (w:World) (E Q:Value->Shared->Prop),Q (.bool b) s->wpAny (model prog w) A (richCompare .Lt y x) Q E s
def yI (A:Around)(s:Shared):List Value->List Value->Bool->Prop
 | [],[],r=>r=false
 | [],_::_,r=>r=true
 | _::_,[],r=>r=false
 | y::ys,x::xs,r=>∃ e,SeqAt.EqAt A s y x e/\(e=true->yI A s ys xs r)/\(e=false->LtAt A s y x r)
section
open PySem.SeqAt
open PySem.AutoSeq1 (wpAny_loadPart')
open PySem.MeetsSeq PySem.MeetsSeq2 PySem.MeetsSeq3
theorem qak (l b:Addr)(items items2:Array Value)(n n2:Nat)(dd dd2:Option Addr)(sl sl2:Array (Option Value)) :
  Meets (Builtin.«tuple.__lt__» ⟨[.ref l,.ref b],[]⟩)
   (fun A R s=>s.heap.get? l=some { cls:=.type "tuple", dict:=dd,data:=.seq items n,slots:=sl }/\s.heap.get? b=some { cls:=.type "tuple", dict:=dd2,data:=.seq items2 n2,slots:=sl2 }/\
    ∃ r,yI A.in1 s items.toList items2.toList r/\R (.ok (.ret (.bool r))) s) :=
 .of_wp fun prog w A R s h=>by
  obtain ⟨hp,g,d,tk,os⟩:=s;obtain ⟨hl,hb,r,hx,h⟩:=h
  have f2:=AutoSeq1.sub_tuple_tuple
  wp_walk using wpAny_loadPart' hl,wpAny_loadPart' hb,wpAny_forIn_list _ (fun rest b s'=>b.1=none/\s'=⟨hp,g,d,tk,os⟩/\∃ (vs ws:List Value),rest=vs.zip ws/\
   yI A.in1 ⟨hp,g,d,tk,os⟩ vs ws r/\vs.length+items2.size=ws.length+items.size) _
  case turn =>
   rintro ⟨y,x⟩ rest b s' ⟨hb',rfl,vs,ws,hz,hlx,hlen⟩
   cases vs with
   | nil=>rw [List.zip_nil_left] at hz;cases hz
   | cons v vs =>
    cases ws with
    | nil=>rw [List.zip_nil_right] at hz;cases hz
    | cons u ws =>
     rw [List.zip_cons_cons] at hz
     injection hz with hyx hrest
     injection hyx with hy hx'
     subst hy hx'
     simp only [List.length_cons] at hlen
     obtain ⟨e,he,h1,h2⟩:=hlx
     refine wpAny_bind (he prog w _ _ ?_)
     cases e with
     | true =>
      wp_walk
      exact ⟨rfl,rfl,_,_,hrest,h1 rfl,by omega⟩
     | false =>
      have hri:=h2 rfl prog w
      wp_walk using hri
      exact ⟨_,rfl,by simpa using h⟩
  case fin =>
   rintro ⟨b1,b2⟩ s' ⟨hb',rfl,vs,ws,hz,hlx,hlen⟩
   simp only at hb'
   subst hb'
   have hv:r=decide (items.size<items2.size):=by
    cases vs with
    | nil =>
     cases ws with
     | nil =>
      simp only [List.length_nil] at hlen
      rw [show r=false from hlx]
      exact (decide_eq_false (by omega)).symm
     | cons c hw =>
      simp only [List.length_nil,List.length_cons] at hlen
      rw [show r=true from hlx]
      exact (decide_eq_true (by omega)).symm
    | cons a hv =>
     cases ws with
     | nil =>
      simp only [List.length_nil,List.length_cons] at hlen
      rw [show r=false from hlx]
      exact (decide_eq_false (by omega)).symm
     | cons c hw =>
      rw [List.zip_cons_cons] at hz
      cases hz
   rw [hv] at h
   wp_walk
   exact ⟨_,rfl,by simpa [Builtin.Tuple.tupleCompareSizes] using h⟩
  case h =>
   exact ⟨rfl,rfl,items.toList,items2.toList,rfl,hx,by simp [Nat.add_comm]⟩
end
theorem qdy {A:Around}{s:Shared}{l b:Addr}{items items2:Array Value}{r:Bool}(hl:IsTup s.heap l items)(hb:IsTup s.heap b items2)(hu:A.units<cLine)(h:yI A.in1 s items.toList items2.toList r):LtAt A s (.ref l) (.ref b) r:=fun prog w E Q q=>by
 obtain ⟨⟨cls,dd,data,sl⟩,ho,hc,n,hd⟩:=id hl
 obtain ⟨⟨cls2,dd2,data2,sl2⟩,ho2,hc2,n2,hd2⟩:=id hb
 simp only at hc hd hc2 hd2
 subst hc hd hc2 hd2
 exact richCompare_meets_room (op:=.Lt) ⟨_,ho,rfl⟩ ⟨_,ho2,rfl⟩ PySem.F.slot_tuple_lt PySem.F.entry_tuple_lt (PySem.F.args_tuple_lt_2 _ _) (qak l b items items2 n n2 dd dd2 sl sl2)
  ⟨ho,ho2,r,h,show Value.bool r≠Value.notImplemented/\Q (.bool r) s from ⟨(fun x=>nomatch x),q⟩⟩ hu
section
open PySem.SeqAt
open PySem.AutoSeq1 (wpAny_loadPart')
open PySem.MeetsSeq PySem.MeetsSeq2 PySem.MeetsSeq3
theorem W3 (l b:Addr)(xs ys:Array Value)(n n2:Nat)(dd dd2:Option Addr)(sl sl2:Array (Option Value)):∀ (k i:Nat),xs.size=i+k->i<=ys.size->Meets (Builtin.«list.__eq__.loop» ⟨[.ref l,.ref b,rawInt i,rawInt 0],[]⟩)
   (fun A R s=>s.heap.get? l=some ⟨.type "list", dd,.seq xs n,sl⟩/\s.heap.get? b=some ⟨.type "list", dd2,.seq ys n2,sl2⟩/\∃ r,yI A.in1 s (xs.toList.drop i) (ys.toList.drop i) r/\R (.ok (.ret (.bool r))) s):=by
 intro k
 induction k with
 | zero =>
  intro i hx hy prog w A R s ⟨hl,hb,r,hq,hR⟩
  obtain ⟨hp,g,d,tk,os⟩:=s
  have e1:xs.toList.drop i=[]:=List.drop_eq_nil_of_le (by rw [Array.length_toList];omega)
  have e2:xs[((i:Nat):Int).toNat]?=none:=by rw [Int.toNat_natCast];exact Array.getElem?_eq_none (by omega)
  rw [e1] at hq
  have hr:r=decide (xs.size<ys.size):=by
   by_cases h:i<ys.size
   ·have e3:ys.toList.drop i=ys[i]::ys.toList.drop (i+1):=by rw [List.drop_eq_getElem_cons (by rw [Array.length_toList];exact h),Array.getElem_toList]
    rw [e3] at hq
    rw [show r=true from hq];exact (decide_eq_true (by omega)).symm
   ·rw [List.drop_eq_nil_of_le (by rw [Array.length_toList];omega)] at hq
    rw [show r=false from hq];exact (decide_eq_false (by omega)).symm
  rw [hr] at hR
  wp_walk using wpAny_loadPart' hl,wpAny_loadPart' hb
  rw [e2]
  wp_walk using wpAny_loadPart' hl,wpAny_loadPart' hb
  exact hR
 | succ k ih =>
  intro i hx hy prog w A R s ⟨hl,hb,r,hq,hR⟩
  obtain ⟨hp,g,d,tk,os⟩:=s
  have h1:i<xs.size:=by omega
  have e1:xs.toList.drop i=xs[i]::xs.toList.drop (i+1):=by rw [List.drop_eq_getElem_cons (by rw [Array.length_toList];exact h1),Array.getElem_toList]
  have e2:xs[((i:Nat):Int).toNat]?=some xs[i]:=by rw [Int.toNat_natCast];exact Array.getElem?_eq_getElem h1
  rw [e1] at hq
  wp_walk using wpAny_loadPart' hl,wpAny_loadPart' hb
  by_cases h2:i<ys.size
  ·have e3:ys.toList.drop i=ys[i]::ys.toList.drop (i+1):=by rw [List.drop_eq_getElem_cons (by rw [Array.length_toList];exact h2),Array.getElem_toList]
   have e4:ys[((i:Nat):Int).toNat]?=some ys[i]:=by rw [Int.toNat_natCast];exact Array.getElem?_eq_getElem h2
   rw [e3] at hq
   obtain ⟨e,he,q1,q2⟩:=hq
   rw [e2,e4]
   refine wpAny_bind (he prog w _ _ ?_)
   cases e with
   | true =>
    wp_walk
    refine ⟨plainId_quiet plain_eq_loop _,codeAny_builtin entry_eq_loop ?_⟩
    rw [Around.under_plainId plain_eq_loop _]
    exact ih (i+1) (by omega) h2 prog w A R _ ⟨hl,hb,r,q1 rfl,hR⟩
   | false =>
    wp_walk using wpAny_loadPart' hl,wpAny_loadPart' hb
    rw [e2,e4]
    have hri:=q2 rfl prog w
    wp_walk using hri
    exact hR
  ·rw [List.drop_eq_nil_of_le (as:=ys.toList) (by rw [Array.length_toList];omega)] at hq
   have e4:ys[((i:Nat):Int).toNat]?=none:=by rw [Int.toNat_natCast];exact Array.getElem?_eq_none (by omega)
   have hr:r=decide (xs.size<ys.size):=by rw [show r=false from hq];exact (decide_eq_false (by omega)).symm
   rw [hr] at hR
   rw [e2,e4]
   wp_walk using wpAny_loadPart' hl,wpAny_loadPart' hb
   exact hR
theorem qaL (l b:Addr)(xs ys:Array Value)(n n2:Nat)(dd dd2:Option Addr)(sl sl2:Array (Option Value)):Meets (Builtin.«list.__lt__» ⟨[.ref l,.ref b],[]⟩)
   (fun A R s=>s.heap.get? l=some ⟨.type "list", dd,.seq xs n,sl⟩/\s.heap.get? b=some ⟨.type "list", dd2,.seq ys n2,sl2⟩/\∃ r,yI A.in1 s xs.toList ys.toList r/\R (.ok (.ret (.bool r))) s):=by
 intro prog w A R s ⟨hl,hb,r,hq,hR⟩
 obtain ⟨hp,g,d,tk,os⟩:=s
 have f3:=AutoSeq1.sub_list_list
 wp_walk using wpAny_loadPart' hl,wpAny_loadPart' hb
 refine ⟨plainId_quiet plain_eq_loop _,codeAny_builtin entry_eq_loop ?_⟩
 rw [Around.under_plainId plain_eq_loop _]
 exact W3 l b xs ys n n2 dd dd2 sl sl2 xs.size 0 (Nat.zero_add _).symm (Nat.zero_le _) prog w A R _ ⟨hl,hb,r,hq,hR⟩
end
theorem qcz {A:Around}{s:Shared}{l b:Addr}{o o2:Obj}{xs ys:Array Value}{n n2:Nat}{r:Bool}(h1:s.heap.get? l=some o)(c1:o.cls=.type "list")(d1:o.data=.seq xs n)(h2:s.heap.get? b=some o2)(c2:o2.cls=.type "list")(d2:o2.data=.seq ys n2)(hu:A.units<cLine)(h:yI A.in1 s xs.toList ys.toList r):LtAt A s (.ref l) (.ref b) r:=fun prog w E Q q=>by
 obtain ⟨cls,dd,data,sl⟩:=o
 obtain ⟨cls2,dd2,data2,sl2⟩:=o2
 simp only at c1 d1 c2 d2
 subst c1 d1 c2 d2
 exact richCompare_meets_room (op:=.Lt) ⟨_,h1,rfl⟩ ⟨_,h2,rfl⟩ PySem.F.slot_list_lt PySem.F.entry_list_lt (PySem.F.args_list_lt_2 _ _) (qaL l b xs ys n n2 dd dd2 sl sl2)
  ⟨h1,h2,r,h,show Value.bool r≠Value.notImplemented/\Q (.bool r) s from ⟨(fun x=>nomatch x),q⟩⟩ hu
theorem yO {A:Around}{s:Shared}{m:Nat}(hu:A.units+m+1<cLine)(hit:∀ (x y:PyData) (a b:Value) (as bs:List Addr) (r:Bool),x.depth<=m->Reads s.heap a x as->Reads s.heap b y bs->x.canLay0=true->y.canLay0=true->ltX x y=some r->LtAt A s a b r) :
  ∀ (xs ys:List PyData) (vs ws:List Value) (as bs:List Addr) (r:Bool),PyData.depthAll xs<=m->ReadsAll s.heap vs xs as->ReadsAll s.heap ws ys bs->PyData.canLayAll0 xs=true->PyData.canLayAll0 ys=true->ltXs xs ys=some r->yI A s vs ws r:=by
 intro xs
 induction xs with
 | nil =>
  intro ys vs ws as bs r _ h1 h2 _ _ e
  cases h1
  cases ys with
  | nil=>cases h2;rw [ltXs] at e;cases e;rfl
  | cons y ys=>cases h2;rw [ltXs] at e;cases e;rfl
 | cons x xs ih =>
  intro ys vs ws as bs r hm h1 h2 c1 c2 e
  cases h1 with
  | cons rx rxs =>
   cases ys with
   | nil=>cases h2;rw [ltXs] at e;cases e;rfl
   | cons y ys =>
    cases h2 with
    | cons ry rys =>
     have c1':x.canLay0=true/\PyData.canLayAll0 xs=true:=by simpa [PyData.canLayAll0] using c1
     have c2':y.canLay0=true/\PyData.canLayAll0 ys=true:=by simpa [PyData.canLayAll0] using c2
     have hd:max x.depth (PyData.depthAll xs)<=m:=by rw [PyData.depthAll] at hm;exact hm
     have m1:=Nat.le_trans (Nat.le_max_left x.depth (PyData.depthAll xs)) hd
     have m2:=Nat.le_trans (Nat.le_max_right x.depth (PyData.depthAll xs)) hd
     rw [ltXs] at e
     refine ⟨PyData.eqv x y,SeqAt.eqAt_reads x y A s _ _ _ _ rx ry c1'.1 c2'.1 (by have:=Nat.min_le_left x.depth y.depth;omega),fun q=>?_,fun q=>?_⟩
     ·rw [if_pos q] at e
      exact ih ys _ _ _ _ r m2 rxs rys c1'.2 c2'.2 e
     ·rw [if_neg (by rw [q];exact Bool.false_ne_true)] at e
      exact hit x y _ _ _ _ r m1 rx ry c1'.1 c2'.1 e
theorem JK:∀ (n:Nat) (da db:PyData) (A:Around) (s:Shared) (a b:Value) (as bs:List Addr) (r:Bool),da.depth<=n->Reads s.heap a da as->Reads s.heap b db bs->da.canLay0=true->db.canLay0=true->A.units+n+1<cLine->ltX da db=some r->LtAt A s a b r:=by
 intro n
 induction n with
 | zero =>
  intro da db A s a b as bs r hd ra rb ca cb hu e
  cases da with
  | int i =>
   cases db with
   | int j =>
    cases ra;cases rb
    rw [ltX] at e
    cases e
    exact fun prog w E Q q=>HT.qa1 A s i _ j _ prog w E Q q
   | _=>simp [ltX] at e
  | tuple xs =>
   rw [PyData.depth] at hd
   omega
  | list xs =>
   rw [PyData.depth] at hd
   omega
  | _=>simp [ltX] at e
 | succ n ih =>
  intro da db A s a b as bs r hd ra rb ca cb hu e
  cases da with
  | int i =>
   cases db with
   | int j =>
    cases ra;cases rb
    rw [ltX] at e
    cases e
    exact fun prog w E Q q=>HT.qa1 A s i _ j _ prog w E Q q
   | _=>simp [ltX] at e
  | tuple xs =>
   cases db with
   | tuple ys =>
    rw [PyData.depth] at hd
    rw [ltX] at e
    cases ra with
    | tuple e1 c1 d1 t1 =>
     cases rb with
     | tuple e2 c2 d2 t2 =>
      refine qdy ⟨_,e1,c1,_,d1⟩ ⟨_,e2,c2,_,d2⟩ (by omega) ?_
      exact yO (m:=n) (by show A.units+1+n+1<cLine;omega) (fun x y a b as bs r hx r1 r2 k1 k2 e=>ih x y A.in1 s a b as bs r hx r1 r2 k1 k2 (by show A.units+1+n+1<cLine;omega) e)
       xs ys _ _ _ _ r (by omega) t1 t2 (by simpa [PyData.canLay0] using ca) (by simpa [PyData.canLay0] using cb) e
   | _=>simp [ltX] at e
  | list xs =>
   cases db with
   | list ys =>
    rw [PyData.depth] at hd
    rw [ltX] at e
    cases ra with
    | list e1 c1 d1 t1 =>
     cases rb with
     | list e2 c2 d2 t2 =>
      refine qcz e1 c1 d1 e2 c2 d2 (by omega) ?_
      exact yO (m:=n) (by show A.units+1+n+1<cLine;omega) (fun x y a b as bs r hx r1 r2 k1 k2 e=>ih x y A.in1 s a b as bs r hx r1 r2 k1 k2 (by show A.units+1+n+1<cLine;omega) e)
       xs ys _ _ _ _ r (by omega) t1 t2 (by simpa [PyData.canLay0] using ca) (by simpa [PyData.canLay0] using cb) e
   | _=>simp [ltX] at e
  | _=>simp [ltX] at e
def ltD2 (x y:PyData):Option PyData:=if SeqAt.shaped x=true/\SeqAt.shaped y=true/\x.depth<=60 then ob (ltX x y) fun r=>some (.bool r) else none
theorem qbH {X:Cx}{k:Nat}(hr:Room k X.A):OpD X (compareOp .Lt) ltD2:=by
 intro pins s σ H x y v u Q I rx ry ⟨S,dx,dy,d,m,h1,h2,e,q⟩
 unfold ltD2 at e
 split at e
 ·rename_i hc
  obtain ⟨as,q1⟩:=h1.reads I (SeqAt.canLay_of_shaped hc.1) rx
  obtain ⟨bs,q2⟩:=h2.reads I (SeqAt.canLay_of_shaped hc.2.1) ry
  obtain ⟨r,e1,e⟩:=qy e
  cases e
  have hu:=hr.units
  exact JK 60 dx dy X.A s v u as bs r hc.2.2 q1 q2 (SeqAt.canLay_of_shaped hc.1) (SeqAt.canLay_of_shaped hc.2.1) (by omega) e1 X.prog X.w X.xe _ (jL I (q _ H (Same.refl H) (.bool r)) rfl)
 ·cases e
end L2
namespace L2
open PySem PySem.Spec PyProof.Rows PySem.W
def runC {α:Type}(lt:Nat->Nat->Option Bool):KasT α->Option α
 | .ret a=>some a
 | .ask i j k=>ob (lt i j) fun b=>runC lt (k b)
theorem qb4 {α:Type}{cmp:Nat->Nat->(Bool->Shared->Prop)->Shared->Prop}{lt:Nat->Nat->Option Bool}{s:Shared}{Q:α->Shared->Prop}(hc:∀ i j b C,lt i j=some b->C b s->cmp i j C s) :
  ∀ (t:KasT α) (a:α),runC lt t=some a->Q a s->t.kasWp cmp Q s
 | .ret x,a,e,q=>by cases e;exact q
 | .ask i j k,a,e,q=>by
  obtain ⟨b,e1,e2⟩:=qy e
  exact hc i j b _ e1 (qb4 hc (k b) a e2 q)
section
variable {prog:Program}{w:World}{A:Around}{E:Value->Shared->Prop}{s:Shared}
def Kept (a:Addr)(s s':Shared):Prop:=∀ b o,b≠a->s.heap.get? b=some o->s'.heap.get? b=some o
theorem qbl {a:Addr}{vs:List Value}{n:Nat}{P:PySem.Fin->Shared->Prop}{κ:SortKind}{p:Array Nat}(ho:s.heap.get? a=some (seqObj "list" vs.toArray n))(h2:2<=vs.length)(h64:vs.length<64)
  (hk:∀ (s':Shared) (Q:SortKind->Shared->Prop),Kept a s s'->Q κ s'->wpAny (model prog w) A (keyKind' vs.toArray) Q E s')
  (hr:∀ (s':Shared) (G:Array Nat->Shared->Prop),Kept a s s'->G p s'->(kas_sort vs.length).kasWp (kas_ask prog w A κ vs) G s')
  (h:P (.done (.ret .none)) { s with heap:=sortedHeap s.heap a vs (p.toList.map fun i=>vs.getD i Value.none).toArray }) :
  wpAny (model prog w) A (Builtin.«list.sort» ⟨[.ref a],[]⟩) P E s:=by
 have small:vs.length<=sizeLine:=by rw [sizeLine_eq];omega
 have lt:=Heap.lt_size ho
 obtain ⟨e1,o1⟩:∃ e1,(s.heap.update a (Obj.mapSeq fun _=>#[])).get? a=some (seqObj "list" #[] e1):=⟨_,get?_update_seq ho fun _=>#[]⟩
 rw [list_sort_plain]
 refine wpAny_bind (listItems_at ho rfl (wpAny_bind (listUpdate_at ho rfl (wpAny_bind (seqEpoch_at o1 rfl (wpAny_bind ?_))) (by simpa using small) (Nat.zero_le _))))
 refine wpAny_newTuple (wpAny_bind (wpAny_newList (wpAny_holding ?_) (Nat.zero_le _))) (by simpa using small)
 obtain ⟨h6,hE⟩:∃ h6,h6=((s.heap.update a (Obj.mapSeq fun _=>(#[]:Array Value))).push (seqObj "tuple" vs.toArray 0)).push (seqObj "list" #[] 0):=⟨_,rfl⟩
 have kp:Kept a s { s with heap:=h6 }:=fun b o ne e=>by
  show h6.get? b=some o
  rw [hE]
  refine Heap.get?_push_of_some _ (Heap.get?_push_of_some _ ?_)
  rw [Heap.get?_update_ne _ _ _ _ ne]
  exact e
 have o6:h6.get? a=some (seqObj "list" #[] e1):=by
  rw [hE]
  exact Heap.get?_push_of_some _ (Heap.get?_push_of_some _ o1)
 show wpAny (model prog w) A _ P E { s with heap:=((s.heap.update a (Obj.mapSeq fun _=>(#[]:Array Value))).push (seqObj "tuple" vs.toArray 0)).push (seqObj "list" #[] 0) }
 rw [← hE]
 have n2:¬ vs.toArray.size<2:=by rw [List.size_toArray];omega
 dsimp only
 rw [if_neg n2,if_neg n2]
 refine wpAny_bind (hk _ _ kp ?_)
 refine wpAny_bind (wpAny_mono (kat_run (Q:=fun st' s'=>s'={ s with heap:=h6 }/\arrOf st'=p.map (kas_item (vs.toArray.zip vs.toArray))/\failedOf st'=none/\p.size=vs.length) rfl h2 h64
  (fun p' st' s' z har hf hg=>⟨hg.1,by rw [← hg.2];exact har,hf,by rw [← hg.2];exact z⟩) (hr _ (fun p' s'=>s'={ s with heap:=h6 }/\p'=p) kp ⟨rfl,rfl⟩)) ?_ fun _ _ e=>e)
 rintro ⟨⟨⟩,st'⟩ s' ⟨rfl,har,hf,hz⟩
 dsimp only
 rw [kat_snds rfl har]
 refine wpAny_bind (seqEpoch_at o6 rfl (wpAny_bind (listUpdate_at o6 rfl ?_ (Nat.zero_le _) (by rw [List.size_toArray,List.length_map,Array.length_toList,hz];omega))))
 rw [hf]
 simp only [bne_self_eq_false,Bool.false_eq_true,if_false]
 refine wpAny_pure ?_
 rw [hE]
 exact h
theorem qbm {a:Addr}{vs:List Value}{n:Nat}{P:PySem.Fin->Shared->Prop}(ho:s.heap.get? a=some (seqObj "list" vs.toArray n))(h2:vs.length<2)
  (h:P (.done (.ret .none)) { s with heap:=sortedHeap s.heap a vs vs.toArray }):wpAny (model prog w) A (Builtin.«list.sort» ⟨[.ref a],[]⟩) P E s:=by
 have small:vs.length<=sizeLine:=by rw [sizeLine_eq];omega
 obtain ⟨e1,o1⟩:∃ e1,(s.heap.update a (Obj.mapSeq fun _=>#[])).get? a=some (seqObj "list" #[] e1):=⟨_,get?_update_seq ho fun _=>#[]⟩
 rw [list_sort_plain]
 refine wpAny_bind (listItems_at ho rfl (wpAny_bind (listUpdate_at ho rfl (wpAny_bind (seqEpoch_at o1 rfl (wpAny_bind ?_))) (by simpa using small) (Nat.zero_le _))))
 refine wpAny_newTuple (wpAny_bind (wpAny_newList (wpAny_holding ?_) (Nat.zero_le _))) (by simpa using small)
 obtain ⟨h6,hE⟩:∃ h6,h6=((s.heap.update a (Obj.mapSeq fun _=>(#[]:Array Value))).push (seqObj "tuple" vs.toArray 0)).push (seqObj "list" #[] 0):=⟨_,rfl⟩
 have o6:h6.get? a=some (seqObj "list" #[] e1):=by
  rw [hE]
  exact Heap.get?_push_of_some _ (Heap.get?_push_of_some _ o1)
 show wpAny (model prog w) A _ P E { s with heap:=((s.heap.update a (Obj.mapSeq fun _=>(#[]:Array Value))).push (seqObj "tuple" vs.toArray 0)).push (seqObj "list" #[] 0) }
 rw [← hE]
 have n2:vs.toArray.size<2:=by rw [List.size_toArray];omega
 dsimp only
 rw [if_pos n2,if_pos n2]
 refine wpAny_bind (wpAny_pure ?_)
 rw [StateT.run_pure]
 refine wpAny_bind (wpAny_pure ?_)
 dsimp only
 have eo:Array.map (fun x=>x.2) (vs.toArray.zip vs.toArray)=vs.toArray:=by
  apply Array.toList_inj.mp
  simp [List.map_snd_zip]
 show wpAny (model prog w) A (seqEpoch a >>= _) P E { s with heap:=h6 }
 refine wpAny_bind (seqEpoch_at o6 rfl (wpAny_bind ?_))
 rw [show Array.map (fun x=>x.2) (arrOf (SortSt.mk' general' (vs.toArray.zip vs.toArray) #[] 7 none))=vs.toArray from eo]
 refine listUpdate_at o6 rfl ?_ (Nat.zero_le _) (by rw [List.size_toArray];omega)
 simp only [bne_self_eq_false,Bool.false_eq_true,if_false]
 refine wpAny_pure ?_
 rw [hE]
 exact h
theorem qaf {l:Addr}{vs:List Value}{Q:Value->Shared->Prop}{κ:SortKind}{p:Array Nat}(hl:s.heap.IsList l vs.toArray)(h2:2<=vs.length)(h64:vs.length<64)
  (hk:∀ (s':Shared) (Q:SortKind->Shared->Prop),(∀ b o,s.heap.get? b=some o->s'.heap.get? b=some o)->Q κ s'->wpAny (model prog w) A.in1.in1 (keyKind' vs.toArray) Q (fun _ _=>False) s')
  (hr:∀ (s':Shared) (G:Array Nat->Shared->Prop),(∀ b o,s.heap.get? b=some o->s'.heap.get? b=some o)->G p s'->(kas_sort vs.length).kasWp (kas_ask prog w A.in1.in1 κ vs) G s')
  (h:Q (.ref (s.heap.objs.size+1)) { s with heap:=sortedAll s.heap vs (p.toList.map fun i=>vs.getD i Value.none).toArray }) :
  wpAny (model prog w) A (call (.builtin "sorted") [.ref l]) Q E s:=by
 have small:vs.length<=sizeLine:=by rw [sizeLine_eq];omega
 refine Calls.call_function_entry kind_sorted plain_sorted entry_sorted (args_sorted1 _) ?_
 unfold Builtin.«sorted»
 refine wpAny_bind (m:=checkCount "sorted" 1 1 _) (wpAny_pure (wpAny_bind (collect_list hl (wpAny_bind (wpAny_newList ?_ (by simpa using small))) (by simpa using small))))
 have zz:((s.heap.push (seqObj "list" #[] 0)).update s.heap.objs.size (Obj.mapSeq (·++vs.toArray))).objs.size=s.heap.objs.size+1:=by rw [Heap.size_update,size_push']
 obtain ⟨h3,hH⟩:∃ h3,h3=((s.heap.push (seqObj "list" #[] 0)).update s.heap.objs.size (Obj.mapSeq (·++vs.toArray))).push (seqObj "list" vs.toArray 0):=⟨_,rfl⟩
 have oL:h3.get? (s.heap.objs.size+1)=some (seqObj "list" vs.toArray 0):=by
  rw [hH,← zz]
  exact Heap.get?_push_size _ rfl
 have keep:∀ b o,s.heap.get? b=some o->h3.get? b=some o:=fun b o e=>by
  rw [hH]
  have hlt:=Heap.lt_size e
  refine Heap.get?_push_of_some _ ?_
  rw [Heap.get?_update_ne _ _ _ _ (Nat.ne_of_lt hlt)]
  exact Heap.get?_push_of_some _ e
 show wpAny _ _ _ _ _ { s with heap:=((s.heap.push (seqObj "list" #[] 0)).update s.heap.objs.size (Obj.mapSeq (·++vs.toArray))).push (seqObj "list" vs.toArray 0) }
 rw [zz,← hH]
 have k2:∀ s':Shared,Kept (s.heap.objs.size+1) { s with heap:=h3 } s'->∀ b o,s.heap.get? b=some o->s'.heap.get? b=some o:=fun s' kp b o e=>kp b o (Nat.ne_of_lt (Nat.lt_succ_of_lt (Heap.lt_size e))) (keep b o e)
 refine wpAny_bind (wpAny_holding (wpAny_call_entry slot_list_sort ⟨_,oL,rfl⟩ entry_list_sort (qbl (κ:=κ) (p:=p) oL h2 h64 (fun s' Q kp q=>wpAny_mono (hk s' Q (k2 s' kp) q) (fun _ _ z=>z) fun _ _ z=>z.elim) (fun s' G kp q=>hr s' G (k2 s' kp) q) ⟨_,rfl,?_⟩) (args_list_sort _)))
 refine wpAny_pure ⟨_,rfl,?_⟩
 have hA:sortedHeap h3 (s.heap.objs.size+1) vs (p.toList.map fun i=>vs.getD i Value.none).toArray=sortedAll s.heap vs (p.toList.map fun i=>vs.getD i Value.none).toArray:=by
  rw [hH]
  rfl
 rw [hA]
 exact h
theorem qag {l:Addr}{vs:List Value}{Q:Value->Shared->Prop}(hl:s.heap.IsList l vs.toArray)(h2:vs.length<2)
  (h:Q (.ref (s.heap.objs.size+1)) { s with heap:=sortedAll s.heap vs vs.toArray }) :
  wpAny (model prog w) A (call (.builtin "sorted") [.ref l]) Q E s:=by
 have small:vs.length<=sizeLine:=by rw [sizeLine_eq];omega
 refine Calls.call_function_entry kind_sorted plain_sorted entry_sorted (args_sorted1 _) ?_
 unfold Builtin.«sorted»
 refine wpAny_bind (m:=checkCount "sorted" 1 1 _) (wpAny_pure (wpAny_bind (collect_list hl (wpAny_bind (wpAny_newList ?_ (by simpa using small))) (by simpa using small))))
 have zz:((s.heap.push (seqObj "list" #[] 0)).update s.heap.objs.size (Obj.mapSeq (·++vs.toArray))).objs.size=s.heap.objs.size+1:=by rw [Heap.size_update,size_push']
 obtain ⟨h3,hH⟩:∃ h3,h3=((s.heap.push (seqObj "list" #[] 0)).update s.heap.objs.size (Obj.mapSeq (·++vs.toArray))).push (seqObj "list" vs.toArray 0):=⟨_,rfl⟩
 have oL:h3.get? (s.heap.objs.size+1)=some (seqObj "list" vs.toArray 0):=by
  rw [hH,← zz]
  exact Heap.get?_push_size _ rfl
 show wpAny _ _ _ _ _ { s with heap:=((s.heap.push (seqObj "list" #[] 0)).update s.heap.objs.size (Obj.mapSeq (·++vs.toArray))).push (seqObj "list" vs.toArray 0) }
 rw [zz,← hH]
 refine wpAny_bind (wpAny_holding (wpAny_call_entry slot_list_sort ⟨_,oL,rfl⟩ entry_list_sort (qbm oL h2 ⟨_,rfl,?_⟩) (args_list_sort _)))
 refine wpAny_pure ⟨_,rfl,?_⟩
 have hA:sortedHeap h3 (s.heap.objs.size+1) vs vs.toArray=sortedAll s.heap vs vs.toArray:=by
  rw [hH]
  rfl
 rw [hA]
 exact h
end
end L2
namespace L2
open PySem PySem.Spec PyProof.Rows PySem.W
def qaN (ds:List PyData)(i j:Nat):Option Bool:=match ds[i]?,ds[j]? with
 | some x,some y=>ltX x y
 | _,_=>none
def keyD:PyData->Nat
 | .tuple (.int _::_)=>0
 | .tuple (.tuple _::_)=>1
 | .int _=>2
 | _=>3
def qaY (ds:List PyData)(p:Array Nat):Option PyData:=if (p.toList.all fun i=>decide (i<ds.length))=true/\p.toList.length<=1000 then some (.list (p.toList.map fun i=>ds.getD i .none)) else none
def jr (k:Nat)(ds:List PyData):Bool:=(ds.all fun d=>keyD d==k)&&(decide (2<=ds.length)&&(decide (ds.length<64)&&(PyData.canLayAll0 ds&&decide (PyData.depthAll ds<=50))))
def zH:List PyData->Option PyData
 | [.list ds]=>if ds.length<2 then some (.list ds) else if jr 0 ds=true\/jr 1 ds=true then ob (runC (qaN ds) (kas_sort ds.length)) fun p=>qaY ds p else none
 | _=>none
section
variable {prog:Program}{w:World}{A:Around}{s:Shared}
theorem WX {b fin:Bool}{m:Nat}{Q:Bool->Shared->Prop}{r:Bool}(hu:A.units+m+1<cLine)(q:Q r s) :
  ∀ (xs ys:List PyData) (vs ws:List Value) (as bs:List Addr) (i:Nat),PyData.depthAll xs<=m->ReadsAll s.heap vs xs as->ReadsAll s.heap ws ys bs->PyData.canLayAll0 xs=true->PyData.canLayAll0 ys=true->ltXs xs ys=some r->
   (b=true->i=0->∀ x y,xs.head?=some x->ys.head?=some y->∃ n k,x=.int n/\y=.int k)->fin=decide (xs.length<ys.length)->KatLex prog w A b fin Q (vs.zip ws) i s:=by
 intro xs
 induction xs with
 | nil =>
  intro ys vs ws as bs i _ h1 h2 _ _ e _ hf
  cases h1
  rw [List.zip_nil_left]
  refine kat_nil ?_
  cases ys with
  | nil=>rw [ltXs] at e;cases e;rw [hf];simpa using q
  | cons y ys=>rw [ltXs] at e;cases e;rw [hf];simpa using q
 | cons x xs ih =>
  intro ys vs ws as bs i hm h1 h2 c1 c2 e hb hf
  cases h1 with
  | cons rx rxs =>
   cases ys with
   | nil =>
    cases h2
    rw [List.zip_nil_right]
    refine kat_nil ?_
    rw [ltXs] at e;cases e;rw [hf];simpa using q
   | cons y ys =>
    cases h2 with
    | cons ry rys =>
     have c1':x.canLay0=true/\PyData.canLayAll0 xs=true:=by simpa [PyData.canLayAll0] using c1
     have c2':y.canLay0=true/\PyData.canLayAll0 ys=true:=by simpa [PyData.canLayAll0] using c2
     have hd:max x.depth (PyData.depthAll xs)<=m:=by rw [PyData.depthAll] at hm;exact hm
     have m1:=Nat.le_trans (Nat.le_max_left x.depth (PyData.depthAll xs)) hd
     have m2:=Nat.le_trans (Nat.le_max_right x.depth (PyData.depthAll xs)) hd
     rw [ltXs] at e
     rw [List.zip_cons_cons]
     refine kat_cons (SeqAt.eqAt_reads x y A s _ _ _ _ rx ry c1'.1 c2'.1 (by have:=Nat.min_le_left x.depth y.depth;omega) prog w _ _ (kat_go (fun z=>?_) fun z=>?_))
     ·rw [if_pos z] at e
      refine kat_yes (ih ys _ _ _ _ (i+1) m2 rxs rys c1'.2 c2'.2 e (fun _ z=>by omega) ?_)
      rw [hf,List.length_cons,List.length_cons]
      exact decide_eq_decide.mpr (by omega)
     ·rw [if_neg (by rw [z];exact Bool.false_ne_true)] at e
      refine kat_no ?_
      cases hbi:(b&&i==0) with
      | true =>
       rw [Bool.and_eq_true] at hbi
       obtain ⟨n,k,rfl,rfl⟩:=hb hbi.1 (by simpa using hbi.2) x y rfl rfl
       cases rx;cases ry
       rw [ltX] at e
       cases e
       exact oneLt_int q
      | false =>
       exact kat_one _ _ (JK m x y A s _ _ _ _ r m1 rx ry c1'.1 c2'.1 hu e prog w _ _ q)
theorem J9 {h:Heap}:∀ {vs:List Value} {ds:List PyData} {as:List Addr},ReadsAll h vs ds as->vs.length=ds.length
 | _,_,_,.nil=>rfl
 | _,_,_,.cons _ t=>by rw [List.length_cons,List.length_cons,J9 t]
theorem J8 {h:Heap}:∀ {vs:List Value} {ds:List PyData} {as:List Addr} {i:Nat} {d:PyData},ReadsAll h vs ds as->ds[i]?=some d->∃ v bs,vs[i]?=some v/\Reads h v d bs
 | _,_,_,_,_,.nil,e=>by simp at e
 | _,_,_,0,_,.cons r _,e=>by simp at e;subst e;exact ⟨_,_,rfl,r⟩
 | _,_,_,i+1,d,.cons _ t,e=>by
  obtain ⟨v,bs,h1,h2⟩:=J8 (i:=i) (d:=d) t (by simpa using e)
  exact ⟨v,bs,by simpa using h1,h2⟩
theorem JD:∀ {ds:List PyData} {i:Nat} {d:PyData},PyData.canLayAll0 ds=true->ds[i]?=some d->d.canLay0=true/\d.depth<=PyData.depthAll ds
 | [],_,_,_,e=>by simp at e
 | x::xs,0,d,h,e=>by
  have h':x.canLay0=true/\PyData.canLayAll0 xs=true:=by simpa [PyData.canLayAll0] using h
  simp at e
  subst e
  exact ⟨h'.1,by rw [PyData.depthAll];exact Nat.le_max_left _ _⟩
 | x::xs,i+1,d,h,e=>by
  have h':x.canLay0=true/\PyData.canLayAll0 xs=true:=by simpa [PyData.canLayAll0] using h
  obtain ⟨h1,h2⟩:=JD (i:=i) (d:=d) h'.2 (by simpa using e)
  exact ⟨h1,Nat.le_trans h2 (by rw [PyData.depthAll];exact Nat.le_max_right _ _)⟩
theorem YF {h:Heap}{k:Nat}(hk:k<2):∀ {vs:List Value} {ds:List PyData} {as:List Addr},ReadsAll h vs ds as->(ds.all fun d=>keyD d==k)=true->∃ fs:List Value,KatTups h vs fs/\fs.length=vs.length/\∀ (M:Model),∀ f∈fs,Looks M h (typeOf f) (if k=0 then Value.type "int" else Value.type "tuple")
 | _,_,_,.nil,_=>⟨[],trivial,rfl,fun _ _ z=>nomatch z⟩
 | _,d::ds,_,.cons (d:=_) r t,e=>by
  rw [List.all_cons,Bool.and_eq_true] at e
  obtain ⟨fs,h1,h2,h3⟩:=YF hk t e.2
  have e1:keyD d=k:=by simpa using e.1
  cases d with
  | tuple xs =>
   cases r with
   | @tuple a o its n xs' as' g1 g2 g3 g4 =>
    cases xs with
    | nil=>rw [show keyD (.tuple [])=3 from rfl] at e1;omega
    | cons x xs =>
     obtain ⟨v,rv,q1,rx⟩:=J8 (i:=0) g4 rfl
     have h0:its[0]?=some v:=by rw [← Array.getElem?_toList];exact q1
     refine ⟨v::fs,KatTups.cons g1 g2 g3 h0 h1,by rw [List.length_cons,List.length_cons,h2],fun M f hf=>?_⟩
     rcases List.mem_cons.mp hf with rfl|hf
     ·cases x with
      | int n =>
       cases rx
       rw [show keyD (.tuple (.int n::xs))=0 from rfl] at e1
       rw [if_pos e1.symm]
       exact Looks.of_pure rfl
      | tuple ys =>
       rw [show keyD (.tuple (.tuple ys::xs))=1 from rfl] at e1
       cases rx with
       | tuple k1 k2 k3 k4 =>
        rw [if_neg (by omega),← k2]
        exact (Looks.ld k1).andThen .now
      | none=>rw [show keyD (.tuple (.none::xs))=3 from rfl] at e1;omega
      | bool _=>rw [show keyD (.tuple (.bool _::xs))=3 from rfl] at e1;omega
      | str _=>rw [show keyD (.tuple (.str _::xs))=3 from rfl] at e1;omega
      | list _=>rw [show keyD (.tuple (.list _::xs))=3 from rfl] at e1;omega
      | dict _=>rw [show keyD (.tuple (.dict _::xs))=3 from rfl] at e1;omega
     ·exact h3 M f hf
  | int n=>rw [show keyD (.int n)=2 from rfl] at e1;omega
  | none=>rw [show keyD .none=3 from rfl] at e1;omega
  | bool _=>rw [show keyD (.bool _)=3 from rfl] at e1;omega
  | str _=>rw [show keyD (.str _)=3 from rfl] at e1;omega
  | list _=>rw [show keyD (.list _)=3 from rfl] at e1;omega
  | dict _=>rw [show keyD (.dict _)=3 from rfl] at e1;omega
end
end L2
namespace L2
open PySem PySem.Spec PyProof.Rows PySem.W
section
variable {h h':Heap}
mutual
theorem qcI (k:∀ b o,h.get? b=some o->h'.get? b=some o):∀ {d:PyData} {v:Value} {as:List Addr},Reads h v d as->d.canLay0=true->Reads h' v d as
 | .none,_,_,r,_=>by cases r;exact .none
 | .bool _,_,_,r,_=>by cases r;exact .bool _
 | .int _,_,_,r,_=>by cases r;exact .int _ _
 | .str _,_,_,r,_=>by cases r;exact .str _ _
 | .list xs,_,_,r,c=>by
  cases r with
  | list e q g t=>exact .list (k _ _ e) q g (Zc k t (by simpa [PyData.canLay0] using c))
 | .tuple xs,_,_,r,c=>by
  cases r with
  | tuple e q g t=>exact .tuple (k _ _ e) q g (Zc k t (by simpa [PyData.canLay0] using c))
 | .dict _,_,_,_,c=>by simp [PyData.canLay0] at c
theorem Zc (k:∀ b o,h.get? b=some o->h'.get? b=some o):∀ {ds:List PyData} {vs:List Value} {as:List Addr},ReadsAll h vs ds as->PyData.canLayAll0 ds=true->ReadsAll h' vs ds as
 | [],_,_,r,_=>by cases r;exact .nil
 | d::ds,_,_,r,c=>by
  have c':d.canLay0=true/\PyData.canLayAll0 ds=true:=by simpa [PyData.canLayAll0] using c
  cases r with
  | cons r t=>exact .cons (qcI k r c'.1) (Zc k t c'.2)
end
end
theorem qdB {x y:PyData}{r:Bool}(hx:keyD x<2)(e:ltX x y=some r):∃ xs ys,x=.tuple xs/\y=.tuple ys/\ltXs xs ys=some r:=by
 cases x with
 | tuple xs =>
  cases y with
  | tuple ys=>rw [ltX] at e;exact ⟨xs,ys,rfl,rfl,e⟩
  | _=>simp [ltX] at e
 | int n=>simp [keyD] at hx
 | list xs=>simp [keyD] at hx
 | _=>simp [ltX] at e
theorem wQ {k:Nat}{xs:List PyData}(e:keyD (.tuple xs)=k)(h0:k=0):∀ x,xs.head?=some x->∃ n,x=.int n:=by
 intro x hx
 cases xs with
 | nil=>cases hx
 | cons y ys =>
  cases hx
  cases x with
  | int n=>exact ⟨n,rfl⟩
  | _=>(first|(simp [keyD] at e;omega)|(simp only [keyD] at e;omega))
theorem getD_some {α:Type}{xs:List α}{i:Nat}{x d:α}(e:xs[i]?=some x):xs.getD i d=x:=by rw [List.getD_eq_getElem?_getD,e];rfl
theorem Z3 {X:Cx}{k:Nat}(hr:Room k X.A):qfK X (.builtin "sorted") zH:=by
 intro pins s σ H xs us Q I r ⟨S,ds,d,m,h1,e,q⟩
 unfold zH at e
 split at e
 ·rename_i ds
  split at e
  ·rename_i hlt
   cases e
   obtain ⟨v,rfl,hv⟩:=h1.inv1
   obtain ⟨a,ys,rfl,hs,ht⟩:=hv.list_inv
   obtain ⟨u,rfl,ru⟩:=vals1 r
   cases (show u=Value.ref a from ru)
   obtain ⟨its,rv,pl,hz⟩:=I.list hs.sq
   have hlen:=rv.length
   have hl2:=ht.length
   refine qag pl.isList (by omega) ?_
   obtain ⟨en,ob⟩:=sortedAll_at s.heap its its.toArray
   have hfr:H (s.heap.objs.size+1)=none:=I.hok.fresh (Nat.le_succ _)
   exact ⟨.ref (s.heap.objs.size+1),_,I.laid (t':=s.toks) (o:=.lst ys) (fun b o e=>sortedAll_old e) (Nat.le_succ _) ⟨hz,_,en,rv,ob⟩,rfl,q _ _ (Same.lay hfr) hfr (OwnO.laid hfr ht)⟩
  split at e
  ·rename_i hok
   obtain ⟨p,e1,e2⟩:=qy e
   obtain ⟨v,rfl,hv⟩:=h1.inv1
   obtain ⟨a,ys,rfl,hs,ht⟩:=hv.list_inv
   obtain ⟨u,rfl,ru⟩:=vals1 r
   cases (show u=Value.ref a from ru)
   obtain ⟨its,rv,pl,hz⟩:=I.list hs.sq
   obtain ⟨kk,hk2,hk⟩:∃ kk,kk<2/\jr kk ds=true:=hok.elim (fun z=>⟨0,by decide,z⟩) fun z=>⟨1,by decide,z⟩
   unfold jr at hk
   simp only [Bool.and_eq_true,decide_eq_true_eq] at hk
   obtain ⟨hall,l2,l64,hcan,hdep⟩:=hk
   obtain ⟨as,ra⟩:=ht.reads I hcan rv
   have hlen:=J9 ra
   unfold qaY at e2
   split at e2
   ·rename_i hin
    cases e2
    have hin':∀ i∈p.toList,i<ds.length:=fun i hi=>by
     have:=List.all_eq_true.mp hin.1 i hi
     simpa using this
    have hu:=hr.units
    obtain ⟨T,hT⟩:∃ T,T=(if kk=0 then Value.type "int" else Value.type "tuple"):=⟨_,rfl⟩
    have hT2:(T==T)=true:=by rw [hT];split<;>rfl
    have hb:(T != Value.type "tuple")=true->kk=0:=fun z=>by
     rw [hT] at z
     by_cases h0:kk=0
     ·exact h0
     ·rw [if_neg h0] at z;exact absurd z (by decide)
    refine qaf (κ:=tuples' (T != Value.type "tuple")) (p:=p) pl.isList (by omega) (by omega) (fun s' Q' keep q'=>?_) (fun s' G keep g=>?_) ?_
    ·obtain ⟨fs,t1,t2,t3⟩:=YF hk2 (Zc keep ra hcan) hall
     exact kat_kind t1 (by omega) (fun f hf=>by rw [hT];exact t3 _ f hf) hT2 q'
    ·have ra':=Zc keep ra hcan
     rw [hlen]
     refine qb4 (fun i j b C el hC=>?_) _ p e1 g
     unfold qaN at el
     split at el
     ·rename_i x y ex ey
      obtain ⟨vx,bx,gx,rx⟩:=J8 ra' ex
      obtain ⟨vy,byy,gy,ry⟩:=J8 ra' ey
      obtain ⟨cx,dx⟩:=JD hcan ex
      obtain ⟨cy,dy⟩:=JD hcan ey
      have kx:keyD x=kk:=by
       have:=List.all_eq_true.mp hall x (List.mem_of_getElem? ex)
       simpa using this
      have ky:keyD y=kk:=by
       have:=List.all_eq_true.mp hall y (List.mem_of_getElem? ey)
       simpa using this
      obtain ⟨xs,ys',rfl,rfl,elx⟩:=qdB (by omega) el
      show kas_ask X.prog X.w X.A.in1.in1 _ its i j C s'
      unfold kas_ask
      rw [getD_some gx,getD_some gy]
      cases rx with
      | @tuple ax ox ax1 nx _ _ x1 x2 x3 x4 =>
       cases ry with
       | @tuple ay oy ay1 ny _ _ y1 y2 y3 y4 =>
        have dxs:PyData.depthAll xs<=50:=by rw [PyData.depth] at dx;omega
        refine kat_lt x1 x3 y1 y3 (WX (m:=50) (by show X.A.units+1+1+50+1<cLine;omega) hC xs ys' _ _ _ _ 0 dxs x4 y4 (by simpa [PyData.canLay0] using cx) (by simpa [PyData.canLay0] using cy) elx (fun hbb _ x y hx hy=>?_) ?_)
        ·have h0:=hb hbb
         obtain ⟨n1,rfl⟩:=wQ kx h0 x hx
         obtain ⟨n2,rfl⟩:=wQ ky h0 y hy
         exact ⟨n1,n2,rfl,rfl⟩
        ·have z1:=J9 x4
         have z2:=J9 y4
         rw [Array.length_toList] at z1 z2
         rw [z1,z2]
     ·cases el
    ·obtain ⟨en,ob⟩:=sortedAll_at s.heap its (p.toList.map fun i=>its.getD i Value.none).toArray
     have hfr:H (s.heap.objs.size+1)=none:=I.hok.fresh (Nat.le_succ _)
     have dl:DenL X.K H S (p.toList.map fun i=>ys.getD i .non) (p.toList.map fun i=>ds.getD i .none):=by
      generalize p.toList=pl at hin'
      induction pl with
      | nil=>exact .nil
      | cons i pl ih =>
       have hi:=hin' i (.head _)
       obtain ⟨vy,gy,dy⟩:=ht.get (List.getElem?_eq_getElem hi)
       rw [List.map_cons,List.map_cons,getD_some gy,getD_some (List.getElem?_eq_getElem hi)]
       exact .cons dy (ih fun j hj=>hin' j (.tail _ hj))
     have vl:Vals (p.toList.map fun i=>ys.getD i .non) (p.toList.map fun i=>its.getD i Value.none):=by
      generalize p.toList=pl at hin'
      induction pl with
      | nil=>exact .nil
      | cons i pl ih =>
       have hi:i<ys.length:=by rw [ht.length];exact hin' i (.head _)
       obtain ⟨w,gw,rw'⟩:=rv.get (List.getElem?_eq_getElem hi)
       rw [List.map_cons,List.map_cons,getD_some (List.getElem?_eq_getElem hi),getD_some gw]
       exact .cons rw' (ih fun j hj=>hin' j (.tail _ hj))
     have zz:(p.toList.map fun i=>ys.getD i V.non).length<=sizeLine:=by rw [List.length_map];exact Nat.le_of_lt (QL hin.2)
     refine ⟨.ref (s.heap.objs.size+1),_,I.laid (t':=s.toks) (o:=.lst (p.toList.map fun i=>ys.getD i .non)) (fun b o e=>sortedAll_old e) (Nat.le_succ _) ⟨zz,_,en,vl,ob⟩,rfl,q _ _ (Same.lay hfr) hfr (OwnO.laid hfr dl)⟩
   ·cases e2
  ·cases e
 ·cases e
end L2
namespace L2
open PySem PySem.Spec PyProof.Rows
def Wm (K:PySem.W.Frag)(mg:Str->Option Value)(x:Str)(d:PyData):Prop:=∃ v u,mg x=some u/\RelV v u/\∀ H S,Den K H S v d
theorem YS {X:Cx}{M:List Nat}{x:Str}{d:PyData}{pos:Pos}(C:Wm X.K X.mg x d)(hg:Gl X x)(hdb:(x==("__debug__" : Str))=false:=by decide +kernel):PD X M (.Name x pos) (kd d):=by
 obtain ⟨v,u,m,r,hd⟩:=C
 exact qfg hg m r hd hdb
end L2
namespace L2
open PySem
theorem Qv:bootBuiltins "sorted" = some (.builtin "sorted"):=by decide +kernel
end L2
namespace L2
open PySem PySem.Spec PyProof.Rows
theorem ob_s {α β:Type}(x:α)(f:α->Option β):ob (some x) f=f x:=rfl
theorem vr_z (o:Option PyData)(ρ:Rho):vr 0 (o::ρ)=o:=rfl
theorem vr_s (n:Nat)(o:Option PyData)(ρ:Rho):vr (n+1) (o::ρ)=vr n ρ:=rfl
theorem atI0 {α:Type}(x:α)(xs:List α):atI (x::xs) 0=some x:=by simp [atI,ixN]
theorem j6 {α:Type}(x:α)(xs:List α)(k:Nat):atI (x::xs) ((k:Int)+1)=atI xs (k:Int):=by
 unfold atI ixN
 have h1:(0:Int)<=(k:Int)+1:=by omega
 have h2:(0:Int)<=(k:Int):=by omega
 rw [if_pos h1,if_pos h2]
 by_cases h:(k:Int)<xs.length
 ·have h':(k:Int)+1<((x::xs).length:Int):=by rw [List.length_cons];omega
  rw [if_pos h,if_pos h']
  have e1:((k:Int)+1).toNat=k+1:=by omega
  have e2:(k:Int).toNat=k:=by omega
  rw [e1,e2]
  rfl
 ·have h':¬ (k:Int)+1<((x::xs).length:Int):=by rw [List.length_cons];omega
  rw [if_neg h,if_neg h']
  rfl
theorem atI1 {α:Type}(x y:α)(xs:List α):atI (x::y::xs) 1=some y:=(j6 x (y::xs) 0).trans (atI0 y xs)
theorem atI2 {α:Type}(x y z:α)(xs:List α):atI (x::y::z::xs) 2=some z:=(j6 x (y::z::xs) 1).trans (atI1 y z xs)
theorem atI3 {α:Type}(x y z a:α)(xs:List α):atI (x::y::z::a::xs) 3=some a:=(j6 x (y::z::a::xs) 2).trans (atI2 y z a xs)
theorem atI4 {α:Type}(x y z a b:α)(xs:List α):atI (x::y::z::a::b::xs) 4=some b:=(j6 x (y::z::a::b::xs) 3).trans (atI3 y z a b xs)
theorem atI5 {α:Type}(x y z a b c:α)(xs:List α):atI (x::y::z::a::b::c::xs) 5=some c:=(j6 x (y::z::a::b::c::xs) 4).trans (atI4 y z a b c xs)
theorem qU {i j:Int}(h:IntMulOk i j):mulD (.int i) (.int j)=some (.int (i*j)):=by
 show (if IntMulOk i j then some (PyData.int (i*j)) else none)=_
 rw [if_pos h]
def Bd (n:Nat)(i:Int):Prop:=Builtin.Int.intBits i<=n
theorem Bd.ok {n m:Nat}{i j:Int}(h:Bd n i)(g:Bd m j)(e:n+m<=134217728:=by decide):IntMulOk i j:=IntMulOk.of_le h g e
theorem Bd.mul {n m:Nat}{i j:Int}(h:Bd n i)(g:Bd m j):Bd (n+m) (i*j):=intBits_mul_le h g
theorem Bd.add {n m:Nat}{i j:Int}(h:Bd n i)(g:Bd m j):Bd (max n m+1) (i+j):=intBits_add_le h g
theorem Bd.sub {n m:Nat}{i j:Int}(h:Bd n i)(g:Bd m j):Bd (max n m+1) (i-j):=intBits_sub_le h g
theorem Bd.neg {n:Nat}{i:Int}(h:Bd n i):Bd n (-i):=intBits_neg_le h
theorem Bd.mono {n m:Nat}{i:Int}(h:Bd n i)(e:n<=m:=by decide):Bd m i:=Nat.le_trans h e
theorem Bd.of {n:Nat}{i:Int}(h:i.natAbs<2 ^ n):Bd n i:=intBits_le_iff.mpr h
theorem Bd.div {n:Nat}{i k:Int}(hk:0<=k)(h:Bd n i):Bd n (i / k):=by
 rw [← Int.fdiv_eq_ediv_of_nonneg i hk]
 exact intBits_fdiv_le h
theorem natLit (n:Nat):((no_index (OfNat.ofNat n):Nat):Int)=(OfNat.ofNat n:Int):=rfl
theorem qeJ (i j:Int):eqD (.int i) (.int j)=some (.bool (i==j)):=rfl
theorem qbX (i j:Int):neD (.int i) (.int j)=some (.bool (!(i==j))):=rfl
theorem pow_a:powD (.int 7919) (.int 8)=some (.int (7919 ^ 8)):=rfl
theorem pow_b:powD (.int 10) (.int 30)=some (.int (10 ^ 30)):=rfl
theorem jN (i:Int){j:Int}(h:0<j):modD (.int i) (.int j)=some (.int (i % j)):=by
 show (if 0<j then some (PyData.int (i % j)) else none)=_
 rw [if_pos h]
theorem Yy (i:Int){j:Int}(h:0<j)(h2:j<1073741824):Q6 (.int i) (.int j)=some (.int (i / j)):=by
 show (if CDiv i j then some (PyData.int (i / j)) else none)=_
 rw [if_pos ⟨h,h2⟩]
def wI (o:Option Out)(w:Rho->Option Out):Option Out:=match o with | some (.nx ρ')=>w ρ'|o=>o
theorem qd7 (u w:Rho->Option Out)(ρ:Rho):seqO u w ρ=wI (u ρ) w:=by
 unfold seqO ob wI
 cases u ρ with
 | none=>rfl
 | some o=>cases o<;>rfl
theorem qap (ρ:Rho)(w:Rho->Option Out):wI (some (.nx ρ)) w=w ρ:=rfl
theorem qc2 (d:PyData)(w:Rho->Option Out):wI (some (.rt d)) w=some (.rt d):=rfl
theorem qc0 (ρ:Rho)(w:Rho->Option Out):wI (some (.bk ρ)) w=some (.bk ρ):=rfl
theorem qc1 (ρ:Rho)(w:Rho->Option Out):wI (some (.ct ρ)) w=some (.ct ρ):=rfl
def ifO {α:Type}(b:Option Bool)(u w:Rho->Option α)(ρ:Rho):Option α:=match b with | some true=>u ρ|some false=>w ρ|none=>none
theorem ifO_t {α:Type}(u w:Rho->Option α)(ρ:Rho):ifO (some true) u w ρ=u ρ:=rfl
theorem ifO_f {α:Type}(u w:Rho->Option α)(ρ:Rho):ifO (some false) u w ρ=w ρ:=rfl
theorem sIf_b (p:Rho->Option Bool)(u w:Rho->Option Out)(ρ:Rho):sIf p u w ρ=ifO (p ρ) u w ρ:=by
 unfold sIf ob ifO
 cases p ρ with
 | none=>rfl
 | some b=>cases b<;>rfl
theorem vIf_b (p:Rho->Option Bool)(u w:Rho->Option PyData)(ρ:Rho):vIf p u w ρ=ifO (p ρ) u w ρ:=by
 unfold vIf ob ifO
 cases p ρ with
 | none=>rfl
 | some b=>cases b<;>rfl
theorem tA_b (p q:Rho->Option Bool)(ρ:Rho):tA p q ρ=ifO (p ρ) q (fun _=>some false) ρ:=by
 unfold tA ob ifO
 cases p ρ with
 | none=>rfl
 | some b=>cases b<;>rfl
theorem tO_b (p q:Rho->Option Bool)(ρ:Rho):tO p q ρ=ifO (p ρ) (fun _=>some true) q ρ:=by
 unfold tO ob ifO
 cases p ρ with
 | none=>rfl
 | some b=>cases b<;>rfl
theorem vA_b (f g:Rho->Option PyData)(ρ:Rho):vA f g ρ=ifO (ob (f ρ) j0) g (fun _=>some (.bool false)) ρ:=by
 unfold vA ob ifO
 cases f ρ with
 | none=>rfl
 | some x =>
  dsimp only
  cases j0 x with
  | none=>rfl
  | some b=>cases b<;>rfl
theorem vO_b (f g:Rho->Option PyData)(ρ:Rho):vO f g ρ=ifO (ob (f ρ) j0) (fun _=>some (.bool true)) g ρ:=by
 unfold vO ob ifO
 cases f ρ with
 | none=>rfl
 | some x =>
  dsimp only
  cases j0 x with
  | none=>rfl
  | some b=>cases b<;>rfl
def setO (o:Option PyData)(i:Nat)(ρ:Rho):Option Out:=match o with | some d=>some (.nx (ρ.set i (some d)))|none=>none
theorem qhA (i:Nat)(f:Rho->Option PyData)(ρ:Rho):sSet i f ρ=setO (f ρ) i ρ:=by
 unfold sSet ob setO
 cases f ρ<;>rfl
theorem qhE (d:PyData)(i:Nat)(ρ:Rho):setO (some d) i ρ=some (.nx (ρ.set i (some d))):=rfl
def binO (a b:Option PyData)(g:PyData->PyData->Option PyData):Option PyData:=match a,b with | some x,some y=>g x y|_,_=>none
theorem ev2_b (fa fb:Rho->Option PyData)(g:PyData->PyData->Option PyData)(ρ:Rho):ev2 fa fb g ρ=binO (fa ρ) (fb ρ) g:=by
 unfold ev2 ob binO
 cases fa ρ<;>cases fb ρ<;>rfl
theorem qgf (x y:PyData)(g:PyData->PyData->Option PyData):binO (some x) (some y) g=g x y:=rfl
def Jz (a:Option PyData)(b:Option (List PyData)):Option (List PyData):=match a,b with | some x,some xs=>some (x::xs)|_,_=>none
theorem aC_b (fa:Rho->Option PyData)(fs:Rho->Option (List PyData))(ρ:Rho):aC fa fs ρ=Jz (fa ρ) (fs ρ):=by
 unfold aC ob Jz
 cases fa ρ<;>cases fs ρ<;>rfl
theorem qeF (x:PyData)(xs:List PyData):Jz (some x) (some xs)=some (x::xs):=rfl
def qc3 (n:Nat)(a:Option (List PyData))(h:List PyData->Option PyData):Option PyData:=match a with | some ds=>if ds.length=n then h ds else none|none=>none
theorem evC_b (n:Nat)(fs:Rho->Option (List PyData))(h:List PyData->Option PyData)(ρ:Rho):evC n fs h ρ=qc3 n (fs ρ) h:=by
 unfold evC ob qc3
 cases fs ρ<;>rfl
theorem qes (n:Nat)(ds:List PyData)(h:List PyData->Option PyData):qc3 n (some ds) h=if ds.length=n then h ds else none:=rfl
def qbD (b:Option Bool)(tt:Rho->Option Bool)(te:Rho->Option PyData)(ρ:Rho)(d:PyData)(ds:List PyData):Option (List PyData):=match b with | some true=>Jz (te (ρ++[some d])) (zR tt te ρ ds)|some false=>zR tt te ρ ds|none=>none
theorem qbC (tt:Rho->Option Bool)(te:Rho->Option PyData)(ρ:Rho)(d:PyData)(ds:List PyData):zR tt te ρ (d::ds)=qbD (tt (ρ++[some d])) tt te ρ d ds:=by
 rw [zR]
 unfold ob qbD Jz
 cases tt (ρ++[some d]) with
 | none=>rfl
 | some b =>
  cases b with
  | false=>rfl
  | true =>
   dsimp only [if_true]
   rw [if_pos rfl]
   cases te (ρ++[some d])<;>cases zR tt te ρ ds<;>rfl
theorem qeA (tt:Rho->Option Bool)(te:Rho->Option PyData)(ρ:Rho):zR tt te ρ []=some []:=rfl
theorem qbF (tt:Rho->Option Bool)(te:Rho->Option PyData)(ρ:Rho)(d:PyData)(ds:List PyData):qbD (some true) tt te ρ d ds=Jz (te (ρ++[some d])) (zR tt te ρ ds):=rfl
theorem qbE (tt:Rho->Option Bool)(te:Rho->Option PyData)(ρ:Rho)(d:PyData)(ds:List PyData):qbD (some false) tt te ρ d ds=zR tt te ρ ds:=rfl
def YJ (a:Option (List PyData)):Option PyData:=match a with | some ys=>some (.list ys)|none=>none
def qda (a:Option (List PyData))(n:Nat)(tt:Rho->Option Bool)(te:Rho->Option PyData)(ρ:Rho):Option PyData:=match a with | some ds=>if ρ.length=n/\ds.length<=1000 then YJ (zR tt te ρ ds) else none|none=>none
theorem qeC (n:Nat)(fi:Rho->Option (List PyData))(tt:Rho->Option Bool)(te:Rho->Option PyData)(ρ:Rho):Qh n fi tt te ρ=qda (fi ρ) n tt te ρ:=by
 unfold Qh ob qda YJ
 cases fi ρ with
 | none=>rfl
 | some ds =>
  dsimp only
  split
  ·cases zR tt te ρ ds<;>rfl
  ·rfl
theorem qew (ds:List PyData)(n:Nat)(tt:Rho->Option Bool)(te:Rho->Option PyData)(ρ:Rho):qda (some ds) n tt te ρ=if ρ.length=n/\ds.length<=1000 then YJ (zR tt te ρ ds) else none:=rfl
theorem qe4 (ds:List PyData):YJ (some ds)=some (.list ds):=rfl
def forI (a:Option (List PyData))(g:PyData->Rho->Option Rho)(u:Rho->Option Out)(ρ:Rho):Option Out:=match a with | some ds=>forD g u ds ρ|none=>none
theorem qhw (fi:Rho->Option (List PyData))(g:PyData->Rho->Option Rho)(u:Rho->Option Out)(ρ:Rho):sFor fi g u ρ=forI (fi ρ) g u ρ:=by
 unfold sFor ob forI
 cases fi ρ<;>rfl
theorem qgs (ds:List PyData)(g:PyData->Rho->Option Rho)(u:Rho->Option Out)(ρ:Rho):forI (some ds) g u ρ=forD g u ds ρ:=rfl
def forO (o:Option Out)(g:PyData->Rho->Option Rho)(u:Rho->Option Out)(ds:List PyData):Option Out:=match o with
 | some (.nx ρ')=>forD g u ds ρ'
 | some (.ct ρ')=>forD g u ds ρ'
 | some (.bk ρ')=>some (.nx ρ')
 | some (.rt r)=>some (.rt r)
 | none=>none
theorem Wy (g:PyData->Rho->Option Rho)(u:Rho->Option Out)(d:PyData)(ds:List PyData)(ρ:Rho):forD g u (d::ds) ρ=forO (ob (g d ρ) u) g u ds:=by
 rw [forD]
 unfold ob forO
 cases g d ρ with
 | none=>rfl
 | some ρ1 =>
  dsimp only
  cases u ρ1 with
  | none=>rfl
  | some o=>cases o<;>rfl
theorem qgr (g:PyData->Rho->Option Rho)(u:Rho->Option Out)(ρ:Rho):forD g u [] ρ=some (.nx ρ):=rfl
theorem Yb (ρ:Rho)(g:PyData->Rho->Option Rho)(u:Rho->Option Out)(ds:List PyData):forO (some (.nx ρ)) g u ds=forD g u ds ρ:=rfl
theorem qeO (ρ:Rho)(g:PyData->Rho->Option Rho)(u:Rho->Option Out)(ds:List PyData):forO (some (.ct ρ)) g u ds=forD g u ds ρ:=rfl
theorem qeN (ρ:Rho)(g:PyData->Rho->Option Rho)(u:Rho->Option Out)(ds:List PyData):forO (some (.bk ρ)) g u ds=some (.nx ρ):=rfl
theorem qbO (d:PyData)(g:PyData->Rho->Option Rho)(u:Rho->Option Out)(ds:List PyData):forO (some (.rt d)) g u ds=some (.rt d):=rfl
def nxO (o:Option Rho):Option Out:=match o with | some ρ=>some (.nx ρ)|none=>none
def asgO (o:Option PyData)(g:PyData->Rho->Option Rho)(ρ:Rho):Option Out:=match o with | some d=>nxO (g d ρ)|none=>none
theorem qhs (f:Rho->Option PyData)(g:PyData->Rho->Option Rho)(ρ:Rho):sAsg f g ρ=asgO (f ρ) g ρ:=by
 unfold sAsg ob asgO nxO
 cases f ρ with
 | none=>rfl
 | some d=>dsimp only;cases g d ρ<;>rfl
theorem qgb (d:PyData)(g:PyData->Rho->Option Rho)(ρ:Rho):asgO (some d) g ρ=nxO (g d ρ):=rfl
theorem nxO_s (ρ:Rho):nxO (some ρ)=some (.nx ρ):=rfl
def retO (o:Option PyData):Option Out:=match o with | some d=>some (.rt d)|none=>none
theorem qhz (f:Rho->Option PyData)(ρ:Rho):sRet f ρ=retO (f ρ):=by
 unfold sRet ob retO
 cases f ρ<;>rfl
theorem qhq (d:PyData):retO (some d)=some (.rt d):=rfl
theorem gsN_n (ρ:Rho):gsN [] ρ=some ρ:=rfl
theorem gsC_c (g1:PyData->Rho->Option Rho)(g2:List PyData->Rho->Option Rho)(d:PyData)(r:List PyData)(ρ:Rho):gsC g1 g2 (d::r) ρ=ob (g1 d ρ) (g2 r):=rfl
theorem qhQ (n:Nat)(g:List PyData->Rho->Option Rho)(ds:List PyData)(ρ:Rho):unpD n g (.tuple ds) ρ=if ds.length=n then g ds ρ else none:=rfl
theorem qhB (ds:List PyData):seqD (.list ds)=some ds:=rfl
theorem qhC (ds:List PyData):seqD (.tuple ds)=some ds:=rfl
theorem ixD_l (ds:List PyData)(i:Int):ixD (.list ds) (.int i)=atI ds i:=rfl
theorem ixD_t (ds:List PyData)(i:Int):ixD (.tuple ds) (.int i)=atI ds i:=rfl
theorem qgJ (ds:List PyData):lenD [.list ds]=some (.int ds.length):=rfl
theorem qgK (ds:List PyData):lenD [.tuple ds]=some (.int ds.length):=rfl
theorem qee (ds:List PyData):JP [.list ds]=some (.tuple ds):=rfl
theorem qef (ds:List PyData):JP [.tuple ds]=some (.tuple ds):=rfl
theorem qe2 (ds:List PyData):wY [.list ds]=some (.list ds):=rfl
theorem qe3 (ds:List PyData):wY [.tuple ds]=some (.list ds):=rfl
theorem qer (b:Bool):j0 (.bool b)=some b:=rfl
theorem qg3 (d:PyData):outD (.rt d)=some d:=rfl
theorem qg2 (ρ:Rho):outD (.nx ρ)=some .none:=rfl
theorem qf6 (i j:Int):qbv (.int i) (.int j)=some (.int (i+j)):=rfl
def takO (b:Bool)(o:Option PyData)(i:Nat)(ρ:Rho):Option Out:=match b,o with | true,some d=>some (.nx (ρ.set i (some d)))|_,_=>none
theorem qfC (i:Nat)(f:Rho->Option PyData)(ρ:Rho):jC i f ρ=takO (decide (i<ρ.length)) (f ρ) i ρ:=by
 unfold jC ob takO
 by_cases h:i<ρ.length
 ·rw [if_pos h,decide_eq_true h]
  cases f ρ<;>rfl
 ·rw [if_neg h,decide_eq_false h]
theorem qhK (d:PyData)(i:Nat)(ρ:Rho):takO true (some d) i ρ=some (.nx (ρ.set i (some d))):=rfl
def flaO (o:Option PyData):Option PyData:=match o with | some d=>if flat d=true then some d else none|none=>none
theorem qeL (f:Rho->Option PyData)(ρ:Rho):wK f ρ=flaO (f ρ):=by
 unfold wK ob flaO
 cases f ρ<;>rfl
theorem qgo (d:PyData):flaO (some d)=if flat d=true then some d else none:=rfl
def flgO (o:Option PyData):Option PyData:=match o with | some d=>if wL d=true then some d else none|none=>none
theorem qeM (f:Rho->Option PyData)(ρ:Rho):qfN f ρ=flgO (f ρ):=by
 unfold qfN ob flgO
 cases f ρ<;>rfl
theorem qgp (d:PyData):flgO (some d)=if wL d=true then some d else none:=rfl
def appO (l d:Option PyData)(i:Nat)(ρ:Rho):Option Out:=match l,d with | some x,some y=>setO (appD x y) i ρ|_,_=>none
theorem qhr (i:Nat)(f:Rho->Option PyData)(ρ:Rho):sApp i f ρ=appO (vr i ρ) (f ρ) i ρ:=by
 unfold sApp ob appO setO
 cases vr i ρ with
 | none=>rfl
 | some x =>
  cases f ρ with
  | none=>rfl
  | some y=>dsimp only;cases appD x y<;>rfl
theorem qf9 (x y:PyData)(i:Nat)(ρ:Rho):appO (some x) (some y) i ρ=setO (appD x y) i ρ:=rfl
theorem qa8 (ds:List PyData)(d:PyData):appD (.list ds) d=if ds.length<1000 then some (.list (ds++[d])) else none:=rfl
def clrO (l:Option PyData)(i:Nat)(ρ:Rho):Option Out:=match l with | some (.list _)=>some (.nx (ρ.set i (some (.list []))))|_=>none
theorem qhu (i:Nat)(ρ:Rho):sClr i ρ=clrO (vr i ρ) i ρ:=by
 unfold sClr ob clrO
 cases vr i ρ with
 | none=>rfl
 | some x=>cases x<;>rfl
theorem qgg (ds:List PyData)(i:Nat)(ρ:Rho):clrO (some (.list ds)) i ρ=some (.nx (ρ.set i (some (.list [])))):=rfl
theorem qg4 (d:PyData):outF (.rt d)=some d:=rfl
theorem isD_n (x:PyData):isD x .none=some (.bool (isNone x)):=by cases x<;>rfl
theorem qgB (x:PyData):isnD x .none=some (.bool (!isNone x)):=by cases x<;>rfl
theorem isD_b (b c:Bool):isD (.bool b) (.bool c)=some (.bool (b==c)):=rfl
theorem qgA (b c:Bool):isnD (.bool b) (.bool c)=some (.bool (!(b==c))):=rfl
def sliO (a:Option PyData)(l h:Option (Option Int)):Option PyData:=match a,l,h with | some x,some l,some h=>sliD x l h|_,_,_=>none
theorem evS_b (fa:Rho->Option PyData)(fl fh:Rho->Option (Option Int))(ρ:Rho):evS fa fl fh ρ=sliO (fa ρ) (fl ρ) (fh ρ):=by
 unfold evS ob sliO
 cases fa ρ<;>cases fl ρ<;>cases fh ρ<;>rfl
theorem qhF (x:PyData)(l h:Option Int):sliO (some x) (some l) (some h)=sliD x l h:=rfl
def prtO (a:Option PyData):Option (Option Int):=match a with | some (.int i)=>some (some i)|_=>none
theorem oS_b (f:Rho->Option PyData)(ρ:Rho):oS f ρ=prtO (f ρ):=by
 unfold oS ob prtO
 cases f ρ with
 | none=>rfl
 | some d=>cases d<;>rfl
theorem qhi (i:Int):prtO (some (.int i))=some (some i):=rfl
theorem qhH (i j:Int):subD (.int i) (.int j)=some (.int (i-j)):=rfl
theorem qgS (i:Int):negD (.int i)=some (.int (-i)):=rfl
theorem qgL (i j:Int):ltD2 (.int i) (.int j)=some (.bool (decide (i<j))):=by
 show (if _ then ob (ltX (.int i) (.int j)) _ else none)=_
 rw [if_pos ⟨rfl,rfl,Nat.zero_le 60⟩,ltX]
 rfl
theorem leD_i (i j:Int):leD (.int i) (.int j)=some (.bool (decide (i<=j))):=rfl
theorem gtD_i (i j:Int):gtD (.int i) (.int j)=some (.bool (decide (j<i))):=rfl
theorem geD_i (i j:Int):geD (.int i) (.int j)=some (.bool (decide (j<=i))):=rfl
theorem qgz (T:String)(ds:List PyData):isiT T (.tuple ds)=(T == "tuple" || T == "object"):=rfl
theorem qgw (T:String)(ds:List PyData):isiT T (.list ds)=(T == "list" || T == "object"):=rfl
theorem qgv (T:String)(i:Int):isiT T (.int i)=(T == "int" || T == "object"):=rfl
theorem qgu (T:String)(b:Bool):isiT T (.bool b)=(T == "bool" || T == "int" || T == "object"):=rfl
theorem qgy (T:String)(x:Str):isiT T (.str x)=(T == "str" || T == "object"):=rfl
theorem qgx (T:String):isiT T .none=(T == "NoneType" || T == "object"):=rfl
theorem qfw (j:Int):Z8 [.int j]=if -1000<=j/\j<=1000 then some (rngL 0 j.toNat) else none:=rfl
theorem qfx (i j:Int):rng2D [.int i,.int j]=if (-1000<=i/\i<=1000)/\(-1000<=j/\j<=1000) then some (rngL i (j-i).toNat) else none:=rfl
def S3 (a b c:Int):PyData:=.tuple [.int a,.int b,.int c]
def T3 (p q r:PyData):PyData:=.tuple [p,q,r]
theorem qgk (a b c:Int):PyData.eqv (S3 a b c) (S3 a b c)=true:=by
 show ((a==a)&&((b==b)&&((c==c)&&true)))=true
 simp
end L2
namespace L2
open PySem PySem.Spec PyProof.Rows
section
variable {X:Cx}{G:Gm}{M M' Mb L:List Nat}{fr:Fr}{a b c:Expr}{es:List Expr}{f fk g:Rho->Option PyData}{pos:Pos}{u:Rho->Option Out}
theorem DenL.set {K:PySem.W.Frag}{H:Hp}{S:Av}:∀ {vs:List V} {ds:List PyData} {v:V} {d:PyData} (j:Nat),DenL K H S vs ds->Den K H S v d->DenL K H S (vs.set j v) (ds.set j d)
 | _,_,_,_,_,.nil,_=>.nil
 | _,_,_,_,0,.cons _ t,q=>.cons q t
 | _,_,_,_,j+1,.cons h t,q=>.cons h (t.set j q)
theorem DenL.dropLast {K:PySem.W.Frag}{H:Hp}{S:Av}:∀ {vs:List V} {ds:List PyData},DenL K H S vs ds->DenL K H S vs.dropLast ds.dropLast
 | _,_,.nil=>.nil
 | _,_,.cons h .nil=>.nil
 | _,_,.cons h (.cons h2 t)=>.cons h (DenL.dropLast (.cons h2 t))
def setD:PyData->PyData->PyData->Option PyData
 | .list ds,.int k,d=>ob (ixN ds.length k) fun j=>some (.list (ds.set j d))
 | _,_,_=>none
def sPut (i:Nat)(fk f:Rho->Option PyData):Rho->Option Out:=fun ρ=>ob (f ρ) fun d=>ob (vr i ρ) fun l=>ob (fk ρ) fun k=>ob (setD l k d) fun l'=>some (.nx (ρ.set i (some l')))
def popD:PyData->Option (PyData×PyData)
 | .list ds=>ob (ds[ds.length-1]?) fun d=>some (d,.list ds.dropLast)
 | _=>none
def sPop (i j:Nat):Rho->Option Out:=fun ρ=>ob (vr i ρ) fun l=>ob (popD l) fun r=>some (.nx ((ρ.set i (some r.2)).set j (some r.1)))
def yD:PyData->PyData->Option (PyData×PyData)
 | .list ds,.int k=>ob (if -1000<=k/\k<=1000 then seqIndex? k ds.length else none) fun n=>ob (ds[n]?) fun d=>some (d,.list (ds.eraseIdx n))
 | _,_=>none
def qd2 (i j:Nat)(fk:Rho->Option PyData):Rho->Option Out:=fun ρ=>ob (vr i ρ) fun l=>ob (fk ρ) fun k=>ob (yD l k) fun r=>some (.nx ((ρ.set i (some r.2)).set j (some r.1)))
def sAug (i:Nat)(f:Rho->Option PyData)(h:Int->Int->Int):Rho->Option Out:=fun ρ=>ob (vr i ρ) fun x=>ob (f ρ) fun y=>ob (iiD (fun a b=>some (.int (h a b))) x y) fun z=>some (.nx (ρ.set i (some z)))
end
end L2
namespace L2
open PySem
def putO (d l k:Option PyData)(i:Nat)(ρ:Rho):Option Out:=match d,l,k with | some d,some l,some k=>setO (setD l k d) i ρ|_,_,_=>none
theorem qhy (i:Nat)(fk f:Rho->Option PyData)(ρ:Rho):sPut i fk f ρ=putO (f ρ) (vr i ρ) (fk ρ) i ρ:=by
 unfold sPut ob putO setO
 cases f ρ with
 | none=>rfl
 | some d =>
  cases vr i ρ with
  | none=>rfl
  | some l =>
   cases fk ρ with
   | none=>rfl
   | some k=>dsimp only;cases setD l k d<;>rfl
theorem qhn (d l k:PyData)(i:Nat)(ρ:Rho):putO (some d) (some l) (some k) i ρ=setO (setD l k d) i ρ:=rfl
theorem qhD (ds:List PyData)(k:Int)(d:PyData):setD (.list ds) (.int k) d=ob (ixN ds.length k) fun j=>some (.list (ds.set j d)):=rfl
def popO (r:Option (PyData×PyData))(i j:Nat)(ρ:Rho):Option Out:=match r with | some r=>some (.nx ((ρ.set i (some r.2)).set j (some r.1)))|none=>none
theorem qhx (i j:Nat)(ρ:Rho):sPop i j ρ=popO (ob (vr i ρ) popD) i j ρ:=by
 unfold sPop ob popO
 cases vr i ρ with
 | none=>rfl
 | some l=>dsimp only;cases popD l<;>rfl
def popA (l k:Option PyData):Option (PyData×PyData):=match l,k with | some l,some k=>yD l k|_,_=>none
theorem qd3 (i j:Nat)(fk:Rho->Option PyData)(ρ:Rho):qd2 i j fk ρ=popO (popA (vr i ρ) (fk ρ)) i j ρ:=by
 unfold qd2 ob popO popA
 cases vr i ρ with
 | none=>rfl
 | some l =>
  cases fk ρ with
  | none=>rfl
  | some k=>dsimp only;cases yD l k<;>rfl
theorem qhg (r:PyData×PyData)(i j:Nat)(ρ:Rho):popO (some r) i j ρ=some (.nx ((ρ.set i (some r.2)).set j (some r.1))):=rfl
theorem qhf (l k:PyData):popA (some l) (some k)=yD l k:=rfl
def augO (x y:Option PyData)(h:Int->Int->Int)(i:Nat)(ρ:Rho):Option Out:=match x,y with | some x,some y=>setO (iiD (fun a b=>some (.int (h a b))) x y) i ρ|_,_=>none
theorem qht (i:Nat)(f:Rho->Option PyData)(h:Int->Int->Int)(ρ:Rho):sAug i f h ρ=augO (vr i ρ) (f ρ) h i ρ:=by
 unfold sAug ob augO setO
 cases vr i ρ with
 | none=>rfl
 | some x =>
  cases f ρ with
  | none=>rfl
  | some y=>dsimp only;cases iiD (fun a b=>some (PyData.int (h a b))) x y<;>rfl
theorem qgc (a b:Int)(h:Int->Int->Int)(i:Nat)(ρ:Rho):augO (some (.int a)) (some (.int b)) h i ρ=some (.nx (ρ.set i (some (.int (h a b))))):=rfl
end L2
namespace L2
open PySem PySem.Spec PyProof.Rows
section
variable {X:Cx}
def absD:List PyData->Option PyData
 | [.int i]=>some (.int (if i<0 then -i else i))
 | _=>none
theorem qcj:bootBuiltins "max" = some (.builtin "max"):=by decide +kernel
theorem yt:bootBuiltins "min" = some (.builtin "min"):=by decide +kernel
theorem qf5 (i:Int):absD [.int i]=some (.int (if i<0 then -i else i)):=rfl
end
end L2
namespace L2
open PySem PySem.Spec PyProof.Rows
def evCh (fa fb fc:Rho->Option PyData)(g g':PyData->PyData->Option PyData):Rho->Option PyData:=fun ρ=>ob (fa ρ) fun x=>ob (fb ρ) fun y=>ob (g x y) fun z=>ob (j0 z) fun k=>if k=true then ob (fc ρ) fun w=>g' y w else some (.bool false)
section
variable {X:Cx}{M:List Nat}{a b c:Expr}{fa fb fc:Rho->Option PyData}{pos:Pos}{op op':CmpOp}{g g':PyData->PyData->Option PyData}
end
def chO (y:Option PyData)(k:Option PyData)(fc:Rho->Option PyData)(g':PyData->PyData->Option PyData)(ρ:Rho):Option PyData:=match y,k with
 | some y,some (.bool true)=>ob (fc ρ) (g' y)
 | some _,some (.bool false)=>some (.bool false)
 | _,_=>none
theorem qgl (fa fb fc:Rho->Option PyData)(g g':PyData->PyData->Option PyData)(ρ:Rho):evCh fa fb fc g g' ρ=chO (fb ρ) (binO (fa ρ) (fb ρ) g) fc g' ρ:=by
 unfold evCh ob chO binO j0
 cases fa ρ with
 | none=>cases fb ρ<;>rfl
 | some x =>
  cases fb ρ with
  | none=>rfl
  | some y =>
   dsimp only
   cases g x y with
   | none=>rfl
   | some z =>
    cases z with
    | bool k=>cases k<;>rfl
    | _=>rfl
theorem chO_t (y:PyData)(fc:Rho->Option PyData)(g':PyData->PyData->Option PyData)(ρ:Rho):chO (some y) (some (.bool true)) fc g' ρ=ob (fc ρ) (g' y):=rfl
theorem chO_f (y:PyData)(fc:Rho->Option PyData)(g':PyData->PyData->Option PyData)(ρ:Rho):chO (some y) (some (.bool false)) fc g' ρ=some (.bool false):=rfl
end L2
namespace L2
open PySem PySem.Spec PyProof.Rows
section
variable {X:Cx}{M:List Nat}{a b c d:Expr}{fa fb fc fd:Rho->Option PyData}{ta tb tc td:TE}{pos:Pos}{op1 op2 op3:CmpOp}{g1 g2 g3:PyData->PyData->Option PyData}
end
end L2
namespace L2
open PySem PySem.Spec PyProof.Rows
section
variable {X:Cx}{G:Gm}{M M' Mb L:List Nat}{fr:Fr}{a b c:Expr}{es:List Expr}{f fk g:Rho->Option PyData}{pos:Pos}{u:Rho->Option Out}
def qW (x y:PyData):Option PyData:=match x,y with
 | .int i,.int j=>some (.int (i+j))
 | .list ds,.list es=>if ds.length+es.length<=1000 then some (.list (ds++es)) else none
 | x,y=>qbv x y
def rCatL (K:PySem.W.Frag):R2:=fun x y H Q=>∃ l b xs zs,x=.ref l/\y=.ref b/\SqL K H l xs/\SqL K H b zs/\xs.length+zs.length<=sizeLine/\∀ p,H p=none->Q (.ref p) (upd H p (.lst (xs++zs)))
theorem qfa:OpR X (binaryOp .Add) (rCatL X.K):=by
 intro pins s σ H x y v u Q I rx ry h
 obtain ⟨l,b,xs,zs,rfl,rfl,hH,hB,hz,q⟩:=h
 cases rx
 cases ry
 obtain ⟨its,r,⟨⟨cls,dd,data,sl⟩,n,g1,g2,_,g3⟩,_⟩:=I.list hH
 obtain ⟨its2,r2,⟨⟨cls2,dd2,data2,sl2⟩,n2,k1,k2,_,k3⟩,_⟩:=I.list hB
 simp only at g2 g3 k2 k3
 subst g2 g3 k2 k3
 have ea:its.toArray++its2.toArray=(its++its2).toArray:=by simp
 have l1:=r.length
 have l2:=r2.length
 refine concat_meets ⟨_,g1,rfl⟩ ⟨_,k1,rfl⟩ noFill_list_add seq_list_add PySem.F.slot_list_add PySem.F.entry_list_add (PySem.F.args_list_add_2 _ _) (list_addW l b its.toArray its2.toArray n n2 dd dd2 sl sl2 (by rw [List.size_toArray,List.size_toArray];omega)) ⟨g1,k1,?_⟩
 rw [ea]
 exact ⟨.ref _,_,I.lnew (t':=s.toks) (r.append r2) (by rw [List.length_append];omega),rfl,q _ I.fresh⟩
theorem qgh:OpD X (binaryOp .Add) (fun x y=>match x,y with | .list ds,.list es=>if ds.length+es.length<=1000 then some (.list (ds++es)) else none|_,_=>none):=by
 refine yC qfa fun x y dx dy d H S Q m h1 h2 e q=>?_
 split at e
 ·split at e
  ·rename_i ds es hc
   cases e
   cases h1 with
   | list a1 t1 =>
    cases h2 with
    | list a2 t2 =>
     exact ⟨_,_,_,_,rfl,rfl,a1.sq,a2.sq,by rw [t1.length,t2.length];exact Nat.le_of_lt (QL hc),fun p hp=>q _ _ (Same.lay hp) (.list (SqLS.new zW (m.free hp)) ((t1.append t2).same (Same.lay hp)))⟩
  ·cases e
 ·cases e
theorem zm:OpD X (binaryOp .Add) qW:=by
 intro pins s σ H x y v u Q I rx ry h
 obtain ⟨S,dx,dy,d,m,h1,h2,e,q⟩:=h
 unfold qW at e
 split at e
 ·exact qdc pins s σ H x y v u Q I rx ry ⟨S,_,_,d,m,h1,h2,e,q⟩
 ·exact qgh pins s σ H x y v u Q I rx ry ⟨S,_,_,d,m,h1,h2,e,q⟩
 ·exact qdc pins s σ H x y v u Q I rx ry ⟨S,_,_,d,m,h1,h2,e,q⟩
theorem qek (i j:Int):qW (.int i) (.int j)=some (.int (i+j)):=rfl
theorem qel (ds es:List PyData)(h:ds.length+es.length<=1000):qW (.list ds) (.list es)=some (.list (ds++es)):=if_pos h
def qhL:List PyData->Option PyData
 | [.int i]=>some (.int i)
 | [.bool k]=>some (.int (if k then 1 else 0))
 | _=>none
def qf2 (i:Nat):Rho->Option Out:=fun ρ=>ob (vr i ρ) fun l=>ob (popD l) fun r=>some (.nx (ρ.set i (some r.2)))
def qb6 (i:Nat)(fk:Rho->Option PyData):Rho->Option Out:=fun ρ=>ob (vr i ρ) fun l=>ob (fk ρ) fun k=>ob (yD l k) fun r=>some (.nx (ρ.set i (some r.2)))
def extD (l e:PyData):Option PyData:=match l,e with
 | .list ds,.list es=>if ds.length+es.length<=1000 then some (.list (ds++es)) else none
 | _,_=>none
def sExt (i:Nat)(f:Rho->Option PyData):Rho->Option Out:=fun ρ=>ob (vr i ρ) fun l=>ob (f ρ) fun k=>ob (extD l k) fun r=>some (.nx (ρ.set i (some r)))
end
def popS (r:Option (PyData×PyData))(i:Nat)(ρ:Rho):Option Out:=match r with | some r=>some (.nx (ρ.set i (some r.2)))|none=>none
theorem qfB (i:Nat)(ρ:Rho):qf2 i ρ=popS (ob (vr i ρ) popD) i ρ:=by
 unfold qf2 ob popS
 cases vr i ρ with
 | none=>rfl
 | some l=>dsimp only;cases popD l<;>rfl
theorem qhh (r:PyData×PyData)(i:Nat)(ρ:Rho):popS (some r) i ρ=some (.nx (ρ.set i (some r.2))):=rfl
theorem qcJ (i:Nat)(fk:Rho->Option PyData)(ρ:Rho):qb6 i fk ρ=popS (popA (vr i ρ) (fk ρ)) i ρ:=by
 unfold qb6 ob popS popA
 cases vr i ρ with
 | none=>rfl
 | some l =>
  cases fk ρ with
  | none=>rfl
  | some k=>dsimp only;cases yD l k<;>rfl
def extO (l k:Option PyData)(i:Nat)(ρ:Rho):Option Out:=match l,k with | some l,some k=>setO (extD l k) i ρ|_,_=>none
theorem qhv (i:Nat)(f:Rho->Option PyData)(ρ:Rho):sExt i f ρ=extO (vr i ρ) (f ρ) i ρ:=by
 unfold sExt ob extO setO
 cases vr i ρ with
 | none=>rfl
 | some l =>
  cases f ρ with
  | none=>rfl
  | some k=>dsimp only;cases extD l k<;>rfl
theorem qgn (l k:PyData)(i:Nat)(ρ:Rho):extO (some l) (some k) i ρ=setO (extD l k) i ρ:=rfl
theorem qed (k:Bool):qhL [.bool k]=some (.int (if k then 1 else 0)):=rfl
end L2
namespace L2
open PySem PySem.Spec PyProof.Rows
section
variable {prog:Program}{w:World}{A:Around}{E:Value->Shared->Prop}{s:Shared}
end
section
variable {X:Cx}{pins:List (Addr×Obj)}{σ:St}{H:Hp}{s:Shared}
end
def SqB (K:PySem.W.Frag)(H:Hp)(b:Bool)(a:Addr)(xs:List V):Prop:=if b=true then SqT K H a xs else SqL K H a xs
def ItB (h:Heap)(b:Bool)(it a:Addr)(i:Nat):Prop:=if b=true then h.IsTupleIter it a i else h.IsListIter it a i
section
variable {X:Cx}{pins:List (Addr×Obj)}{σ:St}{H:Hp}{s:Shared}
theorem SqB.inj {b:Bool}{a:Addr}{xs ys:List V}(I:Inv X pins σ H s)(h1:SqB X.K H b a xs)(h2:SqB X.K H b a ys):xs=ys:=by
 cases b with
 | true=>exact I.tuple_inj h1 h2
 | false=>exact I.list_inj h1 h2
theorem ItB.but {h h':Heap}{b:Bool}{it a e:Addr}{i:Nat}(q:ItB h b it a i)(n:it≠e)(hs:∀ c o,c≠e->h.get? c=some o->h'.get? c=some o):ItB h' b it a i:=by
 cases b with
 | true=>obtain ⟨o,ho,r⟩:=(show h.IsTupleIter it a i from q);exact (show h'.IsTupleIter it a i from ⟨o,hs _ o n ho,r⟩)
 | false=>obtain ⟨o,ho,r⟩:=(show h.IsListIter it a i from q);exact (show h'.IsListIter it a i from ⟨o,hs _ o n ho,r⟩)
theorem ItB.obj {h:Heap}{b:Bool}{it a:Addr}{i:Nat}(q:ItB h b it a i):∃ o,h.get? it=some o/\∀ v,o.data≠.cell v:=by
 cases b with
 | true=>obtain ⟨o,ho,c,d⟩:=(show h.IsTupleIter it a i from q);exact ⟨o,ho,fun v z=>by rw [d] at z;cases z⟩
 | false=>obtain ⟨o,ho,c,d⟩:=(show h.IsListIter it a i from q);exact ⟨o,ho,fun v z=>by rw [d] at z;cases z⟩
end
end L2
namespace L2
open PySem PySem.Spec PyProof.Rows
section
variable {X:Cx}{pins:List (Addr×Obj)}{σ:St}{H:Hp}{s:Shared}
end
section
variable {X:Cx}{M:List Nat}{a:Expr}{es:List Expr}{f:Rho->Option PyData}{pos:Pos}
def enL:Nat->List PyData->List PyData
 | _,[]=>[]
 | n,d::ds=>.tuple [.int (n:Nat),d]::enL (n+1) ds
theorem SqB.same {K:PySem.W.Frag}{H H':Hp}{b:Bool}{l:Addr}{xs:List V}(e:Same H H')(h:SqB K H b l xs):SqB K H' b l xs:=by
 cases b with
 | true=>exact e.sqT h
 | false=>exact e.seq h
def qde:PyData->Option (List PyData)
 | .list ds=>some (enL 0 ds)
 | .tuple ds=>some (enL 0 ds)
 | _=>none
theorem qeH (ds:List PyData):qde (.list ds)=some (enL 0 ds):=rfl
theorem qeI (ds:List PyData):qde (.tuple ds)=some (enL 0 ds):=rfl
theorem enL_n (n:Nat):enL n []=[]:=rfl
theorem enL_c (n:Nat)(d:PyData)(ds:List PyData):enL n (d::ds)=.tuple [.int (n:Nat),d]::enL (n+1) ds:=rfl
def qbB (o:Option Rho)(k:Nat)(g:PyData->Rho->Option Rho)(tt:Rho->Option Bool)(te:Rho->Option PyData)(ρ:Rho)(ds:List PyData):Option (List PyData):=match o with
 | some ρ1=>(match tt ρ1 with | some true=>Jz (te ρ1) (Zf k g tt te ρ ds)|some false=>Zf k g tt te ρ ds|none=>none)
 | none=>none
theorem qeD (k:Nat)(g:PyData->Rho->Option Rho)(tt:Rho->Option Bool)(te:Rho->Option PyData)(ρ:Rho)(d:PyData)(ds:List PyData):Zf k g tt te ρ (d::ds)=qbB (g d (ρ++List.replicate k none)) k g tt te ρ ds:=by
 rw [Zf]
 unfold ob qbB Jz
 cases g d (ρ++List.replicate k none) with
 | none=>rfl
 | some ρ1 =>
  dsimp only
  cases tt ρ1 with
  | none=>rfl
  | some b =>
   cases b with
   | false=>rfl
   | true=>cases te ρ1<;>cases Zf k g tt te ρ ds<;>rfl
theorem qeE (k:Nat)(g:PyData->Rho->Option Rho)(tt:Rho->Option Bool)(te:Rho->Option PyData)(ρ:Rho):Zf k g tt te ρ []=some []:=rfl
def qbA (b:Option Bool)(y:Option PyData)(r:Option (List PyData)):Option (List PyData):=match b with | some true=>Jz y r|some false=>r|none=>none
theorem qez (ρ1:Rho)(k:Nat)(g:PyData->Rho->Option Rho)(tt:Rho->Option Bool)(te:Rho->Option PyData)(ρ:Rho)(ds:List PyData):qbB (some ρ1) k g tt te ρ ds=qbA (tt ρ1) (te ρ1) (Zf k g tt te ρ ds):=by
 unfold qbB qbA
 rfl
theorem qey (y:Option PyData)(r:Option (List PyData)):qbA (some true) y r=Jz y r:=rfl
theorem qex (y:Option PyData)(r:Option (List PyData)):qbA (some false) y r=r:=rfl
def qc9 (a:Option (List PyData))(n k:Nat)(g:PyData->Rho->Option Rho)(tt:Rho->Option Bool)(te:Rho->Option PyData)(ρ:Rho):Option PyData:=match a with | some ds=>if ρ.length=n/\ds.length<=1000 then YJ (Zf k g tt te ρ ds) else none|none=>none
theorem qeB (n k:Nat)(fi:Rho->Option (List PyData))(g:PyData->Rho->Option Rho)(tt:Rho->Option Bool)(te:Rho->Option PyData)(ρ:Rho):Jy n k fi g tt te ρ=qc9 (fi ρ) n k g tt te ρ:=by
 unfold Jy ob qc9 YJ
 cases fi ρ with
 | none=>rfl
 | some ds =>
  dsimp only
  split
  ·cases Zf k g tt te ρ ds<;>rfl
  ·rfl
theorem qev (ds:List PyData)(n k:Nat)(g:PyData->Rho->Option Rho)(tt:Rho->Option Bool)(te:Rho->Option PyData)(ρ:Rho):qc9 (some ds) n k g tt te ρ=if ρ.length=n/\ds.length<=1000 then YJ (Zf k g tt te ρ ds) else none:=rfl
end
end L2
namespace L2
open PySem PySem.Spec PyProof.Rows
def k1Of:PyData->Option (Int ⊕ List Int)
 | .int i=>some (.inl i)
 | .tuple ds=>ob (intsOf ds) fun js=>some (.inr js)
 | _=>none
def qfQ:List PyData->Option K2
 | []=>some []
 | d::ds=>ob (k1Of d) fun k=>ob (qfQ ds) fun ks=>some (k::ks)
def k2Of:PyData->Option K2
 | .tuple ds=>qfQ ds
 | _=>none
def kxOf:PyData->Option KX
 | .int i=>some (.inl i)
 | d=>ob (k2Of d) fun ks=>some (.inr ks)
def kOk (kvs:List (PyData×PyData))(k:KX):Bool:=kvs.all fun p=>qgt p.1==kxI k
def findD (kvs:List (PyData×PyData))(ks:KX):Option PyData:=(kvs.find? fun p=>PyData.eqv p.1 (kxD ks)).map (·.2)
def putD (kvs:List (PyData×PyData))(ks:KX)(v:PyData):List (PyData×PyData) :=
 if (findD kvs ks).isSome=true then kvs.map (fun p=>if PyData.eqv p.1 (kxD ks)=true then (p.1,v) else p) else kvs++[(kxD ks,v)]
section
variable {K:PySem.W.Frag}{H:Hp}{S:Av}
end
section
variable {K:PySem.W.Frag}{H:Hp}{S:Av}
end
section
variable {X:Cx}{pins:List (Addr×Obj)}{σ:St}{H:Hp}{s:Shared}{S:Av}
end
def qbJ (d k v:PyData):Option PyData:=match d with
 | .dict kvs=>ob (kxOf k) fun ks=>if kOk kvs ks=true/\kvs.length<1000 then some (.dict (putD kvs ks v)) else none
 | _=>none
section
variable {X:Cx}{pins:List (Addr×Obj)}{σ:St}{H:Hp}{s:Shared}{S:Av}{A:Around}{E:Value->Shared->Prop}{a:Addr}{kvs:List (KX×Addr×V)}{ep:Nat}{ds:List PyData}{ks:KX}{y x v:V}{u r:Value}{d dx:PyData}
end
end L2
namespace L2
open PySem PySem.Spec PyProof.Rows
section
variable {prog:Program}{w:World}{A:Around}{E:Value->Shared->Prop}{s:Shared}
end
def Itd (a:Addr)(kvs:List (KX×Addr×V))(ep:Nat):It :=
 ⟨fun i H=>H a=some (DctO a kvs ep)/\i<kvs.length,fun i H x H'=>H'=H/\∃ p,kvs[i]?=some p/\x=kxV p.1 p.2.1,fun i H=>H a=some (DctO a kvs ep)/\kvs.length<=i⟩
section
variable {X:Cx}{M:List Nat}{a:Expr}{f:Rho->Option PyData}
theorem IsIt.dct {K:PySem.W.Frag}{H:Hp}{S:Av}{l:Addr}{kvs:List (KX×Addr×V)}{ep:Nat}(h:H l=some (DctO l kvs ep))(k:DenL K H S (kvs.map fun p=>kxV p.1 p.2.1) (kvs.map fun p=>kxD p.1)):IsIt K S (Itd l kvs ep) H (kvs.map fun p=>kxD p.1) where
 go:=fun i H' e hi=>⟨e _ _ h,by rwa [List.length_map] at hi⟩
 yld:=fun i H' x H2 e ⟨e2,p,hp,ex⟩=>⟨by rw [e2];exact Same.refl _,fun d hd S' w=>by
  obtain ⟨v,h1,h2⟩:=k.get hd
  rw [List.getElem?_map,hp] at h1
  cases h1
  rw [ex]
  exact w _ _ h2⟩
 stop:=fun H' e=>⟨e _ _ h,by rw [List.length_map];exact Nat.le_refl _⟩
end
end L2
namespace L2
open PySem PySem.Spec PyProof.Rows
section
variable {X:Cx}{G:Gm}{M M' Mb L:List Nat}{fr:Fr}{a b c:Expr}{es:List Expr}{f fk fx g fa fb:Rho->Option PyData}{pos:Pos}{u:Rho->Option Out}
def ev3 (f g h:Rho->Option PyData)(r:PyData->PyData->PyData->Option PyData):Rho->Option PyData:=fun ρ=>ob (f ρ) fun x=>ob (g ρ) fun y=>ob (h ρ) fun z=>r x y z
def qfZ (i:Nat)(fk f:Rho->Option PyData):Rho->Option Out:=fun ρ=>ob (f ρ) fun d=>ob (vr i ρ) fun l=>ob (fk ρ) fun k=>ob (qbJ l k d) fun l'=>some (.nx (ρ.set i (some l')))
end
end L2
namespace L2
open PySem PySem.Spec PyProof.Rows
section
variable {X:Cx}{G:Gm}{M M' Mb L:List Nat}{fr:Fr}{a b c:Expr}{es:List Expr}{f fk g:Rho->Option PyData}{pos:Pos}{u:Rho->Option Out}
end
end L2
namespace L2
open PySem PySem.Spec PyProof.Rows
def qfP:PyData->Bool
 | .list _=>true
 | _=>false
def vC (f:Rho->Option PyData)(fs:Rho->Option (List PyData)):Rho->Option (List PyData):=fun ρ=>ob (f ρ) fun d=>ob (fs ρ) fun ds=>if qfP d=true then some (d::ds) else none
theorem Kids.length {K:PySem.W.Frag}{H:Hp}{S:Av}:∀ {qs:List Addr} {ds:List PyData},Kids K H S qs ds->qs.length=ds.length
 | _,_,.nil=>rfl
 | _,_,.cons _ _ _ r=>by rw [List.length_cons,List.length_cons,r.length]
theorem Kids.get {K:PySem.W.Frag}{H:Hp}{S:Av}:∀ {qs:List Addr} {ds:List PyData} {i:Nat} {d:PyData},Kids K H S qs ds->ds[i]?=some d->∃ q xs es,qs[i]?=some q/\d=.list es/\H q=some (.lst xs)/\DenL K H S xs es
 | _,_,_,_,.nil,e=>by simp at e
 | _,_,0,_,.cons h t _ _,e=>by simp at e;subst e;exact ⟨_,_,_,rfl,rfl,h,t⟩
 | _,_,i+1,d,.cons _ _ _ r,e=>by
  obtain ⟨q,xs,es,h1,h2⟩:=Kids.get (i:=i) (d:=d) r (by simpa using e)
  exact ⟨q,xs,es,by simpa using h1,h2⟩
section
variable {X:Cx}{G:Gm}{M M' Mb L:List Nat}{fr:Fr}{a b c:Expr}{es:List Expr}{f fk g:Rho->Option PyData}{pos:Pos}{u:Rho->Option Out}{fs:Rho->Option (List PyData)}
def qd4 (i:Nat)(f:Rho->Option PyData):Rho->Option Out:=fun ρ=>if i<ρ.length/\ρ.length<=1000 then ob (f ρ) fun d=>some (.nx (ρ.set i (some d))) else none
def spD (K:PySem.W.Frag)(n:Nat)(f:List PyData->Option PyData):Sp:=fun vs H Q _=>∃ S ds d,Dm S H/\DenL K H S vs ds/\ds.length=n/\f ds=some d/\∀ p fp H',Same H H'->(∀ q∈fp,H q=none)->DeepO K H' (insL S fp) fp p d->Q (.ref p) H'
theorem FunG.deep {P:Program}{w:World}{K:PySem.W.Frag}{mg:Str->Option Value}{base:Heap}{x qual:Str}{st:Stmt}{f:Addr}{fd:FuncData}{N ps:List Str}{k n:Nat}{u:Rho->Option Out}{M':List Nat}(F:FunG K x qual st f fd)(S:FnScope N ps (qi st))(hn:ps.length=n)
  (hbody:∀ (cdv:Value) (A:Around) (outer:List Env) (s:Shared) (H:Hp) (E:XK),Room k (A.deeper (envOfC qual (qi st) s.heap.objs.size f cdv))->∀ G:Gm,
   PDSs (cxOf CX0 P w K mg base N qual (qi st) f cdv A outer s H E).nox G [] [] M' [] .dp (zZ st) u) :
  FnOk P w K mg base CX0 (k+1) f fd ps (spD K n fun ds=>ob (u (rho0 N.length ds)) outF):=by
 refine F.ok S (fun vs H Q E h=>?_) (fun cdv A outer s H vs Q E hr h=>?_)
 ·obtain ⟨_,ds,d,_,h1,h2,_⟩:=h
  rw [h1.length,h2,hn]
 ·obtain ⟨Sv,ds,d,m,h1,h2,e,q⟩:=h
  obtain ⟨o,e1,e⟩:=qy e
  refine ⟨_,hbody cdv A outer s H E hr (G0 H Sv),Sv,rho0 N.length ds,o,OwnS.start m h1 N,e1,?_⟩
  cases o with
  | rt r=>cases e;exact fun p fp H' g n o=>q p fp H' g (fun r hr=>(n r hr).1) o
  | nx ρ=>cases e
  | bk ρ=>cases e
  | ct ρ=>cases e
theorem Fun.deep {P:Program}{w:World}{K:PySem.W.Frag}{mg:Str->Option Value}{base:Heap}{x qual:Str}{st:Stmt}{f:Addr}{fd:FuncData}{N ps:List Str}{k n:Nat}{u:Rho->Option Out}{M':List Nat}(F:Fun K x qual st f fd)(S:FnScope N ps (qi st))(hn:ps.length=n)
  (hbody:∀ (cdv:Value) (A:Around) (outer:List Env) (s:Shared) (H:Hp) (E:XK),Room k (A.deeper (envOfC qual (qi st) s.heap.objs.size f cdv))->∀ G:Gm,
   PDSs (cxOf CX0 P w K mg base N qual (qi st) f cdv A outer s H E).nox G [] [] M' [] .dp (zZ st) u) :
  FnOk P w K mg base CX0 (k+1) f fd ps (spD K n fun ds=>ob (u (rho0 N.length ds)) outF) :=
 F.g.deep S hn hbody
structure KnownD (P:Program)(w:World)(K:PySem.W.Frag)(mg:Str->Option Value)(base:Heap)(x:Str)(n k:Nat)(h:List PyData->Option PyData):Prop where
 ex:∃ (f:Addr) (fd:FuncData) (ps:List Str),FnOk P w K mg base CX0 k f fd ps (spD K n h)/\mg x=some (.ref f)/\PySem.W.keepIn K (.ref f)=true/\Binds K fd ps []
theorem KnownD.known {P:Program}{w:World}{K:PySem.W.Frag}{mg:Str->Option Value}{base:Heap}{x:Str}{n k:Nat}{h:List PyData->Option PyData}(F:KnownD P w K mg base x n k h):Known P w K mg base x n k h:=by
 obtain ⟨f,fd,ps,F,m,kp,b⟩:=F.ex
 exact ⟨f,fd,ps,F.imp fun vs H Q E ⟨S,ds,d,m,h1,h2,e,q⟩=>⟨S,ds,d,m,h1,h2,e,fun p fp H' g n o=>q _ H' g (o.den (fun r hr=>m.free (n r hr)) fun a _ z=>.inl z)⟩,m,kp,b⟩
def wU:PyData->PyData->Option Nat
 | .tuple ds,.int k=>ixN ds.length k
 | .list ds,.int k=>ixN ds.length k
 | _,_=>none
def wR:PyData->Nat->Option PyData
 | .tuple ds,j=>ds[j]?
 | .list ds,j=>ds[j]?
 | _,_=>none
def WY:PyData->Nat->PyData->PyData
 | .tuple ds,j,l=>.tuple (ds.set j l)
 | .list ds,j,l=>.list (ds.set j l)
 | d,_,_=>d
theorem DeepF.same {K:PySem.W.Frag}{H H':Hp}{S:Av}{σ:St}{ρ:Rho}{F:Nat->List Addr}(e:Same H H')(f:DeepF K G M H S σ ρ F):DeepF K G M H' S σ ρ F :=
 ⟨fun i hi d q=>let ⟨p,a,b,c⟩:=f.own i hi d q;⟨p,a,b.same e,c⟩,f.disj,f.flat⟩
theorem JX {qs:List Addr}{j:Nat}{k:Int}{q:Addr}{n:Nat}(h:n=qs.length)(e:ixN n k=some j)(e':qs[j]?=some q):atI (qs.map V.ref) k=some (.ref q):=by
 unfold atI
 rw [List.length_map,← h,e]
 show (qs.map V.ref)[j]?=_
 rw [List.getElem?_map,e'];rfl
def qf0 (i:Nat)(fk f:Rho->Option PyData):Rho->Option Out:=fun ρ=>ob (vr i ρ) fun c=>ob (fk ρ) fun k=>ob (wU c k) fun j=>ob (wR c j) fun l=>ob (f ρ) fun d=>ob (appD l d) fun l'=>some (.nx (ρ.set i (some (WY c j l'))))
def qf1 (i:Nat)(fk:Rho->Option PyData):Rho->Option Out:=fun ρ=>ob (vr i ρ) fun c=>ob (fk ρ) fun k=>ob (wU c k) fun j=>ob (wR c j) fun _=>some (.nx (ρ.set i (some (WY c j (.list [])))))
end
end L2
namespace L2
open PySem PySem.Spec PyProof.Rows
def dfl (h:List PyData->Option PyData)(dds:List PyData):List PyData->Option PyData:=fun ds=>h (ds++dds)
theorem dfl_b (h:List PyData->Option PyData)(dds ds:List PyData):dfl h dds ds=h (ds++dds):=rfl
structure KnownX (P:Program)(w:World)(K:PySem.W.Frag)(mg:Str->Option Value)(base:Heap)(x:Str)(n k:Nat)(h:List PyData->Option PyData)(dds:List PyData):Prop where
 ex:∃ (f:Addr) (fd:FuncData) (ps:List Str) (us:List Value) (dvs:List V),FnOk P w K mg base CX0 k f fd ps (spF K n h)/\mg x=some (.ref f)/\PySem.W.keepIn K (.ref f)=true/\Binds K fd ps us/\Vals dvs us/\∀ (H:Hp) (S:Av),DenL K H S dvs dds
structure KnownNX (P:Program)(w:World)(K:PySem.W.Frag)(mg:Str->Option Value)(base:Heap)(x:Str)(n k:Nat)(h:List PyData->Option PyData)(dds:List PyData):Prop where
 ex:∃ (f:Addr) (fd:FuncData) (ps:List Str) (us:List Value) (dvs:List V),FnOk P w K mg base CX0 k f fd ps (spN K n h)/\mg x=some (.ref f)/\PySem.W.keepIn K (.ref f)=true/\Binds K fd ps us/\Vals dvs us/\∀ (H:Hp) (S:Av),DenL K H S dvs dds
theorem KnownNX.known {P:Program}{w:World}{K:PySem.W.Frag}{mg:Str->Option Value}{base:Heap}{x:Str}{n k:Nat}{h:List PyData->Option PyData}{dds:List PyData}(F:KnownNX P w K mg base x n k h dds):KnownX P w K mg base x n k h dds:=by
 obtain ⟨f,fd,ps,us,dvs,F,m,kp,b,v,t⟩:=F.ex
 exact ⟨f,fd,ps,us,dvs,F.imp fun vs H Q E ⟨S,ds,d,m,h1,h2,e,q⟩=>⟨S,ds,d,m,h1,h2,e,fun p H' g n o=>q _ H' g (o.den (m.free n) fun a _ z=>.inl z)⟩,m,kp,b,v,t⟩
theorem Yn {K:PySem.W.Frag}{fd:FuncData}{ps:List Str}{us:List Value}{T:Addr}{oc:Value}{od:Option Addr}{items:Array Value}{n j:Nat}{sl:Array (Option Value)}(ht:K.lookup T=some ⟨oc,od,.seq items n,sl⟩)(hd:fd.defaults=.ref T)(hj:j+us.length=ps.length)
  (h:∀ xs:List Value,xs.length=j->∃ k:Option (Array Value)->Sem (List (Str×Value)),bindArgs fd ⟨xs,[]⟩=seqItems? fd.defaults >>= k/\k (some items)=pure (ps.zip (xs++us))):Binds K fd ps us:=fun s xs KX hl=>by
 obtain ⟨k,h1,h2⟩:=h xs (by rw [List.length_append] at hl;omega)
 exact BindsTo.of_defaults hd (KX _ _ ht) rfl h1 h2
section
variable {X:Cx}{M:List Nat}{a:Expr}{es:List Expr}{pos:Pos}
theorem Wa {x:Str}{p:Pos}{n j k k':Nat}{h:List PyData->Option PyData}{dds:List PyData}{fs:Rho->Option (List PyData)}(F:KnownX X.prog X.w X.K X.mg X.base x n k h dds)(hr:Room k' X.A)(hk:k<=k')(hg:Gl X x)(ha:PDA X M (a::es) fs)(hl:(a::es).length=j)(hj:j+dds.length=n)
  (hdb:(x==("__debug__" : Str))=false:=by decide +kernel) (he:starEach (a::es) X.env=(false,eval a X.env)::starEach es X.env:=by rfl) (hpl:(backTo pos (starEach es X.env)).any (·.1)=false:=by rfl) :
  PD X M (.Call (.Name x p) (a::es) [] pos) (evC j fs (dfl h dds)):=by
 obtain ⟨f,fd,ps,us,dvs,F,m,kp,b,v,t⟩:=F.ex
 refine (qb0 F (hr.mono hk) hg m kp b v qdL ha hdb he hpl).weak fun σ H Q ⟨S,ρ,d,hs,e,q⟩=>?_
 obtain ⟨ds,e1,e⟩:=qy e
 have e:(if ds.length=j then h (ds++dds) else none)=some d:=e
 split at e
 ·rename_i hn
  exact ⟨S,ρ,ds,hs,e1,fun vs H1 g1 d1=>⟨S,ds++dds,d,hs.1.same g1,d1.append (t H1 S),by rw [List.length_append,hn];exact hj,e,fun v H' g2 d2=>q v H' (g1.trans g2) d2⟩⟩
 ·cases e
end
end L2
namespace L2
open PySem PySem.Spec PyProof.Rows
theorem qck:bootBuiltins "zip" = some (.type "zip"):=by decide +kernel
section
variable {X:Cx}{pins:List (Addr×Obj)}{σ:St}{H:Hp}{s:Shared}
theorem Inv.turnedL {h':Heap}{t':Nat}{fp:List Addr}(I:Inv X pins σ H s)(k:∀ b o,b∉fp->s.heap.get? b=some o->h'.get? b=some o)(ff:∀ b∈fp,FpOk X pins H b):Inv X pins σ H { s with heap:=h',toks:=t' }:=by
 have nit:∀ b u,H b=some u->b∉fp:=fun b u q z=>by rw [(ff b z).1] at q;cases q
 refine I.step (g':=s.gens) (d':=s.drawn) (ch:=fp) (fun b hb=>⟨(ff b hb).2.2.2.1,(ff b hb).2.1,(ff b hb).2.2.2.2.1,(ff b hb).2.2.2.2.2⟩) (fun b o _ _ hc e _=>k b o hc e) (fun b o _ _ hc e _=>⟨o.slots,k b o hc e⟩) (fun _ _ _ _ n=>n)
  (fun b o hc e=>⟨o,k b o hc e⟩) (fun _ _ e=>e) (fun _ _ _ e=>e) (fun b ps e=>⟨#[],by rw [e];simp⟩) (fun m hm=>?_) (fun b u q=>?_) I.bare
 ·obtain ⟨o,es,ep,ho,r⟩:=hm
  exact ⟨o,es,ep,k _ o (fun z=>(ff _ z).2.1 rfl) ho,r⟩
 ·refine (I.hok b u q).stay (fun c v hc q'=>k c v ?_ q') (fun _ q=>q) fun _ _ q=>q
  rcases hc with z|z
  ·rw [z];exact nit b u q
  ·exact nit c _ z
end
def Itz (K:PySem.W.Frag)(a b:Addr):It :=
 ⟨fun i H=>∃ xs ys x y,SqL K H a xs/\SqL K H b ys/\xs[i]?=some x/\ys[i]?=some y,
  fun i H v H'=>∃ p x y,H p=none/\v=.ref p/\H'=upd H p (.tup [x,y])/\(∀ xs,SqL K H a xs->xs[i]?=some x)/\∀ ys,SqL K H b ys->ys[i]?=some y,
  fun i H=>∃ xs ys,SqL K H a xs/\SqL K H b ys/\(xs[i]?=none\/ys[i]?=none)⟩
def tnZ (z ti to i1 i2 a b:Addr)(i:Nat)(h:Heap):Prop:=IsZip h z ti to .none/\IsPair h ti (.ref i1) (.ref i2)/\(∃ u v,IsPair h to u v)/\h.IsListIter i1 a i/\h.IsListIter i2 b i
theorem qeg {P:Program}{w:World}{K:PySem.W.Frag}{ts:List Expr}{kk:Nat}{tp:Pos}{z ti to i1 i2 a b:Addr}(D:ZipApart z ti to i1 i2 a b):Turn P w K (.Tuple ts kk tp) (Itz K a b) [z,ti,to,i1,i2] z (tnZ z ti to i1 i2 a b) where
 mem:=by simp
 obj:=fun i h ⟨hz,hti,⟨u,v,hto⟩,⟨o1,e1,c1,d1⟩,⟨o2,e2,c2,d2⟩⟩ c hc=>by
  simp only [List.mem_cons,List.not_mem_nil,or_false] at hc
  rcases hc with rfl|rfl|rfl|rfl|rfl
  ·exact ⟨_,hz,fun v z=>by cases z⟩
  ·exact ⟨_,hti,fun v z=>by cases z⟩
  ·exact ⟨_,hto,fun v z=>by cases z⟩
  ·exact ⟨_,e1,fun v z=>by rw [d1] at z;cases z⟩
  ·exact ⟨_,e2,fun v z=>by rw [d2] at z;cases z⟩
 keep:=fun i h h' ⟨hz,hti,⟨u,v,hto⟩,⟨o1,e1,r1⟩,⟨o2,e2,r2⟩⟩ k =>
  ⟨k z (by simp) _ hz,k ti (by simp) _ hti,⟨u,v,k to (by simp) _ hto⟩,⟨o1,k i1 (by simp) o1 e1,r1⟩,⟨o2,k i2 (by simp) o2 e2,r2⟩⟩
 item:=by
  intro X hP hw hK hc i pins s σ H E I hf st hg
  subst hP hw hK
  obtain ⟨xs,ys,x,y,hq1,hq2,hx,hy⟩:=hg
  obtain ⟨hz,hti,⟨u0,v0,hto⟩,h1,h2⟩:=st
  obtain ⟨its1,rv1,p1,_⟩:=I.list hq1
  obtain ⟨its2,rv2,p2,_⟩:=I.list hq2
  obtain ⟨u1,hu1,ru1⟩:=rv1.get hx
  obtain ⟨u2,hu2,ru2⟩:=rv2.get hy
  refine wpAny_pyNext_zip_item D hz hti hto h1 h2 p1.isList p2.isList (x:=u1) (y:=u2) (by simpa using hu1) (by simpa using hu2) fun h' a1 a2 a3 a4 a5 a6 hk=>⟨_,rfl,wpAny_letOwnedTupleGo_zip a1 fun h3 hz3 hs3=>?_⟩
  have k3:∀ c o,c≠z->h'.get? c=some o->h3.get? c=some o:=fun c o hc q=>(hs3.2 c hc).trans q
  have I1:Inv X pins σ H { s with heap:=h3,toks:=s.toks }:=I.turnedL (fp:=[z,ti,to,i1,i2]) (fun c o hc q=>by
   simp only [List.mem_cons,List.not_mem_nil,or_false,not_or] at hc
   exact k3 c o hc.1 (hk c o hc.1 hc.2.2.1 hc.2.2.2.1 hc.2.2.2.2 q)) hf
  have hn:H s.heap.objs.size=none:=I.hok.fresh (Nat.le_refl _)
  have fT:FpOk X pins H s.heap.objs.size:=I.fpOk (Nat.le_refl _) hn
  have lt:∀ {b:Addr} {o:Obj},s.heap.get? b=some o->s.heap.objs.size≠b:=fun e=>Nat.ne_of_gt (Heap.lt_size e)
  have n1:s.heap.objs.size≠i1:=by obtain ⟨o,e,_⟩:=h1;exact lt e
  have n2:s.heap.objs.size≠i2:=by obtain ⟨o,e,_⟩:=h2;exact lt e
  have ok:Ze X.prog X.w (upd H s.heap.objs.size (.tup [x,y])) h3 s.heap.objs.size (.tup [x,y]) :=
   ⟨Nat.le_of_lt (QL (show 2<=1000 by decide)),[u1,u2],.cons ru1 (.cons ru2 .nil),⟨_,k3 _ _ (lt hz) a5,rfl,_,rfl⟩⟩
  refine ⟨.ref s.heap.objs.size,upd H s.heap.objs.size (.tup [x,y]),I1.track hn fT.2.1 fT.2.2.2.1 fT.2.2.2.2.1 fT.2.2.2.2.2 ok,rfl,⟨_,x,y,hn,rfl,rfl,fun zs hy'=>by rw [I.list_inj hy' hq1];exact hx,fun zs hy'=>by rw [I.list_inj hy' hq2];exact hy⟩,
   ⟨hz3,k3 _ _ D.TIz (hk _ _ D.TIz D.TITO D.TIi1 D.TIi2 hti),⟨_,_,k3 _ _ D.TOz a2⟩,a3.extBut hs3.extBut D.i1z,a4.extBut hs3.extBut D.i2z⟩,fun c hc=>?_⟩
  have hcc:=(hf c hc).1
  simp only [List.mem_cons,List.not_mem_nil,or_false] at hc
  rw [zf ?_]
  ·exact hcc
  ·rcases hc with rfl|rfl|rfl|rfl|rfl
   ·exact Ne.symm (lt hz)
   ·exact Ne.symm (lt hti)
   ·exact Ne.symm (lt hto)
   ·exact Ne.symm n1
   ·exact Ne.symm n2
 done:=by
  intro X hP hw hK hc i pins s σ H E I hf st hg
  subst hP hw hK
  obtain ⟨xs,ys,hq1,hq2,hx⟩:=hg
  obtain ⟨hz,hti,⟨u0,v0,hto⟩,h1,h2⟩:=st
  obtain ⟨its1,rv1,p1,_⟩:=I.list hq1
  obtain ⟨its2,rv2,p2,_⟩:=I.list hq2
  have l1:=rv1.length
  have l2:=rv2.length
  have hend:its1.toArray[i]?=none\/its2.toArray[i]?=none:=by
   rcases hx with hx|hx
   ·left
    rw [List.getElem?_eq_none_iff] at hx
    rw [Array.getElem?_eq_none];rw [List.size_toArray];omega
   ·right
    rw [List.getElem?_eq_none_iff] at hx
    rw [Array.getElem?_eq_none];rw [List.size_toArray];omega
  exact wpAny_pyNext_zip_end (I.ok.hd hc) D hz hti hto h1 h2 p1.isList p2.isList hend fun h' hk=>⟨rfl,I.turnedL (fp:=[z,ti,to,i1,i2]) (t':=s.toks) (fun c o hc q=>by
   simp only [List.mem_cons,List.not_mem_nil,or_false,not_or] at hc
   exact hk c o hc.1 hc.2.2.1 hc.2.2.2.1 hc.2.2.2.2 q) hf⟩
 self:=fun _ _ _ _ _ st h=>wpAny_pyIter_zip st.1 h
theorem qcQ {n p1 p2:Nat}(h1:p1<n)(h2:p2<n):ZipApart (n+4) (n+2) (n+3) n (n+1) p1 p2:=by
 constructor<;>first|exact Nat.ne_of_lt (by omega)|exact Nat.ne_of_gt (by omega)
def iZip (K:PySem.W.Frag)(ta:TA):TI:=fun σ H R=>ta σ H fun vs H1=>∃ a b xs ys,vs=[.ref a,.ref b]/\SqL K H1 a xs/\SqL K H1 b ys/\R (Itz K a b) H1
section
variable {X:Cx}{M:List Nat}{a b:Expr}{es:List Expr}{f fa fb:Rho->Option PyData}{pos:Pos}
theorem qhe {ts:List Expr}{kk:Nat}{tp:Pos}{ta:TA}{p:Pos}(hg:Gl X "zip")(hm:X.mg "zip" = none)(ha:PA X [a,b] ta)(hs:starEach [a,b] X.env=(false,eval a X.env)::starEach [b] X.env:=by rfl)(hpl:(backTo pos (starEach [b] X.env)).any (·.1)=false:=by rfl):PI X (.Tuple ts kk tp) (.Call (.Name "zip" p) [a,b] [] pos) (iZip X.K ta):=by
 intro pins s σ H R I h
 refine Call_ (YH I hg hm qck (PyProof.Rows.callWith_type1 (thn (ha pos pins s σ H _ I h) fun us s1 ⟨vs,H1,I1,r1,q1⟩=>?_) hs hpl) (by decide +kernel) (by decide +kernel))
 obtain ⟨p1,p2,xs,ys,e,hq1,hq2,q⟩:=q1
 subst e
 cases r1 with
 | cons ru1 r2 =>
 cases r2 with
 | cons ru2 r3 =>
 cases r3
 cases ru1
 cases ru2
 obtain ⟨its1,rv1,l1,_⟩:=I1.list hq1
 obtain ⟨its2,rv2,l2,_⟩:=I1.list hq2
 have lt1:p1<s1.heap.objs.size:=by obtain ⟨o,e,_⟩:=l1.isList;exact Heap.lt_size e
 have lt2:p2<s1.heap.objs.size:=by obtain ⟨o,e,_⟩:=l2.isList;exact Heap.lt_size e
 refine call_zip_2 l1.isList l2.isList fun h' a1 a2 a3 a4 a5 a6 k=>wpAny_pyIter_zip a1 ?_
 have I2:Inv X pins σ H1 { s1 with heap:=h',toks:=s1.toks }:=I1.kept (t':=s1.toks) k
 have D:ZipApart (s1.heap.objs.size+4) (s1.heap.objs.size+2) (s1.heap.objs.size+3) s1.heap.objs.size (s1.heap.objs.size+1) p1 p2:=qcQ lt1 lt2
 refine ⟨_,[s1.heap.objs.size+4,s1.heap.objs.size+2,s1.heap.objs.size+3,s1.heap.objs.size,s1.heap.objs.size+1],_,Itz X.K p1 p2,H1,rfl,I2,qeg D,⟨a1,a2,⟨_,_,a3⟩,a4,a5⟩,fun c hc=>?_,q⟩
 have hl:s1.heap.objs.size<=c:=by
  simp only [List.mem_cons,List.not_mem_nil,or_false] at hc
  rcases hc with e|e|e|e|e<;>(rw [e];first|exact Nat.le_refl _|exact Nat.le_add_right _ _)
 exact I1.fpOk hl (I1.hok.fresh hl)
def zpL:List PyData->List PyData->List PyData
 | d::ds,e::es=>.tuple [d,e]::zpL ds es
 | _,_=>[]
theorem qam:∀ (ds es:List PyData) (i:Nat) (d:PyData),(zpL ds es)[i]?=some d->∃ x y,ds[i]?=some x/\es[i]?=some y/\d=.tuple [x,y]
 | [],_,_,_,h=>by simp [zpL] at h
 | _::_,[],_,_,h=>by simp [zpL] at h
 | x::ds,y::es,0,d,h=>by simp [zpL] at h;exact ⟨x,y,rfl,rfl,h.symm⟩
 | x::ds,y::es,i+1,d,h=>by
  obtain ⟨x',y',h1,h2,h3⟩:=qam ds es i d (by simpa [zpL] using h)
  exact ⟨x',y',by simpa using h1,by simpa using h2,h3⟩
theorem qce:∀ (ds es:List PyData),ds[(zpL ds es).length]?=none\/es[(zpL ds es).length]?=none
 | [],_=>.inl rfl
 | _::_,[]=>.inr rfl
 | x::ds,y::es=>by
  rcases qce ds es with h|h
  ·left;simpa [zpL] using h
  ·right;simpa [zpL] using h
theorem IsIt.zip {K:PySem.W.Frag}{H:Hp}{S:Av}{l m:Addr}{xs ys:List V}{ds es:List PyData}(h:SqL K H l xs)(t:DenL K H S xs ds)(h':SqL K H m ys)(t':DenL K H S ys es):IsIt K S (Itz K l m) H (zpL ds es) where
 go:=fun i H' e hi=>by
  obtain ⟨d,hd⟩:∃ d,(zpL ds es)[i]?=some d:=⟨_,List.getElem?_eq_getElem hi⟩
  obtain ⟨x,y,h1,h2,_⟩:=qam ds es i d hd
  obtain ⟨v,h3,_⟩:=t.get h1
  obtain ⟨w,h4,_⟩:=t'.get h2
  exact ⟨xs,ys,v,w,e.seq h,e.seq h',h3,h4⟩
 yld:=fun i H' x H2 e ⟨p,y1,y2,hp,ex,e2,q1,q2⟩=>by
  subst ex e2
  refine ⟨Same.lay hp,fun d hd S' w=>?_⟩
  obtain ⟨d1,d2,h1,h2,rfl⟩:=qam ds es i d hd
  obtain ⟨v1,h3,r1⟩:=t.get h1
  obtain ⟨v2,h4,r2⟩:=t'.get h2
  have e3:=q1 xs (e.seq h)
  have e4:=q2 ys (e.seq h')
  rw [h3] at e3
  rw [h4] at e4
  cases e3
  cases e4
  exact .tuple (SqT.of zW) (.cons (w _ _ r1) (.cons (w _ _ r2) .nil))
 stop:=fun H' e=>⟨xs,ys,e.seq h,e.seq h',by
  have a:=t.length
  have b:=t'.length
  rcases qce ds es with z|z
  ·left;rw [List.getElem?_eq_none_iff] at z ⊢;omega
  ·right;rw [List.getElem?_eq_none_iff] at z ⊢;omega⟩
def zipD:PyData->PyData->Option (List PyData)
 | .list ds,.list es=>some (zpL ds es)
 | _,_=>none
def evI2 (fa fb:Rho->Option PyData)(g:PyData->PyData->Option (List PyData))(ρ:Rho):Option (List PyData):=ob (fa ρ) fun x=>ob (fb ρ) fun y=>g x y
theorem qfh {ts:List Expr}{kk:Nat}{tp p:Pos}(hg:Gl X "zip")(hm:X.mg "zip" = none)(ha:PD X M a fa)(hb:PD X M b fb)(hs:starEach [a,b] X.env=(false,eval a X.env)::starEach [b] X.env:=by rfl)(hs2:starEach [b] X.env=(false,eval b X.env)::starEach [] X.env:=by rfl)(hpl:(backTo pos (starEach [b] X.env)).any (·.1)=false:=by rfl) :
  PDI X M (.Tuple ts kk tp) (.Call (.Name "zip" p) [a,b] [] pos) (evI2 fa fb zipD) :=
 (qhe hg hm (qb ha (qb hb qg hs2) hs) hs hpl).weak fun σ H R ⟨S,ρ,ds,hs,e,w⟩=>by
  obtain ⟨x,e1,e⟩:=qy e
  obtain ⟨y,e2,e⟩:=qy e
  refine ⟨S,ρ,[x,y],hs,by show ob (fa ρ) _=_;rw [e1];show ob (ob (fb ρ) _) _=_;rw [e2];rfl,fun vs H1 g1 dl=>?_⟩
  cases dl with
  | cons d1 dl =>
  cases dl with
  | cons d2 dl =>
  cases dl
  cases d1 with
  | list h t =>
   cases d2 with
   | list h' t'=>cases e;exact ⟨_,_,_,_,rfl,h.sq,h'.sq,w _ _ g1 fun H2 o=>IsIt.zip (h.off o).sq (t.off (hs.1.same g1) o) (h'.off o).sq (t'.off (hs.1.same g1) o)⟩
   | _=>cases e
  | _=>cases e
theorem qfJ (ds es:List PyData):zipD (.list ds) (.list es)=some (zpL ds es):=rfl
theorem zpL_c (d e:PyData)(ds es:List PyData):zpL (d::ds) (e::es)=.tuple [d,e]::zpL ds es:=rfl
theorem qhR (es:List PyData):zpL [] es=[]:=by cases es<;>rfl
theorem qhS (ds:List PyData):zpL ds []=[]:=by cases ds<;>rfl
end
end L2
namespace L2
open PySem PySem.Spec PyProof.Rows
section
variable {X:Cx}{G:Gm}{M M' Mb L:List Nat}{fr:Fr}{a b c:Expr}{es:List Expr}{f fk g:Rho->Option PyData}{pos:Pos}{u:Rho->Option Out}
end
end L2
namespace L2
open PySem PySem.Spec PyProof.Rows
theorem qa0 (A:Around)(s:Shared)(a:Int)(t:Tok)(c:Int)(u:Tok)(prog:Program)(w:World)(E:Value->Shared->Prop)(Q:Value->Shared->Prop)(h:Q (.bool (decide (a > c))) s):wpAny (model prog w) A (richCompare .Gt (.int a t) (.int c u)) Q E s :=
 (PyProof.Rows.gt_int h:wpAny (model prog w) A (compareOp .Gt (.int a t) (.int c u)) Q E s)
mutual
def gtX:PyData->PyData->Option Bool
 | .int i,.int j=>some (decide (i > j))
 | .tuple xs,.tuple ys=>gtXs xs ys
 | _,_=>none
def gtXs:List PyData->List PyData->Option Bool
 | [],[]=>some false
 | [],_::_=>some false
 | _::_,[]=>some true
 | x::xs,y::ys=>if PyData.eqv x y=true then gtXs xs ys else gtX x y
end
def GtAt (A:Around)(s:Shared)(y x:Value)(b:Bool):Prop:=∀ (prog:Program) (w:World) (E Q:Value->Shared->Prop),Q (.bool b) s->wpAny (model prog w) A (richCompare .Gt y x) Q E s
def qao (A:Around)(s:Shared):List Value->List Value->Bool->Prop
 | [],[],r=>r=false
 | [],_::_,r=>r=false
 | _::_,[],r=>r=true
 | y::ys,x::xs,r=>∃ e,SeqAt.EqAt A s y x e/\(e=true->qao A s ys xs r)/\(e=false->GtAt A s y x r)
section
open PySem.SeqAt
open PySem.AutoSeq1 (wpAny_loadPart')
open PySem.MeetsSeq PySem.MeetsSeq2 PySem.MeetsSeq3
theorem qaj (l b:Addr)(items items2:Array Value)(n n2:Nat)(dd dd2:Option Addr)(sl sl2:Array (Option Value)) :
  Meets (Builtin.«tuple.__gt__» ⟨[.ref l,.ref b],[]⟩)
   (fun A R s=>s.heap.get? l=some { cls:=.type "tuple", dict:=dd,data:=.seq items n,slots:=sl }/\s.heap.get? b=some { cls:=.type "tuple", dict:=dd2,data:=.seq items2 n2,slots:=sl2 }/\∃ r,qao A.in1 s items.toList items2.toList r/\R (.ok (.ret (.bool r))) s) :=
 .of_wp fun prog w A R s h=>by
  obtain ⟨hp,g,d,tk,os⟩:=s;obtain ⟨hl,hb,r,hx,h⟩:=h
  have f2:=AutoSeq1.sub_tuple_tuple;wp_walk using wpAny_loadPart' hl,wpAny_loadPart' hb,wpAny_forIn_list _ (fun rest b s'=>b.1=none/\s'=⟨hp,g,d,tk,os⟩/\∃ (vs ws:List Value),rest=vs.zip ws/\
   qao A.in1 ⟨hp,g,d,tk,os⟩ vs ws r/\vs.length+items2.size=ws.length+items.size) _
  case turn =>
   rintro ⟨y,x⟩ rest b s' ⟨hb',rfl,vs,ws,hz,hlx,hlen⟩
   cases vs with
   | nil=>rw [List.zip_nil_left] at hz;cases hz
   | cons v vs =>
    cases ws with
    | nil=>rw [List.zip_nil_right] at hz;cases hz
    | cons u ws =>
     rw [List.zip_cons_cons] at hz
     injection hz with hyx hrest
     injection hyx with hy hx'
     subst hy hx'
     simp only [List.length_cons] at hlen
     obtain ⟨e,he,h1,h2⟩:=hlx
     refine wpAny_bind (he prog w _ _ ?_)
     cases e with
     | true =>
      wp_walk
      exact ⟨rfl,rfl,_,_,hrest,h1 rfl,by omega⟩
     | false =>
      have hri:=h2 rfl prog w
      wp_walk using hri
      exact ⟨_,rfl,by simpa using h⟩
  case fin =>
   rintro ⟨b1,b2⟩ s' ⟨hb',rfl,vs,ws,hz,hlx,hlen⟩
   simp only at hb'
   subst hb'
   have hv:r=decide (items.size > items2.size):=by
    cases vs with
    | nil =>
     cases ws with
     | nil =>
      simp only [List.length_nil] at hlen
      rw [show r=false from hlx]
      exact (decide_eq_false (by omega)).symm
     | cons c hw =>
      simp only [List.length_nil,List.length_cons] at hlen
      rw [show r=false from hlx]
      exact (decide_eq_false (by omega)).symm
    | cons a hv =>
     cases ws with
     | nil =>
      simp only [List.length_nil,List.length_cons] at hlen
      rw [show r=true from hlx]
      exact (decide_eq_true (by omega)).symm
     | cons c hw =>
      rw [List.zip_cons_cons] at hz
      cases hz
   rw [hv] at h
   wp_walk
   exact ⟨_,rfl,by simpa [Builtin.Tuple.tupleCompareSizes] using h⟩
  case h =>
   exact ⟨rfl,rfl,items.toList,items2.toList,rfl,hx,by simp [Nat.add_comm]⟩
end
theorem qdj {A:Around}{s:Shared}{l b:Addr}{items items2:Array Value}{r:Bool}(hl:IsTup s.heap l items)(hb:IsTup s.heap b items2)(hu:A.units<cLine)(h:qao A.in1 s items.toList items2.toList r):GtAt A s (.ref l) (.ref b) r:=fun prog w E Q q=>by
 obtain ⟨⟨cls,dd,data,sl⟩,ho,hc,n,hd⟩:=id hl;obtain ⟨⟨cls2,dd2,data2,sl2⟩,ho2,hc2,n2,hd2⟩:=id hb
 simp only at hc hd hc2 hd2
 subst hc hd hc2 hd2
 exact richCompare_meets_room (op:=.Gt) ⟨_,ho,rfl⟩ ⟨_,ho2,rfl⟩ PySem.F.slot_tuple_gt PySem.F.entry_tuple_gt (PySem.F.args_tuple_gt_2 _ _) (qaj l b items items2 n n2 dd dd2 sl sl2)
  ⟨ho,ho2,r,h,show Value.bool r≠Value.notImplemented/\Q (.bool r) s from ⟨(fun x=>nomatch x),q⟩⟩ hu
theorem qaJ {A:Around}{s:Shared}{m:Nat}(hu:A.units+m+1<cLine)(hit:∀ (x y:PyData) (a b:Value) (as bs:List Addr) (r:Bool),x.depth<=m->Reads s.heap a x as->Reads s.heap b y bs->x.canLay0=true->y.canLay0=true->gtX x y=some r->GtAt A s a b r) :
  ∀ (xs ys:List PyData) (vs ws:List Value) (as bs:List Addr) (r:Bool),PyData.depthAll xs<=m->ReadsAll s.heap vs xs as->ReadsAll s.heap ws ys bs->PyData.canLayAll0 xs=true->PyData.canLayAll0 ys=true->gtXs xs ys=some r->qao A s vs ws r:=by
 intro xs
 induction xs with
 | nil =>
  intro ys vs ws as bs r _ h1 h2 _ _ e
  cases h1
  cases ys with
  | nil=>cases h2;rw [gtXs] at e;cases e;rfl
  | cons y ys=>cases h2;rw [gtXs] at e;cases e;rfl
 | cons x xs ih =>
  intro ys vs ws as bs r hm h1 h2 c1 c2 e
  cases h1 with
  | cons rx rxs =>
   cases ys with
   | nil=>cases h2;rw [gtXs] at e;cases e;rfl
   | cons y ys =>
    cases h2 with
    | cons ry rys =>
     have c1':x.canLay0=true/\PyData.canLayAll0 xs=true:=by simpa [PyData.canLayAll0] using c1
     have c2':y.canLay0=true/\PyData.canLayAll0 ys=true:=by simpa [PyData.canLayAll0] using c2
     have hd:max x.depth (PyData.depthAll xs)<=m:=by rw [PyData.depthAll] at hm;exact hm
     have m1:=Nat.le_trans (Nat.le_max_left x.depth (PyData.depthAll xs)) hd
     have m2:=Nat.le_trans (Nat.le_max_right x.depth (PyData.depthAll xs)) hd
     rw [gtXs] at e
     refine ⟨PyData.eqv x y,SeqAt.eqAt_reads x y A s _ _ _ _ rx ry c1'.1 c2'.1 (by have:=Nat.min_le_left x.depth y.depth;omega),fun q=>?_,fun q=>?_⟩
     ·rw [if_pos q] at e
      exact ih ys _ _ _ _ r m2 rxs rys c1'.2 c2'.2 e
     ·rw [if_neg (by rw [q];exact Bool.false_ne_true)] at e
      exact hit x y _ _ _ _ r m1 rx ry c1'.1 c2'.1 e
theorem qba:∀ (n:Nat) (da db:PyData) (A:Around) (s:Shared) (a b:Value) (as bs:List Addr) (r:Bool),da.depth<=n->Reads s.heap a da as->Reads s.heap b db bs->da.canLay0=true->db.canLay0=true->A.units+n+1<cLine->gtX da db=some r->GtAt A s a b r:=by
 intro n
 induction n with
 | zero =>
  intro da db A s a b as bs r hd ra rb ca cb hu e
  cases da with
  | int i =>
   cases db with
   | int j =>
    cases ra;cases rb
    rw [gtX] at e
    cases e
    exact fun prog w E Q q=>qa0 A s i _ j _ prog w E Q q
   | _=>simp [gtX] at e
  | tuple xs =>
   rw [PyData.depth] at hd
   omega
  | _=>simp [gtX] at e
 | succ n ih =>
  intro da db A s a b as bs r hd ra rb ca cb hu e
  cases da with
  | int i =>
   cases db with
   | int j =>
    cases ra;cases rb
    rw [gtX] at e
    cases e
    exact fun prog w E Q q=>qa0 A s i _ j _ prog w E Q q
   | _=>simp [gtX] at e
  | tuple xs =>
   cases db with
   | tuple ys =>
    rw [PyData.depth] at hd
    rw [gtX] at e
    cases ra with
    | tuple e1 c1 d1 t1 =>
     cases rb with
     | tuple e2 c2 d2 t2 =>
      refine qdj ⟨_,e1,c1,_,d1⟩ ⟨_,e2,c2,_,d2⟩ (by omega) ?_
      exact qaJ (m:=n) (by show A.units+1+n+1<cLine;omega) (fun x y a b as bs r hx r1 r2 k1 k2 e=>ih x y A.in1 s a b as bs r hx r1 r2 k1 k2 (by show A.units+1+n+1<cLine;omega) e)
       xs ys _ _ _ _ r (by omega) t1 t2 (by simpa [PyData.canLay0] using ca) (by simpa [PyData.canLay0] using cb) e
   | _=>simp [gtX] at e
  | _=>simp [gtX] at e
end L2
namespace L2
open PySem PySem.Spec PyProof.Rows
def bestOf (bt:Nat->Nat->Bool):Nat->Nat
 | 0=>0
 | k+1=>if bt (k+1) (bestOf bt k) then k+1 else bestOf bt k
theorem jy (bt:Nat->Nat->Bool):∀ k,bestOf bt k<=k
 | 0=>Nat.le_refl _
 | k+1=>by
  have:=jy bt k
  rw [bestOf]
  split<;>omega
def wA (prog:Program)(w:World)(A:Around)(h0:Heap)(P:Nat->Value->Prop)(bt:Nat->Nat->Bool):Prop :=
 ∀ (i j:Nat) (x y:Value) (s:Shared) (Q E:Value->Shared->Prop),j<i->(∀ b o,h0.get? b=some o->s.heap.get? b=some o)->P i x->P j y->Q (.bool (bt i j)) s->wpAny (model prog w) A (richCompare .Lt x y) Q E s
section
variable {prog:Program}{w:World}{A:Around}{R:Result->Shared->Prop}{it:Addr}{fp wr:List Addr}{n:Nat}{P:Nat->Value->Prop}{St:Nat->Heap->Prop}{h0:Heap}
theorem qdw (W:Walks prog w A.in1 it fp wr n P St)(bt:Nat->Nat->Bool)(hc:wA prog w A.in1 h0 P bt)(Z:Addr)(hZ:Z∉fp)(hw:∀ b o,h0.get? b=some o->b∉wr/\b≠Z)(kw:List (Str×Value)) :
  ∀ (m j:Nat) (s:Shared) (x:Value) (c:Nat),n-(j+1)=m->j+1<=n->St (j+1) s.heap->P (bestOf bt j) x->(∀ b o,h0.get? b=some o->s.heap.get? b=some o)->
  s.heap.get? Z=some { cls:=.type "list", dict:=none,data:=.seq #[x,x] c,slots:=#[] }->
  (∀ v g tk,P (bestOf bt (n-1)) v->(∀ b o,b∉wr->b≠Z->s.heap.get? b=some o->g.get? b=some o)->R (.ok (.ret v)) { s with heap:=g,toks:=tk })->
  codeAny (model prog w) A (.builtin "min.loop" ⟨[.ref it,.none,.ref Z],kw⟩) R s:=by
 have zw:Z∉wr:=fun h=>hZ (W.sub _ h)
 have nm:(toString "min" ++ toString ".loop" : String) = "min.loop" := by decide
 intro m
 induction m with
 | zero =>
  intro j s x c hm hj st hP hb hz hR
  have last:j+1=n:=by omega
  refine codeAny_builtin F.entry_min_loop ?_;rw [Around.under_plainId F.plain_min_loop _]
  show wpAny _ A.in1 (seqItems? (.ref Z) >>= _) _ _ s
  refine wpAny_bind (wpAny_seqItems hz rfl ?_)
  show wpAny _ A.in1 (tryCatch (pyNext (.ref it)) _ >>= _) _ _ s
  refine wpAny_bind (wpAny_tryCatch (W.done s _ _ (last ▸ st) fun g tk k=>?_))
  have hz':=k Z _ zw hz
  show wpAny _ A.in1 (updateSeq Z (fun _=>#[]) >>= _) _ _ _
  refine wpAny_bind (wpAny_updateSeq hz' rfl (wpAny_bind (wpAny_letGo (wpAny_pure ?_))))
  exact hR x _ tk (by rw [← last];exact hP) fun b o h1 h2 e=>(Heap.get?_update_other _ _ (fun z=>h2 z.symm)).trans (k b o h1 e)
 | succ m ih =>
  intro j s x c hm hj st hP hb hz hR
  have more:j+1<n:=by omega
  refine codeAny_builtin F.entry_min_loop ?_;rw [Around.under_plainId F.plain_min_loop _]
  show wpAny _ A.in1 (seqItems? (.ref Z) >>= _) _ _ s
  refine wpAny_bind (wpAny_seqItems hz rfl ?_)
  show wpAny _ A.in1 (tryCatch (pyNext (.ref it)) _ >>= _) _ _ s
  refine wpAny_bind (wpAny_tryCatch (W.item (j+1) s _ _ more st fun y g tk hy st' k=>?_))
  have hz':=k Z _ zw hz
  have hb':∀ b o,h0.get? b=some o->g.get? b=some o:=fun b o e=>k b o (hw b o e).1 (hb b o e)
  show wpAny _ A.in1 (tryCatch (holding [y,y] (richCompare .Lt y x >>= _)) _ >>= _) _ _ _
  refine wpAny_bind (wpAny_tryCatch (wpAny_holding (wpAny_bind (hc (j+1) (bestOf bt j) y x _ _ _ (Nat.lt_succ_of_le (jy bt j)) hb' hy hP ?_))))
  refine wpAny_bind (wpAny_holding (wpAny_truthy_bool (wpAny_bind (wpAny_letGo (wpAny_pure ?_)))))
  cases hh:bt (j+1) (bestOf bt j) with
  | true =>
   simp only [if_true]
   refine wpAny_bind (wpAny_updateSeq hz' rfl (wpAny_bind (wpAny_letGo ?_)))
   rw [nm]
   refine wpAny_pure ⟨plainId_quiet F.plain_min_loop _,ih (j+1) _ y _ (by omega) more (W.frame _ _ _ st' fun b h1 o e=>(Heap.get?_update_other _ _ (fun h:Z=b=>hZ (by rw [h];exact h1))).trans e) (by simp only [bestOf,hh,if_true];exact hy)
    (fun b o e=>(Heap.get?_update_other _ _ (fun h:Z=b=>(hw b o e).2 h.symm)).trans (hb' b o e)) (Heap.get?_update_self _ hz' rfl) fun v g2 tk2 h1 h2=>?_⟩
   exact hR v g2 tk2 h1 fun b o n1 n2 e=>h2 b o n1 n2 ((Heap.get?_update_other _ _ (fun z=>n2 z.symm)).trans (k b o n1 e))
  | false =>
   simp only [Bool.false_eq_true,if_false];refine wpAny_bind (wpAny_letGo ?_)
   rw [nm]
   refine wpAny_pure ⟨plainId_quiet F.plain_min_loop _,ih (j+1) _ x c (by omega) more st' (by simp only [bestOf,hh,Bool.false_eq_true,if_false];exact hP) hb' hz' fun v g2 tk2 h1 h2=>?_⟩
   exact hR v g2 tk2 h1 fun b o n1 n2 e=>h2 b o n1 n2 (k b o n1 e)
theorem qcx (W:Walks prog w A.in1 it fp wr n P St)(bt:Nat->Nat->Bool)(hc:wA prog w A.in1 h0 P bt)(Z:Addr)(hZ:Z∉fp)(hw:∀ b o,h0.get? b=some o->b∉wr/\b≠Z)(kw:List (Str×Value))(hn:0<n){s:Shared}{c:Nat}(st:St 0 s.heap)(hb:∀ b o,h0.get? b=some o->s.heap.get? b=some o)
  (hz:s.heap.get? Z=some { cls:=.type "list", dict:=none,data:=.seq #[] c,slots:=#[] })
  (hR:∀ v g tk,P (bestOf bt (n-1)) v->(∀ b o,b∉wr->b≠Z->s.heap.get? b=some o->g.get? b=some o)->R (.ok (.ret v)) { s with heap:=g,toks:=tk }) :
  codeAny (model prog w) A (.builtin "min.loop" ⟨[.ref it,.none,.ref Z],kw⟩) R s:=by
 have zw:Z∉wr:=fun h=>hZ (W.sub _ h)
 have nm:(toString "min" ++ toString ".loop" : String) = "min.loop" := by decide
 refine codeAny_builtin F.entry_min_loop ?_;rw [Around.under_plainId F.plain_min_loop _]
 show wpAny _ A.in1 (seqItems? (.ref Z) >>= _) _ _ s
 refine wpAny_bind (wpAny_seqItems hz rfl ?_)
 show wpAny _ A.in1 (tryCatch (pyNext (.ref it)) _ >>= _) _ _ s
 refine wpAny_bind (wpAny_tryCatch (W.item 0 s _ _ hn st fun y g tk hy st' k=>?_))
 have hz':=k Z _ zw hz
 show wpAny _ A.in1 (updateSeq Z (fun _=>#[y,y]) >>= _) _ _ _
 refine wpAny_bind (wpAny_updateSeq hz' rfl ?_)
 rw [nm]
 refine wpAny_pure ⟨plainId_quiet F.plain_min_loop _,qdw W bt hc Z hZ hw kw _ 0 _ y _ rfl hn (W.frame _ _ _ st' fun b h1 o e=>(Heap.get?_update_other _ _ (fun h:Z=b=>hZ (by rw [h];exact h1))).trans e) hy
  (fun b o e=>(Heap.get?_update_other _ _ (fun h:Z=b=>(hw b o e).2 h.symm)).trans (k b o (hw b o e).1 (hb b o e))) (Heap.get?_update_self _ hz' rfl) fun v g2 tk2 h1 h2=>?_⟩
 exact hR v g2 tk2 h1 fun b o n1 n2 e=>h2 b o n1 n2 ((Heap.get?_update_other _ _ (fun z=>n2 z.symm)).trans (k b o n1 e))
end
section
variable {s:Shared}{prog:Program}{w:World}{A:Around}{E:Value->Shared->Prop}
end
def wz (prog:Program)(w:World)(A:Around)(h0:Heap)(P:Nat->Value->Prop)(bt:Nat->Nat->Bool):Prop :=
 ∀ (i j:Nat) (x y:Value) (s:Shared) (Q E:Value->Shared->Prop),j<i->(∀ b o,h0.get? b=some o->s.heap.get? b=some o)->P i x->P j y->Q (.bool (bt i j)) s->wpAny (model prog w) A (richCompare .Gt x y) Q E s
section
variable {prog:Program}{w:World}{A:Around}{R:Result->Shared->Prop}{it:Addr}{fp wr:List Addr}{n:Nat}{P:Nat->Value->Prop}{St:Nat->Heap->Prop}{h0:Heap}
theorem qdv (W:Walks prog w A.in1 it fp wr n P St)(bt:Nat->Nat->Bool)(hc:wz prog w A.in1 h0 P bt)(Z:Addr)(hZ:Z∉fp)(hw:∀ b o,h0.get? b=some o->b∉wr/\b≠Z)(kw:List (Str×Value)) :
  ∀ (m j:Nat) (s:Shared) (x:Value) (c:Nat),n-(j+1)=m->j+1<=n->St (j+1) s.heap->P (bestOf bt j) x->(∀ b o,h0.get? b=some o->s.heap.get? b=some o)->
  s.heap.get? Z=some { cls:=.type "list", dict:=none,data:=.seq #[x,x] c,slots:=#[] }->
  (∀ v g tk,P (bestOf bt (n-1)) v->(∀ b o,b∉wr->b≠Z->s.heap.get? b=some o->g.get? b=some o)->R (.ok (.ret v)) { s with heap:=g,toks:=tk })->
  codeAny (model prog w) A (.builtin "max.loop" ⟨[.ref it,.none,.ref Z],kw⟩) R s:=by
 have zw:Z∉wr:=fun h=>hZ (W.sub _ h)
 have nm:(toString "max" ++ toString ".loop" : String) = "max.loop" := by decide
 intro m
 induction m with
 | zero =>
  intro j s x c hm hj st hP hb hz hR
  have last:j+1=n:=by omega
  refine codeAny_builtin F.entry_max_loop ?_;rw [Around.under_plainId F.plain_max_loop _]
  show wpAny _ A.in1 (seqItems? (.ref Z) >>= _) _ _ s
  refine wpAny_bind (wpAny_seqItems hz rfl ?_)
  show wpAny _ A.in1 (tryCatch (pyNext (.ref it)) _ >>= _) _ _ s
  refine wpAny_bind (wpAny_tryCatch (W.done s _ _ (last ▸ st) fun g tk k=>?_))
  have hz':=k Z _ zw hz
  show wpAny _ A.in1 (updateSeq Z (fun _=>#[]) >>= _) _ _ _
  refine wpAny_bind (wpAny_updateSeq hz' rfl (wpAny_bind (wpAny_letGo (wpAny_pure ?_))))
  exact hR x _ tk (by rw [← last];exact hP) fun b o h1 h2 e=>(Heap.get?_update_other _ _ (fun z=>h2 z.symm)).trans (k b o h1 e)
 | succ m ih =>
  intro j s x c hm hj st hP hb hz hR
  have more:j+1<n:=by omega
  refine codeAny_builtin F.entry_max_loop ?_;rw [Around.under_plainId F.plain_max_loop _]
  show wpAny _ A.in1 (seqItems? (.ref Z) >>= _) _ _ s
  refine wpAny_bind (wpAny_seqItems hz rfl ?_)
  show wpAny _ A.in1 (tryCatch (pyNext (.ref it)) _ >>= _) _ _ s
  refine wpAny_bind (wpAny_tryCatch (W.item (j+1) s _ _ more st fun y g tk hy st' k=>?_))
  have hz':=k Z _ zw hz
  have hb':∀ b o,h0.get? b=some o->g.get? b=some o:=fun b o e=>k b o (hw b o e).1 (hb b o e)
  show wpAny _ A.in1 (tryCatch (holding [y,y] (richCompare .Gt y x >>= _)) _ >>= _) _ _ _
  refine wpAny_bind (wpAny_tryCatch (wpAny_holding (wpAny_bind (hc (j+1) (bestOf bt j) y x _ _ _ (Nat.lt_succ_of_le (jy bt j)) hb' hy hP ?_))))
  refine wpAny_bind (wpAny_holding (wpAny_truthy_bool (wpAny_bind (wpAny_letGo (wpAny_pure ?_)))))
  cases hh:bt (j+1) (bestOf bt j) with
  | true =>
   simp only [if_true]
   refine wpAny_bind (wpAny_updateSeq hz' rfl (wpAny_bind (wpAny_letGo ?_)))
   rw [nm]
   refine wpAny_pure ⟨plainId_quiet F.plain_max_loop _,ih (j+1) _ y _ (by omega) more (W.frame _ _ _ st' fun b h1 o e=>(Heap.get?_update_other _ _ (fun h:Z=b=>hZ (by rw [h];exact h1))).trans e) (by simp only [bestOf,hh,if_true];exact hy)
    (fun b o e=>(Heap.get?_update_other _ _ (fun h:Z=b=>(hw b o e).2 h.symm)).trans (hb' b o e)) (Heap.get?_update_self _ hz' rfl) fun v g2 tk2 h1 h2=>?_⟩
   exact hR v g2 tk2 h1 fun b o n1 n2 e=>h2 b o n1 n2 ((Heap.get?_update_other _ _ (fun z=>n2 z.symm)).trans (k b o n1 e))
  | false =>
   simp only [Bool.false_eq_true,if_false];refine wpAny_bind (wpAny_letGo ?_)
   rw [nm]
   refine wpAny_pure ⟨plainId_quiet F.plain_max_loop _,ih (j+1) _ x c (by omega) more st' (by simp only [bestOf,hh,Bool.false_eq_true,if_false];exact hP) hb' hz' fun v g2 tk2 h1 h2=>?_⟩
   exact hR v g2 tk2 h1 fun b o n1 n2 e=>h2 b o n1 n2 (k b o n1 e)
theorem qcw (W:Walks prog w A.in1 it fp wr n P St)(bt:Nat->Nat->Bool)(hc:wz prog w A.in1 h0 P bt)(Z:Addr)(hZ:Z∉fp)(hw:∀ b o,h0.get? b=some o->b∉wr/\b≠Z)(kw:List (Str×Value))(hn:0<n){s:Shared}{c:Nat}(st:St 0 s.heap)(hb:∀ b o,h0.get? b=some o->s.heap.get? b=some o)
  (hz:s.heap.get? Z=some { cls:=.type "list", dict:=none,data:=.seq #[] c,slots:=#[] })
  (hR:∀ v g tk,P (bestOf bt (n-1)) v->(∀ b o,b∉wr->b≠Z->s.heap.get? b=some o->g.get? b=some o)->R (.ok (.ret v)) { s with heap:=g,toks:=tk }) :
  codeAny (model prog w) A (.builtin "max.loop" ⟨[.ref it,.none,.ref Z],kw⟩) R s:=by
 have zw:Z∉wr:=fun h=>hZ (W.sub _ h)
 have nm:(toString "max" ++ toString ".loop" : String) = "max.loop" := by decide
 refine codeAny_builtin F.entry_max_loop ?_;rw [Around.under_plainId F.plain_max_loop _]
 show wpAny _ A.in1 (seqItems? (.ref Z) >>= _) _ _ s
 refine wpAny_bind (wpAny_seqItems hz rfl ?_)
 show wpAny _ A.in1 (tryCatch (pyNext (.ref it)) _ >>= _) _ _ s
 refine wpAny_bind (wpAny_tryCatch (W.item 0 s _ _ hn st fun y g tk hy st' k=>?_))
 have hz':=k Z _ zw hz
 show wpAny _ A.in1 (updateSeq Z (fun _=>#[y,y]) >>= _) _ _ _
 refine wpAny_bind (wpAny_updateSeq hz' rfl ?_)
 rw [nm]
 refine wpAny_pure ⟨plainId_quiet F.plain_max_loop _,qdv W bt hc Z hZ hw kw _ 0 _ y _ rfl hn (W.frame _ _ _ st' fun b h1 o e=>(Heap.get?_update_other _ _ (fun h:Z=b=>hZ (by rw [h];exact h1))).trans e) hy
  (fun b o e=>(Heap.get?_update_other _ _ (fun h:Z=b=>(hw b o e).2 h.symm)).trans (k b o (hw b o e).1 (hb b o e))) (Heap.get?_update_self _ hz' rfl) fun v g2 tk2 h1 h2=>?_⟩
 exact hR v g2 tk2 h1 fun b o n1 n2 e=>h2 b o n1 n2 ((Heap.get?_update_other _ _ (fun z=>n2 z.symm)).trans (k b o n1 e))
end
section
variable {s:Shared}{prog:Program}{w:World}{A:Around}{E:Value->Shared->Prop}
theorem qfI {x y:Value}{b:Bool}{Q:Value->Shared->Prop}(hh:A.handled=none)(hc:∀ (s':Shared) (Q' E':Value->Shared->Prop),(∀ b o,s.heap.get? b=some o->s'.heap.get? b=some o)->Q' (.bool b) s'->wpAny (model prog w) A.in1 (richCompare .Gt y x) Q' E' s')
  (h:∀ g tk,(∀ b o,s.heap.get? b=some o->g.get? b=some o)->Q (if b=true then y else x) { s with heap:=g,toks:=tk }):wpAny (model prog w) A (call (.builtin "max") [x,y]) Q E s:=by
 have nm:(toString "max" ++ toString ".loop" : String) = "max.loop" := by decide
 have hT:(s.heap.push { cls:=.type "tuple", data:=.seq #[x,y] }).IsTuple s.heap.objs.size #[x,y]:=⟨_,Heap.get?_push_size _ rfl,rfl,0,rfl⟩
 have z1:(s.heap.push { cls:=.type "tuple", data:=.seq #[x,y] }).objs.size=s.heap.objs.size+1:=Heap.size_push ..
 refine call_function_tree (id := "max") F.kind_max F.plain_max F.entry_max (F.args_max2 x y) ?_
 have par:Builtin.Builtins.bindParams "max" ["key", "default"] 0 ⟨[],[]⟩=pure [none,none]:=rfl
 refine (wpAny_bind (wpAny_of_eq par ?_):wpAny _ A.in1 (Builtin.Builtins.bindParams "max" _ 0 _ >>= _) _ _ s)
 refine wpAny_bind (wpAny_newObj_type ?_);refine wpAny_bind (wpAny_pyIter_tuple hT (wpAny_bind (wpAny_newObj_type ?_)))
 rw [nm]
 have lt:∀ {b:Addr} {o:Obj},s.heap.get? b=some o->b<s.heap.objs.size:=fun e=>Heap.lt_size e
 refine wpAny_pure ⟨plainId_quiet F.plain_max_loop _,qcw (h0:=s.heap) (Walks.tuple (A:=A.in1) hh _ s.heap.objs.size (by rw [z1];exact Nat.ne_of_lt (Nat.lt_succ_self _)) #[x,y]) (fun _ _=>b) (fun i j u v s' Q' E' hij k hu hv q=>?_) _ ?_ (fun b o e=>?_) [] (by simp)
  ⟨⟨_,Heap.get?_push_of_some _ (Heap.get?_push_size _ rfl),rfl,rfl⟩,(hT.push _).push _⟩ (fun b o e=>Heap.get?_push_of_some _ (Heap.get?_push_of_some _ (Heap.get?_push_of_some _ e))) (Heap.get?_push_size _ rfl) fun v g tk hv k=>?_⟩
 ·dsimp only at hu hv
  have hi:i<2:=by
   rcases Nat.lt_or_ge i 2 with z|z
   ·exact z
   ·rw [Array.getElem?_eq_none (by simpa using z)] at hu;cases hu
  obtain rfl:i=1:=by omega
  obtain rfl:j=0:=by omega
  cases hu
  cases hv
  exact hc s' Q' E' k q
 ·dsimp only
  simp only [Heap.size_push]
  intro hm;simp only [List.mem_cons,List.not_mem_nil,or_false] at hm
  rcases hm with hm|hm
  ·exact Nat.succ_ne_self _ hm
  ·exact absurd hm (Nat.ne_of_gt (Nat.lt_succ_of_lt (Nat.lt_succ_self _)))
 ·have:=lt e
  simp only [Heap.size_push]
  exact ⟨fun hm=>absurd (List.mem_singleton.mp hm) (Nat.ne_of_lt (Nat.lt_succ_of_lt this)),Nat.ne_of_lt (Nat.lt_succ_of_lt (Nat.lt_succ_of_lt this))⟩
 ·have hv':v=if b=true then y else x:=by
   cases b with
   | true=>cases hv;rfl
   | false=>cases hv;rfl
  rw [hv']
  refine h g tk fun b o e=>k b o ?_ ?_ (Heap.get?_push_of_some _ (Heap.get?_push_of_some _ (Heap.get?_push_of_some _ e)))
  ·have:=lt e
   simp only [Heap.size_push]
   exact fun hm=>absurd (List.mem_singleton.mp hm) (Nat.ne_of_lt (Nat.lt_succ_of_lt this))
  ·have:=lt e
   simp only [Heap.size_push]
   exact Nat.ne_of_lt (Nat.lt_succ_of_lt (Nat.lt_succ_of_lt this))
end
section
variable {X:Cx}
def qdF:List PyData->Option PyData
 | [x,y]=>if SeqAt.shaped x=true/\SeqAt.shaped y=true/\y.depth<=50 then ob (ltX y x) fun r=>some (if r=true then y else x) else none
 | _=>none
def YL:List PyData->Option PyData
 | [x,y]=>if SeqAt.shaped x=true/\SeqAt.shaped y=true/\y.depth<=50 then ob (gtX y x) fun r=>some (if r=true then y else x) else none
 | _=>none
theorem qeo {k:Nat}(hr:Room k X.A):CallD X (.builtin "max") YL:=fun pins s σ H xs us Q I r ⟨S,ds,d,m,h1,e,q⟩=>by
 unfold YL at e
 split at e
 ·split at e
  ·rename_i hc
   obtain ⟨b,e1,e⟩:=qy e
   cases e
   obtain ⟨v1,v2,rfl,d1,d2⟩:=h1.inv2
   obtain ⟨u1,u2,rfl,r1,r2⟩:=vals2 r
   obtain ⟨as,q1⟩:=d1.reads I (SeqAt.canLay_of_shaped hc.1) r1
   obtain ⟨bs,q2⟩:=d2.reads I (SeqAt.canLay_of_shaped hc.2.1) r2
   have hu:=hr.units
   refine qfI (b:=b) hr.hd (fun s' Q' E' k q'=>qba 50 _ _ X.A.in1 s' u2 u1 bs as b hc.2.2 (Reads.keeps k q2) (Reads.keeps k q1) (SeqAt.canLay_of_shaped hc.2.1) (SeqAt.canLay_of_shaped hc.1) (by show X.A.units+1+50+1<cLine;omega) e1 X.prog X.w E' Q' q') fun g tk k=>?_
   cases b with
   | true=>exact ⟨v2,H,I.kept k,r2,q _ H (Same.refl H) d2⟩
   | false=>exact ⟨v1,H,I.kept k,r1,q _ H (Same.refl H) d1⟩
  ·cases e
 ·cases e
theorem qdG (x y:PyData):qdF [x,y]=if SeqAt.shaped x=true/\SeqAt.shaped y=true/\y.depth<=50 then ob (ltX y x) fun r=>some (if r=true then y else x) else none:=rfl
theorem qdD (x y:PyData):YL [x,y]=if SeqAt.shaped x=true/\SeqAt.shaped y=true/\y.depth<=50 then ob (gtX y x) fun r=>some (if r=true then y else x) else none:=rfl
theorem qdH (i j:Int):qdF [.int i,.int j]=some (.int (if j<i then j else i)):=by
 have c:SeqAt.shaped (.int i)=true/\SeqAt.shaped (.int j)=true/\(PyData.int j).depth<=50:=⟨rfl,rfl,Nat.zero_le _⟩
 rw [qdG,if_pos c,ltX]
 by_cases h:j<i
 ·rw [if_pos h,decide_eq_true h];rfl
 ·rw [if_neg h,decide_eq_false h];rfl
theorem qdE (i j:Int):YL [.int i,.int j]=some (.int (if j > i then j else i)):=by
 have c:SeqAt.shaped (.int i)=true/\SeqAt.shaped (.int j)=true/\(PyData.int j).depth<=50:=⟨rfl,rfl,Nat.zero_le _⟩
 rw [qdD,if_pos c,gtX]
 by_cases h:j > i
 ·rw [if_pos h,decide_eq_true h];rfl
 ·rw [if_neg h,decide_eq_false h];rfl
end
end L2
namespace L2
open PySem PySem.Spec PyProof.Rows
theorem Vals.back:∀ {vs:List V} {us:List Value} {i:Nat} {u:Value},Vals vs us->us[i]?=some u->∃ v,vs[i]?=some v/\RelV v u
 | _,_,_,_,.nil,h=>by simp at h
 | _,_,0,_,.cons r _,h=>by cases h;exact ⟨_,rfl,r⟩
 | _,_,i+1,_,.cons _ t,h=>by
  obtain ⟨v,hv,r⟩:=Vals.back t (i:=i) (by simpa using h)
  exact ⟨v,by simpa using hv,r⟩
theorem DenL.back {K:PySem.W.Frag}{H:Hp}{S:Av}:∀ {vs:List V} {ds:List PyData} {i:Nat} {v:V},DenL K H S vs ds->vs[i]?=some v->∃ d,ds[i]?=some d/\Den K H S v d
 | _,_,_,_,.nil,h=>by simp at h
 | _,_,0,_,.cons r _,h=>by cases h;exact ⟨_,rfl,r⟩
 | _,_,i+1,_,.cons _ t,h=>by
  obtain ⟨v,hv,r⟩:=DenL.back t (i:=i) (by simpa using h)
  exact ⟨v,by simpa using hv,r⟩
end L2
namespace L2
open PySem PySem.Spec PyProof.Rows
section
variable {s:Shared}{prog:Program}{w:World}{A:Around}{E:Value->Shared->Prop}
theorem qdt {l:Addr}{items:Array Value}{bt:Nat->Nat->Bool}{Q:Value->Shared->Prop}(hh:A.handled=none)(hl:s.heap.IsList l items)(hn:0<items.size)
  (hc:∀ (i j:Nat) (x y:Value) (s':Shared) (Q' E':Value->Shared->Prop),j<i->(∀ b o,s.heap.get? b=some o->s'.heap.get? b=some o)->items[i]?=some x->items[j]?=some y->Q' (.bool (bt i j)) s'->wpAny (model prog w) A.in1 (richCompare .Lt x y) Q' E' s')
  (h:∀ v g tk,items[bestOf bt (items.size-1)]?=some v->(∀ b o,s.heap.get? b=some o->g.get? b=some o)->Q v { s with heap:=g,toks:=tk }):wpAny (model prog w) A (call (.builtin "min") [.ref l]) Q E s:=by
 have nm:(toString "min" ++ toString ".loop" : String) = "min.loop" := by decide
 have lt:∀ {b:Addr} {o:Obj},s.heap.get? b=some o->b<s.heap.objs.size:=fun e=>Heap.lt_size e
 have hll:l<s.heap.objs.size:=by obtain ⟨o,e,_⟩:=id hl;exact lt e
 refine call_function_tree (id := "min") F.kind_min F.plain_min F.entry_min (F.args_min1 (.ref l)) ?_
 have par:Builtin.Builtins.bindParams "min" ["key", "default"] 0 ⟨[],[]⟩=pure [none,none]:=rfl
 refine (wpAny_bind (wpAny_of_eq par ?_):wpAny _ A.in1 (Builtin.Builtins.bindParams "min" _ 0 _ >>= _) _ _ s)
 refine wpAny_bind (wpAny_pure (wpAny_bind (wpAny_pyIter_list hl (wpAny_bind (wpAny_newObj_type ?_)))))
 rw [nm]
 refine wpAny_pure ⟨plainId_quiet F.plain_min_loop _,qcx (h0:=s.heap) (Walks.list (A:=A.in1) hh _ l (Nat.ne_of_lt hll) items) bt (fun i j u v s' Q' E' hij k hu hv q=>hc i j u v s' Q' E' hij k hu hv q) _ ?_ (fun b o e=>?_) [] hn
  ⟨⟨_,Heap.get?_push_of_some _ (Heap.get?_push_size _ rfl),rfl,rfl⟩,(hl.push _).push _⟩ (fun b o e=>Heap.get?_push_of_some _ (Heap.get?_push_of_some _ e)) (Heap.get?_push_size _ rfl) fun v g tk hv k=>?_⟩
 ·simp only [Heap.size_push]
  intro hm;simp only [List.mem_cons,List.not_mem_nil,or_false] at hm
  rcases hm with hm|hm
  ·exact Nat.succ_ne_self _ hm
  ·exact absurd hm (Nat.ne_of_gt (Nat.lt_succ_of_lt hll))
 ·have:=lt e
  simp only [Heap.size_push]
  exact ⟨fun hm=>absurd (List.mem_singleton.mp hm) (Nat.ne_of_lt this),Nat.ne_of_lt (Nat.lt_succ_of_lt this)⟩
 ·refine h v g tk hv fun b o e=>k b o ?_ ?_ (Heap.get?_push_of_some _ (Heap.get?_push_of_some _ e))
  ·exact fun hm=>absurd (List.mem_singleton.mp hm) (Nat.ne_of_lt (lt e))
  ·have:=lt e
   simp only [Heap.size_push]
   exact Nat.ne_of_lt (Nat.lt_succ_of_lt this)
end
section
variable {X:Cx}
def Jl (ds:List PyData):Bool:=ds.all fun d=>SeqAt.shaped d&&decide (d.depth<=50)&&ds.all fun e=>(ltX d e).isSome
def zQ (ds:List PyData)(i j:Nat):Bool:=match ds[i]?,ds[j]? with
 | some d,some e=>(ltX d e).getD false
 | _,_=>false
def j9:List PyData->Option PyData
 | [.list ds]=>if Jl ds=true/\ds.length<=1000 then ds[bestOf (zQ ds) (ds.length-1)]? else none
 | _=>none
theorem qa9 {k:Nat}(hr:Room k X.A):CallD X (.builtin "min") j9:=fun pins s σ H xs us Q I r ⟨S,ds,d,m,h1,e,q⟩=>by
 unfold j9 at e
 split at e
 ·rename_i ls
  split at e
  ·rename_i hc
   obtain ⟨v1,rfl,d1⟩:=h1.inv1
   obtain ⟨u1,rfl,r1⟩:=r.one
   cases d1 with
   | @list a ys _ hs t =>
    cases (show u1=Value.ref a from r1)
    obtain ⟨its,rv,p,hz⟩:=I.list hs.sq
    have hl:=rv.length
    have ht:=t.length
    have hu:=hr.units
    have hpos:0<ls.length:=by
     cases ls with
     | nil=>cases e
     | cons=>exact Nat.zero_lt_succ _
    have get:∀ {i:Nat} {x:Value},its.toArray[i]?=some x->∃ y d,ys[i]?=some y/\RelV y x/\ls[i]?=some d/\Den X.K H S y d:=fun {i x} hx=>by
     rw [List.getElem?_toArray] at hx
     obtain ⟨hi,-⟩:=List.getElem?_eq_some_iff.mp hx
     have hi':i<ys.length:=by omega
     obtain ⟨y,hy,ry⟩:=Vals.back rv hx
     obtain ⟨d,hd,dd⟩:=t.back hy
     exact ⟨y,d,hy,ry,hd,dd⟩
    have ok:=List.all_eq_true.mp hc.1
    refine qdt (bt:=zQ ls) hr.hd p.isList (by simp;omega) (fun i j x y s' Q' E' hij kp hx hy q'=>?_) fun v g tk hv kp=>?_
    ·obtain ⟨vx,dx,_,rx,ex,gx⟩:=get hx
     obtain ⟨vy,dy,_,ry,ey,gy⟩:=get hy
     have ox:=ok dx (List.mem_of_getElem? ex)
     have oy:=ok dy (List.mem_of_getElem? ey)
     rw [Bool.and_eq_true,Bool.and_eq_true] at ox oy
     obtain ⟨as,rx2⟩:=gx.reads I (SeqAt.canLay_of_shaped ox.1.1) rx
     obtain ⟨bs,ry2⟩:=gy.reads I (SeqAt.canLay_of_shaped oy.1.1) ry
     have lt:=List.all_eq_true.mp ox.2 dy (List.mem_of_getElem? ey)
     obtain ⟨b,eb⟩:=Option.isSome_iff_exists.mp lt
     have ebt:zQ ls i j=b:=by unfold zQ;rw [ex,ey];show (ltX dx dy).getD false=b;rw [eb];rfl
     rw [ebt] at q'
     exact JK 50 _ _ X.A.in1 s' x y as bs b (of_decide_eq_true ox.1.2) (Reads.keeps kp rx2) (Reads.keeps kp ry2) (SeqAt.canLay_of_shaped ox.1.1) (SeqAt.canLay_of_shaped oy.1.1) (by show X.A.units+1+50+1<cLine;omega) eb X.prog X.w E' Q' q'
    ·obtain ⟨vx,dx,_,rx,ex,gx⟩:=get hv
     have hsz:its.toArray.size=ls.length:=by simp;omega
     rw [hsz] at ex
     rw [e] at ex
     cases ex
     exact ⟨vx,H,I.kept kp,rx,q _ H (Same.refl H) gx⟩
  ·cases e
 ·cases e
end
end L2
namespace L2
open PySem PySem.Spec PyProof.Rows
section
variable {s:Shared}{prog:Program}{w:World}{A:Around}{E:Value->Shared->Prop}
end
section
variable {X:Cx}
end
end L2
namespace L2
open PySem PySem.Spec PyProof.Rows
section
variable {X:Cx}{tg a b c:Expr}{pos:Pos}
end
end L2
namespace L2
open PySem PySem.Spec PyProof.Rows
section
variable {prog:Program}{w:World}{A:Around}{E:Value->Shared->Prop}{s:Shared}
end
section
variable {X:Cx}{M:List Nat}{a:Expr}{f:Rho->Option PyData}{ts:List Expr}{kk:Nat}{tp apos cpos:Pos}
end
end L2
namespace L2
open PySem PySem.Spec PyProof.Rows
section
variable {X:Cx}{M:List Nat}{a b:Expr}{f fk:Rho->Option PyData}{pos:Pos}
end
end L2
namespace L2
open PySem PySem.Spec PyProof.Rows
theorem Is2.grow {h h':Heap}{ks:K2}{a:Addr}(x:Is2 h ks a)(k:∀ b o,h.get? b=some o->h'.get? b=some o):Is2 h' ks a:=let ⟨as,r⟩:=x;⟨as,Reads.keeps k r⟩
section
variable {prog:Program}{w:World}{A:Around}{E:Value->Shared->Prop}{s:Shared}{D:Addr}{kvs:List (KX×Addr×V)}{ep:Nat}{ks:KX}{b:Addr}{v:V}{key r:Value}{h0:Heap}
end
theorem ZX.but {h h':Heap}{D:Addr}{kvs:List (KX×Addr×V)}{ep:Nat}(d:ZX D kvs ep h)(k:∀ o,h.get? D=some o->h'.get? D=some o):ZX D kvs ep h' :=
 ⟨d.1,d.2.1,d.2.2.imp (fun ⟨xs,r,o,es,g1,g2⟩=>⟨xs,r,o,es,k o g1,g2⟩) fun ⟨xs,r,o,es,g1,g2⟩=>⟨xs,r,o,es,k o g1,g2⟩⟩
section
variable {prog:Program}{w:World}{A:Around}{R:Result->Shared->Prop}{it D:Addr}{fp wr:List Addr}{Pv:Nat->Value->Prop}{St:Nat->Heap->Prop}{h0:Heap}
end
end L2
namespace L2
open PySem PySem.Spec PyProof.Rows
section
variable {prog:Program}{w:World}{A:Around}{E:Value->Shared->Prop}{s:Shared}
end
section
variable {K:PySem.W.Frag}{H:Hp}{S:Av}
end
section
variable {X:Cx}{pins:List (Addr×Obj)}{σ:St}{H:Hp}{s:Shared}{S:Av}
end
end L2
namespace L2
open PySem PySem.Spec PyProof.Rows
section
variable {X:Cx}{G:Gm}{M Mb L:List Nat}{fr:Fr}{a b:Expr}{f fk:Rho->Option PyData}{pos:Pos}{K:PySem.W.Frag}{H:Hp}{S:Av}
end
end L2
namespace L2
open PySem PySem.Spec PyProof.Rows
section
variable {X:Cx}{G:Gm}{M M' Mb L:List Nat}{a:Expr}{f:Rho->Option PyData}{pos tp:Pos}
end
end L2
namespace L2
open PySem PySem.Spec PyProof.Rows
section
variable {X:Cx}{M:List Nat}{a:Expr}{f:Rho->Option PyData}
end
end L2
namespace L2
open PySem PySem.Spec PyProof.Rows
section
variable {X:Cx}{M:List Nat}{a b:Expr}{fa fb:Rho->Option PyData}{pos:Pos}
end
section
variable {s:Shared}{prog:Program}{w:World}{A:Around}{E:Value->Shared->Prop}
end
section
variable {X:Cx}
end
section
variable {s:Shared}{prog:Program}{w:World}{A:Around}{E:Value->Shared->Prop}
end
section
variable {X:Cx}
end
end L2
namespace L2
open PySem
theorem qd5 (i:Nat)(f:Rho->Option PyData)(ρ:Rho):qd4 i f ρ=takO (decide (i<ρ.length/\ρ.length<=1000)) (f ρ) i ρ:=by
 unfold qd4 ob takO
 by_cases h:i<ρ.length/\ρ.length<=1000
 ·rw [if_pos h,decide_eq_true h]
  cases f ρ<;>rfl
 ·rw [if_neg h,decide_eq_false h]
def vcO (a:Option PyData)(b:Option (List PyData)):Option (List PyData):=match a,b with | some x,some xs=>if qfP x=true then some (x::xs) else none|_,_=>none
theorem vC_b (f:Rho->Option PyData)(fs:Rho->Option (List PyData))(ρ:Rho):vC f fs ρ=vcO (f ρ) (fs ρ):=by
 unfold vC ob vcO
 cases f ρ<;>cases fs ρ<;>rfl
theorem vcO_s (ds es:List PyData):vcO (some (.list ds)) (some es)=some (.list ds::es):=rfl
def bi2O (a b:Option PyData)(g:PyData->PyData->Option (List PyData)):Option (List PyData):=match a,b with | some x,some y=>g x y|_,_=>none
theorem qgm (fa fb:Rho->Option PyData)(g:PyData->PyData->Option (List PyData))(ρ:Rho):evI2 fa fb g ρ=bi2O (fa ρ) (fb ρ) g:=by
 unfold evI2 ob bi2O
 cases fa ρ<;>cases fb ρ<;>rfl
theorem qge (x y:PyData)(g:PyData->PyData->Option (List PyData)):bi2O (some x) (some y) g=g x y:=rfl
def kapO (c k d:Option PyData)(i:Nat)(ρ:Rho):Option Out:=match c,k,d with
 | some c,some k,some d=>ob (wU c k) fun j=>ob (wR c j) fun l=>ob (appD l d) fun l'=>some (.nx (ρ.set i (some (WY c j l'))))
 | _,_,_=>none
theorem qfz (i:Nat)(fk f:Rho->Option PyData)(ρ:Rho):qf0 i fk f ρ=kapO (vr i ρ) (fk ρ) (f ρ) i ρ:=by
 unfold qf0 kapO
 cases vr i ρ with
 | none=>rfl
 | some c =>
  cases fk ρ with
  | none=>rfl
  | some k =>
   cases f ρ with
   | some d=>rfl
   | none =>
    show ob (wU c k) _=none
    cases wU c k with
    | none=>rfl
    | some j =>
     show ob (wR c j) _=none
     cases wR c j<;>rfl
def kclO (c k:Option PyData)(i:Nat)(ρ:Rho):Option Out:=match c,k with
 | some c,some k=>ob (wU c k) fun j=>ob (wR c j) fun _=>some (.nx (ρ.set i (some (WY c j (.list [])))))
 | _,_=>none
theorem qfA (i:Nat)(fk:Rho->Option PyData)(ρ:Rho):qf1 i fk ρ=kclO (vr i ρ) (fk ρ) i ρ:=by
 unfold qf1 kclO
 cases vr i ρ with
 | none=>rfl
 | some c=>cases fk ρ<;>rfl
def nxdO (o:Option PyData)(i:Nat)(ρ:Rho):Option Out:=match o with | some l=>some (.nx (ρ.set i (some l)))|none=>none
theorem qgT (l:PyData)(i:Nat)(ρ:Rho):nxdO (some l) i ρ=some (.nx (ρ.set i (some l))):=rfl
def dpO (d l k:Option PyData)(i:Nat)(ρ:Rho):Option Out:=match d,l,k with | some d,some l,some k=>nxdO (qbJ l k d) i ρ|_,_,_=>none
theorem dpO_s (d l k:PyData)(i:Nat)(ρ:Rho):dpO (some d) (some l) (some k) i ρ=nxdO (qbJ l k d) i ρ:=rfl
theorem qfy (i:Nat)(fk f:Rho->Option PyData)(ρ:Rho):qfZ i fk f ρ=dpO (f ρ) (vr i ρ) (fk ρ) i ρ:=by
 unfold qfZ dpO ob
 cases f ρ with
 | none=>rfl
 | some d =>
  cases vr i ρ with
  | none=>rfl
  | some l =>
   cases fk ρ with
   | none=>rfl
   | some k =>
    dsimp only
    unfold nxdO
    cases qbJ l k d<;>rfl
def triO (a b c:Option PyData)(r:PyData->PyData->PyData->Option PyData):Option PyData:=match a,b,c with | some x,some y,some z=>r x y z|_,_,_=>none
theorem qhM (x y z:PyData)(r:PyData->PyData->PyData->Option PyData):triO (some x) (some y) (some z) r=r x y z:=rfl
theorem ev3_b (f g h:Rho->Option PyData)(r:PyData->PyData->PyData->Option PyData)(ρ:Rho):ev3 f g h r ρ=triO (f ρ) (g ρ) (h ρ) r:=by
 unfold ev3 triO ob
 cases f ρ<;>cases g ρ<;>cases h ρ<;>rfl
theorem qeY (a b:List PyData)(d:PyData)(i:Nat)(ρ:Rho):kapO (some (.tuple [.list a,.list b])) (some (.int 0)) (some d) i ρ=if a.length<1000 then some (.nx (ρ.set i (some (.tuple [.list (a++[d]),.list b])))) else none:=by
 show ob (appD (.list a) d) _=_
 rw [qa8]
 split<;>rfl
theorem qeZ (a b:List PyData)(d:PyData)(i:Nat)(ρ:Rho):kapO (some (.tuple [.list a,.list b])) (some (.int 1)) (some d) i ρ=if b.length<1000 then some (.nx (ρ.set i (some (.tuple [.list a,.list (b++[d])])))) else none:=by
 show ob (appD (.list b) d) _=_
 rw [qa8]
 split<;>rfl
theorem qe0 (a b:List PyData)(i:Nat)(ρ:Rho):kclO (some (.tuple [.list a,.list b])) (some (.int 0)) i ρ=some (.nx (ρ.set i (some (.tuple [.list [],.list b])))):=rfl
theorem qe1 (a b:List PyData)(i:Nat)(ρ:Rho):kclO (some (.tuple [.list a,.list b])) (some (.int 1)) i ρ=some (.nx (ρ.set i (some (.tuple [.list a,.list []])))):=rfl
end L2
namespace L2
open PySem PySem.Spec PyProof.Rows
theorem Kids.snoc {K:PySem.W.Frag}{H:Hp}{S:Av}{p:Addr}{xs:List V}{es:List PyData}(h:H p=some (.lst xs))(t:DenL K H S xs es):∀ {qs:List Addr} {ds:List PyData},p∉qs->Kids K H S qs ds->Kids K H S (qs++[p]) (ds++[.list es])
 | _,_,_,.nil=>.cons h t (fun z=>nomatch z) .nil
 | _,_,n,.cons h' t' n' r=>.cons h' t' (fun z=>(List.mem_append.mp z).elim n' fun z=>n (by rw [List.mem_singleton.mp z];exact .head _)) (Kids.snoc h t (fun z=>n (.tail _ z)) r)
section
variable {X:Cx}{G:Gm}{M M' Mb L:List Nat}{fr:Fr}{f:Rho->Option PyData}{p:Rho->Option Bool}{pos:Pos}
variable {elt iter tg:Expr}{ifs:List Expr}{x:Str}{N':List Str}{px:Pos}{sc:Scope}{n k:Nat}{fi:Rho->Option (List PyData)}{g:PyData->Rho->Option Rho}
end
end L2
namespace L2
open PySem PySem.Spec PyProof.Rows
section
variable {K:PySem.W.Frag}{G:Gm}{M L:List Nat}{H H':Hp}{S:Av}{σ:St}{ρ:Rho}{d:PyData}
theorem OwnS.more (h:OwnS K G M L H S σ ρ){q:Addr}(hn:H q=none)(e:Same H H')(hq:∃ o,H' q=some o/\j8 o=true):OwnS K G M L H' (insA S q) σ ρ:=by
 have sub:∀ a,H a≠none->insA S q a->S a:=fun a ha z=>by
  rcases z with z|rfl
  ·exact z
  ·exact absurd hn ha
 obtain ⟨F,f⟩:=h.deep
 refine ⟨⟨(h.ds.1.same e).ins hq,h.ds.2.1,fun j d' hj w=>let ⟨v,a,b⟩:=h.ds.2.2 j d' hj w;⟨v,a,(b.sub sub).same e⟩⟩,fun a z=>.inl (h.s0 a z),h.h0.trans e,fun j hj d' w=>?_,h.apart,fun a z=>?_,h.lkd,F,fun j hj d' w=>?_,f.disj,f.flat⟩
 ·obtain ⟨p,a,b,c,n⟩:=h.own j hj d' w
  exact ⟨p,a,(b.sub sub).same e,.inl c,n⟩
 ·rcases z with z|rfl
  ·exact h.bnd a z
  ·exact .inr (.inl (h.h0.free hn))
 ·obtain ⟨p,a,b,c⟩:=f.own j hj d' w
  exact ⟨p,a,(b.sub sub).same e,fun r hr=>⟨.inl (c r hr).1,(c r hr).2⟩⟩
end
section
variable {X:Cx}{G:Gm}{M M' Mb L:List Nat}{fr:Fr}{a b:Expr}{f fk:Rho->Option PyData}{pos lp:Pos}
end
end L2
namespace L2
open PySem PySem.Spec PyProof.Rows
def scB (N P G:List Str)(sc:Scope):Bool :=
 decide (sc.kind=.function)&&(decide (sc.isCoroutine=false)&&(decide (sc.isGenerator=false)&&(decide N.Nodup&&(decide (N.take P.length=P)&&(P.all (locB sc)&&(sc.names.all (fun y=>decide (y.2≠.free))&&(N.all (fun x=>visB sc x&&locB sc x)&&G.all (glB sc))))))))
structure ScOk (N P G:List Str)(sc:Scope):Prop where
 fs:FnScope N P sc
 nm:∀ x∈N,visB sc x=true/\locB sc x=true
 gb:∀ x∈G,glB sc x=true
theorem scmk {N P G:List Str}{sc:Scope}(h:scB N P G sc=true):ScOk N P G sc:=by
 unfold scB at h
 simp only [Bool.and_eq_true,decide_eq_true_eq,List.all_eq_true] at h
 obtain ⟨h1,h2,h3,h4,h5,h6,h7,h8,h9⟩:=h
 exact ⟨⟨h1,h2,h3,h4,h5,fun x hx=>qdu (h6 x hx),h7⟩,h8,h9⟩
section
variable {N P G:List Str}{sc:Scope}{x:Str}
theorem ScOk.vis (S:ScOk N P G sc)(i:Nat)(e:N[i]?=some x):Vis sc x:=qei (S.nm x (List.mem_of_getElem? e)).1
theorem ScOk.loc (S:ScOk N P G sc)(i:Nat)(e:N[i]?=some x):Loc sc x:=qdu (S.nm x (List.mem_of_getElem? e)).2
theorem ScOk.gl {X:Cx}(S:ScOk N P G sc)(i:Nat)(e:G[i]?=some x)(hs:X.env.scope=sc):Gl X x:=gl_fn sc hs (S.gb x (List.mem_of_getElem? e))
end
def FnK (K:PySem.W.Frag)(n:Str)(st:Stmt):Prop:=∃ (f:Addr) (fd:FuncData),PySem.W.nsIn K mainGlobals n=some (some (.ref f))/\Fun K n n st f fd
theorem FnK.of {K:PySem.W.Frag}{n:Str}{st:Stmt}{f:Addr}{oc:Value}{od an:Option Addr}{osl:Array (Option Value)}{kV doc pm cdv ct:Value}(a:PySem.W.nsIn K mainGlobals n=some (some (.ref f)))(l:K.lookup f=some ⟨oc,od,.func (PySem.W.fnOf n n (Za st) (zZ st) (qi st) .none kV doc pm an cdv ct),osl⟩)
  (c:PySem.W.codeIn K cdv n=true) (k:PySem.W.keepIn K (.ref f)=true):FnK K n st:=⟨f,_,a,qdg l c k⟩
end L2
namespace L2
open PySem PySem.W PyProof.Rows
theorem ZW {α β:Type}{lt:Nat->Nat->Option Bool}{f:α->KasT β}:∀ (t:KasT α),runC lt (t.bind f)=ob (runC lt t) fun a=>runC lt (f a)
 | .ret _=>rfl
 | .ask i j k=>by
  show ob (lt i j) (fun b=>runC lt ((k b).bind f))=ob (ob (lt i j) fun b=>runC lt (k b)) _
  cases lt i j with
  | none=>rfl
  | some b=>exact ZW (k b)
structure IOrd (n:Nat)(lt:Nat->Nat->Option Bool)(blt:Nat->Nat->Bool):Prop where
 ask:∀ i j,i<n->j<n->lt i j=some (blt i j)
 irr:∀ i,blt i i=false
 tr:∀ i j k,blt i j=true->blt j k=true->blt i k=true
 neg:∀ i j k,blt i k=true->blt i j=true\/blt j k=true
def gp (p:Array Nat)(i:Nat):Nat:=p.getD i 0
def QB (n:Nat)(p:Array Nat):Prop:=p.toList.Perm (List.range n)
def UpTo (blt:Nat->Nat->Bool)(p:Array Nat)(m:Nat):Prop:=∀ i j,i<=j->j<m->blt (gp p j) (gp p i)=false
section
variable {n:Nat}{lt:Nat->Nat->Option Bool}{blt:Nat->Nat->Bool}{p:Array Nat}
theorem QB.size (h:QB n p):p.size=n:=by
 have:=h.length_eq
 rw [Array.length_toList,List.length_range] at this
 exact this
theorem QB.inb (h:QB n p){i:Nat}(hi:i<n):gp p i<n:=by
 have hs:=h.size
 have e:gp p i=p[i]'(by omega):=by simp [gp,Array.getD,hs,hi]
 have hm:p[i]'(by omega)∈p.toList:=by simp
 have:=h.mem_iff.mp hm
 rw [e]
 exact List.mem_range.mp this
theorem qaz {q:Array Nat}{i j:Nat}(h:q[i]?=p[j]?):gp q i=gp p j:=by
 unfold gp
 simp only [Array.getD_eq_getD_getElem?,h]
theorem IOrd.le_tr (O:IOrd n lt blt){a b c:Nat}(h1:blt b a=false)(h2:blt c b=false):blt c a=false:=by
 cases h:blt c a with
 | false=>rfl
 | true =>
  rcases O.neg c b a h with z|z
  ·rw [h2] at z;cases z
  ·rw [h1] at z;cases z
theorem IOrd.asym (O:IOrd n lt blt){a b:Nat}(h:blt a b=true):blt b a=false:=by
 cases z:blt b a with
 | false=>rfl
 | true =>
  have:=O.tr a b a h z
  rw [O.irr] at this
  cases this
theorem qcG (O:IOrd n lt blt)(hp:QB n p){k:Nat}(hk:k<n)(hs:UpTo blt p k):∀ (f l r:Nat),r-l<=f->l<=r->r<=k->(∀ i,i<l->blt (gp p k) (gp p i)=false)->(∀ i,r<=i->i<k->blt (gp p k) (gp p i)=true)->
  ∃ m,runC lt (kas_place p k f l r)=some m/\m<=k/\(∀ i,i<m->blt (gp p k) (gp p i)=false)/\(∀ i,m<=i->i<k->blt (gp p k) (gp p i)=true):=by
 intro f
 induction f with
 | zero =>
  intro l r h1 h2 h3 h4 h5
  exact ⟨l,rfl,by omega,h4,fun i hi hi2=>h5 i (by omega) hi2⟩
 | succ f ih =>
  intro l r h1 h2 h3 h4 h5
  unfold kas_place
  by_cases hlr:l >= r
  ·rw [if_pos hlr]
   exact ⟨l,rfl,by omega,h4,fun i hi hi2=>h5 i (by omega) hi2⟩
  ·rw [if_neg hlr]
   have hm:(l+r) / 2<k:=by omega
   have ea:=O.ask (gp p k) (gp p ((l+r) / 2)) (hp.inb hk) (hp.inb (by omega))
   show ∃ m,ob (lt (gp p k) (gp p ((l+r) / 2))) (fun c=>runC lt (if c=true then kas_place p k f l ((l+r) / 2) else kas_place p k f ((l+r) / 2+1) r))=some m/\_
   rw [ea]
   cases hb:blt (gp p k) (gp p ((l+r) / 2)) with
   | true =>
    refine ih l ((l+r) / 2) (by omega) (by omega) (by omega) h4 fun i hi hi2=>?_
    cases z:blt (gp p k) (gp p i) with
    | true=>rfl
    | false =>
     have:=hs ((l+r) / 2) i hi hi2
     have q:=O.le_tr this z
     rw [hb] at q
     cases q
   | false =>
    refine ih ((l+r) / 2+1) r (by omega) (by omega) h3 (fun i hi=>?_) h5
    exact O.le_tr (hs i ((l+r) / 2) (by omega) hm) hb
theorem qaW {q:Array Nat}(h:QB n p)(hq:q.Perm p):QB n q:=(Array.perm_iff_toList_perm.mp hq).trans h
theorem wN {k m:Nat}(hk:k<p.size)(hm:m<=k)(i:Nat):gp (bubble p k (k-m)) i=if i=m then gp p k else if m<i/\i<=k then gp p (i-1) else gp p i:=by
 have e:=getElem?_bubble hk (k-m) (by omega) i
 have hkm:k-(k-m)=m:=by omega
 rw [hkm] at e
 by_cases h1:i=m
 ·rw [if_pos h1] at e ⊢;exact qaz e
 ·rw [if_neg h1] at e ⊢
  by_cases h2:m<i/\i<=k
  ·rw [if_pos h2] at e ⊢;exact qaz e
  ·rw [if_neg h2] at e ⊢;exact qaz e
theorem jl {i j:Nat}(hj:j<=p.size)(k:Nat):gp (kas_rev p i j) k=if i<=k/\k<j then gp p (i+j-1-k) else gp p k:=by
 have e:=getElem?_mirror_all (i:=i) hj k
 unfold kas_rev
 by_cases h1:i<=k/\k<j
 ·rw [if_pos h1] at e ⊢;exact qaz e
 ·rw [if_neg h1] at e ⊢;exact qaz e
theorem jB (h:QB n p)(i j:Nat):QB n (kas_rev p i j):=qaW h (mirror_perm _ _ _ _)
theorem qeq (O:IOrd n lt blt):∀ (f:Nat) (p:Array Nat) (k:Nat),QB n p->UpTo blt p k->k+f=n->∃ p',runC lt (kas_bin f p k)=some p'/\QB n p'/\UpTo blt p' n:=by
 intro f
 induction f with
 | zero=>exact fun p k hp hs e=>⟨p,rfl,hp,by rw [← e];exact hs⟩
 | succ f ih =>
  intro p k hp hs e
  have hk:k<n:=by omega
  obtain ⟨m,e1,h1,h2,h3⟩:=qcG O hp hk hs k 0 k (by omega) (by omega) (by omega) (fun i hi=>by omega) (fun i hi hi2=>by omega)
  have hz:=hp.size
  obtain ⟨p',e2,h4,h5⟩:=ih (bubble p k (k-m)) (k+1) (qaW hp (bubble_perm _ _ _)) (fun i j hij hj=>by
   rw [wN (by omega) h1,wN (by omega) h1]
   by_cases a1:j=m
   ·rw [if_pos a1]
    by_cases a2:i=m
    ·rw [if_pos a2];exact O.irr _
    ·rw [if_neg a2,if_neg (by omega)]
     exact h2 i (by omega)
   ·rw [if_neg a1]
    by_cases a3:m<j/\j<=k
    ·rw [if_pos a3]
     by_cases a2:i=m
     ·rw [if_pos a2]
      exact O.asym (h3 (j-1) (by omega) (by omega))
     ·rw [if_neg a2]
      by_cases a4:m<i/\i<=k
      ·rw [if_pos a4]
       exact hs (i-1) (j-1) (by omega) (by omega)
      ·rw [if_neg a4]
       exact hs i (j-1) (by omega) (by omega)
    ·rw [if_neg a3,if_neg (by omega),if_neg (by omega)]
     exact hs i j hij (by omega)) (by omega)
  refine ⟨p',?_,h4,h5⟩
  unfold kas_bin
  rw [ZW,e1]
  exact e2
theorem qbx (O:IOrd n lt blt)(hp:QB n p):∀ (f m:Nat),1<=m->m+f<=n->UpTo blt p m->∃ m',runC lt (kas_asc p f m)=some m'/\m<=m'/\m'<=m+f/\UpTo blt p m'/\(m'<m+f->blt (gp p m') (gp p (m'-1))=true):=by
 intro f
 induction f with
 | zero=>exact fun m h1 h2 hs=>⟨m,rfl,by omega,by omega,hs,fun z=>by omega⟩
 | succ f ih =>
  intro m h1 h2 hs
  have ea:=O.ask (gp p m) (gp p (m-1)) (hp.inb (by omega)) (hp.inb (by omega))
  unfold kas_asc
  show ∃ m',ob (lt (gp p m) (gp p (m-1))) (fun c=>runC lt (if c=true then .ret m else kas_asc p f (m+1)))=some m'/\_
  rw [ea]
  cases hb:blt (gp p m) (gp p (m-1)) with
  | true=>exact ⟨m,rfl,by omega,by omega,hs,fun _=>hb⟩
  | false =>
   obtain ⟨m',e1,h3,h4,h5,h6⟩:=ih (m+1) (by omega) (by omega) (fun i j hij hj=>by
    by_cases hjm:j=m
    ·subst hjm
     by_cases hi:i=j
     ·subst hi;exact O.irr _
     ·exact O.le_tr (hs i (j-1) (by omega) (by omega)) hb
    ·exact hs i j hij (by omega))
   exact ⟨m',e1,by omega,by omega,h5,fun z=>h6 (by omega)⟩
def ym (blt:Nat->Nat->Bool)(p:Array Nat)(m:Nat):Prop:=∀ i j,i<=j->j<m->blt (gp p i) (gp p j)=false
def qcR (blt:Nat->Nat->Bool)(p:Array Nat)(a b:Nat):Prop:=∀ i j,a<=i->i<b->a<=j->j<b->blt (gp p i) (gp p j)=false
theorem qau (hp:QB n p){m a:Nat}(hm:m<=n)(ha:a<=m)(hd:ym blt p m)(hs:qcR blt p a m):ym blt (kas_rev p a m) m/\∀ i,i<m->∃ i',i'<m/\gp (kas_rev p a m) i=gp p i':=by
 have hz:=hp.size
 refine ⟨fun i j hij hj=>?_,fun i hi=>?_⟩
 ·rw [jl (by omega),jl (by omega)]
  by_cases h1:a<=i/\i<m
  ·rw [if_pos h1,if_pos (by omega)]
   exact hs _ _ (by omega) (by omega) (by omega) (by omega)
  ·rw [if_neg h1]
   by_cases h2:a<=j/\j<m
   ·rw [if_pos h2];exact hd _ _ (by omega) (by omega)
   ·rw [if_neg h2];exact hd _ _ hij hj
 ·rw [jl (by omega)]
  by_cases h1:a<=i/\i<m
  ·rw [if_pos h1];exact ⟨_,by omega,rfl⟩
  ·rw [if_neg h1];exact ⟨i,hi,rfl⟩
theorem qdd (O:IOrd n lt blt):∀ (f:Nat) (p:Array Nat) (m q:Nat),QB n p->m+f<=n->q+1<=m->ym blt p m->qcR blt p (m-(q+1)) m->
  ∃ p' m' q',runC lt (kas_desc f p m q)=some (p',m',q')/\QB n p'/\m<=m'/\m'<=m+f/\q'+1<=m'/\ym blt p' m'/\qcR blt p' (m'-(q'+1)) m':=by
 intro f
 induction f with
 | zero=>exact fun p m q hp _ hq hd hs=>⟨p,m,q,rfl,hp,by omega,by omega,hq,hd,hs⟩
 | succ f ih =>
  intro p m q hp hm hq hd hs
  have hz:=hp.size
  have e1:=O.ask (gp p m) (gp p (m-1)) (hp.inb (by omega)) (hp.inb (by omega))
  have e2:=O.ask (gp p (m-1)) (gp p m) (hp.inb (by omega)) (hp.inb (by omega))
  unfold kas_desc
  show ∃ p' m' q',ob (lt (gp p m) (gp p (m-1))) (fun c=>runC lt (if c=true then (if q > 0 then kas_desc f (kas_rev p (m-(q+1)) m) (m+1) 0 else kas_desc f p (m+1) 0)
   else .ask (p.getD (m-1) 0) (p.getD m 0) fun d=>if d=true then .ret (p,m,q) else kas_desc f p (m+1) (q+1)))=some (p',m',q')/\_
  rw [e1]
  cases hb:blt (gp p m) (gp p (m-1)) with
  | true =>
   have below:∀ i,i<m->blt (gp p i) (gp p m)=false:=fun i hi=>O.le_tr (O.asym hb) (hd i (m-1) (by omega) (by omega))
   show ∃ p' m' q',runC lt (if q > 0 then kas_desc f (kas_rev p (m-(q+1)) m) (m+1) 0 else kas_desc f p (m+1) 0)=some (p',m',q')/\_
   by_cases hq0:q > 0
   ·rw [if_pos hq0]
    obtain ⟨d1,d2⟩:=qau (blt:=blt) hp (m:=m) (a:=m-(q+1)) (by omega) (by omega) hd hs
    have gm:gp (kas_rev p (m-(q+1)) m) m=gp p m:=by rw [jl (by omega),if_neg (by omega)]
    obtain ⟨p',m',q',r1,r2,r3,r4,r5,r6,r7⟩:=ih (kas_rev p (m-(q+1)) m) (m+1) 0 (jB hp _ _) (by omega) (by omega) (fun i j hij hj=>by
     by_cases hjm:j=m
     ·subst hjm
      by_cases hi:i=j
      ·subst hi;exact O.irr _
      ·obtain ⟨i',hi',ei⟩:=d2 i (by omega)
       rw [ei,gm]
       exact below i' hi'
     ·exact d1 i j hij (by omega)) (fun i j h1 h2 h3 h4=>by
      have:i=m:=by omega
      have:j=m:=by omega
      subst i;subst j;exact O.irr _)
    exact ⟨p',m',q',r1,r2,by omega,by omega,r5,r6,r7⟩
   ·rw [if_neg hq0]
    obtain ⟨p',m',q',r1,r2,r3,r4,r5,r6,r7⟩:=ih p (m+1) 0 hp (by omega) (by omega) (fun i j hij hj=>by
     by_cases hjm:j=m
     ·subst hjm
      by_cases hi:i=j
      ·subst hi;exact O.irr _
      ·exact below i (by omega)
     ·exact hd i j hij (by omega)) (fun i j h1 h2 h3 h4=>by
      have:i=m:=by omega
      have:j=m:=by omega
      subst i;subst j;exact O.irr _)
    exact ⟨p',m',q',r1,r2,by omega,by omega,r5,r6,r7⟩
  | false =>
   show ∃ p' m' q',ob (lt (gp p (m-1)) (gp p m)) (fun d=>runC lt (if d=true then .ret (p,m,q) else kas_desc f p (m+1) (q+1)))=some (p',m',q')/\_
   rw [e2]
   cases hd2:blt (gp p (m-1)) (gp p m) with
   | true=>exact ⟨p,m,q,rfl,hp,by omega,by omega,hq,hd,hs⟩
   | false =>
    obtain ⟨p',m',q',r1,r2,r3,r4,r5,r6,r7⟩:=ih p (m+1) (q+1) hp (by omega) (by omega) (fun i j hij hj=>by
     by_cases hjm:j=m
     ·subst hjm
      by_cases hi:i=j
      ·subst hi;exact O.irr _
      ·exact O.le_tr hd2 (hd i (j-1) (by omega) (by omega))
     ·exact hd i j hij (by omega)) (fun i j h1 h2 h3 h4=>by
      have s1:∀ i,m-(q+1)<=i->i<m->blt (gp p i) (gp p m)=false/\blt (gp p m) (gp p i)=false:=fun i a b =>
       ⟨O.le_tr hd2 (hs i (m-1) a b (by omega) (by omega)),O.le_tr (hs (m-1) i (by omega) (by omega) a b) hb⟩
      by_cases hi:i=m
      ·subst hi
       by_cases hj:j=i
       ·subst hj;exact O.irr _
       ·exact (s1 j (by omega) (by omega)).2
      ·by_cases hj:j=m
       ·subst hj;exact (s1 i (by omega) (by omega)).1
       ·exact hs i j (by omega) (by omega) (by omega) (by omega))
    exact ⟨p',m',q',r1,r2,by omega,by omega,r5,r6,r7⟩
theorem Wf (O:IOrd n lt blt)(hp:QB n p){m:Nat}(h1:1<=m)(h2:m<=n)(hd:ym blt p m):∃ m' p',runC lt (kas_tail3 m n p)=some (m',p')/\QB n p'/\1<=m'/\m'<=n/\UpTo blt p' m':=by
 have hz:=hp.size
 obtain ⟨m',e1,h3,h4,h5,_⟩:=qbx O (jB hp 0 m) (n-m) m h1 (by omega) (fun i j hij hj=>by
  rw [jl (by omega),jl (by omega),if_pos (by omega),if_pos (by omega)]
  exact hd _ _ (by omega) (by omega))
 refine ⟨m',kas_rev p 0 m,?_,jB hp 0 m,by omega,by omega,h5⟩
 unfold kas_tail3
 rw [ZW,e1]
 rfl
theorem J0 (O:IOrd n lt blt)(hp:QB n p){k:Nat}(h2:k+1<=n)(hd:ym blt p (k+1)):∃ m' p',runC lt (kas_descPart k n p)=some (m',p')/\QB n p'/\1<=m'/\m'<=n/\UpTo blt p' m':=by
 obtain ⟨p1,m1,q1,e1,r2,r3,r4,r5,r6,r7⟩:=qdd O (n-(k+1)) p (k+1) 0 hp (by omega) (by omega) hd (fun i j a1 a2 a3 a4=>by
  have:i=k:=by omega
  have:j=k:=by omega
  subst i;subst j;exact O.irr _)
 unfold kas_descPart
 rw [ZW,e1]
 show ∃ m' p',runC lt (if q1 > 0 then kas_tail3 m1 n (kas_rev p1 (m1-(q1+1)) m1) else kas_tail3 m1 n p1)=some (m',p')/\_
 by_cases hq:q1 > 0
 ·rw [if_pos hq]
  exact Wf O (jB r2 _ _) (by omega) (by omega) (qau r2 (by omega) (by omega) r6 r7).1
 ·rw [if_neg hq]
  exact Wf O r2 (by omega) (by omega) r6
theorem qcn (O:IOrd n lt blt)(hp:QB n p)(hn:1<=n):∃ m' p',runC lt (kas_count n p)=some (m',p')/\QB n p'/\1<=m'/\m'<=n/\UpTo blt p' m':=by
 have hz:=hp.size
 obtain ⟨m,e1,h3,h4,h5,h6⟩:=qbx O hp (n-1) 1 (by omega) (by omega) (fun i j hij hj=>by
  have:i=0:=by omega
  have:j=0:=by omega
  subst i;subst j;exact O.irr _)
 unfold kas_count
 rw [ZW,e1]
 show ∃ m' p',runC lt (if (m==n)=true then .ret (m,p) else if m > 1 then .ask (p.getD 0 0) (p.getD (m-1) 0) fun c=>if c=true then .ret (m,p) else kas_descPart m n (kas_rev p 0 m) else kas_descPart m n p)=some (m',p')/\_
 by_cases hmn:m=n
 ·rw [if_pos (by simpa using hmn)]
  exact ⟨m,p,rfl,hp,by omega,by omega,h5⟩
 ·rw [if_neg (by simpa using hmn)]
  have hb:=h6 (by omega)
  by_cases hm1:m > 1
  ·rw [if_pos hm1]
   have ea:=O.ask (gp p 0) (gp p (m-1)) (hp.inb (by omega)) (hp.inb (by omega))
   show ∃ m' p',ob (lt (gp p 0) (gp p (m-1))) (fun c=>runC lt (if c=true then .ret (m,p) else kas_descPart m n (kas_rev p 0 m)))=some (m',p')/\_
   rw [ea]
   cases hc:blt (gp p 0) (gp p (m-1)) with
   | true=>exact ⟨m,p,rfl,hp,by omega,by omega,h5⟩
   | false =>
    refine J0 O (jB hp 0 m) (by omega) (fun i j hij hj=>?_)
    by_cases hjm:j=m
    ·by_cases hi:i=j
     ·rw [hi];exact O.irr _
     ·rw [jl (by omega),jl (by omega),if_pos (by omega),if_neg (by omega),hjm]
      exact O.le_tr (O.asym hb) (O.le_tr hc (h5 0 (0+m-1-i) (by omega) (by omega)))
    ·rw [jl (by omega),jl (by omega),if_pos (by omega),if_pos (by omega)]
     exact h5 _ _ (by omega) (by omega)
  ·rw [if_neg hm1]
   have hm:m=1:=by omega
   subst hm
   refine J0 O hp (by omega) (fun i j hij hj=>?_)
   by_cases hi:i=j
   ·rw [hi];exact O.irr _
   ·have e0:i=0:=by omega
    have ej:j=1:=by omega
    rw [e0,ej]
    exact O.asym hb
theorem qd8 (O:IOrd n lt blt)(hn:1<=n):∃ p',runC lt (kas_sort n)=some p'/\QB n p'/\UpTo blt p' n:=by
 obtain ⟨m,p,e1,h1,h2,h3,h4⟩:=qcn O (p:=(List.range n).toArray) (show QB n _ from by unfold QB;exact List.Perm.refl _) hn
 unfold kas_sort
 rw [ZW,e1]
 show ∃ p',runC lt (if m<n then kas_bin (n-max m 1) p (max m 1) else .ret p)=some p'/\_
 have hmax:max m 1=m:=by omega
 by_cases hm:m<n
 ·rw [if_pos hm,hmax]
  exact qeq O (n-m) p m h1 h4 (by omega)
 ·rw [if_neg hm]
  have:m=n:=by omega
  subst this
  exact ⟨p,rfl,h1,h4⟩
end
end L2
namespace L2
open PySem PySem.W PyProof.Rows
def tI (ns:List Int):PyData:=.tuple (ns.map .int)
theorem wV:∀ xs:List Int,HT.lexLt xs xs=false
 | []=>rfl
 | x::xs=>by rw [HT.Zg,if_pos rfl];exact wV xs
theorem qaK:∀ xs ys zs:List Int,HT.lexLt xs ys=true->HT.lexLt ys zs=true->HT.lexLt xs zs=true
 | [],[],_,h,_=>by cases h
 | [],_::_,[],_,h=>by cases h
 | [],_::_,_::_,_,_=>rfl
 | _::_,[],_,h,_=>by cases h
 | _::_,_::_,[],_,h=>by cases h
 | x::xs,y::ys,z::zs,h1,h2=>by
  rw [HT.Zg] at h1 h2 ⊢
  by_cases e1:x=y
  ·rw [if_pos e1] at h1
   by_cases e2:y=z
   ·rw [if_pos e2] at h2
    rw [if_pos (e1.trans e2)]
    exact qaK xs ys zs h1 h2
   ·rw [if_neg e2] at h2
    rw [if_neg (by rw [e1];exact e2),e1]
    exact h2
  ·rw [if_neg e1] at h1
   have h1':=of_decide_eq_true h1
   by_cases e2:y=z
   ·rw [if_neg (by rw [← e2];exact e1),← e2]
    exact h1
   ·rw [if_neg e2] at h2
    have h2':=of_decide_eq_true h2
    rw [if_neg (by omega)]
    exact decide_eq_true (by omega)
theorem wW:∀ xs ys zs:List Int,HT.lexLt xs zs=true->HT.lexLt xs ys=true\/HT.lexLt ys zs=true
 | [],[],zs,h=>.inr h
 | [],_::_,_,_=>.inl rfl
 | _::_,_,[],h=>by cases h
 | _::_,[],_::_,_=>.inr rfl
 | x::xs,y::ys,z::zs,h=>by
  rw [HT.Zg] at h ⊢
  rw [HT.Zg]
  by_cases e1:x=z
  ·rw [if_pos e1] at h
   subst e1
   by_cases e2:x=y
   ·subst e2
    rw [if_pos rfl,if_pos rfl]
    exact wW xs ys zs h
   ·rw [if_neg e2,if_neg (fun z=>e2 z.symm)]
    by_cases hl:x<y
    ·exact .inl (decide_eq_true hl)
    ·exact .inr (decide_eq_true (by omega))
  ·rw [if_neg e1] at h
   have h':=of_decide_eq_true h
   by_cases e2:x=y
   ·subst e2
    rw [if_neg e1]
    exact .inr h
   ·rw [if_neg e2]
    by_cases hl:x<y
    ·exact .inl (decide_eq_true hl)
    ·right
     rw [if_neg (by omega)]
     exact decide_eq_true (by omega)
theorem wX:∀ xs ys:List Int,HT.lexLt xs ys=false->HT.lexLt ys xs=false->xs=ys
 | [],[],_,_=>rfl
 | [],_::_,h,_=>by cases h
 | _::_,[],_,h=>by cases h
 | x::xs,y::ys,h1,h2=>by
  rw [HT.Zg] at h1 h2
  by_cases e:x=y
  ·subst e
   rw [if_pos rfl] at h1 h2
   rw [wX xs ys h1 h2]
  ·rw [if_neg e] at h1
   rw [if_neg (fun z=>e z.symm)] at h2
   have a1:=of_decide_eq_false h1
   have a2:=of_decide_eq_false h2
   omega
theorem w5:∀ xs ys:List Int,ltXs (xs.map .int) (ys.map .int)=some (HT.lexLt xs ys)
 | [],[]=>by rw [List.map_nil,ltXs];rfl
 | [],_::_=>by rw [List.map_nil,List.map_cons,ltXs];rfl
 | _::_,[]=>by rw [List.map_nil,List.map_cons,ltXs];rfl
 | x::xs,y::ys=>by
  rw [List.map_cons,List.map_cons,ltXs,HT.Zg]
  have e:PyData.eqv (.int x) (.int y)=(x==y):=rfl
  rw [e]
  by_cases h:x=y
  ·rw [if_pos (by simpa using h),if_pos h]
   exact w5 xs ys
  ·rw [if_neg (by simpa using h),if_neg h,ltX]
theorem qdA (xs ys:List Int):ltX (tI xs) (tI ys)=some (HT.lexLt xs ys):=by
 unfold tI
 rw [ltX]
 exact w5 xs ys
theorem Y0 {α:Type}(xs:List α)(d:α):(List.range xs.length).map (fun i=>xs.getD i d)=xs:=by
 apply List.ext_getElem
 ·simp
 ·intro i h1 h2
  simp [List.getD_eq_getElem?_getD,h2]
theorem qad {nss:List (List Int)}(hok:jr 0 (nss.map tI)=true):∃ mss:List (List Int),zH [.list (nss.map tI)]=some (.list (mss.map tI))/\mss.Perm nss/\mss.Pairwise (fun a b=>HT.lexLt b a=false):=by
 have hn:2<=nss.length/\nss.length<64:=by
  unfold jr at hok
  simp only [Bool.and_eq_true,decide_eq_true_eq,List.length_map] at hok
  exact ⟨hok.2.1,hok.2.2.1⟩
 have O:IOrd nss.length (qaN (nss.map tI)) (fun i j=>HT.lexLt (nss.getD i []) (nss.getD j [])):=by
  refine ⟨fun i j hi hj=>?_,fun i=>wV _,fun i j k=>qaK _ _ _,fun i j k=>wW _ _ _⟩
  unfold qaN
  rw [List.getElem?_map,List.getElem?_map,List.getElem?_eq_getElem hi,List.getElem?_eq_getElem hj]
  show ltX (tI nss[i]) (tI nss[j])=_
  rw [qdA,getD_some (List.getElem?_eq_getElem hi),getD_some (List.getElem?_eq_getElem hj)]
 obtain ⟨p,e1,hp,hs⟩:=qd8 O (by omega)
 have hin:∀ i∈p.toList,i<nss.length:=fun i hi=>List.mem_range.mp (hp.mem_iff.mp hi)
 refine ⟨p.toList.map fun i=>nss.getD i [],?_,?_,?_⟩
 ·show (if (nss.map tI).length<2 then some (PyData.list (nss.map tI)) else if jr 0 (nss.map tI)=true\/jr 1 (nss.map tI)=true then ob (runC (qaN (nss.map tI)) (kas_sort (nss.map tI).length)) fun p=>qaY (nss.map tI) p else none)=_
  rw [if_neg (by rw [List.length_map];omega),if_pos (.inl hok),List.length_map,e1]
  show qaY (nss.map tI) p=_
  unfold qaY
  rw [if_pos ⟨List.all_eq_true.mpr fun i hi=>by rw [List.length_map];exact decide_eq_true (hin i hi),by rw [Array.length_toList,hp.size];omega⟩]
  congr 2
  rw [List.map_map]
  refine List.map_congr_left fun i hi=>?_
  have hi':=hin i hi
  show (nss.map tI).getD i .none=tI (nss.getD i [])
  rw [getD_some (show (nss.map tI)[i]?=some (tI nss[i]) from by rw [List.getElem?_map,List.getElem?_eq_getElem hi'];rfl),getD_some (List.getElem?_eq_getElem hi')]
 ·have:=hp.map (fun i=>nss.getD i [])
  rw [Y0] at this
  exact this
 ·rw [List.pairwise_map,List.pairwise_iff_getElem]
  intro i j hi hj hij
  have hsz:=hp.size
  rw [Array.length_toList] at hi hj
  have:=hs i j (by omega) (by omega)
  have g1:gp p i=p.toList[i]'(by rw [Array.length_toList];exact hi):=by simp [gp,Array.getD,hi]
  have g2:gp p j=p.toList[j]'(by rw [Array.length_toList];exact hj):=by simp [gp,Array.getD,hj]
  rw [g1,g2] at this
  exact this
theorem qaq:∀ ns:List Int,PyData.canLayAll0 (ns.map .int)=true/\PyData.depthAll (ns.map .int)=0
 | []=>⟨rfl,rfl⟩
 | n::ns=>by
  obtain ⟨h1,h2⟩:=qaq ns
  rw [List.map_cons]
  exact ⟨by simp [PyData.canLayAll0,PyData.canLay0,h1],by simp [PyData.depthAll,PyData.depth,h2]⟩
theorem Yq:∀ nss:List (List Int),PyData.canLayAll0 (nss.map tI)=true/\PyData.depthAll (nss.map tI)<=1
 | []=>⟨rfl,Nat.zero_le _⟩
 | ns::nss=>by
  obtain ⟨h1,h2⟩:=Yq nss
  obtain ⟨h3,h4⟩:=qaq ns
  rw [List.map_cons]
  refine ⟨by simp [PyData.canLayAll0,tI,PyData.canLay0,h1,h3],?_⟩
  rw [PyData.depthAll,show (tI ns).depth=1 from by simp [tI,PyData.depth,h4]]
  omega
theorem qa4 {nss:List (List Int)}(h2:2<=nss.length)(h64:nss.length<64)(hne:∀ ns∈nss,ns≠[]):jr 0 (nss.map tI)=true:=by
 obtain ⟨h3,h4⟩:=Yq nss
 unfold jr
 simp only [Bool.and_eq_true,decide_eq_true_eq,List.length_map]
 refine ⟨List.all_eq_true.mpr fun d hd=>?_,h2,h64,h3,by omega⟩
 obtain ⟨ns,hn,rfl⟩:=List.mem_map.mp hd
 cases ns with
 | nil=>exact absurd rfl (hne [] hn)
 | cons n ns=>rfl
theorem qae {nss:List (List Int)}(h64:nss.length<64)(hne:∀ ns∈nss,ns≠[]):∃ mss:List (List Int),zH [.list (nss.map tI)]=some (.list (mss.map tI))/\mss.Perm nss/\mss.Pairwise (fun a b=>HT.lexLt b a=false):=by
 by_cases h2:2<=nss.length
 ·exact qad (qa4 h2 h64 hne)
 ·refine ⟨nss,?_,List.Perm.refl _,?_⟩
  ·show (if (nss.map tI).length<2 then some (PyData.list (nss.map tI)) else _)=_
   rw [if_pos (by rw [List.length_map];omega)]
  ·match nss,h2 with
   | [],_=>exact .nil
   | [a],_=>exact .cons (fun _ z=>nomatch z) .nil
   | _::_::_,h2=>exact absurd (by simp) h2
theorem JB:∀ {as bs:List (List Int)},as.Perm bs->as.Pairwise (fun a b=>HT.lexLt b a=false)->bs.Pairwise (fun a b=>HT.lexLt b a=false)->as=bs
 | [],bs,h,_,_=>(List.nil_perm.mp h).symm
 | a::as,[],h,_,_=>absurd h (by simp)
 | a::as,b::bs,h,h1,h2=>by
  rw [List.pairwise_cons] at h1 h2
  have e:a=b:=by
   have ma:a∈b::bs:=h.mem_iff.mp (.head _)
   have mb:b∈a::as:=h.mem_iff.mpr (.head _)
   rcases List.mem_cons.mp ma with z|z
   ·exact z
   ·rcases List.mem_cons.mp mb with y|y
    ·exact y.symm
    ·exact wX a b (h2.1 a z) (h1.1 b y)
  subst e
  rw [JB h.cons_inv h1.2 h2.2]
end L2
namespace SF
open PySem L2
variable (P:Program)(w:World){K:PySem.W.Frag}{mg:Str->Option Value}(base:Heap){f:Addr}{fd:FuncData}
def top (i:Nat):Stmt:=PySem.Challenge.pw_sheetfold_k32_whole_solids_same_or_unlik.main.body.getD i (.Pass ⟨0,0,0,0⟩)
def Jm:PyData:=(.tuple [(.tuple [(.int (-1)),(.int (0)),(.int (0))]),(.tuple [(.int (0)),(.int (-1)),(.int (0))]),(.tuple [(.int (0)),(.int (0)),(.int (-1))]),(.tuple [(.int (0)),(.int (0)),(.int (1))]),(.tuple [(.int (0)),(.int (1)),(.int (0))]),(.tuple [(.int (1)),(.int (0)),(.int (0))])])
abbrev JN:Stmt:=top 2
abbrev Yl:List Str:=["thing"]
theorem QS:ScOk Yl ["thing"] ["isinstance", "int", "bool"] (qi JN):=scmk (by kernel_rfl)
def Y5:Rho->Option Out:=(sRet (vA (ev1 (vr 0) (isiD "int")) (vN (ev1 (vr 0) (isiD "bool")))))
def JF (ds:List PyData):Option PyData:=ob (Y5 (rho0 Yl.length ds)) outD
theorem qbc (F:Fun K "is_whole" "is_whole" JN f fd)(m:mg "is_whole" = some (.ref f))(b:Binds K fd ["thing"] [])(z_isinstance:mg "isinstance" = none)(z_int:mg "int" = none)(z_bool:mg "bool" = none):Known P w K mg base "is_whole" 1 1 JF:=by
 refine ⟨f,fd,["thing"],F.pure (k:=0) (u:=Y5) (M':=[]) QS.fs rfl (fun cdv A outer s H E hr G=>?_),m,F.kp,b⟩
 refine qt ?_
 refine qD ?_
 refine YQ ?_ ?_
 refine Z4 (T := "int") (qbR _) (QS.gl 0 rfl rfl) z_isinstance (QS.gl 1 rfl rfl) z_int rfl rfl ?_
 exact qd 0 (QS.vis 0 rfl) (by decide)
 refine YT ?_
 refine qdO ?_
 refine Z4 (T := "bool") (qaH _) (QS.gl 0 rfl rfl) z_isinstance (QS.gl 2 rfl rfl) z_bool rfl rfl ?_
 exact qd 0 (QS.vis 0 rfl) (by decide)
abbrev Js:Stmt:=top 3
abbrev yp:List Str:=["thing"]
theorem Q0:ScOk yp ["thing"] ["isinstance", "tuple", "all", "UNITS"] (qi Js):=scmk (by kernel_rfl)
def Wi:Rho->Option Out:=(seqO (sIf (tN (tV (ev1 (vr 0) (isiD "tuple")))) (sRet (kd (.bool false))) sN) (sRet (vA (evA (aC (Qh 1 (evI (vr 0) seqD) tT (evC 1 (aC (vr 1) aN) JF)) aN) allD) (ev2 (vr 0) (kd Jm) inD))))
def yw (ds:List PyData):Option PyData:=ob (Wi (rho0 yp.length ds)) outD
theorem qct (F:Fun K "is_unit" "is_unit" Js f fd)(m:mg "is_unit" = some (.ref f))(b:Binds K fd ["thing"] [])(K_is_whole:Known P w K mg base "is_whole" 1 1 JF)(z_isinstance:mg "isinstance" = none)(z_tuple:mg "tuple" = none)(z_all:mg "all" = none)(C_UNITS:Wm K mg "UNITS" Jm):Known P w K mg base "is_unit" 1 2 yw:=by
 refine ⟨f,fd,["thing"],F.pure (k:=1) (u:=Wi) (M':=[]) Q0.fs rfl (fun cdv A outer s H E hr G=>?_),m,F.kp,b⟩
 refine qj (M1:=[]) ?_ ?_
 refine zL ?_ ?_ ?_
 refine QC ?_
 refine Qy ?_
 refine Z4 (T := "tuple") (kit_tuple _) (Q0.gl 0 rfl rfl) z_isinstance (Q0.gl 1 rfl rfl) z_tuple rfl rfl ?_
 exact qd 0 (Q0.vis 0 rfl) (by decide)
 refine qt ?_
 refine qD ?_
 exact Zr
 exact zg
 refine qt ?_
 refine qD ?_
 refine YQ ?_ ?_
 refine zy (qfM rfl) (Q0.gl 2 rfl rfl) z_all rfl ?_
 refine qb ?_ ?_
 refine Qn (CompOk.of (k:=1) yp ["thing", "number"] (qi Js) rfl rfl rfl (by decide +kernel)) rfl (by decide +kernel) ?_ (fun _ _ _ _ _ _=>?_) (fun _ _ _ _ _ _=>?_)
 refine zT ?_
 exact qd 0 (Q0.vis 0 rfl) (by decide)
 exact zM
 refine qp K_is_whole hr (by decide) (Qe (by decide +kernel)) ?_ rfl
 refine qb ?_ ?_
 exact qd 1 (qw (by decide +kernel)) (by decide)
 exact qg
 exact qg
 refine YT ?_
 refine W6 (d_in hr) ?_ ?_ rfl
 exact qd 0 (Q0.vis 0 rfl) (by decide)
 exact YS C_UNITS (Q0.gl 3 rfl rfl)
abbrev W9:Stmt:=top 4
abbrev qbq:List Str:=["one", "other"]
theorem jE:ScOk qbq ["one", "other"] [] (qi W9):=scmk (by kernel_rfl)
def qal:Rho->Option Out:=(sRet (evA (aC (ev2 (ev2 (vr 0) (kd (.int 0)) ixD) (ev2 (vr 1) (kd (.int 0)) ixD) qW) (aC (ev2 (ev2 (vr 0) (kd (.int 1)) ixD) (ev2 (vr 1) (kd (.int 1)) ixD) qW) (aC (ev2 (ev2 (vr 0) (kd (.int 2)) ixD) (ev2 (vr 1) (kd (.int 2)) ixD) qW) aN))) tupD))
def Jo (ds:List PyData):Option PyData:=ob (qal (rho0 qbq.length ds)) outD
theorem qeW (F:Fun K "added" "added" W9 f fd)(m:mg "added" = some (.ref f))(b:Binds K fd ["one", "other"] []):Known P w K mg base "added" 2 1 Jo:=by
 refine ⟨f,fd,["one", "other"],F.pure (k:=0) (u:=qal) (M':=[]) jE.fs rfl (fun cdv A outer s H E hr G=>?_),m,F.kp,b⟩
 refine qt ?_
 refine qD ?_
 refine zN ?_
 refine qb ?_ ?_
 refine ql zm ?_ ?_
 refine qH ?_ ?_
 exact qd 0 (jE.vis 0 rfl) (by decide)
 exact qe
 refine qH ?_ ?_
 exact qd 1 (jE.vis 1 rfl) (by decide)
 exact qe
 refine qb ?_ ?_
 refine ql zm ?_ ?_
 refine qH ?_ ?_
 exact qd 0 (jE.vis 0 rfl) (by decide)
 exact qe
 refine qH ?_ ?_
 exact qd 1 (jE.vis 1 rfl) (by decide)
 exact qe
 refine qb ?_ ?_
 refine ql zm ?_ ?_
 refine qH ?_ ?_
 exact qd 0 (jE.vis 0 rfl) (by decide)
 exact qe
 refine qH ?_ ?_
 exact qd 1 (jE.vis 1 rfl) (by decide)
 exact qe
 exact qg
abbrev qaa:Stmt:=top 5
abbrev qbr:List Str:=["one", "other"]
theorem QH:ScOk qbr ["one", "other"] [] (qi qaa):=scmk (by kernel_rfl)
def qcc:Rho->Option Out:=(sRet (evA (aC (ev2 (ev2 (ev2 (vr 0) (kd (.int 1)) ixD) (ev2 (vr 1) (kd (.int 2)) ixD) mulD) (ev2 (ev2 (vr 0) (kd (.int 2)) ixD) (ev2 (vr 1) (kd (.int 1)) ixD) mulD) subD) (aC (ev2 (ev2 (ev2 (vr 0) (kd (.int 2)) ixD) (ev2 (vr 1) (kd (.int 0)) ixD) mulD) (ev2 (ev2 (vr 0) (kd (.int 0)) ixD) (ev2 (vr 1) (kd (.int 2)) ixD) mulD) subD) (aC (ev2 (ev2 (ev2 (vr 0) (kd (.int 0)) ixD) (ev2 (vr 1) (kd (.int 1)) ixD) mulD) (ev2 (ev2 (vr 0) (kd (.int 1)) ixD) (ev2 (vr 1) (kd (.int 0)) ixD) mulD) subD) aN))) tupD))
def J2 (ds:List PyData):Option PyData:=ob (qcc (rho0 qbr.length ds)) outD
theorem qeX (F:Fun K "cross" "cross" qaa f fd)(m:mg "cross" = some (.ref f))(b:Binds K fd ["one", "other"] []):Known P w K mg base "cross" 2 1 J2:=by
 refine ⟨f,fd,["one", "other"],F.pure (k:=0) (u:=qcc) (M':=[]) QH.fs rfl (fun cdv A outer s H E hr G=>?_),m,F.kp,b⟩
 refine qt ?_
 refine qD ?_
 refine zN ?_
 refine qb ?_ ?_
 refine ql Zo ?_ ?_
 refine ql zV ?_ ?_
 refine qH ?_ ?_
 exact qd 0 (QH.vis 0 rfl) (by decide)
 exact qe
 refine qH ?_ ?_
 exact qd 1 (QH.vis 1 rfl) (by decide)
 exact qe
 refine ql zV ?_ ?_
 refine qH ?_ ?_
 exact qd 0 (QH.vis 0 rfl) (by decide)
 exact qe
 refine qH ?_ ?_
 exact qd 1 (QH.vis 1 rfl) (by decide)
 exact qe
 refine qb ?_ ?_
 refine ql Zo ?_ ?_
 refine ql zV ?_ ?_
 refine qH ?_ ?_
 exact qd 0 (QH.vis 0 rfl) (by decide)
 exact qe
 refine qH ?_ ?_
 exact qd 1 (QH.vis 1 rfl) (by decide)
 exact qe
 refine ql zV ?_ ?_
 refine qH ?_ ?_
 exact qd 0 (QH.vis 0 rfl) (by decide)
 exact qe
 refine qH ?_ ?_
 exact qd 1 (QH.vis 1 rfl) (by decide)
 exact qe
 refine qb ?_ ?_
 refine ql Zo ?_ ?_
 refine ql zV ?_ ?_
 refine qH ?_ ?_
 exact qd 0 (QH.vis 0 rfl) (by decide)
 exact qe
 refine qH ?_ ?_
 exact qd 1 (QH.vis 1 rfl) (by decide)
 exact qe
 refine ql zV ?_ ?_
 refine qH ?_ ?_
 exact qd 0 (QH.vis 0 rfl) (by decide)
 exact qe
 refine qH ?_ ?_
 exact qd 1 (QH.vis 1 rfl) (by decide)
 exact qe
 exact qg
abbrev Jr:Stmt:=top 6
abbrev yo:List Str:=["thing"]
theorem Qj:ScOk yo ["thing"] ["isinstance", "tuple", "len", "all", "cross"] (qi Jr):=scmk (by kernel_rfl)
def Wh:Rho->Option Out:=(seqO (sIf (tO (tN (tV (ev1 (vr 0) (isiD "tuple")))) (tV (ev2 (evA (aC (vr 0) aN) lenD) (kd (.int 3)) neD))) (sRet (kd (.bool false))) sN) (seqO (sIf (tN (tV (evA (aC (Qh 1 (evI (vr 0) seqD) tT (evC 1 (aC (vr 1) aN) yw)) aN) allD))) (sRet (kd (.bool false))) sN) (sRet (ev2 (ev2 (vr 0) (kd (.int 2)) ixD) (evC 2 (aC (ev2 (vr 0) (kd (.int 0)) ixD) (aC (ev2 (vr 0) (kd (.int 1)) ixD) aN)) J2) eqD))))
def yu (ds:List PyData):Option PyData:=ob (Wh (rho0 yo.length ds)) outD
theorem qcs (F:Fun K "is_turn" "is_turn" Jr f fd)(m:mg "is_turn" = some (.ref f))(b:Binds K fd ["thing"] [])(K_is_unit:Known P w K mg base "is_unit" 1 2 yw)(K_cross:Known P w K mg base "cross" 2 1 J2)(z_isinstance:mg "isinstance" = none)(z_tuple:mg "tuple" = none)(z_len:mg "len" = none)(z_all:mg "all" = none):Known P w K mg base "is_turn" 1 3 yu:=by
 refine ⟨f,fd,["thing"],F.pure (k:=2) (u:=Wh) (M':=[]) Qj.fs rfl (fun cdv A outer s H E hr G=>?_),m,F.kp,b⟩
 refine qj (M1:=[]) ?_ ?_
 refine zL ?_ ?_ ?_
 refine PDW.pdt ?_
 refine Zw ?_ ?_
 refine QC ?_
 refine Qy ?_
 refine Z4 (T := "tuple") (kit_tuple _) (Qj.gl 0 rfl rfl) z_isinstance (Qj.gl 1 rfl rfl) z_tuple rfl rfl ?_
 exact qd 0 (Qj.vis 0 rfl) (by decide)
 refine ZG ?_
 refine zc (d_ne hr) ?_ ?_ (zF _)
 refine zy ZC (Qj.gl 2 rfl rfl) z_len PySem.boot_len ?_
 refine qb ?_ ?_
 exact qd 0 (Qj.vis 0 rfl) (by decide)
 exact qg
 exact qe
 refine qt ?_
 refine qD ?_
 exact Zr
 exact zg
 refine qj (M1:=[]) ?_ ?_
 refine zL ?_ ?_ ?_
 refine QC ?_
 refine Qy ?_
 refine zy (qfM rfl) (Qj.gl 3 rfl rfl) z_all rfl ?_
 refine qb ?_ ?_
 refine Qn (CompOk.of (k:=1) yo ["thing", "part"] (qi Jr) rfl rfl rfl (by decide +kernel)) rfl (by decide +kernel) ?_ (fun _ _ _ _ _ _=>?_) (fun _ _ _ _ _ _=>?_)
 refine zT ?_
 exact qd 0 (Qj.vis 0 rfl) (by decide)
 exact zM
 refine qp K_is_unit hr (by decide) (Qe (by decide +kernel)) ?_ rfl
 refine qb ?_ ?_
 exact qd 1 (qw (by decide +kernel)) (by decide)
 exact qg
 exact qg
 refine qt ?_
 refine qD ?_
 exact Zr
 exact zg
 refine qt ?_
 refine qD ?_
 refine W6 (d_eq hr) ?_ ?_ (zF _)
 refine qH ?_ ?_
 exact qd 0 (Qj.vis 0 rfl) (by decide)
 exact qe
 refine qp K_cross hr (by decide) (Qj.gl 4 rfl rfl) ?_ rfl
 refine qb ?_ ?_
 refine qH ?_ ?_
 exact qd 0 (Qj.vis 0 rfl) (by decide)
 exact qe
 refine qb ?_ ?_
 refine qH ?_ ?_
 exact qd 0 (Qj.vis 0 rfl) (by decide)
 exact qe
 exact qg
abbrev Je:Stmt:=top 7
abbrev yL:List Str:=["turns", "right", "up", "turn"]
theorem qQ:ScOk yL [] ["cross", "is_turn", "UNITS", "sorted"] (qi Je):=scmk (by kernel_rfl)
def yQ:Rho->Option Out:=(seqO (jC 0 (evA aN lstD)) (seqO (sFor (evI (kd Jm) seqD) (gNm 1) (sFor (evI (kd Jm) seqD) (gNm 2) (seqO (sSet 3 (evA (aC (vr 1) (aC (vr 2) (aC (evC 2 (aC (vr 1) (aC (vr 2) aN)) J2) aN))) tupD)) (sIf (tV (evC 1 (aC (vr 3) aN) yu)) (sApp 0 (vr 3)) sN)))) (sRet (evA (aC (vr 0) aN) zH))))
def Q4 (ds:List PyData):Option PyData:=ob (yQ (rho0 yL.length ds)) outD
theorem qaF (F:Fun K "all_turns" "all_turns" Je f fd)(m:mg "all_turns" = some (.ref f))(b:Binds K fd [] [])(K_cross:Known P w K mg base "cross" 2 1 J2)(K_is_turn:Known P w K mg base "is_turn" 1 3 yu)(z_sorted:mg "sorted" = none)(C_UNITS:Wm K mg "UNITS" Jm):Known P w K mg base "all_turns" 0 4 Q4:=by
 refine ⟨f,fd,[],F.pure (k:=3) (u:=yQ) (M':=[]) qQ.fs rfl (fun cdv A outer s H E hr G=>?_),m,F.kp,b⟩
 refine qj (M1:=[0]) ?_ ?_
 refine J7 0 ?_ ?_ ?_ ?_ ?_ ?_ ?_ ?_
 ·exact qQ.fs.nd
 ·exact (qQ.loc 0 rfl)
 ·rfl
 ·rfl
 ·exact .inl rfl
 ·decide
 ·decide
 refine W8 ?_
 exact qg
 refine qj (M1:=[0]) ?_ ?_
 refine jg PassesOwn.never rfl ?_ (fun _=>?_) (fun _=>?_)
 refine zT ?_
 exact YS C_UNITS (qQ.gl 2 rfl rfl)
 exact za 1 qQ.fs.nd (qQ.loc 1 rfl) (by decide)
 refine qt ?_
 refine jg PassesOwn.never rfl ?_ (fun _=>?_) (fun _=>?_)
 refine zT ?_
 exact YS C_UNITS (qQ.gl 2 rfl rfl)
 exact za 2 qQ.fs.nd (qQ.loc 2 rfl) (by decide)
 refine qj (M1:=[0]) ?_ ?_
 refine zj 3 ?_ ?_ ?_ ?_ ?_ ?_ ?_
 ·exact qQ.fs.nd
 ·exact (qQ.loc 3 rfl)
 ·rfl
 ·rfl
 ·exact .inl rfl
 ·decide
 refine zN ?_
 refine qb ?_ ?_
 exact qd 1 (qQ.vis 1 rfl) (by decide)
 refine qb ?_ ?_
 exact qd 2 (qQ.vis 2 rfl) (by decide)
 refine qb ?_ ?_
 refine qp K_cross hr (by decide) (qQ.gl 0 rfl rfl) ?_ rfl
 refine qb ?_ ?_
 exact qd 1 (qQ.vis 1 rfl) (by decide)
 refine qb ?_ ?_
 exact qd 2 (qQ.vis 2 rfl) (by decide)
 exact qg
 exact qg
 refine qt ?_
 refine zL ?_ ?_ ?_
 refine Qy ?_
 refine qp K_is_turn hr (by decide) (qQ.gl 1 rfl rfl) ?_ rfl
 refine qb ?_ ?_
 exact qd 3 (qQ.vis 3 rfl) (by decide)
 exact qg
 refine qt ?_
 refine Yh 0 (qQ.vis 0 rfl) (by decide) (by decide) ?_
 exact qd 3 (qQ.vis 3 rfl) (by decide)
 exact zg
 refine qt ?_
 refine qD ?_
 refine Z5 ?_
 refine Z6 (Z3 hr) (qQ.gl 3 rfl rfl) z_sorted Qv ?_
 refine qb ?_ ?_
 exact qd 0 (qQ.vis 0 rfl) (by decide)
 exact qg
abbrev yg:Stmt:=top 8
abbrev Ym:List Str:=["turn", "spot"]
theorem Yk:ScOk Ym ["turn", "spot"] ["range", "tuple"] (qi yg):=scmk (by kernel_rfl)
def Y6:Rho->Option Out:=(sRet (evA (aC (Qh 2 (evR (aC (kd (.int 3)) aN) Z8) tT (ev2 (ev2 (ev2 (ev2 (vr 1) (kd (.int 0)) ixD) (ev2 (ev2 (vr 0) (kd (.int 0)) ixD) (vr 2) ixD) mulD) (ev2 (ev2 (vr 1) (kd (.int 1)) ixD) (ev2 (ev2 (vr 0) (kd (.int 1)) ixD) (vr 2) ixD) mulD) qW) (ev2 (ev2 (vr 1) (kd (.int 2)) ixD) (ev2 (ev2 (vr 0) (kd (.int 2)) ixD) (vr 2) ixD) mulD) qW)) aN) JP))
def jz (ds:List PyData):Option PyData:=ob (Y6 (rho0 Ym.length ds)) outD
theorem qdn (F:Fun K "turned" "turned" yg f fd)(m:mg "turned" = some (.ref f))(b:Binds K fd ["turn", "spot"] [])(z_tuple:mg "tuple" = none)(z_range:mg "range" = none):Known P w K mg base "turned" 2 1 jz:=by
 refine ⟨f,fd,["turn", "spot"],F.pure (k:=0) (u:=Y6) (M':=[]) Yk.fs rfl (fun cdv A outer s H E hr G=>?_),m,F.kp,b⟩
 refine qt ?_
 refine qD ?_
 refine ZS yW (Yk.gl 1 rfl rfl) z_tuple rfl ?_
 refine qb ?_ ?_
 refine Qn (CompOk.of (k:=1) Ym ["turn", "spot", "k"] (qi yg) rfl rfl rfl (by decide +kernel)) rfl (by decide +kernel) ?_ (fun _ _ _ _ _ _=>?_) (fun _ _ _ _ _ _=>?_)
 refine QT (Yk.gl 0 rfl rfl) z_range ?_
 refine qb ?_ ?_
 exact qe
 exact qg
 exact zM
 refine ql zm ?_ ?_
 refine ql zm ?_ ?_
 refine ql zV ?_ ?_
 refine qH ?_ ?_
 exact qd 1 (qw (by decide +kernel)) (by decide)
 exact qe
 refine qH ?_ ?_
 refine qH ?_ ?_
 exact qd 0 (qw (by decide +kernel)) (by decide)
 exact qe
 exact qd 2 (qw (by decide +kernel)) (by decide)
 refine ql zV ?_ ?_
 refine qH ?_ ?_
 exact qd 1 (qw (by decide +kernel)) (by decide)
 exact qe
 refine qH ?_ ?_
 refine qH ?_ ?_
 exact qd 0 (qw (by decide +kernel)) (by decide)
 exact qe
 exact qd 2 (qw (by decide +kernel)) (by decide)
 refine ql zV ?_ ?_
 refine qH ?_ ?_
 exact qd 1 (qw (by decide +kernel)) (by decide)
 exact qe
 refine qH ?_ ?_
 refine qH ?_ ?_
 exact qd 0 (qw (by decide +kernel)) (by decide)
 exact qe
 exact qd 2 (qw (by decide +kernel)) (by decide)
 exact qg
abbrev Jf:Stmt:=top 10
abbrev yM:List Str:=["cube"]
theorem je:ScOk yM ["cube"] [] (qi Jf):=scmk (by kernel_rfl)
def Ji:Rho->Option Out:=(sRet (evA (aC (ev2 (ev2 (kd (.int 2)) (ev2 (vr 0) (kd (.int 0)) ixD) mulD) (kd (.int 1)) qW) (aC (ev2 (ev2 (kd (.int 2)) (ev2 (vr 0) (kd (.int 1)) ixD) mulD) (kd (.int 1)) qW) (aC (ev2 (ev2 (kd (.int 2)) (ev2 (vr 0) (kd (.int 2)) ixD) mulD) (kd (.int 1)) qW) aN))) tupD))
def Q5 (ds:List PyData):Option PyData:=ob (Ji (rho0 yM.length ds)) outD
theorem qaG (F:Fun K "middle_of" "middle_of" Jf f fd)(m:mg "middle_of" = some (.ref f))(b:Binds K fd ["cube"] []):Known P w K mg base "middle_of" 1 1 Q5:=by
 refine ⟨f,fd,["cube"],F.pure (k:=0) (u:=Ji) (M':=[]) je.fs rfl (fun cdv A outer s H E hr G=>?_),m,F.kp,b⟩
 refine qt ?_
 refine qD ?_
 refine zN ?_
 refine qb ?_ ?_
 refine ql zm ?_ ?_
 refine ql zV ?_ ?_
 exact qe
 refine qH ?_ ?_
 exact qd 0 (je.vis 0 rfl) (by decide)
 exact qe
 exact qe
 refine qb ?_ ?_
 refine ql zm ?_ ?_
 refine ql zV ?_ ?_
 exact qe
 refine qH ?_ ?_
 exact qd 0 (je.vis 0 rfl) (by decide)
 exact qe
 exact qe
 refine qb ?_ ?_
 refine ql zm ?_ ?_
 refine ql zV ?_ ?_
 exact qe
 refine qH ?_ ?_
 exact qd 0 (je.vis 0 rfl) (by decide)
 exact qe
 exact qe
 exact qg
abbrev yE:Stmt:=top 11
abbrev wB:List Str:=["spot"]
theorem Jj:ScOk wB ["spot"] [] (qi yE):=scmk (by kernel_rfl)
def yG:Rho->Option Out:=(sRet (evA (aC (ev2 (ev2 (vr 0) (kd (.int 0)) ixD) (kd (.int 2)) Q6) (aC (ev2 (ev2 (vr 0) (kd (.int 1)) ixD) (kd (.int 2)) Q6) (aC (ev2 (ev2 (vr 0) (kd (.int 2)) ixD) (kd (.int 2)) Q6) aN))) tupD))
def ZQ (ds:List PyData):Option PyData:=ob (yG (rho0 wB.length ds)) outD
theorem qcr (F:Fun K "cube_of" "cube_of" yE f fd)(m:mg "cube_of" = some (.ref f))(b:Binds K fd ["spot"] []):Known P w K mg base "cube_of" 1 1 ZQ:=by
 refine ⟨f,fd,["spot"],F.pure (k:=0) (u:=yG) (M':=[]) Jj.fs rfl (fun cdv A outer s H E hr G=>?_),m,F.kp,b⟩
 refine qt ?_
 refine qD ?_
 refine zN ?_
 refine qb ?_ ?_
 refine ql Q9 ?_ ?_
 refine qH ?_ ?_
 exact qd 0 (Jj.vis 0 rfl) (by decide)
 exact qe
 exact qe
 refine qb ?_ ?_
 refine ql Q9 ?_ ?_
 refine qH ?_ ?_
 exact qd 0 (Jj.vis 0 rfl) (by decide)
 exact qe
 exact qe
 refine qb ?_ ?_
 refine ql Q9 ?_ ?_
 refine qH ?_ ?_
 exact qd 0 (Jj.vis 0 rfl) (by decide)
 exact qe
 exact qe
 exact qg
abbrev Jt:Stmt:=top 13
abbrev yq:List Str:=["places"]
theorem Jk:ScOk yq ["places"] ["len", "range"] (qi Jt):=scmk (by kernel_rfl)
def yH:Rho->Option Out:=(sRet (Qh 1 (evR (aC (evA (aC (ev2 (vr 0) (kd (.int 0)) ixD) aN) lenD) aN) Z8) tT (evA (aC (Qh 2 (evI (vr 0) seqD) tT (ev2 (vr 2) (vr 1) ixD)) aN) j9)))
def ZR (ds:List PyData):Option PyData:=ob (yH (rho0 yq.length ds)) outD
theorem qcu (F:Fun K "lows_of" "lows_of" Jt f fd)(m:mg "lows_of" = some (.ref f))(b:Binds K fd ["places"] [])(z_range:mg "range" = none)(z_len:mg "len" = none)(z_min:mg "min" = none):Known P w K mg base "lows_of" 1 1 ZR:=by
 refine ⟨f,fd,["places"],F.pure (k:=0) (u:=yH) (M':=[]) Jk.fs rfl (fun cdv A outer s H E hr G=>?_),m,F.kp,b⟩
 refine qt ?_
 refine qD ?_
 refine Qn (CompOk.of (k:=1) yq ["places", "k"] (qi Jt) rfl rfl rfl (by decide +kernel)) rfl (by decide +kernel) ?_ (fun _ _ _ _ _ _=>?_) (fun _ _ _ _ _ _=>?_)
 refine QT (Jk.gl 1 rfl rfl) z_range ?_
 refine qb ?_ ?_
 refine zy ZC (Jk.gl 0 rfl rfl) z_len PySem.boot_len ?_
 refine qb ?_ ?_
 refine qH ?_ ?_
 exact qd 0 (Jk.vis 0 rfl) (by decide)
 exact qe
 exact qg
 exact qg
 exact zM
 refine zy (qa9 hr) (Qe (by decide +kernel)) z_min yt ?_
 refine qb ?_ ?_
 refine Qn (CompOk.of (k:=1) ["places", "k"] ["places", "k", "place"] _ rfl rfl rfl (by kernel_rfl)) rfl (by decide +kernel) ?_ (fun _ _ _ _ _ _=>?_) (fun _ _ _ _ _ _=>?_)
 refine zT ?_
 exact qd 0 (qw (by decide +kernel)) (by decide)
 exact zM
 refine qH ?_ ?_
 exact qd 2 (qw (by decide +kernel)) (by decide)
 exact qd 1 (qw (by decide +kernel)) (by decide)
 exact qg
abbrev Qk:Stmt:=top 14
abbrev Qz:List Str:=["places", "others"]
theorem zU:ScOk Qz ["places", "others"] ["lows_of", "zip", "tuple"] (qi Qk):=scmk (by kernel_rfl)
def Zz:Rho->Option Out:=(sRet (evA (aC (Jy 2 2 (evI2 (evC 1 (aC (vr 0) aN) ZR) (evC 1 (aC (vr 1) aN) ZR) zipD) (unpD 2 (gsC (gNm 2) (gsC (gNm 3) gsN))) tT (ev2 (vr 3) (vr 2) subD)) aN) JP))
def zp (ds:List PyData):Option PyData:=ob (Zz (rho0 Qz.length ds)) outD
theorem yU (F:Fun K "shift_between" "shift_between" Qk f fd)(m:mg "shift_between" = some (.ref f))(b:Binds K fd ["places", "others"] [])(K_lows_of:Known P w K mg base "lows_of" 1 1 ZR)(z_tuple:mg "tuple" = none)(z_zip:mg "zip" = none):Known P w K mg base "shift_between" 2 2 zp:=by
 refine ⟨f,fd,["places", "others"],F.pure (k:=1) (u:=Zz) (M':=[]) zU.fs rfl (fun cdv A outer s H E hr G=>?_),m,F.kp,b⟩
 refine qt ?_
 refine qD ?_
 refine ZS yW (zU.gl 2 rfl rfl) z_tuple rfl ?_
 refine qb ?_ ?_
 refine qaR (CompOk.of (k:=2) Qz ["places", "others", "low", "other"] (qi Qk) rfl rfl rfl (by decide +kernel)) (qeQ (wM (J4 (by decide)) (wM (J4 (by decide)) qdh))) ?_ (fun _ _ _ _ _ _=>qdP rfl (YW (Yj (i:=2) (CompOk.of (k:=2) Qz ["places", "others", "low", "other"] (qi Qk) rfl rfl rfl (by decide +kernel)) rfl (by decide +kernel) _ _ _ _ _ _) (YW (Yj (i:=3) (CompOk.of (k:=2) Qz ["places", "others", "low", "other"] (qi Qk) rfl rfl rfl (by decide +kernel)) rfl (by decide +kernel) _ _ _ _ _ _) qcD))) (fun _ _ _ _ _ _=>?_) (fun _ _ _ _ _ _=>?_)
 refine qfh (zU.gl 1 rfl rfl) z_zip ?_ ?_
 refine qp K_lows_of hr (by decide) (zU.gl 0 rfl rfl) ?_ rfl
 refine qb ?_ ?_
 exact qd 0 (zU.vis 0 rfl) (by decide)
 exact qg
 refine qp K_lows_of hr (by decide) (zU.gl 0 rfl rfl) ?_ rfl
 refine qb ?_ ?_
 exact qd 1 (zU.vis 1 rfl) (by decide)
 exact qg
 exact zM
 refine ql Zo ?_ ?_
 exact qd 3 (qw (by decide +kernel)) (by decide)
 exact qd 2 (qw (by decide +kernel)) (by decide)
 exact qg
abbrev Qi:Stmt:=top 15
abbrev Z1:List Str:=["solid", "turn", "shift", "by"]
theorem Qg:ScOk Z1 ["solid", "turn", "shift"] ["sorted"] (qi Qi):=scmk (by kernel_rfl)
def Zd:Rho->Option Out:=(seqO (sSet 3 (vIf (tV (ev2 (vr 2) (kd .none) isD)) (evA (aC (kd (.int 0)) (aC (kd (.int 0)) (aC (kd (.int 0)) aN))) tupD) (vr 2))) (sRet (evA (aC (Qh 4 (evI (vr 0) seqD) tT (evC 2 (aC (evC 1 (aC (evC 2 (aC (vr 1) (aC (evC 1 (aC (vr 4) aN) Q5) aN)) jz) aN) ZQ) (aC (vr 3) aN)) Jo)) aN) zH)))
def qJ (ds:List PyData):Option PyData:=ob (Zd (rho0 Z1.length ds)) outD
theorem YM (F:FunG K "solid_turned" "solid_turned" Qi f fd)(K_added:Known P w K mg base "added" 2 1 Jo)(K_cube_of:Known P w K mg base "cube_of" 1 1 ZQ)(K_turned:Known P w K mg base "turned" 2 1 jz)(K_middle_of:Known P w K mg base "middle_of" 1 1 Q5)(z_sorted:mg "sorted" = none):FnOk P w K mg base CX0 2 f fd ["solid", "turn", "shift"] (spF K 3 qJ):=by
 refine F.pure (k:=1) (u:=Zd) (M':=[]) Qg.fs rfl (fun cdv A outer s H E hr G=>?_)
 refine qj (M1:=[]) ?_ ?_
 refine zj 3 ?_ ?_ ?_ ?_ ?_ ?_ ?_
 ·exact Qg.fs.nd
 ·exact (Qg.loc 3 rfl)
 ·rfl
 ·rfl
 ·exact .inl rfl
 ·decide
 refine qdN ?_ ?_ ?_
 refine zc d_is ?_ ?_ (zF _)
 exact qd 2 (Qg.vis 2 rfl) (by decide)
 exact qbj
 refine zN ?_
 refine qb ?_ ?_
 exact qe
 refine qb ?_ ?_
 exact qe
 refine qb ?_ ?_
 exact qe
 exact qg
 exact qd 2 (Qg.vis 2 rfl) (by decide)
 refine qt ?_
 refine qD ?_
 refine Z5 ?_
 refine Z6 (Z3 hr) (Qg.gl 0 rfl rfl) z_sorted Qv ?_
 refine qb ?_ ?_
 refine Qn (CompOk.of (k:=1) Z1 ["solid", "turn", "shift", "by", "cube"] (qi Qi) rfl rfl rfl (by decide +kernel)) rfl (by decide +kernel) ?_ (fun _ _ _ _ _ _=>?_) (fun _ _ _ _ _ _=>?_)
 refine zT ?_
 exact qd 0 (Qg.vis 0 rfl) (by decide)
 exact zM
 refine qp K_added hr (by decide) (Qe (by decide +kernel)) ?_ rfl
 refine qb ?_ ?_
 refine qp K_cube_of hr (by decide) (Qe (by decide +kernel)) ?_ rfl
 refine qb ?_ ?_
 refine qp K_turned hr (by decide) (Qe (by decide +kernel)) ?_ rfl
 refine qb ?_ ?_
 exact qd 1 (qw (by decide +kernel)) (by decide)
 refine qb ?_ ?_
 refine qp K_middle_of hr (by decide) (Qe (by decide +kernel)) ?_ rfl
 refine qb ?_ ?_
 exact qd 4 (qw (by decide +kernel)) (by decide)
 exact qg
 exact qg
 exact qg
 refine qb ?_ ?_
 exact qd 3 (qw (by decide +kernel)) (by decide)
 exact qg
 exact qg
abbrev jU:Stmt:=top 16
abbrev JW:List Str:=["solid", "turn", "cubes"]
theorem zY:ScOk JW ["solid", "turn", "cubes"] ["solid_turned", "shift_between"] (qi jU):=scmk (by kernel_rfl)
def jZ:Rho->Option Out:=(sRet (evC 3 (aC (vr 0) (aC (vr 1) (aC (evC 2 (aC (evC 2 (aC (vr 0) (aC (vr 1) aN)) (dfl qJ [.none])) (aC (vr 2) aN)) zp) aN))) qJ))
def zx (ds:List PyData):Option PyData:=ob (jZ (rho0 JW.length ds)) outD
theorem WW (F:Fun K "solid_onto" "solid_onto" jU f fd)(m:mg "solid_onto" = some (.ref f))(b:Binds K fd ["solid", "turn", "cubes"] [])(K_solid_turned:Known P w K mg base "solid_turned" 3 2 qJ)(K_shift_between:Known P w K mg base "shift_between" 2 2 zp)(X_solid_turned_1:KnownX P w K mg base "solid_turned" 3 2 qJ [.none]):Known P w K mg base "solid_onto" 3 3 zx:=by
 refine ⟨f,fd,["solid", "turn", "cubes"],F.pure (k:=2) (u:=jZ) (M':=[]) zY.fs rfl (fun cdv A outer s H E hr G=>?_),m,F.kp,b⟩
 refine qt ?_
 refine qD ?_
 refine qp K_solid_turned hr (by decide) (zY.gl 0 rfl rfl) ?_ rfl
 refine qb ?_ ?_
 exact qd 0 (zY.vis 0 rfl) (by decide)
 refine qb ?_ ?_
 exact qd 1 (zY.vis 1 rfl) (by decide)
 refine qb ?_ ?_
 refine qp K_shift_between hr (by decide) (zY.gl 1 rfl rfl) ?_ rfl
 refine qb ?_ ?_
 refine Wa X_solid_turned_1 hr (by decide) (zY.gl 0 rfl rfl) ?_ rfl rfl
 refine qb ?_ ?_
 exact qd 0 (zY.vis 0 rfl) (by decide)
 refine qb ?_ ?_
 exact qd 1 (zY.vis 1 rfl) (by decide)
 exact qg
 refine qb ?_ ?_
 exact qd 2 (zY.vis 2 rfl) (by decide)
 exact qg
 exact qg
abbrev Zm:Stmt:=top 17
abbrev jk:List Str:=["solid"]
theorem ji:ScOk jk ["solid"] ["all_turns", "min"] (qi Zm):=scmk (by kernel_rfl)
def jw:Rho->Option Out:=(sRet (evA (aC (Qh 1 (evI (evC0 Q4) seqD) tT (evC 3 (aC (vr 0) (aC (vr 1) (aC (evA (aC (evA (aC (kd (.int 0)) (aC (kd (.int 0)) (aC (kd (.int 0)) aN))) tupD) aN) lstD) aN))) zx)) aN) j9))
def zO (ds:List PyData):Option PyData:=ob (jw (rho0 jk.length ds)) outD
theorem ww (F:Fun K "least_solid" "least_solid" Zm f fd)(m:mg "least_solid" = some (.ref f))(b:Binds K fd ["solid"] [])(K_all_turns:Known P w K mg base "all_turns" 0 4 Q4)(K_solid_onto:Known P w K mg base "solid_onto" 3 3 zx)(z_min:mg "min" = none):Known P w K mg base "least_solid" 1 5 zO:=by
 refine ⟨f,fd,["solid"],F.pure (k:=4) (u:=jw) (M':=[]) ji.fs rfl (fun cdv A outer s H E hr G=>?_),m,F.kp,b⟩
 refine qt ?_
 refine qD ?_
 refine zy (qa9 hr) (ji.gl 1 rfl rfl) z_min yt ?_
 refine qb ?_ ?_
 refine Qn (CompOk.of (k:=1) jk ["solid", "turn"] (qi Zm) rfl rfl rfl (by decide +kernel)) rfl (by decide +kernel) ?_ (fun _ _ _ _ _ _=>?_) (fun _ _ _ _ _ _=>?_)
 refine zT ?_
 exact ZV K_all_turns hr (by decide) (ji.gl 0 rfl rfl)
 exact zM
 refine qp K_solid_onto hr (by decide) (Qe (by decide +kernel)) ?_ rfl
 refine qb ?_ ?_
 exact qd 0 (qw (by decide +kernel)) (by decide)
 refine qb ?_ ?_
 exact qd 1 (qw (by decide +kernel)) (by decide)
 refine qb ?_ ?_
 refine JL ?_
 refine qb ?_ ?_
 refine zN ?_
 refine qb ?_ ?_
 exact qe
 refine qb ?_ ?_
 exact qe
 refine qb ?_ ?_
 exact qe
 exact qg
 exact qg
 exact qg
 exact qg
abbrev jq:Stmt:=top 18
abbrev Jx:List Str:=["one", "other", "turn"]
theorem qM:ScOk Jx ["one", "other"] ["solid_onto", "solid_turned", "shift_between", "all_turns", "least_solid"] (qi jq):=scmk (by kernel_rfl)
def Zn:Rho->Option Out:=(seqO (sFor (evI (evC0 Q4) seqD) (gNm 2) (sIf (tV (ev2 (evC 3 (aC (vr 0) (aC (vr 2) (aC (vr 1) aN))) zx) (vr 1) eqD)) (sRet (evA (aC (kd (.str "same")) (aC (vr 2) (aC (evC 2 (aC (evC 2 (aC (vr 0) (aC (vr 2) aN)) (dfl qJ [.none])) (aC (vr 1) aN)) zp) aN))) tupD)) sN)) (sRet (evA (aC (kd (.str "unlike")) (aC (evC 1 (aC (vr 0) aN) zO) (aC (evC 1 (aC (vr 1) aN) zO) aN))) tupD)))
def Qf (ds:List PyData):Option PyData:=ob (Zn (rho0 Jx.length ds)) outD
theorem wy (F:Fun K "same_solids" "same_solids" jq f fd)(m:mg "same_solids" = some (.ref f))(b:Binds K fd ["one", "other"] [])(K_solid_onto:Known P w K mg base "solid_onto" 3 3 zx)(K_shift_between:Known P w K mg base "shift_between" 2 2 zp)(K_solid_turned:Known P w K mg base "solid_turned" 3 2 qJ)(K_all_turns:Known P w K mg base "all_turns" 0 4 Q4)(K_least_solid:Known P w K mg base "least_solid" 1 5 zO)(X_solid_turned_1:KnownX P w K mg base "solid_turned" 3 2 qJ [.none]):Known P w K mg base "same_solids" 2 6 Qf:=by
 refine ⟨f,fd,["one", "other"],F.pure (k:=5) (u:=Zn) (M':=[]) qM.fs rfl (fun cdv A outer s H E hr G=>?_),m,F.kp,b⟩
 refine qj (M1:=[]) ?_ ?_
 refine jg PassesOwn.never rfl ?_ (fun _=>?_) (fun _=>?_)
 refine zT ?_
 exact ZV K_all_turns hr (by decide) (qM.gl 3 rfl rfl)
 exact za 2 qM.fs.nd (qM.loc 2 rfl) (by decide)
 refine qt ?_
 refine zL ?_ ?_ ?_
 refine zc (d_eq hr) ?_ ?_ (zF _)
 refine qp K_solid_onto hr (by decide) (qM.gl 0 rfl rfl) ?_ rfl
 refine qb ?_ ?_
 exact qd 0 (qM.vis 0 rfl) (by decide)
 refine qb ?_ ?_
 exact qd 2 (qM.vis 2 rfl) (by decide)
 refine qb ?_ ?_
 exact qd 1 (qM.vis 1 rfl) (by decide)
 exact qg
 exact qd 1 (qM.vis 1 rfl) (by decide)
 refine qt ?_
 refine qD ?_
 refine zN ?_
 refine qb ?_ ?_
 exact W7
 refine qb ?_ ?_
 exact qd 2 (qM.vis 2 rfl) (by decide)
 refine qb ?_ ?_
 refine qp K_shift_between hr (by decide) (qM.gl 2 rfl rfl) ?_ rfl
 refine qb ?_ ?_
 refine Wa X_solid_turned_1 hr (by decide) (qM.gl 1 rfl rfl) ?_ rfl rfl
 refine qb ?_ ?_
 exact qd 0 (qM.vis 0 rfl) (by decide)
 refine qb ?_ ?_
 exact qd 2 (qM.vis 2 rfl) (by decide)
 exact qg
 refine qb ?_ ?_
 exact qd 1 (qM.vis 1 rfl) (by decide)
 exact qg
 exact qg
 exact zg
 refine qt ?_
 refine qD ?_
 refine zN ?_
 refine qb ?_ ?_
 exact W7
 refine qb ?_ ?_
 refine qp K_least_solid hr (by decide) (qM.gl 4 rfl rfl) ?_ rfl
 refine qb ?_ ?_
 exact qd 0 (qM.vis 0 rfl) (by decide)
 exact qg
 refine qb ?_ ?_
 refine qp K_least_solid hr (by decide) (qM.gl 4 rfl rfl) ?_ rfl
 refine qb ?_ ?_
 exact qd 1 (qM.vis 1 rfl) (by decide)
 exact qg
 exact qg
abbrev Z9:Stmt:=top 20
abbrev j4:List Str:=["_law_script", "_law_k"]
theorem Qp:ScOk j4 ["_law_script", "_law_k"] ["len"] (qi Z9):=scmk (by kernel_rfl)
def jb:Rho->Option Out:=(seqO (sIf (tV (ev2 (vr 1) (evA (aC (vr 0) aN) lenD) ltD2)) (sRet (ev2 (vr 0) (vr 1) ixD)) sN) (sRet (kd (.int 0))))
def qR (ds:List PyData):Option PyData:=ob (jb (rho0 j4.length ds)) outD
theorem YB (F:Fun K "_law_cell_at" "_law_cell_at" Z9 f fd)(m:mg "_law_cell_at" = some (.ref f))(b:Binds K fd ["_law_script", "_law_k"] [])(z_len:mg "len" = none):Known P w K mg base "_law_cell_at" 2 1 qR:=by
 refine ⟨f,fd,["_law_script", "_law_k"],F.pure (k:=0) (u:=jb) (M':=[]) Qp.fs rfl (fun cdv A outer s H E hr G=>?_),m,F.kp,b⟩
 refine qj (M1:=[]) ?_ ?_
 refine zL ?_ ?_ ?_
 refine zc (qbH hr) ?_ ?_ (zF _)
 exact qd 1 (Qp.vis 1 rfl) (by decide)
 refine zy ZC (Qp.gl 0 rfl rfl) z_len PySem.boot_len ?_
 refine qb ?_ ?_
 exact qd 0 (Qp.vis 0 rfl) (by decide)
 exact qg
 refine qt ?_
 refine qD ?_
 refine qH ?_ ?_
 exact qd 0 (Qp.vis 0 rfl) (by decide)
 exact qd 1 (Qp.vis 1 rfl) (by decide)
 exact zg
 refine qt ?_
 refine qD ?_
 exact qe
abbrev jT:Stmt:=top 21
abbrev JV:List Str:=["_law_found"]
theorem Qu:ScOk JV ["_law_found"] ["isinstance", "int", "bool"] (qi jT):=scmk (by kernel_rfl)
def yj:Rho->Option Out:=(sRet (vA (ev1 (vr 0) (isiD "int")) (vN (ev1 (vr 0) (isiD "bool")))))
def jK (ds:List PyData):Option PyData:=ob (yj (rho0 JV.length ds)) outD
theorem WT (F:Fun K "_law_whole" "_law_whole" jT f fd)(m:mg "_law_whole" = some (.ref f))(b:Binds K fd ["_law_found"] [])(z_isinstance:mg "isinstance" = none)(z_int:mg "int" = none)(z_bool:mg "bool" = none):Known P w K mg base "_law_whole" 1 1 jK:=by
 refine ⟨f,fd,["_law_found"],F.pure (k:=0) (u:=yj) (M':=[]) Qu.fs rfl (fun cdv A outer s H E hr G=>?_),m,F.kp,b⟩
 refine qt ?_
 refine qD ?_
 refine YQ ?_ ?_
 refine Z4 (T := "int") (qbR _) (Qu.gl 0 rfl rfl) z_isinstance (Qu.gl 1 rfl rfl) z_int rfl rfl ?_
 exact qd 0 (Qu.vis 0 rfl) (by decide)
 refine YT ?_
 refine qdO ?_
 refine Z4 (T := "bool") (qaH _) (Qu.gl 0 rfl rfl) z_isinstance (Qu.gl 2 rfl rfl) z_bool rfl rfl ?_
 exact qd 0 (Qu.vis 0 rfl) (by decide)
abbrev jo:Stmt:=top 22
abbrev Jw:List Str:=["_law_found", "_law_due", "_law_number"]
theorem qZ:ScOk Jw ["_law_found", "_law_due"] ["isinstance", "tuple", "len", "_law_whole"] (qi jo):=scmk (by kernel_rfl)
def JC:Rho->Option Out:=(seqO (sIf (tO (tN (tV (ev1 (vr 0) (isiD "tuple")))) (tV (ev2 (evA (aC (vr 0) aN) lenD) (evA (aC (vr 1) aN) lenD) neD))) (sRet (kd (.bool false))) sN) (seqO (sFor (evI (vr 0) seqD) (gNm 2) (sIf (tN (tV (evC 1 (aC (vr 2) aN) jK))) (sRet (kd (.bool false))) sN)) (sRet (ev2 (vr 0) (vr 1) eqD))))
def zq (ds:List PyData):Option PyData:=ob (JC (rho0 Jw.length ds)) outD
theorem wk (F:Fun K "_law_triple" "_law_triple" jo f fd)(m:mg "_law_triple" = some (.ref f))(b:Binds K fd ["_law_found", "_law_due"] [])(K__law_whole:Known P w K mg base "_law_whole" 1 1 jK)(z_isinstance:mg "isinstance" = none)(z_tuple:mg "tuple" = none)(z_len:mg "len" = none):Known P w K mg base "_law_triple" 2 2 zq:=by
 refine ⟨f,fd,["_law_found", "_law_due"],F.pure (k:=1) (u:=JC) (M':=[]) qZ.fs rfl (fun cdv A outer s H E hr G=>?_),m,F.kp,b⟩
 refine qj (M1:=[]) ?_ ?_
 refine zL ?_ ?_ ?_
 refine PDW.pdt ?_
 refine Zw ?_ ?_
 refine QC ?_
 refine Qy ?_
 refine Z4 (T := "tuple") (kit_tuple _) (qZ.gl 0 rfl rfl) z_isinstance (qZ.gl 1 rfl rfl) z_tuple rfl rfl ?_
 exact qd 0 (qZ.vis 0 rfl) (by decide)
 refine ZG ?_
 refine zc (d_ne hr) ?_ ?_ (zF _)
 refine zy ZC (qZ.gl 2 rfl rfl) z_len PySem.boot_len ?_
 refine qb ?_ ?_
 exact qd 0 (qZ.vis 0 rfl) (by decide)
 exact qg
 refine zy ZC (qZ.gl 2 rfl rfl) z_len PySem.boot_len ?_
 refine qb ?_ ?_
 exact qd 1 (qZ.vis 1 rfl) (by decide)
 exact qg
 refine qt ?_
 refine qD ?_
 exact Zr
 exact zg
 refine qj (M1:=[]) ?_ ?_
 refine jg PassesOwn.never rfl ?_ (fun _=>?_) (fun _=>?_)
 refine zT ?_
 exact qd 0 (qZ.vis 0 rfl) (by decide)
 exact za 2 qZ.fs.nd (qZ.loc 2 rfl) (by decide)
 refine qt ?_
 refine zL ?_ ?_ ?_
 refine QC ?_
 refine Qy ?_
 refine qp K__law_whole hr (by decide) (qZ.gl 3 rfl rfl) ?_ rfl
 refine qb ?_ ?_
 exact qd 2 (qZ.vis 2 rfl) (by decide)
 exact qg
 refine qt ?_
 refine qD ?_
 exact Zr
 exact zg
 refine qt ?_
 refine qD ?_
 refine W6 (d_eq hr) ?_ ?_ (zF _)
 exact qd 0 (qZ.vis 0 rfl) (by decide)
 exact qd 1 (qZ.vis 1 rfl) (by decide)
abbrev jn:Stmt:=top 23
abbrev Jv:List Str:=["_law_cell", "_law_rest"]
theorem zE:ScOk Jv ["_law_cell"] [] (qi jn):=scmk (by kernel_rfl)
def jt:Rho->Option Out:=(seqO (sSet 1 (ev2 (vr 0) (kd (.int 4)) Q6)) (seqO (sIf (tV (ev2 (ev2 (vr 0) (kd (.int 4)) modD) (kd (.int 1)) eqD)) (sRet (ev2 (ev2 (vr 1) (ev2 (ev2 (kd (.int 2)) (ev2 (kd (.int 10)) (kd (.int 19)) powD) mulD) (kd (.int 1)) qW) modD) (ev2 (kd (.int 10)) (kd (.int 19)) powD) subD)) sN) (seqO (sIf (tV (ev2 (ev2 (vr 0) (kd (.int 4)) modD) (kd (.int 2)) eqD)) (sRet (ev2 (evA (aC (ev2 (kd (.int 10)) (kd (.int 19)) powD) (aC (ev1 (ev2 (kd (.int 10)) (kd (.int 19)) powD) negD) aN)) lstD) (ev2 (vr 1) (kd (.int 2)) modD) ixD)) sN) (seqO (sIf (tV (ev2 (ev2 (vr 0) (kd (.int 4)) modD) (kd (.int 3)) eqD)) (sRet (ev2 (ev2 (ev2 (vr 1) (ev2 (kd (.int 7919)) (kd (.int 6)) powD) mulD) (ev2 (ev2 (kd (.int 2)) (ev2 (kd (.int 10)) (kd (.int 19)) powD) mulD) (kd (.int 1)) qW) modD) (ev2 (kd (.int 10)) (kd (.int 19)) powD) subD)) sN) (sRet (ev2 (ev2 (vr 1) (kd (.int 11)) modD) (kd (.int 5)) subD))))))
def QQ (ds:List PyData):Option PyData:=ob (jt (rho0 Jv.length ds)) outD
theorem wj (F:Fun K "_law_offset" "_law_offset" jn f fd)(m:mg "_law_offset" = some (.ref f))(b:Binds K fd ["_law_cell"] []):Known P w K mg base "_law_offset" 1 1 QQ:=by
 refine ⟨f,fd,["_law_cell"],F.pure (k:=0) (u:=jt) (M':=[]) zE.fs rfl (fun cdv A outer s H E hr G=>?_),m,F.kp,b⟩
 refine qj (M1:=[]) ?_ ?_
 refine zj 1 ?_ ?_ ?_ ?_ ?_ ?_ ?_
 ·exact zE.fs.nd
 ·exact (zE.loc 1 rfl)
 ·rfl
 ·rfl
 ·exact .inl rfl
 ·decide
 refine ql Q9 ?_ ?_
 exact qd 0 (zE.vis 0 rfl) (by decide)
 exact qe
 refine qj (M1:=[]) ?_ ?_
 refine zL ?_ ?_ ?_
 refine zc (d_eq hr) ?_ ?_ (zF _)
 refine ql Qo ?_ ?_
 exact qd 0 (zE.vis 0 rfl) (by decide)
 exact qe
 exact qe
 refine qt ?_
 refine qD ?_
 refine ql Zo ?_ ?_
 refine ql Qo ?_ ?_
 exact qd 1 (zE.vis 1 rfl) (by decide)
 refine ql zm ?_ ?_
 refine ql zV ?_ ?_
 exact qe
 refine ql Yw ?_ ?_
 exact qe
 exact qe
 exact qe
 refine ql Yw ?_ ?_
 exact qe
 exact qe
 exact zg
 refine qj (M1:=[]) ?_ ?_
 refine zL ?_ ?_ ?_
 refine zc (d_eq hr) ?_ ?_ (zF _)
 refine ql Qo ?_ ?_
 exact qd 0 (zE.vis 0 rfl) (by decide)
 exact qe
 exact qe
 refine qt ?_
 refine qD ?_
 refine qH ?_ ?_
 refine JL ?_
 refine qb ?_ ?_
 refine ql Yw ?_ ?_
 exact qe
 exact qe
 refine qb ?_ ?_
 refine qaS qas ?_
 refine ql Yw ?_ ?_
 exact qe
 exact qe
 exact qg
 refine ql Qo ?_ ?_
 exact qd 1 (zE.vis 1 rfl) (by decide)
 exact qe
 exact zg
 refine qj (M1:=[]) ?_ ?_
 refine zL ?_ ?_ ?_
 refine zc (d_eq hr) ?_ ?_ (zF _)
 refine ql Qo ?_ ?_
 exact qd 0 (zE.vis 0 rfl) (by decide)
 exact qe
 exact qe
 refine qt ?_
 refine qD ?_
 refine ql Zo ?_ ?_
 refine ql Qo ?_ ?_
 refine ql zV ?_ ?_
 exact qd 1 (zE.vis 1 rfl) (by decide)
 refine ql Yw ?_ ?_
 exact qe
 exact qe
 refine ql zm ?_ ?_
 refine ql zV ?_ ?_
 exact qe
 refine ql Yw ?_ ?_
 exact qe
 exact qe
 exact qe
 refine ql Yw ?_ ?_
 exact qe
 exact qe
 exact zg
 refine qt ?_
 refine qD ?_
 refine ql Zo ?_ ?_
 refine ql Qo ?_ ?_
 exact qd 1 (zE.vis 1 rfl) (by decide)
 exact qe
 exact qe
abbrev jO:Stmt:=top 24
abbrev JQ:List Str:=["_law_one", "_law_other_here", "_law_a", "_law_b", "_law_c", "_law_d", "_law_e", "_law_f"]
theorem qI:ScOk JQ ["_law_one", "_law_other_here"] [] (qi jO):=scmk (by kernel_rfl)
def ZM:Rho->Option Out:=(seqO (sAsg (vr 0) (unpD 3 (gsC (gNm 2) (gsC (gNm 3) (gsC (gNm 4) gsN))))) (seqO (sAsg (vr 1) (unpD 3 (gsC (gNm 5) (gsC (gNm 6) (gsC (gNm 7) gsN))))) (sRet (evA (aC (ev2 (ev2 (vr 3) (vr 7) mulD) (ev2 (vr 4) (vr 6) mulD) subD) (aC (ev2 (ev2 (vr 4) (vr 5) mulD) (ev2 (vr 2) (vr 7) mulD) subD) (aC (ev2 (ev2 (vr 2) (vr 6) mulD) (ev2 (vr 3) (vr 5) mulD) subD) aN))) tupD))))
def Qw (ds:List PyData):Option PyData:=ob (ZM (rho0 JQ.length ds)) outD
theorem WF (F:Fun K "_law_cross" "_law_cross" jO f fd)(m:mg "_law_cross" = some (.ref f))(b:Binds K fd ["_law_one", "_law_other_here"] []):Known P w K mg base "_law_cross" 2 1 Qw:=by
 refine ⟨f,fd,["_law_one", "_law_other_here"],F.pure (k:=0) (u:=ZM) (M':=[]) qI.fs rfl (fun cdv A outer s H E hr G=>?_),m,F.kp,b⟩
 refine qj (M1:=[]) ?_ ?_
 refine Yi ?_ ?_
 exact qd 0 (qI.vis 0 rfl) (by decide)
 refine Jq rfl ?_
 refine zB ?_ ?_
 exact za 2 qI.fs.nd (qI.loc 2 rfl) (by decide)
 refine zB ?_ ?_
 exact za 3 qI.fs.nd (qI.loc 3 rfl) (by decide)
 refine zB ?_ ?_
 exact za 4 qI.fs.nd (qI.loc 4 rfl) (by decide)
 exact jA
 refine qj (M1:=[]) ?_ ?_
 refine Yi ?_ ?_
 exact qd 1 (qI.vis 1 rfl) (by decide)
 refine Jq rfl ?_
 refine zB ?_ ?_
 exact za 5 qI.fs.nd (qI.loc 5 rfl) (by decide)
 refine zB ?_ ?_
 exact za 6 qI.fs.nd (qI.loc 6 rfl) (by decide)
 refine zB ?_ ?_
 exact za 7 qI.fs.nd (qI.loc 7 rfl) (by decide)
 exact jA
 refine qt ?_
 refine qD ?_
 refine zN ?_
 refine qb ?_ ?_
 refine ql Zo ?_ ?_
 refine ql zV ?_ ?_
 exact qd 3 (qI.vis 3 rfl) (by decide)
 exact qd 7 (qI.vis 7 rfl) (by decide)
 refine ql zV ?_ ?_
 exact qd 4 (qI.vis 4 rfl) (by decide)
 exact qd 6 (qI.vis 6 rfl) (by decide)
 refine qb ?_ ?_
 refine ql Zo ?_ ?_
 refine ql zV ?_ ?_
 exact qd 4 (qI.vis 4 rfl) (by decide)
 exact qd 5 (qI.vis 5 rfl) (by decide)
 refine ql zV ?_ ?_
 exact qd 2 (qI.vis 2 rfl) (by decide)
 exact qd 7 (qI.vis 7 rfl) (by decide)
 refine qb ?_ ?_
 refine ql Zo ?_ ?_
 refine ql zV ?_ ?_
 exact qd 2 (qI.vis 2 rfl) (by decide)
 exact qd 6 (qI.vis 6 rfl) (by decide)
 refine ql zV ?_ ?_
 exact qd 3 (qI.vis 3 rfl) (by decide)
 exact qd 5 (qI.vis 5 rfl) (by decide)
 exact qg
abbrev jR:Stmt:=top 25
abbrev JT:List Str:=[]
theorem Wl:ScOk JT [] [] (qi jR):=scmk (by kernel_rfl)
def yh:Rho->Option Out:=(sRet (evA (aC (evA (aC (kd (.int 1)) (aC (kd (.int 0)) (aC (kd (.int 0)) aN))) tupD) (aC (evA (aC (ev1 (kd (.int 1)) negD) (aC (kd (.int 0)) (aC (kd (.int 0)) aN))) tupD) (aC (evA (aC (kd (.int 0)) (aC (kd (.int 1)) (aC (kd (.int 0)) aN))) tupD) (aC (evA (aC (kd (.int 0)) (aC (ev1 (kd (.int 1)) negD) (aC (kd (.int 0)) aN))) tupD) (aC (evA (aC (kd (.int 0)) (aC (kd (.int 0)) (aC (kd (.int 1)) aN))) tupD) (aC (evA (aC (kd (.int 0)) (aC (kd (.int 0)) (aC (ev1 (kd (.int 1)) negD) aN))) tupD) aN)))))) lstD))
def zG (ds:List PyData):Option PyData:=ob (yh (rho0 JT.length ds)) outD
theorem WR (F:Fun K "_law_units" "_law_units" jR f fd)(m:mg "_law_units" = some (.ref f))(b:Binds K fd [] []):Known P w K mg base "_law_units" 0 1 zG:=by
 refine ⟨f,fd,[],F.pure (k:=0) (u:=yh) (M':=[]) Wl.fs rfl (fun cdv A outer s H E hr G=>?_),m,F.kp,b⟩
 refine qt ?_
 refine qD ?_
 refine JL ?_
 refine qb ?_ ?_
 refine zN ?_
 refine qb ?_ ?_
 exact qe
 refine qb ?_ ?_
 exact qe
 refine qb ?_ ?_
 exact qe
 exact qg
 refine qb ?_ ?_
 refine zN ?_
 refine qb ?_ ?_
 refine qaS qas ?_
 exact qe
 refine qb ?_ ?_
 exact qe
 refine qb ?_ ?_
 exact qe
 exact qg
 refine qb ?_ ?_
 refine zN ?_
 refine qb ?_ ?_
 exact qe
 refine qb ?_ ?_
 exact qe
 refine qb ?_ ?_
 exact qe
 exact qg
 refine qb ?_ ?_
 refine zN ?_
 refine qb ?_ ?_
 exact qe
 refine qb ?_ ?_
 refine qaS qas ?_
 exact qe
 refine qb ?_ ?_
 exact qe
 exact qg
 refine qb ?_ ?_
 refine zN ?_
 refine qb ?_ ?_
 exact qe
 refine qb ?_ ?_
 exact qe
 refine qb ?_ ?_
 exact qe
 exact qg
 refine qb ?_ ?_
 refine zN ?_
 refine qb ?_ ?_
 exact qe
 refine qb ?_ ?_
 exact qe
 refine qb ?_ ?_
 refine qaS qas ?_
 exact qe
 exact qg
 exact qg
abbrev Zt:Stmt:=top 26
abbrev j5:List Str:=["_law_cell", "_law_one", "_law_others", "_law_other_here"]
theorem zr:ScOk j5 ["_law_cell"] ["_law_units", "_law_cross"] (qi Zt):=scmk (by kernel_rfl)
def Jh:Rho->Option Out:=(seqO (sSet 1 (ev2 (evC0 zG) (ev2 (vr 0) (kd (.int 6)) modD) ixD)) (seqO (jC 2 (Qh 4 (evI (evC0 zG) seqD) (tV (ev2 (evC 2 (aC (vr 1) (aC (vr 4) aN)) Qw) (evA (aC (kd (.int 0)) (aC (kd (.int 0)) (aC (kd (.int 0)) aN))) tupD) neD)) (vr 4))) (seqO (sSet 3 (wK (ev2 (vr 2) (ev2 (ev2 (vr 0) (kd (.int 6)) Q6) (kd (.int 4)) modD) ixD))) (sRet (evA (aC (vr 1) (aC (vr 3) (aC (evC 2 (aC (vr 1) (aC (vr 3) aN)) Qw) aN))) tupD)))))
def zA (ds:List PyData):Option PyData:=ob (Jh (rho0 j5.length ds)) outD
theorem qaE (F:Fun K "_law_turn" "_law_turn" Zt f fd)(m:mg "_law_turn" = some (.ref f))(b:Binds K fd ["_law_cell"] [])(K__law_units:Known P w K mg base "_law_units" 0 1 zG)(K__law_cross:Known P w K mg base "_law_cross" 2 1 Qw):Known P w K mg base "_law_turn" 1 2 zA:=by
 refine ⟨f,fd,["_law_cell"],F.pure (k:=1) (u:=Jh) (M':=[]) zr.fs rfl (fun cdv A outer s H E hr G=>?_),m,F.kp,b⟩
 refine qj (M1:=[]) ?_ ?_
 refine zj 1 ?_ ?_ ?_ ?_ ?_ ?_ ?_
 ·exact zr.fs.nd
 ·exact (zr.loc 1 rfl)
 ·rfl
 ·rfl
 ·exact .inl rfl
 ·decide
 refine qH ?_ ?_
 exact ZV K__law_units hr (by decide) (zr.gl 0 rfl rfl)
 refine ql Qo ?_ ?_
 exact qd 0 (zr.vis 0 rfl) (by decide)
 exact qe
 refine qj (M1:=[2]) ?_ ?_
 refine qaT 2 (CompOk.of (k:=1) j5 ["_law_cell", "_law_one", "_law_others", "_law_other_here", "_law_unit"] (qi Zt) rfl rfl rfl (by decide +kernel)) rfl (by decide +kernel) (qi Zt) rfl (by decide +kernel) (by decide) (by decide) ?_ (fun _ _ _ _ _ _=>?_) (fun _ _ _ _ _ _=>?_)
 refine zT ?_
 exact ZV K__law_units hr (by decide) (zr.gl 0 rfl rfl)
 refine qdR ?_
 refine zc (d_ne hr) ?_ ?_ (zF _)
 refine qp K__law_cross hr (by decide) (Qe (by decide +kernel)) ?_ rfl
 refine qb ?_ ?_
 exact qd 1 (qw (by decide +kernel)) (by decide)
 refine qb ?_ ?_
 exact qd 4 (qw (by decide +kernel)) (by decide)
 exact qg
 refine zN ?_
 refine qb ?_ ?_
 exact qe
 refine qb ?_ ?_
 exact qe
 refine qb ?_ ?_
 exact qe
 exact qg
 exact qd 4 (qw (by decide +kernel)) (by decide)
 refine qj (M1:=[2]) ?_ ?_
 refine qaU 3 ?_ ?_ ?_ ?_ ?_ ?_ ?_
 ·exact zr.fs.nd
 ·exact (zr.loc 3 rfl)
 ·rfl
 ·rfl
 ·exact .inl rfl
 ·decide
 refine qH ?_ ?_
 exact qd 2 (zr.vis 2 rfl) (by decide)
 refine ql Qo ?_ ?_
 refine ql Q9 ?_ ?_
 exact qd 0 (zr.vis 0 rfl) (by decide)
 exact qe
 exact qe
 refine qt ?_
 refine qD ?_
 refine zN ?_
 refine qb ?_ ?_
 exact qd 1 (zr.vis 1 rfl) (by decide)
 refine qb ?_ ?_
 exact qd 3 (zr.vis 3 rfl) (by decide)
 refine qb ?_ ?_
 refine qp K__law_cross hr (by decide) (zr.gl 1 rfl rfl) ?_ rfl
 refine qb ?_ ?_
 exact qd 1 (zr.vis 1 rfl) (by decide)
 refine qb ?_ ?_
 exact qd 3 (zr.vis 3 rfl) (by decide)
 exact qg
 exact qg
abbrev Zk:Stmt:=top 27
abbrev jj:List Str:=["_law_turn_here", "_law_spot", "_law_a", "_law_b", "_law_c", "_law_p", "_law_q", "_law_r"]
theorem qT:ScOk jj ["_law_turn_here", "_law_spot"] ["range", "tuple"] (qi Zk):=scmk (by kernel_rfl)
def ju:Rho->Option Out:=(seqO (sAsg (vr 1) (unpD 3 (gsC (gNm 2) (gsC (gNm 3) (gsC (gNm 4) gsN))))) (seqO (sAsg (vr 0) (unpD 3 (gsC (gNm 5) (gsC (gNm 6) (gsC (gNm 7) gsN))))) (sRet (evA (aC (Qh 8 (evR (aC (kd (.int 3)) aN) Z8) tT (ev2 (ev2 (ev2 (vr 2) (ev2 (vr 5) (vr 8) ixD) mulD) (ev2 (vr 3) (ev2 (vr 6) (vr 8) ixD) mulD) qW) (ev2 (vr 4) (ev2 (vr 7) (vr 8) ixD) mulD) qW)) aN) JP))))
def QR (ds:List PyData):Option PyData:=ob (ju (rho0 jj.length ds)) outD
theorem wu (F:Fun K "_law_turned" "_law_turned" Zk f fd)(m:mg "_law_turned" = some (.ref f))(b:Binds K fd ["_law_turn_here", "_law_spot"] [])(z_tuple:mg "tuple" = none)(z_range:mg "range" = none):Known P w K mg base "_law_turned" 2 1 QR:=by
 refine ⟨f,fd,["_law_turn_here", "_law_spot"],F.pure (k:=0) (u:=ju) (M':=[]) qT.fs rfl (fun cdv A outer s H E hr G=>?_),m,F.kp,b⟩
 refine qj (M1:=[]) ?_ ?_
 refine Yi ?_ ?_
 exact qd 1 (qT.vis 1 rfl) (by decide)
 refine Jq rfl ?_
 refine zB ?_ ?_
 exact za 2 qT.fs.nd (qT.loc 2 rfl) (by decide)
 refine zB ?_ ?_
 exact za 3 qT.fs.nd (qT.loc 3 rfl) (by decide)
 refine zB ?_ ?_
 exact za 4 qT.fs.nd (qT.loc 4 rfl) (by decide)
 exact jA
 refine qj (M1:=[]) ?_ ?_
 refine Yi ?_ ?_
 exact qd 0 (qT.vis 0 rfl) (by decide)
 refine Jq rfl ?_
 refine zB ?_ ?_
 exact za 5 qT.fs.nd (qT.loc 5 rfl) (by decide)
 refine zB ?_ ?_
 exact za 6 qT.fs.nd (qT.loc 6 rfl) (by decide)
 refine zB ?_ ?_
 exact za 7 qT.fs.nd (qT.loc 7 rfl) (by decide)
 exact jA
 refine qt ?_
 refine qD ?_
 refine ZS yW (qT.gl 1 rfl rfl) z_tuple rfl ?_
 refine qb ?_ ?_
 refine Qn (CompOk.of (k:=1) jj ["_law_turn_here", "_law_spot", "_law_a", "_law_b", "_law_c", "_law_p", "_law_q", "_law_r", "_law_k"] (qi Zk) rfl rfl rfl (by decide +kernel)) rfl (by decide +kernel) ?_ (fun _ _ _ _ _ _=>?_) (fun _ _ _ _ _ _=>?_)
 refine QT (qT.gl 0 rfl rfl) z_range ?_
 refine qb ?_ ?_
 exact qe
 exact qg
 exact zM
 refine ql zm ?_ ?_
 refine ql zm ?_ ?_
 refine ql zV ?_ ?_
 exact qd 2 (qw (by decide +kernel)) (by decide)
 refine qH ?_ ?_
 exact qd 5 (qw (by decide +kernel)) (by decide)
 exact qd 8 (qw (by decide +kernel)) (by decide)
 refine ql zV ?_ ?_
 exact qd 3 (qw (by decide +kernel)) (by decide)
 refine qH ?_ ?_
 exact qd 6 (qw (by decide +kernel)) (by decide)
 exact qd 8 (qw (by decide +kernel)) (by decide)
 refine ql zV ?_ ?_
 exact qd 4 (qw (by decide +kernel)) (by decide)
 refine qH ?_ ?_
 exact qd 7 (qw (by decide +kernel)) (by decide)
 exact qd 8 (qw (by decide +kernel)) (by decide)
 exact qg
abbrev jP:Stmt:=top 28
abbrev JR:List Str:=["_law_cell", "_law_k", "_law_number"]
theorem zX:ScOk JR ["_law_cell", "_law_k"] [] (qi jP):=scmk (by kernel_rfl)
def jW:Rho->Option Out:=(seqO (sSet 2 (ev2 (ev2 (ev2 (ev2 (ev2 (ev2 (vr 0) (kd (.int 1000000007)) modD) (ev2 (ev2 (kd (.int 7)) (vr 1) mulD) (vr 1) mulD) qW) (ev2 (kd (.int 13)) (vr 1) mulD) qW) (kd (.int 5)) qW) (kd (.int 48271)) mulD) (kd (.int 2147483647)) modD)) (sRet (ev2 (ev2 (ev2 (ev2 (ev2 (vr 2) (kd (.int 69621)) mulD) (vr 1) qW) (kd (.int 1000000007)) modD) (kd (.int 40692)) mulD) (kd (.int 2147483399)) modD)))
def Qa (ds:List PyData):Option PyData:=ob (jW (rho0 JR.length ds)) outD
theorem WL (F:Fun K "_law_mixed" "_law_mixed" jP f fd)(m:mg "_law_mixed" = some (.ref f))(b:Binds K fd ["_law_cell", "_law_k"] []):Known P w K mg base "_law_mixed" 2 1 Qa:=by
 refine ⟨f,fd,["_law_cell", "_law_k"],F.pure (k:=0) (u:=jW) (M':=[]) zX.fs rfl (fun cdv A outer s H E hr G=>?_),m,F.kp,b⟩
 refine qj (M1:=[]) ?_ ?_
 refine zj 2 ?_ ?_ ?_ ?_ ?_ ?_ ?_
 ·exact zX.fs.nd
 ·exact (zX.loc 2 rfl)
 ·rfl
 ·rfl
 ·exact .inl rfl
 ·decide
 refine ql Qo ?_ ?_
 refine ql zV ?_ ?_
 refine ql zm ?_ ?_
 refine ql zm ?_ ?_
 refine ql zm ?_ ?_
 refine ql Qo ?_ ?_
 exact qd 0 (zX.vis 0 rfl) (by decide)
 exact qe
 refine ql zV ?_ ?_
 refine ql zV ?_ ?_
 exact qe
 exact qd 1 (zX.vis 1 rfl) (by decide)
 exact qd 1 (zX.vis 1 rfl) (by decide)
 refine ql zV ?_ ?_
 exact qe
 exact qd 1 (zX.vis 1 rfl) (by decide)
 exact qe
 exact qe
 exact qe
 refine qt ?_
 refine qD ?_
 refine ql Qo ?_ ?_
 refine ql zV ?_ ?_
 refine ql Qo ?_ ?_
 refine ql zm ?_ ?_
 refine ql zV ?_ ?_
 exact qd 2 (zX.vis 2 rfl) (by decide)
 exact qe
 exact qd 1 (zX.vis 1 rfl) (by decide)
 exact qe
 exact qe
 exact qe
abbrev Jd:Stmt:=top 29
abbrev yK:List Str:=["_law_script", "_law_at", "_law_most_here", "_law_cell"]
theorem zP:ScOk yK ["_law_script", "_law_at", "_law_most_here"] ["_law_cell_at", "_law_mixed"] (qi Jd):=scmk (by kernel_rfl)
def jh:Rho->Option Out:=(seqO (sSet 3 (evC 2 (aC (vr 0) (aC (vr 1) aN)) qR)) (seqO (sIf (tV (ev2 (ev2 (vr 3) (kd (.int 2)) modD) (kd (.int 1)) eqD)) (sRet (vr 2)) sN) (sRet (ev2 (kd (.int 1)) (ev2 (evC 2 (aC (vr 3) (aC (kd (.int 77)) aN)) Qa) (vr 2) modD) qW))))
def Q3 (ds:List PyData):Option PyData:=ob (jh (rho0 yK.length ds)) outD
theorem qaD (F:Fun K "_law_most" "_law_most" Jd f fd)(m:mg "_law_most" = some (.ref f))(b:Binds K fd ["_law_script", "_law_at", "_law_most_here"] [])(K__law_cell_at:Known P w K mg base "_law_cell_at" 2 1 qR)(K__law_mixed:Known P w K mg base "_law_mixed" 2 1 Qa):Known P w K mg base "_law_most" 3 2 Q3:=by
 refine ⟨f,fd,["_law_script", "_law_at", "_law_most_here"],F.pure (k:=1) (u:=jh) (M':=[]) zP.fs rfl (fun cdv A outer s H E hr G=>?_),m,F.kp,b⟩
 refine qj (M1:=[]) ?_ ?_
 refine zj 3 ?_ ?_ ?_ ?_ ?_ ?_ ?_
 ·exact zP.fs.nd
 ·exact (zP.loc 3 rfl)
 ·rfl
 ·rfl
 ·exact .inl rfl
 ·decide
 refine qp K__law_cell_at hr (by decide) (zP.gl 0 rfl rfl) ?_ rfl
 refine qb ?_ ?_
 exact qd 0 (zP.vis 0 rfl) (by decide)
 refine qb ?_ ?_
 exact qd 1 (zP.vis 1 rfl) (by decide)
 exact qg
 refine qj (M1:=[]) ?_ ?_
 refine zL ?_ ?_ ?_
 refine zc (d_eq hr) ?_ ?_ (zF _)
 refine ql Qo ?_ ?_
 exact qd 3 (zP.vis 3 rfl) (by decide)
 exact qe
 exact qe
 refine qt ?_
 refine qD ?_
 exact qd 2 (zP.vis 2 rfl) (by decide)
 exact zg
 refine qt ?_
 refine qD ?_
 refine ql zm ?_ ?_
 exact qe
 refine ql Qo ?_ ?_
 refine qp K__law_mixed hr (by decide) (zP.gl 1 rfl rfl) ?_ rfl
 refine qb ?_ ?_
 exact qd 3 (zP.vis 3 rfl) (by decide)
 refine qb ?_ ?_
 exact qe
 exact qg
 exact qd 2 (zP.vis 2 rfl) (by decide)
abbrev ZL:Stmt:=top 30
abbrev jH:List Str:=["_law_script", "_law_at", "_law_base", "_law_cell", "_law_rest", "_law_many", "_law_found", "_law_k"]
theorem qx:ScOk jH ["_law_script", "_law_at", "_law_base"] ["_law_cell_at", "range", "_law_mixed"] (qi ZL):=scmk (by kernel_rfl)
def ZP:Rho->Option Out:=(seqO (sSet 3 (evC 2 (aC (vr 0) (aC (vr 1) aN)) qR)) (seqO (sIf (tV (ev2 (ev2 (vr 3) (kd (.int 2)) modD) (kd (.int 1)) eqD)) (seqO (sSet 4 (ev2 (vr 3) (kd (.int 2)) Q6)) (seqO (sSet 5 (ev2 (vr 4) (kd (.int 61)) modD)) (seqO (sSet 4 (ev2 (vr 4) (kd (.int 61)) Q6)) (seqO (jC 6 (evA aN lstD)) (seqO (sFor (evR (aC (vr 5) aN) Z8) (gNm 7) (seqO (sApp 6 (ev2 (vr 4) (vr 2) modD)) (sSet 4 (ev2 (vr 4) (vr 2) Q6)))) (sRet (vr 6))))))) sN) (seqO (sSet 5 (ev2 (evC 2 (aC (vr 3) (aC (kd (.int 3)) aN)) Qa) (kd (.int 61)) modD)) (sRet (Qh 8 (evR (aC (vr 5) aN) Z8) tT (evC 2 (aC (evC 2 (aC (vr 0) (aC (ev2 (ev2 (vr 1) (kd (.int 1)) qW) (vr 8) qW) aN)) qR) (aC (ev2 (vr 8) (vr 5) qW) aN)) Qa))))))
def Qc (ds:List PyData):Option PyData:=ob (ZP (rho0 jH.length ds)) outD
theorem WQ (F:Fun K "_law_steps" "_law_steps" ZL f fd)(m:mg "_law_steps" = some (.ref f))(b:Binds K fd ["_law_script", "_law_at", "_law_base"] [])(K__law_cell_at:Known P w K mg base "_law_cell_at" 2 1 qR)(K__law_mixed:Known P w K mg base "_law_mixed" 2 1 Qa)(z_range:mg "range" = none):Known P w K mg base "_law_steps" 3 2 Qc:=by
 refine ⟨f,fd,["_law_script", "_law_at", "_law_base"],F.pure (k:=1) (u:=ZP) (M':=[]) qx.fs rfl (fun cdv A outer s H E hr G=>?_),m,F.kp,b⟩
 refine qj (M1:=[]) ?_ ?_
 refine zj 3 ?_ ?_ ?_ ?_ ?_ ?_ ?_
 ·exact qx.fs.nd
 ·exact (qx.loc 3 rfl)
 ·rfl
 ·rfl
 ·exact .inl rfl
 ·decide
 refine qp K__law_cell_at hr (by decide) (qx.gl 0 rfl rfl) ?_ rfl
 refine qb ?_ ?_
 exact qd 0 (qx.vis 0 rfl) (by decide)
 refine qb ?_ ?_
 exact qd 1 (qx.vis 1 rfl) (by decide)
 exact qg
 refine qj (M1:=[]) ?_ ?_
 refine zL ?_ ?_ ?_
 refine zc (d_eq hr) ?_ ?_ (zF _)
 refine ql Qo ?_ ?_
 exact qd 3 (qx.vis 3 rfl) (by decide)
 exact qe
 exact qe
 refine qj (M1:=[]) ?_ ?_
 refine zj 4 ?_ ?_ ?_ ?_ ?_ ?_ ?_
 ·exact qx.fs.nd
 ·exact (qx.loc 4 rfl)
 ·rfl
 ·rfl
 ·exact .inl rfl
 ·decide
 refine ql Q9 ?_ ?_
 exact qd 3 (qx.vis 3 rfl) (by decide)
 exact qe
 refine qj (M1:=[]) ?_ ?_
 refine zj 5 ?_ ?_ ?_ ?_ ?_ ?_ ?_
 ·exact qx.fs.nd
 ·exact (qx.loc 5 rfl)
 ·rfl
 ·rfl
 ·exact .inl rfl
 ·decide
 refine ql Qo ?_ ?_
 exact qd 4 (qx.vis 4 rfl) (by decide)
 exact qe
 refine qj (M1:=[]) ?_ ?_
 refine zj 4 ?_ ?_ ?_ ?_ ?_ ?_ ?_
 ·exact qx.fs.nd
 ·exact (qx.loc 4 rfl)
 ·rfl
 ·rfl
 ·exact .inl rfl
 ·decide
 refine ql Q9 ?_ ?_
 exact qd 4 (qx.vis 4 rfl) (by decide)
 exact qe
 refine qj (M1:=[6]) ?_ ?_
 refine J7 6 ?_ ?_ ?_ ?_ ?_ ?_ ?_ ?_
 ·exact qx.fs.nd
 ·exact (qx.loc 6 rfl)
 ·rfl
 ·rfl
 ·exact .inl rfl
 ·decide
 ·decide
 refine W8 ?_
 exact qg
 refine qj (M1:=[6]) ?_ ?_
 refine YX PassesOwn.never rfl ?_ ?_ ?_
 refine JM (qx.gl 1 rfl rfl) z_range ?_
 refine qb ?_ ?_
 exact qd 5 (qx.vis 5 rfl) (by decide)
 exact qg
 exact za 7 qx.fs.nd (qx.loc 7 rfl) (by decide)
 refine qj (M1:=[6]) ?_ ?_
 refine Yh 6 (qx.vis 6 rfl) (by decide) (by decide) ?_
 refine ql Qo ?_ ?_
 exact qd 4 (qx.vis 4 rfl) (by decide)
 exact qd 2 (qx.vis 2 rfl) (by decide)
 refine qt ?_
 refine zj 4 ?_ ?_ ?_ ?_ ?_ ?_ ?_
 ·exact qx.fs.nd
 ·exact (qx.loc 4 rfl)
 ·rfl
 ·rfl
 ·exact .inl rfl
 ·decide
 refine ql Q9 ?_ ?_
 exact qd 4 (qx.vis 4 rfl) (by decide)
 exact qd 2 (qx.vis 2 rfl) (by decide)
 refine qt ?_
 refine qD ?_
 exact qd 6 (qx.vis 6 rfl) (by decide)
 exact zg
 refine qj (M1:=[]) ?_ ?_
 refine zj 5 ?_ ?_ ?_ ?_ ?_ ?_ ?_
 ·exact qx.fs.nd
 ·exact (qx.loc 5 rfl)
 ·rfl
 ·rfl
 ·exact .inl rfl
 ·decide
 refine ql Qo ?_ ?_
 refine qp K__law_mixed hr (by decide) (qx.gl 2 rfl rfl) ?_ rfl
 refine qb ?_ ?_
 exact qd 3 (qx.vis 3 rfl) (by decide)
 refine qb ?_ ?_
 exact qe
 exact qg
 exact qe
 refine qt ?_
 refine qD ?_
 refine Qn (CompOk.of (k:=1) jH ["_law_script", "_law_at", "_law_base", "_law_cell", "_law_rest", "_law_many", "_law_found", "", "_law_k"] (qi ZL) rfl rfl rfl (by decide +kernel)) rfl (by decide +kernel) ?_ (fun _ _ _ _ _ _=>?_) (fun _ _ _ _ _ _=>?_)
 refine QT (qx.gl 1 rfl rfl) z_range ?_
 refine qb ?_ ?_
 exact qd 5 (qx.vis 5 rfl) (by decide)
 exact qg
 exact zM
 refine qp K__law_mixed hr (by decide) (Qe (by decide +kernel)) ?_ rfl
 refine qb ?_ ?_
 refine qp K__law_cell_at hr (by decide) (Qe (by decide +kernel)) ?_ rfl
 refine qb ?_ ?_
 exact qd 0 (qw (by decide +kernel)) (by decide)
 refine qb ?_ ?_
 refine ql zm ?_ ?_
 refine ql zm ?_ ?_
 exact qd 1 (qw (by decide +kernel)) (by decide)
 exact qe
 exact qd 8 (qw (by decide +kernel)) (by decide)
 exact qg
 refine qb ?_ ?_
 refine ql zm ?_ ?_
 exact qd 8 (qw (by decide +kernel)) (by decide)
 exact qd 5 (qw (by decide +kernel)) (by decide)
 exact qg
abbrev jQ:Stmt:=top 31
abbrev JS:List Str:=["_law_steps_here", "_law_most_here", "_law_found", "_law_step", "_law_one", "_law_unit", "_law_other_here"]
theorem qC:ScOk JS ["_law_steps_here", "_law_most_here"] ["len", "_law_units", "sorted"] (qi jQ):=scmk (by kernel_rfl)
def jY:Rho->Option Out:=(seqO (jC 2 (evA (aC (evA (aC (kd (.int 0)) (aC (kd (.int 0)) (aC (kd (.int 0)) aN))) tupD) aN) lstD)) (seqO (sFor (evI (vr 0) seqD) (gNm 3) (seqO (sSet 4 (wK (ev2 (vr 2) (ev2 (ev2 (vr 3) (kd (.int 6)) Q6) (evA (aC (vr 2) aN) lenD) modD) ixD))) (seqO (sSet 5 (ev2 (evC0 zG) (ev2 (vr 3) (kd (.int 6)) modD) ixD)) (seqO (sSet 6 (evA (aC (ev2 (ev2 (vr 4) (kd (.int 0)) ixD) (ev2 (vr 5) (kd (.int 0)) ixD) qW) (aC (ev2 (ev2 (vr 4) (kd (.int 1)) ixD) (ev2 (vr 5) (kd (.int 1)) ixD) qW) (aC (ev2 (ev2 (vr 4) (kd (.int 2)) ixD) (ev2 (vr 5) (kd (.int 2)) ixD) qW) aN))) tupD)) (sIf (tA (tV (ev2 (vr 6) (vr 2) ninD)) (tV (ev2 (evA (aC (vr 2) aN) lenD) (vr 1) ltD2))) (sApp 2 (vr 6)) sN))))) (sRet (evA (aC (vr 2) aN) zH))))
def Ql (ds:List PyData):Option PyData:=ob (jY (rho0 JS.length ds)) outD
theorem WP (F:Fun K "_law_solid" "_law_solid" jQ f fd)(m:mg "_law_solid" = some (.ref f))(b:Binds K fd ["_law_steps_here", "_law_most_here"] [])(K__law_units:Known P w K mg base "_law_units" 0 1 zG)(z_len:mg "len" = none)(z_sorted:mg "sorted" = none):Known P w K mg base "_law_solid" 2 2 Ql:=by
 refine ⟨f,fd,["_law_steps_here", "_law_most_here"],F.pure (k:=1) (u:=jY) (M':=[]) qC.fs rfl (fun cdv A outer s H E hr G=>?_),m,F.kp,b⟩
 refine qj (M1:=[2]) ?_ ?_
 refine J7 2 ?_ ?_ ?_ ?_ ?_ ?_ ?_ ?_
 ·exact qC.fs.nd
 ·exact (qC.loc 2 rfl)
 ·rfl
 ·rfl
 ·exact .inl rfl
 ·decide
 ·decide
 refine W8 ?_
 refine qb ?_ ?_
 refine zN ?_
 refine qb ?_ ?_
 exact qe
 refine qb ?_ ?_
 exact qe
 refine qb ?_ ?_
 exact qe
 exact qg
 exact qg
 refine qj (M1:=[2]) ?_ ?_
 refine jg PassesOwn.never rfl ?_ (fun _=>?_) (fun _=>?_)
 refine zT ?_
 exact qd 0 (qC.vis 0 rfl) (by decide)
 exact za 3 qC.fs.nd (qC.loc 3 rfl) (by decide)
 refine qj (M1:=[2]) ?_ ?_
 refine qaU 4 ?_ ?_ ?_ ?_ ?_ ?_ ?_
 ·exact qC.fs.nd
 ·exact (qC.loc 4 rfl)
 ·rfl
 ·rfl
 ·exact .inl rfl
 ·decide
 refine qH ?_ ?_
 exact qd 2 (qC.vis 2 rfl) (by decide)
 refine ql Qo ?_ ?_
 refine ql Q9 ?_ ?_
 exact qd 3 (qC.vis 3 rfl) (by decide)
 exact qe
 refine zy ZC (qC.gl 0 rfl rfl) z_len PySem.boot_len ?_
 refine qb ?_ ?_
 exact qd 2 (qC.vis 2 rfl) (by decide)
 exact qg
 refine qj (M1:=[2]) ?_ ?_
 refine zj 5 ?_ ?_ ?_ ?_ ?_ ?_ ?_
 ·exact qC.fs.nd
 ·exact (qC.loc 5 rfl)
 ·rfl
 ·rfl
 ·exact .inl rfl
 ·decide
 refine qH ?_ ?_
 exact ZV K__law_units hr (by decide) (qC.gl 1 rfl rfl)
 refine ql Qo ?_ ?_
 exact qd 3 (qC.vis 3 rfl) (by decide)
 exact qe
 refine qj (M1:=[2]) ?_ ?_
 refine zj 6 ?_ ?_ ?_ ?_ ?_ ?_ ?_
 ·exact qC.fs.nd
 ·exact (qC.loc 6 rfl)
 ·rfl
 ·rfl
 ·exact .inl rfl
 ·decide
 refine zN ?_
 refine qb ?_ ?_
 refine ql zm ?_ ?_
 refine qH ?_ ?_
 exact qd 4 (qC.vis 4 rfl) (by decide)
 exact qe
 refine qH ?_ ?_
 exact qd 5 (qC.vis 5 rfl) (by decide)
 exact qe
 refine qb ?_ ?_
 refine ql zm ?_ ?_
 refine qH ?_ ?_
 exact qd 4 (qC.vis 4 rfl) (by decide)
 exact qe
 refine qH ?_ ?_
 exact qd 5 (qC.vis 5 rfl) (by decide)
 exact qe
 refine qb ?_ ?_
 refine ql zm ?_ ?_
 refine qH ?_ ?_
 exact qd 4 (qC.vis 4 rfl) (by decide)
 exact qe
 refine qH ?_ ?_
 exact qd 5 (qC.vis 5 rfl) (by decide)
 exact qe
 exact qg
 refine qt ?_
 refine zL ?_ ?_ ?_
 refine PDW.pdt ?_
 refine qbZ ?_ ?_
 refine zc (Ws hr) ?_ ?_ rfl
 exact qd 6 (qC.vis 6 rfl) (by decide)
 exact qd 2 (qC.vis 2 rfl) (by decide)
 refine qaV ?_
 refine zc (qbH hr) ?_ ?_ (zF _)
 refine zy ZC (qC.gl 0 rfl rfl) z_len PySem.boot_len ?_
 refine qb ?_ ?_
 exact qd 2 (qC.vis 2 rfl) (by decide)
 exact qg
 exact qd 1 (qC.vis 1 rfl) (by decide)
 refine qt ?_
 refine Yh 2 (qC.vis 2 rfl) (by decide) (by decide) ?_
 exact qd 6 (qC.vis 6 rfl) (by decide)
 exact zg
 refine qt ?_
 refine qD ?_
 refine Z5 ?_
 refine Z6 (Z3 hr) (qC.gl 2 rfl rfl) z_sorted Qv ?_
 refine qb ?_ ?_
 exact qd 2 (qC.vis 2 rfl) (by decide)
 exact qg
abbrev QV:Stmt:=top 32
abbrev ZZ:List Str:=["_law_turn_here", "_law_shift_here", "_law_cube", "_law_middle"]
theorem qL:ScOk ZZ ["_law_turn_here", "_law_shift_here", "_law_cube"] ["_law_turned"] (qi QV):=scmk (by kernel_rfl)
def QX:Rho->Option Out:=(seqO (sSet 3 (evC 2 (aC (vr 0) (aC (evA (aC (ev2 (ev2 (kd (.int 2)) (ev2 (vr 2) (kd (.int 0)) ixD) mulD) (kd (.int 1)) qW) (aC (ev2 (ev2 (kd (.int 2)) (ev2 (vr 2) (kd (.int 1)) ixD) mulD) (kd (.int 1)) qW) (aC (ev2 (ev2 (kd (.int 2)) (ev2 (vr 2) (kd (.int 2)) ixD) mulD) (kd (.int 1)) qW) aN))) tupD) aN)) QR)) (sRet (evA (aC (ev2 (ev2 (ev2 (ev2 (vr 3) (kd (.int 0)) ixD) (kd (.int 1)) subD) (kd (.int 2)) Q6) (ev2 (vr 1) (kd (.int 0)) ixD) qW) (aC (ev2 (ev2 (ev2 (ev2 (vr 3) (kd (.int 1)) ixD) (kd (.int 1)) subD) (kd (.int 2)) Q6) (ev2 (vr 1) (kd (.int 1)) ixD) qW) (aC (ev2 (ev2 (ev2 (ev2 (vr 3) (kd (.int 2)) ixD) (kd (.int 1)) subD) (kd (.int 2)) Q6) (ev2 (vr 1) (kd (.int 2)) ixD) qW) aN))) tupD)))
def qG (ds:List PyData):Option PyData:=ob (QX (rho0 ZZ.length ds)) outD
theorem JG (F:Fun K "_law_cube_turned" "_law_cube_turned" QV f fd)(m:mg "_law_cube_turned" = some (.ref f))(b:Binds K fd ["_law_turn_here", "_law_shift_here", "_law_cube"] [])(K__law_turned:Known P w K mg base "_law_turned" 2 1 QR):Known P w K mg base "_law_cube_turned" 3 2 qG:=by
 refine ⟨f,fd,["_law_turn_here", "_law_shift_here", "_law_cube"],F.pure (k:=1) (u:=QX) (M':=[]) qL.fs rfl (fun cdv A outer s H E hr G=>?_),m,F.kp,b⟩
 refine qj (M1:=[]) ?_ ?_
 refine zj 3 ?_ ?_ ?_ ?_ ?_ ?_ ?_
 ·exact qL.fs.nd
 ·exact (qL.loc 3 rfl)
 ·rfl
 ·rfl
 ·exact .inl rfl
 ·decide
 refine qp K__law_turned hr (by decide) (qL.gl 0 rfl rfl) ?_ rfl
 refine qb ?_ ?_
 exact qd 0 (qL.vis 0 rfl) (by decide)
 refine qb ?_ ?_
 refine zN ?_
 refine qb ?_ ?_
 refine ql zm ?_ ?_
 refine ql zV ?_ ?_
 exact qe
 refine qH ?_ ?_
 exact qd 2 (qL.vis 2 rfl) (by decide)
 exact qe
 exact qe
 refine qb ?_ ?_
 refine ql zm ?_ ?_
 refine ql zV ?_ ?_
 exact qe
 refine qH ?_ ?_
 exact qd 2 (qL.vis 2 rfl) (by decide)
 exact qe
 exact qe
 refine qb ?_ ?_
 refine ql zm ?_ ?_
 refine ql zV ?_ ?_
 exact qe
 refine qH ?_ ?_
 exact qd 2 (qL.vis 2 rfl) (by decide)
 exact qe
 exact qe
 exact qg
 exact qg
 refine qt ?_
 refine qD ?_
 refine zN ?_
 refine qb ?_ ?_
 refine ql zm ?_ ?_
 refine ql Q9 ?_ ?_
 refine ql Zo ?_ ?_
 refine qH ?_ ?_
 exact qd 3 (qL.vis 3 rfl) (by decide)
 exact qe
 exact qe
 exact qe
 refine qH ?_ ?_
 exact qd 1 (qL.vis 1 rfl) (by decide)
 exact qe
 refine qb ?_ ?_
 refine ql zm ?_ ?_
 refine ql Q9 ?_ ?_
 refine ql Zo ?_ ?_
 refine qH ?_ ?_
 exact qd 3 (qL.vis 3 rfl) (by decide)
 exact qe
 exact qe
 exact qe
 refine qH ?_ ?_
 exact qd 1 (qL.vis 1 rfl) (by decide)
 exact qe
 refine qb ?_ ?_
 refine ql zm ?_ ?_
 refine ql Q9 ?_ ?_
 refine ql Zo ?_ ?_
 refine qH ?_ ?_
 exact qd 3 (qL.vis 3 rfl) (by decide)
 exact qe
 exact qe
 exact qe
 refine qH ?_ ?_
 exact qd 1 (qL.vis 1 rfl) (by decide)
 exact qe
 exact qg
abbrev QW:Stmt:=top 33
abbrev Z0:List Str:=["_law_found", "_law_due", "_law_k"]
theorem qF:ScOk Z0 ["_law_found", "_law_due"] ["isinstance", "list", "len", "_law_triple", "range"] (qi QW):=scmk (by kernel_rfl)
def QZ:Rho->Option Out:=(seqO (sIf (tO (tN (tV (ev1 (vr 0) (isiD "list")))) (tV (ev2 (evA (aC (vr 0) aN) lenD) (evA (aC (vr 1) aN) lenD) neD))) (sRet (kd (.bool false))) sN) (seqO (sFor (evR (aC (evA (aC (vr 1) aN) lenD) aN) Z8) (gNm 2) (sIf (tN (tV (evC 2 (aC (ev2 (vr 0) (vr 2) ixD) (aC (ev2 (vr 1) (vr 2) ixD) aN)) zq))) (sRet (kd (.bool false))) sN)) (sRet (kd (.bool true)))))
def zu (ds:List PyData):Option PyData:=ob (QZ (rho0 Z0.length ds)) outD
theorem JH (F:Fun K "_law_cubes_alike" "_law_cubes_alike" QW f fd)(m:mg "_law_cubes_alike" = some (.ref f))(b:Binds K fd ["_law_found", "_law_due"] [])(K__law_triple:Known P w K mg base "_law_triple" 2 2 zq)(z_isinstance:mg "isinstance" = none)(z_list:mg "list" = none)(z_len:mg "len" = none)(z_range:mg "range" = none):Known P w K mg base "_law_cubes_alike" 2 3 zu:=by
 refine ⟨f,fd,["_law_found", "_law_due"],F.pure (k:=2) (u:=QZ) (M':=[]) qF.fs rfl (fun cdv A outer s H E hr G=>?_),m,F.kp,b⟩
 refine qj (M1:=[]) ?_ ?_
 refine zL ?_ ?_ ?_
 refine PDW.pdt ?_
 refine Zw ?_ ?_
 refine QC ?_
 refine Qy ?_
 refine Z4 (T := "list") (qdo _) (qF.gl 0 rfl rfl) z_isinstance (qF.gl 1 rfl rfl) z_list rfl rfl ?_
 exact qd 0 (qF.vis 0 rfl) (by decide)
 refine ZG ?_
 refine zc (d_ne hr) ?_ ?_ (zF _)
 refine zy ZC (qF.gl 2 rfl rfl) z_len PySem.boot_len ?_
 refine qb ?_ ?_
 exact qd 0 (qF.vis 0 rfl) (by decide)
 exact qg
 refine zy ZC (qF.gl 2 rfl rfl) z_len PySem.boot_len ?_
 refine qb ?_ ?_
 exact qd 1 (qF.vis 1 rfl) (by decide)
 exact qg
 refine qt ?_
 refine qD ?_
 exact Zr
 exact zg
 refine qj (M1:=[]) ?_ ?_
 refine YX PassesOwn.never rfl ?_ ?_ ?_
 refine JM (qF.gl 4 rfl rfl) z_range ?_
 refine qb ?_ ?_
 refine zy ZC (qF.gl 2 rfl rfl) z_len PySem.boot_len ?_
 refine qb ?_ ?_
 exact qd 1 (qF.vis 1 rfl) (by decide)
 exact qg
 exact qg
 exact za 2 qF.fs.nd (qF.loc 2 rfl) (by decide)
 refine qt ?_
 refine zL ?_ ?_ ?_
 refine QC ?_
 refine Qy ?_
 refine qp K__law_triple hr (by decide) (qF.gl 3 rfl rfl) ?_ rfl
 refine qb ?_ ?_
 refine qH ?_ ?_
 exact qd 0 (qF.vis 0 rfl) (by decide)
 exact qd 2 (qF.vis 2 rfl) (by decide)
 refine qb ?_ ?_
 refine qH ?_ ?_
 exact qd 1 (qF.vis 1 rfl) (by decide)
 exact qd 2 (qF.vis 2 rfl) (by decide)
 exact qg
 refine qt ?_
 refine qD ?_
 exact Zr
 exact zg
 refine qt ?_
 refine qD ?_
 exact Zr
abbrev ZK:Stmt:=top 34
abbrev jG:List Str:=["_law_script", "_law_at"]
theorem jD:ScOk jG ["_law_script", "_law_at"] ["range", "tuple"] (qi ZK):=scmk (by kernel_rfl)
def jX:Rho->Option Out:=(sRet (evA (aC (Qh 2 (evR (aC (kd (.int 3)) aN) Z8) tT (evC 1 (aC (evC 2 (aC (vr 0) (aC (ev2 (vr 1) (vr 2) qW) aN)) qR) aN) QQ)) aN) JP))
def Zb (ds:List PyData):Option PyData:=ob (jX (rho0 jG.length ds)) outD
theorem WN (F:Fun K "_law_shift" "_law_shift" ZK f fd)(m:mg "_law_shift" = some (.ref f))(b:Binds K fd ["_law_script", "_law_at"] [])(K__law_offset:Known P w K mg base "_law_offset" 1 1 QQ)(K__law_cell_at:Known P w K mg base "_law_cell_at" 2 1 qR)(z_tuple:mg "tuple" = none)(z_range:mg "range" = none):Known P w K mg base "_law_shift" 2 2 Zb:=by
 refine ⟨f,fd,["_law_script", "_law_at"],F.pure (k:=1) (u:=jX) (M':=[]) jD.fs rfl (fun cdv A outer s H E hr G=>?_),m,F.kp,b⟩
 refine qt ?_
 refine qD ?_
 refine ZS yW (jD.gl 1 rfl rfl) z_tuple rfl ?_
 refine qb ?_ ?_
 refine Qn (CompOk.of (k:=1) jG ["_law_script", "_law_at", "_law_k"] (qi ZK) rfl rfl rfl (by decide +kernel)) rfl (by decide +kernel) ?_ (fun _ _ _ _ _ _=>?_) (fun _ _ _ _ _ _=>?_)
 refine QT (jD.gl 0 rfl rfl) z_range ?_
 refine qb ?_ ?_
 exact qe
 exact qg
 exact zM
 refine qp K__law_offset hr (by decide) (Qe (by decide +kernel)) ?_ rfl
 refine qb ?_ ?_
 refine qp K__law_cell_at hr (by decide) (Qe (by decide +kernel)) ?_ rfl
 refine qb ?_ ?_
 exact qd 0 (qw (by decide +kernel)) (by decide)
 refine qb ?_ ?_
 refine ql zm ?_ ?_
 exact qd 1 (qw (by decide +kernel)) (by decide)
 exact qd 2 (qw (by decide +kernel)) (by decide)
 exact qg
 exact qg
 exact qg
abbrev QG:Stmt:=top 35
abbrev Q8:List Str:=["_law_solid_here", "_law_low"]
theorem Qq:ScOk Q8 ["_law_solid_here"] ["range", "sorted"] (qi QG):=scmk (by kernel_rfl)
def jd:Rho->Option Out:=(seqO (sSet 1 (Qh 2 (evR (aC (kd (.int 3)) aN) Z8) tT (evA (aC (Qh 3 (evI (vr 0) seqD) tT (ev2 (vr 3) (vr 2) ixD)) aN) j9))) (sRet (evA (aC (Qh 2 (evI (vr 0) seqD) tT (evA (aC (ev2 (ev2 (vr 2) (kd (.int 0)) ixD) (ev2 (vr 1) (kd (.int 0)) ixD) subD) (aC (ev2 (ev2 (vr 2) (kd (.int 1)) ixD) (ev2 (vr 1) (kd (.int 1)) ixD) subD) (aC (ev2 (ev2 (vr 2) (kd (.int 2)) ixD) (ev2 (vr 1) (kd (.int 2)) ixD) subD) aN))) tupD)) aN) zH)))
def Qt (ds:List PyData):Option PyData:=ob (jd (rho0 Q8.length ds)) outD
theorem YD (F:Fun K "_law_lowered" "_law_lowered" QG f fd)(m:mg "_law_lowered" = some (.ref f))(b:Binds K fd ["_law_solid_here"] [])(z_range:mg "range" = none)(z_min:mg "min" = none)(z_sorted:mg "sorted" = none):Known P w K mg base "_law_lowered" 1 1 Qt:=by
 refine ⟨f,fd,["_law_solid_here"],F.pure (k:=0) (u:=jd) (M':=[]) Qq.fs rfl (fun cdv A outer s H E hr G=>?_),m,F.kp,b⟩
 refine qj (M1:=[]) ?_ ?_
 refine zj 1 ?_ ?_ ?_ ?_ ?_ ?_ ?_
 ·exact Qq.fs.nd
 ·exact (Qq.loc 1 rfl)
 ·rfl
 ·rfl
 ·exact .inl rfl
 ·decide
 refine Qn (CompOk.of (k:=1) Q8 ["_law_solid_here", "_law_low", "_law_k"] (qi QG) rfl rfl rfl (by decide +kernel)) rfl (by decide +kernel) ?_ (fun _ _ _ _ _ _=>?_) (fun _ _ _ _ _ _=>?_)
 refine QT (Qq.gl 0 rfl rfl) z_range ?_
 refine qb ?_ ?_
 exact qe
 exact qg
 exact zM
 refine zy (qa9 hr) (Qe (by decide +kernel)) z_min yt ?_
 refine qb ?_ ?_
 refine Qn (CompOk.of (k:=1) ["_law_solid_here", "_law_low", "_law_k"] ["_law_solid_here", "_law_low", "_law_k", "_law_cube"] _ rfl rfl rfl (by kernel_rfl)) rfl (by decide +kernel) ?_ (fun _ _ _ _ _ _=>?_) (fun _ _ _ _ _ _=>?_)
 refine zT ?_
 exact qd 0 (qw (by decide +kernel)) (by decide)
 exact zM
 refine qH ?_ ?_
 exact qd 3 (qw (by decide +kernel)) (by decide)
 exact qd 2 (qw (by decide +kernel)) (by decide)
 exact qg
 refine qt ?_
 refine qD ?_
 refine Z5 ?_
 refine Z6 (Z3 hr) (Qq.gl 1 rfl rfl) z_sorted Qv ?_
 refine qb ?_ ?_
 refine Qn (CompOk.of (k:=1) Q8 ["_law_solid_here", "_law_low", "_law_cube"] (qi QG) rfl rfl rfl (by decide +kernel)) rfl (by decide +kernel) ?_ (fun _ _ _ _ _ _=>?_) (fun _ _ _ _ _ _=>?_)
 refine zT ?_
 exact qd 0 (Qq.vis 0 rfl) (by decide)
 exact zM
 refine zN ?_
 refine qb ?_ ?_
 refine ql Zo ?_ ?_
 refine qH ?_ ?_
 exact qd 2 (qw (by decide +kernel)) (by decide)
 exact qe
 refine qH ?_ ?_
 exact qd 1 (qw (by decide +kernel)) (by decide)
 exact qe
 refine qb ?_ ?_
 refine ql Zo ?_ ?_
 refine qH ?_ ?_
 exact qd 2 (qw (by decide +kernel)) (by decide)
 exact qe
 refine qH ?_ ?_
 exact qd 1 (qw (by decide +kernel)) (by decide)
 exact qe
 refine qb ?_ ?_
 refine ql Zo ?_ ?_
 refine qH ?_ ?_
 exact qd 2 (qw (by decide +kernel)) (by decide)
 exact qe
 refine qH ?_ ?_
 exact qd 1 (qw (by decide +kernel)) (by decide)
 exact qe
 exact qg
 exact qg
abbrev ZJ:Stmt:=top 36
abbrev jF:List Str:=["_law_solid_here", "_law_best", "_law_k", "_law_telling"]
theorem qX:ScOk jF ["_law_solid_here"] ["_law_lowered", "range"] (qi ZJ):=scmk (by kernel_rfl)
def jV:Rho->Option Out:=(seqO (sSet 1 (kd .none)) (seqO (sFor (evR (aC (kd (.int 24)) aN) Z8) (gNm 2) (seqO (sSet 3 (evC 1 (aC (Qh 4 (evI (vr 0) seqD) tT (evC 3 (aC (evC 1 (aC (vr 2) aN) zA) (aC (evA (aC (kd (.int 0)) (aC (kd (.int 0)) (aC (kd (.int 0)) aN))) tupD) (aC (vr 4) aN))) qG)) aN) Qt)) (sIf (tO (tV (ev2 (vr 1) (kd .none) isD)) (tV (ev2 (vr 3) (vr 1) ltD2))) (sSet 1 (vr 3)) sN))) (sRet (vr 1))))
def QJ (ds:List PyData):Option PyData:=ob (jV (rho0 jF.length ds)) outD
theorem WK (F:Fun K "_law_least" "_law_least" ZJ f fd)(m:mg "_law_least" = some (.ref f))(b:Binds K fd ["_law_solid_here"] [])(K__law_lowered:Known P w K mg base "_law_lowered" 1 1 Qt)(K__law_cube_turned:Known P w K mg base "_law_cube_turned" 3 2 qG)(K__law_turn:Known P w K mg base "_law_turn" 1 2 zA)(z_range:mg "range" = none):Known P w K mg base "_law_least" 1 3 QJ:=by
 refine ⟨f,fd,["_law_solid_here"],F.pure (k:=2) (u:=jV) (M':=[]) qX.fs rfl (fun cdv A outer s H E hr G=>?_),m,F.kp,b⟩
 refine qj (M1:=[]) ?_ ?_
 refine zj 1 ?_ ?_ ?_ ?_ ?_ ?_ ?_
 ·exact qX.fs.nd
 ·exact (qX.loc 1 rfl)
 ·rfl
 ·rfl
 ·exact .inl rfl
 ·decide
 exact qbj
 refine qj (M1:=[]) ?_ ?_
 refine YX PassesOwn.never rfl ?_ ?_ ?_
 refine JM (qX.gl 1 rfl rfl) z_range ?_
 refine qb ?_ ?_
 exact qe
 exact qg
 exact za 2 qX.fs.nd (qX.loc 2 rfl) (by decide)
 refine qj (M1:=[]) ?_ ?_
 refine zj 3 ?_ ?_ ?_ ?_ ?_ ?_ ?_
 ·exact qX.fs.nd
 ·exact (qX.loc 3 rfl)
 ·rfl
 ·rfl
 ·exact .inl rfl
 ·decide
 refine qp K__law_lowered hr (by decide) (qX.gl 0 rfl rfl) ?_ rfl
 refine qb ?_ ?_
 refine Qn (CompOk.of (k:=1) jF ["_law_solid_here", "_law_best", "_law_k", "_law_telling", "_law_cube"] (qi ZJ) rfl rfl rfl (by decide +kernel)) rfl (by decide +kernel) ?_ (fun _ _ _ _ _ _=>?_) (fun _ _ _ _ _ _=>?_)
 refine zT ?_
 exact qd 0 (qX.vis 0 rfl) (by decide)
 exact zM
 refine qp K__law_cube_turned hr (by decide) (Qe (by decide +kernel)) ?_ rfl
 refine qb ?_ ?_
 refine qp K__law_turn hr (by decide) (Qe (by decide +kernel)) ?_ rfl
 refine qb ?_ ?_
 exact qd 2 (qw (by decide +kernel)) (by decide)
 exact qg
 refine qb ?_ ?_
 refine zN ?_
 refine qb ?_ ?_
 exact qe
 refine qb ?_ ?_
 exact qe
 refine qb ?_ ?_
 exact qe
 exact qg
 refine qb ?_ ?_
 exact qd 4 (qw (by decide +kernel)) (by decide)
 exact qg
 exact qg
 refine qt ?_
 refine zL ?_ ?_ ?_
 refine PDW.pdt ?_
 refine Zw ?_ ?_
 refine zc d_is ?_ ?_ (zF _)
 exact qd 1 (qX.vis 1 rfl) (by decide)
 exact qbj
 refine ZG ?_
 refine zc (qbH hr) ?_ ?_ (zF _)
 exact qd 3 (qX.vis 3 rfl) (by decide)
 exact qd 1 (qX.vis 1 rfl) (by decide)
 refine qt ?_
 refine zj 1 ?_ ?_ ?_ ?_ ?_ ?_ ?_
 ·exact qX.fs.nd
 ·exact (qX.loc 1 rfl)
 ·rfl
 ·rfl
 ·exact .inl rfl
 ·decide
 exact qd 3 (qX.vis 3 rfl) (by decide)
 exact zg
 refine qt ?_
 refine qD ?_
 exact qd 1 (qX.vis 1 rfl) (by decide)
abbrev Jc:Stmt:=top 37
abbrev yJ:List Str:=["_law_solid_here", "_law_cell", "_law_spots", "_law_a", "_law_b", "_law_c", "_law_x", "_law_y", "_law_z"]
theorem qz:ScOk yJ ["_law_solid_here", "_law_cell"] ["_law_units", "len", "sorted"] (qi Jc):=scmk (by kernel_rfl)
def Jg:Rho->Option Out:=(seqO (jC 2 (evA aN lstD)) (seqO (sFor (evI (vr 0) seqD) (unpD 3 (gsC (gNm 3) (gsC (gNm 4) (gsC (gNm 5) gsN)))) (sFor (evI (evC0 zG) seqD) (unpD 3 (gsC (gNm 6) (gsC (gNm 7) (gsC (gNm 8) gsN)))) (sIf (tV (ev2 (evA (aC (ev2 (vr 3) (vr 6) qW) (aC (ev2 (vr 4) (vr 7) qW) (aC (ev2 (vr 5) (vr 8) qW) aN))) tupD) (vr 0) ninD)) (sApp 2 (evA (aC (ev2 (vr 3) (vr 6) qW) (aC (ev2 (vr 4) (vr 7) qW) (aC (ev2 (vr 5) (vr 8) qW) aN))) tupD)) sN))) (sRet (evA (aC (ev2 (vr 0) (evA (aC (ev2 (vr 2) (ev2 (vr 1) (evA (aC (vr 2) aN) lenD) modD) ixD) aN) lstD) qW) aN) zH))))
def Zq (ds:List PyData):Option PyData:=ob (Jg (rho0 yJ.length ds)) outD
theorem qaC (F:Fun K "_law_more" "_law_more" Jc f fd)(m:mg "_law_more" = some (.ref f))(b:Binds K fd ["_law_solid_here", "_law_cell"] [])(K__law_units:Known P w K mg base "_law_units" 0 1 zG)(z_sorted:mg "sorted" = none)(z_len:mg "len" = none):Known P w K mg base "_law_more" 2 2 Zq:=by
 refine ⟨f,fd,["_law_solid_here", "_law_cell"],F.pure (k:=1) (u:=Jg) (M':=[]) qz.fs rfl (fun cdv A outer s H E hr G=>?_),m,F.kp,b⟩
 refine qj (M1:=[2]) ?_ ?_
 refine J7 2 ?_ ?_ ?_ ?_ ?_ ?_ ?_ ?_
 ·exact qz.fs.nd
 ·exact (qz.loc 2 rfl)
 ·rfl
 ·rfl
 ·exact .inl rfl
 ·decide
 ·decide
 refine W8 ?_
 exact qg
 refine qj (M1:=[2]) ?_ ?_
 refine jg PassesOwn.never rfl ?_ (fun _=>?_) (fun _=>?_)
 refine zT ?_
 exact qd 0 (qz.vis 0 rfl) (by decide)
 refine Jq rfl ?_
 refine zB ?_ ?_
 exact za 3 qz.fs.nd (qz.loc 3 rfl) (by decide)
 refine zB ?_ ?_
 exact za 4 qz.fs.nd (qz.loc 4 rfl) (by decide)
 refine zB ?_ ?_
 exact za 5 qz.fs.nd (qz.loc 5 rfl) (by decide)
 exact jA
 refine qt ?_
 refine jg PassesOwn.never rfl ?_ (fun _=>?_) (fun _=>?_)
 refine zT ?_
 exact ZV K__law_units hr (by decide) (qz.gl 0 rfl rfl)
 refine Jq rfl ?_
 refine zB ?_ ?_
 exact za 6 qz.fs.nd (qz.loc 6 rfl) (by decide)
 refine zB ?_ ?_
 exact za 7 qz.fs.nd (qz.loc 7 rfl) (by decide)
 refine zB ?_ ?_
 exact za 8 qz.fs.nd (qz.loc 8 rfl) (by decide)
 exact jA
 refine qt ?_
 refine zL ?_ ?_ ?_
 refine zc (Ws hr) ?_ ?_ rfl
 refine zN ?_
 refine qb ?_ ?_
 refine ql zm ?_ ?_
 exact qd 3 (qz.vis 3 rfl) (by decide)
 exact qd 6 (qz.vis 6 rfl) (by decide)
 refine qb ?_ ?_
 refine ql zm ?_ ?_
 exact qd 4 (qz.vis 4 rfl) (by decide)
 exact qd 7 (qz.vis 7 rfl) (by decide)
 refine qb ?_ ?_
 refine ql zm ?_ ?_
 exact qd 5 (qz.vis 5 rfl) (by decide)
 exact qd 8 (qz.vis 8 rfl) (by decide)
 exact qg
 exact qd 0 (qz.vis 0 rfl) (by decide)
 refine qt ?_
 refine Yh 2 (qz.vis 2 rfl) (by decide) (by decide) ?_
 refine zN ?_
 refine qb ?_ ?_
 refine ql zm ?_ ?_
 exact qd 3 (qz.vis 3 rfl) (by decide)
 exact qd 6 (qz.vis 6 rfl) (by decide)
 refine qb ?_ ?_
 refine ql zm ?_ ?_
 exact qd 4 (qz.vis 4 rfl) (by decide)
 exact qd 7 (qz.vis 7 rfl) (by decide)
 refine qb ?_ ?_
 refine ql zm ?_ ?_
 exact qd 5 (qz.vis 5 rfl) (by decide)
 exact qd 8 (qz.vis 8 rfl) (by decide)
 exact qg
 exact zg
 refine qt ?_
 refine qD ?_
 refine Z5 ?_
 refine Z6 (Z3 hr) (qz.gl 2 rfl rfl) z_sorted Qv ?_
 refine qb ?_ ?_
 refine ql zm ?_ ?_
 exact qd 0 (qz.vis 0 rfl) (by decide)
 refine JL ?_
 refine qb ?_ ?_
 refine qH ?_ ?_
 exact qd 2 (qz.vis 2 rfl) (by decide)
 refine ql Qo ?_ ?_
 exact qd 1 (qz.vis 1 rfl) (by decide)
 refine zy ZC (qz.gl 1 rfl rfl) z_len PySem.boot_len ?_
 refine qb ?_ ?_
 exact qd 2 (qz.vis 2 rfl) (by decide)
 exact qg
 exact qg
 exact qg
abbrev QK:Stmt:=top 38
abbrev ZD:List Str:=["_law_script", "_law_solid_here", "_law_cell", "_law_turn_here", "_law_shift_here", "_law_kept"]
theorem qm:ScOk ZD ["_law_script", "_law_solid_here"] ["_law_cell_at", "_law_turn", "_law_shift", "_law_steps", "_law_solid", "len", "max", "_law_more", "sorted"] (qi QK):=scmk (by kernel_rfl)
def zJ:Rho->Option Out:=(seqO (sSet 2 (evC 2 (aC (vr 0) (aC (kd (.int 0)) aN)) qR)) (seqO (sSet 3 (evC 1 (aC (evC 2 (aC (vr 0) (aC (kd (.int 1)) aN)) qR) aN) zA)) (seqO (sSet 4 (evC 2 (aC (vr 0) (aC (kd (.int 2)) aN)) Zb)) (seqO (sIf (tV (ev2 (ev2 (vr 2) (kd (.int 8)) modD) (kd (.int 5)) eqD)) (jC 1 (Qh 6 (evI (vr 1) seqD) tT (evA (aC (ev1 (ev2 (vr 6) (kd (.int 0)) ixD) negD) (aC (ev2 (vr 6) (kd (.int 1)) ixD) (aC (ev2 (vr 6) (kd (.int 2)) ixD) aN))) tupD))) sN) (seqO (sIf (tV (ev2 (ev2 (vr 2) (kd (.int 8)) modD) (kd (.int 6)) eqD)) (sSet 1 (evC 2 (aC (evC 3 (aC (vr 0) (aC (kd (.int 34)) (aC (kd (.int 36)) aN))) Qc) (aC (ev2 (kd (.int 1)) (ev2 (ev2 (vr 2) (kd (.int 8)) Q6) (kd (.int 6)) modD) qW) aN)) Ql)) sN) (seqO (sIf (tO (tV (ev2 (ev2 (vr 2) (kd (.int 8)) modD) (kd (.int 7)) eqD)) (tV (ev2 (ev2 (vr 2) (kd (.int 8)) modD) (kd (.int 4)) eqD))) (seqO (sSet 5 (evC 2 (aC (evC 3 (aC (vr 0) (aC (kd (.int 6)) (aC (kd (.int 36)) aN))) Qc) (aC (evA (aC (kd (.int 1)) (aC (ev2 (evA (aC (vr 1) aN) lenD) (kd (.int 1)) subD) aN)) YL) aN)) Ql)) (sSet 1 (evC 2 (aC (vr 5) (aC (ev2 (vr 2) (kd (.int 8)) Q6) aN)) Zq))) sN) (sRet (evA (aC (Qh 6 (evI (vr 1) seqD) tT (evC 3 (aC (vr 3) (aC (vr 4) (aC (vr 6) aN))) qG)) aN) zH))))))))
def ZF (ds:List PyData):Option PyData:=ob (zJ (rho0 ZD.length ds)) outD
theorem WM (F:Fun K "_law_other" "_law_other" QK f fd)(m:mg "_law_other" = some (.ref f))(b:Binds K fd ["_law_script", "_law_solid_here"] [])(K__law_cell_at:Known P w K mg base "_law_cell_at" 2 1 qR)(K__law_turn:Known P w K mg base "_law_turn" 1 2 zA)(K__law_shift:Known P w K mg base "_law_shift" 2 2 Zb)(K__law_solid:Known P w K mg base "_law_solid" 2 2 Ql)(K__law_steps:Known P w K mg base "_law_steps" 3 2 Qc)(K__law_more:Known P w K mg base "_law_more" 2 2 Zq)(K__law_cube_turned:Known P w K mg base "_law_cube_turned" 3 2 qG)(z_max:mg "max" = none)(z_len:mg "len" = none)(z_sorted:mg "sorted" = none):Known P w K mg base "_law_other" 2 3 ZF:=by
 refine ⟨f,fd,["_law_script", "_law_solid_here"],F.pure (k:=2) (u:=zJ) (M':=[]) qm.fs rfl (fun cdv A outer s H E hr G=>?_),m,F.kp,b⟩
 refine qj (M1:=[]) ?_ ?_
 refine zj 2 ?_ ?_ ?_ ?_ ?_ ?_ ?_
 ·exact qm.fs.nd
 ·exact (qm.loc 2 rfl)
 ·rfl
 ·rfl
 ·exact .inl rfl
 ·decide
 refine qp K__law_cell_at hr (by decide) (qm.gl 0 rfl rfl) ?_ rfl
 refine qb ?_ ?_
 exact qd 0 (qm.vis 0 rfl) (by decide)
 refine qb ?_ ?_
 exact qe
 exact qg
 refine qj (M1:=[]) ?_ ?_
 refine zj 3 ?_ ?_ ?_ ?_ ?_ ?_ ?_
 ·exact qm.fs.nd
 ·exact (qm.loc 3 rfl)
 ·rfl
 ·rfl
 ·exact .inl rfl
 ·decide
 refine qp K__law_turn hr (by decide) (qm.gl 1 rfl rfl) ?_ rfl
 refine qb ?_ ?_
 refine qp K__law_cell_at hr (by decide) (qm.gl 0 rfl rfl) ?_ rfl
 refine qb ?_ ?_
 exact qd 0 (qm.vis 0 rfl) (by decide)
 refine qb ?_ ?_
 exact qe
 exact qg
 exact qg
 refine qj (M1:=[]) ?_ ?_
 refine zj 4 ?_ ?_ ?_ ?_ ?_ ?_ ?_
 ·exact qm.fs.nd
 ·exact (qm.loc 4 rfl)
 ·rfl
 ·rfl
 ·exact .inl rfl
 ·decide
 refine qp K__law_shift hr (by decide) (qm.gl 2 rfl rfl) ?_ rfl
 refine qb ?_ ?_
 exact qd 0 (qm.vis 0 rfl) (by decide)
 refine qb ?_ ?_
 exact qe
 exact qg
 refine qj (M1:=[]) ?_ ?_
 refine zL ?_ ?_ ?_
 refine zc (d_eq hr) ?_ ?_ (zF _)
 refine ql Qo ?_ ?_
 exact qd 2 (qm.vis 2 rfl) (by decide)
 exact qe
 exact qe
 refine qdQ (M':=[1]) [] ?_ ?_ ?_
 refine qt ?_
 refine qaT 1 (CompOk.of (k:=1) ZD ["_law_script", "_law_solid_here", "_law_cell", "_law_turn_here", "_law_shift_here", "_law_kept", "_law_cube"] (qi QK) rfl rfl rfl (by decide +kernel)) rfl (by decide +kernel) (qi QK) rfl (by decide +kernel) (by decide) (by decide) ?_ (fun _ _ _ _ _ _=>?_) (fun _ _ _ _ _ _=>?_)
 refine zT ?_
 exact qd 1 (qm.vis 1 rfl) (by decide)
 exact zM
 refine zN ?_
 refine qb ?_ ?_
 refine qaS qas ?_
 refine qH ?_ ?_
 exact qd 6 (qw (by decide +kernel)) (by decide)
 exact qe
 refine qb ?_ ?_
 refine qH ?_ ?_
 exact qd 6 (qw (by decide +kernel)) (by decide)
 exact qe
 refine qb ?_ ?_
 refine qH ?_ ?_
 exact qd 6 (qw (by decide +kernel)) (by decide)
 exact qe
 exact qg
 ·rfl
 ·rfl
 exact zg
 refine qj (M1:=[]) ?_ ?_
 refine zL ?_ ?_ ?_
 refine zc (d_eq hr) ?_ ?_ (zF _)
 refine ql Qo ?_ ?_
 exact qd 2 (qm.vis 2 rfl) (by decide)
 exact qe
 exact qe
 refine qt ?_
 refine zj 1 ?_ ?_ ?_ ?_ ?_ ?_ ?_
 ·exact qm.fs.nd
 ·exact (qm.loc 1 rfl)
 ·rfl
 ·rfl
 ·exact .inl rfl
 ·decide
 refine qp K__law_solid hr (by decide) (qm.gl 4 rfl rfl) ?_ rfl
 refine qb ?_ ?_
 refine qp K__law_steps hr (by decide) (qm.gl 3 rfl rfl) ?_ rfl
 refine qb ?_ ?_
 exact qd 0 (qm.vis 0 rfl) (by decide)
 refine qb ?_ ?_
 exact qe
 refine qb ?_ ?_
 exact qe
 exact qg
 refine qb ?_ ?_
 refine ql zm ?_ ?_
 exact qe
 refine ql Qo ?_ ?_
 refine ql Q9 ?_ ?_
 exact qd 2 (qm.vis 2 rfl) (by decide)
 exact qe
 exact qe
 exact qg
 exact zg
 refine qj (M1:=[]) ?_ ?_
 refine zL ?_ ?_ ?_
 refine PDW.pdt ?_
 refine Zw ?_ ?_
 refine zc (d_eq hr) ?_ ?_ (zF _)
 refine ql Qo ?_ ?_
 exact qd 2 (qm.vis 2 rfl) (by decide)
 exact qe
 exact qe
 refine ZG ?_
 refine zc (d_eq hr) ?_ ?_ (zF _)
 refine ql Qo ?_ ?_
 exact qd 2 (qm.vis 2 rfl) (by decide)
 exact qe
 exact qe
 refine qj (M1:=[]) ?_ ?_
 refine zj 5 ?_ ?_ ?_ ?_ ?_ ?_ ?_
 ·exact qm.fs.nd
 ·exact (qm.loc 5 rfl)
 ·rfl
 ·rfl
 ·exact .inl rfl
 ·decide
 refine qp K__law_solid hr (by decide) (qm.gl 4 rfl rfl) ?_ rfl
 refine qb ?_ ?_
 refine qp K__law_steps hr (by decide) (qm.gl 3 rfl rfl) ?_ rfl
 refine qb ?_ ?_
 exact qd 0 (qm.vis 0 rfl) (by decide)
 refine qb ?_ ?_
 exact qe
 refine qb ?_ ?_
 exact qe
 exact qg
 refine qb ?_ ?_
 refine zy (qeo hr) (qm.gl 6 rfl rfl) z_max qcj ?_
 refine qb ?_ ?_
 exact qe
 refine qb ?_ ?_
 refine ql Zo ?_ ?_
 refine zy ZC (qm.gl 5 rfl rfl) z_len PySem.boot_len ?_
 refine qb ?_ ?_
 exact qd 1 (qm.vis 1 rfl) (by decide)
 exact qg
 exact qe
 exact qg
 exact qg
 refine qt ?_
 refine zj 1 ?_ ?_ ?_ ?_ ?_ ?_ ?_
 ·exact qm.fs.nd
 ·exact (qm.loc 1 rfl)
 ·rfl
 ·rfl
 ·exact .inl rfl
 ·decide
 refine qp K__law_more hr (by decide) (qm.gl 7 rfl rfl) ?_ rfl
 refine qb ?_ ?_
 exact qd 5 (qm.vis 5 rfl) (by decide)
 refine qb ?_ ?_
 refine ql Q9 ?_ ?_
 exact qd 2 (qm.vis 2 rfl) (by decide)
 exact qe
 exact qg
 exact zg
 refine qt ?_
 refine qD ?_
 refine Z5 ?_
 refine Z6 (Z3 hr) (qm.gl 8 rfl rfl) z_sorted Qv ?_
 refine qb ?_ ?_
 refine Qn (CompOk.of (k:=1) ZD ["_law_script", "_law_solid_here", "_law_cell", "_law_turn_here", "_law_shift_here", "_law_kept", "_law_cube"] (qi QK) rfl rfl rfl (by decide +kernel)) rfl (by decide +kernel) ?_ (fun _ _ _ _ _ _=>?_) (fun _ _ _ _ _ _=>?_)
 refine zT ?_
 exact qd 1 (qm.vis 1 rfl) (by decide)
 exact zM
 refine qp K__law_cube_turned hr (by decide) (Qe (by decide +kernel)) ?_ rfl
 refine qb ?_ ?_
 exact qd 3 (qw (by decide +kernel)) (by decide)
 refine qb ?_ ?_
 exact qd 4 (qw (by decide +kernel)) (by decide)
 refine qb ?_ ?_
 exact qd 6 (qw (by decide +kernel)) (by decide)
 exact qg
 exact qg
abbrev QF:Stmt:=top 39
abbrev Q7:List Str:=["_law_found", "_law_one", "_law_other_here", "_law_turn_here", "_law_unit"]
theorem qu:ScOk Q7 ["_law_found", "_law_one", "_law_other_here"] ["isinstance", "tuple", "len", "range", "_law_triple", "sorted"] (qi QF):=scmk (by kernel_rfl)
def jc:Rho->Option Out:=(seqO (sIf (tO (tN (tV (ev1 (vr 0) (isiD "tuple")))) (tO (tV (ev2 (evA (aC (vr 0) aN) lenD) (kd (.int 3)) neD)) (tV (ev2 (ev2 (vr 0) (kd (.int 0)) ixD) (kd (.str "same")) neD)))) (sRet (kd (.bool false))) sN) (seqO (sSet 3 (ev2 (vr 0) (kd (.int 1)) ixD)) (seqO (sIf (tO (tN (tV (ev1 (vr 3) (isiD "tuple")))) (tO (tV (ev2 (evA (aC (vr 3) aN) lenD) (kd (.int 3)) neD)) (tV (ev2 (vr 3) (Qh 5 (evR (aC (kd (.int 24)) aN) Z8) tT (evC 1 (aC (vr 5) aN) zA)) ninD)))) (sRet (kd (.bool false))) sN) (seqO (sFor (evI (vr 3) seqD) (gNm 4) (sIf (tN (tV (evC 2 (aC (vr 4) (aC (vr 4) aN)) zq))) (sRet (kd (.bool false))) sN)) (seqO (sIf (tO (tN (tV (evC 2 (aC (ev2 (vr 0) (kd (.int 2)) ixD) (aC (ev2 (vr 0) (kd (.int 2)) ixD) aN)) zq))) (tV (ev2 (evA (aC (ev2 (vr 0) (kd (.int 2)) ixD) aN) lenD) (kd (.int 3)) neD))) (sRet (kd (.bool false))) sN) (sRet (ev2 (evA (aC (Qh 5 (evI (vr 1) seqD) tT (evC 3 (aC (vr 3) (aC (ev2 (vr 0) (kd (.int 2)) ixD) (aC (vr 5) aN))) qG)) aN) zH) (vr 2) eqD)))))))
def Qs (ds:List PyData):Option PyData:=ob (jc (rho0 Q7.length ds)) outD
theorem YC (F:Fun K "_law_is_same" "_law_is_same" QF f fd)(m:mg "_law_is_same" = some (.ref f))(b:Binds K fd ["_law_found", "_law_one", "_law_other_here"] [])(K__law_turn:Known P w K mg base "_law_turn" 1 2 zA)(K__law_triple:Known P w K mg base "_law_triple" 2 2 zq)(K__law_cube_turned:Known P w K mg base "_law_cube_turned" 3 2 qG)(z_isinstance:mg "isinstance" = none)(z_tuple:mg "tuple" = none)(z_len:mg "len" = none)(z_range:mg "range" = none)(z_sorted:mg "sorted" = none):Known P w K mg base "_law_is_same" 3 3 Qs:=by
 refine ⟨f,fd,["_law_found", "_law_one", "_law_other_here"],F.pure (k:=2) (u:=jc) (M':=[]) qu.fs rfl (fun cdv A outer s H E hr G=>?_),m,F.kp,b⟩
 refine qj (M1:=[]) ?_ ?_
 refine zL ?_ ?_ ?_
 refine PDW.pdt ?_
 refine Zw ?_ ?_
 refine QC ?_
 refine Qy ?_
 refine Z4 (T := "tuple") (kit_tuple _) (qu.gl 0 rfl rfl) z_isinstance (qu.gl 1 rfl rfl) z_tuple rfl rfl ?_
 exact qd 0 (qu.vis 0 rfl) (by decide)
 refine Zw ?_ ?_
 refine zc (d_ne hr) ?_ ?_ (zF _)
 refine zy ZC (qu.gl 2 rfl rfl) z_len PySem.boot_len ?_
 refine qb ?_ ?_
 exact qd 0 (qu.vis 0 rfl) (by decide)
 exact qg
 exact qe
 refine ZG ?_
 refine zc (d_ne hr) ?_ ?_ (zF _)
 refine qH ?_ ?_
 exact qd 0 (qu.vis 0 rfl) (by decide)
 exact qe
 exact W7
 refine qt ?_
 refine qD ?_
 exact Zr
 exact zg
 refine qj (M1:=[]) ?_ ?_
 refine zj 3 ?_ ?_ ?_ ?_ ?_ ?_ ?_
 ·exact qu.fs.nd
 ·exact (qu.loc 3 rfl)
 ·rfl
 ·rfl
 ·exact .inl rfl
 ·decide
 refine qH ?_ ?_
 exact qd 0 (qu.vis 0 rfl) (by decide)
 exact qe
 refine qj (M1:=[]) ?_ ?_
 refine zL ?_ ?_ ?_
 refine PDW.pdt ?_
 refine Zw ?_ ?_
 refine QC ?_
 refine Qy ?_
 refine Z4 (T := "tuple") (kit_tuple _) (qu.gl 0 rfl rfl) z_isinstance (qu.gl 1 rfl rfl) z_tuple rfl rfl ?_
 exact qd 3 (qu.vis 3 rfl) (by decide)
 refine Zw ?_ ?_
 refine zc (d_ne hr) ?_ ?_ (zF _)
 refine zy ZC (qu.gl 2 rfl rfl) z_len PySem.boot_len ?_
 refine qb ?_ ?_
 exact qd 3 (qu.vis 3 rfl) (by decide)
 exact qg
 exact qe
 refine ZG ?_
 refine zc (Ws hr) ?_ ?_ rfl
 exact qd 3 (qu.vis 3 rfl) (by decide)
 refine Qn (CompOk.of (k:=1) Q7 ["_law_found", "_law_one", "_law_other_here", "_law_turn_here", "_law_unit", "_law_k"] (qi QF) rfl rfl rfl (by decide +kernel)) rfl (by decide +kernel) ?_ (fun _ _ _ _ _ _=>?_) (fun _ _ _ _ _ _=>?_)
 refine QT (qu.gl 3 rfl rfl) z_range ?_
 refine qb ?_ ?_
 exact qe
 exact qg
 exact zM
 refine qp K__law_turn hr (by decide) (Qe (by decide +kernel)) ?_ rfl
 refine qb ?_ ?_
 exact qd 5 (qw (by decide +kernel)) (by decide)
 exact qg
 refine qt ?_
 refine qD ?_
 exact Zr
 exact zg
 refine qj (M1:=[]) ?_ ?_
 refine jg PassesOwn.never rfl ?_ (fun _=>?_) (fun _=>?_)
 refine zT ?_
 exact qd 3 (qu.vis 3 rfl) (by decide)
 exact za 4 qu.fs.nd (qu.loc 4 rfl) (by decide)
 refine qt ?_
 refine zL ?_ ?_ ?_
 refine QC ?_
 refine Qy ?_
 refine qp K__law_triple hr (by decide) (qu.gl 4 rfl rfl) ?_ rfl
 refine qb ?_ ?_
 exact qd 4 (qu.vis 4 rfl) (by decide)
 refine qb ?_ ?_
 exact qd 4 (qu.vis 4 rfl) (by decide)
 exact qg
 refine qt ?_
 refine qD ?_
 exact Zr
 exact zg
 refine qj (M1:=[]) ?_ ?_
 refine zL ?_ ?_ ?_
 refine PDW.pdt ?_
 refine Zw ?_ ?_
 refine QC ?_
 refine Qy ?_
 refine qp K__law_triple hr (by decide) (qu.gl 4 rfl rfl) ?_ rfl
 refine qb ?_ ?_
 refine qH ?_ ?_
 exact qd 0 (qu.vis 0 rfl) (by decide)
 exact qe
 refine qb ?_ ?_
 refine qH ?_ ?_
 exact qd 0 (qu.vis 0 rfl) (by decide)
 exact qe
 exact qg
 refine ZG ?_
 refine zc (d_ne hr) ?_ ?_ (zF _)
 refine zy ZC (qu.gl 2 rfl rfl) z_len PySem.boot_len ?_
 refine qb ?_ ?_
 refine qH ?_ ?_
 exact qd 0 (qu.vis 0 rfl) (by decide)
 exact qe
 exact qg
 exact qe
 refine qt ?_
 refine qD ?_
 exact Zr
 exact zg
 refine qt ?_
 refine qD ?_
 refine W6 (d_eq hr) ?_ ?_ (zF _)
 refine Z5 ?_
 refine Z6 (Z3 hr) (qu.gl 5 rfl rfl) z_sorted Qv ?_
 refine qb ?_ ?_
 refine Qn (CompOk.of (k:=1) Q7 ["_law_found", "_law_one", "_law_other_here", "_law_turn_here", "_law_unit", "_law_cube"] (qi QF) rfl rfl rfl (by decide +kernel)) rfl (by decide +kernel) ?_ (fun _ _ _ _ _ _=>?_) (fun _ _ _ _ _ _=>?_)
 refine zT ?_
 exact qd 1 (qu.vis 1 rfl) (by decide)
 exact zM
 refine qp K__law_cube_turned hr (by decide) (Qe (by decide +kernel)) ?_ rfl
 refine qb ?_ ?_
 exact qd 3 (qw (by decide +kernel)) (by decide)
 refine qb ?_ ?_
 refine qH ?_ ?_
 exact qd 0 (qw (by decide +kernel)) (by decide)
 exact qe
 refine qb ?_ ?_
 exact qd 5 (qw (by decide +kernel)) (by decide)
 exact qg
 exact qg
 exact qd 2 (qu.vis 2 rfl) (by decide)
abbrev yf:Stmt:=top 40
abbrev qbs:List Str:=["_law_script", "_law_one", "_law_other_here", "_law_least_here", "_law_handed", "_law_found"]
theorem qO:ScOk qbs ["_law_script"] ["_law_most", "_law_steps", "_law_solid", "_law_other", "_law_least", "list", "least_solid", "_law_cubes_alike", "same_solids", "isinstance", "tuple", "len", "_law_cell_at", "_law_is_same"] (qi yf):=scmk (by kernel_rfl)
def Wj:Rho->Option Out:=(seqO (sSet 1 (evC 2 (aC (evC 3 (aC (vr 0) (aC (kd (.int 6)) (aC (kd (.int 36)) aN))) Qc) (aC (evC 3 (aC (vr 0) (aC (kd (.int 6)) (aC (kd (.int 6)) aN))) Q3) aN)) Ql)) (seqO (sSet 2 (evC 2 (aC (vr 0) (aC (vr 1) aN)) ZF)) (seqO (sSet 3 (evA (aC (evC 1 (aC (vr 1) aN) QJ) (aC (evC 1 (aC (vr 2) aN) QJ) aN)) lstD)) (seqO (sSet 4 (evA (aC (evA (aC (vr 1) aN) wY) (aC (evA (aC (vr 2) aN) wY) aN)) lstD)) (seqO (sIf (tN (tV (evC 2 (aC (evC 1 (aC (ev2 (vr 4) (kd (.int 0)) ixD) aN) zO) (aC (ev2 (vr 3) (kd (.int 0)) ixD) aN)) zu))) (sRet (kd (.bool false))) sN) (seqO (sIf (tN (tV (evC 2 (aC (evC 1 (aC (ev2 (vr 4) (kd (.int 1)) ixD) aN) zO) (aC (ev2 (vr 3) (kd (.int 1)) ixD) aN)) zu))) (sRet (kd (.bool false))) sN) (seqO (sSet 5 (evC 2 (aC (ev2 (vr 4) (kd (.int 0)) ixD) (aC (ev2 (vr 4) (kd (.int 1)) ixD) aN)) Qf)) (seqO (sIf (tO (tV (ev2 (vr 4) (evA (aC (vr 1) (aC (vr 2) aN)) lstD) neD)) (tO (tN (tV (ev1 (vr 5) (isiD "tuple")))) (tV (ev2 (evA (aC (vr 5) aN) lenD) (kd (.int 3)) neD)))) (sRet (kd (.bool false))) sN) (seqO (sIf (tA (tV (ev2 (ev2 (evC 2 (aC (vr 0) (aC (kd (.int 0)) aN)) qR) (kd (.int 8)) modD) (kd (.int 4)) ltD2)) (tV (ev2 (ev2 (vr 3) (kd (.int 0)) ixD) (ev2 (vr 3) (kd (.int 1)) ixD) neD))) (sRet (kd (.bool false))) sN) (seqO (sIf (tV (ev2 (ev2 (vr 3) (kd (.int 0)) ixD) (ev2 (vr 3) (kd (.int 1)) ixD) eqD)) (sRet (vA (evC 3 (aC (vr 5) (aC (vr 1) (aC (vr 2) aN))) Qs) (evC 3 (aC (evC 2 (aC (ev2 (vr 4) (kd (.int 1)) ixD) (aC (ev2 (vr 4) (kd (.int 0)) ixD) aN)) Qf) (aC (vr 2) (aC (vr 1) aN))) Qs))) sN) (seqO (sIf (tV (ev2 (ev2 (vr 5) (kd (.int 0)) ixD) (kd (.str "unlike")) neD)) (sRet (kd (.bool false))) sN) (sRet (vA (evC 2 (aC (ev2 (vr 5) (kd (.int 1)) ixD) (aC (ev2 (vr 3) (kd (.int 0)) ixD) aN)) zu) (evC 2 (aC (ev2 (vr 5) (kd (.int 2)) ixD) (aC (ev2 (vr 3) (kd (.int 1)) ixD) aN)) zu))))))))))))))
def qbN (ds:List PyData):Option PyData:=ob (Wj (rho0 qbs.length ds)) outD
theorem qgU (F:Fun K "law" "law" yf f fd)(K__law_solid:Known P w K mg base "_law_solid" 2 2 Ql)(K__law_most:Known P w K mg base "_law_most" 3 2 Q3)(K__law_steps:Known P w K mg base "_law_steps" 3 2 Qc)(K__law_other:Known P w K mg base "_law_other" 2 3 ZF)(K__law_least:Known P w K mg base "_law_least" 1 3 QJ)(K__law_cubes_alike:Known P w K mg base "_law_cubes_alike" 2 3 zu)(K_least_solid:Known P w K mg base "least_solid" 1 5 zO)(K_same_solids:Known P w K mg base "same_solids" 2 6 Qf)(K__law_cell_at:Known P w K mg base "_law_cell_at" 2 1 qR)(K__law_is_same:Known P w K mg base "_law_is_same" 3 3 Qs)(z_list:mg "list" = none)(z_isinstance:mg "isinstance" = none)(z_tuple:mg "tuple" = none)(z_len:mg "len" = none):FnOk P w K mg base CX0 7 f fd ["_law_script"] (spF K 1 qbN):=by
 refine F.pure (k:=6) (u:=Wj) (M':=[]) qO.fs rfl (fun cdv A outer s H E hr G=>?_)
 refine qj (M1:=[]) ?_ ?_
 refine zj 1 ?_ ?_ ?_ ?_ ?_ ?_ ?_
 ·exact qO.fs.nd
 ·exact (qO.loc 1 rfl)
 ·rfl
 ·rfl
 ·exact .inl rfl
 ·decide
 refine qp K__law_solid hr (by decide) (qO.gl 2 rfl rfl) ?_ rfl
 refine qb ?_ ?_
 refine qp K__law_steps hr (by decide) (qO.gl 1 rfl rfl) ?_ rfl
 refine qb ?_ ?_
 exact qd 0 (qO.vis 0 rfl) (by decide)
 refine qb ?_ ?_
 exact qe
 refine qb ?_ ?_
 exact qe
 exact qg
 refine qb ?_ ?_
 refine qp K__law_most hr (by decide) (qO.gl 0 rfl rfl) ?_ rfl
 refine qb ?_ ?_
 exact qd 0 (qO.vis 0 rfl) (by decide)
 refine qb ?_ ?_
 exact qe
 refine qb ?_ ?_
 exact qe
 exact qg
 exact qg
 refine qj (M1:=[]) ?_ ?_
 refine zj 2 ?_ ?_ ?_ ?_ ?_ ?_ ?_
 ·exact qO.fs.nd
 ·exact (qO.loc 2 rfl)
 ·rfl
 ·rfl
 ·exact .inl rfl
 ·decide
 refine qp K__law_other hr (by decide) (qO.gl 3 rfl rfl) ?_ rfl
 refine qb ?_ ?_
 exact qd 0 (qO.vis 0 rfl) (by decide)
 refine qb ?_ ?_
 exact qd 1 (qO.vis 1 rfl) (by decide)
 exact qg
 refine qj (M1:=[]) ?_ ?_
 refine zj 3 ?_ ?_ ?_ ?_ ?_ ?_ ?_
 ·exact qO.fs.nd
 ·exact (qO.loc 3 rfl)
 ·rfl
 ·rfl
 ·exact .inl rfl
 ·decide
 refine JL ?_
 refine qb ?_ ?_
 refine qp K__law_least hr (by decide) (qO.gl 4 rfl rfl) ?_ rfl
 refine qb ?_ ?_
 exact qd 1 (qO.vis 1 rfl) (by decide)
 exact qg
 refine qb ?_ ?_
 refine qp K__law_least hr (by decide) (qO.gl 4 rfl rfl) ?_ rfl
 refine qb ?_ ?_
 exact qd 2 (qO.vis 2 rfl) (by decide)
 exact qg
 exact qg
 refine qj (M1:=[]) ?_ ?_
 refine zj 4 ?_ ?_ ?_ ?_ ?_ ?_ ?_
 ·exact qO.fs.nd
 ·exact (qO.loc 4 rfl)
 ·rfl
 ·rfl
 ·exact .inl rfl
 ·decide
 refine JL ?_
 refine qb ?_ ?_
 refine ZS qcY (qO.gl 5 rfl rfl) z_list rfl ?_
 refine qb ?_ ?_
 exact qd 1 (qO.vis 1 rfl) (by decide)
 exact qg
 refine qb ?_ ?_
 refine ZS qcY (qO.gl 5 rfl rfl) z_list rfl ?_
 refine qb ?_ ?_
 exact qd 2 (qO.vis 2 rfl) (by decide)
 exact qg
 exact qg
 refine qj (M1:=[]) ?_ ?_
 refine zL ?_ ?_ ?_
 refine QC ?_
 refine Qy ?_
 refine qp K__law_cubes_alike hr (by decide) (qO.gl 7 rfl rfl) ?_ rfl
 refine qb ?_ ?_
 refine qp K_least_solid hr (by decide) (qO.gl 6 rfl rfl) ?_ rfl
 refine qb ?_ ?_
 refine qH ?_ ?_
 exact qd 4 (qO.vis 4 rfl) (by decide)
 exact qe
 exact qg
 refine qb ?_ ?_
 refine qH ?_ ?_
 exact qd 3 (qO.vis 3 rfl) (by decide)
 exact qe
 exact qg
 refine qt ?_
 refine qD ?_
 exact Zr
 exact zg
 refine qj (M1:=[]) ?_ ?_
 refine zL ?_ ?_ ?_
 refine QC ?_
 refine Qy ?_
 refine qp K__law_cubes_alike hr (by decide) (qO.gl 7 rfl rfl) ?_ rfl
 refine qb ?_ ?_
 refine qp K_least_solid hr (by decide) (qO.gl 6 rfl rfl) ?_ rfl
 refine qb ?_ ?_
 refine qH ?_ ?_
 exact qd 4 (qO.vis 4 rfl) (by decide)
 exact qe
 exact qg
 refine qb ?_ ?_
 refine qH ?_ ?_
 exact qd 3 (qO.vis 3 rfl) (by decide)
 exact qe
 exact qg
 refine qt ?_
 refine qD ?_
 exact Zr
 exact zg
 refine qj (M1:=[]) ?_ ?_
 refine zj 5 ?_ ?_ ?_ ?_ ?_ ?_ ?_
 ·exact qO.fs.nd
 ·exact (qO.loc 5 rfl)
 ·rfl
 ·rfl
 ·exact .inl rfl
 ·decide
 refine qp K_same_solids hr (by decide) (qO.gl 8 rfl rfl) ?_ rfl
 refine qb ?_ ?_
 refine qH ?_ ?_
 exact qd 4 (qO.vis 4 rfl) (by decide)
 exact qe
 refine qb ?_ ?_
 refine qH ?_ ?_
 exact qd 4 (qO.vis 4 rfl) (by decide)
 exact qe
 exact qg
 refine qj (M1:=[]) ?_ ?_
 refine zL ?_ ?_ ?_
 refine PDW.pdt ?_
 refine Zw ?_ ?_
 refine zc (d_ne hr) ?_ ?_ (zF _)
 exact qd 4 (qO.vis 4 rfl) (by decide)
 refine JL ?_
 refine qb ?_ ?_
 exact qd 1 (qO.vis 1 rfl) (by decide)
 refine qb ?_ ?_
 exact qd 2 (qO.vis 2 rfl) (by decide)
 exact qg
 refine Zw ?_ ?_
 refine QC ?_
 refine Qy ?_
 refine Z4 (T := "tuple") (kit_tuple _) (qO.gl 9 rfl rfl) z_isinstance (qO.gl 10 rfl rfl) z_tuple rfl rfl ?_
 exact qd 5 (qO.vis 5 rfl) (by decide)
 refine ZG ?_
 refine zc (d_ne hr) ?_ ?_ (zF _)
 refine zy ZC (qO.gl 11 rfl rfl) z_len PySem.boot_len ?_
 refine qb ?_ ?_
 exact qd 5 (qO.vis 5 rfl) (by decide)
 exact qg
 exact qe
 refine qt ?_
 refine qD ?_
 exact Zr
 exact zg
 refine qj (M1:=[]) ?_ ?_
 refine zL ?_ ?_ ?_
 refine PDW.pdt ?_
 refine qbZ ?_ ?_
 refine zc (qbH hr) ?_ ?_ (zF _)
 refine ql Qo ?_ ?_
 refine qp K__law_cell_at hr (by decide) (qO.gl 12 rfl rfl) ?_ rfl
 refine qb ?_ ?_
 exact qd 0 (qO.vis 0 rfl) (by decide)
 refine qb ?_ ?_
 exact qe
 exact qg
 exact qe
 exact qe
 refine qaV ?_
 refine zc (d_ne hr) ?_ ?_ (zF _)
 refine qH ?_ ?_
 exact qd 3 (qO.vis 3 rfl) (by decide)
 exact qe
 refine qH ?_ ?_
 exact qd 3 (qO.vis 3 rfl) (by decide)
 exact qe
 refine qt ?_
 refine qD ?_
 exact Zr
 exact zg
 refine qj (M1:=[]) ?_ ?_
 refine zL ?_ ?_ ?_
 refine zc (d_eq hr) ?_ ?_ (zF _)
 refine qH ?_ ?_
 exact qd 3 (qO.vis 3 rfl) (by decide)
 exact qe
 refine qH ?_ ?_
 exact qd 3 (qO.vis 3 rfl) (by decide)
 exact qe
 refine qt ?_
 refine qD ?_
 refine YQ ?_ ?_
 refine qp K__law_is_same hr (by decide) (qO.gl 13 rfl rfl) ?_ rfl
 refine qb ?_ ?_
 exact qd 5 (qO.vis 5 rfl) (by decide)
 refine qb ?_ ?_
 exact qd 1 (qO.vis 1 rfl) (by decide)
 refine qb ?_ ?_
 exact qd 2 (qO.vis 2 rfl) (by decide)
 exact qg
 refine YT ?_
 refine qp K__law_is_same hr (by decide) (qO.gl 13 rfl rfl) ?_ rfl
 refine qb ?_ ?_
 refine qp K_same_solids hr (by decide) (qO.gl 8 rfl rfl) ?_ rfl
 refine qb ?_ ?_
 refine qH ?_ ?_
 exact qd 4 (qO.vis 4 rfl) (by decide)
 exact qe
 refine qb ?_ ?_
 refine qH ?_ ?_
 exact qd 4 (qO.vis 4 rfl) (by decide)
 exact qe
 exact qg
 refine qb ?_ ?_
 exact qd 2 (qO.vis 2 rfl) (by decide)
 refine qb ?_ ?_
 exact qd 1 (qO.vis 1 rfl) (by decide)
 exact qg
 exact zg
 refine qj (M1:=[]) ?_ ?_
 refine zL ?_ ?_ ?_
 refine zc (d_ne hr) ?_ ?_ (zF _)
 refine qH ?_ ?_
 exact qd 5 (qO.vis 5 rfl) (by decide)
 exact qe
 exact W7
 refine qt ?_
 refine qD ?_
 exact Zr
 exact zg
 refine qt ?_
 refine qD ?_
 refine YQ ?_ ?_
 refine qp K__law_cubes_alike hr (by decide) (qO.gl 7 rfl rfl) ?_ rfl
 refine qb ?_ ?_
 refine qH ?_ ?_
 exact qd 5 (qO.vis 5 rfl) (by decide)
 exact qe
 refine qb ?_ ?_
 refine qH ?_ ?_
 exact qd 3 (qO.vis 3 rfl) (by decide)
 exact qe
 exact qg
 refine YT ?_
 refine qp K__law_cubes_alike hr (by decide) (qO.gl 7 rfl rfl) ?_ rfl
 refine qb ?_ ?_
 refine qH ?_ ?_
 exact qd 5 (qO.vis 5 rfl) (by decide)
 exact qe
 refine qb ?_ ?_
 refine qH ?_ ?_
 exact qd 3 (qO.vis 3 rfl) (by decide)
 exact qe
 exact qg
end SF
local macro_rules
 | `(tactic| simp_arith [$ts,*] $[$loc]?)=>`(tactic| simp only [L2.rho0,List.map_cons,List.map_nil,List.length_cons,List.length_nil,Nat.reduceAdd,Nat.reduceSub,Nat.zero_add,Nat.sub_self,List.replicate_succ,List.replicate_zero,List.cons_append,List.nil_append,List.append_nil,L2.qd7,L2.qap,L2.qc2,L2.qc0,L2.qc1,L2.ifO_t,L2.ifO_f,L2.sIf_b,L2.vIf_b,L2.tA_b,L2.tO_b,L2.vA_b,L2.vO_b,L2.vN,L2.qhA,L2.qhE,L2.qhs,L2.qgb,L2.nxO_s,L2.qhz,L2.qhq,L2.sN,L2.sBk,L2.sCt,L2.tV,L2.tN,L2.tT,L2.ev2_b,L2.qgf,L2.ev1,L2.vr_z,L2.vr_s,L2.kd,L2.evA,L2.evC_b,L2.qes,L2.evC0,L2.aC_b,L2.qeF,L2.aN,L2.qgJ,L2.qgK,L2.tupD,L2.lstD,L2.qee,L2.qef,L2.qe2,L2.qe3,L2.qf6,L2.qhH,L2.qgS,L2.Yy,L2.jN,L2.pow_a,L2.pow_b,L2.qeJ,L2.qbX,L2.qgL,L2.leD_i,L2.gtD_i,L2.geD_i,L2.qer,L2.ixD_l,L2.ixD_t,L2.atI0,L2.atI1,L2.atI2,L2.atI3,L2.atI4,L2.atI5,L2.qg3,L2.qg2,L2.ob_s,L2.gNm,L2.gsN_n,L2.gsC_c,L2.qhQ,List.set_cons_zero,List.set_cons_succ,List.set_nil,L2.evI,L2.evR,L2.qhB,L2.qhC,L2.qfw,L2.qfx,L2.rngL,L2.qeC,L2.qew,L2.qbC,L2.qeA,L2.qbF,L2.qbE,L2.qe4,L2.qhw,L2.qgs,L2.Wy,L2.qgr,L2.Yb,L2.qeO,L2.qeN,L2.qbO,if_true,if_false,Bool.false_eq_true,Bool.not_true,Bool.not_false,Nat.reduceLeDiff,and_self,and_true,true_and,Int.reduceToNat,Int.reduceAdd,Int.reduceSub,Int.reduceLE,Int.reduceLT,Int.reduceNeg,reduceIte,L2.isiD,L2.qgz,L2.qgw,L2.qgv,L2.qgu,L2.qgy,L2.qgx,String.reduceBEq,L2.natLit,Int.reduceBEq,Bool.true_or,Bool.or_true,Bool.false_or,Bool.or_false,L2.qfC,L2.qhK,L2.qeL,L2.qgo,L2.qeM,L2.qgp,L2.qhr,L2.qf9,L2.qa8,L2.qhu,L2.qgg,L2.qg4,L2.dfl_b,L2.isD_n,L2.qgB,L2.isD_b,L2.qgA,L2.evS_b,L2.qhF,L2.oN,L2.oS_b,L2.qhi,Nat.reduceLT,decide_true,decide_false,L2.qhy,L2.qhn,L2.qhD,L2.qhx,L2.qd3,L2.qhg,L2.qhf,L2.qht,L2.qgc,L2.qf5,L2.qdE,L2.qdH,L2.qd5,L2.vC_b,L2.vcO_s,L2.qgm,L2.qge,L2.qfJ,L2.zpL_c,L2.qhR,L2.qhS,L2.qfz,L2.qfA,L2.qeY,L2.qeZ,L2.qe0,L2.qe1,L2.qgl,L2.chO_t,L2.chO_f,L2.qek,L2.qed,L2.qfB,L2.qhh,L2.qcJ,L2.qhv,L2.qgn,L2.qeH,L2.qeI,L2.enL_n,L2.enL_c,L2.qeD,L2.qeE,L2.qez,L2.qey,L2.qex,L2.qeB,L2.qev,L2.qfy,L2.dpO_s,L2.qgT,L2.ev3_b,L2.qhM,$ts,*] $[$loc]?)
namespace SF
open PySem L2
def qK (ns:List Int)(k:Int):Int:=ns.getD k.toNat 0
theorem Wq {ns:List Int}(h:∀ k∈ns,Builtin.Int.intBits k<=2 ^ 20)(k:Int):Bd 1048576 (qK ns k):=by
 unfold qK
 by_cases hk:k.toNat<ns.length
 ·rw [List.getD_eq_getElem?_getD,List.getElem?_eq_getElem hk]
  exact h _ (List.getElem_mem hk)
 ·rw [List.getD_eq_getElem?_getD,List.getElem?_eq_none (by omega)]
  show Builtin.Int.intBits 0<=1048576
  decide
theorem cell_eq (ns:List Int)(k:Int)(hk:0<=k):qR [.list (ns.map .int),.int k]=some (.int (qK ns k)):=by
 simp only [qR,jb]
 simp_arith []
 by_cases h:k<((ns.map PyData.int).length:Int)
 ·have h':k.toNat<ns.length:=by rw [List.length_map] at h;omega
  have e:atI (ns.map PyData.int) k=some (.int (qK ns k)):=by
   have e1:((k.toNat:Nat):Int)=k:=by omega
   have:=qbz (xs:=ns.map PyData.int) (j:=k.toNat) (v:=.int (qK ns k)) (by
    rw [List.getElem?_map,List.getElem?_eq_getElem h']
    unfold qK
    rw [List.getD_eq_getElem?_getD,List.getElem?_eq_getElem h']
    rfl)
   rw [e1] at this
   exact this
  simp_arith [decide_eq_true h,e]
 ·have h':¬ k.toNat<ns.length:=by rw [List.length_map] at h;omega
  have e:qK ns k=0:=by
   unfold qK
   rw [List.getD_eq_getElem?_getD,List.getElem?_eq_none (by omega)]
   rfl
  simp_arith [decide_eq_false h,e]
end SF
namespace SF
open PySem L2
theorem qhV {a b c d e f:Int}{n m:Nat}(ha:Bd n a)(hb:Bd n b)(hc:Bd n c)(hd:Bd m d)(he:Bd m e)(hf:Bd m f)(hz:n+m<=134217728:=by decide):Qw [S3 a b c,S3 d e f]=some (S3 (b*f-c*e) (c*d-a*f) (a*e-b*d)):=by
 simp only [Qw,ZM,S3]
 simp_arith []
 simp only [qU (hb.ok hf hz),qU (hc.ok he hz),qU (hc.ok hd hz),qU (ha.ok hf hz),qU (ha.ok he hz),qU (hb.ok hd hz)]
 simp_arith []
theorem qcM {a b c d e f:Int}(h1:a=d)(h2:b=e)(h3:c=f):zq [S3 a b c,S3 d e f]=some (.bool true):=by
 subst h1;subst h2;subst h3
 have:zq [S3 a b c,S3 a b c]=some (.bool (PyData.eqv (S3 a b c) (S3 a b c))):=rfl
 rw [this,qgk]
structure Tr where
 (p0 p1 p2 q0 q1 q2 r0 r1 r2:Int)
 deriving DecidableEq
def encT (t:Tr):PyData:=T3 (S3 t.p0 t.p1 t.p2) (S3 t.q0 t.q1 t.q2) (S3 t.r0 t.r1 t.r2)
def qN:List Tr:=[⟨1,0,0,0,1,0,0,0,1⟩,⟨1,0,0,0,-1,0,0,0,-1⟩,⟨1,0,0,0,0,1,0,-1,0⟩,⟨1,0,0,0,0,-1,0,1,0⟩,⟨-1,0,0,0,1,0,0,0,-1⟩,⟨-1,0,0,0,-1,0,0,0,1⟩,⟨-1,0,0,0,0,1,0,1,0⟩,⟨-1,0,0,0,0,-1,0,-1,0⟩,⟨0,1,0,1,0,0,0,0,-1⟩,⟨0,1,0,-1,0,0,0,0,1⟩,⟨0,1,0,0,0,1,1,0,0⟩,⟨0,1,0,0,0,-1,-1,0,0⟩,⟨0,-1,0,1,0,0,0,0,1⟩,⟨0,-1,0,-1,0,0,0,0,-1⟩,⟨0,-1,0,0,0,1,-1,0,0⟩,⟨0,-1,0,0,0,-1,1,0,0⟩,⟨0,0,1,1,0,0,0,1,0⟩,⟨0,0,1,-1,0,0,0,-1,0⟩,⟨0,0,1,0,1,0,-1,0,0⟩,⟨0,0,1,0,-1,0,1,0,0⟩,⟨0,0,-1,1,0,0,0,-1,0⟩,⟨0,0,-1,-1,0,0,0,1,0⟩,⟨0,0,-1,0,1,0,1,0,0⟩,⟨0,0,-1,0,-1,0,-1,0,0⟩]
theorem yl:zG []=some (.list [S3 1 0 0,S3 (-1) 0 0,S3 0 1 0,S3 0 (-1) 0,S3 0 0 1,S3 0 0 (-1)]):=rfl
theorem qfG (c:Int):∃ t∈qN,zA [.int c]=some (encT t):=by
 have h6:c % 6=0\/c % 6=1\/c % 6=2\/c % 6=3\/c % 6=4\/c % 6=5:=by omega
 have h4:c / 6 % 4=0\/c / 6 % 4=1\/c / 6 % 4=2\/c / 6 % 4=3:=by omega
 simp only [zA,Jh]
 have k00:mulD (.int 0) (.int 0)=some (.int 0):=rfl
 have k01:mulD (.int 0) (.int 1)=some (.int 0):=rfl
 have k02:mulD (.int 0) (.int (-1))=some (.int 0):=rfl
 have k10:mulD (.int 1) (.int 0)=some (.int 0):=rfl
 have k11:mulD (.int 1) (.int 1)=some (.int 1):=rfl
 have k12:mulD (.int 1) (.int (-1))=some (.int (-1)):=rfl
 have k20:mulD (.int (-1)) (.int 0)=some (.int 0):=rfl
 have k21:mulD (.int (-1)) (.int 1)=some (.int (-1)):=rfl
 have k22:mulD (.int (-1)) (.int (-1))=some (.int 1):=rfl
 have ne:∀ a b c d e f:Int,neD (.tuple [.int a,.int b,.int c]) (.tuple [.int d,.int e,.int f])=some (.bool (!((a==d)&&((b==e)&&((c==f)&&true))))):=fun _ _ _ _ _ _=>rfl
 rcases h6 with h6|h6|h6|h6|h6|h6<;>rcases h4 with h4|h4|h4|h4 <;>
  (
   simp_arith [yl,h6,h4,Qw,ZM,S3,k00,k01,k02,k10,k11,k12,k20,k21,k22,ne,Int.reduceSub,Int.reduceBEq,Bool.true_and,Bool.and_true,Bool.and_false,Bool.false_and]
   exact ⟨⟨_,_,_,_,_,_,_,_,_⟩,by decide,rfl⟩)
def TrB (t:Tr):Prop:=Bd 1 t.p0/\Bd 1 t.p1/\Bd 1 t.p2/\Bd 1 t.q0/\Bd 1 t.q1/\Bd 1 t.q2/\Bd 1 t.r0/\Bd 1 t.r1/\Bd 1 t.r2
instance (n:Nat) (i:Int):Decidable (Bd n i):=by unfold Bd;exact inferInstance
theorem qcb:∀ t∈qN,TrB t:=by
 unfold TrB
 decide
end SF
namespace SF
open PySem L2
def TrBd (m:Nat)(t:Tr):Prop:=Bd m t.p0/\Bd m t.p1/\Bd m t.p2/\Bd m t.q0/\Bd m t.q1/\Bd m t.q2/\Bd m t.r0/\Bd m t.r1/\Bd m t.r2
theorem TrB.bd {t:Tr}(h:TrB t):TrBd 1 t:=h
def mulT (s t:Tr):Tr:=⟨s.p0*t.p0+s.p1*t.q0+s.p2*t.r0,s.p0*t.p1+s.p1*t.q1+s.p2*t.r1,s.p0*t.p2+s.p1*t.q2+s.p2*t.r2,
 s.q0*t.p0+s.q1*t.q0+s.q2*t.r0,s.q0*t.p1+s.q1*t.q1+s.q2*t.r1,s.q0*t.p2+s.q1*t.q2+s.q2*t.r2,
 s.r0*t.p0+s.r1*t.q0+s.r2*t.r0,s.r0*t.p1+s.r1*t.q1+s.r2*t.r1,s.r0*t.p2+s.r1*t.q2+s.r2*t.r2⟩
def trT (s:Tr):Tr:=⟨s.p0,s.q0,s.r0,s.p1,s.q1,s.r1,s.p2,s.q2,s.r2⟩
def idT:Tr:=⟨1,0,0,0,1,0,0,0,1⟩
theorem Zv {x y z i j k:Int}{n m:Nat}(hx:Bd n x)(hy:Bd n y)(hz:Bd n z)(hi:Bd m i)(hj:Bd m j)(hk:Bd m k):Bd (n+m+2) (x*i+y*j+z*k) :=
 (((hx.mul hi).add (hy.mul hj)).add (hz.mul hk)).mono (by omega)
theorem trT_bd {m:Nat}{t:Tr}(h:TrBd m t):TrBd m (trT t):=by
 obtain ⟨h1,h2,h3,h4,h5,h6,h7,h8,h9⟩:=h
 exact ⟨h1,h4,h7,h2,h5,h8,h3,h6,h9⟩
theorem mulT_bd {m n:Nat}{s t:Tr}(hs:TrBd m s)(ht:TrBd n t):TrBd (m+n+2) (mulT s t):=by
 obtain ⟨h1,h2,h3,h4,h5,h6,h7,h8,h9⟩:=hs
 obtain ⟨g1,g2,g3,g4,g5,g6,g7,g8,g9⟩:=ht
 exact ⟨Zv h1 h2 h3 g1 g4 g7,Zv h1 h2 h3 g2 g5 g8,Zv h1 h2 h3 g3 g6 g9,Zv h4 h5 h6 g1 g4 g7,Zv h4 h5 h6 g2 g5 g8,Zv h4 h5 h6 g3 g6 g9,Zv h7 h8 h9 g1 g4 g7,Zv h7 h8 h9 g2 g5 g8,Zv h7 h8 h9 g3 g6 g9⟩
theorem qf4:∀ t∈qN,mulT t (trT t)=idT/\mulT (trT t) t=idT:=by decide
theorem trT_mulT (s t:Tr):trT (mulT s t)=mulT (trT t) (trT s):=by
 unfold trT mulT
 congr 1<;>dsimp only<;>grind
theorem trT_trT (s:Tr):trT (trT s)=s:=rfl
theorem qbi (s t u:Tr):mulT (mulT s t) u=mulT s (mulT t u):=by
 unfold mulT
 congr 1<;>dsimp only<;>grind
theorem mulT_idT (s:Tr):mulT s idT=s:=by
 unfold mulT idT
 cases s
 congr 1<;>dsimp only<;>grind
theorem qdl (s:Tr):mulT idT s=s:=by
 unfold mulT idT
 cases s
 congr 1<;>dsimp only<;>grind
structure Sp3 where
 (x y z:Int)
 deriving DecidableEq
def encS (s:Sp3):PyData:=S3 s.x s.y s.z
def app (t:Tr)(s:Sp3):Sp3:=⟨s.x*t.p0+s.y*t.q0+s.z*t.r0,s.x*t.p1+s.y*t.q1+s.z*t.r1,s.x*t.p2+s.y*t.q2+s.z*t.r2⟩
def addS (s t:Sp3):Sp3:=⟨s.x+t.x,s.y+t.y,s.z+t.z⟩
def negS (s:Sp3):Sp3:=⟨-s.x,-s.y,-s.z⟩
def SpBd (n:Nat)(s:Sp3):Prop:=Bd n s.x/\Bd n s.y/\Bd n s.z
theorem qga {m n:Nat}{t:Tr}{s:Sp3}(ht:TrBd m t)(hs:SpBd n s):SpBd (n+m+2) (app t s):=by
 obtain ⟨g1,g2,g3,g4,g5,g6,g7,g8,g9⟩:=ht
 obtain ⟨h1,h2,h3⟩:=hs
 exact ⟨Zv h1 h2 h3 g1 g4 g7,Zv h1 h2 h3 g2 g5 g8,Zv h1 h2 h3 g3 g6 g9⟩
theorem addS_bd {m n:Nat}{s t:Sp3}(hs:SpBd n s)(ht:SpBd m t):SpBd (max n m+1) (addS s t):=⟨hs.1.add ht.1,hs.2.1.add ht.2.1,hs.2.2.add ht.2.2⟩
theorem negS_bd {n:Nat}{s:Sp3}(hs:SpBd n s):SpBd n (negS s):=⟨hs.1.neg,hs.2.1.neg,hs.2.2.neg⟩
theorem qcV (s t:Tr)(a:Sp3):app (mulT s t) a=app t (app s a):=by
 unfold app mulT
 congr 1<;>dsimp only<;>grind
theorem qen (a:Sp3):app idT a=a:=by
 unfold app idT
 cases a
 congr 1<;>dsimp only<;>grind
theorem app_addS (t:Tr)(a b:Sp3):app t (addS a b)=addS (app t a) (app t b):=by
 unfold app addS
 congr 1<;>dsimp only<;>grind
theorem app_negS (t:Tr)(a:Sp3):app t (negS a)=negS (app t a):=by
 unfold app negS
 congr 1<;>dsimp only<;>grind
theorem qf7 (a b c:Sp3):addS (addS a b) c=addS a (addS b c):=by
 unfold addS
 congr 1<;>dsimp only<;>omega
theorem wC (a b:Sp3):addS a b=addS b a:=by
 unfold addS
 congr 1<;>omega
theorem qcS (a:Sp3):addS a (negS a)=⟨0,0,0⟩:=by
 unfold addS negS
 congr 1<;>dsimp only<;>omega
theorem qcf (a:Sp3):addS a ⟨0,0,0⟩=a:=by
 unfold addS
 cases a
 congr 1<;>dsimp only<;>omega
theorem neg_add (a:Sp3):addS (negS a) a=⟨0,0,0⟩:=by rw [wC,qcS]
theorem zero_add (a:Sp3):addS ⟨0,0,0⟩ a=a:=by rw [wC,qcf]
theorem qfH {t:Tr}{m n:Nat}(ht:TrBd m t){s:Sp3}(hs:SpBd n s)(hz:n+m<=134217728:=by decide):jz [encT t,encS s]=some (encS (app t s)):=by
 obtain ⟨h1,h2,h3,h4,h5,h6,h7,h8,h9⟩:=ht
 obtain ⟨ha,hb,hc⟩:=hs
 simp only [jz,Y6,S3,T3,encT,encS,app]
 simp_arith [qU (ha.ok h1 hz),qU (ha.ok h2 hz),qU (ha.ok h3 hz),qU (hb.ok h4 hz),qU (hb.ok h5 hz),qU (hb.ok h6 hz),qU (hc.ok h7 hz),qU (hc.ok h8 hz),qU (hc.ok h9 hz)]
theorem qdC {t:Tr}{m n:Nat}(ht:TrBd m t){s:Sp3}(hs:SpBd n s)(hz:n+m<=134217728:=by decide):QR [encT t,encS s]=some (encS (app t s)):=by
 obtain ⟨h1,h2,h3,h4,h5,h6,h7,h8,h9⟩:=ht
 obtain ⟨ha,hb,hc⟩:=hs
 simp only [QR,ju,S3,T3,encT,encS,app]
 simp_arith [qU (ha.ok h1 hz),qU (ha.ok h2 hz),qU (ha.ok h3 hz),qU (hb.ok h4 hz),qU (hb.ok h5 hz),qU (hb.ok h6 hz),qU (hc.ok h7 hz),qU (hc.ok h8 hz),qU (hc.ok h9 hz)]
def rowP (t:Tr):Sp3:=⟨t.p0,t.p1,t.p2⟩
def rowQ (t:Tr):Sp3:=⟨t.q0,t.q1,t.q2⟩
def rowR (t:Tr):Sp3:=⟨t.r0,t.r1,t.r2⟩
theorem qhU (t:Tr):encT t=.tuple [encS (rowP t),encS (rowQ t),encS (rowR t)]:=rfl
theorem qcL (t:Tr):seqD (encT t)=some [encS (rowP t),encS (rowQ t),encS (rowR t)]:=rfl
theorem rows_bd {m:Nat}{t:Tr}(h:TrBd m t):SpBd m (rowP t)/\SpBd m (rowQ t)/\SpBd m (rowR t):=by
 obtain ⟨h1,h2,h3,h4,h5,h6,h7,h8,h9⟩:=h
 exact ⟨⟨h1,h2,h3⟩,⟨h4,h5,h6⟩,⟨h7,h8,h9⟩⟩
theorem qhT (s t:Tr):encT (mulT s t)=.tuple [encS (app t (rowP s)),encS (app t (rowQ s)),encS (app t (rowR s))]:=rfl
theorem qai (s:Sp3):zq [encS s,encS s]=some (.bool true):=qcM rfl rfl rfl
end SF
namespace SF
open PySem L2
abbrev Sp:=Int×Int×Int
def eS (s:Sp):PyData:=.tuple [.int s.1,.int s.2.1,.int s.2.2]
def l3 (s:Sp):List Int:=[s.1,s.2.1,s.2.2]
def b3:List Int->Sp
 | [a,b,c]=>(a,b,c)
 | _=>(0,0,0)
theorem qfL (s:Sp):b3 (l3 s)=s:=rfl
theorem qgI {a b:Sp}(h:l3 a=l3 b):a=b:=by rw [← qfL a,h,qfL]
theorem qbg (xs:List Sp):xs.map eS=(xs.map l3).map tI:=by rw [List.map_map];rfl
theorem Zj {xs:List Sp}(h:xs.length<64):∃ ys:List Sp,zH [.list (xs.map eS)]=some (.list (ys.map eS))/\ys.Perm xs/\(ys.map l3).Pairwise (fun a b=>HT.lexLt b a=false):=by
 obtain ⟨mss,e,p,o⟩:=qae (nss:=xs.map l3) (by rw [List.length_map];exact h) (by
  intro ns hn
  obtain ⟨x,_,rfl⟩:=List.mem_map.mp hn
  exact fun z=>by cases z)
 have back:∀ m∈mss,(l3 ∘ b3) m=id m:=fun m hm=>by
  obtain ⟨x,_,rfl⟩:=List.mem_map.mp (p.mem_iff.mp hm)
  rfl
 have hm:(mss.map b3).map l3=mss:=by
  rw [List.map_map]
  exact (List.map_congr_left back).trans (List.map_id mss)
 refine ⟨mss.map b3,?_,?_,?_⟩
 ·rw [qbg,e,qbg,hm]
 ·have:=p.map b3
  rw [List.map_map] at this
  have e2:xs.map (b3 ∘ l3)=xs:=(List.map_congr_left (fun x _=>rfl)).trans (List.map_id xs)
  rwa [e2] at this
 ·rw [hm];exact o
theorem Zu {as bs:List Sp}(p:as.Perm bs)(h1:(as.map l3).Pairwise (fun a b=>HT.lexLt b a=false))(h2:(bs.map l3).Pairwise (fun a b=>HT.lexLt b a=false)):as=bs:=by
 have:=JB (p.map l3) h1 h2
 have e:=congrArg (List.map b3) this
 rw [List.map_map,List.map_map] at e
 have k:∀ xs:List Sp,xs.map (b3 ∘ l3)=xs:=fun xs=>(List.map_congr_left (fun x _=>rfl)).trans (List.map_id xs)
 rwa [k,k] at e
theorem Yx (a b:Sp):PyData.eqv (eS a) (eS b)=decide (a=b):=by
 have:PyData.eqv (eS a) (eS b)=((a.1==b.1)&&((a.2.1==b.2.1)&&((a.2.2==b.2.2)&&true))):=rfl
 rw [this]
 obtain ⟨a1,a2,a3⟩:=a
 obtain ⟨b1,b2,b3⟩:=b
 by_cases h1:a1=b1<;>by_cases h2:a2=b2<;>by_cases h3:a3=b3<;>simp [h1,h2,h3]
theorem Yp (xs:List Sp):PyData.canLayAll0 (xs.map eS)=true/\PyData.depthAll (xs.map eS)<=1:=by rw [qbg];exact Yq _
theorem qbQ (xs:List Sp)(q:Sp):inOk (xs.map eS) (eS q)=true:=by
 unfold inOk
 rw [(Yp xs).1,Bool.true_and,Bool.and_eq_true]
 exact ⟨rfl,rfl⟩
theorem qdm (xs:List Sp)(q:Sp):inL (xs.map eS) (eS q)=decide (q∈xs):=by
 unfold inL
 rw [List.any_map]
 induction xs with
 | nil=>rfl
 | cons x xs ih =>
  rw [List.any_cons,ih]
  show (PyData.eqv (eS x) (eS q)||_)=_
  rw [Yx]
  by_cases h:x=q
  ·subst h;rw [decide_eq_true rfl,Bool.true_or,decide_eq_true List.mem_cons_self]
  ·rw [decide_eq_false h,Bool.false_or]
   by_cases h2:q∈xs
   ·rw [decide_eq_true h2,decide_eq_true (List.mem_cons_of_mem _ h2)]
   ·rw [decide_eq_false h2,decide_eq_false (by rw [List.mem_cons];rintro (rfl|z);exact h rfl;exact h2 z)]
theorem inD_eS (xs:List Sp)(q:Sp):inD (eS q) (.list (xs.map eS))=some (.bool (decide (q∈xs))):=by
 show (if inOk (xs.map eS) (eS q)=true then some (PyData.bool (inL (xs.map eS) (eS q))) else none)=_
 rw [qbQ,qdm];rfl
theorem qbY (xs:List Sp)(q:Sp):ninD (eS q) (.list (xs.map eS))=some (.bool (!decide (q∈xs))):=by
 show (if inOk (xs.map eS) (eS q)=true then some (PyData.bool (!inL (xs.map eS) (eS q))) else none)=_
 rw [qbQ,qdm];rfl
theorem Zi (xs:List Sp):SeqAt.shaped (.list (xs.map eS))=true:=by
 have h:=Yp xs
 have h2:PyData.depth (.list (xs.map eS))=PyData.depthAll (xs.map eS)+1:=rfl
 unfold SeqAt.shaped
 rw [h2,Bool.and_eq_true]
 exact ⟨h.1,decide_eq_true (by omega)⟩
theorem Wu:∀ xs ys:List Sp,PyData.eqv (.list (xs.map eS)) (.list (ys.map eS))=decide (xs=ys)
 | [],[]=>rfl
 | [],_::_=>rfl
 | _::_,[]=>rfl
 | x::xs,y::ys=>by
  have:PyData.eqv (.list ((x::xs).map eS)) (.list ((y::ys).map eS))=(PyData.eqv (eS x) (eS y)&&PyData.eqv (.list (xs.map eS)) (.list (ys.map eS))):=rfl
  rw [this,Yx,Wu,Bool.eq_iff_iff]
  simp
theorem qgR (xs ys:List Sp):neD (.list (xs.map eS)) (.list (ys.map eS))=some (.bool (!decide (xs=ys))):=by
 unfold neD
 rw [if_pos ⟨Zi _,Zi _⟩,Wu]
theorem Wt (xs ys:List Sp):eqD (.list (xs.map eS)) (.list (ys.map eS))=some (.bool (decide (xs=ys))):=by
 unfold eqD
 rw [if_pos ⟨Zi _,Zi _⟩,Wu]
theorem qay {α:Type}(enc:α->PyData){g:PyData->Rho->Option Rho}{u:Rho->Option Out}(I:List α->Rho->Prop)(all:List α)(step:∀ a∈all,∀ done ρ,done.length<all.length->I done ρ->∃ ρ',ob (g (enc a) ρ) u=some (.nx ρ')/\I (done++[a]) ρ') :
  ∀ (as done:List α) (ρ:Rho),(∀ a∈as,a∈all)->done.length+as.length=all.length->I done ρ->∃ ρ',forD g u (as.map enc) ρ=some (.nx ρ')/\I (done++as) ρ'
 | [],done,ρ,_,_,h=>⟨ρ,rfl,by rw [List.append_nil];exact h⟩
 | a::as,done,ρ,hm,hl,h=>by
  rw [List.length_cons] at hl
  obtain ⟨ρ1,e1,h1⟩:=step a (hm a (.head _)) done ρ (by omega) h
  obtain ⟨ρ2,e2,h2⟩:=qay enc I all step as (done++[a]) ρ1 (fun x hx=>hm x (.tail _ hx)) (by rw [List.length_append,List.length_singleton];omega) h1
  refine ⟨ρ2,?_,by rw [List.append_assoc] at h2;exact h2⟩
  rw [List.map_cons,Wy,e1,Yb]
  exact e2
theorem Z2 {α:Type}(enc:α->PyData){g:PyData->Rho->Option Rho}{u:Rho->Option Out}(I:List α->Rho->Prop)(as:List α)(ρ:Rho)(h:I [] ρ)(step:∀ a∈as,∀ done ρ,done.length<as.length->I done ρ->∃ ρ',ob (g (enc a) ρ) u=some (.nx ρ')/\I (done++[a]) ρ') :
  ∃ ρ',forD g u (as.map enc) ρ=some (.nx ρ')/\I as ρ':=by
 obtain ⟨ρ',e,i⟩:=qay enc I as step as [] ρ (fun _ h=>h) (by simp) h
 exact ⟨ρ',e,by rwa [List.nil_append] at i⟩
theorem wJ {α:Type}(enc:α->PyData){tt:Rho->Option Bool}{te:Rho->Option PyData}{ρ:Rho}(p:α->Bool)(f:α->PyData):∀ (as:List α),(∀ a∈as,tt (ρ++[some (enc a)])=some (p a))->(∀ a∈as,p a=true->te (ρ++[some (enc a)])=some (f a))->zR tt te ρ (as.map enc)=some ((as.filter p).map f)
 | [],_,_=>rfl
 | a::as,h1,h2=>by
  have ih:=wJ enc p f as (fun x hx=>h1 x (.tail _ hx)) (fun x hx=>h2 x (.tail _ hx))
  rw [List.map_cons,qbC,h1 a (.head _),List.filter_cons]
  cases e:p a with
  | true=>rw [qbF,h2 a (.head _) e,ih];rfl
  | false=>rw [qbE,ih];rfl
theorem zK {α:Type}(enc:α->PyData){te:Rho->Option PyData}{ρ:Rho}(f:α->PyData)(as:List α)(h2:∀ a∈as,te (ρ++[some (enc a)])=some (f a)):zR tT te ρ (as.map enc)=some (as.map f):=by
 have:=wJ enc (tt:=tT) (te:=te) (ρ:=ρ) (fun _=>true) f as (fun _ _=>rfl) (fun a ha _=>h2 a ha)
 rwa [List.filter_eq_self.mpr (fun _ _=>rfl)] at this
def mid (c:Sp):Sp:=(2*c.1+1,2*c.2.1+1,2*c.2.2+1)
def six (s:Sp):List Sp:=[(s.1 + -1,s.2.1,s.2.2),(s.1+1,s.2.1,s.2.2),(s.1,s.2.1 + -1,s.2.2),(s.1,s.2.1+1,s.2.2),(s.1,s.2.1,s.2.2 + -1),(s.1,s.2.1,s.2.2+1)]
def sides (cs:List Sp):List Sp:=cs.flatMap fun c=>six (mid c)
def cr (a:Nat)(q s:Sp):Bool:=match a with
 | 0=>decide (s.1 % 2=0/\s.1 > q.1/\s.2.1=q.2.1/\s.2.2=q.2.2)
 | 1=>decide (s.2.1 % 2=0/\s.2.1 > q.2.1/\s.1=q.1/\s.2.2=q.2.2)
 | _=>decide (s.2.2 % 2=0/\s.2.2 > q.2.2/\s.1=q.1/\s.2.1=q.2.1)
def Sq (s:Sp):Prop:=(s.1 % 2=0/\s.2.1 % 2=1/\s.2.2 % 2=1)\/(s.1 % 2=1/\s.2.1 % 2=0/\s.2.2 % 2=1)\/(s.1 % 2=1/\s.2.1 % 2=1/\s.2.2 % 2=0)
end SF
namespace SF
open PySem L2
theorem qcW {α:Type}(xs:List α)(v:α):atI (xs++[v]) (-1)=some v:=by
 unfold atI ixN
 rw [if_neg (by decide),if_pos (by rw [List.length_append,List.length_singleton];omega)]
 have e:((-1:Int)+((xs++[v]).length:Int)).toNat=xs.length:=by
  rw [List.length_append,List.length_singleton];omega
 show (xs++[v])[((-1:Int)+((xs++[v]).length:Int)).toNat]?=some v
 rw [e,List.getElem?_append_right (Nat.le_refl _)]
 simp
theorem qhW (xs:List PyData)(v:PyData):popD (.list (xs++[v]))=some (v,.list xs):=by
 show (ob ((xs++[v])[(xs++[v]).length-1]?) fun d=>some (d,PyData.list (xs++[v]).dropLast))=_
 have e:(xs++[v])[(xs++[v]).length-1]?=some v:=by
  rw [List.length_append,List.length_singleton,Nat.add_sub_cancel,List.getElem?_append_right (Nat.le_refl _)]
  simp
 rw [e,List.dropLast_concat]
 rfl
theorem eqD_eSp (a b:Sp):eqD (eS a) (eS b)=some (.bool (decide (a=b))):=by
 unfold eqD
 rw [if_pos ⟨rfl,rfl⟩,Yx]
theorem neD_eSp (a b:Sp):neD (eS a) (eS b)=some (.bool (!decide (a=b))):=by
 unfold neD
 rw [if_pos ⟨rfl,rfl⟩,Yx]
theorem JX {α β:Type}{f:α->β}{xs:List α}{k:Int}{x:α}(h0:0<=k)(h:xs[k.toNat]?=some x):atI (xs.map f) k=some (f x):=by
 have e1:((k.toNat:Nat):Int)=k:=by omega
 have:=qbz (xs:=xs.map f) (j:=k.toNat) (v:=f x) (by rw [List.getElem?_map,h];rfl)
 rwa [e1] at this
theorem seqIx {i:Int}{n:Nat}(h0:0<=i)(h1:i<(n:Int)):seqIndex? i n=some i.toNat:=by
 show (if (decide (0<=(if i<0 then i+(n:Int) else i))&&decide ((if i<0 then i+(n:Int) else i)<(n:Int)))=true then some (if i<0 then i+(n:Int) else i).toNat else none)=_
 have h:(if i<0 then i+(n:Int) else i)=i:=if_neg (by omega)
 rw [h,if_pos (by simp;omega)]
theorem qcA {α β:Type}(f:α->β):∀ (xs:List α) (n:Nat),(xs.map f).eraseIdx n=(xs.eraseIdx n).map f
 | [],_=>rfl
 | _::_,0=>rfl
 | x::xs,n+1=>congrArg (f x::·) (qcA f xs n)
theorem qY {u w:Rho->Option Out}{ρ ρ':Rho}{r:Option Out}(h:u ρ=some (.nx ρ'))(h2:w ρ'=r):seqO u w ρ=r:=by rw [qd7,h,qap];exact h2
theorem forD_pre {α:Type}(enc:α->PyData){g:PyData->Rho->Option Rho}{u:Rho->Option Out}(I:List α->Rho->Prop)(all:List α)(ρ:Rho)(h0:I [] ρ)(step:∀ a done rest ρ,all=done++a::rest->I done ρ->∃ ρ',ob (g (enc a) ρ) u=some (.nx ρ')/\I (done++[a]) ρ') :
  ∃ ρ',forD g u (all.map enc) ρ=some (.nx ρ')/\I all ρ':=by
 have key:∀ (as done:List α) (ρ:Rho),all=done++as->I done ρ->∃ ρ',forD g u (as.map enc) ρ=some (.nx ρ')/\I all ρ':=by
  intro as
  induction as with
  | nil=>intro done ρ e h;rw [List.append_nil] at e;subst e;exact ⟨ρ,rfl,h⟩
  | cons a as ih =>
   intro done ρ e h
   obtain ⟨ρ1,e1,h1⟩:=step a done as ρ e h
   obtain ⟨ρ2,e2,h2⟩:=ih (done++[a]) ρ1 (by rw [e,List.append_assoc];rfl) h1
   refine ⟨ρ2,?_,h2⟩
   rw [List.map_cons,Wy,e1,Yb]
   exact e2
 exact key all [] ρ rfl h0
theorem ixe0 (s:Sp):ixD (eS s) (.int 0)=some (.int s.1):=rfl
theorem ixe1 (s:Sp):ixD (eS s) (.int 1)=some (.int s.2.1):=rfl
theorem ixe2 (s:Sp):ixD (eS s) (.int 2)=some (.int s.2.2):=rfl
theorem seqe (s:Sp):seqD (eS s)=some [.int s.1,.int s.2.1,.int s.2.2]:=rfl
theorem enume (s:Sp):qde (eS s)=some (enL 0 [.int s.1,.int s.2.1,.int s.2.2]):=rfl
theorem liste (s:Sp):wY [eS s]=some (.list [.int s.1,.int s.2.1,.int s.2.2]):=rfl
theorem ix0:ixN 3 0=some 0:=rfl
theorem ix1:ixN 3 1=some 1:=rfl
theorem ix2:ixN 3 2=some 2:=rfl
theorem flat_i (i:Int):flat (.int i)=true:=rfl
theorem flat_b (i:Bool):flat (.bool i)=true:=rfl
theorem flat_t3 (a b c:Int):flat (.tuple [.int a,.int b,.int c])=true:=rfl
theorem Wx (s:Sp):flat (eS s)=true:=rfl
theorem flatO_l3 (a b c:Int):wL (.list [.int a,.int b,.int c])=true:=rfl
theorem qdf:∀ xs:List Sp,wL (.list (xs.map eS))=true
 | []=>rfl
 | _::xs=>qdf xs
def BdS (n:Nat)(c:Sp):Prop:=Bd n c.1/\Bd n c.2.1/\Bd n c.2.2
theorem bd2:Bd 2 2:=Bd.of (by decide)
theorem Y4 (n:Nat):rngL 0 n=(List.range n).map fun k=>PyData.int (k:Nat):=by
 have:∀ (n m:Nat),rngL (m:Nat) n=(List.range' m n).map fun k=>PyData.int (k:Nat):=by
  intro n
  induction n with
  | zero=>intro m;rfl
  | succ n ih =>
   intro m
   rw [rngL,List.range'_succ,List.map_cons,← ih (m+1)]
   rfl
 rw [List.range_eq_range']
 exact this n 0
def Yg (os:List Sp)(a:Sp):List Sp:=if os.getLast?=some a then os.dropLast else os++[a]
theorem odd_step (os:List Sp)(a:Sp):(∀ P:Sp->Bool,(Yg os a).countP P % 2=(os.countP P+[a].countP P) % 2)/\(∀ s∈Yg os a,s∈os\/s=a)/\(Yg os a).length<=os.length+1:=by
 unfold Yg
 split
 ·rename_i h
  obtain ⟨init,rfl⟩:=List.getLast?_eq_some_iff.mp h
  rw [List.dropLast_concat]
  refine ⟨fun P=>?_,fun s hs=>.inl (List.mem_append_left _ hs),by rw [List.length_append];omega⟩
  rw [List.countP_append]
  omega
 ·refine ⟨fun P=>by rw [List.countP_append],fun s hs=>?_,by rw [List.length_append];simp⟩
  rcases List.mem_append.mp hs with q|q
  ·exact .inl q
  ·exact .inr (by simpa using q)
end SF
namespace SF
open PySem L2
theorem cut_eq (ns:List Int){a b:Nat}:∃ ms:List Int,sliD (.list (ns.map .int)) (some (a:Int)) (some (b:Int))=some (.list (ms.map .int))/\ms.length<=b-a:=by
 refine ⟨(ns.drop (HT.sIx (ns.map PyData.int).length 0 (some (a:Int)))).take (HT.sIx (ns.map PyData.int).length (ns.map PyData.int).length (some (b:Int))-HT.sIx (ns.map PyData.int).length 0 (some (a:Int))),?_,?_⟩
 ·show some (PyData.list (cutD (ns.map .int) (some (a:Int)) (some (b:Int))))=_
  unfold cutD
  rw [← List.map_drop,← List.map_take]
 ·rw [List.length_take,List.length_drop,HT.qb5,HT.qb5,List.length_map]
  omega
def Ja (n:Nat)(c:Sp):Prop:=c.1.natAbs<=n/\c.2.1.natAbs<=n/\c.2.2.natAbs<=n
theorem near_bd {n:Nat}{c:Sp}(h:Ja n c)(hn:n<2 ^ 200):BdS 200 c:=⟨Bd.of (by have:=h.1;omega),Bd.of (by have:=h.2.1;omega),Bd.of (by have:=h.2.2;omega)⟩
theorem emod3 (x:Int):x % 3=0\/x % 3=1\/x % 3=2:=by omega
theorem qbK {α:Type}{xs:List α}(x:Int)(h:0<xs.length):∃ y∈xs,xs[(x % (xs.length:Int)).toNat]?=some y:=by
 have a1:=Int.emod_nonneg x (b:=(xs.length:Int)) (by omega)
 have a2:=Int.emod_lt_of_pos x (b:=(xs.length:Int)) (by omega)
 have hlt:(x % (xs.length:Int)).toNat<xs.length:=by omega
 exact ⟨xs[(x % (xs.length:Int)).toNat],List.getElem_mem hlt,List.getElem?_eq_getElem hlt⟩
def mixV (c:Int):Int:=c % 10 ^ 30*48271 % 2147483647
theorem mix_mul (c:Int):mulD (.int (c % 10 ^ 30)) (.int 48271)=some (.int (c % 10 ^ 30*48271)):=by
 have a1:=Int.emod_nonneg c (b:=10 ^ 30) (by decide)
 have a2:=Int.emod_lt_of_pos c (b:=10 ^ 30) (by decide)
 exact qU (Bd.ok (n:=110) (m:=16) (Bd.of (by omega)) (Bd.of (by decide)))
theorem qcX {α β:Type}(f:α->β){xs:List α}{k:Nat}(h:k∈List.range xs.length):∃ x∈xs,atI (xs.map f) (k:Int)=some (f x):=by
 have hk:=List.mem_range.mp h
 exact ⟨xs[k],List.getElem_mem hk,JX (by omega) (by simp [List.getElem?_eq_getElem hk])⟩
end SF
namespace SF
open PySem L2
def o3 (s:Sp):Sp3:=⟨s.1,s.2.1,s.2.2⟩
def half (m:Sp3)(b:Sp):Sp:=(m.x / 2+b.1,m.y / 2+b.2.1,m.z / 2+b.2.2)
def ct (t:Tr)(b c:Sp):Sp:=half (app t (o3 (mid c))) b
def z3:Sp:=(0,0,0)
theorem qfT:∀ t∈qN,∀ c:Sp,(app t (o3 (mid c))).x % 2=1/\(app t (o3 (mid c))).y % 2=1/\(app t (o3 (mid c))).z % 2=1:=by
 intro t ht c
 simp only [qN,List.mem_cons,List.not_mem_nil,or_false] at ht
 rcases ht with rfl|rfl|rfl|rfl|rfl|rfl|rfl|rfl|rfl|rfl|rfl|rfl|rfl|rfl|rfl|rfl|rfl|rfl|rfl|rfl|rfl|rfl|rfl|rfl<;>simp only [app,o3,mid]<;>omega
theorem qbL (c:Sp):encS (o3 (mid c))=PyData.tuple [.int (2*c.1+1),.int (2*c.2.1+1),.int (2*c.2.2+1)]:=rfl
theorem qgN {c:Sp}{n:Nat}(h:BdS n c)(hn:n<=1000):Q5 [eS c]=some (encS (o3 (mid c))):=by
 have k:2+n<=134217728:=by omega
 rw [qbL]
 simp only [Q5,Ji,eS]
 simp_arith [qU (bd2.ok h.1 k),qU (bd2.ok h.2.1 k),qU (bd2.ok h.2.2 k)]
theorem qbh {c:Sp}{n:Nat}(h:BdS n c):SpBd (n+3) (o3 (mid c)):=by
 have b1:Bd 1 1:=Bd.of (by decide)
 exact ⟨((bd2.mul h.1).add b1).mono (by omega),((bd2.mul h.2.1).add b1).mono (by omega),((bd2.mul h.2.2).add b1).mono (by omega)⟩
theorem ct_bd {t:Tr}{m n:Nat}(ht:TrBd m t){c:Sp}(h:BdS n c):BdS (n+m+6) (ct t z3 c):=by
 obtain ⟨a1,a2,a3⟩:=qga ht (qbh h)
 have e:∀ x:Int,x / 2+0=x / 2:=fun x=>Int.add_zero _
 refine ⟨?_,?_,?_⟩<;>(show Bd _ (_ / 2+0))<;>rw [e]
 ·exact (a1.div (by decide)).mono (by omega)
 ·exact (a2.div (by decide)).mono (by omega)
 ·exact (a3.div (by decide)).mono (by omega)
theorem qeG (m:Sp3):ZQ [encS m]=some (eS (m.x / 2,m.y / 2,m.z / 2)):=by
 simp only [ZQ,yG,encS,S3,eS]
 simp_arith []
theorem qcT (a b:Sp):Jo [eS a,eS b]=some (eS (a.1+b.1,a.2.1+b.2.1,a.2.2+b.2.2)):=by
 simp only [Jo,qal,eS]
 simp_arith []
theorem qa3 {t:Tr}{m n:Nat}(ht:TrBd m t)(hm:m<=100)(hn:n<=1000){cs:List Sp}(hc:∀ c∈cs,BdS n c)(b:Sp)(o0 o2:Option PyData) :
  zR tT (evC 2 (aC (evC 1 (aC (evC 2 (aC (vr 1) (aC (evC 1 (aC (vr 4) aN) Q5) aN)) jz) aN) ZQ) (aC (vr 3) aN)) Jo) [o0,some (encT t),o2,some (eS b)] (cs.map eS)=some (cs.map fun c=>eS (ct t b c)) :=
 zK eS _ cs fun a ha=>by
  have e1:=qgN (hc a ha) hn
  have e2:=qfH ht (qbh (hc a ha)) (by omega)
  have e3:=qeG (app t (o3 (mid a)))
  have e4:=qcT ((app t (o3 (mid a))).x / 2,(app t (o3 (mid a))).y / 2,(app t (o3 (mid a))).z / 2) b
  simp_arith [e1,e2,e3,e4]
  rfl
theorem qhG {t:Tr}{m n:Nat}(ht:TrBd m t)(hm:m<=100)(hn:n<=1000){cs:List Sp}(hc:∀ c∈cs,BdS n c)(hl:cs.length<=900)(b:Sp){r:PyData}(es:zH [.list ((cs.map (ct t b)).map eS)]=some r):qJ [.list (cs.map eS),encT t,eS b]=some r:=by
 have hq:=qa3 ht hm hn hc b (some (.list (cs.map eS))) (some (eS b))
 have ei:isNone (eS b)=false:=rfl
 have hz:(cs.map eS).length<=1000:=by rw [List.length_map];omega
 rw [List.map_map] at es
 have es:zH [.list (cs.map fun c=>eS (ct t b c))]=some r:=es
 simp only [qJ,Zd]
 simp_arith [ei,hz,hq,es]
theorem qfE {t:Tr}{m n:Nat}(ht:TrBd m t)(hm:m<=100)(hn:n<=1000){cs:List Sp}(hc:∀ c∈cs,BdS n c)(hl:cs.length<=900){r:PyData}(es:zH [.list ((cs.map (ct t z3)).map eS)]=some r):qJ [.list (cs.map eS),encT t,.none]=some r:=by
 have hq:=qa3 ht hm hn hc z3 (some (.list (cs.map eS))) (some .none)
 have ei:isNone .none=true:=rfl
 have hz:(cs.map eS).length<=1000:=by rw [List.length_map];omega
 rw [List.map_map] at es
 have es:zH [.list (cs.map fun c=>eS (ct t z3 c))]=some r:=es
 have p0:(PyData.tuple [.int 0,.int 0,.int 0])=eS z3:=rfl
 simp only [qJ,Zd]
 simp_arith [ei,p0,hz,hq,es]
theorem YG {t:Tr}(ht:t∈qN){n:Nat}(hn:n<=1000){c:Sp}(hc:BdS n c)(b:Sp):qG [encT t,eS b,eS c]=some (eS (ct t b c)):=by
 have k:2+n<=134217728:=by omega
 have e2:=qdC (qcb t ht).bd (qbh hc) (by omega)
 rw [qbL] at e2
 obtain ⟨h1,h2,h3⟩:=qfT t ht c
 have i0:∀ m:Sp3,ixD (encS m) (.int 0)=some (.int m.x):=fun _=>rfl
 have i1:∀ m:Sp3,ixD (encS m) (.int 1)=some (.int m.y):=fun _=>rfl
 have i2:∀ m:Sp3,ixD (encS m) (.int 2)=some (.int m.z):=fun _=>rfl
 have q1:∀ x:Int,x % 2=1->(x-1) / 2=x / 2:=fun x h=>by omega
 simp only [qG,QX]
 simp_arith [ixe0,ixe1,ixe2,qU (bd2.ok hc.1 k),qU (bd2.ok hc.2.1 k),qU (bd2.ok hc.2.2 k),e2,i0,i1,i2,q1 _ h1,q1 _ h2,q1 _ h3]
 rfl
theorem qbw {ys:List Sp}(hl:ys.length<=900):zu [.list (ys.map eS),.list (ys.map eS)]=some (.bool true):=by
 have hb:(-1000:Int)<=(((ys.map eS).length:Nat):Int)/\(((ys.map eS).length:Nat):Int)<=1000:=by rw [List.length_map];omega
 obtain ⟨ρ',e,o,rfl⟩:=Z2 (fun k:Nat=>PyData.int (k:Nat)) (g:=gNm 2) (u:=(sIf (tN (tV (evC 2 (aC (ev2 (vr 0) (vr 2) ixD) (aC (ev2 (vr 1) (vr 2) ixD) aN)) zq))) (sRet (kd (.bool false))) sN))
  (fun done ρ=>∃ o,ρ=[some (.list (ys.map eS)),some (.list (ys.map eS)),o]) (List.range ys.length) [some (.list (ys.map eS)),some (.list (ys.map eS)),none] ⟨none,rfl⟩ (by
   rintro k hk done ρ-⟨o,rfl⟩
   obtain ⟨y,-,ey⟩:=qcX eS hk
   refine ⟨_,?_,some (.int (k:Nat)),rfl⟩
   have et:zq [eS y,eS y]=some (.bool true):=qai (o3 y)
   simp_arith [ey,et])
 have hr:rngL 0 ((((ys.map eS).length:Nat):Int)).toNat=(List.range ys.length).map fun k:Nat=>PyData.int (k:Nat):=by
  rw [Int.toNat_natCast,List.length_map,Y4]
 have hne:neD (.int (((ys.map eS).length:Nat):Int)) (.int (((ys.map eS).length:Nat):Int))=some (.bool false):=by rw [qbX];simp
 have e5:(if (-1000:Int)<=(((ys.map eS).length:Nat):Int)/\(((ys.map eS).length:Nat):Int)<=1000 then some (rngL 0 ((((ys.map eS).length:Nat):Int)).toNat) else none)=some ((List.range ys.length).map fun k:Nat=>PyData.int (k:Nat)):=by rw [if_pos hb,hr]
 simp only [zu,QZ]
 simp_arith [beq_self_eq_true,e5,e]
theorem ct_ct {t:Tr}(ht:t∈qN)(u:Tr)(c:Sp):ct u z3 (ct t z3 c)=ct (mulT t u) z3 c:=by
 obtain ⟨h1,h2,h3⟩:=qfT t ht c
 have e:o3 (mid (ct t z3 c))=app t (o3 (mid c)):=by
  generalize hm:app t (o3 (mid c))=m at *
  have hc:ct t z3 c=half m z3:=by unfold ct;rw [hm]
  rw [hc]
  unfold o3 mid half z3
  cases m
  congr 1<;>dsimp only at *<;>omega
 show half (app u (o3 (mid (ct t z3 c)))) z3=half (app (mulT t u) (o3 (mid c))) z3
 rw [e,qcV]
end SF
namespace SF
open PySem L2
structure Slo {α:Type}(lt:α->α->Bool):Prop where
 irr:∀ a,lt a a=false
 tr:∀ a b c,lt a b=true->lt b c=true->lt a c=true
 tri:∀ a b,lt a b=false->lt b a=false->a=b
theorem Slo.le {α:Type}{lt:α->α->Bool}(S:Slo lt){a b c:α}(h1:lt b a=false)(h2:lt c b=false):lt c a=false:=by
 cases h:lt c a with
 | false=>rfl
 | true =>
  cases k:lt a b with
  | true=>rw [S.tr c a b h k] at h2;cases h2
  | false=>rw [S.tri a b k h1] at h;rw [h] at h2;cases h2
theorem Slo.comap {α β:Type}{lt:α->α->Bool}(S:Slo lt)(f:β->α)(inj:∀ x y,f x=f y->x=y):Slo fun x y=>lt (f x) (f y) :=
 ⟨fun a=>S.irr _,fun a b c=>S.tr _ _ _,fun a b h1 h2=>inj _ _ (S.tri _ _ h1 h2)⟩
def ltI (a b:Int):Bool:=decide (a<b)
theorem Ju:Slo ltI:=by
 refine ⟨fun a=>decide_eq_false (by omega),fun a b c h1 h2=>?_,fun a b h1 h2=>?_⟩
 ·have h1:=of_decide_eq_true h1
  have h2:=of_decide_eq_true h2
  exact decide_eq_true (by omega)
 ·have h1:=of_decide_eq_false h1
  have h2:=of_decide_eq_false h2
  omega
def lexB {α:Type}[DecidableEq α](lt:α->α->Bool):List α->List α->Bool
 | [],[]=>false
 | [],_::_=>true
 | _::_,[]=>false
 | x::xs,y::ys=>if x=y then lexB lt xs ys else lt x y
section
variable {α:Type}[DecidableEq α]{lt:α->α->Bool}
theorem qbS (S:Slo lt):∀ a:List α,lexB lt a a=false
 | []=>rfl
 | x::xs=>by rw [lexB,if_pos rfl];exact qbS S xs
theorem qds (S:Slo lt):∀ a b c:List α,lexB lt a b=true->lexB lt b c=true->lexB lt a c=true
 | [],[],_,h,_=>by cases h
 | [],_::_,[],_,h=>by cases h
 | [],_::_,_::_,_,_=>rfl
 | _::_,[],_,h,_=>by cases h
 | _::_,_::_,[],_,h=>by cases h
 | x::xs,y::ys,z::zs,h1,h2=>by
  rw [lexB] at h1 h2 ⊢
  by_cases e1:x=y
  ·subst e1
   rw [if_pos rfl] at h1
   by_cases e2:x=z
   ·rw [if_pos e2] at h2 ⊢;exact qds S xs ys zs h1 h2
   ·rw [if_neg e2] at h2 ⊢;exact h2
  ·rw [if_neg e1] at h1
   by_cases e2:y=z
   ·subst e2
    rw [if_neg e1];exact h1
   ·rw [if_neg e2] at h2
    have:=S.tr x y z h1 h2
    rw [if_neg (fun e=>by subst e;rw [S.irr] at this;cases this)]
    exact this
theorem qbT (S:Slo lt):∀ a b:List α,lexB lt a b=false->lexB lt b a=false->a=b
 | [],[],_,_=>rfl
 | [],_::_,h,_=>by cases h
 | _::_,[],_,h=>by cases h
 | x::xs,y::ys,h1,h2=>by
  rw [lexB] at h1 h2
  by_cases e:x=y
  ·subst e
   rw [if_pos rfl] at h1 h2
   rw [qbT S xs ys h1 h2]
  ·rw [if_neg e] at h1
   rw [if_neg (Ne.symm e)] at h2
   exact absurd (S.tri x y h1 h2) e
theorem qb8 (S:Slo lt):Slo (lexB lt):=⟨qbS S,qds S,qbT S⟩
theorem YK {e:α->PyData}(he:∀ a b,PyData.eqv (e a) (e b)=decide (a=b))(hl:∀ a b,ltX (e a) (e b)=some (lt a b)):∀ xs ys:List α,ltXs (xs.map e) (ys.map e)=some (lexB lt xs ys)
 | [],[]=>rfl
 | [],_::_=>rfl
 | _::_,[]=>rfl
 | x::xs,y::ys=>by
  rw [List.map_cons,List.map_cons,ltXs,lexB,he]
  by_cases h:x=y
  ·rw [if_pos (decide_eq_true h),if_pos h];exact YK he hl xs ys
  ·rw [if_neg (by rw [decide_eq_false h];decide),if_neg h];exact hl x y
end
theorem qeK (a b:Int):PyData.eqv (.int a) (.int b)=decide (a=b):=by
 have:PyData.eqv (.int a) (.int b)=(a==b):=rfl
 rw [this]
 by_cases h:a=b<;>simp [h]
theorem qbU (a b:Int):ltX (.int a) (.int b)=some (ltI a b):=by rw [ltX];rfl
def ltS (a b:Sp):Bool:=lexB ltI (l3 a) (l3 b)
theorem slo_S:Slo ltS:=(qb8 Ju).comap l3 fun _ _ h=>qgI h
theorem qgM (a b:Sp):ltX (eS a) (eS b)=some (ltS a b):=by
 have:ltX (eS a) (eS b)=ltXs ((l3 a).map .int) ((l3 b).map .int):=by unfold eS;rw [ltX];rfl
 rw [this]
 exact YK qeK qbU _ _
def ltL (a b:List Sp):Bool:=lexB ltS a b
theorem qb7:Slo ltL:=qb8 slo_S
theorem qdz (a b:List Sp):ltX (.list (a.map eS)) (.list (b.map eS))=some (ltL a b):=by
 rw [ltX]
 exact YK Yx qgM _ _
def IsL {α:Type}(lt:α->α->Bool)(xs:List α)(m:α):Prop:=m∈xs/\∀ x∈xs,lt x m=false
theorem IsL.uniq {α:Type}{lt:α->α->Bool}(S:Slo lt){xs ys:List α}{m n:α}(h:IsL lt xs m)(k:IsL lt ys n)(h1:∀ x∈xs,x∈ys)(h2:∀ y∈ys,y∈xs):m=n :=
 S.tri m n (k.2 m (h1 m h.1)) (h.2 n (h2 n k.1))
theorem w6 {α:Type}{e:α->PyData}{lt:α->α->Bool}(S:Slo lt)(hlt:∀ a b,ltX (e a) (e b)=some (lt a b))(hs:∀ a,SeqAt.shaped (e a)=true)(hd:∀ a,(e a).depth<=50){xs:List α}(h0:0<xs.length)(hz:xs.length<=900) :
  ∃ m,IsL lt xs m/\j9 [.list (xs.map e)]=some (e m):=by
 have ok:Jl (xs.map e)=true:=by
  unfold Jl
  rw [List.all_map,List.all_eq_true]
  intro a _
  show (SeqAt.shaped (e a)&&decide ((e a).depth<=50)&&(xs.map e).all fun d=>(ltX (e a) d).isSome)=true
  rw [hs,decide_eq_true (hd a),List.all_map]
  exact List.all_eq_true.mpr fun b _=>by show (ltX (e a) (e b)).isSome=true;rw [hlt];rfl
 have hb:∀ i j:Nat,(hi:i<xs.length)->(hj:j<xs.length)->zQ (xs.map e) i j=lt xs[i] xs[j]:=fun i j hi hj=>by
  unfold zQ
  rw [List.getElem?_map,List.getElem?_map,List.getElem?_eq_getElem hi,List.getElem?_eq_getElem hj]
  show (ltX (e xs[i]) (e xs[j])).getD false=_
  rw [hlt];rfl
 have key:∀ k,k<xs.length->∀ j,j<=k->(hj:j<xs.length)->(hi:bestOf (zQ (xs.map e)) k<xs.length)->lt xs[j] xs[bestOf (zQ (xs.map e)) k]=false:=by
  intro k
  induction k with
  | zero =>
   intro _ j hj hj' hi
   have:j=0:=by omega
   subst this
   exact S.irr _
  | succ k ih =>
   intro hk j hj hj' hi
   have hle:=jy (zQ (xs.map e)) k
   have hkk:bestOf (zQ (xs.map e)) k<xs.length:=by omega
   have ih:=fun j hj hj'=>ih (by omega) j hj hj' hkk
   by_cases hc:zQ (xs.map e) (k+1) (bestOf (zQ (xs.map e)) k)=true
   ·have e1:bestOf (zQ (xs.map e)) (k+1)=k+1:=by rw [bestOf,if_pos hc]
    rw [hb _ _ hk hkk] at hc
    simp only [e1]
    by_cases hj2:j=k+1
    ·subst hj2;exact S.irr _
    ·refine S.le ?_ (ih j (by omega) hj')
     cases q:lt xs[bestOf (zQ (xs.map e)) k] xs[k+1] with
     | false=>rfl
     | true=>rw [← S.irr xs[k+1]];exact (S.tr _ _ _ hc q).symm
   ·have e1:bestOf (zQ (xs.map e)) (k+1)=bestOf (zQ (xs.map e)) k:=by rw [bestOf,if_neg hc]
    rw [hb _ _ hk hkk] at hc
    simp only [e1]
    by_cases hj2:j=k+1
    ·subst hj2;exact Bool.eq_false_iff.mpr hc
    ·exact ih j (by omega) hj'
 have hle:=jy (zQ (xs.map e)) (xs.length-1)
 have hi:bestOf (zQ (xs.map e)) (xs.length-1)<xs.length:=by omega
 refine ⟨xs[bestOf (zQ (xs.map e)) (xs.length-1)],⟨List.getElem_mem hi,fun x hx=>?_⟩,?_⟩
 ·obtain ⟨j,hj,rfl⟩:=List.getElem_of_mem hx
  exact key _ (by omega) j (by omega) hj hi
 ·show (if Jl (xs.map e)=true/\(xs.map e).length<=1000 then (xs.map e)[bestOf (zQ (xs.map e)) ((xs.map e).length-1)]? else none)=_
  rw [if_pos ⟨ok,by rw [List.length_map];omega⟩,List.length_map,List.getElem?_map,List.getElem?_eq_getElem hi]
  rfl
theorem qat {xs:List Sp}:(PyData.list (xs.map eS)).depth<=50:=by
 have:=(Yp xs).2
 rw [PyData.depth]
 omega
theorem qab (xs:List Sp):SeqAt.shaped (.list (xs.map eS))=true:=Zi xs
theorem J5 {xs:List Int}(h0:0<xs.length)(hz:xs.length<=900):∃ m,IsL ltI xs m/\j9 [.list (xs.map .int)]=some (.int m) :=
 w6 Ju qbU (fun _=>rfl) (fun _=>by show (0:Nat)<=50;decide) h0 hz
theorem qcB {xs:List (List Sp)}(h0:0<xs.length)(hz:xs.length<=900):∃ m,IsL ltL xs m/\j9 [.list (xs.map fun y=>.list (y.map eS))]=some (.list (m.map eS)) :=
 w6 (e:=fun y:List Sp=>.list (y.map eS)) qb7 qdz qab (fun _=>qat) h0 hz
end SF
namespace SF
open PySem L2
def mx (c k:Int):Int:=((c % 1000000007+7*k*k+13*k+5)*48271 % 2147483647*69621+k) % 1000000007*40692 % 2147483399
theorem mx_bd (c k:Int):0<=mx c k/\mx c k<2147483399:=⟨Int.emod_nonneg _ (by decide),Int.emod_lt_of_pos _ (by decide)⟩
theorem W4 (c:Int){k:Int}(h0:0<=k)(hk:k<=200):Qa [.int c,.int k]=some (.int (mx c k)):=by
 have q0:0<=k*k:=Int.mul_nonneg h0 h0
 have q1:k*k<=200*200:=Int.mul_le_mul hk hk h0 (by decide)
 have e7:7*k*k=7*(k*k):=Int.mul_assoc _ _ _
 have r0:=Int.emod_nonneg c (b:=1000000007) (by decide)
 have r1:=Int.emod_lt_of_pos c (b:=1000000007) (by decide)
 have m1:mulD (.int 7) (.int k)=some (.int (7*k)):=qU (Bd.ok (n:=10) (m:=20) (Bd.of (by decide)) (Bd.of (by omega)))
 have m2:mulD (.int (7*k)) (.int k)=some (.int (7*k*k)):=qU (Bd.ok (n:=20) (m:=20) (Bd.of (by omega)) (Bd.of (by omega)))
 have m3:mulD (.int 13) (.int k)=some (.int (13*k)):=qU (Bd.ok (n:=10) (m:=20) (Bd.of (by decide)) (Bd.of (by omega)))
 have m4:mulD (.int (c % 1000000007+7*k*k+13*k+5)) (.int 48271)=some (.int ((c % 1000000007+7*k*k+13*k+5)*48271)):=by
  refine qU (Bd.ok (n:=40) (m:=20) (Bd.of ?_) (Bd.of (by decide)))
  rw [e7];omega
 have m5:mulD (.int ((c % 1000000007+7*k*k+13*k+5)*48271 % 2147483647)) (.int 69621)=some (.int ((c % 1000000007+7*k*k+13*k+5)*48271 % 2147483647*69621)):=by
  have a0:=Int.emod_nonneg ((c % 1000000007+7*k*k+13*k+5)*48271) (b:=2147483647) (by decide)
  have a1:=Int.emod_lt_of_pos ((c % 1000000007+7*k*k+13*k+5)*48271) (b:=2147483647) (by decide)
  exact qU (Bd.ok (n:=40) (m:=20) (Bd.of (by omega)) (Bd.of (by decide)))
 have m6:∀ z:Int,mulD (.int (z % 1000000007)) (.int 40692)=some (.int (z % 1000000007*40692)):=fun z=>by
  have a0:=Int.emod_nonneg z (b:=1000000007) (by decide)
  have a1:=Int.emod_lt_of_pos z (b:=1000000007) (by decide)
  exact qU (Bd.ok (n:=40) (m:=20) (Bd.of (by omega)) (Bd.of (by decide)))
 simp only [Qa,jW]
 simp_arith [m1,m2,m3,m4,m5,m6]
 rfl
theorem qgQ (ns:List Int){i m:Int}(hi:0<=i)(hm:1<=m):∃ v,Q3 [.list (ns.map .int),.int i,.int m]=some (.int v)/\1<=v/\v<=m:=by
 have c0:=cell_eq ns i hi
 cases h:qK ns i % 2==1 with
 | true =>
  refine ⟨m,?_,hm,Int.le_refl _⟩
  simp only [Q3,jh]
  simp_arith [c0,h]
 | false =>
  have e:=W4 (qK ns i) (k:=77) (by decide) (by decide)
  have a0:=Int.emod_nonneg (mx (qK ns i) 77) (b:=m) (by omega)
  have a1:=Int.emod_lt_of_pos (mx (qK ns i) 77) (b:=m) (by omega)
  have md:modD (.int (mx (qK ns i) 77)) (.int m)=some (.int (mx (qK ns i) 77 % m)):=jN _ (by omega)
  refine ⟨1+mx (qK ns i) 77 % m,?_,by omega,by omega⟩
  simp only [Q3,jh]
  simp_arith [c0,h,e,md]
theorem qfY {m:Int}(h0:0<=m)(h1:m<=900):(if (-1000:Int)<=m/\m<=1000 then some (rngL 0 m.toNat) else none)=some ((List.range m.toNat).map fun k:Nat=>PyData.int (k:Nat)):=by
 rw [if_pos (by omega),Y4]
theorem qah (ns:List Int){i b:Int}(hi:0<=i)(hb:b=36\/b=312):∃ ms:List Int,Qc [.list (ns.map .int),.int i,.int b]=some (.list (ms.map .int))/\ms.length<=60:=by
 have c0:=cell_eq ns i hi
 have hb0:0<b:=by omega
 cases h:qK ns i % 2==1 with
 | true =>
  have a0:=Int.emod_nonneg (qK ns i / 2) (b:=61) (by decide)
  have a1:=Int.emod_lt_of_pos (qK ns i / 2) (b:=61) (by decide)
  generalize hM:qK ns i / 2 % 61=M at *
  have er:=qfY a0 (by omega)
  have md:∀ z:Int,modD (.int z) (.int b)=some (.int (z % b)):=fun z=>jN _ hb0
  have fd:∀ z:Int,Q6 (.int z) (.int b)=some (.int (z / b)):=fun z=>Yy _ hb0 (by omega)
  have f61:∀ z:Int,Q6 (.int z) (.int 61)=some (.int (z / 61)):=fun z=>Yy _ (by decide) (by decide)
  have m61:modD (.int (qK ns i / 2)) (.int 61)=some (.int M):=by rw [← hM];exact jN _ (by decide)
  obtain ⟨ρ',e,r,ms,o7,rfl,hl⟩:=Z2 (fun k:Nat=>PyData.int (k:Nat)) (g:=gNm 7) (u:=(seqO (sApp 6 (ev2 (vr 4) (vr 2) modD)) (sSet 4 (ev2 (vr 4) (vr 2) Q6))))
   (fun done ρ=>∃ (r:Int) (ms:List Int) (o7:Option PyData),ρ=[some (.list (ns.map .int)),some (.int i),some (.int b),some (.int (qK ns i)),some (.int r),some (.int M),some (.list (ms.map .int)),o7]/\ms.length=done.length) (List.range M.toNat) [some (.list (ns.map .int)),some (.int i),some (.int b),some (.int (qK ns i)),some (.int (qK ns i / 2 / 61)),some (.int M),some (.list []),none] ⟨_,[],none,rfl,rfl⟩ (by
    rintro k hk done ρ hdl ⟨r,ms,o7,rfl,hl⟩
    have hz:(ms.map PyData.int).length<1000:=by rw [List.length_map,hl];rw [List.length_range] at hdl;omega
    refine ⟨_,?_,r / b,ms++[r % b],some (.int (k:Nat)),rfl,by simp [hl]⟩
    simp_arith [md,fd,hz]
    simp only [List.map_append,List.map_cons,List.map_nil])
  rw [List.length_range] at hl
  refine ⟨ms,?_,by omega⟩
  simp only [Qc,ZP]
  simp_arith [c0,h,m61,f61,er,e]
 | false =>
  have e3:=W4 (qK ns i) (k:=3) (by decide) (by decide)
  have a0:=Int.emod_nonneg (mx (qK ns i) 3) (b:=61) (by decide)
  have a1:=Int.emod_lt_of_pos (mx (qK ns i) 3) (b:=61) (by decide)
  generalize hM:mx (qK ns i) 3 % 61=M at *
  have m61:modD (.int (mx (qK ns i) 3)) (.int 61)=some (.int M):=by rw [← hM];exact jN _ (by decide)
  have er:=qfY a0 (by omega)
  have hz:((List.range M.toNat).map fun k:Nat=>PyData.int (k:Nat)).length<=1000:=by rw [List.length_map,List.length_range];omega
  have hc:∀ o4 o6 o7:Option PyData,zR tT (evC 2 (aC (evC 2 (aC (vr 0) (aC (ev2 (ev2 (vr 1) (kd (.int 1)) qW) (vr 8) qW) aN)) qR) (aC (ev2 (vr 8) (vr 5) qW) aN)) Qa) [some (.list (ns.map .int)),some (.int i),some (.int b),some (.int (qK ns i)),o4,some (.int M),o6,o7] ((List.range M.toNat).map fun k:Nat=>PyData.int (k:Nat))=some ((List.range M.toNat).map fun k:Nat=>PyData.int (mx (qK ns (i+1+(k:Nat))) ((k:Nat)+M))):=fun o4 o6 o7=>zK (fun k:Nat=>PyData.int (k:Nat)) _ _ fun k hk=>by
   have hk:=List.mem_range.mp hk
   have ec:=cell_eq ns (i+1+(k:Nat)) (by omega)
   have em:=W4 (qK ns (i+1+(k:Nat))) (k:=(k:Nat)+M) (by omega) (by omega)
   simp_arith [ec,em]
  refine ⟨(List.range M.toNat).map fun k:Nat=>mx (qK ns (i+1+(k:Nat))) ((k:Nat)+M),?_,by rw [List.length_map,List.length_range];omega⟩
  simp only [Qc,ZP]
  simp_arith [c0,h,e3,m61,er,hz,hc]
  rw [List.map_map]
  rfl
theorem qdI {c:Int}(h:Bd 1048576 c):∃ v,QQ [.int c]=some (.int v)/\Bd 70 v:=by
 have hm:mulD (.int (c / 4)) (.int (7919 ^ 6))=some (.int (c / 4*7919 ^ 6)):=qU ((h.div (by decide)).ok (Bd.of (n:=104) (by decide)))
 have hm2:mulD (.int 2) (.int (10 ^ 19))=some (.int (2*10 ^ 19)):=rfl
 have md:∀ z:Int,modD (.int z) (.int (2*10 ^ 19+1))=some (.int (z % (2*10 ^ 19+1))):=fun z=>rfl
 have p19:powD (.int 10) (.int 19)=some (.int (10 ^ 19)):=rfl
 have p6:powD (.int 7919) (.int 6)=some (.int (7919 ^ 6)):=rfl
 have bd:∀ z:Int,Bd 70 (z % (2*10 ^ 19+1)-10 ^ 19):=fun z=>by
  have a0:=Int.emod_nonneg z (b:=2*10 ^ 19+1) (by decide)
  have a1:=Int.emod_lt_of_pos z (b:=2*10 ^ 19+1) (by decide)
  exact Bd.of (by omega)
 simp only [QQ,jt]
 cases h1:c % 4==1 with
 | true=>exact ⟨_,by simp_arith [h1,p19,hm2,md],bd (c / 4)⟩
 | false =>
  cases h2:c % 4==2 with
  | true =>
   have h3:c / 4 % 2=0\/c / 4 % 2=1:=by omega
   rcases h3 with h3|h3
   ·exact ⟨10 ^ 19,by simp_arith [h1,h2,h3,p19],Bd.of (by decide)⟩
   ·exact ⟨-10 ^ 19,by simp_arith [h1,h2,h3,p19],Bd.of (by decide)⟩
  | false =>
   cases h3:c % 4==3 with
   | true=>exact ⟨_,by simp_arith [h1,h2,h3,p6,p19,hm,hm2,md],bd (c / 4*7919 ^ 6)⟩
   | false=>exact ⟨c / 4 % 11-5,by simp_arith [h1,h2,h3],Bd.of (by omega)⟩
theorem qfD {ns:List Int}(h:∀ k∈ns,Builtin.Int.intBits k<=2 ^ 20){i:Int}(hi:0<=i):∃ b:Sp,Zb [.list (ns.map .int),.int i]=some (eS b)/\BdS 70 b:=by
 obtain ⟨x,ex,bx⟩:=qdI (Wq h (i+0))
 obtain ⟨y,ey,yb⟩:=qdI (Wq h (i+1))
 obtain ⟨z,ez,zb⟩:=qdI (Wq h (i+2))
 refine ⟨(x,y,z),?_,bx,yb,zb⟩
 simp only [Zb,jX]
 simp_arith [cell_eq ns (i+0) (by omega),cell_eq ns (i+1) (by omega),cell_eq ns (i+2) (by omega),ex,ey,ez]
 rfl
theorem qhP (x:Int):∃ u:Sp,Ja 1 u/\atI [S3 1 0 0,S3 (-1) 0 0,S3 0 1 0,S3 0 (-1) 0,S3 0 0 1,S3 0 0 (-1)] (x % 6)=some (eS u):=by
 have h6:x % 6=0\/x % 6=1\/x % 6=2\/x % 6=3\/x % 6=4\/x % 6=5:=by omega
 rcases h6 with h|h|h|h|h|h<;>rw [h]
 ·exact ⟨(1,0,0),by unfold Ja;decide,atI0 _ _⟩
 ·exact ⟨(-1,0,0),by unfold Ja;decide,atI1 _ _ _⟩
 ·exact ⟨(0,1,0),by unfold Ja;decide,atI2 _ _ _ _⟩
 ·exact ⟨(0,-1,0),by unfold Ja;decide,atI3 _ _ _ _ _⟩
 ·exact ⟨(0,0,1),by unfold Ja;decide,atI4 _ _ _ _ _ _⟩
 ·exact ⟨(0,0,-1),by unfold Ja;decide,atI5 _ _ _ _ _ _ _⟩
structure Sd (n:Nat)(cs:List Sp):Prop where
 h0:0<cs.length
 h1:cs.length<=n
 hr:(cs.map l3).Pairwise (fun a b=>HT.lexLt b a=false)
 hb:∀ c∈cs,BdS 100 c
theorem qac (ms:List Int)(hms:ms.length<=60){mo:Int}(h1:1<=mo)(h6:mo<=6):∃ cs:List Sp,Ql [.list (ms.map .int),.int mo]=some (.list (cs.map eS))/\Sd 6 cs:=by
 obtain ⟨ρ',e,cs,o3,o4,o5,o6,rfl,g0,g1,g2⟩:=Z2 PyData.int (g:=gNm 3) (u:=(seqO (sSet 4 (wK (ev2 (vr 2) (ev2 (ev2 (vr 3) (kd (.int 6)) Q6) (evA (aC (vr 2) aN) lenD) modD) ixD))) (seqO (sSet 5 (ev2 (evC0 zG) (ev2 (vr 3) (kd (.int 6)) modD) ixD)) (seqO (sSet 6 (evA (aC (ev2 (ev2 (vr 4) (kd (.int 0)) ixD) (ev2 (vr 5) (kd (.int 0)) ixD) qW) (aC (ev2 (ev2 (vr 4) (kd (.int 1)) ixD) (ev2 (vr 5) (kd (.int 1)) ixD) qW) (aC (ev2 (ev2 (vr 4) (kd (.int 2)) ixD) (ev2 (vr 5) (kd (.int 2)) ixD) qW) aN))) tupD)) (sIf (tA (tV (ev2 (vr 6) (vr 2) ninD)) (tV (ev2 (evA (aC (vr 2) aN) lenD) (vr 1) ltD2))) (sApp 2 (vr 6)) sN)))))
  (fun done ρ=>∃ (cs:List Sp) (o3 o4 o5 o6:Option PyData),ρ=[some (.list (ms.map .int)),some (.int mo),some (.list (cs.map eS)),o3,o4,o5,o6]/\0<cs.length/\(cs.length:Int)<=mo/\∀ c∈cs,Ja done.length c) ms [some (.list (ms.map .int)),some (.int mo),some (.list [eS (0,0,0)]),none,none,none,none] ⟨[(0,0,0)],none,none,none,none,rfl,by decide,by simpa using h1,fun c hc=>by rw [List.mem_singleton.mp hc];unfold Ja;decide⟩ (by
   rintro x hx done ρ hdl ⟨cs,o3,o4,o5,o6,rfl,g0,g1,g2⟩
   obtain ⟨c,hc,ec⟩:=qbK (x / 6) g0
   obtain ⟨u,hu,eu⟩:=qhP x
   have e3:modD (.int (x / 6)) (.int (((cs.map eS).length:Nat):Int))=some (.int (x / 6 % (cs.length:Int))):=by rw [List.length_map];exact jN _ (by omega)
   have e4:atI (cs.map eS) (x / 6 % (cs.length:Int))=some (eS c):=JX (Int.emod_nonneg _ (by omega)) ec
   have hlen:(done++[x]).length=done.length+1:=by simp
   have hn:ninD (.tuple [.int (c.1+u.1),.int (c.2.1+u.2.1),.int (c.2.2+u.2.2)]) (.list (cs.map eS))=some (.bool (!decide ((c.1+u.1,c.2.1+u.2.1,c.2.2+u.2.2)∈cs))):=qbY cs (c.1+u.1,c.2.1+u.2.1,c.2.2+u.2.2)
   have keep:∀ d∈cs,Ja (done.length+1) d:=fun d hd=>by obtain ⟨a1,a2,a3⟩:=g2 d hd;exact ⟨by omega,by omega,by omega⟩
   by_cases hin:(c.1+u.1,c.2.1+u.2.1,c.2.2+u.2.2)∈cs
   ·refine ⟨_,?_,cs,some (.int x),some (eS c),some (eS u),some (eS (c.1+u.1,c.2.1+u.2.1,c.2.2+u.2.2)),rfl,g0,g1,by rw [hlen];exact keep⟩
    simp_arith [e3,e4,Wx,yl,eu,ixe0,ixe1,ixe2,hn,decide_eq_true hin]
    rfl
   ·cases hlt:decide ((((cs.map eS).length:Nat):Int)<mo) with
    | false =>
     refine ⟨_,?_,cs,some (.int x),some (eS c),some (eS u),some (eS (c.1+u.1,c.2.1+u.2.1,c.2.2+u.2.2)),rfl,g0,g1,by rw [hlen];exact keep⟩
     simp_arith [e3,e4,Wx,yl,eu,ixe0,ixe1,ixe2,hn,decide_eq_false hin,hlt]
     rfl
    | true =>
     have hlt':=of_decide_eq_true hlt
     rw [List.length_map] at hlt'
     refine ⟨_,?_,cs++[(c.1+u.1,c.2.1+u.2.1,c.2.2+u.2.2)],some (.int x),some (eS c),some (eS u),some (eS (c.1+u.1,c.2.1+u.2.1,c.2.2+u.2.2)),rfl,by simp,by rw [List.length_append,List.length_singleton];omega,fun d hd=>?_⟩
     ·have hz:(cs.map eS).length<1000:=by rw [List.length_map];omega
      simp_arith [e3,e4,Wx,yl,eu,ixe0,ixe1,ixe2,hn,decide_eq_false hin,hlt,hz]
      simp only [List.map_append,List.map_cons,List.map_nil,eS]
     ·rw [hlen]
      rcases List.mem_append.mp hd with q|q
      ·exact keep d q
      ·rw [List.mem_singleton.mp q]
       obtain ⟨a1,a2,a3⟩:=g2 c hc
       obtain ⟨b1,b2,b3⟩:=hu
       exact ⟨by dsimp only;omega,by dsimp only;omega,by dsimp only;omega⟩)
 obtain ⟨ys,es,p,o⟩:=Zj (xs:=cs) (by omega)
 refine ⟨ys,?_,by rw [p.length_eq];exact g0,by rw [p.length_eq];omega,o,fun c hc=>?_⟩
 ·have p0:(PyData.tuple [.int 0,.int 0,.int 0])=eS (0,0,0):=rfl
  simp only [Ql,jY]
  simp_arith [p0,e,es]
 ·obtain ⟨a1,a2,a3⟩:=g2 c (p.mem_iff.mp hc)
  exact ⟨Bd.of (by omega),Bd.of (by omega),Bd.of (by omega)⟩
end SF
namespace SF
open PySem L2
def pl (a b:Sp):Sp:=(a.1+b.1,a.2.1+b.2.1,a.2.2+b.2.2)
def mi (a b:Sp):Sp:=(a.1-b.1,a.2.1-b.2.1,a.2.2-b.2.2)
abbrev Ris (z:List Sp):Prop:=(z.map l3).Pairwise (fun a b=>HT.lexLt b a=false)
def Zy:List Tr:=[⟨-1,0,0,0,-1,0,0,0,1⟩,⟨-1,0,0,0,0,-1,0,-1,0⟩,⟨-1,0,0,0,0,1,0,1,0⟩,⟨-1,0,0,0,1,0,0,0,-1⟩,⟨0,-1,0,-1,0,0,0,0,-1⟩,⟨0,-1,0,0,0,-1,1,0,0⟩,⟨0,-1,0,0,0,1,-1,0,0⟩,⟨0,-1,0,1,0,0,0,0,1⟩,⟨0,0,-1,-1,0,0,0,1,0⟩,⟨0,0,-1,0,-1,0,-1,0,0⟩,⟨0,0,-1,0,1,0,1,0,0⟩,⟨0,0,-1,1,0,0,0,-1,0⟩,⟨0,0,1,-1,0,0,0,-1,0⟩,⟨0,0,1,0,-1,0,1,0,0⟩,⟨0,0,1,0,1,0,-1,0,0⟩,⟨0,0,1,1,0,0,0,1,0⟩,⟨0,1,0,-1,0,0,0,0,1⟩,⟨0,1,0,0,0,-1,-1,0,0⟩,⟨0,1,0,0,0,1,1,0,0⟩,⟨0,1,0,1,0,0,0,0,-1⟩,⟨1,0,0,0,-1,0,0,0,-1⟩,⟨1,0,0,0,0,-1,0,1,0⟩,⟨1,0,0,0,0,1,0,-1,0⟩,⟨1,0,0,0,1,0,0,0,1⟩]
def QM:List Tr:=[⟨1,0,0,0,1,0,0,0,1⟩,⟨-1,0,0,0,1,0,0,0,-1⟩,⟨0,1,0,1,0,0,0,0,-1⟩,⟨0,-1,0,1,0,0,0,0,1⟩,⟨0,0,1,1,0,0,0,1,0⟩,⟨0,0,-1,1,0,0,0,-1,0⟩,⟨1,0,0,0,-1,0,0,0,-1⟩,⟨-1,0,0,0,-1,0,0,0,1⟩,⟨0,1,0,-1,0,0,0,0,1⟩,⟨0,-1,0,-1,0,0,0,0,-1⟩,⟨0,0,1,-1,0,0,0,-1,0⟩,⟨0,0,-1,-1,0,0,0,1,0⟩,⟨1,0,0,0,0,1,0,-1,0⟩,⟨-1,0,0,0,0,1,0,1,0⟩,⟨0,1,0,0,0,1,1,0,0⟩,⟨0,-1,0,0,0,1,-1,0,0⟩,⟨0,0,1,0,1,0,-1,0,0⟩,⟨0,0,-1,0,1,0,1,0,0⟩,⟨1,0,0,0,0,-1,0,1,0⟩,⟨-1,0,0,0,0,-1,0,-1,0⟩,⟨0,1,0,0,0,-1,-1,0,0⟩,⟨0,-1,0,0,0,-1,1,0,0⟩,⟨0,0,1,0,-1,0,1,0,0⟩,⟨0,0,-1,0,-1,0,-1,0,0⟩]
theorem qcU:Q4 []=some (.list (Zy.map encT)):=by kernel_rfl
theorem qaO:∀ t,t∈Zy↔t∈qN:=fun t=>⟨(by decide:∀ t∈Zy,t∈qN) t,(by decide:∀ t∈qN,t∈Zy) t⟩
theorem qfS:∀ t,t∈QM↔t∈qN:=fun t=>⟨(by decide:∀ t∈QM,t∈qN) t,(by decide:∀ t∈qN,t∈QM) t⟩
theorem Ye:∀ s∈qN,∀ t∈qN,mulT s t∈qN:=by decide +kernel
theorem qca:∀ t∈qN,trT t∈qN:=by decide
structure Lw (cs:List Sp)(b:Sp):Prop where
 x:IsL ltI (cs.map (·.1)) b.1
 y:IsL ltI (cs.map (·.2.1)) b.2.1
 z:IsL ltI (cs.map (·.2.2)) b.2.2
theorem WD {α:Type}{cs ds:List α}(f:α->Int)(hm:∀ c,c∈cs↔c∈ds){b:Int}(h:IsL ltI (cs.map f) b):IsL ltI (ds.map f) b:=by
 obtain ⟨h1,h2⟩:=h
 obtain ⟨c,hc,e⟩:=List.mem_map.mp h1
 refine ⟨List.mem_map.mpr ⟨c,(hm c).mp hc,e⟩,fun x hx=>?_⟩
 obtain ⟨d,hd,e⟩:=List.mem_map.mp hx
 exact h2 x (List.mem_map.mpr ⟨d,(hm d).mpr hd,e⟩)
theorem Lw.mem {cs ds:List Sp}{b:Sp}(h:Lw cs b)(hm:∀ c,c∈cs↔c∈ds):Lw ds b:=⟨WD _ hm h.x,WD _ hm h.y,WD _ hm h.z⟩
theorem Lw.uniq {cs:List Sp}{b d:Sp}(h:Lw cs b)(k:Lw cs d):b=d :=
 Prod.ext (h.x.uniq Ju k.x (fun _ z=>z) fun _ z=>z) (Prod.ext (h.y.uniq Ju k.y (fun _ z=>z) fun _ z=>z) (h.z.uniq Ju k.z (fun _ z=>z) fun _ z=>z))
theorem Wz {xs:List Int}{b:Int}(s:Int)(h:IsL ltI xs b):IsL ltI (xs.map (·+s)) (b+s):=by
 refine ⟨List.mem_map.mpr ⟨b,h.1,rfl⟩,fun x hx=>?_⟩
 obtain ⟨y,hy,rfl⟩:=List.mem_map.mp hx
 have:=of_decide_eq_false (h.2 y hy)
 exact decide_eq_false (by omega)
theorem Lw.shift {cs:List Sp}{b:Sp}(h:Lw cs b)(s:Sp):Lw (cs.map fun c=>pl c s) (pl b s):=by
 have e1:=Wz s.1 h.x
 have e2:=Wz s.2.1 h.y
 have e3:=Wz s.2.2 h.z
 rw [List.map_map] at e1 e2 e3
 refine ⟨?_,?_,?_⟩<;>rw [List.map_map]
 ·exact e1
 ·exact e2
 ·exact e3
theorem qbf {cs:List Sp}(h0:0<cs.length)(hz:cs.length<=900):∃ b,Lw cs b:=by
 obtain ⟨a,ha,_⟩:=J5 (xs:=cs.map (·.1)) (by rw [List.length_map];exact h0) (by rw [List.length_map];exact hz)
 obtain ⟨b,hb,_⟩:=J5 (xs:=cs.map (·.2.1)) (by rw [List.length_map];exact h0) (by rw [List.length_map];exact hz)
 obtain ⟨c,hc,_⟩:=J5 (xs:=cs.map (·.2.2)) (by rw [List.length_map];exact h0) (by rw [List.length_map];exact hz)
 exact ⟨(a,b,c),ha,hb,hc⟩
theorem qgO {xs:List Int}{b:Int}(h:IsL ltI xs b)(hz:xs.length<=900):j9 [.list (xs.map .int)]=some (.int b):=by
 obtain ⟨m,hm,e⟩:=J5 (xs:=xs) (List.length_pos_of_mem h.1) hz
 rw [e,h.uniq Ju hm (fun _ z=>z) fun _ z=>z]
theorem Jp {cs:List Sp}(f:Sp->Int){b:Int}(h:IsL ltI (cs.map f) b)(hz:cs.length<=900):j9 [.list (cs.map fun c=>.int (f c))]=some (.int b):=by
 have:=qgO h (by rw [List.length_map];exact hz)
 rw [List.map_map] at this
 exact this
theorem qdx {cs:List Sp}{b:Sp}(h:Lw cs b)(hz:cs.length<=900):ZR [.list (cs.map eS)]=some (.list [.int b.1,.int b.2.1,.int b.2.2]):=by
 have h0:0<cs.length:=by have:=List.length_pos_of_mem h.x.1;rwa [List.length_map] at this
 obtain ⟨c,hc,ec⟩:∃ c,c∈cs/\atI (cs.map eS) 0=some (eS c):=⟨cs[0],List.getElem_mem h0,JX (Int.le_refl _) (List.getElem?_eq_getElem h0)⟩
 have el:lenD [eS c]=some (.int 3):=rfl
 have c0:zR tT (ev2 (vr 2) (vr 1) ixD) [some (.list (cs.map eS)),some (.int 0)] (cs.map eS)=some (cs.map fun c=>.int c.1):=zK eS _ cs fun a _=>by simp_arith [ixe0]
 have c1:zR tT (ev2 (vr 2) (vr 1) ixD) [some (.list (cs.map eS)),some (.int 1)] (cs.map eS)=some (cs.map fun c=>.int c.2.1):=zK eS _ cs fun a _=>by simp_arith [ixe1]
 have c2:zR tT (ev2 (vr 2) (vr 1) ixD) [some (.list (cs.map eS)),some (.int 2)] (cs.map eS)=some (cs.map fun c=>.int c.2.2):=zK eS _ cs fun a _=>by simp_arith [ixe2]
 have m0:=Jp (·.1) h.x hz
 have m1:=Jp (·.2.1) h.y hz
 have m2:=Jp (·.2.2) h.z hz
 have hzz:(cs.map eS).length<=1000:=by rw [List.length_map];omega
 simp only [ZR,yH]
 simp_arith [ec,el,hzz,c0,c1,c2,m0,m1,m2]
theorem qci {cs ds:List Sp}{b d:Sp}(h:Lw cs b)(hz:cs.length<=900)(k:Lw ds d)(kz:ds.length<=900):zp [.list (cs.map eS),.list (ds.map eS)]=some (eS (mi d b)):=by
 have e1:=qdx h hz
 have e2:=qdx k kz
 simp only [zp,Zz]
 simp_arith [e1,e2]
 rfl
theorem ct_b (t:Tr)(b c:Sp):ct t b c=pl (ct t z3 c) b:=by
 unfold ct half pl z3
 exact Prod.ext (by dsimp only;omega) (Prod.ext (by dsimp only;omega) (by dsimp only;omega))
def apB (u:Tr)(b:Sp):Sp:=(b.1*u.p0+b.2.1*u.q0+b.2.2*u.r0,b.1*u.p1+b.2.1*u.q1+b.2.2*u.r1,b.1*u.p2+b.2.1*u.q2+b.2.2*u.r2)
theorem Yz (x y:Int):(x+2*y) / 2+0=x / 2+0+y:=by omega
theorem W2 (c1 c2 c3 b1 b2 b3 p q r:Int):(2*(c1+b1)+1)*p+(2*(c2+b2)+1)*q+(2*(c3+b3)+1)*r=((2*c1+1)*p+(2*c2+1)*q+(2*c3+1)*r)+2*(b1*p+b2*q+b3*r):=by grind
theorem ct_pl (u:Tr)(c b:Sp):ct u z3 (pl c b)=pl (ct u z3 c) (apB u b):=by
 obtain ⟨c1,c2,c3⟩:=c
 obtain ⟨b1,b2,b3⟩:=b
 unfold ct half app o3 mid pl apB z3
 dsimp only
 rw [W2,W2,W2,Yz,Yz,Yz]
theorem ct_id (c:Sp):ct idT z3 c=c:=by
 have e:app idT (o3 (mid c))=o3 (mid c):=qen _
 unfold ct
 rw [e]
 unfold half o3 mid z3
 exact Prod.ext (by dsimp only;omega) (Prod.ext (by dsimp only;omega) (by dsimp only;omega))
theorem yX {t:Tr}(ht:t∈qN)(u:Tr)(b c:Sp):ct u z3 (ct t b c)=pl (ct (mulT t u) z3 c) (apB u b):=by
 rw [ct_b t b c,ct_pl,ct_ct ht]
structure So (A:List Sp):Prop where
 h0:0<A.length
 h1:A.length<=20
 hb:∀ c∈A,BdS 200 c
theorem So.turn {A:List Sp}(h:So A){t:Tr}(ht:t∈qN)(b:Sp):∃ ys:List Sp,qJ [.list (A.map eS),encT t,eS b]=some (.list (ys.map eS))/\ys.Perm (A.map (ct t b))/\Ris ys:=by
 obtain ⟨ys,e,p,o⟩:=Zj (xs:=A.map (ct t b)) (by rw [List.length_map];have:=h.h1;omega)
 exact ⟨ys,qhG (qcb t ht).bd (by decide) (by decide) h.hb (by have:=h.h1;omega) b e,p,o⟩
theorem So.turnN {A:List Sp}(h:So A){t:Tr}(ht:t∈qN):∃ ys:List Sp,qJ [.list (A.map eS),encT t,.none]=some (.list (ys.map eS))/\ys.Perm (A.map (ct t z3))/\Ris ys:=by
 obtain ⟨ys,e,p,o⟩:=Zj (xs:=A.map (ct t z3)) (by rw [List.length_map];have:=h.h1;omega)
 exact ⟨ys,qfE (qcb t ht).bd (by decide) (by decide) h.hb (by have:=h.h1;omega) e,p,o⟩
theorem So.low {A:List Sp}(h:So A)(t:Tr):∃ b,Lw (A.map (ct t z3)) b:=qbf (by rw [List.length_map];exact h.h0) (by rw [List.length_map];have:=h.h1;omega)
theorem qdJ {A D:List Sp}(h:So A){t:Tr}(ht:t∈qN){b d:Sp}(hb:Lw (A.map (ct t z3)) b)(hd:Lw D d)(hD:D.length<=900) :
  ∃ ys zs:List Sp,qJ [.list (A.map eS),encT t,.none]=some (.list (ys.map eS))/\zp [.list (ys.map eS),.list (D.map eS)]=some (eS (mi d b))/\zx [.list (A.map eS),encT t,.list (D.map eS)]=some (.list (zs.map eS))/\zs.Perm (A.map (ct t (mi d b)))/\Ris zs:=by
 obtain ⟨ys,e,p,_⟩:=h.turnN ht
 obtain ⟨zs,e2,p2,o2⟩:=h.turn ht (mi d b)
 have es:=qci (hb.mem fun c=>p.mem_iff.symm) (by rw [p.length_eq,List.length_map];have:=h.h1;omega) hd hD
 refine ⟨ys,zs,e,es,?_,p2,o2⟩
 simp only [zx,jZ]
 simp_arith [e,es,e2]
def Tel (A:List Sp)(t:Tr)(z:List Sp):Prop:=∃ b,Lw (A.map (ct t z3)) b/\z.Perm (A.map (ct t (mi z3 b)))/\Ris z
theorem Tel.uniq {A:List Sp}{t:Tr}{z y:List Sp}(h:Tel A t z)(k:Tel A t y):z=y:=by
 obtain ⟨b,h1,h2,h3⟩:=h
 obtain ⟨d,k1,k2,k3⟩:=k
 cases h1.uniq k1
 exact Zu (h2.trans k2.symm) h3 k3
theorem So.tel {A:List Sp}(h:So A){t:Tr}(ht:t∈qN):∃ z,Tel A t z:=by
 obtain ⟨b,hb⟩:=h.low t
 obtain ⟨ys,_,p,o⟩:=h.turn ht (mi z3 b)
 exact ⟨ys,b,hb,p,o⟩
def Moved (A B:List Sp):Prop:=∃ t∈qN,∃ b,B.Perm (A.map (ct t b))
theorem Wg {A B:List Sp}{t0:Tr}{b0:Sp}(ht:t0∈qN)(hB:B.Perm (A.map (ct t0 b0)))(u:Tr){z:List Sp}(h:Tel A (mulT t0 u) z):Tel B u z:=by
 obtain ⟨b,hb,hp,ho⟩:=h
 have e1:(A.map (ct t0 b0)).map (ct u z3)=(A.map (ct (mulT t0 u) z3)).map fun c=>pl c (apB u b0):=by
  rw [List.map_map,List.map_map]
  exact List.map_congr_left fun c _=>yX ht u b0 c
 have p1:=hB.map (ct u z3)
 rw [e1] at p1
 refine ⟨pl b (apB u b0),(hb.shift (apB u b0)).mem fun c=>p1.mem_iff.symm,?_,ho⟩
 have p2:=hB.map (ct u (mi z3 (pl b (apB u b0))))
 have e2:(A.map (ct t0 b0)).map (ct u (mi z3 (pl b (apB u b0))))=A.map (ct (mulT t0 u) (mi z3 b)):=by
  rw [List.map_map]
  refine List.map_congr_left fun c _=>?_
  show ct u (mi z3 (pl b (apB u b0))) (ct t0 b0 c)=_
  rw [ct_b u _ (ct t0 b0 c),yX ht,ct_b (mulT t0 u) (mi z3 b) c]
  unfold pl mi z3
  exact Prod.ext (by dsimp only;omega) (Prod.ext (by dsimp only;omega) (by dsimp only;omega))
 rw [e2] at p2
 exact hp.trans p2.symm
def jf (A m:List Sp):Prop:=(∃ t∈qN,Tel A t m)/\∀ t∈qN,∀ z,Tel A t z->ltL z m=false
theorem jf.uniq {A m n:List Sp}(h:jf A m)(k:jf A n):m=n:=by
 obtain ⟨⟨t,ht,e⟩,h2⟩:=h
 obtain ⟨⟨u,hu,f⟩,k2⟩:=k
 exact qb7.tri m n (k2 t ht m e) (h2 u hu n f)
theorem qgd {t0:Tr}(h:t0∈qN)(t:Tr):mulT t0 (mulT (trT t0) t)=t:=by
 rw [← qbi,(qf4 t0 h).1,qdl]
theorem jf.moved {A B m:List Sp}(hA:So A)(h:jf A m)(M:Moved A B):jf B m:=by
 obtain ⟨t0,h0,b0,hB⟩:=M
 obtain ⟨⟨t,ht,e⟩,h2⟩:=h
 refine ⟨⟨mulT (trT t0) t,Ye _ (qca _ h0) _ ht,Wg h0 hB _ (by rw [qgd h0];exact e)⟩,fun u hu z hz=>?_⟩
 obtain ⟨z',hz'⟩:=hA.tel (Ye _ h0 _ hu)
 rw [hz.uniq (Wg h0 hB u hz')]
 exact h2 _ (Ye _ h0 _ hu) _ hz'
theorem qaP {A B m:List Sp}(h:jf A m)(k:jf B m):Moved A B:=by
 obtain ⟨⟨t,ht,a,_,pa,_⟩,_⟩:=h
 obtain ⟨⟨u,hu,b,_,pb,_⟩,_⟩:=k
 have p:=(pb.symm.trans pa).map (ct (trT u) z3)
 have e1:(B.map (ct u (mi z3 b))).map (ct (trT u) z3)=B.map fun c=>pl c (apB (trT u) (mi z3 b)):=by
  rw [List.map_map]
  refine List.map_congr_left fun c _=>?_
  show ct (trT u) z3 (ct u (mi z3 b) c)=_
  rw [yX hu,(qf4 u hu).1,ct_id]
 have e2:(A.map (ct t (mi z3 a))).map (ct (trT u) z3)=A.map fun c=>pl (ct (mulT t (trT u)) z3 c) (apB (trT u) (mi z3 a)):=by
  rw [List.map_map]
  exact List.map_congr_left fun c _=>yX ht (trT u) _ c
 rw [e1,e2] at p
 have q:=p.map fun c=>mi c (apB (trT u) (mi z3 b))
 rw [List.map_map,List.map_map] at q
 refine ⟨mulT t (trT u),Ye _ ht _ (qca _ hu),mi (apB (trT u) (mi z3 a)) (apB (trT u) (mi z3 b)),?_⟩
 have e3:B.map ((fun c=>mi c (apB (trT u) (mi z3 b))) ∘ fun c=>pl c (apB (trT u) (mi z3 b)))=B:=by
  refine (List.map_congr_left fun c _=>?_).trans (List.map_id _)
  show mi (pl c _) _=id c
  unfold mi pl
  exact Prod.ext (by dsimp only [id];omega) (Prod.ext (by dsimp only [id];omega) (by dsimp only [id];omega))
 rw [e3] at q
 refine q.trans (.of_eq (List.map_congr_left fun c _=>?_))
 show mi (pl _ _) _=_
 rw [ct_b (mulT t (trT u)) (mi (apB (trT u) (mi z3 a)) (apB (trT u) (mi z3 b))) c]
 unfold mi pl
 exact Prod.ext (by dsimp only;omega) (Prod.ext (by dsimp only;omega) (by dsimp only;omega))
theorem low0:Lw [z3] z3:=⟨⟨.head _,fun x hx=>by rw [List.mem_singleton.mp hx];rfl⟩,⟨.head _,fun x hx=>by rw [List.mem_singleton.mp hx];rfl⟩,⟨.head _,fun x hx=>by rw [List.mem_singleton.mp hx];rfl⟩⟩
theorem qec {A:List Sp}(h:So A){t:Tr}(ht:t∈qN){z:List Sp}(hz:Tel A t z):zx [.list (A.map eS),encT t,.list [eS z3]]=some (.list (z.map eS)):=by
 obtain ⟨b,hb,hp,ho⟩:=hz
 obtain ⟨_,zs,_,_,e,p,o⟩:=qdJ h ht hb low0 (show 1<=900 by decide)
 have e:zx [.list (A.map eS),encT t,.list [eS z3]]=some (.list (zs.map eS)):=e
 rw [e,Zu (p.trans hp.symm) o ho]
theorem So.tells {A:List Sp}(h:So A):∃ T:Tr->List Sp,∀ t∈qN,Tel A t (T t):=by
 refine ⟨fun t=>if ht:t∈qN then Classical.choose (h.tel ht) else [],fun t ht=>?_⟩
 have e:(if ht:t∈qN then Classical.choose (h.tel ht) else [])=Classical.choose (h.tel ht):=dif_pos ht
 show Tel A t (if ht:t∈qN then Classical.choose (h.tel ht) else [])
 rw [e]
 exact Classical.choose_spec (h.tel ht)
theorem qaI {A:List Sp}{T:Tr->List Sp}(hT:∀ t∈qN,Tel A t (T t)){l:List Tr}(hl:∀ t,t∈l↔t∈qN){m:List Sp}(h:IsL ltL (l.map T) m):jf A m:=by
 obtain ⟨t,ht,e⟩:=List.mem_map.mp h.1
 refine ⟨⟨t,(hl t).mp ht,e ▸ hT t ((hl t).mp ht)⟩,fun u hu z hz=>?_⟩
 rw [hz.uniq (hT u hu)]
 exact h.2 _ (List.mem_map.mpr ⟨u,(hl u).mpr hu,rfl⟩)
theorem Yd {A:List Sp}(h:So A):∃ m,jf A m/\zO [.list (A.map eS)]=some (.list (m.map eS)):=by
 obtain ⟨T,hT⟩:=h.tells
 obtain ⟨m,hm,e⟩:=qcB (xs:=Zy.map T) (by rw [List.length_map];decide) (by rw [List.length_map];decide)
 refine ⟨m,qaI hT qaO hm,?_⟩
 have hc:zR tT (evC 3 (aC (vr 0) (aC (vr 1) (aC (evA (aC (evA (aC (kd (.int 0)) (aC (kd (.int 0)) (aC (kd (.int 0)) aN))) tupD) aN) lstD) aN))) zx) [some (.list (A.map eS))] (Zy.map encT)=some (Zy.map fun t=>.list ((T t).map eS)):=zK encT _ Zy fun t ht=>by
  have ht:=(qaO t).mp ht
  have e:=qec h ht (hT t ht)
  have p0:(PyData.tuple [.int 0,.int 0,.int 0])=eS z3:=rfl
  simp_arith [p0,e]
 rw [List.map_map] at e
 have e:j9 [.list (Zy.map fun t=>.list ((T t).map eS))]=some (.list (m.map eS)):=e
 have hz:(Zy.map encT).length<=1000:=by rw [List.length_map];decide
 simp only [zO,jw]
 simp_arith [qcU,hz,hc,e]
theorem qax {α:Type}(enc:α->PyData){g:PyData->Rho->Option Rho}{u:Rho->Option Out}(I:Rho->Prop)(Q:PyData->Prop):∀ (as:List α) (ρ:Rho),I ρ->(∀ a∈as,∀ ρ,I ρ->(∃ ρ',ob (g (enc a) ρ) u=some (.nx ρ')/\I ρ')\/∃ d,ob (g (enc a) ρ) u=some (.rt d)/\Q d)->
  (∃ a∈as,∀ ρ,I ρ->∃ d,ob (g (enc a) ρ) u=some (.rt d))->∃ d,forD g u (as.map enc) ρ=some (.rt d)/\Q d
 | [],ρ,_,_,h=>by obtain ⟨a,ha,_⟩:=h;cases ha
 | a::as,ρ,h,st,hit=>by
  rw [List.map_cons,Wy]
  rcases st a List.mem_cons_self ρ h with ⟨ρ',e,i⟩|⟨d,e,q⟩
  ·rw [e,Yb]
   refine qax enc I Q as ρ' i (fun x hx=>st x (List.mem_cons_of_mem _ hx)) ?_
   obtain ⟨b,hb,k⟩:=hit
   rcases List.mem_cons.mp hb with rfl|hb
   ·obtain ⟨d,e'⟩:=k ρ h
    rw [e] at e'
    cases e'
   ·exact ⟨b,hb,k⟩
  ·rw [e,qbO]
   exact ⟨d,rfl,q⟩
theorem yF {A B:List Sp}(hA:So A)(hB:So B){t:Tr}(ht:t∈qN)(o2:Option PyData):∃ (sh:Sp) (zs:List Sp),zs.Perm (A.map (ct t sh))/\Ris zs/\(∀ b,B.Perm (A.map (ct t b))->sh=b)/\
  ob (gNm 2 (encT t) [some (.list (A.map eS)),some (.list (B.map eS)),o2]) (sIf (tV (ev2 (evC 3 (aC (vr 0) (aC (vr 2) (aC (vr 1) aN))) zx) (vr 1) eqD)) (sRet (evA (aC (kd (.str "same")) (aC (vr 2) (aC (evC 2 (aC (evC 2 (aC (vr 0) (aC (vr 2) aN)) (dfl qJ [.none])) (aC (vr 1) aN)) zp) aN))) tupD)) sN)=if zs=B then some (.rt (.tuple [.str "same", encT t,eS sh])) else some (.nx [some (.list (A.map eS)),some (.list (B.map eS)),some (encT t)]):=by
 obtain ⟨b,hb⟩:=hA.low t
 obtain ⟨d,hd⟩:=qbf hB.h0 (by have:=hB.h1;omega)
 obtain ⟨ys,zs,e1,e2,e3,p,o⟩:=qdJ hA ht hb hd (by have:=hB.h1;omega)
 refine ⟨mi d b,zs,p,o,fun b' hb'=>?_,?_⟩
 ·have e:A.map (ct t b')=(A.map (ct t z3)).map fun c=>pl c b':=by
   rw [List.map_map]
   exact List.map_congr_left fun c _=>ct_b t b' c
  rw [e] at hb'
  have:=hd.uniq ((hb.shift b').mem fun c=>hb'.mem_iff.symm)
  rw [this]
  unfold mi pl
  exact Prod.ext (by dsimp only;omega) (Prod.ext (by dsimp only;omega) (by dsimp only;omega))
 ·have eq:=Wt zs B
  by_cases h:zs=B
  ·rw [if_pos h]
   rw [decide_eq_true h] at eq
   simp_arith [e3,eq,e1,e2]
  ·rw [if_neg h]
   rw [decide_eq_false h] at eq
   simp_arith [e3,eq]
theorem qd6 {A B:List Sp}(hA:So A)(hB:So B)(rB:Ris B)(M:Moved A B):∃ t∈qN,∃ sh,Qf [.list (A.map eS),.list (B.map eS)]=some (.tuple [.str "same", encT t,eS sh])/\B.Perm (A.map (ct t sh)):=by
 obtain ⟨t0,h0,b0,p0⟩:=M
 obtain ⟨d,e,t,ht,sh,rfl,hp⟩:=qax encT (g:=gNm 2) (u:=(sIf (tV (ev2 (evC 3 (aC (vr 0) (aC (vr 2) (aC (vr 1) aN))) zx) (vr 1) eqD)) (sRet (evA (aC (kd (.str "same")) (aC (vr 2) (aC (evC 2 (aC (evC 2 (aC (vr 0) (aC (vr 2) aN)) (dfl qJ [.none])) (aC (vr 1) aN)) zp) aN))) tupD)) sN)) (fun ρ=>∃ o2,ρ=[some (.list (A.map eS)),some (.list (B.map eS)),o2]) (fun d=>∃ t∈qN,∃ sh,d=.tuple [.str "same", encT t,eS sh]/\B.Perm (A.map (ct t sh))) Zy [some (.list (A.map eS)),some (.list (B.map eS)),none] ⟨none,rfl⟩ (by
   rintro t ht ρ ⟨o2,rfl⟩
   have ht:=(qaO t).mp ht
   obtain ⟨sh,zs,p,o,_,e⟩:=yF hA hB ht o2
   by_cases h:zs=B
   ·rw [if_pos h] at e
    exact .inr ⟨_,e,t,ht,sh,rfl,h ▸ p⟩
   ·rw [if_neg h] at e
    exact .inl ⟨_,e,_,rfl⟩) (by
   refine ⟨t0,(qaO t0).mpr h0,?_⟩
   rintro ρ ⟨o2,rfl⟩
   obtain ⟨sh,zs,p,o,u,e⟩:=yF hA hB h0 o2
   rw [u b0 p0] at p
   rw [if_pos (Zu (p.trans p0.symm) o rB)] at e
   exact ⟨_,e⟩)
 refine ⟨t,ht,sh,?_,hp⟩
 simp only [Qf,Zn]
 simp_arith [qcU,e]
theorem qeh {A B:List Sp}(hA:So A)(hB:So B)(M:¬ Moved A B):∃ m n,jf A m/\jf B n/\Qf [.list (A.map eS),.list (B.map eS)]=some (.tuple [.str "unlike", .list (m.map eS),.list (n.map eS)]):=by
 obtain ⟨m,hm,em⟩:=Yd hA
 obtain ⟨n,hn,en⟩:=Yd hB
 obtain ⟨ρ',e,o2,rfl⟩:=Z2 encT (g:=gNm 2) (u:=(sIf (tV (ev2 (evC 3 (aC (vr 0) (aC (vr 2) (aC (vr 1) aN))) zx) (vr 1) eqD)) (sRet (evA (aC (kd (.str "same")) (aC (vr 2) (aC (evC 2 (aC (evC 2 (aC (vr 0) (aC (vr 2) aN)) (dfl qJ [.none])) (aC (vr 1) aN)) zp) aN))) tupD)) sN)) (fun _ ρ=>∃ o2,ρ=[some (.list (A.map eS)),some (.list (B.map eS)),o2]) Zy [some (.list (A.map eS)),some (.list (B.map eS)),none] ⟨none,rfl⟩ (by
   rintro t ht done ρ-⟨o2,rfl⟩
   have ht:=(qaO t).mp ht
   obtain ⟨sh,zs,p,o,_,e⟩:=yF hA hB ht o2
   rw [if_neg (show ¬ zs=B from fun h=>M ⟨t,ht,sh,h ▸ p⟩)] at e
   exact ⟨_,e,_,rfl⟩)
 refine ⟨m,n,hm,hn,?_⟩
 simp only [Qf,Zn]
 simp_arith [qcU,e,em,en]
end SF
namespace SF
open PySem L2
theorem qfX:rngL 0 24=(List.range 24).map fun k:Nat=>PyData.int (k:Nat):=Y4 24
theorem qbV {k:Nat}(h:k<24):zA [.int (k:Nat)]=some (encT (QM.getD k idT)):=by
 have h:k=0\/k=1\/k=2\/k=3\/k=4\/k=5\/k=6\/k=7\/k=8\/k=9\/k=10\/k=11\/k=12\/k=13\/k=14\/k=15\/k=16\/k=17\/k=18\/k=19\/k=20\/k=21\/k=22\/k=23:=by omega
 rcases h with rfl|rfl|rfl|rfl|rfl|rfl|rfl|rfl|rfl|rfl|rfl|rfl|rfl|rfl|rfl|rfl|rfl|rfl|rfl|rfl|rfl|rfl|rfl|rfl<;>kernel_rfl
theorem yV:(List.range 24).map (fun k=>QM.getD k idT)=QM:=by decide
theorem L_mem {k:Nat}(h:k<24):QM.getD k idT∈qN:=by
 rw [← qfS,← yV]
 exact List.mem_map.mpr ⟨k,List.mem_range.mpr h,by rw [yV]⟩
theorem qcy {A:List Sp}(h:So A){t:Tr}{z:List Sp}(hz:Tel A t z):Qt [.list (A.map fun c=>eS (ct t z3 c))]=some (.list (z.map eS)):=by
 obtain ⟨b,hb,hp,ho⟩:=hz
 have hA:=h.h1
 have em:(A.map fun c=>eS (ct t z3 c))=(A.map (ct t z3)).map eS:=by rw [List.map_map];rfl
 rw [em]
 generalize hW:A.map (ct t z3)=W at *
 have hWl:W.length<=20:=by rw [← hW,List.length_map];exact hA
 have c0:zR tT (ev2 (vr 3) (vr 2) ixD) [some (.list (W.map eS)),none,some (.int 0)] (W.map eS)=some (W.map fun c=>.int c.1):=zK eS _ W fun a _=>by simp_arith [ixe0]
 have c1:zR tT (ev2 (vr 3) (vr 2) ixD) [some (.list (W.map eS)),none,some (.int 1)] (W.map eS)=some (W.map fun c=>.int c.2.1):=zK eS _ W fun a _=>by simp_arith [ixe1]
 have c2:zR tT (ev2 (vr 3) (vr 2) ixD) [some (.list (W.map eS)),none,some (.int 2)] (W.map eS)=some (W.map fun c=>.int c.2.2):=zK eS _ W fun a _=>by simp_arith [ixe2]
 have m0:=Jp (·.1) hb.x (by omega)
 have m1:=Jp (·.2.1) hb.y (by omega)
 have m2:=Jp (·.2.2) hb.z (by omega)
 have hzz:(W.map eS).length<=1000:=by rw [List.length_map];omega
 have c3:zR tT (evA (aC (ev2 (ev2 (vr 2) (kd (.int 0)) ixD) (ev2 (vr 1) (kd (.int 0)) ixD) subD) (aC (ev2 (ev2 (vr 2) (kd (.int 1)) ixD) (ev2 (vr 1) (kd (.int 1)) ixD) subD) (aC (ev2 (ev2 (vr 2) (kd (.int 2)) ixD) (ev2 (vr 1) (kd (.int 2)) ixD) subD) aN))) tupD) [some (.list (W.map eS)),some (.list [.int b.1,.int b.2.1,.int b.2.2])] (W.map eS)=some (W.map fun c=>eS (mi c b)):=zK eS _ W fun a _=>by
  simp_arith [ixe0,ixe1,ixe2]
  rfl
 obtain ⟨ys,es,p,o⟩:=Zj (xs:=W.map fun c=>mi c b) (by rw [List.length_map];omega)
 have e1:(W.map fun c=>mi c b)=A.map (ct t (mi z3 b)):=by
  rw [← hW,List.map_map]
  refine List.map_congr_left fun c _=>?_
  show mi (ct t z3 c) b=_
  rw [ct_b t (mi z3 b) c]
  unfold mi pl
  exact Prod.ext (by dsimp only [z3];omega) (Prod.ext (by dsimp only [z3];omega) (by dsimp only [z3];omega))
 rw [e1] at p
 have ez:ys=z:=Zu (p.trans hp.symm) o ho
 rw [List.map_map] at es
 have es:zH [.list (W.map fun c=>eS (mi c b))]=some (.list (z.map eS)):=by rw [← ez];exact es
 simp only [Qt,jd]
 simp_arith [hzz,c0,c1,c2,m0,m1,m2,c3,es]
theorem qe5 (a b:List Sp):ltD2 (.list (a.map eS)) (.list (b.map eS))=some (.bool (ltL a b)):=by
 unfold ltD2
 rw [if_pos ⟨qab a,qab b,Nat.le_trans qat (by decide)⟩,qdz]
 rfl
theorem qeR {α:Type}{lt:α->α->Bool}(S:Slo lt)(z:α):IsL lt [z] z:=⟨.head _,fun x hx=>by rw [List.mem_singleton.mp hx];exact S.irr z⟩
theorem IsL.less {α:Type}{lt:α->α->Bool}(S:Slo lt){xs:List α}{m z:α}(h:IsL lt xs m)(hb:lt z m=true):IsL lt (xs++[z]) z:=by
 have hn:lt m z=false:=by
  cases q:lt m z with
  | false=>rfl
  | true=>rw [← S.irr z];exact (S.tr _ _ _ hb q).symm
 refine ⟨List.mem_append_right _ (.head _),fun x hx=>?_⟩
 rcases List.mem_append.mp hx with q|q
 ·exact S.le hn (h.2 x q)
 ·rw [List.mem_singleton.mp q];exact S.irr z
theorem IsL.more {α:Type}{lt:α->α->Bool}{xs:List α}{m z:α}(h:IsL lt xs m)(hb:lt z m=false):IsL lt (xs++[z]) m:=by
 refine ⟨List.mem_append_left _ h.1,fun x hx=>?_⟩
 rcases List.mem_append.mp hx with q|q
 ·exact h.2 x q
 ·rw [List.mem_singleton.mp q];exact hb
theorem qaM {A:List Sp}(h:So A):∃ m,jf A m/\QJ [.list (A.map eS)]=some (.list (m.map eS)):=by
 obtain ⟨T,hT⟩:=h.tells
 have hA:=h.h1
 have hz:(A.map eS).length<=1000:=by rw [List.length_map];omega
 obtain ⟨F,hF⟩:∃ F:Nat->List Sp,F=fun k=>T (QM.getD k idT):=⟨_,rfl⟩
 obtain ⟨ρ',e,o2,o3,best,rfl,hI⟩:=Z2 (fun k:Nat=>PyData.int (k:Nat)) (g:=gNm 2) (u:=(seqO (sSet 3 (evC 1 (aC (Qh 4 (evI (vr 0) seqD) tT (evC 3 (aC (evC 1 (aC (vr 2) aN) zA) (aC (evA (aC (kd (.int 0)) (aC (kd (.int 0)) (aC (kd (.int 0)) aN))) tupD) (aC (vr 4) aN))) qG)) aN) Qt)) (sIf (tO (tV (ev2 (vr 1) (kd .none) isD)) (tV (ev2 (vr 3) (vr 1) ltD2))) (sSet 1 (vr 3)) sN)))
  (fun done ρ=>∃ (o2 o3:Option PyData) (best:PyData),ρ=[some (.list (A.map eS)),some best,o2,o3]/\((done=[]/\best=.none)\/∃ m,best=.list (m.map eS)/\IsL ltL (done.map F) m)) (List.range 24) [some (.list (A.map eS)),some .none,none,none] ⟨none,none,_,rfl,.inl ⟨rfl,rfl⟩⟩ (by
   rintro k hk done ρ-⟨o2,o3,best,rfl,hI⟩
   have hk:=List.mem_range.mp hk
   have ht:=L_mem hk
   have et:=qbV hk
   have hFk:F k=T (QM.getD k idT):=by rw [hF]
   have hc:∀ o3:Option PyData,zR tT (evC 3 (aC (evC 1 (aC (vr 2) aN) zA) (aC (evA (aC (kd (.int 0)) (aC (kd (.int 0)) (aC (kd (.int 0)) aN))) tupD) (aC (vr 4) aN))) qG) [some (.list (A.map eS)),some best,some (.int (k:Nat)),o3] (A.map eS)=some (A.map fun c=>eS (ct (QM.getD k idT) z3 c)):=fun o3=>zK eS _ A fun c hc=>by
    have e:=YG ht (n:=200) (by decide) (h.hb c hc) z3
    have p0:(PyData.tuple [.int 0,.int 0,.int 0])=eS z3:=rfl
    simp_arith [et,p0,e]
   have el:=qcy h (hT _ ht)
   rw [← hFk] at el
   have ea:(done++[k]).map F=done.map F++[F k]:=by rw [List.map_append];rfl
   rw [ea]
   generalize F k=z at *
   rcases hI with ⟨rfl,rfl⟩|⟨m,rfl,hm⟩
   ·have hi:isD .none .none=some (.bool true):=rfl
    refine ⟨_,?_,some (.int (k:Nat)),some (.list (z.map eS)),.list (z.map eS),rfl,.inr ⟨z,rfl,qeR qb7 z⟩⟩
    simp_arith [hz,hc,el,hi]
   ·have hi:isD (.list (m.map eS)) .none=some (.bool false):=rfl
    have hl:=qe5 z m
    cases hb:ltL z m with
    | true =>
     rw [hb] at hl
     refine ⟨_,?_,some (.int (k:Nat)),some (.list (z.map eS)),.list (z.map eS),rfl,.inr ⟨z,rfl,hm.less qb7 hb⟩⟩
     simp_arith [hz,hc,el,hi,hl]
    | false =>
     rw [hb] at hl
     refine ⟨_,?_,some (.int (k:Nat)),some (.list (z.map eS)),.list (m.map eS),rfl,.inr ⟨m,rfl,hm.more hb⟩⟩
     simp_arith [hz,hc,el,hi,hl])
 rcases hI with ⟨z,_⟩|⟨m,rfl,hm⟩
 ·cases z
 ·have e1:(List.range 24).map F=QM.map T:=by
   rw [hF]
   have:=congrArg (List.map T) yV
   rwa [List.map_map] at this
  rw [e1] at hm
  refine ⟨m,qaI hT qfS hm,?_⟩
  simp only [QJ,jV]
  simp_arith [-L2.rngL,qfX,e]
theorem nin32:∀ t∈qN,ninD (encT t) (.list (QM.map encT))=some (.bool false):=by
 intro t ht
 simp only [qN,List.mem_cons,List.not_mem_nil,or_false] at ht
 rcases ht with rfl|rfl|rfl|rfl|rfl|rfl|rfl|rfl|rfl|rfl|rfl|rfl|rfl|rfl|rfl|rfl|rfl|rfl|rfl|rfl|rfl|rfl|rfl|rfl<;>kernel_rfl
theorem wO {A B:List Sp}(h:So A){t:Tr}(ht:t∈qN){sh:Sp}(hp:B.Perm (A.map (ct t sh)))(rB:Ris B):Qs [.tuple [.str "same", encT t,eS sh],.list (A.map eS),.list (B.map eS)]=some (.bool true):=by
 have hA:=h.h1
 have hz:(A.map eS).length<=1000:=by rw [List.length_map];omega
 have n1:neD (.str "same") (.str "same")=some (.bool false):=by kernel_rfl
 have n2:isiT "tuple" (encT t)=true:=rfl
 have n3:lenD [encT t]=some (.int 3):=rfl
 have n4:=nin32 t ht
 have n5:lenD [eS sh]=some (.int 3):=rfl
 have tp:∀ s:Sp3,zq [encS s,encS s]=some (.bool true):=qai
 have t4:zq [eS sh,eS sh]=some (.bool true):=qai (o3 sh)
 have sq:=qcL t
 have hr:∀ ρ:Rho,ρ.length=5->zR tT (evC 1 (aC (vr 5) aN) zA) ρ ((List.range 24).map fun k:Nat=>PyData.int (k:Nat))=some (QM.map encT):=fun ρ hρ=>by
  have e1:QM.map encT=(List.range 24).map fun k=>encT (QM.getD k idT):=by
   have:=congrArg (List.map encT) yV
   rw [List.map_map] at this
   exact this.symm
  rw [e1]
  refine zK (fun k:Nat=>PyData.int (k:Nat)) _ _ fun k hk=>?_
  have et:=qbV (List.mem_range.mp hk)
  have:vr 5 (ρ++[some (.int (k:Nat))])=some (.int (k:Nat)):=by
   show ((ρ++[some (.int (k:Nat))])[5]?).join=_
   rw [List.getElem?_append_right (by omega),hρ]
   rfl
  simp_arith [this,et]
 have hr1:∀ a0 a1 a2 a3 a4:Option PyData,zR tT (evC 1 (aC (vr 5) aN) zA) [a0,a1,a2,a3,a4] ((List.range 24).map fun k:Nat=>PyData.int (k:Nat))=some (QM.map encT):=fun a0 a1 a2 a3 a4=>hr _ rfl
 have hc:∀ a2 a4:Option PyData,zR tT (evC 3 (aC (vr 3) (aC (ev2 (vr 0) (kd (.int 2)) ixD) (aC (vr 5) aN))) qG) [some (.tuple [.str "same", encT t,eS sh]),some (.list (A.map eS)),a2,some (encT t),a4] (A.map eS)=some (A.map fun c=>eS (ct t sh c)):=fun a2 a4=>zK eS _ A fun c hc=>by
  have e:=YG ht (n:=200) (by decide) (h.hb c hc) sh
  simp_arith [e]
 obtain ⟨ys,es,p,o⟩:=Zj (xs:=A.map (ct t sh)) (by rw [List.length_map];omega)
 have ez:ys=B:=Zu (p.trans hp.symm) o rB
 rw [List.map_map,ez] at es
 have es:zH [.list (A.map fun c=>eS (ct t sh c))]=some (.list (B.map eS)):=es
 have eq:=Wt B B
 rw [decide_eq_true rfl] at eq
 have l24:((List.range 24).map fun k:Nat=>PyData.int (k:Nat)).length<=1000:=by rw [List.length_map,List.length_range];decide
 simp only [Qs,jc]
 simp_arith [-L2.rngL,n1,n2,n3,qfX,l24,hr1,n4,sq,tp,t4,n5,hz,hc,es,eq]
end SF
namespace SF
open PySem L2
def U6:List Sp:=[(1,0,0),(-1,0,0),(0,1,0),(0,-1,0),(0,0,1),(0,0,-1)]
theorem U6_eq:zG []=some (.list (U6.map eS)):=rfl
theorem U6_bd:∀ u∈U6,BdS 2 u:=by
 intro u hu
 simp only [U6,List.mem_cons,List.not_mem_nil,or_false] at hu
 rcases hu with rfl|rfl|rfl|rfl|rfl|rfl<;>exact ⟨Bd.of (by decide),Bd.of (by decide),Bd.of (by decide)⟩
theorem qfU {n m k:Nat}{a b:Sp}(ha:BdS n a)(hb:BdS m b)(h:max n m+1<=k):BdS k (pl a b):=⟨(ha.1.add hb.1).mono h,(ha.2.1.add hb.2.1).mono h,(ha.2.2.add hb.2.2).mono h⟩
theorem qgP {K:List Sp}(h:Sd 6 K)(c:Int):∃ cs:List Sp,Zq [.list (K.map eS),.int c]=some (.list (cs.map eS))/\0<cs.length/\cs.length<=7/\∀ d∈cs,BdS 110 d:=by
 have hK:=h.h1
 obtain ⟨ρ',e,sp,o3,o4,o5,o6,o7,o8,rfl,g1,g2,g3⟩:=Z2 eS (g:=unpD 3 (gsC (gNm 3) (gsC (gNm 4) (gsC (gNm 5) gsN)))) (u:=(sFor (evI (evC0 zG) seqD) (unpD 3 (gsC (gNm 6) (gsC (gNm 7) (gsC (gNm 8) gsN)))) (sIf (tV (ev2 (evA (aC (ev2 (vr 3) (vr 6) qW) (aC (ev2 (vr 4) (vr 7) qW) (aC (ev2 (vr 5) (vr 8) qW) aN))) tupD) (vr 0) ninD)) (sApp 2 (evA (aC (ev2 (vr 3) (vr 6) qW) (aC (ev2 (vr 4) (vr 7) qW) (aC (ev2 (vr 5) (vr 8) qW) aN))) tupD)) sN)))
  (fun done ρ=>∃ (sp:List Sp) (o3 o4 o5 o6 o7 o8:Option PyData),ρ=[some (.list (K.map eS)),some (.int c),some (.list (sp.map eS)),o3,o4,o5,o6,o7,o8]/\sp.length<=6*done.length/\(∀ d∈sp,BdS 105 d)/\∀ d∈done,∀ u∈U6,pl d u∉K->0<sp.length) K [some (.list (K.map eS)),some (.int c),some (.list []),none,none,none,none,none,none] ⟨[],none,none,none,none,none,none,rfl,by simp,(fun _ z=>by cases z),fun _ z=>by cases z⟩ (by
   rintro d hd done ρ hdl ⟨sp,o3,o4,o5,o6,o7,o8,rfl,g1,g2,g3⟩
   obtain ⟨ρ',e,sp',q6,q7,q8,rfl,k1,k2,k3,k4⟩:=Z2 eS (g:=unpD 3 (gsC (gNm 6) (gsC (gNm 7) (gsC (gNm 8) gsN)))) (u:=(sIf (tV (ev2 (evA (aC (ev2 (vr 3) (vr 6) qW) (aC (ev2 (vr 4) (vr 7) qW) (aC (ev2 (vr 5) (vr 8) qW) aN))) tupD) (vr 0) ninD)) (sApp 2 (evA (aC (ev2 (vr 3) (vr 6) qW) (aC (ev2 (vr 4) (vr 7) qW) (aC (ev2 (vr 5) (vr 8) qW) aN))) tupD)) sN))
    (fun dn ρ=>∃ (sp':List Sp) (q6 q7 q8:Option PyData),ρ=[some (.list (K.map eS)),some (.int c),some (.list (sp'.map eS)),some (.int d.1),some (.int d.2.1),some (.int d.2.2),q6,q7,q8]/\sp'.length<=sp.length+dn.length/\(∀ x∈sp',BdS 105 x)/\sp.length<=sp'.length/\∀ u∈dn,pl d u∉K->0<sp'.length) U6 [some (.list (K.map eS)),some (.int c),some (.list (sp.map eS)),some (.int d.1),some (.int d.2.1),some (.int d.2.2),o6,o7,o8] ⟨sp,o6,o7,o8,rfl,Nat.le_refl _,g2,Nat.le_refl _,fun _ z=>by cases z⟩ (by
     rintro u hu dn ρ hdn ⟨sp',q6,q7,q8,rfl,k1,k2,k3,k4⟩
     have hn:ninD (.tuple [.int (d.1+u.1),.int (d.2.1+u.2.1),.int (d.2.2+u.2.2)]) (.list (K.map eS))=some (.bool (!decide (pl d u∈K))):=qbY K (pl d u)
     have hlen:(dn++[u]).length=dn.length+1:=by simp
     have hdn:dn.length<6:=hdn
     simp only [eS] at *
     by_cases hin:pl d u∈K
     ·refine ⟨_,?_,sp',some (.int u.1),some (.int u.2.1),some (.int u.2.2),rfl,by omega,k2,k3,fun v hv hv2=>?_⟩
      ·simp_arith [hn,decide_eq_true hin]
      ·rcases List.mem_append.mp hv with q|q
       ·exact k4 v q hv2
       ·rw [List.mem_singleton.mp q] at hv2;exact absurd hin hv2
     ·refine ⟨_,?_,sp'++[pl d u],some (.int u.1),some (.int u.2.1),some (.int u.2.2),rfl,by rw [List.length_append,List.length_singleton];omega,fun x hx=>?_,by rw [List.length_append];omega,fun v hv hv2=>by simp⟩
      ·have hz:(sp'.map eS).length<1000:=by rw [List.length_map];omega
       simp_arith [hn,decide_eq_false hin,hz]
       simp only [List.map_append,List.map_cons,List.map_nil,pl,eS]
      ·rcases List.mem_append.mp hx with q|q
       ·exact k2 x q
       ·rw [List.mem_singleton.mp q];exact qfU (h.hb d hd) (U6_bd u hu) (by decide))
   have hlen:(done++[d]).length=done.length+1:=by simp
   have k1:sp'.length<=sp.length+6:=k1
   refine ⟨_,?_,sp',some (.int d.1),some (.int d.2.1),some (.int d.2.2),q6,q7,q8,rfl,by rw [hlen];omega,k2,fun v hv u hu hv2=>?_⟩
   ·simp only [eS] at *
    simp_arith [U6_eq,eS,e]
   ·rcases List.mem_append.mp hv with q|q
    ·exact Nat.lt_of_lt_of_le (g3 v q u hu hv2) k3
    ·rw [List.mem_singleton.mp q] at hv2;exact k4 u hu hv2)
 have h0:0<sp.length:=by
  obtain ⟨b,hb⟩:=qbf h.h0 (by omega)
  obtain ⟨d,hd,ed⟩:=List.mem_map.mp hb.x.1
  refine g3 d hd (-1,0,0) (by decide) fun z=>?_
  have:=of_decide_eq_false (hb.x.2 _ (List.mem_map.mpr ⟨_,z,rfl⟩))
  have ed:d.1=b.1:=ed
  exact this (by show d.1 + -1<b.1;omega)
 obtain ⟨x,hx,ex⟩:=qbK c h0
 have md:modD (.int c) (.int (((sp.map eS).length:Nat):Int))=some (.int (c % (sp.length:Int))):=by rw [List.length_map];exact jN _ (by omega)
 have ea:atI (sp.map eS) (c % (sp.length:Int))=some (eS x):=JX (Int.emod_nonneg _ (by omega)) ex
 obtain ⟨ys,es,p,o⟩:=Zj (xs:=K++[x]) (by rw [List.length_append,List.length_singleton];omega)
 have hl:=p.length_eq
 rw [List.length_append,List.length_singleton] at hl
 rw [List.map_append] at es
 have es:zH [.list (K.map eS++[eS x])]=some (.list (ys.map eS)):=es
 have ad:=qel (K.map eS) [eS x] (by rw [List.length_map,List.length_singleton];omega)
 refine ⟨ys,?_,by omega,by omega,fun d hd=>?_⟩
 ·simp only [Zq,Jg]
  simp_arith [e,md,ea,ad,es]
 ·rcases List.mem_append.mp (p.mem_iff.mp hd) with q|q
  ·obtain ⟨a1,a2,a3⟩:=h.hb d q
   exact ⟨a1.mono (by decide),a2.mono (by decide),a3.mono (by decide)⟩
  ·rw [List.mem_singleton.mp q]
   obtain ⟨a1,a2,a3⟩:=g2 x hx
   exact ⟨a1.mono (by decide),a2.mono (by decide),a3.mono (by decide)⟩
theorem k8i (x:Int):x % 8=0\/x % 8=1\/x % 8=2\/x % 8=3\/x % 8=4\/x % 8=5\/x % 8=6\/x % 8=7:=by omega
theorem qfe {ns:List Int}(hb:∀ k∈ns,Builtin.Int.intBits k<=2 ^ 20){A:List Sp}(h:Sd 6 A):∃ B:List Sp,ZF [.list (ns.map .int),.list (A.map eS)]=some (.list (B.map eS))/\So B/\Ris B/\(qK ns 0 % 8<4->Moved A B):=by
 have hA1:=h.h1
 have c0:=cell_eq ns 0 (by decide)
 have c1:=cell_eq ns 1 (by decide)
 obtain ⟨t,ht,et⟩:=qfG (qK ns 1)
 obtain ⟨sh,es,bs⟩:=qfD hb (i:=2) (by decide)
 obtain ⟨S,o5,hS0,hS1,hSb,hSA,hrow⟩:∃ (S:List Sp) (o5:Option PyData),0<S.length/\S.length<=7/\(∀ c∈S,BdS 110 c)/\(qK ns 0 % 8<4->S=A)/\zJ [some (.list (ns.map .int)),some (.list (A.map eS)),none,none,none,none]=(sRet (evA (aC (Qh 6 (evI (vr 1) seqD) tT (evC 3 (aC (vr 3) (aC (vr 4) (aC (vr 6) aN))) qG)) aN) zH)) [some (.list (ns.map .int)),some (.list (S.map eS)),some (.int (qK ns 0)),some (encT t),some (eS sh),o5]:=by
  have big:∀ c∈A,BdS 110 c:=fun c hc=>by
   obtain ⟨a1,a2,a3⟩:=h.hb c hc
   exact ⟨a1.mono (by decide),a2.mono (by decide),a3.mono (by decide)⟩
  have same:(qK ns 0 % 8=0\/qK ns 0 % 8=1\/qK ns 0 % 8=2\/qK ns 0 % 8=3)->zJ [some (.list (ns.map .int)),some (.list (A.map eS)),none,none,none,none]=(sRet (evA (aC (Qh 6 (evI (vr 1) seqD) tT (evC 3 (aC (vr 3) (aC (vr 4) (aC (vr 6) aN))) qG)) aN) zH)) [some (.list (ns.map .int)),some (.list (A.map eS)),some (.int (qK ns 0)),some (encT t),some (eS sh),none]:=fun hh=>by
   unfold zJ
   refine qY (ρ':=[some (.list (ns.map .int)),some (.list (A.map eS)),some (.int (qK ns 0)),none,none,none]) (by simp_arith [c0]) ?_
   refine qY (ρ':=[some (.list (ns.map .int)),some (.list (A.map eS)),some (.int (qK ns 0)),some (encT t),none,none]) (by simp_arith [c1,et]) ?_
   refine qY (ρ':=[some (.list (ns.map .int)),some (.list (A.map eS)),some (.int (qK ns 0)),some (encT t),some (eS sh),none]) (by simp_arith [es]) ?_
   refine qY (ρ':=[some (.list (ns.map .int)),some (.list (A.map eS)),some (.int (qK ns 0)),some (encT t),some (eS sh),none]) (by rcases hh with q|q|q|q<;>simp_arith [q]) ?_
   refine qY (ρ':=[some (.list (ns.map .int)),some (.list (A.map eS)),some (.int (qK ns 0)),some (encT t),some (eS sh),none]) (by rcases hh with q|q|q|q<;>simp_arith [q]) ?_
   exact qY (ρ':=[some (.list (ns.map .int)),some (.list (A.map eS)),some (.int (qK ns 0)),some (encT t),some (eS sh),none]) (by rcases hh with q|q|q|q<;>simp_arith [q]) rfl
  have more:(qK ns 0 % 8=4\/qK ns 0 % 8=7)->∃ (S:List Sp) (o5:Option PyData),0<S.length/\S.length<=7/\(∀ c∈S,BdS 110 c)/\zJ [some (.list (ns.map .int)),some (.list (A.map eS)),none,none,none,none]=(sRet (evA (aC (Qh 6 (evI (vr 1) seqD) tT (evC 3 (aC (vr 3) (aC (vr 4) (aC (vr 6) aN))) qG)) aN) zH)) [some (.list (ns.map .int)),some (.list (S.map eS)),some (.int (qK ns 0)),some (encT t),some (eS sh),o5]:=fun hh=>by
   obtain ⟨ms,em,hm⟩:=qah ns (i:=6) (by decide) (.inl rfl)
   have hAl:(((A.map eS).length:Nat):Int)<=6:=by rw [List.length_map];omega
   obtain ⟨mo,emo,m1,m6⟩:∃ mo:Int,(if (((A.map eS).length:Nat):Int)-1 > 1 then (((A.map eS).length:Nat):Int)-1 else 1)=mo/\1<=mo/\mo<=6:=⟨_,rfl,by split<;>omega,by split<;>omega⟩
   obtain ⟨K,eK,hK⟩:=qac ms hm m1 m6
   obtain ⟨S,eS',s0,s1,s2⟩:=qgP hK (qK ns 0 / 8)
   refine ⟨S,some (.list (K.map eS)),s0,s1,s2,?_⟩
   unfold zJ
   refine qY (ρ':=[some (.list (ns.map .int)),some (.list (A.map eS)),some (.int (qK ns 0)),none,none,none]) (by simp_arith [c0]) ?_
   refine qY (ρ':=[some (.list (ns.map .int)),some (.list (A.map eS)),some (.int (qK ns 0)),some (encT t),none,none]) (by simp_arith [c1,et]) ?_
   refine qY (ρ':=[some (.list (ns.map .int)),some (.list (A.map eS)),some (.int (qK ns 0)),some (encT t),some (eS sh),none]) (by simp_arith [es]) ?_
   refine qY (ρ':=[some (.list (ns.map .int)),some (.list (A.map eS)),some (.int (qK ns 0)),some (encT t),some (eS sh),none]) (by rcases hh with q|q<;>simp_arith [q]) ?_
   refine qY (ρ':=[some (.list (ns.map .int)),some (.list (A.map eS)),some (.int (qK ns 0)),some (encT t),some (eS sh),none]) (by rcases hh with q|q<;>simp_arith [q]) ?_
   exact qY (ρ':=[some (.list (ns.map .int)),some (.list (S.map eS)),some (.int (qK ns 0)),some (encT t),some (eS sh),some (.list (K.map eS))]) (by rcases hh with q|q<;>simp_arith [q,em,emo,eK,eS']) rfl
  have other:qK ns 0 % 8=6->∃ (S:List Sp) (o5:Option PyData),0<S.length/\S.length<=7/\(∀ c∈S,BdS 110 c)/\zJ [some (.list (ns.map .int)),some (.list (A.map eS)),none,none,none,none]=(sRet (evA (aC (Qh 6 (evI (vr 1) seqD) tT (evC 3 (aC (vr 3) (aC (vr 4) (aC (vr 6) aN))) qG)) aN) zH)) [some (.list (ns.map .int)),some (.list (S.map eS)),some (.int (qK ns 0)),some (encT t),some (eS sh),o5]:=fun q=>by
   obtain ⟨ms,em,hm⟩:=qah ns (i:=34) (by decide) (.inl rfl)
   have a0:=Int.emod_nonneg (qK ns 0 / 8) (b:=6) (by decide)
   have a1:=Int.emod_lt_of_pos (qK ns 0 / 8) (b:=6) (by decide)
   obtain ⟨S,eS',hS⟩:=qac ms hm (mo:=1+qK ns 0 / 8 % 6) (by omega) (by omega)
   refine ⟨S,none,hS.h0,by have:=hS.h1;omega,fun c hc=>?_,?_⟩
   ·obtain ⟨a1,a2,a3⟩:=hS.hb c hc
    exact ⟨a1.mono (by decide),a2.mono (by decide),a3.mono (by decide)⟩
   unfold zJ
   refine qY (ρ':=[some (.list (ns.map .int)),some (.list (A.map eS)),some (.int (qK ns 0)),none,none,none]) (by simp_arith [c0]) ?_
   refine qY (ρ':=[some (.list (ns.map .int)),some (.list (A.map eS)),some (.int (qK ns 0)),some (encT t),none,none]) (by simp_arith [c1,et]) ?_
   refine qY (ρ':=[some (.list (ns.map .int)),some (.list (A.map eS)),some (.int (qK ns 0)),some (encT t),some (eS sh),none]) (by simp_arith [es]) ?_
   refine qY (ρ':=[some (.list (ns.map .int)),some (.list (A.map eS)),some (.int (qK ns 0)),some (encT t),some (eS sh),none]) (by simp_arith [q]) ?_
   refine qY (ρ':=[some (.list (ns.map .int)),some (.list (S.map eS)),some (.int (qK ns 0)),some (encT t),some (eS sh),none]) (by simp_arith [q,em,eS']) ?_
   exact qY (ρ':=[some (.list (ns.map .int)),some (.list (S.map eS)),some (.int (qK ns 0)),some (encT t),some (eS sh),none]) (by simp_arith [q]) rfl
  have mirr:qK ns 0 % 8=5->∃ (S:List Sp) (o5:Option PyData),0<S.length/\S.length<=7/\(∀ c∈S,BdS 110 c)/\zJ [some (.list (ns.map .int)),some (.list (A.map eS)),none,none,none,none]=(sRet (evA (aC (Qh 6 (evI (vr 1) seqD) tT (evC 3 (aC (vr 3) (aC (vr 4) (aC (vr 6) aN))) qG)) aN) zH)) [some (.list (ns.map .int)),some (.list (S.map eS)),some (.int (qK ns 0)),some (encT t),some (eS sh),o5]:=fun q=>by
   have hz:(A.map eS).length<=1000:=by rw [List.length_map];omega
   have hc:zR tT (evA (aC (ev1 (ev2 (vr 6) (kd (.int 0)) ixD) negD) (aC (ev2 (vr 6) (kd (.int 1)) ixD) (aC (ev2 (vr 6) (kd (.int 2)) ixD) aN))) tupD) [some (.list (ns.map .int)),some (.list (A.map eS)),some (.int (qK ns 0)),some (encT t),some (eS sh),none] (A.map eS)=some (A.map fun c=>eS (-c.1,c.2)):=zK eS _ A fun c _=>by
    simp_arith [ixe0,ixe1,ixe2]
    rfl
   have em:(A.map fun c=>eS (-c.1,c.2))=(A.map fun c:Sp=>(-c.1,c.2)).map eS:=by rw [List.map_map];rfl
   rw [em] at hc
   refine ⟨A.map fun c=>(-c.1,c.2),none,by rw [List.length_map];exact h.h0,by rw [List.length_map];omega,fun c hc=>?_,?_⟩
   ·obtain ⟨d,hd,rfl⟩:=List.mem_map.mp hc
    obtain ⟨a1,a2,a3⟩:=big d hd
    exact ⟨a1.neg,a2,a3⟩
   unfold zJ
   refine qY (ρ':=[some (.list (ns.map .int)),some (.list (A.map eS)),some (.int (qK ns 0)),none,none,none]) (by simp_arith [c0]) ?_
   refine qY (ρ':=[some (.list (ns.map .int)),some (.list (A.map eS)),some (.int (qK ns 0)),some (encT t),none,none]) (by simp_arith [c1,et]) ?_
   refine qY (ρ':=[some (.list (ns.map .int)),some (.list (A.map eS)),some (.int (qK ns 0)),some (encT t),some (eS sh),none]) (by simp_arith [es]) ?_
   refine qY (ρ':=[some (.list (ns.map .int)),some (.list ((A.map fun c=>(-c.1,c.2)).map eS)),some (.int (qK ns 0)),some (encT t),some (eS sh),none]) (by simp_arith [q,hz,hc]) ?_
   refine qY (ρ':=[some (.list (ns.map .int)),some (.list ((A.map fun c=>(-c.1,c.2)).map eS)),some (.int (qK ns 0)),some (encT t),some (eS sh),none]) (by simp_arith [q]) ?_
   exact qY (ρ':=[some (.list (ns.map .int)),some (.list ((A.map fun c=>(-c.1,c.2)).map eS)),some (.int (qK ns 0)),some (encT t),some (eS sh),none]) (by simp_arith [q]) rfl
  rcases k8i (qK ns 0) with q|q|q|q|q|q|q|q
  ·exact ⟨A,none,h.h0,by omega,big,fun _=>rfl,same (.inl q)⟩
  ·exact ⟨A,none,h.h0,by omega,big,fun _=>rfl,same (.inr (.inl q))⟩
  ·exact ⟨A,none,h.h0,by omega,big,fun _=>rfl,same (.inr (.inr (.inl q)))⟩
  ·exact ⟨A,none,h.h0,by omega,big,fun _=>rfl,same (.inr (.inr (.inr q)))⟩
  ·obtain ⟨S,o5,a,b,c,d⟩:=more (.inl q)
   exact ⟨S,o5,a,b,c,fun z=>by omega,d⟩
  ·obtain ⟨S,o5,a,b,c,d⟩:=mirr q
   exact ⟨S,o5,a,b,c,fun z=>by omega,d⟩
  ·obtain ⟨S,o5,a,b,c,d⟩:=other q
   exact ⟨S,o5,a,b,c,fun z=>by omega,d⟩
  ·obtain ⟨S,o5,a,b,c,d⟩:=more (.inr q)
   exact ⟨S,o5,a,b,c,fun z=>by omega,d⟩
 obtain ⟨B,eB,pB,rB⟩:=Zj (xs:=S.map (ct t sh)) (by rw [List.length_map];omega)
 have hz:(S.map eS).length<=1000:=by rw [List.length_map];omega
 have hc:zR tT (evC 3 (aC (vr 3) (aC (vr 4) (aC (vr 6) aN))) qG) [some (.list (ns.map .int)),some (.list (S.map eS)),some (.int (qK ns 0)),some (encT t),some (eS sh),o5] (S.map eS)=some (S.map fun c=>eS (ct t sh c)):=zK eS _ S fun c hc=>by
  have e:=YG ht (n:=110) (by decide) (hSb c hc) sh
  simp_arith [e]
 rw [List.map_map] at eB
 have eB:zH [.list (S.map fun c=>eS (ct t sh c))]=some (.list (B.map eS)):=eB
 have hBl:B.length=S.length:=by rw [pB.length_eq,List.length_map]
 refine ⟨B,?_,⟨by omega,by omega,fun c hc=>?_⟩,rB,fun z=>⟨t,ht,sh,by rw [← hSA z];exact pB⟩⟩
 ·show ob (zJ [some (.list (ns.map .int)),some (.list (A.map eS)),none,none,none,none]) outD=_
  rw [hrow]
  simp_arith [hz,hc,eB]
 ·obtain ⟨d,hd,rfl⟩:=List.mem_map.mp (pB.mem_iff.mp hc)
  rw [ct_b t sh d]
  exact qfU (ct_bd (qcb t ht).bd (hSb d hd)) bs (by decide)
theorem qgj (A B:List Sp):neD (.list [.list (A.map eS),.list (B.map eS)]) (.list [.list (A.map eS),.list (B.map eS)])=some (.bool false):=by
 have hc:=Yp A
 have hj:=Yp B
 have sh:SeqAt.shaped (.list [.list (A.map eS),.list (B.map eS)])=true:=by
  have h2:PyData.depth (.list [.list (A.map eS),.list (B.map eS)])=max (PyData.depthAll (A.map eS)+1) (max (PyData.depthAll (B.map eS)+1) 0)+1:=rfl
  have h3:PyData.canLay0 (.list [.list (A.map eS),.list (B.map eS)])=(PyData.canLayAll0 (A.map eS)&&(PyData.canLayAll0 (B.map eS)&&true)):=rfl
  unfold SeqAt.shaped
  rw [h2,h3,hc.1,hj.1,Bool.and_eq_true]
  exact ⟨rfl,decide_eq_true (by omega)⟩
 have sf:∀ z:List Sp,PyData.eqv (.list (z.map eS)) (.list (z.map eS))=true:=fun z=>by
  have:=Wt z z
  unfold eqD at this
  rw [if_pos ⟨Zi _,Zi _⟩,decide_eq_true rfl] at this
  cases h:PyData.eqv (.list (z.map eS)) (.list (z.map eS)) with
  | true=>rfl
  | false=>rw [h] at this;cases this
 unfold neD
 have:PyData.eqv (.list [.list (A.map eS),.list (B.map eS)]) (.list [.list (A.map eS),.list (B.map eS)])=(PyData.eqv (.list (A.map eS)) (.list (A.map eS))&&(PyData.eqv (.list (B.map eS)) (.list (B.map eS))&&true)):=rfl
 rw [if_pos ⟨sh,sh⟩,this,sf,sf]
 rfl
theorem qcv (ns:List Int)(_:ns.length<=63)(hb:∀ k∈ns,Builtin.Int.intBits k<=2 ^ 20):qbN [.list (ns.map .int)]=some (.bool true):=by
 have c0:=cell_eq ns 0 (by decide)
 obtain ⟨ms,em,hm⟩:=qah ns (i:=6) (by decide) (.inl rfl)
 obtain ⟨mo,emo,m1,m6⟩:=qgQ ns (i:=6) (m:=6) (by decide) (by decide)
 obtain ⟨A,eA,hA⟩:=qac ms hm m1 m6
 obtain ⟨B,eB,sB,rB,mv⟩:=qfe hb hA
 have sA:So A:=⟨hA.h0,by have:=hA.h1;omega,fun c hc=>by
  obtain ⟨a1,a2,a3⟩:=hA.hb c hc
  exact ⟨a1.mono (by decide),a2.mono (by decide),a3.mono (by decide)⟩⟩
 have rA:Ris A:=hA.hr
 obtain ⟨m,hm1,l1⟩:=Yd sA
 obtain ⟨n,hn1,l2⟩:=Yd sB
 obtain ⟨m',hm2,k1⟩:=qaM sA
 obtain ⟨n',hn2,k2⟩:=qaM sB
 cases hm1.uniq hm2
 cases hn1.uniq hn2
 have len:∀ {X z:List Sp},So X->jf X z->z.length<=900:=fun {X z} sX h=>by
  obtain ⟨⟨t,_,b,_,p,_⟩,_⟩:=h
  rw [p.length_eq,List.length_map]
  have:=sX.h1;omega
 have w1:=qbw (ys:=m) (len sA hm1)
 have w2:=qbw (ys:=n) (len sB hn1)
 have neH:neD (.list [.list (A.map eS),.list (B.map eS)]) (.list [.list (A.map eS),.list (B.map eS)])=some (.bool false):=qgj A B
 have eqm:=Wt m n
 have nem:=qgR m n
 by_cases M:Moved A B
 ·have e:m=n:=(hm1.moved sA M).uniq hn1
  subst e
  rw [decide_eq_true rfl] at eqm nem
  obtain ⟨t,ht,sh,s1,p1⟩:=qd6 sA sB rB M
  obtain ⟨u,hu,sh',s2,p2⟩:=qd6 sB sA rA (qaP hn1 hm1)
  have i1:=wO sA ht p1 rB
  have i2:=wO sB hu p2 rA
  have e:Wj (rho0 qbs.length [.list (ns.map .int)])=some (.rt (.bool true)):=by
   unfold Wj
   refine qY (ρ':=[some (.list (ns.map .int)),some (.list (A.map eS)),none,none,none,none]) (by simp_arith [em,emo,eA]) ?_
   refine qY (ρ':=[some (.list (ns.map .int)),some (.list (A.map eS)),some (.list (B.map eS)),none,none,none]) (by simp_arith [eB]) ?_
   refine qY (ρ':=[some (.list (ns.map .int)),some (.list (A.map eS)),some (.list (B.map eS)),some (.list [.list (m.map eS),.list (m.map eS)]),none,none]) (by simp_arith [k1,k2]) ?_
   refine qY (ρ':=[some (.list (ns.map .int)),some (.list (A.map eS)),some (.list (B.map eS)),some (.list [.list (m.map eS),.list (m.map eS)]),some (.list [.list (A.map eS),.list (B.map eS)]),none]) (by simp_arith []) ?_
   refine qY (ρ':=[some (.list (ns.map .int)),some (.list (A.map eS)),some (.list (B.map eS)),some (.list [.list (m.map eS),.list (m.map eS)]),some (.list [.list (A.map eS),.list (B.map eS)]),none]) (by simp_arith [l1,w1]) ?_
   refine qY (ρ':=[some (.list (ns.map .int)),some (.list (A.map eS)),some (.list (B.map eS)),some (.list [.list (m.map eS),.list (m.map eS)]),some (.list [.list (A.map eS),.list (B.map eS)]),none]) (by simp_arith [l2,w2]) ?_
   refine qY (ρ':=[some (.list (ns.map .int)),some (.list (A.map eS)),some (.list (B.map eS)),some (.list [.list (m.map eS),.list (m.map eS)]),some (.list [.list (A.map eS),.list (B.map eS)]),some (.tuple [.str "same", encT t,eS sh])]) (by simp_arith [s1]) ?_
   refine qY (ρ':=[some (.list (ns.map .int)),some (.list (A.map eS)),some (.list (B.map eS)),some (.list [.list (m.map eS),.list (m.map eS)]),some (.list [.list (A.map eS),.list (B.map eS)]),some (.tuple [.str "same", encT t,eS sh])]) (by simp_arith [neH]) ?_
   refine qY (ρ':=[some (.list (ns.map .int)),some (.list (A.map eS)),some (.list (B.map eS)),some (.list [.list (m.map eS),.list (m.map eS)]),some (.list [.list (A.map eS),.list (B.map eS)]),some (.tuple [.str "same", encT t,eS sh])]) (by cases hq:decide (qK ns 0 % 8<4)<;>simp_arith [c0,hq,nem]) ?_
   simp_arith [eqm,i1,s2,i2]
  unfold qbN
  rw [e]
  rfl
 ·have hne:¬ m=n:=fun e=>M (qaP hm1 (e ▸ hn1))
  rw [decide_eq_false hne] at eqm
  obtain ⟨m',n',q1,q2,s1⟩:=qeh sA sB M
  cases hm1.uniq q1
  cases hn1.uniq q2
  have hlt:decide (qK ns 0 % 8<4)=false:=decide_eq_false fun z=>M (mv z)
  have nu:neD (.str "unlike") (.str "unlike")=some (.bool false):=by kernel_rfl
  have e:Wj (rho0 qbs.length [.list (ns.map .int)])=some (.rt (.bool true)):=by
   unfold Wj
   refine qY (ρ':=[some (.list (ns.map .int)),some (.list (A.map eS)),none,none,none,none]) (by simp_arith [em,emo,eA]) ?_
   refine qY (ρ':=[some (.list (ns.map .int)),some (.list (A.map eS)),some (.list (B.map eS)),none,none,none]) (by simp_arith [eB]) ?_
   refine qY (ρ':=[some (.list (ns.map .int)),some (.list (A.map eS)),some (.list (B.map eS)),some (.list [.list (m.map eS),.list (n.map eS)]),none,none]) (by simp_arith [k1,k2]) ?_
   refine qY (ρ':=[some (.list (ns.map .int)),some (.list (A.map eS)),some (.list (B.map eS)),some (.list [.list (m.map eS),.list (n.map eS)]),some (.list [.list (A.map eS),.list (B.map eS)]),none]) (by simp_arith []) ?_
   refine qY (ρ':=[some (.list (ns.map .int)),some (.list (A.map eS)),some (.list (B.map eS)),some (.list [.list (m.map eS),.list (n.map eS)]),some (.list [.list (A.map eS),.list (B.map eS)]),none]) (by simp_arith [l1,w1]) ?_
   refine qY (ρ':=[some (.list (ns.map .int)),some (.list (A.map eS)),some (.list (B.map eS)),some (.list [.list (m.map eS),.list (n.map eS)]),some (.list [.list (A.map eS),.list (B.map eS)]),none]) (by simp_arith [l2,w2]) ?_
   refine qY (ρ':=[some (.list (ns.map .int)),some (.list (A.map eS)),some (.list (B.map eS)),some (.list [.list (m.map eS),.list (n.map eS)]),some (.list [.list (A.map eS),.list (B.map eS)]),some (.tuple [.str "unlike", .list (m.map eS),.list (n.map eS)])]) (by simp_arith [s1]) ?_
   refine qY (ρ':=[some (.list (ns.map .int)),some (.list (A.map eS)),some (.list (B.map eS)),some (.list [.list (m.map eS),.list (n.map eS)]),some (.list [.list (A.map eS),.list (B.map eS)]),some (.tuple [.str "unlike", .list (m.map eS),.list (n.map eS)])]) (by simp_arith [neH]) ?_
   refine qY (ρ':=[some (.list (ns.map .int)),some (.list (A.map eS)),some (.list (B.map eS)),some (.list [.list (m.map eS),.list (n.map eS)]),some (.list [.list (A.map eS),.list (B.map eS)]),some (.tuple [.str "unlike", .list (m.map eS),.list (n.map eS)])]) (by simp_arith [c0,hlt]) ?_
   refine qY (ρ':=[some (.list (ns.map .int)),some (.list (A.map eS)),some (.list (B.map eS)),some (.list [.list (m.map eS),.list (n.map eS)]),some (.list [.list (A.map eS),.list (B.map eS)]),some (.tuple [.str "unlike", .list (m.map eS),.list (n.map eS)])]) (by simp_arith [eqm]) ?_
   refine qY (ρ':=[some (.list (ns.map .int)),some (.list (A.map eS)),some (.list (B.map eS)),some (.list [.list (m.map eS),.list (n.map eS)]),some (.list [.list (A.map eS),.list (B.map eS)]),some (.tuple [.str "unlike", .list (m.map eS),.list (n.map eS)])]) (by simp_arith [nu]) ?_
   simp_arith [w1,w2]
  unfold qbN
  rw [e]
  rfl
end SF
namespace SF
open PySem L2
theorem qf8 {l:PySem.W.OpenLaw}{w:World}{K:PySem.W.Frag}{h:Heap}{mg:Str->Option Value}{fa f11 f35:Addr}(X:K.In h)(G:h.Ns mainGlobals mg)(hfa:mg "law" = some (.ref fa))
  {od11 an11 od35 an35:Option Addr} {sl11 sl35:Array (Option Value)} {oc11 kV11 dc11 pm11 cd11 ct11 oc35 kV35 dc35 pm35 cd35 ct35:Value}
  (h0:FnK K "is_whole" JN)
  (h1:FnK K "is_unit" Js)
  (h2:FnK K "added" W9)
  (h3:FnK K "cross" qaa)
  (h4:FnK K "is_turn" Jr)
  (h5:FnK K "all_turns" Je)
  (h6:FnK K "turned" yg)
  (h7:FnK K "middle_of" Jf)
  (h8:FnK K "cube_of" yE)
  (h9:FnK K "lows_of" Jt)
  (h10:FnK K "shift_between" Qk)
  {df11:Addr} {df11c:Value} {df11d:Option Addr} {df11n:Nat} {df11s:Array (Option Value)}
  (a11:PySem.W.nsIn K mainGlobals "solid_turned" = some (some (.ref f11))) (l11:K.lookup f11=some ⟨oc11,od11,.func (PySem.W.fnOf "solid_turned" "solid_turned" (Za Qi) (zZ Qi) (qi Qi) (.ref df11) kV11 dc11 pm11 an11 cd11 ct11),sl11⟩) (c11:PySem.W.codeIn K cd11 "solid_turned" = true) (k11:PySem.W.keepIn K (.ref f11)=true)
  (h12:FnK K "solid_onto" jU)
  (h13:FnK K "least_solid" Zm)
  (h14:FnK K "same_solids" jq)
  (h15:FnK K "_law_cell_at" Z9)
  (h16:FnK K "_law_whole" jT)
  (h17:FnK K "_law_triple" jo)
  (h18:FnK K "_law_offset" jn)
  (h19:FnK K "_law_cross" jO)
  (h20:FnK K "_law_units" jR)
  (h21:FnK K "_law_turn" Zt)
  (h22:FnK K "_law_turned" Zk)
  (h23:FnK K "_law_mixed" jP)
  (h24:FnK K "_law_most" Jd)
  (h25:FnK K "_law_steps" ZL)
  (h26:FnK K "_law_solid" jQ)
  (h27:FnK K "_law_cube_turned" QV)
  (h28:FnK K "_law_cubes_alike" QW)
  (h29:FnK K "_law_shift" ZK)
  (h30:FnK K "_law_lowered" QG)
  (h31:FnK K "_law_least" ZJ)
  (h32:FnK K "_law_more" Jc)
  (h33:FnK K "_law_other" QK)
  (h34:FnK K "_law_is_same" QF)
  (a35:PySem.W.nsIn K mainGlobals "law" = some (some (.ref f35))) (l35:K.lookup f35=some ⟨oc35,od35,.func (PySem.W.fnOf "law" "law" (Za yf) (zZ yf) (qi yf) .none kV35 dc35 pm35 an35 cd35 ct35),sl35⟩) (c35:PySem.W.codeIn K cd35 "law" = true) (k35:PySem.W.keepIn K (.ref f35)=true)
  (y11:K.lookup df11=some ⟨df11c,df11d,.seq #[.none] df11n,df11s⟩)
  (z0:PySem.W.nsIn K mainGlobals "isinstance" = some none)
  (z1:PySem.W.nsIn K mainGlobals "int" = some none)
  (z2:PySem.W.nsIn K mainGlobals "bool" = some none)
  (z3:PySem.W.nsIn K mainGlobals "tuple" = some none)
  (z4:PySem.W.nsIn K mainGlobals "all" = some none)
  (z5:PySem.W.nsIn K mainGlobals "len" = some none)
  (z6:PySem.W.nsIn K mainGlobals "sorted" = some none)
  (z7:PySem.W.nsIn K mainGlobals "range" = some none)
  (z8:PySem.W.nsIn K mainGlobals "min" = some none)
  (z9:PySem.W.nsIn K mainGlobals "zip" = some none)
  (z10:PySem.W.nsIn K mainGlobals "list" = some none)
  (z11:PySem.W.nsIn K mainGlobals "max" = some none)
  {kc0_a0:Addr}
  {kc0_d0:Option Addr}
  {kc0_n0:Nat}
  {kc0_s0:Array (Option Value)}
  {kc0_a4:Addr}
  {kc0_d4:Option Addr}
  {kc0_n4:Nat}
  {kc0_s4:Array (Option Value)}
  {kc0_t8:Tok}
  {kc0_t9:Tok}
  {kc0_t10:Tok}
  {kc0_a11:Addr}
  {kc0_d11:Option Addr}
  {kc0_n11:Nat}
  {kc0_s11:Array (Option Value)}
  {kc0_t15:Tok}
  {kc0_t16:Tok}
  {kc0_t17:Tok}
  {kc0_a18:Addr}
  {kc0_d18:Option Addr}
  {kc0_n18:Nat}
  {kc0_s18:Array (Option Value)}
  {kc0_t22:Tok}
  {kc0_t23:Tok}
  {kc0_t24:Tok}
  {kc0_a25:Addr}
  {kc0_d25:Option Addr}
  {kc0_n25:Nat}
  {kc0_s25:Array (Option Value)}
  {kc0_t29:Tok}
  {kc0_t30:Tok}
  {kc0_t31:Tok}
  {kc0_a32:Addr}
  {kc0_d32:Option Addr}
  {kc0_n32:Nat}
  {kc0_s32:Array (Option Value)}
  {kc0_t36:Tok}
  {kc0_t37:Tok}
  {kc0_t38:Tok}
  {kc0_a39:Addr}
  {kc0_d39:Option Addr}
  {kc0_n39:Nat}
  {kc0_s39:Array (Option Value)}
  {kc0_t43:Tok}
  {kc0_t44:Tok}
  {kc0_t45:Tok}
  (kc0:PySem.W.nsIn K mainGlobals "UNITS" = some (some (.ref kc0_a0)))
  (kc0_h0:K.lookup kc0_a0=some ⟨.type "tuple", kc0_d0,.seq #[(.ref kc0_a4),(.ref kc0_a11),(.ref kc0_a18),(.ref kc0_a25),(.ref kc0_a32),(.ref kc0_a39)] kc0_n0,kc0_s0⟩)
  (kc0_h4:K.lookup kc0_a4=some ⟨.type "tuple", kc0_d4,.seq #[(.int (-1) kc0_t8),(.int (0) kc0_t9),(.int (0) kc0_t10)] kc0_n4,kc0_s4⟩)
  (kc0_h11:K.lookup kc0_a11=some ⟨.type "tuple", kc0_d11,.seq #[(.int (0) kc0_t15),(.int (-1) kc0_t16),(.int (0) kc0_t17)] kc0_n11,kc0_s11⟩)
  (kc0_h18:K.lookup kc0_a18=some ⟨.type "tuple", kc0_d18,.seq #[(.int (0) kc0_t22),(.int (0) kc0_t23),(.int (-1) kc0_t24)] kc0_n18,kc0_s18⟩)
  (kc0_h25:K.lookup kc0_a25=some ⟨.type "tuple", kc0_d25,.seq #[(.int (0) kc0_t29),(.int (0) kc0_t30),(.int (1) kc0_t31)] kc0_n25,kc0_s25⟩)
  (kc0_h32:K.lookup kc0_a32=some ⟨.type "tuple", kc0_d32,.seq #[(.int (0) kc0_t36),(.int (1) kc0_t37),(.int (0) kc0_t38)] kc0_n32,kc0_s32⟩)
  (kc0_h39:K.lookup kc0_a39=some ⟨.type "tuple", kc0_d39,.seq #[(.int (1) kc0_t43),(.int (0) kc0_t44),(.int (0) kc0_t45)] kc0_n39,kc0_s39⟩)
  : ∃ fd:FuncData,(∀ (s:Shared) (v:Value),BindsTo s fd ⟨[v],[]⟩ [("_law_script", v)])/\∀ base:Heap,K.In base->base.Ns mainGlobals mg->FnOk l.prog w K mg base CX0 7 fa fd ["_law_script"] (qbn K 63):=by
 have g {n:Str} {v:Value} (e:PySem.W.nsIn K mainGlobals n=some (some v)):mg n=some v:=PySem.W.mg_of X G e
 have e:=hfa.symm.trans (g a35)
 cases e
 obtain ⟨f0,d0,a0,F0⟩:=h0
 have b0:=F0.binds (ps:=["thing"]) fun _ _ _ _ _ _ us hl=>match us,hl with | [_],_=>rfl
 obtain ⟨f1,d1,a1,F1⟩:=h1
 have b1:=F1.binds (ps:=["thing"]) fun _ _ _ _ _ _ us hl=>match us,hl with | [_],_=>rfl
 obtain ⟨f2,d2,a2,F2⟩:=h2
 have b2:=F2.binds (ps:=["one", "other"]) fun _ _ _ _ _ _ us hl=>match us,hl with | [_,_],_=>rfl
 obtain ⟨f3,d3,a3,F3⟩:=h3
 have b3:=F3.binds (ps:=["one", "other"]) fun _ _ _ _ _ _ us hl=>match us,hl with | [_,_],_=>rfl
 obtain ⟨f4,d4,a4,F4⟩:=h4
 have b4:=F4.binds (ps:=["thing"]) fun _ _ _ _ _ _ us hl=>match us,hl with | [_],_=>rfl
 obtain ⟨f5,d5,a5,F5⟩:=h5
 have b5:=F5.binds (ps:=[]) fun _ _ _ _ _ _ us hl=>match us,hl with | [],_=>rfl
 obtain ⟨f6,d6,a6,F6⟩:=h6
 have b6:=F6.binds (ps:=["turn", "spot"]) fun _ _ _ _ _ _ us hl=>match us,hl with | [_,_],_=>rfl
 obtain ⟨f7,d7,a7,F7⟩:=h7
 have b7:=F7.binds (ps:=["cube"]) fun _ _ _ _ _ _ us hl=>match us,hl with | [_],_=>rfl
 obtain ⟨f8,d8,a8,F8⟩:=h8
 have b8:=F8.binds (ps:=["spot"]) fun _ _ _ _ _ _ us hl=>match us,hl with | [_],_=>rfl
 obtain ⟨f9,d9,a9,F9⟩:=h9
 have b9:=F9.binds (ps:=["places"]) fun _ _ _ _ _ _ us hl=>match us,hl with | [_],_=>rfl
 obtain ⟨f10,d10,a10,F10⟩:=h10
 have b10:=F10.binds (ps:=["places", "others"]) fun _ _ _ _ _ _ us hl=>match us,hl with | [_,_],_=>rfl
 have F11:=qeP (st:=Qi) l11 c11 k11
 obtain ⟨f12,d12,a12,F12⟩:=h12
 have b12:=F12.binds (ps:=["solid", "turn", "cubes"]) fun _ _ _ _ _ _ us hl=>match us,hl with | [_,_,_],_=>rfl
 obtain ⟨f13,d13,a13,F13⟩:=h13
 have b13:=F13.binds (ps:=["solid"]) fun _ _ _ _ _ _ us hl=>match us,hl with | [_],_=>rfl
 obtain ⟨f14,d14,a14,F14⟩:=h14
 have b14:=F14.binds (ps:=["one", "other"]) fun _ _ _ _ _ _ us hl=>match us,hl with | [_,_],_=>rfl
 obtain ⟨f15,d15,a15,F15⟩:=h15
 have b15:=F15.binds (ps:=["_law_script", "_law_k"]) fun _ _ _ _ _ _ us hl=>match us,hl with | [_,_],_=>rfl
 obtain ⟨f16,d16,a16,F16⟩:=h16
 have b16:=F16.binds (ps:=["_law_found"]) fun _ _ _ _ _ _ us hl=>match us,hl with | [_],_=>rfl
 obtain ⟨f17,d17,a17,F17⟩:=h17
 have b17:=F17.binds (ps:=["_law_found", "_law_due"]) fun _ _ _ _ _ _ us hl=>match us,hl with | [_,_],_=>rfl
 obtain ⟨f18,d18,a18,F18⟩:=h18
 have b18:=F18.binds (ps:=["_law_cell"]) fun _ _ _ _ _ _ us hl=>match us,hl with | [_],_=>rfl
 obtain ⟨f19,d19,a19,F19⟩:=h19
 have b19:=F19.binds (ps:=["_law_one", "_law_other_here"]) fun _ _ _ _ _ _ us hl=>match us,hl with | [_,_],_=>rfl
 obtain ⟨f20,d20,a20,F20⟩:=h20
 have b20:=F20.binds (ps:=[]) fun _ _ _ _ _ _ us hl=>match us,hl with | [],_=>rfl
 obtain ⟨f21,d21,a21,F21⟩:=h21
 have b21:=F21.binds (ps:=["_law_cell"]) fun _ _ _ _ _ _ us hl=>match us,hl with | [_],_=>rfl
 obtain ⟨f22,d22,a22,F22⟩:=h22
 have b22:=F22.binds (ps:=["_law_turn_here", "_law_spot"]) fun _ _ _ _ _ _ us hl=>match us,hl with | [_,_],_=>rfl
 obtain ⟨f23,d23,a23,F23⟩:=h23
 have b23:=F23.binds (ps:=["_law_cell", "_law_k"]) fun _ _ _ _ _ _ us hl=>match us,hl with | [_,_],_=>rfl
 obtain ⟨f24,d24,a24,F24⟩:=h24
 have b24:=F24.binds (ps:=["_law_script", "_law_at", "_law_most_here"]) fun _ _ _ _ _ _ us hl=>match us,hl with | [_,_,_],_=>rfl
 obtain ⟨f25,d25,a25,F25⟩:=h25
 have b25:=F25.binds (ps:=["_law_script", "_law_at", "_law_base"]) fun _ _ _ _ _ _ us hl=>match us,hl with | [_,_,_],_=>rfl
 obtain ⟨f26,d26,a26,F26⟩:=h26
 have b26:=F26.binds (ps:=["_law_steps_here", "_law_most_here"]) fun _ _ _ _ _ _ us hl=>match us,hl with | [_,_],_=>rfl
 obtain ⟨f27,d27,a27,F27⟩:=h27
 have b27:=F27.binds (ps:=["_law_turn_here", "_law_shift_here", "_law_cube"]) fun _ _ _ _ _ _ us hl=>match us,hl with | [_,_,_],_=>rfl
 obtain ⟨f28,d28,a28,F28⟩:=h28
 have b28:=F28.binds (ps:=["_law_found", "_law_due"]) fun _ _ _ _ _ _ us hl=>match us,hl with | [_,_],_=>rfl
 obtain ⟨f29,d29,a29,F29⟩:=h29
 have b29:=F29.binds (ps:=["_law_script", "_law_at"]) fun _ _ _ _ _ _ us hl=>match us,hl with | [_,_],_=>rfl
 obtain ⟨f30,d30,a30,F30⟩:=h30
 have b30:=F30.binds (ps:=["_law_solid_here"]) fun _ _ _ _ _ _ us hl=>match us,hl with | [_],_=>rfl
 obtain ⟨f31,d31,a31,F31⟩:=h31
 have b31:=F31.binds (ps:=["_law_solid_here"]) fun _ _ _ _ _ _ us hl=>match us,hl with | [_],_=>rfl
 obtain ⟨f32,d32,a32,F32⟩:=h32
 have b32:=F32.binds (ps:=["_law_solid_here", "_law_cell"]) fun _ _ _ _ _ _ us hl=>match us,hl with | [_,_],_=>rfl
 obtain ⟨f33,d33,a33,F33⟩:=h33
 have b33:=F33.binds (ps:=["_law_script", "_law_solid_here"]) fun _ _ _ _ _ _ us hl=>match us,hl with | [_,_],_=>rfl
 obtain ⟨f34,d34,a34,F34⟩:=h34
 have b34:=F34.binds (ps:=["_law_found", "_law_one", "_law_other_here"]) fun _ _ _ _ _ _ us hl=>match us,hl with | [_,_,_],_=>rfl
 have F35:=qdg (st:=yf) l35 c35 k35
 have z_isinstance:=PySem.W.mg_none_of X G z0
 have z_int:=PySem.W.mg_none_of X G z1
 have z_bool:=PySem.W.mg_none_of X G z2
 have z_tuple:=PySem.W.mg_none_of X G z3
 have z_all:=PySem.W.mg_none_of X G z4
 have z_len:=PySem.W.mg_none_of X G z5
 have z_sorted:=PySem.W.mg_none_of X G z6
 have z_range:=PySem.W.mg_none_of X G z7
 have z_min:=PySem.W.mg_none_of X G z8
 have z_zip:=PySem.W.mg_none_of X G z9
 have z_list:=PySem.W.mg_none_of X G z10
 have z_max:=PySem.W.mg_none_of X G z11
 have C_UNITS:Wm K mg "UNITS" Jm:=⟨(.ref kc0_a0),(.ref kc0_a0),PySem.W.mg_of X G kc0,rfl,fun H S=>(.tuple (xs:=[(.ref kc0_a4),(.ref kc0_a11),(.ref kc0_a18),(.ref kc0_a25),(.ref kc0_a32),(.ref kc0_a39)]) (.inr ⟨_,_,_,kc0_h0,rfl,rfl,(show 6<=sizeLine by decide),(.cons rfl (.cons rfl (.cons rfl (.cons rfl (.cons rfl (.cons rfl .nil))))))⟩) (.cons (.tuple (xs:=[(.int (-1)),(.int (0)),(.int (0))]) (.inr ⟨_,_,_,kc0_h4,rfl,rfl,(show 3<=sizeLine by decide),(.cons ⟨_,rfl⟩ (.cons ⟨_,rfl⟩ (.cons ⟨_,rfl⟩ .nil)))⟩) (.cons (.int (-1)) (.cons (.int (0)) (.cons (.int (0)) .nil)))) (.cons (.tuple (xs:=[(.int (0)),(.int (-1)),(.int (0))]) (.inr ⟨_,_,_,kc0_h11,rfl,rfl,(show 3<=sizeLine by decide),(.cons ⟨_,rfl⟩ (.cons ⟨_,rfl⟩ (.cons ⟨_,rfl⟩ .nil)))⟩) (.cons (.int (0)) (.cons (.int (-1)) (.cons (.int (0)) .nil)))) (.cons (.tuple (xs:=[(.int (0)),(.int (0)),(.int (-1))]) (.inr ⟨_,_,_,kc0_h18,rfl,rfl,(show 3<=sizeLine by decide),(.cons ⟨_,rfl⟩ (.cons ⟨_,rfl⟩ (.cons ⟨_,rfl⟩ .nil)))⟩) (.cons (.int (0)) (.cons (.int (0)) (.cons (.int (-1)) .nil)))) (.cons (.tuple (xs:=[(.int (0)),(.int (0)),(.int (1))]) (.inr ⟨_,_,_,kc0_h25,rfl,rfl,(show 3<=sizeLine by decide),(.cons ⟨_,rfl⟩ (.cons ⟨_,rfl⟩ (.cons ⟨_,rfl⟩ .nil)))⟩) (.cons (.int (0)) (.cons (.int (0)) (.cons (.int (1)) .nil)))) (.cons (.tuple (xs:=[(.int (0)),(.int (1)),(.int (0))]) (.inr ⟨_,_,_,kc0_h32,rfl,rfl,(show 3<=sizeLine by decide),(.cons ⟨_,rfl⟩ (.cons ⟨_,rfl⟩ (.cons ⟨_,rfl⟩ .nil)))⟩) (.cons (.int (0)) (.cons (.int (1)) (.cons (.int (0)) .nil)))) (.cons (.tuple (xs:=[(.int (1)),(.int (0)),(.int (0))]) (.inr ⟨_,_,_,kc0_h39,rfl,rfl,(show 3<=sizeLine by decide),(.cons ⟨_,rfl⟩ (.cons ⟨_,rfl⟩ (.cons ⟨_,rfl⟩ .nil)))⟩) (.cons (.int (1)) (.cons (.int (0)) (.cons (.int (0)) .nil)))) .nil)))))))⟩
 refine ⟨PySem.W.fnOf "law" "law" (Za yf) (zZ yf) (qi yf) .none kV35 dc35 pm35 an35 cd35 ct35,fun s v=>.of_eq rfl,fun base _ _=>?_⟩
 have b35:=F35.binds (ps:=["_law_script"]) fun _ _ _ _ _ _ us hl=>match us,hl with | [_],_=>rfl
 have K_is_whole:=qbc l.prog w base F0 (g a0) b0 z_isinstance z_int z_bool
 have K_is_unit:=qct l.prog w base F1 (g a1) b1 K_is_whole z_isinstance z_tuple z_all C_UNITS
 have K_added:=qeW l.prog w base F2 (g a2) b2
 have K_cross:=qeX l.prog w base F3 (g a3) b3
 have K_is_turn:=qcs l.prog w base F4 (g a4) b4 K_is_unit K_cross z_isinstance z_tuple z_len z_all
 have K_all_turns:=qaF l.prog w base F5 (g a5) b5 K_cross K_is_turn z_sorted C_UNITS
 have K_turned:=qdn l.prog w base F6 (g a6) b6 z_tuple z_range
 have K_middle_of:=qaG l.prog w base F7 (g a7) b7
 have K_cube_of:=qcr l.prog w base F8 (g a8) b8
 have K_lows_of:=qcu l.prog w base F9 (g a9) b9 z_range z_len z_min
 have K_shift_between:=yU l.prog w base F10 (g a10) b10 K_lows_of z_tuple z_zip
 have O11:=YM (mg:=mg) l.prog w base F11 K_added K_cube_of K_turned K_middle_of z_sorted
 have K_solid_turned:Known l.prog w K mg base "solid_turned" 3 2 qJ:=⟨_,_,_,O11,g a11,F11.kp,Yn (us:=[]) (j:=3) y11 rfl rfl (fun xs hl=>match xs,hl with | [_,_,_],_=>⟨_,rfl,rfl⟩)⟩
 have X_solid_turned_1:KnownX l.prog w K mg base "solid_turned" 3 2 qJ [.none]:=⟨_,_,_,_,[.non],O11,g a11,F11.kp,Yn (us:=[.none]) (j:=2) y11 rfl rfl (fun xs hl=>match xs,hl with | [_,_],_=>⟨_,rfl,rfl⟩),(.cons rfl .nil),fun H S=>(.cons .none .nil)⟩
 have K_solid_onto:=WW l.prog w base F12 (g a12) b12 K_solid_turned K_shift_between X_solid_turned_1
 have K_least_solid:=ww l.prog w base F13 (g a13) b13 K_all_turns K_solid_onto z_min
 have K_same_solids:=wy l.prog w base F14 (g a14) b14 K_solid_onto K_shift_between K_solid_turned K_all_turns K_least_solid X_solid_turned_1
 have K__law_cell_at:=YB l.prog w base F15 (g a15) b15 z_len
 have K__law_whole:=WT l.prog w base F16 (g a16) b16 z_isinstance z_int z_bool
 have K__law_triple:=wk l.prog w base F17 (g a17) b17 K__law_whole z_isinstance z_tuple z_len
 have K__law_offset:=wj l.prog w base F18 (g a18) b18
 have K__law_cross:=WF l.prog w base F19 (g a19) b19
 have K__law_units:=WR l.prog w base F20 (g a20) b20
 have K__law_turn:=qaE l.prog w base F21 (g a21) b21 K__law_units K__law_cross
 have K__law_turned:=wu l.prog w base F22 (g a22) b22 z_tuple z_range
 have K__law_mixed:=WL l.prog w base F23 (g a23) b23
 have K__law_most:=qaD l.prog w base F24 (g a24) b24 K__law_cell_at K__law_mixed
 have K__law_steps:=WQ l.prog w base F25 (g a25) b25 K__law_cell_at K__law_mixed z_range
 have K__law_solid:=WP l.prog w base F26 (g a26) b26 K__law_units z_len z_sorted
 have K__law_cube_turned:=JG l.prog w base F27 (g a27) b27 K__law_turned
 have K__law_cubes_alike:=JH l.prog w base F28 (g a28) b28 K__law_triple z_isinstance z_list z_len z_range
 have K__law_shift:=WN l.prog w base F29 (g a29) b29 K__law_offset K__law_cell_at z_tuple z_range
 have K__law_lowered:=YD l.prog w base F30 (g a30) b30 z_range z_min z_sorted
 have K__law_least:=WK l.prog w base F31 (g a31) b31 K__law_lowered K__law_cube_turned K__law_turn z_range
 have K__law_more:=qaC l.prog w base F32 (g a32) b32 K__law_units z_sorted z_len
 have K__law_other:=WM l.prog w base F33 (g a33) b33 K__law_cell_at K__law_turn K__law_shift K__law_solid K__law_steps K__law_more K__law_cube_turned z_max z_len z_sorted
 have K__law_is_same:=YC l.prog w base F34 (g a34) b34 K__law_turn K__law_triple K__law_cube_turned z_isinstance z_tuple z_len z_range z_sorted
 exact qdr (qgU l.prog w base F35 K__law_solid K__law_most K__law_steps K__law_other K__law_least K__law_cubes_alike K_least_solid K_same_solids K__law_cell_at K__law_is_same z_list z_isinstance z_tuple z_len) qcv
end SF
open PySem PySem.W PyProof.Rows
set_option maxRecDepth 100000 in
set_option maxHeartbeats 0 in
theorem PySem.Challenge.cw_sheetfold_k32_whole_solids_same_or_unlik_holds : PySem.Challenge.rw_sheetfold_k32_whole_solids_same_or_unlik.Holds := by
 w_on;o_law
 refine PySem.W.holds_open (q:=HD.vw) (YP:=(PySem.W.kHook HD.KH HD.kA HD.kE).says) HD.left (PySem.W.Hook.of _) (PySem.W.Hook.keeps _) (fun s e=>PySem.W.xl_of s (Bool.and_eq_true_iff.mp e).1) PySem.W.XL.keeps (by rfl) (by rfl) (by rfl) (fun s e=>PySem.W.recFacts_of (Bool.and_eq_true_iff.mp e).2) (by rfl) (by first|assumption|decide +kernel) (by decide +kernel) ⟨rfl,rfl,rfl,rfl,rfl,by decide +kernel⟩ ?hw ?hc
 case hw=>w_witness2
 k_fill
 refine L2.qcP (l:=PySem.Challenge.rw_sheetfold_k32_whole_solids_same_or_unlik) (n:=63) (k:=7) (x := "_law_script") rfl (by decide) rfl ⟨rfl,by decide,by decide⟩ (fun w h Y=>PySem.W.kIn_of Y) ?F
 case F =>
  intro w mg fa h KX G hmg
  refine' SF.qf8 KX G hmg ?_ ?_ ?_ ?_ ?_ ?_ ?_ ?_ ?_ ?_ ?_ ?_ ?_ ?_ ?_ ?_ ?_ ?_ ?_ ?_ ?_ ?_ ?_ ?_ ?_ ?_ ?_ ?_ ?_ ?_ ?_ ?_ ?_ ?_ ?_ ?_ ?_ ?_ ?_ ?_ ?_ ?_ ?_ ?_ ?_ ?_ ?_ ?_ ?_ ?_ ?_ ?_ ?_ ?_ ?_ ?_ ?_ ?_ ?_ ?_ ?_ ?_ ?_
  all_goals try first|k_is|exact L2.FnK.of (by k_is) (by k_is) (by k_is) (by k_is)|kernel_rfl
