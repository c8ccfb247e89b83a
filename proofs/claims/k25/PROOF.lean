import PyProof.Rows.All
import Wide.All
import OpenK.AllK
import Wide.FinOn
import Lean
import PyProof.EqAt
import PyProof.EqKinds
import PyProof.TupleCall
import PySem.Challenge.RW_sheetfold_k25_whole_joins_lead_over_a_sk
set_option Elab.async false
set_option linter.all false
set_option maxRecDepth 100000
noncomputable section
namespace HD
open PySem PySem.W PySem.Calls PyProof.Rows
noncomputable def vw:Program:=view PySem.Challenge.pw_sheetfold_k25_whole_joins_lead_over_a_sk [1,2,4,6,7,8,9,11,12,13,14,15,16,17,18,19,21,23,24,25,26,27,29,30,31,32,33,34,35,36,37,38,39,40,41,42,43,44,45]
def tp (i:Nat):Stmt:=PySem.Challenge.pw_sheetfold_k25_whole_joins_lead_over_a_sk.main.body.getD i (.Pass ⟨0,0,0,0⟩)
def dA:Stmt->Arguments
 | .FunctionDef _ a _ _ _ _ _ _ _ _=>a
 | _=>default
def dB:Stmt->List Stmt
 | .FunctionDef _ _ b _ _ _ _ _ _ _=>b
 | _=>[]
def dS:Stmt->Scope
 | .FunctionDef _ _ _ _ _ _ s _ _ _=>s
 | _=>default
abbrev de (P:Params)(x:String)(t:Nat)(v:Value):DictEntry:=DictEntry.mk (PyData.keyHash P (Str.ofString x)) (Value.str (Str.ofString x) t) v
abbrev S (x:String)(t:Nat):Value:=Value.str (Str.ofString x) t
abbrev I (n:Int)(t:Nat):Value:=Value.int n t
abbrev R (a:Addr):Value:=Value.ref a
abbrev Y (x:String):Value:=Value.type x
abbrev N:Value:=Value.none
abbrev tu (a:Array Value):Obj:=Obj.mk (Value.type "tuple") Option.none (Data.seq a) #[]
abbrev cc (x:String)(t1 t2 t3:Nat)(l n:Int)(a1:Addr)(k:Int)(a2:Addr)(u v:Value)(a3:Addr)(t4:Int)(t5:Nat):Obj:=Obj.mk (Value.type "code") Option.none (Data.fields #[S x t1,S x t2,S "/claim/cut.py" t3,I l 0,I n 0,I 0 0,I 0 0,I 3 0,R a1,Value.bool Bool.true,I k 0,R a2,N,u,v,R a3,I t4 0,I l 0,S "/claim/cut.py" t5]) #[]
abbrev fu (x:String)(i:Nat)(m:String)(t:Nat)(c:Addr):Obj:=Obj.mk (Value.type "function") Option.none (Data.func (FuncData.mk (Str.ofString x) (Str.ofString x) (dA (tp i)) (FuncBody.stmts (dB (tp i))) (dS (tp i)) 3 [] N N N (S m t) Option.none (R c) N 0)) #[]
set_option maxHeartbeats 0 in
noncomputable def KH:Params->Frag:=λ P =>
(nat_lit 2,Obj.mk N Option.none (Data.dict #[]) #[]) ::
(nat_lit 3,Obj.mk (Y "dict") Option.none (Data.dict #[de P "__name__" 165 (S "law_sheetfold_k25_whole_joins_lead_over_a_sk" 395),de P "__doc__" 166 N,de P "__package__" 167 N,de P "__loader__" 168 (Value.builtin "__main__.__loader__#opaque"),de P "__spec__" 169 N,de P "__annotations__" 170 (R 6),de P "__builtins__" 171 (R 4),de P "__file__" 173 (S "/claim/cut.py" 172),de P "__cached__" 174 N,de P "SheetError" 206 (R 24),de P "Crowded" 231 (R 44),de P "numbers_of" 239 (R 51),de P "UNITS" 263 (R 58),de P "added" 271 (R 65),de P "negated" 278 (R 72),de P "cross" 286 (R 79),de P "axis_of" 294 (R 84),de P "around" 300 (R 89),de P "edges_of" 307 (R 96),de P "squares_at" 313 (R 101),de P "middle_of" 320 (R 108),de P "cube_of" 327 (R 115),de P "cubes_at" 333 (R 120),de P "skin_of" 339 (R 125),de P "edge_counts" 349 (R 132),de P "outward_from" 361 (R 139),de P "CROWD" 365 (I 4 364),de P "crowded" 371 (R 144),de P "skin_joins" 377 (R 149),de P "bend_over" 388 (R 156),de P "pose_on" 394 (R 161),de P "_law_cell_at" 404 (R 168),de P "_law_whole" 411 (R 175),de P "_law_spots" 420 (R 182),de P "_law_base" 429 (R 189),de P "_law_solid" 445 (R 196),de P "_law_skin" 451 (R 201),de P "_law_near" 463 (R 208),de P "_law_met" 469 (R 213),de P "_law_mixed" 477 (R 220),de P "_law_cells" 483 (R 225),de P "_law_plain" 489 (R 230),de P "_law_cross" 499 (R 237),de P "_law_out" 505 (R 242),de P "_law_pose_right" 511 (R 247),de P "_law_leads" 526 (R 254),de P "_law_poses_right" 537 (R 261),de P "law" 543 (R 266)] 48) #[]) ::
(nat_lit 15,tu #[Y "ValueError"]) ::
(nat_lit 22,tu #[]) ::
(nat_lit 23,Obj.mk (Y "dict") Option.none (Data.dict #[de P "__module__" 196 (S "sheetfold.errors" 187),de P "__firstlineno__" 200 (I 2 199),de P "__static_attributes__" 201 (R 22),de P "__weakref__" 203 (R 25),de P "__doc__" 204 N] 3) #[]) ::
(nat_lit 24,Obj.mk (Y "type") Option.none (Data.cls (ClassData.mk (Str.ofString "SheetError") [Y "ValueError"] [R 24,Y "ValueError", Y "Exception", Y "BaseException", Y "object"] 23 (Str.ofString "SheetError") Bool.true [] [R 44] Bool.false Option.none Bool.false)) #[Option.some (R 15),Option.none,Option.some (S "SheetError" 189),Option.some (S "SheetError" 197),Option.some (Value.builtin "ValueError.__new__"),Option.some (Value.bool Bool.true)]) ::
(nat_lit 25,Obj.mk (Y "getset_descriptor") Option.none (Data.fields #[S "__weakref__" 202,R 24,Value.builtin "ExceptionGroup.__weakref__", N]) #[]) ::
(nat_lit 28,tu #[R 24]) ::
(nat_lit 35,tu #[]) ::
(nat_lit 37,tu #[S "self" 222,S "edge" 223]) ::
(nat_lit 38,tu #[]) ::
(nat_lit 40,Obj.mk (Y "code") Option.none (Data.fields #[S "__init__" 219,S "Crowded.__init__" 220,S "/claim/cut.py" 221,I 6 0,I 2 0,I 0 0,I 0 0,I 3 0,R 35,Value.bool Bool.true,I 181 0,R 36,N,R 37,R 38,R 39,I 224 0,I 6 0,S "/claim/cut.py" 225]) #[]) ::
(nat_lit 41,Obj.mk (Y "function") Option.none (Data.func (FuncData.mk (Str.ofString "__init__") (Str.ofString "Crowded.__init__") (Arguments.mk [] [Arg.mk (Str.ofString "self") Option.none (Pos.mk 6 17 6 21),Arg.mk (Str.ofString "edge") Option.none (Pos.mk 6 23 6 27)] Option.none [] [] Option.none []) (FuncBody.stmts [Stmt.Expr (Expr.Call (Expr.Attribute (Expr.Name (Str.ofString "SheetError") (Pos.mk 7 8 7 18)) (Str.ofString "__init__") (Pos.mk 7 8 7 27)) [Expr.Name (Str.ofString "self") (Pos.mk 7 28 7 32),Expr.JoinedStr [Expr.Constant (Const.str (Str.ofString "four squares meet at ")) 0 (Pos.mk 7 36 7 57),Expr.FormattedValue (Expr.Name (Str.ofString "edge") (Pos.mk 7 58 7 62)) 114 Option.none (Pos.mk 7 57 7 65)] (Pos.mk 7 34 7 66)] [] (Pos.mk 7 8 7 67)) (Pos.mk 7 8 7 67),Stmt.Assign [Expr.Attribute (Expr.Name (Str.ofString "self") (Pos.mk 8 8 8 12)) (Str.ofString "edge") (Pos.mk 8 8 8 17)] (Expr.Name (Str.ofString "edge") (Pos.mk 8 20 8 24)) (Pos.mk 8 8 8 24)]) (Scope.mk ScopeKind.function [(Str.ofString "self", NameKind.local),(Str.ofString "edge", NameKind.local),(Str.ofString "SheetError", NameKind.globalImplicit)] Bool.false Bool.false []) 3 [] N N N (S "sheetfold.errors" 187) Option.none (R 40) N 0)) #[]) ::
(nat_lit 42,tu #[S "edge" 227]) ::
(nat_lit 43,Obj.mk (Y "dict") Option.none (Data.dict #[de P "__module__" 214 (S "sheetfold.errors" 187),de P "__firstlineno__" 218 (I 4 217),de P "__init__" 226 (R 41),de P "__static_attributes__" 228 (R 42),de P "__doc__" 229 N] 2) #[]) ::
(nat_lit 44,Obj.mk (Y "type") Option.none (Data.cls (ClassData.mk (Str.ofString "Crowded") [R 24] [R 44,R 24,Y "ValueError", Y "Exception", Y "BaseException", Y "object"] 43 (Str.ofString "Crowded") Bool.true [] [] Bool.false Option.none Bool.false)) #[Option.some (R 28),Option.none,Option.some (S "Crowded" 207),Option.some (S "Crowded" 215),Option.some (Value.builtin "ValueError.__new__"),Option.some (Value.bool Bool.true)]) ::
(nat_lit 47,tu #[]) ::
(nat_lit 50,cc "numbers_of" 234 235 236 10 1 47 181 48 N N 49 237 238) ::
(nat_lit 51,fu "numbers_of" 4 "sheetfold.hanging" 232 50) ::
(nat_lit 52,tu #[I (-1) 243,I 0 244,I 0 245]) ::
(nat_lit 53,tu #[I 0 246,I (-1) 248,I 0 249]) ::
(nat_lit 54,tu #[I 0 250,I 0 251,I (-1) 253]) ::
(nat_lit 55,tu #[I 0 254,I 0 255,I 1 256]) ::
(nat_lit 56,tu #[I 0 257,I 1 258,I 0 259]) ::
(nat_lit 57,tu #[I 1 260,I 0 261,I 0 262]) ::
(nat_lit 58,tu #[R 52,R 53,R 54,R 55,R 56,R 57]) ::
(nat_lit 59,tu #[]) ::
(nat_lit 61,tu #[S "one" 267,S "other" 268]) ::
(nat_lit 62,tu #[]) ::
(nat_lit 64,cc "added" 264 265 266 14 2 59 181 60 (R 61) (R 62) 63 269 270) ::
(nat_lit 65,fu "added" 7 "sheetfold.turns" 240 64) ::
(nat_lit 66,tu #[]) ::
(nat_lit 68,tu #[S "spot" 275]) ::
(nat_lit 69,tu #[]) ::
(nat_lit 71,cc "negated" 272 273 274 16 1 66 181 67 (R 68) (R 69) 70 276 277) ::
(nat_lit 72,fu "negated" 8 "sheetfold.turns" 240 71) ::
(nat_lit 73,tu #[]) ::
(nat_lit 75,tu #[S "one" 282,S "other" 283]) ::
(nat_lit 76,tu #[]) ::
(nat_lit 78,cc "cross" 279 280 281 18 2 73 181 74 (R 75) (R 76) 77 284 285) ::
(nat_lit 79,fu "cross" 9 "sheetfold.turns" 240 78) ::
(nat_lit 80,tu #[]) ::
(nat_lit 83,cc "axis_of" 289 290 291 21 1 80 181 81 N N 82 292 293) ::
(nat_lit 84,fu "axis_of" 11 "sheetfold.squares" 287 83) ::
(nat_lit 85,tu #[]) ::
(nat_lit 88,cc "around" 295 296 297 23 2 85 181 86 N N 87 298 299) ::
(nat_lit 89,fu "around" 12 "sheetfold.squares" 287 88) ::
(nat_lit 90,tu #[]) ::
(nat_lit 92,tu #[S "square" 304]) ::
(nat_lit 93,tu #[]) ::
(nat_lit 95,cc "edges_of" 301 302 303 25 1 90 181 91 (R 92) (R 93) 94 305 306) ::
(nat_lit 96,fu "edges_of" 13 "sheetfold.squares" 287 95) ::
(nat_lit 97,tu #[]) ::
(nat_lit 100,cc "squares_at" 308 309 310 27 1 97 181 98 N N 99 311 312) ::
(nat_lit 101,fu "squares_at" 14 "sheetfold.squares" 287 100) ::
(nat_lit 102,tu #[]) ::
(nat_lit 104,tu #[S "cube" 317]) ::
(nat_lit 105,tu #[]) ::
(nat_lit 107,cc "middle_of" 314 315 316 29 1 102 181 103 (R 104) (R 105) 106 318 319) ::
(nat_lit 108,fu "middle_of" 15 "sheetfold.squares" 287 107) ::
(nat_lit 109,tu #[]) ::
(nat_lit 111,tu #[S "spot" 324]) ::
(nat_lit 112,tu #[]) ::
(nat_lit 114,cc "cube_of" 321 322 323 31 1 109 181 110 (R 111) (R 112) 113 325 326) ::
(nat_lit 115,fu "cube_of" 16 "sheetfold.squares" 287 114) ::
(nat_lit 116,tu #[]) ::
(nat_lit 119,cc "cubes_at" 328 329 330 33 1 116 181 117 N N 118 331 332) ::
(nat_lit 120,fu "cubes_at" 17 "sheetfold.squares" 287 119) ::
(nat_lit 121,tu #[]) ::
(nat_lit 124,cc "skin_of" 334 335 336 37 1 121 181 122 N N 123 337 338) ::
(nat_lit 125,fu "skin_of" 18 "sheetfold.squares" 287 124) ::
(nat_lit 126,tu #[]) ::
(nat_lit 128,tu #[S "squares" 343,S "counts" 344,S "square" 345,S "edge" 346]) ::
(nat_lit 129,tu #[]) ::
(nat_lit 131,cc "edge_counts" 340 341 342 44 1 126 181 127 (R 128) (R 129) 130 347 348) ::
(nat_lit 132,fu "edge_counts" 19 "sheetfold.squares" 287 131) ::
(nat_lit 133,tu #[]) ::
(nat_lit 135,tu #[S "solid" 355,S "square" 356,S "pair" 357,S "within" 358]) ::
(nat_lit 136,tu #[]) ::
(nat_lit 138,cc "outward_from" 352 353 354 51 2 133 181 134 (R 135) (R 136) 137 359 360) ::
(nat_lit 139,fu "outward_from" 21 "sheetfold.solids" 350 138) ::
(nat_lit 140,tu #[]) ::
(nat_lit 143,cc "crowded" 366 367 368 57 1 140 181 141 N N 142 369 370) ::
(nat_lit 144,fu "crowded" 24 "sheetfold.skins" 362 143) ::
(nat_lit 145,tu #[]) ::
(nat_lit 148,cc "skin_joins" 372 373 374 60 1 145 181 146 N N 147 375 376) ::
(nat_lit 149,fu "skin_joins" 25 "sheetfold.skins" 362 148) ::
(nat_lit 150,tu #[]) ::
(nat_lit 152,tu #[S "solid" 381,S "square" 382,S "edge" 383,S "other" 384,S "beyond" 385]) ::
(nat_lit 153,tu #[]) ::
(nat_lit 155,cc "bend_over" 378 379 380 71 4 150 181 151 (R 152) (R 153) 154 386 387) ::
(nat_lit 156,fu "bend_over" 26 "sheetfold.skins" 362 155) ::
(nat_lit 157,tu #[]) ::
(nat_lit 160,cc "pose_on" 389 390 391 76 2 157 181 158 N N 159 392 393) ::
(nat_lit 161,fu "pose_on" 27 "sheetfold.skins" 362 160) ::
(nat_lit 162,tu #[]) ::
(nat_lit 164,tu #[S "_law_script" 400,S "_law_k" 401]) ::
(nat_lit 165,tu #[]) ::
(nat_lit 167,cc "_law_cell_at" 397 398 399 83 2 162 181 163 (R 164) (R 165) 166 402 403) ::
(nat_lit 168,fu "_law_cell_at" 29 "law_sheetfold_k25_whole_joins_lead_over_a_sk" 395 167) ::
(nat_lit 169,tu #[]) ::
(nat_lit 171,tu #[S "_law_found" 408]) ::
(nat_lit 172,tu #[]) ::
(nat_lit 174,cc "_law_whole" 405 406 407 87 1 169 181 170 (R 171) (R 172) 173 409 410) ::
(nat_lit 175,fu "_law_whole" 30 "law_sheetfold_k25_whole_joins_lead_over_a_sk" 395 174) ::
(nat_lit 176,tu #[]) ::
(nat_lit 178,tu #[S "_law_found" 415,S "_law_spot" 416,S "_law_number" 417]) ::
(nat_lit 179,tu #[]) ::
(nat_lit 181,cc "_law_spots" 412 413 414 89 1 176 181 177 (R 178) (R 179) 180 418 419) ::
(nat_lit 182,fu "_law_spots" 31 "law_sheetfold_k25_whole_joins_lead_over_a_sk" 395 181) ::
(nat_lit 183,tu #[]) ::
(nat_lit 185,tu #[S "_law_cells_here" 424,S "_law_base_here" 425,S "_law_cell" 426]) ::
(nat_lit 186,tu #[]) ::
(nat_lit 188,cc "_law_base" 421 422 423 99 1 183 181 184 (R 185) (R 186) 187 427 428) ::
(nat_lit 189,fu "_law_base" 32 "law_sheetfold_k25_whole_joins_lead_over_a_sk" 395 188) ::
(nat_lit 190,tu #[]) ::
(nat_lit 192,tu #[S "_law_cells_here" 433,S "_law_base_here" 434,S "_law_kind" 435,S "_law_cubes" 436,S "_law_corner" 437,S "_law_spot" 438,S "_law_k" 439,S "_law_cell" 440,S "_law_cube" 441,S "_law_axis" 442]) ::
(nat_lit 193,tu #[]) ::
(nat_lit 195,cc "_law_solid" 430 431 432 107 3 190 181 191 (R 192) (R 193) 194 443 444) ::
(nat_lit 196,fu "_law_solid" 33 "law_sheetfold_k25_whole_joins_lead_over_a_sk" 395 195) ::
(nat_lit 197,tu #[]) ::
(nat_lit 200,cc "_law_skin" 446 447 448 123 1 197 181 198 N N 199 449 450) ::
(nat_lit 201,fu "_law_skin" 34 "law_sheetfold_k25_whole_joins_lead_over_a_sk" 395 200) ::
(nat_lit 202,tu #[]) ::
(nat_lit 204,tu #[S "_law_spot" 455,S "_law_axes" 456,S "_law_found" 457,S "_law_axis" 458,S "_law_by" 459,S "_law_made" 460]) ::
(nat_lit 205,tu #[]) ::
(nat_lit 207,cc "_law_near" 452 453 454 135 2 202 181 203 (R 204) (R 205) 206 461 462) ::
(nat_lit 208,fu "_law_near" 35 "law_sheetfold_k25_whole_joins_lead_over_a_sk" 395 207) ::
(nat_lit 209,tu #[]) ::
(nat_lit 212,cc "_law_met" 464 465 466 143 1 209 181 210 N N 211 467 468) ::
(nat_lit 213,fu "_law_met" 36 "law_sheetfold_k25_whole_joins_lead_over_a_sk" 395 212) ::
(nat_lit 214,tu #[]) ::
(nat_lit 216,tu #[S "_law_cell" 473,S "_law_k" 474]) ::
(nat_lit 217,tu #[]) ::
(nat_lit 219,cc "_law_mixed" 470 471 472 151 2 214 181 215 (R 216) (R 217) 218 475 476) ::
(nat_lit 220,fu "_law_mixed" 37 "law_sheetfold_k25_whole_joins_lead_over_a_sk" 395 219) ::
(nat_lit 221,tu #[]) ::
(nat_lit 224,cc "_law_cells" 478 479 480 153 1 221 181 222 N N 223 481 482) ::
(nat_lit 225,fu "_law_cells" 38 "law_sheetfold_k25_whole_joins_lead_over_a_sk" 395 224) ::
(nat_lit 226,tu #[]) ::
(nat_lit 229,cc "_law_plain" 484 485 486 158 2 226 181 227 N N 228 487 488) ::
(nat_lit 230,fu "_law_plain" 39 "law_sheetfold_k25_whole_joins_lead_over_a_sk" 395 229) ::
(nat_lit 231,tu #[]) ::
(nat_lit 233,tu #[S "_law_one" 493,S "_law_other" 494,S "_law_x" 495,S "_law_y" 496]) ::
(nat_lit 234,tu #[]) ::
(nat_lit 236,cc "_law_cross" 490 491 492 165 2 231 181 232 (R 233) (R 234) 235 497 498) ::
(nat_lit 237,fu "_law_cross" 40 "law_sheetfold_k25_whole_joins_lead_over_a_sk" 395 236) ::
(nat_lit 238,tu #[]) ::
(nat_lit 241,cc "_law_out" 500 501 502 169 2 238 181 239 N N 240 503 504) ::
(nat_lit 242,fu "_law_out" 41 "law_sheetfold_k25_whole_joins_lead_over_a_sk" 395 241) ::
(nat_lit 243,tu #[]) ::
(nat_lit 246,cc "_law_pose_right" 506 507 508 176 3 243 181 244 N N 245 509 510) ::
(nat_lit 247,fu "_law_pose_right" 42 "law_sheetfold_k25_whole_joins_lead_over_a_sk" 395 246) ::
(nat_lit 248,tu #[]) ::
(nat_lit 250,tu #[S "_law_one" 515,S "_law_out_here" 516,S "_law_edge" 517,S "_law_bend" 518,S "_law_other" 519,S "_law_beyond" 520,S "_law_w" 521,S "_law_v" 522,S "_law_turned_out" 523]) ::
(nat_lit 251,tu #[]) ::
(nat_lit 253,cc "_law_leads" 512 513 514 182 6 248 181 249 (R 250) (R 251) 252 524 525) ::
(nat_lit 254,fu "_law_leads" 43 "law_sheetfold_k25_whole_joins_lead_over_a_sk" 395 253) ::
(nat_lit 255,tu #[]) ::
(nat_lit 257,tu #[S "_law_solid_here" 530,S "_law_squares" 531,S "_law_outs" 532,S "_law_mine" 533,S "_law_k" 534]) ::
(nat_lit 258,tu #[]) ::
(nat_lit 260,cc "_law_poses_right" 527 528 529 191 3 255 181 256 (R 257) (R 258) 259 535 536) ::
(nat_lit 261,fu "_law_poses_right" 44 "law_sheetfold_k25_whole_joins_lead_over_a_sk" 395 260) ::
(nat_lit 262,tu #[]) ::
(nat_lit 265,cc "law" 538 539 540 197 1 262 181 263 N N 264 541 542) ::
(nat_lit 266,fu "law" 45 "law_sheetfold_k25_whole_joins_lead_over_a_sk" 395 265)::[]
def kA:List Addr:=[2,3,15,22,23,24,25,28,35,37,38,40,41,42,43,44,47,50,51,52,53,54,55,56,57,58,59,61,62,64,65,66,68,69,71,72,73,75,76,78,79,80,83,84,85,88,89,90,92,93,95,96,97,100,101,102,104,105,107,108,109,111,112,114,115,116,119,120,121,124,125,126,128,129,131,132,133,135,136,138,139,140,143,144,145,148,149,150,152,153,155,156,157,160,161,162,164,165,167,168,169,171,172,174,175,176,178,179,181,182,183,185,186,188,189,190,192,193,195,196,197,200,201,202,204,205,207,208,209,212,213,214,216,217,219,220,221,224,225,226,229,230,231,233,234,236,237,238,241,242,243,246,247,248,250,251,253,254,255,257,258,260,261,262,265,266]
theorem kE (P:Params):kA=(KH P).map (·.1):=by kernel_rfl
noncomputable abbrev hk:Hook:=kHook KH kA kE
noncomputable def tfQ (tr:(String->Option Builtin)->Program->World->Nat->Option Value->Nat->Shared->Thread->Option Shared)(tb:String->Option Builtin)(p:Program)(w:World)(N:Nat)(s:Shared):Option Shared :=
 match s.heap.isNs mainGlobals&&s.gens.size==0 with
 | true=>(tr tb p w s.heap.objs.size (s.heap.nsMap mainGlobals "__annotations__") N s (topStub p)).bind λ u =>
   match staticsOk (importedModules p.main.body) s.heap u.heap&&namesBound p u.heap&&gensDone u&&laidKept s.heap u.heap with
   | true=>some u
   | false=>none
 | false=>none
theorem tf_q (p:Program)(w:World)(N:Nat):topFrom treeTable p w N=tfQ Fast.tw14082659384304107361 Fast.tw14364793385576792824 p w N:=by
 rw [← Fast.te14082659384304107361,← Fast.te14364793385576792824]
 rfl
noncomputable def opQ (p:Program)(w:World)(N:Nat):Option Shared :=
 (Fast.tw10274390034422433532 Fast.tw14364793385576792824 (opening p) w N (Fast.tw1435165496053646825 (opening p)).1 (Fast.tw1435165496053646825 (opening p)).2).bind (Fast.tw14289696077712309145 p)
theorem op_q (p:Program)(w:World)(N:Nat):fencedOpening treeTable p w N=opQ p w N:=by
 unfold opQ
 rw [← Fast.te10274390034422433532,← Fast.te14364793385576792824,← Fast.te1435165496053646825,← Fast.te14289696077712309145]
 rfl
noncomputable def endsQ (p:Program)(w:World)(N:Nat):Option Shared:=(opQ p w N).bind (tfQ Fast.tw14082659384304107361 Fast.tw14364793385576792824 p w N)
theorem qjR (p:Program)(w:World)(N:Nat):openEnds treeTable p w N=endsQ p w N:=by
 unfold openEnds endsQ
 rw [op_q,tf_q]
set_option maxHeartbeats 0 in
theorem left:LeftO PySem.Challenge.pw_sheetfold_k25_whole_joins_lead_over_a_sk vw [] (λ s=>xlAt vw [] s&&recOk (RowW.records (OpenRow.toRowW (OpenLaw.row PySem.Challenge.rw_sheetfold_k25_whole_joins_lead_over_a_sk))) s) (Hook.obs hk) (Hook.val hk) 3270:=by
 intro w
 rw [qjR,Fast.te4187177175401517315]
 kernel_rfl
end HD
namespace L2
open PySem PySem.Spec PyProof.Rows
abbrev Key:=Sum Int Str
def qjs:Key->Value->Bool
 | .inl k,v=>Value.isInt k v
 | .inr x,v=>Value.isStrOf x v
def keyH (w:World):Key->Int
 | .inl k=>hashInt k
 | .inr x=>hashStr w x
theorem Ql:∀ {k:Key} {v:Value},qjs k v=true->(∃ i t,k=Sum.inl i/\v=Value.int i t)\/(∃ x t,k=Sum.inr x/\v=Value.str x t)
 | .inl i,v,h=>by
  obtain ⟨t,e⟩:=Value.isInt_shape (k:=i) (v:=v) h
  exact .inl ⟨i,t,rfl,e⟩
 | .inr x,v,h=>by
  obtain ⟨t,e⟩:=Value.isStrOf_shape (x:=x) (v:=v) h
  exact .inr ⟨x,t,rfl,e⟩
theorem qj7 (a b:Int):decide ((Sum.inl a:Key)=Sum.inl b)=(a==b):=by
 by_cases e:a=b
 ·subst e;simp
 ·have h:¬ (Sum.inl a:Key)=Sum.inl b:=λ q=>e (Sum.inl.inj q)
  rw [decide_eq_false h]
  exact (beq_eq_false_iff_ne.mpr e).symm
theorem qka (a b:Str):decide ((Sum.inr a:Key)=Sum.inr b)=decide (a=b):=by
 by_cases e:a=b
 ·subst e;simp
 ·have h:¬ (Sum.inr a:Key)=Sum.inr b:=λ q=>e (Sum.inr.inj q)
  rw [decide_eq_false h,decide_eq_false e]
theorem qj8 (a:Int)(b:Str):decide ((Sum.inl a:Key)=Sum.inr b)=false:=decide_eq_false (λ q=>nomatch q)
theorem qj9 (a:Str)(b:Int):decide ((Sum.inr a:Key)=Sum.inl b)=false:=decide_eq_false (λ q=>nomatch q)
def qep (prog:Program)(w:World):PySem.KeyKind prog w Key where
 is:=qjs
 hash:=keyH w
 inj:=λ v a b ha hb=>by
  rcases Ql ha with ⟨i,t,rfl,rfl⟩|⟨x,t,rfl,rfl⟩
  ·rcases Ql hb with ⟨j,u,rfl,e⟩|⟨y,u,rfl,e⟩
   ·injection e with e1 _;rw [e1]
   ·exact nomatch e
  ·rcases Ql hb with ⟨j,u,rfl,e⟩|⟨y,u,rfl,e⟩
   ·exact nomatch e
   ·injection e with e1 _;rw [e1]
 byValue:=λ k v h=>by
  rcases Ql h with ⟨i,t,rfl,rfl⟩|⟨x,t,rfl,rfl⟩<;>rfl
 pyHash:=λ hv h=>by
  rcases Ql hv with ⟨i,t,rfl,rfl⟩|⟨x,t,rfl,rfl⟩
  ·exact wpAny_pyHash_int h
  ·exact wpAny_pyHash_str h
 eqBool:=λ hu hv h=>by
  rcases Ql hu with ⟨i,t,rfl,rfl⟩|⟨x,t,rfl,rfl⟩
  ·rcases Ql hv with ⟨j,u,rfl,rfl⟩|⟨y,u,rfl,rfl⟩
   ·rw [qj7] at h;exact wpAny_eqBool_int h
   ·rw [qj8] at h;exact SeqAt.EqAt.int_str i t y u _ _ _ _ h
  ·rcases Ql hv with ⟨j,u,rfl,rfl⟩|⟨y,u,rfl,rfl⟩
   ·rw [qj9] at h;exact SeqAt.EqAt.str_int x t j u _ _ _ _ h
   ·rw [qka] at h;exact wpAny_eqBool_str h
 «strs»:=λ k x t v h=>by
  rcases Ql h with ⟨i,u,rfl,e⟩|⟨y,u,rfl,e⟩
  ·exact nomatch e
  ·injection e with e1 _
   subst e1
   cases v<;>rfl
inductive V where
 | non|bl (b:Bool)|int (i:Int)|str (x:Str)|byt (b:Array UInt8)|flt (b:UInt64)|ref (a:Addr)|ty (n:String)
 deriving DecidableEq
def RelV:V->Value->Prop
 | .non,u=>u=Value.none
 | .bl b,u=>u=Value.bool b
 | .int i,u=>∃ t,u=Value.int i t
 | .str x,u=>∃ t,u=Value.str x t
 | .byt b,u=>∃ t,u=Value.bytes b t
 | .flt b,u=>∃ t,u=Value.float b t
 | .ref a,u=>u=Value.ref a
 | .ty n,u=>u=Value.type n
abbrev Vals:List V->List Value->Prop:=Paired RelV
theorem Vals.length {xs:List V}{us:List Value}(r:Vals xs us):xs.length=us.length:=Paired.length r
theorem Vals.get:∀ {xs:List V} {us:List Value} {i:Nat} {x:V},Vals xs us->xs[i]?=some x->∃ u,us[i]?=some u/\RelV x u
 | _,_,_,_,.nil,e=>by simp at e
 | _,_,0,_,.cons r _,e=>by simp at e;subst e;exact ⟨_,rfl,r⟩
 | _,_,i+1,x,.cons _ t,e=>by
  obtain ⟨u,h1,h2⟩:=Vals.get (i:=i) (x:=x) t (by simpa using e)
  exact ⟨u,by simpa using h1,h2⟩
theorem Vals.set {x:V}{u:Value}(r:RelV x u):∀ {xs:List V} {us:List Value} (i:Nat),Vals xs us->Vals (xs.set i x) (us.set i u)
 | _,_,_,.nil=>.nil
 | _,_,0,.cons _ t=>.cons r t
 | _,_,i+1,.cons q t=>.cons q (Vals.set r i t)
theorem Vals.append:∀ {xs ys:List V} {us ws:List Value},Vals xs us->Vals ys ws->Vals (xs++ys) (us++ws)
 | _,_,_,_,.nil,s=>s
 | _,_,_,_,.cons r t,s=>.cons r (Vals.append t s)
theorem Vals.take:∀ {xs:List V} {us:List Value} (n:Nat),Vals xs us->Vals (xs.take n) (us.take n)
 | _,_,0,_=>.nil
 | _,_,_+1,.nil=>.nil
 | _,_,n+1,.cons r t=>.cons r (Vals.take n t)
theorem Vals.drop:∀ {xs:List V} {us:List Value} (n:Nat),Vals xs us->Vals (xs.drop n) (us.drop n)
 | _,_,0,r=>r
 | _,_,_+1,.nil=>.nil
 | _,_,n+1,.cons _ t=>Vals.drop n t
def RelO:Option V->Option Value->Prop
 | some v,some u=>RelV v u
 | none,none=>True
 | _,_=>False
def KV {κ:Type}:List (κ×V)->List (κ×Value)->Prop:=Paired λ (p:κ×V) (q:κ×Value)=>p.1=q.1/\RelV p.2 q.2
def kV:Key->V
 | .inl i=>.int i
 | .inr x=>.str x
inductive HO where
 | lst (xs:List V)
 | tup (xs:List V)
 | dK (kvs:List (Key×V))|dT (kvs:List (List Key×V))
 | set (S:Int->Bool) (n:Nat)
 | ins (C dx:Addr) (fs:List (Str×V))
 | own (x:Addr)
 | xd (fs:List (Str×V))
 | met (f x:Addr)
 | rng (lo hi:Int)
 | frz (o:Obj) (u:HO)
 | tbl (ps:Array Value)
 | ext (φ:Heap->Prop)
abbrev Hp:=Addr->Option HO
def upd (H:Hp)(a:Addr)(o:HO):Hp:=λ b=>if b=a then some o else H b
theorem q9 {H:Hp}{a:Addr}{o:HO}:upd H a o a=some o:=by unfold upd;rw [if_pos rfl]
theorem qO {H:Hp}{a b:Addr}{o:HO}(h:b≠a):upd H a o b=H b:=by unfold upd;rw [if_neg h]
theorem Qt {H:Hp}{a b:Addr}{o:HO}(h:H a=some o)(h':H b=none):a≠b:=by
 intro e;subst e;rw [h] at h';cases h'
section
variable (P:Program)(w:World)
def Zy (H:Hp)(h:Heap)(a:Addr):HO->Prop
 | .lst xs=>xs.length<=sizeLine/\∃ (its:List Value) (n:Nat),Vals xs its/\h.get? a=some { cls:=.type "list", data:=.seq its.toArray n }
 | .tup xs=>xs.length<=sizeLine/\∃ its:List Value,Vals xs its/\IsTup h a its.toArray
 | .dK kvs=>kvs.length<=sizeLine/\(a==sysModules)=false/\∃ vs,KV kvs vs/\h.DictOf (qep P w) a vs
 | .dT kvs=>kvs.length<=sizeLine/\(a==sysModules)=false/\∃ xs:List (List Key×Addr×Value),
   Paired (λ (p:List Key×V) (q:List Key×Addr×Value)=>p.1=q.1/\H q.2.1=some (.tup (p.1.map kV))/\RelV p.2 q.2.2) kvs xs/\
   ∃ o es ep,h.get? a=some o/\o.ExactDict/\o.data=.dict es ep/\es.toList=xs.map (entryOfKey (tupleKind (qep P w)))/\(xs.map (·.1)).Nodup
 | .set S n=>h.SetOf (intKind P w) a S n
 | .ins C dx fs=>H dx=some (.own a)/\fs.length<=1000/\dx≠a/\h.get? a=some (W.instObj C dx)/\
   ∃ mA,h.Ns1 dx mA/\(∀ f,RelO (fs.lookup f) (mA f))/\PySem.Within mA (fs.map (·.1))
 | .own _=>∃ o,h.get? a=some o
 | .xd fs=>∃ mA,h.Ns1 a mA/\∀ f,RelO (fs.lookup f) (mA f)
 | .rng lo hi=>∃ t u v,h.get? a=some { cls:=.type "range", data:=.fields #[.int lo t,.int hi u,.int 1 v] }
 | .frz o u=>h.get? a=some o/\Zy H h a u
 | .tbl ps=>h.get? a=some { cls:=.none,data:=.fields ps }
 | .met f x=>h.get? a=some (W.methodObj (.ref f) (.ref x))
 | .ext φ=>φ h/\(∃ o,h.get? a=some o)/\∀ h1 h2:Heap,φ h1->(∀ o,h1.get? a=some o->h2.get? a=some o)->φ h2
def HOk (H:Hp)(h:Heap):Prop:=∀ a o,H a=some o->Zy P w H h a o
end
section
variable {P:Program}{w:World}{H H':Hp}{h h':Heap}{a:Addr}{o:HO}
theorem Zy.lt (x:Zy P w H h a o):a<h.objs.size:=by
 cases o with
 | lst xs=>obtain ⟨_,_,_,_,e⟩:=x;exact Heap.lt_size e
 | tup xs=>obtain ⟨_,_,_,p⟩:=x;exact p.lt
 | dK kvs=>obtain ⟨_,_,_,_,o,_,_,e,_⟩:=x;exact Heap.lt_size e
 | dT kvs=>obtain ⟨_,_,_,_,o,_,_,e,_⟩:=x;exact Heap.lt_size e
 | set S n=>obtain ⟨o,_,_,_,e,_⟩:=x;exact Heap.lt_size e
 | ins C dx fs=>obtain ⟨_,_,_,e,_⟩:=x;exact Heap.lt_size e
 | own y=>obtain ⟨_,e⟩:=x;exact Heap.lt_size e
 | xd fs=>obtain ⟨_,⟨_,_,_,e,_⟩,_⟩:=x;exact Heap.lt_size e
 | rng lo hi=>obtain ⟨_,_,_,e⟩:=x;exact Heap.lt_size e
 | frz ob u=>obtain ⟨e,_⟩:=x;exact Heap.lt_size e
 | tbl ps=>exact Heap.lt_size (show h.get? a=some _ from x)
 | met f y=>exact Heap.lt_size (show h.get? a=some _ from x)
 | ext φ=>obtain ⟨_,⟨_,e⟩,_⟩:=x;exact Heap.lt_size e
theorem Paired.mapP {α β:Type}{F G:α->β->Prop}:∀ {l₁:List α} {l₂:List β},Paired F l₁ l₂->(∀ a b,F a b->G a b)->Paired G l₁ l₂
 | _,_,.nil,_=>.nil
 | _,_,.cons r t,f=>.cons (f _ _ r) (Paired.mapP t f)
theorem Zy.stay (x:Zy P w H h a o)(k:∀ b u,(b=a\/H b=some (.own a))->h.get? b=some u->h'.get? b=some u)
  (ho:∀ b,H b=some (.own a)->H' b=some (.own a)) (ht:∀ b xs,H b=some (.tup xs)->H' b=some (.tup xs)):Zy P w H' h' a o:=by
 induction o with
 | lst xs=>obtain ⟨z,its,n,r,e⟩:=x;exact ⟨z,its,n,r,k _ _ (.inl rfl) e⟩
 | tup xs=>obtain ⟨z,its,r,ob,e,c⟩:=x;exact ⟨z,its,r,ob,k _ _ (.inl rfl) e,c⟩
 | dK kvs=>obtain ⟨z,y,vs,r,ob,es,ep,e,c⟩:=x;exact ⟨z,y,vs,r,ob,es,ep,k _ _ (.inl rfl) e,c⟩
 | dT kvs =>
  obtain ⟨z,y,xs,r,ob,es,ep,e,c⟩:=x
  exact ⟨z,y,xs,Paired.mapP r λ p q z=>⟨z.1,ht _ _ z.2.1,z.2.2⟩,ob,es,ep,k _ _ (.inl rfl) e,c⟩
 | set S n=>obtain ⟨ob,es,ep,t,e,c⟩:=x;exact ⟨ob,es,ep,t,k _ _ (.inl rfl) e,c⟩
 | ins C dx fs =>
  obtain ⟨d,z,ne,e,mA,⟨od,es,ep,e2,c⟩,r⟩:=x
  exact ⟨ho _ d,z,ne,k _ _ (.inl rfl) e,mA,⟨od,es,ep,k _ _ (.inr d) e2,c⟩,r⟩
 | own y=>obtain ⟨ob,e⟩:=x;exact ⟨ob,k _ _ (.inl rfl) e⟩
 | xd fs=>obtain ⟨mA,⟨od,es,ep,e,c⟩,r⟩:=x;exact ⟨mA,⟨od,es,ep,k _ _ (.inl rfl) e,c⟩,r⟩
 | rng lo hi=>obtain ⟨t,u,v,e⟩:=x;exact ⟨t,u,v,k _ _ (.inl rfl) e⟩
 | frz ob u ih=>obtain ⟨e,q⟩:=x;exact ⟨k _ _ (.inl rfl) e,ih q⟩
 | tbl ps =>
  have e:h.get? a=some { cls:=.none,data:=.fields ps }:=x
  show h'.get? a=some { cls:=.none,data:=.fields ps }
  exact k a _ (.inl rfl) e
 | met f y =>
  have e:h.get? a=some (W.methodObj (.ref f) (.ref y)):=x
  show h'.get? a=some (W.methodObj (.ref f) (.ref y))
  exact k a _ (.inl rfl) e
 | ext φ=>obtain ⟨p,⟨o,e⟩,st⟩:=x;exact ⟨st _ _ p λ o q=>k _ _ (.inl rfl) q,⟨o,k _ _ (.inl rfl) e⟩,st⟩
theorem HOk.lt (x:HOk P w H h)(e:H a=some o):a<h.objs.size:=(x a o e).lt
theorem HOk.fresh (x:HOk P w H h)(e:h.objs.size<=a):H a=none:=by
 cases q:H a with
 | none=>rfl
 | some u=>exact absurd (Nat.lt_of_lt_of_le (x.lt q) e) (Nat.lt_irrefl _)
theorem HOk.kept (x:HOk P w H h)(k:∀ b u,h.get? b=some u->h'.get? b=some u):HOk P w H h':=λ a o e =>
 (x a o e).stay (λ b u _ q=>k b u q) (λ _ q=>q) λ _ _ q=>q
theorem HOk.laid (x:HOk P w H h)(k:∀ b u,h.get? b=some u->h'.get? b=some u)(hp:h.objs.size<=a)(new:Zy P w (upd H a o) h' a o):HOk P w (upd H a o) h':=λ b u e=>by
 have hn:=x.fresh hp
 by_cases hb:b=a
 ·subst hb;rw [q9] at e;cases e;exact new
 ·rw [qO hb] at e
  exact (x b u e).stay (λ c v _ q=>k c v q) (λ c q=>by rw [qO (Qt q hn)];exact q) λ c xs q=>by rw [qO (Qt q hn)];exact q
end
def Rd (H:Hp)(a:Addr)(u:HO):Prop:=H a=some u\/∃ o,H a=some (.frz o u)
theorem Rd.ok {P:Program}{w:World}{H:Hp}{h:Heap}{a:Addr}{u:HO}(r:Rd H a u)(x:HOk P w H h):Zy P w H h a u:=by
 rcases r with r|⟨o,r⟩
 ·exact x a u r
 ·obtain ⟨_,q⟩:=x a _ r
  exact q
def Mut:Option HO->Prop
 | some (.lst _)=>True
 | some (.dK _)=>True
 | some (.dT _)=>True
 | some (.set _ _)=>True
 | some (.ins _ _ _)=>True
 | some (.ext _)=>True
 | _=>False
section
variable {P:Program}{w:World}{H:Hp}{h h':Heap}{x e:Addr}{o':HO}
theorem HOk.write (ok:HOk P w H h)(mu:Mut (H x))(he:e=x\/H e=some (.own x))(k:∀ b u,b≠e->h.get? b=some u->h'.get? b=some u)(heo:∃ u,h'.get? e=some u)
  (new:Zy P w (upd H x o') h' x o'):HOk P w (upd H x o') h':=λ b u q=>by
 have nown:∀ c y,H c=some (.own y)->c≠x:=λ c y r z=>by subst z;rw [r] at mu;exact mu
 have ntup:∀ c xs,H c=some (.tup xs)->c≠x:=λ c xs r z=>by subst z;rw [r] at mu;exact mu
 by_cases hb:b=x
 ·subst hb;rw [q9] at q;cases q;exact new
 ·rw [qO hb] at q
  by_cases hbe:b=e
  ·have q':H b=some (.own x):=by
    rcases he with z|z
    ·exact absurd (hbe.trans z) hb
    ·rw [hbe];exact z
   rw [q] at q';cases q'
   obtain ⟨v,hv⟩:=heo
   exact ⟨v,by rw [hbe];exact hv⟩
  ·refine (ok b u q).stay (λ c v hc r=>k c v ?_ r) (λ c r=>by rw [qO (nown c b r)];exact r) λ c xs r=>by rw [qO (ntup c xs r)];exact r
   rcases hc with rfl|hc
   ·exact hbe
   ·rintro rfl
    rcases he with z|z
    ·exact nown c b hc z
    ·rw [hc] at z;cases z;exact hb rfl
end
structure Un (fs ex:List Addr)(H H':Hp)(h h':Heap):Prop where
 keep:∀ b o,h.get? b=some o->H b=none->b∉fs->b∉ex->h'.get? b=some o
 slot:∀ b o,h.get? b=some o->H b=none->b∈fs->b∉ex->∃ sl,h'.get? b=some { o with slots:=sl }
 free:∀ b o,h.get? b=some o->H b=none->b∉ex->H' b=none
 there:∀ b o,h.get? b=some o->b∉ex->∃ o',h'.get? b=some o'
 tups:∀ b xs,H b=some (.tup xs)->H' b=some (.tup xs)
 frzs:∀ b o u,H b=some (.frz o u)->H' b=some (.frz o u)
 tbls:∀ b ps,H b=some (.tbl ps)->∃ more,H' b=some (.tbl (ps++more))
section
variable {fs fs' ex ex':List Addr}{H H1 H2:Hp}{h h1 h2 h':Heap}{a x e:Addr}{o:HO}
theorem Un.any (u:Un fs ex H H1 h h1){b:Addr}{ob:Obj}(q:h.get? b=some ob)(n:H b=none)(hx:b∉ex):∃ sl,h1.get? b=some { ob with slots:=sl }:=by
 by_cases hb:b∈fs
 ·exact u.slot b ob q n hb hx
 ·exact ⟨ob.slots,u.keep b ob q n hb hx⟩
theorem Un.trans (a:Un fs ex H H1 h h1)(b:Un fs ex H1 H2 h1 h2):Un fs ex H H2 h h2 where
 keep:=λ c ob q n hc hx=>b.keep c ob (a.keep c ob q n hc hx) (a.free c ob q n hx) hc hx
 slot:=λ c ob q n hc hx=>by
  obtain ⟨sl,e1⟩:=a.slot c ob q n hc hx
  obtain ⟨sl',e2⟩:=b.slot c _ e1 (a.free c ob q n hx) hc hx
  exact ⟨sl',e2⟩
 free:=λ c ob q n hx=>by
  obtain ⟨o',e1⟩:=a.there c ob q hx
  exact b.free c o' e1 (a.free c ob q n hx) hx
 there:=λ c ob q hx=>by
  obtain ⟨o',e1⟩:=a.there c ob q hx
  exact b.there c o' e1 hx
 tups:=λ c xs q=>b.tups c xs (a.tups c xs q)
 frzs:=λ c ob xs q=>b.frzs c ob xs (a.frzs c ob xs q)
 tbls:=λ c ps q=>by
  obtain ⟨m1,e1⟩:=a.tbls c ps q
  obtain ⟨m2,e2⟩:=b.tbls c _ e1
  exact ⟨m1++m2,by rw [e2,Array.append_assoc]⟩
theorem Un.kept (k:∀ b u,h.get? b=some u->h'.get? b=some u):Un fs ex H H h h' :=
 ⟨λ b ob q _ _ _=>k b ob q,λ b ob q _ _ _=>⟨ob.slots,k b ob q⟩,λ _ _ _ n _=>n,λ b ob q _=>⟨ob,k b ob q⟩,λ _ _ q=>q,λ _ _ _ q=>q,λ _ ps q=>⟨#[],by rw [q];simp⟩⟩
theorem Un.refl:Un fs ex H H h h:=Un.kept λ _ _ q=>q
theorem Un.laid (k:∀ b u,h.get? b=some u->h'.get? b=some u)(hp:h.objs.size<=a)(hn:H a=none):Un fs ex H (upd H a o) h h' where
 keep:=λ b u q _ _ _=>k b u q
 slot:=λ b u q _ _ _=>⟨u.slots,k b u q⟩
 free:=λ b u q n _=>by rw [qO (Nat.ne_of_lt (Nat.lt_of_lt_of_le (Heap.lt_size q) hp))];exact n
 there:=λ b u q _=>⟨u,k b u q⟩
 tups:=λ b xs q=>by rw [qO (Qt q hn)];exact q
 frzs:=λ b u xs q=>by rw [qO (Qt q hn)];exact q
 tbls:=λ b ps q=>⟨#[],by rw [qO (Qt q hn),q];simp⟩
theorem Un.write (mu:Mut (H x))(he:e=x\/H e=some (.own x))(k:∀ b u,b≠e->h.get? b=some u->h'.get? b=some u)(heo:∃ u,h'.get? e=some u):Un fs ex H (upd H x o) h h':=by
 have hx:∀ b,H b=none->b≠x:=λ b n z=>by subst z;rw [n] at mu;exact mu
 have hb:∀ b,H b=none->b≠e:=λ b n z=>by
  subst z
  rcases he with r|r
  ·exact hx b n r
  ·rw [n] at r;cases r
 have hm:∀ b u,H b=some u->¬ Mut (some u)->b≠x:=λ b u q nm z=>by subst z;rw [q] at mu;exact nm mu
 refine ⟨λ b u q n _ _=>k b u (hb b n) q,λ b u q n _ _=>⟨u.slots,k b u (hb b n) q⟩,λ b u q n _=>by rw [qO (hx b n)];exact n,λ b u q _=>?_,
  λ b xs q=>by rw [qO (hm b _ q λ z=>z)];exact q,λ b u xs q=>by rw [qO (hm b _ q λ z=>z)];exact q,λ b ps q=>⟨#[],by rw [qO (hm b _ q λ z=>z),q];simp⟩⟩
 by_cases hbe:b=e
 ·subst hbe;exact heo
 ·exact ⟨u,k b u hbe q⟩
end
def trk (h:Heap)(H:Hp):List Addr:=(List.range h.objs.size).filter λ a=>(H a).isSome
def hidT (h:Heap)(H:Hp):Heap:=W.hideAll h (trk h H)
theorem qfa (h:Heap)(H:Hp):(hidT h H).objs.size=h.objs.size:=W.hideAll_size _ _
theorem qgt {h:Heap}{H:Hp}{b:Addr}{o:Obj}(e:h.get? b=some o)(n:H b=none):(hidT h H).get? b=some o :=
 W.hideAll_get _ e λ hm=>by
  have q:(H b).isSome=true:=(List.mem_filter.mp hm).2
  rw [n] at q;simp at q
theorem qiz {h:Heap}{H:Hp}{b:Addr}{o:Obj}(e:(hidT h H).get? b=some o):h.get? b=some o/\H b=none:=by
 have e':h.get? b=some o:=W.of_hideAll (trk h H) e
 refine ⟨e',?_⟩
 cases q:H b with
 | none=>rfl
 | some x =>
  have hm:b∈trk h H:=List.mem_filter.mpr ⟨List.mem_range.mpr (Heap.lt_size e'),by simp [q]⟩
  have z:(hidT h H).get? b=none:=W.hideAll_none (trk h H) hm
  rw [z] at e;cases e
structure Mod (K:W.Frag)(mg:Str->Option Value)(base:Heap):Prop where
 kin:K.In base
 glob:base.Ns mainGlobals mg
 blt:∃ mb,base.Ns builtinsNs mb/\∀ x:Str,x ≠ "__name__"->mb x=bootBuiltins x
 nolimit:base.NoLimit
structure Cx where
 prog:Program
 w:World
 K:W.Frag
 mg:Str->Option Value
 base:Heap
 A:Around
 N:List Str
 s₀:Shared
 H₀:Hp
 env:Env
 outer:List Env
 stack:List Env
 ex:List Addr
 fn:Str->Bool
 calm:Bool
 pn:List (Addr×Obj)
 xe:Value->Shared->Prop
def frs (l:List Env):List Addr:=l.filterMap (·.frame)
abbrev Cx.fs (X:Cx):List Addr:=frs X.outer
def Vis (sc:Scope)(x:Str):Prop:=sc.names.lookup x=some .local\/sc.names.lookup x=some .cell\/sc.names.lookup x=some .free
def Loc (sc:Scope)(x:Str):Prop:=sc.names.lookup x=some .local\/sc.names.lookup x=some .cell
def Look (env:Env)(h:Heap)(m:Str->Option Value)(x:Str)(u:Value):Prop :=
 (env.kindOf x=some .local/\m x=some u)\/((env.kindOf x=some .cell\/env.kindOf x=some .free)/\∃ c,env.cells.lookup x=some c/\h.IsCell c (some u))
structure Cx.Ok (X:Cx):Prop where
 mod:Mod X.K X.mg X.base
 kind:X.env.scope.kind=.function
 glob:X.env.globals=mainGlobals
 blt:X.env.builtins=builtinsNs
 above:X.s₀.heap.objs.size<=X.env.locals
 inj:∀ x y c,X.env.cells.lookup x=some c->X.env.cells.lookup y=some c->x=y
 has:∀ x,(X.env.kindOf x=some .cell\/X.env.kindOf x=some .free)->∃ c,X.env.cells.lookup x=some c
 cab:∀ x c,X.fn x=true->X.env.cells.lookup x=some c->X.s₀.heap.objs.size<=c
 hd:X.calm=true->X.A.handled=none
 frames:X.A.frames=some X.stack
 stk:X.stack=X.outer\/(X.stack=X.env::X.outer/\X.env.frame=some X.env.locals)
 exf:∀ b∈X.ex,b≠X.env.locals/\∀ x c,X.env.cells.lookup x=some c->c≠b
 bs:∀ b o,X.base.get? b=some o->X.s₀.heap.get? b=some o/\X.H₀ b=none
 bsz:X.base.objs.size<=X.s₀.heap.objs.size
 noex:∀ b o,X.base.get? b=some o->b∉X.ex
 exfs:∀ b∈X.ex,b∉X.fs
 funs:X.s₀.heap.FunFrames X.base X.outer
 frf:∀ b∈X.fs,X.H₀ b=none
structure Inv (X:Cx)(pins:List (Addr×Obj))(σ:List (Option V))(H:Hp)(s:Shared):Prop where
 ok:X.Ok
 os:s.os=X.s₀.os
 bare:AllBare s.gens
 base:Un X.fs X.ex X.H₀ H X.s₀.heap s.heap
 loc:∃ m,s.heap.Ns X.env.locals m/\∀ (i:Nat) (x:Str) (v:V),X.N[i]?=some x->σ[i]?=some (some v)->Vis X.env.scope x->∃ u,RelV v u/\Look X.env s.heap m x u
 cell:∀ x c,X.env.cells.lookup x=some c->∃ v,s.heap.IsCell c v
 free:H X.env.locals=none
 freeC:∀ x c,X.env.cells.lookup x=some c->H c=none
 pin:∀ p∈X.pn++pins,s.heap.get? p.1=some p.2/\H p.1=none/\p.1≠X.env.locals/\p.1∉X.fs/\∀ v,p.2.data≠.cell v
 hok:HOk X.prog X.w H s.heap
 len:σ.length=X.N.length
section
variable {X:Cx}{pins:List (Addr×Obj)}{σ:List (Option V)}{H H':Hp}{s:Shared}{h':Heap}
theorem Cx.Ok.nofr (ok:X.Ok){b:Addr}{o:Obj}(e:X.base.get? b=some o):b∉X.fs:=λ hb=>by
 have:=(ok.funs.mem hb).1
 rw [e] at this;cases this
theorem Inv.bs (I:Inv X pins σ H s):∀ b o,X.base.get? b=some o->s.heap.get? b=some o/\H b=none:=λ b o e =>
 ⟨I.base.keep b o (I.ok.bs b o e).1 (I.ok.bs b o e).2 (I.ok.nofr e) (I.ok.noex b o e),I.base.free b o (I.ok.bs b o e).1 (I.ok.bs b o e).2 (I.ok.noex b o e)⟩
theorem Inv.bk (I:Inv X pins σ H s):∀ b o,X.base.get? b=some o->s.heap.get? b=some o:=λ b o e=>(I.bs b o e).1
theorem Inv.mod (I:Inv X pins σ H s):Mod X.K X.mg X.base:=I.ok.mod
theorem Inv.kIn (I:Inv X pins σ H s):X.K.In s.heap:=I.ok.mod.kin.keeps I.bk
theorem Inv.lt (I:Inv X pins σ H s):X.env.locals<s.heap.objs.size:=let ⟨_,hn,_⟩:=I.loc;hn.lt
theorem Inv.sz (I:Inv X pins σ H s):X.s₀.heap.objs.size<=s.heap.objs.size:=Nat.le_trans I.ok.above (Nat.le_of_lt I.lt)
theorem Inv.nofs (I:Inv X pins σ H s){a:Addr}(h:s.heap.objs.size<=a):a∉X.fs:=λ hb=>by
 obtain ⟨_,o,ho,_⟩:=I.ok.funs.mem hb
 exact absurd (Nat.lt_of_lt_of_le (Heap.lt_size ho) (Nat.le_trans I.sz h)) (Nat.lt_irrefl _)
theorem Inv.cne (I:Inv X pins σ H s):∀ x c,X.env.cells.lookup x=some c->c≠X.env.locals:=λ x c e z=>by
 obtain ⟨v,o,ho,hd⟩:=I.cell x c e
 obtain ⟨m,⟨o',es,ep,ho',hd',_⟩,_⟩:=I.loc
 rw [z,ho'] at ho;cases ho;rw [hd'] at hd;cases hd
theorem Inv.funs (I:Inv X pins σ H s):s.heap.FunFrames X.base X.outer:=by
 have all:∀ (l:List Env),(∀ b∈frs l,b∈X.fs)->X.s₀.heap.FunFrames X.base l->s.heap.FunFrames X.base l:=by
  intro l
  induction l with
  | nil=>intro _ _;trivial
  | cons env r ih =>
   intro hs hl
   obtain ⟨hk,⟨L,o,hf,hn,ho,hd⟩,hr⟩:=hl
   have hL:L∈X.fs:=hs L (by unfold frs;rw [List.filterMap_cons,hf];exact List.mem_cons_self)
   obtain ⟨sl,e⟩:=I.base.slot L o ho (I.ok.frf L hL) hL λ z=>I.ok.exfs L z hL
   exact ⟨hk,⟨L,_,hf,hn,e,hd⟩,ih (λ b hb=>hs b (by unfold frs;rw [List.filterMap_cons,hf];exact List.mem_cons_of_mem _ hb)) hr⟩
 exact all X.outer (λ _ hb=>hb) I.ok.funs
theorem Inv.stack (I:Inv X pins σ H s):s.heap.FunFrames X.base X.stack:=by
 rcases I.ok.stk with e|⟨e,hf⟩
 ·rw [e];exact I.funs
 ·rw [e]
  obtain ⟨m,hn,_⟩:=I.loc
  refine .cons (by rw [I.ok.kind];decide) hf hn ?_ I.funs
  exact Heap.get?_none_of_le (Nat.le_trans I.ok.bsz I.ok.above)
theorem Inv.stkSub (I:Inv X pins σ H s):∀ b∈frs X.stack,b∈X.env.locals::X.fs:=λ b hb=>by
 rcases I.ok.stk with e|⟨e,hf⟩
 ·rw [e] at hb;exact List.mem_cons_of_mem _ hb
 ·rw [e] at hb
  unfold frs at hb
  rw [List.filterMap_cons,hf] at hb
  exact hb
theorem Inv.stkFree (I:Inv X pins σ H s):∀ b∈frs X.stack,H b=none:=λ b hb=>by
 rcases List.mem_cons.mp (I.stkSub b hb) with e|hb
 ·rw [e];exact I.free
 ·obtain ⟨_,o,ho,_⟩:=I.ok.funs.mem hb
  exact I.base.free b o ho (I.ok.frf b hb) λ z=>I.ok.exfs b z hb
theorem Inv.step {g':Array GenState}{t':Nat}{d':Drawn}{ch:List Addr}(I:Inv X pins σ H s)
  (hch:∀ b∈ch,(b∈X.ex\/X.s₀.heap.objs.size<=b)/\b≠X.env.locals/\(∀ x c,X.env.cells.lookup x=some c->c≠b)/\∀ p∈X.pn++pins,p.1≠b)
  (keep:∀ b o,b≠X.env.locals->b∉X.fs->b∉ch->s.heap.get? b=some o->H b=none->h'.get? b=some o)
  (slot:∀ b o,b≠X.env.locals->b∈X.fs->b∉ch->s.heap.get? b=some o->H b=none->∃ sl,h'.get? b=some { o with slots:=sl }) (free:∀ b o,b∉ch->s.heap.get? b=some o->H b=none->H' b=none)
  (there:∀ b o,b∉ch->s.heap.get? b=some o->∃ o',h'.get? b=some o')
  (tups:∀ b xs,H b=some (.tup xs)->H' b=some (.tup xs)) (frzs:∀ b o u,H b=some (.frz o u)->H' b=some (.frz o u)) (tbls:∀ b ps,H b=some (.tbl ps)->∃ more,H' b=some (.tbl (ps++more)))
  (ns:∀ m,s.heap.Ns X.env.locals m->h'.Ns X.env.locals m) (hok:HOk X.prog X.w H' h') (hg:AllBare g') :
  Inv X pins σ H' { s with heap:=h',gens:=g',drawn:=d',toks:=t' }:=by
 have neL:∀ b o,X.s₀.heap.get? b=some o->b≠X.env.locals:=λ b o e=>Nat.ne_of_lt (Nat.lt_of_lt_of_le (Heap.lt_size e) I.ok.above)
 have neC:∀ b o,X.s₀.heap.get? b=some o->b∉X.ex->b∉ch:=λ b o e hx hb=>by
  rcases (hch b hb).1 with z|z
  ·exact hx z
  ·exact absurd (Nat.lt_of_lt_of_le (Heap.lt_size e) z) (Nat.lt_irrefl _)
 have cellK:∀ x c,X.env.cells.lookup x=some c->∀ v,s.heap.IsCell c v->h'.IsCell c v:=λ x c e v ⟨o,ho,hd⟩=>by
  have nch:c∉ch:=λ z=>(hch c z).2.2.1 x c e rfl
  by_cases hc:c∈X.fs
  ·obtain ⟨sl,q⟩:=slot c o (I.cne x c e) hc nch ho (I.freeC x c e)
   exact ⟨_,q,hd⟩
  ·exact ⟨o,keep c o (I.cne x c e) hc nch ho (I.freeC x c e),hd⟩
 refine ⟨I.ok,I.os,hg,⟨λ b o e n hb hx=>?_,λ b o e n hb hx=>?_,λ b o e n hx=>?_,λ b o e hx=>?_,λ b xs e=>tups b xs (I.base.tups b xs e),λ b o xs e=>frzs b o xs (I.base.frzs b o xs e),λ b ps e=>?_⟩,?_,λ x c e=>?_,?_,λ x c e=>?_,λ p hp=>?_,hok,I.len⟩
 ·exact keep b o (neL b o e) hb (neC b o e hx) (I.base.keep b o e n hb hx) (I.base.free b o e n hx)
 ·obtain ⟨sl,e1⟩:=I.base.slot b o e n hb hx
  obtain ⟨sl',e2⟩:=slot b _ (neL b o e) hb (neC b o e hx) e1 (I.base.free b o e n hx)
  exact ⟨sl',e2⟩
 ·obtain ⟨o',e1⟩:=I.base.there b o e hx
  exact free b o' (neC b o e hx) e1 (I.base.free b o e n hx)
 ·obtain ⟨o',e1⟩:=I.base.there b o e hx
  exact there b o' (neC b o e hx) e1
 ·obtain ⟨m1,e1⟩:=I.base.tbls b ps e
  obtain ⟨m2,e2⟩:=tbls b _ e1
  exact ⟨m1++m2,by rw [e2,Array.append_assoc]⟩
 ·obtain ⟨m,hn,hl⟩:=I.loc
  refine ⟨m,ns m hn,λ i x v e1 e2 e3=>?_⟩
  obtain ⟨u,r,l⟩:=hl i x v e1 e2 e3
  refine ⟨u,r,?_⟩
  rcases l with l|⟨k,c,e,z⟩
  ·exact .inl l
  ·exact .inr ⟨k,c,e,cellK x c e _ z⟩
 ·obtain ⟨v,z⟩:=I.cell x c e
  exact ⟨v,cellK x c e v z⟩
 ·obtain ⟨m,⟨o,_,_,ho,_⟩,_⟩:=I.loc
  exact free _ o (λ z=>(hch _ z).2.1 rfl) ho I.free
 ·obtain ⟨v,o,ho,hd⟩:=I.cell x c e
  exact free c o (λ z=>(hch c z).2.2.1 x c e rfl) ho (I.freeC x c e)
 ·obtain ⟨e,n,ne,nf,d⟩:=I.pin p hp
  have nch:p.1∉ch:=λ z=>(hch p.1 z).2.2.2 p hp rfl
  exact ⟨keep p.1 p.2 ne nf nch e n,free p.1 p.2 nch e n,ne,nf,d⟩
theorem Inv.un {t':Nat}(I:Inv X pins σ H s)(u:Un X.fs [] H H' s.heap h')(hok:HOk X.prog X.w H' h'):Inv X pins σ H' { s with heap:=h',toks:=t' }:=by
 obtain ⟨m,⟨o,es,ep,ho,r⟩,_⟩:=id I.loc
 obtain ⟨sl,hL⟩:=u.any ho I.free (by simp)
 exact I.step (g':=s.gens) (d':=s.drawn) (ch:=[]) (λ _ z=>nomatch z) (λ b o _ hb _ e n=>u.keep b o e n hb (by simp)) (λ b o _ hb _ e n=>u.slot b o e n hb (by simp)) (λ b o _ e n=>u.free b o e n (by simp)) (λ b o _ e=>u.there b o e (by simp)) u.tups u.frzs u.tbls (λ m' hm=>by
  obtain ⟨o',es',ep',ho',r'⟩:=hm
  rw [ho] at ho';cases ho'
  exact ⟨_,es',ep',hL,r'⟩) hok I.bare
theorem Inv.call {g':Array GenState}{t':Nat}{d':Drawn}{ch:List Addr}(I:Inv X pins σ H s)(u:Un (frs X.stack) ch H H' s.heap h')(hok:HOk X.prog X.w H' h')(hg:AllBare g')
  (hch:∀ b∈ch,(b∈X.ex\/X.s₀.heap.objs.size<=b)/\b≠X.env.locals/\(∀ x c,X.env.cells.lookup x=some c->c≠b)/\∀ p∈X.pn++pins,p.1≠b) :
  Inv X pins σ H' { s with heap:=h',gens:=g',drawn:=d',toks:=t' }:=by
 obtain ⟨m,⟨o,es,ep,ho,r⟩,_⟩:=id I.loc
 obtain ⟨sl,hL⟩:=u.any ho I.free λ z=>(hch _ z).2.1 rfl
 exact I.step (ch:=ch) hch (λ b o hL hb hc e n=>u.keep b o e n (λ z=>(List.mem_cons.mp (I.stkSub b z)).elim hL hb) hc) (λ b o _ _ hc e n=>u.any e n hc) (λ b o hc e n=>u.free b o e n hc) (λ b o hc e=>u.there b o e hc) u.tups u.frzs u.tbls (λ m' hm=>by
  obtain ⟨o',es',ep',ho',r'⟩:=hm
  rw [ho] at ho';cases ho'
  exact ⟨_,es',ep',hL,r'⟩) hok hg
theorem Inv.turned {t':Nat}{it:Addr}(I:Inv X pins σ H s)(k:∀ b o,b≠it->s.heap.get? b=some o->h'.get? b=some o)(hn:H it=none)(hL:it≠X.env.locals)
  (h1:it∈X.ex\/X.s₀.heap.objs.size<=it) (h2:∀ x c,X.env.cells.lookup x=some c->c≠it) (h3:∀ p∈X.pn++pins,p.1≠it):Inv X pins σ H { s with heap:=h',toks:=t' }:=by
 have nit:∀ b u,H b=some u->b≠it:=λ b u e z=>by rw [z,hn] at e;cases e
 refine I.step (g':=s.gens) (d':=s.drawn) (ch:=[it]) (λ b hb=>?_) (λ b o _ _ hc e _=>k b o (λ z=>hc (by simp [z])) e) (λ b o _ _ hc e _=>⟨o.slots,k b o (λ z=>hc (by simp [z])) e⟩) (λ _ _ _ _ n=>n)
  (λ b o hc e=>⟨o,k b o (λ z=>hc (by simp [z])) e⟩) (λ _ _ e=>e) (λ _ _ _ e=>e) (λ b ps e=>⟨#[],by rw [e];simp⟩) (λ m hm=>?_) (λ b u e=>?_) I.bare
 ·have e:b=it:=by simpa using hb
  subst e
  exact ⟨h1,hL,h2,h3⟩
 ·obtain ⟨o,es,ep,ho,r⟩:=hm
  exact ⟨o,es,ep,k _ o (Ne.symm hL) ho,r⟩
 ·refine (I.hok b u e).stay (λ c v hc q=>k c v ?_ q) (λ _ q=>q) λ _ _ q=>q
  rcases hc with z|z
  ·rw [z];exact nit b u e
  ·exact nit c _ z
theorem Inv.tok (I:Inv X pins σ H s)(t:Nat):Inv X pins σ H { s with toks:=t }:=I.un (h':=s.heap) (t':=t) Un.refl I.hok
theorem Inv.kept {t':Nat}(I:Inv X pins σ H s)(k:∀ b u,s.heap.get? b=some u->h'.get? b=some u):Inv X pins σ H { s with heap:=h',toks:=t' }:=I.un (Un.kept k) (I.hok.kept k)
theorem Inv.laid {a:Addr}{o:HO}{t':Nat}(I:Inv X pins σ H s)(k:∀ b u,s.heap.get? b=some u->h'.get? b=some u)(hp:s.heap.objs.size<=a)(new:Zy X.prog X.w (upd H a o) h' a o) :
  Inv X pins σ (upd H a o) { s with heap:=h',toks:=t' }:=I.un (Un.laid k hp (I.hok.fresh hp)) (I.hok.laid k hp new)
theorem Inv.write {x e:Addr}{o:HO}{t':Nat}(I:Inv X pins σ H s)(mu:Mut (H x))(he:e=x\/H e=some (.own x))(k:∀ b u,b≠e->s.heap.get? b=some u->h'.get? b=some u)(heo:∃ u,h'.get? e=some u)
  (new:Zy X.prog X.w (upd H x o) h' x o):Inv X pins σ (upd H x o) { s with heap:=h',toks:=t' }:=I.un (Un.write mu he k heo) (I.hok.write mu he k heo new)
theorem Inv.pins_of {pins':List (Addr×Obj)}(I:Inv X pins σ H s)(h:∀ p∈pins',s.heap.get? p.1=some p.2/\H p.1=none/\p.1≠X.env.locals/\p.1∉X.fs/\∀ v,p.2.data≠.cell v):Inv X pins' σ H s :=
 ⟨I.ok,I.os,I.bare,I.base,I.loc,I.cell,I.free,I.freeC,λ p hp=>(List.mem_append.mp hp).elim (λ z=>I.pin p (List.mem_append_left _ z)) (h p),I.hok,I.len⟩
theorem qcc {N:List Str}(hN:N.Nodup){i j:Nat}{x:Str}(a:N[i]?=some x)(b:N[j]?=some x):i=j:=by
 obtain ⟨h1,e1⟩:=List.getElem?_eq_some_iff.mp a
 obtain ⟨h2,e2⟩:=List.getElem?_eq_some_iff.mp b
 exact (List.getElem_inj hN).mp (e1.trans e2.symm)
theorem qaC {M:Model}{A:Around}{E:Value->Shared->Prop}{i:Nat}{x:Str}{v:V}{u:Value}{Q:Unit->Shared->Prop}(I:Inv X pins σ H s)(hN:X.N.Nodup)(hi:X.N[i]?=some x)(hx:Loc X.env.scope x)(r:RelV v u)
  (h:∀ s',Inv X pins (σ.set i (some v)) H s'->(∃ a,Heap.SameBut a s.heap s'.heap/\(a=X.env.locals\/X.env.cells.lookup x=some a))->Q () s') (hf:X.fn x=true\/X.env.scope.names.lookup x=some .local:=by first|exact .inl rfl|exact .inr rfl|assumption):wpAny M A (storeName X.env x u) Q E s:=by
 obtain ⟨m,hn,hl⟩:=id I.loc
 have hcls:(X.env.scope.kind==.class||(X.env.scope.kind==.module&&X.env.locals != X.env.globals))=false:=by rw [I.ok.kind];rfl
 have hiσ:i<σ.length:=by rw [I.len];exact (List.getElem?_eq_some_iff.mp hi).1
 have cne:=I.cne
 have tracked:∀ {a:Addr} {h':Heap},(∃ o,s.heap.get? a=some o/\H a=none)->Heap.SameBut a s.heap h'->HOk X.prog X.w H h':=λ {a h'} ha hs b ob e=>by
  obtain ⟨_,_,hfree⟩:=ha
  refine (I.hok b ob e).stay (λ c w' hc q=>(hs.2 c ?_).trans q) (λ _ q=>q) λ _ _ q=>q
  rintro rfl
  rcases hc with rfl|hc
  ·rw [hfree] at e;cases e
  ·rw [hfree] at hc;cases hc
 rcases hx with hk|hk
 ·refine wpAny_storeName_local hk hn (λ h' hn' hs=>?_) hcls
  obtain ⟨oL,_,_,hoL,_⟩:=id hn
  refine h _ ⟨I.ok,I.os,I.bare,⟨λ b o e n hb hx=>?_,λ b o e n hb hx=>?_,I.base.free,λ b o e hx=>?_,I.base.tups,I.base.frzs,I.base.tbls⟩,⟨_,hn',λ j y v' e1 e2 e3=>?_⟩,λ y c e=>?_,I.free,I.freeC,λ p hp=>?_,tracked ⟨oL,hoL,I.free⟩ hs,by simpa using I.len⟩ ⟨_,hs,.inl rfl⟩
  ·exact (hs.2 b (Nat.ne_of_lt (Nat.lt_of_lt_of_le (Heap.lt_size e) I.ok.above))).trans (I.base.keep b o e n hb hx)
  ·obtain ⟨sl,e1⟩:=I.base.slot b o e n hb hx
   exact ⟨sl,(hs.2 b (Nat.ne_of_lt (Nat.lt_of_lt_of_le (Heap.lt_size e) I.ok.above))).trans e1⟩
  ·obtain ⟨o',e1⟩:=I.base.there b o e hx
   exact ⟨o',(hs.2 b (Nat.ne_of_lt (Nat.lt_of_lt_of_le (Heap.lt_size e) I.ok.above))).trans e1⟩
  ·by_cases hj:j=i
   ·subst hj
    rw [hi] at e1;cases e1
    rw [List.getElem?_set_self hiσ] at e2
    cases e2
    exact ⟨u,r,.inl ⟨hk,by simp⟩⟩
   ·rw [List.getElem?_set_ne (Ne.symm hj)] at e2
    obtain ⟨u',r',q⟩:=hl j y v' e1 e2 e3
    refine ⟨u',r',?_⟩
    rcases q with ⟨k,e⟩|⟨k,c,e,z⟩
    ·refine .inl ⟨k,?_⟩
     have:y≠x:=λ e=>hj (qcc hN e1 (e ▸ hi))
     simp [this,e]
    ·exact .inr ⟨k,c,e,z.sameBut hs (cne y c e)⟩
  ·obtain ⟨w',z⟩:=I.cell y c e
   exact ⟨w',z.sameBut hs (cne y c e)⟩
  ·obtain ⟨e,n,ne,nf,d⟩:=I.pin p hp
   exact ⟨(hs.2 p.1 ne).trans e,n,ne,nf,d⟩
 ·have hfn:X.fn x=true:=by
   rcases hf with z|z
   ·exact z
   ·rw [z] at hk;cases hk
  obtain ⟨c,hc⟩:=I.ok.has x (.inl hk)
  obtain ⟨w',z⟩:=I.cell x c hc
  refine wpAny_storeName_cell I.ok.kind hk hc z (λ h' hc' hs=>?_)
  obtain ⟨oc,hoc,hocd⟩:=id z
  refine h { s with heap:=h' } ⟨I.ok,I.os,I.bare,⟨λ b o e n hb hx=>?_,λ b o e n hb hx=>?_,I.base.free,λ b o e hx=>?_,I.base.tups,I.base.frzs,I.base.tbls⟩,⟨m,hn.sameBut hs (Ne.symm (cne x c hc)),λ j y v' e1 e2 e3=>?_⟩,λ y c' e=>?_,I.free,I.freeC,λ p hp=>?_,tracked ⟨oc,hoc,I.freeC x c hc⟩ hs,by simpa using I.len⟩ ⟨c,hs,.inr hc⟩
  ·exact (hs.2 b (Nat.ne_of_lt (Nat.lt_of_lt_of_le (Heap.lt_size e) (I.ok.cab x c hfn hc)))).trans (I.base.keep b o e n hb hx)
  ·obtain ⟨sl,e1⟩:=I.base.slot b o e n hb hx
   exact ⟨sl,(hs.2 b (Nat.ne_of_lt (Nat.lt_of_lt_of_le (Heap.lt_size e) (I.ok.cab x c hfn hc)))).trans e1⟩
  ·obtain ⟨o',e1⟩:=I.base.there b o e hx
   exact ⟨o',(hs.2 b (Nat.ne_of_lt (Nat.lt_of_lt_of_le (Heap.lt_size e) (I.ok.cab x c hfn hc)))).trans e1⟩
  ·by_cases hj:j=i
   ·subst hj
    rw [hi] at e1;cases e1
    rw [List.getElem?_set_self hiσ] at e2
    cases e2
    exact ⟨u,r,.inr ⟨.inl hk,c,hc,hc'⟩⟩
   ·rw [List.getElem?_set_ne (Ne.symm hj)] at e2
    obtain ⟨u',r',q⟩:=hl j y v' e1 e2 e3
    refine ⟨u',r',?_⟩
    rcases q with q|⟨k,c',e,z'⟩
    ·exact .inl q
    ·refine .inr ⟨k,c',e,z'.sameBut hs ?_⟩
     rintro rfl
     exact hj (qcc hN e1 (I.ok.inj _ _ _ e hc ▸ hi))
  ·by_cases hcc:c'=c
   ·subst hcc;exact ⟨_,hc'⟩
   ·obtain ⟨w2,z2⟩:=I.cell y c' e
    exact ⟨w2,z2.sameBut hs hcc⟩
  ·obtain ⟨e,n,ne,nf,d⟩:=I.pin p hp
   refine ⟨(hs.2 p.1 ?_).trans e,n,ne,nf,d⟩
   intro q
   rw [q,hoc] at e
   have q':oc=p.2:=Option.some.inj e
   exact d w' (by rw [← q'];exact hocd)
theorem qcM {M:Model}{A:Around}{E:Value->Shared->Prop}{i:Nat}{x:Str}{v:V}{u:Value}{Q:Unit->Shared->Prop}(I:Inv X pins σ H s)(hN:X.N.Nodup)(hi:X.N[i]?=some x)(hx:Loc X.env.scope x)(r:RelV v u)
  (h:∀ s',Inv X pins (σ.set i (some v)) H s'->Q () s') (hf:X.fn x=true\/X.env.scope.names.lookup x=some .local:=by first|exact .inl rfl|exact .inr rfl|assumption):wpAny M A (storeName X.env x u) Q E s :=
 qaC I hN hi hx r (λ s' I' _=>h s' I') hf
theorem Inv.call' {s':Shared}{ch:List Addr}(I:Inv X pins σ H s)(ho:s'.os=s.os)(u:Un (frs X.stack) ch H H' s.heap s'.heap)(hok:HOk X.prog X.w H' s'.heap)(hg:AllBare s'.gens)
  (hch:∀ b∈ch,(b∈X.ex\/X.s₀.heap.objs.size<=b)/\b≠X.env.locals/\(∀ x c,X.env.cells.lookup x=some c->c≠b)/\∀ p∈X.pn++pins,p.1≠b):Inv X pins σ H' s':=by
 obtain ⟨h',g',d',t',o'⟩:=s'
 have e:o'=s.os:=ho
 subst e
 exact I.call (g':=g') (t':=t') (d':=d') u hok hg hch
end
abbrev XK:=Value->Option Addr->Hp->Prop
abbrev St:=List (Option V)
abbrev VK:=V->Hp->Prop
abbrev TE:=St->Hp->VK->Prop
abbrev TT:=St->Hp->(Bool->Hp->Prop)->Prop
abbrev TA:=St->Hp->(List V->Hp->Prop)->Prop
structure Ends where
 nx:St->Hp->Prop
 rt:VK
 bk:St->Hp->Prop:=λ _ _=>False
 ct:St->Hp->Prop:=λ _ _=>False
abbrev TS:=Ends->St->Hp->Prop
def EP (X:Cx)(pins:List (Addr×Obj))(σ:St)(Q:VK)(u:Value)(s':Shared):Prop:=∃ v H',Inv X pins σ H' s'/\RelV v u/\Q v H'
def TP (X:Cx)(pins:List (Addr×Obj))(σ:St)(Q:Bool->Hp->Prop)(b:Bool)(s':Shared):Prop:=∃ H',Inv X pins σ H' s'/\Q b H'
def AP (X:Cx)(pins:List (Addr×Obj))(σ:St)(Q:List V->Hp->Prop)(us:List Value)(s':Shared):Prop:=∃ vs H',Inv X pins σ H' s'/\Vals vs us/\Q vs H'
def SP (X:Cx)(pins:List (Addr×Obj))(D:Ends)(f:Flow)(s':Shared):Prop :=
 match f with
 | .next=>∃ σ' H',Inv X pins σ' H' s'/\D.nx σ' H'
 | .brk=>∃ σ' H',Inv X pins σ' H' s'/\D.bk σ' H'
 | .cont=>∃ σ' H',Inv X pins σ' H' s'/\D.ct σ' H'
 | .ret u=>∃ v σ' H',Inv X pins σ' H' s'/\RelV v u/\D.rt v H'
def PE (X:Cx)(e:Expr)(t:TE):Prop :=
 ∀ (pins:List (Addr×Obj)) (s:Shared) (σ:St) (H:Hp) (Q:VK),Inv X pins σ H s->t σ H Q->wpAny (model X.prog X.w) X.A (eval e X.env) (EP X pins σ Q) X.xe s
def PT (X:Cx)(e:Expr)(t:TT):Prop :=
 ∀ (pins:List (Addr×Obj)) (s:Shared) (σ:St) (H:Hp) (Q:Bool->Hp->Prop),Inv X pins σ H s->t σ H Q->wpAny (model X.prog X.w) X.A (isTrue e X.env (eval e X.env)) (TP X pins σ Q) X.xe s
def PW (X:Cx)(e:Expr)(t:TT):Prop :=
 ∀ (whole:Sem Value) (pins:List (Addr×Obj)) (s:Shared) (σ:St) (H:Hp) (Q:Bool->Hp->Prop),Inv X pins σ H s->t σ H Q->wpAny (model X.prog X.w) X.A (isTrue e X.env whole) (TP X pins σ Q) X.xe s
theorem PW.pt {X:Cx}{e:Expr}{t:TT}(h:PW X e t):PT X e t:=h _
def PA (X:Cx)(es:List Expr)(t:TA):Prop :=
 ∀ (pos:Pos) (pins:List (Addr×Obj)) (s:Shared) (σ:St) (H:Hp) (Q:List V->Hp->Prop),Inv X pins σ H s->t σ H Q->wpAny (model X.prog X.w) X.A (spliced (backTo pos (starEach es X.env))) (AP X pins σ Q) X.xe s
def PS (X:Cx)(st:Stmt)(t:TS):Prop :=
 ∀ (pins:List (Addr×Obj)) (s:Shared) (σ:St) (H:Hp) (D:Ends),Inv X pins σ H s->t D σ H->wpAny (model X.prog X.w) X.A (exec st X.env) (SP X pins D) X.xe s
def PSs (X:Cx)(st:List Stmt)(t:TS):Prop :=
 ∀ (pins:List (Addr×Obj)) (s:Shared) (σ:St) (H:Hp) (D:Ends),Inv X pins σ H s->t D σ H->wpAny (model X.prog X.w) X.A (execs st X.env) (SP X pins D) X.xe s
theorem thn {α:Type}{t:Sem α}{Q Q':α->Shared->Prop}{M:Model}{A:Around}{E:Value->Shared->Prop}{s:Shared}(h:wpAny M A t Q E s)(hQ:∀ a s,Q a s->Q' a s):wpAny M A t Q' E s:=wpAny_mono h hQ λ _ _ x=>x
section
variable {X:Cx}
def tVar (i:Nat):TE:=λ σ H Q=>∃ v,σ[i]?=some (some v)/\Q v H
def tC (v:V):TE:=λ _ H Q=>Q v H
theorem qhe {i:Nat}{x:Str}{pos:Pos}(hN:X.N[i]?=some x)(hv:Vis X.env.scope x)(hd:(x==("__debug__" : Str))=false:=by decide)(hcd:(x==("__classdict__" : Str))=false:=by decide):PE X (.Name x pos) (tVar i):=by
 intro pins s σ H Q I h
 obtain ⟨v,e,h⟩:=h
 obtain ⟨m,hn,hl⟩:=I.loc
 obtain ⟨u,r,l⟩:=hl i x v hN e hv
 have fin:EP X pins σ Q u s:=⟨v,H,I,r,h⟩
 rcases l with ⟨hk,hm⟩|⟨hk,c,hc,hcell⟩
 ·exact wpAny_Name (wpAny_loadName_local I.ok.kind hk hn hm fin) hd
 ·rcases hk with hk|hk
  ·exact wpAny_Name (wpAny_loadName_cell I.ok.kind hk hc hcell fin) hd
  ·exact wpAny_Name (wpAny_loadName_free I.ok.kind hk hc hcell fin hcd) hd
theorem qkw {i j pos}:PE X (.Constant (.int i) j pos) (tC (.int i)):=λ _ _ _ H _ I h=>wpAny_Constant_int ⟨.int i,H,I.tok _,⟨_,rfl⟩,h⟩
theorem pe_bl {b j pos}:PE X (.Constant (.bool b) j pos) (tC (.bl b)):=λ _ _ _ H _ I h=>Constant_bool ⟨.bl b,H,I,rfl,h⟩
theorem qkx {j pos}:PE X (.Constant .none j pos) (tC .non):=λ _ _ _ H _ I h=>Constant_none ⟨.non,H,I,rfl,h⟩
def Gl (X:Cx)(x:Str):Prop:=X.env.kindOf x=some .globalImplicit
theorem qel {E:Value->Shared->Prop}{pins:List (Addr×Obj)}{s:Shared}{σ:St}{H:Hp}{x:Str}{u:Value}{pos:Pos}{Q:Value->Shared->Prop}(I:Inv X pins σ H s)(hg:Gl X x)(hm:X.mg x=some u)(h:Q u s)
  (hd:(x==("__debug__" : Str))=false:=by decide):wpAny (model X.prog X.w) X.A (eval (.Name x pos) X.env) Q E s :=
 Calls.Name_function_global I.ok.kind hg (Calls.loadGlobal_global (by rw [I.ok.glob];exact I.mod.glob.keeps I.bk) hm h) hd
theorem ye {E:Value->Shared->Prop}{pins:List (Addr×Obj)}{s:Shared}{σ:St}{H:Hp}{x:Str}{u:Value}{pos:Pos}{Q:Value->Shared->Prop}(I:Inv X pins σ H s)(hg:Gl X x)(hm:X.mg x=none)(hv:bootBuiltins x=some u)(h:Q u s)
  (hn:x ≠ "__name__" := by decide) (hd:(x==("__debug__" : Str))=false:=by decide):wpAny (model X.prog X.w) X.A (eval (.Name x pos) X.env) Q E s:=by
 obtain ⟨mb,h1,h2⟩:=I.mod.blt
 exact Calls.Name_function_global I.ok.kind hg (Calls.loadGlobal_builtin (by rw [I.ok.glob];exact I.mod.glob.keeps I.bk) hm (by rw [I.ok.blt];exact h1.keeps I.bk) ((h2 x hn).trans hv) h) hd
theorem qiR {x:Str}{v:V}{u:Value}{pos:Pos}(hg:Gl X x)(hm:X.mg x=some u)(r:RelV v u)(hd:(x==("__debug__" : Str))=false:=by decide):PE X (.Name x pos) (tC v) :=
 λ _ _ _ H _ I h=>qel I hg hm ⟨v,H,I,r,h⟩ hd
theorem qiN {x:Str}{v:V}{u:Value}{pos:Pos}(hg:Gl X x)(hm:X.mg x=none)(hv:bootBuiltins x=some u)(r:RelV v u)(hn:x ≠ "__name__" := by decide)(hd:(x==("__debug__" : Str))=false:=by decide):PE X (.Name x pos) (tC v) :=
 λ _ _ _ H _ I h=>ye I hg hm hv ⟨v,H,I,r,h⟩ hn hd
variable {a b:Expr}{ta tb:TE}{pos:Pos}
def tB (t:TE):TT:=λ σ H Q=>t σ H λ x H1=>∃ c,x=.bl c/\Q c H1
theorem qkH {e:Expr}{t:TE}(h:PE X e t)(he:∀ whole,isTrue e X.env whole=(do let v ← whole;standAt e.pos;holding [v] (truthy v)):=by intro _;rfl):PT X e (tB t):=by
 intro pins s σ H Q I hw
 refine isTrue_plain (thn (h pins s σ H _ I hw) λ v s1 ⟨x,H1,I1,r1,q1⟩=>?_) (he _)
 obtain ⟨d,rfl,q⟩:=q1
 cases r1
 exact wpAny_truthy_bool ⟨H1,I1,q⟩
variable {tA tB':TT}{rest:List Expr}
def tAnd (t u:TT):TT:=λ σ H Q=>t σ H λ c H1=>if c=true then u σ H1 Q else Q false H1
def tOr (t u:TT):TT:=λ σ H Q=>t σ H λ c H1=>if c=true then Q true H1 else u σ H1 Q
def tNot (t:TT):TT:=λ σ H Q=>t σ H λ c H1=>Q (!c) H1
theorem qi4 (ha:PT X a tA):PW X (.BoolOp .And [a] pos) tA:=by
 intro wh pins s σ H Q I h
 refine isTrue_and (thn (ha pins s σ H Q I h) λ c s1 e=>?_)
 cases c with
 | true=>exact isTrue_and_nil e
 | false=>exact e
theorem qkK (ha:PT X a tA):PW X (.BoolOp .Or [a] pos) tA:=by
 intro wh pins s σ H Q I h
 refine isTrue_or (thn (ha pins s σ H Q I h) λ c s1 e=>?_)
 cases c with
 | false=>exact isTrue_or_nil e
 | true=>exact e
theorem qkJ (ha:PT X a tA)(hb:PW X (.BoolOp .And (b::rest) pos) tB'):PW X (.BoolOp .And (a::b::rest) pos) (tAnd tA tB'):=by
 intro wh pins s σ H Q I h
 refine isTrue_and (thn (ha pins s σ H _ I h) λ c s1 ⟨H1,I1,q1⟩=>?_)
 cases c with
 | true=>exact hb wh pins s1 σ H1 Q I1 q1
 | false=>exact ⟨H1,I1,q1⟩
theorem pw_or (ha:PT X a tA)(hb:PW X (.BoolOp .Or (b::rest) pos) tB'):PW X (.BoolOp .Or (a::b::rest) pos) (tOr tA tB'):=by
 intro wh pins s σ H Q I h
 refine isTrue_or (thn (ha pins s σ H _ I h) λ c s1 ⟨H1,I1,q1⟩=>?_)
 cases c with
 | true=>exact ⟨H1,I1,q1⟩
 | false=>exact hb wh pins s1 σ H1 Q I1 q1
theorem qkG (ha:PT X a tA):PT X (.UnaryOp .Not a pos) (tNot tA):=by
 intro pins s σ H Q I h
 exact isTrue_not (ha pins s σ H (λ c H1=>Q (!c) H1) I h)
def tAndV (ta tb:TE):TE:=λ σ H Q=>ta σ H λ x H1=>∃ c,x=.bl c/\if c=true then tb σ H1 Q else Q (.bl false) H1
def tNotV (ta:TE):TE:=λ σ H Q=>ta σ H λ x H1=>∃ c,x=.bl c/\Q (.bl (!c)) H1
theorem qkz {op}{t:TE}(h:PE X a t):PE X (.BoolOp op [a] pos) t:=λ pins s σ H Q I hw=>BoolOp_one (h pins s σ H Q I hw)
theorem qkv (ha:PE X a ta)(hb:PE X (.BoolOp .And (b::rest) pos) tb):PE X (.BoolOp .And (a::b::rest) pos) (tAndV ta tb):=by
 intro pins s σ H Q I h
 refine BoolOp_and (thn (ha pins s σ H _ I h) λ v s1 ⟨x,H1,I1,r1,q1⟩=>?_)
 obtain ⟨c,rfl,q1⟩:=q1
 cases r1
 refine wpAny_truthy_bool ?_
 cases c with
 | true=>exact hb pins s1 σ H1 Q I1 q1
 | false=>exact ⟨.bl false,H1,I1,rfl,q1⟩
theorem qky (ha:PE X a ta):PE X (.UnaryOp .Not a pos) (tNotV ta):=by
 intro pins s σ H Q I h
 refine UnaryOp_ (thn (ha pins s σ H _ I h) λ v s1 ⟨x,H1,I1,r1,q1⟩=>?_)
 obtain ⟨c,rfl,q1⟩:=q1
 cases r1
 exact not_of (wpAny_truthy_bool ⟨.bl (!c),H1,I1,rfl,q1⟩)
def tIf (t:TT)(ta tb:TE):TE:=λ σ H Q=>t σ H λ c H1=>if c=true then ta σ H1 Q else tb σ H1 Q
theorem qha {c:Expr}(hc:PT X c tA)(ha:PE X a ta)(hb:PE X b tb):PE X (.IfExp c a b pos) (tIf tA ta tb):=by
 intro pins s σ H Q I h
 refine wpAny_IfExp (thn (hc pins s σ H _ I h) λ d s1 ⟨H1,I1,q1⟩=>?_)
 cases d with
 | true=>exact ha pins s1 σ H1 Q I1 q1
 | false=>exact hb pins s1 σ H1 Q I1 q1
end
def SqL (K:W.Frag)(H:Hp)(a:Addr)(xs:List V):Prop :=
 Rd H a (.lst xs)\/
  ∃ (o:Obj) (its:Array Value) (n:Nat),K.lookup a=some o/\o.cls=.type "list"/\o.dict=none/\o.data=.seq its n/\its.size<=sizeLine/\Vals xs its.toList
def SqT (K:W.Frag)(H:Hp)(a:Addr)(xs:List V):Prop :=
 Rd H a (.tup xs)\/
  ∃ (o:Obj) (its:Array Value) (n:Nat),K.lookup a=some o/\o.cls=.type "tuple"/\o.data=.seq its n/\its.size<=sizeLine/\Vals xs its.toList
def absV:Value->Option V
 | .none=>some .non
 | .bool b=>some (.bl b)
 | .int i _=>some (.int i)
 | .str x _=>some (.str x)
 | .bytes b _=>some (.byt b)
 | .float b _=>some (.flt b)
 | .ref a=>some (.ref a)
 | .type n=>some (.ty n)
 | _=>none
theorem RelV.abs {x:V}{u:Value}(r:RelV x u):absV u=some x:=by
 cases x with
 | non=>cases r;rfl
 | bl _=>cases r;rfl
 | int _=>obtain ⟨t,rfl⟩:=r;rfl
 | str _=>obtain ⟨t,rfl⟩:=r;rfl
 | byt _=>obtain ⟨t,rfl⟩:=r;rfl
 | flt _=>obtain ⟨t,rfl⟩:=r;rfl
 | ref _=>cases r;rfl
 | ty _=>cases r;rfl
theorem RelV.inj {x y:V}{u:Value}(r:RelV x u)(q:RelV y u):x=y:=Option.some.inj (r.abs.symm.trans q.abs)
theorem Vals.inj:∀ {xs ys:List V} {us:List Value},Vals xs us->Vals ys us->xs=ys
 | _,_,_,.nil,.nil=>rfl
 | _,_,_,.cons r t,.cons r' t'=>by rw [r.inj r',Vals.inj t t']
section
variable {X:Cx}{pins:List (Addr×Obj)}{σ:St}{H:Hp}{s:Shared}{a:Addr}{xs ys:List V}
theorem SqL.of {K:W.Frag}(h:H a=some (.lst xs)):SqL K H a xs:=.inl (.inl h)
theorem SqT.of {K:W.Frag}(h:H a=some (.tup xs)):SqT K H a xs:=.inl (.inl h)
theorem Inv.list (I:Inv X pins σ H s)(h:SqL X.K H a xs):∃ its:List Value,Vals xs its/\PlainL s.heap a its.toArray/\xs.length<=sizeLine:=by
 rcases h with h|⟨o,its,n,hk,hc,hd,hs,hz,r⟩
 ·obtain ⟨z,its,n,r,e⟩:=h.ok I.hok
  exact ⟨its,r,⟨_,n,e,rfl,rfl,rfl⟩,z⟩
 ·refine ⟨its.toList,r,⟨o,n,I.kIn a o hk,hc,hd,by simpa using hs⟩,?_⟩
  have e:=r.length
  simp only [Array.length_toList] at e
  omega
theorem Inv.tuple (I:Inv X pins σ H s)(h:SqT X.K H a xs):∃ its:List Value,Vals xs its/\IsTup s.heap a its.toArray/\xs.length<=sizeLine:=by
 rcases h with h|⟨o,its,n,hk,hc,hs,hz,r⟩
 ·obtain ⟨z,its,r,p⟩:=h.ok I.hok
  exact ⟨its,r,p,z⟩
 ·refine ⟨its.toList,r,⟨o,I.kIn a o hk,hc,n,by simpa using hs⟩,?_⟩
  have e:=r.length
  simp only [Array.length_toList] at e
  omega
theorem Inv.list_inj (I:Inv X pins σ H s)(h:SqL X.K H a xs)(h':SqL X.K H a ys):xs=ys:=by
 obtain ⟨its,r,⟨o,n,e,_,_,d⟩,_⟩:=I.list h
 obtain ⟨its',r',⟨o',n',e',_,_,d'⟩,_⟩:=I.list h'
 rw [e] at e';cases e'
 rw [d] at d'
 injection d' with d1 _
 have:its=its':=by simpa using congrArg Array.toList d1
 subst this
 exact r.inj r'
theorem Inv.tuple_inj (I:Inv X pins σ H s)(h:SqT X.K H a xs)(h':SqT X.K H a ys):xs=ys:=by
 obtain ⟨its,r,⟨o,e,_,n,d⟩,_⟩:=I.tuple h
 obtain ⟨its',r',⟨o',e',_,n',d'⟩,_⟩:=I.tuple h'
 rw [e] at e';cases e'
 rw [d] at d'
 injection d' with d1 _
 have:its=its':=by simpa using congrArg Array.toList d1
 subst this
 exact r.inj r'
end
abbrev Cx.wish (X:Cx)(E:Value->Shared->Prop):Cx:={ X with xe:=E }
abbrev Cx.nox (X:Cx):Cx:=X.wish λ _ _=>False
theorem Cx.Ok.wish {X:Cx}(ok:X.Ok)(E:Value->Shared->Prop):(X.wish E).Ok :=
 ⟨ok.mod,ok.kind,ok.glob,ok.blt,ok.above,ok.inj,ok.has,ok.cab,ok.hd,ok.frames,ok.stk,ok.exf,ok.bs,ok.bsz,ok.noex,ok.exfs,ok.funs,ok.frf⟩
theorem Cx.Ok.unwish {X:Cx}{E:Value->Shared->Prop}(ok:(X.wish E).Ok):X.Ok :=
 ⟨ok.mod,ok.kind,ok.glob,ok.blt,ok.above,ok.inj,ok.has,ok.cab,ok.hd,ok.frames,ok.stk,ok.exf,ok.bs,ok.bsz,ok.noex,ok.exfs,ok.funs,ok.frf⟩
section
variable {X:Cx}{pins:List (Addr×Obj)}{σ:St}{H:Hp}{s:Shared}{E:Value->Shared->Prop}
theorem Inv.wish (I:Inv X pins σ H s)(E:Value->Shared->Prop):Inv (X.wish E) pins σ H s:=⟨I.ok.wish E,I.os,I.bare,I.base,I.loc,I.cell,I.free,I.freeC,I.pin,I.hok,I.len⟩
theorem Inv.unwish (I:Inv (X.wish E) pins σ H s):Inv X pins σ H s:=⟨I.ok.unwish,I.os,I.bare,I.base,I.loc,I.cell,I.free,I.freeC,I.pin,I.hok,I.len⟩
theorem SP.unwish {D:Ends}{f:Flow}{s':Shared}(h:SP (X.wish E) pins D f s'):SP X pins D f s':=by
 cases f with
 | next=>obtain ⟨σ',H',I,q⟩:=h;exact ⟨σ',H',I.unwish,q⟩
 | brk=>obtain ⟨σ',H',I,q⟩:=h;exact ⟨σ',H',I.unwish,q⟩
 | cont=>obtain ⟨σ',H',I,q⟩:=h;exact ⟨σ',H',I.unwish,q⟩
 | ret u=>obtain ⟨v,σ',H',I,r,q⟩:=h;exact ⟨v,σ',H',I.unwish,r,q⟩
theorem PE.nox {e:Expr}{t:TE}(h:PE X.nox e t):PE X e t:=λ pins s σ H Q I hw =>
 wpAny_mono (h pins s σ H Q (I.wish _) hw) (λ _ _ ⟨v,H',I',r,q⟩=>⟨v,H',I'.unwish,r,q⟩) λ _ _ z=>False.elim z
theorem PT.nox {e:Expr}{t:TT}(h:PT X.nox e t):PT X e t:=λ pins s σ H Q I hw =>
 wpAny_mono (h pins s σ H Q (I.wish _) hw) (λ _ _ ⟨H',I',q⟩=>⟨H',I'.unwish,q⟩) λ _ _ z=>False.elim z
theorem PSs.nox {st:List Stmt}{t:TS}(h:PSs X.nox st t):PSs X st t:=λ pins s σ H D I hw =>
 wpAny_mono (h pins s σ H D (I.wish _) hw) (λ _ _ q=>q.unwish) λ _ _ z=>False.elim z
end
section
variable {X:Cx}{st:Stmt}{rest:List Stmt}{t u:TS}{e:Expr}{te:TE}{pos:Pos}
def tNext:TS:=λ D σ H=>D.nx σ H
def tSeq (t u:TS):TS:=λ D σ H=>t { D with nx:=u D } σ H
theorem qiZ:PSs X [] tNext:=λ _ _ σ H _ I h=>wpAny_execs_nil ⟨σ,H,I,h⟩
theorem qhk (h1:PS X st t)(h2:PSs X rest u):PSs X (st::rest) (tSeq t u):=by
 intro pins s σ H D I h
 refine wpAny_execs_cons (thn (h1 pins s σ H { D with nx:=u D } I h) λ f s1 q=>?_)
 cases f with
 | next =>
  obtain ⟨σ',H',I',q⟩:=q
  exact h2 pins s1 σ' H' D I' q
 | ret v=>exact q
 | brk=>exact q
 | cont=>exact q
theorem qi0 (h1:PS X st t):PSs X [st] t:=by
 intro pins s σ H D I h
 refine wpAny_execs_cons (thn (h1 pins s σ H D I h) λ f s1 q=>?_)
 cases f with
 | next=>exact wpAny_execs_nil q
 | ret v=>exact q
 | brk=>exact q
 | cont=>exact q
theorem Inv.quiet {pins:List (Addr×Obj)}{σ:St}{H:Hp}{s:Shared}(I:Inv X pins σ H s):interactive X.env=false:=by simp [interactive,I.ok.kind]
def tDrop (te:TE):TS:=λ D σ H=>te σ H λ _ H1=>D.nx σ H1
theorem qbj (he:PE X e te)(hs:swapsWith e none pos.line X.env=pure false:=by rfl):PS X (.Expr e pos) (tDrop te):=by
 intro pins s σ H D I h
 exact wpAny_Expr_any (thn (he pins s σ H _ I h) λ v s1 ⟨x,H1,I1,r1,q1⟩=>⟨σ,H1,I1,q1⟩) I.quiet hs
def tRet (te:TE):TS:=λ D σ H=>te σ H D.rt
theorem qkF (he:PE X e te):PS X (.Return (some e) pos) (tRet te):=by
 intro pins s σ H D I h
 exact wpAny_Return_some (thn (he pins s σ H _ I h) λ v s1 ⟨x,H1,I1,r1,q1⟩=>⟨x,σ,H1,I1,r1,q1⟩)
def tIfS (c:TT)(t u:TS):TS:=λ D σ H=>c σ H λ b H1=>if b=true then t D σ H1 else u D σ H1
theorem ps_if {c:Expr}{a b:List Stmt}{tc:TT}(hc:PT X c tc)(ha:PSs X a t)(hb:PSs X b u):PS X (.If c a b pos) (tIfS tc t u):=by
 intro pins s σ H D I h
 refine wpAny_If (thn (hc pins s σ H _ I h) λ d s1 ⟨H1,I1,q1⟩=>?_)
 cases d with
 | true=>exact ha pins s1 σ H1 D I1 q1
 | false=>exact hb pins s1 σ H1 D I1 q1
end
abbrev TG:=V->St->Hp->(St->Hp->Prop)->Prop
abbrev TGs:=List V->St->Hp->(St->Hp->Prop)->Prop
def PG (X:Cx)(target:Expr)(t:TG):Prop :=
 ∀ (pins:List (Addr×Obj)) (s:Shared) (σ:St) (H:Hp) (v:V) (u:Value) (Q:St->Hp->Prop),Inv X pins σ H s->RelV v u->t v σ H Q->
  wpAny (model X.prog X.w) X.A (assign target X.env u) (λ _ s'=>∃ σ' H',Inv X pins σ' H' s'/\Q σ' H') X.xe s
def PGs (X:Cx)(ts:List Expr)(t:TGs):Prop :=
 ∀ (pins:List (Addr×Obj)) (s:Shared) (σ:St) (H:Hp) (vs:List V) (us:List Value) (Q:St->Hp->Prop),Inv X pins σ H s->Vals vs us->t vs σ H Q->
  wpAny (model X.prog X.w) X.A (assignInOrder ((assignEach ts X.env).map (·.2)) us) (λ _ s'=>∃ σ' H',Inv X pins σ' H' s'/\Q σ' H') X.xe s
abbrev TSet:=V->V->V->Hp->(Hp->Prop)->Prop
def PSet (X:Cx)(t:TSet):Prop :=
 ∀ (pins:List (Addr×Obj)) (s:Shared) (σ:St) (H:Hp) (o i v:V) (ov iv u:Value) (Q:Hp->Prop),Inv X pins σ H s->RelV o ov->RelV i iv->RelV v u->t o i v H Q->
  wpAny (model X.prog X.w) X.A (setItem ov iv u) (λ _ s'=>∃ H',Inv X pins σ H' s'/\Q H') X.xe s
section
variable {X:Cx}{pos:Pos}
def qec (i:Nat):TG:=λ v σ H Q=>Q (σ.set i (some v)) H
theorem qex {i:Nat}{x:Str}(hN:X.N.Nodup)(hi:X.N[i]?=some x)(hx:Loc X.env.scope x)(hf:X.fn x=true\/X.env.scope.names.lookup x=some .local:=by first|exact .inl rfl|exact .inr rfl|assumption):PG X (.Name x pos) (qec i):=by
 intro pins s σ H v u Q I r h
 exact wpAny_assign_Name (qcM I hN hi hx r (λ s' I'=>⟨_,H,I',h⟩) hf)
def gNil:TGs:=λ vs σ H Q=>vs=[]/\Q σ H
def gCons (t:TG)(u:TGs):TGs:=λ vs σ H Q=>∃ v r,vs=v::r/\t v σ H λ σ' H'=>u r σ' H' Q
theorem qey:PGs X [] gNil:=by
 intro pins s σ H vs us Q I r h
 obtain ⟨e,h⟩:=h
 subst e
 cases r
 exact assignInOrder_nil ⟨σ,H,I,h⟩
theorem qcs {e:Expr}{es:List Expr}{t:TG}{u:TGs}(h1:PG X e t)(h2:PGs X es u)
  (hs:(assignEach (e::es) X.env).map (·.2)=assign e X.env::(assignEach es X.env).map (·.2):=by rfl):PGs X (e::es) (gCons t u):=by
 intro pins s σ H vs us Q I r h
 obtain ⟨v,vr,e1,h⟩:=h
 subst e1
 cases r with
 | cons r rr =>
  rw [hs]
  refine assignInOrder_cons (thn (h1 pins s σ H _ _ _ I r h) λ _ s1 ⟨σ1,H1,I1,q1⟩=>?_)
  exact h2 pins s1 σ1 H1 _ _ Q I1 rr q1
def gTup (K:W.Frag)(n:Nat)(t:TGs):TG:=λ v σ H Q=>∃ a xs,v=.ref a/\SqT K H a xs/\xs.length=n/\t xs σ H Q
theorem qhf {es:List Expr}{k:Nat}{t:TGs}{n:Nat}(hc:X.calm=true)(h:PGs X es t)
  (hn:(assignEach es X.env).length=n:=by rfl) (hst:(assignEach es X.env).findIdx? (·.1)=none:=by rfl):PG X (.Tuple es k pos) (gTup X.K n t):=by
 intro pins s σ H v u Q I r hw
 obtain ⟨a,xs,e1,hq,hl,hw⟩:=hw
 subst e1
 cases r
 obtain ⟨its,rv,ht,hz⟩:=I.tuple hq
 refine assign_Tuple_tuple (I.ok.hd hc) ht (by simp [hn,← hl,rv.length]) hst λ h' hx=>?_
 have I1:Inv X pins σ H { s with heap:=h' }:=I.kept (t':=s.toks) λ b o e=>hx b o (Nat.ne_of_lt (Heap.lt_size e)) e
 exact h pins _ σ H xs _ Q I1 (by simpa using rv) hw
def gSub (to ti:TE)(t:TSet):TG:=λ v σ H Q=>to σ H λ o H1=>ti σ H1 λ i H2=>t o i v H2 λ H3=>Q σ H3
theorem qbh {o i:Expr}{to ti:TE}{t:TSet}(ho:PE X o to)(hi:PE X i ti)(hs:PSet X t)
  (ha:∀ v,assign (.Subscript o i pos) X.env v=(do
   let ov ← holding [v] (eval o X.env)
   let iv ← holding [v,ov] (eval i X.env)
   standAt pos
   holding [v,ov,iv] (setItem ov iv v)
   release [v,ov,iv] []):=by intro _;rfl):PG X (.Subscript o i pos) (gSub to ti t):=by
 intro pins s σ H v u Q I r h
 rw [ha]
 refine wpAny_bind (wpAny_holding (thn (ho pins s σ H _ I h) λ ov s1 ⟨x,H1,I1,r1,q1⟩=>?_))
 refine wpAny_bind (wpAny_holding (thn (hi pins s1 σ H1 _ I1 q1) λ iv s2 ⟨y,H2,I2,r2,q2⟩=>?_))
 refine wpAny_bind (wpAny_standAt (wpAny_bind (wpAny_holding (thn (hs pins s2 σ H2 x y v ov iv u _ I2 r1 r2 r q2) λ _ s3 ⟨H3,I3,q3⟩=>?_))))
 exact wpAny_release ⟨σ,H3,I3,q3⟩
def tAsg (te:TE)(g:TG):TS:=λ D σ H=>te σ H λ x H1=>g x σ H1 D.nx
theorem qbi {tg e:Expr}{te:TE}{g:TG}(he:PE X e te)(hg:PG X tg g)(hs:swapsWithSole [tg] e pos.line X.env=pure false:=by rfl)(hw:swappedStores [tg] e X.env=pure none:=by rfl)
  (h1:(assignEach [tg] X.env).map (·.2)=[assign tg X.env]:=by rfl):PS X (.Assign [tg] e pos) (tAsg te g):=by
 intro pins s σ H D I h
 refine wpAny_Assign_stores (thn (he pins s σ H _ I h) λ v s1 ⟨x,H1,I1,r1,q1⟩=>?_) hs hw
 rw [h1]
 exact thn (hg pins s1 σ H1 x v _ I1 r1 q1) λ _ s2 q=>q
theorem qbk {i:Nat}{x:Str}{e:Expr}{te:TE}{pos':Pos}(hN:X.N.Nodup)(hi:X.N[i]?=some x)(hx:Loc X.env.scope x)(he:PE X e te)(hs:swapsWith e (some (.Name x pos')) pos.line X.env=pure false:=by rfl)(hf:X.fn x=true\/X.env.scope.names.lookup x=some .local:=by first|exact .inl rfl|exact .inr rfl|assumption) :
  PS X (.Assign [.Name x pos'] e pos) (tAsg te (qec i)):=by
 intro pins s σ H D I h
 refine wpAny_Assign_Name (thn (he pins s σ H _ I h) λ v s1 ⟨y,H1,I1,r1,q1⟩=>?_) hs
 exact qcM I1 hN hi hx r1 (λ s2 I2=>⟨_,H1,I2,q1⟩) hf
end
structure It where
 go:Nat->Hp->Prop
 yld:Nat->Hp->V->Hp->Prop
 stop:Nat->Hp->Prop
def FpOk (X:Cx)(pins:List (Addr×Obj))(H:Hp)(b:Addr):Prop :=
 H b=none/\b≠X.env.locals/\b∉X.fs/\(b∈X.ex\/X.s₀.heap.objs.size<=b)/\(∀ x c,X.env.cells.lookup x=some c->c≠b)/\∀ p∈X.pn++pins,p.1≠b
theorem Inv.fpOk {X:Cx}{pins:List (Addr×Obj)}{σ:St}{H H':Hp}{s:Shared}{b:Addr}(I:Inv X pins σ H s)(hb:s.heap.objs.size<=b)(hn:H' b=none):FpOk X pins H' b:=by
 refine ⟨hn,Nat.ne_of_gt (Nat.lt_of_lt_of_le I.lt hb),I.nofs hb,.inr (Nat.le_trans I.sz hb),λ x c e z=>?_,λ p hp z=>?_⟩
 ·obtain ⟨v,q⟩:=I.cell x c e
  exact absurd (Nat.lt_of_lt_of_le q.lt (by rw [z];exact hb)) (Nat.lt_irrefl _)
 ·exact absurd (Nat.lt_of_lt_of_le (Heap.lt_size (I.pin p hp).1) (by rw [z];exact hb)) (Nat.lt_irrefl _)
structure Turn (P:Program)(w:World)(K:W.Frag)(tg:Expr)(J:It)(fp:List Addr)(it:Addr)(tn:Nat->Heap->Prop):Prop where
 mem:it∈fp
 obj:∀ i h,tn i h->∀ b∈fp,∃ o,h.get? b=some o/\∀ v,o.data≠.cell v
 keep:∀ i h h',tn i h->(∀ b∈fp,∀ o,h.get? b=some o->h'.get? b=some o)->tn i h'
 item:∀ (X:Cx),X.prog=P->X.w=w->X.K=K->X.calm=true->∀ (i:Nat) (pins:List (Addr×Obj)) (s:Shared) (σ:St) (H:Hp) (E:Value->Shared->Prop),Inv X pins σ H s->(∀ b∈fp,FpOk X pins H b)->tn i s.heap->J.go i H->
  wpAny (model P w) X.A (pyNext (.ref it)) (λ r s1=>∃ u,r=some u/\
   wpAny (model P w) X.A (letOwnedTupleGo tg (.ref it) u) (λ _ s2=>∃ x H',Inv X pins σ H' s2/\RelV x u/\J.yld i H x H'/\tn (i+1) s2.heap/\∀ b∈fp,H' b=none) E s1) E s
 done:∀ (X:Cx),X.prog=P->X.w=w->X.K=K->X.calm=true->∀ (i:Nat) (pins:List (Addr×Obj)) (s:Shared) (σ:St) (H:Hp) (E:Value->Shared->Prop),Inv X pins σ H s->(∀ b∈fp,FpOk X pins H b)->tn i s.heap->J.stop i H->
  wpAny (model P w) X.A (pyNext (.ref it)) (λ r s1=>r=none/\Inv X pins σ H s1) E s
 self:∀ (A:Around) (i:Nat) (s:Shared) (Q:Value->Shared->Prop) (E:Value->Shared->Prop),tn i s.heap->Q (.ref it) s->wpAny (model P w) A (pyIter (.ref it)) Q E s
abbrev TI:=St->Hp->(It->Hp->Prop)->Prop
def PIE (X:Cx)(pins:List (Addr×Obj))(σ:St)(tg:Expr)(R:It->Hp->Prop)(itv:Value)(s2:Shared):Prop :=
 ∃ (it:Addr) (fp:List Addr) (tn:Nat->Heap->Prop) (J:It) (H':Hp),itv=.ref it/\Inv X pins σ H' s2/\Turn X.prog X.w X.K tg J fp it tn/\tn 0 s2.heap/\(∀ b∈fp,FpOk X pins H' b)/\R J H'
def PI (X:Cx)(tg iter:Expr)(wi:TI):Prop :=
 ∀ (pins:List (Addr×Obj)) (s:Shared) (σ:St) (H:Hp) (R:It->Hp->Prop),Inv X pins σ H s->wi σ H R->
  wpAny (model X.prog X.w) X.A (eval iter X.env) (λ v s1=>wpAny (model X.prog X.w) X.A (pyIter v) (PIE X pins σ tg R) X.xe s1) X.xe s
theorem qbT {M:Model}{A:Around}{E:Value->Shared->Prop}{s:Shared}{tg:Expr}{it:Addr}{u:Value}{o:Obj}{n:String}{vs:Array Value}{Q:Unit->Shared->Prop}(ho:s.heap.get? it=some o)(hc:o.cls=.type n)(hd:o.data=.fields vs)
  (hn:["enumerate", "zip", "dict_itemiterator", "dict_reverseitemiterator", "odict_iterator", "itertools.zip_longest", "itertools.pairwise"].contains n=false) (hQ:Q () s):wpAny M A (letOwnedTupleGo tg (.ref it) u) Q E s:=by
 unfold letOwnedTupleGo
 cases tg<;>first
  | exact wpAny_pure hQ
  | (cases u<;>first
    | exact wpAny_pure hQ
    | (
      refine wpAny_bind (wpAny_load ho ?_)
      rw [hc,hd]
      show wpAny M A (if (["enumerate", "zip", "dict_itemiterator", "dict_reverseitemiterator", "odict_iterator", "itertools.zip_longest", "itertools.pairwise"].contains n&&vs[0]?==some (rawInt _))=true then _ else _) Q E s
      rw [if_neg (by intro h;rw [hn,Bool.false_and] at h;cases h)]
      exact wpAny_pure hQ))
def Itl (K:W.Frag)(a:Addr):It :=
 ⟨λ i H=>∃ xs x,SqL K H a xs/\xs[i]?=some x,λ i H x H'=>H'=H/\∀ xs,SqL K H a xs->xs[i]?=some x,λ i H=>∃ xs,SqL K H a xs/\xs.length<=i⟩
def Itt (K:W.Frag)(a:Addr):It :=
 ⟨λ i H=>∃ xs x,SqT K H a xs/\xs[i]?=some x,λ i H x H'=>H'=H/\∀ xs,SqT K H a xs->xs[i]?=some x,λ i H=>∃ xs,SqT K H a xs/\xs.length<=i⟩
def Itr (lo:Int)(n:Nat):It:=⟨λ i _=>i<n,λ i H x H'=>H'=H/\x=.int (lo+i),λ i _=>n<=i⟩
theorem qfK {P:Program}{w:World}{K:W.Frag}{tg:Expr}(a it:Addr):Turn P w K tg (Itl K a) [it] it (λ i h=>h.IsListIter it a i) where
 mem:=by simp
 obj:=λ i h st b hb=>by
  have e:b=it:=by simpa using hb
  subst e
  obtain ⟨o,e,c,d⟩:=st
  exact ⟨o,e,λ v z=>by rw [d] at z;cases z⟩
 keep:=λ i h h' st k=>st.at λ o e=>k it (by simp) o e
 item:=by
  intro X hP hw hK hc i pins s σ H E I hf st hg
  subst hP hw hK
  obtain ⟨xs,x,hq,hx⟩:=hg
  obtain ⟨its,rv,p,hz⟩:=I.list hq
  obtain ⟨u,hu,ru⟩:=rv.get hx
  obtain ⟨f0,f1,f2,f3,f4,f5⟩:=hf it (by simp)
  refine wpAny_pyNext_list_item st p.isList (x:=u) (by simpa using hu) λ h' st' sb=>?_
  have I1:Inv X pins σ H { s with heap:=h' }:=I.turned (t':=s.toks) (λ b o hb e=>(sb.2 b hb).trans e) f0 f1 f3 f4 f5
  obtain ⟨o,e,c,d⟩:=id st'
  exact ⟨u,rfl,qbT (s:={ s with heap:=h' }) e c d (by decide) ⟨x,H,I1,ru,⟨rfl,λ ys hy=>by rw [I.list_inj hy hq];exact hx⟩,st',λ b hb=>(hf b hb).1⟩⟩
 done:=by
  intro X hP hw hK hc i pins s σ H E I hf st hg
  subst hP hw hK
  obtain ⟨xs,hq,hx⟩:=hg
  obtain ⟨its,rv,p,hz⟩:=I.list hq
  obtain ⟨f0,f1,f2,f3,f4,f5⟩:=hf it (by simp)
  have hl:=rv.length
  exact wpAny_pyNext_list_end (I.ok.hd hc) st p.isList (by simp;omega) λ h' eb=>⟨rfl,I.turned (t':=s.toks) (λ b o hb e=>eb b o hb e) f0 f1 f3 f4 f5⟩
 self:=λ _ _ _ _ _ st h=>wpAny_pyIter_listiter st h
theorem qdC {P:Program}{w:World}{K:W.Frag}{tg:Expr}(a it:Addr):Turn P w K tg (Itt K a) [it] it (λ i h=>h.IsTupleIter it a i) where
 mem:=by simp
 obj:=λ i h st b hb=>by
  have e:b=it:=by simpa using hb
  subst e
  obtain ⟨o,e,c,d⟩:=st
  exact ⟨o,e,λ v z=>by rw [d] at z;cases z⟩
 keep:=λ i h h' st k=>st.at λ o e=>k it (by simp) o e
 item:=by
  intro X hP hw hK hc i pins s σ H E I hf st hg
  subst hP hw hK
  obtain ⟨xs,x,hq,hx⟩:=hg
  obtain ⟨its,rv,p,hz⟩:=I.tuple hq
  obtain ⟨u,hu,ru⟩:=rv.get hx
  obtain ⟨f0,f1,f2,f3,f4,f5⟩:=hf it (by simp)
  refine wpAny_pyNext_tuple_item st (show s.heap.IsTuple a its.toArray from p) (x:=u) (by simpa using hu) λ h' st' sb=>?_
  have I1:Inv X pins σ H { s with heap:=h' }:=I.turned (t':=s.toks) (λ b o hb e=>(sb.2 b hb).trans e) f0 f1 f3 f4 f5
  obtain ⟨o,e,c,d⟩:=id st'
  exact ⟨u,rfl,qbT (s:={ s with heap:=h' }) e c d (by decide) ⟨x,H,I1,ru,⟨rfl,λ ys hy=>by rw [I.tuple_inj hy hq];exact hx⟩,st',λ b hb=>(hf b hb).1⟩⟩
 done:=by
  intro X hP hw hK hc i pins s σ H E I hf st hg
  subst hP hw hK
  obtain ⟨xs,hq,hx⟩:=hg
  obtain ⟨its,rv,p,hz⟩:=I.tuple hq
  obtain ⟨f0,f1,f2,f3,f4,f5⟩:=hf it (by simp)
  have hl:=rv.length
  exact wpAny_pyNext_tuple_end (I.ok.hd hc) st (show s.heap.IsTuple a its.toArray from p) (by simp;omega) λ h' eb=>⟨rfl,I.turned (t':=s.toks) (λ b o hb e=>eb b o hb e) f0 f1 f3 f4 f5⟩
 self:=λ _ _ _ _ _ st h=>wpAny_pyIter_tupleiter st h
theorem qdB {P:Program}{w:World}{K:W.Frag}{tg:Expr}(it:Addr)(lo:Int)(n:Nat):Turn P w K tg (Itr lo n) [it] it (λ i h=>IsRangeIter h it (lo+(i:Nat)*1) ((n:Int)-(i:Nat)) 1) where
 mem:=by simp
 obj:=λ i h st b hb=>by
  have e:b=it:=by simpa using hb
  subst e
  exact ⟨_,st,λ v z=>by
   have z':Data.fields _=Data.cell v:=z
   cases z'⟩
 keep:=λ i h h' st k=>k it (by simp) _ st
 item:=by
  intro X hP hw hK hc i pins s σ H E I hf st hg
  subst hP hw hK
  obtain ⟨f0,f1,f2,f3,f4,f5⟩:=hf it (by simp)
  have W:=Walks.range (prog:=X.prog) (w:=X.w) (I.ok.hd hc) it lo 1 n
  refine W.item i s _ _ hg st λ v h' tk hv st' kk=>?_
  obtain ⟨t,rfl⟩:=hv
  have I1:Inv X pins σ H { s with heap:=h',toks:=tk }:=I.turned (λ b o hb e=>kk b o (by simpa using hb) e) f0 f1 f3 f4 f5
  refine ⟨_,rfl,qbT (s:={ s with heap:=h',toks:=tk }) (n := "range_iterator") st' rfl rfl (by decide) ⟨.int (lo+i),H,I1,⟨t,?_⟩,⟨rfl,rfl⟩,st',λ b hb=>(hf b hb).1⟩⟩
  rw [Int.mul_one]
 done:=by
  intro X hP hw hK hc i pins s σ H E I hf st hg
  subst hP hw hK
  obtain ⟨f0,f1,f2,f3,f4,f5⟩:=hf it (by simp)
  exact wpAny_pyNext_range_end (I.ok.hd hc) st (by have:n<=i:=hg;omega) λ h' eb=>⟨rfl,I.turned (t':=s.toks) (λ b o hb e=>eb b o hb e) f0 f1 f3 f4 f5⟩
 self:=λ _ _ _ _ _ st h=>wpAny_pyIter_rangeiter st h
section
variable {X:Cx}{tg:Expr}
theorem qhn {pins:List (Addr×Obj)}{σ:St}{H:Hp}{s:Shared}{R:It->Hp->Prop}{E:Value->Shared->Prop}{lo hi:Int}{t u v:Tok}{tk:Nat}(I:Inv X pins σ H s)(h1:-(2 ^ 62)<=lo)(h2:lo<2 ^ 62)(h3:-(2 ^ 62)<=hi)(h4:hi<2 ^ 62)
  (q:R (Itr lo (hi-lo).toNat) H):wpAny (model X.prog X.w) X.A (pyIter (.ref s.heap.objs.size)) (PIE X pins σ tg R) E { s with heap:=s.heap.push { cls:=.type "range", data:=.fields #[.int lo t,.int hi u,.int 1 v] },toks:=tk }:=by
 refine wpAny_pyIter_range (IsRange.new ..) (small_one h1 h2 h3 h4) ?_
 have I1:Inv X pins σ H { s with heap:=s.heap.push { cls:=.type "range", data:=.fields #[.int lo t,.int hi u,.int 1 v] },toks:=tk }:=I.kept λ b o e=>Heap.get?_push_of_some _ e
 refine ⟨(s.heap.push { cls:=.type "range", data:=.fields #[.int lo t,.int hi u,.int 1 v] }).objs.size,[(s.heap.push { cls:=.type "range", data:=.fields #[.int lo t,.int hi u,.int 1 v] }).objs.size],_,_,H,rfl,
  I1.kept (t':=tk) λ b o e=>Heap.get?_push_of_some _ e,qdB _ lo (hi-lo).toNat,?_,λ b hb=>?_,q⟩
 ·have e1:lo+((0:Nat):Int)*1=lo:=by simp
  have e2:(((hi-lo).toNat:Nat):Int)-((0:Nat):Int)=Builtin.Range.rangeSize lo hi 1:=by rw [rangeSize_one];split<;>omega
  show IsRangeIter _ _ (lo+((0:Nat):Int)*1) ((((hi-lo).toNat:Nat):Int)-((0:Nat):Int)) 1
  rw [e1,e2]
  exact Heap.get?_push_size _ rfl
 ·have e:b=(s.heap.push { cls:=.type "range", data:=.fields #[.int lo t,.int hi u,.int 1 v] }).objs.size:=by simpa using hb
  subst e
  exact I1.fpOk (Nat.le_refl _) (I1.hok.fresh (Nat.le_refl _))
def iRng1 (ta:TA):TI:=λ σ H R=>ta σ H λ vs H1=>∃ j:Int,vs=[.int j]/\-(2 ^ 62)<=j/\j<2 ^ 62/\R (Itr 0 j.toNat) H1
theorem qau {a:Expr}{ta:TA}{p pos:Pos}(hg:Gl X "range")(hm:X.mg "range" = none)(ha:PA X [a] ta)(hs:starEach [a] X.env=[(false,eval a X.env)]:=by rfl):PI X tg (.Call (.Name "range" p) [a] [] pos) (iRng1 ta):=by
 intro pins s σ H R I h
 refine Call_ (ye I hg hm boot_range (PyProof.Rows.callWith_type1 (thn (ha pos pins s σ H _ I h) λ us s1 ⟨vs,H1,I1,r1,q1⟩=>?_) hs rfl))
 obtain ⟨j,e,q1,q2,q⟩:=q1
 subst e
 cases r1 with
 | cons r rr =>
  cases rr
  obtain ⟨t,rfl⟩:=r
  exact call_range_1 (qhn I1 (by omega) (by omega) q1 q2 (by simpa using q))
def tFor (wi:TI)(g:TG)(tb:TS):TS:=λ D σ H=>wi σ H λ J H1=>∃ W:Nat->Nat->St->Hp->Prop,(∃ m,W 0 m σ H1)/\∀ i m σ H,W i m σ H->
 (J.stop i H/\D.nx σ H)\/(J.go i H/\∃ N:St->Hp->Prop,(∀ σ' H',N σ' H'->∃ m',m'<m/\W (i+1) m' σ' H')/\∀ x H',J.yld i H x H'->g x σ H' λ σ2 H2=>tb { D with nx:=N,ct:=N,bk:=D.nx } σ2 H2)
def ZZ (fp:List Addr)(h:Heap):List (Addr×Obj):=fp.filterMap λ b=>(h.get? b).map λ o=>(b,o)
theorem ZG {fp:List Addr}{h:Heap}{b:Addr}{o:Obj}(hb:b∈fp)(e:h.get? b=some o):(b,o)∈ZZ fp h:=List.mem_filterMap.mpr ⟨b,hb,by rw [e];rfl⟩
theorem YB {fp:List Addr}{h:Heap}{p:Addr×Obj}(hp:p∈ZZ fp h):p.1∈fp/\h.get? p.1=some p.2:=by
 obtain ⟨b,hb,e⟩:=List.mem_filterMap.mp hp
 cases q:h.get? b with
 | none=>rw [q] at e;cases e
 | some o =>
  rw [q] at e
  have e':(b,o)=p:=Option.some.inj e
  subst e'
  exact ⟨hb,q⟩
theorem Inv.pinned {pins:List (Addr×Obj)}{σ:St}{H:Hp}{s:Shared}{fp:List Addr}(I:Inv X pins σ H s)(hf:∀ b∈fp,FpOk X pins H b)(ho:∀ b∈fp,∃ o,s.heap.get? b=some o/\∀ v,o.data≠.cell v):Inv X (pins++ZZ fp s.heap) σ H s :=
 I.pins_of λ p hp=>(List.mem_append.mp hp).elim (λ z=>I.pin p (List.mem_append_right _ z)) λ z=>by
  obtain ⟨hb,e⟩:=YB z
  obtain ⟨f0,f1,f2,_⟩:=hf p.1 hb
  obtain ⟨o,e',d⟩:=ho p.1 hb
  rw [e] at e';cases e'
  exact ⟨e,f0,f1,f2,d⟩
theorem Inv.unpinned {pins pl:List (Addr×Obj)}{σ:St}{H:Hp}{s:Shared}(I:Inv X (pins++pl) σ H s):Inv X pins σ H s:=I.pins_of λ p hp=>I.pin p (List.mem_append_right _ (List.mem_append_left _ hp))
theorem qhj {iter:Expr}{body:List Stmt}{wi:TI}{g:TG}{tb:TS}{pos:Pos}(hp:PassesOwn (model X.prog X.w) X.A X.env X.xe)(hc:X.calm=true)(hi:PI X tg iter wi)(hg:PG X tg g)(hb:PSs X body tb)
  (hs:∀ x,foldedSetIterable iter X.env x=pure x:=by intro _;rfl):PS X (.For tg iter body [] pos) (tFor wi g tb):=by
 intro pins s σ H D I h
 refine wpAny_For (thn (hi pins s σ H _ I h) λ v s1 h1=>thn h1 λ itv s2 h2=>?_) hs
 obtain ⟨it,fp,tn,J,H2,e,I2,T,st2,f2,W,⟨m0,w0⟩,turn⟩:=h2
 subst e
 have stat:∀ {H':Hp},(∀ b∈fp,H' b=none)->∀ b∈fp,FpOk X pins H' b:=λ hn b hb=>⟨hn b hb,(f2 b hb).2⟩
 refine codeAny_forLoop_any (λ n s'=>∃ i σ' H',Inv X pins σ' H' s'/\tn i s'.heap/\(∀ b∈fp,H' b=none)/\W i n σ' H') ?_ m0 ⟨0,σ,H2,I2,st2,λ b hb=>(f2 b hb).1,w0⟩
 rintro n s3 ⟨i,σ3,H3,I3,st3,fr3,w3⟩
 rcases turn i n σ3 H3 w3 with ⟨stop,qn⟩|⟨go,N,hN,step⟩
 ·refine wpAny_passesOwn hp (thn (T.done X rfl rfl rfl hc i pins s3 σ3 H3 X.xe I3 (stat fr3) st3 stop) λ r s4 ⟨hr,I4⟩=>?_)
  subst hr
  exact wpAny_execs_nil ⟨σ3,H3,I4,qn⟩
 ·refine wpAny_passesOwn hp (thn (T.item X rfl rfl rfl hc i pins s3 σ3 H3 X.xe I3 (stat fr3) st3 go) λ r s4 ⟨u,hr,h4⟩=>?_)
  subst hr
  refine wpAny_passesOwn hp (thn h4 λ _ s5 ⟨x,H5,I5,r5,y5,st5,fr5⟩=>?_)
  have I5':=I5.pinned (stat fr5) (T.obj _ _ st5)
  refine wpAny_passesOwn hp (thn (hg _ s5 σ3 H5 x u _ I5' r5 (step x H5 y5)) λ _ s6 ⟨σ6,H6,I6,q6⟩=>?_)
  refine wpAny_passesOwn hp (thn (hb _ s6 σ6 H6 _ I6 q6) λ f s7 q7=>?_)
  have again:∀ {σ7:St} {H7:Hp},Inv X (pins++ZZ fp s5.heap) σ7 H7 s7->N σ7 H7->∃ m,m<n/\∃ i σ' H',Inv X pins σ' H' s7/\tn i s7.heap/\(∀ b∈fp,H' b=none)/\W i m σ' H':=λ {σ7 H7} I7 n7=>by
   obtain ⟨m',hm,w7⟩:=hN σ7 H7 n7
   refine ⟨m',hm,i+1,σ7,H7,I7.unpinned,T.keep _ _ _ st5 λ b hb o e=>(I7.pin (b,o) (List.mem_append_right _ (List.mem_append_right _ (ZG hb e)))).1,λ b hb=>?_,w7⟩
   obtain ⟨o,e,d⟩:=T.obj _ _ st5 b hb
   exact (I7.pin (b,o) (List.mem_append_right _ (List.mem_append_right _ (ZG hb e)))).2.1
  cases f with
  | next=>obtain ⟨σ7,H7,I7,n7⟩:=q7;exact again I7 n7
  | cont=>obtain ⟨σ7,H7,I7,n7⟩:=q7;exact again I7 n7
  | brk=>obtain ⟨σ7,H7,I7,q7⟩:=q7;exact ⟨σ7,H7,I7.unpinned,q7⟩
  | ret v=>obtain ⟨x7,σ7,H7,I7,r7,q7⟩:=q7;exact ⟨x7,σ7,H7,I7.unpinned,r7,q7⟩
end
abbrev R2:=V->V->Hp->VK->Prop
def OpR (X:Cx)(f:Value->Value->Sem Value)(r:R2):Prop :=
 ∀ (pins:List (Addr×Obj)) (s:Shared) (σ:St) (H:Hp) (x y:V) (v u:Value) (Q:VK),Inv X pins σ H s->RelV x v->RelV y u->r x y H Q->
  wpAny (model X.prog X.w) X.A (f v u) (EP X pins σ Q) X.xe s
def UnR (X:Cx)(f:Value->Sem Value)(r:V->Hp->VK->Prop):Prop :=
 ∀ (pins:List (Addr×Obj)) (s:Shared) (σ:St) (H:Hp) (x:V) (v:Value) (Q:VK),Inv X pins σ H s->RelV x v->r x H Q->
  wpAny (model X.prog X.w) X.A (f v) (EP X pins σ Q) X.xe s
def jo (X:Cx)(f:Value)(r:List V->Hp->VK->Prop):Prop :=
 ∀ (pins:List (Addr×Obj)) (s:Shared) (σ:St) (H:Hp) (xs:List V) (us:List Value) (Q:VK),Inv X pins σ H s->Vals xs us->r xs H Q->
  wpAny (model X.prog X.w) X.A (call f us) (EP X pins σ Q) X.xe s
def tOp (r:R2)(ta tb:TE):TE:=λ σ H Q=>ta σ H λ x H1=>tb σ H1 λ y H2=>r x y H2 Q
def tUn (r:V->Hp->VK->Prop)(ta:TE):TE:=λ σ H Q=>ta σ H λ x H1=>r x H1 Q
def rI (C:Int->Int->Prop)(g:Int->Int->V):R2:=λ x y H Q=>∃ i j,x=.int i/\y=.int j/\C i j/\Q (g i j) H
def rI0 (g:Int->Int->V):R2:=λ x y H Q=>∃ i j,x=.int i/\y=.int j/\Q (g i j) H
def rU (g:Int->V):V->Hp->VK->Prop:=λ x H Q=>∃ i,x=.int i/\Q (g i) H
section
variable {X:Cx}{a b c:Expr}{ta tb tc:TE}{pos:Pos}
theorem binT (ha:PE X a ta)(hb:PE X b tb){pins:List (Addr×Obj)}{s:Shared}{σ:St}{H:Hp}{R:V->V->Hp->Prop}(I:Inv X pins σ H s)
  (h:ta σ H λ x H1=>tb σ H1 λ y H2=>R x y H2) {Q:Value->Shared->Prop} {f:Value->Value->Sem Value}
  (hf:∀ v u s2 x y H2,Inv X pins σ H2 s2->RelV x v->RelV y u->R x y H2->wpAny (model X.prog X.w) X.A (f v u) Q X.xe s2) :
  wpAny (model X.prog X.w) X.A (eval a X.env) (λ v s₁=>wpAny (model X.prog X.w) X.A (eval b X.env) (λ u s₂=>wpAny (model X.prog X.w) X.A (f v u) Q X.xe s₂) X.xe s₁) X.xe s:=by
 refine thn (ha pins s σ H _ I h) λ v s1 ⟨x,H1,I1,r1,q1⟩=>?_
 refine thn (hb pins s1 σ H1 _ I1 q1) λ u s2 ⟨y,H2,I2,r2,q2⟩=>?_
 exact hf v u s2 x y H2 I2 r1 r2 q2
theorem pe_op {op:Operator}{r:R2}(ho:OpR X (binaryOp op) r)(ha:PE X a ta)(hb:PE X b tb):PE X (.BinOp a op b pos) (tOp r ta tb):=by
 intro pins s σ H Q I h
 exact wpAny_BinOp (binT ha hb I h λ v u s2 x y H2 I2 rx ry q=>ho pins s2 σ H2 x y v u Q I2 rx ry q)
theorem pe_un {op:UnaryOp}{r:V->Hp->VK->Prop}(ho:UnR X (unaryOp op) r)(ha:PE X a ta):PE X (.UnaryOp op a pos) (tUn r ta):=by
 intro pins s σ H Q I h
 exact UnaryOp_ (thn (ha pins s σ H _ I h) λ v s1 ⟨x,H1,I1,r1,q1⟩=>ho pins s1 σ H1 x v Q I1 r1 q1)
theorem opI {f:Value->Value->Sem Value}{C:Int->Int->Prop}{g:Int->Int->Int}
  (rule:∀ (i j:Int) (t u:Tok) (s:Shared) (Q:Value->Shared->Prop) (E:Value->Shared->Prop),C i j->Q (.int (g i j) s.toks) { s with toks:=s.toks+1 }->wpAny (model X.prog X.w) X.A (f (.int i t) (.int j u)) Q E s) :
  OpR X f (rI C λ i j=>.int (g i j)):=by
 intro pins s σ H x y v u Q I rx ry h
 obtain ⟨i,j,rfl,rfl,hc,q⟩:=h
 obtain ⟨t,rfl⟩:=rx
 obtain ⟨t',rfl⟩:=ry
 exact rule i j t t' s _ _ hc ⟨.int (g i j),H,I.tok _,⟨_,rfl⟩,q⟩
theorem opI0 {f:Value->Value->Sem Value}{g:Int->Int->Int}
  (rule:∀ (i j:Int) (t u:Tok) (s:Shared) (Q:Value->Shared->Prop) (E:Value->Shared->Prop),Q (.int (g i j) s.toks) { s with toks:=s.toks+1 }->wpAny (model X.prog X.w) X.A (f (.int i t) (.int j u)) Q E s) :
  OpR X f (rI0 λ i j=>.int (g i j)):=by
 intro pins s σ H x y v u Q I rx ry h
 obtain ⟨i,j,rfl,rfl,q⟩:=h
 obtain ⟨t,rfl⟩:=rx
 obtain ⟨t',rfl⟩:=ry
 exact rule i j t t' s _ _ ⟨.int (g i j),H,I.tok _,⟨_,rfl⟩,q⟩
theorem opB0 {f:Value->Value->Sem Value}{g:Int->Int->Bool}
  (rule:∀ (i j:Int) (t u:Tok) (s:Shared) (Q:Value->Shared->Prop) (E:Value->Shared->Prop),Q (.bool (g i j)) s->wpAny (model X.prog X.w) X.A (f (.int i t) (.int j u)) Q E s) :
  OpR X f (rI0 λ i j=>.bl (g i j)):=by
 intro pins s σ H x y v u Q I rx ry h
 obtain ⟨i,j,rfl,rfl,q⟩:=h
 obtain ⟨t,rfl⟩:=rx
 obtain ⟨t',rfl⟩:=ry
 exact rule i j t t' s _ _ ⟨.bl (g i j),H,I,rfl,q⟩
def CDiv (i j:Int):Prop:=0<j/\j<1073741824
def CPow (i j:Int):Prop:=0<=j/\j<=1000000/\i.natAbs<2 ^ 64
def CMul (i j:Int):Prop:=(-(2 ^ 64)<i/\i<2 ^ 64)\/(-(2 ^ 64)<j/\j<2 ^ 64)
theorem CMul.ok {i j:Int}(h:CMul i j):IntMulOk i j:=by
 rcases h with ⟨h1,h2⟩|⟨h1,h2⟩
 ·exact .of_left (intBits_le_64 h1 h2)
 ·exact .of_right (intBits_le_64 h1 h2)
theorem qkl:OpR X (binaryOp .Add) (rI0 λ i j=>.int (i+j)):=opI0 λ _ _ _ _ _ _ _ q=>add_int q
theorem qkq:OpR X (binaryOp .Sub) (rI0 λ i j=>.int (i-j)):=opI0 λ _ _ _ _ _ _ _ q=>sub_int q
theorem qiE:OpR X (binaryOp .FloorDiv) (rI CDiv λ i j=>.int (i / j)):=opI λ i j _ _ _ _ _ hc q=>by
 have h1:(0:Int)<j:=hc.1
 have h2:j<1073741824:=hc.2
 exact floordiv_int (by omega) (by rw [Int.fdiv_eq_ediv_of_nonneg i (by omega)];exact q) (.inl (PyProof.noPylong_small (by omega)))
theorem qkn:OpR X (binaryOp .Mod) (rI (λ _ j=>0<j) λ i j=>.int (i % j)):=opI λ i j _ _ _ _ _ hc q=>by
 have h1:(0:Int)<j:=hc
 exact mod_int' (by omega) (by rw [Int.fmod_eq_emod_of_nonneg i (by omega)];exact q)
theorem qkp:OpR X (binaryOp .Pow) (rI CPow λ i j=>.int (i ^ j.toNat)):=opI λ _ _ _ _ _ _ _ hc q=>pow_int_small hc.1 hc.2.1 hc.2.2 q
theorem unI {f:Value->Sem Value}{g:Int->Int}
  (rule:∀ (i:Int) (t:Tok) (s:Shared) (Q:Value->Shared->Prop) (E:Value->Shared->Prop),Q (.int (g i) s.toks) { s with toks:=s.toks+1 }->wpAny (model X.prog X.w) X.A (f (.int i t)) Q E s) :
  UnR X f (rU λ i=>.int (g i)):=by
 intro pins s σ H x v Q I rx h
 obtain ⟨i,rfl,q⟩:=h
 obtain ⟨t,rfl⟩:=rx
 exact rule i t s _ _ ⟨.int (g i),H,I.tok _,⟨_,rfl⟩,q⟩
theorem qla:UnR X (unaryOp .USub) (rU λ i=>.int (-i)):=unI λ _ _ _ _ _ q=>neg_int q
end
section
variable {X:Cx}{a b c:Expr}{ta tb tc:TE}{pos:Pos}
theorem jX {pins:List (Addr×Obj)}{σ:St}{H:Hp}{s:Shared}{Q:VK}{k k':Bool}(I:Inv X pins σ H s)(q:Q (.bl k) H)(e:k=k'):EP X pins σ Q (.bool k') s:=by
 subst e
 exact ⟨.bl k,H,I,rfl,q⟩
theorem op_le:OpR X (compareOp .LtE) (rI0 λ i j=>.bl (decide (i<=j))):=opB0 λ _ _ _ _ _ _ _ q=>le_int q
theorem op_gt:OpR X (compareOp .Gt) (rI0 λ i j=>.bl (decide (j<i))):=opB0 λ _ _ _ _ _ _ _ q=>gt_int q
theorem qiG:OpR X (compareOp .IsNot) (λ x y H Q=>y=.non/\Q (.bl (!decide (x=.non))) H):=by
 intro pins s σ H x y v u Q I rx ry h
 obtain ⟨rfl,q⟩:=h
 cases ry
 refine isnot_none_gen (jX I q ?_)
 cases x<;>first
  | (cases rx;rfl)
  | (obtain ⟨t,rfl⟩:=rx;rfl)
theorem OpR.or {f:Value->Value->Sem Value}{r r':R2}(h:OpR X f r)(h':OpR X f r'):OpR X f (λ x y H Q=>r x y H Q\/r' x y H Q):=by
 intro pins s σ H x y v u Q I rx ry q
 rcases q with q|q
 ·exact h pins s σ H x y v u Q I rx ry q
 ·exact h' pins s σ H x y v u Q I rx ry q
theorem zr (b:Expr){op:CmpOp}(h:op≠.In:=by decide)(h2:op≠.NotIn:=by decide):behindInMarks op b=false:=by
 have e1:(op==CmpOp.In)=false:=by cases op<;>first|rfl|exact absurd rfl h
 have e2:(op==CmpOp.NotIn)=false:=by cases op<;>first|rfl|exact absurd rfl h2
 cases b<;>simp [behindInMarks,e1,e2]
theorem qiP {op:CmpOp}{r:R2}(ho:OpR X (compareOp op) r)(ha:PE X a ta)(hb:PE X b tb)(hm:behindInMarks op b=false):PE X (.Compare a [op] [b] pos) (tOp r ta tb):=by
 intro pins s σ H Q I h
 exact wpAny_Compare1 (binT ha hb I h λ v u s2 x y H2 I2 rx ry q=>ho pins s2 σ H2 x y v u Q I2 rx ry q) hm
def qjD (t:TE):TT:=λ σ H Q=>t σ H λ x H'=>∃ k,x=.bl k/\Q k H'
theorem qi1 {op:CmpOp}{r:R2}(ho:OpR X (compareOp op) r)(ha:PE X a ta)(hb:PE X b tb)(hm:behindInMarks op b=false):PT X (.Compare a [op] [b] pos) (qjD (tOp r ta tb)):=by
 intro pins s σ H Q I h
 refine wpAny_isTrue_Compare1 (thn (ha pins s σ H _ I h) λ v s1 ⟨x,H1,I1,r1,q1⟩=>thn (hb pins s1 σ H1 _ I1 q1) λ u s2 ⟨y,H2,I2,r2,q2⟩ =>
  thn (ho pins s2 σ H2 x y v u _ I2 r1 r2 q2) λ c s3 ⟨z,H3,I3,r3,k,e,q3⟩=>?_) hm
 subst e
 cases r3
 exact wpAny_truthy_bool ⟨H3,I3,q3⟩
theorem qbb:(sizeLine:Nat)<2 ^ 63:=by rw [sizeLine_eq];decide
theorem vals1 {x:V}{us:List Value}(r:Vals [x] us):∃ u,us=[u]/\RelV x u:=by
 cases r with
 | cons r1 r2=>cases r2;exact ⟨_,rfl,r1⟩
theorem qeV:jo X (.type "int") (λ xs H Q=>(∃ i,xs=[.int i]/\Q (.int i) H)\/∃ k,xs=[.bl k]/\Q (.int (if k then 1 else 0)) H):=by
 intro pins s σ H xs us Q I r h
 rcases h with ⟨i,rfl,q⟩|⟨k,rfl,q⟩
 ·obtain ⟨u,rfl,t,rfl⟩:=vals1 r
  exact call_int_int ⟨.int i,H,I,⟨_,rfl⟩,q⟩
 ·obtain ⟨u,rfl,r1⟩:=vals1 r
  cases r1
  exact call_int_bool ⟨.int (if k then 1 else 0),H,I.tok _,⟨_,rfl⟩,q⟩
end
structure Room (k:Nat)(A:Around):Prop where
 hd:A.handled=none
 dp:A.depth+3*k+5<recursionLimit
 un:A.units+16*k+200<cLine
theorem Room.mono {j k:Nat}{A:Around}(r:Room k A)(h:j<=k):Room j A:=⟨r.hd,by have:=r.dp;omega,by have:=r.un;omega⟩
theorem Room.deeper {k:Nat}{A:Around}(r:Room (k+1) A)(env:Env):Room k (A.deeper env) :=
 ⟨r.hd,by have:=r.dp;show A.depth+1+3*k+5<_;omega,by have:=r.un;show A.units+3+16*k+200<_;omega⟩
theorem Room.depth {k:Nat}{A:Around}(r:Room k A):A.depth<recursionLimit:=by have:=r.dp;omega
theorem Room.units {k:Nat}{A:Around}(r:Room k A):A.units+64<cLine:=by have:=r.un;omega
def tNil:TA:=λ _ H Q=>Q [] H
def qjC (ta:TE)(tr:TA):TA:=λ σ H Q=>ta σ H λ x H1=>tr σ H1 λ xs H2=>Q (x::xs) H2
section
variable {X:Cx}{e:Expr}{es:List Expr}{te:TE}{t:TA}{pos:Pos}
theorem qg3:PA X [] tNil:=λ _ _ _ _ H Q I h=>Calls.spliced_nil ⟨[],H,I,.nil,h⟩
theorem qbf (ha:PE X e te)(hr:PA X es t)(hs:starEach (e::es) X.env=(false,eval e X.env)::starEach es X.env:=by rfl):PA X (e::es) (qjC te t):=by
 intro pos pins s σ H Q I h
 rw [hs]
 show wpAny _ _ (spliced ((false,eval e X.env)::backTo pos (starEach es X.env))) _ _ s
 refine Calls.spliced_cons (thn (ha pins s σ H _ I h) λ u s1 ⟨x,H1,I1,r1,q1⟩=>?_)
 exact thn (hr pos pins s1 σ H1 _ I1 q1) λ us s2 ⟨xs,H2,I2,r2,q2⟩=>⟨x::xs,H2,I2,.cons r1 r2,q2⟩
def tTup (t:TA):TE:=λ σ H Q=>t σ H λ xs H1=>xs.length<=sizeLine/\∀ p,H1 p=none->Q (.ref p) (upd H1 p (.tup xs))
def tLst (t:TA):TE:=λ σ H Q=>t σ H λ xs H1=>xs.length<=sizeLine/\∀ p,H1 p=none->Q (.ref p) (upd H1 p (.lst xs))
theorem qkA {x1}(h:PA X es t):PE X (.Tuple es x1 pos) (tTup t):=by
 intro pins s σ H Q I hq
 refine wpAny_Tuple_spliced (thn (h pos pins s σ H _ I hq) λ us s1 ⟨xs,H1,I1,r,z,q⟩=>⟨by rw [← r.length];exact z,?_⟩)
 have hf:H1 s1.heap.objs.size=none:=I1.hok.fresh (Nat.le_refl _)
 refine ⟨.ref s1.heap.objs.size,upd H1 s1.heap.objs.size (.tup xs),I1.laid (t':=s1.toks) (λ b u e=>Heap.get?_push_of_some _ e) (Nat.le_refl _) ?_,rfl,q _ hf⟩
 exact ⟨z,us,r,⟨_,Heap.get?_push_size _ rfl,rfl,_,rfl⟩⟩
theorem qhc (h:PA X es t):PE X (.List es pos) (tLst t):=by
 intro pins s σ H Q I hq
 refine wpAny_List_spliced (thn (h pos pins s σ H _ I hq) λ us s1 ⟨xs,H1,I1,r,z,q⟩=>⟨by rw [← r.length];exact z,?_⟩)
 have hf:H1 s1.heap.objs.size=none:=I1.hok.fresh (Nat.le_refl _)
 refine ⟨.ref s1.heap.objs.size,upd H1 s1.heap.objs.size (.lst xs),I1.laid (t':=s1.toks) (λ b u e=>Heap.get?_push_of_some _ e) (Nat.le_refl _) ?_,rfl,q _ hf⟩
 exact ⟨z,us,0,r,Heap.get?_push_size _ rfl⟩
end
abbrev Sp:=List V->Hp->VK->XK->Prop
abbrev CXT:=List Env->Hp->Shared->XK->Value->Shared->Prop
structure Env0 (P:Program)(w:World)(K:W.Frag)(mg:Str->Option Value)(base:Heap)(A:Around)(outer:List Env)(s:Shared)(H:Hp):Prop where
 frames:A.frames=some outer
 mod:Mod K mg base
 bs:∀ b o,base.get? b=some o->s.heap.get? b=some o/\H b=none
 bsz:base.objs.size<=s.heap.objs.size
 funs:s.heap.FunFrames base outer
 frf:∀ b∈frs outer,H b=none
 hok:HOk P w H s.heap
 bare:AllBare s.gens
def CE (outer:List Env)(P:Program)(w:World)(H:Hp)(s:Shared)(Q:VK)(u:Value)(s':Shared):Prop :=
 ∃ v H',s'.os=s.os/\AllBare s'.gens/\Un (frs outer) [] H H' s.heap s'.heap/\HOk P w H' s'.heap/\RelV v u/\Q v H'
def CR (CX:CXT)(outer:List Env)(P:Program)(w:World)(H:Hp)(s:Shared)(Q:VK)(E:XK)(r:Result)(s':Shared):Prop :=
 match r with
 | .ok (.ret u)=>CE outer P w H s Q u s'
 | .ok _=>False
 | .error e=>CX outer H s E e s'
structure FnOk (P:Program)(w:World)(K:W.Frag)(mg:Str->Option Value)(base:Heap)(CX:CXT)(k:Nat)(f:Addr)(fd:FuncData)(ps:List Str)(sp:Sp):Prop where
 len:∀ vs H Q E,sp vs H Q E->vs.length=ps.length
 run:∀ (A:Around) (outer:List Env) (s:Shared) (H:Hp) (args:Args) (us:List Value) (vs:List V) (Q:VK) (E:XK),Room k A->Env0 P w K mg base A outer s H->BindsTo s fd args (ps.zip us)->Vals vs us->sp vs H Q E->
  codeAny (model P w) A (.call (.ref f) args) (CR CX outer P w H s Q E) s
theorem FnOk.imp {P:Program}{w:World}{K:W.Frag}{mg:Str->Option Value}{base:Heap}{CX:CXT}{k:Nat}{f:Addr}{fd:FuncData}{ps:List Str}{sp sp':Sp}(F:FnOk P w K mg base CX k f fd ps sp)
  (h:∀ vs H Q E,sp' vs H Q E->sp vs H Q E):FnOk P w K mg base CX k f fd ps sp' :=
 ⟨λ vs H Q E q=>F.len vs H Q E (h _ _ _ _ q),λ A outer s H args us vs Q E hr he hb hv hs=>F.run A outer s H args us vs Q E hr he hb hv (h _ _ _ _ hs)⟩
section
variable {X:Cx}{pins:List (Addr×Obj)}{σ:St}{H:Hp}{s s':Shared}
theorem Inv.env0 (I:Inv X pins σ H s):Env0 X.prog X.w X.K X.mg X.base X.A X.stack s H :=
 ⟨I.ok.frames,I.ok.mod,I.bs,Nat.le_trans I.ok.bsz I.sz,I.stack,I.stkFree,I.hok,I.bare⟩
theorem Inv.after {Q:VK}{u:Value}(I:Inv X pins σ H s)(h:CE X.stack X.prog X.w H s Q u s'):EP X pins σ Q u s':=by
 obtain ⟨v,H',os,bare,un,hok,r,q⟩:=h
 obtain ⟨hh,g,d,t,os'⟩:=s'
 obtain rfl:os'=s.os:=os
 exact ⟨v,H',I.call (h':=hh) (g':=g) (d':=d) (t':=t) (ch:=[]) un hok bare (λ b z=>absurd z (by simp)),r,q⟩
end
def tCall (sp:Sp)(dvs:List V)(E:XK)(t:TA):TE:=λ σ H Q=>t σ H λ vs H1=>sp (vs++dvs) H1 Q E
def Binds (K:W.Frag)(fd:FuncData)(ps:List Str)(ds:List Value):Prop :=
 ∀ (s:Shared) (us:List Value),K.In s.heap->(us++ds).length=ps.length->BindsTo s fd ⟨us,[]⟩ (ps.zip (us++ds))
theorem Binds.all {K:W.Frag}{fd:FuncData}{ps:List Str}(h:∀ us:List Value,us.length=ps.length->bindArgs fd ⟨us,[]⟩=pure (ps.zip us)):Binds K fd ps []:=λ s us _ hl=>by
 rw [List.append_nil] at hl ⊢
 exact .of_eq (h us hl)
def qaI (CX:CXT)(X:Cx)(E:XK):Prop:=∀ (pins:List (Addr×Obj)) (σ:St) (H:Hp) (s:Shared) (e:Value) (s':Shared),Inv X pins σ H s->CX X.stack H s E e s'->X.xe e s'
section
variable {X:Cx}{CX:CXT}{k:Nat}{f C:Addr}{fd:FuncData}{ps:List Str}{sp:Sp}{dvs:List V}{ds:List Value}{E:XK}{x m:Str}{p pos apos:Pos}{e o:Expr}{es:List Expr}{ta:TE}{t:TA}
theorem qkN {pins:List (Addr×Obj)}{σ:St}{H:Hp}{s:Shared}{Q:VK}{us:List Value}{vs:List V}(F:FnOk X.prog X.w X.K X.mg X.base CX k f fd ps sp)(hr:Room k X.A)(hb:Binds X.K fd ps ds)(hd:Vals dvs ds)(hx:qaI CX X E)
  (I:Inv X pins σ H s) (r:Vals vs us) (h:sp (vs++dvs) H Q E):wpAny (model X.prog X.w) X.A (call (.ref f) us) (EP X pins σ Q) X.xe s:=by
 have r2:Vals (vs++dvs) (us++ds):=r.append hd
 have hl:(us++ds).length=ps.length:=by rw [← r2.length];exact F.len _ _ _ _ h
 refine wpAny_call (codeAny_mono (F.run X.A X.stack s H ⟨us,[]⟩ (us++ds) (vs++dvs) Q E hr I.env0 (hb s us I.kIn hl) r2 h) λ r s' hq=>?_)
 cases r with
 | error e=>exact hx pins σ H s e s' I hq
 | ok fl =>
  cases fl with
  | ret u=>exact I.after hq
  | next=>exact False.elim hq
  | brk=>exact False.elim hq
  | cont=>exact False.elim hq
theorem qiO (F:FnOk X.prog X.w X.K X.mg X.base CX k f fd ps sp)(hr:Room k X.A)(hg:Gl X x)(hm:X.mg x=some (.ref f))(hk:W.keepIn X.K (.ref f)=true)(hb:Binds X.K fd ps ds)(hd:Vals dvs ds)(hx:qaI CX X E)
  (ha:PA X (e::es) t) (hdb:(x==("__debug__" : Str))=false:=by decide) (he:starEach (e::es) X.env=(false,eval e X.env)::starEach es X.env:=by rfl) (hpl:(backTo pos (starEach es X.env)).any (·.1)=false:=by rfl) :
  PE X (.Call (.Name x p) (e::es) [] pos) (tCall sp dvs E t):=by
 intro pins s σ H Q I h
 refine wpAny_Call_Name_kw (qel I hg hm ?_ hdb)
 refine W.callWith_K (h₀:=X.base) I.ok.mod.kin hk (thn (ha pos pins s σ H _ I h) λ us s1 ⟨vs,H1,I1,r,q⟩=>⟨I1.kIn,?_⟩) he hpl
 exact qkN F hr hb hd hx I1 r q
end
def PK (X:Cx)(kws:List Keyword)(t:TA):Prop :=
 ∀ (pos:Pos) (pins:List (Addr×Obj)) (s:Shared) (σ:St) (H:Hp) (Q:List V->Hp->Prop),Inv X pins σ H s->t σ H Q->wpAny (model X.prog X.w) X.A (evalAll ((backToKw pos (keywordEach kws X.env)).map (·.2))) (AP X pins σ Q) X.xe s
section
variable {X:Cx}{CX:CXT}{k:Nat}{f C:Addr}{fd:FuncData}{ps ks:List Str}{sp:Sp}{E:XK}{x m:Str}{p pos apos kpos:Pos}{e o:Expr}{es:List Expr}{kws:List Keyword}{te ta:TE}{t tk:TA}{nm:Option Str}
theorem qkC:PK X [] tNil:=λ _ _ _ _ H Q I h=>wpAny_evalAll_nil ⟨[],H,I,.nil,h⟩
theorem qiU (ha:PE X e te)(hr:PK X kws t):PK X (⟨nm,e,kpos⟩::kws) (qjC te t):=by
 intro pos pins s σ H Q I h
 show wpAny _ _ (evalAll ((do let v ← eval e X.env;standAt pos;pure v)::(backToKw pos (keywordEach kws X.env)).map (·.2))) _ _ s
 refine wpAny_evalAll_cons (wpAny_bind (thn (ha pins s σ H _ I h) λ u s1 ⟨x,H1,I1,r1,q1⟩=>wpAny_bind (wpAny_standAt (wpAny_pure ?_))))
 exact thn (hr pos pins s1 σ H1 _ I1 q1) λ us s2 ⟨xs,H2,I2,r2,q2⟩=>⟨x::xs,H2,I2,.cons r1 r2,q2⟩
variable {g:List Value->List Value->List Value}{gV:List V->List V->List V}
end
structure FnScope (N P:List Str)(sc:Scope):Prop where
 kind:sc.kind=.function
 co:sc.isCoroutine=false
 gen:sc.isGenerator=false
 nd:N.Nodup
 pre:N.take P.length=P
 par:∀ x∈P,sc.names.lookup x=some .local\/sc.names.lookup x=some .cell
 nofree:∀ y∈sc.names,y.2≠.free
theorem W6 {kindOf:Str->Option NameKind}{x:Str}:∀ {binds:List (Str×Value)} {m:Str->Option Value},(∀ v,(x,v)∉binds)->bindL kindOf binds m x=m x
 | [],_,_=>rfl
 | (n,v)::r,m,h=>by
  unfold bindL
  rw [W6 λ w hw=>h w (List.mem_cons_of_mem _ hw)]
  split
  ·have:x≠n:=by rintro rfl;exact h v List.mem_cons_self
   simp [this]
  ·rfl
theorem W4 {kindOf:Str->Option NameKind}{x:Str}:∀ {binds:List (Str×Value)} {m:Str->Option Value},(∀ v,(x,v)∉binds)->bindC kindOf binds m x=m x
 | [],_,_=>rfl
 | (n,v)::r,m,h=>by
  unfold bindC
  rw [W4 λ w hw=>h w (List.mem_cons_of_mem _ hw)]
  split
  ·rfl
  ·have:x≠n:=by rintro rfl;exact h v List.mem_cons_self
   simp [this]
theorem W5 {kindOf:Str->Option NameKind}{x:Str}{v:Value}:∀ {P:List Str} {vs:List Value} {i:Nat} {m:Str->Option Value},P.Nodup->P[i]?=some x->vs[i]?=some v->kindOf x=some .local->
  bindL kindOf (P.zip vs) m x=some v
 | [],_,_,_,_,h,_,_=>by simp at h
 | _::_,[],_,_,_,_,h,_=>by simp at h
 | p::P,w::vs,0,m,nd,h1,h2,hk=>by
  simp at h1 h2;subst h1;subst h2
  show bindL kindOf ((p,w)::P.zip vs) m p=_
  unfold bindL
  rw [W6 λ v hv=>(List.nodup_cons.mp nd).1 (List.of_mem_zip hv).1,if_pos hk]
  simp
 | p::P,w::vs,i+1,m,nd,h1,h2,hk=>by
  show bindL kindOf ((p,w)::P.zip vs) m x=_
  unfold bindL
  exact W5 (i:=i) (List.nodup_cons.mp nd).2 (by simpa using h1) (by simpa using h2) hk
theorem W3 {kindOf:Str->Option NameKind}{x:Str}{v:Value}:∀ {P:List Str} {vs:List Value} {i:Nat} {m:Str->Option Value},P.Nodup->P[i]?=some x->vs[i]?=some v->kindOf x≠some .local->
  bindC kindOf (P.zip vs) m x=some v
 | [],_,_,_,_,h,_,_=>by simp at h
 | _::_,[],_,_,_,_,h,_=>by simp at h
 | p::P,w::vs,0,m,nd,h1,h2,hk=>by
  simp at h1 h2;subst h1;subst h2
  show bindC kindOf ((p,w)::P.zip vs) m p=_
  unfold bindC
  rw [W4 λ v hv=>(List.nodup_cons.mp nd).1 (List.of_mem_zip hv).1,if_neg hk]
  simp
 | p::P,w::vs,i+1,m,nd,h1,h2,hk=>by
  show bindC kindOf ((p,w)::P.zip vs) m x=_
  unfold bindC
  exact W3 (i:=i) (List.nodup_cons.mp nd).2 (by simpa using h1) (by simpa using h2) hk
def start (N:List Str)(vs:List V):St:=vs.map some++List.replicate (N.length-vs.length) none
def cxOf (CX:CXT)(P:Program)(w:World)(K:W.Frag)(mg:Str->Option Value)(base:Heap)(N:List Str)(qual:Str)(scope:Scope)(f:Addr)(cd:Value)(A:Around)(outer:List Env)(s:Shared)(H:Hp)(E:XK):Cx where
 prog:=P
 w:=w
 K:=K
 mg:=mg
 base:=base
 A:=A.deeper (envOfC qual scope s.heap.objs.size f cd)
 N:=N
 s₀:=s
 H₀:=H
 env:=envOfC qual scope s.heap.objs.size f cd
 outer:=outer
 stack:=envOfC qual scope s.heap.objs.size f cd::outer
 ex:=[]
 calm:=true
 fn:=λ _=>true
 pn:=[]
 xe:=λ e s'=>wpAny (model P w) (A.deeper (envOfC qual scope s.heap.objs.size f cd)) (leaving (envOfC qual scope s.heap.objs.size f cd) e) (λ _ s''=>CX outer H s E e s'') (λ e' s''=>CX outer H s E e' s'') s'
theorem qbA {sc:Scope}{n:Nat}{x:Str}(h:sc.names.lookup x=some .cell):∃ c,(cellsFrom n sc.names []).lookup x=some c:=by
 have q:=W.cellsFrom_some sc.names n [] (.inl h)
 exact Option.isSome_iff_exists.mp q
theorem qfc {CX:CXT}{P:Program}{w:World}{K:W.Frag}{mg:Str->Option Value}{base:Heap}{N ps:List Str}{qual:Str}{scope:Scope}{f:Addr}{cd:Value}{A:Around}{outer:List Env}{s s1:Shared}{H:Hp}{E:XK}{us:List Value}{vs:List V}
  (S:FnScope N ps scope) (hd:A.handled=none) (e0:Env0 P w K mg base A outer s H) (hl:vs.length=ps.length) (r:Vals vs us)
  (x:InCallC s s.heap.objs.size (bindL (envOfC qual scope s.heap.objs.size f cd).kindOf (ps.zip us) λ _=>none) (cellsFrom (s.heap.objs.size+1) scope.names []) (bindC (envOfC qual scope s.heap.objs.size f cd).kindOf (ps.zip us) λ _=>none) s1) :
  Inv (cxOf CX P w K mg base N qual scope f cd A outer s H E) [] (start N vs) H s1:=by
 have hpl:ps.length<=N.length:=by have:=congrArg List.length S.pre;rw [List.length_take] at this;omega
 obtain ⟨h1,tk,rfl,hk⟩:=x.done
 have noA:∀ b:Addr,b∉(cxOf CX P w K mg base N qual scope f cd A outer s H E).ex:=λ b z=>absurd (show b∈([]:List Addr) from z) (by simp)
 refine ⟨⟨e0.mod,S.kind,rfl,rfl,Nat.le_refl _,λ y z c h1 h2=>?_,λ y hy=>?_,λ y c _ h=>?_,λ _=>hd,Around.frames_deeper e0.frames,.inr ⟨rfl,rfl⟩,λ b z=>absurd z (noA b),e0.bs,e0.bsz,λ b _ _=>noA b,λ b z=>absurd z (noA b),e0.funs,e0.frf⟩,
  rfl,e0.bare,Un.kept hk,⟨_,x.toInCall.ns,λ i y v h1 h2 h3=>?_⟩,λ y c h=>⟨_,x.cell y c h⟩,e0.hok.fresh (Nat.le_refl _),λ y c h=>?_,λ p hp=>absurd (show p∈([]:List (Addr×Obj)) from hp) (by simp),e0.hok.kept hk,?_⟩
 ·exact name_of_addr x.apart (PySem.mem_of_lookup h1) (PySem.mem_of_lookup h2)
 ·have hy:scope.names.lookup y=some .cell\/scope.names.lookup y=some .free:=hy
  rcases hy with hy|hy
  ·exact qbA hy
  ·exact absurd rfl (S.nofree _ (PySem.mem_of_lookup hy))
 ·exact Nat.le_of_lt (x.above y c (PySem.mem_of_lookup h))
 ·have hi:i<vs.length:=by
   unfold start at h2
   by_cases hi:i<vs.length
   ·exact hi
   ·rw [List.getElem?_append_right (by simpa using hi)] at h2
    rw [List.getElem?_replicate] at h2
    split at h2<;>cases h2
  have ha:vs[i]?=some v:=by
   unfold start at h2
   rw [List.getElem?_append_left (by simpa using hi),List.getElem?_map] at h2
   cases e:vs[i]? with
   | none=>rw [e] at h2;cases h2
   | some a=>rw [e] at h2;cases h2;rfl
  obtain ⟨u,hu,rv⟩:=r.get ha
  have hp:ps[i]?=some y:=by
   rw [← S.pre,List.getElem?_take_of_lt (by omega)];exact h1
  have ndP:ps.Nodup:=by rw [← S.pre];exact S.nd.sublist (List.take_sublist _ _)
  refine ⟨u,rv,?_⟩
  rcases S.par y (List.mem_of_getElem? hp) with k|k
  ·exact .inl ⟨k,W5 ndP hp hu k⟩
  ·obtain ⟨c,e⟩:=qbA (n:=s.heap.objs.size+1) k
   refine .inr ⟨.inl k,c,e,?_⟩
   have q:=x.cell y c e
   rw [W3 ndP hp hu (by show scope.names.lookup y≠_;rw [k];decide)] at q
   exact q
 ·exact e0.hok.fresh (Nat.le_of_lt (x.above y c (PySem.mem_of_lookup h)))
 ·unfold start
  show _=N.length
  rw [List.length_append,List.length_map,List.length_replicate]
  omega
theorem qjp {CX:CXT}{P:Program}{w:World}{K:W.Frag}{mg:Str->Option Value}{base:Heap}{k:Nat}{f:Addr}{name qual:Str}{params:Arguments}{body:List Stmt}{scope:Scope}{dV kV doc pm cdv ct oc:Value}{an od:Option Addr}
  {osl:Array (Option Value)} {N ps:List Str} {sp:Sp} (lk:K.lookup f=some ⟨oc,od,.func (W.fnOf name qual params body scope dV kV doc pm an cdv ct),osl⟩) (hcd:W.codeIn K cdv qual=true) (S:FnScope N ps scope)
  (len:∀ vs H Q E,sp vs H Q E->vs.length=ps.length)
  (hbody:∀ (A:Around) (outer:List Env) (s:Shared) (H:Hp) (vs:List V) (Q:VK) (E:XK),Room k (A.deeper (envOfC qual scope s.heap.objs.size f cdv))->sp vs H Q E->
   ∃ t,PSs (cxOf CX P w K mg base N qual scope f cdv A outer s H E) body t/\t { nx:=λ _ H'=>Q .non H',rt:=Q } (start N vs) H) :
  FnOk P w K mg base CX (k+1) f (W.fnOf name qual params body scope dV kV doc pm an cdv ct) ps sp:=by
 refine ⟨len,λ A outer s H args us vs Q E hr e0 hb r hsp=>?_⟩
 have hl:=len _ _ _ _ hsp
 have KX:K.In s.heap:=e0.mod.kin.keeps λ b o e=>(e0.bs b o e).1
 have lim:s.heap.NoLimit:=e0.mod.nolimit.keeps λ b o e=>(e0.bs b o e).1
 have hkind:∀ y∈ps.zip us,scope.names.lookup y.1=some .local\/(scope.names.lookup y.1=some .cell/\((cellsFrom (s.heap.objs.size+1) scope.names []).lookup y.1).isSome=true):=λ ⟨n,v⟩ hy=>by
  rcases S.par n (List.of_mem_zip hy).1 with q|q
  ·exact .inl q
  ·exact .inr ⟨q,W.cellsFrom_some _ _ _ (.inl q)⟩
 refine codeAny_call_function hr.depth (KX _ _ lk) rfl S.co S.gen rfl (W.codeRec_of KX hcd) (hb _ _ _ _ ?_)
 refine wpAny_newFunctionEnv_cells S.kind hkind λ env he s1 x=>?_
 subst he
 refine ⟨lim.keeps x.toInCall.keep,codeAny_func ?_⟩
 obtain ⟨t,ht,hq⟩:=hbody A outer s H vs Q E (hr.deeper _) hsp
 have I:Inv (cxOf CX P w K mg base N qual scope f cdv A outer s H E) [] (start N vs) H s1:=qfc S hr.hd e0 hl r x
 refine wpAny_mono (ht [] s1 (start N vs) H _ I hq) (λ fl s' hs=>?_) λ e s' hs=>hs
 have fin:∀ {σ':St} {H':Hp} {v:V} {u:Value},Inv (cxOf CX P w K mg base N qual scope f cdv A outer s H E) [] σ' H' s'->RelV v u->Q v H'->CE outer P w H s Q u s' :=
  λ {σ' H' v u} J rv q=>⟨v,H',J.os,J.bare,J.base,J.hok,rv,q⟩
 cases fl with
 | ret u =>
  obtain ⟨v,σ',H',J,rv,q⟩:=hs
  exact fin J rv q
 | next =>
  obtain ⟨σ',H',J,q⟩:=hs
  exact fin (v:=V.non) (u:=Value.none) J rfl q
 | brk =>
  obtain ⟨_,_,_,q⟩:=hs
  exact False.elim q
 | cont =>
  obtain ⟨_,_,_,q⟩:=hs
  exact False.elim q
section
variable {X:Cx}{x:Str}{p pos:Pos}{e:Expr}{es:List Expr}{t:TA}{id T:String}{r:List V->Hp->VK->Prop}
def tCB (r:List V->Hp->VK->Prop)(t:TA):TE:=λ σ H Q=>t σ H λ vs H1=>r vs H1 Q
theorem Wt (hc:jo X (.builtin id) r)(hg:Gl X x)(hm:X.mg x=none)(hv:bootBuiltins x=some (.builtin id))(ha:PA X (e::es) t)(hn:x ≠ "__name__" := by decide)(hdb:(x==("__debug__" : Str))=false:=by decide)
  (he:starEach (e::es) X.env=(false,eval e X.env)::starEach es X.env:=by rfl) (hpl:(backTo pos (starEach es X.env)).any (·.1)=false:=by rfl):PE X (.Call (.Name x p) (e::es) [] pos) (tCB r t):=by
 intro pins s σ H Q I h
 refine wpAny_Call_Name_kw (ye I hg hm hv ?_ hn hdb)
 exact PyProof.Rows.callWith_builtin1 (thn (ha pos pins s σ H _ I h) λ us s1 ⟨vs,H1,I1,r1,q1⟩=>hc pins s1 σ H1 vs us Q I1 r1 q1) he hpl
theorem qat (hc:jo X (.type T) r)(hg:Gl X x)(hm:X.mg x=none)(hv:bootBuiltins x=some (.type T))(ha:PA X (e::es) t)(hn:x ≠ "__name__" := by decide)(hdb:(x==("__debug__" : Str))=false:=by decide)
  (he:starEach (e::es) X.env=(false,eval e X.env)::starEach es X.env:=by rfl) (hpl:(backTo pos (starEach es X.env)).any (·.1)=false:=by rfl):PE X (.Call (.Name x p) (e::es) [] pos) (tCB r t):=by
 intro pins s σ H Q I h
 refine wpAny_Call_Name_kw (ye I hg hm hv ?_ hn hdb)
 exact PyProof.Rows.callWith_type1 (thn (ha pos pins s σ H _ I h) λ us s1 ⟨vs,H1,I1,r1,q1⟩=>hc pins s1 σ H1 vs us Q I1 r1 q1) he hpl
end
end L2
namespace HT
open PySem PyProof.Rows
def lexLt:List Int->List Int->Bool
 | [],[]=>false
 | [],_::_=>true
 | _::_,[]=>false
 | x::xs,y::ys=>if x=y then lexLt xs ys else decide (x<y)
theorem Qs (x y:Int)(xs ys:List Int):lexLt (x::xs) (y::ys)=if x=y then lexLt xs ys else decide (x<y):=rfl
theorem WQ:lexLt [] []=false:=rfl
theorem qcC (A:Around)(s:Shared)(a:Int)(t:Tok)(c:Int)(u:Tok)(prog:Program)(w:World)(E:Value->Shared->Prop)(Q:Value->Shared->Prop)(h:Q (.bool (decide (a<c))) s) :
  wpAny (model prog w) A (richCompare .Lt (.int a t) (.int c u)) Q E s :=
 (PyProof.Rows.lt_int h:wpAny (model prog w) A (compareOp .Lt (.int a t) (.int c u)) Q E s)
section
open PySem.SeqAt
open PySem.AutoSeq1 (wpAny_loadPart')
open PySem.MeetsSeq PySem.MeetsSeq2 PySem.MeetsSeq3
end
section
variable {prog:Program}{w:World}{A:Around}{E:Value->Shared->Prop}{s:Shared}
theorem qhN {t b:Addr}{vs ws:List Value}{Q:Value->Shared->Prop}(ht:IsTup s.heap t vs.toArray)(hb:IsTup s.heap b ws.toArray)(hv:vs≠[])
  (h1:ws=[]->Q (.ref t) s) (h2:ws≠[]->Q (.ref s.heap.objs.size) { s with heap:=s.heap.push { cls:=.type "tuple", data:=.seq (vs++ws).toArray } })
  (hsz:vs.length+ws.length<=sizeLine):wpAny (model prog w) A (binaryOp .Add (.ref t) (.ref b)) Q E s:=by
 obtain ⟨⟨cls,dd,data,sl⟩,ho,hc,n,hd⟩:=id ht
 obtain ⟨⟨cls2,dd2,data2,sl2⟩,ho2,hc2,n2,hd2⟩:=id hb
 simp only at hc hd hc2 hd2
 subst hc hd hc2 hd2
 have e:vs.toArray++ws.toArray=(vs++ws).toArray:=by simp
 by_cases hw:ws=[]
 ·exact concat_meets ⟨_,ho,rfl⟩ ⟨_,ho2,rfl⟩ noFill_tuple_add seq_tuple_add PySem.F.slot_tuple_add PySem.F.entry_tuple_add (PySem.F.args_tuple_add_2 _ _)
   (tuple_addW1 t b vs.toArray ws.toArray n n2 dd dd2 sl sl2 (by simpa using hv) (by simp [hw])) ⟨ho,ho2,h1 hw⟩
 ·refine concat_meets ⟨_,ho,rfl⟩ ⟨_,ho2,rfl⟩ noFill_tuple_add seq_tuple_add PySem.F.slot_tuple_add PySem.F.entry_tuple_add (PySem.F.args_tuple_add_2 _ _)
   (tuple_addW2 t b vs.toArray ws.toArray n n2 dd dd2 sl sl2 (by simpa using hv) (by simpa using hw) (by rw [List.size_toArray,List.size_toArray];exact hsz)) ⟨ho,ho2,?_⟩
  rw [e]
  exact h2 hw
def sIx (n d:Nat):Option Int->Nat
 | none=>d
 | some v=>if v<0 then (v+(n:Int)).toNat else min v.toNat n
theorem qeG (n d k:Nat):sIx n d (some (k:Int))=min k n:=by
 show (if (k:Int)<0 then ((k:Int)+(n:Int)).toNat else min (k:Int).toNat n)=min k n
 rw [if_neg (by omega),Int.toNat_natCast]
theorem qkP (n d:Nat)(hd:d<=n)(o:Option Int):sIx n d o<=n:=by
 cases o with
 | none=>exact hd
 | some v =>
  show (if v<0 then (v+(n:Int)).toNat else min v.toNat n)<=n
  by_cases hv:v<0
  ·rw [if_pos hv];omega
  ·rw [if_neg hv];exact Nat.min_le_right _ _
theorem qdR (v:Int)(n d:Nat):(if v<0 then max (v+(n:Int)) 0 else min v (n:Int))=((sIx n d (some v):Nat):Int):=by
 show (if v<0 then max (v+(n:Int)) 0 else min v (n:Int))=(((if v<0 then (v+(n:Int)).toNat else min v.toNat n):Nat):Int)
 by_cases hv:v<0
 ·simp only [if_pos hv];omega
 ·simp only [if_neg hv];omega
theorem qcV (lo hi:Option Int)(n:Nat):Builtin.Slice.sliceAdjust lo hi 1 (n:Int)=(((sIx n 0 lo:Nat):Int),((sIx n n hi:Nat):Int)):=by
 have h1:¬ ((1:Int)<0):=by omega
 unfold Builtin.Slice.sliceAdjust
 simp only [h1,if_false]
 refine Prod.ext ?_ ?_
 ·cases lo with
  | none=>rfl
  | some v=>exact qdR v n 0
 ·cases hi with
  | none=>rfl
  | some v=>exact qdR v n n
theorem qdw (i j:Nat):Builtin.Slice.slicePlaces (i:Int) (j:Int) 1=j-i:=by
 unfold Builtin.Slice.slicePlaces
 have h1:(1:Int) > 0:=by omega
 simp only [h1,if_true,Int.ediv_one]
 split<;>omega
theorem WK {v:Value}{o:Option Int}{Q:Option Int->Shared->Prop}(p:IsPart v o)(h:Q o s):wpAny (model prog w) A (Builtin.Slice.slicePartIndex v) Q E s:=by
 cases p with
 | none=>exact slicePart_none h
 | int i t=>exact slicePart_int h
theorem YG {sl:Addr}{vl vu:Value}{lo hi:Option Int}{n:Nat}{Q:Int×Int×Nat->Shared->Prop}(hs:s.heap.IsSliceOf sl vl vu .none)(pl:IsPart vl lo)(pu:IsPart vu hi)
  (h:Q (((sIx n 0 lo:Nat):Int),1,sIx n n hi-sIx n 0 lo) s):wpAny (model prog w) A (Builtin.Slice.sliceApplied (.ref sl) (pure (n:Int))) Q E s:=by
 obtain ⟨os,hos,hcs,hds⟩:=id hs
 unfold Builtin.Slice.sliceApplied Builtin.Slice.sliceFields
 refine wpAny_bind (wpAny_bind (wpAny_field hos hds (x:=vl) rfl (wpAny_bind (wpAny_field hos hds (x:=vu) rfl (wpAny_bind (wpAny_field hos hds (x:=.none) rfl (wpAny_pure ?_)))))))
 refine wpAny_bind (slicePart_none ?_)
 show wpAny _ _ (if ((1:Int)==0)=true then _ else _) _ _ s
 rw [if_neg (by decide)]
 refine wpAny_bind (WK pl (wpAny_bind (WK pu (wpAny_bind (wpAny_pure ?_)))))
 show wpAny _ _ (match Builtin.Slice.sliceAdjust lo hi 1 (n:Int) with | (lo,hi)=>pure (lo,(1:Int),Builtin.Slice.slicePlaces lo hi 1)) _ _ s
 rw [qcV lo hi n]
 show wpAny _ _ (pure (((sIx n 0 lo:Nat):Int),(1:Int),Builtin.Slice.slicePlaces ((sIx n 0 lo:Nat):Int) ((sIx n n hi:Nat):Int) 1)) _ _ s
 rw [qdw]
 exact wpAny_pure h
theorem qhg (xs:Array Value)(i k:Nat):((List.range k).filterMap λ (m:Nat)=>xs[((i:Int)+(m:Int)*1).toNat]?).toArray=((xs.toList.drop i).take k).toArray:=by
 have e:(λ (m:Nat)=>xs[((i:Int)+(m:Int)*1).toNat]?)=λ m=>xs[i+m]?:=by
  funext m
  have:((i:Int)+(m:Int)*1).toNat=i+m:=by omega
  rw [this]
 rw [e]
 have:=pick_run xs i k
 rw [List.filterMap_map] at this
 have e2:((λ x=>xs[x]?) ∘ λ x=>i+x)=λ m=>xs[i+m]?:=rfl
 rw [e2] at this
 rw [this]
theorem yS {t sl:Addr}{items:Array Value}{vl vu:Value}{lo hi:Option Int}{Q:Value->Shared->Prop}(ht:IsTup s.heap t items)(hs:s.heap.IsSliceOf sl vl vu .none)(pl:IsPart vl lo)(pu:IsPart vu hi)
  (hw:¬ (sIx items.size 0 lo=0/\sIx items.size items.size hi=items.size))
  (h:Q (.ref s.heap.objs.size) { s with heap:=s.heap.push { cls:=.type "tuple", data:=.seq ((items.toList.drop (sIx items.size 0 lo)).take (sIx items.size items.size hi-sIx items.size 0 lo)).toArray } })
  (hsz:items.size<=sizeLine):wpAny (model prog w) A (getItem (.ref t) (.ref sl)) Q E s:=by
 have htake:sizeOk (.seq ((items.toList.drop (sIx items.size 0 lo)).take (sIx items.size items.size hi-sIx items.size 0 lo)).toArray):=by
  show ((items.toList.drop (sIx items.size 0 lo)).take (sIx items.size items.size hi-sIx items.size 0 lo)).toArray.size<=sizeLine
  rw [List.size_toArray,List.length_take,List.length_drop,Array.length_toList]
  omega
 have hj:sIx items.size items.size hi<=items.size:=qkP _ _ (Nat.le_refl _) hi
 obtain ⟨os,hos,hcs,hds⟩:=id hs
 have hTs:s.TypeIs (.ref sl) "slice" := ⟨os,hos,hcs⟩
 unfold getItem
 try with_reducible refine wpAny_holding ?_
 first|refine wpAny_bind (wpAny_pure ?_)|skip
 refine wpAny_bind (wpAny_sequenceKey ht.typeIs (by decide) ?_)
 refine wpAny_bind (wpAny_callSpecial?_slot (name:=Str.ofString "__getitem__") ht.typeIs PyProof.Rows.slot_tuple_getitem
  (wpAny_call_entry PyProof.Rows.slot_tuple_getitem ht.typeIs entry_tuple_getitem ?_ (args_tuple_getitem _ _)))
 show wpAny _ _ (Builtin.Tuple.tupleItemsOf (.ref t) >>= _) _ _ s
 refine wpAny_bind (tupleItemsOf_ ht ?_)
 refine wpAny_bind (wpAny_typeOf hTs ?_)
 rw [if_pos (by decide)]
 refine wpAny_bind (YG hs pl pu ?_)
 have hno:¬ ((((sIx items.size 0 lo:Nat):Int)==0&&(1:Int)==1&&(sIx items.size items.size hi-sIx items.size 0 lo)==items.size)=true):=by
  intro q
  rw [Bool.and_eq_true,Bool.and_eq_true] at q
  have q1:((sIx items.size 0 lo:Nat):Int)=0:=eq_of_beq q.1.1
  have q2:sIx items.size items.size hi-sIx items.size 0 lo=items.size:=eq_of_beq q.2
  exact hw ⟨by omega,by omega⟩
 show wpAny _ _ (if (((sIx items.size 0 lo:Nat):Int)==0&&(1:Int)==1&&(sIx items.size items.size hi-sIx items.size 0 lo)==items.size)=true then _ else _) _ _ s
 rw [if_neg hno,qhg]
 first
  | exact wpAny_bind (m:=Builtin.Tuple.tupleExact _) (wpAny_newObj_type (wpAny_pure ⟨_,rfl,wpAny_pure h⟩) htake)
  | exact wpAny_bind (m:=Builtin.Tuple.tupleExact _) (wpAny_newObj_type (wpAny_bind (wpAny_pure (wpAny_pure ⟨_,rfl,wpAny_pure h⟩))) htake)
  | exact wpAny_bind (wpAny_bind (m:=Builtin.Tuple.tupleExact _) (wpAny_newObj_type (wpAny_pure (wpAny_pure ⟨_,rfl,wpAny_pure h⟩)) htake))
  | exact wpAny_bind (wpAny_bind (m:=Builtin.Tuple.tupleExact _) (wpAny_newObj_type (wpAny_pure ⟨_,rfl,wpAny_pure h⟩) htake))
end
end HT
namespace L2
open PySem PySem.Spec PyProof.Rows
abbrev TO:=St->Hp->(Option Int->Hp->Prop)->Prop
def PO (X:Cx)(e:Option Expr)(t:TO):Prop :=
 ∀ (pins:List (Addr×Obj)) (s:Shared) (σ:St) (H:Hp) (Q:Option Int->Hp->Prop),Inv X pins σ H s->t σ H Q->
  wpAny (model X.prog X.w) X.A (evalPart e X.env) (λ u s'=>∃ o H',Inv X pins σ H' s'/\IsPart u o/\Q o H') X.xe s
def qjf:TO:=λ _ H Q=>Q none H
def tPart (t:TE):TO:=λ σ H Q=>t σ H λ x H1=>∃ i,x=.int i/\Q (some i) H1
section
variable {X:Cx}{e:Expr}{te:TE}{lo hi:Option Expr}{tl th:TO}{pos p2:Pos}
theorem qiW:PO X none qjf:=by
 intro pins s σ H Q I h
 rw [evalPart_none]
 exact wpAny_pure ⟨none,H,I,.none,h⟩
theorem qiX (h:PE X e te):PO X (some e) (tPart te):=by
 intro pins s σ H Q I hw
 rw [evalPart_some]
 refine thn (h pins s σ H _ I hw) λ u s1 ⟨x,H1,I1,r1,q1⟩=>?_
 obtain ⟨i,rfl,q⟩:=q1
 obtain ⟨t,rfl⟩:=r1
 exact ⟨some i,H1,I1,.int i t,q⟩
def SlR (X:Cx)(r:V->Option Int->Option Int->Hp->VK->Prop):Prop :=
 ∀ (pins:List (Addr×Obj)) (s:Shared) (σ:St) (H:Hp) (x:V) (v vl vu:Value) (lo hi:Option Int) (sl:Addr) (Q:VK),Inv X pins σ H s->RelV x v->s.heap.IsSliceOf sl vl vu .none->IsPart vl lo->IsPart vu hi->r x lo hi H Q->
  ∃ T id,typeLookup (.type T) "__getitem__" = pure (some (.builtin id))/\s.TypeIs v T/\wpAny (model X.prog X.w) X.A (getItem v (.ref sl)) (EP X pins σ Q) X.xe s
theorem SlR.or {r r':V->Option Int->Option Int->Hp->VK->Prop}(h:SlR X r)(h':SlR X r'):SlR X (λ x lo hi H Q=>r x lo hi H Q\/r' x lo hi H Q):=by
 intro pins s σ H x v vl vu lo hi sl Q I rx hs pl pu q
 rcases q with q|q
 ·exact h pins s σ H x v vl vu lo hi sl Q I rx hs pl pu q
 ·exact h' pins s σ H x v vl vu lo hi sl Q I rx hs pl pu q
def tSl (r:V->Option Int->Option Int->Hp->VK->Prop)(te:TE)(tl th:TO):TE:=λ σ H Q=>te σ H λ x H1=>tl σ H1 λ l H2=>th σ H2 λ u H3=>r x l u H3 Q
theorem qhd {r:V->Option Int->Option Int->Hp->VK->Prop}(hr:SlR X r)(he:PE X e te)(hl:PO X lo tl)(hu:PO X hi th):PE X (.Subscript e (.Slice lo hi none p2) pos) (tSl r te tl th):=by
 intro pins s σ H Q I h
 refine Subscript_ (thn (he pins s σ H _ I h) λ v s1 ⟨x,H1,I1,r1,q1⟩=>?_)
 refine wpAny_Slice (thn (hl pins s1 σ H1 _ I1 q1) λ vl s2 ⟨l,H2,I2,pl,q2⟩=>thn (hu pins s2 σ H2 _ I2 q2) λ vu s3 ⟨u,H3,I3,pu,q3⟩=>?_)
 rw [evalPart_none]
 refine wpAny_pure ?_
 have I4:Inv X pins σ H3 { s3 with heap:=s3.heap.push { cls:=.type "slice", data:=.fields #[vl,vu,.none] } }:=I3.kept (t':=s3.toks) λ b ob q=>Heap.get?_push_of_some _ q
 obtain ⟨T,id,hT,ht,hg⟩:=hr pins { s3 with heap:=s3.heap.push { cls:=.type "slice", data:=.fields #[vl,vu,.none] } } σ H3 x v vl vu l u s3.heap.objs.size Q I4 r1 (Heap.IsSliceOf.new ..) pl pu q3
 show wpAny (model X.prog X.w) X.A (subscriptTail e (.Slice lo hi none p2) v (.ref s3.heap.objs.size)) (EP X pins σ Q) X.xe { s3 with heap:=s3.heap.push { cls:=.type "slice", data:=.fields #[vl,vu,.none] } }
 exact tail_any (ops:=[.ref s3.heap.objs.size,v]) ht hT hg (by with_unfolding_all rfl)
def cutV (xs:List V)(lo hi:Option Int):List V:=(xs.drop (HT.sIx xs.length 0 lo)).take (HT.sIx xs.length xs.length hi-HT.sIx xs.length 0 lo)
theorem YZ (xs:List V)(lo hi:Option Int):(cutV xs lo hi).length<=xs.length:=by
 unfold cutV
 rw [List.length_take,List.length_drop]
 omega
def rSlT (K:W.Frag):V->Option Int->Option Int->Hp->VK->Prop:=λ x lo hi H Q=>∃ a xs,x=.ref a/\SqT K H a xs/\
 ¬ (HT.sIx xs.length 0 lo=0/\HT.sIx xs.length xs.length hi=xs.length)/\∀ p,H p=none->Q (.ref p) (upd H p (.tup (cutV xs lo hi)))
theorem qkZ:SlR X (rSlT X.K):=by
 intro pins s σ H x v vl vu lo hi sl Q I rx hs pl pu h
 obtain ⟨a,xs,rfl,hx,hw,q⟩:=h
 cases rx
 obtain ⟨its,r,ht,hz⟩:=I.tuple hx
 have hlen:its.toArray.size=xs.length:=by rw [List.size_toArray];exact r.length.symm
 refine ⟨"tuple", _,PyProof.Rows.slot_tuple_getitem.lookup,ht.typeIs,?_⟩
 refine HT.yS ht hs pl pu (by rw [hlen];exact hw) ?_ (by rw [hlen];exact hz)
 rw [hlen]
 refine ⟨.ref s.heap.objs.size,_,I.laid (t':=s.toks) (o:=.tup (cutV xs lo hi)) (λ b ob q=>Heap.get?_push_of_some _ q) (Nat.le_refl _) ?_,rfl,q _ (I.hok.fresh (Nat.le_refl _))⟩
 exact ⟨Nat.le_trans (YZ xs lo hi) hz,_,(r.drop (HT.sIx xs.length 0 lo)).take (HT.sIx xs.length xs.length hi-HT.sIx xs.length 0 lo),IsTup.new _ _⟩
def qjy (K:W.Frag):R2:=λ x y H Q=>∃ a b xs ys,x=.ref a/\y=.ref b/\SqT K H a xs/\SqT K H b ys/\xs≠[]/\xs.length+ys.length<=sizeLine/\
 (ys=[]->Q (.ref a) H)/\(ys≠[]->∀ p,H p=none->Q (.ref p) (upd H p (.tup (xs++ys))))
theorem Vals.nil_iff {xs:List V}{us:List Value}(r:Vals xs us):us=[]↔xs=[]:=by
 cases r with
 | nil=>simp
 | cons _ _=>simp
theorem qiD:OpR X (binaryOp .Add) (qjy X.K):=by
 intro pins s σ H x y v u Q I rx ry h
 obtain ⟨a,b,xs,ys,rfl,rfl,ha,hb,hx,hz,q1,q2⟩:=h
 cases rx
 cases ry
 obtain ⟨its,r1,p1,_⟩:=I.tuple ha
 obtain ⟨its2,r2,p2,_⟩:=I.tuple hb
 refine HT.qhN p1 p2 (λ z=>hx (r1.nil_iff.mp z)) (λ z=>⟨.ref a,H,I,rfl,q1 (r2.nil_iff.mp z)⟩) (λ z=>?_) (by rw [← r1.length,← r2.length];exact hz)
 refine ⟨.ref s.heap.objs.size,_,I.laid (t':=s.toks) (o:=.tup (xs++ys)) (λ b ob q=>Heap.get?_push_of_some _ q) (Nat.le_refl _) ?_,rfl,q2 (λ w=>z (r2.nil_iff.mpr w)) _ (I.hok.fresh (Nat.le_refl _))⟩
 exact ⟨by rw [List.length_append];exact hz,_,r1.append r2,IsTup.new _ _⟩
end
def ixN (n:Nat)(i:Int):Option Nat:=if 0<=i then (if i<n then some i.toNat else none) else if -(n:Int)<=i then some (i+n).toNat else none
def atI {α:Type}(xs:List α)(i:Int):Option α:=(ixN xs.length i).bind λ j=>xs[j]?
theorem qeg {n:Nat}{i:Int}{j:Nat}(h:ixN n i=some j):seqIndex? i n=some j/\j<n/\-(n:Int)<=i/\i<n:=by
 unfold ixN at h
 by_cases h0:0<=i
 ·rw [if_pos h0] at h
  by_cases h1:i<n
  ·rw [if_pos h1] at h
   have e:i.toNat=j:=Option.some.inj h
   exact ⟨by rw [seqIndex_of h0 h1,e],by omega,by omega,h1⟩
  ·rw [if_neg h1] at h;cases h
 ·rw [if_neg h0] at h
  by_cases h1:-(n:Int)<=i
  ·rw [if_pos h1] at h
   have e:(i+n).toNat=j:=Option.some.inj h
   exact ⟨by rw [seqIndex_neg (by omega) h1,e],by omega,h1,by omega⟩
  ·rw [if_neg h1] at h;cases h
theorem qdN {α:Type}{xs:List α}{i:Int}{v:α}(h:atI xs i=some v):∃ j,seqIndex? i xs.length=some j/\xs[j]?=some v/\j<xs.length/\-(xs.length:Int)<=i/\i<xs.length:=by
 unfold atI at h
 cases e:ixN xs.length i with
 | none=>rw [e] at h;cases h
 | some j =>
  rw [e] at h
  obtain ⟨h1,h2,h3,h4⟩:=qeg e
  exact ⟨j,h1,h,h2,h3,h4⟩
theorem qdO {α:Type}{xs:List α}{j:Nat}{v:α}(h:xs[j]?=some v):atI xs (j:Int)=some v:=by
 have hj:j<xs.length:=(List.getElem?_eq_some_iff.mp h).1
 have e:ixN xs.length (j:Int)=some j:=by
  unfold ixN
  rw [if_pos (by omega),if_pos (by omega)];simp
 unfold atI;rw [e];exact h
def wz (b:Expr):Prop:=∀ o i,subscripted b false o i=operate [o,i] (getItem o i)
def IxR (X:Cx)(r:R2):Prop :=
 ∀ (value slice:Expr) (pins:List (Addr×Obj)) (s:Shared) (σ:St) (H:Hp) (x y:V) (v u:Value) (Q:VK),Inv X pins σ H s->RelV x v->RelV y u->r x y H Q->
  subscripted slice false v u=operate [v,u] (getItem v u)->wpAny (model X.prog X.w) X.A (subscriptTail value slice v u) (EP X pins σ Q) X.xe s
def MtR (X:Cx)(id:String)(r:V->List V->Hp->VK->Prop):Prop :=
 ∀ (pins:List (Addr×Obj)) (s:Shared) (σ:St) (H:Hp) (x:V) (xs:List V) (v:Value) (us:List Value) (Q:VK),Inv X pins σ H s->RelV x v->Vals xs us->r x xs H Q->
  wpAny (model X.prog X.w) X.A (call (.builtin id) (v::us)) (EP X pins σ Q) X.xe s
section
variable {X:Cx}{a b:Expr}{ta tb:TE}{pos:Pos}
theorem IxR.or {r r':R2}(h:IxR X r)(h':IxR X r'):IxR X (λ x y H Q=>r x y H Q\/r' x y H Q):=by
 intro value slice pins s σ H x y v u Q I rx ry q hs
 rcases q with q|q
 ·exact h value slice pins s σ H x y v u Q I rx ry q hs
 ·exact h' value slice pins s σ H x y v u Q I rx ry q hs
theorem qhb {r:R2}(hr:IxR X r)(ha:PE X a ta)(hb:PE X b tb)(hs:wz b):PE X (.Subscript a b pos) (tOp r ta tb):=by
 intro pins s σ H Q I h
 exact Subscript_ (binT ha hb I h λ v u s2 x y H2 I2 rx ry q=>hr a b pins s2 σ H2 x y v u Q I2 rx ry q (hs _ _))
def rIxL (K:W.Frag):R2:=λ x y H Q=>∃ p xs i v,x=.ref p/\y=.int i/\SqL K H p xs/\atI xs i=some v/\Q v H
def rIxT (K:W.Frag):R2:=λ x y H Q=>∃ p xs i v,x=.ref p/\y=.int i/\SqT K H p xs/\atI xs i=some v/\Q v H
theorem qeh:IxR X (rIxL X.K):=by
 intro value slice pins s σ H x y v u Q I rx ry h hs
 obtain ⟨p,xs,i,z,rfl,rfl,hq,he,q⟩:=h
 cases rx
 obtain ⟨t,rfl⟩:=ry
 obtain ⟨its,r,pl,hz⟩:=I.list hq
 obtain ⟨j,h1,h2,h3,h4,h5⟩:=qdN he
 obtain ⟨w,ew,rw'⟩:=r.get h2
 have hl:=r.length
 have hn:=qbb
 have fin:EP X pins σ Q w s:=⟨z,H,I,rw',q⟩
 by_cases h0:0<=i
 ·have hj:i.toNat=j:=by
   rw [seqIndex_of h0 h5] at h1
   exact Option.some.inj h1
  exact item_listR pl.isList h0 (by omega) (by rw [hj];simpa using ew) fin hs
 ·have hj:(i+(its.toArray.size:Int)).toNat=j:=by
   rw [seqIndex_neg (by omega) h4] at h1
   rw [List.size_toArray,← hl]
   exact Option.some.inj h1
  exact subscriptTail_builtinR (x:=w) pl.isList.typeIs slot_list_getitem.lookup
   (wpAny_getItem_list_neg (Q:=λ r s'=>r=w/\EP X pins σ Q r s') pl.isList (by omega) (by rw [List.size_toArray]<;>omega) (by omega) (by rw [hj];simpa using ew) ⟨rfl,fin⟩) hs
theorem qgA:IxR X (rIxT X.K):=by
 intro value slice pins s σ H x y v u Q I rx ry h hs
 obtain ⟨p,xs,i,z,rfl,rfl,hq,he,q⟩:=h
 cases rx
 obtain ⟨t,rfl⟩:=ry
 obtain ⟨its,r,pl,hz⟩:=I.tuple hq
 obtain ⟨j,h1,h2,h3,h4,h5⟩:=qdN he
 obtain ⟨w,ew,rw'⟩:=r.get h2
 have hl:=r.length
 have hn:=qbb
 have fin:EP X pins σ Q w s:=⟨z,H,I,rw',q⟩
 exact subscriptTail_builtinR (x:=w) pl.typeIs slot_tuple_getitem.lookup
  (getItem_tuple (j:=j) (Q:=λ r s'=>r=w/\EP X pins σ Q r s') pl (by omega) (by omega) (by rw [List.size_toArray,← hl];exact h1) (by simpa using ew) ⟨rfl,fin⟩) hs
theorem qdo (its:List Value)(n j:Nat)(u:Value):Obj.mapSeq (·.setIfInBounds j u) { cls:=.type "list", data:=.seq its.toArray n }={ cls:=.type "list", data:=.seq (its.set j u).toArray n }:=by
 simp [Obj.mapSeq]
theorem Inv.lst {pins:List (Addr×Obj)}{σ:St}{H:Hp}{s:Shared}{p:Addr}{xs:List V}(I:Inv X pins σ H s)(h:H p=some (.lst xs)) :
  ∃ (its:List Value) (n:Nat),Vals xs its/\s.heap.get? p=some { cls:=.type "list", data:=.seq its.toArray n }/\xs.length<=sizeLine:=by
 obtain ⟨z,its,n,r,e⟩:=I.hok p _ h
 exact ⟨its,n,r,e,z⟩
theorem Inv.lstUpd {pins:List (Addr×Obj)}{σ:St}{H:Hp}{s:Shared}{p:Addr}{xs ys:List V}{its its':List Value}{n n':Nat}{f:Obj->Obj}(I:Inv X pins σ H s)(h:H p=some (.lst xs))
  (ho:s.heap.get? p=some { cls:=.type "list", data:=.seq its.toArray n }) (hf:f { cls:=.type "list", data:=.seq its.toArray n }={ cls:=.type "list", data:=.seq its'.toArray n' }) (r:Vals ys its') (hz:ys.length<=sizeLine) (t:Nat) :
  Inv X pins σ (upd H p (.lst ys)) { s with heap:=s.heap.update p f,toks:=t }:=by
 have e:(s.heap.update p f).get? p=some { cls:=.type "list", data:=.seq its'.toArray n' }:=by
  rw [Heap.get?_update_self f ho (by rw [hf]<;>rfl),hf]
 refine I.write (x:=p) (e:=p) (by rw [h];trivial) (.inl rfl) (λ b u hb q=>(Heap.get?_update_other _ _ (Ne.symm hb)).trans q) ⟨_,e⟩ ?_
 exact ⟨hz,its',n',r,e⟩
def rSetL:V->V->V->Hp->(Hp->Prop)->Prop:=λ o i v H Q=>∃ p xs k j,o=.ref p/\i=.int k/\H p=some (.lst xs)/\ixN xs.length k=some j/\Q (upd H p (.lst (xs.set j v)))
theorem set_list:PSet X rSetL:=by
 intro pins s σ H o i v ov iv u Q I ro ri rv h
 obtain ⟨p,xs,k,j,rfl,rfl,hp,hj,q⟩:=h
 cases ro
 obtain ⟨t,rfl⟩:=ri
 obtain ⟨its,n,r,ho,hz⟩:=I.lst hp
 obtain ⟨h1,h2,h3,h4⟩:=qeg hj
 have hl:=r.length
 have hn:=qbb
 have I':Inv X pins σ (upd H p (.lst (xs.set j v))) { s with heap:=s.heap.update p (Obj.mapSeq (·.setIfInBounds j u)) } :=
  I.lstUpd hp ho (qdo its n j u) (r.set rv j) (by rw [List.length_set];exact hz) s.toks
 by_cases h0:0<=k
 ·have hk:k.toNat=j:=by
   rw [seqIndex_of h0 h4] at h1
   exact Option.some.inj h1
  exact W.ki_setAt ho h0 (by omega) (by rw [List.size_toArray,← hl];exact h4) (by rw [hk];exact ⟨_,I',q⟩)
 ·have hk:(k+(its.toArray.size:Int)).toNat=j:=by
   rw [seqIndex_neg (by omega) h3] at h1
   rw [List.size_toArray,← hl]
   exact Option.some.inj h1
  exact W.ki_setBack ho (by omega) (by rw [List.size_toArray,← hl];exact h3) (by omega) (by rw [hk];exact ⟨_,I',q⟩)
theorem qbl (lo hi:Option Int)(n:Nat):(sliceBounds lo hi none n).1=((HT.sIx n 0 lo:Nat):Int)/\(sliceBounds lo hi none n).2.1=((HT.sIx n n hi:Nat):Int)/\(sliceBounds lo hi none n).2.2=1:=by
 refine ⟨?_,?_,rfl⟩
 ·cases lo with
  | none=>simp [sliceBounds,HT.sIx]
  | some i =>
   simp only [sliceBounds,HT.sIx,Option.getD_none,show (1:Int) > 0 by decide,if_true]
   by_cases h:i<0
   ·simp only [h,if_true]<;>omega
   ·simp only [h,if_false]<;>omega
 ·cases hi with
  | none=>simp [sliceBounds,HT.sIx]
  | some i =>
   simp only [sliceBounds,HT.sIx,Option.getD_none,show (1:Int) > 0 by decide,if_true]
   by_cases h:i<0
   ·simp only [h,if_true]<;>omega
   ·simp only [h,if_false]<;>omega
theorem WR (its:List Value)(lo hi:Option Int):slicePick its.toArray lo hi none=((its.drop (HT.sIx its.length 0 lo)).take (HT.sIx its.length its.length hi-HT.sIx its.length 0 lo)).toArray:=by
 obtain ⟨h1,h2,h3⟩:=qbl lo hi its.toArray.size
 unfold slicePick
 rw [h1,h2,h3]
 simp only [sliceRange_one,pick_run,List.size_toArray]<;>rfl
def rSlL (K:W.Frag):V->Option Int->Option Int->Hp->VK->Prop:=λ x lo hi H Q=>∃ a xs,x=.ref a/\SqL K H a xs/\∀ p,H p=none->Q (.ref p) (upd H p (.lst (cutV xs lo hi)))
theorem qjd:SlR X (rSlL X.K):=by
 intro pins s σ H x v vl vu lo hi sl Q I rx hs pl pu h
 obtain ⟨a,xs,rfl,hx,q⟩:=h
 cases rx
 obtain ⟨its,r,ht,hz⟩:=I.list hx
 have hlen:=r.length
 refine ⟨"list", _,slot_list_getitem.lookup,ht.isList.typeIs,?_⟩
 refine wpAny_getItem_list_slice ht.isList hs pl pu .none (by simp) ?_ (by rw [List.size_toArray]<;>omega)
 rw [WR,← hlen]
 refine ⟨.ref s.heap.objs.size,_,I.laid (t':=s.toks) (o:=.lst (cutV xs lo hi)) (λ b ob q=>Heap.get?_push_of_some _ q) (Nat.le_refl _) ?_,rfl,q _ (I.hok.fresh (Nat.le_refl _))⟩
 exact ⟨Nat.le_trans (YZ xs lo hi) hz,_,0,(r.drop (HT.sIx xs.length 0 lo)).take (HT.sIx xs.length xs.length hi-HT.sIx xs.length 0 lo),Heap.get?_push_size _ rfl⟩
theorem qaK:jo X (.builtin "len") (λ xs H Q=>∃ p ys,xs=[.ref p]/\(SqL X.K H p ys\/SqT X.K H p ys)/\Q (.int ys.length) H):=by
 intro pins s σ H xs us Q I r h
 obtain ⟨p,ys,rfl,hq,q⟩:=h
 obtain ⟨u,rfl,rx⟩:=vals1 r
 cases rx
 have hn:=qbb
 rcases hq with hq|hq
 ·obtain ⟨its,r',pl,hz⟩:=I.list hq
  have hlen:=r'.length
  exact Calls.call_len_list pl.isList (by simp only [List.size_toArray]<;>omega) ⟨.int ys.length,H,I.tok _,⟨s.toks+1,by rw [List.size_toArray,hlen]⟩,q⟩
 ·obtain ⟨its,r',pl,hz⟩:=I.tuple hq
  have hlen:=r'.length
  exact len_tuple pl (by simp only [List.size_toArray]<;>omega) ⟨.int ys.length,H,I.tok _,⟨s.toks+1,by rw [List.size_toArray,hlen]⟩,q⟩
theorem jo.or {f:Value}{r r':List V->Hp->VK->Prop}(h:jo X f r)(h':jo X f r'):jo X f (λ xs H Q=>r xs H Q\/r' xs H Q):=by
 intro pins s σ H xs us Q I rs q
 rcases q with q|q
 ·exact h pins s σ H xs us Q I rs q
 ·exact h' pins s σ H xs us Q I rs q
theorem yH:jo X (.type "list") (λ xs H Q=>∃ p ys,xs=[.ref p]/\(SqL X.K H p ys\/SqT X.K H p ys)/\∀ l,H l=none->Q (.ref l) (upd H l (.lst ys))):=by
 intro pins s σ H xs us Q I r h
 obtain ⟨p,ys,rfl,hq,q⟩:=h
 obtain ⟨u,rfl,rx⟩:=vals1 r
 cases rx
 have fin:∀ (its:List Value),Vals ys its->ys.length<=sizeLine->∀ (h':Heap) (c':Nat),(∀ b o',s.heap.get? b=some o'->h'.get? b=some o')->
   h'.get? s.heap.objs.size=some { cls:=.type "list", dict:=none,data:=.seq its.toArray c',slots:=#[] }->EP X pins σ Q (.ref s.heap.objs.size) { s with heap:=h' }:=λ its r' hz h' c' kp e =>
  ⟨.ref s.heap.objs.size,_,I.laid (t':=s.toks) kp (Nat.le_refl _) (show Zy X.prog X.w _ h' _ (.lst ys) from ⟨hz,its,c',r',e⟩),rfl,q _ (I.hok.fresh (Nat.le_refl _))⟩
 rcases hq with hq|hq
 ·obtain ⟨its,r',pl,hz⟩:=I.list hq
  have hlen:=r'.length
  obtain ⟨o,ho,hc,n,hd⟩:=pl.isList
  exact call_list_seq p (.inl rfl) ho hc hd (λ h' c' kp e=>fin its r' hz h' c' kp e) (by simp only [List.size_toArray]<;>omega)
 ·obtain ⟨its,r',pl,hz⟩:=I.tuple hq
  have hlen:=r'.length
  obtain ⟨o,ho,hc,n,hd⟩:=pl
  exact call_list_seq p (.inr rfl) ho hc hd (λ h' c' kp e=>fin its r' hz h' c' kp e) (by simp only [List.size_toArray]<;>omega)
theorem WM:jo X (.type "tuple") (λ xs H Q=>∃ p ys,xs=[.ref p]/\((SqL X.K H p ys/\∀ l,H l=none->Q (.ref l) (upd H l (.tup ys)))\/(SqT X.K H p ys/\Q (.ref p) H))):=by
 intro pins s σ H xs us Q I r h
 obtain ⟨p,ys,rfl,h⟩:=h
 obtain ⟨u,rfl,rx⟩:=vals1 r
 cases rx
 rcases h with ⟨hq,q⟩|⟨hq,q⟩
 ·obtain ⟨its,r',pl,hz⟩:=I.list hq
  have hlen:=r'.length
  refine call_tuple_list pl.isList (λ h' kp=>?_) (by simp only [List.size_toArray]<;>omega)
  have I1:Inv X pins σ H { s with heap:=h' }:=I.kept (t':=s.toks) kp
  have I2:Inv X pins σ (upd H h'.objs.size (.tup ys)) { s with heap:=h'.push { cls:=.type "tuple", data:=.seq its.toArray } } :=
   I1.laid (t':=s.toks) (λ b o e=>Heap.get?_push_of_some _ e) (Nat.le_refl _) (show Zy X.prog X.w _ _ _ (.tup ys) from ⟨hz,its,r',IsTup.new _ _⟩)
  exact ⟨.ref h'.objs.size,_,I2,rfl,q _ (I1.hok.fresh (Nat.le_refl _))⟩
 ·obtain ⟨its,r',pl,hz⟩:=I.tuple hq
  exact call_tuple_same pl ⟨.ref p,H,I,rfl,q⟩
def tyV (K:W.Frag)(T:String)(x:V)(H:Hp):Prop:=match x with
 | .str _=>T = "str"
 | .int _=>T = "int"
 | .ref p=>(T = "list"/\∃ xs,SqL K H p xs)\/(T = "tuple"/\∃ o,K.lookup p=some o/\o.cls=.type "tuple"/\o.dict=none)\/
   (T = "dict"/\((∃ kvs,H p=some (.dK kvs))\/∃ kvs,H p=some (.dT kvs)))\/(T = "set"/\∃ S n,H p=some (.set S n))
 | _=>False
theorem qk9 {pins:List (Addr×Obj)}{σ:St}{H:Hp}{s:Shared}{T:String}{x:V}{v:Value}(I:Inv X pins σ H s)(r:RelV x v)(ty:tyV X.K T x H) :
  s.TypeIs v T/\∀ a,v=.ref a->∃ ob,s.heap.get? a=some ob/\ob.dict=none:=by
 cases x with
 | str z =>
  obtain ⟨t,rfl⟩:=r
  cases (show T = "str" from ty)
  exact ⟨typeIs_str s z t,λ _ e=>nomatch e⟩
 | int i =>
  obtain ⟨t,rfl⟩:=r
  cases (show T = "int" from ty)
  exact ⟨typeIs_int s i t,λ _ e=>nomatch e⟩
 | ref p =>
  cases r
  rcases ty with ⟨rfl,xs,hq⟩|⟨rfl,o,hk,hc,hd⟩|⟨rfl,hk⟩|⟨rfl,S,n,hk⟩
  ·obtain ⟨its,_,pl,_⟩:=I.list hq
   refine ⟨pl.isList.typeIs,λ a e=>?_⟩
   cases e
   obtain ⟨o,n,e,c,hd,_⟩:=pl
   exact ⟨o,e,hd⟩
  ·refine ⟨⟨o,I.kIn p o hk,hc⟩,λ a e=>?_⟩
   cases e
   exact ⟨o,I.kIn _ o hk,hd⟩
  ·have z:∃ o,s.heap.get? p=some o/\o.ExactDict:=by
    rcases hk with ⟨kvs,hk⟩|⟨kvs,hk⟩
    ·obtain ⟨_,_,_,_,o,_,_,e,ex,_⟩:=I.hok p _ hk
     exact ⟨o,e,ex⟩
    ·obtain ⟨_,_,_,_,o,_,_,e,ex,_⟩:=I.hok p _ hk
     exact ⟨o,e,ex⟩
   obtain ⟨o,e,ex⟩:=z
   refine ⟨⟨o,e,ex.1⟩,λ a e2=>?_⟩
   cases e2
   exact ⟨o,e,ex.2.1⟩
  ·obtain ⟨o,_,_,_,e,ex,_⟩:=I.hok p _ hk
   refine ⟨⟨o,e,ex.1⟩,λ a e2=>?_⟩
   cases e2
   exact ⟨o,e,ex.2.1⟩
 | _=>exact False.elim ty
def tBM (K:W.Frag)(T:String)(r:V->List V->Hp->VK->Prop)(to:TE)(t:TA):TE:=λ σ H Q=>to σ H λ x H1=>tyV K T x H1/\t σ H1 λ xs H2=>r x xs H2 Q
variable {o e:Expr}{es:List Expr}{to:TE}{t:TA}{name:Str}{apos cpos:Pos}{T id:String}{r:V->List V->Hp->VK->Prop}
theorem qew (pa:PlainAttrs T)(slot:Slot T name id)(hty:typeOf (.builtin id)=pure (.type "method_descriptor"))(hm:MtR X id r)(ho:PE X o to)(ha:PA X (e::es) t)
  (hbase:attributeBase o name X.env (eval o X.env)=eval o X.env:=by rfl)
  (hfew:((backTo cpos (starEach (e::es) X.env)).all (λ x=>!x.1)&&(backToKw cpos (keywordEach [] X.env)).all (λ x=>x.1.isSome)
   && decide ((e::es).length+([]:List Keyword).length+(if ([]:List Keyword).isEmpty then 0 else 1)<30))=true:=by rfl)
  (hline:(apos.endLine==cpos.line)=true:=by rfl) (hs:starEach (e::es) X.env=(false,eval e X.env)::starEach es X.env:=by rfl) (hplain:(backTo cpos (starEach es X.env)).any (·.1)=false:=by rfl) :
  PE X (.Call (.Attribute o name apos) (e::es) [] cpos) (tBM X.K T r to t):=by
 intro pins s σ H Q I h
 refine wpAny_Call_method_late hbase hfew hline rfl (thn (ho pins s σ H _ I h) λ v s1 ⟨x,H1,I1,r1,ty,q1⟩=>?_)
 obtain ⟨h1,h2⟩:=qk9 I1 r1 ty
 refine ⟨T,id,pa,slot,hty,h1,h2,?_⟩
 have hA:=ha cpos pins s1 σ H1 _ I1 q1
 rw [hs] at hA ⊢
 refine Calls.callWith_builtin (by show (false||(backTo cpos (starEach es X.env)).any (·.1))=false;rw [hplain]<;>rfl) (Calls.evalArgs_plain ?_)
 exact thn hA λ us s2 ⟨vs,H2,I2,r2,q2⟩=>hm pins s2 σ H2 x vs v us Q I2 r1 r2 q2
end
def MtM (X:Cx)(id:String)(r:V->List V->Hp->VK->Prop):Prop :=
 ∀ (pins:List (Addr×Obj)) (s:Shared) (σ:St) (H:Hp) (x:V) (xs:List V) (v:Value) (us:List Value) (Q:VK),Inv X pins σ H s->RelV x v->Vals xs us->r x xs H Q->
  wpAny (model X.prog X.w) X.A (call (.builtin id) (v::us)) (EP X pins σ Q) X.xe s
theorem Vals.one:∀ {x:V} {us:List Value},Vals [x] us->∃ u,us=[u]/\RelV x u
 | _,_,.cons r .nil=>⟨_,rfl,r⟩
theorem Vals.two:∀ {x y:V} {us:List Value},Vals [x,y] us->∃ u v,us=[u,v]/\RelV x u/\RelV y v
 | _,_,_,.cons r (.cons q .nil)=>⟨_,_,rfl,r,q⟩
section
variable {X:Cx}{pins:List (Addr×Obj)}{σ:St}{H:Hp}{s:Shared}{l b:Addr}{xs ys zs:List V}
theorem Inv.lset {its its':List Value}{n:Nat}{f:Array Value->Array Value}{t':Nat}(I:Inv X pins σ H s)(hH:H l=some (.lst xs))
  (e:s.heap.get? l=some { cls:=.type "list", data:=.seq its.toArray n }) (hf:f its.toArray=its'.toArray) (hv:Vals ys its') (hz:ys.length<=sizeLine) :
  Inv X pins σ (upd H l (.lst ys)) { s with heap:=s.heap.update l (Obj.mapSeq f),toks:=t' }:=by
 have q:=PySem.IsL.update e f
 rw [hf] at q
 refine I.write (x:=l) (e:=l) (by rw [hH];exact trivial) (.inl rfl) (λ b' u hb hu=>(Heap.get?_update_other s.heap (Obj.mapSeq f) (Ne.symm hb)).trans hu) ⟨_,q⟩ ?_
 exact ⟨hz,its',_,hv,q⟩
theorem Inv.lnew {its:List Value}{t':Nat}(I:Inv X pins σ H s)(hv:Vals ys its)(hz:ys.length<=sizeLine) :
  Inv X pins σ (upd H s.heap.objs.size (.lst ys)) { s with heap:=s.heap.push { cls:=.type "list", data:=.seq its.toArray },toks:=t' } :=
 I.laid (λ _ _ q=>Heap.get?_push_of_some _ q) (Nat.le_refl _) ⟨hz,its,0,hv,Heap.get?_push_size _ rfl⟩
theorem Inv.fresh (I:Inv X pins σ H s):H s.heap.objs.size=none:=I.hok.fresh (Nat.le_refl _)
theorem Inv.lstM (I:Inv X pins σ H s)(hH:H l=some (.lst xs)):xs.length<=sizeLine/\∃ (its:List Value) (n:Nat),Vals xs its/\xs.length=its.length/\s.heap.get? l=some { cls:=.type "list", data:=.seq its.toArray n }:=by
 obtain ⟨z,its,n,r,e⟩:=I.hok l _ hH
 exact ⟨z,its,n,r,r.length,e⟩
end
section
variable {X:Cx}
def qi5:V->List V->Hp->VK->Prop:=λ x vs H Q=>∃ l xs y,x=.ref l/\vs=[y]/\H l=some (.lst xs)/\xs.length<sizeLine/\Q .non (upd H l (.lst (xs++[y])))
theorem Yy:MtM X "list.append" qi5:=by
 intro pins s σ H x vs v us Q I rx rv h
 obtain ⟨l,xs,y,rfl,rfl,hH,hz,q⟩:=h
 cases rx
 obtain ⟨u,rfl,ru⟩:=rv.one
 obtain ⟨z,its,n,r,hl,e⟩:=I.lstM hH
 refine call_meets F.slot_list_append ⟨_,e,rfl⟩ F.entry_list_append (F.args_list_append_2 _ _) (PySem.list_append l its.toArray n u (by rw [List.size_toArray];omega)) ⟨e,?_⟩
 refine ⟨.non,_,I.lset (its':=its++[u]) hH e (by simp) (r.append (.cons ru .nil)) ?_,rfl,q⟩
 rw [List.length_append,List.length_singleton]
 omega
end
section
variable {prog:Program}{w:World}{A:Around}{E:Value->Shared->Prop}{s:Shared}
set_option maxRecDepth 100000 in
end
end L2
namespace Att
open PySem PySem.W PySem.Calls PyProof.Rows
theorem wy {P:Params}{h:Heap}:∀ (ns:List Int) (vs:List Value),WellAll P h vs (ns.map WData.int)->IntsAre vs ns:=by
 intro ns
 induction ns with
 | nil =>
  intro vs w
  rw [List.map_nil] at w
  cases w
  exact .nil
 | cons n ns ih =>
  intro vs w
  rw [List.map_cons] at w
  cases w with
  | cons a b =>
   cases a
   exact .cons _ _ (ih _ b)
theorem qfE {l:OpenLaw}{n:Nat}(hn:l.most=some n){P:Params}{h:Heap}{args:List WData}{vals:List Value}
  (hpre:l.row.toRowW.claim.pre args=true) (hwl:WellAll P h vals args) :
  ∃ a vs ns,vals=[Value.ref a]/\args=[WData.list (ns.map WData.int)]/\h.get? a=some { cls:=.type "list", data:=.seq vs.toArray }/\IntsAre vs ns/\ns.length<=n:=by
 have hsh:WShape.hasAll [] args [.list .int]=true:=(pre_splitW hpre).1
 have hc:l.pre.holds [] { args:=args }=true:=(pre_splitW hpre).2
 obtain ⟨d,r,rfl,h1,h2⟩:=hasAllW_cons hsh
 obtain rfl:=hasAllW_nil h2
 obtain ⟨xs,rfl,h3⟩:=hasW_list h1
 obtain ⟨ns,rfl⟩:=items_int h3
 have hlen:ns.length<=n:=by
  unfold OpenLaw.pre at hc
  have h4:(WTm.not (.lt (.lit (.int (n:Int))) (.len (.arg 0)))).holds [] { args:=[.list (ns.map .int)] }=true:=by
   have h4:=(holds_andW hc).1
   rw [hn] at h4
   exact h4
  have h5:=condW_of h4 (w_not (w_lt w_lit (w_len_list (w_arg rfl))))
  rw [List.length_map] at h5
  refine Nat.le_of_not_lt λ q=>?_
  have q':(n:Int)<((ns.length:Nat):Int):=by omega
  first
   | (rw [decide_eq_true q'] at h5;exact absurd h5 (by decide))
   | (simp at h5;omega)
 cases hwl with
 | cons w1 w2 =>
  cases w2
  cases w1 with
  | list ho hall=>exact ⟨_,_,ns,rfl,rfl,ho,wy ns _ hall,hlen⟩
theorem qfB (l:OpenLaw)(args:List WData):l.row.toRowW.claim.post args (.bool true) args=true :=
 postW_of (r:=l.row.toRowW) (X:=(true==true))
  (show WShape.has [] (.bool true) .bool=true by first|rfl|decide|simp [WShape.has,WShape.arms,WShape.armsAll])
  (show (WTm.eq .res (.lit (.bool true))).value [] { args:=args,res:=some (.bool true),after:=args }=some (.bool (true==true)) from w_eq_bool (w_res rfl) w_lit) rfl
end Att
namespace L2
open PySem PySem.Spec PyProof.Rows
theorem qaG:∀ {vs:List Value} {ns:List Int},IntsAre vs ns->Vals (ns.map V.int) vs
 | _,_,.nil=>.nil
 | _,_,.cons n t h=>.cons ⟨t,rfl⟩ (qaG h)
def Only (H:Hp):Prop:=∀ b,H b=none\/∃ o xs,H b=some (.frz o (.lst xs))
theorem qgH {P:Program}{w:World}{K:W.Frag}{mg mb:Str->Option Value}{CX:CXT}{k:Nat}{fa a:Addr}{fd:FuncData}{x:Str}{sp:Sp}{s₁:Shared}{vs:List Value}{ns:List Int}
  (KX:K.In s₁.heap) (hns:s₁.heap.Ns mainGlobals mg) (hb:s₁.heap.Ns builtinsNs mb) (hbb:∀ x:Str,x ≠ "__name__"->mb x=bootBuiltins x) (hlim:s₁.heap.NoLimit) (hg:s₁.gens=#[])
  (ha:s₁.heap.get? a=some { cls:=.type "list", data:=.seq vs.toArray }) (hi:IntsAre vs ns) (hl:ns.length<=sizeLine) (hr:Room k callerA)
  (F:∀ base:Heap,K.In base->base.Ns mainGlobals mg->FnOk P w K mg base CX k fa fd [x] sp) (hbind:∀ (s:Shared) (u:Value),BindsTo s fd ⟨[u],[]⟩ [(x,u)])
  (hsp:∀ H:Hp,Only H->SqL K H a (ns.map V.int)->sp [.ref a] H (λ v _=>v=.bl true) λ _ _ _=>False)
  (hCX:∀ H e s',CX [] H s₁ (λ _ _ _=>False) e s'->False) :
  codeAny (model P w) callerA (.call (.ref fa) ⟨[.ref a],[]⟩) (λ r s'=>r=.ok (.ret (.bool true))/\OldK s₁.heap s'.heap/\s'.os=s₁.os/\AllBare s'.gens) s₁:=by
 have rv:=qaG hi
 have lenV:=hi.length
 have core:∀ H:Hp,Only H->SqL K H a (ns.map V.int)->HOk P w H s₁.heap->(∀ b,H b≠none->b=a)->(H a≠none->K.lookup a=none)->
   codeAny (model P w) callerA (.call (.ref fa) ⟨[.ref a],[]⟩) (λ r s'=>r=.ok (.ret (.bool true))/\OldK s₁.heap s'.heap/\s'.os=s₁.os/\AllBare s'.gens) s₁:=by
  intro H hO hS hok hA hK
  have base_of:∀ {b:Addr} {o:Obj},s₁.heap.get? b=some o->H b=none->(hidT s₁.heap H).get? b=some o:=λ e n=>qgt e n
  have noA:∀ {b:Addr} {o:Obj} {es:Array DictEntry} {ep:Nat},s₁.heap.get? b=some o->o.data=.dict es ep->H b=none:=λ {b o es ep} e d=>by
   cases q:H b with
   | none=>rfl
   | some u =>
    have e':b=a:=hA b (by rw [q];simp)
    subst e'
    rw [ha] at e;cases e
    have d':Data.seq vs.toArray _=Data.dict es ep:=d
    cases d'
  have nsK:∀ {b:Addr} {m:Str->Option Value},s₁.heap.Ns b m->(hidT s₁.heap H).Ns b m:=λ {b m} ⟨o,es,ep,e,d,r⟩=>⟨o,es,ep,base_of e (noA e d),d,r⟩
  have hKb:K.In (hidT s₁.heap H):=λ b o e=>base_of (KX b o e) (by
   cases q:H b with
   | none=>rfl
   | some u =>
    have e':b=a:=hA b (by rw [q];simp)
    subst e'
    rw [hK (by rw [q];simp)] at e;cases e)
  have hM:Mod K mg (hidT s₁.heap H):=⟨hKb,nsK hns,⟨mb,nsK hb,hbb⟩,let ⟨mc,h1,h2⟩:=hlim;⟨mc,nsK h1,h2⟩⟩
  have e0:Env0 P w K mg (hidT s₁.heap H) callerA [] s₁ H:=⟨rfl,hM,λ b o e=>qiz e,Nat.le_of_eq (qfa _ _),trivial,λ b hb=>absurd (show b∈([]:List Addr) from hb) (by simp),hok,.of_eq hg⟩
  refine codeAny_mono ((F _ hKb (nsK hns)).run callerA [] s₁ H ⟨[.ref a],[]⟩ [.ref a] [.ref a] _ _ hr e0 (hbind s₁ (.ref a)) (.cons rfl .nil) (hsp H hO hS)) λ r s' h=>?_
  cases r with
  | error e=>exact (hCX H e s' h).elim
  | ok fl =>
   cases fl with
   | next=>exact False.elim h
   | brk=>exact False.elim h
   | cont=>exact False.elim h
   | ret u =>
    obtain ⟨v,H',os,bare,un,hok',r',q⟩:=h
    have q':v=.bl true:=q
    subst q'
    obtain rfl:u=Value.bool true:=r'
    refine ⟨rfl,OldK.of_keep λ b o e=>?_,os,bare⟩
    cases q:H b with
    | none=>exact un.keep b o e q (by intro z;exact absurd (show b∈([]:List Addr) from z) (by simp)) (by simp)
    | some u =>
     rcases hO b with z|⟨ob,xs,z⟩
     ·rw [q] at z;cases z
     ·have z2:=un.frzs b ob _ z
      obtain ⟨e1,_⟩:=hok b _ z
      obtain ⟨e2,_⟩:=hok' b _ z2
      rw [e] at e1;cases e1
      exact e2
 cases hk:K.lookup a with
 | some o =>
  have e:=KX a o hk
  rw [ha] at e
  cases e
  refine core (λ _=>none) (λ _=>.inl rfl) (.inr ⟨_,vs.toArray,_,hk,rfl,rfl,rfl,by rw [List.size_toArray,lenV];exact hl,by simpa using rv⟩) (λ b u z=>by have z':(none:Option HO)=some u:=z;cases z') (λ b z=>absurd rfl z) λ z=>absurd rfl z
 | none =>
  refine core (λ b=>if b=a then some (.frz { cls:=.type "list", data:=.seq vs.toArray } (.lst (ns.map V.int))) else none) (λ b=>?_) (.inl (.inr ⟨{ cls:=.type "list", data:=.seq vs.toArray },if_pos rfl⟩)) (λ b u z=>?_) (λ b z=>?_) λ _=>hk
  ·by_cases hb:b=a
   ·exact .inr ⟨_,_,if_pos hb⟩
   ·exact .inl (if_neg hb)
  ·by_cases hb:b=a
   ·have z':=(if_pos hb).symm.trans z
    cases z'
    subst hb
    exact ⟨ha,by rw [List.length_map];exact hl,vs,_,rv,ha⟩
   ·have z':=(if_neg hb).symm.trans z
    cases z'
  ·by_cases hb:b=a
   ·exact hb
   ·exact absurd (if_neg hb) z
def jr (s:Stmt):Arguments:=match s with
 | .FunctionDef _ a _ _ _ _ _ _ _ _=>a
 | _=>{ posonlyargs:=[],args:=[],vararg:=none,kwonlyargs:=[],kw_defaults:=[],kwarg:=none,defaults:=[] }
def QX (s:Stmt):List Stmt:=match s with
 | .FunctionDef _ _ b _ _ _ _ _ _ _=>b
 | _=>[]
def qm (s:Stmt):Scope:=match s with
 | .FunctionDef _ _ _ _ _ _ sc _ _ _=>sc
 | _=>{ kind:=.function,names:=[],isGenerator:=false,isCoroutine:=false }
abbrev CX0:CXT:=λ _ _ _ _ _ _=>False
abbrev E0:XK:=λ _ _ _=>False
theorem pass0 {X:Cx}:qaI CX0 X E0:=λ _ _ _ _ _ _ _ h=>h.elim
structure Fun (K:W.Frag)(x qual:Str)(st:Stmt)(f:Addr)(fd:FuncData):Prop where
 ex:∃ (oc:Value) (od:Option Addr) (kV doc pm:Value) (an:Option Addr) (cdv ct:Value) (osl:Array (Option Value)),
  fd=W.fnOf x qual (jr st) (QX st) (qm st) .none kV doc pm an cdv ct/\K.lookup f=some ⟨oc,od,.func fd,osl⟩/\W.codeIn K cdv qual=true
 kp:W.keepIn K (.ref f)=true
section
variable {P:Program}{w:World}{K:W.Frag}{mg:Str->Option Value}{base:Heap}
theorem Fun.ok {x qual:Str}{st:Stmt}{f:Addr}{fd:FuncData}{N ps:List Str}{k:Nat}{sp:Sp}(F:Fun K x qual st f fd)(S:FnScope N ps (qm st))(len:∀ vs H Q E,sp vs H Q E->vs.length=ps.length)
  (hbody:∀ (cdv:Value) (A:Around) (outer:List Env) (s:Shared) (H:Hp) (vs:List V) (Q:VK) (E:XK),Room k (A.deeper (envOfC qual (qm st) s.heap.objs.size f cdv))->sp vs H Q E->
   ∃ t,PSs (cxOf CX0 P w K mg base N qual (qm st) f cdv A outer s H E).nox (QX st) t/\t { nx:=λ _ H'=>Q .non H',rt:=Q } (start N vs) H):FnOk P w K mg base CX0 (k+1) f fd ps sp:=by
 obtain ⟨oc,od,kV,doc,pm,an,cdv,ct,osl,rfl,lk,hcd⟩:=F.ex
 refine qjp lk hcd S len λ A outer s H vs Q E hr hsp=>?_
 obtain ⟨t,h,q⟩:=hbody cdv A outer s H vs Q E hr hsp
 exact ⟨t,h.nox,q⟩
theorem Fun.binds {x qual:Str}{st:Stmt}{f:Addr}{fd:FuncData}{ps:List Str}(F:Fun K x qual st f fd)
  (h:∀ (kV doc pm:Value) (an:Option Addr) (cdv ct:Value) (us:List Value),us.length=ps.length->bindArgs (W.fnOf x qual (jr st) (QX st) (qm st) .none kV doc pm an cdv ct) ⟨us,[]⟩=pure (ps.zip us)):Binds K fd ps []:=by
 obtain ⟨oc,od,kV,doc,pm,an,cdv,ct,osl,rfl,lk,hcd⟩:=F.ex
 exact .all (h kV doc pm an cdv ct)
theorem qgq {x qual:Str}{st:Stmt}{f:Addr}{oc:Value}{od an:Option Addr}{osl:Array (Option Value)}{kV doc pm cdv ct:Value}(l:K.lookup f=some ⟨oc,od,.func (W.fnOf x qual (jr st) (QX st) (qm st) .none kV doc pm an cdv ct),osl⟩)
  (c:W.codeIn K cdv qual=true) (k:W.keepIn K (.ref f)=true):Fun K x qual st f (W.fnOf x qual (jr st) (QX st) (qm st) .none kV doc pm an cdv ct):=⟨⟨oc,od,kV,doc,pm,an,cdv,ct,osl,rfl,l,c⟩,k⟩
end
theorem zX {n:Nat}(h:n<=1000):n<sizeLine:=Nat.lt_of_le_of_lt h (by decide)
theorem iteF {A B:Prop}(h:B):if false=true then A else B:=by
 rw [if_neg Bool.false_ne_true]
 exact h
theorem iteT {A B:Prop}(h:A):if true=true then A else B:=by
 rw [if_pos rfl]
 exact h
def Same (H H':Hp):Prop:=∀ b o,H b=some o->H' b=some o
theorem Same.refl (H:Hp):Same H H:=λ _ _ h=>h
theorem Same.trans {H H1 H2:Hp}(a:Same H H1)(b:Same H1 H2):Same H H2:=λ c o h=>b c o (a c o h)
theorem Same.free {H H':Hp}(e:Same H H'){l:Addr}(h:H' l=Option.none):H l=Option.none:=by
 cases q:H l with
 | none=>rfl
 | some o =>
  rw [e l o q] at h
  cases h
theorem Same.seq {K:W.Frag}{H H':Hp}{a:Addr}{xs:List V}(e:Same H H')(h:SqL K H a xs):SqL K H' a xs:=by
 rcases h with (h|⟨o,h⟩)|h
 ·exact .inl (.inl (e _ _ h))
 ·exact .inl (.inr ⟨o,e _ _ h⟩)
 ·exact .inr h
end L2
set_option maxHeartbeats 4000000
namespace L2
open PySem PySem.Spec PyProof.Rows
theorem Ji {env:Env}(body:(Str×NameKind)->List (Str×Addr)->Sem (ForInStep (List (Str×Addr))))
  (hf:∀ n k acc c,k=NameKind.free->env.cells.lookup n=some c->body (n,k) acc=pure (.yield ((n,c)::acc)))
  (hn:∀ n k acc,k≠NameKind.free->body (n,k) acc=pure (.yield acc)) :
  ∀ (names:List (Str×NameKind)) (acc:List (Str×Addr)),(∀ y∈names,y.2=.free->∃ c,env.cells.lookup y.1=some c)->
   (∀ y c,acc.lookup y=some c->env.cells.lookup y=some c)->
   ∃ cl,forIn names acc body=pure cl/\(∀ y c,cl.lookup y=some c->env.cells.lookup y=some c)/\(∀ y,(∃ c,acc.lookup y=some c)->∃ c,cl.lookup y=some c)/\∀ y,(y,NameKind.free)∈names->∃ c,cl.lookup y=some c
 | [],acc,_,ha=>⟨acc,rfl,ha,λ _ h=>h,λ _ h=>by cases h⟩
 | (n,k)::r,acc,h,ha=>by
  by_cases hk:k=NameKind.free
  ·obtain ⟨c,hc⟩:=h (n,k) List.mem_cons_self hk
   obtain ⟨cl,e,h1,h2,h3⟩:=Ji body hf hn r ((n,c)::acc) (λ y hy=>h y (List.mem_cons_of_mem _ hy)) (λ y c' e=>by
    rw [List.lookup_cons] at e
    split at e
    ·rename_i q
     have q':y=n:=by simpa using q
     subst q';cases e;exact hc
    ·exact ha y c' e)
   refine ⟨cl,?_,h1,λ y hy=>h2 y ?_,λ y hy=>?_⟩
   ·rw [List.forIn_cons,hf n k acc c hk hc]
    exact e
   ·obtain ⟨c',e'⟩:=hy
    rw [List.lookup_cons]
    split
    ·exact ⟨_,rfl⟩
    ·exact ⟨_,e'⟩
   ·rcases List.mem_cons.mp hy with q|q
    ·cases q
     exact h2 _ ⟨c,by rw [List.lookup_cons];simp⟩
    ·exact h3 y q
  ·obtain ⟨cl,e,h1,h2,h3⟩:=Ji body hf hn r acc (λ y hy=>h y (List.mem_cons_of_mem _ hy)) ha
   refine ⟨cl,?_,h1,h2,λ y hy=>?_⟩
   ·rw [List.forIn_cons,hn n k acc hk]
    exact e
   ·rcases List.mem_cons.mp hy with q|q
    ·cases q;exact absurd rfl hk
    ·exact h3 y q
theorem wW {sc:Scope}{env:Env}(h:∀ y∈sc.names,y.2=.free->∃ c,env.cells.lookup y.1=some c) :
  ∃ cl,closureFor sc env=pure cl/\(∀ y c,cl.lookup y=some c->env.cells.lookup y=some c)/\∀ y,(y,NameKind.free)∈sc.names->∃ c,cl.lookup y=some c:=by
 simp only [closureFor]
 obtain ⟨cl,e,h1,_,h3⟩:=Ji (env:=env) (λ x cs=>if (x.2==NameKind.free)=true then (do let a ← cellOf env x.1;pure (ForInStep.yield ((x.1,a)::cs))) else pure (ForInStep.yield cs)) (λ n k acc c hk hc=>by
   subst hk
   simp only [cellOf,hc,beq_self_eq_true,if_true];rfl) (λ n k acc hk=>by
   have:(k==NameKind.free)=false:=by simpa using hk
   simp only [this,Bool.false_eq_true,if_false]) sc.names [] h (λ y c e=>by cases e)
 refine ⟨cl,?_,h1,h3⟩
 exact (congrArg (· >>= λ r=>pure r) e).trans rfl
def qX (X:Cx)(N':List Str)(sc:Scope)(cl:List (Str×Addr))(C:Addr)(fp:List Addr)(pins:List (Addr×Obj))(s:Shared)(H:Hp):Cx where
 prog:=X.prog
 w:=X.w
 K:=X.K
 mg:=X.mg
 base:=X.base
 A:=X.A
 N:=N'
 s₀:=s
 H₀:=H
 env:=compEnvC sc cl C X.env
 outer:=X.stack
 stack:=X.stack
 ex:=fp
 fn:=λ x=>decide (sc.names.lookup x=some .cell)
 calm:=X.calm
 pn:=X.pn++pins
 xe:=λ _ _=>False
def PTs (X:Cx)(ifs:List Expr)(t:TT):Prop :=
 ∀ (pins:List (Addr×Obj)) (s:Shared) (σ:St) (H:Hp) (Q:Bool->Hp->Prop),Inv X pins σ H s->t σ H Q->
  wpAny (model X.prog X.w) X.A (forIn ifs true λ c r=>if r=true then do let ok ← isTrue c X.env (eval c X.env);pure (ForInStep.yield ok) else pure (ForInStep.yield r)) (TP X pins σ Q) X.xe s
def tTru:TT:=λ _ H Q=>Q true H
theorem qi2 {X:Cx}:PTs X [] tTru:=λ _ _ _ H _ I h=>wpAny_tests_nil ⟨H,I,h⟩
theorem qi3 {X:Cx}{c:Expr}{t:TT}(h:PT X c t):PTs X [c] t:=λ pins s σ H Q I q=>wpAny_tests_one (h pins s σ H Q I q)
theorem thF {α:Type}{t:Sem α}{Q Q':α->Shared->Prop}{M:Model}{A:Around}{E:Value->Shared->Prop}{s:Shared}(h:wpAny M A t Q (λ _ _=>False) s)(hQ:∀ a s,Q a s->Q' a s):wpAny M A t Q' E s:=wpAny_mono h hQ λ _ _ x=>x.elim
theorem qdm {prog:Program}{w:World}{A:Around}{R:Result->Shared->Prop}{s:Shared}{elt target iter:Expr}{ifs:List Expr}{scope:Scope}{pos:Pos}{it acc:Value}{env:Env}(I:Nat->Shared->Prop)
  (turn:∀ n s,I n s->wpAny (model prog w) A (pyNext it) (λ r s₁=>match r with
   | none=>R (.ok .next) s₁
   | some v=>wpAny (model prog w) A (letOwnedTupleGo target it v) (λ _ s₁=>wpAny (model prog w) A (assign target env v) (λ _ s₂ =>
     wpAny (model prog w) A (forIn ifs true λ c r=>if r=true then do let ok ← isTrue c env (eval c env);pure (ForInStep.yield ok) else pure (ForInStep.yield r)) (λ ok s₃ =>
      if ok=true then wpAny (model prog w) A (eval elt env) (λ x s₄ =>
       wpAny (model prog w) A (call (.builtin "list.append") [acc,x]) (λ _ s₅=>∃ m,m<n/\I m s₅) (notedBy (model prog w) A env λ e s'=>R (.error e) s') s₄) (notedBy (model prog w) A env λ e s'=>R (.error e) s') s₃
      else ∃ m,m<n/\I m s₃) (notedBy (model prog w) A env λ e s'=>R (.error e) s') s₂) (notedBy (model prog w) A env λ e s'=>R (.error e) s') s₁) (notedBy (model prog w) A env λ e s'=>R (.error e) s') s₁) (notedBy (model prog w) A env λ e s'=>R (.error e) s') s)
  (n:Nat) (h:I n s) :
  codeAny (model prog w) A (.compLoop (.ListComp elt [⟨target,iter,ifs,0⟩] scope pos) 0 it acc env) R s:=by
 refine codeAny_loop rfl I (λ n s hI=>?_) n h
 show wpAny _ A ((compTurn (.ListComp elt [⟨target,iter,ifs,0⟩] scope pos) 0 it acc env).onRaise (λ x=>do noteFrame x env;theTreesLotGoes x)) _ _ s
 refine wpAny_noted ?_
 rw [compTurn_list]
 refine wpAny_bind (wpAny_standAt (wpAny_bind (wpAny_mono (turn n s hI) (λ r s₁ h₁=>?_) λ _ _ h'=>h')))
 cases r with
 | none=>exact wpAny_pure h₁
 | some v =>
  refine wpAny_bind (wpAny_mono h₁ (λ _ s₁' h₁'=>?_) λ _ _ h'=>h')
  refine wpAny_bind (wpAny_mono h₁' (λ _ s₂ h₂=>wpAny_bind (wpAny_mono h₂ (λ ok s₃ h₃=>?_) λ _ _ h'=>h')) λ _ _ h'=>h')
  cases ok with
  | false=>exact wpAny_pure ⟨rfl,h₃⟩
  | true =>
   exact wpAny_bind (wpAny_bind (wpAny_mono h₃ (λ x s₄ h₄=>wpAny_bind (wpAny_mono h₄ (λ _ s₅ h₅=>wpAny_pure (wpAny_pure ⟨rfl,h₅⟩)) λ _ _ h'=>h')) λ _ _ h'=>h'))
structure CompOk (X:Cx)(N':List Str)(k:Nat)(sc:Scope):Prop where
 calm:X.calm=true
 kind:sc.kind=.function
 nd:X.N.Nodup
 nd':N'.Nodup
 len:N'.length=X.N.length+k
 cells:∀ y∈sc.names,y.2=.cell->sc.names.lookup y.1=some .cell
 names:∀ y∈sc.names,y.2=.local->sc.names.lookup y.1=some .local
 old:∀ i y,i<X.N.length->N'[i]?=some y->(X.N[i]?=some y/\sc.names.lookup y≠some .local/\sc.names.lookup y≠some .cell)\/sc.names.lookup y=none
 free:∀ y∈sc.names,y.2=.free->X.env.kindOf y.1=some .cell\/X.env.kindOf y.1=some .free
theorem qf6 (lo:Nat):∀ (names:List (Str×NameKind)) (h:Heap) (acc:List (Str×Addr)),lo<=h.objs.size->(∀ y c,acc.lookup y=some c->lo<=c->c<h.objs.size)->(∀ y z c,lo<=c->acc.lookup y=some c->acc.lookup z=some c->y=z)->
  (∀ y c,(cellsFrom h.objs.size names acc).lookup y=some c->acc.lookup y=some c\/(h.objs.size<=c/\(pushCells h names).IsCell c none))/\(∀ y,(∃ c,acc.lookup y=some c)->∃ c,(cellsFrom h.objs.size names acc).lookup y=some c)/\
  (∀ y,(y,NameKind.cell)∈names->∃ c,(cellsFrom h.objs.size names acc).lookup y=some c/\h.objs.size<=c)/\(∀ y,(y,NameKind.cell)∉names->(cellsFrom h.objs.size names acc).lookup y=acc.lookup y)/\
  ∀ y z c,lo<=c->(cellsFrom h.objs.size names acc).lookup y=some c->(cellsFrom h.objs.size names acc).lookup z=some c->y=z
 | [],h,acc,_,_,inj=>⟨λ _ _ e=>.inl e,λ _ e=>e,(λ _ e=>by cases e),λ _ _=>rfl,inj⟩
 | (name,kind)::r,h,acc,hl,hb,inj=>by
  by_cases hk:kind=.cell
  ·subst hk
   have sz:(h.push { cls:=.type "cell", data:=.cell none }).objs.size=h.objs.size+1:=Heap.size_push ..
   have lk:∀ y,List.lookup y ((name,h.objs.size)::acc)=if y=name then some h.objs.size else acc.lookup y:=λ y=>by
    rw [List.lookup_cons]
    by_cases q:y=name
    ·rw [if_pos q,beq_iff_eq.mpr q]
    ·rw [if_neg q,beq_eq_false_iff_ne.mpr q]
   obtain ⟨a1,a2,a3,a4,a5⟩:=qf6 lo r (h.push { cls:=.type "cell", data:=.cell none }) ((name,h.objs.size)::acc) (by omega) (λ y c e q=>by
     rw [lk] at e
     rw [sz]
     split at e
     ·cases e;exact Nat.lt_succ_self _
     ·exact Nat.lt_succ_of_lt (hb y c e q)) (λ y z c q e1 e2=>by
     rw [lk] at e1 e2
     split at e1<;>split at e2
     ·rename_i u v;rw [u,v]
     ·cases e1;exact absurd (hb z _ e2 q) (Nat.lt_irrefl _)
     ·cases e2;exact absurd (hb y _ e1 q) (Nat.lt_irrefl _)
     ·exact inj y z c q e1 e2)
   rw [sz] at a1 a2 a3 a4 a5
   have e0:cellsFrom h.objs.size ((name,NameKind.cell)::r) acc=cellsFrom (h.objs.size+1) r ((name,h.objs.size)::acc):=rfl
   have e1:pushCells h ((name,NameKind.cell)::r)=pushCells (h.push { cls:=.type "cell", data:=.cell none }) r:=rfl
   rw [e0,e1]
   have b1:∀ y c,(cellsFrom (h.objs.size+1) r ((name,h.objs.size)::acc)).lookup y=some c->acc.lookup y=some c\/(h.objs.size<=c/\(pushCells (h.push { cls:=.type "cell", data:=.cell none }) r).IsCell c none):=λ y c e=>by
    rcases a1 y c e with q|⟨q1,q2⟩
    ·rw [lk] at q
     split at q
     ·cases q
      exact .inr ⟨Nat.le_refl _,_,pushCells_keeps r _ _ _ (Heap.get?_push_size _ rfl),rfl⟩
     ·exact .inl q
    ·exact .inr ⟨by omega,q2⟩
   refine ⟨b1,λ y e=>a2 y ?_,λ y e=>?_,λ y e=>?_,a5⟩
   ·obtain ⟨c,e⟩:=e
    rw [lk]
    split
    ·exact ⟨_,rfl⟩
    ·exact ⟨_,e⟩
   ·rcases List.mem_cons.mp e with q|q
    ·cases q
     obtain ⟨c,q⟩:=a2 name ⟨h.objs.size,by rw [lk,if_pos rfl]⟩
     refine ⟨c,q,?_⟩
     rcases a1 name c q with z|z
     ·rw [lk,if_pos rfl] at z;cases z;exact Nat.le_refl _
     ·omega
    ·obtain ⟨c,q1,q2⟩:=a3 y q
     exact ⟨c,q1,by omega⟩
   ·rw [a4 y λ z=>e (List.mem_cons_of_mem _ z),lk,if_neg λ z=>e (by rw [z];exact List.mem_cons_self)]
  ·have hb':(kind==NameKind.cell)=false:=beq_eq_false_iff_ne.mpr hk
   have e0:cellsFrom h.objs.size ((name,kind)::r) acc=cellsFrom h.objs.size r acc:=by rw [cellsFrom,hb'];rfl
   have e1:pushCells h ((name,kind)::r)=pushCells h r:=by rw [pushCells,hb'];rfl
   rw [e0,e1]
   obtain ⟨a1,a2,a3,a4,a5⟩:=qf6 lo r h acc hl hb inj
   refine ⟨a1,a2,λ y e=>?_,λ y e=>a4 y λ z=>e (List.mem_cons_of_mem _ z),a5⟩
   rcases List.mem_cons.mp e with q|q
   ·cases q;exact absurd rfl hk
   ·exact a3 y q
theorem qix {M:Model}{A:Around}{E:Value->Shared->Prop}{s:Shared}{sc:Scope}{gl:Addr}{cl:List (Str×Addr)}{qual:Str}{func:Option Addr}{code:Value}{env:Env}{bl:Addr}{Q:Env->Shared->Prop}
  (hQ:Q (newEnv sc s.heap.objs.size gl (cellsFrom (s.heap.objs.size+1) sc.names cl) qual func code (some env) bl) { s with heap:=pushCells (s.heap.push { cls:=.type "dict", data:=.dict #[] }) sc.names }) :
  wpAny M A (newFunctionEnv sc gl cl [] qual func code (some env) bl) Q E s:=by
 simp only [newFunctionEnv,Option.isSome_some,if_true]
 refine wpAny_bind (wpAny_alloc (wpAny_bind (wpAny_layCells _ (λ name kind cells=>by cases hkc:kind==NameKind.cell<;>simp [hkc]) _ _ _ _ ?_)))
 rw [show ({ s with heap:=s.heap.push { cls:=.type "dict", data:=.dict #[] } }:Shared).heap.objs.size=s.heap.objs.size+1 from Heap.size_push ..]
 rw [List.forIn_nil]
 exact wpAny_bind (wpAny_pure (wpAny_pure hQ))
structure ClOk (X:Cx)(sc:Scope)(cl:List (Str×Addr))(n:Nat)(h:Heap):Prop where
 old:∀ y c,cl.lookup y=some c->X.env.cells.lookup y=some c\/(n<c/\∃ v,h.IsCell c v)
 free:∀ y,sc.names.lookup y=some .free->∃ c,cl.lookup y=some c/\X.env.cells.lookup y=some c
 cell:∀ y,sc.names.lookup y=some .cell->∃ c,cl.lookup y=some c/\n<c
 inj:∀ y z c,cl.lookup y=some c->cl.lookup z=some c->y=z
def qhw (J:It)(wg:TG)(tt:TT)(te:TE)(W:Nat->Nat->List V->St->Hp->Prop)(i m:Nat)(ys:List V)(σ:St)(H:Hp):Prop :=
 ∀ x H2,J.yld i H x H2->wg x σ H2 λ σ3 H3=>tt σ3 H3 λ b H4=>if b=true then te σ3 H4 λ v H5=>ys.length<sizeLine/\∃ m',m'<m/\W (i+1) m' (ys++[v]) σ3 H5
  else ∃ m',m'<m/\W (i+1) m' ys σ3 H4
def qhx (k:Nat)(J:It)(wg:TG)(tt:TT)(te:TE)(σ:St)(H:Hp)(Q:VK):Prop :=
 ∃ W:Nat->Nat->List V->St->Hp->Prop,(∃ m,W 0 m [] (σ++List.replicate k none) H)/\∀ i m ys σ' H',W i m ys σ' H'->
  (J.stop i H'/\∀ D,H' D=none->Q (.ref D) (upd H' D (.lst ys)))\/(J.go i H'/\qhw J wg tt te W i m ys σ' H')
def qcO (k:Nat)(wi:TI)(wg:TG)(tt:TT)(te:TE):TE:=λ σ H Q=>wi σ H λ J H1=>qhx k J wg tt te σ H1 Q
theorem QH {env:Env}:∀ {names:List (Str×NameKind)} {x:Str} {k:NameKind},
  (names.map λ (n,k)=>if (k==NameKind.free&&env.scope.kind==.function&&env.kindOf n==some .cell) then (n,NameKind.cell) else (n,k)).lookup x=some k->
   (names.lookup x=some k)\/(k=.cell/\names.lookup x=some .free)
 | [],_,_,h=>by simp at h
 | (n,k')::r,x,k,h=>by
  have h':List.lookup x ((if (k'==NameKind.free&&env.scope.kind==.function&&env.kindOf n==some .cell)=true then (n,NameKind.cell) else (n,k'))::(r.map λ (n,k)=>if (k==NameKind.free&&env.scope.kind==.function&&env.kindOf n==some .cell) then (n,NameKind.cell) else (n,k)))=some k:=h
  have ih:=@QH env r x k
  cases hx:x==n with
  | true =>
   by_cases hc:(k'==NameKind.free&&env.scope.kind==.function&&env.kindOf n==some .cell)=true
   ·rw [if_pos hc] at h'
    simp only [List.lookup_cons,hx] at h' ⊢
    cases h'
    have:k'=.free:=by
     rw [Bool.and_eq_true,Bool.and_eq_true] at hc
     simpa using hc.1.1
    subst this
    exact .inr ⟨rfl,rfl⟩
   ·rw [if_neg hc] at h'
    simp only [List.lookup_cons,hx] at h' ⊢
    exact .inl h'
  | false =>
   by_cases hc:(k'==NameKind.free&&env.scope.kind==.function&&env.kindOf n==some .cell)=true
   ·rw [if_pos hc] at h'
    simp only [List.lookup_cons,hx] at h' ⊢
    exact ih h'
   ·rw [if_neg hc] at h'
    simp only [List.lookup_cons,hx] at h' ⊢
    exact ih h'
section
variable {X:Cx}{elt iter:Expr}{ifs:List Expr}{tg:Expr}{N':List Str}{sc:Scope}{pos:Pos}{wi:TI}{wg:TG}{tt:TT}{te:TE}{k:Nat}
theorem qf9 {pins:List (Addr×Obj)}{σ:St}{H:Hp}{s s':Shared}{cl:List (Str×Addr)}{fp:List Addr}{m:Str->Option Value}(O:CompOk X N' k sc)(I:Inv X pins σ H s)(cK:ClOk X sc cl s.heap.objs.size s'.heap)
  (hf:∀ b∈fp,FpOk X pins H b) (hlt:∀ b∈fp,b<s.heap.objs.size) (hos:s'.os=s.os) (hg:s'.gens=s.gens) (hk:∀ b o,s.heap.get? b=some o->s'.heap.get? b=some o) (hns:s'.heap.Ns s.heap.objs.size m) :
  Inv (qX X N' sc cl s.heap.objs.size fp pins s H) [] (σ++List.replicate k none) H s':=by
 have stk:∀ b,b≠X.env.locals->b∉X.fs->b∉frs X.stack:=λ b h1 h2 hb=>by
  rcases List.mem_cons.mp (I.stkSub b hb) with z|z
  ·exact h1 z
  ·exact h2 z
 have hr:∀ {y:Str},(relabel sc X.env).names.lookup y=some .cell\/(relabel sc X.env).names.lookup y=some .free->sc.names.lookup y=some .free\/sc.names.lookup y=some .cell:=λ {y} h=>by
  rcases h with h|h
  ·rcases QH h with q|q
   ·exact .inr q
   ·exact .inl q.2
  ·rcases QH h with q|q
   ·exact .inl q
   ·exact .inl q.2
 refine ⟨⟨I.ok.mod,O.kind,I.ok.glob,I.ok.blt,Nat.le_refl _,cK.inj,λ y hy=>?_,λ y c z e=>?_,I.ok.hd,I.ok.frames,.inl rfl,λ b hb=>?_,I.bs,Nat.le_trans I.ok.bsz I.sz,λ b o e hb=>?_,λ b hb=>?_,I.stack,I.stkFree⟩,
  hos,?_,Un.kept hk,⟨m,hns,λ i y v h1 h2 h3=>?_⟩,λ y c h=>?_,I.hok.fresh (Nat.le_refl _),λ y c h=>(cK.old y c h).elim (I.freeC y c) λ z=>I.hok.fresh (Nat.le_of_lt z.1),λ p hp=>?_,I.hok.kept hk,?_⟩
 ·rcases hr hy with q|q
  ·obtain ⟨c,e,_⟩:=cK.free y q;exact ⟨c,e⟩
  ·obtain ⟨c,e,_⟩:=cK.cell y q;exact ⟨c,e⟩
 ·obtain ⟨c',e',q⟩:=cK.cell y (of_decide_eq_true z)
  have e:cl.lookup y=some c:=e
  rw [e'] at e;cases e
  exact Nat.le_of_lt q
 ·have q:=hf b hb
  exact ⟨Nat.ne_of_lt (hlt b hb),λ z c e=>(cK.old z c e).elim (q.2.2.2.2.1 z c) λ w=>Nat.ne_of_gt (Nat.lt_trans (hlt b hb) w.1)⟩
 ·have hb':b∈fp:=hb
  rcases (hf b hb').2.2.2.1 with z|z
  ·exact I.ok.noex b o e z
  ·exact absurd (Nat.lt_of_lt_of_le (Heap.lt_size (I.ok.bs b o e).1) z) (Nat.lt_irrefl _)
 ·exact stk b (hf b hb).2.1 (hf b hb).2.2.1
 ·rw [hg];exact I.bare
 ·have hl:=I.len
  have hi:i<X.N.length:=by
   by_cases hi:i<X.N.length
   ·exact hi
   ·rw [List.getElem?_append_right (by omega)] at h2
    have:=List.getElem?_replicate (a:=(none:Option V)) (n:=k) (i:=i-σ.length)
    rw [this] at h2
    split at h2<;>cases h2
  have h1':X.N[i]?=some y/\sc.names.lookup y≠some .local/\sc.names.lookup y≠some .cell:=by
   rcases O.old i y hi h1 with q|q
   ·exact q
   ·have no:∀ kk,(relabel sc X.env).names.lookup y≠some kk:=λ kk z=>by
     rcases QH z with w|w
     ·rw [q] at w;cases w
     ·rw [q] at w;cases w.2
    rcases h3 with h3|h3|h3
    ·exact absurd h3 (no _)
    ·exact absurd h3 (no _)
    ·exact absurd h3 (no _)
  obtain ⟨h1',h1n,h1c⟩:=h1'
  have h2':σ[i]?=some (some v):=by
   rw [List.getElem?_append_left (by omega)] at h2
   exact h2
  have key:sc.names.lookup y=some .free/\((relabel sc X.env).names.lookup y=some .cell\/(relabel sc X.env).names.lookup y=some .free):=by
   rcases h3 with h3|h3|h3
   ·rcases QH h3 with q|q
    ·exact absurd q h1n
    ·cases q.1
   ·exact ⟨(hr (.inl h3)).resolve_right h1c,.inl h3⟩
   ·exact ⟨(hr (.inr h3)).resolve_right h1c,.inr h3⟩
  obtain ⟨q,kd⟩:=key
  have mem:=PySem.mem_of_lookup q
  have kx:=O.free _ mem rfl
  obtain ⟨m0,hn,hl'⟩:=I.loc
  obtain ⟨u,r,l⟩:=hl' i y v h1' h2' (by rcases kx with z|z;exact .inr (.inl z);exact .inr (.inr z))
  rcases l with ⟨l,_⟩|⟨_,c,e,z⟩
  ·rcases kx with z|z
   ·rw [l] at z;cases z
   ·rw [l] at z;cases z
  ·obtain ⟨c',e',e2⟩:=cK.free y q
   rw [e] at e2;cases e2
   obtain ⟨o,ho,hd⟩:=z
   exact ⟨u,r,.inr ⟨kd,c,e',o,hk _ _ ho,hd⟩⟩
 ·rcases cK.old y c h with z|z
  ·obtain ⟨v,o,ho,hd⟩:=I.cell y c z
   exact ⟨v,o,hk _ _ ho,hd⟩
  ·exact z.2
 ·have hp':p∈X.pn++pins:=by
   rcases List.mem_append.mp hp with z|z
   ·exact z
   ·cases z
  obtain ⟨e,n,ne,nf,d⟩:=I.pin p hp'
  exact ⟨hk _ _ e,n,Nat.ne_of_lt (Heap.lt_size e),stk p.1 ne nf,d⟩
 ·show (σ++List.replicate k none).length=N'.length
  rw [List.length_append,List.length_replicate,I.len,O.len]
theorem comp_back {pins:List (Addr×Obj)}{σ σ':St}{H H':Hp}{s s1:Shared}{cl:List (Str×Addr)}{fp:List Addr}{C:Addr}(I:Inv X pins σ H s)(hf:∀ b∈fp,FpOk X pins H b)
  (J:Inv (qX X N' sc cl C fp pins s H) [] σ' H' s1):Inv X pins σ H' s1 :=
 I.call' (ch:=fp) J.os J.base J.hok J.bare λ b hb=>⟨(hf b hb).2.2.2.1,(hf b hb).2.1,(hf b hb).2.2.2.2.1,(hf b hb).2.2.2.2.2⟩
theorem Inv.track {pins:List (Addr×Obj)}{σ:St}{H:Hp}{s:Shared}{D:Addr}{o:HO}(I:Inv X pins σ H s)(hn:H D=none)(hL:D≠X.env.locals)(h1:D∈X.ex\/X.s₀.heap.objs.size<=D)(h2:∀ x c,X.env.cells.lookup x=some c->c≠D)(h3:∀ p∈X.pn++pins,p.1≠D)
  (ok:Zy X.prog X.w (upd H D o) s.heap D o):Inv X pins σ (upd H D o) s:=by
 have ne:∀ b u,H b=some u->b≠D:=λ b u e=>Qt e hn
 exact I.step (g':=s.gens) (d':=s.drawn) (t':=s.toks) (ch:=[D]) (h':=s.heap) (λ b hb=>by
   have e:b=D:=by simpa using hb
   subst e
   exact ⟨h1,hL,h2,h3⟩) (λ b o _ _ _ e _=>e) (λ b o _ _ _ e _=>⟨o.slots,e⟩) (λ b o hc e n=>by rw [qO (λ z=>hc (by simp [z]))];exact n) (λ b o _ e=>⟨o,e⟩)
  (λ b xs e=>by rw [qO (ne b _ e)];exact e) (λ b o u e=>by rw [qO (ne b _ e)];exact e) (λ b ps e=>⟨#[],by rw [qO (ne b _ e),e];simp⟩) (λ m hm=>hm) (λ b u e=>by
   by_cases hb:b=D
   ·subst hb;rw [q9] at e;cases e;exact ok
   ·rw [qO hb] at e
    exact (I.hok b u e).stay (λ c v _ q=>q) (λ c q=>by rw [qO (ne c _ q)];exact q) λ c xs q=>by rw [qO (ne c _ q)];exact q) I.bare
theorem qe0 {pins:List (Addr×Obj)}{σ:St}{H:Hp}{s s':Shared}{cl:List (Str×Addr)}{fp:List Addr}{m:Str->Option Value}{it D:Addr}{tn:Nat->Heap->Prop}{J:It}{R:Result->Shared->Prop}{Qd:List V->Hp->Prop}(O:CompOk X N' k sc)
  (I:Inv X pins σ H s) (cK:ClOk X sc cl s.heap.objs.size s'.heap) (hf:∀ b∈D::fp,FpOk X pins H b) (hlt:∀ b∈D::fp,b<s.heap.objs.size)
  (hos:s'.os=s.os) (hg:s'.gens=s.gens) (hk:∀ b o,s.heap.get? b=some o->s'.heap.get? b=some o) (hns:s'.heap.Ns s.heap.objs.size m)
  (T:Turn X.prog X.w X.K tg J fp it tn) (hDf:D∉fp) (st:tn 0 s'.heap) (hD:s'.heap.PlainList D #[])
  (pg:PG (qX X N' sc cl s.heap.objs.size (D::fp) pins s H) tg wg) (hq:PTs (qX X N' sc cl s.heap.objs.size (D::fp) pins s H) ifs tt) (he:PE (qX X N' sc cl s.heap.objs.size (D::fp) pins s H) elt te)
  (W:Nat->Nat->List V->St->Hp->Prop) (m0:Nat) (w0:W 0 m0 [] (σ++List.replicate k none) H) (turn:∀ i m ys σ' H',W i m ys σ' H'->(J.stop i H'/\Qd ys H')\/(J.go i H'/\qhw J wg tt te W i m ys σ' H'))
  (fin:∀ s1 H1 σ1 (ys:List V) (its:List Value),Inv (qX X N' sc cl s.heap.objs.size (D::fp) pins s H) [] σ1 H1 s1->H1 D=none->s1.heap.PlainList D its.toArray->Vals ys its->ys.length<=sizeLine->Qd ys H1->R (.ok .next) s1) :
  codeAny (model X.prog X.w) X.A (.compLoop (.ListComp elt [⟨tg,iter,ifs,0⟩] sc pos) 0 (.ref it) (.ref D) (compEnvC sc cl s.heap.objs.size X.env)) R s':=by
 have I0:Inv (qX X N' sc cl s.heap.objs.size (D::fp) pins s H) [] (σ++List.replicate k none) H s':=qf9 O I cK hf hlt hos hg hk hns
 have stk:∀ b,b≠X.env.locals->b∉X.fs->b∉frs X.stack:=λ b h1 h2 hb=>by
  rcases List.mem_cons.mp (I.stkSub b hb) with z|z
  ·exact h1 z
  ·exact h2 z
 have stat:∀ {H':Hp},(∀ b∈D::fp,H' b=none)->∀ b∈D::fp,FpOk (qX X N' sc cl s.heap.objs.size (D::fp) pins s H) [] H' b:=λ hn b hb =>
  ⟨hn b hb,Nat.ne_of_lt (hlt b hb),stk b (hf b hb).2.1 (hf b hb).2.2.1,.inl hb,λ z c e=>(cK.old z c e).elim ((hf b hb).2.2.2.2.1 z c) λ w=>Nat.ne_of_gt (Nat.lt_trans (hlt b hb) w.1),λ p hp=>by
   have hp':p∈X.pn++pins:=by
    rcases List.mem_append.mp hp with z|z
    ·exact z
    ·cases z
   exact (hf b hb).2.2.2.2.2 p hp'⟩
 have statF:∀ {H':Hp},(∀ b∈D::fp,H' b=none)->∀ b∈fp,FpOk (qX X N' sc cl s.heap.objs.size (D::fp) pins s H) [] H' b:=λ hn b hb=>stat hn b (List.mem_cons_of_mem _ hb)
 refine qdm (λ kk s1=>∃ i ys its σ' H',Inv (qX X N' sc cl s.heap.objs.size (D::fp) pins s H) [] σ' H' s1/\tn i s1.heap/\(∀ b∈D::fp,H' b=none)/\s1.heap.PlainList D its.toArray/\Vals ys its/\ys.length<=sizeLine/\W i kk ys σ' H') ?_ m0 ⟨0,[],[],σ++List.replicate k none,H,I0,st,λ b hb=>(hf b hb).1,hD,.nil,Nat.zero_le _,w0⟩
 rintro kk s3 ⟨i,ys,its,σ3,H3,I3,st3,fr3,pl3,rv3,hz3,w3⟩
 rcases turn i kk ys σ3 H3 w3 with ⟨stop,qn⟩|⟨go,step⟩
 ·have J3:=I3.pinned (fp:=[D]) (λ b hb=>by
   have e:b=D:=by simpa using hb
   subst e
   exact stat fr3 b List.mem_cons_self) (λ b hb=>by
   have e:b=D:=by simpa using hb
   subst e
   obtain ⟨n,e⟩:=pl3
   exact ⟨_,e,λ v z=>by cases z⟩)
  have fpo:∀ b∈fp,FpOk (qX X N' sc cl s.heap.objs.size (D::fp) pins s H) ([]++ZZ [D] s3.heap) H3 b:=λ b hb=>by
   obtain ⟨a1,a2,a3,a4,a5,a6⟩:=statF fr3 b hb
   refine ⟨a1,a2,a3,a4,a5,λ p hp=>?_⟩
   rcases List.mem_append.mp hp with z|z
   ·exact a6 p (List.mem_append_left _ z)
   ·have z':p∈ZZ [D] s3.heap:=by simpa using z
    have:=(YB z').1
    have e:p.1=D:=by simpa using this
    rw [e]
    intro z2
    subst z2
    exact hDf hb
  refine thn (T.done (qX X N' sc cl s.heap.objs.size (D::fp) pins s H) rfl rfl rfl O.calm i _ s3 σ3 H3 _ J3 fpo st3 stop) λ r s4 ⟨hr,I4⟩=>?_
  subst hr
  obtain ⟨n,e⟩:=pl3
  have e4:=(I4.pin (D,_) (List.mem_append_right _ (List.mem_append_right _ (ZG (by simp) e)))).1
  exact fin s4 H3 σ3 ys its I4.unpinned (fr3 D List.mem_cons_self) ⟨n,e4⟩ rv3 hz3 qn
 ·have J3:=I3.pinned (fp:=[D]) (λ b hb=>by
   have e:b=D:=by simpa using hb
   subst e
   exact stat fr3 b List.mem_cons_self) (λ b hb=>by
   have e:b=D:=by simpa using hb
   subst e
   obtain ⟨n,e⟩:=pl3
   exact ⟨_,e,λ v z=>by cases z⟩)
  have fpo:∀ {H':Hp},(∀ b∈fp,H' b=none)->∀ b∈fp,FpOk (qX X N' sc cl s.heap.objs.size (D::fp) pins s H) ([]++ZZ [D] s3.heap) H' b:=λ {H'} hn b hb=>by
   obtain ⟨_,a2,a3,a4,a5,a6⟩:=statF fr3 b hb
   refine ⟨hn b hb,a2,a3,a4,a5,λ p hp=>?_⟩
   rcases List.mem_append.mp hp with z|z
   ·exact a6 p (List.mem_append_left _ z)
   ·have z':p∈ZZ [D] s3.heap:=by simpa using z
    have:=(YB z').1
    have e:p.1=D:=by simpa using this
    rw [e]
    intro z2
    subst z2
    exact hDf hb
  refine thn (T.item (qX X N' sc cl s.heap.objs.size (D::fp) pins s H) rfl rfl rfl O.calm i _ s3 σ3 H3 _ J3 (fpo λ b hb=>fr3 b (List.mem_cons_of_mem _ hb)) st3 go) λ r s4 ⟨u,hr,h4⟩=>?_
  subst hr
  refine thn h4 λ _ s5 ⟨y,H5,I5,r5,y5,st5,fr5⟩=>?_
  have I5':=I5.pinned (fpo fr5) (T.obj _ _ st5)
  have step':=step y H5 y5
  obtain ⟨n3,e3⟩:=pl3
  have dpin:∀ {σ7:St} {H7:Hp} {s7:Shared},Inv (qX X N' sc cl s.heap.objs.size (D::fp) pins s H) ([]++ZZ [D] s3.heap++ZZ fp s5.heap) σ7 H7 s7->s7.heap.get? D=some { cls:=.type "list", data:=.seq its.toArray n3 }/\H7 D=none:=λ {σ7 H7 s7} I7=>by
   have q:=I7.pin (D,_) (List.mem_append_right _ (List.mem_append_left _ (List.mem_append_right _ (ZG (by simp) e3))))
   exact ⟨q.1,q.2.1⟩
  have tkeep:∀ {σ7:St} {H7:Hp} {s7:Shared},Inv (qX X N' sc cl s.heap.objs.size (D::fp) pins s H) ([]++ZZ [D] s3.heap++ZZ fp s5.heap) σ7 H7 s7->tn (i+1) s7.heap/\∀ b∈D::fp,H7 b=none:=λ {σ7 H7 s7} I7=>by
   refine ⟨T.keep _ _ _ st5 λ b hb o e=>(I7.pin (b,o) (List.mem_append_right _ (List.mem_append_right _ (ZG hb e)))).1,λ b hb=>?_⟩
   rcases List.mem_cons.mp hb with rfl|hb
   ·exact (dpin I7).2
   ·obtain ⟨o,e,d⟩:=T.obj _ _ st5 b hb
    exact (I7.pin (b,o) (List.mem_append_right _ (List.mem_append_right _ (ZG hb e)))).2.1
  refine thF (pg _ s5 σ3 H5 y u _ I5' r5 step') λ _ s6 ⟨σ6,H6,I6,step6⟩=>?_
  refine thF (hq _ s6 _ H6 _ I6 step6) λ b s7 ⟨H7,I7,q7⟩=>?_
  cases b with
  | false =>
   simp only [Bool.false_eq_true,if_false] at q7 ⊢
   obtain ⟨m',hm,w8⟩:=q7
   obtain ⟨t8,f8⟩:=tkeep I7
   exact ⟨m',hm,i+1,ys,its,_,H7,I7.unpinned.unpinned,t8,f8,⟨n3,(dpin I7).1⟩,rv3,hz3,w8⟩
  | true =>
   simp only [if_true] at q7 ⊢
   refine thF (he _ s7 _ H7 _ I7 q7) λ v s8 ⟨vv,H8,I8,r8,hz,m',hm,w8⟩=>?_
   have hlen:=rv3.length
   refine wpAny_list_append_plain ⟨n3,(dpin I8).1⟩ (λ h9 pl9 sb9=>?_) (by rw [List.size_toArray];omega)
   obtain ⟨t8,f8⟩:=tkeep I8
   have st8:=stat f8 D List.mem_cons_self
   have I9:Inv (qX X N' sc cl s.heap.objs.size (D::fp) pins s H) [] σ6 H8 { s8 with heap:=h9 } :=
    I8.unpinned.unpinned.turned (t':=s8.toks) (λ b o hb e=>(sb9.2 b hb).trans e) st8.1 st8.2.1 st8.2.2.2.1 st8.2.2.2.2.1 st8.2.2.2.2.2
   refine ⟨m',hm,i+1,ys++[vv],its++[v],_,H8,I9,T.keep _ _ _ t8 λ b hb o e=>(sb9.2 b (λ z=>hDf (z ▸ hb))).trans e,f8,by simpa using pl9,rv3.append (.cons r8 .nil),?_,w8⟩
   rw [List.length_append,List.length_singleton]
   omega
theorem w6 {E:Value->Shared->Prop}{pins:List (Addr×Obj)}{σ:St}{H:Hp}{s:Shared}{cl:List (Str×Addr)}{fp:List Addr}{it:Addr}{tn:Nat->Heap->Prop}{J:It}{RR:Value->Addr->Result->Shared->Prop}{Qd:V->Hp->Prop}(O:CompOk X N' k sc)
  (I:Inv X pins σ H s) (hcl1:∀ y c,cl.lookup y=some c->X.env.cells.lookup y=some c) (hcl2:∀ y,(y,NameKind.free)∈sc.names->∃ c,cl.lookup y=some c) (hf:∀ b∈fp,FpOk X pins H b)
  (T:Turn X.prog X.w X.K tg J fp it tn) (st:tn 0 s.heap)
  (hg:∀ cl C fp pins s H,PG (qX X N' sc cl C fp pins s H) tg wg) (hq:∀ cl C fp pins s H,PTs (qX X N' sc cl C fp pins s H) ifs tt) (he:∀ cl C fp pins s H,PE (qX X N' sc cl C fp pins s H) elt te)
  (turn:qhx k J wg tt te σ H Qd)
  (fin:∀ D C s1 H1 m,Inv X pins σ H1 s1->s1.heap.Ns C m->H1 C=none->C≠X.env.locals->(X.s₀.heap.objs.size<=C)->(∀ z c,X.env.cells.lookup z=some c->c≠C)->(∀ p∈X.pn++pins,p.1≠C)->Qd (.ref D) H1->RR (.ref D) C (.ok .next) s1) :
  wpAny (model X.prog X.w) X.A (newList []) (λ acc s₃=>wpAny (model X.prog X.w) X.A (newFunctionEnv sc X.env.globals cl [] X.env.qual none .none (some X.env)) (λ cenv s₄ =>
   codeAny (model X.prog X.w) X.A (.compStart (.ListComp elt [⟨tg,iter,ifs,0⟩] sc pos) 0 (.ref it) acc { cenv with scope:=relabel sc X.env }) (RR acc cenv.locals) s₄) E s₃) E s:=by
 refine wpAny_newObj_type (qix ?_)
 dsimp only
 have hD:=I.hok.fresh (Nat.le_refl s.heap.objs.size)
 have I3:Inv X pins σ H { s with heap:=s.heap.push { cls:=.type "list", dict:=none,data:=.seq ([]:List Value).toArray } } :=
  I.kept (t':=s.toks) (λ b u e=>Heap.get?_push_of_some _ e)
 have fpl:∀ b∈fp,b<s.heap.objs.size:=λ b hb=>by
  obtain ⟨o,e,_⟩:=T.obj _ _ st b hb
  exact Heap.lt_size e
 have fD:FpOk X pins H s.heap.objs.size:=I.fpOk (Nat.le_refl _) hD
 have hf3:∀ b∈s.heap.objs.size::fp,FpOk X pins H b:=λ b hb=>by
  rcases List.mem_cons.mp hb with rfl|hb
  ·exact fD
  ·exact hf b hb
 have eD:(s.heap.push { cls:=.type "list", dict:=none,data:=.seq ([]:List Value).toArray }).get? s.heap.objs.size=some { cls:=.type "list", dict:=none,data:=.seq ([]:List Value).toArray }:=Heap.get?_push_size _ rfl
 generalize hH2:s.heap.push { cls:=.type "list", dict:=none,data:=.seq ([]:List Value).toArray }=H2 at I3 eD ⊢
 have hC:H2.objs.size=s.heap.objs.size+1:=by rw [← hH2,Heap.size_push]
 have sz2:(H2.push { cls:=.type "dict", data:=.dict #[] }).objs.size=H2.objs.size+1:=Heap.size_push ..
 obtain ⟨a1,a2,a3,a4,a5⟩:=qf6 H2.objs.size sc.names (H2.push { cls:=.type "dict", data:=.dict #[] }) cl (by omega) (λ y c e q=>by
  obtain ⟨v,z⟩:=I3.cell y c (hcl1 y c e)
  exact Nat.lt_of_lt_of_le z.lt (by rw [sz2];exact Nat.le_succ _)) (λ y z c q e1 e2=>I3.ok.inj y z c (hcl1 _ _ e1) (hcl1 _ _ e2))
 rw [sz2] at a1 a2 a3 a4 a5
 generalize hcl':cellsFrom (H2.objs.size+1) sc.names cl=cl' at a1 a2 a3 a4 a5 ⊢
 have old3:∀ b o,H2.get? b=some o->(pushCells (H2.push { cls:=.type "dict", data:=.dict #[] }) sc.names).get? b=some o:=λ b o e=>pushCells_keeps _ _ _ _ (Heap.get?_push_of_some _ e)
 have hns₁:(pushCells (H2.push { cls:=.type "dict", data:=.dict #[] }) sc.names).Ns H2.objs.size (λ _=>none):=(Heap.Ns.new H2 (.type "dict")).keeps (pushCells_keeps _ _)
 have cK:ClOk X sc cl' H2.objs.size (pushCells (H2.push { cls:=.type "dict", data:=.dict #[] }) sc.names):=by
  have fr:∀ y,sc.names.lookup y=some .free->∃ c,cl'.lookup y=some c/\X.env.cells.lookup y=some c:=λ y e=>by
   obtain ⟨c,q⟩:=hcl2 y (PySem.mem_of_lookup e)
   refine ⟨c,?_,hcl1 y c q⟩
   rw [a4 y λ z=>by have:=O.cells _ z rfl;rw [e] at this;cases this]
   exact q
  have ol:∀ y c,cl'.lookup y=some c->X.env.cells.lookup y=some c\/(H2.objs.size<c/\∃ v,(pushCells (H2.push { cls:=.type "dict", data:=.dict #[] }) sc.names).IsCell c v):=λ y c e=>by
   rcases a1 y c e with z|⟨z1,z2⟩
   ·exact .inl (hcl1 y c z)
   ·exact .inr ⟨by omega,none,z2⟩
  refine ⟨ol,fr,λ y e=>?_,λ y z c e1 e2=>?_⟩
  ·obtain ⟨c,q1,q2⟩:=a3 y (PySem.mem_of_lookup e)
   exact ⟨c,q1,by omega⟩
  ·by_cases hc:H2.objs.size<=c
   ·exact a5 y z c hc e1 e2
   ·rcases ol y c e1 with q|q
    ·rcases ol z c e2 with r|r
     ·exact I3.ok.inj y z c q r
     ·omega
    ·omega
 generalize pushCells (H2.push { cls:=.type "dict", data:=.dict #[] }) sc.names=h₁ at *
 have old2:∀ b o,s.heap.get? b=some o->H2.get? b=some o:=λ b o e=>hH2 ▸ Heap.get?_push_of_some _ e
 obtain ⟨W,⟨m0,w0⟩,tr⟩:=turn
 have st1:tn 0 h₁:=T.keep _ _ _ st λ b _ o e=>old3 b o (old2 b o e)
 have loop:codeAny (model X.prog X.w) X.A (.compLoop (.ListComp elt [⟨tg,iter,ifs,0⟩] sc pos) 0 (.ref it) (.ref s.heap.objs.size) (compEnvC sc cl' H2.objs.size X.env)) (RR (.ref s.heap.objs.size) H2.objs.size)
   { s with heap:=h₁ }:=by
  refine qe0 (s:={ s with heap:=H2 }) (s':={ s with heap:=h₁ }) (Qd:=λ ys H'=>∀ D,H' D=none->Qd (.ref D) (upd H' D (.lst ys))) O I3 cK hf3 (λ b hb=>?_) rfl rfl old3 hns₁ T (λ z=>Nat.lt_irrefl _ (fpl _ z)) st1 ⟨0,old3 _ _ eD⟩ (hg _ _ _ _ _ _) (hq _ _ _ _ _ _) (he _ _ _ _ _ _) W m0 w0 tr ?_
  ·show b<H2.objs.size
   rw [hC]
   rcases List.mem_cons.mp hb with hb|hb
   ·rw [hb];exact Nat.lt_succ_self _
   ·exact Nat.lt_succ_of_lt (fpl b hb)
  intro s1 H1 σ1 ys its J1 hD1 pl1 rv1 hz1 q1
  obtain ⟨m,hn1,_⟩:=J1.loc
  obtain ⟨n1,e1⟩:=pl1
  have I4:=(comp_back I3 hf3 J1).track (D:=s.heap.objs.size) (o:=.lst ys) hD1 fD.2.1 fD.2.2.2.1 fD.2.2.2.2.1 fD.2.2.2.2.2 ⟨hz1,its,n1,rv1,e1⟩
  refine fin _ _ s1 _ m I4 hn1 (by rw [qO (by show H2.objs.size≠s.heap.objs.size;omega)];exact J1.free) (Nat.ne_of_gt I3.lt) I3.sz (λ z c e h=>?_) (λ p hp h=>?_) (q1 _ hD1)
  ·obtain ⟨v,q⟩:=I3.cell z c e
   have:=q.lt
   rw [h] at this
   exact Nat.lt_irrefl _ this
  ·have:=Heap.lt_size (I3.pin p hp).1
   rw [h] at this
   exact Nat.lt_irrefl _ this
 exact codeAny_compStart_list loop (T.self _ 0 _ _ _ st1 loop)
theorem qiQ (O:CompOk X N' k sc)(hi:PI X tg iter wi)(hg:∀ cl C fp pins s H,PG (qX X N' sc cl C fp pins s H) tg wg)(hq:∀ cl C fp pins s H,PTs (qX X N' sc cl C fp pins s H) ifs tt)(he:∀ cl C fp pins s H,PE (qX X N' sc cl C fp pins s H) elt te)
  (hs:∀ v,foldedSetIterable iter X.env v=pure v:=by intro _;rfl):PE X (.ListComp elt [⟨tg,iter,ifs,0⟩] sc pos) (qcO k wi wg tt te):=by
 intro pins s σ H Q I h
 rw [eval_ListComp]
 obtain ⟨cl,hcl,hcl1,hcl2⟩:=wW (sc:=sc) (env:=X.env) (λ y hy hf=>I.ok.has y.1 (O.free y hy hf))
 refine wpAny_comprehension_free (use:=none) rfl hs hcl O.kind O.names ?_
 refine thn (hi pins s σ H _ I h) λ v s1 h1=>thn h1 λ itv s2 h2=>?_
 obtain ⟨it,fp,tn,J,H2,e,I2,T,st2,f2,q⟩:=h2
 subst e
 refine w6 (RR:=λ acc C=>compPost (model X.prog X.w) X.A X.xe none (EP X pins σ Q) acc C) (Qd:=Q) O I2 hcl1 hcl2 f2 T st2 hg hq he q ?_
 intro D C s3 H3 m I3 hn3 hC3 hL hsz hcl3 hp3 q3
 exact ⟨m,hn3,λ h' sb=>⟨.ref D,H3,I3.turned (t':=s3.toks) (λ b o hb e=>(sb.2 b hb).trans e) hC3 hL (.inr hsz) hcl3 hp3,rfl,q3⟩⟩
theorem qiY {j:Nat}{y:Str}{py spos:Pos}(O:CompOk X N' k sc)(hj:X.N[j]?=some y)(hy:X.env.scope.names.lookup y=some .local)(hi:PI X tg iter wi)(hg:∀ cl C fp pins s H,PG (qX X N' sc cl C fp pins s H) tg wg)(hq:∀ cl C fp pins s H,PTs (qX X N' sc cl C fp pins s H) ifs tt)(he:∀ cl C fp pins s H,PE (qX X N' sc cl C fp pins s H) elt te)
  (hsw:swapsWith (.ListComp elt [⟨tg,iter,ifs,0⟩] sc pos) (some (.Name y py)) spos.line X.env=pure true:=by rfl)
  (hs:∀ v,foldedSetIterable iter X.env v=pure v:=by intro _;rfl):PS X (.Assign [.Name y py] (.ListComp elt [⟨tg,iter,ifs,0⟩] sc pos) spos) (tAsg (qcO k wi wg tt te) (qec j)):=by
 intro pins s σ H D I h
 rw [exec_Assign_Name_used _ _ _ _ hsw]
 refine wpAny_bind (wpAny_standAt (wpAny_bind ?_))
 show wpAny _ X.A (do let _ ← comprehension (.ListComp elt [⟨tg,iter,ifs,0⟩] sc pos) sc X.env _ (newList []) false (eval iter X.env) (some (assign (.Name y py) X.env))) _ _ s
 obtain ⟨cl,hcl,hcl1,hcl2⟩:=wW (sc:=sc) (env:=X.env) (λ y hy hf=>I.ok.has y.1 (O.free y hy hf))
 refine wpAny_bind (wpAny_mono (wpAny_comprehension_free (use:=some (assign (.Name y py) X.env)) (Q:=λ _ s'=>SP X pins D .next s') rfl hs hcl O.kind O.names ?_) (λ _ s' hq=>wpAny_pure (wpAny_pure hq)) λ _ _ e=>e)
 refine thn (hi pins s σ H _ I h) λ v s1 h1=>thn h1 λ itv s2 h2=>?_
 obtain ⟨it,fp,tn,J,H2,e,I2,T,st2,f2,q⟩:=h2
 subst e
 refine w6 (RR:=λ acc C=>compPost (model X.prog X.w) X.A X.xe (some (assign (.Name y py) X.env)) (λ _ s'=>SP X pins D .next s') acc C) (Qd:=λ x H1=>qec j x σ H1 D.nx) O I2 hcl1 hcl2 f2 T st2 hg hq he q ?_
 intro B C s3 H3 m I3 hn3 hC3 hL hsz hcl3 hp3 q3
 refine wpAny_assign_Name (qaC I3 O.nd hj (.inl hy) (v:=.ref B) rfl (λ s4 I4 ⟨a,sb,ha⟩=>?_) (.inr hy))
 have hCa:C≠a:=by
  rcases ha with ha|ha
  ·rw [ha];exact hL
  ·exact Ne.symm (hcl3 _ _ ha)
 refine ⟨m,hn3.sameBut sb hCa,λ h' sb'=>⟨_,H3,I4.turned (t':=s4.toks) (λ b o hb e=>(sb'.2 b hb).trans e) hC3 hL (.inr hsz) hcl3 hp3,q3⟩⟩
end
abbrev K2:=List (Int ⊕ List Int)
def k2D (k:Int ⊕ List Int):PyData:=match k with
 | .inl i=>.int i
 | .inr js=>.tuple (js.map .int)
def k2T (ks:K2):PyData:=.tuple (ks.map k2D)
def k2H (k:Int ⊕ List Int):Int:=match k with
 | .inl i=>hashInt i
 | .inr js=>reduceHash (Builtin.Tuple.tupleHashOf (js.map hashInt))
def k2N (k:Int ⊕ List Int):Nat:=match k with
 | .inl _=>1
 | .inr js=>js.length+1
theorem wj:∀ {a b:List Int},a.map PyData.int=b.map PyData.int->a=b
 | [],[],_=>rfl
 | [],_::_,e=>by simp at e
 | _::_,[],e=>by simp at e
 | x::xs,y::ys,e=>by
  rw [List.map_cons,List.map_cons] at e
  injection e with e1 e2
  injection e1 with e1
  rw [e1,wj e2]
theorem qii {a b:Int ⊕ List Int}(e:k2D a=k2D b):a=b:=by
 cases a with
 | inl i=>cases b with
  | inl j=>injection (show PyData.int i=PyData.int j from e) with e;rw [e]
  | inr js=>cases (show PyData.int i=PyData.tuple _ from e)
 | inr is=>cases b with
  | inl j=>cases (show PyData.tuple _=PyData.int j from e)
  | inr js=>injection (show PyData.tuple (is.map .int)=PyData.tuple (js.map .int) from e) with e;rw [wj e]
theorem qbY:∀ {a b:K2},a.map k2D=b.map k2D->a=b
 | [],[],_=>rfl
 | [],_::_,e=>by simp at e
 | _::_,[],e=>by simp at e
 | x::xs,y::ys,e=>by
  rw [List.map_cons,List.map_cons] at e
  injection e with e1 e2
  rw [qii e1,qbY e2]
theorem qij {a b:K2}(e:k2T a=k2T b):a=b:=by
 injection (show PyData.tuple (a.map k2D)=PyData.tuple (b.map k2D) from e) with e
 exact qbY e
theorem qf3 (ns:List Int):PyData.canLayAll0 (ns.map .int)=true/\PyData.depthAll (ns.map .int)=0:=by
 induction ns with
 | nil=>exact ⟨rfl,rfl⟩
 | cons n ns ih=>exact ⟨ih.1,by show max 0 (PyData.depthAll (ns.map .int))=0;rw [ih.2];rfl⟩
theorem qf4 (ks:K2):PyData.canLayAll0 (ks.map k2D)=true/\PyData.depthAll (ks.map k2D)<=1:=by
 induction ks with
 | nil=>exact ⟨rfl,Nat.zero_le _⟩
 | cons k ks ih =>
  have hk:(k2D k).canLay0=true/\(k2D k).depth<=1:=by
   cases k with
   | inl i=>exact ⟨rfl,Nat.zero_le _⟩
   | inr js=>exact ⟨(qf3 js).1,by show PyData.depthAll (js.map .int)+1<=1;rw [(qf3 js).2];exact Nat.le_refl _⟩
  refine ⟨?_,?_⟩
  ·show ((k2D k).canLay0&&PyData.canLayAll0 (ks.map k2D))=true
   rw [hk.1,ih.1];rfl
  ·show max (k2D k).depth (PyData.depthAll (ks.map k2D))<=1
   exact Nat.max_le.mpr ⟨hk.2,ih.2⟩
theorem wC (ks:K2):(k2T ks).canLay0=true/\(k2T ks).depth<=2:=⟨(qf4 ks).1,Nat.succ_le_succ (qf4 ks).2⟩
def Is2 (h:Heap)(ks:K2)(a:Addr):Prop:=∃ as,Reads h (.ref a) (k2T ks) as
section
variable {prog:Program}{w:World}{A:Around}{E:Value->Shared->Prop}{s:Shared}
def Yo (prog:Program)(w:World)(A:Around)(h:Heap)(v:Value)(p:Int×Nat):Prop :=
 ∀ (E:Value->Shared->Prop) (s:Shared) (Q:Int->Shared->Prop),s.heap=h->Q p.1 { s with toks:=s.toks+p.2 }->wpAny (model prog w) A (pyHash v) Q E s
theorem qbW {a:Addr}{o:Obj}{items:Array Value}{n:Nat}{hs:List (Int×Nat)}{Q:Int->Shared->Prop}(hu:A.units<cLine)(ho:s.heap.get? a=some o)(hc:o.cls=.type "tuple")(hd:o.data=.seq items n)
  (hi:Paired (Yo prog w A.in1 s.heap) items.toList hs) (h:Q (reduceHash (Builtin.Tuple.tupleHashOf (hs.map (·.1)))) { s with toks:=s.toks+((hs.map (·.2)).sum+1) }):wpAny (model prog w) A (pyHash (.ref a)) Q E s:=by
 have hT:s.TypeIs (.ref a) "tuple" := ⟨o,ho,hc⟩
 unfold pyHash
 first|unfold pyHashByItsType|skip
 first|exact wpAny_bind (wpAny_cRoomFor_or (.inr hu) ?_)|skip
 first|refine wpAny_bind (wpAny_cRoomFor_or (.inr hu) (wpAny_bind (wpAny_specialOf hT F.slot_tuple_hash.lookup ?_)))|refine wpAny_bind (wpAny_specialOf hT F.slot_tuple_hash.lookup (id ?_))
 refine (id ?_:wpAny _ _ (if (some (Value.builtin "tuple.__hash__")==some Value.none)=true then _ else _) Q E s)
 rw [if_neg (λ z=>by rw [beq_builtin_none] at z;cases z)]
 refine wpAny_bind (wpAny_specialOf hT F.slot_tuple_hash.lookup (id ?_:wpAny _ _ (callSpecialIfBoundUnlessNone? (.ref a) "__hash__" _ >>= _) Q E s))
 refine wpAny_bind (wpAny_callSpecialIfBoundUnlessNone?_slot hT F.slot_tuple_hash (wpAny_call_entry F.slot_tuple_hash hT F.entry_tuple_hash (?_:wpAny _ _ (Builtin.Tuple.tupleItemsOf (.ref a) >>= _) _ _ s) (F.args_tuple_hash_1 _)))
 refine wpAny_bind (wpAny_tupleItemsOf ho hd (wpAny_bind ?_))
 rw [← Array.forIn_toList]
 refine wpAny_forIn_list _ (λ rest (b:Array Int) s'=>∃ done left,hs=done++left/\Paired (Yo prog w A.in1 s.heap) rest left/\b.toList=done.map (·.1)/\s'={ s with toks:=s.toks+(done.map (·.2)).sum }) _ ?_ ?_ _ _ ⟨[],hs,rfl,hi,rfl,rfl⟩
 ·rintro x rest b s' ⟨done,left,rfl,hl,hb,rfl⟩
  cases hl with
  | @cons _ p _ ps h1 hl' =>
   refine wpAny_bind (h1 _ _ _ rfl ?_)
   first
    | exact wpAny_pure ⟨done++[p],ps,by simp,hl',by simp [hb],by simp [Nat.add_assoc]⟩
    | exact wpAny_bind (wpAny_pure (wpAny_pure ⟨done++[p],ps,by simp,hl',by simp [hb],by simp [Nat.add_assoc]⟩))
 ·rintro b s' ⟨done,left,rfl,hl,hb,rfl⟩
  cases hl
  rw [List.append_nil] at h
  refine (id ?_:wpAny _ _ (retInt (Builtin.Tuple.tupleHashOf b.toList)) _ _ _)
  rw [hb]
  refine wpAny_ret_mkInt (id ?_:wpAny _ _ (if (decide (-(2:Int) ^ 63<=Builtin.Tuple.tupleHashOf (done.map (·.1)))&&decide (Builtin.Tuple.tupleHashOf (done.map (·.1))<2 ^ 63))=true then _ else _) Q E _)
  unfold reduceHash at h
  by_cases hr:(decide (-(2:Int) ^ 63<=Builtin.Tuple.tupleHashOf (done.map (·.1)))&&decide (Builtin.Tuple.tupleHashOf (done.map (·.1))<2 ^ 63))=true
  ·rw [if_pos hr] at h ⊢
   exact wpAny_pure (by simpa [Nat.add_assoc] using h)
  ·rw [if_neg hr] at h ⊢
   exact wpAny_bind (wpAny_rule (wpAny_pure (by simpa [Nat.add_assoc] using h)))
theorem qbV {h:Heap}(i:Int)(t:Tok):Yo prog w A h (.int i t) (hashInt i,1):=λ _ _ _ _ q=>wpAny_pyHash_int q
theorem qab {h:Heap}:∀ {vs:List Value} {ns:List Int} {as:List Addr},ReadsAll h vs (ns.map .int) as->Paired (Yo prog w A h) vs (ns.map λ i=>(hashInt i,1))
 | _,[],_,r=>by cases r;exact .nil
 | _,n::ns,_,r=>by
  cases r with
  | cons a t=>cases a;exact .cons (qbV _ _) (qab t)
theorem qhv (ns:List Int):((ns.map λ i=>(hashInt i,1)).map (·.2)).sum=ns.length:=by
 induction ns with
 | nil=>rfl
 | cons n ns ih=>rw [List.map_cons,List.map_cons,List.sum_cons,ih,List.length_cons];omega
theorem qe9 {h:Heap}{v:Value}{k:Int ⊕ List Int}{as:List Addr}(hu:A.units<cLine)(r:Reads h v (k2D k) as):Yo prog w A h v (k2H k,k2N k):=by
 cases k with
 | inl i =>
  cases (show Reads h v (.int i) as from r)
  exact qbV _ _
 | inr js =>
  cases (show Reads h v (.tuple (js.map .int)) as from r) with
  | tuple h1 h2 h3 h4 =>
   intro E s Q e q
   subst e
   refine qbW hu h1 h2 h3 (qab h4) ?_
   have e:(js.map λ i=>(hashInt i,1)).map (·.1)=js.map hashInt:=by rw [List.map_map];rfl
   rw [e,qhv]
   exact q
theorem Y4 {h:Heap}(hu:A.units<cLine):∀ {vs:List Value} {ks:K2} {as:List Addr},ReadsAll h vs (ks.map k2D) as->Paired (Yo prog w A h) vs (ks.map λ k=>(k2H k,k2N k))
 | _,[],_,r=>by cases r;exact .nil
 | _,k::ks,_,r=>by
  cases r with
  | cons a t=>exact .cons (qe9 hu a) (Y4 hu t)
theorem qeD {n:Nat}{h:Heap}{v:Value}{as:List Addr}{i:Int}(r:Reads h v (.int i) as):eqIsQuiet n v=pure true:=by
 cases r
 cases n<;>rfl
theorem qaw {m:Nat}{a:Addr}{o:Obj}{items:Array Value}{n:Nat}{Q:Bool->Shared->Prop}(ho:s.heap.get? a=some o)(hc:o.cls=.type "tuple")(hd:o.data=.seq items n)
  (hi:∀ v∈items.toList,∀ Q':Bool->Shared->Prop,Q' true s->wpAny (model prog w) A (eqIsQuiet m v) Q' E s) (h:Q true s):wpAny (model prog w) A (eqIsQuiet (m+1) (.ref a)) Q E s:=by
 have hT:s.TypeIs (.ref a) "tuple" := ⟨o,ho,hc⟩
 unfold eqIsQuiet
 refine wpAny_bind (wpAny_specialOf hT F.slot_tuple_eq.lookup (?_:wpAny _ _ (isInstance (.ref a) (.type "tuple") >>= _) _ _ s))
 refine wpAny_bind (wpAny_isInstance hT isSubtype_tuple_tuple (id ?_))
 simp only [Bool.not_true,if_false,Bool.false_eq_true]
 refine wpAny_bind (wpAny_seqItems ho hd (wpAny_bind (?_:wpAny _ _ (forIn items _ _) _ _ s)))
 rw [← Array.forIn_toList]
 refine wpAny_forIn_list _ (λ rest r s'=>r.1=none/\s'=s/\∀ v∈rest,∀ Q':Bool->Shared->Prop,Q' true s->wpAny (model prog w) A (eqIsQuiet m v) Q' E s) _ ?_ ?_ _ _ ⟨rfl,rfl,hi⟩
 ·rintro v rest r s' ⟨hr,rfl,hall⟩
  refine wpAny_bind (hall v List.mem_cons_self _ ?_)
  simp only [Bool.not_true,if_false,Bool.false_eq_true]
  exact wpAny_pure ⟨rfl,rfl,λ u hu'=>hall u (List.mem_cons_of_mem _ hu')⟩
 ·rintro ⟨r1,r2⟩ s' ⟨hr,rfl,_⟩
  simp only at hr
  subst hr
  exact wpAny_pure h
theorem jx {h:Heap}:∀ {vs:List Value} {ds:List PyData} {as:List Addr},ReadsAll h vs ds as->∀ v∈vs,∃ d∈ds,∃ bs,Reads h v d bs
 | _,_,_,.nil,v,hv=>by cases hv
 | _,_,_,.cons r t,v,hv=>by
  rcases List.mem_cons.mp hv with rfl|hv
  ·exact ⟨_,.head _,_,r⟩
  ·obtain ⟨d,hd,bs,q⟩:=jx t v hv
   exact ⟨d,.tail _ hd,bs,q⟩
theorem Is2.quiet {ks:K2}{a:Addr}{Q:Bool->Shared->Prop}(x:Is2 s.heap ks a)(h:Q true s):wpAny (model prog w) A (eqIsQuiet 8 (.ref a)) Q E s:=by
 obtain ⟨as,r⟩:=x
 cases r with
 | tuple h1 h2 h3 h4 =>
  refine qaw h1 h2 h3 (λ v hv Q' q=>?_) h
  obtain ⟨d,hd,bs,rv⟩:=jx h4 v hv
  obtain ⟨k,_,rfl⟩:=List.mem_map.mp hd
  cases k with
  | inl i=>rw [qeD (show Reads s.heap v (.int i) bs from rv)];exact wpAny_pure q
  | inr js =>
   cases (show Reads s.heap v (.tuple (js.map .int)) bs from rv) with
   | tuple g1 g2 g3 g4 =>
    refine qaw g1 g2 g3 (λ u hu Q2 q2=>?_) q
    obtain ⟨d,hd,cs,ru⟩:=jx g4 u hu
    obtain ⟨i,_,rfl⟩:=List.mem_map.mp hd
    rw [qeD ru]
    exact wpAny_pure q2
theorem Is2.inj {h:Heap}{a:Addr}{x y:K2}(hx:Is2 h x a)(hy:Is2 h y a):x=y:=by
 obtain ⟨as,r⟩:=hx
 obtain ⟨bs,q⟩:=hy
 exact qij (SeqAt.Reads.unique _ _ _ _ _ (wC x).1 r q)
theorem Yi {h h':Heap}{d:Addr}(k:∀ b o,b≠d->h.get? b=some o->h'.get? b=some o):∀ {vs:List Value} {ns:List Int} {as:List Addr},ReadsAll h vs (ns.map .int) as->ReadsAll h' vs (ns.map .int) as
 | _,[],_,r=>by cases r;exact .nil
 | _,n::ns,_,r=>by
  cases r with
  | cons a t=>cases a;exact .cons (.int _ _) (Yi k t)
theorem Is2.keeps {h h':Heap}{ks:K2}{a d:Addr}{o:Obj}{es:Array DictEntry}{ep:Nat}(x:Is2 h ks a)(ho:h.get? d=some o)(hd:o.data=.dict es ep)(hs:Heap.SameBut d h h'):Is2 h' ks a:=by
 have k:∀ b o,b≠d->h.get? b=some o->h'.get? b=some o:=λ b o hb e=>(hs.2 b hb).trans e
 have ne:∀ {b:Addr} {ob:Obj} {items:Array Value} {n:Nat},h.get? b=some ob->ob.data=.seq items n->b≠d:=λ e q z=>by
  subst z
  rw [ho] at e
  cases e
  rw [hd] at q
  cases q
 have item:∀ {vs:List Value} {ks:K2} {as:List Addr},ReadsAll h vs (ks.map k2D) as->ReadsAll h' vs (ks.map k2D) as:=by
  intro vs ks
  induction ks generalizing vs with
  | nil=>intro as r;cases r;exact .nil
  | cons k1 ks ih =>
   intro as r
   cases r with
   | cons a t =>
    refine .cons ?_ (ih t)
    cases k1 with
    | inl i=>cases (show Reads h _ (.int i) _ from a);exact .int _ _
    | inr js =>
     cases (show Reads h _ (.tuple (js.map .int)) _ from a) with
     | tuple g1 g2 g3 g4=>exact .tuple (k _ _ (ne g1 g3) g1) g2 g3 (Yi k g4)
 obtain ⟨as,r⟩:=x
 cases r with
 | tuple h1 h2 h3 h4=>exact ⟨_,.tuple (k _ _ (ne h1 h3) h1) h2 h3 (item h4)⟩
theorem qbJ:∀ a b:List Int,PyData.eqv (.tuple (a.map .int)) (.tuple (b.map .int))=decide (a=b)
 | [],[]=>rfl
 | [],_::_=>rfl
 | _::_,[]=>rfl
 | x::xs,y::ys=>by
  have:PyData.eqv (.tuple ((x::xs).map .int)) (.tuple ((y::ys).map .int))=((x==y)&&PyData.eqv (.tuple (xs.map .int)) (.tuple (ys.map .int))):=rfl
  rw [this,qbJ xs ys,Bool.eq_iff_iff]
  simp
theorem qh7 (a b:Int ⊕ List Int):PyData.eqv (k2D a) (k2D b)=decide (a=b):=by
 cases a with
 | inl i=>cases b with
  | inl j =>
   have:PyData.eqv (k2D (.inl i)) (k2D (.inl j))=(i==j):=rfl
   rw [this,Bool.eq_iff_iff]
   simp
  | inr js=>exact (decide_eq_false (λ z=>by cases z)).symm
 | inr is=>cases b with
  | inl j=>exact (decide_eq_false (λ z=>by cases z)).symm
  | inr js =>
   have:PyData.eqv (k2D (.inr is)) (k2D (.inr js))=PyData.eqv (.tuple (is.map .int)) (.tuple (js.map .int)):=rfl
   rw [this,qbJ,Bool.eq_iff_iff]
   simp
theorem qaQ:∀ a b:K2,PyData.eqv (k2T a) (k2T b)=decide (a=b)
 | [],[]=>rfl
 | [],_::_=>rfl
 | _::_,[]=>rfl
 | x::xs,y::ys=>by
  have:PyData.eqv (k2T (x::xs)) (k2T (y::ys))=(PyData.eqv (k2D x) (k2D y)&&PyData.eqv (k2T xs) (k2T ys)):=rfl
  rw [this,qh7,qaQ xs ys,Bool.eq_iff_iff]
  simp
end
def Y6 (prog:Program)(w:World):HeapKind prog w K2 where
 is:=Is2
 hash:=λ ks=>reduceHash (Builtin.Tuple.tupleHashOf (ks.map k2H))
 draws:=λ ks=>((ks.map λ k=>(k2H k,k2N k)).map (·.2)).sum+1
 room:=λ A=>A.units+3<cLine
 inj:=λ hx hy=>hx.inj hy
 keeps:=λ x ho hd hs=>x.keeps ho hd hs
 pyHash:=λ {A E s k a Q} hu hk h=>by
  obtain ⟨as,r⟩:=hk
  cases r with
  | tuple h1 h2 h3 h4 =>
   have hu1:A.in1.units<cLine:=by show A.units+1<cLine;omega
   refine qbW (by omega) h1 h2 h3 (Y4 hu1 h4) ?_
   have e:(k.map λ x=>(k2H x,k2N x)).map (·.1)=k.map k2H:=by rw [List.map_map];rfl
   rw [e]
   exact h
 eqBool:=λ {A E s x y a b Q} hu hx hy h=>by
  obtain ⟨as,r⟩:=hx
  obtain ⟨bs,q⟩:=hy
  refine SeqAt.eqAt_reads _ _ A s _ _ _ _ r q (wC x).1 (wC y).1 ?_ prog w E Q (by rw [qaQ];exact h)
  have:=(wC x).2
  have:=Nat.min_le_left (k2T x).depth (k2T y).depth
  omega
 quiet:=λ hk h=>hk.quiet h
def qj6 (ks:K2):Int:=reduceHash (Builtin.Tuple.tupleHashOf (ks.map k2H))
abbrev KX:=Int ⊕ K2
def kxD (k:KX):PyData:=match k with
 | .inl i=>.int i
 | .inr ks=>k2T ks
def kxV (k:KX)(b:Addr):V:=match k with
 | .inl i=>.int i
 | .inr _=>.ref b
def kxI (k:KX):Bool:=match k with
 | .inl _=>true
 | .inr _=>false
def qgx:PyData->Bool
 | .int _=>true
 | _=>false
theorem qde (k:KX):qgx (kxD k)=kxI k:=by cases k<;>rfl
theorem yP (a b:KX):PyData.eqv (kxD a) (kxD b)=decide (a=b):=by
 cases a with
 | inl i=>cases b with
  | inl j =>
   have:PyData.eqv (kxD (.inl i)) (kxD (.inl j))=(i==j):=rfl
   rw [this,Bool.eq_iff_iff]
   simp
  | inr js=>exact (decide_eq_false (λ z=>by cases z)).symm
 | inr is=>cases b with
  | inl j=>exact (decide_eq_false (λ z=>by cases z)).symm
  | inr js =>
   have:PyData.eqv (kxD (.inr is)) (kxD (.inr js))=PyData.eqv (k2T is) (k2T js):=rfl
   rw [this,qaQ,Bool.eq_iff_iff]
   simp
abbrev PkT (p:KX×Addr×V)(q:K2×Addr×Value):Prop:=p.1=.inr q.1/\p.2.1=q.2.1/\RelV p.2.2 q.2.2
abbrev PkI (p:KX×Addr×V)(q:Int×Value):Prop:=p.1=.inl q.1/\RelV p.2.2 q.2
abbrev EnI (e:DictEntry)(q:Int×Value):Prop:=e.hash=hashInt q.1/\(∃ t,e.key=.int q.1 t)/\e.val=q.2
def DctT (a:Addr)(kvs:List (KX×Addr×V))(ep:Nat)(h:Heap):Prop :=
 ∃ xs:List (K2×Addr×Value),Paired PkT kvs xs/\∃ o es,h.get? a=some o/\o.ExactDict/\o.data=.dict es ep/\es.toList=xs.map (λ x=>(⟨qj6 x.1,.ref x.2.1,x.2.2⟩:DictEntry))/\(xs.map (·.1)).Nodup
def DctI (a:Addr)(kvs:List (KX×Addr×V))(ep:Nat)(h:Heap):Prop :=
 ∃ vs:List (Int×Value),Paired PkI kvs vs/\∃ o es,h.get? a=some o/\o.ExactDict/\o.data=.dict es ep/\Paired EnI es.toList vs/\(vs.map (·.1)).Nodup
def zZ (a:Addr)(kvs:List (KX×Addr×V))(ep:Nat)(h:Heap):Prop :=
 kvs.length<=sizeLine/\(a==sysModules)=false/\(DctT a kvs ep h\/DctI a kvs ep h)
def DctO (a:Addr)(kvs:List (KX×Addr×V))(ep:Nat):HO:=.ext (zZ a kvs ep)
theorem zZ.ok {P:Program}{w:World}{H:Hp}{h:Heap}{a:Addr}{kvs:List (KX×Addr×V)}{ep:Nat}(d:zZ a kvs ep h):Zy P w H h a (DctO a kvs ep):=by
 refine ⟨d,?_,λ h1 h2 ⟨z,y,e⟩ k=>⟨z,y,e.imp (λ ⟨xs,r,o,es,g1,g2⟩=>⟨xs,r,o,es,k o g1,g2⟩) λ ⟨xs,r,o,es,g1,g2⟩=>⟨xs,r,o,es,k o g1,g2⟩⟩⟩
 obtain ⟨_,_,⟨_,_,o,_,g1,_⟩|⟨_,_,o,_,g1,_⟩⟩:=d
 ·exact ⟨o,g1⟩
 ·exact ⟨o,g1⟩
theorem zZ.of {P:Program}{w:World}{H:Hp}{h:Heap}{a:Addr}{kvs:List (KX×Addr×V)}{ep:Nat}(x:Zy P w H h a (DctO a kvs ep)):zZ a kvs ep h:=x.1
def dkv (kvs:List (KX×Addr×V))(ds:List PyData):List (PyData×PyData):=(kvs.map λ p=>kxD p.1).zip ds
theorem qbE {kvs:List (KX×Addr×V)}{ds:List PyData}(h:kvs.length=ds.length):(dkv kvs ds).map (·.1)=kvs.map λ p=>kxD p.1:=by
 unfold dkv
 rw [List.map_fst_zip (by rw [List.length_map,h];exact Nat.le_refl _)]
theorem qhh {kvs:List (KX×Addr×V)}{xs:List (K2×Addr×Value)}(r:Paired PkT kvs xs):Vals (kvs.map λ p=>kxV p.1 p.2.1) (xs.map λ x=>Value.ref x.2.1)/\Vals (kvs.map (·.2.2)) (xs.map (·.2.2)):=by
 induction r with
 | nil=>exact ⟨.nil,.nil⟩
 | cons h t ih=>exact ⟨.cons (by dsimp only;rw [h.1,h.2.1];rfl) ih.1,.cons h.2.2 ih.2⟩
theorem qcu:∀ {kvs:List (KX×Addr×V)} {vs:List (Int×Value)} {es:List DictEntry},Paired PkI kvs vs->Paired EnI es vs->Vals (kvs.map λ p=>kxV p.1 p.2.1) (es.map (·.key))/\Vals (kvs.map (·.2.2)) (es.map (·.val))
 | _,_,_,.nil,.nil=>⟨.nil,.nil⟩
 | _,_,_,.cons h t,.cons g u=>by
  obtain ⟨i1,i2⟩:=qcu t u
  obtain ⟨_,⟨tk,g1⟩,g2⟩:=g
  exact ⟨.cons (by dsimp only;rw [h.1,g1];exact ⟨tk,rfl⟩) i1,.cons (by dsimp only;rw [g2];exact h.2) i2⟩
theorem zZ.vals {h:Heap}{a:Addr}{kvs:List (KX×Addr×V)}{ep:Nat}(d:zZ a kvs ep h):∃ o es,h.get? a=some o/\o.ExactDict/\o.data=.dict es ep/\Vals (kvs.map λ p=>kxV p.1 p.2.1) (es.toList.map (·.key))/\Vals (kvs.map (·.2.2)) (es.toList.map (·.val)):=by
 obtain ⟨_,_,⟨xs,r,o,es,g1,g2,g3,g4,_⟩|⟨vs,r,o,es,g1,g2,g3,g4,_⟩⟩:=d
 ·refine ⟨o,es,g1,g2,g3,?_⟩
  rw [g4,List.map_map,List.map_map]
  exact qhh r
 ·exact ⟨o,es,g1,g2,g3,qcu r g4⟩
theorem zZ.tup {h:Heap}{a:Addr}{kvs:List (KX×Addr×V)}{ep:Nat}(d:zZ a kvs ep h)(hk:∀ p∈kvs,kxI p.1=false):DctT a kvs ep h:=by
 obtain ⟨_,_,d|⟨vs,r,o,es,g1,g2,g3,g4,g5⟩⟩:=d
 ·exact d
 ·cases r with
  | nil =>
   have he:es.toList=[]:=by cases h:es.toList with
    | nil=>rfl
    | cons=>rw [h] at g4;cases g4
   exact ⟨[],.nil,o,es,g1,g2,g3,he,List.nodup_nil⟩
  | @cons p q _ _ h t =>
   have:=hk p (.head _)
   rw [h.1] at this
   cases this
theorem zZ.int {h:Heap}{a:Addr}{kvs:List (KX×Addr×V)}{ep:Nat}(d:zZ a kvs ep h)(hk:∀ p∈kvs,kxI p.1=true):DctI a kvs ep h:=by
 obtain ⟨_,_,⟨xs,r,o,es,g1,g2,g3,g4,g5⟩|d⟩:=d
 ·cases r with
  | nil=>exact ⟨[],.nil,o,es,g1,g2,g3,by rw [g4];exact .nil,List.nodup_nil⟩
  | @cons p q _ _ h t =>
   have:=hk p (.head _)
   rw [h.1] at this
   cases this
 ·exact d
def qbK:List String:=["int", "bool", "tuple", "list", "str"]
def xcB (K:W.Frag)(C:Addr):Bool :=
 (W.clsIn K C).isSome&&(W.findIn K (.ref C) "__getattribute__" == some (some (.builtin "BaseException.__getattribute__")))&&(W.findIn K (.ref C) "__getattr__" == some none)
 && (W.findIn K (.ref C) "__class__" == some (some (.builtin "object.__class__")))&&(W.mroIn K C (.type "object")==some true)&&(W.mroIn K C (.type "BaseException")==some true)
 && qbK.all λ T=>W.kitOne K (.ref C) (.type T)==some false
structure XcK (K:W.Frag)(C:Addr):Prop where
 cls:(W.clsIn K C).isSome=true
 ga:W.findIn K (.ref C) "__getattribute__" = some (some (.builtin "BaseException.__getattribute__"))
 gt:W.findIn K (.ref C) "__getattr__" = some none
 cl:W.findIn K (.ref C) "__class__" = some (some (.builtin "object.__class__"))
 mo:W.mroIn K C (.type "object")=some true
 mb:W.mroIn K C (.type "BaseException")=some true
 ts:∀ T∈qbK,W.kitOne K (.ref C) (.type T)=some false
theorem qhD {K:W.Frag}{C:Addr}(h:xcB K C=true):XcK K C:=by
 unfold xcB at h
 simp only [Bool.and_eq_true,beq_iff_eq,List.all_eq_true] at h
 obtain ⟨⟨⟨⟨⟨⟨h1,h2⟩,h3⟩,h4⟩,h5⟩,h6⟩,h7⟩:=h
 exact ⟨h1,h2,h3,h4,h5,h6,h7⟩
section
variable {prog:Program}{w:World}{A:Around}{E:Value->Shared->Prop}{s:Shared}{K:W.Frag}{x C:Addr}
def OfC (h:Heap)(x C:Addr):Prop:=∃ o,h.get? x=some o/\o.cls=.ref C
theorem OfC.ty {h:Heap}{M:Model}(I:OfC h x C):W.Looks M h (typeOf (.ref x)) (.ref C):=by
 obtain ⟨o,h1,h2⟩:=I
 exact h2 ▸ (W.Looks.ld h1).andThen .now
open PySem.W in
theorem qaS {M:Model}{nameV:Value}{Q:Unit->Shared->Prop}(Z:XcK K C)(X:K.In s.heap)(I:OfC s.heap x C)(hq:Q () s) :
  wpAny M A (checkBuiltinCall "BaseException.__getattribute__" ⟨[.ref x,nameV],[]⟩) Q E s:=by
 obtain ⟨hh,g,d,t,os⟩:=s
 have hk:builtinKind "BaseException.__getattribute__" = some .slot:=by decide +kernel
 have hs:splitId "BaseException.__getattribute__" = some ("BaseException", "__getattribute__"):=by decide +kernel
 have L0:=I.ty (M:=M)
 have L1:=looks_mroIn (M:=M) X Z.mb
 have ha:=F.args_bexc_ga (.ref x) nameV
 simp only [checkBuiltinCall,hk,hs]
 refine wpAny_bind ?_
 unfold isInstance
 repeat (first|with_reducible refine Looks.at (by assumption) ?_|wp_step)
 exact hq
open PySem.W in
theorem WN {R:Result->Shared->Prop}(Z:XcK K C)(X:K.In s.heap)(I:OfC s.heap x C)(hq:R (.ok (.ret (.ref C))) s) :
  codeAny (model prog w) A (.call (.builtin "getset_descriptor.__get__") ⟨[.builtin "object.__class__", .ref x,.ref C],[]⟩) R s:=by
 obtain ⟨hh,g,d,t,os⟩:=s
 have hT5:(⟨hh,g,d,t,os⟩:Shared).TypeIs (.builtin "object.__class__") "getset_descriptor" := F.typeOf_object_class
 have L0:=I.ty (M:=model prog w)
 have L1:Looks (model prog w) hh (isSubtype (.ref C) (.type (".".intercalate ("object.__class__".cutAt '.').dropLast))) true:=by
  rw [F.owner_object_class]
  exact looks_mroIn (M:=model prog w) X Z.mo
 refine codeAny_call_builtin F.slot_gs_get.plain F.entry_gs_get (F.slot_gs_get.check _ _ _ _ _ _ _ _ hT5 (F.args_gs_get _ _ _) ?_)
 repeat (any_goals (first|assumption|with_reducible refine Looks.at (by assumption) ?_|wp_step))
 refine ⟨Code.quiet_builtin _ (by decide +kernel),codeAny_builtin F.entry_object_class ?_⟩
 repeat (any_goals (first|assumption|with_reducible refine Looks.at (by assumption) ?_|wp_step))
open PySem.W in
theorem ww {tk:Tok}{Q:Fin->Shared->Prop}(Z:XcK K C)(X:K.In s.heap)(I:OfC s.heap x C)(hq:Q (.done (.ret (.ref C))) s) :
  wpAny (model prog w) A (Builtin.«object.__getattribute__» ⟨[.ref x,.str "__class__" tk],[]⟩) Q E s:=by
 obtain ⟨hh,g,d,t,os⟩:=s
 have hT5:(⟨hh,g,d,t,os⟩:Shared).TypeIs (.builtin "object.__class__") "getset_descriptor" := F.typeOf_object_class
 have L0:=I.ty (M:=model prog w)
 have L1:=looks_findIn (M:=model prog w) X Z.cl
 have f5:=F.typeOf_object_class;have f6:=F.slot_gs_get.lookup;have f7:=F.slot_gs_set.lookup
 repeat (any_goals (first|assumption|with_reducible refine Looks.at (by assumption) ?_|wp_step))
 refine WN Z X I ?_
 repeat (any_goals (first|assumption|wp_step))
open PySem.W in
theorem qaR {tk:Tok}{Q:Value->Shared->Prop}(Z:XcK K C)(X:K.In s.heap)(I:OfC s.heap x C)(hq:Q (.ref C) s) :
  wpAny (model prog w) A (getAttrBy (.ref x) (.str "__class__" tk) false) Q E s:=by
 obtain ⟨hh,g,d,t,os⟩:=s
 have L0:=I.ty (M:=model prog w)
 have L1:=looks_findIn (M:=model prog w) X Z.ga
 have L2:=looks_findIn (M:=model prog w) X Z.gt
 have f3:=F.excAttr_ValueError.ga.bind (.ref x)
 have hx2:(Value.builtin "BaseException.__getattribute__" == Value.builtin "object.__getattribute__")=false:=by kernel_rfl
 have hx1:(onTheHeap (Value.ref C)&&Value.builtin "BaseException.__getattribute__" == Value.builtin "object.__getattribute__")=false:=by rw [hx2];exact Bool.and_false _
 repeat (any_goals (first|assumption|with_reducible refine Looks.at (by assumption) ?_|wp_step))
 refine codeAny_call_builtin F.excAttr_ValueError.ga.plain F.entry_bexc_ga (qaS Z X I (ww Z X I ?_))
 repeat (any_goals (first|assumption|wp_step))
open PySem.W in
theorem qe7 {Q:Option Value->Shared->Prop}(Z:XcK K C)(X:K.In s.heap)(I:OfC s.heap x C)(hq:Q (some (.ref C)) { s with toks:=s.toks+1 }) :
  wpAny (model prog w) A (getAttr? (.ref x) "__class__") Q E s:=by
 obtain ⟨hh,g,d,t,os⟩:=s
 unfold getAttr? getAttrBy?
 refine wpAny_bind (wpAny_mkText (wpAny_bind (wpAny_attempt (qaR (s:=⟨hh,g,d,t+1,os⟩) Z X I ?_))))
 exact wpAny_pure hq
end
open PySem.W in
theorem qgG {K:Frag}{a C:Addr}(Z:XcK K C):KitX K (.ref a) (.ref C) (λ h=>OfC h a C) where
 ty:=λ _ _ _ I=>I.ty
 it:=λ _ _ X _=>by
  have z:=Z.cls
  unfold clsIn at z
  split at z
  ·rename_i c' d' cd' sl' ho
   intro A' Q' E' s' k q;unfold isType loadHead
   exact wpAny_bind (wpAny_loadPart (k _ _ (X _ _ ho)) (wpAny_pure q))
  ·cases z
 ne:=λ h tp dd its n sl X htp=>by
  have z:=Z.cls
  refine Bool.eq_false_iff.mpr λ q=>?_
  have e:C=tp:=Value.ref.inj (beq_iff_eq.mp q)
  subst e;unfold clsIn at z
  split at z
  ·rename_i c' d' cd' sl' ho
   have y:=(X _ _ ho).symm.trans htp
   cases y
  ·cases z
 ca:=λ X I k=>qe7 Z X I k
abbrev Av:=Addr->Prop
def jG:HO->Bool
 | .lst _=>true
 | .dK _=>true
 | .dT _=>true
 | .ext _=>true
 | _=>false
def Dm (S:Av)(H:Hp):Prop:=∀ a,S a->∃ o,H a=some o/\jG o=true
def Off (S:Av)(H H':Hp):Prop:=∀ b o,¬ S b->H b=some o->H' b=some o
def KqL (K:W.Frag)(a:Addr)(xs:List V):Prop:=∃ (o:Obj) (its:Array Value) (n:Nat),K.lookup a=some o/\o.cls=.type "list"/\o.dict=none/\o.data=.seq its n/\its.size<=sizeLine/\Vals xs its.toList
def SqLS (K:W.Frag)(H:Hp)(S:Av)(a:Addr)(xs:List V):Prop:=(Rd H a (.lst xs)/\¬ S a)\/KqL K a xs
def ExcO (K:W.Frag)(o:Obj)(c:Str):Prop:=∃ C vs,o.cls=.ref C/\o.data=.fields vs/\W.nsIn K mainGlobals c=some (some (.ref C))/\xcB K C=true
def excD (c:Str)(d:PyData):PyData:=.dict [(.str c,d),(.int 0,.none)]
def excK:List (PyData×PyData)->Bool
 | (.str _,_)::_=>true
 | _=>false
theorem qgj {kvs:List (KX×Addr×V)}{ds:List PyData}:excK (dkv kvs ds)=false:=by
 cases kvs with
 | nil=>rfl
 | cons p ps =>
  cases ds with
  | nil=>rfl
  | cons d ds=>obtain ⟨k|k,_⟩:=p<;>rfl
mutual
inductive Den (K:W.Frag)(H:Hp)(S:Av):V->PyData->Prop
 | none:Den K H S .non .none
 | bool (b:Bool):Den K H S (.bl b) (.bool b)
 | int (i:Int):Den K H S (.int i) (.int i)
 | str (x:Str):Den K H S (.str x) (.str x)
 | list {a:Addr} {xs:List V} {ds:List PyData}:SqLS K H S a xs->DenL K H S xs ds->Den K H S (.ref a) (.list ds)
 | tuple {a:Addr} {xs:List V} {ds:List PyData}:SqT K H a xs->DenL K H S xs ds->Den K H S (.ref a) (.tuple ds)
 | dict {a:Addr} {kvs:List (KX×Addr×V)} {ep:Nat} {ds:List PyData}:(H a=some (DctO a kvs ep)/\¬ S a)->DenL K H S (kvs.map λ p=>kxV p.1 p.2.1) (kvs.map λ p=>kxD p.1)->DenL K H S (kvs.map (·.2.2)) ds->Den K H S (.ref a) (.dict (dkv kvs ds))
 | exc0 {a:Addr} {o:Obj} {c:Str}:H a=some (.frz o (.own a))->ExcO K o c->Den K H S (.ref a) (excD c .none)
 | exc1 {a dx:Addr} {o:Obj} {c n:Str} {v:V} {d:PyData}:H a=some (.frz o (.own a))->ExcO K o c->o.dict=some dx->H dx=some (.xd [(n,v)])->Den K H S v d->Den K H S (.ref a) (excD c (.tuple [.str n,d]))
inductive DenL (K:W.Frag)(H:Hp)(S:Av):List V->List PyData->Prop
 | nil:DenL K H S [] []
 | cons {x:V} {d:PyData} {xs:List V} {ds:List PyData}:Den K H S x d->DenL K H S xs ds->DenL K H S (x::xs) (d::ds)
end
mutual
def flat:PyData->Bool
 | .none=>true
 | .bool _=>true
 | .int _=>true
 | .str _=>true
 | .list _=>false
 | .tuple ds=>yR ds
 | .dict _=>false
def yR:List PyData->Bool
 | []=>true
 | d::ds=>flat d&&yR ds
end
section
variable {K:W.Frag}{H H':Hp}{S S':Av}
theorem SqLS.sq {a:Addr}{xs:List V}(h:SqLS K H S a xs):SqL K H a xs:=h.imp (·.1) id
theorem SqLS.new {a:Addr}{xs:List V}(h:H a=some (.lst xs))(n:¬ S a):SqLS K H S a xs:=.inl ⟨.inl h,n⟩
theorem Dm.free {p:Addr}(m:Dm S H)(h:H p=none):¬ S p:=λ q=>by
 obtain ⟨o,e,_⟩:=m p q
 rw [h] at e;cases e
theorem Dm.same (e:Same H H')(m:Dm S H):Dm S H':=λ a q=>by
 obtain ⟨o,h,w⟩:=m a q
 exact ⟨o,e a o h,w⟩
theorem Dm.sub (m:Dm S H)(h:∀ a,S' a->S a):Dm S' H:=λ a q=>m a (h a q)
theorem Dm.tup {a:Addr}{xs:List V}(m:Dm S H)(h:Rd H a (.tup xs)):¬ S a:=λ q=>by
 obtain ⟨o,e,w⟩:=m a q
 rcases h with h|⟨u,h⟩
 ·rw [h] at e;cases e;cases w
 ·rw [h] at e;cases e;cases w
theorem Dm.not {a:Addr}{u:HO}(m:Dm S H)(h:H a=some u)(n:jG u=false):¬ S a:=λ q=>by
 obtain ⟨o,e,w⟩:=m a q
 rw [h] at e;cases e;rw [n] at w;cases w
theorem Rd.off {a:Addr}{o:HO}(e:Off S H H')(n:¬ S a)(h:Rd H a o):Rd H' a o:=by
 rcases h with h|⟨u,h⟩
 ·exact .inl (e _ _ n h)
 ·exact .inr ⟨u,e _ _ n h⟩
theorem Rd.dom {a:Addr}{o:HO}(h:Rd H a o):H a≠none:=by
 rcases h with h|⟨u,h⟩<;>(rw [h];exact λ z=>nomatch z)
theorem Same.off (e:Same H H'):Off S H H':=λ b o _ h=>e b o h
theorem SqT.upd {a p:Addr}{o:HO}{xs:List V}(h:SqT K H a xs)(hn:H p=none):SqT K (upd H p o) a xs:=by
 rcases h with (h|⟨o',h⟩)|h
 ·exact .inl (.inl (by rw [qO (Qt h hn)];exact h))
 ·exact .inl (.inr ⟨o',by rw [qO (Qt h hn)];exact h⟩)
 ·exact .inr h
theorem Same.sqT {a:Addr}{xs:List V}(e:Same H H')(h:SqT K H a xs):SqT K H' a xs:=by
 rcases h with (h|⟨o,h⟩)|h
 ·exact .inl (.inl (e _ _ h))
 ·exact .inl (.inr ⟨o,e _ _ h⟩)
 ·exact .inr h
theorem Same.lay {p:Addr}{o:HO}(hn:H p=none):Same H (L2.upd H p o):=λ b u q=>by rw [qO (Qt q hn)];exact q
theorem Same.lay' {H0:Hp}{p:Addr}{o:HO}(e:Same H0 H)(hn:H p=none):Same H0 (L2.upd H p o):=e.trans (Same.lay hn)
mutual
theorem Den.off (m:Dm S H)(e:Off S H H'):∀ {v:V} {d:PyData},Den K H S v d->Den K H' S v d
 | _,_,.none=>.none
 | _,_,.bool b=>.bool b
 | _,_,.int i=>.int i
 | _,_,.str x=>.str x
 | _,_,.list h t=>.list (h.imp (λ q=>⟨q.1.off e q.2,q.2⟩) id) (DenL.off m e t)
 | _,_,.tuple h t=>.tuple (h.imp (λ q=>q.off e (m.tup q)) id) (DenL.off m e t)
 | _,_,.dict h k t=>.dict ⟨e _ _ h.2 h.1,h.2⟩ (DenL.off m e k) (DenL.off m e t)
 | _,_,.exc0 h o=>.exc0 (e _ _ (m.not h rfl) h) o
 | _,_,.exc1 h o x y t=>.exc1 (e _ _ (m.not h rfl) h) o x (e _ _ (m.not y rfl) y) (Den.off m e t)
theorem DenL.off (m:Dm S H)(e:Off S H H'):∀ {vs:List V} {ds:List PyData},DenL K H S vs ds->DenL K H' S vs ds
 | _,_,.nil=>.nil
 | _,_,.cons h t=>.cons (Den.off m e h) (DenL.off m e t)
end
mutual
theorem Den.same (e:Same H H'):∀ {v:V} {d:PyData},Den K H S v d->Den K H' S v d
 | _,_,.none=>.none
 | _,_,.bool b=>.bool b
 | _,_,.int i=>.int i
 | _,_,.str x=>.str x
 | _,_,.list h t=>.list (h.imp (λ q=>⟨q.1.off (S:=S) e.off q.2,q.2⟩) id) (DenL.same e t)
 | _,_,.tuple h t=>.tuple (e.sqT h) (DenL.same e t)
 | _,_,.dict h k t=>.dict ⟨e _ _ h.1,h.2⟩ (DenL.same e k) (DenL.same e t)
 | _,_,.exc0 h o=>.exc0 (e _ _ h) o
 | _,_,.exc1 h o x y t=>.exc1 (e _ _ h) o x (e _ _ y) (Den.same e t)
theorem DenL.same (e:Same H H'):∀ {vs:List V} {ds:List PyData},DenL K H S vs ds->DenL K H' S vs ds
 | _,_,.nil=>.nil
 | _,_,.cons h t=>.cons (Den.same e h) (DenL.same e t)
end
mutual
theorem Den.sub (e:∀ a,H a≠none->S' a->S a):∀ {v:V} {d:PyData},Den K H S v d->Den K H S' v d
 | _,_,.none=>.none
 | _,_,.bool b=>.bool b
 | _,_,.int i=>.int i
 | _,_,.str x=>.str x
 | _,_,.list h t=>.list (h.imp (λ q=>⟨q.1,λ z=>q.2 (e _ q.1.dom z)⟩) id) (DenL.sub e t)
 | _,_,.tuple h t=>.tuple h (DenL.sub e t)
 | _,_,.dict h k t=>.dict ⟨h.1,λ z=>h.2 (e _ (by rw [h.1];exact λ y=>nomatch y) z)⟩ (DenL.sub e k) (DenL.sub e t)
 | _,_,.exc0 h o=>.exc0 h o
 | _,_,.exc1 h o x y t=>.exc1 h o x y (Den.sub e t)
theorem DenL.sub (e:∀ a,H a≠none->S' a->S a):∀ {vs:List V} {ds:List PyData},DenL K H S vs ds->DenL K H S' vs ds
 | _,_,.nil=>.nil
 | _,_,.cons h t=>.cons (Den.sub e h) (DenL.sub e t)
end
mutual
theorem Den.flat:∀ {v:V} {d:PyData},L2.flat d=true->Den K H S v d->Den K H S' v d
 | _,_,_,.none=>.none
 | _,_,_,.bool b=>.bool b
 | _,_,_,.int i=>.int i
 | _,_,_,.str x=>.str x
 | _,_,f,.list h t=>by cases f
 | _,_,f,.tuple h t=>.tuple h (DenL.flat (by rw [L2.flat] at f;exact f) t)
 | _,_,f,.dict h k t=>by cases f
 | _,_,f,.exc0 h o=>by cases f
 | _,_,f,.exc1 h o x y t=>by cases f
theorem DenL.flat:∀ {vs:List V} {ds:List PyData},yR ds=true->DenL K H S vs ds->DenL K H S' vs ds
 | _,_,_,.nil=>.nil
 | _,_,f,.cons h t=>by
  rw [yR,Bool.and_eq_true] at f
  exact .cons (Den.flat f.1 h) (DenL.flat f.2 t)
end
theorem DenL.length:∀ {vs:List V} {ds:List PyData},DenL K H S vs ds->vs.length=ds.length
 | _,_,.nil=>rfl
 | _,_,.cons _ t=>by rw [List.length_cons,List.length_cons,t.length]
theorem DenL.snoc:∀ {vs:List V} {ds:List PyData} {v:V} {d:PyData},DenL K H S vs ds->Den K H S v d->DenL K H S (vs++[v]) (ds++[d])
 | _,_,_,_,.nil,h=>.cons h .nil
 | _,_,_,_,.cons h t,q=>.cons h (t.snoc q)
theorem DenL.append:∀ {vs ws:List V} {ds es:List PyData},DenL K H S vs ds->DenL K H S ws es->DenL K H S (vs++ws) (ds++es)
 | _,_,_,_,.nil,h=>h
 | _,_,_,_,.cons h t,q=>.cons h (t.append q)
theorem DenL.get:∀ {vs:List V} {ds:List PyData} {i:Nat} {d:PyData},DenL K H S vs ds->ds[i]?=some d->∃ v,vs[i]?=some v/\Den K H S v d
 | _,_,_,_,.nil,e=>by simp at e
 | _,_,0,_,.cons h _,e=>by simp at e;subst e;exact ⟨_,rfl,h⟩
 | _,_,i+1,d,.cons _ t,e=>by
  obtain ⟨v,h1,h2⟩:=DenL.get (i:=i) (d:=d) t (by simpa using e)
  exact ⟨v,by simpa using h1,h2⟩
theorem DenL.drop:∀ {vs:List V} {ds:List PyData} (n:Nat),DenL K H S vs ds->DenL K H S (vs.drop n) (ds.drop n)
 | _,_,0,h=>h
 | _,_,_+1,.nil=>.nil
 | _,_,n+1,.cons _ t=>t.drop n
theorem DenL.take:∀ {vs:List V} {ds:List PyData} (n:Nat),DenL K H S vs ds->DenL K H S (vs.take n) (ds.take n)
 | _,_,0,_=>.nil
 | _,_,_+1,.nil=>.nil
 | _,_,n+1,.cons h t=>.cons h (t.take n)
theorem DenL.ints:∀ ns:List Int,DenL K H S (ns.map V.int) (ns.map PyData.int)
 | []=>.nil
 | n::ns=>.cons (.int n) (DenL.ints ns)
theorem Den.int_inv {v:V}{i:Int}(h:Den K H S v (.int i)):v=.int i:=by cases h;rfl
theorem Den.bool_inv {v:V}{b:Bool}(h:Den K H S v (.bool b)):v=.bl b:=by cases h;rfl
theorem Den.list_inv {v:V}{ds:List PyData}(h:Den K H S v (.list ds)):∃ a xs,v=.ref a/\SqLS K H S a xs/\DenL K H S xs ds:=by
 cases h with
 | list h t=>exact ⟨_,_,rfl,h,t⟩
theorem Den.tuple_inv {v:V}{ds:List PyData}(h:Den K H S v (.tuple ds)):∃ a xs,v=.ref a/\SqT K H a xs/\DenL K H S xs ds:=by
 cases h with
 | tuple h t=>exact ⟨_,_,rfl,h,t⟩
theorem DenL.inv1 {vs:List V}{d:PyData}(h:DenL K H S vs [d]):∃ v,vs=[v]/\Den K H S v d:=by
 cases h with
 | cons a t=>cases t;exact ⟨_,rfl,a⟩
theorem DenL.inv2 {vs:List V}{d e:PyData}(h:DenL K H S vs [d,e]):∃ v w,vs=[v,w]/\Den K H S v d/\Den K H S w e:=by
 cases h with
 | cons a t=>obtain ⟨w,rfl,b⟩:=t.inv1;exact ⟨_,w,rfl,a,b⟩
end
section
variable {X:Cx}{pins:List (Addr×Obj)}{σ:St}{H:Hp}{s:Shared}{S:Av}
mutual
theorem Den.reads (I:Inv X pins σ H s):∀ {v:V} {d:PyData} {u:Value},Den X.K H S v d->d.canLay0=true->RelV v u->∃ as,Reads s.heap u d as
 | _,_,u,.none,_,r=>by cases (show u=Value.none from r);exact ⟨_,.none⟩
 | _,_,u,.bool b,_,r=>by cases (show u=Value.bool b from r);exact ⟨_,.bool b⟩
 | _,_,u,.int i,_,r=>by obtain ⟨t,e⟩:=(show ∃ t,u=Value.int i t from r);cases e;exact ⟨_,.int i t⟩
 | _,_,u,.str x,_,r=>by obtain ⟨t,e⟩:=(show ∃ t,u=Value.str x t from r);cases e;exact ⟨_,.str x t⟩
 | _,_,u,@Den.list _ _ _ a xs ds h t,c0,r=>by
  cases (show u=Value.ref a from r)
  obtain ⟨its,rv,⟨o,n,e,c,_,d⟩,_⟩:=I.list h.sq
  obtain ⟨as,q⟩:=DenL.reads I t (by rw [PyData.canLay0] at c0;exact c0) rv
  exact ⟨_,.list e c d (by simpa using q)⟩
 | _,_,u,@Den.tuple _ _ _ a xs ds h t,c0,r=>by
  cases (show u=Value.ref a from r)
  obtain ⟨its,rv,⟨o,e,c,n,d⟩,_⟩:=I.tuple h
  obtain ⟨as,q⟩:=DenL.reads I t (by rw [PyData.canLay0] at c0;exact c0) rv
  exact ⟨_,.tuple e c d (by simpa using q)⟩
 | _,_,u,.dict h k t,c0,r=>by rw [PyData.canLay0] at c0;cases c0
 | _,_,u,.exc0 h o,c0,r=>by unfold excD at c0;rw [PyData.canLay0] at c0;cases c0
 | _,_,u,.exc1 h o x y t,c0,r=>by unfold excD at c0;rw [PyData.canLay0] at c0;cases c0
theorem DenL.reads (I:Inv X pins σ H s):∀ {vs:List V} {ds:List PyData} {us:List Value},DenL X.K H S vs ds->PyData.canLayAll0 ds=true->Vals vs us->∃ as,ReadsAll s.heap us ds as
 | _,_,_,.nil,_,.nil=>⟨_,.nil⟩
 | _,_,_,.cons h t,c0,.cons r rr=>by
  rw [PyData.canLayAll0,Bool.and_eq_true] at c0
  obtain ⟨as,q⟩:=Den.reads I h c0.1 r
  obtain ⟨bs,q'⟩:=DenL.reads I t c0.2 rr
  exact ⟨_,.cons q q'⟩
end
end
section
variable {X:Cx}{pins:List (Addr×Obj)}{σ:St}{H:Hp}{s:Shared}
def rEqD (K:W.Frag):R2:=λ x y H Q=>∃ S d e,Den K H S x d/\Den K H S y e/\SeqAt.shaped d=true/\SeqAt.shaped e=true/\Q (.bl (PyData.eqv d e)) H
def rNeD (K:W.Frag):R2:=λ x y H Q=>∃ S d e,Den K H S x d/\Den K H S y e/\SeqAt.shaped d=true/\SeqAt.shaped e=true/\Q (.bl (!PyData.eqv d e)) H
theorem qkm {k:Nat}(hr:Room k X.A):OpR X (compareOp .Eq) (rEqD X.K):=by
 intro pins s σ H x y v u Q I rx ry h
 obtain ⟨S,d,e,h1,h2,s1,s2,q⟩:=h
 obtain ⟨as,q1⟩:=h1.reads I (SeqAt.canLay_of_shaped s1) rx
 obtain ⟨bs,q2⟩:=h2.reads I (SeqAt.canLay_of_shaped s2) ry
 exact eq_dataH q1 q2 s1 s2 hr.units (jX I q rfl)
theorem qko {k:Nat}(hr:Room k X.A):OpR X (compareOp .NotEq) (rNeD X.K):=by
 intro pins s σ H x y v u Q I rx ry h
 obtain ⟨S,d,e,h1,h2,s1,s2,q⟩:=h
 obtain ⟨as,q1⟩:=h1.reads I (SeqAt.canLay_of_shaped s1) rx
 obtain ⟨bs,q2⟩:=h2.reads I (SeqAt.canLay_of_shaped s2) ry
 exact ne_dataH q1 q2 s1 s2 hr.units (jX I q rfl)
theorem qiF:OpR X (binaryOp .Mult) (rI IntMulOk λ i j=>.int (i*j)):=opI λ _ _ _ _ _ _ _ hc q=>mul_int q hc
inductive TyD (K:W.Frag)(H:Hp):V->String->Prop
 | non:TyD K H .non "NoneType"
 | bl (b:Bool):TyD K H (.bl b) "bool"
 | int (i:Int):TyD K H (.int i) "int"
 | str (x:Str):TyD K H (.str x) "str"
 | lst {a:Addr} {xs:List V} (h:SqL K H a xs):TyD K H (.ref a) "list"
 | tup {a:Addr} {xs:List V} (h:SqT K H a xs):TyD K H (.ref a) "tuple"
 | dct {a:Addr} {kvs:List (KX×Addr×V)} {ep:Nat} (h:H a=some (DctO a kvs ep)):TyD K H (.ref a) "dict"
def rIsi (K:W.Frag):List V->Hp->VK->Prop:=λ vs H Q=>∃ x T t b,vs=[x,.ty T]/\TyD K H x t/\W.kitOne K (.type t) (.type T)=some b/\Q (.bl b) H
theorem qf1:jo X (.builtin "isinstance") (rIsi X.K):=by
 intro pins s σ H xs us Q I r h
 obtain ⟨x,T,t,b,rfl,ty,e,q⟩:=h
 obtain ⟨u,c,rfl,ru,rc⟩:=r.two
 cases (show c=Value.type T from rc)
 have fin:∀ tk,EP X pins σ Q (.bool b) { s with toks:=tk }:=λ tk=>⟨.bl b,H,I.tok tk,rfl,q⟩
 cases ty with
 | non=>cases (show u=Value.none from ru);exact W.kia_one W.kitx_none I.kIn True.intro e (λ z=>nomatch z) fin
 | bl y=>cases (show u=Value.bool y from ru);exact W.kia_one W.kitx_bool I.kIn True.intro e (λ z=>nomatch z) fin
 | int i=>obtain ⟨t,q⟩:=(show ∃ t,u=Value.int i t from ru);cases q;exact W.kia_one W.kitx_int I.kIn True.intro e (λ z=>nomatch z) fin
 | str y=>obtain ⟨t,q⟩:=(show ∃ t,u=Value.str y t from ru);cases q;exact W.kia_one W.kitx_str I.kIn True.intro e (λ z=>nomatch z) fin
 | @lst a xs ea =>
  cases (show u=Value.ref a from ru)
  obtain ⟨_,_,⟨o,n,h1,h2,_⟩,_⟩:=I.list ea
  exact W.kia_one W.kitx_list I.kIn ⟨o,h1,h2⟩ e (λ z=>nomatch z) fin
 | @tup a xs ea =>
  cases (show u=Value.ref a from ru)
  obtain ⟨_,_,⟨o,h1,h2,_⟩,_⟩:=I.tuple ea
  exact W.kia_one W.kitx_tuple I.kIn ⟨o,h1,h2⟩ e (λ z=>nomatch z) fin
 | @dct a kvs ep ea =>
  cases (show u=Value.ref a from ru)
  obtain ⟨o,_,h1,h2,_⟩:=(zZ.of (I.hok a _ ea)).vals
  exact W.kia_one W.kitx_dict I.kIn ⟨o,h1,h2.1⟩ e (λ z=>nomatch z) fin
def ExcH (K:W.Frag)(H:Hp)(a:Addr)(c:Str):Prop:=∃ o,H a=some (.frz o (.own a))/\ExcO K o c
theorem Inv.excAt {a:Addr}{c:Str}(I:Inv X pins σ H s)(h:ExcH X.K H a c):∃ C,W.nsIn X.K mainGlobals c=some (some (.ref C))/\xcB X.K C=true/\OfC s.heap a C:=by
 obtain ⟨o,ha,C,vs,h1,h2,h3,h4⟩:=h
 exact ⟨C,h3,h4,o,(I.hok a _ ha).1,h1⟩
def qjz (K:W.Frag):List V->Hp->VK->Prop:=λ vs H Q=>∃ a c T b,vs=[.ref a,.ty T]/\ExcH K H a c/\(∀ C,xcB K C=true->W.kitOne K (.ref C) (.type T)=some b)/\Q (.bl b) H
theorem qeW:jo X (.builtin "isinstance") (qjz X.K):=by
 intro pins s σ H xs us Q I r h
 obtain ⟨a,c,T,b,rfl,hx,e,q⟩:=h
 obtain ⟨u,c',rfl,ru,rc⟩:=r.two
 cases (show c'=Value.type T from rc)
 cases (show u=Value.ref a from ru)
 obtain ⟨C,_,h4,IA⟩:=I.excAt hx
 exact W.kia_one (qgG (qhD h4)) I.kIn IA (e C h4) (λ z=>nomatch z) λ tk=>⟨.bl b,H,I.tok tk,rfl,q⟩
end
abbrev Rho:=List (Option PyData)
def DenS (K:W.Frag)(H:Hp)(S:Av)(M:List Nat)(σ:St)(ρ:Rho):Prop:=Dm S H/\σ.length=ρ.length/\∀ (i:Nat) (d:PyData),i∉M->ρ[i]?=some (some d)->∃ v,σ[i]?=some (some v)/\Den K H S v d
section
variable {K:W.Frag}{H H':Hp}{S:Av}{M:List Nat}{σ:St}{ρ:Rho}{v:V}{d:PyData}
theorem DenS.same (e:Same H H')(h:DenS K H S M σ ρ):DenS K H' S M σ ρ:=⟨h.1.same e,h.2.1,λ i d n q=>let ⟨v,a,b⟩:=h.2.2 i d n q;⟨v,a,b.same e⟩⟩
theorem DenS.set (h:DenS K H S M σ ρ)(q:Den K H S v d)(i:Nat):DenS K H S M (σ.set i (some v)) (ρ.set i (some d)):=by
 refine ⟨h.1,by rw [List.length_set,List.length_set];exact h.2.1,λ j e n he=>?_⟩
 by_cases hj:i=j
 ·subst hj
  by_cases hi:i<ρ.length
  ·rw [List.getElem?_set_self hi] at he
   cases he
   exact ⟨v,List.getElem?_set_self (by rw [h.2.1];exact hi),q⟩
  ·rw [List.set_eq_of_length_le (by omega)] at he
   exact absurd (List.getElem?_eq_some_iff.mp he).1 hi
 ·rw [List.getElem?_set_ne hj] at he
  obtain ⟨w,a,b⟩:=h.2.2 j e n he
  exact ⟨w,by rw [List.getElem?_set_ne hj];exact a,b⟩
theorem DenS.start {vs:List V}{ds:List PyData}(m:Dm S H)(h:DenL K H S vs ds)(N:List Str):DenS K H S [] (start N vs) (ds.map some++List.replicate (N.length-ds.length) none):=by
 have hl:=h.length
 refine ⟨m,?_,λ j e _ he=>?_⟩
 ·unfold L2.start
  rw [List.length_append,List.length_append,List.length_map,List.length_map,List.length_replicate,List.length_replicate,hl]
 ·by_cases hj:j<ds.length
  ·rw [List.getElem?_append_left (by simpa using hj),List.getElem?_map] at he
   cases e1:ds[j]? with
   | none=>rw [e1] at he;cases he
   | some d =>
    rw [e1] at he
    cases he
    obtain ⟨v,a,b⟩:=h.get e1
    refine ⟨v,?_,b⟩
    unfold L2.start
    rw [List.getElem?_append_left (by rw [List.length_map];omega),List.getElem?_map,a]
    rfl
  ·rw [List.getElem?_append_right (by simpa using hj),List.getElem?_replicate] at he
   split at he<;>cases he
end
def tD (K:W.Frag)(M:List Nat)(f:Rho->Option PyData):TE:=λ σ H Q=>∃ S ρ d,DenS K H S M σ ρ/\f ρ=some d/\∀ v H',Same H H'->Den K H' S v d->Q v H'
def tDA (K:W.Frag)(M:List Nat)(f:Rho->Option (List PyData)):TA:=λ σ H Q=>∃ S ρ ds,DenS K H S M σ ρ/\f ρ=some ds/\∀ vs H',Same H H'->DenL K H' S vs ds->Q vs H'
def tDT (K:W.Frag)(M:List Nat)(f:Rho->Option Bool):TT:=λ σ H Q=>∃ S ρ b,DenS K H S M σ ρ/\f ρ=some b/\∀ H',Same H H'->Q b H'
inductive Out where
 | nx (ρ:Rho)|rt (d:PyData)|bk (ρ:Rho)|ct (ρ:Rho)
def PD (X:Cx)(M:List Nat)(e:Expr)(f:Rho->Option PyData):Prop:=PE X e (tD X.K M f)
def PDA (X:Cx)(M:List Nat)(es:List Expr)(f:Rho->Option (List PyData)):Prop:=PA X es (tDA X.K M f)
def PDT (X:Cx)(M:List Nat)(e:Expr)(f:Rho->Option Bool):Prop:=PT X e (tDT X.K M f)
theorem PE.weak {X:Cx}{e:Expr}{t t':TE}(h:PE X e t)(w:∀ σ H Q,t' σ H Q->t σ H Q):PE X e t':=λ pins s σ H Q I q=>h pins s σ H Q I (w σ H Q q)
theorem PT.weak {X:Cx}{e:Expr}{t t':TT}(h:PT X e t)(w:∀ σ H Q,t' σ H Q->t σ H Q):PT X e t':=λ pins s σ H Q I q=>h pins s σ H Q I (w σ H Q q)
theorem PW.weak {X:Cx}{e:Expr}{t t':TT}(h:PW X e t)(w:∀ σ H Q,t' σ H Q->t σ H Q):PW X e t':=λ wh pins s σ H Q I q=>h wh pins s σ H Q I (w σ H Q q)
theorem PA.weak {X:Cx}{e:List Expr}{t t':TA}(h:PA X e t)(w:∀ σ H Q,t' σ H Q->t σ H Q):PA X e t':=λ pos pins s σ H Q I q=>h pos pins s σ H Q I (w σ H Q q)
theorem PS.weak {X:Cx}{e:Stmt}{t t':TS}(h:PS X e t)(w:∀ D σ H,t' D σ H->t D σ H):PS X e t':=λ pins s σ H D I q=>h pins s σ H D I (w D σ H q)
theorem PSs.weak {X:Cx}{e:List Stmt}{t t':TS}(h:PSs X e t)(w:∀ D σ H,t' D σ H->t D σ H):PSs X e t':=λ pins s σ H D I q=>h pins s σ H D I (w D σ H q)
def ob {α β:Type}(a:Option α)(f:α->Option β):Option β:=match a with | some x=>f x|none=>none
theorem qi {α β:Type}{a:Option α}{f:α->Option β}{y:β}(h:ob a f=some y):∃ x,a=some x/\f x=some y:=by
 cases a with
 | none=>cases h
 | some x=>exact ⟨x,rfl,h⟩
def visB (sc:Scope)(x:Str):Bool:=decide (sc.names.lookup x=some .local)||decide (sc.names.lookup x=some .cell)||decide (sc.names.lookup x=some .free)
def locB (sc:Scope)(x:Str):Bool:=decide (sc.names.lookup x=some .local)||decide (sc.names.lookup x=some .cell)
def glB (sc:Scope)(x:Str):Bool:=decide (sc.names.lookup x=some .globalImplicit)
theorem qhC {sc:Scope}{x:Str}(h:visB sc x=true):Vis sc x:=by
 unfold visB at h
 simp only [Bool.or_eq_true,decide_eq_true_eq] at h
 rcases h with (h|h)|h
 ·exact .inl h
 ·exact .inr (.inl h)
 ·exact .inr (.inr h)
theorem qgN {sc:Scope}{x:Str}(h:locB sc x=true):Loc sc x:=by
 unfold locB at h
 simp only [Bool.or_eq_true,decide_eq_true_eq] at h
 exact h
theorem gl_fn {X:Cx}{x:Str}(sc:Scope)(hs:X.env.scope=sc)(h:glB sc x=true):Gl X x:=by
 subst hs
 have h':X.env.scope.names.lookup x=some .globalImplicit:=of_decide_eq_true h
 exact h'
theorem ji {env:Env}:∀ {names:List (Str×NameKind)} {x:Str} {k:NameKind},names.lookup x=some k->
  (names.map λ (n,k)=>if (k==NameKind.free&&env.scope.kind==.function&&env.kindOf n==some .cell) then (n,NameKind.cell) else (n,k)).lookup x=some k\/
  (k=.free/\(names.map λ (n,k)=>if (k==NameKind.free&&env.scope.kind==.function&&env.kindOf n==some .cell) then (n,NameKind.cell) else (n,k)).lookup x=some .cell)
 | [],_,_,h=>by simp at h
 | (n,k')::r,x,k,h=>by
  have ih:=@ji env r x k
  show List.lookup x ((if (k'==NameKind.free&&env.scope.kind==.function&&env.kindOf n==some .cell)=true then (n,NameKind.cell) else (n,k'))::_)=_\/(_/\List.lookup x ((if (k'==NameKind.free&&env.scope.kind==.function&&env.kindOf n==some .cell)=true then (n,NameKind.cell) else (n,k'))::_)=_)
  cases hx:x==n with
  | true =>
   simp only [List.lookup_cons,hx] at h
   cases h
   by_cases hc:(k'==NameKind.free&&env.scope.kind==.function&&env.kindOf n==some .cell)=true
   ·rw [if_pos hc]
    rw [Bool.and_eq_true,Bool.and_eq_true] at hc
    exact .inr ⟨by simpa using hc.1.1,by simp [List.lookup_cons,hx]⟩
   ·rw [if_neg hc]
    exact .inl (by simp [List.lookup_cons,hx])
  | false =>
   simp only [List.lookup_cons,hx] at h
   by_cases hc:(k'==NameKind.free&&env.scope.kind==.function&&env.kindOf n==some .cell)=true
   ·rw [if_pos hc]
    simp only [List.lookup_cons,hx]
    exact ih h
   ·rw [if_neg hc]
    simp only [List.lookup_cons,hx]
    exact ih h
section
variable {X:Cx}{x:Str}{N':List Str}{sc:Scope}{cl:List (Str×Addr)}{C:Addr}{fp:List Addr}{pins:List (Addr×Obj)}{s:Shared}{H:Hp}
theorem qz (h:visB sc x=true):Vis (qX X N' sc cl C fp pins s H).env.scope x:=by
 rcases qhC h with h|h|h
 ·rcases ji (env:=X.env) h with q|q
  ·exact .inl q
  ·cases q.1
 ·rcases ji (env:=X.env) h with q|q
  ·exact .inr (.inl q)
  ·cases q.1
 ·rcases ji (env:=X.env) h with q|q
  ·exact .inr (.inr q)
  ·exact .inr (.inl q.2)
theorem jt (h:glB sc x=true):Gl (qX X N' sc cl C fp pins s H) x:=by
 rcases ji (env:=X.env) (of_decide_eq_true h) with q|q
 ·exact q
 ·cases q.1
end
def vr (i:Nat):Rho->Option PyData:=λ ρ=>(ρ[i]?).join
def kd (d:PyData):Rho->Option PyData:=λ _=>some d
def ev1 (fa:Rho->Option PyData)(g:PyData->Option PyData):Rho->Option PyData:=λ ρ=>ob (fa ρ) g
def aN:Rho->Option (List PyData):=λ _=>some []
def aC (fa:Rho->Option PyData)(fs:Rho->Option (List PyData)):Rho->Option (List PyData):=λ ρ=>ob (fa ρ) λ x=>ob (fs ρ) λ xs=>some (x::xs)
def evA (fs:Rho->Option (List PyData))(h:List PyData->Option PyData):Rho->Option PyData:=λ ρ=>ob (fs ρ) h
def evC (n:Nat)(fs:Rho->Option (List PyData))(h:List PyData->Option PyData):Rho->Option PyData:=λ ρ=>ob (fs ρ) λ ds=>if ds.length=n then h ds else none
def evC0 (h:List PyData->Option PyData):Rho->Option PyData:=λ _=>h []
section
variable {X:Cx}{M:List Nat}{a b c:Expr}{es:List Expr}{f g fa fb:Rho->Option PyData}{pos:Pos}
theorem qd (i:Nat){x:Str}(hv:Vis X.env.scope x)(hM:i∉M)(hN:X.N[i]?=some x:=by rfl)(hd:(x==("__debug__" : Str))=false:=by kernel_rfl)
  (hcd:(x==("__classdict__" : Str))=false:=by kernel_rfl):PD X M (.Name x pos) (vr i) :=
 (qhe hN hv hd hcd).weak λ σ H Q ⟨S,ρ,d,hs,e,q⟩=>by
  have e:(ρ[i]?).join=some d:=e
  have e':ρ[i]?=some (some d):=by
   cases h:ρ[i]? with
   | none=>rw [h] at e;cases e
   | some o=>rw [h] at e;exact congrArg some e
  obtain ⟨v,h1,h2⟩:=hs.2.2 i d hM e'
  exact ⟨v,h1,q v H (Same.refl H) h2⟩
theorem qe {i j p}:PD X M (.Constant (.int i) j p) (kd (.int i)):=qkw.weak λ σ H Q ⟨S,_,d,_,e,q⟩=>by cases e;exact q _ H (Same.refl H) (.int i)
theorem jK {i j p}:PD X M (.Constant (.bool i) j p) (kd (.bool i)):=pe_bl.weak λ σ H Q ⟨S,_,d,_,e,q⟩=>by cases e;exact q _ H (Same.refl H) (.bool i)
theorem qg4 {j p}:PD X M (.Constant .none j p) (kd .none):=qkx.weak λ σ H Q ⟨S,_,d,_,e,q⟩=>by cases e;exact q _ H (Same.refl H) .none
theorem qiI {x:Str}{v:V}{u:Value}{d:PyData}(hg:Gl X x)(hm:X.mg x=some u)(r:RelV v u)(hd:∀ H S,Den X.K H S v d)(hdb:(x==("__debug__" : Str))=false:=by kernel_rfl):PD X M (.Name x pos) (kd d) :=
 (qiR hg hm r hdb).weak λ σ H Q ⟨S,_,d',_,e,q⟩=>by cases e;exact q _ H (Same.refl H) (hd H S)
def rD2 (K:W.Frag)(g:PyData->PyData->Option PyData):R2:=λ x y H Q=>∃ S dx dy d,Dm S H/\Den K H S x dx/\Den K H S y dy/\g dx dy=some d/\∀ v H',Same H H'->Den K H' S v d->Q v H'
def OpD (X:Cx)(f:Value->Value->Sem Value)(g:PyData->PyData->Option PyData):Prop:=OpR X f (rD2 X.K g)
def UnD (X:Cx)(f:Value->Sem Value)(g:PyData->Option PyData):Prop:=UnR X f (λ x H Q=>∃ S dx d,Dm S H/\Den X.K H S x dx/\g dx=some d/\∀ v H',Same H H'->Den X.K H' S v d->Q v H')
def CallD (X:Cx)(f:Value)(g:List PyData->Option PyData):Prop:=jo X f (λ vs H Q=>∃ S ds d,Dm S H/\DenL X.K H S vs ds/\g ds=some d/\∀ v H',Same H H'->Den X.K H' S v d->Q v H')
def ev2 (fa fb:Rho->Option PyData)(g:PyData->PyData->Option PyData)(ρ:Rho):Option PyData:=ob (fa ρ) λ x=>ob (fb ρ) λ y=>g x y
theorem tD2 {K:W.Frag}{g:PyData->PyData->Option PyData}:∀ σ H Q,tD K M (ev2 fa fb g) σ H Q->tOp (rD2 K g) (tD K M fa) (tD K M fb) σ H Q:=by
 intro σ H Q ⟨S,ρ,d,hs,e,q⟩
 obtain ⟨x,e1,e⟩:=qi e
 obtain ⟨y,e2,e⟩:=qi e
 exact ⟨S,ρ,x,hs,e1,λ v H1 g1 d1=>⟨S,ρ,y,hs.same g1,e2,λ w H2 g2 d2=>⟨S,x,y,d,hs.1.same (g1.trans g2),d1.same g2,d2,e,λ z H3 g3 d3=>q z H3 (g1.trans (g2.trans g3)) d3⟩⟩⟩
theorem qy {op:Operator}{g:PyData->PyData->Option PyData}(ho:OpD X (binaryOp op) g)(ha:PD X M a fa)(hb:PD X M b fb):PD X M (.BinOp a op b pos) (ev2 fa fb g):=(pe_op ho ha hb).weak tD2
theorem Jr {op:CmpOp}{g:PyData->PyData->Option PyData}(ho:OpD X (compareOp op) g)(ha:PD X M a fa)(hb:PD X M b fb)(hm:behindInMarks op b=false):PD X M (.Compare a [op] [b] pos) (ev2 fa fb g):=(qiP ho ha hb hm).weak tD2
theorem Js {op:UnaryOp}{g:PyData->Option PyData}(ho:UnD X (unaryOp op) g)(ha:PD X M a fa):PD X M (.UnaryOp op a pos) (ev1 fa g) :=
 (pe_un ho ha).weak λ σ H Q ⟨S,ρ,d,hs,e,q⟩=>by
  obtain ⟨x,e1,e⟩:=qi e
  exact ⟨S,ρ,x,hs,e1,λ v H1 g1 d1=>⟨S,x,d,hs.1.same g1,d1,e,λ z H3 g3 d3=>q z H3 (g1.trans g3) d3⟩⟩
def ixD:PyData->PyData->Option PyData
 | .tuple ds,.int i=>atI ds i
 | .list ds,.int i=>atI ds i
 | _,_=>none
theorem DenL.atI {K:W.Frag}{H:Hp}{S:Av}{vs:List V}{ds:List PyData}{i:Int}{d:PyData}(h:DenL K H S vs ds)(e:atI ds i=some d):∃ v,L2.atI vs i=some v/\Den K H S v d:=by
 unfold L2.atI at e ⊢
 rw [h.length]
 cases q:ixN ds.length i with
 | none=>rw [q] at e;cases e
 | some j=>rw [q] at e;exact h.get e
theorem qF (ha:PD X M a fa)(hb:PD X M b fb)(hs:wz b:=by intro _ _;rfl):PD X M (.Subscript a b pos) (ev2 fa fb ixD) :=
 (qhb (r:=λ x y H Q=>rIxL X.K x y H Q\/rIxT X.K x y H Q) (qeh.or qgA) ha hb hs).weak λ σ H Q ⟨S,ρ,d,hs,e,q⟩=>by
  obtain ⟨x,e1,e⟩:=qi e
  obtain ⟨y,e2,e⟩:=qi e
  refine ⟨S,ρ,x,hs,e1,λ v H1 g1 d1=>⟨S,ρ,y,hs.same g1,e2,λ w H2 g2 d2=>?_⟩⟩
  have d1':=d1.same g2
  cases d1' with
  | list h t =>
   cases d2 with
   | int i=>obtain ⟨z,z1,z2⟩:=t.atI e;exact .inl ⟨_,_,_,_,rfl,rfl,h.sq,z1,q z H2 (g1.trans g2) z2⟩
   | _=>cases e
  | tuple h t =>
   cases d2 with
   | int i=>obtain ⟨z,z1,z2⟩:=t.atI e;exact .inr ⟨_,_,_,_,rfl,rfl,h,z1,q z H2 (g1.trans g2) z2⟩
   | _=>cases e
  | _=>cases e
theorem qg:PDA X M [] aN:=qg3.weak λ σ H Q ⟨S,_,d,_,e,q⟩=>by cases e;exact q [] H (Same.refl H) .nil
theorem qb {fs:Rho->Option (List PyData)}(ha:PD X M a fa)(hr:PDA X M es fs)(hs:starEach (a::es) X.env=(false,eval a X.env)::starEach es X.env:=by rfl):PDA X M (a::es) (aC fa fs) :=
 (qbf ha hr hs).weak λ σ H Q ⟨S,ρ,d,hs,e,q⟩=>by
  obtain ⟨x,e1,e⟩:=qi e
  obtain ⟨xs,e2,e⟩:=qi e
  cases e
  exact ⟨S,ρ,x,hs,e1,λ v H1 g1 d1=>⟨S,ρ,xs,hs.same g1,e2,λ vs H2 g2 d2=>q _ H2 (g1.trans g2) (.cons (d1.same g2) d2)⟩⟩
def tupD (ds:List PyData):Option PyData:=if ds.length<=1000 then some (.tuple ds) else none
def lstD (ds:List PyData):Option PyData:=if ds.length<=1000 then some (.list ds) else none
theorem qfH {ds:List PyData}{d:PyData}(h:tupD ds=some d):ds.length<=1000/\d=.tuple ds:=by
 unfold tupD at h
 split at h
 ·rename_i q;cases h;exact ⟨q,rfl⟩
 ·cases h
theorem qah {ds:List PyData}{d:PyData}(h:lstD ds=some d):ds.length<=1000/\d=.list ds:=by
 unfold lstD at h
 split at h
 ·rename_i q;cases h;exact ⟨q,rfl⟩
 ·cases h
theorem zH {fs:Rho->Option (List PyData)}{x1}(h:PDA X M es fs):PD X M (.Tuple es x1 pos) (evA fs tupD) :=
 (qkA h).weak λ σ H Q ⟨S,ρ,d,hs,e,q⟩=>by
  obtain ⟨xs,e1,e⟩:=qi e
  obtain ⟨hz,rfl⟩:=qfH e
  refine ⟨S,ρ,xs,hs,e1,λ vs H1 g1 d1=>⟨Nat.le_of_lt (zX (by rw [d1.length];exact hz)),λ p hp=>?_⟩⟩
  exact q _ _ (g1.lay' hp) (.tuple (SqT.of q9) (d1.same (Same.lay hp)))
theorem qds {fs:Rho->Option (List PyData)}(h:PDA X M es fs):PD X M (.List es pos) (evA fs lstD) :=
 (qhc h).weak λ σ H Q ⟨S,ρ,d,hs,e,q⟩=>by
  obtain ⟨xs,e1,e⟩:=qi e
  obtain ⟨hz,rfl⟩:=qah e
  refine ⟨S,ρ,xs,hs,e1,λ vs H1 g1 d1=>⟨Nat.le_of_lt (zX (by rw [d1.length];exact hz)),λ p hp=>?_⟩⟩
  exact q _ _ (g1.lay' hp) (.list (SqLS.new q9 ((hs.1.same g1).free hp)) (d1.same (Same.lay hp)))
def spF (K:W.Frag)(n:Nat)(f:List PyData->Option PyData):Sp:=λ vs H Q _=>∃ S ds d,Dm S H/\DenL K H S vs ds/\ds.length=n/\f ds=some d/\∀ v H',Same H H'->Den K H' S v d->Q v H'
theorem qiH {CX:CXT}{k n:Nat}{fn:Addr}{fd:FuncData}{ps:List Str}{h:List PyData->Option PyData}{E:XK}{x:Str}{p:Pos}{fs:Rho->Option (List PyData)}(F:FnOk X.prog X.w X.K X.mg X.base CX k fn fd ps (spF X.K n h))(hr:Room k X.A)(hg:Gl X x)(hm:X.mg x=some (.ref fn))(hk:W.keepIn X.K (.ref fn)=true)
  (hb:Binds X.K fd ps []) (hx:qaI CX X E) (ha:PDA X M (a::es) fs) (hl:(a::es).length=n) (hdb:(x==("__debug__" : Str))=false:=by kernel_rfl) (he:starEach (a::es) X.env=(false,eval a X.env)::starEach es X.env:=by rfl) (hpl:(backTo pos (starEach es X.env)).any (·.1)=false:=by rfl) :
  PD X M (.Call (.Name x p) (a::es) [] pos) (evC n fs h) :=
 (qiO F hr hg hm hk hb .nil hx ha hdb he hpl).weak λ σ H Q ⟨S,ρ,d,hs,e,q⟩=>by
  obtain ⟨ds,e1,e⟩:=qi e
  have e:(if ds.length=n then h ds else none)=some d:=e
  split at e
  ·rename_i hn
   exact ⟨S,ρ,ds,hs,e1,λ vs H1 g1 d1=>⟨S,ds,d,hs.1.same g1,by rw [List.append_nil];exact d1,hn,e,λ v H' g2 d2=>q v H' (g1.trans g2) d2⟩⟩
  ·cases e
theorem zQ {id:String}{x:Str}{p:Pos}{h:List PyData->Option PyData}{fs:Rho->Option (List PyData)}(hc:CallD X (.builtin id) h)(hg:Gl X x)(hm:X.mg x=none)(hv:bootBuiltins x=some (.builtin id))(ha:PDA X M (a::es) fs)(hn:x ≠ "__name__" := by decide +kernel)(hdb:(x==("__debug__" : Str))=false:=by kernel_rfl)
  (he:starEach (a::es) X.env=(false,eval a X.env)::starEach es X.env:=by rfl) (hpl:(backTo pos (starEach es X.env)).any (·.1)=false:=by rfl):PD X M (.Call (.Name x p) (a::es) [] pos) (evA fs h) :=
 (Wt hc hg hm hv ha hn hdb he hpl).weak λ σ H Q ⟨S,ρ,d,hs,e,q⟩=>by
  obtain ⟨ds,e1,e⟩:=qi e
  exact ⟨S,ρ,ds,hs,e1,λ vs H1 g1 d1=>⟨S,ds,d,hs.1.same g1,d1,e,λ v H' g2 d2=>q v H' (g1.trans g2) d2⟩⟩
theorem zP {T:String}{x:Str}{p:Pos}{h:List PyData->Option PyData}{fs:Rho->Option (List PyData)}(hc:CallD X (.type T) h)(hg:Gl X x)(hm:X.mg x=none)(hv:bootBuiltins x=some (.type T))(ha:PDA X M (a::es) fs)(hn:x ≠ "__name__" := by decide +kernel)(hdb:(x==("__debug__" : Str))=false:=by kernel_rfl)
  (he:starEach (a::es) X.env=(false,eval a X.env)::starEach es X.env:=by rfl) (hpl:(backTo pos (starEach es X.env)).any (·.1)=false:=by rfl):PD X M (.Call (.Name x p) (a::es) [] pos) (evA fs h) :=
 (qat hc hg hm hv ha hn hdb he hpl).weak λ σ H Q ⟨S,ρ,d,hs,e,q⟩=>by
  obtain ⟨ds,e1,e⟩:=qi e
  exact ⟨S,ρ,ds,hs,e1,λ vs H1 g1 d1=>⟨S,ds,d,hs.1.same g1,d1,e,λ v H' g2 d2=>q v H' (g1.trans g2) d2⟩⟩
def tyS:PyData->String
 | .none => "NoneType" | .bool _ => "bool" | .int _ => "int" | .str _ => "str" | .list _ => "list" | .tuple _ => "tuple" | .dict _ => "dict"
def isiT (T:String):PyData->Bool
 | .none=>T == "NoneType" || T == "object"
 | .bool _=>T == "bool" || T == "int" || T == "object"
 | .int _=>T == "int" || T == "object"
 | .str _=>T == "str" || T == "object"
 | .list _=>T == "list" || T == "object"
 | .tuple _=>T == "tuple" || T == "object"
 | .dict _=>T == "dict" || T == "object"
def isiD (T:String)(d:PyData):Option PyData:=some (.bool (isiT T d))
def qbu (K:W.Frag)(T:String):Prop:=∀ d:PyData,W.kitOne K (.type (tyS d)) (.type T)=some (isiT T d)
theorem qio (K:W.Frag):qbu K "int" := λ d=>by cases d<;>rfl
theorem qgE (K:W.Frag):qbu K "bool" := λ d=>by cases d<;>rfl
theorem kit_tuple (K:W.Frag):qbu K "tuple" := λ d=>by cases d<;>rfl
theorem qgF (K:W.Frag):qbu K "list" := λ d=>by cases d<;>rfl
theorem qd7 {K:W.Frag}{T:String}{C:Addr}{c:Str}{d:PyData}(hT:T∈qbK)(h:xcB K C=true):W.kitOne K (.ref C) (.type T)=some (isiT T (excD c d)):=by
 rw [(qhD h).ts T hT]
 have:(T == "dict" || T == "object")=false:=by
  simp only [qbK,List.mem_cons,List.not_mem_nil,or_false] at hT
  rcases hT with rfl|rfl|rfl|rfl|rfl<;>decide +kernel
 exact congrArg some this.symm
theorem Wr {T:String}{p p2:Pos}(kit:qbu X.K T)(hg:Gl X "isinstance")(hm:X.mg "isinstance" = none)(hgT:Gl X (Str.ofString T))(hmT:X.mg (Str.ofString T)=none)(hvT:bootBuiltins (Str.ofString T)=some (.type T))(hv:bootBuiltins "isinstance" = some (.builtin "isinstance"))(ha:PD X M a fa)(hnT:Str.ofString T ≠ "__name__" := by decide +kernel)(hdT:(Str.ofString T==("__debug__" : Str))=false:=by kernel_rfl)(hT:T∈qbK:=by decide +kernel)
  (he:starEach [a,.Name (Str.ofString T) p2] X.env=(false,eval a X.env)::starEach [.Name (Str.ofString T) p2] X.env:=by rfl) (hpl:(backTo pos (starEach [.Name (Str.ofString T) p2] X.env)).any (·.1)=false:=by rfl)
  (hs2:starEach [.Name (Str.ofString T) p2] X.env=(false,eval (.Name (Str.ofString T) p2) X.env)::starEach [] X.env:=by rfl) :
  PD X M (.Call (.Name "isinstance" p) [a,.Name (Str.ofString T) p2] [] pos) (ev1 fa (isiD T)) :=
 (Wt (qf1.or qeW) hg hm hv (qbf ha (qbf (qiN (v:=.ty T) hgT hmT hvT rfl hnT hdT) qg3 hs2) he) (by decide +kernel) (by decide +kernel) he hpl).weak λ σ H Q ⟨S,ρ,d,hs,e,q⟩=>by
  obtain ⟨x,e1,e⟩:=qi e
  cases e
  refine ⟨S,ρ,x,hs,e1,λ v H1 g1 d1=>?_⟩
  have fin:=q (.bl (isiT T x)) H1 g1 (.bool _)
  have k:=kit x
  show rIsi X.K [v,.ty T] H1 Q\/qjz X.K [v,.ty T] H1 Q
  cases d1 with
  | none=>exact .inl ⟨_,_,_,_,rfl,.non,k,fin⟩
  | bool y=>exact .inl ⟨_,_,_,_,rfl,.bl y,k,fin⟩
  | int y=>exact .inl ⟨_,_,_,_,rfl,.int y,k,fin⟩
  | str y=>exact .inl ⟨_,_,_,_,rfl,.str y,k,fin⟩
  | list h t=>exact .inl ⟨_,_,_,_,rfl,.lst h.sq,k,fin⟩
  | tuple h t=>exact .inl ⟨_,_,_,_,rfl,.tup h,k,fin⟩
  | dict h k2 t=>exact .inl ⟨_,_,_,_,rfl,.dct h.1,k,fin⟩
  | exc0 h o=>exact .inr ⟨_,_,_,_,rfl,⟨_,h,o⟩,λ C z=>qd7 hT z,fin⟩
  | exc1 h o x y t=>exact .inr ⟨_,_,_,_,rfl,⟨_,h,o⟩,λ C z=>qd7 hT z,fin⟩
theorem yg {f:Value->Value->Sem Value}{g:PyData->PyData->Option PyData}{r:R2}(h:OpR X f r)(w:∀ x y dx dy d H S (Q:VK),Dm S H->Den X.K H S x dx->Den X.K H S y dy->g dx dy=some d->(∀ v H',Same H H'->Den X.K H' S v d->Q v H')->r x y H Q):OpD X f g :=
 λ pins s σ H x y v u Q I rx ry ⟨S,dx,dy,d,m,h1,h2,e,q⟩=>h pins s σ H x y v u Q I rx ry (w x y dx dy d H S Q m h1 h2 e q)
def iiD (h:Int->Int->Option PyData):PyData->PyData->Option PyData
 | .int i,.int j=>h i j
 | _,_=>none
theorem Wg {h:Int->Int->Option PyData}{x y d:PyData}(e:iiD h x y=some d):∃ i j,x=.int i/\y=.int j/\h i j=some d:=by
 cases x<;>cases y<;>first|exact ⟨_,_,rfl,rfl,e⟩|cases e
theorem qiA {f:Value->Value->Sem Value}{gi:Int->Int->Int}(h:OpR X f (rI0 λ i j=>.int (gi i j))):OpD X f (iiD λ i j=>some (.int (gi i j))) :=
 yg h λ x y dx dy d H S Q m h1 h2 e q=>by
  obtain ⟨i,j,rfl,rfl,e⟩:=Wg e
  cases h1;cases h2;cases e
  exact ⟨i,j,rfl,rfl,q _ H (Same.refl H) (.int _)⟩
theorem Yb {f:Value->Value->Sem Value}{C:Int->Int->Prop}[∀ i j,Decidable (C i j)]{gi:Int->Int->Int}(h:OpR X f (rI C λ i j=>.int (gi i j))):OpD X f (iiD λ i j=>if C i j then some (.int (gi i j)) else none) :=
 yg h λ x y dx dy d H S Q m h1 h2 e q=>by
  obtain ⟨i,j,rfl,rfl,e'⟩:=Wg e
  split at e'
  ·rename_i c
   cases h1;cases h2;cases e'
   exact ⟨i,j,rfl,rfl,c,q _ H (Same.refl H) (.int _)⟩
  ·cases e'
theorem qck {f:Value->Value->Sem Value}{gi:Int->Int->Bool}(h:OpR X f (rI0 λ i j=>.bl (gi i j))):OpD X f (iiD λ i j=>some (.bool (gi i j))) :=
 yg h λ x y dx dy d H S Q m h1 h2 e q=>by
  obtain ⟨i,j,rfl,rfl,e⟩:=Wg e
  cases h1;cases h2;cases e
  exact ⟨i,j,rfl,rfl,q _ H (Same.refl H) (.bool _)⟩
instance (i j:Int):Decidable (IntMulOk i j):=by unfold IntMulOk;exact inferInstance
instance (i j:Int):Decidable (CDiv i j):=by unfold CDiv;exact inferInstance
instance (i j:Int):Decidable (CPow i j):=by unfold CPow;exact inferInstance
def subD:PyData->PyData->Option PyData:=iiD λ i j=>some (.int (i-j))
def mulD:PyData->PyData->Option PyData:=iiD λ i j=>if IntMulOk i j then some (.int (i*j)) else none
def QT:PyData->PyData->Option PyData:=iiD λ i j=>if CDiv i j then some (.int (i / j)) else none
def modD:PyData->PyData->Option PyData:=iiD λ i j=>if 0<j then some (.int (i % j)) else none
def powD:PyData->PyData->Option PyData:=iiD λ i j=>if CPow i j then some (.int (i ^ j.toNat)) else none
theorem ZQ:OpD X (binaryOp .Sub) subD:=qiA qkq
theorem zK:OpD X (binaryOp .Mult) mulD:=Yb qiF
theorem je:OpD X (binaryOp .FloorDiv) QT:=Yb qiE
theorem Zh:OpD X (binaryOp .Mod) modD:=Yb (C:=λ _ j=>0<j) qkn
theorem qjn:OpD X (binaryOp .Pow) powD:=Yb qkp
def leD:PyData->PyData->Option PyData:=iiD λ i j=>some (.bool (decide (i<=j)))
def gtD:PyData->PyData->Option PyData:=iiD λ i j=>some (.bool (decide (j<i)))
theorem d_le:OpD X (compareOp .LtE) leD:=qck op_le
theorem d_gt:OpD X (compareOp .Gt) gtD:=qck op_gt
def eqD (x y:PyData):Option PyData:=if SeqAt.shaped x=true/\SeqAt.shaped y=true then some (.bool (PyData.eqv x y)) else none
def neD (x y:PyData):Option PyData:=if SeqAt.shaped x=true/\SeqAt.shaped y=true then some (.bool (!PyData.eqv x y)) else none
theorem d_eq {k:Nat}(hr:Room k X.A):OpD X (compareOp .Eq) eqD:=yg (qkm hr) λ x y dx dy d H S Q m h1 h2 e q=>by
 unfold eqD at e
 split at e
 ·rename_i c;cases e;exact ⟨S,dx,dy,h1,h2,c.1,c.2,q _ H (Same.refl H) (.bool _)⟩
 ·cases e
theorem d_ne {k:Nat}(hr:Room k X.A):OpD X (compareOp .NotEq) neD:=yg (qko hr) λ x y dx dy d H S Q m h1 h2 e q=>by
 unfold neD at e
 split at e
 ·rename_i c;cases e;exact ⟨S,dx,dy,h1,h2,c.1,c.2,q _ H (Same.refl H) (.bool _)⟩
 ·cases e
def negD:PyData->Option PyData
 | .int i=>some (.int (-i))
 | _=>none
theorem Jk:UnD X (unaryOp .USub) negD:=λ pins s σ H x v Q I rx ⟨S,dx,d,m,h1,e,q⟩=>qla pins s σ H x v Q I rx (by
 cases h1<;>first|(cases e;exact ⟨_,rfl,q _ H (Same.refl H) (.int _)⟩)|cases e)
def lenD:List PyData->Option PyData
 | [.list ds]=>some (.int ds.length)
 | [.tuple ds]=>some (.int ds.length)
 | _=>none
theorem jA:CallD X (.builtin "len") lenD:=λ pins s σ H xs us Q I r ⟨S,ds,d,m,h1,e,q⟩=>qaK pins s σ H xs us Q I r (by
 cases h1 with
 | nil=>cases e
 | cons a t =>
  cases t with
  | cons a' t'=>cases a<;>cases e
  | nil =>
   cases a with
   | list h t=>cases e;exact ⟨_,_,rfl,.inl h.sq,by rw [t.length];exact q _ H (Same.refl H) (.int _)⟩
   | tuple h t=>cases e;exact ⟨_,_,rfl,.inr h,by rw [t.length];exact q _ H (Same.refl H) (.int _)⟩
   | _=>cases e)
def zc:List PyData->Option PyData
 | [.list ds]=>some (.tuple ds)
 | [.tuple ds]=>some (.tuple ds)
 | _=>none
theorem ZM:CallD X (.type "tuple") zc:=λ pins s σ H xs us Q I r ⟨S,ds,d,m,h1,e,q⟩=>WM pins s σ H xs us Q I r (by
 cases h1 with
 | nil=>cases e
 | cons a t =>
  cases t with
  | cons a' t'=>cases a<;>cases e
  | nil =>
   cases a with
   | list h t=>cases e;exact ⟨_,_,rfl,.inl ⟨h.sq,λ l hl=>q _ _ (Same.lay hl) (.tuple (SqT.of q9) (t.same (Same.lay hl)))⟩⟩
   | tuple h t=>cases e;exact ⟨_,_,rfl,.inr ⟨h,q _ H (Same.refl H) (.tuple h t)⟩⟩
   | _=>cases e)
def Zc:List PyData->Option PyData
 | [.list ds]=>some (.list ds)
 | [.tuple ds]=>some (.list ds)
 | _=>none
theorem qcY:CallD X (.type "list") Zc:=λ pins s σ H xs us Q I r ⟨S,ds,d,m,h1,e,q⟩=>yH pins s σ H xs us Q I r (by
 cases h1 with
 | nil=>cases e
 | cons a t =>
  cases t with
  | cons a' t'=>cases a<;>cases e
  | nil =>
   cases a with
   | list h t=>cases e;exact ⟨_,_,rfl,.inl h.sq,λ l hl=>q _ _ (Same.lay hl) (.list (SqLS.new q9 (m.free hl)) (t.same (Same.lay hl)))⟩
   | tuple h t=>cases e;exact ⟨_,_,rfl,.inr h,λ l hl=>q _ _ (Same.lay hl) (.list (SqLS.new q9 (m.free hl)) (t.same (Same.lay hl)))⟩
   | _=>cases e)
end
def Jh:PyData->Option Bool
 | .bool b=>some b
 | _=>none
def tV (f:Rho->Option PyData):Rho->Option Bool:=λ ρ=>ob (f ρ) Jh
def tN (p:Rho->Option Bool):Rho->Option Bool:=λ ρ=>ob (p ρ) λ b=>some (!b)
def tA (p q:Rho->Option Bool):Rho->Option Bool:=λ ρ=>ob (p ρ) λ c=>if c=true then q ρ else some false
def tO (p q:Rho->Option Bool):Rho->Option Bool:=λ ρ=>ob (p ρ) λ c=>if c=true then some true else q ρ
def tT:Rho->Option Bool:=λ _=>some true
def vA (fa fb:Rho->Option PyData):Rho->Option PyData:=λ ρ=>ob (fa ρ) λ x=>ob (Jh x) λ c=>if c=true then fb ρ else some (.bool false)
def vN (fa:Rho->Option PyData):Rho->Option PyData:=λ ρ=>ob (fa ρ) λ x=>ob (Jh x) λ c=>some (.bool (!c))
def vIf (p:Rho->Option Bool)(fa fb:Rho->Option PyData):Rho->Option PyData:=λ ρ=>ob (p ρ) λ x=>if x=true then fa ρ else fb ρ
def evI (f:Rho->Option PyData)(h:PyData->Option (List PyData)):Rho->Option (List PyData):=λ ρ=>ob (f ρ) h
def evR (fs:Rho->Option (List PyData))(h:List PyData->Option (List PyData)):Rho->Option (List PyData):=λ ρ=>ob (fs ρ) h
def sN:Rho->Option Out:=λ ρ=>some (.nx ρ)
def sRet (f:Rho->Option PyData):Rho->Option Out:=λ ρ=>ob (f ρ) λ d=>some (.rt d)
def sIf (p:Rho->Option Bool)(u w:Rho->Option Out):Rho->Option Out:=λ ρ=>ob (p ρ) λ b=>if b=true then u ρ else w ρ
def sSet (i:Nat)(f:Rho->Option PyData):Rho->Option Out:=λ ρ=>ob (f ρ) λ d=>some (.nx (ρ.set i (some d)))
def gNm (i:Nat):PyData->Rho->Option Rho:=λ d ρ=>some (ρ.set i (some d))
def gsN:List PyData->Rho->Option Rho:=λ ds ρ=>match ds with | []=>some ρ|_=>none
def gsC (g1:PyData->Rho->Option Rho)(g2:List PyData->Rho->Option Rho):List PyData->Rho->Option Rho:=λ ds ρ=>match ds with | d::r=>ob (g1 d ρ) λ ρ'=>g2 r ρ'|[]=>none
def sBk:Rho->Option Out:=λ ρ=>some (.bk ρ)
def sCt:Rho->Option Out:=λ ρ=>some (.ct ρ)
section
variable {X:Cx}{M:List Nat}{a b c:Expr}{es rest:List Expr}{f g fa fb:Rho->Option PyData}{p q:Rho->Option Bool}{pos:Pos}
theorem Q3 {d:PyData}{b:Bool}(h:Jh d=some b):d=.bool b:=by cases d<;>first|(cases h;rfl)|cases h
theorem Zt (h:PD X M a f)(he:∀ whole,isTrue a X.env whole=(do let v ← whole;standAt a.pos;holding [v] (truthy v)):=by intro _;rfl):PDT X M a (tV f) :=
 (qkH h he).weak λ σ H Q ⟨S,ρ,d,hs,e,q⟩=>by
  obtain ⟨x,e1,e⟩:=qi e
  cases Q3 e
  exact ⟨S,ρ,_,hs,e1,λ v H1 g1 d1=>⟨d,d1.bool_inv,q H1 g1⟩⟩
theorem q8 {op:CmpOp}{g:PyData->PyData->Option PyData}(ho:OpD X (compareOp op) g)(ha:PD X M a fa)(hb:PD X M b fb)(hm:behindInMarks op b=false):PDT X M (.Compare a [op] [b] pos) (tV (ev2 fa fb g)) :=
 (qi1 ho ha hb hm).weak λ σ H Q ⟨S,ρ,d,hs,e,q⟩=>by
  obtain ⟨x,e1,e⟩:=qi e
  cases Q3 e
  exact tD2 σ H _ ⟨S,ρ,_,hs,e1,λ v H1 g1 d1=>⟨d,d1.bool_inv,q H1 g1⟩⟩
theorem Q0 (h:PDT X M a p):PDT X M (.UnaryOp .Not a pos) (tN p) :=
 (qkG h).weak λ σ H Q ⟨S,ρ,d,hs,e,q⟩=>by
  obtain ⟨x,e1,e⟩:=qi e
  cases e
  exact ⟨S,ρ,x,hs,e1,λ H1 g1=>q H1 g1⟩
def PDW (X:Cx)(M:List Nat)(e:Expr)(f:Rho->Option Bool):Prop:=PW X e (tDT X.K M f)
theorem PDW.pdt (h:PDW X M a p):PDT X M a p:=PW.pt h
theorem qg9 (h:PDT X M a p):PDW X M (.BoolOp .And [a] pos) p:=qi4 h
theorem wH (h:PDT X M a p):PDW X M (.BoolOp .Or [a] pos) p:=qkK h
theorem qiM (ha:PDT X M a p)(hb:PDW X M (.BoolOp .And (b::rest) pos) q):PDW X M (.BoolOp .And (a::b::rest) pos) (tA p q) :=
 (qkJ ha hb).weak λ σ H Q ⟨S,ρ,d,hs,e,w⟩=>by
  obtain ⟨x,e1,e⟩:=qi e
  refine ⟨S,ρ,x,hs,e1,λ H1 g1=>?_⟩
  cases x with
  | true=>exact iteT ⟨S,ρ,d,hs.same g1,e,λ H2 g2=>w H2 (g1.trans g2)⟩
  | false=>cases e;exact iteF (w H1 g1)
theorem YF (ha:PDT X M a p)(hb:PDW X M (.BoolOp .Or (b::rest) pos) q):PDW X M (.BoolOp .Or (a::b::rest) pos) (tO p q) :=
 (pw_or ha hb).weak λ σ H Q ⟨S,ρ,d,hs,e,w⟩=>by
  obtain ⟨x,e1,e⟩:=qi e
  refine ⟨S,ρ,x,hs,e1,λ H1 g1=>?_⟩
  cases x with
  | true=>cases e;exact iteT (w H1 g1)
  | false=>exact iteF ⟨S,ρ,d,hs.same g1,e,λ H2 g2=>w H2 (g1.trans g2)⟩
theorem qdt {op}(h:PD X M a f):PD X M (.BoolOp op [a] pos) f:=qkz h
theorem qbg (ha:PD X M a fa)(hb:PD X M (.BoolOp .And (b::rest) pos) fb):PD X M (.BoolOp .And (a::b::rest) pos) (vA fa fb) :=
 (qkv ha hb).weak λ σ H Q ⟨S,ρ,d,hs,e,w⟩=>by
  obtain ⟨x,e1,e⟩:=qi e
  obtain ⟨c,e2,e⟩:=qi e
  cases Q3 e2
  refine ⟨S,ρ,_,hs,e1,λ v H1 g1 d1=>⟨c,d1.bool_inv,?_⟩⟩
  cases c with
  | true=>exact iteT ⟨S,ρ,d,hs.same g1,e,λ v H2 g2 d2=>w v H2 (g1.trans g2) d2⟩
  | false=>cases e;exact iteF (w _ H1 g1 (.bool false))
theorem qku (ha:PD X M a fa):PD X M (.UnaryOp .Not a pos) (vN fa) :=
 (qky ha).weak λ σ H Q ⟨S,ρ,d,hs,e,w⟩=>by
  obtain ⟨x,e1,e⟩:=qi e
  obtain ⟨c,e2,e⟩:=qi e
  cases Q3 e2
  cases e
  exact ⟨S,ρ,_,hs,e1,λ v H1 g1 d1=>⟨c,d1.bool_inv,w _ H1 g1 (.bool _)⟩⟩
theorem Wq (hc:PDT X M c p)(ha:PD X M a fa)(hb:PD X M b fb):PD X M (.IfExp c a b pos) (vIf p fa fb) :=
 (qha hc ha hb).weak λ σ H Q ⟨S,ρ,d,hs,e,w⟩=>by
  obtain ⟨x,e1,e⟩:=qi e
  refine ⟨S,ρ,x,hs,e1,λ H1 g1=>?_⟩
  cases x with
  | true=>exact iteT ⟨S,ρ,d,hs.same g1,e,λ v H2 g2 d2=>w v H2 (g1.trans g2) d2⟩
  | false=>exact iteF ⟨S,ρ,d,hs.same g1,e,λ v H2 g2 d2=>w v H2 (g1.trans g2) d2⟩
structure IsIt (K:W.Frag)(S:Av)(J:It)(H:Hp)(ds:List PyData):Prop where
 go:∀ (i:Nat) (H':Hp),Same H H'->i<ds.length->J.go i H'
 yld:∀ (i:Nat) (H':Hp) (x:V) (H2:Hp),Same H H'->J.yld i H' x H2->Same H' H2/\∀ d,ds[i]?=some d->∀ S':Av,(∀ y e,Den K H S y e->Den K H2 S' y e)->Den K H2 S' x d
 stop:∀ H':Hp,Same H H'->J.stop ds.length H'
theorem IsIt.lst {K:W.Frag}{H:Hp}{S:Av}{l:Addr}{xs:List V}{ds:List PyData}(h:SqL K H l xs)(t:DenL K H S xs ds):IsIt K S (Itl K l) H ds where
 go:=λ i H' e hi=>by
  have hi':i<xs.length:=by rw [t.length];exact hi
  exact ⟨xs,xs[i],e.seq h,List.getElem?_eq_getElem hi'⟩
 yld:=λ i H' x H2 e ⟨e2,q⟩=>⟨by rw [e2];exact Same.refl _,λ d hd S' w=>by
  obtain ⟨v,h1,h2⟩:=t.get hd
  have:=q xs (e.seq h)
  rw [h1] at this
  cases this
  exact w _ _ h2⟩
 stop:=λ H' e=>⟨xs,e.seq h,by rw [t.length];exact Nat.le_refl _⟩
theorem IsIt.tup {K:W.Frag}{H:Hp}{S:Av}{l:Addr}{xs:List V}{ds:List PyData}(h:SqT K H l xs)(t:DenL K H S xs ds):IsIt K S (Itt K l) H ds where
 go:=λ i H' e hi=>by
  have hi':i<xs.length:=by rw [t.length];exact hi
  exact ⟨xs,xs[i],e.sqT h,List.getElem?_eq_getElem hi'⟩
 yld:=λ i H' x H2 e ⟨e2,q⟩=>⟨by rw [e2];exact Same.refl _,λ d hd S' w=>by
  obtain ⟨v,h1,h2⟩:=t.get hd
  have:=q xs (e.sqT h)
  rw [h1] at this
  cases this
  exact w _ _ h2⟩
 stop:=λ H' e=>⟨xs,e.sqT h,by rw [t.length];exact Nat.le_refl _⟩
theorem SqLS.off {K:W.Frag}{H H':Hp}{S:Av}{a:Addr}{xs:List V}(e:Off S H H')(h:SqLS K H S a xs):SqLS K H' S a xs:=h.imp (λ q=>⟨q.1.off e q.2,q.2⟩) id
theorem SqT.off {K:W.Frag}{H H':Hp}{S:Av}{a:Addr}{xs:List V}(m:Dm S H)(e:Off S H H')(h:SqT K H a xs):SqT K H' a xs:=h.imp (λ q=>q.off e (m.tup q)) id
def rngL:Int->Nat->List PyData
 | _,0=>[]
 | lo,n+1=>.int lo::rngL (lo+1) n
theorem Jx:∀ (lo:Int) (n:Nat),(rngL lo n).length=n
 | _,0=>rfl
 | lo,n+1=>by rw [rngL,List.length_cons,Jx]
theorem qcD:∀ (lo:Int) (n i:Nat) (d:PyData),(rngL lo n)[i]?=some d->d=.int (lo+i)
 | _,0,_,_,h=>by simp [rngL] at h
 | lo,n+1,0,d,h=>by simp [rngL] at h;subst h;simp
 | lo,n+1,i+1,d,h=>by
  have:=qcD (lo+1) n i d (by simpa [rngL] using h)
  rw [this]
  congr 1
  omega
theorem IsIt.rng {K:W.Frag}{H:Hp}{S:Av}(lo:Int)(n:Nat):IsIt K S (Itr lo n) H (rngL lo n) where
 go:=λ i H' e hi=>by rw [Jx] at hi;exact hi
 yld:=λ i H' x H2 e ⟨e2,q⟩=>⟨by rw [e2];exact Same.refl _,λ d hd _ _=>by
  have q':x=.int (lo+i):=q
  rw [qcD lo n i d hd,q']
  exact .int _⟩
 stop:=λ H' e=>by rw [Jx];exact Nat.le_refl n
def tDI (K:W.Frag)(M:List Nat)(f:Rho->Option (List PyData)):TI:=λ σ H R=>∃ S ρ ds,DenS K H S M σ ρ/\f ρ=some ds/\∀ J H',Same H H'->(∀ H2,Off S H' H2->IsIt K S J H2 ds)->R J H'
def PDI (X:Cx)(M:List Nat)(tg iter:Expr)(f:Rho->Option (List PyData)):Prop:=PI X tg iter (tDI X.K M f)
theorem PI.weak {X:Cx}{tg e:Expr}{t t':TI}(h:PI X tg e t)(w:∀ σ H R,t' σ H R->t σ H R):PI X tg e t':=λ pins s σ H Q I q=>h pins s σ H Q I (w σ H Q q)
def iSeq (K:W.Frag)(tl:TE):TI:=λ σ H R=>tl σ H λ x H1=>∃ a,x=.ref a/\(((∃ xs,SqL K H1 a xs)/\R (Itl K a) H1)\/((∃ xs,SqT K H1 a xs)/\R (Itt K a) H1))
theorem qkB {tg l:Expr}{tl:TE}(hl:PE X l tl):PI X tg l (iSeq X.K tl):=by
 intro pins s σ H R I h
 refine thn (hl pins s σ H _ I h) λ v s1 ⟨x,H1,I1,r1,q1⟩=>?_
 obtain ⟨a,e,q1⟩:=q1
 subst e
 cases r1
 have fp:∀ b∈[s1.heap.objs.size],FpOk X pins H1 b:=λ b hb=>by
  have e:b=s1.heap.objs.size:=by simpa using hb
  subst e
  exact I1.fpOk (Nat.le_refl _) (I1.hok.fresh (Nat.le_refl _))
 rcases q1 with ⟨⟨xs,hq⟩,q⟩|⟨⟨xs,hq⟩,q⟩
 ·obtain ⟨its,rv,p,hz⟩:=I1.list hq
  refine wpAny_pyIter_list p.isList ?_
  exact ⟨s1.heap.objs.size,[s1.heap.objs.size],_,_,H1,rfl,I1.kept (t':=s1.toks) λ b o e=>Heap.get?_push_of_some _ e,qfK a _,⟨_,Heap.get?_push_size _ rfl,rfl,rfl⟩,fp,q⟩
 ·obtain ⟨its,rv,p,hz⟩:=I1.tuple hq
  refine wpAny_pyIter_tuple (show s1.heap.IsTuple a its.toArray from p) ?_
  exact ⟨s1.heap.objs.size,[s1.heap.objs.size],_,_,H1,rfl,I1.kept (t':=s1.toks) λ b o e=>Heap.get?_push_of_some _ e,qdC a _,⟨_,Heap.get?_push_size _ rfl,rfl,rfl⟩,fp,q⟩
def seqD:PyData->Option (List PyData)
 | .list ds=>some ds
 | .tuple ds=>some ds
 | _=>none
theorem zf {tg:Expr}(h:PD X M a f):PDI X M tg a (evI f seqD) :=
 (qkB h).weak λ σ H R ⟨S,ρ,ds,hs,e,w⟩=>by
  obtain ⟨x,e1,e⟩:=qi e
  refine ⟨S,ρ,x,hs,e1,λ v H1 g1 d1=>?_⟩
  cases d1 with
  | list h t=>cases e;exact ⟨_,rfl,.inl ⟨⟨_,h.sq⟩,w _ _ g1 λ H2 o=>IsIt.lst (h.off o).sq (t.off (hs.1.same g1) o)⟩⟩
  | tuple h t=>cases e;exact ⟨_,rfl,.inr ⟨⟨_,h⟩,w _ _ g1 λ H2 o=>IsIt.tup (h.off (hs.1.same g1) o) (t.off (hs.1.same g1) o)⟩⟩
  | _=>cases e
def QS:List PyData->Option (List PyData)
 | [.int j]=>if -1000<=j/\j<=1000 then some (rngL 0 j.toNat) else none
 | _=>none
theorem yj {tg:Expr}{fs:Rho->Option (List PyData)}{p:Pos}(hg:Gl X "range")(hm:X.mg "range" = none)(ha:PDA X M [a] fs)(hs:starEach [a] X.env=[(false,eval a X.env)]:=by rfl):PDI X M tg (.Call (.Name "range" p) [a] [] pos) (evR fs QS) :=
 (qau hg hm ha hs).weak λ σ H R ⟨S,ρ,ds,hs,e,w⟩=>by
  obtain ⟨xs,e1,e⟩:=qi e
  refine ⟨S,ρ,xs,hs,e1,λ vs H1 g1 d1=>?_⟩
  unfold QS at e
  split at e
  ·rename_i j
   split at e
   ·rename_i hj
    cases e
    obtain ⟨v,rfl,q⟩:=d1.inv1
    cases q
    exact ⟨j,rfl,by omega,by omega,w _ _ g1 λ _ _=>IsIt.rng 0 _⟩
   ·cases e
  ·cases e
def Qa (tt:Rho->Option Bool)(te:Rho->Option PyData)(ρ:Rho):List PyData->Option (List PyData)
 | []=>some []
 | d::ds=>ob (tt (ρ++[some d])) λ b=>if b=true then ob (te (ρ++[some d])) λ y=>ob (Qa tt te ρ ds) λ ys=>some (y::ys) else Qa tt te ρ ds
def zG (n:Nat)(fi:Rho->Option (List PyData))(tt:Rho->Option Bool)(te:Rho->Option PyData)(ρ:Rho):Option PyData :=
 ob (fi ρ) λ ds=>if ρ.length=n/\ds.length<=1000 then ob (Qa tt te ρ ds) λ ys=>some (.list ys) else none
def PDTs (X:Cx)(M:List Nat)(ifs:List Expr)(p:Rho->Option Bool):Prop:=PTs X ifs (tDT X.K M p)
theorem Qy:PDTs X M [] tT:=λ pins s σ H Q I ⟨S,ρ,b,hs,e,q⟩=>by
 cases e
 exact qi2 pins s σ H Q I (q H (Same.refl H))
theorem QV (h:PDT X M c p):PDTs X M [c] p:=qi3 h
def lc1 (sc:Scope)(x:Str):Bool:=decide (sc.names.lookup x=some .local)||decide (sc.names.lookup x=some .cell)
theorem Yj {env:Env}:∀ {names:List (Str×NameKind)} {x:Str},names.lookup x=some .cell->
  (names.map λ (n,k)=>if (k==NameKind.free&&env.scope.kind==.function&&env.kindOf n==some .cell) then (n,NameKind.cell) else (n,k)).lookup x=some .cell
 | [],_,h=>by simp at h
 | (n,k)::r,x,h=>by
  have ih:=@Yj env r x
  show List.lookup x ((if (k==NameKind.free&&env.scope.kind==.function&&env.kindOf n==some .cell)=true then (n,NameKind.cell) else (n,k))::_)=_
  rw [List.lookup_cons] at h
  by_cases hx:(x==n)=true
  ·rw [hx] at h;cases h
   split<;>rw [List.lookup_cons,hx]
  ·rw [Bool.eq_false_iff.mpr hx] at h
   split<;>rw [List.lookup_cons,Bool.eq_false_iff.mpr hx]<;>exact ih h
def tDGc (K:W.Frag)(M:List Nat)(g:PyData->Rho->Option Rho):TG:=λ v σ H Q=>∃ S ρ d ρ',DenS K H S M σ ρ/\Den K H S v d/\g d ρ=some ρ'/\∀ σ' H',Same H H'->DenS K H' S M σ' ρ'->Q σ' H'
def tDGcs (K:W.Frag)(M:List Nat)(g:List PyData->Rho->Option Rho):TGs:=λ vs σ H Q=>∃ S ρ ds ρ',DenS K H S M σ ρ/\DenL K H S vs ds/\g ds ρ=some ρ'/\∀ σ' H',Same H H'->DenS K H' S M σ' ρ'->Q σ' H'
def PDGc (X:Cx)(M:List Nat)(t:Expr)(g:PyData->Rho->Option Rho):Prop:=PG X t (tDGc X.K M g)
def qdH (X:Cx)(M:List Nat)(t:List Expr)(g:List PyData->Rho->Option Rho):Prop:=PGs X t (tDGcs X.K M g)
theorem PG.weak {X:Cx}{e:Expr}{t t':TG}(h:PG X e t)(w:∀ v σ H Q,t' v σ H Q->t v σ H Q):PG X e t':=λ pins s σ H v u Q I r q=>h pins s σ H v u Q I r (w v σ H Q q)
theorem PGs.weak {X:Cx}{e:List Expr}{t t':TGs}(h:PGs X e t)(w:∀ v σ H Q,t' v σ H Q->t v σ H Q):PGs X e t':=λ pins s σ H v u Q I r q=>h pins s σ H v u Q I r (w v σ H Q q)
def unpD (n:Nat)(g:List PyData->Rho->Option Rho):PyData->Rho->Option Rho
 | .tuple ds,ρ=>if ds.length=n then g ds ρ else none
 | _,_=>none
theorem qap (i:Nat){x:Str}(hN:X.N.Nodup)(hx:Loc X.env.scope x)(hi:X.N[i]?=some x)(hf:X.fn x=true\/X.env.scope.names.lookup x=some .local):PDGc X M (.Name x pos) (gNm i) :=
 (qex hN hi hx hf).weak λ v σ H Q ⟨S,ρ,d,ρ',hs,hd,e,q⟩=>by
  cases e
  exact q _ H (Same.refl H) (hs.set hd i)
theorem qaq:qdH X M [] gsN :=
 qey.weak λ v σ H Q ⟨S,ρ,d,ρ',hs,hd,e,q⟩=>by
  cases hd with
  | nil=>cases e;exact ⟨rfl,q _ H (Same.refl H) hs⟩
  | cons a t=>cases e
theorem j4 {t:Expr}{ts:List Expr}{g1:PyData->Rho->Option Rho}{g2:List PyData->Rho->Option Rho}(h1:PDGc X M t g1)(h2:qdH X M ts g2)(hs:(assignEach (t::ts) X.env).map (·.2)=assign t X.env::(assignEach ts X.env).map (·.2):=by rfl) :
  qdH X M (t::ts) (gsC g1 g2) :=
 (qcs h1 h2 hs).weak λ v σ H Q ⟨S,ρ,d,ρ',hs,hd,e,q⟩=>by
  cases hd with
  | nil=>cases e
  | cons a t =>
   obtain ⟨ρ1,e1,e⟩:=qi e
   exact ⟨_,_,rfl,S,ρ,_,ρ1,hs,a,e1,λ σ' H' g1 hs'=>⟨S,ρ1,_,ρ',hs',t.same g1,e,λ σ2 H2 g2 hs2=>q σ2 H2 (g1.trans g2) hs2⟩⟩
theorem qcp {ts:List Expr}{k:Nat}{n:Nat}{g:List PyData->Rho->Option Rho}(hc:X.calm=true)(h:qdH X M ts g)(hn:(assignEach ts X.env).length=n:=by rfl)(hst:(assignEach ts X.env).findIdx? (·.1)=none:=by rfl):PDGc X M (.Tuple ts k pos) (unpD n g) :=
 (qhf hc h hn hst).weak λ v σ H Q ⟨S,ρ,d,ρ',hs,hd,e,q⟩=>by
  cases hd with
  | @tuple a xs ds h t =>
   have e:(if ds.length=n then g ds ρ else none)=some ρ':=e
   split at e
   ·rename_i hl
    exact ⟨_,_,rfl,h,by rw [t.length];exact hl,S,ρ,_,ρ',hs,t,e,q⟩
   ·cases e
  | _=>cases e
def GIn (n k:Nat)(g:PyData->Rho->Option Rho):Prop:=∀ d (ρ r ρ1:Rho),ρ.length=n->r.length=k->g d (ρ++r)=some ρ1->∃ r',r'.length=k/\ρ1=ρ++r'
def GIns (n k:Nat)(g:List PyData->Rho->Option Rho):Prop:=∀ d (ρ r ρ1:Rho),ρ.length=n->r.length=k->g d (ρ++r)=some ρ1->∃ r',r'.length=k/\ρ1=ρ++r'
theorem jF {n k i:Nat}(h:n<=i):GIn n k (gNm i):=λ d ρ r ρ1 h1 h2 e=>by
 cases e
 refine ⟨r.set (i-n) (some d),by rw [List.length_set];exact h2,?_⟩
 rw [List.set_append_right _ _ (by omega),h1]
theorem qbS {n k:Nat}:GIns n k gsN:=λ d ρ r ρ1 h1 h2 e=>by
 cases d with
 | nil=>cases e;exact ⟨r,h2,rfl⟩
 | cons _ _=>cases e
theorem JQ {n k:Nat}{g1:PyData->Rho->Option Rho}{g2:List PyData->Rho->Option Rho}(a:GIn n k g1)(b:GIns n k g2):GIns n k (gsC g1 g2):=λ d ρ r ρ1 h1 h2 e=>by
 cases d with
 | nil=>cases e
 | cons d ds =>
  obtain ⟨ρ2,e1,e2⟩:=qi e
  obtain ⟨r1,l1,rfl⟩:=a d ρ r ρ2 h1 h2 e1
  exact b ds ρ r1 ρ1 h1 l1 e2
theorem qed {n k m:Nat}{g:List PyData->Rho->Option Rho}(a:GIns n k g):GIn n k (unpD m g):=λ d ρ r ρ1 h1 h2 e=>by
 cases d with
 | tuple ds =>
  have e:(if ds.length=m then g ds (ρ++r) else none)=some ρ1:=e
  split at e
  ·exact a ds ρ r ρ1 h1 h2 e
  ·cases e
 | _=>cases e
def Q7 (k:Nat)(g:PyData->Rho->Option Rho)(tt:Rho->Option Bool)(te:Rho->Option PyData)(ρ:Rho):List PyData->Option (List PyData)
 | []=>some []
 | d::ds=>ob (g d (ρ++List.replicate k none)) λ ρ1=>ob (tt ρ1) λ b=>if b=true then ob (te ρ1) λ y=>ob (Q7 k g tt te ρ ds) λ ys=>some (y::ys) else Q7 k g tt te ρ ds
def Jj (n k:Nat)(fi:Rho->Option (List PyData))(g:PyData->Rho->Option Rho)(tt:Rho->Option Bool)(te:Rho->Option PyData)(ρ:Rho):Option PyData :=
 ob (fi ρ) λ ds=>if ρ.length=n/\ds.length<=1000 then ob (Q7 k g tt te ρ ds) λ ys=>some (.list ys) else none
theorem w5 {tt:Rho->Option Bool}{te:Rho->Option PyData}{ρ:Rho}{n:Nat}(hn:ρ.length=n):∀ ds,Q7 1 (gNm n) tt te ρ ds=Qa tt te ρ ds
 | []=>rfl
 | d::ds=>by
  have e:gNm n d (ρ++List.replicate 1 none)=some (ρ++[some d]):=by
   show some ((ρ++[none]).set n (some d))=_
   rw [← hn,List.set_append_right _ _ (Nat.le_refl _)]
   simp
  rw [Q7,Qa,e]
  show (ob (tt (ρ++[some d])) λ b=>_)=_
  rw [w5 hn ds]
theorem wX (n:Nat)(fi:Rho->Option (List PyData))(tt:Rho->Option Bool)(te:Rho->Option PyData):zG n fi tt te=Jj n 1 fi (gNm n) tt te:=by
 funext ρ
 unfold zG Jj
 cases fi ρ with
 | none=>rfl
 | some ds =>
  show (if ρ.length=n/\ds.length<=1000 then _ else none)=(if ρ.length=n/\ds.length<=1000 then _ else none)
  split
  ·rename_i h
   rw [w5 h.1]
  ·rfl
theorem DenS.forget {K:W.Frag}{H:Hp}{S:Av}{σ:St}{ρ r':Rho}{k:Nat}(h:DenS K H S M σ (ρ++r'))(hk:r'.length=k):DenS K H S M σ (ρ++List.replicate k none):=by
 refine ⟨h.1,by rw [h.2.1,List.length_append,List.length_append,List.length_replicate,hk],λ i d hi e=>?_⟩
 by_cases hlt:i<ρ.length
 ·rw [List.getElem?_append_left hlt] at e
  exact h.2.2 i d hi (by rw [List.getElem?_append_left hlt];exact e)
 ·rw [List.getElem?_append_right (by omega)] at e
  have:=List.getElem?_replicate (a:=(none:Option PyData)) (n:=k) (i:=i-ρ.length)
  rw [this] at e
  split at e<;>cases e
theorem DenS.more {K:W.Frag}{H:Hp}{S:Av}{σ:St}{ρ:Rho}(k:Nat)(h:DenS K H S M σ ρ):DenS K H S M (σ++List.replicate k none) (ρ++List.replicate k none):=by
 refine ⟨h.1,by rw [List.length_append,List.length_append,h.2.1,List.length_replicate,List.length_replicate],λ i d hi e=>?_⟩
 by_cases hlt:i<ρ.length
 ·rw [List.getElem?_append_left hlt] at e
  obtain ⟨v,a,b⟩:=h.2.2 i d hi e
  exact ⟨v,by rw [List.getElem?_append_left (by rw [h.2.1];exact hlt)];exact a,b⟩
 ·rw [List.getElem?_append_right (by omega)] at e
  have:=List.getElem?_replicate (a:=(none:Option PyData)) (n:=k) (i:=i-ρ.length)
  rw [this] at e
  split at e<;>cases e
theorem qeN {K:W.Frag}{n k:Nat}{fi:Rho->Option (List PyData)}{g:PyData->Rho->Option Rho}(hg:GIn n k g):∀ σ H Q S ρ ds ys,DenS K H S M σ ρ->fi ρ=some ds->ρ.length=n->ds.length<=1000->Q7 k g p f ρ ds=some ys->(∀ H' zs,Same H H'->DenL K H' S zs ys->∀ D,H' D=none->Q (.ref D) (upd H' D (.lst zs)))->qcO k (tDI K M fi) (tDGc K M g) (tDT K M p) (tD K M f) σ H Q:=by
 intro σ H Q S ρ ds ys hs e1 hn hz e2 q
 refine ⟨S,ρ,ds,hs,e1,λ J H1 g1 hJ0=>?_⟩
 have hJ:=hJ0 H1 λ _ _ _ z=>z
 have z1000:1000<sizeLine:=zX (Nat.le_refl _)
 refine ⟨λ i m zs σ' H'=>m=ds.length-i/\i<=ds.length/\zs.length<=i/\Same H1 H'/\DenS K H' S M σ' (ρ++List.replicate k none)/\∃ pre rest,DenL K H' S zs pre/\Q7 k g p f ρ (ds.drop i)=some rest/\pre++rest=ys,⟨ds.length,by simp,Nat.zero_le _,Nat.le_refl _,Same.refl _,(hs.same g1).more k,[],ys,.nil,e2,rfl⟩,?_⟩
 rintro i m zs σ' H' ⟨rfl,hi,hzi,g2,hS,pre,rest,dl,er,rfl⟩
 by_cases hlt:i<ds.length
 ·refine .inr ⟨hJ.go i H' g2 hlt,λ x H2 y=>?_⟩
  obtain ⟨g2',yd⟩:=hJ.yld i H' x H2 g2 y
  have hd:=yd _ (List.getElem?_eq_getElem hlt) S λ y e q=>q.same (g2.trans g2')
  rw [List.drop_eq_getElem_cons hlt] at er
  obtain ⟨ρ1,r1,er⟩:=qi er
  obtain ⟨bb,b1,er⟩:=qi er
  obtain ⟨r',hr',rfl⟩:=hg _ ρ _ ρ1 hn (List.length_replicate) r1
  have g2:=g2.trans g2'
  have dl:=dl.same g2'
  refine ⟨S,_,_,_,hS.same g2',hd,r1,λ σ3 H3 g3 hS3=>⟨S,_,bb,hS3,b1,λ H4 g4=>?_⟩⟩
  cases bb with
  | true =>
   rw [if_pos rfl] at er
   obtain ⟨y1,e3,er⟩:=qi er
   obtain ⟨ys1,e4,er⟩:=qi er
   cases er
   refine iteT ⟨S,_,y1,hS3.same g4,e3,λ v H5 g5 d5=>⟨by omega,ds.length-(i+1),by omega,rfl,hlt,by rw [List.length_append,List.length_singleton];omega,g2.trans (g3.trans (g4.trans g5)),(hS3.same (g4.trans g5)).forget hr',pre++[y1],ys1,(dl.same (g3.trans (g4.trans g5))).snoc d5,e4,by simp⟩⟩
  | false =>
   rw [if_neg Bool.false_ne_true] at er
   exact iteF ⟨ds.length-(i+1),by omega,rfl,hlt,by omega,g2.trans (g3.trans g4),(hS3.same g4).forget hr',pre,rest,dl.same (g3.trans g4),er,rfl⟩
 ·have hi':i=ds.length:=by omega
  subst hi'
  rw [List.drop_length] at er
  cases er
  refine .inl ⟨hJ.stop H' g2,λ D hD=>q H' zs (g1.trans g2) (by rw [List.append_nil];exact dl) D hD⟩
theorem wY {n k:Nat}{fi:Rho->Option (List PyData)}{g:PyData->Rho->Option Rho}{tt:Rho->Option Bool}{te:Rho->Option PyData}{ρ:Rho}{d:PyData}(e:Jj n k fi g tt te ρ=some d):∃ ds ys,fi ρ=some ds/\ρ.length=n/\ds.length<=1000/\Q7 k g tt te ρ ds=some ys/\d=.list ys:=by
 obtain ⟨ds,e1,e⟩:=qi e
 split at e
 ·rename_i hc
  obtain ⟨ys,e2,e⟩:=qi e
  cases e
  exact ⟨ds,ys,e1,hc.1,hc.2,e2,rfl⟩
 ·cases e
theorem qk4 {K:W.Frag}{n k:Nat}{fi:Rho->Option (List PyData)}{g:PyData->Rho->Option Rho}(hg:GIn n k g):∀ σ H Q,tD K M (Jj n k fi g p f) σ H Q->qcO k (tDI K M fi) (tDGc K M g) (tDT K M p) (tD K M f) σ H Q:=by
 intro σ H Q ⟨S,ρ,d,hs,e,q⟩
 obtain ⟨ds,ys,e1,hn,hz,e2,rfl⟩:=wY e
 exact qeN hg σ H Q S ρ ds ys hs e1 hn hz e2 λ H' zs g2 dl D hD=>q _ _ (g2.lay' hD) (.list (SqLS.new q9 ((hs.1.same g2).free hD)) (dl.same (Same.lay hD)))
section
variable {elt iter tg:Expr}{ifs:List Expr}{x:Str}{N':List Str}{px:Pos}{sc:Scope}{n k:Nat}{fi:Rho->Option (List PyData)}{g:PyData->Rho->Option Rho}
theorem JW {i:Nat}(O:CompOk X N' k sc)(hx:N'[i]?=some x)(hl:lc1 sc x=true)(cl:List (Str×Addr))(C:Addr)(fp:List Addr)(pins:List (Addr×Obj))(s:Shared)(H:Hp):PDGc (qX X N' sc cl C fp pins s H) M (.Name x px) (gNm i) :=
 (Bool.or_eq_true_iff.mp hl).elim (λ hl =>
  have hloc:(relabel sc X.env).names.lookup x=some .local:=lookup_relabel_local (of_decide_eq_true hl)
  qap (X:=qX X N' sc cl C fp pins s H) i O.nd' (.inl hloc) hx (.inr hloc)) λ hl =>
  have hloc:(relabel sc X.env).names.lookup x=some .cell:=Yj (of_decide_eq_true hl)
  qap (X:=qX X N' sc cl C fp pins s H) i O.nd' (.inr hloc) hx (.inl hl)
theorem qcm (O:CompOk X N' k sc)(gi:GIn n k g)(hi:PDI X M tg iter fi)(hg:∀ cl C fp pins s H,PDGc (qX X N' sc cl C fp pins s H) M tg g)(hq:∀ cl C fp pins s H,PDTs (qX X N' sc cl C fp pins s H) M ifs p)(he:∀ cl C fp pins s H,PD (qX X N' sc cl C fp pins s H) M elt f)
  (hs:∀ v,foldedSetIterable iter X.env v=pure v:=by intro _;rfl):PD X M (.ListComp elt [⟨tg,iter,ifs,0⟩] sc pos) (Jj n k fi g p f) :=
 (qiQ (wg:=tDGc X.K M g) (tt:=tDT X.K M p) (te:=tD X.K M f) O hi hg hq he hs).weak (qk4 gi)
theorem QZ (O:CompOk X N' 1 sc)(hx:N'[n]?=some x)(hl:lc1 sc x=true)(hi:PDI X M (.Name x px) iter fi)(hq:∀ cl C fp pins s H,PDTs (qX X N' sc cl C fp pins s H) M ifs p)(he:∀ cl C fp pins s H,PD (qX X N' sc cl C fp pins s H) M elt f)
  (hs:∀ v,foldedSetIterable iter X.env v=pure v:=by intro _;rfl):PD X M (.ListComp elt [⟨.Name x px,iter,ifs,0⟩] sc pos) (zG n fi p f):=by
 rw [wX]
 exact qcm O (jF (Nat.le_refl _)) hi (JW O hx hl) hq he hs
end
end
structure Gm where
 H0:Hp
 S0:Av
 lk:Nat->Addr×PyData
def insA (S:Av)(p:Addr):Av:=λ a=>S a\/a=p
inductive OwnO (K:W.Frag)(H:Hp)(S:Av)(p:Addr):PyData->Prop
 | lst {xs:List V} {ds:List PyData}:H p=some (.lst xs)->DenL K H S xs ds->OwnO K H S p (.list ds)
 | dct {kvs:List (KX×Addr×V)} {ep:Nat} {ds:List PyData}:H p=some (DctO p kvs ep)->DenL K H S (kvs.map λ p=>kxV p.1 p.2.1) (kvs.map λ p=>kxD p.1)->DenL K H S (kvs.map (·.2.2)) ds->OwnO K H S p (.dict (dkv kvs ds))
section
variable {K:W.Frag}{H H':Hp}{S S':Av}{p:Addr}{d:PyData}
theorem OwnO.same (e:Same H H')(h:OwnO K H S p d):OwnO K H' S p d:=by
 cases h with
 | lst h t=>exact .lst (e _ _ h) (t.same e)
 | dct h k t=>exact .dct (e _ _ h) (k.same e) (t.same e)
theorem OwnO.sub (e:∀ a,H a≠none->S' a->S a)(h:OwnO K H S p d):OwnO K H S' p d:=by
 cases h with
 | lst h t=>exact .lst h (t.sub e)
 | dct h k t=>exact .dct h (k.sub e) (t.sub e)
theorem OwnO.mut (h:OwnO K H S p d):∃ o,H p=some o/\jG o=true:=by
 cases h with
 | lst h t=>exact ⟨_,h,rfl⟩
 | dct h k t=>exact ⟨_,h,rfl⟩
theorem OwnO.dom (h:OwnO K H S p d):H p≠none:=by
 obtain ⟨o,e,_⟩:=h.mut
 rw [e];exact λ z=>nomatch z
theorem OwnO.den (h:OwnO K H S p d)(n:¬ S' p)(e:∀ a,H a≠none->S' a->S a):Den K H S' (.ref p) d:=by
 cases h with
 | lst h t=>exact .list (SqLS.new h n) (t.sub e)
 | dct h k t=>exact .dict ⟨h,n⟩ (k.sub e) (t.sub e)
theorem OwnO.upd {q:Addr}{o:HO}(m:Dm S H)(h:OwnO K H S p d)(hq:S q)(hm:jG o=true)(ne:p≠q):OwnO K (upd H q o) S p d:=by
 have off:Off S H (L2.upd H q o):=λ b u n e=>by
  rw [qO (λ z=>n (by rw [z];exact hq))];exact e
 cases h with
 | lst h t=>exact .lst (by rw [qO ne];exact h) (t.off m off)
 | dct h k t=>exact .dct (by rw [qO ne];exact h) (k.off m off) (t.off m off)
theorem Dm.upd {q:Addr}{o:HO}(m:Dm S H)(hm:jG o=true):Dm S (upd H q o):=λ a ha=>by
 by_cases e:a=q
 ·subst e;exact ⟨o,q9,hm⟩
 ·rw [qO e];exact m a ha
theorem Dm.ins (m:Dm S H)(h:∃ o,H p=some o/\jG o=true):Dm (insA S p) H:=λ a ha=>by
 rcases ha with ha|rfl
 ·exact m a ha
 ·exact h
end
inductive Kids (K:W.Frag)(H:Hp)(S:Av):List Addr->List PyData->Prop
 | nil:Kids K H S [] []
 | cons {q:Addr} {xs:List V} {es:List PyData} {qs:List Addr} {ds:List PyData}:H q=some (.lst xs)->DenL K H S xs es->q∉qs->Kids K H S qs ds->Kids K H S (q::qs) (.list es::ds)
inductive DeepO (K:W.Frag)(H:Hp)(S:Av):List Addr->Addr->PyData->Prop
 | tpl {p:Addr} {qs:List Addr} {ds:List PyData}:H p=some (.tup (qs.map V.ref))->Kids K H S qs ds->DeepO K H S qs p (.tuple ds)
 | lst {p:Addr} {qs:List Addr} {ds:List PyData}:H p=some (.lst (qs.map V.ref))->p∉qs->Kids K H S qs ds->DeepO K H S (p::qs) p (.list ds)
 | dct {p:Addr} {kvs:List (KX×Addr×V)} {ep:Nat} {qs:List Addr} {ds:List PyData}:H p=some (DctO p kvs ep)->DenL K H S (kvs.map λ p=>kxV p.1 p.2.1) (kvs.map λ p=>kxD p.1)->kvs.map (·.2.2)=qs.map V.ref->p∉qs->Kids K H S qs ds->DeepO K H S (p::qs) p (.dict (dkv kvs ds))
section
variable {K:W.Frag}{H H':Hp}{S S':Av}{p:Addr}{d:PyData}{fp qs:List Addr}{ds:List PyData}
theorem Kids.same (e:Same H H'):∀ {qs:List Addr} {ds:List PyData},Kids K H S qs ds->Kids K H' S qs ds
 | _,_,.nil=>.nil
 | _,_,.cons h t n r=>.cons (e _ _ h) (t.same e) n (r.same e)
theorem Kids.sub (e:∀ a,H a≠none->S' a->S a):∀ {qs:List Addr} {ds:List PyData},Kids K H S qs ds->Kids K H S' qs ds
 | _,_,.nil=>.nil
 | _,_,.cons h t n r=>.cons h (t.sub e) n (r.sub e)
theorem Kids.mut:∀ {qs:List Addr} {ds:List PyData},Kids K H S qs ds->∀ q∈qs,∃ o,H q=some o/\jG o=true
 | _,_,.nil,q,hq=>absurd hq (by simp)
 | _,_,.cons h t n r,q,hq=>by
  rcases List.mem_cons.mp hq with e|hq
  ·rw [e];exact ⟨_,h,rfl⟩
  ·exact r.mut q hq
theorem Kids.den (e:∀ a,H a≠none->S' a->S a):∀ {qs:List Addr} {ds:List PyData},(∀ q∈qs,¬ S' q)->Kids K H S qs ds->DenL K H S' (qs.map V.ref) ds
 | _,_,_,.nil=>.nil
 | _,_,n,.cons h t _ r=>.cons (.list (SqLS.new h (n _ (.head _))) (t.sub e)) (r.den e λ q hq=>n q (.tail _ hq))
theorem Kids.upd {q:Addr}{o:HO}(m:Dm S H)(hq:S q):∀ {qs:List Addr} {ds:List PyData},q∉qs->Kids K H S qs ds->Kids K (upd H q o) S qs ds
 | _,_,_,.nil=>.nil
 | _,_,n,.cons h t n' r=>.cons (by rw [qO (λ z=>n (by rw [z];exact .head _))];exact h) (t.off m λ b u z e=>by rw [qO (λ y=>z (by rw [y];exact hq))];exact e) n' (r.upd m hq λ z=>n (.tail _ z))
theorem DeepO.same (e:Same H H')(h:DeepO K H S fp p d):DeepO K H' S fp p d:=by
 cases h with
 | tpl h t=>exact .tpl (e _ _ h) (t.same e)
 | lst h n t=>exact .lst (e _ _ h) n (t.same e)
 | dct h k v n t=>exact .dct (e _ _ h) (k.same e) v n (t.same e)
theorem DeepO.sub (e:∀ a,H a≠none->S' a->S a)(h:DeepO K H S fp p d):DeepO K H S' fp p d:=by
 cases h with
 | tpl h t=>exact .tpl h (t.sub e)
 | lst h n t=>exact .lst h n (t.sub e)
 | dct h k v n t=>exact .dct h (k.sub e) v n (t.sub e)
theorem DeepO.mut (h:DeepO K H S fp p d):∀ q∈fp,∃ o,H q=some o/\jG o=true:=by
 cases h with
 | tpl h t=>exact t.mut
 | lst h n t=>exact λ q hq=>(List.mem_cons.mp hq).elim (λ e=>by rw [e];exact ⟨_,h,rfl⟩) (t.mut q)
 | dct h k v n t=>exact λ q hq=>(List.mem_cons.mp hq).elim (λ e=>by rw [e];exact ⟨_,h,rfl⟩) (t.mut q)
theorem DeepO.den (h:DeepO K H S fp p d)(n:∀ q∈fp,¬ S' q)(e:∀ a,H a≠none->S' a->S a):Den K H S' (.ref p) d:=by
 cases h with
 | tpl h t=>exact .tuple (.inl (.inl h)) (t.den e n)
 | lst h _ t=>exact .list (SqLS.new h (n _ (.head _))) (t.den e λ q hq=>n q (.tail _ hq))
 | dct h k v _ t=>exact .dict ⟨h,n _ (.head _)⟩ (k.sub e) (by rw [v];exact t.den e λ q hq=>n q (.tail _ hq))
theorem DeepO.upd {q:Addr}{o:HO}(m:Dm S H)(h:DeepO K H S fp p d)(hq:S q)(ne:q∉fp):DeepO K (upd H q o) S fp p d:=by
 have off:Off S H (L2.upd H q o):=λ b u n e=>by
  rw [qO (λ z=>n (by rw [z];exact hq))];exact e
 cases h with
 | tpl h t=>exact .tpl (by rw [qO (λ z=>m.tup (.inl h) (by rw [z];exact hq))];exact h) (t.upd m hq ne)
 | lst h n t=>exact .lst (by rw [qO (λ z=>ne (by rw [z];exact .head _))];exact h) n (t.upd m hq λ z=>ne (.tail _ z))
 | dct h k v n t=>exact .dct (by rw [qO (λ z=>ne (by rw [z];exact .head _))];exact h) (k.off m off) v n (t.upd m hq λ z=>ne (.tail _ z))
end
abbrev Flt (M:List Nat)(i:Nat):Prop:=i∈M/\i+1000∉M
abbrev Dp (M:List Nat)(i:Nat):Prop:=i∈M/\i+1000∈M
abbrev Out0 (M:List Nat)(i:Nat):Prop:=i∉M/\i+1000∉M/\i<1000
structure SubM (A B:List Nat):Prop where
 sub:∀ i∈A,i∈B
 dp:∀ i∈A,i+1000∈B->i+1000∈A
theorem SubM.flt {A B:List Nat}{i:Nat}(h:SubM A B)(q:Flt A i):Flt B i:=⟨h.sub i q.1,λ z=>q.2 (h.dp i q.1 z)⟩
theorem SubM.deep {A B:List Nat}{i:Nat}(h:SubM A B)(q:Dp A i):Dp B i:=⟨h.sub i q.1,h.sub _ q.2⟩
def Has (ρ:Rho)(i:Nat):Prop:=∃ d:PyData,ρ[i]?=some (some d)
structure DeepF (K:W.Frag)(G:Gm)(M:List Nat)(H:Hp)(S:Av)(σ:St)(ρ:Rho)(F:Nat->List Addr):Prop where
 own:∀ i,Dp M i->∀ d,ρ[i]?=some (some d)->∃ p,σ[i]?=some (some (.ref p))/\DeepO K H S (F i) p d/\∀ q∈F i,S q/\¬ G.S0 q/\G.H0 q=none
 disj:∀ i,Dp M i->∀ j,Dp M j->Has ρ i->Has ρ j->∀ q,q∈F i->q∈F j->i=j
 flat:∀ i,Flt M i->∀ j,Dp M j->Has ρ i->Has ρ j->∀ p,σ[i]?=some (some (.ref p))->p∉F j
structure OwnS (K:W.Frag)(G:Gm)(M L:List Nat)(H:Hp)(S:Av)(σ:St)(ρ:Rho):Prop where
 ds:DenS K H S M σ ρ
 s0:∀ a,G.S0 a->S a
 h0:Same G.H0 H
 own:∀ i,Flt M i->∀ d,ρ[i]?=some (some d)->∃ p,σ[i]?=some (some (.ref p))/\OwnO K H S p d/\S p/\¬ G.S0 p/\(i∉L->G.H0 p=none)/\(i∈L->(p,d)=G.lk i)
 apart:∀ i,Flt M i->∀ j,Flt M j->∀ d e p,ρ[i]?=some (some d)->ρ[j]?=some (some e)->σ[i]?=some (some (.ref p))->σ[j]?=some (some (.ref p))->i=j
 bnd:∀ a,S a->G.S0 a\/G.H0 a=none\/∃ i∈L,a=(G.lk i).1
 lkd:∀ i∈L,Flt M i/\ρ[i]?=some (some (G.lk i).2)
 deep:∃ F,DeepF K G M H S σ ρ F
section
variable {K:W.Frag}{G:Gm}{M M' L:List Nat}{H H':Hp}{S:Av}{σ:St}{ρ:Rho}{v:V}{d:PyData}
theorem OwnS.same (e:Same H H')(h:OwnS K G M L H S σ ρ):OwnS K G M L H' S σ ρ :=
 ⟨h.ds.same e,h.s0,h.h0.trans e,λ i hi d q=>let ⟨p,a,b,c⟩:=h.own i hi d q;⟨p,a,b.same e,c⟩,h.apart,h.bnd,h.lkd,let ⟨F,f⟩:=h.deep;⟨F,λ i hi d q=>let ⟨p,a,b,c⟩:=f.own i hi d q;⟨p,a,b.same e,c⟩,f.disj,f.flat⟩⟩
theorem OwnS.lks (h:OwnS K G M L H S σ ρ):∀ i∈L,S (G.lk i).1:=λ i hi=>by
 obtain ⟨hm,e⟩:=h.lkd i hi
 obtain ⟨p,_,_,c,_,_,w⟩:=h.own i hm _ e
 rw [← w hi];exact c
theorem OwnS.den (h:OwnS K G M L H S σ ρ):DenS K H G.S0 [] σ ρ:=by
 refine ⟨h.ds.1.sub h.s0,h.ds.2.1,λ i d _ q=>?_⟩
 by_cases hi:i∈M
 ·by_cases hk:i+1000∈M
  ·obtain ⟨F,f⟩:=h.deep
   obtain ⟨p,a,b,c⟩:=f.own i ⟨hi,hk⟩ d q
   exact ⟨_,a,b.den (λ q hq=>(c q hq).2.1) λ a _ z=>h.s0 a z⟩
  ·obtain ⟨p,a,b,c,n,_⟩:=h.own i ⟨hi,hk⟩ d q
   exact ⟨_,a,b.den n λ a _ z=>h.s0 a z⟩
 ·obtain ⟨v,a,b⟩:=h.ds.2.2 i d hi q
  exact ⟨v,a,b.sub λ a _ z=>h.s0 a z⟩
theorem qu {α:Type}{xs:List α}{i j:Nat}{x:α}(h:i≠j):(xs.set i x)[j]?=xs[j]?:=List.getElem?_set_ne h
theorem OwnS.set (h:OwnS K G M L H S σ ρ)(q:Den K H S v d){i:Nat}(hi:i∉M):OwnS K G M L H S (σ.set i (some v)) (ρ.set i (some d)):=by
 have ne:∀ j∈M,i≠j:=λ j hj e=>hi (by rw [e];exact hj)
 obtain ⟨F,f⟩:=h.deep
 refine ⟨h.ds.set q i,h.s0,h.h0,λ j hj e he=>?_,λ j hj k hk e e' p h1 h2 h3 h4=>?_,h.bnd,λ j hj=>⟨(h.lkd j hj).1,by rw [qu (ne j (h.lkd j hj).1.1)];exact (h.lkd j hj).2⟩,F,λ j hj e he=>?_,λ j hj k hk h1 h2=>?_,λ j hj k hk h1 h2 p h3=>?_⟩
 ·rw [qu (ne j hj.1)] at he ⊢
  exact h.own j hj e he
 ·rw [qu (ne j hj.1)] at h1 h3
  rw [qu (ne k hk.1)] at h2 h4
  exact h.apart j hj k hk e e' p h1 h2 h3 h4
 ·rw [qu (ne j hj.1)] at he ⊢
  exact f.own j hj e he
 ·unfold Has at h1 h2
  rw [qu (ne j hj.1)] at h1
  rw [qu (ne k hk.1)] at h2
  exact f.disj j hj k hk h1 h2
 ·unfold Has at h1 h2
  rw [qu (ne j hj.1)] at h1 h3
  rw [qu (ne k hk.1)] at h2
  exact f.flat j hj k hk h1 h2 p h3
theorem OwnS.frz (h:OwnS K G M L H S σ ρ)(hs:SubM M' M)(hl:∀ i∈L,i∈M->i∈M'):∃ S',OwnS K G M' L H S' σ ρ:=by
 obtain ⟨F,f⟩:=h.deep
 have sb:∀ a,(S a/\(¬ ∃ i,Flt M i/\i∉M'/\Has ρ i/\σ[i]?=some (some (.ref a)))/\¬ ∃ i,Dp M i/\i∉M'/\Has ρ i/\a∈F i)->S a:=λ a z=>z.1
 refine ⟨λ a=>S a/\(¬ ∃ i,Flt M i/\i∉M'/\Has ρ i/\σ[i]?=some (some (.ref a)))/\¬ ∃ i,Dp M i/\i∉M'/\Has ρ i/\a∈F i,⟨?_,?_,?_⟩,?_,h.h0,?_,?_,?_,λ i hi=>⟨⟨hl i hi (h.lkd i hi).1.1,λ z=>(h.lkd i hi).1.2 (hs.sub _ z)⟩,(h.lkd i hi).2⟩,F,?_,?_,?_⟩
 ·exact h.ds.1.sub λ a z=>z.1
 ·exact h.ds.2.1
 ·intro i d hi q
  by_cases hm:i∈M
  ·by_cases hk:i+1000∈M
   ·obtain ⟨p,a,b,c⟩:=f.own i ⟨hm,hk⟩ d q
    exact ⟨_,a,b.den (λ r hr z=>z.2.2 ⟨i,⟨hm,hk⟩,hi,⟨d,q⟩,hr⟩) λ a _ z=>z.1⟩
   ·obtain ⟨p,a,b,c,_⟩:=h.own i ⟨hm,hk⟩ d q
    exact ⟨_,a,b.den (λ z=>z.2.1 ⟨i,⟨hm,hk⟩,hi,⟨d,q⟩,a⟩) λ a _ z=>z.1⟩
  ·obtain ⟨v,a,b⟩:=h.ds.2.2 i d hm q
   exact ⟨v,a,b.sub λ a _ z=>z.1⟩
 ·intro a ha
  refine ⟨h.s0 a ha,λ ⟨i,hm,hi,⟨d,q⟩,e⟩=>?_,λ ⟨i,hm,hi,⟨d,q⟩,e⟩=>?_⟩
  ·obtain ⟨p,e',b,c,n,_⟩:=h.own i hm d q
   rw [e] at e';cases e'
   exact n ha
  ·obtain ⟨p,e',b,c⟩:=f.own i hm d q
   exact (c a e).2.1 ha
 ·intro i hi d q
  obtain ⟨p,a,b,c,n,w,w'⟩:=h.own i (hs.flt hi) d q
  refine ⟨p,a,b.sub λ a _ z=>z.1,⟨c,λ ⟨j,hj,hj',⟨e,q'⟩,a'⟩=>?_,λ ⟨j,hj,hj',q',a'⟩=>?_⟩,n,w,w'⟩
  ·have:=h.apart i (hs.flt hi) j hj d e p q q' a a'
   subst this
   exact hj' hi.1
  ·exact f.flat i (hs.flt hi) j hj ⟨d,q⟩ q' p a a'
 ·exact λ i hi j hj=>h.apart i (hs.flt hi) j (hs.flt hj)
 ·exact λ a z=>h.bnd a z.1
 ·intro i hi d q
  obtain ⟨p,a,b,c⟩:=f.own i (hs.deep hi) d q
  refine ⟨p,a,b.sub λ a _ z=>z.1,λ r hr=>⟨⟨(c r hr).1,λ ⟨j,hj,hj',q',a'⟩=>?_,λ ⟨j,hj,hj',q',a'⟩=>?_⟩,(c r hr).2⟩⟩
  ·exact f.flat j hj i (hs.deep hi) q' ⟨d,q⟩ r a' hr
  ·have:=f.disj i (hs.deep hi) j hj ⟨d,q⟩ q' r hr a'
   subst this
   exact hj' hi.1
 ·exact λ i hi j hj=>f.disj i (hs.deep hi) j (hs.deep hj)
 ·exact λ i hi j hj=>f.flat i (hs.flt hi) j (hs.deep hj)
theorem qjV {i j:Nat}(hi:Out0 M i)(hj:Flt M j):Flt (i::M) j:=⟨.tail _ hj.1,λ z=>by rcases List.mem_cons.mp z with e|z;(have:=hi.2.2;omega);exact hj.2 z⟩
theorem Yx {i j:Nat}(hj:Flt (i::M) j)(ne:i≠j):Flt M j:=⟨(List.mem_cons.mp hj.1).resolve_left λ z=>ne z.symm,λ z=>hj.2 (.tail _ z)⟩
theorem qd5 {i j:Nat}(hi:Out0 M i)(hj:Dp (i::M) j):Dp M j:=by
 have q:j+1000∈M:=(List.mem_cons.mp hj.2).resolve_left λ z=>by have:=hi.2.2;omega
 refine ⟨(List.mem_cons.mp hj.1).resolve_left λ z=>hi.2.1 (by rw [← z];exact q),q⟩
theorem OwnS.take (h:OwnS K G M L H S σ ρ){p:Addr}{i:Nat}(hn:H p=none)(e:Same H H')(o:OwnO K H' (insA S p) p d)(hi:Out0 M i)(hl:i∉L)(hz:i<ρ.length):OwnS K G (i::M) L H' (insA S p) (σ.set i (some (.ref p))) (ρ.set i (some d)):=by
 have np:¬ S p:=h.ds.1.free hn
 have sub:∀ a,H a≠none->insA S p a->S a:=λ a ha z=>by
  rcases z with z|rfl
  ·exact z
  ·exact absurd hn ha
 have ne:∀ j∈M,i≠j:=λ j hj e=>hi.1 (by rw [e];exact hj)
 have hz':i<σ.length:=by rw [h.ds.2.1];exact hz
 have gi:(ρ.set i (some d))[i]?=some (some d):=List.getElem?_set_self hz
 have gi':(σ.set i (some (.ref p)))[i]?=some (some (.ref p)):=List.getElem?_set_self hz'
 obtain ⟨F,f⟩:=h.deep
 refine ⟨⟨(h.ds.1.same e).ins o.mut,by rw [List.length_set,List.length_set];exact h.ds.2.1,λ j d' hj q=>?_⟩,λ a z=>.inl (h.s0 a z),h.h0.trans e,λ j hj d' q=>?_,λ j hj k hk d1 d2 q h1 h2 h3 h4=>?_,λ a z=>?_,λ j hj=>⟨qjV hi (h.lkd j hj).1,by rw [qu (λ z=>hl (by rw [z];exact hj))];exact (h.lkd j hj).2⟩,
  F,λ j hj d' q=>?_,λ j hj k hk h1 h2=>?_,λ j hj k hk h1 h2 r h3=>?_⟩
 ·have hij:i≠j:=λ z=>hj (by rw [z];exact .head _)
  rw [qu hij] at q ⊢
  obtain ⟨v,a,b⟩:=h.ds.2.2 j d' (λ z=>hj (.tail _ z)) q
  exact ⟨v,a,(b.sub sub).same e⟩
 ·by_cases hij:i=j
  ·subst hij
   rw [gi] at q;cases q
   exact ⟨p,gi',o,.inr rfl,λ z=>np (h.s0 p z),λ _=>h.h0.free hn,λ z=>absurd z hl⟩
  ·rw [qu hij] at q ⊢
   obtain ⟨q',a,b,c,n,w⟩:=h.own j (Yx hj hij) d' q
   exact ⟨q',a,(b.sub sub).same e,.inl c,n,w⟩
 ·have key:∀ m,Flt M m->∀ (d':PyData) (q:Addr),(ρ.set i (some d))[m]?=some (some d')->(σ.set i (some (.ref p)))[m]?=some (some (.ref q))->q≠p:=λ m hm d' q e1 e2 z=>by
   rw [qu (ne m hm.1)] at e1 e2
   obtain ⟨q',a,b,_⟩:=h.own m hm d' e1
   rw [e2] at a;cases a
   subst z
   exact b.dom hn
  by_cases ej:i=j
  ·by_cases ek:i=k
   ·rw [← ej,← ek]
   ·rw [← ej,gi'] at h3
    cases h3
    exact absurd rfl (key k (Yx hk ek) d2 p h2 h4)
  ·by_cases ek:i=k
   ·rw [← ek,gi'] at h4
    cases h4
    exact absurd rfl (key j (Yx hj ej) d1 p h1 h3)
   ·rw [qu ej] at h1 h3
    rw [qu ek] at h2 h4
    exact h.apart j (Yx hj ej) k (Yx hk ek) d1 d2 q h1 h2 h3 h4
 ·rcases z with z|rfl
  ·exact h.bnd a z
  ·exact .inr (.inl (h.h0.free hn))
 ·have hj':=qd5 hi hj
  rw [qu (ne j hj'.1)] at q ⊢
  obtain ⟨q',a,b,c⟩:=f.own j hj' d' q
  exact ⟨q',a,(b.sub sub).same e,λ r hr=>⟨.inl (c r hr).1,(c r hr).2⟩⟩
 ·have hj':=qd5 hi hj
  have hk':=qd5 hi hk
  unfold Has at h1 h2
  rw [qu (ne j hj'.1)] at h1
  rw [qu (ne k hk'.1)] at h2
  exact f.disj j hj' k hk' h1 h2
 ·have hk':=qd5 hi hk
  unfold Has at h1 h2
  rw [qu (ne k hk'.1)] at h2
  by_cases ej:i=j
  ·rw [← ej,gi'] at h3
   cases h3
   obtain ⟨d2,e2⟩:=h2
   obtain ⟨q',a,b,c⟩:=f.own k hk' d2 e2
   intro z
   obtain ⟨o2,z2,_⟩:=b.mut p z
   rw [hn] at z2;cases z2
  ·rw [qu ej] at h1 h3
   exact f.flat j (Yx hj ej) k hk' h1 h2 r h3
def insL (S:Av)(fp:List Addr):Av:=λ a=>S a\/a∈fp
theorem Dm.insL {fp:List Addr}(m:Dm S H)(h:∀ q∈fp,∃ o,H q=some o/\jG o=true):Dm (insL S fp) H:=λ a ha=>by
 rcases ha with ha|ha
 ·exact m a ha
 ·exact h a ha
theorem qhB {i j:Nat}(hj:j∈i::(i+1000)::M)(ne:i≠j)(n2:j≠i+1000):j∈M:=(List.mem_cons.mp ((List.mem_cons.mp hj).resolve_left λ z=>ne z.symm)).resolve_left n2
theorem wK {i j:Nat}(hj:Flt (i::(i+1000)::M) j)(n2:j≠i+1000):i≠j/\Flt M j:=by
 have ne:i≠j:=λ z=>hj.2 (by rw [← z];exact .tail _ (.head _))
 exact ⟨ne,qhB hj.1 ne n2,λ z=>hj.2 (.tail _ (.tail _ z))⟩
theorem qdD {i j:Nat}(hi:i<1000)(hj:Dp (i::(i+1000)::M) j)(ne:i≠j)(n2:j≠i+1000):Dp M j:=by
 refine ⟨qhB hj.1 ne n2,?_⟩
 rcases List.mem_cons.mp hj.2 with z|z
 ·omega
 ·rcases List.mem_cons.mp z with z|z
  ·omega
  ·exact z
theorem qk8 {i j:Nat}(hi:i<1000)(hj:Flt M j)(ne:i≠j):Flt (i::(i+1000)::M) j:=⟨.tail _ (.tail _ hj.1),λ z=>by
 rcases List.mem_cons.mp z with z|z
 ·omega
 ·rcases List.mem_cons.mp z with z|z
  ·omega
  ·exact hj.2 z⟩
theorem qjX {i:Nat}(h:Has ρ i):i<ρ.length:=by
 obtain ⟨d,e⟩:=h
 exact (List.getElem?_eq_some_iff.mp e).1
theorem OwnS.takeD (h:OwnS K G M L H S σ ρ){p:Addr}{fp:List Addr}{i:Nat}(hn:∀ q∈fp,H q=none)(e:Same H H')(o:DeepO K H' (insL S fp) fp p d)(hi:Out0 M i)(hl:i∉L)(hz:i<ρ.length)(hz2:ρ.length<=1000) :
  OwnS K G (i::(i+1000)::M) L H' (insL S fp) (σ.set i (some (.ref p))) (ρ.set i (some d)):=by
 have sub:∀ a,H a≠none->insL S fp a->S a:=λ a ha z=>by
  rcases z with z|z
  ·exact z
  ·exact absurd (hn a z) ha
 have hz':i<σ.length:=by rw [h.ds.2.1];exact hz
 have gi:(ρ.set i (some d))[i]?=some (some d):=List.getElem?_set_self hz
 have gi':(σ.set i (some (.ref p)))[i]?=some (some (.ref p)):=List.getElem?_set_self hz'
 have n2:∀ j,Has (ρ.set i (some d)) j->j≠i+1000:=λ j hj=>by
  have:=qjX hj
  rw [List.length_set] at this
  omega
 obtain ⟨F,f⟩:=h.deep
 have fne:∀ j,j≠i->(if j=i then fp else F j)=F j:=λ j hj=>if_neg hj
 refine ⟨⟨(h.ds.1.same e).insL o.mut,by rw [List.length_set,List.length_set];exact h.ds.2.1,λ j d' hj q=>?_⟩,λ a z=>.inl (h.s0 a z),h.h0.trans e,λ j hj d' q=>?_,λ j hj k hk d1 d2 q h1 h2 h3 h4=>?_,λ a z=>?_,λ j hj=>?_,
  λ j=>if j=i then fp else F j,λ j hj d' q=>?_,λ j hj k hk h1 h2=>?_,λ j hj k hk h1 h2 r h3=>?_⟩
 ·have hij:i≠j:=λ z=>hj (by rw [z];exact .head _)
  rw [qu hij] at q ⊢
  obtain ⟨v,a,b⟩:=h.ds.2.2 j d' (λ z=>hj (.tail _ (.tail _ z))) q
  exact ⟨v,a,(b.sub sub).same e⟩
 ·obtain ⟨hij,hj'⟩:=wK hj (n2 j ⟨d',q⟩)
  rw [qu hij] at q ⊢
  obtain ⟨q',a,b,c,n,w⟩:=h.own j hj' d' q
  exact ⟨q',a,(b.sub sub).same e,.inl c,n,w⟩
 ·obtain ⟨ej,hj'⟩:=wK hj (n2 j ⟨d1,h1⟩)
  obtain ⟨ek,hk'⟩:=wK hk (n2 k ⟨d2,h2⟩)
  rw [qu ej] at h1 h3
  rw [qu ek] at h2 h4
  exact h.apart j hj' k hk' d1 d2 q h1 h2 h3 h4
 ·rcases z with z|z
  ·exact h.bnd a z
  ·exact .inr (.inl (h.h0.free (hn a z)))
 ·have ne:i≠j:=λ z=>hl (by rw [z];exact hj)
  exact ⟨qk8 hi.2.2 (h.lkd j hj).1 ne,by rw [qu ne];exact (h.lkd j hj).2⟩
 ·by_cases hij:i=j
  ·subst hij
   rw [gi] at q;cases q
   rw [if_pos rfl]
   exact ⟨p,gi',o,λ r hr=>⟨.inr hr,λ z=>h.ds.1.free (hn r hr) (h.s0 r z),h.h0.free (hn r hr)⟩⟩
  ·rw [fne j (Ne.symm hij)]
   have hj':=qdD hi.2.2 hj hij (n2 j ⟨d',q⟩)
   rw [qu hij] at q ⊢
   obtain ⟨q',a,b,c⟩:=f.own j hj' d' q
   exact ⟨q',a,(b.sub sub).same e,λ r hr=>⟨.inl (c r hr).1,(c r hr).2⟩⟩
 ·have old:∀ j,i≠j->Dp (i::(i+1000)::M) j->Has (ρ.set i (some d)) j->Has ρ j/\Dp M j/\∀ r∈F j,r∉fp:=λ j ne hj h1=>by
   have hj':=qdD hi.2.2 hj ne (n2 j h1)
   unfold Has at h1
   rw [qu ne] at h1
   refine ⟨h1,hj',λ r hr z=>?_⟩
   obtain ⟨d2,e2⟩:=h1
   obtain ⟨q',a,b,c⟩:=f.own j hj' d2 e2
   obtain ⟨o2,z2,_⟩:=b.mut r hr
   rw [hn r z] at z2;cases z2
  intro r hr hr'
  by_cases ej:i=j
  ·by_cases ek:i=k
   ·rw [← ej,← ek]
   ·rw [if_pos ej.symm] at hr
    rw [fne k (Ne.symm ek)] at hr'
    exact absurd hr ((old k ek hk h2).2.2 r hr')
  ·rw [fne j (Ne.symm ej)] at hr
   by_cases ek:i=k
   ·rw [if_pos ek.symm] at hr'
    exact absurd hr' ((old j ej hj h1).2.2 r hr)
   ·rw [fne k (Ne.symm ek)] at hr'
    exact f.disj j (old j ej hj h1).2.1 k (old k ek hk h2).2.1 (old j ej hj h1).1 (old k ek hk h2).1 r hr hr'
 ·obtain ⟨ej,hj'⟩:=wK hj (n2 j h1)
  obtain ⟨d1,e1⟩:=h1
  rw [qu ej] at e1 h3
  by_cases ek:i=k
  ·rw [if_pos ek.symm]
   intro z
   obtain ⟨q',a,b,c⟩:=h.own j hj' d1 e1
   rw [h3] at a;cases a
   exact b.dom (hn _ z)
  ·rw [fne k (Ne.symm ek)]
   have hk':=qdD hi.2.2 hk ek (n2 k h2)
   unfold Has at h2
   rw [qu ek] at h2
   exact f.flat j hj' k hk' ⟨d1,e1⟩ h2 r h3
theorem OwnS.write (h:OwnS K G M L H S σ ρ){p:Addr}{i:Nat}{o:HO}{d₀:PyData}(hi:Flt M i)(hl:i∉L)(e0:ρ[i]?=some (some d₀))(e1:σ[i]?=some (some (.ref p)))(hm:jG o=true)(ow:OwnO K (upd H p o) S p d):OwnS K G M L (upd H p o) S σ (ρ.set i (some d)):=by
 obtain ⟨p',a,b,c,n,w,_⟩:=h.own i hi d₀ e0
 rw [e1] at a;cases a
 have off:Off S H (upd H p o):=λ b u z e=>by
  rw [qO (λ y=>z (by rw [y];exact c))];exact e
 have hz:i<ρ.length:=(List.getElem?_eq_some_iff.mp e0).1
 have get:∀ m d',(ρ.set i (some d))[m]?=some (some d')->∃ d'',ρ[m]?=some (some d''):=λ m d' q=>by
  by_cases him:i=m
  ·subst him;exact ⟨_,e0⟩
  ·rw [qu him] at q;exact ⟨_,q⟩
 have get2:∀ m,Has (ρ.set i (some d)) m->Has ρ m:=λ m ⟨d',q⟩=>get m d' q
 have dne:∀ j,Dp M j->i≠j:=λ j hj z=>hi.2 (by rw [z];exact hj.2)
 obtain ⟨F,f⟩:=h.deep
 refine ⟨⟨h.ds.1.upd hm,by rw [List.length_set];exact h.ds.2.1,λ j d' hj q=>?_⟩,h.s0,λ a u q=>?_,λ j hj d' q=>?_,λ j hj k hk d1 d2 q h1 h2 h3 h4=>?_,h.bnd,λ j hj=>⟨(h.lkd j hj).1,by rw [qu (λ z=>hl (by rw [z];exact hj))];exact (h.lkd j hj).2⟩,
  F,λ j hj d' q=>?_,λ j hj k hk h1 h2=>f.disj j hj k hk (get2 j h1) (get2 k h2),λ j hj k hk h1 h2=>f.flat j hj k hk (get2 j h1) (get2 k h2)⟩
 ·have hij:i≠j:=λ z=>hj (by rw [← z];exact hi.1)
  rw [qu hij] at q
  obtain ⟨v,a,b⟩:=h.ds.2.2 j d' hj q
  exact ⟨v,a,b.off h.ds.1 off⟩
 ·have:a≠p:=λ z=>by subst z;rw [w hl] at q;cases q
  rw [qO this]
  exact h.h0 a u q
 ·by_cases hij:i=j
  ·subst hij
   rw [List.getElem?_set_self hz] at q;cases q
   exact ⟨p,e1,ow,c,n,w,λ z=>absurd z hl⟩
  ·rw [qu hij] at q
   obtain ⟨q',a,b',c',n',w'⟩:=h.own j hj d' q
   have:q'≠p:=λ z=>by subst z;exact hij (h.apart i hi j hj d₀ d' q' e0 q e1 a)
   exact ⟨q',a,b'.upd h.ds.1 c hm this,c',n',w'⟩
 ·obtain ⟨x1,y1⟩:=get j d1 h1
  obtain ⟨x2,y2⟩:=get k d2 h2
  exact h.apart j hj k hk x1 x2 q y1 y2 h3 h4
 ·rw [qu (dne j hj)] at q
  obtain ⟨q',a,b',c'⟩:=f.own j hj d' q
  exact ⟨q',a,b'.upd h.ds.1 c (f.flat i hi j hj ⟨_,e0⟩ ⟨_,q⟩ p e1),c'⟩
theorem OwnS.writeD (h:OwnS K G M L H S σ ρ){F:Nat->List Addr}(f:DeepF K G M H S σ ρ F){p q2:Addr}{i:Nat}{o:HO}{d₀:PyData}(hi:Dp M i)(e0:ρ[i]?=some (some d₀))(e1:σ[i]?=some (some (.ref p)))(hq:q2∈F i)(hm:jG o=true)(ow:DeepO K (upd H q2 o) S (F i) p d) :
  OwnS K G M L (upd H q2 o) S σ (ρ.set i (some d)):=by
 obtain ⟨p',a,b,cc⟩:=f.own i hi d₀ e0
 rw [e1] at a;cases a
 obtain ⟨c,n,w⟩:=cc q2 hq
 have off:Off S H (upd H q2 o):=λ b u z e=>by
  rw [qO (λ y=>z (by rw [y];exact c))];exact e
 have hz:i<ρ.length:=(List.getElem?_eq_some_iff.mp e0).1
 have get:∀ m d',(ρ.set i (some d))[m]?=some (some d')->∃ d'',ρ[m]?=some (some d''):=λ m d' q=>by
  by_cases him:i=m
  ·subst him;exact ⟨_,e0⟩
  ·rw [qu him] at q;exact ⟨_,q⟩
 have get2:∀ m,Has (ρ.set i (some d)) m->Has ρ m:=λ m ⟨d',q⟩=>get m d' q
 have dne:∀ j,Flt M j->i≠j:=λ j hj z=>hj.2 (by rw [← z];exact hi.2)
 refine ⟨⟨h.ds.1.upd hm,by rw [List.length_set];exact h.ds.2.1,λ j d' hj q=>?_⟩,h.s0,λ a u q=>?_,λ j hj d' q=>?_,λ j hj k hk d1 d2 q h1 h2 h3 h4=>?_,h.bnd,λ j hj=>⟨(h.lkd j hj).1,by rw [qu (dne j (h.lkd j hj).1)];exact (h.lkd j hj).2⟩,
  F,λ j hj d' q=>?_,λ j hj k hk h1 h2=>f.disj j hj k hk (get2 j h1) (get2 k h2),λ j hj k hk h1 h2=>f.flat j hj k hk (get2 j h1) (get2 k h2)⟩
 ·have hij:i≠j:=λ z=>hj (by rw [← z];exact hi.1)
  rw [qu hij] at q
  obtain ⟨v,a,b⟩:=h.ds.2.2 j d' hj q
  exact ⟨v,a,b.off h.ds.1 off⟩
 ·have e2:=h.h0 a u q
  by_cases ne:a=q2
  ·rw [ne,w] at q;cases q
  ·rw [qO ne];exact e2
 ·rw [qu (dne j hj)] at q
  obtain ⟨q',a,b',c',n',w'⟩:=h.own j hj d' q
  exact ⟨q',a,b'.upd h.ds.1 c hm (λ z=>by subst z;exact f.flat j hj i hi ⟨_,q⟩ ⟨_,e0⟩ _ a hq),c',n',w'⟩
 ·rw [qu (dne j hj)] at h1
  rw [qu (dne k hk)] at h2
  exact h.apart j hj k hk d1 d2 q h1 h2 h3 h4
 ·by_cases hij:i=j
  ·subst hij
   rw [List.getElem?_set_self hz] at q;cases q
   exact ⟨p,e1,ow,cc⟩
  ·rw [qu hij] at q
   obtain ⟨q',a,b',c'⟩:=f.own j hj d' q
   exact ⟨q',a,b'.upd h.ds.1 c (λ z=>hij (f.disj i hi j hj ⟨_,e0⟩ ⟨_,q⟩ _ hq z)),c'⟩
noncomputable def cut (P:Prop)(o:Option HO):Option HO:=@ite _ P (Classical.propDecidable P) none o
theorem wD {P:Prop}{o:Option HO}(h:P):cut P o=none:=if_pos h
theorem qaM {P:Prop}{o:Option HO}(h:¬ P):cut P o=o:=if_neg h
noncomputable def Gm.base (G:Gm)(S:Av)(H:Hp):Gm:={ G with H0:=λ a=>cut (S a/\G.H0 a=none) (H a) }
theorem qeR (h:Same G.H0 H):Same G.H0 (G.base S H).H0:=λ a o q=>(qaM (λ z=>by rw [q] at z;cases z.2)).trans (h a o q)
theorem qfS:Off S H (G.base S H).H0:=λ a o n q=>(qaM (λ z=>n z.1)).trans q
theorem qhJ:Same (G.base S H).H0 H:=λ a o q=>by
 have q:cut (S a/\G.H0 a=none) (H a)=some o:=q
 by_cases h:S a/\G.H0 a=none
 ·rw [wD h] at q;cases q
 ·rw [qaM h] at q;exact q
theorem OwnS.base (h:OwnS K G M L H S σ ρ):OwnS K (G.base S H) M L H S σ ρ:=by
 obtain ⟨F,f⟩:=h.deep
 refine ⟨h.ds,h.s0,qhJ,λ i hi d q=>?_,h.apart,λ a z=>?_,h.lkd,F,λ i hi d q=>let ⟨p,a,b,c⟩:=f.own i hi d q;⟨p,a,b,λ r hr=>⟨(c r hr).1,(c r hr).2.1,wD ⟨(c r hr).1,(c r hr).2.2⟩⟩⟩,f.disj,f.flat⟩
 ·obtain ⟨p,a,b,c,n,w,w'⟩:=h.own i hi d q
  exact ⟨p,a,b,c,n,λ hl=>wD ⟨c,w hl⟩,w'⟩
 ·rcases h.bnd a z with y|y|y
  ·exact .inl y
  ·exact .inr (.inl (wD ⟨z,y⟩))
  ·exact .inr (.inr y)
theorem OwnS.unbase {G':Gm}(s:Same G.H0 G'.H0)(e:G'.S0=G.S0)(e':G'.lk=G.lk)(h:OwnS K G' M L H S σ ρ):OwnS K G M L H S σ ρ:=by
 obtain ⟨F,f⟩:=h.deep
 refine ⟨h.ds,by rw [← e];exact h.s0,s.trans h.h0,λ i hi d q=>?_,h.apart,λ a z=>?_,by rw [← e'];exact h.lkd,F,λ i hi d q=>let ⟨p,a,b,c⟩:=f.own i hi d q;⟨p,a,b,λ r hr=>⟨(c r hr).1,by rw [← e];exact (c r hr).2.1,s.free (c r hr).2.2⟩⟩,f.disj,f.flat⟩
 ·obtain ⟨p,a,b,c,n,w,w'⟩:=h.own i hi d q
  exact ⟨p,a,b,c,by rw [← e];exact n,λ hl=>s.free (w hl),by rw [← e'];exact w'⟩
 ·rcases h.bnd a z with y|y|y
  ·exact .inl (by rw [← e];exact y)
  ·exact .inr (.inl (s.free y))
  ·exact .inr (.inr (by rw [← e'];exact y))
theorem OwnS.turn {G':Gm}{S':Av}{x:V}(s0:∀ a,G'.S0 a->S a)(sl:∀ i∈L,S (G'.lk i).1)(h:OwnS K G' M L H S' σ ρ)(q:Den K G'.H0 S x d):Den K H S' x d:=by
 refine (q.sub λ a ha z=>?_).same h.h0
 rcases h.bnd a z with y|y|⟨i,hi,rfl⟩
 ·exact s0 a y
 ·exact absurd y ha
 ·exact sl i hi
end
inductive Fr where
 | pl|nw|dp
def OutQ (K:W.Frag)(G:Gm)(M' Mb L:List Nat)(fr:Fr)(D:Ends):Out->Prop
 | .nx ρ=>∀ σ' H' S',OwnS K G M' L H' S' σ' ρ->D.nx σ' H'
 | .rt d=>match fr with
  | .nw=>∀ p H',Same G.H0 H'->G.H0 p=none->¬ G.S0 p->OwnO K H' (insA G.S0 p) p d->D.rt (.ref p) H'
  | .dp=>∀ p fp H',Same G.H0 H'->(∀ q∈fp,G.H0 q=none/\¬ G.S0 q)->DeepO K H' (insL G.S0 fp) fp p d->D.rt (.ref p) H'
  | .pl=>∀ v H',Same G.H0 H'->Den K H' G.S0 v d->D.rt v H'
 | .bk ρ=>∀ σ' H' S',OwnS K G Mb L H' S' σ' ρ->D.bk σ' H'
 | .ct ρ=>∀ σ' H' S',OwnS K G Mb L H' S' σ' ρ->D.ct σ' H'
def tDS (K:W.Frag)(G:Gm)(M L M' Mb:List Nat)(fr:Fr)(f:Rho->Option Out):TS:=λ D σ H=>∃ S ρ o,OwnS K G M L H S σ ρ/\f ρ=some o/\OutQ K G M' Mb L fr D o
def PDS (X:Cx)(G:Gm)(M L M' Mb:List Nat)(fr:Fr)(s:Stmt)(f:Rho->Option Out):Prop:=PS X s (tDS X.K G M L M' Mb fr f)
def PDSs (X:Cx)(G:Gm)(M L M' Mb:List Nat)(fr:Fr)(s:List Stmt)(f:Rho->Option Out):Prop:=PSs X s (tDS X.K G M L M' Mb fr f)
def tF (K:W.Frag)(M:List Nat)(f:Rho->Option PyData):TE:=λ σ H Q=>∃ S ρ d,DenS K H S M σ ρ/\f ρ=some d/\∀ p H',Same H H'->H p=none->OwnO K H' (insA S p) p d->Q (.ref p) H'
def PF (X:Cx)(M:List Nat)(e:Expr)(f:Rho->Option PyData):Prop:=PE X e (tF X.K M f)
def qP (f:Rho->Option PyData):Rho->Option PyData:=λ ρ=>ob (f ρ) λ d=>if flat d=true then some d else none
def W9:PyData->Bool
 | .list ds=>yR ds
 | _=>false
def Wb (f:Rho->Option PyData):Rho->Option PyData:=λ ρ=>ob (f ρ) λ d=>if W9 d=true then some d else none
def seqO (u w:Rho->Option Out)(ρ:Rho):Option Out:=ob (u ρ) λ o=>match o with | .nx ρ'=>w ρ'|o=>some o
section
variable {X:Cx}{G:Gm}{M M1 M2 M' Mb L:List Nat}{fr:Fr}{a b c:Expr}{es:List Expr}{f g:Rho->Option PyData}{p:Rho->Option Bool}{pos:Pos}{s1:Stmt}{ss st1 st2:List Stmt}{u w:Rho->Option Out}
theorem jh (h:PF X M a f):PD X M a f:=h.weak λ σ H Q ⟨S,ρ,d,hs,e,q⟩=>⟨S,ρ,d,hs,e,λ p H' g n o=>q _ H' g (o.den (hs.1.free n) λ a _ z=>.inl z)⟩
theorem OwnO.flat {K:W.Frag}{H:Hp}{S S':Av}{p:Addr}{d:PyData}(fl:W9 d=true)(h:OwnO K H S p d):OwnO K H S' p d:=by
 cases h with
 | lst h t=>exact .lst h (t.flat fl)
 | dct h k t=>cases fl
theorem zM:PDSs X G M L M Mb fr [] sN:=qiZ.weak λ D σ H ⟨S,ρ,o,hs,e,q⟩=>by cases e;exact q σ H S hs
theorem ql (h1:PDS X G M L M1 Mb fr s1 u)(h2:PDSs X G M1 L M2 Mb fr ss w):PDSs X G M L M2 Mb fr (s1::ss) (seqO u w) :=
 (qhk h1 h2).weak λ D σ H ⟨S,ρ,o,hs,e,q⟩=>by
  obtain ⟨o1,e1,e⟩:=qi e
  refine ⟨S,ρ,o1,hs,e1,?_⟩
  cases o1 with
  | nx ρ'=>exact λ σ' H' S' hs'=>⟨S',ρ',o,hs',e,q⟩
  | rt d=>cases e;exact q
  | bk d=>cases e;exact q
  | ct d=>cases e;exact q
theorem qt (h1:PDS X G M L M' Mb fr s1 u):PDSs X G M L M' Mb fr [s1] u:=qi0 h1
def subB (A B:List Nat):Bool:=A.all λ i=>B.contains i&&(!(B.contains (i+1000))||A.contains (i+1000))
theorem qdA {A B:List Nat}(h:subB A B=true):∀ i∈A,i∈B:=λ i hi=>by
 have:=List.all_eq_true.mp h i hi
 rw [Bool.and_eq_true] at this
 simpa using this.1
theorem qeL {A B:List Nat}(h:subB A B=true):SubM A B:=⟨qdA h,λ i hi hk=>by
 have:=List.all_eq_true.mp h i hi
 rw [Bool.and_eq_true,Bool.or_eq_true] at this
 rcases this.2 with z|z
 ·rw [Bool.not_eq_true',← Bool.not_eq_true] at z
  exact absurd (by simpa using hk) z
 ·simpa using z⟩
theorem qfu (h:PDS X G M1 L M' Mb fr s1 u)(h1:subB M1 M=true:=by decide)(h2:subB L M1=true:=by decide):PDS X G M L M' Mb fr s1 u :=
 h.weak λ D σ H ⟨S,ρ,o,hs,e,q⟩=>let ⟨S',hs'⟩:=hs.frz (qeL h1) λ i hi _=>qdA h2 i hi;⟨S',ρ,o,hs',e,q⟩
theorem OutQ.drop {K:W.Frag}{D:Ends}{o:Out}(h1:subB M1 M'=true)(h2:subB L M1=true)(q:OutQ K G M1 Mb L fr D o):OutQ K G M' Mb L fr D o:=by
 cases o with
 | nx ρ=>exact λ σ' H' S' hs=>let ⟨S2,hs2⟩:=hs.frz (qeL h1) λ i hi _=>qdA h2 i hi;q σ' H' S2 hs2
 | rt d=>exact q
 | bk ρ=>exact q
 | ct ρ=>exact q
theorem qiK (h:PDSs X G M L M' Mb fr ss u)(h1:subB M1 M'=true:=by decide)(h2:subB L M1=true:=by decide):PDSs X G M L M1 Mb fr ss u :=
 h.weak λ D σ H ⟨S,ρ,o,hs,e,q⟩=>⟨S,ρ,o,hs,e,q.drop h1 h2⟩
theorem qI (h:PD X [] a f):PDS X G M L M' Mb .pl (.Return (some a) pos) (sRet f) :=
 (qkF h).weak λ D σ H ⟨S,ρ,o,hs,e,q⟩=>by
  obtain ⟨d,e1,e⟩:=qi e
  cases e
  exact ⟨G.S0,ρ,d,hs.den,e1,λ v H' g1 d1=>q v H' (hs.h0.trans g1) d1⟩
theorem yl (i:Nat){x:Str}(hv:Vis X.env.scope x)(hN:X.N[i]?=some x:=by rfl)(hd:(x==("__debug__" : Str))=false:=by kernel_rfl)
  (hcd:(x==("__classdict__" : Str))=false:=by kernel_rfl):PE X (.Name x pos) (λ σ H Q=>∃ v,σ[i]?=some (some v)/\Q v H):=qhe hN hv hd hcd
theorem QC {i:Nat}{ρ:Rho}{d:PyData}(e:vr i ρ=some d):ρ[i]?=some (some d):=by
 have e:(ρ[i]?).join=some d:=e
 cases h:ρ[i]? with
 | none=>rw [h] at e;cases e
 | some o=>rw [h] at e;exact congrArg some e
theorem Qf (hc:PDT X [] c p)(h1:PDSs X G M L M' Mb fr st1 u)(h2:PDSs X G M L M' Mb fr st2 w):PDS X G M L M' Mb fr (.If c st1 st2 pos) (sIf p u w) :=
 (ps_if hc h1 h2).weak λ D σ H ⟨S,ρ,o,hs,e,q⟩=>by
  obtain ⟨d,e1,e⟩:=qi e
  refine ⟨G.S0,ρ,d,hs.den,e1,λ H1 g1=>?_⟩
  cases d with
  | true=>exact iteT ⟨S,ρ,o,hs.same g1,e,q⟩
  | false=>exact iteF ⟨S,ρ,o,hs.same g1,e,q⟩
def tDG (K:W.Frag)(G:Gm)(M L:List Nat)(g:PyData->Rho->Option Rho):TG:=λ v σ H Q=>∃ S ρ d ρ',OwnS K G M L H S σ ρ/\Den K H S v d/\g d ρ=some ρ'/\∀ σ' H',Same H H'->OwnS K G M L H' S σ' ρ'->Q σ' H'
def tDGs (K:W.Frag)(G:Gm)(M L:List Nat)(g:List PyData->Rho->Option Rho):TGs:=λ vs σ H Q=>∃ S ρ ds ρ',OwnS K G M L H S σ ρ/\DenL K H S vs ds/\g ds ρ=some ρ'/\∀ σ' H',Same H H'->OwnS K G M L H' S σ' ρ'->Q σ' H'
def PDG (X:Cx)(G:Gm)(M L:List Nat)(t:Expr)(g:PyData->Rho->Option Rho):Prop:=PG X t (tDG X.K G M L g)
def PDGs (X:Cx)(G:Gm)(M L:List Nat)(t:List Expr)(g:List PyData->Rho->Option Rho):Prop:=PGs X t (tDGs X.K G M L g)
theorem zg (i:Nat){x:Str}(hN:X.N.Nodup)(hx:Loc X.env.scope x)(hM:i∉M)(hi:X.N[i]?=some x:=by rfl)(hf:X.fn x=true\/X.env.scope.names.lookup x=some .local:=by first|exact .inl rfl|exact .inr rfl|assumption):PDG X G M L (.Name x pos) (gNm i) :=
 (qex hN hi hx hf).weak λ v σ H Q ⟨S,ρ,d,ρ',hs,hd,e,q⟩=>by
  cases e
  exact q _ H (Same.refl H) (hs.set hd hM)
theorem qg5:PDGs X G M L [] gsN :=
 qey.weak λ v σ H Q ⟨S,ρ,d,ρ',hs,hd,e,q⟩=>by
  cases hd with
  | nil=>cases e;exact ⟨rfl,q _ H (Same.refl H) hs⟩
  | cons a t=>cases e
theorem YD {t:Expr}{ts:List Expr}{g1:PyData->Rho->Option Rho}{g2:List PyData->Rho->Option Rho}(h1:PDG X G M L t g1)(h2:PDGs X G M L ts g2)(hs:(assignEach (t::ts) X.env).map (·.2)=assign t X.env::(assignEach ts X.env).map (·.2):=by rfl) :
  PDGs X G M L (t::ts) (gsC g1 g2) :=
 (qcs h1 h2 hs).weak λ v σ H Q ⟨S,ρ,d,ρ',hs,hd,e,q⟩=>by
  cases hd with
  | nil=>cases e
  | cons a t =>
   obtain ⟨ρ1,e1,e⟩:=qi e
   exact ⟨_,_,rfl,S,ρ,_,ρ1,hs,a,e1,λ σ' H' g1 hs'=>⟨S,ρ1,_,ρ',hs',t.same g1,e,λ σ2 H2 g2 hs2=>q σ2 H2 (g1.trans g2) hs2⟩⟩
theorem qiJ {ts:List Expr}{k:Nat}{n:Nat}{g:List PyData->Rho->Option Rho}(hc:X.calm=true)(h:PDGs X G M L ts g)(hn:(assignEach ts X.env).length=n:=by rfl)(hst:(assignEach ts X.env).findIdx? (·.1)=none:=by rfl):PDG X G M L (.Tuple ts k pos) (unpD n g) :=
 (qhf hc h hn hst).weak λ v σ H Q ⟨S,ρ,d,ρ',hs,hd,e,q⟩=>by
  cases hd with
  | @tuple a xs ds h t =>
   have e:(if ds.length=n then g ds ρ else none)=some ρ':=e
   split at e
   ·rename_i hl
    exact ⟨_,_,rfl,h,by rw [t.length];exact hl,S,ρ,_,ρ',hs,t,e,q⟩
   ·cases e
  | _=>cases e
theorem qQ (i:Nat){x:Str}{p':Pos}(hN:X.N.Nodup)(hx:Loc X.env.scope x)(hi:X.N[i]?=some x)(hs:swapsWith a (some (.Name x p')) pos.line X.env=pure false)(hf:X.fn x=true\/X.env.scope.names.lookup x=some .local)(hM:i∉M)(he:PD X M a f) :
  PDS X G M L M Mb fr (.Assign [.Name x p'] a pos) (sSet i f) :=
 (qbk hN hi hx he hs hf).weak λ D σ H ⟨S,ρ,o,hs,e,q⟩=>by
  obtain ⟨d,e1,e⟩:=qi e
  cases e
  exact ⟨S,ρ,d,hs.ds,e1,λ v H1 g1 d1=>q _ H1 S ((hs.same g1).set d1 hM)⟩
def qY (i:Nat)(f:Rho->Option PyData):Rho->Option Out:=λ ρ=>if i<ρ.length then ob (f ρ) λ d=>some (.nx (ρ.set i (some d))) else none
theorem Qx (i:Nat){x:Str}{p':Pos}(hN:X.N.Nodup)(hx:Loc X.env.scope x)(hi:X.N[i]?=some x)(hs:swapsWith a (some (.Name x p')) pos.line X.env=pure false)(hf:X.fn x=true\/X.env.scope.names.lookup x=some .local)(hM:Out0 M i)(hL:i∉L)(he:PF X M a f) :
  PDS X G M L (i::M) Mb fr (.Assign [.Name x p'] a pos) (qY i f) :=
 (qbk hN hi hx he hs hf).weak λ D σ H ⟨S,ρ,o,hs,e,q⟩=>by
  unfold qY at e
  split at e
  ·rename_i hz
   obtain ⟨d,e1,e⟩:=qi e
   cases e
   exact ⟨S,ρ,d,hs.ds,e1,λ p H1 g1 n o=>q _ H1 _ (hs.take n g1 o hM hL hz)⟩
  ·cases e
theorem qfy (i:Nat){x:Str}{p':Pos}(hN:X.N.Nodup)(hx:Loc X.env.scope x)(hi:X.N[i]?=some x)(hs:swapsWith a (some (.Name x p')) pos.line X.env=pure false)(hf:X.fn x=true\/X.env.scope.names.lookup x=some .local)(hM:Out0 M i)(hL:i∉L)(he:PF X [] a f) :
  PDS X G M L (i::M) Mb fr (.Assign [.Name x p'] a pos) (qY i (Wb f)) :=
 (qbk hN hi hx he hs hf).weak λ D σ H ⟨S,ρ,o,hs,e,q⟩=>by
  unfold qY at e
  split at e
  ·rename_i hz
   obtain ⟨d,e1,e⟩:=qi e
   cases e
   obtain ⟨d',e3,e4⟩:=qi e1
   split at e4
   ·rename_i hf
    cases e4
    exact ⟨G.S0,ρ,d,hs.den,e3,λ p H1 g1 n o=>q _ H1 _ (hs.take n g1 (o.flat hf) hM hL hz)⟩
   ·cases e4
  ·cases e
def forD (g:PyData->Rho->Option Rho)(body:Rho->Option Out):List PyData->Rho->Option Out
 | [],ρ=>some (.nx ρ)
 | d::ds,ρ=>ob (g d ρ) λ ρ1=>ob (body ρ1) λ o=>match o with
  | .nx ρ'=>forD g body ds ρ'
  | .ct ρ'=>forD g body ds ρ'
  | .bk ρ'=>some (.nx ρ')
  | .rt r=>some (.rt r)
def sFor (fi:Rho->Option (List PyData))(g:PyData->Rho->Option Rho)(u:Rho->Option Out):Rho->Option Out:=λ ρ=>ob (fi ρ) λ ds=>forD g u ds ρ
theorem OutQ.based {K:W.Frag}{G':Gm}{D:Ends}{o:Out}(s:Same G.H0 G'.H0)(e:G'.S0=G.S0)(e':G'.lk=G.lk)(q:OutQ K G M' Mb L fr D o):OutQ K G' M' Mb L fr D o:=by
 cases o with
 | nx ρ=>exact λ σ' H' S' hs=>q σ' H' S' (hs.unbase s e e')
 | rt d =>
  cases fr with
  | nw=>exact λ p H' h0 n n' o=>q p H' (s.trans h0) (s.free n) (by rw [← e];exact n') (by rw [← e];exact o)
  | dp=>exact λ p fp H' h0 n o=>q p fp H' (s.trans h0) (λ r hr=>⟨s.free (n r hr).1,by rw [← e];exact (n r hr).2⟩) (by rw [← e];exact o)
  | pl=>exact λ v H' h0 d=>q v H' (s.trans h0) (by rw [← e];exact d)
 | bk ρ=>exact λ σ' H' S' hs=>q σ' H' S' (hs.unbase s e e')
 | ct ρ=>exact λ σ' H' S' hs=>q σ' H' S' (hs.unbase s e e')
theorem Qo {tg iter:Expr}{body:List Stmt}{fi:Rho->Option (List PyData)}{g:PyData->Rho->Option Rho}(hp:PassesOwn (model X.prog X.w) X.A X.env X.xe)(hc:X.calm=true)(hi:PDI X M tg iter fi)(hg:∀ G,PDG X G M L tg g)(hb:∀ G,PDSs X G M L M M fr body u)
  (hs:∀ x,foldedSetIterable iter X.env x=pure x:=by intro _;rfl):PDS X G M L M Mb fr (.For tg iter body [] pos) (sFor fi g u):=by
 have hg':PG X tg (λ v σ H Q=>∃ G,tDG X.K G M L g v σ H Q):=λ pins s σ H v u Q I r ⟨G,q⟩=>hg G pins s σ H v u Q I r q
 have hb':PSs X body (λ D σ H=>∃ G,tDS X.K G M L M M fr u D σ H):=λ pins s σ H D I ⟨G,q⟩=>hb G pins s σ H D I q
 refine (qhj hp hc hi hg' hb' hs).weak λ D σ H ⟨S,ρ,o,os,e,q⟩=>?_
 obtain ⟨ds,e1,e⟩:=qi e
 refine ⟨S,ρ,ds,os.ds,e1,λ J H1 g1 hJ0=>?_⟩
 have os1:=os.same g1
 have hJ:IsIt X.K S J ((G.base S H1).H0) ds:=hJ0 _ qfS
 have bs:Same G.H0 (G.base S H1).H0:=qeR os1.h0
 have bo:=os1.base
 have sl:=os1.lks
 generalize hG:G.base S H1=G1 at hJ bs bo
 have eS:G1.S0=G.S0:=by rw [← hG];rfl
 have eL:G1.lk=G.lk:=by rw [← hG];rfl
 have sl1:∀ i∈L,S (G1.lk i).1:=by rw [eL];exact sl
 have s01:∀ a,G1.S0 a->S a:=by rw [eS];exact os.s0
 refine ⟨λ i m σ' H'=>m=ds.length-i/\i<=ds.length/\∃ S' ρ o,OwnS X.K G1 M L H' S' σ' ρ/\forD g u (ds.drop i) ρ=some o/\OutQ X.K G M Mb L fr D o,⟨ds.length,by simp,Nat.zero_le _,S,ρ,o,bo,e,q⟩,?_⟩
 rintro i m σ' H' ⟨rfl,hi,S',ρ',o',hs',e',q'⟩
 by_cases hlt:i<ds.length
 ·rw [List.drop_eq_getElem_cons hlt] at e'
  obtain ⟨ρ1,e2,e'⟩:=qi e'
  obtain ⟨o1,e3,e'⟩:=qi e'
  have key:∀ N:St->Hp->Prop,OutQ X.K G1 M M L fr { D with nx:=N,ct:=N,bk:=D.nx } o1->∀ x H2,J.yld i H' x H2->∃ G,tDG X.K G M L g x σ' H2 λ σ2 H2=>∃ G,tDS X.K G M L M M fr u { D with nx:=N,ct:=N,bk:=D.nx } σ2 H2:=λ N hN x H2 y=>by
   obtain ⟨e4,yd⟩:=hJ.yld i H' x H2 hs'.h0 y
   exact ⟨G1,S',ρ',_,ρ1,hs'.same e4,yd _ (List.getElem?_eq_getElem hlt) S' λ y e q=>(hs'.turn s01 sl1 q).same e4,e2,λ σ2 H3 g3 hs3=>⟨G1,S',ρ1,o1,hs3,e3,hN⟩⟩
  refine .inr ⟨hJ.go i H' hs'.h0 hlt,?_⟩
  have next:∀ ρ2,forD g u (ds.drop (i+1)) ρ2=some o'->∃ N:St->Hp->Prop,(∀ σ' H'',N σ' H''->∃ m',m'<ds.length-i/\(m'=ds.length-(i+1)/\i+1<=ds.length/\∃ S' ρ o,OwnS X.K G1 M L H'' S' σ' ρ/\forD g u (ds.drop (i+1)) ρ=some o/\OutQ X.K G M Mb L fr D o))/\∀ σ2 H2 S2,OwnS X.K G1 M L H2 S2 σ2 ρ2->N σ2 H2:=λ ρ2 e4 =>
   ⟨λ σ2 H2=>∃ S2,OwnS X.K G1 M L H2 S2 σ2 ρ2,λ σ2 H2 ⟨S2,hs3⟩=>⟨ds.length-(i+1),by omega,rfl,hlt,S2,ρ2,o',hs3,e4,q'⟩,λ σ2 H2 S2 hs3=>⟨S2,hs3⟩⟩
  cases o1 with
  | nx ρ2 =>
   obtain ⟨N,n1,n2⟩:=next ρ2 e'
   exact ⟨N,n1,key N λ σ3 H3 S3 hs3=>n2 σ3 H3 S3 hs3⟩
  | ct ρ2 =>
   obtain ⟨N,n1,n2⟩:=next ρ2 e'
   exact ⟨N,n1,key N λ σ3 H3 S3 hs3=>n2 σ3 H3 S3 hs3⟩
  | bk ρ2 =>
   cases e'
   exact ⟨λ _ _=>False,λ _ _ z=>z.elim,key _ λ σ3 H3 S3 hs3=>q' σ3 H3 S3 (hs3.unbase bs eS eL)⟩
  | rt r =>
   cases e'
   refine ⟨λ _ _=>False,λ _ _ z=>z.elim,key _ ?_⟩
   have q2:OutQ X.K G1 M Mb L fr D (.rt r):=q'.based bs eS eL
   exact q2
 ·have hi':i=ds.length:=by omega
  subst hi'
  rw [List.drop_length] at e'
  cases e'
  exact .inl ⟨hJ.stop H' hs'.h0,q' σ' H' S' (hs'.unbase bs eS eL)⟩
end
def outD:Out->Option PyData
 | .rt d=>some d
 | .nx _=>some .none
 | _=>none
def rho0 (n:Nat)(ds:List PyData):Rho:=ds.map some++List.replicate (n-ds.length) none
def G0 (H:Hp)(S:Av):Gm:=⟨H,S,λ _=>(0,.none)⟩
theorem OwnS.start {K:W.Frag}{H:Hp}{S:Av}{vs:List V}{ds:List PyData}(m:Dm S H)(h:DenL K H S vs ds)(N:List Str):OwnS K (G0 H S) [] [] H S (start N vs) (rho0 N.length ds) :=
 ⟨DenS.start m h N,λ _ z=>z,Same.refl _,(λ _ h=>nomatch h.1),(λ _ h=>nomatch h.1),λ _ z=>.inl z,(λ _ h=>nomatch h),λ _=>[],(λ _ h=>nomatch h.1),(λ _ h=>nomatch h.1),(λ _ h=>nomatch h.1)⟩
structure FunG (K:W.Frag)(x qual:Str)(st:Stmt)(f:Addr)(fd:FuncData):Prop where
 ex:∃ (oc dV:Value) (od:Option Addr) (kV doc pm:Value) (an:Option Addr) (cdv ct:Value) (osl:Array (Option Value)),
  fd=W.fnOf x qual (jr st) (QX st) (qm st) dV kV doc pm an cdv ct/\K.lookup f=some ⟨oc,od,.func fd,osl⟩/\W.codeIn K cdv qual=true
 kp:W.keepIn K (.ref f)=true
theorem Fun.g {K:W.Frag}{x qual:Str}{st:Stmt}{f:Addr}{fd:FuncData}(F:Fun K x qual st f fd):FunG K x qual st f fd:=by
 obtain ⟨oc,od,kV,doc,pm,an,cdv,ct,osl,e,lk,hcd⟩:=F.ex
 exact ⟨⟨oc,_,od,kV,doc,pm,an,cdv,ct,osl,e,lk,hcd⟩,F.kp⟩
section
variable {P:Program}{w:World}{K:W.Frag}{mg:Str->Option Value}{base:Heap}
theorem FunG.ok {x qual:Str}{st:Stmt}{f:Addr}{fd:FuncData}{N ps:List Str}{k:Nat}{sp:Sp}(F:FunG K x qual st f fd)(S:FnScope N ps (qm st))(len:∀ vs H Q E,sp vs H Q E->vs.length=ps.length)
  (hbody:∀ (cdv:Value) (A:Around) (outer:List Env) (s:Shared) (H:Hp) (vs:List V) (Q:VK) (E:XK),Room k (A.deeper (envOfC qual (qm st) s.heap.objs.size f cdv))->sp vs H Q E->
   ∃ t,PSs (cxOf CX0 P w K mg base N qual (qm st) f cdv A outer s H E).nox (QX st) t/\t { nx:=λ _ H'=>Q .non H',rt:=Q } (start N vs) H):FnOk P w K mg base CX0 (k+1) f fd ps sp:=by
 obtain ⟨oc,dV,od,kV,doc,pm,an,cdv,ct,osl,rfl,lk,hcd⟩:=F.ex
 refine qjp lk hcd S len λ A outer s H vs Q E hr hsp=>?_
 obtain ⟨t,h,q⟩:=hbody cdv A outer s H vs Q E hr hsp
 exact ⟨t,h.nox,q⟩
theorem FunG.pure {x qual:Str}{st:Stmt}{f:Addr}{fd:FuncData}{N ps:List Str}{k n:Nat}{u:Rho->Option Out}{M':List Nat}(F:FunG K x qual st f fd)(S:FnScope N ps (qm st))(hn:ps.length=n)
  (hbody:∀ (cdv:Value) (A:Around) (outer:List Env) (s:Shared) (H:Hp) (E:XK),Room k (A.deeper (envOfC qual (qm st) s.heap.objs.size f cdv))->∀ G:Gm,
   PDSs (cxOf CX0 P w K mg base N qual (qm st) f cdv A outer s H E).nox G [] [] M' [] .pl (QX st) u) :
  FnOk P w K mg base CX0 (k+1) f fd ps (spF K n λ ds=>ob (u (rho0 N.length ds)) outD):=by
 refine F.ok S (λ vs H Q E h=>?_) (λ cdv A outer s H vs Q E hr h=>?_)
 ·obtain ⟨_,ds,d,_,h1,h2,_⟩:=h
  rw [h1.length,h2,hn]
 ·obtain ⟨Sv,ds,d,m,h1,h2,e,q⟩:=h
  obtain ⟨o,e1,e⟩:=qi e
  refine ⟨_,hbody cdv A outer s H E hr (G0 H Sv),Sv,rho0 N.length ds,o,OwnS.start m h1 N,e1,?_⟩
  cases o with
  | rt r=>cases e;exact q
  | nx ρ=>cases e;exact λ σ' H' S' hs=>q _ H' hs.h0 .none
  | bk ρ=>cases e
  | ct ρ=>cases e
theorem Fun.pure {x qual:Str}{st:Stmt}{f:Addr}{fd:FuncData}{N ps:List Str}{k n:Nat}{u:Rho->Option Out}{M':List Nat}(F:Fun K x qual st f fd)(S:FnScope N ps (qm st))(hn:ps.length=n)
  (hbody:∀ (cdv:Value) (A:Around) (outer:List Env) (s:Shared) (H:Hp) (E:XK),Room k (A.deeper (envOfC qual (qm st) s.heap.objs.size f cdv))->∀ G:Gm,
   PDSs (cxOf CX0 P w K mg base N qual (qm st) f cdv A outer s H E).nox G [] [] M' [] .pl (QX st) u) :
  FnOk P w K mg base CX0 (k+1) f fd ps (spF K n λ ds=>ob (u (rho0 N.length ds)) outD) :=
 F.g.pure S hn hbody
structure Known (P:Program)(w:World)(K:W.Frag)(mg:Str->Option Value)(base:Heap)(x:Str)(n k:Nat)(h:List PyData->Option PyData):Prop where
 ex:∃ (f:Addr) (fd:FuncData) (ps:List Str),FnOk P w K mg base CX0 k f fd ps (spF K n h)/\mg x=some (.ref f)/\W.keepIn K (.ref f)=true/\Binds K fd ps []
end
section
variable {X:Cx}{G:Gm}{M M' Mb L:List Nat}{fr:Fr}{a b c:Expr}{es:List Expr}{f g:Rho->Option PyData}{p:Rho->Option Bool}{pos:Pos}{u:Rho->Option Out}
theorem qw {x:Str}{p:Pos}{n k k':Nat}{h:List PyData->Option PyData}{fs:Rho->Option (List PyData)}(F:Known X.prog X.w X.K X.mg X.base x n k h)(hr:Room k' X.A)(hk:k<=k')(hg:Gl X x)(ha:PDA X M (a::es) fs)(hl:(a::es).length=n)
  (hdb:(x==("__debug__" : Str))=false:=by kernel_rfl) (he:starEach (a::es) X.env=(false,eval a X.env)::starEach es X.env:=by rfl) (hpl:(backTo pos (starEach es X.env)).any (·.1)=false:=by rfl) :
  PD X M (.Call (.Name x p) (a::es) [] pos) (evC n fs h):=by
 obtain ⟨f,fd,ps,F,m,kp,b⟩:=F.ex
 exact qiH F (hr.mono hk) hg m kp b pass0 ha hl hdb he hpl
theorem OwnO.laid {K:W.Frag}{H:Hp}{S:Av}{p:Addr}{vs:List V}{ds:List PyData}(n:H p=none)(t:DenL K H S vs ds):OwnO K (L2.upd H p (.lst vs)) (insA S p) p (.list ds) :=
 .lst q9 ((t.sub λ a ha z=>z.elim id λ y=>absurd (by rw [y];exact n) ha).same (Same.lay n))
theorem j6 {fs:Rho->Option (List PyData)}(h:PDA X M es fs):PF X M (.List es pos) (evA fs lstD) :=
 (qhc h).weak λ σ H Q ⟨S,ρ,d,hs,e,q⟩=>by
  obtain ⟨xs,e1,e⟩:=qi e
  obtain ⟨hz,rfl⟩:=qah e
  exact ⟨S,ρ,xs,hs,e1,λ vs H1 g1 d1=>⟨Nat.le_of_lt (zX (by rw [d1.length];exact hz)),λ p hp=>q _ _ (g1.lay' hp) (g1.free hp) (OwnO.laid hp d1)⟩⟩
def qbt (X:Cx)(f:Value)(g:List PyData->Option PyData):Prop:=jo X f (λ vs H Q=>∃ S ds d,Dm S H/\DenL X.K H S vs ds/\g ds=some d/\∀ p H',Same H H'->H p=none->OwnO X.K H' (insA S p) p d->Q (.ref p) H')
theorem jM {id:String}{x:Str}{p:Pos}{h:List PyData->Option PyData}{fs:Rho->Option (List PyData)}(hc:qbt X (.builtin id) h)(hg:Gl X x)(hm:X.mg x=none)(hv:bootBuiltins x=some (.builtin id))(ha:PDA X M (a::es) fs)(hn:x ≠ "__name__" := by decide +kernel)(hdb:(x==("__debug__" : Str))=false:=by kernel_rfl)
  (he:starEach (a::es) X.env=(false,eval a X.env)::starEach es X.env:=by rfl) (hpl:(backTo pos (starEach es X.env)).any (·.1)=false:=by rfl):PF X M (.Call (.Name x p) (a::es) [] pos) (evA fs h) :=
 (Wt hc hg hm hv ha hn hdb he hpl).weak λ σ H Q ⟨S,ρ,d,hs,e,q⟩=>by
  obtain ⟨ds,e1,e⟩:=qi e
  exact ⟨S,ρ,ds,hs,e1,λ vs H1 g1 d1=>⟨S,ds,d,hs.1.same g1,d1,e,λ p H' g2 n o=>q p H' (g1.trans g2) (g1.free n) o⟩⟩
theorem JV {T:String}{x:Str}{p:Pos}{h:List PyData->Option PyData}{fs:Rho->Option (List PyData)}(hc:qbt X (.type T) h)(hg:Gl X x)(hm:X.mg x=none)(hv:bootBuiltins x=some (.type T))(ha:PDA X M (a::es) fs)(hn:x ≠ "__name__" := by decide +kernel)(hdb:(x==("__debug__" : Str))=false:=by kernel_rfl)
  (he:starEach (a::es) X.env=(false,eval a X.env)::starEach es X.env:=by rfl) (hpl:(backTo pos (starEach es X.env)).any (·.1)=false:=by rfl):PF X M (.Call (.Name x p) (a::es) [] pos) (evA fs h) :=
 (qat hc hg hm hv ha hn hdb he hpl).weak λ σ H Q ⟨S,ρ,d,hs,e,q⟩=>by
  obtain ⟨ds,e1,e⟩:=qi e
  exact ⟨S,ρ,ds,hs,e1,λ vs H1 g1 d1=>⟨S,ds,d,hs.1.same g1,d1,e,λ p H' g2 n o=>q p H' (g1.trans g2) (g1.free n) o⟩⟩
theorem qdq:qbt X (.type "list") Zc:=λ pins s σ H xs us Q I r ⟨S,ds,d,m,h1,e,q⟩=>yH pins s σ H xs us Q I r (by
 cases h1 with
 | nil=>cases e
 | cons a t =>
  cases t with
  | cons a' t'=>cases a<;>cases e
  | nil =>
   cases a with
   | list h t=>cases e;exact ⟨_,_,rfl,.inl h.sq,λ l hl=>q _ _ (Same.lay hl) hl (OwnO.laid hl t)⟩
   | tuple h t=>cases e;exact ⟨_,_,rfl,.inr h,λ l hl=>q _ _ (Same.lay hl) hl (OwnO.laid hl t)⟩
   | _=>cases e)
def appD:PyData->PyData->Option PyData
 | .list ds,d=>if ds.length<1000 then some (.list (ds++[d])) else none
 | _,_=>none
def sApp (i:Nat)(f:Rho->Option PyData):Rho->Option Out:=λ ρ=>ob (vr i ρ) λ l=>ob (f ρ) λ d=>ob (appD l d) λ l'=>some (.nx (ρ.set i (some l')))
theorem Yt {l d l':PyData}(e:appD l d=some l'):∃ ds,l=.list ds/\ds.length<1000/\l'=.list (ds++[d]):=by
 unfold appD at e
 split at e
 ·split at e
  ·rename_i hz;cases e;exact ⟨_,rfl,hz,rfl⟩
  ·cases e
 ·cases e
theorem Off.upd {S:Av}{H:Hp}{p:Addr}{o:HO}(c:S p):Off S H (L2.upd H p o):=λ b u z e=>by
 rw [qO (λ y=>z (by rw [y];exact c))];exact e
theorem qev (i:Nat){x:Str}{px apos cpos:Pos}(hv:Vis X.env.scope x)(hM:Flt M i)(hL:i∉L)(he:PD X M a f)(hN:X.N[i]?=some x:=by rfl)(hd:(x==("__debug__" : Str))=false:=by kernel_rfl)(hcd:(x==("__classdict__" : Str))=false:=by kernel_rfl)
  (hbase:attributeBase (.Name x px) "append" X.env (eval (.Name x px) X.env)=eval (.Name x px) X.env:=by rfl)
  (hfew:((backTo cpos (starEach [a] X.env)).all (λ x=>!x.1)&&(backToKw cpos (keywordEach [] X.env)).all (λ x=>x.1.isSome)
   && decide ([a].length+([]:List Keyword).length+(if ([]:List Keyword).isEmpty then 0 else 1)<30))=true:=by rfl)
  (hline:(apos.endLine==cpos.line)=true:=by rfl) (hs:starEach [a] X.env=(false,eval a X.env)::starEach [] X.env:=by rfl) (hplain:(backTo cpos (starEach [] X.env)).any (·.1)=false:=by rfl)
  (hsw:swapsWith (.Call (.Attribute (.Name x px) "append" apos) [a] [] cpos) none pos.line X.env=pure false:=by rfl) :
  PDS X G M L M Mb fr (.Expr (.Call (.Attribute (.Name x px) "append" apos) [a] [] cpos) pos) (sApp i f) :=
 (qbj (qew PySem.F.plainAttrs_list PySem.F.slot_list_append PySem.F.type_list_append Yy (yl i hv hN hd hcd) (qb he qg hs) hbase hfew hline hs hplain) hsw).weak λ D σ H ⟨S,ρ,o,os,e,q⟩=>by
  obtain ⟨l,e1,e⟩:=qi e
  obtain ⟨d,e2,e⟩:=qi e
  obtain ⟨l',e3,e⟩:=qi e
  cases e
  obtain ⟨ds,rfl,hz,rfl⟩:=Yt e3
  obtain ⟨pp,a1,b1,c1,n1,w1,_⟩:=os.own i hM _ (QC e1)
  cases b1 with
  | @lst xs _ h t =>
   refine ⟨_,a1,.inl ⟨rfl,_,SqL.of h⟩,S,ρ,[d],os.ds,by show ob (f ρ) _=_;rw [e2];rfl,λ vs H2 g2 dl=>?_⟩
   obtain ⟨v,rfl,dv⟩:=dl.inv1
   have os2:=os.same g2
   refine ⟨pp,xs,v,rfl,rfl,g2 _ _ h,Nat.lt_of_lt_of_le (by rw [t.length];exact hz) (Nat.le_of_lt (zX (Nat.le_refl _))),?_⟩
   exact q _ _ _ (os2.write hM hL (QC e1) a1 rfl (.lst q9 (((t.same g2).snoc dv).off os2.ds.1 (Off.upd c1))))
def isNone:PyData->Bool
 | .none=>true
 | _=>false
def isD:PyData->PyData->Option PyData
 | x,.none=>some (.bool (isNone x))
 | .bool b,.bool c=>some (.bool (b==c))
 | _,_=>none
def isnD:PyData->PyData->Option PyData
 | x,.none=>some (.bool (!isNone x))
 | .bool b,.bool c=>some (.bool (!(b==c)))
 | _,_=>none
theorem qdf {K:W.Frag}{H:Hp}{S:Av}{v:V}{d:PyData}(h:Den K H S v d):decide (v=.non)=isNone d:=by cases h<;>rfl
theorem d_isn:OpD X (compareOp .IsNot) isnD:=by
 intro pins s σ H x y v u Q I rx ry ⟨S,dx,dy,d,m,h1,h2,e,q⟩
 unfold isnD at e
 split at e
 ·cases e;cases h2
  exact qiG pins s σ H x _ v u Q I rx ry ⟨rfl,by rw [qdf h1];exact q _ H (Same.refl H) (.bool _)⟩
 ·cases e;cases h1;cases h2
  cases (show v=Value.bool _ from rx);cases (show u=Value.bool _ from ry)
  exact isnot_bool (jX I (q _ H (Same.refl H) (.bool _)) rfl)
 ·cases e
end
section
variable {X:Cx}{G:Gm}{M M' Mb L:List Nat}{fr:Fr}{a b c:Expr}{es:List Expr}{f g:Rho->Option PyData}{p:Rho->Option Bool}{pos:Pos}{u:Rho->Option Out}
def intD:PyData->Option Int
 | .int i=>some i
 | _=>none
def PDO (X:Cx)(M:List Nat)(e:Option Expr)(f:Rho->Option (Option Int)):Prop:=PO X e (λ σ H Q=>∃ S ρ i,DenS X.K H S M σ ρ/\f ρ=some i/\∀ H',Same H H'->Q i H')
def oN:Rho->Option (Option Int):=λ _=>some none
def oS (f:Rho->Option PyData):Rho->Option (Option Int):=λ ρ=>ob (f ρ) λ d=>ob (intD d) λ i=>some (some i)
theorem qfb {d:PyData}{i:Int}(h:intD d=some i):d=.int i:=by cases d<;>first|(cases h;rfl)|cases h
theorem qg6:PDO X M none oN:=λ pins s σ H Q I ⟨S,ρ,i,hs,e,q⟩=>by
 cases e
 exact qiW pins s σ H Q I (q H (Same.refl H))
theorem Ws (h:PD X M a f):PDO X M (some a) (oS f):=λ pins s σ H Q I ⟨S,ρ,i,hs,e,q⟩=>by
 obtain ⟨d,e1,e⟩:=qi e
 obtain ⟨j,e2,e⟩:=qi e
 cases e
 cases qfb e2
 exact qiX h pins s σ H Q I ⟨S,ρ,_,hs,e1,λ v H' g d=>⟨j,d.int_inv,q H' g⟩⟩
def cutD (ds:List PyData)(lo hi:Option Int):List PyData:=(ds.drop (HT.sIx ds.length 0 lo)).take (HT.sIx ds.length ds.length hi-HT.sIx ds.length 0 lo)
def sliD (x:PyData)(lo hi:Option Int):Option PyData:=match x with
 | .list ds=>some (.list (cutD ds lo hi))
 | .tuple ds=>if HT.sIx ds.length 0 lo=0/\HT.sIx ds.length ds.length hi=ds.length then none else some (.tuple (cutD ds lo hi))
 | _=>none
def evS (fa:Rho->Option PyData)(fl fh:Rho->Option (Option Int)):Rho->Option PyData:=λ ρ=>ob (fa ρ) λ x=>ob (fl ρ) λ l=>ob (fh ρ) λ h=>sliD x l h
theorem qbD {K:W.Frag}{H:Hp}{S:Av}{vs:List V}{ds:List PyData}(t:DenL K H S vs ds)(lo hi:Option Int):DenL K H S (cutV vs lo hi) (cutD ds lo hi):=by
 unfold cutV cutD
 rw [t.length]
 exact (t.drop _).take _
theorem qco {lo hi:Option Expr}{fl fh:Rho->Option (Option Int)}{p2:Pos}(ha:PD X M a f)(hl:PDO X M lo fl)(hh:PDO X M hi fh):PD X M (.Subscript a (.Slice lo hi none p2) pos) (evS f fl fh) :=
 (qhd (r:=λ x lo hi H Q=>rSlL X.K x lo hi H Q\/rSlT X.K x lo hi H Q) (qjd.or qkZ) ha hl hh).weak λ σ H Q ⟨S,ρ,d,hs,e,q⟩=>by
  obtain ⟨x,e1,e⟩:=qi e
  obtain ⟨l,e2,e⟩:=qi e
  obtain ⟨h,e3,e⟩:=qi e
  refine ⟨S,ρ,x,hs,e1,λ v H1 g1 d1=>⟨S,ρ,l,hs.same g1,e2,λ H2 g2=>⟨S,ρ,h,hs.same (g1.trans g2),e3,λ H3 g3=>?_⟩⟩⟩
  have g13:=g1.trans (g2.trans g3)
  have d3:=d1.same (g2.trans g3)
  cases d3 with
  | list hq t =>
   cases e
   exact .inl ⟨_,_,rfl,hq.sq,λ p hp=>q _ _ (g13.lay' hp) (.list (SqLS.new q9 ((hs.1.same g13).free hp)) ((qbD t l h).same (Same.lay hp)))⟩
  | @tuple a' xs ds hq t =>
   have e:(if HT.sIx ds.length 0 l=0/\HT.sIx ds.length ds.length h=ds.length then none else some (PyData.tuple (cutD ds l h)))=some d:=e
   split at e
   ·cases e
   ·rename_i hc
    cases e
    refine .inr ⟨_,_,rfl,hq,by rw [t.length];exact hc,λ p hp=>q _ _ (g13.lay' hp) (.tuple (SqT.of q9) ((qbD t l h).same (Same.lay hp)))⟩
  | _=>cases e
def qdJ (x y:PyData):Option PyData:=match x,y with
 | .int i,.int j=>some (.int (i+j))
 | .tuple ds,.tuple es=>if ds.length+es.length<=1000 then some (.tuple (ds++es)) else none
 | _,_=>none
theorem qf5 {prog:Program}{w:World}{A:Around}{E:Value->Shared->Prop}{s:Shared}{t b:Addr}{vs ws:List Value}{Q:Value->Shared->Prop}(ht:IsTup s.heap t vs.toArray)(hb:IsTup s.heap b ws.toArray)(hv:vs=[])(h:Q (.ref b) s) :
  wpAny (model prog w) A (binaryOp .Add (.ref t) (.ref b)) Q E s:=by
 obtain ⟨⟨cls,dd,data,sl⟩,ho,hc,n,hd⟩:=id ht
 obtain ⟨⟨cls2,dd2,data2,sl2⟩,ho2,hc2,n2,hd2⟩:=id hb
 simp only at hc hd hc2 hd2
 subst hc hd hc2 hd2
 exact concat_meets ⟨_,ho,rfl⟩ ⟨_,ho2,rfl⟩ noFill_tuple_add seq_tuple_add PySem.F.slot_tuple_add PySem.F.entry_tuple_add (PySem.F.args_tuple_add_2 _ _) (tuple_addW0 t b vs.toArray ws.toArray n n2 dd dd2 sl sl2 (by simp [hv])) ⟨ho,ho2,h⟩
theorem qiB:OpR X (binaryOp .Add) (λ x y H Q=>∃ a b ys,x=.ref a/\y=.ref b/\SqT X.K H a []/\SqT X.K H b ys/\Q (.ref b) H):=by
 intro pins s σ H x y v u Q I rx ry h
 obtain ⟨a,b,ys,rfl,rfl,ha,hb,q⟩:=h
 cases rx
 cases ry
 obtain ⟨its,r1,p1,_⟩:=I.tuple ha
 obtain ⟨its2,r2,p2,_⟩:=I.tuple hb
 exact qf5 p1 p2 (r1.nil_iff.mpr rfl) ⟨.ref b,H,I,rfl,q⟩
theorem qga:OpD X (binaryOp .Add) qdJ:=by
 refine yg (r:=λ x y H Q=>rI0 (λ i j=>.int (i+j)) x y H Q\/(qjy X.K x y H Q\/(∃ a b ys,x=.ref a/\y=.ref b/\SqT X.K H a []/\SqT X.K H b ys/\Q (.ref b) H))) (qkl.or (qiD.or qiB)) λ x y dx dy d H S Q m h1 h2 e q=>?_
 unfold qdJ at e
 split at e
 ·cases e;cases h1;cases h2
  exact .inl ⟨_,_,rfl,rfl,q _ H (Same.refl H) (.int _)⟩
 ·split at e
  ·rename_i ds es hc
   cases e
   cases h1 with
   | tuple a1 t1 =>
    cases h2 with
    | tuple a2 t2 =>
     cases ds with
     | nil =>
      cases t1
      exact .inr (.inr ⟨_,_,_,rfl,rfl,a1,a2,q _ H (Same.refl H) (.tuple a2 t2)⟩)
     | cons d0 ds =>
      refine .inr (.inl ⟨_,_,_,_,rfl,rfl,a1,a2,λ z=>?_,?_,λ z=>?_,λ z p hp=>q _ _ (Same.lay hp) (.tuple (SqT.of q9) ((t1.append t2).same (Same.lay hp)))⟩)
      ·subst z;cases t1
      ·rw [t1.length,t2.length]
       exact Nat.le_of_lt (zX hc)
      ·subst z;cases t2
       rw [List.append_nil] at q
       exact q _ H (Same.refl H) (.tuple a1 t1)
  ·cases e
 ·cases e
end
section
variable {X:Cx}{G:Gm}{M M1 M' Mb L:List Nat}{fr:Fr}{a b c:Expr}{es:List Expr}{f g:Rho->Option PyData}{p:Rho->Option Bool}{pos:Pos}{u:Rho->Option Out}{ss:List Stmt}{s1:Stmt}
def PDR (X:Cx)(tg iter:Expr)(f:Rho->Option (List PyData)):Prop:=PI X tg iter (λ σ H R=>∃ S ρ ds,DenS X.K H S [] σ ρ/\f ρ=some ds/\∀ J H',Same H H'->(∀ H2 S2,IsIt X.K S2 J H2 ds)->R J H')
theorem j5 {tg:Expr}{fs:Rho->Option (List PyData)}{p:Pos}(hg:Gl X "range")(hm:X.mg "range" = none)(ha:PDA X [] [a] fs)(hs:starEach [a] X.env=[(false,eval a X.env)]:=by rfl):PDR X tg (.Call (.Name "range" p) [a] [] pos) (evR fs QS) :=
 (qau hg hm ha hs).weak λ σ H R ⟨S,ρ,ds,hs,e,w⟩=>by
  obtain ⟨xs,e1,e⟩:=qi e
  refine ⟨S,ρ,xs,hs,e1,λ vs H1 g1 d1=>?_⟩
  unfold QS at e
  split at e
  ·rename_i j
   split at e
   ·rename_i hj
    cases e
    obtain ⟨v,rfl,q⟩:=d1.inv1
    cases q
    exact ⟨j,rfl,by omega,by omega,w _ _ g1 λ _ _=>IsIt.rng 0 _⟩
   ·cases e
  ·cases e
theorem Jv {tg iter:Expr}{body:List Stmt}{fi:Rho->Option (List PyData)}{g:PyData->Rho->Option Rho}(hp:PassesOwn (model X.prog X.w) X.A X.env X.xe)(hc:X.calm=true)(hi:PDR X tg iter fi)(hg:PDG X G M L tg g)(hb:PDSs X G M L M M fr body u)
  (hs:∀ x,foldedSetIterable iter X.env x=pure x:=by intro _;rfl):PDS X G M L M Mb fr (.For tg iter body [] pos) (sFor fi g u):=by
 refine (qhj hp hc hi hg hb hs).weak λ D σ H ⟨S,ρ,o,os,e,q⟩=>?_
 obtain ⟨ds,e1,e⟩:=qi e
 refine ⟨G.S0,ρ,ds,os.den,e1,λ J H1 g1 hJ=>?_⟩
 refine ⟨λ i m σ' H'=>m=ds.length-i/\i<=ds.length/\∃ S' ρ o,OwnS X.K G M L H' S' σ' ρ/\forD g u (ds.drop i) ρ=some o/\OutQ X.K G M Mb L fr D o,⟨ds.length,by simp,Nat.zero_le _,S,ρ,o,os.same g1,e,q⟩,?_⟩
 rintro i m σ' H' ⟨rfl,hi,S',ρ',o',hs',e',q'⟩
 by_cases hlt:i<ds.length
 ·rw [List.drop_eq_getElem_cons hlt] at e'
  obtain ⟨ρ1,e2,e'⟩:=qi e'
  obtain ⟨o1,e3,e'⟩:=qi e'
  have key:∀ N:St->Hp->Prop,OutQ X.K G M M L fr { D with nx:=N,ct:=N,bk:=D.nx } o1->∀ x H2,J.yld i H' x H2->tDG X.K G M L g x σ' H2 λ σ2 H2=>tDS X.K G M L M M fr u { D with nx:=N,ct:=N,bk:=D.nx } σ2 H2:=λ N hN x H2 y=>by
   obtain ⟨e4,yd⟩:=(hJ H' S').yld i H' x H2 (Same.refl _) y
   exact ⟨S',ρ',_,ρ1,hs'.same e4,yd _ (List.getElem?_eq_getElem hlt) S' λ y e q=>q.same e4,e2,λ σ2 H3 g3 hs3=>⟨S',ρ1,o1,hs3,e3,hN⟩⟩
  refine .inr ⟨(hJ H' S').go i H' (Same.refl _) hlt,?_⟩
  have next:∀ ρ2,forD g u (ds.drop (i+1)) ρ2=some o'->∃ N:St->Hp->Prop,(∀ σ' H'',N σ' H''->∃ m',m'<ds.length-i/\(m'=ds.length-(i+1)/\i+1<=ds.length/\∃ S' ρ o,OwnS X.K G M L H'' S' σ' ρ/\forD g u (ds.drop (i+1)) ρ=some o/\OutQ X.K G M Mb L fr D o))/\∀ σ2 H2 S2,OwnS X.K G M L H2 S2 σ2 ρ2->N σ2 H2:=λ ρ2 e4 =>
   ⟨λ σ2 H2=>∃ S2,OwnS X.K G M L H2 S2 σ2 ρ2,λ σ2 H2 ⟨S2,hs3⟩=>⟨ds.length-(i+1),by omega,rfl,hlt,S2,ρ2,o',hs3,e4,q'⟩,λ σ2 H2 S2 hs3=>⟨S2,hs3⟩⟩
  cases o1 with
  | nx ρ2 =>
   obtain ⟨N,n1,n2⟩:=next ρ2 e'
   exact ⟨N,n1,key N λ σ3 H3 S3 hs3=>n2 σ3 H3 S3 hs3⟩
  | ct ρ2 =>
   obtain ⟨N,n1,n2⟩:=next ρ2 e'
   exact ⟨N,n1,key N λ σ3 H3 S3 hs3=>n2 σ3 H3 S3 hs3⟩
  | bk ρ2 =>
   cases e'
   exact ⟨λ _ _=>False,λ _ _ z=>z.elim,key _ λ σ3 H3 S3 hs3=>q' σ3 H3 S3 hs3⟩
  | rt r =>
   cases e'
   have q2:OutQ X.K G M Mb L fr D (.rt r):=q'
   exact ⟨λ _ _=>False,λ _ _ z=>z.elim,key _ q2⟩
 ·have hi':i=ds.length:=by omega
  subst hi'
  rw [List.drop_length] at e'
  cases e'
  exact .inl ⟨(hJ H' S').stop H' (Same.refl _),q' σ' H' S' hs'⟩
theorem ZS (M1:List Nat)(h:PDSs X G M L M' Mb fr ss u)(h1:subB M1 M'=true)(h2:subB L M1=true):PDSs X G M L M1 Mb fr ss u:=qiK h h1 h2
theorem qfv (M1:List Nat)(h1:subB M1 M=true)(h2:subB L M1=true)(h:PDS X G M1 L M' Mb fr s1 u):PDS X G M L M' Mb fr s1 u:=qfu h h1 h2
theorem Ju (i:Nat){x:Str}{px apos cpos:Pos}(hv:Vis X.env.scope x)(hM:Flt M i)(hL:i∉L)(he:PD X [] a f)(hN:X.N[i]?=some x:=by rfl)(hd:(x==("__debug__" : Str))=false:=by kernel_rfl)(hcd:(x==("__classdict__" : Str))=false:=by kernel_rfl)
  (hbase:attributeBase (.Name x px) "append" X.env (eval (.Name x px) X.env)=eval (.Name x px) X.env:=by rfl)
  (hfew:((backTo cpos (starEach [a] X.env)).all (λ x=>!x.1)&&(backToKw cpos (keywordEach [] X.env)).all (λ x=>x.1.isSome)
   && decide ([a].length+([]:List Keyword).length+(if ([]:List Keyword).isEmpty then 0 else 1)<30))=true:=by rfl)
  (hline:(apos.endLine==cpos.line)=true:=by rfl) (hs:starEach [a] X.env=(false,eval a X.env)::starEach [] X.env:=by rfl) (hplain:(backTo cpos (starEach [] X.env)).any (·.1)=false:=by rfl)
  (hsw:swapsWith (.Call (.Attribute (.Name x px) "append" apos) [a] [] cpos) none pos.line X.env=pure false:=by rfl) :
  PDS X G M L M Mb fr (.Expr (.Call (.Attribute (.Name x px) "append" apos) [a] [] cpos) pos) (sApp i (qP f)) :=
 (qbj (qew PySem.F.plainAttrs_list PySem.F.slot_list_append PySem.F.type_list_append Yy (yl i hv hN hd hcd) (qb he qg hs) hbase hfew hline hs hplain) hsw).weak λ D σ H ⟨S,ρ,o,os,e,q⟩=>by
  obtain ⟨l,e1,e⟩:=qi e
  obtain ⟨d,e2,e⟩:=qi e
  obtain ⟨l',e3,e⟩:=qi e
  cases e
  obtain ⟨d',e4,e5⟩:=qi e2
  split at e5
  ·rename_i hf
   cases e5
   obtain ⟨ds,rfl,hz,rfl⟩:=Yt e3
   obtain ⟨pp,a1,b1,c1,n1,w1,_⟩:=os.own i hM _ (QC e1)
   cases b1 with
   | @lst xs _ h t =>
    refine ⟨_,a1,.inl ⟨rfl,_,SqL.of h⟩,G.S0,ρ,[d],os.den,by show ob (f ρ) _=_;rw [e4];rfl,λ vs H2 g2 dl=>?_⟩
    obtain ⟨v,rfl,dv⟩:=dl.inv1
    have os2:=os.same g2
    refine ⟨pp,xs,v,rfl,rfl,g2 _ _ h,Nat.lt_of_lt_of_le (by rw [t.length];exact hz) (Nat.le_of_lt (zX (Nat.le_refl _))),?_⟩
    exact q _ _ _ (os2.write hM hL (QC e1) a1 rfl (.lst q9 (((t.same g2).snoc (dv.flat hf)).off os2.ds.1 (Off.upd c1))))
  ·cases e5
end
def intsOf:List PyData->Option (List Int)
 | []=>some []
 | .int i::r=>ob (intsOf r) λ ns=>some (i::ns)
 | _::_=>none
theorem Y5:∀ {ds:List PyData} {ns:List Int},intsOf ds=some ns->ds=ns.map .int
 | [],_,h=>by cases h;rfl
 | .int i::r,ns,h=>by
  obtain ⟨ms,e1,e2⟩:=qi h
  cases e2
  rw [Y5 e1]
  rfl
 | .none::_,_,h=>by cases h
 | .bool _::_,_,h=>by cases h
 | .str _::_,_,h=>by cases h
 | .list _::_,_,h=>by cases h
 | .tuple _::_,_,h=>by cases h
 | .dict _::_,_,h=>by cases h
def inOk (ds:List PyData)(x:PyData):Bool:=PyData.canLayAll0 ds&&(x.canLay0&&decide (x.depth<=63))
def inL (ds:List PyData)(x:PyData):Bool:=ds.any λ y=>PyData.eqv y x
def inD (x y:PyData):Option PyData:=match y with
 | .list ds=>if inOk ds x=true then some (.bool (inL ds x)) else none
 | .tuple ds=>if inOk ds x=true then some (.bool (inL ds x)) else none
 | _=>none
def ninD (x y:PyData):Option PyData:=match y with
 | .list ds=>if inOk ds x=true then some (.bool (!inL ds x)) else none
 | .tuple ds=>if inOk ds x=true then some (.bool (!inL ds x)) else none
 | _=>none
section
variable {X:Cx}
theorem jg {ds:List PyData}{x:PyData}(h:inOk ds x=true):PyData.canLayAll0 ds=true/\x.canLay0=true/\x.depth<=63:=by
 unfold inOk at h
 rw [Bool.and_eq_true,Bool.and_eq_true] at h
 exact ⟨h.1,h.2.1,of_decide_eq_true h.2.2⟩
theorem yV {A:Around}{ds:List PyData}{x:PyData}(hd:x.depth<=63)(hu:A.units+64<cLine):A.units+1+min (PyData.depthAll ds) x.depth<cLine:=by
 have:=Nat.min_le_right (PyData.depthAll ds) x.depth
 omega
theorem d_in {k:Nat}(hr:Room k X.A):OpD X (compareOp .In) inD:=by
 intro pins s σ H x y v u Q I rx ry h
 obtain ⟨S,dx,dy,d,m,h1,h2,e,q⟩:=h
 unfold inD at e
 split at e
 ·split at e
  ·rename_i hc
   obtain ⟨c1,c2,c3⟩:=jg hc
   cases e
   obtain ⟨as,q1⟩:=h1.reads I c2 rx
   obtain ⟨bs,q2⟩:=h2.reads I (by rw [PyData.canLay0];exact c1) ry
   exact SeqAt.in_list_reads q2 q1 c1 c2 (yV c3 hr.units) (jX I (q _ H (Same.refl H) (.bool _)) rfl)
  ·cases e
 ·split at e
  ·rename_i hc
   obtain ⟨c1,c2,c3⟩:=jg hc
   cases e
   obtain ⟨as,q1⟩:=h1.reads I c2 rx
   obtain ⟨bs,q2⟩:=h2.reads I (by rw [PyData.canLay0];exact c1) ry
   exact SeqAt.in_tuple_reads q2 q1 c1 c2 (yV c3 hr.units) (jX I (q _ H (Same.refl H) (.bool _)) rfl)
  ·cases e
 ·cases e
theorem yK {k:Nat}(hr:Room k X.A):OpD X (compareOp .NotIn) ninD:=by
 intro pins s σ H x y v u Q I rx ry h
 obtain ⟨S,dx,dy,d,m,h1,h2,e,q⟩:=h
 unfold ninD at e
 split at e
 ·split at e
  ·rename_i hc
   obtain ⟨c1,c2,c3⟩:=jg hc
   cases e
   obtain ⟨as,q1⟩:=h1.reads I c2 rx
   obtain ⟨bs,q2⟩:=h2.reads I (by rw [PyData.canLay0];exact c1) ry
   exact SeqAt.notIn_list_reads q2 q1 c1 c2 (yV c3 hr.units) (jX I (q _ H (Same.refl H) (.bool _)) rfl)
  ·cases e
 ·split at e
  ·rename_i hc
   obtain ⟨c1,c2,c3⟩:=jg hc
   cases e
   obtain ⟨as,q1⟩:=h1.reads I c2 rx
   obtain ⟨bs,q2⟩:=h2.reads I (by rw [PyData.canLay0];exact c1) ry
   exact SeqAt.notIn_tuple_reads q2 q1 c1 c2 (yV c3 hr.units) (jX I (q _ H (Same.refl H) (.bool _)) rfl)
  ·cases e
 ·cases e
end
section
variable {X:Cx}{G:Gm}{M M' Mb L:List Nat}{fr:Fr}{f:Rho->Option PyData}{p:Rho->Option Bool}{pos:Pos}
theorem qk5 {K:W.Frag}{n k:Nat}{fi:Rho->Option (List PyData)}{g:PyData->Rho->Option Rho}(hg:GIn n k g):∀ σ H Q,tF K M (Jj n k fi g p f) σ H Q->qcO k (tDI K M fi) (tDGc K M g) (tDT K M p) (tD K M f) σ H Q:=by
 intro σ H Q ⟨S,ρ,d,hs,e,q⟩
 obtain ⟨ds,ys,e1,hn,hz,e2,rfl⟩:=wY e
 exact qeN hg σ H Q S ρ ds ys hs e1 hn hz e2 λ H' zs g2 dl D hD=>q _ _ (g2.lay' hD) (g2.free hD) (OwnO.laid hD dl)
variable {elt iter tg:Expr}{ifs:List Expr}{x:Str}{N':List Str}{px:Pos}{sc:Scope}{n k:Nat}{fi:Rho->Option (List PyData)}{g:PyData->Rho->Option Rho}
def swB (sc₀ sc:Scope)(t:Str)(pt p:Pos):Bool:=decide (sc₀.names.lookup t=some .local)&&(pt.line==p.line)&&!(sc.names.any λ (n,k)=>n==t&&(k==.local||k==.cell))
theorem qcN {sc:Scope}{y:Str}{py:Pos}{sc₀:Scope}(hsc:X.env.scope=sc₀)(h:swB sc₀ sc y py pos=true):X.env.scope.names.lookup y=some .local:=by
 subst hsc
 unfold swB at h
 rw [Bool.and_eq_true,Bool.and_eq_true] at h
 exact of_decide_eq_true h.1.1
theorem sw_of {elt:Expr}{gens:List Comprehension}{sc:Scope}{y:Str}{py:Pos}{line:Nat}{sc₀:Scope}(hsc:X.env.scope=sc₀)(h:swB sc₀ sc y py pos=true)(hbk:X.env.blockKind=.function):swapsWith (.ListComp elt gens sc pos) (some (.Name y py)) line X.env=pure true:=by
 have h0:=qcN hsc h
 subst hsc
 unfold swB at h
 rw [Bool.and_eq_true,Bool.and_eq_true] at h
 show pure (X.env.blockKind==.function&&X.env.kindOf y==some .local&&py.line==pos.line&&!(sc.names.any λ (n,k)=>n==y&&(k==.local||k==.cell)))=pure true
 have e1:(X.env.blockKind==ScopeKind.function)=true:=by rw [hbk];rfl
 have e2:(X.env.kindOf y==some NameKind.local)=true:=by
  show (X.env.scope.names.lookup y==some NameKind.local)=true
  rw [h0];rfl
 rw [e1,e2,h.1.2,h.2]
 rfl
theorem qar (j:Nat){y:Str}{py spos:Pos}(O:CompOk X N' k sc)(gi:GIn n k g)(sc₀:Scope)(hsc:X.env.scope=sc₀)(hB:swB sc₀ sc y py pos=true)(hM:Out0 M j)(hL:j∉L)(hi:PDI X M tg iter fi)(hg:∀ cl C fp pins s H,PDGc (qX X N' sc cl C fp pins s H) M tg g)(hq:∀ cl C fp pins s H,PDTs (qX X N' sc cl C fp pins s H) M ifs p)(he:∀ cl C fp pins s H,PD (qX X N' sc cl C fp pins s H) M elt f)
  (hj:X.N[j]?=some y:=by rfl) (hbk:X.env.blockKind=.function:=by rfl)
  (hs:∀ v,foldedSetIterable iter X.env v=pure v:=by intro _;rfl):PDS X G M L (j::M) Mb fr (.Assign [.Name y py] (.ListComp elt [⟨tg,iter,ifs,0⟩] sc pos) spos) (qY j (Jj n k fi g p f)) :=
 (qiY (wg:=tDGc X.K M g) (tt:=tDT X.K M p) (te:=tD X.K M f) O hj (qcN hsc hB) hi hg hq he (sw_of hsc hB hbk) hs).weak λ D σ H ⟨S,ρ,o,hs,e,q⟩=>by
  unfold qY at e
  split at e
  ·rename_i hz
   obtain ⟨d,e1,e⟩:=qi e
   cases e
   exact qk5 gi σ H _ ⟨S,ρ,d,hs.ds,e1,λ p H1 g1 n o=>q _ H1 _ (hs.take n g1 o hM hL hz)⟩
  ·cases e
theorem ZR (j:Nat){y:Str}{py spos:Pos}(O:CompOk X N' 1 sc)(hx:N'[n]?=some x)(hl:lc1 sc x=true)(sc₀:Scope)(hsc:X.env.scope=sc₀)(hB:swB sc₀ sc y py pos=true)(hM:Out0 M j)(hL:j∉L)(hi:PDI X M (.Name x px) iter fi)(hq:∀ cl C fp pins s H,PDTs (qX X N' sc cl C fp pins s H) M ifs p)(he:∀ cl C fp pins s H,PD (qX X N' sc cl C fp pins s H) M elt f)
  (hj:X.N[j]?=some y:=by rfl) (hbk:X.env.blockKind=.function:=by rfl)
  (hs:∀ v,foldedSetIterable iter X.env v=pure v:=by intro _;rfl):PDS X G M L (j::M) Mb fr (.Assign [.Name y py] (.ListComp elt [⟨.Name x px,iter,ifs,0⟩] sc pos) spos) (qY j (zG n fi p f)):=by
 rw [wX]
 exact qar j O (jF (Nat.le_refl _)) sc₀ hsc hB hM hL hi (JW O hx hl) hq he hj hbk hs
end
def qd1 (N N':List Str)(k:Nat)(sc₀ sc:Scope):Bool :=
 decide (sc.kind=.function)&&decide N.Nodup&&decide N'.Nodup&&decide (N'.length=N.length+k)&&sc.names.all (λ y=>decide (y.2≠.cell)||decide (sc.names.lookup y.1=some .cell))&&sc.names.all (λ y=>decide (y.2≠.local)||decide (sc.names.lookup y.1=some .local)) &&
 (N.zip N').all (λ y=>(decide (y.1=y.2)&&(decide (sc.names.lookup y.2≠some .local)&&decide (sc.names.lookup y.2≠some .cell)))||decide (sc.names.lookup y.2=none)) &&
 sc.names.all (λ y=>decide (y.2≠.free)||decide (sc₀.names.lookup y.1=some .cell)||decide (sc₀.names.lookup y.1=some .free))
theorem CompOk.of {X:Cx}{sc:Scope}{k:Nat}(N N':List Str)(sc₀:Scope)(hc:X.calm=true)(hN:X.N=N)(hs:X.env.scope=sc₀)(h:qd1 N N' k sc₀ sc=true):CompOk X N' k sc:=by
 subst hN
 subst hs
 unfold qd1 at h
 simp only [Bool.and_eq_true,decide_eq_true_eq,List.all_eq_true,Bool.or_eq_true] at h
 obtain ⟨⟨⟨⟨⟨⟨⟨h1,h2⟩,h2'⟩,h2l⟩,h3⟩,h4⟩,h7⟩,h8⟩:=h
 refine ⟨hc,h1,h2,h2',h2l,λ y hy q=>(h3 y hy).resolve_left (λ z=>z q),λ y hy q=>(h4 y hy).resolve_left (λ z=>z q),λ i y hi e=>?_,λ y hy q=>?_⟩
 ·have hz:(X.N.zip N')[i]?=some (X.N[i],y):=by
   rw [List.getElem?_zip_eq_some]
   exact ⟨List.getElem?_eq_getElem hi,e⟩
  rcases h7 _ (List.mem_of_getElem? hz) with ⟨q,w⟩|q
  ·refine .inl ⟨?_,w⟩
   rw [List.getElem?_eq_getElem hi]
   exact congrArg some q
  ·exact .inr q
 ·rcases h8 y hy with (z|z)|z
  ·exact absurd q z
  ·exact .inl z
  ·exact .inr z
theorem WL:∀ {ns:List Int} {n:Int},n∈ns->W.WData.weight (.int n)<=W.WData.weightAll (ns.map .int)
 | m::ns,n,h=>by
  rw [List.map_cons,W.WData.weightAll]
  rcases List.mem_cons.mp h with rfl|h
  ·omega
  ·have:=WL h
   omega
theorem wU {ns:List Int}(h:W.WData.layableAll [.list (ns.map .int)]=true):∀ n∈ns,Builtin.Int.intBits n<=2 ^ 20:=by
 intro n hn
 have h1:W.WData.layable (.list (ns.map .int))=true:=by
  unfold W.WData.layableAll at h
  simpa using h
 unfold W.WData.layable at h1
 rw [Bool.and_eq_true] at h1
 have h2:=of_decide_eq_true h1.2
 rw [W.WData.weight] at h2
 have h3:=Nat.le_trans (WL hn) h2
 rw [W.WData.weight] at h3
 exact h3
end L2
namespace Att
open PySem PySem.W PySem.Calls PyProof.Rows
theorem attach_callB {l:OpenLaw}{n:Nat}{q:Program}{loose:List Str}{XP:(Str->Option Value)->Heap->Prop}{YP:World->Heap->Prop}{d:DefRec}
  (hn:l.most=some n) (hdf:d.params.defaults=[])
  (call:∀ (w:World) (s₀ s₁:Shared) (mg mb:Str->Option Value) (fa:Addr) (o:Obj) (pm cd doc:Value) (a:Addr) (vs:List Value) (ns:List Int),
   Ground q loose [] XP w s₀ mg mb s₁.heap->YP w s₁.heap->
   s₁.heap.get? fa=some o->o.data=.func (docDef d.name d.params d.body d.scope pm cd doc)->s₁.heap.CodeRec cd d.name->mg d.name=some (.ref fa)->
   s₁.heap.get? a=some { cls:=.type "list", data:=.seq vs.toArray }->IntsAre vs ns->ns.length<=n->(∀ k∈ns,Builtin.Int.intBits k<=2 ^ 20)->s₁.gens=#[]->
   codeAny (model l.prog w) callerA (.call (.ref fa) ⟨[.ref a],[]⟩) (λ r s'=>r=.ok (.ret (.bool true))/\OldK s₁.heap s'.heap/\s'.os=s₁.os/\AllBare s'.gens) s₁) :
  WalkO q loose XP YP l.row.toRowW d [] (λ f vs=>PySem.call f vs):=by
 intro w s₀ s₁ mg mb G Y fa o pm cd doc dV kV ho hd hcd hD hmg hg args vals as hpre hlay hrd hwl hlo
 obtain rfl:dV=.none:=Dflts.none hD hdf
 obtain rfl:kV=.none:=Dflts.noKw hD
 obtain ⟨a,vs,ns,rfl,rfl,hobj,hints,hlen⟩:=qfE hn hpre hwl
 refine enter_call (codeAny_mono (call w s₀ s₁ mg mb fa o pm cd doc a vs ns G Y ho (fd_plain hd) hcd hmg hobj hints hlen (L2.wU hlay) hg) λ r s' hq=>?_)
 obtain ⟨rfl,h2,h3,h4⟩:=hq
 exact ⟨.inl ⟨.bool true,.bool true,[],rfl,λ _=>rfl,.bool true,qfB l _,λ _=>⟨List.Pairwise.nil,λ _ hm=>(nomatch hm)⟩⟩,h2,h3,h4⟩
end Att
namespace L2
open PySem PySem.Spec PyProof.Rows
def qdz (K:W.Frag)(n:Nat):Sp:=λ vs H Q _=>∃ (a:Addr) (ns:List Int),vs=[.ref a]/\SqL K H a (ns.map V.int)/\ns.length<=n/\(∀ k∈ns,Builtin.Int.intBits k<=2 ^ 20)/\∀ H',Q (.bl true) H'
theorem qgI {P:Program}{w:World}{K:W.Frag}{mg:Str->Option Value}{base:Heap}{CX:CXT}{k n:Nat}{f:Addr}{fd:FuncData}{ps:List Str}{h:List PyData->Option PyData}(F:FnOk P w K mg base CX k f fd ps (spF K 1 h))
  (e:∀ ns:List Int,ns.length<=n->(∀ k∈ns,Builtin.Int.intBits k<=2 ^ 20)->h [.list (ns.map .int)]=some (.bool true)):FnOk P w K mg base CX k f fd ps (qdz K n) :=
 F.imp λ vs H Q E ⟨a,ns,h1,h2,h3,h4,q⟩=>by
  subst h1
  exact ⟨λ _=>False,[.list (ns.map .int)],.bool true,(λ _ z=>z.elim),.cons (.list (h2.imp (λ y=>⟨y,id⟩) id) (DenL.ints ns)) .nil,rfl,e ns h3 h4,λ v H' _ d=>by rw [d.bool_inv];exact q H'⟩
theorem qfL {l:W.OpenLaw}{n k:Nat}{q:Program}{loose:List Str}{XP:(Str->Option Value)->Heap->Prop}{YP:World->Heap->Prop}{d:DefRec}{K:Params->W.Frag}{x:Str}
  (hn:l.most=some n) (hn2:n<=sizeLine) (hdf:d.params.defaults=[]) (hr:Room k callerA)
  (hY:∀ (w:World) (h:Heap),YP w h->(K w.params).In h)
  (F:∀ (w:World) (mg:Str->Option Value) (fa:Addr) (h:Heap),(K w.params).In h->h.Ns mainGlobals mg->mg d.name=some (.ref fa)->
   ∃ fd:FuncData,(∀ (s:Shared) (u:Value),BindsTo s fd ⟨[u],[]⟩ [(x,u)])/\
    ∀ base:Heap,(K w.params).In base->base.Ns mainGlobals mg->FnOk l.prog w (K w.params) mg base CX0 k fa fd [x] (qdz (K w.params) n)) :
  W.WalkO q loose XP YP l.row.toRowW d [] (λ f vs=>PySem.call f vs):=by
 refine Att.attach_callB hn hdf λ w s₀ s₁ mg mb fa o pm cd doc a vs ns G Y ho hd hcd hmg hobj hints hlen hbits hg=>?_
 have KX:=hY w _ Y
 obtain ⟨fd,hb,hF⟩:=F w mg fa _ KX G.T.g hmg
 exact qgH KX G.T.g G.T.b G.T.builtins G.T.nolimit hg hobj hints (Nat.le_trans hlen hn2) hr hF hb (λ H hO hS=>⟨a,ns,rfl,hS,hlen,hbits,λ _=>rfl⟩) λ H e s' h=>h
mutual
def ltX:PyData->PyData->Option Bool
 | .int i,.int j=>some (decide (i<j))
 | .tuple xs,.tuple ys=>ltXs xs ys
 | .list xs,.list ys=>ltXs xs ys
 | _,_=>none
def ltXs:List PyData->List PyData->Option Bool
 | [],[]=>some false
 | [],_::_=>some true
 | _::_,[]=>some false
 | x::xs,y::ys=>if PyData.eqv x y=true then ltXs xs ys else ltX x y
end
def LtAt (A:Around)(s:Shared)(y x:Value)(b:Bool):Prop:=∀ (prog:Program) (w:World) (E Q:Value->Shared->Prop),Q (.bool b) s->wpAny (model prog w) A (richCompare .Lt y x) Q E s
def YQ (A:Around)(s:Shared):List Value->List Value->Bool->Prop
 | [],[],r=>r=false
 | [],_::_,r=>r=true
 | _::_,[],r=>r=false
 | y::ys,x::xs,r=>∃ e,SeqAt.EqAt A s y x e/\(e=true->YQ A s ys xs r)/\(e=false->LtAt A s y x r)
section
open PySem.SeqAt
open PySem.AutoSeq1 (wpAny_loadPart')
open PySem.MeetsSeq PySem.MeetsSeq2 PySem.MeetsSeq3
theorem qbs (l b:Addr)(items items2:Array Value)(n n2:Nat)(dd dd2:Option Addr)(sl sl2:Array (Option Value)) :
  Meets (Builtin.«tuple.__lt__» ⟨[.ref l,.ref b],[]⟩)
   (λ A R s=>s.heap.get? l=some { cls:=.type "tuple", dict:=dd,data:=.seq items n,slots:=sl }/\s.heap.get? b=some { cls:=.type "tuple", dict:=dd2,data:=.seq items2 n2,slots:=sl2 }/\
    ∃ r,YQ A.in1 s items.toList items2.toList r/\R (.ok (.ret (.bool r))) s) :=
 .of_wp λ prog w A R s h=>by
  obtain ⟨hp,g,d,tk,os⟩:=s;obtain ⟨hl,hb,r,hx,h⟩:=h
  have f2:=AutoSeq1.sub_tuple_tuple
  wp_walk using wpAny_loadPart' hl,wpAny_loadPart' hb,wpAny_forIn_list _ (λ rest b s'=>b.1=none/\s'=⟨hp,g,d,tk,os⟩/\∃ (vs ws:List Value),rest=vs.zip ws/\
   YQ A.in1 ⟨hp,g,d,tk,os⟩ vs ws r/\vs.length+items2.size=ws.length+items.size) _
  case turn =>
   rintro ⟨y,x⟩ rest b s' ⟨hb',rfl,vs,ws,hz,hlx,hlen⟩
   cases vs with
   | nil=>rw [List.zip_nil_left] at hz;cases hz
   | cons v vs =>
    cases ws with
    | nil=>rw [List.zip_nil_right] at hz;cases hz
    | cons u ws =>
     rw [List.zip_cons_cons] at hz
     injection hz with hyx hrest
     injection hyx with hy hx'
     subst hy hx'
     simp only [List.length_cons] at hlen
     obtain ⟨e,he,h1,h2⟩:=hlx
     refine wpAny_bind (he prog w _ _ ?_)
     cases e with
     | true =>
      wp_walk
      exact ⟨rfl,rfl,_,_,hrest,h1 rfl,by omega⟩
     | false =>
      have hri:=h2 rfl prog w
      wp_walk using hri
      exact ⟨_,rfl,by simpa using h⟩
  case fin =>
   rintro ⟨b1,b2⟩ s' ⟨hb',rfl,vs,ws,hz,hlx,hlen⟩
   simp only at hb'
   subst hb'
   have hv:r=decide (items.size<items2.size):=by
    cases vs with
    | nil =>
     cases ws with
     | nil =>
      simp only [List.length_nil] at hlen
      rw [show r=false from hlx]
      exact (decide_eq_false (by omega)).symm
     | cons c hw =>
      simp only [List.length_nil,List.length_cons] at hlen
      rw [show r=true from hlx]
      exact (decide_eq_true (by omega)).symm
    | cons a hv =>
     cases ws with
     | nil =>
      simp only [List.length_nil,List.length_cons] at hlen
      rw [show r=false from hlx]
      exact (decide_eq_false (by omega)).symm
     | cons c hw =>
      rw [List.zip_cons_cons] at hz
      cases hz
   rw [hv] at h
   wp_walk
   exact ⟨_,rfl,by simpa [Builtin.Tuple.tupleCompareSizes] using h⟩
  case h =>
   exact ⟨rfl,rfl,items.toList,items2.toList,rfl,hx,by simp [Nat.add_comm]⟩
end
theorem qgS {A:Around}{s:Shared}{l b:Addr}{items items2:Array Value}{r:Bool}(hl:IsTup s.heap l items)(hb:IsTup s.heap b items2)(hu:A.units<cLine)(h:YQ A.in1 s items.toList items2.toList r):LtAt A s (.ref l) (.ref b) r:=λ prog w E Q q=>by
 obtain ⟨⟨cls,dd,data,sl⟩,ho,hc,n,hd⟩:=id hl
 obtain ⟨⟨cls2,dd2,data2,sl2⟩,ho2,hc2,n2,hd2⟩:=id hb
 simp only at hc hd hc2 hd2
 subst hc hd hc2 hd2
 exact richCompare_meets_room (op:=.Lt) ⟨_,ho,rfl⟩ ⟨_,ho2,rfl⟩ PySem.F.slot_tuple_lt PySem.F.entry_tuple_lt (PySem.F.args_tuple_lt_2 _ _) (qbs l b items items2 n n2 dd dd2 sl sl2)
  ⟨ho,ho2,r,h,show Value.bool r≠Value.notImplemented/\Q (.bool r) s from ⟨(λ x=>nomatch x),q⟩⟩ hu
section
open PySem.SeqAt
open PySem.AutoSeq1 (wpAny_loadPart')
open PySem.MeetsSeq PySem.MeetsSeq2 PySem.MeetsSeq3
theorem qbc (l b:Addr)(xs ys:Array Value)(n n2:Nat)(dd dd2:Option Addr)(sl sl2:Array (Option Value)):∀ (k i:Nat),xs.size=i+k->i<=ys.size->Meets (Builtin.«list.__eq__.loop» ⟨[.ref l,.ref b,rawInt i,rawInt 0],[]⟩)
   (λ A R s=>s.heap.get? l=some ⟨.type "list", dd,.seq xs n,sl⟩/\s.heap.get? b=some ⟨.type "list", dd2,.seq ys n2,sl2⟩/\∃ r,YQ A.in1 s (xs.toList.drop i) (ys.toList.drop i) r/\R (.ok (.ret (.bool r))) s):=by
 intro k
 induction k with
 | zero =>
  intro i hx hy prog w A R s ⟨hl,hb,r,hq,hR⟩
  obtain ⟨hp,g,d,tk,os⟩:=s
  have e1:xs.toList.drop i=[]:=List.drop_eq_nil_of_le (by rw [Array.length_toList];omega)
  have e2:xs[((i:Nat):Int).toNat]?=none:=by rw [Int.toNat_natCast];exact Array.getElem?_eq_none (by omega)
  rw [e1] at hq
  have hr:r=decide (xs.size<ys.size):=by
   by_cases h:i<ys.size
   ·have e3:ys.toList.drop i=ys[i]::ys.toList.drop (i+1):=by rw [List.drop_eq_getElem_cons (by rw [Array.length_toList];exact h),Array.getElem_toList]
    rw [e3] at hq
    rw [show r=true from hq];exact (decide_eq_true (by omega)).symm
   ·rw [List.drop_eq_nil_of_le (by rw [Array.length_toList];omega)] at hq
    rw [show r=false from hq];exact (decide_eq_false (by omega)).symm
  rw [hr] at hR
  wp_walk using wpAny_loadPart' hl,wpAny_loadPart' hb
  rw [e2]
  wp_walk using wpAny_loadPart' hl,wpAny_loadPart' hb
  exact hR
 | succ k ih =>
  intro i hx hy prog w A R s ⟨hl,hb,r,hq,hR⟩
  obtain ⟨hp,g,d,tk,os⟩:=s
  have h1:i<xs.size:=by omega
  have e1:xs.toList.drop i=xs[i]::xs.toList.drop (i+1):=by rw [List.drop_eq_getElem_cons (by rw [Array.length_toList];exact h1),Array.getElem_toList]
  have e2:xs[((i:Nat):Int).toNat]?=some xs[i]:=by rw [Int.toNat_natCast];exact Array.getElem?_eq_getElem h1
  rw [e1] at hq
  wp_walk using wpAny_loadPart' hl,wpAny_loadPart' hb
  by_cases h2:i<ys.size
  ·have e3:ys.toList.drop i=ys[i]::ys.toList.drop (i+1):=by rw [List.drop_eq_getElem_cons (by rw [Array.length_toList];exact h2),Array.getElem_toList]
   have e4:ys[((i:Nat):Int).toNat]?=some ys[i]:=by rw [Int.toNat_natCast];exact Array.getElem?_eq_getElem h2
   rw [e3] at hq
   obtain ⟨e,he,q1,q2⟩:=hq
   rw [e2,e4]
   refine wpAny_bind (he prog w _ _ ?_)
   cases e with
   | true =>
    wp_walk
    refine ⟨plainId_quiet plain_eq_loop _,codeAny_builtin entry_eq_loop ?_⟩
    rw [Around.under_plainId plain_eq_loop _]
    exact ih (i+1) (by omega) h2 prog w A R _ ⟨hl,hb,r,q1 rfl,hR⟩
   | false =>
    wp_walk using wpAny_loadPart' hl,wpAny_loadPart' hb
    rw [e2,e4]
    have hri:=q2 rfl prog w
    wp_walk using hri
    exact hR
  ·rw [List.drop_eq_nil_of_le (as:=ys.toList) (by rw [Array.length_toList];omega)] at hq
   have e4:ys[((i:Nat):Int).toNat]?=none:=by rw [Int.toNat_natCast];exact Array.getElem?_eq_none (by omega)
   have hr:r=decide (xs.size<ys.size):=by rw [show r=false from hq];exact (decide_eq_false (by omega)).symm
   rw [hr] at hR
   rw [e2,e4]
   wp_walk using wpAny_loadPart' hl,wpAny_loadPart' hb
   exact hR
theorem qb7 (l b:Addr)(xs ys:Array Value)(n n2:Nat)(dd dd2:Option Addr)(sl sl2:Array (Option Value)):Meets (Builtin.«list.__lt__» ⟨[.ref l,.ref b],[]⟩)
   (λ A R s=>s.heap.get? l=some ⟨.type "list", dd,.seq xs n,sl⟩/\s.heap.get? b=some ⟨.type "list", dd2,.seq ys n2,sl2⟩/\∃ r,YQ A.in1 s xs.toList ys.toList r/\R (.ok (.ret (.bool r))) s):=by
 intro prog w A R s ⟨hl,hb,r,hq,hR⟩
 obtain ⟨hp,g,d,tk,os⟩:=s
 have f3:=AutoSeq1.sub_list_list
 wp_walk using wpAny_loadPart' hl,wpAny_loadPart' hb
 refine ⟨plainId_quiet plain_eq_loop _,codeAny_builtin entry_eq_loop ?_⟩
 rw [Around.under_plainId plain_eq_loop _]
 exact qbc l b xs ys n n2 dd dd2 sl sl2 xs.size 0 (Nat.zero_add _).symm (Nat.zero_le _) prog w A R _ ⟨hl,hb,r,hq,hR⟩
end
theorem qfr {A:Around}{s:Shared}{l b:Addr}{o o2:Obj}{xs ys:Array Value}{n n2:Nat}{r:Bool}(h1:s.heap.get? l=some o)(c1:o.cls=.type "list")(d1:o.data=.seq xs n)(h2:s.heap.get? b=some o2)(c2:o2.cls=.type "list")(d2:o2.data=.seq ys n2)(hu:A.units<cLine)(h:YQ A.in1 s xs.toList ys.toList r):LtAt A s (.ref l) (.ref b) r:=λ prog w E Q q=>by
 obtain ⟨cls,dd,data,sl⟩:=o
 obtain ⟨cls2,dd2,data2,sl2⟩:=o2
 simp only at c1 d1 c2 d2
 subst c1 d1 c2 d2
 exact richCompare_meets_room (op:=.Lt) ⟨_,h1,rfl⟩ ⟨_,h2,rfl⟩ PySem.F.slot_list_lt PySem.F.entry_list_lt (PySem.F.args_list_lt_2 _ _) (qb7 l b xs ys n n2 dd dd2 sl sl2)
  ⟨h1,h2,r,h,show Value.bool r≠Value.notImplemented/\Q (.bool r) s from ⟨(λ x=>nomatch x),q⟩⟩ hu
theorem Y8 {A:Around}{s:Shared}{m:Nat}(hu:A.units+m+1<cLine)(hit:∀ (x y:PyData) (a b:Value) (as bs:List Addr) (r:Bool),x.depth<=m->Reads s.heap a x as->Reads s.heap b y bs->x.canLay0=true->y.canLay0=true->ltX x y=some r->LtAt A s a b r) :
  ∀ (xs ys:List PyData) (vs ws:List Value) (as bs:List Addr) (r:Bool),PyData.depthAll xs<=m->ReadsAll s.heap vs xs as->ReadsAll s.heap ws ys bs->PyData.canLayAll0 xs=true->PyData.canLayAll0 ys=true->ltXs xs ys=some r->YQ A s vs ws r:=by
 intro xs
 induction xs with
 | nil =>
  intro ys vs ws as bs r _ h1 h2 _ _ e
  cases h1
  cases ys with
  | nil=>cases h2;rw [ltXs] at e;cases e;rfl
  | cons y ys=>cases h2;rw [ltXs] at e;cases e;rfl
 | cons x xs ih =>
  intro ys vs ws as bs r hm h1 h2 c1 c2 e
  cases h1 with
  | cons rx rxs =>
   cases ys with
   | nil=>cases h2;rw [ltXs] at e;cases e;rfl
   | cons y ys =>
    cases h2 with
    | cons ry rys =>
     have c1':x.canLay0=true/\PyData.canLayAll0 xs=true:=by simpa [PyData.canLayAll0] using c1
     have c2':y.canLay0=true/\PyData.canLayAll0 ys=true:=by simpa [PyData.canLayAll0] using c2
     have hd:max x.depth (PyData.depthAll xs)<=m:=by rw [PyData.depthAll] at hm;exact hm
     have m1:=Nat.le_trans (Nat.le_max_left x.depth (PyData.depthAll xs)) hd
     have m2:=Nat.le_trans (Nat.le_max_right x.depth (PyData.depthAll xs)) hd
     rw [ltXs] at e
     refine ⟨PyData.eqv x y,SeqAt.eqAt_reads x y A s _ _ _ _ rx ry c1'.1 c2'.1 (by have:=Nat.min_le_left x.depth y.depth;omega),λ q=>?_,λ q=>?_⟩
     ·rw [if_pos q] at e
      exact ih ys _ _ _ _ r m2 rxs rys c1'.2 c2'.2 e
     ·rw [if_neg (by rw [q];exact Bool.false_ne_true)] at e
      exact hit x y _ _ _ _ r m1 rx ry c1'.1 c2'.1 e
theorem yf:∀ (n:Nat) (da db:PyData) (A:Around) (s:Shared) (a b:Value) (as bs:List Addr) (r:Bool),da.depth<=n->Reads s.heap a da as->Reads s.heap b db bs->da.canLay0=true->db.canLay0=true->A.units+n+1<cLine->ltX da db=some r->LtAt A s a b r:=by
 intro n
 induction n with
 | zero =>
  intro da db A s a b as bs r hd ra rb ca cb hu e
  cases da with
  | int i =>
   cases db with
   | int j =>
    cases ra;cases rb
    rw [ltX] at e
    cases e
    exact λ prog w E Q q=>HT.qcC A s i _ j _ prog w E Q q
   | _=>simp [ltX] at e
  | tuple xs =>
   rw [PyData.depth] at hd
   omega
  | list xs =>
   rw [PyData.depth] at hd
   omega
  | _=>simp [ltX] at e
 | succ n ih =>
  intro da db A s a b as bs r hd ra rb ca cb hu e
  cases da with
  | int i =>
   cases db with
   | int j =>
    cases ra;cases rb
    rw [ltX] at e
    cases e
    exact λ prog w E Q q=>HT.qcC A s i _ j _ prog w E Q q
   | _=>simp [ltX] at e
  | tuple xs =>
   cases db with
   | tuple ys =>
    rw [PyData.depth] at hd
    rw [ltX] at e
    cases ra with
    | tuple e1 c1 d1 t1 =>
     cases rb with
     | tuple e2 c2 d2 t2 =>
      refine qgS ⟨_,e1,c1,_,d1⟩ ⟨_,e2,c2,_,d2⟩ (by omega) ?_
      exact Y8 (m:=n) (by show A.units+1+n+1<cLine;omega) (λ x y a b as bs r hx r1 r2 k1 k2 e=>ih x y A.in1 s a b as bs r hx r1 r2 k1 k2 (by show A.units+1+n+1<cLine;omega) e)
       xs ys _ _ _ _ r (by omega) t1 t2 (by simpa [PyData.canLay0] using ca) (by simpa [PyData.canLay0] using cb) e
   | _=>simp [ltX] at e
  | list xs =>
   cases db with
   | list ys =>
    rw [PyData.depth] at hd
    rw [ltX] at e
    cases ra with
    | list e1 c1 d1 t1 =>
     cases rb with
     | list e2 c2 d2 t2 =>
      refine qfr e1 c1 d1 e2 c2 d2 (by omega) ?_
      exact Y8 (m:=n) (by show A.units+1+n+1<cLine;omega) (λ x y a b as bs r hx r1 r2 k1 k2 e=>ih x y A.in1 s a b as bs r hx r1 r2 k1 k2 (by show A.units+1+n+1<cLine;omega) e)
       xs ys _ _ _ _ r (by omega) t1 t2 (by simpa [PyData.canLay0] using ca) (by simpa [PyData.canLay0] using cb) e
   | _=>simp [ltX] at e
  | _=>simp [ltX] at e
def ltD2 (x y:PyData):Option PyData:=if SeqAt.shaped x=true/\SeqAt.shaped y=true/\x.depth<=60 then ob (ltX x y) λ r=>some (.bool r) else none
theorem qd4 {X:Cx}{k:Nat}(hr:Room k X.A):OpD X (compareOp .Lt) ltD2:=by
 intro pins s σ H x y v u Q I rx ry ⟨S,dx,dy,d,m,h1,h2,e,q⟩
 unfold ltD2 at e
 split at e
 ·rename_i hc
  obtain ⟨as,q1⟩:=h1.reads I (SeqAt.canLay_of_shaped hc.1) rx
  obtain ⟨bs,q2⟩:=h2.reads I (SeqAt.canLay_of_shaped hc.2.1) ry
  obtain ⟨r,e1,e⟩:=qi e
  cases e
  have hu:=hr.units
  exact yf 60 dx dy X.A s v u as bs r hc.2.2 q1 q2 (SeqAt.canLay_of_shaped hc.1) (SeqAt.canLay_of_shaped hc.2.1) (by omega) e1 X.prog X.w X.xe _ (jX I (q _ H (Same.refl H) (.bool r)) rfl)
 ·cases e
end L2
namespace L2
open PySem PySem.Spec PyProof.Rows PySem.W
def runC {α:Type}(lt:Nat->Nat->Option Bool):KasT α->Option α
 | .ret a=>some a
 | .ask i j k=>ob (lt i j) λ b=>runC lt (k b)
theorem qeF {α:Type}{cmp:Nat->Nat->(Bool->Shared->Prop)->Shared->Prop}{lt:Nat->Nat->Option Bool}{s:Shared}{Q:α->Shared->Prop}(hc:∀ i j b C,lt i j=some b->C b s->cmp i j C s) :
  ∀ (t:KasT α) (a:α),runC lt t=some a->Q a s->t.kasWp cmp Q s
 | .ret x,a,e,q=>by cases e;exact q
 | .ask i j k,a,e,q=>by
  obtain ⟨b,e1,e2⟩:=qi e
  exact hc i j b _ e1 (qeF hc (k b) a e2 q)
section
variable {prog:Program}{w:World}{A:Around}{E:Value->Shared->Prop}{s:Shared}
def Kept (a:Addr)(s s':Shared):Prop:=∀ b o,b≠a->s.heap.get? b=some o->s'.heap.get? b=some o
theorem qdx {a:Addr}{vs:List Value}{n:Nat}{P:PySem.Fin->Shared->Prop}{κ:SortKind}{p:Array Nat}(ho:s.heap.get? a=some (seqObj "list" vs.toArray n))(h2:2<=vs.length)(h64:vs.length<64)
  (hk:∀ (s':Shared) (Q:SortKind->Shared->Prop),Kept a s s'->Q κ s'->wpAny (model prog w) A (keyKind' vs.toArray) Q E s')
  (hr:∀ (s':Shared) (G:Array Nat->Shared->Prop),Kept a s s'->G p s'->(kas_sort vs.length).kasWp (kas_ask prog w A κ vs) G s')
  (h:P (.done (.ret .none)) { s with heap:=sortedHeap s.heap a vs (p.toList.map λ i=>vs.getD i Value.none).toArray }) :
  wpAny (model prog w) A (Builtin.«list.sort» ⟨[.ref a],[]⟩) P E s:=by
 have small:vs.length<=sizeLine:=by rw [sizeLine_eq];omega
 have lt:=Heap.lt_size ho
 obtain ⟨e1,o1⟩:∃ e1,(s.heap.update a (Obj.mapSeq λ _=>#[])).get? a=some (seqObj "list" #[] e1):=⟨_,get?_update_seq ho λ _=>#[]⟩
 rw [list_sort_plain]
 refine wpAny_bind (listItems_at ho rfl (wpAny_bind (listUpdate_at ho rfl (wpAny_bind (seqEpoch_at o1 rfl (wpAny_bind ?_))) (by simpa using small) (Nat.zero_le _))))
 refine wpAny_newTuple (wpAny_bind (wpAny_newList (wpAny_holding ?_) (Nat.zero_le _))) (by simpa using small)
 obtain ⟨h6,hE⟩:∃ h6,h6=((s.heap.update a (Obj.mapSeq λ _=>(#[]:Array Value))).push (seqObj "tuple" vs.toArray 0)).push (seqObj "list" #[] 0):=⟨_,rfl⟩
 have kp:Kept a s { s with heap:=h6 }:=λ b o ne e=>by
  show h6.get? b=some o
  rw [hE]
  refine Heap.get?_push_of_some _ (Heap.get?_push_of_some _ ?_)
  rw [Heap.get?_update_ne _ _ _ _ ne]
  exact e
 have o6:h6.get? a=some (seqObj "list" #[] e1):=by
  rw [hE]
  exact Heap.get?_push_of_some _ (Heap.get?_push_of_some _ o1)
 show wpAny (model prog w) A _ P E { s with heap:=((s.heap.update a (Obj.mapSeq λ _=>(#[]:Array Value))).push (seqObj "tuple" vs.toArray 0)).push (seqObj "list" #[] 0) }
 rw [← hE]
 have n2:¬ vs.toArray.size<2:=by rw [List.size_toArray];omega
 dsimp only
 rw [if_neg n2,if_neg n2]
 refine wpAny_bind (hk _ _ kp ?_)
 refine wpAny_bind (wpAny_mono (kat_run (Q:=λ st' s'=>s'={ s with heap:=h6 }/\arrOf st'=p.map (kas_item (vs.toArray.zip vs.toArray))/\failedOf st'=none/\p.size=vs.length) rfl h2 h64
  (λ p' st' s' z har hf hg=>⟨hg.1,by rw [← hg.2];exact har,hf,by rw [← hg.2];exact z⟩) (hr _ (λ p' s'=>s'={ s with heap:=h6 }/\p'=p) kp ⟨rfl,rfl⟩)) ?_ λ _ _ e=>e)
 rintro ⟨⟨⟩,st'⟩ s' ⟨rfl,har,hf,hz⟩
 dsimp only
 rw [kat_snds rfl har]
 refine wpAny_bind (seqEpoch_at o6 rfl (wpAny_bind (listUpdate_at o6 rfl ?_ (Nat.zero_le _) (by rw [List.size_toArray,List.length_map,Array.length_toList,hz];omega))))
 rw [hf]
 simp only [bne_self_eq_false,Bool.false_eq_true,if_false]
 refine wpAny_pure ?_
 rw [hE]
 exact h
theorem qdy {a:Addr}{vs:List Value}{n:Nat}{P:PySem.Fin->Shared->Prop}(ho:s.heap.get? a=some (seqObj "list" vs.toArray n))(h2:vs.length<2)
  (h:P (.done (.ret .none)) { s with heap:=sortedHeap s.heap a vs vs.toArray }):wpAny (model prog w) A (Builtin.«list.sort» ⟨[.ref a],[]⟩) P E s:=by
 have small:vs.length<=sizeLine:=by rw [sizeLine_eq];omega
 obtain ⟨e1,o1⟩:∃ e1,(s.heap.update a (Obj.mapSeq λ _=>#[])).get? a=some (seqObj "list" #[] e1):=⟨_,get?_update_seq ho λ _=>#[]⟩
 rw [list_sort_plain]
 refine wpAny_bind (listItems_at ho rfl (wpAny_bind (listUpdate_at ho rfl (wpAny_bind (seqEpoch_at o1 rfl (wpAny_bind ?_))) (by simpa using small) (Nat.zero_le _))))
 refine wpAny_newTuple (wpAny_bind (wpAny_newList (wpAny_holding ?_) (Nat.zero_le _))) (by simpa using small)
 obtain ⟨h6,hE⟩:∃ h6,h6=((s.heap.update a (Obj.mapSeq λ _=>(#[]:Array Value))).push (seqObj "tuple" vs.toArray 0)).push (seqObj "list" #[] 0):=⟨_,rfl⟩
 have o6:h6.get? a=some (seqObj "list" #[] e1):=by
  rw [hE]
  exact Heap.get?_push_of_some _ (Heap.get?_push_of_some _ o1)
 show wpAny (model prog w) A _ P E { s with heap:=((s.heap.update a (Obj.mapSeq λ _=>(#[]:Array Value))).push (seqObj "tuple" vs.toArray 0)).push (seqObj "list" #[] 0) }
 rw [← hE]
 have n2:vs.toArray.size<2:=by rw [List.size_toArray];omega
 dsimp only
 rw [if_pos n2,if_pos n2]
 refine wpAny_bind (wpAny_pure ?_)
 rw [StateT.run_pure]
 refine wpAny_bind (wpAny_pure ?_)
 dsimp only
 have eo:Array.map (λ x=>x.2) (vs.toArray.zip vs.toArray)=vs.toArray:=by
  apply Array.toList_inj.mp
  simp [List.map_snd_zip]
 show wpAny (model prog w) A (seqEpoch a >>= _) P E { s with heap:=h6 }
 refine wpAny_bind (seqEpoch_at o6 rfl (wpAny_bind ?_))
 rw [show Array.map (λ x=>x.2) (arrOf (SortSt.mk' general' (vs.toArray.zip vs.toArray) #[] 7 none))=vs.toArray from eo]
 refine listUpdate_at o6 rfl ?_ (Nat.zero_le _) (by rw [List.size_toArray];omega)
 simp only [bne_self_eq_false,Bool.false_eq_true,if_false]
 refine wpAny_pure ?_
 rw [hE]
 exact h
theorem qbo {l:Addr}{vs:List Value}{Q:Value->Shared->Prop}{κ:SortKind}{p:Array Nat}(hl:s.heap.IsList l vs.toArray)(h2:2<=vs.length)(h64:vs.length<64)
  (hk:∀ (s':Shared) (Q:SortKind->Shared->Prop),(∀ b o,s.heap.get? b=some o->s'.heap.get? b=some o)->Q κ s'->wpAny (model prog w) A.in1.in1 (keyKind' vs.toArray) Q (λ _ _=>False) s')
  (hr:∀ (s':Shared) (G:Array Nat->Shared->Prop),(∀ b o,s.heap.get? b=some o->s'.heap.get? b=some o)->G p s'->(kas_sort vs.length).kasWp (kas_ask prog w A.in1.in1 κ vs) G s')
  (h:Q (.ref (s.heap.objs.size+1)) { s with heap:=sortedAll s.heap vs (p.toList.map λ i=>vs.getD i Value.none).toArray }) :
  wpAny (model prog w) A (call (.builtin "sorted") [.ref l]) Q E s:=by
 have small:vs.length<=sizeLine:=by rw [sizeLine_eq];omega
 refine Calls.call_function_entry kind_sorted plain_sorted entry_sorted (args_sorted1 _) ?_
 unfold Builtin.«sorted»
 refine wpAny_bind (m:=checkCount "sorted" 1 1 _) (wpAny_pure (wpAny_bind (collect_list hl (wpAny_bind (wpAny_newList ?_ (by simpa using small))) (by simpa using small))))
 have zz:((s.heap.push (seqObj "list" #[] 0)).update s.heap.objs.size (Obj.mapSeq (·++vs.toArray))).objs.size=s.heap.objs.size+1:=by rw [Heap.size_update,size_push']
 obtain ⟨h3,hH⟩:∃ h3,h3=((s.heap.push (seqObj "list" #[] 0)).update s.heap.objs.size (Obj.mapSeq (·++vs.toArray))).push (seqObj "list" vs.toArray 0):=⟨_,rfl⟩
 have oL:h3.get? (s.heap.objs.size+1)=some (seqObj "list" vs.toArray 0):=by
  rw [hH,← zz]
  exact Heap.get?_push_size _ rfl
 have keep:∀ b o,s.heap.get? b=some o->h3.get? b=some o:=λ b o e=>by
  rw [hH]
  have hlt:=Heap.lt_size e
  refine Heap.get?_push_of_some _ ?_
  rw [Heap.get?_update_ne _ _ _ _ (Nat.ne_of_lt hlt)]
  exact Heap.get?_push_of_some _ e
 show wpAny _ _ _ _ _ { s with heap:=((s.heap.push (seqObj "list" #[] 0)).update s.heap.objs.size (Obj.mapSeq (·++vs.toArray))).push (seqObj "list" vs.toArray 0) }
 rw [zz,← hH]
 have k2:∀ s':Shared,Kept (s.heap.objs.size+1) { s with heap:=h3 } s'->∀ b o,s.heap.get? b=some o->s'.heap.get? b=some o:=λ s' kp b o e=>kp b o (Nat.ne_of_lt (Nat.lt_succ_of_lt (Heap.lt_size e))) (keep b o e)
 refine wpAny_bind (wpAny_holding (wpAny_call_entry slot_list_sort ⟨_,oL,rfl⟩ entry_list_sort (qdx (κ:=κ) (p:=p) oL h2 h64 (λ s' Q kp q=>wpAny_mono (hk s' Q (k2 s' kp) q) (λ _ _ z=>z) λ _ _ z=>z.elim) (λ s' G kp q=>hr s' G (k2 s' kp) q) ⟨_,rfl,?_⟩) (args_list_sort _)))
 refine wpAny_pure ⟨_,rfl,?_⟩
 have hA:sortedHeap h3 (s.heap.objs.size+1) vs (p.toList.map λ i=>vs.getD i Value.none).toArray=sortedAll s.heap vs (p.toList.map λ i=>vs.getD i Value.none).toArray:=by
  rw [hH]
  rfl
 rw [hA]
 exact h
theorem qbp {l:Addr}{vs:List Value}{Q:Value->Shared->Prop}(hl:s.heap.IsList l vs.toArray)(h2:vs.length<2)
  (h:Q (.ref (s.heap.objs.size+1)) { s with heap:=sortedAll s.heap vs vs.toArray }) :
  wpAny (model prog w) A (call (.builtin "sorted") [.ref l]) Q E s:=by
 have small:vs.length<=sizeLine:=by rw [sizeLine_eq];omega
 refine Calls.call_function_entry kind_sorted plain_sorted entry_sorted (args_sorted1 _) ?_
 unfold Builtin.«sorted»
 refine wpAny_bind (m:=checkCount "sorted" 1 1 _) (wpAny_pure (wpAny_bind (collect_list hl (wpAny_bind (wpAny_newList ?_ (by simpa using small))) (by simpa using small))))
 have zz:((s.heap.push (seqObj "list" #[] 0)).update s.heap.objs.size (Obj.mapSeq (·++vs.toArray))).objs.size=s.heap.objs.size+1:=by rw [Heap.size_update,size_push']
 obtain ⟨h3,hH⟩:∃ h3,h3=((s.heap.push (seqObj "list" #[] 0)).update s.heap.objs.size (Obj.mapSeq (·++vs.toArray))).push (seqObj "list" vs.toArray 0):=⟨_,rfl⟩
 have oL:h3.get? (s.heap.objs.size+1)=some (seqObj "list" vs.toArray 0):=by
  rw [hH,← zz]
  exact Heap.get?_push_size _ rfl
 show wpAny _ _ _ _ _ { s with heap:=((s.heap.push (seqObj "list" #[] 0)).update s.heap.objs.size (Obj.mapSeq (·++vs.toArray))).push (seqObj "list" vs.toArray 0) }
 rw [zz,← hH]
 refine wpAny_bind (wpAny_holding (wpAny_call_entry slot_list_sort ⟨_,oL,rfl⟩ entry_list_sort (qdy oL h2 ⟨_,rfl,?_⟩) (args_list_sort _)))
 refine wpAny_pure ⟨_,rfl,?_⟩
 have hA:sortedHeap h3 (s.heap.objs.size+1) vs vs.toArray=sortedAll s.heap vs vs.toArray:=by
  rw [hH]
  rfl
 rw [hA]
 exact h
end
def qb9 (ds:List PyData)(i j:Nat):Option Bool:=match ds[i]?,ds[j]? with
 | some x,some y=>ltX x y
 | _,_=>none
def keyD:PyData->Nat
 | .tuple (.int _::_)=>0
 | .tuple (.tuple _::_)=>1
 | .int _=>2
 | _=>3
def qct (ds:List PyData)(p:Array Nat):Option PyData:=if (p.toList.all λ i=>decide (i<ds.length))=true/\p.toList.length<=1000 then some (.list (p.toList.map λ i=>ds.getD i .none)) else none
def jy (k:Nat)(ds:List PyData):Bool:=(ds.all λ d=>keyD d==k)&&(decide (2<=ds.length)&&(decide (ds.length<64)&&(PyData.canLayAll0 ds&&decide (PyData.depthAll ds<=50))))
def Qg:List PyData->Option PyData
 | [.list ds]=>if ds.length<2 then some (.list ds) else if jy 0 ds=true\/jy 1 ds=true then ob (runC (qb9 ds) (kas_sort ds.length)) λ p=>qct ds p else none
 | _=>none
section
variable {prog:Program}{w:World}{A:Around}{s:Shared}
theorem qa9 {b fin:Bool}{m:Nat}{Q:Bool->Shared->Prop}{r:Bool}(hu:A.units+m+1<cLine)(q:Q r s) :
  ∀ (xs ys:List PyData) (vs ws:List Value) (as bs:List Addr) (i:Nat),PyData.depthAll xs<=m->ReadsAll s.heap vs xs as->ReadsAll s.heap ws ys bs->PyData.canLayAll0 xs=true->PyData.canLayAll0 ys=true->ltXs xs ys=some r->
   (b=true->i=0->∀ x y,xs.head?=some x->ys.head?=some y->∃ n k,x=.int n/\y=.int k)->fin=decide (xs.length<ys.length)->KatLex prog w A b fin Q (vs.zip ws) i s:=by
 intro xs
 induction xs with
 | nil =>
  intro ys vs ws as bs i _ h1 h2 _ _ e _ hf
  cases h1
  rw [List.zip_nil_left]
  refine kat_nil ?_
  cases ys with
  | nil=>rw [ltXs] at e;cases e;rw [hf];simpa using q
  | cons y ys=>rw [ltXs] at e;cases e;rw [hf];simpa using q
 | cons x xs ih =>
  intro ys vs ws as bs i hm h1 h2 c1 c2 e hb hf
  cases h1 with
  | cons rx rxs =>
   cases ys with
   | nil =>
    cases h2
    rw [List.zip_nil_right]
    refine kat_nil ?_
    rw [ltXs] at e;cases e;rw [hf];simpa using q
   | cons y ys =>
    cases h2 with
    | cons ry rys =>
     have c1':x.canLay0=true/\PyData.canLayAll0 xs=true:=by simpa [PyData.canLayAll0] using c1
     have c2':y.canLay0=true/\PyData.canLayAll0 ys=true:=by simpa [PyData.canLayAll0] using c2
     have hd:max x.depth (PyData.depthAll xs)<=m:=by rw [PyData.depthAll] at hm;exact hm
     have m1:=Nat.le_trans (Nat.le_max_left x.depth (PyData.depthAll xs)) hd
     have m2:=Nat.le_trans (Nat.le_max_right x.depth (PyData.depthAll xs)) hd
     rw [ltXs] at e
     rw [List.zip_cons_cons]
     refine kat_cons (SeqAt.eqAt_reads x y A s _ _ _ _ rx ry c1'.1 c2'.1 (by have:=Nat.min_le_left x.depth y.depth;omega) prog w _ _ (kat_go (λ z=>?_) λ z=>?_))
     ·rw [if_pos z] at e
      refine kat_yes (ih ys _ _ _ _ (i+1) m2 rxs rys c1'.2 c2'.2 e (λ _ z=>by omega) ?_)
      rw [hf,List.length_cons,List.length_cons]
      exact decide_eq_decide.mpr (by omega)
     ·rw [if_neg (by rw [z];exact Bool.false_ne_true)] at e
      refine kat_no ?_
      cases hbi:(b&&i==0) with
      | true =>
       rw [Bool.and_eq_true] at hbi
       obtain ⟨n,k,rfl,rfl⟩:=hb hbi.1 (by simpa using hbi.2) x y rfl rfl
       cases rx;cases ry
       rw [ltX] at e
       cases e
       exact oneLt_int q
      | false =>
       exact kat_one _ _ (yf m x y A s _ _ _ _ r m1 rx ry c1'.1 c2'.1 hu e prog w _ _ q)
theorem Yh {h:Heap}:∀ {vs:List Value} {ds:List PyData} {as:List Addr},ReadsAll h vs ds as->vs.length=ds.length
 | _,_,_,.nil=>rfl
 | _,_,_,.cons _ t=>by rw [List.length_cons,List.length_cons,Yh t]
theorem Yg {h:Heap}:∀ {vs:List Value} {ds:List PyData} {as:List Addr} {i:Nat} {d:PyData},ReadsAll h vs ds as->ds[i]?=some d->∃ v bs,vs[i]?=some v/\Reads h v d bs
 | _,_,_,_,_,.nil,e=>by simp at e
 | _,_,_,0,_,.cons r _,e=>by simp at e;subst e;exact ⟨_,_,rfl,r⟩
 | _,_,_,i+1,d,.cons _ t,e=>by
  obtain ⟨v,bs,h1,h2⟩:=Yg (i:=i) (d:=d) t (by simpa using e)
  exact ⟨v,bs,by simpa using h1,h2⟩
theorem J7:∀ {ds:List PyData} {i:Nat} {d:PyData},PyData.canLayAll0 ds=true->ds[i]?=some d->d.canLay0=true/\d.depth<=PyData.depthAll ds
 | [],_,_,_,e=>by simp at e
 | x::xs,0,d,h,e=>by
  have h':x.canLay0=true/\PyData.canLayAll0 xs=true:=by simpa [PyData.canLayAll0] using h
  simp at e
  subst e
  exact ⟨h'.1,by rw [PyData.depthAll];exact Nat.le_max_left _ _⟩
 | x::xs,i+1,d,h,e=>by
  have h':x.canLay0=true/\PyData.canLayAll0 xs=true:=by simpa [PyData.canLayAll0] using h
  obtain ⟨h1,h2⟩:=J7 (i:=i) (d:=d) h'.2 (by simpa using e)
  exact ⟨h1,Nat.le_trans h2 (by rw [PyData.depthAll];exact Nat.le_max_right _ _)⟩
theorem Wk {h:Heap}{k:Nat}(hk:k<2):∀ {vs:List Value} {ds:List PyData} {as:List Addr},ReadsAll h vs ds as->(ds.all λ d=>keyD d==k)=true->∃ fs:List Value,KatTups h vs fs/\fs.length=vs.length/\∀ (M:Model),∀ f∈fs,Looks M h (typeOf f) (if k=0 then Value.type "int" else Value.type "tuple")
 | _,_,_,.nil,_=>⟨[],trivial,rfl,λ _ _ z=>nomatch z⟩
 | _,d::ds,_,.cons (d:=_) r t,e=>by
  rw [List.all_cons,Bool.and_eq_true] at e
  obtain ⟨fs,h1,h2,h3⟩:=Wk hk t e.2
  have e1:keyD d=k:=by simpa using e.1
  cases d with
  | tuple xs =>
   cases r with
   | @tuple a o its n xs' as' g1 g2 g3 g4 =>
    cases xs with
    | nil=>rw [show keyD (.tuple [])=3 from rfl] at e1;omega
    | cons x xs =>
     obtain ⟨v,rv,q1,rx⟩:=Yg (i:=0) g4 rfl
     have h0:its[0]?=some v:=by rw [← Array.getElem?_toList];exact q1
     refine ⟨v::fs,KatTups.cons g1 g2 g3 h0 h1,by rw [List.length_cons,List.length_cons,h2],λ M f hf=>?_⟩
     rcases List.mem_cons.mp hf with rfl|hf
     ·cases x with
      | int n =>
       cases rx
       rw [show keyD (.tuple (.int n::xs))=0 from rfl] at e1
       rw [if_pos e1.symm]
       exact Looks.of_pure rfl
      | tuple ys =>
       rw [show keyD (.tuple (.tuple ys::xs))=1 from rfl] at e1
       cases rx with
       | tuple k1 k2 k3 k4 =>
        rw [if_neg (by omega),← k2]
        exact (Looks.ld k1).andThen .now
      | none=>rw [show keyD (.tuple (.none::xs))=3 from rfl] at e1;omega
      | bool _=>rw [show keyD (.tuple (.bool _::xs))=3 from rfl] at e1;omega
      | str _=>rw [show keyD (.tuple (.str _::xs))=3 from rfl] at e1;omega
      | list _=>rw [show keyD (.tuple (.list _::xs))=3 from rfl] at e1;omega
      | dict _=>rw [show keyD (.tuple (.dict _::xs))=3 from rfl] at e1;omega
     ·exact h3 M f hf
  | int n=>rw [show keyD (.int n)=2 from rfl] at e1;omega
  | none=>rw [show keyD .none=3 from rfl] at e1;omega
  | bool _=>rw [show keyD (.bool _)=3 from rfl] at e1;omega
  | str _=>rw [show keyD (.str _)=3 from rfl] at e1;omega
  | list _=>rw [show keyD (.list _)=3 from rfl] at e1;omega
  | dict _=>rw [show keyD (.dict _)=3 from rfl] at e1;omega
end
section
variable {h h':Heap}
mutual
theorem qfD (k:∀ b o,h.get? b=some o->h'.get? b=some o):∀ {d:PyData} {v:Value} {as:List Addr},Reads h v d as->d.canLay0=true->Reads h' v d as
 | .none,_,_,r,_=>by cases r;exact .none
 | .bool _,_,_,r,_=>by cases r;exact .bool _
 | .int _,_,_,r,_=>by cases r;exact .int _ _
 | .str _,_,_,r,_=>by cases r;exact .str _ _
 | .list xs,_,_,r,c=>by
  cases r with
  | list e q g t=>exact .list (k _ _ e) q g (Zv k t (by simpa [PyData.canLay0] using c))
 | .tuple xs,_,_,r,c=>by
  cases r with
  | tuple e q g t=>exact .tuple (k _ _ e) q g (Zv k t (by simpa [PyData.canLay0] using c))
 | .dict _,_,_,_,c=>by simp [PyData.canLay0] at c
theorem Zv (k:∀ b o,h.get? b=some o->h'.get? b=some o):∀ {ds:List PyData} {vs:List Value} {as:List Addr},ReadsAll h vs ds as->PyData.canLayAll0 ds=true->ReadsAll h' vs ds as
 | [],_,_,r,_=>by cases r;exact .nil
 | d::ds,_,_,r,c=>by
  have c':d.canLay0=true/\PyData.canLayAll0 ds=true:=by simpa [PyData.canLayAll0] using c
  cases r with
  | cons r t=>exact .cons (qfD k r c'.1) (Zv k t c'.2)
end
end
theorem qgU {x y:PyData}{r:Bool}(hx:keyD x<2)(e:ltX x y=some r):∃ xs ys,x=.tuple xs/\y=.tuple ys/\ltXs xs ys=some r:=by
 cases x with
 | tuple xs =>
  cases y with
  | tuple ys=>rw [ltX] at e;exact ⟨xs,ys,rfl,rfl,e⟩
  | _=>simp [ltX] at e
 | int n=>simp [keyD] at hx
 | list xs=>simp [keyD] at hx
 | _=>simp [ltX] at e
theorem qac {k:Nat}{xs:List PyData}(e:keyD (.tuple xs)=k)(h0:k=0):∀ x,xs.head?=some x->∃ n,x=.int n:=by
 intro x hx
 cases xs with
 | nil=>cases hx
 | cons y ys =>
  cases hx
  cases x with
  | int n=>exact ⟨n,rfl⟩
  | _=>(first|(simp [keyD] at e;omega)|(simp only [keyD] at e;omega))
theorem getD_some {α:Type}{xs:List α}{i:Nat}{x d:α}(e:xs[i]?=some x):xs.getD i d=x:=by rw [List.getD_eq_getElem?_getD,e];rfl
theorem jH {X:Cx}{k:Nat}(hr:Room k X.A):qbt X (.builtin "sorted") Qg:=by
 intro pins s σ H xs us Q I r ⟨S,ds,d,m,h1,e,q⟩
 unfold Qg at e
 split at e
 ·rename_i ds
  split at e
  ·rename_i hlt
   cases e
   obtain ⟨v,rfl,hv⟩:=h1.inv1
   obtain ⟨a,ys,rfl,hs,ht⟩:=hv.list_inv
   obtain ⟨u,rfl,ru⟩:=vals1 r
   cases (show u=Value.ref a from ru)
   obtain ⟨its,rv,pl,hz⟩:=I.list hs.sq
   have hlen:=rv.length
   have hl2:=ht.length
   refine qbp pl.isList (by omega) ?_
   obtain ⟨en,ob⟩:=sortedAll_at s.heap its its.toArray
   have hfr:H (s.heap.objs.size+1)=none:=I.hok.fresh (Nat.le_succ _)
   exact ⟨.ref (s.heap.objs.size+1),_,I.laid (t':=s.toks) (o:=.lst ys) (λ b o e=>sortedAll_old e) (Nat.le_succ _) ⟨hz,_,en,rv,ob⟩,rfl,q _ _ (Same.lay hfr) hfr (OwnO.laid hfr ht)⟩
  split at e
  ·rename_i hok
   obtain ⟨p,e1,e2⟩:=qi e
   obtain ⟨v,rfl,hv⟩:=h1.inv1
   obtain ⟨a,ys,rfl,hs,ht⟩:=hv.list_inv
   obtain ⟨u,rfl,ru⟩:=vals1 r
   cases (show u=Value.ref a from ru)
   obtain ⟨its,rv,pl,hz⟩:=I.list hs.sq
   obtain ⟨kk,hk2,hk⟩:∃ kk,kk<2/\jy kk ds=true:=hok.elim (λ z=>⟨0,by decide,z⟩) λ z=>⟨1,by decide,z⟩
   unfold jy at hk
   simp only [Bool.and_eq_true,decide_eq_true_eq] at hk
   obtain ⟨hall,l2,l64,hcan,hdep⟩:=hk
   obtain ⟨as,ra⟩:=ht.reads I hcan rv
   have hlen:=Yh ra
   unfold qct at e2
   split at e2
   ·rename_i hin
    cases e2
    have hin':∀ i∈p.toList,i<ds.length:=λ i hi=>by
     have:=List.all_eq_true.mp hin.1 i hi
     simpa using this
    have hu:=hr.units
    obtain ⟨T,hT⟩:∃ T,T=(if kk=0 then Value.type "int" else Value.type "tuple"):=⟨_,rfl⟩
    have hT2:(T==T)=true:=by rw [hT];split<;>rfl
    have hb:(T != Value.type "tuple")=true->kk=0:=λ z=>by
     rw [hT] at z
     by_cases h0:kk=0
     ·exact h0
     ·rw [if_neg h0] at z;exact absurd z (by decide)
    refine qbo (κ:=tuples' (T != Value.type "tuple")) (p:=p) pl.isList (by omega) (by omega) (λ s' Q' keep q'=>?_) (λ s' G keep g=>?_) ?_
    ·obtain ⟨fs,t1,t2,t3⟩:=Wk hk2 (Zv keep ra hcan) hall
     exact kat_kind t1 (by omega) (λ f hf=>by rw [hT];exact t3 _ f hf) hT2 q'
    ·have ra':=Zv keep ra hcan
     rw [hlen]
     refine qeF (λ i j b C el hC=>?_) _ p e1 g
     unfold qb9 at el
     split at el
     ·rename_i x y ex ey
      obtain ⟨vx,bx,gx,rx⟩:=Yg ra' ex
      obtain ⟨vy,byy,gy,ry⟩:=Yg ra' ey
      obtain ⟨cx,dx⟩:=J7 hcan ex
      obtain ⟨cy,dy⟩:=J7 hcan ey
      have kx:keyD x=kk:=by
       have:=List.all_eq_true.mp hall x (List.mem_of_getElem? ex)
       simpa using this
      have ky:keyD y=kk:=by
       have:=List.all_eq_true.mp hall y (List.mem_of_getElem? ey)
       simpa using this
      obtain ⟨xs,ys',rfl,rfl,elx⟩:=qgU (by omega) el
      show kas_ask X.prog X.w X.A.in1.in1 _ its i j C s'
      unfold kas_ask
      rw [getD_some gx,getD_some gy]
      cases rx with
      | @tuple ax ox ax1 nx _ _ x1 x2 x3 x4 =>
       cases ry with
       | @tuple ay oy ay1 ny _ _ y1 y2 y3 y4 =>
        have dxs:PyData.depthAll xs<=50:=by rw [PyData.depth] at dx;omega
        refine kat_lt x1 x3 y1 y3 (qa9 (m:=50) (by show X.A.units+1+1+50+1<cLine;omega) hC xs ys' _ _ _ _ 0 dxs x4 y4 (by simpa [PyData.canLay0] using cx) (by simpa [PyData.canLay0] using cy) elx (λ hbb _ x y hx hy=>?_) ?_)
        ·have h0:=hb hbb
         obtain ⟨n1,rfl⟩:=qac kx h0 x hx
         obtain ⟨n2,rfl⟩:=qac ky h0 y hy
         exact ⟨n1,n2,rfl,rfl⟩
        ·have z1:=Yh x4
         have z2:=Yh y4
         rw [Array.length_toList] at z1 z2
         rw [z1,z2]
     ·cases el
    ·obtain ⟨en,ob⟩:=sortedAll_at s.heap its (p.toList.map λ i=>its.getD i Value.none).toArray
     have hfr:H (s.heap.objs.size+1)=none:=I.hok.fresh (Nat.le_succ _)
     have dl:DenL X.K H S (p.toList.map λ i=>ys.getD i .non) (p.toList.map λ i=>ds.getD i .none):=by
      generalize p.toList=pl at hin'
      induction pl with
      | nil=>exact .nil
      | cons i pl ih =>
       have hi:=hin' i (.head _)
       obtain ⟨vy,gy,dy⟩:=ht.get (List.getElem?_eq_getElem hi)
       rw [List.map_cons,List.map_cons,getD_some gy,getD_some (List.getElem?_eq_getElem hi)]
       exact .cons dy (ih λ j hj=>hin' j (.tail _ hj))
     have vl:Vals (p.toList.map λ i=>ys.getD i .non) (p.toList.map λ i=>its.getD i Value.none):=by
      generalize p.toList=pl at hin'
      induction pl with
      | nil=>exact .nil
      | cons i pl ih =>
       have hi:i<ys.length:=by rw [ht.length];exact hin' i (.head _)
       obtain ⟨w,gw,rw'⟩:=rv.get (List.getElem?_eq_getElem hi)
       rw [List.map_cons,List.map_cons,getD_some (List.getElem?_eq_getElem hi),getD_some gw]
       exact .cons rw' (ih λ j hj=>hin' j (.tail _ hj))
     have zz:(p.toList.map λ i=>ys.getD i V.non).length<=sizeLine:=by rw [List.length_map];exact Nat.le_of_lt (zX hin.2)
     refine ⟨.ref (s.heap.objs.size+1),_,I.laid (t':=s.toks) (o:=.lst (p.toList.map λ i=>ys.getD i .non)) (λ b o e=>sortedAll_old e) (Nat.le_succ _) ⟨zz,_,en,vl,ob⟩,rfl,q _ _ (Same.lay hfr) hfr (OwnO.laid hfr dl)⟩
   ·cases e2
  ·cases e
 ·cases e
end L2
namespace L2
open PySem PySem.Spec PyProof.Rows
def J5 (K:W.Frag)(mg:Str->Option Value)(x:Str)(d:PyData):Prop:=∃ v u,mg x=some u/\RelV v u/\∀ H S,Den K H S v d
theorem Ye {X:Cx}{M:List Nat}{x:Str}{d:PyData}{pos:Pos}(C:J5 X.K X.mg x d)(hg:Gl X x)(hdb:(x==("__debug__" : Str))=false:=by kernel_rfl):PD X M (.Name x pos) (kd d):=by
 obtain ⟨v,u,m,r,hd⟩:=C
 exact qiI hg m r hd hdb
end L2
namespace L2
open PySem
theorem QL:bootBuiltins "sorted" = some (.builtin "sorted"):=by decide +kernel
end L2
namespace L2
open PySem PySem.Spec PyProof.Rows
theorem ob_s {α β:Type}(x:α)(f:α->Option β):ob (some x) f=f x:=rfl
theorem vr_z (o:Option PyData)(ρ:Rho):vr 0 (o::ρ)=o:=rfl
theorem vr_s (n:Nat)(o:Option PyData)(ρ:Rho):vr (n+1) (o::ρ)=vr n ρ:=rfl
theorem atI0 {α:Type}(x:α)(xs:List α):atI (x::xs) 0=some x:=by simp [atI,ixN]
theorem Jg {α:Type}(x:α)(xs:List α)(k:Nat):atI (x::xs) ((k:Int)+1)=atI xs (k:Int):=by
 unfold atI ixN
 have h1:(0:Int)<=(k:Int)+1:=by omega
 have h2:(0:Int)<=(k:Int):=by omega
 rw [if_pos h1,if_pos h2]
 by_cases h:(k:Int)<xs.length
 ·have h':(k:Int)+1<((x::xs).length:Int):=by rw [List.length_cons];omega
  rw [if_pos h,if_pos h']
  have e1:((k:Int)+1).toNat=k+1:=by omega
  have e2:(k:Int).toNat=k:=by omega
  rw [e1,e2]
  rfl
 ·have h':¬ (k:Int)+1<((x::xs).length:Int):=by rw [List.length_cons];omega
  rw [if_neg h,if_neg h']
  rfl
theorem atI1 {α:Type}(x y:α)(xs:List α):atI (x::y::xs) 1=some y:=(Jg x (y::xs) 0).trans (atI0 y xs)
theorem atI2 {α:Type}(x y z:α)(xs:List α):atI (x::y::z::xs) 2=some z:=(Jg x (y::z::xs) 1).trans (atI1 y z xs)
theorem atI3 {α:Type}(x y z a:α)(xs:List α):atI (x::y::z::a::xs) 3=some a:=(Jg x (y::z::a::xs) 2).trans (atI2 y z a xs)
theorem atI4 {α:Type}(x y z a b:α)(xs:List α):atI (x::y::z::a::b::xs) 4=some b:=(Jg x (y::z::a::b::xs) 3).trans (atI3 y z a b xs)
theorem atI5 {α:Type}(x y z a b c:α)(xs:List α):atI (x::y::z::a::b::c::xs) 5=some c:=(Jg x (y::z::a::b::c::xs) 4).trans (atI4 y z a b c xs)
theorem zB {i j:Int}(h:IntMulOk i j):mulD (.int i) (.int j)=some (.int (i*j)):=by
 show (if IntMulOk i j then some (PyData.int (i*j)) else none)=_
 rw [if_pos h]
def Bd (n:Nat)(i:Int):Prop:=Builtin.Int.intBits i<=n
theorem Bd.ok {n m:Nat}{i j:Int}(h:Bd n i)(g:Bd m j)(e:n+m<=134217728:=by decide):IntMulOk i j:=IntMulOk.of_le h g e
theorem Bd.of {n:Nat}{i:Int}(h:i.natAbs<2 ^ n):Bd n i:=intBits_le_iff.mpr h
theorem natLit (n:Nat):((no_index (OfNat.ofNat n):Nat):Int)=(OfNat.ofNat n:Int):=rfl
theorem qh6 (i j:Int):eqD (.int i) (.int j)=some (.bool (i==j)):=rfl
theorem wG (i j:Int):neD (.int i) (.int j)=some (.bool (!(i==j))):=rfl
theorem pow_a:powD (.int 7919) (.int 8)=some (.int (7919 ^ 8)):=rfl
theorem pow_b:powD (.int 10) (.int 30)=some (.int (10 ^ 30)):=rfl
theorem qeq (i:Int){j:Int}(h:0<j):modD (.int i) (.int j)=some (.int (i % j)):=by
 show (if 0<j then some (PyData.int (i % j)) else none)=_
 rw [if_pos h]
theorem qgl (i:Int){j:Int}(h:0<j)(h2:j<1073741824):QT (.int i) (.int j)=some (.int (i / j)):=by
 show (if CDiv i j then some (PyData.int (i / j)) else none)=_
 rw [if_pos ⟨h,h2⟩]
def wR (o:Option Out)(w:Rho->Option Out):Option Out:=match o with | some (.nx ρ')=>w ρ'|o=>o
theorem qkV (u w:Rho->Option Out)(ρ:Rho):seqO u w ρ=wR (u ρ) w:=by
 unfold seqO ob wR
 cases u ρ with
 | none=>rfl
 | some o=>cases o<;>rfl
theorem qfV (ρ:Rho)(w:Rho->Option Out):wR (some (.nx ρ)) w=w ρ:=rfl
theorem qfW (d:PyData)(w:Rho->Option Out):wR (some (.rt d)) w=some (.rt d):=rfl
theorem qfT (ρ:Rho)(w:Rho->Option Out):wR (some (.bk ρ)) w=some (.bk ρ):=rfl
theorem qfU (ρ:Rho)(w:Rho->Option Out):wR (some (.ct ρ)) w=some (.ct ρ):=rfl
def ifO {α:Type}(b:Option Bool)(u w:Rho->Option α)(ρ:Rho):Option α:=match b with | some true=>u ρ|some false=>w ρ|none=>none
theorem ifO_t {α:Type}(u w:Rho->Option α)(ρ:Rho):ifO (some true) u w ρ=u ρ:=rfl
theorem ifO_f {α:Type}(u w:Rho->Option α)(ρ:Rho):ifO (some false) u w ρ=w ρ:=rfl
theorem sIf_b (p:Rho->Option Bool)(u w:Rho->Option Out)(ρ:Rho):sIf p u w ρ=ifO (p ρ) u w ρ:=by
 unfold sIf ob ifO
 cases p ρ with
 | none=>rfl
 | some b=>cases b<;>rfl
theorem vIf_b (p:Rho->Option Bool)(u w:Rho->Option PyData)(ρ:Rho):vIf p u w ρ=ifO (p ρ) u w ρ:=by
 unfold vIf ob ifO
 cases p ρ with
 | none=>rfl
 | some b=>cases b<;>rfl
theorem tA_b (p q:Rho->Option Bool)(ρ:Rho):tA p q ρ=ifO (p ρ) q (λ _=>some false) ρ:=by
 unfold tA ob ifO
 cases p ρ with
 | none=>rfl
 | some b=>cases b<;>rfl
theorem tO_b (p q:Rho->Option Bool)(ρ:Rho):tO p q ρ=ifO (p ρ) (λ _=>some true) q ρ:=by
 unfold tO ob ifO
 cases p ρ with
 | none=>rfl
 | some b=>cases b<;>rfl
theorem vA_b (f g:Rho->Option PyData)(ρ:Rho):vA f g ρ=ifO (ob (f ρ) Jh) g (λ _=>some (.bool false)) ρ:=by
 unfold vA ob ifO
 cases f ρ with
 | none=>rfl
 | some x =>
  dsimp only
  cases Jh x with
  | none=>rfl
  | some b=>cases b<;>rfl
def setO (o:Option PyData)(i:Nat)(ρ:Rho):Option Out:=match o with | some d=>some (.nx (ρ.set i (some d)))|none=>none
theorem qkS (i:Nat)(f:Rho->Option PyData)(ρ:Rho):sSet i f ρ=setO (f ρ) i ρ:=by
 unfold sSet ob setO
 cases f ρ<;>rfl
theorem qkX (d:PyData)(i:Nat)(ρ:Rho):setO (some d) i ρ=some (.nx (ρ.set i (some d))):=rfl
def binO (a b:Option PyData)(g:PyData->PyData->Option PyData):Option PyData:=match a,b with | some x,some y=>g x y|_,_=>none
theorem ev2_b (fa fb:Rho->Option PyData)(g:PyData->PyData->Option PyData)(ρ:Rho):ev2 fa fb g ρ=binO (fa ρ) (fb ρ) g:=by
 unfold ev2 ob binO
 cases fa ρ<;>cases fb ρ<;>rfl
theorem qjM (x y:PyData)(g:PyData->PyData->Option PyData):binO (some x) (some y) g=g x y:=rfl
def J2 (a:Option PyData)(b:Option (List PyData)):Option (List PyData):=match a,b with | some x,some xs=>some (x::xs)|_,_=>none
theorem aC_b (fa:Rho->Option PyData)(fs:Rho->Option (List PyData))(ρ:Rho):aC fa fs ρ=J2 (fa ρ) (fs ρ):=by
 unfold aC ob J2
 cases fa ρ<;>cases fs ρ<;>rfl
theorem qhX (x:PyData)(xs:List PyData):J2 (some x) (some xs)=some (x::xs):=rfl
def qf0 (n:Nat)(a:Option (List PyData))(h:List PyData->Option PyData):Option PyData:=match a with | some ds=>if ds.length=n then h ds else none|none=>none
theorem evC_b (n:Nat)(fs:Rho->Option (List PyData))(h:List PyData->Option PyData)(ρ:Rho):evC n fs h ρ=qf0 n (fs ρ) h:=by
 unfold evC ob qf0
 cases fs ρ<;>rfl
theorem qhM (n:Nat)(ds:List PyData)(h:List PyData->Option PyData):qf0 n (some ds) h=if ds.length=n then h ds else none:=rfl
def qdY (b:Option Bool)(tt:Rho->Option Bool)(te:Rho->Option PyData)(ρ:Rho)(d:PyData)(ds:List PyData):Option (List PyData):=match b with | some true=>J2 (te (ρ++[some d])) (Qa tt te ρ ds)|some false=>Qa tt te ρ ds|none=>none
theorem qdX (tt:Rho->Option Bool)(te:Rho->Option PyData)(ρ:Rho)(d:PyData)(ds:List PyData):Qa tt te ρ (d::ds)=qdY (tt (ρ++[some d])) tt te ρ d ds:=by
 rw [Qa]
 unfold ob qdY J2
 cases tt (ρ++[some d]) with
 | none=>rfl
 | some b =>
  cases b with
  | false=>rfl
  | true =>
   dsimp only [if_true]
   rw [if_pos rfl]
   cases te (ρ++[some d])<;>cases Qa tt te ρ ds<;>rfl
theorem qhT (tt:Rho->Option Bool)(te:Rho->Option PyData)(ρ:Rho):Qa tt te ρ []=some []:=rfl
theorem qd0 (tt:Rho->Option Bool)(te:Rho->Option PyData)(ρ:Rho)(d:PyData)(ds:List PyData):qdY (some true) tt te ρ d ds=J2 (te (ρ++[some d])) (Qa tt te ρ ds):=rfl
theorem qdZ (tt:Rho->Option Bool)(te:Rho->Option PyData)(ρ:Rho)(d:PyData)(ds:List PyData):qdY (some false) tt te ρ d ds=Qa tt te ρ ds:=rfl
def Wl (a:Option (List PyData)):Option PyData:=match a with | some ys=>some (.list ys)|none=>none
def qf8 (a:Option (List PyData))(n:Nat)(tt:Rho->Option Bool)(te:Rho->Option PyData)(ρ:Rho):Option PyData:=match a with | some ds=>if ρ.length=n/\ds.length<=1000 then Wl (Qa tt te ρ ds) else none|none=>none
theorem qhV (n:Nat)(fi:Rho->Option (List PyData))(tt:Rho->Option Bool)(te:Rho->Option PyData)(ρ:Rho):zG n fi tt te ρ=qf8 (fi ρ) n tt te ρ:=by
 unfold zG ob qf8 Wl
 cases fi ρ with
 | none=>rfl
 | some ds =>
  dsimp only
  split
  ·cases Qa tt te ρ ds<;>rfl
  ·rfl
theorem qhR (ds:List PyData)(n:Nat)(tt:Rho->Option Bool)(te:Rho->Option PyData)(ρ:Rho):qf8 (some ds) n tt te ρ=if ρ.length=n/\ds.length<=1000 then Wl (Qa tt te ρ ds) else none:=rfl
theorem qis (ds:List PyData):Wl (some ds)=some (.list ds):=rfl
def forI (a:Option (List PyData))(g:PyData->Rho->Option Rho)(u:Rho->Option Out)(ρ:Rho):Option Out:=match a with | some ds=>forD g u ds ρ|none=>none
theorem qho (fi:Rho->Option (List PyData))(g:PyData->Rho->Option Rho)(u:Rho->Option Out)(ρ:Rho):sFor fi g u ρ=forI (fi ρ) g u ρ:=by
 unfold sFor ob forI
 cases fi ρ<;>rfl
theorem qgo (ds:List PyData)(g:PyData->Rho->Option Rho)(u:Rho->Option Out)(ρ:Rho):forI (some ds) g u ρ=forD g u ds ρ:=rfl
def forO (o:Option Out)(g:PyData->Rho->Option Rho)(u:Rho->Option Out)(ds:List PyData):Option Out:=match o with
 | some (.nx ρ')=>forD g u ds ρ'
 | some (.ct ρ')=>forD g u ds ρ'
 | some (.bk ρ')=>some (.nx ρ')
 | some (.rt r)=>some (.rt r)
 | none=>none
theorem qc9 (g:PyData->Rho->Option Rho)(u:Rho->Option Out)(d:PyData)(ds:List PyData)(ρ:Rho):forD g u (d::ds) ρ=forO (ob (g d ρ) u) g u ds:=by
 rw [forD]
 unfold ob forO
 cases g d ρ with
 | none=>rfl
 | some ρ1 =>
  dsimp only
  cases u ρ1 with
  | none=>rfl
  | some o=>cases o<;>rfl
theorem qjW (g:PyData->Rho->Option Rho)(u:Rho->Option Out)(ρ:Rho):forD g u [] ρ=some (.nx ρ):=rfl
theorem qaU (ρ:Rho)(g:PyData->Rho->Option Rho)(u:Rho->Option Out)(ds:List PyData):forO (some (.nx ρ)) g u ds=forD g u ds ρ:=rfl
theorem qid (ρ:Rho)(g:PyData->Rho->Option Rho)(u:Rho->Option Out)(ds:List PyData):forO (some (.ct ρ)) g u ds=forD g u ds ρ:=rfl
theorem qic (ρ:Rho)(g:PyData->Rho->Option Rho)(u:Rho->Option Out)(ds:List PyData):forO (some (.bk ρ)) g u ds=some (.nx ρ):=rfl
theorem qea (d:PyData)(g:PyData->Rho->Option Rho)(u:Rho->Option Out)(ds:List PyData):forO (some (.rt d)) g u ds=some (.rt d):=rfl
def nxO (o:Option Rho):Option Out:=match o with | some ρ=>some (.nx ρ)|none=>none
def retO (o:Option PyData):Option Out:=match o with | some d=>some (.rt d)|none=>none
theorem qkR (f:Rho->Option PyData)(ρ:Rho):sRet f ρ=retO (f ρ):=by
 unfold sRet ob retO
 cases f ρ<;>rfl
theorem qkM (d:PyData):retO (some d)=some (.rt d):=rfl
theorem gsN_n (ρ:Rho):gsN [] ρ=some ρ:=rfl
theorem gsC_c (g1:PyData->Rho->Option Rho)(g2:List PyData->Rho->Option Rho)(d:PyData)(r:List PyData)(ρ:Rho):gsC g1 g2 (d::r) ρ=ob (g1 d ρ) (g2 r):=rfl
theorem qlb (n:Nat)(g:List PyData->Rho->Option Rho)(ds:List PyData)(ρ:Rho):unpD n g (.tuple ds) ρ=if ds.length=n then g ds ρ else none:=rfl
theorem qkT (ds:List PyData):seqD (.list ds)=some ds:=rfl
theorem qkU (ds:List PyData):seqD (.tuple ds)=some ds:=rfl
theorem ixD_l (ds:List PyData)(i:Int):ixD (.list ds) (.int i)=atI ds i:=rfl
theorem ixD_t (ds:List PyData)(i:Int):ixD (.tuple ds) (.int i)=atI ds i:=rfl
theorem qkb (ds:List PyData):lenD [.list ds]=some (.int ds.length):=rfl
theorem qkc (ds:List PyData):lenD [.tuple ds]=some (.int ds.length):=rfl
theorem qhz (ds:List PyData):zc [.list ds]=some (.tuple ds):=rfl
theorem qhA (ds:List PyData):zc [.tuple ds]=some (.tuple ds):=rfl
theorem qiq (ds:List PyData):Zc [.list ds]=some (.list ds):=rfl
theorem qir (ds:List PyData):Zc [.tuple ds]=some (.list ds):=rfl
theorem qhL (b:Bool):Jh (.bool b)=some b:=rfl
theorem qkt (d:PyData):outD (.rt d)=some d:=rfl
theorem qks (ρ:Rho):outD (.nx ρ)=some .none:=rfl
theorem qjF (i j:Int):qdJ (.int i) (.int j)=some (.int (i+j)):=rfl
def takO (b:Bool)(o:Option PyData)(i:Nat)(ρ:Rho):Option Out:=match b,o with | true,some d=>some (.nx (ρ.set i (some d)))|_,_=>none
theorem qjc (i:Nat)(f:Rho->Option PyData)(ρ:Rho):qY i f ρ=takO (decide (i<ρ.length)) (f ρ) i ρ:=by
 unfold qY ob takO
 by_cases h:i<ρ.length
 ·rw [if_pos h,decide_eq_true h]
  cases f ρ<;>rfl
 ·rw [if_neg h,decide_eq_false h]
theorem qk6 (d:PyData)(i:Nat)(ρ:Rho):takO true (some d) i ρ=some (.nx (ρ.set i (some d))):=rfl
def flaO (o:Option PyData):Option PyData:=match o with | some d=>if flat d=true then some d else none|none=>none
theorem qh9 (f:Rho->Option PyData)(ρ:Rho):qP f ρ=flaO (f ρ):=by
 unfold qP ob flaO
 cases f ρ<;>rfl
theorem qjT (d:PyData):flaO (some d)=if flat d=true then some d else none:=rfl
def flgO (o:Option PyData):Option PyData:=match o with | some d=>if W9 d=true then some d else none|none=>none
theorem qia (f:Rho->Option PyData)(ρ:Rho):Wb f ρ=flgO (f ρ):=by
 unfold Wb ob flgO
 cases f ρ<;>rfl
theorem qjU (d:PyData):flgO (some d)=if W9 d=true then some d else none:=rfl
def appO (l d:Option PyData)(i:Nat)(ρ:Rho):Option Out:=match l,d with | some x,some y=>setO (appD x y) i ρ|_,_=>none
theorem qkO (i:Nat)(f:Rho->Option PyData)(ρ:Rho):sApp i f ρ=appO (vr i ρ) (f ρ) i ρ:=by
 unfold sApp ob appO setO
 cases vr i ρ with
 | none=>rfl
 | some x =>
  cases f ρ with
  | none=>rfl
  | some y=>dsimp only;cases appD x y<;>rfl
theorem qjI (x y:PyData)(i:Nat)(ρ:Rho):appO (some x) (some y) i ρ=setO (appD x y) i ρ:=rfl
theorem qjH (ds:List PyData)(d:PyData):appD (.list ds) d=if ds.length<1000 then some (.list (ds++[d])) else none:=rfl
theorem qj5 (x:PyData):isnD x .none=some (.bool (!isNone x)):=by cases x<;>rfl
theorem qj4 (b c:Bool):isnD (.bool b) (.bool c)=some (.bool (!(b==c))):=rfl
def sliO (a:Option PyData)(l h:Option (Option Int)):Option PyData:=match a,l,h with | some x,some l,some h=>sliD x l h|_,_,_=>none
theorem evS_b (fa:Rho->Option PyData)(fl fh:Rho->Option (Option Int))(ρ:Rho):evS fa fl fh ρ=sliO (fa ρ) (fl ρ) (fh ρ):=by
 unfold evS ob sliO
 cases fa ρ<;>cases fl ρ<;>cases fh ρ<;>rfl
theorem qk0 (x:PyData)(l h:Option Int):sliO (some x) (some l) (some h)=sliD x l h:=rfl
def prtO (a:Option PyData):Option (Option Int):=match a with | some (.int i)=>some (some i)|_=>none
theorem oS_b (f:Rho->Option PyData)(ρ:Rho):oS f ρ=prtO (f ρ):=by
 unfold oS ob prtO
 cases f ρ with
 | none=>rfl
 | some d=>cases d<;>rfl
theorem qkE (i:Int):prtO (some (.int i))=some (some i):=rfl
theorem qk3 (i j:Int):subD (.int i) (.int j)=some (.int (i-j)):=rfl
theorem qkg (i:Int):negD (.int i)=some (.int (-i)):=rfl
theorem qdn (i j:Int):ltD2 (.int i) (.int j)=some (.bool (decide (i<j))):=by
 show (if _ then ob (ltX (.int i) (.int j)) _ else none)=_
 rw [if_pos ⟨rfl,rfl,Nat.zero_le 60⟩,ltX]
 rfl
theorem qju (i j:Int):leD (.int i) (.int j)=some (.bool (decide (i<=j))):=rfl
theorem gtD_i (i j:Int):gtD (.int i) (.int j)=some (.bool (decide (j<i))):=rfl
theorem qj3 (T:String)(ds:List PyData):isiT T (.tuple ds)=(T == "tuple" || T == "object"):=rfl
theorem qj0 (T:String)(ds:List PyData):isiT T (.list ds)=(T == "list" || T == "object"):=rfl
theorem qjZ (T:String)(i:Int):isiT T (.int i)=(T == "int" || T == "object"):=rfl
theorem qjY (T:String)(b:Bool):isiT T (.bool b)=(T == "bool" || T == "int" || T == "object"):=rfl
theorem qj2 (T:String)(x:Str):isiT T (.str x)=(T == "str" || T == "object"):=rfl
theorem qj1 (T:String):isiT T .none=(T == "NoneType" || T == "object"):=rfl
theorem qi8 (j:Int):QS [.int j]=if -1000<=j/\j<=1000 then some (rngL 0 j.toNat) else none:=rfl
section
variable {X:Cx}{G:Gm}{M M' Mb L:List Nat}{fr:Fr}{a b c:Expr}{es:List Expr}{f fk g:Rho->Option PyData}{pos:Pos}{u:Rho->Option Out}
theorem DenL.set {K:W.Frag}{H:Hp}{S:Av}:∀ {vs:List V} {ds:List PyData} {v:V} {d:PyData} (j:Nat),DenL K H S vs ds->Den K H S v d->DenL K H S (vs.set j v) (ds.set j d)
 | _,_,_,_,_,.nil,_=>.nil
 | _,_,_,_,0,.cons _ t,q=>.cons q t
 | _,_,_,_,j+1,.cons h t,q=>.cons h (t.set j q)
def setD:PyData->PyData->PyData->Option PyData
 | .list ds,.int k,d=>ob (ixN ds.length k) λ j=>some (.list (ds.set j d))
 | _,_,_=>none
def sPut (i:Nat)(fk f:Rho->Option PyData):Rho->Option Out:=λ ρ=>ob (f ρ) λ d=>ob (vr i ρ) λ l=>ob (fk ρ) λ k=>ob (setD l k d) λ l'=>some (.nx (ρ.set i (some l')))
theorem qaz {l k d l':PyData}(e:setD l k d=some l'):∃ ds n j,l=.list ds/\k=.int n/\ixN ds.length n=some j/\l'=.list (ds.set j d):=by
 unfold setD at e
 split at e
 ·obtain ⟨j,e1,e⟩:=qi e
  cases e
  exact ⟨_,_,j,rfl,rfl,e1,rfl⟩
 ·cases e
theorem qiL (i:Nat){x:Str}{px sp:Pos}(hv:Vis X.env.scope x)(hM:Flt M i)(hL:i∉L)(hk:PD X [] b fk)(he:PD X M a f)(hN:X.N[i]?=some x:=by rfl)(hd:(x==("__debug__" : Str))=false:=by kernel_rfl)(hcd:(x==("__classdict__" : Str))=false:=by kernel_rfl)
  (ha:∀ v,assign (.Subscript (.Name x px) b sp) X.env v=(do
   let ov ← holding [v] (eval (.Name x px) X.env)
   let iv ← holding [v,ov] (eval b X.env)
   standAt sp
   holding [v,ov,iv] (setItem ov iv v)
   release [v,ov,iv] []):=by intro _;rfl)
  (hs:swapsWithSole [.Subscript (.Name x px) b sp] a pos.line X.env=pure false:=by rfl) (hw:swappedStores [.Subscript (.Name x px) b sp] a X.env=pure none:=by rfl)
  (h1:(assignEach [.Subscript (.Name x px) b sp] X.env).map (·.2)=[assign (.Subscript (.Name x px) b sp) X.env]:=by rfl) :
  PDS X G M L M Mb fr (.Assign [.Subscript (.Name x px) b sp] a pos) (sPut i fk f) :=
 (qbi he (qbh (yl i hv hN hd hcd) hk set_list ha) hs hw h1).weak λ D σ H ⟨S,ρ,o,os,e,q⟩=>by
  obtain ⟨d,e1,e⟩:=qi e
  obtain ⟨l,e2,e⟩:=qi e
  obtain ⟨k,e3,e⟩:=qi e
  obtain ⟨l',e4,e⟩:=qi e
  cases e
  obtain ⟨ds,n,j,rfl,rfl,ej,rfl⟩:=qaz e4
  refine ⟨S,ρ,d,os.ds,e1,λ v H1 g1 d1=>?_⟩
  have os1:=os.same g1
  obtain ⟨pp,a1,b1,c1,n1,w1,_⟩:=os1.own i hM _ (QC e2)
  cases b1 with
  | @lst xs _ h t =>
   refine ⟨_,a1,G.S0,ρ,_,os1.den,e3,λ kv H2 g2 dk=>?_⟩
   have os2:=os1.same g2
   refine ⟨pp,xs,n,j,rfl,dk.int_inv,g2 _ _ h,by rw [t.length];exact ej,?_⟩
   exact q _ _ _ (os2.write hM hL (QC e2) a1 rfl (.lst q9 (((t.same g2).set j (d1.same g2)).off os2.ds.1 (Off.upd c1))))
theorem ZV (i:Nat){x:Str}{px sp:Pos}(hv:Vis X.env.scope x)(hM:Flt M i)(hL:i∉L)(hk:PD X [] b fk)(he:PD X [] a f)(hN:X.N[i]?=some x:=by rfl)(hd:(x==("__debug__" : Str))=false:=by kernel_rfl)(hcd:(x==("__classdict__" : Str))=false:=by kernel_rfl)
  (ha:∀ v,assign (.Subscript (.Name x px) b sp) X.env v=(do
   let ov ← holding [v] (eval (.Name x px) X.env)
   let iv ← holding [v,ov] (eval b X.env)
   standAt sp
   holding [v,ov,iv] (setItem ov iv v)
   release [v,ov,iv] []):=by intro _;rfl)
  (hs:swapsWithSole [.Subscript (.Name x px) b sp] a pos.line X.env=pure false:=by rfl) (hw:swappedStores [.Subscript (.Name x px) b sp] a X.env=pure none:=by rfl)
  (h1:(assignEach [.Subscript (.Name x px) b sp] X.env).map (·.2)=[assign (.Subscript (.Name x px) b sp) X.env]:=by rfl) :
  PDS X G M L M Mb fr (.Assign [.Subscript (.Name x px) b sp] a pos) (sPut i fk (qP f)) :=
 (qbi he (qbh (yl i hv hN hd hcd) hk set_list ha) hs hw h1).weak λ D σ H ⟨S,ρ,o,os,e,q⟩=>by
  obtain ⟨d,e1,e⟩:=qi e
  obtain ⟨l,e2,e⟩:=qi e
  obtain ⟨k,e3,e⟩:=qi e
  obtain ⟨l',e4,e⟩:=qi e
  cases e
  obtain ⟨ds,n,j,rfl,rfl,ej,rfl⟩:=qaz e4
  obtain ⟨d',e5,e6⟩:=qi e1
  have hf:flat d'=true/\d'=d:=by
   split at e6
   ·rename_i hf;cases e6;exact ⟨hf,rfl⟩
   ·cases e6
  obtain ⟨hf,rfl⟩:=hf
  refine ⟨G.S0,ρ,d',os.den,e5,λ v H1 g1 d1'=>?_⟩
  have d1:Den X.K H1 S v d':=d1'.flat hf
  have os1:=os.same g1
  obtain ⟨pp,a1,b1,c1,n1,w1,_⟩:=os1.own i hM _ (QC e2)
  cases b1 with
  | @lst xs _ h t =>
   refine ⟨_,a1,G.S0,ρ,_,os1.den,e3,λ kv H2 g2 dk=>?_⟩
   have os2:=os1.same g2
   refine ⟨pp,xs,n,j,rfl,dk.int_inv,g2 _ _ h,by rw [t.length];exact ej,?_⟩
   exact q _ _ _ (os2.write hM hL (QC e2) a1 rfl (.lst q9 (((t.same g2).set j (d1.same g2)).off os2.ds.1 (Off.upd c1))))
end
end L2
namespace L2
open PySem
def putO (d l k:Option PyData)(i:Nat)(ρ:Rho):Option Out:=match d,l,k with | some d,some l,some k=>setO (setD l k d) i ρ|_,_,_=>none
theorem qkQ (i:Nat)(fk f:Rho->Option PyData)(ρ:Rho):sPut i fk f ρ=putO (f ρ) (vr i ρ) (fk ρ) i ρ:=by
 unfold sPut ob putO setO
 cases f ρ with
 | none=>rfl
 | some d =>
  cases vr i ρ with
  | none=>rfl
  | some l =>
   cases fk ρ with
   | none=>rfl
   | some k=>dsimp only;cases setD l k d<;>rfl
theorem qkI (d l k:PyData)(i:Nat)(ρ:Rho):putO (some d) (some l) (some k) i ρ=setO (setD l k d) i ρ:=rfl
theorem qkW (ds:List PyData)(k:Int)(d:PyData):setD (.list ds) (.int k) d=ob (ixN ds.length k) λ j=>some (.list (ds.set j d)):=rfl
end L2
namespace L2
open PySem PySem.Spec PyProof.Rows
section
variable {X:Cx}
theorem Yv:bootBuiltins "max" = some (.builtin "max"):=by decide +kernel
theorem qeT:bootBuiltins "min" = some (.builtin "min"):=by decide +kernel
end
def Y0 (fa fb fc fd:Rho->Option PyData)(g1 g2 g3:PyData->PyData->Option PyData):Rho->Option PyData:=λ ρ=>ob (fa ρ) λ x=>ob (fb ρ) λ y=>ob (g1 x y) λ z=>ob (Jh z) λ k=>if k=true then (ob (fc ρ) λ w=>ob (g2 y w) λ z2=>ob (Jh z2) λ k2=>if k2=true then ob (fd ρ) λ u=>g3 w u else some (.bool false)) else some (.bool false)
section
variable {X:Cx}{M:List Nat}{a b c d:Expr}{fa fb fc fd:Rho->Option PyData}{ta tb tc td:TE}{pos:Pos}{op1 op2 op3:CmpOp}{g1 g2 g3:PyData->PyData->Option PyData}
def qeM (r1 r2 r3:R2)(ta tb tc td:TE):TE:=λ σ H Q=>ta σ H λ x H1=>tb σ H1 λ y H2=>r1 x y H2 λ z H3=>∃ k,z=.bl k/\
 (if k=true then (tc σ H3 λ w H4=>r2 y w H4 λ z2 H5=>∃ k2,z2=.bl k2/\(if k2=true then td σ H5 λ u H6=>r3 w u H6 Q else Q (.bl false) H5)) else Q (.bl false) H3)
theorem qfC {r1 r2 r3:R2}(h1:OpR X (compareOp op1) r1)(h2:OpR X (compareOp op2) r2)(h3:OpR X (compareOp op3) r3)(ha:PE X a ta)(hb:PE X b tb)(hc:PE X c tc)(hd:PE X d td)
  (hm:lastMarks [op1,op2,op3] [b,c,d]=false:=by with_unfolding_all rfl):PT X (.Compare a [op1,op2,op3] [b,c,d] pos) (qjD (qeM r1 r2 r3 ta tb tc td)):=by
 intro pins s σ H Q I h
 refine isTrue_chain (thn (ha pins s σ H _ I h) λ va s1 ⟨x,H1,I1,k1,q1⟩=>test_link (thn (hb pins s1 σ H1 _ I1 q1) λ vb s2 ⟨y,H2,I2,k2,q2⟩=>thn (h1 pins s2 σ H2 x y va vb _ I2 k1 k2 q2) λ e1 s3 ⟨z,H3,I3,k3,t,e,q3⟩=>?_)) hm
 subst e
 cases k3
 refine wpAny_truthy_bool ?_
 cases t with
 | false =>
  obtain ⟨t',e',q'⟩:=q3
  cases e'
  exact ite_ff ⟨H3,I3,q'⟩
 | true =>
  refine ite_tt (test_link (thn (hc pins s3 σ H3 _ I3 q3) λ vc s4 ⟨w,H4,I4,k4,q4⟩=>thn (h2 pins s4 σ H4 y w vb vc _ I4 k2 k4 q4) λ e2 s5 ⟨z2,H5,I5,k5,t2,e2',q5⟩=>?_))
  subst e2'
  cases k5
  refine wpAny_truthy_bool ?_
  cases t2 with
  | false =>
   obtain ⟨t',e',q'⟩:=q5
   cases e'
   exact ite_ff ⟨H5,I5,q'⟩
  | true =>
   refine ite_tt (test_last (thn (hd pins s5 σ H5 _ I5 q5) λ vd s6 ⟨u,H6,I6,k6,q6⟩=>thn (h3 pins s6 σ H6 w u vc vd _ I6 k4 k6 q6) λ e3 s7 ⟨z3,H7,I7,k7,t3,e3',q7⟩=>?_))
   subst e3'
   cases k7
   exact wpAny_truthy_bool ⟨H7,I7,q7⟩
theorem tCh3D {K:W.Frag}:∀ σ H Q,tD K M (Y0 fa fb fc fd g1 g2 g3) σ H Q->qeM (rD2 K g1) (rD2 K g2) (rD2 K g3) (tD K M fa) (tD K M fb) (tD K M fc) (tD K M fd) σ H Q:=by
 intro σ H Q ⟨S,ρ,v,hs,e,q⟩
 obtain ⟨x,e1,e⟩:=qi e
 obtain ⟨y,e2,e⟩:=qi e
 obtain ⟨z,e3,e⟩:=qi e
 obtain ⟨k,e4,e⟩:=qi e
 cases Q3 e4
 refine ⟨S,ρ,x,hs,e1,λ v1 H1 s1 d1=>⟨S,ρ,y,hs.same s1,e2,λ v2 H2 s2 d2=>⟨S,x,y,_,hs.1.same (s1.trans s2),d1.same s2,d2,e3,λ zv H3 s3 dz=>⟨k,dz.bool_inv,?_⟩⟩⟩⟩
 have s123:=s1.trans (s2.trans s3)
 cases k with
 | false =>
  cases e
  exact iteF (q _ H3 s123 (.bool false))
 | true =>
  have e:(ob (fc ρ) λ w=>ob (g2 y w) λ z2=>ob (Jh z2) λ k2=>if k2=true then ob (fd ρ) λ u=>g3 w u else some (.bool false))=some v:=e
  obtain ⟨w,e5,e⟩:=qi e
  obtain ⟨z2,e6,e⟩:=qi e
  obtain ⟨k2,e7,e⟩:=qi e
  cases Q3 e7
  refine iteT ⟨S,ρ,w,hs.same s123,e5,λ v4 H4 s4 d4=>⟨S,y,w,_,hs.1.same (s123.trans s4),d2.same (s3.trans s4),d4,e6,λ zv2 H5 s5 dz2=>⟨k2,dz2.bool_inv,?_⟩⟩⟩
  have s15:=s123.trans (s4.trans s5)
  cases k2 with
  | false =>
   cases e
   exact iteF (q _ H5 s15 (.bool false))
  | true =>
   have e:(ob (fd ρ) λ u=>g3 w u)=some v:=e
   obtain ⟨u,e8,e⟩:=qi e
   exact iteT ⟨S,ρ,u,hs.same s15,e8,λ v6 H6 s6 d6=>⟨S,w,u,v,hs.1.same (s15.trans s6),d4.same (s5.trans s6),d6,e,λ v7 H7 s7 d7=>q v7 H7 (s15.trans (s6.trans s7)) d7⟩⟩
theorem qdv (h1:OpD X (compareOp op1) g1)(h2:OpD X (compareOp op2) g2)(h3:OpD X (compareOp op3) g3)(ha:PD X M a fa)(hb:PD X M b fb)(hc:PD X M c fc)(hd:PD X M d fd)(hm:lastMarks [op1,op2,op3] [b,c,d]=false:=by with_unfolding_all rfl):PDT X M (.Compare a [op1,op2,op3] [b,c,d] pos) (tV (Y0 fa fb fc fd g1 g2 g3)) :=
 (qfC h1 h2 h3 ha hb hc hd hm).weak λ σ H Q ⟨S,ρ,d,hs,e,q⟩=>by
  obtain ⟨x,e1,e⟩:=qi e
  cases Q3 e
  exact tCh3D σ H _ ⟨S,ρ,_,hs,e1,λ v H1 g1 d1=>⟨d,d1.bool_inv,q H1 g1⟩⟩
end
theorem qh8 {fa fb fc fd:Rho->Option PyData}{g1 g2 g3:PyData->PyData->Option PyData}{ρ:Rho}{x y w u:PyData}(h1:fa ρ=some x)(h2:fb ρ=some y)(h3:fc ρ=some w)(h4:fd ρ=some u)(k1:g1 x y=some (.bool true))(k2:g2 y w=some (.bool true)):Y0 fa fb fc fd g1 g2 g3 ρ=g3 w u:=by
 simp only [Y0,h1,h2,h3,h4,k1,k2,ob,Jh,if_true]
def ZX (l x:PyData):Option PyData:=match l with
 | .list ds=>if inOk ds x=true/\ds.length<=1000 then ob (ds.findIdx? λ y=>PyData.eqv y x) λ j=>some (.int (j:Nat)) else none
 | _=>none
section
variable {X:Cx}{G:Gm}{M M' Mb L:List Nat}{fr:Fr}{a b c:Expr}{es:List Expr}{f fk g:Rho->Option PyData}{pos:Pos}{u:Rho->Option Out}
def qi6 (K:W.Frag):V->List V->Hp->VK->Prop:=λ x vs H Q=>∃ S dx y dy d,vs=[y]/\Den K H S x dx/\Den K H S y dy/\ZX dx dy=some d/\Dm S H/\∀ v H',Same H H'->Den K H' S v d->Q v H'
theorem qgW {k:Nat}(hr:Room k X.A):MtR X "list.index" (qi6 X.K):=by
 intro pins s σ H x vs v us Q I rx rv h
 obtain ⟨S,dx,y,dy,d,rfl,h1,h2,e,m,q⟩:=h
 obtain ⟨u,rfl,ru⟩:=rv.one
 unfold ZX at e
 split at e
 ·rename_i ds
  split at e
  ·rename_i hc
   obtain ⟨⟨c1,c2,c3⟩,hz⟩:=And.intro (jg hc.1) hc.2
   obtain ⟨j,ej,e⟩:=qi e
   cases e
   obtain ⟨bs,q2⟩:=h2.reads I c2 ru
   obtain ⟨as,q1⟩:=h1.reads I (by rw [PyData.canLay0];exact c1) rx
   obtain ⟨a,xs,rfl,hsq,ht⟩:=h1.list_inv
   cases (show v=Value.ref a from rx)
   cases q1 with
   | @list _ o items n _ _ g1 g2 g3 g4 =>
    obtain ⟨cls,dd,data,sl⟩:=o
    simp only at g2 g3
    subst g2 g3
    have hm:=SeqAt.readsAll_map _ _ _ c1 g4
    obtain ⟨hj,hp,hno⟩:=List.findIdx?_eq_some_iff_getElem.mp ej
    have hlen:items.size=ds.length:=by
     have:=congrArg List.length hm
     simpa using this
    have hat:∀ i (h:i<items.size),SeqAt.readOf s.heap items[i]=ds[i]'(by omega):=λ i h=>by
     have:=congrArg (λ l=>l[i]?) hm
     simp only [List.getElem?_map] at this
     rw [List.getElem?_eq_getElem (by simpa using h),List.getElem?_eq_getElem (by omega)] at this
     simpa using this
    refine call_meets PySem.F.slot_list_index ⟨_,g1,rfl⟩ PySem.F.entry_list_index (PySem.F.args_list_index_2 _ _) (SeqAt.list_indexAt a items n dd sl u (λ y=>PyData.eqv (SeqAt.readOf s.heap y) dy) j (by omega) (by omega) ?_ ?_) ⟨g1,SeqAt.items_eqAt g4 q2 c1 c2 (yV c3 hr.units),?_⟩
    ·rw [hat j (by omega)];exact hp
    ·intro i hi hij
     rw [hat i hi]
     simpa using hno i hij
    ·exact ⟨.int j,H,I.tok _,⟨_,rfl⟩,q _ H (Same.refl H) (.int _)⟩
  ·cases e
 ·cases e
theorem qcn {k:Nat}{o:Expr}{apos cpos:Pos}(hr:Room k X.A)(ho:PD X M o f)(he:PD X M a g)
  (hbase:attributeBase o "index" X.env (eval o X.env)=eval o X.env:=by rfl)
  (hfew:((backTo cpos (starEach [a] X.env)).all (λ x=>!x.1)&&(backToKw cpos (keywordEach [] X.env)).all (λ x=>x.1.isSome)
   && decide ([a].length+([]:List Keyword).length+(if ([]:List Keyword).isEmpty then 0 else 1)<30))=true:=by rfl)
  (hline:(apos.endLine==cpos.line)=true:=by rfl) (hs:starEach [a] X.env=(false,eval a X.env)::starEach [] X.env:=by rfl) (hplain:(backTo cpos (starEach [] X.env)).any (·.1)=false:=by rfl) :
  PD X M (.Call (.Attribute o "index" apos) [a] [] cpos) (ev2 f g ZX) :=
 (qew PySem.F.plainAttrs_list PySem.F.slot_list_index PySem.F.type_list_index (qgW hr) ho (qb he qg hs) hbase hfew hline hs hplain).weak λ σ H Q ⟨S,ρ,d,hs,e,q⟩=>by
  obtain ⟨dx,e1,e⟩:=qi e
  obtain ⟨dy,e2,e⟩:=qi e
  refine ⟨S,ρ,dx,hs,e1,λ v H1 g1 d1=>?_⟩
  have:∃ ds,dx=.list ds:=by
   unfold ZX at e
   split at e
   ·exact ⟨_,rfl⟩
   ·cases e
  obtain ⟨ds,rfl⟩:=this
  obtain ⟨p,xs,rfl,hsq,ht⟩:=d1.list_inv
  refine ⟨.inl ⟨rfl,_,hsq.sq⟩,S,ρ,[dy],hs.same g1,by show ob (g ρ) _=_;rw [e2];rfl,λ vs H2 g2 dl=>?_⟩
  obtain ⟨w,rfl,dw⟩:=dl.inv1
  exact ⟨S,_,w,dy,d,rfl,d1.same g2,dw,e,hs.1.same (g1.trans g2),λ v3 H3 g3 d3=>q v3 H3 (g1.trans (g2.trans g3)) d3⟩
def qJ (x y:PyData):Option PyData:=match x,y with
 | .int i,.int j=>some (.int (i+j))
 | .list ds,.list es=>if ds.length+es.length<=1000 then some (.list (ds++es)) else none
 | x,y=>qdJ x y
def rCatL (K:W.Frag):R2:=λ x y H Q=>∃ l b xs zs,x=.ref l/\y=.ref b/\SqL K H l xs/\SqL K H b zs/\xs.length+zs.length<=sizeLine/\∀ p,H p=none->Q (.ref p) (upd H p (.lst (xs++zs)))
theorem qiC:OpR X (binaryOp .Add) (rCatL X.K):=by
 intro pins s σ H x y v u Q I rx ry h
 obtain ⟨l,b,xs,zs,rfl,rfl,hH,hB,hz,q⟩:=h
 cases rx
 cases ry
 obtain ⟨its,r,⟨⟨cls,dd,data,sl⟩,n,g1,g2,_,g3⟩,_⟩:=I.list hH
 obtain ⟨its2,r2,⟨⟨cls2,dd2,data2,sl2⟩,n2,k1,k2,_,k3⟩,_⟩:=I.list hB
 simp only at g2 g3 k2 k3
 subst g2 g3 k2 k3
 have ea:its.toArray++its2.toArray=(its++its2).toArray:=by simp
 have l1:=r.length
 have l2:=r2.length
 refine concat_meets ⟨_,g1,rfl⟩ ⟨_,k1,rfl⟩ noFill_list_add seq_list_add PySem.F.slot_list_add PySem.F.entry_list_add (PySem.F.args_list_add_2 _ _) (list_addW l b its.toArray its2.toArray n n2 dd dd2 sl sl2 (by rw [List.size_toArray,List.size_toArray];omega)) ⟨g1,k1,?_⟩
 rw [ea]
 exact ⟨.ref _,_,I.lnew (t':=s.toks) (r.append r2) (by rw [List.length_append];omega),rfl,q _ I.fresh⟩
theorem qjP:OpD X (binaryOp .Add) (λ x y=>match x,y with | .list ds,.list es=>if ds.length+es.length<=1000 then some (.list (ds++es)) else none|_,_=>none):=by
 refine yg qiC λ x y dx dy d H S Q m h1 h2 e q=>?_
 split at e
 ·split at e
  ·rename_i ds es hc
   cases e
   cases h1 with
   | list a1 t1 =>
    cases h2 with
    | list a2 t2 =>
     exact ⟨_,_,_,_,rfl,rfl,a1.sq,a2.sq,by rw [t1.length,t2.length];exact Nat.le_of_lt (zX hc),λ p hp=>q _ _ (Same.lay hp) (.list (SqLS.new q9 (m.free hp)) ((t1.append t2).same (Same.lay hp)))⟩
  ·cases e
 ·cases e
theorem zx:OpD X (binaryOp .Add) qJ:=by
 intro pins s σ H x y v u Q I rx ry h
 obtain ⟨S,dx,dy,d,m,h1,h2,e,q⟩:=h
 unfold qJ at e
 split at e
 ·exact qga pins s σ H x y v u Q I rx ry ⟨S,_,_,d,m,h1,h2,e,q⟩
 ·exact qjP pins s σ H x y v u Q I rx ry ⟨S,_,_,d,m,h1,h2,e,q⟩
 ·exact qga pins s σ H x y v u Q I rx ry ⟨S,_,_,d,m,h1,h2,e,q⟩
theorem qhF (i j:Int):qJ (.int i) (.int j)=some (.int (i+j)):=rfl
def qbq:List PyData->Option PyData
 | [.int i]=>some (.int i)
 | [.bool k]=>some (.int (if k then 1 else 0))
 | _=>none
theorem b_int:CallD X (.type "int") qbq:=λ pins s σ H xs us Q I r ⟨S,ds,d,m,h1,e,q⟩=>qeV pins s σ H xs us Q I r (by
 unfold qbq at e
 split at e
 ·cases e
  obtain ⟨v,rfl,hv⟩:=h1.inv1
  exact .inl ⟨_,by rw [hv.int_inv],q _ H (Same.refl H) (.int _)⟩
 ·cases e
  obtain ⟨v,rfl,hv⟩:=h1.inv1
  exact .inr ⟨_,by rw [hv.bool_inv],q _ H (Same.refl H) (.int _)⟩
 ·cases e)
end
theorem qhy (k:Bool):qbq [.bool k]=some (.int (if k then 1 else 0)):=rfl
section
variable {prog:Program}{w:World}{A:Around}{E:Value->Shared->Prop}{s:Shared}
theorem qcg {it t:Addr}{i:Nat}{items:Array Value}{x:Value}{Q:Value->Shared->Prop}(hit:s.heap.IsTupleIter it t i)(ht:s.heap.IsTuple t items)(hx:items[i]?=some x)
  (hQ:∀ h',h'.IsTupleIter it t (i+1)->Heap.SameBut it s.heap h'->Q x { s with heap:=h' }):wpAny (model prog w) A (Builtin.SmallTypes.nextOf (.ref it)) Q E s:=by
 obtain ⟨o,ho,hc,hd⟩:=id hit
 obtain ⟨ol,hol,_,nl,hdl⟩:=ht
 unfold Builtin.SmallTypes.nextOf
 refine wpAny_bind (wpAny_callSpecial?_slot (name:=Str.ofString "__next__") hit.typeIs F.slot_tuple_iterator_next (wpAny_call_entry F.slot_tuple_iterator_next hit.typeIs F.entry_tuple_iterator_next ?_ (F.args_tuple_iterator_next_1 _)))
 refine (wpAny_bind (wpAny_field ho hd (x:=.ref t) rfl ?_):wpAny _ _ (field (.ref it) 0 >>= _) _ _ s)
 refine (id ?_:wpAny _ _ (if (Value.ref t==Value.none)=true then _ else _) _ _ s)
 rw [if_neg (λ z=>Bool.false_ne_true z:¬ ((Value.ref t==Value.none)=true))]
 refine (wpAny_bind (wpAny_field ho hd (x:=.int i 0) rfl ?_):wpAny _ _ (field (.ref it) 1 >>= _) _ _ s)
 refine (wpAny_bind (wpAny_seqItems hol hdl ?_):wpAny _ _ (seqItems? (.ref t) >>= _) _ _ s)
 simp only [hx,Int.toNat_natCast]
 refine wpAny_bind (wpAny_setField ho hd (by simp) (wpAny_pure ⟨x,rfl,wpAny_pure (hQ _ ⟨_,Heap.get?_update_self _ ho (Obj.isFreed_of_fields (Obj.data_mapFields hd _)),(Obj.cls_mapFields ..).trans hc,by rw [Obj.data_mapFields hd];simp [rawInt]⟩ (Heap.SameBut.update ..))⟩))
theorem qdr {it t:Addr}{i:Nat}{items:Array Value}{Q:Value->Shared->Prop}(hh:A.handled=none)(hit:s.heap.IsTupleIter it t i)(ht:s.heap.IsTuple t items)(hx:items[i]?=none)
  (hE:∀ h' e,Heap.ExtBut it s.heap h'->(∃ o,h'.get? e=some o/\o.cls=.type "StopIteration")->E (.ref e) { s with heap:=h' }):wpAny (model prog w) A (Builtin.SmallTypes.nextOf (.ref it)) Q E s:=by
 obtain ⟨o,ho,hc,hd⟩:=id hit
 obtain ⟨ol,hol,_,nl,hdl⟩:=ht
 unfold Builtin.SmallTypes.nextOf
 refine wpAny_bind (wpAny_callSpecial?_slot (name:=Str.ofString "__next__") hit.typeIs F.slot_tuple_iterator_next (wpAny_call_entry F.slot_tuple_iterator_next hit.typeIs F.entry_tuple_iterator_next ?_ (F.args_tuple_iterator_next_1 _)))
 refine (wpAny_bind (wpAny_field ho hd (x:=.ref t) rfl ?_):wpAny _ _ (field (.ref it) 0 >>= _) _ _ s)
 refine (id ?_:wpAny _ _ (if (Value.ref t==Value.none)=true then _ else _) _ _ s)
 rw [if_neg (λ z=>Bool.false_ne_true z:¬ ((Value.ref t==Value.none)=true))]
 refine (wpAny_bind (wpAny_field ho hd (x:=.int i 0) rfl ?_):wpAny _ _ (field (.ref it) 1 >>= _) _ _ s)
 refine (wpAny_bind (wpAny_seqItems hol hdl ?_):wpAny _ _ (seqItems? (.ref t) >>= _) _ _ s)
 simp only [hx,Int.toNat_natCast]
 refine wpAny_bind (wpAny_rule (wpAny_bind (wpAny_setField ho hd (by simp) (wpAny_bind (?_:wpAny _ _ (newExc (.type "StopIteration") []) _ _ _)))))
 simp only [newExc,newTuple]
 refine wpAny_bind (wpAny_newObj_type (wpAny_bind (m:=firstArgMember _ _) (wpAny_of_eq (a:=Value.none) (by first|rfl|(simp only [firstArgMember];rfl)) (wpAny_newObj_type ?_ (by size_fits)))) (by size_fits))
 simp only [raiseNew]
 refine wpAny_bind (wpAny_handled ?_)
 first|rw [show A.in1.handled=none from hh]|rw [hh]
 exact wpAny_bind (wpAny_pure (wpAny_throw (hE _ _ (((Heap.SameBut.update ..).extBut.push _).push _) ⟨_,Heap.get?_push_size _ rfl,rfl⟩)))
end
theorem qbH {prog:Program}{w:World}{A:Around}(hh:A.handled=none)(it l:Addr)(hne:l≠it)(items:Array Value) :
  Draws prog w A it [it,l] items.size (λ i v=>items[i]?=some v) (λ i h=>h.IsTupleIter it l i/\h.IsTuple l items) where
 live:=λ _ _ ⟨⟨o,ho,_⟩,_⟩=>⟨o,ho⟩
 frame:=λ _ _ _ ⟨a,b⟩ hk=>⟨a.at λ o e=>hk it (by simp) o e,let ⟨o,ho,r⟩:=b;⟨o,hk l (by simp) o ho,r⟩⟩
 item:=λ i s Q E hi ⟨a,b⟩ hQ=>qcg a b (x:=items[i]) (by simp [hi]) λ h' a' hs'=>hQ _ h' s.toks (by simp [hi]) ⟨a',b.extBut hs'.extBut hne⟩ hs'
 done:=λ s Q E ⟨a,b⟩ hE=>qdr hh a b (by simp) hE
open AutoSeq1 (wpAny_loadPart') in
theorem qe6 (l:Addr)(items:Array Value)(n:Nat)(dct:Option Addr)(sl:Array (Option Value)) :
  Meets (Builtin.«enumerate.__new__» ⟨[.type "enumerate", .ref l],[]⟩) (λ _ R s=>s.heap.get? l=some { cls:=.type "tuple", dict:=dct,data:=.seq items n,slots:=sl }/\
   R (.ok (.ret (.ref (s.heap.push { cls:=.type "tuple_iterator", data:=.fields #[.ref l,.int 0 0] }).objs.size))) { s with heap:=(s.heap.push { cls:=.type "tuple_iterator", data:=.fields #[.ref l,.int 0 0] }).push { cls:=.type "enumerate", data:=.fields #[.none,.bool false,.ref s.heap.objs.size,rawInt 0,.none,.none] } }) :=
 .of_wp λ prog w A R s h=>by
  obtain ⟨hp,g,d,tk,os⟩:=s
  obtain ⟨hl,h⟩:=h
  have hsub:=sub_enumerate
  have hT:Heap.IsTuple (Shared.heap ⟨hp,g,d,tk,os⟩) l items:=⟨_,hl,rfl,n,rfl⟩
  wp_walk using wpAny_loadPart' hl
  refine wpAny_stack_any λ st=>wpAny_pure ?_
  split
  ·rename_i c _ _ _ _ _
   cases (c==Value.type "enumerate")<;>(wp_walk using wpAny_loadPart' hl,wpAny_pyIter_tuple hT;exact ⟨_,rfl,h⟩)
  ·wp_walk using wpAny_loadPart' hl,wpAny_pyIter_tuple hT
   exact ⟨_,rfl,h⟩
section
variable {X:Cx}{pins:List (Addr×Obj)}{σ:St}{H:Hp}{s:Shared}
theorem Inv.turned2 {h':Heap}{t':Nat}{e it:Addr}(I:Inv X pins σ H s)(k:∀ b o,b≠e->b≠it->s.heap.get? b=some o->h'.get? b=some o)(fe:FpOk X pins H e)(fi:FpOk X pins H it):Inv X pins σ H { s with heap:=h',toks:=t' }:=by
 have nit:∀ b u,H b=some u->b≠e/\b≠it:=λ b u q=>⟨λ z=>by (rw [z,fe.1] at q;cases q),λ z=>by (rw [z,fi.1] at q;cases q)⟩
 have out:∀ {b},b∉[e,it]->b≠e/\b≠it:=λ hc=>⟨λ z=>hc (by simp [z]),λ z=>hc (by simp [z])⟩
 refine I.step (g':=s.gens) (d':=s.drawn) (ch:=[e,it]) (λ b hb=>?_) (λ b o _ _ hc e _=>k b o (out hc).1 (out hc).2 e) (λ b o _ _ hc e _=>⟨o.slots,k b o (out hc).1 (out hc).2 e⟩) (λ _ _ _ _ n=>n)
  (λ b o hc e=>⟨o,k b o (out hc).1 (out hc).2 e⟩) (λ _ _ e=>e) (λ _ _ _ e=>e) (λ b ps e=>⟨#[],by rw [e];simp⟩) (λ m hm=>?_) (λ b u q=>?_) I.bare
 ·rcases List.mem_cons.mp hb with rfl|hb
  ·exact ⟨fe.2.2.2.1,fe.2.1,fe.2.2.2.2.1,fe.2.2.2.2.2⟩
  ·have:=List.mem_singleton.mp hb
   subst this
   exact ⟨fi.2.2.2.1,fi.2.1,fi.2.2.2.2.1,fi.2.2.2.2.2⟩
 ·obtain ⟨o,es,ep,ho,r⟩:=hm
  exact ⟨o,es,ep,k _ o (Ne.symm fe.2.1) (Ne.symm fi.2.1) ho,r⟩
 ·refine (I.hok b u q).stay (λ c v hc q'=>?_) (λ _ q=>q) λ _ _ q=>q
  have n:c≠e/\c≠it:=by
   rcases hc with z|z
   ·rw [z];exact nit b u q
   ·exact nit c _ z
  exact k c v n.1 n.2 q'
end
def SqB (K:W.Frag)(H:Hp)(b:Bool)(a:Addr)(xs:List V):Prop:=if b=true then SqT K H a xs else SqL K H a xs
def ItB (h:Heap)(b:Bool)(it a:Addr)(i:Nat):Prop:=if b=true then h.IsTupleIter it a i else h.IsListIter it a i
def Iten (K:W.Frag)(b:Bool)(a:Addr):It :=
 ⟨λ i H=>∃ xs x,SqB K H b a xs/\xs[i]?=some x,
  λ i H x H'=>∃ p y,H p=none/\x=.ref p/\H'=upd H p (.tup [.int i,y])/\∀ xs,SqB K H b a xs->xs[i]?=some y,
  λ i H=>∃ xs,SqB K H b a xs/\xs.length=i⟩
def tnE (b:Bool)(e it a:Addr)(i:Nat)(h:Heap):Prop:=(∃ old,IsEnum h e it i old)/\ItB h b it a i
section
variable {X:Cx}{pins:List (Addr×Obj)}{σ:St}{H:Hp}{s:Shared}
theorem SqB.draws {b:Bool}{a e it:Addr}{i:Nat}{xs:List V}{old:Value}(I:Inv X pins σ H s)(hh:X.A.handled=none)(hq:SqB X.K H b a xs)(he:IsEnum s.heap e it i old)(hi:ItB s.heap b it a i) :
  ∃ (its:List Value) (St':Nat->Heap->Prop),Vals xs its/\e≠it/\e∉[it,a]/\St' i s.heap/\Draws X.prog X.w X.A.in1 it [it,a] its.length (λ i v=>its[i]?=some v) St'/\(∀ j h,St' j h->ItB h b it a j):=by
 have hh1:X.A.in1.handled=none:=hh
 cases b with
 | true =>
  have hq:SqT X.K H a xs:=hq
  have hi:s.heap.IsTupleIter it a i:=hi
  obtain ⟨its,rv,p,hz⟩:=I.tuple hq
  have p:s.heap.IsTuple a its.toArray:=p
  obtain ⟨o1,e1,c1,d1⟩:=id hi
  obtain ⟨o2,e2,c2,n2,d2⟩:=id p
  have n1:e≠it:=λ z=>by rw [z] at he;rw [he] at e1;cases e1;exact absurd (show Value.type "enumerate" = Value.type "tuple_iterator" from c1) (by decide)
  have n2:a≠it:=λ z=>by rw [z] at e2;rw [e2] at e1;cases e1;rw [c1] at c2;exact absurd c2 (by decide)
  have n3:e≠a:=λ z=>by rw [z] at he;rw [he] at e2;cases e2;exact absurd (show Value.type "enumerate" = Value.type "tuple" from c2) (by decide)
  refine ⟨its,λ j h=>h.IsTupleIter it a j/\h.IsTuple a its.toArray,rv,n1,by simp [n1,n3],⟨hi,p⟩,?_,λ j h q=>q.1⟩
  have:=qbH (prog:=X.prog) (w:=X.w) hh1 it a n2 its.toArray
  simpa using this
 | false =>
  have hq:SqL X.K H a xs:=hq
  have hi:s.heap.IsListIter it a i:=hi
  obtain ⟨its,rv,p0,hz⟩:=I.list hq
  have p:=p0.isList
  obtain ⟨o1,e1,c1,d1⟩:=id hi
  obtain ⟨o2,e2,c2,n2,d2⟩:=id p
  have n1:e≠it:=λ z=>by rw [z] at he;rw [he] at e1;cases e1;exact absurd (show Value.type "enumerate" = Value.type "list_iterator" from c1) (by decide)
  have n2:a≠it:=λ z=>by rw [z] at e2;rw [e2] at e1;cases e1;rw [c1] at c2;exact absurd c2 (by decide)
  have n3:e≠a:=λ z=>by rw [z] at he;rw [he] at e2;cases e2;exact absurd (show Value.type "enumerate" = Value.type "list" from c2) (by decide)
  refine ⟨its,λ j h=>h.IsListIter it a j/\h.IsList a its.toArray,rv,n1,by simp [n1,n3],⟨hi,p⟩,?_,λ j h q=>q.1⟩
  have:=Draws.list (prog:=X.prog) (w:=X.w) hh1 it a n2 its.toArray
  simpa using this
theorem SqB.inj {b:Bool}{a:Addr}{xs ys:List V}(I:Inv X pins σ H s)(h1:SqB X.K H b a xs)(h2:SqB X.K H b a ys):xs=ys:=by
 cases b with
 | true=>exact I.tuple_inj h1 h2
 | false=>exact I.list_inj h1 h2
theorem ItB.but {h h':Heap}{b:Bool}{it a e:Addr}{i:Nat}(q:ItB h b it a i)(n:it≠e)(hs:∀ c o,c≠e->h.get? c=some o->h'.get? c=some o):ItB h' b it a i:=by
 cases b with
 | true=>obtain ⟨o,ho,r⟩:=(show h.IsTupleIter it a i from q);exact (show h'.IsTupleIter it a i from ⟨o,hs _ o n ho,r⟩)
 | false=>obtain ⟨o,ho,r⟩:=(show h.IsListIter it a i from q);exact (show h'.IsListIter it a i from ⟨o,hs _ o n ho,r⟩)
theorem ItB.obj {h:Heap}{b:Bool}{it a:Addr}{i:Nat}(q:ItB h b it a i):∃ o,h.get? it=some o/\∀ v,o.data≠.cell v:=by
 cases b with
 | true=>obtain ⟨o,ho,c,d⟩:=(show h.IsTupleIter it a i from q);exact ⟨o,ho,λ v z=>by rw [d] at z;cases z⟩
 | false=>obtain ⟨o,ho,c,d⟩:=(show h.IsListIter it a i from q);exact ⟨o,ho,λ v z=>by rw [d] at z;cases z⟩
end
theorem qfJ {P:Program}{w:World}{K:W.Frag}{ts:List Expr}{kk:Nat}{tp:Pos}(b:Bool)(a e it:Addr):Turn P w K (.Tuple ts kk tp) (Iten K b a) [e,it] e (tnE b e it a) where
 mem:=by simp
 obj:=λ i h ⟨⟨old,he⟩,hi⟩ c hc=>by
  rcases List.mem_cons.mp hc with rfl|hc
  ·exact ⟨_,he,λ v z=>by cases z⟩
  ·have:=List.mem_singleton.mp hc
   subst this
   exact hi.obj
 keep:=λ i h h' ⟨⟨old,he⟩,hi⟩ k=>by
  refine ⟨⟨old,k e (by simp) _ he⟩,?_⟩
  cases b with
  | true=>obtain ⟨o,ho,r⟩:=(show h.IsTupleIter it a i from hi);exact (show h'.IsTupleIter it a i from ⟨o,k it (by simp) o ho,r⟩)
  | false=>obtain ⟨o,ho,r⟩:=(show h.IsListIter it a i from hi);exact (show h'.IsListIter it a i from ⟨o,k it (by simp) o ho,r⟩)
 item:=by
  intro X hP hw hK hc i pins s σ H E I hf st hg
  subst hP hw hK
  obtain ⟨xs,x,hq,hx⟩:=hg
  obtain ⟨⟨old,he⟩,hi⟩:=st
  obtain ⟨its,St',rv,n1,n2,st,D,back⟩:=SqB.draws I (I.ok.hd hc) hq he hi
  obtain ⟨u,hu,ru⟩:=rv.get hx
  have hlt:i<its.length:=by
   rcases Nat.lt_or_ge i its.length with z|z
   ·exact z
   ·rw [List.getElem?_eq_none z] at hu;cases hu
  refine wpAny_pyNext_enum_itemD D he st hlt n1 n2 λ x' h' tk hP heo st' ht hsz hk=>?_
  have ex:x'=u:=by rw [hu] at hP;cases hP;rfl
  subst ex
  refine ⟨_,rfl,wpAny_letOwnedTupleGo_enum heo λ h2 he2 hs2=>?_⟩
  have hs2:Heap.SameBut e h' h2:=hs2
  have k2:∀ c o,c≠e->h'.get? c=some o->h2.get? c=some o:=λ c o hc q=>(hs2.2 c hc).trans q
  have I1:Inv X pins σ H { s with heap:=h2,toks:=tk+1 }:=I.turned2 (λ c o hc1 hc2 q=>k2 c o hc1 (hk c o hc1 hc2 q)) (hf e (by simp)) (hf it (by simp))
  have hn:H s.heap.objs.size=none:=I.hok.fresh (Nat.le_refl _)
  have fT:FpOk X pins H s.heap.objs.size:=I.fpOk (Nat.le_refl _) hn
  have neT:s.heap.objs.size≠e:=Nat.ne_of_gt (Heap.lt_size he)
  have hit:it≠s.heap.objs.size:=by
   obtain ⟨o,ho,_⟩:=hi.obj
   exact Nat.ne_of_lt (Heap.lt_size ho)
  have ok:Zy X.prog X.w (upd H s.heap.objs.size (.tup [.int i,x])) h2 s.heap.objs.size (.tup [.int i,x]) :=
   ⟨Nat.le_of_lt (zX (show 2<=1000 by decide)),[.int i tk,x'],.cons ⟨tk,rfl⟩ (.cons ru .nil),⟨_,k2 _ _ neT ht,rfl,_,rfl⟩⟩
  refine ⟨.ref s.heap.objs.size,upd H s.heap.objs.size (.tup [.int i,x]),I1.track hn fT.2.1 fT.2.2.2.1 fT.2.2.2.2.1 fT.2.2.2.2.2 ok,rfl,⟨_,x,hn,rfl,rfl,λ ys hy=>by rw [SqB.inj I hy hq];exact hx⟩,⟨⟨x',he2⟩,(back _ _ st').but (Ne.symm n1) k2⟩,λ c hc=>?_⟩
  rcases List.mem_cons.mp hc with rfl|hc
  ·rw [qO (Ne.symm neT)];exact (hf _ (by simp)).1
  ·have:=List.mem_singleton.mp hc
   subst this
   rw [qO hit];exact (hf _ (by simp)).1
 done:=by
  intro X hP hw hK hc i pins s σ H E I hf st hg
  subst hP hw hK
  obtain ⟨xs,hq,hx⟩:=hg
  obtain ⟨⟨old,he⟩,hi⟩:=st
  obtain ⟨its,St',rv,n1,n2,st,D,back⟩:=SqB.draws I (I.ok.hd hc) hq he hi
  have hl:=rv.length
  have hi':i=its.length:=by omega
  subst hi'
  obtain ⟨f0,f1,f2,f3,f4,f5⟩:=hf it (by simp)
  exact wpAny_pyNext_enum_endD D he st λ h' eb=>⟨rfl,I.turned (t':=s.toks) (λ c o hc e=>eb c o hc e) f0 f1 f3 f4 f5⟩
 self:=λ _ _ _ _ _ ⟨⟨old,he⟩,_⟩ h=>wpAny_pyIter_enum he h
theorem wu:bootBuiltins "enumerate" = some (.type "enumerate"):=by decide +kernel
section
variable {X:Cx}{pins:List (Addr×Obj)}{σ:St}{H:Hp}{s:Shared}
theorem qe4 {b:Bool}{a:Addr}{xs:List V}{E:Value->Shared->Prop}{Q:Value->Shared->Prop}(I:Inv X pins σ H s)(hq:SqB X.K H b a xs)
  (h:∀ (h':Heap) (t':Nat),tnE b (s.heap.objs.size+1) s.heap.objs.size a 0 h'->(∀ c o,s.heap.get? c=some o->h'.get? c=some o)->Q (.ref (s.heap.objs.size+1)) { s with heap:=h',toks:=t' }) :
  wpAny (model X.prog X.w) X.A (call (.type "enumerate") [.ref a]) Q E s:=by
 cases b with
 | true =>
  have hq:SqT X.K H a xs:=hq
  obtain ⟨its,rv,⟨⟨cls,dd,data,sl⟩,g1,g2,n,g3⟩,hz⟩:=I.tuple hq
  simp only at g2 g3
  subst g2 g3
  have hz:(s.heap.push { cls:=.type "tuple_iterator", data:=.fields #[.ref a,.int 0 0] }).objs.size=s.heap.objs.size+1:=by rw [Heap.size_push]
  refine callType_new F.called_enumerate (by decide) (F.typeCall_enumerate_1 _) (F.newCall_enumerate_1 _) (λ obj=>F.args_object_init_2 obj _) F.entry_enumerate_new (qe6 a its.toArray n dd sl) ⟨g1,?_⟩
  refine (id ?_:_/\_)
  rw [hz]
  have he:IsEnum ((s.heap.push { cls:=.type "tuple_iterator", data:=.fields #[.ref a,.int 0 0] }).push { cls:=.type "enumerate", data:=.fields #[.none,.bool false,.ref s.heap.objs.size,rawInt 0,.none,.none] }) (s.heap.objs.size+1) s.heap.objs.size 0 .none:=by
   have z:=Heap.get?_push_size (s.heap.push { cls:=.type "tuple_iterator", data:=.fields #[.ref a,.int 0 0] }) (o:={ cls:=.type "enumerate", data:=.fields #[.none,.bool false,.ref s.heap.objs.size,rawInt 0,.none,.none] }) rfl
   rw [hz] at z
   exact z
  exact ⟨⟨_,he,rfl⟩,h _ s.toks ⟨⟨_,he⟩,(show Heap.IsTupleIter _ _ _ _ from ⟨_,Heap.get?_push_of_some _ (Heap.get?_push_size _ rfl),rfl,rfl⟩)⟩ λ c o x=>Heap.get?_push_of_some _ (Heap.get?_push_of_some _ x)⟩
 | false =>
  have hq:SqL X.K H a xs:=hq
  obtain ⟨its,rv,⟨⟨cls,dd,data,sl⟩,n,g1,g2,_,g3⟩,hz⟩:=I.list hq
  simp only at g2 g3
  subst g2 g3
  have hz:(s.heap.push { cls:=.type "list_iterator", data:=.fields #[.ref a,.int 0 0] }).objs.size=s.heap.objs.size+1:=by rw [Heap.size_push]
  refine callType_new F.called_enumerate (by decide) (F.typeCall_enumerate_1 _) (F.newCall_enumerate_1 _) (λ obj=>F.args_object_init_2 obj _) F.entry_enumerate_new (meets_enumerate_newL a its.toArray n dd sl) ⟨g1,?_⟩
  refine (id ?_:_/\_)
  rw [hz]
  have he:IsEnum ((s.heap.push { cls:=.type "list_iterator", data:=.fields #[.ref a,.int 0 0] }).push { cls:=.type "enumerate", data:=.fields #[.none,.bool false,.ref s.heap.objs.size,rawInt 0,.none,.none] }) (s.heap.objs.size+1) s.heap.objs.size 0 .none:=by
   have z:=Heap.get?_push_size (s.heap.push { cls:=.type "list_iterator", data:=.fields #[.ref a,.int 0 0] }) (o:={ cls:=.type "enumerate", data:=.fields #[.none,.bool false,.ref s.heap.objs.size,rawInt 0,.none,.none] }) rfl
   rw [hz] at z
   exact z
  exact ⟨⟨_,he,rfl⟩,h _ s.toks ⟨⟨_,he⟩,(show Heap.IsListIter _ _ _ _ from ⟨_,Heap.get?_push_of_some _ (Heap.get?_push_size _ rfl),rfl,rfl⟩)⟩ λ c o x=>Heap.get?_push_of_some _ (Heap.get?_push_of_some _ x)⟩
end
def iEnum (K:W.Frag)(ta:TA):TI:=λ σ H R=>ta σ H λ vs H1=>∃ a b xs,vs=[.ref a]/\SqB K H1 b a xs/\R (Iten K b a) H1
section
variable {X:Cx}{M:List Nat}{a:Expr}{es:List Expr}{f:Rho->Option PyData}{pos:Pos}
theorem qiT {ts:List Expr}{kk:Nat}{tp:Pos}{ta:TA}{p:Pos}(hg:Gl X "enumerate")(hm:X.mg "enumerate" = none)(ha:PA X [a] ta)(hs:starEach [a] X.env=[(false,eval a X.env)]:=by rfl):PI X (.Tuple ts kk tp) (.Call (.Name "enumerate" p) [a] [] pos) (iEnum X.K ta):=by
 intro pins s σ H R I h
 refine Call_ (ye I hg hm wu (PyProof.Rows.callWith_type1 (thn (ha pos pins s σ H _ I h) λ us s1 ⟨vs,H1,I1,r1,q1⟩=>?_) hs rfl) (by decide +kernel) (by decide +kernel))
 obtain ⟨p',b,xs,e,hq,q⟩:=q1
 subst e
 obtain ⟨u,rfl,ru⟩:=r1.one
 cases ru
 refine qe4 I1 hq λ h' t' tn k=>wpAny_pyIter_enum tn.1.choose_spec ?_
 have I2:Inv X pins σ H1 { s1 with heap:=h',toks:=t' }:=I1.kept (t':=t') k
 refine ⟨_,[s1.heap.objs.size+1,s1.heap.objs.size],tnE b (s1.heap.objs.size+1) s1.heap.objs.size p',Iten X.K b p',H1,rfl,I2,qfJ b p' _ _,tn,λ c hc=>?_,q⟩
 rcases List.mem_cons.mp hc with rfl|hc
 ·exact I1.fpOk (Nat.le_succ _) (I1.hok.fresh (Nat.le_succ _))
 ·have:=List.mem_singleton.mp hc
  subst this
  exact I1.fpOk (Nat.le_refl _) (I1.hok.fresh (Nat.le_refl _))
def enL:Nat->List PyData->List PyData
 | _,[]=>[]
 | n,d::ds=>.tuple [.int (n:Nat),d]::enL (n+1) ds
theorem J8:∀ (n:Nat) (ds:List PyData),(enL n ds).length=ds.length
 | _,[]=>rfl
 | n,_::ds=>by rw [enL,List.length_cons,List.length_cons,J8]
theorem qd6:∀ (n i:Nat) (ds:List PyData) (d:PyData),(enL n ds)[i]?=some d->∃ e,ds[i]?=some e/\d=.tuple [.int ((n+i:Nat)),e]
 | _,_,[],_,h=>by simp [enL] at h
 | n,0,e::ds,d,h=>by simp [enL] at h;subst h;exact ⟨e,rfl,rfl⟩
 | n,i+1,e::ds,d,h=>by
  obtain ⟨e',h1,h2⟩:=qd6 (n+1) i ds d (by simpa [enL] using h)
  refine ⟨e',by simpa using h1,?_⟩
  rw [h2]
  congr 3
  congr 1
  omega
theorem SqB.same {K:W.Frag}{H H':Hp}{b:Bool}{l:Addr}{xs:List V}(e:Same H H')(h:SqB K H b l xs):SqB K H' b l xs:=by
 cases b with
 | true=>exact e.sqT h
 | false=>exact e.seq h
theorem IsIt.enum {K:W.Frag}{H:Hp}{S:Av}{b:Bool}{l:Addr}{xs:List V}{ds:List PyData}(h:SqB K H b l xs)(t:DenL K H S xs ds):IsIt K S (Iten K b l) H (enL 0 ds) where
 go:=λ i H' e hi=>by
  rw [J8] at hi
  have hi':i<xs.length:=by rw [t.length];exact hi
  exact ⟨xs,xs[i],h.same e,List.getElem?_eq_getElem hi'⟩
 yld:=λ i H' x H2 e ⟨p,y,hp,ex,e2,q⟩=>by
  subst ex e2
  refine ⟨Same.lay hp,λ d hd S' w=>?_⟩
  obtain ⟨de,h1,rfl⟩:=qd6 0 i ds d hd
  obtain ⟨v,h2,h3⟩:=t.get h1
  have:=q xs (h.same e)
  rw [h2] at this
  cases this
  rw [Nat.zero_add]
  exact .tuple (SqT.of q9) (.cons (.int _) (.cons (w _ _ h3) .nil))
 stop:=λ H' e=>⟨xs,h.same e,by rw [J8,t.length]⟩
def W8:PyData->Option (List PyData)
 | .list ds=>some (enL 0 ds)
 | .tuple ds=>some (enL 0 ds)
 | _=>none
theorem qcq {ts:List Expr}{kk:Nat}{tp p:Pos}(hg:Gl X "enumerate")(hm:X.mg "enumerate" = none)(ha:PD X M a f)(hs:starEach [a] X.env=[(false,eval a X.env)]:=by rfl):PDI X M (.Tuple ts kk tp) (.Call (.Name "enumerate" p) [a] [] pos) (evI f W8) :=
 (qiT hg hm (qb ha qg hs) hs).weak λ σ H R ⟨S,ρ,ds,hs,e,w⟩=>by
  obtain ⟨x,e1,e⟩:=qi e
  refine ⟨S,ρ,[x],hs,by show ob (f ρ) _=_;rw [e1];rfl,λ vs H1 g1 dl=>?_⟩
  obtain ⟨v,rfl,dv⟩:=dl.inv1
  cases dv with
  | list h t=>cases e;exact ⟨_,false,_,rfl,h.sq,w _ _ g1 λ H2 o=>IsIt.enum (b:=false) (h.off o).sq (t.off (hs.1.same g1) o)⟩
  | tuple h t=>cases e;exact ⟨_,true,_,rfl,h,w _ _ g1 λ H2 o=>IsIt.enum (b:=true) (h.off (hs.1.same g1) o) (t.off (hs.1.same g1) o)⟩
  | _=>cases e
theorem qh4 (ds:List PyData):W8 (.list ds)=some (enL 0 ds):=rfl
theorem qh5 (ds:List PyData):W8 (.tuple ds)=some (enL 0 ds):=rfl
theorem enL_n (n:Nat):enL n []=[]:=rfl
theorem enL_c (n:Nat)(d:PyData)(ds:List PyData):enL n (d::ds)=.tuple [.int (n:Nat),d]::enL (n+1) ds:=rfl
def qdV (o:Option Rho)(k:Nat)(g:PyData->Rho->Option Rho)(tt:Rho->Option Bool)(te:Rho->Option PyData)(ρ:Rho)(ds:List PyData):Option (List PyData):=match o with
 | some ρ1=>(match tt ρ1 with | some true=>J2 (te ρ1) (Q7 k g tt te ρ ds)|some false=>Q7 k g tt te ρ ds|none=>none)
 | none=>none
theorem qd2 (k:Nat)(g:PyData->Rho->Option Rho)(tt:Rho->Option Bool)(te:Rho->Option PyData)(ρ:Rho)(d:PyData)(ds:List PyData):Q7 k g tt te ρ (d::ds)=qdV (g d (ρ++List.replicate k none)) k g tt te ρ ds:=by
 rw [Q7]
 unfold ob qdV J2
 cases g d (ρ++List.replicate k none) with
 | none=>rfl
 | some ρ1 =>
  dsimp only
  cases tt ρ1 with
  | none=>rfl
  | some b =>
   cases b with
   | false=>rfl
   | true=>cases te ρ1<;>cases Q7 k g tt te ρ ds<;>rfl
theorem qhW (k:Nat)(g:PyData->Rho->Option Rho)(tt:Rho->Option Bool)(te:Rho->Option PyData)(ρ:Rho):Q7 k g tt te ρ []=some []:=rfl
def qbB (b:Option Bool)(y:Option PyData)(r:Option (List PyData)):Option (List PyData):=match b with | some true=>J2 y r|some false=>r|none=>none
theorem qdW (ρ1:Rho)(k:Nat)(g:PyData->Rho->Option Rho)(tt:Rho->Option Bool)(te:Rho->Option PyData)(ρ:Rho)(ds:List PyData):qdV (some ρ1) k g tt te ρ ds=qbB (tt ρ1) (te ρ1) (Q7 k g tt te ρ ds):=by
 unfold qdV qbB
 rfl
theorem qdU (y:Option PyData)(r:Option (List PyData)):qbB (some true) y r=J2 y r:=rfl
theorem qhS (y:Option PyData)(r:Option (List PyData)):qbB (some false) y r=r:=rfl
def qf7 (a:Option (List PyData))(n k:Nat)(g:PyData->Rho->Option Rho)(tt:Rho->Option Bool)(te:Rho->Option PyData)(ρ:Rho):Option PyData:=match a with | some ds=>if ρ.length=n/\ds.length<=1000 then Wl (Q7 k g tt te ρ ds) else none|none=>none
theorem qhU (n k:Nat)(fi:Rho->Option (List PyData))(g:PyData->Rho->Option Rho)(tt:Rho->Option Bool)(te:Rho->Option PyData)(ρ:Rho):Jj n k fi g tt te ρ=qf7 (fi ρ) n k g tt te ρ:=by
 unfold Jj ob qf7 Wl
 cases fi ρ with
 | none=>rfl
 | some ds =>
  dsimp only
  split
  ·cases Q7 k g tt te ρ ds<;>rfl
  ·rfl
theorem qhQ (ds:List PyData)(n k:Nat)(g:PyData->Rho->Option Rho)(tt:Rho->Option Bool)(te:Rho->Option PyData)(ρ:Rho):qf7 (some ds) n k g tt te ρ=if ρ.length=n/\ds.length<=1000 then Wl (Q7 k g tt te ρ ds) else none:=rfl
end
def k1Of:PyData->Option (Int ⊕ List Int)
 | .int i=>some (.inl i)
 | .tuple ds=>ob (intsOf ds) λ js=>some (.inr js)
 | _=>none
def qgB:List PyData->Option K2
 | []=>some []
 | d::ds=>ob (k1Of d) λ k=>ob (qgB ds) λ ks=>some (k::ks)
def k2Of:PyData->Option K2
 | .tuple ds=>qgB ds
 | _=>none
theorem qfd {d:PyData}{k:Int ⊕ List Int}(e:k1Of d=some k):d=k2D k:=by
 unfold k1Of at e
 split at e
 ·cases e;rfl
 ·obtain ⟨js,e1,e⟩:=qi e
  cases e
  rw [Y5 e1];rfl
 ·cases e
theorem Wh:∀ {ds:List PyData} {ks:K2},qgB ds=some ks->ds=ks.map k2D
 | [],_,e=>by cases e;rfl
 | d::ds,_,e=>by
  obtain ⟨k,e1,e⟩:=qi e
  obtain ⟨ks,e2,e⟩:=qi e
  cases e
  rw [qfd e1,Wh e2];rfl
theorem qfe {d:PyData}{ks:K2}(e:k2Of d=some ks):d=k2T ks:=by
 unfold k2Of at e
 split at e
 ·rw [Wh e];rfl
 ·cases e
def kxOf:PyData->Option KX
 | .int i=>some (.inl i)
 | d=>ob (k2Of d) λ ks=>some (.inr ks)
theorem Zb {d:PyData}{k:KX}(e:kxOf d=some k):d=kxD k:=by
 unfold kxOf at e
 split at e
 ·cases e;rfl
 ·obtain ⟨ks,e1,e⟩:=qi e
  cases e
  exact qfe e1
def kOk (kvs:List (PyData×PyData))(k:KX):Bool:=kvs.all λ p=>qgx p.1==kxI k
theorem qbX:∀ js:List Int,PyData.canLayAll0 (js.map .int)=true
 | []=>rfl
 | j::js=>by rw [List.map_cons,PyData.canLayAll0,PyData.canLay0,qbX js];rfl
theorem qdh:∀ ks:K2,PyData.canLayAll0 (ks.map k2D)=true
 | []=>rfl
 | .inl i::ks=>by rw [List.map_cons,PyData.canLayAll0,qdh ks];rfl
 | .inr js::ks=>by
  rw [List.map_cons,PyData.canLayAll0,qdh ks]
  show (PyData.canLay0 (.tuple (js.map .int))&&true)=true
  rw [PyData.canLay0,qbX];rfl
theorem qei (ks:K2):(k2T ks).canLay0=true:=by unfold k2T;rw [PyData.canLay0];exact qdh ks
theorem qik (c:Str)(d:PyData)(ks:KX):kOk [(.str c,d),(.int 0,.none)] ks=false:=by
 cases ks with
 | inl i=>rfl
 | inr k=>rfl
theorem Jp {α β:Type}{a:Option β}{g:β->KX}{F:β->Option α}{c:Str}{d:PyData}{r:α}(e:(ob a λ ks=>if kOk [(.str c,d),(.int 0,.none)] (g ks)=true then F ks else none)=some r):False:=by
 obtain ⟨ks,_,e⟩:=qi e
 rw [qik] at e
 cases e
def zj (kvs:List (PyData×PyData))(ks:KX):Option PyData:=(kvs.find? λ p=>PyData.eqv p.1 (kxD ks)).map (·.2)
def putD (kvs:List (PyData×PyData))(ks:KX)(v:PyData):List (PyData×PyData) :=
 if (zj kvs ks).isSome=true then kvs.map (λ p=>if PyData.eqv p.1 (kxD ks)=true then (p.1,v) else p) else kvs++[(kxD ks,v)]
def putV (kvs:List (KX×Addr×V))(ks:KX)(b:Addr)(v:V):List (KX×Addr×V) :=
 if (kvs.any λ p=>decide (p.1=ks))=true then kvs.map (λ p=>if p.1=ks then (p.1,p.2.1,v) else p) else kvs++[(ks,b,v)]
section
variable {K:W.Frag}{H:Hp}{S:Av}
theorem QD (p:KX×Addr×V)(kvs:List (KX×Addr×V))(d:PyData)(ds:List PyData):dkv (p::kvs) (d::ds)=(kxD p.1,d)::dkv kvs ds:=rfl
theorem JN {k:KX}{d:PyData}{kvs:List (PyData×PyData)}{ks:KX}(e:k=ks):zj ((kxD k,d)::kvs) ks=some d:=by
 unfold zj
 rw [List.find?_cons,yP,decide_eq_true e];rfl
theorem JM {k:KX}{d:PyData}{kvs:List (PyData×PyData)}{ks:KX}(e:k≠ks):zj ((kxD k,d)::kvs) ks=zj kvs ks:=by
 unfold zj
 rw [List.find?_cons,yP,decide_eq_false e]
theorem yo {α β:Type}{R:α->β->Prop}{a:α}{b:β}:∀ {as:List α} {bs:List β},Paired R as bs->R a b->Paired R (as++[a]) (bs++[b])
 | _,_,.nil,h=>.cons h .nil
 | _,_,.cons h t,q=>.cons h (yo t q)
theorem qeB {ks:KX}{v:V}{d:PyData}(dv:Den K H S v d):∀ {kvs:List (KX×Addr×V)} {ds:List PyData},DenL K H S (kvs.map (·.2.2)) ds->∃ ds',DenL K H S ((kvs.map λ p=>if p.1=ks then (p.1,p.2.1,v) else p).map (·.2.2)) ds'/\dkv (kvs.map λ p=>if p.1=ks then (p.1,p.2.1,v) else p) ds'=(dkv kvs ds).map (λ p=>if PyData.eqv p.1 (kxD ks)=true then (p.1,d) else p)
 | [],_,t=>by cases t;exact ⟨[],.nil,rfl⟩
 | p::kvs,_,t=>by
  cases t with
  | @cons _ d0 _ ds dv0 t' =>
   obtain ⟨ds',h1,h2⟩:=qeB dv t'
   rw [List.map_cons,List.map_cons,QD,List.map_cons,yP]
   by_cases e:p.1=ks
   ·refine ⟨d::ds',?_,?_⟩
    ·rw [if_pos e];exact .cons dv h1
    ·rw [if_pos e,QD,h2,if_pos (decide_eq_true e)]
   ·refine ⟨d0::ds',?_,?_⟩
    ·rw [if_neg e];exact .cons dv0 h1
    ·rw [if_neg e,QD,h2,if_neg (λ z=>e (of_decide_eq_true z))]
theorem qbF {kvs:List (KX×Addr×V)}{ds:List PyData}(hl:kvs.length=ds.length)(p:KX×Addr×V)(d:PyData):dkv (kvs++[p]) (ds++[d])=dkv kvs ds++[(kxD p.1,d)]:=by
 unfold dkv
 rw [List.map_append,List.zip_append (by rw [List.length_map,hl])]
 rfl
theorem qcA {ks:KX}{b:Addr}{v:V}{d:PyData}{kvs:List (KX×Addr×V)}{ds:List PyData}(t:DenL K H S (kvs.map (·.2.2)) ds)(dv:Den K H S v d)(he:(kvs.any λ p=>decide (p.1=ks))=(zj (dkv kvs ds) ks).isSome) :
  ∃ ds',DenL K H S ((putV kvs ks b v).map (·.2.2)) ds'/\dkv (putV kvs ks b v) ds'=putD (dkv kvs ds) ks d:=by
 have hl:kvs.length=ds.length:=by
  have:=t.length
  rwa [List.length_map] at this
 unfold putV putD
 rw [he]
 split
 ·exact qeB dv t
 ·refine ⟨ds++[d],?_,qbF hl _ _⟩
  rw [List.map_append]
  exact t.append (.cons dv .nil)
theorem qcx {ks:KX}{b:Addr}{v:V}{kvs:List (KX×Addr×V)}(k:DenL K H S (kvs.map λ p=>kxV p.1 p.2.1) (kvs.map λ p=>kxD p.1))(dk:Den K H S (kxV ks b) (kxD ks)):DenL K H S ((putV kvs ks b v).map λ p=>kxV p.1 p.2.1) ((putV kvs ks b v).map λ p=>kxD p.1):=by
 unfold putV
 split
 ·have e1:(kvs.map λ p=>if p.1=ks then (p.1,p.2.1,v) else p).map (λ p=>kxV p.1 p.2.1)=kvs.map λ p=>kxV p.1 p.2.1:=by
   rw [List.map_map]
   refine List.map_congr_left λ p _=>?_
   show kxV (if p.1=ks then (p.1,p.2.1,v) else p).1 (if p.1=ks then (p.1,p.2.1,v) else p).2.1=_
   split<;>rfl
  have e2:(kvs.map λ p=>if p.1=ks then (p.1,p.2.1,v) else p).map (λ p=>kxD p.1)=kvs.map λ p=>kxD p.1:=by
   rw [List.map_map]
   refine List.map_congr_left λ p _=>?_
   show kxD (if p.1=ks then (p.1,p.2.1,v) else p).1=_
   split<;>rfl
  rw [e1,e2];exact k
 ·rw [List.map_append,List.map_append]
  exact k.append (.cons dk .nil)
end
section
variable {K:W.Frag}{H:Hp}{S:Av}
theorem jY {kvs:List (KX×Addr×V)}{ds:List PyData}{k:KX}(hl:kvs.length=ds.length)(h:kOk (dkv kvs ds) k=true):∀ p∈kvs,kxI p.1=kxI k:=by
 intro p hp
 have hm:kxD p.1∈(dkv kvs ds).map (·.1):=by rw [qbE hl];exact List.mem_map.mpr ⟨p,hp,rfl⟩
 obtain ⟨q,hq,e⟩:=List.mem_map.mp hm
 have:=List.all_eq_true.mp h q hq
 rw [e,qde] at this
 simpa using this
theorem Z8 (ks:K2):∀ {kvs:List (KX×Addr×V)} {xs:List (K2×Addr×Value)} {ds:List PyData},Paired PkT kvs xs->DenL K H S (kvs.map (·.2.2)) ds->
  (zj (dkv kvs ds) (.inr ks)=none/\atKey xs ks=none/\(kvs.any λ p=>decide (p.1=.inr ks))=false)\/∃ d b y u,zj (dkv kvs ds) (.inr ks)=some d/\atKey xs ks=some (b,u)/\RelV y u/\Den K H S y d/\(kvs.any λ p=>decide (p.1=.inr ks))=true
 | [],_,_,r,t=>by
  cases r
  cases t
  exact .inl ⟨rfl,rfl,rfl⟩
 | p::kvs,_,_,r,t=>by
  cases r with
  | @cons _ q _ qs h r' =>
   cases t with
   | @cons _ d _ ds dv t' =>
    rw [QD]
    by_cases e:p.1=.inr ks
    ·refine .inr ⟨d,q.2.1,p.2.2,q.2.2,JN e,?_,h.2.2,dv,by rw [List.any_cons,decide_eq_true e,Bool.true_or]⟩
     unfold atKey
     have eq:q.1=ks:=Sum.inr.inj (h.1.symm.trans e)
     rw [List.find?_cons,decide_eq_true eq];rfl
    ·have e':¬ q.1=ks:=λ z=>e (by rw [h.1,z])
     have ea:atKey (q::qs) ks=atKey qs ks:=by
      unfold atKey
      rw [List.find?_cons,decide_eq_false e']
     rw [JM e,ea,List.any_cons,decide_eq_false e,Bool.false_or]
     exact Z8 ks r' t'
theorem jD (i:Int):∀ {kvs:List (KX×Addr×V)} {vs:List (Int×Value)} {ds:List PyData},Paired PkI kvs vs->DenL K H S (kvs.map (·.2.2)) ds->
  (zj (dkv kvs ds) (.inl i)=none/\valueAt vs i=none/\(kvs.any λ p=>decide (p.1=.inl i))=false)\/∃ d y u,zj (dkv kvs ds) (.inl i)=some d/\valueAt vs i=some u/\RelV y u/\Den K H S y d/\(kvs.any λ p=>decide (p.1=.inl i))=true
 | [],_,_,r,t=>by
  cases r
  cases t
  exact .inl ⟨rfl,rfl,rfl⟩
 | p::kvs,_,_,r,t=>by
  cases r with
  | @cons _ q _ qs h r' =>
   cases t with
   | @cons _ d _ ds dv t' =>
    rw [QD]
    by_cases e:p.1=.inl i
    ·refine .inr ⟨d,p.2.2,q.2,JN e,?_,h.2,dv,by rw [List.any_cons,decide_eq_true e,Bool.true_or]⟩
     unfold valueAt
     have eq:q.1=i:=Sum.inl.inj (h.1.symm.trans e)
     rw [List.find?_cons,decide_eq_true eq];rfl
    ·have e':¬ q.1=i:=λ z=>e (by rw [h.1,z])
     have ea:valueAt (q::qs) i=valueAt qs i:=by
      unfold valueAt
      rw [List.find?_cons,decide_eq_false e']
     rw [JM e,ea,List.any_cons,decide_eq_false e,Bool.false_or]
     exact jD i r' t'
theorem Wz {ks:K2}{v:V}{u:Value}(rv:RelV v u):∀ {kvs:List (KX×Addr×V)} {xs:List (K2×Addr×Value)},Paired PkT kvs xs->Paired PkT (kvs.map λ p=>if p.1=.inr ks then (p.1,p.2.1,v) else p) (xs.map (putAt ks u))
 | [],_,r=>by cases r;exact .nil
 | p::kvs,_,r=>by
  cases r with
  | @cons _ q _ qs h r' =>
   rw [List.map_cons,List.map_cons]
   refine .cons ?_ (Wz rv r')
   unfold putAt
   by_cases e:p.1=.inr ks
   ·have eq:q.1=ks:=Sum.inr.inj (h.1.symm.trans e)
    rw [if_pos e,if_pos eq];exact ⟨h.1,h.2.1,rv⟩
   ·rw [if_neg e,if_neg (λ z=>e (by rw [h.1,z]))];exact h
theorem qcz {ks:K2}{b:Addr}{v:V}{u:Value}{kvs:List (KX×Addr×V)}{xs:List (K2×Addr×Value)}(r:Paired PkT kvs xs)(rv:RelV v u)(he:(kvs.any λ p=>decide (p.1=.inr ks))=(atKey xs ks).isSome):Paired PkT (putV kvs (.inr ks) b v) (storedH xs ks b u):=by
 unfold putV storedH
 rw [he]
 split
 ·exact Wz rv r
 ·exact yo r ⟨rfl,rfl,rv⟩
theorem Wy {i:Int}{v:V}{u:Value}(rv:RelV v u):∀ {kvs:List (KX×Addr×V)} {xs:List (Int×Value)},Paired PkI kvs xs->Paired PkI (kvs.map λ p=>if p.1=.inl i then (p.1,p.2.1,v) else p) (xs.map λ q=>if q.1=i then (q.1,u) else q)
 | [],_,r=>by cases r;exact .nil
 | p::kvs,_,r=>by
  cases r with
  | @cons _ q _ qs h r' =>
   rw [List.map_cons,List.map_cons]
   refine .cons ?_ (Wy rv r')
   by_cases e:p.1=.inl i
   ·have eq:q.1=i:=Sum.inl.inj (h.1.symm.trans e)
    rw [if_pos e,if_pos eq];exact ⟨h.1,rv⟩
   ·rw [if_neg e,if_neg (λ z=>e (by rw [h.1,z]))];exact h
theorem qdK (i:Int):∀ {kvs:List (KX×Addr×V)} {xs:List (Int×Value)},Paired PkI kvs xs->(kvs.any λ p=>decide (p.1=.inl i))=xs.any λ q=>decide (q.1=i)
 | _,_,.nil=>rfl
 | _,_,@Paired.cons _ _ _ p q _ _ h t=>by
  rw [List.any_cons,List.any_cons,qdK i t]
  by_cases e:p.1=.inl i
  ·rw [decide_eq_true e,decide_eq_true (Sum.inl.inj (h.1.symm.trans e):q.1=i)]
  ·rw [decide_eq_false e,decide_eq_false (λ z=>e (by rw [h.1,z]):¬ q.1=i)]
theorem qcy {i:Int}{b:Addr}{v:V}{u:Value}{kvs:List (KX×Addr×V)}{xs:List (Int×Value)}(r:Paired PkI kvs xs)(rv:RelV v u):Paired PkI (putV kvs (.inl i) b v) (stored xs i u):=by
 unfold putV stored
 rw [qdK i r]
 split
 ·exact Wy rv r
 ·exact yo r ⟨rfl,rv⟩
end
section
variable {X:Cx}{pins:List (Addr×Obj)}{σ:St}{H:Hp}{s:Shared}{S:Av}
theorem qej (I:Inv X pins σ H s):∀ {kvs:List (KX×Addr×V)} {xs:List (K2×Addr×Value)},Paired PkT kvs xs->DenL X.K H S (kvs.map λ p=>kxV p.1 p.2.1) (kvs.map λ p=>kxD p.1)->∀ x∈xs,Is2 s.heap x.1 x.2.1
 | _,_,.nil,_,x,hx=>by cases hx
 | _,_,@Paired.cons _ _ _ p q kvs qs h t,k,x,hx=>by
  cases k with
  | cons dk k' =>
   have dk:Den X.K H S (kxV p.1 p.2.1) (kxD p.1):=dk
   rcases List.mem_cons.mp hx with rfl|hx
   ·rw [h.1] at dk
    obtain ⟨as,r⟩:=Den.reads I dk (qei _) (u:=Value.ref x.2.1) (by rw [h.2.1];rfl)
    exact ⟨as,r⟩
   ·exact qej I t k' x hx
theorem JL (I:Inv X pins σ H s){a:Addr}{kvs:List (KX×Addr×V)}{ep:Nat}(h:H a=some (DctO a kvs ep))(k:DenL X.K H S (kvs.map λ p=>kxV p.1 p.2.1) (kvs.map λ p=>kxD p.1))(hk:∀ p∈kvs,kxI p.1=false) :
  kvs.length<=sizeLine/\(a==sysModules)=false/\∃ xs:List (K2×Addr×Value),Paired PkT kvs xs/\s.heap.DictOfH (Y6 X.prog X.w) a xs:=by
 have d:=zZ.of (I.hok a _ h)
 obtain ⟨xs,pk,o,es,h1,h2,h3,h4,h5⟩:=d.tup hk
 exact ⟨d.1,d.2.1,xs,pk,o,es,ep,h1,h2,h3,h4,qej I pk k,h5⟩
theorem Wo {P:Program}{w:World}:∀ {es:List DictEntry} {vs:List (Int×Value)},Paired EnI es vs->Pairs (intKind P w) es vs
 | _,_,.nil=>.nil
 | _,_,.cons h t=>by
  obtain ⟨_,⟨tk,h2⟩,h3⟩:=h
  exact .cons (by rw [h2];exact intKind_is P w _ tk) h3 (Wo t)
theorem qad {P:Program}{w:World}{es:Array DictEntry}{vs:List (Int×Value)}(h:Paired EnI es.toList vs):PySem.KeysOf (intKind P w) es:=by
 intro e he
 have he:e∈es.toList:=Array.mem_toList_iff.mpr he
 generalize es.toList=l at h he
 induction h with
 | nil=>cases he
 | @cons a b as bs h t ih =>
  rcases List.mem_cons.mp he with rfl|he
  ·obtain ⟨h1,⟨tk,h2⟩,_⟩:=h
   exact ⟨b.1,by rw [h2];exact intKind_is P w _ tk,h1⟩
  ·exact ih he
theorem yh {P:Program}{w:World}:∀ {es:List DictEntry} {vs:List (Int×Value)},Pairs (intKind P w) es vs->(∀ e∈es,∃ k,(intKind P w).is k e.key=true/\e.hash=(intKind P w).hash k)->Paired EnI es vs
 | _,_,.nil,_=>.nil
 | _,_,.cons h1 h2 t,hk=>by
  refine .cons ?_ (yh t λ e he=>hk e (.tail _ he))
  obtain ⟨k,g1,g2⟩:=hk _ (.head _)
  obtain ⟨tk,e⟩:=Value.isInt_shape h1
  have hkk:=(intKind P w).inj _ _ _ g1 h1
  exact ⟨by rw [g2,hkk];rfl,⟨tk,e⟩,h2⟩
theorem JK (I:Inv X pins σ H s){a:Addr}{kvs:List (KX×Addr×V)}{ep:Nat}(h:H a=some (DctO a kvs ep))(hk:∀ p∈kvs,kxI p.1=true) :
  kvs.length<=sizeLine/\(a==sysModules)=false/\∃ vs:List (Int×Value),Paired PkI kvs vs/\s.heap.DictOf (intKind X.prog X.w) a vs:=by
 have d:=zZ.of (I.hok a _ h)
 obtain ⟨vs,pk,o,es,h1,h2,h3,h4,h5⟩:=d.int hk
 exact ⟨d.1,d.2.1,vs,pk,o,es,ep,h1,h2,h3,qad h4,Wo h4,h5⟩
theorem key_is (I:Inv X pins σ H s){y:V}{u:Value}{ks:K2}(d:Den X.K H S y (k2T ks))(r:RelV y u):∃ b,y=.ref b/\u=.ref b/\Is2 s.heap ks b:=by
 obtain ⟨a,xs,e,_,_⟩:=d.tuple_inv
 subst e
 cases (show u=Value.ref a from r)
 obtain ⟨as,q⟩:=d.reads I (qei ks) (u:=.ref a) rfl
 exact ⟨a,rfl,rfl,as,q⟩
theorem jZ {y:V}{u:Value}{i:Int}(d:Den X.K H S y (.int i))(r:RelV y u):y=.int i/\∃ t,u=.int i t:=by
 cases d
 exact ⟨rfl,r⟩
end
def dgetD (d k:PyData):Option PyData:=match d with
 | .dict kvs=>ob (kxOf k) λ ks=>if kOk kvs ks=true then zj kvs ks else none
 | _=>none
def ix2D (d k:PyData):Option PyData:=match d with
 | .dict kvs=>dgetD (.dict kvs) k
 | d=>ixD d k
def in2D (k d:PyData):Option PyData:=match d with
 | .dict kvs=>ob (kxOf k) λ ks=>if kOk kvs ks=true then some (.bool (zj kvs ks).isSome) else none
 | d=>inD k d
def qam (k d:PyData):Option PyData:=match d with
 | .dict kvs=>ob (kxOf k) λ ks=>if kOk kvs ks=true then some (.bool (!(zj kvs ks).isSome)) else none
 | d=>ninD k d
def Jm (d k x:PyData):Option PyData:=match d with
 | .dict kvs=>ob (kxOf k) λ ks=>if kOk kvs ks=true then some ((zj kvs ks).getD x) else none
 | _=>none
def Wa (d k v:PyData):Option PyData:=match d with
 | .dict kvs=>ob (kxOf k) λ ks=>if kOk kvs ks=true/\kvs.length<1000 then some (.dict (putD kvs ks v)) else none
 | _=>none
section
variable {X:Cx}{pins:List (Addr×Obj)}{σ:St}{H:Hp}{s:Shared}{S:Av}{A:Around}{E:Value->Shared->Prop}{a:Addr}{kvs:List (KX×Addr×V)}{ep:Nat}{ds:List PyData}{ks:KX}{y x v:V}{u r:Value}{d dx:PyData}
theorem qax {A:Around}(hu:A.units+64<cLine):A.in1.units+3<cLine:=by show A.units+1+3<cLine;omega
theorem yM (I:Inv X pins σ H s)(h:H a=some (DctO a kvs ep)):s.TypeIs (.ref a) "dict"/\∃ o,s.heap.get? a=some o/\o.dict=none:=by
 obtain ⟨o,es,h1,h2,_⟩:=(zZ.of (I.hok a _ h)).vals
 exact ⟨⟨o,h1,h2.1⟩,o,h1,h2.2.1⟩
theorem qh0 {Q:Value->Shared->Prop}(hu:A.units+64<cLine)(I:Inv X pins σ H s)(h:H a=some (DctO a kvs ep))(k:DenL X.K H S (kvs.map λ p=>kxV p.1 p.2.1) (kvs.map λ p=>kxD p.1))(t:DenL X.K H S (kvs.map (·.2.2)) ds)(hk:∀ p∈kvs,kxI p.1=kxI ks)
  (dy:Den X.K H S y (kxD ks)) (ry:RelV y u) (e:zj (dkv kvs ds) ks=some d) (q:∀ v w' s',Inv X pins σ H s'->RelV v w'->Den X.K H S v d->Q w' s'):wpAny (model X.prog X.w) A (getItem (.ref a) u) Q E s:=by
 cases ks with
 | inr ks =>
  obtain ⟨z,hs,xs,pk,dd⟩:=JL I h k hk
  obtain ⟨b,rfl,rfl,hk⟩:=key_is I dy ry
  rcases Z8 ks pk t with ⟨e1,_,_⟩|⟨d',b',v,w',e1,e2,rv,dv,_⟩
  ·rw [e] at e1;cases e1
  ·rw [e] at e1
   cases e1
   exact wpAny_getItem_heap (knd:=Y6 X.prog X.w) (qax hu) hk dd e2 (q v w' _ (I.tok _) rv dv)
 | inl i =>
  obtain ⟨z,hs,vs,pk,dd⟩:=JK I h hk
  obtain ⟨rfl,t',rfl⟩:=jZ dy ry
  rcases jD i pk t with ⟨e1,_,_⟩|⟨d',v,w',e1,e2,rv,dv,_⟩
  ·rw [e] at e1;cases e1
  ·rw [e] at e1
   cases e1
   exact wpAny_getItem_of (intKind_is _ _ i t') dd.mapOf e2 (q v w' _ (I.tok _) rv dv)
theorem dg_in {Q:Value->Shared->Prop}(hu:A.units+64<cLine)(I:Inv X pins σ H s)(h:H a=some (DctO a kvs ep))(k:DenL X.K H S (kvs.map λ p=>kxV p.1 p.2.1) (kvs.map λ p=>kxD p.1))(t:DenL X.K H S (kvs.map (·.2.2)) ds)(hk:∀ p∈kvs,kxI p.1=kxI ks)
  (dy:Den X.K H S y (kxD ks)) (ry:RelV y u) (q:∀ s',Inv X pins σ H s'->Q (.bool (zj (dkv kvs ds) ks).isSome) s'):wpAny (model X.prog X.w) A (compareOp .In u (.ref a)) Q E s:=by
 cases ks with
 | inr ks =>
  obtain ⟨z,hs,xs,pk,dd⟩:=JL I h k hk
  obtain ⟨b,rfl,rfl,hk⟩:=key_is I dy ry
  refine wpAny_in_heap (knd:=Y6 X.prog X.w) (qax hu) hk hs dd ?_
  rcases Z8 ks pk t with ⟨e1,e2,_⟩|⟨d',b',v,w',e1,e2,rv,dv,_⟩
  ·rw [e1] at q;rw [e2];exact q _ (I.tok _)
  ·rw [e1] at q;rw [e2];exact q _ (I.tok _)
 | inl i =>
  obtain ⟨z,hs,vs,pk,dd⟩:=JK I h hk
  obtain ⟨rfl,t',rfl⟩:=jZ dy ry
  refine wpAny_in_of (intKind_is _ _ i t') hs dd.mapOf ?_
  rcases jD i pk t with ⟨e1,e2,_⟩|⟨d',v,w',e1,e2,rv,dv,_⟩
  ·rw [e1] at q;rw [e2];exact q _ (I.tok _)
  ·rw [e1] at q;rw [e2];exact q _ (I.tok _)
theorem qgd {Q:Value->Shared->Prop}(hu:A.units+64<cLine)(I:Inv X pins σ H s)(h:H a=some (DctO a kvs ep))(k:DenL X.K H S (kvs.map λ p=>kxV p.1 p.2.1) (kvs.map λ p=>kxD p.1))(t:DenL X.K H S (kvs.map (·.2.2)) ds)(hk:∀ p∈kvs,kxI p.1=kxI ks)
  (dy:Den X.K H S y (kxD ks)) (ry:RelV y u) (q:∀ s',Inv X pins σ H s'->Q (.bool (!(zj (dkv kvs ds) ks).isSome)) s'):wpAny (model X.prog X.w) A (compareOp .NotIn u (.ref a)) Q E s:=by
 cases ks with
 | inr ks =>
  obtain ⟨z,hs,xs,pk,dd⟩:=JL I h k hk
  obtain ⟨b,rfl,rfl,hk⟩:=key_is I dy ry
  refine wpAny_notIn_heap (knd:=Y6 X.prog X.w) (qax hu) hk hs dd ?_
  rcases Z8 ks pk t with ⟨e1,e2,_⟩|⟨d',b',v,w',e1,e2,rv,dv,_⟩
  ·rw [e1] at q;rw [e2];exact q _ (I.tok _)
  ·rw [e1] at q;rw [e2];exact q _ (I.tok _)
 | inl i =>
  obtain ⟨z,hs,vs,pk,dd⟩:=JK I h hk
  obtain ⟨rfl,t',rfl⟩:=jZ dy ry
  refine wpAny_notIn_of (intKind_is _ _ i t') hs dd.mapOf ?_
  rcases jD i pk t with ⟨e1,e2,_⟩|⟨d',v,w',e1,e2,rv,dv,_⟩
  ·rw [e1] at q;rw [e2];exact q _ (I.tok _)
  ·rw [e1] at q;rw [e2];exact q _ (I.tok _)
theorem qhZ {Q:Value->Shared->Prop}(hu:A.units+64<cLine)(I:Inv X pins σ H s)(h:H a=some (DctO a kvs ep))(k:DenL X.K H S (kvs.map λ p=>kxV p.1 p.2.1) (kvs.map λ p=>kxD p.1))(t:DenL X.K H S (kvs.map (·.2.2)) ds)(hk:∀ p∈kvs,kxI p.1=kxI ks)
  (dy:Den X.K H S y (kxD ks)) (ry:RelV y u) (dxv:Den X.K H S x dx) (rx:RelV x r) (q:∀ v w' s',Inv X pins σ H s'->RelV v w'->Den X.K H S v ((zj (dkv kvs ds) ks).getD dx)->Q w' s'):wpAny (model X.prog X.w) A (call (.builtin "dict.get") [.ref a,u,r]) Q E s:=by
 cases ks with
 | inr ks =>
  obtain ⟨z,hs,xs,pk,dd⟩:=JL I h k hk
  obtain ⟨b,rfl,rfl,hk⟩:=key_is I dy ry
  refine call_meetsIn PySem.F.slot_dict_get dd.typeIs PySem.F.entry_dict_get (PySem.F.args_dict_get_3 _ _ _) (meetsH_dict_get_default (Y6 X.prog X.w) a b hs r) ⟨qax hu,ks,xs,hk,dd,?_⟩
  rcases Z8 ks pk t with ⟨e1,e2,_⟩|⟨d',b',v,w',e1,e2,rv,dv,_⟩
  ·rw [e1] at q;rw [e2];exact q _ _ _ (I.tok _) rx dxv
  ·rw [e1] at q;rw [e2];exact q _ _ _ (I.tok _) rv dv
 | inl i =>
  obtain ⟨z,hs,vs,pk,dd⟩:=JK I h hk
  obtain ⟨rfl,t',rfl⟩:=jZ dy ry
  refine call_meetsIn PySem.F.slot_dict_get dd.typeIs PySem.F.entry_dict_get (PySem.F.args_dict_get_3 _ _ _) (meets_dict_get_default (intKind X.prog X.w) a (intKind_is _ _ i t') hs r) ⟨_,dd.mapOf,?_⟩
  rcases jD i pk t with ⟨e1,e2,_⟩|⟨d',v,w',e1,e2,rv,dv,_⟩
  ·rw [e1] at q;rw [e2];exact q _ _ _ (I.tok _) rx dxv
  ·rw [e1] at q;rw [e2];exact q _ _ _ (I.tok _) rv dv
def qkL (K:W.Frag):TSet:=λ o i v H Q=>∃ S p kvs ep ks ds d,o=.ref p/\H p=some (DctO p kvs ep)/\DenL K H S (kvs.map λ p=>kxV p.1 p.2.1) (kvs.map λ p=>kxD p.1)/\DenL K H S (kvs.map (·.2.2)) ds/\(∀ p∈kvs,kxI p.1=kxI ks)/\Den K H S i (kxD ks)/\Den K H S v d/\kvs.length<1000/\∀ b ep',i=kxV ks b->Q (upd H p (DctO p (putV kvs ks b v) ep'))
theorem Jw (kvs:List (KX×Addr×V))(ks:KX)(b:Addr)(v:V):(putV kvs ks b v).length<=kvs.length+1:=by
 unfold putV
 split
 ·rw [List.length_map];omega
 ·rw [List.length_append,List.length_singleton];omega
theorem set_dict (hu:X.A.units+64<cLine):PSet X (qkL X.K):=by
 intro pins s σ H o i v ov iv u Q I ro ri rv h
 obtain ⟨S,p,kvs,ep,ks,ds,d,rfl,hp,k,t,hk,di,dv,hz,q⟩:=h
 cases ro
 have z1000:1000<sizeLine:=zX (Nat.le_refl _)
 cases ks with
 | inr ks =>
  obtain ⟨z,hs,xs,pk,dd⟩:=JL I hp k hk
  obtain ⟨b,rfl,rfl,hk⟩:=key_is I di ri
  have hxl:xs.length<=sizeLine:=by rw [← Paired.length pk];exact z
  have he:(kvs.any λ p=>decide (p.1=.inr ks))=(atKey xs ks).isSome:=by
   rcases Z8 ks pk t with ⟨_,e2,e3⟩|⟨_,_,_,_,_,e2,_,_,e3⟩
   ·rw [e2,e3];rfl
   ·rw [e2,e3];rfl
  refine wpAny_setItem_heap (knd:=Y6 X.prog X.w) (hsz:=hxl) (qax hu) hk dd λ h' dd' hs'=>?_
  obtain ⟨o,es,ep',g1,g2,g3,g4,_,g5⟩:=dd'
  have dct:zZ p (putV kvs (.inr ks) b v) ep' h':=⟨by have:=Jw kvs (.inr ks) b v;omega,hs,.inl ⟨_,qcz pk rv he,o,es,g1,g2,g3,g4,g5⟩⟩
  exact ⟨_,I.write (x:=p) (e:=p) (by rw [hp];exact True.intro) (.inl rfl) (λ c o' hc e=>(hs'.2 c hc).trans e) ⟨o,g1⟩ dct.ok,q b ep' rfl⟩
 | inl i =>
  obtain ⟨z,hs,vs,pk,dd⟩:=JK I hp hk
  obtain ⟨rfl,t',rfl⟩:=jZ di ri
  have hxl:vs.length<=sizeLine:=by rw [← Paired.length pk];exact z
  refine wpAny_setItem_pairs (hsz:=hxl) (intKind_is _ _ i t') dd λ h' dd' hs'=>?_
  obtain ⟨o,es,ep',g1,g2,g3,g4,g4',g5⟩:=dd'
  have dct:zZ p (putV kvs (.inl i) 0 v) ep' h':=⟨by have:=Jw kvs (.inl i) 0 v;omega,hs,.inr ⟨_,qcy pk rv,o,es,g1,g2,g3,yh g4' λ e he=>g4 e (Array.mem_toList_iff.mp he),g5⟩⟩
  exact ⟨_,I.write (x:=p) (e:=p) (by rw [hp];exact True.intro) (.inl rfl) (λ c o' hc e=>(hs'.2 c hc).trans e) ⟨o,g1⟩ dct.ok,q 0 ep' rfl⟩
end
section
variable {prog:Program}{w:World}{A:Around}{E:Value->Shared->Prop}{s:Shared}
theorem qif {d:Addr}{od:Obj}{es:Array DictEntry}{ep:Nat}{Q:Value->Shared->Prop}(hd:(d==sysModules)=false)(ho:s.heap.get? d=some od)(hx:od.ExactDict)(hdat:od.data=.dict es ep)
  (hQ:Q (.ref s.heap.objs.size) { s with heap:=s.heap.push { cls:=.type "dict_keyiterator", data:=.fields #[.ref d,.int 0 0,.int es.size 0,.int ep 0] } }):wpAny (model prog w) A (pyIter (.ref d)) Q E s:=by
 have hT:s.TypeIs (.ref d) "dict" := ⟨od,ho,hx.1⟩
 refine wpAny_pyIter_slot hT F.slot_dict_iter (wpAny_call_entry F.slot_dict_iter hT F.entry_dict_iter (id ?_) (F.args_dict_iter_1 _))
 unfold Builtin.«dict.__iter__»
 refine wpAny_bind (id ?_)
 unfold Builtin.Dict.dictSlotNone
 refine wpAny_bind (wpAny_notOrdered_dict hT (id ?_:wpAny _ _ (pure (Value.ref d)) _ _ s))
 refine wpAny_pure (id ?_:wpAny _ _ (Builtin.Dict.showsAll d >>= _) _ _ s)
 unfold Builtin.Dict.showsAll
 rw [if_neg (λ z=>by rw [hd] at z;cases z)]
 refine wpAny_bind (wpAny_pure (wpAny_bind (wpAny_dictEntries ho hdat (wpAny_bind (wpAny_dictEpoch ho hdat ?_)))))
 refine wpAny_bind (wpAny_newObj_type (wpAny_pure ⟨_,rfl, "dict_keyiterator", _,⟨_,Heap.get?_push_size _ rfl,rfl⟩,F.slot_dict_keyiterator_next.lookup,by simpa [rawInt] using hQ⟩))
theorem qbe {it d:Addr}{od:Obj}{es:Array DictEntry}{i ep:Nat}{e:DictEntry}{Q:Option Value->Shared->Prop}(hit:s.heap.IsKeyIter it d i es.size ep)(hod:s.heap.get? d=some od)(hdd:od.data=.dict es ep)(hx:es[i]?=some e)
  (hQ:∀ h',h'.IsKeyIter it d (i+1) es.size ep->Heap.SameBut it s.heap h'->Q (some e.key) { s with heap:=h' }):wpAny (model prog w) A (pyNext (.ref it)) Q E s:=by
 obtain ⟨o,ho,hc,hd⟩:=id hit
 unfold pyNext
 refine wpAny_bind (wpAny_attempt (wpAny_callSpecial?_slot (name:=Str.ofString "__next__") hit.typeIs F.slot_dict_keyiterator_next (wpAny_call_entry F.slot_dict_keyiterator_next hit.typeIs F.entry_dict_keyiterator_next (wpAny_bind (wpAny_pure (wpAny_bind (wpAny_bind ?_)))) (F.args_dict_keyiterator_next_1 _))))
 first|refine wpAny_bind (wpAny_typeNameOfWhole_keyiter hit.typeIs (wpAny_pure (wpAny_bind (wpAny_fieldsOf ho hd ?_))))|refine wpAny_bind (wpAny_typeNameOf_keyiter hit.typeIs (wpAny_pure (wpAny_bind (wpAny_fieldsOf ho hd ?_))))
 have hown:Builtin.Dict_items.ownsTuple "dict_keyiterator" = false:=rfl
 simp only [Bool.false_eq_true,hown,if_false]
 refine (id ?_:wpAny _ _ (if (Value.ref d==Value.none)=true then _ else _) _ _ s)
 rw [if_neg (λ z=>Bool.false_ne_true z:¬ ((Value.ref d==Value.none)=true))]
 refine wpAny_bind (wpAny_pure (wpAny_bind (wpAny_dictEntries hod hdd ?_)))
 rw [if_neg (by simp)]
 refine wpAny_bind (wpAny_pure (wpAny_bind (wpAny_dictEpoch hod hdd ?_)))
 rw [if_neg (by simp)]
 refine wpAny_pure (id ?_)
 have hlt:i<es.size:=(Array.getElem?_eq_some_iff.mp hx).1
 have hee:es[i]=e:=(Array.getElem?_eq_some_iff.mp hx).2
 simp only [show ¬ ((i:Int)<0) from by omega,Int.toNat_natCast,if_false,Array.getElem?_eq_getElem hlt,hee]
 refine wpAny_bind (id ?_)
 first|refine wpAny_bind (wpAny_typeNameOfWhole_keyiter hit.typeIs (wpAny_pure (wpAny_bind (wpAny_isOneOf_keyiter hit.typeIs ?_))))|refine wpAny_bind (wpAny_typeNameOf_keyiter hit.typeIs (wpAny_pure (wpAny_bind (wpAny_isOneOf_keyiter hit.typeIs ?_))))
 refine (wpAny_bind (wpAny_setField ho hd (by simp) ?_):wpAny _ _ (setField (.ref it) 1 (rawInt ((i:Int)+1)) >>= _) _ _ s)
 have hit':(s.heap.update it (Obj.mapFields (·.setIfInBounds 1 (rawInt ((i:Int)+1))))).IsKeyIter it d (i+1) es.size ep:=⟨_,Heap.get?_update_self _ ho (Obj.isFreed_of_fields (Obj.data_mapFields hd _)),(Obj.cls_mapFields ..).trans hc,by rw [Obj.data_mapFields hd];simp [rawInt]⟩
 refine wpAny_bind (wpAny_holding (wpAny_bind (wpAny_isOneOf_keyiter (s:={ s with heap:=s.heap.update it (Obj.mapFields (·.setIfInBounds 1 (rawInt ((i:Int)+1)))) }) hit'.typeIs (id ?_:wpAny _ _ (pure e.key) _ _ _))))
 exact wpAny_pure (wpAny_pure ⟨_,rfl,wpAny_pure (hQ _ hit' (Heap.SameBut.update ..))⟩)
theorem qcf {it d:Addr}{od:Obj}{es:Array DictEntry}{i ep:Nat}{Q:Option Value->Shared->Prop}(hh:A.handled=none)(hit:s.heap.IsKeyIter it d i es.size ep)(hod:s.heap.get? d=some od)(hdd:od.data=.dict es ep)(hge:es.size<=i)
  (hQ:∀ h',Heap.ExtBut it s.heap h'->Q none { s with heap:=h' }):wpAny (model prog w) A (pyNext (.ref it)) Q E s:=by
 obtain ⟨o,ho,hc,hd⟩:=id hit
 unfold pyNext
 refine wpAny_bind (wpAny_attempt (wpAny_callSpecial?_slot (name:=Str.ofString "__next__") hit.typeIs F.slot_dict_keyiterator_next (wpAny_call_entry F.slot_dict_keyiterator_next hit.typeIs F.entry_dict_keyiterator_next (wpAny_bind (wpAny_pure (wpAny_bind (wpAny_bind ?_)))) (F.args_dict_keyiterator_next_1 _))))
 first|refine wpAny_bind (wpAny_typeNameOfWhole_keyiter hit.typeIs (wpAny_pure (wpAny_bind (wpAny_fieldsOf ho hd ?_))))|refine wpAny_bind (wpAny_typeNameOf_keyiter hit.typeIs (wpAny_pure (wpAny_bind (wpAny_fieldsOf ho hd ?_))))
 have hown:Builtin.Dict_items.ownsTuple "dict_keyiterator" = false:=rfl
 simp only [Bool.false_eq_true,hown,if_false]
 refine (id ?_:wpAny _ _ (if (Value.ref d==Value.none)=true then _ else _) _ _ s)
 rw [if_neg (λ z=>Bool.false_ne_true z:¬ ((Value.ref d==Value.none)=true))]
 refine wpAny_bind (wpAny_pure (wpAny_bind (wpAny_dictEntries hod hdd ?_)))
 rw [if_neg (by simp)]
 refine wpAny_bind (wpAny_pure (wpAny_bind (wpAny_dictEpoch hod hdd ?_)))
 rw [if_neg (by simp)]
 refine wpAny_pure (id ?_)
 simp only [show ¬ ((i:Int)<0) from by omega,Int.toNat_natCast,if_false,Array.getElem?_eq_none hge]
 refine wpAny_bind (id ?_)
 first|refine wpAny_bind (wpAny_typeNameOfWhole_keyiter hit.typeIs (wpAny_pure (id ?_)))|refine wpAny_bind (wpAny_typeNameOf_keyiter hit.typeIs (wpAny_pure (id ?_)))
 refine (wpAny_bind (wpAny_setField ho hd (by simp) ?_):wpAny _ _ (setField (.ref it) 0 .none >>= _) _ _ s)
 refine (wpAny_bind ?_:wpAny _ _ (newExc (.type "StopIteration") [] >>= _) _ _ _)
 simp only [newExc,newTuple]
 refine wpAny_bind (wpAny_newObj_type (wpAny_bind (m:=firstArgMember _ _) (wpAny_of_eq (a:=Value.none) (by first|rfl|(simp only [firstArgMember];rfl)) (wpAny_newObj_type ?_ (by size_fits)))) (by size_fits))
 simp only [raiseNew]
 refine wpAny_bind (wpAny_handled (id ?_))
 rw [show A.in1.handled=none from hh]
 refine wpAny_bind (wpAny_pure (wpAny_throw (id ?_)))
 exact wpAny_bind (wpAny_isInstance (T := "StopIteration") (b:=true) ⟨_,Heap.get?_push_size _ rfl,rfl⟩ isSubtype_stop (wpAny_pure (hQ _ (((Heap.SameBut.update ..).extBut.push _).push _))))
end
def Itd (a:Addr)(kvs:List (KX×Addr×V))(ep:Nat):It :=
 ⟨λ i H=>H a=some (DctO a kvs ep)/\i<kvs.length,λ i H x H'=>H'=H/\∃ p,kvs[i]?=some p/\x=kxV p.1 p.2.1,λ i H=>H a=some (DctO a kvs ep)/\kvs.length<=i⟩
theorem Jl {h:Heap}{a:Addr}{kvs:List (KX×Addr×V)}{ep:Nat}(d:zZ a kvs ep h):∃ o es,h.get? a=some o/\o.ExactDict/\o.data=.dict es ep/\es.size=kvs.length/\∀ (i:Nat) p,kvs[i]?=some p->∃ e,es[i]?=some e/\RelV (kxV p.1 p.2.1) e.key/\RelV p.2.2 e.val:=by
 obtain ⟨o,es,h1,h2,h3,vk,vv⟩:=d.vals
 have hsz:es.size=kvs.length:=by
  have:=vk.length
  rw [List.length_map,List.length_map,Array.length_toList] at this
  exact this.symm
 refine ⟨o,es,h1,h2,h3,hsz,λ i p hp=>?_⟩
 have hi:i<es.size:=by rw [hsz];exact (List.getElem?_eq_some_iff.mp hp).1
 refine ⟨es[i],Array.getElem?_eq_getElem hi,?_,?_⟩
 ·obtain ⟨u,hu,ru⟩:=vk.get (i:=i) (x:=kxV p.1 p.2.1) (by rw [List.getElem?_map,hp];rfl)
  rw [List.getElem?_map,Array.getElem?_toList,Array.getElem?_eq_getElem hi] at hu
  cases hu
  exact ru
 ·obtain ⟨u,hu,ru⟩:=vv.get (i:=i) (x:=p.2.2) (by rw [List.getElem?_map,hp];rfl)
  rw [List.getElem?_map,Array.getElem?_toList,Array.getElem?_eq_getElem hi] at hu
  cases hu
  exact ru
theorem qfI {P:Program}{w:World}{K:W.Frag}{tg:Expr}(a it:Addr)(kvs:List (KX×Addr×V))(ep:Nat):Turn P w K tg (Itd a kvs ep) [it] it (λ i h=>h.IsKeyIter it a i kvs.length ep) where
 mem:=by simp
 obj:=λ i h st b hb=>by
  have e:b=it:=by simpa using hb
  subst e
  obtain ⟨o,e,c,d⟩:=st
  exact ⟨o,e,λ v z=>by rw [d] at z;cases z⟩
 keep:=λ i h h' st k=>st.at λ o e=>k it (by simp) o e
 item:=by
  intro X hP hw hK hc i pins s σ H E I hf st hg
  subst hP hw hK
  obtain ⟨hq,hlt⟩:=hg
  obtain ⟨o,es,h1,h2,h3,hsz,hkey⟩:=Jl (zZ.of (I.hok a _ hq))
  obtain ⟨e,he,hk,_⟩:=hkey i kvs[i] (List.getElem?_eq_getElem hlt)
  obtain ⟨f0,f1,f2,f3,f4,f5⟩:=hf it (by simp)
  have st':s.heap.IsKeyIter it a i es.size ep:=by rw [hsz];exact st
  refine qbe st' h1 h3 he λ h' st2 sb=>?_
  have I1:Inv X pins σ H { s with heap:=h' }:=I.turned (t':=s.toks) (λ b o hb e=>(sb.2 b hb).trans e) f0 f1 f3 f4 f5
  obtain ⟨o2,e2,c2,d2⟩:=id st2
  refine ⟨e.key,rfl,qbT (s:={ s with heap:=h' }) e2 c2 d2 (by decide) ⟨kxV kvs[i].1 kvs[i].2.1,H,I1,hk,⟨rfl,_,List.getElem?_eq_getElem hlt,rfl⟩,by rw [hsz] at st2;exact st2,λ b hb=>(hf b hb).1⟩⟩
 done:=by
  intro X hP hw hK hc i pins s σ H E I hf st hg
  subst hP hw hK
  obtain ⟨hq,hge⟩:=hg
  obtain ⟨o,es,h1,h2,h3,hsz,hkey⟩:=Jl (zZ.of (I.hok a _ hq))
  obtain ⟨f0,f1,f2,f3,f4,f5⟩:=hf it (by simp)
  have st':s.heap.IsKeyIter it a i es.size ep:=by rw [hsz];exact st
  exact qcf (I.ok.hd hc) st' h1 h3 (by omega) λ h' eb=>⟨rfl,I.turned (t':=s.toks) (λ b o hb e=>eb b o hb e) f0 f1 f3 f4 f5⟩
 self:=λ _ _ _ _ _ st h=>wpAny_pyIter_keyiter st h
def iDct (tl:TE):TI:=λ σ H R=>tl σ H λ x H1=>∃ a kvs ep,x=.ref a/\H1 a=some (DctO a kvs ep)/\R (Itd a kvs ep) H1
section
variable {X:Cx}{M:List Nat}{a:Expr}{f:Rho->Option PyData}
theorem qiS {tg l:Expr}{tl:TE}(hl:PE X l tl):PI X tg l (iDct tl):=by
 intro pins s σ H R I h
 refine thn (hl pins s σ H _ I h) λ v s1 ⟨x,H1,I1,r1,p,kvs,ep,ex,hq,q⟩=>?_
 subst ex
 cases r1
 have d:=zZ.of (I1.hok p _ hq)
 obtain ⟨o,es,h1,h2,h3,hsz,_⟩:=Jl d
 refine qif d.2.1 h1 h2 h3 ?_
 rw [hsz]
 refine ⟨s1.heap.objs.size,[s1.heap.objs.size],_,_,H1,rfl,I1.kept (t':=s1.toks) λ b o e=>Heap.get?_push_of_some _ e,qfI p _ kvs ep,⟨_,Heap.get?_push_size _ rfl,rfl,rfl⟩,λ b hb=>?_,q⟩
 have e:b=s1.heap.objs.size:=by simpa using hb
 subst e
 exact I1.fpOk (Nat.le_refl _) (I1.hok.fresh (Nat.le_refl _))
theorem IsIt.dct {K:W.Frag}{H:Hp}{S:Av}{l:Addr}{kvs:List (KX×Addr×V)}{ep:Nat}(h:H l=some (DctO l kvs ep))(k:DenL K H S (kvs.map λ p=>kxV p.1 p.2.1) (kvs.map λ p=>kxD p.1)):IsIt K S (Itd l kvs ep) H (kvs.map λ p=>kxD p.1) where
 go:=λ i H' e hi=>⟨e _ _ h,by rwa [List.length_map] at hi⟩
 yld:=λ i H' x H2 e ⟨e2,p,hp,ex⟩=>⟨by rw [e2];exact Same.refl _,λ d hd S' w=>by
  obtain ⟨v,h1,h2⟩:=k.get hd
  rw [List.getElem?_map,hp] at h1
  cases h1
  rw [ex]
  exact w _ _ h2⟩
 stop:=λ H' e=>⟨e _ _ h,by rw [List.length_map];exact Nat.le_refl _⟩
def Jc:PyData->Option (List PyData)
 | .dict kvs=>if excK kvs=true then none else some (kvs.map (·.1))
 | _=>none
theorem Jt {tg:Expr}(h:PD X M a f):PDI X M tg a (evI f Jc) :=
 (qiS h).weak λ σ H R ⟨S,ρ,ds,hs,e,w⟩=>by
  obtain ⟨x,e1,e⟩:=qi e
  refine ⟨S,ρ,x,hs,e1,λ v H1 g1 d1=>?_⟩
  cases d1 with
  | @dict p kvs ep ds' h k t =>
   have hl:kvs.length=ds'.length:=by
    have:=t.length
    rwa [List.length_map] at this
   have e:(if excK (dkv kvs ds')=true then none else some ((dkv kvs ds').map (·.1)))=some ds:=e
   rw [qgj,qbE hl] at e
   cases e
   exact ⟨p,kvs,ep,rfl,h.1,w _ _ g1 λ H2 o=>IsIt.dct (o _ _ h.2 h.1) (k.off (hs.1.same g1) o)⟩
  | _=>cases e
end
def qjA (K:W.Frag):R2:=λ x y H Q=>∃ S a kvs ep ks ds d,x=.ref a/\H a=some (DctO a kvs ep)/\DenL K H S (kvs.map λ p=>kxV p.1 p.2.1) (kvs.map λ p=>kxD p.1)/\DenL K H S (kvs.map (·.2.2)) ds/\(∀ p∈kvs,kxI p.1=kxI ks)/\Den K H S y (kxD ks)/\zj (dkv kvs ds) ks=some d/\∀ v,Den K H S v d->Q v H
section
variable {X:Cx}{G:Gm}{M M' Mb L:List Nat}{fr:Fr}{a b c:Expr}{es:List Expr}{f fk fx g fa fb:Rho->Option PyData}{pos:Pos}{u:Rho->Option Out}
theorem qig (hu:X.A.units+64<cLine):IxR X (qjA X.K):=by
 intro value slice pins s σ H x y v u Q I rx ry h hs
 obtain ⟨S,p,kvs,ep,ks,ds,d,rfl,hp,k,t,hk,dy,e,q⟩:=h
 cases rx
 exact tail_any (yM I hp).1 PySem.F.slot_dict_getitem.lookup (qh0 hu I hp k t hk dy ry e λ v' w' s' I' r' d'=>⟨v',H,I',r',q v' d'⟩) hs
theorem YC {k:Nat}(hr:Room k X.A)(ha:PD X M a fa)(hb:PD X M b fb)(hs:wz b:=by intro _ _;rfl):PD X M (.Subscript a b pos) (ev2 fa fb ix2D) :=
 (qhb (r:=λ x y H Q=>(rIxL X.K x y H Q\/rIxT X.K x y H Q)\/qjA X.K x y H Q) ((qeh.or qgA).or (qig hr.units)) ha hb hs).weak λ σ H Q ⟨S,ρ,d,hs,e,q⟩=>by
  obtain ⟨x,e1,e⟩:=qi e
  obtain ⟨y,e2,e⟩:=qi e
  refine ⟨S,ρ,x,hs,e1,λ v H1 g1 d1=>⟨S,ρ,y,hs.same g1,e2,λ w H2 g2 d2=>?_⟩⟩
  have d1':=d1.same g2
  cases d1' with
  | list h t =>
   cases d2 with
   | int i =>
    obtain ⟨z,h1,h2⟩:=t.atI e
    exact .inl (.inl ⟨_,_,i,z,rfl,rfl,h.sq,h1,q z H2 (g1.trans g2) h2⟩)
   | _=>cases e
  | tuple h t =>
   cases d2 with
   | int i =>
    obtain ⟨z,h1,h2⟩:=t.atI e
    exact .inl (.inr ⟨_,_,i,z,rfl,rfl,h,h1,q z H2 (g1.trans g2) h2⟩)
   | _=>cases e
  | @dict p kvs ep ds h k t =>
   have e:ob (kxOf y) (λ ks=>if kOk (dkv kvs ds) ks=true then zj (dkv kvs ds) ks else none)=some d:=e
   obtain ⟨ks,e3,e⟩:=qi e
   have hl:kvs.length=ds.length:=by
    have:=t.length
    rwa [List.length_map] at this
   split at e
   case isFalse=>cases e
   rename_i hok
   rw [Zb e3] at d2
   exact .inr ⟨S,p,kvs,ep,ks,ds,d,rfl,h.1,k,t,jY hl hok,d2,e,λ v' d'=>q v' H2 (g1.trans g2) d'⟩
  | exc0 h o=>exact (Jp (g:=id) e).elim
  | exc1 h o x z t=>exact (Jp (g:=id) e).elim
  | _=>cases e
theorem d_in2 {k:Nat}(hr:Room k X.A):OpD X (compareOp .In) in2D:=by
 intro pins s σ H x y v u Q I rx ry h
 obtain ⟨S,dx,dy,d,m,h1,h2,e,q⟩:=h
 cases h2 with
 | @dict p kvs ep ds hp kk t =>
  have e:ob (kxOf dx) (λ ks=>if kOk (dkv kvs ds) ks=true then some (PyData.bool (zj (dkv kvs ds) ks).isSome) else none)=some d:=e
  obtain ⟨ks,e3,e⟩:=qi e
  have hl:kvs.length=ds.length:=by
   have:=t.length
   rwa [List.length_map] at this
  split at e
  case isFalse=>cases e
  rename_i hok
  cases e
  rw [Zb e3] at h1
  cases (show u=Value.ref p from ry)
  exact dg_in hr.units I hp.1 kk t (jY hl hok) h1 rx λ s' I'=>⟨.bl _,H,I',rfl,q _ H (Same.refl H) (.bool _)⟩
 | list a b=>exact d_in hr pins s σ H x _ v u Q I rx ry ⟨S,dx,_,d,m,h1,.list a b,e,q⟩
 | tuple a b=>exact d_in hr pins s σ H x _ v u Q I rx ry ⟨S,dx,_,d,m,h1,.tuple a b,e,q⟩
 | exc0 h o=>exact (Jp (g:=id) e).elim
 | exc1 h o x z t=>exact (Jp (g:=id) e).elim
 | _=>cases e
theorem qgb {k:Nat}(hr:Room k X.A):OpD X (compareOp .NotIn) qam:=by
 intro pins s σ H x y v u Q I rx ry h
 obtain ⟨S,dx,dy,d,m,h1,h2,e,q⟩:=h
 cases h2 with
 | @dict p kvs ep ds hp kk t =>
  have e:ob (kxOf dx) (λ ks=>if kOk (dkv kvs ds) ks=true then some (PyData.bool (!(zj (dkv kvs ds) ks).isSome)) else none)=some d:=e
  obtain ⟨ks,e3,e⟩:=qi e
  have hl:kvs.length=ds.length:=by
   have:=t.length
   rwa [List.length_map] at this
  split at e
  case isFalse=>cases e
  rename_i hok
  cases e
  rw [Zb e3] at h1
  cases (show u=Value.ref p from ry)
  exact qgd hr.units I hp.1 kk t (jY hl hok) h1 rx λ s' I'=>⟨.bl _,H,I',rfl,q _ H (Same.refl H) (.bool _)⟩
 | list a b=>exact yK hr pins s σ H x _ v u Q I rx ry ⟨S,dx,_,d,m,h1,.list a b,e,q⟩
 | tuple a b=>exact yK hr pins s σ H x _ v u Q I rx ry ⟨S,dx,_,d,m,h1,.tuple a b,e,q⟩
 | exc0 h o=>exact (Jp (g:=id) e).elim
 | exc1 h o x z t=>exact (Jp (g:=id) e).elim
 | _=>cases e
theorem Wv:PF X M (.Dict [] [] pos) (kd (.dict [])):=λ pins s σ H Q I ⟨S,ρ,d,hs,e,q⟩=>by
 cases e
 have hb:sysModules<s.heap.objs.size:=Nat.lt_trans (by decide) (show mainGlobals<s.heap.objs.size from (I.mod.glob.keeps I.bk).lt)
 have hn:=I.hok.fresh (Nat.le_refl s.heap.objs.size)
 have dct:zZ s.heap.objs.size [] 0 (s.heap.push { cls:=.type "dict", data:=.dict #[] }):=⟨Nat.zero_le _,beq_eq_false_iff_ne.mpr (Ne.symm (Nat.ne_of_lt hb)),.inl ⟨[],.nil,_,#[],Heap.get?_push_size _ rfl,⟨rfl,rfl,rfl⟩,rfl,rfl,List.nodup_nil⟩⟩
 exact wpAny_Dict_empty ⟨.ref s.heap.objs.size,_,I.laid (a:=s.heap.objs.size) (o:=DctO s.heap.objs.size [] 0) (t':=s.toks) (λ _ _ q=>Heap.get?_push_of_some _ q) (Nat.le_refl _) dct.ok,rfl,q _ _ (Same.lay hn) hn (.dct (kvs:=[]) (ds:=[]) q9 .nil .nil)⟩
def ev3 (f g h:Rho->Option PyData)(r:PyData->PyData->PyData->Option PyData):Rho->Option PyData:=λ ρ=>ob (f ρ) λ x=>ob (g ρ) λ y=>ob (h ρ) λ z=>r x y z
theorem qeu {k:Nat}{o:Expr}{apos cpos:Pos}(hr:Room k X.A)(ho:PD X M o f)(he:PD X M a fk)(hx:PD X M b fx)
  (hbase:attributeBase o "get" X.env (eval o X.env)=eval o X.env:=by rfl)
  (hfew:((backTo cpos (starEach [a,b] X.env)).all (λ x=>!x.1)&&(backToKw cpos (keywordEach [] X.env)).all (λ x=>x.1.isSome)
   && decide ([a,b].length+([]:List Keyword).length+(if ([]:List Keyword).isEmpty then 0 else 1)<30))=true:=by rfl)
  (hline:(apos.endLine==cpos.line)=true:=by rfl) (htr:backTo cpos (starEach [a,b] X.env)=[(false,eval a X.env),(false,eval b X.env)]:=by rfl) :
  PD X M (.Call (.Attribute o "get" apos) [a,b] [] cpos) (ev3 f fk fx Jm):=by
 intro pins s σ H Q I ⟨S,ρ,d,hs,e,q⟩
 obtain ⟨x,e1,e⟩:=qi e
 obtain ⟨y,e2,e⟩:=qi e
 obtain ⟨z,e3,e⟩:=qi e
 refine wpAny_Call_method hbase hfew hline PySem.F.plainAttrs_dict PySem.F.slot_dict_get PySem.F.type_dict_get (thn (ho pins s σ H (λ v H1=>Same H H1/\Den X.K H1 S v x) I ⟨S,ρ,x,hs,e1,λ v H1 g1 d1=>⟨g1,d1⟩⟩) λ v s1 ⟨xv,H1,I1,rx,g1,d1⟩=>?_)
 cases d1 with
 | @dict p kvs ep ds h kk t =>
  have e:ob (kxOf y) (λ ks=>if kOk (dkv kvs ds) ks=true then some ((zj (dkv kvs ds) ks).getD z) else none)=some d:=e
  obtain ⟨ks,e4,e⟩:=qi e
  have hl:kvs.length=ds.length:=by
   have:=t.length
   rwa [List.length_map] at this
  split at e
  case isFalse=>cases e
  rename_i hok
  cases e
  obtain rfl:v=Value.ref p:=rx
  refine ⟨(yM I1 h.1).1,λ a' q'=>?_,?_⟩
  ·cases q'
   exact (yM I1 h.1).2
  rw [htr]
  refine Calls.callWith_builtin rfl (Calls.evalArgs_plain (Calls.spliced_cons (thn (he pins s1 σ H1 (λ v H2=>Same H1 H2/\Den X.K H2 S v y) I1 ⟨S,ρ,y,hs.same g1,e2,λ v H2 g2 d2=>⟨g2,d2⟩⟩) λ kv s2 ⟨yv,H2,I2,ry,g2,d2⟩ =>
   Calls.spliced_cons (thn (hx pins s2 σ H2 (λ v H3=>Same H2 H3/\Den X.K H3 S v z) I2 ⟨S,ρ,z,hs.same (g1.trans g2),e3,λ v H3 g3 d3=>⟨g3,d3⟩⟩) λ zv s3 ⟨zz,H3,I3,rz,g3,d3⟩=>Calls.spliced_nil ?_))))
  have g23:=g2.trans g3
  rw [Zb e4] at d2
  exact qhZ hr.units I3 (g23 _ _ h.1) (kk.same g23) (t.same g23) (jY hl hok) (d2.same g3) ry d3 rz λ v' w' s' I' r' dv=>⟨v',H3,I',r',q v' H3 (g1.trans g23) dv⟩
 | exc0 h o=>exact (Jp (g:=id) e).elim
 | exc1 h o x z t=>exact (Jp (g:=id) e).elim
 | _=>cases e
def Yk (i:Nat)(fk f:Rho->Option PyData):Rho->Option Out:=λ ρ=>ob (f ρ) λ d=>ob (vr i ρ) λ l=>ob (fk ρ) λ k=>ob (Wa l k d) λ l'=>some (.nx (ρ.set i (some l')))
theorem qib (js:List Int):yR (js.map .int)=true:=by
 induction js with
 | nil=>rfl
 | cons j js ih=>exact ih
theorem qaT:∀ ks:K2,yR (ks.map k2D)=true
 | []=>rfl
 | .inl _::ks=>qaT ks
 | .inr js::ks=>by
  show (yR (js.map .int)&&yR (ks.map k2D))=true
  rw [qib,qaT];rfl
theorem qgn (k:KX):flat (kxD k)=true:=by
 cases k with
 | inl i=>rfl
 | inr ks=>exact qaT ks
theorem qc7 {l k d l':PyData}(e:Wa l k d=some l'):∃ kvs ks,l=.dict kvs/\k=kxD ks/\kOk kvs ks=true/\kvs.length<1000/\l'=.dict (putD kvs ks d):=by
 unfold Wa at e
 split at e
 ·obtain ⟨ks,e1,e⟩:=qi e
  split at e
  ·rename_i hc;cases e;exact ⟨_,ks,rfl,Zb e1,hc.1,hc.2,rfl⟩
  ·cases e
 ·cases e
theorem qg2 {kvs:List (KX×Addr×V)}{ep:Nat}{ds:List PyData}{S:Av}{σ:St}{ρ:Rho}{H:Hp}{i:Nat}{pp b:Addr}{ks:KX}{v:V}{d:PyData}{ep':Nat}(os:OwnS X.K G M L H S σ ρ)(hM:Flt M i)(hL:i∉L)(e0:ρ[i]?=some (some (.dict (dkv kvs ds))))(a1:σ[i]?=some (some (.ref pp)))(c1:S pp)(h:H pp=some (DctO pp kvs ep))(k:DenL X.K H S (kvs.map λ p=>kxV p.1 p.2.1) (kvs.map λ p=>kxD p.1))(t:DenL X.K H S (kvs.map (·.2.2)) ds)(dk:Den X.K H S (kxV ks b) (kxD ks))(dv:Den X.K H S v d)
  (he:(kvs.any λ p=>decide (p.1=ks))=(zj (dkv kvs ds) ks).isSome):OwnS X.K G M L (upd H pp (DctO pp (putV kvs ks b v) ep')) S σ (ρ.set i (some (.dict (putD (dkv kvs ds) ks d)))):=by
 obtain ⟨ds',t',ed⟩:=qcA (b:=b) t dv he
 refine os.write hM hL e0 a1 rfl ?_
 rw [← ed]
 exact .dct q9 ((qcx k dk).off os.ds.1 (Off.upd c1)) (t'.off os.ds.1 (Off.upd c1))
theorem yF {K:W.Frag}{H:Hp}{S:Av}(ks:KX):∀ {kvs:List (KX×Addr×V)} {ds:List PyData},DenL K H S (kvs.map (·.2.2)) ds->(kvs.any λ p=>decide (p.1=ks))=(zj (dkv kvs ds) ks).isSome
 | [],_,t=>by cases t;rfl
 | p::kvs,_,t=>by
  cases t with
  | @cons _ d _ ds dv t' =>
   rw [QD,List.any_cons]
   by_cases e:p.1=ks
   ·rw [JN e,decide_eq_true e];rfl
   ·rw [JM e,decide_eq_false e,Bool.false_or];exact yF ks t'
theorem qaO {kvs:List (KX×Addr×V)}{ds:List PyData}(h:kvs.length=ds.length):(dkv kvs ds).length=kvs.length:=by
 unfold dkv
 rw [List.length_zip,List.length_map,h,Nat.min_self]
theorem qas {k:Nat}(hr:Room k X.A)(i:Nat){x:Str}{px sp:Pos}(hv:Vis X.env.scope x)(hM:Flt M i)(hL:i∉L)(hk:PD X [] b fk)(he:PD X [] a f)(hN:X.N[i]?=some x:=by rfl)(hd:(x==("__debug__" : Str))=false:=by kernel_rfl)(hcd:(x==("__classdict__" : Str))=false:=by kernel_rfl)
  (ha:∀ v,assign (.Subscript (.Name x px) b sp) X.env v=(do
   let ov ← holding [v] (eval (.Name x px) X.env)
   let iv ← holding [v,ov] (eval b X.env)
   standAt sp
   holding [v,ov,iv] (setItem ov iv v)
   release [v,ov,iv] []):=by intro _;rfl)
  (hs:swapsWithSole [.Subscript (.Name x px) b sp] a pos.line X.env=pure false:=by rfl) (hw:swappedStores [.Subscript (.Name x px) b sp] a X.env=pure none:=by rfl)
  (h1:(assignEach [.Subscript (.Name x px) b sp] X.env).map (·.2)=[assign (.Subscript (.Name x px) b sp) X.env]:=by rfl) :
  PDS X G M L M Mb fr (.Assign [.Subscript (.Name x px) b sp] a pos) (Yk i fk (qP f)) :=
 (qbi he (qbh (yl i hv hN hd hcd) hk (set_dict hr.units) ha) hs hw h1).weak λ D σ H ⟨S,ρ,o,os,e,q⟩=>by
  obtain ⟨d,e1,e⟩:=qi e
  obtain ⟨l,e2,e⟩:=qi e
  obtain ⟨kd,e3,e⟩:=qi e
  obtain ⟨l',e4,e⟩:=qi e
  cases e
  obtain ⟨kvs0,ks,rfl,rfl,hok,hz,rfl⟩:=qc7 e4
  obtain ⟨d',e5,e6⟩:=qi e1
  have hf:flat d'=true/\d'=d:=by
   split at e6
   ·rename_i hf;cases e6;exact ⟨hf,rfl⟩
   ·cases e6
  obtain ⟨hf,rfl⟩:=hf
  refine ⟨G.S0,ρ,d',os.den,e5,λ v H1 g1 d1'=>?_⟩
  have d1:Den X.K H1 S v d':=d1'.flat hf
  have os1:=os.same g1
  obtain ⟨pp,a1,b1,c1,n1,w1,_⟩:=os1.own i hM _ (QC e2)
  cases b1 with
  | @dct kvs ep ds h kk t =>
   refine ⟨_,a1,G.S0,ρ,_,os1.den,e3,λ kv H2 g2 dk=>?_⟩
   have os2:=os1.same g2
   have dk:Den X.K H2 S kv (kxD ks):=dk.flat (qgn ks)
   have hl:kvs.length=ds.length:=by
    have:=t.length
    rwa [List.length_map] at this
   rw [qaO hl] at hz
   refine ⟨S,pp,kvs,ep,ks,ds,d',rfl,g2 _ _ h,kk.same g2,t.same g2,jY hl hok,dk,d1.same g2,hz,λ b' ep' eb=>?_⟩
   subst eb
   exact q _ _ _ (qg2 os2 hM hL (QC e2) a1 c1 (g2 _ _ h) (kk.same g2) (t.same g2) dk (d1.same g2) (yF ks t))
end
section
variable {X:Cx}{G:Gm}{M M' Mb L:List Nat}{fr:Fr}{a b c:Expr}{es:List Expr}{f fk g:Rho->Option PyData}{pos:Pos}{u:Rho->Option Out}
def sNo:Rho->Option Out:=λ _=>none
theorem qfx {e1 e2:Option Expr}:PDS X G M L M' Mb fr (.Raise e1 e2 pos) sNo:=λ pins s σ H D I ⟨S,ρ,o,os,e,q⟩=>by cases e
end
def tVd (K:W.Frag)(M:List Nat)(f:Rho->Option PyData):TE:=λ σ H Q=>∃ S ρ d,DenS K H S M σ ρ/\f ρ=some d/\∀ p fp H',Same H H'->(∀ q∈fp,H q=none)->DeepO K H' (insL S fp) fp p d->Q (.ref p) H'
def PV (X:Cx)(M:List Nat)(e:Expr)(f:Rho->Option PyData):Prop:=PE X e (tVd X.K M f)
theorem Kids.length {K:W.Frag}{H:Hp}{S:Av}:∀ {qs:List Addr} {ds:List PyData},Kids K H S qs ds->qs.length=ds.length
 | _,_,.nil=>rfl
 | _,_,.cons _ _ _ r=>by rw [List.length_cons,List.length_cons,r.length]
theorem Kids.put {K:W.Frag}{H:Hp}{S:Av}{q:Addr}{xs:List V}{es:List PyData}(m:Dm S H)(hq:S q)(t:DenL K (L2.upd H q (.lst xs)) S xs es):∀ {qs:List Addr} {ds:List PyData} {i:Nat},Kids K H S qs ds->qs[i]?=some q->Kids K (L2.upd H q (.lst xs)) S qs (ds.set i (.list es))
 | _,_,_,.nil,e=>by simp at e
 | _,_,0,.cons h t' n r,e=>by
  simp at e;subst e
  exact .cons q9 t n (r.upd m hq n)
 | _,_,i+1,.cons h t' n r,e=>by
  have e':=(List.getElem?_cons_succ ..).symm.trans e
  have hm:q∈_:=List.mem_of_getElem? e'
  refine .cons ?_ (t'.off m λ b u z e=>by rw [qO (λ y=>z (by rw [y];exact hq))];exact e) n (Kids.put m hq t r e')
  rw [qO (λ z=>n (by rw [z];exact hm))];exact h
section
variable {X:Cx}{G:Gm}{M M' Mb L:List Nat}{fr:Fr}{a b c:Expr}{es:List Expr}{f fk g:Rho->Option PyData}{pos:Pos}{u:Rho->Option Out}{fs:Rho->Option (List PyData)}
def WF (i:Nat)(f:Rho->Option PyData):Rho->Option Out:=λ ρ=>if i<ρ.length/\ρ.length<=1000 then ob (f ρ) λ d=>some (.nx (ρ.set i (some d))) else none
theorem qg8 (i:Nat){x:Str}{p':Pos}(hN:X.N.Nodup)(hx:Loc X.env.scope x)(hi:X.N[i]?=some x)(hs:swapsWith a (some (.Name x p')) pos.line X.env=pure false)(hf:X.fn x=true\/X.env.scope.names.lookup x=some .local)(hM:Out0 M i)(hL:i∉L)(he:PV X M a f) :
  PDS X G M L (i::(i+1000)::M) Mb fr (.Assign [.Name x p'] a pos) (WF i f) :=
 (qbk hN hi hx he hs hf).weak λ D σ H ⟨S,ρ,o,hs,e,q⟩=>by
  unfold WF at e
  split at e
  ·rename_i hz
   obtain ⟨d,e1,e⟩:=qi e
   cases e
   exact ⟨S,ρ,d,hs.ds,e1,λ p fp H1 g1 n o=>q _ H1 _ (hs.takeD n g1 o hM hL hz.1 hz.2)⟩
  ·cases e
theorem DeepF.same {K:W.Frag}{H H':Hp}{S:Av}{σ:St}{ρ:Rho}{F:Nat->List Addr}(e:Same H H')(f:DeepF K G M H S σ ρ F):DeepF K G M H' S σ ρ F :=
 ⟨λ i hi d q=>let ⟨p,a,b,c⟩:=f.own i hi d q;⟨p,a,b.same e,c⟩,f.disj,f.flat⟩
end
theorem qcB (A:Around)(s:Shared)(a:Int)(t:Tok)(c:Int)(u:Tok)(prog:Program)(w:World)(E:Value->Shared->Prop)(Q:Value->Shared->Prop)(h:Q (.bool (decide (a > c))) s):wpAny (model prog w) A (richCompare .Gt (.int a t) (.int c u)) Q E s :=
 (PyProof.Rows.gt_int h:wpAny (model prog w) A (compareOp .Gt (.int a t) (.int c u)) Q E s)
mutual
def gtX:PyData->PyData->Option Bool
 | .int i,.int j=>some (decide (i > j))
 | .tuple xs,.tuple ys=>gtXs xs ys
 | _,_=>none
def gtXs:List PyData->List PyData->Option Bool
 | [],[]=>some false
 | [],_::_=>some false
 | _::_,[]=>some true
 | x::xs,y::ys=>if PyData.eqv x y=true then gtXs xs ys else gtX x y
end
def GtAt (A:Around)(s:Shared)(y x:Value)(b:Bool):Prop:=∀ (prog:Program) (w:World) (E Q:Value->Shared->Prop),Q (.bool b) s->wpAny (model prog w) A (richCompare .Gt y x) Q E s
def qbv (A:Around)(s:Shared):List Value->List Value->Bool->Prop
 | [],[],r=>r=false
 | [],_::_,r=>r=false
 | _::_,[],r=>r=true
 | y::ys,x::xs,r=>∃ e,SeqAt.EqAt A s y x e/\(e=true->qbv A s ys xs r)/\(e=false->GtAt A s y x r)
section
open PySem.SeqAt
open PySem.AutoSeq1 (wpAny_loadPart')
open PySem.MeetsSeq PySem.MeetsSeq2 PySem.MeetsSeq3
theorem qbr (l b:Addr)(items items2:Array Value)(n n2:Nat)(dd dd2:Option Addr)(sl sl2:Array (Option Value)) :
  Meets (Builtin.«tuple.__gt__» ⟨[.ref l,.ref b],[]⟩)
   (λ A R s=>s.heap.get? l=some { cls:=.type "tuple", dict:=dd,data:=.seq items n,slots:=sl }/\s.heap.get? b=some { cls:=.type "tuple", dict:=dd2,data:=.seq items2 n2,slots:=sl2 }/\∃ r,qbv A.in1 s items.toList items2.toList r/\R (.ok (.ret (.bool r))) s) :=
 .of_wp λ prog w A R s h=>by
  obtain ⟨hp,g,d,tk,os⟩:=s;obtain ⟨hl,hb,r,hx,h⟩:=h
  have f2:=AutoSeq1.sub_tuple_tuple;wp_walk using wpAny_loadPart' hl,wpAny_loadPart' hb,wpAny_forIn_list _ (λ rest b s'=>b.1=none/\s'=⟨hp,g,d,tk,os⟩/\∃ (vs ws:List Value),rest=vs.zip ws/\
   qbv A.in1 ⟨hp,g,d,tk,os⟩ vs ws r/\vs.length+items2.size=ws.length+items.size) _
  case turn =>
   rintro ⟨y,x⟩ rest b s' ⟨hb',rfl,vs,ws,hz,hlx,hlen⟩
   cases vs with
   | nil=>rw [List.zip_nil_left] at hz;cases hz
   | cons v vs =>
    cases ws with
    | nil=>rw [List.zip_nil_right] at hz;cases hz
    | cons u ws =>
     rw [List.zip_cons_cons] at hz
     injection hz with hyx hrest
     injection hyx with hy hx'
     subst hy hx'
     simp only [List.length_cons] at hlen
     obtain ⟨e,he,h1,h2⟩:=hlx
     refine wpAny_bind (he prog w _ _ ?_)
     cases e with
     | true =>
      wp_walk
      exact ⟨rfl,rfl,_,_,hrest,h1 rfl,by omega⟩
     | false =>
      have hri:=h2 rfl prog w
      wp_walk using hri
      exact ⟨_,rfl,by simpa using h⟩
  case fin =>
   rintro ⟨b1,b2⟩ s' ⟨hb',rfl,vs,ws,hz,hlx,hlen⟩
   simp only at hb'
   subst hb'
   have hv:r=decide (items.size > items2.size):=by
    cases vs with
    | nil =>
     cases ws with
     | nil =>
      simp only [List.length_nil] at hlen
      rw [show r=false from hlx]
      exact (decide_eq_false (by omega)).symm
     | cons c hw =>
      simp only [List.length_nil,List.length_cons] at hlen
      rw [show r=false from hlx]
      exact (decide_eq_false (by omega)).symm
    | cons a hv =>
     cases ws with
     | nil =>
      simp only [List.length_nil,List.length_cons] at hlen
      rw [show r=true from hlx]
      exact (decide_eq_true (by omega)).symm
     | cons c hw =>
      rw [List.zip_cons_cons] at hz
      cases hz
   rw [hv] at h
   wp_walk
   exact ⟨_,rfl,by simpa [Builtin.Tuple.tupleCompareSizes] using h⟩
  case h =>
   exact ⟨rfl,rfl,items.toList,items2.toList,rfl,hx,by simp [Nat.add_comm]⟩
end
theorem qgs {A:Around}{s:Shared}{l b:Addr}{items items2:Array Value}{r:Bool}(hl:IsTup s.heap l items)(hb:IsTup s.heap b items2)(hu:A.units<cLine)(h:qbv A.in1 s items.toList items2.toList r):GtAt A s (.ref l) (.ref b) r:=λ prog w E Q q=>by
 obtain ⟨⟨cls,dd,data,sl⟩,ho,hc,n,hd⟩:=id hl;obtain ⟨⟨cls2,dd2,data2,sl2⟩,ho2,hc2,n2,hd2⟩:=id hb
 simp only at hc hd hc2 hd2
 subst hc hd hc2 hd2
 exact richCompare_meets_room (op:=.Gt) ⟨_,ho,rfl⟩ ⟨_,ho2,rfl⟩ PySem.F.slot_tuple_gt PySem.F.entry_tuple_gt (PySem.F.args_tuple_gt_2 _ _) (qbr l b items items2 n n2 dd dd2 sl sl2)
  ⟨ho,ho2,r,h,show Value.bool r≠Value.notImplemented/\Q (.bool r) s from ⟨(λ x=>nomatch x),q⟩⟩ hu
theorem qb5 {A:Around}{s:Shared}{m:Nat}(hu:A.units+m+1<cLine)(hit:∀ (x y:PyData) (a b:Value) (as bs:List Addr) (r:Bool),x.depth<=m->Reads s.heap a x as->Reads s.heap b y bs->x.canLay0=true->y.canLay0=true->gtX x y=some r->GtAt A s a b r) :
  ∀ (xs ys:List PyData) (vs ws:List Value) (as bs:List Addr) (r:Bool),PyData.depthAll xs<=m->ReadsAll s.heap vs xs as->ReadsAll s.heap ws ys bs->PyData.canLayAll0 xs=true->PyData.canLayAll0 ys=true->gtXs xs ys=some r->qbv A s vs ws r:=by
 intro xs
 induction xs with
 | nil =>
  intro ys vs ws as bs r _ h1 h2 _ _ e
  cases h1
  cases ys with
  | nil=>cases h2;rw [gtXs] at e;cases e;rfl
  | cons y ys=>cases h2;rw [gtXs] at e;cases e;rfl
 | cons x xs ih =>
  intro ys vs ws as bs r hm h1 h2 c1 c2 e
  cases h1 with
  | cons rx rxs =>
   cases ys with
   | nil=>cases h2;rw [gtXs] at e;cases e;rfl
   | cons y ys =>
    cases h2 with
    | cons ry rys =>
     have c1':x.canLay0=true/\PyData.canLayAll0 xs=true:=by simpa [PyData.canLayAll0] using c1
     have c2':y.canLay0=true/\PyData.canLayAll0 ys=true:=by simpa [PyData.canLayAll0] using c2
     have hd:max x.depth (PyData.depthAll xs)<=m:=by rw [PyData.depthAll] at hm;exact hm
     have m1:=Nat.le_trans (Nat.le_max_left x.depth (PyData.depthAll xs)) hd
     have m2:=Nat.le_trans (Nat.le_max_right x.depth (PyData.depthAll xs)) hd
     rw [gtXs] at e
     refine ⟨PyData.eqv x y,SeqAt.eqAt_reads x y A s _ _ _ _ rx ry c1'.1 c2'.1 (by have:=Nat.min_le_left x.depth y.depth;omega),λ q=>?_,λ q=>?_⟩
     ·rw [if_pos q] at e
      exact ih ys _ _ _ _ r m2 rxs rys c1'.2 c2'.2 e
     ·rw [if_neg (by rw [q];exact Bool.false_ne_true)] at e
      exact hit x y _ _ _ _ r m1 rx ry c1'.1 c2'.1 e
theorem qdb:∀ (n:Nat) (da db:PyData) (A:Around) (s:Shared) (a b:Value) (as bs:List Addr) (r:Bool),da.depth<=n->Reads s.heap a da as->Reads s.heap b db bs->da.canLay0=true->db.canLay0=true->A.units+n+1<cLine->gtX da db=some r->GtAt A s a b r:=by
 intro n
 induction n with
 | zero =>
  intro da db A s a b as bs r hd ra rb ca cb hu e
  cases da with
  | int i =>
   cases db with
   | int j =>
    cases ra;cases rb
    rw [gtX] at e
    cases e
    exact λ prog w E Q q=>qcB A s i _ j _ prog w E Q q
   | _=>simp [gtX] at e
  | tuple xs =>
   rw [PyData.depth] at hd
   omega
  | _=>simp [gtX] at e
 | succ n ih =>
  intro da db A s a b as bs r hd ra rb ca cb hu e
  cases da with
  | int i =>
   cases db with
   | int j =>
    cases ra;cases rb
    rw [gtX] at e
    cases e
    exact λ prog w E Q q=>qcB A s i _ j _ prog w E Q q
   | _=>simp [gtX] at e
  | tuple xs =>
   cases db with
   | tuple ys =>
    rw [PyData.depth] at hd
    rw [gtX] at e
    cases ra with
    | tuple e1 c1 d1 t1 =>
     cases rb with
     | tuple e2 c2 d2 t2 =>
      refine qgs ⟨_,e1,c1,_,d1⟩ ⟨_,e2,c2,_,d2⟩ (by omega) ?_
      exact qb5 (m:=n) (by show A.units+1+n+1<cLine;omega) (λ x y a b as bs r hx r1 r2 k1 k2 e=>ih x y A.in1 s a b as bs r hx r1 r2 k1 k2 (by show A.units+1+n+1<cLine;omega) e)
       xs ys _ _ _ _ r (by omega) t1 t2 (by simpa [PyData.canLay0] using ca) (by simpa [PyData.canLay0] using cb) e
   | _=>simp [gtX] at e
  | _=>simp [gtX] at e
def bestOf (bt:Nat->Nat->Bool):Nat->Nat
 | 0=>0
 | k+1=>if bt (k+1) (bestOf bt k) then k+1 else bestOf bt k
theorem Yu (bt:Nat->Nat->Bool):∀ k,bestOf bt k<=k
 | 0=>Nat.le_refl _
 | k+1=>by
  have:=Yu bt k
  rw [bestOf]
  split<;>omega
def WX (prog:Program)(w:World)(A:Around)(h0:Heap)(P:Nat->Value->Prop)(bt:Nat->Nat->Bool):Prop :=
 ∀ (i j:Nat) (x y:Value) (s:Shared) (Q E:Value->Shared->Prop),j<i->(∀ b o,h0.get? b=some o->s.heap.get? b=some o)->P i x->P j y->Q (.bool (bt i j)) s->wpAny (model prog w) A (richCompare .Lt x y) Q E s
section
variable {prog:Program}{w:World}{A:Around}{R:Result->Shared->Prop}{it:Addr}{fp wr:List Addr}{n:Nat}{P:Nat->Value->Prop}{St:Nat->Heap->Prop}{h0:Heap}
theorem qgP (W:Walks prog w A.in1 it fp wr n P St)(bt:Nat->Nat->Bool)(hc:WX prog w A.in1 h0 P bt)(Z:Addr)(hZ:Z∉fp)(hw:∀ b o,h0.get? b=some o->b∉wr/\b≠Z)(kw:List (Str×Value)) :
  ∀ (m j:Nat) (s:Shared) (x:Value) (c:Nat),n-(j+1)=m->j+1<=n->St (j+1) s.heap->P (bestOf bt j) x->(∀ b o,h0.get? b=some o->s.heap.get? b=some o)->
  s.heap.get? Z=some { cls:=.type "list", dict:=none,data:=.seq #[x,x] c,slots:=#[] }->
  (∀ v g tk,P (bestOf bt (n-1)) v->(∀ b o,b∉wr->b≠Z->s.heap.get? b=some o->g.get? b=some o)->R (.ok (.ret v)) { s with heap:=g,toks:=tk })->
  codeAny (model prog w) A (.builtin "min.loop" ⟨[.ref it,.none,.ref Z],kw⟩) R s:=by
 have zw:Z∉wr:=λ h=>hZ (W.sub _ h)
 have nm:(toString "min" ++ toString ".loop" : String) = "min.loop" := by decide
 intro m
 induction m with
 | zero =>
  intro j s x c hm hj st hP hb hz hR
  have last:j+1=n:=by omega
  refine codeAny_builtin F.entry_min_loop ?_;rw [Around.under_plainId F.plain_min_loop _]
  show wpAny _ A.in1 (seqItems? (.ref Z) >>= _) _ _ s
  refine wpAny_bind (wpAny_seqItems hz rfl ?_)
  show wpAny _ A.in1 (tryCatch (pyNext (.ref it)) _ >>= _) _ _ s
  refine wpAny_bind (wpAny_tryCatch (W.done s _ _ (last ▸ st) λ g tk k=>?_))
  have hz':=k Z _ zw hz
  show wpAny _ A.in1 (updateSeq Z (λ _=>#[]) >>= _) _ _ _
  refine wpAny_bind (wpAny_updateSeq hz' rfl (wpAny_bind (wpAny_letGo (wpAny_pure ?_))))
  exact hR x _ tk (by rw [← last];exact hP) λ b o h1 h2 e=>(Heap.get?_update_other _ _ (λ z=>h2 z.symm)).trans (k b o h1 e)
 | succ m ih =>
  intro j s x c hm hj st hP hb hz hR
  have more:j+1<n:=by omega
  refine codeAny_builtin F.entry_min_loop ?_;rw [Around.under_plainId F.plain_min_loop _]
  show wpAny _ A.in1 (seqItems? (.ref Z) >>= _) _ _ s
  refine wpAny_bind (wpAny_seqItems hz rfl ?_)
  show wpAny _ A.in1 (tryCatch (pyNext (.ref it)) _ >>= _) _ _ s
  refine wpAny_bind (wpAny_tryCatch (W.item (j+1) s _ _ more st λ y g tk hy st' k=>?_))
  have hz':=k Z _ zw hz
  have hb':∀ b o,h0.get? b=some o->g.get? b=some o:=λ b o e=>k b o (hw b o e).1 (hb b o e)
  show wpAny _ A.in1 (tryCatch (holding [y,y] (richCompare .Lt y x >>= _)) _ >>= _) _ _ _
  refine wpAny_bind (wpAny_tryCatch (wpAny_holding (wpAny_bind (hc (j+1) (bestOf bt j) y x _ _ _ (Nat.lt_succ_of_le (Yu bt j)) hb' hy hP ?_))))
  refine wpAny_bind (wpAny_holding (wpAny_truthy_bool (wpAny_bind (wpAny_letGo (wpAny_pure ?_)))))
  cases hh:bt (j+1) (bestOf bt j) with
  | true =>
   simp only [if_true]
   refine wpAny_bind (wpAny_updateSeq hz' rfl (wpAny_bind (wpAny_letGo ?_)))
   rw [nm]
   refine wpAny_pure ⟨plainId_quiet F.plain_min_loop _,ih (j+1) _ y _ (by omega) more (W.frame _ _ _ st' λ b h1 o e=>(Heap.get?_update_other _ _ (λ h:Z=b=>hZ (by rw [h];exact h1))).trans e) (by simp only [bestOf,hh,if_true];exact hy)
    (λ b o e=>(Heap.get?_update_other _ _ (λ h:Z=b=>(hw b o e).2 h.symm)).trans (hb' b o e)) (Heap.get?_update_self _ hz' rfl) λ v g2 tk2 h1 h2=>?_⟩
   exact hR v g2 tk2 h1 λ b o n1 n2 e=>h2 b o n1 n2 ((Heap.get?_update_other _ _ (λ z=>n2 z.symm)).trans (k b o n1 e))
  | false =>
   simp only [Bool.false_eq_true,if_false];refine wpAny_bind (wpAny_letGo ?_)
   rw [nm]
   refine wpAny_pure ⟨plainId_quiet F.plain_min_loop _,ih (j+1) _ x c (by omega) more st' (by simp only [bestOf,hh,Bool.false_eq_true,if_false];exact hP) hb' hz' λ v g2 tk2 h1 h2=>?_⟩
   exact hR v g2 tk2 h1 λ b o n1 n2 e=>h2 b o n1 n2 (k b o n1 e)
theorem qfp (W:Walks prog w A.in1 it fp wr n P St)(bt:Nat->Nat->Bool)(hc:WX prog w A.in1 h0 P bt)(Z:Addr)(hZ:Z∉fp)(hw:∀ b o,h0.get? b=some o->b∉wr/\b≠Z)(kw:List (Str×Value))(hn:0<n){s:Shared}{c:Nat}(st:St 0 s.heap)(hb:∀ b o,h0.get? b=some o->s.heap.get? b=some o)
  (hz:s.heap.get? Z=some { cls:=.type "list", dict:=none,data:=.seq #[] c,slots:=#[] })
  (hR:∀ v g tk,P (bestOf bt (n-1)) v->(∀ b o,b∉wr->b≠Z->s.heap.get? b=some o->g.get? b=some o)->R (.ok (.ret v)) { s with heap:=g,toks:=tk }) :
  codeAny (model prog w) A (.builtin "min.loop" ⟨[.ref it,.none,.ref Z],kw⟩) R s:=by
 have zw:Z∉wr:=λ h=>hZ (W.sub _ h)
 have nm:(toString "min" ++ toString ".loop" : String) = "min.loop" := by decide
 refine codeAny_builtin F.entry_min_loop ?_;rw [Around.under_plainId F.plain_min_loop _]
 show wpAny _ A.in1 (seqItems? (.ref Z) >>= _) _ _ s
 refine wpAny_bind (wpAny_seqItems hz rfl ?_)
 show wpAny _ A.in1 (tryCatch (pyNext (.ref it)) _ >>= _) _ _ s
 refine wpAny_bind (wpAny_tryCatch (W.item 0 s _ _ hn st λ y g tk hy st' k=>?_))
 have hz':=k Z _ zw hz
 show wpAny _ A.in1 (updateSeq Z (λ _=>#[y,y]) >>= _) _ _ _
 refine wpAny_bind (wpAny_updateSeq hz' rfl ?_)
 rw [nm]
 refine wpAny_pure ⟨plainId_quiet F.plain_min_loop _,qgP W bt hc Z hZ hw kw _ 0 _ y _ rfl hn (W.frame _ _ _ st' λ b h1 o e=>(Heap.get?_update_other _ _ (λ h:Z=b=>hZ (by rw [h];exact h1))).trans e) hy
  (λ b o e=>(Heap.get?_update_other _ _ (λ h:Z=b=>(hw b o e).2 h.symm)).trans (k b o (hw b o e).1 (hb b o e))) (Heap.get?_update_self _ hz' rfl) λ v g2 tk2 h1 h2=>?_⟩
 exact hR v g2 tk2 h1 λ b o n1 n2 e=>h2 b o n1 n2 ((Heap.get?_update_other _ _ (λ z=>n2 z.symm)).trans (k b o n1 e))
end
def WW (prog:Program)(w:World)(A:Around)(h0:Heap)(P:Nat->Value->Prop)(bt:Nat->Nat->Bool):Prop :=
 ∀ (i j:Nat) (x y:Value) (s:Shared) (Q E:Value->Shared->Prop),j<i->(∀ b o,h0.get? b=some o->s.heap.get? b=some o)->P i x->P j y->Q (.bool (bt i j)) s->wpAny (model prog w) A (richCompare .Gt x y) Q E s
section
variable {prog:Program}{w:World}{A:Around}{R:Result->Shared->Prop}{it:Addr}{fp wr:List Addr}{n:Nat}{P:Nat->Value->Prop}{St:Nat->Heap->Prop}{h0:Heap}
theorem qgO (W:Walks prog w A.in1 it fp wr n P St)(bt:Nat->Nat->Bool)(hc:WW prog w A.in1 h0 P bt)(Z:Addr)(hZ:Z∉fp)(hw:∀ b o,h0.get? b=some o->b∉wr/\b≠Z)(kw:List (Str×Value)) :
  ∀ (m j:Nat) (s:Shared) (x:Value) (c:Nat),n-(j+1)=m->j+1<=n->St (j+1) s.heap->P (bestOf bt j) x->(∀ b o,h0.get? b=some o->s.heap.get? b=some o)->
  s.heap.get? Z=some { cls:=.type "list", dict:=none,data:=.seq #[x,x] c,slots:=#[] }->
  (∀ v g tk,P (bestOf bt (n-1)) v->(∀ b o,b∉wr->b≠Z->s.heap.get? b=some o->g.get? b=some o)->R (.ok (.ret v)) { s with heap:=g,toks:=tk })->
  codeAny (model prog w) A (.builtin "max.loop" ⟨[.ref it,.none,.ref Z],kw⟩) R s:=by
 have zw:Z∉wr:=λ h=>hZ (W.sub _ h)
 have nm:(toString "max" ++ toString ".loop" : String) = "max.loop" := by decide
 intro m
 induction m with
 | zero =>
  intro j s x c hm hj st hP hb hz hR
  have last:j+1=n:=by omega
  refine codeAny_builtin F.entry_max_loop ?_;rw [Around.under_plainId F.plain_max_loop _]
  show wpAny _ A.in1 (seqItems? (.ref Z) >>= _) _ _ s
  refine wpAny_bind (wpAny_seqItems hz rfl ?_)
  show wpAny _ A.in1 (tryCatch (pyNext (.ref it)) _ >>= _) _ _ s
  refine wpAny_bind (wpAny_tryCatch (W.done s _ _ (last ▸ st) λ g tk k=>?_))
  have hz':=k Z _ zw hz
  show wpAny _ A.in1 (updateSeq Z (λ _=>#[]) >>= _) _ _ _
  refine wpAny_bind (wpAny_updateSeq hz' rfl (wpAny_bind (wpAny_letGo (wpAny_pure ?_))))
  exact hR x _ tk (by rw [← last];exact hP) λ b o h1 h2 e=>(Heap.get?_update_other _ _ (λ z=>h2 z.symm)).trans (k b o h1 e)
 | succ m ih =>
  intro j s x c hm hj st hP hb hz hR
  have more:j+1<n:=by omega
  refine codeAny_builtin F.entry_max_loop ?_;rw [Around.under_plainId F.plain_max_loop _]
  show wpAny _ A.in1 (seqItems? (.ref Z) >>= _) _ _ s
  refine wpAny_bind (wpAny_seqItems hz rfl ?_)
  show wpAny _ A.in1 (tryCatch (pyNext (.ref it)) _ >>= _) _ _ s
  refine wpAny_bind (wpAny_tryCatch (W.item (j+1) s _ _ more st λ y g tk hy st' k=>?_))
  have hz':=k Z _ zw hz
  have hb':∀ b o,h0.get? b=some o->g.get? b=some o:=λ b o e=>k b o (hw b o e).1 (hb b o e)
  show wpAny _ A.in1 (tryCatch (holding [y,y] (richCompare .Gt y x >>= _)) _ >>= _) _ _ _
  refine wpAny_bind (wpAny_tryCatch (wpAny_holding (wpAny_bind (hc (j+1) (bestOf bt j) y x _ _ _ (Nat.lt_succ_of_le (Yu bt j)) hb' hy hP ?_))))
  refine wpAny_bind (wpAny_holding (wpAny_truthy_bool (wpAny_bind (wpAny_letGo (wpAny_pure ?_)))))
  cases hh:bt (j+1) (bestOf bt j) with
  | true =>
   simp only [if_true]
   refine wpAny_bind (wpAny_updateSeq hz' rfl (wpAny_bind (wpAny_letGo ?_)))
   rw [nm]
   refine wpAny_pure ⟨plainId_quiet F.plain_max_loop _,ih (j+1) _ y _ (by omega) more (W.frame _ _ _ st' λ b h1 o e=>(Heap.get?_update_other _ _ (λ h:Z=b=>hZ (by rw [h];exact h1))).trans e) (by simp only [bestOf,hh,if_true];exact hy)
    (λ b o e=>(Heap.get?_update_other _ _ (λ h:Z=b=>(hw b o e).2 h.symm)).trans (hb' b o e)) (Heap.get?_update_self _ hz' rfl) λ v g2 tk2 h1 h2=>?_⟩
   exact hR v g2 tk2 h1 λ b o n1 n2 e=>h2 b o n1 n2 ((Heap.get?_update_other _ _ (λ z=>n2 z.symm)).trans (k b o n1 e))
  | false =>
   simp only [Bool.false_eq_true,if_false];refine wpAny_bind (wpAny_letGo ?_)
   rw [nm]
   refine wpAny_pure ⟨plainId_quiet F.plain_max_loop _,ih (j+1) _ x c (by omega) more st' (by simp only [bestOf,hh,Bool.false_eq_true,if_false];exact hP) hb' hz' λ v g2 tk2 h1 h2=>?_⟩
   exact hR v g2 tk2 h1 λ b o n1 n2 e=>h2 b o n1 n2 (k b o n1 e)
theorem qfo (W:Walks prog w A.in1 it fp wr n P St)(bt:Nat->Nat->Bool)(hc:WW prog w A.in1 h0 P bt)(Z:Addr)(hZ:Z∉fp)(hw:∀ b o,h0.get? b=some o->b∉wr/\b≠Z)(kw:List (Str×Value))(hn:0<n){s:Shared}{c:Nat}(st:St 0 s.heap)(hb:∀ b o,h0.get? b=some o->s.heap.get? b=some o)
  (hz:s.heap.get? Z=some { cls:=.type "list", dict:=none,data:=.seq #[] c,slots:=#[] })
  (hR:∀ v g tk,P (bestOf bt (n-1)) v->(∀ b o,b∉wr->b≠Z->s.heap.get? b=some o->g.get? b=some o)->R (.ok (.ret v)) { s with heap:=g,toks:=tk }) :
  codeAny (model prog w) A (.builtin "max.loop" ⟨[.ref it,.none,.ref Z],kw⟩) R s:=by
 have zw:Z∉wr:=λ h=>hZ (W.sub _ h)
 have nm:(toString "max" ++ toString ".loop" : String) = "max.loop" := by decide
 refine codeAny_builtin F.entry_max_loop ?_;rw [Around.under_plainId F.plain_max_loop _]
 show wpAny _ A.in1 (seqItems? (.ref Z) >>= _) _ _ s
 refine wpAny_bind (wpAny_seqItems hz rfl ?_)
 show wpAny _ A.in1 (tryCatch (pyNext (.ref it)) _ >>= _) _ _ s
 refine wpAny_bind (wpAny_tryCatch (W.item 0 s _ _ hn st λ y g tk hy st' k=>?_))
 have hz':=k Z _ zw hz
 show wpAny _ A.in1 (updateSeq Z (λ _=>#[y,y]) >>= _) _ _ _
 refine wpAny_bind (wpAny_updateSeq hz' rfl ?_)
 rw [nm]
 refine wpAny_pure ⟨plainId_quiet F.plain_max_loop _,qgO W bt hc Z hZ hw kw _ 0 _ y _ rfl hn (W.frame _ _ _ st' λ b h1 o e=>(Heap.get?_update_other _ _ (λ h:Z=b=>hZ (by rw [h];exact h1))).trans e) hy
  (λ b o e=>(Heap.get?_update_other _ _ (λ h:Z=b=>(hw b o e).2 h.symm)).trans (k b o (hw b o e).1 (hb b o e))) (Heap.get?_update_self _ hz' rfl) λ v g2 tk2 h1 h2=>?_⟩
 exact hR v g2 tk2 h1 λ b o n1 n2 e=>h2 b o n1 n2 ((Heap.get?_update_other _ _ (λ z=>n2 z.symm)).trans (k b o n1 e))
end
theorem Vals.back:∀ {vs:List V} {us:List Value} {i:Nat} {u:Value},Vals vs us->us[i]?=some u->∃ v,vs[i]?=some v/\RelV v u
 | _,_,_,_,.nil,h=>by simp at h
 | _,_,0,_,.cons r _,h=>by cases h;exact ⟨_,rfl,r⟩
 | _,_,i+1,_,.cons _ t,h=>by
  obtain ⟨v,hv,r⟩:=Vals.back t (i:=i) (by simpa using h)
  exact ⟨v,by simpa using hv,r⟩
theorem DenL.back {K:W.Frag}{H:Hp}{S:Av}:∀ {vs:List V} {ds:List PyData} {i:Nat} {v:V},DenL K H S vs ds->vs[i]?=some v->∃ d,ds[i]?=some d/\Den K H S v d
 | _,_,_,_,.nil,h=>by simp at h
 | _,_,0,_,.cons r _,h=>by cases h;exact ⟨_,rfl,r⟩
 | _,_,i+1,_,.cons _ t,h=>by
  obtain ⟨v,hv,r⟩:=DenL.back t (i:=i) (by simpa using h)
  exact ⟨v,by simpa using hv,r⟩
section
variable {X:Cx}
def qeZ (ds:List PyData):Bool:=ds.all λ d=>SeqAt.shaped d&&decide (d.depth<=50)&&ds.all λ e=>(ltX d e).isSome
def wB (ds:List PyData)(i j:Nat):Bool:=match ds[i]?,ds[j]? with
 | some d,some e=>(ltX d e).getD false
 | _,_=>false
def qjw:List PyData->Option PyData
 | [.list ds]=>if qeZ ds=true/\ds.length<=1000 then ds[bestOf (wB ds) (ds.length-1)]? else none
 | _=>none
end
section
variable {s:Shared}{prog:Program}{w:World}{A:Around}{E:Value->Shared->Prop}
theorem qgL {l:Addr}{items:Array Value}{bt:Nat->Nat->Bool}{Q:Value->Shared->Prop}(hh:A.handled=none)(hl:s.heap.IsList l items)(hn:0<items.size)
  (hc:∀ (i j:Nat) (x y:Value) (s':Shared) (Q' E':Value->Shared->Prop),j<i->(∀ b o,s.heap.get? b=some o->s'.heap.get? b=some o)->items[i]?=some x->items[j]?=some y->Q' (.bool (bt i j)) s'->wpAny (model prog w) A.in1 (richCompare .Gt x y) Q' E' s')
  (h:∀ v g tk,items[bestOf bt (items.size-1)]?=some v->(∀ b o,s.heap.get? b=some o->g.get? b=some o)->Q v { s with heap:=g,toks:=tk }):wpAny (model prog w) A (call (.builtin "max") [.ref l]) Q E s:=by
 have nm:(toString "max" ++ toString ".loop" : String) = "max.loop" := by decide
 have lt:∀ {b:Addr} {o:Obj},s.heap.get? b=some o->b<s.heap.objs.size:=λ e=>Heap.lt_size e
 have hll:l<s.heap.objs.size:=by obtain ⟨o,e,_⟩:=id hl;exact lt e
 refine call_function_tree (id := "max") F.kind_max F.plain_max F.entry_max (F.args_max1 (.ref l)) ?_
 have par:Builtin.Builtins.bindParams "max" ["key", "default"] 0 ⟨[],[]⟩=pure [none,none]:=rfl
 refine (wpAny_bind (wpAny_of_eq par ?_):wpAny _ A.in1 (Builtin.Builtins.bindParams "max" _ 0 _ >>= _) _ _ s)
 refine wpAny_bind (wpAny_pure (wpAny_bind (wpAny_pyIter_list hl (wpAny_bind (wpAny_newObj_type ?_)))))
 rw [nm]
 refine wpAny_pure ⟨plainId_quiet F.plain_max_loop _,qfo (h0:=s.heap) (Walks.list (A:=A.in1) hh _ l (Nat.ne_of_lt hll) items) bt (λ i j u v s' Q' E' hij k hu hv q=>hc i j u v s' Q' E' hij k hu hv q) _ ?_ (λ b o e=>?_) [] hn
  ⟨⟨_,Heap.get?_push_of_some _ (Heap.get?_push_size _ rfl),rfl,rfl⟩,(hl.push _).push _⟩ (λ b o e=>Heap.get?_push_of_some _ (Heap.get?_push_of_some _ e)) (Heap.get?_push_size _ rfl) λ v g tk hv k=>?_⟩
 ·simp only [Heap.size_push]
  intro hm;simp only [List.mem_cons,List.not_mem_nil,or_false] at hm
  rcases hm with hm|hm
  ·exact Nat.succ_ne_self _ hm
  ·exact absurd hm (Nat.ne_of_gt (Nat.lt_succ_of_lt hll))
 ·have:=lt e
  simp only [Heap.size_push]
  exact ⟨λ hm=>absurd (List.mem_singleton.mp hm) (Nat.ne_of_lt this),Nat.ne_of_lt (Nat.lt_succ_of_lt this)⟩
 ·refine h v g tk hv λ b o e=>k b o ?_ ?_ (Heap.get?_push_of_some _ (Heap.get?_push_of_some _ e))
  ·exact λ hm=>absurd (List.mem_singleton.mp hm) (Nat.ne_of_lt (lt e))
  ·have:=lt e
   simp only [Heap.size_push]
   exact Nat.ne_of_lt (Nat.lt_succ_of_lt this)
end
section
variable {X:Cx}
def qeY (ds:List PyData):Bool:=ds.all λ d=>SeqAt.shaped d&&decide (d.depth<=50)&&ds.all λ e=>(gtX d e).isSome
def wA (ds:List PyData)(i j:Nat):Bool:=match ds[i]?,ds[j]? with
 | some d,some e=>(gtX d e).getD false
 | _,_=>false
def Wm:List PyData->Option PyData
 | [.list ds]=>if qeY ds=true/\ds.length<=1000 then ds[bestOf (wA ds) (ds.length-1)]? else none
 | _=>none
theorem qcZ {k:Nat}(hr:Room k X.A):CallD X (.builtin "max") Wm:=λ pins s σ H xs us Q I r ⟨S,ds,d,m,h1,e,q⟩=>by
 unfold Wm at e
 split at e
 ·rename_i ls
  split at e
  ·rename_i hc
   obtain ⟨v1,rfl,d1⟩:=h1.inv1
   obtain ⟨u1,rfl,r1⟩:=r.one
   cases d1 with
   | @list a ys _ hs t =>
    cases (show u1=Value.ref a from r1)
    obtain ⟨its,rv,p,hz⟩:=I.list hs.sq
    have hl:=rv.length
    have ht:=t.length
    have hu:=hr.units
    have hpos:0<ls.length:=by
     cases ls with
     | nil=>cases e
     | cons=>exact Nat.zero_lt_succ _
    have get:∀ {i:Nat} {x:Value},its.toArray[i]?=some x->∃ y d,ys[i]?=some y/\RelV y x/\ls[i]?=some d/\Den X.K H S y d:=λ {i x} hx=>by
     rw [List.getElem?_toArray] at hx
     obtain ⟨hi,-⟩:=List.getElem?_eq_some_iff.mp hx
     have hi':i<ys.length:=by omega
     obtain ⟨y,hy,ry⟩:=Vals.back rv hx
     obtain ⟨d,hd,dd⟩:=t.back hy
     exact ⟨y,d,hy,ry,hd,dd⟩
    have ok:=List.all_eq_true.mp hc.1
    refine qgL (bt:=wA ls) hr.hd p.isList (by simp;omega) (λ i j x y s' Q' E' hij kp hx hy q'=>?_) λ v g tk hv kp=>?_
    ·obtain ⟨vx,dx,_,rx,ex,gx⟩:=get hx
     obtain ⟨vy,dy,_,ry,ey,gy⟩:=get hy
     have ox:=ok dx (List.mem_of_getElem? ex)
     have oy:=ok dy (List.mem_of_getElem? ey)
     rw [Bool.and_eq_true,Bool.and_eq_true] at ox oy
     obtain ⟨as,rx2⟩:=gx.reads I (SeqAt.canLay_of_shaped ox.1.1) rx
     obtain ⟨bs,ry2⟩:=gy.reads I (SeqAt.canLay_of_shaped oy.1.1) ry
     have lt:=List.all_eq_true.mp ox.2 dy (List.mem_of_getElem? ey)
     obtain ⟨b,eb⟩:=Option.isSome_iff_exists.mp lt
     have ebt:wA ls i j=b:=by unfold wA;rw [ex,ey];show (gtX dx dy).getD false=b;rw [eb];rfl
     rw [ebt] at q'
     exact qdb 50 _ _ X.A.in1 s' x y as bs b (of_decide_eq_true ox.1.2) (Reads.keeps kp rx2) (Reads.keeps kp ry2) (SeqAt.canLay_of_shaped ox.1.1) (SeqAt.canLay_of_shaped oy.1.1) (by show X.A.units+1+50+1<cLine;omega) eb X.prog X.w E' Q' q'
    ·obtain ⟨vx,dx,_,rx,ex,gx⟩:=get hv
     have hsz:its.toArray.size=ls.length:=by simp;omega
     rw [hsz] at ex
     rw [e] at ex
     cases ex
     exact ⟨vx,H,I.kept kp,rx,q _ H (Same.refl H) gx⟩
  ·cases e
 ·cases e
end
def Its (lo st:Int)(n:Nat):It:=⟨λ i _=>i<n,λ i H x H'=>H'=H/\x=.int (lo+(i:Nat)*st),λ i _=>n<=i⟩
theorem qcP {P:Program}{w:World}{K:W.Frag}{tg:Expr}(it:Addr)(lo st:Int)(n:Nat):Turn P w K tg (Its lo st n) [it] it (λ i h=>IsRangeIter h it (lo+(i:Nat)*st) ((n:Int)-(i:Nat)) st) where
 mem:=by simp
 obj:=λ i h st b hb=>by
  have e:b=it:=by simpa using hb
  subst e
  exact ⟨_,st,λ v z=>by
   have z':Data.fields _=Data.cell v:=z
   cases z'⟩
 keep:=λ i h h' st k=>k it (by simp) _ st
 item:=by
  intro X hP hw hK hc i pins s σ H E I hf sti hg
  subst hP hw hK
  obtain ⟨f0,f1,f2,f3,f4,f5⟩:=hf it (by simp)
  have W:=Walks.range (prog:=X.prog) (w:=X.w) (I.ok.hd hc) it lo st n
  refine W.item i s _ _ hg sti λ v h' tk hv st' kk=>?_
  obtain ⟨t,rfl⟩:=hv
  have I1:Inv X pins σ H { s with heap:=h',toks:=tk }:=I.turned (λ b o hb e=>kk b o (by simpa using hb) e) f0 f1 f3 f4 f5
  exact ⟨_,rfl,qbT (s:={ s with heap:=h',toks:=tk }) (n := "range_iterator") st' rfl rfl (by decide) ⟨.int (lo+(i:Nat)*st),H,I1,⟨t,rfl⟩,⟨rfl,rfl⟩,st',λ b hb=>(hf b hb).1⟩⟩
 done:=by
  intro X hP hw hK hc i pins s σ H E I hf st hg
  subst hP hw hK
  obtain ⟨f0,f1,f2,f3,f4,f5⟩:=hf it (by simp)
  exact wpAny_pyNext_range_end (I.ok.hd hc) st (by have:n<=i:=hg;omega) λ h' eb=>⟨rfl,I.turned (t':=s.toks) (λ b o hb e=>eb b o hb e) f0 f1 f3 f4 f5⟩
 self:=λ _ _ _ _ _ st h=>wpAny_pyIter_rangeiter st h
section
variable {X:Cx}{tg a b c:Expr}{pos:Pos}
def okR3 (i j c:Int):Bool:=Builtin.Range.small i j c&&(!(Builtin.divisionGoesByPylong (j-i) c)&&(decide (c≠0)&&decide (0<=Builtin.Range.rangeSize i j c/\Builtin.Range.rangeSize i j c<=1000)))
def iRng3 (ta:TA):TI:=λ σ H R=>ta σ H λ vs H1=>∃ i j c:Int,vs=[.int i,.int j,.int c]/\okR3 i j c=true/\R (Its i c (Builtin.Range.rangeSize i j c).toNat) H1
theorem qfz {ta:TA}{p:Pos}(hg:Gl X "range")(hm:X.mg "range" = none)(ha:PA X [a,b,c] ta)(hs:starEach [a,b,c] X.env=[(false,eval a X.env),(false,eval b X.env),(false,eval c X.env)]:=by rfl)(hs2:starEach [b,c] X.env=[(false,eval b X.env),(false,eval c X.env)]:=by rfl) :
  PI X tg (.Call (.Name "range" p) [a,b,c] [] pos) (iRng3 ta):=by
 intro pins s σ H R I h
 refine Call_ (ye I hg hm boot_range (PyProof.Rows.callWith_type1 (thn (ha pos pins s σ H _ I h) λ us s1 ⟨vs,H1,I1,r1,q1⟩=>?_) (by rw [hs,hs2]) (by rw [hs2];rfl)))
 obtain ⟨i,j,k,e,ok,q⟩:=q1
 subst e
 unfold okR3 at ok
 rw [Bool.and_eq_true,Bool.and_eq_true,Bool.and_eq_true] at ok
 obtain ⟨k1,k2,k3,k4⟩:=ok
 have k4:=of_decide_eq_true k4
 cases r1 with
 | cons r rr =>
  cases rr with
  | cons r' rr =>
   cases rr with
   | cons r'' rr =>
    cases rr
    obtain ⟨t,rfl⟩:=r
    obtain ⟨t',rfl⟩:=r'
    obtain ⟨t'',rfl⟩:=r''
    refine call_range_3 (of_decide_eq_true k3) ?_ (.inl (by simpa using k2))
    refine wpAny_pyIter_range (IsRange.new ..) k1 ?_
    have I2:Inv X pins σ H1 { s1 with heap:=s1.heap.push { cls:=.type "range", data:=.fields #[.int i t,.int j t',.int k t''] },toks:=s1.toks }:=I1.kept λ b o e=>Heap.get?_push_of_some _ e
    refine ⟨(s1.heap.push { cls:=.type "range", data:=.fields #[.int i t,.int j t',.int k t''] }).objs.size,[(s1.heap.push { cls:=.type "range", data:=.fields #[.int i t,.int j t',.int k t''] }).objs.size],_,_,H1,rfl,
     I2.kept (t':=s1.toks) λ b o e=>Heap.get?_push_of_some _ e,qcP _ i k (Builtin.Range.rangeSize i j k).toNat,?_,λ b hb=>?_,q⟩
    ·have e1:i+((0:Nat):Int)*k=i:=by simp
     have e2:(((Builtin.Range.rangeSize i j k).toNat:Nat):Int)-((0:Nat):Int)=Builtin.Range.rangeSize i j k:=by omega
     show IsRangeIter _ _ (i+((0:Nat):Int)*k) ((((Builtin.Range.rangeSize i j k).toNat:Nat):Int)-((0:Nat):Int)) k
     rw [e1,e2]
     exact Heap.get?_push_size _ rfl
    ·have e:b=(s1.heap.push { cls:=.type "range", data:=.fields #[.int i t,.int j t',.int k t''] }).objs.size:=by simpa using hb
     subst e
     exact I2.fpOk (Nat.le_refl _) (I2.hok.fresh (Nat.le_refl _))
def rngS:Int->Int->Nat->List PyData
 | _,_,0=>[]
 | lo,st,n+1=>.int lo::rngS (lo+st) st n
theorem Jy:∀ (lo st:Int) (n:Nat),(rngS lo st n).length=n
 | _,_,0=>rfl
 | lo,st,n+1=>by rw [rngS,List.length_cons,Jy]
theorem qcF:∀ (lo st:Int) (n i:Nat) (d:PyData),(rngS lo st n)[i]?=some d->d=.int (lo+(i:Nat)*st)
 | _,_,0,_,_,h=>by simp [rngS] at h
 | lo,st,n+1,0,d,h=>by simp [rngS] at h;subst h;simp
 | lo,st,n+1,i+1,d,h=>by
  have:=qcF (lo+st) st n i d (by simpa [rngS] using h)
  rw [this]
  congr 1
  rw [Int.natCast_add,Int.add_mul]
  simp
  omega
theorem IsIt.rngS {K:W.Frag}{H:Hp}{S:Av}(lo st:Int)(n:Nat):IsIt K S (Its lo st n) H (rngS lo st n) where
 go:=λ i H' e hi=>by rw [Jy] at hi;exact hi
 yld:=λ i H' x H2 e ⟨e2,q⟩=>⟨by rw [e2];exact Same.refl _,λ d hd _ _=>by
  have q':x=.int (lo+(i:Nat)*st):=q
  rw [qcF lo st n i d hd,q']
  exact .int _⟩
 stop:=λ H' e=>by rw [Jy];exact Nat.le_refl n
def qeE:List PyData->Option (List PyData)
 | [.int i,.int j,.int c]=>if okR3 i j c=true then some (rngS i c (Builtin.Range.rangeSize i j c).toNat) else none
 | _=>none
theorem DenL.inv3 {K:W.Frag}{H:Hp}{S:Av}{vs:List V}{d e f:PyData}(h:DenL K H S vs [d,e,f]):∃ v w x,vs=[v,w,x]/\Den K H S v d/\Den K H S w e/\Den K H S x f:=by
 cases h with
 | cons a t=>cases t with
  | cons b t=>cases t with
   | cons c t=>cases t;exact ⟨_,_,_,rfl,a,b,c⟩
theorem qdu {fs:Rho->Option (List PyData)}{p:Pos}(hg:Gl X "range")(hm:X.mg "range" = none)(ha:PDA X [] [a,b,c] fs)(hs:starEach [a,b,c] X.env=[(false,eval a X.env),(false,eval b X.env),(false,eval c X.env)]:=by rfl)(hs2:starEach [b,c] X.env=[(false,eval b X.env),(false,eval c X.env)]:=by rfl):PDR X tg (.Call (.Name "range" p) [a,b,c] [] pos) (evR fs qeE) :=
 (qfz hg hm ha hs hs2).weak λ σ H R ⟨S,ρ,ds,hs,e,w⟩=>by
  obtain ⟨xs,e1,e⟩:=qi e
  refine ⟨S,ρ,xs,hs,e1,λ vs H1 g1 d1=>?_⟩
  unfold qeE at e
  split at e
  ·split at e
   ·rename_i hj
    cases e
    obtain ⟨_,_,_,rfl,q,q',q''⟩:=d1.inv3
    cases q;cases q';cases q''
    exact ⟨_,_,_,rfl,hj,w _ _ g1 λ _ _=>IsIt.rngS _ _ _⟩
   ·cases e
  ·cases e
end
theorem qbd:typeLookup (.type "list") "keys" = pure none:=by rw [typeLookup_type,builtinLookup_eq_fast];kernel_rfl
theorem qiy {prog:Program}{w:World}{A:Around}{E:Value->Shared->Prop}{s:Shared}{a:Addr}{its:Array Value}{n:Nat}{sl:Array (Option Value)}{Q:Option Value->Shared->Prop}(hx:s.heap.get? a=some { cls:=.type "list", dict:=none,data:=.seq its n,slots:=sl })(hA:A.handled=none)
  (h:∀ h' tk,(∀ b o,s.heap.get? b=some o->h'.get? b=some o)->Q none { s with heap:=h',toks:=tk }):wpAny (model prog w) A (getAttr? (.ref a) "keys") Q E s:=by
 obtain ⟨hp,g,d,tk,os⟩:=s
 have hTT:∀ tk',(⟨hp,g,d,tk',os⟩:Shared).TypeIs (.ref a) "list" := λ _=>⟨_,hx,rfl⟩
 have q1:=sub_AttributeError
 have q3:=F.slot_list_getattribute.lookup
 have q4:=F.slot_list_getattribute.bind (.ref a)
 have q5:=am_list_getattr_none
 unfold getAttr? getAttrBy? getAttrBy
 repeat (any_goals (first|assumption|exact hTT _|((with_reducible show wpAny _ _ (call (Value.builtin "list.__getattribute__") _ _) _ _ _);refine call_meets F.slot_list_getattribute (hTT _) am_entry_list_getattribute (F.args_list_getattribute_2 _ _) (meets_getattribute_miss_list a its n sl "keys" _ qbd (by decide +kernel) (by size_fits)) ⟨hx,hA,λ h' tk' e hx'=>?_⟩)|wp_step))
 obtain ⟨t',u',he⟩:=hx'.there
 unfold getattributeRaised
 repeat (any_goals (first|assumption|wp_step))
 exact h _ _ hx'.keeps
def qjm (h0:Heap)(ks:KX)(b:Addr)(key:Value):Prop:=match ks with
 | .inl i=>∃ t,key=.int i t
 | .inr t=>key=.ref b/\Is2 h0 t b
def qcS (h0:Heap)(kvs:List (KX×Addr×V)):Prop:=∀ p∈kvs,∀ ks,p.1=.inr ks->Is2 h0 ks p.2.1
theorem qdL (ks:K2):∀ {kvs:List (KX×Addr×V)} {xs:List (K2×Addr×Value)},Paired PkT kvs xs->(kvs.any λ p=>decide (p.1=.inr ks))=(atKey xs ks).isSome
 | _,_,.nil=>rfl
 | _,_,@Paired.cons _ _ _ p q _ qs h t=>by
  rw [List.any_cons,qdL ks t]
  by_cases e:p.1=.inr ks
  ·have eq:q.1=ks:=Sum.inr.inj (h.1.symm.trans e)
   unfold atKey
   rw [decide_eq_true e,List.find?_cons,decide_eq_true eq];rfl
  ·have e':¬ q.1=ks:=λ z=>e (by rw [h.1,z])
   unfold atKey
   rw [decide_eq_false e,List.find?_cons,decide_eq_false e',Bool.false_or]
theorem Is2.grow {h h':Heap}{ks:K2}{a:Addr}(x:Is2 h ks a)(k:∀ b o,h.get? b=some o->h'.get? b=some o):Is2 h' ks a:=let ⟨as,r⟩:=x;⟨as,Reads.keeps k r⟩
theorem qjt {h0 h:Heap}(k:∀ b o,h0.get? b=some o->h.get? b=some o):∀ {kvs:List (KX×Addr×V)} {xs:List (K2×Addr×Value)},Paired PkT kvs xs->qcS h0 kvs->∀ x∈xs,Is2 h x.1 x.2.1
 | _,_,.nil,_,x,hx=>by cases hx
 | _,_,@Paired.cons _ _ _ p q kvs qs h t,hk,x,hx=>by
  rcases List.mem_cons.mp hx with rfl|hx
  ·have:=hk p (.head _) x.1 h.1
   rw [h.2.1] at this
   exact this.grow k
  ·exact qjt k t (λ p hp=>hk p (.tail _ hp)) x hx
theorem qcw {kvs:List (KX×Addr×V)}{ks:KX}{b:Addr}{v:V}{p:KX×Addr×V}(hp:p∈putV kvs ks b v):(∃ q∈kvs,q.1=p.1/\q.2.1=p.2.1)\/p=(ks,b,v):=by
 unfold putV at hp
 split at hp
 ·obtain ⟨q,hq,rfl⟩:=List.mem_map.mp hp
  refine .inl ⟨q,hq,?_⟩
  split<;>exact ⟨rfl,rfl⟩
 ·rcases List.mem_append.mp hp with z|z
  ·exact .inl ⟨p,z,rfl,rfl⟩
  ·exact .inr (List.mem_singleton.mp z)
section
variable {prog:Program}{w:World}{A:Around}{E:Value->Shared->Prop}{s:Shared}{D:Addr}{kvs:List (KX×Addr×V)}{ep:Nat}{ks:KX}{b:Addr}{v:V}{key r:Value}{h0:Heap}
theorem qh1 {Q:Unit->Shared->Prop}(hu:A.units+3<cLine)(hk0:qcS h0 kvs)(hkey:qjm h0 ks b key)(hom:∀ p∈kvs,kxI p.1=kxI ks)(kp:∀ b o,h0.get? b=some o->s.heap.get? b=some o)(d:zZ D kvs ep s.heap)(rv:RelV v r)(hz:kvs.length<1000)
  (q:∀ h' tk ep',zZ D (putV kvs ks b v) ep' h'->Heap.SameBut D s.heap h'->Q () { s with heap:=h',toks:=tk }):wpAny (model prog w) A (dictSet D key r) Q E s:=by
 have z1000:1000<sizeLine:=zX (Nat.le_refl _)
 cases ks with
 | inr ks =>
  obtain ⟨xs,pk,o,es,g1,g2,g3,g4,g5⟩:=d.tup hom
  obtain ⟨rfl,hk⟩:=(show key=.ref b/\Is2 h0 ks b from hkey)
  have hxl:xs.length<=sizeLine:=by rw [← Paired.length pk];exact d.1
  refine wpAny_dictSet_heap (knd:=Y6 prog w) (hsz:=hxl) hu (hk.grow kp) (xs:=xs) ⟨o,es,ep,g1,g2,g3,g4,qjt kp pk hk0,g5⟩ λ h' dd' hs'=>?_
  obtain ⟨o',es',ep',k1,k2,k3,k4,_,k5⟩:=dd'
  exact q _ _ ep' ⟨by have:=Jw kvs (.inr ks) b v;omega,d.2.1,.inl ⟨_,qcz pk rv (qdL ks pk),o',es',k1,k2,k3,k4,k5⟩⟩ hs'
 | inl i =>
  obtain ⟨vs,pk,o,es,g1,g2,g3,g4,g5⟩:=d.int hom
  obtain ⟨t',rfl⟩:=(show ∃ t,key=.int i t from hkey)
  have hxl:vs.length<=sizeLine:=by rw [← Paired.length pk];exact d.1
  refine wpAny_dictSet_pairs (knd:=intKind prog w) (hsz:=hxl) (intKind_is _ _ i t') (kvs:=vs) ⟨o,es,ep,g1,g2,g3,qad g4,Wo g4,g5⟩ λ h' dd' hs'=>?_
  obtain ⟨o',es',ep',k1,k2,k3,k4,k4',k5⟩:=dd'
  exact q _ _ ep' ⟨by have:=Jw kvs (.inl i) b v;omega,d.2.1,.inr ⟨_,qcy pk rv,o',es',k1,k2,k3,yh k4' λ e he=>k4 e (Array.mem_toList_iff.mp he),k5⟩⟩ hs'
end
theorem zZ.but {h h':Heap}{D:Addr}{kvs:List (KX×Addr×V)}{ep:Nat}(d:zZ D kvs ep h)(k:∀ o,h.get? D=some o->h'.get? D=some o):zZ D kvs ep h' :=
 ⟨d.1,d.2.1,d.2.2.imp (λ ⟨xs,r,o,es,g1,g2⟩=>⟨xs,r,o,es,k o g1,g2⟩) λ ⟨xs,r,o,es,g1,g2⟩=>⟨xs,r,o,es,k o g1,g2⟩⟩
theorem Jo:entryFor table "dict.update.loop" = some Builtin.«dict.update.loop»:=entryFor_of_tree (by kernel_rfl)
theorem Zu:plainId "dict.update.loop" =true:=by kernel_rfl
def putAll:List (KX×Addr×V)->List (KX×Addr×V)->List (KX×Addr×V)
 | kvs,[]=>kvs
 | kvs,p::ps=>putAll (putV kvs p.1 p.2.1 p.2.2) ps
section
variable {prog:Program}{w:World}{A:Around}{R:Result->Shared->Prop}{it D:Addr}{fp wr:List Addr}{Pv:Nat->Value->Prop}{St:Nat->Heap->Prop}{h0:Heap}
def qcT (h0:Heap)(p:KX×Addr×V)(u:Value):Prop:=∃ t o key r m,u=.ref t/\h0.get? t=some o/\o.cls=.type "tuple"/\o.data=.seq #[key,r] m/\qjm h0 p.1 p.2.1 key/\RelV p.2.2 r
theorem qgQ (hu:A.in1.units+3<cLine)(ps:List (KX×Addr×V))(W:Walks prog w A.in1 it fp wr ps.length Pv St)(hP:∀ j u,Pv j u->∃ p,ps[j]?=some p/\qcT h0 p u)(hDf:D∉fp)(hw:∀ b o,h0.get? b=some o->b∉wr/\b≠D)(kd:Bool)(hom:∀ p∈ps,kxI p.1=kd)(hl:ps.length<=900) :
  ∀ (m j:Nat) (s:Shared) (kvs:List (KX×Addr×V)) (ep:Nat) (i:Int) (tk:Tok),ps.length-j=m->j<=ps.length->St j s.heap->zZ D kvs ep s.heap->qcS h0 kvs->(∀ p∈kvs,kxI p.1=kd)->kvs.length<=j->(∀ b o,h0.get? b=some o->s.heap.get? b=some o)->
  (∀ h' tk ep',zZ D (putAll kvs (ps.drop j)) ep' h'->(∀ b o,h0.get? b=some o->h'.get? b=some o)->R (.ok (.ret .none)) { s with heap:=h',toks:=tk })->
  codeAny (model prog w) A (.builtin "dict.update.loop" ⟨[.ref D,.ref it,.int i tk,.none],[]⟩) R s:=by
 have dw:D∉wr:=λ h=>hDf (W.sub _ h)
 intro m
 induction m with
 | zero =>
  intro j s kvs ep i tk hm hj st d hk hkd hlen kp hR
  have last:j=ps.length:=by omega
  refine codeAny_builtin Jo ?_;rw [Around.under_plainId Zu _]
  refine (wpAny_bind (W.done s _ _ (last ▸ st) λ h' tk' k=>?_):wpAny _ A.in1 (pyNext (.ref it) >>= _) _ _ s)
  show wpAny _ A.in1 (Builtin.Dict.addKeywords D [] >>= λ _=>ret Value.none) _ _ _
  refine wpAny_bind (wpAny_pure (wpAny_pure ?_))
  rw [last,List.drop_length] at hR
  exact hR h' tk' ep (d.but λ o e=>k D o dw e) λ b o e=>k b o (hw b o e).1 (kp b o e)
 | succ m ih =>
  intro j s kvs ep i tk hm hj st d hk hkd hlen kp hR
  have more:j<ps.length:=by omega
  refine codeAny_builtin Jo ?_;rw [Around.under_plainId Zu _]
  refine (wpAny_bind (W.item j s _ _ more st λ u h' tk' hu' st' k=>?_):wpAny _ A.in1 (pyNext (.ref it) >>= _) _ _ s)
  obtain ⟨p,hp,t,o,key,r,mm,rfl,ht,hc,hd,hkey,rv⟩:=hP j u hu'
  have kp':∀ b o,h0.get? b=some o->h'.get? b=some o:=λ b o e=>k b o (hw b o e).1 (kp b o e)
  have d':=d.but λ o e=>k D o dw e
  have hpm:p∈ps:=List.mem_of_getElem? hp
  have hT:(⟨h',s.gens,s.drawn,tk',s.os⟩:Shared).TypeIs (.ref t) "tuple" := ⟨o,kp' _ _ ht,hc⟩
  show wpAny _ A.in1 (holding [Value.ref t] _ >>= _) _ _ _
  refine wpAny_bind (wpAny_holding (wpAny_bind (wpAny_tryCatch ?_)))
  unfold Builtin.Dict.pairItems
  refine wpAny_bind (wpAny_typeOf hT ?_)
  rw [if_pos (by decide)]
  refine wpAny_bind (wpAny_seqItems (kp' _ _ ht) hd (wpAny_pure ?_))
  show wpAny _ A.in1 (holding [key,r] (dictSet D key r)) _ _ _
  refine wpAny_holding (qh1 hu hk hkey (λ q hq=>(hkd q hq).trans (hom p hpm).symm) kp' d' rv (by omega) λ h2 tk2 ep2 d2 hs2=>?_)
  have hs2:Heap.SameBut D h' h2:=hs2
  have kp2:∀ b o,h0.get? b=some o->h2.get? b=some o:=λ b o e=>(hs2.2 b (hw b o e).2).trans (kp' b o e)
  have hdrop:ps.drop j=p::ps.drop (j+1):=by
   obtain ⟨hlt,he⟩:=List.getElem?_eq_some_iff.mp hp
   rw [List.drop_eq_getElem_cons hlt,he]
  refine wpAny_pure ⟨plainId_quiet Zu _,ih (j+1) _ (putV kvs p.1 p.2.1 p.2.2) ep2 (i+1) 0 (by omega) more (W.frame _ _ _ st' λ b hb o e=>(hs2.2 b (λ z=>hDf (z ▸ hb))).trans e) d2 ?_ ?_ ?_ kp2 λ h3 tk3 ep3 d3 k3=>?_⟩
  ·intro q hq ks eq
   rcases qcw hq with ⟨q',hq',e1,e2⟩|rfl
   ·rw [← e2];exact hk q' hq' ks (e1.trans eq)
   ·dsimp only at eq ⊢
    rw [eq] at hkey
    exact hkey.2
  ·intro q hq
   rcases qcw hq with ⟨q',hq',e1,_⟩|rfl
   ·rw [← e1];exact hkd q' hq'
   ·exact hom p hpm
  ·have:=Jw kvs p.1 p.2.1 p.2.2
   omega
  ·refine hR h3 tk3 ep3 ?_ k3
   rw [hdrop]
   exact d3
end
section
variable {prog:Program}{w:World}{A:Around}{E:Value->Shared->Prop}{s:Shared}
theorem qc2 {l:Addr}{its:Array Value}{n:Nat}{sl:Array (Option Value)}(tr:List (KX×Addr×V)){Q:Value->Shared->Prop}(hA:A.handled=none)(hu:A.units+8<cLine)(hb:sysModules<s.heap.objs.size)
  (hx:s.heap.get? l=some { cls:=.type "list", dict:=none,data:=.seq its n,slots:=sl }) (hl:s.heap.IsList l its) (hsz:its.size=tr.length) (hP:∀ (j:Nat) (u:Value),its[j]?=some u->∃ p,tr[j]?=some p/\qcT s.heap p u) (kd:Bool) (hom:∀ p∈tr,kxI p.1=kd) (h900:tr.length<=900)
  (h:∀ h' tk ep',zZ s.heap.objs.size (putAll [] tr) ep' h'->(∀ b o,s.heap.get? b=some o->h'.get? b=some o)->Q (.ref s.heap.objs.size) { s with heap:=h',toks:=tk }) :
  wpAny (model prog w) A (call (.type "dict") [.ref l]) Q E s:=by
 have lt:∀ {b:Addr} {o:Obj},s.heap.get? b=some o->b<s.heap.objs.size:=λ e=>Heap.lt_size e
 refine callType_codes (Q₁:=λ obj s₁=>obj=Value.ref s.heap.objs.size/\s₁={ s with heap:=s.heap.push { cls:=.type "dict", data:=.dict #[] } }) F.kt_called_dict (F.kt_typeCall_dict_1 _) F.entry_dict_init (kt_code_dict_new _ ⟨rfl,rfl⟩) λ obj s₁ hobj=>?_
 obtain ⟨rfl,rfl⟩:=hobj
 have dct:zZ s.heap.objs.size [] 0 (s.heap.push { cls:=.type "dict", data:=.dict #[] }):=⟨Nat.zero_le _,beq_eq_false_iff_ne.mpr (Ne.symm (Nat.ne_of_lt hb)),.inl ⟨[],.nil,_,#[],Heap.get?_push_size _ rfl,⟨rfl,rfl,rfl⟩,rfl,rfl,List.nodup_nil⟩⟩
 have hT:(⟨s.heap.push { cls:=.type "dict", data:=.dict #[] },s.gens,s.drawn,s.toks,s.os⟩:Shared).TypeIs (.ref s.heap.objs.size) "dict" := ⟨_,Heap.get?_push_size _ rfl,rfl⟩
 have hx1:=Heap.get?_push_of_some { cls:=.type "dict", data:=.dict #[] } hx
 refine ⟨hT,F.args_dict_init_2 _ _,?_⟩
 unfold Builtin.«dict.__init__» Builtin.Dict.selfAndRest
 refine wpAny_bind (wpAny_bind (wpAny_notOrdered_dict hT ?_))
 refine (wpAny_pure ?_:wpAny _ _ (pure (s.heap.objs.size,[Value.ref l])) _ _ _)
 show wpAny _ _ (Builtin.Dict.updateFrom "dict.__init__" s.heap.objs.size (.ref l) [] .none) _ _ _
 unfold Builtin.Dict.updateFrom
 refine wpAny_bind (wpAny_typeOf (T := "list") ⟨_,hx1,rfl⟩ ?_)
 rw [if_pos (by decide)]
 have hin:(A.in1.in1).handled=none:=hA
 refine wpAny_bind (qiy hx1 hin λ h' tk kp=>?_)
 have k1:∀ b o,s.heap.get? b=some o->h'.get? b=some o:=λ b o e=>kp b o (Heap.get?_push_of_some _ e)
 have hll:=lt hx
 have hD':s.heap.objs.size<h'.objs.size:=Heap.lt_size (kp _ _ (Heap.get?_push_size _ rfl))
 have hl':h'.IsList l its:=hl.at λ o e=>k1 l o e
 rw [if_pos (show (none:Option Value).isNone=true from rfl)]
 refine wpAny_bind (wpAny_rule (wpAny_bind (wpAny_pyIter_list (s:={ s with heap:=h',toks:=tk }) hl' (wpAny_pure ⟨plainId_quiet Zu _,?_⟩))))
 have W:=Walks.list (prog:=prog) (w:=w) (A:=A.in1.in1) hin h'.objs.size l (Nat.ne_of_lt (Nat.lt_trans hll hD')) its
 rw [hsz] at W
 refine qgQ (h0:=s.heap) (by show A.units+1+1+3<cLine;omega) tr W hP ?_ (λ b o e=>?_) kd hom h900 _ 0 _ [] 0 0 0 rfl (Nat.zero_le _) ⟨⟨_,Heap.get?_push_size _ rfl,rfl,rfl⟩,hl'.push _⟩ ?_ (λ p hp=>nomatch hp) (λ p hp=>nomatch hp) (Nat.zero_le _) (λ b o e=>Heap.get?_push_of_some _ (k1 b o e)) λ h2 tk2 ep2 d2 k2=>⟨rfl,h h2 tk2 ep2 (by rw [List.drop_zero] at d2;exact d2) k2⟩
 ·intro hm
  simp only [List.mem_cons,List.not_mem_nil,or_false] at hm
  rcases hm with hm|hm
  ·exact Nat.ne_of_lt hD' hm
  ·exact Nat.ne_of_gt hll hm
 ·have:=lt e
  refine ⟨λ hm=>?_,Nat.ne_of_lt this⟩
  have e2:b=h'.objs.size:=List.mem_singleton.mp hm
  exact absurd (Nat.lt_trans this hD') (by rw [e2];exact Nat.lt_irrefl _)
 ·exact (dct.but λ o e=>kp _ o e).but λ o e=>Heap.get?_push_of_some _ e
end
section
variable {K:W.Frag}{H:Hp}{S:Av}
def prOf:PyData->Option (KX×PyData)
 | .tuple [k,v]=>ob (kxOf k) λ ks=>some (ks,v)
 | _=>none
def qav:List PyData->Option (List (KX×PyData))
 | []=>some []
 | d::ds=>ob (prOf d) λ p=>ob (qav ds) λ ps=>some (p::ps)
def wk (kvs:List (PyData×PyData)):List (KX×PyData)->List (PyData×PyData)
 | []=>kvs
 | p::ps=>wk (putD kvs p.1 p.2) ps
def qaN:List PyData->Option PyData
 | [.list ds]=>ob (qav ds) λ ps=>if ((ps.all λ p=>kxI p.1)=true\/(ps.all λ p=>!kxI p.1)=true)/\ps.length<=900 then some (.dict (wk [] ps)) else none
 | _=>none
theorem Wx:∀ (ps:List (KX×PyData)) (tr kvs:List (KX×Addr×V)) (ds:List PyData),tr.map (·.1)=ps.map (·.1)->DenL K H S (tr.map λ p=>kxV p.1 p.2.1) (tr.map λ p=>kxD p.1)->DenL K H S (tr.map (·.2.2)) (ps.map (·.2))->
  DenL K H S (kvs.map λ p=>kxV p.1 p.2.1) (kvs.map λ p=>kxD p.1)->DenL K H S (kvs.map (·.2.2)) ds->
  DenL K H S ((putAll kvs tr).map λ p=>kxV p.1 p.2.1) ((putAll kvs tr).map λ p=>kxD p.1)/\∃ ds',DenL K H S ((putAll kvs tr).map (·.2.2)) ds'/\dkv (putAll kvs tr) ds'=wk (dkv kvs ds) ps
 | [],[],kvs,ds,_,_,_,k,t=>⟨k,ds,t,rfl⟩
 | [],_::_,_,_,e,_,_,_,_=>nomatch e
 | _::_,[],_,_,e,_,_,_,_=>nomatch e
 | p::ps,q::tr,kvs,ds,e,hk,hv,k,t=>by
  cases hk with
  | cons dk hk' =>
   cases hv with
   | cons dv hv' =>
    have e1:q.1=p.1:=(List.cons.inj e).1
    obtain ⟨ds',h1,h2⟩:=qcA (b:=q.2.1) t dv (yF q.1 t)
    have:=Wx ps tr (putV kvs q.1 q.2.1 q.2.2) ds' (List.cons.inj e).2 hk' hv' (qcx k dk) h1
    rw [h2] at this
    rw [show wk (dkv kvs ds) (p::ps)=wk (putD (dkv kvs ds) q.1 p.2) ps from by rw [e1];rfl]
    exact this
end
section
variable {X:Cx}{pins:List (Addr×Obj)}{σ:St}{H:Hp}{s:Shared}{S:Av}
theorem qhi (I:Inv X pins σ H s):∀ {vs:List V} {ds:List PyData} {ps:List (KX×PyData)} {us:List Value},DenL X.K H S vs ds->qav ds=some ps->Vals vs us->
  ∃ tr:List (KX×Addr×V),tr.map (·.1)=ps.map (·.1)/\DenL X.K H S (tr.map λ p=>kxV p.1 p.2.1) (tr.map λ p=>kxD p.1)/\DenL X.K H S (tr.map (·.2.2)) (ps.map (·.2))/\Paired (qcT s.heap) tr us
 | _,_,_,_,.nil,e,r=>by
  cases e
  cases r
  exact ⟨[],rfl,.nil,.nil,.nil⟩
 | _,_,_,_,.cons d t,e,r=>by
  obtain ⟨p,e1,e⟩:=qi e
  obtain ⟨ps',e2,e⟩:=qi e
  cases e
  cases r with
  | @cons _ u _ us' r0 r' =>
   obtain ⟨tr,a1,a2,a3,a4⟩:=qhi I t e2 r'
   unfold prOf at e1
   split at e1
   ·rename_i k v
    obtain ⟨ks,e3,e1⟩:=qi e1
    cases e1
    obtain ⟨a,xs,rfl,ht,dt⟩:=d.tuple_inv
    cases (show u=Value.ref a from r0)
    obtain ⟨y,z,rfl,dy,dz⟩:=dt.inv2
    obtain ⟨its,rv,it,_⟩:=I.tuple ht
    cases rv with
    | @cons _ ky _ rest ry rv' =>
     obtain ⟨vz,rfl,rz⟩:∃ vz,rest=[vz]/\RelV z vz:=by
      cases rv' with
      | cons rz rn=>cases rn;exact ⟨_,rfl,rz⟩
     cases Zb e3
     obtain ⟨o,g1,g2,n,g3⟩:=it
     cases ks with
     | inl i =>
      obtain ⟨rfl,tk,rfl⟩:=jZ dy ry
      exact ⟨(.inl i,0,z)::tr,by rw [List.map_cons,a1];rfl,.cons dy a2,.cons dz a3,.cons ⟨a,o,_,_,n,rfl,g1,g2,g3,⟨tk,rfl⟩,rz⟩ a4⟩
     | inr kk =>
      obtain ⟨b,rfl,rfl,is⟩:=key_is I (show Den X.K H S y (k2T kk) from dy) ry
      exact ⟨(.inr kk,b,z)::tr,by rw [List.map_cons,a1];rfl,.cons dy a2,.cons dz a3,.cons ⟨a,o,_,_,n,rfl,g1,g2,g3,⟨rfl,is⟩,rz⟩ a4⟩
   ·cases e1
theorem qao {α β:Type}{R:α->β->Prop}:∀ {as:List α} {bs:List β} {j:Nat} {b:β},Paired R as bs->bs[j]?=some b->∃ a,as[j]?=some a/\R a b
 | _,_,_,_,.nil,h=>by simp at h
 | _,_,0,_,.cons r _,h=>by cases h;exact ⟨_,rfl,r⟩
 | _,_,j+1,_,.cons _ t,h=>by
  obtain ⟨a,ha,r⟩:=qao t (j:=j) (by simpa using h)
  exact ⟨a,by simpa using ha,r⟩
theorem qhH {k:Nat}(hr:Room k X.A):qbt X (.type "dict") qaN:=λ pins s σ H xs us Q I r ⟨S,ds,d,m,h1,e,q⟩=>by
 unfold qaN at e
 split at e
 ·rename_i ls
  obtain ⟨ps,e1,e⟩:=qi e
  split at e
  ·rename_i hc
   cases e
   obtain ⟨v1,rfl,d1⟩:=h1.inv1
   obtain ⟨u1,rfl,r1⟩:=r.one
   cases d1 with
   | @list a ys _ hs t =>
    cases (show u1=Value.ref a from r1)
    obtain ⟨its,rv,p,hz⟩:=I.list hs.sq
    obtain ⟨tr,a1,a2,a3,a4⟩:=qhi I t e1 rv
    have hb:sysModules<s.heap.objs.size:=Nat.lt_trans (by decide) (show mainGlobals<s.heap.objs.size from (I.mod.glob.keeps I.bk).lt)
    have hn:=I.hok.fresh (Nat.le_refl s.heap.objs.size)
    have hu:=hr.units
    have hlp:tr.length=ps.length:=by
     have:=congrArg List.length a1
     rwa [List.length_map,List.length_map] at this
    have hkd:∃ kd,∀ p∈tr,kxI p.1=kd:=by
     have step:∀ p∈tr,∃ p'∈ps,p'.1=p.1:=λ p hp=>by
      have:p.1∈ps.map (·.1):=by rw [← a1];exact List.mem_map.mpr ⟨p,hp,rfl⟩
      obtain ⟨p',h1,h2⟩:=List.mem_map.mp this
      exact ⟨p',h1,h2⟩
     rcases hc.1 with hc|hc
     ·exact ⟨true,λ p hp=>let ⟨p',h1,h2⟩:=step p hp;h2 ▸ List.all_eq_true.mp hc p' h1⟩
     ·refine ⟨false,λ p hp=>?_⟩
      obtain ⟨p',h1,h2⟩:=step p hp
      have:=List.all_eq_true.mp hc p' h1
      rw [h2] at this
      simpa using this
    obtain ⟨kd,hom⟩:=hkd
    have il:=p.isList
    obtain ⟨o,n,ho,hc1,hc2,hc3⟩:=p
    obtain ⟨c0,c1,c2,c3⟩:=o
    dsimp only at hc1 hc2 hc3
    subst hc1 hc2 hc3
    refine qc2 (its:=its.toArray) tr hr.hd (by omega) hb ho ?_ (by rw [List.size_toArray,← a4.length]) (λ j u hj=>?_) kd hom (by omega) λ h' tk ep' dd kp=>?_
    ·exact il
    ·rw [List.getElem?_toArray] at hj
     exact qao a4 hj
    ·have I1:=I.laid (a:=s.heap.objs.size) (o:=DctO s.heap.objs.size (putAll [] tr) ep') (t':=tk) kp (Nat.le_refl _) dd.ok
     have g0:Same H (upd H s.heap.objs.size (DctO s.heap.objs.size (putAll [] tr) ep')):=Same.lay hn
     obtain ⟨b1,ds',b2,b3⟩:=Wx ps tr [] [] a1 a2 a3 .nil .nil
     have b3:dkv (putAll [] tr) ds'=wk [] ps:=b3
     have sub:∀ {vs es},DenL X.K H S vs es->DenL X.K (upd H s.heap.objs.size (DctO s.heap.objs.size (putAll [] tr) ep')) (insA S s.heap.objs.size) vs es:=λ t=>(t.sub λ a ha z=>z.elim id λ y=>absurd (by rw [y];exact hn) ha).same g0
     refine ⟨.ref s.heap.objs.size,_,I1,rfl,q _ _ g0 hn ?_⟩
     rw [← b3]
     exact .dct q9 (sub b1) (sub b2)
  ·cases e
 ·cases e
end
def qjl (X:Cx)(f:Value)(k:Str)(g:PyData->PyData->Option PyData):Prop :=
 ∀ (pins:List (Addr×Obj)) (s:Shared) (σ:St) (H:Hp) (x z:V) (u w:Value) (Q:VK),Inv X pins σ H s->RelV x u->RelV z w->(∃ S dl dd d,Dm S H/\Den X.K H S x dl/\Den X.K H S z dd/\g dl dd=some d/\∀ v H',Same H H'->Den X.K H' S v d->Q v H')->
  wpAny (model X.prog X.w) X.A (call f [u] [(k,w)]) (EP X pins σ Q) X.xe s
section
variable {X:Cx}{M:List Nat}{a b:Expr}{fa fb:Rho->Option PyData}{pos:Pos}
theorem qet {y:V}{us:List Value}(r:Vals [y] us):∃ u,us=[u]/\RelV y u:=by
 cases r with
 | cons a t=>cases t;exact ⟨_,rfl,a⟩
theorem qft {id:String}{x k:Str}{p kp:Pos}{h:PyData->PyData->Option PyData}(hc:qjl X (.builtin id) k h)(hg:Gl X x)(hm:X.mg x=none)(hv:bootBuiltins x=some (.builtin id))(ha:PD X M a fa)(hb:PD X M b fb)(hn:x ≠ "__name__" := by decide +kernel)(hdb:(x==("__debug__" : Str))=false:=by kernel_rfl)
  (he:starEach [a] X.env=(false,eval a X.env)::starEach [] X.env:=by rfl) (he2:backTo pos (starEach [a] X.env)=(false,eval a X.env)::backTo pos (starEach [] X.env):=by rfl) (hpl:(backTo pos (starEach [a] X.env)).any (·.1)=false:=by rfl)
  (hall:(backToKw pos (keywordEach [⟨some k,b,kp⟩] X.env)).all (·.1.isSome)=true:=by rfl) (hks:(backToKw pos (keywordEach [⟨some k,b,kp⟩] X.env)).filterMap (·.1)=[k]:=by rfl)
  (hkw:(backToKw pos (keywordEach [⟨some k,b,kp⟩] X.env)).any (·.1.isNone)=false:=by rfl):PD X M (.Call (.Name x p) [a] [⟨some k,b,kp⟩] pos) (ev2 fa fb h):=λ pins s σ H Q I ⟨S,ρ,d,hs,e,q⟩=>by
 obtain ⟨dx,e1,e⟩:=qi e
 obtain ⟨dy,e2,e⟩:=qi e
 refine wpAny_Call_Name_kw (ye I hg hm hv ?_ hn hdb)
 refine callWith_kw (thn (qb ha qg he pos pins s σ H (λ vs H1=>Same H H1/\DenL X.K H1 S vs [dx]) I ⟨S,ρ,[dx],hs,by show ob (fa ρ) _=_;rw [e1];rfl,λ vs H1 g d=>⟨g,d⟩⟩) λ us s1 ⟨vs,H1,I1,r,g1,d1⟩=>?_) he2 hpl hall hkw
 refine thn (qiU hb qkC pos pins s1 σ H1 (λ zs H2=>∃ z,zs=[z]/\Same H1 H2/\Den X.K H2 S z dy) I1 ⟨S,ρ,dy,hs.same g1,e2,λ z H2 g d=>⟨z,rfl,g,d⟩⟩) λ ws s2 ⟨zs,H2,I2,rz,z,hz,g2,d2⟩=>?_
 subst hz
 obtain ⟨v,rfl,dv⟩:=d1.inv1
 obtain ⟨u,rfl,ru⟩:=qet r
 obtain ⟨w,rfl,rw'⟩:=qet rz
 rw [hks]
 exact hc pins s2 σ H2 v z u w Q I2 ru rw' ⟨S,dx,dy,d,(hs.1.same g1).same g2,dv.same g2,d2,e,λ v' H' g3 d3=>q v' H' ((g1.trans g2).trans g3) d3⟩
end
section
variable {s:Shared}{prog:Program}{w:World}{A:Around}{E:Value->Shared->Prop}
theorem qb4 (a d:Value):checkBuiltinCall "min" ⟨[a],[(("default" : Str),d)]⟩=pure ():=by kernel_rfl
theorem qgY {l:Addr}{d:Value}{Q:Value->Shared->Prop}(hh:A.handled=none)(hl:s.heap.IsList l #[])
  (h:∀ g tk,(∀ b o,s.heap.get? b=some o->g.get? b=some o)->Q d { s with heap:=g,toks:=tk }):wpAny (model prog w) A (call (.builtin "min") [.ref l] [(("default" : Str),d)]) Q E s:=by
 have nm:(toString "min" ++ toString ".loop" : String) = "min.loop" := by decide
 have lt:∀ {b:Addr} {o:Obj},s.heap.get? b=some o->b<s.heap.objs.size:=λ e=>Heap.lt_size e
 have hll:l<s.heap.objs.size:=by obtain ⟨o,e,_⟩:=id hl;exact lt e
 refine wpAny_call (codeAny_call_builtin F.plain_min F.entry_min (wpAny_of_eq (qb4 _ _) ?_))
 have par:Builtin.Builtins.bindParams "min" ["key", "default"] 0 ⟨[],[(("default" : Str),d)]⟩=pure [none,some d]:=rfl
 refine (wpAny_bind (wpAny_of_eq par ?_):wpAny _ A.in1 (Builtin.Builtins.bindParams "min" _ 0 _ >>= _) _ _ s)
 refine wpAny_bind (wpAny_pure (wpAny_bind (wpAny_pyIter_list hl (wpAny_bind (wpAny_newObj_type ?_)))))
 rw [nm]
 refine wpAny_pure ⟨plainId_quiet F.plain_min_loop _,?_⟩
 have W:=Walks.list (prog:=prog) (w:=w) (A:=A.in1) hh s.heap.objs.size l (Nat.ne_of_lt hll) #[]
 refine codeAny_builtin F.entry_min_loop ?_;rw [Around.under_plainId F.plain_min_loop _]
 show wpAny _ A.in1 (seqItems? (.ref _) >>= _) _ _ _
 refine wpAny_bind (wpAny_seqItems (Heap.get?_push_size _ rfl) rfl ?_)
 show wpAny _ A.in1 (tryCatch (pyNext (.ref s.heap.objs.size)) _ >>= _) _ _ _
 refine wpAny_bind (wpAny_tryCatch (W.done _ _ _ ⟨⟨_,Heap.get?_push_of_some _ (Heap.get?_push_size _ rfl),rfl,rfl⟩,(hl.push _).push _⟩ λ g tk k=>?_))
 refine wpAny_bind (wpAny_rule (wpAny_pure (h g tk λ b o e=>k b o (λ hm=>absurd (List.mem_singleton.mp hm) (Nat.ne_of_lt (lt e))) (Heap.get?_push_of_some _ (Heap.get?_push_of_some _ e)))))
theorem qhs {l:Addr}{d:Value}{items:Array Value}{bt:Nat->Nat->Bool}{Q:Value->Shared->Prop}(hh:A.handled=none)(hl:s.heap.IsList l items)(hn:0<items.size)
  (hc:∀ (i j:Nat) (x y:Value) (s':Shared) (Q' E':Value->Shared->Prop),j<i->(∀ b o,s.heap.get? b=some o->s'.heap.get? b=some o)->items[i]?=some x->items[j]?=some y->Q' (.bool (bt i j)) s'->wpAny (model prog w) A.in1 (richCompare .Lt x y) Q' E' s')
  (h:∀ v g tk,items[bestOf bt (items.size-1)]?=some v->(∀ b o,s.heap.get? b=some o->g.get? b=some o)->Q v { s with heap:=g,toks:=tk }):wpAny (model prog w) A (call (.builtin "min") [.ref l] [(("default" : Str),d)]) Q E s:=by
 have nm:(toString "min" ++ toString ".loop" : String) = "min.loop" := by decide
 have lt:∀ {b:Addr} {o:Obj},s.heap.get? b=some o->b<s.heap.objs.size:=λ e=>Heap.lt_size e
 have hll:l<s.heap.objs.size:=by obtain ⟨o,e,_⟩:=id hl;exact lt e
 refine wpAny_call (codeAny_call_builtin F.plain_min F.entry_min (wpAny_of_eq (qb4 _ _) ?_))
 have par:Builtin.Builtins.bindParams "min" ["key", "default"] 0 ⟨[],[(("default" : Str),d)]⟩=pure [none,some d]:=rfl
 refine (wpAny_bind (wpAny_of_eq par ?_):wpAny _ A.in1 (Builtin.Builtins.bindParams "min" _ 0 _ >>= _) _ _ s)
 refine wpAny_bind (wpAny_pure (wpAny_bind (wpAny_pyIter_list hl (wpAny_bind (wpAny_newObj_type ?_)))))
 rw [nm]
 refine wpAny_pure ⟨plainId_quiet F.plain_min_loop _,qfp (h0:=s.heap) (Walks.list (A:=A.in1) hh _ l (Nat.ne_of_lt hll) items) bt (λ i j u v s' Q' E' hij k hu hv q=>hc i j u v s' Q' E' hij k hu hv q) _ ?_ (λ b o e=>?_) [(("default" : Str),d)] hn
  ⟨⟨_,Heap.get?_push_of_some _ (Heap.get?_push_size _ rfl),rfl,rfl⟩,(hl.push _).push _⟩ (λ b o e=>Heap.get?_push_of_some _ (Heap.get?_push_of_some _ e)) (Heap.get?_push_size _ rfl) λ v g tk hv k=>?_⟩
 ·simp only [Heap.size_push]
  intro hm;simp only [List.mem_cons,List.not_mem_nil,or_false] at hm
  rcases hm with hm|hm
  ·exact Nat.succ_ne_self _ hm
  ·exact absurd hm (Nat.ne_of_gt (Nat.lt_succ_of_lt hll))
 ·have:=lt e
  simp only [Heap.size_push]
  exact ⟨λ hm=>absurd (List.mem_singleton.mp hm) (Nat.ne_of_lt this),Nat.ne_of_lt (Nat.lt_succ_of_lt this)⟩
 ·refine h v g tk hv λ b o e=>k b o ?_ ?_ (Heap.get?_push_of_some _ (Heap.get?_push_of_some _ e))
  ·exact λ hm=>absurd (List.mem_singleton.mp hm) (Nat.ne_of_lt (lt e))
  ·have:=lt e
   simp only [Heap.size_push]
   exact Nat.ne_of_lt (Nat.lt_succ_of_lt this)
end
section
variable {X:Cx}
def qeo:PyData->PyData->Option PyData
 | .list [],d=>some d
 | .list (x::ds),_=>qjw [.list (x::ds)]
 | _,_=>none
theorem qjK {k:Nat}(hr:Room k X.A):qjl X (.builtin "min") "default" qeo:=λ pins s σ H x z u wv Q I r rz ⟨S,dl,dd,d,m,h1,h2,e,q⟩=>by
 unfold qeo at e
 split at e
 ·cases e
  cases h1 with
  | @list a ys _ hs t =>
   cases (show u=Value.ref a from r)
   obtain ⟨its,rv,p,hz⟩:=I.list hs.sq
   cases t
   cases rv
   exact qgY hr.hd p.isList λ g tk kp=>⟨z,H,I.kept kp,rz,q _ H (Same.refl H) h2⟩
 ·rename_i d0 ls
  unfold qjw at e
  dsimp only at e
  split at e
  ·rename_i hc
   cases h1 with
   | @list a ys _ hs t =>
    cases (show u=Value.ref a from r)
    obtain ⟨its,rv,p,hz⟩:=I.list hs.sq
    have hl:=rv.length
    have ht:=t.length
    have hu:=hr.units
    have get:∀ {i:Nat} {x:Value},its.toArray[i]?=some x->∃ y d,ys[i]?=some y/\RelV y x/\(d0::ls)[i]?=some d/\Den X.K H S y d:=λ {i x} hx=>by
     rw [List.getElem?_toArray] at hx
     obtain ⟨y,hy,ry⟩:=Vals.back rv hx
     obtain ⟨d,hd,dd⟩:=t.back hy
     exact ⟨y,d,hy,ry,hd,dd⟩
    have ok:=List.all_eq_true.mp hc.1
    have hsz:its.toArray.size=(d0::ls).length:=by simp;simp at ht;omega
    refine qhs (bt:=wB (d0::ls)) hr.hd p.isList (by rw [hsz];exact Nat.zero_lt_succ _) (λ i j x y s' Q' E' hij kp hx hy q'=>?_) λ v g tk hv kp=>?_
    ·obtain ⟨vx,dx,_,rx,ex,gx⟩:=get hx
     obtain ⟨vy,dy,_,ry,ey,gy⟩:=get hy
     have ox:=ok dx (List.mem_of_getElem? ex)
     have oy:=ok dy (List.mem_of_getElem? ey)
     rw [Bool.and_eq_true,Bool.and_eq_true] at ox oy
     obtain ⟨as,rx2⟩:=gx.reads I (SeqAt.canLay_of_shaped ox.1.1) rx
     obtain ⟨bs,ry2⟩:=gy.reads I (SeqAt.canLay_of_shaped oy.1.1) ry
     have lt:=List.all_eq_true.mp ox.2 dy (List.mem_of_getElem? ey)
     obtain ⟨b,eb⟩:=Option.isSome_iff_exists.mp lt
     have ebt:wB (d0::ls) i j=b:=by unfold wB;rw [ex,ey];show (ltX dx dy).getD false=b;rw [eb];rfl
     rw [ebt] at q'
     exact yf 50 _ _ X.A.in1 s' x y as bs b (of_decide_eq_true ox.1.2) (Reads.keeps kp rx2) (Reads.keeps kp ry2) (SeqAt.canLay_of_shaped ox.1.1) (SeqAt.canLay_of_shaped oy.1.1) (by show X.A.units+1+50+1<cLine;omega) eb X.prog X.w E' Q' q'
    ·obtain ⟨vx,dx,_,rx,ex,gx⟩:=get hv
     rw [hsz,e] at ex
     cases ex
     exact ⟨vx,H,I.kept kp,rx,q _ H (Same.refl H) gx⟩
  ·cases e
 ·cases e
end
end L2
namespace L2
open PySem
theorem qhp (i:Nat)(f:Rho->Option PyData)(ρ:Rho):WF i f ρ=takO (decide (i<ρ.length/\ρ.length<=1000)) (f ρ) i ρ:=by
 unfold WF ob takO
 by_cases h:i<ρ.length/\ρ.length<=1000
 ·rw [if_pos h,decide_eq_true h]
  cases f ρ<;>rfl
 ·rw [if_neg h,decide_eq_false h]
def nxdO (o:Option PyData)(i:Nat)(ρ:Rho):Option Out:=match o with | some l=>some (.nx (ρ.set i (some l)))|none=>none
theorem qkj (l:PyData)(i:Nat)(ρ:Rho):nxdO (some l) i ρ=some (.nx (ρ.set i (some l))):=rfl
def dpO (d l k:Option PyData)(i:Nat)(ρ:Rho):Option Out:=match d,l,k with | some d,some l,some k=>nxdO (Wa l k d) i ρ|_,_,_=>none
theorem dpO_s (d l k:PyData)(i:Nat)(ρ:Rho):dpO (some d) (some l) (some k) i ρ=nxdO (Wa l k d) i ρ:=rfl
theorem qjb (i:Nat)(fk f:Rho->Option PyData)(ρ:Rho):Yk i fk f ρ=dpO (f ρ) (vr i ρ) (fk ρ) i ρ:=by
 unfold Yk dpO ob
 cases f ρ with
 | none=>rfl
 | some d =>
  cases vr i ρ with
  | none=>rfl
  | some l =>
   cases fk ρ with
   | none=>rfl
   | some k =>
    dsimp only
    unfold nxdO
    cases Wa l k d<;>rfl
def triO (a b c:Option PyData)(r:PyData->PyData->PyData->Option PyData):Option PyData:=match a,b,c with | some x,some y,some z=>r x y z|_,_,_=>none
theorem qk7 (x y z:PyData)(r:PyData->PyData->PyData->Option PyData):triO (some x) (some y) (some z) r=r x y z:=rfl
theorem ev3_b (f g h:Rho->Option PyData)(r:PyData->PyData->PyData->Option PyData)(ρ:Rho):ev3 f g h r ρ=triO (f ρ) (g ρ) (h ρ) r:=by
 unfold ev3 triO ob
 cases f ρ<;>cases g ρ<;>cases h ρ<;>rfl
end L2
namespace L2
open PySem PySem.Spec PyProof.Rows
section
variable {K:W.Frag}{G:Gm}{M L:List Nat}{H H':Hp}{S:Av}{σ:St}{ρ:Rho}{d:PyData}
theorem OwnS.more (h:OwnS K G M L H S σ ρ){q:Addr}(hn:H q=none)(e:Same H H')(hq:∃ o,H' q=some o/\jG o=true):OwnS K G M L H' (insA S q) σ ρ:=by
 have sub:∀ a,H a≠none->insA S q a->S a:=λ a ha z=>by
  rcases z with z|rfl
  ·exact z
  ·exact absurd hn ha
 obtain ⟨F,f⟩:=h.deep
 refine ⟨⟨(h.ds.1.same e).ins hq,h.ds.2.1,λ j d' hj w=>let ⟨v,a,b⟩:=h.ds.2.2 j d' hj w;⟨v,a,(b.sub sub).same e⟩⟩,λ a z=>.inl (h.s0 a z),h.h0.trans e,λ j hj d' w=>?_,h.apart,λ a z=>?_,h.lkd,F,λ j hj d' w=>?_,f.disj,f.flat⟩
 ·obtain ⟨p,a,b,c,n⟩:=h.own j hj d' w
  exact ⟨p,a,(b.sub sub).same e,.inl c,n⟩
 ·rcases z with z|rfl
  ·exact h.bnd a z
  ·exact .inr (.inl (h.h0.free hn))
 ·obtain ⟨p,a,b,c⟩:=f.own j hj d' w
  exact ⟨p,a,(b.sub sub).same e,λ r hr=>⟨.inl (c r hr).1,(c r hr).2⟩⟩
theorem OwnS.growD (h:OwnS K G M L H S σ ρ){F:Nat->List Addr}(f:DeepF K G M H S σ ρ F){p q2 q:Addr}{fp:List Addr}{i:Nat}{o:HO}{d₀:PyData}(hi:Dp M i)(e0:ρ[i]?=some (some d₀))(e1:σ[i]?=some (some (.ref p)))(hq:q2∈F i)(hm:jG o=true)(ow:DeepO K (upd H q2 o) S fp p d)
  (hfp:∀ r∈fp,r∈F i\/r=q) (sq:S q) (nq:¬ G.S0 q) (zq:G.H0 q=none) (dq:∀ j,Dp M j->Has ρ j->q∉F j) (fq:∀ j,Flt M j->Has ρ j->σ[j]?≠some (some (.ref q))) :
  OwnS K G M L (upd H q2 o) S σ (ρ.set i (some d)):=by
 obtain ⟨p',a,b,cc⟩:=f.own i hi d₀ e0
 rw [e1] at a;cases a
 obtain ⟨c,n,w⟩:=cc q2 hq
 have off:Off S H (upd H q2 o):=λ b u z e=>by
  rw [qO (λ y=>z (by rw [y];exact c))];exact e
 have hz:i<ρ.length:=(List.getElem?_eq_some_iff.mp e0).1
 have get:∀ m d',(ρ.set i (some d))[m]?=some (some d')->∃ d'',ρ[m]?=some (some d''):=λ m d' q=>by
  by_cases him:i=m
  ·subst him;exact ⟨_,e0⟩
  ·rw [qu him] at q;exact ⟨_,q⟩
 have get2:∀ m,Has (ρ.set i (some d)) m->Has ρ m:=λ m ⟨d',q⟩=>get m d' q
 have dne:∀ j,Flt M j->i≠j:=λ j hj z=>hj.2 (by rw [← z];exact hi.2)
 have fne:∀ j,j≠i->(if j=i then fp else F j)=F j:=λ j hj=>if_neg hj
 refine ⟨⟨h.ds.1.upd hm,by rw [List.length_set];exact h.ds.2.1,λ j d' hj q=>?_⟩,h.s0,λ a u q=>?_,λ j hj d' q=>?_,λ j hj k hk d1 d2 q h1 h2 h3 h4=>?_,h.bnd,λ j hj=>⟨(h.lkd j hj).1,by rw [qu (dne j (h.lkd j hj).1)];exact (h.lkd j hj).2⟩,
  λ j=>if j=i then fp else F j,λ j hj d' y=>?_,λ j hj k hk h1 h2 r m1 m2=>?_,λ j hj k hk h1 h2 r h3=>?_⟩
 ·have hij:i≠j:=λ z=>hj (by rw [← z];exact hi.1)
  rw [qu hij] at q
  obtain ⟨v,a,b⟩:=h.ds.2.2 j d' hj q
  exact ⟨v,a,b.off h.ds.1 off⟩
 ·have e2:=h.h0 a u q
  by_cases ne:a=q2
  ·rw [ne,w] at q;cases q
  ·rw [qO ne];exact e2
 ·rw [qu (dne j hj)] at q
  obtain ⟨q',a,b',c',n',w'⟩:=h.own j hj d' q
  exact ⟨q',a,b'.upd h.ds.1 c hm (λ z=>by subst z;exact f.flat j hj i hi ⟨_,q⟩ ⟨_,e0⟩ _ a hq),c',n',w'⟩
 ·rw [qu (dne j hj)] at h1
  rw [qu (dne k hk)] at h2
  exact h.apart j hj k hk d1 d2 q h1 h2 h3 h4
 ·by_cases hij:j=i
  ·subst hij
   rw [List.getElem?_set_self hz] at y;cases y
   refine ⟨p,e1,by rw [if_pos rfl];exact ow,λ r hr=>?_⟩
   rw [if_pos rfl] at hr
   rcases hfp r hr with z|rfl
   ·exact cc r z
   ·exact ⟨sq,nq,zq⟩
  ·rw [qu (Ne.symm hij)] at y
   obtain ⟨q',a,b',c'⟩:=f.own j hj d' y
   rw [fne j hij]
   exact ⟨q',a,b'.upd h.ds.1 c (λ z=>hij (f.disj j hj i hi ⟨_,y⟩ ⟨_,e0⟩ _ z hq)),c'⟩
 ·by_cases ej:j=i<;>by_cases ek:k=i
  ·rw [ej,ek]
  ·rw [if_pos ej] at m1
   rw [fne k ek] at m2
   rcases hfp r m1 with z|rfl
   ·exact ej.trans (f.disj i hi k hk ⟨_,e0⟩ (get2 k h2) r z m2)
   ·exact absurd m2 (dq k hk (get2 k h2))
  ·rw [if_pos ek] at m2
   rw [fne j ej] at m1
   rcases hfp r m2 with z|rfl
   ·exact (f.disj j hj i hi (get2 j h1) ⟨_,e0⟩ r m1 z).trans ek.symm
   ·exact absurd m1 (dq j hj (get2 j h1))
  ·rw [fne j ej] at m1
   rw [fne k ek] at m2
   exact f.disj j hj k hk (get2 j h1) (get2 k h2) r m1 m2
 ·by_cases ek:k=i
  ·rw [if_pos ek]
   intro hr
   rcases hfp r hr with z|rfl
   ·exact f.flat j hj i hi (get2 j h1) ⟨_,e0⟩ r h3 z
   ·exact fq j hj (get2 j h1) h3
  ·rw [fne k ek]
   exact f.flat j hj k hk (get2 j h1) (get2 k h2) r h3
end
theorem qbM (ks:K2):∀ {kvs:List (KX×Addr×V)} {xs:List (K2×Addr×Value)} {p0:KX×Addr×V},Paired PkT kvs xs->kvs.find? (λ p=>decide (p.1=.inr ks))=some p0->∃ b u,atKey xs ks=some (b,u)/\RelV p0.2.2 u
 | [],_,_,r,e=>by cases e
 | p::kvs,_,p0,r,e=>by
  cases r with
  | @cons _ q _ qs h r' =>
   rw [List.find?_cons] at e
   by_cases z:p.1=.inr ks
   ·rw [decide_eq_true z] at e
    cases e
    have eq:q.1=ks:=Sum.inr.inj (h.1.symm.trans z)
    refine ⟨q.2.1,q.2.2,?_,h.2.2⟩
    unfold atKey
    rw [List.find?_cons,decide_eq_true eq];rfl
   ·rw [decide_eq_false z] at e
    obtain ⟨b,u,h1,h2⟩:=qbM ks r' e
    refine ⟨b,u,?_,h2⟩
    have e':¬ q.1=ks:=λ y=>z (by rw [h.1,y])
    unfold atKey at h1 ⊢
    rw [List.find?_cons,decide_eq_false e']
    exact h1
theorem qbL (i:Int):∀ {kvs:List (KX×Addr×V)} {xs:List (Int×Value)} {p0:KX×Addr×V},Paired PkI kvs xs->kvs.find? (λ p=>decide (p.1=.inl i))=some p0->∃ u,valueAt xs i=some u/\RelV p0.2.2 u
 | [],_,_,r,e=>by cases e
 | p::kvs,_,p0,r,e=>by
  cases r with
  | @cons _ q _ qs h r' =>
   rw [List.find?_cons] at e
   by_cases z:p.1=.inl i
   ·rw [decide_eq_true z] at e
    cases e
    have eq:q.1=i:=Sum.inl.inj (h.1.symm.trans z)
    refine ⟨q.2,?_,h.2⟩
    unfold valueAt
    rw [List.find?_cons,decide_eq_true eq];rfl
   ·rw [decide_eq_false z] at e
    obtain ⟨u,h1,h2⟩:=qbL i r' e
    refine ⟨u,?_,h2⟩
    have e':¬ q.1=i:=λ y=>z (by rw [h.1,y])
    unfold valueAt at h1 ⊢
    rw [List.find?_cons,decide_eq_false e']
    exact h1
def qjB (K:W.Frag):R2:=λ x y H Q=>∃ S a kvs ep ks p0,x=.ref a/\H a=some (DctO a kvs ep)/\DenL K H S (kvs.map λ p=>kxV p.1 p.2.1) (kvs.map λ p=>kxD p.1)/\(∀ p∈kvs,kxI p.1=kxI ks)/\Den K H S y (kxD ks)/\kvs.find? (λ p=>decide (p.1=ks))=some p0/\Q p0.2.2 H
theorem qgy {X:Cx}(hu:X.A.units+64<cLine):IxR X (qjB X.K):=by
 intro value slice pins s σ H x y v u Q I rx ry h hs
 obtain ⟨S,p,kvs,ep,ks,p0,rfl,hp,k,hk,dy,e,q⟩:=h
 cases rx
 refine tail_any (yM I hp).1 PySem.F.slot_dict_getitem.lookup ?_ hs
 cases ks with
 | inr ks =>
  obtain ⟨z,hs,xs,pk,dd⟩:=JL I hp k hk
  obtain ⟨b,rfl,rfl,hk⟩:=key_is I dy ry
  obtain ⟨b',w',e2,rv⟩:=qbM ks pk e
  exact wpAny_getItem_heap (knd:=Y6 X.prog X.w) (qax hu) hk dd e2 ⟨_,H,I.tok _,rv,q⟩
 | inl i =>
  obtain ⟨z,hs,vs,pk,dd⟩:=JK I hp hk
  obtain ⟨rfl,t',rfl⟩:=jZ dy ry
  obtain ⟨w',e2,rv⟩:=qbL i pk e
  exact wpAny_getItem_of (intKind_is _ _ i t') dd.mapOf e2 ⟨_,H,I.tok _,rv,q⟩
theorem Kids.add1 {K:W.Frag}{H:Hp}{S:Av}{q:Addr}(h:H q=some (.lst [])):∀ {qs:List Addr} {ds:List PyData},Kids K H S qs ds->q∉qs->Kids K H S (qs++[q]) (ds++[.list []])
 | _,_,.nil,_=>.cons h .nil (λ z=>nomatch z) .nil
 | _,_,.cons h' t n r,hn=>.cons h' t (λ z=>by
   rcases List.mem_append.mp z with z|z
   ·exact n z
   ·exact hn (by rw [← List.mem_singleton.mp z];exact .head _)) (Kids.add1 h r λ z=>hn (.tail _ z))
theorem DeepO.dict_inv {K:W.Frag}{H:Hp}{S:Av}{fp:List Addr}{p:Addr}{m:List (PyData×PyData)}(o:DeepO K H S fp p (.dict m)):∃ kvs ep qs ds,fp=p::qs/\m=dkv kvs ds/\H p=some (DctO p kvs ep)/\DenL K H S (kvs.map λ p=>kxV p.1 p.2.1) (kvs.map λ p=>kxD p.1)/\kvs.map (·.2.2)=qs.map V.ref/\p∉qs/\Kids K H S qs ds:=by
 generalize hx:PyData.dict m=x at o
 cases o with
 | tpl h t=>cases hx
 | lst h n t=>cases hx
 | @dct _ kvs ep qs ds h k v n t=>cases hx;exact ⟨kvs,ep,qs,ds,rfl,rfl,h,k,v,n,t⟩
def yO (c k:PyData):Option PyData:=match c with
 | .dict kvs=>ob (kxOf k) λ ks=>if kOk kvs ks=true/\kvs.length<900/\(zj kvs ks).isSome=false then some (.dict (kvs++[(kxD ks,.list [])])) else none
 | _=>none
theorem qc6 {c k c':PyData}(e:yO c k=some c'):∃ kvs ks,c=.dict kvs/\k=kxD ks/\kOk kvs ks=true/\kvs.length<900/\(zj kvs ks).isSome=false/\c'=.dict (kvs++[(kxD ks,.list [])]):=by
 unfold yO at e
 split at e
 ·obtain ⟨ks,e1,e⟩:=qi e
  split at e
  ·rename_i hc;cases e;exact ⟨_,ks,rfl,Zb e1,hc.1,hc.2.1,hc.2.2,rfl⟩
  ·cases e
 ·cases e
def WD (i:Nat)(fk:Rho->Option PyData):Rho->Option Out:=λ ρ=>ob (vr i ρ) λ c=>ob (fk ρ) λ k=>ob (yO c k) λ c'=>some (.nx (ρ.set i (some c')))
section
variable {X:Cx}{G:Gm}{M M' Mb L:List Nat}{fr:Fr}{a b:Expr}{f fk:Rho->Option PyData}{pos lp:Pos}
theorem qhm:PV X M (.Dict [] [] pos) (kd (.dict [])):=Wv.weak λ σ H Q ⟨S,ρ,d,hs,e,q⟩=>by
 cases e
 refine ⟨S,ρ,_,hs,rfl,λ p H' g n o=>q p [p] H' g (λ r hr=>by rw [List.mem_singleton.mp hr];exact n) ?_⟩
 have e1:insL S [p]=insA S p:=by
  funext a
  unfold insL insA
  simp
 rw [e1]
 generalize hx:PyData.dict []=x at o
 cases o with
 | lst h t=>cases hx
 | @dct kvs ep ds h k t =>
  have hl:kvs.length=ds.length:=by
   have:=t.length
   rwa [List.length_map] at this
  have hz:=qaO hl
  rw [← PyData.dict.inj hx] at hz
  have:kvs=[]:=List.length_eq_zero_iff.mp hz.symm
  subst this
  cases t
  exact .dct h k rfl (λ z=>nomatch z) .nil
theorem qg7 {k:Nat}(hr:Room k X.A)(i:Nat){x:Str}{px sp:Pos}(hv:Vis X.env.scope x)(hM:Dp M i)(hk:PD X M b fk)(hN:X.N[i]?=some x:=by rfl)(hd:(x==("__debug__" : Str))=false:=by kernel_rfl)(hcd:(x==("__classdict__" : Str))=false:=by kernel_rfl)
  (ha:∀ v,assign (.Subscript (.Name x px) b sp) X.env v=(do
   let ov ← holding [v] (eval (.Name x px) X.env)
   let iv ← holding [v,ov] (eval b X.env)
   standAt sp
   holding [v,ov,iv] (setItem ov iv v)
   release [v,ov,iv] []):=by intro _;rfl)
  (hs:swapsWithSole [.Subscript (.Name x px) b sp] (.List [] lp) pos.line X.env=pure false:=by rfl) (hw:swappedStores [.Subscript (.Name x px) b sp] (.List [] lp) X.env=pure none:=by rfl)
  (h1:(assignEach [.Subscript (.Name x px) b sp] X.env).map (·.2)=[assign (.Subscript (.Name x px) b sp) X.env]:=by rfl) :
  PDS X G M L M Mb fr (.Assign [.Subscript (.Name x px) b sp] (.List [] lp) pos) (WD i fk) :=
 (qbi (j6 (M:=M) qg) (qbh (yl i hv hN hd hcd) hk (set_dict hr.units) ha) hs hw h1).weak λ D σ H ⟨S,ρ,o,os,e,q⟩=>by
  obtain ⟨c0,e1,e⟩:=qi e
  obtain ⟨k0,e2,e⟩:=qi e
  obtain ⟨c',e3,e⟩:=qi e
  cases e
  obtain ⟨m,ks,rfl,rfl,hok,hz,hf,rfl⟩:=qc6 e3
  refine ⟨S,ρ,.list [],os.ds,rfl,λ q1 H1 g1 n1 o1=>?_⟩
  have hq1:H1 q1=some (.lst []):=by
   cases o1 with
   | lst h t=>cases t;exact h
  have os1:=os.more n1 g1 ⟨_,hq1,rfl⟩
  obtain ⟨F0,f0⟩:=os.deep
  obtain ⟨pp,a1,b1,c1⟩:=f0.own i hM _ (QC e1)
  refine ⟨_,a1,insA S q1,ρ,_,os1.ds,e2,λ kv H2 g2 dk=>?_⟩
  have os2:=os1.same g2
  have g:=g1.trans g2
  have sub:∀ a,H a≠none->insA S q1 a->S a:=λ a ha z=>by
   rcases z with z|rfl
   ·exact z
   ·exact absurd n1 ha
  have b2:=(b1.sub sub).same g
  have f2:DeepF X.K G M H2 (insA S q1) σ ρ F0:=⟨λ j hj d' w=>let ⟨p,a,b,c⟩:=f0.own j hj d' w;⟨p,a,(b.sub sub).same g,λ r hr=>⟨.inl (c r hr).1,(c r hr).2⟩⟩,f0.disj,f0.flat⟩
  obtain ⟨kvs,ep,qs,ds,efp,rfl,hp,kk,hvs,np,kids⟩:=b2.dict_inv
  have hin:∀ r∈F0 i,H r≠none:=λ r hr z=>by
   obtain ⟨o,ho,_⟩:=os.ds.1 r (c1 r hr).1
   rw [z] at ho;cases ho
  have hl:kvs.length=ds.length:=by
   have h1:=kids.length
   have h2:=congrArg List.length hvs
   rw [List.length_map,List.length_map] at h2
   omega
  rw [qaO hl] at hz
  have nqs:q1∉qs:=λ z=>hin q1 (by rw [efp];exact .tail _ z) n1
  have npq:pp≠q1:=λ z=>hin pp (by rw [efp];exact .head _) (by rw [z];exact n1)
  have ns0:¬ G.S0 q1:=λ z=>by
   obtain ⟨o,ho,_⟩:=os.ds.1 q1 (os.s0 q1 z)
   rw [n1] at ho;cases ho
  have toS0:∀ a,H2 a≠none->G.S0 a->insA S q1 a:=λ a _ z=>.inl (os.s0 a z)
  have vals:DenL X.K H2 G.S0 (kvs.map (·.2.2)) ds:=by
   rw [hvs]
   exact kids.den toS0 λ r hr=>(c1 r (by rw [efp];exact .tail _ hr)).2.1
  have hq2:H2 q1=some (.lst []):=g2 _ _ hq1
  have dq:Den X.K H2 G.S0 (.ref q1) (.list []):=(OwnO.lst (S:=insA S q1) hq2 .nil).den ns0 toS0
  refine ⟨G.S0,pp,kvs,ep,ks,ds,.list [],rfl,hp,kk.sub toS0,vals,jY hl hok,dk.sub toS0,dq,by omega,λ b' ep' eb=>?_⟩
  subst eb
  have hany:(kvs.any λ p=>decide (p.1=ks))=false:=by rw [yF ks vals];exact hf
  have hput:putV kvs ks b' (.ref q1)=kvs++[(ks,b',.ref q1)]:=by
   unfold putV
   rw [hany];rfl
  rw [hput]
  have cpp:insA S q1 pp:=.inl (c1 pp (by rw [efp];exact .head _)).1
  refine q _ _ _ (os2.growD f2 (q:=q1) (fp:=pp::(qs++[q1])) hM (QC e1) a1 (by rw [efp];exact .head _) rfl ?_ (λ r hr=>?_) (.inr rfl) ns0 (os.h0.free n1) (λ j hj hh z=>?_) (λ j hj hh z=>?_))
  ·have hd2:dkv kvs ds++[(kxD ks,PyData.list [])]=dkv (kvs++[(ks,b',.ref q1)]) (ds++[.list []]):=(qbF hl (ks,b',V.ref q1) (PyData.list [])).symm
   rw [hd2]
   refine .dct q9 ?_ ?_ ?_ ?_
   ·rw [List.map_append,List.map_append]
    exact (kk.append (.cons dk .nil)).off os2.ds.1 (Off.upd cpp)
   ·rw [List.map_append,List.map_append,hvs];rfl
   ·intro z
    rcases List.mem_append.mp z with z|z
    ·exact np z
    ·exact npq (List.mem_singleton.mp z)
   ·exact (Kids.add1 hq2 kids nqs).upd os2.ds.1 cpp λ z=>by
     rcases List.mem_append.mp z with z|z
     ·exact np z
     ·exact npq (List.mem_singleton.mp z)
  ·rcases List.mem_cons.mp hr with rfl|hr
   ·exact .inl (by rw [efp];exact .head _)
   ·rcases List.mem_append.mp hr with z|z
    ·exact .inl (by rw [efp];exact .tail _ z)
    ·exact .inr (List.mem_singleton.mp z)
  ·obtain ⟨d',hd'⟩:=hh
   obtain ⟨p',_,_,c'⟩:=f0.own j hj d' hd'
   obtain ⟨o,ho,_⟩:=os.ds.1 q1 (c' q1 z).1
   rw [n1] at ho;cases ho
  ·obtain ⟨d',hd'⟩:=hh
   obtain ⟨p',a',b',c',_⟩:=os.own j hj d' hd'
   rw [z] at a'
   cases a'
   obtain ⟨o,ho,_⟩:=os.ds.1 q1 c'
   rw [n1] at ho;cases ho
def put1 (ks:KX)(l:PyData):List (PyData×PyData)->List (PyData×PyData)
 | []=>[]
 | p::r=>if PyData.eqv p.1 (kxD ks)=true then (p.1,l)::r else p::put1 ks l r
theorem Kids.find {K:W.Frag}{H:Hp}{S:Av}{ks:KX}{l:PyData}:∀ {kvs:List (KX×Addr×V)} {qs:List Addr} {ds:List PyData},kvs.map (·.2.2)=qs.map V.ref->Kids K H S qs ds->zj (dkv kvs ds) ks=some l->
  ∃ j p0 q xs es,kvs.find? (λ p=>decide (p.1=ks))=some p0/\p0.2.2=.ref q/\qs[j]?=some q/\l=.list es/\H q=some (.lst xs)/\DenL K H S xs es/\∀ l',put1 ks l' (dkv kvs ds)=dkv kvs (ds.set j l')
 | [],_,_,_,_,e=>by cases e
 | p::kvs,[],_,hv,_,_=>by cases hv
 | p::kvs,q::qs,_,hv,k,e=>by
  cases k with
  | @cons _ xs es _ ds h t n r =>
   obtain ⟨v1,v2⟩:=List.cons.inj hv
   rw [QD] at e
   by_cases z:p.1=ks
   ·rw [JN z] at e
    cases e
    refine ⟨0,p,q,xs,es,by rw [List.find?_cons,decide_eq_true z],v1,rfl,rfl,h,t,λ l'=>?_⟩
    rw [QD,List.set_cons_zero,QD,put1,yP,decide_eq_true z,if_pos rfl]
   ·rw [JM z] at e
    obtain ⟨j,p0,q',xs',es',g1,g2,g3,g4,g5,g6,g7⟩:=Kids.find v2 r e
    refine ⟨j+1,p0,q',xs',es',by rw [List.find?_cons,decide_eq_false z];exact g1,g2,g3,g4,g5,g6,λ l'=>?_⟩
    rw [QD,List.set_cons_succ,QD,put1,yP,decide_eq_false z,if_neg (by decide),g7]
def yL (c k d:PyData):Option PyData:=match c with
 | .dict kvs=>ob (kxOf k) λ ks=>if kOk kvs ks=true then ob (zj kvs ks) λ l=>ob (appD l d) λ l'=>some (.dict (put1 ks l' kvs)) else none
 | _=>none
theorem qc5 {c k d c':PyData}(e:yL c k d=some c'):∃ kvs ks l l',c=.dict kvs/\k=kxD ks/\kOk kvs ks=true/\zj kvs ks=some l/\appD l d=some l'/\c'=.dict (put1 ks l' kvs):=by
 unfold yL at e
 split at e
 ·obtain ⟨ks,e1,e⟩:=qi e
  split at e
  ·rename_i hc
   obtain ⟨l,e2,e⟩:=qi e
   obtain ⟨l',e3,e⟩:=qi e
   cases e
   exact ⟨_,ks,l,l',rfl,Zb e1,hc,e2,e3,rfl⟩
  ·cases e
 ·cases e
def ym (i:Nat)(fk f:Rho->Option PyData):Rho->Option Out:=λ ρ=>ob (vr i ρ) λ c=>ob (fk ρ) λ k=>ob (f ρ) λ d=>ob (yL c k d) λ c'=>some (.nx (ρ.set i (some c')))
theorem qfw {k:Nat}(hr:Room k X.A)(i:Nat){x:Str}{px sp apos cpos:Pos}(hv:Vis X.env.scope x)(hM:Dp M i)(hb:PD X M b fk)(he:PD X M a f)(hpx:wz b:=by intro _ _;rfl)(hN:X.N[i]?=some x:=by rfl)(hd:(x==("__debug__" : Str))=false:=by kernel_rfl)(hcd:(x==("__classdict__" : Str))=false:=by kernel_rfl)
  (hbase:attributeBase (.Subscript (.Name x px) b sp) "append" X.env (eval (.Subscript (.Name x px) b sp) X.env)=eval (.Subscript (.Name x px) b sp) X.env:=by rfl)
  (hfew:((backTo cpos (starEach [a] X.env)).all (λ x=>!x.1)&&(backToKw cpos (keywordEach [] X.env)).all (λ x=>x.1.isSome)
   && decide ([a].length+([]:List Keyword).length+(if ([]:List Keyword).isEmpty then 0 else 1)<30))=true:=by rfl)
  (hline:(apos.endLine==cpos.line)=true:=by rfl) (hs:starEach [a] X.env=(false,eval a X.env)::starEach [] X.env:=by rfl) (hplain:(backTo cpos (starEach [] X.env)).any (·.1)=false:=by rfl)
  (hsw:swapsWith (.Call (.Attribute (.Subscript (.Name x px) b sp) "append" apos) [a] [] cpos) none pos.line X.env=pure false:=by rfl) :
  PDS X G M L M Mb fr (.Expr (.Call (.Attribute (.Subscript (.Name x px) b sp) "append" apos) [a] [] cpos) pos) (ym i fk f) :=
 (qbj (qew PySem.F.plainAttrs_list PySem.F.slot_list_append PySem.F.type_list_append Yy (qhb (r:=qjB X.K) (qgy hr.units) (yl i hv hN hd hcd) hb hpx) (qb he qg hs) hbase hfew hline hs hplain) hsw).weak λ D σ H ⟨S,ρ,o,os,e,q⟩=>by
  obtain ⟨c0,e1,e⟩:=qi e
  obtain ⟨k0,e2,e⟩:=qi e
  obtain ⟨d,e5,e⟩:=qi e
  obtain ⟨c',e6,e⟩:=qi e
  cases e
  obtain ⟨m,ks,l,l',rfl,rfl,hok,ef,ea,rfl⟩:=qc5 e6
  obtain ⟨F,f0⟩:=os.deep
  obtain ⟨pp,a1,b1,c1⟩:=f0.own i hM _ (QC e1)
  refine ⟨_,a1,S,ρ,_,os.ds,e2,λ w H1 g1 d1=>?_⟩
  obtain ⟨kvs,ep,qs,ds,efp,rfl,hp,kk,hvs,np,kids⟩:=(b1.same g1).dict_inv
  obtain ⟨j,p0,q0,xs,es,h1,h2,h3,rfl,h0,t0,hset⟩:=Kids.find hvs kids ef
  have hl:kvs.length=ds.length:=by
   have h1:=kids.length
   have h2:=congrArg List.length hvs
   rw [List.length_map,List.length_map] at h2
   omega
  refine ⟨S,pp,kvs,ep,ks,p0,rfl,hp,kk,jY hl hok,d1,h1,?_⟩
  rw [h2]
  refine ⟨.inl ⟨rfl,_,SqL.of h0⟩,S,ρ,[d],os.ds.same g1,by show ob (f ρ) _=_;rw [e5];rfl,λ vs H2 g2 dl=>?_⟩
  obtain ⟨v,rfl,dv⟩:=dl.inv1
  have os2:=os.same (g1.trans g2)
  obtain ⟨ds7,e7,hz,rfl⟩:=Yt ea
  cases e7
  have m0:q0∈F i:=by rw [efp];exact .tail _ (List.mem_of_getElem? h3)
  have nqp:pp≠q0:=λ z=>np (by rw [z];exact List.mem_of_getElem? h3)
  refine ⟨q0,xs,v,rfl,rfl,g2 _ _ h0,Nat.lt_of_lt_of_le (by rw [t0.length];exact hz) (Nat.le_of_lt (zX (Nat.le_refl _))),?_⟩
  refine q _ _ _ (os2.writeD (f0.same (g1.trans g2)) hM (QC e1) a1 m0 rfl ?_)
  rw [hset,efp]
  refine .dct (by rw [qO nqp];exact g2 _ _ hp) ((kk.same g2).off os2.ds.1 (Off.upd (c1 q0 m0).1)) hvs np ?_
  exact Kids.put os2.ds.1 (c1 q0 m0).1 (((t0.same g2).snoc dv).off os2.ds.1 (Off.upd (c1 q0 m0).1)) (kids.same g2) h3
end
def scB (N P G:List Str)(sc:Scope):Bool :=
 decide (sc.kind=.function)&&(decide (sc.isCoroutine=false)&&(decide (sc.isGenerator=false)&&(decide N.Nodup&&(decide (N.take P.length=P)&&(P.all (locB sc)&&(sc.names.all (λ y=>decide (y.2≠.free))&&(N.all (λ x=>visB sc x&&locB sc x)&&G.all (glB sc))))))))
structure ScOk (N P G:List Str)(sc:Scope):Prop where
 fs:FnScope N P sc
 nm:∀ x∈N,visB sc x=true/\locB sc x=true
 gb:∀ x∈G,glB sc x=true
theorem scmk {N P G:List Str}{sc:Scope}(h:scB N P G sc=true):ScOk N P G sc:=by
 unfold scB at h
 simp only [Bool.and_eq_true,decide_eq_true_eq,List.all_eq_true] at h
 obtain ⟨h1,h2,h3,h4,h5,h6,h7,h8,h9⟩:=h
 exact ⟨⟨h1,h2,h3,h4,h5,λ x hx=>qgN (h6 x hx),h7⟩,h8,h9⟩
section
variable {N P G:List Str}{sc:Scope}{x:Str}
theorem ScOk.vis (S:ScOk N P G sc)(i:Nat)(e:N[i]?=some x):Vis sc x:=qhC (S.nm x (List.mem_of_getElem? e)).1
theorem ScOk.loc (S:ScOk N P G sc)(i:Nat)(e:N[i]?=some x):Loc sc x:=qgN (S.nm x (List.mem_of_getElem? e)).2
theorem ScOk.gl {X:Cx}(S:ScOk N P G sc)(i:Nat)(e:G[i]?=some x)(hs:X.env.scope=sc):Gl X x:=gl_fn sc hs (S.gb x (List.mem_of_getElem? e))
end
def FnK (K:W.Frag)(n:Str)(st:Stmt):Prop:=∃ (f:Addr) (fd:FuncData),W.nsIn K mainGlobals n=some (some (.ref f))/\Fun K n n st f fd
theorem FnK.of {K:W.Frag}{n:Str}{st:Stmt}{f:Addr}{oc:Value}{od an:Option Addr}{osl:Array (Option Value)}{kV doc pm cdv ct:Value}(a:W.nsIn K mainGlobals n=some (some (.ref f)))(l:K.lookup f=some ⟨oc,od,.func (W.fnOf n n (jr st) (QX st) (qm st) .none kV doc pm an cdv ct),osl⟩)
  (c:W.codeIn K cdv n=true) (k:W.keepIn K (.ref f)=true):FnK K n st:=⟨f,_,a,qgq l c k⟩
end L2
namespace L2
open PySem PySem.W PyProof.Rows
theorem Z9 {α β:Type}{lt:Nat->Nat->Option Bool}{f:α->KasT β}:∀ (t:KasT α),runC lt (t.bind f)=ob (runC lt t) λ a=>runC lt (f a)
 | .ret _=>rfl
 | .ask i j k=>by
  show ob (lt i j) (λ b=>runC lt ((k b).bind f))=ob (ob (lt i j) λ b=>runC lt (k b)) _
  cases lt i j with
  | none=>rfl
  | some b=>exact Z9 (k b)
structure IOrd (n:Nat)(lt:Nat->Nat->Option Bool)(blt:Nat->Nat->Bool):Prop where
 ask:∀ i j,i<n->j<n->lt i j=some (blt i j)
 irr:∀ i,blt i i=false
 tr:∀ i j k,blt i j=true->blt j k=true->blt i k=true
 neg:∀ i j k,blt i k=true->blt i j=true\/blt j k=true
def gp (p:Array Nat)(i:Nat):Nat:=p.getD i 0
def Qz (n:Nat)(p:Array Nat):Prop:=p.toList.Perm (List.range n)
def UpTo (blt:Nat->Nat->Bool)(p:Array Nat)(m:Nat):Prop:=∀ i j,i<=j->j<m->blt (gp p j) (gp p i)=false
section
variable {n:Nat}{lt:Nat->Nat->Option Bool}{blt:Nat->Nat->Bool}{p:Array Nat}
theorem Qz.size (h:Qz n p):p.size=n:=by
 have:=h.length_eq
 rw [Array.length_toList,List.length_range] at this
 exact this
theorem Qz.inb (h:Qz n p){i:Nat}(hi:i<n):gp p i<n:=by
 have hs:=h.size
 have e:gp p i=p[i]'(by omega):=by simp [gp,Array.getD,hs,hi]
 have hm:p[i]'(by omega)∈p.toList:=by simp
 have:=h.mem_iff.mp hm
 rw [e]
 exact List.mem_range.mp this
theorem qbU {q:Array Nat}{i j:Nat}(h:q[i]?=p[j]?):gp q i=gp p j:=by
 unfold gp
 simp only [Array.getD_eq_getD_getElem?,h]
theorem IOrd.le_tr (O:IOrd n lt blt){a b c:Nat}(h1:blt b a=false)(h2:blt c b=false):blt c a=false:=by
 cases h:blt c a with
 | false=>rfl
 | true =>
  rcases O.neg c b a h with z|z
  ·rw [h2] at z;cases z
  ·rw [h1] at z;cases z
theorem IOrd.asym (O:IOrd n lt blt){a b:Nat}(h:blt a b=true):blt b a=false:=by
 cases z:blt b a with
 | false=>rfl
 | true =>
  have:=O.tr a b a h z
  rw [O.irr] at this
  cases this
theorem qfA (O:IOrd n lt blt)(hp:Qz n p){k:Nat}(hk:k<n)(hs:UpTo blt p k):∀ (f l r:Nat),r-l<=f->l<=r->r<=k->(∀ i,i<l->blt (gp p k) (gp p i)=false)->(∀ i,r<=i->i<k->blt (gp p k) (gp p i)=true)->
  ∃ m,runC lt (kas_place p k f l r)=some m/\m<=k/\(∀ i,i<m->blt (gp p k) (gp p i)=false)/\(∀ i,m<=i->i<k->blt (gp p k) (gp p i)=true):=by
 intro f
 induction f with
 | zero =>
  intro l r h1 h2 h3 h4 h5
  exact ⟨l,rfl,by omega,h4,λ i hi hi2=>h5 i (by omega) hi2⟩
 | succ f ih =>
  intro l r h1 h2 h3 h4 h5
  unfold kas_place
  by_cases hlr:l >= r
  ·rw [if_pos hlr]
   exact ⟨l,rfl,by omega,h4,λ i hi hi2=>h5 i (by omega) hi2⟩
  ·rw [if_neg hlr]
   have hm:(l+r) / 2<k:=by omega
   have ea:=O.ask (gp p k) (gp p ((l+r) / 2)) (hp.inb hk) (hp.inb (by omega))
   show ∃ m,ob (lt (gp p k) (gp p ((l+r) / 2))) (λ c=>runC lt (if c=true then kas_place p k f l ((l+r) / 2) else kas_place p k f ((l+r) / 2+1) r))=some m/\_
   rw [ea]
   cases hb:blt (gp p k) (gp p ((l+r) / 2)) with
   | true =>
    refine ih l ((l+r) / 2) (by omega) (by omega) (by omega) h4 λ i hi hi2=>?_
    cases z:blt (gp p k) (gp p i) with
    | true=>rfl
    | false =>
     have:=hs ((l+r) / 2) i hi hi2
     have q:=O.le_tr this z
     rw [hb] at q
     cases q
   | false =>
    refine ih ((l+r) / 2+1) r (by omega) (by omega) h3 (λ i hi=>?_) h5
    exact O.le_tr (hs i ((l+r) / 2) (by omega) hm) hb
theorem qcr {q:Array Nat}(h:Qz n p)(hq:q.Perm p):Qz n q:=(Array.perm_iff_toList_perm.mp hq).trans h
theorem qaa {k m:Nat}(hk:k<p.size)(hm:m<=k)(i:Nat):gp (bubble p k (k-m)) i=if i=m then gp p k else if m<i/\i<=k then gp p (i-1) else gp p i:=by
 have e:=getElem?_bubble hk (k-m) (by omega) i
 have hkm:k-(k-m)=m:=by omega
 rw [hkm] at e
 by_cases h1:i=m
 ·rw [if_pos h1] at e ⊢;exact qbU e
 ·rw [if_neg h1] at e ⊢
  by_cases h2:m<i/\i<=k
  ·rw [if_pos h2] at e ⊢;exact qbU e
  ·rw [if_neg h2] at e ⊢;exact qbU e
theorem jw {i j:Nat}(hj:j<=p.size)(k:Nat):gp (kas_rev p i j) k=if i<=k/\k<j then gp p (i+j-1-k) else gp p k:=by
 have e:=getElem?_mirror_all (i:=i) hj k
 unfold kas_rev
 by_cases h1:i<=k/\k<j
 ·rw [if_pos h1] at e ⊢;exact qbU e
 ·rw [if_neg h1] at e ⊢;exact qbU e
theorem jL (h:Qz n p)(i j:Nat):Qz n (kas_rev p i j):=qcr h (mirror_perm _ _ _ _)
theorem qhK (O:IOrd n lt blt):∀ (f:Nat) (p:Array Nat) (k:Nat),Qz n p->UpTo blt p k->k+f=n->∃ p',runC lt (kas_bin f p k)=some p'/\Qz n p'/\UpTo blt p' n:=by
 intro f
 induction f with
 | zero=>exact λ p k hp hs e=>⟨p,rfl,hp,by rw [← e];exact hs⟩
 | succ f ih =>
  intro p k hp hs e
  have hk:k<n:=by omega
  obtain ⟨m,e1,h1,h2,h3⟩:=qfA O hp hk hs k 0 k (by omega) (by omega) (by omega) (λ i hi=>by omega) (λ i hi hi2=>by omega)
  have hz:=hp.size
  obtain ⟨p',e2,h4,h5⟩:=ih (bubble p k (k-m)) (k+1) (qcr hp (bubble_perm _ _ _)) (λ i j hij hj=>by
   rw [qaa (by omega) h1,qaa (by omega) h1]
   by_cases a1:j=m
   ·rw [if_pos a1]
    by_cases a2:i=m
    ·rw [if_pos a2];exact O.irr _
    ·rw [if_neg a2,if_neg (by omega)]
     exact h2 i (by omega)
   ·rw [if_neg a1]
    by_cases a3:m<j/\j<=k
    ·rw [if_pos a3]
     by_cases a2:i=m
     ·rw [if_pos a2]
      exact O.asym (h3 (j-1) (by omega) (by omega))
     ·rw [if_neg a2]
      by_cases a4:m<i/\i<=k
      ·rw [if_pos a4]
       exact hs (i-1) (j-1) (by omega) (by omega)
      ·rw [if_neg a4]
       exact hs i (j-1) (by omega) (by omega)
    ·rw [if_neg a3,if_neg (by omega),if_neg (by omega)]
     exact hs i j hij (by omega)) (by omega)
  refine ⟨p',?_,h4,h5⟩
  unfold kas_bin
  rw [Z9,e1]
  exact e2
theorem qdM (O:IOrd n lt blt)(hp:Qz n p):∀ (f m:Nat),1<=m->m+f<=n->UpTo blt p m->∃ m',runC lt (kas_asc p f m)=some m'/\m<=m'/\m'<=m+f/\UpTo blt p m'/\(m'<m+f->blt (gp p m') (gp p (m'-1))=true):=by
 intro f
 induction f with
 | zero=>exact λ m h1 h2 hs=>⟨m,rfl,by omega,by omega,hs,λ z=>by omega⟩
 | succ f ih =>
  intro m h1 h2 hs
  have ea:=O.ask (gp p m) (gp p (m-1)) (hp.inb (by omega)) (hp.inb (by omega))
  unfold kas_asc
  show ∃ m',ob (lt (gp p m) (gp p (m-1))) (λ c=>runC lt (if c=true then .ret m else kas_asc p f (m+1)))=some m'/\_
  rw [ea]
  cases hb:blt (gp p m) (gp p (m-1)) with
  | true=>exact ⟨m,rfl,by omega,by omega,hs,λ _=>hb⟩
  | false =>
   obtain ⟨m',e1,h3,h4,h5,h6⟩:=ih (m+1) (by omega) (by omega) (λ i j hij hj=>by
    by_cases hjm:j=m
    ·subst hjm
     by_cases hi:i=j
     ·subst hi;exact O.irr _
     ·exact O.le_tr (hs i (j-1) (by omega) (by omega)) hb
    ·exact hs i j hij (by omega))
   exact ⟨m',e1,by omega,by omega,h5,λ z=>h6 (by omega)⟩
def Yn (blt:Nat->Nat->Bool)(p:Array Nat)(m:Nat):Prop:=∀ i j,i<=j->j<m->blt (gp p i) (gp p j)=false
def qfM (blt:Nat->Nat->Bool)(p:Array Nat)(a b:Nat):Prop:=∀ i j,a<=i->i<b->a<=j->j<b->blt (gp p i) (gp p j)=false
theorem qbG (hp:Qz n p){m a:Nat}(hm:m<=n)(ha:a<=m)(hd:Yn blt p m)(hs:qfM blt p a m):Yn blt (kas_rev p a m) m/\∀ i,i<m->∃ i',i'<m/\gp (kas_rev p a m) i=gp p i':=by
 have hz:=hp.size
 refine ⟨λ i j hij hj=>?_,λ i hi=>?_⟩
 ·rw [jw (by omega),jw (by omega)]
  by_cases h1:a<=i/\i<m
  ·rw [if_pos h1,if_pos (by omega)]
   exact hs _ _ (by omega) (by omega) (by omega) (by omega)
  ·rw [if_neg h1]
   by_cases h2:a<=j/\j<m
   ·rw [if_pos h2];exact hd _ _ (by omega) (by omega)
   ·rw [if_neg h2];exact hd _ _ hij hj
 ·rw [jw (by omega)]
  by_cases h1:a<=i/\i<m
  ·rw [if_pos h1];exact ⟨_,by omega,rfl⟩
  ·rw [if_neg h1];exact ⟨i,hi,rfl⟩
theorem qgc (O:IOrd n lt blt):∀ (f:Nat) (p:Array Nat) (m q:Nat),Qz n p->m+f<=n->q+1<=m->Yn blt p m->qfM blt p (m-(q+1)) m->
  ∃ p' m' q',runC lt (kas_desc f p m q)=some (p',m',q')/\Qz n p'/\m<=m'/\m'<=m+f/\q'+1<=m'/\Yn blt p' m'/\qfM blt p' (m'-(q'+1)) m':=by
 intro f
 induction f with
 | zero=>exact λ p m q hp _ hq hd hs=>⟨p,m,q,rfl,hp,by omega,by omega,hq,hd,hs⟩
 | succ f ih =>
  intro p m q hp hm hq hd hs
  have hz:=hp.size
  have e1:=O.ask (gp p m) (gp p (m-1)) (hp.inb (by omega)) (hp.inb (by omega))
  have e2:=O.ask (gp p (m-1)) (gp p m) (hp.inb (by omega)) (hp.inb (by omega))
  unfold kas_desc
  show ∃ p' m' q',ob (lt (gp p m) (gp p (m-1))) (λ c=>runC lt (if c=true then (if q > 0 then kas_desc f (kas_rev p (m-(q+1)) m) (m+1) 0 else kas_desc f p (m+1) 0)
   else .ask (p.getD (m-1) 0) (p.getD m 0) λ d=>if d=true then .ret (p,m,q) else kas_desc f p (m+1) (q+1)))=some (p',m',q')/\_
  rw [e1]
  cases hb:blt (gp p m) (gp p (m-1)) with
  | true =>
   have below:∀ i,i<m->blt (gp p i) (gp p m)=false:=λ i hi=>O.le_tr (O.asym hb) (hd i (m-1) (by omega) (by omega))
   show ∃ p' m' q',runC lt (if q > 0 then kas_desc f (kas_rev p (m-(q+1)) m) (m+1) 0 else kas_desc f p (m+1) 0)=some (p',m',q')/\_
   by_cases hq0:q > 0
   ·rw [if_pos hq0]
    obtain ⟨d1,d2⟩:=qbG (blt:=blt) hp (m:=m) (a:=m-(q+1)) (by omega) (by omega) hd hs
    have gm:gp (kas_rev p (m-(q+1)) m) m=gp p m:=by rw [jw (by omega),if_neg (by omega)]
    obtain ⟨p',m',q',r1,r2,r3,r4,r5,r6,r7⟩:=ih (kas_rev p (m-(q+1)) m) (m+1) 0 (jL hp _ _) (by omega) (by omega) (λ i j hij hj=>by
     by_cases hjm:j=m
     ·subst hjm
      by_cases hi:i=j
      ·subst hi;exact O.irr _
      ·obtain ⟨i',hi',ei⟩:=d2 i (by omega)
       rw [ei,gm]
       exact below i' hi'
     ·exact d1 i j hij (by omega)) (λ i j h1 h2 h3 h4=>by
      have:i=m:=by omega
      have:j=m:=by omega
      subst i;subst j;exact O.irr _)
    exact ⟨p',m',q',r1,r2,by omega,by omega,r5,r6,r7⟩
   ·rw [if_neg hq0]
    obtain ⟨p',m',q',r1,r2,r3,r4,r5,r6,r7⟩:=ih p (m+1) 0 hp (by omega) (by omega) (λ i j hij hj=>by
     by_cases hjm:j=m
     ·subst hjm
      by_cases hi:i=j
      ·subst hi;exact O.irr _
      ·exact below i (by omega)
     ·exact hd i j hij (by omega)) (λ i j h1 h2 h3 h4=>by
      have:i=m:=by omega
      have:j=m:=by omega
      subst i;subst j;exact O.irr _)
    exact ⟨p',m',q',r1,r2,by omega,by omega,r5,r6,r7⟩
  | false =>
   show ∃ p' m' q',ob (lt (gp p (m-1)) (gp p m)) (λ d=>runC lt (if d=true then .ret (p,m,q) else kas_desc f p (m+1) (q+1)))=some (p',m',q')/\_
   rw [e2]
   cases hd2:blt (gp p (m-1)) (gp p m) with
   | true=>exact ⟨p,m,q,rfl,hp,by omega,by omega,hq,hd,hs⟩
   | false =>
    obtain ⟨p',m',q',r1,r2,r3,r4,r5,r6,r7⟩:=ih p (m+1) (q+1) hp (by omega) (by omega) (λ i j hij hj=>by
     by_cases hjm:j=m
     ·subst hjm
      by_cases hi:i=j
      ·subst hi;exact O.irr _
      ·exact O.le_tr hd2 (hd i (j-1) (by omega) (by omega))
     ·exact hd i j hij (by omega)) (λ i j h1 h2 h3 h4=>by
      have s1:∀ i,m-(q+1)<=i->i<m->blt (gp p i) (gp p m)=false/\blt (gp p m) (gp p i)=false:=λ i a b =>
       ⟨O.le_tr hd2 (hs i (m-1) a b (by omega) (by omega)),O.le_tr (hs (m-1) i (by omega) (by omega) a b) hb⟩
      by_cases hi:i=m
      ·subst hi
       by_cases hj:j=i
       ·subst hj;exact O.irr _
       ·exact (s1 j (by omega) (by omega)).2
      ·by_cases hj:j=m
       ·subst hj;exact (s1 i (by omega) (by omega)).1
       ·exact hs i j (by omega) (by omega) (by omega) (by omega))
    exact ⟨p',m',q',r1,r2,by omega,by omega,r5,r6,r7⟩
theorem qaD (O:IOrd n lt blt)(hp:Qz n p){m:Nat}(h1:1<=m)(h2:m<=n)(hd:Yn blt p m):∃ m' p',runC lt (kas_tail3 m n p)=some (m',p')/\Qz n p'/\1<=m'/\m'<=n/\UpTo blt p' m':=by
 have hz:=hp.size
 obtain ⟨m',e1,h3,h4,h5,_⟩:=qdM O (jL hp 0 m) (n-m) m h1 (by omega) (λ i j hij hj=>by
  rw [jw (by omega),jw (by omega),if_pos (by omega),if_pos (by omega)]
  exact hd _ _ (by omega) (by omega))
 refine ⟨m',kas_rev p 0 m,?_,jL hp 0 m,by omega,by omega,h5⟩
 unfold kas_tail3
 rw [Z9,e1]
 rfl
theorem yN (O:IOrd n lt blt)(hp:Qz n p){k:Nat}(h2:k+1<=n)(hd:Yn blt p (k+1)):∃ m' p',runC lt (kas_descPart k n p)=some (m',p')/\Qz n p'/\1<=m'/\m'<=n/\UpTo blt p' m':=by
 obtain ⟨p1,m1,q1,e1,r2,r3,r4,r5,r6,r7⟩:=qgc O (n-(k+1)) p (k+1) 0 hp (by omega) (by omega) hd (λ i j a1 a2 a3 a4=>by
  have:i=k:=by omega
  have:j=k:=by omega
  subst i;subst j;exact O.irr _)
 unfold kas_descPart
 rw [Z9,e1]
 show ∃ m' p',runC lt (if q1 > 0 then kas_tail3 m1 n (kas_rev p1 (m1-(q1+1)) m1) else kas_tail3 m1 n p1)=some (m',p')/\_
 by_cases hq:q1 > 0
 ·rw [if_pos hq]
  exact qaD O (jL r2 _ _) (by omega) (by omega) (qbG r2 (by omega) (by omega) r6 r7).1
 ·rw [if_neg hq]
  exact qaD O r2 (by omega) (by omega) r6
theorem qe1 (O:IOrd n lt blt)(hp:Qz n p)(hn:1<=n):∃ m' p',runC lt (kas_count n p)=some (m',p')/\Qz n p'/\1<=m'/\m'<=n/\UpTo blt p' m':=by
 have hz:=hp.size
 obtain ⟨m,e1,h3,h4,h5,h6⟩:=qdM O hp (n-1) 1 (by omega) (by omega) (λ i j hij hj=>by
  have:i=0:=by omega
  have:j=0:=by omega
  subst i;subst j;exact O.irr _)
 unfold kas_count
 rw [Z9,e1]
 show ∃ m' p',runC lt (if (m==n)=true then .ret (m,p) else if m > 1 then .ask (p.getD 0 0) (p.getD (m-1) 0) λ c=>if c=true then .ret (m,p) else kas_descPart m n (kas_rev p 0 m) else kas_descPart m n p)=some (m',p')/\_
 by_cases hmn:m=n
 ·rw [if_pos (by simpa using hmn)]
  exact ⟨m,p,rfl,hp,by omega,by omega,h5⟩
 ·rw [if_neg (by simpa using hmn)]
  have hb:=h6 (by omega)
  by_cases hm1:m > 1
  ·rw [if_pos hm1]
   have ea:=O.ask (gp p 0) (gp p (m-1)) (hp.inb (by omega)) (hp.inb (by omega))
   show ∃ m' p',ob (lt (gp p 0) (gp p (m-1))) (λ c=>runC lt (if c=true then .ret (m,p) else kas_descPart m n (kas_rev p 0 m)))=some (m',p')/\_
   rw [ea]
   cases hc:blt (gp p 0) (gp p (m-1)) with
   | true=>exact ⟨m,p,rfl,hp,by omega,by omega,h5⟩
   | false =>
    refine yN O (jL hp 0 m) (by omega) (λ i j hij hj=>?_)
    by_cases hjm:j=m
    ·by_cases hi:i=j
     ·rw [hi];exact O.irr _
     ·rw [jw (by omega),jw (by omega),if_pos (by omega),if_neg (by omega),hjm]
      exact O.le_tr (O.asym hb) (O.le_tr hc (h5 0 (0+m-1-i) (by omega) (by omega)))
    ·rw [jw (by omega),jw (by omega),if_pos (by omega),if_pos (by omega)]
     exact h5 _ _ (by omega) (by omega)
  ·rw [if_neg hm1]
   have hm:m=1:=by omega
   subst hm
   refine yN O hp (by omega) (λ i j hij hj=>?_)
   by_cases hi:i=j
   ·rw [hi];exact O.irr _
   ·have e0:i=0:=by omega
    have ej:j=1:=by omega
    rw [e0,ej]
    exact O.asym hb
theorem qht (O:IOrd n lt blt)(hn:1<=n):∃ p',runC lt (kas_sort n)=some p'/\Qz n p'/\UpTo blt p' n:=by
 obtain ⟨m,p,e1,h1,h2,h3,h4⟩:=qe1 O (p:=(List.range n).toArray) (show Qz n _ from by unfold Qz;exact List.Perm.refl _) hn
 unfold kas_sort
 rw [Z9,e1]
 show ∃ p',runC lt (if m<n then kas_bin (n-max m 1) p (max m 1) else .ret p)=some p'/\_
 have hmax:max m 1=m:=by omega
 by_cases hm:m<n
 ·rw [if_pos hm,hmax]
  exact qhK O (n-m) p m h1 h4 (by omega)
 ·rw [if_neg hm]
  have:m=n:=by omega
  subst this
  exact ⟨p,rfl,h1,h4⟩
end
def tI (ns:List Int):PyData:=.tuple (ns.map .int)
theorem qae:∀ xs:List Int,HT.lexLt xs xs=false
 | []=>rfl
 | x::xs=>by rw [HT.Qs,if_pos rfl];exact qae xs
theorem qb6:∀ xs ys zs:List Int,HT.lexLt xs ys=true->HT.lexLt ys zs=true->HT.lexLt xs zs=true
 | [],[],_,h,_=>by cases h
 | [],_::_,[],_,h=>by cases h
 | [],_::_,_::_,_,_=>rfl
 | _::_,[],_,h,_=>by cases h
 | _::_,_::_,[],_,h=>by cases h
 | x::xs,y::ys,z::zs,h1,h2=>by
  rw [HT.Qs] at h1 h2 ⊢
  by_cases e1:x=y
  ·rw [if_pos e1] at h1
   by_cases e2:y=z
   ·rw [if_pos e2] at h2
    rw [if_pos (e1.trans e2)]
    exact qb6 xs ys zs h1 h2
   ·rw [if_neg e2] at h2
    rw [if_neg (by rw [e1];exact e2),e1]
    exact h2
  ·rw [if_neg e1] at h1
   have h1':=of_decide_eq_true h1
   by_cases e2:y=z
   ·rw [if_neg (by rw [← e2];exact e1),← e2]
    exact h1
   ·rw [if_neg e2] at h2
    have h2':=of_decide_eq_true h2
    rw [if_neg (by omega)]
    exact decide_eq_true (by omega)
theorem qaf:∀ xs ys zs:List Int,HT.lexLt xs zs=true->HT.lexLt xs ys=true\/HT.lexLt ys zs=true
 | [],[],zs,h=>.inr h
 | [],_::_,_,_=>.inl rfl
 | _::_,_,[],h=>by cases h
 | _::_,[],_::_,_=>.inr rfl
 | x::xs,y::ys,z::zs,h=>by
  rw [HT.Qs] at h ⊢
  rw [HT.Qs]
  by_cases e1:x=z
  ·rw [if_pos e1] at h
   subst e1
   by_cases e2:x=y
   ·subst e2
    rw [if_pos rfl,if_pos rfl]
    exact qaf xs ys zs h
   ·rw [if_neg e2,if_neg (λ z=>e2 z.symm)]
    by_cases hl:x<y
    ·exact .inl (decide_eq_true hl)
    ·exact .inr (decide_eq_true (by omega))
  ·rw [if_neg e1] at h
   have h':=of_decide_eq_true h
   by_cases e2:x=y
   ·subst e2
    rw [if_neg e1]
    exact .inr h
   ·rw [if_neg e2]
    by_cases hl:x<y
    ·exact .inl (decide_eq_true hl)
    ·right
     rw [if_neg (by omega)]
     exact decide_eq_true (by omega)
theorem qag:∀ xs ys:List Int,HT.lexLt xs ys=false->HT.lexLt ys xs=false->xs=ys
 | [],[],_,_=>rfl
 | [],_::_,h,_=>by cases h
 | _::_,[],_,h=>by cases h
 | x::xs,y::ys,h1,h2=>by
  rw [HT.Qs] at h1 h2
  by_cases e:x=y
  ·subst e
   rw [if_pos rfl] at h1 h2
   rw [qag xs ys h1 h2]
  ·rw [if_neg e] at h1
   rw [if_neg (λ z=>e z.symm)] at h2
   have a1:=of_decide_eq_false h1
   have a2:=of_decide_eq_false h2
   omega
theorem qai:∀ xs ys:List Int,ltXs (xs.map .int) (ys.map .int)=some (HT.lexLt xs ys)
 | [],[]=>by rw [List.map_nil,ltXs];rfl
 | [],_::_=>by rw [List.map_nil,List.map_cons,ltXs];rfl
 | _::_,[]=>by rw [List.map_nil,List.map_cons,ltXs];rfl
 | x::xs,y::ys=>by
  rw [List.map_cons,List.map_cons,ltXs,HT.Qs]
  have e:PyData.eqv (.int x) (.int y)=(x==y):=rfl
  rw [e]
  by_cases h:x=y
  ·rw [if_pos (by simpa using h),if_pos h]
   exact qai xs ys
  ·rw [if_neg (by simpa using h),if_neg h,ltX]
theorem qgT (xs ys:List Int):ltX (tI xs) (tI ys)=some (HT.lexLt xs ys):=by
 unfold tI
 rw [ltX]
 exact qai xs ys
theorem Wu {α:Type}(xs:List α)(d:α):(List.range xs.length).map (λ i=>xs.getD i d)=xs:=by
 apply List.ext_getElem
 ·simp
 ·intro i h1 h2
  simp [List.getD_eq_getElem?_getD,h2]
theorem qbm {nss:List (List Int)}(hok:jy 0 (nss.map tI)=true):∃ mss:List (List Int),Qg [.list (nss.map tI)]=some (.list (mss.map tI))/\mss.Perm nss/\mss.Pairwise (λ a b=>HT.lexLt b a=false):=by
 have hn:2<=nss.length/\nss.length<64:=by
  unfold jy at hok
  simp only [Bool.and_eq_true,decide_eq_true_eq,List.length_map] at hok
  exact ⟨hok.2.1,hok.2.2.1⟩
 have O:IOrd nss.length (qb9 (nss.map tI)) (λ i j=>HT.lexLt (nss.getD i []) (nss.getD j [])):=by
  refine ⟨λ i j hi hj=>?_,λ i=>qae _,λ i j k=>qb6 _ _ _,λ i j k=>qaf _ _ _⟩
  unfold qb9
  rw [List.getElem?_map,List.getElem?_map,List.getElem?_eq_getElem hi,List.getElem?_eq_getElem hj]
  show ltX (tI nss[i]) (tI nss[j])=_
  rw [qgT,getD_some (List.getElem?_eq_getElem hi),getD_some (List.getElem?_eq_getElem hj)]
 obtain ⟨p,e1,hp,hs⟩:=qht O (by omega)
 have hin:∀ i∈p.toList,i<nss.length:=λ i hi=>List.mem_range.mp (hp.mem_iff.mp hi)
 refine ⟨p.toList.map λ i=>nss.getD i [],?_,?_,?_⟩
 ·show (if (nss.map tI).length<2 then some (PyData.list (nss.map tI)) else if jy 0 (nss.map tI)=true\/jy 1 (nss.map tI)=true then ob (runC (qb9 (nss.map tI)) (kas_sort (nss.map tI).length)) λ p=>qct (nss.map tI) p else none)=_
  rw [if_neg (by rw [List.length_map];omega),if_pos (.inl hok),List.length_map,e1]
  show qct (nss.map tI) p=_
  unfold qct
  rw [if_pos ⟨List.all_eq_true.mpr λ i hi=>by rw [List.length_map];exact decide_eq_true (hin i hi),by rw [Array.length_toList,hp.size];omega⟩]
  congr 2
  rw [List.map_map]
  refine List.map_congr_left λ i hi=>?_
  have hi':=hin i hi
  show (nss.map tI).getD i .none=tI (nss.getD i [])
  rw [getD_some (show (nss.map tI)[i]?=some (tI nss[i]) from by rw [List.getElem?_map,List.getElem?_eq_getElem hi'];rfl),getD_some (List.getElem?_eq_getElem hi')]
 ·have:=hp.map (λ i=>nss.getD i [])
  rw [Wu] at this
  exact this
 ·rw [List.pairwise_map,List.pairwise_iff_getElem]
  intro i j hi hj hij
  have hsz:=hp.size
  rw [Array.length_toList] at hi hj
  have:=hs i j (by omega) (by omega)
  have g1:gp p i=p.toList[i]'(by rw [Array.length_toList];exact hi):=by simp [gp,Array.getD,hi]
  have g2:gp p j=p.toList[j]'(by rw [Array.length_toList];exact hj):=by simp [gp,Array.getD,hj]
  rw [g1,g2] at this
  exact this
theorem qbz:∀ ns:List Int,PyData.canLayAll0 (ns.map .int)=true/\PyData.depthAll (ns.map .int)=0
 | []=>⟨rfl,rfl⟩
 | n::ns=>by
  obtain ⟨h1,h2⟩:=qbz ns
  rw [List.map_cons]
  exact ⟨by simp [PyData.canLayAll0,PyData.canLay0,h1],by simp [PyData.depthAll,PyData.depth,h2]⟩
theorem wV:∀ nss:List (List Int),PyData.canLayAll0 (nss.map tI)=true/\PyData.depthAll (nss.map tI)<=1
 | []=>⟨rfl,Nat.zero_le _⟩
 | ns::nss=>by
  obtain ⟨h1,h2⟩:=wV nss
  obtain ⟨h3,h4⟩:=qbz ns
  rw [List.map_cons]
  refine ⟨by simp [PyData.canLayAll0,tI,PyData.canLay0,h1,h3],?_⟩
  rw [PyData.depthAll,show (tI ns).depth=1 from by simp [tI,PyData.depth,h4]]
  omega
theorem qcL {nss:List (List Int)}(h2:2<=nss.length)(h64:nss.length<64)(hne:∀ ns∈nss,ns≠[]):jy 0 (nss.map tI)=true:=by
 obtain ⟨h3,h4⟩:=wV nss
 unfold jy
 simp only [Bool.and_eq_true,decide_eq_true_eq,List.length_map]
 refine ⟨List.all_eq_true.mpr λ d hd=>?_,h2,h64,h3,by omega⟩
 obtain ⟨ns,hn,rfl⟩:=List.mem_map.mp hd
 cases ns with
 | nil=>exact absurd rfl (hne [] hn)
 | cons n ns=>rfl
theorem qbn {nss:List (List Int)}(h64:nss.length<64)(hne:∀ ns∈nss,ns≠[]):∃ mss:List (List Int),Qg [.list (nss.map tI)]=some (.list (mss.map tI))/\mss.Perm nss/\mss.Pairwise (λ a b=>HT.lexLt b a=false):=by
 by_cases h2:2<=nss.length
 ·exact qbm (qcL h2 h64 hne)
 ·refine ⟨nss,?_,List.Perm.refl _,?_⟩
  ·show (if (nss.map tI).length<2 then some (PyData.list (nss.map tI)) else _)=_
   rw [if_pos (by rw [List.length_map];omega)]
  ·match nss,h2 with
   | [],_=>exact .nil
   | [a],_=>exact .cons (λ _ z=>nomatch z) .nil
   | _::_::_,h2=>exact absurd (by simp) h2
theorem J4:∀ {as bs:List (List Int)},as.Perm bs->as.Pairwise (λ a b=>HT.lexLt b a=false)->bs.Pairwise (λ a b=>HT.lexLt b a=false)->as=bs
 | [],bs,h,_,_=>(List.nil_perm.mp h).symm
 | a::as,[],h,_,_=>absurd h (by simp)
 | a::as,b::bs,h,h1,h2=>by
  rw [List.pairwise_cons] at h1 h2
  have e:a=b:=by
   have ma:a∈b::bs:=h.mem_iff.mp (.head _)
   have mb:b∈a::as:=h.mem_iff.mpr (.head _)
   rcases List.mem_cons.mp ma with z|z
   ·exact z
   ·rcases List.mem_cons.mp mb with y|y
    ·exact y.symm
    ·exact qag a b (h2.1 a z) (h1.1 b y)
  subst e
  rw [J4 h.cons_inv h1.2 h2.2]
end L2
namespace SF
open PySem L2
variable (P:Program)(w:World){K:W.Frag}{mg:Str->Option Value}(base:Heap){f:Addr}{fd:FuncData}
def top (i:Nat):Stmt:=PySem.Challenge.pw_sheetfold_k25_whole_joins_lead_over_a_sk.main.body.getD i (.Pass ⟨0,0,0,0⟩)
def QW:PyData:=(.tuple [(.tuple [(.int (-1)),(.int (0)),(.int (0))]),(.tuple [(.int (0)),(.int (-1)),(.int (0))]),(.tuple [(.int (0)),(.int (0)),(.int (-1))]),(.tuple [(.int (0)),(.int (0)),(.int (1))]),(.tuple [(.int (0)),(.int (1)),(.int (0))]),(.tuple [(.int (1)),(.int (0)),(.int (0))])])
def yJ:PyData:=(.int (4))
abbrev T5:Stmt:=top 4
abbrev Zf:List Str:=["things"]
theorem Z0:ScOk Zf ["things"] ["enumerate", "dict"] (qm T5):=scmk (by kernel_rfl)
def j8:Rho->Option Out:=(sRet (evA (aC (Jj 1 2 (evI (vr 0) W8) (unpD 2 (gsC (gNm 1) (gsC (gNm 2) gsN))) tT (evA (aC (vr 2) (aC (vr 1) aN)) tupD)) aN) qaN))
def Zj (ds:List PyData):Option PyData:=ob (j8 (rho0 Zf.length ds)) outD
theorem qa6 (F:Fun K "numbers_of" "numbers_of" T5 f fd)(m:mg "numbers_of" = some (.ref f))(b:Binds K fd ["things"] [])(z_dict:mg "dict" = none)(z_enumerate:mg "enumerate" = none):Known P w K mg base "numbers_of" 1 1 Zj:=by
 refine ⟨f,fd,["things"],F.pure (k:=0) (u:=j8) (M':=[]) Z0.fs rfl (λ cdv A outer s H E hr G=>?_),m,F.kp,b⟩
 refine qt ?_
 refine qI ?_
 refine jh ?_
 refine JV (qhH hr) (Z0.gl 1 rfl rfl) z_dict rfl ?_
 refine qb ?_ ?_
 refine qcm (CompOk.of (k:=2) Zf ["things", "k", "thing"] (qm T5) rfl rfl rfl (by decide +kernel)) (qed (JQ (jF (by decide)) (JQ (jF (by decide)) qbS))) ?_ (λ _ _ _ _ _ _=>qcp rfl (j4 (JW (i:=1) (CompOk.of (k:=2) Zf ["things", "k", "thing"] (qm T5) rfl rfl rfl (by decide +kernel)) rfl (by decide +kernel) _ _ _ _ _ _) (j4 (JW (i:=2) (CompOk.of (k:=2) Zf ["things", "k", "thing"] (qm T5) rfl rfl rfl (by decide +kernel)) rfl (by decide +kernel) _ _ _ _ _ _) qaq))) (λ _ _ _ _ _ _=>?_) (λ _ _ _ _ _ _=>?_)
 refine qcq (Z0.gl 0 rfl rfl) z_enumerate ?_
 exact qd 0 (Z0.vis 0 rfl) (by decide)
 exact Qy
 refine zH ?_
 refine qb ?_ ?_
 exact qd 2 (qz (by decide +kernel)) (by decide)
 refine qb ?_ ?_
 exact qd 1 (qz (by decide +kernel)) (by decide)
 exact qg
 exact qg
abbrev T32:Stmt:=top 7
abbrev qdF:List Str:=["one", "other"]
theorem jO:ScOk qdF ["one", "other"] [] (qm T32):=scmk (by kernel_rfl)
def JZ:Rho->Option Out:=(sRet (evA (aC (ev2 (ev2 (vr 0) (kd (.int 0)) ixD) (ev2 (vr 1) (kd (.int 0)) ixD) qJ) (aC (ev2 (ev2 (vr 0) (kd (.int 1)) ixD) (ev2 (vr 1) (kd (.int 1)) ixD) qJ) (aC (ev2 (ev2 (vr 0) (kd (.int 2)) ixD) (ev2 (vr 1) (kd (.int 2)) ixD) qJ) aN))) tupD))
def Qj (ds:List PyData):Option PyData:=ob (JZ (rho0 qdF.length ds)) outD
theorem qil (F:Fun K "added" "added" T32 f fd)(m:mg "added" = some (.ref f))(b:Binds K fd ["one", "other"] []):Known P w K mg base "added" 2 1 Qj:=by
 refine ⟨f,fd,["one", "other"],F.pure (k:=0) (u:=JZ) (M':=[]) jO.fs rfl (λ cdv A outer s H E hr G=>?_),m,F.kp,b⟩
 refine qt ?_
 refine qI ?_
 refine zH ?_
 refine qb ?_ ?_
 refine qy zx ?_ ?_
 refine qF ?_ ?_
 exact qd 0 (jO.vis 0 rfl) (by decide)
 exact qe
 refine qF ?_ ?_
 exact qd 1 (jO.vis 1 rfl) (by decide)
 exact qe
 refine qb ?_ ?_
 refine qy zx ?_ ?_
 refine qF ?_ ?_
 exact qd 0 (jO.vis 0 rfl) (by decide)
 exact qe
 refine qF ?_ ?_
 exact qd 1 (jO.vis 1 rfl) (by decide)
 exact qe
 refine qb ?_ ?_
 refine qy zx ?_ ?_
 refine qF ?_ ?_
 exact qd 0 (jO.vis 0 rfl) (by decide)
 exact qe
 refine qF ?_ ?_
 exact qd 1 (jO.vis 1 rfl) (by decide)
 exact qe
 exact qg
abbrev T25:Stmt:=top 8
abbrev W0:List Str:=["spot"]
theorem JH:ScOk W0 ["spot"] [] (qm T25):=scmk (by kernel_rfl)
def YK:Rho->Option Out:=(sRet (evA (aC (ev1 (ev2 (vr 0) (kd (.int 0)) ixD) negD) (aC (ev1 (ev2 (vr 0) (kd (.int 1)) ixD) negD) (aC (ev1 (ev2 (vr 0) (kd (.int 2)) ixD) negD) aN))) tupD))
def Za (ds:List PyData):Option PyData:=ob (YK (rho0 W0.length ds)) outD
theorem qfi (F:Fun K "negated" "negated" T25 f fd)(m:mg "negated" = some (.ref f))(b:Binds K fd ["spot"] []):Known P w K mg base "negated" 1 1 Za:=by
 refine ⟨f,fd,["spot"],F.pure (k:=0) (u:=YK) (M':=[]) JH.fs rfl (λ cdv A outer s H E hr G=>?_),m,F.kp,b⟩
 refine qt ?_
 refine qI ?_
 refine zH ?_
 refine qb ?_ ?_
 refine Js Jk ?_
 refine qF ?_ ?_
 exact qd 0 (JH.vis 0 rfl) (by decide)
 exact qe
 refine qb ?_ ?_
 refine Js Jk ?_
 refine qF ?_ ?_
 exact qd 0 (JH.vis 0 rfl) (by decide)
 exact qe
 refine qb ?_ ?_
 refine Js Jk ?_
 refine qF ?_ ?_
 exact qd 0 (JH.vis 0 rfl) (by decide)
 exact qe
 exact qg
abbrev T33:Stmt:=top 9
abbrev qdG:List Str:=["one", "other"]
theorem QK:ScOk qdG ["one", "other"] [] (qm T33):=scmk (by kernel_rfl)
def qeO:Rho->Option Out:=(sRet (evA (aC (ev2 (ev2 (ev2 (vr 0) (kd (.int 1)) ixD) (ev2 (vr 1) (kd (.int 2)) ixD) mulD) (ev2 (ev2 (vr 0) (kd (.int 2)) ixD) (ev2 (vr 1) (kd (.int 1)) ixD) mulD) subD) (aC (ev2 (ev2 (ev2 (vr 0) (kd (.int 2)) ixD) (ev2 (vr 1) (kd (.int 0)) ixD) mulD) (ev2 (ev2 (vr 0) (kd (.int 0)) ixD) (ev2 (vr 1) (kd (.int 2)) ixD) mulD) subD) (aC (ev2 (ev2 (ev2 (vr 0) (kd (.int 0)) ixD) (ev2 (vr 1) (kd (.int 1)) ixD) mulD) (ev2 (ev2 (vr 0) (kd (.int 1)) ixD) (ev2 (vr 1) (kd (.int 0)) ixD) mulD) subD) aN))) tupD))
def wF (ds:List PyData):Option PyData:=ob (qeO (rho0 qdG.length ds)) outD
theorem qim (F:Fun K "cross" "cross" T33 f fd)(m:mg "cross" = some (.ref f))(b:Binds K fd ["one", "other"] []):Known P w K mg base "cross" 2 1 wF:=by
 refine ⟨f,fd,["one", "other"],F.pure (k:=0) (u:=qeO) (M':=[]) QK.fs rfl (λ cdv A outer s H E hr G=>?_),m,F.kp,b⟩
 refine qt ?_
 refine qI ?_
 refine zH ?_
 refine qb ?_ ?_
 refine qy ZQ ?_ ?_
 refine qy zK ?_ ?_
 refine qF ?_ ?_
 exact qd 0 (QK.vis 0 rfl) (by decide)
 exact qe
 refine qF ?_ ?_
 exact qd 1 (QK.vis 1 rfl) (by decide)
 exact qe
 refine qy zK ?_ ?_
 refine qF ?_ ?_
 exact qd 0 (QK.vis 0 rfl) (by decide)
 exact qe
 refine qF ?_ ?_
 exact qd 1 (QK.vis 1 rfl) (by decide)
 exact qe
 refine qb ?_ ?_
 refine qy ZQ ?_ ?_
 refine qy zK ?_ ?_
 refine qF ?_ ?_
 exact qd 0 (QK.vis 0 rfl) (by decide)
 exact qe
 refine qF ?_ ?_
 exact qd 1 (QK.vis 1 rfl) (by decide)
 exact qe
 refine qy zK ?_ ?_
 refine qF ?_ ?_
 exact qd 0 (QK.vis 0 rfl) (by decide)
 exact qe
 refine qF ?_ ?_
 exact qd 1 (QK.vis 1 rfl) (by decide)
 exact qe
 refine qb ?_ ?_
 refine qy ZQ ?_ ?_
 refine qy zK ?_ ?_
 refine qF ?_ ?_
 exact qd 0 (QK.vis 0 rfl) (by decide)
 exact qe
 refine qF ?_ ?_
 exact qd 1 (QK.vis 1 rfl) (by decide)
 exact qe
 refine qy zK ?_ ?_
 refine qF ?_ ?_
 exact qd 0 (QK.vis 0 rfl) (by decide)
 exact qe
 refine qF ?_ ?_
 exact qd 1 (QK.vis 1 rfl) (by decide)
 exact qe
 exact qg
abbrev T26:Stmt:=top 11
abbrev Yp:List Str:=["square"]
theorem WT:ScOk Yp ["square"] [] (qm T26):=scmk (by kernel_rfl)
def YH:Rho->Option Out:=(sRet (ev2 (zG 1 (evI (vr 0) seqD) tT (ev2 (vr 1) (kd (.int 2)) modD)) (kd (.int 0)) ZX))
def zW (ds:List PyData):Option PyData:=ob (YH (rho0 Yp.length ds)) outD
theorem qff (F:Fun K "axis_of" "axis_of" T26 f fd)(m:mg "axis_of" = some (.ref f))(b:Binds K fd ["square"] []):Known P w K mg base "axis_of" 1 1 zW:=by
 refine ⟨f,fd,["square"],F.pure (k:=0) (u:=YH) (M':=[]) WT.fs rfl (λ cdv A outer s H E hr G=>?_),m,F.kp,b⟩
 refine qt ?_
 refine qI ?_
 refine qcn hr ?_ ?_
 refine QZ (CompOk.of (k:=1) Yp ["square", "number"] (qm T26) rfl rfl rfl (by decide +kernel)) rfl (by decide +kernel) ?_ (λ _ _ _ _ _ _=>?_) (λ _ _ _ _ _ _=>?_)
 refine zf ?_
 exact qd 0 (WT.vis 0 rfl) (by decide)
 exact Qy
 refine qy Zh ?_ ?_
 exact qd 1 (qz (by decide +kernel)) (by decide)
 exact qe
 exact qe
abbrev T31:Stmt:=top 12
abbrev wM:List Str:=["spot", "axis"]
theorem wL:ScOk wM ["spot", "axis"] ["UNITS", "sorted"] (qm T31):=scmk (by kernel_rfl)
def JC:Rho->Option Out:=(sRet (evA (aC (zG 2 (evI (kd QW) seqD) (tV (ev2 (ev2 (vr 2) (vr 1) ixD) (kd (.int 0)) eqD)) (evC 2 (aC (vr 0) (aC (vr 2) aN)) Qj)) aN) Qg))
def QG (ds:List PyData):Option PyData:=ob (JC (rho0 wM.length ds)) outD
theorem qgC (F:Fun K "around" "around" T31 f fd)(m:mg "around" = some (.ref f))(b:Binds K fd ["spot", "axis"] [])(K_added:Known P w K mg base "added" 2 1 Qj)(z_sorted:mg "sorted" = none)(C_UNITS:J5 K mg "UNITS" QW):Known P w K mg base "around" 2 2 QG:=by
 refine ⟨f,fd,["spot", "axis"],F.pure (k:=1) (u:=JC) (M':=[]) wL.fs rfl (λ cdv A outer s H E hr G=>?_),m,F.kp,b⟩
 refine qt ?_
 refine qI ?_
 refine jh ?_
 refine jM (jH hr) (wL.gl 1 rfl rfl) z_sorted QL ?_
 refine qb ?_ ?_
 refine QZ (CompOk.of (k:=1) wM ["spot", "axis", "unit"] (qm T31) rfl rfl rfl (by decide +kernel)) rfl (by decide +kernel) ?_ (λ _ _ _ _ _ _=>?_) (λ _ _ _ _ _ _=>?_)
 refine zf ?_
 exact Ye C_UNITS (wL.gl 0 rfl rfl)
 refine QV ?_
 refine q8 (d_eq hr) ?_ ?_ (zr _)
 refine qF ?_ ?_
 exact qd 2 (qz (by decide +kernel)) (by decide)
 exact qd 1 (qz (by decide +kernel)) (by decide)
 exact qe
 refine qw K_added hr (by decide) (jt (by decide +kernel)) ?_ rfl
 refine qb ?_ ?_
 exact qd 0 (qz (by decide +kernel)) (by decide)
 refine qb ?_ ?_
 exact qd 2 (qz (by decide +kernel)) (by decide)
 exact qg
 exact qg
abbrev T21:Stmt:=top 13
abbrev wN:List Str:=["square"]
theorem jb:ScOk wN ["square"] ["axis_of", "around"] (qm T21):=scmk (by kernel_rfl)
def yr:Rho->Option Out:=(sRet (evC 2 (aC (vr 0) (aC (evC 1 (aC (vr 0) aN) zW) aN)) QG))
def ZF (ds:List PyData):Option PyData:=ob (yr (rho0 wN.length ds)) outD
theorem qdl (F:Fun K "edges_of" "edges_of" T21 f fd)(m:mg "edges_of" = some (.ref f))(b:Binds K fd ["square"] [])(K_around:Known P w K mg base "around" 2 2 QG)(K_axis_of:Known P w K mg base "axis_of" 1 1 zW):Known P w K mg base "edges_of" 1 3 ZF:=by
 refine ⟨f,fd,["square"],F.pure (k:=2) (u:=yr) (M':=[]) jb.fs rfl (λ cdv A outer s H E hr G=>?_),m,F.kp,b⟩
 refine qt ?_
 refine qI ?_
 refine qw K_around hr (by decide) (jb.gl 1 rfl rfl) ?_ rfl
 refine qb ?_ ?_
 exact qd 0 (jb.vis 0 rfl) (by decide)
 refine qb ?_ ?_
 refine qw K_axis_of hr (by decide) (jb.gl 0 rfl rfl) ?_ rfl
 refine qb ?_ ?_
 exact qd 0 (jb.vis 0 rfl) (by decide)
 exact qg
 exact qg
abbrev T6:Stmt:=top 14
abbrev jU:List Str:=["edge"]
theorem Z1:ScOk jU ["edge"] ["around"] (qm T6):=scmk (by kernel_rfl)
def Ja:Rho->Option Out:=(sRet (evC 2 (aC (vr 0) (aC (ev2 (zG 1 (evI (vr 0) seqD) tT (ev2 (vr 1) (kd (.int 2)) modD)) (kd (.int 1)) ZX) aN)) QG))
def QR (ds:List PyData):Option PyData:=ob (Ja (rho0 jU.length ds)) outD
theorem qa8 (F:Fun K "squares_at" "squares_at" T6 f fd)(m:mg "squares_at" = some (.ref f))(b:Binds K fd ["edge"] [])(K_around:Known P w K mg base "around" 2 2 QG):Known P w K mg base "squares_at" 1 3 QR:=by
 refine ⟨f,fd,["edge"],F.pure (k:=2) (u:=Ja) (M':=[]) Z1.fs rfl (λ cdv A outer s H E hr G=>?_),m,F.kp,b⟩
 refine qt ?_
 refine qI ?_
 refine qw K_around hr (by decide) (Z1.gl 0 rfl rfl) ?_ rfl
 refine qb ?_ ?_
 exact qd 0 (Z1.vis 0 rfl) (by decide)
 refine qb ?_ ?_
 refine qcn hr ?_ ?_
 refine QZ (CompOk.of (k:=1) jU ["edge", "number"] (qm T6) rfl rfl rfl (by decide +kernel)) rfl (by decide +kernel) ?_ (λ _ _ _ _ _ _=>?_) (λ _ _ _ _ _ _=>?_)
 refine zf ?_
 exact qd 0 (Z1.vis 0 rfl) (by decide)
 exact Qy
 refine qy Zh ?_ ?_
 exact qd 1 (qz (by decide +kernel)) (by decide)
 exact qe
 exact qe
 exact qg
abbrev T16:Stmt:=top 15
abbrev YX:List Str:=["cube"]
theorem jm:ScOk YX ["cube"] [] (qm T16):=scmk (by kernel_rfl)
def JF:Rho->Option Out:=(sRet (evA (aC (ev2 (ev2 (kd (.int 2)) (ev2 (vr 0) (kd (.int 0)) ixD) mulD) (kd (.int 1)) qJ) (aC (ev2 (ev2 (kd (.int 2)) (ev2 (vr 0) (kd (.int 1)) ixD) mulD) (kd (.int 1)) qJ) (aC (ev2 (ev2 (kd (.int 2)) (ev2 (vr 0) (kd (.int 2)) ixD) mulD) (kd (.int 1)) qJ) aN))) tupD))
def Qk (ds:List PyData):Option PyData:=ob (JF (rho0 YX.length ds)) outD
theorem qb3 (F:Fun K "middle_of" "middle_of" T16 f fd)(m:mg "middle_of" = some (.ref f))(b:Binds K fd ["cube"] []):Known P w K mg base "middle_of" 1 1 Qk:=by
 refine ⟨f,fd,["cube"],F.pure (k:=0) (u:=JF) (M':=[]) jm.fs rfl (λ cdv A outer s H E hr G=>?_),m,F.kp,b⟩
 refine qt ?_
 refine qI ?_
 refine zH ?_
 refine qb ?_ ?_
 refine qy zx ?_ ?_
 refine qy zK ?_ ?_
 exact qe
 refine qF ?_ ?_
 exact qd 0 (jm.vis 0 rfl) (by decide)
 exact qe
 exact qe
 refine qb ?_ ?_
 refine qy zx ?_ ?_
 refine qy zK ?_ ?_
 exact qe
 refine qF ?_ ?_
 exact qd 0 (jm.vis 0 rfl) (by decide)
 exact qe
 exact qe
 refine qb ?_ ?_
 refine qy zx ?_ ?_
 refine qy zK ?_ ?_
 exact qe
 refine qF ?_ ?_
 exact qd 0 (jm.vis 0 rfl) (by decide)
 exact qe
 exact qe
 exact qg
abbrev T27:Stmt:=top 16
abbrev WY:List Str:=["spot"]
theorem JG:ScOk WY ["spot"] [] (qm T27):=scmk (by kernel_rfl)
def jN:Rho->Option Out:=(sRet (evA (aC (ev2 (ev2 (vr 0) (kd (.int 0)) ixD) (kd (.int 2)) QT) (aC (ev2 (ev2 (vr 0) (kd (.int 1)) ixD) (kd (.int 2)) QT) (aC (ev2 (ev2 (vr 0) (kd (.int 2)) ixD) (kd (.int 2)) QT) aN))) tupD))
def ZD (ds:List PyData):Option PyData:=ob (jN (rho0 WY.length ds)) outD
theorem qfh (F:Fun K "cube_of" "cube_of" T27 f fd)(m:mg "cube_of" = some (.ref f))(b:Binds K fd ["spot"] []):Known P w K mg base "cube_of" 1 1 ZD:=by
 refine ⟨f,fd,["spot"],F.pure (k:=0) (u:=jN) (M':=[]) JG.fs rfl (λ cdv A outer s H E hr G=>?_),m,F.kp,b⟩
 refine qt ?_
 refine qI ?_
 refine zH ?_
 refine qb ?_ ?_
 refine qy je ?_ ?_
 refine qF ?_ ?_
 exact qd 0 (JG.vis 0 rfl) (by decide)
 exact qe
 exact qe
 refine qb ?_ ?_
 refine qy je ?_ ?_
 refine qF ?_ ?_
 exact qd 0 (JG.vis 0 rfl) (by decide)
 exact qe
 exact qe
 refine qb ?_ ?_
 refine qy je ?_ ?_
 refine qF ?_ ?_
 exact qd 0 (JG.vis 0 rfl) (by decide)
 exact qe
 exact qe
 exact qg
abbrev T22:Stmt:=top 17
abbrev jd:List Str:=["square", "axis", "lower"]
theorem zY:ScOk jd ["square"] ["axis_of", "enumerate", "cube_of"] (qm T22):=scmk (by kernel_rfl)
def jl:Rho->Option Out:=(seqO (sSet 1 (evC 1 (aC (vr 0) aN) zW)) (seqO (qY 2 (Jj 3 2 (evI (vr 0) W8) (unpD 2 (gsC (gNm 3) (gsC (gNm 4) gsN))) tT (vIf (tV (ev2 (vr 3) (vr 1) eqD)) (ev2 (vr 4) (kd (.int 1)) subD) (vr 4)))) (sRet (evA (aC (evC 1 (aC (vr 2) aN) ZD) (aC (evC 1 (aC (vr 0) aN) ZD) aN)) tupD))))
def Q4 (ds:List PyData):Option PyData:=ob (jl (rho0 jd.length ds)) outD
theorem qdk (F:Fun K "cubes_at" "cubes_at" T22 f fd)(m:mg "cubes_at" = some (.ref f))(b:Binds K fd ["square"] [])(K_axis_of:Known P w K mg base "axis_of" 1 1 zW)(K_cube_of:Known P w K mg base "cube_of" 1 1 ZD)(z_enumerate:mg "enumerate" = none):Known P w K mg base "cubes_at" 1 2 Q4:=by
 refine ⟨f,fd,["square"],F.pure (k:=1) (u:=jl) (M':=[]) zY.fs rfl (λ cdv A outer s H E hr G=>?_),m,F.kp,b⟩
 refine ql (M1:=[]) ?_ ?_
 refine qQ 1 ?_ ?_ ?_ ?_ ?_ ?_ ?_
 ·exact zY.fs.nd
 ·exact (zY.loc 1 rfl)
 ·rfl
 ·rfl
 ·exact .inl rfl
 ·decide
 refine qw K_axis_of hr (by decide) (zY.gl 0 rfl rfl) ?_ rfl
 refine qb ?_ ?_
 exact qd 0 (zY.vis 0 rfl) (by decide)
 exact qg
 refine ql (M1:=[2]) ?_ ?_
 refine qar 2 (CompOk.of (k:=2) jd ["square", "axis", "lower", "k", "number"] (qm T22) rfl rfl rfl (by decide +kernel)) (qed (JQ (jF (by decide)) (JQ (jF (by decide)) qbS))) (qm T22) rfl (by decide +kernel) (by decide) (by decide) ?_ (λ _ _ _ _ _ _=>qcp rfl (j4 (JW (i:=3) (CompOk.of (k:=2) jd ["square", "axis", "lower", "k", "number"] (qm T22) rfl rfl rfl (by decide +kernel)) rfl (by decide +kernel) _ _ _ _ _ _) (j4 (JW (i:=4) (CompOk.of (k:=2) jd ["square", "axis", "lower", "k", "number"] (qm T22) rfl rfl rfl (by decide +kernel)) rfl (by decide +kernel) _ _ _ _ _ _) qaq))) (λ _ _ _ _ _ _=>?_) (λ _ _ _ _ _ _=>?_)
 refine qcq (zY.gl 1 rfl rfl) z_enumerate ?_
 exact qd 0 (zY.vis 0 rfl) (by decide)
 exact Qy
 refine Wq ?_ ?_ ?_
 refine q8 (d_eq hr) ?_ ?_ (zr _)
 exact qd 3 (qz (by decide +kernel)) (by decide)
 exact qd 1 (qz (by decide +kernel)) (by decide)
 refine qy ZQ ?_ ?_
 exact qd 4 (qz (by decide +kernel)) (by decide)
 exact qe
 exact qd 4 (qz (by decide +kernel)) (by decide)
 refine qt ?_
 refine qI ?_
 refine zH ?_
 refine qb ?_ ?_
 refine qw K_cube_of hr (by decide) (zY.gl 2 rfl rfl) ?_ rfl
 refine qb ?_ ?_
 exact qd 2 (zY.vis 2 rfl) (by decide)
 exact qg
 refine qb ?_ ?_
 refine qw K_cube_of hr (by decide) (zY.gl 2 rfl rfl) ?_ rfl
 refine qb ?_ ?_
 exact qd 0 (zY.vis 0 rfl) (by decide)
 exact qg
 exact qg
abbrev T28:Stmt:=top 18
abbrev Ys:List Str:=["cubes", "counts", "cube", "unit", "square"]
theorem za:ScOk Ys ["cubes"] ["middle_of", "added", "UNITS", "sorted"] (qm T28):=scmk (by kernel_rfl)
def YM:Rho->Option Out:=(seqO (qY 1 (kd (.dict []))) (seqO (sFor (evI (vr 0) seqD) (gNm 2) (sFor (evI (kd QW) seqD) (gNm 3) (seqO (sSet 4 (evC 2 (aC (evC 1 (aC (vr 2) aN) Qk) (aC (vr 3) aN)) Qj)) (Yk 1 (vr 4) (qP (ev2 (ev3 (vr 1) (vr 4) (kd (.int 0)) Jm) (kd (.int 1)) qJ)))))) (sRet (evA (aC (zG 5 (evI (vr 1) Jc) (tV (ev2 (ev2 (vr 1) (vr 5) ix2D) (kd (.int 1)) eqD)) (vr 5)) aN) Qg))))
def zE (ds:List PyData):Option PyData:=ob (YM (rho0 Ys.length ds)) outD
theorem qfk (F:Fun K "skin_of" "skin_of" T28 f fd)(m:mg "skin_of" = some (.ref f))(b:Binds K fd ["cubes"] [])(K_added:Known P w K mg base "added" 2 1 Qj)(K_middle_of:Known P w K mg base "middle_of" 1 1 Qk)(z_sorted:mg "sorted" = none)(C_UNITS:J5 K mg "UNITS" QW):Known P w K mg base "skin_of" 1 2 zE:=by
 refine ⟨f,fd,["cubes"],F.pure (k:=1) (u:=YM) (M':=[]) za.fs rfl (λ cdv A outer s H E hr G=>?_),m,F.kp,b⟩
 refine ql (M1:=[1]) ?_ ?_
 refine Qx 1 ?_ ?_ ?_ ?_ ?_ ?_ ?_ ?_
 ·exact za.fs.nd
 ·exact (za.loc 1 rfl)
 ·rfl
 ·rfl
 ·exact .inl rfl
 ·decide
 ·decide
 exact Wv
 refine ql (M1:=[1]) ?_ ?_
 refine Qo PassesOwn.never rfl ?_ (λ _=>?_) (λ _=>?_)
 refine zf ?_
 exact qd 0 (za.vis 0 rfl) (by decide)
 exact zg 2 za.fs.nd (za.loc 2 rfl) (by decide)
 refine qt ?_
 refine Qo PassesOwn.never rfl ?_ (λ _=>?_) (λ _=>?_)
 refine zf ?_
 exact Ye C_UNITS (za.gl 2 rfl rfl)
 exact zg 3 za.fs.nd (za.loc 3 rfl) (by decide)
 refine ql (M1:=[1]) ?_ ?_
 refine qQ 4 ?_ ?_ ?_ ?_ ?_ ?_ ?_
 ·exact za.fs.nd
 ·exact (za.loc 4 rfl)
 ·rfl
 ·rfl
 ·exact .inl rfl
 ·decide
 refine qw K_added hr (by decide) (za.gl 1 rfl rfl) ?_ rfl
 refine qb ?_ ?_
 refine qw K_middle_of hr (by decide) (za.gl 0 rfl rfl) ?_ rfl
 refine qb ?_ ?_
 exact qd 2 (za.vis 2 rfl) (by decide)
 exact qg
 refine qb ?_ ?_
 exact qd 3 (za.vis 3 rfl) (by decide)
 exact qg
 refine qt ?_
 refine qas hr 1 (za.vis 1 rfl) (by decide) (by decide) ?_ ?_
 exact qd 4 (za.vis 4 rfl) (by decide)
 refine qy zx ?_ ?_
 refine qeu hr ?_ ?_ ?_
 exact qd 1 (za.vis 1 rfl) (by decide)
 exact qd 4 (za.vis 4 rfl) (by decide)
 exact qe
 exact qe
 refine qt ?_
 refine qI ?_
 refine jh ?_
 refine jM (jH hr) (za.gl 3 rfl rfl) z_sorted QL ?_
 refine qb ?_ ?_
 refine QZ (CompOk.of (k:=1) Ys ["cubes", "counts", "cube", "unit", "", "square"] (qm T28) rfl rfl rfl (by decide +kernel)) rfl (by decide +kernel) ?_ (λ _ _ _ _ _ _=>?_) (λ _ _ _ _ _ _=>?_)
 refine Jt ?_
 exact qd 1 (za.vis 1 rfl) (by decide)
 refine QV ?_
 refine q8 (d_eq hr) ?_ ?_ (zr _)
 refine YC hr ?_ ?_
 exact qd 1 (qz (by decide +kernel)) (by decide)
 exact qd 5 (qz (by decide +kernel)) (by decide)
 exact qe
 exact qd 5 (qz (by decide +kernel)) (by decide)
 exact qg
abbrev T4:Stmt:=top 19
abbrev J0:List Str:=["squares", "counts", "square", "edge"]
theorem qU:ScOk J0 ["squares"] ["edges_of"] (qm T4):=scmk (by kernel_rfl)
def jz:Rho->Option Out:=(seqO (qY 1 (kd (.dict []))) (seqO (sFor (evI (vr 0) seqD) (gNm 2) (sFor (evI (evC 1 (aC (vr 2) aN) ZF) seqD) (gNm 3) (Yk 1 (vr 3) (qP (ev2 (ev3 (vr 1) (vr 3) (kd (.int 0)) Jm) (kd (.int 1)) qJ))))) (sRet (vr 1))))
def Qm (ds:List PyData):Option PyData:=ob (jz (rho0 J0.length ds)) outD
theorem WP (F:Fun K "edge_counts" "edge_counts" T4 f fd)(m:mg "edge_counts" = some (.ref f))(b:Binds K fd ["squares"] [])(K_edges_of:Known P w K mg base "edges_of" 1 3 ZF):Known P w K mg base "edge_counts" 1 4 Qm:=by
 refine ⟨f,fd,["squares"],F.pure (k:=3) (u:=jz) (M':=[]) qU.fs rfl (λ cdv A outer s H E hr G=>?_),m,F.kp,b⟩
 refine ql (M1:=[1]) ?_ ?_
 refine Qx 1 ?_ ?_ ?_ ?_ ?_ ?_ ?_ ?_
 ·exact qU.fs.nd
 ·exact (qU.loc 1 rfl)
 ·rfl
 ·rfl
 ·exact .inl rfl
 ·decide
 ·decide
 exact Wv
 refine ql (M1:=[1]) ?_ ?_
 refine Qo PassesOwn.never rfl ?_ (λ _=>?_) (λ _=>?_)
 refine zf ?_
 exact qd 0 (qU.vis 0 rfl) (by decide)
 exact zg 2 qU.fs.nd (qU.loc 2 rfl) (by decide)
 refine qt ?_
 refine Qo PassesOwn.never rfl ?_ (λ _=>?_) (λ _=>?_)
 refine zf ?_
 refine qw K_edges_of hr (by decide) (qU.gl 0 rfl rfl) ?_ rfl
 refine qb ?_ ?_
 exact qd 2 (qU.vis 2 rfl) (by decide)
 exact qg
 exact zg 3 qU.fs.nd (qU.loc 3 rfl) (by decide)
 refine qt ?_
 refine qas hr 1 (qU.vis 1 rfl) (by decide) (by decide) ?_ ?_
 exact qd 3 (qU.vis 3 rfl) (by decide)
 refine qy zx ?_ ?_
 refine qeu hr ?_ ?_ ?_
 exact qd 1 (qU.vis 1 rfl) (by decide)
 exact qd 3 (qU.vis 3 rfl) (by decide)
 exact qe
 exact qe
 refine qt ?_
 refine qI ?_
 exact qd 1 (qU.vis 1 rfl) (by decide)
abbrev T2:Stmt:=top 21
abbrev Jf:List Str:=["solid", "square", "pair", "within"]
theorem qM:ScOk Jf ["solid", "square"] ["cubes_at", "middle_of", "negated", "added"] (qm T2):=scmk (by kernel_rfl)
def Zx:Rho->Option Out:=(seqO (sSet 2 (evC 1 (aC (vr 1) aN) Q4)) (seqO (sSet 3 (vIf (tV (ev2 (ev2 (vr 2) (kd (.int 0)) ixD) (vr 0) inD)) (ev2 (vr 2) (kd (.int 0)) ixD) (ev2 (vr 2) (kd (.int 1)) ixD))) (sRet (evC 2 (aC (vr 1) (aC (evC 1 (aC (evC 1 (aC (vr 3) aN) Qk) aN) Za) aN)) Qj))))
def zN (ds:List PyData):Option PyData:=ob (Zx (rho0 Jf.length ds)) outD
theorem Wj (F:Fun K "outward_from" "outward_from" T2 f fd)(m:mg "outward_from" = some (.ref f))(b:Binds K fd ["solid", "square"] [])(K_cubes_at:Known P w K mg base "cubes_at" 1 2 Q4)(K_added:Known P w K mg base "added" 2 1 Qj)(K_negated:Known P w K mg base "negated" 1 1 Za)(K_middle_of:Known P w K mg base "middle_of" 1 1 Qk):Known P w K mg base "outward_from" 2 3 zN:=by
 refine ⟨f,fd,["solid", "square"],F.pure (k:=2) (u:=Zx) (M':=[]) qM.fs rfl (λ cdv A outer s H E hr G=>?_),m,F.kp,b⟩
 refine ql (M1:=[]) ?_ ?_
 refine qQ 2 ?_ ?_ ?_ ?_ ?_ ?_ ?_
 ·exact qM.fs.nd
 ·exact (qM.loc 2 rfl)
 ·rfl
 ·rfl
 ·exact .inl rfl
 ·decide
 refine qw K_cubes_at hr (by decide) (qM.gl 0 rfl rfl) ?_ rfl
 refine qb ?_ ?_
 exact qd 1 (qM.vis 1 rfl) (by decide)
 exact qg
 refine ql (M1:=[]) ?_ ?_
 refine qQ 3 ?_ ?_ ?_ ?_ ?_ ?_ ?_
 ·exact qM.fs.nd
 ·exact (qM.loc 3 rfl)
 ·rfl
 ·rfl
 ·exact .inl rfl
 ·decide
 refine Wq ?_ ?_ ?_
 refine q8 (d_in hr) ?_ ?_ rfl
 refine qF ?_ ?_
 exact qd 2 (qM.vis 2 rfl) (by decide)
 exact qe
 exact qd 0 (qM.vis 0 rfl) (by decide)
 refine qF ?_ ?_
 exact qd 2 (qM.vis 2 rfl) (by decide)
 exact qe
 refine qF ?_ ?_
 exact qd 2 (qM.vis 2 rfl) (by decide)
 exact qe
 refine qt ?_
 refine qI ?_
 refine qw K_added hr (by decide) (qM.gl 3 rfl rfl) ?_ rfl
 refine qb ?_ ?_
 exact qd 1 (qM.vis 1 rfl) (by decide)
 refine qb ?_ ?_
 refine qw K_negated hr (by decide) (qM.gl 2 rfl rfl) ?_ rfl
 refine qb ?_ ?_
 refine qw K_middle_of hr (by decide) (qM.gl 1 rfl rfl) ?_ rfl
 refine qb ?_ ?_
 exact qd 3 (qM.vis 3 rfl) (by decide)
 exact qg
 exact qg
 exact qg
abbrev T29:Stmt:=top 24
abbrev Yq:List Str:=["solid", "counts"]
theorem Q6:ScOk Yq ["solid"] ["skin_of", "edge_counts", "min"] (qm T29):=scmk (by kernel_rfl)
def YJ:Rho->Option Out:=(seqO (sSet 1 (evC 1 (aC (evC 1 (aC (vr 0) aN) zE) aN) Qm)) (sRet (ev2 (zG 2 (evI (vr 1) Jc) (tV (ev2 (ev2 (vr 1) (vr 2) ix2D) (kd yJ) eqD)) (vr 2)) (kd .none) qeo)))
def jC (ds:List PyData):Option PyData:=ob (YJ (rho0 Yq.length ds)) outD
theorem qfg (F:Fun K "crowded" "crowded" T29 f fd)(m:mg "crowded" = some (.ref f))(b:Binds K fd ["solid"] [])(K_edge_counts:Known P w K mg base "edge_counts" 1 4 Qm)(K_skin_of:Known P w K mg base "skin_of" 1 2 zE)(z_min:mg "min" = none)(C_CROWD:J5 K mg "CROWD" yJ):Known P w K mg base "crowded" 1 5 jC:=by
 refine ⟨f,fd,["solid"],F.pure (k:=4) (u:=YJ) (M':=[]) Q6.fs rfl (λ cdv A outer s H E hr G=>?_),m,F.kp,b⟩
 refine ql (M1:=[]) ?_ ?_
 refine qQ 1 ?_ ?_ ?_ ?_ ?_ ?_ ?_
 ·exact Q6.fs.nd
 ·exact (Q6.loc 1 rfl)
 ·rfl
 ·rfl
 ·exact .inl rfl
 ·decide
 refine qw K_edge_counts hr (by decide) (Q6.gl 1 rfl rfl) ?_ rfl
 refine qb ?_ ?_
 refine qw K_skin_of hr (by decide) (Q6.gl 0 rfl rfl) ?_ rfl
 refine qb ?_ ?_
 exact qd 0 (Q6.vis 0 rfl) (by decide)
 exact qg
 exact qg
 refine qt ?_
 refine qI ?_
 refine qft (qjK hr) (Q6.gl 2 rfl rfl) z_min qeT ?_ ?_
 refine QZ (CompOk.of (k:=1) Yq ["solid", "counts", "edge"] (qm T29) rfl rfl rfl (by decide +kernel)) rfl (by decide +kernel) ?_ (λ _ _ _ _ _ _=>?_) (λ _ _ _ _ _ _=>?_)
 refine Jt ?_
 exact qd 1 (Q6.vis 1 rfl) (by decide)
 refine QV ?_
 refine q8 (d_eq hr) ?_ ?_ (zr _)
 refine YC hr ?_ ?_
 exact qd 1 (qz (by decide +kernel)) (by decide)
 exact qd 2 (qz (by decide +kernel)) (by decide)
 exact Ye C_CROWD (jt (by decide +kernel))
 exact qd 2 (qz (by decide +kernel)) (by decide)
 exact qg4
abbrev T17:Stmt:=top 26
abbrev YW:List Str:=["solid", "square", "edge", "other", "beyond"]
theorem zb:ScOk YW ["solid", "square", "edge", "other"] ["negated", "added", "outward_from"] (qm T17):=scmk (by kernel_rfl)
def JD:Rho->Option Out:=(seqO (sSet 4 (evC 2 (aC (vr 3) (aC (evC 1 (aC (vr 2) aN) Za) aN)) Qj)) (seqO (sIf (tV (ev2 (vr 4) (evC 2 (aC (vr 2) (aC (evC 1 (aC (vr 1) aN) Za) aN)) Qj) eqD)) (sRet (kd (.int 0))) sN) (sRet (vIf (tV (ev2 (vr 4) (evC 2 (aC (vr 0) (aC (vr 1) aN)) zN) eqD)) (kd (.int 1)) (ev1 (kd (.int 1)) negD)))))
def Q9 (ds:List PyData):Option PyData:=ob (JD (rho0 YW.length ds)) outD
theorem qb2 (F:Fun K "bend_over" "bend_over" T17 f fd)(m:mg "bend_over" = some (.ref f))(b:Binds K fd ["solid", "square", "edge", "other"] [])(K_added:Known P w K mg base "added" 2 1 Qj)(K_negated:Known P w K mg base "negated" 1 1 Za)(K_outward_from:Known P w K mg base "outward_from" 2 3 zN):Known P w K mg base "bend_over" 4 4 Q9:=by
 refine ⟨f,fd,["solid", "square", "edge", "other"],F.pure (k:=3) (u:=JD) (M':=[]) zb.fs rfl (λ cdv A outer s H E hr G=>?_),m,F.kp,b⟩
 refine ql (M1:=[]) ?_ ?_
 refine qQ 4 ?_ ?_ ?_ ?_ ?_ ?_ ?_
 ·exact zb.fs.nd
 ·exact (zb.loc 4 rfl)
 ·rfl
 ·rfl
 ·exact .inl rfl
 ·decide
 refine qw K_added hr (by decide) (zb.gl 1 rfl rfl) ?_ rfl
 refine qb ?_ ?_
 exact qd 3 (zb.vis 3 rfl) (by decide)
 refine qb ?_ ?_
 refine qw K_negated hr (by decide) (zb.gl 0 rfl rfl) ?_ rfl
 refine qb ?_ ?_
 exact qd 2 (zb.vis 2 rfl) (by decide)
 exact qg
 exact qg
 refine ql (M1:=[]) ?_ ?_
 refine Qf ?_ ?_ ?_
 refine q8 (d_eq hr) ?_ ?_ (zr _)
 exact qd 4 (zb.vis 4 rfl) (by decide)
 refine qw K_added hr (by decide) (zb.gl 1 rfl rfl) ?_ rfl
 refine qb ?_ ?_
 exact qd 2 (zb.vis 2 rfl) (by decide)
 refine qb ?_ ?_
 refine qw K_negated hr (by decide) (zb.gl 0 rfl rfl) ?_ rfl
 refine qb ?_ ?_
 exact qd 1 (zb.vis 1 rfl) (by decide)
 exact qg
 exact qg
 refine qt ?_
 refine qI ?_
 exact qe
 exact zM
 refine qt ?_
 refine qI ?_
 refine Wq ?_ ?_ ?_
 refine q8 (d_eq hr) ?_ ?_ (zr _)
 exact qd 4 (zb.vis 4 rfl) (by decide)
 refine qw K_outward_from hr (by decide) (zb.gl 2 rfl rfl) ?_ rfl
 refine qb ?_ ?_
 exact qd 0 (zb.vis 0 rfl) (by decide)
 refine qb ?_ ?_
 exact qd 1 (zb.vis 1 rfl) (by decide)
 exact qg
 exact qe
 refine Js Jk ?_
 exact qe
abbrev T30:Stmt:=top 27
abbrev Yr:List Str:=["solid", "i", "square", "out", "axis", "right"]
theorem qW:ScOk Yr ["solid", "i"] ["skin_of", "outward_from", "axis_of", "UNITS", "max", "cross"] (qm T30):=scmk (by kernel_rfl)
def YL:Rho->Option Out:=(seqO (sSet 2 (ev2 (evC 1 (aC (vr 0) aN) zE) (vr 1) ixD)) (seqO (sSet 3 (evC 2 (aC (vr 0) (aC (vr 2) aN)) zN)) (seqO (sSet 4 (evC 1 (aC (vr 2) aN) zW)) (seqO (sSet 5 (evA (aC (zG 6 (evI (kd QW) seqD) (tV (ev2 (ev2 (vr 6) (vr 4) ixD) (kd (.int 0)) eqD)) (vr 6)) aN) Wm)) (sRet (evA (aC (vr 2) (aC (vr 5) (aC (evC 2 (aC (vr 3) (aC (vr 5) aN)) wF) aN))) tupD))))))
def Z7 (ds:List PyData):Option PyData:=ob (YL (rho0 Yr.length ds)) outD
theorem qfj (F:Fun K "pose_on" "pose_on" T30 f fd)(m:mg "pose_on" = some (.ref f))(b:Binds K fd ["solid", "i"] [])(K_skin_of:Known P w K mg base "skin_of" 1 2 zE)(K_outward_from:Known P w K mg base "outward_from" 2 3 zN)(K_axis_of:Known P w K mg base "axis_of" 1 1 zW)(K_cross:Known P w K mg base "cross" 2 1 wF)(z_max:mg "max" = none)(C_UNITS:J5 K mg "UNITS" QW):Known P w K mg base "pose_on" 2 4 Z7:=by
 refine ⟨f,fd,["solid", "i"],F.pure (k:=3) (u:=YL) (M':=[]) qW.fs rfl (λ cdv A outer s H E hr G=>?_),m,F.kp,b⟩
 refine ql (M1:=[]) ?_ ?_
 refine qQ 2 ?_ ?_ ?_ ?_ ?_ ?_ ?_
 ·exact qW.fs.nd
 ·exact (qW.loc 2 rfl)
 ·rfl
 ·rfl
 ·exact .inl rfl
 ·decide
 refine qF ?_ ?_
 refine qw K_skin_of hr (by decide) (qW.gl 0 rfl rfl) ?_ rfl
 refine qb ?_ ?_
 exact qd 0 (qW.vis 0 rfl) (by decide)
 exact qg
 exact qd 1 (qW.vis 1 rfl) (by decide)
 refine ql (M1:=[]) ?_ ?_
 refine qQ 3 ?_ ?_ ?_ ?_ ?_ ?_ ?_
 ·exact qW.fs.nd
 ·exact (qW.loc 3 rfl)
 ·rfl
 ·rfl
 ·exact .inl rfl
 ·decide
 refine qw K_outward_from hr (by decide) (qW.gl 1 rfl rfl) ?_ rfl
 refine qb ?_ ?_
 exact qd 0 (qW.vis 0 rfl) (by decide)
 refine qb ?_ ?_
 exact qd 2 (qW.vis 2 rfl) (by decide)
 exact qg
 refine ql (M1:=[]) ?_ ?_
 refine qQ 4 ?_ ?_ ?_ ?_ ?_ ?_ ?_
 ·exact qW.fs.nd
 ·exact (qW.loc 4 rfl)
 ·rfl
 ·rfl
 ·exact .inl rfl
 ·decide
 refine qw K_axis_of hr (by decide) (qW.gl 2 rfl rfl) ?_ rfl
 refine qb ?_ ?_
 exact qd 2 (qW.vis 2 rfl) (by decide)
 exact qg
 refine ql (M1:=[]) ?_ ?_
 refine qQ 5 ?_ ?_ ?_ ?_ ?_ ?_ ?_
 ·exact qW.fs.nd
 ·exact (qW.loc 5 rfl)
 ·rfl
 ·rfl
 ·exact .inl rfl
 ·decide
 refine zQ (qcZ hr) (qW.gl 4 rfl rfl) z_max Yv ?_
 refine qb ?_ ?_
 refine QZ (CompOk.of (k:=1) Yr ["solid", "i", "square", "out", "axis", "right", "unit"] (qm T30) rfl rfl rfl (by decide +kernel)) rfl (by decide +kernel) ?_ (λ _ _ _ _ _ _=>?_) (λ _ _ _ _ _ _=>?_)
 refine zf ?_
 exact Ye C_UNITS (qW.gl 3 rfl rfl)
 refine QV ?_
 refine q8 (d_eq hr) ?_ ?_ (zr _)
 refine qF ?_ ?_
 exact qd 6 (qz (by decide +kernel)) (by decide)
 exact qd 4 (qz (by decide +kernel)) (by decide)
 exact qe
 exact qd 6 (qz (by decide +kernel)) (by decide)
 exact qg
 refine qt ?_
 refine qI ?_
 refine zH ?_
 refine qb ?_ ?_
 exact qd 2 (qW.vis 2 rfl) (by decide)
 refine qb ?_ ?_
 exact qd 5 (qW.vis 5 rfl) (by decide)
 refine qb ?_ ?_
 refine qw K_cross hr (by decide) (qW.gl 5 rfl rfl) ?_ rfl
 refine qb ?_ ?_
 exact qd 3 (qW.vis 3 rfl) (by decide)
 refine qb ?_ ?_
 exact qd 5 (qW.vis 5 rfl) (by decide)
 exact qg
 exact qg
abbrev T3:Stmt:=top 29
abbrev Jd:List Str:=["_law_script", "_law_k"]
theorem Qp:ScOk Jd ["_law_script", "_law_k"] ["len"] (qm T3):=scmk (by kernel_rfl)
def jj:Rho->Option Out:=(seqO (sIf (tV (ev2 (vr 1) (evA (aC (vr 0) aN) lenD) ltD2)) (sRet (ev2 (vr 0) (vr 1) ixD)) sN) (sRet (kd (.int 0))))
def zy (ds:List PyData):Option PyData:=ob (jj (rho0 Jd.length ds)) outD
theorem Wi (F:Fun K "_law_cell_at" "_law_cell_at" T3 f fd)(m:mg "_law_cell_at" = some (.ref f))(b:Binds K fd ["_law_script", "_law_k"] [])(z_len:mg "len" = none):Known P w K mg base "_law_cell_at" 2 1 zy:=by
 refine ⟨f,fd,["_law_script", "_law_k"],F.pure (k:=0) (u:=jj) (M':=[]) Qp.fs rfl (λ cdv A outer s H E hr G=>?_),m,F.kp,b⟩
 refine ql (M1:=[]) ?_ ?_
 refine Qf ?_ ?_ ?_
 refine q8 (qd4 hr) ?_ ?_ (zr _)
 exact qd 1 (Qp.vis 1 rfl) (by decide)
 refine zQ jA (Qp.gl 0 rfl rfl) z_len PySem.boot_len ?_
 refine qb ?_ ?_
 exact qd 0 (Qp.vis 0 rfl) (by decide)
 exact qg
 refine qt ?_
 refine qI ?_
 refine qF ?_ ?_
 exact qd 0 (Qp.vis 0 rfl) (by decide)
 exact qd 1 (Qp.vis 1 rfl) (by decide)
 exact zM
 refine qt ?_
 refine qI ?_
 exact qe
abbrev T7:Stmt:=top 30
abbrev yC:List Str:=["_law_found"]
theorem Qq:ScOk yC ["_law_found"] ["isinstance", "int", "bool"] (qm T7):=scmk (by kernel_rfl)
def Ym:Rho->Option Out:=(sRet (vA (ev1 (vr 0) (isiD "int")) (vN (ev1 (vr 0) (isiD "bool")))))
def Zi (ds:List PyData):Option PyData:=ob (Ym (rho0 yC.length ds)) outD
theorem qa5 (F:Fun K "_law_whole" "_law_whole" T7 f fd)(m:mg "_law_whole" = some (.ref f))(b:Binds K fd ["_law_found"] [])(z_isinstance:mg "isinstance" = none)(z_int:mg "int" = none)(z_bool:mg "bool" = none):Known P w K mg base "_law_whole" 1 1 Zi:=by
 refine ⟨f,fd,["_law_found"],F.pure (k:=0) (u:=Ym) (M':=[]) Qq.fs rfl (λ cdv A outer s H E hr G=>?_),m,F.kp,b⟩
 refine qt ?_
 refine qI ?_
 refine qbg ?_ ?_
 refine Wr (T := "int") (qio _) (Qq.gl 0 rfl rfl) z_isinstance (Qq.gl 1 rfl rfl) z_int rfl rfl ?_
 exact qd 0 (Qq.vis 0 rfl) (by decide)
 refine qdt ?_
 refine qku ?_
 refine Wr (T := "bool") (qgE _) (Qq.gl 0 rfl rfl) z_isinstance (Qq.gl 2 rfl rfl) z_bool rfl rfl ?_
 exact qd 0 (Qq.vis 0 rfl) (by decide)
abbrev T8:Stmt:=top 31
abbrev yz:List Str:=["_law_found", "_law_spot", "_law_number"]
theorem qT:ScOk yz ["_law_found"] ["isinstance", "list", "tuple", "len", "_law_whole"] (qm T8):=scmk (by kernel_rfl)
def j7:Rho->Option Out:=(seqO (sIf (tN (tV (ev1 (vr 0) (isiD "list")))) (sRet (kd (.bool false))) sN) (seqO (sFor (evI (vr 0) seqD) (gNm 1) (seqO (sIf (tO (tN (tV (ev1 (vr 1) (isiD "tuple")))) (tV (ev2 (evA (aC (vr 1) aN) lenD) (kd (.int 3)) neD))) (sRet (kd (.bool false))) sN) (sFor (evI (vr 1) seqD) (gNm 2) (sIf (tN (tV (evC 1 (aC (vr 2) aN) Zi))) (sRet (kd (.bool false))) sN)))) (sRet (kd (.bool true)))))
def Qi (ds:List PyData):Option PyData:=ob (j7 (rho0 yz.length ds)) outD
theorem qa4 (F:Fun K "_law_spots" "_law_spots" T8 f fd)(m:mg "_law_spots" = some (.ref f))(b:Binds K fd ["_law_found"] [])(K__law_whole:Known P w K mg base "_law_whole" 1 1 Zi)(z_isinstance:mg "isinstance" = none)(z_list:mg "list" = none)(z_tuple:mg "tuple" = none)(z_len:mg "len" = none):Known P w K mg base "_law_spots" 1 2 Qi:=by
 refine ⟨f,fd,["_law_found"],F.pure (k:=1) (u:=j7) (M':=[]) qT.fs rfl (λ cdv A outer s H E hr G=>?_),m,F.kp,b⟩
 refine ql (M1:=[]) ?_ ?_
 refine Qf ?_ ?_ ?_
 refine Q0 ?_
 refine Zt ?_
 refine Wr (T := "list") (qgF _) (qT.gl 0 rfl rfl) z_isinstance (qT.gl 1 rfl rfl) z_list rfl rfl ?_
 exact qd 0 (qT.vis 0 rfl) (by decide)
 refine qt ?_
 refine qI ?_
 exact jK
 exact zM
 refine ql (M1:=[]) ?_ ?_
 refine Qo PassesOwn.never rfl ?_ (λ _=>?_) (λ _=>?_)
 refine zf ?_
 exact qd 0 (qT.vis 0 rfl) (by decide)
 exact zg 1 qT.fs.nd (qT.loc 1 rfl) (by decide)
 refine ql (M1:=[]) ?_ ?_
 refine Qf ?_ ?_ ?_
 refine PDW.pdt ?_
 refine YF ?_ ?_
 refine Q0 ?_
 refine Zt ?_
 refine Wr (T := "tuple") (kit_tuple _) (qT.gl 0 rfl rfl) z_isinstance (qT.gl 2 rfl rfl) z_tuple rfl rfl ?_
 exact qd 1 (qT.vis 1 rfl) (by decide)
 refine wH ?_
 refine q8 (d_ne hr) ?_ ?_ (zr _)
 refine zQ jA (qT.gl 3 rfl rfl) z_len PySem.boot_len ?_
 refine qb ?_ ?_
 exact qd 1 (qT.vis 1 rfl) (by decide)
 exact qg
 exact qe
 refine qt ?_
 refine qI ?_
 exact jK
 exact zM
 refine qt ?_
 refine Qo PassesOwn.never rfl ?_ (λ _=>?_) (λ _=>?_)
 refine zf ?_
 exact qd 1 (qT.vis 1 rfl) (by decide)
 exact zg 2 qT.fs.nd (qT.loc 2 rfl) (by decide)
 refine qt ?_
 refine Qf ?_ ?_ ?_
 refine Q0 ?_
 refine Zt ?_
 refine qw K__law_whole hr (by decide) (qT.gl 4 rfl rfl) ?_ rfl
 refine qb ?_ ?_
 exact qd 2 (qT.vis 2 rfl) (by decide)
 exact qg
 refine qt ?_
 refine qI ?_
 exact jK
 exact zM
 refine qt ?_
 refine qI ?_
 exact jK
abbrev T18:Stmt:=top 32
abbrev YS:List Str:=["_law_cells_here", "_law_base_here", "_law_cell"]
theorem zF:ScOk YS ["_law_cells_here"] [] (qm T18):=scmk (by kernel_rfl)
def Jz:Rho->Option Out:=(seqO (qY 1 (evA aN lstD)) (seqO (sFor (evI (vr 0) seqD) (gNm 2) (sIf (tV (ev2 (ev2 (vr 2) (kd (.int 5)) modD) (kd (.int 0)) eqD)) (sApp 1 (ev2 (ev2 (ev2 (vr 2) (kd (.int 5)) QT) (ev2 (ev2 (kd (.int 2)) (ev2 (kd (.int 10)) (kd (.int 19)) powD) mulD) (kd (.int 1)) qJ) modD) (ev2 (kd (.int 10)) (kd (.int 19)) powD) subD)) (sApp 1 (ev2 (ev2 (ev2 (vr 2) (kd (.int 5)) QT) (kd (.int 9)) modD) (kd (.int 4)) subD)))) (sRet (vr 1))))
def Q8 (ds:List PyData):Option PyData:=ob (Jz (rho0 YS.length ds)) outD
theorem qbZ (F:Fun K "_law_base" "_law_base" T18 f fd)(m:mg "_law_base" = some (.ref f))(b:Binds K fd ["_law_cells_here"] []):Known P w K mg base "_law_base" 1 1 Q8:=by
 refine ⟨f,fd,["_law_cells_here"],F.pure (k:=0) (u:=Jz) (M':=[]) zF.fs rfl (λ cdv A outer s H E hr G=>?_),m,F.kp,b⟩
 refine ql (M1:=[1]) ?_ ?_
 refine Qx 1 ?_ ?_ ?_ ?_ ?_ ?_ ?_ ?_
 ·exact zF.fs.nd
 ·exact (zF.loc 1 rfl)
 ·rfl
 ·rfl
 ·exact .inl rfl
 ·decide
 ·decide
 refine j6 ?_
 exact qg
 refine ql (M1:=[1]) ?_ ?_
 refine Qo PassesOwn.never rfl ?_ (λ _=>?_) (λ _=>?_)
 refine zf ?_
 exact qd 0 (zF.vis 0 rfl) (by decide)
 exact zg 2 zF.fs.nd (zF.loc 2 rfl) (by decide)
 refine qt ?_
 refine Qf ?_ ?_ ?_
 refine q8 (d_eq hr) ?_ ?_ (zr _)
 refine qy Zh ?_ ?_
 exact qd 2 (zF.vis 2 rfl) (by decide)
 exact qe
 exact qe
 refine qt ?_
 refine qev 1 (zF.vis 1 rfl) (by decide) (by decide) ?_
 refine qy ZQ ?_ ?_
 refine qy Zh ?_ ?_
 refine qy je ?_ ?_
 exact qd 2 (zF.vis 2 rfl) (by decide)
 exact qe
 refine qy zx ?_ ?_
 refine qy zK ?_ ?_
 exact qe
 refine qy qjn ?_ ?_
 exact qe
 exact qe
 exact qe
 refine qy qjn ?_ ?_
 exact qe
 exact qe
 refine qt ?_
 refine qev 1 (zF.vis 1 rfl) (by decide) (by decide) ?_
 refine qy ZQ ?_ ?_
 refine qy Zh ?_ ?_
 refine qy je ?_ ?_
 exact qd 2 (zF.vis 2 rfl) (by decide)
 exact qe
 exact qe
 exact qe
 refine qt ?_
 refine qI ?_
 exact qd 1 (zF.vis 1 rfl) (by decide)
abbrev T9:Stmt:=top 33
abbrev yx:List Str:=["_law_cells_here", "_law_base_here", "_law_kind", "_law_cubes", "_law_corner", "_law_spot", "_law_k", "_law_cell", "_law_cube", "_law_axis"]
theorem qj:ScOk yx ["_law_cells_here", "_law_base_here", "_law_kind"] ["tuple", "range", "len", "list", "sorted"] (qm T9):=scmk (by kernel_rfl)
def Z6:Rho->Option Out:=(seqO (qY 3 (evA (aC (evA (aC (vr 1) aN) zc) aN) lstD)) (seqO (sIf (tV (ev2 (vr 2) (kd (.int 0)) gtD)) (seqO (qY 3 (evA aN lstD)) (sFor (evI (evA (aC (evA (aC (kd (.int 0)) (aC (kd (.int 0)) (aC (kd (.int 0)) aN))) tupD) (aC (evA (aC (kd (.int 0)) (aC (kd (.int 0)) (aC (kd (.int 1)) aN))) tupD) (aC (evA (aC (kd (.int 1)) (aC (kd (.int 0)) (aC (kd (.int 1)) aN))) tupD) (aC (evA (aC (kd (.int 1)) (aC (kd (.int 1)) (aC (kd (.int 1)) aN))) tupD) (aC (evA (aC (kd (.int 1)) (aC (kd (.int 1)) (aC (kd (.int 0)) aN))) tupD) aN))))) tupD) seqD) (gNm 4) (seqO (qY 5 (evA (aC (ev2 (vr 4) (ev2 (vr 2) (kd (.int 3)) modD) ixD) (aC (ev2 (vr 4) (ev2 (ev2 (vr 2) (kd (.int 1)) qJ) (kd (.int 3)) modD) ixD) (aC (ev2 (vr 4) (ev2 (ev2 (vr 2) (kd (.int 2)) qJ) (kd (.int 3)) modD) ixD) aN))) lstD)) (seqO (sFor (evR (aC (kd (.int 3)) aN) QS) (gNm 6) (sPut 5 (vr 6) (qP (ev2 (ev2 (vr 1) (vr 6) ixD) (ev2 (ev2 (vr 5) (vr 6) ixD) (ev2 (kd (.int 1)) (ev2 (kd (.int 2)) (ev2 (ev2 (vr 2) (ev2 (evA (aC (kd (.int 3)) (aC (kd (.int 6)) (aC (kd (.int 12)) aN))) tupD) (vr 6) ixD) QT) (kd (.int 2)) modD) mulD) subD) mulD) qJ)))) (sApp 3 (qP (evA (aC (vr 5) aN) zc))))))) sN) (seqO (sFor (evI (vr 0) seqD) (gNm 7) (seqO (qY 8 (Wb (evA (aC (ev2 (vr 3) (ev2 (vr 7) (evA (aC (vr 3) aN) lenD) modD) ixD) aN) Zc))) (seqO (sSet 9 (ev2 (ev2 (vr 7) (kd (.int 60)) QT) (kd (.int 3)) modD)) (seqO (sPut 8 (vr 9) (qP (ev2 (ev2 (ev2 (vr 8) (vr 9) ixD) (ev2 (kd (.int 2)) (ev2 (ev2 (vr 7) (kd (.int 180)) QT) (kd (.int 2)) modD) mulD) qJ) (kd (.int 1)) subD))) (sIf (tA (tV (ev2 (evA (aC (vr 3) aN) lenD) (kd (.int 6)) ltD2)) (tV (ev2 (evA (aC (vr 8) aN) zc) (vr 3) ninD))) (sApp 3 (qP (evA (aC (vr 8) aN) zc))) sN))))) (sRet (evA (aC (vr 3) aN) Qg)))))
def zL (ds:List PyData):Option PyData:=ob (Z6 (rho0 yx.length ds)) outD
theorem qa3 (F:Fun K "_law_solid" "_law_solid" T9 f fd)(m:mg "_law_solid" = some (.ref f))(b:Binds K fd ["_law_cells_here", "_law_base_here", "_law_kind"] [])(z_tuple:mg "tuple" = none)(z_range:mg "range" = none)(z_list:mg "list" = none)(z_len:mg "len" = none)(z_sorted:mg "sorted" = none):Known P w K mg base "_law_solid" 3 1 zL:=by
 refine ⟨f,fd,["_law_cells_here", "_law_base_here", "_law_kind"],F.pure (k:=0) (u:=Z6) (M':=[]) qj.fs rfl (λ cdv A outer s H E hr G=>?_),m,F.kp,b⟩
 refine ql (M1:=[3]) ?_ ?_
 refine Qx 3 ?_ ?_ ?_ ?_ ?_ ?_ ?_ ?_
 ·exact qj.fs.nd
 ·exact (qj.loc 3 rfl)
 ·rfl
 ·rfl
 ·exact .inl rfl
 ·decide
 ·decide
 refine j6 ?_
 refine qb ?_ ?_
 refine zP ZM (qj.gl 0 rfl rfl) z_tuple rfl ?_
 refine qb ?_ ?_
 exact qd 1 (qj.vis 1 rfl) (by decide)
 exact qg
 exact qg
 refine ql (M1:=[3]) ?_ ?_
 refine Qf ?_ ?_ ?_
 refine q8 d_gt ?_ ?_ (zr _)
 exact qd 2 (qj.vis 2 rfl) (by decide)
 exact qe
 refine ql (M1:=[3]) ?_ ?_
 refine qfv [] ?_ ?_ ?_
 ·rfl
 ·rfl
 refine Qx 3 ?_ ?_ ?_ ?_ ?_ ?_ ?_ ?_
 ·exact qj.fs.nd
 ·exact (qj.loc 3 rfl)
 ·rfl
 ·rfl
 ·exact .inl rfl
 ·decide
 ·decide
 refine j6 ?_
 exact qg
 refine qt ?_
 refine Qo PassesOwn.never rfl ?_ (λ _=>?_) (λ _=>?_)
 refine zf ?_
 refine zH ?_
 refine qb ?_ ?_
 refine zH ?_
 refine qb ?_ ?_
 exact qe
 refine qb ?_ ?_
 exact qe
 refine qb ?_ ?_
 exact qe
 exact qg
 refine qb ?_ ?_
 refine zH ?_
 refine qb ?_ ?_
 exact qe
 refine qb ?_ ?_
 exact qe
 refine qb ?_ ?_
 exact qe
 exact qg
 refine qb ?_ ?_
 refine zH ?_
 refine qb ?_ ?_
 exact qe
 refine qb ?_ ?_
 exact qe
 refine qb ?_ ?_
 exact qe
 exact qg
 refine qb ?_ ?_
 refine zH ?_
 refine qb ?_ ?_
 exact qe
 refine qb ?_ ?_
 exact qe
 refine qb ?_ ?_
 exact qe
 exact qg
 refine qb ?_ ?_
 refine zH ?_
 refine qb ?_ ?_
 exact qe
 refine qb ?_ ?_
 exact qe
 refine qb ?_ ?_
 exact qe
 exact qg
 exact qg
 exact zg 4 qj.fs.nd (qj.loc 4 rfl) (by decide)
 refine ZS (M':=[5,3]) [3] ?_ ?_ ?_
 refine ql (M1:=[5,3]) ?_ ?_
 refine Qx 5 ?_ ?_ ?_ ?_ ?_ ?_ ?_ ?_
 ·exact qj.fs.nd
 ·exact (qj.loc 5 rfl)
 ·rfl
 ·rfl
 ·exact .inl rfl
 ·decide
 ·decide
 refine j6 ?_
 refine qb ?_ ?_
 refine qF ?_ ?_
 exact qd 4 (qj.vis 4 rfl) (by decide)
 refine qy Zh ?_ ?_
 exact qd 2 (qj.vis 2 rfl) (by decide)
 exact qe
 refine qb ?_ ?_
 refine qF ?_ ?_
 exact qd 4 (qj.vis 4 rfl) (by decide)
 refine qy Zh ?_ ?_
 refine qy zx ?_ ?_
 exact qd 2 (qj.vis 2 rfl) (by decide)
 exact qe
 exact qe
 refine qb ?_ ?_
 refine qF ?_ ?_
 exact qd 4 (qj.vis 4 rfl) (by decide)
 refine qy Zh ?_ ?_
 refine qy zx ?_ ?_
 exact qd 2 (qj.vis 2 rfl) (by decide)
 exact qe
 exact qe
 exact qg
 refine ql (M1:=[5,3]) ?_ ?_
 refine Jv PassesOwn.never rfl ?_ ?_ ?_
 refine j5 (qj.gl 1 rfl rfl) z_range ?_
 refine qb ?_ ?_
 exact qe
 exact qg
 exact zg 6 qj.fs.nd (qj.loc 6 rfl) (by decide)
 refine qt ?_
 refine ZV 5 (qj.vis 5 rfl) (by decide) (by decide) ?_ ?_
 exact qd 6 (qj.vis 6 rfl) (by decide)
 refine qy zx ?_ ?_
 refine qF ?_ ?_
 exact qd 1 (qj.vis 1 rfl) (by decide)
 exact qd 6 (qj.vis 6 rfl) (by decide)
 refine qy zK ?_ ?_
 refine qF ?_ ?_
 exact qd 5 (qj.vis 5 rfl) (by decide)
 exact qd 6 (qj.vis 6 rfl) (by decide)
 refine qy ZQ ?_ ?_
 exact qe
 refine qy zK ?_ ?_
 exact qe
 refine qy Zh ?_ ?_
 refine qy je ?_ ?_
 exact qd 2 (qj.vis 2 rfl) (by decide)
 refine qF ?_ ?_
 refine zH ?_
 refine qb ?_ ?_
 exact qe
 refine qb ?_ ?_
 exact qe
 refine qb ?_ ?_
 exact qe
 exact qg
 exact qd 6 (qj.vis 6 rfl) (by decide)
 exact qe
 refine qt ?_
 refine Ju 3 (qj.vis 3 rfl) (by decide) (by decide) ?_
 refine zP ZM (qj.gl 0 rfl rfl) z_tuple rfl ?_
 refine qb ?_ ?_
 exact qd 5 (qj.vis 5 rfl) (by decide)
 exact qg
 ·rfl
 ·rfl
 exact zM
 refine ql (M1:=[3]) ?_ ?_
 refine Qo PassesOwn.never rfl ?_ (λ _=>?_) (λ _=>?_)
 refine zf ?_
 exact qd 0 (qj.vis 0 rfl) (by decide)
 exact zg 7 qj.fs.nd (qj.loc 7 rfl) (by decide)
 refine ZS (M':=[8,3]) [3] ?_ ?_ ?_
 refine ql (M1:=[8,3]) ?_ ?_
 refine qfy 8 ?_ ?_ ?_ ?_ ?_ ?_ ?_ ?_
 ·exact qj.fs.nd
 ·exact (qj.loc 8 rfl)
 ·rfl
 ·rfl
 ·exact .inl rfl
 ·decide
 ·decide
 refine JV qdq (qj.gl 3 rfl rfl) z_list rfl ?_
 refine qb ?_ ?_
 refine qF ?_ ?_
 exact qd 3 (qj.vis 3 rfl) (by decide)
 refine qy Zh ?_ ?_
 exact qd 7 (qj.vis 7 rfl) (by decide)
 refine zQ jA (qj.gl 2 rfl rfl) z_len PySem.boot_len ?_
 refine qb ?_ ?_
 exact qd 3 (qj.vis 3 rfl) (by decide)
 exact qg
 exact qg
 refine ql (M1:=[8,3]) ?_ ?_
 refine qQ 9 ?_ ?_ ?_ ?_ ?_ ?_ ?_
 ·exact qj.fs.nd
 ·exact (qj.loc 9 rfl)
 ·rfl
 ·rfl
 ·exact .inl rfl
 ·decide
 refine qy Zh ?_ ?_
 refine qy je ?_ ?_
 exact qd 7 (qj.vis 7 rfl) (by decide)
 exact qe
 exact qe
 refine ql (M1:=[8,3]) ?_ ?_
 refine ZV 8 (qj.vis 8 rfl) (by decide) (by decide) ?_ ?_
 exact qd 9 (qj.vis 9 rfl) (by decide)
 refine qy ZQ ?_ ?_
 refine qy zx ?_ ?_
 refine qF ?_ ?_
 exact qd 8 (qj.vis 8 rfl) (by decide)
 exact qd 9 (qj.vis 9 rfl) (by decide)
 refine qy zK ?_ ?_
 exact qe
 refine qy Zh ?_ ?_
 refine qy je ?_ ?_
 exact qd 7 (qj.vis 7 rfl) (by decide)
 exact qe
 exact qe
 exact qe
 refine qt ?_
 refine Qf ?_ ?_ ?_
 refine PDW.pdt ?_
 refine qiM ?_ ?_
 refine q8 (qd4 hr) ?_ ?_ (zr _)
 refine zQ jA (qj.gl 2 rfl rfl) z_len PySem.boot_len ?_
 refine qb ?_ ?_
 exact qd 3 (qj.vis 3 rfl) (by decide)
 exact qg
 exact qe
 refine qg9 ?_
 refine q8 (yK hr) ?_ ?_ rfl
 refine zP ZM (qj.gl 0 rfl rfl) z_tuple rfl ?_
 refine qb ?_ ?_
 exact qd 8 (qj.vis 8 rfl) (by decide)
 exact qg
 exact qd 3 (qj.vis 3 rfl) (by decide)
 refine qt ?_
 refine Ju 3 (qj.vis 3 rfl) (by decide) (by decide) ?_
 refine zP ZM (qj.gl 0 rfl rfl) z_tuple rfl ?_
 refine qb ?_ ?_
 exact qd 8 (qj.vis 8 rfl) (by decide)
 exact qg
 exact zM
 ·rfl
 ·rfl
 refine qt ?_
 refine qI ?_
 refine jh ?_
 refine jM (jH hr) (qj.gl 4 rfl rfl) z_sorted QL ?_
 refine qb ?_ ?_
 exact qd 3 (qj.vis 3 rfl) (by decide)
 exact qg
abbrev T19:Stmt:=top 34
abbrev Je:List Str:=["_law_cubes", "_law_squares", "_law_cube", "_law_axis", "_law_by", "_law_other", "_law_square"]
theorem qH:ScOk Je ["_law_cubes"] ["list", "tuple", "range", "sorted"] (qm T19):=scmk (by kernel_rfl)
def JB:Rho->Option Out:=(seqO (qY 1 (evA aN lstD)) (seqO (sFor (evI (vr 0) seqD) (gNm 2) (sFor (evR (aC (kd (.int 3)) aN) QS) (gNm 3) (sFor (evI (evA (aC (ev1 (kd (.int 1)) negD) (aC (kd (.int 1)) aN)) tupD) seqD) (gNm 4) (seqO (qY 5 (evA (aC (vr 2) aN) Zc)) (seqO (sPut 5 (vr 3) (qP (ev2 (ev2 (vr 5) (vr 3) ixD) (vr 4) qJ))) (sIf (tV (ev2 (evA (aC (vr 5) aN) zc) (vr 0) ninD)) (seqO (qY 6 (zG 7 (evI (vr 2) seqD) tT (ev2 (ev2 (kd (.int 2)) (vr 7) mulD) (kd (.int 1)) qJ))) (seqO (sPut 6 (vr 3) (qP (ev2 (ev2 (vr 6) (vr 3) ixD) (vr 4) qJ))) (sApp 1 (qP (evA (aC (vr 6) aN) zc))))) sN)))))) (sRet (evA (aC (vr 1) aN) Qg))))
def zu (ds:List PyData):Option PyData:=ob (JB (rho0 Je.length ds)) outD
theorem qb1 (F:Fun K "_law_skin" "_law_skin" T19 f fd)(m:mg "_law_skin" = some (.ref f))(b:Binds K fd ["_law_cubes"] [])(z_list:mg "list" = none)(z_tuple:mg "tuple" = none)(z_range:mg "range" = none)(z_sorted:mg "sorted" = none):Known P w K mg base "_law_skin" 1 1 zu:=by
 refine ⟨f,fd,["_law_cubes"],F.pure (k:=0) (u:=JB) (M':=[]) qH.fs rfl (λ cdv A outer s H E hr G=>?_),m,F.kp,b⟩
 refine ql (M1:=[1]) ?_ ?_
 refine Qx 1 ?_ ?_ ?_ ?_ ?_ ?_ ?_ ?_
 ·exact qH.fs.nd
 ·exact (qH.loc 1 rfl)
 ·rfl
 ·rfl
 ·exact .inl rfl
 ·decide
 ·decide
 refine j6 ?_
 exact qg
 refine ql (M1:=[1]) ?_ ?_
 refine Qo PassesOwn.never rfl ?_ (λ _=>?_) (λ _=>?_)
 refine zf ?_
 exact qd 0 (qH.vis 0 rfl) (by decide)
 exact zg 2 qH.fs.nd (qH.loc 2 rfl) (by decide)
 refine qt ?_
 refine Jv PassesOwn.never rfl ?_ ?_ ?_
 refine j5 (qH.gl 2 rfl rfl) z_range ?_
 refine qb ?_ ?_
 exact qe
 exact qg
 exact zg 3 qH.fs.nd (qH.loc 3 rfl) (by decide)
 refine qt ?_
 refine Qo PassesOwn.never rfl ?_ (λ _=>?_) (λ _=>?_)
 refine zf ?_
 refine zH ?_
 refine qb ?_ ?_
 refine Js Jk ?_
 exact qe
 refine qb ?_ ?_
 exact qe
 exact qg
 exact zg 4 qH.fs.nd (qH.loc 4 rfl) (by decide)
 refine ZS (M':=[5,1]) [1] ?_ ?_ ?_
 refine ql (M1:=[5,1]) ?_ ?_
 refine Qx 5 ?_ ?_ ?_ ?_ ?_ ?_ ?_ ?_
 ·exact qH.fs.nd
 ·exact (qH.loc 5 rfl)
 ·rfl
 ·rfl
 ·exact .inl rfl
 ·decide
 ·decide
 refine JV qdq (qH.gl 0 rfl rfl) z_list rfl ?_
 refine qb ?_ ?_
 exact qd 2 (qH.vis 2 rfl) (by decide)
 exact qg
 refine ql (M1:=[5,1]) ?_ ?_
 refine ZV 5 (qH.vis 5 rfl) (by decide) (by decide) ?_ ?_
 exact qd 3 (qH.vis 3 rfl) (by decide)
 refine qy zx ?_ ?_
 refine qF ?_ ?_
 exact qd 5 (qH.vis 5 rfl) (by decide)
 exact qd 3 (qH.vis 3 rfl) (by decide)
 exact qd 4 (qH.vis 4 rfl) (by decide)
 refine qt ?_
 refine Qf ?_ ?_ ?_
 refine q8 (yK hr) ?_ ?_ rfl
 refine zP ZM (qH.gl 1 rfl rfl) z_tuple rfl ?_
 refine qb ?_ ?_
 exact qd 5 (qH.vis 5 rfl) (by decide)
 exact qg
 exact qd 0 (qH.vis 0 rfl) (by decide)
 refine ZS (M':=[6,5,1]) [5,1] ?_ ?_ ?_
 refine ql (M1:=[6,5,1]) ?_ ?_
 refine ZR 6 (CompOk.of (k:=1) Je ["_law_cubes", "_law_squares", "_law_cube", "_law_axis", "_law_by", "_law_other", "_law_square", "_law_number"] (qm T19) rfl rfl rfl (by decide +kernel)) rfl (by decide +kernel) (qm T19) rfl (by decide +kernel) (by decide) (by decide) ?_ (λ _ _ _ _ _ _=>?_) (λ _ _ _ _ _ _=>?_)
 refine zf ?_
 exact qd 2 (qH.vis 2 rfl) (by decide)
 exact Qy
 refine qy zx ?_ ?_
 refine qy zK ?_ ?_
 exact qe
 exact qd 7 (qz (by decide +kernel)) (by decide)
 exact qe
 refine ql (M1:=[6,5,1]) ?_ ?_
 refine ZV 6 (qH.vis 6 rfl) (by decide) (by decide) ?_ ?_
 exact qd 3 (qH.vis 3 rfl) (by decide)
 refine qy zx ?_ ?_
 refine qF ?_ ?_
 exact qd 6 (qH.vis 6 rfl) (by decide)
 exact qd 3 (qH.vis 3 rfl) (by decide)
 exact qd 4 (qH.vis 4 rfl) (by decide)
 refine qt ?_
 refine Ju 1 (qH.vis 1 rfl) (by decide) (by decide) ?_
 refine zP ZM (qH.gl 1 rfl rfl) z_tuple rfl ?_
 refine qb ?_ ?_
 exact qd 6 (qH.vis 6 rfl) (by decide)
 exact qg
 ·rfl
 ·rfl
 exact zM
 ·rfl
 ·rfl
 refine qt ?_
 refine qI ?_
 refine jh ?_
 refine jM (jH hr) (qH.gl 3 rfl rfl) z_sorted QL ?_
 refine qb ?_ ?_
 exact qd 1 (qH.vis 1 rfl) (by decide)
 exact qg
abbrev T20:Stmt:=top 35
abbrev YT:List Str:=["_law_spot", "_law_axes", "_law_found", "_law_axis", "_law_by", "_law_made"]
theorem qL:ScOk YT ["_law_spot", "_law_axes"] ["list", "tuple", "sorted"] (qm T20):=scmk (by kernel_rfl)
def ZW:Rho->Option Out:=(seqO (qY 2 (evA aN lstD)) (seqO (sFor (evI (vr 1) seqD) (gNm 3) (sFor (evI (evA (aC (ev1 (kd (.int 1)) negD) (aC (kd (.int 1)) aN)) tupD) seqD) (gNm 4) (seqO (qY 5 (evA (aC (vr 0) aN) Zc)) (seqO (sPut 5 (vr 3) (qP (ev2 (ev2 (vr 5) (vr 3) ixD) (vr 4) qJ))) (sApp 2 (qP (evA (aC (vr 5) aN) zc))))))) (sRet (evA (aC (vr 2) aN) Qg))))
def zV (ds:List PyData):Option PyData:=ob (ZW (rho0 YT.length ds)) outD
theorem qb0 (F:Fun K "_law_near" "_law_near" T20 f fd)(m:mg "_law_near" = some (.ref f))(b:Binds K fd ["_law_spot", "_law_axes"] [])(z_list:mg "list" = none)(z_tuple:mg "tuple" = none)(z_sorted:mg "sorted" = none):Known P w K mg base "_law_near" 2 1 zV:=by
 refine ⟨f,fd,["_law_spot", "_law_axes"],F.pure (k:=0) (u:=ZW) (M':=[]) qL.fs rfl (λ cdv A outer s H E hr G=>?_),m,F.kp,b⟩
 refine ql (M1:=[2]) ?_ ?_
 refine Qx 2 ?_ ?_ ?_ ?_ ?_ ?_ ?_ ?_
 ·exact qL.fs.nd
 ·exact (qL.loc 2 rfl)
 ·rfl
 ·rfl
 ·exact .inl rfl
 ·decide
 ·decide
 refine j6 ?_
 exact qg
 refine ql (M1:=[2]) ?_ ?_
 refine Qo PassesOwn.never rfl ?_ (λ _=>?_) (λ _=>?_)
 refine zf ?_
 exact qd 1 (qL.vis 1 rfl) (by decide)
 exact zg 3 qL.fs.nd (qL.loc 3 rfl) (by decide)
 refine qt ?_
 refine Qo PassesOwn.never rfl ?_ (λ _=>?_) (λ _=>?_)
 refine zf ?_
 refine zH ?_
 refine qb ?_ ?_
 refine Js Jk ?_
 exact qe
 refine qb ?_ ?_
 exact qe
 exact qg
 exact zg 4 qL.fs.nd (qL.loc 4 rfl) (by decide)
 refine ZS (M':=[5,2]) [2] ?_ ?_ ?_
 refine ql (M1:=[5,2]) ?_ ?_
 refine Qx 5 ?_ ?_ ?_ ?_ ?_ ?_ ?_ ?_
 ·exact qL.fs.nd
 ·exact (qL.loc 5 rfl)
 ·rfl
 ·rfl
 ·exact .inl rfl
 ·decide
 ·decide
 refine JV qdq (qL.gl 0 rfl rfl) z_list rfl ?_
 refine qb ?_ ?_
 exact qd 0 (qL.vis 0 rfl) (by decide)
 exact qg
 refine ql (M1:=[5,2]) ?_ ?_
 refine ZV 5 (qL.vis 5 rfl) (by decide) (by decide) ?_ ?_
 exact qd 3 (qL.vis 3 rfl) (by decide)
 refine qy zx ?_ ?_
 refine qF ?_ ?_
 exact qd 5 (qL.vis 5 rfl) (by decide)
 exact qd 3 (qL.vis 3 rfl) (by decide)
 exact qd 4 (qL.vis 4 rfl) (by decide)
 refine qt ?_
 refine Ju 2 (qL.vis 2 rfl) (by decide) (by decide) ?_
 refine zP ZM (qL.gl 1 rfl rfl) z_tuple rfl ?_
 refine qb ?_ ?_
 exact qd 5 (qL.vis 5 rfl) (by decide)
 exact qg
 ·rfl
 ·rfl
 refine qt ?_
 refine qI ?_
 refine jh ?_
 refine jM (jH hr) (qL.gl 2 rfl rfl) z_sorted QL ?_
 refine qb ?_ ?_
 exact qd 2 (qL.vis 2 rfl) (by decide)
 exact qg
abbrev T23:Stmt:=top 36
abbrev J6:List Str:=["_law_squares", "_law_met_here", "_law_k", "_law_edge"]
theorem qR:ScOk J6 ["_law_squares"] ["range", "_law_near", "len"] (qm T23):=scmk (by kernel_rfl)
def yq:Rho->Option Out:=(seqO (WF 1 (kd (.dict []))) (seqO (sFor (evR (aC (evA (aC (vr 0) aN) lenD) aN) QS) (gNm 2) (sFor (evI (evC 2 (aC (ev2 (vr 0) (vr 2) ixD) (aC (zG 4 (evR (aC (kd (.int 3)) aN) QS) (tV (ev2 (ev2 (ev2 (ev2 (vr 0) (vr 2) ixD) (vr 4) ixD) (kd (.int 2)) modD) (kd (.int 1)) eqD)) (vr 4)) aN)) zV) seqD) (gNm 3) (seqO (sIf (tV (ev2 (vr 3) (vr 1) qam)) (WD 1 (vr 3)) sN) (ym 1 (vr 3) (vr 2))))) (sRet (vr 1))))
def QF (ds:List PyData):Option PyData:=ob (yq (rho0 J6.length ds)) outD
theorem qdi (F:Fun K "_law_met" "_law_met" T23 f fd)(m:mg "_law_met" = some (.ref f))(b:Binds K fd ["_law_squares"] [])(K__law_near:Known P w K mg base "_law_near" 2 1 zV)(z_range:mg "range" = none)(z_len:mg "len" = none):Known P w K mg base "_law_met" 1 2 QF:=by
 refine ⟨f,fd,["_law_squares"],F.pure (k:=1) (u:=yq) (M':=[]) qR.fs rfl (λ cdv A outer s H E hr G=>?_),m,F.kp,b⟩
 refine ql (M1:=[1,1001]) ?_ ?_
 refine qg8 1 ?_ ?_ ?_ ?_ ?_ ?_ ?_ ?_
 ·exact qR.fs.nd
 ·exact (qR.loc 1 rfl)
 ·rfl
 ·rfl
 ·exact .inl rfl
 ·decide
 ·decide
 exact qhm
 refine ql (M1:=[1,1001]) ?_ ?_
 refine Jv PassesOwn.never rfl ?_ ?_ ?_
 refine j5 (qR.gl 0 rfl rfl) z_range ?_
 refine qb ?_ ?_
 refine zQ jA (qR.gl 2 rfl rfl) z_len PySem.boot_len ?_
 refine qb ?_ ?_
 exact qd 0 (qR.vis 0 rfl) (by decide)
 exact qg
 exact qg
 exact zg 2 qR.fs.nd (qR.loc 2 rfl) (by decide)
 refine qt ?_
 refine Qo PassesOwn.never rfl ?_ (λ _=>?_) (λ _=>?_)
 refine zf ?_
 refine qw K__law_near hr (by decide) (qR.gl 1 rfl rfl) ?_ rfl
 refine qb ?_ ?_
 refine qF ?_ ?_
 exact qd 0 (qR.vis 0 rfl) (by decide)
 exact qd 2 (qR.vis 2 rfl) (by decide)
 refine qb ?_ ?_
 refine QZ (CompOk.of (k:=1) J6 ["_law_squares", "_law_met_here", "_law_k", "_law_edge", "_law_axis"] (qm T23) rfl rfl rfl (by decide +kernel)) rfl (by decide +kernel) ?_ (λ _ _ _ _ _ _=>?_) (λ _ _ _ _ _ _=>?_)
 refine yj (qR.gl 0 rfl rfl) z_range ?_
 refine qb ?_ ?_
 exact qe
 exact qg
 refine QV ?_
 refine q8 (d_eq hr) ?_ ?_ (zr _)
 refine qy Zh ?_ ?_
 refine qF ?_ ?_
 refine qF ?_ ?_
 exact qd 0 (qz (by decide +kernel)) (by decide)
 exact qd 2 (qz (by decide +kernel)) (by decide)
 exact qd 4 (qz (by decide +kernel)) (by decide)
 exact qe
 exact qe
 exact qd 4 (qz (by decide +kernel)) (by decide)
 exact qg
 exact zg 3 qR.fs.nd (qR.loc 3 rfl) (by decide)
 refine ql (M1:=[1,1001]) ?_ ?_
 refine Qf ?_ ?_ ?_
 refine q8 (qgb hr) ?_ ?_ rfl
 exact qd 3 (qR.vis 3 rfl) (by decide)
 exact qd 1 (qR.vis 1 rfl) (by decide)
 refine qt ?_
 refine qg7 hr 1 (qR.vis 1 rfl) (by decide) ?_
 exact qd 3 (qR.vis 3 rfl) (by decide)
 exact zM
 refine qt ?_
 refine qfw hr 1 (qR.vis 1 rfl) (by decide) ?_ ?_
 exact qd 3 (qR.vis 3 rfl) (by decide)
 exact qd 2 (qR.vis 2 rfl) (by decide)
 refine qt ?_
 refine qI ?_
 exact qd 1 (qR.vis 1 rfl) (by decide)
abbrev T10:Stmt:=top 37
abbrev yw:List Str:=["_law_cell", "_law_k"]
theorem Zd:ScOk yw ["_law_cell", "_law_k"] [] (qm T10):=scmk (by kernel_rfl)
def Qu:Rho->Option Out:=(sRet (ev2 (ev2 (ev2 (ev2 (ev2 (ev2 (ev2 (vr 0) (kd (.int 1000000007)) modD) (ev2 (vr 1) (kd (.int 3)) qJ) mulD) (kd (.int 48271)) mulD) (ev2 (ev2 (ev2 (vr 1) (kd (.int 1)) qJ) (ev2 (vr 1) (kd (.int 5)) qJ) mulD) (kd (.int 69621)) mulD) qJ) (kd (.int 2147483647)) modD) (kd (.int 40692)) mulD) (kd (.int 2147483399)) modD))
def zT (ds:List PyData):Option PyData:=ob (Qu (rho0 yw.length ds)) outD
theorem qa1 (F:Fun K "_law_mixed" "_law_mixed" T10 f fd)(m:mg "_law_mixed" = some (.ref f))(b:Binds K fd ["_law_cell", "_law_k"] []):Known P w K mg base "_law_mixed" 2 1 zT:=by
 refine ⟨f,fd,["_law_cell", "_law_k"],F.pure (k:=0) (u:=Qu) (M':=[]) Zd.fs rfl (λ cdv A outer s H E hr G=>?_),m,F.kp,b⟩
 refine qt ?_
 refine qI ?_
 refine qy Zh ?_ ?_
 refine qy zK ?_ ?_
 refine qy Zh ?_ ?_
 refine qy zx ?_ ?_
 refine qy zK ?_ ?_
 refine qy zK ?_ ?_
 refine qy Zh ?_ ?_
 exact qd 0 (Zd.vis 0 rfl) (by decide)
 exact qe
 refine qy zx ?_ ?_
 exact qd 1 (Zd.vis 1 rfl) (by decide)
 exact qe
 exact qe
 refine qy zK ?_ ?_
 refine qy zK ?_ ?_
 refine qy zx ?_ ?_
 exact qd 1 (Zd.vis 1 rfl) (by decide)
 exact qe
 refine qy zx ?_ ?_
 exact qd 1 (Zd.vis 1 rfl) (by decide)
 exact qe
 exact qe
 exact qe
 exact qe
 exact qe
abbrev T11:Stmt:=top 38
abbrev jP:List Str:=["_law_script", "_law_cells_here"]
theorem Qh:ScOk jP ["_law_script"] ["_law_cell_at", "range"] (qm T11):=scmk (by kernel_rfl)
def Z3:Rho->Option Out:=(seqO (sSet 1 (evS (vr 0) (oS (kd (.int 4))) (oS (kd (.int 9))))) (seqO (sIf (tV (ev2 (ev2 (evC 2 (aC (vr 0) (aC (kd (.int 0)) aN)) zy) (kd (.int 2)) modD) (kd (.int 0)) eqD)) (qY 1 (zG 2 (evR (aC (kd (.int 5)) aN) QS) tT (evC 2 (aC (evC 2 (aC (vr 0) (aC (ev2 (kd (.int 4)) (vr 2) qJ) aN)) zy) (aC (vr 2) aN)) zT))) sN) (sRet (vr 1))))
def QM (ds:List PyData):Option PyData:=ob (Z3 (rho0 jP.length ds)) outD
theorem qaY (F:Fun K "_law_cells" "_law_cells" T11 f fd)(m:mg "_law_cells" = some (.ref f))(b:Binds K fd ["_law_script"] [])(K__law_cell_at:Known P w K mg base "_law_cell_at" 2 1 zy)(K__law_mixed:Known P w K mg base "_law_mixed" 2 1 zT)(z_range:mg "range" = none):Known P w K mg base "_law_cells" 1 2 QM:=by
 refine ⟨f,fd,["_law_script"],F.pure (k:=1) (u:=Z3) (M':=[]) Qh.fs rfl (λ cdv A outer s H E hr G=>?_),m,F.kp,b⟩
 refine ql (M1:=[]) ?_ ?_
 refine qQ 1 ?_ ?_ ?_ ?_ ?_ ?_ ?_
 ·exact Qh.fs.nd
 ·exact (Qh.loc 1 rfl)
 ·rfl
 ·rfl
 ·exact .inl rfl
 ·decide
 refine qco ?_ ?_ ?_
 exact qd 0 (Qh.vis 0 rfl) (by decide)
 refine Ws ?_
 exact qe
 refine Ws ?_
 exact qe
 refine ql (M1:=[]) ?_ ?_
 refine Qf ?_ ?_ ?_
 refine q8 (d_eq hr) ?_ ?_ (zr _)
 refine qy Zh ?_ ?_
 refine qw K__law_cell_at hr (by decide) (Qh.gl 0 rfl rfl) ?_ rfl
 refine qb ?_ ?_
 exact qd 0 (Qh.vis 0 rfl) (by decide)
 refine qb ?_ ?_
 exact qe
 exact qg
 exact qe
 exact qe
 refine ZS (M':=[1]) [] ?_ ?_ ?_
 refine qt ?_
 refine ZR 1 (CompOk.of (k:=1) jP ["_law_script", "_law_cells_here", "_law_k"] (qm T11) rfl rfl rfl (by decide +kernel)) rfl (by decide +kernel) (qm T11) rfl (by decide +kernel) (by decide) (by decide) ?_ (λ _ _ _ _ _ _=>?_) (λ _ _ _ _ _ _=>?_)
 refine yj (Qh.gl 1 rfl rfl) z_range ?_
 refine qb ?_ ?_
 exact qe
 exact qg
 exact Qy
 refine qw K__law_mixed hr (by decide) (jt (by decide +kernel)) ?_ rfl
 refine qb ?_ ?_
 refine qw K__law_cell_at hr (by decide) (jt (by decide +kernel)) ?_ rfl
 refine qb ?_ ?_
 exact qd 0 (qz (by decide +kernel)) (by decide)
 refine qb ?_ ?_
 refine qy zx ?_ ?_
 exact qe
 exact qd 2 (qz (by decide +kernel)) (by decide)
 exact qg
 refine qb ?_ ?_
 exact qd 2 (qz (by decide +kernel)) (by decide)
 exact qg
 ·rfl
 ·rfl
 exact zM
 refine qt ?_
 refine qI ?_
 exact qd 1 (Qh.vis 1 rfl) (by decide)
abbrev T12:Stmt:=top 39
abbrev jR:List Str:=["_law_cells_here", "_law_base_here", "_law_most", "_law_solid_here", "_law_met_here"]
theorem qK:ScOk jR ["_law_cells_here", "_law_base_here"] ["_law_solid", "_law_skin", "_law_met", "len", "range", "tuple"] (qm T12):=scmk (by kernel_rfl)
def Z5:Rho->Option Out:=(seqO (sFor (evR (aC (kd (.int 5)) (aC (kd (.int 0)) (aC (ev1 (kd (.int 1)) negD) aN))) qeE) (gNm 2) (seqO (sSet 3 (evC 3 (aC (evS (vr 0) oN (oS (vr 2))) (aC (vr 1) (aC (kd (.int 0)) aN))) zL)) (seqO (sSet 4 (evC 1 (aC (evC 1 (aC (vr 3) aN) zu) aN) QF)) (sIf (tV (ev2 (evA (aC (zG 5 (evI (vr 4) Jc) (tV (ev2 (evA (aC (ev2 (vr 4) (vr 5) ix2D) aN) lenD) (kd (.int 2)) gtD)) (vr 5)) aN) lenD) (kd (.int 0)) eqD)) (sRet (vr 3)) sN)))) (sRet (evA (aC (evA (aC (vr 1) aN) zc) aN) lstD)))
def QQ (ds:List PyData):Option PyData:=ob (Z5 (rho0 jR.length ds)) outD
theorem qa2 (F:Fun K "_law_plain" "_law_plain" T12 f fd)(m:mg "_law_plain" = some (.ref f))(b:Binds K fd ["_law_cells_here", "_law_base_here"] [])(K__law_solid:Known P w K mg base "_law_solid" 3 1 zL)(K__law_met:Known P w K mg base "_law_met" 1 2 QF)(K__law_skin:Known P w K mg base "_law_skin" 1 1 zu)(z_len:mg "len" = none)(z_range:mg "range" = none)(z_tuple:mg "tuple" = none):Known P w K mg base "_law_plain" 2 3 QQ:=by
 refine ⟨f,fd,["_law_cells_here", "_law_base_here"],F.pure (k:=2) (u:=Z5) (M':=[]) qK.fs rfl (λ cdv A outer s H E hr G=>?_),m,F.kp,b⟩
 refine ql (M1:=[]) ?_ ?_
 refine Jv PassesOwn.never rfl ?_ ?_ ?_
 refine qdu (qK.gl 4 rfl rfl) z_range ?_
 refine qb ?_ ?_
 exact qe
 refine qb ?_ ?_
 exact qe
 refine qb ?_ ?_
 refine Js Jk ?_
 exact qe
 exact qg
 exact zg 2 qK.fs.nd (qK.loc 2 rfl) (by decide)
 refine ql (M1:=[]) ?_ ?_
 refine qQ 3 ?_ ?_ ?_ ?_ ?_ ?_ ?_
 ·exact qK.fs.nd
 ·exact (qK.loc 3 rfl)
 ·rfl
 ·rfl
 ·exact .inl rfl
 ·decide
 refine qw K__law_solid hr (by decide) (qK.gl 0 rfl rfl) ?_ rfl
 refine qb ?_ ?_
 refine qco ?_ ?_ ?_
 exact qd 0 (qK.vis 0 rfl) (by decide)
 exact qg6
 refine Ws ?_
 exact qd 2 (qK.vis 2 rfl) (by decide)
 refine qb ?_ ?_
 exact qd 1 (qK.vis 1 rfl) (by decide)
 refine qb ?_ ?_
 exact qe
 exact qg
 refine ql (M1:=[]) ?_ ?_
 refine qQ 4 ?_ ?_ ?_ ?_ ?_ ?_ ?_
 ·exact qK.fs.nd
 ·exact (qK.loc 4 rfl)
 ·rfl
 ·rfl
 ·exact .inl rfl
 ·decide
 refine qw K__law_met hr (by decide) (qK.gl 2 rfl rfl) ?_ rfl
 refine qb ?_ ?_
 refine qw K__law_skin hr (by decide) (qK.gl 1 rfl rfl) ?_ rfl
 refine qb ?_ ?_
 exact qd 3 (qK.vis 3 rfl) (by decide)
 exact qg
 exact qg
 refine qt ?_
 refine Qf ?_ ?_ ?_
 refine q8 (d_eq hr) ?_ ?_ (zr _)
 refine zQ jA (qK.gl 3 rfl rfl) z_len PySem.boot_len ?_
 refine qb ?_ ?_
 refine QZ (CompOk.of (k:=1) jR ["_law_cells_here", "_law_base_here", "_law_most", "_law_solid_here", "_law_met_here", "_law_edge"] (qm T12) rfl rfl rfl (by decide +kernel)) rfl (by decide +kernel) ?_ (λ _ _ _ _ _ _=>?_) (λ _ _ _ _ _ _=>?_)
 refine Jt ?_
 exact qd 4 (qK.vis 4 rfl) (by decide)
 refine QV ?_
 refine q8 d_gt ?_ ?_ (zr _)
 refine zQ jA (jt (by decide +kernel)) z_len PySem.boot_len ?_
 refine qb ?_ ?_
 refine YC hr ?_ ?_
 exact qd 4 (qz (by decide +kernel)) (by decide)
 exact qd 5 (qz (by decide +kernel)) (by decide)
 exact qg
 exact qe
 exact qd 5 (qz (by decide +kernel)) (by decide)
 exact qg
 exact qe
 refine qt ?_
 refine qI ?_
 exact qd 3 (qK.vis 3 rfl) (by decide)
 exact zM
 refine qt ?_
 refine qI ?_
 refine qds ?_
 refine qb ?_ ?_
 refine zP ZM (qK.gl 5 rfl rfl) z_tuple rfl ?_
 refine qb ?_ ?_
 exact qd 1 (qK.vis 1 rfl) (by decide)
 exact qg
 exact qg
abbrev T13:Stmt:=top 40
abbrev yt:List Str:=["_law_one", "_law_other", "_law_x", "_law_y"]
theorem qN:ScOk yt ["_law_one", "_law_other"] [] (qm T13):=scmk (by kernel_rfl)
def Yl:Rho->Option Out:=(seqO (sSet 2 (ev2 (ev2 (ev2 (vr 0) (kd (.int 1)) ixD) (ev2 (vr 1) (kd (.int 2)) ixD) mulD) (ev2 (ev2 (vr 0) (kd (.int 2)) ixD) (ev2 (vr 1) (kd (.int 1)) ixD) mulD) subD)) (seqO (sSet 3 (ev2 (ev2 (ev2 (vr 0) (kd (.int 2)) ixD) (ev2 (vr 1) (kd (.int 0)) ixD) mulD) (ev2 (ev2 (vr 0) (kd (.int 0)) ixD) (ev2 (vr 1) (kd (.int 2)) ixD) mulD) subD)) (sRet (evA (aC (vr 2) (aC (vr 3) (aC (ev2 (ev2 (ev2 (vr 0) (kd (.int 0)) ixD) (ev2 (vr 1) (kd (.int 1)) ixD) mulD) (ev2 (ev2 (vr 0) (kd (.int 1)) ixD) (ev2 (vr 1) (kd (.int 0)) ixD) mulD) subD) aN))) tupD))))
def Z2 (ds:List PyData):Option PyData:=ob (Yl (rho0 yt.length ds)) outD
theorem qaZ (F:Fun K "_law_cross" "_law_cross" T13 f fd)(m:mg "_law_cross" = some (.ref f))(b:Binds K fd ["_law_one", "_law_other"] []):Known P w K mg base "_law_cross" 2 1 Z2:=by
 refine ⟨f,fd,["_law_one", "_law_other"],F.pure (k:=0) (u:=Yl) (M':=[]) qN.fs rfl (λ cdv A outer s H E hr G=>?_),m,F.kp,b⟩
 refine ql (M1:=[]) ?_ ?_
 refine qQ 2 ?_ ?_ ?_ ?_ ?_ ?_ ?_
 ·exact qN.fs.nd
 ·exact (qN.loc 2 rfl)
 ·rfl
 ·rfl
 ·exact .inl rfl
 ·decide
 refine qy ZQ ?_ ?_
 refine qy zK ?_ ?_
 refine qF ?_ ?_
 exact qd 0 (qN.vis 0 rfl) (by decide)
 exact qe
 refine qF ?_ ?_
 exact qd 1 (qN.vis 1 rfl) (by decide)
 exact qe
 refine qy zK ?_ ?_
 refine qF ?_ ?_
 exact qd 0 (qN.vis 0 rfl) (by decide)
 exact qe
 refine qF ?_ ?_
 exact qd 1 (qN.vis 1 rfl) (by decide)
 exact qe
 refine ql (M1:=[]) ?_ ?_
 refine qQ 3 ?_ ?_ ?_ ?_ ?_ ?_ ?_
 ·exact qN.fs.nd
 ·exact (qN.loc 3 rfl)
 ·rfl
 ·rfl
 ·exact .inl rfl
 ·decide
 refine qy ZQ ?_ ?_
 refine qy zK ?_ ?_
 refine qF ?_ ?_
 exact qd 0 (qN.vis 0 rfl) (by decide)
 exact qe
 refine qF ?_ ?_
 exact qd 1 (qN.vis 1 rfl) (by decide)
 exact qe
 refine qy zK ?_ ?_
 refine qF ?_ ?_
 exact qd 0 (qN.vis 0 rfl) (by decide)
 exact qe
 refine qF ?_ ?_
 exact qd 1 (qN.vis 1 rfl) (by decide)
 exact qe
 refine qt ?_
 refine qI ?_
 refine zH ?_
 refine qb ?_ ?_
 exact qd 2 (qN.vis 2 rfl) (by decide)
 refine qb ?_ ?_
 exact qd 3 (qN.vis 3 rfl) (by decide)
 refine qb ?_ ?_
 refine qy ZQ ?_ ?_
 refine qy zK ?_ ?_
 refine qF ?_ ?_
 exact qd 0 (qN.vis 0 rfl) (by decide)
 exact qe
 refine qF ?_ ?_
 exact qd 1 (qN.vis 1 rfl) (by decide)
 exact qe
 refine qy zK ?_ ?_
 refine qF ?_ ?_
 exact qd 0 (qN.vis 0 rfl) (by decide)
 exact qe
 refine qF ?_ ?_
 exact qd 1 (qN.vis 1 rfl) (by decide)
 exact qe
 exact qg
abbrev T24:Stmt:=top 41
abbrev jQ:List Str:=["_law_solid_here", "_law_square", "_law_axis", "_law_lower", "_law_unit"]
theorem qZ:ScOk jQ ["_law_solid_here", "_law_square"] ["range", "tuple", "int"] (qm T24):=scmk (by kernel_rfl)
def jk:Rho->Option Out:=(seqO (sSet 2 (ev2 (zG 5 (evR (aC (kd (.int 3)) aN) QS) (tV (ev2 (ev2 (ev2 (vr 1) (vr 5) ixD) (kd (.int 2)) modD) (kd (.int 0)) eqD)) (vr 5)) (kd (.int 0)) ixD)) (seqO (qY 3 (zG 5 (evI (vr 1) seqD) tT (ev2 (ev2 (vr 5) (kd (.int 1)) subD) (kd (.int 2)) QT))) (seqO (sPut 3 (vr 2) (ev2 (ev2 (ev2 (vr 1) (vr 2) ixD) (kd (.int 2)) subD) (kd (.int 2)) QT)) (seqO (qY 4 (evA (aC (kd (.int 0)) (aC (kd (.int 0)) (aC (kd (.int 0)) aN))) lstD)) (seqO (sPut 4 (vr 2) (qP (ev2 (ev2 (kd (.int 2)) (evA (aC (ev2 (evA (aC (vr 3) aN) zc) (vr 0) inD) aN) qbq) mulD) (kd (.int 1)) subD))) (sRet (evA (aC (vr 4) aN) zc)))))))
def Qc (ds:List PyData):Option PyData:=ob (jk (rho0 jQ.length ds)) outD
theorem qdj (F:Fun K "_law_out" "_law_out" T24 f fd)(m:mg "_law_out" = some (.ref f))(b:Binds K fd ["_law_solid_here", "_law_square"] [])(z_range:mg "range" = none)(z_int:mg "int" = none)(z_tuple:mg "tuple" = none):Known P w K mg base "_law_out" 2 1 Qc:=by
 refine ⟨f,fd,["_law_solid_here", "_law_square"],F.pure (k:=0) (u:=jk) (M':=[]) qZ.fs rfl (λ cdv A outer s H E hr G=>?_),m,F.kp,b⟩
 refine ql (M1:=[]) ?_ ?_
 refine qQ 2 ?_ ?_ ?_ ?_ ?_ ?_ ?_
 ·exact qZ.fs.nd
 ·exact (qZ.loc 2 rfl)
 ·rfl
 ·rfl
 ·exact .inl rfl
 ·decide
 refine qF ?_ ?_
 refine QZ (CompOk.of (k:=1) jQ ["_law_solid_here", "_law_square", "_law_axis", "_law_lower", "_law_unit", "_law_k"] (qm T24) rfl rfl rfl (by decide +kernel)) rfl (by decide +kernel) ?_ (λ _ _ _ _ _ _=>?_) (λ _ _ _ _ _ _=>?_)
 refine yj (qZ.gl 0 rfl rfl) z_range ?_
 refine qb ?_ ?_
 exact qe
 exact qg
 refine QV ?_
 refine q8 (d_eq hr) ?_ ?_ (zr _)
 refine qy Zh ?_ ?_
 refine qF ?_ ?_
 exact qd 1 (qz (by decide +kernel)) (by decide)
 exact qd 5 (qz (by decide +kernel)) (by decide)
 exact qe
 exact qe
 exact qd 5 (qz (by decide +kernel)) (by decide)
 exact qe
 refine ql (M1:=[3]) ?_ ?_
 refine ZR 3 (CompOk.of (k:=1) jQ ["_law_solid_here", "_law_square", "_law_axis", "_law_lower", "_law_unit", "_law_number"] (qm T24) rfl rfl rfl (by decide +kernel)) rfl (by decide +kernel) (qm T24) rfl (by decide +kernel) (by decide) (by decide) ?_ (λ _ _ _ _ _ _=>?_) (λ _ _ _ _ _ _=>?_)
 refine zf ?_
 exact qd 1 (qZ.vis 1 rfl) (by decide)
 exact Qy
 refine qy je ?_ ?_
 refine qy ZQ ?_ ?_
 exact qd 5 (qz (by decide +kernel)) (by decide)
 exact qe
 exact qe
 refine ql (M1:=[3]) ?_ ?_
 refine qiL 3 (qZ.vis 3 rfl) (by decide) (by decide) ?_ ?_
 exact qd 2 (qZ.vis 2 rfl) (by decide)
 refine qy je ?_ ?_
 refine qy ZQ ?_ ?_
 refine qF ?_ ?_
 exact qd 1 (qZ.vis 1 rfl) (by decide)
 exact qd 2 (qZ.vis 2 rfl) (by decide)
 exact qe
 exact qe
 refine ql (M1:=[4,3]) ?_ ?_
 refine Qx 4 ?_ ?_ ?_ ?_ ?_ ?_ ?_ ?_
 ·exact qZ.fs.nd
 ·exact (qZ.loc 4 rfl)
 ·rfl
 ·rfl
 ·exact .inl rfl
 ·decide
 ·decide
 refine j6 ?_
 refine qb ?_ ?_
 exact qe
 refine qb ?_ ?_
 exact qe
 refine qb ?_ ?_
 exact qe
 exact qg
 refine ql (M1:=[4,3]) ?_ ?_
 refine ZV 4 (qZ.vis 4 rfl) (by decide) (by decide) ?_ ?_
 exact qd 2 (qZ.vis 2 rfl) (by decide)
 refine qy ZQ ?_ ?_
 refine qy zK ?_ ?_
 exact qe
 refine zP b_int (qZ.gl 2 rfl rfl) z_int rfl ?_
 refine qb ?_ ?_
 refine Jr (d_in hr) ?_ ?_ rfl
 refine zP ZM (qZ.gl 1 rfl rfl) z_tuple rfl ?_
 refine qb ?_ ?_
 exact qd 3 (qZ.vis 3 rfl) (by decide)
 exact qg
 exact qd 0 (qZ.vis 0 rfl) (by decide)
 exact qg
 exact qe
 refine qt ?_
 refine qI ?_
 refine zP ZM (qZ.gl 1 rfl rfl) z_tuple rfl ?_
 refine qb ?_ ?_
 exact qd 4 (qZ.vis 4 rfl) (by decide)
 exact qg
abbrev T1:Stmt:=top 42
abbrev Ze:List Str:=["_law_pose", "_law_square", "_law_out_here", "_law_units"]
theorem qC:ScOk Ze ["_law_pose", "_law_square", "_law_out_here"] ["isinstance", "tuple", "len", "list", "_law_spots", "max", "_law_cross"] (qm T1):=scmk (by kernel_rfl)
def Zw:Rho->Option Out:=(seqO (sIf (tO (tN (tV (ev1 (vr 0) (isiD "tuple")))) (tO (tV (ev2 (evA (aC (vr 0) aN) lenD) (kd (.int 3)) neD)) (tN (tV (evC 1 (aC (evA (aC (vr 0) aN) Zc) aN) Qi))))) (sRet (kd (.bool false))) sN) (seqO (sSet 3 (evA (aC (evA (aC (kd (.int 1)) (aC (kd (.int 0)) (aC (kd (.int 0)) aN))) tupD) (aC (evA (aC (kd (.int 0)) (aC (kd (.int 1)) (aC (kd (.int 0)) aN))) tupD) (aC (evA (aC (kd (.int 0)) (aC (kd (.int 0)) (aC (kd (.int 1)) aN))) tupD) aN))) lstD)) (seqO (qY 3 (zG 4 (evI (vr 3) seqD) (tV (ev2 (ev2 (ev2 (ev2 (ev2 (vr 4) (kd (.int 0)) ixD) (ev2 (vr 2) (kd (.int 0)) ixD) mulD) (ev2 (ev2 (vr 4) (kd (.int 1)) ixD) (ev2 (vr 2) (kd (.int 1)) ixD) mulD) qJ) (ev2 (ev2 (vr 4) (kd (.int 2)) ixD) (ev2 (vr 2) (kd (.int 2)) ixD) mulD) qJ) (kd (.int 0)) eqD)) (vr 4))) (sRet (vA (ev2 (ev2 (vr 0) (kd (.int 0)) ixD) (vr 1) eqD) (vA (ev2 (ev2 (vr 0) (kd (.int 1)) ixD) (evA (aC (vr 3) aN) Wm) eqD) (ev2 (ev2 (vr 0) (kd (.int 2)) ixD) (evC 2 (aC (vr 2) (aC (evA (aC (vr 3) aN) Wm) aN)) Z2) eqD)))))))
def zO (ds:List PyData):Option PyData:=ob (Zw (rho0 Ze.length ds)) outD
theorem yX (F:Fun K "_law_pose_right" "_law_pose_right" T1 f fd)(m:mg "_law_pose_right" = some (.ref f))(b:Binds K fd ["_law_pose", "_law_square", "_law_out_here"] [])(K__law_spots:Known P w K mg base "_law_spots" 1 2 Qi)(K__law_cross:Known P w K mg base "_law_cross" 2 1 Z2)(z_isinstance:mg "isinstance" = none)(z_tuple:mg "tuple" = none)(z_len:mg "len" = none)(z_list:mg "list" = none)(z_max:mg "max" = none):Known P w K mg base "_law_pose_right" 3 3 zO:=by
 refine ⟨f,fd,["_law_pose", "_law_square", "_law_out_here"],F.pure (k:=2) (u:=Zw) (M':=[]) qC.fs rfl (λ cdv A outer s H E hr G=>?_),m,F.kp,b⟩
 refine ql (M1:=[]) ?_ ?_
 refine Qf ?_ ?_ ?_
 refine PDW.pdt ?_
 refine YF ?_ ?_
 refine Q0 ?_
 refine Zt ?_
 refine Wr (T := "tuple") (kit_tuple _) (qC.gl 0 rfl rfl) z_isinstance (qC.gl 1 rfl rfl) z_tuple rfl rfl ?_
 exact qd 0 (qC.vis 0 rfl) (by decide)
 refine YF ?_ ?_
 refine q8 (d_ne hr) ?_ ?_ (zr _)
 refine zQ jA (qC.gl 2 rfl rfl) z_len PySem.boot_len ?_
 refine qb ?_ ?_
 exact qd 0 (qC.vis 0 rfl) (by decide)
 exact qg
 exact qe
 refine wH ?_
 refine Q0 ?_
 refine Zt ?_
 refine qw K__law_spots hr (by decide) (qC.gl 4 rfl rfl) ?_ rfl
 refine qb ?_ ?_
 refine zP qcY (qC.gl 3 rfl rfl) z_list rfl ?_
 refine qb ?_ ?_
 exact qd 0 (qC.vis 0 rfl) (by decide)
 exact qg
 exact qg
 refine qt ?_
 refine qI ?_
 exact jK
 exact zM
 refine ql (M1:=[]) ?_ ?_
 refine qQ 3 ?_ ?_ ?_ ?_ ?_ ?_ ?_
 ·exact qC.fs.nd
 ·exact (qC.loc 3 rfl)
 ·rfl
 ·rfl
 ·exact .inl rfl
 ·decide
 refine qds ?_
 refine qb ?_ ?_
 refine zH ?_
 refine qb ?_ ?_
 exact qe
 refine qb ?_ ?_
 exact qe
 refine qb ?_ ?_
 exact qe
 exact qg
 refine qb ?_ ?_
 refine zH ?_
 refine qb ?_ ?_
 exact qe
 refine qb ?_ ?_
 exact qe
 refine qb ?_ ?_
 exact qe
 exact qg
 refine qb ?_ ?_
 refine zH ?_
 refine qb ?_ ?_
 exact qe
 refine qb ?_ ?_
 exact qe
 refine qb ?_ ?_
 exact qe
 exact qg
 exact qg
 refine ql (M1:=[3]) ?_ ?_
 refine ZR 3 (CompOk.of (k:=1) Ze ["_law_pose", "_law_square", "_law_out_here", "_law_units", "_law_unit"] (qm T1) rfl rfl rfl (by decide +kernel)) rfl (by decide +kernel) (qm T1) rfl (by decide +kernel) (by decide) (by decide) ?_ (λ _ _ _ _ _ _=>?_) (λ _ _ _ _ _ _=>?_)
 refine zf ?_
 exact qd 3 (qC.vis 3 rfl) (by decide)
 refine QV ?_
 refine q8 (d_eq hr) ?_ ?_ (zr _)
 refine qy zx ?_ ?_
 refine qy zx ?_ ?_
 refine qy zK ?_ ?_
 refine qF ?_ ?_
 exact qd 4 (qz (by decide +kernel)) (by decide)
 exact qe
 refine qF ?_ ?_
 exact qd 2 (qz (by decide +kernel)) (by decide)
 exact qe
 refine qy zK ?_ ?_
 refine qF ?_ ?_
 exact qd 4 (qz (by decide +kernel)) (by decide)
 exact qe
 refine qF ?_ ?_
 exact qd 2 (qz (by decide +kernel)) (by decide)
 exact qe
 refine qy zK ?_ ?_
 refine qF ?_ ?_
 exact qd 4 (qz (by decide +kernel)) (by decide)
 exact qe
 refine qF ?_ ?_
 exact qd 2 (qz (by decide +kernel)) (by decide)
 exact qe
 exact qe
 exact qd 4 (qz (by decide +kernel)) (by decide)
 refine qt ?_
 refine qI ?_
 refine qbg ?_ ?_
 refine Jr (d_eq hr) ?_ ?_ (zr _)
 refine qF ?_ ?_
 exact qd 0 (qC.vis 0 rfl) (by decide)
 exact qe
 exact qd 1 (qC.vis 1 rfl) (by decide)
 refine qbg ?_ ?_
 refine Jr (d_eq hr) ?_ ?_ (zr _)
 refine qF ?_ ?_
 exact qd 0 (qC.vis 0 rfl) (by decide)
 exact qe
 refine zQ (qcZ hr) (qC.gl 5 rfl rfl) z_max Yv ?_
 refine qb ?_ ?_
 exact qd 3 (qC.vis 3 rfl) (by decide)
 exact qg
 refine qdt ?_
 refine Jr (d_eq hr) ?_ ?_ (zr _)
 refine qF ?_ ?_
 exact qd 0 (qC.vis 0 rfl) (by decide)
 exact qe
 refine qw K__law_cross hr (by decide) (qC.gl 6 rfl rfl) ?_ rfl
 refine qb ?_ ?_
 exact qd 2 (qC.vis 2 rfl) (by decide)
 refine qb ?_ ?_
 refine zQ (qcZ hr) (qC.gl 5 rfl rfl) z_max Yv ?_
 refine qb ?_ ?_
 exact qd 3 (qC.vis 3 rfl) (by decide)
 exact qg
 exact qg
abbrev T14:Stmt:=top 43
abbrev yu:List Str:=["_law_one", "_law_out_here", "_law_edge", "_law_bend", "_law_other", "_law_beyond", "_law_w", "_law_v", "_law_turned_out"]
theorem qp:ScOk yu ["_law_one", "_law_out_here", "_law_edge", "_law_bend", "_law_other", "_law_beyond"] [] (qm T14):=scmk (by kernel_rfl)
def Z4:Rho->Option Out:=(seqO (sSet 6 (evA (aC (ev2 (ev2 (vr 2) (kd (.int 0)) ixD) (ev2 (vr 0) (kd (.int 0)) ixD) subD) (aC (ev2 (ev2 (vr 2) (kd (.int 1)) ixD) (ev2 (vr 0) (kd (.int 1)) ixD) subD) (aC (ev2 (ev2 (vr 2) (kd (.int 2)) ixD) (ev2 (vr 0) (kd (.int 2)) ixD) subD) aN))) tupD)) (seqO (sIf (tV (ev2 (vr 3) (kd (.int 0)) eqD)) (seqO (sSet 7 (vr 6)) (sSet 8 (vr 1))) (seqO (sSet 7 (evA (aC (ev2 (vr 3) (ev2 (vr 1) (kd (.int 0)) ixD) mulD) (aC (ev2 (vr 3) (ev2 (vr 1) (kd (.int 1)) ixD) mulD) (aC (ev2 (vr 3) (ev2 (vr 1) (kd (.int 2)) ixD) mulD) aN))) tupD)) (sSet 8 (evA (aC (ev2 (ev1 (vr 3) negD) (ev2 (vr 6) (kd (.int 0)) ixD) mulD) (aC (ev2 (ev1 (vr 3) negD) (ev2 (vr 6) (kd (.int 1)) ixD) mulD) (aC (ev2 (ev1 (vr 3) negD) (ev2 (vr 6) (kd (.int 2)) ixD) mulD) aN))) tupD)))) (sRet (vA (ev2 (evA (aC (ev2 (ev2 (vr 2) (kd (.int 0)) ixD) (ev2 (vr 7) (kd (.int 0)) ixD) qJ) (aC (ev2 (ev2 (vr 2) (kd (.int 1)) ixD) (ev2 (vr 7) (kd (.int 1)) ixD) qJ) (aC (ev2 (ev2 (vr 2) (kd (.int 2)) ixD) (ev2 (vr 7) (kd (.int 2)) ixD) qJ) aN))) tupD) (vr 4) eqD) (ev2 (vr 8) (vr 5) eqD)))))
def zA (ds:List PyData):Option PyData:=ob (Z4 (rho0 yu.length ds)) outD
theorem qa0 (F:Fun K "_law_leads" "_law_leads" T14 f fd)(m:mg "_law_leads" = some (.ref f))(b:Binds K fd ["_law_one", "_law_out_here", "_law_edge", "_law_bend", "_law_other", "_law_beyond"] []):Known P w K mg base "_law_leads" 6 1 zA:=by
 refine ⟨f,fd,["_law_one", "_law_out_here", "_law_edge", "_law_bend", "_law_other", "_law_beyond"],F.pure (k:=0) (u:=Z4) (M':=[]) qp.fs rfl (λ cdv A outer s H E hr G=>?_),m,F.kp,b⟩
 refine ql (M1:=[]) ?_ ?_
 refine qQ 6 ?_ ?_ ?_ ?_ ?_ ?_ ?_
 ·exact qp.fs.nd
 ·exact (qp.loc 6 rfl)
 ·rfl
 ·rfl
 ·exact .inl rfl
 ·decide
 refine zH ?_
 refine qb ?_ ?_
 refine qy ZQ ?_ ?_
 refine qF ?_ ?_
 exact qd 2 (qp.vis 2 rfl) (by decide)
 exact qe
 refine qF ?_ ?_
 exact qd 0 (qp.vis 0 rfl) (by decide)
 exact qe
 refine qb ?_ ?_
 refine qy ZQ ?_ ?_
 refine qF ?_ ?_
 exact qd 2 (qp.vis 2 rfl) (by decide)
 exact qe
 refine qF ?_ ?_
 exact qd 0 (qp.vis 0 rfl) (by decide)
 exact qe
 refine qb ?_ ?_
 refine qy ZQ ?_ ?_
 refine qF ?_ ?_
 exact qd 2 (qp.vis 2 rfl) (by decide)
 exact qe
 refine qF ?_ ?_
 exact qd 0 (qp.vis 0 rfl) (by decide)
 exact qe
 exact qg
 refine ql (M1:=[]) ?_ ?_
 refine Qf ?_ ?_ ?_
 refine q8 (d_eq hr) ?_ ?_ (zr _)
 exact qd 3 (qp.vis 3 rfl) (by decide)
 exact qe
 refine ql (M1:=[]) ?_ ?_
 refine qQ 7 ?_ ?_ ?_ ?_ ?_ ?_ ?_
 ·exact qp.fs.nd
 ·exact (qp.loc 7 rfl)
 ·rfl
 ·rfl
 ·exact .inl rfl
 ·decide
 exact qd 6 (qp.vis 6 rfl) (by decide)
 refine qt ?_
 refine qQ 8 ?_ ?_ ?_ ?_ ?_ ?_ ?_
 ·exact qp.fs.nd
 ·exact (qp.loc 8 rfl)
 ·rfl
 ·rfl
 ·exact .inl rfl
 ·decide
 exact qd 1 (qp.vis 1 rfl) (by decide)
 refine ql (M1:=[]) ?_ ?_
 refine qQ 7 ?_ ?_ ?_ ?_ ?_ ?_ ?_
 ·exact qp.fs.nd
 ·exact (qp.loc 7 rfl)
 ·rfl
 ·rfl
 ·exact .inl rfl
 ·decide
 refine zH ?_
 refine qb ?_ ?_
 refine qy zK ?_ ?_
 exact qd 3 (qp.vis 3 rfl) (by decide)
 refine qF ?_ ?_
 exact qd 1 (qp.vis 1 rfl) (by decide)
 exact qe
 refine qb ?_ ?_
 refine qy zK ?_ ?_
 exact qd 3 (qp.vis 3 rfl) (by decide)
 refine qF ?_ ?_
 exact qd 1 (qp.vis 1 rfl) (by decide)
 exact qe
 refine qb ?_ ?_
 refine qy zK ?_ ?_
 exact qd 3 (qp.vis 3 rfl) (by decide)
 refine qF ?_ ?_
 exact qd 1 (qp.vis 1 rfl) (by decide)
 exact qe
 exact qg
 refine qt ?_
 refine qQ 8 ?_ ?_ ?_ ?_ ?_ ?_ ?_
 ·exact qp.fs.nd
 ·exact (qp.loc 8 rfl)
 ·rfl
 ·rfl
 ·exact .inl rfl
 ·decide
 refine zH ?_
 refine qb ?_ ?_
 refine qy zK ?_ ?_
 refine Js Jk ?_
 exact qd 3 (qp.vis 3 rfl) (by decide)
 refine qF ?_ ?_
 exact qd 6 (qp.vis 6 rfl) (by decide)
 exact qe
 refine qb ?_ ?_
 refine qy zK ?_ ?_
 refine Js Jk ?_
 exact qd 3 (qp.vis 3 rfl) (by decide)
 refine qF ?_ ?_
 exact qd 6 (qp.vis 6 rfl) (by decide)
 exact qe
 refine qb ?_ ?_
 refine qy zK ?_ ?_
 refine Js Jk ?_
 exact qd 3 (qp.vis 3 rfl) (by decide)
 refine qF ?_ ?_
 exact qd 6 (qp.vis 6 rfl) (by decide)
 exact qe
 exact qg
 refine qt ?_
 refine qI ?_
 refine qbg ?_ ?_
 refine Jr (d_eq hr) ?_ ?_ (zr _)
 refine zH ?_
 refine qb ?_ ?_
 refine qy zx ?_ ?_
 refine qF ?_ ?_
 exact qd 2 (qp.vis 2 rfl) (by decide)
 exact qe
 refine qF ?_ ?_
 exact qd 7 (qp.vis 7 rfl) (by decide)
 exact qe
 refine qb ?_ ?_
 refine qy zx ?_ ?_
 refine qF ?_ ?_
 exact qd 2 (qp.vis 2 rfl) (by decide)
 exact qe
 refine qF ?_ ?_
 exact qd 7 (qp.vis 7 rfl) (by decide)
 exact qe
 refine qb ?_ ?_
 refine qy zx ?_ ?_
 refine qF ?_ ?_
 exact qd 2 (qp.vis 2 rfl) (by decide)
 exact qe
 refine qF ?_ ?_
 exact qd 7 (qp.vis 7 rfl) (by decide)
 exact qe
 exact qg
 exact qd 4 (qp.vis 4 rfl) (by decide)
 refine qdt ?_
 refine Jr (d_eq hr) ?_ ?_ (zr _)
 exact qd 8 (qp.vis 8 rfl) (by decide)
 exact qd 5 (qp.vis 5 rfl) (by decide)
abbrev T0:Stmt:=top 44
abbrev jc:List Str:=["_law_solid_here", "_law_squares", "_law_outs", "_law_mine", "_law_k"]
theorem qD:ScOk jc ["_law_solid_here", "_law_squares", "_law_outs"] ["list", "pose_on", "_law_pose_right", "len", "range"] (qm T0):=scmk (by kernel_rfl)
def Q5:Rho->Option Out:=(seqO (sSet 3 (evA (aC (vr 0) aN) Zc)) (seqO (sFor (evR (aC (evA (aC (vr 1) aN) lenD) aN) QS) (gNm 4) (sIf (tN (tV (evC 3 (aC (evC 2 (aC (vr 3) (aC (vr 4) aN)) Z7) (aC (ev2 (vr 1) (vr 4) ixD) (aC (ev2 (vr 2) (vr 4) ixD) aN))) zO))) (sRet (kd (.bool false))) sN)) (sRet (ev2 (vr 3) (vr 0) eqD))))
def zJ (ds:List PyData):Option PyData:=ob (Q5 (rho0 jc.length ds)) outD
theorem yc (F:Fun K "_law_poses_right" "_law_poses_right" T0 f fd)(m:mg "_law_poses_right" = some (.ref f))(b:Binds K fd ["_law_solid_here", "_law_squares", "_law_outs"] [])(K__law_pose_right:Known P w K mg base "_law_pose_right" 3 3 zO)(K_pose_on:Known P w K mg base "pose_on" 2 4 Z7)(z_list:mg "list" = none)(z_range:mg "range" = none)(z_len:mg "len" = none):Known P w K mg base "_law_poses_right" 3 5 zJ:=by
 refine ⟨f,fd,["_law_solid_here", "_law_squares", "_law_outs"],F.pure (k:=4) (u:=Q5) (M':=[]) qD.fs rfl (λ cdv A outer s H E hr G=>?_),m,F.kp,b⟩
 refine ql (M1:=[]) ?_ ?_
 refine qQ 3 ?_ ?_ ?_ ?_ ?_ ?_ ?_
 ·exact qD.fs.nd
 ·exact (qD.loc 3 rfl)
 ·rfl
 ·rfl
 ·exact .inl rfl
 ·decide
 refine zP qcY (qD.gl 0 rfl rfl) z_list rfl ?_
 refine qb ?_ ?_
 exact qd 0 (qD.vis 0 rfl) (by decide)
 exact qg
 refine ql (M1:=[]) ?_ ?_
 refine Jv PassesOwn.never rfl ?_ ?_ ?_
 refine j5 (qD.gl 4 rfl rfl) z_range ?_
 refine qb ?_ ?_
 refine zQ jA (qD.gl 3 rfl rfl) z_len PySem.boot_len ?_
 refine qb ?_ ?_
 exact qd 1 (qD.vis 1 rfl) (by decide)
 exact qg
 exact qg
 exact zg 4 qD.fs.nd (qD.loc 4 rfl) (by decide)
 refine qt ?_
 refine Qf ?_ ?_ ?_
 refine Q0 ?_
 refine Zt ?_
 refine qw K__law_pose_right hr (by decide) (qD.gl 2 rfl rfl) ?_ rfl
 refine qb ?_ ?_
 refine qw K_pose_on hr (by decide) (qD.gl 1 rfl rfl) ?_ rfl
 refine qb ?_ ?_
 exact qd 3 (qD.vis 3 rfl) (by decide)
 refine qb ?_ ?_
 exact qd 4 (qD.vis 4 rfl) (by decide)
 exact qg
 refine qb ?_ ?_
 refine qF ?_ ?_
 exact qd 1 (qD.vis 1 rfl) (by decide)
 exact qd 4 (qD.vis 4 rfl) (by decide)
 refine qb ?_ ?_
 refine qF ?_ ?_
 exact qd 2 (qD.vis 2 rfl) (by decide)
 exact qd 4 (qD.vis 4 rfl) (by decide)
 exact qg
 refine qt ?_
 refine qI ?_
 exact jK
 exact zM
 refine qt ?_
 refine qI ?_
 refine Jr (d_eq hr) ?_ ?_ (zr _)
 exact qd 3 (qD.vis 3 rfl) (by decide)
 exact qd 0 (qD.vis 0 rfl) (by decide)
abbrev T15:Stmt:=top 25
abbrev jT:List Str:=["solid", "crowd", "squares", "numbers", "joins", "edge", "pair"]
theorem qx:ScOk jT ["solid"] ["crowded", "skin_of", "numbers_of", "squares_at", "bend_over", "edge_counts", "sorted"] (qm T15):=scmk (by kernel_rfl)
def j9:Rho->Option Out:=(seqO (sSet 1 (evC 1 (aC (vr 0) aN) jC)) (seqO (sIf (tV (ev2 (vr 1) (kd .none) isnD)) sNo sN) (seqO (sSet 2 (evC 1 (aC (vr 0) aN) zE)) (seqO (sSet 3 (evC 1 (aC (vr 2) aN) Zj)) (seqO (qY 4 (evA aN lstD)) (seqO (sFor (evI (evC 1 (aC (vr 2) aN) Qm) Jc) (gNm 5) (seqO (qY 6 (zG 7 (evI (evC 1 (aC (vr 5) aN) QR) seqD) (tV (ev2 (vr 7) (vr 3) in2D)) (vr 7))) (sApp 4 (qP (evA (aC (ev2 (vr 3) (ev2 (vr 6) (kd (.int 0)) ixD) ix2D) (aC (ev2 (vr 3) (ev2 (vr 6) (kd (.int 1)) ixD) ix2D) (aC (evC 4 (aC (vr 0) (aC (ev2 (vr 6) (kd (.int 0)) ixD) (aC (vr 5) (aC (ev2 (vr 6) (kd (.int 1)) ixD) aN)))) Q9) aN))) tupD))))) (sRet (evA (aC (vr 4) aN) Qg))))))))
def Zk (ds:List PyData):Option PyData:=ob (j9 (rho0 jT.length ds)) outD
theorem qa7 (F:Fun K "skin_joins" "skin_joins" T15 f fd)(m:mg "skin_joins" = some (.ref f))(b:Binds K fd ["solid"] [])(K_crowded:Known P w K mg base "crowded" 1 5 jC)(K_skin_of:Known P w K mg base "skin_of" 1 2 zE)(K_numbers_of:Known P w K mg base "numbers_of" 1 1 Zj)(K_squares_at:Known P w K mg base "squares_at" 1 3 QR)(K_bend_over:Known P w K mg base "bend_over" 4 4 Q9)(K_edge_counts:Known P w K mg base "edge_counts" 1 4 Qm)(z_sorted:mg "sorted" = none):Known P w K mg base "skin_joins" 1 6 Zk:=by
 refine ⟨f,fd,["solid"],F.pure (k:=5) (u:=j9) (M':=[]) qx.fs rfl (λ cdv A outer s H E hr G=>?_),m,F.kp,b⟩
 refine ql (M1:=[]) ?_ ?_
 refine qQ 1 ?_ ?_ ?_ ?_ ?_ ?_ ?_
 ·exact qx.fs.nd
 ·exact (qx.loc 1 rfl)
 ·rfl
 ·rfl
 ·exact .inl rfl
 ·decide
 refine qw K_crowded hr (by decide) (qx.gl 0 rfl rfl) ?_ rfl
 refine qb ?_ ?_
 exact qd 0 (qx.vis 0 rfl) (by decide)
 exact qg
 refine ql (M1:=[]) ?_ ?_
 refine Qf ?_ ?_ ?_
 refine q8 d_isn ?_ ?_ (zr _)
 exact qd 1 (qx.vis 1 rfl) (by decide)
 exact qg4
 refine qt ?_
 exact qfx
 exact zM
 refine ql (M1:=[]) ?_ ?_
 refine qQ 2 ?_ ?_ ?_ ?_ ?_ ?_ ?_
 ·exact qx.fs.nd
 ·exact (qx.loc 2 rfl)
 ·rfl
 ·rfl
 ·exact .inl rfl
 ·decide
 refine qw K_skin_of hr (by decide) (qx.gl 1 rfl rfl) ?_ rfl
 refine qb ?_ ?_
 exact qd 0 (qx.vis 0 rfl) (by decide)
 exact qg
 refine ql (M1:=[]) ?_ ?_
 refine qQ 3 ?_ ?_ ?_ ?_ ?_ ?_ ?_
 ·exact qx.fs.nd
 ·exact (qx.loc 3 rfl)
 ·rfl
 ·rfl
 ·exact .inl rfl
 ·decide
 refine qw K_numbers_of hr (by decide) (qx.gl 2 rfl rfl) ?_ rfl
 refine qb ?_ ?_
 exact qd 2 (qx.vis 2 rfl) (by decide)
 exact qg
 refine ql (M1:=[4]) ?_ ?_
 refine Qx 4 ?_ ?_ ?_ ?_ ?_ ?_ ?_ ?_
 ·exact qx.fs.nd
 ·exact (qx.loc 4 rfl)
 ·rfl
 ·rfl
 ·exact .inl rfl
 ·decide
 ·decide
 refine j6 ?_
 exact qg
 refine ql (M1:=[4]) ?_ ?_
 refine Qo PassesOwn.never rfl ?_ (λ _=>?_) (λ _=>?_)
 refine Jt ?_
 refine qw K_edge_counts hr (by decide) (qx.gl 5 rfl rfl) ?_ rfl
 refine qb ?_ ?_
 exact qd 2 (qx.vis 2 rfl) (by decide)
 exact qg
 exact zg 5 qx.fs.nd (qx.loc 5 rfl) (by decide)
 refine ZS (M':=[6,4]) [4] ?_ ?_ ?_
 refine ql (M1:=[6,4]) ?_ ?_
 refine ZR 6 (CompOk.of (k:=1) jT ["solid", "crowd", "squares", "numbers", "joins", "edge", "pair", "square"] (qm T15) rfl rfl rfl (by decide +kernel)) rfl (by decide +kernel) (qm T15) rfl (by decide +kernel) (by decide) (by decide) ?_ (λ _ _ _ _ _ _=>?_) (λ _ _ _ _ _ _=>?_)
 refine zf ?_
 refine qw K_squares_at hr (by decide) (qx.gl 3 rfl rfl) ?_ rfl
 refine qb ?_ ?_
 exact qd 5 (qx.vis 5 rfl) (by decide)
 exact qg
 refine QV ?_
 refine q8 (d_in2 hr) ?_ ?_ rfl
 exact qd 7 (qz (by decide +kernel)) (by decide)
 exact qd 3 (qz (by decide +kernel)) (by decide)
 exact qd 7 (qz (by decide +kernel)) (by decide)
 refine qt ?_
 refine Ju 4 (qx.vis 4 rfl) (by decide) (by decide) ?_
 refine zH ?_
 refine qb ?_ ?_
 refine YC hr ?_ ?_
 exact qd 3 (qx.vis 3 rfl) (by decide)
 refine qF ?_ ?_
 exact qd 6 (qx.vis 6 rfl) (by decide)
 exact qe
 refine qb ?_ ?_
 refine YC hr ?_ ?_
 exact qd 3 (qx.vis 3 rfl) (by decide)
 refine qF ?_ ?_
 exact qd 6 (qx.vis 6 rfl) (by decide)
 exact qe
 refine qb ?_ ?_
 refine qw K_bend_over hr (by decide) (qx.gl 4 rfl rfl) ?_ rfl
 refine qb ?_ ?_
 exact qd 0 (qx.vis 0 rfl) (by decide)
 refine qb ?_ ?_
 refine qF ?_ ?_
 exact qd 6 (qx.vis 6 rfl) (by decide)
 exact qe
 refine qb ?_ ?_
 exact qd 5 (qx.vis 5 rfl) (by decide)
 refine qb ?_ ?_
 refine qF ?_ ?_
 exact qd 6 (qx.vis 6 rfl) (by decide)
 exact qe
 exact qg
 exact qg
 ·rfl
 ·rfl
 refine qt ?_
 refine qI ?_
 refine jh ?_
 refine jM (jH hr) (qx.gl 6 rfl rfl) z_sorted QL ?_
 refine qb ?_ ?_
 exact qd 4 (qx.vis 4 rfl) (by decide)
 exact qg
abbrev T34:Stmt:=top 45
abbrev yD:List Str:=["_law_script", "_law_base_here", "_law_cells_here", "_law_wound", "_law_others", "_law_solid_here", "_law_squares", "_law_outs", "_law_mine", "_law_met_here", "_law_joins", "_law_many", "_law_i", "_law_j", "_law_bend", "_law_both"]
theorem qG:ScOk yD ["_law_script"] ["_law_base", "_law_cells", "_law_cell_at", "_law_solid", "_law_skin", "_law_poses_right", "_law_plain", "list", "_law_met", "skin_joins", "_law_spots", "len", "_law_leads"] (qm T34):=scmk (by kernel_rfl)
def qeP:Rho->Option Out:=(seqO (sSet 1 (evC 1 (aC (zG 16 (evI (evA (aC (kd (.int 1)) (aC (kd (.int 2)) (aC (kd (.int 3)) aN))) tupD) seqD) tT (evC 2 (aC (vr 0) (aC (vr 16) aN)) zy)) aN) Q8)) (seqO (sSet 2 (evC 1 (aC (vr 0) aN) QM)) (seqO (sSet 3 (evC 3 (aC (vr 2) (aC (vr 1) (aC (ev2 (kd (.int 1)) (ev2 (ev2 (evC 2 (aC (vr 0) (aC (kd (.int 0)) aN)) zy) (kd (.int 2)) QT) (kd (.int 24)) modD) qJ) aN))) zL)) (seqO (sSet 4 (evC 1 (aC (vr 3) aN) zu)) (seqO (sIf (tN (tV (evC 3 (aC (vr 3) (aC (vr 4) (aC (zG 16 (evI (vr 4) seqD) tT (evC 2 (aC (vr 3) (aC (vr 16) aN)) Qc)) aN))) zJ))) (sRet (kd (.bool false))) sN) (seqO (sSet 5 (evC 2 (aC (vr 2) (aC (vr 1) aN)) QQ)) (seqO (sSet 6 (evC 1 (aC (vr 5) aN) zu)) (seqO (qY 7 (zG 16 (evI (vr 6) seqD) tT (evC 2 (aC (vr 5) (aC (vr 16) aN)) Qc))) (seqO (sSet 8 (evA (aC (vr 5) aN) Zc)) (seqO (sIf (tN (tV (evC 3 (aC (vr 5) (aC (vr 6) (aC (vr 7) aN))) zJ))) (sRet (kd (.bool false))) sN) (seqO (sSet 9 (evC 1 (aC (vr 6) aN) QF)) (seqO (sSet 10 (evC 1 (aC (vr 8) aN) Zk)) (seqO (sIf (tO (tV (ev2 (vr 8) (vr 5) neD)) (tO (tN (tV (evC 1 (aC (vr 10) aN) Qi))) (tV (ev2 (evA (aC (vr 10) aN) lenD) (ev2 (kd (.int 2)) (evA (aC (vr 6) aN) lenD) mulD) neD)))) (sRet (kd (.bool false))) sN) (seqO (qY 11 (zG 16 (evI (vr 6) seqD) tT (kd (.int 0)))) (seqO (sFor (evI (vr 10) seqD) (unpD 3 (gsC (gNm 12) (gsC (gNm 13) (gsC (gNm 14) gsN)))) (seqO (sIf (tO (tN (tV (Y0 (kd (.int 0)) (vr 12) (vr 13) (evA (aC (vr 6) aN) lenD) leD ltD2 ltD2))) (tV (ev2 (vr 14) (evA (aC (ev1 (kd (.int 1)) negD) (aC (kd (.int 0)) (aC (kd (.int 1)) aN))) tupD) ninD))) (sRet (kd (.bool false))) sN) (seqO (qY 15 (zG 16 (evI (vr 9) Jc) (tV (ev2 (ev2 (vr 9) (vr 16) ix2D) (evA (aC (vr 12) (aC (vr 13) aN)) lstD) eqD)) (vr 16))) (seqO (sIf (tV (ev2 (evA (aC (vr 15) aN) lenD) (kd (.int 1)) neD)) (sRet (kd (.bool false))) sN) (seqO (sIf (tN (tV (evC 6 (aC (ev2 (vr 6) (vr 12) ixD) (aC (ev2 (vr 7) (vr 12) ixD) (aC (ev2 (vr 15) (kd (.int 0)) ixD) (aC (vr 14) (aC (ev2 (vr 6) (vr 13) ixD) (aC (ev2 (vr 7) (vr 13) ixD) aN)))))) zA))) (sRet (kd (.bool false))) sN) (seqO (sIf (tN (tV (evC 6 (aC (ev2 (vr 6) (vr 13) ixD) (aC (ev2 (vr 7) (vr 13) ixD) (aC (ev2 (vr 15) (kd (.int 0)) ixD) (aC (vr 14) (aC (ev2 (vr 6) (vr 12) ixD) (aC (ev2 (vr 7) (vr 12) ixD) aN)))))) zA))) (sRet (kd (.bool false))) sN) (seqO (sPut 11 (vr 12) (qP (ev2 (ev2 (vr 11) (vr 12) ixD) (kd (.int 1)) qJ))) (sPut 11 (vr 13) (qP (ev2 (ev2 (vr 11) (vr 13) ixD) (kd (.int 1)) qJ)))))))))) (sRet (ev2 (vr 11) (zG 16 (evI (vr 6) seqD) tT (kd (.int 4))) eqD)))))))))))))))))
def qgk (ds:List PyData):Option PyData:=ob (qeP (rho0 yD.length ds)) outD
theorem qkk (F:Fun K "law" "law" T34 f fd)(K__law_base:Known P w K mg base "_law_base" 1 1 Q8)(K__law_cell_at:Known P w K mg base "_law_cell_at" 2 1 zy)(K__law_cells:Known P w K mg base "_law_cells" 1 2 QM)(K__law_solid:Known P w K mg base "_law_solid" 3 1 zL)(K__law_skin:Known P w K mg base "_law_skin" 1 1 zu)(K__law_poses_right:Known P w K mg base "_law_poses_right" 3 5 zJ)(K__law_out:Known P w K mg base "_law_out" 2 1 Qc)(K__law_plain:Known P w K mg base "_law_plain" 2 3 QQ)(K__law_met:Known P w K mg base "_law_met" 1 2 QF)(K_skin_joins:Known P w K mg base "skin_joins" 1 6 Zk)(K__law_spots:Known P w K mg base "_law_spots" 1 2 Qi)(K__law_leads:Known P w K mg base "_law_leads" 6 1 zA)(z_list:mg "list" = none)(z_len:mg "len" = none):FnOk P w K mg base CX0 7 f fd ["_law_script"] (spF K 1 qgk):=by
 refine F.pure (k:=6) (u:=qeP) (M':=[]) qG.fs rfl (λ cdv A outer s H E hr G=>?_)
 refine ql (M1:=[]) ?_ ?_
 refine qQ 1 ?_ ?_ ?_ ?_ ?_ ?_ ?_
 ·exact qG.fs.nd
 ·exact (qG.loc 1 rfl)
 ·rfl
 ·rfl
 ·exact .inl rfl
 ·decide
 refine qw K__law_base hr (by decide) (qG.gl 0 rfl rfl) ?_ rfl
 refine qb ?_ ?_
 refine QZ (CompOk.of (k:=1) yD ["_law_script", "_law_base_here", "_law_cells_here", "_law_wound", "_law_others", "_law_solid_here", "_law_squares", "_law_outs", "_law_mine", "_law_met_here", "_law_joins", "_law_many", "_law_i", "_law_j", "_law_bend", "_law_both", "_law_k"] (qm T34) rfl rfl rfl (by decide +kernel)) rfl (by decide +kernel) ?_ (λ _ _ _ _ _ _=>?_) (λ _ _ _ _ _ _=>?_)
 refine zf ?_
 refine zH ?_
 refine qb ?_ ?_
 exact qe
 refine qb ?_ ?_
 exact qe
 refine qb ?_ ?_
 exact qe
 exact qg
 exact Qy
 refine qw K__law_cell_at hr (by decide) (jt (by decide +kernel)) ?_ rfl
 refine qb ?_ ?_
 exact qd 0 (qz (by decide +kernel)) (by decide)
 refine qb ?_ ?_
 exact qd 16 (qz (by decide +kernel)) (by decide)
 exact qg
 exact qg
 refine ql (M1:=[]) ?_ ?_
 refine qQ 2 ?_ ?_ ?_ ?_ ?_ ?_ ?_
 ·exact qG.fs.nd
 ·exact (qG.loc 2 rfl)
 ·rfl
 ·rfl
 ·exact .inl rfl
 ·decide
 refine qw K__law_cells hr (by decide) (qG.gl 1 rfl rfl) ?_ rfl
 refine qb ?_ ?_
 exact qd 0 (qG.vis 0 rfl) (by decide)
 exact qg
 refine ql (M1:=[]) ?_ ?_
 refine qQ 3 ?_ ?_ ?_ ?_ ?_ ?_ ?_
 ·exact qG.fs.nd
 ·exact (qG.loc 3 rfl)
 ·rfl
 ·rfl
 ·exact .inl rfl
 ·decide
 refine qw K__law_solid hr (by decide) (qG.gl 3 rfl rfl) ?_ rfl
 refine qb ?_ ?_
 exact qd 2 (qG.vis 2 rfl) (by decide)
 refine qb ?_ ?_
 exact qd 1 (qG.vis 1 rfl) (by decide)
 refine qb ?_ ?_
 refine qy zx ?_ ?_
 exact qe
 refine qy Zh ?_ ?_
 refine qy je ?_ ?_
 refine qw K__law_cell_at hr (by decide) (qG.gl 2 rfl rfl) ?_ rfl
 refine qb ?_ ?_
 exact qd 0 (qG.vis 0 rfl) (by decide)
 refine qb ?_ ?_
 exact qe
 exact qg
 exact qe
 exact qe
 exact qg
 refine ql (M1:=[]) ?_ ?_
 refine qQ 4 ?_ ?_ ?_ ?_ ?_ ?_ ?_
 ·exact qG.fs.nd
 ·exact (qG.loc 4 rfl)
 ·rfl
 ·rfl
 ·exact .inl rfl
 ·decide
 refine qw K__law_skin hr (by decide) (qG.gl 4 rfl rfl) ?_ rfl
 refine qb ?_ ?_
 exact qd 3 (qG.vis 3 rfl) (by decide)
 exact qg
 refine ql (M1:=[]) ?_ ?_
 refine Qf ?_ ?_ ?_
 refine Q0 ?_
 refine Zt ?_
 refine qw K__law_poses_right hr (by decide) (qG.gl 5 rfl rfl) ?_ rfl
 refine qb ?_ ?_
 exact qd 3 (qG.vis 3 rfl) (by decide)
 refine qb ?_ ?_
 exact qd 4 (qG.vis 4 rfl) (by decide)
 refine qb ?_ ?_
 refine QZ (CompOk.of (k:=1) yD ["_law_script", "_law_base_here", "_law_cells_here", "_law_wound", "_law_others", "_law_solid_here", "_law_squares", "_law_outs", "_law_mine", "_law_met_here", "_law_joins", "_law_many", "_law_i", "_law_j", "_law_bend", "_law_both", "_law_square"] (qm T34) rfl rfl rfl (by decide +kernel)) rfl (by decide +kernel) ?_ (λ _ _ _ _ _ _=>?_) (λ _ _ _ _ _ _=>?_)
 refine zf ?_
 exact qd 4 (qG.vis 4 rfl) (by decide)
 exact Qy
 refine qw K__law_out hr (by decide) (jt (by decide +kernel)) ?_ rfl
 refine qb ?_ ?_
 exact qd 3 (qz (by decide +kernel)) (by decide)
 refine qb ?_ ?_
 exact qd 16 (qz (by decide +kernel)) (by decide)
 exact qg
 exact qg
 refine qt ?_
 refine qI ?_
 exact jK
 exact zM
 refine ql (M1:=[]) ?_ ?_
 refine qQ 5 ?_ ?_ ?_ ?_ ?_ ?_ ?_
 ·exact qG.fs.nd
 ·exact (qG.loc 5 rfl)
 ·rfl
 ·rfl
 ·exact .inl rfl
 ·decide
 refine qw K__law_plain hr (by decide) (qG.gl 6 rfl rfl) ?_ rfl
 refine qb ?_ ?_
 exact qd 2 (qG.vis 2 rfl) (by decide)
 refine qb ?_ ?_
 exact qd 1 (qG.vis 1 rfl) (by decide)
 exact qg
 refine ql (M1:=[]) ?_ ?_
 refine qQ 6 ?_ ?_ ?_ ?_ ?_ ?_ ?_
 ·exact qG.fs.nd
 ·exact (qG.loc 6 rfl)
 ·rfl
 ·rfl
 ·exact .inl rfl
 ·decide
 refine qw K__law_skin hr (by decide) (qG.gl 4 rfl rfl) ?_ rfl
 refine qb ?_ ?_
 exact qd 5 (qG.vis 5 rfl) (by decide)
 exact qg
 refine ql (M1:=[7]) ?_ ?_
 refine ZR 7 (CompOk.of (k:=1) yD ["_law_script", "_law_base_here", "_law_cells_here", "_law_wound", "_law_others", "_law_solid_here", "_law_squares", "_law_outs", "_law_mine", "_law_met_here", "_law_joins", "_law_many", "_law_i", "_law_j", "_law_bend", "_law_both", "_law_square"] (qm T34) rfl rfl rfl (by decide +kernel)) rfl (by decide +kernel) (qm T34) rfl (by decide +kernel) (by decide) (by decide) ?_ (λ _ _ _ _ _ _=>?_) (λ _ _ _ _ _ _=>?_)
 refine zf ?_
 exact qd 6 (qG.vis 6 rfl) (by decide)
 exact Qy
 refine qw K__law_out hr (by decide) (jt (by decide +kernel)) ?_ rfl
 refine qb ?_ ?_
 exact qd 5 (qz (by decide +kernel)) (by decide)
 refine qb ?_ ?_
 exact qd 16 (qz (by decide +kernel)) (by decide)
 exact qg
 refine ql (M1:=[7]) ?_ ?_
 refine qQ 8 ?_ ?_ ?_ ?_ ?_ ?_ ?_
 ·exact qG.fs.nd
 ·exact (qG.loc 8 rfl)
 ·rfl
 ·rfl
 ·exact .inl rfl
 ·decide
 refine zP qcY (qG.gl 7 rfl rfl) z_list rfl ?_
 refine qb ?_ ?_
 exact qd 5 (qG.vis 5 rfl) (by decide)
 exact qg
 refine ql (M1:=[7]) ?_ ?_
 refine Qf ?_ ?_ ?_
 refine Q0 ?_
 refine Zt ?_
 refine qw K__law_poses_right hr (by decide) (qG.gl 5 rfl rfl) ?_ rfl
 refine qb ?_ ?_
 exact qd 5 (qG.vis 5 rfl) (by decide)
 refine qb ?_ ?_
 exact qd 6 (qG.vis 6 rfl) (by decide)
 refine qb ?_ ?_
 exact qd 7 (qG.vis 7 rfl) (by decide)
 exact qg
 refine qt ?_
 refine qI ?_
 exact jK
 exact zM
 refine ql (M1:=[7]) ?_ ?_
 refine qQ 9 ?_ ?_ ?_ ?_ ?_ ?_ ?_
 ·exact qG.fs.nd
 ·exact (qG.loc 9 rfl)
 ·rfl
 ·rfl
 ·exact .inl rfl
 ·decide
 refine qw K__law_met hr (by decide) (qG.gl 8 rfl rfl) ?_ rfl
 refine qb ?_ ?_
 exact qd 6 (qG.vis 6 rfl) (by decide)
 exact qg
 refine ql (M1:=[7]) ?_ ?_
 refine qQ 10 ?_ ?_ ?_ ?_ ?_ ?_ ?_
 ·exact qG.fs.nd
 ·exact (qG.loc 10 rfl)
 ·rfl
 ·rfl
 ·exact .inl rfl
 ·decide
 refine qw K_skin_joins hr (by decide) (qG.gl 9 rfl rfl) ?_ rfl
 refine qb ?_ ?_
 exact qd 8 (qG.vis 8 rfl) (by decide)
 exact qg
 refine ql (M1:=[7]) ?_ ?_
 refine Qf ?_ ?_ ?_
 refine PDW.pdt ?_
 refine YF ?_ ?_
 refine q8 (d_ne hr) ?_ ?_ (zr _)
 exact qd 8 (qG.vis 8 rfl) (by decide)
 exact qd 5 (qG.vis 5 rfl) (by decide)
 refine YF ?_ ?_
 refine Q0 ?_
 refine Zt ?_
 refine qw K__law_spots hr (by decide) (qG.gl 10 rfl rfl) ?_ rfl
 refine qb ?_ ?_
 exact qd 10 (qG.vis 10 rfl) (by decide)
 exact qg
 refine wH ?_
 refine q8 (d_ne hr) ?_ ?_ (zr _)
 refine zQ jA (qG.gl 11 rfl rfl) z_len PySem.boot_len ?_
 refine qb ?_ ?_
 exact qd 10 (qG.vis 10 rfl) (by decide)
 exact qg
 refine qy zK ?_ ?_
 exact qe
 refine zQ jA (qG.gl 11 rfl rfl) z_len PySem.boot_len ?_
 refine qb ?_ ?_
 exact qd 6 (qG.vis 6 rfl) (by decide)
 exact qg
 refine qt ?_
 refine qI ?_
 exact jK
 exact zM
 refine ql (M1:=[11,7]) ?_ ?_
 refine ZR 11 (CompOk.of (k:=1) yD ["_law_script", "_law_base_here", "_law_cells_here", "_law_wound", "_law_others", "_law_solid_here", "_law_squares", "_law_outs", "_law_mine", "_law_met_here", "_law_joins", "_law_many", "_law_i", "_law_j", "_law_bend", "_law_both", "_law_square"] (qm T34) rfl rfl rfl (by decide +kernel)) rfl (by decide +kernel) (qm T34) rfl (by decide +kernel) (by decide) (by decide) ?_ (λ _ _ _ _ _ _=>?_) (λ _ _ _ _ _ _=>?_)
 refine zf ?_
 exact qd 6 (qG.vis 6 rfl) (by decide)
 exact Qy
 exact qe
 refine ql (M1:=[11,7]) ?_ ?_
 refine Qo PassesOwn.never rfl ?_ (λ _=>?_) (λ _=>?_)
 refine zf ?_
 exact qd 10 (qG.vis 10 rfl) (by decide)
 refine qiJ rfl ?_
 refine YD ?_ ?_
 exact zg 12 qG.fs.nd (qG.loc 12 rfl) (by decide)
 refine YD ?_ ?_
 exact zg 13 qG.fs.nd (qG.loc 13 rfl) (by decide)
 refine YD ?_ ?_
 exact zg 14 qG.fs.nd (qG.loc 14 rfl) (by decide)
 exact qg5
 refine ZS (M':=[15,11,7]) [11,7] ?_ ?_ ?_
 refine ql (M1:=[11,7]) ?_ ?_
 refine Qf ?_ ?_ ?_
 refine PDW.pdt ?_
 refine YF ?_ ?_
 refine Q0 ?_
 refine qdv d_le (qd4 hr) (qd4 hr) ?_ ?_ ?_ ?_
 exact qe
 exact qd 12 (qG.vis 12 rfl) (by decide)
 exact qd 13 (qG.vis 13 rfl) (by decide)
 refine zQ jA (qG.gl 11 rfl rfl) z_len PySem.boot_len ?_
 refine qb ?_ ?_
 exact qd 6 (qG.vis 6 rfl) (by decide)
 exact qg
 refine wH ?_
 refine q8 (yK hr) ?_ ?_ rfl
 exact qd 14 (qG.vis 14 rfl) (by decide)
 refine zH ?_
 refine qb ?_ ?_
 refine Js Jk ?_
 exact qe
 refine qb ?_ ?_
 exact qe
 refine qb ?_ ?_
 exact qe
 exact qg
 refine qt ?_
 refine qI ?_
 exact jK
 exact zM
 refine ql (M1:=[15,11,7]) ?_ ?_
 refine ZR 15 (CompOk.of (k:=1) yD ["_law_script", "_law_base_here", "_law_cells_here", "_law_wound", "_law_others", "_law_solid_here", "_law_squares", "_law_outs", "_law_mine", "_law_met_here", "_law_joins", "_law_many", "_law_i", "_law_j", "_law_bend", "_law_both", "_law_edge"] (qm T34) rfl rfl rfl (by decide +kernel)) rfl (by decide +kernel) (qm T34) rfl (by decide +kernel) (by decide) (by decide) ?_ (λ _ _ _ _ _ _=>?_) (λ _ _ _ _ _ _=>?_)
 refine Jt ?_
 exact qd 9 (qG.vis 9 rfl) (by decide)
 refine QV ?_
 refine q8 (d_eq hr) ?_ ?_ (zr _)
 refine YC hr ?_ ?_
 exact qd 9 (qz (by decide +kernel)) (by decide)
 exact qd 16 (qz (by decide +kernel)) (by decide)
 refine qds ?_
 refine qb ?_ ?_
 exact qd 12 (qz (by decide +kernel)) (by decide)
 refine qb ?_ ?_
 exact qd 13 (qz (by decide +kernel)) (by decide)
 exact qg
 exact qd 16 (qz (by decide +kernel)) (by decide)
 refine ql (M1:=[15,11,7]) ?_ ?_
 refine Qf ?_ ?_ ?_
 refine q8 (d_ne hr) ?_ ?_ (zr _)
 refine zQ jA (qG.gl 11 rfl rfl) z_len PySem.boot_len ?_
 refine qb ?_ ?_
 exact qd 15 (qG.vis 15 rfl) (by decide)
 exact qg
 exact qe
 refine qt ?_
 refine qI ?_
 exact jK
 exact zM
 refine ql (M1:=[15,11,7]) ?_ ?_
 refine Qf ?_ ?_ ?_
 refine Q0 ?_
 refine Zt ?_
 refine qw K__law_leads hr (by decide) (qG.gl 12 rfl rfl) ?_ rfl
 refine qb ?_ ?_
 refine qF ?_ ?_
 exact qd 6 (qG.vis 6 rfl) (by decide)
 exact qd 12 (qG.vis 12 rfl) (by decide)
 refine qb ?_ ?_
 refine qF ?_ ?_
 exact qd 7 (qG.vis 7 rfl) (by decide)
 exact qd 12 (qG.vis 12 rfl) (by decide)
 refine qb ?_ ?_
 refine qF ?_ ?_
 exact qd 15 (qG.vis 15 rfl) (by decide)
 exact qe
 refine qb ?_ ?_
 exact qd 14 (qG.vis 14 rfl) (by decide)
 refine qb ?_ ?_
 refine qF ?_ ?_
 exact qd 6 (qG.vis 6 rfl) (by decide)
 exact qd 13 (qG.vis 13 rfl) (by decide)
 refine qb ?_ ?_
 refine qF ?_ ?_
 exact qd 7 (qG.vis 7 rfl) (by decide)
 exact qd 13 (qG.vis 13 rfl) (by decide)
 exact qg
 refine qt ?_
 refine qI ?_
 exact jK
 exact zM
 refine ql (M1:=[15,11,7]) ?_ ?_
 refine Qf ?_ ?_ ?_
 refine Q0 ?_
 refine Zt ?_
 refine qw K__law_leads hr (by decide) (qG.gl 12 rfl rfl) ?_ rfl
 refine qb ?_ ?_
 refine qF ?_ ?_
 exact qd 6 (qG.vis 6 rfl) (by decide)
 exact qd 13 (qG.vis 13 rfl) (by decide)
 refine qb ?_ ?_
 refine qF ?_ ?_
 exact qd 7 (qG.vis 7 rfl) (by decide)
 exact qd 13 (qG.vis 13 rfl) (by decide)
 refine qb ?_ ?_
 refine qF ?_ ?_
 exact qd 15 (qG.vis 15 rfl) (by decide)
 exact qe
 refine qb ?_ ?_
 exact qd 14 (qG.vis 14 rfl) (by decide)
 refine qb ?_ ?_
 refine qF ?_ ?_
 exact qd 6 (qG.vis 6 rfl) (by decide)
 exact qd 12 (qG.vis 12 rfl) (by decide)
 refine qb ?_ ?_
 refine qF ?_ ?_
 exact qd 7 (qG.vis 7 rfl) (by decide)
 exact qd 12 (qG.vis 12 rfl) (by decide)
 exact qg
 refine qt ?_
 refine qI ?_
 exact jK
 exact zM
 refine ql (M1:=[15,11,7]) ?_ ?_
 refine ZV 11 (qG.vis 11 rfl) (by decide) (by decide) ?_ ?_
 exact qd 12 (qG.vis 12 rfl) (by decide)
 refine qy zx ?_ ?_
 refine qF ?_ ?_
 exact qd 11 (qG.vis 11 rfl) (by decide)
 exact qd 12 (qG.vis 12 rfl) (by decide)
 exact qe
 refine qt ?_
 refine ZV 11 (qG.vis 11 rfl) (by decide) (by decide) ?_ ?_
 exact qd 13 (qG.vis 13 rfl) (by decide)
 refine qy zx ?_ ?_
 refine qF ?_ ?_
 exact qd 11 (qG.vis 11 rfl) (by decide)
 exact qd 13 (qG.vis 13 rfl) (by decide)
 exact qe
 ·rfl
 ·rfl
 refine qt ?_
 refine qI ?_
 refine Jr (d_eq hr) ?_ ?_ (zr _)
 exact qd 11 (qG.vis 11 rfl) (by decide)
 refine QZ (CompOk.of (k:=1) yD ["_law_script", "_law_base_here", "_law_cells_here", "_law_wound", "_law_others", "_law_solid_here", "_law_squares", "_law_outs", "_law_mine", "_law_met_here", "_law_joins", "_law_many", "_law_i", "_law_j", "_law_bend", "_law_both", "_law_square"] (qm T34) rfl rfl rfl (by decide +kernel)) rfl (by decide +kernel) ?_ (λ _ _ _ _ _ _=>?_) (λ _ _ _ _ _ _=>?_)
 refine zf ?_
 exact qd 6 (qG.vis 6 rfl) (by decide)
 exact Qy
 exact qe
end SF
local macro_rules
 | `(tactic| simp_arith [$ts,*] $[$loc]?)=> do
  let q := ("L2.rho0 List.map_cons List.map_nil List.length_cons List.length_nil Nat.reduceAdd Nat.reduceSub Nat.zero_add Nat.sub_self List.replicate_succ List.replicate_zero List.cons_append List.nil_append List.append_nil L2.qkV L2.qfV L2.qfW L2.qfT L2.qfU L2.ifO_t L2.ifO_f L2.sIf_b L2.vIf_b L2.tA_b L2.tO_b L2.vA_b L2.vN L2.qkS L2.qkX L2.qkR L2.qkM L2.sN L2.sBk L2.sCt L2.tV L2.tN L2.tT L2.ev2_b L2.qjM L2.ev1 L2.vr_z L2.vr_s L2.kd L2.evA L2.evC_b L2.qhM L2.evC0 L2.aC_b L2.qhX L2.aN L2.qkb L2.qkc L2.tupD L2.lstD L2.qhz L2.qhA L2.qiq L2.qir L2.qjF L2.qk3 L2.qkg L2.qgl L2.qeq L2.pow_a L2.pow_b L2.qh6 L2.wG L2.qdn L2.qju L2.gtD_i L2.qhL L2.ixD_l L2.ixD_t L2.atI0 L2.atI1 L2.atI2 L2.atI3 L2.atI4 L2.atI5 L2.qkt L2.qks L2.ob_s L2.gNm L2.gsN_n L2.gsC_c L2.qlb List.set_cons_zero List.set_cons_succ List.set_nil L2.evI L2.evR L2.qkT L2.qkU L2.qi8 L2.rngL L2.qhV L2.qhR L2.qdX L2.qhT L2.qd0 L2.qdZ L2.qis L2.qho L2.qgo L2.qc9 L2.qjW L2.qaU L2.qid L2.qic L2.qea if_true if_false Bool.false_eq_true Bool.not_true Bool.not_false Nat.reduceLeDiff and_self and_true true_and Int.reduceToNat Int.reduceAdd Int.reduceSub Int.reduceLE Int.reduceLT Int.reduceNeg reduceIte L2.isiD L2.qj3 L2.qj0 L2.qjZ L2.qjY L2.qj2 L2.qj1 String.reduceBEq L2.natLit Int.reduceBEq Bool.true_or Bool.or_true Bool.false_or Bool.or_false L2.qjc L2.qk6 L2.qh9 L2.qjT L2.qia L2.qjU L2.qkO L2.qjI L2.qjH L2.qj5 L2.qj4 L2.evS_b L2.qk0 L2.oN L2.oS_b L2.qkE Nat.reduceLT decide_true decide_false L2.qkQ L2.qkI L2.qkW L2.qhp L2.qhF L2.qhy L2.qh4 L2.qh5 L2.enL_n L2.enL_c L2.qd2 L2.qhW L2.qdW L2.qdU L2.qhS L2.qhU L2.qhQ L2.qjb L2.dpO_s L2.qkj L2.ev3_b L2.qk7".splitOn " ").toArray.map λ s => Lean.mkIdent s.toName
  `(tactic| simp only [$[$q:term],*, $ts,*] $[$loc]?)
namespace SF
open PySem L2
def QB (ns:List Int)(k:Int):Int:=ns.getD k.toNat 0
theorem cell_bd {ns:List Int}(h:∀ k∈ns,Builtin.Int.intBits k<=2 ^ 20)(k:Int):Bd 1048576 (QB ns k):=by
 unfold QB
 by_cases hk:k.toNat<ns.length
 ·rw [List.getD_eq_getElem?_getD,List.getElem?_eq_getElem hk]
  exact h _ (List.getElem_mem hk)
 ·rw [List.getD_eq_getElem?_getD,List.getElem?_eq_none (by omega)]
  show Builtin.Int.intBits 0<=1048576
  decide
theorem cell_eq (ns:List Int)(k:Int)(hk:0<=k):zy [.list (ns.map .int),.int k]=some (.int (QB ns k)):=by
 simp only [zy,jj]
 simp_arith []
 by_cases h:k<((ns.map PyData.int).length:Int)
 ·have h':k.toNat<ns.length:=by rw [List.length_map] at h;omega
  have e:atI (ns.map PyData.int) k=some (.int (QB ns k)):=by
   have e1:((k.toNat:Nat):Int)=k:=by omega
   have:=qdO (xs:=ns.map PyData.int) (j:=k.toNat) (v:=.int (QB ns k)) (by
    rw [List.getElem?_map,List.getElem?_eq_getElem h']
    unfold QB
    rw [List.getD_eq_getElem?_getD,List.getElem?_eq_getElem h']
    rfl)
   rw [e1] at this
   exact this
  simp_arith [decide_eq_true h,e]
 ·have h':¬ k.toNat<ns.length:=by rw [List.length_map] at h;omega
  have e:QB ns k=0:=by
   unfold QB
   rw [List.getD_eq_getElem?_getD,List.getElem?_eq_none (by omega)]
   rfl
  simp_arith [decide_eq_false h,e]
abbrev Sp:=Int×Int×Int
def eS (s:Sp):PyData:=.tuple [.int s.1,.int s.2.1,.int s.2.2]
def l3 (s:Sp):List Int:=[s.1,s.2.1,s.2.2]
def b3:List Int->Sp
 | [a,b,c]=>(a,b,c)
 | _=>(0,0,0)
theorem qdp (xs:List Sp):xs.map eS=(xs.map l3).map tI:=by rw [List.map_map];rfl
theorem ZL {xs:List Sp}(h:xs.length<64):∃ ys:List Sp,Qg [.list (xs.map eS)]=some (.list (ys.map eS))/\ys.Perm xs/\(ys.map l3).Pairwise (λ a b=>HT.lexLt b a=false):=by
 obtain ⟨mss,e,p,o⟩:=qbn (nss:=xs.map l3) (by rw [List.length_map];exact h) (by
  intro ns hn
  obtain ⟨x,_,rfl⟩:=List.mem_map.mp hn
  exact λ z=>by cases z)
 have back:∀ m∈mss,(l3 ∘ b3) m=id m:=λ m hm=>by
  obtain ⟨x,_,rfl⟩:=List.mem_map.mp (p.mem_iff.mp hm)
  rfl
 have hm:(mss.map b3).map l3=mss:=by
  rw [List.map_map]
  exact (List.map_congr_left back).trans (List.map_id mss)
 refine ⟨mss.map b3,?_,?_,?_⟩
 ·rw [qdp,e,qdp,hm]
 ·have:=p.map b3
  rw [List.map_map] at this
  have e2:xs.map (b3 ∘ l3)=xs:=(List.map_congr_left (λ x _=>rfl)).trans (List.map_id xs)
  rwa [e2] at this
 ·rw [hm];exact o
theorem ju {as bs:List Sp}(p:as.Perm bs)(h1:(as.map l3).Pairwise (λ a b=>HT.lexLt b a=false))(h2:(bs.map l3).Pairwise (λ a b=>HT.lexLt b a=false)):as=bs:=by
 have:=J4 (p.map l3) h1 h2
 have e:=congrArg (List.map b3) this
 rw [List.map_map,List.map_map] at e
 have k:∀ xs:List Sp,xs.map (b3 ∘ l3)=xs:=λ xs=>(List.map_congr_left (λ x _=>rfl)).trans (List.map_id xs)
 rwa [k,k] at e
theorem J9 (a b:Sp):PyData.eqv (eS a) (eS b)=decide (a=b):=by
 have:PyData.eqv (eS a) (eS b)=((a.1==b.1)&&((a.2.1==b.2.1)&&((a.2.2==b.2.2)&&true))):=rfl
 rw [this]
 obtain ⟨a1,a2,a3⟩:=a
 obtain ⟨b1,b2,b3⟩:=b
 by_cases h1:a1=b1<;>by_cases h2:a2=b2<;>by_cases h3:a3=b3<;>simp [h1,h2,h3]
theorem qf2 (xs:List Sp):PyData.canLayAll0 (xs.map eS)=true/\PyData.depthAll (xs.map eS)<=1:=by rw [qdp];exact wV _
theorem qef (xs:List Sp)(q:Sp):inOk (xs.map eS) (eS q)=true:=by
 unfold inOk
 rw [(qf2 xs).1,Bool.true_and,Bool.and_eq_true]
 exact ⟨rfl,rfl⟩
theorem qgv (xs:List Sp)(q:Sp):inL (xs.map eS) (eS q)=decide (q∈xs):=by
 unfold inL
 rw [List.any_map]
 induction xs with
 | nil=>rfl
 | cons x xs ih =>
  rw [List.any_cons,ih]
  show (PyData.eqv (eS x) (eS q)||_)=_
  rw [J9]
  by_cases h:x=q
  ·subst h;rw [decide_eq_true rfl,Bool.true_or,decide_eq_true List.mem_cons_self]
  ·rw [decide_eq_false h,Bool.false_or]
   by_cases h2:q∈xs
   ·rw [decide_eq_true h2,decide_eq_true (List.mem_cons_of_mem _ h2)]
   ·rw [decide_eq_false h2,decide_eq_false (by rw [List.mem_cons];rintro (rfl|z);exact h rfl;exact h2 z)]
theorem qgu (xs:List Sp)(q:Sp):inD (eS q) (.list (xs.map eS))=some (.bool (decide (q∈xs))):=by
 show (if inOk (xs.map eS) (eS q)=true then some (PyData.bool (inL (xs.map eS) (eS q))) else none)=_
 rw [qef,qgv];rfl
theorem qes (xs:List Sp)(q:Sp):ninD (eS q) (.list (xs.map eS))=some (.bool (!decide (q∈xs))):=by
 show (if inOk (xs.map eS) (eS q)=true then some (PyData.bool (!inL (xs.map eS) (eS q))) else none)=_
 rw [qef,qgv];rfl
theorem JX (xs:List Sp):SeqAt.shaped (.list (xs.map eS))=true:=by
 have h:=qf2 xs
 have h2:PyData.depth (.list (xs.map eS))=PyData.depthAll (xs.map eS)+1:=rfl
 unfold SeqAt.shaped
 rw [h2,Bool.and_eq_true]
 exact ⟨h.1,decide_eq_true (by omega)⟩
theorem qaP:∀ xs ys:List Sp,PyData.eqv (.list (xs.map eS)) (.list (ys.map eS))=decide (xs=ys)
 | [],[]=>rfl
 | [],_::_=>rfl
 | _::_,[]=>rfl
 | x::xs,y::ys=>by
  have:PyData.eqv (.list ((x::xs).map eS)) (.list ((y::ys).map eS))=(PyData.eqv (eS x) (eS y)&&PyData.eqv (.list (xs.map eS)) (.list (ys.map eS))):=rfl
  rw [this,J9,qaP,Bool.eq_iff_iff]
  simp
theorem qkf (xs ys:List Sp):neD (.list (xs.map eS)) (.list (ys.map eS))=some (.bool (!decide (xs=ys))):=by
 unfold neD
 rw [if_pos ⟨JX _,JX _⟩,qaP]
theorem qjS (xs ys:List Sp):eqD (.list (xs.map eS)) (.list (ys.map eS))=some (.bool (decide (xs=ys))):=by
 unfold eqD
 rw [if_pos ⟨JX _,JX _⟩,qaP]
theorem qbO {α:Type}(enc:α->PyData){g:PyData->Rho->Option Rho}{u:Rho->Option Out}(I:List α->Rho->Prop)(all:List α)(step:∀ a∈all,∀ done ρ,done.length<all.length->I done ρ->∃ ρ',ob (g (enc a) ρ) u=some (.nx ρ')/\I (done++[a]) ρ') :
  ∀ (as done:List α) (ρ:Rho),(∀ a∈as,a∈all)->done.length+as.length=all.length->I done ρ->∃ ρ',forD g u (as.map enc) ρ=some (.nx ρ')/\I (done++as) ρ'
 | [],done,ρ,_,_,h=>⟨ρ,rfl,by rw [List.append_nil];exact h⟩
 | a::as,done,ρ,hm,hl,h=>by
  rw [List.length_cons] at hl
  obtain ⟨ρ1,e1,h1⟩:=step a (hm a (.head _)) done ρ (by omega) h
  obtain ⟨ρ2,e2,h2⟩:=qbO enc I all step as (done++[a]) ρ1 (λ x hx=>hm x (.tail _ hx)) (by rw [List.length_append,List.length_singleton];omega) h1
  refine ⟨ρ2,?_,by rw [List.append_assoc] at h2;exact h2⟩
  rw [List.map_cons,qc9,e1,qaU]
  exact e2
theorem Qe {α:Type}(enc:α->PyData){g:PyData->Rho->Option Rho}{u:Rho->Option Out}(I:List α->Rho->Prop)(as:List α)(ρ:Rho)(h:I [] ρ)(step:∀ a∈as,∀ done ρ,done.length<as.length->I done ρ->∃ ρ',ob (g (enc a) ρ) u=some (.nx ρ')/\I (done++[a]) ρ') :
  ∃ ρ',forD g u (as.map enc) ρ=some (.nx ρ')/\I as ρ':=by
 obtain ⟨ρ',e,i⟩:=qbO enc I as step as [] ρ (λ _ h=>h) (by simp) h
 exact ⟨ρ',e,by rwa [List.nil_append] at i⟩
theorem ZC {α:Type}(enc:α->PyData){tt:Rho->Option Bool}{te:Rho->Option PyData}{ρ:Rho}(p:α->Bool)(f:α->PyData):∀ (as:List α),(∀ a∈as,tt (ρ++[some (enc a)])=some (p a))->(∀ a∈as,p a=true->te (ρ++[some (enc a)])=some (f a))->Qa tt te ρ (as.map enc)=some ((as.filter p).map f)
 | [],_,_=>rfl
 | a::as,h1,h2=>by
  have ih:=ZC enc p f as (λ x hx=>h1 x (.tail _ hx)) (λ x hx=>h2 x (.tail _ hx))
  rw [List.map_cons,qdX,h1 a (.head _),List.filter_cons]
  cases e:p a with
  | true=>rw [qd0,h2 a (.head _) e,ih];rfl
  | false=>rw [qdZ,ih];rfl
theorem jV {α:Type}(enc:α->PyData){te:Rho->Option PyData}{ρ:Rho}(f:α->PyData)(as:List α)(h2:∀ a∈as,te (ρ++[some (enc a)])=some (f a)):Qa tT te ρ (as.map enc)=some (as.map f):=by
 have:=ZC enc (tt:=tT) (te:=te) (ρ:=ρ) (λ _=>true) f as (λ _ _=>rfl) (λ a ha _=>h2 a ha)
 rwa [List.filter_eq_self.mpr (λ _ _=>rfl)] at this
def mid (c:Sp):Sp:=(2*c.1+1,2*c.2.1+1,2*c.2.2+1)
def cr (a:Nat)(q s:Sp):Bool:=match a with
 | 0=>decide (s.1 % 2=0/\s.1 > q.1/\s.2.1=q.2.1/\s.2.2=q.2.2)
 | 1=>decide (s.2.1 % 2=0/\s.2.1 > q.2.1/\s.1=q.1/\s.2.2=q.2.2)
 | _=>decide (s.2.2 % 2=0/\s.2.2 > q.2.2/\s.1=q.1/\s.2.1=q.2.1)
def Sq (s:Sp):Prop:=(s.1 % 2=0/\s.2.1 % 2=1/\s.2.2 % 2=1)\/(s.1 % 2=1/\s.2.1 % 2=0/\s.2.2 % 2=1)\/(s.1 % 2=1/\s.2.1 % 2=1/\s.2.2 % 2=0)
theorem jW (a b:Sp):eqD (eS a) (eS b)=some (.bool (decide (a=b))):=by
 unfold eqD
 rw [if_pos ⟨rfl,rfl⟩,J9]
theorem Zg {α β:Type}{f:α->β}{xs:List α}{k:Int}{x:α}(h0:0<=k)(h:xs[k.toNat]?=some x):atI (xs.map f) k=some (f x):=by
 have e1:((k.toNat:Nat):Int)=k:=by omega
 have:=qdO (xs:=xs.map f) (j:=k.toNat) (v:=f x) (by rw [List.getElem?_map,h];rfl)
 rwa [e1] at this
theorem ixe0 (s:Sp):ixD (eS s) (.int 0)=some (.int s.1):=rfl
theorem ixe1 (s:Sp):ixD (eS s) (.int 1)=some (.int s.2.1):=rfl
theorem ixe2 (s:Sp):ixD (eS s) (.int 2)=some (.int s.2.2):=rfl
theorem qgg (s:Sp):W8 (eS s)=some (enL 0 [.int s.1,.int s.2.1,.int s.2.2]):=rfl
theorem ix0:ixN 3 0=some 0:=rfl
theorem ix1:ixN 3 1=some 1:=rfl
theorem ix2:ixN 3 2=some 2:=rfl
theorem zU (i:Int):flat (.int i)=true:=rfl
theorem Zm (a b c:Int):flat (.tuple [.int a,.int b,.int c])=true:=rfl
theorem Wc (a b c:Int):W9 (.list [.int a,.int b,.int c])=true:=rfl
theorem qgm:∀ xs:List Sp,W9 (.list (xs.map eS))=true
 | []=>rfl
 | _::xs=>qgm xs
def BdS (n:Nat)(c:Sp):Prop:=Bd n c.1/\Bd n c.2.1/\Bd n c.2.2
theorem bd2:Bd 2 2:=Bd.of (by decide)
theorem qcE (n:Nat):rngL 0 n=(List.range n).map λ k=>PyData.int (k:Nat):=by
 have:∀ (n m:Nat),rngL (m:Nat) n=(List.range' m n).map λ k=>PyData.int (k:Nat):=by
  intro n
  induction n with
  | zero=>intro m;rfl
  | succ n ih =>
   intro m
   rw [rngL,List.range'_succ,List.map_cons,← ih (m+1)]
   rfl
 rw [List.range_eq_range']
 exact this n 0
theorem lex3 (x y:Sp):HT.lexLt (l3 x) (l3 y)=decide (x.1<y.1\/(x.1=y.1/\(x.2.1<y.2.1\/(x.2.1=y.2.1/\x.2.2<y.2.2)))):=by
 unfold l3
 rw [HT.Qs,HT.Qs,HT.Qs,HT.WQ]
 by_cases h1:x.1=y.1
 ·rw [if_pos h1]
  by_cases h2:x.2.1=y.2.1
  ·rw [if_pos h2]
   by_cases h3:x.2.2=y.2.2
   ·rw [if_pos h3,decide_eq_false (by omega)]
   ·rw [if_neg h3]
    exact decide_eq_decide.mpr (by omega)
  ·rw [if_neg h2]
   exact decide_eq_decide.mpr (by omega)
 ·rw [if_neg h1]
  exact decide_eq_decide.mpr (by omega)
theorem ris3 (x y:Sp):HT.lexLt (l3 y) (l3 x)=false↔(x.1<y.1\/(x.1=y.1/\(x.2.1<y.2.1\/(x.2.1=y.2.1/\x.2.2<=y.2.2)))):=by
 rw [lex3,decide_eq_false_iff_not]
 omega
theorem qjN (ns:List Int){a b:Nat}:∃ ms:List Int,sliD (.list (ns.map .int)) (some (a:Int)) (some (b:Int))=some (.list (ms.map .int))/\ms.length<=b-a:=by
 refine ⟨(ns.drop (HT.sIx (ns.map PyData.int).length 0 (some (a:Int)))).take (HT.sIx (ns.map PyData.int).length (ns.map PyData.int).length (some (b:Int))-HT.sIx (ns.map PyData.int).length 0 (some (a:Int))),?_,?_⟩
 ·show some (PyData.list (cutD (ns.map .int) (some (a:Int)) (some (b:Int))))=_
  unfold cutD
  rw [← List.map_drop,← List.map_take]
 ·rw [List.length_take,List.length_drop,HT.qeG,HT.qeG,List.length_map]
  omega
def qcb (n:Nat)(c:Sp):Prop:=c.1.natAbs<=n/\c.2.1.natAbs<=n/\c.2.2.natAbs<=n
theorem qer {n:Nat}{c:Sp}(h:qcb n c)(hn:n<2 ^ 200):BdS 200 c:=⟨Bd.of (by have:=h.1;omega),Bd.of (by have:=h.2.1;omega),Bd.of (by have:=h.2.2;omega)⟩
theorem qjo (x:Int):x % 3=0\/x % 3=1\/x % 3=2:=by omega
theorem qh3 {α:Type}{xs:List α}(x:Int)(h:0<xs.length):∃ y∈xs,xs[(x % (xs.length:Int)).toNat]?=some y:=by
 have a1:=Int.emod_nonneg x (b:=(xs.length:Int)) (by omega)
 have a2:=Int.emod_lt_of_pos x (b:=(xs.length:Int)) (by omega)
 have hlt:(x % (xs.length:Int)).toNat<xs.length:=by omega
 exact ⟨xs[(x % (xs.length:Int)).toNat],List.getElem_mem hlt,List.getElem?_eq_getElem hlt⟩
theorem qcX {s:Sp}{A:Nat}(hA:A=0/\s.1 % 2=0/\s.2.1 % 2=1/\s.2.2 % 2=1\/A=1/\s.1 % 2=1/\s.2.1 % 2=0/\s.2.2 % 2=1\/A=2/\s.1 % 2=1/\s.2.1 % 2=1/\s.2.2 % 2=0):zW [eS s]=some (.int (A:Nat)):=by
 have i0:ZX (.list [.int 0,.int 1,.int 1]) (.int 0)=some (.int 0):=rfl
 have i1:ZX (.list [.int 1,.int 0,.int 1]) (.int 0)=some (.int 1):=rfl
 have i2:ZX (.list [.int 1,.int 1,.int 0]) (.int 0)=some (.int 2):=rfl
 rcases hA with ⟨rfl,h1,h2,h3⟩|⟨rfl,h1,h2,h3⟩|⟨rfl,h1,h2,h3⟩<;>simp only [zW,YH,eS]
 ·simp_arith [h1,h2,h3,i0]
 ·simp_arith [h1,h2,h3,i1]
 ·simp_arith [h1,h2,h3,i2]
def ed (A:Nat)(s:Sp):List Sp:=match A with
 | 0=>[(s.1,s.2.1 + -1,s.2.2),(s.1,s.2.1+1,s.2.2),(s.1,s.2.1,s.2.2 + -1),(s.1,s.2.1,s.2.2+1)]
 | 1=>[(s.1 + -1,s.2.1,s.2.2),(s.1+1,s.2.1,s.2.2),(s.1,s.2.1,s.2.2 + -1),(s.1,s.2.1,s.2.2+1)]
 | _=>[(s.1 + -1,s.2.1,s.2.2),(s.1+1,s.2.1,s.2.2),(s.1,s.2.1 + -1,s.2.2),(s.1,s.2.1+1,s.2.2)]
def others (A:Nat):List PyData:=match A with
 | 0=>[.int 1,.int 2]
 | 1=>[.int 0,.int 2]
 | _=>[.int 0,.int 1]
theorem qgX {A:Nat}(hA:A=0\/A=1\/A=2)(s:Sp):∃ zs:List Sp,zV [eS s,.list (others A)]=some (.list (zs.map eS))/\zs.Perm (ed A s)/\(zs.map l3).Pairwise (λ a b=>HT.lexLt b a=false):=by
 obtain ⟨zs,e,p,o⟩:=ZL (xs:=ed A s) (by rcases hA with rfl|rfl|rfl<;>exact (show (4:Nat)<64 by decide))
 refine ⟨zs,?_,p,o⟩
 rcases hA with rfl|rfl|rfl
 ·have e:Qg [.list [.tuple [.int s.1,.int (s.2.1 + -1),.int s.2.2],.tuple [.int s.1,.int (s.2.1+1),.int s.2.2],.tuple [.int s.1,.int s.2.1,.int (s.2.2 + -1)],.tuple [.int s.1,.int s.2.1,.int (s.2.2+1)]]]=some (.list (zs.map eS)):=e
  simp only [zV,ZW,eS,others]
  simp_arith [ix0,ix1,ix2,zU,Zm,e]
 ·have e:Qg [.list [.tuple [.int (s.1 + -1),.int s.2.1,.int s.2.2],.tuple [.int (s.1+1),.int s.2.1,.int s.2.2],.tuple [.int s.1,.int s.2.1,.int (s.2.2 + -1)],.tuple [.int s.1,.int s.2.1,.int (s.2.2+1)]]]=some (.list (zs.map eS)):=e
  simp only [zV,ZW,eS,others]
  simp_arith [ix0,ix1,ix2,zU,Zm,e]
 ·have e:Qg [.list [.tuple [.int (s.1 + -1),.int s.2.1,.int s.2.2],.tuple [.int (s.1+1),.int s.2.1,.int s.2.2],.tuple [.int s.1,.int (s.2.1 + -1),.int s.2.2],.tuple [.int s.1,.int (s.2.1+1),.int s.2.2]]]=some (.list (zs.map eS)):=e
  simp only [zV,ZW,eS,others]
  simp_arith [ix0,ix1,ix2,zU,Zm,e]
def edU (A:Nat)(s:Sp):List Sp:=match A with
 | 0=>[(s.1+0,s.2.1 + -1,s.2.2+0),(s.1+0,s.2.1+0,s.2.2 + -1),(s.1+0,s.2.1+0,s.2.2+1),(s.1+0,s.2.1+1,s.2.2+0)]
 | 1=>[(s.1 + -1,s.2.1+0,s.2.2+0),(s.1+0,s.2.1+0,s.2.2 + -1),(s.1+0,s.2.1+0,s.2.2+1),(s.1+1,s.2.1+0,s.2.2+0)]
 | _=>[(s.1 + -1,s.2.1+0,s.2.2+0),(s.1+0,s.2.1 + -1,s.2.2+0),(s.1+0,s.2.1+1,s.2.2+0),(s.1+1,s.2.1+0,s.2.2+0)]
theorem qjx {α:Type}(a b c d:α):[a,c,d,b].Perm [a,b,c,d]:=.cons a ((List.Perm.cons c (.swap b d [])).trans (.swap b c [d]))
theorem qgf {A:Nat}(hA:A=0\/A=1\/A=2)(s:Sp):(edU A s).Perm (ed A s):=by
 obtain ⟨x,y,z⟩:=s
 rcases hA with rfl|rfl|rfl<;>simp only [edU,ed,Int.add_zero]<;>exact qjx _ _ _ _
theorem qfR {A:Nat}(hA:A=0\/A=1\/A=2)(s:Sp):∃ zs:List Sp,QG [eS s,.int (A:Nat)]=some (.list (zs.map eS))/\zV [eS s,.list (others A)]=some (.list (zs.map eS))/\zs.Perm (ed A s):=by
 obtain ⟨zs,en,pn,on⟩:=qgX hA s
 obtain ⟨ys,e,p,o⟩:=ZL (xs:=edU A s) (by rcases hA with rfl|rfl|rfl<;>exact (show (4:Nat)<64 by decide))
 have same:ys=zs:=ju ((p.trans (qgf hA s)).trans pn.symm) o on
 subst same
 refine ⟨ys,?_,en,pn⟩
 rcases hA with rfl|rfl|rfl
 ·have e:Qg [.list [.tuple [.int (s.1+0),.int (s.2.1 + -1),.int (s.2.2+0)],.tuple [.int (s.1+0),.int (s.2.1+0),.int (s.2.2 + -1)],.tuple [.int (s.1+0),.int (s.2.1+0),.int (s.2.2+1)],.tuple [.int (s.1+0),.int (s.2.1+1),.int (s.2.2+0)]]]=some (.list (ys.map eS)):=e
  simp only [QG,JC,eS,QW]
  simp_arith [Qj,JZ,e,Int.ofNat_eq_natCast,Int.natCast_zero]
 ·have e:Qg [.list [.tuple [.int (s.1 + -1),.int (s.2.1+0),.int (s.2.2+0)],.tuple [.int (s.1+0),.int (s.2.1+0),.int (s.2.2 + -1)],.tuple [.int (s.1+0),.int (s.2.1+0),.int (s.2.2+1)],.tuple [.int (s.1+1),.int (s.2.1+0),.int (s.2.2+0)]]]=some (.list (ys.map eS)):=e
  simp only [QG,JC,eS,QW]
  have h1:(((1:Nat):Int))=1:=rfl
  simp_arith [Qj,JZ,e,h1]
 ·have e:Qg [.list [.tuple [.int (s.1 + -1),.int (s.2.1+0),.int (s.2.2+0)],.tuple [.int (s.1+0),.int (s.2.1 + -1),.int (s.2.2+0)],.tuple [.int (s.1+0),.int (s.2.1+1),.int (s.2.2+0)],.tuple [.int (s.1+1),.int (s.2.1+0),.int (s.2.2+0)]]]=some (.list (ys.map eS)):=e
  simp only [QG,JC,eS,QW]
  have h2:(((2:Nat):Int))=2:=rfl
  simp_arith [Qj,JZ,e,h2]
theorem qji (n:Int):Zi [.int n]=some (.bool true):=rfl
theorem qeJ (xs:List Sp):Qi [.list (xs.map eS)]=some (.bool true):=by
 obtain ⟨ρ',e,o1,o2,rfl⟩:=Qe eS (g:=gNm 1) (u:=(seqO (sIf (tO (tN (tV (ev1 (vr 1) (isiD "tuple")))) (tV (ev2 (evA (aC (vr 1) aN) lenD) (kd (.int 3)) neD))) (sRet (kd (.bool false))) sN) (sFor (evI (vr 1) seqD) (gNm 2) (sIf (tN (tV (evC 1 (aC (vr 2) aN) Zi))) (sRet (kd (.bool false))) sN))))
  (λ done ρ=>∃ o1 o2:Option PyData,ρ=[some (.list (xs.map eS)),o1,o2]) xs [some (.list (xs.map eS)),none,none] ⟨none,none,rfl⟩ (by
   rintro a ha done ρ hdl ⟨o1,o2,rfl⟩
   refine ⟨[some (.list (xs.map eS)),some (eS a),some (.int a.2.2)],?_,_,_,rfl⟩
   simp only [eS]
   simp_arith [qji])
 simp only [Qi,j7]
 simp_arith []
 have:=congrArg (λ o=>ob (wR o (sRet (kd (.bool true)))) outD) e
 simp_arith [] at this
 exact this
def sb (a b:Sp):Sp:=(a.1-b.1,a.2.1-b.2.1,a.2.2-b.2.2)
def ar (B:Nat)(e:Sp):List Sp:=match B with
 | 0=>[(e.1,e.2.1-1,e.2.2),(e.1,e.2.1,e.2.2-1),(e.1,e.2.1,e.2.2+1),(e.1,e.2.1+1,e.2.2)]
 | 1=>[(e.1-1,e.2.1,e.2.2),(e.1,e.2.1,e.2.2-1),(e.1,e.2.1,e.2.2+1),(e.1+1,e.2.1,e.2.2)]
 | _=>[(e.1-1,e.2.1,e.2.2),(e.1,e.2.1-1,e.2.2),(e.1,e.2.1+1,e.2.2),(e.1+1,e.2.1,e.2.2)]
def lo (A:Nat)(s:Sp):Sp:=match A with
 | 0=>(s.1-1,s.2.1,s.2.2)
 | 1=>(s.1,s.2.1-1,s.2.2)
 | _=>(s.1,s.2.1,s.2.2-1)
def hi (A:Nat)(s:Sp):Sp:=match A with
 | 0=>(s.1+1,s.2.1,s.2.2)
 | 1=>(s.1,s.2.1+1,s.2.2)
 | _=>(s.1,s.2.1,s.2.2+1)
def axA (s:Sp):Nat:=if s.1 % 2=0 then 0 else if s.2.1 % 2=0 then 1 else 2
def skB (I:Sp->Bool)(s:Sp):Bool:=I (lo (axA s) s) != I (hi (axA s) s)
def Qn (I:Sp->Bool)(s0 e s1:Sp):Int:=if sb s1 e=sb e s0 then 0 else if sb s1 e=sb s0 (if I (lo (axA s0) s0)=true then lo (axA s0) s0 else hi (axA s0) s0) then 1 else -1
def md4 (B:Nat)(e:Sp):List Sp:=match B with
 | 0=>[(e.1,e.2.1-1,e.2.2-1),(e.1,e.2.1-1,e.2.2+1),(e.1,e.2.1+1,e.2.2-1),(e.1,e.2.1+1,e.2.2+1)]
 | 1=>[(e.1-1,e.2.1,e.2.2-1),(e.1-1,e.2.1,e.2.2+1),(e.1+1,e.2.1,e.2.2-1),(e.1+1,e.2.1,e.2.2+1)]
 | _=>[(e.1-1,e.2.1-1,e.2.2),(e.1-1,e.2.1+1,e.2.2),(e.1+1,e.2.1-1,e.2.2),(e.1+1,e.2.1+1,e.2.2)]
theorem ZK {α:Type}[DecidableEq α]:∀ {as bs:List α},as.Nodup->bs.Nodup->(∀ x,x∈as↔x∈bs)->as.Perm bs
 | [],[],_,_,_=>.refl _
 | [],b::bs,_,_,h=>absurd ((h b).mpr (.head _)) (by simp)
 | a::as,bs,h1,h2,h=>by
  have ha:a∈bs:=(h a).mp (.head _)
  obtain ⟨n1,n2⟩:=List.nodup_cons.mp h1
  refine List.Perm.trans (List.Perm.cons a (ZK n2 (h2.erase a) λ x=>?_)) (List.perm_cons_erase ha).symm
  rw [h2.mem_erase_iff]
  constructor
  ·intro hx
   exact ⟨λ z=>n1 (by rw [← z];exact hx),(h x).mp (.tail _ hx)⟩
  ·rintro ⟨hx,hm⟩
   rcases List.mem_cons.mp ((h x).mpr hm) with z|z
   ·exact absurd z hx
   ·exact z
abbrev EdB' (B:Nat)(e:Sp):Prop:=B=0/\e.1 % 2=1/\e.2.1 % 2=0/\e.2.2 % 2=0\/B=1/\e.1 % 2=0/\e.2.1 % 2=1/\e.2.2 % 2=0\/B=2/\e.1 % 2=0/\e.2.1 % 2=0/\e.2.2 % 2=1
theorem zR {s:Sp}(h:Sq s):(axA s=0/\s.1 % 2=0/\s.2.1 % 2=1/\s.2.2 % 2=1)\/(axA s=1/\s.1 % 2=1/\s.2.1 % 2=0/\s.2.2 % 2=1)\/(axA s=2/\s.1 % 2=1/\s.2.1 % 2=1/\s.2.2 % 2=0):=by
 unfold axA
 rcases h with ⟨a,b,c⟩|⟨a,b,c⟩|⟨a,b,c⟩
 ·exact .inl ⟨if_pos a,a,b,c⟩
 ·exact .inr (.inl ⟨by rw [if_neg (by omega),if_pos b],a,b,c⟩)
 ·exact .inr (.inr ⟨by rw [if_neg (by omega),if_neg (by omega)],a,b,c⟩)
theorem Zn {e s:Sp}:s∈ar 0 e↔s.1=e.1/\((s.2.2=e.2.2/\(s.2.1=e.2.1-1\/s.2.1=e.2.1+1))\/(s.2.1=e.2.1/\(s.2.2=e.2.2-1\/s.2.2=e.2.2+1))):=by
 obtain ⟨x,y,z⟩:=e
 obtain ⟨u,v,w⟩:=s
 simp only [ar,List.mem_cons,List.not_mem_nil,or_false,Prod.mk.injEq]
 constructor
 ·rintro (⟨a,b,c⟩|⟨a,b,c⟩|⟨a,b,c⟩|⟨a,b,c⟩)
  ·exact ⟨a,.inl ⟨c,.inl b⟩⟩
  ·exact ⟨a,.inr ⟨b,.inl c⟩⟩
  ·exact ⟨a,.inr ⟨b,.inr c⟩⟩
  ·exact ⟨a,.inl ⟨c,.inr b⟩⟩
 ·rintro ⟨a,⟨c,b|b⟩|⟨b,c|c⟩⟩
  ·exact .inl ⟨a,b,c⟩
  ·exact .inr (.inr (.inr ⟨a,b,c⟩))
  ·exact .inr (.inl ⟨a,b,c⟩)
  ·exact .inr (.inr (.inl ⟨a,b,c⟩))
theorem Zo {e s:Sp}:s∈ar 1 e↔s.2.1=e.2.1/\((s.2.2=e.2.2/\(s.1=e.1-1\/s.1=e.1+1))\/(s.1=e.1/\(s.2.2=e.2.2-1\/s.2.2=e.2.2+1))):=by
 obtain ⟨x,y,z⟩:=e
 obtain ⟨u,v,w⟩:=s
 simp only [ar,List.mem_cons,List.not_mem_nil,or_false,Prod.mk.injEq]
 constructor
 ·rintro (⟨a,b,c⟩|⟨a,b,c⟩|⟨a,b,c⟩|⟨a,b,c⟩)
  ·exact ⟨b,.inl ⟨c,.inl a⟩⟩
  ·exact ⟨b,.inr ⟨a,.inl c⟩⟩
  ·exact ⟨b,.inr ⟨a,.inr c⟩⟩
  ·exact ⟨b,.inl ⟨c,.inr a⟩⟩
 ·rintro ⟨b,⟨c,a|a⟩|⟨a,c|c⟩⟩
  ·exact .inl ⟨a,b,c⟩
  ·exact .inr (.inr (.inr ⟨a,b,c⟩))
  ·exact .inr (.inl ⟨a,b,c⟩)
  ·exact .inr (.inr (.inl ⟨a,b,c⟩))
theorem Zq {e s:Sp}:s∈ar 2 e↔s.2.2=e.2.2/\((s.2.1=e.2.1/\(s.1=e.1-1\/s.1=e.1+1))\/(s.1=e.1/\(s.2.1=e.2.1-1\/s.2.1=e.2.1+1))):=by
 obtain ⟨x,y,z⟩:=e
 obtain ⟨u,v,w⟩:=s
 simp only [ar,List.mem_cons,List.not_mem_nil,or_false,Prod.mk.injEq]
 constructor
 ·rintro (⟨a,b,c⟩|⟨a,b,c⟩|⟨a,b,c⟩|⟨a,b,c⟩)
  ·exact ⟨c,.inl ⟨b,.inl a⟩⟩
  ·exact ⟨c,.inr ⟨a,.inl b⟩⟩
  ·exact ⟨c,.inr ⟨a,.inr b⟩⟩
  ·exact ⟨c,.inl ⟨b,.inr a⟩⟩
 ·rintro ⟨c,⟨b,a|a⟩|⟨a,b|b⟩⟩
  ·exact .inl ⟨a,b,c⟩
  ·exact .inr (.inr (.inr ⟨a,b,c⟩))
  ·exact .inr (.inl ⟨a,b,c⟩)
  ·exact .inr (.inr (.inl ⟨a,b,c⟩))
theorem ax0 {s:Sp}(h:s.1 % 2=0):axA s=0:=if_pos h
theorem ax1 {s:Sp}(h:s.1 % 2=1)(g:s.2.1 % 2=0):axA s=1:=by unfold axA;rw [if_neg (by omega),if_pos g]
theorem ax2 {s:Sp}(h:s.1 % 2=1)(g:s.2.1 % 2=1):axA s=2:=by unfold axA;rw [if_neg (by omega),if_neg (by omega)]
theorem Zz {a b:Int}(h:a=b-1\/a=b+1):b=a-1\/b=a+1:=by omega
theorem odd1 {a b:Int}(h:a=b-1\/a=b+1)(g:b % 2=0):a % 2=1:=by omega
theorem Jb {a b:Int}(h:a=b-1\/a=b+1)(g:b % 2=1):a % 2=0:=by omega
theorem ne01 {a:Int}(h:a % 2=0)(g:a % 2=1){P:Prop}:P:=by rw [h] at g;cases g
theorem oddm {a:Int}(h:a % 2=0):(a-1) % 2=1:=by omega
theorem oddp {a:Int}(h:a % 2=0):(a+1) % 2=1:=by omega
theorem qeK {B:Nat}{e s:Sp}(hB:EdB' B e):s∈ar B e↔Sq s/\e∈ar (axA s) s:=by
 constructor
 ·intro h
  rcases hB with ⟨rfl,h1,h2,h3⟩|⟨rfl,h1,h2,h3⟩|⟨rfl,h1,h2,h3⟩
  ·obtain ⟨p,⟨q,r⟩|⟨q,r⟩⟩:=Zn.mp h
   ·have k1:s.1 % 2=1:=p ▸ h1
    have k2:=odd1 r h2
    have k3:s.2.2 % 2=0:=q ▸ h3
    exact ⟨.inr (.inr ⟨k1,k2,k3⟩),by rw [ax2 k1 k2,Zq];exact ⟨q.symm,.inr ⟨p.symm,Zz r⟩⟩⟩
   ·have k1:s.1 % 2=1:=p ▸ h1
    have k2:s.2.1 % 2=0:=q ▸ h2
    have k3:=odd1 r h3
    exact ⟨.inr (.inl ⟨k1,k2,k3⟩),by rw [ax1 k1 k2,Zo];exact ⟨q.symm,.inr ⟨p.symm,Zz r⟩⟩⟩
  ·obtain ⟨p,⟨q,r⟩|⟨q,r⟩⟩:=Zo.mp h
   ·have k1:=odd1 r h1
    have k2:s.2.1 % 2=1:=p ▸ h2
    have k3:s.2.2 % 2=0:=q ▸ h3
    exact ⟨.inr (.inr ⟨k1,k2,k3⟩),by rw [ax2 k1 k2,Zq];exact ⟨q.symm,.inl ⟨p.symm,Zz r⟩⟩⟩
   ·have k1:s.1 % 2=0:=q ▸ h1
    have k2:s.2.1 % 2=1:=p ▸ h2
    have k3:=odd1 r h3
    exact ⟨.inl ⟨k1,k2,k3⟩,by rw [ax0 k1,Zn];exact ⟨q.symm,.inr ⟨p.symm,Zz r⟩⟩⟩
  ·obtain ⟨p,⟨q,r⟩|⟨q,r⟩⟩:=Zq.mp h
   ·have k1:=odd1 r h1
    have k2:s.2.1 % 2=0:=q ▸ h2
    have k3:s.2.2 % 2=1:=p ▸ h3
    exact ⟨.inr (.inl ⟨k1,k2,k3⟩),by rw [ax1 k1 k2,Zo];exact ⟨q.symm,.inl ⟨p.symm,Zz r⟩⟩⟩
   ·have k1:s.1 % 2=0:=q ▸ h1
    have k2:=odd1 r h2
    have k3:s.2.2 % 2=1:=p ▸ h3
    exact ⟨.inl ⟨k1,k2,k3⟩,by rw [ax0 k1,Zn];exact ⟨q.symm,.inl ⟨p.symm,Zz r⟩⟩⟩
 ·rintro ⟨hs,h⟩
  rcases zR hs with ⟨e1,a,b,c⟩|⟨e1,a,b,c⟩|⟨e1,a,b,c⟩<;>rw [e1] at h
  ·obtain ⟨p,⟨q,r⟩|⟨q,r⟩⟩:=Zn.mp h
   ·have k1:e.1 % 2=0:=p ▸ a
    have k2:=Jb r b
    rcases hB with ⟨rfl,h1,h2,h3⟩|⟨rfl,h1,h2,h3⟩|⟨rfl,h1,h2,h3⟩
    ·exact ne01 k1 h1
    ·exact ne01 k2 h2
    ·exact Zq.mpr ⟨q.symm,.inr ⟨p.symm,Zz r⟩⟩
   ·have k1:e.1 % 2=0:=p ▸ a
    have k3:=Jb r c
    rcases hB with ⟨rfl,h1,h2,h3⟩|⟨rfl,h1,h2,h3⟩|⟨rfl,h1,h2,h3⟩
    ·exact ne01 k1 h1
    ·exact Zo.mpr ⟨q.symm,.inr ⟨p.symm,Zz r⟩⟩
    ·exact ne01 k3 h3
  ·obtain ⟨p,⟨q,r⟩|⟨q,r⟩⟩:=Zo.mp h
   ·have k1:=Jb r a
    have k2:e.2.1 % 2=0:=p ▸ b
    rcases hB with ⟨rfl,h1,h2,h3⟩|⟨rfl,h1,h2,h3⟩|⟨rfl,h1,h2,h3⟩
    ·exact ne01 k1 h1
    ·exact ne01 k2 h2
    ·exact Zq.mpr ⟨q.symm,.inl ⟨p.symm,Zz r⟩⟩
   ·have k2:e.2.1 % 2=0:=p ▸ b
    have k3:=Jb r c
    rcases hB with ⟨rfl,h1,h2,h3⟩|⟨rfl,h1,h2,h3⟩|⟨rfl,h1,h2,h3⟩
    ·exact Zn.mpr ⟨q.symm,.inr ⟨p.symm,Zz r⟩⟩
    ·exact ne01 k2 h2
    ·exact ne01 k3 h3
  ·obtain ⟨p,⟨q,r⟩|⟨q,r⟩⟩:=Zq.mp h
   ·have k1:=Jb r a
    have k3:e.2.2 % 2=0:=p ▸ c
    rcases hB with ⟨rfl,h1,h2,h3⟩|⟨rfl,h1,h2,h3⟩|⟨rfl,h1,h2,h3⟩
    ·exact ne01 k1 h1
    ·exact Zo.mpr ⟨q.symm,.inl ⟨p.symm,Zz r⟩⟩
    ·exact ne01 k3 h3
   ·have k2:=Jb r b
    have k3:e.2.2 % 2=0:=p ▸ c
    rcases hB with ⟨rfl,h1,h2,h3⟩|⟨rfl,h1,h2,h3⟩|⟨rfl,h1,h2,h3⟩
    ·exact Zn.mpr ⟨q.symm,.inl ⟨p.symm,Zz r⟩⟩
    ·exact ne01 k2 h2
    ·exact ne01 k3 h3
theorem qfQ {B:Nat}(hB:B=0\/B=1\/B=2)(e:Sp):((ar B e).map l3).Pairwise (λ a b=>HT.lexLt b a=false):=by
 obtain ⟨x,y,z⟩:=e
 rcases hB with rfl|rfl|rfl<;>rw [List.pairwise_map]<;>simp only [ar,List.pairwise_cons,List.mem_cons,List.not_mem_nil,or_false,forall_eq_or_imp,forall_eq,ris3]<;>simp<;>omega
theorem yG {B:Nat}(hB:B=0\/B=1\/B=2)(e:Sp):(ar B e).Nodup:=by
 obtain ⟨x,y,z⟩:=e
 rcases hB with rfl|rfl|rfl<;>simp [ar]<;>omega
theorem qdP {I:Sp->Bool}{sk:List Sp}(hr:(sk.map l3).Pairwise (λ a b=>HT.lexLt b a=false))(hn:sk.Nodup)(hm:∀ s,s∈sk↔Sq s/\skB I s=true){B:Nat}{e:Sp}(hB:EdB' B e) :
  sk.filter (λ s=>decide (e∈ar (axA s) s))=(ar B e).filter (skB I):=by
 have hB3:B=0\/B=1\/B=2:=by rcases hB with z|z|z<;>simp [z.1]
 refine ju (ZK (hn.filter _) ((yG hB3 e).filter _) λ s=>?_) ?_ ?_
 ·rw [List.mem_filter,List.mem_filter,hm,qeK hB,decide_eq_true_eq]
  constructor
  ·rintro ⟨⟨a,b⟩,c⟩;exact ⟨⟨a,c⟩,b⟩
  ·rintro ⟨⟨a,b⟩,c⟩;exact ⟨⟨a,c⟩,b⟩
 ·rw [List.pairwise_map] at hr ⊢
  exact hr.filter _
 ·have:=qfQ hB3 e
  rw [List.pairwise_map] at this ⊢
  exact this.filter _
def ad (a b:Sp):Sp:=(a.1+b.1,a.2.1+b.2.1,a.2.2+b.2.2)
theorem QJ {a b:Sp}(h1:a.1=b.1)(h2:a.2.1=b.2.1)(h3:a.2.2=b.2.2):a=b:=Prod.ext h1 (Prod.ext h2 h3)
theorem qbw (A:Nat)(s t:Sp):ar A (ad s t)=(ar A s).map λ x=>ad x t:=by
 have h:∀ a b:Int,a+b-1=a-1+b:=λ a b=>by omega
 have g:∀ a b:Int,a+b+1=a+1+b:=λ a b=>by omega
 unfold ar
 split<;>simp only [ad,List.map_cons,List.map_nil,h,g]
def evn (t:Sp):Prop:=t.1 % 2=0/\t.2.1 % 2=0/\t.2.2 % 2=0
theorem evn1 {a b:Int}(h:b % 2=0):(a+b) % 2=a % 2:=by omega
theorem wQ {t:Sp}(ht:evn t)(s:Sp):axA (ad s t)=axA s:=by
 unfold axA ad
 dsimp only
 rw [evn1 ht.1,evn1 ht.2.1]
theorem qb8 (A:Nat)(s t:Sp):lo A (ad s t)=ad (lo A s) t:=by
 have h:∀ a b:Int,a+b-1=a-1+b:=λ a b=>by omega
 unfold lo
 split<;>simp only [ad,h]
theorem qjq (A:Nat)(s t:Sp):hi A (ad s t)=ad (hi A s) t:=by
 have h:∀ a b:Int,a+b+1=a+1+b:=λ a b=>by omega
 unfold hi
 split<;>simp only [ad,h]
theorem qeH (a b t:Sp):sb (ad a t) (ad b t)=sb a b:=by
 have h:∀ a b c:Int,a+c-(b+c)=a-b:=λ a b c=>by omega
 simp only [sb,ad,h]
theorem qhq (I:Sp->Bool){t:Sp}(ht:evn t)(s:Sp):skB I (ad s t)=skB (λ x=>I (ad x t)) s:=by
 unfold skB
 rw [wQ ht,qb8,qjq]
theorem qbx (I:Sp->Bool){t:Sp}(ht:evn t)(a e b:Sp):Qn I (ad a t) (ad e t) (ad b t)=Qn (λ x=>I (ad x t)) a e b:=by
 unfold Qn
 rw [wQ ht,qb8,qjq,qeH,qeH]
 have:sb (ad a t) (if I (ad (lo (axA a) a) t)=true then ad (lo (axA a) a) t else ad (hi (axA a) a) t)=sb a (if I (ad (lo (axA a) a) t)=true then lo (axA a) a else hi (axA a) a):=by
  split<;>exact qeH _ _ _
 rw [this]
theorem qke (B:Nat)(e t:Sp):md4 B (ad e t)=(md4 B e).map λ x=>ad x t:=by
 have h:∀ a b:Int,a+b-1=a-1+b:=λ a b=>by omega
 have g:∀ a b:Int,a+b+1=a+1+b:=λ a b=>by omega
 unfold md4
 split<;>simp only [ad,List.map_cons,List.map_nil,h,g]
def jf (l:List Sp)(a b c d:Bool):Sp->Bool:=λ m=>match l with
 | [m1,m2,m3,m4]=>if m==m1 then a else if m==m2 then b else if m==m3 then c else if m==m4 then d else false
 | _=>false
def e0s:List (Nat×Sp):=[(0,1,0,0),(1,0,1,0),(2,0,0,1)]
theorem jq (b:Bool):b∈[false,true]:=by cases b<;>simp
theorem e0_of {B:Nat}{e:Sp}(hB:EdB' B e):∃ t p:Sp,evn t/\(B,p)∈e0s/\e=ad p t:=by
 refine ⟨(e.1 / 2*2,e.2.1 / 2*2,e.2.2 / 2*2),(e.1 % 2,e.2.1 % 2,e.2.2 % 2),⟨by dsimp only;omega,by dsimp only;omega,by dsimp only;omega⟩,?_,QJ (by show e.1=e.1 % 2+e.1 / 2*2;omega) (by show e.2.1=e.2.1 % 2+e.2.1 / 2*2;omega) (by show e.2.2=e.2.2 % 2+e.2.2 / 2*2;omega)⟩
 rcases hB with ⟨rfl,a,b,c⟩|⟨rfl,a,b,c⟩|⟨rfl,a,b,c⟩<;>rw [a,b,c]<;>simp [e0s]
theorem J_of (I:Sp->Bool){B:Nat}{p:Sp}(hp:(B,p)∈e0s):∃ a b c d:Bool,(∀ m∈md4 B p,I m=jf (md4 B p) a b c d m)/\(∀ s∈ar B p,skB I s=skB (jf (md4 B p) a b c d) s)/\∀ s∈ar B p,I (lo (axA s) s)=jf (md4 B p) a b c d (lo (axA s) s):=by
 unfold e0s at hp
 simp only [List.mem_cons,List.not_mem_nil,or_false,Prod.mk.injEq] at hp
 rcases hp with ⟨rfl,rfl⟩|⟨rfl,rfl⟩|⟨rfl,rfl⟩
 ·refine ⟨I (1,-1,-1),I (1,-1,1),I (1,1,-1),I (1,1,1),λ s hs=>?_,λ s hs=>?_,λ s hs=>?_⟩
  ·simp only [md4,List.mem_cons,List.not_mem_nil,or_false] at hs;rcases hs with rfl|rfl|rfl|rfl<;>kernel_rfl
  ·simp only [ar,List.mem_cons,List.not_mem_nil,or_false] at hs;rcases hs with rfl|rfl|rfl|rfl<;>kernel_rfl
  ·simp only [ar,List.mem_cons,List.not_mem_nil,or_false] at hs;rcases hs with rfl|rfl|rfl|rfl<;>kernel_rfl
 ·refine ⟨I (-1,1,-1),I (-1,1,1),I (1,1,-1),I (1,1,1),λ s hs=>?_,λ s hs=>?_,λ s hs=>?_⟩
  ·simp only [md4,List.mem_cons,List.not_mem_nil,or_false] at hs;rcases hs with rfl|rfl|rfl|rfl<;>kernel_rfl
  ·simp only [ar,List.mem_cons,List.not_mem_nil,or_false] at hs;rcases hs with rfl|rfl|rfl|rfl<;>kernel_rfl
  ·simp only [ar,List.mem_cons,List.not_mem_nil,or_false] at hs;rcases hs with rfl|rfl|rfl|rfl<;>kernel_rfl
 ·refine ⟨I (-1,-1,1),I (-1,1,1),I (1,-1,1),I (1,1,1),λ s hs=>?_,λ s hs=>?_,λ s hs=>?_⟩
  ·simp only [md4,List.mem_cons,List.not_mem_nil,or_false] at hs;rcases hs with rfl|rfl|rfl|rfl<;>kernel_rfl
  ·simp only [ar,List.mem_cons,List.not_mem_nil,or_false] at hs;rcases hs with rfl|rfl|rfl|rfl<;>kernel_rfl
  ·simp only [ar,List.mem_cons,List.not_mem_nil,or_false] at hs;rcases hs with rfl|rfl|rfl|rfl<;>kernel_rfl
theorem qc0 {I J:Sp->Bool}{a e b:Sp}(h:I (lo (axA a) a)=J (lo (axA a) a)):Qn I a e b=Qn J a e b:=by unfold Qn;rw [h]
def bndB (J:Sp->Bool)(B:Nat)(p:Sp):Bool:=match (ar B p).filter (skB J) with
 | []=>true
 | [s0,s1]=>Qn J s0 p s1==((md4 B p).countP J:Nat)-2
 | l=>l==ar B p
def qfX:Bool:=e0s.all λ q=>[false,true].all λ a=>[false,true].all λ b=>[false,true].all λ c=>[false,true].all λ d=>bndB (jf (md4 q.1 q.2) a b c d) q.1 q.2
theorem qeS:qfX=true:=by kernel_rfl
theorem W7 (I:Sp->Bool){B:Nat}{e:Sp}(hB:EdB' B e) :
  (ar B e).filter (skB I)=[]\/((ar B e).filter (skB I)=ar B e)\/∃ s0 s1,(ar B e).filter (skB I)=[s0,s1]/\Qn I s0 e s1=((md4 B e).countP I:Nat)-2:=by
 obtain ⟨t,p,ht,hp,rfl⟩:=e0_of hB
 have hf:skB I ∘ (λ x=>ad x t)=skB (λ x=>I (ad x t)):=funext λ s=>qhq I ht s
 rw [qbw,List.filter_map,hf,qke,List.countP_map]
 have hic:I ∘ (λ x=>ad x t)=λ x=>I (ad x t):=rfl
 rw [hic]
 obtain ⟨a,b,c,d,h1,h2,h3⟩:=J_of (λ x=>I (ad x t)) hp
 have hall:=qeS
 unfold qfX at hall
 have k:=List.all_eq_true.mp (List.all_eq_true.mp (List.all_eq_true.mp (List.all_eq_true.mp (List.all_eq_true.mp hall (B,p) hp) a (jq a)) b (jq b)) c (jq c)) d (jq d)
 dsimp only at k
 generalize jf (md4 B p) a b c d=J at h1 h2 h3 k
 have hc:(md4 B p).countP (λ x=>I (ad x t))=(md4 B p).countP J:=List.countP_congr λ m hm=>by rw [h1 m hm]
 rw [List.filter_congr h2,hc]
 unfold bndB at k
 cases hq:(ar B p).filter (skB J) with
 | nil=>exact .inl rfl
 | cons x l =>
  rw [hq] at k
  cases l with
  | nil=>exact .inr (.inl (by rw [beq_iff_eq.mp (show ([x]==ar B p)=true from k)]))
  | cons y l =>
   cases l with
   | cons z l=>exact .inr (.inl (by rw [beq_iff_eq.mp (show ((x::y::z::l)==ar B p)=true from k)]))
   | nil =>
    have hx:x∈ar B p:=(List.mem_filter.mp (show x∈(ar B p).filter (skB J) by rw [hq];exact List.mem_cons_self)).1
    refine .inr (.inr ⟨ad x t,ad y t,rfl,?_⟩)
    rw [qbx I ht]
    have hb:Qn (λ x=>I (ad x t)) x p y=Qn J x p y:=qc0 (h3 x hx)
    rw [hb]
    exact beq_iff_eq.mp (show (Qn J x p y==((md4 B p).countP J:Nat)-2)=true from k)
def kS (s:Sp):KX:=.inr [.inl s.1,.inl s.2.1,.inl s.2.2]
theorem yW (s:Sp):kxD (kS s)=eS s:=rfl
theorem Y7 (s:Sp):kxOf (eS s)=some (kS s):=rfl
def eD (kvs:List (Sp×Nat)):List (PyData×PyData):=kvs.map λ p=>(eS p.1,.int (p.2:Nat))
def cnt (kvs:List (Sp×Nat))(s:Sp):Nat:=((kvs.find? λ p=>decide (p.1=s)).map (·.2)).getD 0
def bump (kvs:List (Sp×Nat))(s:Sp):List (Sp×Nat):=if s∈kvs.map (·.1) then kvs.map λ p=>if p.1=s then (p.1,cnt kvs s+1) else p else kvs++[(s,1)]
def tally (xs:List Sp):List (Sp×Nat):=xs.foldl bump []
def once (xs:List Sp):List Sp:=xs.foldl (λ ks s=>if s∈ks then ks else ks++[s]) []
theorem qaW (kvs:List (Sp×Nat))(s:Sp):kOk (eD kvs) (kS s)=true:=by
 unfold kOk eD
 rw [List.all_map]
 exact List.all_eq_true.mpr λ p _=>rfl
theorem yQ (s:Sp):∀ kvs:List (Sp×Nat),zj (eD kvs) (kS s)=(kvs.find? λ p=>decide (p.1=s)).map λ p=>PyData.int (p.2:Nat)
 | []=>rfl
 | p::kvs=>by
  have ih:=yQ s kvs
  unfold zj eD at *
  rw [List.map_cons,List.find?_cons,List.find?_cons,yW,J9]
  rw [yW] at ih
  by_cases h:p.1=s
  ·rw [decide_eq_true h];rfl
  ·rw [decide_eq_false h];exact ih
theorem wI (s:Sp)(kvs:List (Sp×Nat)):(zj (eD kvs) (kS s)).isSome=decide (s∈kvs.map (·.1)):=by
 rw [yQ]
 by_cases h:s∈kvs.map (·.1)
 ·obtain ⟨p,hp,rfl⟩:=List.mem_map.mp h
  rw [decide_eq_true h]
  cases e:kvs.find? (λ x=>decide (x.1=p.1)) with
  | some x=>rfl
  | none=>exact absurd (List.find?_eq_none.mp e p hp) (by simp)
 ·rw [decide_eq_false h,List.find?_eq_none.mpr λ p hp=>by simpa using λ z=>h (List.mem_map.mpr ⟨p,hp,z⟩)];rfl
theorem qgr (kvs:List (Sp×Nat))(s:Sp):Jm (.dict (eD kvs)) (eS s) (.int 0)=some (.int (cnt kvs s:Nat)):=by
 show ob (kxOf (eS s)) (λ ks=>if kOk (eD kvs) ks=true then some ((zj (eD kvs) ks).getD (.int 0)) else none)=_
 rw [Y7,ob_s,if_pos (qaW _ _),yQ]
 unfold cnt
 cases kvs.find? (λ p=>decide (p.1=s))<;>rfl
theorem qhl {kvs:List (Sp×Nat)}{s:Sp}(hl:kvs.length<900):Wa (.dict (eD kvs)) (eS s) (.int ((cnt kvs s:Nat)+1))=some (.dict (eD (bump kvs s))):=by
 show ob (kxOf (eS s)) (λ ks=>if kOk (eD kvs) ks=true/\(eD kvs).length<1000 then some (PyData.dict (putD (eD kvs) ks _)) else none)=_
 rw [Y7,ob_s,if_pos ⟨qaW _ _,by unfold eD;rw [List.length_map];omega⟩]
 unfold putD bump
 rw [wI]
 by_cases h:s∈kvs.map (·.1)
 ·rw [decide_eq_true h,if_pos rfl,if_pos h]
  unfold eD
  rw [List.map_map,List.map_map]
  refine congrArg (λ z=>some (PyData.dict z)) (List.map_congr_left λ p _=>?_)
  show (if PyData.eqv (eS p.1) (kxD (kS s))=true then (eS p.1,PyData.int ((cnt kvs s:Nat)+1)) else (eS p.1,.int (p.2:Nat)))=(λ p:Sp×Nat=>(eS p.1,PyData.int (p.2:Nat))) (if p.1=s then (p.1,cnt kvs s+1) else p)
  rw [yW,J9]
  by_cases e:p.1=s
  ·rw [if_pos (decide_eq_true e),if_pos e];rfl
  ·rw [if_neg (by simpa using e),if_neg e]
 ·rw [decide_eq_false h,if_neg (by decide),if_neg h]
  have hc:cnt kvs s=0:=by
   unfold cnt
   rw [List.find?_eq_none.mpr λ p hp=>by simpa using λ z=>h (List.mem_map.mpr ⟨p,hp,z⟩)]
   rfl
  unfold eD
  rw [List.map_append,hc,yW]
  rfl
theorem qgz {kvs:List (Sp×Nat)}{s:Sp}(h:s∈kvs.map (·.1)):ix2D (.dict (eD kvs)) (eS s)=some (.int (cnt kvs s:Nat)):=by
 show ob (kxOf (eS s)) (λ ks=>if kOk (eD kvs) ks=true then zj (eD kvs) ks else none)=_
 have hs:=wI s kvs
 rw [decide_eq_true h,yQ] at hs
 rw [Y7,ob_s,if_pos (qaW _ _),yQ]
 unfold cnt
 cases e:kvs.find? (λ p=>decide (p.1=s)) with
 | none=>rw [e] at hs;cases hs
 | some p=>rfl
theorem qba (kvs:List (Sp×Nat)):Jc (.dict (eD kvs))=some (kvs.map λ p=>eS p.1):=by
 show (if excK (eD kvs)=true then none else some ((eD kvs).map (·.1)))=_
 rw [if_neg (show ¬ excK (eD kvs)=true by cases kvs<;>exact Bool.false_ne_true)]
 unfold eD
 rw [List.map_map]
 rfl
theorem qeU (kvs:List (Sp×Nat))(s:Sp):(bump kvs s).map (·.1)=if s∈kvs.map (·.1) then kvs.map (·.1) else kvs.map (·.1)++[s]:=by
 unfold bump
 by_cases h:s∈kvs.map (·.1)
 ·rw [if_pos h,if_pos h,List.map_map]
  refine List.map_congr_left λ p _=>?_
  show (if p.1=s then (p.1,cnt kvs s+1) else p).1=p.1
  split<;>rfl
 ·rw [if_neg h,if_neg h,List.map_append];rfl
theorem qfZ (kvs:List (Sp×Nat))(s t:Sp):cnt (bump kvs s) t=cnt kvs t+if s=t then 1 else 0:=by
 unfold bump
 by_cases h:s∈kvs.map (·.1)
 ·rw [if_pos h]
  generalize hc:cnt kvs s=n
  by_cases e:s=t
  ·subst e
   rw [if_pos rfl,hc]
   obtain ⟨p,hp,hps⟩:=List.mem_map.mp h
   clear hc h
   unfold cnt
   induction kvs with
   | nil=>cases hp
   | cons q kvs ih =>
    rw [List.map_cons,List.find?_cons]
    by_cases hq:q.1=s
    ·rw [if_pos hq];simp [hq]
    ·rw [if_neg hq,decide_eq_false hq]
     rcases List.mem_cons.mp hp with rfl|z
     ·exact absurd hps hq
     ·exact ih z
  ·rw [if_neg e,Nat.add_zero]
   clear hc h
   unfold cnt
   induction kvs with
   | nil=>rfl
   | cons q kvs ih =>
    rw [List.map_cons,List.find?_cons,List.find?_cons]
    by_cases hq:q.1=s
    ·rw [if_pos hq]
     have:¬ q.1=t:=λ z=>e (hq.symm.trans z)
     rw [decide_eq_false this]
     exact ih
    ·rw [if_neg hq]
     by_cases ht:q.1=t
     ·rw [decide_eq_true ht];rfl
     ·rw [decide_eq_false ht];exact ih
 ·rw [if_neg h]
  unfold cnt
  rw [List.find?_append]
  by_cases e:s=t
  ·subst e
   rw [List.find?_eq_none.mpr λ p hp=>by simpa using λ z=>h (List.mem_map.mpr ⟨p,hp,z⟩)]
   simp
  ·rw [if_neg e]
   have:([(s,1)]:List (Sp×Nat)).find? (λ p=>decide (p.1=t))=none:=by simp [e]
   rw [this,Option.or_none,Nat.add_zero]
theorem qaF (xs:List Sp):∀ kvs:List (Sp×Nat),((xs.foldl bump kvs).map (·.1)=xs.foldl (λ ks s=>if s∈ks then ks else ks++[s]) (kvs.map (·.1)))/\∀ t,cnt (xs.foldl bump kvs) t=cnt kvs t+xs.count t:=by
 induction xs with
 | nil=>exact λ kvs=>⟨rfl,λ t=>rfl⟩
 | cons x xs ih =>
  intro kvs
  obtain ⟨h1,h2⟩:=ih (bump kvs x)
  refine ⟨?_,λ t=>?_⟩
  ·rw [List.foldl_cons,List.foldl_cons,h1,qeU]
  ·rw [List.foldl_cons,h2,qfZ,List.count_cons]
   by_cases e:x=t
   ·rw [if_pos e,if_pos (by simp [e])];omega
   ·rw [if_neg e,if_neg (by simp [e])];omega
theorem yp (xs:List Sp):(tally xs).map (·.1)=once xs:=(qaF xs []).1
theorem qaE (xs:List Sp)(t:Sp):cnt (tally xs) t=xs.count t:=by
 have:=(qaF xs []).2 t
 have h0:cnt [] t=0:=rfl
 rw [h0,Nat.zero_add] at this
 exact this
theorem qci (xs:List Sp):∀ ks:List Sp,ks.Nodup->(xs.foldl (λ ks s=>if s∈ks then ks else ks++[s]) ks).Nodup/\∀ t,t∈xs.foldl (λ ks s=>if s∈ks then ks else ks++[s]) ks↔t∈ks\/t∈xs:=by
 induction xs with
 | nil=>exact λ ks h=>⟨h,λ t=>by simp⟩
 | cons x xs ih =>
  intro ks h
  rw [List.foldl_cons]
  by_cases hx:x∈ks
  ·rw [if_pos hx]
   obtain ⟨h1,h2⟩:=ih ks h
   refine ⟨h1,λ t=>(h2 t).trans ?_⟩
   rw [List.mem_cons]
   constructor
   ·rintro (z|z)
    ·exact .inl z
    ·exact .inr (.inr z)
   ·rintro (z|rfl|z)
    ·exact .inl z
    ·exact .inl hx
    ·exact .inr z
  ·rw [if_neg hx]
   obtain ⟨h1,h2⟩:=ih (ks++[x]) (by
    rw [List.nodup_append]
    exact ⟨h,by simp,λ a ha b hb z=>by subst z;exact hx (by have:=List.mem_singleton.mp hb;subst this;exact ha)⟩)
   refine ⟨h1,λ t=>(h2 t).trans ?_⟩
   rw [List.mem_append,List.mem_singleton,List.mem_cons]
   exact or_assoc
theorem ZJ (xs:List Sp):(once xs).Nodup:=(qci xs [] List.nodup_nil).1
theorem Qw {xs:List Sp}{t:Sp}:t∈once xs↔t∈xs:=by
 have:=(qci xs [] List.nodup_nil).2 t
 unfold once
 rw [this]
 simp
theorem wO {A:Nat}(hA:A=0\/A=1\/A=2)(s:Sp):QG [eS s,.int (A:Nat)]=some (.list ((ar A s).map eS))/\zV [eS s,.list (others A)]=some (.list ((ar A s).map eS)):=by
 obtain ⟨zs,e1,e2,p⟩:=qfR hA s
 obtain ⟨ys,e3,p3,o3⟩:=qgX hA s
 have hz:zs=ys:=by
  have:=e2.symm.trans e3
  have h:=PyData.list.inj (Option.some.inj this)
  have inj:∀ (as bs:List Sp),as.map eS=bs.map eS->as=bs:=by
   intro as
   induction as with
   | nil=>intro bs h;cases bs with
    | nil=>rfl
    | cons b bs=>cases h
   | cons a as ih =>
    intro bs h
    cases bs with
    | nil=>cases h
    | cons b bs =>
     obtain ⟨h1,h2⟩:=List.cons.inj h
     have:a=b:=by
      obtain ⟨x,y,z⟩:=a
      obtain ⟨u,v,w⟩:=b
      simp only [eS] at h1
      cases h1
      rfl
     rw [this,ih bs h2]
  exact inj zs ys h
 have har:(ed A s).Perm (ar A s):=by
  obtain ⟨x,y,z⟩:=s
  rcases hA with rfl|rfl|rfl<;>simp only [ed,ar,Int.sub_eq_add_neg]<;>exact (qjx _ _ _ _).symm
 have:zs=ar A s:=by
  subst hz
  exact ju (p.trans har) o3 (qfQ hA s)
 rw [this] at e1 e2
 exact ⟨e1,e2⟩
theorem qh2 {s:Sp}(h:Sq s):ZF [eS s]=some (.list ((ar (axA s) s).map eS)):=by
 have hA:axA s=0\/axA s=1\/axA s=2:=by rcases zR h with z|z|z<;>simp [z.1]
 have e1:=qcX (A:=axA s) (s:=s) (by rcases zR h with ⟨a,b⟩|⟨a,b⟩|⟨a,b⟩;exact .inl ⟨a,b⟩;exact .inr (.inl ⟨a,b⟩);exact .inr (.inr ⟨a,b⟩))
 have e2:=(wO hA s).1
 simp only [ZF,yr]
 simp_arith [e1,e2]
theorem qfG {B:Nat}{e:Sp}(h:EdB' B e):QR [eS e]=some (.list ((ar B e).map eS)):=by
 have hB:B=0\/B=1\/B=2:=by rcases h with z|z|z<;>simp [z.1]
 have e2:=(wO hB e).1
 have i0:ZX (.list [.int 1,.int 0,.int 0]) (.int 1)=some (.int 0):=rfl
 have i1:ZX (.list [.int 0,.int 1,.int 0]) (.int 1)=some (.int 1):=rfl
 have i2:ZX (.list [.int 0,.int 0,.int 1]) (.int 1)=some (.int 2):=rfl
 have me:∀ k:Int,∀ (hk:k=(B:Nat)),QG [eS e,.int k]=some (.list ((ar B e).map eS)):=λ k hk=>by rw [hk];exact e2
 rcases h with ⟨rfl,h1,h2,h3⟩|⟨rfl,h1,h2,h3⟩|⟨rfl,h1,h2,h3⟩<;>simp only [QR,Ja]
 ·have m:=me 0 rfl
  simp only [eS] at m ⊢
  simp_arith [h1,h2,h3,i0,m]
 ·have m:=me 1 rfl
  simp only [eS] at m ⊢
  simp_arith [h1,h2,h3,i1,m]
 ·have m:=me 2 rfl
  simp only [eS] at m ⊢
  simp_arith [h1,h2,h3,i2,m]
theorem qby (kvs:List (Sp×Nat))(s:Sp):(bump kvs s).length<=kvs.length+1:=by
 unfold bump
 split
 ·rw [List.length_map];omega
 ·rw [List.length_append,List.length_singleton];omega
theorem qbC {sk:List Sp}(hs:∀ s∈sk,Sq s)(hl:sk.length<=60):Qm [.list (sk.map eS)]=some (.dict (eD (tally (sk.flatMap λ s=>ar (axA s) s)))):=by
 obtain ⟨ρ',e,o2,o3,rfl,-⟩:=Qe eS (g:=gNm 2) (u:=(sFor (evI (evC 1 (aC (vr 2) aN) ZF) seqD) (gNm 3) (Yk 1 (vr 3) (qP (ev2 (ev3 (vr 1) (vr 3) (kd (.int 0)) Jm) (kd (.int 1)) qJ)))))
  (λ done ρ=>∃ o2 o3:Option PyData,ρ=[some (.list (sk.map eS)),some (.dict (eD (tally (done.flatMap λ s=>ar (axA s) s)))),o2,o3]/\(tally (done.flatMap λ s=>ar (axA s) s)).length<=4*done.length) sk [some (.list (sk.map eS)),some (.dict []),none,none] ⟨none,none,rfl,Nat.zero_le _⟩ (by
   rintro s hsm done ρ hdl ⟨o2,o3,rfl,hlen⟩
   have hed:=qh2 (hs s hsm)
   have h4:(ar (axA s) s).length=4:=by rcases zR (hs s hsm) with z|z|z<;>rw [z.1]<;>rfl
   generalize hk:tally (done.flatMap λ s=>ar (axA s) s)=kvs at *
   obtain ⟨ρ1,e1,o3',rfl,hlen1⟩:=Qe eS (g:=gNm 3) (u:=(Yk 1 (vr 3) (qP (ev2 (ev3 (vr 1) (vr 3) (kd (.int 0)) Jm) (kd (.int 1)) qJ))))
    (λ don ρ=>∃ o3:Option PyData,ρ=[some (.list (sk.map eS)),some (.dict (eD (don.foldl bump kvs))),some (eS s),o3]/\(don.foldl bump kvs).length<=kvs.length+don.length) (ar (axA s) s) [some (.list (sk.map eS)),some (.dict (eD kvs)),some (eS s),o3] ⟨o3,rfl,Nat.le_refl _⟩ (by
     rintro t ht don ρ hd ⟨o3,rfl,hl2⟩
     have hg:=qgr (don.foldl bump kvs) t
     have hp:=qhl (kvs:=don.foldl bump kvs) (s:=t) (by omega)
     have hb:=qby (don.foldl bump kvs) t
     refine ⟨_,?_,some (eS t),rfl,?_⟩
     ·simp_arith [hg,zU,hp]
      rw [List.foldl_append]
      rfl
     ·rw [List.foldl_append,List.length_append,List.length_singleton]
      show (bump (don.foldl bump kvs) t).length<=_
      omega)
   have ht:tally ((done++[s]).flatMap λ s=>ar (axA s) s)=(ar (axA s) s).foldl bump kvs:=by
    rw [List.flatMap_append,← hk]
    unfold tally
    rw [List.foldl_append]
    simp
   refine ⟨_,?_,some (eS s),o3',rfl,?_⟩
   ·rw [ht]
    simp_arith [hed,e1]
   ·rw [ht,List.length_append,List.length_singleton]
    omega)
 simp only [Qm,jz]
 simp_arith [e]
theorem qgV {c:Sp}(h:BdS 200 c):Qk [eS c]=some (eS (mid c)):=by
 simp only [Qk,JF,eS,mid]
 simp_arith [zB (bd2.ok h.1),zB (bd2.ok h.2.1),zB (bd2.ok h.2.2)]
theorem yE (a b:Sp):Qj [eS a,eS b]=some (eS (ad a b)):=by
 simp only [Qj,JZ]
 simp_arith [ixe0,ixe1,ixe2]
 rfl
def units:List Sp:=[(-1,0,0),(0,-1,0),(0,0,-1),(0,0,1),(0,1,0),(1,0,0)]
theorem qcR:seqD QW=some (units.map eS):=by kernel_rfl
def usq (c:Sp):List Sp:=units.map (ad (mid c))
theorem qkY {cs:List Sp}(hb:∀ c∈cs,BdS 200 c)(hl:cs.length<=6):∃ sk:List Sp,zE [.list (cs.map eS)]=some (.list (sk.map eS))/\(sk.map l3).Pairwise (λ a b=>HT.lexLt b a=false)/\sk.Nodup/\sk.length<=36/\∀ s,s∈sk↔(cs.flatMap usq).count s=1:=by
 obtain ⟨ρ',e,o2,o3,o4,rfl,hlen⟩:=Qe eS (g:=gNm 2) (u:=(sFor (evI (kd QW) seqD) (gNm 3) (seqO (sSet 4 (evC 2 (aC (evC 1 (aC (vr 2) aN) Qk) (aC (vr 3) aN)) Qj)) (Yk 1 (vr 4) (qP (ev2 (ev3 (vr 1) (vr 4) (kd (.int 0)) Jm) (kd (.int 1)) qJ))))))
  (λ done ρ=>∃ o2 o3 o4:Option PyData,ρ=[some (.list (cs.map eS)),some (.dict (eD (tally (done.flatMap usq)))),o2,o3,o4]/\(tally (done.flatMap usq)).length<=6*done.length) cs [some (.list (cs.map eS)),some (.dict []),none,none,none] ⟨none,none,none,rfl,Nat.zero_le _⟩ (by
   rintro c hc done ρ hdl ⟨o2,o3,o4,rfl,hlen⟩
   have hm:=qgV (hb c hc)
   generalize hk:tally (done.flatMap usq)=kvs at *
   obtain ⟨ρ1,e1,o3',o4',rfl,hlen1⟩:=Qe eS (g:=gNm 3) (u:=(seqO (sSet 4 (evC 2 (aC (evC 1 (aC (vr 2) aN) Qk) (aC (vr 3) aN)) Qj)) (Yk 1 (vr 4) (qP (ev2 (ev3 (vr 1) (vr 4) (kd (.int 0)) Jm) (kd (.int 1)) qJ)))))
    (λ don ρ=>∃ o3 o4:Option PyData,ρ=[some (.list (cs.map eS)),some (.dict (eD ((don.map (ad (mid c))).foldl bump kvs))),some (eS c),o3,o4]/\((don.map (ad (mid c))).foldl bump kvs).length<=kvs.length+don.length) units [some (.list (cs.map eS)),some (.dict (eD kvs)),some (eS c),o3,o4] ⟨o3,o4,rfl,Nat.le_refl _⟩ (by
     rintro u hu don ρ hd ⟨o3,o4,rfl,hl2⟩
     have hu6:units.length=6:=rfl
     have ha:=yE (mid c) u
     have hg:=qgr ((don.map (ad (mid c))).foldl bump kvs) (ad (mid c) u)
     have hp:=qhl (kvs:=(don.map (ad (mid c))).foldl bump kvs) (s:=ad (mid c) u) (by omega)
     have hbl:=qby ((don.map (ad (mid c))).foldl bump kvs) (ad (mid c) u)
     refine ⟨_,?_,some (eS u),some (eS (ad (mid c) u)),rfl,?_⟩
     ·simp_arith [hm,ha,hg,zU,hp]
      rw [List.map_append,List.foldl_append]
      rfl
     ·rw [List.map_append,List.foldl_append,List.length_append,List.length_singleton]
      show (bump ((don.map (ad (mid c))).foldl bump kvs) (ad (mid c) u)).length<=_
      omega)
   have ht:tally ((done++[c]).flatMap usq)=(units.map (ad (mid c))).foldl bump kvs:=by
    rw [List.flatMap_append,← hk]
    unfold tally
    rw [List.foldl_append]
    simp [usq]
   have hu6:units.length=6:=rfl
   refine ⟨_,?_,some (eS c),o3',o4',rfl,?_⟩
   ·rw [ht]
    simp_arith [qcR,e1]
   ·rw [ht,List.length_append,List.length_singleton]
    omega)
 generalize hk:tally (cs.flatMap usq)=kvs at *
 have hcnt:∀ t,cnt kvs t=(cs.flatMap usq).count t:=λ t=>by rw [← hk,qaE]
 have hkeys:kvs.map (·.1)=once (cs.flatMap usq):=by rw [← hk,yp]
 have hc:Qa (tV (ev2 (ev2 (vr 1) (vr 5) ix2D) (kd (.int 1)) eqD)) (vr 5) [some (.list (cs.map eS)),some (.dict (eD kvs)),o2,o3,o4] (kvs.map λ p=>eS p.1)=some ((kvs.filter λ p=>decide (cnt kvs p.1=1)).map λ p=>eS p.1):=by
  refine ZC (λ p:Sp×Nat=>eS p.1) (λ p=>decide (cnt kvs p.1=1)) (λ p=>eS p.1) kvs (λ p hp=>?_) λ p hp _=>?_
  ·have hi:=qgz (s:=p.1) (List.mem_map.mpr ⟨p,hp,rfl⟩)
   simp_arith [hi]
   refine congrArg some ?_
   rw [Bool.eq_iff_iff]
   simp
   omega
  ·simp_arith []
 have hlk:kvs.length<=36:=by omega
 have hfl:=List.length_filter_le (λ p:Sp×Nat=>decide (cnt kvs p.1=1)) kvs
 obtain ⟨sk,es,p,r⟩:=ZL (xs:=(kvs.filter λ p=>decide (cnt kvs p.1=1)).map (·.1)) (by rw [List.length_map];omega)
 have hz:(kvs.map λ p=>eS p.1).length<=1000:=by rw [List.length_map];omega
 have es:Qg [.list ((kvs.filter λ p=>decide (cnt kvs p.1=1)).map λ p=>eS p.1)]=some (.list (sk.map eS)):=by
  rw [← es,List.map_map]
  rfl
 have hnk:(kvs.map (·.1)).Nodup:=by rw [hkeys];exact ZJ _
 refine ⟨sk,?_,r,p.nodup_iff.mpr (List.Nodup.sublist (List.filter_sublist.map _) hnk),by rw [p.length_eq,List.length_map];omega,λ s=>?_⟩
 ·simp only [zE,YM]
  simp_arith [e,qba,hz,hc,es]
 ·rw [p.mem_iff]
  constructor
  ·intro h
   obtain ⟨q,hq,rfl⟩:=List.mem_map.mp h
   have:=of_decide_eq_true (List.mem_filter.mp hq).2
   rwa [hcnt] at this
  ·intro h
   have hm:s∈kvs.map (·.1):=by
    rw [hkeys,Qw]
    exact List.count_pos_iff.mp (by omega)
   obtain ⟨q,hq,rfl⟩:=List.mem_map.mp hm
   exact List.mem_map.mpr ⟨q,List.mem_filter.mpr ⟨hq,decide_eq_true (by rw [hcnt];exact h)⟩,rfl⟩
theorem j0 {a b:Sp}(h:mid a=mid b):a=b:=by
 obtain ⟨x,y,z⟩:=a
 obtain ⟨u,v,w⟩:=b
 unfold mid at h
 obtain ⟨h1,h2⟩:=Prod.mk.inj h
 obtain ⟨h2,h3⟩:=Prod.mk.inj h2
 dsimp only at h1 h2 h3
 have e1:x=u:=by omega
 have e2:y=v:=by omega
 have e3:z=w:=by omega
 rw [e1,e2,e3]
def inM (cs:List Sp)(m:Sp):Bool:=decide (m∈cs.map mid)
theorem qen (c:Sp):(mid c).1 % 2=1/\(mid c).2.1 % 2=1/\(mid c).2.2 % 2=1:=⟨by show (2*c.1+1) % 2=1;omega,by show (2*c.2.1+1) % 2=1;omega,by show (2*c.2.2+1) % 2=1;omega⟩
theorem ZP {m s:Sp}:s∈units.map (ad m)↔(s.1=m.1 + -1/\s.2.1=m.2.1+0/\s.2.2=m.2.2+0)\/(s.1=m.1+0/\s.2.1=m.2.1 + -1/\s.2.2=m.2.2+0)\/(s.1=m.1+0/\s.2.1=m.2.1+0/\s.2.2=m.2.2 + -1)\/(s.1=m.1+0/\s.2.1=m.2.1+0/\s.2.2=m.2.2+1)\/(s.1=m.1+0/\s.2.1=m.2.1+1/\s.2.2=m.2.2+0)\/(s.1=m.1+1/\s.2.1=m.2.1+0/\s.2.2=m.2.2+0):=by
 obtain ⟨x,y,z⟩:=m
 obtain ⟨a,b,d⟩:=s
 simp only [units,List.map_cons,List.map_nil,List.mem_cons,List.not_mem_nil,or_false,ad,Prod.mk.injEq]
theorem zem {a b:Int}(h:a=b + -1)(o:b % 2=1):a % 2=0:=by omega
theorem zep {a b:Int}(h:a=b+1)(o:b % 2=1):a % 2=0:=by omega
theorem ze0 {a b:Int}(h:a=b+0)(o:b % 2=1):a % 2=1:=by omega
theorem z0 {a b:Int}(h:a=b+0):b=a:=by omega
theorem zm {a b:Int}(h:a=b + -1):b=a+1:=by omega
theorem zp {a b:Int}(h:a=b+1):b=a-1:=by omega
theorem w0 {a b:Int}(h:b=a):a=b+0:=by omega
theorem wm {a b:Int}(h:b=a+1):a=b + -1:=by omega
theorem wp {a b:Int}(h:b=a-1):a=b+1:=by omega
theorem qlc {c s:Sp}(h:s∈usq c):Sq s:=by
 obtain ⟨o1,o2,o3⟩:=qen c
 rcases ZP.mp h with ⟨p,q,r⟩|⟨p,q,r⟩|⟨p,q,r⟩|⟨p,q,r⟩|⟨p,q,r⟩|⟨p,q,r⟩
 ·exact .inl ⟨zem p o1,ze0 q o2,ze0 r o3⟩
 ·exact .inr (.inl ⟨ze0 p o1,zem q o2,ze0 r o3⟩)
 ·exact .inr (.inr ⟨ze0 p o1,ze0 q o2,zem r o3⟩)
 ·exact .inr (.inr ⟨ze0 p o1,ze0 q o2,zep r o3⟩)
 ·exact .inr (.inl ⟨ze0 p o1,zep q o2,ze0 r o3⟩)
 ·exact .inl ⟨zep p o1,ze0 q o2,ze0 r o3⟩
theorem qjh {m s:Sp}(hm:m.1 % 2=1/\m.2.1 % 2=1/\m.2.2 % 2=1)(hs:Sq s):s∈units.map (ad m)↔m=lo (axA s) s\/m=hi (axA s) s:=by
 obtain ⟨o1,o2,o3⟩:=hm
 rcases zR hs with ⟨e,h1,h2,h3⟩|⟨e,h1,h2,h3⟩|⟨e,h1,h2,h3⟩<;>rw [e]
 ·constructor
  ·intro h
   rcases ZP.mp h with ⟨p,q,r⟩|⟨p,q,r⟩|⟨p,q,r⟩|⟨p,q,r⟩|⟨p,q,r⟩|⟨p,q,r⟩
   ·exact .inr (QJ (zm p) (z0 q) (z0 r))
   ·exact ne01 h1 (ze0 p o1)
   ·exact ne01 h1 (ze0 p o1)
   ·exact ne01 h1 (ze0 p o1)
   ·exact ne01 h1 (ze0 p o1)
   ·exact .inl (QJ (zp p) (z0 q) (z0 r))
  ·rintro (h|h)
   ·exact ZP.mpr (.inr (.inr (.inr (.inr (.inr ⟨wp (congrArg (·.1) h),w0 (congrArg (·.2.1) h),w0 (congrArg (·.2.2) h)⟩)))))
   ·exact ZP.mpr (.inl ⟨wm (congrArg (·.1) h),w0 (congrArg (·.2.1) h),w0 (congrArg (·.2.2) h)⟩)
 ·constructor
  ·intro h
   rcases ZP.mp h with ⟨p,q,r⟩|⟨p,q,r⟩|⟨p,q,r⟩|⟨p,q,r⟩|⟨p,q,r⟩|⟨p,q,r⟩
   ·exact ne01 h2 (ze0 q o2)
   ·exact .inr (QJ (z0 p) (zm q) (z0 r))
   ·exact ne01 h2 (ze0 q o2)
   ·exact ne01 h2 (ze0 q o2)
   ·exact .inl (QJ (z0 p) (zp q) (z0 r))
   ·exact ne01 h2 (ze0 q o2)
  ·rintro (h|h)
   ·exact ZP.mpr (.inr (.inr (.inr (.inr (.inl ⟨w0 (congrArg (·.1) h),wp (congrArg (·.2.1) h),w0 (congrArg (·.2.2) h)⟩)))))
   ·exact ZP.mpr (.inr (.inl ⟨w0 (congrArg (·.1) h),wm (congrArg (·.2.1) h),w0 (congrArg (·.2.2) h)⟩))
 ·constructor
  ·intro h
   rcases ZP.mp h with ⟨p,q,r⟩|⟨p,q,r⟩|⟨p,q,r⟩|⟨p,q,r⟩|⟨p,q,r⟩|⟨p,q,r⟩
   ·exact ne01 h3 (ze0 r o3)
   ·exact ne01 h3 (ze0 r o3)
   ·exact .inr (QJ (z0 p) (z0 q) (zm r))
   ·exact .inl (QJ (z0 p) (z0 q) (zp r))
   ·exact ne01 h3 (ze0 r o3)
   ·exact ne01 h3 (ze0 r o3)
  ·rintro (h|h)
   ·exact ZP.mpr (.inr (.inr (.inr (.inl ⟨w0 (congrArg (·.1) h),w0 (congrArg (·.2.1) h),wp (congrArg (·.2.2) h)⟩))))
   ·exact ZP.mpr (.inr (.inr (.inl ⟨w0 (congrArg (·.1) h),w0 (congrArg (·.2.1) h),wm (congrArg (·.2.2) h)⟩)))
theorem Yz {α β:Type}{f:α->β}(hf:∀ a b,f a=f b->a=b):∀ {l:List α},l.Nodup->(l.map f).Nodup
 | [],_=>List.nodup_nil
 | a::l,h=>by
  obtain ⟨h1,h2⟩:=List.nodup_cons.mp h
  refine List.map_cons ▸ List.nodup_cons.mpr ⟨λ z=>?_,Yz hf h2⟩
  obtain ⟨x,hx,e⟩:=List.mem_map.mp z
  rw [hf x a e] at hx
  exact h1 hx
theorem qjE {m a b:Sp}(h:ad m a=ad m b):a=b:=by
 have h1:m.1+a.1=m.1+b.1:=congrArg (·.1) h
 have h2:m.2.1+a.2.1=m.2.1+b.2.1:=congrArg (·.2.1) h
 have h3:m.2.2+a.2.2=m.2.2+b.2.2:=congrArg (·.2.2) h
 exact QJ (by omega) (by omega) (by omega)
theorem qgM (A:Nat)(s:Sp):lo A s≠hi A s:=λ h=>by
 unfold lo hi at h
 split at h
 ·have:=congrArg (·.1) h;dsimp only at this;omega
 ·have:=congrArg (·.2.1) h;dsimp only at this;omega
 ·have:=congrArg (·.2.2) h;dsimp only at this;omega
theorem Yw {s:Sp}:∀ {l:List Sp},l.Nodup->s∈l->l.count s=1
 | [],_,h=>by cases h
 | a::l,hn,h=>by
  obtain ⟨h1,h2⟩:=List.nodup_cons.mp hn
  rw [List.count_cons]
  by_cases e:a=s
  ·subst e
   rw [List.count_eq_zero.mpr h1,beq_self_eq_true]
   rfl
  ·rw [Yw h2 ((List.mem_cons.mp h).resolve_left (λ z=>e z.symm)),beq_eq_false_iff_ne.mpr e]
   rfl
theorem qjg {c s:Sp}(hs:Sq s):(usq c).count s=(if mid c=lo (axA s) s then 1 else 0)+(if mid c=hi (axA s) s then 1 else 0):=by
 have hiff:=qjh (qen c) hs
 have hnd:(usq c).Nodup:=Yz (λ _ _=>qjE) (by decide)
 by_cases h1:mid c=lo (axA s) s
 ·rw [if_pos h1,if_neg (λ z=>qgM _ _ (h1.symm.trans z))]
  exact Yw hnd (hiff.mpr (.inl h1))
 ·rw [if_neg h1]
  by_cases h2:mid c=hi (axA s) s
  ·rw [if_pos h2]
   exact Yw hnd (hiff.mpr (.inr h2))
  ·rw [if_neg h2]
   exact List.count_eq_zero.mpr λ z=>(hiff.mp z).elim h1 h2
theorem qaJ {s:Sp}(hs:Sq s):∀ {cs:List Sp},cs.Nodup->(cs.flatMap usq).count s=(if lo (axA s) s∈cs.map mid then 1 else 0)+(if hi (axA s) s∈cs.map mid then 1 else 0)
 | [],_=>rfl
 | c::cs,hn=>by
  obtain ⟨n1,n2⟩:=List.nodup_cons.mp hn
  have ih:=qaJ hs n2
  have nm:mid c∉cs.map mid:=λ z=>by
   obtain ⟨c',h1,h2⟩:=List.mem_map.mp z
   exact n1 (by rw [← j0 h2];exact h1)
  rw [List.flatMap_cons,List.count_append,qjg hs,ih,List.map_cons]
  have one:∀ m:Sp,(if m∈mid c::cs.map mid then 1 else 0)=(if mid c=m then 1 else 0)+(if m∈cs.map mid then 1 else 0):=λ m=>by
   by_cases h:mid c=m
   ·subst h
    rw [if_pos (.head _),if_pos rfl,if_neg nm]
   ·rw [if_neg h,Nat.zero_add]
    by_cases h2:m∈cs.map mid
    ·rw [if_pos h2,if_pos (.tail _ h2)]
    ·rw [if_neg h2,if_neg (λ z=>by rcases List.mem_cons.mp z with y|y;exact h y.symm;exact h2 y)]
  rw [one,one]
  omega
theorem qhr {cs:List Sp}(hn:cs.Nodup)(s:Sp):(cs.flatMap usq).count s=1↔Sq s/\skB (inM cs) s=true:=by
 constructor
 ·intro h
  have hm:s∈cs.flatMap usq:=List.count_pos_iff.mp (by omega)
  obtain ⟨c,_,hc⟩:=List.mem_flatMap.mp hm
  have hs:=qlc hc
  refine ⟨hs,?_⟩
  rw [qaJ hs hn] at h
  unfold skB inM
  by_cases h1:lo (axA s) s∈cs.map mid<;>by_cases h2:hi (axA s) s∈cs.map mid
  ·rw [if_pos h1,if_pos h2] at h;cases h
  ·rw [decide_eq_true h1,decide_eq_false h2];rfl
  ·rw [decide_eq_false h1,decide_eq_true h2];rfl
  ·rw [if_neg h1,if_neg h2] at h;cases h
 ·rintro ⟨hs,h⟩
  rw [qaJ hs hn]
  unfold skB inM at h
  by_cases h1:lo (axA s) s∈cs.map mid<;>by_cases h2:hi (axA s) s∈cs.map mid
  ·rw [decide_eq_true h1,decide_eq_true h2] at h;cases h
  ·rw [if_pos h1,if_neg h2]
  ·rw [if_neg h1,if_pos h2]
  ·rw [decide_eq_false h1,decide_eq_false h2] at h;cases h
def oth (a:Nat)(b:Int)(c:Sp):Sp:=match a with
 | 0=>(c.1+b,c.2.1,c.2.2)
 | 1=>(c.1,c.2.1+b,c.2.2)
 | _=>(c.1,c.2.1,c.2.2+b)
theorem qk2 {cs L:List Sp}{c:Sp}(hc:BdS 200 c){a:Nat}(ha:a=0\/a=1\/a=2)(b:Int)(hl:L.length<900)(o5 o6:Option PyData) :
  ∃ o5' o6',(seqO (qY 5 (evA (aC (vr 2) aN) Zc)) (seqO (sPut 5 (vr 3) (qP (ev2 (ev2 (vr 5) (vr 3) ixD) (vr 4) qJ))) (sIf (tV (ev2 (evA (aC (vr 5) aN) zc) (vr 0) ninD)) (seqO (qY 6 (zG 7 (evI (vr 2) seqD) tT (ev2 (ev2 (kd (.int 2)) (vr 7) mulD) (kd (.int 1)) qJ))) (seqO (sPut 6 (vr 3) (qP (ev2 (ev2 (vr 6) (vr 3) ixD) (vr 4) qJ))) (sApp 1 (qP (evA (aC (vr 6) aN) zc))))) sN))) [some (.list (cs.map eS)),some (.list (L.map eS)),some (eS c),some (.int (a:Nat)),some (.int b),o5,o6]=some (.nx [some (.list (cs.map eS)),some (.list ((L++if oth a b c∈cs then [] else [oth a b (mid c)]).map eS)),some (eS c),some (.int (a:Nat)),some (.int b),o5',o6']):=by
 have hz:(L.map eS).length<1000:=by rw [List.length_map];omega
 have nn:=qes cs (oth a b c)
 have m1:=zB (bd2.ok hc.1)
 have m2:=zB (bd2.ok hc.2.1)
 have m3:=zB (bd2.ok hc.2.2)
 have n1:(((1:Nat):Int))=1:=rfl
 have n2:(((2:Nat):Int))=2:=rfl
 by_cases h:oth a b c∈cs
 ·rw [if_pos h,List.append_nil]
  rw [decide_eq_true h] at nn
  rcases ha with rfl|rfl|rfl<;>simp only [oth,eS] at nn ⊢
  ·exact ⟨_,_,by simp_arith [ix0,ix1,ix2,zU,nn,Int.natCast_zero];rfl⟩
  ·exact ⟨_,_,by simp_arith [ix0,ix1,ix2,zU,nn,n1];rfl⟩
  ·exact ⟨_,_,by simp_arith [ix0,ix1,ix2,zU,nn,n2];rfl⟩
 ·rw [if_neg h]
  rw [decide_eq_false h] at nn
  rcases ha with rfl|rfl|rfl<;>simp only [oth,eS,mid,List.map_append,List.map_cons,List.map_nil] at nn ⊢
  ·exact ⟨_,_,by simp_arith [ix0,ix1,ix2,zU,Zm,nn,m1,m2,m3,hz,Int.natCast_zero];rfl⟩
  ·exact ⟨_,_,by simp_arith [ix0,ix1,ix2,zU,Zm,nn,m1,m2,m3,hz,n1];rfl⟩
  ·exact ⟨_,_,by simp_arith [ix0,ix1,ix2,zU,Zm,nn,m1,m2,m3,hz,n2];rfl⟩
def lsb (cs:List Sp)(c:Sp)(a:Nat)(b:Int):List Sp:=if oth a b c∈cs then [] else [oth a b (mid c)]
def lsa (cs:List Sp)(c:Sp)(a:Nat):List Sp:=[-1,1].flatMap (lsb cs c a)
def lsq (cs:List Sp)(c:Sp):List Sp:=[0,1,2].flatMap (lsa cs c)
theorem qit (cs:List Sp)(c:Sp)(a:Nat)(b:Int):(lsb cs c a b).length<=1:=by
 unfold lsb
 split
 ·exact Nat.zero_le _
 ·exact Nat.le_refl _
theorem qiu {cs:List Sp}(hb:∀ c∈cs,BdS 200 c)(hl:cs.length<=6):∃ sk:List Sp,zu [.list (cs.map eS)]=some (.list (sk.map eS))/\(sk.map l3).Pairwise (λ a b=>HT.lexLt b a=false)/\sk.Perm (cs.flatMap (lsq cs)):=by
 obtain ⟨ρ',e,o2,o3,o4,o5,o6,rfl,hlen⟩:=Qe eS (g:=gNm 2) (u:=(sFor (evR (aC (kd (.int 3)) aN) QS) (gNm 3) (sFor (evI (evA (aC (ev1 (kd (.int 1)) negD) (aC (kd (.int 1)) aN)) tupD) seqD) (gNm 4) (seqO (qY 5 (evA (aC (vr 2) aN) Zc)) (seqO (sPut 5 (vr 3) (qP (ev2 (ev2 (vr 5) (vr 3) ixD) (vr 4) qJ))) (sIf (tV (ev2 (evA (aC (vr 5) aN) zc) (vr 0) ninD)) (seqO (qY 6 (zG 7 (evI (vr 2) seqD) tT (ev2 (ev2 (kd (.int 2)) (vr 7) mulD) (kd (.int 1)) qJ))) (seqO (sPut 6 (vr 3) (qP (ev2 (ev2 (vr 6) (vr 3) ixD) (vr 4) qJ))) (sApp 1 (qP (evA (aC (vr 6) aN) zc))))) sN))))))
  (λ done ρ=>∃ o2 o3 o4 o5 o6:Option PyData,ρ=[some (.list (cs.map eS)),some (.list ((done.flatMap (lsq cs)).map eS)),o2,o3,o4,o5,o6]/\(done.flatMap (lsq cs)).length<=6*done.length) cs [some (.list (cs.map eS)),some (.list []),none,none,none,none,none] ⟨none,none,none,none,none,rfl,Nat.zero_le _⟩ (by
   rintro c hc done ρ hdl ⟨o2,o3,o4,o5,o6,rfl,hlen⟩
   generalize hL:done.flatMap (lsq cs)=L at *
   obtain ⟨ρ1,e1,o3',o4',o5',o6',rfl,hlen1⟩:=Qe (λ a:Nat=>PyData.int (a:Nat)) (g:=gNm 3) (u:=(sFor (evI (evA (aC (ev1 (kd (.int 1)) negD) (aC (kd (.int 1)) aN)) tupD) seqD) (gNm 4) (seqO (qY 5 (evA (aC (vr 2) aN) Zc)) (seqO (sPut 5 (vr 3) (qP (ev2 (ev2 (vr 5) (vr 3) ixD) (vr 4) qJ))) (sIf (tV (ev2 (evA (aC (vr 5) aN) zc) (vr 0) ninD)) (seqO (qY 6 (zG 7 (evI (vr 2) seqD) tT (ev2 (ev2 (kd (.int 2)) (vr 7) mulD) (kd (.int 1)) qJ))) (seqO (sPut 6 (vr 3) (qP (ev2 (ev2 (vr 6) (vr 3) ixD) (vr 4) qJ))) (sApp 1 (qP (evA (aC (vr 6) aN) zc))))) sN)))))
    (λ don ρ=>∃ o3 o4 o5 o6:Option PyData,ρ=[some (.list (cs.map eS)),some (.list ((L++don.flatMap (lsa cs c)).map eS)),some (eS c),o3,o4,o5,o6]/\(L++don.flatMap (lsa cs c)).length<=L.length+2*don.length) [0,1,2] [some (.list (cs.map eS)),some (.list (L.map eS)),some (eS c),o3,o4,o5,o6] ⟨o3,o4,o5,o6,by simp,by simp⟩ (by
     rintro a ham don ρ hd ⟨o3,o4,o5,o6,rfl,hl2⟩
     have ha:a=0\/a=1\/a=2:=by simpa using ham
     have h3:([0,1,2]:List Nat).length=3:=rfl
     generalize hL2:L++don.flatMap (lsa cs c)=Lh at *
     obtain ⟨ρ2,e2,o4',o5',o6',rfl,hlen2⟩:=Qe PyData.int (g:=gNm 4) (u:=(seqO (qY 5 (evA (aC (vr 2) aN) Zc)) (seqO (sPut 5 (vr 3) (qP (ev2 (ev2 (vr 5) (vr 3) ixD) (vr 4) qJ))) (sIf (tV (ev2 (evA (aC (vr 5) aN) zc) (vr 0) ninD)) (seqO (qY 6 (zG 7 (evI (vr 2) seqD) tT (ev2 (ev2 (kd (.int 2)) (vr 7) mulD) (kd (.int 1)) qJ))) (seqO (sPut 6 (vr 3) (qP (ev2 (ev2 (vr 6) (vr 3) ixD) (vr 4) qJ))) (sApp 1 (qP (evA (aC (vr 6) aN) zc))))) sN))))
      (λ dn ρ=>∃ o4 o5 o6:Option PyData,ρ=[some (.list (cs.map eS)),some (.list ((Lh++dn.flatMap (lsb cs c a)).map eS)),some (eS c),some (.int (a:Nat)),o4,o5,o6]/\(Lh++dn.flatMap (lsb cs c a)).length<=Lh.length+dn.length) [-1,1] [some (.list (cs.map eS)),some (.list (Lh.map eS)),some (eS c),some (.int (a:Nat)),o4,o5,o6] ⟨o4,o5,o6,by simp,by simp⟩ (by
       rintro b hbm dn ρ hd2 ⟨o4,o5,o6,rfl,hl3⟩
       have h2:([-1,1]:List Int).length=2:=rfl
       have hll:=qit cs c a b
       obtain ⟨o5',o6',es⟩:=qk2 (cs:=cs) (L:=Lh++dn.flatMap (lsb cs c a)) (hb c hc) ha b (by omega) o5 o6
       have hn:Lh++(dn++[b]).flatMap (lsb cs c a)=(Lh++dn.flatMap (lsb cs c a))++lsb cs c a b:=by
        rw [List.flatMap_append,List.append_assoc]
        simp
       refine ⟨_,es,some (.int b),o5',o6',by rw [hn];rfl,?_⟩
       rw [hn,List.length_append,List.length_append (as:=dn),List.length_singleton]
       omega)
     have hn:L++(don++[a]).flatMap (lsa cs c)=Lh++[-1,1].flatMap (lsb cs c a):=by
      rw [List.flatMap_append,← List.append_assoc,hL2]
      simp [lsa]
     have h2:([-1,1]:List Int).length=2:=rfl
     have e2:forD (gNm 4) (seqO (qY 5 (evA (aC (vr 2) aN) Zc)) (seqO (sPut 5 (vr 3) (qP (ev2 (ev2 (vr 5) (vr 3) ixD) (vr 4) qJ))) (sIf (tV (ev2 (evA (aC (vr 5) aN) zc) (vr 0) ninD)) (seqO (qY 6 (zG 7 (evI (vr 2) seqD) tT (ev2 (ev2 (kd (.int 2)) (vr 7) mulD) (kd (.int 1)) qJ))) (seqO (sPut 6 (vr 3) (qP (ev2 (ev2 (vr 6) (vr 3) ixD) (vr 4) qJ))) (sApp 1 (qP (evA (aC (vr 6) aN) zc))))) sN))) [.int (-1),.int 1] [some (.list (cs.map eS)),some (.list (Lh.map eS)),some (eS c),some (.int (a:Nat)),o4,o5,o6]=some (.nx [some (.list (cs.map eS)),some (.list ((Lh++[-1,1].flatMap (lsb cs c a)).map eS)),some (eS c),some (.int (a:Nat)),o4',o5',o6']):=e2
     refine ⟨_,?_,some (.int (a:Nat)),o4',o5',o6',rfl,?_⟩
     ·rw [hn]
      simp_arith [e2]
     ·rw [hn,List.length_append (as:=don),List.length_singleton]
      omega)
   have hn:(done++[c]).flatMap (lsq cs)=L++[0,1,2].flatMap (lsa cs c):=by
    rw [List.flatMap_append,hL]
    simp [lsq]
   have h3:([0,1,2]:List Nat).length=3:=rfl
   have e1:forD (gNm 3) (sFor (evI (evA (aC (ev1 (kd (.int 1)) negD) (aC (kd (.int 1)) aN)) tupD) seqD) (gNm 4) (seqO (qY 5 (evA (aC (vr 2) aN) Zc)) (seqO (sPut 5 (vr 3) (qP (ev2 (ev2 (vr 5) (vr 3) ixD) (vr 4) qJ))) (sIf (tV (ev2 (evA (aC (vr 5) aN) zc) (vr 0) ninD)) (seqO (qY 6 (zG 7 (evI (vr 2) seqD) tT (ev2 (ev2 (kd (.int 2)) (vr 7) mulD) (kd (.int 1)) qJ))) (seqO (sPut 6 (vr 3) (qP (ev2 (ev2 (vr 6) (vr 3) ixD) (vr 4) qJ))) (sApp 1 (qP (evA (aC (vr 6) aN) zc))))) sN)))) [.int 0,.int 1,.int 2] [some (.list (cs.map eS)),some (.list (L.map eS)),some (eS c),o3,o4,o5,o6]=some (.nx [some (.list (cs.map eS)),some (.list ((L++[0,1,2].flatMap (lsa cs c)).map eS)),some (eS c),o3',o4',o5',o6']):=e1
   have hr:∀ ρ:Rho,(evR (aC (kd (.int 3)) aN) QS) ρ=some [.int 0,.int 1,.int 2]:=λ _=>rfl
   refine ⟨_,?_,some (eS c),o3',o4',o5',o6',rfl,?_⟩
   ·rw [hn]
    show sFor (evR (aC (kd (.int 3)) aN) QS) (gNm 3) (sFor (evI (evA (aC (ev1 (kd (.int 1)) negD) (aC (kd (.int 1)) aN)) tupD) seqD) (gNm 4) (seqO (qY 5 (evA (aC (vr 2) aN) Zc)) (seqO (sPut 5 (vr 3) (qP (ev2 (ev2 (vr 5) (vr 3) ixD) (vr 4) qJ))) (sIf (tV (ev2 (evA (aC (vr 5) aN) zc) (vr 0) ninD)) (seqO (qY 6 (zG 7 (evI (vr 2) seqD) tT (ev2 (ev2 (kd (.int 2)) (vr 7) mulD) (kd (.int 1)) qJ))) (seqO (sPut 6 (vr 3) (qP (ev2 (ev2 (vr 6) (vr 3) ixD) (vr 4) qJ))) (sApp 1 (qP (evA (aC (vr 6) aN) zc))))) sN)))) [some (.list (cs.map eS)),some (.list (L.map eS)),some (eS c),o3,o4,o5,o6]=_
    rw [qho,hr,qgo]
    exact e1
   ·rw [hn,List.length_append (as:=done),List.length_singleton]
    omega)
 obtain ⟨sk,es,p,r⟩:=ZL (xs:=cs.flatMap (lsq cs)) (by omega)
 refine ⟨sk,?_,r,p⟩
 simp only [zu,JB]
 simp_arith [e,es]
theorem JR {cs:List Sp}{c s:Sp}:s∈lsq cs c↔∃ a b,(a=0\/a=1\/a=2)/\(b=-1\/b=1)/\oth a b c∉cs/\s=oth a b (mid c):=by
 have hb:∀ a b,s∈lsb cs c a b↔oth a b c∉cs/\s=oth a b (mid c):=λ a b=>by
  unfold lsb
  by_cases h:oth a b c∈cs
  ·rw [if_pos h]
   exact ⟨(λ z=>by cases z),λ z=>absurd h z.1⟩
  ·rw [if_neg h,List.mem_singleton]
   exact ⟨λ z=>⟨h,z⟩,λ z=>z.2⟩
 unfold lsq lsa
 simp only [List.mem_flatMap,hb]
 constructor
 ·rintro ⟨a,ha,b,hb',h1,h2⟩
  exact ⟨a,b,by simpa using ha,by simpa using hb',h1,h2⟩
 ·rintro ⟨a,b,ha,hb',h1,h2⟩
  exact ⟨a,by simpa using ha,b,by simpa using hb',h1,h2⟩
theorem md1 (x:Int):(2*x+1) % 2=1:=by omega
theorem md2 {x b:Int}(h:b=-1\/b=1):(2*x+1+b) % 2=0:=by omega
theorem md3 {x b:Int}(h:b=-1):2*x+1+b+1=2*x+1/\2*x+1+b-1=2*(x+b)+1:=by omega
theorem md5 {x b:Int}(h:b=1):2*x+1+b-1=2*x+1/\2*x+1+b+1=2*(x+b)+1:=by omega
theorem Yc (a:Nat)(b:Int)(c:Sp)(ha:a=0\/a=1\/a=2)(hb:b=-1\/b=1):Sq (oth a b (mid c))/\axA (oth a b (mid c))=a/\(b=-1->hi a (oth a b (mid c))=mid c/\lo a (oth a b (mid c))=mid (oth a b c))/\(b=1->lo a (oth a b (mid c))=mid c/\hi a (oth a b (mid c))=mid (oth a b c)):=by
 obtain ⟨x,y,z⟩:=c
 rcases ha with rfl|rfl|rfl
 ·exact ⟨.inl ⟨md2 hb,md1 y,md1 z⟩,ax0 (s:=oth 0 b (mid (x,y,z))) (md2 hb),λ h=>⟨QJ (md3 h).1 rfl rfl,QJ (md3 h).2 rfl rfl⟩,λ h=>⟨QJ (md5 h).1 rfl rfl,QJ (md5 h).2 rfl rfl⟩⟩
 ·exact ⟨.inr (.inl ⟨md1 x,md2 hb,md1 z⟩),ax1 (s:=oth 1 b (mid (x,y,z))) (md1 x) (md2 hb),λ h=>⟨QJ rfl (md3 h).1 rfl,QJ rfl (md3 h).2 rfl⟩,λ h=>⟨QJ rfl (md5 h).1 rfl,QJ rfl (md5 h).2 rfl⟩⟩
 ·exact ⟨.inr (.inr ⟨md1 x,md1 y,md2 hb⟩),ax2 (s:=oth 2 b (mid (x,y,z))) (md1 x) (md1 y),λ h=>⟨QJ rfl rfl (md3 h).1,QJ rfl rfl (md3 h).2⟩,λ h=>⟨QJ rfl rfl (md5 h).1,QJ rfl rfl (md5 h).2⟩⟩
theorem qaj {cs:List Sp}{s:Sp}:s∈cs.flatMap (lsq cs)↔Sq s/\skB (inM cs) s=true:=by
 have inm:∀ c,mid c∈cs.map mid↔c∈cs:=λ c=>by
  constructor
  ·intro h
   obtain ⟨c',h1,h2⟩:=List.mem_map.mp h
   rw [← j0 h2];exact h1
  ·exact λ h=>List.mem_map.mpr ⟨c,h,rfl⟩
 rw [List.mem_flatMap]
 constructor
 ·rintro ⟨c,hc,h⟩
  obtain ⟨a,b,ha,hb,h1,rfl⟩:=JR.mp h
  obtain ⟨g1,g2,g3,g4⟩:=Yc a b c ha hb
  refine ⟨g1,?_⟩
  unfold skB inM
  rw [g2]
  rcases hb with hb|hb
  ·rw [(g3 hb).1,(g3 hb).2,decide_eq_true ((inm c).mpr hc),decide_eq_false (λ z=>h1 ((inm _).mp z))];rfl
  ·rw [(g4 hb).1,(g4 hb).2,decide_eq_true ((inm c).mpr hc),decide_eq_false (λ z=>h1 ((inm _).mp z))];rfl
 ·rintro ⟨hs,h⟩
  unfold skB inM at h
  have hA:axA s=0\/axA s=1\/axA s=2:=by rcases zR hs with z|z|z<;>simp [z.1]
  have back:∀ (b:Int) (c:Sp),(b=-1/\hi (axA s) s=mid c)\/(b=1/\lo (axA s) s=mid c)->s=oth (axA s) b (mid c):=λ b c hh=>by
   obtain ⟨x,y,z⟩:=s
   rcases hA with e|e|e<;>rw [e] at hh ⊢<;>rcases hh with ⟨rfl,g⟩|⟨rfl,g⟩<;>rw [← g]<;>simp only [oth,lo,hi]<;>(congr 1<;>first|omega|(congr 1<;>omega))
  by_cases h1:lo (axA s) s∈cs.map mid<;>by_cases h2:hi (axA s) s∈cs.map mid
  ·rw [decide_eq_true h1,decide_eq_true h2] at h;cases h
  ·obtain ⟨c,hc,ec⟩:=List.mem_map.mp h1
   have es:=back 1 c (.inr ⟨rfl,ec.symm⟩)
   refine ⟨c,hc,JR.mpr ⟨axA s,1,hA,.inr rfl,λ z=>h2 ?_,es⟩⟩
   have:=((Yc (axA s) 1 c hA (.inr rfl)).2.2.2 rfl).2
   rw [← es] at this
   rw [this]
   exact (inm _).mpr z
  ·obtain ⟨c,hc,ec⟩:=List.mem_map.mp h2
   have es:=back (-1) c (.inl ⟨rfl,ec.symm⟩)
   refine ⟨c,hc,JR.mpr ⟨axA s,-1,hA,.inl rfl,λ z=>h1 ?_,es⟩⟩
   have:=((Yc (axA s) (-1) c hA (.inl rfl)).2.2.1 rfl).2
   rw [← es] at this
   rw [this]
   exact (inm _).mpr z
  ·rw [decide_eq_false h1,decide_eq_false h2] at h;cases h
theorem qfq (cs:List Sp)(c:Sp):(lsq cs c).Nodup:=by
 have sub:∀ a b,(lsb cs c a b).Sublist [oth a b (mid c)]:=λ a b=>by
  unfold lsb
  split
  ·exact List.nil_sublist _
  ·exact List.Sublist.refl _
 have e:lsq cs c=(lsb cs c 0 (-1)++lsb cs c 0 1)++((lsb cs c 1 (-1)++lsb cs c 1 1)++(lsb cs c 2 (-1)++lsb cs c 2 1)):=by simp [lsq,lsa]
 rw [e]
 refine List.Nodup.sublist (((sub 0 (-1)).append (sub 0 1)).append (((sub 1 (-1)).append (sub 1 1)).append ((sub 2 (-1)).append (sub 2 1)))) ?_
 obtain ⟨x,y,z⟩:=c
 simp [oth,mid]
 omega
theorem Y9 {cs:List Sp}(hn:cs.Nodup):(cs.flatMap (lsq cs)).Nodup:=by
 refine List.pairwise_flatMap.mpr ⟨λ c _=>qfq cs c,?_⟩
 refine List.Pairwise.imp_of_mem (R:=λ a b=>a≠b) ?_ hn
 rintro c1 c2 m1 m2 hne x hx y hy rfl
 obtain ⟨a1,b1,ha1,hb1,n1,e1⟩:=JR.mp hx
 obtain ⟨a2,b2,ha2,hb2,n2,e2⟩:=JR.mp hy
 have g1:=Yc a1 b1 c1 ha1 hb1
 have g2:=Yc a2 b2 c2 ha2 hb2
 rw [← e1] at g1
 rw [← e2] at g2
 have ea:a1=a2:=g1.2.1.symm.trans g2.2.1
 subst ea
 rcases hb1 with h1|h1<;>rcases hb2 with h2|h2
 ·exact hne (j0 ((g1.2.2.1 h1).1.symm.trans (g2.2.2.1 h2).1))
 ·have:=j0 ((g1.2.2.1 h1).2.symm.trans (g2.2.2.2 h2).1)
  exact n1 (by rw [this];exact m2)
 ·have:=j0 ((g1.2.2.2 h1).2.symm.trans (g2.2.2.1 h2).1)
  exact n1 (by rw [this];exact m2)
 ·exact hne (j0 ((g1.2.2.2 h1).1.symm.trans (g2.2.2.2 h2).1))
theorem qeI {cs:List Sp}(hb:∀ c∈cs,BdS 200 c)(hl:cs.length<=6)(hn:cs.Nodup):∃ sk:List Sp,zE [.list (cs.map eS)]=some (.list (sk.map eS))/\zu [.list (cs.map eS)]=some (.list (sk.map eS))/\(sk.map l3).Pairwise (λ a b=>HT.lexLt b a=false)/\sk.Nodup/\sk.length<=36/\∀ s,s∈sk↔Sq s/\skB (inM cs) s=true:=by
 obtain ⟨sk,e1,r1,n1,l1,m1⟩:=qkY hb hl
 obtain ⟨sk',e2,r2,p2⟩:=qiu hb hl
 have hm:∀ s,s∈sk↔Sq s/\skB (inM cs) s=true:=λ s=>(m1 s).trans (qhr hn s)
 have same:sk'=sk:=ju (p2.trans (ZK (Y9 hn) n1 λ s=>qaj.trans (hm s).symm)) r2 r1
 rw [same] at e2
 exact ⟨sk,e1,e2,r1,n1,l1,hm⟩
theorem wZ {α:Type}(enc:α->PyData){k:Nat}{g:PyData->Rho->Option Rho}{te:Rho->Option PyData}{ρ:Rho}(f:α->PyData):∀ (as:List α),(∀ a∈as,ob (g (enc a) (ρ++List.replicate k none)) te=some (f a))->Q7 k g tT te ρ (as.map enc)=some (as.map f)
 | [],_=>rfl
 | a::as,h=>by
  have ih:=wZ enc f as λ x hx=>h x (.tail _ hx)
  obtain ⟨ρ1,e1,e2⟩:=qi (h a (.head _))
  rw [List.map_cons,qd2,e1,qdW]
  show qbB (some true) _ _=_
  rw [qdU,e2,ih]
  rfl
theorem qbI {α:Type}(e:α->PyData):∀ (xs:List α) (n:Nat),enL (n:Nat) (xs.map e)=(xs.zipIdx n).map λ p=>.tuple [.int (p.2:Nat),e p.1]
 | [],_=>rfl
 | x::xs,n=>by
  rw [List.map_cons,List.zipIdx_cons,List.map_cons,← qbI e xs (n+1)]
  rfl
theorem qe5 {α:Type}(e:α->PyData)(xs:List α):enL 0 (xs.map e)=xs.zipIdx.map λ p=>.tuple [.int (p.2:Nat),e p.1]:=qbI e xs 0
theorem qcv {α:Type}{f:α->PyData}{g:α->KX×PyData}(h:∀ a,prOf (f a)=some (g a)):∀ xs:List α,qav (xs.map f)=some (xs.map g)
 | []=>rfl
 | x::xs=>by
  show ob (prOf (f x)) (λ p=>ob (qav (xs.map f)) λ ps=>some (p::ps))=_
  rw [h,qcv h xs]
  rfl
theorem qeC:∀ (zs done:List (Sp×Nat)),((done++zs).map (·.1)).Nodup->wk (eD done) (zs.map λ p=>(kS p.1,.int (p.2:Nat)))=eD (done++zs)
 | [],done,_=>by rw [List.append_nil];rfl
 | z::zs,done,hn=>by
  have hf:(zj (eD done) (kS z.1)).isSome=false:=by
   rw [wI,decide_eq_false]
   intro hm
   rw [List.map_append,List.nodup_append] at hn
   exact hn.2.2 z.1 hm z.1 (by simp) rfl
  have hp:putD (eD done) (kS z.1) (.int (z.2:Nat))=eD (done++[z]):=by
   unfold putD
   rw [hf,if_neg (by decide),yW]
   unfold eD
   rw [List.map_append]
   rfl
  show wk (putD (eD done) (kS z.1) (.int (z.2:Nat))) _=_
  rw [hp,qeC zs (done++[z]) (by rw [List.append_assoc];exact hn),List.append_assoc]
  rfl
theorem qdT (s:Sp):∀ (S:List Sp) (n:Nat),s∈S->cnt (S.zipIdx n) s=n+S.idxOf s
 | x::S,n,h=>by
  unfold cnt
  rw [List.zipIdx_cons,List.find?_cons,List.idxOf_cons]
  by_cases hx:x=s
  ·subst hx;simp
  ·have hc:s∈S:=by rcases List.mem_cons.mp h with z|z;exact absurd z.symm hx;exact z
   have e1:(x==s)=false:=beq_eq_false_iff_ne.mpr hx
   have ih:=qdT s S (n+1) hc
   unfold cnt at ih
   rw [decide_eq_false hx,e1]
   refine ih.trans ?_
   show n+1+S.idxOf s=n+(S.idxOf s+1)
   omega
theorem qfs {S:List Sp}(hn:S.Nodup)(hl:S.length<=900):Zj [.list (S.map eS)]=some (.dict (eD S.zipIdx)):=by
 have hc:Q7 2 (unpD 2 (gsC (gNm 1) (gsC (gNm 2) gsN))) tT (evA (aC (vr 2) (aC (vr 1) aN)) tupD) [some (.list (S.map eS))] (S.zipIdx.map λ p:Sp×Nat=>.tuple [.int (p.2:Nat),eS p.1])=some (S.zipIdx.map λ p=>.tuple [eS p.1,.int (p.2:Nat)]) :=
  wZ (λ p:Sp×Nat=>.tuple [.int (p.2:Nat),eS p.1]) _ S.zipIdx λ a _=>by simp_arith []
 have hlen:(S.zipIdx.map λ p:Sp×Nat=>PyData.tuple [.int (p.2:Nat),eS p.1]).length<=1000:=by rw [List.length_map,List.length_zipIdx];omega
 have hd:qaN [.list (S.zipIdx.map λ p:Sp×Nat=>.tuple [eS p.1,.int (p.2:Nat)])]=some (.dict (eD S.zipIdx)):=by
  have e1:=qcv (f:=λ p:Sp×Nat=>PyData.tuple [eS p.1,.int (p.2:Nat)]) (g:=λ p=>(kS p.1,.int (p.2:Nat))) (λ _=>rfl) S.zipIdx
  show ob (qav _) _=_
  rw [e1,ob_s,if_pos ⟨.inr (by rw [List.all_map];exact List.all_eq_true.mpr λ p _=>rfl),by rw [List.length_map,List.length_zipIdx];omega⟩]
  have:=qeC S.zipIdx [] (by rw [List.nil_append,List.zipIdx_map_fst];exact hn)
  rw [List.nil_append] at this
  exact congrArg (λ z=>some (PyData.dict z)) this
 simp only [Zj,j8]
 simp_arith [qe5,hlen,hc,hd]
theorem in_eD (kvs:List (Sp×Nat))(s:Sp):in2D (eS s) (.dict (eD kvs))=some (.bool (decide (s∈kvs.map (·.1)))):=by
 show ob (kxOf (eS s)) (λ ks=>if kOk (eD kvs) ks=true then some (PyData.bool (zj (eD kvs) ks).isSome) else none)=_
 rw [Y7,ob_s,if_pos (qaW _ _),wI]
theorem qce {S:List Sp}{s:Sp}(h:s∈S):ix2D (.dict (eD S.zipIdx)) (eS s)=some (.int (S.idxOf s:Nat)):=by
 rw [qgz (by rw [List.zipIdx_map_fst];exact h),qdT s S 0 h,Nat.zero_add]
theorem qe2 {cs sk:List Sp}(hs:∀ s∈sk,Sq s)(hl:sk.length<=60)(e1:zE [.list (cs.map eS)]=some (.list (sk.map eS)))(h4:∀ e,(sk.flatMap λ s=>ar (axA s) s).count e≠4):jC [.list (cs.map eS)]=some .none:=by
 have e2:=qbC hs hl
 generalize hk:tally (sk.flatMap λ s=>ar (axA s) s)=kvs at *
 have hcnt:∀ t,cnt kvs t≠4:=λ t=>by rw [← hk,qaE];exact h4 t
 have hkl:kvs.length<=240:=by
  have h1:(kvs.map (·.1)).length<=(sk.flatMap λ s=>ar (axA s) s).length:=by
   rw [← hk,yp]
   have:∀ (xs ks:List Sp),(xs.foldl (λ ks s=>if s∈ks then ks else ks++[s]) ks).length<=ks.length+xs.length:=by
    intro xs
    induction xs with
    | nil=>exact λ ks=>Nat.le_refl _
    | cons x xs ih =>
     intro ks
     rw [List.foldl_cons,List.length_cons]
     have:=ih (if x∈ks then ks else ks++[x])
     have h2:(if x∈ks then ks else ks++[x]).length<=ks.length+1:=by
      split
      ·omega
      ·rw [List.length_append,List.length_singleton];omega
     omega
   have:=this (sk.flatMap λ s=>ar (axA s) s) []
   rw [List.length_nil,Nat.zero_add] at this
   exact this
  have h2:∀ ss:List Sp,(ss.flatMap λ s=>ar (axA s) s).length<=4*ss.length:=by
   intro ss
   induction ss with
   | nil=>exact Nat.le_refl _
   | cons s ss ih =>
    rw [List.flatMap_cons,List.length_append,List.length_cons]
    have:(ar (axA s) s).length=4:=by
     unfold ar
     split<;>rfl
    omega
  have:=h2 sk
  rw [List.length_map] at h1
  omega
 have hc:Qa (tV (ev2 (ev2 (vr 1) (vr 2) ix2D) (kd yJ) eqD)) (vr 2) [some (.list (cs.map eS)),some (.dict (eD kvs))] (kvs.map λ p=>eS p.1)=some ((kvs.filter λ _=>false).map λ p=>eS p.1):=by
  refine ZC (λ p:Sp×Nat=>eS p.1) (λ _=>false) (λ p=>eS p.1) kvs (λ p hp=>?_) λ p hp h=>by cases h
  have hi:=qgz (s:=p.1) (List.mem_map.mpr ⟨p,hp,rfl⟩)
  have cr:yJ=.int 4:=rfl
  have hne:(((cnt kvs p.1:Nat):Int)==4)=false:=beq_eq_false_iff_ne.mpr λ z=>hcnt p.1 (by omega)
  simp_arith [hi,cr,hne]
 have hz:(kvs.map λ p=>eS p.1).length<=1000:=by rw [List.length_map];omega
 rw [List.filter_eq_nil_iff.mpr (λ p _=>by decide),List.map_nil] at hc
 have hm:qeo (.list []) .none=some .none:=rfl
 simp only [jC,YJ]
 simp_arith [e1,e2,qba,hz,hc,hm]
abbrev Mt:=Sp×List Nat
def eNs (l:List Nat):PyData:=.list (l.map λ k=>.int (k:Nat))
def eM (kvs:List Mt):List (PyData×PyData):=kvs.map λ p=>(eS p.1,eNs p.2)
def setM (s:Sp)(k:Nat):List Mt->List Mt
 | []=>[]
 | p::r=>if p.1=s then (p.1,p.2++[k])::r else p::setM s k r
def addM (kvs:List Mt)(s:Sp)(k:Nat):List Mt:=if s∈kvs.map (·.1) then setM s k kvs else kvs++[(s,[k])]
theorem qaX (kvs:List Mt)(s:Sp):kOk (eM kvs) (kS s)=true:=by
 unfold kOk eM
 rw [List.all_map]
 exact List.all_eq_true.mpr λ p _=>rfl
theorem JP (s:Sp):∀ kvs:List Mt,zj (eM kvs) (kS s)=(kvs.find? λ p=>decide (p.1=s)).map λ p=>eNs p.2
 | []=>rfl
 | p::kvs=>by
  have ih:=JP s kvs
  unfold zj eM at *
  rw [List.map_cons,List.find?_cons,List.find?_cons,yW,J9]
  rw [yW] at ih
  by_cases h:p.1=s
  ·rw [decide_eq_true h];rfl
  ·rw [decide_eq_false h];exact ih
theorem wJ (s:Sp)(kvs:List Mt):(zj (eM kvs) (kS s)).isSome=decide (s∈kvs.map (·.1)):=by
 rw [JP]
 by_cases h:s∈kvs.map (·.1)
 ·obtain ⟨p,hp,rfl⟩:=List.mem_map.mp h
  rw [decide_eq_true h]
  cases e:kvs.find? (λ x=>decide (x.1=p.1)) with
  | some x=>rfl
  | none=>exact absurd (List.find?_eq_none.mp e p hp) (by simp)
 ·rw [decide_eq_false h,List.find?_eq_none.mpr λ p hp=>by simpa using λ z=>h (List.mem_map.mpr ⟨p,hp,z⟩)];rfl
theorem qki (kvs:List Mt)(s:Sp):qam (eS s) (.dict (eM kvs))=some (.bool (!decide (s∈kvs.map (·.1)))):=by
 show ob (kxOf (eS s)) (λ ks=>if kOk (eM kvs) ks=true then some (PyData.bool (!(zj (eM kvs) ks).isSome)) else none)=_
 rw [Y7,ob_s,if_pos (qaX _ _),wJ]
theorem qkh {kvs:List Mt}{s:Sp}(hl:kvs.length<900)(h:s∉kvs.map (·.1)):yO (.dict (eM kvs)) (eS s)=some (.dict (eM (kvs++[(s,[])]))):=by
 show ob (kxOf (eS s)) (λ ks=>if kOk (eM kvs) ks=true/\(eM kvs).length<900/\(zj (eM kvs) ks).isSome=false then some (PyData.dict (eM kvs++[(kxD ks,.list [])])) else none)=_
 rw [Y7,ob_s,if_pos ⟨qaX _ _,by unfold eM;rw [List.length_map];exact hl,by rw [wJ,decide_eq_false h]⟩,yW]
 unfold eM
 rw [List.map_append]
 rfl
theorem qeA (s:Sp)(k:Nat):∀ (kvs:List Mt) (p0:Mt),kvs.find? (λ p=>decide (p.1=s))=some p0->put1 (kS s) (eNs (p0.2++[k])) (eM kvs)=eM (setM s k kvs)
 | [],_,e=>by cases e
 | p::kvs,p0,e=>by
  rw [List.find?_cons] at e
  unfold eM
  rw [List.map_cons,put1,yW,J9,setM]
  by_cases h:p.1=s
  ·rw [decide_eq_true h] at e ⊢
   cases e
   rw [if_pos rfl,if_pos h]
   rfl
  ·rw [decide_eq_false h] at e ⊢
   rw [if_neg (by decide),if_neg h,List.map_cons]
   exact congrArg _ (qeA s k kvs p0 e)
theorem qfP {kvs:List Mt}{s:Sp}{k:Nat}(h:s∈kvs.map (·.1))(hl:∀ p∈kvs,p.2.length<900):yL (.dict (eM kvs)) (eS s) (.int (k:Nat))=some (.dict (eM (setM s k kvs))):=by
 obtain ⟨p0,e0⟩:∃ p0,kvs.find? (λ p=>decide (p.1=s))=some p0:=by
  have:=wJ s kvs
  rw [decide_eq_true h,JP] at this
  cases e:kvs.find? (λ p=>decide (p.1=s)) with
  | none=>rw [e] at this;cases this
  | some p=>exact ⟨p,rfl⟩
 have hm:=hl p0 (List.mem_of_find?_eq_some e0)
 have ha:appD (eNs p0.2) (.int (k:Nat))=some (eNs (p0.2++[k])):=by
  show (if (p0.2.map λ k=>PyData.int (k:Nat)).length<1000 then some (PyData.list ((p0.2.map λ k=>PyData.int (k:Nat))++[.int (k:Nat)])) else none)=_
  rw [if_pos (by rw [List.length_map];omega)]
  unfold eNs
  rw [List.map_append]
  rfl
 show ob (kxOf (eS s)) (λ ks=>if kOk (eM kvs) ks=true then ob (zj (eM kvs) ks) λ l=>ob (appD l (.int (k:Nat))) λ l'=>some (PyData.dict (put1 ks l' (eM kvs))) else none)=_
 rw [Y7,ob_s,if_pos (qaX _ _),JP,e0]
 show ob (appD (eNs p0.2) (.int (k:Nat))) _=_
 rw [ha,ob_s,qeA s k kvs p0 e0]
def dnwO (c k:Option PyData)(i:Nat)(ρ:Rho):Option Out:=match c,k with
 | some c,some k=>nxdO (yO c k) i ρ
 | _,_=>none
theorem qjQ (c k:PyData)(i:Nat)(ρ:Rho):dnwO (some c) (some k) i ρ=nxdO (yO c k) i ρ:=rfl
theorem qja (i:Nat)(fk:Rho->Option PyData)(ρ:Rho):WD i fk ρ=dnwO (vr i ρ) (fk ρ) i ρ:=by
 unfold WD dnwO
 cases vr i ρ with
 | none=>rfl
 | some c =>
  cases fk ρ with
  | none=>rfl
  | some k =>
   show ob (yO c k) _=nxdO (yO c k) i ρ
   cases yO c k<;>rfl
def kadO (c k d:Option PyData)(i:Nat)(ρ:Rho):Option Out:=match c,k,d with
 | some c,some k,some d=>nxdO (yL c k d) i ρ
 | _,_,_=>none
theorem qgD (c k d:PyData)(i:Nat)(ρ:Rho):kadO (some c) (some k) (some d) i ρ=nxdO (yL c k d) i ρ:=rfl
theorem qcG (i:Nat)(fk f:Rho->Option PyData)(ρ:Rho):ym i fk f ρ=kadO (vr i ρ) (fk ρ) (f ρ) i ρ:=by
 unfold ym kadO
 cases vr i ρ with
 | none=>rfl
 | some c =>
  cases fk ρ with
  | none=>rfl
  | some k =>
   cases f ρ with
   | none=>rfl
   | some d =>
    show ob (yL c k d) _=nxdO (yL c k d) i ρ
    cases yL c k d<;>rfl
def lstM (kvs:List Mt)(s:Sp):List Nat:=((kvs.find? λ p=>decide (p.1=s)).map (·.2)).getD []
theorem qaA (s:Sp)(k:Nat):∀ kvs:List Mt,(setM s k kvs).map (·.1)=kvs.map (·.1)
 | []=>rfl
 | p::kvs=>by
  unfold setM
  split
  ·rfl
  ·rw [List.map_cons,List.map_cons,qaA s k kvs]
theorem qcJ (s t:Sp)(k:Nat):∀ kvs:List Mt,s∈kvs.map (·.1)->lstM (setM s k kvs) t=lstM kvs t++if s=t then [k] else []
 | [],h=>by cases h
 | p::kvs,h=>by
  unfold setM lstM
  by_cases hp:p.1=s
  ·rw [if_pos hp,List.find?_cons,List.find?_cons]
   by_cases hst:s=t
   ·subst hst
    rw [if_pos rfl]
    simp [hp]
   ·have:¬ p.1=t:=λ z=>hst (hp.symm.trans z)
    rw [if_neg hst,decide_eq_false this,List.append_nil]
  ·have hm:s∈kvs.map (·.1):=by rcases List.mem_cons.mp h with z|z;exact absurd z.symm hp;exact z
   have ih:=qcJ s t k kvs hm
   unfold lstM at ih
   rw [if_neg hp,List.find?_cons,List.find?_cons]
   by_cases hpt:p.1=t
   ·have hst:¬ s=t:=λ z=>hp (hpt.trans z.symm)
    rw [decide_eq_true hpt,if_neg hst,List.append_nil]
   ·rw [decide_eq_false hpt];exact ih
theorem W2 (kvs:List Mt)(s:Sp)(k:Nat):(addM kvs s k).map (·.1)=if s∈kvs.map (·.1) then kvs.map (·.1) else kvs.map (·.1)++[s]:=by
 unfold addM
 by_cases h:s∈kvs.map (·.1)
 ·rw [if_pos h,if_pos h,qaA]
 ·rw [if_neg h,if_neg h,List.map_append];rfl
theorem qfO (kvs:List Mt)(s t:Sp)(k:Nat):lstM (addM kvs s k) t=lstM kvs t++if s=t then [k] else []:=by
 unfold addM
 by_cases h:s∈kvs.map (·.1)
 ·rw [if_pos h];exact qcJ s t k kvs h
 ·rw [if_neg h]
  unfold lstM
  rw [List.find?_append]
  by_cases e:s=t
  ·subst e
   rw [List.find?_eq_none.mpr λ p hp=>by simpa using λ z=>h (List.mem_map.mpr ⟨p,hp,z⟩)]
   simp
  ·have:([(s,[k])]:List Mt).find? (λ p=>decide (p.1=t))=none:=by simp [e]
   rw [if_neg e,this,Option.or_none,List.append_nil]
theorem qcK {s:Sp}{k:Nat}:∀ {kvs:List Mt} {p:Mt},p∈setM s k kvs->p∈kvs\/∃ q∈kvs,p.2=q.2++[k]
 | [],_,h=>by cases h
 | q::kvs,p,h=>by
  unfold setM at h
  split at h
  ·rcases List.mem_cons.mp h with rfl|z
   ·exact .inr ⟨q,.head _,rfl⟩
   ·exact .inl (.tail _ z)
  ·rcases List.mem_cons.mp h with rfl|z
   ·exact .inl (.head _)
   ·rcases qcK z with y|⟨q',m,e⟩
    ·exact .inl (.tail _ y)
    ·exact .inr ⟨q',.tail _ m,e⟩
theorem qfN {kvs:List Mt}{s:Sp}{k n:Nat}(h:∀ p∈kvs,p.2.length<=n):∀ p∈addM kvs s k,p.2.length<=n+1:=λ p hp=>by
 unfold addM at hp
 split at hp
 ·rcases qcK hp with z|⟨q,m,e⟩
  ·exact Nat.le_succ_of_le (h p z)
  ·have:=h q m
   rw [e,List.length_append,List.length_singleton]
   omega
 ·rcases List.mem_append.mp hp with z|z
  ·exact Nat.le_succ_of_le (h p z)
  ·rw [List.mem_singleton.mp z]
   show 1<=n+1
   omega
theorem qeQ (kvs:List Mt)(s:Sp)(k:Nat):(addM kvs s k).length<=kvs.length+1:=by
 have h:=congrArg List.length (W2 kvs s k)
 rw [List.length_map] at h
 rw [h]
 split
 ·rw [List.length_map];omega
 ·rw [List.length_append,List.length_map,List.length_singleton];omega
theorem qhu {kvs:List Mt}{e:Sp}{k n:Nat}(hl:kvs.length<900)(hn:∀ p∈kvs,p.2.length<=n)(hn9:n<900)(o0:Option PyData) :
  (seqO (sIf (tV (ev2 (vr 3) (vr 1) qam)) (WD 1 (vr 3)) sN) (ym 1 (vr 3) (vr 2))) [o0,some (.dict (eM kvs)),some (.int (k:Nat)),some (eS e)]=some (.nx [o0,some (.dict (eM (addM kvs e k))),some (.int (k:Nat)),some (eS e)]):=by
 have hni:=qki kvs e
 by_cases h:e∈kvs.map (·.1)
 ·have ha:=qfP (k:=k) h λ p hp=>by have:=hn p hp;omega
  have hadd:addM kvs e k=setM e k kvs:=if_pos h
  rw [decide_eq_true h] at hni
  rw [hadd]
  simp_arith [hni,qcG,qgD,ha]
 ·have hw:=qkh hl h
  have ha:=qfP (kvs:=kvs++[(e,[])]) (s:=e) (k:=k) (by simp) λ p hp=>by
   rcases List.mem_append.mp hp with z|z
   ·have:=hn p z;omega
   ·rw [List.mem_singleton.mp z];exact (show 0<900 by decide)
  have hset:∀ ks:List Mt,e∉ks.map (·.1)->setM e k (ks++[(e,[])])=ks++[(e,[k])]:=by
   intro ks
   induction ks with
   | nil=>intro _;simp [setM]
   | cons p ks ih =>
    intro hh
    rw [List.map_cons,List.mem_cons] at hh
    have h1:¬ p.1=e:=λ z=>hh (.inl z.symm)
    rw [List.cons_append,setM,if_neg h1,ih λ z=>hh (.inr z)]
    rfl
  have hadd:addM kvs e k=kvs++[(e,[k])]:=if_neg h
  rw [hset kvs h] at ha
  rw [decide_eq_false h] at hni
  rw [hadd]
  simp_arith [hni,qja,qjQ,hw,qcG,qgD,ha]
def metE (kvs:List Mt)(p:Sp×Nat)(es:List Sp):List Mt:=es.foldl (λ kvs e=>addM kvs e p.2) kvs
def metF (ps:List (Sp×Nat)):List Mt:=ps.foldl (λ kvs p=>metE kvs p (ar (axA p.1) p.1)) []
theorem qjJ {s:Sp}(hs:Sq s)(o0 o1 o3:Option PyData){sk:List Sp}{k:Nat}(hk:atI (sk.map eS) (k:Nat)=some (eS s)):Qa (tV (ev2 (ev2 (ev2 (ev2 (vr 0) (vr 2) ixD) (vr 4) ixD) (kd (.int 2)) modD) (kd (.int 1)) eqD)) (vr 4) [some (.list (sk.map eS)),o1,some (.int (k:Nat)),o3] [.int 0,.int 1,.int 2]=some (others (axA s)):=by
 obtain ⟨x,y,z⟩:=s
 rcases zR hs with ⟨e,h1,h2,h3⟩|⟨e,h1,h2,h3⟩|⟨e,h1,h2,h3⟩<;>rw [e]<;>dsimp only at h1 h2 h3<;>simp only [eS] at hk
 ·simp_arith [hk,ix0,ix1,ix2,h1,h2,h3]
  rfl
 ·simp_arith [hk,ix0,ix1,ix2,h1,h2,h3]
  rfl
 ·simp_arith [hk,ix0,ix1,ix2,h1,h2,h3]
  rfl
theorem qjv {sk:List Sp}(hs:∀ s∈sk,Sq s)(hl:sk.length<=60):QF [.list (sk.map eS)]=some (.dict (eM (metF sk.zipIdx))):=by
 obtain ⟨ρ',e,o2,o3,rfl,-,-⟩:=Qe (λ p:Sp×Nat=>PyData.int (p.2:Nat)) (g:=gNm 2) (u:=(sFor (evI (evC 2 (aC (ev2 (vr 0) (vr 2) ixD) (aC (zG 4 (evR (aC (kd (.int 3)) aN) QS) (tV (ev2 (ev2 (ev2 (ev2 (vr 0) (vr 2) ixD) (vr 4) ixD) (kd (.int 2)) modD) (kd (.int 1)) eqD)) (vr 4)) aN)) zV) seqD) (gNm 3) (seqO (sIf (tV (ev2 (vr 3) (vr 1) qam)) (WD 1 (vr 3)) sN) (ym 1 (vr 3) (vr 2)))))
  (λ done ρ=>∃ o2 o3:Option PyData,ρ=[some (.list (sk.map eS)),some (.dict (eM (metF done))),o2,o3]/\(metF done).length<=4*done.length/\∀ p∈metF done,p.2.length<=4*done.length) sk.zipIdx [some (.list (sk.map eS)),some (.dict []),none,none] ⟨none,none,rfl,Nat.zero_le _,λ p hp=>by cases hp⟩ (by
   rintro ⟨s,k⟩ hm done ρ hdl ⟨o2,o3,rfl,hlen,hlp⟩
   rw [List.length_zipIdx] at hdl
   obtain ⟨_,hkl,hks⟩:=List.mem_zipIdx hm
   have hkl:k<sk.length:=by omega
   have hks:s=sk[k]:=by simpa using hks
   have hsq:Sq s:=hs s (by rw [hks];exact List.getElem_mem hkl)
   have hat:atI (sk.map eS) ((k:Nat):Int)=some (eS s):=Zg (Int.natCast_nonneg _) (by rw [Int.toNat_natCast,List.getElem?_eq_getElem hkl,hks])
   have hax:=qjJ hsq none (some (.dict (eM (metF done)))) o3 hat
   have hA:axA s=0\/axA s=1\/axA s=2:=by rcases zR hsq with z|z|z<;>simp [z.1]
   have hnr:=(wO hA s).2
   have h4:(ar (axA s) s).length=4:=by rcases zR hsq with z|z|z<;>rw [z.1]<;>rfl
   have hf:metF (done++[(s,k)])=metE (metF done) (s,k) (ar (axA s) s):=by unfold metF;rw [List.foldl_append];rfl
   generalize hkv:metF done=kvs at *
   obtain ⟨ρ1,e1,o3',rfl,hlen1,hlp1⟩:=Qe eS (g:=gNm 3) (u:=(seqO (sIf (tV (ev2 (vr 3) (vr 1) qam)) (WD 1 (vr 3)) sN) (ym 1 (vr 3) (vr 2))))
    (λ don ρ=>∃ o3:Option PyData,ρ=[some (.list (sk.map eS)),some (.dict (eM (metE kvs (s,k) don))),some (.int (k:Nat)),o3]/\(metE kvs (s,k) don).length<=kvs.length+don.length/\∀ p∈metE kvs (s,k) don,p.2.length<=4*done.length+don.length) (ar (axA s) s) [some (.list (sk.map eS)),some (.dict (eM kvs)),some (.int (k:Nat)),o3] ⟨o3,rfl,Nat.le_refl _,hlp⟩ (by
     rintro e he don ρ hd ⟨o3,rfl,hl2,hp2⟩
     have hst:=qhu (kvs:=metE kvs (s,k) don) (e:=e) (k:=k) (n:=4*done.length+don.length) (by omega) hp2 (by omega) (some (.list (sk.map eS)))
     have hn:metE kvs (s,k) (don++[e])=addM (metE kvs (s,k) don) e k:=by unfold metE;rw [List.foldl_append];rfl
     refine ⟨_,hst,some (eS e),by rw [hn],?_,?_⟩
     ·have:=qeQ (metE kvs (s,k) don) e k
      rw [hn,List.length_append,List.length_singleton]
      omega
     ·rw [hn,List.length_append,List.length_singleton,← Nat.add_assoc]
      exact qfN hp2)
   have hr:∀ ρ:Rho,(evR (aC (kd (.int 3)) aN) QS) ρ=some [.int 0,.int 1,.int 2]:=λ _=>rfl
   refine ⟨_,?_,some (.int (k:Nat)),o3',by rw [hf],?_,?_⟩
   ·simp_arith [hat,hr,hax,hnr,e1]
   ·rw [hf,List.length_append,List.length_singleton]
    omega
   ·rw [hf,List.length_append,List.length_singleton]
    intro p hp
    have:=hlp1 p hp
    omega)
 have hrng:((List.range (sk.map eS).length).map λ k:Nat=>PyData.int (k:Nat))=sk.zipIdx.map λ p:Sp×Nat=>PyData.int (p.2:Nat):=by
  have h1:sk.zipIdx.map (λ p:Sp×Nat=>PyData.int (p.2:Nat))=(sk.zipIdx.map (·.2)).map λ k:Nat=>PyData.int (k:Nat):=by rw [List.map_map];rfl
  rw [h1,List.zipIdx_map_snd,List.length_map,List.range_eq_range']
 have e5:(if (-1000:Int)<=(((sk.map eS).length:Nat):Int)/\(((sk.map eS).length:Nat):Int)<=1000 then some (rngL 0 ((((sk.map eS).length:Nat):Int)).toNat) else none)=some (sk.zipIdx.map λ p:Sp×Nat=>PyData.int (p.2:Nat)):=by
  rw [if_pos (by rw [List.length_map];omega),Int.toNat_natCast,qcE,hrng]
 simp only [QF,yq]
 simp_arith [e5,e]
def prsM (ps:List (Sp×Nat)):List (Sp×Nat):=ps.flatMap λ p=>(ar (axA p.1) p.1).map λ e=>(e,p.2)
theorem qak (p:Sp×Nat):∀ (es:List Sp) (kvs:List Mt),metE kvs p es=(es.map λ e=>(e,p.2)).foldl (λ kvs q=>addM kvs q.1 q.2) kvs
 | [],_=>rfl
 | e::es,kvs=>qak p es (addM kvs e p.2)
theorem qal (ps:List (Sp×Nat)):metF ps=(prsM ps).foldl (λ kvs q=>addM kvs q.1 q.2) []:=by
 have:∀ (ps:List (Sp×Nat)) (kvs:List Mt),ps.foldl (λ kvs p=>metE kvs p (ar (axA p.1) p.1)) kvs=(prsM ps).foldl (λ kvs q=>addM kvs q.1 q.2) kvs:=by
  intro ps
  induction ps with
  | nil=>exact λ _=>rfl
  | cons p ps ih =>
   intro kvs
   rw [List.foldl_cons,ih,qak]
   unfold prsM
   rw [List.flatMap_cons,List.foldl_append]
 exact this ps []
theorem qbN (Q:List (Sp×Nat)):∀ kvs:List Mt,((Q.foldl (λ kvs q=>addM kvs q.1 q.2) kvs).map (·.1)=(Q.map (·.1)).foldl (λ ks s=>if s∈ks then ks else ks++[s]) (kvs.map (·.1)))/\∀ t,lstM (Q.foldl (λ kvs q=>addM kvs q.1 q.2) kvs) t=lstM kvs t++(Q.filter λ q=>decide (q.1=t)).map (·.2):=by
 induction Q with
 | nil=>exact λ kvs=>⟨rfl,λ t=>by simp⟩
 | cons q Q ih =>
  intro kvs
  obtain ⟨h1,h2⟩:=ih (addM kvs q.1 q.2)
  refine ⟨?_,λ t=>?_⟩
  ·rw [List.foldl_cons,List.map_cons,List.foldl_cons,h1,W2]
  ·rw [List.foldl_cons,h2,qfO,List.filter_cons,List.append_assoc]
   by_cases e:q.1=t
   ·rw [if_pos e,decide_eq_true e,if_pos rfl];rfl
   ·rw [if_neg e,decide_eq_false e,if_neg (by decide)];rfl
theorem JS (sk:List Sp):(metF sk.zipIdx).map (·.1)=once (sk.flatMap λ s=>ar (axA s) s):=by
 rw [qal,(qbN _ []).1]
 have:∀ (S:List Sp) (n:Nat),(prsM (S.zipIdx n)).map (·.1)=S.flatMap λ s=>ar (axA s) s:=by
  intro S
  induction S with
  | nil=>exact λ _=>rfl
  | cons s S ih =>
   intro n
   have h1:prsM ((s::S).zipIdx n)=((ar (axA s) s).map λ e=>(e,n))++prsM (S.zipIdx (n+1)):=by unfold prsM;rw [List.zipIdx_cons,List.flatMap_cons]
   rw [h1,List.map_append,ih,List.flatMap_cons,List.map_map]
   refine congrArg (·++_) ((List.map_congr_left λ _ _=>rfl).trans (List.map_id _))
 rw [this]
 rfl
theorem Ww (t:Sp):∀ (S:List Sp) (n:Nat),S.Nodup->(∀ s∈S,(ar (axA s) s).Nodup)->((prsM (S.zipIdx n)).filter λ q=>decide (q.1=t)).map (·.2)=(S.filter λ s=>decide (t∈ar (axA s) s)).map λ s=>n+S.idxOf s
 | [],_,_,_=>rfl
 | s::S,n,hn,ha=>by
  obtain ⟨n1,n2⟩:=List.nodup_cons.mp hn
  have ih:=Ww t S (n+1) n2 λ x hx=>ha x (.tail _ hx)
  have h1:prsM ((s::S).zipIdx n)=((ar (axA s) s).map λ e=>(e,n))++prsM (S.zipIdx (n+1)):=by unfold prsM;rw [List.zipIdx_cons,List.flatMap_cons]
  have one:∀ es:List Sp,es.Nodup->((es.map λ e=>(e,n)).filter λ q:Sp×Nat=>decide (q.1=t)).map (·.2)=if t∈es then [n] else []:=by
   intro es
   induction es with
   | nil=>exact λ _=>rfl
   | cons x es ih2 =>
    intro hx
    obtain ⟨x1,x2⟩:=List.nodup_cons.mp hx
    have:=ih2 x2
    rw [List.map_cons,List.filter_cons]
    by_cases e:x=t
    ·subst e
     rw [if_neg x1] at this
     rw [if_pos (decide_eq_true rfl),List.map_cons,this,if_pos (.head _)]
    ·rw [if_neg (by simpa using e),this]
     by_cases h2:t∈es
     ·rw [if_pos h2,if_pos (.tail _ h2)]
     ·rw [if_neg h2,if_neg λ z=>by rcases List.mem_cons.mp z with y|y;exact e y.symm;exact h2 y]
  have rest:(S.filter λ s=>decide (t∈ar (axA s) s)).map (λ x=>n+1+S.idxOf x)=(S.filter λ s=>decide (t∈ar (axA s) s)).map λ x=>n+(s::S).idxOf x:=by
   refine List.map_congr_left λ x hx=>?_
   have hxS:=(List.mem_filter.mp hx).1
   have hne:(s==x)=false:=beq_eq_false_iff_ne.mpr λ z=>n1 (by rw [z];exact hxS)
   rw [List.idxOf_cons,hne]
   show n+1+S.idxOf x=n+(S.idxOf x+1)
   omega
  rw [h1,List.filter_append,List.map_append,one _ (ha s (.head _)),ih,rest,List.filter_cons]
  by_cases h2:t∈ar (axA s) s
  ·rw [if_pos h2,if_pos (decide_eq_true h2),List.map_cons]
   have:(s::S).idxOf s=0:=by simp
   rw [this]
   rfl
  ·rw [if_neg h2,if_neg (by simpa using h2)]
   rfl
theorem Wn {sk:List Sp}(hn:sk.Nodup)(hs:∀ s∈sk,Sq s)(t:Sp):lstM (metF sk.zipIdx) t=(sk.filter λ s=>decide (t∈ar (axA s) s)).map λ s=>sk.idxOf s:=by
 rw [qal,(qbN _ []).2 t,Ww t sk 0 hn λ s h=>yG (by rcases zR (hs s h) with z|z|z<;>simp [z.1]) s]
 show []++_=_
 rw [List.nil_append]
 exact List.map_congr_left λ x _=>Nat.zero_add _
theorem yI {sk:List Sp}(hs:∀ s∈sk,Sq s)(t:Sp):(sk.flatMap λ s=>ar (axA s) s).count t=(sk.filter λ s=>decide (t∈ar (axA s) s)).length:=by
 induction sk with
 | nil=>rfl
 | cons s sk ih =>
  have hn:=yG (B:=axA s) (by rcases zR (hs s (.head _)) with z|z|z<;>simp [z.1]) s
  rw [List.flatMap_cons,List.count_append,ih λ x hx=>hs x (.tail _ hx),List.filter_cons]
  by_cases h:t∈ar (axA s) s
  ·have:(ar (axA s) s).count t=1:=by
    have h1:=List.nodup_iff_count.mp hn t
    have h2:=List.count_pos_iff.mpr h
    omega
   rw [this,if_pos (decide_eq_true h),List.length_cons]
   omega
  ·rw [List.count_eq_zero.mpr h,if_neg (by simpa using h)]
   omega
def cb (m:Sp):Sp:=(m.1 / 2,m.2.1 / 2,m.2.2 / 2)
def Od (m:Sp):Prop:=m.1 % 2=1/\m.2.1 % 2=1/\m.2.2 % 2=1
theorem qaL {m:Sp}(h:Od m):mid (cb m)=m:=by
 obtain ⟨x,y,z⟩:=m
 obtain ⟨h1,h2,h3⟩:=h
 dsimp only at h1 h2 h3
 unfold mid cb
 exact Prod.ext (by dsimp only;omega) (Prod.ext (by dsimp only;omega) (by dsimp only;omega))
theorem qdd {cs:List Sp}{m:Sp}(h:Od m):inM cs m=decide (cb m∈cs):=by
 unfold inM
 refine decide_eq_decide.mpr ⟨λ z=>?_,λ z=>List.mem_map.mpr ⟨_,z,qaL h⟩⟩
 obtain ⟨c,h1,h2⟩:=List.mem_map.mp z
 have:c=cb m:=j0 (h2.trans (qaL h).symm)
 rw [← this];exact h1
theorem qch {s:Sp}(h:Sq s):Od (lo (axA s) s)/\Od (hi (axA s) s):=by
 rcases zR h with ⟨e,h1,h2,h3⟩|⟨e,h1,h2,h3⟩|⟨e,h1,h2,h3⟩<;>rw [e]
 ·exact ⟨⟨oddm h1,h2,h3⟩,⟨oddp h1,h2,h3⟩⟩
 ·exact ⟨⟨h1,oddm h2,h3⟩,⟨h1,oddp h2,h3⟩⟩
 ·exact ⟨⟨h1,h2,oddm h3⟩,⟨h1,h2,oddp h3⟩⟩
theorem qhY {s:Sp}(h:Sq s):Q4 [eS s]=some (.tuple [eS (cb (lo (axA s) s)),eS (cb (hi (axA s) s))]):=by
 have ha:=qcX (A:=axA s) (s:=s) (by rcases zR h with ⟨a,b⟩|⟨a,b⟩|⟨a,b⟩;exact .inl ⟨a,b⟩;exact .inr (.inl ⟨a,b⟩);exact .inr (.inr ⟨a,b⟩))
 have n1:(((1:Nat):Nat):Int)=1:=rfl
 have n2:(((2:Nat):Nat):Int)=2:=rfl
 obtain ⟨x,y,z⟩:=s
 rcases zR h with ⟨e,h1,h2,h3⟩|⟨e,h1,h2,h3⟩|⟨e,h1,h2,h3⟩<;>rw [e] at ha ⊢<;>dsimp only at h1 h2 h3
 ·have ha:zW [eS (x,y,z)]=some (.int 0):=ha
  have q:(x+1) / 2=x / 2:=by omega
  simp only [Q4,jl,cb,lo,hi,q]
  simp_arith [ha,qgg,ZD,jN,ixe0,ixe1,ixe2,Int.natCast_zero,n1,n2]
  rfl
 ·have ha:zW [eS (x,y,z)]=some (.int 1):=ha
  have q:(y+1) / 2=y / 2:=by omega
  simp only [Q4,jl,cb,lo,hi,q]
  simp_arith [ha,qgg,ZD,jN,ixe0,ixe1,ixe2,Int.natCast_zero,n1,n2]
  rfl
 ·have ha:zW [eS (x,y,z)]=some (.int 2):=ha
  have q:(z+1) / 2=z / 2:=by omega
  simp only [Q4,jl,cb,lo,hi,q]
  simp_arith [ha,qgg,ZD,jN,ixe0,ixe1,ixe2,Int.natCast_zero,n1,n2]
  rfl
theorem JT (a:Sp):Za [eS a]=some (eS (-a.1,-a.2.1,-a.2.2)):=by
 simp only [Za,YK]
 simp_arith [ixe0,ixe1,ixe2]
 rfl
theorem qcU (a b:Sp):ad a (-b.1,-b.2.1,-b.2.2)=sb a b:=by
 unfold ad sb
 exact Prod.ext (by dsimp only;omega) (Prod.ext (by dsimp only;omega) (by dsimp only;omega))
theorem qan {cs:List Sp}(hb:∀ c∈cs,BdS 200 c){s:Sp}(hs:Sq s)(hk:skB (inM cs) s=true):zN [.list (cs.map eS),eS s]=some (eS (sb s (if inM cs (lo (axA s) s)=true then lo (axA s) s else hi (axA s) s))):=by
 have hc:=qhY hs
 obtain ⟨o1,o2⟩:=qch hs
 have i1:=qgu cs (cb (lo (axA s) s))
 have m1:=qdd (cs:=cs) o1
 have m2:=qdd (cs:=cs) o2
 unfold skB at hk
 by_cases h:cb (lo (axA s) s)∈cs
 ·rw [decide_eq_true h] at i1 m1
  have hm:=qgV (hb _ h)
  rw [qaL o1] at hm
  have hn:=JT (lo (axA s) s)
  have ha:=yE s (-(lo (axA s) s).1,-(lo (axA s) s).2.1,-(lo (axA s) s).2.2)
  rw [qcU] at ha
  rw [if_pos m1]
  simp only [zN,Zx]
  simp_arith [hc,i1,hm,hn,ha]
 ·rw [decide_eq_false h] at i1 m1
  have h2:cb (hi (axA s) s)∈cs:=by
   rw [m1,m2] at hk
   by_cases z:cb (hi (axA s) s)∈cs
   ·exact z
   ·rw [decide_eq_false z] at hk;cases hk
  have hm:=qgV (hb _ h2)
  rw [qaL o2] at hm
  have hn:=JT (hi (axA s) s)
  have ha:=yE s (-(hi (axA s) s).1,-(hi (axA s) s).2.1,-(hi (axA s) s).2.2)
  rw [qcU] at ha
  rw [if_neg (by rw [m1];decide)]
  simp only [zN,Zx]
  simp_arith [hc,i1,hm,hn,ha]
theorem qjL {cs:List Sp}(hb:∀ c∈cs,BdS 200 c){s0 e s1:Sp}(hs:Sq s0)(hk:skB (inM cs) s0=true):Q9 [.list (cs.map eS),eS s0,eS e,eS s1]=some (.int (Qn (inM cs) s0 e s1)):=by
 have ho:=qan hb hs hk
 have n1:=JT e
 have n2:=JT s0
 have a1:=yE s1 (-e.1,-e.2.1,-e.2.2)
 have a2:=yE e (-s0.1,-s0.2.1,-s0.2.2)
 rw [qcU] at a1 a2
 have q1:=jW (sb s1 e) (sb e s0)
 have q2:=jW (sb s1 e) (sb s0 (if inM cs (lo (axA s0) s0)=true then lo (axA s0) s0 else hi (axA s0) s0))
 simp only [Q9,JD]
 unfold Qn
 by_cases h1:sb s1 e=sb e s0
 ·rw [decide_eq_true h1] at q1
  rw [if_pos h1]
  simp_arith [n1,n2,a1,a2,q1]
 ·rw [decide_eq_false h1] at q1
  rw [if_neg h1]
  by_cases h2:sb s1 e=sb s0 (if inM cs (lo (axA s0) s0)=true then lo (axA s0) s0 else hi (axA s0) s0)
  ·rw [decide_eq_true h2] at q2
   rw [if_pos h2]
   simp_arith [n1,n2,a1,a2,q1,ho,q2]
  ·rw [decide_eq_false h2] at q2
   rw [if_neg h2]
   simp_arith [n1,n2,a1,a2,q1,ho,q2]
def clS (b:Sp)(n:Nat)(c:Sp):Prop:=(c.1-b.1).natAbs<=n/\(c.2.1-b.2.1).natAbs<=n/\(c.2.2-b.2.2).natAbs<=n
inductive GrC (b:Sp):List Sp->Prop
 | one:GrC b [b]
 | add {cs:List Sp} {c:Sp} {a:Nat} {s:Int}:GrC b cs->c∈cs->(a=0\/a=1\/a=2)->(s=-1\/s=1)->oth a s c∉cs->GrC b (cs++[oth a s c])
theorem GrC.nodup {b:Sp}{cs:List Sp}(h:GrC b cs):cs.Nodup:=by
 induction h with
 | one=>simp
 | add _ _ _ _ hn ih =>
  rw [List.nodup_append]
  exact ⟨ih,by simp,λ a ha y hy z=>by subst z;rw [List.mem_singleton.mp hy] at ha;exact hn ha⟩
theorem nr0 (a:Int):(a-a).natAbs<=1:=by omega
theorem nr1 {a b s:Int}{n:Nat}(h:(a-b).natAbs<=n)(hs:s=-1\/s=1):(a+s-b).natAbs<=n+1:=by omega
theorem clS.up {b c:Sp}{n:Nat}(h:clS b n c):clS b (n+1) c:=⟨Nat.le_succ_of_le h.1,Nat.le_succ_of_le h.2.1,Nat.le_succ_of_le h.2.2⟩
theorem GrC.near {b:Sp}{cs:List Sp}(h:GrC b cs):∀ c∈cs,clS b cs.length c:=by
 induction h with
 | one=>intro c hc;rw [List.mem_singleton.mp hc];exact ⟨nr0 _,nr0 _,nr0 _⟩
 | add _ hc ha hs _ ih =>
  intro d hd
  rw [List.length_append,List.length_singleton]
  rcases List.mem_append.mp hd with q|q
  ·exact (ih d q).up
  ·rw [List.mem_singleton.mp q]
   have k:=ih _ hc
   rcases ha with rfl|rfl|rfl
   ·exact ⟨nr1 k.1 hs,k.up.2.1,k.up.2.2⟩
   ·exact ⟨k.up.1,nr1 k.2.1 hs,k.up.2.2⟩
   ·exact ⟨k.up.1,k.up.2.1,nr1 k.2.2 hs⟩
theorem GrC.pos {b:Sp}{cs:List Sp}(h:GrC b cs):cs≠[]:=by
 cases h with
 | one=>simp
 | add _ _ _ _ _=>simp
def frN (cs:List Sp)(c:Sp):Nat:=(lsq cs c).length
theorem Qv {cs cs':List Sp}(h:∀ x∈cs,x∈cs')(c:Sp)(a:Nat)(b:Int):(lsb cs' c a b).length<=(lsb cs c a b).length:=by
 unfold lsb
 by_cases h1:oth a b c∈cs
 ·rw [if_pos h1,if_pos (h _ h1)];exact Nat.le_refl _
 ·rw [if_neg h1];split<;>simp
theorem We (cs:List Sp)(c:Sp):frN cs c=(lsb cs c 0 (-1)).length+(lsb cs c 0 1).length+(lsb cs c 1 (-1)).length+(lsb cs c 1 1).length+(lsb cs c 2 (-1)).length+(lsb cs c 2 1).length:=by
 unfold frN lsq lsa
 simp only [List.flatMap_cons,List.flatMap_nil,List.append_nil,List.length_append]
 omega
theorem Wf {cs cs':List Sp}(h:∀ x∈cs,x∈cs')(c:Sp):frN cs' c<=frN cs c:=by
 rw [We,We]
 have h1:=Qv h c 0 (-1)
 have h2:=Qv h c 0 1
 have h3:=Qv h c 1 (-1)
 have h4:=Qv h c 1 1
 have h5:=Qv h c 2 (-1)
 have h6:=Qv h c 2 1
 omega
theorem ad1 {x x' y y':Nat}(h:x'+1<=x)(g:y'<=y):x'+y'+1<=x+y:=by omega
theorem ad2 {x x' y y':Nat}(h:x'<=x)(g:y'+1<=y):x'+y'+1<=x+y:=by omega
theorem jJ {x x':Nat}(h:x=1)(g:x'=0):x'+1<=x:=by omega
theorem qbP {cs cs':List Sp}(h:∀ x∈cs,x∈cs'){c:Sp}{a:Nat}{s:Int}(ha:a=0\/a=1\/a=2)(hs:s=-1\/s=1)(h1:oth a s c∉cs)(h2:oth a s c∈cs'):frN cs' c+1<=frN cs c:=by
 have e1:(lsb cs c a s).length=1:=by unfold lsb;rw [if_neg h1];rfl
 have e2:(lsb cs' c a s).length=0:=by unfold lsb;rw [if_pos h2];rfl
 rw [We,We]
 have m1:=Qv h c 0 (-1)
 have m2:=Qv h c 0 1
 have m3:=Qv h c 1 (-1)
 have m4:=Qv h c 1 1
 have m5:=Qv h c 2 (-1)
 have m6:=Qv h c 2 1
 rcases ha with rfl|rfl|rfl<;>rcases hs with rfl|rfl
 ·exact ad1 (ad1 (ad1 (ad1 (ad1 (jJ e1 e2) m2) m3) m4) m5) m6
 ·exact ad1 (ad1 (ad1 (ad1 (ad2 m1 (jJ e1 e2)) m3) m4) m5) m6
 ·exact ad1 (ad1 (ad1 (ad2 (Nat.add_le_add m1 m2) (jJ e1 e2)) m4) m5) m6
 ·exact ad1 (ad1 (ad2 (Nat.add_le_add (Nat.add_le_add m1 m2) m3) (jJ e1 e2)) m5) m6
 ·exact ad1 (ad2 (Nat.add_le_add (Nat.add_le_add (Nat.add_le_add m1 m2) m3) m4) (jJ e1 e2)) m6
 ·exact ad2 (Nat.add_le_add (Nat.add_le_add (Nat.add_le_add (Nat.add_le_add m1 m2) m3) m4) m5) (jJ e1 e2)
theorem qeb (c:Sp):frN [] c=6:=by
 rw [We]
 simp [lsb]
theorem qgZ {a:Nat}{s:Int}(ha:a=0\/a=1\/a=2)(c:Sp):oth a (-s) (oth a s c)=c:=by
 obtain ⟨x,y,z⟩:=c
 rcases ha with rfl|rfl|rfl<;>simp only [oth,Prod.mk.injEq,and_true,true_and]<;>omega
def frS (cs ds:List Sp):Nat:=(ds.flatMap (lsq cs)).length
theorem jE (cs:List Sp)(d:Sp)(ds:List Sp):frS cs (d::ds)=frN cs d+frS cs ds:=by
 unfold frS frN
 rw [List.flatMap_cons,List.length_append]
theorem qbR {cs cs':List Sp}(h:∀ x∈cs,x∈cs'):∀ ds:List Sp,frS cs' ds<=frS cs ds
 | []=>Nat.le_refl _
 | d::ds=>by
  rw [jE,jE]
  have:=Wf h d
  have:=qbR h ds
  omega
theorem qbQ {cs cs':List Sp}(h:∀ x∈cs,x∈cs'){c:Sp}{a:Nat}{s:Int}(ha:a=0\/a=1\/a=2)(hs:s=-1\/s=1)(h1:oth a s c∉cs)(h2:oth a s c∈cs'):∀ ds:List Sp,c∈ds->frS cs' ds+1<=frS cs ds
 | [],hc=>by cases hc
 | d::ds,hc=>by
  rw [jE,jE]
  rcases List.mem_cons.mp hc with rfl|q
  ·have:=qbP h ha hs h1 h2
   have:=qbR h ds
   omega
  ·have:=Wf h d
   have:=qbQ h ha hs h1 h2 ds q
   omega
theorem qie (cs ds es:List Sp):frS cs (ds++es)=frS cs ds+frS cs es:=by
 unfold frS
 rw [List.flatMap_append,List.length_append]
theorem GrC.free {b:Sp}{cs:List Sp}(h:GrC b cs):frS cs cs<=4*cs.length+2:=by
 induction h with
 | one =>
  have h1:=Wf (cs:=[]) (cs':=[b]) (λ x hx=>by cases hx) b
  have h2:=qeb b
  have h3:frS [b] [b]=frN [b] b+0:=jE [b] b []
  rw [List.length_singleton]
  omega
 | @add cs c a s _ hc ha hs hn ih =>
  have k1:=qbQ (cs:=cs) (cs':=cs++[oth a s c]) (λ x hx=>List.mem_append_left _ hx) ha hs hn (List.mem_append_right _ List.mem_cons_self) cs hc
  have k2:=qbP (cs:=[]) (cs':=cs++[oth a s c]) (λ x hx=>by cases hx) (c:=oth a s c) (a:=a) (s:=-s) ha (by omega) (by simp) (by rw [qgZ ha];exact List.mem_append_left _ hc)
  have k3:=qeb (oth a s c)
  have k4:frS (cs++[oth a s c]) [oth a s c]=frN (cs++[oth a s c]) (oth a s c)+0:=jE _ _ []
  rw [qie,List.length_append,List.length_singleton]
  omega
theorem qd8:∀ {cs:List Sp},cs≠[]->∃ c∈cs,∀ d∈cs,d.1<=c.1
 | [],h=>absurd rfl h
 | [c],_=>⟨c,List.mem_cons_self,λ d hd=>by rw [List.mem_singleton.mp hd];exact Int.le_refl _⟩
 | c::e::cs,_=>by
  obtain ⟨m,hm,h⟩:=qd8 (cs:=e::cs) (by simp)
  by_cases q:c.1<=m.1
  ·exact ⟨m,List.mem_cons_of_mem _ hm,λ d hd=>by rcases List.mem_cons.mp hd with rfl|z;exact q;exact h d z⟩
  ·exact ⟨c,List.mem_cons_self,λ d hd=>by rcases List.mem_cons.mp hd with rfl|z;exact Int.le_refl _;have:=h d z;omega⟩
theorem qe8 {cs:List Sp}(h:cs≠[]):∃ s,s∈cs.flatMap (lsq cs):=by
 obtain ⟨c,hc,hf⟩:=qd8 h
 refine ⟨oth 0 1 (mid c),List.mem_flatMap.mpr ⟨c,hc,JR.mpr ⟨0,1,.inl rfl,.inr rfl,λ z=>?_,rfl⟩⟩⟩
 have:=hf _ z
 simp only [oth] at this
 omega
theorem qgw {cs gs:List Sp}(h:cs.Perm gs):inM cs=inM gs:=by
 funext m
 unfold inM
 rw [Bool.eq_iff_iff,decide_eq_true_eq,decide_eq_true_eq]
 exact (h.map mid).mem_iff
theorem twice_len:∀ (ks xs:List Sp),ks.Nodup->(∀ t∈ks,2<=xs.count t)->2*ks.length<=xs.length
 | [],_,_,_=>by simp
 | t::ks,xs,hn,h=>by
  obtain ⟨h1,h2⟩:=List.nodup_cons.mp hn
  have ih:=twice_len ks (xs.filter λ x=>!decide (x=t)) h2 λ u hu=>by
   rw [List.count_filter (by
    have:u≠t:=λ z=>h1 (z ▸ hu)
    simp [this])]
   exact h u (List.mem_cons_of_mem _ hu)
  have hl:∀ ys:List Sp,ys.length=ys.count t+(ys.filter λ x=>!decide (x=t)).length:=by
   intro ys
   induction ys with
   | nil=>rfl
   | cons y ys ih =>
    rw [List.count_cons,List.filter_cons,List.length_cons,ih]
    by_cases hy:y=t
    ·subst hy;simp;omega
    ·simp [hy];omega
  have:=hl xs
  have:=h t List.mem_cons_self
  rw [List.length_cons]
  omega
theorem qge {s e:Sp}(hs:Sq s)(he:e∈ar (axA s) s):∃ B,EdB' B e:=by
 rcases zR hs with ⟨h0,h1,h2,h3⟩|⟨h0,h1,h2,h3⟩|⟨h0,h1,h2,h3⟩<;>rw [h0] at he
 ·obtain ⟨p,⟨q,r⟩|⟨q,r⟩⟩:=Zn.mp he
  ·exact ⟨2,.inr (.inr ⟨rfl,by rw [p];exact h1,Jb r h2,by rw [q];exact h3⟩)⟩
  ·exact ⟨1,.inr (.inl ⟨rfl,by rw [p];exact h1,by rw [q];exact h2,Jb r h3⟩)⟩
 ·obtain ⟨p,⟨q,r⟩|⟨q,r⟩⟩:=Zo.mp he
  ·exact ⟨2,.inr (.inr ⟨rfl,Jb r h1,by rw [p];exact h2,by rw [q];exact h3⟩)⟩
  ·exact ⟨0,.inl ⟨rfl,by rw [q];exact h1,by rw [p];exact h2,Jb r h3⟩⟩
 ·obtain ⟨p,⟨q,r⟩|⟨q,r⟩⟩:=Zq.mp he
  ·exact ⟨1,.inr (.inl ⟨rfl,Jb r h1,by rw [q];exact h2,by rw [p];exact h3⟩)⟩
  ·exact ⟨0,.inl ⟨rfl,by rw [q];exact h1,Jb r h2,by rw [p];exact h3⟩⟩
theorem qgp (I:Sp->Bool){B:Nat}{e:Sp}(hB:EdB' B e)(h:(ar B e).filter (skB I)=ar B e):∃ m n,m≠n/\I m=true/\I n=true:=by
 have hall:=List.filter_eq_self.mp h
 obtain ⟨x,y,z⟩:=e
 rcases hB with ⟨rfl,h1,h2,h3⟩|⟨rfl,h1,h2,h3⟩|⟨rfl,h1,h2,h3⟩<;>dsimp only at h1 h2 h3
 ·have x1:axA (x,y-1,z)=2:=by unfold axA;dsimp only;rw [if_neg (by omega),if_neg (by omega)]
  have x2:axA (x,y,z-1)=1:=by unfold axA;dsimp only;rw [if_neg (by omega),if_pos (by omega)]
  have x4:axA (x,y+1,z)=2:=by unfold axA;dsimp only;rw [if_neg (by omega),if_neg (by omega)]
  have k1:=hall (x,y-1,z) (by simp [ar])
  have k2:=hall (x,y,z-1) (by simp [ar])
  have k4:=hall (x,y+1,z) (by simp [ar])
  simp only [skB,x1,x2,x4,lo,hi] at k1 k2 k4
  cases ha:I (x,y-1,z-1) with
  | true =>
   refine ⟨(x,y-1,z-1),(x,y+1,z+1),by simp;omega,ha,?_⟩
   cases hd:I (x,y+1,z+1)<;>simp_all
  | false =>
   refine ⟨(x,y-1,z+1),(x,y+1,z-1),by simp;omega,?_,?_⟩<;>simp_all
 ·have x1:axA (x-1,y,z)=2:=by unfold axA;dsimp only;rw [if_neg (by omega),if_neg (by omega)]
  have x2:axA (x,y,z-1)=0:=by unfold axA;dsimp only;rw [if_pos (by omega)]
  have x4:axA (x+1,y,z)=2:=by unfold axA;dsimp only;rw [if_neg (by omega),if_neg (by omega)]
  have k1:=hall (x-1,y,z) (by simp [ar])
  have k2:=hall (x,y,z-1) (by simp [ar])
  have k4:=hall (x+1,y,z) (by simp [ar])
  simp only [skB,x1,x2,x4,lo,hi] at k1 k2 k4
  cases ha:I (x-1,y,z-1) with
  | true =>
   refine ⟨(x-1,y,z-1),(x+1,y,z+1),by simp;omega,ha,?_⟩
   cases hd:I (x+1,y,z+1)<;>simp_all
  | false =>
   refine ⟨(x-1,y,z+1),(x+1,y,z-1),by simp;omega,?_,?_⟩<;>simp_all
 ·have x1:axA (x-1,y,z)=1:=by unfold axA;dsimp only;rw [if_neg (by omega),if_pos (by omega)]
  have x2:axA (x,y-1,z)=0:=by unfold axA;dsimp only;rw [if_pos (by omega)]
  have x4:axA (x+1,y,z)=1:=by unfold axA;dsimp only;rw [if_neg (by omega),if_pos (by omega)]
  have k1:=hall (x-1,y,z) (by simp [ar])
  have k2:=hall (x,y-1,z) (by simp [ar])
  have k4:=hall (x+1,y,z) (by simp [ar])
  simp only [skB,x1,x2,x4,lo,hi] at k1 k2 k4
  cases ha:I (x-1,y-1,z) with
  | true =>
   refine ⟨(x-1,y-1,z),(x+1,y+1,z),by simp;omega,ha,?_⟩
   cases hd:I (x+1,y+1,z)<;>simp_all
  | false =>
   refine ⟨(x-1,y+1,z),(x+1,y-1,z),by simp;omega,?_,?_⟩<;>simp_all
abbrev EG (sk:List Sp):List Sp:=sk.flatMap λ s=>ar (axA s) s
structure Pl (cs sk:List Sp):Prop where
 hb:∀ c∈cs,BdS 200 c
 e1:zE [.list (cs.map eS)]=some (.list (sk.map eS))
 e2:zu [.list (cs.map eS)]=some (.list (sk.map eS))
 hr:(sk.map l3).Pairwise (λ a b=>HT.lexLt b a=false)
 hn:sk.Nodup
 hk:sk.length<=31
 hm:∀ s,s∈sk↔Sq s/\skB (inM cs) s=true
 h2:∀ e,(EG sk).count e<=2
 ne:sk≠[]
theorem qcW (B:Nat)(e:Sp):(ar B e).length=4:=by
 unfold ar
 split<;>rfl
theorem qaH:∀ sk:List Sp,(EG sk).length=4*sk.length
 | []=>rfl
 | s::sk=>by
  have ih:=qaH sk
  show (ar (axA s) s++EG sk).length=_
  rw [List.length_append,qcW,List.length_cons,ih]
  omega
theorem jB {cs sk:List Sp}(P:Pl cs sk){e:Sp}(he:e∈EG sk):∃ B s0 s1,EdB' B e/\(ar B e).filter (skB (inM cs))=[s0,s1]/\sk.filter (λ s=>decide (e∈ar (axA s) s))=[s0,s1]/\Qn (inM cs) s0 e s1=((md4 B e).countP (inM cs):Nat)-2/\s0∈sk/\s1∈sk:=by
 obtain ⟨s,hs,hes⟩:=List.mem_flatMap.mp he
 obtain ⟨B,hB⟩:=qge ((P.hm s).mp hs).1 hes
 have hat:=qdP P.hr P.hn P.hm hB
 have hc:=yI (λ s h=>((P.hm s).mp h).1) e
 have hle:=P.h2 e
 have hin:s∈sk.filter (λ s=>decide (e∈ar (axA s) s)):=List.mem_filter.mpr ⟨hs,decide_eq_true hes⟩
 rcases W7 (inM cs) hB with z|z|⟨s0,s1,z,hbd⟩
 ·rw [hat,z] at hin
  cases hin
 ·rw [hat,z,qcW] at hc
  have hle:(sk.flatMap λ s=>ar (axA s) s).count e<=2:=hle
  omega
 ·have hs01:=hat.trans z
  have m0:s0∈sk.filter (λ s=>decide (e∈ar (axA s) s)):=by rw [hs01];exact List.mem_cons_self
  have m1:s1∈sk.filter (λ s=>decide (e∈ar (axA s) s)):=by rw [hs01];exact List.mem_cons_of_mem _ List.mem_cons_self
  exact ⟨B,s0,s1,hB,z,hs01,hbd,(List.mem_filter.mp m0).1,(List.mem_filter.mp m1).1⟩
theorem qcj {cs sk:List Sp}(P:Pl cs sk):(once (EG sk)).length<64:=by
 have h1:=twice_len (once (EG sk)) (EG sk) (ZJ _) λ t ht=>by
  obtain ⟨B,s0,s1,hB,hf,hf2,_⟩:=jB P (Qw.mp ht)
  have h:=yI (λ s h=>((P.hm s).mp h).1) t
  rw [hf2] at h
  exact Nat.le_of_eq h.symm
 have h2:=qaH sk
 have h3:=P.hk
 omega
def jn (I:Sp->Bool)(sk:List Sp)(e:Sp):Sp:=match sk.filter (λ s=>decide (e∈ar (axA s) s)) with
 | s0::s1::_=>((sk.idxOf s0:Nat),(sk.idxOf s1:Nat),Qn I s0 e s1)
 | _=>(0,0,0)
theorem qdg {I:Sp->Bool}{sk:List Sp}{e s0 s1:Sp}(h:sk.filter (λ s=>decide (e∈ar (axA s) s))=[s0,s1]):jn I sk e=(((sk.idxOf s0:Nat):Int),((sk.idxOf s1:Nat):Int),Qn I s0 e s1):=by
 unfold jn
 rw [h]
theorem qih {cs sk:List Sp}(P:Pl cs sk):∃ zs:List Sp,Zk [.list (cs.map eS)]=some (.list (zs.map eS))/\zs.Perm ((once (EG sk)).map (jn (inM cs) sk))/\(zs.map l3).Pairwise (λ a b=>HT.lexLt b a=false):=by
 have hs:∀ s∈sk,Sq s:=λ s h=>((P.hm s).mp h).1
 have hk:=P.hk
 have hol:=qcj P
 have hcr:=qe2 hs (by omega) P.e1 (λ e z=>by
  have hle:(sk.flatMap λ s=>ar (axA s) s).count e<=2:=P.h2 e
  omega)
 have hsk:=P.e1
 have hnum:=qfs P.hn (by omega)
 have hcnt:=qbC hs (by omega)
 have hkeys:Jc (.dict (eD (tally (sk.flatMap λ s=>ar (axA s) s))))=some ((once (EG sk)).map eS):=by
  rw [qba,← yp,List.map_map];rfl
 obtain ⟨ρ',e,o5,o6,rfl⟩:=Qe eS (g:=gNm 5) (u:=(seqO (qY 6 (zG 7 (evI (evC 1 (aC (vr 5) aN) QR) seqD) (tV (ev2 (vr 7) (vr 3) in2D)) (vr 7))) (sApp 4 (qP (evA (aC (ev2 (vr 3) (ev2 (vr 6) (kd (.int 0)) ixD) ix2D) (aC (ev2 (vr 3) (ev2 (vr 6) (kd (.int 1)) ixD) ix2D) (aC (evC 4 (aC (vr 0) (aC (ev2 (vr 6) (kd (.int 0)) ixD) (aC (vr 5) (aC (ev2 (vr 6) (kd (.int 1)) ixD) aN)))) Q9) aN))) tupD)))))
  (λ done ρ=>∃ o5 o6:Option PyData,ρ=[some (.list (cs.map eS)),some .none,some (.list (sk.map eS)),some (.dict (eD sk.zipIdx)),some (.list ((done.map (jn (inM cs) sk)).map eS)),o5,o6]) (once (EG sk)) [some (.list (cs.map eS)),some .none,some (.list (sk.map eS)),some (.dict (eD sk.zipIdx)),some (.list []),none,none] ⟨none,none,rfl⟩ (by
   rintro e he done ρ hdl ⟨o5,o6,rfl⟩
   obtain ⟨B,s0,s1,hB,hf,hf2,hbd,m0,m1⟩:=jB P (Qw.mp he)
   have hsq:=qfG hB
   have hcp:∀ o5 o6:Option PyData,Qa (tV (ev2 (vr 7) (vr 3) in2D)) (vr 7) [some (.list (cs.map eS)),some .none,some (.list (sk.map eS)),some (.dict (eD sk.zipIdx)),some (.list ((done.map (jn (inM cs) sk)).map eS)),o5,o6] ((ar B e).map eS)=some [eS s0,eS s1]:=λ o5 o6=>by
    have:=ZC eS (tt:=(tV (ev2 (vr 7) (vr 3) in2D))) (te:=(vr 7)) (ρ:=[some (.list (cs.map eS)),some .none,some (.list (sk.map eS)),some (.dict (eD sk.zipIdx)),some (.list ((done.map (jn (inM cs) sk)).map eS)),o5,o6]) (skB (inM cs)) eS (ar B e) (λ s h=>by
     have hin:=in_eD sk.zipIdx s
     rw [List.zipIdx_map_fst] at hin
     have hd:decide (s∈sk)=skB (inM cs) s:=by
      rw [Bool.eq_iff_iff,decide_eq_true_eq,P.hm]
      exact ⟨λ z=>z.2,λ z=>⟨((qeK hB).mp h).1,z⟩⟩
     rw [hd] at hin
     simp_arith [hin]) (λ s h _=>by simp_arith [])
    rw [hf] at this
    exact this
   have n0:=qce m0
   have n1:=qce m1
   have hbn:=qjL (e:=e) (s1:=s1) P.hb (hs s0 m0) ((P.hm s0).mp m0).2
   have hz:((done.map (jn (inM cs) sk)).map eS).length<1000:=by rw [List.length_map,List.length_map];omega
   have hz4:((ar B e).map eS).length<=1000:=by rw [List.length_map,qcW];omega
   have hj:=qdg (I:=inM cs) hf2
   have ha:((done++[e]).map (jn (inM cs) sk)).map eS=(done.map (jn (inM cs) sk)).map eS++[.tuple [.int (sk.idxOf s0:Nat),.int (sk.idxOf s1:Nat),.int (Qn (inM cs) s0 e s1)]]:=by
    rw [List.map_append,List.map_append,List.map_cons,List.map_nil,List.map_cons,List.map_nil,hj];rfl
   refine ⟨[some (.list (cs.map eS)),some .none,some (.list (sk.map eS)),some (.dict (eD sk.zipIdx)),some (.list (((done++[e]).map (jn (inM cs) sk)).map eS)),some (eS e),some (.list [eS s0,eS s1])],?_,some (eS e),some (.list [eS s0,eS s1]),rfl⟩
   rw [ha]
   simp_arith [hsq,hcp,n0,n1,hbn,Zm,hz,hz4])
 obtain ⟨zs,es,p,o⟩:=ZL (xs:=(once (EG sk)).map (jn (inM cs) sk)) (by rw [List.length_map];exact hol)
 refine ⟨zs,?_,p,o⟩
 simp only [Zk,j9]
 have hno:isNone .none=true:=rfl
 simp_arith [hcr,hno,hsk,hnum,hcnt,hkeys,e,es]
theorem qgR {kvs:List Mt}(hn:(kvs.map (·.1)).Nodup){p:Mt}(hp:p∈kvs):lstM kvs p.1=p.2:=by
 induction kvs with
 | nil=>cases hp
 | cons q kvs ih =>
  rw [List.map_cons,List.nodup_cons] at hn
  unfold lstM
  rw [List.find?_cons]
  rcases List.mem_cons.mp hp with rfl|z
  ·rw [decide_eq_true rfl];rfl
  ·have:q.1≠p.1:=λ w=>hn.1 (w ▸ List.mem_map.mpr ⟨p,z,rfl⟩)
   rw [decide_eq_false this]
   exact ih hn.2 z
theorem qin (sk:List Sp):((metF sk.zipIdx).map (·.1)).Nodup:=by rw [JS];exact ZJ _
theorem qdQ (J:List Sp->Prop)(hne:∀ cs,J cs->cs≠[])(hadd:∀ (cs:List Sp) (c:Sp) (a:Nat) (s:Int),J cs->c∈cs->(a=0\/a=1\/a=2)->(s=-1\/s=1)->oth a s c∉cs->J (cs++[oth a s c]))(ms:List Int)(o0 o1 o2 o4 o5 o6:Option PyData){cs0:List Sp}(hJ:J cs0)(hl0:cs0.length<=6) :
  ∃ (gs:List Sp) (o7 o8 o9:Option PyData),forD (gNm 7) (seqO (qY 8 (Wb (evA (aC (ev2 (vr 3) (ev2 (vr 7) (evA (aC (vr 3) aN) lenD) modD) ixD) aN) Zc))) (seqO (sSet 9 (ev2 (ev2 (vr 7) (kd (.int 60)) QT) (kd (.int 3)) modD)) (seqO (sPut 8 (vr 9) (qP (ev2 (ev2 (ev2 (vr 8) (vr 9) ixD) (ev2 (kd (.int 2)) (ev2 (ev2 (vr 7) (kd (.int 180)) QT) (kd (.int 2)) modD) mulD) qJ) (kd (.int 1)) subD))) (sIf (tA (tV (ev2 (evA (aC (vr 3) aN) lenD) (kd (.int 6)) ltD2)) (tV (ev2 (evA (aC (vr 8) aN) zc) (vr 3) ninD))) (sApp 3 (qP (evA (aC (vr 8) aN) zc))) sN)))) (ms.map .int) [o0,o1,o2,some (.list (cs0.map eS)),o4,o5,o6,none,none,none]=some (.nx [o0,o1,o2,some (.list (gs.map eS)),o4,o5,o6,o7,o8,o9])/\J gs/\gs.length<=6:=by
 obtain ⟨ρ',e,gs,o7,o8,o9,rfl,h1,h2⟩:=Qe PyData.int (g:=gNm 7) (u:=(seqO (qY 8 (Wb (evA (aC (ev2 (vr 3) (ev2 (vr 7) (evA (aC (vr 3) aN) lenD) modD) ixD) aN) Zc))) (seqO (sSet 9 (ev2 (ev2 (vr 7) (kd (.int 60)) QT) (kd (.int 3)) modD)) (seqO (sPut 8 (vr 9) (qP (ev2 (ev2 (ev2 (vr 8) (vr 9) ixD) (ev2 (kd (.int 2)) (ev2 (ev2 (vr 7) (kd (.int 180)) QT) (kd (.int 2)) modD) mulD) qJ) (kd (.int 1)) subD))) (sIf (tA (tV (ev2 (evA (aC (vr 3) aN) lenD) (kd (.int 6)) ltD2)) (tV (ev2 (evA (aC (vr 8) aN) zc) (vr 3) ninD))) (sApp 3 (qP (evA (aC (vr 8) aN) zc))) sN)))))
  (λ done ρ=>∃ (cs:List Sp) (o7 o8 o9:Option PyData),ρ=[o0,o1,o2,some (.list (cs.map eS)),o4,o5,o6,o7,o8,o9]/\J cs/\cs.length<=6) ms [o0,o1,o2,some (.list (cs0.map eS)),o4,o5,o6,none,none,none] ⟨cs0,none,none,none,rfl,hJ,hl0⟩ (by
   rintro x hx done ρ hdl ⟨cs,o7,o8,o9,rfl,h1,h2⟩
   have fin:∀ (d:Sp),(∃ a s c,c∈cs/\(a=0\/a=1\/a=2)/\(s=-1\/s=1)/\d=oth a s c)->∀ o7 o9:Option PyData,∃ ρ',(sIf (tA (tV (ev2 (evA (aC (vr 3) aN) lenD) (kd (.int 6)) ltD2)) (tV (ev2 (evA (aC (vr 8) aN) zc) (vr 3) ninD))) (sApp 3 (qP (evA (aC (vr 8) aN) zc))) sN) [o0,o1,o2,some (.list (cs.map eS)),o4,o5,o6,o7,some (.list [.int d.1,.int d.2.1,.int d.2.2]),o9]=some (.nx ρ')/\
     ∃ (cs:List Sp) (o7 o8 o9:Option PyData),ρ'=[o0,o1,o2,some (.list (cs.map eS)),o4,o5,o6,o7,o8,o9]/\J cs/\cs.length<=6:=by
    rintro d ⟨a,s,c,hc,ha,hs,hd⟩ o7 o9
    have hn:ninD (.tuple [.int d.1,.int d.2.1,.int d.2.2]) (.list (cs.map eS))=some (.bool (!decide (d∈cs))):=qes cs d
    by_cases h6:cs.length<6
    ·have e6:decide ((((cs.map eS).length:Nat):Int)<6)=true:=decide_eq_true (by rw [List.length_map];omega)
     by_cases hm:d∈cs
     ·refine ⟨[o0,o1,o2,some (.list (cs.map eS)),o4,o5,o6,o7,some (.list [.int d.1,.int d.2.1,.int d.2.2]),o9],?_,cs,o7,_,o9,rfl,h1,h2⟩
      simp_arith [hn,decide_eq_true hm,e6]
     ·refine ⟨[o0,o1,o2,some (.list ((cs++[d]).map eS)),o4,o5,o6,o7,some (.list [.int d.1,.int d.2.1,.int d.2.2]),o9],?_,cs++[d],o7,_,o9,rfl,?_,by rw [List.length_append,List.length_singleton];omega⟩
      ·have hz:(cs.map eS).length<1000:=by rw [List.length_map];omega
       simp_arith [hn,decide_eq_false hm,e6,Zm,hz]
       simp only [List.map_append,List.map_cons,List.map_nil,eS]
      ·rw [hd] at hm ⊢
       exact hadd cs c a s h1 hc ha hs hm
    ·have e6:decide ((((cs.map eS).length:Nat):Int)<6)=false:=decide_eq_false (by rw [List.length_map];omega)
     refine ⟨[o0,o1,o2,some (.list (cs.map eS)),o4,o5,o6,o7,some (.list [.int d.1,.int d.2.1,.int d.2.2]),o9],?_,cs,o7,_,o9,rfl,h1,h2⟩
     simp_arith [e6]
   have h0:0<cs.length:=List.length_pos_iff.mpr (hne cs h1)
   obtain ⟨c,hc,ec⟩:=qh3 x h0
   have e3:modD (.int x) (.int (((cs.map eS).length:Nat):Int))=some (.int (x % (cs.length:Int))):=by rw [List.length_map];exact qeq _ (by omega)
   have e4:atI (cs.map eS) (x % (cs.length:Int))=some (.tuple [.int c.1,.int c.2.1,.int c.2.2]):=Zg (Int.emod_nonneg _ (by omega)) ec
   have e5:mulD (.int 2) (.int (x / 180 % 2))=some (.int (2*(x / 180 % 2))):=zB (bd2.ok (Bd.of (n:=2) (by omega)))
   have hs:2*(x / 180 % 2)-1=-1\/2*(x / 180 % 2)-1=1:=by omega
   rcases qjo (x / 60) with h|h|h
   ·obtain ⟨ρ',k1,k2⟩:=fin (c.1+2*(x / 180 % 2)-1,c.2.1,c.2.2) ⟨0,_,c,hc,.inl rfl,hs,by simp only [oth,Prod.mk.injEq,and_true];omega⟩ (some (.int x)) (some (.int 0))
    refine ⟨ρ',?_,k2⟩
    simp_arith [e3,e4,Wc,h,e5,zU,ix0,ix1,ix2]
    simp_arith [] at k1
    exact k1
   ·obtain ⟨ρ',k1,k2⟩:=fin (c.1,c.2.1+2*(x / 180 % 2)-1,c.2.2) ⟨1,_,c,hc,.inr (.inl rfl),hs,by simp only [oth,Prod.mk.injEq,and_true,true_and];omega⟩ (some (.int x)) (some (.int 1))
    refine ⟨ρ',?_,k2⟩
    simp_arith [e3,e4,Wc,h,e5,zU,ix0,ix1,ix2]
    simp_arith [] at k1
    exact k1
   ·obtain ⟨ρ',k1,k2⟩:=fin (c.1,c.2.1,c.2.2+2*(x / 180 % 2)-1) ⟨2,_,c,hc,.inr (.inr rfl),hs,by simp only [oth,Prod.mk.injEq,true_and];omega⟩ (some (.int x)) (some (.int 2))
    refine ⟨ρ',?_,k2⟩
    simp_arith [e3,e4,Wc,h,e5,zU,ix0,ix1,ix2]
    simp_arith [] at k1
    exact k1)
 exact ⟨gs,o7,o8,o9,e,h1,h2⟩
theorem qje (ms:List Int)(b:Sp):∃ cs gs:List Sp,zL [.list (ms.map .int),.list [.int b.1,.int b.2.1,.int b.2.2],.int 0]=some (.list (cs.map eS))/\GrC b gs/\gs.length<=6/\cs.Perm gs:=by
 obtain ⟨gs,o7,o8,o9,e,h1,h2⟩:=qdQ (GrC b) (λ cs h=>h.pos) (λ cs c a s h hc ha hs hn=>.add h hc ha hs hn) ms (some (.list (ms.map .int))) (some (.list [.int b.1,.int b.2.1,.int b.2.2])) (some (.int 0)) none none none (cs0:=[b]) .one (by simp)
 obtain ⟨cs,es,p,_⟩:=ZL (xs:=gs) (by omega)
 refine ⟨cs,gs,?_,h1,h2,p⟩
 have e:forD (gNm 7) (seqO (qY 8 (Wb (evA (aC (ev2 (vr 3) (ev2 (vr 7) (evA (aC (vr 3) aN) lenD) modD) ixD) aN) Zc))) (seqO (sSet 9 (ev2 (ev2 (vr 7) (kd (.int 60)) QT) (kd (.int 3)) modD)) (seqO (sPut 8 (vr 9) (qP (ev2 (ev2 (ev2 (vr 8) (vr 9) ixD) (ev2 (kd (.int 2)) (ev2 (ev2 (vr 7) (kd (.int 180)) QT) (kd (.int 2)) modD) mulD) qJ) (kd (.int 1)) subD))) (sIf (tA (tV (ev2 (evA (aC (vr 3) aN) lenD) (kd (.int 6)) ltD2)) (tV (ev2 (evA (aC (vr 8) aN) zc) (vr 3) ninD))) (sApp 3 (qP (evA (aC (vr 8) aN) zc))) sN)))) (ms.map .int) [some (.list (ms.map .int)),some (.list [.int b.1,.int b.2.1,.int b.2.2]),some (.int 0),some (.list [.tuple [.int b.1,.int b.2.1,.int b.2.2]]),none,none,none,none,none,none]=some (.nx [some (.list (ms.map .int)),some (.list [.int b.1,.int b.2.1,.int b.2.2]),some (.int 0),some (.list (gs.map eS)),none,none,none,o7,o8,o9]):=e
 simp only [zL,Z6]
 simp_arith [e,es]
theorem far6 {a b:Int}{n:Nat}(h:(a-b).natAbs<=6)(g:b.natAbs<=n):a.natAbs<=n+6:=by omega
theorem qee {b:Sp}{cs gs:List Sp}(hb:qcb (10 ^ 19) b)(h:GrC b gs)(hl:gs.length<=6)(p:cs.Perm gs):(∀ c∈cs,BdS 200 c)/\∃ sk:List Sp,zE [.list (cs.map eS)]=some (.list (sk.map eS))/\zu [.list (cs.map eS)]=some (.list (sk.map eS))/\(sk.map l3).Pairwise (λ a b=>HT.lexLt b a=false)/\sk.Nodup/\sk.length<=31/\(∀ s,s∈sk↔Sq s/\skB (inM cs) s=true)/\sk≠[]:=by
 have hbd:∀ c∈cs,BdS 200 c:=λ c hc=>by
  obtain ⟨a1,a2,a3⟩:=h.near c (p.mem_iff.mp hc)
  obtain ⟨b1,b2,b3⟩:=hb
  exact qer (n:=10 ^ 19+6) ⟨far6 (Nat.le_trans a1 hl) b1,far6 (Nat.le_trans a2 hl) b2,far6 (Nat.le_trans a3 hl) b3⟩ (by decide)
 obtain ⟨sk,k1,k2,k3,k4,k5,k6⟩:=qeI hbd (by rw [p.length_eq];exact hl) (p.nodup_iff.mpr h.nodup)
 have hp:sk.Perm (gs.flatMap (lsq gs)):=ZK k4 (Y9 h.nodup) λ s=>by rw [k6,qaj,qgw p]
 refine ⟨hbd,sk,k1,k2,k3,k4,?_,k6,λ z=>?_⟩
 ·have:=h.free
  have:=hp.length_eq
  unfold frS at *
  omega
 ·obtain ⟨s,hs⟩:=qe8 h.pos
  have:=hp.mem_iff.mpr hs
  rw [z] at this
  cases this
theorem qd9 {α:Type}(enc:α->PyData){g:PyData->Rho->Option Rho}{u:Rho->Option Out}(I:Rho->Prop)(Q:PyData->Prop):∀ (as:List α) (ρ:Rho),I ρ->(∀ a∈as,∀ ρ,I ρ->(∃ ρ',ob (g (enc a) ρ) u=some (.nx ρ')/\I ρ')\/∃ d,ob (g (enc a) ρ) u=some (.rt d)/\Q d)->
  (∃ ρ',forD g u (as.map enc) ρ=some (.nx ρ')/\I ρ')\/∃ d,forD g u (as.map enc) ρ=some (.rt d)/\Q d
 | [],ρ,h,_=>.inl ⟨ρ,rfl,h⟩
 | a::as,ρ,h,st=>by
  rw [List.map_cons,qc9]
  rcases st a List.mem_cons_self ρ h with ⟨ρ',e,i⟩|⟨d,e,q⟩
  ·rw [e,qaU]
   exact qd9 enc I Q as ρ' i λ x hx=>st x (List.mem_cons_of_mem _ hx)
  ·rw [e,qea]
   exact .inr ⟨d,rfl,q⟩
theorem qjr {kvs:List Mt}{s:Sp}(h:s∈kvs.map (·.1)):ix2D (.dict (eM kvs)) (eS s)=some (eNs (lstM kvs s)):=by
 show ob (kxOf (eS s)) (λ ks=>if kOk (eM kvs) ks=true then zj (eM kvs) ks else none)=_
 have hs:=wJ s kvs
 rw [decide_eq_true h,JP] at hs
 rw [Y7,ob_s,if_pos (qaX _ _),JP]
 unfold lstM
 cases e:kvs.find? (λ p=>decide (p.1=s)) with
 | none=>rw [e] at hs;cases hs
 | some p=>rfl
theorem qek (kvs:List Mt):Jc (.dict (eM kvs))=some (kvs.map λ p=>eS p.1):=by
 show (if excK (eM kvs)=true then none else some ((eM kvs).map (·.1)))=_
 rw [if_neg (show ¬ excK (eM kvs)=true by cases kvs<;>exact Bool.false_ne_true)]
 unfold eM
 rw [List.map_map]
 rfl
theorem qhP {sk:List Sp}(hn:sk.Nodup)(hs:∀ s∈sk,Sq s)(e:Sp):(EG sk).count e=(lstM (metF sk.zipIdx) e).length:=by
 rw [Wn hn hs,List.length_map]
 exact yI hs e
def bsV (c:Int):Int:=if (c % 5==0)=true then c / 5 % (2*10 ^ 19+1)-10 ^ 19 else c / 5 % 9-4
theorem qc1 (c:Int):(bsV c).natAbs<=10 ^ 19:=by
 unfold bsV
 split
 ·have a1:=Int.emod_nonneg (c / 5) (b:=2*10 ^ 19+1) (by decide)
  have a2:=Int.emod_lt_of_pos (c / 5) (b:=2*10 ^ 19+1) (by decide)
  generalize c / 5 % (2*10 ^ 19+1)=z at a1 a2 ⊢
  omega
 ·omega
theorem qhI (a b c:Int):Q8 [.list [.int a,.int b,.int c]]=some (.list [.int (bsV a),.int (bsV b),.int (bsV c)]):=by
 have p19:powD (.int 10) (.int 19)=some (.int (10 ^ 19)):=rfl
 have m19:mulD (.int 2) (.int (10 ^ 19))=some (.int (2*10 ^ 19)):=rfl
 have md:∀ x:Int,modD (.int x) (.int (2*10 ^ 19+1))=some (.int (x % (2*10 ^ 19+1))):=λ x=>rfl
 simp only [Q8,Jz,bsV]
 cases ha:a % 5==0<;>cases hb:b % 5==0<;>cases hc:c % 5==0<;>simp_arith [ha,hb,hc,p19,m19,md]
theorem Jq {x s:Sp}{r:List Sp}(h:x≠s):(x::r).idxOf s=r.idxOf s+1:=by
 rw [List.idxOf_cons,beq_eq_false_iff_ne.mpr h]
 rfl
theorem qdc:∀ {sk:List Sp} {p:Sp->Bool} {s0 s1:Sp},sk.Nodup->sk.filter p=[s0,s1]->sk.idxOf s0<sk.idxOf s1
 | [],_,_,_,_,h=>by cases h
 | x::r,p,s0,s1,hn,h=>by
  obtain ⟨h1,h2⟩:=List.nodup_cons.mp hn
  rw [List.filter_cons] at h
  split at h
  ·obtain ⟨rfl,hr⟩:=List.cons.inj h
   have hm:s1∈r:=(List.mem_filter.mp (show s1∈r.filter p by rw [hr];exact List.mem_cons_self)).1
   have hne:x≠s1:=λ z=>h1 (z ▸ hm)
   rw [List.idxOf_cons_self,Jq hne]
   omega
  ·have m0:s0∈r:=(List.mem_filter.mp (show s0∈r.filter p by rw [h];exact List.mem_cons_self)).1
   have m1:s1∈r:=(List.mem_filter.mp (show s1∈r.filter p by rw [h];exact List.mem_cons_of_mem _ List.mem_cons_self)).1
   have n0:x≠s0:=λ z=>h1 (z ▸ m0)
   have n1:x≠s1:=λ z=>h1 (z ▸ m1)
   rw [Jq n0,Jq n1]
   have:=qdc h2 h
   omega
theorem qhG {A:Nat}(hA:A=0\/A=1\/A=2){e s:Sp}(h:e∈ar A s):s∈ar A e:=by
 rcases hA with rfl|rfl|rfl
 ·obtain ⟨p,⟨q,r⟩|⟨q,r⟩⟩:=Zn.mp h
  ·exact Zn.mpr ⟨p.symm,.inl ⟨q.symm,Zz r⟩⟩
  ·exact Zn.mpr ⟨p.symm,.inr ⟨q.symm,Zz r⟩⟩
 ·obtain ⟨p,⟨q,r⟩|⟨q,r⟩⟩:=Zo.mp h
  ·exact Zo.mpr ⟨p.symm,.inl ⟨q.symm,Zz r⟩⟩
  ·exact Zo.mpr ⟨p.symm,.inr ⟨q.symm,Zz r⟩⟩
 ·obtain ⟨p,⟨q,r⟩|⟨q,r⟩⟩:=Zq.mp h
  ·exact Zq.mpr ⟨p.symm,.inl ⟨q.symm,Zz r⟩⟩
  ·exact Zq.mpr ⟨p.symm,.inr ⟨q.symm,Zz r⟩⟩
theorem Sq_tr {t:Sp}(ht:evn t)(s:Sp):Sq (ad s t)↔Sq s:=by
 unfold Sq ad
 dsimp only
 rw [evn1 ht.1,evn1 ht.2.1,evn1 ht.2.2]
theorem qhE {a b t:Sp}(h:ad a t=ad b t):a=b:=by
 have h1:a.1+t.1=b.1+t.1:=congrArg (·.1) h
 have h2:a.2.1+t.2.1=b.2.1+t.2.1:=congrArg (·.2.1) h
 have h3:a.2.2+t.2.2=b.2.2+t.2.2:=congrArg (·.2.2) h
 exact QJ (by omega) (by omega) (by omega)
def sqB (s:Sp):Bool:=(s.1 % 2==0&&s.2.1 % 2==1&&s.2.2 % 2==1)||(s.1 % 2==1&&s.2.1 % 2==0&&s.2.2 % 2==1)||(s.1 % 2==1&&s.2.1 % 2==1&&s.2.2 % 2==0)
theorem qk1 {s:Sp}(h:Sq s):sqB s=true:=by
 unfold sqB
 rcases h with ⟨a,b,c⟩|⟨a,b,c⟩|⟨a,b,c⟩<;>rw [a,b,c]<;>rfl
def qdS:Bool:=([(0,1,1),(1,0,1),(1,1,0)]:List Sp).all λ p=>(ar (axA p) p).all λ e=>([0,1,2]:List Nat).all λ A=>(ar A e).all λ q=>!(axA q==A&&sqB q&&!(q==p))||(ar (axA p) p).all λ f=>!((ar A q).contains f)||e==f
theorem qeX:qdS=true:=by kernel_rfl
theorem qfF {s0 s1 e f:Sp}(h0:Sq s0)(h1:Sq s1)(hne:s0≠s1)(a1:e∈ar (axA s0) s0)(a2:e∈ar (axA s1) s1)(b1:f∈ar (axA s0) s0)(b2:f∈ar (axA s1) s1):e=f:=by
 obtain ⟨t,p,ht,hp,rfl⟩:∃ t p:Sp,evn t/\p∈([(0,1,1),(1,0,1),(1,1,0)]:List Sp)/\s0=ad p t:=by
  refine ⟨(s0.1 / 2*2,s0.2.1 / 2*2,s0.2.2 / 2*2),(s0.1 % 2,s0.2.1 % 2,s0.2.2 % 2),⟨by dsimp only;omega,by dsimp only;omega,by dsimp only;omega⟩,?_,QJ (by show s0.1=s0.1 % 2+s0.1 / 2*2;omega) (by show s0.2.1=s0.2.1 % 2+s0.2.1 / 2*2;omega) (by show s0.2.2=s0.2.2 % 2+s0.2.2 / 2*2;omega)⟩
  rcases h0 with ⟨a,b,c⟩|⟨a,b,c⟩|⟨a,b,c⟩<;>rw [a,b,c]<;>simp
 rw [wQ ht,qbw] at a1 b1
 obtain ⟨e',he',rfl⟩:=List.mem_map.mp a1
 obtain ⟨f',hf',rfl⟩:=List.mem_map.mp b1
 have hA:axA s1=0\/axA s1=1\/axA s1=2:=by rcases zR h1 with z|z|z<;>simp [z.1]
 have hs:=qhG hA a2
 rw [qbw] at hs
 obtain ⟨q,hq,rfl⟩:=List.mem_map.mp hs
 rw [wQ ht] at a2 b2 hA hq
 rw [Sq_tr ht] at h1
 rw [qbw] at b2
 obtain ⟨f2,hf2,ef⟩:=List.mem_map.mp b2
 cases qhE ef
 have hc:=qeX
 unfold qdS at hc
 have k1:=List.all_eq_true.mp hc p hp
 have k2:=List.all_eq_true.mp k1 e' he'
 have k3:=List.all_eq_true.mp k2 (axA q) (by rcases hA with z|z|z<;>rw [z]<;>simp)
 have k4:=List.all_eq_true.mp k3 q hq
 have hne2:(q==p)=false:=beq_eq_false_iff_ne.mpr λ z=>hne (by rw [z])
 rw [beq_self_eq_true,qk1 h1,hne2] at k4
 have k5:=List.all_eq_true.mp (show _=true from k4) f' hf'
 have hcn:(ar (axA q) q).contains f'=true:=List.contains_iff_mem.mpr hf2
 rw [hcn] at k5
 have k6:(e'==f')=true:=k5
 rw [beq_iff_eq.mp k6]
def mu (k:Int)(a:Sp):Sp:=(k*a.1,k*a.2.1,k*a.2.2)
def ouV (I:Sp->Bool)(s:Sp):Sp:=match axA s with
 | 0=>(if I (lo 0 s)=true then 1 else -1,0,0)
 | 1=>(0,if I (lo 1 s)=true then 1 else -1,0)
 | _=>(0,0,if I (lo 2 s)=true then 1 else -1)
def Lead (s o e:Sp)(b:Int)(t p:Sp):Prop:=(b=0/\ad e (sb e s)=t/\o=p)\/((b=1\/b=-1)/\ad e (mu b o)=t/\mu (-b) (sb e s)=p)
theorem qg0 (I:Sp->Bool){t:Sp}(ht:evn t)(s:Sp):ouV I (ad s t)=ouV (λ x=>I (ad x t)) s:=by
 unfold ouV
 rw [wQ ht,qb8,qb8,qb8]
theorem qdI (e v t:Sp):ad (ad e t) v=ad (ad e v) t:=by
 have h:∀ a b c:Int,a+b+c=a+c+b:=λ a b c=>by omega
 unfold ad
 dsimp only
 rw [h e.1,h e.2.1,h e.2.2]
theorem qdE {s o e t q r:Sp}{b:Int}(h:Lead s o e b q r):Lead (ad s t) o (ad e t) b (ad q t) r:=by
 unfold Lead at *
 rw [qeH]
 rcases h with ⟨h1,h2,h3⟩|⟨h1,h2,h3⟩
 ·exact .inl ⟨h1,by rw [qdI,h2],h3⟩
 ·exact .inr ⟨h1,by rw [qdI,h2],h3⟩
def leB (s o e:Sp)(b:Int)(t p:Sp):Bool:=(b==0&&ad e (sb e s)==t&&o==p)||((b==1||b == -1)&&ad e (mu b o)==t&&mu (-b) (sb e s)==p)
theorem qgJ {s o e t p:Sp}{b:Int}(h:leB s o e b t p=true):Lead s o e b t p:=by
 unfold leB at h
 simp only [Bool.or_eq_true,Bool.and_eq_true,beq_iff_eq] at h
 rcases h with ⟨⟨h1,h2⟩,h3⟩|⟨⟨h1,h2⟩,h3⟩
 ·exact .inl ⟨h1,h2,h3⟩
 ·exact .inr ⟨h1,h2,h3⟩
def ledB (J:Sp->Bool)(B:Nat)(p:Sp):Bool:=match (ar B p).filter (skB J) with
 | [s0,s1]=>leB s0 (ouV J s0) p (Qn J s0 p s1) s1 (ouV J s1)&&leB s1 (ouV J s1) p (Qn J s0 p s1) s0 (ouV J s0)
 | _=>true
def qgK:Bool:=e0s.all λ q=>[false,true].all λ a=>[false,true].all λ b=>[false,true].all λ c=>[false,true].all λ d=>ledB (jf (md4 q.1 q.2) a b c d) q.1 q.2
theorem qfm:qgK=true:=by kernel_rfl
theorem qfn {I J:Sp->Bool}{B:Nat}{p:Sp}(h1:∀ s∈ar B p,skB I s=skB J s)(h2:∀ s∈ar B p,I (lo (axA s) s)=J (lo (axA s) s))(h3:∀ s∈ar B p,ouV I s=ouV J s):ledB I B p=ledB J B p:=by
 unfold ledB
 rw [List.filter_congr h1]
 cases hq:(ar B p).filter (skB J) with
 | nil=>rfl
 | cons a l =>
  cases l with
  | nil=>rfl
  | cons b l =>
   cases l with
   | cons c l=>rfl
   | nil =>
    have ma:a∈ar B p:=(List.mem_filter.mp (show a∈(ar B p).filter (skB J) by rw [hq];exact List.mem_cons_self)).1
    have mb:b∈ar B p:=(List.mem_filter.mp (show b∈(ar B p).filter (skB J) by rw [hq];exact List.mem_cons_of_mem _ List.mem_cons_self)).1
    have hb:Qn I a p b=Qn J a p b:=by unfold Qn;rw [h2 a ma]
    dsimp only
    rw [h3 a ma,h3 b mb,hb]
theorem qkr {I J:Sp->Bool}{s:Sp}(h:I (lo (axA s) s)=J (lo (axA s) s)):ouV I s=ouV J s:=by
 unfold ouV
 split
 ·rename_i e;rw [e] at h;rw [h]
 ·rename_i e;rw [e] at h;rw [h]
 ·rename_i e0 e1
  have e:lo (axA s) s=lo 2 s:=by unfold lo;split<;>simp_all
  rw [e] at h;rw [h]
theorem qip (I:Sp->Bool){B:Nat}{p:Sp}(hp:(B,p)∈e0s):ledB I B p=true:=by
 obtain ⟨a,b,c,d,_,h2,h3⟩:=J_of I hp
 rw [qfn h2 h3 λ s hs=>qkr (h3 s hs)]
 have hall:=qfm
 unfold qgK at hall
 exact List.all_eq_true.mp (List.all_eq_true.mp (List.all_eq_true.mp (List.all_eq_true.mp (List.all_eq_true.mp hall (B,p) hp) a (jq a)) b (jq b)) c (jq c)) d (jq d)
theorem qe3 (I:Sp->Bool){B:Nat}{e:Sp}(hB:EdB' B e){s0 s1:Sp}(h:(ar B e).filter (skB I)=[s0,s1]) :
  Lead s0 (ouV I s0) e (Qn I s0 e s1) s1 (ouV I s1)/\Lead s1 (ouV I s1) e (Qn I s0 e s1) s0 (ouV I s0):=by
 obtain ⟨t,p,ht,hp,rfl⟩:∃ t p:Sp,evn t/\(B,p)∈e0s/\e=ad p t:=by
  refine ⟨(e.1 / 2*2,e.2.1 / 2*2,e.2.2 / 2*2),(e.1 % 2,e.2.1 % 2,e.2.2 % 2),⟨by dsimp only;omega,by dsimp only;omega,by dsimp only;omega⟩,?_,QJ (by show e.1=e.1 % 2+e.1 / 2*2;omega) (by show e.2.1=e.2.1 % 2+e.2.1 / 2*2;omega) (by show e.2.2=e.2.2 % 2+e.2.2 / 2*2;omega)⟩
  rcases hB with ⟨rfl,a,b,c⟩|⟨rfl,a,b,c⟩|⟨rfl,a,b,c⟩<;>rw [a,b,c]<;>simp [e0s]
 rw [qbw,List.filter_map] at h
 have hf:skB I ∘ (λ x=>ad x t)=skB (λ x=>I (ad x t)):=funext λ s=>qhq I ht s
 rw [hf] at h
 have hl:=qip (λ x=>I (ad x t)) hp
 unfold ledB at hl
 cases hq:(ar B p).filter (skB λ x=>I (ad x t)) with
 | nil=>rw [hq] at h;cases h
 | cons a l =>
  cases l with
  | nil=>rw [hq] at h;cases h
  | cons b l =>
   rw [hq] at h
   simp only [List.map_cons,List.cons.injEq,List.map_eq_nil_iff] at h
   obtain ⟨rfl,rfl,rfl⟩:=h
   rw [hq] at hl
   obtain ⟨l1,l2⟩:=Bool.and_eq_true_iff.mp hl
   rw [qg0 I ht,qg0 I ht,qbx I ht]
   exact ⟨qdE (qgJ l1),qdE (qgJ l2)⟩
theorem qda {sk:List Sp}{s:Sp}(hs:s∈sk)(hq:Sq s):(once (sk.flatMap λ s=>ar (axA s) s)).countP (λ e=>decide (e∈ar (axA s) s))=4:=by
 have hA:axA s=0\/axA s=1\/axA s=2:=by rcases zR hq with z|z|z<;>simp [z.1]
 rw [List.countP_eq_length_filter]
 have p:((once (sk.flatMap λ s=>ar (axA s) s)).filter (λ e=>decide (e∈ar (axA s) s))).Perm (ar (axA s) s):=ZK ((ZJ _).filter _) (yG hA s) λ e=>by
  rw [List.mem_filter,Qw,decide_eq_true_eq]
  exact ⟨λ z=>z.2,λ z=>⟨List.mem_flatMap.mpr ⟨s,hs,z⟩,z⟩⟩
 rw [p.length_eq]
 unfold ar
 split<;>rfl
theorem qcQ:∀ (ks xs:List Sp),ks.Nodup->(∀ x∈xs,x∈ks)->(∀ t∈ks,xs.count t=2)->xs.length=2*ks.length
 | [],xs,_,h,_=>by
  cases xs with
  | nil=>rfl
  | cons x _=>exact absurd (h x List.mem_cons_self) (by simp)
 | t::ks,xs,hn,hm,h=>by
  obtain ⟨h1,h2⟩:=List.nodup_cons.mp hn
  have ih:=qcQ ks (xs.filter λ x=>!decide (x=t)) h2 (λ x hx=>by
   obtain ⟨hx,hne⟩:=List.mem_filter.mp hx
   rcases List.mem_cons.mp (hm x hx) with rfl|z
   ·simp at hne
   ·exact z) λ u hu=>by
   rw [List.count_filter (by
    have:u≠t:=λ z=>h1 (z ▸ hu)
    simp [this])]
   exact h u (List.mem_cons_of_mem _ hu)
  have hl:∀ ys:List Sp,ys.length=ys.count t+(ys.filter λ x=>!decide (x=t)).length:=by
   intro ys
   induction ys with
   | nil=>rfl
   | cons y ys ih =>
    rw [List.count_cons,List.filter_cons,List.length_cons,ih]
    by_cases hy:y=t
    ·subst hy;simp;omega
    ·simp [hy];omega
  have:=hl xs
  have:=h t List.mem_cons_self
  rw [List.length_cons]
  omega
def rtV (s:Sp):Sp:=if axA s=0 then (0,1,0) else (1,0,0)
def crV (a b:Sp):Sp:=(a.2.1*b.2.2-a.2.2*b.2.1,a.2.2*b.1-a.1*b.2.2,a.1*b.2.1-a.2.1*b.1)
def poV (I:Sp->Bool)(s:Sp):PyData:=.tuple [eS s,eS (rtV s),eS (crV (ouV I s) (rtV s))]
theorem m20:mulD (.int 2) (.int 0)=some (.int 0):=rfl
theorem m21:mulD (.int 2) (.int 1)=some (.int 2):=rfl
theorem Yd (I:Sp->Bool){s:Sp}(hs:Sq s):(axA s=0/\(ouV I s=(1,0,0)/\I (lo 0 s)=true\/ouV I s=(-1,0,0)/\I (lo 0 s)=false))\/(axA s=1/\(ouV I s=(0,1,0)/\I (lo 1 s)=true\/ouV I s=(0,-1,0)/\I (lo 1 s)=false))\/(axA s=2/\(ouV I s=(0,0,1)/\I (lo 2 s)=true\/ouV I s=(0,0,-1)/\I (lo 2 s)=false)):=by
 rcases zR hs with z|z|z
 ·refine .inl ⟨z.1,?_⟩
  unfold ouV
  rw [z.1]
  cases h:I (lo 0 s)<;>simp [h]
 ·refine .inr (.inl ⟨z.1,?_⟩)
  unfold ouV
  rw [z.1]
  cases h:I (lo 1 s)<;>simp [h]
 ·refine .inr (.inr ⟨z.1,?_⟩)
  unfold ouV
  rw [z.1]
  cases h:I (lo 2 s)<;>simp [h]
theorem out25 {cs:List Sp}{s:Sp}(hs:Sq s):Qc [.list (cs.map eS),eS s]=some (eS (ouV (inM cs) s)):=by
 have hr:∀ ρ:Rho,(evR (aC (kd (.int 3)) aN) QS) ρ=some [.int 0,.int 1,.int 2]:=λ _=>rfl
 have ii:=qgu cs (cb (lo (axA s) s))
 rw [← qdd (qch hs).1] at ii
 have h6:=Yd (inM cs) hs
 have hx:=zR hs
 obtain ⟨x,y,z⟩:=s
 rcases hx with ⟨e,h1,h2,h3⟩|⟨e,h1,h2,h3⟩|⟨e,h1,h2,h3⟩<;>rw [e] at ii h6<;>dsimp only at h1 h2 h3
 ·have h6:ouV (inM cs) (x,y,z)=(1,0,0)/\inM cs (lo 0 (x,y,z))=true\/ouV (inM cs) (x,y,z)=(-1,0,0)/\inM cs (lo 0 (x,y,z))=false:=by simpa using h6
  have q1:(x-2) / 2=(x-1) / 2:=by omega
  have q2:(y-1) / 2=y / 2:=by omega
  have q3:(z-1) / 2=z / 2:=by omega
  rcases h6 with ⟨g,k⟩|⟨g,k⟩<;>rw [k] at ii<;>rw [g]<;>simp only [eS,lo,cb] at ii ⊢<;>simp only [Qc,jk]
  ·simp_arith [hr,ix0,ix1,ix2,h1,h2,h3,q1,q2,q3,ii,zU,m20,m21]
  ·simp_arith [hr,ix0,ix1,ix2,h1,h2,h3,q1,q2,q3,ii,zU,m20,m21]
 ·have h6:ouV (inM cs) (x,y,z)=(0,1,0)/\inM cs (lo 1 (x,y,z))=true\/ouV (inM cs) (x,y,z)=(0,-1,0)/\inM cs (lo 1 (x,y,z))=false:=by simpa using h6
  have q1:(y-2) / 2=(y-1) / 2:=by omega
  have q2:(x-1) / 2=x / 2:=by omega
  have q3:(z-1) / 2=z / 2:=by omega
  rcases h6 with ⟨g,k⟩|⟨g,k⟩<;>rw [k] at ii<;>rw [g]<;>simp only [eS,lo,cb] at ii ⊢<;>simp only [Qc,jk]
  ·simp_arith [hr,ix0,ix1,ix2,h1,h2,h3,q1,q2,q3,ii,zU,m20,m21]
  ·simp_arith [hr,ix0,ix1,ix2,h1,h2,h3,q1,q2,q3,ii,zU,m20,m21]
 ·have h6:ouV (inM cs) (x,y,z)=(0,0,1)/\inM cs (lo 2 (x,y,z))=true\/ouV (inM cs) (x,y,z)=(0,0,-1)/\inM cs (lo 2 (x,y,z))=false:=by simpa using h6
  have q1:(z-2) / 2=(z-1) / 2:=by omega
  have q2:(x-1) / 2=x / 2:=by omega
  have q3:(y-1) / 2=y / 2:=by omega
  rcases h6 with ⟨g,k⟩|⟨g,k⟩<;>rw [k] at ii<;>rw [g]<;>simp only [eS,lo,cb] at ii ⊢<;>simp only [Qc,jk]
  ·simp_arith [hr,ix0,ix1,ix2,h1,h2,h3,q1,q2,q3,ii,zU,m20,m21]
  ·simp_arith [hr,ix0,ix1,ix2,h1,h2,h3,q1,q2,q3,ii,zU,m20,m21]
theorem sb_ou {I:Sp->Bool}{s:Sp}(hs:Sq s):sb s (if I (lo (axA s) s)=true then lo (axA s) s else hi (axA s) s)=ouV I s:=by
 have h6:=Yd I hs
 obtain ⟨x,y,z⟩:=s
 rcases h6 with ⟨e,⟨g,k⟩|⟨g,k⟩⟩|⟨e,⟨g,k⟩|⟨g,k⟩⟩|⟨e,⟨g,k⟩|⟨g,k⟩⟩<;>rw [e,g,k]<;>simp [sb,lo,hi]<;>omega
theorem qd3 (I:Sp->Bool){s:Sp}(hs:Sq s):wF [eS (ouV I s),eS (rtV s)]=some (eS (crV (ouV I s) (rtV s)))/\Z2 [eS (ouV I s),eS (rtV s)]=some (eS (crV (ouV I s) (rtV s))):=by
 have a1:rtV s=if axA s=0 then (0,1,0) else (1,0,0):=rfl
 rcases Yd I hs with ⟨e,⟨g,_⟩|⟨g,_⟩⟩|⟨e,⟨g,_⟩|⟨g,_⟩⟩|⟨e,⟨g,_⟩|⟨g,_⟩⟩<;>rw [g,a1,e]<;>exact ⟨by kernel_rfl,by kernel_rfl⟩
theorem qkD {cs sk:List Sp}(hb:∀ c∈cs,BdS 200 c)(e1:zE [.list (cs.map eS)]=some (.list (sk.map eS)))(hm:∀ s,s∈sk↔Sq s/\skB (inM cs) s=true){k:Nat}{s:Sp}(hk:sk[k]?=some s):Z7 [.list (cs.map eS),.int (k:Nat)]=some (poV (inM cs) s):=by
 obtain ⟨hs,hk'⟩:=(hm s).mp (List.mem_of_getElem? hk)
 have hat:atI (sk.map eS) ((k:Nat):Int)=some (eS s):=Zg (Int.natCast_nonneg _) (by rw [Int.toNat_natCast];exact hk)
 have ho:=qan hb hs hk'
 rw [sb_ou hs] at ho
 have hx:=(qd3 (inM cs) hs).1
 have hax:zW [eS s]=some (.int (axA s:Nat)):=qcX (by rcases zR hs with ⟨e,z⟩|⟨e,z⟩|⟨e,z⟩<;>rw [e]<;>simp [z])
 have hun:=qcR
 have hc:∀ o2 o3 o5:Option PyData,Qa (tV (ev2 (ev2 (vr 6) (vr 4) ixD) (kd (.int 0)) eqD)) (vr 6) [some (.list (cs.map eS)),some (.int (k:Nat)),o2,o3,some (.int (axA s:Nat)),o5] (units.map eS)=some ((if axA s=0 then [(0,-1,0),(0,0,-1),(0,0,1),(0,1,0)] else if axA s=1 then [(-1,0,0),(0,0,-1),(0,0,1),(1,0,0)] else [(-1,0,0),(0,-1,0),(0,1,0),(1,0,0)]:List Sp).map eS):=λ o2 o3 o5=>by
  rcases zR hs with ⟨e,_⟩|⟨e,_⟩|⟨e,_⟩<;>rw [e]<;>rfl
 have hmx:Wm [.list ((if axA s=0 then [(0,-1,0),(0,0,-1),(0,0,1),(0,1,0)] else if axA s=1 then [(-1,0,0),(0,0,-1),(0,0,1),(1,0,0)] else [(-1,0,0),(0,-1,0),(0,1,0),(1,0,0)]:List Sp).map eS)]=some (eS (rtV s)):=by
  unfold rtV
  rcases zR hs with ⟨e,_⟩|⟨e,_⟩|⟨e,_⟩<;>rw [e]<;>kernel_rfl
 have hz:(units.map eS).length<=1000:=by rw [List.length_map];decide
 generalize ((if axA s=0 then [(0,-1,0),(0,0,-1),(0,0,1),(0,1,0)] else if axA s=1 then [(-1,0,0),(0,0,-1),(0,0,1),(1,0,0)] else [(-1,0,0),(0,-1,0),(0,1,0),(1,0,0)]:List Sp).map eS)=L at hc hmx
 unfold poV
 simp only [Z7,YL]
 simp_arith [e1,hat,ho,hax,hun,hc,hmx,hx,hz]
theorem qi7 (I:Sp->Bool){s:Sp}(hs:Sq s):zO [poV I s,eS s,eS (ouV I s)]=some (.bool true):=by
 have hx:=(qd3 I hs).2
 have hsp:=qeJ [s,rtV s,crV (ouV I s) (rtV s)]
 have hsp:Qi [.list [eS s,eS (rtV s),eS (crV (ouV I s) (rtV s))]]=some (.bool true):=hsp
 have q1:∀ a:Sp,eqD (eS a) (eS a)=some (.bool true):=λ a=>by rw [jW,decide_eq_true rfl]
 have hc:∀ o0 o1 o3:Option PyData,Qa (tV (ev2 (ev2 (ev2 (ev2 (ev2 (vr 4) (kd (.int 0)) ixD) (ev2 (vr 2) (kd (.int 0)) ixD) mulD) (ev2 (ev2 (vr 4) (kd (.int 1)) ixD) (ev2 (vr 2) (kd (.int 1)) ixD) mulD) qJ) (ev2 (ev2 (vr 4) (kd (.int 2)) ixD) (ev2 (vr 2) (kd (.int 2)) ixD) mulD) qJ) (kd (.int 0)) eqD)) (vr 4) [o0,o1,some (eS (ouV I s)),o3] [.tuple [.int 1,.int 0,.int 0],.tuple [.int 0,.int 1,.int 0],.tuple [.int 0,.int 0,.int 1]]=some ((if axA s=0 then [(0,1,0),(0,0,1)] else if axA s=1 then [(1,0,0),(0,0,1)] else [(1,0,0),(0,1,0)]:List Sp).map eS):=λ o0 o1 o3=>by
  rcases Yd I hs with ⟨e,⟨g,_⟩|⟨g,_⟩⟩|⟨e,⟨g,_⟩|⟨g,_⟩⟩|⟨e,⟨g,_⟩|⟨g,_⟩⟩<;>rw [g,e]<;>kernel_rfl
 have hmx:Wm [.list ((if axA s=0 then [(0,1,0),(0,0,1)] else if axA s=1 then [(1,0,0),(0,0,1)] else [(1,0,0),(0,1,0)]:List Sp).map eS)]=some (eS (rtV s)):=by
  unfold rtV
  rcases zR hs with ⟨e,_⟩|⟨e,_⟩|⟨e,_⟩<;>rw [e]<;>kernel_rfl
 generalize ((if axA s=0 then [(0,1,0),(0,0,1)] else if axA s=1 then [(1,0,0),(0,0,1)] else [(1,0,0),(0,1,0)]:List Sp).map eS)=L at hc hmx
 unfold poV
 simp only [zO,Zw]
 simp_arith [hsp,hc,hmx,hx,q1,wG]
theorem qez {cs sk:List Sp}(hb:∀ c∈cs,BdS 200 c)(e1:zE [.list (cs.map eS)]=some (.list (sk.map eS)))(hm:∀ s,s∈sk↔Sq s/\skB (inM cs) s=true)(hl:sk.length<=60):zJ [.list (cs.map eS),.list (sk.map eS),.list ((sk.map (ouV (inM cs))).map eS)]=some (.bool true):=by
 obtain ⟨ρ',e,o4,rfl⟩:=Qe (λ p:Sp×Nat=>PyData.int (p.2:Nat)) (g:=gNm 4) (u:=(sIf (tN (tV (evC 3 (aC (evC 2 (aC (vr 3) (aC (vr 4) aN)) Z7) (aC (ev2 (vr 1) (vr 4) ixD) (aC (ev2 (vr 2) (vr 4) ixD) aN))) zO))) (sRet (kd (.bool false))) sN))
  (λ done ρ=>∃ o4:Option PyData,ρ=[some (.list (cs.map eS)),some (.list (sk.map eS)),some (.list ((sk.map (ouV (inM cs))).map eS)),some (.list (cs.map eS)),o4]) sk.zipIdx [some (.list (cs.map eS)),some (.list (sk.map eS)),some (.list ((sk.map (ouV (inM cs))).map eS)),some (.list (cs.map eS)),none] ⟨none,rfl⟩ (by
   rintro ⟨s,k⟩ hm2 done ρ hdl ⟨o4,rfl⟩
   obtain ⟨_,hkl,hks⟩:=List.mem_zipIdx hm2
   have hkl:k<sk.length:=by omega
   have hks:s=sk[k]:=by simpa using hks
   have hg:sk[k]?=some s:=by rw [List.getElem?_eq_getElem hkl,hks]
   have hat:atI (sk.map eS) ((k:Nat):Int)=some (eS s):=Zg (Int.natCast_nonneg _) (by rw [Int.toNat_natCast];exact hg)
   have hat2:atI ((sk.map (ouV (inM cs))).map eS) ((k:Nat):Int)=some (eS (ouV (inM cs) s)):=Zg (Int.natCast_nonneg _) (by rw [Int.toNat_natCast,List.getElem?_map,hg];rfl)
   have hp:=qkD hb e1 hm hg
   have hr:=qi7 (inM cs) ((hm s).mp (List.mem_of_getElem? hg)).1
   refine ⟨[some (.list (cs.map eS)),some (.list (sk.map eS)),some (.list ((sk.map (ouV (inM cs))).map eS)),some (.list (cs.map eS)),some (.int (k:Nat))],?_,_,rfl⟩
   simp_arith [hat,hat2,hp,hr])
 have hrng:((List.range (sk.map eS).length).map λ k:Nat=>PyData.int (k:Nat))=sk.zipIdx.map λ p:Sp×Nat=>PyData.int (p.2:Nat):=by
  have h1:sk.zipIdx.map (λ p:Sp×Nat=>PyData.int (p.2:Nat))=(sk.zipIdx.map (·.2)).map λ k:Nat=>PyData.int (k:Nat):=by rw [List.map_map];rfl
  rw [h1,List.zipIdx_map_snd,List.length_map,List.range_eq_range']
 have e5:(if (-1000:Int)<=(((sk.map eS).length:Nat):Int)/\(((sk.map eS).length:Nat):Int)<=1000 then some (rngL 0 ((((sk.map eS).length:Nat):Int)).toNat) else none)=some (sk.zipIdx.map λ p:Sp×Nat=>PyData.int (p.2:Nat)):=by
  rw [if_pos (by rw [List.length_map];omega),Int.toNat_natCast,qcE,hrng]
 have e6:=qjS cs cs
 rw [decide_eq_true rfl] at e6
 simp only [zJ,Q5]
 simp_arith [e5,e,e6]
theorem qg1 {cs sk:List Sp}(hm:∀ s,s∈sk↔Sq s/\skB (inM cs) s=true):∀ s∈sk,Qc [.list (cs.map eS),eS s]=some (eS (ouV (inM cs) s)):=λ s h=>out25 ((hm s).mp h).1
theorem qca (c j:Int)(hj:j=3\/j=4\/j=5\/j=6\/j=7):mulD (.int (c % 1000000007)) (.int j)=some (.int (c % 1000000007*j))/\mulD (.int (c % 1000000007*j)) (.int 48271)=some (.int (c % 1000000007*j*48271)):=by
 have a1:=Int.emod_nonneg c (b:=1000000007) (by decide)
 have a2:=Int.emod_lt_of_pos c (b:=1000000007) (by decide)
 generalize c % 1000000007=r at *
 rcases hj with rfl|rfl|rfl|rfl|rfl<;>exact ⟨zB (Bd.ok (n:=40) (m:=16) (Bd.of (by omega)) (Bd.of (by decide))),zB (Bd.ok (n:=40) (m:=16) (Bd.of (by omega)) (Bd.of (by decide)))⟩
theorem yZ (c k:Int)(hk:k=0\/k=1\/k=2\/k=3\/k=4):∃ v:Int,zT [.int c,.int k]=some (.int v):=by
 have m5:∀ x:Int,mulD (.int (x % 2147483647)) (.int 40692)=some (.int (x % 2147483647*40692)):=λ x=>by
  have a1:=Int.emod_nonneg x (b:=2147483647) (by decide)
  have a2:=Int.emod_lt_of_pos x (b:=2147483647) (by decide)
  exact zB (Bd.ok (n:=40) (m:=16) (Bd.of (by omega)) (Bd.of (by decide)))
 rcases hk with rfl|rfl|rfl|rfl|rfl
 ·obtain ⟨m1,m2⟩:=qca c 3 (by simp)
  have m3:mulD (.int 1) (.int 5)=some (.int 5):=rfl
  have m4:mulD (.int 5) (.int 69621)=some (.int 348105):=rfl
  refine ⟨(c % 1000000007*3*48271+348105) % 2147483647*40692 % 2147483399,?_⟩
  simp only [zT,Qu]
  simp_arith [m1,m2,m3,m4,m5]
 ·obtain ⟨m1,m2⟩:=qca c 4 (by simp)
  have m3:mulD (.int 2) (.int 6)=some (.int 12):=rfl
  have m4:mulD (.int 12) (.int 69621)=some (.int 835452):=rfl
  refine ⟨(c % 1000000007*4*48271+835452) % 2147483647*40692 % 2147483399,?_⟩
  simp only [zT,Qu]
  simp_arith [m1,m2,m3,m4,m5]
 ·obtain ⟨m1,m2⟩:=qca c 5 (by simp)
  have m3:mulD (.int 3) (.int 7)=some (.int 21):=rfl
  have m4:mulD (.int 21) (.int 69621)=some (.int 1462041):=rfl
  refine ⟨(c % 1000000007*5*48271+1462041) % 2147483647*40692 % 2147483399,?_⟩
  simp only [zT,Qu]
  simp_arith [m1,m2,m3,m4,m5]
 ·obtain ⟨m1,m2⟩:=qca c 6 (by simp)
  have m3:mulD (.int 4) (.int 8)=some (.int 32):=rfl
  have m4:mulD (.int 32) (.int 69621)=some (.int 2227872):=rfl
  refine ⟨(c % 1000000007*6*48271+2227872) % 2147483647*40692 % 2147483399,?_⟩
  simp only [zT,Qu]
  simp_arith [m1,m2,m3,m4,m5]
 ·obtain ⟨m1,m2⟩:=qca c 7 (by simp)
  have m3:mulD (.int 5) (.int 9)=some (.int 45):=rfl
  have m4:mulD (.int 45) (.int 69621)=some (.int 3132945):=rfl
  refine ⟨(c % 1000000007*7*48271+3132945) % 2147483647*40692 % 2147483399,?_⟩
  simp only [zT,Qu]
  simp_arith [m1,m2,m3,m4,m5]
theorem qhO (ns:List Int):∃ ms:List Int,QM [.list (ns.map .int)]=some (.list (ms.map .int)):=by
 obtain ⟨ms,em,_⟩:=qjN ns (a:=4) (b:=9)
 have em:sliD (.list (ns.map .int)) (some 4) (some 9)=some (.list (ms.map .int)):=em
 have c0:=cell_eq ns 0 (by decide)
 cases h:QB ns 0 % 2==0 with
 | false =>
  refine ⟨ms,?_⟩
  simp only [QM,Z3]
  simp_arith [em,c0,h]
 | true =>
  have hr:∀ ρ:Rho,(evR (aC (kd (.int 5)) aN) QS) ρ=some [.int 0,.int 1,.int 2,.int 3,.int 4]:=λ _=>rfl
  have c4:=cell_eq ns 4 (by decide)
  have c5:=cell_eq ns 5 (by decide)
  have c6:=cell_eq ns 6 (by decide)
  have c7:=cell_eq ns 7 (by decide)
  have c8:=cell_eq ns 8 (by decide)
  obtain ⟨v0,e0⟩:=yZ (QB ns 4) 0 (by simp)
  obtain ⟨v1,e1⟩:=yZ (QB ns 5) 1 (by simp)
  obtain ⟨v2,e2⟩:=yZ (QB ns 6) 2 (by simp)
  obtain ⟨v3,e3⟩:=yZ (QB ns 7) 3 (by simp)
  obtain ⟨v4,e4⟩:=yZ (QB ns 8) 4 (by simp)
  refine ⟨[v0,v1,v2,v3,v4],?_⟩
  simp only [QM,Z3]
  simp_arith [em,c0,h,hr,c4,c5,c6,c7,c8,e0,e1,e2,e3,e4]
def corn:List Sp:=[(0,0,0),(0,0,1),(1,0,1),(1,1,1),(1,1,0)]
def rot (k:Int)(c:Sp):Sp:=if k % 3=0 then c else if k % 3=1 then (c.2.1,c.2.2,c.1) else (c.2.2,c.1,c.2.1)
def wo (k:Int)(b c:Sp):Sp:=(b.1+(rot k c).1*(1-2*(k / 3 % 2)),b.2.1+(rot k c).2.1*(1-2*(k / 6 % 2)),b.2.2+(rot k c).2.2*(1-2*(k / 12 % 2)))
theorem qc4 {c:Sp}(h:c∈corn):(c.1=0\/c.1=1)/\(c.2.1=0\/c.2.1=1)/\(c.2.2=0\/c.2.2=1):=by
 simp only [corn,List.mem_cons,List.not_mem_nil,or_false] at h
 rcases h with rfl|rfl|rfl|rfl|rfl<;>simp
theorem qay (k:Int){c:Sp}(h:c∈corn):((rot k c).1=0\/(rot k c).1=1)/\((rot k c).2.1=0\/(rot k c).2.1=1)/\((rot k c).2.2=0\/(rot k c).2.2=1):=by
 obtain ⟨h1,h2,h3⟩:=qc4 h
 unfold rot
 split
 ·exact ⟨h1,h2,h3⟩
 ·split
  ·exact ⟨h2,h3,h1⟩
  ·exact ⟨h3,h1,h2⟩
theorem qi9 (k:Int){c d:Sp}(h:rot k c=rot k d):c=d:=by
 obtain ⟨x,y,z⟩:=c
 obtain ⟨u,v,w⟩:=d
 unfold rot at h
 split at h
 ·exact h
 ·split at h<;>simp only [Prod.mk.injEq] at h ⊢<;>obtain ⟨h1,h2,h3⟩:=h<;>exact ⟨by assumption,by assumption,by assumption⟩
theorem qld (k:Int)(b:Sp){c d:Sp}(h:wo k b c=wo k b d):c=d:=by
 refine qi9 k ?_
 unfold wo at h
 simp only [Prod.mk.injEq] at h
 obtain ⟨h1,h2,h3⟩:=h
 have s1:1-2*(k / 3 % 2)=1\/1-2*(k / 3 % 2)=-1:=by omega
 have s2:1-2*(k / 6 % 2)=1\/1-2*(k / 6 % 2)=-1:=by omega
 have s3:1-2*(k / 12 % 2)=1\/1-2*(k / 12 % 2)=-1:=by omega
 generalize rot k c=r1 at *
 generalize rot k d=r2 at *
 obtain ⟨x,y,z⟩:=r1
 obtain ⟨u,v,w⟩:=r2
 dsimp only at h1 h2 h3
 simp only [Prod.mk.injEq]
 rcases s1 with s1|s1<;>rcases s2 with s2|s2<;>rcases s3 with s3|s3<;>rw [s1] at h1<;>rw [s2] at h2<;>rw [s3] at h3<;>exact ⟨by omega,by omega,by omega⟩
theorem qjj (k:Int)(b:Sp){c:Sp}(h:c∈corn):clS b 1 (wo k b c):=by
 obtain ⟨h1,h2,h3⟩:=qay k h
 have s1:1-2*(k / 3 % 2)=1\/1-2*(k / 3 % 2)=-1:=by omega
 have s2:1-2*(k / 6 % 2)=1\/1-2*(k / 6 % 2)=-1:=by omega
 have s3:1-2*(k / 12 % 2)=1\/1-2*(k / 12 % 2)=-1:=by omega
 unfold wo clS
 dsimp only
 generalize (1-2*(k / 3 % 2))=t1 at *
 generalize (1-2*(k / 6 % 2))=t2 at *
 generalize (1-2*(k / 12 % 2))=t3 at *
 refine ⟨?_,?_,?_⟩
 ·rcases h1 with h|h<;>rcases s1 with rfl|rfl<;>rw [h]<;>omega
 ·rcases h2 with h|h<;>rcases s2 with rfl|rfl<;>rw [h]<;>omega
 ·rcases h3 with h|h<;>rcases s3 with rfl|rfl<;>rw [h]<;>omega
def Wd (b:Sp)(cs:List Sp):Prop:=cs.Nodup/\cs≠[]/\∀ c∈cs,clS b (cs.length+1) c
theorem qjk (ms:List Int)(b:Sp){k:Int}(hk:0<k):∃ cs gs:List Sp,zL [.list (ms.map .int),.list [.int b.1,.int b.2.1,.int b.2.2],.int k]=some (.list (cs.map eS))/\Wd b gs/\gs.length<=6/\cs.Perm gs:=by
 have hr:∀ ρ:Rho,(evR (aC (kd (.int 3)) aN) QS) ρ=some [.int 0,.int 1,.int 2]:=λ _=>rfl
 obtain ⟨ρ',e,o4,o5,o6,rfl⟩:=Qe eS (g:=gNm 4) (u:=(seqO (qY 5 (evA (aC (ev2 (vr 4) (ev2 (vr 2) (kd (.int 3)) modD) ixD) (aC (ev2 (vr 4) (ev2 (ev2 (vr 2) (kd (.int 1)) qJ) (kd (.int 3)) modD) ixD) (aC (ev2 (vr 4) (ev2 (ev2 (vr 2) (kd (.int 2)) qJ) (kd (.int 3)) modD) ixD) aN))) lstD)) (seqO (sFor (evR (aC (kd (.int 3)) aN) QS) (gNm 6) (sPut 5 (vr 6) (qP (ev2 (ev2 (vr 1) (vr 6) ixD) (ev2 (ev2 (vr 5) (vr 6) ixD) (ev2 (kd (.int 1)) (ev2 (kd (.int 2)) (ev2 (ev2 (vr 2) (ev2 (evA (aC (kd (.int 3)) (aC (kd (.int 6)) (aC (kd (.int 12)) aN))) tupD) (vr 6) ixD) QT) (kd (.int 2)) modD) mulD) subD) mulD) qJ)))) (sApp 3 (qP (evA (aC (vr 5) aN) zc))))))
  (λ done ρ=>∃ o4 o5 o6:Option PyData,ρ=[some (.list (ms.map .int)),some (.list [.int b.1,.int b.2.1,.int b.2.2]),some (.int k),some (.list ((done.map (wo k b)).map eS)),o4,o5,o6,none,none,none]) corn [some (.list (ms.map .int)),some (.list [.int b.1,.int b.2.1,.int b.2.2]),some (.int k),some (.list []),none,none,none,none,none,none] ⟨none,none,none,rfl⟩ (by
   rintro c hc done ρ hdl ⟨o4,o5,o6,rfl⟩
   have hdl:done.length<5:=hdl
   have hz:((done.map (wo k b)).map eS).length<1000:=by rw [List.length_map,List.length_map];omega
   have n1:mulD (.int 2) (.int (k / 3 % 2))=some (.int (2*(k / 3 % 2))):=zB (bd2.ok (Bd.of (n:=2) (by omega)))
   have n2:mulD (.int 2) (.int (k / 6 % 2))=some (.int (2*(k / 6 % 2))):=zB (bd2.ok (Bd.of (n:=2) (by omega)))
   have n3:mulD (.int 2) (.int (k / 12 % 2))=some (.int (2*(k / 12 % 2))):=zB (bd2.ok (Bd.of (n:=2) (by omega)))
   obtain ⟨h1,h2,h3⟩:=qay k hc
   have m1:mulD (.int (rot k c).1) (.int (1-2*(k / 3 % 2)))=some (.int ((rot k c).1*(1-2*(k / 3 % 2)))):=zB (Bd.ok (n:=2) (m:=2) (Bd.of (by omega)) (Bd.of (by omega)))
   have m2:mulD (.int (rot k c).2.1) (.int (1-2*(k / 6 % 2)))=some (.int ((rot k c).2.1*(1-2*(k / 6 % 2)))):=zB (Bd.ok (n:=2) (m:=2) (Bd.of (by omega)) (Bd.of (by omega)))
   have m3:mulD (.int (rot k c).2.2) (.int (1-2*(k / 12 % 2)))=some (.int ((rot k c).2.2*(1-2*(k / 12 % 2)))):=zB (Bd.ok (n:=2) (m:=2) (Bd.of (by omega)) (Bd.of (by omega)))
   have ha:((done++[c]).map (wo k b)).map eS=(done.map (wo k b)).map eS++[eS (wo k b c)]:=by
    rw [List.map_append,List.map_append];rfl
   refine ⟨[some (.list (ms.map .int)),some (.list [.int b.1,.int b.2.1,.int b.2.2]),some (.int k),some (.list (((done++[c]).map (wo k b)).map eS)),some (eS c),some (.list [.int (wo k b c).1,.int (wo k b c).2.1,.int (wo k b c).2.2]),some (.int 2),none,none,none],?_,_,_,_,rfl⟩
   rw [ha]
   generalize (done.map (wo k b)).map eS=L at hz
   obtain ⟨x,y,z⟩:=c
   simp only [eS,wo]
   rcases qjo k with h|h|h
   ·have hb1:(k+1) % 3=1:=by omega
    have hb2:(k+2) % 3=2:=by omega
    have hrt:rot k (x,y,z)=(x,y,z):=by unfold rot;rw [if_pos h]
    rw [hrt] at m1 m2 m3 ⊢
    dsimp only at m1 m2 m3 ⊢
    simp_arith [h,hb1,hb2,hr,ix0,ix1,ix2,n1,n2,n3,m1,m2,m3,zU,Zm,hz]
   ·have hb1:(k+1) % 3=2:=by omega
    have hb2:(k+2) % 3=0:=by omega
    have hrt:rot k (x,y,z)=(y,z,x):=by unfold rot;rw [if_neg (by omega),if_pos h]
    rw [hrt] at m1 m2 m3 ⊢
    dsimp only at m1 m2 m3 ⊢
    simp_arith [h,hb1,hb2,hr,ix0,ix1,ix2,n1,n2,n3,m1,m2,m3,zU,Zm,hz]
   ·have hb1:(k+1) % 3=0:=by omega
    have hb2:(k+2) % 3=1:=by omega
    have hrt:rot k (x,y,z)=(z,x,y):=by unfold rot;rw [if_neg (by omega),if_neg (by omega)]
    rw [hrt] at m1 m2 m3 ⊢
    dsimp only at m1 m2 m3 ⊢
    simp_arith [h,hb1,hb2,hr,ix0,ix1,ix2,n1,n2,n3,m1,m2,m3,zU,Zm,hz])
 have hw:Wd b (corn.map (wo k b)):=⟨Yz (λ _ _=>qld k b) (by decide),by simp [corn],λ d hd=>by
  obtain ⟨c,hc,rfl⟩:=List.mem_map.mp hd
  obtain ⟨a1,a2,a3⟩:=qjj k b hc
  exact ⟨by omega,by omega,by omega⟩⟩
 obtain ⟨gs,o7,o8,o9,e2,h1,h2⟩:=qdQ (Wd b) (λ cs h=>h.2.1) (λ cs c a s h hc ha hs hn=>by
  obtain ⟨g1,g2,g3⟩:=h
  refine ⟨?_,by simp,λ d hd=>?_⟩
  ·rw [List.nodup_append]
   exact ⟨g1,by simp,λ a ha y hy z=>by subst z;rw [List.mem_singleton.mp hy] at ha;exact hn ha⟩
  ·rw [List.length_append,List.length_singleton]
   rcases List.mem_append.mp hd with q|q
   ·obtain ⟨a1,a2,a3⟩:=g3 d q;exact ⟨by omega,by omega,by omega⟩
   ·rw [List.mem_singleton.mp q]
    obtain ⟨a1,a2,a3⟩:=g3 _ hc
    rcases ha with rfl|rfl|rfl<;>refine ⟨?_,?_,?_⟩<;>simp only [oth]<;>omega) ms (some (.list (ms.map .int))) (some (.list [.int b.1,.int b.2.1,.int b.2.2])) (some (.int k)) o4 o5 o6 (cs0:=corn.map (wo k b)) hw (by rw [List.length_map];decide)
 obtain ⟨cs,es,p,_⟩:=ZL (xs:=gs) (by omega)
 refine ⟨cs,gs,?_,h1,h2,p⟩
 have e:forD (gNm 4) (seqO (qY 5 (evA (aC (ev2 (vr 4) (ev2 (vr 2) (kd (.int 3)) modD) ixD) (aC (ev2 (vr 4) (ev2 (ev2 (vr 2) (kd (.int 1)) qJ) (kd (.int 3)) modD) ixD) (aC (ev2 (vr 4) (ev2 (ev2 (vr 2) (kd (.int 2)) qJ) (kd (.int 3)) modD) ixD) aN))) lstD)) (seqO (sFor (evR (aC (kd (.int 3)) aN) QS) (gNm 6) (sPut 5 (vr 6) (qP (ev2 (ev2 (vr 1) (vr 6) ixD) (ev2 (ev2 (vr 5) (vr 6) ixD) (ev2 (kd (.int 1)) (ev2 (kd (.int 2)) (ev2 (ev2 (vr 2) (ev2 (evA (aC (kd (.int 3)) (aC (kd (.int 6)) (aC (kd (.int 12)) aN))) tupD) (vr 6) ixD) QT) (kd (.int 2)) modD) mulD) subD) mulD) qJ)))) (sApp 3 (qP (evA (aC (vr 5) aN) zc))))) [.tuple [.int 0,.int 0,.int 0],.tuple [.int 0,.int 0,.int 1],.tuple [.int 1,.int 0,.int 1],.tuple [.int 1,.int 1,.int 1],.tuple [.int 1,.int 1,.int 0]] [some (.list (ms.map .int)),some (.list [.int b.1,.int b.2.1,.int b.2.2]),some (.int k),some (.list []),none,none,none,none,none,none]=some (.nx [some (.list (ms.map .int)),some (.list [.int b.1,.int b.2.1,.int b.2.2]),some (.int k),some (.list ((corn.map (wo k b)).map eS)),o4,o5,o6,none,none,none]):=e
 have hk1:decide ((0:Int)<k)=true:=decide_eq_true hk
 generalize (corn.map (wo k b)).map eS=L at e e2
 simp only [zL,Z6]
 simp_arith [hk1,e,e2,es]
theorem wnd25 {b:Sp}{cs gs:List Sp}(hb:qcb (10 ^ 19) b)(h:Wd b gs)(hl:gs.length<=6)(p:cs.Perm gs):(∀ c∈cs,BdS 200 c)/\∃ sk:List Sp,zE [.list (cs.map eS)]=some (.list (sk.map eS))/\zu [.list (cs.map eS)]=some (.list (sk.map eS))/\sk.length<=36/\∀ s,s∈sk↔Sq s/\skB (inM cs) s=true:=by
 have hbd:∀ c∈cs,BdS 200 c:=λ c hc=>by
  obtain ⟨a1,a2,a3⟩:=h.2.2 c (p.mem_iff.mp hc)
  obtain ⟨b1,b2,b3⟩:=hb
  exact qer (n:=10 ^ 19+7) ⟨by omega,by omega,by omega⟩ (by decide)
 obtain ⟨sk,k1,k2,k3,k4,k5,k6⟩:=qeI hbd (by rw [p.length_eq];exact hl) (p.nodup_iff.mpr h.1)
 exact ⟨hbd,sk,k1,k2,k5,k6⟩
theorem qjO (ns:List Int)(k:Nat):∃ ms:List Int,sliD (.list (ns.map .int)) none (some (k:Int))=some (.list (ms.map .int)):=by
 refine ⟨(ns.drop (HT.sIx (ns.map PyData.int).length 0 none)).take (HT.sIx (ns.map PyData.int).length (ns.map PyData.int).length (some (k:Int))-HT.sIx (ns.map PyData.int).length 0 none),?_⟩
 show some (PyData.list (cutD (ns.map .int) none (some (k:Int))))=_
 unfold cutD
 rw [← List.map_drop,← List.map_take]
theorem qiV (ns:List Int){b:Sp}(hb:qcb (10 ^ 19) b):∃ cs sk:List Sp,QQ [.list (ns.map .int),.list [.int b.1,.int b.2.1,.int b.2.2]]=some (.list (cs.map eS))/\Pl cs sk:=by
 have hrg:qeE [.int 5,.int 0,.int (-1)]=some (([5,4,3,2,1]:List Nat).map λ k=>PyData.int (k:Nat)):=rfl
 have lp:=qd9 (λ k:Nat=>PyData.int (k:Nat)) (g:=gNm 2) (u:=(seqO (sSet 3 (evC 3 (aC (evS (vr 0) oN (oS (vr 2))) (aC (vr 1) (aC (kd (.int 0)) aN))) zL)) (seqO (sSet 4 (evC 1 (aC (evC 1 (aC (vr 3) aN) zu) aN) QF)) (sIf (tV (ev2 (evA (aC (zG 5 (evI (vr 4) Jc) (tV (ev2 (evA (aC (ev2 (vr 4) (vr 5) ix2D) aN) lenD) (kd (.int 2)) gtD)) (vr 5)) aN) lenD) (kd (.int 0)) eqD)) (sRet (vr 3)) sN))))
  (λ ρ=>∃ o2 o3 o4:Option PyData,ρ=[some (.list (ns.map .int)),some (.list [.int b.1,.int b.2.1,.int b.2.2]),o2,o3,o4])
  (λ d=>∃ cs sk:List Sp,d=.list (cs.map eS)/\Pl cs sk) [5,4,3,2,1] [some (.list (ns.map .int)),some (.list [.int b.1,.int b.2.1,.int b.2.2]),none,none,none] ⟨none,none,none,rfl⟩ (by
   rintro k _ ρ ⟨o2,o3,o4,rfl⟩
   obtain ⟨ms,em⟩:=qjO ns k
   obtain ⟨cs,gs,esd,hg,hl,hp⟩:=qje ms b
   obtain ⟨hbd,sk,k1,k2,k3,k4,k5,k6,k7⟩:=qee hb hg hl hp
   have hs:∀ s∈sk,Sq s:=λ s h=>((k6 s).mp h).1
   have hmet:=qjv hs (by omega)
   have hcl:=qhP k4 hs
   have hky:(metF sk.zipIdx).map (·.1)=once (EG sk):=JS sk
   generalize metF sk.zipIdx=kvs at hmet hcl hky
   have hkeys:=qek kvs
   have hcp:∀ o2 o3:Option PyData,Qa (tV (ev2 (evA (aC (ev2 (vr 4) (vr 5) ix2D) aN) lenD) (kd (.int 2)) gtD)) (vr 5) [some (.list (ns.map .int)),some (.list [.int b.1,.int b.2.1,.int b.2.2]),o2,o3,some (.dict (eM kvs))] (kvs.map λ p=>eS p.1)=some ((kvs.filter λ p=>decide ((2:Int)<(((lstM kvs p.1).length:Nat):Int))).map λ p=>eS p.1):=λ o2 o3=>by
    refine ZC (λ p:Mt=>eS p.1) (λ p=>decide ((2:Int)<(((lstM kvs p.1).length:Nat):Int))) (λ p=>eS p.1) kvs (λ p hp=>?_) λ p hp _=>by simp_arith []
    have hi:=qjr (List.mem_map.mpr ⟨p,hp,rfl⟩)
    have hle:lenD [eNs (lstM kvs p.1)]=some (.int ((lstM kvs p.1).length:Nat)):=by
     show some (PyData.int ((((lstM kvs p.1).map λ k=>PyData.int (k:Nat)).length:Nat):Int))=_
     rw [List.length_map]
    simp_arith [hi,hle]
   have hz:(kvs.map λ p=>eS p.1).length<=1000:=by
    have h1:=congrArg List.length hky
    have h3:(once (EG sk)).length<=(EG sk).length:=by
     have h:=twice_len (once (EG sk)) (EG sk++EG sk) (ZJ _) λ t ht=>by
      have:=List.count_pos_iff.mpr (Qw.mp ht)
      rw [List.count_append]
      omega
     rw [List.length_append] at h
     omega
    have h4:=qaH sk
    rw [List.length_map] at h1 ⊢
    omega
   generalize hf:(kvs.filter λ p=>decide ((2:Int)<(((lstM kvs p.1).length:Nat):Int)))=fl at hcp
   cases fl with
   | nil =>
    refine .inr ⟨.list (cs.map eS),?_,cs,sk,rfl,hbd,k1,k2,k3,k4,k5,k6,λ e=>?_,k7⟩
    ·have hcp:∀ o2 o3:Option PyData,Qa (tV (ev2 (evA (aC (ev2 (vr 4) (vr 5) ix2D) aN) lenD) (kd (.int 2)) gtD)) (vr 5) [some (.list (ns.map .int)),some (.list [.int b.1,.int b.2.1,.int b.2.2]),o2,o3,some (.dict (eM kvs))] (kvs.map λ p=>eS p.1)=some []:=hcp
     simp_arith [em,esd,k2,hmet,hkeys,hcp,hz]
    ·by_cases he:e∈EG sk
     ·obtain ⟨p,hp,rfl⟩:=List.mem_map.mp (show e∈kvs.map (·.1) from hky ▸ Qw.mpr he)
      have:=List.filter_eq_nil_iff.mp hf p hp
      rw [decide_eq_true_eq] at this
      rw [hcl]
      omega
     ·rw [List.count_eq_zero.mpr he]
      exact Nat.zero_le _
   | cons q fl =>
    refine .inl ⟨[some (.list (ns.map .int)),some (.list [.int b.1,.int b.2.1,.int b.2.2]),some (.int (k:Nat)),some (.list (cs.map eS)),some (.dict (eM kvs))],?_,_,_,_,rfl⟩
    have hne:(((((q::fl).map λ p:Mt=>eS p.1).length:Nat):Int)==0)=false:=beq_eq_false_iff_ne.mpr (by rw [List.length_map,List.length_cons];omega)
    generalize (q::fl).map (λ p:Mt=>eS p.1)=L at hcp hne
    simp_arith [em,esd,k2,hmet,hkeys,hcp,hz,hne])
 generalize ([5,4,3,2,1]:List Nat).map (λ k=>PyData.int (k:Nat))=RL at hrg lp
 rcases lp with ⟨ρ',e,o2,o3,o4,rfl⟩|⟨d,e,cs,sk,rfl,hP⟩
 ·obtain ⟨hbd,sk,k1,k2,k3,k4,k5,k6,k7⟩:=qee hb (GrC.one (b:=b)) (by simp) (List.Perm.refl _)
  refine ⟨[b],sk,?_,hbd,k1,k2,k3,k4,k5,k6,λ e=>?_,k7⟩
  ·simp only [QQ,Z5]
   simp_arith [hrg,e,eS]
  ·by_cases he:e∈EG sk
   ·obtain ⟨s,hs,hes⟩:=List.mem_flatMap.mp he
    obtain ⟨B,hB⟩:=qge ((k6 s).mp hs).1 hes
    have hat:=qdP k3 k4 k6 hB
    have hc:(EG sk).count e=_:=yI (λ s h=>((k6 s).mp h).1) e
    rw [hc,hat]
    rcases W7 (inM [b]) hB with z|z|⟨s0,s1,z,_⟩
    ·rw [z];exact Nat.zero_le _
    ·obtain ⟨m,n,hne,h1,h2⟩:=qgp _ hB z
     unfold inM at h1 h2
     simp only [List.map_cons,List.map_nil,List.mem_singleton,decide_eq_true_eq] at h1 h2
     exact absurd (h1.trans h2.symm) hne
    ·rw [z];exact Nat.le_refl 2
   ·rw [List.count_eq_zero.mpr he]
    exact Nat.zero_le _
 ·refine ⟨cs,sk,?_,hP⟩
  simp only [QQ,Z5]
  simp_arith [hrg,e]
def sml (v:Sp):Prop:=v.1.natAbs<=1/\v.2.1.natAbs<=1/\v.2.2.natAbs<=1
theorem qem {s o e t p:Sp}{b:Int}(h:Lead s o e b t p)(hw:sml (sb e s))(ho:sml o):zA [eS s,eS o,eS e,.int b,eS t,eS p]=some (.bool true):=by
 rcases h with ⟨rfl,h1,h2⟩|⟨hb,h1,h2⟩
 ·have e1:eqD (eS (ad e (sb e s))) (eS t)=some (.bool true):=by rw [jW,decide_eq_true h1]
  have e2:eqD (eS o) (eS p)=some (.bool true):=by rw [jW,decide_eq_true h2]
  simp only [eS,ad,sb] at e1 e2
  simp only [zA,Z4,eS]
  simp_arith [e1,e2]
 ·have hb0:(b==0)=false:=beq_eq_false_iff_ne.mpr (by omega)
  have e1:eqD (eS (ad e (mu b o))) (eS t)=some (.bool true):=by rw [jW,decide_eq_true h1]
  have e2:eqD (eS (mu (-b) (sb e s))) (eS p)=some (.bool true):=by rw [jW,decide_eq_true h2]
  have hbB:Bd 2 b:=Bd.of (by omega)
  have hbN:Bd 2 (-b):=Bd.of (by omega)
  obtain ⟨o1,o2,o3⟩:=ho
  obtain ⟨w1,w2,w3⟩:=hw
  simp only [sb] at w1 w2 w3
  have m1:mulD (.int b) (.int o.1)=some (.int (b*o.1)):=zB (hbB.ok (Bd.of (n:=2) (by omega)))
  have m2:mulD (.int b) (.int o.2.1)=some (.int (b*o.2.1)):=zB (hbB.ok (Bd.of (n:=2) (by omega)))
  have m3:mulD (.int b) (.int o.2.2)=some (.int (b*o.2.2)):=zB (hbB.ok (Bd.of (n:=2) (by omega)))
  have n1:mulD (.int (-b)) (.int (e.1-s.1))=some (.int (-b*(e.1-s.1))):=zB (hbN.ok (Bd.of (n:=2) (by omega)))
  have n2:mulD (.int (-b)) (.int (e.2.1-s.2.1))=some (.int (-b*(e.2.1-s.2.1))):=zB (hbN.ok (Bd.of (n:=2) (by omega)))
  have n3:mulD (.int (-b)) (.int (e.2.2-s.2.2))=some (.int (-b*(e.2.2-s.2.2))):=zB (hbN.ok (Bd.of (n:=2) (by omega)))
  simp only [eS,ad,sb,mu] at e1 e2
  simp only [zA,Z4,eS]
  simp_arith [hb0,m1,m2,m3,n1,n2,n3,e1,e2]
theorem d0 {a b:Int}(h:a=b):(a-b).natAbs<=1:=by omega
theorem d1 {a b:Int}(h:a=b-1\/a=b+1):(a-b).natAbs<=1:=by omega
theorem qcH {s e:Sp}(hs:Sq s)(he:e∈ar (axA s) s):sml (sb e s):=by
 rcases zR hs with ⟨k,_⟩|⟨k,_⟩|⟨k,_⟩<;>rw [k] at he
 ·obtain ⟨p,⟨q,r⟩|⟨q,r⟩⟩:=Zn.mp he
  ·exact ⟨d0 p,d1 r,d0 q⟩
  ·exact ⟨d0 p,d0 q,d1 r⟩
 ·obtain ⟨p,⟨q,r⟩|⟨q,r⟩⟩:=Zo.mp he
  ·exact ⟨d1 r,d0 p,d0 q⟩
  ·exact ⟨d0 q,d0 p,d1 r⟩
 ·obtain ⟨p,⟨q,r⟩|⟨q,r⟩⟩:=Zq.mp he
  ·exact ⟨d1 r,d0 q,d0 p⟩
  ·exact ⟨d0 q,d1 r,d0 p⟩
theorem qcl (I:Sp->Bool){s:Sp}(hs:Sq s):sml (ouV I s):=by
 rcases Yd I hs with ⟨_,⟨g,_⟩|⟨g,_⟩⟩|⟨_,⟨g,_⟩|⟨g,_⟩⟩|⟨_,⟨g,_⟩|⟨g,_⟩⟩<;>rw [g]<;>unfold sml<;>decide
theorem qc3:∀ xs:List Nat,PyData.canLayAll0 (xs.map λ k=>PyData.int (k:Nat))=true/\PyData.depthAll (xs.map λ k=>PyData.int (k:Nat))=0
 | []=>⟨rfl,rfl⟩
 | x::xs=>⟨(qc3 xs).1,by
   have:PyData.depthAll ((x::xs).map λ k=>PyData.int (k:Nat))=max 0 (PyData.depthAll (xs.map λ k=>PyData.int (k:Nat))):=rfl
   rw [this,(qc3 xs).2];rfl⟩
theorem qaB (xs:List Nat):SeqAt.shaped (eNs xs)=true:=by
 have h:=qc3 xs
 have h2:PyData.depth (eNs xs)=PyData.depthAll (xs.map λ k=>PyData.int (k:Nat))+1:=rfl
 unfold SeqAt.shaped
 rw [h2,Bool.and_eq_true]
 exact ⟨h.1,decide_eq_true (by omega)⟩
theorem qgi:∀ xs ys:List Nat,PyData.eqv (eNs xs) (eNs ys)=decide (xs=ys)
 | [],[]=>rfl
 | [],_::_=>rfl
 | _::_,[]=>rfl
 | x::xs,y::ys=>by
  have:PyData.eqv (eNs (x::xs)) (eNs (y::ys))=(((x:Int)==(y:Int))&&PyData.eqv (eNs xs) (eNs ys)):=rfl
  rw [this,qgi xs ys,Bool.eq_iff_iff]
  simp
  intro _
  omega
theorem qgh (xs ys:List Nat):eqD (eNs xs) (eNs ys)=some (.bool (decide (xs=ys))):=by
 unfold eqD
 rw [if_pos ⟨qaB _,qaB _⟩,qgi]
theorem yU:∀ {sk:List Sp} {s t:Sp},s∈sk->t∈sk->sk.idxOf s=sk.idxOf t->s=t
 | [],_,_,h,_,_=>by cases h
 | x::r,s,t,hs,ht,e=>by
  by_cases h1:x=s
  ·by_cases h2:x=t
   ·exact h1.symm.trans h2
   ·rw [Jq h2,h1,List.idxOf_cons_self] at e;omega
  ·by_cases h2:x=t
   ·rw [Jq h1,h2,List.idxOf_cons_self] at e;omega
   ·rw [Jq h1,Jq h2] at e
    refine yU ?_ ?_ (Nat.succ.inj e)
    ·rcases List.mem_cons.mp hs with z|z
     ·exact absurd z.symm h1
     ·exact z
    ·rcases List.mem_cons.mp ht with z|z
     ·exact absurd z.symm h2
     ·exact z
theorem qaV:∀ {sk:List Sp} {s:Sp},s∈sk->sk.idxOf s<sk.length/\sk[sk.idxOf s]?=some s
 | [],_,h=>by cases h
 | x::r,s,h=>by
  by_cases h1:x=s
  ·subst h1
   rw [List.idxOf_cons_self]
   exact ⟨by rw [List.length_cons];omega,rfl⟩
  ·rw [Jq h1]
   have hm:s∈r:=by
    rcases List.mem_cons.mp h with z|z
    ·exact absurd z.symm h1
    ·exact z
   obtain ⟨a,b⟩:=qaV hm
   exact ⟨by rw [List.length_cons];omega,by rw [List.getElem?_cons_succ];exact b⟩
theorem qc8 {α:Type}[DecidableEq α]{p:α->Bool}{a:α}{l:List α}(hn:l.Nodup)(ha:a∈l)(hp:p a=true)(h:∀ b∈l,p b=true->b=a):l.filter p=[a]:=by
 refine List.perm_singleton.mp (ZK (hn.filter _) (by simp) λ x=>?_)
 rw [List.mem_filter,List.mem_singleton]
 exact ⟨λ z=>h x z.1 z.2,λ z=>by rw [z];exact ⟨ha,hp⟩⟩
theorem qcd {α β:Type}{f:α->β}:∀ {l:List α},(l.map f).Nodup->l.Nodup
 | [],_=>List.nodup_nil
 | a::l,h=>by
  rw [List.map_cons,List.nodup_cons] at h
  exact List.nodup_cons.mpr ⟨λ z=>h.1 (List.mem_map.mpr ⟨a,z,rfl⟩),qcd h.2⟩
theorem qfY {cs sk:List Sp}(P:Pl cs sk){e s0 s1:Sp}(he:e∈EG sk)(hf:sk.filter (λ s=>decide (e∈ar (axA s) s))=[s0,s1]):((metF sk.zipIdx).filter λ p=>decide (lstM (metF sk.zipIdx) p.1=[sk.idxOf s0,sk.idxOf s1])).map (λ p=>eS p.1)=[eS e]:=by
 have hs:∀ s∈sk,Sq s:=λ s h=>((P.hm s).mp h).1
 have hl:lstM (metF sk.zipIdx) e=[sk.idxOf s0,sk.idxOf s1]:=by rw [Wn P.hn hs,hf];rfl
 have hk:=JS sk
 have hnd:=qin sk
 obtain ⟨p0,hp0,e0⟩:=List.mem_map.mp (show e∈(metF sk.zipIdx).map (·.1) by rw [hk];exact Qw.mpr he)
 have m0:=List.mem_filter.mp (show s0∈sk.filter (λ s=>decide (e∈ar (axA s) s)) by rw [hf];exact List.mem_cons_self)
 have m1:=List.mem_filter.mp (show s1∈sk.filter (λ s=>decide (e∈ar (axA s) s)) by rw [hf];exact List.mem_cons_of_mem _ List.mem_cons_self)
 have hne:s0≠s1:=λ z=>by
  have:=qdc P.hn hf
  rw [z] at this
  omega
 have hone:(metF sk.zipIdx).filter (λ p=>decide (lstM (metF sk.zipIdx) p.1=[sk.idxOf s0,sk.idxOf s1]))=[p0]:=by
  refine qc8 (qcd hnd) hp0 (by rw [e0];exact decide_eq_true hl) λ p hp hd=>?_
  have hd:=of_decide_eq_true hd
  have hpe:p.1∈EG sk:=Qw.mp (hk ▸ List.mem_map.mpr ⟨p,hp,rfl⟩)
  obtain ⟨B,t0,t1,_,_,hf2,_,k0,k1⟩:=jB P hpe
  have hd2:=hd
  rw [Wn P.hn hs,hf2] at hd2
  simp only [List.map_cons,List.map_nil,List.cons.injEq,and_true] at hd2
  have q0:=yU k0 m0.1 hd2.1
  have q1:=yU k1 m1.1 hd2.2
  subst q0 q1
  have n0:=List.mem_filter.mp (show t0∈sk.filter (λ s=>decide (p.1∈ar (axA s) s)) by rw [hf2];exact List.mem_cons_self)
  have n1:=List.mem_filter.mp (show t1∈sk.filter (λ s=>decide (p.1∈ar (axA s) s)) by rw [hf2];exact List.mem_cons_of_mem _ List.mem_cons_self)
  have he2:e=p.1:=qfF (hs _ k0) (hs _ k1) hne (of_decide_eq_true m0.2) (of_decide_eq_true m1.2) (of_decide_eq_true n0.2) (of_decide_eq_true n1.2)
  have l0:=qgR hnd hp0
  have l1:=qgR hnd hp
  have x1:p.1=p0.1:=he2.symm.trans e0.symm
  exact Prod.ext x1 (by rw [← l1,← l0,x1])
 rw [hone]
 simp [e0]
def cv (done:List Sp)(k:Nat):Int:=((done.countP λ z=>decide (z.1=(k:Int)\/z.2.1=(k:Int)):Nat):Int)
def mny (n:Nat)(done:List Sp):List Int:=(List.range n).map (cv done)
theorem Zr (n:Nat)(done:List Sp):(mny n done).length=n:=by unfold mny;rw [List.length_map,List.length_range]
theorem qcI {xs:List Int}{i:Nat}(h:i<xs.length)(v:Int):setD (.list (xs.map .int)) (.int (i:Nat)) (.int v)=some (.list ((xs.set i v).map .int)):=by
 show ob (ixN (xs.map PyData.int).length (i:Nat)) (λ j=>some (PyData.list ((xs.map PyData.int).set j (.int v))))=_
 have:ixN (xs.map PyData.int).length ((i:Nat):Int)=some i:=by
  unfold ixN
  rw [if_pos (Int.natCast_nonneg _),List.length_map,if_pos (by omega),Int.toNat_natCast]
 rw [this,ob_s,List.map_set]
theorem qiw {n i j:Nat}{b:Int}(done:List Sp)(hi:i<n)(hj:j<n)(hij:i<j):((mny n done).set i (cv done i+1)).set j (cv done j+1)=mny n (done++[((i:Int),(j:Int),b)]):=by
 refine List.ext_getElem (by rw [List.length_set,List.length_set,Zr,Zr]) λ k h1 h2=>?_
 rw [Zr] at h2
 have hc:cv (done++[((i:Int),(j:Int),b)]) k=cv done k+if i=k\/j=k then 1 else 0:=by
  unfold cv
  rw [List.countP_append,List.countP_singleton]
  simp only [decide_eq_true_eq,Int.natCast_inj]
  split<;>simp
 have e1:(mny n (done++[((i:Int),(j:Int),b)]))[k]'(by rw [Zr];exact h2)=cv (done++[((i:Int),(j:Int),b)]) k:=by unfold mny;rw [List.getElem_map,List.getElem_range]
 rw [e1,hc,List.getElem_set,List.getElem_set]
 have e2:(mny n done)[k]'(by rw [Zr];exact h2)=cv done k:=by unfold mny;rw [List.getElem_map,List.getElem_range]
 by_cases a:j=k
 ·subst a;rw [if_pos rfl,if_pos (.inr rfl)]
 ·rw [if_neg a]
  by_cases c:i=k
  ·subst c;rw [if_pos rfl,if_pos (.inl rfl)]
  ·rw [if_neg c,e2,if_neg (by omega)]
   omega
theorem qiv {cs sk zs:List Sp}(P:Pl cs sk)(hz:zs.Perm ((once (EG sk)).map (jn (inM cs) sk))):mny sk.length zs=sk.map λ _=>4:=by
 refine List.ext_getElem (by rw [Zr,List.length_map]) λ k h1 h2=>?_
 rw [Zr] at h1
 have hs:∀ s∈sk,Sq s:=λ s h=>((P.hm s).mp h).1
 have e2:(mny sk.length zs)[k]'(by rw [Zr];exact h1)=cv zs k:=by unfold mny;rw [List.getElem_map,List.getElem_range]
 rw [e2,List.getElem_map]
 unfold cv
 rw [hz.countP_eq,List.countP_map]
 have hm:sk[k]∈sk:=List.getElem_mem h1
 have h4:=qda hm (hs _ hm)
 have hk:sk.idxOf sk[k]=k:=by
  have a:=qaV hm
  have b:sk[k]?=some sk[k]:=List.getElem?_eq_getElem h1
  exact (List.getElem?_inj a.1 P.hn).mp (a.2.trans b.symm)
 have hcong:(once (EG sk)).countP ((λ z:Sp=>decide (z.1=(k:Int)\/z.2.1=(k:Int))) ∘ jn (inM cs) sk)=(once (EG sk)).countP (λ e=>decide (e∈ar (axA sk[k]) sk[k])):=by
  refine List.countP_congr λ e he=>?_
  obtain ⟨B,s0,s1,_,_,hf2,_,m0,m1⟩:=jB P (Qw.mp he)
  simp only [Function.comp,qdg hf2,decide_eq_true_eq,Int.natCast_inj]
  have hin:sk[k]∈sk.filter (λ s=>decide (e∈ar (axA s) s))↔e∈ar (axA sk[k]) sk[k]:=by
   rw [List.mem_filter,decide_eq_true_eq]
   exact ⟨λ z=>z.2,λ z=>⟨hm,z⟩⟩
  rw [← hin,hf2,List.mem_cons,List.mem_singleton]
  constructor
  ·rintro (q|q)
   ·exact .inl (yU hm m0 (hk.trans q.symm))
   ·exact .inr (yU hm m1 (hk.trans q.symm))
  ·rintro (q|q)
   ·exact .inl (by rw [← q];exact hk)
   ·exact .inr (by rw [← q];exact hk)
 rw [hcong]
 have h4:(once (EG sk)).countP (λ e=>decide (e∈ar (axA sk[k]) sk[k]))=4:=h4
 rw [h4]
 rfl
theorem qkd {cs sk zs:List Sp}(P:Pl cs sk)(hz:zs.Perm ((once (EG sk)).map (jn (inM cs) sk)))(o0 o1 o2 o3 o4 o5 o8:Option PyData) :
  ∃ o12 o13 o14 o15:Option PyData,forD (unpD 3 (gsC (gNm 12) (gsC (gNm 13) (gsC (gNm 14) gsN)))) (seqO (sIf (tO (tN (tV (Y0 (kd (.int 0)) (vr 12) (vr 13) (evA (aC (vr 6) aN) lenD) leD ltD2 ltD2))) (tV (ev2 (vr 14) (evA (aC (ev1 (kd (.int 1)) negD) (aC (kd (.int 0)) (aC (kd (.int 1)) aN))) tupD) ninD))) (sRet (kd (.bool false))) sN) (seqO (qY 15 (zG 16 (evI (vr 9) Jc) (tV (ev2 (ev2 (vr 9) (vr 16) ix2D) (evA (aC (vr 12) (aC (vr 13) aN)) lstD) eqD)) (vr 16))) (seqO (sIf (tV (ev2 (evA (aC (vr 15) aN) lenD) (kd (.int 1)) neD)) (sRet (kd (.bool false))) sN) (seqO (sIf (tN (tV (evC 6 (aC (ev2 (vr 6) (vr 12) ixD) (aC (ev2 (vr 7) (vr 12) ixD) (aC (ev2 (vr 15) (kd (.int 0)) ixD) (aC (vr 14) (aC (ev2 (vr 6) (vr 13) ixD) (aC (ev2 (vr 7) (vr 13) ixD) aN)))))) zA))) (sRet (kd (.bool false))) sN) (seqO (sIf (tN (tV (evC 6 (aC (ev2 (vr 6) (vr 13) ixD) (aC (ev2 (vr 7) (vr 13) ixD) (aC (ev2 (vr 15) (kd (.int 0)) ixD) (aC (vr 14) (aC (ev2 (vr 6) (vr 12) ixD) (aC (ev2 (vr 7) (vr 12) ixD) aN)))))) zA))) (sRet (kd (.bool false))) sN) (seqO (sPut 11 (vr 12) (qP (ev2 (ev2 (vr 11) (vr 12) ixD) (kd (.int 1)) qJ))) (sPut 11 (vr 13) (qP (ev2 (ev2 (vr 11) (vr 13) ixD) (kd (.int 1)) qJ))))))))) (zs.map eS) [o0,o1,o2,o3,o4,o5,some (.list (sk.map eS)),some (.list ((sk.map (ouV (inM cs))).map eS)),o8,some (.dict (eM (metF sk.zipIdx))),some (.list (zs.map eS)),some (.list ((mny sk.length []).map .int)),none,none,none,none]=some (.nx [o0,o1,o2,o3,o4,o5,some (.list (sk.map eS)),some (.list ((sk.map (ouV (inM cs))).map eS)),o8,some (.dict (eM (metF sk.zipIdx))),some (.list (zs.map eS)),some (.list ((mny sk.length zs).map .int)),o12,o13,o14,o15]):=by
 have hs:∀ s∈sk,Sq s:=λ s h=>((P.hm s).mp h).1
 have hk:=P.hk
 have hol:=qcj P
 obtain ⟨ρ',e,o12,o13,o14,o15,rfl⟩:=Qe eS (g:=unpD 3 (gsC (gNm 12) (gsC (gNm 13) (gsC (gNm 14) gsN)))) (u:=(seqO (sIf (tO (tN (tV (Y0 (kd (.int 0)) (vr 12) (vr 13) (evA (aC (vr 6) aN) lenD) leD ltD2 ltD2))) (tV (ev2 (vr 14) (evA (aC (ev1 (kd (.int 1)) negD) (aC (kd (.int 0)) (aC (kd (.int 1)) aN))) tupD) ninD))) (sRet (kd (.bool false))) sN) (seqO (qY 15 (zG 16 (evI (vr 9) Jc) (tV (ev2 (ev2 (vr 9) (vr 16) ix2D) (evA (aC (vr 12) (aC (vr 13) aN)) lstD) eqD)) (vr 16))) (seqO (sIf (tV (ev2 (evA (aC (vr 15) aN) lenD) (kd (.int 1)) neD)) (sRet (kd (.bool false))) sN) (seqO (sIf (tN (tV (evC 6 (aC (ev2 (vr 6) (vr 12) ixD) (aC (ev2 (vr 7) (vr 12) ixD) (aC (ev2 (vr 15) (kd (.int 0)) ixD) (aC (vr 14) (aC (ev2 (vr 6) (vr 13) ixD) (aC (ev2 (vr 7) (vr 13) ixD) aN)))))) zA))) (sRet (kd (.bool false))) sN) (seqO (sIf (tN (tV (evC 6 (aC (ev2 (vr 6) (vr 13) ixD) (aC (ev2 (vr 7) (vr 13) ixD) (aC (ev2 (vr 15) (kd (.int 0)) ixD) (aC (vr 14) (aC (ev2 (vr 6) (vr 12) ixD) (aC (ev2 (vr 7) (vr 12) ixD) aN)))))) zA))) (sRet (kd (.bool false))) sN) (seqO (sPut 11 (vr 12) (qP (ev2 (ev2 (vr 11) (vr 12) ixD) (kd (.int 1)) qJ))) (sPut 11 (vr 13) (qP (ev2 (ev2 (vr 11) (vr 13) ixD) (kd (.int 1)) qJ))))))))))
  (λ done ρ=>∃ o12 o13 o14 o15:Option PyData,ρ=[o0,o1,o2,o3,o4,o5,some (.list (sk.map eS)),some (.list ((sk.map (ouV (inM cs))).map eS)),o8,some (.dict (eM (metF sk.zipIdx))),some (.list (zs.map eS)),some (.list ((mny sk.length done).map .int)),o12,o13,o14,o15]) zs [o0,o1,o2,o3,o4,o5,some (.list (sk.map eS)),some (.list ((sk.map (ouV (inM cs))).map eS)),o8,some (.dict (eM (metF sk.zipIdx))),some (.list (zs.map eS)),some (.list ((mny sk.length []).map .int)),none,none,none,none] ⟨none,none,none,none,rfl⟩ (by
   rintro z hzm done ρ hdl ⟨o12,o13,o14,o15,rfl⟩
   obtain ⟨e,he,rfl⟩:=List.mem_map.mp (hz.mem_iff.mp hzm)
   have heg:=Qw.mp he
   obtain ⟨B,s0,s1,hB,hf,hf2,hbd,m0,m1⟩:=jB P heg
   have hlead:=qe3 (inM cs) hB hf
   have hone:=qfY P heg hf2
   have hij:=qdc P.hn hf2
   obtain ⟨hi,gi⟩:=qaV m0
   obtain ⟨hj,gj⟩:=qaV m1
   have e0:=of_decide_eq_true (List.mem_filter.mp (show s0∈sk.filter (λ s=>decide (e∈ar (axA s) s)) by rw [hf2];exact List.mem_cons_self)).2
   have e1:=of_decide_eq_true (List.mem_filter.mp (show s1∈sk.filter (λ s=>decide (e∈ar (axA s) s)) by rw [hf2];exact List.mem_cons_of_mem _ List.mem_cons_self)).2
   have l0:=qem hlead.1 (qcH (hs _ m0) e0) (qcl (inM cs) (hs _ m0))
   have l1:=qem hlead.2 (qcH (hs _ m1) e1) (qcl (inM cs) (hs _ m1))
   have hb:Qn (inM cs) s0 e s1=0\/Qn (inM cs) s0 e s1=1\/Qn (inM cs) s0 e s1=-1:=by
    rcases hlead.1 with ⟨z,_⟩|⟨z,_⟩
    ·exact .inl z
    ·exact .inr z
   rw [qdg hf2]
   generalize Qn (inM cs) s0 e s1=b at *
   generalize sk.idxOf s0=i at *
   generalize sk.idxOf s1=j at *
   have hu:eS ((i:Int),(j:Int),b)=.tuple [.int (i:Nat),.int (j:Nat),.int b]:=rfl
   rw [hu]
   have hat0:atI (sk.map eS) ((i:Nat):Int)=some (eS s0):=Zg (Int.natCast_nonneg _) (by rw [Int.toNat_natCast];exact gi)
   have hat1:atI (sk.map eS) ((j:Nat):Int)=some (eS s1):=Zg (Int.natCast_nonneg _) (by rw [Int.toNat_natCast];exact gj)
   have ha0:atI ((sk.map (ouV (inM cs))).map eS) ((i:Nat):Int)=some (eS (ouV (inM cs) s0)):=Zg (Int.natCast_nonneg _) (by rw [Int.toNat_natCast,List.getElem?_map,gi];rfl)
   have ha1:atI ((sk.map (ouV (inM cs))).map eS) ((j:Nat):Int)=some (eS (ouV (inM cs) s1)):=Zg (Int.natCast_nonneg _) (by rw [Int.toNat_natCast,List.getElem?_map,gj];rfl)
   have hnin:ninD (.int b) (.tuple [.int (-1),.int 0,.int 1])=some (.bool false):=by rcases hb with rfl|rfl|rfl<;>rfl
   have hkeys:=qek (metF sk.zipIdx)
   have hch:∀ o11 o14 o15:Option PyData,Y0 (kd (.int 0)) (vr 12) (vr 13) (evA (aC (vr 6) aN) lenD) leD ltD2 ltD2 [o0,o1,o2,o3,o4,o5,some (.list (sk.map eS)),some (.list ((sk.map (ouV (inM cs))).map eS)),o8,some (.dict (eM (metF sk.zipIdx))),some (.list (zs.map eS)),o11,some (.int (i:Nat)),some (.int (j:Nat)),o14,o15]=some (.bool true):=λ o11 o14 o15=>by
    rw [qh8 (x:=.int 0) (y:=.int (i:Nat)) (w:=.int (j:Nat)) (u:=.int ((sk.map eS).length:Nat)) rfl rfl rfl rfl (by rw [qju,decide_eq_true (Int.natCast_nonneg i)]) (by rw [qdn,decide_eq_true (by omega)])]
    rw [qdn,decide_eq_true (by rw [List.length_map];omega)]
   have hcp:∀ o11 o14 o15:Option PyData,Qa (tV (ev2 (ev2 (vr 9) (vr 16) ix2D) (evA (aC (vr 12) (aC (vr 13) aN)) lstD) eqD)) (vr 16) [o0,o1,o2,o3,o4,o5,some (.list (sk.map eS)),some (.list ((sk.map (ouV (inM cs))).map eS)),o8,some (.dict (eM (metF sk.zipIdx))),some (.list (zs.map eS)),o11,some (.int (i:Nat)),some (.int (j:Nat)),o14,o15] ((metF sk.zipIdx).map λ p=>eS p.1)=some [eS e]:=λ o11 o14 o15=>by
    rw [← hone]
    refine ZC (λ p:Mt=>eS p.1) (λ p=>decide (lstM (metF sk.zipIdx) p.1=[i,j])) (λ p=>eS p.1) (metF sk.zipIdx) (λ p hp=>?_) λ p hp _=>by simp_arith []
    have hix:=qjr (List.mem_map.mpr ⟨p,hp,rfl⟩)
    have hq:eqD (eNs (lstM (metF sk.zipIdx) p.1)) (.list [.int (i:Nat),.int (j:Nat)])=some (.bool (decide (lstM (metF sk.zipIdx) p.1=[i,j]))):=qgh _ [i,j]
    simp_arith [hix,hq]
   have hkl:((metF sk.zipIdx).map λ p=>eS p.1).length<=1000:=by
    have:=congrArg List.length (JS sk)
    rw [List.length_map] at this ⊢
    rw [this]
    have hol:(once (sk.flatMap λ s=>ar (axA s) s)).length<64:=hol
    omega
   have a1:atI ((mny sk.length done).map PyData.int) ((i:Nat):Int)=some (.int (cv done i)):=Zg (Int.natCast_nonneg _) (by rw [Int.toNat_natCast];unfold mny;rw [List.getElem?_map,List.getElem?_range hi];rfl)
   have q1:=qcI (xs:=mny sk.length done) (i:=i) (by rw [Zr];exact hi) (cv done i+1)
   have a2:atI (((mny sk.length done).set i (cv done i+1)).map PyData.int) ((j:Nat):Int)=some (.int (cv done j)):=Zg (Int.natCast_nonneg _) (by rw [Int.toNat_natCast,List.getElem?_set_ne (by omega)];unfold mny;rw [List.getElem?_map,List.getElem?_range hj];rfl)
   have q2:=qcI (xs:=(mny sk.length done).set i (cv done i+1)) (i:=j) (by rw [List.length_set,Zr];exact hj) (cv done j+1)
   rw [qiw (b:=b) done hi hj hij] at q2
   refine ⟨[o0,o1,o2,o3,o4,o5,some (.list (sk.map eS)),some (.list ((sk.map (ouV (inM cs))).map eS)),o8,some (.dict (eM (metF sk.zipIdx))),some (.list (zs.map eS)),some (.list ((mny sk.length (done++[((i:Int),(j:Int),b)])).map .int)),some (.int (i:Nat)),some (.int (j:Nat)),some (.int b),some (.list [eS e])],?_,_,_,_,_,rfl⟩
   generalize (mny sk.length (done++[((i:Int),(j:Int),b)])).map PyData.int=L2' at q2 ⊢
   generalize ((mny sk.length done).set i (cv done i+1)).map PyData.int=L1' at q1 a2 q2
   generalize (mny sk.length done).map PyData.int=L0' at a1 q1
   generalize (metF sk.zipIdx).map (λ p=>eS p.1)=KS at hkeys hcp hkl
   simp_arith [hch,hnin,hkeys,hcp,hkl,hat0,hat1,ha0,ha1,l0,l1,a1,q1,a2,q2,wG,zU])
 exact ⟨o12,o13,o14,o15,e⟩
theorem qfl (ns:List Int)(_:ns.length<=63)(_:∀ k∈ns,Builtin.Int.intBits k<=2 ^ 20):qgk [.list (ns.map .int)]=some (.bool true):=by
 have c0:=cell_eq ns 0 (by decide)
 have c1:=cell_eq ns 1 (by decide)
 have c2:=cell_eq ns 2 (by decide)
 have c3:=cell_eq ns 3 (by decide)
 have be:=qhI (QB ns 1) (QB ns 2) (QB ns 3)
 obtain ⟨b,hb⟩:∃ b:Sp,b=(bsV (QB ns 1),bsV (QB ns 2),bsV (QB ns 3)):=⟨_,rfl⟩
 have hnb:qcb (10 ^ 19) b:=by rw [hb];exact ⟨qc1 _,qc1 _,qc1 _⟩
 have be:Q8 [.list [.int (QB ns 1),.int (QB ns 2),.int (QB ns 3)]]=some (.list [.int b.1,.int b.2.1,.int b.2.2]):=by rw [hb];exact be
 obtain ⟨ms,ems⟩:=qhO ns
 obtain ⟨cw,gw,ew,hw,hwl,hwp⟩:=qjk ms b (k:=1+QB ns 0 / 2 % 24) (by omega)
 obtain ⟨wbd,sw,w1,w2,w3,w4⟩:=wnd25 hnb hw hwl hwp
 have wp:=qez wbd w1 w4 (by omega)
 have wo25:=qg1 w4
 obtain ⟨cs,sk,ep,P⟩:=qiV ms hnb
 have hk:=P.hk
 have pp:=qez P.hb P.e1 P.hm (by omega)
 have po:=qg1 P.hm
 have hsk:=P.e2
 have hs:∀ s∈sk,Sq s:=λ s h=>((P.hm s).mp h).1
 have hmet:=qjv hs (by omega)
 obtain ⟨zs,ej,pz,_⟩:=qih P
 have hsp:=qeJ zs
 obtain ⟨o12,o13,o14,o15,lp⟩:=qkd P pz (some (.list (ns.map .int))) (some (.list [.int b.1,.int b.2.1,.int b.2.2])) (some (.list (ms.map .int))) (some (.list (cw.map eS))) (some (.list (sw.map eS))) (some (.list (cs.map eS))) (some (.list (cs.map eS)))
 have e1:neD (.list (cs.map eS)) (.list (cs.map eS))=some (.bool false):=by rw [qkf,decide_eq_true rfl];rfl
 have hco1:∀ o0 o1 o2 o4 o5 o6 o7 o8 o9 o10 o11 o12 o13 o14 o15:Option PyData,Qa tT (evC 2 (aC (vr 3) (aC (vr 16) aN)) Qc) [o0,o1,o2,some (.list (cw.map eS)),o4,o5,o6,o7,o8,o9,o10,o11,o12,o13,o14,o15] (sw.map eS)=some ((sw.map (ouV (inM cw))).map eS):=λ o0 o1 o2 o4 o5 o6 o7 o8 o9 o10 o11 o12 o13 o14 o15=>by
  rw [List.map_map]
  refine jV eS (eS ∘ ouV (inM cw)) sw λ s h=>?_
  have:=wo25 s h
  simp_arith [this]
  rfl
 have hco2:∀ o0 o1 o2 o3 o4 o6 o7 o8 o9 o10 o11 o12 o13 o14 o15:Option PyData,Qa tT (evC 2 (aC (vr 5) (aC (vr 16) aN)) Qc) [o0,o1,o2,o3,o4,some (.list (cs.map eS)),o6,o7,o8,o9,o10,o11,o12,o13,o14,o15] (sk.map eS)=some ((sk.map (ouV (inM cs))).map eS):=λ o0 o1 o2 o3 o4 o6 o7 o8 o9 o10 o11 o12 o13 o14 o15=>by
  rw [List.map_map]
  refine jV eS (eS ∘ ouV (inM cs)) sk λ s h=>?_
  have:=po s h
  simp_arith [this]
  rfl
 have hm0:∀ ρ:Rho,Qa tT (kd (.int 0)) ρ (sk.map eS)=some ((mny sk.length []).map .int):=λ ρ=>by
  have h0:(mny sk.length []).map PyData.int=sk.map λ _=>PyData.int 0:=by
   refine List.ext_getElem (by rw [List.length_map,Zr,List.length_map]) λ k h1 h2=>?_
   rw [List.getElem_map,List.getElem_map]
   unfold mny
   rw [List.getElem_map]
   rfl
  rw [h0]
  exact jV eS (λ _=>.int 0) sk λ s h=>rfl
 have hm4:∀ ρ:Rho,Qa tT (kd (.int 4)) ρ (sk.map eS)=some (sk.map λ _=>PyData.int 4):=λ ρ=>jV eS (λ _=>.int 4) sk λ s h=>rfl
 have hfin:eqD (.list ((mny sk.length zs).map .int)) (.list (sk.map λ _=>PyData.int 4))=some (.bool true):=by
  rw [qiv P pz]
  have:=qgh (sk.map λ _=>4) (sk.map λ _=>4)
  rw [decide_eq_true rfl] at this
  unfold eNs at this
  rw [List.map_map] at this ⊢
  exact this
 have hzl:zs.length=2*sk.length:=by
  have h1:=pz.length_eq
  rw [List.length_map] at h1
  have h2:=qcQ (once (EG sk)) (EG sk) (ZJ _) (λ x hx=>Qw.mpr hx) λ t ht=>by
   obtain ⟨B,s0,s1,hB,hf,hf2,_⟩:=jB P (Qw.mp ht)
   have h:=yI hs t
   rw [hf2] at h
   exact h
  have h3:=qaH sk
  omega
 have hm2:mulD (.int 2) (.int ((sk.map eS).length:Nat))=some (.int (2*((sk.map eS).length:Nat))):=zB (bd2.ok (Bd.of (n:=10) (by rw [List.length_map];omega)))
 have hle:((((zs.map eS).length:Nat):Int)==2*(((sk.map eS).length:Nat):Int))=true:=by
  rw [List.length_map,List.length_map,hzl,beq_iff_eq]
  omega
 have hz1:(sw.map eS).length<=1000:=by rw [List.length_map];omega
 have hz2:(sk.map eS).length<=1000:=by rw [List.length_map];omega
 have e:qeP (rho0 yD.length [.list (ns.map .int)])=some (.rt (.bool true)):=by
  unfold qeP
  simp_arith [c0,c1,c2,c3,be,ems,ew,w2,hco1,wp,ep,hsk,hco2,pp,hmet,ej,e1,hsp,hm2,hle,wG,hm0,lp,hm4,hfin,hz1,hz2]
 unfold qgk
 rw [e]
 rfl
theorem qjG {l:W.OpenLaw}{w:World}{K:W.Frag}{h:Heap}{mg:Str->Option Value}{fa f34:Addr}(X:K.In h)(G:h.Ns mainGlobals mg)(hfa:mg "law" = some (.ref fa))
  {od34 an34:Option Addr} {sl34:Array (Option Value)} {oc34 kV34 dc34 pm34 cd34 ct34:Value}
  (h0:FnK K "numbers_of" T5)
  (h1:FnK K "added" T32)
  (h2:FnK K "negated" T25)
  (h3:FnK K "cross" T33)
  (h4:FnK K "axis_of" T26)
  (h5:FnK K "around" T31)
  (h6:FnK K "edges_of" T21)
  (h7:FnK K "squares_at" T6)
  (h8:FnK K "middle_of" T16)
  (h9:FnK K "cube_of" T27)
  (h10:FnK K "cubes_at" T22)
  (h11:FnK K "skin_of" T28)
  (h12:FnK K "edge_counts" T4)
  (h13:FnK K "outward_from" T2)
  (h14:FnK K "crowded" T29)
  (h15:FnK K "bend_over" T17)
  (h16:FnK K "pose_on" T30)
  (h17:FnK K "_law_cell_at" T3)
  (h18:FnK K "_law_whole" T7)
  (h19:FnK K "_law_spots" T8)
  (h20:FnK K "_law_base" T18)
  (h21:FnK K "_law_solid" T9)
  (h22:FnK K "_law_skin" T19)
  (h23:FnK K "_law_near" T20)
  (h24:FnK K "_law_met" T23)
  (h25:FnK K "_law_mixed" T10)
  (h26:FnK K "_law_cells" T11)
  (h27:FnK K "_law_plain" T12)
  (h28:FnK K "_law_cross" T13)
  (h29:FnK K "_law_out" T24)
  (h30:FnK K "_law_pose_right" T1)
  (h31:FnK K "_law_leads" T14)
  (h32:FnK K "_law_poses_right" T0)
  (h33:FnK K "skin_joins" T15)
  (a34:W.nsIn K mainGlobals "law" = some (some (.ref f34))) (l34:K.lookup f34=some ⟨oc34,od34,.func (W.fnOf "law" "law" (jr T34) (QX T34) (qm T34) .none kV34 dc34 pm34 an34 cd34 ct34),sl34⟩) (c34:W.codeIn K cd34 "law" = true) (k34:W.keepIn K (.ref f34)=true)
  (z0:W.nsIn K mainGlobals "dict" = some none)
  (z1:W.nsIn K mainGlobals "enumerate" = some none)
  (z2:W.nsIn K mainGlobals "sorted" = some none)
  (z3:W.nsIn K mainGlobals "min" = some none)
  (z4:W.nsIn K mainGlobals "max" = some none)
  (z5:W.nsIn K mainGlobals "len" = some none)
  (z6:W.nsIn K mainGlobals "isinstance" = some none)
  (z7:W.nsIn K mainGlobals "int" = some none)
  (z8:W.nsIn K mainGlobals "bool" = some none)
  (z9:W.nsIn K mainGlobals "list" = some none)
  (z10:W.nsIn K mainGlobals "tuple" = some none)
  (z11:W.nsIn K mainGlobals "range" = some none)
  {kc0_a0:Addr}
  {kc0_d0:Option Addr}
  {kc0_n0:Nat}
  {kc0_s0:Array (Option Value)}
  {kc0_a4:Addr}
  {kc0_d4:Option Addr}
  {kc0_n4:Nat}
  {kc0_s4:Array (Option Value)}
  {kc0_t8:Tok}
  {kc0_t9:Tok}
  {kc0_t10:Tok}
  {kc0_a11:Addr}
  {kc0_d11:Option Addr}
  {kc0_n11:Nat}
  {kc0_s11:Array (Option Value)}
  {kc0_t15:Tok}
  {kc0_t16:Tok}
  {kc0_t17:Tok}
  {kc0_a18:Addr}
  {kc0_d18:Option Addr}
  {kc0_n18:Nat}
  {kc0_s18:Array (Option Value)}
  {kc0_t22:Tok}
  {kc0_t23:Tok}
  {kc0_t24:Tok}
  {kc0_a25:Addr}
  {kc0_d25:Option Addr}
  {kc0_n25:Nat}
  {kc0_s25:Array (Option Value)}
  {kc0_t29:Tok}
  {kc0_t30:Tok}
  {kc0_t31:Tok}
  {kc0_a32:Addr}
  {kc0_d32:Option Addr}
  {kc0_n32:Nat}
  {kc0_s32:Array (Option Value)}
  {kc0_t36:Tok}
  {kc0_t37:Tok}
  {kc0_t38:Tok}
  {kc0_a39:Addr}
  {kc0_d39:Option Addr}
  {kc0_n39:Nat}
  {kc0_s39:Array (Option Value)}
  {kc0_t43:Tok}
  {kc0_t44:Tok}
  {kc0_t45:Tok}
  (kc0:W.nsIn K mainGlobals "UNITS" = some (some (.ref kc0_a0)))
  (kc0_h0:K.lookup kc0_a0=some ⟨.type "tuple", kc0_d0,.seq #[(.ref kc0_a4),(.ref kc0_a11),(.ref kc0_a18),(.ref kc0_a25),(.ref kc0_a32),(.ref kc0_a39)] kc0_n0,kc0_s0⟩)
  (kc0_h4:K.lookup kc0_a4=some ⟨.type "tuple", kc0_d4,.seq #[(.int (-1) kc0_t8),(.int (0) kc0_t9),(.int (0) kc0_t10)] kc0_n4,kc0_s4⟩)
  (kc0_h11:K.lookup kc0_a11=some ⟨.type "tuple", kc0_d11,.seq #[(.int (0) kc0_t15),(.int (-1) kc0_t16),(.int (0) kc0_t17)] kc0_n11,kc0_s11⟩)
  (kc0_h18:K.lookup kc0_a18=some ⟨.type "tuple", kc0_d18,.seq #[(.int (0) kc0_t22),(.int (0) kc0_t23),(.int (-1) kc0_t24)] kc0_n18,kc0_s18⟩)
  (kc0_h25:K.lookup kc0_a25=some ⟨.type "tuple", kc0_d25,.seq #[(.int (0) kc0_t29),(.int (0) kc0_t30),(.int (1) kc0_t31)] kc0_n25,kc0_s25⟩)
  (kc0_h32:K.lookup kc0_a32=some ⟨.type "tuple", kc0_d32,.seq #[(.int (0) kc0_t36),(.int (1) kc0_t37),(.int (0) kc0_t38)] kc0_n32,kc0_s32⟩)
  (kc0_h39:K.lookup kc0_a39=some ⟨.type "tuple", kc0_d39,.seq #[(.int (1) kc0_t43),(.int (0) kc0_t44),(.int (0) kc0_t45)] kc0_n39,kc0_s39⟩)
  {kc1_t0:Tok}
  (kc1:W.nsIn K mainGlobals "CROWD" = some (some (.int (4) kc1_t0)))
  : ∃ fd:FuncData,(∀ (s:Shared) (v:Value),BindsTo s fd ⟨[v],[]⟩ [("_law_script", v)])/\∀ base:Heap,K.In base->base.Ns mainGlobals mg->FnOk l.prog w K mg base CX0 7 fa fd ["_law_script"] (qdz K 63):=by
 have g {n:Str} {v:Value} (e:W.nsIn K mainGlobals n=some (some v)):mg n=some v:=W.mg_of X G e
 have e:=hfa.symm.trans (g a34)
 cases e
 obtain ⟨f0,d0,a0,F0⟩:=h0
 have b0:=F0.binds (ps:=["things"]) λ _ _ _ _ _ _ us hl=>match us,hl with | [_],_=>rfl
 obtain ⟨f1,d1,a1,F1⟩:=h1
 have b1:=F1.binds (ps:=["one", "other"]) λ _ _ _ _ _ _ us hl=>match us,hl with | [_,_],_=>rfl
 obtain ⟨f2,d2,a2,F2⟩:=h2
 have b2:=F2.binds (ps:=["spot"]) λ _ _ _ _ _ _ us hl=>match us,hl with | [_],_=>rfl
 obtain ⟨f3,d3,a3,F3⟩:=h3
 have b3:=F3.binds (ps:=["one", "other"]) λ _ _ _ _ _ _ us hl=>match us,hl with | [_,_],_=>rfl
 obtain ⟨f4,d4,a4,F4⟩:=h4
 have b4:=F4.binds (ps:=["square"]) λ _ _ _ _ _ _ us hl=>match us,hl with | [_],_=>rfl
 obtain ⟨f5,d5,a5,F5⟩:=h5
 have b5:=F5.binds (ps:=["spot", "axis"]) λ _ _ _ _ _ _ us hl=>match us,hl with | [_,_],_=>rfl
 obtain ⟨f6,d6,a6,F6⟩:=h6
 have b6:=F6.binds (ps:=["square"]) λ _ _ _ _ _ _ us hl=>match us,hl with | [_],_=>rfl
 obtain ⟨f7,d7,a7,F7⟩:=h7
 have b7:=F7.binds (ps:=["edge"]) λ _ _ _ _ _ _ us hl=>match us,hl with | [_],_=>rfl
 obtain ⟨f8,d8,a8,F8⟩:=h8
 have b8:=F8.binds (ps:=["cube"]) λ _ _ _ _ _ _ us hl=>match us,hl with | [_],_=>rfl
 obtain ⟨f9,d9,a9,F9⟩:=h9
 have b9:=F9.binds (ps:=["spot"]) λ _ _ _ _ _ _ us hl=>match us,hl with | [_],_=>rfl
 obtain ⟨f10,d10,a10,F10⟩:=h10
 have b10:=F10.binds (ps:=["square"]) λ _ _ _ _ _ _ us hl=>match us,hl with | [_],_=>rfl
 obtain ⟨f11,d11,a11,F11⟩:=h11
 have b11:=F11.binds (ps:=["cubes"]) λ _ _ _ _ _ _ us hl=>match us,hl with | [_],_=>rfl
 obtain ⟨f12,d12,a12,F12⟩:=h12
 have b12:=F12.binds (ps:=["squares"]) λ _ _ _ _ _ _ us hl=>match us,hl with | [_],_=>rfl
 obtain ⟨f13,d13,a13,F13⟩:=h13
 have b13:=F13.binds (ps:=["solid", "square"]) λ _ _ _ _ _ _ us hl=>match us,hl with | [_,_],_=>rfl
 obtain ⟨f14,d14,a14,F14⟩:=h14
 have b14:=F14.binds (ps:=["solid"]) λ _ _ _ _ _ _ us hl=>match us,hl with | [_],_=>rfl
 obtain ⟨f15,d15,a15,F15⟩:=h15
 have b15:=F15.binds (ps:=["solid", "square", "edge", "other"]) λ _ _ _ _ _ _ us hl=>match us,hl with | [_,_,_,_],_=>rfl
 obtain ⟨f16,d16,a16,F16⟩:=h16
 have b16:=F16.binds (ps:=["solid", "i"]) λ _ _ _ _ _ _ us hl=>match us,hl with | [_,_],_=>rfl
 obtain ⟨f17,d17,a17,F17⟩:=h17
 have b17:=F17.binds (ps:=["_law_script", "_law_k"]) λ _ _ _ _ _ _ us hl=>match us,hl with | [_,_],_=>rfl
 obtain ⟨f18,d18,a18,F18⟩:=h18
 have b18:=F18.binds (ps:=["_law_found"]) λ _ _ _ _ _ _ us hl=>match us,hl with | [_],_=>rfl
 obtain ⟨f19,d19,a19,F19⟩:=h19
 have b19:=F19.binds (ps:=["_law_found"]) λ _ _ _ _ _ _ us hl=>match us,hl with | [_],_=>rfl
 obtain ⟨f20,d20,a20,F20⟩:=h20
 have b20:=F20.binds (ps:=["_law_cells_here"]) λ _ _ _ _ _ _ us hl=>match us,hl with | [_],_=>rfl
 obtain ⟨f21,d21,a21,F21⟩:=h21
 have b21:=F21.binds (ps:=["_law_cells_here", "_law_base_here", "_law_kind"]) λ _ _ _ _ _ _ us hl=>match us,hl with | [_,_,_],_=>rfl
 obtain ⟨f22,d22,a22,F22⟩:=h22
 have b22:=F22.binds (ps:=["_law_cubes"]) λ _ _ _ _ _ _ us hl=>match us,hl with | [_],_=>rfl
 obtain ⟨f23,d23,a23,F23⟩:=h23
 have b23:=F23.binds (ps:=["_law_spot", "_law_axes"]) λ _ _ _ _ _ _ us hl=>match us,hl with | [_,_],_=>rfl
 obtain ⟨f24,d24,a24,F24⟩:=h24
 have b24:=F24.binds (ps:=["_law_squares"]) λ _ _ _ _ _ _ us hl=>match us,hl with | [_],_=>rfl
 obtain ⟨f25,d25,a25,F25⟩:=h25
 have b25:=F25.binds (ps:=["_law_cell", "_law_k"]) λ _ _ _ _ _ _ us hl=>match us,hl with | [_,_],_=>rfl
 obtain ⟨f26,d26,a26,F26⟩:=h26
 have b26:=F26.binds (ps:=["_law_script"]) λ _ _ _ _ _ _ us hl=>match us,hl with | [_],_=>rfl
 obtain ⟨f27,d27,a27,F27⟩:=h27
 have b27:=F27.binds (ps:=["_law_cells_here", "_law_base_here"]) λ _ _ _ _ _ _ us hl=>match us,hl with | [_,_],_=>rfl
 obtain ⟨f28,d28,a28,F28⟩:=h28
 have b28:=F28.binds (ps:=["_law_one", "_law_other"]) λ _ _ _ _ _ _ us hl=>match us,hl with | [_,_],_=>rfl
 obtain ⟨f29,d29,a29,F29⟩:=h29
 have b29:=F29.binds (ps:=["_law_solid_here", "_law_square"]) λ _ _ _ _ _ _ us hl=>match us,hl with | [_,_],_=>rfl
 obtain ⟨f30,d30,a30,F30⟩:=h30
 have b30:=F30.binds (ps:=["_law_pose", "_law_square", "_law_out_here"]) λ _ _ _ _ _ _ us hl=>match us,hl with | [_,_,_],_=>rfl
 obtain ⟨f31,d31,a31,F31⟩:=h31
 have b31:=F31.binds (ps:=["_law_one", "_law_out_here", "_law_edge", "_law_bend", "_law_other", "_law_beyond"]) λ _ _ _ _ _ _ us hl=>match us,hl with | [_,_,_,_,_,_],_=>rfl
 obtain ⟨f32,d32,a32,F32⟩:=h32
 have b32:=F32.binds (ps:=["_law_solid_here", "_law_squares", "_law_outs"]) λ _ _ _ _ _ _ us hl=>match us,hl with | [_,_,_],_=>rfl
 obtain ⟨f33,d33,a33,F33⟩:=h33
 have b33:=F33.binds (ps:=["solid"]) λ _ _ _ _ _ _ us hl=>match us,hl with | [_],_=>rfl
 have F34:=qgq (st:=T34) l34 c34 k34
 have z_dict:=W.mg_none_of X G z0
 have z_enumerate:=W.mg_none_of X G z1
 have z_sorted:=W.mg_none_of X G z2
 have z_min:=W.mg_none_of X G z3
 have z_max:=W.mg_none_of X G z4
 have z_len:=W.mg_none_of X G z5
 have z_isinstance:=W.mg_none_of X G z6
 have z_int:=W.mg_none_of X G z7
 have z_bool:=W.mg_none_of X G z8
 have z_list:=W.mg_none_of X G z9
 have z_tuple:=W.mg_none_of X G z10
 have z_range:=W.mg_none_of X G z11
 have C_UNITS:J5 K mg "UNITS" QW:=⟨(.ref kc0_a0),(.ref kc0_a0),W.mg_of X G kc0,rfl,λ H S=>(.tuple (xs:=[(.ref kc0_a4),(.ref kc0_a11),(.ref kc0_a18),(.ref kc0_a25),(.ref kc0_a32),(.ref kc0_a39)]) (.inr ⟨_,_,_,kc0_h0,rfl,rfl,(show 6<=sizeLine by decide),(.cons rfl (.cons rfl (.cons rfl (.cons rfl (.cons rfl (.cons rfl .nil))))))⟩) (.cons (.tuple (xs:=[(.int (-1)),(.int (0)),(.int (0))]) (.inr ⟨_,_,_,kc0_h4,rfl,rfl,(show 3<=sizeLine by decide),(.cons ⟨_,rfl⟩ (.cons ⟨_,rfl⟩ (.cons ⟨_,rfl⟩ .nil)))⟩) (.cons (.int (-1)) (.cons (.int (0)) (.cons (.int (0)) .nil)))) (.cons (.tuple (xs:=[(.int (0)),(.int (-1)),(.int (0))]) (.inr ⟨_,_,_,kc0_h11,rfl,rfl,(show 3<=sizeLine by decide),(.cons ⟨_,rfl⟩ (.cons ⟨_,rfl⟩ (.cons ⟨_,rfl⟩ .nil)))⟩) (.cons (.int (0)) (.cons (.int (-1)) (.cons (.int (0)) .nil)))) (.cons (.tuple (xs:=[(.int (0)),(.int (0)),(.int (-1))]) (.inr ⟨_,_,_,kc0_h18,rfl,rfl,(show 3<=sizeLine by decide),(.cons ⟨_,rfl⟩ (.cons ⟨_,rfl⟩ (.cons ⟨_,rfl⟩ .nil)))⟩) (.cons (.int (0)) (.cons (.int (0)) (.cons (.int (-1)) .nil)))) (.cons (.tuple (xs:=[(.int (0)),(.int (0)),(.int (1))]) (.inr ⟨_,_,_,kc0_h25,rfl,rfl,(show 3<=sizeLine by decide),(.cons ⟨_,rfl⟩ (.cons ⟨_,rfl⟩ (.cons ⟨_,rfl⟩ .nil)))⟩) (.cons (.int (0)) (.cons (.int (0)) (.cons (.int (1)) .nil)))) (.cons (.tuple (xs:=[(.int (0)),(.int (1)),(.int (0))]) (.inr ⟨_,_,_,kc0_h32,rfl,rfl,(show 3<=sizeLine by decide),(.cons ⟨_,rfl⟩ (.cons ⟨_,rfl⟩ (.cons ⟨_,rfl⟩ .nil)))⟩) (.cons (.int (0)) (.cons (.int (1)) (.cons (.int (0)) .nil)))) (.cons (.tuple (xs:=[(.int (1)),(.int (0)),(.int (0))]) (.inr ⟨_,_,_,kc0_h39,rfl,rfl,(show 3<=sizeLine by decide),(.cons ⟨_,rfl⟩ (.cons ⟨_,rfl⟩ (.cons ⟨_,rfl⟩ .nil)))⟩) (.cons (.int (1)) (.cons (.int (0)) (.cons (.int (0)) .nil)))) .nil)))))))⟩
 have C_CROWD:J5 K mg "CROWD" yJ:=⟨(.int (4)),(.int (4) kc1_t0),W.mg_of X G kc1,⟨_,rfl⟩,λ H S=>(.int (4))⟩
 refine ⟨W.fnOf "law" "law" (jr T34) (QX T34) (qm T34) .none kV34 dc34 pm34 an34 cd34 ct34,λ s v=>.of_eq rfl,λ base _ _=>?_⟩
 have b34:=F34.binds (ps:=["_law_script"]) λ _ _ _ _ _ _ us hl=>match us,hl with | [_],_=>rfl
 have K_numbers_of:=qa6 l.prog w base F0 (g a0) b0 z_dict z_enumerate
 have K_added:=qil l.prog w base F1 (g a1) b1
 have K_negated:=qfi l.prog w base F2 (g a2) b2
 have K_cross:=qim l.prog w base F3 (g a3) b3
 have K_axis_of:=qff l.prog w base F4 (g a4) b4
 have K_around:=qgC l.prog w base F5 (g a5) b5 K_added z_sorted C_UNITS
 have K_edges_of:=qdl l.prog w base F6 (g a6) b6 K_around K_axis_of
 have K_squares_at:=qa8 l.prog w base F7 (g a7) b7 K_around
 have K_middle_of:=qb3 l.prog w base F8 (g a8) b8
 have K_cube_of:=qfh l.prog w base F9 (g a9) b9
 have K_cubes_at:=qdk l.prog w base F10 (g a10) b10 K_axis_of K_cube_of z_enumerate
 have K_skin_of:=qfk l.prog w base F11 (g a11) b11 K_added K_middle_of z_sorted C_UNITS
 have K_edge_counts:=WP l.prog w base F12 (g a12) b12 K_edges_of
 have K_outward_from:=Wj l.prog w base F13 (g a13) b13 K_cubes_at K_added K_negated K_middle_of
 have K_crowded:=qfg l.prog w base F14 (g a14) b14 K_edge_counts K_skin_of z_min C_CROWD
 have K_bend_over:=qb2 l.prog w base F15 (g a15) b15 K_added K_negated K_outward_from
 have K_pose_on:=qfj l.prog w base F16 (g a16) b16 K_skin_of K_outward_from K_axis_of K_cross z_max C_UNITS
 have K__law_cell_at:=Wi l.prog w base F17 (g a17) b17 z_len
 have K__law_whole:=qa5 l.prog w base F18 (g a18) b18 z_isinstance z_int z_bool
 have K__law_spots:=qa4 l.prog w base F19 (g a19) b19 K__law_whole z_isinstance z_list z_tuple z_len
 have K__law_base:=qbZ l.prog w base F20 (g a20) b20
 have K__law_solid:=qa3 l.prog w base F21 (g a21) b21 z_tuple z_range z_list z_len z_sorted
 have K__law_skin:=qb1 l.prog w base F22 (g a22) b22 z_list z_tuple z_range z_sorted
 have K__law_near:=qb0 l.prog w base F23 (g a23) b23 z_list z_tuple z_sorted
 have K__law_met:=qdi l.prog w base F24 (g a24) b24 K__law_near z_range z_len
 have K__law_mixed:=qa1 l.prog w base F25 (g a25) b25
 have K__law_cells:=qaY l.prog w base F26 (g a26) b26 K__law_cell_at K__law_mixed z_range
 have K__law_plain:=qa2 l.prog w base F27 (g a27) b27 K__law_solid K__law_met K__law_skin z_len z_range z_tuple
 have K__law_cross:=qaZ l.prog w base F28 (g a28) b28
 have K__law_out:=qdj l.prog w base F29 (g a29) b29 z_range z_int z_tuple
 have K__law_pose_right:=yX l.prog w base F30 (g a30) b30 K__law_spots K__law_cross z_isinstance z_tuple z_len z_list z_max
 have K__law_leads:=qa0 l.prog w base F31 (g a31) b31
 have K__law_poses_right:=yc l.prog w base F32 (g a32) b32 K__law_pose_right K_pose_on z_list z_range z_len
 have K_skin_joins:=qa7 l.prog w base F33 (g a33) b33 K_crowded K_skin_of K_numbers_of K_squares_at K_bend_over K_edge_counts z_sorted
 exact qgI (qkk l.prog w base F34 K__law_base K__law_cell_at K__law_cells K__law_solid K__law_skin K__law_poses_right K__law_out K__law_plain K__law_met K_skin_joins K__law_spots K__law_leads z_list z_len) qfl
end SF
open PySem PySem.W PyProof.Rows
set_option maxRecDepth 100000 in
set_option maxHeartbeats 0 in
theorem PySem.Challenge.cw_sheetfold_k25_whole_joins_lead_over_a_sk_holds : PySem.Challenge.rw_sheetfold_k25_whole_joins_lead_over_a_sk.Holds := by
 w_on;o_law
 refine W.holds_open (q:=HD.vw) (YP:=(W.kHook HD.KH HD.kA HD.kE).says) HD.left (W.Hook.of _) (W.Hook.keeps _) (λ s e=>W.xl_of s (Bool.and_eq_true_iff.mp e).1) W.XL.keeps (by rfl) (by rfl) (by rfl) (λ s e=>W.recFacts_of (Bool.and_eq_true_iff.mp e).2) (by rfl) (by first|assumption|decide +kernel) (by decide +kernel) ⟨rfl,rfl,rfl,rfl,rfl,by decide +kernel⟩ ?hw ?hc
 case hw=>w_witness2
 k_fill
 refine L2.qfL (l:=PySem.Challenge.rw_sheetfold_k25_whole_joins_lead_over_a_sk) (n:=63) (k:=7) (x := "_law_script") rfl (by decide) rfl ⟨rfl,by decide,by decide⟩ (λ w h Y=>W.kIn_of Y) ?F
 case F =>
  intro w mg fa h KX G hmg
  refine' SF.qjG KX G hmg ?_ ?_ ?_ ?_ ?_ ?_ ?_ ?_ ?_ ?_ ?_ ?_ ?_ ?_ ?_ ?_ ?_ ?_ ?_ ?_ ?_ ?_ ?_ ?_ ?_ ?_ ?_ ?_ ?_ ?_ ?_ ?_ ?_ ?_ ?_ ?_ ?_ ?_ ?_ ?_ ?_ ?_ ?_ ?_ ?_ ?_ ?_ ?_ ?_ ?_ ?_ ?_ ?_ ?_ ?_ ?_ ?_ ?_ ?_
  all_goals try first|k_is|exact L2.FnK.of (by k_is) (by k_is) (by k_is) (by k_is)|kernel_rfl
