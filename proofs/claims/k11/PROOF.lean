import PyProof.Rows.All
import Wide.All
import OpenK.AllK
import Wide.FinOn
import Lean
import PyProof.EqAt
import PyProof.EqKinds
import PyProof.TupleCall
import PySem.Challenge.RW_sheetfold_k11_a_join_leads
set_option Elab.async false
set_option linter.all false
set_option maxRecDepth 100000
namespace HD
open PySem PySem.W PySem.Calls PyProof.Rows
noncomputable def vw:Program:=view PySem.Challenge.pw_sheetfold_k11_a_join_leads [1,2,3,4,5,6,7,8,9,10,11,12,13,14,16,17,18,19,20,21,22,24,26,27,28,29,30,31,32,34,35,36,37,38,39,40,41,42,43,44,45,46,47,48,49]
def tp (i:Nat):Stmt:=PySem.Challenge.pw_sheetfold_k11_a_join_leads.main.body.getD i (.Pass ⟨0,0,0,0⟩)
def dA:Stmt->Arguments
 | .FunctionDef _ a _ _ _ _ _ _ _ _=>a
 | _=>default
def dB:Stmt->List Stmt
 | .FunctionDef _ _ b _ _ _ _ _ _ _=>b
 | _=>[]
def dS:Stmt->Scope
 | .FunctionDef _ _ _ _ _ _ s _ _ _=>s
 | _=>default
abbrev de (P:Params)(x:String)(t:Nat)(v:Value):DictEntry:=DictEntry.mk (PyData.keyHash P (Str.ofString x)) (Value.str (Str.ofString x) t) v
abbrev S (x:String)(t:Nat):Value:=Value.str (Str.ofString x) t
abbrev I (n:Int)(t:Nat):Value:=Value.int n t
abbrev R (a:Addr):Value:=Value.ref a
abbrev Y (x:String):Value:=Value.type x
abbrev N:Value:=Value.none
abbrev tu (a:Array Value):Obj:=Obj.mk (Value.type "tuple") Option.none (Data.seq a) #[]
abbrev cc (x:String)(t1 t2 t3:Nat)(l n:Int)(a1:Addr)(k:Int)(a2:Addr)(u v:Value)(a3:Addr)(t4:Int)(t5:Nat):Obj:=Obj.mk (Value.type "code") Option.none (Data.fields #[S x t1,S x t2,S "/claim/cut.py" t3,I l 0,I n 0,I 0 0,I 0 0,I 3 0,R a1,Value.bool Bool.true,I k 0,R a2,N,u,v,R a3,I t4 0,I l 0,S "/claim/cut.py" t5]) #[]
abbrev fu (x:String)(i:Nat)(m:String)(t:Nat)(c:Addr):Obj:=Obj.mk (Value.type "function") Option.none (Data.func (FuncData.mk (Str.ofString x) (Str.ofString x) (dA (tp i)) (FuncBody.stmts (dB (tp i))) (dS (tp i)) 3 [] N N N (S m t) Option.none (R c) N 0)) #[]
set_option maxHeartbeats 0 in
noncomputable def KH:Params->Frag:=fun P =>
(nat_lit 2,Obj.mk N Option.none (Data.dict #[]) #[]) ::
(nat_lit 3,Obj.mk (Y "dict") Option.none (Data.dict #[de P "__name__" 165 (S "law_sheetfold_k11_a_join_leads" 664),de P "__doc__" 166 N,de P "__package__" 167 N,de P "__loader__" 168 (Value.builtin "__main__.__loader__#opaque"),de P "__spec__" 169 N,de P "__annotations__" 170 (R 6),de P "__builtins__" 171 (R 4),de P "__file__" 173 (S "/claim/cut.py" 172),de P "__cached__" 174 N,de P "SheetError" 206 (R 24),de P "NoDrawing" 222 (R 37),de P "NoBend" 238 (R 49),de P "NoSquare" 254 (R 61),de P "TooMany" 270 (R 73),de P "NoTurn" 286 (R 85),de P "NoRow" 302 (R 97),de P "NoName" 318 (R 109),de P "NotClosed" 334 (R 121),de P "NoSheet" 359 (R 140),de P "NoSolid" 384 (R 159),de P "NoTree" 409 (R 178),de P "NoWay" 434 (R 197),de P "Crowded" 459 (R 216),de P "is_whole" 468 (R 225),de P "added" 476 (R 232),de P "negated" 483 (R 239),de P "cross" 491 (R 246),de P "turned" 497 (R 251),de P "joined_turns" 505 (R 258),de P "turn_back" 511 (R 263),de P "out_of" 520 (R 270),de P "BENDS" 527 (R 271),de P "unit_of" 535 (R 278),de P "Join" 585 (R 309),de P "Up" 617 (R 337),de P "Down" 649 (R 363),de P "is_bend" 656 (R 372),de P "join_of" 663 (R 379),de P "_law_cell" 673 (R 386),de P "_law_whole" 680 (R 393),de P "_law_cross" 694 (R 400),de P "_law_dot" 702 (R 407),de P "_law_sum" 711 (R 414),de P "_law_unit" 719 (R 421),de P "_law_led" 734 (R 428),de P "_law_pose" 740 (R 433),de P "_law_is_spot" 746 (R 438),de P "_law_is_pose" 752 (R 443),de P "_law_thing" 760 (R 450),de P "_law_alone" 767 (R 457),de P "_law_refused_well" 778 (R 464),de P "_law_of_class" 786 (R 471),de P "_law_made" 793 (R 478),de P "law" 810 (R 485)] 54) #[]) ::
(nat_lit 15,tu #[Y "ValueError"]) ::
(nat_lit 22,tu #[]) ::
(nat_lit 23,Obj.mk (Y "dict") Option.none (Data.dict #[de P "__module__" 196 (S "sheetfold.errors" 187),de P "__firstlineno__" 200 (I 2 199),de P "__static_attributes__" 201 (R 22),de P "__weakref__" 203 (R 25),de P "__doc__" 204 N] 3) #[]) ::
(nat_lit 24,Obj.mk (Y "type") Option.none (Data.cls (ClassData.mk (Str.ofString "SheetError") [Y "ValueError"] [R 24,Y "ValueError", Y "Exception", Y "BaseException", Y "object"] 23 (Str.ofString "SheetError") Bool.true [] [R 37,R 49,R 61,R 73,R 85,R 97,R 109,R 121,R 140,R 159,R 178,R 197,R 216] Bool.false Option.none Bool.false)) #[Option.some (R 15),Option.none,Option.some (S "SheetError" 189),Option.some (S "SheetError" 197),Option.some (Value.builtin "ValueError.__new__"),Option.some (Value.bool Bool.true)]) ::
(nat_lit 25,Obj.mk (Y "getset_descriptor") Option.none (Data.fields #[S "__weakref__" 202,R 24,Value.builtin "ExceptionGroup.__weakref__", N]) #[]) ::
(nat_lit 28,tu #[R 24]) ::
(nat_lit 35,tu #[]) ::
(nat_lit 36,Obj.mk (Y "dict") Option.none (Data.dict #[de P "__module__" 214 (S "sheetfold.errors" 187),de P "__firstlineno__" 218 (I 4 217),de P "__static_attributes__" 219 (R 35),de P "__doc__" 220 N] 2) #[]) ::
(nat_lit 37,Obj.mk (Y "type") Option.none (Data.cls (ClassData.mk (Str.ofString "NoDrawing") [R 24] [R 37,R 24,Y "ValueError", Y "Exception", Y "BaseException", Y "object"] 36 (Str.ofString "NoDrawing") Bool.true [] [] Bool.false Option.none Bool.false)) #[Option.some (R 28),Option.none,Option.some (S "NoDrawing" 207),Option.some (S "NoDrawing" 215),Option.some (Value.builtin "ValueError.__new__"),Option.some (Value.bool Bool.true)]) ::
(nat_lit 40,tu #[R 24]) ::
(nat_lit 47,tu #[]) ::
(nat_lit 48,Obj.mk (Y "dict") Option.none (Data.dict #[de P "__module__" 230 (S "sheetfold.errors" 187),de P "__firstlineno__" 234 (I 6 233),de P "__static_attributes__" 235 (R 47),de P "__doc__" 236 N] 2) #[]) ::
(nat_lit 49,Obj.mk (Y "type") Option.none (Data.cls (ClassData.mk (Str.ofString "NoBend") [R 24] [R 49,R 24,Y "ValueError", Y "Exception", Y "BaseException", Y "object"] 48 (Str.ofString "NoBend") Bool.true [] [] Bool.false Option.none Bool.false)) #[Option.some (R 40),Option.none,Option.some (S "NoBend" 223),Option.some (S "NoBend" 231),Option.some (Value.builtin "ValueError.__new__"),Option.some (Value.bool Bool.true)]) ::
(nat_lit 52,tu #[R 24]) ::
(nat_lit 59,tu #[]) ::
(nat_lit 60,Obj.mk (Y "dict") Option.none (Data.dict #[de P "__module__" 246 (S "sheetfold.errors" 187),de P "__firstlineno__" 250 (I 8 249),de P "__static_attributes__" 251 (R 59),de P "__doc__" 252 N] 2) #[]) ::
(nat_lit 61,Obj.mk (Y "type") Option.none (Data.cls (ClassData.mk (Str.ofString "NoSquare") [R 24] [R 61,R 24,Y "ValueError", Y "Exception", Y "BaseException", Y "object"] 60 (Str.ofString "NoSquare") Bool.true [] [] Bool.false Option.none Bool.false)) #[Option.some (R 52),Option.none,Option.some (S "NoSquare" 239),Option.some (S "NoSquare" 247),Option.some (Value.builtin "ValueError.__new__"),Option.some (Value.bool Bool.true)]) ::
(nat_lit 64,tu #[R 24]) ::
(nat_lit 71,tu #[]) ::
(nat_lit 72,Obj.mk (Y "dict") Option.none (Data.dict #[de P "__module__" 262 (S "sheetfold.errors" 187),de P "__firstlineno__" 266 (I 10 265),de P "__static_attributes__" 267 (R 71),de P "__doc__" 268 N] 2) #[]) ::
(nat_lit 73,Obj.mk (Y "type") Option.none (Data.cls (ClassData.mk (Str.ofString "TooMany") [R 24] [R 73,R 24,Y "ValueError", Y "Exception", Y "BaseException", Y "object"] 72 (Str.ofString "TooMany") Bool.true [] [] Bool.false Option.none Bool.false)) #[Option.some (R 64),Option.none,Option.some (S "TooMany" 255),Option.some (S "TooMany" 263),Option.some (Value.builtin "ValueError.__new__"),Option.some (Value.bool Bool.true)]) ::
(nat_lit 76,tu #[R 24]) ::
(nat_lit 83,tu #[]) ::
(nat_lit 84,Obj.mk (Y "dict") Option.none (Data.dict #[de P "__module__" 278 (S "sheetfold.errors" 187),de P "__firstlineno__" 282 (I 12 281),de P "__static_attributes__" 283 (R 83),de P "__doc__" 284 N] 2) #[]) ::
(nat_lit 85,Obj.mk (Y "type") Option.none (Data.cls (ClassData.mk (Str.ofString "NoTurn") [R 24] [R 85,R 24,Y "ValueError", Y "Exception", Y "BaseException", Y "object"] 84 (Str.ofString "NoTurn") Bool.true [] [] Bool.false Option.none Bool.false)) #[Option.some (R 76),Option.none,Option.some (S "NoTurn" 271),Option.some (S "NoTurn" 279),Option.some (Value.builtin "ValueError.__new__"),Option.some (Value.bool Bool.true)]) ::
(nat_lit 88,tu #[R 24]) ::
(nat_lit 95,tu #[]) ::
(nat_lit 96,Obj.mk (Y "dict") Option.none (Data.dict #[de P "__module__" 294 (S "sheetfold.errors" 187),de P "__firstlineno__" 298 (I 14 297),de P "__static_attributes__" 299 (R 95),de P "__doc__" 300 N] 2) #[]) ::
(nat_lit 97,Obj.mk (Y "type") Option.none (Data.cls (ClassData.mk (Str.ofString "NoRow") [R 24] [R 97,R 24,Y "ValueError", Y "Exception", Y "BaseException", Y "object"] 96 (Str.ofString "NoRow") Bool.true [] [] Bool.false Option.none Bool.false)) #[Option.some (R 88),Option.none,Option.some (S "NoRow" 287),Option.some (S "NoRow" 295),Option.some (Value.builtin "ValueError.__new__"),Option.some (Value.bool Bool.true)]) ::
(nat_lit 100,tu #[R 24]) ::
(nat_lit 107,tu #[]) ::
(nat_lit 108,Obj.mk (Y "dict") Option.none (Data.dict #[de P "__module__" 310 (S "sheetfold.errors" 187),de P "__firstlineno__" 314 (I 16 313),de P "__static_attributes__" 315 (R 107),de P "__doc__" 316 N] 2) #[]) ::
(nat_lit 109,Obj.mk (Y "type") Option.none (Data.cls (ClassData.mk (Str.ofString "NoName") [R 24] [R 109,R 24,Y "ValueError", Y "Exception", Y "BaseException", Y "object"] 108 (Str.ofString "NoName") Bool.true [] [] Bool.false Option.none Bool.false)) #[Option.some (R 100),Option.none,Option.some (S "NoName" 303),Option.some (S "NoName" 311),Option.some (Value.builtin "ValueError.__new__"),Option.some (Value.bool Bool.true)]) ::
(nat_lit 112,tu #[R 24]) ::
(nat_lit 119,tu #[]) ::
(nat_lit 120,Obj.mk (Y "dict") Option.none (Data.dict #[de P "__module__" 326 (S "sheetfold.errors" 187),de P "__firstlineno__" 330 (I 18 329),de P "__static_attributes__" 331 (R 119),de P "__doc__" 332 N] 2) #[]) ::
(nat_lit 121,Obj.mk (Y "type") Option.none (Data.cls (ClassData.mk (Str.ofString "NotClosed") [R 24] [R 121,R 24,Y "ValueError", Y "Exception", Y "BaseException", Y "object"] 120 (Str.ofString "NotClosed") Bool.true [] [] Bool.false Option.none Bool.false)) #[Option.some (R 112),Option.none,Option.some (S "NotClosed" 319),Option.some (S "NotClosed" 327),Option.some (Value.builtin "ValueError.__new__"),Option.some (Value.bool Bool.true)]) ::
(nat_lit 124,tu #[R 24]) ::
(nat_lit 131,tu #[]) ::
(nat_lit 133,tu #[S "self" 350,S "why" 351]) ::
(nat_lit 134,tu #[]) ::
(nat_lit 136,Obj.mk (Y "code") Option.none (Data.fields #[S "__init__" 347,S "NoSheet.__init__" 348,S "/claim/cut.py" 349,I 22 0,I 2 0,I 0 0,I 0 0,I 3 0,R 131,Value.bool Bool.true,I 181 0,R 132,N,R 133,R 134,R 135,I 352 0,I 22 0,S "/claim/cut.py" 353]) #[]) ::
(nat_lit 137,Obj.mk (Y "function") Option.none (Data.func (FuncData.mk (Str.ofString "__init__") (Str.ofString "NoSheet.__init__") (Arguments.mk [] [Arg.mk (Str.ofString "self") Option.none (Pos.mk 22 17 22 21),Arg.mk (Str.ofString "why") Option.none (Pos.mk 22 23 22 26)] Option.none [] [] Option.none []) (FuncBody.stmts [Stmt.Expr (Expr.Call (Expr.Attribute (Expr.Name (Str.ofString "SheetError") (Pos.mk 23 8 23 18)) (Str.ofString "__init__") (Pos.mk 23 8 23 27)) [Expr.Name (Str.ofString "self") (Pos.mk 23 28 23 32),Expr.JoinedStr [Expr.Constant (Const.str (Str.ofString "no sheet: ")) 0 (Pos.mk 23 36 23 46),Expr.FormattedValue (Expr.Name (Str.ofString "why") (Pos.mk 23 47 23 50)) 114 Option.none (Pos.mk 23 46 23 53)] (Pos.mk 23 34 23 54)] [] (Pos.mk 23 8 23 55)) (Pos.mk 23 8 23 55),Stmt.Assign [Expr.Attribute (Expr.Name (Str.ofString "self") (Pos.mk 24 8 24 12)) (Str.ofString "why") (Pos.mk 24 8 24 16)] (Expr.Name (Str.ofString "why") (Pos.mk 24 19 24 22)) (Pos.mk 24 8 24 22)]) (Scope.mk ScopeKind.function [(Str.ofString "self", NameKind.local),(Str.ofString "why", NameKind.local),(Str.ofString "SheetError", NameKind.globalImplicit)] Bool.false Bool.false []) 3 [] N N N (S "sheetfold.errors" 187) Option.none (R 136) N 0)) #[]) ::
(nat_lit 138,tu #[S "why" 355]) ::
(nat_lit 139,Obj.mk (Y "dict") Option.none (Data.dict #[de P "__module__" 342 (S "sheetfold.errors" 187),de P "__firstlineno__" 346 (I 20 345),de P "__init__" 354 (R 137),de P "__static_attributes__" 356 (R 138),de P "__doc__" 357 N] 2) #[]) ::
(nat_lit 140,Obj.mk (Y "type") Option.none (Data.cls (ClassData.mk (Str.ofString "NoSheet") [R 24] [R 140,R 24,Y "ValueError", Y "Exception", Y "BaseException", Y "object"] 139 (Str.ofString "NoSheet") Bool.true [] [] Bool.false Option.none Bool.false)) #[Option.some (R 124),Option.none,Option.some (S "NoSheet" 335),Option.some (S "NoSheet" 343),Option.some (Value.builtin "ValueError.__new__"),Option.some (Value.bool Bool.true)]) ::
(nat_lit 143,tu #[R 24]) ::
(nat_lit 150,tu #[]) ::
(nat_lit 152,tu #[S "self" 375,S "why" 376]) ::
(nat_lit 153,tu #[]) ::
(nat_lit 155,Obj.mk (Y "code") Option.none (Data.fields #[S "__init__" 372,S "NoSolid.__init__" 373,S "/claim/cut.py" 374,I 27 0,I 2 0,I 0 0,I 0 0,I 3 0,R 150,Value.bool Bool.true,I 181 0,R 151,N,R 152,R 153,R 154,I 377 0,I 27 0,S "/claim/cut.py" 378]) #[]) ::
(nat_lit 156,Obj.mk (Y "function") Option.none (Data.func (FuncData.mk (Str.ofString "__init__") (Str.ofString "NoSolid.__init__") (Arguments.mk [] [Arg.mk (Str.ofString "self") Option.none (Pos.mk 27 17 27 21),Arg.mk (Str.ofString "why") Option.none (Pos.mk 27 23 27 26)] Option.none [] [] Option.none []) (FuncBody.stmts [Stmt.Expr (Expr.Call (Expr.Attribute (Expr.Name (Str.ofString "SheetError") (Pos.mk 28 8 28 18)) (Str.ofString "__init__") (Pos.mk 28 8 28 27)) [Expr.Name (Str.ofString "self") (Pos.mk 28 28 28 32),Expr.JoinedStr [Expr.Constant (Const.str (Str.ofString "no solid: ")) 0 (Pos.mk 28 36 28 46),Expr.FormattedValue (Expr.Name (Str.ofString "why") (Pos.mk 28 47 28 50)) 114 Option.none (Pos.mk 28 46 28 53)] (Pos.mk 28 34 28 54)] [] (Pos.mk 28 8 28 55)) (Pos.mk 28 8 28 55),Stmt.Assign [Expr.Attribute (Expr.Name (Str.ofString "self") (Pos.mk 29 8 29 12)) (Str.ofString "why") (Pos.mk 29 8 29 16)] (Expr.Name (Str.ofString "why") (Pos.mk 29 19 29 22)) (Pos.mk 29 8 29 22)]) (Scope.mk ScopeKind.function [(Str.ofString "self", NameKind.local),(Str.ofString "why", NameKind.local),(Str.ofString "SheetError", NameKind.globalImplicit)] Bool.false Bool.false []) 3 [] N N N (S "sheetfold.errors" 187) Option.none (R 155) N 0)) #[]) ::
(nat_lit 157,tu #[S "why" 380]) ::
(nat_lit 158,Obj.mk (Y "dict") Option.none (Data.dict #[de P "__module__" 367 (S "sheetfold.errors" 187),de P "__firstlineno__" 371 (I 25 370),de P "__init__" 379 (R 156),de P "__static_attributes__" 381 (R 157),de P "__doc__" 382 N] 2) #[]) ::
(nat_lit 159,Obj.mk (Y "type") Option.none (Data.cls (ClassData.mk (Str.ofString "NoSolid") [R 24] [R 159,R 24,Y "ValueError", Y "Exception", Y "BaseException", Y "object"] 158 (Str.ofString "NoSolid") Bool.true [] [] Bool.false Option.none Bool.false)) #[Option.some (R 143),Option.none,Option.some (S "NoSolid" 360),Option.some (S "NoSolid" 368),Option.some (Value.builtin "ValueError.__new__"),Option.some (Value.bool Bool.true)]) ::
(nat_lit 162,tu #[R 24]) ::
(nat_lit 169,tu #[]) ::
(nat_lit 171,tu #[S "self" 400,S "why" 401]) ::
(nat_lit 172,tu #[]) ::
(nat_lit 174,Obj.mk (Y "code") Option.none (Data.fields #[S "__init__" 397,S "NoTree.__init__" 398,S "/claim/cut.py" 399,I 32 0,I 2 0,I 0 0,I 0 0,I 3 0,R 169,Value.bool Bool.true,I 181 0,R 170,N,R 171,R 172,R 173,I 402 0,I 32 0,S "/claim/cut.py" 403]) #[]) ::
(nat_lit 175,Obj.mk (Y "function") Option.none (Data.func (FuncData.mk (Str.ofString "__init__") (Str.ofString "NoTree.__init__") (Arguments.mk [] [Arg.mk (Str.ofString "self") Option.none (Pos.mk 32 17 32 21),Arg.mk (Str.ofString "why") Option.none (Pos.mk 32 23 32 26)] Option.none [] [] Option.none []) (FuncBody.stmts [Stmt.Expr (Expr.Call (Expr.Attribute (Expr.Name (Str.ofString "SheetError") (Pos.mk 33 8 33 18)) (Str.ofString "__init__") (Pos.mk 33 8 33 27)) [Expr.Name (Str.ofString "self") (Pos.mk 33 28 33 32),Expr.JoinedStr [Expr.Constant (Const.str (Str.ofString "no tree: ")) 0 (Pos.mk 33 36 33 45),Expr.FormattedValue (Expr.Name (Str.ofString "why") (Pos.mk 33 46 33 49)) 114 Option.none (Pos.mk 33 45 33 52)] (Pos.mk 33 34 33 53)] [] (Pos.mk 33 8 33 54)) (Pos.mk 33 8 33 54),Stmt.Assign [Expr.Attribute (Expr.Name (Str.ofString "self") (Pos.mk 34 8 34 12)) (Str.ofString "why") (Pos.mk 34 8 34 16)] (Expr.Name (Str.ofString "why") (Pos.mk 34 19 34 22)) (Pos.mk 34 8 34 22)]) (Scope.mk ScopeKind.function [(Str.ofString "self", NameKind.local),(Str.ofString "why", NameKind.local),(Str.ofString "SheetError", NameKind.globalImplicit)] Bool.false Bool.false []) 3 [] N N N (S "sheetfold.errors" 187) Option.none (R 174) N 0)) #[]) ::
(nat_lit 176,tu #[S "why" 405]) ::
(nat_lit 177,Obj.mk (Y "dict") Option.none (Data.dict #[de P "__module__" 392 (S "sheetfold.errors" 187),de P "__firstlineno__" 396 (I 30 395),de P "__init__" 404 (R 175),de P "__static_attributes__" 406 (R 176),de P "__doc__" 407 N] 2) #[]) ::
(nat_lit 178,Obj.mk (Y "type") Option.none (Data.cls (ClassData.mk (Str.ofString "NoTree") [R 24] [R 178,R 24,Y "ValueError", Y "Exception", Y "BaseException", Y "object"] 177 (Str.ofString "NoTree") Bool.true [] [] Bool.false Option.none Bool.false)) #[Option.some (R 162),Option.none,Option.some (S "NoTree" 385),Option.some (S "NoTree" 393),Option.some (Value.builtin "ValueError.__new__"),Option.some (Value.bool Bool.true)]) ::
(nat_lit 181,tu #[R 24]) ::
(nat_lit 188,tu #[]) ::
(nat_lit 190,tu #[S "self" 425,S "at" 426]) ::
(nat_lit 191,tu #[]) ::
(nat_lit 193,Obj.mk (Y "code") Option.none (Data.fields #[S "__init__" 422,S "NoWay.__init__" 423,S "/claim/cut.py" 424,I 37 0,I 2 0,I 0 0,I 0 0,I 3 0,R 188,Value.bool Bool.true,I 181 0,R 189,N,R 190,R 191,R 192,I 427 0,I 37 0,S "/claim/cut.py" 428]) #[]) ::
(nat_lit 194,Obj.mk (Y "function") Option.none (Data.func (FuncData.mk (Str.ofString "__init__") (Str.ofString "NoWay.__init__") (Arguments.mk [] [Arg.mk (Str.ofString "self") Option.none (Pos.mk 37 17 37 21),Arg.mk (Str.ofString "at") Option.none (Pos.mk 37 23 37 25)] Option.none [] [] Option.none []) (FuncBody.stmts [Stmt.Expr (Expr.Call (Expr.Attribute (Expr.Name (Str.ofString "SheetError") (Pos.mk 38 8 38 18)) (Str.ofString "__init__") (Pos.mk 38 8 38 27)) [Expr.Name (Str.ofString "self") (Pos.mk 38 28 38 32),Expr.JoinedStr [Expr.Constant (Const.str (Str.ofString "no join leads on from place ")) 0 (Pos.mk 38 36 38 64),Expr.FormattedValue (Expr.Name (Str.ofString "at") (Pos.mk 38 65 38 67)) 114 Option.none (Pos.mk 38 64 38 70)] (Pos.mk 38 34 38 71)] [] (Pos.mk 38 8 38 72)) (Pos.mk 38 8 38 72),Stmt.Assign [Expr.Attribute (Expr.Name (Str.ofString "self") (Pos.mk 39 8 39 12)) (Str.ofString "at") (Pos.mk 39 8 39 15)] (Expr.Name (Str.ofString "at") (Pos.mk 39 18 39 20)) (Pos.mk 39 8 39 20)]) (Scope.mk ScopeKind.function [(Str.ofString "self", NameKind.local),(Str.ofString "at", NameKind.local),(Str.ofString "SheetError", NameKind.globalImplicit)] Bool.false Bool.false []) 3 [] N N N (S "sheetfold.errors" 187) Option.none (R 193) N 0)) #[]) ::
(nat_lit 195,tu #[S "at" 430]) ::
(nat_lit 196,Obj.mk (Y "dict") Option.none (Data.dict #[de P "__module__" 417 (S "sheetfold.errors" 187),de P "__firstlineno__" 421 (I 35 420),de P "__init__" 429 (R 194),de P "__static_attributes__" 431 (R 195),de P "__doc__" 432 N] 2) #[]) ::
(nat_lit 197,Obj.mk (Y "type") Option.none (Data.cls (ClassData.mk (Str.ofString "NoWay") [R 24] [R 197,R 24,Y "ValueError", Y "Exception", Y "BaseException", Y "object"] 196 (Str.ofString "NoWay") Bool.true [] [] Bool.false Option.none Bool.false)) #[Option.some (R 181),Option.none,Option.some (S "NoWay" 410),Option.some (S "NoWay" 418),Option.some (Value.builtin "ValueError.__new__"),Option.some (Value.bool Bool.true)]) ::
(nat_lit 200,tu #[R 24]) ::
(nat_lit 207,tu #[]) ::
(nat_lit 209,tu #[S "self" 450,S "edge" 451]) ::
(nat_lit 210,tu #[]) ::
(nat_lit 212,Obj.mk (Y "code") Option.none (Data.fields #[S "__init__" 447,S "Crowded.__init__" 448,S "/claim/cut.py" 449,I 42 0,I 2 0,I 0 0,I 0 0,I 3 0,R 207,Value.bool Bool.true,I 181 0,R 208,N,R 209,R 210,R 211,I 452 0,I 42 0,S "/claim/cut.py" 453]) #[]) ::
(nat_lit 213,Obj.mk (Y "function") Option.none (Data.func (FuncData.mk (Str.ofString "__init__") (Str.ofString "Crowded.__init__") (Arguments.mk [] [Arg.mk (Str.ofString "self") Option.none (Pos.mk 42 17 42 21),Arg.mk (Str.ofString "edge") Option.none (Pos.mk 42 23 42 27)] Option.none [] [] Option.none []) (FuncBody.stmts [Stmt.Expr (Expr.Call (Expr.Attribute (Expr.Name (Str.ofString "SheetError") (Pos.mk 43 8 43 18)) (Str.ofString "__init__") (Pos.mk 43 8 43 27)) [Expr.Name (Str.ofString "self") (Pos.mk 43 28 43 32),Expr.JoinedStr [Expr.Constant (Const.str (Str.ofString "four squares meet at ")) 0 (Pos.mk 43 36 43 57),Expr.FormattedValue (Expr.Name (Str.ofString "edge") (Pos.mk 43 58 43 62)) 114 Option.none (Pos.mk 43 57 43 65)] (Pos.mk 43 34 43 66)] [] (Pos.mk 43 8 43 67)) (Pos.mk 43 8 43 67),Stmt.Assign [Expr.Attribute (Expr.Name (Str.ofString "self") (Pos.mk 44 8 44 12)) (Str.ofString "edge") (Pos.mk 44 8 44 17)] (Expr.Name (Str.ofString "edge") (Pos.mk 44 20 44 24)) (Pos.mk 44 8 44 24)]) (Scope.mk ScopeKind.function [(Str.ofString "self", NameKind.local),(Str.ofString "edge", NameKind.local),(Str.ofString "SheetError", NameKind.globalImplicit)] Bool.false Bool.false []) 3 [] N N N (S "sheetfold.errors" 187) Option.none (R 212) N 0)) #[]) ::
(nat_lit 214,tu #[S "edge" 455]) ::
(nat_lit 215,Obj.mk (Y "dict") Option.none (Data.dict #[de P "__module__" 442 (S "sheetfold.errors" 187),de P "__firstlineno__" 446 (I 40 445),de P "__init__" 454 (R 213),de P "__static_attributes__" 456 (R 214),de P "__doc__" 457 N] 2) #[]) ::
(nat_lit 216,Obj.mk (Y "type") Option.none (Data.cls (ClassData.mk (Str.ofString "Crowded") [R 24] [R 216,R 24,Y "ValueError", Y "Exception", Y "BaseException", Y "object"] 215 (Str.ofString "Crowded") Bool.true [] [] Bool.false Option.none Bool.false)) #[Option.some (R 200),Option.none,Option.some (S "Crowded" 435),Option.some (S "Crowded" 443),Option.some (Value.builtin "ValueError.__new__"),Option.some (Value.bool Bool.true)]) ::
(nat_lit 219,tu #[]) ::
(nat_lit 221,tu #[S "thing" 465]) ::
(nat_lit 222,tu #[]) ::
(nat_lit 224,cc "is_whole" 462 463 464 46 1 219 181 220 (R 221) (R 222) 223 466 467) ::
(nat_lit 225,fu "is_whole" 16 "sheetfold.turns" 460 224) ::
(nat_lit 226,tu #[]) ::
(nat_lit 228,tu #[S "one" 472,S "other" 473]) ::
(nat_lit 229,tu #[]) ::
(nat_lit 231,cc "added" 469 470 471 48 2 226 181 227 (R 228) (R 229) 230 474 475) ::
(nat_lit 232,fu "added" 17 "sheetfold.turns" 460 231) ::
(nat_lit 233,tu #[]) ::
(nat_lit 235,tu #[S "spot" 480]) ::
(nat_lit 236,tu #[]) ::
(nat_lit 238,cc "negated" 477 478 479 50 1 233 181 234 (R 235) (R 236) 237 481 482) ::
(nat_lit 239,fu "negated" 18 "sheetfold.turns" 460 238) ::
(nat_lit 240,tu #[]) ::
(nat_lit 242,tu #[S "one" 487,S "other" 488]) ::
(nat_lit 243,tu #[]) ::
(nat_lit 245,cc "cross" 484 485 486 52 2 240 181 241 (R 242) (R 243) 244 489 490) ::
(nat_lit 246,fu "cross" 19 "sheetfold.turns" 460 245) ::
(nat_lit 247,tu #[]) ::
(nat_lit 250,cc "turned" 492 493 494 54 2 247 181 248 N N 249 495 496) ::
(nat_lit 251,fu "turned" 20 "sheetfold.turns" 460 250) ::
(nat_lit 252,tu #[]) ::
(nat_lit 254,tu #[S "first" 501,S "second" 502]) ::
(nat_lit 255,tu #[]) ::
(nat_lit 257,cc "joined_turns" 498 499 500 56 2 252 181 253 (R 254) (R 255) 256 503 504) ::
(nat_lit 258,fu "joined_turns" 21 "sheetfold.turns" 460 257) ::
(nat_lit 259,tu #[]) ::
(nat_lit 262,cc "turn_back" 506 507 508 58 1 259 181 260 N N 261 509 510) ::
(nat_lit 263,fu "turn_back" 22 "sheetfold.turns" 460 262) ::
(nat_lit 264,tu #[]) ::
(nat_lit 266,tu #[S "pose" 517]) ::
(nat_lit 267,tu #[]) ::
(nat_lit 269,cc "out_of" 514 515 516 61 1 264 181 265 (R 266) (R 267) 268 518 519) ::
(nat_lit 270,fu "out_of" 24 "sheetfold.moves" 512 269) ::
(nat_lit 271,tu #[I (-1) 524,I 0 525,I 1 526]) ::
(nat_lit 272,tu #[]) ::
(nat_lit 274,tu #[S "pose" 531,S "way" 532]) ::
(nat_lit 275,tu #[]) ::
(nat_lit 277,cc "unit_of" 528 529 530 65 2 272 181 273 (R 274) (R 275) 276 533 534) ::
(nat_lit 278,fu "unit_of" 27 "sheetfold.joins" 521 277) ::
(nat_lit 286,tu #[]) ::
(nat_lit 288,tu #[S "self" 551]) ::
(nat_lit 289,tu #[]) ::
(nat_lit 291,Obj.mk (Y "code") Option.none (Data.fields #[S "bend" 548,S "Join.bend" 549,S "/claim/cut.py" 550,I 69 0,I 1 0,I 0 0,I 0 0,I 3 0,R 286,Value.bool Bool.true,I 181 0,R 287,N,R 288,R 289,R 290,I 552 0,I 69 0,S "/claim/cut.py" 553]) #[]) ::
(nat_lit 292,Obj.mk (Y "function") Option.none (Data.func (FuncData.mk (Str.ofString "bend") (Str.ofString "Join.bend") (Arguments.mk [] [Arg.mk (Str.ofString "self") Option.none (Pos.mk 69 13 69 17)] Option.none [] [] Option.none []) (FuncBody.stmts [Stmt.Return (Option.some (Expr.Constant (Const.int 0) 0 (Pos.mk 70 15 70 16))) (Pos.mk 70 8 70 16)]) (Scope.mk ScopeKind.function [(Str.ofString "self", NameKind.local)] Bool.false Bool.false []) 3 [] N N N (S "sheetfold.joins" 521) Option.none (R 291) N 0)) #[]) ::
(nat_lit 293,tu #[]) ::
(nat_lit 295,tu #[S "self" 558,S "unit" 559,S "out" 560]) ::
(nat_lit 296,tu #[]) ::
(nat_lit 298,Obj.mk (Y "code") Option.none (Data.fields #[S "goes_on" 555,S "Join.goes_on" 556,S "/claim/cut.py" 557,I 72 0,I 3 0,I 0 0,I 0 0,I 3 0,R 293,Value.bool Bool.true,I 181 0,R 294,N,R 295,R 296,R 297,I 561 0,I 72 0,S "/claim/cut.py" 562]) #[]) ::
(nat_lit 299,Obj.mk (Y "function") Option.none (Data.func (FuncData.mk (Str.ofString "goes_on") (Str.ofString "Join.goes_on") (Arguments.mk [] [Arg.mk (Str.ofString "self") Option.none (Pos.mk 72 16 72 20),Arg.mk (Str.ofString "unit") Option.none (Pos.mk 72 22 72 26),Arg.mk (Str.ofString "out") Option.none (Pos.mk 72 28 72 31)] Option.none [] [] Option.none []) (FuncBody.stmts [Stmt.Return (Option.some (Expr.Name (Str.ofString "unit") (Pos.mk 73 15 73 19))) (Pos.mk 73 8 73 19)]) (Scope.mk ScopeKind.function [(Str.ofString "self", NameKind.local),(Str.ofString "unit", NameKind.local),(Str.ofString "out", NameKind.local)] Bool.false Bool.false []) 3 [] N N N (S "sheetfold.joins" 521) Option.none (R 298) N 0)) #[]) ::
(nat_lit 300,tu #[]) ::
(nat_lit 302,tu #[S "self" 567,S "pose" 568,S "way" 569,S "unit" 570,S "out" 571,S "edge" 572,S "beyond" 573,S "turn" 574]) ::
(nat_lit 303,tu #[]) ::
(nat_lit 305,Obj.mk (Y "code") Option.none (Data.fields #[S "led" 564,S "Join.led" 565,S "/claim/cut.py" 566,I 75 0,I 3 0,I 0 0,I 0 0,I 3 0,R 300,Value.bool Bool.true,I 181 0,R 301,N,R 302,R 303,R 304,I 575 0,I 75 0,S "/claim/cut.py" 576]) #[]) ::
(nat_lit 306,Obj.mk (Y "function") Option.none (Data.func (FuncData.mk (Str.ofString "led") (Str.ofString "Join.led") (Arguments.mk [] [Arg.mk (Str.ofString "self") Option.none (Pos.mk 75 12 75 16),Arg.mk (Str.ofString "pose") Option.none (Pos.mk 75 18 75 22),Arg.mk (Str.ofString "way") Option.none (Pos.mk 75 24 75 27)] Option.none [] [] Option.none []) (FuncBody.stmts [Stmt.Assign [Expr.Name (Str.ofString "unit") (Pos.mk 76 8 76 12)] (Expr.Call (Expr.Name (Str.ofString "unit_of") (Pos.mk 76 15 76 22)) [Expr.Name (Str.ofString "pose") (Pos.mk 76 23 76 27),Expr.Name (Str.ofString "way") (Pos.mk 76 29 76 32)] [] (Pos.mk 76 15 76 33)) (Pos.mk 76 8 76 33),Stmt.Assign [Expr.Name (Str.ofString "out") (Pos.mk 77 8 77 11)] (Expr.Call (Expr.Name (Str.ofString "out_of") (Pos.mk 77 14 77 20)) [Expr.Name (Str.ofString "pose") (Pos.mk 77 21 77 25)] [] (Pos.mk 77 14 77 26)) (Pos.mk 77 8 77 26),Stmt.Assign [Expr.Name (Str.ofString "edge") (Pos.mk 78 8 78 12)] (Expr.Call (Expr.Name (Str.ofString "cross") (Pos.mk 78 15 78 20)) [Expr.Name (Str.ofString "unit") (Pos.mk 78 21 78 25),Expr.Name (Str.ofString "out") (Pos.mk 78 27 78 30)] [] (Pos.mk 78 15 78 31)) (Pos.mk 78 8 78 31),Stmt.Assign [Expr.Name (Str.ofString "beyond") (Pos.mk 79 8 79 14)] (Expr.Call (Expr.Attribute (Expr.Name (Str.ofString "self") (Pos.mk 79 17 79 21)) (Str.ofString "goes_on") (Pos.mk 79 17 79 29)) [Expr.Name (Str.ofString "unit") (Pos.mk 79 30 79 34),Expr.Name (Str.ofString "out") (Pos.mk 79 36 79 39)] [] (Pos.mk 79 17 79 40)) (Pos.mk 79 8 79 40),Stmt.Assign [Expr.Name (Str.ofString "turn") (Pos.mk 80 8 80 12)] (Expr.Call (Expr.Name (Str.ofString "joined_turns") (Pos.mk 80 15 80 27)) [Expr.Call (Expr.Name (Str.ofString "turn_back") (Pos.mk 80 28 80 37)) [Expr.Tuple [Expr.Name (Str.ofString "unit") (Pos.mk 80 39 80 43),Expr.Name (Str.ofString "out") (Pos.mk 80 45 80 48),Expr.Name (Str.ofString "edge") (Pos.mk 80 50 80 54)] 0 (Pos.mk 80 38 80 55)] [] (Pos.mk 80 28 80 56),Expr.Tuple [Expr.Name (Str.ofString "beyond") (Pos.mk 80 59 80 65),Expr.Call (Expr.Name (Str.ofString "cross") (Pos.mk 80 67 80 72)) [Expr.Name (Str.ofString "edge") (Pos.mk 80 73 80 77),Expr.Name (Str.ofString "beyond") (Pos.mk 80 79 80 85)] [] (Pos.mk 80 67 80 86),Expr.Name (Str.ofString "edge") (Pos.mk 80 88 80 92)] 0 (Pos.mk 80 58 80 93)] [] (Pos.mk 80 15 80 94)) (Pos.mk 80 8 80 94),Stmt.Return (Option.some (Expr.Tuple [Expr.Call (Expr.Name (Str.ofString "added") (Pos.mk 81 16 81 21)) [Expr.Call (Expr.Name (Str.ofString "added") (Pos.mk 81 22 81 27)) [Expr.Subscript (Expr.Name (Str.ofString "pose") (Pos.mk 81 28 81 32)) (Expr.Constant (Const.int 0) 0 (Pos.mk 81 33 81 34)) (Pos.mk 81 28 81 35),Expr.Name (Str.ofString "unit") (Pos.mk 81 37 81 41)] [] (Pos.mk 81 22 81 42),Expr.Name (Str.ofString "beyond") (Pos.mk 81 44 81 50)] [] (Pos.mk 81 16 81 51),Expr.Call (Expr.Name (Str.ofString "turned") (Pos.mk 81 53 81 59)) [Expr.Name (Str.ofString "turn") (Pos.mk 81 60 81 64),Expr.Subscript (Expr.Name (Str.ofString "pose") (Pos.mk 81 66 81 70)) (Expr.Constant (Const.int 1) 0 (Pos.mk 81 71 81 72)) (Pos.mk 81 66 81 73)] [] (Pos.mk 81 53 81 74),Expr.Call (Expr.Name (Str.ofString "turned") (Pos.mk 81 76 81 82)) [Expr.Name (Str.ofString "turn") (Pos.mk 81 83 81 87),Expr.Subscript (Expr.Name (Str.ofString "pose") (Pos.mk 81 89 81 93)) (Expr.Constant (Const.int 2) 0 (Pos.mk 81 94 81 95)) (Pos.mk 81 89 81 96)] [] (Pos.mk 81 76 81 97)] 0 (Pos.mk 81 15 81 98))) (Pos.mk 81 8 81 98)]) (Scope.mk ScopeKind.function [(Str.ofString "self", NameKind.local),(Str.ofString "pose", NameKind.local),(Str.ofString "way", NameKind.local),(Str.ofString "unit", NameKind.local),(Str.ofString "out", NameKind.local),(Str.ofString "edge", NameKind.local),(Str.ofString "beyond", NameKind.local),(Str.ofString "turn", NameKind.local),(Str.ofString "unit_of", NameKind.globalImplicit),(Str.ofString "out_of", NameKind.globalImplicit),(Str.ofString "cross", NameKind.globalImplicit),(Str.ofString "joined_turns", NameKind.globalImplicit),(Str.ofString "turn_back", NameKind.globalImplicit),(Str.ofString "added", NameKind.globalImplicit),(Str.ofString "turned", NameKind.globalImplicit)] Bool.false Bool.false []) 3 [] N N N (S "sheetfold.joins" 521) Option.none (R 305) N 0)) #[]) ::
(nat_lit 307,tu #[]) ::
(nat_lit 308,Obj.mk (Y "dict") Option.none (Data.dict #[de P "__module__" 543 (S "sheetfold.joins" 521),de P "__firstlineno__" 547 (I 67 546),de P "bend" 554 (R 292),de P "goes_on" 563 (R 299),de P "led" 577 (R 306),de P "__static_attributes__" 578 (R 307),de P "__dict__" 580 (R 310),de P "__weakref__" 582 (R 311),de P "__doc__" 583 N] 4) #[]) ::
(nat_lit 309,Obj.mk (Y "type") Option.none (Data.cls (ClassData.mk (Str.ofString "Join") [Y "object"] [R 309,Y "object"] 308 (Str.ofString "Join") Bool.true [] [R 337,R 363] Bool.false Option.none Bool.false)) #[Option.none,Option.none,Option.some (S "Join" 536),Option.some (S "Join" 544),Option.some (Value.builtin "object.__new__"),Option.some (Value.bool Bool.true)]) ::
(nat_lit 310,Obj.mk (Y "getset_descriptor") Option.none (Data.fields #[S "__dict__" 579,R 309,Value.builtin "function.__dict__", Value.builtin "function.__dict__#set"]) #[]) ::
(nat_lit 311,Obj.mk (Y "getset_descriptor") Option.none (Data.fields #[S "__weakref__" 581,R 309,Value.builtin "ExceptionGroup.__weakref__", N]) #[]) ::
(nat_lit 314,tu #[R 309]) ::
(nat_lit 321,tu #[]) ::
(nat_lit 323,tu #[S "self" 601]) ::
(nat_lit 324,tu #[]) ::
(nat_lit 326,Obj.mk (Y "code") Option.none (Data.fields #[S "bend" 598,S "Up.bend" 599,S "/claim/cut.py" 600,I 84 0,I 1 0,I 0 0,I 0 0,I 3 0,R 321,Value.bool Bool.true,I 181 0,R 322,N,R 323,R 324,R 325,I 602 0,I 84 0,S "/claim/cut.py" 603]) #[]) ::
(nat_lit 327,Obj.mk (Y "function") Option.none (Data.func (FuncData.mk (Str.ofString "bend") (Str.ofString "Up.bend") (Arguments.mk [] [Arg.mk (Str.ofString "self") Option.none (Pos.mk 84 13 84 17)] Option.none [] [] Option.none []) (FuncBody.stmts [Stmt.Return (Option.some (Expr.Constant (Const.int 1) 0 (Pos.mk 85 15 85 16))) (Pos.mk 85 8 85 16)]) (Scope.mk ScopeKind.function [(Str.ofString "self", NameKind.local)] Bool.false Bool.false []) 3 [] N N N (S "sheetfold.joins" 521) Option.none (R 326) N 0)) #[]) ::
(nat_lit 328,tu #[]) ::
(nat_lit 330,tu #[S "self" 608,S "unit" 609,S "out" 610]) ::
(nat_lit 331,tu #[]) ::
(nat_lit 333,Obj.mk (Y "code") Option.none (Data.fields #[S "goes_on" 605,S "Up.goes_on" 606,S "/claim/cut.py" 607,I 87 0,I 3 0,I 0 0,I 0 0,I 3 0,R 328,Value.bool Bool.true,I 181 0,R 329,N,R 330,R 331,R 332,I 611 0,I 87 0,S "/claim/cut.py" 612]) #[]) ::
(nat_lit 334,Obj.mk (Y "function") Option.none (Data.func (FuncData.mk (Str.ofString "goes_on") (Str.ofString "Up.goes_on") (Arguments.mk [] [Arg.mk (Str.ofString "self") Option.none (Pos.mk 87 16 87 20),Arg.mk (Str.ofString "unit") Option.none (Pos.mk 87 22 87 26),Arg.mk (Str.ofString "out") Option.none (Pos.mk 87 28 87 31)] Option.none [] [] Option.none []) (FuncBody.stmts [Stmt.Return (Option.some (Expr.Name (Str.ofString "out") (Pos.mk 88 15 88 18))) (Pos.mk 88 8 88 18)]) (Scope.mk ScopeKind.function [(Str.ofString "self", NameKind.local),(Str.ofString "unit", NameKind.local),(Str.ofString "out", NameKind.local)] Bool.false Bool.false []) 3 [] N N N (S "sheetfold.joins" 521) Option.none (R 333) N 0)) #[]) ::
(nat_lit 335,tu #[]) ::
(nat_lit 336,Obj.mk (Y "dict") Option.none (Data.dict #[de P "__module__" 593 (S "sheetfold.joins" 521),de P "__firstlineno__" 597 (I 82 596),de P "bend" 604 (R 327),de P "goes_on" 613 (R 334),de P "__static_attributes__" 614 (R 335),de P "__doc__" 615 N] 2) #[]) ::
(nat_lit 337,Obj.mk (Y "type") Option.none (Data.cls (ClassData.mk (Str.ofString "Up") [R 309] [R 337,R 309,Y "object"] 336 (Str.ofString "Up") Bool.true [] [] Bool.false Option.none Bool.false)) #[Option.some (R 314),Option.none,Option.some (S "Up" 586),Option.some (S "Up" 594),Option.some (Value.builtin "object.__new__"),Option.some (Value.bool Bool.true)]) ::
(nat_lit 340,tu #[R 309]) ::
(nat_lit 347,tu #[]) ::
(nat_lit 349,tu #[S "self" 633]) ::
(nat_lit 350,tu #[]) ::
(nat_lit 352,Obj.mk (Y "code") Option.none (Data.fields #[S "bend" 630,S "Down.bend" 631,S "/claim/cut.py" 632,I 91 0,I 1 0,I 0 0,I 0 0,I 3 0,R 347,Value.bool Bool.true,I 181 0,R 348,N,R 349,R 350,R 351,I 634 0,I 91 0,S "/claim/cut.py" 635]) #[]) ::
(nat_lit 353,Obj.mk (Y "function") Option.none (Data.func (FuncData.mk (Str.ofString "bend") (Str.ofString "Down.bend") (Arguments.mk [] [Arg.mk (Str.ofString "self") Option.none (Pos.mk 91 13 91 17)] Option.none [] [] Option.none []) (FuncBody.stmts [Stmt.Return (Option.some (Expr.UnaryOp UnaryOp.USub (Expr.Constant (Const.int 1) 0 (Pos.mk 92 16 92 17)) (Pos.mk 92 15 92 17))) (Pos.mk 92 8 92 17)]) (Scope.mk ScopeKind.function [(Str.ofString "self", NameKind.local)] Bool.false Bool.false []) 3 [] N N N (S "sheetfold.joins" 521) Option.none (R 352) N 0)) #[]) ::
(nat_lit 354,tu #[]) ::
(nat_lit 356,tu #[S "self" 640,S "unit" 641,S "out" 642]) ::
(nat_lit 357,tu #[]) ::
(nat_lit 359,Obj.mk (Y "code") Option.none (Data.fields #[S "goes_on" 637,S "Down.goes_on" 638,S "/claim/cut.py" 639,I 94 0,I 3 0,I 0 0,I 0 0,I 3 0,R 354,Value.bool Bool.true,I 181 0,R 355,N,R 356,R 357,R 358,I 643 0,I 94 0,S "/claim/cut.py" 644]) #[]) ::
(nat_lit 360,Obj.mk (Y "function") Option.none (Data.func (FuncData.mk (Str.ofString "goes_on") (Str.ofString "Down.goes_on") (Arguments.mk [] [Arg.mk (Str.ofString "self") Option.none (Pos.mk 94 16 94 20),Arg.mk (Str.ofString "unit") Option.none (Pos.mk 94 22 94 26),Arg.mk (Str.ofString "out") Option.none (Pos.mk 94 28 94 31)] Option.none [] [] Option.none []) (FuncBody.stmts [Stmt.Return (Option.some (Expr.Call (Expr.Name (Str.ofString "negated") (Pos.mk 95 15 95 22)) [Expr.Name (Str.ofString "out") (Pos.mk 95 23 95 26)] [] (Pos.mk 95 15 95 27))) (Pos.mk 95 8 95 27)]) (Scope.mk ScopeKind.function [(Str.ofString "self", NameKind.local),(Str.ofString "unit", NameKind.local),(Str.ofString "out", NameKind.local),(Str.ofString "negated", NameKind.globalImplicit)] Bool.false Bool.false []) 3 [] N N N (S "sheetfold.joins" 521) Option.none (R 359) N 0)) #[]) ::
(nat_lit 361,tu #[]) ::
(nat_lit 362,Obj.mk (Y "dict") Option.none (Data.dict #[de P "__module__" 625 (S "sheetfold.joins" 521),de P "__firstlineno__" 629 (I 89 628),de P "bend" 636 (R 353),de P "goes_on" 645 (R 360),de P "__static_attributes__" 646 (R 361),de P "__doc__" 647 N] 2) #[]) ::
(nat_lit 363,Obj.mk (Y "type") Option.none (Data.cls (ClassData.mk (Str.ofString "Down") [R 309] [R 363,R 309,Y "object"] 362 (Str.ofString "Down") Bool.true [] [] Bool.false Option.none Bool.false)) #[Option.some (R 340),Option.none,Option.some (S "Down" 618),Option.some (S "Down" 626),Option.some (Value.builtin "object.__new__"),Option.some (Value.bool Bool.true)]) ::
(nat_lit 366,tu #[]) ::
(nat_lit 368,tu #[S "thing" 653]) ::
(nat_lit 369,tu #[]) ::
(nat_lit 371,cc "is_bend" 650 651 652 96 1 366 181 367 (R 368) (R 369) 370 654 655) ::
(nat_lit 372,fu "is_bend" 31 "sheetfold.joins" 521 371) ::
(nat_lit 373,tu #[]) ::
(nat_lit 375,tu #[S "bend" 660]) ::
(nat_lit 376,tu #[]) ::
(nat_lit 378,cc "join_of" 657 658 659 98 1 373 181 374 (R 375) (R 376) 377 661 662) ::
(nat_lit 379,fu "join_of" 32 "sheetfold.joins" 521 378) ::
(nat_lit 380,tu #[]) ::
(nat_lit 382,tu #[S "_law_script" 669,S "_law_k" 670]) ::
(nat_lit 383,tu #[]) ::
(nat_lit 385,cc "_law_cell" 666 667 668 107 2 380 181 381 (R 382) (R 383) 384 671 672) ::
(nat_lit 386,fu "_law_cell" 34 "law_sheetfold_k11_a_join_leads" 664 385) ::
(nat_lit 387,tu #[]) ::
(nat_lit 389,tu #[S "_law_found" 677]) ::
(nat_lit 390,tu #[]) ::
(nat_lit 392,cc "_law_whole" 674 675 676 111 1 387 181 388 (R 389) (R 390) 391 678 679) ::
(nat_lit 393,fu "_law_whole" 35 "law_sheetfold_k11_a_join_leads" 664 392) ::
(nat_lit 394,tu #[]) ::
(nat_lit 396,tu #[S "_law_one" 684,S "_law_other" 685,S "_law_a" 686,S "_law_b" 687,S "_law_c" 688,S "_law_d" 689,S "_law_e" 690,S "_law_f" 691]) ::
(nat_lit 397,tu #[]) ::
(nat_lit 399,cc "_law_cross" 681 682 683 113 2 394 181 395 (R 396) (R 397) 398 692 693) ::
(nat_lit 400,fu "_law_cross" 36 "law_sheetfold_k11_a_join_leads" 664 399) ::
(nat_lit 401,tu #[]) ::
(nat_lit 403,tu #[S "_law_one" 698,S "_law_other" 699]) ::
(nat_lit 404,tu #[]) ::
(nat_lit 406,cc "_law_dot" 695 696 697 117 2 401 181 402 (R 403) (R 404) 405 700 701) ::
(nat_lit 407,fu "_law_dot" 37 "law_sheetfold_k11_a_join_leads" 664 406) ::
(nat_lit 408,tu #[]) ::
(nat_lit 410,tu #[S "_law_one" 706,S "_law_many" 707,S "_law_other" 708]) ::
(nat_lit 411,tu #[]) ::
(nat_lit 413,cc "_law_sum" 703 704 705 119 3 408 181 409 (R 410) (R 411) 412 709 710) ::
(nat_lit 414,fu "_law_sum" 38 "law_sheetfold_k11_a_join_leads" 664 413) ::
(nat_lit 415,tu #[]) ::
(nat_lit 417,tu #[S "_law_pose_here" 715,S "_law_way" 716]) ::
(nat_lit 418,tu #[]) ::
(nat_lit 420,cc "_law_unit" 712 713 714 121 2 415 181 416 (R 417) (R 418) 419 717 718) ::
(nat_lit 421,fu "_law_unit" 39 "law_sheetfold_k11_a_join_leads" 664 420) ::
(nat_lit 422,tu #[]) ::
(nat_lit 424,tu #[S "_law_pose_here" 723,S "_law_way" 724,S "_law_bend" 725,S "_law_along" 726,S "_law_out" 727,S "_law_on" 728,S "_law_edge" 729,S "_law_told" 730,S "_law_unit_here" 731]) ::
(nat_lit 425,tu #[]) ::
(nat_lit 427,cc "_law_led" 720 721 722 123 3 422 181 423 (R 424) (R 425) 426 732 733) ::
(nat_lit 428,fu "_law_led" 40 "law_sheetfold_k11_a_join_leads" 664 427) ::
(nat_lit 429,tu #[]) ::
(nat_lit 432,cc "_law_pose" 735 736 737 134 2 429 181 430 N N 431 738 739) ::
(nat_lit 433,fu "_law_pose" 41 "law_sheetfold_k11_a_join_leads" 664 432) ::
(nat_lit 434,tu #[]) ::
(nat_lit 437,cc "_law_is_spot" 741 742 743 146 1 434 181 435 N N 436 744 745) ::
(nat_lit 438,fu "_law_is_spot" 42 "law_sheetfold_k11_a_join_leads" 664 437) ::
(nat_lit 439,tu #[]) ::
(nat_lit 442,cc "_law_is_pose" 747 748 749 150 1 439 181 440 N N 441 750 751) ::
(nat_lit 443,fu "_law_is_pose" 43 "law_sheetfold_k11_a_join_leads" 664 442) ::
(nat_lit 444,tu #[]) ::
(nat_lit 446,tu #[S "_law_cell_here" 756,S "_law_some" 757]) ::
(nat_lit 447,tu #[]) ::
(nat_lit 449,cc "_law_thing" 753 754 755 154 1 444 181 445 (R 446) (R 447) 448 758 759) ::
(nat_lit 450,fu "_law_thing" 44 "law_sheetfold_k11_a_join_leads" 664 449) ::
(nat_lit 451,tu #[]) ::
(nat_lit 453,tu #[S "_law_refusal" 764]) ::
(nat_lit 454,tu #[]) ::
(nat_lit 456,cc "_law_alone" 761 762 763 161 1 451 181 452 (R 453) (R 454) 455 765 766) ::
(nat_lit 457,fu "_law_alone" 45 "law_sheetfold_k11_a_join_leads" 664 456) ::
(nat_lit 458,tu #[]) ::
(nat_lit 460,tu #[S "_law_thing_here" 771,S "_law_found" 772,S "_law_refused" 773,S "_law_e" 774,S "_law_good" 775]) ::
(nat_lit 461,tu #[]) ::
(nat_lit 463,cc "_law_refused_well" 768 769 770 167 1 458 181 459 (R 460) (R 461) 462 776 777) ::
(nat_lit 464,fu "_law_refused_well" 46 "law_sheetfold_k11_a_join_leads" 664 463) ::
(nat_lit 465,tu #[]) ::
(nat_lit 467,tu #[S "_law_join" 782,S "_law_bend" 783]) ::
(nat_lit 468,tu #[]) ::
(nat_lit 470,cc "_law_of_class" 779 780 781 176 2 465 181 466 (R 467) (R 468) 469 784 785) ::
(nat_lit 471,fu "_law_of_class" 47 "law_sheetfold_k11_a_join_leads" 664 470) ::
(nat_lit 472,tu #[]) ::
(nat_lit 474,tu #[S "_law_bend" 790]) ::
(nat_lit 475,tu #[]) ::
(nat_lit 477,cc "_law_made" 787 788 789 182 1 472 181 473 (R 474) (R 475) 476 791 792) ::
(nat_lit 478,fu "_law_made" 48 "law_sheetfold_k11_a_join_leads" 664 477) ::
(nat_lit 479,tu #[]) ::
(nat_lit 481,tu #[S "_law_script" 797,S "_law_bend" 798,S "_law_way" 799,S "_law_pose_here" 800,S "_law_unit_here" 801,S "_law_thing_here" 802,S "_law_due" 803,S "_law_join" 804,S "_law_told" 805,S "_law_found" 806,S "_law_back" 807]) ::
(nat_lit 482,tu #[]) ::
(nat_lit 484,cc "law" 794 795 796 188 1 479 181 480 (R 481) (R 482) 483 808 809) ::
(nat_lit 485,fu "law" 49 "law_sheetfold_k11_a_join_leads" 664 484)::[]
def kA:List Addr:=[2,3,15,22,23,24,25,28,35,36,37,40,47,48,49,52,59,60,61,64,71,72,73,76,83,84,85,88,95,96,97,100,107,108,109,112,119,120,121,124,131,133,134,136,137,138,139,140,143,150,152,153,155,156,157,158,159,162,169,171,172,174,175,176,177,178,181,188,190,191,193,194,195,196,197,200,207,209,210,212,213,214,215,216,219,221,222,224,225,226,228,229,231,232,233,235,236,238,239,240,242,243,245,246,247,250,251,252,254,255,257,258,259,262,263,264,266,267,269,270,271,272,274,275,277,278,286,288,289,291,292,293,295,296,298,299,300,302,303,305,306,307,308,309,310,311,314,321,323,324,326,327,328,330,331,333,334,335,336,337,340,347,349,350,352,353,354,356,357,359,360,361,362,363,366,368,369,371,372,373,375,376,378,379,380,382,383,385,386,387,389,390,392,393,394,396,397,399,400,401,403,404,406,407,408,410,411,413,414,415,417,418,420,421,422,424,425,427,428,429,432,433,434,437,438,439,442,443,444,446,447,449,450,451,453,454,456,457,458,460,461,463,464,465,467,468,470,471,472,474,475,477,478,479,481,482,484,485]
theorem kE (P:Params):kA=(KH P).map (·.1):=by kernel_rfl
noncomputable abbrev hk:Hook:=kHook KH kA kE
noncomputable def tfQ (tr:(String->Option Builtin)->Program->World->Nat->Option Value->Nat->Shared->Thread->Option Shared)(tb:String->Option Builtin)(p:Program)(w:World)(N:Nat)(s:Shared):Option Shared :=
 match s.heap.isNs mainGlobals&&s.gens.size==0 with
 | true=>(tr tb p w s.heap.objs.size (s.heap.nsMap mainGlobals "__annotations__") N s (topStub p)).bind fun u =>
   match staticsOk (importedModules p.main.body) s.heap u.heap&&namesBound p u.heap&&gensDone u&&laidKept s.heap u.heap with
   | true=>some u
   | false=>none
 | false=>none
theorem tf_q (p:Program)(w:World)(N:Nat):topFrom treeTable p w N=tfQ Fast.tw14082659384304107361 Fast.tw14364793385576792824 p w N:=by
 rw [← Fast.te14082659384304107361,← Fast.te14364793385576792824]
 rfl
noncomputable def opQ (p:Program)(w:World)(N:Nat):Option Shared :=
 (Fast.tw10274390034422433532 Fast.tw14364793385576792824 (opening p) w N (Fast.tw1435165496053646825 (opening p)).1 (Fast.tw1435165496053646825 (opening p)).2).bind (Fast.tw14289696077712309145 p)
theorem op_q (p:Program)(w:World)(N:Nat):fencedOpening treeTable p w N=opQ p w N:=by
 unfold opQ
 rw [← Fast.te10274390034422433532,← Fast.te14364793385576792824,← Fast.te1435165496053646825,← Fast.te14289696077712309145]
 rfl
noncomputable def endsQ (p:Program)(w:World)(N:Nat):Option Shared:=(opQ p w N).bind (tfQ Fast.tw14082659384304107361 Fast.tw14364793385576792824 p w N)
theorem jz (p:Program)(w:World)(N:Nat):openEnds treeTable p w N=endsQ p w N:=by
 unfold openEnds endsQ
 rw [op_q,tf_q]
def n1 {A B:Type}:A×B->A|(a,_)=>a
def n2 {A B C D:Type}:A×B×C×D->B×C|(_,b,c,_)=>(b,c)
def n4 {A B C D E F:Type}:A×B×C×D×E×F->D×E|(_,_,_,d,e,_)=>(d,e)
def n6 {A B C D E F G:Type}:A×B×C×D×E×F×G->F|(_,_,_,_,_,f,_)=>f
def n7 {A B C D E F G:Type}:A×B×C×D×E×F×G->G|(_,_,_,_,_,_,g)=>g
theorem fin {σ A B C D E F G Y:Type}{o:Option σ}{f:σ->A×B×C×D×E×F×G}{g:σ->Y}{x:A×B×C×D×E×F×G}{y:Y}(h1:o.map (fun s=>n1 (f s))=some x.1)(h2:o.map (fun s=>n2 (f s))=some (x.2.1,x.2.2.1))(h4:o.map (fun s=>n4 (f s))=some (x.2.2.2.1,x.2.2.2.2.1))(h6:o.map (fun s=>n6 (f s))=some x.2.2.2.2.2.1)(h7:o.map (fun s=>n7 (f s))=some x.2.2.2.2.2.2)(hy:o.map g=some y):o.map (fun s=>(f s,g s))=some (x,y):=by
 cases o with
 | none=>cases h1
 | some s =>
  simp only [Option.map_some,Option.some.injEq] at h1 h2 h4 h6 h7 hy ⊢
  generalize f s=z at h1 h2 h4 h6 h7 ⊢
  obtain ⟨a,b,c,d,e,i,j⟩:=z
  obtain ⟨a',b',c',d',e',i',j'⟩:=x
  simp only [n1,n2,n4,n6,n7,Prod.mk.injEq] at h1 h2 h4 h6 h7
  obtain ⟨h2,h3⟩:=h2
  obtain ⟨h4,h5⟩:=h4
  subst h1 h2 h3 h4 h5 h6 h7 hy
  rfl
noncomputable abbrev sn (s:Shared):=openSeen vw [] (importedModules PySem.Challenge.pw_sheetfold_k11_a_join_leads.main.body) (fun s=>xlAt vw [] s&&recOk (RowW.records (OpenRow.toRowW (OpenLaw.row PySem.Challenge.rw_sheetfold_k11_a_join_leads))) s) true s
set_option maxHeartbeats 0 in
theorem leY (w:World):(openEnds treeTable PySem.Challenge.pw_sheetfold_k11_a_join_leads w 9784).map (Hook.obs hk)=some (Hook.val hk w):=by
 rw [jz]
 kernel_rfl
set_option maxHeartbeats 0 in
theorem le1 (w:World):(openEnds treeTable PySem.Challenge.pw_sheetfold_k11_a_join_leads w 9784).map (fun s=>n1 (sn s))=some (openGood vw []).1:=by
 unfold sn
 rw [jz,Fast.te4187177175401517315]
 kernel_rfl
set_option maxHeartbeats 0 in
theorem le2 (w:World):(openEnds treeTable PySem.Challenge.pw_sheetfold_k11_a_join_leads w 9784).map (fun s=>n2 (sn s))=some ((openGood vw []).2.1,(openGood vw []).2.2.1):=by
 unfold sn
 rw [jz,Fast.te4187177175401517315]
 kernel_rfl
set_option maxHeartbeats 0 in
theorem le4 (w:World):(openEnds treeTable PySem.Challenge.pw_sheetfold_k11_a_join_leads w 9784).map (fun s=>n4 (sn s))=some ((openGood vw []).2.2.2.1,(openGood vw []).2.2.2.2.1):=by
 unfold sn
 rw [jz,Fast.te4187177175401517315]
 kernel_rfl
set_option maxHeartbeats 0 in
theorem le6 (w:World):(openEnds treeTable PySem.Challenge.pw_sheetfold_k11_a_join_leads w 9784).map (fun s=>n6 (sn s))=some (openGood vw []).2.2.2.2.2.1:=by
 unfold sn
 rw [jz,Fast.te4187177175401517315]
 kernel_rfl
set_option maxHeartbeats 0 in
theorem le7 (w:World):(openEnds treeTable PySem.Challenge.pw_sheetfold_k11_a_join_leads w 9784).map (fun s=>n7 (sn s))=some (openGood vw []).2.2.2.2.2.2:=by
 unfold sn
 rw [jz,Fast.te4187177175401517315]
 kernel_rfl
theorem left:LeftO PySem.Challenge.pw_sheetfold_k11_a_join_leads vw [] (fun s=>xlAt vw [] s&&recOk (RowW.records (OpenRow.toRowW (OpenLaw.row PySem.Challenge.rw_sheetfold_k11_a_join_leads))) s) (Hook.obs hk) (Hook.val hk) 9784:=fun w=>fin (le1 w) (le2 w) (le4 w) (le6 w) (le7 w) (leY w)
end HD
namespace L2
open PySem PySem.Spec PyProof.Rows
abbrev Key:=Sum Int Str
def qcr:Key->Value->Bool
 | .inl k,v=>Value.isInt k v
 | .inr x,v=>Value.isStrOf x v
def keyH (w:World):Key->Int
 | .inl k=>hashInt k
 | .inr x=>hashStr w x
theorem zg:∀ {k:Key} {v:Value},qcr k v=true->(∃ i t,k=Sum.inl i/\v=Value.int i t)\/(∃ x t,k=Sum.inr x/\v=Value.str x t)
 | .inl i,v,h=>by
  obtain ⟨t,e⟩:=Value.isInt_shape (k:=i) (v:=v) h
  exact .inl ⟨i,t,rfl,e⟩
 | .inr x,v,h=>by
  obtain ⟨t,e⟩:=Value.isStrOf_shape (x:=x) (v:=v) h
  exact .inr ⟨x,t,rfl,e⟩
theorem qcW (a b:Int):decide ((Sum.inl a:Key)=Sum.inl b)=(a==b):=by
 by_cases e:a=b
 ·subst e;simp
 ·have h:¬ (Sum.inl a:Key)=Sum.inl b:=fun q=>e (Sum.inl.inj q)
  rw [decide_eq_false h]
  exact (beq_eq_false_iff_ne.mpr e).symm
theorem qcZ (a b:Str):decide ((Sum.inr a:Key)=Sum.inr b)=decide (a=b):=by
 by_cases e:a=b
 ·subst e;simp
 ·have h:¬ (Sum.inr a:Key)=Sum.inr b:=fun q=>e (Sum.inr.inj q)
  rw [decide_eq_false h,decide_eq_false e]
theorem qcX (a:Int)(b:Str):decide ((Sum.inl a:Key)=Sum.inr b)=false:=decide_eq_false (fun q=>nomatch q)
theorem qcY (a:Str)(b:Int):decide ((Sum.inr a:Key)=Sum.inl b)=false:=decide_eq_false (fun q=>nomatch q)
def wL (prog:Program)(w:World):PySem.KeyKind prog w Key where
 is:=qcr
 hash:=keyH w
 inj:=fun v a b ha hb=>by
  rcases zg ha with ⟨i,t,rfl,rfl⟩|⟨x,t,rfl,rfl⟩
  ·rcases zg hb with ⟨j,u,rfl,e⟩|⟨y,u,rfl,e⟩
   ·injection e with e1 _;rw [e1]
   ·exact nomatch e
  ·rcases zg hb with ⟨j,u,rfl,e⟩|⟨y,u,rfl,e⟩
   ·exact nomatch e
   ·injection e with e1 _;rw [e1]
 byValue:=fun k v h=>by
  rcases zg h with ⟨i,t,rfl,rfl⟩|⟨x,t,rfl,rfl⟩<;>rfl
 pyHash:=fun hv h=>by
  rcases zg hv with ⟨i,t,rfl,rfl⟩|⟨x,t,rfl,rfl⟩
  ·exact wpAny_pyHash_int h
  ·exact wpAny_pyHash_str h
 eqBool:=fun hu hv h=>by
  rcases zg hu with ⟨i,t,rfl,rfl⟩|⟨x,t,rfl,rfl⟩
  ·rcases zg hv with ⟨j,u,rfl,rfl⟩|⟨y,u,rfl,rfl⟩
   ·rw [qcW] at h;exact wpAny_eqBool_int h
   ·rw [qcX] at h;exact SeqAt.EqAt.int_str i t y u _ _ _ _ h
  ·rcases zg hv with ⟨j,u,rfl,rfl⟩|⟨y,u,rfl,rfl⟩
   ·rw [qcY] at h;exact SeqAt.EqAt.str_int x t j u _ _ _ _ h
   ·rw [qcZ] at h;exact wpAny_eqBool_str h
 «strs»:=fun k x t v h=>by
  rcases zg h with ⟨i,u,rfl,e⟩|⟨y,u,rfl,e⟩
  ·exact nomatch e
  ·injection e with e1 _
   subst e1
   cases v<;>rfl
inductive V where
 | non|bl (b:Bool)|int (i:Int)|str (x:Str)|byt (b:Array UInt8)|flt (b:UInt64)|ref (a:Addr)|ty (n:String)
 deriving DecidableEq
def RelV:V->Value->Prop
 | .non,u=>u=Value.none
 | .bl b,u=>u=Value.bool b
 | .int i,u=>∃ t,u=Value.int i t
 | .str x,u=>∃ t,u=Value.str x t
 | .byt b,u=>∃ t,u=Value.bytes b t
 | .flt b,u=>∃ t,u=Value.float b t
 | .ref a,u=>u=Value.ref a
 | .ty n,u=>u=Value.type n
abbrev Vals:List V->List Value->Prop:=Paired RelV
theorem Vals.length {xs:List V}{us:List Value}(r:Vals xs us):xs.length=us.length:=Paired.length r
theorem Vals.get:∀ {xs:List V} {us:List Value} {i:Nat} {x:V},Vals xs us->xs[i]?=some x->∃ u,us[i]?=some u/\RelV x u
 | _,_,_,_,.nil,e=>by simp at e
 | _,_,0,_,.cons r _,e=>by simp at e;subst e;exact ⟨_,rfl,r⟩
 | _,_,i+1,x,.cons _ t,e=>by
  obtain ⟨u,h1,h2⟩:=Vals.get (i:=i) (x:=x) t (by simpa using e)
  exact ⟨u,by simpa using h1,h2⟩
theorem Vals.append:∀ {xs ys:List V} {us ws:List Value},Vals xs us->Vals ys ws->Vals (xs++ys) (us++ws)
 | _,_,_,_,.nil,s=>s
 | _,_,_,_,.cons r t,s=>.cons r (Vals.append t s)
theorem Vals.take:∀ {xs:List V} {us:List Value} (n:Nat),Vals xs us->Vals (xs.take n) (us.take n)
 | _,_,0,_=>.nil
 | _,_,_+1,.nil=>.nil
 | _,_,n+1,.cons r t=>.cons r (Vals.take n t)
theorem Vals.drop:∀ {xs:List V} {us:List Value} (n:Nat),Vals xs us->Vals (xs.drop n) (us.drop n)
 | _,_,0,r=>r
 | _,_,_+1,.nil=>.nil
 | _,_,n+1,.cons _ t=>Vals.drop n t
def RelO:Option V->Option Value->Prop
 | some v,some u=>RelV v u
 | none,none=>True
 | _,_=>False
def KV {κ:Type}:List (κ×V)->List (κ×Value)->Prop:=Paired fun (p:κ×V) (q:κ×Value)=>p.1=q.1/\RelV p.2 q.2
def kV:Key->V
 | .inl i=>.int i
 | .inr x=>.str x
inductive HO where
 | lst (xs:List V)
 | tup (xs:List V)
 | dK (kvs:List (Key×V))|dT (kvs:List (List Key×V))
 | set (S:Int->Bool) (n:Nat)
 | ins (C dx:Addr) (fs:List (Str×V))
 | own (x:Addr)
 | xd (fs:List (Str×V))
 | met (f x:Addr)
 | rng (lo hi:Int)
 | frz (o:Obj) (u:HO)
 | tbl (ps:Array Value)
 | ext (φ:Heap->Prop)
abbrev Hp:=Addr->Option HO
def upd (H:Hp)(a:Addr)(o:HO):Hp:=fun b=>if b=a then some o else H b
theorem qN {H:Hp}{a:Addr}{o:HO}:upd H a o a=some o:=by unfold upd;rw [if_pos rfl]
theorem qJ {H:Hp}{a b:Addr}{o:HO}(h:b≠a):upd H a o b=H b:=by unfold upd;rw [if_neg h]
theorem qQ {H:Hp}{a b:Addr}{o:HO}(h:H a=some o)(h':H b=none):a≠b:=by
 intro e;subst e;rw [h] at h';cases h'
section
variable (P:Program)(w:World)
def zE (H:Hp)(h:Heap)(a:Addr):HO->Prop
 | .lst xs=>xs.length<=sizeLine/\∃ (its:List Value) (n:Nat),Vals xs its/\h.get? a=some { cls:=.type "list", data:=.seq its.toArray n }
 | .tup xs=>xs.length<=sizeLine/\∃ its:List Value,Vals xs its/\IsTup h a its.toArray
 | .dK kvs=>kvs.length<=sizeLine/\(a==sysModules)=false/\∃ vs,KV kvs vs/\h.DictOf (wL P w) a vs
 | .dT kvs=>kvs.length<=sizeLine/\(a==sysModules)=false/\∃ xs:List (List Key×Addr×Value),
   Paired (fun (p:List Key×V) (q:List Key×Addr×Value)=>p.1=q.1/\H q.2.1=some (.tup (p.1.map kV))/\RelV p.2 q.2.2) kvs xs/\
   ∃ o es ep,h.get? a=some o/\o.ExactDict/\o.data=.dict es ep/\es.toList=xs.map (entryOfKey (tupleKind (wL P w)))/\(xs.map (·.1)).Nodup
 | .set S n=>h.SetOf (intKind P w) a S n
 | .ins C dx fs=>H dx=some (.own a)/\fs.length<=1000/\dx≠a/\h.get? a=some (PySem.W.instObj C dx)/\
   ∃ mA,h.Ns1 dx mA/\(∀ f,RelO (fs.lookup f) (mA f))/\PySem.Within mA (fs.map (·.1))
 | .own _=>∃ o,h.get? a=some o
 | .xd fs=>∃ mA,h.Ns1 a mA/\∀ f,RelO (fs.lookup f) (mA f)
 | .rng lo hi=>∃ t u v,h.get? a=some { cls:=.type "range", data:=.fields #[.int lo t,.int hi u,.int 1 v] }
 | .frz o u=>h.get? a=some o/\zE H h a u
 | .tbl ps=>h.get? a=some { cls:=.none,data:=.fields ps }
 | .met f x=>h.get? a=some (PySem.W.methodObj (.ref f) (.ref x))
 | .ext φ=>φ h/\(∃ o,h.get? a=some o)/\∀ h1 h2:Heap,φ h1->(∀ o,h1.get? a=some o->h2.get? a=some o)->φ h2
def HOk (H:Hp)(h:Heap):Prop:=∀ a o,H a=some o->zE P w H h a o
end
section
variable {P:Program}{w:World}{H H':Hp}{h h':Heap}{a:Addr}{o:HO}
theorem zE.lt (x:zE P w H h a o):a<h.objs.size:=by
 cases o with
 | lst xs=>obtain ⟨_,_,_,_,e⟩:=x;exact Heap.lt_size e
 | tup xs=>obtain ⟨_,_,_,p⟩:=x;exact p.lt
 | dK kvs=>obtain ⟨_,_,_,_,o,_,_,e,_⟩:=x;exact Heap.lt_size e
 | dT kvs=>obtain ⟨_,_,_,_,o,_,_,e,_⟩:=x;exact Heap.lt_size e
 | set S n=>obtain ⟨o,_,_,_,e,_⟩:=x;exact Heap.lt_size e
 | ins C dx fs=>obtain ⟨_,_,_,e,_⟩:=x;exact Heap.lt_size e
 | own y=>obtain ⟨_,e⟩:=x;exact Heap.lt_size e
 | xd fs=>obtain ⟨_,⟨_,_,_,e,_⟩,_⟩:=x;exact Heap.lt_size e
 | rng lo hi=>obtain ⟨_,_,_,e⟩:=x;exact Heap.lt_size e
 | frz ob u=>obtain ⟨e,_⟩:=x;exact Heap.lt_size e
 | tbl ps=>exact Heap.lt_size (show h.get? a=some _ from x)
 | met f y=>exact Heap.lt_size (show h.get? a=some _ from x)
 | ext φ=>obtain ⟨_,⟨_,e⟩,_⟩:=x;exact Heap.lt_size e
theorem Paired.mapP {α β:Type}{F G:α->β->Prop}:∀ {l₁:List α} {l₂:List β},Paired F l₁ l₂->(∀ a b,F a b->G a b)->Paired G l₁ l₂
 | _,_,.nil,_=>.nil
 | _,_,.cons r t,f=>.cons (f _ _ r) (Paired.mapP t f)
theorem zE.stay (x:zE P w H h a o)(k:∀ b u,(b=a\/H b=some (.own a))->h.get? b=some u->h'.get? b=some u)
  (ho:∀ b,H b=some (.own a)->H' b=some (.own a)) (ht:∀ b xs,H b=some (.tup xs)->H' b=some (.tup xs)):zE P w H' h' a o:=by
 induction o with
 | lst xs=>obtain ⟨z,its,n,r,e⟩:=x;exact ⟨z,its,n,r,k _ _ (.inl rfl) e⟩
 | tup xs=>obtain ⟨z,its,r,ob,e,c⟩:=x;exact ⟨z,its,r,ob,k _ _ (.inl rfl) e,c⟩
 | dK kvs=>obtain ⟨z,y,vs,r,ob,es,ep,e,c⟩:=x;exact ⟨z,y,vs,r,ob,es,ep,k _ _ (.inl rfl) e,c⟩
 | dT kvs =>
  obtain ⟨z,y,xs,r,ob,es,ep,e,c⟩:=x
  exact ⟨z,y,xs,Paired.mapP r fun p q z=>⟨z.1,ht _ _ z.2.1,z.2.2⟩,ob,es,ep,k _ _ (.inl rfl) e,c⟩
 | set S n=>obtain ⟨ob,es,ep,t,e,c⟩:=x;exact ⟨ob,es,ep,t,k _ _ (.inl rfl) e,c⟩
 | ins C dx fs =>
  obtain ⟨d,z,ne,e,mA,⟨od,es,ep,e2,c⟩,r⟩:=x
  exact ⟨ho _ d,z,ne,k _ _ (.inl rfl) e,mA,⟨od,es,ep,k _ _ (.inr d) e2,c⟩,r⟩
 | own y=>obtain ⟨ob,e⟩:=x;exact ⟨ob,k _ _ (.inl rfl) e⟩
 | xd fs=>obtain ⟨mA,⟨od,es,ep,e,c⟩,r⟩:=x;exact ⟨mA,⟨od,es,ep,k _ _ (.inl rfl) e,c⟩,r⟩
 | rng lo hi=>obtain ⟨t,u,v,e⟩:=x;exact ⟨t,u,v,k _ _ (.inl rfl) e⟩
 | frz ob u ih=>obtain ⟨e,q⟩:=x;exact ⟨k _ _ (.inl rfl) e,ih q⟩
 | tbl ps =>
  have e:h.get? a=some { cls:=.none,data:=.fields ps }:=x
  show h'.get? a=some { cls:=.none,data:=.fields ps }
  exact k a _ (.inl rfl) e
 | met f y =>
  have e:h.get? a=some (PySem.W.methodObj (.ref f) (.ref y)):=x
  show h'.get? a=some (PySem.W.methodObj (.ref f) (.ref y))
  exact k a _ (.inl rfl) e
 | ext φ=>obtain ⟨p,⟨o,e⟩,st⟩:=x;exact ⟨st _ _ p fun o q=>k _ _ (.inl rfl) q,⟨o,k _ _ (.inl rfl) e⟩,st⟩
theorem HOk.lt (x:HOk P w H h)(e:H a=some o):a<h.objs.size:=(x a o e).lt
theorem HOk.fresh (x:HOk P w H h)(e:h.objs.size<=a):H a=none:=by
 cases q:H a with
 | none=>rfl
 | some u=>exact absurd (Nat.lt_of_lt_of_le (x.lt q) e) (Nat.lt_irrefl _)
theorem HOk.kept (x:HOk P w H h)(k:∀ b u,h.get? b=some u->h'.get? b=some u):HOk P w H h':=fun a o e =>
 (x a o e).stay (fun b u _ q=>k b u q) (fun _ q=>q) fun _ _ q=>q
theorem HOk.laid (x:HOk P w H h)(k:∀ b u,h.get? b=some u->h'.get? b=some u)(hp:h.objs.size<=a)(new:zE P w (upd H a o) h' a o):HOk P w (upd H a o) h':=fun b u e=>by
 have hn:=x.fresh hp
 by_cases hb:b=a
 ·subst hb;rw [qN] at e;cases e;exact new
 ·rw [qJ hb] at e
  exact (x b u e).stay (fun c v _ q=>k c v q) (fun c q=>by rw [qJ (qQ q hn)];exact q) fun c xs q=>by rw [qJ (qQ q hn)];exact q
end
def Rd (H:Hp)(a:Addr)(u:HO):Prop:=H a=some u\/∃ o,H a=some (.frz o u)
theorem Rd.ok {P:Program}{w:World}{H:Hp}{h:Heap}{a:Addr}{u:HO}(r:Rd H a u)(x:HOk P w H h):zE P w H h a u:=by
 rcases r with r|⟨o,r⟩
 ·exact x a u r
 ·obtain ⟨_,q⟩:=x a _ r
  exact q
def Mut:Option HO->Prop
 | some (.lst _)=>True
 | some (.dK _)=>True
 | some (.dT _)=>True
 | some (.set _ _)=>True
 | some (.ins _ _ _)=>True
 | some (.ext _)=>True
 | _=>False
section
variable {P:Program}{w:World}{H:Hp}{h h':Heap}{x e:Addr}{o':HO}
theorem HOk.write (ok:HOk P w H h)(mu:Mut (H x))(he:e=x\/H e=some (.own x))(k:∀ b u,b≠e->h.get? b=some u->h'.get? b=some u)(heo:∃ u,h'.get? e=some u)
  (new:zE P w (upd H x o') h' x o'):HOk P w (upd H x o') h':=fun b u q=>by
 have nown:∀ c y,H c=some (.own y)->c≠x:=fun c y r z=>by subst z;rw [r] at mu;exact mu
 have ntup:∀ c xs,H c=some (.tup xs)->c≠x:=fun c xs r z=>by subst z;rw [r] at mu;exact mu
 by_cases hb:b=x
 ·subst hb;rw [qN] at q;cases q;exact new
 ·rw [qJ hb] at q
  by_cases hbe:b=e
  ·have q':H b=some (.own x):=by
    rcases he with z|z
    ·exact absurd (hbe.trans z) hb
    ·rw [hbe];exact z
   rw [q] at q';cases q'
   obtain ⟨v,hv⟩:=heo
   exact ⟨v,by rw [hbe];exact hv⟩
  ·refine (ok b u q).stay (fun c v hc r=>k c v ?_ r) (fun c r=>by rw [qJ (nown c b r)];exact r) fun c xs r=>by rw [qJ (ntup c xs r)];exact r
   rcases hc with rfl|hc
   ·exact hbe
   ·rintro rfl
    rcases he with z|z
    ·exact nown c b hc z
    ·rw [hc] at z;cases z;exact hb rfl
end
structure Un (fs ex:List Addr)(H H':Hp)(h h':Heap):Prop where
 keep:∀ b o,h.get? b=some o->H b=none->b∉fs->b∉ex->h'.get? b=some o
 slot:∀ b o,h.get? b=some o->H b=none->b∈fs->b∉ex->∃ sl,h'.get? b=some { o with slots:=sl }
 free:∀ b o,h.get? b=some o->H b=none->b∉ex->H' b=none
 there:∀ b o,h.get? b=some o->b∉ex->∃ o',h'.get? b=some o'
 tups:∀ b xs,H b=some (.tup xs)->H' b=some (.tup xs)
 frzs:∀ b o u,H b=some (.frz o u)->H' b=some (.frz o u)
 tbls:∀ b ps,H b=some (.tbl ps)->∃ more,H' b=some (.tbl (ps++more))
section
variable {fs fs' ex ex':List Addr}{H H1 H2:Hp}{h h1 h2 h':Heap}{a x e:Addr}{o:HO}
theorem Un.any (u:Un fs ex H H1 h h1){b:Addr}{ob:Obj}(q:h.get? b=some ob)(n:H b=none)(hx:b∉ex):∃ sl,h1.get? b=some { ob with slots:=sl }:=by
 by_cases hb:b∈fs
 ·exact u.slot b ob q n hb hx
 ·exact ⟨ob.slots,u.keep b ob q n hb hx⟩
theorem Un.kept (k:∀ b u,h.get? b=some u->h'.get? b=some u):Un fs ex H H h h' :=
 ⟨fun b ob q _ _ _=>k b ob q,fun b ob q _ _ _=>⟨ob.slots,k b ob q⟩,fun _ _ _ n _=>n,fun b ob q _=>⟨ob,k b ob q⟩,fun _ _ q=>q,fun _ _ _ q=>q,fun _ ps q=>⟨#[],by rw [q];simp⟩⟩
theorem Un.refl:Un fs ex H H h h:=Un.kept fun _ _ q=>q
theorem Un.laid (k:∀ b u,h.get? b=some u->h'.get? b=some u)(hp:h.objs.size<=a)(hn:H a=none):Un fs ex H (upd H a o) h h' where
 keep:=fun b u q _ _ _=>k b u q
 slot:=fun b u q _ _ _=>⟨u.slots,k b u q⟩
 free:=fun b u q n _=>by rw [qJ (Nat.ne_of_lt (Nat.lt_of_lt_of_le (Heap.lt_size q) hp))];exact n
 there:=fun b u q _=>⟨u,k b u q⟩
 tups:=fun b xs q=>by rw [qJ (qQ q hn)];exact q
 frzs:=fun b u xs q=>by rw [qJ (qQ q hn)];exact q
 tbls:=fun b ps q=>⟨#[],by rw [qJ (qQ q hn),q];simp⟩
theorem Un.write (mu:Mut (H x))(he:e=x\/H e=some (.own x))(k:∀ b u,b≠e->h.get? b=some u->h'.get? b=some u)(heo:∃ u,h'.get? e=some u):Un fs ex H (upd H x o) h h':=by
 have hx:∀ b,H b=none->b≠x:=fun b n z=>by subst z;rw [n] at mu;exact mu
 have hb:∀ b,H b=none->b≠e:=fun b n z=>by
  subst z
  rcases he with r|r
  ·exact hx b n r
  ·rw [n] at r;cases r
 have hm:∀ b u,H b=some u->¬ Mut (some u)->b≠x:=fun b u q nm z=>by subst z;rw [q] at mu;exact nm mu
 refine ⟨fun b u q n _ _=>k b u (hb b n) q,fun b u q n _ _=>⟨u.slots,k b u (hb b n) q⟩,fun b u q n _=>by rw [qJ (hx b n)];exact n,fun b u q _=>?_,
  fun b xs q=>by rw [qJ (hm b _ q fun z=>z)];exact q,fun b u xs q=>by rw [qJ (hm b _ q fun z=>z)];exact q,fun b ps q=>⟨#[],by rw [qJ (hm b _ q fun z=>z),q];simp⟩⟩
 by_cases hbe:b=e
 ·subst hbe;exact heo
 ·exact ⟨u,k b u hbe q⟩
end
def trk (h:Heap)(H:Hp):List Addr:=(List.range h.objs.size).filter fun a=>(H a).isSome
def hidT (h:Heap)(H:Hp):Heap:=PySem.W.hideAll h (trk h H)
theorem Wn (h:Heap)(H:Hp):(hidT h H).objs.size=h.objs.size:=PySem.W.hideAll_size _ _
theorem qan {h:Heap}{H:Hp}{b:Addr}{o:Obj}(e:h.get? b=some o)(n:H b=none):(hidT h H).get? b=some o :=
 PySem.W.hideAll_get _ e fun hm=>by
  have q:(H b).isSome=true:=(List.mem_filter.mp hm).2
  rw [n] at q;simp at q
theorem qbJ {h:Heap}{H:Hp}{b:Addr}{o:Obj}(e:(hidT h H).get? b=some o):h.get? b=some o/\H b=none:=by
 have e':h.get? b=some o:=PySem.W.of_hideAll (trk h H) e
 refine ⟨e',?_⟩
 cases q:H b with
 | none=>rfl
 | some x =>
  have hm:b∈trk h H:=List.mem_filter.mpr ⟨List.mem_range.mpr (Heap.lt_size e'),by simp [q]⟩
  have z:(hidT h H).get? b=none:=PySem.W.hideAll_none (trk h H) hm
  rw [z] at e;cases e
structure Mod (K:PySem.W.Frag)(mg:Str->Option Value)(base:Heap):Prop where
 kin:K.In base
 glob:base.Ns mainGlobals mg
 blt:∃ mb,base.Ns builtinsNs mb/\∀ x:Str,x ≠ "__name__"->mb x=bootBuiltins x
 nolimit:base.NoLimit
structure Cx where
 prog:Program
 w:World
 K:PySem.W.Frag
 mg:Str->Option Value
 base:Heap
 A:Around
 N:List Str
 s₀:Shared
 H₀:Hp
 env:Env
 outer:List Env
 stack:List Env
 ex:List Addr
 fn:Str->Bool
 calm:Bool
 pn:List (Addr×Obj)
 xe:Value->Shared->Prop
def frs (l:List Env):List Addr:=l.filterMap (·.frame)
abbrev Cx.fs (X:Cx):List Addr:=frs X.outer
def Vis (sc:Scope)(x:Str):Prop:=sc.names.lookup x=some .local\/sc.names.lookup x=some .cell\/sc.names.lookup x=some .free
def Loc (sc:Scope)(x:Str):Prop:=sc.names.lookup x=some .local\/sc.names.lookup x=some .cell
def Look (env:Env)(h:Heap)(m:Str->Option Value)(x:Str)(u:Value):Prop :=
 (env.kindOf x=some .local/\m x=some u)\/((env.kindOf x=some .cell\/env.kindOf x=some .free)/\∃ c,env.cells.lookup x=some c/\h.IsCell c (some u))
structure Cx.Ok (X:Cx):Prop where
 mod:Mod X.K X.mg X.base
 kind:X.env.scope.kind=.function
 glob:X.env.globals=mainGlobals
 blt:X.env.builtins=builtinsNs
 above:X.s₀.heap.objs.size<=X.env.locals
 inj:∀ x y c,X.env.cells.lookup x=some c->X.env.cells.lookup y=some c->x=y
 has:∀ x,(X.env.kindOf x=some .cell\/X.env.kindOf x=some .free)->∃ c,X.env.cells.lookup x=some c
 cab:∀ x c,X.fn x=true->X.env.cells.lookup x=some c->X.s₀.heap.objs.size<=c
 hd:X.calm=true->X.A.handled=none
 frames:X.A.frames=some X.stack
 stk:X.stack=X.outer\/(X.stack=X.env::X.outer/\X.env.frame=some X.env.locals)
 exf:∀ b∈X.ex,b≠X.env.locals/\∀ x c,X.env.cells.lookup x=some c->c≠b
 bs:∀ b o,X.base.get? b=some o->X.s₀.heap.get? b=some o/\X.H₀ b=none
 bsz:X.base.objs.size<=X.s₀.heap.objs.size
 noex:∀ b o,X.base.get? b=some o->b∉X.ex
 exfs:∀ b∈X.ex,b∉X.fs
 funs:X.s₀.heap.FunFrames X.base X.outer
 frf:∀ b∈X.fs,X.H₀ b=none
structure Inv (X:Cx)(pins:List (Addr×Obj))(σ:List (Option V))(H:Hp)(s:Shared):Prop where
 ok:X.Ok
 os:s.os=X.s₀.os
 bare:AllBare s.gens
 base:Un X.fs X.ex X.H₀ H X.s₀.heap s.heap
 loc:∃ m,s.heap.Ns X.env.locals m/\∀ (i:Nat) (x:Str) (v:V),X.N[i]?=some x->σ[i]?=some (some v)->Vis X.env.scope x->∃ u,RelV v u/\Look X.env s.heap m x u
 cell:∀ x c,X.env.cells.lookup x=some c->∃ v,s.heap.IsCell c v
 free:H X.env.locals=none
 freeC:∀ x c,X.env.cells.lookup x=some c->H c=none
 pin:∀ p∈X.pn++pins,s.heap.get? p.1=some p.2/\H p.1=none/\p.1≠X.env.locals/\p.1∉X.fs/\∀ v,p.2.data≠.cell v
 hok:HOk X.prog X.w H s.heap
 len:σ.length=X.N.length
section
variable {X:Cx}{pins:List (Addr×Obj)}{σ:List (Option V)}{H H':Hp}{s:Shared}{h':Heap}
theorem Cx.Ok.nofr (ok:X.Ok){b:Addr}{o:Obj}(e:X.base.get? b=some o):b∉X.fs:=fun hb=>by
 have:=(ok.funs.mem hb).1
 rw [e] at this;cases this
theorem Inv.bs (I:Inv X pins σ H s):∀ b o,X.base.get? b=some o->s.heap.get? b=some o/\H b=none:=fun b o e =>
 ⟨I.base.keep b o (I.ok.bs b o e).1 (I.ok.bs b o e).2 (I.ok.nofr e) (I.ok.noex b o e),I.base.free b o (I.ok.bs b o e).1 (I.ok.bs b o e).2 (I.ok.noex b o e)⟩
theorem Inv.bk (I:Inv X pins σ H s):∀ b o,X.base.get? b=some o->s.heap.get? b=some o:=fun b o e=>(I.bs b o e).1
theorem Inv.mod (I:Inv X pins σ H s):Mod X.K X.mg X.base:=I.ok.mod
theorem Inv.kIn (I:Inv X pins σ H s):X.K.In s.heap:=I.ok.mod.kin.keeps I.bk
theorem Inv.lt (I:Inv X pins σ H s):X.env.locals<s.heap.objs.size:=let ⟨_,hn,_⟩:=I.loc;hn.lt
theorem Inv.sz (I:Inv X pins σ H s):X.s₀.heap.objs.size<=s.heap.objs.size:=Nat.le_trans I.ok.above (Nat.le_of_lt I.lt)
theorem Inv.nofs (I:Inv X pins σ H s){a:Addr}(h:s.heap.objs.size<=a):a∉X.fs:=fun hb=>by
 obtain ⟨_,o,ho,_⟩:=I.ok.funs.mem hb
 exact absurd (Nat.lt_of_lt_of_le (Heap.lt_size ho) (Nat.le_trans I.sz h)) (Nat.lt_irrefl _)
theorem Inv.cne (I:Inv X pins σ H s):∀ x c,X.env.cells.lookup x=some c->c≠X.env.locals:=fun x c e z=>by
 obtain ⟨v,o,ho,hd⟩:=I.cell x c e
 obtain ⟨m,⟨o',es,ep,ho',hd',_⟩,_⟩:=I.loc
 rw [z,ho'] at ho;cases ho;rw [hd'] at hd;cases hd
theorem Inv.funs (I:Inv X pins σ H s):s.heap.FunFrames X.base X.outer:=by
 have all:∀ (l:List Env),(∀ b∈frs l,b∈X.fs)->X.s₀.heap.FunFrames X.base l->s.heap.FunFrames X.base l:=by
  intro l
  induction l with
  | nil=>intro _ _;trivial
  | cons env r ih =>
   intro hs hl
   obtain ⟨hk,⟨L,o,hf,hn,ho,hd⟩,hr⟩:=hl
   have hL:L∈X.fs:=hs L (by unfold frs;rw [List.filterMap_cons,hf];exact List.mem_cons_self)
   obtain ⟨sl,e⟩:=I.base.slot L o ho (I.ok.frf L hL) hL fun z=>I.ok.exfs L z hL
   exact ⟨hk,⟨L,_,hf,hn,e,hd⟩,ih (fun b hb=>hs b (by unfold frs;rw [List.filterMap_cons,hf];exact List.mem_cons_of_mem _ hb)) hr⟩
 exact all X.outer (fun _ hb=>hb) I.ok.funs
theorem Inv.stack (I:Inv X pins σ H s):s.heap.FunFrames X.base X.stack:=by
 rcases I.ok.stk with e|⟨e,hf⟩
 ·rw [e];exact I.funs
 ·rw [e]
  obtain ⟨m,hn,_⟩:=I.loc
  refine .cons (by rw [I.ok.kind];decide) hf hn ?_ I.funs
  exact Heap.get?_none_of_le (Nat.le_trans I.ok.bsz I.ok.above)
theorem Inv.stkSub (I:Inv X pins σ H s):∀ b∈frs X.stack,b∈X.env.locals::X.fs:=fun b hb=>by
 rcases I.ok.stk with e|⟨e,hf⟩
 ·rw [e] at hb;exact List.mem_cons_of_mem _ hb
 ·rw [e] at hb
  unfold frs at hb
  rw [List.filterMap_cons,hf] at hb
  exact hb
theorem Inv.stkFree (I:Inv X pins σ H s):∀ b∈frs X.stack,H b=none:=fun b hb=>by
 rcases List.mem_cons.mp (I.stkSub b hb) with e|hb
 ·rw [e];exact I.free
 ·obtain ⟨_,o,ho,_⟩:=I.ok.funs.mem hb
  exact I.base.free b o ho (I.ok.frf b hb) fun z=>I.ok.exfs b z hb
theorem Inv.step {g':Array GenState}{t':Nat}{d':Drawn}{ch:List Addr}(I:Inv X pins σ H s)
  (hch:∀ b∈ch,(b∈X.ex\/X.s₀.heap.objs.size<=b)/\b≠X.env.locals/\(∀ x c,X.env.cells.lookup x=some c->c≠b)/\∀ p∈X.pn++pins,p.1≠b)
  (keep:∀ b o,b≠X.env.locals->b∉X.fs->b∉ch->s.heap.get? b=some o->H b=none->h'.get? b=some o)
  (slot:∀ b o,b≠X.env.locals->b∈X.fs->b∉ch->s.heap.get? b=some o->H b=none->∃ sl,h'.get? b=some { o with slots:=sl }) (free:∀ b o,b∉ch->s.heap.get? b=some o->H b=none->H' b=none)
  (there:∀ b o,b∉ch->s.heap.get? b=some o->∃ o',h'.get? b=some o')
  (tups:∀ b xs,H b=some (.tup xs)->H' b=some (.tup xs)) (frzs:∀ b o u,H b=some (.frz o u)->H' b=some (.frz o u)) (tbls:∀ b ps,H b=some (.tbl ps)->∃ more,H' b=some (.tbl (ps++more)))
  (ns:∀ m,s.heap.Ns X.env.locals m->h'.Ns X.env.locals m) (hok:HOk X.prog X.w H' h') (hg:AllBare g') :
  Inv X pins σ H' { s with heap:=h',gens:=g',drawn:=d',toks:=t' }:=by
 have neL:∀ b o,X.s₀.heap.get? b=some o->b≠X.env.locals:=fun b o e=>Nat.ne_of_lt (Nat.lt_of_lt_of_le (Heap.lt_size e) I.ok.above)
 have neC:∀ b o,X.s₀.heap.get? b=some o->b∉X.ex->b∉ch:=fun b o e hx hb=>by
  rcases (hch b hb).1 with z|z
  ·exact hx z
  ·exact absurd (Nat.lt_of_lt_of_le (Heap.lt_size e) z) (Nat.lt_irrefl _)
 have cellK:∀ x c,X.env.cells.lookup x=some c->∀ v,s.heap.IsCell c v->h'.IsCell c v:=fun x c e v ⟨o,ho,hd⟩=>by
  have nch:c∉ch:=fun z=>(hch c z).2.2.1 x c e rfl
  by_cases hc:c∈X.fs
  ·obtain ⟨sl,q⟩:=slot c o (I.cne x c e) hc nch ho (I.freeC x c e)
   exact ⟨_,q,hd⟩
  ·exact ⟨o,keep c o (I.cne x c e) hc nch ho (I.freeC x c e),hd⟩
 refine ⟨I.ok,I.os,hg,⟨fun b o e n hb hx=>?_,fun b o e n hb hx=>?_,fun b o e n hx=>?_,fun b o e hx=>?_,fun b xs e=>tups b xs (I.base.tups b xs e),fun b o xs e=>frzs b o xs (I.base.frzs b o xs e),fun b ps e=>?_⟩,?_,fun x c e=>?_,?_,fun x c e=>?_,fun p hp=>?_,hok,I.len⟩
 ·exact keep b o (neL b o e) hb (neC b o e hx) (I.base.keep b o e n hb hx) (I.base.free b o e n hx)
 ·obtain ⟨sl,e1⟩:=I.base.slot b o e n hb hx
  obtain ⟨sl',e2⟩:=slot b _ (neL b o e) hb (neC b o e hx) e1 (I.base.free b o e n hx)
  exact ⟨sl',e2⟩
 ·obtain ⟨o',e1⟩:=I.base.there b o e hx
  exact free b o' (neC b o e hx) e1 (I.base.free b o e n hx)
 ·obtain ⟨o',e1⟩:=I.base.there b o e hx
  exact there b o' (neC b o e hx) e1
 ·obtain ⟨m1,e1⟩:=I.base.tbls b ps e
  obtain ⟨m2,e2⟩:=tbls b _ e1
  exact ⟨m1++m2,by rw [e2,Array.append_assoc]⟩
 ·obtain ⟨m,hn,hl⟩:=I.loc
  refine ⟨m,ns m hn,fun i x v e1 e2 e3=>?_⟩
  obtain ⟨u,r,l⟩:=hl i x v e1 e2 e3
  refine ⟨u,r,?_⟩
  rcases l with l|⟨k,c,e,z⟩
  ·exact .inl l
  ·exact .inr ⟨k,c,e,cellK x c e _ z⟩
 ·obtain ⟨v,z⟩:=I.cell x c e
  exact ⟨v,cellK x c e v z⟩
 ·obtain ⟨m,⟨o,_,_,ho,_⟩,_⟩:=I.loc
  exact free _ o (fun z=>(hch _ z).2.1 rfl) ho I.free
 ·obtain ⟨v,o,ho,hd⟩:=I.cell x c e
  exact free c o (fun z=>(hch c z).2.2.1 x c e rfl) ho (I.freeC x c e)
 ·obtain ⟨e,n,ne,nf,d⟩:=I.pin p hp
  have nch:p.1∉ch:=fun z=>(hch p.1 z).2.2.2 p hp rfl
  exact ⟨keep p.1 p.2 ne nf nch e n,free p.1 p.2 nch e n,ne,nf,d⟩
theorem Inv.un {t':Nat}(I:Inv X pins σ H s)(u:Un X.fs [] H H' s.heap h')(hok:HOk X.prog X.w H' h'):Inv X pins σ H' { s with heap:=h',toks:=t' }:=by
 obtain ⟨m,⟨o,es,ep,ho,r⟩,_⟩:=id I.loc
 obtain ⟨sl,hL⟩:=u.any ho I.free (by simp)
 exact I.step (g':=s.gens) (d':=s.drawn) (ch:=[]) (fun _ z=>nomatch z) (fun b o _ hb _ e n=>u.keep b o e n hb (by simp)) (fun b o _ hb _ e n=>u.slot b o e n hb (by simp)) (fun b o _ e n=>u.free b o e n (by simp)) (fun b o _ e=>u.there b o e (by simp)) u.tups u.frzs u.tbls (fun m' hm=>by
  obtain ⟨o',es',ep',ho',r'⟩:=hm
  rw [ho] at ho';cases ho'
  exact ⟨_,es',ep',hL,r'⟩) hok I.bare
theorem Inv.call {g':Array GenState}{t':Nat}{d':Drawn}{ch:List Addr}(I:Inv X pins σ H s)(u:Un (frs X.stack) ch H H' s.heap h')(hok:HOk X.prog X.w H' h')(hg:AllBare g')
  (hch:∀ b∈ch,(b∈X.ex\/X.s₀.heap.objs.size<=b)/\b≠X.env.locals/\(∀ x c,X.env.cells.lookup x=some c->c≠b)/\∀ p∈X.pn++pins,p.1≠b) :
  Inv X pins σ H' { s with heap:=h',gens:=g',drawn:=d',toks:=t' }:=by
 obtain ⟨m,⟨o,es,ep,ho,r⟩,_⟩:=id I.loc
 obtain ⟨sl,hL⟩:=u.any ho I.free fun z=>(hch _ z).2.1 rfl
 exact I.step (ch:=ch) hch (fun b o hL hb hc e n=>u.keep b o e n (fun z=>(List.mem_cons.mp (I.stkSub b z)).elim hL hb) hc) (fun b o _ _ hc e n=>u.any e n hc) (fun b o hc e n=>u.free b o e n hc) (fun b o hc e=>u.there b o e hc) u.tups u.frzs u.tbls (fun m' hm=>by
  obtain ⟨o',es',ep',ho',r'⟩:=hm
  rw [ho] at ho';cases ho'
  exact ⟨_,es',ep',hL,r'⟩) hok hg
theorem Inv.turned {t':Nat}{it:Addr}(I:Inv X pins σ H s)(k:∀ b o,b≠it->s.heap.get? b=some o->h'.get? b=some o)(hn:H it=none)(hL:it≠X.env.locals)
  (h1:it∈X.ex\/X.s₀.heap.objs.size<=it) (h2:∀ x c,X.env.cells.lookup x=some c->c≠it) (h3:∀ p∈X.pn++pins,p.1≠it):Inv X pins σ H { s with heap:=h',toks:=t' }:=by
 have nit:∀ b u,H b=some u->b≠it:=fun b u e z=>by rw [z,hn] at e;cases e
 refine I.step (g':=s.gens) (d':=s.drawn) (ch:=[it]) (fun b hb=>?_) (fun b o _ _ hc e _=>k b o (fun z=>hc (by simp [z])) e) (fun b o _ _ hc e _=>⟨o.slots,k b o (fun z=>hc (by simp [z])) e⟩) (fun _ _ _ _ n=>n)
  (fun b o hc e=>⟨o,k b o (fun z=>hc (by simp [z])) e⟩) (fun _ _ e=>e) (fun _ _ _ e=>e) (fun b ps e=>⟨#[],by rw [e];simp⟩) (fun m hm=>?_) (fun b u e=>?_) I.bare
 ·have e:b=it:=by simpa using hb
  subst e
  exact ⟨h1,hL,h2,h3⟩
 ·obtain ⟨o,es,ep,ho,r⟩:=hm
  exact ⟨o,es,ep,k _ o (Ne.symm hL) ho,r⟩
 ·refine (I.hok b u e).stay (fun c v hc q=>k c v ?_ q) (fun _ q=>q) fun _ _ q=>q
  rcases hc with z|z
  ·rw [z];exact nit b u e
  ·exact nit c _ z
theorem Inv.tok (I:Inv X pins σ H s)(t:Nat):Inv X pins σ H { s with toks:=t }:=I.un (h':=s.heap) (t':=t) Un.refl I.hok
theorem Inv.kept {t':Nat}(I:Inv X pins σ H s)(k:∀ b u,s.heap.get? b=some u->h'.get? b=some u):Inv X pins σ H { s with heap:=h',toks:=t' }:=I.un (Un.kept k) (I.hok.kept k)
theorem Inv.laid {a:Addr}{o:HO}{t':Nat}(I:Inv X pins σ H s)(k:∀ b u,s.heap.get? b=some u->h'.get? b=some u)(hp:s.heap.objs.size<=a)(new:zE X.prog X.w (upd H a o) h' a o) :
  Inv X pins σ (upd H a o) { s with heap:=h',toks:=t' }:=I.un (Un.laid k hp (I.hok.fresh hp)) (I.hok.laid k hp new)
theorem Inv.write {x e:Addr}{o:HO}{t':Nat}(I:Inv X pins σ H s)(mu:Mut (H x))(he:e=x\/H e=some (.own x))(k:∀ b u,b≠e->s.heap.get? b=some u->h'.get? b=some u)(heo:∃ u,h'.get? e=some u)
  (new:zE X.prog X.w (upd H x o) h' x o):Inv X pins σ (upd H x o) { s with heap:=h',toks:=t' }:=I.un (Un.write mu he k heo) (I.hok.write mu he k heo new)
theorem Inv.pins_of {pins':List (Addr×Obj)}(I:Inv X pins σ H s)(h:∀ p∈pins',s.heap.get? p.1=some p.2/\H p.1=none/\p.1≠X.env.locals/\p.1∉X.fs/\∀ v,p.2.data≠.cell v):Inv X pins' σ H s :=
 ⟨I.ok,I.os,I.bare,I.base,I.loc,I.cell,I.free,I.freeC,fun p hp=>(List.mem_append.mp hp).elim (fun z=>I.pin p (List.mem_append_left _ z)) (h p),I.hok,I.len⟩
theorem Jy {N:List Str}(hN:N.Nodup){i j:Nat}{x:Str}(a:N[i]?=some x)(b:N[j]?=some x):i=j:=by
 obtain ⟨h1,e1⟩:=List.getElem?_eq_some_iff.mp a
 obtain ⟨h2,e2⟩:=List.getElem?_eq_some_iff.mp b
 exact (List.getElem_inj hN).mp (e1.trans e2.symm)
theorem WT {M:Model}{A:Around}{E:Value->Shared->Prop}{i:Nat}{x:Str}{v:V}{u:Value}{Q:Unit->Shared->Prop}(I:Inv X pins σ H s)(hN:X.N.Nodup)(hi:X.N[i]?=some x)(hx:Loc X.env.scope x)(r:RelV v u)
  (h:∀ s',Inv X pins (σ.set i (some v)) H s'->(∃ a,Heap.SameBut a s.heap s'.heap/\(a=X.env.locals\/X.env.cells.lookup x=some a))->Q () s') (hf:X.fn x=true\/X.env.scope.names.lookup x=some .local:=by first|exact .inl rfl|exact .inr rfl|assumption):wpAny M A (storeName X.env x u) Q E s:=by
 obtain ⟨m,hn,hl⟩:=id I.loc
 have hcls:(X.env.scope.kind==.class||(X.env.scope.kind==.module&&X.env.locals != X.env.globals))=false:=by rw [I.ok.kind];rfl
 have hiσ:i<σ.length:=by rw [I.len];exact (List.getElem?_eq_some_iff.mp hi).1
 have cne:=I.cne
 have tracked:∀ {a:Addr} {h':Heap},(∃ o,s.heap.get? a=some o/\H a=none)->Heap.SameBut a s.heap h'->HOk X.prog X.w H h':=fun {a h'} ha hs b ob e=>by
  obtain ⟨_,_,hfree⟩:=ha
  refine (I.hok b ob e).stay (fun c w' hc q=>(hs.2 c ?_).trans q) (fun _ q=>q) fun _ _ q=>q
  rintro rfl
  rcases hc with rfl|hc
  ·rw [hfree] at e;cases e
  ·rw [hfree] at hc;cases hc
 rcases hx with hk|hk
 ·refine wpAny_storeName_local hk hn (fun h' hn' hs=>?_) hcls
  obtain ⟨oL,_,_,hoL,_⟩:=id hn
  refine h _ ⟨I.ok,I.os,I.bare,⟨fun b o e n hb hx=>?_,fun b o e n hb hx=>?_,I.base.free,fun b o e hx=>?_,I.base.tups,I.base.frzs,I.base.tbls⟩,⟨_,hn',fun j y v' e1 e2 e3=>?_⟩,fun y c e=>?_,I.free,I.freeC,fun p hp=>?_,tracked ⟨oL,hoL,I.free⟩ hs,by simpa using I.len⟩ ⟨_,hs,.inl rfl⟩
  ·exact (hs.2 b (Nat.ne_of_lt (Nat.lt_of_lt_of_le (Heap.lt_size e) I.ok.above))).trans (I.base.keep b o e n hb hx)
  ·obtain ⟨sl,e1⟩:=I.base.slot b o e n hb hx
   exact ⟨sl,(hs.2 b (Nat.ne_of_lt (Nat.lt_of_lt_of_le (Heap.lt_size e) I.ok.above))).trans e1⟩
  ·obtain ⟨o',e1⟩:=I.base.there b o e hx
   exact ⟨o',(hs.2 b (Nat.ne_of_lt (Nat.lt_of_lt_of_le (Heap.lt_size e) I.ok.above))).trans e1⟩
  ·by_cases hj:j=i
   ·subst hj
    rw [hi] at e1;cases e1
    rw [List.getElem?_set_self hiσ] at e2
    cases e2
    exact ⟨u,r,.inl ⟨hk,by simp⟩⟩
   ·rw [List.getElem?_set_ne (Ne.symm hj)] at e2
    obtain ⟨u',r',q⟩:=hl j y v' e1 e2 e3
    refine ⟨u',r',?_⟩
    rcases q with ⟨k,e⟩|⟨k,c,e,z⟩
    ·refine .inl ⟨k,?_⟩
     have:y≠x:=fun e=>hj (Jy hN e1 (e ▸ hi))
     simp [this,e]
    ·exact .inr ⟨k,c,e,z.sameBut hs (cne y c e)⟩
  ·obtain ⟨w',z⟩:=I.cell y c e
   exact ⟨w',z.sameBut hs (cne y c e)⟩
  ·obtain ⟨e,n,ne,nf,d⟩:=I.pin p hp
   exact ⟨(hs.2 p.1 ne).trans e,n,ne,nf,d⟩
 ·have hfn:X.fn x=true:=by
   rcases hf with z|z
   ·exact z
   ·rw [z] at hk;cases hk
  obtain ⟨c,hc⟩:=I.ok.has x (.inl hk)
  obtain ⟨w',z⟩:=I.cell x c hc
  refine wpAny_storeName_cell I.ok.kind hk hc z (fun h' hc' hs=>?_)
  obtain ⟨oc,hoc,hocd⟩:=id z
  refine h { s with heap:=h' } ⟨I.ok,I.os,I.bare,⟨fun b o e n hb hx=>?_,fun b o e n hb hx=>?_,I.base.free,fun b o e hx=>?_,I.base.tups,I.base.frzs,I.base.tbls⟩,⟨m,hn.sameBut hs (Ne.symm (cne x c hc)),fun j y v' e1 e2 e3=>?_⟩,fun y c' e=>?_,I.free,I.freeC,fun p hp=>?_,tracked ⟨oc,hoc,I.freeC x c hc⟩ hs,by simpa using I.len⟩ ⟨c,hs,.inr hc⟩
  ·exact (hs.2 b (Nat.ne_of_lt (Nat.lt_of_lt_of_le (Heap.lt_size e) (I.ok.cab x c hfn hc)))).trans (I.base.keep b o e n hb hx)
  ·obtain ⟨sl,e1⟩:=I.base.slot b o e n hb hx
   exact ⟨sl,(hs.2 b (Nat.ne_of_lt (Nat.lt_of_lt_of_le (Heap.lt_size e) (I.ok.cab x c hfn hc)))).trans e1⟩
  ·obtain ⟨o',e1⟩:=I.base.there b o e hx
   exact ⟨o',(hs.2 b (Nat.ne_of_lt (Nat.lt_of_lt_of_le (Heap.lt_size e) (I.ok.cab x c hfn hc)))).trans e1⟩
  ·by_cases hj:j=i
   ·subst hj
    rw [hi] at e1;cases e1
    rw [List.getElem?_set_self hiσ] at e2
    cases e2
    exact ⟨u,r,.inr ⟨.inl hk,c,hc,hc'⟩⟩
   ·rw [List.getElem?_set_ne (Ne.symm hj)] at e2
    obtain ⟨u',r',q⟩:=hl j y v' e1 e2 e3
    refine ⟨u',r',?_⟩
    rcases q with q|⟨k,c',e,z'⟩
    ·exact .inl q
    ·refine .inr ⟨k,c',e,z'.sameBut hs ?_⟩
     rintro rfl
     exact hj (Jy hN e1 (I.ok.inj _ _ _ e hc ▸ hi))
  ·by_cases hcc:c'=c
   ·subst hcc;exact ⟨_,hc'⟩
   ·obtain ⟨w2,z2⟩:=I.cell y c' e
    exact ⟨w2,z2.sameBut hs hcc⟩
  ·obtain ⟨e,n,ne,nf,d⟩:=I.pin p hp
   refine ⟨(hs.2 p.1 ?_).trans e,n,ne,nf,d⟩
   intro q
   rw [q,hoc] at e
   have q':oc=p.2:=Option.some.inj e
   exact d w' (by rw [← q'];exact hocd)
theorem JH {M:Model}{A:Around}{E:Value->Shared->Prop}{i:Nat}{x:Str}{v:V}{u:Value}{Q:Unit->Shared->Prop}(I:Inv X pins σ H s)(hN:X.N.Nodup)(hi:X.N[i]?=some x)(hx:Loc X.env.scope x)(r:RelV v u)
  (h:∀ s',Inv X pins (σ.set i (some v)) H s'->Q () s') (hf:X.fn x=true\/X.env.scope.names.lookup x=some .local:=by first|exact .inl rfl|exact .inr rfl|assumption):wpAny M A (storeName X.env x u) Q E s :=
 WT I hN hi hx r (fun s' I' _=>h s' I') hf
theorem Inv.call' {s':Shared}{ch:List Addr}(I:Inv X pins σ H s)(ho:s'.os=s.os)(u:Un (frs X.stack) ch H H' s.heap s'.heap)(hok:HOk X.prog X.w H' s'.heap)(hg:AllBare s'.gens)
  (hch:∀ b∈ch,(b∈X.ex\/X.s₀.heap.objs.size<=b)/\b≠X.env.locals/\(∀ x c,X.env.cells.lookup x=some c->c≠b)/\∀ p∈X.pn++pins,p.1≠b):Inv X pins σ H' s':=by
 obtain ⟨h',g',d',t',o'⟩:=s'
 have e:o'=s.os:=ho
 subst e
 exact I.call (g':=g') (t':=t') (d':=d') u hok hg hch
end
abbrev XK:=Value->Option Addr->Hp->Prop
abbrev St:=List (Option V)
abbrev VK:=V->Hp->Prop
abbrev TE:=St->Hp->VK->Prop
abbrev TT:=St->Hp->(Bool->Hp->Prop)->Prop
abbrev TA:=St->Hp->(List V->Hp->Prop)->Prop
structure Ends where
 nx:St->Hp->Prop
 rt:VK
 bk:St->Hp->Prop:=fun _ _=>False
 ct:St->Hp->Prop:=fun _ _=>False
abbrev TS:=Ends->St->Hp->Prop
def EP (X:Cx)(pins:List (Addr×Obj))(σ:St)(Q:VK)(u:Value)(s':Shared):Prop:=∃ v H',Inv X pins σ H' s'/\RelV v u/\Q v H'
def TP (X:Cx)(pins:List (Addr×Obj))(σ:St)(Q:Bool->Hp->Prop)(b:Bool)(s':Shared):Prop:=∃ H',Inv X pins σ H' s'/\Q b H'
def AP (X:Cx)(pins:List (Addr×Obj))(σ:St)(Q:List V->Hp->Prop)(us:List Value)(s':Shared):Prop:=∃ vs H',Inv X pins σ H' s'/\Vals vs us/\Q vs H'
def SP (X:Cx)(pins:List (Addr×Obj))(D:Ends)(f:Flow)(s':Shared):Prop :=
 match f with
 | .next=>∃ σ' H',Inv X pins σ' H' s'/\D.nx σ' H'
 | .brk=>∃ σ' H',Inv X pins σ' H' s'/\D.bk σ' H'
 | .cont=>∃ σ' H',Inv X pins σ' H' s'/\D.ct σ' H'
 | .ret u=>∃ v σ' H',Inv X pins σ' H' s'/\RelV v u/\D.rt v H'
def PE (X:Cx)(e:Expr)(t:TE):Prop :=
 ∀ (pins:List (Addr×Obj)) (s:Shared) (σ:St) (H:Hp) (Q:VK),Inv X pins σ H s->t σ H Q->wpAny (model X.prog X.w) X.A (eval e X.env) (EP X pins σ Q) X.xe s
def PT (X:Cx)(e:Expr)(t:TT):Prop :=
 ∀ (pins:List (Addr×Obj)) (s:Shared) (σ:St) (H:Hp) (Q:Bool->Hp->Prop),Inv X pins σ H s->t σ H Q->wpAny (model X.prog X.w) X.A (isTrue e X.env (eval e X.env)) (TP X pins σ Q) X.xe s
def PW (X:Cx)(e:Expr)(t:TT):Prop :=
 ∀ (whole:Sem Value) (pins:List (Addr×Obj)) (s:Shared) (σ:St) (H:Hp) (Q:Bool->Hp->Prop),Inv X pins σ H s->t σ H Q->wpAny (model X.prog X.w) X.A (isTrue e X.env whole) (TP X pins σ Q) X.xe s
theorem PW.pt {X:Cx}{e:Expr}{t:TT}(h:PW X e t):PT X e t:=h _
def PA (X:Cx)(es:List Expr)(t:TA):Prop :=
 ∀ (pos:Pos) (pins:List (Addr×Obj)) (s:Shared) (σ:St) (H:Hp) (Q:List V->Hp->Prop),Inv X pins σ H s->t σ H Q->wpAny (model X.prog X.w) X.A (spliced (backTo pos (starEach es X.env))) (AP X pins σ Q) X.xe s
def PS (X:Cx)(st:Stmt)(t:TS):Prop :=
 ∀ (pins:List (Addr×Obj)) (s:Shared) (σ:St) (H:Hp) (D:Ends),Inv X pins σ H s->t D σ H->wpAny (model X.prog X.w) X.A (exec st X.env) (SP X pins D) X.xe s
def PSs (X:Cx)(st:List Stmt)(t:TS):Prop :=
 ∀ (pins:List (Addr×Obj)) (s:Shared) (σ:St) (H:Hp) (D:Ends),Inv X pins σ H s->t D σ H->wpAny (model X.prog X.w) X.A (execs st X.env) (SP X pins D) X.xe s
theorem thn {α:Type}{t:Sem α}{Q Q':α->Shared->Prop}{M:Model}{A:Around}{E:Value->Shared->Prop}{s:Shared}(h:wpAny M A t Q E s)(hQ:∀ a s,Q a s->Q' a s):wpAny M A t Q' E s:=wpAny_mono h hQ fun _ _ x=>x
section
variable {X:Cx}
def tVar (i:Nat):TE:=fun σ H Q=>∃ v,σ[i]?=some (some v)/\Q v H
def tC (v:V):TE:=fun _ H Q=>Q v H
theorem qaO {i:Nat}{x:Str}{pos:Pos}(hN:X.N[i]?=some x)(hv:Vis X.env.scope x)(hd:(x==("__debug__" : Str))=false:=by decide)(hcd:(x==("__classdict__" : Str))=false:=by decide):PE X (.Name x pos) (tVar i):=by
 intro pins s σ H Q I h
 obtain ⟨v,e,h⟩:=h
 obtain ⟨m,hn,hl⟩:=I.loc
 obtain ⟨u,r,l⟩:=hl i x v hN e hv
 have fin:EP X pins σ Q u s:=⟨v,H,I,r,h⟩
 rcases l with ⟨hk,hm⟩|⟨hk,c,hc,hcell⟩
 ·exact wpAny_Name (wpAny_loadName_local I.ok.kind hk hn hm fin) hd
 ·rcases hk with hk|hk
  ·exact wpAny_Name (wpAny_loadName_cell I.ok.kind hk hc hcell fin) hd
  ·exact wpAny_Name (wpAny_loadName_free I.ok.kind hk hc hcell fin hcd) hd
theorem qdh {i j pos}:PE X (.Constant (.int i) j pos) (tC (.int i)):=fun _ _ _ H _ I h=>wpAny_Constant_int ⟨.int i,H,I.tok _,⟨_,rfl⟩,h⟩
theorem pe_bl {b j pos}:PE X (.Constant (.bool b) j pos) (tC (.bl b)):=fun _ _ _ H _ I h=>Constant_bool ⟨.bl b,H,I,rfl,h⟩
theorem qdi {j pos}:PE X (.Constant .none j pos) (tC .non):=fun _ _ _ H _ I h=>Constant_none ⟨.non,H,I,rfl,h⟩
theorem qdm {x j pos}:PE X (.Constant (.str x) j pos) (tC (.str x)):=fun _ _ _ H _ I h=>Calls.Constant_str ⟨.str x,H,I.tok _,⟨_,rfl⟩,h⟩
def Gl (X:Cx)(x:Str):Prop:=X.env.kindOf x=some .globalImplicit
theorem Q9 {E:Value->Shared->Prop}{pins:List (Addr×Obj)}{s:Shared}{σ:St}{H:Hp}{x:Str}{u:Value}{pos:Pos}{Q:Value->Shared->Prop}(I:Inv X pins σ H s)(hg:Gl X x)(hm:X.mg x=some u)(h:Q u s)
  (hd:(x==("__debug__" : Str))=false:=by decide):wpAny (model X.prog X.w) X.A (eval (.Name x pos) X.env) Q E s :=
 Calls.Name_function_global I.ok.kind hg (Calls.loadGlobal_global (by rw [I.ok.glob];exact I.mod.glob.keeps I.bk) hm h) hd
theorem yF {E:Value->Shared->Prop}{pins:List (Addr×Obj)}{s:Shared}{σ:St}{H:Hp}{x:Str}{u:Value}{pos:Pos}{Q:Value->Shared->Prop}(I:Inv X pins σ H s)(hg:Gl X x)(hm:X.mg x=none)(hv:bootBuiltins x=some u)(h:Q u s)
  (hn:x ≠ "__name__" := by decide) (hd:(x==("__debug__" : Str))=false:=by decide):wpAny (model X.prog X.w) X.A (eval (.Name x pos) X.env) Q E s:=by
 obtain ⟨mb,h1,h2⟩:=I.mod.blt
 exact Calls.Name_function_global I.ok.kind hg (Calls.loadGlobal_builtin (by rw [I.ok.glob];exact I.mod.glob.keeps I.bk) hm (by rw [I.ok.blt];exact h1.keeps I.bk) ((h2 x hn).trans hv) h) hd
theorem Ja {x:Str}{v:V}{u:Value}{pos:Pos}(hg:Gl X x)(hm:X.mg x=some u)(r:RelV v u)(hd:(x==("__debug__" : Str))=false:=by decide):PE X (.Name x pos) (tC v) :=
 fun _ _ _ H _ I h=>Q9 I hg hm ⟨v,H,I,r,h⟩ hd
theorem wZ {x:Str}{v:V}{u:Value}{pos:Pos}(hg:Gl X x)(hm:X.mg x=none)(hv:bootBuiltins x=some u)(r:RelV v u)(hn:x ≠ "__name__" := by decide)(hd:(x==("__debug__" : Str))=false:=by decide):PE X (.Name x pos) (tC v) :=
 fun _ _ _ H _ I h=>yF I hg hm hv ⟨v,H,I,r,h⟩ hn hd
variable {a b:Expr}{ta tb:TE}{pos:Pos}
def tB (t:TE):TT:=fun σ H Q=>t σ H fun x H1=>∃ c,x=.bl c/\Q c H1
theorem qdu {e:Expr}{t:TE}(h:PE X e t)(he:∀ whole,isTrue e X.env whole=(do let v ← whole;standAt e.pos;holding [v] (truthy v)):=by intro _;rfl):PT X e (tB t):=by
 intro pins s σ H Q I hw
 refine isTrue_plain (thn (h pins s σ H _ I hw) fun v s1 ⟨x,H1,I1,r1,q1⟩=>?_) (he _)
 obtain ⟨d,rfl,q⟩:=q1
 cases r1
 exact wpAny_truthy_bool ⟨H1,I1,q⟩
variable {tA tB':TT}{rest:List Expr}
def tOr (t u:TT):TT:=fun σ H Q=>t σ H fun c H1=>if c=true then Q true H1 else u σ H1 Q
def tNot (t:TT):TT:=fun σ H Q=>t σ H fun c H1=>Q (!c) H1
theorem qdv (ha:PT X a tA):PW X (.BoolOp .Or [a] pos) tA:=by
 intro wh pins s σ H Q I h
 refine isTrue_or (thn (ha pins s σ H Q I h) fun c s1 e=>?_)
 cases c with
 | false=>exact isTrue_or_nil e
 | true=>exact e
theorem pw_or (ha:PT X a tA)(hb:PW X (.BoolOp .Or (b::rest) pos) tB'):PW X (.BoolOp .Or (a::b::rest) pos) (tOr tA tB'):=by
 intro wh pins s σ H Q I h
 refine isTrue_or (thn (ha pins s σ H _ I h) fun c s1 ⟨H1,I1,q1⟩=>?_)
 cases c with
 | true=>exact ⟨H1,I1,q1⟩
 | false=>exact hb wh pins s1 σ H1 Q I1 q1
theorem qdt (ha:PT X a tA):PT X (.UnaryOp .Not a pos) (tNot tA):=by
 intro pins s σ H Q I h
 exact isTrue_not (ha pins s σ H (fun c H1=>Q (!c) H1) I h)
def tAndV (ta tb:TE):TE:=fun σ H Q=>ta σ H fun x H1=>∃ c,x=.bl c/\if c=true then tb σ H1 Q else Q (.bl false) H1
def tNotV (ta:TE):TE:=fun σ H Q=>ta σ H fun x H1=>∃ c,x=.bl c/\Q (.bl (!c)) H1
theorem qdk {op}{t:TE}(h:PE X a t):PE X (.BoolOp op [a] pos) t:=fun pins s σ H Q I hw=>BoolOp_one (h pins s σ H Q I hw)
theorem qdg (ha:PE X a ta)(hb:PE X (.BoolOp .And (b::rest) pos) tb):PE X (.BoolOp .And (a::b::rest) pos) (tAndV ta tb):=by
 intro pins s σ H Q I h
 refine BoolOp_and (thn (ha pins s σ H _ I h) fun v s1 ⟨x,H1,I1,r1,q1⟩=>?_)
 obtain ⟨c,rfl,q1⟩:=q1
 cases r1
 refine wpAny_truthy_bool ?_
 cases c with
 | true=>exact hb pins s1 σ H1 Q I1 q1
 | false=>exact ⟨.bl false,H1,I1,rfl,q1⟩
theorem qdj (ha:PE X a ta):PE X (.UnaryOp .Not a pos) (tNotV ta):=by
 intro pins s σ H Q I h
 refine UnaryOp_ (thn (ha pins s σ H _ I h) fun v s1 ⟨x,H1,I1,r1,q1⟩=>?_)
 obtain ⟨c,rfl,q1⟩:=q1
 cases r1
 exact not_of (wpAny_truthy_bool ⟨.bl (!c),H1,I1,rfl,q1⟩)
end
def SqL (K:PySem.W.Frag)(H:Hp)(a:Addr)(xs:List V):Prop :=
 Rd H a (.lst xs)\/
  ∃ (o:Obj) (its:Array Value) (n:Nat),K.lookup a=some o/\o.cls=.type "list"/\o.dict=none/\o.data=.seq its n/\its.size<=sizeLine/\Vals xs its.toList
def SqT (K:PySem.W.Frag)(H:Hp)(a:Addr)(xs:List V):Prop :=
 Rd H a (.tup xs)\/
  ∃ (o:Obj) (its:Array Value) (n:Nat),K.lookup a=some o/\o.cls=.type "tuple"/\o.data=.seq its n/\its.size<=sizeLine/\Vals xs its.toList
def absV:Value->Option V
 | .none=>some .non
 | .bool b=>some (.bl b)
 | .int i _=>some (.int i)
 | .str x _=>some (.str x)
 | .bytes b _=>some (.byt b)
 | .float b _=>some (.flt b)
 | .ref a=>some (.ref a)
 | .type n=>some (.ty n)
 | _=>none
theorem RelV.abs {x:V}{u:Value}(r:RelV x u):absV u=some x:=by
 cases x with
 | non=>cases r;rfl
 | bl _=>cases r;rfl
 | int _=>obtain ⟨t,rfl⟩:=r;rfl
 | str _=>obtain ⟨t,rfl⟩:=r;rfl
 | byt _=>obtain ⟨t,rfl⟩:=r;rfl
 | flt _=>obtain ⟨t,rfl⟩:=r;rfl
 | ref _=>cases r;rfl
 | ty _=>cases r;rfl
theorem RelV.inj {x y:V}{u:Value}(r:RelV x u)(q:RelV y u):x=y:=Option.some.inj (r.abs.symm.trans q.abs)
theorem Vals.inj:∀ {xs ys:List V} {us:List Value},Vals xs us->Vals ys us->xs=ys
 | _,_,_,.nil,.nil=>rfl
 | _,_,_,.cons r t,.cons r' t'=>by rw [r.inj r',Vals.inj t t']
section
variable {X:Cx}{pins:List (Addr×Obj)}{σ:St}{H:Hp}{s:Shared}{a:Addr}{xs ys:List V}
theorem SqL.of {K:PySem.W.Frag}(h:H a=some (.lst xs)):SqL K H a xs:=.inl (.inl h)
theorem SqT.of {K:PySem.W.Frag}(h:H a=some (.tup xs)):SqT K H a xs:=.inl (.inl h)
theorem Inv.list (I:Inv X pins σ H s)(h:SqL X.K H a xs):∃ its:List Value,Vals xs its/\PlainL s.heap a its.toArray/\xs.length<=sizeLine:=by
 rcases h with h|⟨o,its,n,hk,hc,hd,hs,hz,r⟩
 ·obtain ⟨z,its,n,r,e⟩:=h.ok I.hok
  exact ⟨its,r,⟨_,n,e,rfl,rfl,rfl⟩,z⟩
 ·refine ⟨its.toList,r,⟨o,n,I.kIn a o hk,hc,hd,by simpa using hs⟩,?_⟩
  have e:=r.length
  simp only [Array.length_toList] at e
  omega
theorem Inv.tuple (I:Inv X pins σ H s)(h:SqT X.K H a xs):∃ its:List Value,Vals xs its/\IsTup s.heap a its.toArray/\xs.length<=sizeLine:=by
 rcases h with h|⟨o,its,n,hk,hc,hs,hz,r⟩
 ·obtain ⟨z,its,r,p⟩:=h.ok I.hok
  exact ⟨its,r,p,z⟩
 ·refine ⟨its.toList,r,⟨o,I.kIn a o hk,hc,n,by simpa using hs⟩,?_⟩
  have e:=r.length
  simp only [Array.length_toList] at e
  omega
theorem Inv.list_inj (I:Inv X pins σ H s)(h:SqL X.K H a xs)(h':SqL X.K H a ys):xs=ys:=by
 obtain ⟨its,r,⟨o,n,e,_,_,d⟩,_⟩:=I.list h
 obtain ⟨its',r',⟨o',n',e',_,_,d'⟩,_⟩:=I.list h'
 rw [e] at e';cases e'
 rw [d] at d'
 injection d' with d1 _
 have:its=its':=by simpa using congrArg Array.toList d1
 subst this
 exact r.inj r'
theorem Inv.tuple_inj (I:Inv X pins σ H s)(h:SqT X.K H a xs)(h':SqT X.K H a ys):xs=ys:=by
 obtain ⟨its,r,⟨o,e,_,n,d⟩,_⟩:=I.tuple h
 obtain ⟨its',r',⟨o',e',_,n',d'⟩,_⟩:=I.tuple h'
 rw [e] at e';cases e'
 rw [d] at d'
 injection d' with d1 _
 have:its=its':=by simpa using congrArg Array.toList d1
 subst this
 exact r.inj r'
end
abbrev Cx.wish (X:Cx)(E:Value->Shared->Prop):Cx:={ X with xe:=E }
abbrev Cx.nox (X:Cx):Cx:=X.wish fun _ _=>False
theorem Cx.Ok.wish {X:Cx}(ok:X.Ok)(E:Value->Shared->Prop):(X.wish E).Ok :=
 ⟨ok.mod,ok.kind,ok.glob,ok.blt,ok.above,ok.inj,ok.has,ok.cab,ok.hd,ok.frames,ok.stk,ok.exf,ok.bs,ok.bsz,ok.noex,ok.exfs,ok.funs,ok.frf⟩
theorem Cx.Ok.unwish {X:Cx}{E:Value->Shared->Prop}(ok:(X.wish E).Ok):X.Ok :=
 ⟨ok.mod,ok.kind,ok.glob,ok.blt,ok.above,ok.inj,ok.has,ok.cab,ok.hd,ok.frames,ok.stk,ok.exf,ok.bs,ok.bsz,ok.noex,ok.exfs,ok.funs,ok.frf⟩
section
variable {X:Cx}{pins:List (Addr×Obj)}{σ:St}{H:Hp}{s:Shared}{E:Value->Shared->Prop}
theorem Inv.wish (I:Inv X pins σ H s)(E:Value->Shared->Prop):Inv (X.wish E) pins σ H s:=⟨I.ok.wish E,I.os,I.bare,I.base,I.loc,I.cell,I.free,I.freeC,I.pin,I.hok,I.len⟩
theorem Inv.unwish (I:Inv (X.wish E) pins σ H s):Inv X pins σ H s:=⟨I.ok.unwish,I.os,I.bare,I.base,I.loc,I.cell,I.free,I.freeC,I.pin,I.hok,I.len⟩
theorem SP.unwish {D:Ends}{f:Flow}{s':Shared}(h:SP (X.wish E) pins D f s'):SP X pins D f s':=by
 cases f with
 | next=>obtain ⟨σ',H',I,q⟩:=h;exact ⟨σ',H',I.unwish,q⟩
 | brk=>obtain ⟨σ',H',I,q⟩:=h;exact ⟨σ',H',I.unwish,q⟩
 | cont=>obtain ⟨σ',H',I,q⟩:=h;exact ⟨σ',H',I.unwish,q⟩
 | ret u=>obtain ⟨v,σ',H',I,r,q⟩:=h;exact ⟨v,σ',H',I.unwish,r,q⟩
theorem PSs.nox {st:List Stmt}{t:TS}(h:PSs X.nox st t):PSs X st t:=fun pins s σ H D I hw =>
 wpAny_mono (h pins s σ H D (I.wish _) hw) (fun _ _ q=>q.unwish) fun _ _ z=>False.elim z
end
section
variable {X:Cx}{st:Stmt}{rest:List Stmt}{t u:TS}{e:Expr}{te:TE}{pos:Pos}
def tNext:TS:=fun D σ H=>D.nx σ H
def tSeq (t u:TS):TS:=fun D σ H=>t { D with nx:=u D } σ H
theorem qb5:PSs X [] tNext:=fun _ _ σ H _ I h=>wpAny_execs_nil ⟨σ,H,I,h⟩
theorem qaX (h1:PS X st t)(h2:PSs X rest u):PSs X (st::rest) (tSeq t u):=by
 intro pins s σ H D I h
 refine wpAny_execs_cons (thn (h1 pins s σ H { D with nx:=u D } I h) fun f s1 q=>?_)
 cases f with
 | next =>
  obtain ⟨σ',H',I',q⟩:=q
  exact h2 pins s1 σ' H' D I' q
 | ret v=>exact q
 | brk=>exact q
 | cont=>exact q
theorem qb6 (h1:PS X st t):PSs X [st] t:=by
 intro pins s σ H D I h
 refine wpAny_execs_cons (thn (h1 pins s σ H D I h) fun f s1 q=>?_)
 cases f with
 | next=>exact wpAny_execs_nil q
 | ret v=>exact q
 | brk=>exact q
 | cont=>exact q
theorem Inv.quiet {pins:List (Addr×Obj)}{σ:St}{H:Hp}{s:Shared}(I:Inv X pins σ H s):interactive X.env=false:=by simp [interactive,I.ok.kind]
def tDrop (te:TE):TS:=fun D σ H=>te σ H fun _ H1=>D.nx σ H1
theorem qb4 (he:PE X e te)(hs:swapsWith e none pos.line X.env=pure false:=by rfl):PS X (.Expr e pos) (tDrop te):=by
 intro pins s σ H D I h
 exact wpAny_Expr_any (thn (he pins s σ H _ I h) fun v s1 ⟨x,H1,I1,r1,q1⟩=>⟨σ,H1,I1,q1⟩) I.quiet hs
def tRet (te:TE):TS:=fun D σ H=>te σ H D.rt
theorem qds (he:PE X e te):PS X (.Return (some e) pos) (tRet te):=by
 intro pins s σ H D I h
 exact wpAny_Return_some (thn (he pins s σ H _ I h) fun v s1 ⟨x,H1,I1,r1,q1⟩=>⟨x,σ,H1,I1,r1,q1⟩)
def tIfS (c:TT)(t u:TS):TS:=fun D σ H=>c σ H fun b H1=>if b=true then t D σ H1 else u D σ H1
theorem ps_if {c:Expr}{a b:List Stmt}{tc:TT}(hc:PT X c tc)(ha:PSs X a t)(hb:PSs X b u):PS X (.If c a b pos) (tIfS tc t u):=by
 intro pins s σ H D I h
 refine wpAny_If (thn (hc pins s σ H _ I h) fun d s1 ⟨H1,I1,q1⟩=>?_)
 cases d with
 | true=>exact ha pins s1 σ H1 D I1 q1
 | false=>exact hb pins s1 σ H1 D I1 q1
end
abbrev TG:=V->St->Hp->(St->Hp->Prop)->Prop
abbrev TGs:=List V->St->Hp->(St->Hp->Prop)->Prop
def PG (X:Cx)(target:Expr)(t:TG):Prop :=
 ∀ (pins:List (Addr×Obj)) (s:Shared) (σ:St) (H:Hp) (v:V) (u:Value) (Q:St->Hp->Prop),Inv X pins σ H s->RelV v u->t v σ H Q->
  wpAny (model X.prog X.w) X.A (assign target X.env u) (fun _ s'=>∃ σ' H',Inv X pins σ' H' s'/\Q σ' H') X.xe s
def PGs (X:Cx)(ts:List Expr)(t:TGs):Prop :=
 ∀ (pins:List (Addr×Obj)) (s:Shared) (σ:St) (H:Hp) (vs:List V) (us:List Value) (Q:St->Hp->Prop),Inv X pins σ H s->Vals vs us->t vs σ H Q->
  wpAny (model X.prog X.w) X.A (assignInOrder ((assignEach ts X.env).map (·.2)) us) (fun _ s'=>∃ σ' H',Inv X pins σ' H' s'/\Q σ' H') X.xe s
section
variable {X:Cx}{pos:Pos}
def qcp (i:Nat):TG:=fun v σ H Q=>Q (σ.set i (some v)) H
theorem w5 {i:Nat}{x:Str}(hN:X.N.Nodup)(hi:X.N[i]?=some x)(hx:Loc X.env.scope x)(hf:X.fn x=true\/X.env.scope.names.lookup x=some .local:=by first|exact .inl rfl|exact .inr rfl|assumption):PG X (.Name x pos) (qcp i):=by
 intro pins s σ H v u Q I r h
 exact wpAny_assign_Name (JH I hN hi hx r (fun s' I'=>⟨_,H,I',h⟩) hf)
def gNil:TGs:=fun vs σ H Q=>vs=[]/\Q σ H
def gCons (t:TG)(u:TGs):TGs:=fun vs σ H Q=>∃ v r,vs=v::r/\t v σ H fun σ' H'=>u r σ' H' Q
theorem qb1:PGs X [] gNil:=by
 intro pins s σ H vs us Q I r h
 obtain ⟨e,h⟩:=h
 subst e
 cases r
 exact assignInOrder_nil ⟨σ,H,I,h⟩
theorem qaS {e:Expr}{es:List Expr}{t:TG}{u:TGs}(h1:PG X e t)(h2:PGs X es u)
  (hs:(assignEach (e::es) X.env).map (·.2)=assign e X.env::(assignEach es X.env).map (·.2):=by rfl):PGs X (e::es) (gCons t u):=by
 intro pins s σ H vs us Q I r h
 obtain ⟨v,vr,e1,h⟩:=h
 subst e1
 cases r with
 | cons r rr =>
  rw [hs]
  refine assignInOrder_cons (thn (h1 pins s σ H _ _ _ I r h) fun _ s1 ⟨σ1,H1,I1,q1⟩=>?_)
  exact h2 pins s1 σ1 H1 _ _ Q I1 rr q1
def gTup (K:PySem.W.Frag)(n:Nat)(t:TGs):TG:=fun v σ H Q=>∃ a xs,v=.ref a/\SqT K H a xs/\xs.length=n/\t xs σ H Q
theorem qdn {es:List Expr}{k:Nat}{t:TGs}{n:Nat}(hc:X.calm=true)(h:PGs X es t)
  (hn:(assignEach es X.env).length=n:=by rfl) (hst:(assignEach es X.env).findIdx? (·.1)=none:=by rfl):PG X (.Tuple es k pos) (gTup X.K n t):=by
 intro pins s σ H v u Q I r hw
 obtain ⟨a,xs,e1,hq,hl,hw⟩:=hw
 subst e1
 cases r
 obtain ⟨its,rv,ht,hz⟩:=I.tuple hq
 refine assign_Tuple_tuple (I.ok.hd hc) ht (by simp [hn,← hl,rv.length]) hst fun h' hx=>?_
 have I1:Inv X pins σ H { s with heap:=h' }:=I.kept (t':=s.toks) fun b o e=>hx b o (Nat.ne_of_lt (Heap.lt_size e)) e
 exact h pins _ σ H xs _ Q I1 (by simpa using rv) hw
def tAsg (te:TE)(g:TG):TS:=fun D σ H=>te σ H fun x H1=>g x σ H1 D.nx
theorem qdr {tg e:Expr}{te:TE}{g:TG}(he:PE X e te)(hg:PG X tg g)(hs:swapsWithSole [tg] e pos.line X.env=pure false:=by rfl)(hw:swappedStores [tg] e X.env=pure none:=by rfl)
  (h1:(assignEach [tg] X.env).map (·.2)=[assign tg X.env]:=by rfl):PS X (.Assign [tg] e pos) (tAsg te g):=by
 intro pins s σ H D I h
 refine wpAny_Assign_stores (thn (he pins s σ H _ I h) fun v s1 ⟨x,H1,I1,r1,q1⟩=>?_) hs hw
 rw [h1]
 exact thn (hg pins s1 σ H1 x v _ I1 r1 q1) fun _ s2 q=>q
theorem qaW {i:Nat}{x:Str}{e:Expr}{te:TE}{pos':Pos}(hN:X.N.Nodup)(hi:X.N[i]?=some x)(hx:Loc X.env.scope x)(he:PE X e te)(hs:swapsWith e (some (.Name x pos')) pos.line X.env=pure false:=by rfl)(hf:X.fn x=true\/X.env.scope.names.lookup x=some .local:=by first|exact .inl rfl|exact .inr rfl|assumption) :
  PS X (.Assign [.Name x pos'] e pos) (tAsg te (qcp i)):=by
 intro pins s σ H D I h
 refine wpAny_Assign_Name (thn (he pins s σ H _ I h) fun v s1 ⟨y,H1,I1,r1,q1⟩=>?_) hs
 exact JH I1 hN hi hx r1 (fun s2 I2=>⟨_,H1,I2,q1⟩) hf
end
structure It where
 go:Nat->Hp->Prop
 yld:Nat->Hp->V->Hp->Prop
 stop:Nat->Hp->Prop
def FpOk (X:Cx)(pins:List (Addr×Obj))(H:Hp)(b:Addr):Prop :=
 H b=none/\b≠X.env.locals/\b∉X.fs/\(b∈X.ex\/X.s₀.heap.objs.size<=b)/\(∀ x c,X.env.cells.lookup x=some c->c≠b)/\∀ p∈X.pn++pins,p.1≠b
theorem Inv.fpOk {X:Cx}{pins:List (Addr×Obj)}{σ:St}{H H':Hp}{s:Shared}{b:Addr}(I:Inv X pins σ H s)(hb:s.heap.objs.size<=b)(hn:H' b=none):FpOk X pins H' b:=by
 refine ⟨hn,Nat.ne_of_gt (Nat.lt_of_lt_of_le I.lt hb),I.nofs hb,.inr (Nat.le_trans I.sz hb),fun x c e z=>?_,fun p hp z=>?_⟩
 ·obtain ⟨v,q⟩:=I.cell x c e
  exact absurd (Nat.lt_of_lt_of_le q.lt (by rw [z];exact hb)) (Nat.lt_irrefl _)
 ·exact absurd (Nat.lt_of_lt_of_le (Heap.lt_size (I.pin p hp).1) (by rw [z];exact hb)) (Nat.lt_irrefl _)
structure Turn (P:Program)(w:World)(K:PySem.W.Frag)(tg:Expr)(J:It)(fp:List Addr)(it:Addr)(tn:Nat->Heap->Prop):Prop where
 mem:it∈fp
 obj:∀ i h,tn i h->∀ b∈fp,∃ o,h.get? b=some o/\∀ v,o.data≠.cell v
 keep:∀ i h h',tn i h->(∀ b∈fp,∀ o,h.get? b=some o->h'.get? b=some o)->tn i h'
 item:∀ (X:Cx),X.prog=P->X.w=w->X.K=K->X.calm=true->∀ (i:Nat) (pins:List (Addr×Obj)) (s:Shared) (σ:St) (H:Hp) (E:Value->Shared->Prop),Inv X pins σ H s->(∀ b∈fp,FpOk X pins H b)->tn i s.heap->J.go i H->
  wpAny (model P w) X.A (pyNext (.ref it)) (fun r s1=>∃ u,r=some u/\
   wpAny (model P w) X.A (letOwnedTupleGo tg (.ref it) u) (fun _ s2=>∃ x H',Inv X pins σ H' s2/\RelV x u/\J.yld i H x H'/\tn (i+1) s2.heap/\∀ b∈fp,H' b=none) E s1) E s
 done:∀ (X:Cx),X.prog=P->X.w=w->X.K=K->X.calm=true->∀ (i:Nat) (pins:List (Addr×Obj)) (s:Shared) (σ:St) (H:Hp) (E:Value->Shared->Prop),Inv X pins σ H s->(∀ b∈fp,FpOk X pins H b)->tn i s.heap->J.stop i H->
  wpAny (model P w) X.A (pyNext (.ref it)) (fun r s1=>r=none/\Inv X pins σ H s1) E s
 self:∀ (A:Around) (i:Nat) (s:Shared) (Q:Value->Shared->Prop) (E:Value->Shared->Prop),tn i s.heap->Q (.ref it) s->wpAny (model P w) A (pyIter (.ref it)) Q E s
abbrev TI:=St->Hp->(It->Hp->Prop)->Prop
def PIE (X:Cx)(pins:List (Addr×Obj))(σ:St)(tg:Expr)(R:It->Hp->Prop)(itv:Value)(s2:Shared):Prop :=
 ∃ (it:Addr) (fp:List Addr) (tn:Nat->Heap->Prop) (J:It) (H':Hp),itv=.ref it/\Inv X pins σ H' s2/\Turn X.prog X.w X.K tg J fp it tn/\tn 0 s2.heap/\(∀ b∈fp,FpOk X pins H' b)/\R J H'
def PI (X:Cx)(tg iter:Expr)(wi:TI):Prop :=
 ∀ (pins:List (Addr×Obj)) (s:Shared) (σ:St) (H:Hp) (R:It->Hp->Prop),Inv X pins σ H s->wi σ H R->
  wpAny (model X.prog X.w) X.A (eval iter X.env) (fun v s1=>wpAny (model X.prog X.w) X.A (pyIter v) (PIE X pins σ tg R) X.xe s1) X.xe s
theorem qam {M:Model}{A:Around}{E:Value->Shared->Prop}{s:Shared}{tg:Expr}{it:Addr}{u:Value}{o:Obj}{n:String}{vs:Array Value}{Q:Unit->Shared->Prop}(ho:s.heap.get? it=some o)(hc:o.cls=.type n)(hd:o.data=.fields vs)
  (hn:["enumerate", "zip", "dict_itemiterator", "dict_reverseitemiterator", "odict_iterator", "itertools.zip_longest", "itertools.pairwise"].contains n=false) (hQ:Q () s):wpAny M A (letOwnedTupleGo tg (.ref it) u) Q E s:=by
 unfold letOwnedTupleGo
 cases tg<;>first
  | exact wpAny_pure hQ
  | (cases u<;>first
    | exact wpAny_pure hQ
    | (
      refine wpAny_bind (wpAny_load ho ?_)
      rw [hc,hd]
      show wpAny M A (if (["enumerate", "zip", "dict_itemiterator", "dict_reverseitemiterator", "odict_iterator", "itertools.zip_longest", "itertools.pairwise"].contains n&&vs[0]?==some (rawInt _))=true then _ else _) Q E s
      rw [if_neg (by intro h;rw [hn,Bool.false_and] at h;cases h)]
      exact wpAny_pure hQ))
def Itl (K:PySem.W.Frag)(a:Addr):It :=
 ⟨fun i H=>∃ xs x,SqL K H a xs/\xs[i]?=some x,fun i H x H'=>H'=H/\∀ xs,SqL K H a xs->xs[i]?=some x,fun i H=>∃ xs,SqL K H a xs/\xs.length<=i⟩
def Itt (K:PySem.W.Frag)(a:Addr):It :=
 ⟨fun i H=>∃ xs x,SqT K H a xs/\xs[i]?=some x,fun i H x H'=>H'=H/\∀ xs,SqT K H a xs->xs[i]?=some x,fun i H=>∃ xs,SqT K H a xs/\xs.length<=i⟩
def Itr (lo:Int)(n:Nat):It:=⟨fun i _=>i<n,fun i H x H'=>H'=H/\x=.int (lo+i),fun i _=>n<=i⟩
theorem WX {P:Program}{w:World}{K:PySem.W.Frag}{tg:Expr}(a it:Addr):Turn P w K tg (Itl K a) [it] it (fun i h=>h.IsListIter it a i) where
 mem:=by simp
 obj:=fun i h st b hb=>by
  have e:b=it:=by simpa using hb
  subst e
  obtain ⟨o,e,c,d⟩:=st
  exact ⟨o,e,fun v z=>by rw [d] at z;cases z⟩
 keep:=fun i h h' st k=>st.at fun o e=>k it (by simp) o e
 item:=by
  intro X hP hw hK hc i pins s σ H E I hf st hg
  subst hP hw hK
  obtain ⟨xs,x,hq,hx⟩:=hg
  obtain ⟨its,rv,p,hz⟩:=I.list hq
  obtain ⟨u,hu,ru⟩:=rv.get hx
  obtain ⟨f0,f1,f2,f3,f4,f5⟩:=hf it (by simp)
  refine wpAny_pyNext_list_item st p.isList (x:=u) (by simpa using hu) fun h' st' sb=>?_
  have I1:Inv X pins σ H { s with heap:=h' }:=I.turned (t':=s.toks) (fun b o hb e=>(sb.2 b hb).trans e) f0 f1 f3 f4 f5
  obtain ⟨o,e,c,d⟩:=id st'
  exact ⟨u,rfl,qam (s:={ s with heap:=h' }) e c d (by decide) ⟨x,H,I1,ru,⟨rfl,fun ys hy=>by rw [I.list_inj hy hq];exact hx⟩,st',fun b hb=>(hf b hb).1⟩⟩
 done:=by
  intro X hP hw hK hc i pins s σ H E I hf st hg
  subst hP hw hK
  obtain ⟨xs,hq,hx⟩:=hg
  obtain ⟨its,rv,p,hz⟩:=I.list hq
  obtain ⟨f0,f1,f2,f3,f4,f5⟩:=hf it (by simp)
  have hl:=rv.length
  exact wpAny_pyNext_list_end (I.ok.hd hc) st p.isList (by simp;omega) fun h' eb=>⟨rfl,I.turned (t':=s.toks) (fun b o hb e=>eb b o hb e) f0 f1 f3 f4 f5⟩
 self:=fun _ _ _ _ _ st h=>wpAny_pyIter_listiter st h
theorem Y6 {P:Program}{w:World}{K:PySem.W.Frag}{tg:Expr}(a it:Addr):Turn P w K tg (Itt K a) [it] it (fun i h=>h.IsTupleIter it a i) where
 mem:=by simp
 obj:=fun i h st b hb=>by
  have e:b=it:=by simpa using hb
  subst e
  obtain ⟨o,e,c,d⟩:=st
  exact ⟨o,e,fun v z=>by rw [d] at z;cases z⟩
 keep:=fun i h h' st k=>st.at fun o e=>k it (by simp) o e
 item:=by
  intro X hP hw hK hc i pins s σ H E I hf st hg
  subst hP hw hK
  obtain ⟨xs,x,hq,hx⟩:=hg
  obtain ⟨its,rv,p,hz⟩:=I.tuple hq
  obtain ⟨u,hu,ru⟩:=rv.get hx
  obtain ⟨f0,f1,f2,f3,f4,f5⟩:=hf it (by simp)
  refine wpAny_pyNext_tuple_item st (show s.heap.IsTuple a its.toArray from p) (x:=u) (by simpa using hu) fun h' st' sb=>?_
  have I1:Inv X pins σ H { s with heap:=h' }:=I.turned (t':=s.toks) (fun b o hb e=>(sb.2 b hb).trans e) f0 f1 f3 f4 f5
  obtain ⟨o,e,c,d⟩:=id st'
  exact ⟨u,rfl,qam (s:={ s with heap:=h' }) e c d (by decide) ⟨x,H,I1,ru,⟨rfl,fun ys hy=>by rw [I.tuple_inj hy hq];exact hx⟩,st',fun b hb=>(hf b hb).1⟩⟩
 done:=by
  intro X hP hw hK hc i pins s σ H E I hf st hg
  subst hP hw hK
  obtain ⟨xs,hq,hx⟩:=hg
  obtain ⟨its,rv,p,hz⟩:=I.tuple hq
  obtain ⟨f0,f1,f2,f3,f4,f5⟩:=hf it (by simp)
  have hl:=rv.length
  exact wpAny_pyNext_tuple_end (I.ok.hd hc) st (show s.heap.IsTuple a its.toArray from p) (by simp;omega) fun h' eb=>⟨rfl,I.turned (t':=s.toks) (fun b o hb e=>eb b o hb e) f0 f1 f3 f4 f5⟩
 self:=fun _ _ _ _ _ st h=>wpAny_pyIter_tupleiter st h
theorem Y5 {P:Program}{w:World}{K:PySem.W.Frag}{tg:Expr}(it:Addr)(lo:Int)(n:Nat):Turn P w K tg (Itr lo n) [it] it (fun i h=>IsRangeIter h it (lo+(i:Nat)*1) ((n:Int)-(i:Nat)) 1) where
 mem:=by simp
 obj:=fun i h st b hb=>by
  have e:b=it:=by simpa using hb
  subst e
  exact ⟨_,st,fun v z=>by
   have z':Data.fields _=Data.cell v:=z
   cases z'⟩
 keep:=fun i h h' st k=>k it (by simp) _ st
 item:=by
  intro X hP hw hK hc i pins s σ H E I hf st hg
  subst hP hw hK
  obtain ⟨f0,f1,f2,f3,f4,f5⟩:=hf it (by simp)
  have W:=Walks.range (prog:=X.prog) (w:=X.w) (I.ok.hd hc) it lo 1 n
  refine W.item i s _ _ hg st fun v h' tk hv st' kk=>?_
  obtain ⟨t,rfl⟩:=hv
  have I1:Inv X pins σ H { s with heap:=h',toks:=tk }:=I.turned (fun b o hb e=>kk b o (by simpa using hb) e) f0 f1 f3 f4 f5
  refine ⟨_,rfl,qam (s:={ s with heap:=h',toks:=tk }) (n := "range_iterator") st' rfl rfl (by decide) ⟨.int (lo+i),H,I1,⟨t,?_⟩,⟨rfl,rfl⟩,st',fun b hb=>(hf b hb).1⟩⟩
  rw [Int.mul_one]
 done:=by
  intro X hP hw hK hc i pins s σ H E I hf st hg
  subst hP hw hK
  obtain ⟨f0,f1,f2,f3,f4,f5⟩:=hf it (by simp)
  exact wpAny_pyNext_range_end (I.ok.hd hc) st (by have:n<=i:=hg;omega) fun h' eb=>⟨rfl,I.turned (t':=s.toks) (fun b o hb e=>eb b o hb e) f0 f1 f3 f4 f5⟩
 self:=fun _ _ _ _ _ st h=>wpAny_pyIter_rangeiter st h
section
variable {X:Cx}{tg:Expr}
theorem qaY {pins:List (Addr×Obj)}{σ:St}{H:Hp}{s:Shared}{R:It->Hp->Prop}{E:Value->Shared->Prop}{lo hi:Int}{t u v:Tok}{tk:Nat}(I:Inv X pins σ H s)(h1:-(2 ^ 62)<=lo)(h2:lo<2 ^ 62)(h3:-(2 ^ 62)<=hi)(h4:hi<2 ^ 62)
  (q:R (Itr lo (hi-lo).toNat) H):wpAny (model X.prog X.w) X.A (pyIter (.ref s.heap.objs.size)) (PIE X pins σ tg R) E { s with heap:=s.heap.push { cls:=.type "range", data:=.fields #[.int lo t,.int hi u,.int 1 v] },toks:=tk }:=by
 refine wpAny_pyIter_range (IsRange.new ..) (small_one h1 h2 h3 h4) ?_
 have I1:Inv X pins σ H { s with heap:=s.heap.push { cls:=.type "range", data:=.fields #[.int lo t,.int hi u,.int 1 v] },toks:=tk }:=I.kept fun b o e=>Heap.get?_push_of_some _ e
 refine ⟨(s.heap.push { cls:=.type "range", data:=.fields #[.int lo t,.int hi u,.int 1 v] }).objs.size,[(s.heap.push { cls:=.type "range", data:=.fields #[.int lo t,.int hi u,.int 1 v] }).objs.size],_,_,H,rfl,
  I1.kept (t':=tk) fun b o e=>Heap.get?_push_of_some _ e,Y5 _ lo (hi-lo).toNat,?_,fun b hb=>?_,q⟩
 ·have e1:lo+((0:Nat):Int)*1=lo:=by simp
  have e2:(((hi-lo).toNat:Nat):Int)-((0:Nat):Int)=Builtin.Range.rangeSize lo hi 1:=by rw [rangeSize_one];split<;>omega
  show IsRangeIter _ _ (lo+((0:Nat):Int)*1) ((((hi-lo).toNat:Nat):Int)-((0:Nat):Int)) 1
  rw [e1,e2]
  exact Heap.get?_push_size _ rfl
 ·have e:b=(s.heap.push { cls:=.type "range", data:=.fields #[.int lo t,.int hi u,.int 1 v] }).objs.size:=by simpa using hb
  subst e
  exact I1.fpOk (Nat.le_refl _) (I1.hok.fresh (Nat.le_refl _))
def iRng1 (ta:TA):TI:=fun σ H R=>ta σ H fun vs H1=>∃ j:Int,vs=[.int j]/\-(2 ^ 62)<=j/\j<2 ^ 62/\R (Itr 0 j.toNat) H1
theorem yg {a:Expr}{ta:TA}{p pos:Pos}(hg:Gl X "range")(hm:X.mg "range" = none)(ha:PA X [a] ta)(hs:starEach [a] X.env=[(false,eval a X.env)]:=by rfl):PI X tg (.Call (.Name "range" p) [a] [] pos) (iRng1 ta):=by
 intro pins s σ H R I h
 refine Call_ (yF I hg hm boot_range (PyProof.Rows.callWith_type1 (thn (ha pos pins s σ H _ I h) fun us s1 ⟨vs,H1,I1,r1,q1⟩=>?_) hs rfl))
 obtain ⟨j,e,q1,q2,q⟩:=q1
 subst e
 cases r1 with
 | cons r rr =>
  cases rr
  obtain ⟨t,rfl⟩:=r
  exact call_range_1 (qaY I1 (by omega) (by omega) q1 q2 (by simpa using q))
def tFor (wi:TI)(g:TG)(tb:TS):TS:=fun D σ H=>wi σ H fun J H1=>∃ W:Nat->Nat->St->Hp->Prop,(∃ m,W 0 m σ H1)/\∀ i m σ H,W i m σ H->
 (J.stop i H/\D.nx σ H)\/(J.go i H/\∃ N:St->Hp->Prop,(∀ σ' H',N σ' H'->∃ m',m'<m/\W (i+1) m' σ' H')/\∀ x H',J.yld i H x H'->g x σ H' fun σ2 H2=>tb { D with nx:=N,ct:=N,bk:=D.nx } σ2 H2)
def Qp (fp:List Addr)(h:Heap):List (Addr×Obj):=fp.filterMap fun b=>(h.get? b).map fun o=>(b,o)
theorem Qi {fp:List Addr}{h:Heap}{b:Addr}{o:Obj}(hb:b∈fp)(e:h.get? b=some o):(b,o)∈Qp fp h:=List.mem_filterMap.mpr ⟨b,hb,by rw [e];rfl⟩
theorem jC {fp:List Addr}{h:Heap}{p:Addr×Obj}(hp:p∈Qp fp h):p.1∈fp/\h.get? p.1=some p.2:=by
 obtain ⟨b,hb,e⟩:=List.mem_filterMap.mp hp
 cases q:h.get? b with
 | none=>rw [q] at e;cases e
 | some o =>
  rw [q] at e
  have e':(b,o)=p:=Option.some.inj e
  subst e'
  exact ⟨hb,q⟩
theorem Inv.pinned {pins:List (Addr×Obj)}{σ:St}{H:Hp}{s:Shared}{fp:List Addr}(I:Inv X pins σ H s)(hf:∀ b∈fp,FpOk X pins H b)(ho:∀ b∈fp,∃ o,s.heap.get? b=some o/\∀ v,o.data≠.cell v):Inv X (pins++Qp fp s.heap) σ H s :=
 I.pins_of fun p hp=>(List.mem_append.mp hp).elim (fun z=>I.pin p (List.mem_append_right _ z)) fun z=>by
  obtain ⟨hb,e⟩:=jC z
  obtain ⟨f0,f1,f2,_⟩:=hf p.1 hb
  obtain ⟨o,e',d⟩:=ho p.1 hb
  rw [e] at e';cases e'
  exact ⟨e,f0,f1,f2,d⟩
theorem Inv.unpinned {pins pl:List (Addr×Obj)}{σ:St}{H:Hp}{s:Shared}(I:Inv X (pins++pl) σ H s):Inv X pins σ H s:=I.pins_of fun p hp=>I.pin p (List.mem_append_right _ (List.mem_append_left _ hp))
theorem qaV {iter:Expr}{body:List Stmt}{wi:TI}{g:TG}{tb:TS}{pos:Pos}(hp:PassesOwn (model X.prog X.w) X.A X.env X.xe)(hc:X.calm=true)(hi:PI X tg iter wi)(hg:PG X tg g)(hb:PSs X body tb)
  (hs:∀ x,foldedSetIterable iter X.env x=pure x:=by intro _;rfl):PS X (.For tg iter body [] pos) (tFor wi g tb):=by
 intro pins s σ H D I h
 refine wpAny_For (thn (hi pins s σ H _ I h) fun v s1 h1=>thn h1 fun itv s2 h2=>?_) hs
 obtain ⟨it,fp,tn,J,H2,e,I2,T,st2,f2,W,⟨m0,w0⟩,turn⟩:=h2
 subst e
 have stat:∀ {H':Hp},(∀ b∈fp,H' b=none)->∀ b∈fp,FpOk X pins H' b:=fun hn b hb=>⟨hn b hb,(f2 b hb).2⟩
 refine codeAny_forLoop_any (fun n s'=>∃ i σ' H',Inv X pins σ' H' s'/\tn i s'.heap/\(∀ b∈fp,H' b=none)/\W i n σ' H') ?_ m0 ⟨0,σ,H2,I2,st2,fun b hb=>(f2 b hb).1,w0⟩
 rintro n s3 ⟨i,σ3,H3,I3,st3,fr3,w3⟩
 rcases turn i n σ3 H3 w3 with ⟨stop,qn⟩|⟨go,N,hN,step⟩
 ·refine wpAny_passesOwn hp (thn (T.done X rfl rfl rfl hc i pins s3 σ3 H3 X.xe I3 (stat fr3) st3 stop) fun r s4 ⟨hr,I4⟩=>?_)
  subst hr
  exact wpAny_execs_nil ⟨σ3,H3,I4,qn⟩
 ·refine wpAny_passesOwn hp (thn (T.item X rfl rfl rfl hc i pins s3 σ3 H3 X.xe I3 (stat fr3) st3 go) fun r s4 ⟨u,hr,h4⟩=>?_)
  subst hr
  refine wpAny_passesOwn hp (thn h4 fun _ s5 ⟨x,H5,I5,r5,y5,st5,fr5⟩=>?_)
  have I5':=I5.pinned (stat fr5) (T.obj _ _ st5)
  refine wpAny_passesOwn hp (thn (hg _ s5 σ3 H5 x u _ I5' r5 (step x H5 y5)) fun _ s6 ⟨σ6,H6,I6,q6⟩=>?_)
  refine wpAny_passesOwn hp (thn (hb _ s6 σ6 H6 _ I6 q6) fun f s7 q7=>?_)
  have again:∀ {σ7:St} {H7:Hp},Inv X (pins++Qp fp s5.heap) σ7 H7 s7->N σ7 H7->∃ m,m<n/\∃ i σ' H',Inv X pins σ' H' s7/\tn i s7.heap/\(∀ b∈fp,H' b=none)/\W i m σ' H':=fun {σ7 H7} I7 n7=>by
   obtain ⟨m',hm,w7⟩:=hN σ7 H7 n7
   refine ⟨m',hm,i+1,σ7,H7,I7.unpinned,T.keep _ _ _ st5 fun b hb o e=>(I7.pin (b,o) (List.mem_append_right _ (List.mem_append_right _ (Qi hb e)))).1,fun b hb=>?_,w7⟩
   obtain ⟨o,e,d⟩:=T.obj _ _ st5 b hb
   exact (I7.pin (b,o) (List.mem_append_right _ (List.mem_append_right _ (Qi hb e)))).2.1
  cases f with
  | next=>obtain ⟨σ7,H7,I7,n7⟩:=q7;exact again I7 n7
  | cont=>obtain ⟨σ7,H7,I7,n7⟩:=q7;exact again I7 n7
  | brk=>obtain ⟨σ7,H7,I7,q7⟩:=q7;exact ⟨σ7,H7,I7.unpinned,q7⟩
  | ret v=>obtain ⟨x7,σ7,H7,I7,r7,q7⟩:=q7;exact ⟨x7,σ7,H7,I7.unpinned,r7,q7⟩
end
abbrev R2:=V->V->Hp->VK->Prop
def OpR (X:Cx)(f:Value->Value->Sem Value)(r:R2):Prop :=
 ∀ (pins:List (Addr×Obj)) (s:Shared) (σ:St) (H:Hp) (x y:V) (v u:Value) (Q:VK),Inv X pins σ H s->RelV x v->RelV y u->r x y H Q->
  wpAny (model X.prog X.w) X.A (f v u) (EP X pins σ Q) X.xe s
def UnR (X:Cx)(f:Value->Sem Value)(r:V->Hp->VK->Prop):Prop :=
 ∀ (pins:List (Addr×Obj)) (s:Shared) (σ:St) (H:Hp) (x:V) (v:Value) (Q:VK),Inv X pins σ H s->RelV x v->r x H Q->
  wpAny (model X.prog X.w) X.A (f v) (EP X pins σ Q) X.xe s
def QD (X:Cx)(f:Value)(r:List V->Hp->VK->Prop):Prop :=
 ∀ (pins:List (Addr×Obj)) (s:Shared) (σ:St) (H:Hp) (xs:List V) (us:List Value) (Q:VK),Inv X pins σ H s->Vals xs us->r xs H Q->
  wpAny (model X.prog X.w) X.A (call f us) (EP X pins σ Q) X.xe s
def tOp (r:R2)(ta tb:TE):TE:=fun σ H Q=>ta σ H fun x H1=>tb σ H1 fun y H2=>r x y H2 Q
def tUn (r:V->Hp->VK->Prop)(ta:TE):TE:=fun σ H Q=>ta σ H fun x H1=>r x H1 Q
def rI (C:Int->Int->Prop)(g:Int->Int->V):R2:=fun x y H Q=>∃ i j,x=.int i/\y=.int j/\C i j/\Q (g i j) H
def rI0 (g:Int->Int->V):R2:=fun x y H Q=>∃ i j,x=.int i/\y=.int j/\Q (g i j) H
def rU (g:Int->V):V->Hp->VK->Prop:=fun x H Q=>∃ i,x=.int i/\Q (g i) H
section
variable {X:Cx}{a b c:Expr}{ta tb tc:TE}{pos:Pos}
theorem binT (ha:PE X a ta)(hb:PE X b tb){pins:List (Addr×Obj)}{s:Shared}{σ:St}{H:Hp}{R:V->V->Hp->Prop}(I:Inv X pins σ H s)
  (h:ta σ H fun x H1=>tb σ H1 fun y H2=>R x y H2) {Q:Value->Shared->Prop} {f:Value->Value->Sem Value}
  (hf:∀ v u s2 x y H2,Inv X pins σ H2 s2->RelV x v->RelV y u->R x y H2->wpAny (model X.prog X.w) X.A (f v u) Q X.xe s2) :
  wpAny (model X.prog X.w) X.A (eval a X.env) (fun v s₁=>wpAny (model X.prog X.w) X.A (eval b X.env) (fun u s₂=>wpAny (model X.prog X.w) X.A (f v u) Q X.xe s₂) X.xe s₁) X.xe s:=by
 refine thn (ha pins s σ H _ I h) fun v s1 ⟨x,H1,I1,r1,q1⟩=>?_
 refine thn (hb pins s1 σ H1 _ I1 q1) fun u s2 ⟨y,H2,I2,r2,q2⟩=>?_
 exact hf v u s2 x y H2 I2 r1 r2 q2
theorem pe_op {op:Operator}{r:R2}(ho:OpR X (binaryOp op) r)(ha:PE X a ta)(hb:PE X b tb):PE X (.BinOp a op b pos) (tOp r ta tb):=by
 intro pins s σ H Q I h
 exact wpAny_BinOp (binT ha hb I h fun v u s2 x y H2 I2 rx ry q=>ho pins s2 σ H2 x y v u Q I2 rx ry q)
theorem pe_un {op:UnaryOp}{r:V->Hp->VK->Prop}(ho:UnR X (unaryOp op) r)(ha:PE X a ta):PE X (.UnaryOp op a pos) (tUn r ta):=by
 intro pins s σ H Q I h
 exact UnaryOp_ (thn (ha pins s σ H _ I h) fun v s1 ⟨x,H1,I1,r1,q1⟩=>ho pins s1 σ H1 x v Q I1 r1 q1)
theorem opI {f:Value->Value->Sem Value}{C:Int->Int->Prop}{g:Int->Int->Int}
  (rule:∀ (i j:Int) (t u:Tok) (s:Shared) (Q:Value->Shared->Prop) (E:Value->Shared->Prop),C i j->Q (.int (g i j) s.toks) { s with toks:=s.toks+1 }->wpAny (model X.prog X.w) X.A (f (.int i t) (.int j u)) Q E s) :
  OpR X f (rI C fun i j=>.int (g i j)):=by
 intro pins s σ H x y v u Q I rx ry h
 obtain ⟨i,j,rfl,rfl,hc,q⟩:=h
 obtain ⟨t,rfl⟩:=rx
 obtain ⟨t',rfl⟩:=ry
 exact rule i j t t' s _ _ hc ⟨.int (g i j),H,I.tok _,⟨_,rfl⟩,q⟩
theorem opI0 {f:Value->Value->Sem Value}{g:Int->Int->Int}
  (rule:∀ (i j:Int) (t u:Tok) (s:Shared) (Q:Value->Shared->Prop) (E:Value->Shared->Prop),Q (.int (g i j) s.toks) { s with toks:=s.toks+1 }->wpAny (model X.prog X.w) X.A (f (.int i t) (.int j u)) Q E s) :
  OpR X f (rI0 fun i j=>.int (g i j)):=by
 intro pins s σ H x y v u Q I rx ry h
 obtain ⟨i,j,rfl,rfl,q⟩:=h
 obtain ⟨t,rfl⟩:=rx
 obtain ⟨t',rfl⟩:=ry
 exact rule i j t t' s _ _ ⟨.int (g i j),H,I.tok _,⟨_,rfl⟩,q⟩
theorem opB0 {f:Value->Value->Sem Value}{g:Int->Int->Bool}
  (rule:∀ (i j:Int) (t u:Tok) (s:Shared) (Q:Value->Shared->Prop) (E:Value->Shared->Prop),Q (.bool (g i j)) s->wpAny (model X.prog X.w) X.A (f (.int i t) (.int j u)) Q E s) :
  OpR X f (rI0 fun i j=>.bl (g i j)):=by
 intro pins s σ H x y v u Q I rx ry h
 obtain ⟨i,j,rfl,rfl,q⟩:=h
 obtain ⟨t,rfl⟩:=rx
 obtain ⟨t',rfl⟩:=ry
 exact rule i j t t' s _ _ ⟨.bl (g i j),H,I,rfl,q⟩
def CDiv (i j:Int):Prop:=0<j/\j<1073741824
def CPow (i j:Int):Prop:=0<=j/\j<=1000000/\i.natAbs<2 ^ 64
theorem qc7:OpR X (binaryOp .Add) (rI0 fun i j=>.int (i+j)):=opI0 fun _ _ _ _ _ _ _ q=>add_int q
theorem qdc:OpR X (binaryOp .Sub) (rI0 fun i j=>.int (i-j)):=opI0 fun _ _ _ _ _ _ _ q=>sub_int q
theorem qbO:OpR X (binaryOp .FloorDiv) (rI CDiv fun i j=>.int (i / j)):=opI fun i j _ _ _ _ _ hc q=>by
 have h1:(0:Int)<j:=hc.1
 have h2:j<1073741824:=hc.2
 exact floordiv_int (by omega) (by rw [Int.fdiv_eq_ediv_of_nonneg i (by omega)];exact q) (.inl (PyProof.noPylong_small (by omega)))
theorem qc9:OpR X (binaryOp .Mod) (rI (fun _ j=>0<j) fun i j=>.int (i % j)):=opI fun i j _ _ _ _ _ hc q=>by
 have h1:(0:Int)<j:=hc
 exact mod_int' (by omega) (by rw [Int.fmod_eq_emod_of_nonneg i (by omega)];exact q)
theorem qdb:OpR X (binaryOp .Pow) (rI CPow fun i j=>.int (i ^ j.toNat)):=opI fun _ _ _ _ _ _ _ hc q=>pow_int_small hc.1 hc.2.1 hc.2.2 q
theorem unI {f:Value->Sem Value}{g:Int->Int}
  (rule:∀ (i:Int) (t:Tok) (s:Shared) (Q:Value->Shared->Prop) (E:Value->Shared->Prop),Q (.int (g i) s.toks) { s with toks:=s.toks+1 }->wpAny (model X.prog X.w) X.A (f (.int i t)) Q E s) :
  UnR X f (rU fun i=>.int (g i)):=by
 intro pins s σ H x v Q I rx h
 obtain ⟨i,rfl,q⟩:=h
 obtain ⟨t,rfl⟩:=rx
 exact rule i t s _ _ ⟨.int (g i),H,I.tok _,⟨_,rfl⟩,q⟩
theorem qdQ:UnR X (unaryOp .USub) (rU fun i=>.int (-i)):=unI fun _ _ _ _ _ q=>neg_int q
end
section
variable {X:Cx}{a b c:Expr}{ta tb tc:TE}{pos:Pos}
theorem Jm {pins:List (Addr×Obj)}{σ:St}{H:Hp}{s:Shared}{Q:VK}{k k':Bool}(I:Inv X pins σ H s)(q:Q (.bl k) H)(e:k=k'):EP X pins σ Q (.bool k') s:=by
 subst e
 exact ⟨.bl k,H,I,rfl,q⟩
theorem op_le:OpR X (compareOp .LtE) (rI0 fun i j=>.bl (decide (i<=j))):=opB0 fun _ _ _ _ _ _ _ q=>le_int q
theorem OpR.or {f:Value->Value->Sem Value}{r r':R2}(h:OpR X f r)(h':OpR X f r'):OpR X f (fun x y H Q=>r x y H Q\/r' x y H Q):=by
 intro pins s σ H x y v u Q I rx ry q
 rcases q with q|q
 ·exact h pins s σ H x y v u Q I rx ry q
 ·exact h' pins s σ H x y v u Q I rx ry q
theorem zy (b:Expr){op:CmpOp}(h:op≠.In:=by decide)(h2:op≠.NotIn:=by decide):behindInMarks op b=false:=by
 have e1:(op==CmpOp.In)=false:=by cases op<;>first|rfl|exact absurd rfl h
 have e2:(op==CmpOp.NotIn)=false:=by cases op<;>first|rfl|exact absurd rfl h2
 cases b<;>simp [behindInMarks,e1,e2]
theorem qbY {op:CmpOp}{r:R2}(ho:OpR X (compareOp op) r)(ha:PE X a ta)(hb:PE X b tb)(hm:behindInMarks op b=false):PE X (.Compare a [op] [b] pos) (tOp r ta tb):=by
 intro pins s σ H Q I h
 exact wpAny_Compare1 (binT ha hb I h fun v u s2 x y H2 I2 rx ry q=>ho pins s2 σ H2 x y v u Q I2 rx ry q) hm
def tTest (t:TE):TT:=fun σ H Q=>t σ H fun x H'=>∃ k,x=.bl k/\Q k H'
theorem qb7 {op:CmpOp}{r:R2}(ho:OpR X (compareOp op) r)(ha:PE X a ta)(hb:PE X b tb)(hm:behindInMarks op b=false):PT X (.Compare a [op] [b] pos) (tTest (tOp r ta tb)):=by
 intro pins s σ H Q I h
 refine wpAny_isTrue_Compare1 (thn (ha pins s σ H _ I h) fun v s1 ⟨x,H1,I1,r1,q1⟩=>thn (hb pins s1 σ H1 _ I1 q1) fun u s2 ⟨y,H2,I2,r2,q2⟩ =>
  thn (ho pins s2 σ H2 x y v u _ I2 r1 r2 q2) fun c s3 ⟨z,H3,I3,r3,k,e,q3⟩=>?_) hm
 subst e
 cases r3
 exact wpAny_truthy_bool ⟨H3,I3,q3⟩
def qaZ (r r':R2)(ta tb tc:TE):TE:=fun σ H Q=>ta σ H fun x H1=>tb σ H1 fun y H2=>r x y H2 fun z H3=>∃ k,z=.bl k/\
 (if k=true then tc σ H3 fun w' H4=>r' y w' H4 Q else Q (.bl false) H3)
theorem qaK {op op':CmpOp}{r r':R2}(ho:OpR X (compareOp op) r)(ho':OpR X (compareOp op') r')(ha:PE X a ta)(hb:PE X b tb)(hc:PE X c tc)
  (hm:lastMarks [op,op'] [b,c]=false:=by with_unfolding_all rfl):PE X (.Compare a [op,op'] [b,c] pos) (qaZ r r' ta tb tc):=by
 intro pins s σ H Q I h
 refine Compare_chain (thn (ha pins s σ H _ I h) fun v s1 ⟨x,H1,I1,r1,q1⟩=>chain_link (thn (hb pins s1 σ H1 _ I1 q1) fun u s2 ⟨y,H2,I2,r2,q2⟩ =>
  thn (ho pins s2 σ H2 x y v u _ I2 r1 r2 q2) fun d s3 ⟨z,H3,I3,r3,k,e,q3⟩=>?_)) hm
 subst e
 cases r3
 refine wpAny_truthy_bool ?_
 cases k with
 | false=>exact ite_ff ⟨.bl false,H3,I3,rfl,q3⟩
 | true=>exact ite_tt (chain_last (thn (hc pins s3 σ H3 _ I3 q3) fun w' s4 ⟨z',H4,I4,r4,q4⟩=>ho' pins s4 σ H4 y z' u w' Q I4 r2 r4 q4))
theorem YM:(sizeLine:Nat)<2 ^ 63:=by rw [sizeLine_eq];decide
theorem vals1 {x:V}{us:List Value}(r:Vals [x] us):∃ u,us=[u]/\RelV x u:=by
 cases r with
 | cons r1 r2=>cases r2;exact ⟨_,rfl,r1⟩
theorem W8:QD X (.builtin "abs") (fun xs H Q=>∃ i,xs=[.int i]/\Q (.int (if i<0 then -i else i)) H):=by
 intro pins s σ H xs us Q I r h
 obtain ⟨i,rfl,q⟩:=h
 obtain ⟨u,rfl,t,rfl⟩:=vals1 r
 exact call_abs_int fun u tk=>⟨.int (if i<0 then -i else i),H,I.tok _,⟨_,rfl⟩,q⟩
end
structure ObjM (h:Heap)(x dx C:Addr)(mA:Str->Option Value):Prop where
 obj:h.get? x=some (PySem.W.instObj C dx)
 ns:h.Ns1 dx mA
 ne:dx≠x
theorem Wz {h:Heap}{dx:Addr}{mA:Str->Option Value}(n:h.Ns1 dx mA):∃ od,h.get? dx=some od/\∀ name,PySem.W.lookIn name od=some (mA name):=by
 obtain ⟨o,es,ep,ho,hd,hk,_,hm⟩:=n
 refine ⟨o,ho,fun name=>?_⟩
 have e:=hm name
 unfold nsFind findBy at e
 rw [← Array.find?_toList] at e
 unfold PySem.W.lookIn
 rw [hd]
 dsimp only
 split
 ·rename_i y q
  rw [q] at e
  exact congrArg some e
 ·rename_i q
  rw [q] at e
  have a:es.toList.any (·.refKey)=false:=by
   rw [List.any_eq_false]
   intro y hy
   obtain ⟨z,t,hkey⟩:=hk y (Array.mem_toList_iff.mp hy)
   simp [DictEntry.refKey,hkey]
  have a':¬ es.toList.any (·.refKey)=true:=by rw [a];exact Bool.false_ne_true
  rw [if_neg a']
  exact congrArg some e
theorem ObjM.look {h:Heap}{x dx C:Addr}{mA:Str->Option Value}(I:ObjM h x dx C mA):∃ od,PySem.W.InstAt h x (PySem.W.instObj C dx) C (some od)/\∀ name,PySem.W.lookIn name od=some (mA name) :=
 let ⟨od,ho,hl⟩:=Wz I.ns
 ⟨od,⟨I.obj,rfl,rfl,ho⟩,hl⟩
section
variable {prog:Program}{w:World}{A:Around}{E:Value->Shared->Prop}{s:Shared}{K:PySem.W.Frag}{x dx C f:Addr}{mA:Str->Option Value}{name:Str}{v:Value}
theorem qak {pl:Sem Bool}{Q:Value×List Value->Shared->Prop}(X:K.In s.heap)(I:ObjM s.heap x dx C mA)(hg:PySem.W.plainGet K C name=true)
  (hf:PySem.W.findIn K (.ref C) name=some (some (.ref f))) (ht:PySem.W.isFn K (.ref f)=true) (hv:mA name=none) (h:Q (.ref f,[.ref x]) s) :
  wpAny (model prog w) A (getMethod (.ref x) name pl) Q E s:=by
 obtain ⟨od,J,hl⟩:=I.look
 exact PySem.W.method_fn X J (PySem.W.plainGet_of hg).1 (PySem.W.plainGet_of hg).2 hf (beq_iff_eq.mp ht) (by show (PySem.W.lookIn name od).map (·.isSome)=some false;rw [hl,hv];rfl) h
theorem WF {R:Result->Shared->Prop}(X:K.In s.heap)(hm:PySem.W.makesIn K C=true)
  (hi:PySem.W.findIn K (.ref C) "__init__" = some (some (.builtin "object.__init__")))
  (hb:∀ self,PySem.W.Looks (model prog w) s.heap (bindSpecial (.builtin "object.__init__") self) (.builtin "object.__init__", [self]))
  (h:codeAny (model prog w) (A.under (.builtin "type.__call__" ⟨[.ref C],[]⟩)) (.call (.builtin "object.__init__") ⟨[.ref (s.heap.objs.size+1)],[]⟩) (PySem.W.InitBack (s.heap.objs.size+1) R)
   { s with heap:=(s.heap.push PySem.W.emptyDict).push (PySem.W.instObj C s.heap.objs.size) }) :
  codeAny (model prog w) A (.call (.ref C) ⟨[],[]⟩) R s:=by
 obtain ⟨hh,g,d,t,os⟩:=s
 exact PySem.W.make_core (PySem.W.makes_of X hm) (PySem.W.looks_findIn X hi) hb (.inr ⟨rfl,rfl⟩) h
end
theorem RelO.none_of {o:Option Value}(r:RelO none o):o=none:=by
 cases o with
 | none=>rfl
 | some u=>exact (show False from r).elim
section
variable {P:Program}{w:World}{H H':Hp}{h h':Heap}{a C dx:Addr}{fs fs':List (Str×V)}
theorem wG (hok:HOk P w H h)(e:H a=some (.ins C dx fs)):∃ mA,ObjM h a dx C mA/\(∀ f,RelO (fs.lookup f) (mA f))/\PySem.Within mA (fs.map (·.1))/\fs.length<=1000/\H dx=some (.own a):=by
 obtain ⟨d,z,ne,ob,mA,n,r,q⟩:=(show zE P w H h a (.ins C dx fs) from hok a _ e)
 exact ⟨mA,⟨ob,n,ne⟩,r,q,z,d⟩
end
structure Cls (K:PySem.W.Frag)(C:Addr):Prop where
 pg:PySem.W.plainGet K C Str.empty=true
 hd:PySem.W.hasDictIn K C=true
 po:PySem.W.plainOver K C=true
 sa:PySem.W.findIn K (.ref C) "__setattr__" = some (some (.builtin "object.__setattr__"))
theorem Cls.get {K:PySem.W.Frag}{C:Addr}(c:Cls K C)(f:Str):PySem.W.plainGet K C f=true:=c.pg
structure Meth (K:PySem.W.Frag)(C:Addr)(m:Str)(f:Addr):Prop where
 at_:PySem.W.findIn K (.ref C) m=some (some (.ref f))
 fn:PySem.W.isFn K (.ref f)=true
 kp:PySem.W.keepIn K (.ref f)=true
section
variable {X:Cx}{pins:List (Addr×Obj)}{σ:St}{H:Hp}{s:Shared}{a C dx:Addr}{fs:List (Str×V)}{f:Str}{v:V}{A:Around}{E:Value->Shared->Prop}
theorem Jo {m:Str}{g:Addr}{pl:Sem Bool}{Q:Value×List Value->Shared->Prop}(I:Inv X pins σ H s)(e:H a=some (.ins C dx fs))(c:Cls X.K C)(k:Meth X.K C m g)(l:fs.lookup m=none)
  (h:Q (.ref g,[.ref a]) s):wpAny (model X.prog X.w) A (getMethod (.ref a) m pl) Q E s:=by
 obtain ⟨mA,O,r,_,_,_⟩:=wG I.hok e
 have hn:mA m=none:=RelO.none_of (by rw [← l];exact r m)
 exact qak I.kIn O (c.get m) k.at_ k.fn hn h
theorem Inv.made (I:Inv X pins σ H s):Inv X pins σ (upd (upd H s.heap.objs.size (.own (s.heap.objs.size+1))) (s.heap.objs.size+1) (.ins C s.heap.objs.size []))
  { s with heap:=(s.heap.push PySem.W.emptyDict).push (PySem.W.instObj C s.heap.objs.size) }:=by
 have e1:(s.heap.push PySem.W.emptyDict).get? s.heap.objs.size=some PySem.W.emptyDict:=Heap.get?_push_size s.heap rfl
 have e2:((s.heap.push PySem.W.emptyDict).push (PySem.W.instObj C s.heap.objs.size)).get? (s.heap.objs.size+1)=some (PySem.W.instObj C s.heap.objs.size):=by
  have:=Heap.get?_push_size (s.heap.push PySem.W.emptyDict) (o:=PySem.W.instObj C s.heap.objs.size) rfl
  rwa [Heap.size_push] at this
 have e3:(s.heap.push PySem.W.emptyDict).Ns s.heap.objs.size (fun _=>none):=⟨PySem.W.emptyDict,#[],_,e1,rfl,(fun e he=>absurd he (by simp)),fun _=>rfl⟩
 have I1:=I.laid (a:=s.heap.objs.size) (o:=.own (s.heap.objs.size+1)) (h':=s.heap.push PySem.W.emptyDict) (t':=s.toks) (fun b u q=>Heap.get?_push_of_some _ q) (Nat.le_refl _) ⟨_,e1⟩
 refine I1.laid (a:=s.heap.objs.size+1) (o:=.ins C s.heap.objs.size []) (t':=s.toks) (fun b u q=>Heap.get?_push_of_some _ q) (Nat.le_of_eq (Heap.size_push _ _)) ?_
 have ne:s.heap.objs.size≠s.heap.objs.size+1:=Nat.ne_of_lt (Nat.lt_succ_self _)
 refine ⟨by rw [qJ ne,qN],Nat.zero_le _,ne,e2,fun _=>none,(Heap.Ns1.of_empty e3).at fun o q=>Heap.get?_push_of_some _ q,fun _=>True.intro,fun y hy=>absurd rfl hy⟩
end
section
variable {X:Cx}{pins:List (Addr×Obj)}{σ:St}{H:Hp}{s:Shared}{A:Around}{E:Value->Shared->Prop}{Q:Value->Shared->Prop}{c:Value}{b:Bool}
inductive TyOf (K:PySem.W.Frag)(H:Hp):V->Value->Prop where
 | non:TyOf K H .non (.type "NoneType")
 | bl (x:Bool):TyOf K H (.bl x) (.type "bool")
 | int (i:Int):TyOf K H (.int i) (.type "int")
 | str (x:Str):TyOf K H (.str x) (.type "str")
 | flt (x:UInt64):TyOf K H (.flt x) (.type "float")
 | lst {a:Addr} {xs:List V} (e:H a=some (.lst xs)):TyOf K H (.ref a) (.type "list")
 | frz {a:Addr} {o:Obj} {xs:List V} (e:H a=some (.frz o (.lst xs))):TyOf K H (.ref a) (.type "list")
 | tup {a:Addr} {xs:List V} (e:H a=some (.tup xs)):TyOf K H (.ref a) (.type "tuple")
 | dK {a:Addr} {kvs:List (Key×V)} (e:H a=some (.dK kvs)):TyOf K H (.ref a) (.type "dict")
 | dT {a:Addr} {kvs:List (List Key×V)} (e:H a=some (.dT kvs)):TyOf K H (.ref a) (.type "dict")
 | ins {a C dx:Addr} {fs:List (Str×V)} (e:H a=some (.ins C dx fs)) (cl:Cls K C) (ha:PySem.W.findIn K (.ref C) "__class__" = some (some (.builtin "object.__class__")))
   (hn:PySem.W.specialIn K (.builtin "object.__class__") "__get__" = some (some (.builtin "getset_descriptor.__get__"))) (htk:PySem.W.takesIn K (.builtin "object.__class__")=some true)
   (hm:PySem.W.mroIn K C (.type "object")=some true):TyOf K H (.ref a) (.ref C)
theorem Qz {x:V}{u t:Value}(I:Inv X pins σ H s)(rx:RelV x u)(ty:TyOf X.K H x t)(e:PySem.W.kitOne X.K t c=some b)(h:∀ tk,Q (.bool b) { s with toks:=tk }) :
  wpAny (model X.prog X.w) A (call (.builtin "isinstance") [u,c]) Q E s:=by
 cases ty with
 | non=>cases (show u=Value.none from rx);exact PySem.W.kia_one PySem.W.kitx_none I.kIn True.intro e (fun z=>nomatch z) h
 | bl y=>cases (show u=Value.bool y from rx);exact PySem.W.kia_one PySem.W.kitx_bool I.kIn True.intro e (fun z=>nomatch z) h
 | int i=>obtain ⟨t,q⟩:=(show ∃ t,u=Value.int i t from rx);cases q;exact PySem.W.kia_one PySem.W.kitx_int I.kIn True.intro e (fun z=>nomatch z) h
 | str y=>obtain ⟨t,q⟩:=(show ∃ t,u=Value.str y t from rx);cases q;exact PySem.W.kia_one PySem.W.kitx_str I.kIn True.intro e (fun z=>nomatch z) h
 | flt y=>obtain ⟨t,q⟩:=(show ∃ t,u=Value.float y t from rx);cases q;exact PySem.W.kia_one PySem.W.kitx_float I.kIn True.intro e (fun z=>nomatch z) h
 | @lst a xs ea =>
  cases (show u=Value.ref a from rx)
  obtain ⟨_,_,n,_,h1⟩:=(show zE X.prog X.w H s.heap a (.lst xs) from I.hok a _ ea)
  exact PySem.W.kia_one PySem.W.kitx_list I.kIn ⟨_,h1,rfl⟩ e (fun z=>nomatch z) h
 | @frz a ob xs ea =>
  cases (show u=Value.ref a from rx)
  obtain ⟨_,_,_,n,_,h1⟩:=(show zE X.prog X.w H s.heap a (.frz ob (.lst xs)) from I.hok a _ ea)
  exact PySem.W.kia_one PySem.W.kitx_list I.kIn ⟨_,h1,rfl⟩ e (fun z=>nomatch z) h
 | @tup a xs ea =>
  cases (show u=Value.ref a from rx)
  obtain ⟨_,_,_,p⟩:=(show zE X.prog X.w H s.heap a (.tup xs) from I.hok a _ ea)
  obtain ⟨o,h1,h2,_⟩:=p
  exact PySem.W.kia_one PySem.W.kitx_tuple I.kIn ⟨o,h1,h2⟩ e (fun z=>nomatch z) h
 | @dK a kvs ea =>
  cases (show u=Value.ref a from rx)
  obtain ⟨_,_,vs,_,p⟩:=(show zE X.prog X.w H s.heap a (.dK kvs) from I.hok a _ ea)
  obtain ⟨o,es,ep,h1,h2,_⟩:=p
  exact PySem.W.kia_one PySem.W.kitx_dict I.kIn ⟨o,h1,h2.1⟩ e (fun z=>nomatch z) h
 | @dT a kvs ea =>
  cases (show u=Value.ref a from rx)
  obtain ⟨_,_,xs,_,o,es,ep,h1,h2,_⟩:=(show zE X.prog X.w H s.heap a (.dT kvs) from I.hok a _ ea)
  exact PySem.W.kia_one PySem.W.kitx_dict I.kIn ⟨o,h1,h2.1⟩ e (fun z=>nomatch z) h
 | @ins a C dx fs ea cl ha hn htk hm =>
  cases (show u=Value.ref a from rx)
  obtain ⟨mA,O,_⟩:=wG I.hok ea
  obtain ⟨od,J,_⟩:=O.look
  exact PySem.W.kia_one (PySem.W.kitx_own (cl.get _) cl.hd ha hn htk hm) I.kIn J e (fun z=>nomatch z) h
end
structure Room (k:Nat)(A:Around):Prop where
 hd:A.handled=none
 dp:A.depth+3*k+5<recursionLimit
 un:A.units+16*k+200<cLine
theorem Room.mono {j k:Nat}{A:Around}(r:Room k A)(h:j<=k):Room j A:=⟨r.hd,by have:=r.dp;omega,by have:=r.un;omega⟩
theorem Room.deeper {k:Nat}{A:Around}(r:Room (k+1) A)(env:Env):Room k (A.deeper env) :=
 ⟨r.hd,by have:=r.dp;show A.depth+1+3*k+5<_;omega,by have:=r.un;show A.units+3+16*k+200<_;omega⟩
theorem Room.depth {k:Nat}{A:Around}(r:Room k A):A.depth<recursionLimit:=by have:=r.dp;omega
theorem Room.units {k:Nat}{A:Around}(r:Room k A):A.units+64<cLine:=by have:=r.un;omega
def tNil:TA:=fun _ H Q=>Q [] H
def tCons (ta:TE)(tr:TA):TA:=fun σ H Q=>ta σ H fun x H1=>tr σ H1 fun xs H2=>Q (x::xs) H2
section
variable {X:Cx}{e:Expr}{es:List Expr}{te:TE}{t:TA}{pos:Pos}
theorem Jz:PA X [] tNil:=fun _ _ _ _ H Q I h=>Calls.spliced_nil ⟨[],H,I,.nil,h⟩
theorem QZ (ha:PE X e te)(hr:PA X es t)(hs:starEach (e::es) X.env=(false,eval e X.env)::starEach es X.env:=by rfl):PA X (e::es) (tCons te t):=by
 intro pos pins s σ H Q I h
 rw [hs]
 show wpAny _ _ (spliced ((false,eval e X.env)::backTo pos (starEach es X.env))) _ _ s
 refine Calls.spliced_cons (thn (ha pins s σ H _ I h) fun u s1 ⟨x,H1,I1,r1,q1⟩=>?_)
 exact thn (hr pos pins s1 σ H1 _ I1 q1) fun us s2 ⟨xs,H2,I2,r2,q2⟩=>⟨x::xs,H2,I2,.cons r1 r2,q2⟩
def tTup (t:TA):TE:=fun σ H Q=>t σ H fun xs H1=>xs.length<=sizeLine/\∀ p,H1 p=none->Q (.ref p) (upd H1 p (.tup xs))
def tLst (t:TA):TE:=fun σ H Q=>t σ H fun xs H1=>xs.length<=sizeLine/\∀ p,H1 p=none->Q (.ref p) (upd H1 p (.lst xs))
theorem qaN {x1}(h:PA X es t):PE X (.Tuple es x1 pos) (tTup t):=by
 intro pins s σ H Q I hq
 refine wpAny_Tuple_spliced (thn (h pos pins s σ H _ I hq) fun us s1 ⟨xs,H1,I1,r,z,q⟩=>⟨by rw [← r.length];exact z,?_⟩)
 have hf:H1 s1.heap.objs.size=none:=I1.hok.fresh (Nat.le_refl _)
 refine ⟨.ref s1.heap.objs.size,upd H1 s1.heap.objs.size (.tup xs),I1.laid (t':=s1.toks) (fun b u e=>Heap.get?_push_of_some _ e) (Nat.le_refl _) ?_,rfl,q _ hf⟩
 exact ⟨z,us,r,⟨_,Heap.get?_push_size _ rfl,rfl,_,rfl⟩⟩
theorem qaL (h:PA X es t):PE X (.List es pos) (tLst t):=by
 intro pins s σ H Q I hq
 refine wpAny_List_spliced (thn (h pos pins s σ H _ I hq) fun us s1 ⟨xs,H1,I1,r,z,q⟩=>⟨by rw [← r.length];exact z,?_⟩)
 have hf:H1 s1.heap.objs.size=none:=I1.hok.fresh (Nat.le_refl _)
 refine ⟨.ref s1.heap.objs.size,upd H1 s1.heap.objs.size (.lst xs),I1.laid (t':=s1.toks) (fun b u e=>Heap.get?_push_of_some _ e) (Nat.le_refl _) ?_,rfl,q _ hf⟩
 exact ⟨z,us,0,r,Heap.get?_push_size _ rfl⟩
end
abbrev Sp:=List V->Hp->VK->XK->Prop
abbrev CXT:=List Env->Hp->Shared->XK->Value->Shared->Prop
structure Env0 (P:Program)(w:World)(K:PySem.W.Frag)(mg:Str->Option Value)(base:Heap)(A:Around)(outer:List Env)(s:Shared)(H:Hp):Prop where
 frames:A.frames=some outer
 mod:Mod K mg base
 bs:∀ b o,base.get? b=some o->s.heap.get? b=some o/\H b=none
 bsz:base.objs.size<=s.heap.objs.size
 funs:s.heap.FunFrames base outer
 frf:∀ b∈frs outer,H b=none
 hok:HOk P w H s.heap
 bare:AllBare s.gens
def CE (outer:List Env)(P:Program)(w:World)(H:Hp)(s:Shared)(Q:VK)(u:Value)(s':Shared):Prop :=
 ∃ v H',s'.os=s.os/\AllBare s'.gens/\Un (frs outer) [] H H' s.heap s'.heap/\HOk P w H' s'.heap/\RelV v u/\Q v H'
def CR (CX:CXT)(outer:List Env)(P:Program)(w:World)(H:Hp)(s:Shared)(Q:VK)(E:XK)(r:Result)(s':Shared):Prop :=
 match r with
 | .ok (.ret u)=>CE outer P w H s Q u s'
 | .ok _=>False
 | .error e=>CX outer H s E e s'
structure FnOk (P:Program)(w:World)(K:PySem.W.Frag)(mg:Str->Option Value)(base:Heap)(CX:CXT)(k:Nat)(f:Addr)(fd:FuncData)(ps:List Str)(sp:Sp):Prop where
 len:∀ vs H Q E,sp vs H Q E->vs.length=ps.length
 run:∀ (A:Around) (outer:List Env) (s:Shared) (H:Hp) (args:Args) (us:List Value) (vs:List V) (Q:VK) (E:XK),Room k A->Env0 P w K mg base A outer s H->BindsTo s fd args (ps.zip us)->Vals vs us->sp vs H Q E->
  codeAny (model P w) A (.call (.ref f) args) (CR CX outer P w H s Q E) s
theorem FnOk.imp {P:Program}{w:World}{K:PySem.W.Frag}{mg:Str->Option Value}{base:Heap}{CX:CXT}{k:Nat}{f:Addr}{fd:FuncData}{ps:List Str}{sp sp':Sp}(F:FnOk P w K mg base CX k f fd ps sp)
  (h:∀ vs H Q E,sp' vs H Q E->sp vs H Q E):FnOk P w K mg base CX k f fd ps sp' :=
 ⟨fun vs H Q E q=>F.len vs H Q E (h _ _ _ _ q),fun A outer s H args us vs Q E hr he hb hv hs=>F.run A outer s H args us vs Q E hr he hb hv (h _ _ _ _ hs)⟩
section
variable {X:Cx}{pins:List (Addr×Obj)}{σ:St}{H:Hp}{s s':Shared}
theorem Inv.env0 (I:Inv X pins σ H s):Env0 X.prog X.w X.K X.mg X.base X.A X.stack s H :=
 ⟨I.ok.frames,I.ok.mod,I.bs,Nat.le_trans I.ok.bsz I.sz,I.stack,I.stkFree,I.hok,I.bare⟩
theorem Inv.after {Q:VK}{u:Value}(I:Inv X pins σ H s)(h:CE X.stack X.prog X.w H s Q u s'):EP X pins σ Q u s':=by
 obtain ⟨v,H',os,bare,un,hok,r,q⟩:=h
 obtain ⟨hh,g,d,t,os'⟩:=s'
 obtain rfl:os'=s.os:=os
 exact ⟨v,H',I.call (h':=hh) (g':=g) (d':=d) (t':=t) (ch:=[]) un hok bare (fun b z=>absurd z (by simp)),r,q⟩
end
def tCall (sp:Sp)(dvs:List V)(E:XK)(t:TA):TE:=fun σ H Q=>t σ H fun vs H1=>sp (vs++dvs) H1 Q E
def Binds (K:PySem.W.Frag)(fd:FuncData)(ps:List Str)(ds:List Value):Prop :=
 ∀ (s:Shared) (us:List Value),K.In s.heap->(us++ds).length=ps.length->BindsTo s fd ⟨us,[]⟩ (ps.zip (us++ds))
theorem Binds.all {K:PySem.W.Frag}{fd:FuncData}{ps:List Str}(h:∀ us:List Value,us.length=ps.length->bindArgs fd ⟨us,[]⟩=pure (ps.zip us)):Binds K fd ps []:=fun s us _ hl=>by
 rw [List.append_nil] at hl ⊢
 exact .of_eq (h us hl)
def yo (CX:CXT)(X:Cx)(E:XK):Prop:=∀ (pins:List (Addr×Obj)) (σ:St) (H:Hp) (s:Shared) (e:Value) (s':Shared),Inv X pins σ H s->CX X.stack H s E e s'->X.xe e s'
section
variable {X:Cx}{CX:CXT}{k:Nat}{f C:Addr}{fd:FuncData}{ps:List Str}{sp:Sp}{dvs:List V}{ds:List Value}{E:XK}{x m:Str}{p pos apos:Pos}{e o:Expr}{es:List Expr}{ta:TE}{t:TA}
theorem Y0 {pins:List (Addr×Obj)}{σ:St}{H:Hp}{s:Shared}{Q:VK}{us:List Value}{vs:List V}(F:FnOk X.prog X.w X.K X.mg X.base CX k f fd ps sp)(hr:Room k X.A)(hb:Binds X.K fd ps ds)(hd:Vals dvs ds)(hx:yo CX X E)
  (I:Inv X pins σ H s) (r:Vals vs us) (h:sp (vs++dvs) H Q E):wpAny (model X.prog X.w) X.A (call (.ref f) us) (EP X pins σ Q) X.xe s:=by
 have r2:Vals (vs++dvs) (us++ds):=r.append hd
 have hl:(us++ds).length=ps.length:=by rw [← r2.length];exact F.len _ _ _ _ h
 refine wpAny_call (codeAny_mono (F.run X.A X.stack s H ⟨us,[]⟩ (us++ds) (vs++dvs) Q E hr I.env0 (hb s us I.kIn hl) r2 h) fun r s' hq=>?_)
 cases r with
 | error e=>exact hx pins σ H s e s' I hq
 | ok fl =>
  cases fl with
  | ret u=>exact I.after hq
  | next=>exact False.elim hq
  | brk=>exact False.elim hq
  | cont=>exact False.elim hq
theorem qbX (F:FnOk X.prog X.w X.K X.mg X.base CX k f fd ps sp)(hr:Room k X.A)(hg:Gl X x)(hm:X.mg x=some (.ref f))(hk:PySem.W.keepIn X.K (.ref f)=true)(hb:Binds X.K fd ps ds)(hd:Vals dvs ds)(hx:yo CX X E)
  (ha:PA X (e::es) t) (hdb:(x==("__debug__" : Str))=false:=by decide) (he:starEach (e::es) X.env=(false,eval e X.env)::starEach es X.env:=by rfl) (hpl:(backTo pos (starEach es X.env)).any (·.1)=false:=by rfl) :
  PE X (.Call (.Name x p) (e::es) [] pos) (tCall sp dvs E t):=by
 intro pins s σ H Q I h
 refine wpAny_Call_Name_kw (Q9 I hg hm ?_ hdb)
 refine PySem.W.callWith_K (h₀:=X.base) I.ok.mod.kin hk (thn (ha pos pins s σ H _ I h) fun us s1 ⟨vs,H1,I1,r,q⟩=>⟨I1.kIn,?_⟩) he hpl
 exact Y0 F hr hb hd hx I1 r q
end
structure FnScope (N P:List Str)(sc:Scope):Prop where
 kind:sc.kind=.function
 co:sc.isCoroutine=false
 gen:sc.isGenerator=false
 nd:N.Nodup
 pre:N.take P.length=P
 par:∀ x∈P,sc.names.lookup x=some .local\/sc.names.lookup x=some .cell
 nofree:∀ y∈sc.names,y.2≠.free
theorem J2 {kindOf:Str->Option NameKind}{x:Str}:∀ {binds:List (Str×Value)} {m:Str->Option Value},(∀ v,(x,v)∉binds)->bindL kindOf binds m x=m x
 | [],_,_=>rfl
 | (n,v)::r,m,h=>by
  unfold bindL
  rw [J2 fun w hw=>h w (List.mem_cons_of_mem _ hw)]
  split
  ·have:x≠n:=by rintro rfl;exact h v List.mem_cons_self
   simp [this]
  ·rfl
theorem JZ {kindOf:Str->Option NameKind}{x:Str}:∀ {binds:List (Str×Value)} {m:Str->Option Value},(∀ v,(x,v)∉binds)->bindC kindOf binds m x=m x
 | [],_,_=>rfl
 | (n,v)::r,m,h=>by
  unfold bindC
  rw [JZ fun w hw=>h w (List.mem_cons_of_mem _ hw)]
  split
  ·rfl
  ·have:x≠n:=by rintro rfl;exact h v List.mem_cons_self
   simp [this]
theorem J0 {kindOf:Str->Option NameKind}{x:Str}{v:Value}:∀ {P:List Str} {vs:List Value} {i:Nat} {m:Str->Option Value},P.Nodup->P[i]?=some x->vs[i]?=some v->kindOf x=some .local->
  bindL kindOf (P.zip vs) m x=some v
 | [],_,_,_,_,h,_,_=>by simp at h
 | _::_,[],_,_,_,_,h,_=>by simp at h
 | p::P,w::vs,0,m,nd,h1,h2,hk=>by
  simp at h1 h2;subst h1;subst h2
  show bindL kindOf ((p,w)::P.zip vs) m p=_
  unfold bindL
  rw [J2 fun v hv=>(List.nodup_cons.mp nd).1 (List.of_mem_zip hv).1,if_pos hk]
  simp
 | p::P,w::vs,i+1,m,nd,h1,h2,hk=>by
  show bindL kindOf ((p,w)::P.zip vs) m x=_
  unfold bindL
  exact J0 (i:=i) (List.nodup_cons.mp nd).2 (by simpa using h1) (by simpa using h2) hk
theorem JX {kindOf:Str->Option NameKind}{x:Str}{v:Value}:∀ {P:List Str} {vs:List Value} {i:Nat} {m:Str->Option Value},P.Nodup->P[i]?=some x->vs[i]?=some v->kindOf x≠some .local->
  bindC kindOf (P.zip vs) m x=some v
 | [],_,_,_,_,h,_,_=>by simp at h
 | _::_,[],_,_,_,_,h,_=>by simp at h
 | p::P,w::vs,0,m,nd,h1,h2,hk=>by
  simp at h1 h2;subst h1;subst h2
  show bindC kindOf ((p,w)::P.zip vs) m p=_
  unfold bindC
  rw [JZ fun v hv=>(List.nodup_cons.mp nd).1 (List.of_mem_zip hv).1,if_neg hk]
  simp
 | p::P,w::vs,i+1,m,nd,h1,h2,hk=>by
  show bindC kindOf ((p,w)::P.zip vs) m x=_
  unfold bindC
  exact JX (i:=i) (List.nodup_cons.mp nd).2 (by simpa using h1) (by simpa using h2) hk
def start (N:List Str)(vs:List V):St:=vs.map some++List.replicate (N.length-vs.length) none
def cxOf (CX:CXT)(P:Program)(w:World)(K:PySem.W.Frag)(mg:Str->Option Value)(base:Heap)(N:List Str)(qual:Str)(scope:Scope)(f:Addr)(cd:Value)(A:Around)(outer:List Env)(s:Shared)(H:Hp)(E:XK):Cx where
 prog:=P
 w:=w
 K:=K
 mg:=mg
 base:=base
 A:=A.deeper (envOfC qual scope s.heap.objs.size f cd)
 N:=N
 s₀:=s
 H₀:=H
 env:=envOfC qual scope s.heap.objs.size f cd
 outer:=outer
 stack:=envOfC qual scope s.heap.objs.size f cd::outer
 ex:=[]
 calm:=true
 fn:=fun _=>true
 pn:=[]
 xe:=fun e s'=>wpAny (model P w) (A.deeper (envOfC qual scope s.heap.objs.size f cd)) (leaving (envOfC qual scope s.heap.objs.size f cd) e) (fun _ s''=>CX outer H s E e s'') (fun e' s''=>CX outer H s E e' s'') s'
theorem yP {sc:Scope}{n:Nat}{x:Str}(h:sc.names.lookup x=some .cell):∃ c,(cellsFrom n sc.names []).lookup x=some c:=by
 have q:=PySem.W.cellsFrom_some sc.names n [] (.inl h)
 exact Option.isSome_iff_exists.mp q
theorem J7 {CX:CXT}{P:Program}{w:World}{K:PySem.W.Frag}{mg:Str->Option Value}{base:Heap}{N ps:List Str}{qual:Str}{scope:Scope}{f:Addr}{cd:Value}{A:Around}{outer:List Env}{s s1:Shared}{H:Hp}{E:XK}{us:List Value}{vs:List V}
  (S:FnScope N ps scope) (hd:A.handled=none) (e0:Env0 P w K mg base A outer s H) (hl:vs.length=ps.length) (r:Vals vs us)
  (x:InCallC s s.heap.objs.size (bindL (envOfC qual scope s.heap.objs.size f cd).kindOf (ps.zip us) fun _=>none) (cellsFrom (s.heap.objs.size+1) scope.names []) (bindC (envOfC qual scope s.heap.objs.size f cd).kindOf (ps.zip us) fun _=>none) s1) :
  Inv (cxOf CX P w K mg base N qual scope f cd A outer s H E) [] (start N vs) H s1:=by
 have hpl:ps.length<=N.length:=by have:=congrArg List.length S.pre;rw [List.length_take] at this;omega
 obtain ⟨h1,tk,rfl,hk⟩:=x.done
 have noA:∀ b:Addr,b∉(cxOf CX P w K mg base N qual scope f cd A outer s H E).ex:=fun b z=>absurd (show b∈([]:List Addr) from z) (by simp)
 refine ⟨⟨e0.mod,S.kind,rfl,rfl,Nat.le_refl _,fun y z c h1 h2=>?_,fun y hy=>?_,fun y c _ h=>?_,fun _=>hd,Around.frames_deeper e0.frames,.inr ⟨rfl,rfl⟩,fun b z=>absurd z (noA b),e0.bs,e0.bsz,fun b _ _=>noA b,fun b z=>absurd z (noA b),e0.funs,e0.frf⟩,
  rfl,e0.bare,Un.kept hk,⟨_,x.toInCall.ns,fun i y v h1 h2 h3=>?_⟩,fun y c h=>⟨_,x.cell y c h⟩,e0.hok.fresh (Nat.le_refl _),fun y c h=>?_,fun p hp=>absurd (show p∈([]:List (Addr×Obj)) from hp) (by simp),e0.hok.kept hk,?_⟩
 ·exact name_of_addr x.apart (PySem.mem_of_lookup h1) (PySem.mem_of_lookup h2)
 ·have hy:scope.names.lookup y=some .cell\/scope.names.lookup y=some .free:=hy
  rcases hy with hy|hy
  ·exact yP hy
  ·exact absurd rfl (S.nofree _ (PySem.mem_of_lookup hy))
 ·exact Nat.le_of_lt (x.above y c (PySem.mem_of_lookup h))
 ·have hi:i<vs.length:=by
   unfold start at h2
   by_cases hi:i<vs.length
   ·exact hi
   ·rw [List.getElem?_append_right (by simpa using hi)] at h2
    rw [List.getElem?_replicate] at h2
    split at h2<;>cases h2
  have ha:vs[i]?=some v:=by
   unfold start at h2
   rw [List.getElem?_append_left (by simpa using hi),List.getElem?_map] at h2
   cases e:vs[i]? with
   | none=>rw [e] at h2;cases h2
   | some a=>rw [e] at h2;cases h2;rfl
  obtain ⟨u,hu,rv⟩:=r.get ha
  have hp:ps[i]?=some y:=by
   rw [← S.pre,List.getElem?_take_of_lt (by omega)];exact h1
  have ndP:ps.Nodup:=by rw [← S.pre];exact S.nd.sublist (List.take_sublist _ _)
  refine ⟨u,rv,?_⟩
  rcases S.par y (List.mem_of_getElem? hp) with k|k
  ·exact .inl ⟨k,J0 ndP hp hu k⟩
  ·obtain ⟨c,e⟩:=yP (n:=s.heap.objs.size+1) k
   refine .inr ⟨.inl k,c,e,?_⟩
   have q:=x.cell y c e
   rw [JX ndP hp hu (by show scope.names.lookup y≠_;rw [k];decide)] at q
   exact q
 ·exact e0.hok.fresh (Nat.le_of_lt (x.above y c (PySem.mem_of_lookup h)))
 ·unfold start
  show _=N.length
  rw [List.length_append,List.length_map,List.length_replicate]
  omega
theorem qco {CX:CXT}{P:Program}{w:World}{K:PySem.W.Frag}{mg:Str->Option Value}{base:Heap}{k:Nat}{f:Addr}{name qual:Str}{params:Arguments}{body:List Stmt}{scope:Scope}{dV kV doc pm cdv ct oc:Value}{an od:Option Addr}
  {osl:Array (Option Value)} {N ps:List Str} {sp:Sp} (lk:K.lookup f=some ⟨oc,od,.func (PySem.W.fnOf name qual params body scope dV kV doc pm an cdv ct),osl⟩) (hcd:PySem.W.codeIn K cdv qual=true) (S:FnScope N ps scope)
  (len:∀ vs H Q E,sp vs H Q E->vs.length=ps.length)
  (hbody:∀ (A:Around) (outer:List Env) (s:Shared) (H:Hp) (vs:List V) (Q:VK) (E:XK),Room k (A.deeper (envOfC qual scope s.heap.objs.size f cdv))->sp vs H Q E->
   ∃ t,PSs (cxOf CX P w K mg base N qual scope f cdv A outer s H E) body t/\t { nx:=fun _ H'=>Q .non H',rt:=Q } (start N vs) H) :
  FnOk P w K mg base CX (k+1) f (PySem.W.fnOf name qual params body scope dV kV doc pm an cdv ct) ps sp:=by
 refine ⟨len,fun A outer s H args us vs Q E hr e0 hb r hsp=>?_⟩
 have hl:=len _ _ _ _ hsp
 have KX:K.In s.heap:=e0.mod.kin.keeps fun b o e=>(e0.bs b o e).1
 have lim:s.heap.NoLimit:=e0.mod.nolimit.keeps fun b o e=>(e0.bs b o e).1
 have hkind:∀ y∈ps.zip us,scope.names.lookup y.1=some .local\/(scope.names.lookup y.1=some .cell/\((cellsFrom (s.heap.objs.size+1) scope.names []).lookup y.1).isSome=true):=fun ⟨n,v⟩ hy=>by
  rcases S.par n (List.of_mem_zip hy).1 with q|q
  ·exact .inl q
  ·exact .inr ⟨q,PySem.W.cellsFrom_some _ _ _ (.inl q)⟩
 refine codeAny_call_function hr.depth (KX _ _ lk) rfl S.co S.gen rfl (PySem.W.codeRec_of KX hcd) (hb _ _ _ _ ?_)
 refine wpAny_newFunctionEnv_cells S.kind hkind fun env he s1 x=>?_
 subst he
 refine ⟨lim.keeps x.toInCall.keep,codeAny_func ?_⟩
 obtain ⟨t,ht,hq⟩:=hbody A outer s H vs Q E (hr.deeper _) hsp
 have I:Inv (cxOf CX P w K mg base N qual scope f cdv A outer s H E) [] (start N vs) H s1:=J7 S hr.hd e0 hl r x
 refine wpAny_mono (ht [] s1 (start N vs) H _ I hq) (fun fl s' hs=>?_) fun e s' hs=>hs
 have fin:∀ {σ':St} {H':Hp} {v:V} {u:Value},Inv (cxOf CX P w K mg base N qual scope f cdv A outer s H E) [] σ' H' s'->RelV v u->Q v H'->CE outer P w H s Q u s' :=
  fun {σ' H' v u} J rv q=>⟨v,H',J.os,J.bare,J.base,J.hok,rv,q⟩
 cases fl with
 | ret u =>
  obtain ⟨v,σ',H',J,rv,q⟩:=hs
  exact fin J rv q
 | next =>
  obtain ⟨σ',H',J,q⟩:=hs
  exact fin (v:=V.non) (u:=Value.none) J rfl q
 | brk =>
  obtain ⟨_,_,_,q⟩:=hs
  exact False.elim q
 | cont =>
  obtain ⟨_,_,_,q⟩:=hs
  exact False.elim q
section
variable {X:Cx}{x:Str}{p pos:Pos}{e:Expr}{es:List Expr}{t:TA}{id T:String}{r:List V->Hp->VK->Prop}
def tCB (r:List V->Hp->VK->Prop)(t:TA):TE:=fun σ H Q=>t σ H fun vs H1=>r vs H1 Q
theorem jq (hc:QD X (.builtin id) r)(hg:Gl X x)(hm:X.mg x=none)(hv:bootBuiltins x=some (.builtin id))(ha:PA X (e::es) t)(hn:x ≠ "__name__" := by decide)(hdb:(x==("__debug__" : Str))=false:=by decide)
  (he:starEach (e::es) X.env=(false,eval e X.env)::starEach es X.env:=by rfl) (hpl:(backTo pos (starEach es X.env)).any (·.1)=false:=by rfl):PE X (.Call (.Name x p) (e::es) [] pos) (tCB r t):=by
 intro pins s σ H Q I h
 refine wpAny_Call_Name_kw (yF I hg hm hv ?_ hn hdb)
 exact PyProof.Rows.callWith_builtin1 (thn (ha pos pins s σ H _ I h) fun us s1 ⟨vs,H1,I1,r1,q1⟩=>hc pins s1 σ H1 vs us Q I1 r1 q1) he hpl
theorem WN (hc:QD X (.type T) r)(hg:Gl X x)(hm:X.mg x=none)(hv:bootBuiltins x=some (.type T))(ha:PA X (e::es) t)(hn:x ≠ "__name__" := by decide)(hdb:(x==("__debug__" : Str))=false:=by decide)
  (he:starEach (e::es) X.env=(false,eval e X.env)::starEach es X.env:=by rfl) (hpl:(backTo pos (starEach es X.env)).any (·.1)=false:=by rfl):PE X (.Call (.Name x p) (e::es) [] pos) (tCB r t):=by
 intro pins s σ H Q I h
 refine wpAny_Call_Name_kw (yF I hg hm hv ?_ hn hdb)
 exact PyProof.Rows.callWith_type1 (thn (ha pos pins s σ H _ I h) fun us s1 ⟨vs,H1,I1,r1,q1⟩=>hc pins s1 σ H1 vs us Q I1 r1 q1) he hpl
end
end L2
namespace HT
open PySem PyProof.Rows
theorem Yr (A:Around)(s:Shared)(a:Int)(t:Tok)(c:Int)(u:Tok)(prog:Program)(w:World)(E:Value->Shared->Prop)(Q:Value->Shared->Prop)(h:Q (.bool (decide (a<c))) s) :
  wpAny (model prog w) A (richCompare .Lt (.int a t) (.int c u)) Q E s :=
 (PyProof.Rows.lt_int h:wpAny (model prog w) A (compareOp .Lt (.int a t) (.int c u)) Q E s)
section
open PySem.SeqAt
open PySem.AutoSeq1 (wpAny_loadPart')
open PySem.MeetsSeq PySem.MeetsSeq2 PySem.MeetsSeq3
end
section
variable {prog:Program}{w:World}{A:Around}{E:Value->Shared->Prop}{s:Shared}
theorem qbh {t b:Addr}{vs ws:List Value}{Q:Value->Shared->Prop}(ht:IsTup s.heap t vs.toArray)(hb:IsTup s.heap b ws.toArray)(hv:vs≠[])
  (h1:ws=[]->Q (.ref t) s) (h2:ws≠[]->Q (.ref s.heap.objs.size) { s with heap:=s.heap.push { cls:=.type "tuple", data:=.seq (vs++ws).toArray } })
  (hsz:vs.length+ws.length<=sizeLine):wpAny (model prog w) A (binaryOp .Add (.ref t) (.ref b)) Q E s:=by
 obtain ⟨⟨cls,dd,data,sl⟩,ho,hc,n,hd⟩:=id ht
 obtain ⟨⟨cls2,dd2,data2,sl2⟩,ho2,hc2,n2,hd2⟩:=id hb
 simp only at hc hd hc2 hd2
 subst hc hd hc2 hd2
 have e:vs.toArray++ws.toArray=(vs++ws).toArray:=by simp
 by_cases hw:ws=[]
 ·exact concat_meets ⟨_,ho,rfl⟩ ⟨_,ho2,rfl⟩ noFill_tuple_add seq_tuple_add PySem.F.slot_tuple_add PySem.F.entry_tuple_add (PySem.F.args_tuple_add_2 _ _)
   (tuple_addW1 t b vs.toArray ws.toArray n n2 dd dd2 sl sl2 (by simpa using hv) (by simp [hw])) ⟨ho,ho2,h1 hw⟩
 ·refine concat_meets ⟨_,ho,rfl⟩ ⟨_,ho2,rfl⟩ noFill_tuple_add seq_tuple_add PySem.F.slot_tuple_add PySem.F.entry_tuple_add (PySem.F.args_tuple_add_2 _ _)
   (tuple_addW2 t b vs.toArray ws.toArray n n2 dd dd2 sl sl2 (by simpa using hv) (by simpa using hw) (by rw [List.size_toArray,List.size_toArray];exact hsz)) ⟨ho,ho2,?_⟩
  rw [e]
  exact h2 hw
def sIx (n d:Nat):Option Int->Nat
 | none=>d
 | some v=>if v<0 then (v+(n:Int)).toNat else min v.toNat n
theorem qdA (n d:Nat)(hd:d<=n)(o:Option Int):sIx n d o<=n:=by
 cases o with
 | none=>exact hd
 | some v =>
  show (if v<0 then (v+(n:Int)).toNat else min v.toNat n)<=n
  by_cases hv:v<0
  ·rw [if_pos hv];omega
  ·rw [if_neg hv];exact Nat.min_le_right _ _
theorem wy (v:Int)(n d:Nat):(if v<0 then max (v+(n:Int)) 0 else min v (n:Int))=((sIx n d (some v):Nat):Int):=by
 show (if v<0 then max (v+(n:Int)) 0 else min v (n:Int))=(((if v<0 then (v+(n:Int)).toNat else min v.toNat n):Nat):Int)
 by_cases hv:v<0
 ·simp only [if_pos hv];omega
 ·simp only [if_neg hv];omega
theorem Yv (lo hi:Option Int)(n:Nat):Builtin.Slice.sliceAdjust lo hi 1 (n:Int)=(((sIx n 0 lo:Nat):Int),((sIx n n hi:Nat):Int)):=by
 have h1:¬ ((1:Int)<0):=by omega
 unfold Builtin.Slice.sliceAdjust
 simp only [h1,if_false]
 refine Prod.ext ?_ ?_
 ·cases lo with
  | none=>rfl
  | some v=>exact wy v n 0
 ·cases hi with
  | none=>rfl
  | some v=>exact wy v n n
theorem YX (i j:Nat):Builtin.Slice.slicePlaces (i:Int) (j:Int) 1=j-i:=by
 unfold Builtin.Slice.slicePlaces
 have h1:(1:Int) > 0:=by omega
 simp only [h1,if_true,Int.ediv_one]
 split<;>omega
theorem JG {v:Value}{o:Option Int}{Q:Option Int->Shared->Prop}(p:IsPart v o)(h:Q o s):wpAny (model prog w) A (Builtin.Slice.slicePartIndex v) Q E s:=by
 cases p with
 | none=>exact slicePart_none h
 | int i t=>exact slicePart_int h
theorem jE {sl:Addr}{vl vu:Value}{lo hi:Option Int}{n:Nat}{Q:Int×Int×Nat->Shared->Prop}(hs:s.heap.IsSliceOf sl vl vu .none)(pl:IsPart vl lo)(pu:IsPart vu hi)
  (h:Q (((sIx n 0 lo:Nat):Int),1,sIx n n hi-sIx n 0 lo) s):wpAny (model prog w) A (Builtin.Slice.sliceApplied (.ref sl) (pure (n:Int))) Q E s:=by
 obtain ⟨os,hos,hcs,hds⟩:=id hs
 unfold Builtin.Slice.sliceApplied Builtin.Slice.sliceFields
 refine wpAny_bind (wpAny_bind (wpAny_field hos hds (x:=vl) rfl (wpAny_bind (wpAny_field hos hds (x:=vu) rfl (wpAny_bind (wpAny_field hos hds (x:=.none) rfl (wpAny_pure ?_)))))))
 refine wpAny_bind (slicePart_none ?_)
 show wpAny _ _ (if ((1:Int)==0)=true then _ else _) _ _ s
 rw [if_neg (by decide)]
 refine wpAny_bind (JG pl (wpAny_bind (JG pu (wpAny_bind (wpAny_pure ?_)))))
 show wpAny _ _ (match Builtin.Slice.sliceAdjust lo hi 1 (n:Int) with | (lo,hi)=>pure (lo,(1:Int),Builtin.Slice.slicePlaces lo hi 1)) _ _ s
 rw [Yv lo hi n]
 show wpAny _ _ (pure (((sIx n 0 lo:Nat):Int),(1:Int),Builtin.Slice.slicePlaces ((sIx n 0 lo:Nat):Int) ((sIx n n hi:Nat):Int) 1)) _ _ s
 rw [YX]
 exact wpAny_pure h
theorem qaT (xs:Array Value)(i k:Nat):((List.range k).filterMap fun (m:Nat)=>xs[((i:Int)+(m:Int)*1).toNat]?).toArray=((xs.toList.drop i).take k).toArray:=by
 have e:(fun (m:Nat)=>xs[((i:Int)+(m:Int)*1).toNat]?)=fun m=>xs[i+m]?:=by
  funext m
  have:((i:Int)+(m:Int)*1).toNat=i+m:=by omega
  rw [this]
 rw [e]
 have:=pick_run xs i k
 rw [List.filterMap_map] at this
 have e2:((fun x=>xs[x]?) ∘ fun x=>i+x)=fun m=>xs[i+m]?:=rfl
 rw [e2] at this
 rw [this]
theorem ji {t sl:Addr}{items:Array Value}{vl vu:Value}{lo hi:Option Int}{Q:Value->Shared->Prop}(ht:IsTup s.heap t items)(hs:s.heap.IsSliceOf sl vl vu .none)(pl:IsPart vl lo)(pu:IsPart vu hi)
  (hw:¬ (sIx items.size 0 lo=0/\sIx items.size items.size hi=items.size))
  (h:Q (.ref s.heap.objs.size) { s with heap:=s.heap.push { cls:=.type "tuple", data:=.seq ((items.toList.drop (sIx items.size 0 lo)).take (sIx items.size items.size hi-sIx items.size 0 lo)).toArray } })
  (hsz:items.size<=sizeLine):wpAny (model prog w) A (getItem (.ref t) (.ref sl)) Q E s:=by
 have htake:sizeOk (.seq ((items.toList.drop (sIx items.size 0 lo)).take (sIx items.size items.size hi-sIx items.size 0 lo)).toArray):=by
  show ((items.toList.drop (sIx items.size 0 lo)).take (sIx items.size items.size hi-sIx items.size 0 lo)).toArray.size<=sizeLine
  rw [List.size_toArray,List.length_take,List.length_drop,Array.length_toList]
  omega
 have hj:sIx items.size items.size hi<=items.size:=qdA _ _ (Nat.le_refl _) hi
 obtain ⟨os,hos,hcs,hds⟩:=id hs
 have hTs:s.TypeIs (.ref sl) "slice" := ⟨os,hos,hcs⟩
 unfold getItem
 try with_reducible refine wpAny_holding ?_
 first|refine wpAny_bind (wpAny_pure ?_)|skip
 refine wpAny_bind (wpAny_sequenceKey ht.typeIs (by decide) ?_)
 refine wpAny_bind (wpAny_callSpecial?_slot (name:=Str.ofString "__getitem__") ht.typeIs PyProof.Rows.slot_tuple_getitem
  (wpAny_call_entry PyProof.Rows.slot_tuple_getitem ht.typeIs entry_tuple_getitem ?_ (args_tuple_getitem _ _)))
 show wpAny _ _ (Builtin.Tuple.tupleItemsOf (.ref t) >>= _) _ _ s
 refine wpAny_bind (tupleItemsOf_ ht ?_)
 refine wpAny_bind (wpAny_typeOf hTs ?_)
 rw [if_pos (by decide)]
 refine wpAny_bind (jE hs pl pu ?_)
 have hno:¬ ((((sIx items.size 0 lo:Nat):Int)==0&&(1:Int)==1&&(sIx items.size items.size hi-sIx items.size 0 lo)==items.size)=true):=by
  intro q
  rw [Bool.and_eq_true,Bool.and_eq_true] at q
  have q1:((sIx items.size 0 lo:Nat):Int)=0:=eq_of_beq q.1.1
  have q2:sIx items.size items.size hi-sIx items.size 0 lo=items.size:=eq_of_beq q.2
  exact hw ⟨by omega,by omega⟩
 show wpAny _ _ (if (((sIx items.size 0 lo:Nat):Int)==0&&(1:Int)==1&&(sIx items.size items.size hi-sIx items.size 0 lo)==items.size)=true then _ else _) _ _ s
 rw [if_neg hno,qaT]
 first
  | exact wpAny_bind (m:=Builtin.Tuple.tupleExact _) (wpAny_newObj_type (wpAny_pure ⟨_,rfl,wpAny_pure h⟩) htake)
  | exact wpAny_bind (m:=Builtin.Tuple.tupleExact _) (wpAny_newObj_type (wpAny_bind (wpAny_pure (wpAny_pure ⟨_,rfl,wpAny_pure h⟩))) htake)
  | exact wpAny_bind (wpAny_bind (m:=Builtin.Tuple.tupleExact _) (wpAny_newObj_type (wpAny_pure (wpAny_pure ⟨_,rfl,wpAny_pure h⟩)) htake))
  | exact wpAny_bind (wpAny_bind (m:=Builtin.Tuple.tupleExact _) (wpAny_newObj_type (wpAny_pure ⟨_,rfl,wpAny_pure h⟩) htake))
end
end HT
namespace L2
open PySem PySem.Spec PyProof.Rows
abbrev TO:=St->Hp->(Option Int->Hp->Prop)->Prop
def PO (X:Cx)(e:Option Expr)(t:TO):Prop :=
 ∀ (pins:List (Addr×Obj)) (s:Shared) (σ:St) (H:Hp) (Q:Option Int->Hp->Prop),Inv X pins σ H s->t σ H Q->
  wpAny (model X.prog X.w) X.A (evalPart e X.env) (fun u s'=>∃ o H',Inv X pins σ H' s'/\IsPart u o/\Q o H') X.xe s
def qcg:TO:=fun _ H Q=>Q none H
def tPart (t:TE):TO:=fun σ H Q=>t σ H fun x H1=>∃ i,x=.int i/\Q (some i) H1
section
variable {X:Cx}{e:Expr}{te:TE}{lo hi:Option Expr}{tl th:TO}{pos p2:Pos}
theorem qb2:PO X none qcg:=by
 intro pins s σ H Q I h
 rw [evalPart_none]
 exact wpAny_pure ⟨none,H,I,.none,h⟩
theorem qb3 (h:PE X e te):PO X (some e) (tPart te):=by
 intro pins s σ H Q I hw
 rw [evalPart_some]
 refine thn (h pins s σ H _ I hw) fun u s1 ⟨x,H1,I1,r1,q1⟩=>?_
 obtain ⟨i,rfl,q⟩:=q1
 obtain ⟨t,rfl⟩:=r1
 exact ⟨some i,H1,I1,.int i t,q⟩
def SlR (X:Cx)(r:V->Option Int->Option Int->Hp->VK->Prop):Prop :=
 ∀ (pins:List (Addr×Obj)) (s:Shared) (σ:St) (H:Hp) (x:V) (v vl vu:Value) (lo hi:Option Int) (sl:Addr) (Q:VK),Inv X pins σ H s->RelV x v->s.heap.IsSliceOf sl vl vu .none->IsPart vl lo->IsPart vu hi->r x lo hi H Q->
  ∃ T id,typeLookup (.type T) "__getitem__" = pure (some (.builtin id))/\s.TypeIs v T/\wpAny (model X.prog X.w) X.A (getItem v (.ref sl)) (EP X pins σ Q) X.xe s
theorem SlR.or {r r':V->Option Int->Option Int->Hp->VK->Prop}(h:SlR X r)(h':SlR X r'):SlR X (fun x lo hi H Q=>r x lo hi H Q\/r' x lo hi H Q):=by
 intro pins s σ H x v vl vu lo hi sl Q I rx hs pl pu q
 rcases q with q|q
 ·exact h pins s σ H x v vl vu lo hi sl Q I rx hs pl pu q
 ·exact h' pins s σ H x v vl vu lo hi sl Q I rx hs pl pu q
def tSl (r:V->Option Int->Option Int->Hp->VK->Prop)(te:TE)(tl th:TO):TE:=fun σ H Q=>te σ H fun x H1=>tl σ H1 fun l H2=>th σ H2 fun u H3=>r x l u H3 Q
theorem qaM {r:V->Option Int->Option Int->Hp->VK->Prop}(hr:SlR X r)(he:PE X e te)(hl:PO X lo tl)(hu:PO X hi th):PE X (.Subscript e (.Slice lo hi none p2) pos) (tSl r te tl th):=by
 intro pins s σ H Q I h
 refine Subscript_ (thn (he pins s σ H _ I h) fun v s1 ⟨x,H1,I1,r1,q1⟩=>?_)
 refine wpAny_Slice (thn (hl pins s1 σ H1 _ I1 q1) fun vl s2 ⟨l,H2,I2,pl,q2⟩=>thn (hu pins s2 σ H2 _ I2 q2) fun vu s3 ⟨u,H3,I3,pu,q3⟩=>?_)
 rw [evalPart_none]
 refine wpAny_pure ?_
 have I4:Inv X pins σ H3 { s3 with heap:=s3.heap.push { cls:=.type "slice", data:=.fields #[vl,vu,.none] } }:=I3.kept (t':=s3.toks) fun b ob q=>Heap.get?_push_of_some _ q
 obtain ⟨T,id,hT,ht,hg⟩:=hr pins { s3 with heap:=s3.heap.push { cls:=.type "slice", data:=.fields #[vl,vu,.none] } } σ H3 x v vl vu l u s3.heap.objs.size Q I4 r1 (Heap.IsSliceOf.new ..) pl pu q3
 show wpAny (model X.prog X.w) X.A (subscriptTail e (.Slice lo hi none p2) v (.ref s3.heap.objs.size)) (EP X pins σ Q) X.xe { s3 with heap:=s3.heap.push { cls:=.type "slice", data:=.fields #[vl,vu,.none] } }
 exact tail_any (ops:=[.ref s3.heap.objs.size,v]) ht hT hg (by with_unfolding_all rfl)
def cutV (xs:List V)(lo hi:Option Int):List V:=(xs.drop (HT.sIx xs.length 0 lo)).take (HT.sIx xs.length xs.length hi-HT.sIx xs.length 0 lo)
theorem jQ (xs:List V)(lo hi:Option Int):(cutV xs lo hi).length<=xs.length:=by
 unfold cutV
 rw [List.length_take,List.length_drop]
 omega
def rSlT (K:PySem.W.Frag):V->Option Int->Option Int->Hp->VK->Prop:=fun x lo hi H Q=>∃ a xs,x=.ref a/\SqT K H a xs/\
 ¬ (HT.sIx xs.length 0 lo=0/\HT.sIx xs.length xs.length hi=xs.length)/\∀ p,H p=none->Q (.ref p) (upd H p (.tup (cutV xs lo hi)))
theorem qdI:SlR X (rSlT X.K):=by
 intro pins s σ H x v vl vu lo hi sl Q I rx hs pl pu h
 obtain ⟨a,xs,rfl,hx,hw,q⟩:=h
 cases rx
 obtain ⟨its,r,ht,hz⟩:=I.tuple hx
 have hlen:its.toArray.size=xs.length:=by rw [List.size_toArray];exact r.length.symm
 refine ⟨"tuple", _,PyProof.Rows.slot_tuple_getitem.lookup,ht.typeIs,?_⟩
 refine HT.ji ht hs pl pu (by rw [hlen];exact hw) ?_ (by rw [hlen];exact hz)
 rw [hlen]
 refine ⟨.ref s.heap.objs.size,_,I.laid (t':=s.toks) (o:=.tup (cutV xs lo hi)) (fun b ob q=>Heap.get?_push_of_some _ q) (Nat.le_refl _) ?_,rfl,q _ (I.hok.fresh (Nat.le_refl _))⟩
 exact ⟨Nat.le_trans (jQ xs lo hi) hz,_,(r.drop (HT.sIx xs.length 0 lo)).take (HT.sIx xs.length xs.length hi-HT.sIx xs.length 0 lo),IsTup.new _ _⟩
def qcs (K:PySem.W.Frag):R2:=fun x y H Q=>∃ a b xs ys,x=.ref a/\y=.ref b/\SqT K H a xs/\SqT K H b ys/\xs≠[]/\xs.length+ys.length<=sizeLine/\
 (ys=[]->Q (.ref a) H)/\(ys≠[]->∀ p,H p=none->Q (.ref p) (upd H p (.tup (xs++ys))))
theorem Vals.nil_iff {xs:List V}{us:List Value}(r:Vals xs us):us=[]↔xs=[]:=by
 cases r with
 | nil=>simp
 | cons _ _=>simp
theorem qbN:OpR X (binaryOp .Add) (qcs X.K):=by
 intro pins s σ H x y v u Q I rx ry h
 obtain ⟨a,b,xs,ys,rfl,rfl,ha,hb,hx,hz,q1,q2⟩:=h
 cases rx
 cases ry
 obtain ⟨its,r1,p1,_⟩:=I.tuple ha
 obtain ⟨its2,r2,p2,_⟩:=I.tuple hb
 refine HT.qbh p1 p2 (fun z=>hx (r1.nil_iff.mp z)) (fun z=>⟨.ref a,H,I,rfl,q1 (r2.nil_iff.mp z)⟩) (fun z=>?_) (by rw [← r1.length,← r2.length];exact hz)
 refine ⟨.ref s.heap.objs.size,_,I.laid (t':=s.toks) (o:=.tup (xs++ys)) (fun b ob q=>Heap.get?_push_of_some _ q) (Nat.le_refl _) ?_,rfl,q2 (fun w=>z (r2.nil_iff.mpr w)) _ (I.hok.fresh (Nat.le_refl _))⟩
 exact ⟨by rw [List.length_append];exact hz,_,r1.append r2,IsTup.new _ _⟩
end
def ixN (n:Nat)(i:Int):Option Nat:=if 0<=i then (if i<n then some i.toNat else none) else if -(n:Int)<=i then some (i+n).toNat else none
def atI {α:Type}(xs:List α)(i:Int):Option α:=(ixN xs.length i).bind fun j=>xs[j]?
theorem qbA {n:Nat}{i:Int}{j:Nat}(h:ixN n i=some j):seqIndex? i n=some j/\j<n/\-(n:Int)<=i/\i<n:=by
 unfold ixN at h
 by_cases h0:0<=i
 ·rw [if_pos h0] at h
  by_cases h1:i<n
  ·rw [if_pos h1] at h
   have e:i.toNat=j:=Option.some.inj h
   exact ⟨by rw [seqIndex_of h0 h1,e],by omega,by omega,h1⟩
  ·rw [if_neg h1] at h;cases h
 ·rw [if_neg h0] at h
  by_cases h1:-(n:Int)<=i
  ·rw [if_pos h1] at h
   have e:(i+n).toNat=j:=Option.some.inj h
   exact ⟨by rw [seqIndex_neg (by omega) h1,e],by omega,h1,by omega⟩
  ·rw [if_neg h1] at h;cases h
theorem wu {α:Type}{xs:List α}{i:Int}{v:α}(h:atI xs i=some v):∃ j,seqIndex? i xs.length=some j/\xs[j]?=some v/\j<xs.length/\-(xs.length:Int)<=i/\i<xs.length:=by
 unfold atI at h
 cases e:ixN xs.length i with
 | none=>rw [e] at h;cases h
 | some j =>
  rw [e] at h
  obtain ⟨h1,h2,h3,h4⟩:=qbA e
  exact ⟨j,h1,h,h2,h3,h4⟩
theorem ww {α:Type}{xs:List α}{j:Nat}{v:α}(h:xs[j]?=some v):atI xs (j:Int)=some v:=by
 have hj:j<xs.length:=(List.getElem?_eq_some_iff.mp h).1
 have e:ixN xs.length (j:Int)=some j:=by
  unfold ixN
  rw [if_pos (by omega),if_pos (by omega)];simp
 unfold atI;rw [e];exact h
def wj (b:Expr):Prop:=∀ o i,subscripted b false o i=operate [o,i] (getItem o i)
def IxR (X:Cx)(r:R2):Prop :=
 ∀ (value slice:Expr) (pins:List (Addr×Obj)) (s:Shared) (σ:St) (H:Hp) (x y:V) (v u:Value) (Q:VK),Inv X pins σ H s->RelV x v->RelV y u->r x y H Q->
  subscripted slice false v u=operate [v,u] (getItem v u)->wpAny (model X.prog X.w) X.A (subscriptTail value slice v u) (EP X pins σ Q) X.xe s
def MtR (X:Cx)(id:String)(r:V->List V->Hp->VK->Prop):Prop :=
 ∀ (pins:List (Addr×Obj)) (s:Shared) (σ:St) (H:Hp) (x:V) (xs:List V) (v:Value) (us:List Value) (Q:VK),Inv X pins σ H s->RelV x v->Vals xs us->r x xs H Q->
  wpAny (model X.prog X.w) X.A (call (.builtin id) (v::us)) (EP X pins σ Q) X.xe s
section
variable {X:Cx}{a b:Expr}{ta tb:TE}{pos:Pos}
theorem IxR.or {r r':R2}(h:IxR X r)(h':IxR X r'):IxR X (fun x y H Q=>r x y H Q\/r' x y H Q):=by
 intro value slice pins s σ H x y v u Q I rx ry q hs
 rcases q with q|q
 ·exact h value slice pins s σ H x y v u Q I rx ry q hs
 ·exact h' value slice pins s σ H x y v u Q I rx ry q hs
theorem pe_ix {r:R2}(hr:IxR X r)(ha:PE X a ta)(hb:PE X b tb)(hs:wj b):PE X (.Subscript a b pos) (tOp r ta tb):=by
 intro pins s σ H Q I h
 exact Subscript_ (binT ha hb I h fun v u s2 x y H2 I2 rx ry q=>hr a b pins s2 σ H2 x y v u Q I2 rx ry q (hs _ _))
def rIxL (K:PySem.W.Frag):R2:=fun x y H Q=>∃ p xs i v,x=.ref p/\y=.int i/\SqL K H p xs/\atI xs i=some v/\Q v H
def rIxT (K:PySem.W.Frag):R2:=fun x y H Q=>∃ p xs i v,x=.ref p/\y=.int i/\SqT K H p xs/\atI xs i=some v/\Q v H
theorem qbB:IxR X (rIxL X.K):=by
 intro value slice pins s σ H x y v u Q I rx ry h hs
 obtain ⟨p,xs,i,z,rfl,rfl,hq,he,q⟩:=h
 cases rx
 obtain ⟨t,rfl⟩:=ry
 obtain ⟨its,r,pl,hz⟩:=I.list hq
 obtain ⟨j,h1,h2,h3,h4,h5⟩:=wu he
 obtain ⟨w,ew,rw'⟩:=r.get h2
 have hl:=r.length
 have hn:=YM
 have fin:EP X pins σ Q w s:=⟨z,H,I,rw',q⟩
 by_cases h0:0<=i
 ·have hj:i.toNat=j:=by
   rw [seqIndex_of h0 h5] at h1
   exact Option.some.inj h1
  exact item_listR pl.isList h0 (by omega) (by rw [hj];simpa using ew) fin hs
 ·have hj:(i+(its.toArray.size:Int)).toNat=j:=by
   rw [seqIndex_neg (by omega) h4] at h1
   rw [List.size_toArray,← hl]
   exact Option.some.inj h1
  exact subscriptTail_builtinR (x:=w) pl.isList.typeIs slot_list_getitem.lookup
   (wpAny_getItem_list_neg (Q:=fun r s'=>r=w/\EP X pins σ Q r s') pl.isList (by omega) (by rw [List.size_toArray]<;>omega) (by omega) (by rw [hj];simpa using ew) ⟨rfl,fin⟩) hs
theorem qcT:IxR X (rIxT X.K):=by
 intro value slice pins s σ H x y v u Q I rx ry h hs
 obtain ⟨p,xs,i,z,rfl,rfl,hq,he,q⟩:=h
 cases rx
 obtain ⟨t,rfl⟩:=ry
 obtain ⟨its,r,pl,hz⟩:=I.tuple hq
 obtain ⟨j,h1,h2,h3,h4,h5⟩:=wu he
 obtain ⟨w,ew,rw'⟩:=r.get h2
 have hl:=r.length
 have hn:=YM
 have fin:EP X pins σ Q w s:=⟨z,H,I,rw',q⟩
 exact subscriptTail_builtinR (x:=w) pl.typeIs slot_tuple_getitem.lookup
  (getItem_tuple (j:=j) (Q:=fun r s'=>r=w/\EP X pins σ Q r s') pl (by omega) (by omega) (by rw [List.size_toArray,← hl];exact h1) (by simpa using ew) ⟨rfl,fin⟩) hs
theorem yH (lo hi:Option Int)(n:Nat):(sliceBounds lo hi none n).1=((HT.sIx n 0 lo:Nat):Int)/\(sliceBounds lo hi none n).2.1=((HT.sIx n n hi:Nat):Int)/\(sliceBounds lo hi none n).2.2=1:=by
 refine ⟨?_,?_,rfl⟩
 ·cases lo with
  | none=>simp [sliceBounds,HT.sIx]
  | some i =>
   simp only [sliceBounds,HT.sIx,Option.getD_none,show (1:Int) > 0 by decide,if_true]
   by_cases h:i<0
   ·simp only [h,if_true]<;>omega
   ·simp only [h,if_false]<;>omega
 ·cases hi with
  | none=>simp [sliceBounds,HT.sIx]
  | some i =>
   simp only [sliceBounds,HT.sIx,Option.getD_none,show (1:Int) > 0 by decide,if_true]
   by_cases h:i<0
   ·simp only [h,if_true]<;>omega
   ·simp only [h,if_false]<;>omega
theorem JR (its:List Value)(lo hi:Option Int):slicePick its.toArray lo hi none=((its.drop (HT.sIx its.length 0 lo)).take (HT.sIx its.length its.length hi-HT.sIx its.length 0 lo)).toArray:=by
 obtain ⟨h1,h2,h3⟩:=yH lo hi its.toArray.size
 unfold slicePick
 rw [h1,h2,h3]
 simp only [sliceRange_one,pick_run,List.size_toArray]<;>rfl
def rSlL (K:PySem.W.Frag):V->Option Int->Option Int->Hp->VK->Prop:=fun x lo hi H Q=>∃ a xs,x=.ref a/\SqL K H a xs/\∀ p,H p=none->Q (.ref p) (upd H p (.lst (cutV xs lo hi)))
theorem qcd:SlR X (rSlL X.K):=by
 intro pins s σ H x v vl vu lo hi sl Q I rx hs pl pu h
 obtain ⟨a,xs,rfl,hx,q⟩:=h
 cases rx
 obtain ⟨its,r,ht,hz⟩:=I.list hx
 have hlen:=r.length
 refine ⟨"list", _,slot_list_getitem.lookup,ht.isList.typeIs,?_⟩
 refine wpAny_getItem_list_slice ht.isList hs pl pu .none (by simp) ?_ (by rw [List.size_toArray]<;>omega)
 rw [JR,← hlen]
 refine ⟨.ref s.heap.objs.size,_,I.laid (t':=s.toks) (o:=.lst (cutV xs lo hi)) (fun b ob q=>Heap.get?_push_of_some _ q) (Nat.le_refl _) ?_,rfl,q _ (I.hok.fresh (Nat.le_refl _))⟩
 exact ⟨Nat.le_trans (jQ xs lo hi) hz,_,0,(r.drop (HT.sIx xs.length 0 lo)).take (HT.sIx xs.length xs.length hi-HT.sIx xs.length 0 lo),Heap.get?_push_size _ rfl⟩
theorem yp:QD X (.builtin "len") (fun xs H Q=>∃ p ys,xs=[.ref p]/\(SqL X.K H p ys\/SqT X.K H p ys)/\Q (.int ys.length) H):=by
 intro pins s σ H xs us Q I r h
 obtain ⟨p,ys,rfl,hq,q⟩:=h
 obtain ⟨u,rfl,rx⟩:=vals1 r
 cases rx
 have hn:=YM
 rcases hq with hq|hq
 ·obtain ⟨its,r',pl,hz⟩:=I.list hq
  have hlen:=r'.length
  exact Calls.call_len_list pl.isList (by simp only [List.size_toArray]<;>omega) ⟨.int ys.length,H,I.tok _,⟨s.toks+1,by rw [List.size_toArray,hlen]⟩,q⟩
 ·obtain ⟨its,r',pl,hz⟩:=I.tuple hq
  have hlen:=r'.length
  exact len_tuple pl (by simp only [List.size_toArray]<;>omega) ⟨.int ys.length,H,I.tok _,⟨s.toks+1,by rw [List.size_toArray,hlen]⟩,q⟩
theorem QD.or {f:Value}{r r':List V->Hp->VK->Prop}(h:QD X f r)(h':QD X f r'):QD X f (fun xs H Q=>r xs H Q\/r' xs H Q):=by
 intro pins s σ H xs us Q I rs q
 rcases q with q|q
 ·exact h pins s σ H xs us Q I rs q
 ·exact h' pins s σ H xs us Q I rs q
theorem JP:QD X (.type "tuple") (fun xs H Q=>∃ p ys,xs=[.ref p]/\((SqL X.K H p ys/\∀ l,H l=none->Q (.ref l) (upd H l (.tup ys)))\/(SqT X.K H p ys/\Q (.ref p) H))):=by
 intro pins s σ H xs us Q I r h
 obtain ⟨p,ys,rfl,h⟩:=h
 obtain ⟨u,rfl,rx⟩:=vals1 r
 cases rx
 rcases h with ⟨hq,q⟩|⟨hq,q⟩
 ·obtain ⟨its,r',pl,hz⟩:=I.list hq
  have hlen:=r'.length
  refine call_tuple_list pl.isList (fun h' kp=>?_) (by simp only [List.size_toArray]<;>omega)
  have I1:Inv X pins σ H { s with heap:=h' }:=I.kept (t':=s.toks) kp
  have I2:Inv X pins σ (upd H h'.objs.size (.tup ys)) { s with heap:=h'.push { cls:=.type "tuple", data:=.seq its.toArray } } :=
   I1.laid (t':=s.toks) (fun b o e=>Heap.get?_push_of_some _ e) (Nat.le_refl _) (show zE X.prog X.w _ _ _ (.tup ys) from ⟨hz,its,r',IsTup.new _ _⟩)
  exact ⟨.ref h'.objs.size,_,I2,rfl,q _ (I1.hok.fresh (Nat.le_refl _))⟩
 ·obtain ⟨its,r',pl,hz⟩:=I.tuple hq
  exact call_tuple_same pl ⟨.ref p,H,I,rfl,q⟩
def tyV (K:PySem.W.Frag)(T:String)(x:V)(H:Hp):Prop:=match x with
 | .str _=>T = "str"
 | .int _=>T = "int"
 | .ref p=>(T = "list"/\∃ xs,SqL K H p xs)\/(T = "tuple"/\∃ o,K.lookup p=some o/\o.cls=.type "tuple"/\o.dict=none)\/
   (T = "dict"/\((∃ kvs,H p=some (.dK kvs))\/∃ kvs,H p=some (.dT kvs)))\/(T = "set"/\∃ S n,H p=some (.set S n))
 | _=>False
theorem qdP {pins:List (Addr×Obj)}{σ:St}{H:Hp}{s:Shared}{T:String}{x:V}{v:Value}(I:Inv X pins σ H s)(r:RelV x v)(ty:tyV X.K T x H) :
  s.TypeIs v T/\∀ a,v=.ref a->∃ ob,s.heap.get? a=some ob/\ob.dict=none:=by
 cases x with
 | str z =>
  obtain ⟨t,rfl⟩:=r
  cases (show T = "str" from ty)
  exact ⟨typeIs_str s z t,fun _ e=>nomatch e⟩
 | int i =>
  obtain ⟨t,rfl⟩:=r
  cases (show T = "int" from ty)
  exact ⟨typeIs_int s i t,fun _ e=>nomatch e⟩
 | ref p =>
  cases r
  rcases ty with ⟨rfl,xs,hq⟩|⟨rfl,o,hk,hc,hd⟩|⟨rfl,hk⟩|⟨rfl,S,n,hk⟩
  ·obtain ⟨its,_,pl,_⟩:=I.list hq
   refine ⟨pl.isList.typeIs,fun a e=>?_⟩
   cases e
   obtain ⟨o,n,e,c,hd,_⟩:=pl
   exact ⟨o,e,hd⟩
  ·refine ⟨⟨o,I.kIn p o hk,hc⟩,fun a e=>?_⟩
   cases e
   exact ⟨o,I.kIn _ o hk,hd⟩
  ·have z:∃ o,s.heap.get? p=some o/\o.ExactDict:=by
    rcases hk with ⟨kvs,hk⟩|⟨kvs,hk⟩
    ·obtain ⟨_,_,_,_,o,_,_,e,ex,_⟩:=I.hok p _ hk
     exact ⟨o,e,ex⟩
    ·obtain ⟨_,_,_,_,o,_,_,e,ex,_⟩:=I.hok p _ hk
     exact ⟨o,e,ex⟩
   obtain ⟨o,e,ex⟩:=z
   refine ⟨⟨o,e,ex.1⟩,fun a e2=>?_⟩
   cases e2
   exact ⟨o,e,ex.2.1⟩
  ·obtain ⟨o,_,_,_,e,ex,_⟩:=I.hok p _ hk
   refine ⟨⟨o,e,ex.1⟩,fun a e2=>?_⟩
   cases e2
   exact ⟨o,e,ex.2.1⟩
 | _=>exact False.elim ty
def tBM (K:PySem.W.Frag)(T:String)(r:V->List V->Hp->VK->Prop)(to:TE)(t:TA):TE:=fun σ H Q=>to σ H fun x H1=>tyV K T x H1/\t σ H1 fun xs H2=>r x xs H2 Q
variable {o e:Expr}{es:List Expr}{to:TE}{t:TA}{name:Str}{apos cpos:Pos}{T id:String}{r:V->List V->Hp->VK->Prop}
theorem pe_bm (pa:PlainAttrs T)(slot:Slot T name id)(hty:typeOf (.builtin id)=pure (.type "method_descriptor"))(hm:MtR X id r)(ho:PE X o to)(ha:PA X (e::es) t)
  (hbase:attributeBase o name X.env (eval o X.env)=eval o X.env:=by rfl)
  (hfew:((backTo cpos (starEach (e::es) X.env)).all (fun x=>!x.1)&&(backToKw cpos (keywordEach [] X.env)).all (fun x=>x.1.isSome)
   && decide ((e::es).length+([]:List Keyword).length+(if ([]:List Keyword).isEmpty then 0 else 1)<30))=true:=by rfl)
  (hline:(apos.endLine==cpos.line)=true:=by rfl) (hs:starEach (e::es) X.env=(false,eval e X.env)::starEach es X.env:=by rfl) (hplain:(backTo cpos (starEach es X.env)).any (·.1)=false:=by rfl) :
  PE X (.Call (.Attribute o name apos) (e::es) [] cpos) (tBM X.K T r to t):=by
 intro pins s σ H Q I h
 refine wpAny_Call_method_late hbase hfew hline rfl (thn (ho pins s σ H _ I h) fun v s1 ⟨x,H1,I1,r1,ty,q1⟩=>?_)
 obtain ⟨h1,h2⟩:=qdP I1 r1 ty
 refine ⟨T,id,pa,slot,hty,h1,h2,?_⟩
 have hA:=ha cpos pins s1 σ H1 _ I1 q1
 rw [hs] at hA ⊢
 refine Calls.callWith_builtin (by show (false||(backTo cpos (starEach es X.env)).any (·.1))=false;rw [hplain]<;>rfl) (Calls.evalArgs_plain ?_)
 exact thn hA fun us s2 ⟨vs,H2,I2,r2,q2⟩=>hm pins s2 σ H2 x vs v us Q I2 r1 r2 q2
end
def MtM (X:Cx)(id:String)(r:V->List V->Hp->VK->Prop):Prop :=
 ∀ (pins:List (Addr×Obj)) (s:Shared) (σ:St) (H:Hp) (x:V) (xs:List V) (v:Value) (us:List Value) (Q:VK),Inv X pins σ H s->RelV x v->Vals xs us->r x xs H Q->
  wpAny (model X.prog X.w) X.A (call (.builtin id) (v::us)) (EP X pins σ Q) X.xe s
theorem Vals.one:∀ {x:V} {us:List Value},Vals [x] us->∃ u,us=[u]/\RelV x u
 | _,_,.cons r .nil=>⟨_,rfl,r⟩
theorem Vals.two:∀ {x y:V} {us:List Value},Vals [x,y] us->∃ u v,us=[u,v]/\RelV x u/\RelV y v
 | _,_,_,.cons r (.cons q .nil)=>⟨_,_,rfl,r,q⟩
section
variable {X:Cx}{pins:List (Addr×Obj)}{σ:St}{H:Hp}{s:Shared}{l b:Addr}{xs ys zs:List V}
theorem Inv.lset {its its':List Value}{n:Nat}{f:Array Value->Array Value}{t':Nat}(I:Inv X pins σ H s)(hH:H l=some (.lst xs))
  (e:s.heap.get? l=some { cls:=.type "list", data:=.seq its.toArray n }) (hf:f its.toArray=its'.toArray) (hv:Vals ys its') (hz:ys.length<=sizeLine) :
  Inv X pins σ (upd H l (.lst ys)) { s with heap:=s.heap.update l (Obj.mapSeq f),toks:=t' }:=by
 have q:=PySem.IsL.update e f
 rw [hf] at q
 refine I.write (x:=l) (e:=l) (by rw [hH];exact trivial) (.inl rfl) (fun b' u hb hu=>(Heap.get?_update_other s.heap (Obj.mapSeq f) (Ne.symm hb)).trans hu) ⟨_,q⟩ ?_
 exact ⟨hz,its',_,hv,q⟩
theorem Inv.lnew {its:List Value}{t':Nat}(I:Inv X pins σ H s)(hv:Vals ys its)(hz:ys.length<=sizeLine) :
  Inv X pins σ (upd H s.heap.objs.size (.lst ys)) { s with heap:=s.heap.push { cls:=.type "list", data:=.seq its.toArray },toks:=t' } :=
 I.laid (fun _ _ q=>Heap.get?_push_of_some _ q) (Nat.le_refl _) ⟨hz,its,0,hv,Heap.get?_push_size _ rfl⟩
theorem Inv.fresh (I:Inv X pins σ H s):H s.heap.objs.size=none:=I.hok.fresh (Nat.le_refl _)
theorem Inv.lstM (I:Inv X pins σ H s)(hH:H l=some (.lst xs)):xs.length<=sizeLine/\∃ (its:List Value) (n:Nat),Vals xs its/\xs.length=its.length/\s.heap.get? l=some { cls:=.type "list", data:=.seq its.toArray n }:=by
 obtain ⟨z,its,n,r,e⟩:=I.hok l _ hH
 exact ⟨z,its,n,r,r.length,e⟩
end
section
variable {X:Cx}
def qca:V->List V->Hp->VK->Prop:=fun x vs H Q=>∃ l xs y,x=.ref l/\vs=[y]/\H l=some (.lst xs)/\xs.length<sizeLine/\Q .non (upd H l (.lst (xs++[y])))
theorem WK:MtM X "list.append" qca:=by
 intro pins s σ H x vs v us Q I rx rv h
 obtain ⟨l,xs,y,rfl,rfl,hH,hz,q⟩:=h
 cases rx
 obtain ⟨u,rfl,ru⟩:=rv.one
 obtain ⟨z,its,n,r,hl,e⟩:=I.lstM hH
 refine call_meets F.slot_list_append ⟨_,e,rfl⟩ F.entry_list_append (F.args_list_append_2 _ _) (PySem.list_append l its.toArray n u (by rw [List.size_toArray];omega)) ⟨e,?_⟩
 refine ⟨.non,_,I.lset (its':=its++[u]) hH e (by simp) (r.append (.cons ru .nil)) ?_,rfl,q⟩
 rw [List.length_append,List.length_singleton]
 omega
end
section
variable {prog:Program}{w:World}{A:Around}{E:Value->Shared->Prop}{s:Shared}
set_option maxRecDepth 100000 in
end
end L2
namespace Att
open PySem PySem.W PySem.Calls PyProof.Rows
theorem j0 {P:Params}{h:Heap}:∀ (ns:List Int) (vs:List Value),WellAll P h vs (ns.map WData.int)->IntsAre vs ns:=by
 intro ns
 induction ns with
 | nil =>
  intro vs w
  rw [List.map_nil] at w
  cases w
  exact .nil
 | cons n ns ih =>
  intro vs w
  rw [List.map_cons] at w
  cases w with
  | cons a b =>
   cases a
   exact .cons _ _ (ih _ b)
theorem WR {l:OpenLaw}{n:Nat}(hn:l.most=some n){P:Params}{h:Heap}{args:List WData}{vals:List Value}
  (hpre:l.row.toRowW.claim.pre args=true) (hwl:WellAll P h vals args) :
  ∃ a vs ns,vals=[Value.ref a]/\args=[WData.list (ns.map WData.int)]/\h.get? a=some { cls:=.type "list", data:=.seq vs.toArray }/\IntsAre vs ns/\ns.length<=n:=by
 have hsh:WShape.hasAll [] args [.list .int]=true:=(pre_splitW hpre).1
 have hc:l.pre.holds [] { args:=args }=true:=(pre_splitW hpre).2
 obtain ⟨d,r,rfl,h1,h2⟩:=hasAllW_cons hsh
 obtain rfl:=hasAllW_nil h2
 obtain ⟨xs,rfl,h3⟩:=hasW_list h1
 obtain ⟨ns,rfl⟩:=items_int h3
 have hlen:ns.length<=n:=by
  unfold OpenLaw.pre at hc
  have h4:(WTm.not (.lt (.lit (.int (n:Int))) (.len (.arg 0)))).holds [] { args:=[.list (ns.map .int)] }=true:=by
   have h4:=(holds_andW hc).1
   rw [hn] at h4
   exact h4
  have h5:=condW_of h4 (w_not (w_lt w_lit (w_len_list (w_arg rfl))))
  rw [List.length_map] at h5
  refine Nat.le_of_not_lt fun q=>?_
  have q':(n:Int)<((ns.length:Nat):Int):=by omega
  first
   | (rw [decide_eq_true q'] at h5;exact absurd h5 (by decide))
   | (simp at h5;omega)
 cases hwl with
 | cons w1 w2 =>
  cases w2
  cases w1 with
  | list ho hall=>exact ⟨_,_,ns,rfl,rfl,ho,j0 ns _ hall,hlen⟩
theorem WP (l:OpenLaw)(args:List WData):l.row.toRowW.claim.post args (.bool true) args=true :=
 postW_of (r:=l.row.toRowW) (X:=(true==true))
  (show WShape.has [] (.bool true) .bool=true by first|rfl|decide|simp [WShape.has,WShape.arms,WShape.armsAll])
  (show (WTm.eq .res (.lit (.bool true))).value [] { args:=args,res:=some (.bool true),after:=args }=some (.bool (true==true)) from w_eq_bool (w_res rfl) w_lit) rfl
end Att
namespace L2
open PySem PySem.Spec PyProof.Rows
theorem ym:∀ {vs:List Value} {ns:List Int},IntsAre vs ns->Vals (ns.map V.int) vs
 | _,_,.nil=>.nil
 | _,_,.cons n t h=>.cons ⟨t,rfl⟩ (ym h)
def Only (H:Hp):Prop:=∀ b,H b=none\/∃ o xs,H b=some (.frz o (.lst xs))
theorem qar {P:Program}{w:World}{K:PySem.W.Frag}{mg mb:Str->Option Value}{CX:CXT}{k:Nat}{fa a:Addr}{fd:FuncData}{x:Str}{sp:Sp}{s₁:Shared}{vs:List Value}{ns:List Int}
  (KX:K.In s₁.heap) (hns:s₁.heap.Ns mainGlobals mg) (hb:s₁.heap.Ns builtinsNs mb) (hbb:∀ x:Str,x ≠ "__name__"->mb x=bootBuiltins x) (hlim:s₁.heap.NoLimit) (hg:s₁.gens=#[])
  (ha:s₁.heap.get? a=some { cls:=.type "list", data:=.seq vs.toArray }) (hi:IntsAre vs ns) (hl:ns.length<=sizeLine) (hr:Room k callerA)
  (F:∀ base:Heap,K.In base->base.Ns mainGlobals mg->FnOk P w K mg base CX k fa fd [x] sp) (hbind:∀ (s:Shared) (u:Value),BindsTo s fd ⟨[u],[]⟩ [(x,u)])
  (hsp:∀ H:Hp,Only H->SqL K H a (ns.map V.int)->sp [.ref a] H (fun v _=>v=.bl true) fun _ _ _=>False)
  (hCX:∀ H e s',CX [] H s₁ (fun _ _ _=>False) e s'->False) :
  codeAny (model P w) callerA (.call (.ref fa) ⟨[.ref a],[]⟩) (fun r s'=>r=.ok (.ret (.bool true))/\OldK s₁.heap s'.heap/\s'.os=s₁.os/\AllBare s'.gens) s₁:=by
 have rv:=ym hi
 have lenV:=hi.length
 have core:∀ H:Hp,Only H->SqL K H a (ns.map V.int)->HOk P w H s₁.heap->(∀ b,H b≠none->b=a)->(H a≠none->K.lookup a=none)->
   codeAny (model P w) callerA (.call (.ref fa) ⟨[.ref a],[]⟩) (fun r s'=>r=.ok (.ret (.bool true))/\OldK s₁.heap s'.heap/\s'.os=s₁.os/\AllBare s'.gens) s₁:=by
  intro H hO hS hok hA hK
  have base_of:∀ {b:Addr} {o:Obj},s₁.heap.get? b=some o->H b=none->(hidT s₁.heap H).get? b=some o:=fun e n=>qan e n
  have noA:∀ {b:Addr} {o:Obj} {es:Array DictEntry} {ep:Nat},s₁.heap.get? b=some o->o.data=.dict es ep->H b=none:=fun {b o es ep} e d=>by
   cases q:H b with
   | none=>rfl
   | some u =>
    have e':b=a:=hA b (by rw [q];simp)
    subst e'
    rw [ha] at e;cases e
    have d':Data.seq vs.toArray _=Data.dict es ep:=d
    cases d'
  have nsK:∀ {b:Addr} {m:Str->Option Value},s₁.heap.Ns b m->(hidT s₁.heap H).Ns b m:=fun {b m} ⟨o,es,ep,e,d,r⟩=>⟨o,es,ep,base_of e (noA e d),d,r⟩
  have hKb:K.In (hidT s₁.heap H):=fun b o e=>base_of (KX b o e) (by
   cases q:H b with
   | none=>rfl
   | some u =>
    have e':b=a:=hA b (by rw [q];simp)
    subst e'
    rw [hK (by rw [q];simp)] at e;cases e)
  have hM:Mod K mg (hidT s₁.heap H):=⟨hKb,nsK hns,⟨mb,nsK hb,hbb⟩,let ⟨mc,h1,h2⟩:=hlim;⟨mc,nsK h1,h2⟩⟩
  have e0:Env0 P w K mg (hidT s₁.heap H) callerA [] s₁ H:=⟨rfl,hM,fun b o e=>qbJ e,Nat.le_of_eq (Wn _ _),trivial,fun b hb=>absurd (show b∈([]:List Addr) from hb) (by simp),hok,.of_eq hg⟩
  refine codeAny_mono ((F _ hKb (nsK hns)).run callerA [] s₁ H ⟨[.ref a],[]⟩ [.ref a] [.ref a] _ _ hr e0 (hbind s₁ (.ref a)) (.cons rfl .nil) (hsp H hO hS)) fun r s' h=>?_
  cases r with
  | error e=>exact (hCX H e s' h).elim
  | ok fl =>
   cases fl with
   | next=>exact False.elim h
   | brk=>exact False.elim h
   | cont=>exact False.elim h
   | ret u =>
    obtain ⟨v,H',os,bare,un,hok',r',q⟩:=h
    have q':v=.bl true:=q
    subst q'
    obtain rfl:u=Value.bool true:=r'
    refine ⟨rfl,OldK.of_keep fun b o e=>?_,os,bare⟩
    cases q:H b with
    | none=>exact un.keep b o e q (by intro z;exact absurd (show b∈([]:List Addr) from z) (by simp)) (by simp)
    | some u =>
     rcases hO b with z|⟨ob,xs,z⟩
     ·rw [q] at z;cases z
     ·have z2:=un.frzs b ob _ z
      obtain ⟨e1,_⟩:=hok b _ z
      obtain ⟨e2,_⟩:=hok' b _ z2
      rw [e] at e1;cases e1
      exact e2
 cases hk:K.lookup a with
 | some o =>
  have e:=KX a o hk
  rw [ha] at e
  cases e
  refine core (fun _=>none) (fun _=>.inl rfl) (.inr ⟨_,vs.toArray,_,hk,rfl,rfl,rfl,by rw [List.size_toArray,lenV];exact hl,by simpa using rv⟩) (fun b u z=>by have z':(none:Option HO)=some u:=z;cases z') (fun b z=>absurd rfl z) fun z=>absurd rfl z
 | none =>
  refine core (fun b=>if b=a then some (.frz { cls:=.type "list", data:=.seq vs.toArray } (.lst (ns.map V.int))) else none) (fun b=>?_) (.inl (.inr ⟨{ cls:=.type "list", data:=.seq vs.toArray },if_pos rfl⟩)) (fun b u z=>?_) (fun b z=>?_) fun _=>hk
  ·by_cases hb:b=a
   ·exact .inr ⟨_,_,if_pos hb⟩
   ·exact .inl (if_neg hb)
  ·by_cases hb:b=a
   ·have z':=(if_pos hb).symm.trans z
    cases z'
    subst hb
    exact ⟨ha,by rw [List.length_map];exact hl,vs,_,rv,ha⟩
   ·have z':=(if_neg hb).symm.trans z
    cases z'
  ·by_cases hb:b=a
   ·exact hb
   ·exact absurd (if_neg hb) z
def Qt (s:Stmt):Arguments:=match s with
 | .FunctionDef _ a _ _ _ _ _ _ _ _=>a
 | _=>{ posonlyargs:=[],args:=[],vararg:=none,kwonlyargs:=[],kw_defaults:=[],kwarg:=none,defaults:=[] }
def zu (s:Stmt):List Stmt:=match s with
 | .FunctionDef _ _ b _ _ _ _ _ _ _=>b
 | _=>[]
def qj (s:Stmt):Scope:=match s with
 | .FunctionDef _ _ _ _ _ _ sc _ _ _=>sc
 | _=>{ kind:=.function,names:=[],isGenerator:=false,isCoroutine:=false }
abbrev CX0:CXT:=fun _ _ _ _ _ _=>False
abbrev E0:XK:=fun _ _ _=>False
theorem qay {X:Cx}:yo CX0 X E0:=fun _ _ _ _ _ _ _ h=>h.elim
structure Fun (K:PySem.W.Frag)(x qual:Str)(st:Stmt)(f:Addr)(fd:FuncData):Prop where
 ex:∃ (oc:Value) (od:Option Addr) (kV doc pm:Value) (an:Option Addr) (cdv ct:Value) (osl:Array (Option Value)),
  fd=PySem.W.fnOf x qual (Qt st) (zu st) (qj st) .none kV doc pm an cdv ct/\K.lookup f=some ⟨oc,od,.func fd,osl⟩/\PySem.W.codeIn K cdv qual=true
 kp:PySem.W.keepIn K (.ref f)=true
section
variable {P:Program}{w:World}{K:PySem.W.Frag}{mg:Str->Option Value}{base:Heap}
theorem Fun.binds {x qual:Str}{st:Stmt}{f:Addr}{fd:FuncData}{ps:List Str}(F:Fun K x qual st f fd)
  (h:∀ (kV doc pm:Value) (an:Option Addr) (cdv ct:Value) (us:List Value),us.length=ps.length->bindArgs (PySem.W.fnOf x qual (Qt st) (zu st) (qj st) .none kV doc pm an cdv ct) ⟨us,[]⟩=pure (ps.zip us)):Binds K fd ps []:=by
 obtain ⟨oc,od,kV,doc,pm,an,cdv,ct,osl,rfl,lk,hcd⟩:=F.ex
 exact .all (h kV doc pm an cdv ct)
theorem YD {x qual:Str}{st:Stmt}{f:Addr}{oc:Value}{od an:Option Addr}{osl:Array (Option Value)}{kV doc pm cdv ct:Value}(l:K.lookup f=some ⟨oc,od,.func (PySem.W.fnOf x qual (Qt st) (zu st) (qj st) .none kV doc pm an cdv ct),osl⟩)
  (c:PySem.W.codeIn K cdv qual=true) (k:PySem.W.keepIn K (.ref f)=true):Fun K x qual st f (PySem.W.fnOf x qual (Qt st) (zu st) (qj st) .none kV doc pm an cdv ct):=⟨⟨oc,od,kV,doc,pm,an,cdv,ct,osl,rfl,l,c⟩,k⟩
end
theorem zB {n:Nat}(h:n<=1000):n<sizeLine:=Nat.lt_of_le_of_lt h (by decide)
theorem iteF {A B:Prop}(h:B):if false=true then A else B:=by
 rw [if_neg Bool.false_ne_true]
 exact h
theorem iteT {A B:Prop}(h:A):if true=true then A else B:=by
 rw [if_pos rfl]
 exact h
def Same (H H':Hp):Prop:=∀ b o,H b=some o->H' b=some o
theorem Same.refl (H:Hp):Same H H:=fun _ _ h=>h
theorem Same.trans {H H1 H2:Hp}(a:Same H H1)(b:Same H1 H2):Same H H2:=fun c o h=>b c o (a c o h)
theorem Same.free {H H':Hp}(e:Same H H'){l:Addr}(h:H' l=Option.none):H l=Option.none:=by
 cases q:H l with
 | none=>rfl
 | some o =>
  rw [e l o q] at h
  cases h
theorem Same.seq {K:PySem.W.Frag}{H H':Hp}{a:Addr}{xs:List V}(e:Same H H')(h:SqL K H a xs):SqL K H' a xs:=by
 rcases h with (h|⟨o,h⟩)|h
 ·exact .inl (.inl (e _ _ h))
 ·exact .inl (.inr ⟨o,e _ _ h⟩)
 ·exact .inr h
end L2
set_option maxHeartbeats 4000000
namespace L2
open PySem PySem.Spec PyProof.Rows
theorem Zu {env:Env}(body:(Str×NameKind)->List (Str×Addr)->Sem (ForInStep (List (Str×Addr))))
  (hf:∀ n k acc c,k=NameKind.free->env.cells.lookup n=some c->body (n,k) acc=pure (.yield ((n,c)::acc)))
  (hn:∀ n k acc,k≠NameKind.free->body (n,k) acc=pure (.yield acc)) :
  ∀ (names:List (Str×NameKind)) (acc:List (Str×Addr)),(∀ y∈names,y.2=.free->∃ c,env.cells.lookup y.1=some c)->
   (∀ y c,acc.lookup y=some c->env.cells.lookup y=some c)->
   ∃ cl,forIn names acc body=pure cl/\(∀ y c,cl.lookup y=some c->env.cells.lookup y=some c)/\(∀ y,(∃ c,acc.lookup y=some c)->∃ c,cl.lookup y=some c)/\∀ y,(y,NameKind.free)∈names->∃ c,cl.lookup y=some c
 | [],acc,_,ha=>⟨acc,rfl,ha,fun _ h=>h,fun _ h=>by cases h⟩
 | (n,k)::r,acc,h,ha=>by
  by_cases hk:k=NameKind.free
  ·obtain ⟨c,hc⟩:=h (n,k) List.mem_cons_self hk
   obtain ⟨cl,e,h1,h2,h3⟩:=Zu body hf hn r ((n,c)::acc) (fun y hy=>h y (List.mem_cons_of_mem _ hy)) (fun y c' e=>by
    rw [List.lookup_cons] at e
    split at e
    ·rename_i q
     have q':y=n:=by simpa using q
     subst q';cases e;exact hc
    ·exact ha y c' e)
   refine ⟨cl,?_,h1,fun y hy=>h2 y ?_,fun y hy=>?_⟩
   ·rw [List.forIn_cons,hf n k acc c hk hc]
    exact e
   ·obtain ⟨c',e'⟩:=hy
    rw [List.lookup_cons]
    split
    ·exact ⟨_,rfl⟩
    ·exact ⟨_,e'⟩
   ·rcases List.mem_cons.mp hy with q|q
    ·cases q
     exact h2 _ ⟨c,by rw [List.lookup_cons];simp⟩
    ·exact h3 y q
  ·obtain ⟨cl,e,h1,h2,h3⟩:=Zu body hf hn r acc (fun y hy=>h y (List.mem_cons_of_mem _ hy)) ha
   refine ⟨cl,?_,h1,h2,fun y hy=>?_⟩
   ·rw [List.forIn_cons,hn n k acc hk]
    exact e
   ·rcases List.mem_cons.mp hy with q|q
    ·cases q;exact absurd rfl hk
    ·exact h3 y q
theorem Yw {sc:Scope}{env:Env}(h:∀ y∈sc.names,y.2=.free->∃ c,env.cells.lookup y.1=some c) :
  ∃ cl,closureFor sc env=pure cl/\(∀ y c,cl.lookup y=some c->env.cells.lookup y=some c)/\∀ y,(y,NameKind.free)∈sc.names->∃ c,cl.lookup y=some c:=by
 simp only [closureFor]
 obtain ⟨cl,e,h1,_,h3⟩:=Zu (env:=env) (fun x cs=>if (x.2==NameKind.free)=true then (do let a ← cellOf env x.1;pure (ForInStep.yield ((x.1,a)::cs))) else pure (ForInStep.yield cs)) (fun n k acc c hk hc=>by
   subst hk
   simp only [cellOf,hc,beq_self_eq_true,if_true];rfl) (fun n k acc hk=>by
   have:(k==NameKind.free)=false:=by simpa using hk
   simp only [this,Bool.false_eq_true,if_false]) sc.names [] h (fun y c e=>by cases e)
 refine ⟨cl,?_,h1,h3⟩
 exact (congrArg (· >>= fun r=>pure r) e).trans rfl
def qO (X:Cx)(N':List Str)(sc:Scope)(cl:List (Str×Addr))(C:Addr)(fp:List Addr)(pins:List (Addr×Obj))(s:Shared)(H:Hp):Cx where
 prog:=X.prog
 w:=X.w
 K:=X.K
 mg:=X.mg
 base:=X.base
 A:=X.A
 N:=N'
 s₀:=s
 H₀:=H
 env:=compEnvC sc cl C X.env
 outer:=X.stack
 stack:=X.stack
 ex:=fp
 fn:=fun x=>decide (sc.names.lookup x=some .cell)
 calm:=X.calm
 pn:=X.pn++pins
 xe:=fun _ _=>False
def PTs (X:Cx)(ifs:List Expr)(t:TT):Prop :=
 ∀ (pins:List (Addr×Obj)) (s:Shared) (σ:St) (H:Hp) (Q:Bool->Hp->Prop),Inv X pins σ H s->t σ H Q->
  wpAny (model X.prog X.w) X.A (forIn ifs true fun c r=>if r=true then do let ok ← isTrue c X.env (eval c X.env);pure (ForInStep.yield ok) else pure (ForInStep.yield r)) (TP X pins σ Q) X.xe s
def tTru:TT:=fun _ H Q=>Q true H
theorem qb8 {X:Cx}:PTs X [] tTru:=fun _ _ _ H _ I h=>wpAny_tests_nil ⟨H,I,h⟩
theorem qb9 {X:Cx}{c:Expr}{t:TT}(h:PT X c t):PTs X [c] t:=fun pins s σ H Q I q=>wpAny_tests_one (h pins s σ H Q I q)
theorem thF {α:Type}{t:Sem α}{Q Q':α->Shared->Prop}{M:Model}{A:Around}{E:Value->Shared->Prop}{s:Shared}(h:wpAny M A t Q (fun _ _=>False) s)(hQ:∀ a s,Q a s->Q' a s):wpAny M A t Q' E s:=wpAny_mono h hQ fun _ _ x=>x.elim
theorem YQ {prog:Program}{w:World}{A:Around}{R:Result->Shared->Prop}{s:Shared}{elt target iter:Expr}{ifs:List Expr}{scope:Scope}{pos:Pos}{it acc:Value}{env:Env}(I:Nat->Shared->Prop)
  (turn:∀ n s,I n s->wpAny (model prog w) A (pyNext it) (fun r s₁=>match r with
   | none=>R (.ok .next) s₁
   | some v=>wpAny (model prog w) A (letOwnedTupleGo target it v) (fun _ s₁=>wpAny (model prog w) A (assign target env v) (fun _ s₂ =>
     wpAny (model prog w) A (forIn ifs true fun c r=>if r=true then do let ok ← isTrue c env (eval c env);pure (ForInStep.yield ok) else pure (ForInStep.yield r)) (fun ok s₃ =>
      if ok=true then wpAny (model prog w) A (eval elt env) (fun x s₄ =>
       wpAny (model prog w) A (call (.builtin "list.append") [acc,x]) (fun _ s₅=>∃ m,m<n/\I m s₅) (notedBy (model prog w) A env fun e s'=>R (.error e) s') s₄) (notedBy (model prog w) A env fun e s'=>R (.error e) s') s₃
      else ∃ m,m<n/\I m s₃) (notedBy (model prog w) A env fun e s'=>R (.error e) s') s₂) (notedBy (model prog w) A env fun e s'=>R (.error e) s') s₁) (notedBy (model prog w) A env fun e s'=>R (.error e) s') s₁) (notedBy (model prog w) A env fun e s'=>R (.error e) s') s)
  (n:Nat) (h:I n s) :
  codeAny (model prog w) A (.compLoop (.ListComp elt [⟨target,iter,ifs,0⟩] scope pos) 0 it acc env) R s:=by
 refine codeAny_loop rfl I (fun n s hI=>?_) n h
 show wpAny _ A ((compTurn (.ListComp elt [⟨target,iter,ifs,0⟩] scope pos) 0 it acc env).onRaise (fun x=>do noteFrame x env;theTreesLotGoes x)) _ _ s
 refine wpAny_noted ?_
 rw [compTurn_list]
 refine wpAny_bind (wpAny_standAt (wpAny_bind (wpAny_mono (turn n s hI) (fun r s₁ h₁=>?_) fun _ _ h'=>h')))
 cases r with
 | none=>exact wpAny_pure h₁
 | some v =>
  refine wpAny_bind (wpAny_mono h₁ (fun _ s₁' h₁'=>?_) fun _ _ h'=>h')
  refine wpAny_bind (wpAny_mono h₁' (fun _ s₂ h₂=>wpAny_bind (wpAny_mono h₂ (fun ok s₃ h₃=>?_) fun _ _ h'=>h')) fun _ _ h'=>h')
  cases ok with
  | false=>exact wpAny_pure ⟨rfl,h₃⟩
  | true =>
   exact wpAny_bind (wpAny_bind (wpAny_mono h₃ (fun x s₄ h₄=>wpAny_bind (wpAny_mono h₄ (fun _ s₅ h₅=>wpAny_pure (wpAny_pure ⟨rfl,h₅⟩)) fun _ _ h'=>h')) fun _ _ h'=>h'))
structure CompOk (X:Cx)(N':List Str)(k:Nat)(sc:Scope):Prop where
 calm:X.calm=true
 kind:sc.kind=.function
 nd:X.N.Nodup
 nd':N'.Nodup
 len:N'.length=X.N.length+k
 cells:∀ y∈sc.names,y.2=.cell->sc.names.lookup y.1=some .cell
 names:∀ y∈sc.names,y.2=.local->sc.names.lookup y.1=some .local
 old:∀ i y,i<X.N.length->N'[i]?=some y->(X.N[i]?=some y/\sc.names.lookup y≠some .local/\sc.names.lookup y≠some .cell)\/sc.names.lookup y=none
 free:∀ y∈sc.names,y.2=.free->X.env.kindOf y.1=some .cell\/X.env.kindOf y.1=some .free
theorem qab (lo:Nat):∀ (names:List (Str×NameKind)) (h:Heap) (acc:List (Str×Addr)),lo<=h.objs.size->(∀ y c,acc.lookup y=some c->lo<=c->c<h.objs.size)->(∀ y z c,lo<=c->acc.lookup y=some c->acc.lookup z=some c->y=z)->
  (∀ y c,(cellsFrom h.objs.size names acc).lookup y=some c->acc.lookup y=some c\/(h.objs.size<=c/\(pushCells h names).IsCell c none))/\(∀ y,(∃ c,acc.lookup y=some c)->∃ c,(cellsFrom h.objs.size names acc).lookup y=some c)/\
  (∀ y,(y,NameKind.cell)∈names->∃ c,(cellsFrom h.objs.size names acc).lookup y=some c/\h.objs.size<=c)/\(∀ y,(y,NameKind.cell)∉names->(cellsFrom h.objs.size names acc).lookup y=acc.lookup y)/\
  ∀ y z c,lo<=c->(cellsFrom h.objs.size names acc).lookup y=some c->(cellsFrom h.objs.size names acc).lookup z=some c->y=z
 | [],h,acc,_,_,inj=>⟨fun _ _ e=>.inl e,fun _ e=>e,(fun _ e=>by cases e),fun _ _=>rfl,inj⟩
 | (name,kind)::r,h,acc,hl,hb,inj=>by
  by_cases hk:kind=.cell
  ·subst hk
   have sz:(h.push { cls:=.type "cell", data:=.cell none }).objs.size=h.objs.size+1:=Heap.size_push ..
   have lk:∀ y,List.lookup y ((name,h.objs.size)::acc)=if y=name then some h.objs.size else acc.lookup y:=fun y=>by
    rw [List.lookup_cons]
    by_cases q:y=name
    ·rw [if_pos q,beq_iff_eq.mpr q]
    ·rw [if_neg q,beq_eq_false_iff_ne.mpr q]
   obtain ⟨a1,a2,a3,a4,a5⟩:=qab lo r (h.push { cls:=.type "cell", data:=.cell none }) ((name,h.objs.size)::acc) (by omega) (fun y c e q=>by
     rw [lk] at e
     rw [sz]
     split at e
     ·cases e;exact Nat.lt_succ_self _
     ·exact Nat.lt_succ_of_lt (hb y c e q)) (fun y z c q e1 e2=>by
     rw [lk] at e1 e2
     split at e1<;>split at e2
     ·rename_i u v;rw [u,v]
     ·cases e1;exact absurd (hb z _ e2 q) (Nat.lt_irrefl _)
     ·cases e2;exact absurd (hb y _ e1 q) (Nat.lt_irrefl _)
     ·exact inj y z c q e1 e2)
   rw [sz] at a1 a2 a3 a4 a5
   have e0:cellsFrom h.objs.size ((name,NameKind.cell)::r) acc=cellsFrom (h.objs.size+1) r ((name,h.objs.size)::acc):=rfl
   have e1:pushCells h ((name,NameKind.cell)::r)=pushCells (h.push { cls:=.type "cell", data:=.cell none }) r:=rfl
   rw [e0,e1]
   have b1:∀ y c,(cellsFrom (h.objs.size+1) r ((name,h.objs.size)::acc)).lookup y=some c->acc.lookup y=some c\/(h.objs.size<=c/\(pushCells (h.push { cls:=.type "cell", data:=.cell none }) r).IsCell c none):=fun y c e=>by
    rcases a1 y c e with q|⟨q1,q2⟩
    ·rw [lk] at q
     split at q
     ·cases q
      exact .inr ⟨Nat.le_refl _,_,pushCells_keeps r _ _ _ (Heap.get?_push_size _ rfl),rfl⟩
     ·exact .inl q
    ·exact .inr ⟨by omega,q2⟩
   refine ⟨b1,fun y e=>a2 y ?_,fun y e=>?_,fun y e=>?_,a5⟩
   ·obtain ⟨c,e⟩:=e
    rw [lk]
    split
    ·exact ⟨_,rfl⟩
    ·exact ⟨_,e⟩
   ·rcases List.mem_cons.mp e with q|q
    ·cases q
     obtain ⟨c,q⟩:=a2 name ⟨h.objs.size,by rw [lk,if_pos rfl]⟩
     refine ⟨c,q,?_⟩
     rcases a1 name c q with z|z
     ·rw [lk,if_pos rfl] at z;cases z;exact Nat.le_refl _
     ·omega
    ·obtain ⟨c,q1,q2⟩:=a3 y q
     exact ⟨c,q1,by omega⟩
   ·rw [a4 y fun z=>e (List.mem_cons_of_mem _ z),lk,if_neg fun z=>e (by rw [z];exact List.mem_cons_self)]
  ·have hb':(kind==NameKind.cell)=false:=beq_eq_false_iff_ne.mpr hk
   have e0:cellsFrom h.objs.size ((name,kind)::r) acc=cellsFrom h.objs.size r acc:=by rw [cellsFrom,hb'];rfl
   have e1:pushCells h ((name,kind)::r)=pushCells h r:=by rw [pushCells,hb'];rfl
   rw [e0,e1]
   obtain ⟨a1,a2,a3,a4,a5⟩:=qab lo r h acc hl hb inj
   refine ⟨a1,a2,fun y e=>?_,fun y e=>a4 y fun z=>e (List.mem_cons_of_mem _ z),a5⟩
   rcases List.mem_cons.mp e with q|q
   ·cases q;exact absurd rfl hk
   ·exact a3 y q
theorem qbI {M:Model}{A:Around}{E:Value->Shared->Prop}{s:Shared}{sc:Scope}{gl:Addr}{cl:List (Str×Addr)}{qual:Str}{func:Option Addr}{code:Value}{env:Env}{bl:Addr}{Q:Env->Shared->Prop}
  (hQ:Q (newEnv sc s.heap.objs.size gl (cellsFrom (s.heap.objs.size+1) sc.names cl) qual func code (some env) bl) { s with heap:=pushCells (s.heap.push { cls:=.type "dict", data:=.dict #[] }) sc.names }) :
  wpAny M A (newFunctionEnv sc gl cl [] qual func code (some env) bl) Q E s:=by
 simp only [newFunctionEnv,Option.isSome_some,if_true]
 refine wpAny_bind (wpAny_alloc (wpAny_bind (wpAny_layCells _ (fun name kind cells=>by cases hkc:kind==NameKind.cell<;>simp [hkc]) _ _ _ _ ?_)))
 rw [show ({ s with heap:=s.heap.push { cls:=.type "dict", data:=.dict #[] } }:Shared).heap.objs.size=s.heap.objs.size+1 from Heap.size_push ..]
 rw [List.forIn_nil]
 exact wpAny_bind (wpAny_pure (wpAny_pure hQ))
structure ClOk (X:Cx)(sc:Scope)(cl:List (Str×Addr))(n:Nat)(h:Heap):Prop where
 old:∀ y c,cl.lookup y=some c->X.env.cells.lookup y=some c\/(n<c/\∃ v,h.IsCell c v)
 free:∀ y,sc.names.lookup y=some .free->∃ c,cl.lookup y=some c/\X.env.cells.lookup y=some c
 cell:∀ y,sc.names.lookup y=some .cell->∃ c,cl.lookup y=some c/\n<c
 inj:∀ y z c,cl.lookup y=some c->cl.lookup z=some c->y=z
def qa1 (J:It)(wg:TG)(tt:TT)(te:TE)(W:Nat->Nat->List V->St->Hp->Prop)(i m:Nat)(ys:List V)(σ:St)(H:Hp):Prop :=
 ∀ x H2,J.yld i H x H2->wg x σ H2 fun σ3 H3=>tt σ3 H3 fun b H4=>if b=true then te σ3 H4 fun v H5=>ys.length<sizeLine/\∃ m',m'<m/\W (i+1) m' (ys++[v]) σ3 H5
  else ∃ m',m'<m/\W (i+1) m' ys σ3 H4
def qa2 (k:Nat)(J:It)(wg:TG)(tt:TT)(te:TE)(σ:St)(H:Hp)(Q:VK):Prop :=
 ∃ W:Nat->Nat->List V->St->Hp->Prop,(∃ m,W 0 m [] (σ++List.replicate k none) H)/\∀ i m ys σ' H',W i m ys σ' H'->
  (J.stop i H'/\∀ D,H' D=none->Q (.ref D) (upd H' D (.lst ys)))\/(J.go i H'/\qa1 J wg tt te W i m ys σ' H')
def qa0 (k:Nat)(wi:TI)(wg:TG)(tt:TT)(te:TE):TE:=fun σ H Q=>wi σ H fun J H1=>qa2 k J wg tt te σ H1 Q
theorem zJ {env:Env}:∀ {names:List (Str×NameKind)} {x:Str} {k:NameKind},
  (names.map fun (n,k)=>if (k==NameKind.free&&env.scope.kind==.function&&env.kindOf n==some .cell) then (n,NameKind.cell) else (n,k)).lookup x=some k->
   (names.lookup x=some k)\/(k=.cell/\names.lookup x=some .free)
 | [],_,_,h=>by simp at h
 | (n,k')::r,x,k,h=>by
  have h':List.lookup x ((if (k'==NameKind.free&&env.scope.kind==.function&&env.kindOf n==some .cell)=true then (n,NameKind.cell) else (n,k'))::(r.map fun (n,k)=>if (k==NameKind.free&&env.scope.kind==.function&&env.kindOf n==some .cell) then (n,NameKind.cell) else (n,k)))=some k:=h
  have ih:=@zJ env r x k
  cases hx:x==n with
  | true =>
   by_cases hc:(k'==NameKind.free&&env.scope.kind==.function&&env.kindOf n==some .cell)=true
   ·rw [if_pos hc] at h'
    simp only [List.lookup_cons,hx] at h' ⊢
    cases h'
    have:k'=.free:=by
     rw [Bool.and_eq_true,Bool.and_eq_true] at hc
     simpa using hc.1.1
    subst this
    exact .inr ⟨rfl,rfl⟩
   ·rw [if_neg hc] at h'
    simp only [List.lookup_cons,hx] at h' ⊢
    exact .inl h'
  | false =>
   by_cases hc:(k'==NameKind.free&&env.scope.kind==.function&&env.kindOf n==some .cell)=true
   ·rw [if_pos hc] at h'
    simp only [List.lookup_cons,hx] at h' ⊢
    exact ih h'
   ·rw [if_neg hc] at h'
    simp only [List.lookup_cons,hx] at h' ⊢
    exact ih h'
section
variable {X:Cx}{elt iter:Expr}{ifs:List Expr}{tg:Expr}{N':List Str}{sc:Scope}{pos:Pos}{wi:TI}{wg:TG}{tt:TT}{te:TE}{k:Nat}
theorem qad {pins:List (Addr×Obj)}{σ:St}{H:Hp}{s s':Shared}{cl:List (Str×Addr)}{fp:List Addr}{m:Str->Option Value}(O:CompOk X N' k sc)(I:Inv X pins σ H s)(cK:ClOk X sc cl s.heap.objs.size s'.heap)
  (hf:∀ b∈fp,FpOk X pins H b) (hlt:∀ b∈fp,b<s.heap.objs.size) (hos:s'.os=s.os) (hg:s'.gens=s.gens) (hk:∀ b o,s.heap.get? b=some o->s'.heap.get? b=some o) (hns:s'.heap.Ns s.heap.objs.size m) :
  Inv (qO X N' sc cl s.heap.objs.size fp pins s H) [] (σ++List.replicate k none) H s':=by
 have stk:∀ b,b≠X.env.locals->b∉X.fs->b∉frs X.stack:=fun b h1 h2 hb=>by
  rcases List.mem_cons.mp (I.stkSub b hb) with z|z
  ·exact h1 z
  ·exact h2 z
 have hr:∀ {y:Str},(relabel sc X.env).names.lookup y=some .cell\/(relabel sc X.env).names.lookup y=some .free->sc.names.lookup y=some .free\/sc.names.lookup y=some .cell:=fun {y} h=>by
  rcases h with h|h
  ·rcases zJ h with q|q
   ·exact .inr q
   ·exact .inl q.2
  ·rcases zJ h with q|q
   ·exact .inl q
   ·exact .inl q.2
 refine ⟨⟨I.ok.mod,O.kind,I.ok.glob,I.ok.blt,Nat.le_refl _,cK.inj,fun y hy=>?_,fun y c z e=>?_,I.ok.hd,I.ok.frames,.inl rfl,fun b hb=>?_,I.bs,Nat.le_trans I.ok.bsz I.sz,fun b o e hb=>?_,fun b hb=>?_,I.stack,I.stkFree⟩,
  hos,?_,Un.kept hk,⟨m,hns,fun i y v h1 h2 h3=>?_⟩,fun y c h=>?_,I.hok.fresh (Nat.le_refl _),fun y c h=>(cK.old y c h).elim (I.freeC y c) fun z=>I.hok.fresh (Nat.le_of_lt z.1),fun p hp=>?_,I.hok.kept hk,?_⟩
 ·rcases hr hy with q|q
  ·obtain ⟨c,e,_⟩:=cK.free y q;exact ⟨c,e⟩
  ·obtain ⟨c,e,_⟩:=cK.cell y q;exact ⟨c,e⟩
 ·obtain ⟨c',e',q⟩:=cK.cell y (of_decide_eq_true z)
  have e:cl.lookup y=some c:=e
  rw [e'] at e;cases e
  exact Nat.le_of_lt q
 ·have q:=hf b hb
  exact ⟨Nat.ne_of_lt (hlt b hb),fun z c e=>(cK.old z c e).elim (q.2.2.2.2.1 z c) fun w=>Nat.ne_of_gt (Nat.lt_trans (hlt b hb) w.1)⟩
 ·have hb':b∈fp:=hb
  rcases (hf b hb').2.2.2.1 with z|z
  ·exact I.ok.noex b o e z
  ·exact absurd (Nat.lt_of_lt_of_le (Heap.lt_size (I.ok.bs b o e).1) z) (Nat.lt_irrefl _)
 ·exact stk b (hf b hb).2.1 (hf b hb).2.2.1
 ·rw [hg];exact I.bare
 ·have hl:=I.len
  have hi:i<X.N.length:=by
   by_cases hi:i<X.N.length
   ·exact hi
   ·rw [List.getElem?_append_right (by omega)] at h2
    have:=List.getElem?_replicate (a:=(none:Option V)) (n:=k) (i:=i-σ.length)
    rw [this] at h2
    split at h2<;>cases h2
  have h1':X.N[i]?=some y/\sc.names.lookup y≠some .local/\sc.names.lookup y≠some .cell:=by
   rcases O.old i y hi h1 with q|q
   ·exact q
   ·have no:∀ kk,(relabel sc X.env).names.lookup y≠some kk:=fun kk z=>by
     rcases zJ z with w|w
     ·rw [q] at w;cases w
     ·rw [q] at w;cases w.2
    rcases h3 with h3|h3|h3
    ·exact absurd h3 (no _)
    ·exact absurd h3 (no _)
    ·exact absurd h3 (no _)
  obtain ⟨h1',h1n,h1c⟩:=h1'
  have h2':σ[i]?=some (some v):=by
   rw [List.getElem?_append_left (by omega)] at h2
   exact h2
  have key:sc.names.lookup y=some .free/\((relabel sc X.env).names.lookup y=some .cell\/(relabel sc X.env).names.lookup y=some .free):=by
   rcases h3 with h3|h3|h3
   ·rcases zJ h3 with q|q
    ·exact absurd q h1n
    ·cases q.1
   ·exact ⟨(hr (.inl h3)).resolve_right h1c,.inl h3⟩
   ·exact ⟨(hr (.inr h3)).resolve_right h1c,.inr h3⟩
  obtain ⟨q,kd⟩:=key
  have mem:=PySem.mem_of_lookup q
  have kx:=O.free _ mem rfl
  obtain ⟨m0,hn,hl'⟩:=I.loc
  obtain ⟨u,r,l⟩:=hl' i y v h1' h2' (by rcases kx with z|z;exact .inr (.inl z);exact .inr (.inr z))
  rcases l with ⟨l,_⟩|⟨_,c,e,z⟩
  ·rcases kx with z|z
   ·rw [l] at z;cases z
   ·rw [l] at z;cases z
  ·obtain ⟨c',e',e2⟩:=cK.free y q
   rw [e] at e2;cases e2
   obtain ⟨o,ho,hd⟩:=z
   exact ⟨u,r,.inr ⟨kd,c,e',o,hk _ _ ho,hd⟩⟩
 ·rcases cK.old y c h with z|z
  ·obtain ⟨v,o,ho,hd⟩:=I.cell y c z
   exact ⟨v,o,hk _ _ ho,hd⟩
  ·exact z.2
 ·have hp':p∈X.pn++pins:=by
   rcases List.mem_append.mp hp with z|z
   ·exact z
   ·cases z
  obtain ⟨e,n,ne,nf,d⟩:=I.pin p hp'
  exact ⟨hk _ _ e,n,Nat.ne_of_lt (Heap.lt_size e),stk p.1 ne nf,d⟩
 ·show (σ++List.replicate k none).length=N'.length
  rw [List.length_append,List.length_replicate,I.len,O.len]
theorem comp_back {pins:List (Addr×Obj)}{σ σ':St}{H H':Hp}{s s1:Shared}{cl:List (Str×Addr)}{fp:List Addr}{C:Addr}(I:Inv X pins σ H s)(hf:∀ b∈fp,FpOk X pins H b)
  (J:Inv (qO X N' sc cl C fp pins s H) [] σ' H' s1):Inv X pins σ H' s1 :=
 I.call' (ch:=fp) J.os J.base J.hok J.bare fun b hb=>⟨(hf b hb).2.2.2.1,(hf b hb).2.1,(hf b hb).2.2.2.2.1,(hf b hb).2.2.2.2.2⟩
theorem Inv.track {pins:List (Addr×Obj)}{σ:St}{H:Hp}{s:Shared}{D:Addr}{o:HO}(I:Inv X pins σ H s)(hn:H D=none)(hL:D≠X.env.locals)(h1:D∈X.ex\/X.s₀.heap.objs.size<=D)(h2:∀ x c,X.env.cells.lookup x=some c->c≠D)(h3:∀ p∈X.pn++pins,p.1≠D)
  (ok:zE X.prog X.w (upd H D o) s.heap D o):Inv X pins σ (upd H D o) s:=by
 have ne:∀ b u,H b=some u->b≠D:=fun b u e=>qQ e hn
 exact I.step (g':=s.gens) (d':=s.drawn) (t':=s.toks) (ch:=[D]) (h':=s.heap) (fun b hb=>by
   have e:b=D:=by simpa using hb
   subst e
   exact ⟨h1,hL,h2,h3⟩) (fun b o _ _ _ e _=>e) (fun b o _ _ _ e _=>⟨o.slots,e⟩) (fun b o hc e n=>by rw [qJ (fun z=>hc (by simp [z]))];exact n) (fun b o _ e=>⟨o,e⟩)
  (fun b xs e=>by rw [qJ (ne b _ e)];exact e) (fun b o u e=>by rw [qJ (ne b _ e)];exact e) (fun b ps e=>⟨#[],by rw [qJ (ne b _ e),e];simp⟩) (fun m hm=>hm) (fun b u e=>by
   by_cases hb:b=D
   ·subst hb;rw [qN] at e;cases e;exact ok
   ·rw [qJ hb] at e
    exact (I.hok b u e).stay (fun c v _ q=>q) (fun c q=>by rw [qJ (ne c _ q)];exact q) fun c xs q=>by rw [qJ (ne c _ q)];exact q) I.bare
theorem Wj {pins:List (Addr×Obj)}{σ:St}{H:Hp}{s s':Shared}{cl:List (Str×Addr)}{fp:List Addr}{m:Str->Option Value}{it D:Addr}{tn:Nat->Heap->Prop}{J:It}{R:Result->Shared->Prop}{Qd:List V->Hp->Prop}(O:CompOk X N' k sc)
  (I:Inv X pins σ H s) (cK:ClOk X sc cl s.heap.objs.size s'.heap) (hf:∀ b∈D::fp,FpOk X pins H b) (hlt:∀ b∈D::fp,b<s.heap.objs.size)
  (hos:s'.os=s.os) (hg:s'.gens=s.gens) (hk:∀ b o,s.heap.get? b=some o->s'.heap.get? b=some o) (hns:s'.heap.Ns s.heap.objs.size m)
  (T:Turn X.prog X.w X.K tg J fp it tn) (hDf:D∉fp) (st:tn 0 s'.heap) (hD:s'.heap.PlainList D #[])
  (pg:PG (qO X N' sc cl s.heap.objs.size (D::fp) pins s H) tg wg) (hq:PTs (qO X N' sc cl s.heap.objs.size (D::fp) pins s H) ifs tt) (he:PE (qO X N' sc cl s.heap.objs.size (D::fp) pins s H) elt te)
  (W:Nat->Nat->List V->St->Hp->Prop) (m0:Nat) (w0:W 0 m0 [] (σ++List.replicate k none) H) (turn:∀ i m ys σ' H',W i m ys σ' H'->(J.stop i H'/\Qd ys H')\/(J.go i H'/\qa1 J wg tt te W i m ys σ' H'))
  (fin:∀ s1 H1 σ1 (ys:List V) (its:List Value),Inv (qO X N' sc cl s.heap.objs.size (D::fp) pins s H) [] σ1 H1 s1->H1 D=none->s1.heap.PlainList D its.toArray->Vals ys its->ys.length<=sizeLine->Qd ys H1->R (.ok .next) s1) :
  codeAny (model X.prog X.w) X.A (.compLoop (.ListComp elt [⟨tg,iter,ifs,0⟩] sc pos) 0 (.ref it) (.ref D) (compEnvC sc cl s.heap.objs.size X.env)) R s':=by
 have I0:Inv (qO X N' sc cl s.heap.objs.size (D::fp) pins s H) [] (σ++List.replicate k none) H s':=qad O I cK hf hlt hos hg hk hns
 have stk:∀ b,b≠X.env.locals->b∉X.fs->b∉frs X.stack:=fun b h1 h2 hb=>by
  rcases List.mem_cons.mp (I.stkSub b hb) with z|z
  ·exact h1 z
  ·exact h2 z
 have stat:∀ {H':Hp},(∀ b∈D::fp,H' b=none)->∀ b∈D::fp,FpOk (qO X N' sc cl s.heap.objs.size (D::fp) pins s H) [] H' b:=fun hn b hb =>
  ⟨hn b hb,Nat.ne_of_lt (hlt b hb),stk b (hf b hb).2.1 (hf b hb).2.2.1,.inl hb,fun z c e=>(cK.old z c e).elim ((hf b hb).2.2.2.2.1 z c) fun w=>Nat.ne_of_gt (Nat.lt_trans (hlt b hb) w.1),fun p hp=>by
   have hp':p∈X.pn++pins:=by
    rcases List.mem_append.mp hp with z|z
    ·exact z
    ·cases z
   exact (hf b hb).2.2.2.2.2 p hp'⟩
 have statF:∀ {H':Hp},(∀ b∈D::fp,H' b=none)->∀ b∈fp,FpOk (qO X N' sc cl s.heap.objs.size (D::fp) pins s H) [] H' b:=fun hn b hb=>stat hn b (List.mem_cons_of_mem _ hb)
 refine YQ (fun kk s1=>∃ i ys its σ' H',Inv (qO X N' sc cl s.heap.objs.size (D::fp) pins s H) [] σ' H' s1/\tn i s1.heap/\(∀ b∈D::fp,H' b=none)/\s1.heap.PlainList D its.toArray/\Vals ys its/\ys.length<=sizeLine/\W i kk ys σ' H') ?_ m0 ⟨0,[],[],σ++List.replicate k none,H,I0,st,fun b hb=>(hf b hb).1,hD,.nil,Nat.zero_le _,w0⟩
 rintro kk s3 ⟨i,ys,its,σ3,H3,I3,st3,fr3,pl3,rv3,hz3,w3⟩
 rcases turn i kk ys σ3 H3 w3 with ⟨stop,qn⟩|⟨go,step⟩
 ·have J3:=I3.pinned (fp:=[D]) (fun b hb=>by
   have e:b=D:=by simpa using hb
   subst e
   exact stat fr3 b List.mem_cons_self) (fun b hb=>by
   have e:b=D:=by simpa using hb
   subst e
   obtain ⟨n,e⟩:=pl3
   exact ⟨_,e,fun v z=>by cases z⟩)
  have fpo:∀ b∈fp,FpOk (qO X N' sc cl s.heap.objs.size (D::fp) pins s H) ([]++Qp [D] s3.heap) H3 b:=fun b hb=>by
   obtain ⟨a1,a2,a3,a4,a5,a6⟩:=statF fr3 b hb
   refine ⟨a1,a2,a3,a4,a5,fun p hp=>?_⟩
   rcases List.mem_append.mp hp with z|z
   ·exact a6 p (List.mem_append_left _ z)
   ·have z':p∈Qp [D] s3.heap:=by simpa using z
    have:=(jC z').1
    have e:p.1=D:=by simpa using this
    rw [e]
    intro z2
    subst z2
    exact hDf hb
  refine thn (T.done (qO X N' sc cl s.heap.objs.size (D::fp) pins s H) rfl rfl rfl O.calm i _ s3 σ3 H3 _ J3 fpo st3 stop) fun r s4 ⟨hr,I4⟩=>?_
  subst hr
  obtain ⟨n,e⟩:=pl3
  have e4:=(I4.pin (D,_) (List.mem_append_right _ (List.mem_append_right _ (Qi (by simp) e)))).1
  exact fin s4 H3 σ3 ys its I4.unpinned (fr3 D List.mem_cons_self) ⟨n,e4⟩ rv3 hz3 qn
 ·have J3:=I3.pinned (fp:=[D]) (fun b hb=>by
   have e:b=D:=by simpa using hb
   subst e
   exact stat fr3 b List.mem_cons_self) (fun b hb=>by
   have e:b=D:=by simpa using hb
   subst e
   obtain ⟨n,e⟩:=pl3
   exact ⟨_,e,fun v z=>by cases z⟩)
  have fpo:∀ {H':Hp},(∀ b∈fp,H' b=none)->∀ b∈fp,FpOk (qO X N' sc cl s.heap.objs.size (D::fp) pins s H) ([]++Qp [D] s3.heap) H' b:=fun {H'} hn b hb=>by
   obtain ⟨_,a2,a3,a4,a5,a6⟩:=statF fr3 b hb
   refine ⟨hn b hb,a2,a3,a4,a5,fun p hp=>?_⟩
   rcases List.mem_append.mp hp with z|z
   ·exact a6 p (List.mem_append_left _ z)
   ·have z':p∈Qp [D] s3.heap:=by simpa using z
    have:=(jC z').1
    have e:p.1=D:=by simpa using this
    rw [e]
    intro z2
    subst z2
    exact hDf hb
  refine thn (T.item (qO X N' sc cl s.heap.objs.size (D::fp) pins s H) rfl rfl rfl O.calm i _ s3 σ3 H3 _ J3 (fpo fun b hb=>fr3 b (List.mem_cons_of_mem _ hb)) st3 go) fun r s4 ⟨u,hr,h4⟩=>?_
  subst hr
  refine thn h4 fun _ s5 ⟨y,H5,I5,r5,y5,st5,fr5⟩=>?_
  have I5':=I5.pinned (fpo fr5) (T.obj _ _ st5)
  have step':=step y H5 y5
  obtain ⟨n3,e3⟩:=pl3
  have dpin:∀ {σ7:St} {H7:Hp} {s7:Shared},Inv (qO X N' sc cl s.heap.objs.size (D::fp) pins s H) ([]++Qp [D] s3.heap++Qp fp s5.heap) σ7 H7 s7->s7.heap.get? D=some { cls:=.type "list", data:=.seq its.toArray n3 }/\H7 D=none:=fun {σ7 H7 s7} I7=>by
   have q:=I7.pin (D,_) (List.mem_append_right _ (List.mem_append_left _ (List.mem_append_right _ (Qi (by simp) e3))))
   exact ⟨q.1,q.2.1⟩
  have tkeep:∀ {σ7:St} {H7:Hp} {s7:Shared},Inv (qO X N' sc cl s.heap.objs.size (D::fp) pins s H) ([]++Qp [D] s3.heap++Qp fp s5.heap) σ7 H7 s7->tn (i+1) s7.heap/\∀ b∈D::fp,H7 b=none:=fun {σ7 H7 s7} I7=>by
   refine ⟨T.keep _ _ _ st5 fun b hb o e=>(I7.pin (b,o) (List.mem_append_right _ (List.mem_append_right _ (Qi hb e)))).1,fun b hb=>?_⟩
   rcases List.mem_cons.mp hb with rfl|hb
   ·exact (dpin I7).2
   ·obtain ⟨o,e,d⟩:=T.obj _ _ st5 b hb
    exact (I7.pin (b,o) (List.mem_append_right _ (List.mem_append_right _ (Qi hb e)))).2.1
  refine thF (pg _ s5 σ3 H5 y u _ I5' r5 step') fun _ s6 ⟨σ6,H6,I6,step6⟩=>?_
  refine thF (hq _ s6 _ H6 _ I6 step6) fun b s7 ⟨H7,I7,q7⟩=>?_
  cases b with
  | false =>
   simp only [Bool.false_eq_true,if_false] at q7 ⊢
   obtain ⟨m',hm,w8⟩:=q7
   obtain ⟨t8,f8⟩:=tkeep I7
   exact ⟨m',hm,i+1,ys,its,_,H7,I7.unpinned.unpinned,t8,f8,⟨n3,(dpin I7).1⟩,rv3,hz3,w8⟩
  | true =>
   simp only [if_true] at q7 ⊢
   refine thF (he _ s7 _ H7 _ I7 q7) fun v s8 ⟨vv,H8,I8,r8,hz,m',hm,w8⟩=>?_
   have hlen:=rv3.length
   refine wpAny_list_append_plain ⟨n3,(dpin I8).1⟩ (fun h9 pl9 sb9=>?_) (by rw [List.size_toArray];omega)
   obtain ⟨t8,f8⟩:=tkeep I8
   have st8:=stat f8 D List.mem_cons_self
   have I9:Inv (qO X N' sc cl s.heap.objs.size (D::fp) pins s H) [] σ6 H8 { s8 with heap:=h9 } :=
    I8.unpinned.unpinned.turned (t':=s8.toks) (fun b o hb e=>(sb9.2 b hb).trans e) st8.1 st8.2.1 st8.2.2.2.1 st8.2.2.2.2.1 st8.2.2.2.2.2
   refine ⟨m',hm,i+1,ys++[vv],its++[v],_,H8,I9,T.keep _ _ _ t8 fun b hb o e=>(sb9.2 b (fun z=>hDf (z ▸ hb))).trans e,f8,by simpa using pl9,rv3.append (.cons r8 .nil),?_,w8⟩
   rw [List.length_append,List.length_singleton]
   omega
theorem Yz {E:Value->Shared->Prop}{pins:List (Addr×Obj)}{σ:St}{H:Hp}{s:Shared}{cl:List (Str×Addr)}{fp:List Addr}{it:Addr}{tn:Nat->Heap->Prop}{J:It}{RR:Value->Addr->Result->Shared->Prop}{Qd:V->Hp->Prop}(O:CompOk X N' k sc)
  (I:Inv X pins σ H s) (hcl1:∀ y c,cl.lookup y=some c->X.env.cells.lookup y=some c) (hcl2:∀ y,(y,NameKind.free)∈sc.names->∃ c,cl.lookup y=some c) (hf:∀ b∈fp,FpOk X pins H b)
  (T:Turn X.prog X.w X.K tg J fp it tn) (st:tn 0 s.heap)
  (hg:∀ cl C fp pins s H,PG (qO X N' sc cl C fp pins s H) tg wg) (hq:∀ cl C fp pins s H,PTs (qO X N' sc cl C fp pins s H) ifs tt) (he:∀ cl C fp pins s H,PE (qO X N' sc cl C fp pins s H) elt te)
  (turn:qa2 k J wg tt te σ H Qd)
  (fin:∀ D C s1 H1 m,Inv X pins σ H1 s1->s1.heap.Ns C m->H1 C=none->C≠X.env.locals->(X.s₀.heap.objs.size<=C)->(∀ z c,X.env.cells.lookup z=some c->c≠C)->(∀ p∈X.pn++pins,p.1≠C)->Qd (.ref D) H1->RR (.ref D) C (.ok .next) s1) :
  wpAny (model X.prog X.w) X.A (newList []) (fun acc s₃=>wpAny (model X.prog X.w) X.A (newFunctionEnv sc X.env.globals cl [] X.env.qual none .none (some X.env)) (fun cenv s₄ =>
   codeAny (model X.prog X.w) X.A (.compStart (.ListComp elt [⟨tg,iter,ifs,0⟩] sc pos) 0 (.ref it) acc { cenv with scope:=relabel sc X.env }) (RR acc cenv.locals) s₄) E s₃) E s:=by
 refine wpAny_newObj_type (qbI ?_)
 dsimp only
 have hD:=I.hok.fresh (Nat.le_refl s.heap.objs.size)
 have I3:Inv X pins σ H { s with heap:=s.heap.push { cls:=.type "list", dict:=none,data:=.seq ([]:List Value).toArray } } :=
  I.kept (t':=s.toks) (fun b u e=>Heap.get?_push_of_some _ e)
 have fpl:∀ b∈fp,b<s.heap.objs.size:=fun b hb=>by
  obtain ⟨o,e,_⟩:=T.obj _ _ st b hb
  exact Heap.lt_size e
 have fD:FpOk X pins H s.heap.objs.size:=I.fpOk (Nat.le_refl _) hD
 have hf3:∀ b∈s.heap.objs.size::fp,FpOk X pins H b:=fun b hb=>by
  rcases List.mem_cons.mp hb with rfl|hb
  ·exact fD
  ·exact hf b hb
 have eD:(s.heap.push { cls:=.type "list", dict:=none,data:=.seq ([]:List Value).toArray }).get? s.heap.objs.size=some { cls:=.type "list", dict:=none,data:=.seq ([]:List Value).toArray }:=Heap.get?_push_size _ rfl
 generalize hH2:s.heap.push { cls:=.type "list", dict:=none,data:=.seq ([]:List Value).toArray }=H2 at I3 eD ⊢
 have hC:H2.objs.size=s.heap.objs.size+1:=by rw [← hH2,Heap.size_push]
 have sz2:(H2.push { cls:=.type "dict", data:=.dict #[] }).objs.size=H2.objs.size+1:=Heap.size_push ..
 obtain ⟨a1,a2,a3,a4,a5⟩:=qab H2.objs.size sc.names (H2.push { cls:=.type "dict", data:=.dict #[] }) cl (by omega) (fun y c e q=>by
  obtain ⟨v,z⟩:=I3.cell y c (hcl1 y c e)
  exact Nat.lt_of_lt_of_le z.lt (by rw [sz2];exact Nat.le_succ _)) (fun y z c q e1 e2=>I3.ok.inj y z c (hcl1 _ _ e1) (hcl1 _ _ e2))
 rw [sz2] at a1 a2 a3 a4 a5
 generalize hcl':cellsFrom (H2.objs.size+1) sc.names cl=cl' at a1 a2 a3 a4 a5 ⊢
 have old3:∀ b o,H2.get? b=some o->(pushCells (H2.push { cls:=.type "dict", data:=.dict #[] }) sc.names).get? b=some o:=fun b o e=>pushCells_keeps _ _ _ _ (Heap.get?_push_of_some _ e)
 have hns₁:(pushCells (H2.push { cls:=.type "dict", data:=.dict #[] }) sc.names).Ns H2.objs.size (fun _=>none):=(Heap.Ns.new H2 (.type "dict")).keeps (pushCells_keeps _ _)
 have cK:ClOk X sc cl' H2.objs.size (pushCells (H2.push { cls:=.type "dict", data:=.dict #[] }) sc.names):=by
  have fr:∀ y,sc.names.lookup y=some .free->∃ c,cl'.lookup y=some c/\X.env.cells.lookup y=some c:=fun y e=>by
   obtain ⟨c,q⟩:=hcl2 y (PySem.mem_of_lookup e)
   refine ⟨c,?_,hcl1 y c q⟩
   rw [a4 y fun z=>by have:=O.cells _ z rfl;rw [e] at this;cases this]
   exact q
  have ol:∀ y c,cl'.lookup y=some c->X.env.cells.lookup y=some c\/(H2.objs.size<c/\∃ v,(pushCells (H2.push { cls:=.type "dict", data:=.dict #[] }) sc.names).IsCell c v):=fun y c e=>by
   rcases a1 y c e with z|⟨z1,z2⟩
   ·exact .inl (hcl1 y c z)
   ·exact .inr ⟨by omega,none,z2⟩
  refine ⟨ol,fr,fun y e=>?_,fun y z c e1 e2=>?_⟩
  ·obtain ⟨c,q1,q2⟩:=a3 y (PySem.mem_of_lookup e)
   exact ⟨c,q1,by omega⟩
  ·by_cases hc:H2.objs.size<=c
   ·exact a5 y z c hc e1 e2
   ·rcases ol y c e1 with q|q
    ·rcases ol z c e2 with r|r
     ·exact I3.ok.inj y z c q r
     ·omega
    ·omega
 generalize pushCells (H2.push { cls:=.type "dict", data:=.dict #[] }) sc.names=h₁ at *
 have old2:∀ b o,s.heap.get? b=some o->H2.get? b=some o:=fun b o e=>hH2 ▸ Heap.get?_push_of_some _ e
 obtain ⟨W,⟨m0,w0⟩,tr⟩:=turn
 have st1:tn 0 h₁:=T.keep _ _ _ st fun b _ o e=>old3 b o (old2 b o e)
 have loop:codeAny (model X.prog X.w) X.A (.compLoop (.ListComp elt [⟨tg,iter,ifs,0⟩] sc pos) 0 (.ref it) (.ref s.heap.objs.size) (compEnvC sc cl' H2.objs.size X.env)) (RR (.ref s.heap.objs.size) H2.objs.size)
   { s with heap:=h₁ }:=by
  refine Wj (s:={ s with heap:=H2 }) (s':={ s with heap:=h₁ }) (Qd:=fun ys H'=>∀ D,H' D=none->Qd (.ref D) (upd H' D (.lst ys))) O I3 cK hf3 (fun b hb=>?_) rfl rfl old3 hns₁ T (fun z=>Nat.lt_irrefl _ (fpl _ z)) st1 ⟨0,old3 _ _ eD⟩ (hg _ _ _ _ _ _) (hq _ _ _ _ _ _) (he _ _ _ _ _ _) W m0 w0 tr ?_
  ·show b<H2.objs.size
   rw [hC]
   rcases List.mem_cons.mp hb with hb|hb
   ·rw [hb];exact Nat.lt_succ_self _
   ·exact Nat.lt_succ_of_lt (fpl b hb)
  intro s1 H1 σ1 ys its J1 hD1 pl1 rv1 hz1 q1
  obtain ⟨m,hn1,_⟩:=J1.loc
  obtain ⟨n1,e1⟩:=pl1
  have I4:=(comp_back I3 hf3 J1).track (D:=s.heap.objs.size) (o:=.lst ys) hD1 fD.2.1 fD.2.2.2.1 fD.2.2.2.2.1 fD.2.2.2.2.2 ⟨hz1,its,n1,rv1,e1⟩
  refine fin _ _ s1 _ m I4 hn1 (by rw [qJ (by show H2.objs.size≠s.heap.objs.size;omega)];exact J1.free) (Nat.ne_of_gt I3.lt) I3.sz (fun z c e h=>?_) (fun p hp h=>?_) (q1 _ hD1)
  ·obtain ⟨v,q⟩:=I3.cell z c e
   have:=q.lt
   rw [h] at this
   exact Nat.lt_irrefl _ this
  ·have:=Heap.lt_size (I3.pin p hp).1
   rw [h] at this
   exact Nat.lt_irrefl _ this
 exact codeAny_compStart_list loop (T.self _ 0 _ _ _ st1 loop)
theorem qbZ (O:CompOk X N' k sc)(hi:PI X tg iter wi)(hg:∀ cl C fp pins s H,PG (qO X N' sc cl C fp pins s H) tg wg)(hq:∀ cl C fp pins s H,PTs (qO X N' sc cl C fp pins s H) ifs tt)(he:∀ cl C fp pins s H,PE (qO X N' sc cl C fp pins s H) elt te)
  (hs:∀ v,foldedSetIterable iter X.env v=pure v:=by intro _;rfl):PE X (.ListComp elt [⟨tg,iter,ifs,0⟩] sc pos) (qa0 k wi wg tt te):=by
 intro pins s σ H Q I h
 rw [eval_ListComp]
 obtain ⟨cl,hcl,hcl1,hcl2⟩:=Yw (sc:=sc) (env:=X.env) (fun y hy hf=>I.ok.has y.1 (O.free y hy hf))
 refine wpAny_comprehension_free (use:=none) rfl hs hcl O.kind O.names ?_
 refine thn (hi pins s σ H _ I h) fun v s1 h1=>thn h1 fun itv s2 h2=>?_
 obtain ⟨it,fp,tn,J,H2,e,I2,T,st2,f2,q⟩:=h2
 subst e
 refine Yz (RR:=fun acc C=>compPost (model X.prog X.w) X.A X.xe none (EP X pins σ Q) acc C) (Qd:=Q) O I2 hcl1 hcl2 f2 T st2 hg hq he q ?_
 intro D C s3 H3 m I3 hn3 hC3 hL hsz hcl3 hp3 q3
 exact ⟨m,hn3,fun h' sb=>⟨.ref D,H3,I3.turned (t':=s3.toks) (fun b o hb e=>(sb.2 b hb).trans e) hC3 hL (.inr hsz) hcl3 hp3,rfl,q3⟩⟩
end
abbrev K2:=List (Int ⊕ List Int)
def k2D (k:Int ⊕ List Int):PyData:=match k with
 | .inl i=>.int i
 | .inr js=>.tuple (js.map .int)
def k2T (ks:K2):PyData:=.tuple (ks.map k2D)
def k2H (k:Int ⊕ List Int):Int:=match k with
 | .inl i=>hashInt i
 | .inr js=>reduceHash (Builtin.Tuple.tupleHashOf (js.map hashInt))
def qcV (ks:K2):Int:=reduceHash (Builtin.Tuple.tupleHashOf (ks.map k2H))
abbrev KX:=Int ⊕ K2
def kxD (k:KX):PyData:=match k with
 | .inl i=>.int i
 | .inr ks=>k2T ks
def kxV (k:KX)(b:Addr):V:=match k with
 | .inl i=>.int i
 | .inr _=>.ref b
def kxI (k:KX):Bool:=match k with
 | .inl _=>true
 | .inr _=>false
def qcM:PyData->Bool
 | .int _=>true
 | _=>false
abbrev PkT (p:KX×Addr×V)(q:K2×Addr×Value):Prop:=p.1=.inr q.1/\p.2.1=q.2.1/\RelV p.2.2 q.2.2
abbrev PkI (p:KX×Addr×V)(q:Int×Value):Prop:=p.1=.inl q.1/\RelV p.2.2 q.2
abbrev EnI (e:DictEntry)(q:Int×Value):Prop:=e.hash=hashInt q.1/\(∃ t,e.key=.int q.1 t)/\e.val=q.2
def DctT (a:Addr)(kvs:List (KX×Addr×V))(ep:Nat)(h:Heap):Prop :=
 ∃ xs:List (K2×Addr×Value),Paired PkT kvs xs/\∃ o es,h.get? a=some o/\o.ExactDict/\o.data=.dict es ep/\es.toList=xs.map (fun x=>(⟨qcV x.1,.ref x.2.1,x.2.2⟩:DictEntry))/\(xs.map (·.1)).Nodup
def DctI (a:Addr)(kvs:List (KX×Addr×V))(ep:Nat)(h:Heap):Prop :=
 ∃ vs:List (Int×Value),Paired PkI kvs vs/\∃ o es,h.get? a=some o/\o.ExactDict/\o.data=.dict es ep/\Paired EnI es.toList vs/\(vs.map (·.1)).Nodup
def QF (a:Addr)(kvs:List (KX×Addr×V))(ep:Nat)(h:Heap):Prop :=
 kvs.length<=sizeLine/\(a==sysModules)=false/\(DctT a kvs ep h\/DctI a kvs ep h)
def DctO (a:Addr)(kvs:List (KX×Addr×V))(ep:Nat):HO:=.ext (QF a kvs ep)
theorem QF.ok {P:Program}{w:World}{H:Hp}{h:Heap}{a:Addr}{kvs:List (KX×Addr×V)}{ep:Nat}(d:QF a kvs ep h):zE P w H h a (DctO a kvs ep):=by
 refine ⟨d,?_,fun h1 h2 ⟨z,y,e⟩ k=>⟨z,y,e.imp (fun ⟨xs,r,o,es,g1,g2⟩=>⟨xs,r,o,es,k o g1,g2⟩) fun ⟨xs,r,o,es,g1,g2⟩=>⟨xs,r,o,es,k o g1,g2⟩⟩⟩
 obtain ⟨_,_,⟨_,_,o,_,g1,_⟩|⟨_,_,o,_,g1,_⟩⟩:=d
 ·exact ⟨o,g1⟩
 ·exact ⟨o,g1⟩
theorem QF.of {P:Program}{w:World}{H:Hp}{h:Heap}{a:Addr}{kvs:List (KX×Addr×V)}{ep:Nat}(x:zE P w H h a (DctO a kvs ep)):QF a kvs ep h:=x.1
def dkv (kvs:List (KX×Addr×V))(ds:List PyData):List (PyData×PyData):=(kvs.map fun p=>kxD p.1).zip ds
theorem qaU {kvs:List (KX×Addr×V)}{xs:List (K2×Addr×Value)}(r:Paired PkT kvs xs):Vals (kvs.map fun p=>kxV p.1 p.2.1) (xs.map fun x=>Value.ref x.2.1)/\Vals (kvs.map (·.2.2)) (xs.map (·.2.2)):=by
 induction r with
 | nil=>exact ⟨.nil,.nil⟩
 | cons h t ih=>exact ⟨.cons (by dsimp only;rw [h.1,h.2.1];rfl) ih.1,.cons h.2.2 ih.2⟩
theorem Yq:∀ {kvs:List (KX×Addr×V)} {vs:List (Int×Value)} {es:List DictEntry},Paired PkI kvs vs->Paired EnI es vs->Vals (kvs.map fun p=>kxV p.1 p.2.1) (es.map (·.key))/\Vals (kvs.map (·.2.2)) (es.map (·.val))
 | _,_,_,.nil,.nil=>⟨.nil,.nil⟩
 | _,_,_,.cons h t,.cons g u=>by
  obtain ⟨i1,i2⟩:=Yq t u
  obtain ⟨_,⟨tk,g1⟩,g2⟩:=g
  exact ⟨.cons (by dsimp only;rw [h.1,g1];exact ⟨tk,rfl⟩) i1,.cons (by dsimp only;rw [g2];exact h.2) i2⟩
theorem QF.vals {h:Heap}{a:Addr}{kvs:List (KX×Addr×V)}{ep:Nat}(d:QF a kvs ep h):∃ o es,h.get? a=some o/\o.ExactDict/\o.data=.dict es ep/\Vals (kvs.map fun p=>kxV p.1 p.2.1) (es.toList.map (·.key))/\Vals (kvs.map (·.2.2)) (es.toList.map (·.val)):=by
 obtain ⟨_,_,⟨xs,r,o,es,g1,g2,g3,g4,_⟩|⟨vs,r,o,es,g1,g2,g3,g4,_⟩⟩:=d
 ·refine ⟨o,es,g1,g2,g3,?_⟩
  rw [g4,List.map_map,List.map_map]
  exact qaU r
 ·exact ⟨o,es,g1,g2,g3,Yq r g4⟩
theorem QF.int {h:Heap}{a:Addr}{kvs:List (KX×Addr×V)}{ep:Nat}(d:QF a kvs ep h)(hk:∀ p∈kvs,kxI p.1=true):DctI a kvs ep h:=by
 obtain ⟨_,_,⟨xs,r,o,es,g1,g2,g3,g4,g5⟩|d⟩:=d
 ·cases r with
  | nil=>exact ⟨[],.nil,o,es,g1,g2,g3,by rw [g4];exact .nil,List.nodup_nil⟩
  | @cons p q _ _ h t =>
   have:=hk p (.head _)
   rw [h.1] at this
   cases this
 ·exact d
def jh:List String:=["int", "bool", "tuple", "list", "str"]
def xcB (K:PySem.W.Frag)(C:Addr):Bool :=
 (PySem.W.clsIn K C).isSome&&(PySem.W.findIn K (.ref C) "__getattribute__" == some (some (.builtin "BaseException.__getattribute__")))&&(PySem.W.findIn K (.ref C) "__getattr__" == some none)
 && (PySem.W.findIn K (.ref C) "__class__" == some (some (.builtin "object.__class__")))&&(PySem.W.mroIn K C (.type "object")==some true)&&(PySem.W.mroIn K C (.type "BaseException")==some true)
 && jh.all fun T=>PySem.W.kitOne K (.ref C) (.type T)==some false
structure XcK (K:PySem.W.Frag)(C:Addr):Prop where
 cls:(PySem.W.clsIn K C).isSome=true
 ga:PySem.W.findIn K (.ref C) "__getattribute__" = some (some (.builtin "BaseException.__getattribute__"))
 gt:PySem.W.findIn K (.ref C) "__getattr__" = some none
 cl:PySem.W.findIn K (.ref C) "__class__" = some (some (.builtin "object.__class__"))
 mo:PySem.W.mroIn K C (.type "object")=some true
 mb:PySem.W.mroIn K C (.type "BaseException")=some true
 ts:∀ T∈jh,PySem.W.kitOne K (.ref C) (.type T)=some false
theorem yL {K:PySem.W.Frag}{C:Addr}(h:xcB K C=true):XcK K C:=by
 unfold xcB at h
 simp only [Bool.and_eq_true,beq_iff_eq,List.all_eq_true] at h
 obtain ⟨⟨⟨⟨⟨⟨h1,h2⟩,h3⟩,h4⟩,h5⟩,h6⟩,h7⟩:=h
 exact ⟨h1,h2,h3,h4,h5,h6,h7⟩
section
variable {prog:Program}{w:World}{A:Around}{E:Value->Shared->Prop}{s:Shared}{K:PySem.W.Frag}{x C:Addr}
def OfC (h:Heap)(x C:Addr):Prop:=∃ o,h.get? x=some o/\o.cls=.ref C
theorem OfC.ty {h:Heap}{M:Model}(I:OfC h x C):PySem.W.Looks M h (typeOf (.ref x)) (.ref C):=by
 obtain ⟨o,h1,h2⟩:=I
 exact h2 ▸ (PySem.W.Looks.ld h1).andThen .now
open PySem.W in
theorem yu {M:Model}{nameV:Value}{Q:Unit->Shared->Prop}(Z:XcK K C)(X:K.In s.heap)(I:OfC s.heap x C)(hq:Q () s) :
  wpAny M A (checkBuiltinCall "BaseException.__getattribute__" ⟨[.ref x,nameV],[]⟩) Q E s:=by
 obtain ⟨hh,g,d,t,os⟩:=s
 have hk:builtinKind "BaseException.__getattribute__" = some .slot:=by decide +kernel
 have hs:splitId "BaseException.__getattribute__" = some ("BaseException", "__getattribute__"):=by decide +kernel
 have L0:=I.ty (M:=M)
 have L1:=looks_mroIn (M:=M) X Z.mb
 have ha:=F.args_bexc_ga (.ref x) nameV
 simp only [checkBuiltinCall,hk,hs]
 refine wpAny_bind ?_
 unfold isInstance
 repeat (first|with_reducible refine Looks.at (by assumption) ?_|wp_step)
 exact hq
open PySem.W in
theorem JQ {R:Result->Shared->Prop}(Z:XcK K C)(X:K.In s.heap)(I:OfC s.heap x C)(hq:R (.ok (.ret (.ref C))) s) :
  codeAny (model prog w) A (.call (.builtin "getset_descriptor.__get__") ⟨[.builtin "object.__class__", .ref x,.ref C],[]⟩) R s:=by
 obtain ⟨hh,g,d,t,os⟩:=s
 have hT5:(⟨hh,g,d,t,os⟩:Shared).TypeIs (.builtin "object.__class__") "getset_descriptor" := F.typeOf_object_class
 have L0:=I.ty (M:=model prog w)
 have L1:Looks (model prog w) hh (isSubtype (.ref C) (.type (".".intercalate ("object.__class__".cutAt '.').dropLast))) true:=by
  rw [F.owner_object_class]
  exact looks_mroIn (M:=model prog w) X Z.mo
 refine codeAny_call_builtin F.slot_gs_get.plain F.entry_gs_get (F.slot_gs_get.check _ _ _ _ _ _ _ _ hT5 (F.args_gs_get _ _ _) ?_)
 repeat (any_goals (first|assumption|with_reducible refine Looks.at (by assumption) ?_|wp_step))
 refine ⟨Code.quiet_builtin _ (by decide +kernel),codeAny_builtin F.entry_object_class ?_⟩
 repeat (any_goals (first|assumption|with_reducible refine Looks.at (by assumption) ?_|wp_step))
open PySem.W in
theorem jZ {tk:Tok}{Q:Fin->Shared->Prop}(Z:XcK K C)(X:K.In s.heap)(I:OfC s.heap x C)(hq:Q (.done (.ret (.ref C))) s) :
  wpAny (model prog w) A (Builtin.«object.__getattribute__» ⟨[.ref x,.str "__class__" tk],[]⟩) Q E s:=by
 obtain ⟨hh,g,d,t,os⟩:=s
 have hT5:(⟨hh,g,d,t,os⟩:Shared).TypeIs (.builtin "object.__class__") "getset_descriptor" := F.typeOf_object_class
 have L0:=I.ty (M:=model prog w)
 have L1:=looks_findIn (M:=model prog w) X Z.cl
 have f5:=F.typeOf_object_class;have f6:=F.slot_gs_get.lookup;have f7:=F.slot_gs_set.lookup
 repeat (any_goals (first|assumption|with_reducible refine Looks.at (by assumption) ?_|wp_step))
 refine JQ Z X I ?_
 repeat (any_goals (first|assumption|wp_step))
open PySem.W in
theorem yt {tk:Tok}{Q:Value->Shared->Prop}(Z:XcK K C)(X:K.In s.heap)(I:OfC s.heap x C)(hq:Q (.ref C) s) :
  wpAny (model prog w) A (getAttrBy (.ref x) (.str "__class__" tk) false) Q E s:=by
 obtain ⟨hh,g,d,t,os⟩:=s
 have L0:=I.ty (M:=model prog w)
 have L1:=looks_findIn (M:=model prog w) X Z.ga
 have L2:=looks_findIn (M:=model prog w) X Z.gt
 have f3:=F.excAttr_ValueError.ga.bind (.ref x)
 have hx2:(Value.builtin "BaseException.__getattribute__" == Value.builtin "object.__getattribute__")=false:=by decide +kernel
 have hx1:(onTheHeap (Value.ref C)&&Value.builtin "BaseException.__getattribute__" == Value.builtin "object.__getattribute__")=false:=by rw [hx2];exact Bool.and_false _
 repeat (any_goals (first|assumption|with_reducible refine Looks.at (by assumption) ?_|wp_step))
 refine codeAny_call_builtin F.excAttr_ValueError.ga.plain F.entry_bexc_ga (yu Z X I (jZ Z X I ?_))
 repeat (any_goals (first|assumption|wp_step))
open PySem.W in
theorem Wm {Q:Option Value->Shared->Prop}(Z:XcK K C)(X:K.In s.heap)(I:OfC s.heap x C)(hq:Q (some (.ref C)) { s with toks:=s.toks+1 }) :
  wpAny (model prog w) A (getAttr? (.ref x) "__class__") Q E s:=by
 obtain ⟨hh,g,d,t,os⟩:=s
 unfold getAttr? getAttrBy?
 refine wpAny_bind (wpAny_mkText (wpAny_bind (wpAny_attempt (yt (s:=⟨hh,g,d,t+1,os⟩) Z X I ?_))))
 exact wpAny_pure hq
end
open PySem.W in
theorem Jx {K:Frag}{a C:Addr}(Z:XcK K C):KitX K (.ref a) (.ref C) (fun h=>OfC h a C) where
 ty:=fun _ _ _ I=>I.ty
 it:=fun _ _ X _=>by
  have z:=Z.cls
  unfold clsIn at z
  split at z
  ·rename_i c' d' cd' sl' ho
   intro A' Q' E' s' k q;unfold isType loadHead
   exact wpAny_bind (wpAny_loadPart (k _ _ (X _ _ ho)) (wpAny_pure q))
  ·cases z
 ne:=fun h tp dd its n sl X htp=>by
  have z:=Z.cls
  refine Bool.eq_false_iff.mpr fun q=>?_
  have e:C=tp:=Value.ref.inj (beq_iff_eq.mp q)
  subst e;unfold clsIn at z
  split at z
  ·rename_i c' d' cd' sl' ho
   have y:=(X _ _ ho).symm.trans htp
   cases y
  ·cases z
 ca:=fun X I k=>Wm Z X I k
def icB (K:PySem.W.Frag)(C:Addr):Bool :=
 PySem.W.plainGet K C Str.empty&&PySem.W.hasDictIn K C&&PySem.W.plainOver K C&&(PySem.W.findIn K (.ref C) "__setattr__" == some (some (.builtin "object.__setattr__")))
 && (PySem.W.findIn K (.ref C) "__class__" == some (some (.builtin "object.__class__")))&&(PySem.W.specialIn K (.builtin "object.__class__") "__get__" == some (some (.builtin "getset_descriptor.__get__")))
 && (PySem.W.takesIn K (.builtin "object.__class__")==some true)&&(PySem.W.mroIn K C (.type "object")==some true)&&jh.all fun T=>PySem.W.kitOne K (.ref C) (.type T)==some false
structure IcK (K:PySem.W.Frag)(C:Addr):Prop where
 cl:Cls K C
 ha:PySem.W.findIn K (.ref C) "__class__" = some (some (.builtin "object.__class__"))
 hn:PySem.W.specialIn K (.builtin "object.__class__") "__get__" = some (some (.builtin "getset_descriptor.__get__"))
 tk:PySem.W.takesIn K (.builtin "object.__class__")=some true
 mo:PySem.W.mroIn K C (.type "object")=some true
 ts:∀ T∈jh,PySem.W.kitOne K (.ref C) (.type T)=some false
theorem Jp {K:PySem.W.Frag}{C:Addr}(h:icB K C=true):IcK K C:=by
 unfold icB at h
 simp only [Bool.and_eq_true,beq_iff_eq,List.all_eq_true] at h
 obtain ⟨⟨⟨⟨⟨⟨⟨⟨h1,h2⟩,h3⟩,h4⟩,h5⟩,h6⟩,h7⟩,h8⟩,h9⟩:=h
 exact ⟨⟨h1,h2,h3,h4⟩,h5,h6,h7,h8,h9⟩
theorem IcK.ty {K:PySem.W.Frag}{H:Hp}{a C dx:Addr}{fs:List (Str×V)}(Z:IcK K C)(e:H a=some (.ins C dx fs)):TyOf K H (.ref a) (.ref C):=.ins e Z.cl Z.ha Z.hn Z.tk Z.mo
abbrev Av:=Addr->Prop
def jj:HO->Bool
 | .lst _=>true
 | .dK _=>true
 | .dT _=>true
 | .ext _=>true
 | _=>false
def Dm (S:Av)(H:Hp):Prop:=∀ a,S a->∃ o,H a=some o/\jj o=true
def Off (S:Av)(H H':Hp):Prop:=∀ b o,¬ S b->H b=some o->H' b=some o
def KqL (K:PySem.W.Frag)(a:Addr)(xs:List V):Prop:=∃ (o:Obj) (its:Array Value) (n:Nat),K.lookup a=some o/\o.cls=.type "list"/\o.dict=none/\o.data=.seq its n/\its.size<=sizeLine/\Vals xs its.toList
def SqLS (K:PySem.W.Frag)(H:Hp)(S:Av)(a:Addr)(xs:List V):Prop:=(Rd H a (.lst xs)/\¬ S a)\/KqL K a xs
def ExcO (K:PySem.W.Frag)(o:Obj)(c:Str):Prop:=∃ C vs,o.cls=.ref C/\o.data=.fields vs/\PySem.W.nsIn K mainGlobals c=some (some (.ref C))/\xcB K C=true
def excD (c:Str)(d:PyData):PyData:=.dict [(.str c,d),(.int 0,.none)]
def excK:List (PyData×PyData)->Bool
 | (.str _,_)::_=>true
 | _=>false
theorem Jl {kvs:List (KX×Addr×V)}{ds:List PyData}:excK (dkv kvs ds)=false:=by
 cases kvs with
 | nil=>rfl
 | cons p ps =>
  cases ds with
  | nil=>rfl
  | cons d ds=>obtain ⟨k|k,_⟩:=p<;>rfl
def objD (c:Str):PyData:=.dict [(.str c,.none),(.int 1,.none)]
mutual
inductive Den (K:PySem.W.Frag)(H:Hp)(S:Av):V->PyData->Prop
 | none:Den K H S .non .none
 | bool (b:Bool):Den K H S (.bl b) (.bool b)
 | int (i:Int):Den K H S (.int i) (.int i)
 | str (x:Str):Den K H S (.str x) (.str x)
 | list {a:Addr} {xs:List V} {ds:List PyData}:SqLS K H S a xs->DenL K H S xs ds->Den K H S (.ref a) (.list ds)
 | tuple {a:Addr} {xs:List V} {ds:List PyData}:SqT K H a xs->DenL K H S xs ds->Den K H S (.ref a) (.tuple ds)
 | dict {a:Addr} {kvs:List (KX×Addr×V)} {ep:Nat} {ds:List PyData}:(H a=some (DctO a kvs ep)/\¬ S a)->DenL K H S (kvs.map fun p=>kxV p.1 p.2.1) (kvs.map fun p=>kxD p.1)->DenL K H S (kvs.map (·.2.2)) ds->Den K H S (.ref a) (.dict (dkv kvs ds))
 | exc0 {a:Addr} {o:Obj} {c:Str}:H a=some (.frz o (.own a))->ExcO K o c->Den K H S (.ref a) (excD c .none)
 | exc1 {a dx:Addr} {o:Obj} {c n:Str} {v:V} {d:PyData}:H a=some (.frz o (.own a))->ExcO K o c->o.dict=some dx->H dx=some (.xd [(n,v)])->Den K H S v d->Den K H S (.ref a) (excD c (.tuple [.str n,d]))
 | ins {a dx C:Addr} {c:Str}:H a=some (.ins C dx [])->(PySem.W.nsIn K mainGlobals c=some (some (.ref C))/\icB K C=true)->Den K H S (.ref a) (objD c)
inductive DenL (K:PySem.W.Frag)(H:Hp)(S:Av):List V->List PyData->Prop
 | nil:DenL K H S [] []
 | cons {x:V} {d:PyData} {xs:List V} {ds:List PyData}:Den K H S x d->DenL K H S xs ds->DenL K H S (x::xs) (d::ds)
end
mutual
def flat:PyData->Bool
 | .none=>true
 | .bool _=>true
 | .int _=>true
 | .str _=>true
 | .list _=>false
 | .tuple ds=>qah ds
 | .dict _=>false
def qah:List PyData->Bool
 | []=>true
 | d::ds=>flat d&&qah ds
end
section
variable {K:PySem.W.Frag}{H H':Hp}{S S':Av}
theorem SqLS.sq {a:Addr}{xs:List V}(h:SqLS K H S a xs):SqL K H a xs:=h.imp (·.1) id
theorem SqLS.new {a:Addr}{xs:List V}(h:H a=some (.lst xs))(n:¬ S a):SqLS K H S a xs:=.inl ⟨.inl h,n⟩
theorem Dm.free {p:Addr}(m:Dm S H)(h:H p=none):¬ S p:=fun q=>by
 obtain ⟨o,e,_⟩:=m p q
 rw [h] at e;cases e
theorem Dm.same (e:Same H H')(m:Dm S H):Dm S H':=fun a q=>by
 obtain ⟨o,h,w⟩:=m a q
 exact ⟨o,e a o h,w⟩
theorem Dm.sub (m:Dm S H)(h:∀ a,S' a->S a):Dm S' H:=fun a q=>m a (h a q)
theorem Dm.tup {a:Addr}{xs:List V}(m:Dm S H)(h:Rd H a (.tup xs)):¬ S a:=fun q=>by
 obtain ⟨o,e,w⟩:=m a q
 rcases h with h|⟨u,h⟩
 ·rw [h] at e;cases e;cases w
 ·rw [h] at e;cases e;cases w
theorem Dm.not {a:Addr}{u:HO}(m:Dm S H)(h:H a=some u)(n:jj u=false):¬ S a:=fun q=>by
 obtain ⟨o,e,w⟩:=m a q
 rw [h] at e;cases e;rw [n] at w;cases w
theorem Rd.off {a:Addr}{o:HO}(e:Off S H H')(n:¬ S a)(h:Rd H a o):Rd H' a o:=by
 rcases h with h|⟨u,h⟩
 ·exact .inl (e _ _ n h)
 ·exact .inr ⟨u,e _ _ n h⟩
theorem Rd.dom {a:Addr}{o:HO}(h:Rd H a o):H a≠none:=by
 rcases h with h|⟨u,h⟩<;>(rw [h];exact fun z=>nomatch z)
theorem Same.off (e:Same H H'):Off S H H':=fun b o _ h=>e b o h
theorem SqT.upd {a p:Addr}{o:HO}{xs:List V}(h:SqT K H a xs)(hn:H p=none):SqT K (upd H p o) a xs:=by
 rcases h with (h|⟨o',h⟩)|h
 ·exact .inl (.inl (by rw [qJ (qQ h hn)];exact h))
 ·exact .inl (.inr ⟨o',by rw [qJ (qQ h hn)];exact h⟩)
 ·exact .inr h
theorem Same.sqT {a:Addr}{xs:List V}(e:Same H H')(h:SqT K H a xs):SqT K H' a xs:=by
 rcases h with (h|⟨o,h⟩)|h
 ·exact .inl (.inl (e _ _ h))
 ·exact .inl (.inr ⟨o,e _ _ h⟩)
 ·exact .inr h
theorem Same.lay {p:Addr}{o:HO}(hn:H p=none):Same H (L2.upd H p o):=fun b u q=>by rw [qJ (qQ q hn)];exact q
theorem Same.lay' {H0:Hp}{p:Addr}{o:HO}(e:Same H0 H)(hn:H p=none):Same H0 (L2.upd H p o):=e.trans (Same.lay hn)
mutual
theorem Den.off (m:Dm S H)(e:Off S H H'):∀ {v:V} {d:PyData},Den K H S v d->Den K H' S v d
 | _,_,.none=>.none
 | _,_,.bool b=>.bool b
 | _,_,.int i=>.int i
 | _,_,.str x=>.str x
 | _,_,.list h t=>.list (h.imp (fun q=>⟨q.1.off e q.2,q.2⟩) id) (DenL.off m e t)
 | _,_,.tuple h t=>.tuple (h.imp (fun q=>q.off e (m.tup q)) id) (DenL.off m e t)
 | _,_,.dict h k t=>.dict ⟨e _ _ h.2 h.1,h.2⟩ (DenL.off m e k) (DenL.off m e t)
 | _,_,.exc0 h o=>.exc0 (e _ _ (m.not h rfl) h) o
 | _,_,.exc1 h o x y t=>.exc1 (e _ _ (m.not h rfl) h) o x (e _ _ (m.not y rfl) y) (Den.off m e t)
 | _,_,.ins h o=>.ins (e _ _ (m.not h rfl) h) o
theorem DenL.off (m:Dm S H)(e:Off S H H'):∀ {vs:List V} {ds:List PyData},DenL K H S vs ds->DenL K H' S vs ds
 | _,_,.nil=>.nil
 | _,_,.cons h t=>.cons (Den.off m e h) (DenL.off m e t)
end
mutual
theorem Den.same (e:Same H H'):∀ {v:V} {d:PyData},Den K H S v d->Den K H' S v d
 | _,_,.none=>.none
 | _,_,.bool b=>.bool b
 | _,_,.int i=>.int i
 | _,_,.str x=>.str x
 | _,_,.list h t=>.list (h.imp (fun q=>⟨q.1.off (S:=S) e.off q.2,q.2⟩) id) (DenL.same e t)
 | _,_,.tuple h t=>.tuple (e.sqT h) (DenL.same e t)
 | _,_,.dict h k t=>.dict ⟨e _ _ h.1,h.2⟩ (DenL.same e k) (DenL.same e t)
 | _,_,.exc0 h o=>.exc0 (e _ _ h) o
 | _,_,.exc1 h o x y t=>.exc1 (e _ _ h) o x (e _ _ y) (Den.same e t)
 | _,_,.ins h o=>.ins (e _ _ h) o
theorem DenL.same (e:Same H H'):∀ {vs:List V} {ds:List PyData},DenL K H S vs ds->DenL K H' S vs ds
 | _,_,.nil=>.nil
 | _,_,.cons h t=>.cons (Den.same e h) (DenL.same e t)
end
mutual
theorem Den.sub (e:∀ a,H a≠none->S' a->S a):∀ {v:V} {d:PyData},Den K H S v d->Den K H S' v d
 | _,_,.none=>.none
 | _,_,.bool b=>.bool b
 | _,_,.int i=>.int i
 | _,_,.str x=>.str x
 | _,_,.list h t=>.list (h.imp (fun q=>⟨q.1,fun z=>q.2 (e _ q.1.dom z)⟩) id) (DenL.sub e t)
 | _,_,.tuple h t=>.tuple h (DenL.sub e t)
 | _,_,.dict h k t=>.dict ⟨h.1,fun z=>h.2 (e _ (by rw [h.1];exact fun y=>nomatch y) z)⟩ (DenL.sub e k) (DenL.sub e t)
 | _,_,.exc0 h o=>.exc0 h o
 | _,_,.exc1 h o x y t=>.exc1 h o x y (Den.sub e t)
 | _,_,.ins h o=>.ins h o
theorem DenL.sub (e:∀ a,H a≠none->S' a->S a):∀ {vs:List V} {ds:List PyData},DenL K H S vs ds->DenL K H S' vs ds
 | _,_,.nil=>.nil
 | _,_,.cons h t=>.cons (Den.sub e h) (DenL.sub e t)
end
theorem DenL.length:∀ {vs:List V} {ds:List PyData},DenL K H S vs ds->vs.length=ds.length
 | _,_,.nil=>rfl
 | _,_,.cons _ t=>by rw [List.length_cons,List.length_cons,t.length]
theorem DenL.snoc:∀ {vs:List V} {ds:List PyData} {v:V} {d:PyData},DenL K H S vs ds->Den K H S v d->DenL K H S (vs++[v]) (ds++[d])
 | _,_,_,_,.nil,h=>.cons h .nil
 | _,_,_,_,.cons h t,q=>.cons h (t.snoc q)
theorem DenL.append:∀ {vs ws:List V} {ds es:List PyData},DenL K H S vs ds->DenL K H S ws es->DenL K H S (vs++ws) (ds++es)
 | _,_,_,_,.nil,h=>h
 | _,_,_,_,.cons h t,q=>.cons h (t.append q)
theorem DenL.get:∀ {vs:List V} {ds:List PyData} {i:Nat} {d:PyData},DenL K H S vs ds->ds[i]?=some d->∃ v,vs[i]?=some v/\Den K H S v d
 | _,_,_,_,.nil,e=>by simp at e
 | _,_,0,_,.cons h _,e=>by simp at e;subst e;exact ⟨_,rfl,h⟩
 | _,_,i+1,d,.cons _ t,e=>by
  obtain ⟨v,h1,h2⟩:=DenL.get (i:=i) (d:=d) t (by simpa using e)
  exact ⟨v,by simpa using h1,h2⟩
theorem DenL.drop:∀ {vs:List V} {ds:List PyData} (n:Nat),DenL K H S vs ds->DenL K H S (vs.drop n) (ds.drop n)
 | _,_,0,h=>h
 | _,_,_+1,.nil=>.nil
 | _,_,n+1,.cons _ t=>t.drop n
theorem DenL.take:∀ {vs:List V} {ds:List PyData} (n:Nat),DenL K H S vs ds->DenL K H S (vs.take n) (ds.take n)
 | _,_,0,_=>.nil
 | _,_,_+1,.nil=>.nil
 | _,_,n+1,.cons h t=>.cons h (t.take n)
theorem DenL.ints:∀ ns:List Int,DenL K H S (ns.map V.int) (ns.map PyData.int)
 | []=>.nil
 | n::ns=>.cons (.int n) (DenL.ints ns)
theorem Den.int_inv {v:V}{i:Int}(h:Den K H S v (.int i)):v=.int i:=by cases h;rfl
theorem Den.bool_inv {v:V}{b:Bool}(h:Den K H S v (.bool b)):v=.bl b:=by cases h;rfl
theorem Den.list_inv {v:V}{ds:List PyData}(h:Den K H S v (.list ds)):∃ a xs,v=.ref a/\SqLS K H S a xs/\DenL K H S xs ds:=by
 cases h with
 | list h t=>exact ⟨_,_,rfl,h,t⟩
theorem DenL.inv1 {vs:List V}{d:PyData}(h:DenL K H S vs [d]):∃ v,vs=[v]/\Den K H S v d:=by
 cases h with
 | cons a t=>cases t;exact ⟨_,rfl,a⟩
end
section
variable {X:Cx}{pins:List (Addr×Obj)}{σ:St}{H:Hp}{s:Shared}{S:Av}
mutual
theorem Den.reads (I:Inv X pins σ H s):∀ {v:V} {d:PyData} {u:Value},Den X.K H S v d->d.canLay0=true->RelV v u->∃ as,Reads s.heap u d as
 | _,_,u,.none,_,r=>by cases (show u=Value.none from r);exact ⟨_,.none⟩
 | _,_,u,.bool b,_,r=>by cases (show u=Value.bool b from r);exact ⟨_,.bool b⟩
 | _,_,u,.int i,_,r=>by obtain ⟨t,e⟩:=(show ∃ t,u=Value.int i t from r);cases e;exact ⟨_,.int i t⟩
 | _,_,u,.str x,_,r=>by obtain ⟨t,e⟩:=(show ∃ t,u=Value.str x t from r);cases e;exact ⟨_,.str x t⟩
 | _,_,u,@Den.list _ _ _ a xs ds h t,c0,r=>by
  cases (show u=Value.ref a from r)
  obtain ⟨its,rv,⟨o,n,e,c,_,d⟩,_⟩:=I.list h.sq
  obtain ⟨as,q⟩:=DenL.reads I t (by rw [PyData.canLay0] at c0;exact c0) rv
  exact ⟨_,.list e c d (by simpa using q)⟩
 | _,_,u,@Den.tuple _ _ _ a xs ds h t,c0,r=>by
  cases (show u=Value.ref a from r)
  obtain ⟨its,rv,⟨o,e,c,n,d⟩,_⟩:=I.tuple h
  obtain ⟨as,q⟩:=DenL.reads I t (by rw [PyData.canLay0] at c0;exact c0) rv
  exact ⟨_,.tuple e c d (by simpa using q)⟩
 | _,_,u,.dict h k t,c0,r=>by rw [PyData.canLay0] at c0;cases c0
 | _,_,u,.exc0 h o,c0,r=>by unfold excD at c0;rw [PyData.canLay0] at c0;cases c0
 | _,_,u,.exc1 h o x y t,c0,r=>by unfold excD at c0;rw [PyData.canLay0] at c0;cases c0
 | _,_,u,.ins h o,c0,r=>by unfold objD at c0;rw [PyData.canLay0] at c0;cases c0
theorem DenL.reads (I:Inv X pins σ H s):∀ {vs:List V} {ds:List PyData} {us:List Value},DenL X.K H S vs ds->PyData.canLayAll0 ds=true->Vals vs us->∃ as,ReadsAll s.heap us ds as
 | _,_,_,.nil,_,.nil=>⟨_,.nil⟩
 | _,_,_,.cons h t,c0,.cons r rr=>by
  rw [PyData.canLayAll0,Bool.and_eq_true] at c0
  obtain ⟨as,q⟩:=Den.reads I h c0.1 r
  obtain ⟨bs,q'⟩:=DenL.reads I t c0.2 rr
  exact ⟨_,.cons q q'⟩
end
end
section
variable {X:Cx}{pins:List (Addr×Obj)}{σ:St}{H:Hp}{s:Shared}
def rEqD (K:PySem.W.Frag):R2:=fun x y H Q=>∃ S d e,Den K H S x d/\Den K H S y e/\SeqAt.shaped d=true/\SeqAt.shaped e=true/\Q (.bl (PyData.eqv d e)) H
def rNeD (K:PySem.W.Frag):R2:=fun x y H Q=>∃ S d e,Den K H S x d/\Den K H S y e/\SeqAt.shaped d=true/\SeqAt.shaped e=true/\Q (.bl (!PyData.eqv d e)) H
theorem qc8 {k:Nat}(hr:Room k X.A):OpR X (compareOp .Eq) (rEqD X.K):=by
 intro pins s σ H x y v u Q I rx ry h
 obtain ⟨S,d,e,h1,h2,s1,s2,q⟩:=h
 obtain ⟨as,q1⟩:=h1.reads I (SeqAt.canLay_of_shaped s1) rx
 obtain ⟨bs,q2⟩:=h2.reads I (SeqAt.canLay_of_shaped s2) ry
 exact eq_dataH q1 q2 s1 s2 hr.units (Jm I q rfl)
theorem qda {k:Nat}(hr:Room k X.A):OpR X (compareOp .NotEq) (rNeD X.K):=by
 intro pins s σ H x y v u Q I rx ry h
 obtain ⟨S,d,e,h1,h2,s1,s2,q⟩:=h
 obtain ⟨as,q1⟩:=h1.reads I (SeqAt.canLay_of_shaped s1) rx
 obtain ⟨bs,q2⟩:=h2.reads I (SeqAt.canLay_of_shaped s2) ry
 exact ne_dataH q1 q2 s1 s2 hr.units (Jm I q rfl)
theorem qbP:OpR X (binaryOp .Mult) (rI IntMulOk fun i j=>.int (i*j)):=opI fun _ _ _ _ _ _ _ hc q=>mul_int q hc
inductive TyD (K:PySem.W.Frag)(H:Hp):V->String->Prop
 | non:TyD K H .non "NoneType"
 | bl (b:Bool):TyD K H (.bl b) "bool"
 | int (i:Int):TyD K H (.int i) "int"
 | str (x:Str):TyD K H (.str x) "str"
 | lst {a:Addr} {xs:List V} (h:SqL K H a xs):TyD K H (.ref a) "list"
 | tup {a:Addr} {xs:List V} (h:SqT K H a xs):TyD K H (.ref a) "tuple"
 | dct {a:Addr} {kvs:List (KX×Addr×V)} {ep:Nat} (h:H a=some (DctO a kvs ep)):TyD K H (.ref a) "dict"
def rIsi (K:PySem.W.Frag):List V->Hp->VK->Prop:=fun vs H Q=>∃ x T t b,vs=[x,.ty T]/\TyD K H x t/\PySem.W.kitOne K (.type t) (.type T)=some b/\Q (.bl b) H
theorem W9:QD X (.builtin "isinstance") (rIsi X.K):=by
 intro pins s σ H xs us Q I r h
 obtain ⟨x,T,t,b,rfl,ty,e,q⟩:=h
 obtain ⟨u,c,rfl,ru,rc⟩:=r.two
 cases (show c=Value.type T from rc)
 have fin:∀ tk,EP X pins σ Q (.bool b) { s with toks:=tk }:=fun tk=>⟨.bl b,H,I.tok tk,rfl,q⟩
 cases ty with
 | non=>cases (show u=Value.none from ru);exact PySem.W.kia_one PySem.W.kitx_none I.kIn True.intro e (fun z=>nomatch z) fin
 | bl y=>cases (show u=Value.bool y from ru);exact PySem.W.kia_one PySem.W.kitx_bool I.kIn True.intro e (fun z=>nomatch z) fin
 | int i=>obtain ⟨t,q⟩:=(show ∃ t,u=Value.int i t from ru);cases q;exact PySem.W.kia_one PySem.W.kitx_int I.kIn True.intro e (fun z=>nomatch z) fin
 | str y=>obtain ⟨t,q⟩:=(show ∃ t,u=Value.str y t from ru);cases q;exact PySem.W.kia_one PySem.W.kitx_str I.kIn True.intro e (fun z=>nomatch z) fin
 | @lst a xs ea =>
  cases (show u=Value.ref a from ru)
  obtain ⟨_,_,⟨o,n,h1,h2,_⟩,_⟩:=I.list ea
  exact PySem.W.kia_one PySem.W.kitx_list I.kIn ⟨o,h1,h2⟩ e (fun z=>nomatch z) fin
 | @tup a xs ea =>
  cases (show u=Value.ref a from ru)
  obtain ⟨_,_,⟨o,h1,h2,_⟩,_⟩:=I.tuple ea
  exact PySem.W.kia_one PySem.W.kitx_tuple I.kIn ⟨o,h1,h2⟩ e (fun z=>nomatch z) fin
 | @dct a kvs ep ea =>
  cases (show u=Value.ref a from ru)
  obtain ⟨o,_,h1,h2,_⟩:=(QF.of (I.hok a _ ea)).vals
  exact PySem.W.kia_one PySem.W.kitx_dict I.kIn ⟨o,h1,h2.1⟩ e (fun z=>nomatch z) fin
def ExcH (K:PySem.W.Frag)(H:Hp)(a:Addr)(c:Str):Prop:=∃ o,H a=some (.frz o (.own a))/\ExcO K o c
theorem Den.exc {K:PySem.W.Frag}{S:Av}{v:V}{c:Str}{d:PyData}(h:Den K H S v (excD c d)):∃ a,v=.ref a/\ExcH K H a c:=by
 generalize hd:excD c d=x at h
 cases h with
 | @dict a kvs ep ds h k t =>
  have:excK (dkv kvs ds)=true:=by
   have:=PyData.dict.inj hd
   rw [← this];rfl
  rw [Jl] at this
  cases this
 | exc0 h o=>cases hd;exact ⟨_,rfl,_,h,o⟩
 | exc1 h o x y t=>cases hd;exact ⟨_,rfl,_,h,o⟩
 | _=>cases hd
theorem Inv.excAt {a:Addr}{c:Str}(I:Inv X pins σ H s)(h:ExcH X.K H a c):∃ C,PySem.W.nsIn X.K mainGlobals c=some (some (.ref C))/\xcB X.K C=true/\OfC s.heap a C:=by
 obtain ⟨o,ha,C,vs,h1,h2,h3,h4⟩:=h
 exact ⟨C,h3,h4,o,(I.hok a _ ha).1,h1⟩
def qcv (K:PySem.W.Frag):List V->Hp->VK->Prop:=fun vs H Q=>∃ a c T b,vs=[.ref a,.ty T]/\ExcH K H a c/\(∀ C,xcB K C=true->PySem.W.kitOne K (.ref C) (.type T)=some b)/\Q (.bl b) H
theorem Wi:QD X (.builtin "isinstance") (qcv X.K):=by
 intro pins s σ H xs us Q I r h
 obtain ⟨a,c,T,b,rfl,hx,e,q⟩:=h
 obtain ⟨u,c',rfl,ru,rc⟩:=r.two
 cases (show c'=Value.type T from rc)
 cases (show u=Value.ref a from ru)
 obtain ⟨C,_,h4,IA⟩:=I.excAt hx
 exact PySem.W.kia_one (Jx (yL h4)) I.kIn IA (e C h4) (fun z=>nomatch z) fun tk=>⟨.bl b,H,I.tok tk,rfl,q⟩
theorem Den.ins_inv {K:PySem.W.Frag}{S:Av}{v:V}{c:Str}(h:Den K H S v (objD c)):∃ a dx C,v=.ref a/\H a=some (.ins C dx [])/\PySem.W.nsIn K mainGlobals c=some (some (.ref C))/\icB K C=true:=by
 generalize hd:objD c=x at h
 cases h with
 | @dict a kvs ep ds h k t =>
  have:excK (dkv kvs ds)=true:=by
   have:=PyData.dict.inj hd
   rw [← this];rfl
  rw [Jl] at this
  cases this
 | ins h o=>cases hd;exact ⟨_,_,_,rfl,h,o.1,o.2⟩
 | _=>cases hd
def qcu (K:PySem.W.Frag):List V->Hp->VK->Prop:=fun vs H Q=>∃ a C dx T b,vs=[.ref a,.ty T]/\H a=some (.ins C dx [])/\icB K C=true/\PySem.W.kitOne K (.ref C) (.type T)=some b/\Q (.bl b) H
theorem Wg:QD X (.builtin "isinstance") (qcu X.K):=by
 intro pins s σ H xs us Q I r h
 obtain ⟨a,C,dx,T,b,rfl,hx,hc,e,q⟩:=h
 obtain ⟨u,c',rfl,ru,rc⟩:=r.two
 cases (show c'=Value.type T from rc)
 exact Qz I ru ((Jp hc).ty hx) e fun tk=>⟨.bl b,H,I.tok tk,rfl,q⟩
end
abbrev Rho:=List (Option PyData)
def DenS (K:PySem.W.Frag)(H:Hp)(S:Av)(M:List Nat)(σ:St)(ρ:Rho):Prop:=Dm S H/\σ.length=ρ.length/\∀ (i:Nat) (d:PyData),i∉M->ρ[i]?=some (some d)->∃ v,σ[i]?=some (some v)/\Den K H S v d
section
variable {K:PySem.W.Frag}{H H':Hp}{S:Av}{M:List Nat}{σ:St}{ρ:Rho}{v:V}{d:PyData}
theorem DenS.same (e:Same H H')(h:DenS K H S M σ ρ):DenS K H' S M σ ρ:=⟨h.1.same e,h.2.1,fun i d n q=>let ⟨v,a,b⟩:=h.2.2 i d n q;⟨v,a,b.same e⟩⟩
theorem DenS.set (h:DenS K H S M σ ρ)(q:Den K H S v d)(i:Nat):DenS K H S M (σ.set i (some v)) (ρ.set i (some d)):=by
 refine ⟨h.1,by rw [List.length_set,List.length_set];exact h.2.1,fun j e n he=>?_⟩
 by_cases hj:i=j
 ·subst hj
  by_cases hi:i<ρ.length
  ·rw [List.getElem?_set_self hi] at he
   cases he
   exact ⟨v,List.getElem?_set_self (by rw [h.2.1];exact hi),q⟩
  ·rw [List.set_eq_of_length_le (by omega)] at he
   exact absurd (List.getElem?_eq_some_iff.mp he).1 hi
 ·rw [List.getElem?_set_ne hj] at he
  obtain ⟨w,a,b⟩:=h.2.2 j e n he
  exact ⟨w,by rw [List.getElem?_set_ne hj];exact a,b⟩
theorem DenS.start {vs:List V}{ds:List PyData}(m:Dm S H)(h:DenL K H S vs ds)(N:List Str):DenS K H S [] (start N vs) (ds.map some++List.replicate (N.length-ds.length) none):=by
 have hl:=h.length
 refine ⟨m,?_,fun j e _ he=>?_⟩
 ·unfold L2.start
  rw [List.length_append,List.length_append,List.length_map,List.length_map,List.length_replicate,List.length_replicate,hl]
 ·by_cases hj:j<ds.length
  ·rw [List.getElem?_append_left (by simpa using hj),List.getElem?_map] at he
   cases e1:ds[j]? with
   | none=>rw [e1] at he;cases he
   | some d =>
    rw [e1] at he
    cases he
    obtain ⟨v,a,b⟩:=h.get e1
    refine ⟨v,?_,b⟩
    unfold L2.start
    rw [List.getElem?_append_left (by rw [List.length_map];omega),List.getElem?_map,a]
    rfl
  ·rw [List.getElem?_append_right (by simpa using hj),List.getElem?_replicate] at he
   split at he<;>cases he
end
def tD (K:PySem.W.Frag)(M:List Nat)(f:Rho->Option PyData):TE:=fun σ H Q=>∃ S ρ d,DenS K H S M σ ρ/\f ρ=some d/\∀ v H',Same H H'->Den K H' S v d->Q v H'
def tDA (K:PySem.W.Frag)(M:List Nat)(f:Rho->Option (List PyData)):TA:=fun σ H Q=>∃ S ρ ds,DenS K H S M σ ρ/\f ρ=some ds/\∀ vs H',Same H H'->DenL K H' S vs ds->Q vs H'
def tDT (K:PySem.W.Frag)(M:List Nat)(f:Rho->Option Bool):TT:=fun σ H Q=>∃ S ρ b,DenS K H S M σ ρ/\f ρ=some b/\∀ H',Same H H'->Q b H'
inductive Out where
 | nx (ρ:Rho)|rt (d:PyData)|bk (ρ:Rho)|ct (ρ:Rho)
def PD (X:Cx)(M:List Nat)(e:Expr)(f:Rho->Option PyData):Prop:=PE X e (tD X.K M f)
def PDA (X:Cx)(M:List Nat)(es:List Expr)(f:Rho->Option (List PyData)):Prop:=PA X es (tDA X.K M f)
def PDT (X:Cx)(M:List Nat)(e:Expr)(f:Rho->Option Bool):Prop:=PT X e (tDT X.K M f)
theorem PE.weak {X:Cx}{e:Expr}{t t':TE}(h:PE X e t)(w:∀ σ H Q,t' σ H Q->t σ H Q):PE X e t':=fun pins s σ H Q I q=>h pins s σ H Q I (w σ H Q q)
theorem PT.weak {X:Cx}{e:Expr}{t t':TT}(h:PT X e t)(w:∀ σ H Q,t' σ H Q->t σ H Q):PT X e t':=fun pins s σ H Q I q=>h pins s σ H Q I (w σ H Q q)
theorem PW.weak {X:Cx}{e:Expr}{t t':TT}(h:PW X e t)(w:∀ σ H Q,t' σ H Q->t σ H Q):PW X e t':=fun wh pins s σ H Q I q=>h wh pins s σ H Q I (w σ H Q q)
theorem PA.weak {X:Cx}{e:List Expr}{t t':TA}(h:PA X e t)(w:∀ σ H Q,t' σ H Q->t σ H Q):PA X e t':=fun pos pins s σ H Q I q=>h pos pins s σ H Q I (w σ H Q q)
theorem PS.weak {X:Cx}{e:Stmt}{t t':TS}(h:PS X e t)(w:∀ D σ H,t' D σ H->t D σ H):PS X e t':=fun pins s σ H D I q=>h pins s σ H D I (w D σ H q)
theorem PSs.weak {X:Cx}{e:List Stmt}{t t':TS}(h:PSs X e t)(w:∀ D σ H,t' D σ H->t D σ H):PSs X e t':=fun pins s σ H D I q=>h pins s σ H D I (w D σ H q)
def ob {α β:Type}(a:Option α)(f:α->Option β):Option β:=match a with | some x=>f x|none=>none
theorem ql {α β:Type}{a:Option α}{f:α->Option β}{y:β}(h:ob a f=some y):∃ x,a=some x/\f x=some y:=by
 cases a with
 | none=>cases h
 | some x=>exact ⟨x,rfl,h⟩
def visB (sc:Scope)(x:Str):Bool:=decide (sc.names.lookup x=some .local)||decide (sc.names.lookup x=some .cell)||decide (sc.names.lookup x=some .free)
def locB (sc:Scope)(x:Str):Bool:=decide (sc.names.lookup x=some .local)||decide (sc.names.lookup x=some .cell)
def glB (sc:Scope)(x:Str):Bool:=decide (sc.names.lookup x=some .globalImplicit)
theorem qa8 {sc:Scope}{x:Str}(h:visB sc x=true):Vis sc x:=by
 unfold visB at h
 simp only [Bool.or_eq_true,decide_eq_true_eq] at h
 rcases h with (h|h)|h
 ·exact .inl h
 ·exact .inr (.inl h)
 ·exact .inr (.inr h)
theorem qat {sc:Scope}{x:Str}(h:locB sc x=true):Loc sc x:=by
 unfold locB at h
 simp only [Bool.or_eq_true,decide_eq_true_eq] at h
 exact h
theorem gl_fn {X:Cx}{x:Str}(sc:Scope)(hs:X.env.scope=sc)(h:glB sc x=true):Gl X x:=by
 subst hs
 have h':X.env.scope.names.lookup x=some .globalImplicit:=of_decide_eq_true h
 exact h'
theorem QQ {env:Env}:∀ {names:List (Str×NameKind)} {x:Str} {k:NameKind},names.lookup x=some k->
  (names.map fun (n,k)=>if (k==NameKind.free&&env.scope.kind==.function&&env.kindOf n==some .cell) then (n,NameKind.cell) else (n,k)).lookup x=some k\/
  (k=.free/\(names.map fun (n,k)=>if (k==NameKind.free&&env.scope.kind==.function&&env.kindOf n==some .cell) then (n,NameKind.cell) else (n,k)).lookup x=some .cell)
 | [],_,_,h=>by simp at h
 | (n,k')::r,x,k,h=>by
  have ih:=@QQ env r x k
  show List.lookup x ((if (k'==NameKind.free&&env.scope.kind==.function&&env.kindOf n==some .cell)=true then (n,NameKind.cell) else (n,k'))::_)=_\/(_/\List.lookup x ((if (k'==NameKind.free&&env.scope.kind==.function&&env.kindOf n==some .cell)=true then (n,NameKind.cell) else (n,k'))::_)=_)
  cases hx:x==n with
  | true =>
   simp only [List.lookup_cons,hx] at h
   cases h
   by_cases hc:(k'==NameKind.free&&env.scope.kind==.function&&env.kindOf n==some .cell)=true
   ·rw [if_pos hc]
    rw [Bool.and_eq_true,Bool.and_eq_true] at hc
    exact .inr ⟨by simpa using hc.1.1,by simp [List.lookup_cons,hx]⟩
   ·rw [if_neg hc]
    exact .inl (by simp [List.lookup_cons,hx])
  | false =>
   simp only [List.lookup_cons,hx] at h
   by_cases hc:(k'==NameKind.free&&env.scope.kind==.function&&env.kindOf n==some .cell)=true
   ·rw [if_pos hc]
    simp only [List.lookup_cons,hx]
    exact ih h
   ·rw [if_neg hc]
    simp only [List.lookup_cons,hx]
    exact ih h
section
variable {X:Cx}{x:Str}{N':List Str}{sc:Scope}{cl:List (Str×Addr)}{C:Addr}{fp:List Addr}{pins:List (Addr×Obj)}{s:Shared}{H:Hp}
theorem qR (h:visB sc x=true):Vis (qO X N' sc cl C fp pins s H).env.scope x:=by
 rcases qa8 h with h|h|h
 ·rcases QQ (env:=X.env) h with q|q
  ·exact .inl q
  ·cases q.1
 ·rcases QQ (env:=X.env) h with q|q
  ·exact .inr (.inl q)
  ·cases q.1
 ·rcases QQ (env:=X.env) h with q|q
  ·exact .inr (.inr q)
  ·exact .inr (.inl q.2)
theorem yw (h:glB sc x=true):Gl (qO X N' sc cl C fp pins s H) x:=by
 rcases QQ (env:=X.env) (of_decide_eq_true h) with q|q
 ·exact q
 ·cases q.1
end
def vr (i:Nat):Rho->Option PyData:=fun ρ=>(ρ[i]?).join
def kd (d:PyData):Rho->Option PyData:=fun _=>some d
def ev1 (fa:Rho->Option PyData)(g:PyData->Option PyData):Rho->Option PyData:=fun ρ=>ob (fa ρ) g
def aN:Rho->Option (List PyData):=fun _=>some []
def aC (fa:Rho->Option PyData)(fs:Rho->Option (List PyData)):Rho->Option (List PyData):=fun ρ=>ob (fa ρ) fun x=>ob (fs ρ) fun xs=>some (x::xs)
def evA (fs:Rho->Option (List PyData))(h:List PyData->Option PyData):Rho->Option PyData:=fun ρ=>ob (fs ρ) h
def evC (n:Nat)(fs:Rho->Option (List PyData))(h:List PyData->Option PyData):Rho->Option PyData:=fun ρ=>ob (fs ρ) fun ds=>if ds.length=n then h ds else none
def evC0 (h:List PyData->Option PyData):Rho->Option PyData:=fun _=>h []
section
variable {X:Cx}{M:List Nat}{a b c:Expr}{es:List Expr}{f g fa fb:Rho->Option PyData}{pos:Pos}
theorem qd (i:Nat){x:Str}(hv:Vis X.env.scope x)(hM:i∉M)(hN:X.N[i]?=some x:=by rfl)(hd:(x==("__debug__" : Str))=false:=by decide +kernel)
  (hcd:(x==("__classdict__" : Str))=false:=by decide +kernel):PD X M (.Name x pos) (vr i) :=
 (qaO hN hv hd hcd).weak fun σ H Q ⟨S,ρ,d,hs,e,q⟩=>by
  have e:(ρ[i]?).join=some d:=e
  have e':ρ[i]?=some (some d):=by
   cases h:ρ[i]? with
   | none=>rw [h] at e;cases e
   | some o=>rw [h] at e;exact congrArg some e
  obtain ⟨v,h1,h2⟩:=hs.2.2 i d hM e'
  exact ⟨v,h1,q v H (Same.refl H) h2⟩
theorem qe {i j p}:PD X M (.Constant (.int i) j p) (kd (.int i)):=qdh.weak fun σ H Q ⟨S,_,d,_,e,q⟩=>by cases e;exact q _ H (Same.refl H) (.int i)
theorem Zx {i j p}:PD X M (.Constant (.bool i) j p) (kd (.bool i)):=pe_bl.weak fun σ H Q ⟨S,_,d,_,e,q⟩=>by cases e;exact q _ H (Same.refl H) (.bool i)
theorem qaD {j p}:PD X M (.Constant .none j p) (kd .none):=qdi.weak fun σ H Q ⟨S,_,d,_,e,q⟩=>by cases e;exact q _ H (Same.refl H) .none
theorem JD {i j p}:PD X M (.Constant (.str i) j p) (kd (.str i)):=qdm.weak fun σ H Q ⟨S,_,d,_,e,q⟩=>by cases e;exact q _ H (Same.refl H) (.str i)
theorem qbT {x:Str}{v:V}{u:Value}{d:PyData}(hg:Gl X x)(hm:X.mg x=some u)(r:RelV v u)(hd:∀ H S,Den X.K H S v d)(hdb:(x==("__debug__" : Str))=false:=by decide +kernel):PD X M (.Name x pos) (kd d) :=
 (Ja hg hm r hdb).weak fun σ H Q ⟨S,_,d',_,e,q⟩=>by cases e;exact q _ H (Same.refl H) (hd H S)
def rD2 (K:PySem.W.Frag)(g:PyData->PyData->Option PyData):R2:=fun x y H Q=>∃ S dx dy d,Dm S H/\Den K H S x dx/\Den K H S y dy/\g dx dy=some d/\∀ v H',Same H H'->Den K H' S v d->Q v H'
def OpD (X:Cx)(f:Value->Value->Sem Value)(g:PyData->PyData->Option PyData):Prop:=OpR X f (rD2 X.K g)
def UnD (X:Cx)(f:Value->Sem Value)(g:PyData->Option PyData):Prop:=UnR X f (fun x H Q=>∃ S dx d,Dm S H/\Den X.K H S x dx/\g dx=some d/\∀ v H',Same H H'->Den X.K H' S v d->Q v H')
def CallD (X:Cx)(f:Value)(g:List PyData->Option PyData):Prop:=QD X f (fun vs H Q=>∃ S ds d,Dm S H/\DenL X.K H S vs ds/\g ds=some d/\∀ v H',Same H H'->Den X.K H' S v d->Q v H')
def ev2 (fa fb:Rho->Option PyData)(g:PyData->PyData->Option PyData)(ρ:Rho):Option PyData:=ob (fa ρ) fun x=>ob (fb ρ) fun y=>g x y
theorem tD2 {K:PySem.W.Frag}{g:PyData->PyData->Option PyData}:∀ σ H Q,tD K M (ev2 fa fb g) σ H Q->tOp (rD2 K g) (tD K M fa) (tD K M fb) σ H Q:=by
 intro σ H Q ⟨S,ρ,d,hs,e,q⟩
 obtain ⟨x,e1,e⟩:=ql e
 obtain ⟨y,e2,e⟩:=ql e
 exact ⟨S,ρ,x,hs,e1,fun v H1 g1 d1=>⟨S,ρ,y,hs.same g1,e2,fun w H2 g2 d2=>⟨S,x,y,d,hs.1.same (g1.trans g2),d1.same g2,d2,e,fun z H3 g3 d3=>q z H3 (g1.trans (g2.trans g3)) d3⟩⟩⟩
theorem qD {op:Operator}{g:PyData->PyData->Option PyData}(ho:OpD X (binaryOp op) g)(ha:PD X M a fa)(hb:PD X M b fb):PD X M (.BinOp a op b pos) (ev2 fa fb g):=(pe_op ho ha hb).weak tD2
theorem qaA {op:CmpOp}{g:PyData->PyData->Option PyData}(ho:OpD X (compareOp op) g)(ha:PD X M a fa)(hb:PD X M b fb)(hm:behindInMarks op b=false):PD X M (.Compare a [op] [b] pos) (ev2 fa fb g):=(qbY ho ha hb hm).weak tD2
theorem Zh {op:UnaryOp}{g:PyData->Option PyData}(ho:UnD X (unaryOp op) g)(ha:PD X M a fa):PD X M (.UnaryOp op a pos) (ev1 fa g) :=
 (pe_un ho ha).weak fun σ H Q ⟨S,ρ,d,hs,e,q⟩=>by
  obtain ⟨x,e1,e⟩:=ql e
  exact ⟨S,ρ,x,hs,e1,fun v H1 g1 d1=>⟨S,x,d,hs.1.same g1,d1,e,fun z H3 g3 d3=>q z H3 (g1.trans g3) d3⟩⟩
def ixD:PyData->PyData->Option PyData
 | .tuple ds,.int i=>atI ds i
 | .list ds,.int i=>atI ds i
 | _,_=>none
theorem DenL.atI {K:PySem.W.Frag}{H:Hp}{S:Av}{vs:List V}{ds:List PyData}{i:Int}{d:PyData}(h:DenL K H S vs ds)(e:atI ds i=some d):∃ v,L2.atI vs i=some v/\Den K H S v d:=by
 unfold L2.atI at e ⊢
 rw [h.length]
 cases q:ixN ds.length i with
 | none=>rw [q] at e;cases e
 | some j=>rw [q] at e;exact h.get e
theorem qH (ha:PD X M a fa)(hb:PD X M b fb)(hs:wj b:=by intro _ _;rfl):PD X M (.Subscript a b pos) (ev2 fa fb ixD) :=
 (pe_ix (r:=fun x y H Q=>rIxL X.K x y H Q\/rIxT X.K x y H Q) (qbB.or qcT) ha hb hs).weak fun σ H Q ⟨S,ρ,d,hs,e,q⟩=>by
  obtain ⟨x,e1,e⟩:=ql e
  obtain ⟨y,e2,e⟩:=ql e
  refine ⟨S,ρ,x,hs,e1,fun v H1 g1 d1=>⟨S,ρ,y,hs.same g1,e2,fun w H2 g2 d2=>?_⟩⟩
  have d1':=d1.same g2
  cases d1' with
  | list h t =>
   cases d2 with
   | int i=>obtain ⟨z,z1,z2⟩:=t.atI e;exact .inl ⟨_,_,_,_,rfl,rfl,h.sq,z1,q z H2 (g1.trans g2) z2⟩
   | _=>cases e
  | tuple h t =>
   cases d2 with
   | int i=>obtain ⟨z,z1,z2⟩:=t.atI e;exact .inr ⟨_,_,_,_,rfl,rfl,h,z1,q z H2 (g1.trans g2) z2⟩
   | _=>cases e
  | _=>cases e
theorem qg:PDA X M [] aN:=Jz.weak fun σ H Q ⟨S,_,d,_,e,q⟩=>by cases e;exact q [] H (Same.refl H) .nil
theorem qb {fs:Rho->Option (List PyData)}(ha:PD X M a fa)(hr:PDA X M es fs)(hs:starEach (a::es) X.env=(false,eval a X.env)::starEach es X.env:=by rfl):PDA X M (a::es) (aC fa fs) :=
 (QZ ha hr hs).weak fun σ H Q ⟨S,ρ,d,hs,e,q⟩=>by
  obtain ⟨x,e1,e⟩:=ql e
  obtain ⟨xs,e2,e⟩:=ql e
  cases e
  exact ⟨S,ρ,x,hs,e1,fun v H1 g1 d1=>⟨S,ρ,xs,hs.same g1,e2,fun vs H2 g2 d2=>q _ H2 (g1.trans g2) (.cons (d1.same g2) d2)⟩⟩
def tupD (ds:List PyData):Option PyData:=if ds.length<=1000 then some (.tuple ds) else none
def lstD (ds:List PyData):Option PyData:=if ds.length<=1000 then some (.list ds) else none
theorem WW {ds:List PyData}{d:PyData}(h:tupD ds=some d):ds.length<=1000/\d=.tuple ds:=by
 unfold tupD at h
 split at h
 ·rename_i q;cases h;exact ⟨q,rfl⟩
 ·cases h
theorem J9 {ds:List PyData}{d:PyData}(h:lstD ds=some d):ds.length<=1000/\d=.list ds:=by
 unfold lstD at h
 split at h
 ·rename_i q;cases h;exact ⟨q,rfl⟩
 ·cases h
theorem qY {fs:Rho->Option (List PyData)}{x1}(h:PDA X M es fs):PD X M (.Tuple es x1 pos) (evA fs tupD) :=
 (qaN h).weak fun σ H Q ⟨S,ρ,d,hs,e,q⟩=>by
  obtain ⟨xs,e1,e⟩:=ql e
  obtain ⟨hz,rfl⟩:=WW e
  refine ⟨S,ρ,xs,hs,e1,fun vs H1 g1 d1=>⟨Nat.le_of_lt (zB (by rw [d1.length];exact hz)),fun p hp=>?_⟩⟩
  exact q _ _ (g1.lay' hp) (.tuple (SqT.of qN) (d1.same (Same.lay hp)))
theorem JC {fs:Rho->Option (List PyData)}(h:PDA X M es fs):PD X M (.List es pos) (evA fs lstD) :=
 (qaL h).weak fun σ H Q ⟨S,ρ,d,hs,e,q⟩=>by
  obtain ⟨xs,e1,e⟩:=ql e
  obtain ⟨hz,rfl⟩:=J9 e
  refine ⟨S,ρ,xs,hs,e1,fun vs H1 g1 d1=>⟨Nat.le_of_lt (zB (by rw [d1.length];exact hz)),fun p hp=>?_⟩⟩
  exact q _ _ (g1.lay' hp) (.list (SqLS.new qN ((hs.1.same g1).free hp)) (d1.same (Same.lay hp)))
def spF (K:PySem.W.Frag)(n:Nat)(f:List PyData->Option PyData):Sp:=fun vs H Q _=>∃ S ds d,Dm S H/\DenL K H S vs ds/\ds.length=n/\f ds=some d/\∀ v H',Same H H'->Den K H' S v d->Q v H'
theorem qbS {CX:CXT}{k n:Nat}{fn:Addr}{fd:FuncData}{ps:List Str}{h:List PyData->Option PyData}{E:XK}{x:Str}{p:Pos}{fs:Rho->Option (List PyData)}(F:FnOk X.prog X.w X.K X.mg X.base CX k fn fd ps (spF X.K n h))(hr:Room k X.A)(hg:Gl X x)(hm:X.mg x=some (.ref fn))(hk:PySem.W.keepIn X.K (.ref fn)=true)
  (hb:Binds X.K fd ps []) (hx:yo CX X E) (ha:PDA X M (a::es) fs) (hl:(a::es).length=n) (hdb:(x==("__debug__" : Str))=false:=by decide +kernel) (he:starEach (a::es) X.env=(false,eval a X.env)::starEach es X.env:=by rfl) (hpl:(backTo pos (starEach es X.env)).any (·.1)=false:=by rfl) :
  PD X M (.Call (.Name x p) (a::es) [] pos) (evC n fs h) :=
 (qbX F hr hg hm hk hb .nil hx ha hdb he hpl).weak fun σ H Q ⟨S,ρ,d,hs,e,q⟩=>by
  obtain ⟨ds,e1,e⟩:=ql e
  have e:(if ds.length=n then h ds else none)=some d:=e
  split at e
  ·rename_i hn
   exact ⟨S,ρ,ds,hs,e1,fun vs H1 g1 d1=>⟨S,ds,d,hs.1.same g1,by rw [List.append_nil];exact d1,hn,e,fun v H' g2 d2=>q v H' (g1.trans g2) d2⟩⟩
  ·cases e
theorem Q5 {id:String}{x:Str}{p:Pos}{h:List PyData->Option PyData}{fs:Rho->Option (List PyData)}(hc:CallD X (.builtin id) h)(hg:Gl X x)(hm:X.mg x=none)(hv:bootBuiltins x=some (.builtin id))(ha:PDA X M (a::es) fs)(hn:x ≠ "__name__" := by decide +kernel)(hdb:(x==("__debug__" : Str))=false:=by decide +kernel)
  (he:starEach (a::es) X.env=(false,eval a X.env)::starEach es X.env:=by rfl) (hpl:(backTo pos (starEach es X.env)).any (·.1)=false:=by rfl):PD X M (.Call (.Name x p) (a::es) [] pos) (evA fs h) :=
 (jq hc hg hm hv ha hn hdb he hpl).weak fun σ H Q ⟨S,ρ,d,hs,e,q⟩=>by
  obtain ⟨ds,e1,e⟩:=ql e
  exact ⟨S,ρ,ds,hs,e1,fun vs H1 g1 d1=>⟨S,ds,d,hs.1.same g1,d1,e,fun v H' g2 d2=>q v H' (g1.trans g2) d2⟩⟩
theorem ZQ {T:String}{x:Str}{p:Pos}{h:List PyData->Option PyData}{fs:Rho->Option (List PyData)}(hc:CallD X (.type T) h)(hg:Gl X x)(hm:X.mg x=none)(hv:bootBuiltins x=some (.type T))(ha:PDA X M (a::es) fs)(hn:x ≠ "__name__" := by decide +kernel)(hdb:(x==("__debug__" : Str))=false:=by decide +kernel)
  (he:starEach (a::es) X.env=(false,eval a X.env)::starEach es X.env:=by rfl) (hpl:(backTo pos (starEach es X.env)).any (·.1)=false:=by rfl):PD X M (.Call (.Name x p) (a::es) [] pos) (evA fs h) :=
 (WN hc hg hm hv ha hn hdb he hpl).weak fun σ H Q ⟨S,ρ,d,hs,e,q⟩=>by
  obtain ⟨ds,e1,e⟩:=ql e
  exact ⟨S,ρ,ds,hs,e1,fun vs H1 g1 d1=>⟨S,ds,d,hs.1.same g1,d1,e,fun v H' g2 d2=>q v H' (g1.trans g2) d2⟩⟩
def tyS:PyData->String
 | .none => "NoneType" | .bool _ => "bool" | .int _ => "int" | .str _ => "str" | .list _ => "list" | .tuple _ => "tuple" | .dict _ => "dict"
def isiT (T:String):PyData->Bool
 | .none=>T == "NoneType" || T == "object"
 | .bool _=>T == "bool" || T == "int" || T == "object"
 | .int _=>T == "int" || T == "object"
 | .str _=>T == "str" || T == "object"
 | .list _=>T == "list" || T == "object"
 | .tuple _=>T == "tuple" || T == "object"
 | .dict _=>T == "dict" || T == "object"
def isiD (T:String)(d:PyData):Option PyData:=some (.bool (isiT T d))
def Y7 (K:PySem.W.Frag)(T:String):Prop:=∀ d:PyData,PySem.W.kitOne K (.type (tyS d)) (.type T)=some (isiT T d)
theorem wH (K:PySem.W.Frag):Y7 K "int" := fun d=>by cases d<;>rfl
theorem Yg (K:PySem.W.Frag):Y7 K "bool" := fun d=>by cases d<;>rfl
theorem kit_tuple (K:PySem.W.Frag):Y7 K "tuple" := fun d=>by cases d<;>rfl
theorem wD {K:PySem.W.Frag}{T:String}{C:Addr}{c:Str}{d:PyData}(hT:T∈jh)(h:xcB K C=true):PySem.W.kitOne K (.ref C) (.type T)=some (isiT T (excD c d)):=by
 rw [(yL h).ts T hT]
 have:(T == "dict" || T == "object")=false:=by
  simp only [jh,List.mem_cons,List.not_mem_nil,or_false] at hT
  rcases hT with rfl|rfl|rfl|rfl|rfl<;>decide +kernel
 exact congrArg some this.symm
theorem qbz {K:PySem.W.Frag}{T:String}{C:Addr}{c:Str}(hT:T∈jh)(h:icB K C=true):PySem.W.kitOne K (.ref C) (.type T)=some (isiT T (objD c)):=by
 rw [(Jp h).ts T hT]
 have:(T == "dict" || T == "object")=false:=by
  simp only [jh,List.mem_cons,List.not_mem_nil,or_false] at hT
  rcases hT with rfl|rfl|rfl|rfl|rfl<;>decide +kernel
 exact congrArg some this.symm
theorem jD {T:String}{p p2:Pos}(kit:Y7 X.K T)(hg:Gl X "isinstance")(hm:X.mg "isinstance" = none)(hgT:Gl X (Str.ofString T))(hmT:X.mg (Str.ofString T)=none)(hvT:bootBuiltins (Str.ofString T)=some (.type T))(hv:bootBuiltins "isinstance" = some (.builtin "isinstance"))(ha:PD X M a fa)(hnT:Str.ofString T ≠ "__name__" := by decide +kernel)(hdT:(Str.ofString T==("__debug__" : Str))=false:=by decide +kernel)(hT:T∈jh:=by decide +kernel)
  (he:starEach [a,.Name (Str.ofString T) p2] X.env=(false,eval a X.env)::starEach [.Name (Str.ofString T) p2] X.env:=by rfl) (hpl:(backTo pos (starEach [.Name (Str.ofString T) p2] X.env)).any (·.1)=false:=by rfl)
  (hs2:starEach [.Name (Str.ofString T) p2] X.env=(false,eval (.Name (Str.ofString T) p2) X.env)::starEach [] X.env:=by rfl) :
  PD X M (.Call (.Name "isinstance" p) [a,.Name (Str.ofString T) p2] [] pos) (ev1 fa (isiD T)) :=
 (jq (W9.or (Wi.or Wg)) hg hm hv (QZ ha (QZ (wZ (v:=.ty T) hgT hmT hvT rfl hnT hdT) Jz hs2) he) (by decide +kernel) (by decide +kernel) he hpl).weak fun σ H Q ⟨S,ρ,d,hs,e,q⟩=>by
  obtain ⟨x,e1,e⟩:=ql e
  cases e
  refine ⟨S,ρ,x,hs,e1,fun v H1 g1 d1=>?_⟩
  have fin:=q (.bl (isiT T x)) H1 g1 (.bool _)
  have k:=kit x
  show rIsi X.K [v,.ty T] H1 Q\/qcv X.K [v,.ty T] H1 Q\/qcu X.K [v,.ty T] H1 Q
  cases d1 with
  | none=>exact .inl ⟨_,_,_,_,rfl,.non,k,fin⟩
  | bool y=>exact .inl ⟨_,_,_,_,rfl,.bl y,k,fin⟩
  | int y=>exact .inl ⟨_,_,_,_,rfl,.int y,k,fin⟩
  | str y=>exact .inl ⟨_,_,_,_,rfl,.str y,k,fin⟩
  | list h t=>exact .inl ⟨_,_,_,_,rfl,.lst h.sq,k,fin⟩
  | tuple h t=>exact .inl ⟨_,_,_,_,rfl,.tup h,k,fin⟩
  | dict h k2 t=>exact .inl ⟨_,_,_,_,rfl,.dct h.1,k,fin⟩
  | exc0 h o=>exact .inr (.inl ⟨_,_,_,_,rfl,⟨_,h,o⟩,fun C z=>wD hT z,fin⟩)
  | exc1 h o x y t=>exact .inr (.inl ⟨_,_,_,_,rfl,⟨_,h,o⟩,fun C z=>wD hT z,fin⟩)
  | ins h o=>exact .inr (.inr ⟨_,_,_,_,_,rfl,h,o.2,qbz hT o.2,fin⟩)
theorem Z0 {f:Value->Value->Sem Value}{g:PyData->PyData->Option PyData}{r:R2}(h:OpR X f r)(w:∀ x y dx dy d H S (Q:VK),Dm S H->Den X.K H S x dx->Den X.K H S y dy->g dx dy=some d->(∀ v H',Same H H'->Den X.K H' S v d->Q v H')->r x y H Q):OpD X f g :=
 fun pins s σ H x y v u Q I rx ry ⟨S,dx,dy,d,m,h1,h2,e,q⟩=>h pins s σ H x y v u Q I rx ry (w x y dx dy d H S Q m h1 h2 e q)
def iiD (h:Int->Int->Option PyData):PyData->PyData->Option PyData
 | .int i,.int j=>h i j
 | _,_=>none
theorem Jq {h:Int->Int->Option PyData}{x y d:PyData}(e:iiD h x y=some d):∃ i j,x=.int i/\y=.int j/\h i j=some d:=by
 cases x<;>cases y<;>first|exact ⟨_,_,rfl,rfl,e⟩|cases e
theorem qbK {f:Value->Value->Sem Value}{gi:Int->Int->Int}(h:OpR X f (rI0 fun i j=>.int (gi i j))):OpD X f (iiD fun i j=>some (.int (gi i j))) :=
 Z0 h fun x y dx dy d H S Q m h1 h2 e q=>by
  obtain ⟨i,j,rfl,rfl,e⟩:=Jq e
  cases h1;cases h2;cases e
  exact ⟨i,j,rfl,rfl,q _ H (Same.refl H) (.int _)⟩
theorem jl {f:Value->Value->Sem Value}{C:Int->Int->Prop}[∀ i j,Decidable (C i j)]{gi:Int->Int->Int}(h:OpR X f (rI C fun i j=>.int (gi i j))):OpD X f (iiD fun i j=>if C i j then some (.int (gi i j)) else none) :=
 Z0 h fun x y dx dy d H S Q m h1 h2 e q=>by
  obtain ⟨i,j,rfl,rfl,e'⟩:=Jq e
  split at e'
  ·rename_i c
   cases h1;cases h2;cases e'
   exact ⟨i,j,rfl,rfl,c,q _ H (Same.refl H) (.int _)⟩
  ·cases e'
theorem qax {f:Value->Value->Sem Value}{gi:Int->Int->Bool}(h:OpR X f (rI0 fun i j=>.bl (gi i j))):OpD X f (iiD fun i j=>some (.bool (gi i j))) :=
 Z0 h fun x y dx dy d H S Q m h1 h2 e q=>by
  obtain ⟨i,j,rfl,rfl,e⟩:=Jq e
  cases h1;cases h2;cases e
  exact ⟨i,j,rfl,rfl,q _ H (Same.refl H) (.bool _)⟩
instance (i j:Int):Decidable (IntMulOk i j):=by unfold IntMulOk;exact inferInstance
instance (i j:Int):Decidable (CDiv i j):=by unfold CDiv;exact inferInstance
instance (i j:Int):Decidable (CPow i j):=by unfold CPow;exact inferInstance
def subD:PyData->PyData->Option PyData:=iiD fun i j=>some (.int (i-j))
def mulD:PyData->PyData->Option PyData:=iiD fun i j=>if IntMulOk i j then some (.int (i*j)) else none
def QX:PyData->PyData->Option PyData:=iiD fun i j=>if CDiv i j then some (.int (i / j)) else none
def modD:PyData->PyData->Option PyData:=iiD fun i j=>if 0<j then some (.int (i % j)) else none
def powD:PyData->PyData->Option PyData:=iiD fun i j=>if CPow i j then some (.int (i ^ j.toNat)) else none
theorem Q4:OpD X (binaryOp .Sub) subD:=qbK qdc
theorem zq:OpD X (binaryOp .Mult) mulD:=jl qbP
theorem Zv:OpD X (binaryOp .FloorDiv) QX:=jl qbO
theorem QV:OpD X (binaryOp .Mod) modD:=jl (C:=fun _ j=>0<j) qc9
theorem wB:OpD X (binaryOp .Pow) powD:=jl qdb
def leD:PyData->PyData->Option PyData:=iiD fun i j=>some (.bool (decide (i<=j)))
theorem d_le:OpD X (compareOp .LtE) leD:=qax op_le
def eqD (x y:PyData):Option PyData:=if SeqAt.shaped x=true/\SeqAt.shaped y=true then some (.bool (PyData.eqv x y)) else none
def neD (x y:PyData):Option PyData:=if SeqAt.shaped x=true/\SeqAt.shaped y=true then some (.bool (!PyData.eqv x y)) else none
theorem d_eq {k:Nat}(hr:Room k X.A):OpD X (compareOp .Eq) eqD:=Z0 (qc8 hr) fun x y dx dy d H S Q m h1 h2 e q=>by
 unfold eqD at e
 split at e
 ·rename_i c;cases e;exact ⟨S,dx,dy,h1,h2,c.1,c.2,q _ H (Same.refl H) (.bool _)⟩
 ·cases e
theorem d_ne {k:Nat}(hr:Room k X.A):OpD X (compareOp .NotEq) neD:=Z0 (qda hr) fun x y dx dy d H S Q m h1 h2 e q=>by
 unfold neD at e
 split at e
 ·rename_i c;cases e;exact ⟨S,dx,dy,h1,h2,c.1,c.2,q _ H (Same.refl H) (.bool _)⟩
 ·cases e
def negD:PyData->Option PyData
 | .int i=>some (.int (-i))
 | _=>none
theorem Zg:UnD X (unaryOp .USub) negD:=fun pins s σ H x v Q I rx ⟨S,dx,d,m,h1,e,q⟩=>qdQ pins s σ H x v Q I rx (by
 cases h1<;>first|(cases e;exact ⟨_,rfl,q _ H (Same.refl H) (.int _)⟩)|cases e)
def lenD:List PyData->Option PyData
 | [.list ds]=>some (.int ds.length)
 | [.tuple ds]=>some (.int ds.length)
 | _=>none
theorem W0:CallD X (.builtin "len") lenD:=fun pins s σ H xs us Q I r ⟨S,ds,d,m,h1,e,q⟩=>yp pins s σ H xs us Q I r (by
 cases h1 with
 | nil=>cases e
 | cons a t =>
  cases t with
  | cons a' t'=>cases a<;>cases e
  | nil =>
   cases a with
   | list h t=>cases e;exact ⟨_,_,rfl,.inl h.sq,by rw [t.length];exact q _ H (Same.refl H) (.int _)⟩
   | tuple h t=>cases e;exact ⟨_,_,rfl,.inr h,by rw [t.length];exact q _ H (Same.refl H) (.int _)⟩
   | _=>cases e)
def Z2:List PyData->Option PyData
 | [.list ds]=>some (.tuple ds)
 | [.tuple ds]=>some (.tuple ds)
 | _=>none
theorem j6:CallD X (.type "tuple") Z2:=fun pins s σ H xs us Q I r ⟨S,ds,d,m,h1,e,q⟩=>JP pins s σ H xs us Q I r (by
 cases h1 with
 | nil=>cases e
 | cons a t =>
  cases t with
  | cons a' t'=>cases a<;>cases e
  | nil =>
   cases a with
   | list h t=>cases e;exact ⟨_,_,rfl,.inl ⟨h.sq,fun l hl=>q _ _ (Same.lay hl) (.tuple (SqT.of qN) (t.same (Same.lay hl)))⟩⟩
   | tuple h t=>cases e;exact ⟨_,_,rfl,.inr ⟨h,q _ H (Same.refl H) (.tuple h t)⟩⟩
   | _=>cases e)
end
def je:PyData->Option Bool
 | .bool b=>some b
 | _=>none
def tV (f:Rho->Option PyData):Rho->Option Bool:=fun ρ=>ob (f ρ) je
def tN (p:Rho->Option Bool):Rho->Option Bool:=fun ρ=>ob (p ρ) fun b=>some (!b)
def tO (p q:Rho->Option Bool):Rho->Option Bool:=fun ρ=>ob (p ρ) fun c=>if c=true then some true else q ρ
def tT:Rho->Option Bool:=fun _=>some true
def vA (fa fb:Rho->Option PyData):Rho->Option PyData:=fun ρ=>ob (fa ρ) fun x=>ob (je x) fun c=>if c=true then fb ρ else some (.bool false)
def vN (fa:Rho->Option PyData):Rho->Option PyData:=fun ρ=>ob (fa ρ) fun x=>ob (je x) fun c=>some (.bool (!c))
def evI (f:Rho->Option PyData)(h:PyData->Option (List PyData)):Rho->Option (List PyData):=fun ρ=>ob (f ρ) h
def evR (fs:Rho->Option (List PyData))(h:List PyData->Option (List PyData)):Rho->Option (List PyData):=fun ρ=>ob (fs ρ) h
def sN:Rho->Option Out:=fun ρ=>some (.nx ρ)
def sRet (f:Rho->Option PyData):Rho->Option Out:=fun ρ=>ob (f ρ) fun d=>some (.rt d)
def sIf (p:Rho->Option Bool)(u w:Rho->Option Out):Rho->Option Out:=fun ρ=>ob (p ρ) fun b=>if b=true then u ρ else w ρ
def sSet (i:Nat)(f:Rho->Option PyData):Rho->Option Out:=fun ρ=>ob (f ρ) fun d=>some (.nx (ρ.set i (some d)))
def sAsg (f:Rho->Option PyData)(g:PyData->Rho->Option Rho):Rho->Option Out:=fun ρ=>ob (f ρ) fun d=>ob (g d ρ) fun ρ'=>some (.nx ρ')
def gNm (i:Nat):PyData->Rho->Option Rho:=fun d ρ=>some (ρ.set i (some d))
def gsN:List PyData->Rho->Option Rho:=fun ds ρ=>match ds with | []=>some ρ|_=>none
def gsC (g1:PyData->Rho->Option Rho)(g2:List PyData->Rho->Option Rho):List PyData->Rho->Option Rho:=fun ds ρ=>match ds with | d::r=>ob (g1 d ρ) fun ρ'=>g2 r ρ'|[]=>none
def sBk:Rho->Option Out:=fun ρ=>some (.bk ρ)
def sCt:Rho->Option Out:=fun ρ=>some (.ct ρ)
section
variable {X:Cx}{M:List Nat}{a b c:Expr}{es rest:List Expr}{f g fa fb:Rho->Option PyData}{p q:Rho->Option Bool}{pos:Pos}
theorem QJ {d:PyData}{b:Bool}(h:je d=some b):d=.bool b:=by cases d<;>first|(cases h;rfl)|cases h
theorem zM (h:PD X M a f)(he:∀ whole,isTrue a X.env whole=(do let v ← whole;standAt a.pos;holding [v] (truthy v)):=by intro _;rfl):PDT X M a (tV f) :=
 (qdu h he).weak fun σ H Q ⟨S,ρ,d,hs,e,q⟩=>by
  obtain ⟨x,e1,e⟩:=ql e
  cases QJ e
  exact ⟨S,ρ,_,hs,e1,fun v H1 g1 d1=>⟨d,d1.bool_inv,q H1 g1⟩⟩
theorem zb {op:CmpOp}{g:PyData->PyData->Option PyData}(ho:OpD X (compareOp op) g)(ha:PD X M a fa)(hb:PD X M b fb)(hm:behindInMarks op b=false):PDT X M (.Compare a [op] [b] pos) (tV (ev2 fa fb g)) :=
 (qb7 ho ha hb hm).weak fun σ H Q ⟨S,ρ,d,hs,e,q⟩=>by
  obtain ⟨x,e1,e⟩:=ql e
  cases QJ e
  exact tD2 σ H _ ⟨S,ρ,_,hs,e1,fun v H1 g1 d1=>⟨d,d1.bool_inv,q H1 g1⟩⟩
theorem Qg (h:PDT X M a p):PDT X M (.UnaryOp .Not a pos) (tN p) :=
 (qdt h).weak fun σ H Q ⟨S,ρ,d,hs,e,q⟩=>by
  obtain ⟨x,e1,e⟩:=ql e
  cases e
  exact ⟨S,ρ,x,hs,e1,fun H1 g1=>q H1 g1⟩
def PDW (X:Cx)(M:List Nat)(e:Expr)(f:Rho->Option Bool):Prop:=PW X e (tDT X.K M f)
theorem PDW.pdt (h:PDW X M a p):PDT X M a p:=PW.pt h
theorem ZS (h:PDT X M a p):PDW X M (.BoolOp .Or [a] pos) p:=qdv h
theorem Zz (ha:PDT X M a p)(hb:PDW X M (.BoolOp .Or (b::rest) pos) q):PDW X M (.BoolOp .Or (a::b::rest) pos) (tO p q) :=
 (pw_or ha hb).weak fun σ H Q ⟨S,ρ,d,hs,e,w⟩=>by
  obtain ⟨x,e1,e⟩:=ql e
  refine ⟨S,ρ,x,hs,e1,fun H1 g1=>?_⟩
  cases x with
  | true=>cases e;exact iteT (w H1 g1)
  | false=>exact iteF ⟨S,ρ,d,hs.same g1,e,fun H2 g2=>w H2 (g1.trans g2)⟩
theorem Zy {op}(h:PD X M a f):PD X M (.BoolOp op [a] pos) f:=qdk h
theorem QM (ha:PD X M a fa)(hb:PD X M (.BoolOp .And (b::rest) pos) fb):PD X M (.BoolOp .And (a::b::rest) pos) (vA fa fb) :=
 (qdg ha hb).weak fun σ H Q ⟨S,ρ,d,hs,e,w⟩=>by
  obtain ⟨x,e1,e⟩:=ql e
  obtain ⟨c,e2,e⟩:=ql e
  cases QJ e2
  refine ⟨S,ρ,_,hs,e1,fun v H1 g1 d1=>⟨c,d1.bool_inv,?_⟩⟩
  cases c with
  | true=>exact iteT ⟨S,ρ,d,hs.same g1,e,fun v H2 g2 d2=>w v H2 (g1.trans g2) d2⟩
  | false=>cases e;exact iteF (w _ H1 g1 (.bool false))
theorem Z1 (ha:PD X M a fa):PD X M (.UnaryOp .Not a pos) (vN fa) :=
 (qdj ha).weak fun σ H Q ⟨S,ρ,d,hs,e,w⟩=>by
  obtain ⟨x,e1,e⟩:=ql e
  obtain ⟨c,e2,e⟩:=ql e
  cases QJ e2
  cases e
  exact ⟨S,ρ,_,hs,e1,fun v H1 g1 d1=>⟨c,d1.bool_inv,w _ H1 g1 (.bool _)⟩⟩
structure IsIt (K:PySem.W.Frag)(S:Av)(J:It)(H:Hp)(ds:List PyData):Prop where
 go:∀ (i:Nat) (H':Hp),Same H H'->i<ds.length->J.go i H'
 yld:∀ (i:Nat) (H':Hp) (x:V) (H2:Hp),Same H H'->J.yld i H' x H2->Same H' H2/\∀ d,ds[i]?=some d->∀ S':Av,(∀ y e,Den K H S y e->Den K H2 S' y e)->Den K H2 S' x d
 stop:∀ H':Hp,Same H H'->J.stop ds.length H'
theorem IsIt.lst {K:PySem.W.Frag}{H:Hp}{S:Av}{l:Addr}{xs:List V}{ds:List PyData}(h:SqL K H l xs)(t:DenL K H S xs ds):IsIt K S (Itl K l) H ds where
 go:=fun i H' e hi=>by
  have hi':i<xs.length:=by rw [t.length];exact hi
  exact ⟨xs,xs[i],e.seq h,List.getElem?_eq_getElem hi'⟩
 yld:=fun i H' x H2 e ⟨e2,q⟩=>⟨by rw [e2];exact Same.refl _,fun d hd S' w=>by
  obtain ⟨v,h1,h2⟩:=t.get hd
  have:=q xs (e.seq h)
  rw [h1] at this
  cases this
  exact w _ _ h2⟩
 stop:=fun H' e=>⟨xs,e.seq h,by rw [t.length];exact Nat.le_refl _⟩
theorem IsIt.tup {K:PySem.W.Frag}{H:Hp}{S:Av}{l:Addr}{xs:List V}{ds:List PyData}(h:SqT K H l xs)(t:DenL K H S xs ds):IsIt K S (Itt K l) H ds where
 go:=fun i H' e hi=>by
  have hi':i<xs.length:=by rw [t.length];exact hi
  exact ⟨xs,xs[i],e.sqT h,List.getElem?_eq_getElem hi'⟩
 yld:=fun i H' x H2 e ⟨e2,q⟩=>⟨by rw [e2];exact Same.refl _,fun d hd S' w=>by
  obtain ⟨v,h1,h2⟩:=t.get hd
  have:=q xs (e.sqT h)
  rw [h1] at this
  cases this
  exact w _ _ h2⟩
 stop:=fun H' e=>⟨xs,e.sqT h,by rw [t.length];exact Nat.le_refl _⟩
theorem SqLS.off {K:PySem.W.Frag}{H H':Hp}{S:Av}{a:Addr}{xs:List V}(e:Off S H H')(h:SqLS K H S a xs):SqLS K H' S a xs:=h.imp (fun q=>⟨q.1.off e q.2,q.2⟩) id
theorem SqT.off {K:PySem.W.Frag}{H H':Hp}{S:Av}{a:Addr}{xs:List V}(m:Dm S H)(e:Off S H H')(h:SqT K H a xs):SqT K H' a xs:=h.imp (fun q=>q.off e (m.tup q)) id
def rngL:Int->Nat->List PyData
 | _,0=>[]
 | lo,n+1=>.int lo::rngL (lo+1) n
theorem ZC:∀ (lo:Int) (n:Nat),(rngL lo n).length=n
 | _,0=>rfl
 | lo,n+1=>by rw [rngL,List.length_cons,ZC]
theorem Ys:∀ (lo:Int) (n i:Nat) (d:PyData),(rngL lo n)[i]?=some d->d=.int (lo+i)
 | _,0,_,_,h=>by simp [rngL] at h
 | lo,n+1,0,d,h=>by simp [rngL] at h;subst h;simp
 | lo,n+1,i+1,d,h=>by
  have:=Ys (lo+1) n i d (by simpa [rngL] using h)
  rw [this]
  congr 1
  omega
theorem IsIt.rng {K:PySem.W.Frag}{H:Hp}{S:Av}(lo:Int)(n:Nat):IsIt K S (Itr lo n) H (rngL lo n) where
 go:=fun i H' e hi=>by rw [ZC] at hi;exact hi
 yld:=fun i H' x H2 e ⟨e2,q⟩=>⟨by rw [e2];exact Same.refl _,fun d hd _ _=>by
  have q':x=.int (lo+i):=q
  rw [Ys lo n i d hd,q']
  exact .int _⟩
 stop:=fun H' e=>by rw [ZC];exact Nat.le_refl n
def tDI (K:PySem.W.Frag)(M:List Nat)(f:Rho->Option (List PyData)):TI:=fun σ H R=>∃ S ρ ds,DenS K H S M σ ρ/\f ρ=some ds/\∀ J H',Same H H'->(∀ H2,Off S H' H2->IsIt K S J H2 ds)->R J H'
def PDI (X:Cx)(M:List Nat)(tg iter:Expr)(f:Rho->Option (List PyData)):Prop:=PI X tg iter (tDI X.K M f)
theorem PI.weak {X:Cx}{tg e:Expr}{t t':TI}(h:PI X tg e t)(w:∀ σ H R,t' σ H R->t σ H R):PI X tg e t':=fun pins s σ H Q I q=>h pins s σ H Q I (w σ H Q q)
def iSeq (K:PySem.W.Frag)(tl:TE):TI:=fun σ H R=>tl σ H fun x H1=>∃ a,x=.ref a/\(((∃ xs,SqL K H1 a xs)/\R (Itl K a) H1)\/((∃ xs,SqT K H1 a xs)/\R (Itt K a) H1))
theorem qdo {tg l:Expr}{tl:TE}(hl:PE X l tl):PI X tg l (iSeq X.K tl):=by
 intro pins s σ H R I h
 refine thn (hl pins s σ H _ I h) fun v s1 ⟨x,H1,I1,r1,q1⟩=>?_
 obtain ⟨a,e,q1⟩:=q1
 subst e
 cases r1
 have fp:∀ b∈[s1.heap.objs.size],FpOk X pins H1 b:=fun b hb=>by
  have e:b=s1.heap.objs.size:=by simpa using hb
  subst e
  exact I1.fpOk (Nat.le_refl _) (I1.hok.fresh (Nat.le_refl _))
 rcases q1 with ⟨⟨xs,hq⟩,q⟩|⟨⟨xs,hq⟩,q⟩
 ·obtain ⟨its,rv,p,hz⟩:=I1.list hq
  refine wpAny_pyIter_list p.isList ?_
  exact ⟨s1.heap.objs.size,[s1.heap.objs.size],_,_,H1,rfl,I1.kept (t':=s1.toks) fun b o e=>Heap.get?_push_of_some _ e,WX a _,⟨_,Heap.get?_push_size _ rfl,rfl,rfl⟩,fp,q⟩
 ·obtain ⟨its,rv,p,hz⟩:=I1.tuple hq
  refine wpAny_pyIter_tuple (show s1.heap.IsTuple a its.toArray from p) ?_
  exact ⟨s1.heap.objs.size,[s1.heap.objs.size],_,_,H1,rfl,I1.kept (t':=s1.toks) fun b o e=>Heap.get?_push_of_some _ e,Y6 a _,⟨_,Heap.get?_push_size _ rfl,rfl,rfl⟩,fp,q⟩
def seqD:PyData->Option (List PyData)
 | .list ds=>some ds
 | .tuple ds=>some ds
 | _=>none
theorem jn {tg:Expr}(h:PD X M a f):PDI X M tg a (evI f seqD) :=
 (qdo h).weak fun σ H R ⟨S,ρ,ds,hs,e,w⟩=>by
  obtain ⟨x,e1,e⟩:=ql e
  refine ⟨S,ρ,x,hs,e1,fun v H1 g1 d1=>?_⟩
  cases d1 with
  | list h t=>cases e;exact ⟨_,rfl,.inl ⟨⟨_,h.sq⟩,w _ _ g1 fun H2 o=>IsIt.lst (h.off o).sq (t.off (hs.1.same g1) o)⟩⟩
  | tuple h t=>cases e;exact ⟨_,rfl,.inr ⟨⟨_,h⟩,w _ _ g1 fun H2 o=>IsIt.tup (h.off (hs.1.same g1) o) (t.off (hs.1.same g1) o)⟩⟩
  | _=>cases e
def jt:List PyData->Option (List PyData)
 | [.int j]=>if -1000<=j/\j<=1000 then some (rngL 0 j.toNat) else none
 | _=>none
theorem JF {tg:Expr}{fs:Rho->Option (List PyData)}{p:Pos}(hg:Gl X "range")(hm:X.mg "range" = none)(ha:PDA X M [a] fs)(hs:starEach [a] X.env=[(false,eval a X.env)]:=by rfl):PDI X M tg (.Call (.Name "range" p) [a] [] pos) (evR fs jt) :=
 (yg hg hm ha hs).weak fun σ H R ⟨S,ρ,ds,hs,e,w⟩=>by
  obtain ⟨xs,e1,e⟩:=ql e
  refine ⟨S,ρ,xs,hs,e1,fun vs H1 g1 d1=>?_⟩
  unfold jt at e
  split at e
  ·rename_i j
   split at e
   ·rename_i hj
    cases e
    obtain ⟨v,rfl,q⟩:=d1.inv1
    cases q
    exact ⟨j,rfl,by omega,by omega,w _ _ g1 fun _ _=>IsIt.rng 0 _⟩
   ·cases e
  ·cases e
def Qs (tt:Rho->Option Bool)(te:Rho->Option PyData)(ρ:Rho):List PyData->Option (List PyData)
 | []=>some []
 | d::ds=>ob (tt (ρ++[some d])) fun b=>if b=true then ob (te (ρ++[some d])) fun y=>ob (Qs tt te ρ ds) fun ys=>some (y::ys) else Qs tt te ρ ds
def ZW (n:Nat)(fi:Rho->Option (List PyData))(tt:Rho->Option Bool)(te:Rho->Option PyData)(ρ:Rho):Option PyData :=
 ob (fi ρ) fun ds=>if ρ.length=n/\ds.length<=1000 then ob (Qs tt te ρ ds) fun ys=>some (.list ys) else none
def PDTs (X:Cx)(M:List Nat)(ifs:List Expr)(p:Rho->Option Bool):Prop:=PTs X ifs (tDT X.K M p)
theorem jo:PDTs X M [] tT:=fun pins s σ H Q I ⟨S,ρ,b,hs,e,q⟩=>by
 cases e
 exact qb8 pins s σ H Q I (q H (Same.refl H))
theorem qaI (h:PDT X M c p):PDTs X M [c] p:=qb9 h
def lc1 (sc:Scope)(x:Str):Bool:=decide (sc.names.lookup x=some .local)||decide (sc.names.lookup x=some .cell)
theorem jr {env:Env}:∀ {names:List (Str×NameKind)} {x:Str},names.lookup x=some .cell->
  (names.map fun (n,k)=>if (k==NameKind.free&&env.scope.kind==.function&&env.kindOf n==some .cell) then (n,NameKind.cell) else (n,k)).lookup x=some .cell
 | [],_,h=>by simp at h
 | (n,k)::r,x,h=>by
  have ih:=@jr env r x
  show List.lookup x ((if (k==NameKind.free&&env.scope.kind==.function&&env.kindOf n==some .cell)=true then (n,NameKind.cell) else (n,k))::_)=_
  rw [List.lookup_cons] at h
  by_cases hx:(x==n)=true
  ·rw [hx] at h;cases h
   split<;>rw [List.lookup_cons,hx]
  ·rw [Bool.eq_false_iff.mpr hx] at h
   split<;>rw [List.lookup_cons,Bool.eq_false_iff.mpr hx]<;>exact ih h
def tDGc (K:PySem.W.Frag)(M:List Nat)(g:PyData->Rho->Option Rho):TG:=fun v σ H Q=>∃ S ρ d ρ',DenS K H S M σ ρ/\Den K H S v d/\g d ρ=some ρ'/\∀ σ' H',Same H H'->DenS K H' S M σ' ρ'->Q σ' H'
def PDGc (X:Cx)(M:List Nat)(t:Expr)(g:PyData->Rho->Option Rho):Prop:=PG X t (tDGc X.K M g)
theorem PG.weak {X:Cx}{e:Expr}{t t':TG}(h:PG X e t)(w:∀ v σ H Q,t' v σ H Q->t v σ H Q):PG X e t':=fun pins s σ H v u Q I r q=>h pins s σ H v u Q I r (w v σ H Q q)
theorem PGs.weak {X:Cx}{e:List Expr}{t t':TGs}(h:PGs X e t)(w:∀ v σ H Q,t' v σ H Q->t v σ H Q):PGs X e t':=fun pins s σ H v u Q I r q=>h pins s σ H v u Q I r (w v σ H Q q)
def unpD (n:Nat)(g:List PyData->Rho->Option Rho):PyData->Rho->Option Rho
 | .tuple ds,ρ=>if ds.length=n then g ds ρ else none
 | _,_=>none
theorem ye (i:Nat){x:Str}(hN:X.N.Nodup)(hx:Loc X.env.scope x)(hi:X.N[i]?=some x)(hf:X.fn x=true\/X.env.scope.names.lookup x=some .local):PDGc X M (.Name x pos) (gNm i) :=
 (w5 hN hi hx hf).weak fun v σ H Q ⟨S,ρ,d,ρ',hs,hd,e,q⟩=>by
  cases e
  exact q _ H (Same.refl H) (hs.set hd i)
def GIn (n k:Nat)(g:PyData->Rho->Option Rho):Prop:=∀ d (ρ r ρ1:Rho),ρ.length=n->r.length=k->g d (ρ++r)=some ρ1->∃ r',r'.length=k/\ρ1=ρ++r'
theorem qal {n k i:Nat}(h:n<=i):GIn n k (gNm i):=fun d ρ r ρ1 h1 h2 e=>by
 cases e
 refine ⟨r.set (i-n) (some d),by rw [List.length_set];exact h2,?_⟩
 rw [List.set_append_right _ _ (by omega),h1]
def jg (k:Nat)(g:PyData->Rho->Option Rho)(tt:Rho->Option Bool)(te:Rho->Option PyData)(ρ:Rho):List PyData->Option (List PyData)
 | []=>some []
 | d::ds=>ob (g d (ρ++List.replicate k none)) fun ρ1=>ob (tt ρ1) fun b=>if b=true then ob (te ρ1) fun y=>ob (jg k g tt te ρ ds) fun ys=>some (y::ys) else jg k g tt te ρ ds
def yQ (n k:Nat)(fi:Rho->Option (List PyData))(g:PyData->Rho->Option Rho)(tt:Rho->Option Bool)(te:Rho->Option PyData)(ρ:Rho):Option PyData :=
 ob (fi ρ) fun ds=>if ρ.length=n/\ds.length<=1000 then ob (jg k g tt te ρ ds) fun ys=>some (.list ys) else none
theorem Jk {tt:Rho->Option Bool}{te:Rho->Option PyData}{ρ:Rho}{n:Nat}(hn:ρ.length=n):∀ ds,jg 1 (gNm n) tt te ρ ds=Qs tt te ρ ds
 | []=>rfl
 | d::ds=>by
  have e:gNm n d (ρ++List.replicate 1 none)=some (ρ++[some d]):=by
   show some ((ρ++[none]).set n (some d))=_
   rw [← hn,List.set_append_right _ _ (Nat.le_refl _)]
   simp
  rw [jg,Qs,e]
  show (ob (tt (ρ++[some d])) fun b=>_)=_
  rw [Jk hn ds]
theorem Yx (n:Nat)(fi:Rho->Option (List PyData))(tt:Rho->Option Bool)(te:Rho->Option PyData):ZW n fi tt te=yQ n 1 fi (gNm n) tt te:=by
 funext ρ
 unfold ZW yQ
 cases fi ρ with
 | none=>rfl
 | some ds =>
  show (if ρ.length=n/\ds.length<=1000 then _ else none)=(if ρ.length=n/\ds.length<=1000 then _ else none)
  split
  ·rename_i h
   rw [Jk h.1]
  ·rfl
theorem DenS.forget {K:PySem.W.Frag}{H:Hp}{S:Av}{σ:St}{ρ r':Rho}{k:Nat}(h:DenS K H S M σ (ρ++r'))(hk:r'.length=k):DenS K H S M σ (ρ++List.replicate k none):=by
 refine ⟨h.1,by rw [h.2.1,List.length_append,List.length_append,List.length_replicate,hk],fun i d hi e=>?_⟩
 by_cases hlt:i<ρ.length
 ·rw [List.getElem?_append_left hlt] at e
  exact h.2.2 i d hi (by rw [List.getElem?_append_left hlt];exact e)
 ·rw [List.getElem?_append_right (by omega)] at e
  have:=List.getElem?_replicate (a:=(none:Option PyData)) (n:=k) (i:=i-ρ.length)
  rw [this] at e
  split at e<;>cases e
theorem DenS.more {K:PySem.W.Frag}{H:Hp}{S:Av}{σ:St}{ρ:Rho}(k:Nat)(h:DenS K H S M σ ρ):DenS K H S M (σ++List.replicate k none) (ρ++List.replicate k none):=by
 refine ⟨h.1,by rw [List.length_append,List.length_append,h.2.1,List.length_replicate,List.length_replicate],fun i d hi e=>?_⟩
 by_cases hlt:i<ρ.length
 ·rw [List.getElem?_append_left hlt] at e
  obtain ⟨v,a,b⟩:=h.2.2 i d hi e
  exact ⟨v,by rw [List.getElem?_append_left (by rw [h.2.1];exact hlt)];exact a,b⟩
 ·rw [List.getElem?_append_right (by omega)] at e
  have:=List.getElem?_replicate (a:=(none:Option PyData)) (n:=k) (i:=i-ρ.length)
  rw [this] at e
  split at e<;>cases e
theorem qcf {K:PySem.W.Frag}{n k:Nat}{fi:Rho->Option (List PyData)}{g:PyData->Rho->Option Rho}(hg:GIn n k g):∀ σ H Q S ρ ds ys,DenS K H S M σ ρ->fi ρ=some ds->ρ.length=n->ds.length<=1000->jg k g p f ρ ds=some ys->(∀ H' zs,Same H H'->DenL K H' S zs ys->∀ D,H' D=none->Q (.ref D) (upd H' D (.lst zs)))->qa0 k (tDI K M fi) (tDGc K M g) (tDT K M p) (tD K M f) σ H Q:=by
 intro σ H Q S ρ ds ys hs e1 hn hz e2 q
 refine ⟨S,ρ,ds,hs,e1,fun J H1 g1 hJ0=>?_⟩
 have hJ:=hJ0 H1 fun _ _ _ z=>z
 have z1000:1000<sizeLine:=zB (Nat.le_refl _)
 refine ⟨fun i m zs σ' H'=>m=ds.length-i/\i<=ds.length/\zs.length<=i/\Same H1 H'/\DenS K H' S M σ' (ρ++List.replicate k none)/\∃ pre rest,DenL K H' S zs pre/\jg k g p f ρ (ds.drop i)=some rest/\pre++rest=ys,⟨ds.length,by simp,Nat.zero_le _,Nat.le_refl _,Same.refl _,(hs.same g1).more k,[],ys,.nil,e2,rfl⟩,?_⟩
 rintro i m zs σ' H' ⟨rfl,hi,hzi,g2,hS,pre,rest,dl,er,rfl⟩
 by_cases hlt:i<ds.length
 ·refine .inr ⟨hJ.go i H' g2 hlt,fun x H2 y=>?_⟩
  obtain ⟨g2',yd⟩:=hJ.yld i H' x H2 g2 y
  have hd:=yd _ (List.getElem?_eq_getElem hlt) S fun y e q=>q.same (g2.trans g2')
  rw [List.drop_eq_getElem_cons hlt] at er
  obtain ⟨ρ1,r1,er⟩:=ql er
  obtain ⟨bb,b1,er⟩:=ql er
  obtain ⟨r',hr',rfl⟩:=hg _ ρ _ ρ1 hn (List.length_replicate) r1
  have g2:=g2.trans g2'
  have dl:=dl.same g2'
  refine ⟨S,_,_,_,hS.same g2',hd,r1,fun σ3 H3 g3 hS3=>⟨S,_,bb,hS3,b1,fun H4 g4=>?_⟩⟩
  cases bb with
  | true =>
   rw [if_pos rfl] at er
   obtain ⟨y1,e3,er⟩:=ql er
   obtain ⟨ys1,e4,er⟩:=ql er
   cases er
   refine iteT ⟨S,_,y1,hS3.same g4,e3,fun v H5 g5 d5=>⟨by omega,ds.length-(i+1),by omega,rfl,hlt,by rw [List.length_append,List.length_singleton];omega,g2.trans (g3.trans (g4.trans g5)),(hS3.same (g4.trans g5)).forget hr',pre++[y1],ys1,(dl.same (g3.trans (g4.trans g5))).snoc d5,e4,by simp⟩⟩
  | false =>
   rw [if_neg Bool.false_ne_true] at er
   exact iteF ⟨ds.length-(i+1),by omega,rfl,hlt,by omega,g2.trans (g3.trans g4),(hS3.same g4).forget hr',pre,rest,dl.same (g3.trans g4),er,rfl⟩
 ·have hi':i=ds.length:=by omega
  subst hi'
  rw [List.drop_length] at er
  cases er
  refine .inl ⟨hJ.stop H' g2,fun D hD=>q H' zs (g1.trans g2) (by rw [List.append_nil];exact dl) D hD⟩
theorem Yy {n k:Nat}{fi:Rho->Option (List PyData)}{g:PyData->Rho->Option Rho}{tt:Rho->Option Bool}{te:Rho->Option PyData}{ρ:Rho}{d:PyData}(e:yQ n k fi g tt te ρ=some d):∃ ds ys,fi ρ=some ds/\ρ.length=n/\ds.length<=1000/\jg k g tt te ρ ds=some ys/\d=.list ys:=by
 obtain ⟨ds,e1,e⟩:=ql e
 split at e
 ·rename_i hc
  obtain ⟨ys,e2,e⟩:=ql e
  cases e
  exact ⟨ds,ys,e1,hc.1,hc.2,e2,rfl⟩
 ·cases e
theorem qdM {K:PySem.W.Frag}{n k:Nat}{fi:Rho->Option (List PyData)}{g:PyData->Rho->Option Rho}(hg:GIn n k g):∀ σ H Q,tD K M (yQ n k fi g p f) σ H Q->qa0 k (tDI K M fi) (tDGc K M g) (tDT K M p) (tD K M f) σ H Q:=by
 intro σ H Q ⟨S,ρ,d,hs,e,q⟩
 obtain ⟨ds,ys,e1,hn,hz,e2,rfl⟩:=Yy e
 exact qcf hg σ H Q S ρ ds ys hs e1 hn hz e2 fun H' zs g2 dl D hD=>q _ _ (g2.lay' hD) (.list (SqLS.new qN ((hs.1.same g2).free hD)) (dl.same (Same.lay hD)))
section
variable {elt iter tg:Expr}{ifs:List Expr}{x:Str}{N':List Str}{px:Pos}{sc:Scope}{n k:Nat}{fi:Rho->Option (List PyData)}{g:PyData->Rho->Option Rho}
theorem qb0 {i:Nat}(O:CompOk X N' k sc)(hx:N'[i]?=some x)(hl:lc1 sc x=true)(cl:List (Str×Addr))(C:Addr)(fp:List Addr)(pins:List (Addr×Obj))(s:Shared)(H:Hp):PDGc (qO X N' sc cl C fp pins s H) M (.Name x px) (gNm i) :=
 (Bool.or_eq_true_iff.mp hl).elim (fun hl =>
  have hloc:(relabel sc X.env).names.lookup x=some .local:=lookup_relabel_local (of_decide_eq_true hl)
  ye (X:=qO X N' sc cl C fp pins s H) i O.nd' (.inl hloc) hx (.inr hloc)) fun hl =>
  have hloc:(relabel sc X.env).names.lookup x=some .cell:=jr (of_decide_eq_true hl)
  ye (X:=qO X N' sc cl C fp pins s H) i O.nd' (.inr hloc) hx (.inl hl)
theorem qaB (O:CompOk X N' k sc)(gi:GIn n k g)(hi:PDI X M tg iter fi)(hg:∀ cl C fp pins s H,PDGc (qO X N' sc cl C fp pins s H) M tg g)(hq:∀ cl C fp pins s H,PDTs (qO X N' sc cl C fp pins s H) M ifs p)(he:∀ cl C fp pins s H,PD (qO X N' sc cl C fp pins s H) M elt f)
  (hs:∀ v,foldedSetIterable iter X.env v=pure v:=by intro _;rfl):PD X M (.ListComp elt [⟨tg,iter,ifs,0⟩] sc pos) (yQ n k fi g p f) :=
 (qbZ (wg:=tDGc X.K M g) (tt:=tDT X.K M p) (te:=tD X.K M f) O hi hg hq he hs).weak (qdM gi)
theorem jm (O:CompOk X N' 1 sc)(hx:N'[n]?=some x)(hl:lc1 sc x=true)(hi:PDI X M (.Name x px) iter fi)(hq:∀ cl C fp pins s H,PDTs (qO X N' sc cl C fp pins s H) M ifs p)(he:∀ cl C fp pins s H,PD (qO X N' sc cl C fp pins s H) M elt f)
  (hs:∀ v,foldedSetIterable iter X.env v=pure v:=by intro _;rfl):PD X M (.ListComp elt [⟨.Name x px,iter,ifs,0⟩] sc pos) (ZW n fi p f):=by
 rw [Yx]
 exact qaB O (qal (Nat.le_refl _)) hi (qb0 O hx hl) hq he hs
end
end
structure Gm where
 H0:Hp
 S0:Av
 lk:Nat->Addr×PyData
def insA (S:Av)(p:Addr):Av:=fun a=>S a\/a=p
inductive OwnO (K:PySem.W.Frag)(H:Hp)(S:Av)(p:Addr):PyData->Prop
 | lst {xs:List V} {ds:List PyData}:H p=some (.lst xs)->DenL K H S xs ds->OwnO K H S p (.list ds)
 | dct {kvs:List (KX×Addr×V)} {ep:Nat} {ds:List PyData}:H p=some (DctO p kvs ep)->DenL K H S (kvs.map fun p=>kxV p.1 p.2.1) (kvs.map fun p=>kxD p.1)->DenL K H S (kvs.map (·.2.2)) ds->OwnO K H S p (.dict (dkv kvs ds))
section
variable {K:PySem.W.Frag}{H H':Hp}{S S':Av}{p:Addr}{d:PyData}
theorem OwnO.same (e:Same H H')(h:OwnO K H S p d):OwnO K H' S p d:=by
 cases h with
 | lst h t=>exact .lst (e _ _ h) (t.same e)
 | dct h k t=>exact .dct (e _ _ h) (k.same e) (t.same e)
theorem OwnO.sub (e:∀ a,H a≠none->S' a->S a)(h:OwnO K H S p d):OwnO K H S' p d:=by
 cases h with
 | lst h t=>exact .lst h (t.sub e)
 | dct h k t=>exact .dct h (k.sub e) (t.sub e)
theorem OwnO.mut (h:OwnO K H S p d):∃ o,H p=some o/\jj o=true:=by
 cases h with
 | lst h t=>exact ⟨_,h,rfl⟩
 | dct h k t=>exact ⟨_,h,rfl⟩
theorem OwnO.dom (h:OwnO K H S p d):H p≠none:=by
 obtain ⟨o,e,_⟩:=h.mut
 rw [e];exact fun z=>nomatch z
theorem OwnO.den (h:OwnO K H S p d)(n:¬ S' p)(e:∀ a,H a≠none->S' a->S a):Den K H S' (.ref p) d:=by
 cases h with
 | lst h t=>exact .list (SqLS.new h n) (t.sub e)
 | dct h k t=>exact .dict ⟨h,n⟩ (k.sub e) (t.sub e)
theorem OwnO.upd {q:Addr}{o:HO}(m:Dm S H)(h:OwnO K H S p d)(hq:S q)(hm:jj o=true)(ne:p≠q):OwnO K (upd H q o) S p d:=by
 have off:Off S H (L2.upd H q o):=fun b u n e=>by
  rw [qJ (fun z=>n (by rw [z];exact hq))];exact e
 cases h with
 | lst h t=>exact .lst (by rw [qJ ne];exact h) (t.off m off)
 | dct h k t=>exact .dct (by rw [qJ ne];exact h) (k.off m off) (t.off m off)
theorem Dm.upd {q:Addr}{o:HO}(m:Dm S H)(hm:jj o=true):Dm S (upd H q o):=fun a ha=>by
 by_cases e:a=q
 ·subst e;exact ⟨o,qN,hm⟩
 ·rw [qJ e];exact m a ha
theorem Dm.ins (m:Dm S H)(h:∃ o,H p=some o/\jj o=true):Dm (insA S p) H:=fun a ha=>by
 rcases ha with ha|rfl
 ·exact m a ha
 ·exact h
end
inductive Kids (K:PySem.W.Frag)(H:Hp)(S:Av):List Addr->List PyData->Prop
 | nil:Kids K H S [] []
 | cons {q:Addr} {xs:List V} {es:List PyData} {qs:List Addr} {ds:List PyData}:H q=some (.lst xs)->DenL K H S xs es->q∉qs->Kids K H S qs ds->Kids K H S (q::qs) (.list es::ds)
inductive DeepO (K:PySem.W.Frag)(H:Hp)(S:Av):List Addr->Addr->PyData->Prop
 | tpl {p:Addr} {qs:List Addr} {ds:List PyData}:H p=some (.tup (qs.map V.ref))->Kids K H S qs ds->DeepO K H S qs p (.tuple ds)
 | lst {p:Addr} {qs:List Addr} {ds:List PyData}:H p=some (.lst (qs.map V.ref))->p∉qs->Kids K H S qs ds->DeepO K H S (p::qs) p (.list ds)
 | dct {p:Addr} {kvs:List (KX×Addr×V)} {ep:Nat} {qs:List Addr} {ds:List PyData}:H p=some (DctO p kvs ep)->DenL K H S (kvs.map fun p=>kxV p.1 p.2.1) (kvs.map fun p=>kxD p.1)->kvs.map (·.2.2)=qs.map V.ref->p∉qs->Kids K H S qs ds->DeepO K H S (p::qs) p (.dict (dkv kvs ds))
section
variable {K:PySem.W.Frag}{H H':Hp}{S S':Av}{p:Addr}{d:PyData}{fp qs:List Addr}{ds:List PyData}
theorem Kids.same (e:Same H H'):∀ {qs:List Addr} {ds:List PyData},Kids K H S qs ds->Kids K H' S qs ds
 | _,_,.nil=>.nil
 | _,_,.cons h t n r=>.cons (e _ _ h) (t.same e) n (r.same e)
theorem Kids.sub (e:∀ a,H a≠none->S' a->S a):∀ {qs:List Addr} {ds:List PyData},Kids K H S qs ds->Kids K H S' qs ds
 | _,_,.nil=>.nil
 | _,_,.cons h t n r=>.cons h (t.sub e) n (r.sub e)
theorem Kids.mut:∀ {qs:List Addr} {ds:List PyData},Kids K H S qs ds->∀ q∈qs,∃ o,H q=some o/\jj o=true
 | _,_,.nil,q,hq=>absurd hq (by simp)
 | _,_,.cons h t n r,q,hq=>by
  rcases List.mem_cons.mp hq with e|hq
  ·rw [e];exact ⟨_,h,rfl⟩
  ·exact r.mut q hq
theorem Kids.den (e:∀ a,H a≠none->S' a->S a):∀ {qs:List Addr} {ds:List PyData},(∀ q∈qs,¬ S' q)->Kids K H S qs ds->DenL K H S' (qs.map V.ref) ds
 | _,_,_,.nil=>.nil
 | _,_,n,.cons h t _ r=>.cons (.list (SqLS.new h (n _ (.head _))) (t.sub e)) (r.den e fun q hq=>n q (.tail _ hq))
theorem Kids.upd {q:Addr}{o:HO}(m:Dm S H)(hq:S q):∀ {qs:List Addr} {ds:List PyData},q∉qs->Kids K H S qs ds->Kids K (upd H q o) S qs ds
 | _,_,_,.nil=>.nil
 | _,_,n,.cons h t n' r=>.cons (by rw [qJ (fun z=>n (by rw [z];exact .head _))];exact h) (t.off m fun b u z e=>by rw [qJ (fun y=>z (by rw [y];exact hq))];exact e) n' (r.upd m hq fun z=>n (.tail _ z))
theorem DeepO.same (e:Same H H')(h:DeepO K H S fp p d):DeepO K H' S fp p d:=by
 cases h with
 | tpl h t=>exact .tpl (e _ _ h) (t.same e)
 | lst h n t=>exact .lst (e _ _ h) n (t.same e)
 | dct h k v n t=>exact .dct (e _ _ h) (k.same e) v n (t.same e)
theorem DeepO.sub (e:∀ a,H a≠none->S' a->S a)(h:DeepO K H S fp p d):DeepO K H S' fp p d:=by
 cases h with
 | tpl h t=>exact .tpl h (t.sub e)
 | lst h n t=>exact .lst h n (t.sub e)
 | dct h k v n t=>exact .dct h (k.sub e) v n (t.sub e)
theorem DeepO.mut (h:DeepO K H S fp p d):∀ q∈fp,∃ o,H q=some o/\jj o=true:=by
 cases h with
 | tpl h t=>exact t.mut
 | lst h n t=>exact fun q hq=>(List.mem_cons.mp hq).elim (fun e=>by rw [e];exact ⟨_,h,rfl⟩) (t.mut q)
 | dct h k v n t=>exact fun q hq=>(List.mem_cons.mp hq).elim (fun e=>by rw [e];exact ⟨_,h,rfl⟩) (t.mut q)
theorem DeepO.den (h:DeepO K H S fp p d)(n:∀ q∈fp,¬ S' q)(e:∀ a,H a≠none->S' a->S a):Den K H S' (.ref p) d:=by
 cases h with
 | tpl h t=>exact .tuple (.inl (.inl h)) (t.den e n)
 | lst h _ t=>exact .list (SqLS.new h (n _ (.head _))) (t.den e fun q hq=>n q (.tail _ hq))
 | dct h k v _ t=>exact .dict ⟨h,n _ (.head _)⟩ (k.sub e) (by rw [v];exact t.den e fun q hq=>n q (.tail _ hq))
theorem DeepO.upd {q:Addr}{o:HO}(m:Dm S H)(h:DeepO K H S fp p d)(hq:S q)(ne:q∉fp):DeepO K (upd H q o) S fp p d:=by
 have off:Off S H (L2.upd H q o):=fun b u n e=>by
  rw [qJ (fun z=>n (by rw [z];exact hq))];exact e
 cases h with
 | tpl h t=>exact .tpl (by rw [qJ (fun z=>m.tup (.inl h) (by rw [z];exact hq))];exact h) (t.upd m hq ne)
 | lst h n t=>exact .lst (by rw [qJ (fun z=>ne (by rw [z];exact .head _))];exact h) n (t.upd m hq fun z=>ne (.tail _ z))
 | dct h k v n t=>exact .dct (by rw [qJ (fun z=>ne (by rw [z];exact .head _))];exact h) (k.off m off) v n (t.upd m hq fun z=>ne (.tail _ z))
end
abbrev Flt (M:List Nat)(i:Nat):Prop:=i∈M/\i+1000∉M
abbrev Dp (M:List Nat)(i:Nat):Prop:=i∈M/\i+1000∈M
abbrev Out0 (M:List Nat)(i:Nat):Prop:=i∉M/\i+1000∉M/\i<1000
def Has (ρ:Rho)(i:Nat):Prop:=∃ d:PyData,ρ[i]?=some (some d)
structure DeepF (K:PySem.W.Frag)(G:Gm)(M:List Nat)(H:Hp)(S:Av)(σ:St)(ρ:Rho)(F:Nat->List Addr):Prop where
 own:∀ i,Dp M i->∀ d,ρ[i]?=some (some d)->∃ p,σ[i]?=some (some (.ref p))/\DeepO K H S (F i) p d/\∀ q∈F i,S q/\¬ G.S0 q/\G.H0 q=none
 disj:∀ i,Dp M i->∀ j,Dp M j->Has ρ i->Has ρ j->∀ q,q∈F i->q∈F j->i=j
 flat:∀ i,Flt M i->∀ j,Dp M j->Has ρ i->Has ρ j->∀ p,σ[i]?=some (some (.ref p))->p∉F j
structure OwnS (K:PySem.W.Frag)(G:Gm)(M L:List Nat)(H:Hp)(S:Av)(σ:St)(ρ:Rho):Prop where
 ds:DenS K H S M σ ρ
 s0:∀ a,G.S0 a->S a
 h0:Same G.H0 H
 own:∀ i,Flt M i->∀ d,ρ[i]?=some (some d)->∃ p,σ[i]?=some (some (.ref p))/\OwnO K H S p d/\S p/\¬ G.S0 p/\(i∉L->G.H0 p=none)/\(i∈L->(p,d)=G.lk i)
 apart:∀ i,Flt M i->∀ j,Flt M j->∀ d e p,ρ[i]?=some (some d)->ρ[j]?=some (some e)->σ[i]?=some (some (.ref p))->σ[j]?=some (some (.ref p))->i=j
 bnd:∀ a,S a->G.S0 a\/G.H0 a=none\/∃ i∈L,a=(G.lk i).1
 lkd:∀ i∈L,Flt M i/\ρ[i]?=some (some (G.lk i).2)
 deep:∃ F,DeepF K G M H S σ ρ F
section
variable {K:PySem.W.Frag}{G:Gm}{M M' L:List Nat}{H H':Hp}{S:Av}{σ:St}{ρ:Rho}{v:V}{d:PyData}
theorem OwnS.same (e:Same H H')(h:OwnS K G M L H S σ ρ):OwnS K G M L H' S σ ρ :=
 ⟨h.ds.same e,h.s0,h.h0.trans e,fun i hi d q=>let ⟨p,a,b,c⟩:=h.own i hi d q;⟨p,a,b.same e,c⟩,h.apart,h.bnd,h.lkd,let ⟨F,f⟩:=h.deep;⟨F,fun i hi d q=>let ⟨p,a,b,c⟩:=f.own i hi d q;⟨p,a,b.same e,c⟩,f.disj,f.flat⟩⟩
theorem OwnS.lks (h:OwnS K G M L H S σ ρ):∀ i∈L,S (G.lk i).1:=fun i hi=>by
 obtain ⟨hm,e⟩:=h.lkd i hi
 obtain ⟨p,_,_,c,_,_,w⟩:=h.own i hm _ e
 rw [← w hi];exact c
theorem OwnS.den (h:OwnS K G M L H S σ ρ):DenS K H G.S0 [] σ ρ:=by
 refine ⟨h.ds.1.sub h.s0,h.ds.2.1,fun i d _ q=>?_⟩
 by_cases hi:i∈M
 ·by_cases hk:i+1000∈M
  ·obtain ⟨F,f⟩:=h.deep
   obtain ⟨p,a,b,c⟩:=f.own i ⟨hi,hk⟩ d q
   exact ⟨_,a,b.den (fun q hq=>(c q hq).2.1) fun a _ z=>h.s0 a z⟩
  ·obtain ⟨p,a,b,c,n,_⟩:=h.own i ⟨hi,hk⟩ d q
   exact ⟨_,a,b.den n fun a _ z=>h.s0 a z⟩
 ·obtain ⟨v,a,b⟩:=h.ds.2.2 i d hi q
  exact ⟨v,a,b.sub fun a _ z=>h.s0 a z⟩
theorem qI {α:Type}{xs:List α}{i j:Nat}{x:α}(h:i≠j):(xs.set i x)[j]?=xs[j]?:=List.getElem?_set_ne h
theorem OwnS.set (h:OwnS K G M L H S σ ρ)(q:Den K H S v d){i:Nat}(hi:i∉M):OwnS K G M L H S (σ.set i (some v)) (ρ.set i (some d)):=by
 have ne:∀ j∈M,i≠j:=fun j hj e=>hi (by rw [e];exact hj)
 obtain ⟨F,f⟩:=h.deep
 refine ⟨h.ds.set q i,h.s0,h.h0,fun j hj e he=>?_,fun j hj k hk e e' p h1 h2 h3 h4=>?_,h.bnd,fun j hj=>⟨(h.lkd j hj).1,by rw [qI (ne j (h.lkd j hj).1.1)];exact (h.lkd j hj).2⟩,F,fun j hj e he=>?_,fun j hj k hk h1 h2=>?_,fun j hj k hk h1 h2 p h3=>?_⟩
 ·rw [qI (ne j hj.1)] at he ⊢
  exact h.own j hj e he
 ·rw [qI (ne j hj.1)] at h1 h3
  rw [qI (ne k hk.1)] at h2 h4
  exact h.apart j hj k hk e e' p h1 h2 h3 h4
 ·rw [qI (ne j hj.1)] at he ⊢
  exact f.own j hj e he
 ·unfold Has at h1 h2
  rw [qI (ne j hj.1)] at h1
  rw [qI (ne k hk.1)] at h2
  exact f.disj j hj k hk h1 h2
 ·unfold Has at h1 h2
  rw [qI (ne j hj.1)] at h1 h3
  rw [qI (ne k hk.1)] at h2
  exact f.flat j hj k hk h1 h2 p h3
theorem qcK {i j:Nat}(hi:Out0 M i)(hj:Flt M j):Flt (i::M) j:=⟨.tail _ hj.1,fun z=>by rcases List.mem_cons.mp z with e|z;(have:=hi.2.2;omega);exact hj.2 z⟩
theorem jA {i j:Nat}(hj:Flt (i::M) j)(ne:i≠j):Flt M j:=⟨(List.mem_cons.mp hj.1).resolve_left fun z=>ne z.symm,fun z=>hj.2 (.tail _ z)⟩
theorem wC {i j:Nat}(hi:Out0 M i)(hj:Dp (i::M) j):Dp M j:=by
 have q:j+1000∈M:=(List.mem_cons.mp hj.2).resolve_left fun z=>by have:=hi.2.2;omega
 refine ⟨(List.mem_cons.mp hj.1).resolve_left fun z=>hi.2.1 (by rw [← z];exact q),q⟩
theorem OwnS.take (h:OwnS K G M L H S σ ρ){p:Addr}{i:Nat}(hn:H p=none)(e:Same H H')(o:OwnO K H' (insA S p) p d)(hi:Out0 M i)(hl:i∉L)(hz:i<ρ.length):OwnS K G (i::M) L H' (insA S p) (σ.set i (some (.ref p))) (ρ.set i (some d)):=by
 have np:¬ S p:=h.ds.1.free hn
 have sub:∀ a,H a≠none->insA S p a->S a:=fun a ha z=>by
  rcases z with z|rfl
  ·exact z
  ·exact absurd hn ha
 have ne:∀ j∈M,i≠j:=fun j hj e=>hi.1 (by rw [e];exact hj)
 have hz':i<σ.length:=by rw [h.ds.2.1];exact hz
 have gi:(ρ.set i (some d))[i]?=some (some d):=List.getElem?_set_self hz
 have gi':(σ.set i (some (.ref p)))[i]?=some (some (.ref p)):=List.getElem?_set_self hz'
 obtain ⟨F,f⟩:=h.deep
 refine ⟨⟨(h.ds.1.same e).ins o.mut,by rw [List.length_set,List.length_set];exact h.ds.2.1,fun j d' hj q=>?_⟩,fun a z=>.inl (h.s0 a z),h.h0.trans e,fun j hj d' q=>?_,fun j hj k hk d1 d2 q h1 h2 h3 h4=>?_,fun a z=>?_,fun j hj=>⟨qcK hi (h.lkd j hj).1,by rw [qI (fun z=>hl (by rw [z];exact hj))];exact (h.lkd j hj).2⟩,
  F,fun j hj d' q=>?_,fun j hj k hk h1 h2=>?_,fun j hj k hk h1 h2 r h3=>?_⟩
 ·have hij:i≠j:=fun z=>hj (by rw [z];exact .head _)
  rw [qI hij] at q ⊢
  obtain ⟨v,a,b⟩:=h.ds.2.2 j d' (fun z=>hj (.tail _ z)) q
  exact ⟨v,a,(b.sub sub).same e⟩
 ·by_cases hij:i=j
  ·subst hij
   rw [gi] at q;cases q
   exact ⟨p,gi',o,.inr rfl,fun z=>np (h.s0 p z),fun _=>h.h0.free hn,fun z=>absurd z hl⟩
  ·rw [qI hij] at q ⊢
   obtain ⟨q',a,b,c,n,w⟩:=h.own j (jA hj hij) d' q
   exact ⟨q',a,(b.sub sub).same e,.inl c,n,w⟩
 ·have key:∀ m,Flt M m->∀ (d':PyData) (q:Addr),(ρ.set i (some d))[m]?=some (some d')->(σ.set i (some (.ref p)))[m]?=some (some (.ref q))->q≠p:=fun m hm d' q e1 e2 z=>by
   rw [qI (ne m hm.1)] at e1 e2
   obtain ⟨q',a,b,_⟩:=h.own m hm d' e1
   rw [e2] at a;cases a
   subst z
   exact b.dom hn
  by_cases ej:i=j
  ·by_cases ek:i=k
   ·rw [← ej,← ek]
   ·rw [← ej,gi'] at h3
    cases h3
    exact absurd rfl (key k (jA hk ek) d2 p h2 h4)
  ·by_cases ek:i=k
   ·rw [← ek,gi'] at h4
    cases h4
    exact absurd rfl (key j (jA hj ej) d1 p h1 h3)
   ·rw [qI ej] at h1 h3
    rw [qI ek] at h2 h4
    exact h.apart j (jA hj ej) k (jA hk ek) d1 d2 q h1 h2 h3 h4
 ·rcases z with z|rfl
  ·exact h.bnd a z
  ·exact .inr (.inl (h.h0.free hn))
 ·have hj':=wC hi hj
  rw [qI (ne j hj'.1)] at q ⊢
  obtain ⟨q',a,b,c⟩:=f.own j hj' d' q
  exact ⟨q',a,(b.sub sub).same e,fun r hr=>⟨.inl (c r hr).1,(c r hr).2⟩⟩
 ·have hj':=wC hi hj
  have hk':=wC hi hk
  unfold Has at h1 h2
  rw [qI (ne j hj'.1)] at h1
  rw [qI (ne k hk'.1)] at h2
  exact f.disj j hj' k hk' h1 h2
 ·have hk':=wC hi hk
  unfold Has at h1 h2
  rw [qI (ne k hk'.1)] at h2
  by_cases ej:i=j
  ·rw [← ej,gi'] at h3
   cases h3
   obtain ⟨d2,e2⟩:=h2
   obtain ⟨q',a,b,c⟩:=f.own k hk' d2 e2
   intro z
   obtain ⟨o2,z2,_⟩:=b.mut p z
   rw [hn] at z2;cases z2
  ·rw [qI ej] at h1 h3
   exact f.flat j (jA hj ej) k hk' h1 h2 r h3
def insL (S:Av)(fp:List Addr):Av:=fun a=>S a\/a∈fp
theorem OwnS.write (h:OwnS K G M L H S σ ρ){p:Addr}{i:Nat}{o:HO}{d₀:PyData}(hi:Flt M i)(hl:i∉L)(e0:ρ[i]?=some (some d₀))(e1:σ[i]?=some (some (.ref p)))(hm:jj o=true)(ow:OwnO K (upd H p o) S p d):OwnS K G M L (upd H p o) S σ (ρ.set i (some d)):=by
 obtain ⟨p',a,b,c,n,w,_⟩:=h.own i hi d₀ e0
 rw [e1] at a;cases a
 have off:Off S H (upd H p o):=fun b u z e=>by
  rw [qJ (fun y=>z (by rw [y];exact c))];exact e
 have hz:i<ρ.length:=(List.getElem?_eq_some_iff.mp e0).1
 have get:∀ m d',(ρ.set i (some d))[m]?=some (some d')->∃ d'',ρ[m]?=some (some d''):=fun m d' q=>by
  by_cases him:i=m
  ·subst him;exact ⟨_,e0⟩
  ·rw [qI him] at q;exact ⟨_,q⟩
 have get2:∀ m,Has (ρ.set i (some d)) m->Has ρ m:=fun m ⟨d',q⟩=>get m d' q
 have dne:∀ j,Dp M j->i≠j:=fun j hj z=>hi.2 (by rw [z];exact hj.2)
 obtain ⟨F,f⟩:=h.deep
 refine ⟨⟨h.ds.1.upd hm,by rw [List.length_set];exact h.ds.2.1,fun j d' hj q=>?_⟩,h.s0,fun a u q=>?_,fun j hj d' q=>?_,fun j hj k hk d1 d2 q h1 h2 h3 h4=>?_,h.bnd,fun j hj=>⟨(h.lkd j hj).1,by rw [qI (fun z=>hl (by rw [z];exact hj))];exact (h.lkd j hj).2⟩,
  F,fun j hj d' q=>?_,fun j hj k hk h1 h2=>f.disj j hj k hk (get2 j h1) (get2 k h2),fun j hj k hk h1 h2=>f.flat j hj k hk (get2 j h1) (get2 k h2)⟩
 ·have hij:i≠j:=fun z=>hj (by rw [← z];exact hi.1)
  rw [qI hij] at q
  obtain ⟨v,a,b⟩:=h.ds.2.2 j d' hj q
  exact ⟨v,a,b.off h.ds.1 off⟩
 ·have:a≠p:=fun z=>by subst z;rw [w hl] at q;cases q
  rw [qJ this]
  exact h.h0 a u q
 ·by_cases hij:i=j
  ·subst hij
   rw [List.getElem?_set_self hz] at q;cases q
   exact ⟨p,e1,ow,c,n,w,fun z=>absurd z hl⟩
  ·rw [qI hij] at q
   obtain ⟨q',a,b',c',n',w'⟩:=h.own j hj d' q
   have:q'≠p:=fun z=>by subst z;exact hij (h.apart i hi j hj d₀ d' q' e0 q e1 a)
   exact ⟨q',a,b'.upd h.ds.1 c hm this,c',n',w'⟩
 ·obtain ⟨x1,y1⟩:=get j d1 h1
  obtain ⟨x2,y2⟩:=get k d2 h2
  exact h.apart j hj k hk x1 x2 q y1 y2 h3 h4
 ·rw [qI (dne j hj)] at q
  obtain ⟨q',a,b',c'⟩:=f.own j hj d' q
  exact ⟨q',a,b'.upd h.ds.1 c (f.flat i hi j hj ⟨_,e0⟩ ⟨_,q⟩ p e1),c'⟩
noncomputable def cut (P:Prop)(o:Option HO):Option HO:=@ite _ P (Classical.propDecidable P) none o
theorem j7 {P:Prop}{o:Option HO}(h:P):cut P o=none:=if_pos h
theorem yr {P:Prop}{o:Option HO}(h:¬ P):cut P o=o:=if_neg h
noncomputable def Gm.base (G:Gm)(S:Av)(H:Hp):Gm:={ G with H0:=fun a=>cut (S a/\G.H0 a=none) (H a) }
theorem Wd (h:Same G.H0 H):Same G.H0 (G.base S H).H0:=fun a o q=>(yr (fun z=>by rw [q] at z;cases z.2)).trans (h a o q)
theorem W2:Off S H (G.base S H).H0:=fun a o n q=>(yr (fun z=>n z.1)).trans q
theorem qbd:Same (G.base S H).H0 H:=fun a o q=>by
 have q:cut (S a/\G.H0 a=none) (H a)=some o:=q
 by_cases h:S a/\G.H0 a=none
 ·rw [j7 h] at q;cases q
 ·rw [yr h] at q;exact q
theorem OwnS.base (h:OwnS K G M L H S σ ρ):OwnS K (G.base S H) M L H S σ ρ:=by
 obtain ⟨F,f⟩:=h.deep
 refine ⟨h.ds,h.s0,qbd,fun i hi d q=>?_,h.apart,fun a z=>?_,h.lkd,F,fun i hi d q=>let ⟨p,a,b,c⟩:=f.own i hi d q;⟨p,a,b,fun r hr=>⟨(c r hr).1,(c r hr).2.1,j7 ⟨(c r hr).1,(c r hr).2.2⟩⟩⟩,f.disj,f.flat⟩
 ·obtain ⟨p,a,b,c,n,w,w'⟩:=h.own i hi d q
  exact ⟨p,a,b,c,n,fun hl=>j7 ⟨c,w hl⟩,w'⟩
 ·rcases h.bnd a z with y|y|y
  ·exact .inl y
  ·exact .inr (.inl (j7 ⟨z,y⟩))
  ·exact .inr (.inr y)
theorem OwnS.unbase {G':Gm}(s:Same G.H0 G'.H0)(e:G'.S0=G.S0)(e':G'.lk=G.lk)(h:OwnS K G' M L H S σ ρ):OwnS K G M L H S σ ρ:=by
 obtain ⟨F,f⟩:=h.deep
 refine ⟨h.ds,by rw [← e];exact h.s0,s.trans h.h0,fun i hi d q=>?_,h.apart,fun a z=>?_,by rw [← e'];exact h.lkd,F,fun i hi d q=>let ⟨p,a,b,c⟩:=f.own i hi d q;⟨p,a,b,fun r hr=>⟨(c r hr).1,by rw [← e];exact (c r hr).2.1,s.free (c r hr).2.2⟩⟩,f.disj,f.flat⟩
 ·obtain ⟨p,a,b,c,n,w,w'⟩:=h.own i hi d q
  exact ⟨p,a,b,c,by rw [← e];exact n,fun hl=>s.free (w hl),by rw [← e'];exact w'⟩
 ·rcases h.bnd a z with y|y|y
  ·exact .inl (by rw [← e];exact y)
  ·exact .inr (.inl (s.free y))
  ·exact .inr (.inr (by rw [← e'];exact y))
theorem OwnS.turn {G':Gm}{S':Av}{x:V}(s0:∀ a,G'.S0 a->S a)(sl:∀ i∈L,S (G'.lk i).1)(h:OwnS K G' M L H S' σ ρ)(q:Den K G'.H0 S x d):Den K H S' x d:=by
 refine (q.sub fun a ha z=>?_).same h.h0
 rcases h.bnd a z with y|y|⟨i,hi,rfl⟩
 ·exact s0 a y
 ·exact absurd y ha
 ·exact sl i hi
end
inductive Fr where
 | pl|nw|dp
def OutQ (K:PySem.W.Frag)(G:Gm)(M' Mb L:List Nat)(fr:Fr)(D:Ends):Out->Prop
 | .nx ρ=>∀ σ' H' S',OwnS K G M' L H' S' σ' ρ->D.nx σ' H'
 | .rt d=>match fr with
  | .nw=>∀ p H',Same G.H0 H'->G.H0 p=none->¬ G.S0 p->OwnO K H' (insA G.S0 p) p d->D.rt (.ref p) H'
  | .dp=>∀ p fp H',Same G.H0 H'->(∀ q∈fp,G.H0 q=none/\¬ G.S0 q)->DeepO K H' (insL G.S0 fp) fp p d->D.rt (.ref p) H'
  | .pl=>∀ v H',Same G.H0 H'->Den K H' G.S0 v d->D.rt v H'
 | .bk ρ=>∀ σ' H' S',OwnS K G Mb L H' S' σ' ρ->D.bk σ' H'
 | .ct ρ=>∀ σ' H' S',OwnS K G Mb L H' S' σ' ρ->D.ct σ' H'
def tDS (K:PySem.W.Frag)(G:Gm)(M L M' Mb:List Nat)(fr:Fr)(f:Rho->Option Out):TS:=fun D σ H=>∃ S ρ o,OwnS K G M L H S σ ρ/\f ρ=some o/\OutQ K G M' Mb L fr D o
def PDS (X:Cx)(G:Gm)(M L M' Mb:List Nat)(fr:Fr)(s:Stmt)(f:Rho->Option Out):Prop:=PS X s (tDS X.K G M L M' Mb fr f)
def PDSs (X:Cx)(G:Gm)(M L M' Mb:List Nat)(fr:Fr)(s:List Stmt)(f:Rho->Option Out):Prop:=PSs X s (tDS X.K G M L M' Mb fr f)
def tF (K:PySem.W.Frag)(M:List Nat)(f:Rho->Option PyData):TE:=fun σ H Q=>∃ S ρ d,DenS K H S M σ ρ/\f ρ=some d/\∀ p H',Same H H'->H p=none->OwnO K H' (insA S p) p d->Q (.ref p) H'
def PF (X:Cx)(M:List Nat)(e:Expr)(f:Rho->Option PyData):Prop:=PE X e (tF X.K M f)
def flatO:PyData->Bool
 | .list ds=>qah ds
 | _=>false
def seqO (u w:Rho->Option Out)(ρ:Rho):Option Out:=ob (u ρ) fun o=>match o with | .nx ρ'=>w ρ'|o=>some o
section
variable {X:Cx}{G:Gm}{M M1 M2 M' Mb L:List Nat}{fr:Fr}{a b c:Expr}{es:List Expr}{f g:Rho->Option PyData}{p:Rho->Option Bool}{pos:Pos}{s1:Stmt}{ss st1 st2:List Stmt}{u w:Rho->Option Out}
theorem Yn (h:PF X M a f):PD X M a f:=h.weak fun σ H Q ⟨S,ρ,d,hs,e,q⟩=>⟨S,ρ,d,hs,e,fun p H' g n o=>q _ H' g (o.den (hs.1.free n) fun a _ z=>.inl z)⟩
theorem qU:PDSs X G M L M Mb fr [] sN:=qb5.weak fun D σ H ⟨S,ρ,o,hs,e,q⟩=>by cases e;exact q σ H S hs
theorem qx (h1:PDS X G M L M1 Mb fr s1 u)(h2:PDSs X G M1 L M2 Mb fr ss w):PDSs X G M L M2 Mb fr (s1::ss) (seqO u w) :=
 (qaX h1 h2).weak fun D σ H ⟨S,ρ,o,hs,e,q⟩=>by
  obtain ⟨o1,e1,e⟩:=ql e
  refine ⟨S,ρ,o1,hs,e1,?_⟩
  cases o1 with
  | nx ρ'=>exact fun σ' H' S' hs'=>⟨S',ρ',o,hs',e,q⟩
  | rt d=>cases e;exact q
  | bk d=>cases e;exact q
  | ct d=>cases e;exact q
theorem qy (h1:PDS X G M L M' Mb fr s1 u):PDSs X G M L M' Mb fr [s1] u:=qb6 h1
theorem qC (h:PD X [] a f):PDS X G M L M' Mb .pl (.Return (some a) pos) (sRet f) :=
 (qds h).weak fun D σ H ⟨S,ρ,o,hs,e,q⟩=>by
  obtain ⟨d,e1,e⟩:=ql e
  cases e
  exact ⟨G.S0,ρ,d,hs.den,e1,fun v H' g1 d1=>q v H' (hs.h0.trans g1) d1⟩
theorem qdl (i:Nat){x:Str}(hv:Vis X.env.scope x)(hN:X.N[i]?=some x:=by rfl)(hd:(x==("__debug__" : Str))=false:=by decide +kernel)
  (hcd:(x==("__classdict__" : Str))=false:=by decide +kernel):PE X (.Name x pos) (fun σ H Q=>∃ v,σ[i]?=some (some v)/\Q v H):=qaO hN hv hd hcd
theorem w6 {i:Nat}{ρ:Rho}{d:PyData}(e:vr i ρ=some d):ρ[i]?=some (some d):=by
 have e:(ρ[i]?).join=some d:=e
 cases h:ρ[i]? with
 | none=>rw [h] at e;cases e
 | some o=>rw [h] at e;exact congrArg some e
theorem zm (hc:PDT X [] c p)(h1:PDSs X G M L M' Mb fr st1 u)(h2:PDSs X G M L M' Mb fr st2 w):PDS X G M L M' Mb fr (.If c st1 st2 pos) (sIf p u w) :=
 (ps_if hc h1 h2).weak fun D σ H ⟨S,ρ,o,hs,e,q⟩=>by
  obtain ⟨d,e1,e⟩:=ql e
  refine ⟨G.S0,ρ,d,hs.den,e1,fun H1 g1=>?_⟩
  cases d with
  | true=>exact iteT ⟨S,ρ,o,hs.same g1,e,q⟩
  | false=>exact iteF ⟨S,ρ,o,hs.same g1,e,q⟩
def tDG (K:PySem.W.Frag)(G:Gm)(M L:List Nat)(g:PyData->Rho->Option Rho):TG:=fun v σ H Q=>∃ S ρ d ρ',OwnS K G M L H S σ ρ/\Den K H S v d/\g d ρ=some ρ'/\∀ σ' H',Same H H'->OwnS K G M L H' S σ' ρ'->Q σ' H'
def tDGs (K:PySem.W.Frag)(G:Gm)(M L:List Nat)(g:List PyData->Rho->Option Rho):TGs:=fun vs σ H Q=>∃ S ρ ds ρ',OwnS K G M L H S σ ρ/\DenL K H S vs ds/\g ds ρ=some ρ'/\∀ σ' H',Same H H'->OwnS K G M L H' S σ' ρ'->Q σ' H'
def PDG (X:Cx)(G:Gm)(M L:List Nat)(t:Expr)(g:PyData->Rho->Option Rho):Prop:=PG X t (tDG X.K G M L g)
def PDGs (X:Cx)(G:Gm)(M L:List Nat)(t:List Expr)(g:List PyData->Rho->Option Rho):Prop:=PGs X t (tDGs X.K G M L g)
theorem Qf (i:Nat){x:Str}(hN:X.N.Nodup)(hx:Loc X.env.scope x)(hM:i∉M)(hi:X.N[i]?=some x:=by rfl)(hf:X.fn x=true\/X.env.scope.names.lookup x=some .local:=by first|exact .inl rfl|exact .inr rfl|assumption):PDG X G M L (.Name x pos) (gNm i) :=
 (w5 hN hi hx hf).weak fun v σ H Q ⟨S,ρ,d,ρ',hs,hd,e,q⟩=>by
  cases e
  exact q _ H (Same.refl H) (hs.set hd hM)
theorem Yo:PDGs X G M L [] gsN :=
 qb1.weak fun v σ H Q ⟨S,ρ,d,ρ',hs,hd,e,q⟩=>by
  cases hd with
  | nil=>cases e;exact ⟨rfl,q _ H (Same.refl H) hs⟩
  | cons a t=>cases e
theorem QB {t:Expr}{ts:List Expr}{g1:PyData->Rho->Option Rho}{g2:List PyData->Rho->Option Rho}(h1:PDG X G M L t g1)(h2:PDGs X G M L ts g2)(hs:(assignEach (t::ts) X.env).map (·.2)=assign t X.env::(assignEach ts X.env).map (·.2):=by rfl) :
  PDGs X G M L (t::ts) (gsC g1 g2) :=
 (qaS h1 h2 hs).weak fun v σ H Q ⟨S,ρ,d,ρ',hs,hd,e,q⟩=>by
  cases hd with
  | nil=>cases e
  | cons a t =>
   obtain ⟨ρ1,e1,e⟩:=ql e
   exact ⟨_,_,rfl,S,ρ,_,ρ1,hs,a,e1,fun σ' H' g1 hs'=>⟨S,ρ1,_,ρ',hs',t.same g1,e,fun σ2 H2 g2 hs2=>q σ2 H2 (g1.trans g2) hs2⟩⟩
theorem wR {ts:List Expr}{k:Nat}{n:Nat}{g:List PyData->Rho->Option Rho}(hc:X.calm=true)(h:PDGs X G M L ts g)(hn:(assignEach ts X.env).length=n:=by rfl)(hst:(assignEach ts X.env).findIdx? (·.1)=none:=by rfl):PDG X G M L (.Tuple ts k pos) (unpD n g) :=
 (qdn hc h hn hst).weak fun v σ H Q ⟨S,ρ,d,ρ',hs,hd,e,q⟩=>by
  cases hd with
  | @tuple a xs ds h t =>
   have e:(if ds.length=n then g ds ρ else none)=some ρ':=e
   split at e
   ·rename_i hl
    exact ⟨_,_,rfl,h,by rw [t.length];exact hl,S,ρ,_,ρ',hs,t,e,q⟩
   ·cases e
  | _=>cases e
theorem wV {tg:Expr}{g:PyData->Rho->Option Rho}(he:PD X M a f)(hg:PDG X G M L tg g)(hs:swapsWithSole [tg] a pos.line X.env=pure false:=by rfl)(hw:swappedStores [tg] a X.env=pure none:=by rfl)
  (h1:(assignEach [tg] X.env).map (·.2)=[assign tg X.env]:=by rfl):PDS X G M L M Mb fr (.Assign [tg] a pos) (sAsg f g) :=
 (qdr he hg hs hw h1).weak fun D σ H ⟨S,ρ,o,hs,e,q⟩=>by
  obtain ⟨d,e1,e⟩:=ql e
  obtain ⟨ρ',e2,e⟩:=ql e
  cases e
  exact ⟨S,ρ,d,hs.ds,e1,fun v H1 g1 d1=>⟨S,ρ,d,ρ',hs.same g1,d1,e2,fun σ2 H2 g2 hs2=>q σ2 H2 S hs2⟩⟩
theorem qL (i:Nat){x:Str}{p':Pos}(hN:X.N.Nodup)(hx:Loc X.env.scope x)(hi:X.N[i]?=some x)(hs:swapsWith a (some (.Name x p')) pos.line X.env=pure false)(hf:X.fn x=true\/X.env.scope.names.lookup x=some .local)(hM:i∉M)(he:PD X M a f) :
  PDS X G M L M Mb fr (.Assign [.Name x p'] a pos) (sSet i f) :=
 (qaW hN hi hx he hs hf).weak fun D σ H ⟨S,ρ,o,hs,e,q⟩=>by
  obtain ⟨d,e1,e⟩:=ql e
  cases e
  exact ⟨S,ρ,d,hs.ds,e1,fun v H1 g1 d1=>q _ H1 S ((hs.same g1).set d1 hM)⟩
def yh (i:Nat)(f:Rho->Option PyData):Rho->Option Out:=fun ρ=>if i<ρ.length then ob (f ρ) fun d=>some (.nx (ρ.set i (some d))) else none
theorem Yp (i:Nat){x:Str}{p':Pos}(hN:X.N.Nodup)(hx:Loc X.env.scope x)(hi:X.N[i]?=some x)(hs:swapsWith a (some (.Name x p')) pos.line X.env=pure false)(hf:X.fn x=true\/X.env.scope.names.lookup x=some .local)(hM:Out0 M i)(hL:i∉L)(he:PF X M a f) :
  PDS X G M L (i::M) Mb fr (.Assign [.Name x p'] a pos) (yh i f) :=
 (qaW hN hi hx he hs hf).weak fun D σ H ⟨S,ρ,o,hs,e,q⟩=>by
  unfold yh at e
  split at e
  ·rename_i hz
   obtain ⟨d,e1,e⟩:=ql e
   cases e
   exact ⟨S,ρ,d,hs.ds,e1,fun p H1 g1 n o=>q _ H1 _ (hs.take n g1 o hM hL hz)⟩
  ·cases e
def forD (g:PyData->Rho->Option Rho)(body:Rho->Option Out):List PyData->Rho->Option Out
 | [],ρ=>some (.nx ρ)
 | d::ds,ρ=>ob (g d ρ) fun ρ1=>ob (body ρ1) fun o=>match o with
  | .nx ρ'=>forD g body ds ρ'
  | .ct ρ'=>forD g body ds ρ'
  | .bk ρ'=>some (.nx ρ')
  | .rt r=>some (.rt r)
def sFor (fi:Rho->Option (List PyData))(g:PyData->Rho->Option Rho)(u:Rho->Option Out):Rho->Option Out:=fun ρ=>ob (fi ρ) fun ds=>forD g u ds ρ
theorem OutQ.based {K:PySem.W.Frag}{G':Gm}{D:Ends}{o:Out}(s:Same G.H0 G'.H0)(e:G'.S0=G.S0)(e':G'.lk=G.lk)(q:OutQ K G M' Mb L fr D o):OutQ K G' M' Mb L fr D o:=by
 cases o with
 | nx ρ=>exact fun σ' H' S' hs=>q σ' H' S' (hs.unbase s e e')
 | rt d =>
  cases fr with
  | nw=>exact fun p H' h0 n n' o=>q p H' (s.trans h0) (s.free n) (by rw [← e];exact n') (by rw [← e];exact o)
  | dp=>exact fun p fp H' h0 n o=>q p fp H' (s.trans h0) (fun r hr=>⟨s.free (n r hr).1,by rw [← e];exact (n r hr).2⟩) (by rw [← e];exact o)
  | pl=>exact fun v H' h0 d=>q v H' (s.trans h0) (by rw [← e];exact d)
 | bk ρ=>exact fun σ' H' S' hs=>q σ' H' S' (hs.unbase s e e')
 | ct ρ=>exact fun σ' H' S' hs=>q σ' H' S' (hs.unbase s e e')
theorem wW {tg iter:Expr}{body:List Stmt}{fi:Rho->Option (List PyData)}{g:PyData->Rho->Option Rho}(hp:PassesOwn (model X.prog X.w) X.A X.env X.xe)(hc:X.calm=true)(hi:PDI X M tg iter fi)(hg:∀ G,PDG X G M L tg g)(hb:∀ G,PDSs X G M L M M fr body u)
  (hs:∀ x,foldedSetIterable iter X.env x=pure x:=by intro _;rfl):PDS X G M L M Mb fr (.For tg iter body [] pos) (sFor fi g u):=by
 have hg':PG X tg (fun v σ H Q=>∃ G,tDG X.K G M L g v σ H Q):=fun pins s σ H v u Q I r ⟨G,q⟩=>hg G pins s σ H v u Q I r q
 have hb':PSs X body (fun D σ H=>∃ G,tDS X.K G M L M M fr u D σ H):=fun pins s σ H D I ⟨G,q⟩=>hb G pins s σ H D I q
 refine (qaV hp hc hi hg' hb' hs).weak fun D σ H ⟨S,ρ,o,os,e,q⟩=>?_
 obtain ⟨ds,e1,e⟩:=ql e
 refine ⟨S,ρ,ds,os.ds,e1,fun J H1 g1 hJ0=>?_⟩
 have os1:=os.same g1
 have hJ:IsIt X.K S J ((G.base S H1).H0) ds:=hJ0 _ W2
 have bs:Same G.H0 (G.base S H1).H0:=Wd os1.h0
 have bo:=os1.base
 have sl:=os1.lks
 generalize hG:G.base S H1=G1 at hJ bs bo
 have eS:G1.S0=G.S0:=by rw [← hG];rfl
 have eL:G1.lk=G.lk:=by rw [← hG];rfl
 have sl1:∀ i∈L,S (G1.lk i).1:=by rw [eL];exact sl
 have s01:∀ a,G1.S0 a->S a:=by rw [eS];exact os.s0
 refine ⟨fun i m σ' H'=>m=ds.length-i/\i<=ds.length/\∃ S' ρ o,OwnS X.K G1 M L H' S' σ' ρ/\forD g u (ds.drop i) ρ=some o/\OutQ X.K G M Mb L fr D o,⟨ds.length,by simp,Nat.zero_le _,S,ρ,o,bo,e,q⟩,?_⟩
 rintro i m σ' H' ⟨rfl,hi,S',ρ',o',hs',e',q'⟩
 by_cases hlt:i<ds.length
 ·rw [List.drop_eq_getElem_cons hlt] at e'
  obtain ⟨ρ1,e2,e'⟩:=ql e'
  obtain ⟨o1,e3,e'⟩:=ql e'
  have key:∀ N:St->Hp->Prop,OutQ X.K G1 M M L fr { D with nx:=N,ct:=N,bk:=D.nx } o1->∀ x H2,J.yld i H' x H2->∃ G,tDG X.K G M L g x σ' H2 fun σ2 H2=>∃ G,tDS X.K G M L M M fr u { D with nx:=N,ct:=N,bk:=D.nx } σ2 H2:=fun N hN x H2 y=>by
   obtain ⟨e4,yd⟩:=hJ.yld i H' x H2 hs'.h0 y
   exact ⟨G1,S',ρ',_,ρ1,hs'.same e4,yd _ (List.getElem?_eq_getElem hlt) S' fun y e q=>(hs'.turn s01 sl1 q).same e4,e2,fun σ2 H3 g3 hs3=>⟨G1,S',ρ1,o1,hs3,e3,hN⟩⟩
  refine .inr ⟨hJ.go i H' hs'.h0 hlt,?_⟩
  have next:∀ ρ2,forD g u (ds.drop (i+1)) ρ2=some o'->∃ N:St->Hp->Prop,(∀ σ' H'',N σ' H''->∃ m',m'<ds.length-i/\(m'=ds.length-(i+1)/\i+1<=ds.length/\∃ S' ρ o,OwnS X.K G1 M L H'' S' σ' ρ/\forD g u (ds.drop (i+1)) ρ=some o/\OutQ X.K G M Mb L fr D o))/\∀ σ2 H2 S2,OwnS X.K G1 M L H2 S2 σ2 ρ2->N σ2 H2:=fun ρ2 e4 =>
   ⟨fun σ2 H2=>∃ S2,OwnS X.K G1 M L H2 S2 σ2 ρ2,fun σ2 H2 ⟨S2,hs3⟩=>⟨ds.length-(i+1),by omega,rfl,hlt,S2,ρ2,o',hs3,e4,q'⟩,fun σ2 H2 S2 hs3=>⟨S2,hs3⟩⟩
  cases o1 with
  | nx ρ2 =>
   obtain ⟨N,n1,n2⟩:=next ρ2 e'
   exact ⟨N,n1,key N fun σ3 H3 S3 hs3=>n2 σ3 H3 S3 hs3⟩
  | ct ρ2 =>
   obtain ⟨N,n1,n2⟩:=next ρ2 e'
   exact ⟨N,n1,key N fun σ3 H3 S3 hs3=>n2 σ3 H3 S3 hs3⟩
  | bk ρ2 =>
   cases e'
   exact ⟨fun _ _=>False,fun _ _ z=>z.elim,key _ fun σ3 H3 S3 hs3=>q' σ3 H3 S3 (hs3.unbase bs eS eL)⟩
  | rt r =>
   cases e'
   refine ⟨fun _ _=>False,fun _ _ z=>z.elim,key _ ?_⟩
   have q2:OutQ X.K G1 M Mb L fr D (.rt r):=q'.based bs eS eL
   exact q2
 ·have hi':i=ds.length:=by omega
  subst hi'
  rw [List.drop_length] at e'
  cases e'
  exact .inl ⟨hJ.stop H' hs'.h0,q' σ' H' S' (hs'.unbase bs eS eL)⟩
end
def outD:Out->Option PyData
 | .rt d=>some d
 | .nx _=>some .none
 | _=>none
def rho0 (n:Nat)(ds:List PyData):Rho:=ds.map some++List.replicate (n-ds.length) none
def G0 (H:Hp)(S:Av):Gm:=⟨H,S,fun _=>(0,.none)⟩
theorem OwnS.start {K:PySem.W.Frag}{H:Hp}{S:Av}{vs:List V}{ds:List PyData}(m:Dm S H)(h:DenL K H S vs ds)(N:List Str):OwnS K (G0 H S) [] [] H S (start N vs) (rho0 N.length ds) :=
 ⟨DenS.start m h N,fun _ z=>z,Same.refl _,(fun _ h=>nomatch h.1),(fun _ h=>nomatch h.1),fun _ z=>.inl z,(fun _ h=>nomatch h),fun _=>[],(fun _ h=>nomatch h.1),(fun _ h=>nomatch h.1),(fun _ h=>nomatch h.1)⟩
structure FunG (K:PySem.W.Frag)(x qual:Str)(st:Stmt)(f:Addr)(fd:FuncData):Prop where
 ex:∃ (oc dV:Value) (od:Option Addr) (kV doc pm:Value) (an:Option Addr) (cdv ct:Value) (osl:Array (Option Value)),
  fd=PySem.W.fnOf x qual (Qt st) (zu st) (qj st) dV kV doc pm an cdv ct/\K.lookup f=some ⟨oc,od,.func fd,osl⟩/\PySem.W.codeIn K cdv qual=true
 kp:PySem.W.keepIn K (.ref f)=true
theorem Fun.g {K:PySem.W.Frag}{x qual:Str}{st:Stmt}{f:Addr}{fd:FuncData}(F:Fun K x qual st f fd):FunG K x qual st f fd:=by
 obtain ⟨oc,od,kV,doc,pm,an,cdv,ct,osl,e,lk,hcd⟩:=F.ex
 exact ⟨⟨oc,_,od,kV,doc,pm,an,cdv,ct,osl,e,lk,hcd⟩,F.kp⟩
section
variable {P:Program}{w:World}{K:PySem.W.Frag}{mg:Str->Option Value}{base:Heap}
theorem FunG.ok {x qual:Str}{st:Stmt}{f:Addr}{fd:FuncData}{N ps:List Str}{k:Nat}{sp:Sp}(F:FunG K x qual st f fd)(S:FnScope N ps (qj st))(len:∀ vs H Q E,sp vs H Q E->vs.length=ps.length)
  (hbody:∀ (cdv:Value) (A:Around) (outer:List Env) (s:Shared) (H:Hp) (vs:List V) (Q:VK) (E:XK),Room k (A.deeper (envOfC qual (qj st) s.heap.objs.size f cdv))->sp vs H Q E->
   ∃ t,PSs (cxOf CX0 P w K mg base N qual (qj st) f cdv A outer s H E).nox (zu st) t/\t { nx:=fun _ H'=>Q .non H',rt:=Q } (start N vs) H):FnOk P w K mg base CX0 (k+1) f fd ps sp:=by
 obtain ⟨oc,dV,od,kV,doc,pm,an,cdv,ct,osl,rfl,lk,hcd⟩:=F.ex
 refine qco lk hcd S len fun A outer s H vs Q E hr hsp=>?_
 obtain ⟨t,h,q⟩:=hbody cdv A outer s H vs Q E hr hsp
 exact ⟨t,h.nox,q⟩
theorem FunG.pure {x qual:Str}{st:Stmt}{f:Addr}{fd:FuncData}{N ps:List Str}{k n:Nat}{u:Rho->Option Out}{M':List Nat}(F:FunG K x qual st f fd)(S:FnScope N ps (qj st))(hn:ps.length=n)
  (hbody:∀ (cdv:Value) (A:Around) (outer:List Env) (s:Shared) (H:Hp) (E:XK),Room k (A.deeper (envOfC qual (qj st) s.heap.objs.size f cdv))->∀ G:Gm,
   PDSs (cxOf CX0 P w K mg base N qual (qj st) f cdv A outer s H E).nox G [] [] M' [] .pl (zu st) u) :
  FnOk P w K mg base CX0 (k+1) f fd ps (spF K n fun ds=>ob (u (rho0 N.length ds)) outD):=by
 refine F.ok S (fun vs H Q E h=>?_) (fun cdv A outer s H vs Q E hr h=>?_)
 ·obtain ⟨_,ds,d,_,h1,h2,_⟩:=h
  rw [h1.length,h2,hn]
 ·obtain ⟨Sv,ds,d,m,h1,h2,e,q⟩:=h
  obtain ⟨o,e1,e⟩:=ql e
  refine ⟨_,hbody cdv A outer s H E hr (G0 H Sv),Sv,rho0 N.length ds,o,OwnS.start m h1 N,e1,?_⟩
  cases o with
  | rt r=>cases e;exact q
  | nx ρ=>cases e;exact fun σ' H' S' hs=>q _ H' hs.h0 .none
  | bk ρ=>cases e
  | ct ρ=>cases e
theorem Fun.pure {x qual:Str}{st:Stmt}{f:Addr}{fd:FuncData}{N ps:List Str}{k n:Nat}{u:Rho->Option Out}{M':List Nat}(F:Fun K x qual st f fd)(S:FnScope N ps (qj st))(hn:ps.length=n)
  (hbody:∀ (cdv:Value) (A:Around) (outer:List Env) (s:Shared) (H:Hp) (E:XK),Room k (A.deeper (envOfC qual (qj st) s.heap.objs.size f cdv))->∀ G:Gm,
   PDSs (cxOf CX0 P w K mg base N qual (qj st) f cdv A outer s H E).nox G [] [] M' [] .pl (zu st) u) :
  FnOk P w K mg base CX0 (k+1) f fd ps (spF K n fun ds=>ob (u (rho0 N.length ds)) outD) :=
 F.g.pure S hn hbody
structure Known (P:Program)(w:World)(K:PySem.W.Frag)(mg:Str->Option Value)(base:Heap)(x:Str)(n k:Nat)(h:List PyData->Option PyData):Prop where
 ex:∃ (f:Addr) (fd:FuncData) (ps:List Str),FnOk P w K mg base CX0 k f fd ps (spF K n h)/\mg x=some (.ref f)/\PySem.W.keepIn K (.ref f)=true/\Binds K fd ps []
end
section
variable {X:Cx}{G:Gm}{M M' Mb L:List Nat}{fr:Fr}{a b c:Expr}{es:List Expr}{f g:Rho->Option PyData}{p:Rho->Option Bool}{pos:Pos}{u:Rho->Option Out}
theorem qw {x:Str}{p:Pos}{n k k':Nat}{h:List PyData->Option PyData}{fs:Rho->Option (List PyData)}(F:Known X.prog X.w X.K X.mg X.base x n k h)(hr:Room k' X.A)(hk:k<=k')(hg:Gl X x)(ha:PDA X M (a::es) fs)(hl:(a::es).length=n)
  (hdb:(x==("__debug__" : Str))=false:=by decide +kernel) (he:starEach (a::es) X.env=(false,eval a X.env)::starEach es X.env:=by rfl) (hpl:(backTo pos (starEach es X.env)).any (·.1)=false:=by rfl) :
  PD X M (.Call (.Name x p) (a::es) [] pos) (evC n fs h):=by
 obtain ⟨f,fd,ps,F,m,kp,b⟩:=F.ex
 exact qbS F (hr.mono hk) hg m kp b qay ha hl hdb he hpl
theorem OwnO.laid {K:PySem.W.Frag}{H:Hp}{S:Av}{p:Addr}{vs:List V}{ds:List PyData}(n:H p=none)(t:DenL K H S vs ds):OwnO K (L2.upd H p (.lst vs)) (insA S p) p (.list ds) :=
 .lst qN ((t.sub fun a ha z=>z.elim id fun y=>absurd (by rw [y];exact n) ha).same (Same.lay n))
theorem qaR {fs:Rho->Option (List PyData)}(h:PDA X M es fs):PF X M (.List es pos) (evA fs lstD) :=
 (qaL h).weak fun σ H Q ⟨S,ρ,d,hs,e,q⟩=>by
  obtain ⟨xs,e1,e⟩:=ql e
  obtain ⟨hz,rfl⟩:=J9 e
  exact ⟨S,ρ,xs,hs,e1,fun vs H1 g1 d1=>⟨Nat.le_of_lt (zB (by rw [d1.length];exact hz)),fun p hp=>q _ _ (g1.lay' hp) (g1.free hp) (OwnO.laid hp d1)⟩⟩
def appD:PyData->PyData->Option PyData
 | .list ds,d=>if ds.length<1000 then some (.list (ds++[d])) else none
 | _,_=>none
def sApp (i:Nat)(f:Rho->Option PyData):Rho->Option Out:=fun ρ=>ob (vr i ρ) fun l=>ob (f ρ) fun d=>ob (appD l d) fun l'=>some (.nx (ρ.set i (some l')))
theorem Wc {l d l':PyData}(e:appD l d=some l'):∃ ds,l=.list ds/\ds.length<1000/\l'=.list (ds++[d]):=by
 unfold appD at e
 split at e
 ·split at e
  ·rename_i hz;cases e;exact ⟨_,rfl,hz,rfl⟩
  ·cases e
 ·cases e
theorem Off.upd {S:Av}{H:Hp}{p:Addr}{o:HO}(c:S p):Off S H (L2.upd H p o):=fun b u z e=>by
 rw [qJ (fun y=>z (by rw [y];exact c))];exact e
theorem wU (i:Nat){x:Str}{px apos cpos:Pos}(hv:Vis X.env.scope x)(hM:Flt M i)(hL:i∉L)(he:PD X M a f)(hN:X.N[i]?=some x:=by rfl)(hd:(x==("__debug__" : Str))=false:=by decide +kernel)(hcd:(x==("__classdict__" : Str))=false:=by decide +kernel)
  (hbase:attributeBase (.Name x px) "append" X.env (eval (.Name x px) X.env)=eval (.Name x px) X.env:=by rfl)
  (hfew:((backTo cpos (starEach [a] X.env)).all (fun x=>!x.1)&&(backToKw cpos (keywordEach [] X.env)).all (fun x=>x.1.isSome)
   && decide ([a].length+([]:List Keyword).length+(if ([]:List Keyword).isEmpty then 0 else 1)<30))=true:=by rfl)
  (hline:(apos.endLine==cpos.line)=true:=by rfl) (hs:starEach [a] X.env=(false,eval a X.env)::starEach [] X.env:=by rfl) (hplain:(backTo cpos (starEach [] X.env)).any (·.1)=false:=by rfl)
  (hsw:swapsWith (.Call (.Attribute (.Name x px) "append" apos) [a] [] cpos) none pos.line X.env=pure false:=by rfl) :
  PDS X G M L M Mb fr (.Expr (.Call (.Attribute (.Name x px) "append" apos) [a] [] cpos) pos) (sApp i f) :=
 (qb4 (pe_bm PySem.F.plainAttrs_list PySem.F.slot_list_append PySem.F.type_list_append WK (qdl i hv hN hd hcd) (qb he qg hs) hbase hfew hline hs hplain) hsw).weak fun D σ H ⟨S,ρ,o,os,e,q⟩=>by
  obtain ⟨l,e1,e⟩:=ql e
  obtain ⟨d,e2,e⟩:=ql e
  obtain ⟨l',e3,e⟩:=ql e
  cases e
  obtain ⟨ds,rfl,hz,rfl⟩:=Wc e3
  obtain ⟨pp,a1,b1,c1,n1,w1,_⟩:=os.own i hM _ (w6 e1)
  cases b1 with
  | @lst xs _ h t =>
   refine ⟨_,a1,.inl ⟨rfl,_,SqL.of h⟩,S,ρ,[d],os.ds,by show ob (f ρ) _=_;rw [e2];rfl,fun vs H2 g2 dl=>?_⟩
   obtain ⟨v,rfl,dv⟩:=dl.inv1
   have os2:=os.same g2
   refine ⟨pp,xs,v,rfl,rfl,g2 _ _ h,Nat.lt_of_lt_of_le (by rw [t.length];exact hz) (Nat.le_of_lt (zB (Nat.le_refl _))),?_⟩
   exact q _ _ _ (os2.write hM hL (w6 e1) a1 rfl (.lst qN (((t.same g2).snoc dv).off os2.ds.1 (Off.upd c1))))
def isNone:PyData->Bool
 | .none=>true
 | _=>false
end
section
variable {X:Cx}{G:Gm}{M M' Mb L:List Nat}{fr:Fr}{a b c:Expr}{es:List Expr}{f g:Rho->Option PyData}{p:Rho->Option Bool}{pos:Pos}{u:Rho->Option Out}
def intD:PyData->Option Int
 | .int i=>some i
 | _=>none
def PDO (X:Cx)(M:List Nat)(e:Option Expr)(f:Rho->Option (Option Int)):Prop:=PO X e (fun σ H Q=>∃ S ρ i,DenS X.K H S M σ ρ/\f ρ=some i/\∀ H',Same H H'->Q i H')
def oN:Rho->Option (Option Int):=fun _=>some none
def oS (f:Rho->Option PyData):Rho->Option (Option Int):=fun ρ=>ob (f ρ) fun d=>ob (intD d) fun i=>some (some i)
theorem Wo {d:PyData}{i:Int}(h:intD d=some i):d=.int i:=by cases d<;>first|(cases h;rfl)|cases h
theorem qaF:PDO X M none oN:=fun pins s σ H Q I ⟨S,ρ,i,hs,e,q⟩=>by
 cases e
 exact qb2 pins s σ H Q I (q H (Same.refl H))
theorem qaG (h:PD X M a f):PDO X M (some a) (oS f):=fun pins s σ H Q I ⟨S,ρ,i,hs,e,q⟩=>by
 obtain ⟨d,e1,e⟩:=ql e
 obtain ⟨j,e2,e⟩:=ql e
 cases e
 cases Wo e2
 exact qb3 h pins s σ H Q I ⟨S,ρ,_,hs,e1,fun v H' g d=>⟨j,d.int_inv,q H' g⟩⟩
def cutD (ds:List PyData)(lo hi:Option Int):List PyData:=(ds.drop (HT.sIx ds.length 0 lo)).take (HT.sIx ds.length ds.length hi-HT.sIx ds.length 0 lo)
def sliD (x:PyData)(lo hi:Option Int):Option PyData:=match x with
 | .list ds=>some (.list (cutD ds lo hi))
 | .tuple ds=>if HT.sIx ds.length 0 lo=0/\HT.sIx ds.length ds.length hi=ds.length then none else some (.tuple (cutD ds lo hi))
 | _=>none
def evS (fa:Rho->Option PyData)(fl fh:Rho->Option (Option Int)):Rho->Option PyData:=fun ρ=>ob (fa ρ) fun x=>ob (fl ρ) fun l=>ob (fh ρ) fun h=>sliD x l h
theorem yR {K:PySem.W.Frag}{H:Hp}{S:Av}{vs:List V}{ds:List PyData}(t:DenL K H S vs ds)(lo hi:Option Int):DenL K H S (cutV vs lo hi) (cutD ds lo hi):=by
 unfold cutV cutD
 rw [t.length]
 exact (t.drop _).take _
theorem qaE {lo hi:Option Expr}{fl fh:Rho->Option (Option Int)}{p2:Pos}(ha:PD X M a f)(hl:PDO X M lo fl)(hh:PDO X M hi fh):PD X M (.Subscript a (.Slice lo hi none p2) pos) (evS f fl fh) :=
 (qaM (r:=fun x lo hi H Q=>rSlL X.K x lo hi H Q\/rSlT X.K x lo hi H Q) (qcd.or qdI) ha hl hh).weak fun σ H Q ⟨S,ρ,d,hs,e,q⟩=>by
  obtain ⟨x,e1,e⟩:=ql e
  obtain ⟨l,e2,e⟩:=ql e
  obtain ⟨h,e3,e⟩:=ql e
  refine ⟨S,ρ,x,hs,e1,fun v H1 g1 d1=>⟨S,ρ,l,hs.same g1,e2,fun H2 g2=>⟨S,ρ,h,hs.same (g1.trans g2),e3,fun H3 g3=>?_⟩⟩⟩
  have g13:=g1.trans (g2.trans g3)
  have d3:=d1.same (g2.trans g3)
  cases d3 with
  | list hq t =>
   cases e
   exact .inl ⟨_,_,rfl,hq.sq,fun p hp=>q _ _ (g13.lay' hp) (.list (SqLS.new qN ((hs.1.same g13).free hp)) ((yR t l h).same (Same.lay hp)))⟩
  | @tuple a' xs ds hq t =>
   have e:(if HT.sIx ds.length 0 l=0/\HT.sIx ds.length ds.length h=ds.length then none else some (PyData.tuple (cutD ds l h)))=some d:=e
   split at e
   ·cases e
   ·rename_i hc
    cases e
    refine .inr ⟨_,_,rfl,hq,by rw [t.length];exact hc,fun p hp=>q _ _ (g13.lay' hp) (.tuple (SqT.of qN) ((yR t l h).same (Same.lay hp)))⟩
  | _=>cases e
def wk (x y:PyData):Option PyData:=match x,y with
 | .int i,.int j=>some (.int (i+j))
 | .tuple ds,.tuple es=>if ds.length+es.length<=1000 then some (.tuple (ds++es)) else none
 | _,_=>none
theorem qaa {prog:Program}{w:World}{A:Around}{E:Value->Shared->Prop}{s:Shared}{t b:Addr}{vs ws:List Value}{Q:Value->Shared->Prop}(ht:IsTup s.heap t vs.toArray)(hb:IsTup s.heap b ws.toArray)(hv:vs=[])(h:Q (.ref b) s) :
  wpAny (model prog w) A (binaryOp .Add (.ref t) (.ref b)) Q E s:=by
 obtain ⟨⟨cls,dd,data,sl⟩,ho,hc,n,hd⟩:=id ht
 obtain ⟨⟨cls2,dd2,data2,sl2⟩,ho2,hc2,n2,hd2⟩:=id hb
 simp only at hc hd hc2 hd2
 subst hc hd hc2 hd2
 exact concat_meets ⟨_,ho,rfl⟩ ⟨_,ho2,rfl⟩ noFill_tuple_add seq_tuple_add PySem.F.slot_tuple_add PySem.F.entry_tuple_add (PySem.F.args_tuple_add_2 _ _) (tuple_addW0 t b vs.toArray ws.toArray n n2 dd dd2 sl sl2 (by simp [hv])) ⟨ho,ho2,h⟩
theorem qbL:OpR X (binaryOp .Add) (fun x y H Q=>∃ a b ys,x=.ref a/\y=.ref b/\SqT X.K H a []/\SqT X.K H b ys/\Q (.ref b) H):=by
 intro pins s σ H x y v u Q I rx ry h
 obtain ⟨a,b,ys,rfl,rfl,ha,hb,q⟩:=h
 cases rx
 cases ry
 obtain ⟨its,r1,p1,_⟩:=I.tuple ha
 obtain ⟨its2,r2,p2,_⟩:=I.tuple hb
 exact qaa p1 p2 (r1.nil_iff.mpr rfl) ⟨.ref b,H,I,rfl,q⟩
theorem qae:OpD X (binaryOp .Add) wk:=by
 refine Z0 (r:=fun x y H Q=>rI0 (fun i j=>.int (i+j)) x y H Q\/(qcs X.K x y H Q\/(∃ a b ys,x=.ref a/\y=.ref b/\SqT X.K H a []/\SqT X.K H b ys/\Q (.ref b) H))) (qc7.or (qbN.or qbL)) fun x y dx dy d H S Q m h1 h2 e q=>?_
 unfold wk at e
 split at e
 ·cases e;cases h1;cases h2
  exact .inl ⟨_,_,rfl,rfl,q _ H (Same.refl H) (.int _)⟩
 ·split at e
  ·rename_i ds es hc
   cases e
   cases h1 with
   | tuple a1 t1 =>
    cases h2 with
    | tuple a2 t2 =>
     cases ds with
     | nil =>
      cases t1
      exact .inr (.inr ⟨_,_,_,rfl,rfl,a1,a2,q _ H (Same.refl H) (.tuple a2 t2)⟩)
     | cons d0 ds =>
      refine .inr (.inl ⟨_,_,_,_,rfl,rfl,a1,a2,fun z=>?_,?_,fun z=>?_,fun z p hp=>q _ _ (Same.lay hp) (.tuple (SqT.of qN) ((t1.append t2).same (Same.lay hp)))⟩)
      ·subst z;cases t1
      ·rw [t1.length,t2.length]
       exact Nat.le_of_lt (zB hc)
      ·subst z;cases t2
       rw [List.append_nil] at q
       exact q _ H (Same.refl H) (.tuple a1 t1)
  ·cases e
 ·cases e
end
section
variable {X:Cx}{G:Gm}{M M1 M' Mb L:List Nat}{fr:Fr}{a b c:Expr}{es:List Expr}{f g:Rho->Option PyData}{p:Rho->Option Bool}{pos:Pos}{u:Rho->Option Out}{ss:List Stmt}{s1:Stmt}
def PDR (X:Cx)(tg iter:Expr)(f:Rho->Option (List PyData)):Prop:=PI X tg iter (fun σ H R=>∃ S ρ ds,DenS X.K H S [] σ ρ/\f ρ=some ds/\∀ J H',Same H H'->(∀ H2 S2,IsIt X.K S2 J H2 ds)->R J H')
theorem YW {tg:Expr}{fs:Rho->Option (List PyData)}{p:Pos}(hg:Gl X "range")(hm:X.mg "range" = none)(ha:PDA X [] [a] fs)(hs:starEach [a] X.env=[(false,eval a X.env)]:=by rfl):PDR X tg (.Call (.Name "range" p) [a] [] pos) (evR fs jt) :=
 (yg hg hm ha hs).weak fun σ H R ⟨S,ρ,ds,hs,e,w⟩=>by
  obtain ⟨xs,e1,e⟩:=ql e
  refine ⟨S,ρ,xs,hs,e1,fun vs H1 g1 d1=>?_⟩
  unfold jt at e
  split at e
  ·rename_i j
   split at e
   ·rename_i hj
    cases e
    obtain ⟨v,rfl,q⟩:=d1.inv1
    cases q
    exact ⟨j,rfl,by omega,by omega,w _ _ g1 fun _ _=>IsIt.rng 0 _⟩
   ·cases e
  ·cases e
theorem qaH {tg iter:Expr}{body:List Stmt}{fi:Rho->Option (List PyData)}{g:PyData->Rho->Option Rho}(hp:PassesOwn (model X.prog X.w) X.A X.env X.xe)(hc:X.calm=true)(hi:PDR X tg iter fi)(hg:PDG X G M L tg g)(hb:PDSs X G M L M M fr body u)
  (hs:∀ x,foldedSetIterable iter X.env x=pure x:=by intro _;rfl):PDS X G M L M Mb fr (.For tg iter body [] pos) (sFor fi g u):=by
 refine (qaV hp hc hi hg hb hs).weak fun D σ H ⟨S,ρ,o,os,e,q⟩=>?_
 obtain ⟨ds,e1,e⟩:=ql e
 refine ⟨G.S0,ρ,ds,os.den,e1,fun J H1 g1 hJ=>?_⟩
 refine ⟨fun i m σ' H'=>m=ds.length-i/\i<=ds.length/\∃ S' ρ o,OwnS X.K G M L H' S' σ' ρ/\forD g u (ds.drop i) ρ=some o/\OutQ X.K G M Mb L fr D o,⟨ds.length,by simp,Nat.zero_le _,S,ρ,o,os.same g1,e,q⟩,?_⟩
 rintro i m σ' H' ⟨rfl,hi,S',ρ',o',hs',e',q'⟩
 by_cases hlt:i<ds.length
 ·rw [List.drop_eq_getElem_cons hlt] at e'
  obtain ⟨ρ1,e2,e'⟩:=ql e'
  obtain ⟨o1,e3,e'⟩:=ql e'
  have key:∀ N:St->Hp->Prop,OutQ X.K G M M L fr { D with nx:=N,ct:=N,bk:=D.nx } o1->∀ x H2,J.yld i H' x H2->tDG X.K G M L g x σ' H2 fun σ2 H2=>tDS X.K G M L M M fr u { D with nx:=N,ct:=N,bk:=D.nx } σ2 H2:=fun N hN x H2 y=>by
   obtain ⟨e4,yd⟩:=(hJ H' S').yld i H' x H2 (Same.refl _) y
   exact ⟨S',ρ',_,ρ1,hs'.same e4,yd _ (List.getElem?_eq_getElem hlt) S' fun y e q=>q.same e4,e2,fun σ2 H3 g3 hs3=>⟨S',ρ1,o1,hs3,e3,hN⟩⟩
  refine .inr ⟨(hJ H' S').go i H' (Same.refl _) hlt,?_⟩
  have next:∀ ρ2,forD g u (ds.drop (i+1)) ρ2=some o'->∃ N:St->Hp->Prop,(∀ σ' H'',N σ' H''->∃ m',m'<ds.length-i/\(m'=ds.length-(i+1)/\i+1<=ds.length/\∃ S' ρ o,OwnS X.K G M L H'' S' σ' ρ/\forD g u (ds.drop (i+1)) ρ=some o/\OutQ X.K G M Mb L fr D o))/\∀ σ2 H2 S2,OwnS X.K G M L H2 S2 σ2 ρ2->N σ2 H2:=fun ρ2 e4 =>
   ⟨fun σ2 H2=>∃ S2,OwnS X.K G M L H2 S2 σ2 ρ2,fun σ2 H2 ⟨S2,hs3⟩=>⟨ds.length-(i+1),by omega,rfl,hlt,S2,ρ2,o',hs3,e4,q'⟩,fun σ2 H2 S2 hs3=>⟨S2,hs3⟩⟩
  cases o1 with
  | nx ρ2 =>
   obtain ⟨N,n1,n2⟩:=next ρ2 e'
   exact ⟨N,n1,key N fun σ3 H3 S3 hs3=>n2 σ3 H3 S3 hs3⟩
  | ct ρ2 =>
   obtain ⟨N,n1,n2⟩:=next ρ2 e'
   exact ⟨N,n1,key N fun σ3 H3 S3 hs3=>n2 σ3 H3 S3 hs3⟩
  | bk ρ2 =>
   cases e'
   exact ⟨fun _ _=>False,fun _ _ z=>z.elim,key _ fun σ3 H3 S3 hs3=>q' σ3 H3 S3 hs3⟩
  | rt r =>
   cases e'
   have q2:OutQ X.K G M Mb L fr D (.rt r):=q'
   exact ⟨fun _ _=>False,fun _ _ z=>z.elim,key _ q2⟩
 ·have hi':i=ds.length:=by omega
  subst hi'
  rw [List.drop_length] at e'
  cases e'
  exact .inl ⟨(hJ H' S').stop H' (Same.refl _),q' σ' H' S' hs'⟩
end
def intsOf:List PyData->Option (List Int)
 | []=>some []
 | .int i::r=>ob (intsOf r) fun ns=>some (i::ns)
 | _::_=>none
def boolsOf:List PyData->Option (List Bool)
 | []=>some []
 | .bool i::r=>ob (boolsOf r) fun ns=>some (i::ns)
 | _::_=>none
theorem jf:∀ {ds:List PyData} {ns:List Bool},boolsOf ds=some ns->ds=ns.map .bool
 | [],_,h=>by cases h;rfl
 | .bool i::r,ns,h=>by
  obtain ⟨ms,e1,e2⟩:=ql h
  cases e2
  rw [jf e1]
  rfl
 | .none::_,_,h=>by cases h
 | .int _::_,_,h=>by cases h
 | .str _::_,_,h=>by cases h
 | .list _::_,_,h=>by cases h
 | .tuple _::_,_,h=>by cases h
 | .dict _::_,_,h=>by cases h
def inOk (ds:List PyData)(x:PyData):Bool:=PyData.canLayAll0 ds&&(x.canLay0&&decide (x.depth<=63))
def inL (ds:List PyData)(x:PyData):Bool:=ds.any fun y=>PyData.eqv y x
def inD (x y:PyData):Option PyData:=match y with
 | .list ds=>if inOk ds x=true then some (.bool (inL ds x)) else none
 | .tuple ds=>if inOk ds x=true then some (.bool (inL ds x)) else none
 | _=>none
def allD:List PyData->Option PyData
 | [.list ds]=>ob (boolsOf ds) fun bs=>some (.bool (bs.all id))
 | _=>none
section
variable {X:Cx}
theorem Jr {ds:List PyData}{x:PyData}(h:inOk ds x=true):PyData.canLayAll0 ds=true/\x.canLay0=true/\x.depth<=63:=by
 unfold inOk at h
 rw [Bool.and_eq_true,Bool.and_eq_true] at h
 exact ⟨h.1,h.2.1,of_decide_eq_true h.2.2⟩
theorem wF {A:Around}{ds:List PyData}{x:PyData}(hd:x.depth<=63)(hu:A.units+64<cLine):A.units+1+min (PyData.depthAll ds) x.depth<cLine:=by
 have:=Nat.min_le_right (PyData.depthAll ds) x.depth
 omega
theorem d_in {k:Nat}(hr:Room k X.A):OpD X (compareOp .In) inD:=by
 intro pins s σ H x y v u Q I rx ry h
 obtain ⟨S,dx,dy,d,m,h1,h2,e,q⟩:=h
 unfold inD at e
 split at e
 ·split at e
  ·rename_i hc
   obtain ⟨c1,c2,c3⟩:=Jr hc
   cases e
   obtain ⟨as,q1⟩:=h1.reads I c2 rx
   obtain ⟨bs,q2⟩:=h2.reads I (by rw [PyData.canLay0];exact c1) ry
   exact SeqAt.in_list_reads q2 q1 c1 c2 (wF c3 hr.units) (Jm I (q _ H (Same.refl H) (.bool _)) rfl)
  ·cases e
 ·split at e
  ·rename_i hc
   obtain ⟨c1,c2,c3⟩:=Jr hc
   cases e
   obtain ⟨as,q1⟩:=h1.reads I c2 rx
   obtain ⟨bs,q2⟩:=h2.reads I (by rw [PyData.canLay0];exact c1) ry
   exact SeqAt.in_tuple_reads q2 q1 c1 c2 (wF c3 hr.units) (Jm I (q _ H (Same.refl H) (.bool _)) rfl)
  ·cases e
 ·cases e
theorem DenL.bools_inv {K:PySem.W.Frag}{H:Hp}{S:Av}:∀ {vs:List V} {ns:List Bool},DenL K H S vs (ns.map PyData.bool)->vs=ns.map V.bl
 | _,[],h=>by cases h;rfl
 | _,n::ns,h=>by
  cases h with
  | cons a t=>cases a;rw [t.bools_inv];rfl
theorem jP:∀ {ns:List Bool} {us:List Value},Vals (ns.map V.bl) us->LSm.BoolsAre us ns
 | [],_,h=>by cases h;exact .nil
 | n::ns,_,h=>by
  cases h with
  | cons r t=>cases (show _=Value.bool n from r);exact .cons n (jP t)
theorem qcm (hc:X.calm=true):CallD X (.builtin "all") allD:=by
 intro pins s σ H xs us Q I r h
 obtain ⟨S,ds,d,m,h1,e,q⟩:=h
 unfold allD at e
 split at e
 ·rename_i ds
  obtain ⟨bs,e1,e2⟩:=ql e
  cases e2
  rw [jf e1] at h1
  obtain ⟨v,rfl,hv⟩:=h1.inv1
  obtain ⟨a,ys,rfl,hs,ht⟩:=hv.list_inv
  rw [ht.bools_inv] at hs
  obtain ⟨u,rfl,ru⟩:=vals1 r
  cases (show u=Value.ref a from ru)
  obtain ⟨its,rv,p,_⟩:=I.list hs.sq
  have hb:=jP rv
  have hl:=p.isList
  have hlt:a<s.heap.objs.size:=by obtain ⟨_,e,_⟩:=hl;exact Heap.lt_size e
  refine call_all_walk (wpAny_pyIter_list hl ?_)
  refine ⟨s.heap.objs.size,[s.heap.objs.size,a],[s.heap.objs.size],its.toArray.size,_,_,fun i=>(bs[i]?).getD true,rfl,Walks.list (A:=X.A.in1) (I.ok.hd hc) _ a (Nat.ne_of_lt hlt) its.toArray,
   ⟨⟨_,Heap.get?_push_size _ rfl,rfl,rfl⟩,hl.push _⟩,fun i v s' Q' E' hP hQ=>?_,fun h' tk hk=>?_⟩
  ·obtain ⟨b,e,rfl⟩:=hb.get i v (by simpa using hP)
   simp only [e,Option.getD_some] at hQ
   exact wpAny_truthy_bool hQ
  ·have e:((List.range its.toArray.size).all fun i=>(bs[i]?).getD true)=bs.all id:=by
    rw [List.size_toArray,hb.length];exact LSm.range_all bs
   rw [e]
   exact ⟨.bl (bs.all id),H,I.kept (LSm.kept_iter hk),rfl,q _ H (Same.refl H) (.bool _)⟩
 ·cases e
end
def wA (N N':List Str)(k:Nat)(sc₀ sc:Scope):Bool :=
 decide (sc.kind=.function)&&decide N.Nodup&&decide N'.Nodup&&decide (N'.length=N.length+k)&&sc.names.all (fun y=>decide (y.2≠.cell)||decide (sc.names.lookup y.1=some .cell))&&sc.names.all (fun y=>decide (y.2≠.local)||decide (sc.names.lookup y.1=some .local)) &&
 (N.zip N').all (fun y=>(decide (y.1=y.2)&&(decide (sc.names.lookup y.2≠some .local)&&decide (sc.names.lookup y.2≠some .cell)))||decide (sc.names.lookup y.2=none)) &&
 sc.names.all (fun y=>decide (y.2≠.free)||decide (sc₀.names.lookup y.1=some .cell)||decide (sc₀.names.lookup y.1=some .free))
theorem CompOk.of {X:Cx}{sc:Scope}{k:Nat}(N N':List Str)(sc₀:Scope)(hc:X.calm=true)(hN:X.N=N)(hs:X.env.scope=sc₀)(h:wA N N' k sc₀ sc=true):CompOk X N' k sc:=by
 subst hN
 subst hs
 unfold wA at h
 simp only [Bool.and_eq_true,decide_eq_true_eq,List.all_eq_true,Bool.or_eq_true] at h
 obtain ⟨⟨⟨⟨⟨⟨⟨h1,h2⟩,h2'⟩,h2l⟩,h3⟩,h4⟩,h7⟩,h8⟩:=h
 refine ⟨hc,h1,h2,h2',h2l,fun y hy q=>(h3 y hy).resolve_left (fun z=>z q),fun y hy q=>(h4 y hy).resolve_left (fun z=>z q),fun i y hi e=>?_,fun y hy q=>?_⟩
 ·have hz:(X.N.zip N')[i]?=some (X.N[i],y):=by
   rw [List.getElem?_zip_eq_some]
   exact ⟨List.getElem?_eq_getElem hi,e⟩
  rcases h7 _ (List.mem_of_getElem? hz) with ⟨q,w⟩|q
  ·refine .inl ⟨?_,w⟩
   rw [List.getElem?_eq_getElem hi]
   exact congrArg some q
  ·exact .inr q
 ·rcases h8 y hy with (z|z)|z
  ·exact absurd q z
  ·exact .inl z
  ·exact .inr z
theorem JN:∀ {ns:List Int} {n:Int},n∈ns->PySem.W.WData.weight (.int n)<=PySem.W.WData.weightAll (ns.map .int)
 | m::ns,n,h=>by
  rw [List.map_cons,PySem.W.WData.weightAll]
  rcases List.mem_cons.mp h with rfl|h
  ·omega
  ·have:=JN h
   omega
theorem Jj {ns:List Int}(h:PySem.W.WData.layableAll [.list (ns.map .int)]=true):∀ n∈ns,Builtin.Int.intBits n<=2 ^ 20:=by
 intro n hn
 have h1:PySem.W.WData.layable (.list (ns.map .int))=true:=by
  unfold PySem.W.WData.layableAll at h
  simpa using h
 unfold PySem.W.WData.layable at h1
 rw [Bool.and_eq_true] at h1
 have h2:=of_decide_eq_true h1.2
 rw [PySem.W.WData.weight] at h2
 have h3:=Nat.le_trans (JN hn) h2
 rw [PySem.W.WData.weight] at h3
 exact h3
end L2
namespace Att
open PySem PySem.W PySem.Calls PyProof.Rows
theorem attach_callB {l:OpenLaw}{n:Nat}{q:Program}{loose:List Str}{XP:(Str->Option Value)->Heap->Prop}{YP:World->Heap->Prop}{d:DefRec}
  (hn:l.most=some n) (hdf:d.params.defaults=[])
  (call:∀ (w:World) (s₀ s₁:Shared) (mg mb:Str->Option Value) (fa:Addr) (o:Obj) (pm cd doc:Value) (a:Addr) (vs:List Value) (ns:List Int),
   Ground q loose [] XP w s₀ mg mb s₁.heap->YP w s₁.heap->
   s₁.heap.get? fa=some o->o.data=.func (docDef d.name d.params d.body d.scope pm cd doc)->s₁.heap.CodeRec cd d.name->mg d.name=some (.ref fa)->
   s₁.heap.get? a=some { cls:=.type "list", data:=.seq vs.toArray }->IntsAre vs ns->ns.length<=n->(∀ k∈ns,Builtin.Int.intBits k<=2 ^ 20)->s₁.gens=#[]->
   codeAny (model l.prog w) callerA (.call (.ref fa) ⟨[.ref a],[]⟩) (fun r s'=>r=.ok (.ret (.bool true))/\OldK s₁.heap s'.heap/\s'.os=s₁.os/\AllBare s'.gens) s₁) :
  WalkO q loose XP YP l.row.toRowW d [] (fun f vs=>PySem.call f vs):=by
 intro w s₀ s₁ mg mb G Y fa o pm cd doc dV kV ho hd hcd hD hmg hg args vals as hpre hlay hrd hwl hlo
 obtain rfl:dV=.none:=Dflts.none hD hdf
 obtain rfl:kV=.none:=Dflts.noKw hD
 obtain ⟨a,vs,ns,rfl,rfl,hobj,hints,hlen⟩:=WR hn hpre hwl
 refine enter_call (codeAny_mono (call w s₀ s₁ mg mb fa o pm cd doc a vs ns G Y ho (fd_plain hd) hcd hmg hobj hints hlen (L2.Jj hlay) hg) fun r s' hq=>?_)
 obtain ⟨rfl,h2,h3,h4⟩:=hq
 exact ⟨.inl ⟨.bool true,.bool true,[],rfl,fun _=>rfl,.bool true,WP l _,fun _=>⟨List.Pairwise.nil,fun _ hm=>(nomatch hm)⟩⟩,h2,h3,h4⟩
end Att
namespace L2
open PySem PySem.Spec PyProof.Rows
def Y4 (K:PySem.W.Frag)(n:Nat):Sp:=fun vs H Q _=>∃ (a:Addr) (ns:List Int),vs=[.ref a]/\SqL K H a (ns.map V.int)/\ns.length<=n/\(∀ k∈ns,Builtin.Int.intBits k<=2 ^ 20)/\∀ H',Q (.bl true) H'
theorem qas {P:Program}{w:World}{K:PySem.W.Frag}{mg:Str->Option Value}{base:Heap}{CX:CXT}{k n:Nat}{f:Addr}{fd:FuncData}{ps:List Str}{h:List PyData->Option PyData}(F:FnOk P w K mg base CX k f fd ps (spF K 1 h))
  (e:∀ ns:List Int,ns.length<=n->(∀ k∈ns,Builtin.Int.intBits k<=2 ^ 20)->h [.list (ns.map .int)]=some (.bool true)):FnOk P w K mg base CX k f fd ps (Y4 K n) :=
 F.imp fun vs H Q E ⟨a,ns,h1,h2,h3,h4,q⟩=>by
  subst h1
  exact ⟨fun _=>False,[.list (ns.map .int)],.bool true,(fun _ z=>z.elim),.cons (.list (h2.imp (fun y=>⟨y,id⟩) id) (DenL.ints ns)) .nil,rfl,e ns h3 h4,fun v H' _ d=>by rw [d.bool_inv];exact q H'⟩
theorem WY {l:PySem.W.OpenLaw}{n k:Nat}{q:Program}{loose:List Str}{XP:(Str->Option Value)->Heap->Prop}{YP:World->Heap->Prop}{d:DefRec}{K:Params->PySem.W.Frag}{x:Str}
  (hn:l.most=some n) (hn2:n<=sizeLine) (hdf:d.params.defaults=[]) (hr:Room k callerA)
  (hY:∀ (w:World) (h:Heap),YP w h->(K w.params).In h)
  (F:∀ (w:World) (mg:Str->Option Value) (fa:Addr) (h:Heap),(K w.params).In h->h.Ns mainGlobals mg->mg d.name=some (.ref fa)->
   ∃ fd:FuncData,(∀ (s:Shared) (u:Value),BindsTo s fd ⟨[u],[]⟩ [(x,u)])/\
    ∀ base:Heap,(K w.params).In base->base.Ns mainGlobals mg->FnOk l.prog w (K w.params) mg base CX0 k fa fd [x] (Y4 (K w.params) n)) :
  PySem.W.WalkO q loose XP YP l.row.toRowW d [] (fun f vs=>PySem.call f vs):=by
 refine Att.attach_callB hn hdf fun w s₀ s₁ mg mb fa o pm cd doc a vs ns G Y ho hd hcd hmg hobj hints hlen hbits hg=>?_
 have KX:=hY w _ Y
 obtain ⟨fd,hb,hF⟩:=F w mg fa _ KX G.T.g hmg
 exact qar KX G.T.g G.T.b G.T.builtins G.T.nolimit hg hobj hints (Nat.le_trans hlen hn2) hr hF hb (fun H hO hS=>⟨a,ns,rfl,hS,hlen,hbits,fun _=>rfl⟩) fun H e s' h=>h
mutual
def ltX:PyData->PyData->Option Bool
 | .int i,.int j=>some (decide (i<j))
 | .tuple xs,.tuple ys=>ltXs xs ys
 | .list xs,.list ys=>ltXs xs ys
 | _,_=>none
def ltXs:List PyData->List PyData->Option Bool
 | [],[]=>some false
 | [],_::_=>some true
 | _::_,[]=>some false
 | x::xs,y::ys=>if PyData.eqv x y=true then ltXs xs ys else ltX x y
end
def LtAt (A:Around)(s:Shared)(y x:Value)(b:Bool):Prop:=∀ (prog:Program) (w:World) (E Q:Value->Shared->Prop),Q (.bool b) s->wpAny (model prog w) A (richCompare .Lt y x) Q E s
def jJ (A:Around)(s:Shared):List Value->List Value->Bool->Prop
 | [],[],r=>r=false
 | [],_::_,r=>r=true
 | _::_,[],r=>r=false
 | y::ys,x::xs,r=>∃ e,SeqAt.EqAt A s y x e/\(e=true->jJ A s ys xs r)/\(e=false->LtAt A s y x r)
section
open PySem.SeqAt
open PySem.AutoSeq1 (wpAny_loadPart')
open PySem.MeetsSeq PySem.MeetsSeq2 PySem.MeetsSeq3
theorem yI (l b:Addr)(items items2:Array Value)(n n2:Nat)(dd dd2:Option Addr)(sl sl2:Array (Option Value)) :
  Meets (Builtin.«tuple.__lt__» ⟨[.ref l,.ref b],[]⟩)
   (fun A R s=>s.heap.get? l=some { cls:=.type "tuple", dict:=dd,data:=.seq items n,slots:=sl }/\s.heap.get? b=some { cls:=.type "tuple", dict:=dd2,data:=.seq items2 n2,slots:=sl2 }/\
    ∃ r,jJ A.in1 s items.toList items2.toList r/\R (.ok (.ret (.bool r))) s) :=
 .of_wp fun prog w A R s h=>by
  obtain ⟨hp,g,d,tk,os⟩:=s;obtain ⟨hl,hb,r,hx,h⟩:=h
  have f2:=AutoSeq1.sub_tuple_tuple
  wp_walk using wpAny_loadPart' hl,wpAny_loadPart' hb,wpAny_forIn_list _ (fun rest b s'=>b.1=none/\s'=⟨hp,g,d,tk,os⟩/\∃ (vs ws:List Value),rest=vs.zip ws/\
   jJ A.in1 ⟨hp,g,d,tk,os⟩ vs ws r/\vs.length+items2.size=ws.length+items.size) _
  case turn =>
   rintro ⟨y,x⟩ rest b s' ⟨hb',rfl,vs,ws,hz,hlx,hlen⟩
   cases vs with
   | nil=>rw [List.zip_nil_left] at hz;cases hz
   | cons v vs =>
    cases ws with
    | nil=>rw [List.zip_nil_right] at hz;cases hz
    | cons u ws =>
     rw [List.zip_cons_cons] at hz
     injection hz with hyx hrest
     injection hyx with hy hx'
     subst hy hx'
     simp only [List.length_cons] at hlen
     obtain ⟨e,he,h1,h2⟩:=hlx
     refine wpAny_bind (he prog w _ _ ?_)
     cases e with
     | true =>
      wp_walk
      exact ⟨rfl,rfl,_,_,hrest,h1 rfl,by omega⟩
     | false =>
      have hri:=h2 rfl prog w
      wp_walk using hri
      exact ⟨_,rfl,by simpa using h⟩
  case fin =>
   rintro ⟨b1,b2⟩ s' ⟨hb',rfl,vs,ws,hz,hlx,hlen⟩
   simp only at hb'
   subst hb'
   have hv:r=decide (items.size<items2.size):=by
    cases vs with
    | nil =>
     cases ws with
     | nil =>
      simp only [List.length_nil] at hlen
      rw [show r=false from hlx]
      exact (decide_eq_false (by omega)).symm
     | cons c hw =>
      simp only [List.length_nil,List.length_cons] at hlen
      rw [show r=true from hlx]
      exact (decide_eq_true (by omega)).symm
    | cons a hv =>
     cases ws with
     | nil =>
      simp only [List.length_nil,List.length_cons] at hlen
      rw [show r=false from hlx]
      exact (decide_eq_false (by omega)).symm
     | cons c hw =>
      rw [List.zip_cons_cons] at hz
      cases hz
   rw [hv] at h
   wp_walk
   exact ⟨_,rfl,by simpa [Builtin.Tuple.tupleCompareSizes] using h⟩
  case h =>
   exact ⟨rfl,rfl,items.toList,items2.toList,rfl,hx,by simp [Nat.add_comm]⟩
end
theorem qau {A:Around}{s:Shared}{l b:Addr}{items items2:Array Value}{r:Bool}(hl:IsTup s.heap l items)(hb:IsTup s.heap b items2)(hu:A.units<cLine)(h:jJ A.in1 s items.toList items2.toList r):LtAt A s (.ref l) (.ref b) r:=fun prog w E Q q=>by
 obtain ⟨⟨cls,dd,data,sl⟩,ho,hc,n,hd⟩:=id hl
 obtain ⟨⟨cls2,dd2,data2,sl2⟩,ho2,hc2,n2,hd2⟩:=id hb
 simp only at hc hd hc2 hd2
 subst hc hd hc2 hd2
 exact richCompare_meets_room (op:=.Lt) ⟨_,ho,rfl⟩ ⟨_,ho2,rfl⟩ PySem.F.slot_tuple_lt PySem.F.entry_tuple_lt (PySem.F.args_tuple_lt_2 _ _) (yI l b items items2 n n2 dd dd2 sl sl2)
  ⟨ho,ho2,r,h,show Value.bool r≠Value.notImplemented/\Q (.bool r) s from ⟨(fun x=>nomatch x),q⟩⟩ hu
section
open PySem.SeqAt
open PySem.AutoSeq1 (wpAny_loadPart')
open PySem.MeetsSeq PySem.MeetsSeq2 PySem.MeetsSeq3
theorem yG (l b:Addr)(xs ys:Array Value)(n n2:Nat)(dd dd2:Option Addr)(sl sl2:Array (Option Value)):∀ (k i:Nat),xs.size=i+k->i<=ys.size->Meets (Builtin.«list.__eq__.loop» ⟨[.ref l,.ref b,rawInt i,rawInt 0],[]⟩)
   (fun A R s=>s.heap.get? l=some ⟨.type "list", dd,.seq xs n,sl⟩/\s.heap.get? b=some ⟨.type "list", dd2,.seq ys n2,sl2⟩/\∃ r,jJ A.in1 s (xs.toList.drop i) (ys.toList.drop i) r/\R (.ok (.ret (.bool r))) s):=by
 intro k
 induction k with
 | zero =>
  intro i hx hy prog w A R s ⟨hl,hb,r,hq,hR⟩
  obtain ⟨hp,g,d,tk,os⟩:=s
  have e1:xs.toList.drop i=[]:=List.drop_eq_nil_of_le (by rw [Array.length_toList];omega)
  have e2:xs[((i:Nat):Int).toNat]?=none:=by rw [Int.toNat_natCast];exact Array.getElem?_eq_none (by omega)
  rw [e1] at hq
  have hr:r=decide (xs.size<ys.size):=by
   by_cases h:i<ys.size
   ·have e3:ys.toList.drop i=ys[i]::ys.toList.drop (i+1):=by rw [List.drop_eq_getElem_cons (by rw [Array.length_toList];exact h),Array.getElem_toList]
    rw [e3] at hq
    rw [show r=true from hq];exact (decide_eq_true (by omega)).symm
   ·rw [List.drop_eq_nil_of_le (by rw [Array.length_toList];omega)] at hq
    rw [show r=false from hq];exact (decide_eq_false (by omega)).symm
  rw [hr] at hR
  wp_walk using wpAny_loadPart' hl,wpAny_loadPart' hb
  rw [e2]
  wp_walk using wpAny_loadPart' hl,wpAny_loadPart' hb
  exact hR
 | succ k ih =>
  intro i hx hy prog w A R s ⟨hl,hb,r,hq,hR⟩
  obtain ⟨hp,g,d,tk,os⟩:=s
  have h1:i<xs.size:=by omega
  have e1:xs.toList.drop i=xs[i]::xs.toList.drop (i+1):=by rw [List.drop_eq_getElem_cons (by rw [Array.length_toList];exact h1),Array.getElem_toList]
  have e2:xs[((i:Nat):Int).toNat]?=some xs[i]:=by rw [Int.toNat_natCast];exact Array.getElem?_eq_getElem h1
  rw [e1] at hq
  wp_walk using wpAny_loadPart' hl,wpAny_loadPart' hb
  by_cases h2:i<ys.size
  ·have e3:ys.toList.drop i=ys[i]::ys.toList.drop (i+1):=by rw [List.drop_eq_getElem_cons (by rw [Array.length_toList];exact h2),Array.getElem_toList]
   have e4:ys[((i:Nat):Int).toNat]?=some ys[i]:=by rw [Int.toNat_natCast];exact Array.getElem?_eq_getElem h2
   rw [e3] at hq
   obtain ⟨e,he,q1,q2⟩:=hq
   rw [e2,e4]
   refine wpAny_bind (he prog w _ _ ?_)
   cases e with
   | true =>
    wp_walk
    refine ⟨plainId_quiet plain_eq_loop _,codeAny_builtin entry_eq_loop ?_⟩
    rw [Around.under_plainId plain_eq_loop _]
    exact ih (i+1) (by omega) h2 prog w A R _ ⟨hl,hb,r,q1 rfl,hR⟩
   | false =>
    wp_walk using wpAny_loadPart' hl,wpAny_loadPart' hb
    rw [e2,e4]
    have hri:=q2 rfl prog w
    wp_walk using hri
    exact hR
  ·rw [List.drop_eq_nil_of_le (as:=ys.toList) (by rw [Array.length_toList];omega)] at hq
   have e4:ys[((i:Nat):Int).toNat]?=none:=by rw [Int.toNat_natCast];exact Array.getElem?_eq_none (by omega)
   have hr:r=decide (xs.size<ys.size):=by rw [show r=false from hq];exact (decide_eq_false (by omega)).symm
   rw [hr] at hR
   rw [e2,e4]
   wp_walk using wpAny_loadPart' hl,wpAny_loadPart' hb
   exact hR
theorem Yh (l b:Addr)(xs ys:Array Value)(n n2:Nat)(dd dd2:Option Addr)(sl sl2:Array (Option Value)):Meets (Builtin.«list.__lt__» ⟨[.ref l,.ref b],[]⟩)
   (fun A R s=>s.heap.get? l=some ⟨.type "list", dd,.seq xs n,sl⟩/\s.heap.get? b=some ⟨.type "list", dd2,.seq ys n2,sl2⟩/\∃ r,jJ A.in1 s xs.toList ys.toList r/\R (.ok (.ret (.bool r))) s):=by
 intro prog w A R s ⟨hl,hb,r,hq,hR⟩
 obtain ⟨hp,g,d,tk,os⟩:=s
 have f3:=AutoSeq1.sub_list_list
 wp_walk using wpAny_loadPart' hl,wpAny_loadPart' hb
 refine ⟨plainId_quiet plain_eq_loop _,codeAny_builtin entry_eq_loop ?_⟩
 rw [Around.under_plainId plain_eq_loop _]
 exact yG l b xs ys n n2 dd dd2 sl sl2 xs.size 0 (Nat.zero_add _).symm (Nat.zero_le _) prog w A R _ ⟨hl,hb,r,hq,hR⟩
end
theorem WD {A:Around}{s:Shared}{l b:Addr}{o o2:Obj}{xs ys:Array Value}{n n2:Nat}{r:Bool}(h1:s.heap.get? l=some o)(c1:o.cls=.type "list")(d1:o.data=.seq xs n)(h2:s.heap.get? b=some o2)(c2:o2.cls=.type "list")(d2:o2.data=.seq ys n2)(hu:A.units<cLine)(h:jJ A.in1 s xs.toList ys.toList r):LtAt A s (.ref l) (.ref b) r:=fun prog w E Q q=>by
 obtain ⟨cls,dd,data,sl⟩:=o
 obtain ⟨cls2,dd2,data2,sl2⟩:=o2
 simp only at c1 d1 c2 d2
 subst c1 d1 c2 d2
 exact richCompare_meets_room (op:=.Lt) ⟨_,h1,rfl⟩ ⟨_,h2,rfl⟩ PySem.F.slot_list_lt PySem.F.entry_list_lt (PySem.F.args_list_lt_2 _ _) (Yh l b xs ys n n2 dd dd2 sl sl2)
  ⟨h1,h2,r,h,show Value.bool r≠Value.notImplemented/\Q (.bool r) s from ⟨(fun x=>nomatch x),q⟩⟩ hu
theorem jU {A:Around}{s:Shared}{m:Nat}(hu:A.units+m+1<cLine)(hit:∀ (x y:PyData) (a b:Value) (as bs:List Addr) (r:Bool),x.depth<=m->Reads s.heap a x as->Reads s.heap b y bs->x.canLay0=true->y.canLay0=true->ltX x y=some r->LtAt A s a b r) :
  ∀ (xs ys:List PyData) (vs ws:List Value) (as bs:List Addr) (r:Bool),PyData.depthAll xs<=m->ReadsAll s.heap vs xs as->ReadsAll s.heap ws ys bs->PyData.canLayAll0 xs=true->PyData.canLayAll0 ys=true->ltXs xs ys=some r->jJ A s vs ws r:=by
 intro xs
 induction xs with
 | nil =>
  intro ys vs ws as bs r _ h1 h2 _ _ e
  cases h1
  cases ys with
  | nil=>cases h2;rw [ltXs] at e;cases e;rfl
  | cons y ys=>cases h2;rw [ltXs] at e;cases e;rfl
 | cons x xs ih =>
  intro ys vs ws as bs r hm h1 h2 c1 c2 e
  cases h1 with
  | cons rx rxs =>
   cases ys with
   | nil=>cases h2;rw [ltXs] at e;cases e;rfl
   | cons y ys =>
    cases h2 with
    | cons ry rys =>
     have c1':x.canLay0=true/\PyData.canLayAll0 xs=true:=by simpa [PyData.canLayAll0] using c1
     have c2':y.canLay0=true/\PyData.canLayAll0 ys=true:=by simpa [PyData.canLayAll0] using c2
     have hd:max x.depth (PyData.depthAll xs)<=m:=by rw [PyData.depthAll] at hm;exact hm
     have m1:=Nat.le_trans (Nat.le_max_left x.depth (PyData.depthAll xs)) hd
     have m2:=Nat.le_trans (Nat.le_max_right x.depth (PyData.depthAll xs)) hd
     rw [ltXs] at e
     refine ⟨PyData.eqv x y,SeqAt.eqAt_reads x y A s _ _ _ _ rx ry c1'.1 c2'.1 (by have:=Nat.min_le_left x.depth y.depth;omega),fun q=>?_,fun q=>?_⟩
     ·rw [if_pos q] at e
      exact ih ys _ _ _ _ r m2 rxs rys c1'.2 c2'.2 e
     ·rw [if_neg (by rw [q];exact Bool.false_ne_true)] at e
      exact hit x y _ _ _ _ r m1 rx ry c1'.1 c2'.1 e
theorem YS:∀ (n:Nat) (da db:PyData) (A:Around) (s:Shared) (a b:Value) (as bs:List Addr) (r:Bool),da.depth<=n->Reads s.heap a da as->Reads s.heap b db bs->da.canLay0=true->db.canLay0=true->A.units+n+1<cLine->ltX da db=some r->LtAt A s a b r:=by
 intro n
 induction n with
 | zero =>
  intro da db A s a b as bs r hd ra rb ca cb hu e
  cases da with
  | int i =>
   cases db with
   | int j =>
    cases ra;cases rb
    rw [ltX] at e
    cases e
    exact fun prog w E Q q=>HT.Yr A s i _ j _ prog w E Q q
   | _=>simp [ltX] at e
  | tuple xs =>
   rw [PyData.depth] at hd
   omega
  | list xs =>
   rw [PyData.depth] at hd
   omega
  | _=>simp [ltX] at e
 | succ n ih =>
  intro da db A s a b as bs r hd ra rb ca cb hu e
  cases da with
  | int i =>
   cases db with
   | int j =>
    cases ra;cases rb
    rw [ltX] at e
    cases e
    exact fun prog w E Q q=>HT.Yr A s i _ j _ prog w E Q q
   | _=>simp [ltX] at e
  | tuple xs =>
   cases db with
   | tuple ys =>
    rw [PyData.depth] at hd
    rw [ltX] at e
    cases ra with
    | tuple e1 c1 d1 t1 =>
     cases rb with
     | tuple e2 c2 d2 t2 =>
      refine qau ⟨_,e1,c1,_,d1⟩ ⟨_,e2,c2,_,d2⟩ (by omega) ?_
      exact jU (m:=n) (by show A.units+1+n+1<cLine;omega) (fun x y a b as bs r hx r1 r2 k1 k2 e=>ih x y A.in1 s a b as bs r hx r1 r2 k1 k2 (by show A.units+1+n+1<cLine;omega) e)
       xs ys _ _ _ _ r (by omega) t1 t2 (by simpa [PyData.canLay0] using ca) (by simpa [PyData.canLay0] using cb) e
   | _=>simp [ltX] at e
  | list xs =>
   cases db with
   | list ys =>
    rw [PyData.depth] at hd
    rw [ltX] at e
    cases ra with
    | list e1 c1 d1 t1 =>
     cases rb with
     | list e2 c2 d2 t2 =>
      refine WD e1 c1 d1 e2 c2 d2 (by omega) ?_
      exact jU (m:=n) (by show A.units+1+n+1<cLine;omega) (fun x y a b as bs r hx r1 r2 k1 k2 e=>ih x y A.in1 s a b as bs r hx r1 r2 k1 k2 (by show A.units+1+n+1<cLine;omega) e)
       xs ys _ _ _ _ r (by omega) t1 t2 (by simpa [PyData.canLay0] using ca) (by simpa [PyData.canLay0] using cb) e
   | _=>simp [ltX] at e
  | _=>simp [ltX] at e
def ltD2 (x y:PyData):Option PyData:=if SeqAt.shaped x=true/\SeqAt.shaped y=true/\x.depth<=60 then ob (ltX x y) fun r=>some (.bool r) else none
theorem d_lt2 {X:Cx}{k:Nat}(hr:Room k X.A):OpD X (compareOp .Lt) ltD2:=by
 intro pins s σ H x y v u Q I rx ry ⟨S,dx,dy,d,m,h1,h2,e,q⟩
 unfold ltD2 at e
 split at e
 ·rename_i hc
  obtain ⟨as,q1⟩:=h1.reads I (SeqAt.canLay_of_shaped hc.1) rx
  obtain ⟨bs,q2⟩:=h2.reads I (SeqAt.canLay_of_shaped hc.2.1) ry
  obtain ⟨r,e1,e⟩:=ql e
  cases e
  have hu:=hr.units
  exact YS 60 dx dy X.A s v u as bs r hc.2.2 q1 q2 (SeqAt.canLay_of_shaped hc.1) (SeqAt.canLay_of_shaped hc.2.1) (by omega) e1 X.prog X.w X.xe _ (Jm I (q _ H (Same.refl H) (.bool r)) rfl)
 ·cases e
def Yu (K:PySem.W.Frag)(mg:Str->Option Value)(x:Str)(d:PyData):Prop:=∃ v u,mg x=some u/\RelV v u/\∀ H S,Den K H S v d
theorem qaC {X:Cx}{M:List Nat}{x:Str}{d:PyData}{pos:Pos}(C:Yu X.K X.mg x d)(hg:Gl X x)(hdb:(x==("__debug__" : Str))=false:=by decide +kernel):PD X M (.Name x pos) (kd d):=by
 obtain ⟨v,u,m,r,hd⟩:=C
 exact qbT hg m r hd hdb
theorem ob_s {α β:Type}(x:α)(f:α->Option β):ob (some x) f=f x:=rfl
theorem vr_z (o:Option PyData)(ρ:Rho):vr 0 (o::ρ)=o:=rfl
theorem vr_s (n:Nat)(o:Option PyData)(ρ:Rho):vr (n+1) (o::ρ)=vr n ρ:=rfl
theorem atI0 {α:Type}(x:α)(xs:List α):atI (x::xs) 0=some x:=by simp [atI,ixN]
theorem Zt {α:Type}(x:α)(xs:List α)(k:Nat):atI (x::xs) ((k:Int)+1)=atI xs (k:Int):=by
 unfold atI ixN
 have h1:(0:Int)<=(k:Int)+1:=by omega
 have h2:(0:Int)<=(k:Int):=by omega
 rw [if_pos h1,if_pos h2]
 by_cases h:(k:Int)<xs.length
 ·have h':(k:Int)+1<((x::xs).length:Int):=by rw [List.length_cons];omega
  rw [if_pos h,if_pos h']
  have e1:((k:Int)+1).toNat=k+1:=by omega
  have e2:(k:Int).toNat=k:=by omega
  rw [e1,e2]
  rfl
 ·have h':¬ (k:Int)+1<((x::xs).length:Int):=by rw [List.length_cons];omega
  rw [if_neg h,if_neg h']
  rfl
theorem atI1 {α:Type}(x y:α)(xs:List α):atI (x::y::xs) 1=some y:=(Zt x (y::xs) 0).trans (atI0 y xs)
theorem atI2 {α:Type}(x y z:α)(xs:List α):atI (x::y::z::xs) 2=some z:=(Zt x (y::z::xs) 1).trans (atI1 y z xs)
theorem atI3 {α:Type}(x y z a:α)(xs:List α):atI (x::y::z::a::xs) 3=some a:=(Zt x (y::z::a::xs) 2).trans (atI2 y z a xs)
theorem atI4 {α:Type}(x y z a b:α)(xs:List α):atI (x::y::z::a::b::xs) 4=some b:=(Zt x (y::z::a::b::xs) 3).trans (atI3 y z a b xs)
theorem atI5 {α:Type}(x y z a b c:α)(xs:List α):atI (x::y::z::a::b::c::xs) 5=some c:=(Zt x (y::z::a::b::c::xs) 4).trans (atI4 y z a b c xs)
theorem qM {i j:Int}(h:IntMulOk i j):mulD (.int i) (.int j)=some (.int (i*j)):=by
 show (if IntMulOk i j then some (PyData.int (i*j)) else none)=_
 rw [if_pos h]
def Bd (n:Nat)(i:Int):Prop:=Builtin.Int.intBits i<=n
theorem Bd.ok {n m:Nat}{i j:Int}(h:Bd n i)(g:Bd m j)(e:n+m<=134217728:=by decide):IntMulOk i j:=IntMulOk.of_le h g e
theorem Bd.mul {n m:Nat}{i j:Int}(h:Bd n i)(g:Bd m j):Bd (n+m) (i*j):=intBits_mul_le h g
theorem Bd.add {n m:Nat}{i j:Int}(h:Bd n i)(g:Bd m j):Bd (max n m+1) (i+j):=intBits_add_le h g
theorem Bd.mono {n m:Nat}{i:Int}(h:Bd n i)(e:n<=m:=by decide):Bd m i:=Nat.le_trans h e
theorem Bd.of {n:Nat}{i:Int}(h:i.natAbs<2 ^ n):Bd n i:=intBits_le_iff.mpr h
theorem natLit (n:Nat):((no_index (OfNat.ofNat n):Nat):Int)=(OfNat.ofNat n:Int):=rfl
theorem qbs (i j:Int):eqD (.int i) (.int j)=some (.bool (i==j)):=rfl
theorem qbH (i j:Int):neD (.int i) (.int j)=some (.bool (!(i==j))):=rfl
theorem pow_a:powD (.int 7919) (.int 8)=some (.int (7919 ^ 8)):=rfl
theorem pow_b:powD (.int 10) (.int 30)=some (.int (10 ^ 30)):=rfl
theorem wM (i:Int){j:Int}(h:0<j):modD (.int i) (.int j)=some (.int (i % j)):=by
 show (if 0<j then some (PyData.int (i % j)) else none)=_
 rw [if_pos h]
theorem qag (i:Int){j:Int}(h:0<j)(h2:j<1073741824):QX (.int i) (.int j)=some (.int (i / j)):=by
 show (if CDiv i j then some (PyData.int (i / j)) else none)=_
 rw [if_pos ⟨h,h2⟩]
def J4 (o:Option Out)(w:Rho->Option Out):Option Out:=match o with | some (.nx ρ')=>w ρ'|o=>o
theorem qdG (u w:Rho->Option Out)(ρ:Rho):seqO u w ρ=J4 (u ρ) w:=by
 unfold seqO ob J4
 cases u ρ with
 | none=>rfl
 | some o=>cases o<;>rfl
theorem W5 (ρ:Rho)(w:Rho->Option Out):J4 (some (.nx ρ)) w=w ρ:=rfl
theorem W6 (d:PyData)(w:Rho->Option Out):J4 (some (.rt d)) w=some (.rt d):=rfl
theorem W3 (ρ:Rho)(w:Rho->Option Out):J4 (some (.bk ρ)) w=some (.bk ρ):=rfl
theorem W4 (ρ:Rho)(w:Rho->Option Out):J4 (some (.ct ρ)) w=some (.ct ρ):=rfl
def ifO {α:Type}(b:Option Bool)(u w:Rho->Option α)(ρ:Rho):Option α:=match b with | some true=>u ρ|some false=>w ρ|none=>none
theorem ifO_t {α:Type}(u w:Rho->Option α)(ρ:Rho):ifO (some true) u w ρ=u ρ:=rfl
theorem ifO_f {α:Type}(u w:Rho->Option α)(ρ:Rho):ifO (some false) u w ρ=w ρ:=rfl
theorem sIf_b (p:Rho->Option Bool)(u w:Rho->Option Out)(ρ:Rho):sIf p u w ρ=ifO (p ρ) u w ρ:=by
 unfold sIf ob ifO
 cases p ρ with
 | none=>rfl
 | some b=>cases b<;>rfl
theorem tO_b (p q:Rho->Option Bool)(ρ:Rho):tO p q ρ=ifO (p ρ) (fun _=>some true) q ρ:=by
 unfold tO ob ifO
 cases p ρ with
 | none=>rfl
 | some b=>cases b<;>rfl
theorem vA_b (f g:Rho->Option PyData)(ρ:Rho):vA f g ρ=ifO (ob (f ρ) je) g (fun _=>some (.bool false)) ρ:=by
 unfold vA ob ifO
 cases f ρ with
 | none=>rfl
 | some x =>
  dsimp only
  cases je x with
  | none=>rfl
  | some b=>cases b<;>rfl
def setO (o:Option PyData)(i:Nat)(ρ:Rho):Option Out:=match o with | some d=>some (.nx (ρ.set i (some d)))|none=>none
theorem qdC (i:Nat)(f:Rho->Option PyData)(ρ:Rho):sSet i f ρ=setO (f ρ) i ρ:=by
 unfold sSet ob setO
 cases f ρ<;>rfl
theorem qdH (d:PyData)(i:Nat)(ρ:Rho):setO (some d) i ρ=some (.nx (ρ.set i (some d))):=rfl
def binO (a b:Option PyData)(g:PyData->PyData->Option PyData):Option PyData:=match a,b with | some x,some y=>g x y|_,_=>none
theorem ev2_b (fa fb:Rho->Option PyData)(g:PyData->PyData->Option PyData)(ρ:Rho):ev2 fa fb g ρ=binO (fa ρ) (fb ρ) g:=by
 unfold ev2 ob binO
 cases fa ρ<;>cases fb ρ<;>rfl
theorem qcF (x y:PyData)(g:PyData->PyData->Option PyData):binO (some x) (some y) g=g x y:=rfl
def J5 (a:Option PyData)(b:Option (List PyData)):Option (List PyData):=match a,b with | some x,some xs=>some (x::xs)|_,_=>none
theorem aC_b (fa:Rho->Option PyData)(fs:Rho->Option (List PyData))(ρ:Rho):aC fa fs ρ=J5 (fa ρ) (fs ρ):=by
 unfold aC ob J5
 cases fa ρ<;>cases fs ρ<;>rfl
theorem qbp (x:PyData)(xs:List PyData):J5 (some x) (some xs)=some (x::xs):=rfl
def W7 (n:Nat)(a:Option (List PyData))(h:List PyData->Option PyData):Option PyData:=match a with | some ds=>if ds.length=n then h ds else none|none=>none
theorem evC_b (n:Nat)(fs:Rho->Option (List PyData))(h:List PyData->Option PyData)(ρ:Rho):evC n fs h ρ=W7 n (fs ρ) h:=by
 unfold evC ob W7
 cases fs ρ<;>rfl
theorem qbg (n:Nat)(ds:List PyData)(h:List PyData->Option PyData):W7 n (some ds) h=if ds.length=n then h ds else none:=rfl
def wz (b:Option Bool)(tt:Rho->Option Bool)(te:Rho->Option PyData)(ρ:Rho)(d:PyData)(ds:List PyData):Option (List PyData):=match b with | some true=>J5 (te (ρ++[some d])) (Qs tt te ρ ds)|some false=>Qs tt te ρ ds|none=>none
theorem qbj (tt:Rho->Option Bool)(te:Rho->Option PyData)(ρ:Rho)(d:PyData)(ds:List PyData):Qs tt te ρ (d::ds)=wz (tt (ρ++[some d])) tt te ρ d ds:=by
 rw [Qs]
 unfold ob wz J5
 cases tt (ρ++[some d]) with
 | none=>rfl
 | some b =>
  cases b with
  | false=>rfl
  | true =>
   dsimp only [if_true]
   rw [if_pos rfl]
   cases te (ρ++[some d])<;>cases Qs tt te ρ ds<;>rfl
theorem qbk (tt:Rho->Option Bool)(te:Rho->Option PyData)(ρ:Rho):Qs tt te ρ []=some []:=rfl
theorem qbm (tt:Rho->Option Bool)(te:Rho->Option PyData)(ρ:Rho)(d:PyData)(ds:List PyData):wz (some true) tt te ρ d ds=J5 (te (ρ++[some d])) (Qs tt te ρ ds):=rfl
theorem qbl (tt:Rho->Option Bool)(te:Rho->Option PyData)(ρ:Rho)(d:PyData)(ds:List PyData):wz (some false) tt te ρ d ds=Qs tt te ρ ds:=rfl
def wK (a:Option (List PyData)):Option PyData:=match a with | some ys=>some (.list ys)|none=>none
def qac (a:Option (List PyData))(n:Nat)(tt:Rho->Option Bool)(te:Rho->Option PyData)(ρ:Rho):Option PyData:=match a with | some ds=>if ρ.length=n/\ds.length<=1000 then wK (Qs tt te ρ ds) else none|none=>none
theorem qbn (n:Nat)(fi:Rho->Option (List PyData))(tt:Rho->Option Bool)(te:Rho->Option PyData)(ρ:Rho):ZW n fi tt te ρ=qac (fi ρ) n tt te ρ:=by
 unfold ZW ob qac wK
 cases fi ρ with
 | none=>rfl
 | some ds =>
  dsimp only
  split
  ·cases Qs tt te ρ ds<;>rfl
  ·rfl
theorem qbi (ds:List PyData)(n:Nat)(tt:Rho->Option Bool)(te:Rho->Option PyData)(ρ:Rho):qac (some ds) n tt te ρ=if ρ.length=n/\ds.length<=1000 then wK (Qs tt te ρ ds) else none:=rfl
theorem qbG (ds:List PyData):wK (some ds)=some (.list ds):=rfl
def forI (a:Option (List PyData))(g:PyData->Rho->Option Rho)(u:Rho->Option Out)(ρ:Rho):Option Out:=match a with | some ds=>forD g u ds ρ|none=>none
theorem qdz (fi:Rho->Option (List PyData))(g:PyData->Rho->Option Rho)(u:Rho->Option Out)(ρ:Rho):sFor fi g u ρ=forI (fi ρ) g u ρ:=by
 unfold sFor ob forI
 cases fi ρ<;>rfl
theorem qcL (ds:List PyData)(g:PyData->Rho->Option Rho)(u:Rho->Option Out)(ρ:Rho):forI (some ds) g u ρ=forD g u ds ρ:=rfl
def forO (o:Option Out)(g:PyData->Rho->Option Rho)(u:Rho->Option Out)(ds:List PyData):Option Out:=match o with
 | some (.nx ρ')=>forD g u ds ρ'
 | some (.ct ρ')=>forD g u ds ρ'
 | some (.bk ρ')=>some (.nx ρ')
 | some (.rt r)=>some (.rt r)
 | none=>none
theorem qai (g:PyData->Rho->Option Rho)(u:Rho->Option Out)(d:PyData)(ds:List PyData)(ρ:Rho):forD g u (d::ds) ρ=forO (ob (g d ρ) u) g u ds:=by
 rw [forD]
 unfold ob forO
 cases g d ρ with
 | none=>rfl
 | some ρ1 =>
  dsimp only
  cases u ρ1 with
  | none=>rfl
  | some o=>cases o<;>rfl
theorem qaj (g:PyData->Rho->Option Rho)(u:Rho->Option Out)(ρ:Rho):forD g u [] ρ=some (.nx ρ):=rfl
theorem qbx (ρ:Rho)(g:PyData->Rho->Option Rho)(u:Rho->Option Out)(ds:List PyData):forO (some (.nx ρ)) g u ds=forD g u ds ρ:=rfl
theorem qbw (ρ:Rho)(g:PyData->Rho->Option Rho)(u:Rho->Option Out)(ds:List PyData):forO (some (.ct ρ)) g u ds=forD g u ds ρ:=rfl
theorem qbv (ρ:Rho)(g:PyData->Rho->Option Rho)(u:Rho->Option Out)(ds:List PyData):forO (some (.bk ρ)) g u ds=some (.nx ρ):=rfl
theorem qby (d:PyData)(g:PyData->Rho->Option Rho)(u:Rho->Option Out)(ds:List PyData):forO (some (.rt d)) g u ds=some (.rt d):=rfl
def nxO (o:Option Rho):Option Out:=match o with | some ρ=>some (.nx ρ)|none=>none
def asgO (o:Option PyData)(g:PyData->Rho->Option Rho)(ρ:Rho):Option Out:=match o with | some d=>nxO (g d ρ)|none=>none
theorem qdy (f:Rho->Option PyData)(g:PyData->Rho->Option Rho)(ρ:Rho):sAsg f g ρ=asgO (f ρ) g ρ:=by
 unfold sAsg ob asgO nxO
 cases f ρ with
 | none=>rfl
 | some d=>dsimp only;cases g d ρ<;>rfl
theorem qcE (d:PyData)(g:PyData->Rho->Option Rho)(ρ:Rho):asgO (some d) g ρ=nxO (g d ρ):=rfl
theorem nxO_s (ρ:Rho):nxO (some ρ)=some (.nx ρ):=rfl
def retO (o:Option PyData):Option Out:=match o with | some d=>some (.rt d)|none=>none
theorem qdB (f:Rho->Option PyData)(ρ:Rho):sRet f ρ=retO (f ρ):=by
 unfold sRet ob retO
 cases f ρ<;>rfl
theorem qdw (d:PyData):retO (some d)=some (.rt d):=rfl
theorem gsN_n (ρ:Rho):gsN [] ρ=some ρ:=rfl
theorem gsC_c (g1:PyData->Rho->Option Rho)(g2:List PyData->Rho->Option Rho)(d:PyData)(r:List PyData)(ρ:Rho):gsC g1 g2 (d::r) ρ=ob (g1 d ρ) (g2 r):=rfl
theorem qdR (n:Nat)(g:List PyData->Rho->Option Rho)(ds:List PyData)(ρ:Rho):unpD n g (.tuple ds) ρ=if ds.length=n then g ds ρ else none:=rfl
theorem qdE (ds:List PyData):seqD (.list ds)=some ds:=rfl
theorem qdF (ds:List PyData):seqD (.tuple ds)=some ds:=rfl
theorem ixD_l (ds:List PyData)(i:Int):ixD (.list ds) (.int i)=atI ds i:=rfl
theorem ixD_t (ds:List PyData)(i:Int):ixD (.tuple ds) (.int i)=atI ds i:=rfl
theorem qc0 (ds:List PyData):lenD [.list ds]=some (.int ds.length):=rfl
theorem qc1 (ds:List PyData):lenD [.tuple ds]=some (.int ds.length):=rfl
theorem qa5 (ds:List PyData):Z2 [.list ds]=some (.tuple ds):=rfl
theorem qa6 (ds:List PyData):Z2 [.tuple ds]=some (.tuple ds):=rfl
theorem qbf (b:Bool):je (.bool b)=some b:=rfl
theorem qde (d:PyData):outD (.rt d)=some d:=rfl
theorem qdd (ρ:Rho):outD (.nx ρ)=some .none:=rfl
theorem qcz (i j:Int):wk (.int i) (.int j)=some (.int (i+j)):=rfl
def takO (b:Bool)(o:Option PyData)(i:Nat)(ρ:Rho):Option Out:=match b,o with | true,some d=>some (.nx (ρ.set i (some d)))|_,_=>none
theorem qcc (i:Nat)(f:Rho->Option PyData)(ρ:Rho):yh i f ρ=takO (decide (i<ρ.length)) (f ρ) i ρ:=by
 unfold yh ob takO
 by_cases h:i<ρ.length
 ·rw [if_pos h,decide_eq_true h]
  cases f ρ<;>rfl
 ·rw [if_neg h,decide_eq_false h]
theorem qdN (d:PyData)(i:Nat)(ρ:Rho):takO true (some d) i ρ=some (.nx (ρ.set i (some d))):=rfl
def appO (l d:Option PyData)(i:Nat)(ρ:Rho):Option Out:=match l,d with | some x,some y=>setO (appD x y) i ρ|_,_=>none
theorem qdx (i:Nat)(f:Rho->Option PyData)(ρ:Rho):sApp i f ρ=appO (vr i ρ) (f ρ) i ρ:=by
 unfold sApp ob appO setO
 cases vr i ρ with
 | none=>rfl
 | some x =>
  cases f ρ with
  | none=>rfl
  | some y=>dsimp only;cases appD x y<;>rfl
theorem qcD (x y:PyData)(i:Nat)(ρ:Rho):appO (some x) (some y) i ρ=setO (appD x y) i ρ:=rfl
theorem qcC (ds:List PyData)(d:PyData):appD (.list ds) d=if ds.length<1000 then some (.list (ds++[d])) else none:=rfl
def sliO (a:Option PyData)(l h:Option (Option Int)):Option PyData:=match a,l,h with | some x,some l,some h=>sliD x l h|_,_,_=>none
theorem evS_b (fa:Rho->Option PyData)(fl fh:Rho->Option (Option Int))(ρ:Rho):evS fa fl fh ρ=sliO (fa ρ) (fl ρ) (fh ρ):=by
 unfold evS ob sliO
 cases fa ρ<;>cases fl ρ<;>cases fh ρ<;>rfl
theorem qdJ (x:PyData)(l h:Option Int):sliO (some x) (some l) (some h)=sliD x l h:=rfl
def prtO (a:Option PyData):Option (Option Int):=match a with | some (.int i)=>some (some i)|_=>none
theorem oS_b (f:Rho->Option PyData)(ρ:Rho):oS f ρ=prtO (f ρ):=by
 unfold oS ob prtO
 cases f ρ with
 | none=>rfl
 | some d=>cases d<;>rfl
theorem qdq (i:Int):prtO (some (.int i))=some (some i):=rfl
theorem qdL (i j:Int):subD (.int i) (.int j)=some (.int (i-j)):=rfl
theorem qc4 (i:Int):negD (.int i)=some (.int (-i)):=rfl
theorem qc3 (i j:Int):ltD2 (.int i) (.int j)=some (.bool (decide (i<j))):=by
 show (if _ then ob (ltX (.int i) (.int j)) _ else none)=_
 rw [if_pos ⟨rfl,rfl,Nat.zero_le 60⟩,ltX]
 rfl
theorem leD_i (i j:Int):leD (.int i) (.int j)=some (.bool (decide (i<=j))):=rfl
theorem qcS (T:String)(ds:List PyData):isiT T (.tuple ds)=(T == "tuple" || T == "object"):=rfl
theorem qcP (T:String)(ds:List PyData):isiT T (.list ds)=(T == "list" || T == "object"):=rfl
theorem qcO (T:String)(i:Int):isiT T (.int i)=(T == "int" || T == "object"):=rfl
theorem qcN (T:String)(b:Bool):isiT T (.bool b)=(T == "bool" || T == "int" || T == "object"):=rfl
theorem qcR (T:String)(x:Str):isiT T (.str x)=(T == "str" || T == "object"):=rfl
theorem qcQ (T:String):isiT T .none=(T == "NoneType" || T == "object"):=rfl
theorem qcb (j:Int):jt [.int j]=if -1000<=j/\j<=1000 then some (rngL 0 j.toNat) else none:=rfl
def S3 (a b c:Int):PyData:=.tuple [.int a,.int b,.int c]
def T3 (p q r:PyData):PyData:=.tuple [p,q,r]
theorem qcI (a b c:Int):PyData.eqv (S3 a b c) (S3 a b c)=true:=by
 show ((a==a)&&((b==b)&&((c==c)&&true)))=true
 simp
section
variable {X:Cx}
def absD:List PyData->Option PyData
 | [.int i]=>some (.int (if i<0 then -i else i))
 | _=>none
theorem b_abs:CallD X (.builtin "abs") absD:=fun pins s σ H xs us Q I r ⟨S,ds,d,m,h1,e,q⟩=>W8 pins s σ H xs us Q I r (by
 unfold absD at e
 split at e
 ·cases e
  obtain ⟨v,rfl,hv⟩:=h1.inv1
  exact ⟨_,by rw [hv.int_inv],q _ H (Same.refl H) (.int _)⟩
 ·cases e)
theorem We:bootBuiltins "abs" = some (.builtin "abs"):=by decide +kernel
theorem qcy (i:Int):absD [.int i]=some (.int (if i<0 then -i else i)):=rfl
end
def evCh (fa fb fc:Rho->Option PyData)(g g':PyData->PyData->Option PyData):Rho->Option PyData:=fun ρ=>ob (fa ρ) fun x=>ob (fb ρ) fun y=>ob (g x y) fun z=>ob (je z) fun k=>if k=true then ob (fc ρ) fun w=>g' y w else some (.bool false)
section
variable {X:Cx}{M:List Nat}{a b c:Expr}{fa fb fc:Rho->Option PyData}{pos:Pos}{op op':CmpOp}{g g':PyData->PyData->Option PyData}
theorem tChD {K:PySem.W.Frag}:∀ σ H Q,tD K M (evCh fa fb fc g g') σ H Q->qaZ (rD2 K g) (rD2 K g') (tD K M fa) (tD K M fb) (tD K M fc) σ H Q:=by
 intro σ H Q ⟨S,ρ,d,hs,e,q⟩
 obtain ⟨x,e1,e⟩:=ql e
 obtain ⟨y,e2,e⟩:=ql e
 obtain ⟨z,e3,e⟩:=ql e
 obtain ⟨k,e4,e⟩:=ql e
 cases QJ e4
 refine ⟨S,ρ,x,hs,e1,fun v H1 g1 d1=>⟨S,ρ,y,hs.same g1,e2,fun w H2 g2 d2=>⟨S,x,y,_,hs.1.same (g1.trans g2),d1.same g2,d2,e3,fun zv H3 g3 dz=>⟨k,dz.bool_inv,?_⟩⟩⟩⟩
 have g123:=g1.trans (g2.trans g3)
 cases k with
 | true =>
  have e:(ob (fc ρ) fun w=>g' y w)=some d:=e
  obtain ⟨w',e5,e⟩:=ql e
  exact iteT ⟨S,ρ,w',hs.same g123,e5,fun wv H4 g4 d4=>⟨S,y,w',d,hs.1.same (g123.trans g4),d2.same (g3.trans g4),d4,e,fun v5 H5 g5 d5=>q v5 H5 (g123.trans (g4.trans g5)) d5⟩⟩
 | false =>
  cases e
  exact iteF (q _ H3 g123 (.bool false))
theorem qaz (ho:OpD X (compareOp op) g)(ho':OpD X (compareOp op') g')(ha:PD X M a fa)(hb:PD X M b fb)(hc:PD X M c fc)(hm:lastMarks [op,op'] [b,c]=false:=by with_unfolding_all rfl):PD X M (.Compare a [op,op'] [b,c] pos) (evCh fa fb fc g g') :=
 (qaK ho ho' ha hb hc hm).weak tChD
end
def chO (y:Option PyData)(k:Option PyData)(fc:Rho->Option PyData)(g':PyData->PyData->Option PyData)(ρ:Rho):Option PyData:=match y,k with
 | some y,some (.bool true)=>ob (fc ρ) (g' y)
 | some _,some (.bool false)=>some (.bool false)
 | _,_=>none
theorem qcJ (fa fb fc:Rho->Option PyData)(g g':PyData->PyData->Option PyData)(ρ:Rho):evCh fa fb fc g g' ρ=chO (fb ρ) (binO (fa ρ) (fb ρ) g) fc g' ρ:=by
 unfold evCh ob chO binO je
 cases fa ρ with
 | none=>cases fb ρ<;>rfl
 | some x =>
  cases fb ρ with
  | none=>rfl
  | some y =>
   dsimp only
   cases g x y with
   | none=>rfl
   | some z =>
    cases z with
    | bool k=>cases k<;>rfl
    | _=>rfl
theorem chO_t (y:PyData)(fc:Rho->Option PyData)(g':PyData->PyData->Option PyData)(ρ:Rho):chO (some y) (some (.bool true)) fc g' ρ=ob (fc ρ) (g' y):=rfl
theorem chO_f (y:PyData)(fc:Rho->Option PyData)(g':PyData->PyData->Option PyData)(ρ:Rho):chO (some y) (some (.bool false)) fc g' ρ=some (.bool false):=rfl
section
variable {X:Cx}{G:Gm}{M M' Mb L:List Nat}{fr:Fr}{a b c:Expr}{es:List Expr}{f fk g:Rho->Option PyData}{pos:Pos}{u:Rho->Option Out}
def zz (x y:PyData):Option PyData:=match x,y with
 | .int i,.int j=>some (.int (i+j))
 | .list ds,.list es=>if ds.length+es.length<=1000 then some (.list (ds++es)) else none
 | x,y=>wk x y
def rCatL (K:PySem.W.Frag):R2:=fun x y H Q=>∃ l b xs zs,x=.ref l/\y=.ref b/\SqL K H l xs/\SqL K H b zs/\xs.length+zs.length<=sizeLine/\∀ p,H p=none->Q (.ref p) (upd H p (.lst (xs++zs)))
theorem qbM:OpR X (binaryOp .Add) (rCatL X.K):=by
 intro pins s σ H x y v u Q I rx ry h
 obtain ⟨l,b,xs,zs,rfl,rfl,hH,hB,hz,q⟩:=h
 cases rx
 cases ry
 obtain ⟨its,r,⟨⟨cls,dd,data,sl⟩,n,g1,g2,_,g3⟩,_⟩:=I.list hH
 obtain ⟨its2,r2,⟨⟨cls2,dd2,data2,sl2⟩,n2,k1,k2,_,k3⟩,_⟩:=I.list hB
 simp only at g2 g3 k2 k3
 subst g2 g3 k2 k3
 have ea:its.toArray++its2.toArray=(its++its2).toArray:=by simp
 have l1:=r.length
 have l2:=r2.length
 refine concat_meets ⟨_,g1,rfl⟩ ⟨_,k1,rfl⟩ noFill_list_add seq_list_add PySem.F.slot_list_add PySem.F.entry_list_add (PySem.F.args_list_add_2 _ _) (list_addW l b its.toArray its2.toArray n n2 dd dd2 sl sl2 (by rw [List.size_toArray,List.size_toArray];omega)) ⟨g1,k1,?_⟩
 rw [ea]
 exact ⟨.ref _,_,I.lnew (t':=s.toks) (r.append r2) (by rw [List.length_append];omega),rfl,q _ I.fresh⟩
theorem qcG:OpD X (binaryOp .Add) (fun x y=>match x,y with | .list ds,.list es=>if ds.length+es.length<=1000 then some (.list (ds++es)) else none|_,_=>none):=by
 refine Z0 qbM fun x y dx dy d H S Q m h1 h2 e q=>?_
 split at e
 ·split at e
  ·rename_i ds es hc
   cases e
   cases h1 with
   | list a1 t1 =>
    cases h2 with
    | list a2 t2 =>
     exact ⟨_,_,_,_,rfl,rfl,a1.sq,a2.sq,by rw [t1.length,t2.length];exact Nat.le_of_lt (zB hc),fun p hp=>q _ _ (Same.lay hp) (.list (SqLS.new qN (m.free hp)) ((t1.append t2).same (Same.lay hp)))⟩
  ·cases e
 ·cases e
theorem zO:OpD X (binaryOp .Add) zz:=by
 intro pins s σ H x y v u Q I rx ry h
 obtain ⟨S,dx,dy,d,m,h1,h2,e,q⟩:=h
 unfold zz at e
 split at e
 ·exact qae pins s σ H x y v u Q I rx ry ⟨S,_,_,d,m,h1,h2,e,q⟩
 ·exact qcG pins s σ H x y v u Q I rx ry ⟨S,_,_,d,m,h1,h2,e,q⟩
 ·exact qae pins s σ H x y v u Q I rx ry ⟨S,_,_,d,m,h1,h2,e,q⟩
theorem qbb (i j:Int):zz (.int i) (.int j)=some (.int (i+j)):=rfl
end
def ItB (h:Heap)(b:Bool)(it a:Addr)(i:Nat):Prop:=if b=true then h.IsTupleIter it a i else h.IsListIter it a i
section
variable {X:Cx}{pins:List (Addr×Obj)}{σ:St}{H:Hp}{s:Shared}
theorem ItB.obj {h:Heap}{b:Bool}{it a:Addr}{i:Nat}(q:ItB h b it a i):∃ o,h.get? it=some o/\∀ v,o.data≠.cell v:=by
 cases b with
 | true=>obtain ⟨o,ho,c,d⟩:=(show h.IsTupleIter it a i from q);exact ⟨o,ho,fun v z=>by rw [d] at z;cases z⟩
 | false=>obtain ⟨o,ho,c,d⟩:=(show h.IsListIter it a i from q);exact ⟨o,ho,fun v z=>by rw [d] at z;cases z⟩
end
section
variable {X:Cx}{M:List Nat}{a:Expr}{es:List Expr}{f:Rho->Option PyData}{pos:Pos}
theorem qbo (k:Nat)(g:PyData->Rho->Option Rho)(tt:Rho->Option Bool)(te:Rho->Option PyData)(ρ:Rho):jg k g tt te ρ []=some []:=rfl
end
def k1Of:PyData->Option (Int ⊕ List Int)
 | .int i=>some (.inl i)
 | .tuple ds=>ob (intsOf ds) fun js=>some (.inr js)
 | _=>none
def qcq:List PyData->Option K2
 | []=>some []
 | d::ds=>ob (k1Of d) fun k=>ob (qcq ds) fun ks=>some (k::ks)
def k2Of:PyData->Option K2
 | .tuple ds=>qcq ds
 | _=>none
def kxOf:PyData->Option KX
 | .int i=>some (.inl i)
 | d=>ob (k2Of d) fun ks=>some (.inr ks)
def kOk (kvs:List (PyData×PyData))(k:KX):Bool:=kvs.all fun p=>qcM p.1==kxI k
def findD (kvs:List (PyData×PyData))(ks:KX):Option PyData:=(kvs.find? fun p=>PyData.eqv p.1 (kxD ks)).map (·.2)
def putD (kvs:List (PyData×PyData))(ks:KX)(v:PyData):List (PyData×PyData) :=
 if (findD kvs ks).isSome=true then kvs.map (fun p=>if PyData.eqv p.1 (kxD ks)=true then (p.1,v) else p) else kvs++[(kxD ks,v)]
section
variable {X:Cx}{pins:List (Addr×Obj)}{σ:St}{H:Hp}{s:Shared}{S:Av}
theorem Yl {P:Program}{w:World}:∀ {es:List DictEntry} {vs:List (Int×Value)},Paired EnI es vs->Pairs (intKind P w) es vs
 | _,_,.nil=>.nil
 | _,_,.cons h t=>by
  obtain ⟨_,⟨tk,h2⟩,h3⟩:=h
  exact .cons (by rw [h2];exact intKind_is P w _ tk) h3 (Yl t)
theorem Ww {P:Program}{w:World}{es:Array DictEntry}{vs:List (Int×Value)}(h:Paired EnI es.toList vs):PySem.KeysOf (intKind P w) es:=by
 intro e he
 have he:e∈es.toList:=Array.mem_toList_iff.mpr he
 generalize es.toList=l at h he
 induction h with
 | nil=>cases he
 | @cons a b as bs h t ih =>
  rcases List.mem_cons.mp he with rfl|he
  ·obtain ⟨h1,⟨tk,h2⟩,_⟩:=h
   exact ⟨b.1,by rw [h2];exact intKind_is P w _ tk,h1⟩
  ·exact ih he
theorem JB {P:Program}{w:World}:∀ {es:List DictEntry} {vs:List (Int×Value)},Pairs (intKind P w) es vs->(∀ e∈es,∃ k,(intKind P w).is k e.key=true/\e.hash=(intKind P w).hash k)->Paired EnI es vs
 | _,_,.nil,_=>.nil
 | _,_,.cons h1 h2 t,hk=>by
  refine .cons ?_ (JB t fun e he=>hk e (.tail _ he))
  obtain ⟨k,g1,g2⟩:=hk _ (.head _)
  obtain ⟨tk,e⟩:=Value.isInt_shape h1
  have hkk:=(intKind P w).inj _ _ _ g1 h1
  exact ⟨by rw [g2,hkk];rfl,⟨tk,e⟩,h2⟩
theorem qbr (I:Inv X pins σ H s){a:Addr}{kvs:List (KX×Addr×V)}{ep:Nat}(h:H a=some (DctO a kvs ep))(hk:∀ p∈kvs,kxI p.1=true) :
  kvs.length<=sizeLine/\(a==sysModules)=false/\∃ vs:List (Int×Value),Paired PkI kvs vs/\s.heap.DictOf (intKind X.prog X.w) a vs:=by
 have d:=QF.of (I.hok a _ h)
 obtain ⟨vs,pk,o,es,h1,h2,h3,h4,h5⟩:=d.int hk
 exact ⟨d.1,d.2.1,vs,pk,o,es,ep,h1,h2,h3,Ww h4,Yl h4,h5⟩
theorem qbF {y:V}{u:Value}{i:Int}(d:Den X.K H S y (.int i))(r:RelV y u):y=.int i/\∃ t,u=.int i t:=by
 cases d
 exact ⟨rfl,r⟩
end
def dputD (d k v:PyData):Option PyData:=match d with
 | .dict kvs=>ob (kxOf k) fun ks=>if kOk kvs ks=true/\kvs.length<1000 then some (.dict (putD kvs ks v)) else none
 | _=>none
section
variable {X:Cx}{G:Gm}{M M' Mb L:List Nat}{fr:Fr}{a b c:Expr}{es:List Expr}{f fk fx g fa fb:Rho->Option PyData}{pos:Pos}{u:Rho->Option Out}
theorem qaP:PF X M (.Dict [] [] pos) (kd (.dict [])):=fun pins s σ H Q I ⟨S,ρ,d,hs,e,q⟩=>by
 cases e
 have hb:sysModules<s.heap.objs.size:=Nat.lt_trans (by decide) (show mainGlobals<s.heap.objs.size from (I.mod.glob.keeps I.bk).lt)
 have hn:=I.hok.fresh (Nat.le_refl s.heap.objs.size)
 have dct:QF s.heap.objs.size [] 0 (s.heap.push { cls:=.type "dict", data:=.dict #[] }):=⟨Nat.zero_le _,beq_eq_false_iff_ne.mpr (Ne.symm (Nat.ne_of_lt hb)),.inl ⟨[],.nil,_,#[],Heap.get?_push_size _ rfl,⟨rfl,rfl,rfl⟩,rfl,rfl,List.nodup_nil⟩⟩
 exact wpAny_Dict_empty ⟨.ref s.heap.objs.size,_,I.laid (a:=s.heap.objs.size) (o:=DctO s.heap.objs.size [] 0) (t':=s.toks) (fun _ _ q=>Heap.get?_push_of_some _ q) (Nat.le_refl _) dct.ok,rfl,q _ _ (Same.lay hn) hn (.dct (kvs:=[]) (ds:=[]) qN .nil .nil)⟩
end
section
variable {X:Cx}{G:Gm}{M M' Mb L:List Nat}{fr:Fr}{a b c:Expr}{es:List Expr}{f fk g:Rho->Option PyData}{pos:Pos}{u:Rho->Option Out}
def sNo:Rho->Option Out:=fun _=>none
theorem yf {e1 e2:Option Expr}:PDS X G M L M' Mb fr (.Raise e1 e2 pos) sNo:=fun pins s σ H D I ⟨S,ρ,o,os,e,q⟩=>by cases e
end
section
variable {X:Cx}{G:Gm}{M M' Mb L:List Nat}{fr:Fr}{a b c:Expr}{es:List Expr}{f fk g:Rho->Option PyData}{pos:Pos}{u:Rho->Option Out}{fs:Rho->Option (List PyData)}
theorem DenS.insO {K:PySem.W.Frag}{H H':Hp}{S:Av}{σ:St}{ρ:Rho}{p:Addr}{d:PyData}(hs:DenS K H S M σ ρ)(e:Same H H')(n:H p=none)(o:OwnO K H' (insA S p) p d):DenS K H' (insA S p) M σ ρ :=
 ⟨(hs.1.same e).ins o.mut,hs.2.1,fun i d hi q=>let ⟨v,a,b⟩:=hs.2.2 i d hi q;⟨v,a,(b.sub fun a ha z=>z.elim id fun y=>absurd (by rw [y];exact n) ha).same e⟩⟩
end
section
open PySem.SeqAt
open PySem.AutoSeq1 (wpAny_loadPart')
open PySem.MeetsSeq PySem.MeetsSeq2 PySem.MeetsSeq3
end
section
variable {X:Cx}{M:List Nat}{a b:Expr}{f fk:Rho->Option PyData}{pos:Pos}
def yS (k v:PyData):Option PyData:=match k with
 | .int i=>some (.dict [(.int i,v)])
 | _=>none
theorem YC {k v d:PyData}(e:yS k v=some d):∃ i,k=.int i/\d=.dict [(.int i,v)]:=by
 unfold yS at e
 split at e
 ·cases e;exact ⟨_,rfl,rfl⟩
 ·cases e
theorem qaQ (hk:PD X M a fk)(hv:PD X M b f):PF X M (.Dict [some a] [b] pos) (ev2 fk f yS):=fun pins s σ H Q I ⟨S,ρ,d,hs,e,q⟩=>by
 obtain ⟨x,e1,e⟩:=ql e
 obtain ⟨y,e2,e⟩:=ql e
 obtain ⟨i,rfl,rfl⟩:=YC e
 have hb:sysModules<s.heap.objs.size:=Nat.lt_trans (by decide) (show mainGlobals<s.heap.objs.size from (I.mod.glob.keeps I.bk).lt)
 have hn:=I.hok.fresh (Nat.le_refl s.heap.objs.size)
 have dct:QF s.heap.objs.size [] 0 (s.heap.push { cls:=.type "dict", data:=.dict #[] }):=⟨Nat.zero_le _,beq_eq_false_iff_ne.mpr (Ne.symm (Nat.ne_of_lt hb)),.inl ⟨[],.nil,_,#[],Heap.get?_push_size _ rfl,⟨rfl,rfl,rfl⟩,rfl,rfl,List.nodup_nil⟩⟩
 have I1:=I.laid (a:=s.heap.objs.size) (o:=DctO s.heap.objs.size [] 0) (t':=s.toks) (fun _ _ q=>Heap.get?_push_of_some _ q) (Nat.le_refl _) dct.ok
 have g0:Same H (upd H s.heap.objs.size (DctO s.heap.objs.size [] 0)):=Same.lay hn
 have o0:OwnO X.K (upd H s.heap.objs.size (DctO s.heap.objs.size [] 0)) (insA S s.heap.objs.size) s.heap.objs.size (.dict []):=.dct (kvs:=[]) (ds:=[]) qN .nil .nil
 have hs1:=hs.insO g0 hn o0
 refine wpAny_Dict_walk (knd:=intKind X.prog X.w) rfl rfl (by simp) (show 1<=15 by decide) (pairTrees_cons_walk (thn (hk pins _ σ _ (fun v H2=>Same (upd H s.heap.objs.size (DctO s.heap.objs.size [] 0)) H2/\Den X.K H2 (insA S s.heap.objs.size) v (.int i)) I1 ⟨_,ρ,_,hs1,e1,fun v H2 g d=>⟨g,d⟩⟩) fun u s1 ⟨kv,H2,I2,rk,g2,dk⟩ =>
  thn (hv pins s1 σ H2 (fun v H3=>Same H2 H3/\Den X.K H3 (insA S s.heap.objs.size) v y) I2 ⟨_,ρ,_,hs1.same g2,e2,fun v H3 g d=>⟨g,d⟩⟩) fun w2 s2 ⟨vv,H3,I3,rv,g3,dv⟩=>pairTrees_nil_walk ?_))
 obtain ⟨rfl,t',rfl⟩:=qbF dk rk
 have hp3:H3 s.heap.objs.size=some (DctO s.heap.objs.size [] 0):=g3 _ _ (g2 _ _ qN)
 obtain ⟨_,hsys,vs,pk,dd⟩:=qbr I3 hp3 (fun p hp=>by cases hp)
 cases pk
 refine ⟨[(i,w2)],⟨intKind_is _ _ i t',rfl,True.intro⟩,dd,fun h' dd' hs'=>?_⟩
 obtain ⟨o,es,ep',k1,k2,k3,k4,k4',k5⟩:=dd'
 have dct':QF s.heap.objs.size [(.inl i,0,vv)] ep' h':=⟨Nat.le_of_lt (zB (show 1<=1000 by decide)),hsys,.inr ⟨[(i,w2)],.cons ⟨rfl,rv⟩ .nil,o,es,k1,k2,k3,JB k4' fun e he=>k4 e (Array.mem_toList_iff.mp he),k5⟩⟩
 refine ⟨.ref s.heap.objs.size,_,I3.write (x:=s.heap.objs.size) (e:=s.heap.objs.size) (by rw [hp3];exact True.intro) (.inl rfl) (fun c o' hc e=>(hs'.2 c hc).trans e) ⟨o,k1⟩ dct'.ok,rfl,?_⟩
 refine q _ _ (fun c o' hc=>?_) hn ?_
 ·rw [qJ (qQ hc hn)]
  exact g3 _ _ (g2 _ _ (g0 _ _ hc))
 ·refine .dct (kvs:=[(.inl i,0,vv)]) (ds:=[y]) qN (.cons (.int i) .nil) ((DenL.cons dv .nil).off ?_ (Off.upd (.inr rfl)))
  exact (hs1.1.same g2).same g3
end
def scB (N P G:List Str)(sc:Scope):Bool :=
 decide (sc.kind=.function)&&(decide (sc.isCoroutine=false)&&(decide (sc.isGenerator=false)&&(decide N.Nodup&&(decide (N.take P.length=P)&&(P.all (locB sc)&&(sc.names.all (fun y=>decide (y.2≠.free))&&(N.all (fun x=>visB sc x&&locB sc x)&&G.all (glB sc))))))))
structure ScOk (N P G:List Str)(sc:Scope):Prop where
 fs:FnScope N P sc
 nm:∀ x∈N,visB sc x=true/\locB sc x=true
 gb:∀ x∈G,glB sc x=true
theorem scmk {N P G:List Str}{sc:Scope}(h:scB N P G sc=true):ScOk N P G sc:=by
 unfold scB at h
 simp only [Bool.and_eq_true,decide_eq_true_eq,List.all_eq_true] at h
 obtain ⟨h1,h2,h3,h4,h5,h6,h7,h8,h9⟩:=h
 exact ⟨⟨h1,h2,h3,h4,h5,fun x hx=>qat (h6 x hx),h7⟩,h8,h9⟩
section
variable {N P G:List Str}{sc:Scope}{x:Str}
theorem ScOk.vis (S:ScOk N P G sc)(i:Nat)(e:N[i]?=some x):Vis sc x:=qa8 (S.nm x (List.mem_of_getElem? e)).1
theorem ScOk.loc (S:ScOk N P G sc)(i:Nat)(e:N[i]?=some x):Loc sc x:=qat (S.nm x (List.mem_of_getElem? e)).2
theorem ScOk.gl {X:Cx}(S:ScOk N P G sc)(i:Nat)(e:G[i]?=some x)(hs:X.env.scope=sc):Gl X x:=gl_fn sc hs (S.gb x (List.mem_of_getElem? e))
end
def FnK (K:PySem.W.Frag)(n:Str)(st:Stmt):Prop:=∃ (f:Addr) (fd:FuncData),PySem.W.nsIn K mainGlobals n=some (some (.ref f))/\Fun K n n st f fd
theorem FnK.of {K:PySem.W.Frag}{n:Str}{st:Stmt}{f:Addr}{oc:Value}{od an:Option Addr}{osl:Array (Option Value)}{kV doc pm cdv ct:Value}(a:PySem.W.nsIn K mainGlobals n=some (some (.ref f)))(l:K.lookup f=some ⟨oc,od,.func (PySem.W.fnOf n n (Qt st) (zu st) (qj st) .none kV doc pm an cdv ct),osl⟩)
  (c:PySem.W.codeIn K cdv n=true) (k:PySem.W.keepIn K (.ref f)=true):FnK K n st:=⟨f,_,a,YD l c k⟩
structure Fly (l:List Env)(H H':Hp)(g h B:Heap)(a:Addr)(cls:Value)(t:Addr):Prop where
 fl:Heap.FlyingW B l a cls (.ref t) h
 trk:∀ b u,H' b=some u->∀ o,h.get? b=some o->B.get? b=some o
 old:∀ b o,g.get? b=some o->H b=none->b∉frs l->B.get? b=some o
 dom:∀ b o,g.get? b=some o->b∉frs l->∃ o',B.get? b=some o'
 un:Un (frs l) [] H H' g h
def CX1 (P:Program)(w:World):CXT:=fun outer H s E e s'=>∃ a H' cls t B,e=.ref a/\s'.os=s.os/\AllBare s'.gens/\HOk P w H' s'.heap/\Fly outer H H' s.heap s'.heap B a cls t/\E cls none H'
theorem zE.ex {P:Program}{w:World}{H:Hp}{h:Heap}{a:Addr}{o:HO}(x:zE P w H h a o):∃ ob,h.get? a=some ob:=by
 cases o with
 | lst xs=>obtain ⟨_,_,_,_,e⟩:=x;exact ⟨_,e⟩
 | tup xs=>obtain ⟨_,_,_,_,e,_⟩:=x;exact ⟨_,e⟩
 | dK kvs=>obtain ⟨_,_,_,_,o,_,_,e,_⟩:=x;exact ⟨_,e⟩
 | dT kvs=>obtain ⟨_,_,_,_,o,_,_,e,_⟩:=x;exact ⟨_,e⟩
 | set S n=>obtain ⟨o,_,_,_,e,_⟩:=x;exact ⟨_,e⟩
 | ins C dx fs=>obtain ⟨_,_,_,e,_⟩:=x;exact ⟨_,e⟩
 | own y=>obtain ⟨_,e⟩:=x;exact ⟨_,e⟩
 | xd fs=>obtain ⟨_,⟨_,_,_,e,_⟩,_⟩:=x;exact ⟨_,e⟩
 | rng lo hi=>obtain ⟨_,_,_,e⟩:=x;exact ⟨_,e⟩
 | frz ob u=>exact ⟨_,x.1⟩
 | tbl ps=>exact ⟨_,(show h.get? a=some _ from x)⟩
 | met f y=>exact ⟨_,(show h.get? a=some _ from x)⟩
 | ext φ=>exact x.2.1
section
variable {P:Program}{w:World}{l l':List Env}{H H':Hp}{g h h' B:Heap}{a t:Addr}{cls:Value}
theorem Fly.hok (F:Fly l H H' g h B a cls t)(k:HOk P w H' h)(fl':Heap.FlyingW B l' a cls (.ref t) h'):HOk P w H' h':=fun b u e =>
 (k b u e).stay (fun c v hc q=>by
  have:H' c≠none:=by
   rcases hc with z|z
   ·rw [z,e];exact fun y=>nomatch y
   ·rw [z];exact fun y=>nomatch y
  obtain ⟨u',hu⟩:=Option.ne_none_iff_exists'.mp this
  exact fl'.1 _ _ (F.trk c u' hu v q)) (fun _ q=>q) fun _ _ q=>q
theorem Fly.step (F:Fly l H H' g h B a cls t)(k:HOk P w H' h)(fl':Heap.FlyingW B l a cls (.ref t) h')(up:h.UpToSlots h'):Fly l H H' g h' B a cls t where
 fl:=fl'
 trk:=fun b u e o q=>by
  obtain ⟨o1,h1⟩:∃ o1,h.get? b=some o1:=(k b u e).ex
  have h2:=F.trk b u e o1 h1
  have h3:=fl'.1 _ _ h2
  rw [q] at h3
  cases h3
  exact h2
 old:=F.old
 dom:=F.dom
 un:={
  keep:=fun b o e n hb _=>fl'.1 _ _ (F.old b o e n hb)
  slot:=fun b o e n hb hx=>by
   obtain ⟨sl,e1⟩:=F.un.slot b o e n hb hx
   obtain ⟨_,o',e2,nf⟩:=F.fl.2.2.1.mem hb
   rw [e1] at e2
   cases e2
   obtain ⟨sl',e3⟩:=up b _ e1 nf
   exact ⟨sl',e3⟩
  free:=F.un.free
  there:=fun b o e _=>by
   by_cases hb:b∈frs l
   ·obtain ⟨_,o',e2,nf⟩:=F.fl.2.2.1.mem hb
    obtain ⟨sl',e3⟩:=up b _ e2 nf
    exact ⟨_,e3⟩
   ·obtain ⟨o',e'⟩:=F.dom b o e hb
    exact ⟨o',fl'.1 _ _ e'⟩
  tups:=F.un.tups
  frzs:=F.un.frzs
  tbls:=F.un.tbls }
end
def XMade (X:Cx)(pins:List (Addr×Obj))(G:Gm)(M L:List Nat)(ρ:Rho)(a C:Addr)(s':Shared):Prop :=
 ∃ σ H S s2 args,Inv X pins σ H s2/\OwnS X.K G M L H S σ ρ/\Heap.MadeExcOf s2.heap s'.heap a (.ref C) args/\s'={ s2 with heap:=s'.heap }
def qcl (X:Cx)(pins:List (Addr×Obj))(G:Gm)(M L:List Nat)(ρ:Rho)(a C:Addr)(s':Shared):Prop :=
 ∃ σ H S s1 H' B t,Inv X pins σ H s1/\OwnS X.K G M L H S σ ρ/\Same H H'/\s'.os=s1.os/\AllBare s'.gens/\HOk X.prog X.w H' s'.heap/\Fly X.stack H H' s1.heap s'.heap B a (.ref C) t
def XCls (K:PySem.W.Frag)(c:Str)(C:Addr):Prop:=PySem.W.nsIn K mainGlobals c=some (some (.ref C))/\xcB K C=true
def XAt (X:Cx)(o:Bool)(pins:List (Addr×Obj))(G:Gm)(M L:List Nat)(x:PyData)(ρ:Rho)(e:Value)(s':Shared):Prop :=
 ∃ a c C,e=.ref a/\x=excD c .none/\XCls X.K c C/\((o=false/\XMade X pins G M L ρ a C s')\/qcl X pins G M L ρ a C s')
def PDX (X:Cx)(o:Bool)(G:Gm)(M L Mx:List Nat)(st:Stmt)(w:Rho->Option (PyData×Rho)):Prop :=
 ∀ (pins:List (Addr×Obj)) (s:Shared) (σ:St) (H:Hp) (S:Av) (ρ ρ':Rho) (x:PyData),Inv X pins σ H s->OwnS X.K G M L H S σ ρ->w ρ=some (x,ρ')->
  wpAny (model X.prog X.w) X.A (exec st X.env) (fun _ _=>False) (XAt X o pins G Mx L x ρ') s
def PDXs (X:Cx)(o:Bool)(G:Gm)(M L Mx:List Nat)(st:List Stmt)(w:Rho->Option (PyData×Rho)):Prop :=
 ∀ (pins:List (Addr×Obj)) (s:Shared) (σ:St) (H:Hp) (S:Av) (ρ ρ':Rho) (x:PyData),Inv X pins σ H s->OwnS X.K G M L H S σ ρ->w ρ=some (x,ρ')->
  wpAny (model X.prog X.w) X.A (execs st X.env) (fun _ _=>False) (XAt X o pins G Mx L x ρ') s
section
variable {X:Cx}{pins:List (Addr×Obj)}{σ:St}{H H':Hp}{s s':Shared}{G:Gm}{S:Av}
theorem Inv.stkLoc (I:Inv X pins σ H s){b:Addr}{o:Obj}(e:X.s₀.heap.get? b=some o)(h:b∉X.fs):b∉frs X.stack:=fun z=>by
 rcases List.mem_cons.mp (I.stkSub b z) with y|y
 ·exact absurd (Heap.lt_size e) (by rw [y];exact Nat.not_lt.mpr I.ok.above)
 ·exact h y
theorem YL {E:Value->Shared->Prop}{Q:Unit->Shared->Prop}{h:Heap}{a:Addr}{cls:Value}{args:List Value}(I:Inv X pins σ H s)(hx:Heap.MadeExcOf s.heap h a cls args)(hst:X.stack=X.env::X.outer)(hfr:X.env.frame=some X.env.locals)(hex:X.ex=[])
  (hq:∀ h' t,HOk X.prog X.w H h'->Fly X.outer X.H₀ H X.s₀.heap h' (PySem.W.hideAll s.heap (frs X.stack)) a cls t->Q () { s with heap:=h' }):wpAny (model X.prog X.w) X.A (leaving X.env (.ref a)) Q E { s with heap:=h }:=by
 have noex:∀ b,b∉X.ex:=fun b z=>by rw [hex] at z;cases z
 have hin:∀ env∈X.env::X.outer,∀ b,env.frame=some b->b∈frs X.stack:=fun env he b hb=>by
  rw [hst];exact List.mem_filterMap.mpr ⟨env,he,hb⟩
 have hF:s.heap.FunFrames X.base (X.env::X.outer):=by have:=I.stack;rw [hst] at this;exact this
 have fr:X.A.frames=some (X.env::X.outer):=by rw [I.ok.frames,hst]
 refine wpAny_leaves_madeW (h:=s.heap) fr hfr (fun b o q=>PySem.W.of_hideAll _ q) (PySem.W.funFrames_hide hF hin) hx fun h' t x1 x2 x3 x4=>?_
 have hB:∀ b o,s.heap.get? b=some o->b∉frs X.stack->(PySem.W.hideAll s.heap (frs X.stack)).get? b=some o:=fun b o q n=>PySem.W.hideAll_get _ q n
 have trk:∀ b u,H b=some u->∀ o,s.heap.get? b=some o->(PySem.W.hideAll s.heap (frs X.stack)).get? b=some o:=fun b u e o q=>hB b o q fun z=>by rw [I.stkFree b z] at e;cases e
 have old:∀ b o,X.s₀.heap.get? b=some o->X.H₀ b=none->b∉frs X.outer->(PySem.W.hideAll s.heap (frs X.stack)).get? b=some o:=fun b o e n hb =>
  hB b o (I.base.keep b o e n hb (noex b)) (I.stkLoc e hb)
 have dom:∀ b o,X.s₀.heap.get? b=some o->b∉frs X.outer->∃ o',(PySem.W.hideAll s.heap (frs X.stack)).get? b=some o':=fun b o e hb=>by
  obtain ⟨o',e'⟩:=I.base.there b o e (noex b)
  exact ⟨o',hB b o' e' (I.stkLoc e hb)⟩
 have frm:∀ b o,s.heap.get? b=some o->b∈frs X.stack->∃ sl,h'.get? b=some { o with slots:=sl }:=fun b o e hb=>by
  obtain ⟨_,o',e2,nf⟩:=hF.mem (show b∈(X.env::X.outer).filterMap (·.frame) from by rw [← hst];exact hb)
  rw [e] at e2
  cases e2
  exact x4 b o (hx.keeps b o e) nf
 have hsub:∀ b∈frs X.outer,b∈frs X.stack:=fun b hb=>by rw [hst];show b∈(X.env::X.outer).filterMap (·.frame);rw [List.filterMap_cons,hfr];exact .tail _ hb
 refine hq h' t (fun b u e=>(I.hok b u e).stay (fun c v hc q=>?_) (fun _ q=>q) fun _ _ q=>q) ⟨x1,fun b u e o q=>?_,old,dom,?_⟩
 ·have:H c≠none:=by
   rcases hc with z|z
   ·rw [z,e];exact fun y=>nomatch y
   ·rw [z];exact fun y=>nomatch y
  obtain ⟨u',hu⟩:=Option.ne_none_iff_exists'.mp this
  exact x1.1 _ _ (trk c u' hu v q)
 ·obtain ⟨o1,h1⟩:=(I.hok b u e).ex
  have h2:=trk b u e o1 h1
  have h3:=x1.1 _ _ h2
  rw [q] at h3
  cases h3
  exact h2
 ·exact {
      keep:=fun b o e n hb _=>x1.1 _ _ (old b o e n hb)
      slot:=fun b o e n hb _=>by
       obtain ⟨sl,e1⟩:=I.base.slot b o e n hb (noex b)
       obtain ⟨sl',e2⟩:=frm b _ e1 (hsub b hb)
       exact ⟨sl',e2⟩
      free:=fun b o e n _=>I.base.free b o e n (noex b)
      there:=fun b o e _=>by
       obtain ⟨o',e'⟩:=I.base.there b o e (noex b)
       by_cases hb:b∈frs X.stack
       ·obtain ⟨sl,e2⟩:=frm b o' e' hb
        exact ⟨_,e2⟩
       ·exact ⟨o',x1.1 _ _ (hB b o' e' hb)⟩
      tups:=I.base.tups
      frzs:=I.base.frzs
      tbls:=I.base.tbls }
theorem YK {E:Value->Shared->Prop}{Q:Unit->Shared->Prop}{B:Heap}{a t:Addr}{cls:Value}(I:Inv X pins σ H s)(ok:HOk X.prog X.w H' s'.heap)(F:Fly X.stack H H' s.heap s'.heap B a cls t)(hst:X.stack=X.env::X.outer)(hfr:X.env.frame=some X.env.locals)(hex:X.ex=[])
  (hq:∀ h',HOk X.prog X.w H' h'->Fly X.outer X.H₀ H' X.s₀.heap h' B a cls t->Q () { s' with heap:=h' }):wpAny (model X.prog X.w) X.A (leaving X.env (.ref a)) Q E s':=by
 have noex:∀ b,b∉X.ex:=fun b z=>by rw [hex] at z;cases z
 have fr:X.A.frames=some (X.env::X.outer):=by rw [I.ok.frames,hst]
 have fl:Heap.FlyingW B (X.env::X.outer) a cls (.ref t) s'.heap:=by have:=F.fl;rw [hst] at this;exact this
 refine wpAny_leaves_onW fr hfr fl fun h' x1 up=>?_
 have hok:=F.hok ok x1
 have hsub:∀ b∈frs X.outer,b∈frs X.stack:=fun b hb=>by rw [hst];show b∈(X.env::X.outer).filterMap (·.frame);rw [List.filterMap_cons,hfr];exact .tail _ hb
 have old:∀ b o,X.s₀.heap.get? b=some o->X.H₀ b=none->b∉frs X.outer->B.get? b=some o:=fun b o e n hb=>F.old b o (I.base.keep b o e n hb (noex b)) (I.base.free b o e n (noex b)) (I.stkLoc e hb)
 have dom:∀ b o,X.s₀.heap.get? b=some o->b∉frs X.outer->∃ o',B.get? b=some o':=fun b o e hb=>by
  obtain ⟨o',e'⟩:=I.base.there b o e (noex b)
  exact F.dom b o' e' (I.stkLoc e hb)
 have frm:∀ b o,s'.heap.get? b=some o->b∈frs X.stack->∃ sl,h'.get? b=some { o with slots:=sl }:=fun b o e hb=>by
  obtain ⟨_,o',e2,nf⟩:=F.fl.2.2.1.mem hb
  rw [e] at e2
  cases e2
  exact up b o e nf
 refine hq h' hok ⟨x1,fun b u e o q=>?_,old,dom,?_⟩
 ·obtain ⟨o1,h1⟩:=(ok b u e).ex
  have h2:=F.trk b u e o1 h1
  have h3:=x1.1 _ _ h2
  rw [q] at h3
  cases h3
  exact h2
 ·exact {
      keep:=fun b o e n hb _=>x1.1 _ _ (old b o e n hb)
      slot:=fun b o e n hb _=>by
       obtain ⟨sl,e1⟩:=I.base.slot b o e n hb (noex b)
       obtain ⟨sl1,e2⟩:=F.un.slot b _ e1 (I.base.free b o e n (noex b)) (hsub b hb) (by simp)
       obtain ⟨sl',e3⟩:=frm b _ e2 (hsub b hb)
       exact ⟨sl',e3⟩
      free:=fun b o e n _=>by
       obtain ⟨o',e'⟩:=I.base.there b o e (noex b)
       exact F.un.free b o' e' (I.base.free b o e n (noex b)) (by simp)
      there:=fun b o e _=>by
       obtain ⟨o',e'⟩:=I.base.there b o e (noex b)
       obtain ⟨o2,e2⟩:=F.un.there b o' e' (by simp)
       by_cases hb:b∈frs X.stack
       ·obtain ⟨sl,e3⟩:=frm b o2 e2 hb
        exact ⟨_,e3⟩
       ·obtain ⟨o3,e3⟩:=F.dom b o' e' hb
        exact ⟨o3,x1.1 _ _ e3⟩
      tups:=fun b xs e=>F.un.tups b xs (I.base.tups b xs e)
      frzs:=fun b o u e=>F.un.frzs b o u (I.base.frzs b o u e)
      tbls:=fun b ps e=>by
       obtain ⟨m1,e1⟩:=I.base.tbls b ps e
       obtain ⟨m2,e2⟩:=F.un.tbls b _ e1
       exact ⟨m1++m2,by rw [e2,Array.append_assoc]⟩ }
end
theorem qbu {K:PySem.W.Frag}{h:Heap}{C:Addr}{bmB:List Value}{newId:String}(X:K.In h)(q:PySem.W.excIn K C bmB newId=true) :
  ∃ bm N nm qn bs hd sn sub ab col dd k0 k1 k2 k3 k5 mN,h.get? C=some (excClassObj nm qn C N bs bm hd sn sub ab col dd k0 k1 k2 k3 k5 newId)/\h.Ns N mN/\mN "__init__" = none/\OwnTail h bmB bm:=by
 unfold PySem.W.excIn at q
 split at q
 case h_2=>cases q
 rename_i dd cd sl lk;split at q
 case h_2=>cases q
 rename_i C' bm k0 k1 k2 k3 n k5 em es
 rw [Bool.and_eq_true,Bool.and_eq_true,Bool.and_eq_true,Bool.and_eq_true,Bool.and_eq_true] at q
 obtain ⟨⟨⟨⟨⟨c1,c2⟩,c3⟩,c4⟩,c5⟩,c6⟩:=q
 replace c1:=beq_iff_eq.mp c1
 replace c2:=beq_iff_eq.mp c2
 replace c6:=beq_iff_eq.mp c6
 obtain ⟨nm,bs,mro,ns,qn,hd,sn,sub,ab,col,del⟩:=cd
 obtain ⟨l⟩:=sl
 have hdel:del=false:=by cases del with | true=>cases c3|false=>rfl
 subst c1 c2 hdel
 dsimp only at em es c5 c6;subst em es
 exact ⟨bm,ns,nm,qn,bs,hd,sn,sub,ab,col,dd,k0,k1,k2,k3,k5,_,X _ _ lk,.of_isNs (PySem.W.isNs_of_in X c5),PySem.W.nsMap_none_of_in X c5 c6,PySem.W.tail_of_in X c4⟩
def xNo:Rho->Option (PyData×Rho):=fun _=>none
def xSeq (u:Rho->Option Out)(w1 w2:Rho->Option (PyData×Rho))(ρ:Rho):Option (PyData×Rho):=match w1 ρ with
 | some r=>some r
 | none=>match u ρ with
  | some (.nx ρ')=>w2 ρ'
  | _=>none
def xIf (p:Rho->Option Bool)(w1 w2:Rho->Option (PyData×Rho))(ρ:Rho):Option (PyData×Rho):=ob (p ρ) fun b=>if b=true then w1 ρ else w2 ρ
def qa9 (c:Str)(fs:Rho->Option (List PyData))(ρ:Rho):Option (PyData×Rho):=ob (fs ρ) fun ds=>if ds.length<=1000 then some (excD c .none,ρ) else none
def Yt (n:Nat)(fs:Rho->Option (List PyData))(h:List PyData->Option PyData)(ρ:Rho):Option (PyData×Rho):=ob (fs ρ) fun ds=>if ds.length=n then ob (h ds) fun x=>some (x,ρ) else none
def spX (K:PySem.W.Frag)(n:Nat)(f:List PyData->Option PyData):Sp:=fun vs H _ E=>∃ S ds x,Dm S H/\DenL K H S vs ds/\ds.length=n/\f ds=some x/\∀ c C H',x=excD c .none->XCls K c C->Same H H'->E (.ref C) none H'
structure KnownR (P:Program)(w:World)(K:PySem.W.Frag)(mg:Str->Option Value)(base:Heap)(x:Str)(n k:Nat)(h:List PyData->Option PyData):Prop where
 ex:∃ (f:Addr) (fd:FuncData) (ps:List Str),FnOk P w K mg base (CX1 P w) k f fd ps (spX K n h)/\mg x=some (.ref f)/\PySem.W.keepIn K (.ref f)=true/\Binds K fd ps []
section
variable {X:Cx}{G:Gm}{M M1 M' Mb L Mx:List Nat}{fr:Fr}{a c:Expr}{es:List Expr}{fs:Rho->Option (List PyData)}{p:Rho->Option Bool}{pos:Pos}{s1:Stmt}{ss st1 st2:List Stmt}{u:Rho->Option Out}{w w1 w2:Rho->Option (PyData×Rho)}{x:Str}{o:Bool}
theorem wY:PDXs X o G M L Mx ss xNo:=fun _ _ _ _ _ _ _ _ _ _ e=>nomatch e
theorem wX (h:PDX X o G M L Mx s1 w):PDXs X o G M L Mx [s1] w:=fun pins s σ H S ρ ρ' x I os e=>wpAny_execs_cons (thn (h pins s σ H S ρ ρ' x I os e) fun _ _ z=>z.elim)
theorem qaJ (h1:PDS X G M L M1 Mb fr s1 u)(x1:PDX X o G M L Mx s1 w1)(x2:PDXs X o G M1 L Mx ss w2)(hn:∀ e s,X.xe e s->False:=by exact fun _ _ z=>z):PDXs X o G M L Mx (s1::ss) (xSeq u w1 w2):=by
 intro pins s σ H S ρ ρ' x I os e
 unfold xSeq at e
 cases e1:w1 ρ with
 | some r =>
  rw [e1] at e
  cases e
  exact wpAny_execs_cons (thn (x1 pins s σ H S ρ ρ' x I os e1) fun _ _ z=>z.elim)
 | none =>
  rw [e1] at e
  cases e2:u ρ with
  | none=>rw [e2] at e;cases e
  | some o' =>
   rw [e2] at e
   cases o' with
   | nx ρ1 =>
    refine wpAny_execs_cons (wpAny_mono (h1 pins s σ H { nx:=fun σ' H'=>∃ S',OwnS X.K G M1 L H' S' σ' ρ1,rt:=fun _ _=>False } I ⟨S,ρ,_,os,e2,fun σ' H' S' os'=>⟨S',os'⟩⟩) (fun f s1 q=>?_) fun e s z=>(hn e s z).elim)
    cases f with
    | next=>obtain ⟨σ',H',I',S',os'⟩:=q;exact x2 pins s1 σ' H' S' ρ1 ρ' x I' os' e
    | ret v=>obtain ⟨_,_,_,_,_,z⟩:=q;exact z.elim
    | brk=>obtain ⟨_,_,_,z⟩:=q;exact z.elim
    | cont=>obtain ⟨_,_,_,z⟩:=q;exact z.elim
   | rt d=>cases e
   | bk d=>cases e
   | ct d=>cases e
theorem qdf (hc:PDT X [] c p)(x1:PDXs X o G M L Mx st1 w1)(x2:PDXs X o G M L Mx st2 w2)(hn:∀ e s,X.xe e s->False:=by exact fun _ _ z=>z):PDX X o G M L Mx (.If c st1 st2 pos) (xIf p w1 w2):=by
 intro pins s σ H S ρ ρ' x I os e
 obtain ⟨d,e1,e⟩:=ql e
 refine wpAny_If (wpAny_mono (hc pins s σ H (fun b H1=>b=d/\Same H H1) I ⟨G.S0,ρ,d,os.den,e1,fun H1 g1=>⟨rfl,g1⟩⟩) (fun b s1 ⟨H1,I1,hb,g1⟩=>?_) fun e s z=>(hn e s z).elim)
 subst hb
 cases b with
 | true=>rw [if_pos rfl] at e;exact x1 pins s1 σ H1 S ρ ρ' x I1 (os.same g1) e
 | false=>rw [if_neg (by decide)] at e;exact x2 pins s1 σ H1 S ρ ρ' x I1 (os.same g1) e
theorem WM {C:Addr}{k:Nat}{bmB:List Value}{newId initId T:String}{np cpos:Pos}(FB:ExcBaseFacts T newId initId bmB)(hr:Room k X.A)(hg:Gl X x)(hm:X.mg x=some (.ref C))(hc:XCls X.K x C)(hx:PySem.W.excIn X.K C bmB newId=true)(ha:PDA X M (a::es) fs)
  (hdb:(x==("__debug__" : Str))=false:=by decide +kernel) (he:starEach (a::es) X.env=(false,eval a X.env)::starEach es X.env:=by rfl) (hpl:(backTo cpos (starEach es X.env)).any (·.1)=false:=by rfl)
  (hn:∀ e s,X.xe e s->False:=by exact fun _ _ z=>z):PDX X false G M L M (.Raise (some (.Call (.Name x np) (a::es) [] cpos)) none pos) (qa9 x fs):=by
 intro pins s σ H S ρ ρ' d I os e
 obtain ⟨ds,e1,e⟩:=ql e
 have e:(if ds.length<=1000 then some (excD x .none,ρ) else none)=some (d,ρ'):=e
 split at e
 case isFalse=>cases e
 rename_i hl
 cases e
 obtain ⟨bm,N,nm,qn,bs,hd,sn,sub,ab,col,dd,k0,k1,k2,k3,k5,mN,hC,hN,hni,TL⟩:=qbu I.mod.kin hx
 refine wpAny_Raise_call_subT (C:=C) (nm:=nm) (q:=qn) (N:=N) (bs:=bs) (bm:=bm) (hdct:=hd) (sn:=sn) (sub:=sub) (ab:=ab) (col:=col) (dd:=dd) (k0:=k0) (k1:=k1) (k2:=k2) (k3:=k3) (k5:=k5) FB (mN:=mN) (TL.hasType FB.hasBase) hr.hd
  (by rw [he];show (false||(backTo cpos (starEach es X.env)).any (·.1))=false;rw [hpl];rfl) hni (Q9 I hg hm ⟨rfl,?_⟩ hdb)
 have ha':=ha cpos pins s σ H (fun vs H1=>Same H H1/\DenL X.K H1 S vs ds) I ⟨S,ρ,ds,os.ds,e1,fun vs H1 g1 d1=>⟨g1,d1⟩⟩
 rw [he] at ha' ⊢
 refine Calls.evalArgs_plain (wpAny_mono ha' (fun us s2 ⟨vs,H1,I1,r,g1,d1⟩=>⟨rfl,?_,I1.bk _ _ hC,hN.keeps I1.bk,TL.keeps I1.bk,fun h' e hm'=>?_⟩) fun e s z=>(hn e s z).elim)
 ·show us.length<=sizeLine
  rw [← r.length,d1.length]
  exact Nat.le_of_lt (zB hl)
 ·exact ⟨e,x,C,rfl,rfl,hc,.inl ⟨rfl,σ,H1,S,s2,us,I1,os.same g1,hm',rfl⟩⟩
theorem qbt {p:Pos}{n k k':Nat}{h:List PyData->Option PyData}(F:KnownR X.prog X.w X.K X.mg X.base x n k h)(hr:Room k' X.A)(hk:k<=k')(hg:Gl X x)(ha:PDA X M (a::es) fs)
  (hdb:(x==("__debug__" : Str))=false:=by decide +kernel) (he:starEach (a::es) X.env=(false,eval a X.env)::starEach es X.env:=by rfl) (hpl:(backTo pos (starEach es X.env)).any (·.1)=false:=by rfl)
  (hn:∀ e s,X.xe e s->False:=by exact fun _ _ z=>z) {pins:List (Addr×Obj)} {s:Shared} {σ:St} {H:Hp} {S:Av} {ρ ρ':Rho} {d:PyData} (I:Inv X pins σ H s) (os:OwnS X.K G M L H S σ ρ) (e:Yt n fs h ρ=some (d,ρ')) :
  wpAny (model X.prog X.w) X.A (eval (.Call (.Name x p) (a::es) [] pos) X.env) (fun _ _=>False) (XAt X o pins G M L d ρ') s:=by
 obtain ⟨ds,e1,e⟩:=ql e
 have e:(if ds.length=n then ob (h ds) fun x=>some (x,ρ) else none)=some (d,ρ'):=e
 split at e
 case isFalse=>cases e
 rename_i hl
 obtain ⟨y,e2,e⟩:=ql e
 cases e
 obtain ⟨f,fd,ps,F,hm,kp,hb⟩:=F.ex
 refine wpAny_Call_Name_kw (Q9 I hg hm ?_ hdb)
 have ha':=ha pos pins s σ H (fun vs H1=>Same H H1/\DenL X.K H1 S vs ds) I ⟨S,ρ,ds,os.ds,e1,fun vs H1 g1 d1=>⟨g1,d1⟩⟩
 refine PySem.W.callWith_K (h₀:=X.base) I.ok.mod.kin kp (wpAny_mono ha' (fun us s1 ⟨vs,H1,I1,r,g1,d1⟩=>⟨I1.kIn,?_⟩) fun e s z=>(hn e s z).elim) he hpl
 have hsp:spX X.K n h vs H1 (fun _ _=>False) (fun cls _ H'=>∃ cn C,cls=.ref C/\d=excD cn .none/\XCls X.K cn C/\Same H1 H'):=⟨S,ds,d,os.ds.1.same g1,d1,hl,e2,fun cn C H' ed hC g=>⟨cn,C,rfl,ed,hC,g⟩⟩
 have hlen:(us++[]).length=ps.length:=by rw [List.append_nil,← r.length];exact F.len _ _ _ _ hsp
 refine wpAny_call (codeAny_mono (F.run X.A X.stack s1 H1 ⟨us,[]⟩ us vs _ _ (hr.mono hk) I1.env0 (by have:=hb s1 us I1.kIn hlen;rwa [List.append_nil] at this) r hsp) fun r s' hq=>?_)
 cases r with
 | error e =>
  obtain ⟨a,H',cls,t,B,rfl,os',bare,ok,fl,cn,C,rfl,rfl,hC,g⟩:=hq
  exact ⟨a,cn,C,rfl,rfl,hC,.inr ⟨σ,H1,S,s1,H',B,t,I1,os.same g1,g,os',bare,ok,fl⟩⟩
 | ok fl =>
  cases fl with
  | ret u=>obtain ⟨_,_,_,_,_,_,_,z⟩:=hq;exact z.elim
  | next=>exact False.elim hq
  | brk=>exact False.elim hq
  | cont=>exact False.elim hq
theorem qbW {p cpos:Pos}{tg:Expr}{n k k':Nat}{h:List PyData->Option PyData}(F:KnownR X.prog X.w X.K X.mg X.base x n k h)(hr:Room k' X.A)(hk:k<=k')(hg:Gl X x)(ha:PDA X M (a::es) fs)
  (hdb:(x==("__debug__" : Str))=false:=by decide +kernel) (he:starEach (a::es) X.env=(false,eval a X.env)::starEach es X.env:=by rfl) (hpl:(backTo cpos (starEach es X.env)).any (·.1)=false:=by rfl)
  (hn:∀ e s,X.xe e s->False:=by exact fun _ _ z=>z) (hs:swapsWithSole [tg] (.Call (.Name x p) (a::es) [] cpos) pos.line X.env=pure false:=by rfl) (hw:swappedStores [tg] (.Call (.Name x p) (a::es) [] cpos) X.env=pure none:=by rfl) :
  PDX X o G M L M (.Assign [tg] (.Call (.Name x p) (a::es) [] cpos) pos) (Yt n fs h) :=
 fun pins s σ H S ρ ρ' d I os e=>wpAny_Assign_stores (thn (qbt F hr hk hg ha hdb he hpl hn I os e) fun _ _ z=>z.elim) hs hw
end
section
variable {P:Program}{w:World}{K:PySem.W.Frag}{mg:Str->Option Value}{base:Heap}
def xOut (w:Rho->Option (PyData×Rho))(n:Nat)(ds:List PyData):Option PyData:=ob (w (rho0 n ds)) fun r=>some r.1
theorem FunG.raises {x qual:Str}{st:Stmt}{f:Addr}{fd:FuncData}{N ps:List Str}{k n:Nat}{wx:Rho->Option (PyData×Rho)}{Mx:List Nat}(F:FunG K x qual st f fd)(S:FnScope N ps (qj st))(hn:ps.length=n)
  (hbody:∀ (cdv:Value) (A:Around) (outer:List Env) (s:Shared) (H:Hp) (E:XK),Room k (A.deeper (envOfC qual (qj st) s.heap.objs.size f cdv))->∀ G:Gm,
   PDXs (cxOf CX0 P w K mg base N qual (qj st) f cdv A outer s H E).nox false G [] [] Mx (zu st) wx) :
  FnOk P w K mg base (CX1 P w) (k+1) f fd ps (spX K n (xOut wx N.length)):=by
 obtain ⟨oc,dV,od,kV,doc,pm,an,cdv,ct,osl,rfl,lk,hcd⟩:=F.ex
 refine qco lk hcd S (fun vs H Q E h=>?_) fun A outer s H vs Q E hr h=>?_
 ·obtain ⟨_,ds,_,_,h1,h2,_⟩:=h
  rw [h1.length,h2,hn]
 ·obtain ⟨Sv,ds,x,m,h1,h2,e,q⟩:=h
  obtain ⟨⟨d,ρ'⟩,e1,e⟩:=ql e
  cases e
  refine ⟨fun _ σ' H'=>σ'=start N vs/\H'=H,fun pins s1 σ' H' D I h=>?_,rfl,rfl⟩
  obtain ⟨rfl,rfl⟩:=h
  refine wpAny_mono (hbody cdv A outer s H' E hr (G0 H' Sv) pins s1 _ H' Sv _ ρ' _ (I.wish _) (OwnS.start m h1 N) e1) (fun _ _ z=>z.elim) fun ev s' hx=>?_
  obtain ⟨a,c',C',rfl,hd,hC',hx⟩:=hx
  show wpAny _ _ (leaving _ _) _ _ _
  rcases hx with ⟨_,σ2,H2,S2,s2,args,I2,os2,hm,hs⟩|⟨σ2,H2,S2,s2,H3,B,t,I2,os2,g,os',bare,ok,fl⟩
  ·have I3:Inv (cxOf (CX1 P w) P w K mg base N qual (qj st) f cdv A outer s H' E) pins σ2 H2 s2:=I2.unwish.wish _
   rw [hs]
   refine YL I3 hm rfl rfl rfl fun h' t ok fl=>?_
   exact ⟨a,H2,.ref C',t,_,rfl,I3.os,I3.bare,ok,fl,q c' C' H2 hd hC' os2.h0⟩
  ·have I3:Inv (cxOf (CX1 P w) P w K mg base N qual (qj st) f cdv A outer s H' E) pins σ2 H2 s2:=I2.unwish.wish _
   refine YK I3 ok fl rfl rfl rfl fun h' ok' fl'=>?_
   exact ⟨a,H3,.ref C',t,B,rfl,os'.trans I3.os,bare,ok',fl',q c' C' H3 hd hC' (os2.h0.trans g)⟩
theorem Fun.raises {x qual:Str}{st:Stmt}{f:Addr}{fd:FuncData}{N ps:List Str}{k n:Nat}{wx:Rho->Option (PyData×Rho)}{Mx:List Nat}(F:Fun K x qual st f fd)(S:FnScope N ps (qj st))(hn:ps.length=n)
  (hbody:∀ (cdv:Value) (A:Around) (outer:List Env) (s:Shared) (H:Hp) (E:XK),Room k (A.deeper (envOfC qual (qj st) s.heap.objs.size f cdv))->∀ G:Gm,
   PDXs (cxOf CX0 P w K mg base N qual (qj st) f cdv A outer s H E).nox false G [] [] Mx (zu st) wx) :
  FnOk P w K mg base (CX1 P w) (k+1) f fd ps (spX K n (xOut wx N.length)):=F.g.raises S hn hbody
end
abbrev Cx.mk1 (X:Cx)(e:Value):Cx:={ X with A:=X.A.mark (some e),calm:=false }
def caught (cs:List Str):PyData->Bool
 | .dict ((.str c,_)::_)=>cs.contains c
 | _=>false
def wO (i:Nat):Out->Out
 | .nx ρ=>.nx (ρ.set i none)
 | .rt d=>.rt d
 | .bk ρ=>.bk (ρ.set i none)
 | .ct ρ=>.ct (ρ.set i none)
def sTry (u:Rho->Option Out)(w:Rho->Option (PyData×Rho))(cs:List Str)(i:Nat)(uh:Rho->Option Out)(ρ:Rho):Option Out:=match w ρ with
 | some (x,ρ')=>if caught cs x=true then ob (uh (ρ'.set i (some x))) fun o=>some (wO i o) else none
 | none=>u ρ
section
variable {X:Cx}{pins:List (Addr×Obj)}{σ:St}{H H':Hp}{s s':Shared}{G:Gm}{S:Av}{M L:List Nat}{ρ:Rho}
theorem Inv.mk1 (I:Inv X pins σ H s)(e:Value):Inv (X.mk1 e) pins σ H s :=
 ⟨⟨I.ok.mod,I.ok.kind,I.ok.glob,I.ok.blt,I.ok.above,I.ok.inj,I.ok.has,I.ok.cab,(fun z=>nomatch z),I.ok.frames,I.ok.stk,I.ok.exf,I.ok.bs,I.ok.bsz,I.ok.noex,I.ok.exfs,I.ok.funs,I.ok.frf⟩,I.os,I.bare,I.base,I.loc,I.cell,I.free,I.freeC,I.pin,I.hok,I.len⟩
theorem Inv.unmk1 {e:Value}(ok:X.Ok)(I:Inv (X.mk1 e) pins σ H s):Inv X pins σ H s:=⟨ok,I.os,I.bare,I.base,I.loc,I.cell,I.free,I.freeC,I.pin,I.hok,I.len⟩
theorem OwnS.del {i:Nat}(h:OwnS X.K G M L H S σ ρ)(hM:Out0 M i):OwnS X.K G M L H S (σ.set i none) (ρ.set i none):=by
 have back:∀ {j:Nat} {d:PyData},(ρ.set i none)[j]?=some (some d)->j≠i/\ρ[j]?=some (some d):=fun {j d} e=>by
  by_cases hj:i=j
  ·subst hj
   rw [List.getElem?_set] at e
   split at e
   ·split at e<;>cases e
   ·exact absurd rfl ‹_›
  ·rw [List.getElem?_set_ne hj] at e
   exact ⟨Ne.symm hj,e⟩
 have fwd:∀ {j:Nat},j≠i->(σ.set i none)[j]?=σ[j]?:=fun {j} hj=>List.getElem?_set_ne (Ne.symm hj)
 have keep:∀ {j:Nat},j∈M->j≠i:=fun {j} hj z=>hM.1 (z ▸ hj)
 have has:∀ {j:Nat},Has (ρ.set i none) j->Has ρ j:=fun {j} ⟨d,e⟩=>⟨d,(back e).2⟩
 obtain ⟨ds,s0,h0,own,apart,bnd,lkd,F,⟨d1,d2,d3⟩⟩:=h
 refine ⟨⟨ds.1,by rw [List.length_set,List.length_set];exact ds.2.1,fun j d n e=>?_⟩,s0,h0,fun j hj d e=>?_,fun j hj k hk d e p e1 e2 e3 e4=>?_,bnd,fun j hj=>?_,F,fun j hj d e=>?_,fun j hj k hk a1 a2=>d2 j hj k hk (has a1) (has a2),fun j hj k hk a1 a2 p e=>?_⟩
 ·obtain ⟨nj,e⟩:=back e
  rw [fwd nj]
  exact ds.2.2 j d n e
 ·obtain ⟨nj,e⟩:=back e
  rw [fwd nj]
  exact own j hj d e
 ·obtain ⟨n1,e1⟩:=back e1
  obtain ⟨n2,e2⟩:=back e2
  rw [fwd n1] at e3
  rw [fwd n2] at e4
  exact apart j hj k hk d e p e1 e2 e3 e4
 ·obtain ⟨a1,a2⟩:=lkd j hj
  exact ⟨a1,by rw [List.getElem?_set_ne (Ne.symm (keep a1.1))];exact a2⟩
 ·obtain ⟨nj,e⟩:=back e
  rw [fwd nj]
  exact d1 j hj d e
 ·rw [fwd (keep hj.1)] at e
  exact d3 j hj k hk (has a1) (has a2) p e
theorem Inv.gone {i:Nat}{x:Str}{m:Str->Option Value}{h':Heap}{v:Option Value}{t':Nat}(I:Inv X pins σ H s)(hN:X.N.Nodup)(hi:X.N[i]?=some x)(hn:s.heap.Ns X.env.locals m)
  (hl:∀ (j:Nat) (y:Str) (w:V),X.N[j]?=some y->σ[j]?=some (some w)->Vis X.env.scope y->∃ u,RelV w u/\Look X.env s.heap m y u) (hn':h'.Ns X.env.locals (fun y=>if y=x then v else m y)) (hs:Heap.SameBut X.env.locals s.heap h') :
  Inv X pins (σ.set i none) H { s with heap:=h',toks:=t' }:=by
 have cne:=I.cne
 obtain ⟨oL,_,_,hoL,_⟩:=id hn
 have nl:∀ {b:Addr} {o:Obj},X.s₀.heap.get? b=some o->b≠X.env.locals:=fun {b o} e=>Nat.ne_of_lt (Nat.lt_of_lt_of_le (Heap.lt_size e) I.ok.above)
 refine ⟨I.ok,I.os,I.bare,⟨fun b o e n hb hx=>(hs.2 b (nl e)).trans (I.base.keep b o e n hb hx),fun b o e n hb hx=>?_,I.base.free,fun b o e hx=>?_,I.base.tups,I.base.frzs,I.base.tbls⟩,⟨_,hn',fun j y v' e1 e2 e3=>?_⟩,fun y c e=>?_,I.free,I.freeC,fun p hp=>?_,fun b ob e=>?_,by rw [List.length_set];exact I.len⟩
 ·obtain ⟨sl,e1⟩:=I.base.slot b o e n hb hx
  exact ⟨sl,(hs.2 b (nl e)).trans e1⟩
 ·obtain ⟨o',e1⟩:=I.base.there b o e hx
  exact ⟨o',(hs.2 b (nl e)).trans e1⟩
 ·by_cases hj:i=j
  ·subst hj
   rw [List.getElem?_set] at e2
   split at e2
   ·split at e2<;>cases e2
   ·exact absurd rfl ‹_›
  ·rw [List.getElem?_set_ne hj] at e2
   obtain ⟨u',r',q⟩:=hl j y v' e1 e2 e3
   refine ⟨u',r',?_⟩
   rcases q with ⟨k,e⟩|⟨k,c,e,z⟩
   ·have ne:y≠x:=fun z=>hj (Jy hN (z ▸ hi) e1)
    exact .inl ⟨k,by show (if y=x then v else m y)=some u';rw [if_neg ne];exact e⟩
   ·exact .inr ⟨k,c,e,z.sameBut hs (cne y c e)⟩
 ·obtain ⟨w',z⟩:=I.cell y c e
  exact ⟨w',z.sameBut hs (cne y c e)⟩
 ·obtain ⟨e,n,ne,nf,d⟩:=I.pin p hp
  exact ⟨(hs.2 p.1 ne).trans e,n,ne,nf,d⟩
 ·refine (I.hok b ob e).stay (fun c w' hc q=>(hs.2 c ?_).trans q) (fun _ q=>q) fun _ _ q=>q
  rintro rfl
  rcases hc with rfl|hc
  ·rw [I.free] at e;cases e
  ·rw [I.free] at hc;cases hc
theorem Inv.trackX {a:Addr}{o:Obj}(I:Inv X pins σ H s)(ha:s.heap.get? a=some o)(hH:H a=none)(h0:X.s₀.heap.get? a=none)(hL:a≠X.env.locals)(hc:∀ x c,X.env.cells.lookup x=some c->c≠a)(hp:∀ p∈X.pn++pins,p.1≠a) :
  Inv X pins σ (upd H a (.frz o (.own a))) s:=by
 refine ⟨I.ok,I.os,I.bare,⟨I.base.keep,I.base.slot,fun b ob e n hx=>?_,I.base.there,fun b xs e=>?_,fun b ob u e=>?_,fun b ps e=>?_⟩,I.loc,I.cell,?_,fun x c e=>?_,fun p q=>?_,fun b u e=>?_,I.len⟩
 ·rw [qJ (fun z=>by rw [z,h0] at e;cases e)]
  exact I.base.free b ob e n hx
 ·have:=I.base.tups b xs e
  rw [qJ (qQ this hH)];exact this
 ·have:=I.base.frzs b ob u e
  rw [qJ (qQ this hH)];exact this
 ·obtain ⟨more,this⟩:=I.base.tbls b ps e
  exact ⟨more,by rw [qJ (qQ this hH)];exact this⟩
 ·rw [qJ (Ne.symm hL)];exact I.free
 ·rw [qJ (hc x c e)];exact I.freeC x c e
 ·obtain ⟨e,n,r⟩:=I.pin p q
  exact ⟨e,by rw [qJ (hp p q)];exact n,r⟩
 ·by_cases hb:b=a
  ·subst hb
   rw [qN] at e
   cases e
   exact ⟨ha,_,ha⟩
  ·rw [qJ hb] at e
   exact (I.hok b u e).stay (fun c v _ q=>q) (fun c q=>by rw [qJ (qQ q hH)];exact q) fun c xs q=>by rw [qJ (qQ q hH)];exact q
end
def catB (K:PySem.W.Frag)(Cc:Addr):Bool:=(PySem.W.typeIn K (.ref Cc)==some (.type "type"))&&(PySem.W.clsIn K Cc).isSome&&(PySem.W.mroIn K Cc (.type "BaseException")==some true)
theorem yV {prog:Program}{w:World}{A:Around}{E:Value->Shared->Prop}{K:PySem.W.Frag}{s:Shared}{a C Cc:Addr}{oe:Obj}{Q:Bool->Shared->Prop}(X:K.In s.heap)(hc:catB K Cc=true)(he:s.heap.get? a=some oe)(hcl:oe.cls=.ref C)(hm:PySem.W.mroIn K C (.ref Cc)=some true)(hq:Q true s) :
  wpAny (model prog w) A (excMatches (.ref a) (.ref Cc)) Q E s:=by
 obtain ⟨h,g,d,t,os⟩:=s
 unfold catB at hc
 simp only [Bool.and_eq_true,beq_iff_eq] at hc
 obtain ⟨⟨h1,h2⟩,h3⟩:=hc
 have L1:=PySem.W.looks_typeIn (M:=model prog w) X h1
 have L3:=PySem.W.looks_mroIn (M:=model prog w) X h3
 have L4:=PySem.W.looks_mroIn (M:=model prog w) X hm
 have L5:PySem.W.Looks (model prog w) h (typeOf (.ref a)) (.ref C):=hcl ▸ (PySem.W.Looks.ld he).andThen .now
 have f:=tc_notTuple
 have L6:PySem.W.Looks (model prog w) h (isType (.ref Cc)) true:=by
  unfold PySem.W.clsIn at h2
  split at h2
  ·rename_i c' d' cd' sl' ho
   intro A' Q' E' s' k q
   unfold isType loadHead
   exact wpAny_bind (wpAny_loadPart (k _ _ (X _ _ ho)) (wpAny_pure q))
  ·cases h2
 unfold excMatches isExcClass
 unfold isInstance
 repeat (first|with_reducible refine PySem.W.Looks.at (by assumption) ?_|wp_step)
 exact hq
section
variable {X:Cx}{G:Gm}{M M' Mb L Mx:List Nat}{fr:Fr}{u uh:Rho->Option Out}{w:Rho->Option (PyData×Rho)}
theorem OwnS.setX {K:PySem.W.Frag}{H:Hp}{S:Av}{σ:St}{ρ:Rho}{i:Nat}{v:V}{d:PyData}(h:OwnS K G M L H S σ ρ)(q:Den K H S v d)(hM:Out0 M i):OwnS K G M L H S (σ.set i (some v)) (ρ.set i (some d)):=h.set q hM.1
theorem qbV {cn n:Str}{i:Nat}{Cc:Addr}{cs:List Str}{b0:Stmt}{body suite:List Stmt}{hpos np pos:Pos}(hb:PDSs X G M L M' Mb fr body u)(hx:PDXs X true G M L Mx body w)(hs:∀ e,PDSs (X.mk1 e) G Mx L M' Mb fr (b0::suite) uh)
  (hN:X.N.Nodup) (hloc:X.env.scope.names.lookup n=some .local) (hM:Out0 Mx i) (hM':Out0 M' i) (hMb:Out0 Mb i) (hg:Gl X cn) (hm:X.mg cn=some (.ref Cc)) (hcat:catB X.K Cc=true) (hcs:∀ c∈cs,∀ C,XCls X.K c C->PySem.W.mroIn X.K C (.ref Cc)=some true)
  (hst:X.stack=X.env::X.outer) (hfr:X.env.frame=some X.env.locals) (hex:X.ex=[]) (hi:X.N[i]?=some n:=by rfl) (hn:∀ e s,X.xe e s->False:=by exact fun _ _ z=>z) (hdb:(cn==("__debug__" : Str))=false:=by decide +kernel) :
  PDS X G M L M' Mb fr (.Try body [.ExceptHandler (some (.Name cn np)) (some n) (b0::suite) hpos] [] [] pos) (sTry u w cs i uh):=by
 intro pins s σ H D I ⟨S,ρ,out,os,e,q⟩
 unfold sTry at e
 cases ew:w ρ with
 | none =>
  rw [ew] at e
  refine wpAny_Try_except (wpAny_mono (hb pins s σ H D I ⟨S,ρ,out,os,e,q⟩) (fun f s1 hf=>?_) fun e s z=>(hn e s z).elim)
  cases f with
  | next=>exact wpAny_execs_nil hf
  | ret v=>exact hf
  | brk=>exact hf
  | cont=>exact hf
 | some r =>
  obtain ⟨x,ρ'⟩:=r
  rw [ew] at e
  have e:(if caught cs x=true then ob (uh (ρ'.set i (some x))) fun o=>some (wO i o) else none)=some out:=e
  split at e
  case isFalse=>cases e
  rename_i hc
  obtain ⟨o2,e2,e⟩:=ql e
  cases e
  refine wpAny_Try_except (wpAny_mono (hx pins s σ H S ρ ρ' x I os ew) (fun _ _ z=>z.elim) fun ev s1 hx1=>?_)
  obtain ⟨a,c,C,rfl,rfl,hC,hx1⟩:=hx1
  obtain ⟨σ1,H1,S1,s0,H2,B,t,I1,os1,g12,hos,bare,ok,fl⟩:qcl X pins G Mx L ρ' a C s1:=by
   rcases hx1 with ⟨z,_⟩|z
   ·cases z
   ·exact z
  have hcm:c∈cs:=List.contains_iff_mem.mp hc
  have frm:X.A.frames=some (X.env::X.outer):=by rw [I1.ok.frames,hst]
  have fl0:Heap.FlyingW B (X.env::X.outer) a (.ref C) (.ref t) s1.heap:=by have:=fl.fl;rw [hst] at this;exact this
  refine wpAny_looks_onW frm hfr fl0 fun h4 held4 up4=>?_
  refine wpAny_landsW held4 fun h5 fl5 up5=>?_
  have fl5':Heap.FlyingW B X.stack a (.ref C) (.ref t) h5:=by rw [hst];exact fl5
  have fly5:=fl.step ok fl5' (up4.trans up5)
  have ok5:=fl.hok ok fl5
  have I5:Inv X pins σ1 H2 { s1 with heap:=h5 }:=I1.call' (s':={ s1 with heap:=h5 }) (ch:=[]) hos fly5.un ok5 bare (fun b z=>by cases z)
  obtain ⟨oc,hoc,hocc⟩:=fl5.there
  refine wpAny_handleBy_cons (codeAny_handlers_test (Q9 (X:=X.mk1 (.ref a)) (I5.mk1 (.ref a)) hg hm ?_ hdb)) (by intro z;cases z)
  refine yV (s:={ s1 with heap:=h5 }) I5.kIn hcat hoc hocc (hcs c hcm C hC) ?_
  refine codeAny_handlers_suite_as ?_
  refine lands_againW (s:={ s1 with heap:=h5 }) fl5 fun h6 fl6 up6=>?_
  have fl6':Heap.FlyingW B X.stack a (.ref C) (.ref t) h6:=by rw [hst];exact fl6
  have fly6:=fly5.step ok5 fl6' up6
  have ok6:=fly5.hok ok5 fl6
  have I6:Inv X pins σ1 H2 { s1 with heap:=h6 }:=I1.call' (s':={ s1 with heap:=h6 }) (ch:=[]) hos fly6.un ok6 bare (fun b z=>by cases z)
  obtain ⟨oe,ws,hoe,hoec,hoed,_⟩:=fl6.first
  have hBa:B.get? a=none:=fl6.2.1
  have hH2:H2 a=none:=by
   cases z:H2 a with
   | none=>rfl
   | some v=>have:=fly6.trk a v z oe hoe;rw [hBa] at this;cases this
  have hnew:s0.heap.get? a=none:=by
   cases z:s0.heap.get? a with
   | none=>rfl
   | some o =>
    by_cases hf:a∈frs X.stack
    ·obtain ⟨_,o',e',nf⟩:=fl6'.2.2.1.mem hf
     rw [hoe] at e'
     cases e'
     exact absurd hoed (nf _)
    ·obtain ⟨o',e'⟩:=fl.dom a o z hf
     rw [hBa] at e'
     cases e'
  have h0:X.s₀.heap.get? a=none:=by
   cases z:X.s₀.heap.get? a with
   | none=>rfl
   | some o =>
    obtain ⟨o',e'⟩:=I1.base.there a o z (by rw [hex];simp)
    rw [hnew] at e'
    cases e'
  have hL:a≠X.env.locals:=fun z=>by
   obtain ⟨m,⟨o,_,_,ho,_⟩,_⟩:=I1.loc
   rw [← z,hnew] at ho
   cases ho
  have hcl:∀ y c,X.env.cells.lookup y=some c->c≠a:=fun y c ec z=>by
   obtain ⟨v,o,ho,_⟩:=I1.cell y c ec
   rw [z,hnew] at ho
   cases ho
  have hpn:∀ p∈X.pn++pins,p.1≠a:=fun p hp z=>by
   have:=(I1.pin p hp).1
   rw [z,hnew] at this
   cases this
  have I7:=I6.trackX hoe hH2 h0 hL hcl hpn
  have g17:Same H1 (upd H2 a (.frz oe (.own a))):=g12.lay' hH2
  have os7:=os1.same g17
  have den:Den X.K (upd H2 a (.frz oe (.own a))) S1 (.ref a) (excD c .none):=.exc0 qN ⟨C,ws,hoec,hoed,hC.1,hC.2⟩
  refine JH (X:=X.mk1 (.ref a)) (v:=.ref a) (I7.mk1 (.ref a)) hN hi (.inl hloc) rfl (fun s8 I8=>?_) (.inr hloc)
  have fin2:∀ (f:Flow) (σ9:St) (H9:Hp) (s9:Shared),Inv X pins σ9 H9 s9->(∀ s10,Inv X pins (σ9.set i none) H9 s10->SP X pins D f s10)->
    wpAny (model X.prog X.w) X.A (do bindName X.env n .none;unbindBehindTheSuite X.env n hpos) (fun _ s10=>SP X pins D f s10) X.xe s9:=fun f σ9 H9 s9 I9 k=>by
   obtain ⟨m,hn9,hl9⟩:=I9.loc
   exact wpAny_nameGoes_keeps hloc hn9 (by rw [I9.ok.kind];rfl) fun h' v hn' hsb=>k _ (I9.gone hN hi hn9 hl9 hn' hsb)
  let D2:Ends:=⟨fun σ9 H9=>∀ s10,Inv X pins (σ9.set i none) H9 s10->SP X pins D .next s10,D.rt,fun σ9 H9=>∀ s10,Inv X pins (σ9.set i none) H9 s10->SP X pins D .brk s10,fun σ9 H9=>∀ s10,Inv X pins (σ9.set i none) H9 s10->SP X pins D .cont s10⟩
  have q2:OutQ X.K G M' Mb L fr D2 o2:=by
   cases o2 with
   | nx ρ9=>exact fun σ9 H9 S9 os9 s10 I10=>⟨_,H9,I10,q _ H9 S9 (OwnS.del (X:=X) os9 hM')⟩
   | rt d=>exact q
   | bk ρ9=>exact fun σ9 H9 S9 os9 s10 I10=>⟨_,H9,I10,q _ H9 S9 (OwnS.del (X:=X) os9 hMb)⟩
   | ct ρ9=>exact fun σ9 H9 S9 os9 s10 I10=>⟨_,H9,I10,q _ H9 S9 (OwnS.del (X:=X) os9 hMb)⟩
  refine wpAny_mono (hs (.ref a) pins s8 _ _ D2 I8 ⟨S1,_,o2,os7.setX den hM,e2,q2⟩) (fun f s9 hf=>?_) fun e s z=>(hn e s z).elim
  cases f with
  | next =>
   obtain ⟨σ9,H9,I9,k⟩:=hf
   exact fin2 .next σ9 H9 s9 (I9.unmk1 I1.ok) k
  | brk =>
   obtain ⟨σ9,H9,I9,k⟩:=hf
   exact fin2 .brk σ9 H9 s9 (I9.unmk1 I1.ok) k
  | cont =>
   obtain ⟨σ9,H9,I9,k⟩:=hf
   exact fin2 .cont σ9 H9 s9 (I9.unmk1 I1.ok) k
  | ret v =>
   obtain ⟨y,σ9,H9,I9,r,k⟩:=hf
   exact fin2 (.ret v) σ9 H9 s9 (I9.unmk1 I1.ok) fun s10 I10=>⟨y,_,H9,I10,r,k⟩
end
def bTs:List String:=["ValueError"]
def xtB (K:PySem.W.Frag)(XS:List (Str×List Str)):Bool:=XS.all fun c=>match PySem.W.nsIn K mainGlobals c.1 with
 | some (some (.ref C))=>xcB K C&&catB K C&&(XS.all fun d=>match PySem.W.nsIn K mainGlobals d.1 with
   | some (some (.ref D))=>(PySem.W.kitOne K (.ref C) (.ref D)==some (c.2.contains d.1))&&(PySem.W.mroIn K C (.ref D)==some (c.2.contains d.1))
   | _=>false)&&bTs.all fun T=>PySem.W.kitOne K (.ref C) (.type T)==some (c.2.contains (Str.ofString T))
 | _=>false
def adr (mg:Str->Option Value)(c:Str):Addr:=match mg c with
 | some (.ref C)=>C
 | _=>0
structure XTab (K:PySem.W.Frag)(mg:Str->Option Value)(XS:List (Str×List Str)):Prop where
 nm:∀ c∈XS,mg c.1=some (.ref (adr mg c.1))
 ns:∀ c∈XS,PySem.W.nsIn K mainGlobals c.1=some (some (.ref (adr mg c.1)))
 xc:∀ c∈XS,xcB K (adr mg c.1)=true
 cat:∀ c∈XS,catB K (adr mg c.1)=true
 kit:∀ c∈XS,∀ d∈XS,PySem.W.kitOne K (.ref (adr mg c.1)) (.ref (adr mg d.1))=some (c.2.contains d.1)
 mro:∀ c∈XS,∀ d∈XS,PySem.W.mroIn K (adr mg c.1) (.ref (adr mg d.1))=some (c.2.contains d.1)
 blt:∀ c∈XS,∀ T∈bTs,PySem.W.kitOne K (.ref (adr mg c.1)) (.type T)=some (c.2.contains (Str.ofString T))
theorem qcj {K:PySem.W.Frag}{h:Heap}{mg:Str->Option Value}{XS:List (Str×List Str)}(X:K.In h)(G:h.Ns mainGlobals mg)(e:xtB K XS=true):XTab K mg XS:=by
 have at1:∀ c∈XS,∃ C,PySem.W.nsIn K mainGlobals c.1=some (some (.ref C))/\adr mg c.1=C/\mg c.1=some (.ref C)/\xcB K C=true/\catB K C=true/\(∀ d∈XS,∃ D,PySem.W.nsIn K mainGlobals d.1=some (some (.ref D))/\PySem.W.kitOne K (.ref C) (.ref D)=some (c.2.contains d.1)/\PySem.W.mroIn K C (.ref D)=some (c.2.contains d.1))/\∀ T∈bTs,PySem.W.kitOne K (.ref C) (.type T)=some (c.2.contains (Str.ofString T)):=fun c hc=>by
  have:=List.all_eq_true.mp e c hc
  split at this
  ·rename_i C hC
   simp only [Bool.and_eq_true] at this
   obtain ⟨⟨⟨h1,h2⟩,h3⟩,h4⟩:=this
   have hm:=PySem.W.mg_of X G hC
   refine ⟨C,hC,by unfold adr;rw [hm],hm,h1,h2,fun d hd=>?_,fun T hT=>beq_iff_eq.mp (List.all_eq_true.mp h4 T hT)⟩
   have:=List.all_eq_true.mp h3 d hd
   split at this
   ·rename_i D hD
    rw [Bool.and_eq_true] at this
    exact ⟨D,hD,beq_iff_eq.mp this.1,beq_iff_eq.mp this.2⟩
   ·cases this
  ·cases this
 refine ⟨fun c hc=>?_,fun c hc=>?_,fun c hc=>?_,fun c hc=>?_,fun c hc d hd=>?_,fun c hc d hd=>?_,fun c hc T hT=>?_⟩<;>obtain ⟨C,h1,h2,h3,h4,h5,h6,h7⟩:=at1 c hc
 ·rw [h2];exact h3
 ·rw [h2];exact h1
 ·rw [h2];exact h4
 ·rw [h2];exact h5
 ·obtain ⟨D,g1,g2,_⟩:=at1 d hd
  obtain ⟨D',k1,k2,k3⟩:=h6 d hd
  rw [h2,g2]
  rw [g1] at k1
  cases k1
  exact k2
 ·obtain ⟨D,g1,g2,_⟩:=at1 d hd
  obtain ⟨D',k1,k2,k3⟩:=h6 d hd
  rw [h2,g2]
  rw [g1] at k1
  cases k1
  exact k3
 ·rw [h2];exact h7 T hT
def isiN (XS:List (Str×List Str))(ns:List Str):PyData->Option PyData
 | .dict ((.str c,_)::(.int 0,.none)::[])=>ob (XS.find? fun p=>p.1==c) fun p=>some (.bool (ns.any fun n=>p.2.contains n))
 | _=>none
theorem Wq {XS:List (Str×List Str)}{ns:List Str}{d r:PyData}(e:isiN XS ns d=some r):∃ c x p,d=excD c x/\p∈XS/\p.1=c/\r=.bool (ns.any fun n=>p.2.contains n):=by
 unfold isiN at e
 split at e
 ·obtain ⟨p,h1,e⟩:=ql e
  cases e
  exact ⟨_,_,p,rfl,List.mem_of_find?_eq_some h1,beq_iff_eq.mp (List.find?_some (p:=fun p:Str×List Str=>p.1==_) h1),rfl⟩
 ·cases e
def CNm (X:Cx)(XS:List (Str×List Str))(n:Str)(v:V):Prop:=((∃ p∈XS,p.1=n)/\v=.ref (adr X.mg n))\/∃ T∈bTs,n=Str.ofString T/\v=.ty T
def ClsV (X:Cx)(XS:List (Str×List Str))(ns:List Str)(v:V)(H:Hp):Prop:=(∃ n,ns=[n]/\CNm X XS n v)\/∃ p vs,v=.ref p/\SqT X.K H p vs/\Paired (CNm X XS) ns vs
def PCl (X:Cx)(XS:List (Str×List Str))(ns:List Str)(b:Expr):Prop:=PE X b (fun _ H Q=>∀ v H',Same H H'->ClsV X XS ns v H'->Q v H')
def PCls (X:Cx)(XS:List (Str×List Str))(ns:List Str)(es:List Expr):Prop:=PA X es (fun _ H Q=>∀ vs,Paired (CNm X XS) ns vs->Q vs H)
def rIsiN (X:Cx)(XS:List (Str×List Str)):List V->Hp->VK->Prop:=fun vs H Q=>∃ a c p ns v,vs=[.ref a,v]/\ExcH X.K H a c/\p∈XS/\p.1=c/\ClsV X XS ns v H/\Q (.bl (ns.any fun n=>p.2.contains n)) H
section
variable {X:Cx}{XS:List (Str×List Str)}{ns:List Str}{n:Str}{M:List Nat}{a b:Expr}{es:List Expr}{fa:Rho->Option PyData}{pos p1:Pos}
theorem J8 {K:PySem.W.Frag}{t:Value}{f:Str->Bool}:∀ {ns:List Str} {us:List Value},Paired (fun n u=>PySem.W.kitOne K t u=some (f n)) ns us->PySem.W.kitAny K t us=some (ns.any f)
 | _,_,.nil=>rfl
 | n::ns,u::us,.cons h r=>by
  rw [PySem.W.kitAny,h,List.any_cons]
  cases hf:f n with
  | true=>rfl
  | false=>exact J8 r
theorem qaq (T:XTab X.K X.mg XS){p:Str×List Str}(hp:p∈XS){v:V}{u:Value}(h:CNm X XS n v)(r:RelV v u):PySem.W.kitOne X.K (.ref (adr X.mg p.1)) u=some (p.2.contains n):=by
 rcases h with ⟨⟨d,hd,rfl⟩,rfl⟩|⟨t,ht,rfl,rfl⟩
 ·cases (show u=Value.ref _ from r)
  exact T.kit p hp d hd
 ·cases (show u=Value.type _ from r)
  exact T.blt p hp t ht
theorem wI (T:XTab X.K X.mg XS){p:Str×List Str}(hp:p∈XS):∀ {ns:List Str} {vs:List V} {us:List Value},Paired (CNm X XS) ns vs->Vals vs us->Paired (fun n u=>PySem.W.kitOne X.K (.ref (adr X.mg p.1)) u=some (p.2.contains n)) ns us
 | _,_,_,.nil,.nil=>.nil
 | _,_,_,.cons h t,.cons r q=>.cons (qaq T hp h r) (wI T hp t q)
theorem Wh (T:XTab X.K X.mg XS):QD X (.builtin "isinstance") (rIsiN X XS):=by
 intro pins s σ H xs us Q I r h
 obtain ⟨a,c,p,ns,v,rfl,hx,hp,hc,hv,q⟩:=h
 obtain ⟨u,u',rfl,ru,rv⟩:=r.two
 cases (show u=Value.ref a from ru)
 obtain ⟨C,h3,h4,IA⟩:=I.excAt hx
 rw [← hc,T.ns p hp] at h3
 cases h3
 have fin:∀ tk,EP X pins σ Q (.bool (ns.any fun n=>p.2.contains n)) { s with toks:=tk }:=fun tk=>⟨.bl _,H,I.tok tk,rfl,q⟩
 rcases hv with ⟨n,rfl,hn⟩|⟨t,vs,rfl,ht,hvs⟩
 ·refine PySem.W.kia_one (Jx (yL h4)) I.kIn IA ?_ (fun z=>nomatch z) fin
  rw [qaq T hp hn rv,List.any_cons,List.any_nil,Bool.or_false]
 ·cases (show u'=Value.ref t from rv)
  obtain ⟨its,r',⟨o,e1,e2,n',e3⟩,_⟩:=I.tuple ht
  obtain ⟨oc,od,oa,os⟩:=o
  dsimp only at e2 e3
  subst e2 e3
  exact PySem.W.kia_tup (Jx (yL h4)) I.kIn IA e1 (J8 (wI T hp hvs r')) (fun z=>nomatch z) fin
theorem qbR (T:XTab X.K X.mg XS)(hg:Gl X n)(hn:(XS.any fun p=>p.1==n)=true:=by decide +kernel)(hd:(n==("__debug__" : Str))=false:=by decide +kernel):PCl X XS [n] (.Name n pos):=by
 obtain ⟨p,hp,e⟩:=List.any_eq_true.mp hn
 have e:=beq_iff_eq.mp e
 subst e
 exact (Ja (v:=.ref (adr X.mg p.1)) hg (T.nm p hp) rfl hd).weak fun σ H Q h=>h _ H (Same.refl H) (.inl ⟨_,rfl,.inl ⟨⟨p,hp,rfl⟩,rfl⟩⟩)
theorem qbQ {T:String}(hT:T∈bTs)(hg:Gl X (Str.ofString T))(hm:X.mg (Str.ofString T)=none)(hv:bootBuiltins (Str.ofString T)=some (.type T))(hn:Str.ofString T ≠ "__name__" := by decide +kernel)(hd:(Str.ofString T==("__debug__" : Str))=false:=by decide +kernel):PCl X XS [Str.ofString T] (.Name (Str.ofString T) pos) :=
 (wZ (v:=.ty T) hg hm hv rfl hn hd).weak fun σ H Q h=>h _ H (Same.refl H) (.inl ⟨_,rfl,.inr ⟨T,hT,rfl,rfl⟩⟩)
theorem Ym:PCls X XS [] []:=Jz.weak fun σ H Q h=>h [] .nil
theorem zA (T:XTab X.K X.mg XS)(hg:Gl X n)(h:PCls X XS ns es)(hn:(XS.any fun p=>p.1==n)=true:=by decide +kernel)(hd:(n==("__debug__" : Str))=false:=by decide +kernel)(hs:starEach (.Name n pos::es) X.env=(false,eval (.Name n pos) X.env)::starEach es X.env:=by rfl):PCls X XS (n::ns) (.Name n pos::es):=by
 obtain ⟨p,hp,e⟩:=List.any_eq_true.mp hn
 have e:=beq_iff_eq.mp e
 subst e
 exact (QZ (Ja (v:=.ref (adr X.mg p.1)) hg (T.nm p hp) rfl hd) h hs).weak fun σ H Q h vs hv=>h _ (.cons (.inl ⟨⟨p,hp,rfl⟩,rfl⟩) hv)
theorem wQ {k}(h:PCls X XS ns es)(hl:ns.length<=1000:=by decide):PCl X XS ns (.Tuple es k pos) :=
 (qaN h).weak fun σ H Q q vs hv=>⟨Nat.le_of_lt (zB (by rw [← Paired.length hv];exact hl)),fun p hp=>q _ _ (Same.lay hp) (.inr ⟨p,vs,rfl,SqT.of qN,hv⟩)⟩
theorem j9 (T:XTab X.K X.mg XS)(hg:Gl X "isinstance")(hm:X.mg "isinstance" = none)(hv:bootBuiltins "isinstance" = some (.builtin "isinstance"))(ha:PD X M a fa)(hb:PCl X XS ns b)
  (he:starEach [a,b] X.env=(false,eval a X.env)::starEach [b] X.env:=by rfl) (hpl:(backTo pos (starEach [b] X.env)).any (·.1)=false:=by rfl) (hs2:starEach [b] X.env=(false,eval b X.env)::starEach [] X.env:=by rfl) :
  PD X M (.Call (.Name "isinstance" p1) [a,b] [] pos) (ev1 fa (isiN XS ns)) :=
 (jq (Wh T) hg hm hv (QZ ha (QZ hb Jz hs2) he) (by decide +kernel) (by decide +kernel) he hpl).weak fun σ H Q ⟨S,ρ,d,hs,e,q⟩=>by
  obtain ⟨x,e1,e⟩:=ql e
  obtain ⟨c,y,p,rfl,hp,hc,rfl⟩:=Wq e
  refine ⟨S,ρ,_,hs,e1,fun v H1 g1 d1 v2 H2 g2 hv2=>?_⟩
  obtain ⟨a',rfl,o,ho,hx⟩:=d1.exc
  exact ⟨a',c,p,ns,v2,rfl,⟨o,g2 _ _ ho,hx⟩,hp,hc,hv2,q _ H2 (g1.trans g2) (.bool _)⟩
end
structure RoomM (k:Nat)(A:Around):Prop where
 dp:A.depth+3*k+5<recursionLimit
 un:A.units+16*k+200<cLine
theorem Room.m {k:Nat}{A:Around}(r:Room k A)(e:Option Value):RoomM k (A.mark e):=⟨r.dp,r.un⟩
theorem RoomM.mono {j k:Nat}{A:Around}(r:RoomM k A)(h:j<=k):RoomM j A:=⟨by have:=r.dp;omega,by have:=r.un;omega⟩
structure FnOkM (P:Program)(w:World)(K:PySem.W.Frag)(mg:Str->Option Value)(base:Heap)(k:Nat)(f:Addr)(fd:FuncData)(ps:List Str)(sp:Sp):Prop where
 len:∀ vs H Q E,sp vs H Q E->vs.length=ps.length
 run:∀ (A:Around) (outer:List Env) (s:Shared) (H:Hp) (args:Args) (us:List Value) (vs:List V) (Q:VK) (E:XK),RoomM k A->Env0 P w K mg base A outer s H->BindsTo s fd args (ps.zip us)->Vals vs us->sp vs H Q E->
  codeAny (model P w) A (.call (.ref f) args) (CR CX0 outer P w H s Q E) s
def cxM (P:Program)(w:World)(K:PySem.W.Frag)(mg:Str->Option Value)(base:Heap)(N:List Str)(qual:Str)(scope:Scope)(f:Addr)(cd:Value)(A:Around)(outer:List Env)(s:Shared)(H:Hp)(E:XK):Cx :=
 { (cxOf CX0 P w K mg base N qual scope f cd A outer s H E).nox with calm:=false }
structure KnownM (P:Program)(w:World)(K:PySem.W.Frag)(mg:Str->Option Value)(base:Heap)(x:Str)(n k:Nat)(h:List PyData->Option PyData):Prop where
 ex:∃ (f:Addr) (fd:FuncData) (ps:List Str),FnOkM P w K mg base k f fd ps (spF K n h)/\mg x=some (.ref f)/\PySem.W.keepIn K (.ref f)=true/\Binds K fd ps []
section
variable {P:Program}{w:World}{K:PySem.W.Frag}{mg:Str->Option Value}{base:Heap}
theorem Fun.pureM {x qual:Str}{st:Stmt}{f:Addr}{fd:FuncData}{N ps:List Str}{k n:Nat}{u:Rho->Option Out}{M':List Nat}(F:Fun K x qual st f fd)(S:FnScope N ps (qj st))(hn:ps.length=n)
  (hbody:∀ (cdv:Value) (A:Around) (outer:List Env) (s:Shared) (H:Hp) (E:XK),RoomM k (A.deeper (envOfC qual (qj st) s.heap.objs.size f cdv))->∀ G:Gm,
   PDSs (cxM P w K mg base N qual (qj st) f cdv A outer s H E) G [] [] M' [] .pl (zu st) u) :
  FnOkM P w K mg base (k+1) f fd ps (spF K n fun ds=>ob (u (rho0 N.length ds)) outD):=by
 obtain ⟨oc,dV,od,kV,doc,pm,an,cdv,ct,osl,rfl,lk,hcd⟩:=F.g.ex
 have len:∀ vs H Q E,spF K n (fun ds=>ob (u (rho0 N.length ds)) outD) vs H Q E->vs.length=ps.length:=fun vs H Q E h=>by
  obtain ⟨_,ds,d,_,h1,h2,_⟩:=h
  rw [h1.length,h2,hn]
 refine ⟨len,fun A outer s H args us vs Q E hr e0 hb r hsp=>?_⟩
 have hl:=len _ _ _ _ hsp
 have KX:K.In s.heap:=e0.mod.kin.keeps fun b o e=>(e0.bs b o e).1
 have lim:s.heap.NoLimit:=e0.mod.nolimit.keeps fun b o e=>(e0.bs b o e).1
 have hkind:∀ y∈ps.zip us,(qj st).names.lookup y.1=some .local\/((qj st).names.lookup y.1=some .cell/\((cellsFrom (s.heap.objs.size+1) (qj st).names []).lookup y.1).isSome=true):=fun ⟨n,v⟩ hy=>by
  rcases S.par n (List.of_mem_zip hy).1 with q|q
  ·exact .inl q
  ·exact .inr ⟨q,PySem.W.cellsFrom_some _ _ _ (.inl q)⟩
 refine codeAny_call_function (by have:=hr.dp;omega) (KX _ _ lk) rfl S.co S.gen rfl (PySem.W.codeRec_of KX hcd) (hb _ _ _ _ ?_)
 refine wpAny_newFunctionEnv_cells S.kind hkind fun env he s1 x=>?_
 subst he
 refine ⟨lim.keeps x.toInCall.keep,codeAny_func ?_⟩
 obtain ⟨Sv,ds,d,m,h1,h2,e,q⟩:=hsp
 obtain ⟨o,e1,e⟩:=ql e
 have hr':RoomM k (A.deeper (envOfC qual (qj st) s.heap.objs.size f cdv)):=⟨by have:=hr.dp;show A.depth+1+3*k+5<_;omega,by have:=hr.un;show A.units+3+16*k+200<_;omega⟩
 have I0:Inv (cxOf CX0 P w K mg base N qual (qj st) f cdv { A with handled:=none } outer s H E) [] (start N vs) H s1:=J7 S rfl ⟨e0.frames,e0.mod,e0.bs,e0.bsz,e0.funs,e0.frf,e0.hok,e0.bare⟩ hl r x
 have I:Inv (cxM P w K mg base N qual (qj st) f cdv A outer s H E) [] (start N vs) H s1 :=
  ⟨⟨I0.ok.mod,I0.ok.kind,I0.ok.glob,I0.ok.blt,I0.ok.above,I0.ok.inj,I0.ok.has,I0.ok.cab,(fun z=>nomatch z),I0.ok.frames,I0.ok.stk,I0.ok.exf,I0.ok.bs,I0.ok.bsz,I0.ok.noex,I0.ok.exfs,I0.ok.funs,I0.ok.frf⟩,I0.os,I0.bare,I0.base,I0.loc,I0.cell,I0.free,I0.freeC,I0.pin,I0.hok,I0.len⟩
 have q':OutQ K (G0 H Sv) M' [] [] .pl { nx:=fun _ H'=>Q .non H',rt:=Q } o:=by
  cases o with
  | rt r=>cases e;exact q
  | nx ρ=>cases e;exact fun σ' H' S' hs=>q _ H' hs.h0 .none
  | bk ρ=>cases e
  | ct ρ=>cases e
 refine wpAny_mono (hbody cdv A outer s H E hr' (G0 H Sv) [] s1 (start N vs) H _ I ⟨Sv,rho0 N.length ds,o,OwnS.start m h1 N,e1,q'⟩) (fun fl s' hs=>?_) fun e s' hs=>hs.elim
 cases fl with
 | ret u=>obtain ⟨v,σ',H',J,rv,q⟩:=hs;exact ⟨v,H',J.os,J.bare,J.base,J.hok,rv,q⟩
 | next=>obtain ⟨σ',H',J,q⟩:=hs;exact ⟨V.non,H',J.os,J.bare,J.base,J.hok,rfl,q⟩
 | brk=>obtain ⟨_,_,_,q⟩:=hs;exact False.elim q
 | cont=>obtain ⟨_,_,_,q⟩:=hs;exact False.elim q
end
section
variable {X:Cx}{M:List Nat}{a:Expr}{es:List Expr}{pos:Pos}
theorem WL {x:Str}{p:Pos}{n k k':Nat}{h:List PyData->Option PyData}{fs:Rho->Option (List PyData)}(F:KnownM X.prog X.w X.K X.mg X.base x n k h)(hr:RoomM k' X.A)(hk:k<=k')(hg:Gl X x)(ha:PDA X M (a::es) fs)(hl:(a::es).length=n)
  (hdb:(x==("__debug__" : Str))=false:=by decide +kernel) (he:starEach (a::es) X.env=(false,eval a X.env)::starEach es X.env:=by rfl) (hpl:(backTo pos (starEach es X.env)).any (·.1)=false:=by rfl) :
  PD X M (.Call (.Name x p) (a::es) [] pos) (evC n fs h):=by
 obtain ⟨f,fd,ps,F,hm,kp,hb⟩:=F.ex
 intro pins s σ H Q I ⟨S,ρ,d,hs,e,q⟩
 obtain ⟨ds,e1,e⟩:=ql e
 have e:(if ds.length=n then h ds else none)=some d:=e
 split at e
 case isFalse=>cases e
 rename_i hn
 refine wpAny_Call_Name_kw (Q9 I hg hm ?_ hdb)
 refine PySem.W.callWith_K (h₀:=X.base) I.ok.mod.kin kp (thn (ha pos pins s σ H (fun vs H1=>Same H H1/\DenL X.K H1 S vs ds) I ⟨S,ρ,ds,hs,e1,fun vs H1 g1 d1=>⟨g1,d1⟩⟩) fun us s1 ⟨vs,H1,I1,r,g1,d1⟩=>⟨I1.kIn,?_⟩) he hpl
 have hsp:spF X.K n h vs H1 Q E0:=⟨S,ds,d,hs.1.same g1,d1,hn,e,fun v H' g2 dv=>q v H' (g1.trans g2) dv⟩
 have hlen:(us++[]).length=ps.length:=by rw [List.append_nil,← r.length];exact F.len _ _ _ _ hsp
 refine wpAny_call (codeAny_mono (F.run X.A X.stack s1 H1 ⟨us,[]⟩ us vs Q E0 (hr.mono hk) I1.env0 (by have:=hb s1 us I1.kIn hlen;rwa [List.append_nil] at this) r hsp) fun r s' hq=>?_)
 cases r with
 | error e=>exact hq.elim
 | ok fl =>
  cases fl with
  | ret u=>exact I1.after hq
  | next=>exact False.elim hq
  | brk=>exact False.elim hq
  | cont=>exact False.elim hq
end
def vBM:List Value:=[.type "ValueError", .type "Exception", .type "BaseException", .type "object"]
def yU (K:PySem.W.Frag)(c:Str):Bool:=match PySem.W.nsIn K mainGlobals c with
 | some (some (.ref C))=>PySem.W.excIn K C vBM "ValueError.__new__"
 | _=>false
section
variable {K:PySem.W.Frag}{mg:Str->Option Value}{XS:List (Str×List Str)}{c cn:Str}{cs:List Str}
theorem XTab.has (h:(XS.any fun p=>p.1==c)=true):∃ p∈XS,p.1=c:=by
 obtain ⟨p,hp,e⟩:=List.any_eq_true.mp h
 exact ⟨p,hp,beq_iff_eq.mp e⟩
theorem XTab.mg1 (T:XTab K mg XS)(h:(XS.any fun p=>p.1==c)=true):mg c=some (.ref (adr mg c)):=by
 obtain ⟨p,hp,rfl⟩:=XTab.has h
 exact T.nm p hp
theorem XTab.cls1 (T:XTab K mg XS)(h:(XS.any fun p=>p.1==c)=true):XCls K c (adr mg c):=by
 obtain ⟨p,hp,rfl⟩:=XTab.has h
 exact ⟨T.ns p hp,T.xc p hp⟩
theorem XTab.cat1 (T:XTab K mg XS)(h:(XS.any fun p=>p.1==c)=true):catB K (adr mg c)=true:=by
 obtain ⟨p,hp,rfl⟩:=XTab.has h
 exact T.cat p hp
theorem XTab.exc1 (T:XTab K mg XS)(h:(XS.any fun p=>p.1==c)=true)(e:yU K c=true):PySem.W.excIn K (adr mg c) vBM "ValueError.__new__" = true:=by
 obtain ⟨p,hp,rfl⟩:=XTab.has h
 unfold yU at e
 rw [T.ns p hp] at e
 exact e
theorem XTab.cs1 (T:XTab K mg XS)(h:(XS.any fun p=>p.1==cn)=true)(hc:(cs.all fun c=>XS.any fun p=>p.1==c&&p.2.contains cn)=true):∀ c∈cs,∀ C,XCls K c C->PySem.W.mroIn K C (.ref (adr mg cn))=some true:=by
 intro c hm C hC
 obtain ⟨p,hp,e⟩:=List.any_eq_true.mp (List.all_eq_true.mp hc c hm)
 rw [Bool.and_eq_true] at e
 have e1:=beq_iff_eq.mp e.1
 subst e1
 obtain ⟨d,hd,rfl⟩:=XTab.has h
 have:=(T.ns p hp).symm.trans hC.1
 cases this
 rw [T.mro p hp d hd,e.2]
end
theorem qdD {u:Rho->Option Out}{w:Rho->Option (PyData×Rho)}{cs:List Str}{i:Nat}{uh:Rho->Option Out}{ρ ρ':Rho}{c:Str}{d:PyData}(h:w ρ=some (excD c d,ρ'))(hc:cs.contains c=true):sTry u w cs i uh ρ=ob (uh (ρ'.set i (some (excD c d)))) fun o=>some (wO i o):=by
 unfold sTry
 rw [h]
 show (if cs.contains c=true then _ else _)=_
 rw [if_pos hc]
def noTs:List String:=["NoneType", "int", "bool", "tuple", "list", "str"]
def ctB (K:PySem.W.Frag)(CS:List (Str×List Str)):Bool:=CS.all fun c=>match PySem.W.nsIn K mainGlobals c.1 with
 | some (some (.ref C))=>icB K C&&PySem.W.makesIn K C&&(PySem.W.findIn K (.ref C) "__init__" == some (some (.builtin "object.__init__")))&&PySem.W.keepIn K (.ref C)&&(noTs.all fun T=>PySem.W.kitOne K (.type T) (.ref C)==some false)&&(CS.all fun d=>match PySem.W.nsIn K mainGlobals d.1 with
   | some (some (.ref D))=>PySem.W.kitOne K (.ref C) (.ref D)==some (c.2.contains d.1)
   | _=>false)
 | _=>false
structure CTab (K:PySem.W.Frag)(mg:Str->Option Value)(CS:List (Str×List Str)):Prop where
 nm:∀ c∈CS,mg c.1=some (.ref (adr mg c.1))
 ns:∀ c∈CS,PySem.W.nsIn K mainGlobals c.1=some (some (.ref (adr mg c.1)))
 ic:∀ c∈CS,icB K (adr mg c.1)=true
 mkk:∀ c∈CS,PySem.W.makesIn K (adr mg c.1)=true
 ini:∀ c∈CS,PySem.W.findIn K (.ref (adr mg c.1)) "__init__" = some (some (.builtin "object.__init__"))
 kp:∀ c∈CS,PySem.W.keepIn K (.ref (adr mg c.1))=true
 no:∀ c∈CS,∀ T∈noTs,PySem.W.kitOne K (.type T) (.ref (adr mg c.1))=some false
 kit:∀ c∈CS,∀ d∈CS,PySem.W.kitOne K (.ref (adr mg c.1)) (.ref (adr mg d.1))=some (c.2.contains d.1)
theorem qbq {K:PySem.W.Frag}{h:Heap}{mg:Str->Option Value}{CS:List (Str×List Str)}(X:K.In h)(G:h.Ns mainGlobals mg)(e:ctB K CS=true):CTab K mg CS:=by
 have at1:∀ c∈CS,∃ C,PySem.W.nsIn K mainGlobals c.1=some (some (.ref C))/\adr mg c.1=C/\mg c.1=some (.ref C)/\icB K C=true/\PySem.W.makesIn K C=true/\PySem.W.findIn K (.ref C) "__init__" = some (some (.builtin "object.__init__"))/\PySem.W.keepIn K (.ref C)=true/\(∀ T∈noTs,PySem.W.kitOne K (.type T) (.ref C)=some false)/\∀ d∈CS,∃ D,PySem.W.nsIn K mainGlobals d.1=some (some (.ref D))/\PySem.W.kitOne K (.ref C) (.ref D)=some (c.2.contains d.1):=fun c hc=>by
  have:=List.all_eq_true.mp e c hc
  split at this
  ·rename_i C hC
   simp only [Bool.and_eq_true] at this
   obtain ⟨⟨⟨⟨⟨h1,h2⟩,h3⟩,h4⟩,h5⟩,h6⟩:=this
   have hm:=PySem.W.mg_of X G hC
   refine ⟨C,hC,by unfold adr;rw [hm],hm,h1,h2,beq_iff_eq.mp h3,h4,fun T hT=>beq_iff_eq.mp (List.all_eq_true.mp h5 T hT),fun d hd=>?_⟩
   have:=List.all_eq_true.mp h6 d hd
   split at this
   ·rename_i D hD
    exact ⟨D,hD,beq_iff_eq.mp this⟩
   ·cases this
  ·cases this
 refine ⟨fun c hc=>?_,fun c hc=>?_,fun c hc=>?_,fun c hc=>?_,fun c hc=>?_,fun c hc=>?_,fun c hc T hT=>?_,fun c hc d hd=>?_⟩<;>obtain ⟨C,h1,h2,h3,h4,h5,h6,h7,h8,h9⟩:=at1 c hc
 ·rw [h2];exact h3
 ·rw [h2];exact h1
 ·rw [h2];exact h4
 ·rw [h2];exact h5
 ·rw [h2];exact h6
 ·rw [h2];exact h7
 ·rw [h2];exact h8 T hT
 ·obtain ⟨D,g1,g2,_⟩:=at1 d hd
  obtain ⟨D',k1,k2⟩:=h9 d hd
  rw [h2,g2]
  rw [g1] at k1
  cases k1
  exact k2
def objN:PyData->Option Str
 | .dict ((.str c,.none)::(.int 1,.none)::[])=>some c
 | _=>none
theorem yc {d:PyData}{c:Str}(e:objN d=some c):d=objD c:=by
 unfold objN at e
 split at e
 ·cases e;rfl
 ·cases e
def isiC (CS:List (Str×List Str))(n:Str)(d:PyData):Option PyData:=match d with
 | .dict kvs=>ob (objN (.dict kvs)) fun c=>ob (CS.find? fun p=>p.1==c) fun p=>some (.bool (p.2.contains n))
 | _=>some (.bool false)
def qct (X:Cx)(CS:List (Str×List Str)):List V->Hp->VK->Prop:=fun vs H Q=>∃ x n t b,vs=[x,.ref (adr X.mg n)]/\((∃ T,t=.type T/\TyD X.K H x T)\/TyOf X.K H x t)/\PySem.W.kitOne X.K t (.ref (adr X.mg n))=some b/\Q (.bl b) H
section
variable {X:Cx}{CS:List (Str×List Str)}{n:Str}{M:List Nat}{a b o e:Expr}{es:List Expr}{f fa fo:Rho->Option PyData}{fs:Rho->Option (List PyData)}{pos p1 p2 apos:Pos}
theorem Wf:QD X (.builtin "isinstance") (qct X CS):=by
 intro pins s σ H xs us Q I r h
 obtain ⟨x,n,t,b,rfl,ty,e,q⟩:=h
 obtain ⟨u,c,rfl,ru,rc⟩:=r.two
 cases (show c=Value.ref _ from rc)
 have fin:∀ tk,EP X pins σ Q (.bool b) { s with toks:=tk }:=fun tk=>⟨.bl b,H,I.tok tk,rfl,q⟩
 rcases ty with ⟨T,rfl,ty⟩|ty
 ·cases ty with
  | non=>exact Qz I ru .non e fin
  | bl y=>exact Qz I ru (.bl y) e fin
  | int i=>exact Qz I ru (.int i) e fin
  | str y=>exact Qz I ru (.str y) e fin
  | @lst a xs ea =>
   cases (show u=Value.ref a from ru)
   obtain ⟨_,_,⟨o,n,h1,h2,_⟩,_⟩:=I.list ea
   exact PySem.W.kia_one PySem.W.kitx_list I.kIn ⟨o,h1,h2⟩ e (fun z=>nomatch z) fin
  | @tup a xs ea =>
   cases (show u=Value.ref a from ru)
   obtain ⟨_,_,⟨o,h1,h2,_⟩,_⟩:=I.tuple ea
   exact PySem.W.kia_one PySem.W.kitx_tuple I.kIn ⟨o,h1,h2⟩ e (fun z=>nomatch z) fin
  | @dct a kvs ep ea =>
   cases (show u=Value.ref a from ru)
   obtain ⟨o,_,h1,h2,_⟩:=(QF.of (I.hok a _ ea)).vals
   exact PySem.W.kia_one PySem.W.kitx_dict I.kIn ⟨o,h1,h2.1⟩ e (fun z=>nomatch z) fin
 ·exact Qz I ru ty e fin
theorem Qk (T:CTab X.K X.mg CS)(hg:Gl X "isinstance")(hm:X.mg "isinstance" = none)(hv:bootBuiltins "isinstance" = some (.builtin "isinstance"))(ha:PD X M a fa)(hgn:Gl X n)(hn:(CS.any fun p=>p.1==n)=true:=by decide +kernel)(hd:(n==("__debug__" : Str))=false:=by decide +kernel)
  (he:starEach [a,.Name n p2] X.env=(false,eval a X.env)::starEach [.Name n p2] X.env:=by rfl) (hpl:(backTo pos (starEach [.Name n p2] X.env)).any (·.1)=false:=by rfl) (hs2:starEach [.Name n p2] X.env=(false,eval (.Name n p2) X.env)::starEach [] X.env:=by rfl) :
  PD X M (.Call (.Name "isinstance" p1) [a,.Name n p2] [] pos) (ev1 fa (isiC CS n)):=by
 obtain ⟨p,hp,e⟩:=List.any_eq_true.mp hn
 have e:=beq_iff_eq.mp e
 subst e
 refine (jq (Wf (CS:=CS)) hg hm hv (QZ ha (QZ (Ja (v:=.ref (adr X.mg p.1)) hgn (T.nm p hp) rfl hd) Jz hs2) he) (by decide +kernel) (by decide +kernel) he hpl).weak fun σ H Q ⟨S,ρ,d,hs,e,q⟩=>?_
 obtain ⟨x,e1,e⟩:=ql e
 refine ⟨S,ρ,x,hs,e1,fun v H1 g1 d1=>?_⟩
 show qct X CS [v,.ref (adr X.mg p.1)] H1 Q
 have no:=T.no p hp
 cases d1 with
 | none=>cases e;exact ⟨_,_,_,_,rfl,.inl ⟨_,rfl,.non⟩,no _ (by decide),q _ H1 g1 (.bool _)⟩
 | bool y=>cases e;exact ⟨_,_,_,_,rfl,.inl ⟨_,rfl,.bl y⟩,no _ (by decide),q _ H1 g1 (.bool _)⟩
 | int y=>cases e;exact ⟨_,_,_,_,rfl,.inl ⟨_,rfl,.int y⟩,no _ (by decide),q _ H1 g1 (.bool _)⟩
 | str y=>cases e;exact ⟨_,_,_,_,rfl,.inl ⟨_,rfl,.str y⟩,no _ (by decide),q _ H1 g1 (.bool _)⟩
 | list h t=>cases e;exact ⟨_,_,_,_,rfl,.inl ⟨_,rfl,.lst h.sq⟩,no _ (by decide),q _ H1 g1 (.bool _)⟩
 | tuple h t=>cases e;exact ⟨_,_,_,_,rfl,.inl ⟨_,rfl,.tup h⟩,no _ (by decide),q _ H1 g1 (.bool _)⟩
 | ins h o =>
  have e:ob (CS.find? fun p=>p.1==_) (fun p'=>some (PyData.bool (p'.2.contains p.1)))=some d:=e
  obtain ⟨p',h1,e⟩:=ql e
  cases e
  have hp':=List.mem_of_find?_eq_some h1
  have hc:=beq_iff_eq.mp (List.find?_some (p:=fun p:Str×List Str=>p.1==_) h1)
  have h3:=o.1
  rw [← hc,T.ns p' hp'] at h3
  cases h3
  exact ⟨_,_,_,_,rfl,.inr ((Jp o.2).ty h),T.kit p' hp' p hp,q _ H1 g1 (.bool _)⟩
 | dict h k t =>
  obtain ⟨c,e2,e⟩:=ql (show ob (objN _) _=some d from e)
  have:=yc e2
  have z:=PyData.dict.inj this
  have y:=congrArg excK z
  rw [Jl] at y
  cases y
 | exc0 h o=>cases e
 | exc1 h o x y t=>cases e
theorem ZR (T:CTab X.K X.mg CS)(hg:Gl X n)(hn:(CS.any fun p=>p.1==n)=true:=by decide +kernel)(hd:(n==("__debug__" : Str))=false:=by decide +kernel):PD X M (.Call (.Name n p1) [] [] pos) (kd (objD n)):=by
 obtain ⟨p,hp,e⟩:=List.any_eq_true.mp hn
 have e:=beq_iff_eq.mp e
 subst e
 intro pins s σ H Q I ⟨S,ρ,d,hs,e,q⟩
 cases e
 refine wpAny_Call_Name_kw (Q9 I hg (T.nm p hp) ?_ hd)
 refine PySem.W.callWith_K0 I.kIn (T.kp p hp) (wpAny_call (WF I.kIn (T.mkk p hp) (T.ini p hp) (fun self=>PySem.W.Looks.of_pure (PySem.W.oi_bind self)) ?_))
 have I2:=Inv.made (C:=adr X.mg p.1) I
 have Y:=PySem.W.makes_of (M:=model X.prog X.w) I.kIn (T.mkk p hp)
 have hx:((s.heap.push PySem.W.emptyDict).push (PySem.W.instObj (adr X.mg p.1) s.heap.objs.size)).get? (s.heap.objs.size+1)=some (PySem.W.instObj (adr X.mg p.1) s.heap.objs.size):=by
  have:=Heap.get?_push_size (s.heap.push PySem.W.emptyDict) (o:=PySem.W.instObj (adr X.mg p.1) s.heap.objs.size) rfl
  rwa [Heap.size_push] at this
 have t2:PySem.W.Looks (model X.prog X.w) ((s.heap.push PySem.W.emptyDict).push (PySem.W.instObj (adr X.mg p.1) s.heap.objs.size)) (isInstance (.ref (s.heap.objs.size+1)) (.type "object")) true :=
  ((PySem.W.Looks.ld hx).andThen .now).andThen (Y.top.keeps fun b o e=>Heap.get?_push_of_some _ (Heap.get?_push_of_some _ e))
 refine codeAny_call_builtin PySem.W.oi_plain PySem.W.entry_oi (@PySem.W.check_slot (model X.prog X.w) _ _ _ "object.__init__" "object" "__init__" (.ref (s.heap.objs.size+1)) [] [] _ PySem.W.oi_kind PySem.W.oi_split t2 (PySem.W.oi_args _) ?_)
 rw [PySem.W.oi_run]
 have n1:H s.heap.objs.size=none:=I.hok.fresh (Nat.le_refl _)
 have n2:upd H s.heap.objs.size (.own (s.heap.objs.size+1)) (s.heap.objs.size+1)=none:=by
  rw [qJ (Nat.succ_ne_self _)]
  exact I.hok.fresh (Nat.le_succ _)
 exact wpAny_pure ⟨rfl,⟨.ref (s.heap.objs.size+1),_,I2,rfl,q _ _ ((Same.lay n1).lay' n2) (.ins qN ⟨T.ns p hp,T.ic p hp⟩)⟩⟩
def mtD (tab:List (Str×(List PyData->Option PyData))):List PyData->Option PyData
 | d::ds=>ob (objN d) fun c=>ob (tab.find? fun p=>p.1==c) fun p=>p.2 (d::ds)
 | []=>none
theorem Yi {tab:List (Str×(List PyData->Option PyData))}{d r:PyData}{ds:List PyData}(e:mtD tab (d::ds)=some r):∃ c h,d=objD c/\(c,h)∈tab/\h (d::ds)=some r:=by
 obtain ⟨c,e1,e⟩:=ql (show ob (objN d) _=some r from e)
 obtain ⟨⟨c',h⟩,e2,e3⟩:=ql e
 have:=beq_iff_eq.mp (List.find?_some (p:=fun p:Str×(List PyData->Option PyData)=>p.1==_) e2)
 dsimp only at this
 subst this
 exact ⟨c',h,yc e1,List.mem_of_find?_eq_some e2,e3⟩
def qba (P:Program)(w:World)(K:PySem.W.Frag)(mg:Str->Option Value)(base:Heap)(m:Str)(n k:Nat)(c:Str)(h:List PyData->Option PyData):Prop :=
 ∃ (C f:Addr) (fd:FuncData) (ps:List Str) (k0:Nat),PySem.W.nsIn K mainGlobals c=some (some (.ref C))/\Meth K C m f/\k0<=k/\FnOk P w K mg base CX0 k0 f fd ps (spF K n h)/\Binds K fd ps []
structure KnownC (P:Program)(w:World)(K:PySem.W.Frag)(mg:Str->Option Value)(base:Heap)(m:Str)(n k:Nat)(tab:List (Str×(List PyData->Option PyData))):Prop where
 ex:∀ p∈tab,qba P w K mg base m n k p.1 p.2
theorem YT {m:Str}{j k k':Nat}{tab:List (Str×(List PyData->Option PyData))}{pl:Sem Bool}(F:KnownC X.prog X.w X.K X.mg X.base m j k tab)(hr:Room k' X.A)(hk:k<=k')(ho:PD X M o fo)(ha:PDA X M (e::es) fs)
  (hst:starEach (e::es) X.env=(false,eval e X.env)::starEach es X.env:=by rfl) (hpl:(backTo pos (starEach es X.env)).any (·.1)=false:=by rfl)
  (ht:eval (.Call (.Attribute o m apos) (e::es) [] pos) X.env=(do
   let ov ← eval o X.env
   standAt apos.atName
   let (f,first) ← holding [ov] (getMethod ov m pl)
   callWith pos f first (backTo pos (starEach (e::es) X.env)) (backToKw pos (keywordEach [] X.env))):=by rfl) :
  PD X M (.Call (.Attribute o m apos) (e::es) [] pos) (evC j (aC fo fs) (mtD tab)):=by
 intro pins s σ H Q I ⟨S,ρ,r,hs,e,q⟩
 obtain ⟨ds,e1,e⟩:=ql e
 obtain ⟨d,e2,e1⟩:=ql e1
 obtain ⟨ds',e3,e1⟩:=ql e1
 cases e1
 have e:(if (d::ds').length=j then mtD tab (d::ds') else none)=some r:=e
 split at e
 case isFalse=>cases e
 rename_i hl
 obtain ⟨c,h,rfl,hc,e⟩:=Yi e
 obtain ⟨C,f,fd,ps,k0,hC,hm,hk0,F,hb⟩:=F.ex _ hc
 refine PySem.W.methodCall_KW (pl:=pl) (thn (ho pins s σ H (fun v H1=>Same H H1/\Den X.K H1 S v (objD c)) I ⟨S,ρ,_,hs,e2,fun v H1 g1 d1=>⟨g1,d1⟩⟩) fun u s1 ⟨x,H1,I1,rx,g1,d1⟩=>?_) ht
 obtain ⟨a,dx,C',rfl,ea,hC',hic⟩:=d1.ins_inv
 rw [hC] at hC'
 cases hC'
 obtain rfl:u=Value.ref a:=rx
 refine Jo I1 ea (Jp hic).cl hm rfl ?_
 refine PySem.W.callWith_K (first:=[.ref a]) (h₀:=X.base) I.ok.mod.kin hm.kp (thn (ha pos pins s1 σ H1 (fun vs H2=>Same H1 H2/\DenL X.K H2 S vs ds') I1 ⟨S,ρ,_,hs.same g1,e3,fun vs H2 g2 d2=>⟨g2,d2⟩⟩) fun us s2 ⟨vs,H2,I2,r,g2,d2⟩=>⟨I2.kIn,?_⟩) hst hpl
 exact Y0 (us:=.ref a::us) (vs:=.ref a::vs) F (hr.mono (Nat.le_trans hk0 hk)) hb .nil qay I2 (.cons rfl r) ⟨S,_,_,(hs.1.same g1).same g2,by rw [List.append_nil];exact .cons (d1.same g2) d2,hl,e,fun v H' g3 d3=>q v H' ((g1.trans g2).trans g3) d3⟩
theorem qbU {m:Str}{k k':Nat}{tab:List (Str×(List PyData->Option PyData))}{pl:Sem Bool}(F:KnownC X.prog X.w X.K X.mg X.base m 1 k tab)(hr:Room k' X.A)(hk:k<=k')(ho:PD X M o fo)
  (ht:eval (.Call (.Attribute o m apos) [] [] pos) X.env=(do
   let ov ← eval o X.env
   standAt apos.atName
   let (f,first) ← holding [ov] (getMethod ov m pl)
   callWith pos f first (backTo pos (starEach [] X.env)) (backToKw pos (keywordEach [] X.env))):=by rfl) :
  PD X M (.Call (.Attribute o m apos) [] [] pos) (evC 1 (aC fo aN) (mtD tab)):=by
 intro pins s σ H Q I ⟨S,ρ,r,hs,e,q⟩
 obtain ⟨ds,e1,e⟩:=ql e
 obtain ⟨d,e2,e1⟩:=ql e1
 cases e1
 have e:mtD tab [d]=some r:=e
 obtain ⟨c,h,rfl,hc,e⟩:=Yi e
 obtain ⟨C,f,fd,ps,k0,hC,hm,hk0,F,hb⟩:=F.ex _ hc
 refine PySem.W.methodCall_KW (pl:=pl) (thn (ho pins s σ H (fun v H1=>Same H H1/\Den X.K H1 S v (objD c)) I ⟨S,ρ,_,hs,e2,fun v H1 g1 d1=>⟨g1,d1⟩⟩) fun u s1 ⟨x,H1,I1,rx,g1,d1⟩=>?_) ht
 obtain ⟨a,dx,C',rfl,ea,hC',hic⟩:=d1.ins_inv
 rw [hC] at hC'
 cases hC'
 obtain rfl:u=Value.ref a:=rx
 refine Jo I1 ea (Jp hic).cl hm rfl ?_
 exact PySem.W.callWith_K0 (first:=[.ref a]) I1.kIn hm.kp (Y0 (us:=[.ref a]) (vs:=[.ref a]) F (hr.mono (Nat.le_trans hk0 hk)) hb .nil qay I1 (.cons rfl .nil) ⟨S,_,_,hs.1.same g1,by rw [List.append_nil];exact .cons d1 .nil,rfl,e,fun v H' g3 d3=>q v H' (g1.trans g3) d3⟩)
end
def MthK (K:PySem.W.Frag)(c m qual:Str)(st:Stmt):Prop:=∃ (C f:Addr) (fd:FuncData),PySem.W.nsIn K mainGlobals c=some (some (.ref C))/\Meth K C m f/\Fun K m qual st f fd
theorem MthK.of {K:PySem.W.Frag}{c m qual:Str}{st:Stmt}{C f:Addr}{oc:Value}{od an:Option Addr}{osl:Array (Option Value)}{kV doc pm cdv ct:Value}(a:PySem.W.nsIn K mainGlobals c=some (some (.ref C)))(g:PySem.W.findIn K (.ref C) m=some (some (.ref f)))(i:PySem.W.isFn K (.ref f)=true)
  (l:K.lookup f=some ⟨oc,od,.func (PySem.W.fnOf m qual (Qt st) (zu st) (qj st) .none kV doc pm an cdv ct),osl⟩) (d:PySem.W.codeIn K cdv qual=true) (k:PySem.W.keepIn K (.ref f)=true):MthK K c m qual st:=⟨C,f,_,a,⟨g,i,k⟩,YD l d k⟩
def clsB:Stmt->List Stmt
 | .ClassDef _ _ _ body ..=>body
 | _=>[]
end L2
namespace SF
open PySem L2
variable (P:Program)(w:World){K:PySem.W.Frag}{mg:Str->Option Value}(base:Heap){f:Addr}{fd:FuncData}
def top (i:Nat):Stmt:=PySem.Challenge.pw_sheetfold_k11_a_join_leads.main.body.getD i (.Pass ⟨0,0,0,0⟩)
def j8:PyData:=(.tuple [(.int (-1)),(.int (0)),(.int (1))])
def XS:List (Str×List Str):=[("SheetError", ["SheetError", "ValueError"]),("NoDrawing", ["NoDrawing", "SheetError", "ValueError"]),("NoBend", ["NoBend", "SheetError", "ValueError"]),("NoSquare", ["NoSquare", "SheetError", "ValueError"]),("TooMany", ["TooMany", "SheetError", "ValueError"]),("NoTurn", ["NoTurn", "SheetError", "ValueError"]),("NoRow", ["NoRow", "SheetError", "ValueError"]),("NoName", ["NoName", "SheetError", "ValueError"]),("NotClosed", ["NotClosed", "SheetError", "ValueError"]),("NoSheet", ["NoSheet", "SheetError", "ValueError"]),("NoSolid", ["NoSolid", "SheetError", "ValueError"]),("NoTree", ["NoTree", "SheetError", "ValueError"]),("NoWay", ["NoWay", "SheetError", "ValueError"]),("Crowded", ["Crowded", "SheetError", "ValueError"])]
def CS:List (Str×List Str):=[("Join", ["Join"]),("Up", ["Up", "Join"]),("Down", ["Down", "Join"])]
abbrev Tq19:Stmt:=top 16
abbrev Jh:List Str:=["thing"]
theorem zV:ScOk Jh ["thing"] ["isinstance", "int", "bool"] (qj Tq19):=scmk (by kernel_rfl)
def JK:Rho->Option Out:=(sRet (vA (ev1 (vr 0) (isiD "int")) (vN (ev1 (vr 0) (isiD "bool")))))
def Q8 (ds:List PyData):Option PyData:=ob (JK (rho0 Jh.length ds)) outD
theorem YJ (F:Fun K "is_whole" "is_whole" Tq19 f fd)(m:mg "is_whole" = some (.ref f))(b:Binds K fd ["thing"] [])(z_isinstance:mg "isinstance" = none)(z_int:mg "int" = none)(z_bool:mg "bool" = none):Known P w K mg base "is_whole" 1 1 Q8:=by
 refine ⟨f,fd,["thing"],F.pure (k:=0) (u:=JK) (M':=[]) zV.fs rfl (fun cdv A outer s H E hr G=>?_),m,F.kp,b⟩
 refine qy ?_
 refine qC ?_
 refine QM ?_ ?_
 refine jD (T := "int") (wH _) (zV.gl 0 rfl rfl) z_isinstance (zV.gl 1 rfl rfl) z_int rfl rfl ?_
 exact qd 0 (zV.vis 0 rfl) (by decide)
 refine Zy ?_
 refine Z1 ?_
 refine jD (T := "bool") (Yg _) (zV.gl 0 rfl rfl) z_isinstance (zV.gl 2 rfl rfl) z_bool rfl rfl ?_
 exact qd 0 (zV.vis 0 rfl) (by decide)
abbrev Tq31:Stmt:=top 17
abbrev Y8:List Str:=["one", "other"]
theorem Q7:ScOk Y8 ["one", "other"] [] (qj Tq31):=scmk (by kernel_rfl)
def yJ:Rho->Option Out:=(sRet (evA (aC (ev2 (ev2 (vr 0) (kd (.int 0)) ixD) (ev2 (vr 1) (kd (.int 0)) ixD) zz) (aC (ev2 (ev2 (vr 0) (kd (.int 1)) ixD) (ev2 (vr 1) (kd (.int 1)) ixD) zz) (aC (ev2 (ev2 (vr 0) (kd (.int 2)) ixD) (ev2 (vr 1) (kd (.int 2)) ixD) zz) aN))) tupD))
def ZP (ds:List PyData):Option PyData:=ob (yJ (rho0 Y8.length ds)) outD
theorem qbD (F:Fun K "added" "added" Tq31 f fd)(m:mg "added" = some (.ref f))(b:Binds K fd ["one", "other"] []):Known P w K mg base "added" 2 1 ZP:=by
 refine ⟨f,fd,["one", "other"],F.pure (k:=0) (u:=yJ) (M':=[]) Q7.fs rfl (fun cdv A outer s H E hr G=>?_),m,F.kp,b⟩
 refine qy ?_
 refine qC ?_
 refine qY ?_
 refine qb ?_ ?_
 refine qD zO ?_ ?_
 refine qH ?_ ?_
 exact qd 0 (Q7.vis 0 rfl) (by decide)
 exact qe
 refine qH ?_ ?_
 exact qd 1 (Q7.vis 1 rfl) (by decide)
 exact qe
 refine qb ?_ ?_
 refine qD zO ?_ ?_
 refine qH ?_ ?_
 exact qd 0 (Q7.vis 0 rfl) (by decide)
 exact qe
 refine qH ?_ ?_
 exact qd 1 (Q7.vis 1 rfl) (by decide)
 exact qe
 refine qb ?_ ?_
 refine qD zO ?_ ?_
 refine qH ?_ ?_
 exact qd 0 (Q7.vis 0 rfl) (by decide)
 exact qe
 refine qH ?_ ?_
 exact qd 1 (Q7.vis 1 rfl) (by decide)
 exact qe
 exact qg
abbrev Tq24:Stmt:=top 18
abbrev JV:List Str:=["spot"]
theorem ZM:ScOk JV ["spot"] [] (qj Tq24):=scmk (by kernel_rfl)
def jG:Rho->Option Out:=(sRet (evA (aC (ev1 (ev2 (vr 0) (kd (.int 0)) ixD) negD) (aC (ev1 (ev2 (vr 0) (kd (.int 1)) ixD) negD) (aC (ev1 (ev2 (vr 0) (kd (.int 2)) ixD) negD) aN))) tupD))
def z9 (ds:List PyData):Option PyData:=ob (jG (rho0 JV.length ds)) outD
theorem Wu (F:Fun K "negated" "negated" Tq24 f fd)(m:mg "negated" = some (.ref f))(b:Binds K fd ["spot"] []):Known P w K mg base "negated" 1 1 z9:=by
 refine ⟨f,fd,["spot"],F.pure (k:=0) (u:=jG) (M':=[]) ZM.fs rfl (fun cdv A outer s H E hr G=>?_),m,F.kp,b⟩
 refine qy ?_
 refine qC ?_
 refine qY ?_
 refine qb ?_ ?_
 refine Zh Zg ?_
 refine qH ?_ ?_
 exact qd 0 (ZM.vis 0 rfl) (by decide)
 exact qe
 refine qb ?_ ?_
 refine Zh Zg ?_
 refine qH ?_ ?_
 exact qd 0 (ZM.vis 0 rfl) (by decide)
 exact qe
 refine qb ?_ ?_
 refine Zh Zg ?_
 refine qH ?_ ?_
 exact qd 0 (ZM.vis 0 rfl) (by decide)
 exact qe
 exact qg
abbrev Tq32:Stmt:=top 19
abbrev Y9:List Str:=["one", "other"]
theorem zK:ScOk Y9 ["one", "other"] [] (qj Tq32):=scmk (by kernel_rfl)
def yK:Rho->Option Out:=(sRet (evA (aC (ev2 (ev2 (ev2 (vr 0) (kd (.int 1)) ixD) (ev2 (vr 1) (kd (.int 2)) ixD) mulD) (ev2 (ev2 (vr 0) (kd (.int 2)) ixD) (ev2 (vr 1) (kd (.int 1)) ixD) mulD) subD) (aC (ev2 (ev2 (ev2 (vr 0) (kd (.int 2)) ixD) (ev2 (vr 1) (kd (.int 0)) ixD) mulD) (ev2 (ev2 (vr 0) (kd (.int 0)) ixD) (ev2 (vr 1) (kd (.int 2)) ixD) mulD) subD) (aC (ev2 (ev2 (ev2 (vr 0) (kd (.int 0)) ixD) (ev2 (vr 1) (kd (.int 1)) ixD) mulD) (ev2 (ev2 (vr 0) (kd (.int 1)) ixD) (ev2 (vr 1) (kd (.int 0)) ixD) mulD) subD) aN))) tupD))
def Qw (ds:List PyData):Option PyData:=ob (yK (rho0 Y9.length ds)) outD
theorem qbE (F:Fun K "cross" "cross" Tq32 f fd)(m:mg "cross" = some (.ref f))(b:Binds K fd ["one", "other"] []):Known P w K mg base "cross" 2 1 Qw:=by
 refine ⟨f,fd,["one", "other"],F.pure (k:=0) (u:=yK) (M':=[]) zK.fs rfl (fun cdv A outer s H E hr G=>?_),m,F.kp,b⟩
 refine qy ?_
 refine qC ?_
 refine qY ?_
 refine qb ?_ ?_
 refine qD Q4 ?_ ?_
 refine qD zq ?_ ?_
 refine qH ?_ ?_
 exact qd 0 (zK.vis 0 rfl) (by decide)
 exact qe
 refine qH ?_ ?_
 exact qd 1 (zK.vis 1 rfl) (by decide)
 exact qe
 refine qD zq ?_ ?_
 refine qH ?_ ?_
 exact qd 0 (zK.vis 0 rfl) (by decide)
 exact qe
 refine qH ?_ ?_
 exact qd 1 (zK.vis 1 rfl) (by decide)
 exact qe
 refine qb ?_ ?_
 refine qD Q4 ?_ ?_
 refine qD zq ?_ ?_
 refine qH ?_ ?_
 exact qd 0 (zK.vis 0 rfl) (by decide)
 exact qe
 refine qH ?_ ?_
 exact qd 1 (zK.vis 1 rfl) (by decide)
 exact qe
 refine qD zq ?_ ?_
 refine qH ?_ ?_
 exact qd 0 (zK.vis 0 rfl) (by decide)
 exact qe
 refine qH ?_ ?_
 exact qd 1 (zK.vis 1 rfl) (by decide)
 exact qe
 refine qb ?_ ?_
 refine qD Q4 ?_ ?_
 refine qD zq ?_ ?_
 refine qH ?_ ?_
 exact qd 0 (zK.vis 0 rfl) (by decide)
 exact qe
 refine qH ?_ ?_
 exact qd 1 (zK.vis 1 rfl) (by decide)
 exact qe
 refine qD zq ?_ ?_
 refine qH ?_ ?_
 exact qd 0 (zK.vis 0 rfl) (by decide)
 exact qe
 refine qH ?_ ?_
 exact qd 1 (zK.vis 1 rfl) (by decide)
 exact qe
 exact qg
abbrev Tq29:Stmt:=top 20
abbrev Ji:List Str:=["turn", "spot"]
theorem Jc:ScOk Ji ["turn", "spot"] ["range", "tuple"] (qj Tq29):=scmk (by kernel_rfl)
def JM:Rho->Option Out:=(sRet (evA (aC (ZW 2 (evR (aC (kd (.int 3)) aN) jt) tT (ev2 (ev2 (ev2 (ev2 (vr 1) (kd (.int 0)) ixD) (ev2 (ev2 (vr 0) (kd (.int 0)) ixD) (vr 2) ixD) mulD) (ev2 (ev2 (vr 1) (kd (.int 1)) ixD) (ev2 (ev2 (vr 0) (kd (.int 1)) ixD) (vr 2) ixD) mulD) zz) (ev2 (ev2 (vr 1) (kd (.int 2)) ixD) (ev2 (ev2 (vr 0) (kd (.int 2)) ixD) (vr 2) ixD) mulD) zz)) aN) Z2))
def zQ (ds:List PyData):Option PyData:=ob (JM (rho0 Ji.length ds)) outD
theorem qap (F:Fun K "turned" "turned" Tq29 f fd)(m:mg "turned" = some (.ref f))(b:Binds K fd ["turn", "spot"] [])(z_tuple:mg "tuple" = none)(z_range:mg "range" = none):Known P w K mg base "turned" 2 1 zQ:=by
 refine ⟨f,fd,["turn", "spot"],F.pure (k:=0) (u:=JM) (M':=[]) Jc.fs rfl (fun cdv A outer s H E hr G=>?_),m,F.kp,b⟩
 refine qy ?_
 refine qC ?_
 refine ZQ j6 (Jc.gl 1 rfl rfl) z_tuple rfl ?_
 refine qb ?_ ?_
 refine jm (CompOk.of (k:=1) Ji ["turn", "spot", "k"] (qj Tq29) rfl rfl rfl (by decide +kernel)) rfl (by decide +kernel) ?_ (fun _ _ _ _ _ _=>?_) (fun _ _ _ _ _ _=>?_)
 refine JF (Jc.gl 0 rfl rfl) z_range ?_
 refine qb ?_ ?_
 exact qe
 exact qg
 exact jo
 refine qD zO ?_ ?_
 refine qD zO ?_ ?_
 refine qD zq ?_ ?_
 refine qH ?_ ?_
 exact qd 1 (qR (by decide +kernel)) (by decide)
 exact qe
 refine qH ?_ ?_
 refine qH ?_ ?_
 exact qd 0 (qR (by decide +kernel)) (by decide)
 exact qe
 exact qd 2 (qR (by decide +kernel)) (by decide)
 refine qD zq ?_ ?_
 refine qH ?_ ?_
 exact qd 1 (qR (by decide +kernel)) (by decide)
 exact qe
 refine qH ?_ ?_
 refine qH ?_ ?_
 exact qd 0 (qR (by decide +kernel)) (by decide)
 exact qe
 exact qd 2 (qR (by decide +kernel)) (by decide)
 refine qD zq ?_ ?_
 refine qH ?_ ?_
 exact qd 1 (qR (by decide +kernel)) (by decide)
 exact qe
 refine qH ?_ ?_
 refine qH ?_ ?_
 exact qd 0 (qR (by decide +kernel)) (by decide)
 exact qe
 exact qd 2 (qR (by decide +kernel)) (by decide)
 exact qg
abbrev Tq2:Stmt:=top 21
abbrev Zq:List Str:=["first", "second"]
theorem qP:ScOk Zq ["first", "second"] ["turned"] (qj Tq2):=scmk (by kernel_rfl)
def QT:Rho->Option Out:=(sRet (evA (aC (evC 2 (aC (vr 1) (aC (ev2 (vr 0) (kd (.int 0)) ixD) aN)) zQ) (aC (evC 2 (aC (vr 1) (aC (ev2 (vr 0) (kd (.int 1)) ixD) aN)) zQ) (aC (evC 2 (aC (vr 1) (aC (ev2 (vr 0) (kd (.int 2)) ixD) aN)) zQ) aN))) tupD))
def zH (ds:List PyData):Option PyData:=ob (QT (rho0 Zq.length ds)) outD
theorem Jw (F:Fun K "joined_turns" "joined_turns" Tq2 f fd)(m:mg "joined_turns" = some (.ref f))(b:Binds K fd ["first", "second"] [])(K_turned:Known P w K mg base "turned" 2 1 zQ):Known P w K mg base "joined_turns" 2 2 zH:=by
 refine ⟨f,fd,["first", "second"],F.pure (k:=1) (u:=QT) (M':=[]) qP.fs rfl (fun cdv A outer s H E hr G=>?_),m,F.kp,b⟩
 refine qy ?_
 refine qC ?_
 refine qY ?_
 refine qb ?_ ?_
 refine qw K_turned hr (by decide) (qP.gl 0 rfl rfl) ?_ rfl
 refine qb ?_ ?_
 exact qd 1 (qP.vis 1 rfl) (by decide)
 refine qb ?_ ?_
 refine qH ?_ ?_
 exact qd 0 (qP.vis 0 rfl) (by decide)
 exact qe
 exact qg
 refine qb ?_ ?_
 refine qw K_turned hr (by decide) (qP.gl 0 rfl rfl) ?_ rfl
 refine qb ?_ ?_
 exact qd 1 (qP.vis 1 rfl) (by decide)
 refine qb ?_ ?_
 refine qH ?_ ?_
 exact qd 0 (qP.vis 0 rfl) (by decide)
 exact qe
 exact qg
 refine qb ?_ ?_
 refine qw K_turned hr (by decide) (qP.gl 0 rfl rfl) ?_ rfl
 refine qb ?_ ?_
 exact qd 1 (qP.vis 1 rfl) (by decide)
 refine qb ?_ ?_
 refine qH ?_ ?_
 exact qd 0 (qP.vis 0 rfl) (by decide)
 exact qe
 exact qg
 exact qg
abbrev Tq12:Stmt:=top 22
abbrev Zr:List Str:=["turn"]
theorem Zk:ScOk Zr ["turn"] ["range", "tuple"] (qj Tq12):=scmk (by kernel_rfl)
def ZL:Rho->Option Out:=(sRet (evA (aC (ZW 1 (evR (aC (kd (.int 3)) aN) jt) tT (evA (aC (ev2 (ev2 (vr 0) (kd (.int 0)) ixD) (vr 1) ixD) (aC (ev2 (ev2 (vr 0) (kd (.int 1)) ixD) (vr 1) ixD) (aC (ev2 (ev2 (vr 0) (kd (.int 2)) ixD) (vr 1) ixD) aN))) tupD)) aN) Z2))
def Qn (ds:List PyData):Option PyData:=ob (ZL (rho0 Zr.length ds)) outD
theorem Ye (F:Fun K "turn_back" "turn_back" Tq12 f fd)(m:mg "turn_back" = some (.ref f))(b:Binds K fd ["turn"] [])(z_tuple:mg "tuple" = none)(z_range:mg "range" = none):Known P w K mg base "turn_back" 1 1 Qn:=by
 refine ⟨f,fd,["turn"],F.pure (k:=0) (u:=ZL) (M':=[]) Zk.fs rfl (fun cdv A outer s H E hr G=>?_),m,F.kp,b⟩
 refine qy ?_
 refine qC ?_
 refine ZQ j6 (Zk.gl 1 rfl rfl) z_tuple rfl ?_
 refine qb ?_ ?_
 refine jm (CompOk.of (k:=1) Zr ["turn", "k"] (qj Tq12) rfl rfl rfl (by decide +kernel)) rfl (by decide +kernel) ?_ (fun _ _ _ _ _ _=>?_) (fun _ _ _ _ _ _=>?_)
 refine JF (Zk.gl 0 rfl rfl) z_range ?_
 refine qb ?_ ?_
 exact qe
 exact qg
 exact jo
 refine qY ?_
 refine qb ?_ ?_
 refine qH ?_ ?_
 refine qH ?_ ?_
 exact qd 0 (qR (by decide +kernel)) (by decide)
 exact qe
 exact qd 1 (qR (by decide +kernel)) (by decide)
 refine qb ?_ ?_
 refine qH ?_ ?_
 refine qH ?_ ?_
 exact qd 0 (qR (by decide +kernel)) (by decide)
 exact qe
 exact qd 1 (qR (by decide +kernel)) (by decide)
 refine qb ?_ ?_
 refine qH ?_ ?_
 refine qH ?_ ?_
 exact qd 0 (qR (by decide +kernel)) (by decide)
 exact qe
 exact qd 1 (qR (by decide +kernel)) (by decide)
 exact qg
 exact qg
abbrev Tq30:Stmt:=top 24
abbrev yO:List Str:=["pose"]
theorem Z7:ScOk yO ["pose"] ["cross"] (qj Tq30):=scmk (by kernel_rfl)
def JL:Rho->Option Out:=(sRet (evC 2 (aC (ev2 (vr 0) (kd (.int 1)) ixD) (aC (ev2 (vr 0) (kd (.int 2)) ixD) aN)) Qw))
def Zw (ds:List PyData):Option PyData:=ob (JL (rho0 yO.length ds)) outD
theorem qao (F:Fun K "out_of" "out_of" Tq30 f fd)(m:mg "out_of" = some (.ref f))(b:Binds K fd ["pose"] [])(K_cross:Known P w K mg base "cross" 2 1 Qw):Known P w K mg base "out_of" 1 2 Zw:=by
 refine ⟨f,fd,["pose"],F.pure (k:=1) (u:=JL) (M':=[]) Z7.fs rfl (fun cdv A outer s H E hr G=>?_),m,F.kp,b⟩
 refine qy ?_
 refine qC ?_
 refine qw K_cross hr (by decide) (Z7.gl 0 rfl rfl) ?_ rfl
 refine qb ?_ ?_
 refine qH ?_ ?_
 exact qd 0 (Z7.vis 0 rfl) (by decide)
 exact qe
 refine qb ?_ ?_
 refine qH ?_ ?_
 exact qd 0 (Z7.vis 0 rfl) (by decide)
 exact qe
 exact qg
abbrev Tq25:Stmt:=top 27
abbrev JW:List Str:=["pose", "way"]
theorem zZ:ScOk JW ["pose", "way"] ["negated"] (qj Tq25):=scmk (by kernel_rfl)
def jH:Rho->Option Out:=(sRet (ev2 (evA (aC (ev2 (vr 0) (kd (.int 1)) ixD) (aC (ev2 (vr 0) (kd (.int 2)) ixD) (aC (evC 1 (aC (ev2 (vr 0) (kd (.int 1)) ixD) aN) z9) (aC (evC 1 (aC (ev2 (vr 0) (kd (.int 2)) ixD) aN) z9) aN)))) tupD) (vr 1) ixD))
def Qh (ds:List PyData):Option PyData:=ob (jH (rho0 JW.length ds)) outD
theorem Wv (F:Fun K "unit_of" "unit_of" Tq25 f fd)(m:mg "unit_of" = some (.ref f))(b:Binds K fd ["pose", "way"] [])(K_negated:Known P w K mg base "negated" 1 1 z9):Known P w K mg base "unit_of" 2 2 Qh:=by
 refine ⟨f,fd,["pose", "way"],F.pure (k:=1) (u:=jH) (M':=[]) zZ.fs rfl (fun cdv A outer s H E hr G=>?_),m,F.kp,b⟩
 refine qy ?_
 refine qC ?_
 refine qH ?_ ?_
 refine qY ?_
 refine qb ?_ ?_
 refine qH ?_ ?_
 exact qd 0 (zZ.vis 0 rfl) (by decide)
 exact qe
 refine qb ?_ ?_
 refine qH ?_ ?_
 exact qd 0 (zZ.vis 0 rfl) (by decide)
 exact qe
 refine qb ?_ ?_
 refine qw K_negated hr (by decide) (zZ.gl 0 rfl rfl) ?_ rfl
 refine qb ?_ ?_
 refine qH ?_ ?_
 exact qd 0 (zZ.vis 0 rfl) (by decide)
 exact qe
 exact qg
 refine qb ?_ ?_
 refine qw K_negated hr (by decide) (zZ.gl 0 rfl rfl) ?_ rfl
 refine qb ?_ ?_
 refine qH ?_ ?_
 exact qd 0 (zZ.vis 0 rfl) (by decide)
 exact qe
 exact qg
 exact qg
 exact qd 1 (zZ.vis 1 rfl) (by decide)
abbrev Tq26:Stmt:=top 31
abbrev JT:List Str:=["thing"]
theorem Q3:ScOk JT ["thing"] ["is_whole", "BENDS"] (qj Tq26):=scmk (by kernel_rfl)
def jF:Rho->Option Out:=(sRet (vA (evC 1 (aC (vr 0) aN) Q8) (ev2 (vr 0) (kd j8) inD)))
def zL (ds:List PyData):Option PyData:=ob (jF (rho0 JT.length ds)) outD
theorem Ws (F:Fun K "is_bend" "is_bend" Tq26 f fd)(m:mg "is_bend" = some (.ref f))(b:Binds K fd ["thing"] [])(K_is_whole:Known P w K mg base "is_whole" 1 1 Q8)(C_BENDS:Yu K mg "BENDS" j8):Known P w K mg base "is_bend" 1 2 zL:=by
 refine ⟨f,fd,["thing"],F.pure (k:=1) (u:=jF) (M':=[]) Q3.fs rfl (fun cdv A outer s H E hr G=>?_),m,F.kp,b⟩
 refine qy ?_
 refine qC ?_
 refine QM ?_ ?_
 refine qw K_is_whole hr (by decide) (Q3.gl 0 rfl rfl) ?_ rfl
 refine qb ?_ ?_
 exact qd 0 (Q3.vis 0 rfl) (by decide)
 exact qg
 refine Zy ?_
 refine qaA (d_in hr) ?_ ?_ rfl
 exact qd 0 (Q3.vis 0 rfl) (by decide)
 exact qaC C_BENDS (Q3.gl 1 rfl rfl)
abbrev Tq27:Stmt:=top 32
abbrev jy:List Str:=["bend"]
theorem qZ:ScOk jy ["bend"] ["is_bend", "Up", "Down", "Join", "NoBend"] (qj Tq27):=scmk (by kernel_rfl)
def yl:Rho->Option Out:=(seqO (sIf (tN (tV (evC 1 (aC (vr 0) aN) zL))) sNo sN) (seqO (sIf (tV (ev2 (vr 0) (kd (.int 1)) eqD)) (sRet (kd (objD "Up"))) sN) (seqO (sIf (tV (ev2 (vr 0) (ev1 (kd (.int 1)) negD) eqD)) (sRet (kd (objD "Down"))) sN) (sRet (kd (objD "Join"))))))
def Qy (ds:List PyData):Option PyData:=ob (yl (rho0 jy.length ds)) outD
theorem Wt (F:Fun K "join_of" "join_of" Tq27 f fd)(m:mg "join_of" = some (.ref f))(b:Binds K fd ["bend"] [])(K_is_bend:Known P w K mg base "is_bend" 1 2 zL)(CT:CTab K mg CS)(XT:XTab K mg XS)(e_NoBend:yU K "NoBend" = true):Known P w K mg base "join_of" 1 3 Qy:=by
 refine ⟨f,fd,["bend"],F.pure (k:=2) (u:=yl) (M':=[]) qZ.fs rfl (fun cdv A outer s H E hr G=>?_),m,F.kp,b⟩
 refine qx (M1:=[]) ?_ ?_
 refine zm ?_ ?_ ?_
 refine Qg ?_
 refine zM ?_
 refine qw K_is_bend hr (by decide) (qZ.gl 0 rfl rfl) ?_ rfl
 refine qb ?_ ?_
 exact qd 0 (qZ.vis 0 rfl) (by decide)
 exact qg
 refine qy ?_
 exact yf
 exact qU
 refine qx (M1:=[]) ?_ ?_
 refine zm ?_ ?_ ?_
 refine zb (d_eq hr) ?_ ?_ (zy _)
 exact qd 0 (qZ.vis 0 rfl) (by decide)
 exact qe
 refine qy ?_
 refine qC ?_
 exact ZR CT (qZ.gl 1 rfl rfl)
 exact qU
 refine qx (M1:=[]) ?_ ?_
 refine zm ?_ ?_ ?_
 refine zb (d_eq hr) ?_ ?_ (zy _)
 exact qd 0 (qZ.vis 0 rfl) (by decide)
 refine Zh Zg ?_
 exact qe
 refine qy ?_
 refine qC ?_
 exact ZR CT (qZ.gl 2 rfl rfl)
 exact qU
 refine qy ?_
 refine qC ?_
 exact ZR CT (qZ.gl 3 rfl rfl)
def Q6:Rho->Option (PyData×Rho):=(xSeq (sIf (tN (tV (evC 1 (aC (vr 0) aN) zL))) sNo sN) (xIf (tN (tV (evC 1 (aC (vr 0) aN) zL))) (qa9 "NoBend" (aC (kd (.str "a bend is -1, 0 or 1")) aN)) xNo) xNo)
def Qj (ds:List PyData):Option PyData:=xOut Q6 jy.length ds
theorem WQ (F:Fun K "join_of" "join_of" Tq27 f fd)(m:mg "join_of" = some (.ref f))(b:Binds K fd ["bend"] [])(K_is_bend:Known P w K mg base "is_bend" 1 2 zL)(CT:CTab K mg CS)(XT:XTab K mg XS)(e_NoBend:yU K "NoBend" = true):KnownR P w K mg base "join_of" 1 3 Qj:=by
 refine ⟨f,fd,["bend"],F.raises (k:=2) (wx:=Q6) (Mx:=[]) qZ.fs rfl (fun cdv A outer s H E hr G=>?_),m,F.kp,b⟩
 refine qaJ (M1:=[]) (fr:=.pl) (Mb:=[]) ?_ ?_ ?_
 refine zm ?_ ?_ ?_
 refine Qg ?_
 refine zM ?_
 refine qw K_is_bend hr (by decide) (qZ.gl 0 rfl rfl) ?_ rfl
 refine qb ?_ ?_
 exact qd 0 (qZ.vis 0 rfl) (by decide)
 exact qg
 refine qy ?_
 exact yf
 exact qU
 refine qdf ?_ ?_ ?_
 refine Qg ?_
 refine zM ?_
 refine qw K_is_bend hr (by decide) (qZ.gl 0 rfl rfl) ?_ rfl
 refine qb ?_ ?_
 exact qd 0 (qZ.vis 0 rfl) (by decide)
 exact qg
 refine wX ?_
 refine WM PySem.F.excBase_ValueError hr (qZ.gl 4 rfl rfl) (XT.mg1 (by decide +kernel)) (XT.cls1 (by decide +kernel)) (XT.exc1 (by decide +kernel) e_NoBend) ?_
 refine qb ?_ ?_
 exact JD
 exact qg
 exact wY
 exact wY
abbrev Tq13:Stmt:=top 34
abbrev jM:List Str:=["_law_script", "_law_k"]
theorem zX:ScOk jM ["_law_script", "_law_k"] ["len"] (qj Tq13):=scmk (by kernel_rfl)
def ZD:Rho->Option Out:=(seqO (sIf (tV (ev2 (vr 1) (evA (aC (vr 0) aN) lenD) ltD2)) (sRet (ev2 (vr 0) (vr 1) ixD)) sN) (sRet (kd (.int 0))))
def zc (ds:List PyData):Option PyData:=ob (ZD (rho0 jM.length ds)) outD
theorem yZ (F:Fun K "_law_cell" "_law_cell" Tq13 f fd)(m:mg "_law_cell" = some (.ref f))(b:Binds K fd ["_law_script", "_law_k"] [])(z_len:mg "len" = none):Known P w K mg base "_law_cell" 2 1 zc:=by
 refine ⟨f,fd,["_law_script", "_law_k"],F.pure (k:=0) (u:=ZD) (M':=[]) zX.fs rfl (fun cdv A outer s H E hr G=>?_),m,F.kp,b⟩
 refine qx (M1:=[]) ?_ ?_
 refine zm ?_ ?_ ?_
 refine zb (d_lt2 hr) ?_ ?_ (zy _)
 exact qd 1 (zX.vis 1 rfl) (by decide)
 refine Q5 W0 (zX.gl 0 rfl rfl) z_len PySem.boot_len ?_
 refine qb ?_ ?_
 exact qd 0 (zX.vis 0 rfl) (by decide)
 exact qg
 refine qy ?_
 refine qC ?_
 refine qH ?_ ?_
 exact qd 0 (zX.vis 0 rfl) (by decide)
 exact qd 1 (zX.vis 1 rfl) (by decide)
 exact qU
 refine qy ?_
 refine qC ?_
 exact qe
abbrev Tq7:Stmt:=top 35
abbrev jd:List Str:=["_law_found"]
theorem zr:ScOk jd ["_law_found"] ["isinstance", "int", "bool"] (qj Tq7):=scmk (by kernel_rfl)
def jx:Rho->Option Out:=(sRet (vA (ev1 (vr 0) (isiD "int")) (vN (ev1 (vr 0) (isiD "bool")))))
def zf (ds:List PyData):Option PyData:=ob (jx (rho0 jd.length ds)) outD
theorem yE (F:Fun K "_law_whole" "_law_whole" Tq7 f fd)(m:mg "_law_whole" = some (.ref f))(b:Binds K fd ["_law_found"] [])(z_isinstance:mg "isinstance" = none)(z_int:mg "int" = none)(z_bool:mg "bool" = none):Known P w K mg base "_law_whole" 1 1 zf:=by
 refine ⟨f,fd,["_law_found"],F.pure (k:=0) (u:=jx) (M':=[]) zr.fs rfl (fun cdv A outer s H E hr G=>?_),m,F.kp,b⟩
 refine qy ?_
 refine qC ?_
 refine QM ?_ ?_
 refine jD (T := "int") (wH _) (zr.gl 0 rfl rfl) z_isinstance (zr.gl 1 rfl rfl) z_int rfl rfl ?_
 exact qd 0 (zr.vis 0 rfl) (by decide)
 refine Zy ?_
 refine Z1 ?_
 refine jD (T := "bool") (Yg _) (zr.gl 0 rfl rfl) z_isinstance (zr.gl 2 rfl rfl) z_bool rfl rfl ?_
 exact qd 0 (zr.vis 0 rfl) (by decide)
abbrev Tq8:Stmt:=top 36
abbrev jb:List Str:=["_law_one", "_law_other", "_law_a", "_law_b", "_law_c", "_law_d", "_law_e", "_law_f"]
theorem qz:ScOk jb ["_law_one", "_law_other"] [] (qj Tq8):=scmk (by kernel_rfl)
def Qx:Rho->Option Out:=(seqO (sAsg (vr 0) (unpD 3 (gsC (gNm 2) (gsC (gNm 3) (gsC (gNm 4) gsN))))) (seqO (sAsg (vr 1) (unpD 3 (gsC (gNm 5) (gsC (gNm 6) (gsC (gNm 7) gsN))))) (sRet (evA (aC (ev2 (ev2 (vr 3) (vr 7) mulD) (ev2 (vr 4) (vr 6) mulD) subD) (aC (ev2 (ev2 (vr 4) (vr 5) mulD) (ev2 (vr 2) (vr 7) mulD) subD) (aC (ev2 (ev2 (vr 2) (vr 6) mulD) (ev2 (vr 3) (vr 5) mulD) subD) aN))) tupD))))
def qT (ds:List PyData):Option PyData:=ob (Qx (rho0 jb.length ds)) outD
theorem yC (F:Fun K "_law_cross" "_law_cross" Tq8 f fd)(m:mg "_law_cross" = some (.ref f))(b:Binds K fd ["_law_one", "_law_other"] []):Known P w K mg base "_law_cross" 2 1 qT:=by
 refine ⟨f,fd,["_law_one", "_law_other"],F.pure (k:=0) (u:=Qx) (M':=[]) qz.fs rfl (fun cdv A outer s H E hr G=>?_),m,F.kp,b⟩
 refine qx (M1:=[]) ?_ ?_
 refine wV ?_ ?_
 exact qd 0 (qz.vis 0 rfl) (by decide)
 refine wR rfl ?_
 refine QB ?_ ?_
 exact Qf 2 qz.fs.nd (qz.loc 2 rfl) (by decide)
 refine QB ?_ ?_
 exact Qf 3 qz.fs.nd (qz.loc 3 rfl) (by decide)
 refine QB ?_ ?_
 exact Qf 4 qz.fs.nd (qz.loc 4 rfl) (by decide)
 exact Yo
 refine qx (M1:=[]) ?_ ?_
 refine wV ?_ ?_
 exact qd 1 (qz.vis 1 rfl) (by decide)
 refine wR rfl ?_
 refine QB ?_ ?_
 exact Qf 5 qz.fs.nd (qz.loc 5 rfl) (by decide)
 refine QB ?_ ?_
 exact Qf 6 qz.fs.nd (qz.loc 6 rfl) (by decide)
 refine QB ?_ ?_
 exact Qf 7 qz.fs.nd (qz.loc 7 rfl) (by decide)
 exact Yo
 refine qy ?_
 refine qC ?_
 refine qY ?_
 refine qb ?_ ?_
 refine qD Q4 ?_ ?_
 refine qD zq ?_ ?_
 exact qd 3 (qz.vis 3 rfl) (by decide)
 exact qd 7 (qz.vis 7 rfl) (by decide)
 refine qD zq ?_ ?_
 exact qd 4 (qz.vis 4 rfl) (by decide)
 exact qd 6 (qz.vis 6 rfl) (by decide)
 refine qb ?_ ?_
 refine qD Q4 ?_ ?_
 refine qD zq ?_ ?_
 exact qd 4 (qz.vis 4 rfl) (by decide)
 exact qd 5 (qz.vis 5 rfl) (by decide)
 refine qD zq ?_ ?_
 exact qd 2 (qz.vis 2 rfl) (by decide)
 exact qd 7 (qz.vis 7 rfl) (by decide)
 refine qb ?_ ?_
 refine qD Q4 ?_ ?_
 refine qD zq ?_ ?_
 exact qd 2 (qz.vis 2 rfl) (by decide)
 exact qd 6 (qz.vis 6 rfl) (by decide)
 refine qD zq ?_ ?_
 exact qd 3 (qz.vis 3 rfl) (by decide)
 exact qd 5 (qz.vis 5 rfl) (by decide)
 exact qg
abbrev Tq20:Stmt:=top 37
abbrev Je:List Str:=["_law_one", "_law_other"]
theorem zU:ScOk Je ["_law_one", "_law_other"] [] (qj Tq20):=scmk (by kernel_rfl)
def Zd:Rho->Option Out:=(sRet (ev2 (ev2 (ev2 (ev2 (vr 0) (kd (.int 0)) ixD) (ev2 (vr 1) (kd (.int 0)) ixD) mulD) (ev2 (ev2 (vr 0) (kd (.int 1)) ixD) (ev2 (vr 1) (kd (.int 1)) ixD) mulD) zz) (ev2 (ev2 (vr 0) (kd (.int 2)) ixD) (ev2 (vr 1) (kd (.int 2)) ixD) mulD) zz))
def zx (ds:List PyData):Option PyData:=ob (Zd (rho0 Je.length ds)) outD
theorem YF (F:Fun K "_law_dot" "_law_dot" Tq20 f fd)(m:mg "_law_dot" = some (.ref f))(b:Binds K fd ["_law_one", "_law_other"] []):Known P w K mg base "_law_dot" 2 1 zx:=by
 refine ⟨f,fd,["_law_one", "_law_other"],F.pure (k:=0) (u:=Zd) (M':=[]) zU.fs rfl (fun cdv A outer s H E hr G=>?_),m,F.kp,b⟩
 refine qy ?_
 refine qC ?_
 refine qD zO ?_ ?_
 refine qD zO ?_ ?_
 refine qD zq ?_ ?_
 refine qH ?_ ?_
 exact qd 0 (zU.vis 0 rfl) (by decide)
 exact qe
 refine qH ?_ ?_
 exact qd 1 (zU.vis 1 rfl) (by decide)
 exact qe
 refine qD zq ?_ ?_
 refine qH ?_ ?_
 exact qd 0 (zU.vis 0 rfl) (by decide)
 exact qe
 refine qH ?_ ?_
 exact qd 1 (zU.vis 1 rfl) (by decide)
 exact qe
 refine qD zq ?_ ?_
 refine qH ?_ ?_
 exact qd 0 (zU.vis 0 rfl) (by decide)
 exact qe
 refine qH ?_ ?_
 exact qd 1 (zU.vis 1 rfl) (by decide)
 exact qe
abbrev Tq21:Stmt:=top 38
abbrev Jg:List Str:=["_law_one", "_law_many", "_law_other"]
theorem zj:ScOk Jg ["_law_one", "_law_many", "_law_other"] [] (qj Tq21):=scmk (by kernel_rfl)
def Z5:Rho->Option Out:=(sRet (evA (aC (ev2 (ev2 (vr 0) (kd (.int 0)) ixD) (ev2 (vr 1) (ev2 (vr 2) (kd (.int 0)) ixD) mulD) zz) (aC (ev2 (ev2 (vr 0) (kd (.int 1)) ixD) (ev2 (vr 1) (ev2 (vr 2) (kd (.int 1)) ixD) mulD) zz) (aC (ev2 (ev2 (vr 0) (kd (.int 2)) ixD) (ev2 (vr 1) (ev2 (vr 2) (kd (.int 2)) ixD) mulD) zz) aN))) tupD))
def q9 (ds:List PyData):Option PyData:=ob (Z5 (rho0 Jg.length ds)) outD
theorem YH (F:Fun K "_law_sum" "_law_sum" Tq21 f fd)(m:mg "_law_sum" = some (.ref f))(b:Binds K fd ["_law_one", "_law_many", "_law_other"] []):Known P w K mg base "_law_sum" 3 1 q9:=by
 refine ⟨f,fd,["_law_one", "_law_many", "_law_other"],F.pure (k:=0) (u:=Z5) (M':=[]) zj.fs rfl (fun cdv A outer s H E hr G=>?_),m,F.kp,b⟩
 refine qy ?_
 refine qC ?_
 refine qY ?_
 refine qb ?_ ?_
 refine qD zO ?_ ?_
 refine qH ?_ ?_
 exact qd 0 (zj.vis 0 rfl) (by decide)
 exact qe
 refine qD zq ?_ ?_
 exact qd 1 (zj.vis 1 rfl) (by decide)
 refine qH ?_ ?_
 exact qd 2 (zj.vis 2 rfl) (by decide)
 exact qe
 refine qb ?_ ?_
 refine qD zO ?_ ?_
 refine qH ?_ ?_
 exact qd 0 (zj.vis 0 rfl) (by decide)
 exact qe
 refine qD zq ?_ ?_
 exact qd 1 (zj.vis 1 rfl) (by decide)
 refine qH ?_ ?_
 exact qd 2 (zj.vis 2 rfl) (by decide)
 exact qe
 refine qb ?_ ?_
 refine qD zO ?_ ?_
 refine qH ?_ ?_
 exact qd 0 (zj.vis 0 rfl) (by decide)
 exact qe
 refine qD zq ?_ ?_
 exact qd 1 (zj.vis 1 rfl) (by decide)
 refine qH ?_ ?_
 exact qd 2 (zj.vis 2 rfl) (by decide)
 exact qe
 exact qg
abbrev Tq14:Stmt:=top 39
abbrev jO:List Str:=["_law_pose_here", "_law_way"]
theorem Ql:ScOk jO ["_law_pose_here", "_law_way"] ["_law_sum"] (qj Tq14):=scmk (by kernel_rfl)
def ZK:Rho->Option Out:=(sRet (evC 3 (aC (evA (aC (kd (.int 0)) (aC (kd (.int 0)) (aC (kd (.int 0)) aN))) tupD) (aC (ev2 (kd (.int 1)) (ev2 (kd (.int 2)) (ev2 (vr 1) (kd (.int 2)) QX) mulD) subD) (aC (ev2 (vr 0) (ev2 (kd (.int 1)) (ev2 (vr 1) (kd (.int 2)) modD) zz) ixD) aN))) q9))
def zG (ds:List PyData):Option PyData:=ob (ZK (rho0 jO.length ds)) outD
theorem Yd (F:Fun K "_law_unit" "_law_unit" Tq14 f fd)(m:mg "_law_unit" = some (.ref f))(b:Binds K fd ["_law_pose_here", "_law_way"] [])(K__law_sum:Known P w K mg base "_law_sum" 3 1 q9):Known P w K mg base "_law_unit" 2 2 zG:=by
 refine ⟨f,fd,["_law_pose_here", "_law_way"],F.pure (k:=1) (u:=ZK) (M':=[]) Ql.fs rfl (fun cdv A outer s H E hr G=>?_),m,F.kp,b⟩
 refine qy ?_
 refine qC ?_
 refine qw K__law_sum hr (by decide) (Ql.gl 0 rfl rfl) ?_ rfl
 refine qb ?_ ?_
 refine qY ?_
 refine qb ?_ ?_
 exact qe
 refine qb ?_ ?_
 exact qe
 refine qb ?_ ?_
 exact qe
 exact qg
 refine qb ?_ ?_
 refine qD Q4 ?_ ?_
 exact qe
 refine qD zq ?_ ?_
 exact qe
 refine qD Zv ?_ ?_
 exact qd 1 (Ql.vis 1 rfl) (by decide)
 exact qe
 refine qb ?_ ?_
 refine qH ?_ ?_
 exact qd 0 (Ql.vis 0 rfl) (by decide)
 refine qD zO ?_ ?_
 exact qe
 refine qD QV ?_ ?_
 exact qd 1 (Ql.vis 1 rfl) (by decide)
 exact qe
 exact qg
abbrev Tq22:Stmt:=top 40
abbrev Jf:List Str:=["_law_pose_here", "_law_way", "_law_bend", "_law_along", "_law_out", "_law_on", "_law_edge", "_law_told", "_law_unit_here"]
theorem qp:ScOk Jf ["_law_pose_here", "_law_way", "_law_bend"] ["_law_unit", "_law_cross", "_law_sum", "_law_dot", "tuple"] (qj Tq22):=scmk (by kernel_rfl)
def Z4:Rho->Option Out:=(seqO (sSet 3 (evC 2 (aC (vr 0) (aC (vr 1) aN)) zG)) (seqO (sSet 4 (evC 2 (aC (ev2 (vr 0) (kd (.int 1)) ixD) (aC (ev2 (vr 0) (kd (.int 2)) ixD) aN)) qT)) (seqO (sSet 5 (vr 3)) (seqO (sIf (tV (ev2 (vr 2) (kd (.int 0)) neD)) (sSet 5 (evC 3 (aC (evA (aC (kd (.int 0)) (aC (kd (.int 0)) (aC (kd (.int 0)) aN))) tupD) (aC (vr 2) (aC (vr 4) aN))) q9)) sN) (seqO (sSet 6 (evC 2 (aC (vr 3) (aC (vr 4) aN)) qT)) (seqO (yh 7 (evA (aC (evC 3 (aC (evC 3 (aC (ev2 (vr 0) (kd (.int 0)) ixD) (aC (kd (.int 1)) (aC (vr 3) aN))) q9) (aC (kd (.int 1)) (aC (vr 5) aN))) q9) aN) lstD)) (seqO (sFor (evI (evS (vr 0) (oS (kd (.int 1))) oN) seqD) (gNm 8) (sApp 7 (evC 3 (aC (evC 3 (aC (evA (aC (kd (.int 0)) (aC (kd (.int 0)) (aC (kd (.int 0)) aN))) tupD) (aC (evC 2 (aC (vr 8) (aC (vr 3) aN)) zx) (aC (vr 5) aN))) q9) (aC (evC 2 (aC (vr 8) (aC (vr 6) aN)) zx) (aC (vr 6) aN))) q9))) (sRet (evA (aC (vr 7) aN) Z2)))))))))
def QL (ds:List PyData):Option PyData:=ob (Z4 (rho0 Jf.length ds)) outD
theorem YG (F:Fun K "_law_led" "_law_led" Tq22 f fd)(m:mg "_law_led" = some (.ref f))(b:Binds K fd ["_law_pose_here", "_law_way", "_law_bend"] [])(K__law_unit:Known P w K mg base "_law_unit" 2 2 zG)(K__law_cross:Known P w K mg base "_law_cross" 2 1 qT)(K__law_sum:Known P w K mg base "_law_sum" 3 1 q9)(K__law_dot:Known P w K mg base "_law_dot" 2 1 zx)(z_tuple:mg "tuple" = none):Known P w K mg base "_law_led" 3 3 QL:=by
 refine ⟨f,fd,["_law_pose_here", "_law_way", "_law_bend"],F.pure (k:=2) (u:=Z4) (M':=[]) qp.fs rfl (fun cdv A outer s H E hr G=>?_),m,F.kp,b⟩
 refine qx (M1:=[]) ?_ ?_
 refine qL 3 ?_ ?_ ?_ ?_ ?_ ?_ ?_
 ·exact qp.fs.nd
 ·exact (qp.loc 3 rfl)
 ·rfl
 ·rfl
 ·exact .inl rfl
 ·decide
 refine qw K__law_unit hr (by decide) (qp.gl 0 rfl rfl) ?_ rfl
 refine qb ?_ ?_
 exact qd 0 (qp.vis 0 rfl) (by decide)
 refine qb ?_ ?_
 exact qd 1 (qp.vis 1 rfl) (by decide)
 exact qg
 refine qx (M1:=[]) ?_ ?_
 refine qL 4 ?_ ?_ ?_ ?_ ?_ ?_ ?_
 ·exact qp.fs.nd
 ·exact (qp.loc 4 rfl)
 ·rfl
 ·rfl
 ·exact .inl rfl
 ·decide
 refine qw K__law_cross hr (by decide) (qp.gl 1 rfl rfl) ?_ rfl
 refine qb ?_ ?_
 refine qH ?_ ?_
 exact qd 0 (qp.vis 0 rfl) (by decide)
 exact qe
 refine qb ?_ ?_
 refine qH ?_ ?_
 exact qd 0 (qp.vis 0 rfl) (by decide)
 exact qe
 exact qg
 refine qx (M1:=[]) ?_ ?_
 refine qL 5 ?_ ?_ ?_ ?_ ?_ ?_ ?_
 ·exact qp.fs.nd
 ·exact (qp.loc 5 rfl)
 ·rfl
 ·rfl
 ·exact .inl rfl
 ·decide
 exact qd 3 (qp.vis 3 rfl) (by decide)
 refine qx (M1:=[]) ?_ ?_
 refine zm ?_ ?_ ?_
 refine zb (d_ne hr) ?_ ?_ (zy _)
 exact qd 2 (qp.vis 2 rfl) (by decide)
 exact qe
 refine qy ?_
 refine qL 5 ?_ ?_ ?_ ?_ ?_ ?_ ?_
 ·exact qp.fs.nd
 ·exact (qp.loc 5 rfl)
 ·rfl
 ·rfl
 ·exact .inl rfl
 ·decide
 refine qw K__law_sum hr (by decide) (qp.gl 2 rfl rfl) ?_ rfl
 refine qb ?_ ?_
 refine qY ?_
 refine qb ?_ ?_
 exact qe
 refine qb ?_ ?_
 exact qe
 refine qb ?_ ?_
 exact qe
 exact qg
 refine qb ?_ ?_
 exact qd 2 (qp.vis 2 rfl) (by decide)
 refine qb ?_ ?_
 exact qd 4 (qp.vis 4 rfl) (by decide)
 exact qg
 exact qU
 refine qx (M1:=[]) ?_ ?_
 refine qL 6 ?_ ?_ ?_ ?_ ?_ ?_ ?_
 ·exact qp.fs.nd
 ·exact (qp.loc 6 rfl)
 ·rfl
 ·rfl
 ·exact .inl rfl
 ·decide
 refine qw K__law_cross hr (by decide) (qp.gl 1 rfl rfl) ?_ rfl
 refine qb ?_ ?_
 exact qd 3 (qp.vis 3 rfl) (by decide)
 refine qb ?_ ?_
 exact qd 4 (qp.vis 4 rfl) (by decide)
 exact qg
 refine qx (M1:=[7]) ?_ ?_
 refine Yp 7 ?_ ?_ ?_ ?_ ?_ ?_ ?_ ?_
 ·exact qp.fs.nd
 ·exact (qp.loc 7 rfl)
 ·rfl
 ·rfl
 ·exact .inl rfl
 ·decide
 ·decide
 refine qaR ?_
 refine qb ?_ ?_
 refine qw K__law_sum hr (by decide) (qp.gl 2 rfl rfl) ?_ rfl
 refine qb ?_ ?_
 refine qw K__law_sum hr (by decide) (qp.gl 2 rfl rfl) ?_ rfl
 refine qb ?_ ?_
 refine qH ?_ ?_
 exact qd 0 (qp.vis 0 rfl) (by decide)
 exact qe
 refine qb ?_ ?_
 exact qe
 refine qb ?_ ?_
 exact qd 3 (qp.vis 3 rfl) (by decide)
 exact qg
 refine qb ?_ ?_
 exact qe
 refine qb ?_ ?_
 exact qd 5 (qp.vis 5 rfl) (by decide)
 exact qg
 exact qg
 refine qx (M1:=[7]) ?_ ?_
 refine wW PassesOwn.never rfl ?_ (fun _=>?_) (fun _=>?_)
 refine jn ?_
 refine qaE ?_ ?_ ?_
 exact qd 0 (qp.vis 0 rfl) (by decide)
 refine qaG ?_
 exact qe
 exact qaF
 exact Qf 8 qp.fs.nd (qp.loc 8 rfl) (by decide)
 refine qy ?_
 refine wU 7 (qp.vis 7 rfl) (by decide) (by decide) ?_
 refine qw K__law_sum hr (by decide) (qp.gl 2 rfl rfl) ?_ rfl
 refine qb ?_ ?_
 refine qw K__law_sum hr (by decide) (qp.gl 2 rfl rfl) ?_ rfl
 refine qb ?_ ?_
 refine qY ?_
 refine qb ?_ ?_
 exact qe
 refine qb ?_ ?_
 exact qe
 refine qb ?_ ?_
 exact qe
 exact qg
 refine qb ?_ ?_
 refine qw K__law_dot hr (by decide) (qp.gl 3 rfl rfl) ?_ rfl
 refine qb ?_ ?_
 exact qd 8 (qp.vis 8 rfl) (by decide)
 refine qb ?_ ?_
 exact qd 3 (qp.vis 3 rfl) (by decide)
 exact qg
 refine qb ?_ ?_
 exact qd 5 (qp.vis 5 rfl) (by decide)
 exact qg
 refine qb ?_ ?_
 refine qw K__law_dot hr (by decide) (qp.gl 3 rfl rfl) ?_ rfl
 refine qb ?_ ?_
 exact qd 8 (qp.vis 8 rfl) (by decide)
 refine qb ?_ ?_
 exact qd 6 (qp.vis 6 rfl) (by decide)
 exact qg
 refine qb ?_ ?_
 exact qd 6 (qp.vis 6 rfl) (by decide)
 exact qg
 refine qy ?_
 refine qC ?_
 refine ZQ j6 (qp.gl 4 rfl rfl) z_tuple rfl ?_
 refine qb ?_ ?_
 exact qd 7 (qp.vis 7 rfl) (by decide)
 exact qg
abbrev Tq15:Stmt:=top 41
abbrev Zo:List Str:=["_law_cell_here", "_law_far", "_law_units", "_law_right", "_law_up", "_law_out", "_law_spot", "_law_axis", "_law_number"]
theorem qt:ScOk Zo ["_law_cell_here", "_law_far"] ["_law_cross", "abs", "range", "tuple"] (qj Tq15):=scmk (by kernel_rfl)
def ZJ:Rho->Option Out:=(seqO (sSet 2 (evA (aC (evA (aC (kd (.int 1)) (aC (kd (.int 0)) (aC (kd (.int 0)) aN))) tupD) (aC (evA (aC (ev1 (kd (.int 1)) negD) (aC (kd (.int 0)) (aC (kd (.int 0)) aN))) tupD) (aC (evA (aC (kd (.int 0)) (aC (kd (.int 1)) (aC (kd (.int 0)) aN))) tupD) (aC (evA (aC (kd (.int 0)) (aC (ev1 (kd (.int 1)) negD) (aC (kd (.int 0)) aN))) tupD) (aC (evA (aC (kd (.int 0)) (aC (kd (.int 0)) (aC (kd (.int 1)) aN))) tupD) (aC (evA (aC (kd (.int 0)) (aC (kd (.int 0)) (aC (ev1 (kd (.int 1)) negD) aN))) tupD) aN)))))) lstD)) (seqO (sSet 3 (ev2 (vr 2) (ev2 (vr 0) (kd (.int 6)) modD) ixD)) (seqO (sSet 4 (ev2 (ZW 9 (evI (vr 2) seqD) (tV (ev2 (evC 2 (aC (vr 9) (aC (vr 3) aN)) zx) (kd (.int 0)) eqD)) (vr 9)) (ev2 (ev2 (vr 0) (kd (.int 6)) QX) (kd (.int 4)) modD) ixD)) (seqO (sSet 5 (evC 2 (aC (vr 3) (aC (vr 4) aN)) qT)) (seqO (yh 6 (evA aN lstD)) (seqO (sFor (evR (aC (kd (.int 3)) aN) jt) (gNm 7) (seqO (sSet 8 (ev2 (ev2 (ev2 (vr 1) (ev2 (kd (.int 3)) (ev2 (kd (.int 4)) (vr 7) mulD) zz) QX) (kd (.int 9)) modD) (kd (.int 4)) subD)) (seqO (sIf (tV (ev2 (ev2 (vr 1) (kd (.int 3)) modD) (kd (.int 1)) eqD)) (sSet 8 (ev2 (ev2 (ev2 (vr 1) (ev2 (kd (.int 3)) (ev2 (kd (.int 4)) (vr 7) mulD) zz) QX) (ev2 (kd (.int 10)) (kd (.int 29)) powD) modD) (ev2 (kd (.int 10)) (kd (.int 28)) powD) subD)) sN) (sApp 6 (ev2 (ev2 (ev2 (kd (.int 2)) (vr 8) mulD) (kd (.int 1)) zz) (evA (aC (ev2 (vr 5) (vr 7) ixD) aN) absD) subD))))) (sRet (evA (aC (evA (aC (vr 6) aN) Z2) (aC (vr 3) (aC (vr 4) aN))) tupD))))))))
def Qm (ds:List PyData):Option PyData:=ob (ZJ (rho0 Zo.length ds)) outD
theorem Yc (F:Fun K "_law_pose" "_law_pose" Tq15 f fd)(m:mg "_law_pose" = some (.ref f))(b:Binds K fd ["_law_cell_here", "_law_far"] [])(K__law_dot:Known P w K mg base "_law_dot" 2 1 zx)(K__law_cross:Known P w K mg base "_law_cross" 2 1 qT)(z_abs:mg "abs" = none)(z_range:mg "range" = none)(z_tuple:mg "tuple" = none):Known P w K mg base "_law_pose" 2 2 Qm:=by
 refine ⟨f,fd,["_law_cell_here", "_law_far"],F.pure (k:=1) (u:=ZJ) (M':=[]) qt.fs rfl (fun cdv A outer s H E hr G=>?_),m,F.kp,b⟩
 refine qx (M1:=[]) ?_ ?_
 refine qL 2 ?_ ?_ ?_ ?_ ?_ ?_ ?_
 ·exact qt.fs.nd
 ·exact (qt.loc 2 rfl)
 ·rfl
 ·rfl
 ·exact .inl rfl
 ·decide
 refine JC ?_
 refine qb ?_ ?_
 refine qY ?_
 refine qb ?_ ?_
 exact qe
 refine qb ?_ ?_
 exact qe
 refine qb ?_ ?_
 exact qe
 exact qg
 refine qb ?_ ?_
 refine qY ?_
 refine qb ?_ ?_
 refine Zh Zg ?_
 exact qe
 refine qb ?_ ?_
 exact qe
 refine qb ?_ ?_
 exact qe
 exact qg
 refine qb ?_ ?_
 refine qY ?_
 refine qb ?_ ?_
 exact qe
 refine qb ?_ ?_
 exact qe
 refine qb ?_ ?_
 exact qe
 exact qg
 refine qb ?_ ?_
 refine qY ?_
 refine qb ?_ ?_
 exact qe
 refine qb ?_ ?_
 refine Zh Zg ?_
 exact qe
 refine qb ?_ ?_
 exact qe
 exact qg
 refine qb ?_ ?_
 refine qY ?_
 refine qb ?_ ?_
 exact qe
 refine qb ?_ ?_
 exact qe
 refine qb ?_ ?_
 exact qe
 exact qg
 refine qb ?_ ?_
 refine qY ?_
 refine qb ?_ ?_
 exact qe
 refine qb ?_ ?_
 exact qe
 refine qb ?_ ?_
 refine Zh Zg ?_
 exact qe
 exact qg
 exact qg
 refine qx (M1:=[]) ?_ ?_
 refine qL 3 ?_ ?_ ?_ ?_ ?_ ?_ ?_
 ·exact qt.fs.nd
 ·exact (qt.loc 3 rfl)
 ·rfl
 ·rfl
 ·exact .inl rfl
 ·decide
 refine qH ?_ ?_
 exact qd 2 (qt.vis 2 rfl) (by decide)
 refine qD QV ?_ ?_
 exact qd 0 (qt.vis 0 rfl) (by decide)
 exact qe
 refine qx (M1:=[]) ?_ ?_
 refine qL 4 ?_ ?_ ?_ ?_ ?_ ?_ ?_
 ·exact qt.fs.nd
 ·exact (qt.loc 4 rfl)
 ·rfl
 ·rfl
 ·exact .inl rfl
 ·decide
 refine qH ?_ ?_
 refine jm (CompOk.of (k:=1) Zo ["_law_cell_here", "_law_far", "_law_units", "_law_right", "_law_up", "_law_out", "_law_spot", "_law_axis", "_law_number", "_law_unit_here"] (qj Tq15) rfl rfl rfl (by decide +kernel)) rfl (by decide +kernel) ?_ (fun _ _ _ _ _ _=>?_) (fun _ _ _ _ _ _=>?_)
 refine jn ?_
 exact qd 2 (qt.vis 2 rfl) (by decide)
 refine qaI ?_
 refine zb (d_eq hr) ?_ ?_ (zy _)
 refine qw K__law_dot hr (by decide) (yw (by decide +kernel)) ?_ rfl
 refine qb ?_ ?_
 exact qd 9 (qR (by decide +kernel)) (by decide)
 refine qb ?_ ?_
 exact qd 3 (qR (by decide +kernel)) (by decide)
 exact qg
 exact qe
 exact qd 9 (qR (by decide +kernel)) (by decide)
 refine qD QV ?_ ?_
 refine qD Zv ?_ ?_
 exact qd 0 (qt.vis 0 rfl) (by decide)
 exact qe
 exact qe
 refine qx (M1:=[]) ?_ ?_
 refine qL 5 ?_ ?_ ?_ ?_ ?_ ?_ ?_
 ·exact qt.fs.nd
 ·exact (qt.loc 5 rfl)
 ·rfl
 ·rfl
 ·exact .inl rfl
 ·decide
 refine qw K__law_cross hr (by decide) (qt.gl 0 rfl rfl) ?_ rfl
 refine qb ?_ ?_
 exact qd 3 (qt.vis 3 rfl) (by decide)
 refine qb ?_ ?_
 exact qd 4 (qt.vis 4 rfl) (by decide)
 exact qg
 refine qx (M1:=[6]) ?_ ?_
 refine Yp 6 ?_ ?_ ?_ ?_ ?_ ?_ ?_ ?_
 ·exact qt.fs.nd
 ·exact (qt.loc 6 rfl)
 ·rfl
 ·rfl
 ·exact .inl rfl
 ·decide
 ·decide
 refine qaR ?_
 exact qg
 refine qx (M1:=[6]) ?_ ?_
 refine qaH PassesOwn.never rfl ?_ ?_ ?_
 refine YW (qt.gl 2 rfl rfl) z_range ?_
 refine qb ?_ ?_
 exact qe
 exact qg
 exact Qf 7 qt.fs.nd (qt.loc 7 rfl) (by decide)
 refine qx (M1:=[6]) ?_ ?_
 refine qL 8 ?_ ?_ ?_ ?_ ?_ ?_ ?_
 ·exact qt.fs.nd
 ·exact (qt.loc 8 rfl)
 ·rfl
 ·rfl
 ·exact .inl rfl
 ·decide
 refine qD Q4 ?_ ?_
 refine qD QV ?_ ?_
 refine qD Zv ?_ ?_
 exact qd 1 (qt.vis 1 rfl) (by decide)
 refine qD zO ?_ ?_
 exact qe
 refine qD zq ?_ ?_
 exact qe
 exact qd 7 (qt.vis 7 rfl) (by decide)
 exact qe
 exact qe
 refine qx (M1:=[6]) ?_ ?_
 refine zm ?_ ?_ ?_
 refine zb (d_eq hr) ?_ ?_ (zy _)
 refine qD QV ?_ ?_
 exact qd 1 (qt.vis 1 rfl) (by decide)
 exact qe
 exact qe
 refine qy ?_
 refine qL 8 ?_ ?_ ?_ ?_ ?_ ?_ ?_
 ·exact qt.fs.nd
 ·exact (qt.loc 8 rfl)
 ·rfl
 ·rfl
 ·exact .inl rfl
 ·decide
 refine qD Q4 ?_ ?_
 refine qD QV ?_ ?_
 refine qD Zv ?_ ?_
 exact qd 1 (qt.vis 1 rfl) (by decide)
 refine qD zO ?_ ?_
 exact qe
 refine qD zq ?_ ?_
 exact qe
 exact qd 7 (qt.vis 7 rfl) (by decide)
 refine qD wB ?_ ?_
 exact qe
 exact qe
 refine qD wB ?_ ?_
 exact qe
 exact qe
 exact qU
 refine qy ?_
 refine wU 6 (qt.vis 6 rfl) (by decide) (by decide) ?_
 refine qD Q4 ?_ ?_
 refine qD zO ?_ ?_
 refine qD zq ?_ ?_
 exact qe
 exact qd 8 (qt.vis 8 rfl) (by decide)
 exact qe
 refine Q5 b_abs (qt.gl 1 rfl rfl) z_abs We ?_
 refine qb ?_ ?_
 refine qH ?_ ?_
 exact qd 5 (qt.vis 5 rfl) (by decide)
 exact qd 7 (qt.vis 7 rfl) (by decide)
 exact qg
 refine qy ?_
 refine qC ?_
 refine qY ?_
 refine qb ?_ ?_
 refine ZQ j6 (qt.gl 3 rfl rfl) z_tuple rfl ?_
 refine qb ?_ ?_
 exact qd 6 (qt.vis 6 rfl) (by decide)
 exact qg
 refine qb ?_ ?_
 exact qd 3 (qt.vis 3 rfl) (by decide)
 refine qb ?_ ?_
 exact qd 4 (qt.vis 4 rfl) (by decide)
 exact qg
abbrev Tq3:Stmt:=top 42
abbrev QH:List Str:=["_law_thing_here"]
theorem qX:ScOk QH ["_law_thing_here"] ["isinstance", "tuple", "len", "all"] (qj Tq3):=scmk (by kernel_rfl)
def ZG:Rho->Option Out:=(seqO (sIf (tO (tN (tV (ev1 (vr 0) (isiD "tuple")))) (tV (ev2 (evA (aC (vr 0) aN) lenD) (kd (.int 3)) neD))) (sRet (kd (.bool false))) sN) (sRet (evA (aC (ZW 1 (evI (vr 0) seqD) tT (evC 1 (aC (vr 1) aN) zf)) aN) allD)))
def zp (ds:List PyData):Option PyData:=ob (ZG (rho0 QH.length ds)) outD
theorem Jv (F:Fun K "_law_is_spot" "_law_is_spot" Tq3 f fd)(m:mg "_law_is_spot" = some (.ref f))(b:Binds K fd ["_law_thing_here"] [])(K__law_whole:Known P w K mg base "_law_whole" 1 1 zf)(z_isinstance:mg "isinstance" = none)(z_tuple:mg "tuple" = none)(z_len:mg "len" = none)(z_all:mg "all" = none):Known P w K mg base "_law_is_spot" 1 2 zp:=by
 refine ⟨f,fd,["_law_thing_here"],F.pure (k:=1) (u:=ZG) (M':=[]) qX.fs rfl (fun cdv A outer s H E hr G=>?_),m,F.kp,b⟩
 refine qx (M1:=[]) ?_ ?_
 refine zm ?_ ?_ ?_
 refine PDW.pdt ?_
 refine Zz ?_ ?_
 refine Qg ?_
 refine zM ?_
 refine jD (T := "tuple") (kit_tuple _) (qX.gl 0 rfl rfl) z_isinstance (qX.gl 1 rfl rfl) z_tuple rfl rfl ?_
 exact qd 0 (qX.vis 0 rfl) (by decide)
 refine ZS ?_
 refine zb (d_ne hr) ?_ ?_ (zy _)
 refine Q5 W0 (qX.gl 2 rfl rfl) z_len PySem.boot_len ?_
 refine qb ?_ ?_
 exact qd 0 (qX.vis 0 rfl) (by decide)
 exact qg
 exact qe
 refine qy ?_
 refine qC ?_
 exact Zx
 exact qU
 refine qy ?_
 refine qC ?_
 refine Q5 (qcm rfl) (qX.gl 3 rfl rfl) z_all rfl ?_
 refine qb ?_ ?_
 refine jm (CompOk.of (k:=1) QH ["_law_thing_here", "_law_number"] (qj Tq3) rfl rfl rfl (by decide +kernel)) rfl (by decide +kernel) ?_ (fun _ _ _ _ _ _=>?_) (fun _ _ _ _ _ _=>?_)
 refine jn ?_
 exact qd 0 (qX.vis 0 rfl) (by decide)
 exact jo
 refine qw K__law_whole hr (by decide) (yw (by decide +kernel)) ?_ rfl
 refine qb ?_ ?_
 exact qd 1 (qR (by decide +kernel)) (by decide)
 exact qg
 exact qg
abbrev Tq4:Stmt:=top 43
abbrev QG:List Str:=["_law_thing_here"]
theorem qW:ScOk QG ["_law_thing_here"] ["isinstance", "tuple", "len", "all"] (qj Tq4):=scmk (by kernel_rfl)
def ZF:Rho->Option Out:=(seqO (sIf (tO (tN (tV (ev1 (vr 0) (isiD "tuple")))) (tV (ev2 (evA (aC (vr 0) aN) lenD) (kd (.int 3)) neD))) (sRet (kd (.bool false))) sN) (sRet (evA (aC (ZW 1 (evI (vr 0) seqD) tT (evC 1 (aC (vr 1) aN) zp)) aN) allD)))
def zF (ds:List PyData):Option PyData:=ob (ZF (rho0 QG.length ds)) outD
theorem Ju (F:Fun K "_law_is_pose" "_law_is_pose" Tq4 f fd)(m:mg "_law_is_pose" = some (.ref f))(b:Binds K fd ["_law_thing_here"] [])(K__law_is_spot:Known P w K mg base "_law_is_spot" 1 2 zp)(z_isinstance:mg "isinstance" = none)(z_tuple:mg "tuple" = none)(z_len:mg "len" = none)(z_all:mg "all" = none):Known P w K mg base "_law_is_pose" 1 3 zF:=by
 refine ⟨f,fd,["_law_thing_here"],F.pure (k:=2) (u:=ZF) (M':=[]) qW.fs rfl (fun cdv A outer s H E hr G=>?_),m,F.kp,b⟩
 refine qx (M1:=[]) ?_ ?_
 refine zm ?_ ?_ ?_
 refine PDW.pdt ?_
 refine Zz ?_ ?_
 refine Qg ?_
 refine zM ?_
 refine jD (T := "tuple") (kit_tuple _) (qW.gl 0 rfl rfl) z_isinstance (qW.gl 1 rfl rfl) z_tuple rfl rfl ?_
 exact qd 0 (qW.vis 0 rfl) (by decide)
 refine ZS ?_
 refine zb (d_ne hr) ?_ ?_ (zy _)
 refine Q5 W0 (qW.gl 2 rfl rfl) z_len PySem.boot_len ?_
 refine qb ?_ ?_
 exact qd 0 (qW.vis 0 rfl) (by decide)
 exact qg
 exact qe
 refine qy ?_
 refine qC ?_
 exact Zx
 exact qU
 refine qy ?_
 refine qC ?_
 refine Q5 (qcm rfl) (qW.gl 3 rfl rfl) z_all rfl ?_
 refine qb ?_ ?_
 refine jm (CompOk.of (k:=1) QG ["_law_thing_here", "_law_spot"] (qj Tq4) rfl rfl rfl (by decide +kernel)) rfl (by decide +kernel) ?_ (fun _ _ _ _ _ _=>?_) (fun _ _ _ _ _ _=>?_)
 refine jn ?_
 exact qd 0 (qW.vis 0 rfl) (by decide)
 exact jo
 refine qw K__law_is_spot hr (by decide) (yw (by decide +kernel)) ?_ rfl
 refine qb ?_ ?_
 exact qd 1 (qR (by decide +kernel)) (by decide)
 exact qg
 exact qg
abbrev Tq9:Stmt:=top 44
abbrev jc:List Str:=["_law_cell_here", "_law_some"]
theorem q8:ScOk jc ["_law_cell_here"] [] (qj Tq9):=scmk (by kernel_rfl)
def Ze:Rho->Option Out:=(seqO (sIf (tV (ev2 (ev2 (vr 0) (kd (.int 3)) modD) (kd (.int 0)) eqD)) (sRet (ev2 (ev2 (ev2 (vr 0) (kd (.int 3)) QX) (kd (.int 9)) modD) (kd (.int 4)) subD)) sN) (seqO (sIf (tV (ev2 (ev2 (vr 0) (kd (.int 3)) modD) (kd (.int 1)) eqD)) (sRet (ev2 (ev2 (ev2 (vr 0) (kd (.int 3)) QX) (ev2 (ev2 (kd (.int 2)) (ev2 (kd (.int 10)) (kd (.int 30)) powD) mulD) (kd (.int 1)) zz) modD) (ev2 (kd (.int 10)) (kd (.int 30)) powD) subD)) sN) (seqO (sSet 1 (evA (aC (kd (.bool true)) (aC (kd (.bool false)) (aC (kd .none) (aC (kd (.str "")) (aC (kd (.str "0")) (aC (kd (.str "up")) (aC (evA aN lstD) (aC (evA (aC (kd (.int 1)) aN) lstD) (aC (evA aN tupD) (aC (evA (aC (kd (.int 0)) aN) tupD) (aC (kd (.dict [])) (aC (ev2 (kd (.int 1)) (kd (.int 0)) yS) (aC (kd (.str "-1")) (aC (evA (aC (ev1 (kd (.int 1)) negD) (aC (kd (.int 0)) (aC (kd (.int 1)) aN))) tupD) aN)))))))))))))) lstD)) (sRet (ev2 (vr 1) (ev2 (ev2 (vr 0) (kd (.int 3)) QX) (kd (.int 14)) modD) ixD)))))
def Qe (ds:List PyData):Option PyData:=ob (Ze (rho0 jc.length ds)) outD
theorem yD (F:Fun K "_law_thing" "_law_thing" Tq9 f fd)(m:mg "_law_thing" = some (.ref f))(b:Binds K fd ["_law_cell_here"] []):Known P w K mg base "_law_thing" 1 1 Qe:=by
 refine ⟨f,fd,["_law_cell_here"],F.pure (k:=0) (u:=Ze) (M':=[]) q8.fs rfl (fun cdv A outer s H E hr G=>?_),m,F.kp,b⟩
 refine qx (M1:=[]) ?_ ?_
 refine zm ?_ ?_ ?_
 refine zb (d_eq hr) ?_ ?_ (zy _)
 refine qD QV ?_ ?_
 exact qd 0 (q8.vis 0 rfl) (by decide)
 exact qe
 exact qe
 refine qy ?_
 refine qC ?_
 refine qD Q4 ?_ ?_
 refine qD QV ?_ ?_
 refine qD Zv ?_ ?_
 exact qd 0 (q8.vis 0 rfl) (by decide)
 exact qe
 exact qe
 exact qe
 exact qU
 refine qx (M1:=[]) ?_ ?_
 refine zm ?_ ?_ ?_
 refine zb (d_eq hr) ?_ ?_ (zy _)
 refine qD QV ?_ ?_
 exact qd 0 (q8.vis 0 rfl) (by decide)
 exact qe
 exact qe
 refine qy ?_
 refine qC ?_
 refine qD Q4 ?_ ?_
 refine qD QV ?_ ?_
 refine qD Zv ?_ ?_
 exact qd 0 (q8.vis 0 rfl) (by decide)
 exact qe
 refine qD zO ?_ ?_
 refine qD zq ?_ ?_
 exact qe
 refine qD wB ?_ ?_
 exact qe
 exact qe
 exact qe
 refine qD wB ?_ ?_
 exact qe
 exact qe
 exact qU
 refine qx (M1:=[]) ?_ ?_
 refine qL 1 ?_ ?_ ?_ ?_ ?_ ?_ ?_
 ·exact q8.fs.nd
 ·exact (q8.loc 1 rfl)
 ·rfl
 ·rfl
 ·exact .inl rfl
 ·decide
 refine JC ?_
 refine qb ?_ ?_
 exact Zx
 refine qb ?_ ?_
 exact Zx
 refine qb ?_ ?_
 exact qaD
 refine qb ?_ ?_
 exact JD
 refine qb ?_ ?_
 exact JD
 refine qb ?_ ?_
 exact JD
 refine qb ?_ ?_
 refine JC ?_
 exact qg
 refine qb ?_ ?_
 refine JC ?_
 refine qb ?_ ?_
 exact qe
 exact qg
 refine qb ?_ ?_
 refine qY ?_
 exact qg
 refine qb ?_ ?_
 refine qY ?_
 refine qb ?_ ?_
 exact qe
 exact qg
 refine qb ?_ ?_
 exact Yn qaP
 refine qb ?_ ?_
 refine Yn ?_
 refine qaQ ?_ ?_
 exact qe
 exact qe
 refine qb ?_ ?_
 exact JD
 refine qb ?_ ?_
 refine qY ?_
 refine qb ?_ ?_
 refine Zh Zg ?_
 exact qe
 refine qb ?_ ?_
 exact qe
 refine qb ?_ ?_
 exact qe
 exact qg
 exact qg
 refine qy ?_
 refine qC ?_
 refine qH ?_ ?_
 exact qd 1 (q8.vis 1 rfl) (by decide)
 refine qD QV ?_ ?_
 refine qD Zv ?_ ?_
 exact qd 0 (q8.vis 0 rfl) (by decide)
 exact qe
 exact qe
abbrev Tq10:Stmt:=top 45
abbrev Z9:List Str:=["_law_refusal"]
theorem qF:ScOk Z9 ["_law_refusal"] ["NoTurn", "NoTree", "NoSquare", "NoSolid", "NoSheet", "NoRow", "NoName", "NoDrawing", "Crowded", "isinstance", "TooMany", "NoWay", "NotClosed", "NoBend", "ValueError"] (qj Tq10):=scmk (by kernel_rfl)
def jw:Rho->Option Out:=(seqO (sIf (tV (ev1 (vr 0) (isiN XS ["Crowded", "NoDrawing", "NoName", "NoRow", "NoSheet", "NoSolid", "NoSquare", "NoTree", "NoTurn"]))) (sRet (kd (.bool false))) sN) (seqO (sIf (tV (ev1 (vr 0) (isiN XS ["NotClosed", "NoWay", "TooMany"]))) (sRet (kd (.bool false))) sN) (sRet (vA (ev1 (vr 0) (isiN XS ["NoBend"])) (ev1 (vr 0) (isiN XS ["ValueError"]))))))
def Qv (ds:List PyData):Option PyData:=ob (jw (rho0 Z9.length ds)) outD
theorem yz (F:Fun K "_law_alone" "_law_alone" Tq10 f fd)(m:mg "_law_alone" = some (.ref f))(b:Binds K fd ["_law_refusal"] [])(z_isinstance:mg "isinstance" = none)(z_ValueError:mg "ValueError" = none)(XT:XTab K mg XS):KnownM P w K mg base "_law_alone" 1 1 Qv:=by
 refine ⟨f,fd,["_law_refusal"],F.pureM (k:=0) (u:=jw) (M':=[]) qF.fs rfl (fun cdv A outer s H E hr G=>?_),m,F.kp,b⟩
 refine qx (M1:=[]) ?_ ?_
 refine zm ?_ ?_ ?_
 refine zM ?_
 refine j9 XT (qF.gl 9 rfl rfl) z_isinstance rfl ?_ (wQ (zA XT (qF.gl 8 rfl rfl) (zA XT (qF.gl 7 rfl rfl) (zA XT (qF.gl 6 rfl rfl) (zA XT (qF.gl 5 rfl rfl) (zA XT (qF.gl 4 rfl rfl) (zA XT (qF.gl 3 rfl rfl) (zA XT (qF.gl 2 rfl rfl) (zA XT (qF.gl 1 rfl rfl) (zA XT (qF.gl 0 rfl rfl) Ym))))))))))
 exact qd 0 (qF.vis 0 rfl) (by decide)
 refine qy ?_
 refine qC ?_
 exact Zx
 exact qU
 refine qx (M1:=[]) ?_ ?_
 refine zm ?_ ?_ ?_
 refine zM ?_
 refine j9 XT (qF.gl 9 rfl rfl) z_isinstance rfl ?_ (wQ (zA XT (qF.gl 12 rfl rfl) (zA XT (qF.gl 11 rfl rfl) (zA XT (qF.gl 10 rfl rfl) Ym))))
 exact qd 0 (qF.vis 0 rfl) (by decide)
 refine qy ?_
 refine qC ?_
 exact Zx
 exact qU
 refine qy ?_
 refine qC ?_
 refine QM ?_ ?_
 refine j9 XT (qF.gl 9 rfl rfl) z_isinstance rfl ?_ (qbR XT (qF.gl 13 rfl rfl))
 exact qd 0 (qF.vis 0 rfl) (by decide)
 refine Zy ?_
 refine j9 XT (qF.gl 9 rfl rfl) z_isinstance rfl ?_ (qbQ (T := "ValueError") (by decide) (qF.gl 14 rfl rfl) z_ValueError rfl)
 exact qd 0 (qF.vis 0 rfl) (by decide)
abbrev Tq0:Stmt:=top 46
abbrev Qq:List Str:=["_law_thing_here", "_law_found", "_law_refused", "_law_e", "_law_good"]
theorem qi:ScOk Qq ["_law_thing_here"] ["join_of", "_law_alone", "SheetError", "_law_whole", "isinstance", "Join"] (qj Tq0):=scmk (by kernel_rfl)
theorem Zb:(qj Tq0).names.lookup ("_law_e" : Str)=some NameKind.local:=by decide +kernel
def zP:Rho->Option Out:=(seqO (sSet 1 (kd .none)) (seqO (sSet 2 (kd (.bool false))) (seqO (sTry (sSet 1 (evC 1 (aC (vr 0) aN) Qy)) (Yt 1 (aC (vr 0) aN) Qj) ["SheetError", "NoDrawing", "NoBend", "NoSquare", "TooMany", "NoTurn", "NoRow", "NoName", "NotClosed", "NoSheet", "NoSolid", "NoTree", "NoWay", "Crowded"] 3 (sSet 2 (evC 1 (aC (vr 3) aN) Qv))) (seqO (sSet 4 (vA (evC 1 (aC (vr 0) aN) zf) (evCh (ev1 (kd (.int 1)) negD) (vr 0) (kd (.int 1)) leD leD))) (sRet (ev2 (evA (aC (ev1 (vr 1) (isiC CS "Join")) (aC (vr 2) aN)) tupD) (evA (aC (vr 4) (aC (vN (vr 4)) aN)) tupD) eqD))))))
def qK (ds:List PyData):Option PyData:=ob (zP (rho0 Qq.length ds)) outD
theorem ZV (F:Fun K "_law_refused_well" "_law_refused_well" Tq0 f fd)(m:mg "_law_refused_well" = some (.ref f))(b:Binds K fd ["_law_thing_here"] [])(K_join_of:Known P w K mg base "join_of" 1 3 Qy)(K__law_alone:KnownM P w K mg base "_law_alone" 1 1 Qv)(K__law_whole:Known P w K mg base "_law_whole" 1 1 zf)(z_isinstance:mg "isinstance" = none)(CT:CTab K mg CS)(XT:XTab K mg XS)(R_join_of:KnownR P w K mg base "join_of" 1 3 Qj):Known P w K mg base "_law_refused_well" 1 4 qK:=by
 refine ⟨f,fd,["_law_thing_here"],F.pure (k:=3) (u:=zP) (M':=[]) qi.fs rfl (fun cdv A outer s H E hr G=>?_),m,F.kp,b⟩
 refine qx (M1:=[]) ?_ ?_
 refine qL 1 ?_ ?_ ?_ ?_ ?_ ?_ ?_
 ·exact qi.fs.nd
 ·exact (qi.loc 1 rfl)
 ·rfl
 ·rfl
 ·exact .inl rfl
 ·decide
 exact qaD
 refine qx (M1:=[]) ?_ ?_
 refine qL 2 ?_ ?_ ?_ ?_ ?_ ?_ ?_
 ·exact qi.fs.nd
 ·exact (qi.loc 2 rfl)
 ·rfl
 ·rfl
 ·exact .inl rfl
 ·decide
 exact Zx
 refine qx (M1:=[]) ?_ ?_
 refine qbV (Mx:=[]) (cs:=["SheetError", "NoDrawing", "NoBend", "NoSquare", "TooMany", "NoTurn", "NoRow", "NoName", "NotClosed", "NoSheet", "NoSolid", "NoTree", "NoWay", "Crowded"]) ?_ ?_ (fun _=>?_) qi.fs.nd Zb (by decide) (by decide) (by decide) (qi.gl 2 rfl rfl) (XT.mg1 (by decide +kernel)) (XT.cat1 (by decide +kernel)) (XT.cs1 (by decide +kernel) (by decide +kernel)) rfl rfl rfl
 refine qy ?_
 refine qL 1 ?_ ?_ ?_ ?_ ?_ ?_ ?_
 ·exact qi.fs.nd
 ·exact (qi.loc 1 rfl)
 ·rfl
 ·rfl
 ·exact .inl rfl
 ·decide
 refine qw K_join_of hr (by decide) (qi.gl 0 rfl rfl) ?_ rfl
 refine qb ?_ ?_
 exact qd 0 (qi.vis 0 rfl) (by decide)
 exact qg
 refine wX ?_
 refine qbW R_join_of hr (by decide) (qi.gl 0 rfl rfl) ?_
 refine qb ?_ ?_
 exact qd 0 (qi.vis 0 rfl) (by decide)
 exact qg
 refine qy ?_
 refine qL 2 ?_ ?_ ?_ ?_ ?_ ?_ ?_
 ·exact qi.fs.nd
 ·exact (qi.loc 2 rfl)
 ·rfl
 ·rfl
 ·exact .inl rfl
 ·decide
 refine WL K__law_alone (hr.m _) (by decide) (qi.gl 1 rfl rfl) ?_ rfl
 refine qb ?_ ?_
 exact qd 3 (qi.vis 3 rfl) (by decide)
 exact qg
 refine qx (M1:=[]) ?_ ?_
 refine qL 4 ?_ ?_ ?_ ?_ ?_ ?_ ?_
 ·exact qi.fs.nd
 ·exact (qi.loc 4 rfl)
 ·rfl
 ·rfl
 ·exact .inl rfl
 ·decide
 refine QM ?_ ?_
 refine qw K__law_whole hr (by decide) (qi.gl 3 rfl rfl) ?_ rfl
 refine qb ?_ ?_
 exact qd 0 (qi.vis 0 rfl) (by decide)
 exact qg
 refine Zy ?_
 refine qaz d_le d_le ?_ ?_ ?_
 refine Zh Zg ?_
 exact qe
 exact qd 0 (qi.vis 0 rfl) (by decide)
 exact qe
 refine qy ?_
 refine qC ?_
 refine qaA (d_eq hr) ?_ ?_ (zy _)
 refine qY ?_
 refine qb ?_ ?_
 refine Qk CT (qi.gl 4 rfl rfl) z_isinstance rfl ?_ (qi.gl 5 rfl rfl)
 exact qd 1 (qi.vis 1 rfl) (by decide)
 refine qb ?_ ?_
 exact qd 2 (qi.vis 2 rfl) (by decide)
 exact qg
 refine qY ?_
 refine qb ?_ ?_
 exact qd 4 (qi.vis 4 rfl) (by decide)
 refine qb ?_ ?_
 refine Z1 ?_
 exact qd 4 (qi.vis 4 rfl) (by decide)
 exact qg
abbrev Tq1:Stmt:=top 47
abbrev Zf:List Str:=["_law_join", "_law_bend"]
theorem qm:ScOk Zf ["_law_join", "_law_bend"] ["isinstance", "Up", "Join", "Down"] (qj Tq1):=scmk (by kernel_rfl)
def Zi:Rho->Option Out:=(seqO (sIf (tV (ev2 (vr 1) (kd (.int 1)) eqD)) (sRet (vA (ev1 (vr 0) (isiC CS "Up")) (vA (ev1 (vr 0) (isiC CS "Join")) (vN (ev1 (vr 0) (isiC CS "Down")))))) sN) (seqO (sIf (tV (ev2 (vr 1) (ev1 (kd (.int 1)) negD) eqD)) (sRet (vA (ev1 (vr 0) (isiC CS "Down")) (vA (ev1 (vr 0) (isiC CS "Join")) (vN (ev1 (vr 0) (isiC CS "Up")))))) sN) (sRet (vA (ev1 (vr 0) (isiC CS "Join")) (vA (vN (ev1 (vr 0) (isiC CS "Up"))) (vN (ev1 (vr 0) (isiC CS "Down"))))))))
def zR (ds:List PyData):Option PyData:=ob (Zi (rho0 Zf.length ds)) outD
theorem j5 (F:Fun K "_law_of_class" "_law_of_class" Tq1 f fd)(m:mg "_law_of_class" = some (.ref f))(b:Binds K fd ["_law_join", "_law_bend"] [])(z_isinstance:mg "isinstance" = none)(CT:CTab K mg CS):Known P w K mg base "_law_of_class" 2 1 zR:=by
 refine ⟨f,fd,["_law_join", "_law_bend"],F.pure (k:=0) (u:=Zi) (M':=[]) qm.fs rfl (fun cdv A outer s H E hr G=>?_),m,F.kp,b⟩
 refine qx (M1:=[]) ?_ ?_
 refine zm ?_ ?_ ?_
 refine zb (d_eq hr) ?_ ?_ (zy _)
 exact qd 1 (qm.vis 1 rfl) (by decide)
 exact qe
 refine qy ?_
 refine qC ?_
 refine QM ?_ ?_
 refine Qk CT (qm.gl 0 rfl rfl) z_isinstance rfl ?_ (qm.gl 1 rfl rfl)
 exact qd 0 (qm.vis 0 rfl) (by decide)
 refine QM ?_ ?_
 refine Qk CT (qm.gl 0 rfl rfl) z_isinstance rfl ?_ (qm.gl 2 rfl rfl)
 exact qd 0 (qm.vis 0 rfl) (by decide)
 refine Zy ?_
 refine Z1 ?_
 refine Qk CT (qm.gl 0 rfl rfl) z_isinstance rfl ?_ (qm.gl 3 rfl rfl)
 exact qd 0 (qm.vis 0 rfl) (by decide)
 exact qU
 refine qx (M1:=[]) ?_ ?_
 refine zm ?_ ?_ ?_
 refine zb (d_eq hr) ?_ ?_ (zy _)
 exact qd 1 (qm.vis 1 rfl) (by decide)
 refine Zh Zg ?_
 exact qe
 refine qy ?_
 refine qC ?_
 refine QM ?_ ?_
 refine Qk CT (qm.gl 0 rfl rfl) z_isinstance rfl ?_ (qm.gl 3 rfl rfl)
 exact qd 0 (qm.vis 0 rfl) (by decide)
 refine QM ?_ ?_
 refine Qk CT (qm.gl 0 rfl rfl) z_isinstance rfl ?_ (qm.gl 2 rfl rfl)
 exact qd 0 (qm.vis 0 rfl) (by decide)
 refine Zy ?_
 refine Z1 ?_
 refine Qk CT (qm.gl 0 rfl rfl) z_isinstance rfl ?_ (qm.gl 1 rfl rfl)
 exact qd 0 (qm.vis 0 rfl) (by decide)
 exact qU
 refine qy ?_
 refine qC ?_
 refine QM ?_ ?_
 refine Qk CT (qm.gl 0 rfl rfl) z_isinstance rfl ?_ (qm.gl 2 rfl rfl)
 exact qd 0 (qm.vis 0 rfl) (by decide)
 refine QM ?_ ?_
 refine Z1 ?_
 refine Qk CT (qm.gl 0 rfl rfl) z_isinstance rfl ?_ (qm.gl 1 rfl rfl)
 exact qd 0 (qm.vis 0 rfl) (by decide)
 refine Zy ?_
 refine Z1 ?_
 refine Qk CT (qm.gl 0 rfl rfl) z_isinstance rfl ?_ (qm.gl 3 rfl rfl)
 exact qd 0 (qm.vis 0 rfl) (by decide)
abbrev Tq16:Stmt:=top 48
abbrev jN:List Str:=["_law_bend"]
theorem zY:ScOk jN ["_law_bend"] ["Up", "Down", "Join"] (qj Tq16):=scmk (by kernel_rfl)
def jY:Rho->Option Out:=(seqO (sIf (tV (ev2 (vr 0) (kd (.int 1)) eqD)) (sRet (kd (objD "Up"))) sN) (seqO (sIf (tV (ev2 (vr 0) (ev1 (kd (.int 1)) negD) eqD)) (sRet (kd (objD "Down"))) sN) (sRet (kd (objD "Join")))))
def QW (ds:List PyData):Option PyData:=ob (jY (rho0 jN.length ds)) outD
theorem Yb (F:Fun K "_law_made" "_law_made" Tq16 f fd)(m:mg "_law_made" = some (.ref f))(b:Binds K fd ["_law_bend"] [])(CT:CTab K mg CS):Known P w K mg base "_law_made" 1 1 QW:=by
 refine ⟨f,fd,["_law_bend"],F.pure (k:=0) (u:=jY) (M':=[]) zY.fs rfl (fun cdv A outer s H E hr G=>?_),m,F.kp,b⟩
 refine qx (M1:=[]) ?_ ?_
 refine zm ?_ ?_ ?_
 refine zb (d_eq hr) ?_ ?_ (zy _)
 exact qd 0 (zY.vis 0 rfl) (by decide)
 exact qe
 refine qy ?_
 refine qC ?_
 exact ZR CT (zY.gl 0 rfl rfl)
 exact qU
 refine qx (M1:=[]) ?_ ?_
 refine zm ?_ ?_ ?_
 refine zb (d_eq hr) ?_ ?_ (zy _)
 exact qd 0 (zY.vis 0 rfl) (by decide)
 refine Zh Zg ?_
 exact qe
 refine qy ?_
 refine qC ?_
 exact ZR CT (zY.gl 1 rfl rfl)
 exact qU
 refine qy ?_
 refine qC ?_
 exact ZR CT (zY.gl 2 rfl rfl)
abbrev Tq17:Stmt:=(clsB (top 28)).getD 0 (.Pass ⟨0,0,0,0⟩)
abbrev jL:List Str:=["self"]
theorem yN:ScOk jL ["self"] [] (qj Tq17):=scmk (by kernel_rfl)
def jX:Rho->Option Out:=(sRet (kd (.int 0)))
def jT (ds:List PyData):Option PyData:=ob (jX (rho0 jL.length ds)) outD
theorem yX (F:Fun K "bend" "Join.bend" Tq17 f fd):FnOk P w K mg base CX0 1 f fd ["self"] (spF K 1 jT):=by
 refine F.pure (k:=0) (u:=jX) (M':=[]) yN.fs rfl (fun cdv A outer s H E hr G=>?_)
 refine qy ?_
 refine qC ?_
 exact qe
abbrev Tq5:Stmt:=(clsB (top 28)).getD 1 (.Pass ⟨0,0,0,0⟩)
abbrev Zn:List Str:=["self", "unit", "out"]
theorem Zj:ScOk Zn ["self", "unit", "out"] [] (qj Tq5):=scmk (by kernel_rfl)
def QS:Rho->Option Out:=(sRet (vr 1))
def Qc (ds:List PyData):Option PyData:=ob (QS (rho0 Zn.length ds)) outD
theorem Jt (F:Fun K "goes_on" "Join.goes_on" Tq5 f fd):FnOk P w K mg base CX0 1 f fd ["self", "unit", "out"] (spF K 3 Qc):=by
 refine F.pure (k:=0) (u:=QS) (M':=[]) Zj.fs rfl (fun cdv A outer s H E hr G=>?_)
 refine qy ?_
 refine qC ?_
 exact qd 1 (Zj.vis 1 rfl) (by decide)
abbrev Tq28:Stmt:=(clsB (top 29)).getD 0 (.Pass ⟨0,0,0,0⟩)
abbrev JS:List Str:=["self"]
theorem Wa:ScOk JS ["self"] [] (qj Tq28):=scmk (by kernel_rfl)
def yj:Rho->Option Out:=(sRet (kd (.int 1)))
def J6 (ds:List PyData):Option PyData:=ob (yj (rho0 JS.length ds)) outD
theorem Wr (F:Fun K "bend" "Up.bend" Tq28 f fd):FnOk P w K mg base CX0 1 f fd ["self"] (spF K 1 J6):=by
 refine F.pure (k:=0) (u:=yj) (M':=[]) Wa.fs rfl (fun cdv A outer s H E hr G=>?_)
 refine qy ?_
 refine qC ?_
 exact qe
abbrev Tq11:Stmt:=(clsB (top 29)).getD 1 (.Pass ⟨0,0,0,0⟩)
abbrev Z8:List Str:=["self", "unit", "out"]
theorem Z6:ScOk Z8 ["self", "unit", "out"] [] (qj Tq11):=scmk (by kernel_rfl)
def Zc:Rho->Option Out:=(sRet (vr 2))
def Qu (ds:List PyData):Option PyData:=ob (Zc (rho0 Z8.length ds)) outD
theorem yx (F:Fun K "goes_on" "Up.goes_on" Tq11 f fd):FnOk P w K mg base CX0 1 f fd ["self", "unit", "out"] (spF K 3 Qu):=by
 refine F.pure (k:=0) (u:=Zc) (M':=[]) Z6.fs rfl (fun cdv A outer s H E hr G=>?_)
 refine qy ?_
 refine qC ?_
 exact qd 2 (Z6.vis 2 rfl) (by decide)
abbrev Tq18:Stmt:=(clsB (top 30)).getD 0 (.Pass ⟨0,0,0,0⟩)
abbrev jK:List Str:=["self"]
theorem yM:ScOk jK ["self"] [] (qj Tq18):=scmk (by kernel_rfl)
def jW:Rho->Option Out:=(sRet (ev1 (kd (.int 1)) negD))
def jR (ds:List PyData):Option PyData:=ob (jW (rho0 jK.length ds)) outD
theorem yW (F:Fun K "bend" "Down.bend" Tq18 f fd):FnOk P w K mg base CX0 1 f fd ["self"] (spF K 1 jR):=by
 refine F.pure (k:=0) (u:=jW) (M':=[]) yM.fs rfl (fun cdv A outer s H E hr G=>?_)
 refine qy ?_
 refine qC ?_
 refine Zh Zg ?_
 exact qe
abbrev Tq6:Stmt:=(clsB (top 30)).getD 1 (.Pass ⟨0,0,0,0⟩)
abbrev Zm:List Str:=["self", "unit", "out"]
theorem QC:ScOk Zm ["self", "unit", "out"] ["negated"] (qj Tq6):=scmk (by kernel_rfl)
def QR:Rho->Option Out:=(sRet (evC 1 (aC (vr 2) aN) z9))
def Qa (ds:List PyData):Option PyData:=ob (QR (rho0 Zm.length ds)) outD
theorem Js (F:Fun K "goes_on" "Down.goes_on" Tq6 f fd)(K_negated:Known P w K mg base "negated" 1 1 z9):FnOk P w K mg base CX0 2 f fd ["self", "unit", "out"] (spF K 3 Qa):=by
 refine F.pure (k:=1) (u:=QR) (M':=[]) QC.fs rfl (fun cdv A outer s H E hr G=>?_)
 refine qy ?_
 refine qC ?_
 refine qw K_negated hr (by decide) (QC.gl 0 rfl rfl) ?_ rfl
 refine qb ?_ ?_
 exact qd 2 (QC.vis 2 rfl) (by decide)
 exact qg
def za:List (Str×(List PyData->Option PyData)):=[("Join", Qc),("Up", Qu),("Down", Qa)]
abbrev Tq23:Stmt:=(clsB (top 28)).getD 2 (.Pass ⟨0,0,0,0⟩)
abbrev Jd:List Str:=["self", "pose", "way", "unit", "out", "edge", "beyond", "turn"]
theorem qu:ScOk Jd ["self", "pose", "way"] ["unit_of", "out_of", "cross", "turn_back", "joined_turns", "turned", "added"] (qj Tq23):=scmk (by kernel_rfl)
def Z3:Rho->Option Out:=(seqO (sSet 3 (evC 2 (aC (vr 1) (aC (vr 2) aN)) Qh)) (seqO (sSet 4 (evC 1 (aC (vr 1) aN) Zw)) (seqO (sSet 5 (evC 2 (aC (vr 3) (aC (vr 4) aN)) Qw)) (seqO (sSet 6 (evC 3 (aC (vr 0) (aC (vr 3) (aC (vr 4) aN))) (mtD za))) (seqO (sSet 7 (evC 2 (aC (evC 1 (aC (evA (aC (vr 3) (aC (vr 4) (aC (vr 5) aN))) tupD) aN) Qn) (aC (evA (aC (vr 6) (aC (evC 2 (aC (vr 5) (aC (vr 6) aN)) Qw) (aC (vr 5) aN))) tupD) aN)) zH)) (sRet (evA (aC (evC 2 (aC (evC 2 (aC (ev2 (vr 1) (kd (.int 0)) ixD) (aC (vr 3) aN)) ZP) (aC (vr 6) aN)) ZP) (aC (evC 2 (aC (vr 7) (aC (ev2 (vr 1) (kd (.int 1)) ixD) aN)) zQ) (aC (evC 2 (aC (vr 7) (aC (ev2 (vr 1) (kd (.int 2)) ixD) aN)) zQ) aN))) tupD)))))))
def zW (ds:List PyData):Option PyData:=ob (Z3 (rho0 Jd.length ds)) outD
theorem ZZ (F:Fun K "led" "Join.led" Tq23 f fd)(K_unit_of:Known P w K mg base "unit_of" 2 2 Qh)(K_out_of:Known P w K mg base "out_of" 1 2 Zw)(K_cross:Known P w K mg base "cross" 2 1 Qw)(K_joined_turns:Known P w K mg base "joined_turns" 2 2 zH)(K_turn_back:Known P w K mg base "turn_back" 1 1 Qn)(K_turned:Known P w K mg base "turned" 2 1 zQ)(K_added:Known P w K mg base "added" 2 1 ZP)(M_goes_on:KnownC P w K mg base "goes_on" 3 2 za):FnOk P w K mg base CX0 3 f fd ["self", "pose", "way"] (spF K 3 zW):=by
 refine F.pure (k:=2) (u:=Z3) (M':=[]) qu.fs rfl (fun cdv A outer s H E hr G=>?_)
 refine qx (M1:=[]) ?_ ?_
 refine qL 3 ?_ ?_ ?_ ?_ ?_ ?_ ?_
 ·exact qu.fs.nd
 ·exact (qu.loc 3 rfl)
 ·rfl
 ·rfl
 ·exact .inl rfl
 ·decide
 refine qw K_unit_of hr (by decide) (qu.gl 0 rfl rfl) ?_ rfl
 refine qb ?_ ?_
 exact qd 1 (qu.vis 1 rfl) (by decide)
 refine qb ?_ ?_
 exact qd 2 (qu.vis 2 rfl) (by decide)
 exact qg
 refine qx (M1:=[]) ?_ ?_
 refine qL 4 ?_ ?_ ?_ ?_ ?_ ?_ ?_
 ·exact qu.fs.nd
 ·exact (qu.loc 4 rfl)
 ·rfl
 ·rfl
 ·exact .inl rfl
 ·decide
 refine qw K_out_of hr (by decide) (qu.gl 1 rfl rfl) ?_ rfl
 refine qb ?_ ?_
 exact qd 1 (qu.vis 1 rfl) (by decide)
 exact qg
 refine qx (M1:=[]) ?_ ?_
 refine qL 5 ?_ ?_ ?_ ?_ ?_ ?_ ?_
 ·exact qu.fs.nd
 ·exact (qu.loc 5 rfl)
 ·rfl
 ·rfl
 ·exact .inl rfl
 ·decide
 refine qw K_cross hr (by decide) (qu.gl 2 rfl rfl) ?_ rfl
 refine qb ?_ ?_
 exact qd 3 (qu.vis 3 rfl) (by decide)
 refine qb ?_ ?_
 exact qd 4 (qu.vis 4 rfl) (by decide)
 exact qg
 refine qx (M1:=[]) ?_ ?_
 refine qL 6 ?_ ?_ ?_ ?_ ?_ ?_ ?_
 ·exact qu.fs.nd
 ·exact (qu.loc 6 rfl)
 ·rfl
 ·rfl
 ·exact .inl rfl
 ·decide
 refine YT M_goes_on hr (by decide) ?_ ?_
 exact qd 0 (qu.vis 0 rfl) (by decide)
 refine qb ?_ ?_
 exact qd 3 (qu.vis 3 rfl) (by decide)
 refine qb ?_ ?_
 exact qd 4 (qu.vis 4 rfl) (by decide)
 exact qg
 refine qx (M1:=[]) ?_ ?_
 refine qL 7 ?_ ?_ ?_ ?_ ?_ ?_ ?_
 ·exact qu.fs.nd
 ·exact (qu.loc 7 rfl)
 ·rfl
 ·rfl
 ·exact .inl rfl
 ·decide
 refine qw K_joined_turns hr (by decide) (qu.gl 4 rfl rfl) ?_ rfl
 refine qb ?_ ?_
 refine qw K_turn_back hr (by decide) (qu.gl 3 rfl rfl) ?_ rfl
 refine qb ?_ ?_
 refine qY ?_
 refine qb ?_ ?_
 exact qd 3 (qu.vis 3 rfl) (by decide)
 refine qb ?_ ?_
 exact qd 4 (qu.vis 4 rfl) (by decide)
 refine qb ?_ ?_
 exact qd 5 (qu.vis 5 rfl) (by decide)
 exact qg
 exact qg
 refine qb ?_ ?_
 refine qY ?_
 refine qb ?_ ?_
 exact qd 6 (qu.vis 6 rfl) (by decide)
 refine qb ?_ ?_
 refine qw K_cross hr (by decide) (qu.gl 2 rfl rfl) ?_ rfl
 refine qb ?_ ?_
 exact qd 5 (qu.vis 5 rfl) (by decide)
 refine qb ?_ ?_
 exact qd 6 (qu.vis 6 rfl) (by decide)
 exact qg
 refine qb ?_ ?_
 exact qd 5 (qu.vis 5 rfl) (by decide)
 exact qg
 exact qg
 refine qy ?_
 refine qC ?_
 refine qY ?_
 refine qb ?_ ?_
 refine qw K_added hr (by decide) (qu.gl 6 rfl rfl) ?_ rfl
 refine qb ?_ ?_
 refine qw K_added hr (by decide) (qu.gl 6 rfl rfl) ?_ rfl
 refine qb ?_ ?_
 refine qH ?_ ?_
 exact qd 1 (qu.vis 1 rfl) (by decide)
 exact qe
 refine qb ?_ ?_
 exact qd 3 (qu.vis 3 rfl) (by decide)
 exact qg
 refine qb ?_ ?_
 exact qd 6 (qu.vis 6 rfl) (by decide)
 exact qg
 refine qb ?_ ?_
 refine qw K_turned hr (by decide) (qu.gl 5 rfl rfl) ?_ rfl
 refine qb ?_ ?_
 exact qd 7 (qu.vis 7 rfl) (by decide)
 refine qb ?_ ?_
 refine qH ?_ ?_
 exact qd 1 (qu.vis 1 rfl) (by decide)
 exact qe
 exact qg
 refine qb ?_ ?_
 refine qw K_turned hr (by decide) (qu.gl 5 rfl rfl) ?_ rfl
 refine qb ?_ ?_
 exact qd 7 (qu.vis 7 rfl) (by decide)
 refine qb ?_ ?_
 refine qH ?_ ?_
 exact qd 1 (qu.vis 1 rfl) (by decide)
 exact qe
 exact qg
 exact qg
def jk:List (Str×(List PyData->Option PyData)):=[("Join", jT),("Up", J6),("Down", jR)]
def jB:List (Str×(List PyData->Option PyData)):=[("Join", zW),("Up", zW),("Down", zW)]
abbrev Tq33:Stmt:=top 49
abbrev qck:List Str:=["_law_script", "_law_bend", "_law_way", "_law_pose_here", "_law_unit_here", "_law_thing_here", "_law_due", "_law_join", "_law_told", "_law_found", "_law_back"]
theorem qG:ScOk qck ["_law_script"] ["_law_cell", "_law_pose", "unit_of", "_law_thing", "_law_is_spot", "_law_unit", "_law_refused_well", "_law_led", "_law_of_class", "_law_whole", "_law_is_pose", "_law_made", "join_of"] (qj Tq33):=scmk (by kernel_rfl)
def qa7:Rho->Option Out:=(seqO (sSet 1 (ev2 (ev2 (evC 2 (aC (vr 0) (aC (kd (.int 0)) aN)) zc) (kd (.int 3)) modD) (kd (.int 1)) subD)) (seqO (sSet 2 (ev2 (ev2 (evC 2 (aC (vr 0) (aC (kd (.int 0)) aN)) zc) (kd (.int 3)) QX) (kd (.int 4)) modD)) (seqO (sSet 3 (evC 2 (aC (evC 2 (aC (vr 0) (aC (kd (.int 1)) aN)) zc) (aC (evC 2 (aC (vr 0) (aC (kd (.int 2)) aN)) zc) aN)) Qm)) (seqO (sSet 4 (evC 2 (aC (vr 3) (aC (vr 2) aN)) Qh)) (seqO (sSet 5 (evC 1 (aC (evC 2 (aC (vr 0) (aC (kd (.int 3)) aN)) zc) aN) Qe)) (seqO (sIf (tO (tN (tV (evC 1 (aC (vr 4) aN) zp))) (tO (tV (ev2 (vr 4) (evC 2 (aC (vr 3) (aC (vr 2) aN)) zG) neD)) (tN (tV (evC 1 (aC (vr 5) aN) qK))))) (sRet (kd (.bool false))) sN) (seqO (sSet 6 (evC 3 (aC (vr 3) (aC (vr 2) (aC (vr 1) aN))) QL)) (seqO (sFor (evI (evA (aC (evC 1 (aC (vr 1) aN) Qy) (aC (evC 1 (aC (vr 1) aN) QW) aN)) lstD) seqD) (gNm 7) (seqO (sSet 8 (evC 1 (aC (vr 7) aN) (mtD jk))) (seqO (sIf (tO (tN (tV (evC 2 (aC (vr 7) (aC (vr 1) aN)) zR))) (tO (tN (tV (evC 1 (aC (vr 8) aN) zf))) (tV (ev2 (vr 8) (vr 1) neD)))) (sRet (kd (.bool false))) sN) (seqO (sSet 9 (evC 3 (aC (vr 7) (aC (vr 3) (aC (vr 2) aN))) (mtD jB))) (seqO (sIf (tO (tN (tV (evC 1 (aC (vr 9) aN) zF))) (tV (ev2 (vr 9) (vr 6) neD))) (sRet (kd (.bool false))) sN) (seqO (sSet 10 (evC 3 (aC (vr 7) (aC (vr 9) (aC (ev2 (ev2 (vr 2) (kd (.int 2)) zz) (kd (.int 4)) modD) aN))) (mtD jB))) (sIf (tO (tN (tV (evC 1 (aC (vr 10) aN) zF))) (tV (ev2 (vr 10) (vr 3) neD))) (sRet (kd (.bool false))) sN))))))) (sRet (evC 1 (aC (vr 5) aN) qK))))))))))
def qaf (ds:List PyData):Option PyData:=ob (qa7 (rho0 qck.length ds)) outD
theorem qc6 (F:Fun K "law" "law" Tq33 f fd)(K__law_cell:Known P w K mg base "_law_cell" 2 1 zc)(K__law_pose:Known P w K mg base "_law_pose" 2 2 Qm)(K_unit_of:Known P w K mg base "unit_of" 2 2 Qh)(K__law_thing:Known P w K mg base "_law_thing" 1 1 Qe)(K__law_is_spot:Known P w K mg base "_law_is_spot" 1 2 zp)(K__law_unit:Known P w K mg base "_law_unit" 2 2 zG)(K__law_refused_well:Known P w K mg base "_law_refused_well" 1 4 qK)(K__law_led:Known P w K mg base "_law_led" 3 3 QL)(K__law_of_class:Known P w K mg base "_law_of_class" 2 1 zR)(K__law_whole:Known P w K mg base "_law_whole" 1 1 zf)(K__law_is_pose:Known P w K mg base "_law_is_pose" 1 3 zF)(K__law_made:Known P w K mg base "_law_made" 1 1 QW)(K_join_of:Known P w K mg base "join_of" 1 3 Qy)(M_bend:KnownC P w K mg base "bend" 1 1 jk)(M_led:KnownC P w K mg base "led" 3 3 jB):FnOk P w K mg base CX0 5 f fd ["_law_script"] (spF K 1 qaf):=by
 refine F.pure (k:=4) (u:=qa7) (M':=[]) qG.fs rfl (fun cdv A outer s H E hr G=>?_)
 refine qx (M1:=[]) ?_ ?_
 refine qL 1 ?_ ?_ ?_ ?_ ?_ ?_ ?_
 ·exact qG.fs.nd
 ·exact (qG.loc 1 rfl)
 ·rfl
 ·rfl
 ·exact .inl rfl
 ·decide
 refine qD Q4 ?_ ?_
 refine qD QV ?_ ?_
 refine qw K__law_cell hr (by decide) (qG.gl 0 rfl rfl) ?_ rfl
 refine qb ?_ ?_
 exact qd 0 (qG.vis 0 rfl) (by decide)
 refine qb ?_ ?_
 exact qe
 exact qg
 exact qe
 exact qe
 refine qx (M1:=[]) ?_ ?_
 refine qL 2 ?_ ?_ ?_ ?_ ?_ ?_ ?_
 ·exact qG.fs.nd
 ·exact (qG.loc 2 rfl)
 ·rfl
 ·rfl
 ·exact .inl rfl
 ·decide
 refine qD QV ?_ ?_
 refine qD Zv ?_ ?_
 refine qw K__law_cell hr (by decide) (qG.gl 0 rfl rfl) ?_ rfl
 refine qb ?_ ?_
 exact qd 0 (qG.vis 0 rfl) (by decide)
 refine qb ?_ ?_
 exact qe
 exact qg
 exact qe
 exact qe
 refine qx (M1:=[]) ?_ ?_
 refine qL 3 ?_ ?_ ?_ ?_ ?_ ?_ ?_
 ·exact qG.fs.nd
 ·exact (qG.loc 3 rfl)
 ·rfl
 ·rfl
 ·exact .inl rfl
 ·decide
 refine qw K__law_pose hr (by decide) (qG.gl 1 rfl rfl) ?_ rfl
 refine qb ?_ ?_
 refine qw K__law_cell hr (by decide) (qG.gl 0 rfl rfl) ?_ rfl
 refine qb ?_ ?_
 exact qd 0 (qG.vis 0 rfl) (by decide)
 refine qb ?_ ?_
 exact qe
 exact qg
 refine qb ?_ ?_
 refine qw K__law_cell hr (by decide) (qG.gl 0 rfl rfl) ?_ rfl
 refine qb ?_ ?_
 exact qd 0 (qG.vis 0 rfl) (by decide)
 refine qb ?_ ?_
 exact qe
 exact qg
 exact qg
 refine qx (M1:=[]) ?_ ?_
 refine qL 4 ?_ ?_ ?_ ?_ ?_ ?_ ?_
 ·exact qG.fs.nd
 ·exact (qG.loc 4 rfl)
 ·rfl
 ·rfl
 ·exact .inl rfl
 ·decide
 refine qw K_unit_of hr (by decide) (qG.gl 2 rfl rfl) ?_ rfl
 refine qb ?_ ?_
 exact qd 3 (qG.vis 3 rfl) (by decide)
 refine qb ?_ ?_
 exact qd 2 (qG.vis 2 rfl) (by decide)
 exact qg
 refine qx (M1:=[]) ?_ ?_
 refine qL 5 ?_ ?_ ?_ ?_ ?_ ?_ ?_
 ·exact qG.fs.nd
 ·exact (qG.loc 5 rfl)
 ·rfl
 ·rfl
 ·exact .inl rfl
 ·decide
 refine qw K__law_thing hr (by decide) (qG.gl 3 rfl rfl) ?_ rfl
 refine qb ?_ ?_
 refine qw K__law_cell hr (by decide) (qG.gl 0 rfl rfl) ?_ rfl
 refine qb ?_ ?_
 exact qd 0 (qG.vis 0 rfl) (by decide)
 refine qb ?_ ?_
 exact qe
 exact qg
 exact qg
 refine qx (M1:=[]) ?_ ?_
 refine zm ?_ ?_ ?_
 refine PDW.pdt ?_
 refine Zz ?_ ?_
 refine Qg ?_
 refine zM ?_
 refine qw K__law_is_spot hr (by decide) (qG.gl 4 rfl rfl) ?_ rfl
 refine qb ?_ ?_
 exact qd 4 (qG.vis 4 rfl) (by decide)
 exact qg
 refine Zz ?_ ?_
 refine zb (d_ne hr) ?_ ?_ (zy _)
 exact qd 4 (qG.vis 4 rfl) (by decide)
 refine qw K__law_unit hr (by decide) (qG.gl 5 rfl rfl) ?_ rfl
 refine qb ?_ ?_
 exact qd 3 (qG.vis 3 rfl) (by decide)
 refine qb ?_ ?_
 exact qd 2 (qG.vis 2 rfl) (by decide)
 exact qg
 refine ZS ?_
 refine Qg ?_
 refine zM ?_
 refine qw K__law_refused_well hr (by decide) (qG.gl 6 rfl rfl) ?_ rfl
 refine qb ?_ ?_
 exact qd 5 (qG.vis 5 rfl) (by decide)
 exact qg
 refine qy ?_
 refine qC ?_
 exact Zx
 exact qU
 refine qx (M1:=[]) ?_ ?_
 refine qL 6 ?_ ?_ ?_ ?_ ?_ ?_ ?_
 ·exact qG.fs.nd
 ·exact (qG.loc 6 rfl)
 ·rfl
 ·rfl
 ·exact .inl rfl
 ·decide
 refine qw K__law_led hr (by decide) (qG.gl 7 rfl rfl) ?_ rfl
 refine qb ?_ ?_
 exact qd 3 (qG.vis 3 rfl) (by decide)
 refine qb ?_ ?_
 exact qd 2 (qG.vis 2 rfl) (by decide)
 refine qb ?_ ?_
 exact qd 1 (qG.vis 1 rfl) (by decide)
 exact qg
 refine qx (M1:=[]) ?_ ?_
 refine wW PassesOwn.never rfl ?_ (fun _=>?_) (fun _=>?_)
 refine jn ?_
 refine JC ?_
 refine qb ?_ ?_
 refine qw K_join_of hr (by decide) (qG.gl 12 rfl rfl) ?_ rfl
 refine qb ?_ ?_
 exact qd 1 (qG.vis 1 rfl) (by decide)
 exact qg
 refine qb ?_ ?_
 refine qw K__law_made hr (by decide) (qG.gl 11 rfl rfl) ?_ rfl
 refine qb ?_ ?_
 exact qd 1 (qG.vis 1 rfl) (by decide)
 exact qg
 exact qg
 exact Qf 7 qG.fs.nd (qG.loc 7 rfl) (by decide)
 refine qx (M1:=[]) ?_ ?_
 refine qL 8 ?_ ?_ ?_ ?_ ?_ ?_ ?_
 ·exact qG.fs.nd
 ·exact (qG.loc 8 rfl)
 ·rfl
 ·rfl
 ·exact .inl rfl
 ·decide
 refine qbU M_bend hr (by decide) ?_
 exact qd 7 (qG.vis 7 rfl) (by decide)
 refine qx (M1:=[]) ?_ ?_
 refine zm ?_ ?_ ?_
 refine PDW.pdt ?_
 refine Zz ?_ ?_
 refine Qg ?_
 refine zM ?_
 refine qw K__law_of_class hr (by decide) (qG.gl 8 rfl rfl) ?_ rfl
 refine qb ?_ ?_
 exact qd 7 (qG.vis 7 rfl) (by decide)
 refine qb ?_ ?_
 exact qd 1 (qG.vis 1 rfl) (by decide)
 exact qg
 refine Zz ?_ ?_
 refine Qg ?_
 refine zM ?_
 refine qw K__law_whole hr (by decide) (qG.gl 9 rfl rfl) ?_ rfl
 refine qb ?_ ?_
 exact qd 8 (qG.vis 8 rfl) (by decide)
 exact qg
 refine ZS ?_
 refine zb (d_ne hr) ?_ ?_ (zy _)
 exact qd 8 (qG.vis 8 rfl) (by decide)
 exact qd 1 (qG.vis 1 rfl) (by decide)
 refine qy ?_
 refine qC ?_
 exact Zx
 exact qU
 refine qx (M1:=[]) ?_ ?_
 refine qL 9 ?_ ?_ ?_ ?_ ?_ ?_ ?_
 ·exact qG.fs.nd
 ·exact (qG.loc 9 rfl)
 ·rfl
 ·rfl
 ·exact .inl rfl
 ·decide
 refine YT M_led hr (by decide) ?_ ?_
 exact qd 7 (qG.vis 7 rfl) (by decide)
 refine qb ?_ ?_
 exact qd 3 (qG.vis 3 rfl) (by decide)
 refine qb ?_ ?_
 exact qd 2 (qG.vis 2 rfl) (by decide)
 exact qg
 refine qx (M1:=[]) ?_ ?_
 refine zm ?_ ?_ ?_
 refine PDW.pdt ?_
 refine Zz ?_ ?_
 refine Qg ?_
 refine zM ?_
 refine qw K__law_is_pose hr (by decide) (qG.gl 10 rfl rfl) ?_ rfl
 refine qb ?_ ?_
 exact qd 9 (qG.vis 9 rfl) (by decide)
 exact qg
 refine ZS ?_
 refine zb (d_ne hr) ?_ ?_ (zy _)
 exact qd 9 (qG.vis 9 rfl) (by decide)
 exact qd 6 (qG.vis 6 rfl) (by decide)
 refine qy ?_
 refine qC ?_
 exact Zx
 exact qU
 refine qx (M1:=[]) ?_ ?_
 refine qL 10 ?_ ?_ ?_ ?_ ?_ ?_ ?_
 ·exact qG.fs.nd
 ·exact (qG.loc 10 rfl)
 ·rfl
 ·rfl
 ·exact .inl rfl
 ·decide
 refine YT M_led hr (by decide) ?_ ?_
 exact qd 7 (qG.vis 7 rfl) (by decide)
 refine qb ?_ ?_
 exact qd 9 (qG.vis 9 rfl) (by decide)
 refine qb ?_ ?_
 refine qD QV ?_ ?_
 refine qD zO ?_ ?_
 exact qd 2 (qG.vis 2 rfl) (by decide)
 exact qe
 exact qe
 exact qg
 refine qy ?_
 refine zm ?_ ?_ ?_
 refine PDW.pdt ?_
 refine Zz ?_ ?_
 refine Qg ?_
 refine zM ?_
 refine qw K__law_is_pose hr (by decide) (qG.gl 10 rfl rfl) ?_ rfl
 refine qb ?_ ?_
 exact qd 10 (qG.vis 10 rfl) (by decide)
 exact qg
 refine ZS ?_
 refine zb (d_ne hr) ?_ ?_ (zy _)
 exact qd 10 (qG.vis 10 rfl) (by decide)
 exact qd 3 (qG.vis 3 rfl) (by decide)
 refine qy ?_
 refine qC ?_
 exact Zx
 exact qU
 refine qy ?_
 refine qC ?_
 refine qw K__law_refused_well hr (by decide) (qG.gl 6 rfl rfl) ?_ rfl
 refine qb ?_ ?_
 exact qd 5 (qG.vis 5 rfl) (by decide)
 exact qg
end SF
local macro_rules
 | `(tactic| simp_arith [$ts,*] $[$loc]?)=>`(tactic| simp only [L2.rho0,List.map_cons,List.map_nil,List.length_cons,List.length_nil,Nat.reduceAdd,Nat.reduceSub,Nat.zero_add,Nat.sub_self,List.replicate_succ,List.replicate_zero,List.cons_append,List.nil_append,List.append_nil,L2.qdG,L2.W5,L2.W6,L2.W3,L2.W4,L2.ifO_t,L2.ifO_f,L2.sIf_b,L2.tO_b,L2.vA_b,L2.vN,L2.qdC,L2.qdH,L2.qdy,L2.qcE,L2.nxO_s,L2.qdB,L2.qdw,L2.sN,L2.sBk,L2.sCt,L2.tV,L2.tN,L2.tT,L2.ev2_b,L2.qcF,L2.ev1,L2.vr_z,L2.vr_s,L2.kd,L2.evA,L2.evC_b,L2.qbg,L2.evC0,L2.aC_b,L2.qbp,L2.aN,L2.qc0,L2.qc1,L2.tupD,L2.lstD,L2.qa5,L2.qa6,L2.qcz,L2.qdL,L2.qc4,L2.qag,L2.wM,L2.pow_a,L2.pow_b,L2.qbs,L2.qbH,L2.qc3,L2.leD_i,L2.qbf,L2.ixD_l,L2.ixD_t,L2.atI0,L2.atI1,L2.atI2,L2.atI3,L2.atI4,L2.atI5,L2.qde,L2.qdd,L2.ob_s,L2.gNm,L2.gsN_n,L2.gsC_c,L2.qdR,List.set_cons_zero,List.set_cons_succ,List.set_nil,L2.evI,L2.evR,L2.qdE,L2.qdF,L2.qcb,L2.rngL,L2.qbn,L2.qbi,L2.qbj,L2.qbk,L2.qbm,L2.qbl,L2.qbG,L2.qdz,L2.qcL,L2.qai,L2.qaj,L2.qbx,L2.qbw,L2.qbv,L2.qby,if_true,if_false,Bool.false_eq_true,Bool.not_true,Bool.not_false,Nat.reduceLeDiff,and_self,and_true,true_and,Int.reduceToNat,Int.reduceAdd,Int.reduceSub,Int.reduceLE,Int.reduceLT,Int.reduceNeg,reduceIte,L2.isiD,L2.qcS,L2.qcP,L2.qcO,L2.qcN,L2.qcR,L2.qcQ,String.reduceBEq,L2.natLit,Int.reduceBEq,Bool.true_or,Bool.or_true,Bool.false_or,Bool.or_false,L2.qcc,L2.qdN,L2.qdx,L2.qcD,L2.qcC,L2.evS_b,L2.qdJ,L2.oN,L2.oS_b,L2.qdq,Nat.reduceLT,decide_true,decide_false,L2.qcy,L2.qcJ,L2.chO_t,L2.chO_f,L2.qbb,L2.qbo,$ts,*] $[$loc]?)
namespace SF
open PySem L2
def QK (ns:List Int)(k:Int):Int:=ns.getD k.toNat 0
theorem cell_bd {ns:List Int}(h:∀ k∈ns,Builtin.Int.intBits k<=2 ^ 20)(k:Int):Bd 1048576 (QK ns k):=by
 unfold QK
 by_cases hk:k.toNat<ns.length
 ·rw [List.getD_eq_getElem?_getD,List.getElem?_eq_getElem hk]
  exact h _ (List.getElem_mem hk)
 ·rw [List.getD_eq_getElem?_getD,List.getElem?_eq_none (by omega)]
  show Builtin.Int.intBits 0<=1048576
  decide
theorem Wy {a b c d e f:Int}{n m:Nat}(ha:Bd n a)(hb:Bd n b)(hc:Bd n c)(hd:Bd m d)(he:Bd m e)(hf:Bd m f)(hz:n+m<=134217728:=by decide):qT [S3 a b c,S3 d e f]=some (S3 (b*f-c*e) (c*d-a*f) (a*e-b*d)):=by
 simp only [qT,Qx,S3]
 simp_arith []
 simp only [qM (hb.ok hf hz),qM (hc.ok he hz),qM (hc.ok hd hz),qM (ha.ok hf hz),qM (ha.ok he hz),qM (hb.ok hd hz)]
 simp_arith []
structure Tr where
 (p0 p1 p2 q0 q1 q2 r0 r1 r2:Int)
 deriving DecidableEq
def encT (t:Tr):PyData:=T3 (S3 t.p0 t.p1 t.p2) (S3 t.q0 t.q1 t.q2) (S3 t.r0 t.r1 t.r2)
def zT:List Tr:=[⟨1,0,0,0,1,0,0,0,1⟩,⟨1,0,0,0,-1,0,0,0,-1⟩,⟨1,0,0,0,0,1,0,-1,0⟩,⟨1,0,0,0,0,-1,0,1,0⟩,⟨-1,0,0,0,1,0,0,0,-1⟩,⟨-1,0,0,0,-1,0,0,0,1⟩,⟨-1,0,0,0,0,1,0,1,0⟩,⟨-1,0,0,0,0,-1,0,-1,0⟩,⟨0,1,0,1,0,0,0,0,-1⟩,⟨0,1,0,-1,0,0,0,0,1⟩,⟨0,1,0,0,0,1,1,0,0⟩,⟨0,1,0,0,0,-1,-1,0,0⟩,⟨0,-1,0,1,0,0,0,0,1⟩,⟨0,-1,0,-1,0,0,0,0,-1⟩,⟨0,-1,0,0,0,1,-1,0,0⟩,⟨0,-1,0,0,0,-1,1,0,0⟩,⟨0,0,1,1,0,0,0,1,0⟩,⟨0,0,1,-1,0,0,0,-1,0⟩,⟨0,0,1,0,1,0,-1,0,0⟩,⟨0,0,1,0,-1,0,1,0,0⟩,⟨0,0,-1,1,0,0,0,-1,0⟩,⟨0,0,-1,-1,0,0,0,1,0⟩,⟨0,0,-1,0,1,0,1,0,0⟩,⟨0,0,-1,0,-1,0,-1,0,0⟩]
def TrB (t:Tr):Prop:=Bd 1 t.p0/\Bd 1 t.p1/\Bd 1 t.p2/\Bd 1 t.q0/\Bd 1 t.q1/\Bd 1 t.q2/\Bd 1 t.r0/\Bd 1 t.r1/\Bd 1 t.r2
instance (n:Nat) (i:Int):Decidable (Bd n i):=by unfold Bd;exact inferInstance
theorem tr_bd:∀ t∈zT,TrB t:=by
 unfold TrB
 decide
def TrBd (m:Nat)(t:Tr):Prop:=Bd m t.p0/\Bd m t.p1/\Bd m t.p2/\Bd m t.q0/\Bd m t.q1/\Bd m t.q2/\Bd m t.r0/\Bd m t.r1/\Bd m t.r2
theorem TrB.bd {t:Tr}(h:TrB t):TrBd 1 t:=h
def mulT (s t:Tr):Tr:=⟨s.p0*t.p0+s.p1*t.q0+s.p2*t.r0,s.p0*t.p1+s.p1*t.q1+s.p2*t.r1,s.p0*t.p2+s.p1*t.q2+s.p2*t.r2,
 s.q0*t.p0+s.q1*t.q0+s.q2*t.r0,s.q0*t.p1+s.q1*t.q1+s.q2*t.r1,s.q0*t.p2+s.q1*t.q2+s.q2*t.r2,
 s.r0*t.p0+s.r1*t.q0+s.r2*t.r0,s.r0*t.p1+s.r1*t.q1+s.r2*t.r1,s.r0*t.p2+s.r1*t.q2+s.r2*t.r2⟩
def trT (s:Tr):Tr:=⟨s.p0,s.q0,s.r0,s.p1,s.q1,s.r1,s.p2,s.q2,s.r2⟩
theorem Za {x y z i j k:Int}{n m:Nat}(hx:Bd n x)(hy:Bd n y)(hz:Bd n z)(hi:Bd m i)(hj:Bd m j)(hk:Bd m k):Bd (n+m+2) (x*i+y*j+z*k) :=
 (((hx.mul hi).add (hy.mul hj)).add (hz.mul hk)).mono (by omega)
theorem qdO {m:Nat}{t:Tr}(h:TrBd m t):TrBd m (trT t):=by
 obtain ⟨h1,h2,h3,h4,h5,h6,h7,h8,h9⟩:=h
 exact ⟨h1,h4,h7,h2,h5,h8,h3,h6,h9⟩
theorem wN {m n:Nat}{s t:Tr}(hs:TrBd m s)(ht:TrBd n t):TrBd (m+n+2) (mulT s t):=by
 obtain ⟨h1,h2,h3,h4,h5,h6,h7,h8,h9⟩:=hs
 obtain ⟨g1,g2,g3,g4,g5,g6,g7,g8,g9⟩:=ht
 exact ⟨Za h1 h2 h3 g1 g4 g7,Za h1 h2 h3 g2 g5 g8,Za h1 h2 h3 g3 g6 g9,Za h4 h5 h6 g1 g4 g7,Za h4 h5 h6 g2 g5 g8,Za h4 h5 h6 g3 g6 g9,Za h7 h8 h9 g1 g4 g7,Za h7 h8 h9 g2 g5 g8,Za h7 h8 h9 g3 g6 g9⟩
structure Sp3 where
 (x y z:Int)
 deriving DecidableEq
def encS (s:Sp3):PyData:=S3 s.x s.y s.z
def app (t:Tr)(s:Sp3):Sp3:=⟨s.x*t.p0+s.y*t.q0+s.z*t.r0,s.x*t.p1+s.y*t.q1+s.z*t.r1,s.x*t.p2+s.y*t.q2+s.z*t.r2⟩
def addS (s t:Sp3):Sp3:=⟨s.x+t.x,s.y+t.y,s.z+t.z⟩
def negS (s:Sp3):Sp3:=⟨-s.x,-s.y,-s.z⟩
def SpBd (n:Nat)(s:Sp3):Prop:=Bd n s.x/\Bd n s.y/\Bd n s.z
theorem ZX (a b c:Sp3):addS (addS a b) c=addS a (addS b c):=by
 unfold addS
 congr 1<;>dsimp only<;>omega
theorem Wb (a:Sp3):addS a ⟨0,0,0⟩=a:=by
 unfold addS
 cases a
 congr 1<;>dsimp only<;>omega
theorem ju {t:Tr}{m n:Nat}(ht:TrBd m t){s:Sp3}(hs:SpBd n s)(hz:n+m<=134217728:=by decide):zQ [encT t,encS s]=some (encS (app t s)):=by
 obtain ⟨h1,h2,h3,h4,h5,h6,h7,h8,h9⟩:=ht
 obtain ⟨ha,hb,hc⟩:=hs
 simp only [zQ,JM,S3,T3,encT,encS,app]
 simp_arith [qM (ha.ok h1 hz),qM (ha.ok h2 hz),qM (ha.ok h3 hz),qM (hb.ok h4 hz),qM (hb.ok h5 hz),qM (hb.ok h6 hz),qM (hc.ok h7 hz),qM (hc.ok h8 hz),qM (hc.ok h9 hz)]
def rowP (t:Tr):Sp3:=⟨t.p0,t.p1,t.p2⟩
def rowQ (t:Tr):Sp3:=⟨t.q0,t.q1,t.q2⟩
def rowR (t:Tr):Sp3:=⟨t.r0,t.r1,t.r2⟩
theorem Wl (t:Tr):encT t=.tuple [encS (rowP t),encS (rowQ t),encS (rowR t)]:=rfl
theorem Jb {m:Nat}{t:Tr}(h:TrBd m t):SpBd m (rowP t)/\SpBd m (rowQ t)/\SpBd m (rowR t):=by
 obtain ⟨h1,h2,h3,h4,h5,h6,h7,h8,h9⟩:=h
 exact ⟨⟨h1,h2,h3⟩,⟨h4,h5,h6⟩,⟨h7,h8,h9⟩⟩
theorem Wk (s t:Tr):encT (mulT s t)=.tuple [encS (app t (rowP s)),encS (app t (rowQ s)),encS (app t (rowR s))]:=rfl
theorem qbC {s t:Tr}{m n:Nat}(hs:TrBd m s)(ht:TrBd n t)(hz:m+n<=134217728:=by decide):zH [encT s,encT t]=some (encT (mulT s t)):=by
 obtain ⟨a1,a2,a3⟩:=Jb hs
 have e1:=ju ht a1 hz
 have e2:=ju ht a2 hz
 have e3:=ju ht a3 hz
 simp only [zH,QT,Wk,Wl s]
 simp_arith [e1,e2,e3]
def Q0 (a b:Sp3):Sp3:=⟨a.y*b.z-a.z*b.y,a.z*b.x-a.x*b.z,a.x*b.y-a.y*b.x⟩
theorem YB {a b:Sp3}{n m:Nat}(ha:SpBd n a)(hb:SpBd m b)(hz:n+m<=134217728:=by decide):Qw [encS a,encS b]=some (encS (Q0 a b)):=by
 obtain ⟨a1,a2,a3⟩:=ha
 obtain ⟨b1,b2,b3⟩:=hb
 simp only [Qw,yK,encS,S3,Q0]
 simp_arith [qM (a2.ok b3 hz),qM (a3.ok b2 hz),qM (a3.ok b1 hz),qM (a1.ok b3 hz),qM (a1.ok b2 hz),qM (a2.ok b1 hz)]
theorem wJ {a b:Sp3}{n m:Nat}(ha:SpBd n a)(hb:SpBd m b)(hz:n+m<=134217728:=by decide):qT [encS a,encS b]=some (encS (Q0 a b)):=Wy ha.1 ha.2.1 ha.2.2 hb.1 hb.2.1 hb.2.2 hz
theorem qa4:∀ t∈zT,Q0 (rowP t) (rowQ t)=rowR t:=by decide
def encP (x:Sp3)(t:Tr):PyData:=.tuple [encS x,encS (rowP t),encS (rowQ t)]
theorem ixP0 (x:Sp3)(t:Tr):ixD (encP x t) (.int 0)=some (encS x):=rfl
theorem ixP1 (x:Sp3)(t:Tr):ixD (encP x t) (.int 1)=some (encS (rowP t)):=rfl
theorem ixP2 (x:Sp3)(t:Tr):ixD (encP x t) (.int 2)=some (encS (rowQ t)):=rfl
theorem ixS0 (x:Sp3):ixD (encS x) (.int 0)=some (.int x.x):=rfl
theorem ixS1 (x:Sp3):ixD (encS x) (.int 1)=some (.int x.y):=rfl
theorem ixS2 (x:Sp3):ixD (encS x) (.int 2)=some (.int x.z):=rfl
theorem eqvS (a:Sp3):PyData.eqv (encS a) (encS a)=true:=qcI _ _ _
theorem neS (x:Sp3):neD (encS x) (encS x)=some (.bool false):=by
 have h:neD (encS x) (encS x)=some (.bool (!PyData.eqv (encS x) (encS x))):=rfl
 rw [h,eqvS];rfl
theorem neP (x:Sp3)(t:Tr):neD (encP x t) (encP x t)=some (.bool false):=by
 have h:neD (encP x t) (encP x t)=some (.bool (!(PyData.eqv (encS x) (encS x)&&(PyData.eqv (encS (rowP t)) (encS (rowP t))&&(PyData.eqv (encS (rowQ t)) (encS (rowQ t))&&true))))):=rfl
 rw [h,eqvS,eqvS,eqvS]
 rfl
structure Tn (t:Tr):Prop where
 mem:t∈zT
 bd:TrBd 1 t
 bp:SpBd 1 (rowP t)
 bq:SpBd 1 (rowQ t)
 br:SpBd 1 (rowR t)
 cr:Q0 (rowP t) (rowQ t)=rowR t
theorem Tn.of {t:Tr}(h:t∈zT):Tn t :=
 have b:=(tr_bd t h).bd
 ⟨h,b,(Jb b).1,(Jb b).2.1,(Jb b).2.2,qa4 t h⟩
theorem outE {x:Sp3}{t:Tr}(h:Tn t):Zw [encP x t]=some (encS (rowR t)):=by
 have e:=YB h.bp h.bq
 rw [h.cr] at e
 simp only [Zw,JL]
 simp_arith [ixP1,ixP2,e]
theorem backE (t:Tr):Qn [encT t]=some (encT (trT t)):=by
 simp only [Qn,ZL,encT,trT,S3,T3]
 simp_arith []
theorem qcA (a b:Sp3):ZP [encS a,encS b]=some (encS (addS a b)):=by
 simp only [ZP,yJ,encS,S3,addS]
 simp_arith []
theorem Yk (a:Sp3):z9 [encS a]=some (encS (negS a)):=by
 simp only [z9,jG,encS,S3,negS]
 simp_arith []
def unV (t:Tr)(w:Int):Sp3:=if w=0 then rowP t else if w=1 then rowQ t else if w=2 then negS (rowP t) else negS (rowQ t)
def beV (t:Tr)(w b:Int):Sp3:=if b=1 then rowR t else if b=-1 then negS (rowR t) else unV t w
def nmB (b:Int):Str:=if b=1 then "Up" else if b=-1 then "Down" else "Join"
def edV (t:Tr)(w:Int):Sp3:=Q0 (unV t w) (rowR t)
def rwT (a b c:Sp3):Tr:=⟨a.x,a.y,a.z,b.x,b.y,b.z,c.x,c.y,c.z⟩
def tuV (t:Tr)(w b:Int):Tr:=mulT (trT (rwT (unV t w) (rowR t) (edV t w))) (rwT (beV t w b) (Q0 (edV t w) (beV t w b)) (edV t w))
def stV (t:Tr)(w b:Int):Tr:=rwT (app (tuV t w b) (rowP t)) (app (tuV t w b) (rowQ t)) (Q0 (app (tuV t w b) (rowP t)) (app (tuV t w b) (rowQ t)))
def spV (x:Sp3)(t:Tr)(w b:Int):Sp3:=addS (addS x (unV t w)) (beV t w b)
def Qo:List Int:=[0,1,2,3]
def zN:List Int:=[-1,0,1]
instance (n:Nat) (s:Sp3):Decidable (SpBd n s):=by unfold SpBd;exact inferInstance
theorem qdK:∀ t∈zT,∀ w∈Qo,∀ b∈zN,stV t w b∈zT:=by decide +kernel
theorem qcw:∀ t∈zT,∀ w∈Qo,SpBd 1 (unV t w)/\SpBd 1 (edV t w):=by decide +kernel
theorem qcn:∀ t∈zT,∀ w∈Qo,∀ b∈zN,SpBd 1 (beV t w b)/\SpBd 1 (Q0 (edV t w) (beV t w b)):=by decide +kernel
theorem qce:∀ t∈zT,∀ w∈Qo,∀ b∈zN,stV (stV t w b) ((w+2) % 4) b=t/\addS (addS (unV t w) (beV t w b)) (addS (unV (stV t w b) ((w+2) % 4)) (beV (stV t w b) ((w+2) % 4) b))=⟨0,0,0⟩:=by decide +kernel
theorem qcx (x:Sp3)(t:Tr){w:Int}(hw:w∈Qo):Qh [encP x t,.int w]=some (encS (unV t w)):=by
 simp only [Qo,List.mem_cons,List.not_mem_nil,or_false] at hw
 simp only [Qh,jH]
 rcases hw with rfl|rfl|rfl|rfl<;>simp_arith [ixP1,ixP2,Yk]<;>rfl
theorem mt_j (ds:List PyData):mtD za (objD "Join" :: ds)=Qc (objD "Join" :: ds):=by kernel_rfl
theorem mt_u (ds:List PyData):mtD za (objD "Up" :: ds)=Qu (objD "Up" :: ds):=by kernel_rfl
theorem mt_d (ds:List PyData):mtD za (objD "Down" :: ds)=Qa (objD "Down" :: ds):=by kernel_rfl
theorem goesE (t:Tr)(w:Int){b:Int}(hb:b∈zN):mtD za [objD (nmB b),encS (unV t w),encS (rowR t)]=some (encS (beV t w b)):=by
 simp only [zN,List.mem_cons,List.not_mem_nil,or_false] at hb
 rcases hb with rfl|rfl|rfl
 ·show mtD za [objD "Down", encS (unV t w),encS (rowR t)]=some (encS (negS (rowR t)))
  rw [mt_d]
  simp only [Qa,QR]
  simp_arith [Yk]
 ·show mtD za [objD "Join", encS (unV t w),encS (rowR t)]=some (encS (unV t w))
  rw [mt_j]
  simp only [Qc,QS]
  simp_arith []
 ·show mtD za [objD "Up", encS (unV t w),encS (rowR t)]=some (encS (rowR t))
  rw [mt_u]
  simp only [Qu,Zc]
  simp_arith []
theorem mkT3 (a b c:Sp3):PyData.tuple [encS a,encS b,encS c]=encT (rwT a b c):=rfl
theorem qa3 {n:Nat}{a b c:Sp3}(ha:SpBd n a)(hb:SpBd n b)(hc:SpBd n c):TrBd n (rwT a b c):=⟨ha.1,ha.2.1,ha.2.2,hb.1,hb.2.1,hb.2.2,hc.1,hc.2.1,hc.2.2⟩
theorem ledE (x:Sp3){t:Tr}(h:Tn t){w b:Int}(hw:w∈Qo)(hb:b∈zN):zW [objD (nmB b),encP x t,.int w]=some (encP (spV x t w b) (stV t w b)):=by
 obtain ⟨u1,u2⟩:=qcw t h.mem w hw
 obtain ⟨u3,u4⟩:=qcn t h.mem w hw b hb
 have e1:=qcx x t hw
 have e2:=outE (x:=x) h
 have e3:=YB u1 h.br
 have e4:=goesE t w hb
 have e5:=YB u2 u3
 have e6:=backE (rwT (unV t w) (rowR t) (edV t w))
 have b1:=qdO (qa3 u1 h.br u2)
 have b2:=qa3 u3 u4 u2
 have e7:=qbC b1 b2
 have e8:=ju (wN b1 b2) h.bp
 have e9:=ju (wN b1 b2) h.bq
 have e3':Qw [encS (unV t w),encS (rowR t)]=some (encS (edV t w)):=e3
 simp only [zW,Z3]
 simp_arith [e1,e2,e3',e4,e5,mkT3,e6,e7,ixP0,ixP1,ixP2,qcA,e8,e9]
 rfl
theorem yq (ns:List Int)(k:Int)(hk:0<=k):zc [.list (ns.map .int),.int k]=some (.int (QK ns k)):=by
 simp only [zc,ZD]
 simp_arith []
 by_cases h:k<((ns.map PyData.int).length:Int)
 ·have h':k.toNat<ns.length:=by rw [List.length_map] at h;omega
  have e:atI (ns.map PyData.int) k=some (.int (QK ns k)):=by
   have e1:((k.toNat:Nat):Int)=k:=by omega
   have:=ww (xs:=ns.map PyData.int) (j:=k.toNat) (v:=.int (QK ns k)) (by
    rw [List.getElem?_map,List.getElem?_eq_getElem h']
    unfold QK
    rw [List.getD_eq_getElem?_getD,List.getElem?_eq_getElem h']
    rfl)
   rw [e1] at this
   exact this
  simp_arith [decide_eq_true h,e]
 ·have h':¬ k.toNat<ns.length:=by rw [List.length_map] at h;omega
  have e:QK ns k=0:=by
   unfold QK
   rw [List.getD_eq_getElem?_getD,List.getElem?_eq_none (by omega)]
   rfl
  simp_arith [decide_eq_false h,e]
def sumS (a:Sp3)(k:Int)(c:Sp3):Sp3:=⟨a.x+k*c.x,a.y+k*c.y,a.z+k*c.z⟩
def dotS (a c:Sp3):Int:=a.x*c.x+a.y*c.y+a.z*c.z
theorem sumE {n m:Nat}(a:Sp3){k:Int}{c:Sp3}(hk:Bd n k)(hc:SpBd m c)(hz:n+m<=134217728:=by decide):q9 [encS a,.int k,encS c]=some (encS (sumS a k c)):=by
 obtain ⟨c1,c2,c3⟩:=hc
 simp only [q9,Z5]
 simp_arith [ixS0,ixS1,ixS2,qM (hk.ok c1 hz),qM (hk.ok c2 hz),qM (hk.ok c3 hz)]
 rfl
theorem dotE {n m:Nat}{a c:Sp3}(ha:SpBd n a)(hc:SpBd m c)(hz:n+m<=134217728:=by decide):zx [encS a,encS c]=some (.int (dotS a c)):=by
 obtain ⟨a1,a2,a3⟩:=ha
 obtain ⟨c1,c2,c3⟩:=hc
 simp only [zx,Zd]
 simp_arith [ixS0,ixS1,ixS2,qM (a1.ok c1 hz),qM (a2.ok c2 hz),qM (a3.ok c3 hz)]
 rfl
theorem sum0 (a:Sp3):sumS ⟨0,0,0⟩ 1 a=a:=by
 unfold sumS
 cases a
 congr 1<;>dsimp only<;>omega
theorem sumN (a:Sp3):sumS ⟨0,0,0⟩ (-1) a=negS a:=by
 unfold sumS negS
 congr 1<;>dsimp only<;>omega
theorem sum1 (a b:Sp3):sumS a 1 b=addS a b:=by
 unfold sumS addS
 congr 1<;>omega
theorem qav (x:Sp3){t:Tr}(h:Tn t){w:Int}(hw:w∈Qo):zG [encP x t,.int w]=some (encS (unV t w)):=by
 simp only [Qo,List.mem_cons,List.not_mem_nil,or_false] at hw
 have b1:Bd 1 1:=by decide
 have b2:Bd 1 (-1):=by decide
 have e1:=sumE ⟨0,0,0⟩ b1 h.bp
 have e2:=sumE ⟨0,0,0⟩ b1 h.bq
 have e3:=sumE ⟨0,0,0⟩ b2 h.bp
 have e4:=sumE ⟨0,0,0⟩ b2 h.bq
 have k0:mulD (.int 2) (.int (0 / 2))=some (.int 0):=rfl
 have k1:mulD (.int 2) (.int (1 / 2))=some (.int 0):=rfl
 have k2:mulD (.int 2) (.int (2 / 2))=some (.int 2):=rfl
 have k3:mulD (.int 2) (.int (3 / 2))=some (.int 2):=rfl
 have i0:ixD (encP x t) (.int (1+0 % 2))=some (encS (rowP t)):=rfl
 have i1:ixD (encP x t) (.int (1+1 % 2))=some (encS (rowQ t)):=rfl
 have i2:ixD (encP x t) (.int (1+2 % 2))=some (encS (rowP t)):=rfl
 have i3:ixD (encP x t) (.int (1+3 % 2))=some (encS (rowQ t)):=rfl
 have z:PyData.tuple [.int 0,.int 0,.int 0]=encS ⟨0,0,0⟩:=rfl
 simp only [zG,ZK]
 rcases hw with rfl|rfl|rfl|rfl
 ·simp_arith [k0,i0,z,e1,sum0]
  rfl
 ·simp_arith [k1,i1,z,e2,sum0]
  rfl
 ·simp_arith [k2,i2,z,e3,sumN]
  rfl
 ·simp_arith [k3,i3,z,e4,sumN]
  rfl
theorem on_eq:∀ t∈zT,∀ w∈Qo,∀ b∈zN,b≠0->sumS ⟨0,0,0⟩ b (rowR t)=beV t w b:=by decide +kernel
theorem qcH:∀ t∈zT,∀ w∈Qo,Bd 1 (dotS (rowP t) (unV t w))/\Bd 1 (dotS (rowP t) (edV t w))/\Bd 1 (dotS (rowQ t) (unV t w))/\Bd 1 (dotS (rowQ t) (edV t w)):=by decide +kernel
theorem qci:∀ t∈zT,∀ w∈Qo,∀ b∈zN,sumS (sumS ⟨0,0,0⟩ (dotS (rowP t) (unV t w)) (beV t w b)) (dotS (rowP t) (edV t w)) (edV t w)=rowP (stV t w b)/\sumS (sumS ⟨0,0,0⟩ (dotS (rowQ t) (unV t w)) (beV t w b)) (dotS (rowQ t) (edV t w)) (edV t w)=rowQ (stV t w b):=by decide +kernel
theorem lledE (x:Sp3){t:Tr}(h:Tn t){w b:Int}(hw:w∈Qo)(hb:b∈zN):QL [encP x t,.int w,.int b]=some (encP (spV x t w b) (stV t w b)):=by
 obtain ⟨u1,u2⟩:=qcw t h.mem w hw
 obtain ⟨u3,u4⟩:=qcn t h.mem w hw b hb
 obtain ⟨d1,d2,d3,d4⟩:=qcH t h.mem w hw
 obtain ⟨t1,t2⟩:=qci t h.mem w hw b hb
 have b1:Bd 1 1:=by decide
 have bb:Bd 1 b:=by
  simp only [zN,List.mem_cons,List.not_mem_nil,or_false] at hb
  rcases hb with rfl|rfl|rfl<;>decide
 have e1:=qav x h hw
 have e2:=wJ h.bp h.bq
 rw [h.cr] at e2
 have e3:qT [encS (unV t w),encS (rowR t)]=some (encS (edV t w)):=wJ u1 h.br
 have e4:=sumE ⟨0,0,0⟩ bb h.br
 have e5:=sumE x b1 u1
 have e6:=sumE (sumS x 1 (unV t w)) b1 u3
 have e7:=dotE h.bp u1
 have e8:=dotE h.bp u2
 have e9:=dotE h.bq u1
 have e10:=dotE h.bq u2
 have s1:=sumE ⟨0,0,0⟩ d1 u3
 have s2:=sumE ⟨0,0,0⟩ d3 u3
 have s3:=sumE (sumS ⟨0,0,0⟩ (dotS (rowP t) (unV t w)) (beV t w b)) d2 u2
 have s4:=sumE (sumS ⟨0,0,0⟩ (dotS (rowQ t) (unV t w)) (beV t w b)) d4 u2
 have z:PyData.tuple [.int 0,.int 0,.int 0]=encS ⟨0,0,0⟩:=rfl
 have sl:sliD (encP x t) (some 1) none=some (.tuple [encS (rowP t),encS (rowQ t)]):=rfl
 have fin:PyData.tuple [encS (sumS (sumS x 1 (unV t w)) 1 (beV t w b)),encS (rowP (stV t w b)),encS (rowQ (stV t w b))]=encP (spV x t w b) (stV t w b):=by rw [sum1,sum1];rfl
 have fl:∀ s:Sp3,flat (encS s)=true:=fun _=>rfl
 simp only [QL,Z4]
 by_cases h0:b=0
 ·have hn:neD (.int b) (.int 0)=some (.bool false):=by rw [h0];rfl
  have hbe:beV t w b=unV t w:=by rw [h0];rfl
  rw [hbe] at e6 s1 s2 s3 s4 t1 t2 fin
  simp_arith [e1,ixP0,ixP1,ixP2,e2,hn,e3,z,e5,e6,sl,e7,e8,e9,e10,s1,s2,s3,s4,t1,t2,fin,fl]
 ·have hn:neD (.int b) (.int 0)=some (.bool true):=by
   have:neD (.int b) (.int 0)=some (.bool (!(b==0))):=rfl
   rw [this,beq_eq_false_iff_ne.mpr h0];rfl
  rw [on_eq t h.mem w hw b hb h0] at e4
  simp_arith [e1,ixP0,ixP1,ixP2,e2,hn,e3,z,e4,e5,e6,sl,e7,e8,e9,e10,s1,s2,s3,s4,t1,t2,fin,fl]
theorem lspot (x:Sp3):zp [encS x]=some (.bool true):=by kernel_rfl
theorem lpose (x:Sp3)(t:Tr):zF [encP x t]=some (.bool true):=by kernel_rfl
theorem qaw (n:Int):zf [.int n]=some (.bool true):=rfl
theorem qc5 (z:Int):Bd 100 (z % 10 ^ 29-10 ^ 28):=Bd.of (by
 have a1:=Int.emod_nonneg z (b:=10 ^ 29) (by decide)
 have a2:=Int.emod_lt_of_pos z (b:=10 ^ 29) (by decide)
 generalize z % 10 ^ 29=z at a1 a2 ⊢
 omega)
theorem b2:Bd 2 2:=by decide
theorem p1:powD (.int 10) (.int 29)=some (.int (10 ^ 29)):=rfl
theorem p2:powD (.int 10) (.int 28)=some (.int (10 ^ 28)):=rfl
theorem md (z:Int):modD (.int z) (.int (10 ^ 29))=some (.int (z % 10 ^ 29)):=wM z (by decide)
theorem m1 (z:Int):mulD (.int 2) (.int (z % 9-4))=some (.int (2*(z % 9-4))):=qM (b2.ok (m:=100) (Bd.of (by omega)))
theorem m2 (z:Int):mulD (.int 2) (.int (z % 10 ^ 29-10 ^ 28))=some (.int (2*(z % 10 ^ 29-10 ^ 28))):=qM (b2.ok (qc5 z))
theorem qdp {P Q:Int}(p1:powD (.int 10) (.int 29)=some (.int P))(p2:powD (.int 10) (.int 28)=some (.int Q))(md:∀ z:Int,modD (.int z) (.int P)=some (.int (z % P)))(m2:∀ z:Int,mulD (.int 2) (.int (z % P-Q))=some (.int (2*(z % P-Q))))(a0 a2 a3 a4:Option PyData)(far o0 o1 o2:Int):∃ (i j k:Int) (a7 a8:Option PyData),forD (gNm 7) (seqO (sSet 8 (ev2 (ev2 (ev2 (vr 1) (ev2 (kd (.int 3)) (ev2 (kd (.int 4)) (vr 7) mulD) zz) QX) (kd (.int 9)) modD) (kd (.int 4)) subD)) (seqO (sIf (tV (ev2 (ev2 (vr 1) (kd (.int 3)) modD) (kd (.int 1)) eqD)) (sSet 8 (ev2 (ev2 (ev2 (vr 1) (ev2 (kd (.int 3)) (ev2 (kd (.int 4)) (vr 7) mulD) zz) QX) (ev2 (kd (.int 10)) (kd (.int 29)) powD) modD) (ev2 (kd (.int 10)) (kd (.int 28)) powD) subD)) sN) (sApp 6 (ev2 (ev2 (ev2 (kd (.int 2)) (vr 8) mulD) (kd (.int 1)) zz) (evA (aC (ev2 (vr 5) (vr 7) ixD) aN) absD) subD)))) [.int 0,.int 1,.int 2] [a0,some (.int far),a2,a3,a4,some (.tuple [.int o0,.int o1,.int o2]),some (.list []),none,none] =
  some (.nx [a0,some (.int far),a2,a3,a4,some (.tuple [.int o0,.int o1,.int o2]),some (.list [.int i,.int j,.int k]),a7,a8]):=by
 have k0:mulD (.int 4) (.int 0)=some (.int 0):=rfl
 have k1:mulD (.int 4) (.int 1)=some (.int 4):=rfl
 have k2:mulD (.int 4) (.int 2)=some (.int 8):=rfl
 by_cases h:far % 3=1
 ·simp_arith [k0,k1,k2,m1,m2,md,p1,p2,h,beq_self_eq_true]
  exact ⟨_,_,_,_,_,rfl⟩
 ·have e:(far % 3==1)=false:=beq_eq_false_iff_ne.mpr h
  simp_arith [k0,k1,k2,m1,m2,md,p1,p2,e]
  exact ⟨_,_,_,_,_,rfl⟩
theorem ploop (a0 a2 a3 a4:Option PyData)(far o0 o1 o2:Int):∃ (i j k:Int) (a7 a8:Option PyData),forD (gNm 7) (seqO (sSet 8 (ev2 (ev2 (ev2 (vr 1) (ev2 (kd (.int 3)) (ev2 (kd (.int 4)) (vr 7) mulD) zz) QX) (kd (.int 9)) modD) (kd (.int 4)) subD)) (seqO (sIf (tV (ev2 (ev2 (vr 1) (kd (.int 3)) modD) (kd (.int 1)) eqD)) (sSet 8 (ev2 (ev2 (ev2 (vr 1) (ev2 (kd (.int 3)) (ev2 (kd (.int 4)) (vr 7) mulD) zz) QX) (ev2 (kd (.int 10)) (kd (.int 29)) powD) modD) (ev2 (kd (.int 10)) (kd (.int 28)) powD) subD)) sN) (sApp 6 (ev2 (ev2 (ev2 (kd (.int 2)) (vr 8) mulD) (kd (.int 1)) zz) (evA (aC (ev2 (vr 5) (vr 7) ixD) aN) absD) subD)))) [.int 0,.int 1,.int 2] [a0,some (.int far),a2,a3,a4,some (.tuple [.int o0,.int o1,.int o2]),some (.list []),none,none] =
  some (.nx [a0,some (.int far),a2,a3,a4,some (.tuple [.int o0,.int o1,.int o2]),some (.list [.int i,.int j,.int k]),a7,a8]):=qdp p1 p2 md m2 a0 a2 a3 a4 far o0 o1 o2
def tw (u v:Sp3):Tr:=rwT u v (Q0 u v)
theorem qc2 (c far:Int):∃ x t,Qm [.int c,.int far]=some (encP x t)/\Tn t:=by
 have h6:c % 6=0\/c % 6=1\/c % 6=2\/c % 6=3\/c % 6=4\/c % 6=5:=by omega
 have h4:c / 6 % 4=0\/c / 6 % 4=1\/c / 6 % 4=2\/c / 6 % 4=3:=by omega
 have k00:mulD (.int 0) (.int 0)=some (.int 0):=rfl
 have k01:mulD (.int 0) (.int 1)=some (.int 0):=rfl
 have k02:mulD (.int 0) (.int (-1))=some (.int 0):=rfl
 have k10:mulD (.int 1) (.int 0)=some (.int 0):=rfl
 have k11:mulD (.int 1) (.int 1)=some (.int 1):=rfl
 have k12:mulD (.int 1) (.int (-1))=some (.int (-1)):=rfl
 have k20:mulD (.int (-1)) (.int 0)=some (.int 0):=rfl
 have k21:mulD (.int (-1)) (.int 1)=some (.int (-1)):=rfl
 have k22:mulD (.int (-1)) (.int (-1))=some (.int 1):=rfl
 have hr:∀ ρ:Rho,(evR (aC (kd (.int 3)) aN) jt) ρ=some [.int 0,.int 1,.int 2]:=fun _=>rfl
 simp only [Qm,ZJ]
 rcases h6 with h6|h6|h6|h6|h6|h6<;>rcases h4 with h4|h4|h4|h4 <;>
  (
   simp_arith [-L2.qai,-L2.qaj,h6,h4,qT,Qx,zx,Zd,k00,k01,k02,k10,k11,k12,k20,k21,k22,Int.reduceSub,Int.reduceBEq,hr]
   obtain ⟨i,j,k,a7,a8,e⟩:=ploop _ _ _ _ far _ _ _
   rw [e]
   simp_arith []
   exact ⟨⟨i,j,k⟩,tw ⟨_,_,_⟩ ⟨_,_,_⟩,rfl,Tn.of (by decide)⟩)
theorem qbc:Qv [excD "NoBend" .none]=some (.bool true):=by kernel_rfl
theorem qbe {n:Int}(h1:n≠-1)(h2:n≠0)(h3:n≠1):zL [.int n]=some (.bool false):=by
 have e1:Q8 [.int n]=some (.bool true):=rfl
 have e2:inD (.int n) j8=some (.bool ((-1==n)||((0==n)||((1==n)||false)))):=rfl
 rw [beq_eq_false_iff_ne.mpr h1.symm,beq_eq_false_iff_ne.mpr h2.symm,beq_eq_false_iff_ne.mpr h3.symm] at e2
 simp only [zL,jF]
 simp_arith [e1,e2]
theorem YZ {n:Int}(h1:n≠-1)(h2:n≠0)(h3:n≠1):qK [.int n]=some (.bool true):=by
 have e0:=qbe h1 h2 h3
 have hx:Qj [.int n]=some (excD "NoBend" .none):=by
  have h:Q6 [some (.int n)]=some (excD "NoBend" .none,[some (.int n)]):=by
   have y:evC 1 (aC (vr 0) aN) zL [some (.int n)]=some (.bool false):=by simp_arith [e0]
   simp only [Q6,xSeq,xIf,tN,tV,y,ob]
   rfl
  show ob (Q6 [some (.int n)]) (fun r=>some r.1)=_
  rw [h];rfl
 have hw:∀ ρ:Rho,Yt 1 (aC (vr 0) aN) Qj (some (.int n)::ρ)=some (excD "NoBend" .none,some (.int n)::ρ):=fun ρ=>by
  have:Yt 1 (aC (vr 0) aN) Qj (some (.int n)::ρ)=ob (Qj [.int n]) fun x=>some (x,some (.int n)::ρ):=rfl
  rw [this,hx];rfl
 simp only [qK,zP]
 simp_arith []
 rw [qdD (hw _) (by decide +kernel)]
 simp_arith [qbc,wO,qaw]
 by_cases q:(-1:Int)<=n
 ·have q2:¬ n<=1:=by omega
  simp_arith [decide_eq_true q,decide_eq_false q2]
  rfl
 ·simp_arith [decide_eq_false q]
  rfl
theorem jV (n:Int):qK [.int n]=some (.bool true):=by
 by_cases h1:n=-1
 ·subst h1;kernel_rfl
 by_cases h2:n=0
 ·subst h2;kernel_rfl
 by_cases h3:n=1
 ·subst h3;kernel_rfl
 exact YZ h1 h2 h3
theorem things:∀ d∈[PyData.bool true,.bool false,.none,.str "", .str "0", .str "up", .list [],.list [.int 1],.tuple [],.tuple [.int 0],.dict [],.dict [(.int 1,.int 0)],.str "-1", .tuple [.int (-1),.int 0,.int 1]],qK [d]=some (.bool true):=by
 repeat' (first|refine List.forall_mem_cons.mpr ⟨?_,?_⟩|exact fun x hx=>by cases hx)
 all_goals kernel_rfl
theorem qch (c:Int):∃ d,Qe [.int c]=some d/\qK [d]=some (.bool true):=by
 have hm2:mulD (.int 2) (.int (10 ^ 30))=some (.int (2*10 ^ 30)):=rfl
 have md:∀ z:Int,modD (.int z) (.int (2*10 ^ 30+1))=some (.int (z % (2*10 ^ 30+1))):=fun _=>rfl
 simp only [Qe,Ze]
 simp_arith []
 by_cases h0:c % 3=0
 ·simp_arith [h0,beq_self_eq_true]
  exact ⟨_,rfl,jV _⟩
 have e0:(c % 3==0)=false:=beq_eq_false_iff_ne.mpr h0
 simp_arith [e0]
 by_cases h1:c % 3=1
 ·simp_arith [h1,beq_self_eq_true,hm2,md]
  exact ⟨_,rfl,jV _⟩
 have e1:(c % 3==1)=false:=beq_eq_false_iff_ne.mpr h1
 have hd:yS (.int 1) (.int 0)=some (.dict [(.int 1,.int 0)]):=rfl
 simp_arith [e1,hd]
 have a1:=Int.emod_nonneg (c / 3) (b:=14) (by decide)
 have a2:=Int.emod_lt_of_pos (c / 3) (b:=14) (by decide)
 generalize c / 3 % 14=i at a1 a2 ⊢
 obtain ⟨k,rfl⟩:∃ k:Nat,i=(k:Int):=⟨i.toNat,by omega⟩
 have hk:k<14:=by omega
 have:=List.getElem?_eq_getElem (l:=[PyData.bool true,.bool false,.none,.str "", .str "0", .str "up", .list [],.list [.int 1],.tuple [],.tuple [.int 0],.dict [],.dict [(.int 1,.int 0)],.str "-1", .tuple [.int (-1),.int 0,.int 1]]) (i:=k) hk
 rw [ww this]
 exact ⟨_,rfl,things _ (List.getElem_mem _)⟩
theorem qcU {b:Int}(hb:b∈zN):Qy [.int b]=some (objD (nmB b))/\QW [.int b]=some (objD (nmB b))/\mtD jk [objD (nmB b)]=some (.int b)/\zR [objD (nmB b),.int b]=some (.bool true):=by
 simp only [zN,List.mem_cons,List.not_mem_nil,or_false] at hb
 rcases hb with rfl|rfl|rfl<;>exact ⟨by kernel_rfl,by kernel_rfl,by kernel_rfl,by kernel_rfl⟩
theorem Yj {b:Int}(hb:b∈zN)(ds:List PyData):mtD jB (objD (nmB b)::ds)=zW (objD (nmB b)::ds):=by
 simp only [zN,List.mem_cons,List.not_mem_nil,or_false] at hb
 rcases hb with rfl|rfl|rfl<;>kernel_rfl
theorem Wx (ns:List Int)(_:ns.length<=63)(_:∀ k∈ns,Builtin.Int.intBits k<=2 ^ 20):qaf [.list (ns.map .int)]=some (.bool true):=by
 have c0:=yq ns 0 (by decide)
 have c1:=yq ns 1 (by decide)
 have c2:=yq ns 2 (by decide)
 have c3:=yq ns 3 (by decide)
 have hb:QK ns 0 % 3-1∈zN:=by
  simp only [zN,List.mem_cons,List.not_mem_nil,or_false]
  omega
 have hw:QK ns 0 / 3 % 4∈Qo:=by
  simp only [Qo,List.mem_cons,List.not_mem_nil,or_false]
  omega
 obtain ⟨x,t,ep,ht⟩:=qc2 (QK ns 1) (QK ns 2)
 obtain ⟨d,ed,er⟩:=qch (QK ns 3)
 generalize hB:QK ns 0 % 3-1=b at hb
 generalize hW:QK ns 0 / 3 % 4=w at hw
 have hw':(w+2) % 4∈Qo:=by
  simp only [Qo,List.mem_cons,List.not_mem_nil,or_false] at hw ⊢
  omega
 obtain ⟨j1,j2,j3,j4⟩:=qcU hb
 have ht':=Tn.of (qdK t ht.mem w hw b hb)
 have e1:=qcx x t hw
 have e2:=qav x ht hw
 have e3:=lledE x ht hw hb
 have e4:=ledE x ht hw hb
 have e5:=ledE (spV x t w b) ht' hw' hb
 obtain ⟨k1,k2⟩:=qce t ht.mem w hw b hb
 have k3:spV (spV x t w b) (stV t w b) ((w+2) % 4) b=x:=by
  unfold spV
  rw [ZX x,ZX (addS x _),ZX x,k2,Wb]
 rw [k1,k3] at e5
 have m4:=Yj hb [encP x t,.int w]
 have m5:=Yj hb [encP (spV x t w b) (stV t w b),.int ((w+2) % 4)]
 rw [e4] at m4
 rw [e5] at m5
 have ne:neD (.int b) (.int b)=some (.bool false):=by
  have:neD (.int b) (.int b)=some (.bool (!(b==b))):=rfl
  rw [this,beq_self_eq_true];rfl
 simp only [qaf,qa7]
 simp_arith [c0,c1,c2,c3,hB,hW,ep,e1,ed,lspot,e2,neS,er,e3,j1,j2,j3,j4,qaw,ne,m4,lpose,neP,m5]
theorem qcB {l:PySem.W.OpenLaw}{w:World}{K:PySem.W.Frag}{h:Heap}{mg:Str->Option Value}{fa f33:Addr}(X:K.In h)(G:h.Ns mainGlobals mg)(hfa:mg "law" = some (.ref fa))
  {od33 an33:Option Addr} {sl33:Array (Option Value)} {oc33 kV33 dc33 pm33 cd33 ct33:Value}
  (h0:FnK K "is_whole" Tq19)
  (h1:FnK K "added" Tq31)
  (h2:FnK K "negated" Tq24)
  (h3:FnK K "cross" Tq32)
  (h4:FnK K "turned" Tq29)
  (h5:FnK K "joined_turns" Tq2)
  (h6:FnK K "turn_back" Tq12)
  (h7:FnK K "out_of" Tq30)
  (h8:FnK K "unit_of" Tq25)
  (h9:FnK K "is_bend" Tq26)
  (h10:FnK K "join_of" Tq27)
  (h11:FnK K "_law_cell" Tq13)
  (h12:FnK K "_law_whole" Tq7)
  (h13:FnK K "_law_cross" Tq8)
  (h14:FnK K "_law_dot" Tq20)
  (h15:FnK K "_law_sum" Tq21)
  (h16:FnK K "_law_unit" Tq14)
  (h17:FnK K "_law_led" Tq22)
  (h18:FnK K "_law_pose" Tq15)
  (h19:FnK K "_law_is_spot" Tq3)
  (h20:FnK K "_law_is_pose" Tq4)
  (h21:FnK K "_law_thing" Tq9)
  (h22:FnK K "_law_alone" Tq10)
  (h23:FnK K "_law_refused_well" Tq0)
  (h24:FnK K "_law_of_class" Tq1)
  (h25:FnK K "_law_made" Tq16)
  (a33:PySem.W.nsIn K mainGlobals "law" = some (some (.ref f33))) (l33:K.lookup f33=some ⟨oc33,od33,.func (PySem.W.fnOf "law" "law" (Qt Tq33) (zu Tq33) (qj Tq33) .none kV33 dc33 pm33 an33 cd33 ct33),sl33⟩) (c33:PySem.W.codeIn K cd33 "law" = true) (k33:PySem.W.keepIn K (.ref f33)=true)
  (z0:PySem.W.nsIn K mainGlobals "isinstance" = some none)
  (z1:PySem.W.nsIn K mainGlobals "int" = some none)
  (z2:PySem.W.nsIn K mainGlobals "bool" = some none)
  (z3:PySem.W.nsIn K mainGlobals "tuple" = some none)
  (z4:PySem.W.nsIn K mainGlobals "range" = some none)
  (z5:PySem.W.nsIn K mainGlobals "len" = some none)
  (z6:PySem.W.nsIn K mainGlobals "abs" = some none)
  (z7:PySem.W.nsIn K mainGlobals "all" = some none)
  (z8:PySem.W.nsIn K mainGlobals "ValueError" = some none)
  (ct:ctB K CS=true)
  (hm0:MthK K "Join" "goes_on" "Join.goes_on" Tq5)
  (hm1:MthK K "Up" "goes_on" "Up.goes_on" Tq11)
  (hm2:MthK K "Down" "goes_on" "Down.goes_on" Tq6)
  (hm3:MthK K "Join" "bend" "Join.bend" Tq17)
  (hm4:MthK K "Up" "bend" "Up.bend" Tq28)
  (hm5:MthK K "Down" "bend" "Down.bend" Tq18)
  (hm6:MthK K "Join" "led" "Join.led" Tq23)
  (hm7:MthK K "Up" "led" "Join.led" Tq23)
  (hm8:MthK K "Down" "led" "Join.led" Tq23)
  (xt:xtB K XS=true) (e_NoBend:yU K "NoBend" = true)
  {kc0_a0:Addr}
  {kc0_d0:Option Addr}
  {kc0_n0:Nat}
  {kc0_s0:Array (Option Value)}
  {kc0_t4:Tok}
  {kc0_t5:Tok}
  {kc0_t6:Tok}
  (kc0:PySem.W.nsIn K mainGlobals "BENDS" = some (some (.ref kc0_a0)))
  (kc0_h0:K.lookup kc0_a0=some ⟨.type "tuple", kc0_d0,.seq #[(.int (-1) kc0_t4),(.int (0) kc0_t5),(.int (1) kc0_t6)] kc0_n0,kc0_s0⟩)
  : ∃ fd:FuncData,(∀ (s:Shared) (v:Value),BindsTo s fd ⟨[v],[]⟩ [("_law_script", v)])/\∀ base:Heap,K.In base->base.Ns mainGlobals mg->FnOk l.prog w K mg base CX0 5 fa fd ["_law_script"] (Y4 K 63):=by
 have g {n:Str} {v:Value} (e:PySem.W.nsIn K mainGlobals n=some (some v)):mg n=some v:=PySem.W.mg_of X G e
 have e:=hfa.symm.trans (g a33)
 cases e
 obtain ⟨f0,d0,a0,F0⟩:=h0
 have b0:=F0.binds (ps:=["thing"]) fun _ _ _ _ _ _ us hl=>match us,hl with | [_],_=>rfl
 obtain ⟨f1,d1,a1,F1⟩:=h1
 have b1:=F1.binds (ps:=["one", "other"]) fun _ _ _ _ _ _ us hl=>match us,hl with | [_,_],_=>rfl
 obtain ⟨f2,d2,a2,F2⟩:=h2
 have b2:=F2.binds (ps:=["spot"]) fun _ _ _ _ _ _ us hl=>match us,hl with | [_],_=>rfl
 obtain ⟨f3,d3,a3,F3⟩:=h3
 have b3:=F3.binds (ps:=["one", "other"]) fun _ _ _ _ _ _ us hl=>match us,hl with | [_,_],_=>rfl
 obtain ⟨f4,d4,a4,F4⟩:=h4
 have b4:=F4.binds (ps:=["turn", "spot"]) fun _ _ _ _ _ _ us hl=>match us,hl with | [_,_],_=>rfl
 obtain ⟨f5,d5,a5,F5⟩:=h5
 have b5:=F5.binds (ps:=["first", "second"]) fun _ _ _ _ _ _ us hl=>match us,hl with | [_,_],_=>rfl
 obtain ⟨f6,d6,a6,F6⟩:=h6
 have b6:=F6.binds (ps:=["turn"]) fun _ _ _ _ _ _ us hl=>match us,hl with | [_],_=>rfl
 obtain ⟨f7,d7,a7,F7⟩:=h7
 have b7:=F7.binds (ps:=["pose"]) fun _ _ _ _ _ _ us hl=>match us,hl with | [_],_=>rfl
 obtain ⟨f8,d8,a8,F8⟩:=h8
 have b8:=F8.binds (ps:=["pose", "way"]) fun _ _ _ _ _ _ us hl=>match us,hl with | [_,_],_=>rfl
 obtain ⟨f9,d9,a9,F9⟩:=h9
 have b9:=F9.binds (ps:=["thing"]) fun _ _ _ _ _ _ us hl=>match us,hl with | [_],_=>rfl
 obtain ⟨f10,d10,a10,F10⟩:=h10
 have b10:=F10.binds (ps:=["bend"]) fun _ _ _ _ _ _ us hl=>match us,hl with | [_],_=>rfl
 obtain ⟨f11,d11,a11,F11⟩:=h11
 have b11:=F11.binds (ps:=["_law_script", "_law_k"]) fun _ _ _ _ _ _ us hl=>match us,hl with | [_,_],_=>rfl
 obtain ⟨f12,d12,a12,F12⟩:=h12
 have b12:=F12.binds (ps:=["_law_found"]) fun _ _ _ _ _ _ us hl=>match us,hl with | [_],_=>rfl
 obtain ⟨f13,d13,a13,F13⟩:=h13
 have b13:=F13.binds (ps:=["_law_one", "_law_other"]) fun _ _ _ _ _ _ us hl=>match us,hl with | [_,_],_=>rfl
 obtain ⟨f14,d14,a14,F14⟩:=h14
 have b14:=F14.binds (ps:=["_law_one", "_law_other"]) fun _ _ _ _ _ _ us hl=>match us,hl with | [_,_],_=>rfl
 obtain ⟨f15,d15,a15,F15⟩:=h15
 have b15:=F15.binds (ps:=["_law_one", "_law_many", "_law_other"]) fun _ _ _ _ _ _ us hl=>match us,hl with | [_,_,_],_=>rfl
 obtain ⟨f16,d16,a16,F16⟩:=h16
 have b16:=F16.binds (ps:=["_law_pose_here", "_law_way"]) fun _ _ _ _ _ _ us hl=>match us,hl with | [_,_],_=>rfl
 obtain ⟨f17,d17,a17,F17⟩:=h17
 have b17:=F17.binds (ps:=["_law_pose_here", "_law_way", "_law_bend"]) fun _ _ _ _ _ _ us hl=>match us,hl with | [_,_,_],_=>rfl
 obtain ⟨f18,d18,a18,F18⟩:=h18
 have b18:=F18.binds (ps:=["_law_cell_here", "_law_far"]) fun _ _ _ _ _ _ us hl=>match us,hl with | [_,_],_=>rfl
 obtain ⟨f19,d19,a19,F19⟩:=h19
 have b19:=F19.binds (ps:=["_law_thing_here"]) fun _ _ _ _ _ _ us hl=>match us,hl with | [_],_=>rfl
 obtain ⟨f20,d20,a20,F20⟩:=h20
 have b20:=F20.binds (ps:=["_law_thing_here"]) fun _ _ _ _ _ _ us hl=>match us,hl with | [_],_=>rfl
 obtain ⟨f21,d21,a21,F21⟩:=h21
 have b21:=F21.binds (ps:=["_law_cell_here"]) fun _ _ _ _ _ _ us hl=>match us,hl with | [_],_=>rfl
 obtain ⟨f22,d22,a22,F22⟩:=h22
 have b22:=F22.binds (ps:=["_law_refusal"]) fun _ _ _ _ _ _ us hl=>match us,hl with | [_],_=>rfl
 obtain ⟨f23,d23,a23,F23⟩:=h23
 have b23:=F23.binds (ps:=["_law_thing_here"]) fun _ _ _ _ _ _ us hl=>match us,hl with | [_],_=>rfl
 obtain ⟨f24,d24,a24,F24⟩:=h24
 have b24:=F24.binds (ps:=["_law_join", "_law_bend"]) fun _ _ _ _ _ _ us hl=>match us,hl with | [_,_],_=>rfl
 obtain ⟨f25,d25,a25,F25⟩:=h25
 have b25:=F25.binds (ps:=["_law_bend"]) fun _ _ _ _ _ _ us hl=>match us,hl with | [_],_=>rfl
 have F33:=YD (st:=Tq33) l33 c33 k33
 have z_isinstance:=PySem.W.mg_none_of X G z0
 have z_int:=PySem.W.mg_none_of X G z1
 have z_bool:=PySem.W.mg_none_of X G z2
 have z_tuple:=PySem.W.mg_none_of X G z3
 have z_range:=PySem.W.mg_none_of X G z4
 have z_len:=PySem.W.mg_none_of X G z5
 have z_abs:=PySem.W.mg_none_of X G z6
 have z_all:=PySem.W.mg_none_of X G z7
 have z_ValueError:=PySem.W.mg_none_of X G z8
 obtain ⟨C_0,g_0,e_0,n_0,me_0,Fm_0⟩:=hm0
 have bm_0:=Fm_0.binds (ps:=["self", "unit", "out"]) fun _ _ _ _ _ _ us hl=>match us,hl with | [_,_,_],_=>rfl
 obtain ⟨C_1,g_1,e_1,n_1,me_1,Fm_1⟩:=hm1
 have bm_1:=Fm_1.binds (ps:=["self", "unit", "out"]) fun _ _ _ _ _ _ us hl=>match us,hl with | [_,_,_],_=>rfl
 obtain ⟨C_2,g_2,e_2,n_2,me_2,Fm_2⟩:=hm2
 have bm_2:=Fm_2.binds (ps:=["self", "unit", "out"]) fun _ _ _ _ _ _ us hl=>match us,hl with | [_,_,_],_=>rfl
 obtain ⟨C_3,g_3,e_3,n_3,me_3,Fm_3⟩:=hm3
 have bm_3:=Fm_3.binds (ps:=["self"]) fun _ _ _ _ _ _ us hl=>match us,hl with | [_],_=>rfl
 obtain ⟨C_4,g_4,e_4,n_4,me_4,Fm_4⟩:=hm4
 have bm_4:=Fm_4.binds (ps:=["self"]) fun _ _ _ _ _ _ us hl=>match us,hl with | [_],_=>rfl
 obtain ⟨C_5,g_5,e_5,n_5,me_5,Fm_5⟩:=hm5
 have bm_5:=Fm_5.binds (ps:=["self"]) fun _ _ _ _ _ _ us hl=>match us,hl with | [_],_=>rfl
 obtain ⟨C_6,g_6,e_6,n_6,me_6,Fm_6⟩:=hm6
 have bm_6:=Fm_6.binds (ps:=["self", "pose", "way"]) fun _ _ _ _ _ _ us hl=>match us,hl with | [_,_,_],_=>rfl
 obtain ⟨C_7,g_7,e_7,n_7,me_7,Fm_7⟩:=hm7
 have bm_7:=Fm_7.binds (ps:=["self", "pose", "way"]) fun _ _ _ _ _ _ us hl=>match us,hl with | [_,_,_],_=>rfl
 obtain ⟨C_8,g_8,e_8,n_8,me_8,Fm_8⟩:=hm8
 have bm_8:=Fm_8.binds (ps:=["self", "pose", "way"]) fun _ _ _ _ _ _ us hl=>match us,hl with | [_,_,_],_=>rfl
 have CT:=qbq X G ct
 have XT:=qcj X G xt
 have C_BENDS:Yu K mg "BENDS" j8:=⟨(.ref kc0_a0),(.ref kc0_a0),PySem.W.mg_of X G kc0,rfl,fun H S=>(.tuple (xs:=[(.int (-1)),(.int (0)),(.int (1))]) (.inr ⟨_,_,_,kc0_h0,rfl,rfl,(show 3<=sizeLine by decide),(.cons ⟨_,rfl⟩ (.cons ⟨_,rfl⟩ (.cons ⟨_,rfl⟩ .nil)))⟩) (.cons (.int (-1)) (.cons (.int (0)) (.cons (.int (1)) .nil))))⟩
 refine ⟨PySem.W.fnOf "law" "law" (Qt Tq33) (zu Tq33) (qj Tq33) .none kV33 dc33 pm33 an33 cd33 ct33,fun s v=>.of_eq rfl,fun base _ _=>?_⟩
 have b33:=F33.binds (ps:=["_law_script"]) fun _ _ _ _ _ _ us hl=>match us,hl with | [_],_=>rfl
 have K_is_whole:=YJ l.prog w base F0 (g a0) b0 z_isinstance z_int z_bool
 have K_added:=qbD l.prog w base F1 (g a1) b1
 have K_negated:=Wu l.prog w base F2 (g a2) b2
 have K_cross:=qbE l.prog w base F3 (g a3) b3
 have K_turned:=qap l.prog w base F4 (g a4) b4 z_tuple z_range
 have K_joined_turns:=Jw l.prog w base F5 (g a5) b5 K_turned
 have K_turn_back:=Ye l.prog w base F6 (g a6) b6 z_tuple z_range
 have K_out_of:=qao l.prog w base F7 (g a7) b7 K_cross
 have K_unit_of:=Wv l.prog w base F8 (g a8) b8 K_negated
 have K_is_bend:=Ws l.prog w base F9 (g a9) b9 K_is_whole C_BENDS
 have K_join_of:=Wt l.prog w base F10 (g a10) b10 K_is_bend CT XT e_NoBend
 have R_join_of:=WQ l.prog w base F10 (g a10) b10 K_is_bend CT XT e_NoBend
 have K__law_cell:=yZ l.prog w base F11 (g a11) b11 z_len
 have K__law_whole:=yE l.prog w base F12 (g a12) b12 z_isinstance z_int z_bool
 have K__law_cross:=yC l.prog w base F13 (g a13) b13
 have K__law_dot:=YF l.prog w base F14 (g a14) b14
 have K__law_sum:=YH l.prog w base F15 (g a15) b15
 have K__law_unit:=Yd l.prog w base F16 (g a16) b16 K__law_sum
 have K__law_led:=YG l.prog w base F17 (g a17) b17 K__law_unit K__law_cross K__law_sum K__law_dot z_tuple
 have K__law_pose:=Yc l.prog w base F18 (g a18) b18 K__law_dot K__law_cross z_abs z_range z_tuple
 have K__law_is_spot:=Jv l.prog w base F19 (g a19) b19 K__law_whole z_isinstance z_tuple z_len z_all
 have K__law_is_pose:=Ju l.prog w base F20 (g a20) b20 K__law_is_spot z_isinstance z_tuple z_len z_all
 have K__law_thing:=yD l.prog w base F21 (g a21) b21
 have K__law_alone:=yz l.prog w base F22 (g a22) b22 z_isinstance z_ValueError XT
 have K__law_refused_well:=ZV l.prog w base F23 (g a23) b23 K_join_of K__law_alone K__law_whole z_isinstance CT XT R_join_of
 have K__law_of_class:=j5 l.prog w base F24 (g a24) b24 z_isinstance CT
 have K__law_made:=Yb l.prog w base F25 (g a25) b25 CT
 have M_goes_on:KnownC l.prog w K mg base "goes_on" 3 2 za:=⟨fun p hp=>by
  simp only [za,List.mem_cons,List.not_mem_nil,or_false] at hp
  rcases hp with rfl|rfl|rfl
  ·exact ⟨_,_,_,_,_,n_0,me_0,by decide,Jt l.prog w base Fm_0,bm_0⟩
  ·exact ⟨_,_,_,_,_,n_1,me_1,by decide,yx l.prog w base Fm_1,bm_1⟩
  ·exact ⟨_,_,_,_,_,n_2,me_2,by decide,Js l.prog w base Fm_2 K_negated,bm_2⟩⟩
 have M_bend:KnownC l.prog w K mg base "bend" 1 1 jk:=⟨fun p hp=>by
  simp only [jk,List.mem_cons,List.not_mem_nil,or_false] at hp
  rcases hp with rfl|rfl|rfl
  ·exact ⟨_,_,_,_,_,n_3,me_3,by decide,yX l.prog w base Fm_3,bm_3⟩
  ·exact ⟨_,_,_,_,_,n_4,me_4,by decide,Wr l.prog w base Fm_4,bm_4⟩
  ·exact ⟨_,_,_,_,_,n_5,me_5,by decide,yW l.prog w base Fm_5,bm_5⟩⟩
 have M_led:KnownC l.prog w K mg base "led" 3 3 jB:=⟨fun p hp=>by
  simp only [jB,List.mem_cons,List.not_mem_nil,or_false] at hp
  rcases hp with rfl|rfl|rfl
  ·exact ⟨_,_,_,_,_,n_6,me_6,by decide,ZZ l.prog w base Fm_6 K_unit_of K_out_of K_cross K_joined_turns K_turn_back K_turned K_added M_goes_on,bm_6⟩
  ·exact ⟨_,_,_,_,_,n_7,me_7,by decide,ZZ l.prog w base Fm_7 K_unit_of K_out_of K_cross K_joined_turns K_turn_back K_turned K_added M_goes_on,bm_7⟩
  ·exact ⟨_,_,_,_,_,n_8,me_8,by decide,ZZ l.prog w base Fm_8 K_unit_of K_out_of K_cross K_joined_turns K_turn_back K_turned K_added M_goes_on,bm_8⟩⟩
 exact qas (qc6 l.prog w base F33 K__law_cell K__law_pose K_unit_of K__law_thing K__law_is_spot K__law_unit K__law_refused_well K__law_led K__law_of_class K__law_whole K__law_is_pose K__law_made K_join_of M_bend M_led) Wx
end SF
open PySem PySem.W PyProof.Rows
set_option maxRecDepth 100000 in
set_option maxHeartbeats 0 in
theorem PySem.Challenge.cw_sheetfold_k11_a_join_leads_holds : PySem.Challenge.rw_sheetfold_k11_a_join_leads.Holds := by
 w_on;o_law
 refine PySem.W.holds_open (q:=HD.vw) (YP:=(PySem.W.kHook HD.KH HD.kA HD.kE).says) HD.left (PySem.W.Hook.of _) (PySem.W.Hook.keeps _) (fun s e=>PySem.W.xl_of s (Bool.and_eq_true_iff.mp e).1) PySem.W.XL.keeps (by rfl) (by rfl) (by rfl) (fun s e=>PySem.W.recFacts_of (Bool.and_eq_true_iff.mp e).2) (by rfl) (by first|assumption|decide +kernel) (by decide +kernel) ⟨rfl,rfl,rfl,rfl,rfl,by decide +kernel⟩ ?hw ?hc
 case hw=>w_witness2
 k_fill
 refine L2.WY (l:=PySem.Challenge.rw_sheetfold_k11_a_join_leads) (n:=63) (k:=5) (x := "_law_script") rfl (by decide) rfl ⟨rfl,by decide,by decide⟩ (fun w h Y=>PySem.W.kIn_of Y) ?F
 case F =>
  intro w mg fa h KX G hmg
  refine' SF.qcB KX G hmg ?_ ?_ ?_ ?_ ?_ ?_ ?_ ?_ ?_ ?_ ?_ ?_ ?_ ?_ ?_ ?_ ?_ ?_ ?_ ?_ ?_ ?_ ?_ ?_ ?_ ?_ ?_ ?_ ?_ ?_ ?_ ?_ ?_ ?_ ?_ ?_ ?_ ?_ ?_ ?_ ?_ ?_ ?_ ?_ ?_ ?_ ?_ ?_ ?_ ?_ ?_ ?_ ?_
  all_goals try first|k_is|exact L2.FnK.of (by k_is) (by k_is) (by k_is) (by k_is)|exact L2.MthK.of (by k_is) (by k_is) (by k_is) (by k_is) (by k_is) (by k_is)|kernel_rfl
