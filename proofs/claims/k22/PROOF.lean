import PyProof.Rows.All
import Wide.All
import OpenK.AllK
import Wide.FinOn
import Lean
import PyProof.EqAt
import PyProof.EqKinds
import PyProof.TupleCall
import PySem.Challenge.RW_sheetfold_k22_outward
set_option Elab.async false
set_option linter.all false
set_option maxRecDepth 100000
namespace HD
open PySem PySem.W PySem.Calls PyProof.Rows
noncomputable def vw:Program:=view PySem.Challenge.pw_sheetfold_k22_outward [1,2,3,4,5,6,7,8,9,10,11,12,13,14,16,17,18,20,21,22,23,24,26,27,29,30,31,32,33,34,35,36,37,38,39,40]
def tp (i:Nat):Stmt:=PySem.Challenge.pw_sheetfold_k22_outward.main.body.getD i (.Pass ⟨0,0,0,0⟩)
def dA:Stmt->Arguments
 | .FunctionDef _ a _ _ _ _ _ _ _ _=>a
 | _=>default
def dB:Stmt->List Stmt
 | .FunctionDef _ _ b _ _ _ _ _ _ _=>b
 | _=>[]
def dS:Stmt->Scope
 | .FunctionDef _ _ _ _ _ _ s _ _ _=>s
 | _=>default
abbrev de (P:Params) (x:String) (t:Nat) (v:Value):DictEntry:=DictEntry.mk (PyData.keyHash P (Str.ofString x)) (Value.str (Str.ofString x) t) v
set_option maxHeartbeats 0 in
noncomputable def KH:Params->Frag:=fun P =>
(nat_lit 2,Obj.mk Value.none Option.none (Data.dict #[]) #[]) ::
(nat_lit 3,Obj.mk (Value.type "dict") Option.none (Data.dict #[de P "__name__" 165 (Value.str (Str.ofString "law_sheetfold_k22_outward") 553),de P "__doc__" 166 Value.none,de P "__package__" 167 Value.none,de P "__loader__" 168 (Value.builtin "__main__.__loader__#opaque"),de P "__spec__" 169 Value.none,de P "__annotations__" 170 (Value.ref 6),de P "__builtins__" 171 (Value.ref 4),de P "__file__" 173 (Value.str (Str.ofString "/claim/cut.py") 172),de P "__cached__" 174 Value.none,de P "SheetError" 206 (Value.ref 24),de P "NoDrawing" 222 (Value.ref 37),de P "NoBend" 238 (Value.ref 49),de P "NoSquare" 254 (Value.ref 61),de P "TooMany" 270 (Value.ref 73),de P "NoTurn" 286 (Value.ref 85),de P "NoRow" 302 (Value.ref 97),de P "NoName" 318 (Value.ref 109),de P "NotClosed" 334 (Value.ref 121),de P "NoSheet" 359 (Value.ref 140),de P "NoSolid" 384 (Value.ref 159),de P "NoTree" 409 (Value.ref 178),de P "NoWay" 434 (Value.ref 197),de P "Crowded" 459 (Value.ref 216),de P "UNITS" 483 (Value.ref 225),de P "added" 491 (Value.ref 232),de P "negated" 498 (Value.ref 239),de P "axis_of" 506 (Value.ref 244),de P "middle_of" 513 (Value.ref 251),de P "cube_of" 520 (Value.ref 258),de P "cubes_at" 526 (Value.ref 263),de P "skin_of" 532 (Value.ref 268),de P "outward" 542 (Value.ref 275),de P "outward_from" 552 (Value.ref 282),de P "_law_cell_at" 562 (Value.ref 289),de P "_law_whole" 569 (Value.ref 296),de P "_law_spots" 578 (Value.ref 303),de P "_law_base" 587 (Value.ref 310),de P "_law_solid" 603 (Value.ref 317),de P "_law_near" 615 (Value.ref 324),de P "_law_kinds" 624 (Value.ref 331),de P "_law_due" 636 (Value.ref 338),de P "_law_refused" 646 (Value.ref 345),de P "_law_right" 657 (Value.ref 352),de P "_law_asked" 663 (Value.ref 357),de P "law" 669 (Value.ref 362)] 45) #[]) ::
(nat_lit 15,Obj.mk (Value.type "tuple") Option.none (Data.seq #[Value.type "ValueError"]) #[]) ::
(nat_lit 22,Obj.mk (Value.type "tuple") Option.none (Data.seq #[]) #[]) ::
(nat_lit 23,Obj.mk (Value.type "dict") Option.none (Data.dict #[de P "__module__" 196 (Value.str (Str.ofString "sheetfold.errors") 187),de P "__firstlineno__" 200 (Value.int 2 199),de P "__static_attributes__" 201 (Value.ref 22),de P "__weakref__" 203 (Value.ref 25),de P "__doc__" 204 Value.none] 3) #[]) ::
(nat_lit 24,Obj.mk (Value.type "type") Option.none (Data.cls (ClassData.mk (Str.ofString "SheetError") [Value.type "ValueError"] [Value.ref 24,Value.type "ValueError", Value.type "Exception", Value.type "BaseException", Value.type "object"] 23 (Str.ofString "SheetError") Bool.true [] [Value.ref 37,Value.ref 49,Value.ref 61,Value.ref 73,Value.ref 85,Value.ref 97,Value.ref 109,Value.ref 121,Value.ref 140,Value.ref 159,Value.ref 178,Value.ref 197,Value.ref 216] Bool.false Option.none Bool.false)) #[Option.some (Value.ref 15),Option.none,Option.some (Value.str (Str.ofString "SheetError") 189),Option.some (Value.str (Str.ofString "SheetError") 197),Option.some (Value.builtin "ValueError.__new__"),Option.some (Value.bool Bool.true)]) ::
(nat_lit 25,Obj.mk (Value.type "getset_descriptor") Option.none (Data.fields #[Value.str (Str.ofString "__weakref__") 202,Value.ref 24,Value.builtin "ExceptionGroup.__weakref__", Value.none]) #[]) ::
(nat_lit 28,Obj.mk (Value.type "tuple") Option.none (Data.seq #[Value.ref 24]) #[]) ::
(nat_lit 35,Obj.mk (Value.type "tuple") Option.none (Data.seq #[]) #[]) ::
(nat_lit 36,Obj.mk (Value.type "dict") Option.none (Data.dict #[de P "__module__" 214 (Value.str (Str.ofString "sheetfold.errors") 187),de P "__firstlineno__" 218 (Value.int 4 217),de P "__static_attributes__" 219 (Value.ref 35),de P "__doc__" 220 Value.none] 2) #[]) ::
(nat_lit 37,Obj.mk (Value.type "type") Option.none (Data.cls (ClassData.mk (Str.ofString "NoDrawing") [Value.ref 24] [Value.ref 37,Value.ref 24,Value.type "ValueError", Value.type "Exception", Value.type "BaseException", Value.type "object"] 36 (Str.ofString "NoDrawing") Bool.true [] [] Bool.false Option.none Bool.false)) #[Option.some (Value.ref 28),Option.none,Option.some (Value.str (Str.ofString "NoDrawing") 207),Option.some (Value.str (Str.ofString "NoDrawing") 215),Option.some (Value.builtin "ValueError.__new__"),Option.some (Value.bool Bool.true)]) ::
(nat_lit 40,Obj.mk (Value.type "tuple") Option.none (Data.seq #[Value.ref 24]) #[]) ::
(nat_lit 47,Obj.mk (Value.type "tuple") Option.none (Data.seq #[]) #[]) ::
(nat_lit 48,Obj.mk (Value.type "dict") Option.none (Data.dict #[de P "__module__" 230 (Value.str (Str.ofString "sheetfold.errors") 187),de P "__firstlineno__" 234 (Value.int 6 233),de P "__static_attributes__" 235 (Value.ref 47),de P "__doc__" 236 Value.none] 2) #[]) ::
(nat_lit 49,Obj.mk (Value.type "type") Option.none (Data.cls (ClassData.mk (Str.ofString "NoBend") [Value.ref 24] [Value.ref 49,Value.ref 24,Value.type "ValueError", Value.type "Exception", Value.type "BaseException", Value.type "object"] 48 (Str.ofString "NoBend") Bool.true [] [] Bool.false Option.none Bool.false)) #[Option.some (Value.ref 40),Option.none,Option.some (Value.str (Str.ofString "NoBend") 223),Option.some (Value.str (Str.ofString "NoBend") 231),Option.some (Value.builtin "ValueError.__new__"),Option.some (Value.bool Bool.true)]) ::
(nat_lit 52,Obj.mk (Value.type "tuple") Option.none (Data.seq #[Value.ref 24]) #[]) ::
(nat_lit 59,Obj.mk (Value.type "tuple") Option.none (Data.seq #[]) #[]) ::
(nat_lit 60,Obj.mk (Value.type "dict") Option.none (Data.dict #[de P "__module__" 246 (Value.str (Str.ofString "sheetfold.errors") 187),de P "__firstlineno__" 250 (Value.int 8 249),de P "__static_attributes__" 251 (Value.ref 59),de P "__doc__" 252 Value.none] 2) #[]) ::
(nat_lit 61,Obj.mk (Value.type "type") Option.none (Data.cls (ClassData.mk (Str.ofString "NoSquare") [Value.ref 24] [Value.ref 61,Value.ref 24,Value.type "ValueError", Value.type "Exception", Value.type "BaseException", Value.type "object"] 60 (Str.ofString "NoSquare") Bool.true [] [] Bool.false Option.none Bool.false)) #[Option.some (Value.ref 52),Option.none,Option.some (Value.str (Str.ofString "NoSquare") 239),Option.some (Value.str (Str.ofString "NoSquare") 247),Option.some (Value.builtin "ValueError.__new__"),Option.some (Value.bool Bool.true)]) ::
(nat_lit 64,Obj.mk (Value.type "tuple") Option.none (Data.seq #[Value.ref 24]) #[]) ::
(nat_lit 71,Obj.mk (Value.type "tuple") Option.none (Data.seq #[]) #[]) ::
(nat_lit 72,Obj.mk (Value.type "dict") Option.none (Data.dict #[de P "__module__" 262 (Value.str (Str.ofString "sheetfold.errors") 187),de P "__firstlineno__" 266 (Value.int 10 265),de P "__static_attributes__" 267 (Value.ref 71),de P "__doc__" 268 Value.none] 2) #[]) ::
(nat_lit 73,Obj.mk (Value.type "type") Option.none (Data.cls (ClassData.mk (Str.ofString "TooMany") [Value.ref 24] [Value.ref 73,Value.ref 24,Value.type "ValueError", Value.type "Exception", Value.type "BaseException", Value.type "object"] 72 (Str.ofString "TooMany") Bool.true [] [] Bool.false Option.none Bool.false)) #[Option.some (Value.ref 64),Option.none,Option.some (Value.str (Str.ofString "TooMany") 255),Option.some (Value.str (Str.ofString "TooMany") 263),Option.some (Value.builtin "ValueError.__new__"),Option.some (Value.bool Bool.true)]) ::
(nat_lit 76,Obj.mk (Value.type "tuple") Option.none (Data.seq #[Value.ref 24]) #[]) ::
(nat_lit 83,Obj.mk (Value.type "tuple") Option.none (Data.seq #[]) #[]) ::
(nat_lit 84,Obj.mk (Value.type "dict") Option.none (Data.dict #[de P "__module__" 278 (Value.str (Str.ofString "sheetfold.errors") 187),de P "__firstlineno__" 282 (Value.int 12 281),de P "__static_attributes__" 283 (Value.ref 83),de P "__doc__" 284 Value.none] 2) #[]) ::
(nat_lit 85,Obj.mk (Value.type "type") Option.none (Data.cls (ClassData.mk (Str.ofString "NoTurn") [Value.ref 24] [Value.ref 85,Value.ref 24,Value.type "ValueError", Value.type "Exception", Value.type "BaseException", Value.type "object"] 84 (Str.ofString "NoTurn") Bool.true [] [] Bool.false Option.none Bool.false)) #[Option.some (Value.ref 76),Option.none,Option.some (Value.str (Str.ofString "NoTurn") 271),Option.some (Value.str (Str.ofString "NoTurn") 279),Option.some (Value.builtin "ValueError.__new__"),Option.some (Value.bool Bool.true)]) ::
(nat_lit 88,Obj.mk (Value.type "tuple") Option.none (Data.seq #[Value.ref 24]) #[]) ::
(nat_lit 95,Obj.mk (Value.type "tuple") Option.none (Data.seq #[]) #[]) ::
(nat_lit 96,Obj.mk (Value.type "dict") Option.none (Data.dict #[de P "__module__" 294 (Value.str (Str.ofString "sheetfold.errors") 187),de P "__firstlineno__" 298 (Value.int 14 297),de P "__static_attributes__" 299 (Value.ref 95),de P "__doc__" 300 Value.none] 2) #[]) ::
(nat_lit 97,Obj.mk (Value.type "type") Option.none (Data.cls (ClassData.mk (Str.ofString "NoRow") [Value.ref 24] [Value.ref 97,Value.ref 24,Value.type "ValueError", Value.type "Exception", Value.type "BaseException", Value.type "object"] 96 (Str.ofString "NoRow") Bool.true [] [] Bool.false Option.none Bool.false)) #[Option.some (Value.ref 88),Option.none,Option.some (Value.str (Str.ofString "NoRow") 287),Option.some (Value.str (Str.ofString "NoRow") 295),Option.some (Value.builtin "ValueError.__new__"),Option.some (Value.bool Bool.true)]) ::
(nat_lit 100,Obj.mk (Value.type "tuple") Option.none (Data.seq #[Value.ref 24]) #[]) ::
(nat_lit 107,Obj.mk (Value.type "tuple") Option.none (Data.seq #[]) #[]) ::
(nat_lit 108,Obj.mk (Value.type "dict") Option.none (Data.dict #[de P "__module__" 310 (Value.str (Str.ofString "sheetfold.errors") 187),de P "__firstlineno__" 314 (Value.int 16 313),de P "__static_attributes__" 315 (Value.ref 107),de P "__doc__" 316 Value.none] 2) #[]) ::
(nat_lit 109,Obj.mk (Value.type "type") Option.none (Data.cls (ClassData.mk (Str.ofString "NoName") [Value.ref 24] [Value.ref 109,Value.ref 24,Value.type "ValueError", Value.type "Exception", Value.type "BaseException", Value.type "object"] 108 (Str.ofString "NoName") Bool.true [] [] Bool.false Option.none Bool.false)) #[Option.some (Value.ref 100),Option.none,Option.some (Value.str (Str.ofString "NoName") 303),Option.some (Value.str (Str.ofString "NoName") 311),Option.some (Value.builtin "ValueError.__new__"),Option.some (Value.bool Bool.true)]) ::
(nat_lit 112,Obj.mk (Value.type "tuple") Option.none (Data.seq #[Value.ref 24]) #[]) ::
(nat_lit 119,Obj.mk (Value.type "tuple") Option.none (Data.seq #[]) #[]) ::
(nat_lit 120,Obj.mk (Value.type "dict") Option.none (Data.dict #[de P "__module__" 326 (Value.str (Str.ofString "sheetfold.errors") 187),de P "__firstlineno__" 330 (Value.int 18 329),de P "__static_attributes__" 331 (Value.ref 119),de P "__doc__" 332 Value.none] 2) #[]) ::
(nat_lit 121,Obj.mk (Value.type "type") Option.none (Data.cls (ClassData.mk (Str.ofString "NotClosed") [Value.ref 24] [Value.ref 121,Value.ref 24,Value.type "ValueError", Value.type "Exception", Value.type "BaseException", Value.type "object"] 120 (Str.ofString "NotClosed") Bool.true [] [] Bool.false Option.none Bool.false)) #[Option.some (Value.ref 112),Option.none,Option.some (Value.str (Str.ofString "NotClosed") 319),Option.some (Value.str (Str.ofString "NotClosed") 327),Option.some (Value.builtin "ValueError.__new__"),Option.some (Value.bool Bool.true)]) ::
(nat_lit 124,Obj.mk (Value.type "tuple") Option.none (Data.seq #[Value.ref 24]) #[]) ::
(nat_lit 131,Obj.mk (Value.type "tuple") Option.none (Data.seq #[]) #[]) ::
(nat_lit 133,Obj.mk (Value.type "tuple") Option.none (Data.seq #[Value.str (Str.ofString "self") 350,Value.str (Str.ofString "why") 351]) #[]) ::
(nat_lit 134,Obj.mk (Value.type "tuple") Option.none (Data.seq #[]) #[]) ::
(nat_lit 136,Obj.mk (Value.type "code") Option.none (Data.fields #[Value.str (Str.ofString "__init__") 347,Value.str (Str.ofString "NoSheet.__init__") 348,Value.str (Str.ofString "/claim/cut.py") 349,Value.int 22 0,Value.int 2 0,Value.int 0 0,Value.int 0 0,Value.int 3 0,Value.ref 131,Value.bool Bool.true,Value.int 181 0,Value.ref 132,Value.none,Value.ref 133,Value.ref 134,Value.ref 135,Value.int 352 0,Value.int 22 0,Value.str (Str.ofString "/claim/cut.py") 353]) #[]) ::
(nat_lit 137,Obj.mk (Value.type "function") Option.none (Data.func (FuncData.mk (Str.ofString "__init__") (Str.ofString "NoSheet.__init__") (Arguments.mk [] [Arg.mk (Str.ofString "self") Option.none (Pos.mk 22 17 22 21),Arg.mk (Str.ofString "why") Option.none (Pos.mk 22 23 22 26)] Option.none [] [] Option.none []) (FuncBody.stmts [Stmt.Expr (Expr.Call (Expr.Attribute (Expr.Name (Str.ofString "SheetError") (Pos.mk 23 8 23 18)) (Str.ofString "__init__") (Pos.mk 23 8 23 27)) [Expr.Name (Str.ofString "self") (Pos.mk 23 28 23 32),Expr.JoinedStr [Expr.Constant (Const.str (Str.ofString "no sheet: ")) 0 (Pos.mk 23 36 23 46),Expr.FormattedValue (Expr.Name (Str.ofString "why") (Pos.mk 23 47 23 50)) 114 Option.none (Pos.mk 23 46 23 53)] (Pos.mk 23 34 23 54)] [] (Pos.mk 23 8 23 55)) (Pos.mk 23 8 23 55),Stmt.Assign [Expr.Attribute (Expr.Name (Str.ofString "self") (Pos.mk 24 8 24 12)) (Str.ofString "why") (Pos.mk 24 8 24 16)] (Expr.Name (Str.ofString "why") (Pos.mk 24 19 24 22)) (Pos.mk 24 8 24 22)]) (Scope.mk ScopeKind.function [(Str.ofString "self", NameKind.local),(Str.ofString "why", NameKind.local),(Str.ofString "SheetError", NameKind.globalImplicit)] Bool.false Bool.false []) 3 [] Value.none Value.none Value.none (Value.str (Str.ofString "sheetfold.errors") 187) Option.none (Value.ref 136) Value.none 0)) #[]) ::
(nat_lit 138,Obj.mk (Value.type "tuple") Option.none (Data.seq #[Value.str (Str.ofString "why") 355]) #[]) ::
(nat_lit 139,Obj.mk (Value.type "dict") Option.none (Data.dict #[de P "__module__" 342 (Value.str (Str.ofString "sheetfold.errors") 187),de P "__firstlineno__" 346 (Value.int 20 345),de P "__init__" 354 (Value.ref 137),de P "__static_attributes__" 356 (Value.ref 138),de P "__doc__" 357 Value.none] 2) #[]) ::
(nat_lit 140,Obj.mk (Value.type "type") Option.none (Data.cls (ClassData.mk (Str.ofString "NoSheet") [Value.ref 24] [Value.ref 140,Value.ref 24,Value.type "ValueError", Value.type "Exception", Value.type "BaseException", Value.type "object"] 139 (Str.ofString "NoSheet") Bool.true [] [] Bool.false Option.none Bool.false)) #[Option.some (Value.ref 124),Option.none,Option.some (Value.str (Str.ofString "NoSheet") 335),Option.some (Value.str (Str.ofString "NoSheet") 343),Option.some (Value.builtin "ValueError.__new__"),Option.some (Value.bool Bool.true)]) ::
(nat_lit 143,Obj.mk (Value.type "tuple") Option.none (Data.seq #[Value.ref 24]) #[]) ::
(nat_lit 150,Obj.mk (Value.type "tuple") Option.none (Data.seq #[]) #[]) ::
(nat_lit 152,Obj.mk (Value.type "tuple") Option.none (Data.seq #[Value.str (Str.ofString "self") 375,Value.str (Str.ofString "why") 376]) #[]) ::
(nat_lit 153,Obj.mk (Value.type "tuple") Option.none (Data.seq #[]) #[]) ::
(nat_lit 155,Obj.mk (Value.type "code") Option.none (Data.fields #[Value.str (Str.ofString "__init__") 372,Value.str (Str.ofString "NoSolid.__init__") 373,Value.str (Str.ofString "/claim/cut.py") 374,Value.int 27 0,Value.int 2 0,Value.int 0 0,Value.int 0 0,Value.int 3 0,Value.ref 150,Value.bool Bool.true,Value.int 181 0,Value.ref 151,Value.none,Value.ref 152,Value.ref 153,Value.ref 154,Value.int 377 0,Value.int 27 0,Value.str (Str.ofString "/claim/cut.py") 378]) #[]) ::
(nat_lit 156,Obj.mk (Value.type "function") Option.none (Data.func (FuncData.mk (Str.ofString "__init__") (Str.ofString "NoSolid.__init__") (Arguments.mk [] [Arg.mk (Str.ofString "self") Option.none (Pos.mk 27 17 27 21),Arg.mk (Str.ofString "why") Option.none (Pos.mk 27 23 27 26)] Option.none [] [] Option.none []) (FuncBody.stmts [Stmt.Expr (Expr.Call (Expr.Attribute (Expr.Name (Str.ofString "SheetError") (Pos.mk 28 8 28 18)) (Str.ofString "__init__") (Pos.mk 28 8 28 27)) [Expr.Name (Str.ofString "self") (Pos.mk 28 28 28 32),Expr.JoinedStr [Expr.Constant (Const.str (Str.ofString "no solid: ")) 0 (Pos.mk 28 36 28 46),Expr.FormattedValue (Expr.Name (Str.ofString "why") (Pos.mk 28 47 28 50)) 114 Option.none (Pos.mk 28 46 28 53)] (Pos.mk 28 34 28 54)] [] (Pos.mk 28 8 28 55)) (Pos.mk 28 8 28 55),Stmt.Assign [Expr.Attribute (Expr.Name (Str.ofString "self") (Pos.mk 29 8 29 12)) (Str.ofString "why") (Pos.mk 29 8 29 16)] (Expr.Name (Str.ofString "why") (Pos.mk 29 19 29 22)) (Pos.mk 29 8 29 22)]) (Scope.mk ScopeKind.function [(Str.ofString "self", NameKind.local),(Str.ofString "why", NameKind.local),(Str.ofString "SheetError", NameKind.globalImplicit)] Bool.false Bool.false []) 3 [] Value.none Value.none Value.none (Value.str (Str.ofString "sheetfold.errors") 187) Option.none (Value.ref 155) Value.none 0)) #[]) ::
(nat_lit 157,Obj.mk (Value.type "tuple") Option.none (Data.seq #[Value.str (Str.ofString "why") 380]) #[]) ::
(nat_lit 158,Obj.mk (Value.type "dict") Option.none (Data.dict #[de P "__module__" 367 (Value.str (Str.ofString "sheetfold.errors") 187),de P "__firstlineno__" 371 (Value.int 25 370),de P "__init__" 379 (Value.ref 156),de P "__static_attributes__" 381 (Value.ref 157),de P "__doc__" 382 Value.none] 2) #[]) ::
(nat_lit 159,Obj.mk (Value.type "type") Option.none (Data.cls (ClassData.mk (Str.ofString "NoSolid") [Value.ref 24] [Value.ref 159,Value.ref 24,Value.type "ValueError", Value.type "Exception", Value.type "BaseException", Value.type "object"] 158 (Str.ofString "NoSolid") Bool.true [] [] Bool.false Option.none Bool.false)) #[Option.some (Value.ref 143),Option.none,Option.some (Value.str (Str.ofString "NoSolid") 360),Option.some (Value.str (Str.ofString "NoSolid") 368),Option.some (Value.builtin "ValueError.__new__"),Option.some (Value.bool Bool.true)]) ::
(nat_lit 162,Obj.mk (Value.type "tuple") Option.none (Data.seq #[Value.ref 24]) #[]) ::
(nat_lit 169,Obj.mk (Value.type "tuple") Option.none (Data.seq #[]) #[]) ::
(nat_lit 171,Obj.mk (Value.type "tuple") Option.none (Data.seq #[Value.str (Str.ofString "self") 400,Value.str (Str.ofString "why") 401]) #[]) ::
(nat_lit 172,Obj.mk (Value.type "tuple") Option.none (Data.seq #[]) #[]) ::
(nat_lit 174,Obj.mk (Value.type "code") Option.none (Data.fields #[Value.str (Str.ofString "__init__") 397,Value.str (Str.ofString "NoTree.__init__") 398,Value.str (Str.ofString "/claim/cut.py") 399,Value.int 32 0,Value.int 2 0,Value.int 0 0,Value.int 0 0,Value.int 3 0,Value.ref 169,Value.bool Bool.true,Value.int 181 0,Value.ref 170,Value.none,Value.ref 171,Value.ref 172,Value.ref 173,Value.int 402 0,Value.int 32 0,Value.str (Str.ofString "/claim/cut.py") 403]) #[]) ::
(nat_lit 175,Obj.mk (Value.type "function") Option.none (Data.func (FuncData.mk (Str.ofString "__init__") (Str.ofString "NoTree.__init__") (Arguments.mk [] [Arg.mk (Str.ofString "self") Option.none (Pos.mk 32 17 32 21),Arg.mk (Str.ofString "why") Option.none (Pos.mk 32 23 32 26)] Option.none [] [] Option.none []) (FuncBody.stmts [Stmt.Expr (Expr.Call (Expr.Attribute (Expr.Name (Str.ofString "SheetError") (Pos.mk 33 8 33 18)) (Str.ofString "__init__") (Pos.mk 33 8 33 27)) [Expr.Name (Str.ofString "self") (Pos.mk 33 28 33 32),Expr.JoinedStr [Expr.Constant (Const.str (Str.ofString "no tree: ")) 0 (Pos.mk 33 36 33 45),Expr.FormattedValue (Expr.Name (Str.ofString "why") (Pos.mk 33 46 33 49)) 114 Option.none (Pos.mk 33 45 33 52)] (Pos.mk 33 34 33 53)] [] (Pos.mk 33 8 33 54)) (Pos.mk 33 8 33 54),Stmt.Assign [Expr.Attribute (Expr.Name (Str.ofString "self") (Pos.mk 34 8 34 12)) (Str.ofString "why") (Pos.mk 34 8 34 16)] (Expr.Name (Str.ofString "why") (Pos.mk 34 19 34 22)) (Pos.mk 34 8 34 22)]) (Scope.mk ScopeKind.function [(Str.ofString "self", NameKind.local),(Str.ofString "why", NameKind.local),(Str.ofString "SheetError", NameKind.globalImplicit)] Bool.false Bool.false []) 3 [] Value.none Value.none Value.none (Value.str (Str.ofString "sheetfold.errors") 187) Option.none (Value.ref 174) Value.none 0)) #[]) ::
(nat_lit 176,Obj.mk (Value.type "tuple") Option.none (Data.seq #[Value.str (Str.ofString "why") 405]) #[]) ::
(nat_lit 177,Obj.mk (Value.type "dict") Option.none (Data.dict #[de P "__module__" 392 (Value.str (Str.ofString "sheetfold.errors") 187),de P "__firstlineno__" 396 (Value.int 30 395),de P "__init__" 404 (Value.ref 175),de P "__static_attributes__" 406 (Value.ref 176),de P "__doc__" 407 Value.none] 2) #[]) ::
(nat_lit 178,Obj.mk (Value.type "type") Option.none (Data.cls (ClassData.mk (Str.ofString "NoTree") [Value.ref 24] [Value.ref 178,Value.ref 24,Value.type "ValueError", Value.type "Exception", Value.type "BaseException", Value.type "object"] 177 (Str.ofString "NoTree") Bool.true [] [] Bool.false Option.none Bool.false)) #[Option.some (Value.ref 162),Option.none,Option.some (Value.str (Str.ofString "NoTree") 385),Option.some (Value.str (Str.ofString "NoTree") 393),Option.some (Value.builtin "ValueError.__new__"),Option.some (Value.bool Bool.true)]) ::
(nat_lit 181,Obj.mk (Value.type "tuple") Option.none (Data.seq #[Value.ref 24]) #[]) ::
(nat_lit 188,Obj.mk (Value.type "tuple") Option.none (Data.seq #[]) #[]) ::
(nat_lit 190,Obj.mk (Value.type "tuple") Option.none (Data.seq #[Value.str (Str.ofString "self") 425,Value.str (Str.ofString "at") 426]) #[]) ::
(nat_lit 191,Obj.mk (Value.type "tuple") Option.none (Data.seq #[]) #[]) ::
(nat_lit 193,Obj.mk (Value.type "code") Option.none (Data.fields #[Value.str (Str.ofString "__init__") 422,Value.str (Str.ofString "NoWay.__init__") 423,Value.str (Str.ofString "/claim/cut.py") 424,Value.int 37 0,Value.int 2 0,Value.int 0 0,Value.int 0 0,Value.int 3 0,Value.ref 188,Value.bool Bool.true,Value.int 181 0,Value.ref 189,Value.none,Value.ref 190,Value.ref 191,Value.ref 192,Value.int 427 0,Value.int 37 0,Value.str (Str.ofString "/claim/cut.py") 428]) #[]) ::
(nat_lit 194,Obj.mk (Value.type "function") Option.none (Data.func (FuncData.mk (Str.ofString "__init__") (Str.ofString "NoWay.__init__") (Arguments.mk [] [Arg.mk (Str.ofString "self") Option.none (Pos.mk 37 17 37 21),Arg.mk (Str.ofString "at") Option.none (Pos.mk 37 23 37 25)] Option.none [] [] Option.none []) (FuncBody.stmts [Stmt.Expr (Expr.Call (Expr.Attribute (Expr.Name (Str.ofString "SheetError") (Pos.mk 38 8 38 18)) (Str.ofString "__init__") (Pos.mk 38 8 38 27)) [Expr.Name (Str.ofString "self") (Pos.mk 38 28 38 32),Expr.JoinedStr [Expr.Constant (Const.str (Str.ofString "no join leads on from place ")) 0 (Pos.mk 38 36 38 64),Expr.FormattedValue (Expr.Name (Str.ofString "at") (Pos.mk 38 65 38 67)) 114 Option.none (Pos.mk 38 64 38 70)] (Pos.mk 38 34 38 71)] [] (Pos.mk 38 8 38 72)) (Pos.mk 38 8 38 72),Stmt.Assign [Expr.Attribute (Expr.Name (Str.ofString "self") (Pos.mk 39 8 39 12)) (Str.ofString "at") (Pos.mk 39 8 39 15)] (Expr.Name (Str.ofString "at") (Pos.mk 39 18 39 20)) (Pos.mk 39 8 39 20)]) (Scope.mk ScopeKind.function [(Str.ofString "self", NameKind.local),(Str.ofString "at", NameKind.local),(Str.ofString "SheetError", NameKind.globalImplicit)] Bool.false Bool.false []) 3 [] Value.none Value.none Value.none (Value.str (Str.ofString "sheetfold.errors") 187) Option.none (Value.ref 193) Value.none 0)) #[]) ::
(nat_lit 195,Obj.mk (Value.type "tuple") Option.none (Data.seq #[Value.str (Str.ofString "at") 430]) #[]) ::
(nat_lit 196,Obj.mk (Value.type "dict") Option.none (Data.dict #[de P "__module__" 417 (Value.str (Str.ofString "sheetfold.errors") 187),de P "__firstlineno__" 421 (Value.int 35 420),de P "__init__" 429 (Value.ref 194),de P "__static_attributes__" 431 (Value.ref 195),de P "__doc__" 432 Value.none] 2) #[]) ::
(nat_lit 197,Obj.mk (Value.type "type") Option.none (Data.cls (ClassData.mk (Str.ofString "NoWay") [Value.ref 24] [Value.ref 197,Value.ref 24,Value.type "ValueError", Value.type "Exception", Value.type "BaseException", Value.type "object"] 196 (Str.ofString "NoWay") Bool.true [] [] Bool.false Option.none Bool.false)) #[Option.some (Value.ref 181),Option.none,Option.some (Value.str (Str.ofString "NoWay") 410),Option.some (Value.str (Str.ofString "NoWay") 418),Option.some (Value.builtin "ValueError.__new__"),Option.some (Value.bool Bool.true)]) ::
(nat_lit 200,Obj.mk (Value.type "tuple") Option.none (Data.seq #[Value.ref 24]) #[]) ::
(nat_lit 207,Obj.mk (Value.type "tuple") Option.none (Data.seq #[]) #[]) ::
(nat_lit 209,Obj.mk (Value.type "tuple") Option.none (Data.seq #[Value.str (Str.ofString "self") 450,Value.str (Str.ofString "edge") 451]) #[]) ::
(nat_lit 210,Obj.mk (Value.type "tuple") Option.none (Data.seq #[]) #[]) ::
(nat_lit 212,Obj.mk (Value.type "code") Option.none (Data.fields #[Value.str (Str.ofString "__init__") 447,Value.str (Str.ofString "Crowded.__init__") 448,Value.str (Str.ofString "/claim/cut.py") 449,Value.int 42 0,Value.int 2 0,Value.int 0 0,Value.int 0 0,Value.int 3 0,Value.ref 207,Value.bool Bool.true,Value.int 181 0,Value.ref 208,Value.none,Value.ref 209,Value.ref 210,Value.ref 211,Value.int 452 0,Value.int 42 0,Value.str (Str.ofString "/claim/cut.py") 453]) #[]) ::
(nat_lit 213,Obj.mk (Value.type "function") Option.none (Data.func (FuncData.mk (Str.ofString "__init__") (Str.ofString "Crowded.__init__") (Arguments.mk [] [Arg.mk (Str.ofString "self") Option.none (Pos.mk 42 17 42 21),Arg.mk (Str.ofString "edge") Option.none (Pos.mk 42 23 42 27)] Option.none [] [] Option.none []) (FuncBody.stmts [Stmt.Expr (Expr.Call (Expr.Attribute (Expr.Name (Str.ofString "SheetError") (Pos.mk 43 8 43 18)) (Str.ofString "__init__") (Pos.mk 43 8 43 27)) [Expr.Name (Str.ofString "self") (Pos.mk 43 28 43 32),Expr.JoinedStr [Expr.Constant (Const.str (Str.ofString "four squares meet at ")) 0 (Pos.mk 43 36 43 57),Expr.FormattedValue (Expr.Name (Str.ofString "edge") (Pos.mk 43 58 43 62)) 114 Option.none (Pos.mk 43 57 43 65)] (Pos.mk 43 34 43 66)] [] (Pos.mk 43 8 43 67)) (Pos.mk 43 8 43 67),Stmt.Assign [Expr.Attribute (Expr.Name (Str.ofString "self") (Pos.mk 44 8 44 12)) (Str.ofString "edge") (Pos.mk 44 8 44 17)] (Expr.Name (Str.ofString "edge") (Pos.mk 44 20 44 24)) (Pos.mk 44 8 44 24)]) (Scope.mk ScopeKind.function [(Str.ofString "self", NameKind.local),(Str.ofString "edge", NameKind.local),(Str.ofString "SheetError", NameKind.globalImplicit)] Bool.false Bool.false []) 3 [] Value.none Value.none Value.none (Value.str (Str.ofString "sheetfold.errors") 187) Option.none (Value.ref 212) Value.none 0)) #[]) ::
(nat_lit 214,Obj.mk (Value.type "tuple") Option.none (Data.seq #[Value.str (Str.ofString "edge") 455]) #[]) ::
(nat_lit 215,Obj.mk (Value.type "dict") Option.none (Data.dict #[de P "__module__" 442 (Value.str (Str.ofString "sheetfold.errors") 187),de P "__firstlineno__" 446 (Value.int 40 445),de P "__init__" 454 (Value.ref 213),de P "__static_attributes__" 456 (Value.ref 214),de P "__doc__" 457 Value.none] 2) #[]) ::
(nat_lit 216,Obj.mk (Value.type "type") Option.none (Data.cls (ClassData.mk (Str.ofString "Crowded") [Value.ref 24] [Value.ref 216,Value.ref 24,Value.type "ValueError", Value.type "Exception", Value.type "BaseException", Value.type "object"] 215 (Str.ofString "Crowded") Bool.true [] [] Bool.false Option.none Bool.false)) #[Option.some (Value.ref 200),Option.none,Option.some (Value.str (Str.ofString "Crowded") 435),Option.some (Value.str (Str.ofString "Crowded") 443),Option.some (Value.builtin "ValueError.__new__"),Option.some (Value.bool Bool.true)]) ::
(nat_lit 219,Obj.mk (Value.type "tuple") Option.none (Data.seq #[Value.int (-1) 463,Value.int 0 464,Value.int 0 465]) #[]) ::
(nat_lit 220,Obj.mk (Value.type "tuple") Option.none (Data.seq #[Value.int 0 466,Value.int (-1) 468,Value.int 0 469]) #[]) ::
(nat_lit 221,Obj.mk (Value.type "tuple") Option.none (Data.seq #[Value.int 0 470,Value.int 0 471,Value.int (-1) 473]) #[]) ::
(nat_lit 222,Obj.mk (Value.type "tuple") Option.none (Data.seq #[Value.int 0 474,Value.int 0 475,Value.int 1 476]) #[]) ::
(nat_lit 223,Obj.mk (Value.type "tuple") Option.none (Data.seq #[Value.int 0 477,Value.int 1 478,Value.int 0 479]) #[]) ::
(nat_lit 224,Obj.mk (Value.type "tuple") Option.none (Data.seq #[Value.int 1 480,Value.int 0 481,Value.int 0 482]) #[]) ::
(nat_lit 225,Obj.mk (Value.type "tuple") Option.none (Data.seq #[Value.ref 219,Value.ref 220,Value.ref 221,Value.ref 222,Value.ref 223,Value.ref 224]) #[]) ::
(nat_lit 226,Obj.mk (Value.type "tuple") Option.none (Data.seq #[]) #[]) ::
(nat_lit 228,Obj.mk (Value.type "tuple") Option.none (Data.seq #[Value.str (Str.ofString "one") 487,Value.str (Str.ofString "other") 488]) #[]) ::
(nat_lit 229,Obj.mk (Value.type "tuple") Option.none (Data.seq #[]) #[]) ::
(nat_lit 231,Obj.mk (Value.type "code") Option.none (Data.fields #[Value.str (Str.ofString "added") 484,Value.str (Str.ofString "added") 485,Value.str (Str.ofString "/claim/cut.py") 486,Value.int 47 0,Value.int 2 0,Value.int 0 0,Value.int 0 0,Value.int 3 0,Value.ref 226,Value.bool Bool.true,Value.int 181 0,Value.ref 227,Value.none,Value.ref 228,Value.ref 229,Value.ref 230,Value.int 489 0,Value.int 47 0,Value.str (Str.ofString "/claim/cut.py") 490]) #[]) ::
(nat_lit 232,Obj.mk (Value.type "function") Option.none (Data.func (FuncData.mk (Str.ofString "added") (Str.ofString "added") (dA (tp 17)) (FuncBody.stmts (dB (tp 17))) (dS (tp 17)) 3 [] Value.none Value.none Value.none (Value.str (Str.ofString "sheetfold.turns") 460) Option.none (Value.ref 231) Value.none 0)) #[]) ::
(nat_lit 233,Obj.mk (Value.type "tuple") Option.none (Data.seq #[]) #[]) ::
(nat_lit 235,Obj.mk (Value.type "tuple") Option.none (Data.seq #[Value.str (Str.ofString "spot") 495]) #[]) ::
(nat_lit 236,Obj.mk (Value.type "tuple") Option.none (Data.seq #[]) #[]) ::
(nat_lit 238,Obj.mk (Value.type "code") Option.none (Data.fields #[Value.str (Str.ofString "negated") 492,Value.str (Str.ofString "negated") 493,Value.str (Str.ofString "/claim/cut.py") 494,Value.int 49 0,Value.int 1 0,Value.int 0 0,Value.int 0 0,Value.int 3 0,Value.ref 233,Value.bool Bool.true,Value.int 181 0,Value.ref 234,Value.none,Value.ref 235,Value.ref 236,Value.ref 237,Value.int 496 0,Value.int 49 0,Value.str (Str.ofString "/claim/cut.py") 497]) #[]) ::
(nat_lit 239,Obj.mk (Value.type "function") Option.none (Data.func (FuncData.mk (Str.ofString "negated") (Str.ofString "negated") (dA (tp 18)) (FuncBody.stmts (dB (tp 18))) (dS (tp 18)) 3 [] Value.none Value.none Value.none (Value.str (Str.ofString "sheetfold.turns") 460) Option.none (Value.ref 238) Value.none 0)) #[]) ::
(nat_lit 240,Obj.mk (Value.type "tuple") Option.none (Data.seq #[]) #[]) ::
(nat_lit 243,Obj.mk (Value.type "code") Option.none (Data.fields #[Value.str (Str.ofString "axis_of") 501,Value.str (Str.ofString "axis_of") 502,Value.str (Str.ofString "/claim/cut.py") 503,Value.int 52 0,Value.int 1 0,Value.int 0 0,Value.int 0 0,Value.int 3 0,Value.ref 240,Value.bool Bool.true,Value.int 181 0,Value.ref 241,Value.none,Value.none,Value.none,Value.ref 242,Value.int 504 0,Value.int 52 0,Value.str (Str.ofString "/claim/cut.py") 505]) #[]) ::
(nat_lit 244,Obj.mk (Value.type "function") Option.none (Data.func (FuncData.mk (Str.ofString "axis_of") (Str.ofString "axis_of") (dA (tp 20)) (FuncBody.stmts (dB (tp 20))) (dS (tp 20)) 3 [] Value.none Value.none Value.none (Value.str (Str.ofString "sheetfold.squares") 499) Option.none (Value.ref 243) Value.none 0)) #[]) ::
(nat_lit 245,Obj.mk (Value.type "tuple") Option.none (Data.seq #[]) #[]) ::
(nat_lit 247,Obj.mk (Value.type "tuple") Option.none (Data.seq #[Value.str (Str.ofString "cube") 510]) #[]) ::
(nat_lit 248,Obj.mk (Value.type "tuple") Option.none (Data.seq #[]) #[]) ::
(nat_lit 250,Obj.mk (Value.type "code") Option.none (Data.fields #[Value.str (Str.ofString "middle_of") 507,Value.str (Str.ofString "middle_of") 508,Value.str (Str.ofString "/claim/cut.py") 509,Value.int 54 0,Value.int 1 0,Value.int 0 0,Value.int 0 0,Value.int 3 0,Value.ref 245,Value.bool Bool.true,Value.int 181 0,Value.ref 246,Value.none,Value.ref 247,Value.ref 248,Value.ref 249,Value.int 511 0,Value.int 54 0,Value.str (Str.ofString "/claim/cut.py") 512]) #[]) ::
(nat_lit 251,Obj.mk (Value.type "function") Option.none (Data.func (FuncData.mk (Str.ofString "middle_of") (Str.ofString "middle_of") (dA (tp 21)) (FuncBody.stmts (dB (tp 21))) (dS (tp 21)) 3 [] Value.none Value.none Value.none (Value.str (Str.ofString "sheetfold.squares") 499) Option.none (Value.ref 250) Value.none 0)) #[]) ::
(nat_lit 252,Obj.mk (Value.type "tuple") Option.none (Data.seq #[]) #[]) ::
(nat_lit 254,Obj.mk (Value.type "tuple") Option.none (Data.seq #[Value.str (Str.ofString "spot") 517]) #[]) ::
(nat_lit 255,Obj.mk (Value.type "tuple") Option.none (Data.seq #[]) #[]) ::
(nat_lit 257,Obj.mk (Value.type "code") Option.none (Data.fields #[Value.str (Str.ofString "cube_of") 514,Value.str (Str.ofString "cube_of") 515,Value.str (Str.ofString "/claim/cut.py") 516,Value.int 56 0,Value.int 1 0,Value.int 0 0,Value.int 0 0,Value.int 3 0,Value.ref 252,Value.bool Bool.true,Value.int 181 0,Value.ref 253,Value.none,Value.ref 254,Value.ref 255,Value.ref 256,Value.int 518 0,Value.int 56 0,Value.str (Str.ofString "/claim/cut.py") 519]) #[]) ::
(nat_lit 258,Obj.mk (Value.type "function") Option.none (Data.func (FuncData.mk (Str.ofString "cube_of") (Str.ofString "cube_of") (dA (tp 22)) (FuncBody.stmts (dB (tp 22))) (dS (tp 22)) 3 [] Value.none Value.none Value.none (Value.str (Str.ofString "sheetfold.squares") 499) Option.none (Value.ref 257) Value.none 0)) #[]) ::
(nat_lit 259,Obj.mk (Value.type "tuple") Option.none (Data.seq #[]) #[]) ::
(nat_lit 262,Obj.mk (Value.type "code") Option.none (Data.fields #[Value.str (Str.ofString "cubes_at") 521,Value.str (Str.ofString "cubes_at") 522,Value.str (Str.ofString "/claim/cut.py") 523,Value.int 58 0,Value.int 1 0,Value.int 0 0,Value.int 0 0,Value.int 3 0,Value.ref 259,Value.bool Bool.true,Value.int 181 0,Value.ref 260,Value.none,Value.none,Value.none,Value.ref 261,Value.int 524 0,Value.int 58 0,Value.str (Str.ofString "/claim/cut.py") 525]) #[]) ::
(nat_lit 263,Obj.mk (Value.type "function") Option.none (Data.func (FuncData.mk (Str.ofString "cubes_at") (Str.ofString "cubes_at") (dA (tp 23)) (FuncBody.stmts (dB (tp 23))) (dS (tp 23)) 3 [] Value.none Value.none Value.none (Value.str (Str.ofString "sheetfold.squares") 499) Option.none (Value.ref 262) Value.none 0)) #[]) ::
(nat_lit 264,Obj.mk (Value.type "tuple") Option.none (Data.seq #[]) #[]) ::
(nat_lit 267,Obj.mk (Value.type "code") Option.none (Data.fields #[Value.str (Str.ofString "skin_of") 527,Value.str (Str.ofString "skin_of") 528,Value.str (Str.ofString "/claim/cut.py") 529,Value.int 62 0,Value.int 1 0,Value.int 0 0,Value.int 0 0,Value.int 3 0,Value.ref 264,Value.bool Bool.true,Value.int 181 0,Value.ref 265,Value.none,Value.none,Value.none,Value.ref 266,Value.int 530 0,Value.int 62 0,Value.str (Str.ofString "/claim/cut.py") 531]) #[]) ::
(nat_lit 268,Obj.mk (Value.type "function") Option.none (Data.func (FuncData.mk (Str.ofString "skin_of") (Str.ofString "skin_of") (dA (tp 24)) (FuncBody.stmts (dB (tp 24))) (dS (tp 24)) 3 [] Value.none Value.none Value.none (Value.str (Str.ofString "sheetfold.squares") 499) Option.none (Value.ref 267) Value.none 0)) #[]) ::
(nat_lit 269,Obj.mk (Value.type "tuple") Option.none (Data.seq #[]) #[]) ::
(nat_lit 271,Obj.mk (Value.type "tuple") Option.none (Data.seq #[Value.str (Str.ofString "solid") 538,Value.str (Str.ofString "square") 539]) #[]) ::
(nat_lit 272,Obj.mk (Value.type "tuple") Option.none (Data.seq #[]) #[]) ::
(nat_lit 274,Obj.mk (Value.type "code") Option.none (Data.fields #[Value.str (Str.ofString "outward") 535,Value.str (Str.ofString "outward") 536,Value.str (Str.ofString "/claim/cut.py") 537,Value.int 70 0,Value.int 2 0,Value.int 0 0,Value.int 0 0,Value.int 3 0,Value.ref 269,Value.bool Bool.true,Value.int 181 0,Value.ref 270,Value.none,Value.ref 271,Value.ref 272,Value.ref 273,Value.int 540 0,Value.int 70 0,Value.str (Str.ofString "/claim/cut.py") 541]) #[]) ::
(nat_lit 275,Obj.mk (Value.type "function") Option.none (Data.func (FuncData.mk (Str.ofString "outward") (Str.ofString "outward") (dA (tp 26)) (FuncBody.stmts (dB (tp 26))) (dS (tp 26)) 3 [] Value.none Value.none Value.none (Value.str (Str.ofString "sheetfold.solids") 533) Option.none (Value.ref 274) Value.none 0)) #[]) ::
(nat_lit 276,Obj.mk (Value.type "tuple") Option.none (Data.seq #[]) #[]) ::
(nat_lit 278,Obj.mk (Value.type "tuple") Option.none (Data.seq #[Value.str (Str.ofString "solid") 546,Value.str (Str.ofString "square") 547,Value.str (Str.ofString "pair") 548,Value.str (Str.ofString "within") 549]) #[]) ::
(nat_lit 279,Obj.mk (Value.type "tuple") Option.none (Data.seq #[]) #[]) ::
(nat_lit 281,Obj.mk (Value.type "code") Option.none (Data.fields #[Value.str (Str.ofString "outward_from") 543,Value.str (Str.ofString "outward_from") 544,Value.str (Str.ofString "/claim/cut.py") 545,Value.int 74 0,Value.int 2 0,Value.int 0 0,Value.int 0 0,Value.int 3 0,Value.ref 276,Value.bool Bool.true,Value.int 181 0,Value.ref 277,Value.none,Value.ref 278,Value.ref 279,Value.ref 280,Value.int 550 0,Value.int 74 0,Value.str (Str.ofString "/claim/cut.py") 551]) #[]) ::
(nat_lit 282,Obj.mk (Value.type "function") Option.none (Data.func (FuncData.mk (Str.ofString "outward_from") (Str.ofString "outward_from") (dA (tp 27)) (FuncBody.stmts (dB (tp 27))) (dS (tp 27)) 3 [] Value.none Value.none Value.none (Value.str (Str.ofString "sheetfold.solids") 533) Option.none (Value.ref 281) Value.none 0)) #[]) ::
(nat_lit 283,Obj.mk (Value.type "tuple") Option.none (Data.seq #[]) #[]) ::
(nat_lit 285,Obj.mk (Value.type "tuple") Option.none (Data.seq #[Value.str (Str.ofString "_law_script") 558,Value.str (Str.ofString "_law_k") 559]) #[]) ::
(nat_lit 286,Obj.mk (Value.type "tuple") Option.none (Data.seq #[]) #[]) ::
(nat_lit 288,Obj.mk (Value.type "code") Option.none (Data.fields #[Value.str (Str.ofString "_law_cell_at") 555,Value.str (Str.ofString "_law_cell_at") 556,Value.str (Str.ofString "/claim/cut.py") 557,Value.int 79 0,Value.int 2 0,Value.int 0 0,Value.int 0 0,Value.int 3 0,Value.ref 283,Value.bool Bool.true,Value.int 181 0,Value.ref 284,Value.none,Value.ref 285,Value.ref 286,Value.ref 287,Value.int 560 0,Value.int 79 0,Value.str (Str.ofString "/claim/cut.py") 561]) #[]) ::
(nat_lit 289,Obj.mk (Value.type "function") Option.none (Data.func (FuncData.mk (Str.ofString "_law_cell_at") (Str.ofString "_law_cell_at") (dA (tp 29)) (FuncBody.stmts (dB (tp 29))) (dS (tp 29)) 3 [] Value.none Value.none Value.none (Value.str (Str.ofString "law_sheetfold_k22_outward") 553) Option.none (Value.ref 288) Value.none 0)) #[]) ::
(nat_lit 290,Obj.mk (Value.type "tuple") Option.none (Data.seq #[]) #[]) ::
(nat_lit 292,Obj.mk (Value.type "tuple") Option.none (Data.seq #[Value.str (Str.ofString "_law_found") 566]) #[]) ::
(nat_lit 293,Obj.mk (Value.type "tuple") Option.none (Data.seq #[]) #[]) ::
(nat_lit 295,Obj.mk (Value.type "code") Option.none (Data.fields #[Value.str (Str.ofString "_law_whole") 563,Value.str (Str.ofString "_law_whole") 564,Value.str (Str.ofString "/claim/cut.py") 565,Value.int 83 0,Value.int 1 0,Value.int 0 0,Value.int 0 0,Value.int 3 0,Value.ref 290,Value.bool Bool.true,Value.int 181 0,Value.ref 291,Value.none,Value.ref 292,Value.ref 293,Value.ref 294,Value.int 567 0,Value.int 83 0,Value.str (Str.ofString "/claim/cut.py") 568]) #[]) ::
(nat_lit 296,Obj.mk (Value.type "function") Option.none (Data.func (FuncData.mk (Str.ofString "_law_whole") (Str.ofString "_law_whole") (dA (tp 30)) (FuncBody.stmts (dB (tp 30))) (dS (tp 30)) 3 [] Value.none Value.none Value.none (Value.str (Str.ofString "law_sheetfold_k22_outward") 553) Option.none (Value.ref 295) Value.none 0)) #[]) ::
(nat_lit 297,Obj.mk (Value.type "tuple") Option.none (Data.seq #[]) #[]) ::
(nat_lit 299,Obj.mk (Value.type "tuple") Option.none (Data.seq #[Value.str (Str.ofString "_law_found") 573,Value.str (Str.ofString "_law_spot") 574,Value.str (Str.ofString "_law_number") 575]) #[]) ::
(nat_lit 300,Obj.mk (Value.type "tuple") Option.none (Data.seq #[]) #[]) ::
(nat_lit 302,Obj.mk (Value.type "code") Option.none (Data.fields #[Value.str (Str.ofString "_law_spots") 570,Value.str (Str.ofString "_law_spots") 571,Value.str (Str.ofString "/claim/cut.py") 572,Value.int 85 0,Value.int 1 0,Value.int 0 0,Value.int 0 0,Value.int 3 0,Value.ref 297,Value.bool Bool.true,Value.int 181 0,Value.ref 298,Value.none,Value.ref 299,Value.ref 300,Value.ref 301,Value.int 576 0,Value.int 85 0,Value.str (Str.ofString "/claim/cut.py") 577]) #[]) ::
(nat_lit 303,Obj.mk (Value.type "function") Option.none (Data.func (FuncData.mk (Str.ofString "_law_spots") (Str.ofString "_law_spots") (dA (tp 31)) (FuncBody.stmts (dB (tp 31))) (dS (tp 31)) 3 [] Value.none Value.none Value.none (Value.str (Str.ofString "law_sheetfold_k22_outward") 553) Option.none (Value.ref 302) Value.none 0)) #[]) ::
(nat_lit 304,Obj.mk (Value.type "tuple") Option.none (Data.seq #[]) #[]) ::
(nat_lit 306,Obj.mk (Value.type "tuple") Option.none (Data.seq #[Value.str (Str.ofString "_law_cells") 582,Value.str (Str.ofString "_law_base_here") 583,Value.str (Str.ofString "_law_cell") 584]) #[]) ::
(nat_lit 307,Obj.mk (Value.type "tuple") Option.none (Data.seq #[]) #[]) ::
(nat_lit 309,Obj.mk (Value.type "code") Option.none (Data.fields #[Value.str (Str.ofString "_law_base") 579,Value.str (Str.ofString "_law_base") 580,Value.str (Str.ofString "/claim/cut.py") 581,Value.int 95 0,Value.int 1 0,Value.int 0 0,Value.int 0 0,Value.int 3 0,Value.ref 304,Value.bool Bool.true,Value.int 181 0,Value.ref 305,Value.none,Value.ref 306,Value.ref 307,Value.ref 308,Value.int 585 0,Value.int 95 0,Value.str (Str.ofString "/claim/cut.py") 586]) #[]) ::
(nat_lit 310,Obj.mk (Value.type "function") Option.none (Data.func (FuncData.mk (Str.ofString "_law_base") (Str.ofString "_law_base") (dA (tp 32)) (FuncBody.stmts (dB (tp 32))) (dS (tp 32)) 3 [] Value.none Value.none Value.none (Value.str (Str.ofString "law_sheetfold_k22_outward") 553) Option.none (Value.ref 309) Value.none 0)) #[]) ::
(nat_lit 311,Obj.mk (Value.type "tuple") Option.none (Data.seq #[]) #[]) ::
(nat_lit 313,Obj.mk (Value.type "tuple") Option.none (Data.seq #[Value.str (Str.ofString "_law_cells") 591,Value.str (Str.ofString "_law_base_here") 592,Value.str (Str.ofString "_law_kind") 593,Value.str (Str.ofString "_law_cubes") 594,Value.str (Str.ofString "_law_corner") 595,Value.str (Str.ofString "_law_spot") 596,Value.str (Str.ofString "_law_k") 597,Value.str (Str.ofString "_law_cell") 598,Value.str (Str.ofString "_law_cube") 599,Value.str (Str.ofString "_law_axis") 600]) #[]) ::
(nat_lit 314,Obj.mk (Value.type "tuple") Option.none (Data.seq #[]) #[]) ::
(nat_lit 316,Obj.mk (Value.type "code") Option.none (Data.fields #[Value.str (Str.ofString "_law_solid") 588,Value.str (Str.ofString "_law_solid") 589,Value.str (Str.ofString "/claim/cut.py") 590,Value.int 103 0,Value.int 3 0,Value.int 0 0,Value.int 0 0,Value.int 3 0,Value.ref 311,Value.bool Bool.true,Value.int 181 0,Value.ref 312,Value.none,Value.ref 313,Value.ref 314,Value.ref 315,Value.int 601 0,Value.int 103 0,Value.str (Str.ofString "/claim/cut.py") 602]) #[]) ::
(nat_lit 317,Obj.mk (Value.type "function") Option.none (Data.func (FuncData.mk (Str.ofString "_law_solid") (Str.ofString "_law_solid") (dA (tp 33)) (FuncBody.stmts (dB (tp 33))) (dS (tp 33)) 3 [] Value.none Value.none Value.none (Value.str (Str.ofString "law_sheetfold_k22_outward") 553) Option.none (Value.ref 316) Value.none 0)) #[]) ::
(nat_lit 318,Obj.mk (Value.type "tuple") Option.none (Data.seq #[]) #[]) ::
(nat_lit 320,Obj.mk (Value.type "tuple") Option.none (Data.seq #[Value.str (Str.ofString "_law_spot") 607,Value.str (Str.ofString "_law_axes") 608,Value.str (Str.ofString "_law_found") 609,Value.str (Str.ofString "_law_axis") 610,Value.str (Str.ofString "_law_by") 611,Value.str (Str.ofString "_law_made") 612]) #[]) ::
(nat_lit 321,Obj.mk (Value.type "tuple") Option.none (Data.seq #[]) #[]) ::
(nat_lit 323,Obj.mk (Value.type "code") Option.none (Data.fields #[Value.str (Str.ofString "_law_near") 604,Value.str (Str.ofString "_law_near") 605,Value.str (Str.ofString "/claim/cut.py") 606,Value.int 119 0,Value.int 2 0,Value.int 0 0,Value.int 0 0,Value.int 3 0,Value.ref 318,Value.bool Bool.true,Value.int 181 0,Value.ref 319,Value.none,Value.ref 320,Value.ref 321,Value.ref 322,Value.int 613 0,Value.int 119 0,Value.str (Str.ofString "/claim/cut.py") 614]) #[]) ::
(nat_lit 324,Obj.mk (Value.type "function") Option.none (Data.func (FuncData.mk (Str.ofString "_law_near") (Str.ofString "_law_near") (dA (tp 34)) (FuncBody.stmts (dB (tp 34))) (dS (tp 34)) 3 [] Value.none Value.none Value.none (Value.str (Str.ofString "law_sheetfold_k22_outward") 553) Option.none (Value.ref 323) Value.none 0)) #[]) ::
(nat_lit 325,Obj.mk (Value.type "tuple") Option.none (Data.seq #[]) #[]) ::
(nat_lit 327,Obj.mk (Value.type "tuple") Option.none (Data.seq #[Value.str (Str.ofString "_law_e") 619,Value.str (Str.ofString "_law_one") 620,Value.str (Str.ofString "_law_two") 621]) #[]) ::
(nat_lit 328,Obj.mk (Value.type "tuple") Option.none (Data.seq #[]) #[]) ::
(nat_lit 330,Obj.mk (Value.type "code") Option.none (Data.fields #[Value.str (Str.ofString "_law_kinds") 616,Value.str (Str.ofString "_law_kinds") 617,Value.str (Str.ofString "/claim/cut.py") 618,Value.int 127 0,Value.int 1 0,Value.int 0 0,Value.int 0 0,Value.int 3 0,Value.ref 325,Value.bool Bool.true,Value.int 181 0,Value.ref 326,Value.none,Value.ref 327,Value.ref 328,Value.ref 329,Value.int 622 0,Value.int 127 0,Value.str (Str.ofString "/claim/cut.py") 623]) #[]) ::
(nat_lit 331,Obj.mk (Value.type "function") Option.none (Data.func (FuncData.mk (Str.ofString "_law_kinds") (Str.ofString "_law_kinds") (dA (tp 35)) (FuncBody.stmts (dB (tp 35))) (dS (tp 35)) 3 [] Value.none Value.none Value.none (Value.str (Str.ofString "law_sheetfold_k22_outward") 553) Option.none (Value.ref 330) Value.none 0)) #[]) ::
(nat_lit 332,Obj.mk (Value.type "tuple") Option.none (Data.seq #[]) #[]) ::
(nat_lit 334,Obj.mk (Value.type "tuple") Option.none (Data.seq #[Value.str (Str.ofString "_law_solid_here") 628,Value.str (Str.ofString "_law_square") 629,Value.str (Str.ofString "_law_cube") 630,Value.str (Str.ofString "_law_middle") 631,Value.str (Str.ofString "_law_unit") 632,Value.str (Str.ofString "_law_other") 633]) #[]) ::
(nat_lit 335,Obj.mk (Value.type "tuple") Option.none (Data.seq #[]) #[]) ::
(nat_lit 337,Obj.mk (Value.type "code") Option.none (Data.fields #[Value.str (Str.ofString "_law_due") 625,Value.str (Str.ofString "_law_due") 626,Value.str (Str.ofString "/claim/cut.py") 627,Value.int 131 0,Value.int 2 0,Value.int 0 0,Value.int 0 0,Value.int 3 0,Value.ref 332,Value.bool Bool.true,Value.int 181 0,Value.ref 333,Value.none,Value.ref 334,Value.ref 335,Value.ref 336,Value.int 634 0,Value.int 131 0,Value.str (Str.ofString "/claim/cut.py") 635]) #[]) ::
(nat_lit 338,Obj.mk (Value.type "function") Option.none (Data.func (FuncData.mk (Str.ofString "_law_due") (Str.ofString "_law_due") (dA (tp 36)) (FuncBody.stmts (dB (tp 36))) (dS (tp 36)) 3 [] Value.none Value.none Value.none (Value.str (Str.ofString "law_sheetfold_k22_outward") 553) Option.none (Value.ref 337) Value.none 0)) #[]) ::
(nat_lit 339,Obj.mk (Value.type "tuple") Option.none (Data.seq #[]) #[]) ::
(nat_lit 341,Obj.mk (Value.type "tuple") Option.none (Data.seq #[Value.str (Str.ofString "_law_solid_here") 640,Value.str (Str.ofString "_law_square") 641,Value.str (Str.ofString "_law_kinds_here") 642,Value.str (Str.ofString "_law_e") 643]) #[]) ::
(nat_lit 342,Obj.mk (Value.type "tuple") Option.none (Data.seq #[]) #[]) ::
(nat_lit 344,Obj.mk (Value.type "code") Option.none (Data.fields #[Value.str (Str.ofString "_law_refused") 637,Value.str (Str.ofString "_law_refused") 638,Value.str (Str.ofString "/claim/cut.py") 639,Value.int 139 0,Value.int 2 0,Value.int 0 0,Value.int 0 0,Value.int 3 0,Value.ref 339,Value.bool Bool.true,Value.int 181 0,Value.ref 340,Value.none,Value.ref 341,Value.ref 342,Value.ref 343,Value.int 644 0,Value.int 139 0,Value.str (Str.ofString "/claim/cut.py") 645]) #[]) ::
(nat_lit 345,Obj.mk (Value.type "function") Option.none (Data.func (FuncData.mk (Str.ofString "_law_refused") (Str.ofString "_law_refused") (dA (tp 37)) (FuncBody.stmts (dB (tp 37))) (dS (tp 37)) 3 [] Value.none Value.none Value.none (Value.str (Str.ofString "law_sheetfold_k22_outward") 553) Option.none (Value.ref 344) Value.none 0)) #[]) ::
(nat_lit 346,Obj.mk (Value.type "tuple") Option.none (Data.seq #[]) #[]) ::
(nat_lit 348,Obj.mk (Value.type "tuple") Option.none (Data.seq #[Value.str (Str.ofString "_law_solid_here") 650,Value.str (Str.ofString "_law_square") 651,Value.str (Str.ofString "_law_due_here") 652,Value.str (Str.ofString "_law_mine") 653,Value.str (Str.ofString "_law_found") 654]) #[]) ::
(nat_lit 349,Obj.mk (Value.type "tuple") Option.none (Data.seq #[]) #[]) ::
(nat_lit 351,Obj.mk (Value.type "code") Option.none (Data.fields #[Value.str (Str.ofString "_law_right") 647,Value.str (Str.ofString "_law_right") 648,Value.str (Str.ofString "/claim/cut.py") 649,Value.int 146 0,Value.int 2 0,Value.int 0 0,Value.int 0 0,Value.int 3 0,Value.ref 346,Value.bool Bool.true,Value.int 181 0,Value.ref 347,Value.none,Value.ref 348,Value.ref 349,Value.ref 350,Value.int 655 0,Value.int 146 0,Value.str (Str.ofString "/claim/cut.py") 656]) #[]) ::
(nat_lit 352,Obj.mk (Value.type "function") Option.none (Data.func (FuncData.mk (Str.ofString "_law_right") (Str.ofString "_law_right") (dA (tp 38)) (FuncBody.stmts (dB (tp 38))) (dS (tp 38)) 3 [] Value.none Value.none Value.none (Value.str (Str.ofString "law_sheetfold_k22_outward") 553) Option.none (Value.ref 351) Value.none 0)) #[]) ::
(nat_lit 353,Obj.mk (Value.type "tuple") Option.none (Data.seq #[]) #[]) ::
(nat_lit 356,Obj.mk (Value.type "code") Option.none (Data.fields #[Value.str (Str.ofString "_law_asked") 658,Value.str (Str.ofString "_law_asked") 659,Value.str (Str.ofString "/claim/cut.py") 660,Value.int 153 0,Value.int 3 0,Value.int 0 0,Value.int 0 0,Value.int 3 0,Value.ref 353,Value.bool Bool.true,Value.int 181 0,Value.ref 354,Value.none,Value.none,Value.none,Value.ref 355,Value.int 661 0,Value.int 153 0,Value.str (Str.ofString "/claim/cut.py") 662]) #[]) ::
(nat_lit 357,Obj.mk (Value.type "function") Option.none (Data.func (FuncData.mk (Str.ofString "_law_asked") (Str.ofString "_law_asked") (dA (tp 39)) (FuncBody.stmts (dB (tp 39))) (dS (tp 39)) 3 [] Value.none Value.none Value.none (Value.str (Str.ofString "law_sheetfold_k22_outward") 553) Option.none (Value.ref 356) Value.none 0)) #[]) ::
(nat_lit 358,Obj.mk (Value.type "tuple") Option.none (Data.seq #[]) #[]) ::
(nat_lit 361,Obj.mk (Value.type "code") Option.none (Data.fields #[Value.str (Str.ofString "law") 664,Value.str (Str.ofString "law") 665,Value.str (Str.ofString "/claim/cut.py") 666,Value.int 160 0,Value.int 1 0,Value.int 0 0,Value.int 0 0,Value.int 3 0,Value.ref 358,Value.bool Bool.true,Value.int 181 0,Value.ref 359,Value.none,Value.none,Value.none,Value.ref 360,Value.int 667 0,Value.int 160 0,Value.str (Str.ofString "/claim/cut.py") 668]) #[]) ::
(nat_lit 362,Obj.mk (Value.type "function") Option.none (Data.func (FuncData.mk (Str.ofString "law") (Str.ofString "law") (dA (tp 40)) (FuncBody.stmts (dB (tp 40))) (dS (tp 40)) 3 [] Value.none Value.none Value.none (Value.str (Str.ofString "law_sheetfold_k22_outward") 553) Option.none (Value.ref 361) Value.none 0)) #[]) :: []
def kA:List Addr:=[2,3,15,22,23,24,25,28,35,36,37,40,47,48,49,52,59,60,61,64,71,72,73,76,83,84,85,88,95,96,97,100,107,108,109,112,119,120,121,124,131,133,134,136,137,138,139,140,143,150,152,153,155,156,157,158,159,162,169,171,172,174,175,176,177,178,181,188,190,191,193,194,195,196,197,200,207,209,210,212,213,214,215,216,219,220,221,222,223,224,225,226,228,229,231,232,233,235,236,238,239,240,243,244,245,247,248,250,251,252,254,255,257,258,259,262,263,264,267,268,269,271,272,274,275,276,278,279,281,282,283,285,286,288,289,290,292,293,295,296,297,299,300,302,303,304,306,307,309,310,311,313,314,316,317,318,320,321,323,324,325,327,328,330,331,332,334,335,337,338,339,341,342,344,345,346,348,349,351,352,353,356,357,358,361,362]
theorem kE (P:Params):kA=(KH P).map (·.1):=by kernel_rfl
noncomputable abbrev hk:Hook:=kHook KH kA kE
noncomputable def tfQ (tr:(String->Option Builtin)->Program->World->Nat->Option Value->Nat->Shared->Thread->Option Shared) (tb:String->Option Builtin) (p:Program) (w:World) (N:Nat) (s:Shared):Option Shared :=
 match s.heap.isNs mainGlobals && s.gens.size == 0 with
 | true=>(tr tb p w s.heap.objs.size (s.heap.nsMap mainGlobals "__annotations__") N s (topStub p)).bind fun u =>
   match staticsOk (importedModules p.main.body) s.heap u.heap && namesBound p u.heap && gensDone u && laidKept s.heap u.heap with
   | true=>some u
   | false=>none
 | false=>none
theorem tf_q (p:Program) (w:World) (N:Nat):topFrom treeTable p w N=tfQ Fast.tw14082659384304107361 Fast.tw14364793385576792824 p w N:=by
 rw [← Fast.te14082659384304107361,← Fast.te14364793385576792824]
 rfl
noncomputable def opQ (p:Program) (w:World) (N:Nat):Option Shared :=
 (Fast.tw10274390034422433532 Fast.tw14364793385576792824 (opening p) w N (Fast.tw1435165496053646825 (opening p)).1 (Fast.tw1435165496053646825 (opening p)).2).bind (Fast.tw14289696077712309145 p)
theorem op_q (p:Program) (w:World) (N:Nat):fencedOpening treeTable p w N=opQ p w N:=by
 unfold opQ
 rw [← Fast.te10274390034422433532,← Fast.te14364793385576792824,← Fast.te1435165496053646825,← Fast.te14289696077712309145]
 rfl
noncomputable def endsQ (p:Program) (w:World) (N:Nat):Option Shared:=(opQ p w N).bind (tfQ Fast.tw14082659384304107361 Fast.tw14364793385576792824 p w N)
theorem qki (p:Program) (w:World) (N:Nat):openEnds treeTable p w N=endsQ p w N:=by
 unfold openEnds endsQ
 rw [op_q,tf_q]
set_option maxHeartbeats 0 in
theorem left:LeftO PySem.Challenge.pw_sheetfold_k22_outward vw [] (fun s=>xlAt vw [] s && recOk (RowW.records (OpenRow.toRowW (OpenLaw.row PySem.Challenge.rw_sheetfold_k22_outward))) s) (Hook.obs hk) (Hook.val hk) 7820:=by
 intro w
 rw [qki,Fast.te4187177175401517315]
 kernel_rfl
end HD
namespace L2
open PySem PySem.Spec PyProof.Rows
abbrev Key:=Sum Int Str
def qjS:Key->Value->Bool
 | .inl k,v=>Value.isInt k v
 | .inr x,v=>Value.isStrOf x v
def keyH (w:World):Key->Int
 | .inl k=>hashInt k
 | .inr x=>hashStr w x
theorem zH:∀ {k:Key} {v:Value},qjS k v=true->(∃ i t,k=Sum.inl i/\v=Value.int i t)\/(∃ x t,k=Sum.inr x/\v=Value.str x t)
 | .inl i,v,h=>by
  obtain ⟨t,e⟩:=Value.isInt_shape (k:=i) (v:=v) h
  exact .inl ⟨i,t,rfl,e⟩
 | .inr x,v,h=>by
  obtain ⟨t,e⟩:=Value.isStrOf_shape (x:=x) (v:=v) h
  exact .inr ⟨x,t,rfl,e⟩
theorem qkD (a b:Int):decide ((Sum.inl a:Key)=Sum.inl b)=(a == b):=by
 by_cases e:a=b
 ·subst e;simp
 ·have h:¬ (Sum.inl a:Key)=Sum.inl b:=fun q=>e (Sum.inl.inj q)
  rw [decide_eq_false h]
  exact (beq_eq_false_iff_ne.mpr e).symm
theorem qkG (a b:Str):decide ((Sum.inr a:Key)=Sum.inr b)=decide (a=b):=by
 by_cases e:a=b
 ·subst e;simp
 ·have h:¬ (Sum.inr a:Key)=Sum.inr b:=fun q=>e (Sum.inr.inj q)
  rw [decide_eq_false h,decide_eq_false e]
theorem qkE (a:Int) (b:Str):decide ((Sum.inl a:Key)=Sum.inr b)=false:=decide_eq_false (fun q=>nomatch q)
theorem qkF (a:Str) (b:Int):decide ((Sum.inr a:Key)=Sum.inl b)=false:=decide_eq_false (fun q=>nomatch q)
def qen (prog:Program) (w:World):PySem.KeyKind prog w Key where
 is:=qjS
 hash:=keyH w
 inj:=fun v a b ha hb=>by
  rcases zH ha with ⟨i,t,rfl,rfl⟩ | ⟨x,t,rfl,rfl⟩
  ·rcases zH hb with ⟨j,u,rfl,e⟩ | ⟨y,u,rfl,e⟩
   ·injection e with e1 _;rw [e1]
   ·exact nomatch e
  ·rcases zH hb with ⟨j,u,rfl,e⟩ | ⟨y,u,rfl,e⟩
   ·exact nomatch e
   ·injection e with e1 _;rw [e1]
 byValue:=fun k v h=>by
  rcases zH h with ⟨i,t,rfl,rfl⟩ | ⟨x,t,rfl,rfl⟩<;>rfl
 pyHash:=fun hv h=>by
  rcases zH hv with ⟨i,t,rfl,rfl⟩ | ⟨x,t,rfl,rfl⟩
  ·exact wpAny_pyHash_int h
  ·exact wpAny_pyHash_str h
 eqBool:=fun hu hv h=>by
  rcases zH hu with ⟨i,t,rfl,rfl⟩ | ⟨x,t,rfl,rfl⟩
  ·rcases zH hv with ⟨j,u,rfl,rfl⟩ | ⟨y,u,rfl,rfl⟩
   ·rw [qkD] at h;exact wpAny_eqBool_int h
   ·rw [qkE] at h;exact SeqAt.EqAt.int_str i t y u _ _ _ _ h
  ·rcases zH hv with ⟨j,u,rfl,rfl⟩ | ⟨y,u,rfl,rfl⟩
   ·rw [qkF] at h;exact SeqAt.EqAt.str_int x t j u _ _ _ _ h
   ·rw [qkG] at h;exact wpAny_eqBool_str h
 «strs»:=fun k x t v h=>by
  rcases zH h with ⟨i,u,rfl,e⟩ | ⟨y,u,rfl,e⟩
  ·exact nomatch e
  ·injection e with e1 _
   subst e1
   cases v<;>rfl
end L2
namespace L2
open PySem PySem.Spec PyProof.Rows
inductive V where
 | non | bl (b:Bool) | int (i:Int) | str (x:Str) | byt (b:Array UInt8) | flt (b:UInt64) | ref (a:Addr) | ty (n:String)
 deriving DecidableEq
def RelV:V->Value->Prop
 | .non,u=>u=Value.none
 | .bl b,u=>u=Value.bool b
 | .int i,u=>∃ t,u=Value.int i t
 | .str x,u=>∃ t,u=Value.str x t
 | .byt b,u=>∃ t,u=Value.bytes b t
 | .flt b,u=>∃ t,u=Value.float b t
 | .ref a,u=>u=Value.ref a
 | .ty n,u=>u=Value.type n
abbrev Vals:List V->List Value->Prop:=Paired RelV
theorem Vals.length {xs:List V} {us:List Value} (r:Vals xs us):xs.length=us.length:=Paired.length r
theorem Vals.get:∀ {xs:List V} {us:List Value} {i:Nat} {x:V},Vals xs us->xs[i]?=some x->∃ u,us[i]?=some u/\RelV x u
 | _,_,_,_,.nil,e=>by simp at e
 | _,_,0,_,.cons r _,e=>by simp at e;subst e;exact ⟨_,rfl,r⟩
 | _,_,i + 1,x,.cons _ t,e=>by
  obtain ⟨u,h1,h2⟩:=Vals.get (i:=i) (x:=x) t (by simpa using e)
  exact ⟨u,by simpa using h1,h2⟩
theorem Vals.set {x:V} {u:Value} (r:RelV x u):∀ {xs:List V} {us:List Value} (i:Nat),Vals xs us->Vals (xs.set i x) (us.set i u)
 | _,_,_,.nil=>.nil
 | _,_,0,.cons _ t=>.cons r t
 | _,_,i + 1,.cons q t=>.cons q (Vals.set r i t)
theorem Vals.append:∀ {xs ys:List V} {us ws:List Value},Vals xs us->Vals ys ws->Vals (xs ++ ys) (us ++ ws)
 | _,_,_,_,.nil,s=>s
 | _,_,_,_,.cons r t,s=>.cons r (Vals.append t s)
theorem Vals.take:∀ {xs:List V} {us:List Value} (n:Nat),Vals xs us->Vals (xs.take n) (us.take n)
 | _,_,0,_=>.nil
 | _,_,_ + 1,.nil=>.nil
 | _,_,n + 1,.cons r t=>.cons r (Vals.take n t)
theorem Vals.drop:∀ {xs:List V} {us:List Value} (n:Nat),Vals xs us->Vals (xs.drop n) (us.drop n)
 | _,_,0,r=>r
 | _,_,_ + 1,.nil=>.nil
 | _,_,n + 1,.cons _ t=>Vals.drop n t
def RelO:Option V->Option Value->Prop
 | some v,some u=>RelV v u
 | none,none=>True
 | _,_=>False
def KV {κ:Type}:List (κ×V)->List (κ×Value)->Prop:=Paired fun (p:κ×V) (q:κ×Value)=>p.1=q.1/\RelV p.2 q.2
def kV:Key->V
 | .inl i=>.int i
 | .inr x=>.str x
inductive HO where
 | lst (xs:List V)
 | tup (xs:List V)
 | dK (kvs:List (Key×V)) | dT (kvs:List (List Key×V))
 | set (S:Int->Bool) (n:Nat)
 | ins (C dx:Addr) (fs:List (Str×V))
 | own (x:Addr)
 | xd (fs:List (Str×V))
 | met (f x:Addr)
 | rng (lo hi:Int)
 | frz (o:Obj) (u:HO)
 | tbl (ps:Array Value)
 | ext (φ:Heap->Prop)
abbrev Hp:=Addr->Option HO
def upd (H:Hp) (a:Addr) (o:HO):Hp:=fun b=>if b=a then some o else H b
theorem qR {H:Hp} {a:Addr} {o:HO}:upd H a o a=some o:=by unfold upd;rw [if_pos rfl]
theorem qI {H:Hp} {a b:Addr} {o:HO} (h:b≠a):upd H a o b=H b:=by unfold upd;rw [if_neg h]
theorem q9 {H:Hp} {a b:Addr} {o:HO} (h:H a=some o) (h':H b=none):a≠b:=by
 intro e;subst e;rw [h] at h';cases h'
section
variable (P:Program) (w:World)
def Qx (H:Hp) (h:Heap) (a:Addr):HO->Prop
 | .lst xs=>xs.length <= sizeLine/\∃ (its:List Value) (n:Nat),Vals xs its/\h.get? a=some { cls:=.type "list", data:=.seq its.toArray n }
 | .tup xs=>xs.length <= sizeLine/\∃ its:List Value,Vals xs its/\IsTup h a its.toArray
 | .dK kvs=>kvs.length <= sizeLine/\(a == sysModules)=false/\∃ vs,KV kvs vs/\h.DictOf (qen P w) a vs
 | .dT kvs=>kvs.length <= sizeLine/\(a == sysModules)=false/\∃ xs:List (List Key×Addr×Value),
   Paired (fun (p:List Key×V) (q:List Key×Addr×Value)=>p.1=q.1/\H q.2.1=some (.tup (p.1.map kV))/\RelV p.2 q.2.2) kvs xs/\
   ∃ o es ep,h.get? a=some o/\o.ExactDict/\o.data=.dict es ep/\es.toList=xs.map (entryOfKey (tupleKind (qen P w)))/\(xs.map (·.1)).Nodup
 | .set S n=>h.SetOf (intKind P w) a S n
 | .ins C dx fs=>H dx=some (.own a)/\fs.length <= 1000/\dx≠a/\h.get? a=some (PySem.W.instObj C dx)/\
   ∃ mA,h.Ns1 dx mA/\(∀ f,RelO (fs.lookup f) (mA f))/\PySem.Within mA (fs.map (·.1))
 | .own _=>∃ o,h.get? a=some o
 | .xd fs=>∃ mA,h.Ns1 a mA/\∀ f,RelO (fs.lookup f) (mA f)
 | .rng lo hi=>∃ t u v,h.get? a=some { cls:=.type "range", data:=.fields #[.int lo t,.int hi u,.int 1 v] }
 | .frz o u=>h.get? a=some o/\Qx H h a u
 | .tbl ps=>h.get? a=some { cls:=.none,data:=.fields ps }
 | .met f x=>h.get? a=some (PySem.W.methodObj (.ref f) (.ref x))
 | .ext φ=>φ h/\(∃ o,h.get? a=some o)/\∀ h1 h2:Heap,φ h1->(∀ o,h1.get? a=some o->h2.get? a=some o)->φ h2
def HOk (H:Hp) (h:Heap):Prop:=∀ a o,H a=some o->Qx P w H h a o
end
section
variable {P:Program} {w:World} {H H':Hp} {h h':Heap} {a:Addr} {o:HO}
theorem Qx.lt (x:Qx P w H h a o):a < h.objs.size:=by
 cases o with
 | lst xs=>obtain ⟨_,_,_,_,e⟩:=x;exact Heap.lt_size e
 | tup xs=>obtain ⟨_,_,_,p⟩:=x;exact p.lt
 | dK kvs=>obtain ⟨_,_,_,_,o,_,_,e,_⟩:=x;exact Heap.lt_size e
 | dT kvs=>obtain ⟨_,_,_,_,o,_,_,e,_⟩:=x;exact Heap.lt_size e
 | set S n=>obtain ⟨o,_,_,_,e,_⟩:=x;exact Heap.lt_size e
 | ins C dx fs=>obtain ⟨_,_,_,e,_⟩:=x;exact Heap.lt_size e
 | own y=>obtain ⟨_,e⟩:=x;exact Heap.lt_size e
 | xd fs=>obtain ⟨_,⟨_,_,_,e,_⟩,_⟩:=x;exact Heap.lt_size e
 | rng lo hi=>obtain ⟨_,_,_,e⟩:=x;exact Heap.lt_size e
 | frz ob u=>obtain ⟨e,_⟩:=x;exact Heap.lt_size e
 | tbl ps=>exact Heap.lt_size (show h.get? a=some _ from x)
 | met f y=>exact Heap.lt_size (show h.get? a=some _ from x)
 | ext φ=>obtain ⟨_,⟨_,e⟩,_⟩:=x;exact Heap.lt_size e
theorem Paired.mapP {α β:Type} {F G:α->β->Prop}:∀ {l₁:List α} {l₂:List β},Paired F l₁ l₂->(∀ a b,F a b->G a b)->Paired G l₁ l₂
 | _,_,.nil,_=>.nil
 | _,_,.cons r t,f=>.cons (f _ _ r) (Paired.mapP t f)
theorem Qx.stay (x:Qx P w H h a o) (k:∀ b u,(b=a\/H b=some (.own a))->h.get? b=some u->h'.get? b=some u)
  (ho:∀ b,H b=some (.own a)->H' b=some (.own a)) (ht:∀ b xs,H b=some (.tup xs)->H' b=some (.tup xs)):Qx P w H' h' a o:=by
 induction o with
 | lst xs=>obtain ⟨z,its,n,r,e⟩:=x;exact ⟨z,its,n,r,k _ _ (.inl rfl) e⟩
 | tup xs=>obtain ⟨z,its,r,ob,e,c⟩:=x;exact ⟨z,its,r,ob,k _ _ (.inl rfl) e,c⟩
 | dK kvs=>obtain ⟨z,y,vs,r,ob,es,ep,e,c⟩:=x;exact ⟨z,y,vs,r,ob,es,ep,k _ _ (.inl rfl) e,c⟩
 | dT kvs =>
  obtain ⟨z,y,xs,r,ob,es,ep,e,c⟩:=x
  exact ⟨z,y,xs,Paired.mapP r fun p q z=>⟨z.1,ht _ _ z.2.1,z.2.2⟩,ob,es,ep,k _ _ (.inl rfl) e,c⟩
 | set S n=>obtain ⟨ob,es,ep,t,e,c⟩:=x;exact ⟨ob,es,ep,t,k _ _ (.inl rfl) e,c⟩
 | ins C dx fs =>
  obtain ⟨d,z,ne,e,mA,⟨od,es,ep,e2,c⟩,r⟩:=x
  exact ⟨ho _ d,z,ne,k _ _ (.inl rfl) e,mA,⟨od,es,ep,k _ _ (.inr d) e2,c⟩,r⟩
 | own y=>obtain ⟨ob,e⟩:=x;exact ⟨ob,k _ _ (.inl rfl) e⟩
 | xd fs=>obtain ⟨mA,⟨od,es,ep,e,c⟩,r⟩:=x;exact ⟨mA,⟨od,es,ep,k _ _ (.inl rfl) e,c⟩,r⟩
 | rng lo hi=>obtain ⟨t,u,v,e⟩:=x;exact ⟨t,u,v,k _ _ (.inl rfl) e⟩
 | frz ob u ih=>obtain ⟨e,q⟩:=x;exact ⟨k _ _ (.inl rfl) e,ih q⟩
 | tbl ps =>
  have e:h.get? a=some { cls:=.none,data:=.fields ps }:=x
  show h'.get? a=some { cls:=.none,data:=.fields ps }
  exact k a _ (.inl rfl) e
 | met f y =>
  have e:h.get? a=some (PySem.W.methodObj (.ref f) (.ref y)):=x
  show h'.get? a=some (PySem.W.methodObj (.ref f) (.ref y))
  exact k a _ (.inl rfl) e
 | ext φ=>obtain ⟨p,⟨o,e⟩,st⟩:=x;exact ⟨st _ _ p fun o q=>k _ _ (.inl rfl) q,⟨o,k _ _ (.inl rfl) e⟩,st⟩
theorem HOk.lt (x:HOk P w H h) (e:H a=some o):a < h.objs.size:=(x a o e).lt
theorem HOk.fresh (x:HOk P w H h) (e:h.objs.size <= a):H a=none:=by
 cases q:H a with
 | none=>rfl
 | some u=>exact absurd (Nat.lt_of_lt_of_le (x.lt q) e) (Nat.lt_irrefl _)
theorem HOk.kept (x:HOk P w H h) (k:∀ b u,h.get? b=some u->h'.get? b=some u):HOk P w H h':=fun a o e =>
 (x a o e).stay (fun b u _ q=>k b u q) (fun _ q=>q) fun _ _ q=>q
theorem HOk.laid (x:HOk P w H h) (k:∀ b u,h.get? b=some u->h'.get? b=some u) (hp:h.objs.size <= a) (new:Qx P w (upd H a o) h' a o):HOk P w (upd H a o) h':=fun b u e=>by
 have hn:=x.fresh hp
 by_cases hb:b=a
 ·subst hb;rw [qR] at e;cases e;exact new
 ·rw [qI hb] at e
  exact (x b u e).stay (fun c v _ q=>k c v q) (fun c q=>by rw [qI (q9 q hn)];exact q) fun c xs q=>by rw [qI (q9 q hn)];exact q
end
def Rd (H:Hp) (a:Addr) (u:HO):Prop:=H a=some u\/∃ o,H a=some (.frz o u)
theorem Rd.of {H:Hp} {a:Addr} {u:HO} (h:H a=some u):Rd H a u:=.inl h
theorem Rd.ok {P:Program} {w:World} {H:Hp} {h:Heap} {a:Addr} {u:HO} (r:Rd H a u) (x:HOk P w H h):Qx P w H h a u:=by
 rcases r with r | ⟨o,r⟩
 ·exact x a u r
 ·obtain ⟨_,q⟩:=x a _ r
  exact q
def Mut:Option HO->Prop
 | some (.lst _)=>True
 | some (.dK _)=>True
 | some (.dT _)=>True
 | some (.set _ _)=>True
 | some (.ins _ _ _)=>True
 | some (.ext _)=>True
 | _=>False
section
variable {P:Program} {w:World} {H:Hp} {h h':Heap} {x e:Addr} {o':HO}
theorem HOk.write (ok:HOk P w H h) (mu:Mut (H x)) (he:e=x\/H e=some (.own x)) (k:∀ b u,b≠e->h.get? b=some u->h'.get? b=some u) (heo:∃ u,h'.get? e=some u)
  (new:Qx P w (upd H x o') h' x o'):HOk P w (upd H x o') h':=fun b u q=>by
 have nown:∀ c y,H c=some (.own y)->c≠x:=fun c y r z=>by subst z;rw [r] at mu;exact mu
 have ntup:∀ c xs,H c=some (.tup xs)->c≠x:=fun c xs r z=>by subst z;rw [r] at mu;exact mu
 by_cases hb:b=x
 ·subst hb;rw [qR] at q;cases q;exact new
 ·rw [qI hb] at q
  by_cases hbe:b=e
  ·have q':H b=some (.own x):=by
    rcases he with z | z
    ·exact absurd (hbe.trans z) hb
    ·rw [hbe];exact z
   rw [q] at q';cases q'
   obtain ⟨v,hv⟩:=heo
   exact ⟨v,by rw [hbe];exact hv⟩
  ·refine (ok b u q).stay (fun c v hc r=>k c v ?_ r) (fun c r=>by rw [qI (nown c b r)];exact r) fun c xs r=>by rw [qI (ntup c xs r)];exact r
   rcases hc with rfl | hc
   ·exact hbe
   ·rintro rfl
    rcases he with z | z
    ·exact nown c b hc z
    ·rw [hc] at z;cases z;exact hb rfl
end
structure Un (fs ex:List Addr) (H H':Hp) (h h':Heap):Prop where
 keep:∀ b o,h.get? b=some o->H b=none->b∉fs->b∉ex->h'.get? b=some o
 slot:∀ b o,h.get? b=some o->H b=none->b∈fs->b∉ex->∃ sl,h'.get? b=some { o with slots:=sl }
 free:∀ b o,h.get? b=some o->H b=none->b∉ex->H' b=none
 there:∀ b o,h.get? b=some o->b∉ex->∃ o',h'.get? b=some o'
 tups:∀ b xs,H b=some (.tup xs)->H' b=some (.tup xs)
 frzs:∀ b o u,H b=some (.frz o u)->H' b=some (.frz o u)
 tbls:∀ b ps,H b=some (.tbl ps)->∃ more,H' b=some (.tbl (ps ++ more))
section
variable {fs fs' ex ex':List Addr} {H H1 H2:Hp} {h h1 h2 h':Heap} {a x e:Addr} {o:HO}
theorem Un.any (u:Un fs ex H H1 h h1) {b:Addr} {ob:Obj} (q:h.get? b=some ob) (n:H b=none) (hx:b∉ex):∃ sl,h1.get? b=some { ob with slots:=sl }:=by
 by_cases hb:b∈fs
 ·exact u.slot b ob q n hb hx
 ·exact ⟨ob.slots,u.keep b ob q n hb hx⟩
theorem Un.trans (a:Un fs ex H H1 h h1) (b:Un fs ex H1 H2 h1 h2):Un fs ex H H2 h h2 where
 keep:=fun c ob q n hc hx=>b.keep c ob (a.keep c ob q n hc hx) (a.free c ob q n hx) hc hx
 slot:=fun c ob q n hc hx=>by
  obtain ⟨sl,e1⟩:=a.slot c ob q n hc hx
  obtain ⟨sl',e2⟩:=b.slot c _ e1 (a.free c ob q n hx) hc hx
  exact ⟨sl',e2⟩
 free:=fun c ob q n hx=>by
  obtain ⟨o',e1⟩:=a.there c ob q hx
  exact b.free c o' e1 (a.free c ob q n hx) hx
 there:=fun c ob q hx=>by
  obtain ⟨o',e1⟩:=a.there c ob q hx
  exact b.there c o' e1 hx
 tups:=fun c xs q=>b.tups c xs (a.tups c xs q)
 frzs:=fun c ob xs q=>b.frzs c ob xs (a.frzs c ob xs q)
 tbls:=fun c ps q=>by
  obtain ⟨m1,e1⟩:=a.tbls c ps q
  obtain ⟨m2,e2⟩:=b.tbls c _ e1
  exact ⟨m1 ++ m2,by rw [e2,Array.append_assoc]⟩
theorem Un.kept (k:∀ b u,h.get? b=some u->h'.get? b=some u):Un fs ex H H h h' :=
 ⟨fun b ob q _ _ _=>k b ob q,fun b ob q _ _ _=>⟨ob.slots,k b ob q⟩,fun _ _ _ n _=>n,fun b ob q _=>⟨ob,k b ob q⟩,fun _ _ q=>q,fun _ _ _ q=>q,fun _ ps q=>⟨#[],by rw [q];simp⟩⟩
theorem Un.refl:Un fs ex H H h h:=Un.kept fun _ _ q=>q
theorem Un.laid (k:∀ b u,h.get? b=some u->h'.get? b=some u) (hp:h.objs.size <= a) (hn:H a=none):Un fs ex H (upd H a o) h h' where
 keep:=fun b u q _ _ _=>k b u q
 slot:=fun b u q _ _ _=>⟨u.slots,k b u q⟩
 free:=fun b u q n _=>by rw [qI (Nat.ne_of_lt (Nat.lt_of_lt_of_le (Heap.lt_size q) hp))];exact n
 there:=fun b u q _=>⟨u,k b u q⟩
 tups:=fun b xs q=>by rw [qI (q9 q hn)];exact q
 frzs:=fun b u xs q=>by rw [qI (q9 q hn)];exact q
 tbls:=fun b ps q=>⟨#[],by rw [qI (q9 q hn),q];simp⟩
theorem Un.write (mu:Mut (H x)) (he:e=x\/H e=some (.own x)) (k:∀ b u,b≠e->h.get? b=some u->h'.get? b=some u) (heo:∃ u,h'.get? e=some u):Un fs ex H (upd H x o) h h':=by
 have hx:∀ b,H b=none->b≠x:=fun b n z=>by subst z;rw [n] at mu;exact mu
 have hb:∀ b,H b=none->b≠e:=fun b n z=>by
  subst z
  rcases he with r | r
  ·exact hx b n r
  ·rw [n] at r;cases r
 have hm:∀ b u,H b=some u->¬ Mut (some u)->b≠x:=fun b u q nm z=>by subst z;rw [q] at mu;exact nm mu
 refine ⟨fun b u q n _ _=>k b u (hb b n) q,fun b u q n _ _=>⟨u.slots,k b u (hb b n) q⟩,fun b u q n _=>by rw [qI (hx b n)];exact n,fun b u q _=>?_,
  fun b xs q=>by rw [qI (hm b _ q fun z=>z)];exact q,fun b u xs q=>by rw [qI (hm b _ q fun z=>z)];exact q,fun b ps q=>⟨#[],by rw [qI (hm b _ q fun z=>z),q];simp⟩⟩
 by_cases hbe:b=e
 ·subst hbe;exact heo
 ·exact ⟨u,k b u hbe q⟩
theorem Un.mono (u:Un fs ex H H1 h h1) (hs:∀ b∈fs,b∈fs') (hx:∀ b∈ex,b∈ex'):Un fs' ex' H H1 h h1 :=
 ⟨fun b ob q n hb he=>u.keep b ob q n (fun z=>hb (hs b z)) fun z=>he (hx b z),fun _ _ q n _ he=>u.any q n fun z=>he (hx _ z),fun b ob q n he=>u.free b ob q n fun z=>he (hx b z),fun b ob q he=>u.there b ob q fun z=>he (hx b z),u.tups,u.frzs,u.tbls⟩
end
def trk (h:Heap) (H:Hp):List Addr:=(List.range h.objs.size).filter fun a=>(H a).isSome
def hidT (h:Heap) (H:Hp):Heap:=PySem.W.hideAll h (trk h H)
theorem qeV (h:Heap) (H:Hp):(hidT h H).objs.size=h.objs.size:=PySem.W.hideAll_size _ _
theorem qgf {h:Heap} {H:Hp} {b:Addr} {o:Obj} (e:h.get? b=some o) (n:H b=none):(hidT h H).get? b=some o :=
 PySem.W.hideAll_get _ e fun hm=>by
  have q:(H b).isSome=true:=(List.mem_filter.mp hm).2
  rw [n] at q;simp at q
theorem qiU {h:Heap} {H:Hp} {b:Addr} {o:Obj} (e:(hidT h H).get? b=some o):h.get? b=some o/\H b=none:=by
 have e':h.get? b=some o:=PySem.W.of_hideAll (trk h H) e
 refine ⟨e',?_⟩
 cases q:H b with
 | none=>rfl
 | some x =>
  have hm:b∈trk h H:=List.mem_filter.mpr ⟨List.mem_range.mpr (Heap.lt_size e'),by simp [q]⟩
  have z:(hidT h H).get? b=none:=PySem.W.hideAll_none (trk h H) hm
  rw [z] at e;cases e
def qhT (g h:Heap) (L:Addr):List (Addr×Obj):=(List.range h.objs.size).filterMap fun a=>if a=L\/(g.get? a).isSome=true then none else (h.get? a).map fun o=>(a,o)
def rest (g h:Heap) (L d:Addr):List (Addr×Obj):=(qhT g h L).filter fun p=>decide (p.1≠d)
end L2
namespace L2
open PySem PySem.Spec PyProof.Rows
structure Mod (K:PySem.W.Frag) (mg:Str->Option Value) (base:Heap):Prop where
 kin:K.In base
 glob:base.Ns mainGlobals mg
 blt:∃ mb,base.Ns builtinsNs mb/\∀ x:Str,x ≠ "__name__"->mb x=bootBuiltins x
 nolimit:base.NoLimit
structure Cx where
 prog:Program
 w:World
 K:PySem.W.Frag
 mg:Str->Option Value
 base:Heap
 A:Around
 N:List Str
 s₀:Shared
 H₀:Hp
 env:Env
 outer:List Env
 stack:List Env
 ex:List Addr
 fn:Str->Bool
 calm:Bool
 pn:List (Addr×Obj)
 xe:Value->Shared->Prop
def frs (l:List Env):List Addr:=l.filterMap (·.frame)
abbrev Cx.fs (X:Cx):List Addr:=frs X.outer
def Vis (sc:Scope) (x:Str):Prop:=sc.names.lookup x=some .local\/sc.names.lookup x=some .cell\/sc.names.lookup x=some .free
def Loc (sc:Scope) (x:Str):Prop:=sc.names.lookup x=some .local\/sc.names.lookup x=some .cell
def Look (env:Env) (h:Heap) (m:Str->Option Value) (x:Str) (u:Value):Prop :=
 (env.kindOf x=some .local/\m x=some u)\/((env.kindOf x=some .cell\/env.kindOf x=some .free)/\∃ c,env.cells.lookup x=some c/\h.IsCell c (some u))
structure Cx.Ok (X:Cx):Prop where
 mod:Mod X.K X.mg X.base
 kind:X.env.scope.kind=.function
 glob:X.env.globals=mainGlobals
 blt:X.env.builtins=builtinsNs
 above:X.s₀.heap.objs.size <= X.env.locals
 inj:∀ x y c,X.env.cells.lookup x=some c->X.env.cells.lookup y=some c->x=y
 has:∀ x,(X.env.kindOf x=some .cell\/X.env.kindOf x=some .free)->∃ c,X.env.cells.lookup x=some c
 cab:∀ x c,X.fn x=true->X.env.cells.lookup x=some c->X.s₀.heap.objs.size <= c
 hd:X.calm=true->X.A.handled=none
 frames:X.A.frames=some X.stack
 stk:X.stack=X.outer\/(X.stack=X.env :: X.outer/\X.env.frame=some X.env.locals)
 exf:∀ b∈X.ex,b≠X.env.locals/\∀ x c,X.env.cells.lookup x=some c->c≠b
 bs:∀ b o,X.base.get? b=some o->X.s₀.heap.get? b=some o/\X.H₀ b=none
 bsz:X.base.objs.size <= X.s₀.heap.objs.size
 noex:∀ b o,X.base.get? b=some o->b∉X.ex
 exfs:∀ b∈X.ex,b∉X.fs
 funs:X.s₀.heap.FunFrames X.base X.outer
 frf:∀ b∈X.fs,X.H₀ b=none
structure Inv (X:Cx) (pins:List (Addr×Obj)) (σ:List (Option V)) (H:Hp) (s:Shared):Prop where
 ok:X.Ok
 os:s.os=X.s₀.os
 bare:AllBare s.gens
 base:Un X.fs X.ex X.H₀ H X.s₀.heap s.heap
 loc:∃ m,s.heap.Ns X.env.locals m/\∀ (i:Nat) (x:Str) (v:V),X.N[i]?=some x->σ[i]?=some (some v)->Vis X.env.scope x->∃ u,RelV v u/\Look X.env s.heap m x u
 cell:∀ x c,X.env.cells.lookup x=some c->∃ v,s.heap.IsCell c v
 free:H X.env.locals=none
 freeC:∀ x c,X.env.cells.lookup x=some c->H c=none
 pin:∀ p∈X.pn ++ pins,s.heap.get? p.1=some p.2/\H p.1=none/\p.1≠X.env.locals/\p.1∉X.fs/\∀ v,p.2.data≠.cell v
 hok:HOk X.prog X.w H s.heap
 len:σ.length=X.N.length
section
variable {X:Cx} {pins:List (Addr×Obj)} {σ:List (Option V)} {H H':Hp} {s:Shared} {h':Heap}
theorem Cx.Ok.nofr (ok:X.Ok) {b:Addr} {o:Obj} (e:X.base.get? b=some o):b∉X.fs:=fun hb=>by
 have:=(ok.funs.mem hb).1
 rw [e] at this;cases this
theorem Inv.bs (I:Inv X pins σ H s):∀ b o,X.base.get? b=some o->s.heap.get? b=some o/\H b=none:=fun b o e =>
 ⟨I.base.keep b o (I.ok.bs b o e).1 (I.ok.bs b o e).2 (I.ok.nofr e) (I.ok.noex b o e),I.base.free b o (I.ok.bs b o e).1 (I.ok.bs b o e).2 (I.ok.noex b o e)⟩
theorem Inv.bk (I:Inv X pins σ H s):∀ b o,X.base.get? b=some o->s.heap.get? b=some o:=fun b o e=>(I.bs b o e).1
theorem Inv.mod (I:Inv X pins σ H s):Mod X.K X.mg X.base:=I.ok.mod
theorem Inv.kIn (I:Inv X pins σ H s):X.K.In s.heap:=I.ok.mod.kin.keeps I.bk
theorem Inv.nolimit (I:Inv X pins σ H s):s.heap.NoLimit:=I.ok.mod.nolimit.keeps I.bk
theorem Inv.fr (I:Inv X pins σ H s):∃ m,Fr X.base X.env.locals s.heap m :=
 let ⟨m,hn,_⟩:=I.loc
 ⟨m,hn,I.bk,Nat.le_trans I.ok.bsz I.ok.above⟩
theorem Inv.lt (I:Inv X pins σ H s):X.env.locals < s.heap.objs.size:=let ⟨_,hn,_⟩:=I.loc;hn.lt
theorem Inv.sz (I:Inv X pins σ H s):X.s₀.heap.objs.size <= s.heap.objs.size:=Nat.le_trans I.ok.above (Nat.le_of_lt I.lt)
theorem Inv.nofs (I:Inv X pins σ H s) {a:Addr} (h:s.heap.objs.size <= a):a∉X.fs:=fun hb=>by
 obtain ⟨_,o,ho,_⟩:=I.ok.funs.mem hb
 exact absurd (Nat.lt_of_lt_of_le (Heap.lt_size ho) (Nat.le_trans I.sz h)) (Nat.lt_irrefl _)
theorem Inv.cne (I:Inv X pins σ H s):∀ x c,X.env.cells.lookup x=some c->c≠X.env.locals:=fun x c e z=>by
 obtain ⟨v,o,ho,hd⟩:=I.cell x c e
 obtain ⟨m,⟨o',es,ep,ho',hd',_⟩,_⟩:=I.loc
 rw [z,ho'] at ho;cases ho;rw [hd'] at hd;cases hd
theorem Inv.funs (I:Inv X pins σ H s):s.heap.FunFrames X.base X.outer:=by
 have all:∀ (l:List Env),(∀ b∈frs l,b∈X.fs)->X.s₀.heap.FunFrames X.base l->s.heap.FunFrames X.base l:=by
  intro l
  induction l with
  | nil=>intro _ _;trivial
  | cons env r ih =>
   intro hs hl
   obtain ⟨hk,⟨L,o,hf,hn,ho,hd⟩,hr⟩:=hl
   have hL:L∈X.fs:=hs L (by unfold frs;rw [List.filterMap_cons,hf];exact List.mem_cons_self)
   obtain ⟨sl,e⟩:=I.base.slot L o ho (I.ok.frf L hL) hL fun z=>I.ok.exfs L z hL
   exact ⟨hk,⟨L,_,hf,hn,e,hd⟩,ih (fun b hb=>hs b (by unfold frs;rw [List.filterMap_cons,hf];exact List.mem_cons_of_mem _ hb)) hr⟩
 exact all X.outer (fun _ hb=>hb) I.ok.funs
theorem Inv.stack (I:Inv X pins σ H s):s.heap.FunFrames X.base X.stack:=by
 rcases I.ok.stk with e | ⟨e,hf⟩
 ·rw [e];exact I.funs
 ·rw [e]
  obtain ⟨m,hn,_⟩:=I.loc
  refine .cons (by rw [I.ok.kind];decide) hf hn ?_ I.funs
  exact Heap.get?_none_of_le (Nat.le_trans I.ok.bsz I.ok.above)
theorem Inv.stkSub (I:Inv X pins σ H s):∀ b∈frs X.stack,b∈X.env.locals :: X.fs:=fun b hb=>by
 rcases I.ok.stk with e | ⟨e,hf⟩
 ·rw [e] at hb;exact List.mem_cons_of_mem _ hb
 ·rw [e] at hb
  unfold frs at hb
  rw [List.filterMap_cons,hf] at hb
  exact hb
theorem Inv.stkFree (I:Inv X pins σ H s):∀ b∈frs X.stack,H b=none:=fun b hb=>by
 rcases List.mem_cons.mp (I.stkSub b hb) with e | hb
 ·rw [e];exact I.free
 ·obtain ⟨_,o,ho,_⟩:=I.ok.funs.mem hb
  exact I.base.free b o ho (I.ok.frf b hb) fun z=>I.ok.exfs b z hb
theorem Inv.step {g':Array GenState} {t':Nat} {d':Drawn} {ch:List Addr} (I:Inv X pins σ H s)
  (hch:∀ b∈ch,(b∈X.ex\/X.s₀.heap.objs.size <= b)/\b≠X.env.locals/\(∀ x c,X.env.cells.lookup x=some c->c≠b)/\∀ p∈X.pn ++ pins,p.1≠b)
  (keep:∀ b o,b≠X.env.locals->b∉X.fs->b∉ch->s.heap.get? b=some o->H b=none->h'.get? b=some o)
  (slot:∀ b o,b≠X.env.locals->b∈X.fs->b∉ch->s.heap.get? b=some o->H b=none->∃ sl,h'.get? b=some { o with slots:=sl }) (free:∀ b o,b∉ch->s.heap.get? b=some o->H b=none->H' b=none)
  (there:∀ b o,b∉ch->s.heap.get? b=some o->∃ o',h'.get? b=some o')
  (tups:∀ b xs,H b=some (.tup xs)->H' b=some (.tup xs)) (frzs:∀ b o u,H b=some (.frz o u)->H' b=some (.frz o u)) (tbls:∀ b ps,H b=some (.tbl ps)->∃ more,H' b=some (.tbl (ps ++ more)))
  (ns:∀ m,s.heap.Ns X.env.locals m->h'.Ns X.env.locals m) (hok:HOk X.prog X.w H' h') (hg:AllBare g') :
  Inv X pins σ H' { s with heap:=h',gens:=g',drawn:=d',toks:=t' }:=by
 have neL:∀ b o,X.s₀.heap.get? b=some o->b≠X.env.locals:=fun b o e=>Nat.ne_of_lt (Nat.lt_of_lt_of_le (Heap.lt_size e) I.ok.above)
 have neC:∀ b o,X.s₀.heap.get? b=some o->b∉X.ex->b∉ch:=fun b o e hx hb=>by
  rcases (hch b hb).1 with z | z
  ·exact hx z
  ·exact absurd (Nat.lt_of_lt_of_le (Heap.lt_size e) z) (Nat.lt_irrefl _)
 have cellK:∀ x c,X.env.cells.lookup x=some c->∀ v,s.heap.IsCell c v->h'.IsCell c v:=fun x c e v ⟨o,ho,hd⟩=>by
  have nch:c∉ch:=fun z=>(hch c z).2.2.1 x c e rfl
  by_cases hc:c∈X.fs
  ·obtain ⟨sl,q⟩:=slot c o (I.cne x c e) hc nch ho (I.freeC x c e)
   exact ⟨_,q,hd⟩
  ·exact ⟨o,keep c o (I.cne x c e) hc nch ho (I.freeC x c e),hd⟩
 refine ⟨I.ok,I.os,hg,⟨fun b o e n hb hx=>?_,fun b o e n hb hx=>?_,fun b o e n hx=>?_,fun b o e hx=>?_,fun b xs e=>tups b xs (I.base.tups b xs e),fun b o xs e=>frzs b o xs (I.base.frzs b o xs e),fun b ps e=>?_⟩,?_,fun x c e=>?_,?_,fun x c e=>?_,fun p hp=>?_,hok,I.len⟩
 ·exact keep b o (neL b o e) hb (neC b o e hx) (I.base.keep b o e n hb hx) (I.base.free b o e n hx)
 ·obtain ⟨sl,e1⟩:=I.base.slot b o e n hb hx
  obtain ⟨sl',e2⟩:=slot b _ (neL b o e) hb (neC b o e hx) e1 (I.base.free b o e n hx)
  exact ⟨sl',e2⟩
 ·obtain ⟨o',e1⟩:=I.base.there b o e hx
  exact free b o' (neC b o e hx) e1 (I.base.free b o e n hx)
 ·obtain ⟨o',e1⟩:=I.base.there b o e hx
  exact there b o' (neC b o e hx) e1
 ·obtain ⟨m1,e1⟩:=I.base.tbls b ps e
  obtain ⟨m2,e2⟩:=tbls b _ e1
  exact ⟨m1 ++ m2,by rw [e2,Array.append_assoc]⟩
 ·obtain ⟨m,hn,hl⟩:=I.loc
  refine ⟨m,ns m hn,fun i x v e1 e2 e3=>?_⟩
  obtain ⟨u,r,l⟩:=hl i x v e1 e2 e3
  refine ⟨u,r,?_⟩
  rcases l with l | ⟨k,c,e,z⟩
  ·exact .inl l
  ·exact .inr ⟨k,c,e,cellK x c e _ z⟩
 ·obtain ⟨v,z⟩:=I.cell x c e
  exact ⟨v,cellK x c e v z⟩
 ·obtain ⟨m,⟨o,_,_,ho,_⟩,_⟩:=I.loc
  exact free _ o (fun z=>(hch _ z).2.1 rfl) ho I.free
 ·obtain ⟨v,o,ho,hd⟩:=I.cell x c e
  exact free c o (fun z=>(hch c z).2.2.1 x c e rfl) ho (I.freeC x c e)
 ·obtain ⟨e,n,ne,nf,d⟩:=I.pin p hp
  have nch:p.1∉ch:=fun z=>(hch p.1 z).2.2.2 p hp rfl
  exact ⟨keep p.1 p.2 ne nf nch e n,free p.1 p.2 nch e n,ne,nf,d⟩
theorem Inv.un {t':Nat} (I:Inv X pins σ H s) (u:Un X.fs [] H H' s.heap h') (hok:HOk X.prog X.w H' h'):Inv X pins σ H' { s with heap:=h',toks:=t' }:=by
 obtain ⟨m,⟨o,es,ep,ho,r⟩,_⟩:=id I.loc
 obtain ⟨sl,hL⟩:=u.any ho I.free (by simp)
 exact I.step (g':=s.gens) (d':=s.drawn) (ch:=[]) (fun _ z=>nomatch z) (fun b o _ hb _ e n=>u.keep b o e n hb (by simp)) (fun b o _ hb _ e n=>u.slot b o e n hb (by simp)) (fun b o _ e n=>u.free b o e n (by simp)) (fun b o _ e=>u.there b o e (by simp)) u.tups u.frzs u.tbls (fun m' hm=>by
  obtain ⟨o',es',ep',ho',r'⟩:=hm
  rw [ho] at ho';cases ho'
  exact ⟨_,es',ep',hL,r'⟩) hok I.bare
theorem Inv.call {g':Array GenState} {t':Nat} {d':Drawn} {ch:List Addr} (I:Inv X pins σ H s) (u:Un (frs X.stack) ch H H' s.heap h') (hok:HOk X.prog X.w H' h') (hg:AllBare g')
  (hch:∀ b∈ch,(b∈X.ex\/X.s₀.heap.objs.size <= b)/\b≠X.env.locals/\(∀ x c,X.env.cells.lookup x=some c->c≠b)/\∀ p∈X.pn ++ pins,p.1≠b) :
  Inv X pins σ H' { s with heap:=h',gens:=g',drawn:=d',toks:=t' }:=by
 obtain ⟨m,⟨o,es,ep,ho,r⟩,_⟩:=id I.loc
 obtain ⟨sl,hL⟩:=u.any ho I.free fun z=>(hch _ z).2.1 rfl
 exact I.step (ch:=ch) hch (fun b o hL hb hc e n=>u.keep b o e n (fun z=>(List.mem_cons.mp (I.stkSub b z)).elim hL hb) hc) (fun b o _ _ hc e n=>u.any e n hc) (fun b o hc e n=>u.free b o e n hc) (fun b o hc e=>u.there b o e hc) u.tups u.frzs u.tbls (fun m' hm=>by
  obtain ⟨o',es',ep',ho',r'⟩:=hm
  rw [ho] at ho';cases ho'
  exact ⟨_,es',ep',hL,r'⟩) hok hg
theorem Inv.turned {t':Nat} {it:Addr} (I:Inv X pins σ H s) (k:∀ b o,b≠it->s.heap.get? b=some o->h'.get? b=some o) (hn:H it=none) (hL:it≠X.env.locals)
  (h1:it∈X.ex\/X.s₀.heap.objs.size <= it) (h2:∀ x c,X.env.cells.lookup x=some c->c≠it) (h3:∀ p∈X.pn ++ pins,p.1≠it):Inv X pins σ H { s with heap:=h',toks:=t' }:=by
 have nit:∀ b u,H b=some u->b≠it:=fun b u e z=>by rw [z,hn] at e;cases e
 refine I.step (g':=s.gens) (d':=s.drawn) (ch:=[it]) (fun b hb=>?_) (fun b o _ _ hc e _=>k b o (fun z=>hc (by simp [z])) e) (fun b o _ _ hc e _=>⟨o.slots,k b o (fun z=>hc (by simp [z])) e⟩) (fun _ _ _ _ n=>n)
  (fun b o hc e=>⟨o,k b o (fun z=>hc (by simp [z])) e⟩) (fun _ _ e=>e) (fun _ _ _ e=>e) (fun b ps e=>⟨#[],by rw [e];simp⟩) (fun m hm=>?_) (fun b u e=>?_) I.bare
 ·have e:b=it:=by simpa using hb
  subst e
  exact ⟨h1,hL,h2,h3⟩
 ·obtain ⟨o,es,ep,ho,r⟩:=hm
  exact ⟨o,es,ep,k _ o (Ne.symm hL) ho,r⟩
 ·refine (I.hok b u e).stay (fun c v hc q=>k c v ?_ q) (fun _ q=>q) fun _ _ q=>q
  rcases hc with z | z
  ·rw [z];exact nit b u e
  ·exact nit c _ z
theorem Inv.tok (I:Inv X pins σ H s) (t:Nat):Inv X pins σ H { s with toks:=t }:=I.un (h':=s.heap) (t':=t) Un.refl I.hok
theorem Inv.kept {t':Nat} (I:Inv X pins σ H s) (k:∀ b u,s.heap.get? b=some u->h'.get? b=some u):Inv X pins σ H { s with heap:=h',toks:=t' }:=I.un (Un.kept k) (I.hok.kept k)
theorem Inv.laid {a:Addr} {o:HO} {t':Nat} (I:Inv X pins σ H s) (k:∀ b u,s.heap.get? b=some u->h'.get? b=some u) (hp:s.heap.objs.size <= a) (new:Qx X.prog X.w (upd H a o) h' a o) :
  Inv X pins σ (upd H a o) { s with heap:=h',toks:=t' }:=I.un (Un.laid k hp (I.hok.fresh hp)) (I.hok.laid k hp new)
theorem Inv.write {x e:Addr} {o:HO} {t':Nat} (I:Inv X pins σ H s) (mu:Mut (H x)) (he:e=x\/H e=some (.own x)) (k:∀ b u,b≠e->s.heap.get? b=some u->h'.get? b=some u) (heo:∃ u,h'.get? e=some u)
  (new:Qx X.prog X.w (upd H x o) h' x o):Inv X pins σ (upd H x o) { s with heap:=h',toks:=t' }:=I.un (Un.write mu he k heo) (I.hok.write mu he k heo new)
theorem Inv.weak {σ':List (Option V)} (I:Inv X pins σ H s) (hl:σ'.length=σ.length) (w:∀ (i:Nat) v,σ'[i]?=some (some v)->σ[i]?=some (some v)):Inv X pins σ' H s :=
 ⟨I.ok,I.os,I.bare,I.base,let ⟨m,hn,hl'⟩:=I.loc;⟨m,hn,fun i x v e1 e2 e3=>hl' i x v e1 (w i v e2) e3⟩,I.cell,I.free,I.freeC,I.pin,I.hok,hl.trans I.len⟩
theorem Inv.pins_of {pins':List (Addr×Obj)} (I:Inv X pins σ H s) (h:∀ p∈pins',s.heap.get? p.1=some p.2/\H p.1=none/\p.1≠X.env.locals/\p.1∉X.fs/\∀ v,p.2.data≠.cell v):Inv X pins' σ H s :=
 ⟨I.ok,I.os,I.bare,I.base,I.loc,I.cell,I.free,I.freeC,fun p hp=>(List.mem_append.mp hp).elim (fun z=>I.pin p (List.mem_append_left _ z)) (h p),I.hok,I.len⟩
theorem W4 {N:List Str} (hN:N.Nodup) {i j:Nat} {x:Str} (a:N[i]?=some x) (b:N[j]?=some x):i=j:=by
 obtain ⟨h1,e1⟩:=List.getElem?_eq_some_iff.mp a
 obtain ⟨h2,e2⟩:=List.getElem?_eq_some_iff.mp b
 exact (List.getElem_inj hN).mp (e1.trans e2.symm)
theorem qbc {M:Model} {A:Around} {E:Value->Shared->Prop} {i:Nat} {x:Str} {v:V} {u:Value} {Q:Unit->Shared->Prop} (I:Inv X pins σ H s) (hN:X.N.Nodup) (hi:X.N[i]?=some x) (hx:Loc X.env.scope x) (r:RelV v u)
  (h:∀ s',Inv X pins (σ.set i (some v)) H s'->(∃ a,Heap.SameBut a s.heap s'.heap/\(a=X.env.locals\/X.env.cells.lookup x=some a))->Q () s') (hf:X.fn x=true\/X.env.scope.names.lookup x=some .local:=by first | exact .inl rfl | exact .inr rfl | assumption):wpAny M A (storeName X.env x u) Q E s:=by
 obtain ⟨m,hn,hl⟩:=id I.loc
 have hcls:(X.env.scope.kind == .class || (X.env.scope.kind == .module && X.env.locals != X.env.globals))=false:=by rw [I.ok.kind];rfl
 have hiσ:i < σ.length:=by rw [I.len];exact (List.getElem?_eq_some_iff.mp hi).1
 have cne:=I.cne
 have tracked:∀ {a:Addr} {h':Heap},(∃ o,s.heap.get? a=some o/\H a=none)->Heap.SameBut a s.heap h'->HOk X.prog X.w H h':=fun {a h'} ha hs b ob e=>by
  obtain ⟨_,_,hfree⟩:=ha
  refine (I.hok b ob e).stay (fun c w' hc q=>(hs.2 c ?_).trans q) (fun _ q=>q) fun _ _ q=>q
  rintro rfl
  rcases hc with rfl | hc
  ·rw [hfree] at e;cases e
  ·rw [hfree] at hc;cases hc
 rcases hx with hk | hk
 ·refine wpAny_storeName_local hk hn (fun h' hn' hs=>?_) hcls
  obtain ⟨oL,_,_,hoL,_⟩:=id hn
  refine h _ ⟨I.ok,I.os,I.bare,⟨fun b o e n hb hx=>?_,fun b o e n hb hx=>?_,I.base.free,fun b o e hx=>?_,I.base.tups,I.base.frzs,I.base.tbls⟩,⟨_,hn',fun j y v' e1 e2 e3=>?_⟩,fun y c e=>?_,I.free,I.freeC,fun p hp=>?_,tracked ⟨oL,hoL,I.free⟩ hs,by simpa using I.len⟩ ⟨_,hs,.inl rfl⟩
  ·exact (hs.2 b (Nat.ne_of_lt (Nat.lt_of_lt_of_le (Heap.lt_size e) I.ok.above))).trans (I.base.keep b o e n hb hx)
  ·obtain ⟨sl,e1⟩:=I.base.slot b o e n hb hx
   exact ⟨sl,(hs.2 b (Nat.ne_of_lt (Nat.lt_of_lt_of_le (Heap.lt_size e) I.ok.above))).trans e1⟩
  ·obtain ⟨o',e1⟩:=I.base.there b o e hx
   exact ⟨o',(hs.2 b (Nat.ne_of_lt (Nat.lt_of_lt_of_le (Heap.lt_size e) I.ok.above))).trans e1⟩
  ·by_cases hj:j=i
   ·subst hj
    rw [hi] at e1;cases e1
    rw [List.getElem?_set_self hiσ] at e2
    cases e2
    exact ⟨u,r,.inl ⟨hk,by simp⟩⟩
   ·rw [List.getElem?_set_ne (Ne.symm hj)] at e2
    obtain ⟨u',r',q⟩:=hl j y v' e1 e2 e3
    refine ⟨u',r',?_⟩
    rcases q with ⟨k,e⟩ | ⟨k,c,e,z⟩
    ·refine .inl ⟨k,?_⟩
     have:y≠x:=fun e=>hj (W4 hN e1 (e ▸ hi))
     simp [this,e]
    ·exact .inr ⟨k,c,e,z.sameBut hs (cne y c e)⟩
  ·obtain ⟨w',z⟩:=I.cell y c e
   exact ⟨w',z.sameBut hs (cne y c e)⟩
  ·obtain ⟨e,n,ne,nf,d⟩:=I.pin p hp
   exact ⟨(hs.2 p.1 ne).trans e,n,ne,nf,d⟩
 ·have hfn:X.fn x=true:=by
   rcases hf with z | z
   ·exact z
   ·rw [z] at hk;cases hk
  obtain ⟨c,hc⟩:=I.ok.has x (.inl hk)
  obtain ⟨w',z⟩:=I.cell x c hc
  refine wpAny_storeName_cell I.ok.kind hk hc z (fun h' hc' hs=>?_)
  obtain ⟨oc,hoc,hocd⟩:=id z
  refine h { s with heap:=h' } ⟨I.ok,I.os,I.bare,⟨fun b o e n hb hx=>?_,fun b o e n hb hx=>?_,I.base.free,fun b o e hx=>?_,I.base.tups,I.base.frzs,I.base.tbls⟩,⟨m,hn.sameBut hs (Ne.symm (cne x c hc)),fun j y v' e1 e2 e3=>?_⟩,fun y c' e=>?_,I.free,I.freeC,fun p hp=>?_,tracked ⟨oc,hoc,I.freeC x c hc⟩ hs,by simpa using I.len⟩ ⟨c,hs,.inr hc⟩
  ·exact (hs.2 b (Nat.ne_of_lt (Nat.lt_of_lt_of_le (Heap.lt_size e) (I.ok.cab x c hfn hc)))).trans (I.base.keep b o e n hb hx)
  ·obtain ⟨sl,e1⟩:=I.base.slot b o e n hb hx
   exact ⟨sl,(hs.2 b (Nat.ne_of_lt (Nat.lt_of_lt_of_le (Heap.lt_size e) (I.ok.cab x c hfn hc)))).trans e1⟩
  ·obtain ⟨o',e1⟩:=I.base.there b o e hx
   exact ⟨o',(hs.2 b (Nat.ne_of_lt (Nat.lt_of_lt_of_le (Heap.lt_size e) (I.ok.cab x c hfn hc)))).trans e1⟩
  ·by_cases hj:j=i
   ·subst hj
    rw [hi] at e1;cases e1
    rw [List.getElem?_set_self hiσ] at e2
    cases e2
    exact ⟨u,r,.inr ⟨.inl hk,c,hc,hc'⟩⟩
   ·rw [List.getElem?_set_ne (Ne.symm hj)] at e2
    obtain ⟨u',r',q⟩:=hl j y v' e1 e2 e3
    refine ⟨u',r',?_⟩
    rcases q with q | ⟨k,c',e,z'⟩
    ·exact .inl q
    ·refine .inr ⟨k,c',e,z'.sameBut hs ?_⟩
     rintro rfl
     exact hj (W4 hN e1 (I.ok.inj _ _ _ e hc ▸ hi))
  ·by_cases hcc:c'=c
   ·subst hcc;exact ⟨_,hc'⟩
   ·obtain ⟨w2,z2⟩:=I.cell y c' e
    exact ⟨w2,z2.sameBut hs hcc⟩
  ·obtain ⟨e,n,ne,nf,d⟩:=I.pin p hp
   refine ⟨(hs.2 p.1 ?_).trans e,n,ne,nf,d⟩
   intro q
   rw [q,hoc] at e
   have q':oc=p.2:=Option.some.inj e
   exact d w' (by rw [← q'];exact hocd)
theorem qaj {M:Model} {A:Around} {E:Value->Shared->Prop} {i:Nat} {x:Str} {v:V} {u:Value} {Q:Unit->Shared->Prop} (I:Inv X pins σ H s) (hN:X.N.Nodup) (hi:X.N[i]?=some x) (hx:Loc X.env.scope x) (r:RelV v u)
  (h:∀ s',Inv X pins (σ.set i (some v)) H s'->Q () s') (hf:X.fn x=true\/X.env.scope.names.lookup x=some .local:=by first | exact .inl rfl | exact .inr rfl | assumption):wpAny M A (storeName X.env x u) Q E s :=
 qbc I hN hi hx r (fun s' I' _=>h s' I') hf
theorem Inv.call' {s':Shared} {ch:List Addr} (I:Inv X pins σ H s) (ho:s'.os=s.os) (u:Un (frs X.stack) ch H H' s.heap s'.heap) (hok:HOk X.prog X.w H' s'.heap) (hg:AllBare s'.gens)
  (hch:∀ b∈ch,(b∈X.ex\/X.s₀.heap.objs.size <= b)/\b≠X.env.locals/\(∀ x c,X.env.cells.lookup x=some c->c≠b)/\∀ p∈X.pn ++ pins,p.1≠b):Inv X pins σ H' s':=by
 obtain ⟨h',g',d',t',o'⟩:=s'
 have e:o'=s.os:=ho
 subst e
 exact I.call (g':=g') (t':=t') (d':=d') u hok hg hch
end
abbrev XK:=Value->Option Addr->Hp->Prop
abbrev St:=List (Option V)
abbrev VK:=V->Hp->Prop
abbrev TE:=St->Hp->VK->Prop
abbrev TT:=St->Hp->(Bool->Hp->Prop)->Prop
abbrev TA:=St->Hp->(List V->Hp->Prop)->Prop
structure Ends where
 nx:St->Hp->Prop
 rt:VK
 bk:St->Hp->Prop:=fun _ _=>False
 ct:St->Hp->Prop:=fun _ _=>False
abbrev TS:=Ends->St->Hp->Prop
def EP (X:Cx) (pins:List (Addr×Obj)) (σ:St) (Q:VK) (u:Value) (s':Shared):Prop:=∃ v H',Inv X pins σ H' s'/\RelV v u/\Q v H'
def TP (X:Cx) (pins:List (Addr×Obj)) (σ:St) (Q:Bool->Hp->Prop) (b:Bool) (s':Shared):Prop:=∃ H',Inv X pins σ H' s'/\Q b H'
def AP (X:Cx) (pins:List (Addr×Obj)) (σ:St) (Q:List V->Hp->Prop) (us:List Value) (s':Shared):Prop:=∃ vs H',Inv X pins σ H' s'/\Vals vs us/\Q vs H'
def SP (X:Cx) (pins:List (Addr×Obj)) (D:Ends) (f:Flow) (s':Shared):Prop :=
 match f with
 | .next=>∃ σ' H',Inv X pins σ' H' s'/\D.nx σ' H'
 | .brk=>∃ σ' H',Inv X pins σ' H' s'/\D.bk σ' H'
 | .cont=>∃ σ' H',Inv X pins σ' H' s'/\D.ct σ' H'
 | .ret u=>∃ v σ' H',Inv X pins σ' H' s'/\RelV v u/\D.rt v H'
def PE (X:Cx) (e:Expr) (t:TE):Prop :=
 ∀ (pins:List (Addr×Obj)) (s:Shared) (σ:St) (H:Hp) (Q:VK),Inv X pins σ H s->t σ H Q->wpAny (model X.prog X.w) X.A (eval e X.env) (EP X pins σ Q) X.xe s
def PT (X:Cx) (e:Expr) (t:TT):Prop :=
 ∀ (pins:List (Addr×Obj)) (s:Shared) (σ:St) (H:Hp) (Q:Bool->Hp->Prop),Inv X pins σ H s->t σ H Q->wpAny (model X.prog X.w) X.A (isTrue e X.env (eval e X.env)) (TP X pins σ Q) X.xe s
def PW (X:Cx) (e:Expr) (t:TT):Prop :=
 ∀ (whole:Sem Value) (pins:List (Addr×Obj)) (s:Shared) (σ:St) (H:Hp) (Q:Bool->Hp->Prop),Inv X pins σ H s->t σ H Q->wpAny (model X.prog X.w) X.A (isTrue e X.env whole) (TP X pins σ Q) X.xe s
theorem PW.pt {X:Cx} {e:Expr} {t:TT} (h:PW X e t):PT X e t:=h _
def PA (X:Cx) (es:List Expr) (t:TA):Prop :=
 ∀ (pos:Pos) (pins:List (Addr×Obj)) (s:Shared) (σ:St) (H:Hp) (Q:List V->Hp->Prop),Inv X pins σ H s->t σ H Q->wpAny (model X.prog X.w) X.A (spliced (backTo pos (starEach es X.env))) (AP X pins σ Q) X.xe s
def PS (X:Cx) (st:Stmt) (t:TS):Prop :=
 ∀ (pins:List (Addr×Obj)) (s:Shared) (σ:St) (H:Hp) (D:Ends),Inv X pins σ H s->t D σ H->wpAny (model X.prog X.w) X.A (exec st X.env) (SP X pins D) X.xe s
def PSs (X:Cx) (st:List Stmt) (t:TS):Prop :=
 ∀ (pins:List (Addr×Obj)) (s:Shared) (σ:St) (H:Hp) (D:Ends),Inv X pins σ H s->t D σ H->wpAny (model X.prog X.w) X.A (execs st X.env) (SP X pins D) X.xe s
theorem thn {α:Type} {t:Sem α} {Q Q':α->Shared->Prop} {M:Model} {A:Around} {E:Value->Shared->Prop} {s:Shared} (h:wpAny M A t Q E s) (hQ:∀ a s,Q a s->Q' a s):wpAny M A t Q' E s:=wpAny_mono h hQ fun _ _ x=>x
end L2
namespace L2
open PySem PySem.Spec PyProof.Rows
section
variable {X:Cx}
def tVar (i:Nat):TE:=fun σ H Q=>∃ v,σ[i]?=some (some v)/\Q v H
def tC (v:V):TE:=fun _ H Q=>Q v H
theorem qhf {i:Nat} {x:Str} {pos:Pos} (hN:X.N[i]?=some x) (hv:Vis X.env.scope x) (hd:(x == ("__debug__" : Str))=false:=by decide) (hcd:(x == ("__classdict__" : Str))=false:=by decide):PE X (.Name x pos) (tVar i):=by
 intro pins s σ H Q I h
 obtain ⟨v,e,h⟩:=h
 obtain ⟨m,hn,hl⟩:=I.loc
 obtain ⟨u,r,l⟩:=hl i x v hN e hv
 have fin:EP X pins σ Q u s:=⟨v,H,I,r,h⟩
 rcases l with ⟨hk,hm⟩ | ⟨hk,c,hc,hcell⟩
 ·exact wpAny_Name (wpAny_loadName_local I.ok.kind hk hn hm fin) hd
 ·rcases hk with hk | hk
  ·exact wpAny_Name (wpAny_loadName_cell I.ok.kind hk hc hcell fin) hd
  ·exact wpAny_Name (wpAny_loadName_free I.ok.kind hk hc hcell fin hcd) hd
theorem qk8 {i j pos}:PE X (.Constant (.int i) j pos) (tC (.int i)):=fun _ _ _ H _ I h=>wpAny_Constant_int ⟨.int i,H,I.tok _,⟨_,rfl⟩,h⟩
theorem pe_bl {b j pos}:PE X (.Constant (.bool b) j pos) (tC (.bl b)):=fun _ _ _ H _ I h=>Constant_bool ⟨.bl b,H,I,rfl,h⟩
theorem qk9 {j pos}:PE X (.Constant .none j pos) (tC .non):=fun _ _ _ H _ I h=>Constant_none ⟨.non,H,I,rfl,h⟩
theorem qlc {x j pos}:PE X (.Constant (.str x) j pos) (tC (.str x)):=fun _ _ _ H _ I h=>Calls.Constant_str ⟨.str x,H,I.tok _,⟨_,rfl⟩,h⟩
def Gl (X:Cx) (x:Str):Prop:=X.env.kindOf x=some .globalImplicit
theorem JF {E:Value->Shared->Prop} {pins:List (Addr×Obj)} {s:Shared} {σ:St} {H:Hp} {x:Str} {u:Value} {pos:Pos} {Q:Value->Shared->Prop} (I:Inv X pins σ H s) (hg:Gl X x) (hm:X.mg x=some u) (h:Q u s)
  (hd:(x == ("__debug__" : Str))=false:=by decide):wpAny (model X.prog X.w) X.A (eval (.Name x pos) X.env) Q E s :=
 Calls.Name_function_global I.ok.kind hg (Calls.loadGlobal_global (by rw [I.ok.glob];exact I.mod.glob.keeps I.bk) hm h) hd
theorem WP {E:Value->Shared->Prop} {pins:List (Addr×Obj)} {s:Shared} {σ:St} {H:Hp} {x:Str} {u:Value} {pos:Pos} {Q:Value->Shared->Prop} (I:Inv X pins σ H s) (hg:Gl X x) (hm:X.mg x=none) (hv:bootBuiltins x=some u) (h:Q u s)
  (hn:x ≠ "__name__" := by decide) (hd:(x == ("__debug__" : Str))=false:=by decide):wpAny (model X.prog X.w) X.A (eval (.Name x pos) X.env) Q E s:=by
 obtain ⟨mb,h1,h2⟩:=I.mod.blt
 exact Calls.Name_function_global I.ok.kind hg (Calls.loadGlobal_builtin (by rw [I.ok.glob];exact I.mod.glob.keeps I.bk) hm (by rw [I.ok.blt];exact h1.keeps I.bk) ((h2 x hn).trans hv) h) hd
theorem qbX {x:Str} {v:V} {u:Value} {pos:Pos} (hg:Gl X x) (hm:X.mg x=some u) (r:RelV v u) (hd:(x == ("__debug__" : Str))=false:=by decide):PE X (.Name x pos) (tC v) :=
 fun _ _ _ H _ I h=>JF I hg hm ⟨v,H,I,r,h⟩ hd
theorem qey {x:Str} {v:V} {u:Value} {pos:Pos} (hg:Gl X x) (hm:X.mg x=none) (hv:bootBuiltins x=some u) (r:RelV v u) (hn:x ≠ "__name__" := by decide) (hd:(x == ("__debug__" : Str))=false:=by decide):PE X (.Name x pos) (tC v) :=
 fun _ _ _ H _ I h=>WP I hg hm hv ⟨v,H,I,r,h⟩ hn hd
variable {a b:Expr} {ta tb:TE} {pos:Pos}
def tB (t:TE):TT:=fun σ H Q=>t σ H fun x H1=>∃ c,x=.bl c/\Q c H1
theorem qlk {e:Expr} {t:TE} (h:PE X e t) (he:∀ whole,isTrue e X.env whole=(do let v ← whole;standAt e.pos;holding [v] (truthy v)):=by intro _;rfl):PT X e (tB t):=by
 intro pins s σ H Q I hw
 refine isTrue_plain (thn (h pins s σ H _ I hw) fun v s1 ⟨x,H1,I1,r1,q1⟩=>?_) (he _)
 obtain ⟨d,rfl,q⟩:=q1
 cases r1
 exact wpAny_truthy_bool ⟨H1,I1,q⟩
variable {tA tB':TT} {rest:List Expr}
def tAnd (t u:TT):TT:=fun σ H Q=>t σ H fun c H1=>if c=true then u σ H1 Q else Q false H1
def tOr (t u:TT):TT:=fun σ H Q=>t σ H fun c H1=>if c=true then Q true H1 else u σ H1 Q
def tNot (t:TT):TT:=fun σ H Q=>t σ H fun c H1=>Q (!c) H1
theorem qjn (ha:PT X a tA):PW X (.BoolOp .And [a] pos) tA:=by
 intro wh pins s σ H Q I h
 refine isTrue_and (thn (ha pins s σ H Q I h) fun c s1 e=>?_)
 cases c with
 | true=>exact isTrue_and_nil e
 | false=>exact e
theorem qlo (ha:PT X a tA):PW X (.BoolOp .Or [a] pos) tA:=by
 intro wh pins s σ H Q I h
 refine isTrue_or (thn (ha pins s σ H Q I h) fun c s1 e=>?_)
 cases c with
 | false=>exact isTrue_or_nil e
 | true=>exact e
theorem qln (ha:PT X a tA) (hb:PW X (.BoolOp .And (b :: rest) pos) tB'):PW X (.BoolOp .And (a :: b :: rest) pos) (tAnd tA tB'):=by
 intro wh pins s σ H Q I h
 refine isTrue_and (thn (ha pins s σ H _ I h) fun c s1 ⟨H1,I1,q1⟩=>?_)
 cases c with
 | true=>exact hb wh pins s1 σ H1 Q I1 q1
 | false=>exact ⟨H1,I1,q1⟩
theorem pw_or (ha:PT X a tA) (hb:PW X (.BoolOp .Or (b :: rest) pos) tB'):PW X (.BoolOp .Or (a :: b :: rest) pos) (tOr tA tB'):=by
 intro wh pins s σ H Q I h
 refine isTrue_or (thn (ha pins s σ H _ I h) fun c s1 ⟨H1,I1,q1⟩=>?_)
 cases c with
 | true=>exact ⟨H1,I1,q1⟩
 | false=>exact hb wh pins s1 σ H1 Q I1 q1
theorem qlj (ha:PT X a tA):PT X (.UnaryOp .Not a pos) (tNot tA):=by
 intro pins s σ H Q I h
 exact isTrue_not (ha pins s σ H (fun c H1=>Q (!c) H1) I h)
def tAndV (ta tb:TE):TE:=fun σ H Q=>ta σ H fun x H1=>∃ c,x=.bl c/\if c=true then tb σ H1 Q else Q (.bl false) H1
def tOrV (ta tb:TE):TE:=fun σ H Q=>ta σ H fun x H1=>∃ c,x=.bl c/\if c=true then Q (.bl true) H1 else tb σ H1 Q
def tNotV (ta:TE):TE:=fun σ H Q=>ta σ H fun x H1=>∃ c,x=.bl c/\Q (.bl (!c)) H1
theorem qlb {op} {t:TE} (h:PE X a t):PE X (.BoolOp op [a] pos) t:=fun pins s σ H Q I hw=>BoolOp_one (h pins s σ H Q I hw)
theorem qk7 (ha:PE X a ta) (hb:PE X (.BoolOp .And (b :: rest) pos) tb):PE X (.BoolOp .And (a :: b :: rest) pos) (tAndV ta tb):=by
 intro pins s σ H Q I h
 refine BoolOp_and (thn (ha pins s σ H _ I h) fun v s1 ⟨x,H1,I1,r1,q1⟩=>?_)
 obtain ⟨c,rfl,q1⟩:=q1
 cases r1
 refine wpAny_truthy_bool ?_
 cases c with
 | true=>exact hb pins s1 σ H1 Q I1 q1
 | false=>exact ⟨.bl false,H1,I1,rfl,q1⟩
theorem pe_or (ha:PE X a ta) (hb:PE X (.BoolOp .Or (b :: rest) pos) tb):PE X (.BoolOp .Or (a :: b :: rest) pos) (tOrV ta tb):=by
 intro pins s σ H Q I h
 refine BoolOp_or (thn (ha pins s σ H _ I h) fun v s1 ⟨x,H1,I1,r1,q1⟩=>?_)
 obtain ⟨c,rfl,q1⟩:=q1
 cases r1
 refine wpAny_truthy_bool ?_
 cases c with
 | false=>exact hb pins s1 σ H1 Q I1 q1
 | true=>exact ⟨.bl true,H1,I1,rfl,q1⟩
theorem qla (ha:PE X a ta):PE X (.UnaryOp .Not a pos) (tNotV ta):=by
 intro pins s σ H Q I h
 refine UnaryOp_ (thn (ha pins s σ H _ I h) fun v s1 ⟨x,H1,I1,r1,q1⟩=>?_)
 obtain ⟨c,rfl,q1⟩:=q1
 cases r1
 exact not_of (wpAny_truthy_bool ⟨.bl (!c),H1,I1,rfl,q1⟩)
def tIf (t:TT) (ta tb:TE):TE:=fun σ H Q=>t σ H fun c H1=>if c=true then ta σ H1 Q else tb σ H1 Q
theorem qhb {c:Expr} (hc:PT X c tA) (ha:PE X a ta) (hb:PE X b tb):PE X (.IfExp c a b pos) (tIf tA ta tb):=by
 intro pins s σ H Q I h
 refine wpAny_IfExp (thn (hc pins s σ H _ I h) fun d s1 ⟨H1,I1,q1⟩=>?_)
 cases d with
 | true=>exact ha pins s1 σ H1 Q I1 q1
 | false=>exact hb pins s1 σ H1 Q I1 q1
end
end L2
namespace L2
open PySem PySem.Spec PyProof.Rows
def SqL (K:PySem.W.Frag) (H:Hp) (a:Addr) (xs:List V):Prop :=
 Rd H a (.lst xs)\/
  ∃ (o:Obj) (its:Array Value) (n:Nat),K.lookup a=some o/\o.cls=.type "list"/\o.dict=none/\o.data=.seq its n/\its.size <= sizeLine/\Vals xs its.toList
def SqT (K:PySem.W.Frag) (H:Hp) (a:Addr) (xs:List V):Prop :=
 Rd H a (.tup xs)\/
  ∃ (o:Obj) (its:Array Value) (n:Nat),K.lookup a=some o/\o.cls=.type "tuple"/\o.data=.seq its n/\its.size <= sizeLine/\Vals xs its.toList
def absV:Value->Option V
 | .none=>some .non
 | .bool b=>some (.bl b)
 | .int i _=>some (.int i)
 | .str x _=>some (.str x)
 | .bytes b _=>some (.byt b)
 | .float b _=>some (.flt b)
 | .ref a=>some (.ref a)
 | .type n=>some (.ty n)
 | _=>none
theorem RelV.abs {x:V} {u:Value} (r:RelV x u):absV u=some x:=by
 cases x with
 | non=>cases r;rfl
 | bl _=>cases r;rfl
 | int _=>obtain ⟨t,rfl⟩:=r;rfl
 | str _=>obtain ⟨t,rfl⟩:=r;rfl
 | byt _=>obtain ⟨t,rfl⟩:=r;rfl
 | flt _=>obtain ⟨t,rfl⟩:=r;rfl
 | ref _=>cases r;rfl
 | ty _=>cases r;rfl
theorem RelV.inj {x y:V} {u:Value} (r:RelV x u) (q:RelV y u):x=y:=Option.some.inj (r.abs.symm.trans q.abs)
theorem Vals.inj:∀ {xs ys:List V} {us:List Value},Vals xs us->Vals ys us->xs=ys
 | _,_,_,.nil,.nil=>rfl
 | _,_,_,.cons r t,.cons r' t'=>by rw [r.inj r',Vals.inj t t']
section
variable {X:Cx} {pins:List (Addr×Obj)} {σ:St} {H:Hp} {s:Shared} {a:Addr} {xs ys:List V}
theorem SqL.of {K:PySem.W.Frag} (h:H a=some (.lst xs)):SqL K H a xs:=.inl (.inl h)
theorem SqT.of {K:PySem.W.Frag} (h:H a=some (.tup xs)):SqT K H a xs:=.inl (.inl h)
theorem Inv.list (I:Inv X pins σ H s) (h:SqL X.K H a xs):∃ its:List Value,Vals xs its/\PlainL s.heap a its.toArray/\xs.length <= sizeLine:=by
 rcases h with h | ⟨o,its,n,hk,hc,hd,hs,hz,r⟩
 ·obtain ⟨z,its,n,r,e⟩:=h.ok I.hok
  exact ⟨its,r,⟨_,n,e,rfl,rfl,rfl⟩,z⟩
 ·refine ⟨its.toList,r,⟨o,n,I.kIn a o hk,hc,hd,by simpa using hs⟩,?_⟩
  have e:=r.length
  simp only [Array.length_toList] at e
  omega
theorem Inv.tuple (I:Inv X pins σ H s) (h:SqT X.K H a xs):∃ its:List Value,Vals xs its/\IsTup s.heap a its.toArray/\xs.length <= sizeLine:=by
 rcases h with h | ⟨o,its,n,hk,hc,hs,hz,r⟩
 ·obtain ⟨z,its,r,p⟩:=h.ok I.hok
  exact ⟨its,r,p,z⟩
 ·refine ⟨its.toList,r,⟨o,I.kIn a o hk,hc,n,by simpa using hs⟩,?_⟩
  have e:=r.length
  simp only [Array.length_toList] at e
  omega
theorem Inv.list_inj (I:Inv X pins σ H s) (h:SqL X.K H a xs) (h':SqL X.K H a ys):xs=ys:=by
 obtain ⟨its,r,⟨o,n,e,_,_,d⟩,_⟩:=I.list h
 obtain ⟨its',r',⟨o',n',e',_,_,d'⟩,_⟩:=I.list h'
 rw [e] at e';cases e'
 rw [d] at d'
 injection d' with d1 _
 have:its=its':=by simpa using congrArg Array.toList d1
 subst this
 exact r.inj r'
theorem Inv.tuple_inj (I:Inv X pins σ H s) (h:SqT X.K H a xs) (h':SqT X.K H a ys):xs=ys:=by
 obtain ⟨its,r,⟨o,e,_,n,d⟩,_⟩:=I.tuple h
 obtain ⟨its',r',⟨o',e',_,n',d'⟩,_⟩:=I.tuple h'
 rw [e] at e';cases e'
 rw [d] at d'
 injection d' with d1 _
 have:its=its':=by simpa using congrArg Array.toList d1
 subst this
 exact r.inj r'
end
abbrev Cx.wish (X:Cx) (E:Value->Shared->Prop):Cx:={ X with xe:=E }
abbrev Cx.nox (X:Cx):Cx:=X.wish fun _ _=>False
theorem Cx.Ok.wish {X:Cx} (ok:X.Ok) (E:Value->Shared->Prop):(X.wish E).Ok :=
 ⟨ok.mod,ok.kind,ok.glob,ok.blt,ok.above,ok.inj,ok.has,ok.cab,ok.hd,ok.frames,ok.stk,ok.exf,ok.bs,ok.bsz,ok.noex,ok.exfs,ok.funs,ok.frf⟩
theorem Cx.Ok.unwish {X:Cx} {E:Value->Shared->Prop} (ok:(X.wish E).Ok):X.Ok :=
 ⟨ok.mod,ok.kind,ok.glob,ok.blt,ok.above,ok.inj,ok.has,ok.cab,ok.hd,ok.frames,ok.stk,ok.exf,ok.bs,ok.bsz,ok.noex,ok.exfs,ok.funs,ok.frf⟩
section
variable {X:Cx} {pins:List (Addr×Obj)} {σ:St} {H:Hp} {s:Shared} {E:Value->Shared->Prop}
theorem Inv.wish (I:Inv X pins σ H s) (E:Value->Shared->Prop):Inv (X.wish E) pins σ H s:=⟨I.ok.wish E,I.os,I.bare,I.base,I.loc,I.cell,I.free,I.freeC,I.pin,I.hok,I.len⟩
theorem Inv.unwish (I:Inv (X.wish E) pins σ H s):Inv X pins σ H s:=⟨I.ok.unwish,I.os,I.bare,I.base,I.loc,I.cell,I.free,I.freeC,I.pin,I.hok,I.len⟩
theorem SP.unwish {D:Ends} {f:Flow} {s':Shared} (h:SP (X.wish E) pins D f s'):SP X pins D f s':=by
 cases f with
 | next=>obtain ⟨σ',H',I,q⟩:=h;exact ⟨σ',H',I.unwish,q⟩
 | brk=>obtain ⟨σ',H',I,q⟩:=h;exact ⟨σ',H',I.unwish,q⟩
 | cont=>obtain ⟨σ',H',I,q⟩:=h;exact ⟨σ',H',I.unwish,q⟩
 | ret u=>obtain ⟨v,σ',H',I,r,q⟩:=h;exact ⟨v,σ',H',I.unwish,r,q⟩
theorem PE.nox {e:Expr} {t:TE} (h:PE X.nox e t):PE X e t:=fun pins s σ H Q I hw =>
 wpAny_mono (h pins s σ H Q (I.wish _) hw) (fun _ _ ⟨v,H',I',r,q⟩=>⟨v,H',I'.unwish,r,q⟩) fun _ _ z=>False.elim z
theorem PT.nox {e:Expr} {t:TT} (h:PT X.nox e t):PT X e t:=fun pins s σ H Q I hw =>
 wpAny_mono (h pins s σ H Q (I.wish _) hw) (fun _ _ ⟨H',I',q⟩=>⟨H',I'.unwish,q⟩) fun _ _ z=>False.elim z
theorem PSs.nox {st:List Stmt} {t:TS} (h:PSs X.nox st t):PSs X st t:=fun pins s σ H D I hw =>
 wpAny_mono (h pins s σ H D (I.wish _) hw) (fun _ _ q=>q.unwish) fun _ _ z=>False.elim z
end
section
variable {X:Cx} {st:Stmt} {rest:List Stmt} {t u:TS} {e:Expr} {te:TE} {pos:Pos}
def tNext:TS:=fun D σ H=>D.nx σ H
def tSeq (t u:TS):TS:=fun D σ H=>t { D with nx:=u D } σ H
theorem qji:PSs X [] tNext:=fun _ _ σ H _ I h=>wpAny_execs_nil ⟨σ,H,I,h⟩
theorem qhn (h1:PS X st t) (h2:PSs X rest u):PSs X (st :: rest) (tSeq t u):=by
 intro pins s σ H D I h
 refine wpAny_execs_cons (thn (h1 pins s σ H { D with nx:=u D } I h) fun f s1 q=>?_)
 cases f with
 | next =>
  obtain ⟨σ',H',I',q⟩:=q
  exact h2 pins s1 σ' H' D I' q
 | ret v=>exact q
 | brk=>exact q
 | cont=>exact q
theorem qjj (h1:PS X st t):PSs X [st] t:=by
 intro pins s σ H D I h
 refine wpAny_execs_cons (thn (h1 pins s σ H D I h) fun f s1 q=>?_)
 cases f with
 | next=>exact wpAny_execs_nil q
 | ret v=>exact q
 | brk=>exact q
 | cont=>exact q
theorem Inv.quiet {pins:List (Addr×Obj)} {σ:St} {H:Hp} {s:Shared} (I:Inv X pins σ H s):interactive X.env=false:=by simp [interactive,I.ok.kind]
def tDrop (te:TE):TS:=fun D σ H=>te σ H fun _ H1=>D.nx σ H1
theorem qbY (he:PE X e te) (hs:swapsWith e none pos.line X.env=pure false:=by rfl):PS X (.Expr e pos) (tDrop te):=by
 intro pins s σ H D I h
 exact wpAny_Expr_any (thn (he pins s σ H _ I h) fun v s1 ⟨x,H1,I1,r1,q1⟩=>⟨σ,H1,I1,q1⟩) I.quiet hs
def tRet (te:TE):TS:=fun D σ H=>te σ H D.rt
theorem qli (he:PE X e te):PS X (.Return (some e) pos) (tRet te):=by
 intro pins s σ H D I h
 exact wpAny_Return_some (thn (he pins s σ H _ I h) fun v s1 ⟨x,H1,I1,r1,q1⟩=>⟨x,σ,H1,I1,r1,q1⟩)
def tIfS (c:TT) (t u:TS):TS:=fun D σ H=>c σ H fun b H1=>if b=true then t D σ H1 else u D σ H1
theorem ps_if {c:Expr} {a b:List Stmt} {tc:TT} (hc:PT X c tc) (ha:PSs X a t) (hb:PSs X b u):PS X (.If c a b pos) (tIfS tc t u):=by
 intro pins s σ H D I h
 refine wpAny_If (thn (hc pins s σ H _ I h) fun d s1 ⟨H1,I1,q1⟩=>?_)
 cases d with
 | true=>exact ha pins s1 σ H1 D I1 q1
 | false=>exact hb pins s1 σ H1 D I1 q1
end
abbrev TG:=V->St->Hp->(St->Hp->Prop)->Prop
abbrev TGs:=List V->St->Hp->(St->Hp->Prop)->Prop
def PG (X:Cx) (target:Expr) (t:TG):Prop :=
 ∀ (pins:List (Addr×Obj)) (s:Shared) (σ:St) (H:Hp) (v:V) (u:Value) (Q:St->Hp->Prop),Inv X pins σ H s->RelV v u->t v σ H Q->
  wpAny (model X.prog X.w) X.A (assign target X.env u) (fun _ s'=>∃ σ' H',Inv X pins σ' H' s'/\Q σ' H') X.xe s
def PGs (X:Cx) (ts:List Expr) (t:TGs):Prop :=
 ∀ (pins:List (Addr×Obj)) (s:Shared) (σ:St) (H:Hp) (vs:List V) (us:List Value) (Q:St->Hp->Prop),Inv X pins σ H s->Vals vs us->t vs σ H Q->
  wpAny (model X.prog X.w) X.A (assignInOrder ((assignEach ts X.env).map (·.2)) us) (fun _ s'=>∃ σ' H',Inv X pins σ' H' s'/\Q σ' H') X.xe s
abbrev TSet:=V->V->V->Hp->(Hp->Prop)->Prop
def PSet (X:Cx) (t:TSet):Prop :=
 ∀ (pins:List (Addr×Obj)) (s:Shared) (σ:St) (H:Hp) (o i v:V) (ov iv u:Value) (Q:Hp->Prop),Inv X pins σ H s->RelV o ov->RelV i iv->RelV v u->t o i v H Q->
  wpAny (model X.prog X.w) X.A (setItem ov iv u) (fun _ s'=>∃ H',Inv X pins σ H' s'/\Q H') X.xe s
section
variable {X:Cx} {pos:Pos}
def qd6 (i:Nat):TG:=fun v σ H Q=>Q (σ.set i (some v)) H
theorem qez {i:Nat} {x:Str} (hN:X.N.Nodup) (hi:X.N[i]?=some x) (hx:Loc X.env.scope x) (hf:X.fn x=true\/X.env.scope.names.lookup x=some .local:=by first | exact .inl rfl | exact .inr rfl | assumption):PG X (.Name x pos) (qd6 i):=by
 intro pins s σ H v u Q I r h
 exact wpAny_assign_Name (qaj I hN hi hx r (fun s' I'=>⟨_,H,I',h⟩) hf)
def gNil:TGs:=fun vs σ H Q=>vs=[]/\Q σ H
def gCons (t:TG) (u:TGs):TGs:=fun vs σ H Q=>∃ v r,vs=v :: r/\t v σ H fun σ' H'=>u r σ' H' Q
theorem qjc:PGs X [] gNil:=by
 intro pins s σ H vs us Q I r h
 obtain ⟨e,h⟩:=h
 subst e
 cases r
 exact assignInOrder_nil ⟨σ,H,I,h⟩
theorem qhi {e:Expr} {es:List Expr} {t:TG} {u:TGs} (h1:PG X e t) (h2:PGs X es u)
  (hs:(assignEach (e :: es) X.env).map (·.2)=assign e X.env :: (assignEach es X.env).map (·.2):=by rfl):PGs X (e :: es) (gCons t u):=by
 intro pins s σ H vs us Q I r h
 obtain ⟨v,vr,e1,h⟩:=h
 subst e1
 cases r with
 | cons r rr =>
  rw [hs]
  refine assignInOrder_cons (thn (h1 pins s σ H _ _ _ I r h) fun _ s1 ⟨σ1,H1,I1,q1⟩=>?_)
  exact h2 pins s1 σ1 H1 _ _ Q I1 rr q1
def gTup (K:PySem.W.Frag) (n:Nat) (t:TGs):TG:=fun v σ H Q=>∃ a xs,v=.ref a/\SqT K H a xs/\xs.length=n/\t xs σ H Q
theorem qld {es:List Expr} {k:Nat} {t:TGs} {n:Nat} (hc:X.calm=true) (h:PGs X es t)
  (hn:(assignEach es X.env).length=n:=by rfl) (hst:(assignEach es X.env).findIdx? (·.1)=none:=by rfl):PG X (.Tuple es k pos) (gTup X.K n t):=by
 intro pins s σ H v u Q I r hw
 obtain ⟨a,xs,e1,hq,hl,hw⟩:=hw
 subst e1
 cases r
 obtain ⟨its,rv,ht,hz⟩:=I.tuple hq
 refine assign_Tuple_tuple (I.ok.hd hc) ht (by simp [hn,← hl,rv.length]) hst fun h' hx=>?_
 have I1:Inv X pins σ H { s with heap:=h' }:=I.kept (t':=s.toks) fun b o e=>hx b o (Nat.ne_of_lt (Heap.lt_size e)) e
 exact h pins _ σ H xs _ Q I1 (by simpa using rv) hw
def gSub (to ti:TE) (t:TSet):TG:=fun v σ H Q=>to σ H fun o H1=>ti σ H1 fun i H2=>t o i v H2 fun H3=>Q σ H3
theorem qhh {o i:Expr} {to ti:TE} {t:TSet} (ho:PE X o to) (hi:PE X i ti) (hs:PSet X t)
  (ha:∀ v,assign (.Subscript o i pos) X.env v=(do
   let ov ← holding [v] (eval o X.env)
   let iv ← holding [v,ov] (eval i X.env)
   standAt pos
   holding [v,ov,iv] (setItem ov iv v)
   release [v,ov,iv] []):=by intro _;rfl):PG X (.Subscript o i pos) (gSub to ti t):=by
 intro pins s σ H v u Q I r h
 rw [ha]
 refine wpAny_bind (wpAny_holding (thn (ho pins s σ H _ I h) fun ov s1 ⟨x,H1,I1,r1,q1⟩=>?_))
 refine wpAny_bind (wpAny_holding (thn (hi pins s1 σ H1 _ I1 q1) fun iv s2 ⟨y,H2,I2,r2,q2⟩=>?_))
 refine wpAny_bind (wpAny_standAt (wpAny_bind (wpAny_holding (thn (hs pins s2 σ H2 x y v ov iv u _ I2 r1 r2 r q2) fun _ s3 ⟨H3,I3,q3⟩=>?_))))
 exact wpAny_release ⟨σ,H3,I3,q3⟩
def tAsg (te:TE) (g:TG):TS:=fun D σ H=>te σ H fun x H1=>g x σ H1 D.nx
theorem qhm {tg e:Expr} {te:TE} {g:TG} (he:PE X e te) (hg:PG X tg g) (hs:swapsWithSole [tg] e pos.line X.env=pure false:=by rfl) (hw:swappedStores [tg] e X.env=pure none:=by rfl)
  (h1:(assignEach [tg] X.env).map (·.2)=[assign tg X.env]:=by rfl):PS X (.Assign [tg] e pos) (tAsg te g):=by
 intro pins s σ H D I h
 refine wpAny_Assign_stores (thn (he pins s σ H _ I h) fun v s1 ⟨x,H1,I1,r1,q1⟩=>?_) hs hw
 rw [h1]
 exact thn (hg pins s1 σ H1 x v _ I1 r1 q1) fun _ s2 q=>q
theorem qdx {i:Nat} {x:Str} {e:Expr} {te:TE} {pos':Pos} (hN:X.N.Nodup) (hi:X.N[i]?=some x) (hx:Loc X.env.scope x) (he:PE X e te) (hs:swapsWith e (some (.Name x pos')) pos.line X.env=pure false:=by rfl) (hf:X.fn x=true\/X.env.scope.names.lookup x=some .local:=by first | exact .inl rfl | exact .inr rfl | assumption) :
  PS X (.Assign [.Name x pos'] e pos) (tAsg te (qd6 i)):=by
 intro pins s σ H D I h
 refine wpAny_Assign_Name (thn (he pins s σ H _ I h) fun v s1 ⟨y,H1,I1,r1,q1⟩=>?_) hs
 exact qaj I1 hN hi hx r1 (fun s2 I2=>⟨_,H1,I2,q1⟩) hf
end
section
variable {X:Cx} {pos:Pos}
end
structure It where
 go:Nat->Hp->Prop
 yld:Nat->Hp->V->Hp->Prop
 stop:Nat->Hp->Prop
def FpOk (X:Cx) (pins:List (Addr×Obj)) (H:Hp) (b:Addr):Prop :=
 H b=none/\b≠X.env.locals/\b∉X.fs/\(b∈X.ex\/X.s₀.heap.objs.size <= b)/\(∀ x c,X.env.cells.lookup x=some c->c≠b)/\∀ p∈X.pn ++ pins,p.1≠b
theorem Inv.fpOk {X:Cx} {pins:List (Addr×Obj)} {σ:St} {H H':Hp} {s:Shared} {b:Addr} (I:Inv X pins σ H s) (hb:s.heap.objs.size <= b) (hn:H' b=none):FpOk X pins H' b:=by
 refine ⟨hn,Nat.ne_of_gt (Nat.lt_of_lt_of_le I.lt hb),I.nofs hb,.inr (Nat.le_trans I.sz hb),fun x c e z=>?_,fun p hp z=>?_⟩
 ·obtain ⟨v,q⟩:=I.cell x c e
  exact absurd (Nat.lt_of_lt_of_le q.lt (by rw [z];exact hb)) (Nat.lt_irrefl _)
 ·exact absurd (Nat.lt_of_lt_of_le (Heap.lt_size (I.pin p hp).1) (by rw [z];exact hb)) (Nat.lt_irrefl _)
structure Turn (P:Program) (w:World) (K:PySem.W.Frag) (tg:Expr) (J:It) (fp:List Addr) (it:Addr) (tn:Nat->Heap->Prop):Prop where
 mem:it∈fp
 obj:∀ i h,tn i h->∀ b∈fp,∃ o,h.get? b=some o/\∀ v,o.data≠.cell v
 keep:∀ i h h',tn i h->(∀ b∈fp,∀ o,h.get? b=some o->h'.get? b=some o)->tn i h'
 item:∀ (X:Cx),X.prog=P->X.w=w->X.K=K->X.calm=true->∀ (i:Nat) (pins:List (Addr×Obj)) (s:Shared) (σ:St) (H:Hp) (E:Value->Shared->Prop),Inv X pins σ H s->(∀ b∈fp,FpOk X pins H b)->tn i s.heap->J.go i H->
  wpAny (model P w) X.A (pyNext (.ref it)) (fun r s1=>∃ u,r=some u/\
   wpAny (model P w) X.A (letOwnedTupleGo tg (.ref it) u) (fun _ s2=>∃ x H',Inv X pins σ H' s2/\RelV x u/\J.yld i H x H'/\tn (i + 1) s2.heap/\∀ b∈fp,H' b=none) E s1) E s
 done:∀ (X:Cx),X.prog=P->X.w=w->X.K=K->X.calm=true->∀ (i:Nat) (pins:List (Addr×Obj)) (s:Shared) (σ:St) (H:Hp) (E:Value->Shared->Prop),Inv X pins σ H s->(∀ b∈fp,FpOk X pins H b)->tn i s.heap->J.stop i H->
  wpAny (model P w) X.A (pyNext (.ref it)) (fun r s1=>r=none/\Inv X pins σ H s1) E s
 self:∀ (A:Around) (i:Nat) (s:Shared) (Q:Value->Shared->Prop) (E:Value->Shared->Prop),tn i s.heap->Q (.ref it) s->wpAny (model P w) A (pyIter (.ref it)) Q E s
abbrev TI:=St->Hp->(It->Hp->Prop)->Prop
def PIE (X:Cx) (pins:List (Addr×Obj)) (σ:St) (tg:Expr) (R:It->Hp->Prop) (itv:Value) (s2:Shared):Prop :=
 ∃ (it:Addr) (fp:List Addr) (tn:Nat->Heap->Prop) (J:It) (H':Hp),itv=.ref it/\Inv X pins σ H' s2/\Turn X.prog X.w X.K tg J fp it tn/\tn 0 s2.heap/\(∀ b∈fp,FpOk X pins H' b)/\R J H'
def PI (X:Cx) (tg iter:Expr) (wi:TI):Prop :=
 ∀ (pins:List (Addr×Obj)) (s:Shared) (σ:St) (H:Hp) (R:It->Hp->Prop),Inv X pins σ H s->wi σ H R->
  wpAny (model X.prog X.w) X.A (eval iter X.env) (fun v s1=>wpAny (model X.prog X.w) X.A (pyIter v) (PIE X pins σ tg R) X.xe s1) X.xe s
theorem qd7 {M:Model} {A:Around} {E:Value->Shared->Prop} {s:Shared} {tg:Expr} {it:Addr} {u:Value} {o:Obj} {n:String} {vs:Array Value} {Q:Unit->Shared->Prop} (ho:s.heap.get? it=some o) (hc:o.cls=.type n) (hd:o.data=.fields vs)
  (hn:["enumerate", "zip", "dict_itemiterator", "dict_reverseitemiterator", "odict_iterator", "itertools.zip_longest", "itertools.pairwise"].contains n=false) (hQ:Q () s):wpAny M A (letOwnedTupleGo tg (.ref it) u) Q E s:=by
 unfold letOwnedTupleGo
 cases tg<;>first
  | exact wpAny_pure hQ
  | (cases u<;>first
    | exact wpAny_pure hQ
    | (
      refine wpAny_bind (wpAny_load ho ?_)
      rw [hc,hd]
      show wpAny M A (if (["enumerate", "zip", "dict_itemiterator", "dict_reverseitemiterator", "odict_iterator", "itertools.zip_longest", "itertools.pairwise"].contains n && vs[0]? == some (rawInt _))=true then _ else _) Q E s
      rw [if_neg (by intro h;rw [hn,Bool.false_and] at h;cases h)]
      exact wpAny_pure hQ))
def Itl (K:PySem.W.Frag) (a:Addr):It :=
 ⟨fun i H=>∃ xs x,SqL K H a xs/\xs[i]?=some x,fun i H x H'=>H'=H/\∀ xs,SqL K H a xs->xs[i]?=some x,fun i H=>∃ xs,SqL K H a xs/\xs.length <= i⟩
def Itt (K:PySem.W.Frag) (a:Addr):It :=
 ⟨fun i H=>∃ xs x,SqT K H a xs/\xs[i]?=some x,fun i H x H'=>H'=H/\∀ xs,SqT K H a xs->xs[i]?=some x,fun i H=>∃ xs,SqT K H a xs/\xs.length <= i⟩
def Itr (lo:Int) (n:Nat):It:=⟨fun i _=>i < n,fun i H x H'=>H'=H/\x=.int (lo + i),fun i _=>n <= i⟩
theorem qft {P:Program} {w:World} {K:PySem.W.Frag} {tg:Expr} (a it:Addr):Turn P w K tg (Itl K a) [it] it (fun i h=>h.IsListIter it a i) where
 mem:=by simp
 obj:=fun i h st b hb=>by
  have e:b=it:=by simpa using hb
  subst e
  obtain ⟨o,e,c,d⟩:=st
  exact ⟨o,e,fun v z=>by rw [d] at z;cases z⟩
 keep:=fun i h h' st k=>st.at fun o e=>k it (by simp) o e
 item:=by
  intro X hP hw hK hc i pins s σ H E I hf st hg
  subst hP hw hK
  obtain ⟨xs,x,hq,hx⟩:=hg
  obtain ⟨its,rv,p,hz⟩:=I.list hq
  obtain ⟨u,hu,ru⟩:=rv.get hx
  obtain ⟨f0,f1,f2,f3,f4,f5⟩:=hf it (by simp)
  refine wpAny_pyNext_list_item st p.isList (x:=u) (by simpa using hu) fun h' st' sb=>?_
  have I1:Inv X pins σ H { s with heap:=h' }:=I.turned (t':=s.toks) (fun b o hb e=>(sb.2 b hb).trans e) f0 f1 f3 f4 f5
  obtain ⟨o,e,c,d⟩:=id st'
  exact ⟨u,rfl,qd7 (s:={ s with heap:=h' }) e c d (by decide) ⟨x,H,I1,ru,⟨rfl,fun ys hy=>by rw [I.list_inj hy hq];exact hx⟩,st',fun b hb=>(hf b hb).1⟩⟩
 done:=by
  intro X hP hw hK hc i pins s σ H E I hf st hg
  subst hP hw hK
  obtain ⟨xs,hq,hx⟩:=hg
  obtain ⟨its,rv,p,hz⟩:=I.list hq
  obtain ⟨f0,f1,f2,f3,f4,f5⟩:=hf it (by simp)
  have hl:=rv.length
  exact wpAny_pyNext_list_end (I.ok.hd hc) st p.isList (by simp;omega) fun h' eb=>⟨rfl,I.turned (t':=s.toks) (fun b o hb e=>eb b o hb e) f0 f1 f3 f4 f5⟩
 self:=fun _ _ _ _ _ st h=>wpAny_pyIter_listiter st h
theorem qdG {P:Program} {w:World} {K:PySem.W.Frag} {tg:Expr} (a it:Addr):Turn P w K tg (Itt K a) [it] it (fun i h=>h.IsTupleIter it a i) where
 mem:=by simp
 obj:=fun i h st b hb=>by
  have e:b=it:=by simpa using hb
  subst e
  obtain ⟨o,e,c,d⟩:=st
  exact ⟨o,e,fun v z=>by rw [d] at z;cases z⟩
 keep:=fun i h h' st k=>st.at fun o e=>k it (by simp) o e
 item:=by
  intro X hP hw hK hc i pins s σ H E I hf st hg
  subst hP hw hK
  obtain ⟨xs,x,hq,hx⟩:=hg
  obtain ⟨its,rv,p,hz⟩:=I.tuple hq
  obtain ⟨u,hu,ru⟩:=rv.get hx
  obtain ⟨f0,f1,f2,f3,f4,f5⟩:=hf it (by simp)
  refine wpAny_pyNext_tuple_item st (show s.heap.IsTuple a its.toArray from p) (x:=u) (by simpa using hu) fun h' st' sb=>?_
  have I1:Inv X pins σ H { s with heap:=h' }:=I.turned (t':=s.toks) (fun b o hb e=>(sb.2 b hb).trans e) f0 f1 f3 f4 f5
  obtain ⟨o,e,c,d⟩:=id st'
  exact ⟨u,rfl,qd7 (s:={ s with heap:=h' }) e c d (by decide) ⟨x,H,I1,ru,⟨rfl,fun ys hy=>by rw [I.tuple_inj hy hq];exact hx⟩,st',fun b hb=>(hf b hb).1⟩⟩
 done:=by
  intro X hP hw hK hc i pins s σ H E I hf st hg
  subst hP hw hK
  obtain ⟨xs,hq,hx⟩:=hg
  obtain ⟨its,rv,p,hz⟩:=I.tuple hq
  obtain ⟨f0,f1,f2,f3,f4,f5⟩:=hf it (by simp)
  have hl:=rv.length
  exact wpAny_pyNext_tuple_end (I.ok.hd hc) st (show s.heap.IsTuple a its.toArray from p) (by simp;omega) fun h' eb=>⟨rfl,I.turned (t':=s.toks) (fun b o hb e=>eb b o hb e) f0 f1 f3 f4 f5⟩
 self:=fun _ _ _ _ _ st h=>wpAny_pyIter_tupleiter st h
theorem qdF {P:Program} {w:World} {K:PySem.W.Frag} {tg:Expr} (it:Addr) (lo:Int) (n:Nat):Turn P w K tg (Itr lo n) [it] it (fun i h=>IsRangeIter h it (lo + (i:Nat) * 1) ((n:Int) - (i:Nat)) 1) where
 mem:=by simp
 obj:=fun i h st b hb=>by
  have e:b=it:=by simpa using hb
  subst e
  exact ⟨_,st,fun v z=>by
   have z':Data.fields _=Data.cell v:=z
   cases z'⟩
 keep:=fun i h h' st k=>k it (by simp) _ st
 item:=by
  intro X hP hw hK hc i pins s σ H E I hf st hg
  subst hP hw hK
  obtain ⟨f0,f1,f2,f3,f4,f5⟩:=hf it (by simp)
  have W:=Walks.range (prog:=X.prog) (w:=X.w) (I.ok.hd hc) it lo 1 n
  refine W.item i s _ _ hg st fun v h' tk hv st' kk=>?_
  obtain ⟨t,rfl⟩:=hv
  have I1:Inv X pins σ H { s with heap:=h',toks:=tk }:=I.turned (fun b o hb e=>kk b o (by simpa using hb) e) f0 f1 f3 f4 f5
  refine ⟨_,rfl,qd7 (s:={ s with heap:=h',toks:=tk }) (n := "range_iterator") st' rfl rfl (by decide) ⟨.int (lo + i),H,I1,⟨t,?_⟩,⟨rfl,rfl⟩,st',fun b hb=>(hf b hb).1⟩⟩
  rw [Int.mul_one]
 done:=by
  intro X hP hw hK hc i pins s σ H E I hf st hg
  subst hP hw hK
  obtain ⟨f0,f1,f2,f3,f4,f5⟩:=hf it (by simp)
  exact wpAny_pyNext_range_end (I.ok.hd hc) st (by have:n <= i:=hg;omega) fun h' eb=>⟨rfl,I.turned (t':=s.toks) (fun b o hb e=>eb b o hb e) f0 f1 f3 f4 f5⟩
 self:=fun _ _ _ _ _ st h=>wpAny_pyIter_rangeiter st h
end L2
namespace L2
open PySem PySem.Spec PyProof.Rows
section
variable {X:Cx} {tg:Expr}
theorem qht {pins:List (Addr×Obj)} {σ:St} {H:Hp} {s:Shared} {R:It->Hp->Prop} {E:Value->Shared->Prop} {lo hi:Int} {t u v:Tok} {tk:Nat} (I:Inv X pins σ H s) (h1:-(2 ^ 62) <= lo) (h2:lo < 2 ^ 62) (h3:-(2 ^ 62) <= hi) (h4:hi < 2 ^ 62)
  (q:R (Itr lo (hi - lo).toNat) H):wpAny (model X.prog X.w) X.A (pyIter (.ref s.heap.objs.size)) (PIE X pins σ tg R) E { s with heap:=s.heap.push { cls:=.type "range", data:=.fields #[.int lo t,.int hi u,.int 1 v] },toks:=tk }:=by
 refine wpAny_pyIter_range (IsRange.new ..) (small_one h1 h2 h3 h4) ?_
 have I1:Inv X pins σ H { s with heap:=s.heap.push { cls:=.type "range", data:=.fields #[.int lo t,.int hi u,.int 1 v] },toks:=tk }:=I.kept fun b o e=>Heap.get?_push_of_some _ e
 refine ⟨(s.heap.push { cls:=.type "range", data:=.fields #[.int lo t,.int hi u,.int 1 v] }).objs.size,[(s.heap.push { cls:=.type "range", data:=.fields #[.int lo t,.int hi u,.int 1 v] }).objs.size],_,_,H,rfl,
  I1.kept (t':=tk) fun b o e=>Heap.get?_push_of_some _ e,qdF _ lo (hi - lo).toNat,?_,fun b hb=>?_,q⟩
 ·have e1:lo + ((0:Nat):Int) * 1=lo:=by simp
  have e2:(((hi - lo).toNat:Nat):Int) - ((0:Nat):Int)=Builtin.Range.rangeSize lo hi 1:=by rw [rangeSize_one];split<;>omega
  show IsRangeIter _ _ (lo + ((0:Nat):Int) * 1) ((((hi - lo).toNat:Nat):Int) - ((0:Nat):Int)) 1
  rw [e1,e2]
  exact Heap.get?_push_size _ rfl
 ·have e:b=(s.heap.push { cls:=.type "range", data:=.fields #[.int lo t,.int hi u,.int 1 v] }).objs.size:=by simpa using hb
  subst e
  exact I1.fpOk (Nat.le_refl _) (I1.hok.fresh (Nat.le_refl _))
def iRng1 (ta:TA):TI:=fun σ H R=>ta σ H fun vs H1=>∃ j:Int,vs=[.int j]/\-(2 ^ 62) <= j/\j < 2 ^ 62/\R (Itr 0 j.toNat) H1
theorem qa9 {a:Expr} {ta:TA} {p pos:Pos} (hg:Gl X "range") (hm:X.mg "range" = none) (ha:PA X [a] ta) (hs:starEach [a] X.env=[(false,eval a X.env)]:=by rfl):PI X tg (.Call (.Name "range" p) [a] [] pos) (iRng1 ta):=by
 intro pins s σ H R I h
 refine Call_ (WP I hg hm boot_range (PyProof.Rows.callWith_type1 (thn (ha pos pins s σ H _ I h) fun us s1 ⟨vs,H1,I1,r1,q1⟩=>?_) hs rfl))
 obtain ⟨j,e,q1,q2,q⟩:=q1
 subst e
 cases r1 with
 | cons r rr =>
  cases rr
  obtain ⟨t,rfl⟩:=r
  exact call_range_1 (qht I1 (by omega) (by omega) q1 q2 (by simpa using q))
def tFor (wi:TI) (g:TG) (tb:TS):TS:=fun D σ H=>wi σ H fun J H1=>∃ W:Nat->Nat->St->Hp->Prop,(∃ m,W 0 m σ H1)/\∀ i m σ H,W i m σ H->
 (J.stop i H/\D.nx σ H)\/(J.go i H/\∃ N:St->Hp->Prop,(∀ σ' H',N σ' H'->∃ m',m' < m/\W (i + 1) m' σ' H')/\∀ x H',J.yld i H x H'->g x σ H' fun σ2 H2=>tb { D with nx:=N,ct:=N,bk:=D.nx } σ2 H2)
def Zk (fp:List Addr) (h:Heap):List (Addr×Obj):=fp.filterMap fun b=>(h.get? b).map fun o=>(b,o)
theorem Q9 {fp:List Addr} {h:Heap} {b:Addr} {o:Obj} (hb:b∈fp) (e:h.get? b=some o):(b,o)∈Zk fp h:=List.mem_filterMap.mpr ⟨b,hb,by rw [e];rfl⟩
theorem YK {fp:List Addr} {h:Heap} {p:Addr×Obj} (hp:p∈Zk fp h):p.1∈fp/\h.get? p.1=some p.2:=by
 obtain ⟨b,hb,e⟩:=List.mem_filterMap.mp hp
 cases q:h.get? b with
 | none=>rw [q] at e;cases e
 | some o =>
  rw [q] at e
  have e':(b,o)=p:=Option.some.inj e
  subst e'
  exact ⟨hb,q⟩
theorem Inv.pinned {pins:List (Addr×Obj)} {σ:St} {H:Hp} {s:Shared} {fp:List Addr} (I:Inv X pins σ H s) (hf:∀ b∈fp,FpOk X pins H b) (ho:∀ b∈fp,∃ o,s.heap.get? b=some o/\∀ v,o.data≠.cell v):Inv X (pins ++ Zk fp s.heap) σ H s :=
 I.pins_of fun p hp=>(List.mem_append.mp hp).elim (fun z=>I.pin p (List.mem_append_right _ z)) fun z=>by
  obtain ⟨hb,e⟩:=YK z
  obtain ⟨f0,f1,f2,_⟩:=hf p.1 hb
  obtain ⟨o,e',d⟩:=ho p.1 hb
  rw [e] at e';cases e'
  exact ⟨e,f0,f1,f2,d⟩
theorem Inv.unpinned {pins pl:List (Addr×Obj)} {σ:St} {H:Hp} {s:Shared} (I:Inv X (pins ++ pl) σ H s):Inv X pins σ H s:=I.pins_of fun p hp=>I.pin p (List.mem_append_right _ (List.mem_append_left _ hp))
theorem qdw {iter:Expr} {body:List Stmt} {wi:TI} {g:TG} {tb:TS} {pos:Pos} (hp:PassesOwn (model X.prog X.w) X.A X.env X.xe) (hc:X.calm=true) (hi:PI X tg iter wi) (hg:PG X tg g) (hb:PSs X body tb)
  (hs:∀ x,foldedSetIterable iter X.env x=pure x:=by intro _;rfl):PS X (.For tg iter body [] pos) (tFor wi g tb):=by
 intro pins s σ H D I h
 refine wpAny_For (thn (hi pins s σ H _ I h) fun v s1 h1=>thn h1 fun itv s2 h2=>?_) hs
 obtain ⟨it,fp,tn,J,H2,e,I2,T,st2,f2,W,⟨m0,w0⟩,turn⟩:=h2
 subst e
 have stat:∀ {H':Hp},(∀ b∈fp,H' b=none)->∀ b∈fp,FpOk X pins H' b:=fun hn b hb=>⟨hn b hb,(f2 b hb).2⟩
 refine codeAny_forLoop_any (fun n s'=>∃ i σ' H',Inv X pins σ' H' s'/\tn i s'.heap/\(∀ b∈fp,H' b=none)/\W i n σ' H') ?_ m0 ⟨0,σ,H2,I2,st2,fun b hb=>(f2 b hb).1,w0⟩
 rintro n s3 ⟨i,σ3,H3,I3,st3,fr3,w3⟩
 rcases turn i n σ3 H3 w3 with ⟨stop,qn⟩ | ⟨go,N,hN,step⟩
 ·refine wpAny_passesOwn hp (thn (T.done X rfl rfl rfl hc i pins s3 σ3 H3 X.xe I3 (stat fr3) st3 stop) fun r s4 ⟨hr,I4⟩=>?_)
  subst hr
  exact wpAny_execs_nil ⟨σ3,H3,I4,qn⟩
 ·refine wpAny_passesOwn hp (thn (T.item X rfl rfl rfl hc i pins s3 σ3 H3 X.xe I3 (stat fr3) st3 go) fun r s4 ⟨u,hr,h4⟩=>?_)
  subst hr
  refine wpAny_passesOwn hp (thn h4 fun _ s5 ⟨x,H5,I5,r5,y5,st5,fr5⟩=>?_)
  have I5':=I5.pinned (stat fr5) (T.obj _ _ st5)
  refine wpAny_passesOwn hp (thn (hg _ s5 σ3 H5 x u _ I5' r5 (step x H5 y5)) fun _ s6 ⟨σ6,H6,I6,q6⟩=>?_)
  refine wpAny_passesOwn hp (thn (hb _ s6 σ6 H6 _ I6 q6) fun f s7 q7=>?_)
  have again:∀ {σ7:St} {H7:Hp},Inv X (pins ++ Zk fp s5.heap) σ7 H7 s7->N σ7 H7->∃ m,m < n/\∃ i σ' H',Inv X pins σ' H' s7/\tn i s7.heap/\(∀ b∈fp,H' b=none)/\W i m σ' H':=fun {σ7 H7} I7 n7=>by
   obtain ⟨m',hm,w7⟩:=hN σ7 H7 n7
   refine ⟨m',hm,i + 1,σ7,H7,I7.unpinned,T.keep _ _ _ st5 fun b hb o e=>(I7.pin (b,o) (List.mem_append_right _ (List.mem_append_right _ (Q9 hb e)))).1,fun b hb=>?_,w7⟩
   obtain ⟨o,e,d⟩:=T.obj _ _ st5 b hb
   exact (I7.pin (b,o) (List.mem_append_right _ (List.mem_append_right _ (Q9 hb e)))).2.1
  cases f with
  | next=>obtain ⟨σ7,H7,I7,n7⟩:=q7;exact again I7 n7
  | cont=>obtain ⟨σ7,H7,I7,n7⟩:=q7;exact again I7 n7
  | brk=>obtain ⟨σ7,H7,I7,q7⟩:=q7;exact ⟨σ7,H7,I7.unpinned,q7⟩
  | ret v=>obtain ⟨x7,σ7,H7,I7,r7,q7⟩:=q7;exact ⟨x7,σ7,H7,I7.unpinned,r7,q7⟩
end
end L2
namespace L2
open PySem PySem.Spec PyProof.Rows
abbrev R2:=V->V->Hp->VK->Prop
def OpR (X:Cx) (f:Value->Value->Sem Value) (r:R2):Prop :=
 ∀ (pins:List (Addr×Obj)) (s:Shared) (σ:St) (H:Hp) (x y:V) (v u:Value) (Q:VK),Inv X pins σ H s->RelV x v->RelV y u->r x y H Q->
  wpAny (model X.prog X.w) X.A (f v u) (EP X pins σ Q) X.xe s
def UnR (X:Cx) (f:Value->Sem Value) (r:V->Hp->VK->Prop):Prop :=
 ∀ (pins:List (Addr×Obj)) (s:Shared) (σ:St) (H:Hp) (x:V) (v:Value) (Q:VK),Inv X pins σ H s->RelV x v->r x H Q->
  wpAny (model X.prog X.w) X.A (f v) (EP X pins σ Q) X.xe s
def Zx (X:Cx) (f:Value) (r:List V->Hp->VK->Prop):Prop :=
 ∀ (pins:List (Addr×Obj)) (s:Shared) (σ:St) (H:Hp) (xs:List V) (us:List Value) (Q:VK),Inv X pins σ H s->Vals xs us->r xs H Q->
  wpAny (model X.prog X.w) X.A (call f us) (EP X pins σ Q) X.xe s
def tOp (r:R2) (ta tb:TE):TE:=fun σ H Q=>ta σ H fun x H1=>tb σ H1 fun y H2=>r x y H2 Q
def tUn (r:V->Hp->VK->Prop) (ta:TE):TE:=fun σ H Q=>ta σ H fun x H1=>r x H1 Q
def rI (C:Int->Int->Prop) (g:Int->Int->V):R2:=fun x y H Q=>∃ i j,x=.int i/\y=.int j/\C i j/\Q (g i j) H
def rI0 (g:Int->Int->V):R2:=fun x y H Q=>∃ i j,x=.int i/\y=.int j/\Q (g i j) H
def rU (g:Int->V):V->Hp->VK->Prop:=fun x H Q=>∃ i,x=.int i/\Q (g i) H
section
variable {X:Cx} {a b c:Expr} {ta tb tc:TE} {pos:Pos}
theorem binT (ha:PE X a ta) (hb:PE X b tb) {pins:List (Addr×Obj)} {s:Shared} {σ:St} {H:Hp} {R:V->V->Hp->Prop} (I:Inv X pins σ H s)
  (h:ta σ H fun x H1=>tb σ H1 fun y H2=>R x y H2) {Q:Value->Shared->Prop} {f:Value->Value->Sem Value}
  (hf:∀ v u s2 x y H2,Inv X pins σ H2 s2->RelV x v->RelV y u->R x y H2->wpAny (model X.prog X.w) X.A (f v u) Q X.xe s2) :
  wpAny (model X.prog X.w) X.A (eval a X.env) (fun v s₁=>wpAny (model X.prog X.w) X.A (eval b X.env) (fun u s₂=>wpAny (model X.prog X.w) X.A (f v u) Q X.xe s₂) X.xe s₁) X.xe s:=by
 refine thn (ha pins s σ H _ I h) fun v s1 ⟨x,H1,I1,r1,q1⟩=>?_
 refine thn (hb pins s1 σ H1 _ I1 q1) fun u s2 ⟨y,H2,I2,r2,q2⟩=>?_
 exact hf v u s2 x y H2 I2 r1 r2 q2
theorem qjV {op:Operator} {r:R2} (ho:OpR X (binaryOp op) r) (ha:PE X a ta) (hb:PE X b tb):PE X (.BinOp a op b pos) (tOp r ta tb):=by
 intro pins s σ H Q I h
 exact wpAny_BinOp (binT ha hb I h fun v u s2 x y H2 I2 rx ry q=>ho pins s2 σ H2 x y v u Q I2 rx ry q)
theorem pe_un {op:UnaryOp} {r:V->Hp->VK->Prop} (ho:UnR X (unaryOp op) r) (ha:PE X a ta):PE X (.UnaryOp op a pos) (tUn r ta):=by
 intro pins s σ H Q I h
 exact UnaryOp_ (thn (ha pins s σ H _ I h) fun v s1 ⟨x,H1,I1,r1,q1⟩=>ho pins s1 σ H1 x v Q I1 r1 q1)
theorem opI {f:Value->Value->Sem Value} {C:Int->Int->Prop} {g:Int->Int->Int}
  (rule:∀ (i j:Int) (t u:Tok) (s:Shared) (Q:Value->Shared->Prop) (E:Value->Shared->Prop),C i j->Q (.int (g i j) s.toks) { s with toks:=s.toks + 1 }->wpAny (model X.prog X.w) X.A (f (.int i t) (.int j u)) Q E s) :
  OpR X f (rI C fun i j=>.int (g i j)):=by
 intro pins s σ H x y v u Q I rx ry h
 obtain ⟨i,j,rfl,rfl,hc,q⟩:=h
 obtain ⟨t,rfl⟩:=rx
 obtain ⟨t',rfl⟩:=ry
 exact rule i j t t' s _ _ hc ⟨.int (g i j),H,I.tok _,⟨_,rfl⟩,q⟩
theorem opI0 {f:Value->Value->Sem Value} {g:Int->Int->Int}
  (rule:∀ (i j:Int) (t u:Tok) (s:Shared) (Q:Value->Shared->Prop) (E:Value->Shared->Prop),Q (.int (g i j) s.toks) { s with toks:=s.toks + 1 }->wpAny (model X.prog X.w) X.A (f (.int i t) (.int j u)) Q E s) :
  OpR X f (rI0 fun i j=>.int (g i j)):=by
 intro pins s σ H x y v u Q I rx ry h
 obtain ⟨i,j,rfl,rfl,q⟩:=h
 obtain ⟨t,rfl⟩:=rx
 obtain ⟨t',rfl⟩:=ry
 exact rule i j t t' s _ _ ⟨.int (g i j),H,I.tok _,⟨_,rfl⟩,q⟩
theorem opB0 {f:Value->Value->Sem Value} {g:Int->Int->Bool}
  (rule:∀ (i j:Int) (t u:Tok) (s:Shared) (Q:Value->Shared->Prop) (E:Value->Shared->Prop),Q (.bool (g i j)) s->wpAny (model X.prog X.w) X.A (f (.int i t) (.int j u)) Q E s) :
  OpR X f (rI0 fun i j=>.bl (g i j)):=by
 intro pins s σ H x y v u Q I rx ry h
 obtain ⟨i,j,rfl,rfl,q⟩:=h
 obtain ⟨t,rfl⟩:=rx
 obtain ⟨t',rfl⟩:=ry
 exact rule i j t t' s _ _ ⟨.bl (g i j),H,I,rfl,q⟩
def CDiv (i j:Int):Prop:=0 < j/\j < 1073741824
def CPow (i j:Int):Prop:=0 <= j/\j <= 1000000/\i.natAbs < 2 ^ 64
def CMul (i j:Int):Prop:=(-(2 ^ 64) < i/\i < 2 ^ 64)\/(-(2 ^ 64) < j/\j < 2 ^ 64)
theorem CMul.ok {i j:Int} (h:CMul i j):IntMulOk i j:=by
 rcases h with ⟨h1,h2⟩ | ⟨h1,h2⟩
 ·exact .of_left (intBits_le_64 h1 h2)
 ·exact .of_right (intBits_le_64 h1 h2)
theorem qkR:OpR X (binaryOp .Add) (rI0 fun i j=>.int (i + j)):=opI0 fun _ _ _ _ _ _ _ q=>add_int q
theorem qkX:OpR X (binaryOp .Sub) (rI0 fun i j=>.int (i - j)):=opI0 fun _ _ _ _ _ _ _ q=>sub_int q
theorem qiY:OpR X (binaryOp .FloorDiv) (rI CDiv fun i j=>.int (i / j)):=opI fun i j _ _ _ _ _ hc q=>by
 have h1:(0:Int) < j:=hc.1
 have h2:j < 1073741824:=hc.2
 exact floordiv_int (by omega) (by rw [Int.fdiv_eq_ediv_of_nonneg i (by omega)];exact q) (.inl (PyProof.noPylong_small (by omega)))
theorem qkU:OpR X (binaryOp .Mod) (rI (fun _ j=>0 < j) fun i j=>.int (i % j)):=opI fun i j _ _ _ _ _ hc q=>by
 have h1:(0:Int) < j:=hc
 exact mod_int' (by omega) (by rw [Int.fmod_eq_emod_of_nonneg i (by omega)];exact q)
theorem qkW:OpR X (binaryOp .Pow) (rI CPow fun i j=>.int (i ^ j.toNat)):=opI fun _ _ _ _ _ _ _ hc q=>pow_int_small hc.1 hc.2.1 hc.2.2 q
theorem unI {f:Value->Sem Value} {g:Int->Int}
  (rule:∀ (i:Int) (t:Tok) (s:Shared) (Q:Value->Shared->Prop) (E:Value->Shared->Prop),Q (.int (g i) s.toks) { s with toks:=s.toks + 1 }->wpAny (model X.prog X.w) X.A (f (.int i t)) Q E s) :
  UnR X f (rU fun i=>.int (g i)):=by
 intro pins s σ H x v Q I rx h
 obtain ⟨i,rfl,q⟩:=h
 obtain ⟨t,rfl⟩:=rx
 exact rule i t s _ _ ⟨.int (g i),H,I.tok _,⟨_,rfl⟩,q⟩
theorem qlT:UnR X (unaryOp .USub) (rU fun i=>.int (-i)):=unI fun _ _ _ _ _ q=>neg_int q
end
section
variable {X:Cx} {a b c:Expr} {ta tb tc:TE} {pos:Pos}
theorem jH {pins:List (Addr×Obj)} {σ:St} {H:Hp} {s:Shared} {Q:VK} {k k':Bool} (I:Inv X pins σ H s) (q:Q (.bl k) H) (e:k=k'):EP X pins σ Q (.bool k') s:=by
 subst e
 exact ⟨.bl k,H,I,rfl,q⟩
theorem op_gt:OpR X (compareOp .Gt) (rI0 fun i j=>.bl (decide (j < i))):=opB0 fun _ _ _ _ _ _ _ q=>gt_int q
theorem qkT:OpR X (compareOp .Is) (fun x y H Q=>y=.non/\Q (.bl (decide (x=.non))) H):=by
 intro pins s σ H x y v u Q I rx ry h
 obtain ⟨rfl,q⟩:=h
 cases ry
 refine is_none_gen (jH I q ?_)
 cases x<;>first
  | (cases rx;rfl)
  | (obtain ⟨t,rfl⟩:=rx;rfl)
theorem OpR.or {f:Value->Value->Sem Value} {r r':R2} (h:OpR X f r) (h':OpR X f r'):OpR X f (fun x y H Q=>r x y H Q\/r' x y H Q):=by
 intro pins s σ H x y v u Q I rx ry q
 rcases q with q | q
 ·exact h pins s σ H x y v u Q I rx ry q
 ·exact h' pins s σ H x y v u Q I rx ry q
theorem QR (b:Expr) {op:CmpOp} (h:op≠.In:=by decide) (h2:op≠.NotIn:=by decide):behindInMarks op b=false:=by
 have e1:(op == CmpOp.In)=false:=by cases op<;>first | rfl | exact absurd rfl h
 have e2:(op == CmpOp.NotIn)=false:=by cases op<;>first | rfl | exact absurd rfl h2
 cases b<;>simp [behindInMarks,e1,e2]
theorem qi9 {op:CmpOp} {r:R2} (ho:OpR X (compareOp op) r) (ha:PE X a ta) (hb:PE X b tb) (hm:behindInMarks op b=false):PE X (.Compare a [op] [b] pos) (tOp r ta tb):=by
 intro pins s σ H Q I h
 exact wpAny_Compare1 (binT ha hb I h fun v u s2 x y H2 I2 rx ry q=>ho pins s2 σ H2 x y v u Q I2 rx ry q) hm
def tTest (t:TE):TT:=fun σ H Q=>t σ H fun x H'=>∃ k,x=.bl k/\Q k H'
theorem qjk {op:CmpOp} {r:R2} (ho:OpR X (compareOp op) r) (ha:PE X a ta) (hb:PE X b tb) (hm:behindInMarks op b=false):PT X (.Compare a [op] [b] pos) (tTest (tOp r ta tb)):=by
 intro pins s σ H Q I h
 refine wpAny_isTrue_Compare1 (thn (ha pins s σ H _ I h) fun v s1 ⟨x,H1,I1,r1,q1⟩=>thn (hb pins s1 σ H1 _ I1 q1) fun u s2 ⟨y,H2,I2,r2,q2⟩ =>
  thn (ho pins s2 σ H2 x y v u _ I2 r1 r2 q2) fun c s3 ⟨z,H3,I3,r3,k,e,q3⟩=>?_) hm
 subst e
 cases r3
 exact wpAny_truthy_bool ⟨H3,I3,q3⟩
theorem qbI:(sizeLine:Nat) < 2 ^ 63:=by rw [sizeLine_eq];decide
theorem vals1 {x:V} {us:List Value} (r:Vals [x] us):∃ u,us=[u]/\RelV x u:=by
 cases r with
 | cons r1 r2=>cases r2;exact ⟨_,rfl,r1⟩
theorem qfW:Zx X (.builtin "abs") (fun xs H Q=>∃ i,xs=[.int i]/\Q (.int (if i < 0 then -i else i)) H):=by
 intro pins s σ H xs us Q I r h
 obtain ⟨i,rfl,q⟩:=h
 obtain ⟨u,rfl,t,rfl⟩:=vals1 r
 exact call_abs_int fun u tk=>⟨.int (if i < 0 then -i else i),H,I.tok _,⟨_,rfl⟩,q⟩
end
end L2
namespace L2
open PySem PySem.Spec PyProof.Rows
section
variable {prog:Program} {w:World} {A:Around} {E:Value->Shared->Prop} {s:Shared} {K:PySem.W.Frag} {x dx C f:Addr} {mA:Str->Option Value} {name:Str} {v:Value}
end
section
variable {P:Program} {w:World} {H H':Hp} {h h':Heap} {a C dx:Addr} {fs fs':List (Str×V)}
end
structure Cls (K:PySem.W.Frag) (C:Addr):Prop where
 pg:PySem.W.plainGet K C Str.empty=true
 hd:PySem.W.hasDictIn K C=true
 po:PySem.W.plainOver K C=true
 sa:PySem.W.findIn K (.ref C) "__setattr__" = some (some (.builtin "object.__setattr__"))
theorem Cls.get {K:PySem.W.Frag} {C:Addr} (c:Cls K C) (f:Str):PySem.W.plainGet K C f=true:=c.pg
section
variable {X:Cx} {pins:List (Addr×Obj)} {σ:St} {H:Hp} {s:Shared} {a C dx:Addr} {fs:List (Str×V)} {f:Str} {v:V} {A:Around} {E:Value->Shared->Prop}
theorem Inv.made (I:Inv X pins σ H s):Inv X pins σ (upd (upd H s.heap.objs.size (.own (s.heap.objs.size + 1))) (s.heap.objs.size + 1) (.ins C s.heap.objs.size []))
  { s with heap:=(s.heap.push PySem.W.emptyDict).push (PySem.W.instObj C s.heap.objs.size) }:=by
 have e1:(s.heap.push PySem.W.emptyDict).get? s.heap.objs.size=some PySem.W.emptyDict:=Heap.get?_push_size s.heap rfl
 have e2:((s.heap.push PySem.W.emptyDict).push (PySem.W.instObj C s.heap.objs.size)).get? (s.heap.objs.size + 1)=some (PySem.W.instObj C s.heap.objs.size):=by
  have:=Heap.get?_push_size (s.heap.push PySem.W.emptyDict) (o:=PySem.W.instObj C s.heap.objs.size) rfl
  rwa [Heap.size_push] at this
 have e3:(s.heap.push PySem.W.emptyDict).Ns s.heap.objs.size (fun _=>none):=⟨PySem.W.emptyDict,#[],_,e1,rfl,(fun e he=>absurd he (by simp)),fun _=>rfl⟩
 have I1:=I.laid (a:=s.heap.objs.size) (o:=.own (s.heap.objs.size + 1)) (h':=s.heap.push PySem.W.emptyDict) (t':=s.toks) (fun b u q=>Heap.get?_push_of_some _ q) (Nat.le_refl _) ⟨_,e1⟩
 refine I1.laid (a:=s.heap.objs.size + 1) (o:=.ins C s.heap.objs.size []) (t':=s.toks) (fun b u q=>Heap.get?_push_of_some _ q) (Nat.le_of_eq (Heap.size_push _ _)) ?_
 have ne:s.heap.objs.size≠s.heap.objs.size + 1:=Nat.ne_of_lt (Nat.lt_succ_self _)
 refine ⟨by rw [qI ne,qR],Nat.zero_le _,ne,e2,fun _=>none,(Heap.Ns1.of_empty e3).at fun o q=>Heap.get?_push_of_some _ q,fun _=>True.intro,fun y hy=>absurd rfl hy⟩
end
section
variable {X:Cx} {o e value:Expr} {f:Str} {pos pos' tpos:Pos} {ta tv:TE}
end
section
variable {X:Cx} {pins:List (Addr×Obj)} {σ:St} {H:Hp} {s:Shared} {A:Around} {E:Value->Shared->Prop} {Q:Value->Shared->Prop} {c:Value} {b:Bool}
end
end L2
namespace L2
open PySem PySem.Spec PyProof.Rows
structure Room (k:Nat) (A:Around):Prop where
 hd:A.handled=none
 dp:A.depth + 3 * k + 5 < recursionLimit
 un:A.units + 16 * k + 200 < cLine
theorem Room.mono {j k:Nat} {A:Around} (r:Room k A) (h:j <= k):Room j A:=⟨r.hd,by have:=r.dp;omega,by have:=r.un;omega⟩
theorem Room.deeper {k:Nat} {A:Around} (r:Room (k + 1) A) (env:Env):Room k (A.deeper env) :=
 ⟨r.hd,by have:=r.dp;show A.depth + 1 + 3 * k + 5 < _;omega,by have:=r.un;show A.units + 3 + 16 * k + 200 < _;omega⟩
theorem Room.in1 {k:Nat} {A:Around} (r:Room (k + 1) A):Room k A.in1 :=
 ⟨r.hd,by have:=r.dp;show A.depth + 3 * k + 5 < _;omega,by have:=r.un;show A.units + 1 + 16 * k + 200 < _;omega⟩
theorem Room.depth {k:Nat} {A:Around} (r:Room k A):A.depth < recursionLimit:=by have:=r.dp;omega
theorem Room.units {k:Nat} {A:Around} (r:Room k A):A.units + 64 < cLine:=by have:=r.un;omega
def tNil:TA:=fun _ H Q=>Q [] H
def tCons (ta:TE) (tr:TA):TA:=fun σ H Q=>ta σ H fun x H1=>tr σ H1 fun xs H2=>Q (x :: xs) H2
section
variable {X:Cx} {e:Expr} {es:List Expr} {te:TE} {t:TA} {pos:Pos}
theorem qbR:PA X [] tNil:=fun _ _ _ _ H Q I h=>Calls.spliced_nil ⟨[],H,I,.nil,h⟩
theorem JL (ha:PE X e te) (hr:PA X es t) (hs:starEach (e :: es) X.env=(false,eval e X.env) :: starEach es X.env:=by rfl):PA X (e :: es) (tCons te t):=by
 intro pos pins s σ H Q I h
 rw [hs]
 show wpAny _ _ (spliced ((false,eval e X.env) :: backTo pos (starEach es X.env))) _ _ s
 refine Calls.spliced_cons (thn (ha pins s σ H _ I h) fun u s1 ⟨x,H1,I1,r1,q1⟩=>?_)
 exact thn (hr pos pins s1 σ H1 _ I1 q1) fun us s2 ⟨xs,H2,I2,r2,q2⟩=>⟨x :: xs,H2,I2,.cons r1 r2,q2⟩
def tTup (t:TA):TE:=fun σ H Q=>t σ H fun xs H1=>xs.length <= sizeLine/\∀ p,H1 p=none->Q (.ref p) (upd H1 p (.tup xs))
def tLst (t:TA):TE:=fun σ H Q=>t σ H fun xs H1=>xs.length <= sizeLine/\∀ p,H1 p=none->Q (.ref p) (upd H1 p (.lst xs))
theorem qhe {x1} (h:PA X es t):PE X (.Tuple es x1 pos) (tTup t):=by
 intro pins s σ H Q I hq
 refine wpAny_Tuple_spliced (thn (h pos pins s σ H _ I hq) fun us s1 ⟨xs,H1,I1,r,z,q⟩=>⟨by rw [← r.length];exact z,?_⟩)
 have hf:H1 s1.heap.objs.size=none:=I1.hok.fresh (Nat.le_refl _)
 refine ⟨.ref s1.heap.objs.size,upd H1 s1.heap.objs.size (.tup xs),I1.laid (t':=s1.toks) (fun b u e=>Heap.get?_push_of_some _ e) (Nat.le_refl _) ?_,rfl,q _ hf⟩
 exact ⟨z,us,r,⟨_,Heap.get?_push_size _ rfl,rfl,_,rfl⟩⟩
theorem qhc (h:PA X es t):PE X (.List es pos) (tLst t):=by
 intro pins s σ H Q I hq
 refine wpAny_List_spliced (thn (h pos pins s σ H _ I hq) fun us s1 ⟨xs,H1,I1,r,z,q⟩=>⟨by rw [← r.length];exact z,?_⟩)
 have hf:H1 s1.heap.objs.size=none:=I1.hok.fresh (Nat.le_refl _)
 refine ⟨.ref s1.heap.objs.size,upd H1 s1.heap.objs.size (.lst xs),I1.laid (t':=s1.toks) (fun b u e=>Heap.get?_push_of_some _ e) (Nat.le_refl _) ?_,rfl,q _ hf⟩
 exact ⟨z,us,0,r,Heap.get?_push_size _ rfl⟩
end
abbrev Sp:=List V->Hp->VK->XK->Prop
abbrev CXT:=List Env->Hp->Shared->XK->Value->Shared->Prop
structure Env0 (P:Program) (w:World) (K:PySem.W.Frag) (mg:Str->Option Value) (base:Heap) (A:Around) (outer:List Env) (s:Shared) (H:Hp):Prop where
 frames:A.frames=some outer
 mod:Mod K mg base
 bs:∀ b o,base.get? b=some o->s.heap.get? b=some o/\H b=none
 bsz:base.objs.size <= s.heap.objs.size
 funs:s.heap.FunFrames base outer
 frf:∀ b∈frs outer,H b=none
 hok:HOk P w H s.heap
 bare:AllBare s.gens
def CE (outer:List Env) (P:Program) (w:World) (H:Hp) (s:Shared) (Q:VK) (u:Value) (s':Shared):Prop :=
 ∃ v H',s'.os=s.os/\AllBare s'.gens/\Un (frs outer) [] H H' s.heap s'.heap/\HOk P w H' s'.heap/\RelV v u/\Q v H'
def CR (CX:CXT) (outer:List Env) (P:Program) (w:World) (H:Hp) (s:Shared) (Q:VK) (E:XK) (r:Result) (s':Shared):Prop :=
 match r with
 | .ok (.ret u)=>CE outer P w H s Q u s'
 | .ok _=>False
 | .error e=>CX outer H s E e s'
structure FnOk (P:Program) (w:World) (K:PySem.W.Frag) (mg:Str->Option Value) (base:Heap) (CX:CXT) (k:Nat) (f:Addr) (fd:FuncData) (ps:List Str) (sp:Sp):Prop where
 len:∀ vs H Q E,sp vs H Q E->vs.length=ps.length
 run:∀ (A:Around) (outer:List Env) (s:Shared) (H:Hp) (args:Args) (us:List Value) (vs:List V) (Q:VK) (E:XK),Room k A->Env0 P w K mg base A outer s H->BindsTo s fd args (ps.zip us)->Vals vs us->sp vs H Q E->
  codeAny (model P w) A (.call (.ref f) args) (CR CX outer P w H s Q E) s
theorem FnOk.mono {P:Program} {w:World} {K:PySem.W.Frag} {mg:Str->Option Value} {base:Heap} {CX:CXT} {j k:Nat} {f:Addr} {fd:FuncData} {ps:List Str} {sp:Sp} (F:FnOk P w K mg base CX j f fd ps sp) (h:j <= k) :
  FnOk P w K mg base CX k f fd ps sp:=⟨F.len,fun A outer s H args us vs Q E hr=>F.run A outer s H args us vs Q E (hr.mono h)⟩
theorem FnOk.imp {P:Program} {w:World} {K:PySem.W.Frag} {mg:Str->Option Value} {base:Heap} {CX:CXT} {k:Nat} {f:Addr} {fd:FuncData} {ps:List Str} {sp sp':Sp} (F:FnOk P w K mg base CX k f fd ps sp)
  (h:∀ vs H Q E,sp' vs H Q E->sp vs H Q E):FnOk P w K mg base CX k f fd ps sp' :=
 ⟨fun vs H Q E q=>F.len vs H Q E (h _ _ _ _ q),fun A outer s H args us vs Q E hr he hb hv hs=>F.run A outer s H args us vs Q E hr he hb hv (h _ _ _ _ hs)⟩
theorem Env0.in1 {P:Program} {w:World} {K:PySem.W.Frag} {mg:Str->Option Value} {base:Heap} {A:Around} {outer:List Env} {s:Shared} {H:Hp} (e:Env0 P w K mg base A outer s H) :
  Env0 P w K mg base A.in1 outer s H:=⟨e.frames,e.mod,e.bs,e.bsz,e.funs,e.frf,e.hok,e.bare⟩
section
variable {X:Cx} {pins:List (Addr×Obj)} {σ:St} {H:Hp} {s s':Shared}
theorem Inv.env0 (I:Inv X pins σ H s):Env0 X.prog X.w X.K X.mg X.base X.A X.stack s H :=
 ⟨I.ok.frames,I.ok.mod,I.bs,Nat.le_trans I.ok.bsz I.sz,I.stack,I.stkFree,I.hok,I.bare⟩
theorem Inv.after {Q:VK} {u:Value} (I:Inv X pins σ H s) (h:CE X.stack X.prog X.w H s Q u s'):EP X pins σ Q u s':=by
 obtain ⟨v,H',os,bare,un,hok,r,q⟩:=h
 obtain ⟨hh,g,d,t,os'⟩:=s'
 obtain rfl:os'=s.os:=os
 exact ⟨v,H',I.call (h':=hh) (g':=g) (d':=d) (t':=t) (ch:=[]) un hok bare (fun b z=>absurd z (by simp)),r,q⟩
end
def tCall (sp:Sp) (dvs:List V) (E:XK) (t:TA):TE:=fun σ H Q=>t σ H fun vs H1=>sp (vs ++ dvs) H1 Q E
def Binds (K:PySem.W.Frag) (fd:FuncData) (ps:List Str) (ds:List Value):Prop :=
 ∀ (s:Shared) (us:List Value),K.In s.heap->(us ++ ds).length=ps.length->BindsTo s fd ⟨us,[]⟩ (ps.zip (us ++ ds))
theorem Binds.all {K:PySem.W.Frag} {fd:FuncData} {ps:List Str} (h:∀ us:List Value,us.length=ps.length->bindArgs fd ⟨us,[]⟩=pure (ps.zip us)):Binds K fd ps []:=fun s us _ hl=>by
 rw [List.append_nil] at hl ⊢
 exact .of_eq (h us hl)
def qbg (CX:CXT) (X:Cx) (E:XK):Prop:=∀ (pins:List (Addr×Obj)) (σ:St) (H:Hp) (s:Shared) (e:Value) (s':Shared),Inv X pins σ H s->CX X.stack H s E e s'->X.xe e s'
section
variable {X:Cx} {CX:CXT} {k:Nat} {f C:Addr} {fd:FuncData} {ps:List Str} {sp:Sp} {dvs:List V} {ds:List Value} {E:XK} {x m:Str} {p pos apos:Pos} {e o:Expr} {es:List Expr} {ta:TE} {t:TA}
theorem qlr {pins:List (Addr×Obj)} {σ:St} {H:Hp} {s:Shared} {Q:VK} {us:List Value} {vs:List V} (F:FnOk X.prog X.w X.K X.mg X.base CX k f fd ps sp) (hr:Room k X.A) (hb:Binds X.K fd ps ds) (hd:Vals dvs ds) (hx:qbg CX X E)
  (I:Inv X pins σ H s) (r:Vals vs us) (h:sp (vs ++ dvs) H Q E):wpAny (model X.prog X.w) X.A (call (.ref f) us) (EP X pins σ Q) X.xe s:=by
 have r2:Vals (vs ++ dvs) (us ++ ds):=r.append hd
 have hl:(us ++ ds).length=ps.length:=by rw [← r2.length];exact F.len _ _ _ _ h
 refine wpAny_call (codeAny_mono (F.run X.A X.stack s H ⟨us,[]⟩ (us ++ ds) (vs ++ dvs) Q E hr I.env0 (hb s us I.kIn hl) r2 h) fun r s' hq=>?_)
 cases r with
 | error e=>exact hx pins σ H s e s' I hq
 | ok fl =>
  cases fl with
  | ret u=>exact I.after hq
  | next=>exact False.elim hq
  | brk=>exact False.elim hq
  | cont=>exact False.elim hq
theorem qi8 (F:FnOk X.prog X.w X.K X.mg X.base CX k f fd ps sp) (hr:Room k X.A) (hg:Gl X x) (hm:X.mg x=some (.ref f)) (hk:PySem.W.keepIn X.K (.ref f)=true) (hb:Binds X.K fd ps ds) (hd:Vals dvs ds) (hx:qbg CX X E)
  (ha:PA X (e :: es) t) (hdb:(x == ("__debug__" : Str))=false:=by decide) (he:starEach (e :: es) X.env=(false,eval e X.env) :: starEach es X.env:=by rfl) (hpl:(backTo pos (starEach es X.env)).any (·.1)=false:=by rfl) :
  PE X (.Call (.Name x p) (e :: es) [] pos) (tCall sp dvs E t):=by
 intro pins s σ H Q I h
 refine wpAny_Call_Name_kw (JF I hg hm ?_ hdb)
 refine PySem.W.callWith_K (h₀:=X.base) I.ok.mod.kin hk (thn (ha pos pins s σ H _ I h) fun us s1 ⟨vs,H1,I1,r,q⟩=>⟨I1.kIn,?_⟩) he hpl
 exact qlr F hr hb hd hx I1 r q
end
section
variable {X:Cx} {CX:CXT} {k:Nat} {f C:Addr} {fd:FuncData} {ps ks:List Str} {sp:Sp} {E:XK} {x m:Str} {p pos apos kpos:Pos} {e o:Expr} {es:List Expr} {kws:List Keyword} {te ta:TE} {t tk:TA} {nm:Option Str}
variable {g:List Value->List Value->List Value} {gV:List V->List V->List V}
end
structure FnScope (N P:List Str) (sc:Scope):Prop where
 kind:sc.kind=.function
 co:sc.isCoroutine=false
 gen:sc.isGenerator=false
 nd:N.Nodup
 pre:N.take P.length=P
 par:∀ x∈P,sc.names.lookup x=some .local\/sc.names.lookup x=some .cell
 nofree:∀ y∈sc.names,y.2≠.free
theorem qaL {kindOf:Str->Option NameKind} {x:Str}:∀ {binds:List (Str×Value)} {m:Str->Option Value},(∀ v,(x,v)∉binds)->bindL kindOf binds m x=m x
 | [],_,_=>rfl
 | (n,v) :: r,m,h=>by
  unfold bindL
  rw [qaL fun w hw=>h w (List.mem_cons_of_mem _ hw)]
  split
  ·have:x≠n:=by rintro rfl;exact h v List.mem_cons_self
   simp [this]
  ·rfl
theorem qaJ {kindOf:Str->Option NameKind} {x:Str}:∀ {binds:List (Str×Value)} {m:Str->Option Value},(∀ v,(x,v)∉binds)->bindC kindOf binds m x=m x
 | [],_,_=>rfl
 | (n,v) :: r,m,h=>by
  unfold bindC
  rw [qaJ fun w hw=>h w (List.mem_cons_of_mem _ hw)]
  split
  ·rfl
  ·have:x≠n:=by rintro rfl;exact h v List.mem_cons_self
   simp [this]
theorem qaK {kindOf:Str->Option NameKind} {x:Str} {v:Value}:∀ {P:List Str} {vs:List Value} {i:Nat} {m:Str->Option Value},P.Nodup->P[i]?=some x->vs[i]?=some v->kindOf x=some .local->
  bindL kindOf (P.zip vs) m x=some v
 | [],_,_,_,_,h,_,_=>by simp at h
 | _ :: _,[],_,_,_,_,h,_=>by simp at h
 | p :: P,w :: vs,0,m,nd,h1,h2,hk=>by
  simp at h1 h2;subst h1;subst h2
  show bindL kindOf ((p,w) :: P.zip vs) m p=_
  unfold bindL
  rw [qaL fun v hv=>(List.nodup_cons.mp nd).1 (List.of_mem_zip hv).1,if_pos hk]
  simp
 | p :: P,w :: vs,i + 1,m,nd,h1,h2,hk=>by
  show bindL kindOf ((p,w) :: P.zip vs) m x=_
  unfold bindL
  exact qaK (i:=i) (List.nodup_cons.mp nd).2 (by simpa using h1) (by simpa using h2) hk
theorem qaI {kindOf:Str->Option NameKind} {x:Str} {v:Value}:∀ {P:List Str} {vs:List Value} {i:Nat} {m:Str->Option Value},P.Nodup->P[i]?=some x->vs[i]?=some v->kindOf x≠some .local->
  bindC kindOf (P.zip vs) m x=some v
 | [],_,_,_,_,h,_,_=>by simp at h
 | _ :: _,[],_,_,_,_,h,_=>by simp at h
 | p :: P,w :: vs,0,m,nd,h1,h2,hk=>by
  simp at h1 h2;subst h1;subst h2
  show bindC kindOf ((p,w) :: P.zip vs) m p=_
  unfold bindC
  rw [qaJ fun v hv=>(List.nodup_cons.mp nd).1 (List.of_mem_zip hv).1,if_neg hk]
  simp
 | p :: P,w :: vs,i + 1,m,nd,h1,h2,hk=>by
  show bindC kindOf ((p,w) :: P.zip vs) m x=_
  unfold bindC
  exact qaI (i:=i) (List.nodup_cons.mp nd).2 (by simpa using h1) (by simpa using h2) hk
def start (N:List Str) (vs:List V):St:=vs.map some ++ List.replicate (N.length - vs.length) none
def cxOf (CX:CXT) (P:Program) (w:World) (K:PySem.W.Frag) (mg:Str->Option Value) (base:Heap) (N:List Str) (qual:Str) (scope:Scope) (f:Addr) (cd:Value) (A:Around) (outer:List Env) (s:Shared) (H:Hp) (E:XK):Cx where
 prog:=P
 w:=w
 K:=K
 mg:=mg
 base:=base
 A:=A.deeper (envOfC qual scope s.heap.objs.size f cd)
 N:=N
 s₀:=s
 H₀:=H
 env:=envOfC qual scope s.heap.objs.size f cd
 outer:=outer
 stack:=envOfC qual scope s.heap.objs.size f cd :: outer
 ex:=[]
 calm:=true
 fn:=fun _=>true
 pn:=[]
 xe:=fun e s'=>wpAny (model P w) (A.deeper (envOfC qual scope s.heap.objs.size f cd)) (leaving (envOfC qual scope s.heap.objs.size f cd) e) (fun _ s''=>CX outer H s E e s'') (fun e' s''=>CX outer H s E e' s'') s'
theorem qcl {sc:Scope} {n:Nat} {x:Str} (h:sc.names.lookup x=some .cell):∃ c,(cellsFrom n sc.names []).lookup x=some c:=by
 have q:=PySem.W.cellsFrom_some sc.names n [] (.inl h)
 exact Option.isSome_iff_exists.mp q
theorem qaR {CX:CXT} {P:Program} {w:World} {K:PySem.W.Frag} {mg:Str->Option Value} {base:Heap} {N ps:List Str} {qual:Str} {scope:Scope} {f:Addr} {cd:Value} {A:Around} {outer:List Env} {s s1:Shared} {H:Hp} {E:XK} {us:List Value} {vs:List V}
  (S:FnScope N ps scope) (hd:A.handled=none) (e0:Env0 P w K mg base A outer s H) (hl:vs.length=ps.length) (r:Vals vs us)
  (x:InCallC s s.heap.objs.size (bindL (envOfC qual scope s.heap.objs.size f cd).kindOf (ps.zip us) fun _=>none) (cellsFrom (s.heap.objs.size + 1) scope.names []) (bindC (envOfC qual scope s.heap.objs.size f cd).kindOf (ps.zip us) fun _=>none) s1) :
  Inv (cxOf CX P w K mg base N qual scope f cd A outer s H E) [] (start N vs) H s1:=by
 have hpl:ps.length <= N.length:=by have:=congrArg List.length S.pre;rw [List.length_take] at this;omega
 obtain ⟨h1,tk,rfl,hk⟩:=x.done
 have noA:∀ b:Addr,b∉(cxOf CX P w K mg base N qual scope f cd A outer s H E).ex:=fun b z=>absurd (show b∈([]:List Addr) from z) (by simp)
 refine ⟨⟨e0.mod,S.kind,rfl,rfl,Nat.le_refl _,fun y z c h1 h2=>?_,fun y hy=>?_,fun y c _ h=>?_,fun _=>hd,Around.frames_deeper e0.frames,.inr ⟨rfl,rfl⟩,fun b z=>absurd z (noA b),e0.bs,e0.bsz,fun b _ _=>noA b,fun b z=>absurd z (noA b),e0.funs,e0.frf⟩,
  rfl,e0.bare,Un.kept hk,⟨_,x.toInCall.ns,fun i y v h1 h2 h3=>?_⟩,fun y c h=>⟨_,x.cell y c h⟩,e0.hok.fresh (Nat.le_refl _),fun y c h=>?_,fun p hp=>absurd (show p∈([]:List (Addr×Obj)) from hp) (by simp),e0.hok.kept hk,?_⟩
 ·exact name_of_addr x.apart (PySem.mem_of_lookup h1) (PySem.mem_of_lookup h2)
 ·have hy:scope.names.lookup y=some .cell\/scope.names.lookup y=some .free:=hy
  rcases hy with hy | hy
  ·exact qcl hy
  ·exact absurd rfl (S.nofree _ (PySem.mem_of_lookup hy))
 ·exact Nat.le_of_lt (x.above y c (PySem.mem_of_lookup h))
 ·have hi:i < vs.length:=by
   unfold start at h2
   by_cases hi:i < vs.length
   ·exact hi
   ·rw [List.getElem?_append_right (by simpa using hi)] at h2
    rw [List.getElem?_replicate] at h2
    split at h2<;>cases h2
  have ha:vs[i]?=some v:=by
   unfold start at h2
   rw [List.getElem?_append_left (by simpa using hi),List.getElem?_map] at h2
   cases e:vs[i]? with
   | none=>rw [e] at h2;cases h2
   | some a=>rw [e] at h2;cases h2;rfl
  obtain ⟨u,hu,rv⟩:=r.get ha
  have hp:ps[i]?=some y:=by
   rw [← S.pre,List.getElem?_take_of_lt (by omega)];exact h1
  have ndP:ps.Nodup:=by rw [← S.pre];exact S.nd.sublist (List.take_sublist _ _)
  refine ⟨u,rv,?_⟩
  rcases S.par y (List.mem_of_getElem? hp) with k | k
  ·exact .inl ⟨k,qaK ndP hp hu k⟩
  ·obtain ⟨c,e⟩:=qcl (n:=s.heap.objs.size + 1) k
   refine .inr ⟨.inl k,c,e,?_⟩
   have q:=x.cell y c e
   rw [qaI ndP hp hu (by show scope.names.lookup y≠_;rw [k];decide)] at q
   exact q
 ·exact e0.hok.fresh (Nat.le_of_lt (x.above y c (PySem.mem_of_lookup h)))
 ·unfold start
  show _=N.length
  rw [List.length_append,List.length_map,List.length_replicate]
  omega
theorem qgd {CX:CXT} {P:Program} {w:World} {K:PySem.W.Frag} {mg:Str->Option Value} {base:Heap} {k:Nat} {f:Addr} {name qual:Str} {params:Arguments} {body:List Stmt} {scope:Scope} {dV kV doc pm cdv ct oc:Value} {an od:Option Addr}
  {osl:Array (Option Value)} {N ps:List Str} {sp:Sp} (lk:K.lookup f=some ⟨oc,od,.func (PySem.W.fnOf name qual params body scope dV kV doc pm an cdv ct),osl⟩) (hcd:PySem.W.codeIn K cdv qual=true) (S:FnScope N ps scope)
  (len:∀ vs H Q E,sp vs H Q E->vs.length=ps.length)
  (hbody:∀ (A:Around) (outer:List Env) (s:Shared) (H:Hp) (vs:List V) (Q:VK) (E:XK),Room k (A.deeper (envOfC qual scope s.heap.objs.size f cdv))->sp vs H Q E->
   ∃ t,PSs (cxOf CX P w K mg base N qual scope f cdv A outer s H E) body t/\t { nx:=fun _ H'=>Q .non H',rt:=Q } (start N vs) H) :
  FnOk P w K mg base CX (k + 1) f (PySem.W.fnOf name qual params body scope dV kV doc pm an cdv ct) ps sp:=by
 refine ⟨len,fun A outer s H args us vs Q E hr e0 hb r hsp=>?_⟩
 have hl:=len _ _ _ _ hsp
 have KX:K.In s.heap:=e0.mod.kin.keeps fun b o e=>(e0.bs b o e).1
 have lim:s.heap.NoLimit:=e0.mod.nolimit.keeps fun b o e=>(e0.bs b o e).1
 have hkind:∀ y∈ps.zip us,scope.names.lookup y.1=some .local\/(scope.names.lookup y.1=some .cell/\((cellsFrom (s.heap.objs.size + 1) scope.names []).lookup y.1).isSome=true):=fun ⟨n,v⟩ hy=>by
  rcases S.par n (List.of_mem_zip hy).1 with q | q
  ·exact .inl q
  ·exact .inr ⟨q,PySem.W.cellsFrom_some _ _ _ (.inl q)⟩
 refine codeAny_call_function hr.depth (KX _ _ lk) rfl S.co S.gen rfl (PySem.W.codeRec_of KX hcd) (hb _ _ _ _ ?_)
 refine wpAny_newFunctionEnv_cells S.kind hkind fun env he s1 x=>?_
 subst he
 refine ⟨lim.keeps x.toInCall.keep,codeAny_func ?_⟩
 obtain ⟨t,ht,hq⟩:=hbody A outer s H vs Q E (hr.deeper _) hsp
 have I:Inv (cxOf CX P w K mg base N qual scope f cdv A outer s H E) [] (start N vs) H s1:=qaR S hr.hd e0 hl r x
 refine wpAny_mono (ht [] s1 (start N vs) H _ I hq) (fun fl s' hs=>?_) fun e s' hs=>hs
 have fin:∀ {σ':St} {H':Hp} {v:V} {u:Value},Inv (cxOf CX P w K mg base N qual scope f cdv A outer s H E) [] σ' H' s'->RelV v u->Q v H'->CE outer P w H s Q u s' :=
  fun {σ' H' v u} J rv q=>⟨v,H',J.os,J.bare,J.base,J.hok,rv,q⟩
 cases fl with
 | ret u =>
  obtain ⟨v,σ',H',J,rv,q⟩:=hs
  exact fin J rv q
 | next =>
  obtain ⟨σ',H',J,q⟩:=hs
  exact fin (v:=V.non) (u:=Value.none) J rfl q
 | brk =>
  obtain ⟨_,_,_,q⟩:=hs
  exact False.elim q
 | cont =>
  obtain ⟨_,_,_,q⟩:=hs
  exact False.elim q
end L2
namespace L2
open PySem PySem.Spec PyProof.Rows
section
variable {X:Cx} {x:Str} {p pos:Pos} {e:Expr} {es:List Expr} {t:TA} {id T:String} {r:List V->Hp->VK->Prop}
def tCB (r:List V->Hp->VK->Prop) (t:TA):TE:=fun σ H Q=>t σ H fun vs H1=>r vs H1 Q
theorem Yh (hc:Zx X (.builtin id) r) (hg:Gl X x) (hm:X.mg x=none) (hv:bootBuiltins x=some (.builtin id)) (ha:PA X (e :: es) t) (hn:x ≠ "__name__" := by decide) (hdb:(x == ("__debug__" : Str))=false:=by decide)
  (he:starEach (e :: es) X.env=(false,eval e X.env) :: starEach es X.env:=by rfl) (hpl:(backTo pos (starEach es X.env)).any (·.1)=false:=by rfl):PE X (.Call (.Name x p) (e :: es) [] pos) (tCB r t):=by
 intro pins s σ H Q I h
 refine wpAny_Call_Name_kw (WP I hg hm hv ?_ hn hdb)
 exact PyProof.Rows.callWith_builtin1 (thn (ha pos pins s σ H _ I h) fun us s1 ⟨vs,H1,I1,r1,q1⟩=>hc pins s1 σ H1 vs us Q I1 r1 q1) he hpl
theorem qa7 (hc:Zx X (.type T) r) (hg:Gl X x) (hm:X.mg x=none) (hv:bootBuiltins x=some (.type T)) (ha:PA X (e :: es) t) (hn:x ≠ "__name__" := by decide) (hdb:(x == ("__debug__" : Str))=false:=by decide)
  (he:starEach (e :: es) X.env=(false,eval e X.env) :: starEach es X.env:=by rfl) (hpl:(backTo pos (starEach es X.env)).any (·.1)=false:=by rfl):PE X (.Call (.Name x p) (e :: es) [] pos) (tCB r t):=by
 intro pins s σ H Q I h
 refine wpAny_Call_Name_kw (WP I hg hm hv ?_ hn hdb)
 exact PyProof.Rows.callWith_type1 (thn (ha pos pins s σ H _ I h) fun us s1 ⟨vs,H1,I1,r1,q1⟩=>hc pins s1 σ H1 vs us Q I1 r1 q1) he hpl
end
end L2
namespace HT
open PySem PyProof.Rows
def lexLt:List Int->List Int->Bool
 | [],[]=>false
 | [],_ :: _=>true
 | _ :: _,[]=>false
 | x :: xs,y :: ys=>if x=y then lexLt xs ys else decide (x < y)
theorem zT (x y:Int) (xs ys:List Int):lexLt (x :: xs) (y :: ys)=if x=y then lexLt xs ys else decide (x < y):=rfl
theorem qat:lexLt [] []=false:=rfl
theorem qcW (A:Around) (s:Shared) (a:Int) (t:Tok) (c:Int) (u:Tok) (prog:Program) (w:World) (E:Value->Shared->Prop) (Q:Value->Shared->Prop) (h:Q (.bool (decide (a < c))) s) :
  wpAny (model prog w) A (richCompare .Lt (.int a t) (.int c u)) Q E s :=
 (PyProof.Rows.lt_int h:wpAny (model prog w) A (compareOp .Lt (.int a t) (.int c u)) Q E s)
section
open PySem.SeqAt
open PySem.AutoSeq1 (wpAny_loadPart')
open PySem.MeetsSeq PySem.MeetsSeq2 PySem.MeetsSeq3
end
section
variable {prog:Program} {w:World} {A:Around} {E:Value->Shared->Prop} {s:Shared}
theorem qh0 {t b:Addr} {vs ws:List Value} {Q:Value->Shared->Prop} (ht:IsTup s.heap t vs.toArray) (hb:IsTup s.heap b ws.toArray) (hv:vs≠[])
  (h1:ws=[]->Q (.ref t) s) (h2:ws≠[]->Q (.ref s.heap.objs.size) { s with heap:=s.heap.push { cls:=.type "tuple", data:=.seq (vs ++ ws).toArray } })
  (hsz:vs.length + ws.length <= sizeLine):wpAny (model prog w) A (binaryOp .Add (.ref t) (.ref b)) Q E s:=by
 obtain ⟨⟨cls,dd,data,sl⟩,ho,hc,n,hd⟩:=id ht
 obtain ⟨⟨cls2,dd2,data2,sl2⟩,ho2,hc2,n2,hd2⟩:=id hb
 simp only at hc hd hc2 hd2
 subst hc hd hc2 hd2
 have e:vs.toArray ++ ws.toArray=(vs ++ ws).toArray:=by simp
 by_cases hw:ws=[]
 ·exact concat_meets ⟨_,ho,rfl⟩ ⟨_,ho2,rfl⟩ noFill_tuple_add seq_tuple_add PySem.F.slot_tuple_add PySem.F.entry_tuple_add (PySem.F.args_tuple_add_2 _ _)
   (tuple_addW1 t b vs.toArray ws.toArray n n2 dd dd2 sl sl2 (by simpa using hv) (by simp [hw])) ⟨ho,ho2,h1 hw⟩
 ·refine concat_meets ⟨_,ho,rfl⟩ ⟨_,ho2,rfl⟩ noFill_tuple_add seq_tuple_add PySem.F.slot_tuple_add PySem.F.entry_tuple_add (PySem.F.args_tuple_add_2 _ _)
   (tuple_addW2 t b vs.toArray ws.toArray n n2 dd dd2 sl sl2 (by simpa using hv) (by simpa using hw) (by rw [List.size_toArray,List.size_toArray];exact hsz)) ⟨ho,ho2,?_⟩
  rw [e]
  exact h2 hw
def sIx (n d:Nat):Option Int->Nat
 | none=>d
 | some v=>if v < 0 then (v + (n:Int)).toNat else min v.toNat n
theorem qeD (n d k:Nat):sIx n d (some (k:Int))=min k n:=by
 show (if (k:Int) < 0 then ((k:Int) + (n:Int)).toNat else min (k:Int).toNat n)=min k n
 rw [if_neg (by omega),Int.toNat_natCast]
theorem qly (n d:Nat) (hd:d <= n) (o:Option Int):sIx n d o <= n:=by
 cases o with
 | none=>exact hd
 | some v =>
  show (if v < 0 then (v + (n:Int)).toNat else min v.toNat n) <= n
  by_cases hv:v < 0
  ·rw [if_pos hv];omega
  ·rw [if_neg hv];exact Nat.min_le_right _ _
theorem qdS (v:Int) (n d:Nat):(if v < 0 then max (v + (n:Int)) 0 else min v (n:Int))=((sIx n d (some v):Nat):Int):=by
 show (if v < 0 then max (v + (n:Int)) 0 else min v (n:Int))=(((if v < 0 then (v + (n:Int)).toNat else min v.toNat n):Nat):Int)
 by_cases hv:v < 0
 ·simp only [if_pos hv];omega
 ·simp only [if_neg hv];omega
theorem qda (lo hi:Option Int) (n:Nat):Builtin.Slice.sliceAdjust lo hi 1 (n:Int)=(((sIx n 0 lo:Nat):Int),((sIx n n hi:Nat):Int)):=by
 have h1:¬ ((1:Int) < 0):=by omega
 unfold Builtin.Slice.sliceAdjust
 simp only [h1,if_false]
 refine Prod.ext ?_ ?_
 ·cases lo with
  | none=>rfl
  | some v=>exact qdS v n 0
 ·cases hi with
  | none=>rfl
  | some v=>exact qdS v n n
theorem qdv (i j:Nat):Builtin.Slice.slicePlaces (i:Int) (j:Int) 1=j - i:=by
 unfold Builtin.Slice.slicePlaces
 have h1:(1:Int) > 0:=by omega
 simp only [h1,if_true,Int.ediv_one]
 split<;>omega
theorem qai {v:Value} {o:Option Int} {Q:Option Int->Shared->Prop} (p:IsPart v o) (h:Q o s):wpAny (model prog w) A (Builtin.Slice.slicePartIndex v) Q E s:=by
 cases p with
 | none=>exact slicePart_none h
 | int i t=>exact slicePart_int h
theorem YQ {sl:Addr} {vl vu:Value} {lo hi:Option Int} {n:Nat} {Q:Int×Int×Nat->Shared->Prop} (hs:s.heap.IsSliceOf sl vl vu .none) (pl:IsPart vl lo) (pu:IsPart vu hi)
  (h:Q (((sIx n 0 lo:Nat):Int),1,sIx n n hi - sIx n 0 lo) s):wpAny (model prog w) A (Builtin.Slice.sliceApplied (.ref sl) (pure (n:Int))) Q E s:=by
 obtain ⟨os,hos,hcs,hds⟩:=id hs
 unfold Builtin.Slice.sliceApplied Builtin.Slice.sliceFields
 refine wpAny_bind (wpAny_bind (wpAny_field hos hds (x:=vl) rfl (wpAny_bind (wpAny_field hos hds (x:=vu) rfl (wpAny_bind (wpAny_field hos hds (x:=.none) rfl (wpAny_pure ?_)))))))
 refine wpAny_bind (slicePart_none ?_)
 show wpAny _ _ (if ((1:Int) == 0)=true then _ else _) _ _ s
 rw [if_neg (by decide)]
 refine wpAny_bind (qai pl (wpAny_bind (qai pu (wpAny_bind (wpAny_pure ?_)))))
 show wpAny _ _ (match Builtin.Slice.sliceAdjust lo hi 1 (n:Int) with | (lo,hi)=>pure (lo,(1:Int),Builtin.Slice.slicePlaces lo hi 1)) _ _ s
 rw [qda lo hi n]
 show wpAny _ _ (pure (((sIx n 0 lo:Nat):Int),(1:Int),Builtin.Slice.slicePlaces ((sIx n 0 lo:Nat):Int) ((sIx n n hi:Nat):Int) 1)) _ _ s
 rw [qdv]
 exact wpAny_pure h
theorem qhk (xs:Array Value) (i k:Nat):((List.range k).filterMap fun (m:Nat)=>xs[((i:Int) + (m:Int) * 1).toNat]?).toArray=((xs.toList.drop i).take k).toArray:=by
 have e:(fun (m:Nat)=>xs[((i:Int) + (m:Int) * 1).toNat]?)=fun m=>xs[i + m]?:=by
  funext m
  have:((i:Int) + (m:Int) * 1).toNat=i + m:=by omega
  rw [this]
 rw [e]
 have:=pick_run xs i k
 rw [List.filterMap_map] at this
 have e2:((fun x=>xs[x]?) ∘ fun x=>i + x)=fun m=>xs[i + m]?:=rfl
 rw [e2] at this
 rw [this]
theorem yI {t sl:Addr} {items:Array Value} {vl vu:Value} {lo hi:Option Int} {Q:Value->Shared->Prop} (ht:IsTup s.heap t items) (hs:s.heap.IsSliceOf sl vl vu .none) (pl:IsPart vl lo) (pu:IsPart vu hi)
  (hw:¬ (sIx items.size 0 lo=0/\sIx items.size items.size hi=items.size))
  (h:Q (.ref s.heap.objs.size) { s with heap:=s.heap.push { cls:=.type "tuple", data:=.seq ((items.toList.drop (sIx items.size 0 lo)).take (sIx items.size items.size hi - sIx items.size 0 lo)).toArray } })
  (hsz:items.size <= sizeLine):wpAny (model prog w) A (getItem (.ref t) (.ref sl)) Q E s:=by
 have htake:sizeOk (.seq ((items.toList.drop (sIx items.size 0 lo)).take (sIx items.size items.size hi - sIx items.size 0 lo)).toArray):=by
  show ((items.toList.drop (sIx items.size 0 lo)).take (sIx items.size items.size hi - sIx items.size 0 lo)).toArray.size <= sizeLine
  rw [List.size_toArray,List.length_take,List.length_drop,Array.length_toList]
  omega
 have hj:sIx items.size items.size hi <= items.size:=qly _ _ (Nat.le_refl _) hi
 obtain ⟨os,hos,hcs,hds⟩:=id hs
 have hTs:s.TypeIs (.ref sl) "slice" := ⟨os,hos,hcs⟩
 unfold getItem
 try with_reducible refine wpAny_holding ?_
 first | refine wpAny_bind (wpAny_pure ?_) | skip
 refine wpAny_bind (wpAny_sequenceKey ht.typeIs (by decide) ?_)
 refine wpAny_bind (wpAny_callSpecial?_slot (name:=Str.ofString "__getitem__") ht.typeIs PyProof.Rows.slot_tuple_getitem
  (wpAny_call_entry PyProof.Rows.slot_tuple_getitem ht.typeIs entry_tuple_getitem ?_ (args_tuple_getitem _ _)))
 show wpAny _ _ (Builtin.Tuple.tupleItemsOf (.ref t) >>= _) _ _ s
 refine wpAny_bind (tupleItemsOf_ ht ?_)
 refine wpAny_bind (wpAny_typeOf hTs ?_)
 rw [if_pos (by decide)]
 refine wpAny_bind (YQ hs pl pu ?_)
 have hno:¬ ((((sIx items.size 0 lo:Nat):Int) == 0 && (1:Int) == 1 && (sIx items.size items.size hi - sIx items.size 0 lo) == items.size)=true):=by
  intro q
  rw [Bool.and_eq_true,Bool.and_eq_true] at q
  have q1:((sIx items.size 0 lo:Nat):Int)=0:=eq_of_beq q.1.1
  have q2:sIx items.size items.size hi - sIx items.size 0 lo=items.size:=eq_of_beq q.2
  exact hw ⟨by omega,by omega⟩
 show wpAny _ _ (if (((sIx items.size 0 lo:Nat):Int) == 0 && (1:Int) == 1 && (sIx items.size items.size hi - sIx items.size 0 lo) == items.size)=true then _ else _) _ _ s
 rw [if_neg hno,qhk]
 first
  | exact wpAny_bind (m:=Builtin.Tuple.tupleExact _) (wpAny_newObj_type (wpAny_pure ⟨_,rfl,wpAny_pure h⟩) htake)
  | exact wpAny_bind (m:=Builtin.Tuple.tupleExact _) (wpAny_newObj_type (wpAny_bind (wpAny_pure (wpAny_pure ⟨_,rfl,wpAny_pure h⟩))) htake)
  | exact wpAny_bind (wpAny_bind (m:=Builtin.Tuple.tupleExact _) (wpAny_newObj_type (wpAny_pure (wpAny_pure ⟨_,rfl,wpAny_pure h⟩)) htake))
  | exact wpAny_bind (wpAny_bind (m:=Builtin.Tuple.tupleExact _) (wpAny_newObj_type (wpAny_pure ⟨_,rfl,wpAny_pure h⟩) htake))
end
end HT
namespace L2
open PySem PySem.Spec PyProof.Rows
abbrev TO:=St->Hp->(Option Int->Hp->Prop)->Prop
def PO (X:Cx) (e:Option Expr) (t:TO):Prop :=
 ∀ (pins:List (Addr×Obj)) (s:Shared) (σ:St) (H:Hp) (Q:Option Int->Hp->Prop),Inv X pins σ H s->t σ H Q->
  wpAny (model X.prog X.w) X.A (evalPart e X.env) (fun u s'=>∃ o H',Inv X pins σ H' s'/\IsPart u o/\Q o H') X.xe s
def tPart (t:TE):TO:=fun σ H Q=>t σ H fun x H1=>∃ i,x=.int i/\Q (some i) H1
section
variable {X:Cx} {e:Expr} {te:TE} {lo hi:Option Expr} {tl th:TO} {pos p2:Pos}
theorem qjg (h:PE X e te):PO X (some e) (tPart te):=by
 intro pins s σ H Q I hw
 rw [evalPart_some]
 refine thn (h pins s σ H _ I hw) fun u s1 ⟨x,H1,I1,r1,q1⟩=>?_
 obtain ⟨i,rfl,q⟩:=q1
 obtain ⟨t,rfl⟩:=r1
 exact ⟨some i,H1,I1,.int i t,q⟩
def SlR (X:Cx) (r:V->Option Int->Option Int->Hp->VK->Prop):Prop :=
 ∀ (pins:List (Addr×Obj)) (s:Shared) (σ:St) (H:Hp) (x:V) (v vl vu:Value) (lo hi:Option Int) (sl:Addr) (Q:VK),Inv X pins σ H s->RelV x v->s.heap.IsSliceOf sl vl vu .none->IsPart vl lo->IsPart vu hi->r x lo hi H Q->
  ∃ T id,typeLookup (.type T) "__getitem__" = pure (some (.builtin id))/\s.TypeIs v T/\wpAny (model X.prog X.w) X.A (getItem v (.ref sl)) (EP X pins σ Q) X.xe s
theorem SlR.or {r r':V->Option Int->Option Int->Hp->VK->Prop} (h:SlR X r) (h':SlR X r'):SlR X (fun x lo hi H Q=>r x lo hi H Q\/r' x lo hi H Q):=by
 intro pins s σ H x v vl vu lo hi sl Q I rx hs pl pu q
 rcases q with q | q
 ·exact h pins s σ H x v vl vu lo hi sl Q I rx hs pl pu q
 ·exact h' pins s σ H x v vl vu lo hi sl Q I rx hs pl pu q
def tSl (r:V->Option Int->Option Int->Hp->VK->Prop) (te:TE) (tl th:TO):TE:=fun σ H Q=>te σ H fun x H1=>tl σ H1 fun l H2=>th σ H2 fun u H3=>r x l u H3 Q
theorem qhd {r:V->Option Int->Option Int->Hp->VK->Prop} (hr:SlR X r) (he:PE X e te) (hl:PO X lo tl) (hu:PO X hi th):PE X (.Subscript e (.Slice lo hi none p2) pos) (tSl r te tl th):=by
 intro pins s σ H Q I h
 refine Subscript_ (thn (he pins s σ H _ I h) fun v s1 ⟨x,H1,I1,r1,q1⟩=>?_)
 refine wpAny_Slice (thn (hl pins s1 σ H1 _ I1 q1) fun vl s2 ⟨l,H2,I2,pl,q2⟩=>thn (hu pins s2 σ H2 _ I2 q2) fun vu s3 ⟨u,H3,I3,pu,q3⟩=>?_)
 rw [evalPart_none]
 refine wpAny_pure ?_
 have I4:Inv X pins σ H3 { s3 with heap:=s3.heap.push { cls:=.type "slice", data:=.fields #[vl,vu,.none] } }:=I3.kept (t':=s3.toks) fun b ob q=>Heap.get?_push_of_some _ q
 obtain ⟨T,id,hT,ht,hg⟩:=hr pins { s3 with heap:=s3.heap.push { cls:=.type "slice", data:=.fields #[vl,vu,.none] } } σ H3 x v vl vu l u s3.heap.objs.size Q I4 r1 (Heap.IsSliceOf.new ..) pl pu q3
 show wpAny (model X.prog X.w) X.A (subscriptTail e (.Slice lo hi none p2) v (.ref s3.heap.objs.size)) (EP X pins σ Q) X.xe { s3 with heap:=s3.heap.push { cls:=.type "slice", data:=.fields #[vl,vu,.none] } }
 exact tail_any (ops:=[.ref s3.heap.objs.size,v]) ht hT hg (by with_unfolding_all rfl)
def cutV (xs:List V) (lo hi:Option Int):List V:=(xs.drop (HT.sIx xs.length 0 lo)).take (HT.sIx xs.length xs.length hi - HT.sIx xs.length 0 lo)
theorem wk (xs:List V) (lo hi:Option Int):(cutV xs lo hi).length <= xs.length:=by
 unfold cutV
 rw [List.length_take,List.length_drop]
 omega
def rSlT (K:PySem.W.Frag):V->Option Int->Option Int->Hp->VK->Prop:=fun x lo hi H Q=>∃ a xs,x=.ref a/\SqT K H a xs/\
 ¬ (HT.sIx xs.length 0 lo=0/\HT.sIx xs.length xs.length hi=xs.length)/\∀ p,H p=none->Q (.ref p) (upd H p (.tup (cutV xs lo hi)))
theorem qlK:SlR X (rSlT X.K):=by
 intro pins s σ H x v vl vu lo hi sl Q I rx hs pl pu h
 obtain ⟨a,xs,rfl,hx,hw,q⟩:=h
 cases rx
 obtain ⟨its,r,ht,hz⟩:=I.tuple hx
 have hlen:its.toArray.size=xs.length:=by rw [List.size_toArray];exact r.length.symm
 refine ⟨"tuple", _,PyProof.Rows.slot_tuple_getitem.lookup,ht.typeIs,?_⟩
 refine HT.yI ht hs pl pu (by rw [hlen];exact hw) ?_ (by rw [hlen];exact hz)
 rw [hlen]
 refine ⟨.ref s.heap.objs.size,_,I.laid (t':=s.toks) (o:=.tup (cutV xs lo hi)) (fun b ob q=>Heap.get?_push_of_some _ q) (Nat.le_refl _) ?_,rfl,q _ (I.hok.fresh (Nat.le_refl _))⟩
 exact ⟨Nat.le_trans (wk xs lo hi) hz,_,(r.drop (HT.sIx xs.length 0 lo)).take (HT.sIx xs.length xs.length hi - HT.sIx xs.length 0 lo),IsTup.new _ _⟩
def qjW (K:PySem.W.Frag):R2:=fun x y H Q=>∃ a b xs ys,x=.ref a/\y=.ref b/\SqT K H a xs/\SqT K H b ys/\xs≠[]/\xs.length + ys.length <= sizeLine/\
 (ys=[]->Q (.ref a) H)/\(ys≠[]->∀ p,H p=none->Q (.ref p) (upd H p (.tup (xs ++ ys))))
theorem Vals.nil_iff {xs:List V} {us:List Value} (r:Vals xs us):us=[]↔xs=[]:=by
 cases r with
 | nil=>simp
 | cons _ _=>simp
theorem qiX:OpR X (binaryOp .Add) (qjW X.K):=by
 intro pins s σ H x y v u Q I rx ry h
 obtain ⟨a,b,xs,ys,rfl,rfl,ha,hb,hx,hz,q1,q2⟩:=h
 cases rx
 cases ry
 obtain ⟨its,r1,p1,_⟩:=I.tuple ha
 obtain ⟨its2,r2,p2,_⟩:=I.tuple hb
 refine HT.qh0 p1 p2 (fun z=>hx (r1.nil_iff.mp z)) (fun z=>⟨.ref a,H,I,rfl,q1 (r2.nil_iff.mp z)⟩) (fun z=>?_) (by rw [← r1.length,← r2.length];exact hz)
 refine ⟨.ref s.heap.objs.size,_,I.laid (t':=s.toks) (o:=.tup (xs ++ ys)) (fun b ob q=>Heap.get?_push_of_some _ q) (Nat.le_refl _) ?_,rfl,q2 (fun w=>z (r2.nil_iff.mpr w)) _ (I.hok.fresh (Nat.le_refl _))⟩
 exact ⟨by rw [List.length_append];exact hz,_,r1.append r2,IsTup.new _ _⟩
end
end L2
namespace L2
open PySem PySem.Spec PyProof.Rows
def ixN (n:Nat) (i:Int):Option Nat:=if 0 <= i then (if i < n then some i.toNat else none) else if -(n:Int) <= i then some (i + n).toNat else none
def atI {α:Type} (xs:List α) (i:Int):Option α:=(ixN xs.length i).bind fun j=>xs[j]?
theorem qd9 {n:Nat} {i:Int} {j:Nat} (h:ixN n i=some j):seqIndex? i n=some j/\j < n/\-(n:Int) <= i/\i < n:=by
 unfold ixN at h
 by_cases h0:0 <= i
 ·rw [if_pos h0] at h
  by_cases h1:i < n
  ·rw [if_pos h1] at h
   have e:i.toNat=j:=Option.some.inj h
   exact ⟨by rw [seqIndex_of h0 h1,e],by omega,by omega,h1⟩
  ·rw [if_neg h1] at h;cases h
 ·rw [if_neg h0] at h
  by_cases h1:-(n:Int) <= i
  ·rw [if_pos h1] at h
   have e:(i + n).toNat=j:=Option.some.inj h
   exact ⟨by rw [seqIndex_neg (by omega) h1,e],by omega,h1,by omega⟩
  ·rw [if_neg h1] at h;cases h
theorem qdP {α:Type} {xs:List α} {i:Int} {v:α} (h:atI xs i=some v):∃ j,seqIndex? i xs.length=some j/\xs[j]?=some v/\j < xs.length/\-(xs.length:Int) <= i/\i < xs.length:=by
 unfold atI at h
 cases e:ixN xs.length i with
 | none=>rw [e] at h;cases h
 | some j =>
  rw [e] at h
  obtain ⟨h1,h2,h3,h4⟩:=qd9 e
  exact ⟨j,h1,h,h2,h3,h4⟩
theorem qdQ {α:Type} {xs:List α} {j:Nat} {v:α} (h:xs[j]?=some v):atI xs (j:Int)=some v:=by
 have hj:j < xs.length:=(List.getElem?_eq_some_iff.mp h).1
 have e:ixN xs.length (j:Int)=some j:=by
  unfold ixN
  rw [if_pos (by omega),if_pos (by omega)];simp
 unfold atI;rw [e];exact h
theorem qfK {α:Type} (xs:List α) (v:α):atI (xs ++ [v]) (-1)=some v:=by
 have hl:(xs ++ [v]).length=xs.length + 1:=by simp
 have e:ixN (xs ++ [v]).length (-1)=some xs.length:=by
  unfold ixN
  rw [hl,if_neg (by decide),if_pos (by omega)]
  congr 1
  omega
 unfold atI
 rw [e]
 show (xs ++ [v])[xs.length]?=some v
 simp
def qbh (b:Expr):Prop:=∀ o i,subscripted b false o i=operate [o,i] (getItem o i)
def IxR (X:Cx) (r:R2):Prop :=
 ∀ (value slice:Expr) (pins:List (Addr×Obj)) (s:Shared) (σ:St) (H:Hp) (x y:V) (v u:Value) (Q:VK),Inv X pins σ H s->RelV x v->RelV y u->r x y H Q->
  subscripted slice false v u=operate [v,u] (getItem v u)->wpAny (model X.prog X.w) X.A (subscriptTail value slice v u) (EP X pins σ Q) X.xe s
def MtR (X:Cx) (id:String) (r:V->List V->Hp->VK->Prop):Prop :=
 ∀ (pins:List (Addr×Obj)) (s:Shared) (σ:St) (H:Hp) (x:V) (xs:List V) (v:Value) (us:List Value) (Q:VK),Inv X pins σ H s->RelV x v->Vals xs us->r x xs H Q->
  wpAny (model X.prog X.w) X.A (call (.builtin id) (v :: us)) (EP X pins σ Q) X.xe s
section
variable {X:Cx} {a b:Expr} {ta tb:TE} {pos:Pos}
theorem IxR.or {r r':R2} (h:IxR X r) (h':IxR X r'):IxR X (fun x y H Q=>r x y H Q\/r' x y H Q):=by
 intro value slice pins s σ H x y v u Q I rx ry q hs
 rcases q with q | q
 ·exact h value slice pins s σ H x y v u Q I rx ry q hs
 ·exact h' value slice pins s σ H x y v u Q I rx ry q hs
theorem MtR.or {id:String} {r r':V->List V->Hp->VK->Prop} (h:MtR X id r) (h':MtR X id r'):MtR X id (fun x xs H Q=>r x xs H Q\/r' x xs H Q):=by
 intro pins s σ H x xs v us Q I rx rs q
 rcases q with q | q
 ·exact h pins s σ H x xs v us Q I rx rs q
 ·exact h' pins s σ H x xs v us Q I rx rs q
theorem qjU {r:R2} (hr:IxR X r) (ha:PE X a ta) (hb:PE X b tb) (hs:qbh b):PE X (.Subscript a b pos) (tOp r ta tb):=by
 intro pins s σ H Q I h
 exact Subscript_ (binT ha hb I h fun v u s2 x y H2 I2 rx ry q=>hr a b pins s2 σ H2 x y v u Q I2 rx ry q (hs _ _))
def rIxL (K:PySem.W.Frag):R2:=fun x y H Q=>∃ p xs i v,x=.ref p/\y=.int i/\SqL K H p xs/\atI xs i=some v/\Q v H
def rIxT (K:PySem.W.Frag):R2:=fun x y H Q=>∃ p xs i v,x=.ref p/\y=.int i/\SqT K H p xs/\atI xs i=some v/\Q v H
theorem qea:IxR X (rIxL X.K):=by
 intro value slice pins s σ H x y v u Q I rx ry h hs
 obtain ⟨p,xs,i,z,rfl,rfl,hq,he,q⟩:=h
 cases rx
 obtain ⟨t,rfl⟩:=ry
 obtain ⟨its,r,pl,hz⟩:=I.list hq
 obtain ⟨j,h1,h2,h3,h4,h5⟩:=qdP he
 obtain ⟨w,ew,rw'⟩:=r.get h2
 have hl:=r.length
 have hn:=qbI
 have fin:EP X pins σ Q w s:=⟨z,H,I,rw',q⟩
 by_cases h0:0 <= i
 ·have hj:i.toNat=j:=by
   rw [seqIndex_of h0 h5] at h1
   exact Option.some.inj h1
  exact item_listR pl.isList h0 (by omega) (by rw [hj];simpa using ew) fin hs
 ·have hj:(i + (its.toArray.size:Int)).toNat=j:=by
   rw [seqIndex_neg (by omega) h4] at h1
   rw [List.size_toArray,← hl]
   exact Option.some.inj h1
  exact subscriptTail_builtinR (x:=w) pl.isList.typeIs slot_list_getitem.lookup
   (wpAny_getItem_list_neg (Q:=fun r s'=>r=w/\EP X pins σ Q r s') pl.isList (by omega) (by rw [List.size_toArray]<;>omega) (by omega) (by rw [hj];simpa using ew) ⟨rfl,fin⟩) hs
theorem qgj:IxR X (rIxT X.K):=by
 intro value slice pins s σ H x y v u Q I rx ry h hs
 obtain ⟨p,xs,i,z,rfl,rfl,hq,he,q⟩:=h
 cases rx
 obtain ⟨t,rfl⟩:=ry
 obtain ⟨its,r,pl,hz⟩:=I.tuple hq
 obtain ⟨j,h1,h2,h3,h4,h5⟩:=qdP he
 obtain ⟨w,ew,rw'⟩:=r.get h2
 have hl:=r.length
 have hn:=qbI
 have fin:EP X pins σ Q w s:=⟨z,H,I,rw',q⟩
 exact subscriptTail_builtinR (x:=w) pl.typeIs slot_tuple_getitem.lookup
  (getItem_tuple (j:=j) (Q:=fun r s'=>r=w/\EP X pins σ Q r s') pl (by omega) (by omega) (by rw [List.size_toArray,← hl];exact h1) (by simpa using ew) ⟨rfl,fin⟩) hs
theorem qdo (its:List Value) (n j:Nat) (u:Value):Obj.mapSeq (·.setIfInBounds j u) { cls:=.type "list", data:=.seq its.toArray n }={ cls:=.type "list", data:=.seq (its.set j u).toArray n }:=by
 simp [Obj.mapSeq]
theorem Inv.lst {pins:List (Addr×Obj)} {σ:St} {H:Hp} {s:Shared} {p:Addr} {xs:List V} (I:Inv X pins σ H s) (h:H p=some (.lst xs)) :
  ∃ (its:List Value) (n:Nat),Vals xs its/\s.heap.get? p=some { cls:=.type "list", data:=.seq its.toArray n }/\xs.length <= sizeLine:=by
 obtain ⟨z,its,n,r,e⟩:=I.hok p _ h
 exact ⟨its,n,r,e,z⟩
theorem Inv.lstUpd {pins:List (Addr×Obj)} {σ:St} {H:Hp} {s:Shared} {p:Addr} {xs ys:List V} {its its':List Value} {n n':Nat} {f:Obj->Obj} (I:Inv X pins σ H s) (h:H p=some (.lst xs))
  (ho:s.heap.get? p=some { cls:=.type "list", data:=.seq its.toArray n }) (hf:f { cls:=.type "list", data:=.seq its.toArray n }={ cls:=.type "list", data:=.seq its'.toArray n' }) (r:Vals ys its') (hz:ys.length <= sizeLine) (t:Nat) :
  Inv X pins σ (upd H p (.lst ys)) { s with heap:=s.heap.update p f,toks:=t }:=by
 have e:(s.heap.update p f).get? p=some { cls:=.type "list", data:=.seq its'.toArray n' }:=by
  rw [Heap.get?_update_self f ho (by rw [hf]<;>rfl),hf]
 refine I.write (x:=p) (e:=p) (by rw [h];trivial) (.inl rfl) (fun b u hb q=>(Heap.get?_update_other _ _ (Ne.symm hb)).trans q) ⟨_,e⟩ ?_
 exact ⟨hz,its',n',r,e⟩
def rSetL:V->V->V->Hp->(Hp->Prop)->Prop:=fun o i v H Q=>∃ p xs k j,o=.ref p/\i=.int k/\H p=some (.lst xs)/\ixN xs.length k=some j/\Q (upd H p (.lst (xs.set j v)))
theorem set_list:PSet X rSetL:=by
 intro pins s σ H o i v ov iv u Q I ro ri rv h
 obtain ⟨p,xs,k,j,rfl,rfl,hp,hj,q⟩:=h
 cases ro
 obtain ⟨t,rfl⟩:=ri
 obtain ⟨its,n,r,ho,hz⟩:=I.lst hp
 obtain ⟨h1,h2,h3,h4⟩:=qd9 hj
 have hl:=r.length
 have hn:=qbI
 have I':Inv X pins σ (upd H p (.lst (xs.set j v))) { s with heap:=s.heap.update p (Obj.mapSeq (·.setIfInBounds j u)) } :=
  I.lstUpd hp ho (qdo its n j u) (r.set rv j) (by rw [List.length_set];exact hz) s.toks
 by_cases h0:0 <= k
 ·have hk:k.toNat=j:=by
   rw [seqIndex_of h0 h4] at h1
   exact Option.some.inj h1
  exact PySem.W.ki_setAt ho h0 (by omega) (by rw [List.size_toArray,← hl];exact h4) (by rw [hk];exact ⟨_,I',q⟩)
 ·have hk:(k + (its.toArray.size:Int)).toNat=j:=by
   rw [seqIndex_neg (by omega) h3] at h1
   rw [List.size_toArray,← hl]
   exact Option.some.inj h1
  exact PySem.W.ki_setBack ho (by omega) (by rw [List.size_toArray,← hl];exact h3) (by omega) (by rw [hk];exact ⟨_,I',q⟩)
theorem qb0 (lo hi:Option Int) (n:Nat):(sliceBounds lo hi none n).1=((HT.sIx n 0 lo:Nat):Int)/\(sliceBounds lo hi none n).2.1=((HT.sIx n n hi:Nat):Int)/\(sliceBounds lo hi none n).2.2=1:=by
 refine ⟨?_,?_,rfl⟩
 ·cases lo with
  | none=>simp [sliceBounds,HT.sIx]
  | some i =>
   simp only [sliceBounds,HT.sIx,Option.getD_none,show (1:Int) > 0 by decide,if_true]
   by_cases h:i < 0
   ·simp only [h,if_true]<;>omega
   ·simp only [h,if_false]<;>omega
 ·cases hi with
  | none=>simp [sliceBounds,HT.sIx]
  | some i =>
   simp only [sliceBounds,HT.sIx,Option.getD_none,show (1:Int) > 0 by decide,if_true]
   by_cases h:i < 0
   ·simp only [h,if_true]<;>omega
   ·simp only [h,if_false]<;>omega
theorem qaA (its:List Value) (lo hi:Option Int):slicePick its.toArray lo hi none=((its.drop (HT.sIx its.length 0 lo)).take (HT.sIx its.length its.length hi - HT.sIx its.length 0 lo)).toArray:=by
 obtain ⟨h1,h2,h3⟩:=qb0 lo hi its.toArray.size
 unfold slicePick
 rw [h1,h2,h3]
 simp only [sliceRange_one,pick_run,List.size_toArray]<;>rfl
def rSlL (K:PySem.W.Frag):V->Option Int->Option Int->Hp->VK->Prop:=fun x lo hi H Q=>∃ a xs,x=.ref a/\SqL K H a xs/\∀ p,H p=none->Q (.ref p) (upd H p (.lst (cutV xs lo hi)))
theorem qjy:SlR X (rSlL X.K):=by
 intro pins s σ H x v vl vu lo hi sl Q I rx hs pl pu h
 obtain ⟨a,xs,rfl,hx,q⟩:=h
 cases rx
 obtain ⟨its,r,ht,hz⟩:=I.list hx
 have hlen:=r.length
 refine ⟨"list", _,slot_list_getitem.lookup,ht.isList.typeIs,?_⟩
 refine wpAny_getItem_list_slice ht.isList hs pl pu .none (by simp) ?_ (by rw [List.size_toArray]<;>omega)
 rw [qaA,← hlen]
 refine ⟨.ref s.heap.objs.size,_,I.laid (t':=s.toks) (o:=.lst (cutV xs lo hi)) (fun b ob q=>Heap.get?_push_of_some _ q) (Nat.le_refl _) ?_,rfl,q _ (I.hok.fresh (Nat.le_refl _))⟩
 exact ⟨Nat.le_trans (wk xs lo hi) hz,_,0,(r.drop (HT.sIx xs.length 0 lo)).take (HT.sIx xs.length xs.length hi - HT.sIx xs.length 0 lo),Heap.get?_push_size _ rfl⟩
theorem qbk:Zx X (.builtin "len") (fun xs H Q=>∃ p ys,xs=[.ref p]/\(SqL X.K H p ys\/SqT X.K H p ys)/\Q (.int ys.length) H):=by
 intro pins s σ H xs us Q I r h
 obtain ⟨p,ys,rfl,hq,q⟩:=h
 obtain ⟨u,rfl,rx⟩:=vals1 r
 cases rx
 have hn:=qbI
 rcases hq with hq | hq
 ·obtain ⟨its,r',pl,hz⟩:=I.list hq
  have hlen:=r'.length
  exact Calls.call_len_list pl.isList (by simp only [List.size_toArray]<;>omega) ⟨.int ys.length,H,I.tok _,⟨s.toks + 1,by rw [List.size_toArray,hlen]⟩,q⟩
 ·obtain ⟨its,r',pl,hz⟩:=I.tuple hq
  have hlen:=r'.length
  exact len_tuple pl (by simp only [List.size_toArray]<;>omega) ⟨.int ys.length,H,I.tok _,⟨s.toks + 1,by rw [List.size_toArray,hlen]⟩,q⟩
theorem Zx.or {f:Value} {r r':List V->Hp->VK->Prop} (h:Zx X f r) (h':Zx X f r'):Zx X f (fun xs H Q=>r xs H Q\/r' xs H Q):=by
 intro pins s σ H xs us Q I rs q
 rcases q with q | q
 ·exact h pins s σ H xs us Q I rs q
 ·exact h' pins s σ H xs us Q I rs q
theorem yx:Zx X (.type "list") (fun xs H Q=>∃ p ys,xs=[.ref p]/\(SqL X.K H p ys\/SqT X.K H p ys)/\∀ l,H l=none->Q (.ref l) (upd H l (.lst ys))):=by
 intro pins s σ H xs us Q I r h
 obtain ⟨p,ys,rfl,hq,q⟩:=h
 obtain ⟨u,rfl,rx⟩:=vals1 r
 cases rx
 have fin:∀ (its:List Value),Vals ys its->ys.length <= sizeLine->∀ (h':Heap) (c':Nat),(∀ b o',s.heap.get? b=some o'->h'.get? b=some o')->
   h'.get? s.heap.objs.size=some { cls:=.type "list", dict:=none,data:=.seq its.toArray c',slots:=#[] }->EP X pins σ Q (.ref s.heap.objs.size) { s with heap:=h' }:=fun its r' hz h' c' kp e =>
  ⟨.ref s.heap.objs.size,_,I.laid (t':=s.toks) kp (Nat.le_refl _) (show Qx X.prog X.w _ h' _ (.lst ys) from ⟨hz,its,c',r',e⟩),rfl,q _ (I.hok.fresh (Nat.le_refl _))⟩
 rcases hq with hq | hq
 ·obtain ⟨its,r',pl,hz⟩:=I.list hq
  have hlen:=r'.length
  obtain ⟨o,ho,hc,n,hd⟩:=pl.isList
  exact call_list_seq p (.inl rfl) ho hc hd (fun h' c' kp e=>fin its r' hz h' c' kp e) (by simp only [List.size_toArray]<;>omega)
 ·obtain ⟨its,r',pl,hz⟩:=I.tuple hq
  have hlen:=r'.length
  obtain ⟨o,ho,hc,n,hd⟩:=pl
  exact call_list_seq p (.inr rfl) ho hc hd (fun h' c' kp e=>fin its r' hz h' c' kp e) (by simp only [List.size_toArray]<;>omega)
theorem qar:Zx X (.type "tuple") (fun xs H Q=>∃ p ys,xs=[.ref p]/\((SqL X.K H p ys/\∀ l,H l=none->Q (.ref l) (upd H l (.tup ys)))\/(SqT X.K H p ys/\Q (.ref p) H))):=by
 intro pins s σ H xs us Q I r h
 obtain ⟨p,ys,rfl,h⟩:=h
 obtain ⟨u,rfl,rx⟩:=vals1 r
 cases rx
 rcases h with ⟨hq,q⟩ | ⟨hq,q⟩
 ·obtain ⟨its,r',pl,hz⟩:=I.list hq
  have hlen:=r'.length
  refine call_tuple_list pl.isList (fun h' kp=>?_) (by simp only [List.size_toArray]<;>omega)
  have I1:Inv X pins σ H { s with heap:=h' }:=I.kept (t':=s.toks) kp
  have I2:Inv X pins σ (upd H h'.objs.size (.tup ys)) { s with heap:=h'.push { cls:=.type "tuple", data:=.seq its.toArray } } :=
   I1.laid (t':=s.toks) (fun b o e=>Heap.get?_push_of_some _ e) (Nat.le_refl _) (show Qx X.prog X.w _ _ _ (.tup ys) from ⟨hz,its,r',IsTup.new _ _⟩)
  exact ⟨.ref h'.objs.size,_,I2,rfl,q _ (I1.hok.fresh (Nat.le_refl _))⟩
 ·obtain ⟨its,r',pl,hz⟩:=I.tuple hq
  exact call_tuple_same pl ⟨.ref p,H,I,rfl,q⟩
def tyV (K:PySem.W.Frag) (T:String) (x:V) (H:Hp):Prop:=match x with
 | .str _=>T = "str"
 | .int _=>T = "int"
 | .ref p=>(T = "list"/\∃ xs,SqL K H p xs)\/(T = "tuple"/\∃ o,K.lookup p=some o/\o.cls=.type "tuple"/\o.dict=none)\/
   (T = "dict"/\((∃ kvs,H p=some (.dK kvs))\/∃ kvs,H p=some (.dT kvs)))\/(T = "set"/\∃ S n,H p=some (.set S n))
 | _=>False
theorem qlS {pins:List (Addr×Obj)} {σ:St} {H:Hp} {s:Shared} {T:String} {x:V} {v:Value} (I:Inv X pins σ H s) (r:RelV x v) (ty:tyV X.K T x H) :
  s.TypeIs v T/\∀ a,v=.ref a->∃ ob,s.heap.get? a=some ob/\ob.dict=none:=by
 cases x with
 | str z =>
  obtain ⟨t,rfl⟩:=r
  cases (show T = "str" from ty)
  exact ⟨typeIs_str s z t,fun _ e=>nomatch e⟩
 | int i =>
  obtain ⟨t,rfl⟩:=r
  cases (show T = "int" from ty)
  exact ⟨typeIs_int s i t,fun _ e=>nomatch e⟩
 | ref p =>
  cases r
  rcases ty with ⟨rfl,xs,hq⟩ | ⟨rfl,o,hk,hc,hd⟩ | ⟨rfl,hk⟩ | ⟨rfl,S,n,hk⟩
  ·obtain ⟨its,_,pl,_⟩:=I.list hq
   refine ⟨pl.isList.typeIs,fun a e=>?_⟩
   cases e
   obtain ⟨o,n,e,c,hd,_⟩:=pl
   exact ⟨o,e,hd⟩
  ·refine ⟨⟨o,I.kIn p o hk,hc⟩,fun a e=>?_⟩
   cases e
   exact ⟨o,I.kIn _ o hk,hd⟩
  ·have z:∃ o,s.heap.get? p=some o/\o.ExactDict:=by
    rcases hk with ⟨kvs,hk⟩ | ⟨kvs,hk⟩
    ·obtain ⟨_,_,_,_,o,_,_,e,ex,_⟩:=I.hok p _ hk
     exact ⟨o,e,ex⟩
    ·obtain ⟨_,_,_,_,o,_,_,e,ex,_⟩:=I.hok p _ hk
     exact ⟨o,e,ex⟩
   obtain ⟨o,e,ex⟩:=z
   refine ⟨⟨o,e,ex.1⟩,fun a e2=>?_⟩
   cases e2
   exact ⟨o,e,ex.2.1⟩
  ·obtain ⟨o,_,_,_,e,ex,_⟩:=I.hok p _ hk
   refine ⟨⟨o,e,ex.1⟩,fun a e2=>?_⟩
   cases e2
   exact ⟨o,e,ex.2.1⟩
 | _=>exact False.elim ty
def tBM (K:PySem.W.Frag) (T:String) (r:V->List V->Hp->VK->Prop) (to:TE) (t:TA):TE:=fun σ H Q=>to σ H fun x H1=>tyV K T x H1/\t σ H1 fun xs H2=>r x xs H2 Q
variable {o e:Expr} {es:List Expr} {to:TE} {t:TA} {name:Str} {apos cpos:Pos} {T id:String} {r:V->List V->Hp->VK->Prop}
theorem qha (pa:PlainAttrs T) (slot:Slot T name id) (hty:typeOf (.builtin id)=pure (.type "method_descriptor")) (hm:MtR X id r) (ho:PE X o to) (ha:PA X (e :: es) t)
  (hbase:attributeBase o name X.env (eval o X.env)=eval o X.env:=by rfl)
  (hfew:((backTo cpos (starEach (e :: es) X.env)).all (fun x=>!x.1) && (backToKw cpos (keywordEach [] X.env)).all (fun x=>x.1.isSome)
   && decide ((e :: es).length + ([]:List Keyword).length + (if ([]:List Keyword).isEmpty then 0 else 1) < 30))=true:=by rfl)
  (hline:(apos.endLine == cpos.line)=true:=by rfl) (hs:starEach (e :: es) X.env=(false,eval e X.env) :: starEach es X.env:=by rfl) (hplain:(backTo cpos (starEach es X.env)).any (·.1)=false:=by rfl) :
  PE X (.Call (.Attribute o name apos) (e :: es) [] cpos) (tBM X.K T r to t):=by
 intro pins s σ H Q I h
 refine wpAny_Call_method_late hbase hfew hline rfl (thn (ho pins s σ H _ I h) fun v s1 ⟨x,H1,I1,r1,ty,q1⟩=>?_)
 obtain ⟨h1,h2⟩:=qlS I1 r1 ty
 refine ⟨T,id,pa,slot,hty,h1,h2,?_⟩
 have hA:=ha cpos pins s1 σ H1 _ I1 q1
 rw [hs] at hA ⊢
 refine Calls.callWith_builtin (by show (false || (backTo cpos (starEach es X.env)).any (·.1))=false;rw [hplain]<;>rfl) (Calls.evalArgs_plain ?_)
 exact thn hA fun us s2 ⟨vs,H2,I2,r2,q2⟩=>hm pins s2 σ H2 x vs v us Q I2 r1 r2 q2
end
end L2
namespace L2
open PySem PySem.Spec PyProof.Rows
def MtM (X:Cx) (id:String) (r:V->List V->Hp->VK->Prop):Prop :=
 ∀ (pins:List (Addr×Obj)) (s:Shared) (σ:St) (H:Hp) (x:V) (xs:List V) (v:Value) (us:List Value) (Q:VK),Inv X pins σ H s->RelV x v->Vals xs us->r x xs H Q->
  wpAny (model X.prog X.w) X.A (call (.builtin id) (v :: us)) (EP X pins σ Q) X.xe s
theorem Vals.one:∀ {x:V} {us:List Value},Vals [x] us->∃ u,us=[u]/\RelV x u
 | _,_,.cons r .nil=>⟨_,rfl,r⟩
theorem Vals.two:∀ {x y:V} {us:List Value},Vals [x,y] us->∃ u v,us=[u,v]/\RelV x u/\RelV y v
 | _,_,_,.cons r (.cons q .nil)=>⟨_,_,rfl,r,q⟩
theorem Vals.zero:∀ {us:List Value},Vals [] us->us=[]
 | _,.nil=>rfl
theorem Vals.dropLast {xs:List V} {us:List Value} (h:Vals xs us):Vals xs.dropLast us.dropLast:=by
 induction h with
 | nil=>exact .nil
 | cons r t ih =>
  cases t with
  | nil=>exact .nil
  | cons q t'=>exact .cons r ih
theorem Vals.eraseIdx:∀ {xs:List V} {us:List Value} (i:Nat),Vals xs us->Vals (xs.eraseIdx i) (us.eraseIdx i)
 | _,_,_,.nil=>.nil
 | _,_,0,.cons _ t=>t
 | _,_,i + 1,.cons r t=>.cons r (Vals.eraseIdx i t)
section
variable {X:Cx} {pins:List (Addr×Obj)} {σ:St} {H:Hp} {s:Shared} {l b:Addr} {xs ys zs:List V}
theorem Inv.lset {its its':List Value} {n:Nat} {f:Array Value->Array Value} {t':Nat} (I:Inv X pins σ H s) (hH:H l=some (.lst xs))
  (e:s.heap.get? l=some { cls:=.type "list", data:=.seq its.toArray n }) (hf:f its.toArray=its'.toArray) (hv:Vals ys its') (hz:ys.length <= sizeLine) :
  Inv X pins σ (upd H l (.lst ys)) { s with heap:=s.heap.update l (Obj.mapSeq f),toks:=t' }:=by
 have q:=PySem.IsL.update e f
 rw [hf] at q
 refine I.write (x:=l) (e:=l) (by rw [hH];exact trivial) (.inl rfl) (fun b' u hb hu=>(Heap.get?_update_other s.heap (Obj.mapSeq f) (Ne.symm hb)).trans hu) ⟨_,q⟩ ?_
 exact ⟨hz,its',_,hv,q⟩
theorem Inv.lnew {its:List Value} {t':Nat} (I:Inv X pins σ H s) (hv:Vals ys its) (hz:ys.length <= sizeLine) :
  Inv X pins σ (upd H s.heap.objs.size (.lst ys)) { s with heap:=s.heap.push { cls:=.type "list", data:=.seq its.toArray },toks:=t' } :=
 I.laid (fun _ _ q=>Heap.get?_push_of_some _ q) (Nat.le_refl _) ⟨hz,its,0,hv,Heap.get?_push_size _ rfl⟩
theorem Inv.fresh (I:Inv X pins σ H s):H s.heap.objs.size=none:=I.hok.fresh (Nat.le_refl _)
theorem Inv.lstM (I:Inv X pins σ H s) (hH:H l=some (.lst xs)):xs.length <= sizeLine/\∃ (its:List Value) (n:Nat),Vals xs its/\xs.length=its.length/\s.heap.get? l=some { cls:=.type "list", data:=.seq its.toArray n }:=by
 obtain ⟨z,its,n,r,e⟩:=I.hok l _ hH
 exact ⟨z,its,n,r,r.length,e⟩
end
section
variable {X:Cx}
def qjo:V->List V->Hp->VK->Prop:=fun x vs H Q=>∃ l xs y,x=.ref l/\vs=[y]/\H l=some (.lst xs)/\xs.length < sizeLine/\Q .non (upd H l (.lst (xs ++ [y])))
theorem qa1:MtM X "list.append" qjo:=by
 intro pins s σ H x vs v us Q I rx rv h
 obtain ⟨l,xs,y,rfl,rfl,hH,hz,q⟩:=h
 cases rx
 obtain ⟨u,rfl,ru⟩:=rv.one
 obtain ⟨z,its,n,r,hl,e⟩:=I.lstM hH
 refine call_meets F.slot_list_append ⟨_,e,rfl⟩ F.entry_list_append (F.args_list_append_2 _ _) (PySem.list_append l its.toArray n u (by rw [List.size_toArray];omega)) ⟨e,?_⟩
 refine ⟨.non,_,I.lset (its':=its ++ [u]) hH e (by simp) (r.append (.cons ru .nil)) ?_,rfl,q⟩
 rw [List.length_append,List.length_singleton]
 omega
end
section
variable {prog:Program} {w:World} {A:Around} {E:Value->Shared->Prop} {s:Shared}
set_option maxRecDepth 100000 in
end
section
variable {X:Cx}
end
end L2
namespace Att
open PySem PySem.W PySem.Calls PyProof.Rows
theorem wH {P:Params} {h:Heap}:∀ (ns:List Int) (vs:List Value),WellAll P h vs (ns.map WData.int)->IntsAre vs ns:=by
 intro ns
 induction ns with
 | nil =>
  intro vs w
  rw [List.map_nil] at w
  cases w
  exact .nil
 | cons n ns ih =>
  intro vs w
  rw [List.map_cons] at w
  cases w with
  | cons a b =>
   cases a
   exact .cons _ _ (ih _ b)
theorem qfn {l:OpenLaw} {n:Nat} (hn:l.most=some n) {P:Params} {h:Heap} {args:List WData} {vals:List Value}
  (hpre:l.row.toRowW.claim.pre args=true) (hwl:WellAll P h vals args) :
  ∃ a vs ns,vals=[Value.ref a]/\args=[WData.list (ns.map WData.int)]/\h.get? a=some { cls:=.type "list", data:=.seq vs.toArray }/\IntsAre vs ns/\ns.length <= n:=by
 have hsh:WShape.hasAll [] args [.list .int]=true:=(pre_splitW hpre).1
 have hc:l.pre.holds [] { args:=args }=true:=(pre_splitW hpre).2
 obtain ⟨d,r,rfl,h1,h2⟩:=hasAllW_cons hsh
 obtain rfl:=hasAllW_nil h2
 obtain ⟨xs,rfl,h3⟩:=hasW_list h1
 obtain ⟨ns,rfl⟩:=items_int h3
 have hlen:ns.length <= n:=by
  unfold OpenLaw.pre at hc
  have h4:(WTm.not (.lt (.lit (.int (n:Int))) (.len (.arg 0)))).holds [] { args:=[.list (ns.map .int)] }=true:=by
   have h4:=(holds_andW hc).1
   rw [hn] at h4
   exact h4
  have h5:=condW_of h4 (w_not (w_lt w_lit (w_len_list (w_arg rfl))))
  rw [List.length_map] at h5
  refine Nat.le_of_not_lt fun q=>?_
  have q':(n:Int) < ((ns.length:Nat):Int):=by omega
  first
   | (rw [decide_eq_true q'] at h5;exact absurd h5 (by decide))
   | (simp at h5;omega)
 cases hwl with
 | cons w1 w2 =>
  cases w2
  cases w1 with
  | list ho hall=>exact ⟨_,_,ns,rfl,rfl,ho,wH ns _ hall,hlen⟩
theorem qfi (l:OpenLaw) (args:List WData):l.row.toRowW.claim.post args (.bool true) args=true :=
 postW_of (r:=l.row.toRowW) (X:=(true == true))
  (show WShape.has [] (.bool true) .bool=true by first | rfl | decide | simp [WShape.has,WShape.arms,WShape.armsAll])
  (show (WTm.eq .res (.lit (.bool true))).value [] { args:=args,res:=some (.bool true),after:=args }=some (.bool (true == true)) from w_eq_bool (w_res rfl) w_lit) rfl
section
variable {prog:Program} {w:World} {A:Around} {E:Value->Shared->Prop} {s:Shared} {K:Frag}
def ledger (h:Heap) (L d:Addr):List (Addr×Obj):=(List.range h.objs.size).filterMap fun a=>if a=L\/a=d then none else (h.get? a).map fun o=>(a,o)
end
end Att
namespace L2
open PySem PySem.Spec PyProof.Rows
theorem qbf:∀ {vs:List Value} {ns:List Int},IntsAre vs ns->Vals (ns.map V.int) vs
 | _,_,.nil=>.nil
 | _,_,.cons n t h=>.cons ⟨t,rfl⟩ (qbf h)
def Only (H:Hp):Prop:=∀ b,H b=none\/∃ o xs,H b=some (.frz o (.lst xs))
theorem qgq {P:Program} {w:World} {K:PySem.W.Frag} {mg mb:Str->Option Value} {CX:CXT} {k:Nat} {fa a:Addr} {fd:FuncData} {x:Str} {sp:Sp} {s₁:Shared} {vs:List Value} {ns:List Int}
  (KX:K.In s₁.heap) (hns:s₁.heap.Ns mainGlobals mg) (hb:s₁.heap.Ns builtinsNs mb) (hbb:∀ x:Str,x ≠ "__name__"->mb x=bootBuiltins x) (hlim:s₁.heap.NoLimit) (hg:s₁.gens=#[])
  (ha:s₁.heap.get? a=some { cls:=.type "list", data:=.seq vs.toArray }) (hi:IntsAre vs ns) (hl:ns.length <= sizeLine) (hr:Room k callerA)
  (F:∀ base:Heap,K.In base->base.Ns mainGlobals mg->FnOk P w K mg base CX k fa fd [x] sp) (hbind:∀ (s:Shared) (u:Value),BindsTo s fd ⟨[u],[]⟩ [(x,u)])
  (hsp:∀ H:Hp,Only H->SqL K H a (ns.map V.int)->sp [.ref a] H (fun v _=>v=.bl true) fun _ _ _=>False)
  (hCX:∀ H e s',CX [] H s₁ (fun _ _ _=>False) e s'->False) :
  codeAny (model P w) callerA (.call (.ref fa) ⟨[.ref a],[]⟩) (fun r s'=>r=.ok (.ret (.bool true))/\OldK s₁.heap s'.heap/\s'.os=s₁.os/\AllBare s'.gens) s₁:=by
 have rv:=qbf hi
 have lenV:=hi.length
 have core:∀ H:Hp,Only H->SqL K H a (ns.map V.int)->HOk P w H s₁.heap->(∀ b,H b≠none->b=a)->(H a≠none->K.lookup a=none)->
   codeAny (model P w) callerA (.call (.ref fa) ⟨[.ref a],[]⟩) (fun r s'=>r=.ok (.ret (.bool true))/\OldK s₁.heap s'.heap/\s'.os=s₁.os/\AllBare s'.gens) s₁:=by
  intro H hO hS hok hA hK
  have base_of:∀ {b:Addr} {o:Obj},s₁.heap.get? b=some o->H b=none->(hidT s₁.heap H).get? b=some o:=fun e n=>qgf e n
  have noA:∀ {b:Addr} {o:Obj} {es:Array DictEntry} {ep:Nat},s₁.heap.get? b=some o->o.data=.dict es ep->H b=none:=fun {b o es ep} e d=>by
   cases q:H b with
   | none=>rfl
   | some u =>
    have e':b=a:=hA b (by rw [q];simp)
    subst e'
    rw [ha] at e;cases e
    have d':Data.seq vs.toArray _=Data.dict es ep:=d
    cases d'
  have nsK:∀ {b:Addr} {m:Str->Option Value},s₁.heap.Ns b m->(hidT s₁.heap H).Ns b m:=fun {b m} ⟨o,es,ep,e,d,r⟩=>⟨o,es,ep,base_of e (noA e d),d,r⟩
  have hKb:K.In (hidT s₁.heap H):=fun b o e=>base_of (KX b o e) (by
   cases q:H b with
   | none=>rfl
   | some u =>
    have e':b=a:=hA b (by rw [q];simp)
    subst e'
    rw [hK (by rw [q];simp)] at e;cases e)
  have hM:Mod K mg (hidT s₁.heap H):=⟨hKb,nsK hns,⟨mb,nsK hb,hbb⟩,let ⟨mc,h1,h2⟩:=hlim;⟨mc,nsK h1,h2⟩⟩
  have e0:Env0 P w K mg (hidT s₁.heap H) callerA [] s₁ H:=⟨rfl,hM,fun b o e=>qiU e,Nat.le_of_eq (qeV _ _),trivial,fun b hb=>absurd (show b∈([]:List Addr) from hb) (by simp),hok,.of_eq hg⟩
  refine codeAny_mono ((F _ hKb (nsK hns)).run callerA [] s₁ H ⟨[.ref a],[]⟩ [.ref a] [.ref a] _ _ hr e0 (hbind s₁ (.ref a)) (.cons rfl .nil) (hsp H hO hS)) fun r s' h=>?_
  cases r with
  | error e=>exact (hCX H e s' h).elim
  | ok fl =>
   cases fl with
   | next=>exact False.elim h
   | brk=>exact False.elim h
   | cont=>exact False.elim h
   | ret u =>
    obtain ⟨v,H',os,bare,un,hok',r',q⟩:=h
    have q':v=.bl true:=q
    subst q'
    obtain rfl:u=Value.bool true:=r'
    refine ⟨rfl,OldK.of_keep fun b o e=>?_,os,bare⟩
    cases q:H b with
    | none=>exact un.keep b o e q (by intro z;exact absurd (show b∈([]:List Addr) from z) (by simp)) (by simp)
    | some u =>
     rcases hO b with z | ⟨ob,xs,z⟩
     ·rw [q] at z;cases z
     ·have z2:=un.frzs b ob _ z
      obtain ⟨e1,_⟩:=hok b _ z
      obtain ⟨e2,_⟩:=hok' b _ z2
      rw [e] at e1;cases e1
      exact e2
 cases hk:K.lookup a with
 | some o =>
  have e:=KX a o hk
  rw [ha] at e
  cases e
  refine core (fun _=>none) (fun _=>.inl rfl) (.inr ⟨_,vs.toArray,_,hk,rfl,rfl,rfl,by rw [List.size_toArray,lenV];exact hl,by simpa using rv⟩) (fun b u z=>by have z':(none:Option HO)=some u:=z;cases z') (fun b z=>absurd rfl z) fun z=>absurd rfl z
 | none =>
  refine core (fun b=>if b=a then some (.frz { cls:=.type "list", data:=.seq vs.toArray } (.lst (ns.map V.int))) else none) (fun b=>?_) (.inl (.inr ⟨{ cls:=.type "list", data:=.seq vs.toArray },if_pos rfl⟩)) (fun b u z=>?_) (fun b z=>?_) fun _=>hk
  ·by_cases hb:b=a
   ·exact .inr ⟨_,_,if_pos hb⟩
   ·exact .inl (if_neg hb)
  ·by_cases hb:b=a
   ·have z':=(if_pos hb).symm.trans z
    cases z'
    subst hb
    exact ⟨ha,by rw [List.length_map];exact hl,vs,_,rv,ha⟩
   ·have z':=(if_neg hb).symm.trans z
    cases z'
  ·by_cases hb:b=a
   ·exact hb
   ·exact absurd (if_neg hb) z
end L2
namespace L2
open PySem PySem.Spec PyProof.Rows
end L2
namespace L2
open PySem PySem.Spec PyProof.Rows
def qY (s:Stmt):Arguments:=match s with
 | .FunctionDef _ a _ _ _ _ _ _ _ _=>a
 | _=>{ posonlyargs:=[],args:=[],vararg:=none,kwonlyargs:=[],kw_defaults:=[],kwarg:=none,defaults:=[] }
def qJ (s:Stmt):List Stmt:=match s with
 | .FunctionDef _ _ b _ _ _ _ _ _ _=>b
 | _=>[]
def qb (s:Stmt):Scope:=match s with
 | .FunctionDef _ _ _ _ _ _ sc _ _ _=>sc
 | _=>{ kind:=.function,names:=[],isGenerator:=false,isCoroutine:=false }
abbrev CX0:CXT:=fun _ _ _ _ _ _=>False
abbrev E0:XK:=fun _ _ _=>False
theorem pass0 {X:Cx}:qbg CX0 X E0:=fun _ _ _ _ _ _ _ h=>h.elim
structure Fun (K:PySem.W.Frag) (x qual:Str) (st:Stmt) (f:Addr) (fd:FuncData):Prop where
 ex:∃ (oc:Value) (od:Option Addr) (kV doc pm:Value) (an:Option Addr) (cdv ct:Value) (osl:Array (Option Value)),
  fd=PySem.W.fnOf x qual (qY st) (qJ st) (qb st) .none kV doc pm an cdv ct/\K.lookup f=some ⟨oc,od,.func fd,osl⟩/\PySem.W.codeIn K cdv qual=true
 kp:PySem.W.keepIn K (.ref f)=true
section
variable {P:Program} {w:World} {K:PySem.W.Frag} {mg:Str->Option Value} {base:Heap}
theorem Fun.ok {x qual:Str} {st:Stmt} {f:Addr} {fd:FuncData} {N ps:List Str} {k:Nat} {sp:Sp} (F:Fun K x qual st f fd) (S:FnScope N ps (qb st)) (len:∀ vs H Q E,sp vs H Q E->vs.length=ps.length)
  (hbody:∀ (cdv:Value) (A:Around) (outer:List Env) (s:Shared) (H:Hp) (vs:List V) (Q:VK) (E:XK),Room k (A.deeper (envOfC qual (qb st) s.heap.objs.size f cdv))->sp vs H Q E->
   ∃ t,PSs (cxOf CX0 P w K mg base N qual (qb st) f cdv A outer s H E).nox (qJ st) t/\t { nx:=fun _ H'=>Q .non H',rt:=Q } (start N vs) H):FnOk P w K mg base CX0 (k + 1) f fd ps sp:=by
 obtain ⟨oc,od,kV,doc,pm,an,cdv,ct,osl,rfl,lk,hcd⟩:=F.ex
 refine qgd lk hcd S len fun A outer s H vs Q E hr hsp=>?_
 obtain ⟨t,h,q⟩:=hbody cdv A outer s H vs Q E hr hsp
 exact ⟨t,h.nox,q⟩
theorem Fun.binds {x qual:Str} {st:Stmt} {f:Addr} {fd:FuncData} {ps:List Str} (F:Fun K x qual st f fd)
  (h:∀ (kV doc pm:Value) (an:Option Addr) (cdv ct:Value) (us:List Value),us.length=ps.length->bindArgs (PySem.W.fnOf x qual (qY st) (qJ st) (qb st) .none kV doc pm an cdv ct) ⟨us,[]⟩=pure (ps.zip us)):Binds K fd ps []:=by
 obtain ⟨oc,od,kV,doc,pm,an,cdv,ct,osl,rfl,lk,hcd⟩:=F.ex
 exact .all (h kV doc pm an cdv ct)
theorem zK {x qual:Str} {st:Stmt} {f:Addr} {oc:Value} {od an:Option Addr} {osl:Array (Option Value)} {kV doc pm cdv ct:Value} (l:K.lookup f=some ⟨oc,od,.func (PySem.W.fnOf x qual (qY st) (qJ st) (qb st) .none kV doc pm an cdv ct),osl⟩)
  (c:PySem.W.codeIn K cdv qual=true) (k:PySem.W.keepIn K (.ref f)=true):Fun K x qual st f (PySem.W.fnOf x qual (qY st) (qJ st) (qb st) .none kV doc pm an cdv ct):=⟨⟨oc,od,kV,doc,pm,an,cdv,ct,osl,rfl,l,c⟩,k⟩
end
theorem zq {n:Nat} (h:n <= 1000):n < sizeLine:=Nat.lt_of_le_of_lt h (by decide)
section
variable {X:Cx}
end
theorem iteF {A B:Prop} (h:B):if false=true then A else B:=by
 rw [if_neg Bool.false_ne_true]
 exact h
theorem iteT {A B:Prop} (h:A):if true=true then A else B:=by
 rw [if_pos rfl]
 exact h
def Same (H H':Hp):Prop:=∀ b o,H b=some o->H' b=some o
theorem Same.refl (H:Hp):Same H H:=fun _ _ h=>h
theorem Same.trans {H H1 H2:Hp} (a:Same H H1) (b:Same H1 H2):Same H H2:=fun c o h=>b c o (a c o h)
theorem Same.free {H H':Hp} (e:Same H H') {l:Addr} (h:H' l=Option.none):H l=Option.none:=by
 cases q:H l with
 | none=>rfl
 | some o =>
  rw [e l o q] at h
  cases h
theorem Same.seq {K:PySem.W.Frag} {H H':Hp} {a:Addr} {xs:List V} (e:Same H H') (h:SqL K H a xs):SqL K H' a xs:=by
 rcases h with (h | ⟨o,h⟩) | h
 ·exact .inl (.inl (e _ _ h))
 ·exact .inl (.inr ⟨o,e _ _ h⟩)
 ·exact .inr h
end L2
set_option maxHeartbeats 4000000
namespace L2
open PySem PySem.Spec PyProof.Rows
theorem Jc {env:Env} (body:(Str×NameKind)->List (Str×Addr)->Sem (ForInStep (List (Str×Addr))))
  (hf:∀ n k acc c,k=NameKind.free->env.cells.lookup n=some c->body (n,k) acc=pure (.yield ((n,c) :: acc)))
  (hn:∀ n k acc,k≠NameKind.free->body (n,k) acc=pure (.yield acc)) :
  ∀ (names:List (Str×NameKind)) (acc:List (Str×Addr)),(∀ y∈names,y.2=.free->∃ c,env.cells.lookup y.1=some c)->
   (∀ y c,acc.lookup y=some c->env.cells.lookup y=some c)->
   ∃ cl,forIn names acc body=pure cl/\(∀ y c,cl.lookup y=some c->env.cells.lookup y=some c)/\(∀ y,(∃ c,acc.lookup y=some c)->∃ c,cl.lookup y=some c)/\∀ y,(y,NameKind.free)∈names->∃ c,cl.lookup y=some c
 | [],acc,_,ha=>⟨acc,rfl,ha,fun _ h=>h,fun _ h=>by cases h⟩
 | (n,k) :: r,acc,h,ha=>by
  by_cases hk:k=NameKind.free
  ·obtain ⟨c,hc⟩:=h (n,k) List.mem_cons_self hk
   obtain ⟨cl,e,h1,h2,h3⟩:=Jc body hf hn r ((n,c) :: acc) (fun y hy=>h y (List.mem_cons_of_mem _ hy)) (fun y c' e=>by
    rw [List.lookup_cons] at e
    split at e
    ·rename_i q
     have q':y=n:=by simpa using q
     subst q';cases e;exact hc
    ·exact ha y c' e)
   refine ⟨cl,?_,h1,fun y hy=>h2 y ?_,fun y hy=>?_⟩
   ·rw [List.forIn_cons,hf n k acc c hk hc]
    exact e
   ·obtain ⟨c',e'⟩:=hy
    rw [List.lookup_cons]
    split
    ·exact ⟨_,rfl⟩
    ·exact ⟨_,e'⟩
   ·rcases List.mem_cons.mp hy with q | q
    ·cases q
     exact h2 _ ⟨c,by rw [List.lookup_cons];simp⟩
    ·exact h3 y q
  ·obtain ⟨cl,e,h1,h2,h3⟩:=Jc body hf hn r acc (fun y hy=>h y (List.mem_cons_of_mem _ hy)) ha
   refine ⟨cl,?_,h1,h2,fun y hy=>?_⟩
   ·rw [List.forIn_cons,hn n k acc hk]
    exact e
   ·rcases List.mem_cons.mp hy with q | q
    ·cases q;exact absurd rfl hk
    ·exact h3 y q
theorem Wn {sc:Scope} {env:Env} (h:∀ y∈sc.names,y.2=.free->∃ c,env.cells.lookup y.1=some c) :
  ∃ cl,closureFor sc env=pure cl/\(∀ y c,cl.lookup y=some c->env.cells.lookup y=some c)/\∀ y,(y,NameKind.free)∈sc.names->∃ c,cl.lookup y=some c:=by
 simp only [closureFor]
 obtain ⟨cl,e,h1,_,h3⟩:=Jc (env:=env) (fun x cs=>if (x.2 == NameKind.free)=true then (do let a ← cellOf env x.1;pure (ForInStep.yield ((x.1,a) :: cs))) else pure (ForInStep.yield cs)) (fun n k acc c hk hc=>by
   subst hk
   simp only [cellOf,hc,beq_self_eq_true,if_true];rfl) (fun n k acc hk=>by
   have:(k == NameKind.free)=false:=by simpa using hk
   simp only [this,Bool.false_eq_true,if_false]) sc.names [] h (fun y c e=>by cases e)
 refine ⟨cl,?_,h1,h3⟩
 exact (congrArg (· >>= fun r=>pure r) e).trans rfl
def qQ (X:Cx) (N':List Str) (sc:Scope) (cl:List (Str×Addr)) (C:Addr) (fp:List Addr) (pins:List (Addr×Obj)) (s:Shared) (H:Hp):Cx where
 prog:=X.prog
 w:=X.w
 K:=X.K
 mg:=X.mg
 base:=X.base
 A:=X.A
 N:=N'
 s₀:=s
 H₀:=H
 env:=compEnvC sc cl C X.env
 outer:=X.stack
 stack:=X.stack
 ex:=fp
 fn:=fun _=>false
 calm:=X.calm
 pn:=X.pn ++ pins
 xe:=fun _ _=>False
def PTs (X:Cx) (ifs:List Expr) (t:TT):Prop :=
 ∀ (pins:List (Addr×Obj)) (s:Shared) (σ:St) (H:Hp) (Q:Bool->Hp->Prop),Inv X pins σ H s->t σ H Q->
  wpAny (model X.prog X.w) X.A (forIn ifs true fun c r=>if r=true then do let ok ← isTrue c X.env (eval c X.env);pure (ForInStep.yield ok) else pure (ForInStep.yield r)) (TP X pins σ Q) X.xe s
def tTru:TT:=fun _ H Q=>Q true H
theorem qjl {X:Cx}:PTs X [] tTru:=fun _ _ _ H _ I h=>wpAny_tests_nil ⟨H,I,h⟩
theorem qjm {X:Cx} {c:Expr} {t:TT} (h:PT X c t):PTs X [c] t:=fun pins s σ H Q I q=>wpAny_tests_one (h pins s σ H Q I q)
theorem thF {α:Type} {t:Sem α} {Q Q':α->Shared->Prop} {M:Model} {A:Around} {E:Value->Shared->Prop} {s:Shared} (h:wpAny M A t Q (fun _ _=>False) s) (hQ:∀ a s,Q a s->Q' a s):wpAny M A t Q' E s:=wpAny_mono h hQ fun _ _ x=>x.elim
theorem qdn {prog:Program} {w:World} {A:Around} {R:Result->Shared->Prop} {s:Shared} {elt target iter:Expr} {ifs:List Expr} {scope:Scope} {pos:Pos} {it acc:Value} {env:Env} (I:Nat->Shared->Prop)
  (turn:∀ n s,I n s->wpAny (model prog w) A (pyNext it) (fun r s₁=>match r with
   | none=>R (.ok .next) s₁
   | some v=>wpAny (model prog w) A (letOwnedTupleGo target it v) (fun _ s₁=>wpAny (model prog w) A (assign target env v) (fun _ s₂ =>
     wpAny (model prog w) A (forIn ifs true fun c r=>if r=true then do let ok ← isTrue c env (eval c env);pure (ForInStep.yield ok) else pure (ForInStep.yield r)) (fun ok s₃ =>
      if ok=true then wpAny (model prog w) A (eval elt env) (fun x s₄ =>
       wpAny (model prog w) A (call (.builtin "list.append") [acc,x]) (fun _ s₅=>∃ m,m < n/\I m s₅) (notedBy (model prog w) A env fun e s'=>R (.error e) s') s₄) (notedBy (model prog w) A env fun e s'=>R (.error e) s') s₃
      else ∃ m,m < n/\I m s₃) (notedBy (model prog w) A env fun e s'=>R (.error e) s') s₂) (notedBy (model prog w) A env fun e s'=>R (.error e) s') s₁) (notedBy (model prog w) A env fun e s'=>R (.error e) s') s₁) (notedBy (model prog w) A env fun e s'=>R (.error e) s') s)
  (n:Nat) (h:I n s) :
  codeAny (model prog w) A (.compLoop (.ListComp elt [⟨target,iter,ifs,0⟩] scope pos) 0 it acc env) R s:=by
 refine codeAny_loop rfl I (fun n s hI=>?_) n h
 show wpAny _ A ((compTurn (.ListComp elt [⟨target,iter,ifs,0⟩] scope pos) 0 it acc env).onRaise (fun x=>do noteFrame x env;theTreesLotGoes x)) _ _ s
 refine wpAny_noted ?_
 rw [compTurn_list]
 refine wpAny_bind (wpAny_standAt (wpAny_bind (wpAny_mono (turn n s hI) (fun r s₁ h₁=>?_) fun _ _ h'=>h')))
 cases r with
 | none=>exact wpAny_pure h₁
 | some v =>
  refine wpAny_bind (wpAny_mono h₁ (fun _ s₁' h₁'=>?_) fun _ _ h'=>h')
  refine wpAny_bind (wpAny_mono h₁' (fun _ s₂ h₂=>wpAny_bind (wpAny_mono h₂ (fun ok s₃ h₃=>?_) fun _ _ h'=>h')) fun _ _ h'=>h')
  cases ok with
  | false=>exact wpAny_pure ⟨rfl,h₃⟩
  | true =>
   exact wpAny_bind (wpAny_bind (wpAny_mono h₃ (fun x s₄ h₄=>wpAny_bind (wpAny_mono h₄ (fun _ s₅ h₅=>wpAny_pure (wpAny_pure ⟨rfl,h₅⟩)) fun _ _ h'=>h')) fun _ _ h'=>h'))
structure CompOk (X:Cx) (N':List Str) (k:Nat) (sc:Scope):Prop where
 calm:X.calm=true
 kind:sc.kind=.function
 nd:X.N.Nodup
 nd':N'.Nodup
 len:N'.length=X.N.length + k
 ncell:∀ y∈sc.names,y.2≠.cell
 names:∀ y∈sc.names,y.2=.local->sc.names.lookup y.1=some .local
 old:∀ i y,i < X.N.length->N'[i]?=some y->(X.N[i]?=some y/\sc.names.lookup y≠some .local)\/sc.names.lookup y=none
 free:∀ y∈sc.names,y.2=.free->X.env.kindOf y.1=some .cell\/X.env.kindOf y.1=some .free
def qhG (J:It) (wg:TG) (tt:TT) (te:TE) (W:Nat->Nat->List V->St->Hp->Prop) (i m:Nat) (ys:List V) (σ:St) (H:Hp):Prop :=
 ∀ x H2,J.yld i H x H2->wg x σ H2 fun σ3 H3=>tt σ3 H3 fun b H4=>if b=true then te σ3 H4 fun v H5=>ys.length < sizeLine/\∃ m',m' < m/\W (i + 1) m' (ys ++ [v]) σ3 H5
  else ∃ m',m' < m/\W (i + 1) m' ys σ3 H4
def qhH (k:Nat) (J:It) (wg:TG) (tt:TT) (te:TE) (σ:St) (H:Hp) (Q:VK):Prop :=
 ∃ W:Nat->Nat->List V->St->Hp->Prop,(∃ m,W 0 m [] (σ ++ List.replicate k none) H)/\∀ i m ys σ' H',W i m ys σ' H'->
  (J.stop i H'/\∀ D,H' D=none->Q (.ref D) (upd H' D (.lst ys)))\/(J.go i H'/\qhG J wg tt te W i m ys σ' H')
def qc2 (k:Nat) (wi:TI) (wg:TG) (tt:TT) (te:TE):TE:=fun σ H Q=>wi σ H fun J H1=>qhH k J wg tt te σ H1 Q
theorem Qf {env:Env}:∀ {names:List (Str×NameKind)} {x:Str} {k:NameKind},
  (names.map fun (n,k)=>if (k == NameKind.free && env.scope.kind == .function && env.kindOf n == some .cell) then (n,NameKind.cell) else (n,k)).lookup x=some k->
   (names.lookup x=some k)\/(k=.cell/\names.lookup x=some .free)
 | [],_,_,h=>by simp at h
 | (n,k') :: r,x,k,h=>by
  have h':List.lookup x ((if (k' == NameKind.free && env.scope.kind == .function && env.kindOf n == some .cell)=true then (n,NameKind.cell) else (n,k')) :: (r.map fun (n,k)=>if (k == NameKind.free && env.scope.kind == .function && env.kindOf n == some .cell) then (n,NameKind.cell) else (n,k)))=some k:=h
  have ih:=@Qf env r x k
  cases hx:x == n with
  | true =>
   by_cases hc:(k' == NameKind.free && env.scope.kind == .function && env.kindOf n == some .cell)=true
   ·rw [if_pos hc] at h'
    simp only [List.lookup_cons,hx] at h' ⊢
    cases h'
    have:k'=.free:=by
     rw [Bool.and_eq_true,Bool.and_eq_true] at hc
     simpa using hc.1.1
    subst this
    exact .inr ⟨rfl,rfl⟩
   ·rw [if_neg hc] at h'
    simp only [List.lookup_cons,hx] at h' ⊢
    exact .inl h'
  | false =>
   by_cases hc:(k' == NameKind.free && env.scope.kind == .function && env.kindOf n == some .cell)=true
   ·rw [if_pos hc] at h'
    simp only [List.lookup_cons,hx] at h' ⊢
    exact ih h'
   ·rw [if_neg hc] at h'
    simp only [List.lookup_cons,hx] at h' ⊢
    exact ih h'
section
variable {X:Cx} {elt iter:Expr} {ifs:List Expr} {tg:Expr} {N':List Str} {sc:Scope} {pos:Pos} {wi:TI} {wg:TG} {tt:TT} {te:TE} {k:Nat}
theorem qf4 {pins:List (Addr×Obj)} {σ:St} {H:Hp} {s s':Shared} {cl:List (Str×Addr)} {fp:List Addr} {m:Str->Option Value} (O:CompOk X N' k sc) (I:Inv X pins σ H s) (hcl1:∀ y c,cl.lookup y=some c->X.env.cells.lookup y=some c)
  (hcl2:∀ y,(y,NameKind.free)∈sc.names->∃ c,cl.lookup y=some c) (hf:∀ b∈fp,FpOk X pins H b) (hlt:∀ b∈fp,b < s.heap.objs.size) (hos:s'.os=s.os) (hg:s'.gens=s.gens) (hk:∀ b o,s.heap.get? b=some o->s'.heap.get? b=some o) (hns:s'.heap.Ns s.heap.objs.size m) :
  Inv (qQ X N' sc cl s.heap.objs.size fp pins s H) [] (σ ++ List.replicate k none) H s':=by
 have stk:∀ b,b≠X.env.locals->b∉X.fs->b∉frs X.stack:=fun b h1 h2 hb=>by
  rcases List.mem_cons.mp (I.stkSub b hb) with z | z
  ·exact h1 z
  ·exact h2 z
 have hr:∀ {y:Str},(relabel sc X.env).names.lookup y=some .cell\/(relabel sc X.env).names.lookup y=some .free->sc.names.lookup y=some .free:=fun {y} h=>by
  rcases h with h | h
  ·rcases Qf h with q | q
   ·exact absurd rfl (O.ncell _ (PySem.mem_of_lookup q))
   ·exact q.2
  ·rcases Qf h with q | q
   ·exact q
   ·exact q.2
 refine ⟨⟨I.ok.mod,O.kind,I.ok.glob,I.ok.blt,Nat.le_refl _,fun y z c h1 h2=>I.ok.inj y z c (hcl1 _ _ h1) (hcl1 _ _ h2),fun y hy=>?_,fun _ _ z=>(by cases z),I.ok.hd,I.ok.frames,.inl rfl,fun b hb=>?_,I.bs,Nat.le_trans I.ok.bsz I.sz,fun b o e hb=>?_,fun b hb=>?_,I.stack,I.stkFree⟩,
  hos,?_,Un.kept hk,⟨m,hns,fun i y v h1 h2 h3=>?_⟩,fun y c h=>?_,I.hok.fresh (Nat.le_refl _),fun y c h=>I.freeC y c (hcl1 _ _ h),fun p hp=>?_,I.hok.kept hk,?_⟩
 ·exact hcl2 y (PySem.mem_of_lookup (hr hy))
 ·have q:=hf b hb
  exact ⟨Nat.ne_of_lt (hlt b hb),fun z c e=>q.2.2.2.2.1 z c (hcl1 _ _ e)⟩
 ·have hb':b∈fp:=hb
  rcases (hf b hb').2.2.2.1 with z | z
  ·exact I.ok.noex b o e z
  ·exact absurd (Nat.lt_of_lt_of_le (Heap.lt_size (I.ok.bs b o e).1) z) (Nat.lt_irrefl _)
 ·exact stk b (hf b hb).2.1 (hf b hb).2.2.1
 ·rw [hg];exact I.bare
 ·have hl:=I.len
  have hi:i < X.N.length:=by
   by_cases hi:i < X.N.length
   ·exact hi
   ·rw [List.getElem?_append_right (by omega)] at h2
    have:=List.getElem?_replicate (a:=(none:Option V)) (n:=k) (i:=i - σ.length)
    rw [this] at h2
    split at h2<;>cases h2
  have h1':X.N[i]?=some y/\sc.names.lookup y≠some .local:=by
   rcases O.old i y hi h1 with q | q
   ·exact q
   ·have no:∀ kk,(relabel sc X.env).names.lookup y≠some kk:=fun kk z=>by
     rcases Qf z with w | w
     ·rw [q] at w;cases w
     ·rw [q] at w;cases w.2
    rcases h3 with h3 | h3 | h3
    ·exact absurd h3 (no _)
    ·exact absurd h3 (no _)
    ·exact absurd h3 (no _)
  obtain ⟨h1',h1n⟩:=h1'
  have h2':σ[i]?=some (some v):=by
   rw [List.getElem?_append_left (by omega)] at h2
   exact h2
  have key:sc.names.lookup y=some .free/\((relabel sc X.env).names.lookup y=some .cell\/(relabel sc X.env).names.lookup y=some .free):=by
   rcases h3 with h3 | h3 | h3
   ·rcases Qf h3 with q | q
    ·exact absurd q h1n
    ·cases q.1
   ·exact ⟨hr (.inl h3),.inl h3⟩
   ·exact ⟨hr (.inr h3),.inr h3⟩
  obtain ⟨q,kd⟩:=key
  have mem:=PySem.mem_of_lookup q
  have kx:=O.free _ mem rfl
  obtain ⟨m0,hn,hl'⟩:=I.loc
  obtain ⟨u,r,l⟩:=hl' i y v h1' h2' (by rcases kx with z | z;exact .inr (.inl z);exact .inr (.inr z))
  rcases l with ⟨l,_⟩ | ⟨_,c,e,z⟩
  ·rcases kx with z | z
   ·rw [l] at z;cases z
   ·rw [l] at z;cases z
  ·obtain ⟨c',e'⟩:=hcl2 y mem
   have e2:=hcl1 y c' e'
   rw [e] at e2;cases e2
   obtain ⟨o,ho,hd⟩:=z
   exact ⟨u,r,.inr ⟨kd,c,e',o,hk _ _ ho,hd⟩⟩
 ·obtain ⟨v,o,ho,hd⟩:=I.cell y c (hcl1 _ _ h)
  exact ⟨v,o,hk _ _ ho,hd⟩
 ·have hp':p∈X.pn ++ pins:=by
   rcases List.mem_append.mp hp with z | z
   ·exact z
   ·cases z
  obtain ⟨e,n,ne,nf,d⟩:=I.pin p hp'
  exact ⟨hk _ _ e,n,Nat.ne_of_lt (Heap.lt_size e),stk p.1 ne nf,d⟩
 ·show (σ ++ List.replicate k none).length=N'.length
  rw [List.length_append,List.length_replicate,I.len,O.len]
theorem comp_back {pins:List (Addr×Obj)} {σ σ':St} {H H':Hp} {s s1:Shared} {cl:List (Str×Addr)} {fp:List Addr} {C:Addr} (I:Inv X pins σ H s) (hf:∀ b∈fp,FpOk X pins H b)
  (J:Inv (qQ X N' sc cl C fp pins s H) [] σ' H' s1):Inv X pins σ H' s1 :=
 I.call' (ch:=fp) J.os J.base J.hok J.bare fun b hb=>⟨(hf b hb).2.2.2.1,(hf b hb).2.1,(hf b hb).2.2.2.2.1,(hf b hb).2.2.2.2.2⟩
theorem Inv.track {pins:List (Addr×Obj)} {σ:St} {H:Hp} {s:Shared} {D:Addr} {o:HO} (I:Inv X pins σ H s) (hn:H D=none) (hL:D≠X.env.locals) (h1:D∈X.ex\/X.s₀.heap.objs.size <= D) (h2:∀ x c,X.env.cells.lookup x=some c->c≠D) (h3:∀ p∈X.pn ++ pins,p.1≠D)
  (ok:Qx X.prog X.w (upd H D o) s.heap D o):Inv X pins σ (upd H D o) s:=by
 have ne:∀ b u,H b=some u->b≠D:=fun b u e=>q9 e hn
 exact I.step (g':=s.gens) (d':=s.drawn) (t':=s.toks) (ch:=[D]) (h':=s.heap) (fun b hb=>by
   have e:b=D:=by simpa using hb
   subst e
   exact ⟨h1,hL,h2,h3⟩) (fun b o _ _ _ e _=>e) (fun b o _ _ _ e _=>⟨o.slots,e⟩) (fun b o hc e n=>by rw [qI (fun z=>hc (by simp [z]))];exact n) (fun b o _ e=>⟨o,e⟩)
  (fun b xs e=>by rw [qI (ne b _ e)];exact e) (fun b o u e=>by rw [qI (ne b _ e)];exact e) (fun b ps e=>⟨#[],by rw [qI (ne b _ e),e];simp⟩) (fun m hm=>hm) (fun b u e=>by
   by_cases hb:b=D
   ·subst hb;rw [qR] at e;cases e;exact ok
   ·rw [qI hb] at e
    exact (I.hok b u e).stay (fun c v _ q=>q) (fun c q=>by rw [qI (ne c _ q)];exact q) fun c xs q=>by rw [qI (ne c _ q)];exact q) I.bare
theorem qeP {pins:List (Addr×Obj)} {σ:St} {H:Hp} {s s':Shared} {cl:List (Str×Addr)} {fp:List Addr} {m:Str->Option Value} {it D:Addr} {tn:Nat->Heap->Prop} {J:It} {R:Result->Shared->Prop} {Qd:List V->Hp->Prop} (O:CompOk X N' k sc)
  (I:Inv X pins σ H s) (hcl1:∀ y c,cl.lookup y=some c->X.env.cells.lookup y=some c) (hcl2:∀ y,(y,NameKind.free)∈sc.names->∃ c,cl.lookup y=some c) (hf:∀ b∈D :: fp,FpOk X pins H b) (hlt:∀ b∈D :: fp,b < s.heap.objs.size)
  (hos:s'.os=s.os) (hg:s'.gens=s.gens) (hk:∀ b o,s.heap.get? b=some o->s'.heap.get? b=some o) (hns:s'.heap.Ns s.heap.objs.size m)
  (T:Turn X.prog X.w X.K tg J fp it tn) (hDf:D∉fp) (st:tn 0 s'.heap) (hD:s'.heap.PlainList D #[])
  (pg:PG (qQ X N' sc cl s.heap.objs.size (D :: fp) pins s H) tg wg) (hq:PTs (qQ X N' sc cl s.heap.objs.size (D :: fp) pins s H) ifs tt) (he:PE (qQ X N' sc cl s.heap.objs.size (D :: fp) pins s H) elt te)
  (W:Nat->Nat->List V->St->Hp->Prop) (m0:Nat) (w0:W 0 m0 [] (σ ++ List.replicate k none) H) (turn:∀ i m ys σ' H',W i m ys σ' H'->(J.stop i H'/\Qd ys H')\/(J.go i H'/\qhG J wg tt te W i m ys σ' H'))
  (fin:∀ s1 H1 σ1 (ys:List V) (its:List Value),Inv (qQ X N' sc cl s.heap.objs.size (D :: fp) pins s H) [] σ1 H1 s1->H1 D=none->s1.heap.PlainList D its.toArray->Vals ys its->ys.length <= sizeLine->Qd ys H1->R (.ok .next) s1) :
  codeAny (model X.prog X.w) X.A (.compLoop (.ListComp elt [⟨tg,iter,ifs,0⟩] sc pos) 0 (.ref it) (.ref D) (compEnvC sc cl s.heap.objs.size X.env)) R s':=by
 have I0:Inv (qQ X N' sc cl s.heap.objs.size (D :: fp) pins s H) [] (σ ++ List.replicate k none) H s':=qf4 O I hcl1 hcl2 hf hlt hos hg hk hns
 have stk:∀ b,b≠X.env.locals->b∉X.fs->b∉frs X.stack:=fun b h1 h2 hb=>by
  rcases List.mem_cons.mp (I.stkSub b hb) with z | z
  ·exact h1 z
  ·exact h2 z
 have stat:∀ {H':Hp},(∀ b∈D :: fp,H' b=none)->∀ b∈D :: fp,FpOk (qQ X N' sc cl s.heap.objs.size (D :: fp) pins s H) [] H' b:=fun hn b hb =>
  ⟨hn b hb,Nat.ne_of_lt (hlt b hb),stk b (hf b hb).2.1 (hf b hb).2.2.1,.inl hb,fun z c e=>(hf b hb).2.2.2.2.1 z c (hcl1 _ _ e),fun p hp=>by
   have hp':p∈X.pn ++ pins:=by
    rcases List.mem_append.mp hp with z | z
    ·exact z
    ·cases z
   exact (hf b hb).2.2.2.2.2 p hp'⟩
 have statF:∀ {H':Hp},(∀ b∈D :: fp,H' b=none)->∀ b∈fp,FpOk (qQ X N' sc cl s.heap.objs.size (D :: fp) pins s H) [] H' b:=fun hn b hb=>stat hn b (List.mem_cons_of_mem _ hb)
 refine qdn (fun kk s1=>∃ i ys its σ' H',Inv (qQ X N' sc cl s.heap.objs.size (D :: fp) pins s H) [] σ' H' s1/\tn i s1.heap/\(∀ b∈D :: fp,H' b=none)/\s1.heap.PlainList D its.toArray/\Vals ys its/\ys.length <= sizeLine/\W i kk ys σ' H') ?_ m0 ⟨0,[],[],σ ++ List.replicate k none,H,I0,st,fun b hb=>(hf b hb).1,hD,.nil,Nat.zero_le _,w0⟩
 rintro kk s3 ⟨i,ys,its,σ3,H3,I3,st3,fr3,pl3,rv3,hz3,w3⟩
 rcases turn i kk ys σ3 H3 w3 with ⟨stop,qn⟩ | ⟨go,step⟩
 ·have J3:=I3.pinned (fp:=[D]) (fun b hb=>by
   have e:b=D:=by simpa using hb
   subst e
   exact stat fr3 b List.mem_cons_self) (fun b hb=>by
   have e:b=D:=by simpa using hb
   subst e
   obtain ⟨n,e⟩:=pl3
   exact ⟨_,e,fun v z=>by cases z⟩)
  have fpo:∀ b∈fp,FpOk (qQ X N' sc cl s.heap.objs.size (D :: fp) pins s H) ([] ++ Zk [D] s3.heap) H3 b:=fun b hb=>by
   obtain ⟨a1,a2,a3,a4,a5,a6⟩:=statF fr3 b hb
   refine ⟨a1,a2,a3,a4,a5,fun p hp=>?_⟩
   rcases List.mem_append.mp hp with z | z
   ·exact a6 p (List.mem_append_left _ z)
   ·have z':p∈Zk [D] s3.heap:=by simpa using z
    have:=(YK z').1
    have e:p.1=D:=by simpa using this
    rw [e]
    intro z2
    subst z2
    exact hDf hb
  refine thn (T.done (qQ X N' sc cl s.heap.objs.size (D :: fp) pins s H) rfl rfl rfl O.calm i _ s3 σ3 H3 _ J3 fpo st3 stop) fun r s4 ⟨hr,I4⟩=>?_
  subst hr
  obtain ⟨n,e⟩:=pl3
  have e4:=(I4.pin (D,_) (List.mem_append_right _ (List.mem_append_right _ (Q9 (by simp) e)))).1
  exact fin s4 H3 σ3 ys its I4.unpinned (fr3 D List.mem_cons_self) ⟨n,e4⟩ rv3 hz3 qn
 ·have J3:=I3.pinned (fp:=[D]) (fun b hb=>by
   have e:b=D:=by simpa using hb
   subst e
   exact stat fr3 b List.mem_cons_self) (fun b hb=>by
   have e:b=D:=by simpa using hb
   subst e
   obtain ⟨n,e⟩:=pl3
   exact ⟨_,e,fun v z=>by cases z⟩)
  have fpo:∀ {H':Hp},(∀ b∈fp,H' b=none)->∀ b∈fp,FpOk (qQ X N' sc cl s.heap.objs.size (D :: fp) pins s H) ([] ++ Zk [D] s3.heap) H' b:=fun {H'} hn b hb=>by
   obtain ⟨_,a2,a3,a4,a5,a6⟩:=statF fr3 b hb
   refine ⟨hn b hb,a2,a3,a4,a5,fun p hp=>?_⟩
   rcases List.mem_append.mp hp with z | z
   ·exact a6 p (List.mem_append_left _ z)
   ·have z':p∈Zk [D] s3.heap:=by simpa using z
    have:=(YK z').1
    have e:p.1=D:=by simpa using this
    rw [e]
    intro z2
    subst z2
    exact hDf hb
  refine thn (T.item (qQ X N' sc cl s.heap.objs.size (D :: fp) pins s H) rfl rfl rfl O.calm i _ s3 σ3 H3 _ J3 (fpo fun b hb=>fr3 b (List.mem_cons_of_mem _ hb)) st3 go) fun r s4 ⟨u,hr,h4⟩=>?_
  subst hr
  refine thn h4 fun _ s5 ⟨y,H5,I5,r5,y5,st5,fr5⟩=>?_
  have I5':=I5.pinned (fpo fr5) (T.obj _ _ st5)
  have step':=step y H5 y5
  obtain ⟨n3,e3⟩:=pl3
  have dpin:∀ {σ7:St} {H7:Hp} {s7:Shared},Inv (qQ X N' sc cl s.heap.objs.size (D :: fp) pins s H) ([] ++ Zk [D] s3.heap ++ Zk fp s5.heap) σ7 H7 s7->s7.heap.get? D=some { cls:=.type "list", data:=.seq its.toArray n3 }/\H7 D=none:=fun {σ7 H7 s7} I7=>by
   have q:=I7.pin (D,_) (List.mem_append_right _ (List.mem_append_left _ (List.mem_append_right _ (Q9 (by simp) e3))))
   exact ⟨q.1,q.2.1⟩
  have tkeep:∀ {σ7:St} {H7:Hp} {s7:Shared},Inv (qQ X N' sc cl s.heap.objs.size (D :: fp) pins s H) ([] ++ Zk [D] s3.heap ++ Zk fp s5.heap) σ7 H7 s7->tn (i + 1) s7.heap/\∀ b∈D :: fp,H7 b=none:=fun {σ7 H7 s7} I7=>by
   refine ⟨T.keep _ _ _ st5 fun b hb o e=>(I7.pin (b,o) (List.mem_append_right _ (List.mem_append_right _ (Q9 hb e)))).1,fun b hb=>?_⟩
   rcases List.mem_cons.mp hb with rfl | hb
   ·exact (dpin I7).2
   ·obtain ⟨o,e,d⟩:=T.obj _ _ st5 b hb
    exact (I7.pin (b,o) (List.mem_append_right _ (List.mem_append_right _ (Q9 hb e)))).2.1
  refine thF (pg _ s5 σ3 H5 y u _ I5' r5 step') fun _ s6 ⟨σ6,H6,I6,step6⟩=>?_
  refine thF (hq _ s6 _ H6 _ I6 step6) fun b s7 ⟨H7,I7,q7⟩=>?_
  cases b with
  | false =>
   simp only [Bool.false_eq_true,if_false] at q7 ⊢
   obtain ⟨m',hm,w8⟩:=q7
   obtain ⟨t8,f8⟩:=tkeep I7
   exact ⟨m',hm,i + 1,ys,its,_,H7,I7.unpinned.unpinned,t8,f8,⟨n3,(dpin I7).1⟩,rv3,hz3,w8⟩
  | true =>
   simp only [if_true] at q7 ⊢
   refine thF (he _ s7 _ H7 _ I7 q7) fun v s8 ⟨vv,H8,I8,r8,hz,m',hm,w8⟩=>?_
   have hlen:=rv3.length
   refine wpAny_list_append_plain ⟨n3,(dpin I8).1⟩ (fun h9 pl9 sb9=>?_) (by rw [List.size_toArray];omega)
   obtain ⟨t8,f8⟩:=tkeep I8
   have st8:=stat f8 D List.mem_cons_self
   have I9:Inv (qQ X N' sc cl s.heap.objs.size (D :: fp) pins s H) [] σ6 H8 { s8 with heap:=h9 } :=
    I8.unpinned.unpinned.turned (t':=s8.toks) (fun b o hb e=>(sb9.2 b hb).trans e) st8.1 st8.2.1 st8.2.2.2.1 st8.2.2.2.2.1 st8.2.2.2.2.2
   refine ⟨m',hm,i + 1,ys ++ [vv],its ++ [v],_,H8,I9,T.keep _ _ _ t8 fun b hb o e=>(sb9.2 b (fun z=>hDf (z ▸ hb))).trans e,f8,by simpa using pl9,rv3.append (.cons r8 .nil),?_,w8⟩
   rw [List.length_append,List.length_singleton]
   omega
theorem Ws {E:Value->Shared->Prop} {pins:List (Addr×Obj)} {σ:St} {H:Hp} {s:Shared} {cl:List (Str×Addr)} {fp:List Addr} {it:Addr} {tn:Nat->Heap->Prop} {J:It} {RR:Value->Addr->Result->Shared->Prop} {Qd:V->Hp->Prop} (O:CompOk X N' k sc)
  (I:Inv X pins σ H s) (hcl1:∀ y c,cl.lookup y=some c->X.env.cells.lookup y=some c) (hcl2:∀ y,(y,NameKind.free)∈sc.names->∃ c,cl.lookup y=some c) (hf:∀ b∈fp,FpOk X pins H b)
  (T:Turn X.prog X.w X.K tg J fp it tn) (st:tn 0 s.heap)
  (hg:∀ cl C fp pins s H,PG (qQ X N' sc cl C fp pins s H) tg wg) (hq:∀ cl C fp pins s H,PTs (qQ X N' sc cl C fp pins s H) ifs tt) (he:∀ cl C fp pins s H,PE (qQ X N' sc cl C fp pins s H) elt te)
  (turn:qhH k J wg tt te σ H Qd)
  (fin:∀ D C s1 H1 m,Inv X pins σ H1 s1->s1.heap.Ns C m->H1 C=none->C≠X.env.locals->(X.s₀.heap.objs.size <= C)->(∀ z c,X.env.cells.lookup z=some c->c≠C)->(∀ p∈X.pn ++ pins,p.1≠C)->Qd (.ref D) H1->RR (.ref D) C (.ok .next) s1) :
  wpAny (model X.prog X.w) X.A (newList []) (fun acc s₃=>wpAny (model X.prog X.w) X.A (newFunctionEnv sc X.env.globals cl [] X.env.qual none .none (some X.env)) (fun cenv s₄ =>
   codeAny (model X.prog X.w) X.A (.compStart (.ListComp elt [⟨tg,iter,ifs,0⟩] sc pos) 0 (.ref it) acc { cenv with scope:=relabel sc X.env }) (RR acc cenv.locals) s₄) E s₃) E s:=by
 refine wpAny_newObj_type (wpAny_newFunctionEnv O.ncell (by intro y hy;simp at hy) (fun h₁ hns₁ hsb₁=>?_) O.kind)
 dsimp only at hns₁ hsb₁ ⊢
 have hD:=I.hok.fresh (Nat.le_refl s.heap.objs.size)
 have I3:Inv X pins σ H { s with heap:=s.heap.push { cls:=.type "list", dict:=none,data:=.seq ([]:List Value).toArray } } :=
  I.kept (t':=s.toks) (fun b u e=>Heap.get?_push_of_some _ e)
 have fpl:∀ b∈fp,b < s.heap.objs.size:=fun b hb=>by
  obtain ⟨o,e,_⟩:=T.obj _ _ st b hb
  exact Heap.lt_size e
 have fD:FpOk X pins H s.heap.objs.size:=I.fpOk (Nat.le_refl _) hD
 have hf3:∀ b∈s.heap.objs.size :: fp,FpOk X pins H b:=fun b hb=>by
  rcases List.mem_cons.mp hb with rfl | hb
  ·exact fD
  ·exact hf b hb
 have eD:(s.heap.push { cls:=.type "list", dict:=none,data:=.seq ([]:List Value).toArray }).get? s.heap.objs.size=some { cls:=.type "list", dict:=none,data:=.seq ([]:List Value).toArray }:=Heap.get?_push_size _ rfl
 generalize hH2:s.heap.push { cls:=.type "list", dict:=none,data:=.seq ([]:List Value).toArray }=H2 at hns₁ hsb₁ I3 eD ⊢
 have hC:H2.objs.size=s.heap.objs.size + 1:=by rw [← hH2,Heap.size_push]
 have old3:∀ b o,H2.get? b=some o->h₁.get? b=some o:=fun b o e=>hsb₁.extBut b o (Nat.ne_of_lt (Heap.lt_size e)) (Heap.get?_push_of_some _ e)
 have old2:∀ b o,s.heap.get? b=some o->H2.get? b=some o:=fun b o e=>hH2 ▸ Heap.get?_push_of_some _ e
 obtain ⟨W,⟨m0,w0⟩,tr⟩:=turn
 have st1:tn 0 h₁:=T.keep _ _ _ st fun b _ o e=>old3 b o (old2 b o e)
 have loop:codeAny (model X.prog X.w) X.A (.compLoop (.ListComp elt [⟨tg,iter,ifs,0⟩] sc pos) 0 (.ref it) (.ref s.heap.objs.size) (compEnvC sc cl H2.objs.size X.env)) (RR (.ref s.heap.objs.size) H2.objs.size)
   { s with heap:=h₁,toks:=s.toks + ([]:List (Str×Value)).length }:=by
  refine qeP (s:={ s with heap:=H2 }) (s':={ s with heap:=h₁,toks:=s.toks + ([]:List (Str×Value)).length }) (Qd:=fun ys H'=>∀ D,H' D=none->Qd (.ref D) (upd H' D (.lst ys))) O I3 hcl1 hcl2 hf3 (fun b hb=>?_) rfl rfl old3 hns₁ T (fun z=>Nat.lt_irrefl _ (fpl _ z)) st1 ⟨0,old3 _ _ eD⟩ (hg _ _ _ _ _ _) (hq _ _ _ _ _ _) (he _ _ _ _ _ _) W m0 w0 tr ?_
  ·show b < H2.objs.size
   rw [hC]
   rcases List.mem_cons.mp hb with hb | hb
   ·rw [hb];exact Nat.lt_succ_self _
   ·exact Nat.lt_succ_of_lt (fpl b hb)
  intro s1 H1 σ1 ys its J1 hD1 pl1 rv1 hz1 q1
  obtain ⟨m,hn1,_⟩:=J1.loc
  obtain ⟨n1,e1⟩:=pl1
  have I4:=(comp_back I3 hf3 J1).track (D:=s.heap.objs.size) (o:=.lst ys) hD1 fD.2.1 fD.2.2.2.1 fD.2.2.2.2.1 fD.2.2.2.2.2 ⟨hz1,its,n1,rv1,e1⟩
  refine fin _ _ s1 _ m I4 hn1 (by rw [qI (by show H2.objs.size≠s.heap.objs.size;omega)];exact J1.free) (Nat.ne_of_gt I3.lt) I3.sz (fun z c e h=>?_) (fun p hp h=>?_) (q1 _ hD1)
  ·obtain ⟨v,q⟩:=I3.cell z c e
   have:=q.lt
   rw [h] at this
   exact Nat.lt_irrefl _ this
  ·have:=Heap.lt_size (I3.pin p hp).1
   rw [h] at this
   exact Nat.lt_irrefl _ this
 exact codeAny_compStart_list loop (T.self _ 0 _ _ _ st1 loop)
theorem qja (O:CompOk X N' k sc) (hi:PI X tg iter wi) (hg:∀ cl C fp pins s H,PG (qQ X N' sc cl C fp pins s H) tg wg) (hq:∀ cl C fp pins s H,PTs (qQ X N' sc cl C fp pins s H) ifs tt) (he:∀ cl C fp pins s H,PE (qQ X N' sc cl C fp pins s H) elt te)
  (hs:∀ v,foldedSetIterable iter X.env v=pure v:=by intro _;rfl):PE X (.ListComp elt [⟨tg,iter,ifs,0⟩] sc pos) (qc2 k wi wg tt te):=by
 intro pins s σ H Q I h
 rw [eval_ListComp]
 obtain ⟨cl,hcl,hcl1,hcl2⟩:=Wn (sc:=sc) (env:=X.env) (fun y hy hf=>I.ok.has y.1 (O.free y hy hf))
 refine wpAny_comprehension_free (use:=none) rfl hs hcl O.kind O.names ?_
 refine thn (hi pins s σ H _ I h) fun v s1 h1=>thn h1 fun itv s2 h2=>?_
 obtain ⟨it,fp,tn,J,H2,e,I2,T,st2,f2,q⟩:=h2
 subst e
 refine Ws (RR:=fun acc C=>compPost (model X.prog X.w) X.A X.xe none (EP X pins σ Q) acc C) (Qd:=Q) O I2 hcl1 hcl2 f2 T st2 hg hq he q ?_
 intro D C s3 H3 m I3 hn3 hC3 hL hsz hcl3 hp3 q3
 exact ⟨m,hn3,fun h' sb=>⟨.ref D,H3,I3.turned (t':=s3.toks) (fun b o hb e=>(sb.2 b hb).trans e) hC3 hL (.inr hsz) hcl3 hp3,rfl,q3⟩⟩
theorem qjh {j:Nat} {y:Str} {py spos:Pos} (O:CompOk X N' k sc) (hj:X.N[j]?=some y) (hy:X.env.scope.names.lookup y=some .local) (hi:PI X tg iter wi) (hg:∀ cl C fp pins s H,PG (qQ X N' sc cl C fp pins s H) tg wg) (hq:∀ cl C fp pins s H,PTs (qQ X N' sc cl C fp pins s H) ifs tt) (he:∀ cl C fp pins s H,PE (qQ X N' sc cl C fp pins s H) elt te)
  (hsw:swapsWith (.ListComp elt [⟨tg,iter,ifs,0⟩] sc pos) (some (.Name y py)) spos.line X.env=pure true:=by rfl)
  (hs:∀ v,foldedSetIterable iter X.env v=pure v:=by intro _;rfl):PS X (.Assign [.Name y py] (.ListComp elt [⟨tg,iter,ifs,0⟩] sc pos) spos) (tAsg (qc2 k wi wg tt te) (qd6 j)):=by
 intro pins s σ H D I h
 rw [exec_Assign_Name_used _ _ _ _ hsw]
 refine wpAny_bind (wpAny_standAt (wpAny_bind ?_))
 show wpAny _ X.A (do let _ ← comprehension (.ListComp elt [⟨tg,iter,ifs,0⟩] sc pos) sc X.env _ (newList []) false (eval iter X.env) (some (assign (.Name y py) X.env))) _ _ s
 obtain ⟨cl,hcl,hcl1,hcl2⟩:=Wn (sc:=sc) (env:=X.env) (fun y hy hf=>I.ok.has y.1 (O.free y hy hf))
 refine wpAny_bind (wpAny_mono (wpAny_comprehension_free (use:=some (assign (.Name y py) X.env)) (Q:=fun _ s'=>SP X pins D .next s') rfl hs hcl O.kind O.names ?_) (fun _ s' hq=>wpAny_pure (wpAny_pure hq)) fun _ _ e=>e)
 refine thn (hi pins s σ H _ I h) fun v s1 h1=>thn h1 fun itv s2 h2=>?_
 obtain ⟨it,fp,tn,J,H2,e,I2,T,st2,f2,q⟩:=h2
 subst e
 refine Ws (RR:=fun acc C=>compPost (model X.prog X.w) X.A X.xe (some (assign (.Name y py) X.env)) (fun _ s'=>SP X pins D .next s') acc C) (Qd:=fun x H1=>qd6 j x σ H1 D.nx) O I2 hcl1 hcl2 f2 T st2 hg hq he q ?_
 intro B C s3 H3 m I3 hn3 hC3 hL hsz hcl3 hp3 q3
 refine wpAny_assign_Name (qbc I3 O.nd hj (.inl hy) (v:=.ref B) rfl (fun s4 I4 ⟨a,sb,ha⟩=>?_) (.inr hy))
 have hCa:C≠a:=by
  rcases ha with ha | ha
  ·rw [ha];exact hL
  ·exact Ne.symm (hcl3 _ _ ha)
 refine ⟨m,hn3.sameBut sb hCa,fun h' sb'=>⟨_,H3,I4.turned (t':=s4.toks) (fun b o hb e=>(sb'.2 b hb).trans e) hC3 hL (.inr hsz) hcl3 hp3,q3⟩⟩
end
end L2
namespace L2
open PySem PySem.Spec PyProof.Rows
abbrev K2:=List (Int ⊕ List Int)
def k2D (k:Int ⊕ List Int):PyData:=match k with
 | .inl i=>.int i
 | .inr js=>.tuple (js.map .int)
def k2T (ks:K2):PyData:=.tuple (ks.map k2D)
def k2H (k:Int ⊕ List Int):Int:=match k with
 | .inl i=>hashInt i
 | .inr js=>reduceHash (Builtin.Tuple.tupleHashOf (js.map hashInt))
def k2N (k:Int ⊕ List Int):Nat:=match k with
 | .inl _=>1
 | .inr js=>js.length + 1
theorem wz:∀ {a b:List Int},a.map PyData.int=b.map PyData.int->a=b
 | [],[],_=>rfl
 | [],_ :: _,e=>by simp at e
 | _ :: _,[],e=>by simp at e
 | x :: xs,y :: ys,e=>by
  rw [List.map_cons,List.map_cons] at e
  injection e with e1 e2
  injection e1 with e1
  rw [e1,wz e2]
theorem qix {a b:Int ⊕ List Int} (e:k2D a=k2D b):a=b:=by
 cases a with
 | inl i=>cases b with
  | inl j=>injection (show PyData.int i=PyData.int j from e) with e;rw [e]
  | inr js=>cases (show PyData.int i=PyData.tuple _ from e)
 | inr is=>cases b with
  | inl j=>cases (show PyData.tuple _=PyData.int j from e)
  | inr js=>injection (show PyData.tuple (is.map .int)=PyData.tuple (js.map .int) from e) with e;rw [wz e]
theorem qcC:∀ {a b:K2},a.map k2D=b.map k2D->a=b
 | [],[],_=>rfl
 | [],_ :: _,e=>by simp at e
 | _ :: _,[],e=>by simp at e
 | x :: xs,y :: ys,e=>by
  rw [List.map_cons,List.map_cons] at e
  injection e with e1 e2
  rw [qix e1,qcC e2]
theorem qiy {a b:K2} (e:k2T a=k2T b):a=b:=by
 injection (show PyData.tuple (a.map k2D)=PyData.tuple (b.map k2D) from e) with e
 exact qcC e
theorem qfZ (ns:List Int):PyData.canLayAll0 (ns.map .int)=true/\PyData.depthAll (ns.map .int)=0:=by
 induction ns with
 | nil=>exact ⟨rfl,rfl⟩
 | cons n ns ih=>exact ⟨ih.1,by show max 0 (PyData.depthAll (ns.map .int))=0;rw [ih.2];rfl⟩
theorem qf0 (ks:K2):PyData.canLayAll0 (ks.map k2D)=true/\PyData.depthAll (ks.map k2D) <= 1:=by
 induction ks with
 | nil=>exact ⟨rfl,Nat.zero_le _⟩
 | cons k ks ih =>
  have hk:(k2D k).canLay0=true/\(k2D k).depth <= 1:=by
   cases k with
   | inl i=>exact ⟨rfl,Nat.zero_le _⟩
   | inr js=>exact ⟨(qfZ js).1,by show PyData.depthAll (js.map .int) + 1 <= 1;rw [(qfZ js).2];exact Nat.le_refl _⟩
  refine ⟨?_,?_⟩
  ·show ((k2D k).canLay0 && PyData.canLayAll0 (ks.map k2D))=true
   rw [hk.1,ih.1];rfl
  ·show max (k2D k).depth (PyData.depthAll (ks.map k2D)) <= 1
   exact Nat.max_le.mpr ⟨hk.2,ih.2⟩
theorem w6 (ks:K2):(k2T ks).canLay0=true/\(k2T ks).depth <= 2:=⟨(qf0 ks).1,Nat.succ_le_succ (qf0 ks).2⟩
def Is2 (h:Heap) (ks:K2) (a:Addr):Prop:=∃ as,Reads h (.ref a) (k2T ks) as
section
variable {prog:Program} {w:World} {A:Around} {E:Value->Shared->Prop} {s:Shared}
theorem Is2.typeIs {ks:K2} {a:Addr} (x:Is2 s.heap ks a):s.TypeIs (.ref a) "tuple" := by
 obtain ⟨as,r⟩:=x
 cases r with
 | tuple h1 h2 h3 h4=>exact ⟨_,h1,h2⟩
def Yp (prog:Program) (w:World) (A:Around) (h:Heap) (v:Value) (p:Int×Nat):Prop :=
 ∀ (E:Value->Shared->Prop) (s:Shared) (Q:Int->Shared->Prop),s.heap=h->Q p.1 { s with toks:=s.toks + p.2 }->wpAny (model prog w) A (pyHash v) Q E s
theorem qcA {a:Addr} {o:Obj} {items:Array Value} {n:Nat} {hs:List (Int×Nat)} {Q:Int->Shared->Prop} (hu:A.units < cLine) (ho:s.heap.get? a=some o) (hc:o.cls=.type "tuple") (hd:o.data=.seq items n)
  (hi:Paired (Yp prog w A.in1 s.heap) items.toList hs) (h:Q (reduceHash (Builtin.Tuple.tupleHashOf (hs.map (·.1)))) { s with toks:=s.toks + ((hs.map (·.2)).sum + 1) }):wpAny (model prog w) A (pyHash (.ref a)) Q E s:=by
 have hT:s.TypeIs (.ref a) "tuple" := ⟨o,ho,hc⟩
 unfold pyHash
 first | unfold pyHashByItsType | skip
 first | exact wpAny_bind (wpAny_cRoomFor_or (.inr hu) ?_) | skip
 first | refine wpAny_bind (wpAny_cRoomFor_or (.inr hu) (wpAny_bind (wpAny_specialOf hT F.slot_tuple_hash.lookup ?_))) | refine wpAny_bind (wpAny_specialOf hT F.slot_tuple_hash.lookup (id ?_))
 refine (id ?_:wpAny _ _ (if (some (Value.builtin "tuple.__hash__") == some Value.none)=true then _ else _) Q E s)
 rw [if_neg (fun z=>by rw [beq_builtin_none] at z;cases z)]
 refine wpAny_bind (wpAny_specialOf hT F.slot_tuple_hash.lookup (id ?_:wpAny _ _ (callSpecialIfBoundUnlessNone? (.ref a) "__hash__" _ >>= _) Q E s))
 refine wpAny_bind (wpAny_callSpecialIfBoundUnlessNone?_slot hT F.slot_tuple_hash (wpAny_call_entry F.slot_tuple_hash hT F.entry_tuple_hash (?_:wpAny _ _ (Builtin.Tuple.tupleItemsOf (.ref a) >>= _) _ _ s) (F.args_tuple_hash_1 _)))
 refine wpAny_bind (wpAny_tupleItemsOf ho hd (wpAny_bind ?_))
 rw [← Array.forIn_toList]
 refine wpAny_forIn_list _ (fun rest (b:Array Int) s'=>∃ done left,hs=done ++ left/\Paired (Yp prog w A.in1 s.heap) rest left/\b.toList=done.map (·.1)/\s'={ s with toks:=s.toks + (done.map (·.2)).sum }) _ ?_ ?_ _ _ ⟨[],hs,rfl,hi,rfl,rfl⟩
 ·rintro x rest b s' ⟨done,left,rfl,hl,hb,rfl⟩
  cases hl with
  | @cons _ p _ ps h1 hl' =>
   refine wpAny_bind (h1 _ _ _ rfl ?_)
   first
    | exact wpAny_pure ⟨done ++ [p],ps,by simp,hl',by simp [hb],by simp [Nat.add_assoc]⟩
    | exact wpAny_bind (wpAny_pure (wpAny_pure ⟨done ++ [p],ps,by simp,hl',by simp [hb],by simp [Nat.add_assoc]⟩))
 ·rintro b s' ⟨done,left,rfl,hl,hb,rfl⟩
  cases hl
  rw [List.append_nil] at h
  refine (id ?_:wpAny _ _ (retInt (Builtin.Tuple.tupleHashOf b.toList)) _ _ _)
  rw [hb]
  refine wpAny_ret_mkInt (id ?_:wpAny _ _ (if (decide (-(2:Int) ^ 63 <= Builtin.Tuple.tupleHashOf (done.map (·.1))) && decide (Builtin.Tuple.tupleHashOf (done.map (·.1)) < 2 ^ 63))=true then _ else _) Q E _)
  unfold reduceHash at h
  by_cases hr:(decide (-(2:Int) ^ 63 <= Builtin.Tuple.tupleHashOf (done.map (·.1))) && decide (Builtin.Tuple.tupleHashOf (done.map (·.1)) < 2 ^ 63))=true
  ·rw [if_pos hr] at h ⊢
   exact wpAny_pure (by simpa [Nat.add_assoc] using h)
  ·rw [if_neg hr] at h ⊢
   exact wpAny_bind (wpAny_rule (wpAny_pure (by simpa [Nat.add_assoc] using h)))
theorem qcz {h:Heap} (i:Int) (t:Tok):Yp prog w A h (.int i t) (hashInt i,1):=fun _ _ _ _ q=>wpAny_pyHash_int q
theorem qaQ {h:Heap}:∀ {vs:List Value} {ns:List Int} {as:List Addr},ReadsAll h vs (ns.map .int) as->Paired (Yp prog w A h) vs (ns.map fun i=>(hashInt i,1))
 | _,[],_,r=>by cases r;exact .nil
 | _,n :: ns,_,r=>by
  cases r with
  | cons a t=>cases a;exact .cons (qcz _ _) (qaQ t)
theorem qhF (ns:List Int):((ns.map fun i=>(hashInt i,1)).map (·.2)).sum=ns.length:=by
 induction ns with
 | nil=>rfl
 | cons n ns ih=>rw [List.map_cons,List.map_cons,List.sum_cons,ih,List.length_cons];omega
theorem qeU {h:Heap} {v:Value} {k:Int ⊕ List Int} {as:List Addr} (hu:A.units < cLine) (r:Reads h v (k2D k) as):Yp prog w A h v (k2H k,k2N k):=by
 cases k with
 | inl i =>
  cases (show Reads h v (.int i) as from r)
  exact qcz _ _
 | inr js =>
  cases (show Reads h v (.tuple (js.map .int)) as from r) with
  | tuple h1 h2 h3 h4 =>
   intro E s Q e q
   subst e
   refine qcA hu h1 h2 h3 (qaQ h4) ?_
   have e:(js.map fun i=>(hashInt i,1)).map (·.1)=js.map hashInt:=by rw [List.map_map];rfl
   rw [e,qhF]
   exact q
theorem ww {h:Heap} (hu:A.units < cLine):∀ {vs:List Value} {ks:K2} {as:List Addr},ReadsAll h vs (ks.map k2D) as->Paired (Yp prog w A h) vs (ks.map fun k=>(k2H k,k2N k))
 | _,[],_,r=>by cases r;exact .nil
 | _,k :: ks,_,r=>by
  cases r with
  | cons a t=>exact .cons (qeU hu a) (ww hu t)
theorem qeB {n:Nat} {h:Heap} {v:Value} {as:List Addr} {i:Int} (r:Reads h v (.int i) as):eqIsQuiet n v=pure true:=by
 cases r
 cases n<;>rfl
theorem qba {m:Nat} {a:Addr} {o:Obj} {items:Array Value} {n:Nat} {Q:Bool->Shared->Prop} (ho:s.heap.get? a=some o) (hc:o.cls=.type "tuple") (hd:o.data=.seq items n)
  (hi:∀ v∈items.toList,∀ Q':Bool->Shared->Prop,Q' true s->wpAny (model prog w) A (eqIsQuiet m v) Q' E s) (h:Q true s):wpAny (model prog w) A (eqIsQuiet (m + 1) (.ref a)) Q E s:=by
 have hT:s.TypeIs (.ref a) "tuple" := ⟨o,ho,hc⟩
 unfold eqIsQuiet
 refine wpAny_bind (wpAny_specialOf hT F.slot_tuple_eq.lookup (?_:wpAny _ _ (isInstance (.ref a) (.type "tuple") >>= _) _ _ s))
 refine wpAny_bind (wpAny_isInstance hT isSubtype_tuple_tuple (id ?_))
 simp only [Bool.not_true,if_false,Bool.false_eq_true]
 refine wpAny_bind (wpAny_seqItems ho hd (wpAny_bind (?_:wpAny _ _ (forIn items _ _) _ _ s)))
 rw [← Array.forIn_toList]
 refine wpAny_forIn_list _ (fun rest r s'=>r.1=none/\s'=s/\∀ v∈rest,∀ Q':Bool->Shared->Prop,Q' true s->wpAny (model prog w) A (eqIsQuiet m v) Q' E s) _ ?_ ?_ _ _ ⟨rfl,rfl,hi⟩
 ·rintro v rest r s' ⟨hr,rfl,hall⟩
  refine wpAny_bind (hall v List.mem_cons_self _ ?_)
  simp only [Bool.not_true,if_false,Bool.false_eq_true]
  exact wpAny_pure ⟨rfl,rfl,fun u hu'=>hall u (List.mem_cons_of_mem _ hu')⟩
 ·rintro ⟨r1,r2⟩ s' ⟨hr,rfl,_⟩
  simp only at hr
  subst hr
  exact wpAny_pure h
theorem jb {h:Heap}:∀ {vs:List Value} {ds:List PyData} {as:List Addr},ReadsAll h vs ds as->∀ v∈vs,∃ d∈ds,∃ bs,Reads h v d bs
 | _,_,_,.nil,v,hv=>by cases hv
 | _,_,_,.cons r t,v,hv=>by
  rcases List.mem_cons.mp hv with rfl | hv
  ·exact ⟨_,.head _,_,r⟩
  ·obtain ⟨d,hd,bs,q⟩:=jb t v hv
   exact ⟨d,.tail _ hd,bs,q⟩
theorem Is2.quiet {ks:K2} {a:Addr} {Q:Bool->Shared->Prop} (x:Is2 s.heap ks a) (h:Q true s):wpAny (model prog w) A (eqIsQuiet 8 (.ref a)) Q E s:=by
 obtain ⟨as,r⟩:=x
 cases r with
 | tuple h1 h2 h3 h4 =>
  refine qba h1 h2 h3 (fun v hv Q' q=>?_) h
  obtain ⟨d,hd,bs,rv⟩:=jb h4 v hv
  obtain ⟨k,_,rfl⟩:=List.mem_map.mp hd
  cases k with
  | inl i=>rw [qeB (show Reads s.heap v (.int i) bs from rv)];exact wpAny_pure q
  | inr js =>
   cases (show Reads s.heap v (.tuple (js.map .int)) bs from rv) with
   | tuple g1 g2 g3 g4 =>
    refine qba g1 g2 g3 (fun u hu Q2 q2=>?_) q
    obtain ⟨d,hd,cs,ru⟩:=jb g4 u hu
    obtain ⟨i,_,rfl⟩:=List.mem_map.mp hd
    rw [qeB ru]
    exact wpAny_pure q2
theorem Is2.inj {h:Heap} {a:Addr} {x y:K2} (hx:Is2 h x a) (hy:Is2 h y a):x=y:=by
 obtain ⟨as,r⟩:=hx
 obtain ⟨bs,q⟩:=hy
 exact qiy (SeqAt.Reads.unique _ _ _ _ _ (w6 x).1 r q)
theorem Yk {h h':Heap} {d:Addr} (k:∀ b o,b≠d->h.get? b=some o->h'.get? b=some o):∀ {vs:List Value} {ns:List Int} {as:List Addr},ReadsAll h vs (ns.map .int) as->ReadsAll h' vs (ns.map .int) as
 | _,[],_,r=>by cases r;exact .nil
 | _,n :: ns,_,r=>by
  cases r with
  | cons a t=>cases a;exact .cons (.int _ _) (Yk k t)
theorem Is2.keeps {h h':Heap} {ks:K2} {a d:Addr} {o:Obj} {es:Array DictEntry} {ep:Nat} (x:Is2 h ks a) (ho:h.get? d=some o) (hd:o.data=.dict es ep) (hs:Heap.SameBut d h h'):Is2 h' ks a:=by
 have k:∀ b o,b≠d->h.get? b=some o->h'.get? b=some o:=fun b o hb e=>(hs.2 b hb).trans e
 have ne:∀ {b:Addr} {ob:Obj} {items:Array Value} {n:Nat},h.get? b=some ob->ob.data=.seq items n->b≠d:=fun e q z=>by
  subst z
  rw [ho] at e
  cases e
  rw [hd] at q
  cases q
 have item:∀ {vs:List Value} {ks:K2} {as:List Addr},ReadsAll h vs (ks.map k2D) as->ReadsAll h' vs (ks.map k2D) as:=by
  intro vs ks
  induction ks generalizing vs with
  | nil=>intro as r;cases r;exact .nil
  | cons k1 ks ih =>
   intro as r
   cases r with
   | cons a t =>
    refine .cons ?_ (ih t)
    cases k1 with
    | inl i=>cases (show Reads h _ (.int i) _ from a);exact .int _ _
    | inr js =>
     cases (show Reads h _ (.tuple (js.map .int)) _ from a) with
     | tuple g1 g2 g3 g4=>exact .tuple (k _ _ (ne g1 g3) g1) g2 g3 (Yk k g4)
 obtain ⟨as,r⟩:=x
 cases r with
 | tuple h1 h2 h3 h4=>exact ⟨_,.tuple (k _ _ (ne h1 h3) h1) h2 h3 (item h4)⟩
theorem qcr:∀ a b:List Int,PyData.eqv (.tuple (a.map .int)) (.tuple (b.map .int))=decide (a=b)
 | [],[]=>rfl
 | [],_ :: _=>rfl
 | _ :: _,[]=>rfl
 | x :: xs,y :: ys=>by
  have:PyData.eqv (.tuple ((x :: xs).map .int)) (.tuple ((y :: ys).map .int))=((x == y) && PyData.eqv (.tuple (xs.map .int)) (.tuple (ys.map .int))):=rfl
  rw [this,qcr xs ys,Bool.eq_iff_iff]
  simp
theorem qik (a b:Int ⊕ List Int):PyData.eqv (k2D a) (k2D b)=decide (a=b):=by
 cases a with
 | inl i=>cases b with
  | inl j =>
   have:PyData.eqv (k2D (.inl i)) (k2D (.inl j))=(i == j):=rfl
   rw [this,Bool.eq_iff_iff]
   simp
  | inr js=>exact (decide_eq_false (fun z=>by cases z)).symm
 | inr is=>cases b with
  | inl j=>exact (decide_eq_false (fun z=>by cases z)).symm
  | inr js =>
   have:PyData.eqv (k2D (.inr is)) (k2D (.inr js))=PyData.eqv (.tuple (is.map .int)) (.tuple (js.map .int)):=rfl
   rw [this,qcr,Bool.eq_iff_iff]
   simp
theorem qbr:∀ a b:K2,PyData.eqv (k2T a) (k2T b)=decide (a=b)
 | [],[]=>rfl
 | [],_ :: _=>rfl
 | _ :: _,[]=>rfl
 | x :: xs,y :: ys=>by
  have:PyData.eqv (k2T (x :: xs)) (k2T (y :: ys))=(PyData.eqv (k2D x) (k2D y) && PyData.eqv (k2T xs) (k2T ys)):=rfl
  rw [this,qik,qbr xs ys,Bool.eq_iff_iff]
  simp
end
def qee (prog:Program) (w:World):HeapKind prog w K2 where
 is:=Is2
 hash:=fun ks=>reduceHash (Builtin.Tuple.tupleHashOf (ks.map k2H))
 draws:=fun ks=>((ks.map fun k=>(k2H k,k2N k)).map (·.2)).sum + 1
 room:=fun A=>A.units + 3 < cLine
 inj:=fun hx hy=>hx.inj hy
 keeps:=fun x ho hd hs=>x.keeps ho hd hs
 pyHash:=fun {A E s k a Q} hu hk h=>by
  obtain ⟨as,r⟩:=hk
  cases r with
  | tuple h1 h2 h3 h4 =>
   have hu1:A.in1.units < cLine:=by show A.units + 1 < cLine;omega
   refine qcA (by omega) h1 h2 h3 (ww hu1 h4) ?_
   have e:(k.map fun x=>(k2H x,k2N x)).map (·.1)=k.map k2H:=by rw [List.map_map];rfl
   rw [e]
   exact h
 eqBool:=fun {A E s x y a b Q} hu hx hy h=>by
  obtain ⟨as,r⟩:=hx
  obtain ⟨bs,q⟩:=hy
  refine SeqAt.eqAt_reads _ _ A s _ _ _ _ r q (w6 x).1 (w6 y).1 ?_ prog w E Q (by rw [qbr];exact h)
  have:=(w6 x).2
  have:=Nat.min_le_left (k2T x).depth (k2T y).depth
  omega
 quiet:=fun hk h=>hk.quiet h
def qkC (ks:K2):Int:=reduceHash (Builtin.Tuple.tupleHashOf (ks.map k2H))
abbrev KX:=Int ⊕ K2
def kxD (k:KX):PyData:=match k with
 | .inl i=>.int i
 | .inr ks=>k2T ks
def kxV (k:KX) (b:Addr):V:=match k with
 | .inl i=>.int i
 | .inr _=>.ref b
def kxI (k:KX):Bool:=match k with
 | .inl _=>true
 | .inr _=>false
def qgi:PyData->Bool
 | .int _=>true
 | _=>false
theorem qdf (k:KX):qgi (kxD k)=kxI k:=by cases k<;>rfl
theorem qbs (a b:KX):PyData.eqv (kxD a) (kxD b)=decide (a=b):=by
 cases a with
 | inl i=>cases b with
  | inl j =>
   have:PyData.eqv (kxD (.inl i)) (kxD (.inl j))=(i == j):=rfl
   rw [this,Bool.eq_iff_iff]
   simp
  | inr js=>exact (decide_eq_false (fun z=>by cases z)).symm
 | inr is=>cases b with
  | inl j=>exact (decide_eq_false (fun z=>by cases z)).symm
  | inr js =>
   have:PyData.eqv (kxD (.inr is)) (kxD (.inr js))=PyData.eqv (k2T is) (k2T js):=rfl
   rw [this,qbr,Bool.eq_iff_iff]
   simp
abbrev PkT (p:KX×Addr×V) (q:K2×Addr×Value):Prop:=p.1=.inr q.1/\p.2.1=q.2.1/\RelV p.2.2 q.2.2
abbrev PkI (p:KX×Addr×V) (q:Int×Value):Prop:=p.1=.inl q.1/\RelV p.2.2 q.2
abbrev EnI (e:DictEntry) (q:Int×Value):Prop:=e.hash=hashInt q.1/\(∃ t,e.key=.int q.1 t)/\e.val=q.2
def DctT (a:Addr) (kvs:List (KX×Addr×V)) (ep:Nat) (h:Heap):Prop :=
 ∃ xs:List (K2×Addr×Value),Paired PkT kvs xs/\∃ o es,h.get? a=some o/\o.ExactDict/\o.data=.dict es ep/\es.toList=xs.map (fun x=>(⟨qkC x.1,.ref x.2.1,x.2.2⟩:DictEntry))/\(xs.map (·.1)).Nodup
def DctI (a:Addr) (kvs:List (KX×Addr×V)) (ep:Nat) (h:Heap):Prop :=
 ∃ vs:List (Int×Value),Paired PkI kvs vs/\∃ o es,h.get? a=some o/\o.ExactDict/\o.data=.dict es ep/\Paired EnI es.toList vs/\(vs.map (·.1)).Nodup
def zX (a:Addr) (kvs:List (KX×Addr×V)) (ep:Nat) (h:Heap):Prop :=
 kvs.length <= sizeLine/\(a == sysModules)=false/\(DctT a kvs ep h\/DctI a kvs ep h)
def DctO (a:Addr) (kvs:List (KX×Addr×V)) (ep:Nat):HO:=.ext (zX a kvs ep)
theorem zX.ok {P:Program} {w:World} {H:Hp} {h:Heap} {a:Addr} {kvs:List (KX×Addr×V)} {ep:Nat} (d:zX a kvs ep h):Qx P w H h a (DctO a kvs ep):=by
 refine ⟨d,?_,fun h1 h2 ⟨z,y,e⟩ k=>⟨z,y,e.imp (fun ⟨xs,r,o,es,g1,g2⟩=>⟨xs,r,o,es,k o g1,g2⟩) fun ⟨xs,r,o,es,g1,g2⟩=>⟨xs,r,o,es,k o g1,g2⟩⟩⟩
 obtain ⟨_,_,⟨_,_,o,_,g1,_⟩ | ⟨_,_,o,_,g1,_⟩⟩:=d
 ·exact ⟨o,g1⟩
 ·exact ⟨o,g1⟩
theorem zX.of {P:Program} {w:World} {H:Hp} {h:Heap} {a:Addr} {kvs:List (KX×Addr×V)} {ep:Nat} (x:Qx P w H h a (DctO a kvs ep)):zX a kvs ep h:=x.1
def dkv (kvs:List (KX×Addr×V)) (ds:List PyData):List (PyData×PyData):=(kvs.map fun p=>kxD p.1).zip ds
theorem qcn {kvs:List (KX×Addr×V)} {ds:List PyData} (h:kvs.length=ds.length):(dkv kvs ds).map (·.1)=kvs.map fun p=>kxD p.1:=by
 unfold dkv
 rw [List.map_fst_zip (by rw [List.length_map,h];exact Nat.le_refl _)]
theorem qhl {kvs:List (KX×Addr×V)} {xs:List (K2×Addr×Value)} (r:Paired PkT kvs xs):Vals (kvs.map fun p=>kxV p.1 p.2.1) (xs.map fun x=>Value.ref x.2.1)/\Vals (kvs.map (·.2.2)) (xs.map (·.2.2)):=by
 induction r with
 | nil=>exact ⟨.nil,.nil⟩
 | cons h t ih=>exact ⟨.cons (by dsimp only;rw [h.1,h.2.1];rfl) ih.1,.cons h.2.2 ih.2⟩
theorem qcU:∀ {kvs:List (KX×Addr×V)} {vs:List (Int×Value)} {es:List DictEntry},Paired PkI kvs vs->Paired EnI es vs->Vals (kvs.map fun p=>kxV p.1 p.2.1) (es.map (·.key))/\Vals (kvs.map (·.2.2)) (es.map (·.val))
 | _,_,_,.nil,.nil=>⟨.nil,.nil⟩
 | _,_,_,.cons h t,.cons g u=>by
  obtain ⟨i1,i2⟩:=qcU t u
  obtain ⟨_,⟨tk,g1⟩,g2⟩:=g
  exact ⟨.cons (by dsimp only;rw [h.1,g1];exact ⟨tk,rfl⟩) i1,.cons (by dsimp only;rw [g2];exact h.2) i2⟩
theorem zX.vals {h:Heap} {a:Addr} {kvs:List (KX×Addr×V)} {ep:Nat} (d:zX a kvs ep h):∃ o es,h.get? a=some o/\o.ExactDict/\o.data=.dict es ep/\Vals (kvs.map fun p=>kxV p.1 p.2.1) (es.toList.map (·.key))/\Vals (kvs.map (·.2.2)) (es.toList.map (·.val)):=by
 obtain ⟨_,_,⟨xs,r,o,es,g1,g2,g3,g4,_⟩ | ⟨vs,r,o,es,g1,g2,g3,g4,_⟩⟩:=d
 ·refine ⟨o,es,g1,g2,g3,?_⟩
  rw [g4,List.map_map,List.map_map]
  exact qhl r
 ·exact ⟨o,es,g1,g2,g3,qcU r g4⟩
theorem zX.tup {h:Heap} {a:Addr} {kvs:List (KX×Addr×V)} {ep:Nat} (d:zX a kvs ep h) (hk:∀ p∈kvs,kxI p.1=false):DctT a kvs ep h:=by
 obtain ⟨_,_,d | ⟨vs,r,o,es,g1,g2,g3,g4,g5⟩⟩:=d
 ·exact d
 ·cases r with
  | nil =>
   have he:es.toList=[]:=by cases h:es.toList with
    | nil=>rfl
    | cons=>rw [h] at g4;cases g4
   exact ⟨[],.nil,o,es,g1,g2,g3,he,List.nodup_nil⟩
  | @cons p q _ _ h t =>
   have:=hk p (.head _)
   rw [h.1] at this
   cases this
theorem zX.int {h:Heap} {a:Addr} {kvs:List (KX×Addr×V)} {ep:Nat} (d:zX a kvs ep h) (hk:∀ p∈kvs,kxI p.1=true):DctI a kvs ep h:=by
 obtain ⟨_,_,⟨xs,r,o,es,g1,g2,g3,g4,g5⟩ | d⟩:=d
 ·cases r with
  | nil=>exact ⟨[],.nil,o,es,g1,g2,g3,by rw [g4];exact .nil,List.nodup_nil⟩
  | @cons p q _ _ h t =>
   have:=hk p (.head _)
   rw [h.1] at this
   cases this
 ·exact d
end L2
namespace L2
open PySem PySem.Spec PyProof.Rows
def qcu:List String:=["int", "bool", "tuple", "list", "str"]
def xcB (K:PySem.W.Frag) (C:Addr):Bool :=
 (PySem.W.clsIn K C).isSome && (PySem.W.findIn K (.ref C) "__getattribute__" == some (some (.builtin "BaseException.__getattribute__"))) && (PySem.W.findIn K (.ref C) "__getattr__" == some none)
 && (PySem.W.findIn K (.ref C) "__class__" == some (some (.builtin "object.__class__"))) && (PySem.W.mroIn K C (.type "object") == some true) && (PySem.W.mroIn K C (.type "BaseException") == some true)
 && qcu.all fun T=>PySem.W.kitOne K (.ref C) (.type T) == some false
structure XcK (K:PySem.W.Frag) (C:Addr):Prop where
 cls:(PySem.W.clsIn K C).isSome=true
 ga:PySem.W.findIn K (.ref C) "__getattribute__" = some (some (.builtin "BaseException.__getattribute__"))
 gt:PySem.W.findIn K (.ref C) "__getattr__" = some none
 cl:PySem.W.findIn K (.ref C) "__class__" = some (some (.builtin "object.__class__"))
 mo:PySem.W.mroIn K C (.type "object")=some true
 mb:PySem.W.mroIn K C (.type "BaseException")=some true
 ts:∀ T∈qcu,PySem.W.kitOne K (.ref C) (.type T)=some false
theorem qcd {K:PySem.W.Frag} {C:Addr} (h:xcB K C=true):XcK K C:=by
 unfold xcB at h
 simp only [Bool.and_eq_true,beq_iff_eq,List.all_eq_true] at h
 obtain ⟨⟨⟨⟨⟨⟨h1,h2⟩,h3⟩,h4⟩,h5⟩,h6⟩,h7⟩:=h
 exact ⟨h1,h2,h3,h4,h5,h6,h7⟩
section
variable {prog:Program} {w:World} {A:Around} {E:Value->Shared->Prop} {s:Shared} {K:PySem.W.Frag} {x C:Addr}
def OfC (h:Heap) (x C:Addr):Prop:=∃ o,h.get? x=some o/\o.cls=.ref C
theorem OfC.ty {h:Heap} {M:Model} (I:OfC h x C):PySem.W.Looks M h (typeOf (.ref x)) (.ref C):=by
 obtain ⟨o,h1,h2⟩:=I
 exact h2 ▸ (PySem.W.Looks.ld h1).andThen .now
open PySem.W in
theorem qbu {M:Model} {nameV:Value} {Q:Unit->Shared->Prop} (Z:XcK K C) (X:K.In s.heap) (I:OfC s.heap x C) (hq:Q () s) :
  wpAny M A (checkBuiltinCall "BaseException.__getattribute__" ⟨[.ref x,nameV],[]⟩) Q E s:=by
 obtain ⟨hh,g,d,t,os⟩:=s
 have hk:builtinKind "BaseException.__getattribute__" = some .slot:=by decide +kernel
 have hs:splitId "BaseException.__getattribute__" = some ("BaseException", "__getattribute__"):=by decide +kernel
 have L0:=I.ty (M:=M)
 have L1:=looks_mroIn (M:=M) X Z.mb
 have ha:=F.args_bexc_ga (.ref x) nameV
 simp only [checkBuiltinCall,hk,hs]
 refine wpAny_bind ?_
 unfold isInstance
 repeat (first | with_reducible refine Looks.at (by assumption) ?_ | wp_step)
 exact hq
open PySem.W in
theorem qas {R:Result->Shared->Prop} (Z:XcK K C) (X:K.In s.heap) (I:OfC s.heap x C) (hq:R (.ok (.ret (.ref C))) s) :
  codeAny (model prog w) A (.call (.builtin "getset_descriptor.__get__") ⟨[.builtin "object.__class__", .ref x,.ref C],[]⟩) R s:=by
 obtain ⟨hh,g,d,t,os⟩:=s
 have hT5:(⟨hh,g,d,t,os⟩:Shared).TypeIs (.builtin "object.__class__") "getset_descriptor" := F.typeOf_object_class
 have L0:=I.ty (M:=model prog w)
 have L1:Looks (model prog w) hh (isSubtype (.ref C) (.type (".".intercalate ("object.__class__".cutAt '.').dropLast))) true:=by
  rw [F.owner_object_class]
  exact looks_mroIn (M:=model prog w) X Z.mo
 refine codeAny_call_builtin F.slot_gs_get.plain F.entry_gs_get (F.slot_gs_get.check _ _ _ _ _ _ _ _ hT5 (F.args_gs_get _ _ _) ?_)
 repeat (any_goals (first | assumption | with_reducible refine Looks.at (by assumption) ?_ | wp_step))
 refine ⟨Code.quiet_builtin _ (by decide +kernel),codeAny_builtin F.entry_object_class ?_⟩
 repeat (any_goals (first | assumption | with_reducible refine Looks.at (by assumption) ?_ | wp_step))
open PySem.W in
theorem wG {tk:Tok} {Q:Fin->Shared->Prop} (Z:XcK K C) (X:K.In s.heap) (I:OfC s.heap x C) (hq:Q (.done (.ret (.ref C))) s) :
  wpAny (model prog w) A (Builtin.«object.__getattribute__» ⟨[.ref x,.str "__class__" tk],[]⟩) Q E s:=by
 obtain ⟨hh,g,d,t,os⟩:=s
 have hT5:(⟨hh,g,d,t,os⟩:Shared).TypeIs (.builtin "object.__class__") "getset_descriptor" := F.typeOf_object_class
 have L0:=I.ty (M:=model prog w)
 have L1:=looks_findIn (M:=model prog w) X Z.cl
 have f5:=F.typeOf_object_class;have f6:=F.slot_gs_get.lookup;have f7:=F.slot_gs_set.lookup
 repeat (any_goals (first | assumption | with_reducible refine Looks.at (by assumption) ?_ | wp_step))
 refine qas Z X I ?_
 repeat (any_goals (first | assumption | wp_step))
open PySem.W in
theorem qbt {tk:Tok} {Q:Value->Shared->Prop} (Z:XcK K C) (X:K.In s.heap) (I:OfC s.heap x C) (hq:Q (.ref C) s) :
  wpAny (model prog w) A (getAttrBy (.ref x) (.str "__class__" tk) false) Q E s:=by
 obtain ⟨hh,g,d,t,os⟩:=s
 have L0:=I.ty (M:=model prog w)
 have L1:=looks_findIn (M:=model prog w) X Z.ga
 have L2:=looks_findIn (M:=model prog w) X Z.gt
 have f3:=F.excAttr_ValueError.ga.bind (.ref x)
 have hx2:(Value.builtin "BaseException.__getattribute__" == Value.builtin "object.__getattribute__")=false:=by decide +kernel
 have hx1:(onTheHeap (Value.ref C) && Value.builtin "BaseException.__getattribute__" == Value.builtin "object.__getattribute__")=false:=by rw [hx2];exact Bool.and_false _
 repeat (any_goals (first | assumption | with_reducible refine Looks.at (by assumption) ?_ | wp_step))
 refine codeAny_call_builtin F.excAttr_ValueError.ga.plain F.entry_bexc_ga (qbu Z X I (wG Z X I ?_))
 repeat (any_goals (first | assumption | wp_step))
open PySem.W in
theorem qeT {Q:Option Value->Shared->Prop} (Z:XcK K C) (X:K.In s.heap) (I:OfC s.heap x C) (hq:Q (some (.ref C)) { s with toks:=s.toks + 1 }) :
  wpAny (model prog w) A (getAttr? (.ref x) "__class__") Q E s:=by
 obtain ⟨hh,g,d,t,os⟩:=s
 unfold getAttr? getAttrBy?
 refine wpAny_bind (wpAny_mkText (wpAny_bind (wpAny_attempt (qbt (s:=⟨hh,g,d,t + 1,os⟩) Z X I ?_))))
 exact wpAny_pure hq
end
open PySem.W in
theorem WN {K:Frag} {a C:Addr} (Z:XcK K C):KitX K (.ref a) (.ref C) (fun h=>OfC h a C) where
 ty:=fun _ _ _ I=>I.ty
 it:=fun _ _ X _=>by
  have z:=Z.cls
  unfold clsIn at z
  split at z
  ·rename_i c' d' cd' sl' ho
   intro A' Q' E' s' k q;unfold isType loadHead
   exact wpAny_bind (wpAny_loadPart (k _ _ (X _ _ ho)) (wpAny_pure q))
  ·cases z
 ne:=fun h tp dd its n sl X htp=>by
  have z:=Z.cls
  refine Bool.eq_false_iff.mpr fun q=>?_
  have e:C=tp:=Value.ref.inj (beq_iff_eq.mp q)
  subst e;unfold clsIn at z
  split at z
  ·rename_i c' d' cd' sl' ho
   have y:=(X _ _ ho).symm.trans htp
   cases y
  ·cases z
 ca:=fun X I k=>qeT Z X I k
end L2
namespace L2
open PySem PySem.Spec PyProof.Rows
abbrev Av:=Addr->Prop
def Jl:HO->Bool
 | .lst _=>true
 | .dK _=>true
 | .dT _=>true
 | .ext _=>true
 | _=>false
def Dm (S:Av) (H:Hp):Prop:=∀ a,S a->∃ o,H a=some o/\Jl o=true
def Off (S:Av) (H H':Hp):Prop:=∀ b o,¬ S b->H b=some o->H' b=some o
def KqL (K:PySem.W.Frag) (a:Addr) (xs:List V):Prop:=∃ (o:Obj) (its:Array Value) (n:Nat),K.lookup a=some o/\o.cls=.type "list"/\o.dict=none/\o.data=.seq its n/\its.size <= sizeLine/\Vals xs its.toList
def SqLS (K:PySem.W.Frag) (H:Hp) (S:Av) (a:Addr) (xs:List V):Prop:=(Rd H a (.lst xs)/\¬ S a)\/KqL K a xs
def ExcO (K:PySem.W.Frag) (o:Obj) (c:Str):Prop:=∃ C vs,o.cls=.ref C/\o.data=.fields vs/\PySem.W.nsIn K mainGlobals c=some (some (.ref C))/\xcB K C=true
def excD (c:Str) (d:PyData):PyData:=.dict [(.str c,d),(.int 0,.none)]
def excK:List (PyData×PyData)->Bool
 | (.str _,_) :: _=>true
 | _=>false
theorem qcs {kvs:List (KX×Addr×V)} {ds:List PyData}:excK (dkv kvs ds)=false:=by
 cases kvs with
 | nil=>rfl
 | cons p ps =>
  cases ds with
  | nil=>rfl
  | cons d ds=>obtain ⟨k | k,_⟩:=p<;>rfl
mutual
inductive Den (K:PySem.W.Frag) (H:Hp) (S:Av):V->PyData->Prop
 | none:Den K H S .non .none
 | bool (b:Bool):Den K H S (.bl b) (.bool b)
 | int (i:Int):Den K H S (.int i) (.int i)
 | str (x:Str):Den K H S (.str x) (.str x)
 | list {a:Addr} {xs:List V} {ds:List PyData}:SqLS K H S a xs->DenL K H S xs ds->Den K H S (.ref a) (.list ds)
 | tuple {a:Addr} {xs:List V} {ds:List PyData}:SqT K H a xs->DenL K H S xs ds->Den K H S (.ref a) (.tuple ds)
 | dict {a:Addr} {kvs:List (KX×Addr×V)} {ep:Nat} {ds:List PyData}:(H a=some (DctO a kvs ep)/\¬ S a)->DenL K H S (kvs.map fun p=>kxV p.1 p.2.1) (kvs.map fun p=>kxD p.1)->DenL K H S (kvs.map (·.2.2)) ds->Den K H S (.ref a) (.dict (dkv kvs ds))
 | exc0 {a:Addr} {o:Obj} {c:Str}:H a=some (.frz o (.own a))->ExcO K o c->Den K H S (.ref a) (excD c .none)
 | exc1 {a dx:Addr} {o:Obj} {c n:Str} {v:V} {d:PyData}:H a=some (.frz o (.own a))->ExcO K o c->o.dict=some dx->H dx=some (.xd [(n,v)])->Den K H S v d->Den K H S (.ref a) (excD c (.tuple [.str n,d]))
inductive DenL (K:PySem.W.Frag) (H:Hp) (S:Av):List V->List PyData->Prop
 | nil:DenL K H S [] []
 | cons {x:V} {d:PyData} {xs:List V} {ds:List PyData}:Den K H S x d->DenL K H S xs ds->DenL K H S (x :: xs) (d :: ds)
end
mutual
def flat:PyData->Bool
 | .none=>true
 | .bool _=>true
 | .int _=>true
 | .str _=>true
 | .list _=>false
 | .tuple ds=>yG ds
 | .dict _=>false
def yG:List PyData->Bool
 | []=>true
 | d :: ds=>flat d && yG ds
end
section
variable {K:PySem.W.Frag} {H H':Hp} {S S':Av}
theorem SqLS.sq {a:Addr} {xs:List V} (h:SqLS K H S a xs):SqL K H a xs:=h.imp (·.1) id
theorem SqLS.new {a:Addr} {xs:List V} (h:H a=some (.lst xs)) (n:¬ S a):SqLS K H S a xs:=.inl ⟨.inl h,n⟩
theorem Dm.free {p:Addr} (m:Dm S H) (h:H p=none):¬ S p:=fun q=>by
 obtain ⟨o,e,_⟩:=m p q
 rw [h] at e;cases e
theorem Dm.same (e:Same H H') (m:Dm S H):Dm S H':=fun a q=>by
 obtain ⟨o,h,w⟩:=m a q
 exact ⟨o,e a o h,w⟩
theorem Dm.sub (m:Dm S H) (h:∀ a,S' a->S a):Dm S' H:=fun a q=>m a (h a q)
theorem Dm.tup {a:Addr} {xs:List V} (m:Dm S H) (h:Rd H a (.tup xs)):¬ S a:=fun q=>by
 obtain ⟨o,e,w⟩:=m a q
 rcases h with h | ⟨u,h⟩
 ·rw [h] at e;cases e;cases w
 ·rw [h] at e;cases e;cases w
theorem Dm.not {a:Addr} {u:HO} (m:Dm S H) (h:H a=some u) (n:Jl u=false):¬ S a:=fun q=>by
 obtain ⟨o,e,w⟩:=m a q
 rw [h] at e;cases e;rw [n] at w;cases w
theorem Rd.off {a:Addr} {o:HO} (e:Off S H H') (n:¬ S a) (h:Rd H a o):Rd H' a o:=by
 rcases h with h | ⟨u,h⟩
 ·exact .inl (e _ _ n h)
 ·exact .inr ⟨u,e _ _ n h⟩
theorem Rd.dom {a:Addr} {o:HO} (h:Rd H a o):H a≠none:=by
 rcases h with h | ⟨u,h⟩<;>(rw [h];exact fun z=>nomatch z)
theorem Same.off (e:Same H H'):Off S H H':=fun b o _ h=>e b o h
theorem SqT.upd {a p:Addr} {o:HO} {xs:List V} (h:SqT K H a xs) (hn:H p=none):SqT K (upd H p o) a xs:=by
 rcases h with (h | ⟨o',h⟩) | h
 ·exact .inl (.inl (by rw [qI (q9 h hn)];exact h))
 ·exact .inl (.inr ⟨o',by rw [qI (q9 h hn)];exact h⟩)
 ·exact .inr h
theorem Same.sqT {a:Addr} {xs:List V} (e:Same H H') (h:SqT K H a xs):SqT K H' a xs:=by
 rcases h with (h | ⟨o,h⟩) | h
 ·exact .inl (.inl (e _ _ h))
 ·exact .inl (.inr ⟨o,e _ _ h⟩)
 ·exact .inr h
theorem Same.lay {p:Addr} {o:HO} (hn:H p=none):Same H (L2.upd H p o):=fun b u q=>by rw [qI (q9 q hn)];exact q
theorem Same.lay' {H0:Hp} {p:Addr} {o:HO} (e:Same H0 H) (hn:H p=none):Same H0 (L2.upd H p o):=e.trans (Same.lay hn)
mutual
theorem Den.off (m:Dm S H) (e:Off S H H'):∀ {v:V} {d:PyData},Den K H S v d->Den K H' S v d
 | _,_,.none=>.none
 | _,_,.bool b=>.bool b
 | _,_,.int i=>.int i
 | _,_,.str x=>.str x
 | _,_,.list h t=>.list (h.imp (fun q=>⟨q.1.off e q.2,q.2⟩) id) (DenL.off m e t)
 | _,_,.tuple h t=>.tuple (h.imp (fun q=>q.off e (m.tup q)) id) (DenL.off m e t)
 | _,_,.dict h k t=>.dict ⟨e _ _ h.2 h.1,h.2⟩ (DenL.off m e k) (DenL.off m e t)
 | _,_,.exc0 h o=>.exc0 (e _ _ (m.not h rfl) h) o
 | _,_,.exc1 h o x y t=>.exc1 (e _ _ (m.not h rfl) h) o x (e _ _ (m.not y rfl) y) (Den.off m e t)
theorem DenL.off (m:Dm S H) (e:Off S H H'):∀ {vs:List V} {ds:List PyData},DenL K H S vs ds->DenL K H' S vs ds
 | _,_,.nil=>.nil
 | _,_,.cons h t=>.cons (Den.off m e h) (DenL.off m e t)
end
mutual
theorem Den.same (e:Same H H'):∀ {v:V} {d:PyData},Den K H S v d->Den K H' S v d
 | _,_,.none=>.none
 | _,_,.bool b=>.bool b
 | _,_,.int i=>.int i
 | _,_,.str x=>.str x
 | _,_,.list h t=>.list (h.imp (fun q=>⟨q.1.off (S:=S) e.off q.2,q.2⟩) id) (DenL.same e t)
 | _,_,.tuple h t=>.tuple (e.sqT h) (DenL.same e t)
 | _,_,.dict h k t=>.dict ⟨e _ _ h.1,h.2⟩ (DenL.same e k) (DenL.same e t)
 | _,_,.exc0 h o=>.exc0 (e _ _ h) o
 | _,_,.exc1 h o x y t=>.exc1 (e _ _ h) o x (e _ _ y) (Den.same e t)
theorem DenL.same (e:Same H H'):∀ {vs:List V} {ds:List PyData},DenL K H S vs ds->DenL K H' S vs ds
 | _,_,.nil=>.nil
 | _,_,.cons h t=>.cons (Den.same e h) (DenL.same e t)
end
mutual
theorem Den.sub (e:∀ a,H a≠none->S' a->S a):∀ {v:V} {d:PyData},Den K H S v d->Den K H S' v d
 | _,_,.none=>.none
 | _,_,.bool b=>.bool b
 | _,_,.int i=>.int i
 | _,_,.str x=>.str x
 | _,_,.list h t=>.list (h.imp (fun q=>⟨q.1,fun z=>q.2 (e _ q.1.dom z)⟩) id) (DenL.sub e t)
 | _,_,.tuple h t=>.tuple h (DenL.sub e t)
 | _,_,.dict h k t=>.dict ⟨h.1,fun z=>h.2 (e _ (by rw [h.1];exact fun y=>nomatch y) z)⟩ (DenL.sub e k) (DenL.sub e t)
 | _,_,.exc0 h o=>.exc0 h o
 | _,_,.exc1 h o x y t=>.exc1 h o x y (Den.sub e t)
theorem DenL.sub (e:∀ a,H a≠none->S' a->S a):∀ {vs:List V} {ds:List PyData},DenL K H S vs ds->DenL K H S' vs ds
 | _,_,.nil=>.nil
 | _,_,.cons h t=>.cons (Den.sub e h) (DenL.sub e t)
end
mutual
theorem Den.flat:∀ {v:V} {d:PyData},L2.flat d=true->Den K H S v d->Den K H S' v d
 | _,_,_,.none=>.none
 | _,_,_,.bool b=>.bool b
 | _,_,_,.int i=>.int i
 | _,_,_,.str x=>.str x
 | _,_,f,.list h t=>by cases f
 | _,_,f,.tuple h t=>.tuple h (DenL.flat (by rw [L2.flat] at f;exact f) t)
 | _,_,f,.dict h k t=>by cases f
 | _,_,f,.exc0 h o=>by cases f
 | _,_,f,.exc1 h o x y t=>by cases f
theorem DenL.flat:∀ {vs:List V} {ds:List PyData},yG ds=true->DenL K H S vs ds->DenL K H S' vs ds
 | _,_,_,.nil=>.nil
 | _,_,f,.cons h t=>by
  rw [yG,Bool.and_eq_true] at f
  exact .cons (Den.flat f.1 h) (DenL.flat f.2 t)
end
theorem DenL.length:∀ {vs:List V} {ds:List PyData},DenL K H S vs ds->vs.length=ds.length
 | _,_,.nil=>rfl
 | _,_,.cons _ t=>by rw [List.length_cons,List.length_cons,t.length]
theorem DenL.snoc:∀ {vs:List V} {ds:List PyData} {v:V} {d:PyData},DenL K H S vs ds->Den K H S v d->DenL K H S (vs ++ [v]) (ds ++ [d])
 | _,_,_,_,.nil,h=>.cons h .nil
 | _,_,_,_,.cons h t,q=>.cons h (t.snoc q)
theorem DenL.append:∀ {vs ws:List V} {ds es:List PyData},DenL K H S vs ds->DenL K H S ws es->DenL K H S (vs ++ ws) (ds ++ es)
 | _,_,_,_,.nil,h=>h
 | _,_,_,_,.cons h t,q=>.cons h (t.append q)
theorem DenL.get:∀ {vs:List V} {ds:List PyData} {i:Nat} {d:PyData},DenL K H S vs ds->ds[i]?=some d->∃ v,vs[i]?=some v/\Den K H S v d
 | _,_,_,_,.nil,e=>by simp at e
 | _,_,0,_,.cons h _,e=>by simp at e;subst e;exact ⟨_,rfl,h⟩
 | _,_,i + 1,d,.cons _ t,e=>by
  obtain ⟨v,h1,h2⟩:=DenL.get (i:=i) (d:=d) t (by simpa using e)
  exact ⟨v,by simpa using h1,h2⟩
theorem DenL.drop:∀ {vs:List V} {ds:List PyData} (n:Nat),DenL K H S vs ds->DenL K H S (vs.drop n) (ds.drop n)
 | _,_,0,h=>h
 | _,_,_ + 1,.nil=>.nil
 | _,_,n + 1,.cons _ t=>t.drop n
theorem DenL.take:∀ {vs:List V} {ds:List PyData} (n:Nat),DenL K H S vs ds->DenL K H S (vs.take n) (ds.take n)
 | _,_,0,_=>.nil
 | _,_,_ + 1,.nil=>.nil
 | _,_,n + 1,.cons h t=>.cons h (t.take n)
theorem DenL.ints:∀ ns:List Int,DenL K H S (ns.map V.int) (ns.map PyData.int)
 | []=>.nil
 | n :: ns=>.cons (.int n) (DenL.ints ns)
theorem Den.int_inv {v:V} {i:Int} (h:Den K H S v (.int i)):v=.int i:=by cases h;rfl
theorem Den.bool_inv {v:V} {b:Bool} (h:Den K H S v (.bool b)):v=.bl b:=by cases h;rfl
theorem Den.list_inv {v:V} {ds:List PyData} (h:Den K H S v (.list ds)):∃ a xs,v=.ref a/\SqLS K H S a xs/\DenL K H S xs ds:=by
 cases h with
 | list h t=>exact ⟨_,_,rfl,h,t⟩
theorem Den.tuple_inv {v:V} {ds:List PyData} (h:Den K H S v (.tuple ds)):∃ a xs,v=.ref a/\SqT K H a xs/\DenL K H S xs ds:=by
 cases h with
 | tuple h t=>exact ⟨_,_,rfl,h,t⟩
theorem DenL.inv1 {vs:List V} {d:PyData} (h:DenL K H S vs [d]):∃ v,vs=[v]/\Den K H S v d:=by
 cases h with
 | cons a t=>cases t;exact ⟨_,rfl,a⟩
end
section
variable {X:Cx} {pins:List (Addr×Obj)} {σ:St} {H:Hp} {s:Shared} {S:Av}
mutual
theorem Den.reads (I:Inv X pins σ H s):∀ {v:V} {d:PyData} {u:Value},Den X.K H S v d->d.canLay0=true->RelV v u->∃ as,Reads s.heap u d as
 | _,_,u,.none,_,r=>by cases (show u=Value.none from r);exact ⟨_,.none⟩
 | _,_,u,.bool b,_,r=>by cases (show u=Value.bool b from r);exact ⟨_,.bool b⟩
 | _,_,u,.int i,_,r=>by obtain ⟨t,e⟩:=(show ∃ t,u=Value.int i t from r);cases e;exact ⟨_,.int i t⟩
 | _,_,u,.str x,_,r=>by obtain ⟨t,e⟩:=(show ∃ t,u=Value.str x t from r);cases e;exact ⟨_,.str x t⟩
 | _,_,u,@Den.list _ _ _ a xs ds h t,c0,r=>by
  cases (show u=Value.ref a from r)
  obtain ⟨its,rv,⟨o,n,e,c,_,d⟩,_⟩:=I.list h.sq
  obtain ⟨as,q⟩:=DenL.reads I t (by rw [PyData.canLay0] at c0;exact c0) rv
  exact ⟨_,.list e c d (by simpa using q)⟩
 | _,_,u,@Den.tuple _ _ _ a xs ds h t,c0,r=>by
  cases (show u=Value.ref a from r)
  obtain ⟨its,rv,⟨o,e,c,n,d⟩,_⟩:=I.tuple h
  obtain ⟨as,q⟩:=DenL.reads I t (by rw [PyData.canLay0] at c0;exact c0) rv
  exact ⟨_,.tuple e c d (by simpa using q)⟩
 | _,_,u,.dict h k t,c0,r=>by rw [PyData.canLay0] at c0;cases c0
 | _,_,u,.exc0 h o,c0,r=>by unfold excD at c0;rw [PyData.canLay0] at c0;cases c0
 | _,_,u,.exc1 h o x y t,c0,r=>by unfold excD at c0;rw [PyData.canLay0] at c0;cases c0
theorem DenL.reads (I:Inv X pins σ H s):∀ {vs:List V} {ds:List PyData} {us:List Value},DenL X.K H S vs ds->PyData.canLayAll0 ds=true->Vals vs us->∃ as,ReadsAll s.heap us ds as
 | _,_,_,.nil,_,.nil=>⟨_,.nil⟩
 | _,_,_,.cons h t,c0,.cons r rr=>by
  rw [PyData.canLayAll0,Bool.and_eq_true] at c0
  obtain ⟨as,q⟩:=Den.reads I h c0.1 r
  obtain ⟨bs,q'⟩:=DenL.reads I t c0.2 rr
  exact ⟨_,.cons q q'⟩
end
end
section
variable {X:Cx} {pins:List (Addr×Obj)} {σ:St} {H:Hp} {s:Shared}
def rEqD (K:PySem.W.Frag):R2:=fun x y H Q=>∃ S d e,Den K H S x d/\Den K H S y e/\SeqAt.shaped d=true/\SeqAt.shaped e=true/\Q (.bl (PyData.eqv d e)) H
def rNeD (K:PySem.W.Frag):R2:=fun x y H Q=>∃ S d e,Den K H S x d/\Den K H S y e/\SeqAt.shaped d=true/\SeqAt.shaped e=true/\Q (.bl (!PyData.eqv d e)) H
theorem qkS {k:Nat} (hr:Room k X.A):OpR X (compareOp .Eq) (rEqD X.K):=by
 intro pins s σ H x y v u Q I rx ry h
 obtain ⟨S,d,e,h1,h2,s1,s2,q⟩:=h
 obtain ⟨as,q1⟩:=h1.reads I (SeqAt.canLay_of_shaped s1) rx
 obtain ⟨bs,q2⟩:=h2.reads I (SeqAt.canLay_of_shaped s2) ry
 exact eq_dataH q1 q2 s1 s2 hr.units (jH I q rfl)
theorem qkV {k:Nat} (hr:Room k X.A):OpR X (compareOp .NotEq) (rNeD X.K):=by
 intro pins s σ H x y v u Q I rx ry h
 obtain ⟨S,d,e,h1,h2,s1,s2,q⟩:=h
 obtain ⟨as,q1⟩:=h1.reads I (SeqAt.canLay_of_shaped s1) rx
 obtain ⟨bs,q2⟩:=h2.reads I (SeqAt.canLay_of_shaped s2) ry
 exact ne_dataH q1 q2 s1 s2 hr.units (jH I q rfl)
theorem qiZ:OpR X (binaryOp .Mult) (rI IntMulOk fun i j=>.int (i * j)):=opI fun _ _ _ _ _ _ _ hc q=>mul_int q hc
inductive TyD (K:PySem.W.Frag) (H:Hp):V->String->Prop
 | non:TyD K H .non "NoneType"
 | bl (b:Bool):TyD K H (.bl b) "bool"
 | int (i:Int):TyD K H (.int i) "int"
 | str (x:Str):TyD K H (.str x) "str"
 | lst {a:Addr} {xs:List V} (h:SqL K H a xs):TyD K H (.ref a) "list"
 | tup {a:Addr} {xs:List V} (h:SqT K H a xs):TyD K H (.ref a) "tuple"
 | dct {a:Addr} {kvs:List (KX×Addr×V)} {ep:Nat} (h:H a=some (DctO a kvs ep)):TyD K H (.ref a) "dict"
def rIsi (K:PySem.W.Frag):List V->Hp->VK->Prop:=fun vs H Q=>∃ x T t b,vs=[x,.ty T]/\TyD K H x t/\PySem.W.kitOne K (.type t) (.type T)=some b/\Q (.bl b) H
theorem qfX:Zx X (.builtin "isinstance") (rIsi X.K):=by
 intro pins s σ H xs us Q I r h
 obtain ⟨x,T,t,b,rfl,ty,e,q⟩:=h
 obtain ⟨u,c,rfl,ru,rc⟩:=r.two
 cases (show c=Value.type T from rc)
 have fin:∀ tk,EP X pins σ Q (.bool b) { s with toks:=tk }:=fun tk=>⟨.bl b,H,I.tok tk,rfl,q⟩
 cases ty with
 | non=>cases (show u=Value.none from ru);exact PySem.W.kia_one PySem.W.kitx_none I.kIn True.intro e (fun z=>nomatch z) fin
 | bl y=>cases (show u=Value.bool y from ru);exact PySem.W.kia_one PySem.W.kitx_bool I.kIn True.intro e (fun z=>nomatch z) fin
 | int i=>obtain ⟨t,q⟩:=(show ∃ t,u=Value.int i t from ru);cases q;exact PySem.W.kia_one PySem.W.kitx_int I.kIn True.intro e (fun z=>nomatch z) fin
 | str y=>obtain ⟨t,q⟩:=(show ∃ t,u=Value.str y t from ru);cases q;exact PySem.W.kia_one PySem.W.kitx_str I.kIn True.intro e (fun z=>nomatch z) fin
 | @lst a xs ea =>
  cases (show u=Value.ref a from ru)
  obtain ⟨_,_,⟨o,n,h1,h2,_⟩,_⟩:=I.list ea
  exact PySem.W.kia_one PySem.W.kitx_list I.kIn ⟨o,h1,h2⟩ e (fun z=>nomatch z) fin
 | @tup a xs ea =>
  cases (show u=Value.ref a from ru)
  obtain ⟨_,_,⟨o,h1,h2,_⟩,_⟩:=I.tuple ea
  exact PySem.W.kia_one PySem.W.kitx_tuple I.kIn ⟨o,h1,h2⟩ e (fun z=>nomatch z) fin
 | @dct a kvs ep ea =>
  cases (show u=Value.ref a from ru)
  obtain ⟨o,_,h1,h2,_⟩:=(zX.of (I.hok a _ ea)).vals
  exact PySem.W.kia_one PySem.W.kitx_dict I.kIn ⟨o,h1,h2.1⟩ e (fun z=>nomatch z) fin
def ExcH (K:PySem.W.Frag) (H:Hp) (a:Addr) (c:Str):Prop:=∃ o,H a=some (.frz o (.own a))/\ExcO K o c
theorem Den.exc {K:PySem.W.Frag} {S:Av} {v:V} {c:Str} {d:PyData} (h:Den K H S v (excD c d)):∃ a,v=.ref a/\ExcH K H a c:=by
 generalize hd:excD c d=x at h
 cases h with
 | @dict a kvs ep ds h k t =>
  have:excK (dkv kvs ds)=true:=by
   have:=PyData.dict.inj hd
   rw [← this];rfl
  rw [qcs] at this
  cases this
 | exc0 h o=>cases hd;exact ⟨_,rfl,_,h,o⟩
 | exc1 h o x y t=>cases hd;exact ⟨_,rfl,_,h,o⟩
 | _=>cases hd
theorem Inv.excAt {a:Addr} {c:Str} (I:Inv X pins σ H s) (h:ExcH X.K H a c):∃ C,PySem.W.nsIn X.K mainGlobals c=some (some (.ref C))/\xcB X.K C=true/\OfC s.heap a C:=by
 obtain ⟨o,ha,C,vs,h1,h2,h3,h4⟩:=h
 exact ⟨C,h3,h4,o,(I.hok a _ ha).1,h1⟩
def qjX (K:PySem.W.Frag):List V->Hp->VK->Prop:=fun vs H Q=>∃ a c T b,vs=[.ref a,.ty T]/\ExcH K H a c/\(∀ C,xcB K C=true->PySem.W.kitOne K (.ref C) (.type T)=some b)/\Q (.bl b) H
theorem qeO:Zx X (.builtin "isinstance") (qjX X.K):=by
 intro pins s σ H xs us Q I r h
 obtain ⟨a,c,T,b,rfl,hx,e,q⟩:=h
 obtain ⟨u,c',rfl,ru,rc⟩:=r.two
 cases (show c'=Value.type T from rc)
 cases (show u=Value.ref a from ru)
 obtain ⟨C,_,h4,IA⟩:=I.excAt hx
 exact PySem.W.kia_one (WN (qcd h4)) I.kIn IA (e C h4) (fun z=>nomatch z) fun tk=>⟨.bl b,H,I.tok tk,rfl,q⟩
end
end L2
namespace L2
open PySem PySem.Spec PyProof.Rows
abbrev Rho:=List (Option PyData)
def DenS (K:PySem.W.Frag) (H:Hp) (S:Av) (M:List Nat) (σ:St) (ρ:Rho):Prop:=Dm S H/\σ.length=ρ.length/\∀ (i:Nat) (d:PyData),i∉M->ρ[i]?=some (some d)->∃ v,σ[i]?=some (some v)/\Den K H S v d
section
variable {K:PySem.W.Frag} {H H':Hp} {S:Av} {M:List Nat} {σ:St} {ρ:Rho} {v:V} {d:PyData}
theorem DenS.same (e:Same H H') (h:DenS K H S M σ ρ):DenS K H' S M σ ρ:=⟨h.1.same e,h.2.1,fun i d n q=>let ⟨v,a,b⟩:=h.2.2 i d n q;⟨v,a,b.same e⟩⟩
theorem DenS.set (h:DenS K H S M σ ρ) (q:Den K H S v d) (i:Nat):DenS K H S M (σ.set i (some v)) (ρ.set i (some d)):=by
 refine ⟨h.1,by rw [List.length_set,List.length_set];exact h.2.1,fun j e n he=>?_⟩
 by_cases hj:i=j
 ·subst hj
  by_cases hi:i < ρ.length
  ·rw [List.getElem?_set_self hi] at he
   cases he
   exact ⟨v,List.getElem?_set_self (by rw [h.2.1];exact hi),q⟩
  ·rw [List.set_eq_of_length_le (by omega)] at he
   exact absurd (List.getElem?_eq_some_iff.mp he).1 hi
 ·rw [List.getElem?_set_ne hj] at he
  obtain ⟨w,a,b⟩:=h.2.2 j e n he
  exact ⟨w,by rw [List.getElem?_set_ne hj];exact a,b⟩
theorem DenS.start {vs:List V} {ds:List PyData} (m:Dm S H) (h:DenL K H S vs ds) (N:List Str):DenS K H S [] (start N vs) (ds.map some ++ List.replicate (N.length - ds.length) none):=by
 have hl:=h.length
 refine ⟨m,?_,fun j e _ he=>?_⟩
 ·unfold L2.start
  rw [List.length_append,List.length_append,List.length_map,List.length_map,List.length_replicate,List.length_replicate,hl]
 ·by_cases hj:j < ds.length
  ·rw [List.getElem?_append_left (by simpa using hj),List.getElem?_map] at he
   cases e1:ds[j]? with
   | none=>rw [e1] at he;cases he
   | some d =>
    rw [e1] at he
    cases he
    obtain ⟨v,a,b⟩:=h.get e1
    refine ⟨v,?_,b⟩
    unfold L2.start
    rw [List.getElem?_append_left (by rw [List.length_map];omega),List.getElem?_map,a]
    rfl
  ·rw [List.getElem?_append_right (by simpa using hj),List.getElem?_replicate] at he
   split at he<;>cases he
end
def tD (K:PySem.W.Frag) (M:List Nat) (f:Rho->Option PyData):TE:=fun σ H Q=>∃ S ρ d,DenS K H S M σ ρ/\f ρ=some d/\∀ v H',Same H H'->Den K H' S v d->Q v H'
def tDA (K:PySem.W.Frag) (M:List Nat) (f:Rho->Option (List PyData)):TA:=fun σ H Q=>∃ S ρ ds,DenS K H S M σ ρ/\f ρ=some ds/\∀ vs H',Same H H'->DenL K H' S vs ds->Q vs H'
def tDT (K:PySem.W.Frag) (M:List Nat) (f:Rho->Option Bool):TT:=fun σ H Q=>∃ S ρ b,DenS K H S M σ ρ/\f ρ=some b/\∀ H',Same H H'->Q b H'
inductive Out where
 | nx (ρ:Rho) | rt (d:PyData) | bk (ρ:Rho) | ct (ρ:Rho)
def PD (X:Cx) (M:List Nat) (e:Expr) (f:Rho->Option PyData):Prop:=PE X e (tD X.K M f)
def PDA (X:Cx) (M:List Nat) (es:List Expr) (f:Rho->Option (List PyData)):Prop:=PA X es (tDA X.K M f)
def PDT (X:Cx) (M:List Nat) (e:Expr) (f:Rho->Option Bool):Prop:=PT X e (tDT X.K M f)
theorem PE.weak {X:Cx} {e:Expr} {t t':TE} (h:PE X e t) (w:∀ σ H Q,t' σ H Q->t σ H Q):PE X e t':=fun pins s σ H Q I q=>h pins s σ H Q I (w σ H Q q)
theorem PT.weak {X:Cx} {e:Expr} {t t':TT} (h:PT X e t) (w:∀ σ H Q,t' σ H Q->t σ H Q):PT X e t':=fun pins s σ H Q I q=>h pins s σ H Q I (w σ H Q q)
theorem PW.weak {X:Cx} {e:Expr} {t t':TT} (h:PW X e t) (w:∀ σ H Q,t' σ H Q->t σ H Q):PW X e t':=fun wh pins s σ H Q I q=>h wh pins s σ H Q I (w σ H Q q)
theorem PA.weak {X:Cx} {e:List Expr} {t t':TA} (h:PA X e t) (w:∀ σ H Q,t' σ H Q->t σ H Q):PA X e t':=fun pos pins s σ H Q I q=>h pos pins s σ H Q I (w σ H Q q)
theorem PS.weak {X:Cx} {e:Stmt} {t t':TS} (h:PS X e t) (w:∀ D σ H,t' D σ H->t D σ H):PS X e t':=fun pins s σ H D I q=>h pins s σ H D I (w D σ H q)
theorem PSs.weak {X:Cx} {e:List Stmt} {t t':TS} (h:PSs X e t) (w:∀ D σ H,t' D σ H->t D σ H):PSs X e t':=fun pins s σ H D I q=>h pins s σ H D I (w D σ H q)
def ob {α β:Type} (a:Option α) (f:α->Option β):Option β:=match a with | some x=>f x | none=>none
theorem qj {α β:Type} {a:Option α} {f:α->Option β} {y:β} (h:ob a f=some y):∃ x,a=some x/\f x=some y:=by
 cases a with
 | none=>cases h
 | some x=>exact ⟨x,rfl,h⟩
def visB (sc:Scope) (x:Str):Bool:=decide (sc.names.lookup x=some .local) || decide (sc.names.lookup x=some .cell) || decide (sc.names.lookup x=some .free)
def locB (sc:Scope) (x:Str):Bool:=decide (sc.names.lookup x=some .local) || decide (sc.names.lookup x=some .cell)
def glB (sc:Scope) (x:Str):Bool:=decide (sc.names.lookup x=some .globalImplicit)
theorem qg {sc:Scope} {x:Str} (h:visB sc x=true):Vis sc x:=by
 unfold visB at h
 simp only [Bool.or_eq_true,decide_eq_true_eq] at h
 rcases h with (h | h) | h
 ·exact .inl h
 ·exact .inr (.inl h)
 ·exact .inr (.inr h)
theorem qO {sc:Scope} {x:Str} (h:locB sc x=true):Loc sc x:=by
 unfold locB at h
 simp only [Bool.or_eq_true,decide_eq_true_eq] at h
 exact h
theorem qD {X:Cx} {x:Str} (sc:Scope) (hs:X.env.scope=sc) (h:glB sc x=true):Gl X x:=by
 subst hs
 have h':X.env.scope.names.lookup x=some .globalImplicit:=of_decide_eq_true h
 exact h'
theorem ZJ {env:Env}:∀ {names:List (Str×NameKind)} {x:Str} {k:NameKind},names.lookup x=some k->
  (names.map fun (n,k)=>if (k == NameKind.free && env.scope.kind == .function && env.kindOf n == some .cell) then (n,NameKind.cell) else (n,k)).lookup x=some k\/
  (k=.free/\(names.map fun (n,k)=>if (k == NameKind.free && env.scope.kind == .function && env.kindOf n == some .cell) then (n,NameKind.cell) else (n,k)).lookup x=some .cell)
 | [],_,_,h=>by simp at h
 | (n,k') :: r,x,k,h=>by
  have ih:=@ZJ env r x k
  show List.lookup x ((if (k' == NameKind.free && env.scope.kind == .function && env.kindOf n == some .cell)=true then (n,NameKind.cell) else (n,k')) :: _)=_\/(_/\List.lookup x ((if (k' == NameKind.free && env.scope.kind == .function && env.kindOf n == some .cell)=true then (n,NameKind.cell) else (n,k')) :: _)=_)
  cases hx:x == n with
  | true =>
   simp only [List.lookup_cons,hx] at h
   cases h
   by_cases hc:(k' == NameKind.free && env.scope.kind == .function && env.kindOf n == some .cell)=true
   ·rw [if_pos hc]
    rw [Bool.and_eq_true,Bool.and_eq_true] at hc
    exact .inr ⟨by simpa using hc.1.1,by simp [List.lookup_cons,hx]⟩
   ·rw [if_neg hc]
    exact .inl (by simp [List.lookup_cons,hx])
  | false =>
   simp only [List.lookup_cons,hx] at h
   by_cases hc:(k' == NameKind.free && env.scope.kind == .function && env.kindOf n == some .cell)=true
   ·rw [if_pos hc]
    simp only [List.lookup_cons,hx]
    exact ih h
   ·rw [if_neg hc]
    simp only [List.lookup_cons,hx]
    exact ih h
section
variable {X:Cx} {x:Str} {N':List Str} {sc:Scope} {cl:List (Str×Addr)} {C:Addr} {fp:List Addr} {pins:List (Addr×Obj)} {s:Shared} {H:Hp}
theorem zr (h:visB sc x=true):Vis (qQ X N' sc cl C fp pins s H).env.scope x:=by
 rcases qg h with h | h | h
 ·rcases ZJ (env:=X.env) h with q | q
  ·exact .inl q
  ·cases q.1
 ·rcases ZJ (env:=X.env) h with q | q
  ·exact .inr (.inl q)
  ·cases q.1
 ·rcases ZJ (env:=X.env) h with q | q
  ·exact .inr (.inr q)
  ·exact .inr (.inl q.2)
theorem qiu (h:glB sc x=true):Gl (qQ X N' sc cl C fp pins s H) x:=by
 rcases ZJ (env:=X.env) (of_decide_eq_true h) with q | q
 ·exact q
 ·cases q.1
end
def vr (i:Nat):Rho->Option PyData:=fun ρ=>(ρ[i]?).join
def kd (d:PyData):Rho->Option PyData:=fun _=>some d
def ev1 (fa:Rho->Option PyData) (g:PyData->Option PyData):Rho->Option PyData:=fun ρ=>ob (fa ρ) g
def aN:Rho->Option (List PyData):=fun _=>some []
def aC (fa:Rho->Option PyData) (fs:Rho->Option (List PyData)):Rho->Option (List PyData):=fun ρ=>ob (fa ρ) fun x=>ob (fs ρ) fun xs=>some (x :: xs)
def evA (fs:Rho->Option (List PyData)) (h:List PyData->Option PyData):Rho->Option PyData:=fun ρ=>ob (fs ρ) h
def evC (n:Nat) (fs:Rho->Option (List PyData)) (h:List PyData->Option PyData):Rho->Option PyData:=fun ρ=>ob (fs ρ) fun ds=>if ds.length=n then h ds else none
def evC0 (h:List PyData->Option PyData):Rho->Option PyData:=fun _=>h []
section
variable {X:Cx} {M:List Nat} {a b c:Expr} {es:List Expr} {f g fa fb:Rho->Option PyData} {pos:Pos}
theorem qe (i:Nat) {x:Str} (hv:Vis X.env.scope x) (hM:i∉M) (hN:X.N[i]?=some x:=by rfl) (hd:(x == ("__debug__" : Str))=false:=by decide +kernel)
  (hcd:(x == ("__classdict__" : Str))=false:=by decide +kernel):PD X M (.Name x pos) (vr i) :=
 (qhf hN hv hd hcd).weak fun σ H Q ⟨S,ρ,d,hs,e,q⟩=>by
  have e:(ρ[i]?).join=some d:=e
  have e':ρ[i]?=some (some d):=by
   cases h:ρ[i]? with
   | none=>rw [h] at e;cases e
   | some o=>rw [h] at e;exact congrArg some e
  obtain ⟨v,h1,h2⟩:=hs.2.2 i d hM e'
  exact ⟨v,h1,q v H (Same.refl H) h2⟩
theorem qi {i j p}:PD X M (.Constant (.int i) j p) (kd (.int i)):=qk8.weak fun σ H Q ⟨S,_,d,_,e,q⟩=>by cases e;exact q _ H (Same.refl H) (.int i)
theorem jW {i j p}:PD X M (.Constant (.bool i) j p) (kd (.bool i)):=pe_bl.weak fun σ H Q ⟨S,_,d,_,e,q⟩=>by cases e;exact q _ H (Same.refl H) (.bool i)
theorem qgZ {j p}:PD X M (.Constant .none j p) (kd .none):=qk9.weak fun σ H Q ⟨S,_,d,_,e,q⟩=>by cases e;exact q _ H (Same.refl H) .none
theorem qk4 {i j p}:PD X M (.Constant (.str i) j p) (kd (.str i)):=qlc.weak fun σ H Q ⟨S,_,d,_,e,q⟩=>by cases e;exact q _ H (Same.refl H) (.str i)
theorem qi4 {x:Str} {v:V} {u:Value} {d:PyData} (hg:Gl X x) (hm:X.mg x=some u) (r:RelV v u) (hd:∀ H S,Den X.K H S v d) (hdb:(x == ("__debug__" : Str))=false:=by decide +kernel):PD X M (.Name x pos) (kd d) :=
 (qbX hg hm r hdb).weak fun σ H Q ⟨S,_,d',_,e,q⟩=>by cases e;exact q _ H (Same.refl H) (hd H S)
def rD2 (K:PySem.W.Frag) (g:PyData->PyData->Option PyData):R2:=fun x y H Q=>∃ S dx dy d,Dm S H/\Den K H S x dx/\Den K H S y dy/\g dx dy=some d/\∀ v H',Same H H'->Den K H' S v d->Q v H'
def OpD (X:Cx) (f:Value->Value->Sem Value) (g:PyData->PyData->Option PyData):Prop:=OpR X f (rD2 X.K g)
def UnD (X:Cx) (f:Value->Sem Value) (g:PyData->Option PyData):Prop:=UnR X f (fun x H Q=>∃ S dx d,Dm S H/\Den X.K H S x dx/\g dx=some d/\∀ v H',Same H H'->Den X.K H' S v d->Q v H')
def CallD (X:Cx) (f:Value) (g:List PyData->Option PyData):Prop:=Zx X f (fun vs H Q=>∃ S ds d,Dm S H/\DenL X.K H S vs ds/\g ds=some d/\∀ v H',Same H H'->Den X.K H' S v d->Q v H')
def ev2 (fa fb:Rho->Option PyData) (g:PyData->PyData->Option PyData) (ρ:Rho):Option PyData:=ob (fa ρ) fun x=>ob (fb ρ) fun y=>g x y
theorem tD2 {K:PySem.W.Frag} {g:PyData->PyData->Option PyData}:∀ σ H Q,tD K M (ev2 fa fb g) σ H Q->tOp (rD2 K g) (tD K M fa) (tD K M fb) σ H Q:=by
 intro σ H Q ⟨S,ρ,d,hs,e,q⟩
 obtain ⟨x,e1,e⟩:=qj e
 obtain ⟨y,e2,e⟩:=qj e
 exact ⟨S,ρ,x,hs,e1,fun v H1 g1 d1=>⟨S,ρ,y,hs.same g1,e2,fun w H2 g2 d2=>⟨S,x,y,d,hs.1.same (g1.trans g2),d1.same g2,d2,e,fun z H3 g3 d3=>q z H3 (g1.trans (g2.trans g3)) d3⟩⟩⟩
theorem qC {op:Operator} {g:PyData->PyData->Option PyData} (ho:OpD X (binaryOp op) g) (ha:PD X M a fa) (hb:PD X M b fb):PD X M (.BinOp a op b pos) (ev2 fa fb g):=(qjV ho ha hb).weak tD2
theorem qbT {op:CmpOp} {g:PyData->PyData->Option PyData} (ho:OpD X (compareOp op) g) (ha:PD X M a fa) (hb:PD X M b fb) (hm:behindInMarks op b=false):PD X M (.Compare a [op] [b] pos) (ev2 fa fb g):=(qi9 ho ha hb hm).weak tD2
theorem qeu {op:UnaryOp} {g:PyData->Option PyData} (ho:UnD X (unaryOp op) g) (ha:PD X M a fa):PD X M (.UnaryOp op a pos) (ev1 fa g) :=
 (pe_un ho ha).weak fun σ H Q ⟨S,ρ,d,hs,e,q⟩=>by
  obtain ⟨x,e1,e⟩:=qj e
  exact ⟨S,ρ,x,hs,e1,fun v H1 g1 d1=>⟨S,x,d,hs.1.same g1,d1,e,fun z H3 g3 d3=>q z H3 (g1.trans g3) d3⟩⟩
def ixD:PyData->PyData->Option PyData
 | .tuple ds,.int i=>atI ds i
 | .list ds,.int i=>atI ds i
 | _,_=>none
theorem DenL.atI {K:PySem.W.Frag} {H:Hp} {S:Av} {vs:List V} {ds:List PyData} {i:Int} {d:PyData} (h:DenL K H S vs ds) (e:atI ds i=some d):∃ v,L2.atI vs i=some v/\Den K H S v d:=by
 unfold L2.atI at e ⊢
 rw [h.length]
 cases q:ixN ds.length i with
 | none=>rw [q] at e;cases e
 | some j=>rw [q] at e;exact h.get e
theorem qU (ha:PD X M a fa) (hb:PD X M b fb) (hs:qbh b:=by intro _ _;rfl):PD X M (.Subscript a b pos) (ev2 fa fb ixD) :=
 (qjU (r:=fun x y H Q=>rIxL X.K x y H Q\/rIxT X.K x y H Q) (qea.or qgj) ha hb hs).weak fun σ H Q ⟨S,ρ,d,hs,e,q⟩=>by
  obtain ⟨x,e1,e⟩:=qj e
  obtain ⟨y,e2,e⟩:=qj e
  refine ⟨S,ρ,x,hs,e1,fun v H1 g1 d1=>⟨S,ρ,y,hs.same g1,e2,fun w H2 g2 d2=>?_⟩⟩
  have d1':=d1.same g2
  cases d1' with
  | list h t =>
   cases d2 with
   | int i=>obtain ⟨z,z1,z2⟩:=t.atI e;exact .inl ⟨_,_,_,_,rfl,rfl,h.sq,z1,q z H2 (g1.trans g2) z2⟩
   | _=>cases e
  | tuple h t =>
   cases d2 with
   | int i=>obtain ⟨z,z1,z2⟩:=t.atI e;exact .inr ⟨_,_,_,_,rfl,rfl,h,z1,q z H2 (g1.trans g2) z2⟩
   | _=>cases e
  | _=>cases e
theorem qm:PDA X M [] aN:=qbR.weak fun σ H Q ⟨S,_,d,_,e,q⟩=>by cases e;exact q [] H (Same.refl H) .nil
theorem qd {fs:Rho->Option (List PyData)} (ha:PD X M a fa) (hr:PDA X M es fs) (hs:starEach (a :: es) X.env=(false,eval a X.env) :: starEach es X.env:=by rfl):PDA X M (a :: es) (aC fa fs) :=
 (JL ha hr hs).weak fun σ H Q ⟨S,ρ,d,hs,e,q⟩=>by
  obtain ⟨x,e1,e⟩:=qj e
  obtain ⟨xs,e2,e⟩:=qj e
  cases e
  exact ⟨S,ρ,x,hs,e1,fun v H1 g1 d1=>⟨S,ρ,xs,hs.same g1,e2,fun vs H2 g2 d2=>q _ H2 (g1.trans g2) (.cons (d1.same g2) d2)⟩⟩
def tupD (ds:List PyData):Option PyData:=if ds.length <= 1000 then some (.tuple ds) else none
def lstD (ds:List PyData):Option PyData:=if ds.length <= 1000 then some (.list ds) else none
theorem qfq {ds:List PyData} {d:PyData} (h:tupD ds=some d):ds.length <= 1000/\d=.tuple ds:=by
 unfold tupD at h
 split at h
 ·rename_i q;cases h;exact ⟨q,rfl⟩
 ·cases h
theorem qaZ {ds:List PyData} {d:PyData} (h:lstD ds=some d):ds.length <= 1000/\d=.list ds:=by
 unfold lstD at h
 split at h
 ·rename_i q;cases h;exact ⟨q,rfl⟩
 ·cases h
theorem zB {fs:Rho->Option (List PyData)} {x1} (h:PDA X M es fs):PD X M (.Tuple es x1 pos) (evA fs tupD) :=
 (qhe h).weak fun σ H Q ⟨S,ρ,d,hs,e,q⟩=>by
  obtain ⟨xs,e1,e⟩:=qj e
  obtain ⟨hz,rfl⟩:=qfq e
  refine ⟨S,ρ,xs,hs,e1,fun vs H1 g1 d1=>⟨Nat.le_of_lt (zq (by rw [d1.length];exact hz)),fun p hp=>?_⟩⟩
  exact q _ _ (g1.lay' hp) (.tuple (SqT.of qR) (d1.same (Same.lay hp)))
theorem qk2 {fs:Rho->Option (List PyData)} (h:PDA X M es fs):PD X M (.List es pos) (evA fs lstD) :=
 (qhc h).weak fun σ H Q ⟨S,ρ,d,hs,e,q⟩=>by
  obtain ⟨xs,e1,e⟩:=qj e
  obtain ⟨hz,rfl⟩:=qaZ e
  refine ⟨S,ρ,xs,hs,e1,fun vs H1 g1 d1=>⟨Nat.le_of_lt (zq (by rw [d1.length];exact hz)),fun p hp=>?_⟩⟩
  exact q _ _ (g1.lay' hp) (.list (SqLS.new qR ((hs.1.same g1).free hp)) (d1.same (Same.lay hp)))
def spF (K:PySem.W.Frag) (n:Nat) (f:List PyData->Option PyData):Sp:=fun vs H Q _=>∃ S ds d,Dm S H/\DenL K H S vs ds/\ds.length=n/\f ds=some d/\∀ v H',Same H H'->Den K H' S v d->Q v H'
theorem qi2 {CX:CXT} {k n:Nat} {fn:Addr} {fd:FuncData} {ps:List Str} {h:List PyData->Option PyData} {E:XK} {x:Str} {p:Pos} {fs:Rho->Option (List PyData)} (F:FnOk X.prog X.w X.K X.mg X.base CX k fn fd ps (spF X.K n h)) (hr:Room k X.A) (hg:Gl X x) (hm:X.mg x=some (.ref fn)) (hk:PySem.W.keepIn X.K (.ref fn)=true)
  (hb:Binds X.K fd ps []) (hx:qbg CX X E) (ha:PDA X M (a :: es) fs) (hl:(a :: es).length=n) (hdb:(x == ("__debug__" : Str))=false:=by decide +kernel) (he:starEach (a :: es) X.env=(false,eval a X.env) :: starEach es X.env:=by rfl) (hpl:(backTo pos (starEach es X.env)).any (·.1)=false:=by rfl) :
  PD X M (.Call (.Name x p) (a :: es) [] pos) (evC n fs h) :=
 (qi8 F hr hg hm hk hb .nil hx ha hdb he hpl).weak fun σ H Q ⟨S,ρ,d,hs,e,q⟩=>by
  obtain ⟨ds,e1,e⟩:=qj e
  have e:(if ds.length=n then h ds else none)=some d:=e
  split at e
  ·rename_i hn
   exact ⟨S,ρ,ds,hs,e1,fun vs H1 g1 d1=>⟨S,ds,d,hs.1.same g1,by rw [List.append_nil];exact d1,hn,e,fun v H' g2 d2=>q v H' (g1.trans g2) d2⟩⟩
  ·cases e
theorem Zh {id:String} {x:Str} {p:Pos} {h:List PyData->Option PyData} {fs:Rho->Option (List PyData)} (hc:CallD X (.builtin id) h) (hg:Gl X x) (hm:X.mg x=none) (hv:bootBuiltins x=some (.builtin id)) (ha:PDA X M (a :: es) fs) (hn:x ≠ "__name__" := by decide +kernel) (hdb:(x == ("__debug__" : Str))=false:=by decide +kernel)
  (he:starEach (a :: es) X.env=(false,eval a X.env) :: starEach es X.env:=by rfl) (hpl:(backTo pos (starEach es X.env)).any (·.1)=false:=by rfl):PD X M (.Call (.Name x p) (a :: es) [] pos) (evA fs h) :=
 (Yh hc hg hm hv ha hn hdb he hpl).weak fun σ H Q ⟨S,ρ,d,hs,e,q⟩=>by
  obtain ⟨ds,e1,e⟩:=qj e
  exact ⟨S,ρ,ds,hs,e1,fun vs H1 g1 d1=>⟨S,ds,d,hs.1.same g1,d1,e,fun v H' g2 d2=>q v H' (g1.trans g2) d2⟩⟩
theorem Za {T:String} {x:Str} {p:Pos} {h:List PyData->Option PyData} {fs:Rho->Option (List PyData)} (hc:CallD X (.type T) h) (hg:Gl X x) (hm:X.mg x=none) (hv:bootBuiltins x=some (.type T)) (ha:PDA X M (a :: es) fs) (hn:x ≠ "__name__" := by decide +kernel) (hdb:(x == ("__debug__" : Str))=false:=by decide +kernel)
  (he:starEach (a :: es) X.env=(false,eval a X.env) :: starEach es X.env:=by rfl) (hpl:(backTo pos (starEach es X.env)).any (·.1)=false:=by rfl):PD X M (.Call (.Name x p) (a :: es) [] pos) (evA fs h) :=
 (qa7 hc hg hm hv ha hn hdb he hpl).weak fun σ H Q ⟨S,ρ,d,hs,e,q⟩=>by
  obtain ⟨ds,e1,e⟩:=qj e
  exact ⟨S,ρ,ds,hs,e1,fun vs H1 g1 d1=>⟨S,ds,d,hs.1.same g1,d1,e,fun v H' g2 d2=>q v H' (g1.trans g2) d2⟩⟩
def tyS:PyData->String
 | .none => "NoneType" | .bool _ => "bool" | .int _ => "int" | .str _ => "str" | .list _ => "list" | .tuple _ => "tuple" | .dict _ => "dict"
def isiT (T:String):PyData->Bool
 | .none=>T == "NoneType" || T == "object"
 | .bool _=>T == "bool" || T == "int" || T == "object"
 | .int _=>T == "int" || T == "object"
 | .str _=>T == "str" || T == "object"
 | .list _=>T == "list" || T == "object"
 | .tuple _=>T == "tuple" || T == "object"
 | .dict _=>T == "dict" || T == "object"
def isiD (T:String) (d:PyData):Option PyData:=some (.bool (isiT T d))
def qcf (K:PySem.W.Frag) (T:String):Prop:=∀ d:PyData,PySem.W.kitOne K (.type (tyS d)) (.type T)=some (isiT T d)
theorem qiH (K:PySem.W.Frag):qcf K "int" := fun d=>by cases d<;>rfl
theorem qgm (K:PySem.W.Frag):qcf K "bool" := fun d=>by cases d<;>rfl
theorem kit_tuple (K:PySem.W.Frag):qcf K "tuple" := fun d=>by cases d<;>rfl
theorem qgn (K:PySem.W.Frag):qcf K "list" := fun d=>by cases d<;>rfl
theorem qd4 {K:PySem.W.Frag} {T:String} {C:Addr} {c:Str} {d:PyData} (hT:T∈qcu) (h:xcB K C=true):PySem.W.kitOne K (.ref C) (.type T)=some (isiT T (excD c d)):=by
 rw [(qcd h).ts T hT]
 have:(T == "dict" || T == "object")=false:=by
  simp only [qcu,List.mem_cons,List.not_mem_nil,or_false] at hT
  rcases hT with rfl | rfl | rfl | rfl | rfl<;>decide +kernel
 exact congrArg some this.symm
theorem qbU {T:String} {p p2:Pos} (kit:qcf X.K T) (hg:Gl X "isinstance") (hm:X.mg "isinstance" = none) (hgT:Gl X (Str.ofString T)) (hmT:X.mg (Str.ofString T)=none) (hvT:bootBuiltins (Str.ofString T)=some (.type T)) (hv:bootBuiltins "isinstance" = some (.builtin "isinstance")) (ha:PD X M a fa) (hnT:Str.ofString T ≠ "__name__" := by decide +kernel) (hdT:(Str.ofString T == ("__debug__" : Str))=false:=by decide +kernel) (hT:T∈qcu:=by decide +kernel)
  (he:starEach [a,.Name (Str.ofString T) p2] X.env=(false,eval a X.env) :: starEach [.Name (Str.ofString T) p2] X.env:=by rfl) (hpl:(backTo pos (starEach [.Name (Str.ofString T) p2] X.env)).any (·.1)=false:=by rfl)
  (hs2:starEach [.Name (Str.ofString T) p2] X.env=(false,eval (.Name (Str.ofString T) p2) X.env) :: starEach [] X.env:=by rfl) :
  PD X M (.Call (.Name "isinstance" p) [a,.Name (Str.ofString T) p2] [] pos) (ev1 fa (isiD T)) :=
 (Yh (qfX.or qeO) hg hm hv (JL ha (JL (qey (v:=.ty T) hgT hmT hvT rfl hnT hdT) qbR hs2) he) (by decide +kernel) (by decide +kernel) he hpl).weak fun σ H Q ⟨S,ρ,d,hs,e,q⟩=>by
  obtain ⟨x,e1,e⟩:=qj e
  cases e
  refine ⟨S,ρ,x,hs,e1,fun v H1 g1 d1=>?_⟩
  have fin:=q (.bl (isiT T x)) H1 g1 (.bool _)
  have k:=kit x
  show rIsi X.K [v,.ty T] H1 Q\/qjX X.K [v,.ty T] H1 Q
  cases d1 with
  | none=>exact .inl ⟨_,_,_,_,rfl,.non,k,fin⟩
  | bool y=>exact .inl ⟨_,_,_,_,rfl,.bl y,k,fin⟩
  | int y=>exact .inl ⟨_,_,_,_,rfl,.int y,k,fin⟩
  | str y=>exact .inl ⟨_,_,_,_,rfl,.str y,k,fin⟩
  | list h t=>exact .inl ⟨_,_,_,_,rfl,.lst h.sq,k,fin⟩
  | tuple h t=>exact .inl ⟨_,_,_,_,rfl,.tup h,k,fin⟩
  | dict h k2 t=>exact .inl ⟨_,_,_,_,rfl,.dct h.1,k,fin⟩
  | exc0 h o=>exact .inr ⟨_,_,_,_,rfl,⟨_,h,o⟩,fun C z=>qd4 hT z,fin⟩
  | exc1 h o x y t=>exact .inr ⟨_,_,_,_,rfl,⟨_,h,o⟩,fun C z=>qd4 hT z,fin⟩
theorem ym {f:Value->Value->Sem Value} {g:PyData->PyData->Option PyData} {r:R2} (h:OpR X f r) (w:∀ x y dx dy d H S (Q:VK),Dm S H->Den X.K H S x dx->Den X.K H S y dy->g dx dy=some d->(∀ v H',Same H H'->Den X.K H' S v d->Q v H')->r x y H Q):OpD X f g :=
 fun pins s σ H x y v u Q I rx ry ⟨S,dx,dy,d,m,h1,h2,e,q⟩=>h pins s σ H x y v u Q I rx ry (w x y dx dy d H S Q m h1 h2 e q)
def iiD (h:Int->Int->Option PyData):PyData->PyData->Option PyData
 | .int i,.int j=>h i j
 | _,_=>none
theorem Wz {h:Int->Int->Option PyData} {x y d:PyData} (e:iiD h x y=some d):∃ i j,x=.int i/\y=.int j/\h i j=some d:=by
 cases x<;>cases y<;>first | exact ⟨_,_,rfl,rfl,e⟩ | cases e
theorem qiV {f:Value->Value->Sem Value} {gi:Int->Int->Int} (h:OpR X f (rI0 fun i j=>.int (gi i j))):OpD X f (iiD fun i j=>some (.int (gi i j))) :=
 ym h fun x y dx dy d H S Q m h1 h2 e q=>by
  obtain ⟨i,j,rfl,rfl,e⟩:=Wz e
  cases h1;cases h2;cases e
  exact ⟨i,j,rfl,rfl,q _ H (Same.refl H) (.int _)⟩
theorem Yc {f:Value->Value->Sem Value} {C:Int->Int->Prop} [∀ i j,Decidable (C i j)] {gi:Int->Int->Int} (h:OpR X f (rI C fun i j=>.int (gi i j))):OpD X f (iiD fun i j=>if C i j then some (.int (gi i j)) else none) :=
 ym h fun x y dx dy d H S Q m h1 h2 e q=>by
  obtain ⟨i,j,rfl,rfl,e'⟩:=Wz e
  split at e'
  ·rename_i c
   cases h1;cases h2;cases e'
   exact ⟨i,j,rfl,rfl,c,q _ H (Same.refl H) (.int _)⟩
  ·cases e'
theorem qgT {f:Value->Value->Sem Value} {gi:Int->Int->Bool} (h:OpR X f (rI0 fun i j=>.bl (gi i j))):OpD X f (iiD fun i j=>some (.bool (gi i j))) :=
 ym h fun x y dx dy d H S Q m h1 h2 e q=>by
  obtain ⟨i,j,rfl,rfl,e⟩:=Wz e
  cases h1;cases h2;cases e
  exact ⟨i,j,rfl,rfl,q _ H (Same.refl H) (.bool _)⟩
instance (i j:Int):Decidable (IntMulOk i j):=by unfold IntMulOk;exact inferInstance
instance (i j:Int):Decidable (CDiv i j):=by unfold CDiv;exact inferInstance
instance (i j:Int):Decidable (CPow i j):=by unfold CPow;exact inferInstance
def subD:PyData->PyData->Option PyData:=iiD fun i j=>some (.int (i - j))
def mulD:PyData->PyData->Option PyData:=iiD fun i j=>if IntMulOk i j then some (.int (i * j)) else none
def zY:PyData->PyData->Option PyData:=iiD fun i j=>if CDiv i j then some (.int (i / j)) else none
def modD:PyData->PyData->Option PyData:=iiD fun i j=>if 0 < j then some (.int (i % j)) else none
def powD:PyData->PyData->Option PyData:=iiD fun i j=>if CPow i j then some (.int (i ^ j.toNat)) else none
theorem yD:OpD X (binaryOp .Sub) subD:=qiV qkX
theorem ZZ:OpD X (binaryOp .Mult) mulD:=Yc qiZ
theorem Qu:OpD X (binaryOp .FloorDiv) zY:=Yc qiY
theorem QK:OpD X (binaryOp .Mod) modD:=Yc (C:=fun _ j=>0 < j) qkU
theorem qjP:OpD X (binaryOp .Pow) powD:=Yc qkW
def leD:PyData->PyData->Option PyData:=iiD fun i j=>some (.bool (decide (i <= j)))
def gtD:PyData->PyData->Option PyData:=iiD fun i j=>some (.bool (decide (j < i)))
def geD:PyData->PyData->Option PyData:=iiD fun i j=>some (.bool (decide (j <= i)))
theorem d_gt:OpD X (compareOp .Gt) gtD:=qgT op_gt
def eqD (x y:PyData):Option PyData:=if SeqAt.shaped x=true/\SeqAt.shaped y=true then some (.bool (PyData.eqv x y)) else none
def neD (x y:PyData):Option PyData:=if SeqAt.shaped x=true/\SeqAt.shaped y=true then some (.bool (!PyData.eqv x y)) else none
theorem d_eq {k:Nat} (hr:Room k X.A):OpD X (compareOp .Eq) eqD:=ym (qkS hr) fun x y dx dy d H S Q m h1 h2 e q=>by
 unfold eqD at e
 split at e
 ·rename_i c;cases e;exact ⟨S,dx,dy,h1,h2,c.1,c.2,q _ H (Same.refl H) (.bool _)⟩
 ·cases e
theorem d_ne {k:Nat} (hr:Room k X.A):OpD X (compareOp .NotEq) neD:=ym (qkV hr) fun x y dx dy d H S Q m h1 h2 e q=>by
 unfold neD at e
 split at e
 ·rename_i c;cases e;exact ⟨S,dx,dy,h1,h2,c.1,c.2,q _ H (Same.refl H) (.bool _)⟩
 ·cases e
def negD:PyData->Option PyData
 | .int i=>some (.int (-i))
 | _=>none
theorem qd0:UnD X (unaryOp .USub) negD:=fun pins s σ H x v Q I rx ⟨S,dx,d,m,h1,e,q⟩=>qlT pins s σ H x v Q I rx (by
 cases h1<;>first | (cases e;exact ⟨_,rfl,q _ H (Same.refl H) (.int _)⟩) | cases e)
def lenD:List PyData->Option PyData
 | [.list ds]=>some (.int ds.length)
 | [.tuple ds]=>some (.int ds.length)
 | _=>none
theorem qci:CallD X (.builtin "len") lenD:=fun pins s σ H xs us Q I r ⟨S,ds,d,m,h1,e,q⟩=>qbk pins s σ H xs us Q I r (by
 cases h1 with
 | nil=>cases e
 | cons a t =>
  cases t with
  | cons a' t'=>cases a<;>cases e
  | nil =>
   cases a with
   | list h t=>cases e;exact ⟨_,_,rfl,.inl h.sq,by rw [t.length];exact q _ H (Same.refl H) (.int _)⟩
   | tuple h t=>cases e;exact ⟨_,_,rfl,.inr h,by rw [t.length];exact q _ H (Same.refl H) (.int _)⟩
   | _=>cases e)
def zV:List PyData->Option PyData
 | [.list ds]=>some (.tuple ds)
 | [.tuple ds]=>some (.tuple ds)
 | _=>none
theorem JC:CallD X (.type "tuple") zV:=fun pins s σ H xs us Q I r ⟨S,ds,d,m,h1,e,q⟩=>qar pins s σ H xs us Q I r (by
 cases h1 with
 | nil=>cases e
 | cons a t =>
  cases t with
  | cons a' t'=>cases a<;>cases e
  | nil =>
   cases a with
   | list h t=>cases e;exact ⟨_,_,rfl,.inl ⟨h.sq,fun l hl=>q _ _ (Same.lay hl) (.tuple (SqT.of qR) (t.same (Same.lay hl)))⟩⟩
   | tuple h t=>cases e;exact ⟨_,_,rfl,.inr ⟨h,q _ H (Same.refl H) (.tuple h t)⟩⟩
   | _=>cases e)
def ju:List PyData->Option PyData
 | [.list ds]=>some (.list ds)
 | [.tuple ds]=>some (.list ds)
 | _=>none
theorem qkc:CallD X (.type "list") ju:=fun pins s σ H xs us Q I r ⟨S,ds,d,m,h1,e,q⟩=>yx pins s σ H xs us Q I r (by
 cases h1 with
 | nil=>cases e
 | cons a t =>
  cases t with
  | cons a' t'=>cases a<;>cases e
  | nil =>
   cases a with
   | list h t=>cases e;exact ⟨_,_,rfl,.inl h.sq,fun l hl=>q _ _ (Same.lay hl) (.list (SqLS.new qR (m.free hl)) (t.same (Same.lay hl)))⟩
   | tuple h t=>cases e;exact ⟨_,_,rfl,.inr h,fun l hl=>q _ _ (Same.lay hl) (.list (SqLS.new qR (m.free hl)) (t.same (Same.lay hl)))⟩
   | _=>cases e)
end
end L2
namespace L2
open PySem PySem.Spec PyProof.Rows
def jU:PyData->Option Bool
 | .bool b=>some b
 | _=>none
def tV (f:Rho->Option PyData):Rho->Option Bool:=fun ρ=>ob (f ρ) jU
def tN (p:Rho->Option Bool):Rho->Option Bool:=fun ρ=>ob (p ρ) fun b=>some (!b)
def tA (p q:Rho->Option Bool):Rho->Option Bool:=fun ρ=>ob (p ρ) fun c=>if c=true then q ρ else some false
def tO (p q:Rho->Option Bool):Rho->Option Bool:=fun ρ=>ob (p ρ) fun c=>if c=true then some true else q ρ
def tT:Rho->Option Bool:=fun _=>some true
def vA (fa fb:Rho->Option PyData):Rho->Option PyData:=fun ρ=>ob (fa ρ) fun x=>ob (jU x) fun c=>if c=true then fb ρ else some (.bool false)
def vO (fa fb:Rho->Option PyData):Rho->Option PyData:=fun ρ=>ob (fa ρ) fun x=>ob (jU x) fun c=>if c=true then some (.bool true) else fb ρ
def vN (fa:Rho->Option PyData):Rho->Option PyData:=fun ρ=>ob (fa ρ) fun x=>ob (jU x) fun c=>some (.bool (!c))
def vIf (p:Rho->Option Bool) (fa fb:Rho->Option PyData):Rho->Option PyData:=fun ρ=>ob (p ρ) fun x=>if x=true then fa ρ else fb ρ
def evI (f:Rho->Option PyData) (h:PyData->Option (List PyData)):Rho->Option (List PyData):=fun ρ=>ob (f ρ) h
def evR (fs:Rho->Option (List PyData)) (h:List PyData->Option (List PyData)):Rho->Option (List PyData):=fun ρ=>ob (fs ρ) h
def sN:Rho->Option Out:=fun ρ=>some (.nx ρ)
def sRet (f:Rho->Option PyData):Rho->Option Out:=fun ρ=>ob (f ρ) fun d=>some (.rt d)
def sIf (p:Rho->Option Bool) (u w:Rho->Option Out):Rho->Option Out:=fun ρ=>ob (p ρ) fun b=>if b=true then u ρ else w ρ
def sSet (i:Nat) (f:Rho->Option PyData):Rho->Option Out:=fun ρ=>ob (f ρ) fun d=>some (.nx (ρ.set i (some d)))
def sAsg (f:Rho->Option PyData) (g:PyData->Rho->Option Rho):Rho->Option Out:=fun ρ=>ob (f ρ) fun d=>ob (g d ρ) fun ρ'=>some (.nx ρ')
def gNm (i:Nat):PyData->Rho->Option Rho:=fun d ρ=>some (ρ.set i (some d))
def gsN:List PyData->Rho->Option Rho:=fun ds ρ=>match ds with | []=>some ρ | _=>none
def gsC (g1:PyData->Rho->Option Rho) (g2:List PyData->Rho->Option Rho):List PyData->Rho->Option Rho:=fun ds ρ=>match ds with | d :: r=>ob (g1 d ρ) fun ρ'=>g2 r ρ' | []=>none
def sBk:Rho->Option Out:=fun ρ=>some (.bk ρ)
def sCt:Rho->Option Out:=fun ρ=>some (.ct ρ)
section
variable {X:Cx} {M:List Nat} {a b c:Expr} {es rest:List Expr} {f g fa fb:Rho->Option PyData} {p q:Rho->Option Bool} {pos:Pos}
theorem Zz {d:PyData} {b:Bool} (h:jU d=some b):d=.bool b:=by cases d<;>first | (cases h;rfl) | cases h
theorem Wf (h:PD X M a f) (he:∀ whole,isTrue a X.env whole=(do let v ← whole;standAt a.pos;holding [v] (truthy v)):=by intro _;rfl):PDT X M a (tV f) :=
 (qlk h he).weak fun σ H Q ⟨S,ρ,d,hs,e,q⟩=>by
  obtain ⟨x,e1,e⟩:=qj e
  cases Zz e
  exact ⟨S,ρ,_,hs,e1,fun v H1 g1 d1=>⟨d,d1.bool_inv,q H1 g1⟩⟩
theorem zN {op:CmpOp} {g:PyData->PyData->Option PyData} (ho:OpD X (compareOp op) g) (ha:PD X M a fa) (hb:PD X M b fb) (hm:behindInMarks op b=false):PDT X M (.Compare a [op] [b] pos) (tV (ev2 fa fb g)) :=
 (qjk ho ha hb hm).weak fun σ H Q ⟨S,ρ,d,hs,e,q⟩=>by
  obtain ⟨x,e1,e⟩:=qj e
  cases Zz e
  exact tD2 σ H _ ⟨S,ρ,_,hs,e1,fun v H1 g1 d1=>⟨d,d1.bool_inv,q H1 g1⟩⟩
theorem We (h:PDT X M a p):PDT X M (.UnaryOp .Not a pos) (tN p) :=
 (qlj h).weak fun σ H Q ⟨S,ρ,d,hs,e,q⟩=>by
  obtain ⟨x,e1,e⟩:=qj e
  cases e
  exact ⟨S,ρ,x,hs,e1,fun H1 g1=>q H1 g1⟩
def PDW (X:Cx) (M:List Nat) (e:Expr) (f:Rho->Option Bool):Prop:=PW X e (tDT X.K M f)
theorem PDW.pdt (h:PDW X M a p):PDT X M a p:=PW.pt h
theorem qcR (h:PDT X M a p):PDW X M (.BoolOp .And [a] pos) p:=qjn h
theorem qi7 (h:PDT X M a p):PDW X M (.BoolOp .Or [a] pos) p:=qlo h
theorem qev (ha:PDT X M a p) (hb:PDW X M (.BoolOp .And (b :: rest) pos) q):PDW X M (.BoolOp .And (a :: b :: rest) pos) (tA p q) :=
 (qln ha hb).weak fun σ H Q ⟨S,ρ,d,hs,e,w⟩=>by
  obtain ⟨x,e1,e⟩:=qj e
  refine ⟨S,ρ,x,hs,e1,fun H1 g1=>?_⟩
  cases x with
  | true=>exact iteT ⟨S,ρ,d,hs.same g1,e,fun H2 g2=>w H2 (g1.trans g2)⟩
  | false=>cases e;exact iteF (w H1 g1)
theorem qk5 (ha:PDT X M a p) (hb:PDW X M (.BoolOp .Or (b :: rest) pos) q):PDW X M (.BoolOp .Or (a :: b :: rest) pos) (tO p q) :=
 (pw_or ha hb).weak fun σ H Q ⟨S,ρ,d,hs,e,w⟩=>by
  obtain ⟨x,e1,e⟩:=qj e
  refine ⟨S,ρ,x,hs,e1,fun H1 g1=>?_⟩
  cases x with
  | true=>cases e;exact iteT (w H1 g1)
  | false=>exact iteF ⟨S,ρ,d,hs.same g1,e,fun H2 g2=>w H2 (g1.trans g2)⟩
theorem qbV {op} (h:PD X M a f):PD X M (.BoolOp op [a] pos) f:=qlb h
theorem qbS (ha:PD X M a fa) (hb:PD X M (.BoolOp .And (b :: rest) pos) fb):PD X M (.BoolOp .And (a :: b :: rest) pos) (vA fa fb) :=
 (qk7 ha hb).weak fun σ H Q ⟨S,ρ,d,hs,e,w⟩=>by
  obtain ⟨x,e1,e⟩:=qj e
  obtain ⟨c,e2,e⟩:=qj e
  cases Zz e2
  refine ⟨S,ρ,_,hs,e1,fun v H1 g1 d1=>⟨c,d1.bool_inv,?_⟩⟩
  cases c with
  | true=>exact iteT ⟨S,ρ,d,hs.same g1,e,fun v H2 g2 d2=>w v H2 (g1.trans g2) d2⟩
  | false=>cases e;exact iteF (w _ H1 g1 (.bool false))
theorem pd_or (ha:PD X M a fa) (hb:PD X M (.BoolOp .Or (b :: rest) pos) fb):PD X M (.BoolOp .Or (a :: b :: rest) pos) (vO fa fb) :=
 (pe_or ha hb).weak fun σ H Q ⟨S,ρ,d,hs,e,w⟩=>by
  obtain ⟨x,e1,e⟩:=qj e
  obtain ⟨c,e2,e⟩:=qj e
  cases Zz e2
  refine ⟨S,ρ,_,hs,e1,fun v H1 g1 d1=>⟨c,d1.bool_inv,?_⟩⟩
  cases c with
  | true=>cases e;exact iteT (w _ H1 g1 (.bool true))
  | false=>exact iteF ⟨S,ρ,d,hs.same g1,e,fun v H2 g2 d2=>w v H2 (g1.trans g2) d2⟩
theorem qk3 (ha:PD X M a fa):PD X M (.UnaryOp .Not a pos) (vN fa) :=
 (qla ha).weak fun σ H Q ⟨S,ρ,d,hs,e,w⟩=>by
  obtain ⟨x,e1,e⟩:=qj e
  obtain ⟨c,e2,e⟩:=qj e
  cases Zz e2
  cases e
  exact ⟨S,ρ,_,hs,e1,fun v H1 g1 d1=>⟨c,d1.bool_inv,w _ H1 g1 (.bool _)⟩⟩
theorem qcP (hc:PDT X M c p) (ha:PD X M a fa) (hb:PD X M b fb):PD X M (.IfExp c a b pos) (vIf p fa fb) :=
 (qhb hc ha hb).weak fun σ H Q ⟨S,ρ,d,hs,e,w⟩=>by
  obtain ⟨x,e1,e⟩:=qj e
  refine ⟨S,ρ,x,hs,e1,fun H1 g1=>?_⟩
  cases x with
  | true=>exact iteT ⟨S,ρ,d,hs.same g1,e,fun v H2 g2 d2=>w v H2 (g1.trans g2) d2⟩
  | false=>exact iteF ⟨S,ρ,d,hs.same g1,e,fun v H2 g2 d2=>w v H2 (g1.trans g2) d2⟩
structure IsIt (K:PySem.W.Frag) (S:Av) (J:It) (H:Hp) (ds:List PyData):Prop where
 go:∀ (i:Nat) (H':Hp),Same H H'->i < ds.length->J.go i H'
 yld:∀ (i:Nat) (H':Hp) (x:V) (H2:Hp),Same H H'->J.yld i H' x H2->Same H' H2/\∀ d,ds[i]?=some d->∀ S':Av,(∀ y e,Den K H S y e->Den K H2 S' y e)->Den K H2 S' x d
 stop:∀ H':Hp,Same H H'->J.stop ds.length H'
theorem IsIt.lst {K:PySem.W.Frag} {H:Hp} {S:Av} {l:Addr} {xs:List V} {ds:List PyData} (h:SqL K H l xs) (t:DenL K H S xs ds):IsIt K S (Itl K l) H ds where
 go:=fun i H' e hi=>by
  have hi':i < xs.length:=by rw [t.length];exact hi
  exact ⟨xs,xs[i],e.seq h,List.getElem?_eq_getElem hi'⟩
 yld:=fun i H' x H2 e ⟨e2,q⟩=>⟨by rw [e2];exact Same.refl _,fun d hd S' w=>by
  obtain ⟨v,h1,h2⟩:=t.get hd
  have:=q xs (e.seq h)
  rw [h1] at this
  cases this
  exact w _ _ h2⟩
 stop:=fun H' e=>⟨xs,e.seq h,by rw [t.length];exact Nat.le_refl _⟩
theorem IsIt.tup {K:PySem.W.Frag} {H:Hp} {S:Av} {l:Addr} {xs:List V} {ds:List PyData} (h:SqT K H l xs) (t:DenL K H S xs ds):IsIt K S (Itt K l) H ds where
 go:=fun i H' e hi=>by
  have hi':i < xs.length:=by rw [t.length];exact hi
  exact ⟨xs,xs[i],e.sqT h,List.getElem?_eq_getElem hi'⟩
 yld:=fun i H' x H2 e ⟨e2,q⟩=>⟨by rw [e2];exact Same.refl _,fun d hd S' w=>by
  obtain ⟨v,h1,h2⟩:=t.get hd
  have:=q xs (e.sqT h)
  rw [h1] at this
  cases this
  exact w _ _ h2⟩
 stop:=fun H' e=>⟨xs,e.sqT h,by rw [t.length];exact Nat.le_refl _⟩
theorem SqLS.off {K:PySem.W.Frag} {H H':Hp} {S:Av} {a:Addr} {xs:List V} (e:Off S H H') (h:SqLS K H S a xs):SqLS K H' S a xs:=h.imp (fun q=>⟨q.1.off e q.2,q.2⟩) id
theorem SqT.off {K:PySem.W.Frag} {H H':Hp} {S:Av} {a:Addr} {xs:List V} (m:Dm S H) (e:Off S H H') (h:SqT K H a xs):SqT K H' a xs:=h.imp (fun q=>q.off e (m.tup q)) id
def rngL:Int->Nat->List PyData
 | _,0=>[]
 | lo,n + 1=>.int lo :: rngL (lo + 1) n
theorem Jm:∀ (lo:Int) (n:Nat),(rngL lo n).length=n
 | _,0=>rfl
 | lo,n + 1=>by rw [rngL,List.length_cons,Jm]
theorem qcX:∀ (lo:Int) (n i:Nat) (d:PyData),(rngL lo n)[i]?=some d->d=.int (lo + i)
 | _,0,_,_,h=>by simp [rngL] at h
 | lo,n + 1,0,d,h=>by simp [rngL] at h;subst h;simp
 | lo,n + 1,i + 1,d,h=>by
  have:=qcX (lo + 1) n i d (by simpa [rngL] using h)
  rw [this]
  congr 1
  omega
theorem IsIt.rng {K:PySem.W.Frag} {H:Hp} {S:Av} (lo:Int) (n:Nat):IsIt K S (Itr lo n) H (rngL lo n) where
 go:=fun i H' e hi=>by rw [Jm] at hi;exact hi
 yld:=fun i H' x H2 e ⟨e2,q⟩=>⟨by rw [e2];exact Same.refl _,fun d hd _ _=>by
  have q':x=.int (lo + i):=q
  rw [qcX lo n i d hd,q']
  exact .int _⟩
 stop:=fun H' e=>by rw [Jm];exact Nat.le_refl n
def tDI (K:PySem.W.Frag) (M:List Nat) (f:Rho->Option (List PyData)):TI:=fun σ H R=>∃ S ρ ds,DenS K H S M σ ρ/\f ρ=some ds/\∀ J H',Same H H'->(∀ H2,Off S H' H2->IsIt K S J H2 ds)->R J H'
def PDI (X:Cx) (M:List Nat) (tg iter:Expr) (f:Rho->Option (List PyData)):Prop:=PI X tg iter (tDI X.K M f)
theorem PI.weak {X:Cx} {tg e:Expr} {t t':TI} (h:PI X tg e t) (w:∀ σ H R,t' σ H R->t σ H R):PI X tg e t':=fun pins s σ H Q I q=>h pins s σ H Q I (w σ H Q q)
def iSeq (K:PySem.W.Frag) (tl:TE):TI:=fun σ H R=>tl σ H fun x H1=>∃ a,x=.ref a/\(((∃ xs,SqL K H1 a xs)/\R (Itl K a) H1)\/((∃ xs,SqT K H1 a xs)/\R (Itt K a) H1))
theorem qhj {tg l:Expr} {tl:TE} (hl:PE X l tl):PI X tg l (iSeq X.K tl):=by
 intro pins s σ H R I h
 refine thn (hl pins s σ H _ I h) fun v s1 ⟨x,H1,I1,r1,q1⟩=>?_
 obtain ⟨a,e,q1⟩:=q1
 subst e
 cases r1
 have fp:∀ b∈[s1.heap.objs.size],FpOk X pins H1 b:=fun b hb=>by
  have e:b=s1.heap.objs.size:=by simpa using hb
  subst e
  exact I1.fpOk (Nat.le_refl _) (I1.hok.fresh (Nat.le_refl _))
 rcases q1 with ⟨⟨xs,hq⟩,q⟩ | ⟨⟨xs,hq⟩,q⟩
 ·obtain ⟨its,rv,p,hz⟩:=I1.list hq
  refine wpAny_pyIter_list p.isList ?_
  exact ⟨s1.heap.objs.size,[s1.heap.objs.size],_,_,H1,rfl,I1.kept (t':=s1.toks) fun b o e=>Heap.get?_push_of_some _ e,qft a _,⟨_,Heap.get?_push_size _ rfl,rfl,rfl⟩,fp,q⟩
 ·obtain ⟨its,rv,p,hz⟩:=I1.tuple hq
  refine wpAny_pyIter_tuple (show s1.heap.IsTuple a its.toArray from p) ?_
  exact ⟨s1.heap.objs.size,[s1.heap.objs.size],_,_,H1,rfl,I1.kept (t':=s1.toks) fun b o e=>Heap.get?_push_of_some _ e,qdG a _,⟨_,Heap.get?_push_size _ rfl,rfl,rfl⟩,fp,q⟩
def seqD:PyData->Option (List PyData)
 | .list ds=>some ds
 | .tuple ds=>some ds
 | _=>none
theorem zM {tg:Expr} (h:PD X M a f):PDI X M tg a (evI f seqD) :=
 (qhj h).weak fun σ H R ⟨S,ρ,ds,hs,e,w⟩=>by
  obtain ⟨x,e1,e⟩:=qj e
  refine ⟨S,ρ,x,hs,e1,fun v H1 g1 d1=>?_⟩
  cases d1 with
  | list h t=>cases e;exact ⟨_,rfl,.inl ⟨⟨_,h.sq⟩,w _ _ g1 fun H2 o=>IsIt.lst (h.off o).sq (t.off (hs.1.same g1) o)⟩⟩
  | tuple h t=>cases e;exact ⟨_,rfl,.inr ⟨⟨_,h⟩,w _ _ g1 fun H2 o=>IsIt.tup (h.off (hs.1.same g1) o) (t.off (hs.1.same g1) o)⟩⟩
  | _=>cases e
def qag:List PyData->Option (List PyData)
 | [.int j]=>if -1000 <= j/\j <= 1000 then some (rngL 0 j.toNat) else none
 | _=>none
def rng2D:List PyData->Option (List PyData)
 | [.int i,.int j]=>if (-1000 <= i/\i <= 1000)/\(-1000 <= j/\j <= 1000) then some (rngL i (j - i).toNat) else none
 | _=>none
theorem qdt {tg:Expr} {fs:Rho->Option (List PyData)} {p:Pos} (hg:Gl X "range") (hm:X.mg "range" = none) (ha:PDA X M [a] fs) (hs:starEach [a] X.env=[(false,eval a X.env)]:=by rfl):PDI X M tg (.Call (.Name "range" p) [a] [] pos) (evR fs qag) :=
 (qa9 hg hm ha hs).weak fun σ H R ⟨S,ρ,ds,hs,e,w⟩=>by
  obtain ⟨xs,e1,e⟩:=qj e
  refine ⟨S,ρ,xs,hs,e1,fun vs H1 g1 d1=>?_⟩
  unfold qag at e
  split at e
  ·rename_i j
   split at e
   ·rename_i hj
    cases e
    obtain ⟨v,rfl,q⟩:=d1.inv1
    cases q
    exact ⟨j,rfl,by omega,by omega,w _ _ g1 fun _ _=>IsIt.rng 0 _⟩
   ·cases e
  ·cases e
def QH (tt:Rho->Option Bool) (te:Rho->Option PyData) (ρ:Rho):List PyData->Option (List PyData)
 | []=>some []
 | d :: ds=>ob (tt (ρ ++ [some d])) fun b=>if b=true then ob (te (ρ ++ [some d])) fun y=>ob (QH tt te ρ ds) fun ys=>some (y :: ys) else QH tt te ρ ds
def jk (n:Nat) (fi:Rho->Option (List PyData)) (tt:Rho->Option Bool) (te:Rho->Option PyData) (ρ:Rho):Option PyData :=
 ob (fi ρ) fun ds=>if ρ.length=n/\ds.length <= 1000 then ob (QH tt te ρ ds) fun ys=>some (.list ys) else none
def PDTs (X:Cx) (M:List Nat) (ifs:List Expr) (p:Rho->Option Bool):Prop:=PTs X ifs (tDT X.K M p)
theorem jw:PDTs X M [] tT:=fun pins s σ H Q I ⟨S,ρ,b,hs,e,q⟩=>by
 cases e
 exact qjl pins s σ H Q I (q H (Same.refl H))
theorem qg7 (h:PDT X M c p):PDTs X M [c] p:=qjm h
def lc1 (sc:Scope) (x:Str):Bool:=decide (sc.names.lookup x=some .local)
def tDGc (K:PySem.W.Frag) (M:List Nat) (g:PyData->Rho->Option Rho):TG:=fun v σ H Q=>∃ S ρ d ρ',DenS K H S M σ ρ/\Den K H S v d/\g d ρ=some ρ'/\∀ σ' H',Same H H'->DenS K H' S M σ' ρ'->Q σ' H'
def tDGcs (K:PySem.W.Frag) (M:List Nat) (g:List PyData->Rho->Option Rho):TGs:=fun vs σ H Q=>∃ S ρ ds ρ',DenS K H S M σ ρ/\DenL K H S vs ds/\g ds ρ=some ρ'/\∀ σ' H',Same H H'->DenS K H' S M σ' ρ'->Q σ' H'
def PDGc (X:Cx) (M:List Nat) (t:Expr) (g:PyData->Rho->Option Rho):Prop:=PG X t (tDGc X.K M g)
def qdL (X:Cx) (M:List Nat) (t:List Expr) (g:List PyData->Rho->Option Rho):Prop:=PGs X t (tDGcs X.K M g)
theorem PG.weak {X:Cx} {e:Expr} {t t':TG} (h:PG X e t) (w:∀ v σ H Q,t' v σ H Q->t v σ H Q):PG X e t':=fun pins s σ H v u Q I r q=>h pins s σ H v u Q I r (w v σ H Q q)
theorem PGs.weak {X:Cx} {e:List Expr} {t t':TGs} (h:PGs X e t) (w:∀ v σ H Q,t' v σ H Q->t v σ H Q):PGs X e t':=fun pins s σ H v u Q I r q=>h pins s σ H v u Q I r (w v σ H Q q)
def unpD (n:Nat) (g:List PyData->Rho->Option Rho):PyData->Rho->Option Rho
 | .tuple ds,ρ=>if ds.length=n then g ds ρ else none
 | _,_=>none
theorem qfb (i:Nat) {x:Str} (hN:X.N.Nodup) (hx:Loc X.env.scope x) (hi:X.N[i]?=some x) (hf:X.fn x=true\/X.env.scope.names.lookup x=some .local):PDGc X M (.Name x pos) (gNm i) :=
 (qez hN hi hx hf).weak fun v σ H Q ⟨S,ρ,d,ρ',hs,hd,e,q⟩=>by
  cases e
  exact q _ H (Same.refl H) (hs.set hd i)
theorem qfc:qdL X M [] gsN :=
 qjc.weak fun v σ H Q ⟨S,ρ,d,ρ',hs,hd,e,q⟩=>by
  cases hd with
  | nil=>cases e;exact ⟨rfl,q _ H (Same.refl H) hs⟩
  | cons a t=>cases e
theorem W7 {t:Expr} {ts:List Expr} {g1:PyData->Rho->Option Rho} {g2:List PyData->Rho->Option Rho} (h1:PDGc X M t g1) (h2:qdL X M ts g2) (hs:(assignEach (t :: ts) X.env).map (·.2)=assign t X.env :: (assignEach ts X.env).map (·.2):=by rfl) :
  qdL X M (t :: ts) (gsC g1 g2) :=
 (qhi h1 h2 hs).weak fun v σ H Q ⟨S,ρ,d,ρ',hs,hd,e,q⟩=>by
  cases hd with
  | nil=>cases e
  | cons a t =>
   obtain ⟨ρ1,e1,e⟩:=qj e
   exact ⟨_,_,rfl,S,ρ,_,ρ1,hs,a,e1,fun σ' H' g1 hs'=>⟨S,ρ1,_,ρ',hs',t.same g1,e,fun σ2 H2 g2 hs2=>q σ2 H2 (g1.trans g2) hs2⟩⟩
theorem qg0 {ts:List Expr} {k:Nat} {n:Nat} {g:List PyData->Rho->Option Rho} (hc:X.calm=true) (h:qdL X M ts g) (hn:(assignEach ts X.env).length=n:=by rfl) (hst:(assignEach ts X.env).findIdx? (·.1)=none:=by rfl):PDGc X M (.Tuple ts k pos) (unpD n g) :=
 (qld hc h hn hst).weak fun v σ H Q ⟨S,ρ,d,ρ',hs,hd,e,q⟩=>by
  cases hd with
  | @tuple a xs ds h t =>
   have e:(if ds.length=n then g ds ρ else none)=some ρ':=e
   split at e
   ·rename_i hl
    exact ⟨_,_,rfl,h,by rw [t.length];exact hl,S,ρ,_,ρ',hs,t,e,q⟩
   ·cases e
  | _=>cases e
def GIn (n k:Nat) (g:PyData->Rho->Option Rho):Prop:=∀ d (ρ r ρ1:Rho),ρ.length=n->r.length=k->g d (ρ ++ r)=some ρ1->∃ r',r'.length=k/\ρ1=ρ ++ r'
def GIns (n k:Nat) (g:List PyData->Rho->Option Rho):Prop:=∀ d (ρ r ρ1:Rho),ρ.length=n->r.length=k->g d (ρ ++ r)=some ρ1->∃ r',r'.length=k/\ρ1=ρ ++ r'
theorem yJ {n k i:Nat} (h:n <= i):GIn n k (gNm i):=fun d ρ r ρ1 h1 h2 e=>by
 cases e
 refine ⟨r.set (i - n) (some d),by rw [List.length_set];exact h2,?_⟩
 rw [List.set_append_right _ _ (by omega),h1]
theorem qge {n k:Nat}:GIns n k gsN:=fun d ρ r ρ1 h1 h2 e=>by
 cases d with
 | nil=>cases e;exact ⟨r,h2,rfl⟩
 | cons _ _=>cases e
theorem qaO {n k:Nat} {g1:PyData->Rho->Option Rho} {g2:List PyData->Rho->Option Rho} (a:GIn n k g1) (b:GIns n k g2):GIns n k (gsC g1 g2):=fun d ρ r ρ1 h1 h2 e=>by
 cases d with
 | nil=>cases e
 | cons d ds =>
  obtain ⟨ρ2,e1,e2⟩:=qj e
  obtain ⟨r1,l1,rfl⟩:=a d ρ r ρ2 h1 h2 e1
  exact b ds ρ r1 ρ1 h1 l1 e2
theorem qit {n k m:Nat} {g:List PyData->Rho->Option Rho} (a:GIns n k g):GIn n k (unpD m g):=fun d ρ r ρ1 h1 h2 e=>by
 cases d with
 | tuple ds =>
  have e:(if ds.length=m then g ds (ρ ++ r) else none)=some ρ1:=e
  split at e
  ·exact a ds ρ r ρ1 h1 h2 e
  ·cases e
 | _=>cases e
def Q5 (k:Nat) (g:PyData->Rho->Option Rho) (tt:Rho->Option Bool) (te:Rho->Option PyData) (ρ:Rho):List PyData->Option (List PyData)
 | []=>some []
 | d :: ds=>ob (g d (ρ ++ List.replicate k none)) fun ρ1=>ob (tt ρ1) fun b=>if b=true then ob (te ρ1) fun y=>ob (Q5 k g tt te ρ ds) fun ys=>some (y :: ys) else Q5 k g tt te ρ ds
def J4 (n k:Nat) (fi:Rho->Option (List PyData)) (g:PyData->Rho->Option Rho) (tt:Rho->Option Bool) (te:Rho->Option PyData) (ρ:Rho):Option PyData :=
 ob (fi ρ) fun ds=>if ρ.length=n/\ds.length <= 1000 then ob (Q5 k g tt te ρ ds) fun ys=>some (.list ys) else none
theorem Wr {tt:Rho->Option Bool} {te:Rho->Option PyData} {ρ:Rho} {n:Nat} (hn:ρ.length=n):∀ ds,Q5 1 (gNm n) tt te ρ ds=QH tt te ρ ds
 | []=>rfl
 | d :: ds=>by
  have e:gNm n d (ρ ++ List.replicate 1 none)=some (ρ ++ [some d]):=by
   show some ((ρ ++ [none]).set n (some d))=_
   rw [← hn,List.set_append_right _ _ (Nat.le_refl _)]
   simp
  rw [Q5,QH,e]
  show (ob (tt (ρ ++ [some d])) fun b=>_)=_
  rw [Wr hn ds]
theorem Wo (n:Nat) (fi:Rho->Option (List PyData)) (tt:Rho->Option Bool) (te:Rho->Option PyData):jk n fi tt te=J4 n 1 fi (gNm n) tt te:=by
 funext ρ
 unfold jk J4
 cases fi ρ with
 | none=>rfl
 | some ds =>
  show (if ρ.length=n/\ds.length <= 1000 then _ else none)=(if ρ.length=n/\ds.length <= 1000 then _ else none)
  split
  ·rename_i h
   rw [Wr h.1]
  ·rfl
theorem DenS.forget {K:PySem.W.Frag} {H:Hp} {S:Av} {σ:St} {ρ r':Rho} {k:Nat} (h:DenS K H S M σ (ρ ++ r')) (hk:r'.length=k):DenS K H S M σ (ρ ++ List.replicate k none):=by
 refine ⟨h.1,by rw [h.2.1,List.length_append,List.length_append,List.length_replicate,hk],fun i d hi e=>?_⟩
 by_cases hlt:i < ρ.length
 ·rw [List.getElem?_append_left hlt] at e
  exact h.2.2 i d hi (by rw [List.getElem?_append_left hlt];exact e)
 ·rw [List.getElem?_append_right (by omega)] at e
  have:=List.getElem?_replicate (a:=(none:Option PyData)) (n:=k) (i:=i - ρ.length)
  rw [this] at e
  split at e<;>cases e
theorem DenS.more {K:PySem.W.Frag} {H:Hp} {S:Av} {σ:St} {ρ:Rho} (k:Nat) (h:DenS K H S M σ ρ):DenS K H S M (σ ++ List.replicate k none) (ρ ++ List.replicate k none):=by
 refine ⟨h.1,by rw [List.length_append,List.length_append,h.2.1,List.length_replicate,List.length_replicate],fun i d hi e=>?_⟩
 by_cases hlt:i < ρ.length
 ·rw [List.getElem?_append_left hlt] at e
  obtain ⟨v,a,b⟩:=h.2.2 i d hi e
  exact ⟨v,by rw [List.getElem?_append_left (by rw [h.2.1];exact hlt)];exact a,b⟩
 ·rw [List.getElem?_append_right (by omega)] at e
  have:=List.getElem?_replicate (a:=(none:Option PyData)) (n:=k) (i:=i - ρ.length)
  rw [this] at e
  split at e<;>cases e
theorem qeG {K:PySem.W.Frag} {n k:Nat} {fi:Rho->Option (List PyData)} {g:PyData->Rho->Option Rho} (hg:GIn n k g):∀ σ H Q S ρ ds ys,DenS K H S M σ ρ->fi ρ=some ds->ρ.length=n->ds.length <= 1000->Q5 k g p f ρ ds=some ys->(∀ H' zs,Same H H'->DenL K H' S zs ys->∀ D,H' D=none->Q (.ref D) (upd H' D (.lst zs)))->qc2 k (tDI K M fi) (tDGc K M g) (tDT K M p) (tD K M f) σ H Q:=by
 intro σ H Q S ρ ds ys hs e1 hn hz e2 q
 refine ⟨S,ρ,ds,hs,e1,fun J H1 g1 hJ0=>?_⟩
 have hJ:=hJ0 H1 fun _ _ _ z=>z
 have z1000:1000 < sizeLine:=zq (Nat.le_refl _)
 refine ⟨fun i m zs σ' H'=>m=ds.length - i/\i <= ds.length/\zs.length <= i/\Same H1 H'/\DenS K H' S M σ' (ρ ++ List.replicate k none)/\∃ pre rest,DenL K H' S zs pre/\Q5 k g p f ρ (ds.drop i)=some rest/\pre ++ rest=ys,⟨ds.length,by simp,Nat.zero_le _,Nat.le_refl _,Same.refl _,(hs.same g1).more k,[],ys,.nil,e2,rfl⟩,?_⟩
 rintro i m zs σ' H' ⟨rfl,hi,hzi,g2,hS,pre,rest,dl,er,rfl⟩
 by_cases hlt:i < ds.length
 ·refine .inr ⟨hJ.go i H' g2 hlt,fun x H2 y=>?_⟩
  obtain ⟨g2',yd⟩:=hJ.yld i H' x H2 g2 y
  have hd:=yd _ (List.getElem?_eq_getElem hlt) S fun y e q=>q.same (g2.trans g2')
  rw [List.drop_eq_getElem_cons hlt] at er
  obtain ⟨ρ1,r1,er⟩:=qj er
  obtain ⟨bb,b1,er⟩:=qj er
  obtain ⟨r',hr',rfl⟩:=hg _ ρ _ ρ1 hn (List.length_replicate) r1
  have g2:=g2.trans g2'
  have dl:=dl.same g2'
  refine ⟨S,_,_,_,hS.same g2',hd,r1,fun σ3 H3 g3 hS3=>⟨S,_,bb,hS3,b1,fun H4 g4=>?_⟩⟩
  cases bb with
  | true =>
   rw [if_pos rfl] at er
   obtain ⟨y1,e3,er⟩:=qj er
   obtain ⟨ys1,e4,er⟩:=qj er
   cases er
   refine iteT ⟨S,_,y1,hS3.same g4,e3,fun v H5 g5 d5=>⟨by omega,ds.length - (i + 1),by omega,rfl,hlt,by rw [List.length_append,List.length_singleton];omega,g2.trans (g3.trans (g4.trans g5)),(hS3.same (g4.trans g5)).forget hr',pre ++ [y1],ys1,(dl.same (g3.trans (g4.trans g5))).snoc d5,e4,by simp⟩⟩
  | false =>
   rw [if_neg Bool.false_ne_true] at er
   exact iteF ⟨ds.length - (i + 1),by omega,rfl,hlt,by omega,g2.trans (g3.trans g4),(hS3.same g4).forget hr',pre,rest,dl.same (g3.trans g4),er,rfl⟩
 ·have hi':i=ds.length:=by omega
  subst hi'
  rw [List.drop_length] at er
  cases er
  refine .inl ⟨hJ.stop H' g2,fun D hD=>q H' zs (g1.trans g2) (by rw [List.append_nil];exact dl) D hD⟩
theorem Wq {n k:Nat} {fi:Rho->Option (List PyData)} {g:PyData->Rho->Option Rho} {tt:Rho->Option Bool} {te:Rho->Option PyData} {ρ:Rho} {d:PyData} (e:J4 n k fi g tt te ρ=some d):∃ ds ys,fi ρ=some ds/\ρ.length=n/\ds.length <= 1000/\Q5 k g tt te ρ ds=some ys/\d=.list ys:=by
 obtain ⟨ds,e1,e⟩:=qj e
 split at e
 ·rename_i hc
  obtain ⟨ys,e2,e⟩:=qj e
  cases e
  exact ⟨ds,ys,e1,hc.1,hc.2,e2,rfl⟩
 ·cases e
theorem qlN {K:PySem.W.Frag} {n k:Nat} {fi:Rho->Option (List PyData)} {g:PyData->Rho->Option Rho} (hg:GIn n k g):∀ σ H Q,tD K M (J4 n k fi g p f) σ H Q->qc2 k (tDI K M fi) (tDGc K M g) (tDT K M p) (tD K M f) σ H Q:=by
 intro σ H Q ⟨S,ρ,d,hs,e,q⟩
 obtain ⟨ds,ys,e1,hn,hz,e2,rfl⟩:=Wq e
 exact qeG hg σ H Q S ρ ds ys hs e1 hn hz e2 fun H' zs g2 dl D hD=>q _ _ (g2.lay' hD) (.list (SqLS.new qR ((hs.1.same g2).free hD)) (dl.same (Same.lay hD)))
section
variable {elt iter tg:Expr} {ifs:List Expr} {x:Str} {N':List Str} {px:Pos} {sc:Scope} {n k:Nat} {fi:Rho->Option (List PyData)} {g:PyData->Rho->Option Rho}
theorem Wg {i:Nat} (O:CompOk X N' k sc) (hx:N'[i]?=some x) (hl:lc1 sc x=true) (cl:List (Str×Addr)) (C:Addr) (fp:List Addr) (pins:List (Addr×Obj)) (s:Shared) (H:Hp):PDGc (qQ X N' sc cl C fp pins s H) M (.Name x px) (gNm i) :=
 have hloc:(relabel sc X.env).names.lookup x=some .local:=lookup_relabel_local (of_decide_eq_true hl)
 qfb (X:=qQ X N' sc cl C fp pins s H) i O.nd' (.inl hloc) hx (.inr hloc)
theorem qgW (O:CompOk X N' k sc) (gi:GIn n k g) (hi:PDI X M tg iter fi) (hg:∀ cl C fp pins s H,PDGc (qQ X N' sc cl C fp pins s H) M tg g) (hq:∀ cl C fp pins s H,PDTs (qQ X N' sc cl C fp pins s H) M ifs p) (he:∀ cl C fp pins s H,PD (qQ X N' sc cl C fp pins s H) M elt f)
  (hs:∀ v,foldedSetIterable iter X.env v=pure v:=by intro _;rfl):PD X M (.ListComp elt [⟨tg,iter,ifs,0⟩] sc pos) (J4 n k fi g p f) :=
 (qja (wg:=tDGc X.K M g) (tt:=tDT X.K M p) (te:=tD X.K M f) O hi hg hq he hs).weak (qlN gi)
theorem Yd (O:CompOk X N' 1 sc) (hx:N'[n]?=some x) (hl:lc1 sc x=true) (hi:PDI X M (.Name x px) iter fi) (hq:∀ cl C fp pins s H,PDTs (qQ X N' sc cl C fp pins s H) M ifs p) (he:∀ cl C fp pins s H,PD (qQ X N' sc cl C fp pins s H) M elt f)
  (hs:∀ v,foldedSetIterable iter X.env v=pure v:=by intro _;rfl):PD X M (.ListComp elt [⟨.Name x px,iter,ifs,0⟩] sc pos) (jk n fi p f):=by
 rw [Wo]
 exact qgW O (yJ (Nat.le_refl _)) hi (Wg O hx hl) hq he hs
end
end
end L2
namespace L2
open PySem PySem.Spec PyProof.Rows
structure Gm where
 H0:Hp
 S0:Av
 lk:Nat->Addr×PyData
def insA (S:Av) (p:Addr):Av:=fun a=>S a\/a=p
inductive OwnO (K:PySem.W.Frag) (H:Hp) (S:Av) (p:Addr):PyData->Prop
 | lst {xs:List V} {ds:List PyData}:H p=some (.lst xs)->DenL K H S xs ds->OwnO K H S p (.list ds)
 | dct {kvs:List (KX×Addr×V)} {ep:Nat} {ds:List PyData}:H p=some (DctO p kvs ep)->DenL K H S (kvs.map fun p=>kxV p.1 p.2.1) (kvs.map fun p=>kxD p.1)->DenL K H S (kvs.map (·.2.2)) ds->OwnO K H S p (.dict (dkv kvs ds))
section
variable {K:PySem.W.Frag} {H H':Hp} {S S':Av} {p:Addr} {d:PyData}
theorem OwnO.same (e:Same H H') (h:OwnO K H S p d):OwnO K H' S p d:=by
 cases h with
 | lst h t=>exact .lst (e _ _ h) (t.same e)
 | dct h k t=>exact .dct (e _ _ h) (k.same e) (t.same e)
theorem OwnO.sub (e:∀ a,H a≠none->S' a->S a) (h:OwnO K H S p d):OwnO K H S' p d:=by
 cases h with
 | lst h t=>exact .lst h (t.sub e)
 | dct h k t=>exact .dct h (k.sub e) (t.sub e)
theorem OwnO.mut (h:OwnO K H S p d):∃ o,H p=some o/\Jl o=true:=by
 cases h with
 | lst h t=>exact ⟨_,h,rfl⟩
 | dct h k t=>exact ⟨_,h,rfl⟩
theorem OwnO.dom (h:OwnO K H S p d):H p≠none:=by
 obtain ⟨o,e,_⟩:=h.mut
 rw [e];exact fun z=>nomatch z
theorem OwnO.den (h:OwnO K H S p d) (n:¬ S' p) (e:∀ a,H a≠none->S' a->S a):Den K H S' (.ref p) d:=by
 cases h with
 | lst h t=>exact .list (SqLS.new h n) (t.sub e)
 | dct h k t=>exact .dict ⟨h,n⟩ (k.sub e) (t.sub e)
theorem OwnO.upd {q:Addr} {o:HO} (m:Dm S H) (h:OwnO K H S p d) (hq:S q) (hm:Jl o=true) (ne:p≠q):OwnO K (upd H q o) S p d:=by
 have off:Off S H (L2.upd H q o):=fun b u n e=>by
  rw [qI (fun z=>n (by rw [z];exact hq))];exact e
 cases h with
 | lst h t=>exact .lst (by rw [qI ne];exact h) (t.off m off)
 | dct h k t=>exact .dct (by rw [qI ne];exact h) (k.off m off) (t.off m off)
theorem Dm.upd {q:Addr} {o:HO} (m:Dm S H) (hm:Jl o=true):Dm S (upd H q o):=fun a ha=>by
 by_cases e:a=q
 ·subst e;exact ⟨o,qR,hm⟩
 ·rw [qI e];exact m a ha
theorem Dm.ins (m:Dm S H) (h:∃ o,H p=some o/\Jl o=true):Dm (insA S p) H:=fun a ha=>by
 rcases ha with ha | rfl
 ·exact m a ha
 ·exact h
end
inductive Kids (K:PySem.W.Frag) (H:Hp) (S:Av):List Addr->List PyData->Prop
 | nil:Kids K H S [] []
 | cons {q:Addr} {xs:List V} {es:List PyData} {qs:List Addr} {ds:List PyData}:H q=some (.lst xs)->DenL K H S xs es->q∉qs->Kids K H S qs ds->Kids K H S (q :: qs) (.list es :: ds)
inductive DeepO (K:PySem.W.Frag) (H:Hp) (S:Av):List Addr->Addr->PyData->Prop
 | tpl {p:Addr} {qs:List Addr} {ds:List PyData}:H p=some (.tup (qs.map V.ref))->Kids K H S qs ds->DeepO K H S qs p (.tuple ds)
 | lst {p:Addr} {qs:List Addr} {ds:List PyData}:H p=some (.lst (qs.map V.ref))->p∉qs->Kids K H S qs ds->DeepO K H S (p :: qs) p (.list ds)
 | dct {p:Addr} {kvs:List (KX×Addr×V)} {ep:Nat} {qs:List Addr} {ds:List PyData}:H p=some (DctO p kvs ep)->DenL K H S (kvs.map fun p=>kxV p.1 p.2.1) (kvs.map fun p=>kxD p.1)->kvs.map (·.2.2)=qs.map V.ref->p∉qs->Kids K H S qs ds->DeepO K H S (p :: qs) p (.dict (dkv kvs ds))
section
variable {K:PySem.W.Frag} {H H':Hp} {S S':Av} {p:Addr} {d:PyData} {fp qs:List Addr} {ds:List PyData}
theorem Kids.same (e:Same H H'):∀ {qs:List Addr} {ds:List PyData},Kids K H S qs ds->Kids K H' S qs ds
 | _,_,.nil=>.nil
 | _,_,.cons h t n r=>.cons (e _ _ h) (t.same e) n (r.same e)
theorem Kids.sub (e:∀ a,H a≠none->S' a->S a):∀ {qs:List Addr} {ds:List PyData},Kids K H S qs ds->Kids K H S' qs ds
 | _,_,.nil=>.nil
 | _,_,.cons h t n r=>.cons h (t.sub e) n (r.sub e)
theorem Kids.mut:∀ {qs:List Addr} {ds:List PyData},Kids K H S qs ds->∀ q∈qs,∃ o,H q=some o/\Jl o=true
 | _,_,.nil,q,hq=>absurd hq (by simp)
 | _,_,.cons h t n r,q,hq=>by
  rcases List.mem_cons.mp hq with e | hq
  ·rw [e];exact ⟨_,h,rfl⟩
  ·exact r.mut q hq
theorem Kids.den (e:∀ a,H a≠none->S' a->S a):∀ {qs:List Addr} {ds:List PyData},(∀ q∈qs,¬ S' q)->Kids K H S qs ds->DenL K H S' (qs.map V.ref) ds
 | _,_,_,.nil=>.nil
 | _,_,n,.cons h t _ r=>.cons (.list (SqLS.new h (n _ (.head _))) (t.sub e)) (r.den e fun q hq=>n q (.tail _ hq))
theorem Kids.upd {q:Addr} {o:HO} (m:Dm S H) (hq:S q):∀ {qs:List Addr} {ds:List PyData},q∉qs->Kids K H S qs ds->Kids K (upd H q o) S qs ds
 | _,_,_,.nil=>.nil
 | _,_,n,.cons h t n' r=>.cons (by rw [qI (fun z=>n (by rw [z];exact .head _))];exact h) (t.off m fun b u z e=>by rw [qI (fun y=>z (by rw [y];exact hq))];exact e) n' (r.upd m hq fun z=>n (.tail _ z))
theorem DeepO.same (e:Same H H') (h:DeepO K H S fp p d):DeepO K H' S fp p d:=by
 cases h with
 | tpl h t=>exact .tpl (e _ _ h) (t.same e)
 | lst h n t=>exact .lst (e _ _ h) n (t.same e)
 | dct h k v n t=>exact .dct (e _ _ h) (k.same e) v n (t.same e)
theorem DeepO.sub (e:∀ a,H a≠none->S' a->S a) (h:DeepO K H S fp p d):DeepO K H S' fp p d:=by
 cases h with
 | tpl h t=>exact .tpl h (t.sub e)
 | lst h n t=>exact .lst h n (t.sub e)
 | dct h k v n t=>exact .dct h (k.sub e) v n (t.sub e)
theorem DeepO.mut (h:DeepO K H S fp p d):∀ q∈fp,∃ o,H q=some o/\Jl o=true:=by
 cases h with
 | tpl h t=>exact t.mut
 | lst h n t=>exact fun q hq=>(List.mem_cons.mp hq).elim (fun e=>by rw [e];exact ⟨_,h,rfl⟩) (t.mut q)
 | dct h k v n t=>exact fun q hq=>(List.mem_cons.mp hq).elim (fun e=>by rw [e];exact ⟨_,h,rfl⟩) (t.mut q)
theorem DeepO.den (h:DeepO K H S fp p d) (n:∀ q∈fp,¬ S' q) (e:∀ a,H a≠none->S' a->S a):Den K H S' (.ref p) d:=by
 cases h with
 | tpl h t=>exact .tuple (.inl (.inl h)) (t.den e n)
 | lst h _ t=>exact .list (SqLS.new h (n _ (.head _))) (t.den e fun q hq=>n q (.tail _ hq))
 | dct h k v _ t=>exact .dict ⟨h,n _ (.head _)⟩ (k.sub e) (by rw [v];exact t.den e fun q hq=>n q (.tail _ hq))
theorem DeepO.upd {q:Addr} {o:HO} (m:Dm S H) (h:DeepO K H S fp p d) (hq:S q) (ne:q∉fp):DeepO K (upd H q o) S fp p d:=by
 have off:Off S H (L2.upd H q o):=fun b u n e=>by
  rw [qI (fun z=>n (by rw [z];exact hq))];exact e
 cases h with
 | tpl h t=>exact .tpl (by rw [qI (fun z=>m.tup (.inl h) (by rw [z];exact hq))];exact h) (t.upd m hq ne)
 | lst h n t=>exact .lst (by rw [qI (fun z=>ne (by rw [z];exact .head _))];exact h) n (t.upd m hq fun z=>ne (.tail _ z))
 | dct h k v n t=>exact .dct (by rw [qI (fun z=>ne (by rw [z];exact .head _))];exact h) (k.off m off) v n (t.upd m hq fun z=>ne (.tail _ z))
end
abbrev Flt (M:List Nat) (i:Nat):Prop:=i∈M/\i + 1000∉M
abbrev Dp (M:List Nat) (i:Nat):Prop:=i∈M/\i + 1000∈M
abbrev Out0 (M:List Nat) (i:Nat):Prop:=i∉M/\i + 1000∉M/\i < 1000
structure SubM (A B:List Nat):Prop where
 sub:∀ i∈A,i∈B
 dp:∀ i∈A,i + 1000∈B->i + 1000∈A
theorem SubM.flt {A B:List Nat} {i:Nat} (h:SubM A B) (q:Flt A i):Flt B i:=⟨h.sub i q.1,fun z=>q.2 (h.dp i q.1 z)⟩
theorem SubM.deep {A B:List Nat} {i:Nat} (h:SubM A B) (q:Dp A i):Dp B i:=⟨h.sub i q.1,h.sub _ q.2⟩
def Has (ρ:Rho) (i:Nat):Prop:=∃ d:PyData,ρ[i]?=some (some d)
structure DeepF (K:PySem.W.Frag) (G:Gm) (M:List Nat) (H:Hp) (S:Av) (σ:St) (ρ:Rho) (F:Nat->List Addr):Prop where
 own:∀ i,Dp M i->∀ d,ρ[i]?=some (some d)->∃ p,σ[i]?=some (some (.ref p))/\DeepO K H S (F i) p d/\∀ q∈F i,S q/\¬ G.S0 q/\G.H0 q=none
 disj:∀ i,Dp M i->∀ j,Dp M j->Has ρ i->Has ρ j->∀ q,q∈F i->q∈F j->i=j
 flat:∀ i,Flt M i->∀ j,Dp M j->Has ρ i->Has ρ j->∀ p,σ[i]?=some (some (.ref p))->p∉F j
structure OwnS (K:PySem.W.Frag) (G:Gm) (M L:List Nat) (H:Hp) (S:Av) (σ:St) (ρ:Rho):Prop where
 ds:DenS K H S M σ ρ
 s0:∀ a,G.S0 a->S a
 h0:Same G.H0 H
 own:∀ i,Flt M i->∀ d,ρ[i]?=some (some d)->∃ p,σ[i]?=some (some (.ref p))/\OwnO K H S p d/\S p/\¬ G.S0 p/\(i∉L->G.H0 p=none)/\(i∈L->(p,d)=G.lk i)
 apart:∀ i,Flt M i->∀ j,Flt M j->∀ d e p,ρ[i]?=some (some d)->ρ[j]?=some (some e)->σ[i]?=some (some (.ref p))->σ[j]?=some (some (.ref p))->i=j
 bnd:∀ a,S a->G.S0 a\/G.H0 a=none\/∃ i∈L,a=(G.lk i).1
 lkd:∀ i∈L,Flt M i/\ρ[i]?=some (some (G.lk i).2)
 deep:∃ F,DeepF K G M H S σ ρ F
section
variable {K:PySem.W.Frag} {G:Gm} {M M' L:List Nat} {H H':Hp} {S:Av} {σ:St} {ρ:Rho} {v:V} {d:PyData}
theorem OwnS.same (e:Same H H') (h:OwnS K G M L H S σ ρ):OwnS K G M L H' S σ ρ :=
 ⟨h.ds.same e,h.s0,h.h0.trans e,fun i hi d q=>let ⟨p,a,b,c⟩:=h.own i hi d q;⟨p,a,b.same e,c⟩,h.apart,h.bnd,h.lkd,let ⟨F,f⟩:=h.deep;⟨F,fun i hi d q=>let ⟨p,a,b,c⟩:=f.own i hi d q;⟨p,a,b.same e,c⟩,f.disj,f.flat⟩⟩
theorem OwnS.lks (h:OwnS K G M L H S σ ρ):∀ i∈L,S (G.lk i).1:=fun i hi=>by
 obtain ⟨hm,e⟩:=h.lkd i hi
 obtain ⟨p,_,_,c,_,_,w⟩:=h.own i hm _ e
 rw [← w hi];exact c
theorem OwnS.den (h:OwnS K G M L H S σ ρ):DenS K H G.S0 [] σ ρ:=by
 refine ⟨h.ds.1.sub h.s0,h.ds.2.1,fun i d _ q=>?_⟩
 by_cases hi:i∈M
 ·by_cases hk:i + 1000∈M
  ·obtain ⟨F,f⟩:=h.deep
   obtain ⟨p,a,b,c⟩:=f.own i ⟨hi,hk⟩ d q
   exact ⟨_,a,b.den (fun q hq=>(c q hq).2.1) fun a _ z=>h.s0 a z⟩
  ·obtain ⟨p,a,b,c,n,_⟩:=h.own i ⟨hi,hk⟩ d q
   exact ⟨_,a,b.den n fun a _ z=>h.s0 a z⟩
 ·obtain ⟨v,a,b⟩:=h.ds.2.2 i d hi q
  exact ⟨v,a,b.sub fun a _ z=>h.s0 a z⟩
theorem qH {α:Type} {xs:List α} {i j:Nat} {x:α} (h:i≠j):(xs.set i x)[j]?=xs[j]?:=List.getElem?_set_ne h
theorem OwnS.set (h:OwnS K G M L H S σ ρ) (q:Den K H S v d) {i:Nat} (hi:i∉M):OwnS K G M L H S (σ.set i (some v)) (ρ.set i (some d)):=by
 have ne:∀ j∈M,i≠j:=fun j hj e=>hi (by rw [e];exact hj)
 obtain ⟨F,f⟩:=h.deep
 refine ⟨h.ds.set q i,h.s0,h.h0,fun j hj e he=>?_,fun j hj k hk e e' p h1 h2 h3 h4=>?_,h.bnd,fun j hj=>⟨(h.lkd j hj).1,by rw [qH (ne j (h.lkd j hj).1.1)];exact (h.lkd j hj).2⟩,F,fun j hj e he=>?_,fun j hj k hk h1 h2=>?_,fun j hj k hk h1 h2 p h3=>?_⟩
 ·rw [qH (ne j hj.1)] at he ⊢
  exact h.own j hj e he
 ·rw [qH (ne j hj.1)] at h1 h3
  rw [qH (ne k hk.1)] at h2 h4
  exact h.apart j hj k hk e e' p h1 h2 h3 h4
 ·rw [qH (ne j hj.1)] at he ⊢
  exact f.own j hj e he
 ·unfold Has at h1 h2
  rw [qH (ne j hj.1)] at h1
  rw [qH (ne k hk.1)] at h2
  exact f.disj j hj k hk h1 h2
 ·unfold Has at h1 h2
  rw [qH (ne j hj.1)] at h1 h3
  rw [qH (ne k hk.1)] at h2
  exact f.flat j hj k hk h1 h2 p h3
theorem OwnS.frz (h:OwnS K G M L H S σ ρ) (hs:SubM M' M) (hl:∀ i∈L,i∈M->i∈M'):∃ S',OwnS K G M' L H S' σ ρ:=by
 obtain ⟨F,f⟩:=h.deep
 have sb:∀ a,(S a/\(¬ ∃ i,Flt M i/\i∉M'/\Has ρ i/\σ[i]?=some (some (.ref a)))/\¬ ∃ i,Dp M i/\i∉M'/\Has ρ i/\a∈F i)->S a:=fun a z=>z.1
 refine ⟨fun a=>S a/\(¬ ∃ i,Flt M i/\i∉M'/\Has ρ i/\σ[i]?=some (some (.ref a)))/\¬ ∃ i,Dp M i/\i∉M'/\Has ρ i/\a∈F i,⟨?_,?_,?_⟩,?_,h.h0,?_,?_,?_,fun i hi=>⟨⟨hl i hi (h.lkd i hi).1.1,fun z=>(h.lkd i hi).1.2 (hs.sub _ z)⟩,(h.lkd i hi).2⟩,F,?_,?_,?_⟩
 ·exact h.ds.1.sub fun a z=>z.1
 ·exact h.ds.2.1
 ·intro i d hi q
  by_cases hm:i∈M
  ·by_cases hk:i + 1000∈M
   ·obtain ⟨p,a,b,c⟩:=f.own i ⟨hm,hk⟩ d q
    exact ⟨_,a,b.den (fun r hr z=>z.2.2 ⟨i,⟨hm,hk⟩,hi,⟨d,q⟩,hr⟩) fun a _ z=>z.1⟩
   ·obtain ⟨p,a,b,c,_⟩:=h.own i ⟨hm,hk⟩ d q
    exact ⟨_,a,b.den (fun z=>z.2.1 ⟨i,⟨hm,hk⟩,hi,⟨d,q⟩,a⟩) fun a _ z=>z.1⟩
  ·obtain ⟨v,a,b⟩:=h.ds.2.2 i d hm q
   exact ⟨v,a,b.sub fun a _ z=>z.1⟩
 ·intro a ha
  refine ⟨h.s0 a ha,fun ⟨i,hm,hi,⟨d,q⟩,e⟩=>?_,fun ⟨i,hm,hi,⟨d,q⟩,e⟩=>?_⟩
  ·obtain ⟨p,e',b,c,n,_⟩:=h.own i hm d q
   rw [e] at e';cases e'
   exact n ha
  ·obtain ⟨p,e',b,c⟩:=f.own i hm d q
   exact (c a e).2.1 ha
 ·intro i hi d q
  obtain ⟨p,a,b,c,n,w,w'⟩:=h.own i (hs.flt hi) d q
  refine ⟨p,a,b.sub fun a _ z=>z.1,⟨c,fun ⟨j,hj,hj',⟨e,q'⟩,a'⟩=>?_,fun ⟨j,hj,hj',q',a'⟩=>?_⟩,n,w,w'⟩
  ·have:=h.apart i (hs.flt hi) j hj d e p q q' a a'
   subst this
   exact hj' hi.1
  ·exact f.flat i (hs.flt hi) j hj ⟨d,q⟩ q' p a a'
 ·exact fun i hi j hj=>h.apart i (hs.flt hi) j (hs.flt hj)
 ·exact fun a z=>h.bnd a z.1
 ·intro i hi d q
  obtain ⟨p,a,b,c⟩:=f.own i (hs.deep hi) d q
  refine ⟨p,a,b.sub fun a _ z=>z.1,fun r hr=>⟨⟨(c r hr).1,fun ⟨j,hj,hj',q',a'⟩=>?_,fun ⟨j,hj,hj',q',a'⟩=>?_⟩,(c r hr).2⟩⟩
  ·exact f.flat j hj i (hs.deep hi) q' ⟨d,q⟩ r a' hr
  ·have:=f.disj i (hs.deep hi) j hj ⟨d,q⟩ q' r hr a'
   subst this
   exact hj' hi.1
 ·exact fun i hi j hj=>f.disj i (hs.deep hi) j (hs.deep hj)
 ·exact fun i hi j hj=>f.flat i (hs.flt hi) j (hs.deep hj)
theorem qkp {i j:Nat} (hi:Out0 M i) (hj:Flt M j):Flt (i :: M) j:=⟨.tail _ hj.1,fun z=>by rcases List.mem_cons.mp z with e | z;(have:=hi.2.2;omega);exact hj.2 z⟩
theorem YB {i j:Nat} (hj:Flt (i :: M) j) (ne:i≠j):Flt M j:=⟨(List.mem_cons.mp hj.1).resolve_left fun z=>ne z.symm,fun z=>hj.2 (.tail _ z)⟩
theorem qd1 {i j:Nat} (hi:Out0 M i) (hj:Dp (i :: M) j):Dp M j:=by
 have q:j + 1000∈M:=(List.mem_cons.mp hj.2).resolve_left fun z=>by have:=hi.2.2;omega
 refine ⟨(List.mem_cons.mp hj.1).resolve_left fun z=>hi.2.1 (by rw [← z];exact q),q⟩
theorem OwnS.take (h:OwnS K G M L H S σ ρ) {p:Addr} {i:Nat} (hn:H p=none) (e:Same H H') (o:OwnO K H' (insA S p) p d) (hi:Out0 M i) (hl:i∉L) (hz:i < ρ.length):OwnS K G (i :: M) L H' (insA S p) (σ.set i (some (.ref p))) (ρ.set i (some d)):=by
 have np:¬ S p:=h.ds.1.free hn
 have sub:∀ a,H a≠none->insA S p a->S a:=fun a ha z=>by
  rcases z with z | rfl
  ·exact z
  ·exact absurd hn ha
 have ne:∀ j∈M,i≠j:=fun j hj e=>hi.1 (by rw [e];exact hj)
 have hz':i < σ.length:=by rw [h.ds.2.1];exact hz
 have gi:(ρ.set i (some d))[i]?=some (some d):=List.getElem?_set_self hz
 have gi':(σ.set i (some (.ref p)))[i]?=some (some (.ref p)):=List.getElem?_set_self hz'
 obtain ⟨F,f⟩:=h.deep
 refine ⟨⟨(h.ds.1.same e).ins o.mut,by rw [List.length_set,List.length_set];exact h.ds.2.1,fun j d' hj q=>?_⟩,fun a z=>.inl (h.s0 a z),h.h0.trans e,fun j hj d' q=>?_,fun j hj k hk d1 d2 q h1 h2 h3 h4=>?_,fun a z=>?_,fun j hj=>⟨qkp hi (h.lkd j hj).1,by rw [qH (fun z=>hl (by rw [z];exact hj))];exact (h.lkd j hj).2⟩,
  F,fun j hj d' q=>?_,fun j hj k hk h1 h2=>?_,fun j hj k hk h1 h2 r h3=>?_⟩
 ·have hij:i≠j:=fun z=>hj (by rw [z];exact .head _)
  rw [qH hij] at q ⊢
  obtain ⟨v,a,b⟩:=h.ds.2.2 j d' (fun z=>hj (.tail _ z)) q
  exact ⟨v,a,(b.sub sub).same e⟩
 ·by_cases hij:i=j
  ·subst hij
   rw [gi] at q;cases q
   exact ⟨p,gi',o,.inr rfl,fun z=>np (h.s0 p z),fun _=>h.h0.free hn,fun z=>absurd z hl⟩
  ·rw [qH hij] at q ⊢
   obtain ⟨q',a,b,c,n,w⟩:=h.own j (YB hj hij) d' q
   exact ⟨q',a,(b.sub sub).same e,.inl c,n,w⟩
 ·have key:∀ m,Flt M m->∀ (d':PyData) (q:Addr),(ρ.set i (some d))[m]?=some (some d')->(σ.set i (some (.ref p)))[m]?=some (some (.ref q))->q≠p:=fun m hm d' q e1 e2 z=>by
   rw [qH (ne m hm.1)] at e1 e2
   obtain ⟨q',a,b,_⟩:=h.own m hm d' e1
   rw [e2] at a;cases a
   subst z
   exact b.dom hn
  by_cases ej:i=j
  ·by_cases ek:i=k
   ·rw [← ej,← ek]
   ·rw [← ej,gi'] at h3
    cases h3
    exact absurd rfl (key k (YB hk ek) d2 p h2 h4)
  ·by_cases ek:i=k
   ·rw [← ek,gi'] at h4
    cases h4
    exact absurd rfl (key j (YB hj ej) d1 p h1 h3)
   ·rw [qH ej] at h1 h3
    rw [qH ek] at h2 h4
    exact h.apart j (YB hj ej) k (YB hk ek) d1 d2 q h1 h2 h3 h4
 ·rcases z with z | rfl
  ·exact h.bnd a z
  ·exact .inr (.inl (h.h0.free hn))
 ·have hj':=qd1 hi hj
  rw [qH (ne j hj'.1)] at q ⊢
  obtain ⟨q',a,b,c⟩:=f.own j hj' d' q
  exact ⟨q',a,(b.sub sub).same e,fun r hr=>⟨.inl (c r hr).1,(c r hr).2⟩⟩
 ·have hj':=qd1 hi hj
  have hk':=qd1 hi hk
  unfold Has at h1 h2
  rw [qH (ne j hj'.1)] at h1
  rw [qH (ne k hk'.1)] at h2
  exact f.disj j hj' k hk' h1 h2
 ·have hk':=qd1 hi hk
  unfold Has at h1 h2
  rw [qH (ne k hk'.1)] at h2
  by_cases ej:i=j
  ·rw [← ej,gi'] at h3
   cases h3
   obtain ⟨d2,e2⟩:=h2
   obtain ⟨q',a,b,c⟩:=f.own k hk' d2 e2
   intro z
   obtain ⟨o2,z2,_⟩:=b.mut p z
   rw [hn] at z2;cases z2
  ·rw [qH ej] at h1 h3
   exact f.flat j (YB hj ej) k hk' h1 h2 r h3
def insL (S:Av) (fp:List Addr):Av:=fun a=>S a\/a∈fp
theorem Dm.insL {fp:List Addr} (m:Dm S H) (h:∀ q∈fp,∃ o,H q=some o/\Jl o=true):Dm (insL S fp) H:=fun a ha=>by
 rcases ha with ha | ha
 ·exact m a ha
 ·exact h a ha
theorem OwnS.write (h:OwnS K G M L H S σ ρ) {p:Addr} {i:Nat} {o:HO} {d₀:PyData} (hi:Flt M i) (hl:i∉L) (e0:ρ[i]?=some (some d₀)) (e1:σ[i]?=some (some (.ref p))) (hm:Jl o=true) (ow:OwnO K (upd H p o) S p d):OwnS K G M L (upd H p o) S σ (ρ.set i (some d)):=by
 obtain ⟨p',a,b,c,n,w,_⟩:=h.own i hi d₀ e0
 rw [e1] at a;cases a
 have off:Off S H (upd H p o):=fun b u z e=>by
  rw [qI (fun y=>z (by rw [y];exact c))];exact e
 have hz:i < ρ.length:=(List.getElem?_eq_some_iff.mp e0).1
 have get:∀ m d',(ρ.set i (some d))[m]?=some (some d')->∃ d'',ρ[m]?=some (some d''):=fun m d' q=>by
  by_cases him:i=m
  ·subst him;exact ⟨_,e0⟩
  ·rw [qH him] at q;exact ⟨_,q⟩
 have get2:∀ m,Has (ρ.set i (some d)) m->Has ρ m:=fun m ⟨d',q⟩=>get m d' q
 have dne:∀ j,Dp M j->i≠j:=fun j hj z=>hi.2 (by rw [z];exact hj.2)
 obtain ⟨F,f⟩:=h.deep
 refine ⟨⟨h.ds.1.upd hm,by rw [List.length_set];exact h.ds.2.1,fun j d' hj q=>?_⟩,h.s0,fun a u q=>?_,fun j hj d' q=>?_,fun j hj k hk d1 d2 q h1 h2 h3 h4=>?_,h.bnd,fun j hj=>⟨(h.lkd j hj).1,by rw [qH (fun z=>hl (by rw [z];exact hj))];exact (h.lkd j hj).2⟩,
  F,fun j hj d' q=>?_,fun j hj k hk h1 h2=>f.disj j hj k hk (get2 j h1) (get2 k h2),fun j hj k hk h1 h2=>f.flat j hj k hk (get2 j h1) (get2 k h2)⟩
 ·have hij:i≠j:=fun z=>hj (by rw [← z];exact hi.1)
  rw [qH hij] at q
  obtain ⟨v,a,b⟩:=h.ds.2.2 j d' hj q
  exact ⟨v,a,b.off h.ds.1 off⟩
 ·have:a≠p:=fun z=>by subst z;rw [w hl] at q;cases q
  rw [qI this]
  exact h.h0 a u q
 ·by_cases hij:i=j
  ·subst hij
   rw [List.getElem?_set_self hz] at q;cases q
   exact ⟨p,e1,ow,c,n,w,fun z=>absurd z hl⟩
  ·rw [qH hij] at q
   obtain ⟨q',a,b',c',n',w'⟩:=h.own j hj d' q
   have:q'≠p:=fun z=>by subst z;exact hij (h.apart i hi j hj d₀ d' q' e0 q e1 a)
   exact ⟨q',a,b'.upd h.ds.1 c hm this,c',n',w'⟩
 ·obtain ⟨x1,y1⟩:=get j d1 h1
  obtain ⟨x2,y2⟩:=get k d2 h2
  exact h.apart j hj k hk x1 x2 q y1 y2 h3 h4
 ·rw [qH (dne j hj)] at q
  obtain ⟨q',a,b',c'⟩:=f.own j hj d' q
  exact ⟨q',a,b'.upd h.ds.1 c (f.flat i hi j hj ⟨_,e0⟩ ⟨_,q⟩ p e1),c'⟩
noncomputable def cut (P:Prop) (o:Option HO):Option HO:=@ite _ P (Classical.propDecidable P) none o
theorem Wa {P:Prop} {o:Option HO} (h:P):cut P o=none:=if_pos h
theorem qbm {P:Prop} {o:Option HO} (h:¬ P):cut P o=o:=if_neg h
noncomputable def Gm.base (G:Gm) (S:Av) (H:Hp):Gm:={ G with H0:=fun a=>cut (S a/\G.H0 a=none) (H a) }
theorem qeK (h:Same G.H0 H):Same G.H0 (G.base S H).H0:=fun a o q=>(qbm (fun z=>by rw [q] at z;cases z.2)).trans (h a o q)
theorem qfN:Off S H (G.base S H).H0:=fun a o n q=>(qbm (fun z=>n z.1)).trans q
theorem qhW:Same (G.base S H).H0 H:=fun a o q=>by
 have q:cut (S a/\G.H0 a=none) (H a)=some o:=q
 by_cases h:S a/\G.H0 a=none
 ·rw [Wa h] at q;cases q
 ·rw [qbm h] at q;exact q
theorem OwnS.base (h:OwnS K G M L H S σ ρ):OwnS K (G.base S H) M L H S σ ρ:=by
 obtain ⟨F,f⟩:=h.deep
 refine ⟨h.ds,h.s0,qhW,fun i hi d q=>?_,h.apart,fun a z=>?_,h.lkd,F,fun i hi d q=>let ⟨p,a,b,c⟩:=f.own i hi d q;⟨p,a,b,fun r hr=>⟨(c r hr).1,(c r hr).2.1,Wa ⟨(c r hr).1,(c r hr).2.2⟩⟩⟩,f.disj,f.flat⟩
 ·obtain ⟨p,a,b,c,n,w,w'⟩:=h.own i hi d q
  exact ⟨p,a,b,c,n,fun hl=>Wa ⟨c,w hl⟩,w'⟩
 ·rcases h.bnd a z with y | y | y
  ·exact .inl y
  ·exact .inr (.inl (Wa ⟨z,y⟩))
  ·exact .inr (.inr y)
theorem OwnS.unbase {G':Gm} (s:Same G.H0 G'.H0) (e:G'.S0=G.S0) (e':G'.lk=G.lk) (h:OwnS K G' M L H S σ ρ):OwnS K G M L H S σ ρ:=by
 obtain ⟨F,f⟩:=h.deep
 refine ⟨h.ds,by rw [← e];exact h.s0,s.trans h.h0,fun i hi d q=>?_,h.apart,fun a z=>?_,by rw [← e'];exact h.lkd,F,fun i hi d q=>let ⟨p,a,b,c⟩:=f.own i hi d q;⟨p,a,b,fun r hr=>⟨(c r hr).1,by rw [← e];exact (c r hr).2.1,s.free (c r hr).2.2⟩⟩,f.disj,f.flat⟩
 ·obtain ⟨p,a,b,c,n,w,w'⟩:=h.own i hi d q
  exact ⟨p,a,b,c,by rw [← e];exact n,fun hl=>s.free (w hl),by rw [← e'];exact w'⟩
 ·rcases h.bnd a z with y | y | y
  ·exact .inl (by rw [← e];exact y)
  ·exact .inr (.inl (s.free y))
  ·exact .inr (.inr (by rw [← e'];exact y))
theorem OwnS.turn {G':Gm} {S':Av} {x:V} (s0:∀ a,G'.S0 a->S a) (sl:∀ i∈L,S (G'.lk i).1) (h:OwnS K G' M L H S' σ ρ) (q:Den K G'.H0 S x d):Den K H S' x d:=by
 refine (q.sub fun a ha z=>?_).same h.h0
 rcases h.bnd a z with y | y | ⟨i,hi,rfl⟩
 ·exact s0 a y
 ·exact absurd y ha
 ·exact sl i hi
end
end L2
namespace L2
open PySem PySem.Spec PyProof.Rows
inductive Fr where
 | pl | nw | dp
def OutQ (K:PySem.W.Frag) (G:Gm) (M' Mb L:List Nat) (fr:Fr) (D:Ends):Out->Prop
 | .nx ρ=>∀ σ' H' S',OwnS K G M' L H' S' σ' ρ->D.nx σ' H'
 | .rt d=>match fr with
  | .nw=>∀ p H',Same G.H0 H'->G.H0 p=none->¬ G.S0 p->OwnO K H' (insA G.S0 p) p d->D.rt (.ref p) H'
  | .dp=>∀ p fp H',Same G.H0 H'->(∀ q∈fp,G.H0 q=none/\¬ G.S0 q)->DeepO K H' (insL G.S0 fp) fp p d->D.rt (.ref p) H'
  | .pl=>∀ v H',Same G.H0 H'->Den K H' G.S0 v d->D.rt v H'
 | .bk ρ=>∀ σ' H' S',OwnS K G Mb L H' S' σ' ρ->D.bk σ' H'
 | .ct ρ=>∀ σ' H' S',OwnS K G Mb L H' S' σ' ρ->D.ct σ' H'
def tDS (K:PySem.W.Frag) (G:Gm) (M L M' Mb:List Nat) (fr:Fr) (f:Rho->Option Out):TS:=fun D σ H=>∃ S ρ o,OwnS K G M L H S σ ρ/\f ρ=some o/\OutQ K G M' Mb L fr D o
def PDS (X:Cx) (G:Gm) (M L M' Mb:List Nat) (fr:Fr) (s:Stmt) (f:Rho->Option Out):Prop:=PS X s (tDS X.K G M L M' Mb fr f)
def PDSs (X:Cx) (G:Gm) (M L M' Mb:List Nat) (fr:Fr) (s:List Stmt) (f:Rho->Option Out):Prop:=PSs X s (tDS X.K G M L M' Mb fr f)
def tF (K:PySem.W.Frag) (M:List Nat) (f:Rho->Option PyData):TE:=fun σ H Q=>∃ S ρ d,DenS K H S M σ ρ/\f ρ=some d/\∀ p H',Same H H'->H p=none->OwnO K H' (insA S p) p d->Q (.ref p) H'
def PF (X:Cx) (M:List Nat) (e:Expr) (f:Rho->Option PyData):Prop:=PE X e (tF X.K M f)
def Qe (f:Rho->Option PyData):Rho->Option PyData:=fun ρ=>ob (f ρ) fun d=>if flat d=true then some d else none
def qaN:PyData->Bool
 | .list ds=>yG ds
 | _=>false
def wu (f:Rho->Option PyData):Rho->Option PyData:=fun ρ=>ob (f ρ) fun d=>if qaN d=true then some d else none
def seqO (u w:Rho->Option Out) (ρ:Rho):Option Out:=ob (u ρ) fun o=>match o with | .nx ρ'=>w ρ' | o=>some o
section
variable {X:Cx} {G:Gm} {M M1 M2 M' Mb L:List Nat} {fr:Fr} {a b c:Expr} {es:List Expr} {f g:Rho->Option PyData} {p:Rho->Option Bool} {pos:Pos} {s1:Stmt} {ss st1 st2:List Stmt} {u w:Rho->Option Out}
theorem W6 (h:PF X M a f):PD X M a f:=h.weak fun σ H Q ⟨S,ρ,d,hs,e,q⟩=>⟨S,ρ,d,hs,e,fun p H' g n o=>q _ H' g (o.den (hs.1.free n) fun a _ z=>.inl z)⟩
theorem OwnO.flat {K:PySem.W.Frag} {H:Hp} {S S':Av} {p:Addr} {d:PyData} (fl:qaN d=true) (h:OwnO K H S p d):OwnO K H S' p d:=by
 cases h with
 | lst h t=>exact .lst h (t.flat fl)
 | dct h k t=>cases fl
theorem Qs:PDSs X G M L M Mb fr [] sN:=qji.weak fun D σ H ⟨S,ρ,o,hs,e,q⟩=>by cases e;exact q σ H S hs
theorem qt (h1:PDS X G M L M1 Mb fr s1 u) (h2:PDSs X G M1 L M2 Mb fr ss w):PDSs X G M L M2 Mb fr (s1 :: ss) (seqO u w) :=
 (qhn h1 h2).weak fun D σ H ⟨S,ρ,o,hs,e,q⟩=>by
  obtain ⟨o1,e1,e⟩:=qj e
  refine ⟨S,ρ,o1,hs,e1,?_⟩
  cases o1 with
  | nx ρ'=>exact fun σ' H' S' hs'=>⟨S',ρ',o,hs',e,q⟩
  | rt d=>cases e;exact q
  | bk d=>cases e;exact q
  | ct d=>cases e;exact q
theorem qz (h1:PDS X G M L M' Mb fr s1 u):PDSs X G M L M' Mb fr [s1] u:=qjj h1
def subB (A B:List Nat):Bool:=A.all fun i=>B.contains i && (!(B.contains (i + 1000)) || A.contains (i + 1000))
theorem qak {A B:List Nat} (h:subB A B=true):∀ i∈A,i∈B:=fun i hi=>by
 have:=List.all_eq_true.mp h i hi
 rw [Bool.and_eq_true] at this
 simpa using this.1
theorem Wh {A B:List Nat} (h:subB A B=true):SubM A B:=⟨qak h,fun i hi hk=>by
 have:=List.all_eq_true.mp h i hi
 rw [Bool.and_eq_true,Bool.or_eq_true] at this
 rcases this.2 with z | z
 ·rw [Bool.not_eq_true',← Bool.not_eq_true] at z
  exact absurd (by simpa using hk) z
 ·simpa using z⟩
theorem qfe (h:PDS X G M1 L M' Mb fr s1 u) (h1:subB M1 M=true:=by decide) (h2:subB L M1=true:=by decide):PDS X G M L M' Mb fr s1 u :=
 h.weak fun D σ H ⟨S,ρ,o,hs,e,q⟩=>let ⟨S',hs'⟩:=hs.frz (Wh h1) fun i hi _=>qak h2 i hi;⟨S',ρ,o,hs',e,q⟩
theorem OutQ.drop {K:PySem.W.Frag} {D:Ends} {o:Out} (h1:subB M1 M'=true) (h2:subB L M1=true) (q:OutQ K G M1 Mb L fr D o):OutQ K G M' Mb L fr D o:=by
 cases o with
 | nx ρ=>exact fun σ' H' S' hs=>let ⟨S2,hs2⟩:=hs.frz (Wh h1) fun i hi _=>qak h2 i hi;q σ' H' S2 hs2
 | rt d=>exact q
 | bk ρ=>exact q
 | ct ρ=>exact q
theorem qi5 (h:PDSs X G M L M' Mb fr ss u) (h1:subB M1 M'=true:=by decide) (h2:subB L M1=true:=by decide):PDSs X G M L M1 Mb fr ss u :=
 h.weak fun D σ H ⟨S,ρ,o,hs,e,q⟩=>⟨S,ρ,o,hs,e,q.drop h1 h2⟩
theorem qX (h:PD X [] a f):PDS X G M L M' Mb .pl (.Return (some a) pos) (sRet f) :=
 (qli h).weak fun D σ H ⟨S,ρ,o,hs,e,q⟩=>by
  obtain ⟨d,e1,e⟩:=qj e
  cases e
  exact ⟨G.S0,ρ,d,hs.den,e1,fun v H' g1 d1=>q v H' (hs.h0.trans g1) d1⟩
theorem qaa (i:Nat) {x:Str} (hv:Vis X.env.scope x) (hN:X.N[i]?=some x:=by rfl) (hd:(x == ("__debug__" : Str))=false:=by decide +kernel)
  (hcd:(x == ("__classdict__" : Str))=false:=by decide +kernel):PE X (.Name x pos) (fun σ H Q=>∃ v,σ[i]?=some (some v)/\Q v H):=qhf hN hv hd hcd
theorem Zv {i:Nat} {ρ:Rho} {d:PyData} (e:vr i ρ=some d):ρ[i]?=some (some d):=by
 have e:(ρ[i]?).join=some d:=e
 cases h:ρ[i]? with
 | none=>rw [h] at e;cases e
 | some o=>rw [h] at e;exact congrArg some e
theorem Zb (hc:PDT X [] c p) (h1:PDSs X G M L M' Mb fr st1 u) (h2:PDSs X G M L M' Mb fr st2 w):PDS X G M L M' Mb fr (.If c st1 st2 pos) (sIf p u w) :=
 (ps_if hc h1 h2).weak fun D σ H ⟨S,ρ,o,hs,e,q⟩=>by
  obtain ⟨d,e1,e⟩:=qj e
  refine ⟨G.S0,ρ,d,hs.den,e1,fun H1 g1=>?_⟩
  cases d with
  | true=>exact iteT ⟨S,ρ,o,hs.same g1,e,q⟩
  | false=>exact iteF ⟨S,ρ,o,hs.same g1,e,q⟩
def tDG (K:PySem.W.Frag) (G:Gm) (M L:List Nat) (g:PyData->Rho->Option Rho):TG:=fun v σ H Q=>∃ S ρ d ρ',OwnS K G M L H S σ ρ/\Den K H S v d/\g d ρ=some ρ'/\∀ σ' H',Same H H'->OwnS K G M L H' S σ' ρ'->Q σ' H'
def PDG (X:Cx) (G:Gm) (M L:List Nat) (t:Expr) (g:PyData->Rho->Option Rho):Prop:=PG X t (tDG X.K G M L g)
theorem zJ (i:Nat) {x:Str} (hN:X.N.Nodup) (hx:Loc X.env.scope x) (hM:i∉M) (hi:X.N[i]?=some x:=by rfl) (hf:X.fn x=true\/X.env.scope.names.lookup x=some .local:=by first | exact .inl rfl | exact .inr rfl | assumption):PDG X G M L (.Name x pos) (gNm i) :=
 (qez hN hi hx hf).weak fun v σ H Q ⟨S,ρ,d,ρ',hs,hd,e,q⟩=>by
  cases e
  exact q _ H (Same.refl H) (hs.set hd hM)
theorem zx (i:Nat) {x:Str} {p':Pos} (hN:X.N.Nodup) (hx:Loc X.env.scope x) (hi:X.N[i]?=some x) (hs:swapsWith a (some (.Name x p')) pos.line X.env=pure false) (hf:X.fn x=true\/X.env.scope.names.lookup x=some .local) (hM:i∉M) (he:PD X M a f) :
  PDS X G M L M Mb fr (.Assign [.Name x p'] a pos) (sSet i f) :=
 (qdx hN hi hx he hs hf).weak fun D σ H ⟨S,ρ,o,hs,e,q⟩=>by
  obtain ⟨d,e1,e⟩:=qj e
  cases e
  exact ⟨S,ρ,d,hs.ds,e1,fun v H1 g1 d1=>q _ H1 S ((hs.same g1).set d1 hM)⟩
def zP (i:Nat) (f:Rho->Option PyData):Rho->Option Out:=fun ρ=>if i < ρ.length then ob (f ρ) fun d=>some (.nx (ρ.set i (some d))) else none
theorem QS (i:Nat) {x:Str} {p':Pos} (hN:X.N.Nodup) (hx:Loc X.env.scope x) (hi:X.N[i]?=some x) (hs:swapsWith a (some (.Name x p')) pos.line X.env=pure false) (hf:X.fn x=true\/X.env.scope.names.lookup x=some .local) (hM:Out0 M i) (hL:i∉L) (he:PF X M a f) :
  PDS X G M L (i :: M) Mb fr (.Assign [.Name x p'] a pos) (zP i f) :=
 (qdx hN hi hx he hs hf).weak fun D σ H ⟨S,ρ,o,hs,e,q⟩=>by
  unfold zP at e
  split at e
  ·rename_i hz
   obtain ⟨d,e1,e⟩:=qj e
   cases e
   exact ⟨S,ρ,d,hs.ds,e1,fun p H1 g1 n o=>q _ H1 _ (hs.take n g1 o hM hL hz)⟩
  ·cases e
theorem qff (i:Nat) {x:Str} {p':Pos} (hN:X.N.Nodup) (hx:Loc X.env.scope x) (hi:X.N[i]?=some x) (hs:swapsWith a (some (.Name x p')) pos.line X.env=pure false) (hf:X.fn x=true\/X.env.scope.names.lookup x=some .local) (hM:Out0 M i) (hL:i∉L) (he:PF X [] a f) :
  PDS X G M L (i :: M) Mb fr (.Assign [.Name x p'] a pos) (zP i (wu f)) :=
 (qdx hN hi hx he hs hf).weak fun D σ H ⟨S,ρ,o,hs,e,q⟩=>by
  unfold zP at e
  split at e
  ·rename_i hz
   obtain ⟨d,e1,e⟩:=qj e
   cases e
   obtain ⟨d',e3,e4⟩:=qj e1
   split at e4
   ·rename_i hf
    cases e4
    exact ⟨G.S0,ρ,d,hs.den,e3,fun p H1 g1 n o=>q _ H1 _ (hs.take n g1 (o.flat hf) hM hL hz)⟩
   ·cases e4
  ·cases e
def forD (g:PyData->Rho->Option Rho) (body:Rho->Option Out):List PyData->Rho->Option Out
 | [],ρ=>some (.nx ρ)
 | d :: ds,ρ=>ob (g d ρ) fun ρ1=>ob (body ρ1) fun o=>match o with
  | .nx ρ'=>forD g body ds ρ'
  | .ct ρ'=>forD g body ds ρ'
  | .bk ρ'=>some (.nx ρ')
  | .rt r=>some (.rt r)
def sFor (fi:Rho->Option (List PyData)) (g:PyData->Rho->Option Rho) (u:Rho->Option Out):Rho->Option Out:=fun ρ=>ob (fi ρ) fun ds=>forD g u ds ρ
theorem OutQ.based {K:PySem.W.Frag} {G':Gm} {D:Ends} {o:Out} (s:Same G.H0 G'.H0) (e:G'.S0=G.S0) (e':G'.lk=G.lk) (q:OutQ K G M' Mb L fr D o):OutQ K G' M' Mb L fr D o:=by
 cases o with
 | nx ρ=>exact fun σ' H' S' hs=>q σ' H' S' (hs.unbase s e e')
 | rt d =>
  cases fr with
  | nw=>exact fun p H' h0 n n' o=>q p H' (s.trans h0) (s.free n) (by rw [← e];exact n') (by rw [← e];exact o)
  | dp=>exact fun p fp H' h0 n o=>q p fp H' (s.trans h0) (fun r hr=>⟨s.free (n r hr).1,by rw [← e];exact (n r hr).2⟩) (by rw [← e];exact o)
  | pl=>exact fun v H' h0 d=>q v H' (s.trans h0) (by rw [← e];exact d)
 | bk ρ=>exact fun σ' H' S' hs=>q σ' H' S' (hs.unbase s e e')
 | ct ρ=>exact fun σ' H' S' hs=>q σ' H' S' (hs.unbase s e e')
theorem Qq {tg iter:Expr} {body:List Stmt} {fi:Rho->Option (List PyData)} {g:PyData->Rho->Option Rho} (hp:PassesOwn (model X.prog X.w) X.A X.env X.xe) (hc:X.calm=true) (hi:PDI X M tg iter fi) (hg:∀ G,PDG X G M L tg g) (hb:∀ G,PDSs X G M L M M fr body u)
  (hs:∀ x,foldedSetIterable iter X.env x=pure x:=by intro _;rfl):PDS X G M L M Mb fr (.For tg iter body [] pos) (sFor fi g u):=by
 have hg':PG X tg (fun v σ H Q=>∃ G,tDG X.K G M L g v σ H Q):=fun pins s σ H v u Q I r ⟨G,q⟩=>hg G pins s σ H v u Q I r q
 have hb':PSs X body (fun D σ H=>∃ G,tDS X.K G M L M M fr u D σ H):=fun pins s σ H D I ⟨G,q⟩=>hb G pins s σ H D I q
 refine (qdw hp hc hi hg' hb' hs).weak fun D σ H ⟨S,ρ,o,os,e,q⟩=>?_
 obtain ⟨ds,e1,e⟩:=qj e
 refine ⟨S,ρ,ds,os.ds,e1,fun J H1 g1 hJ0=>?_⟩
 have os1:=os.same g1
 have hJ:IsIt X.K S J ((G.base S H1).H0) ds:=hJ0 _ qfN
 have bs:Same G.H0 (G.base S H1).H0:=qeK os1.h0
 have bo:=os1.base
 have sl:=os1.lks
 generalize hG:G.base S H1=G1 at hJ bs bo
 have eS:G1.S0=G.S0:=by rw [← hG];rfl
 have eL:G1.lk=G.lk:=by rw [← hG];rfl
 have sl1:∀ i∈L,S (G1.lk i).1:=by rw [eL];exact sl
 have s01:∀ a,G1.S0 a->S a:=by rw [eS];exact os.s0
 refine ⟨fun i m σ' H'=>m=ds.length - i/\i <= ds.length/\∃ S' ρ o,OwnS X.K G1 M L H' S' σ' ρ/\forD g u (ds.drop i) ρ=some o/\OutQ X.K G M Mb L fr D o,⟨ds.length,by simp,Nat.zero_le _,S,ρ,o,bo,e,q⟩,?_⟩
 rintro i m σ' H' ⟨rfl,hi,S',ρ',o',hs',e',q'⟩
 by_cases hlt:i < ds.length
 ·rw [List.drop_eq_getElem_cons hlt] at e'
  obtain ⟨ρ1,e2,e'⟩:=qj e'
  obtain ⟨o1,e3,e'⟩:=qj e'
  have key:∀ N:St->Hp->Prop,OutQ X.K G1 M M L fr { D with nx:=N,ct:=N,bk:=D.nx } o1->∀ x H2,J.yld i H' x H2->∃ G,tDG X.K G M L g x σ' H2 fun σ2 H2=>∃ G,tDS X.K G M L M M fr u { D with nx:=N,ct:=N,bk:=D.nx } σ2 H2:=fun N hN x H2 y=>by
   obtain ⟨e4,yd⟩:=hJ.yld i H' x H2 hs'.h0 y
   exact ⟨G1,S',ρ',_,ρ1,hs'.same e4,yd _ (List.getElem?_eq_getElem hlt) S' fun y e q=>(hs'.turn s01 sl1 q).same e4,e2,fun σ2 H3 g3 hs3=>⟨G1,S',ρ1,o1,hs3,e3,hN⟩⟩
  refine .inr ⟨hJ.go i H' hs'.h0 hlt,?_⟩
  have next:∀ ρ2,forD g u (ds.drop (i + 1)) ρ2=some o'->∃ N:St->Hp->Prop,(∀ σ' H'',N σ' H''->∃ m',m' < ds.length - i/\(m'=ds.length - (i + 1)/\i + 1 <= ds.length/\∃ S' ρ o,OwnS X.K G1 M L H'' S' σ' ρ/\forD g u (ds.drop (i + 1)) ρ=some o/\OutQ X.K G M Mb L fr D o))/\∀ σ2 H2 S2,OwnS X.K G1 M L H2 S2 σ2 ρ2->N σ2 H2:=fun ρ2 e4 =>
   ⟨fun σ2 H2=>∃ S2,OwnS X.K G1 M L H2 S2 σ2 ρ2,fun σ2 H2 ⟨S2,hs3⟩=>⟨ds.length - (i + 1),by omega,rfl,hlt,S2,ρ2,o',hs3,e4,q'⟩,fun σ2 H2 S2 hs3=>⟨S2,hs3⟩⟩
  cases o1 with
  | nx ρ2 =>
   obtain ⟨N,n1,n2⟩:=next ρ2 e'
   exact ⟨N,n1,key N fun σ3 H3 S3 hs3=>n2 σ3 H3 S3 hs3⟩
  | ct ρ2 =>
   obtain ⟨N,n1,n2⟩:=next ρ2 e'
   exact ⟨N,n1,key N fun σ3 H3 S3 hs3=>n2 σ3 H3 S3 hs3⟩
  | bk ρ2 =>
   cases e'
   exact ⟨fun _ _=>False,fun _ _ z=>z.elim,key _ fun σ3 H3 S3 hs3=>q' σ3 H3 S3 (hs3.unbase bs eS eL)⟩
  | rt r =>
   cases e'
   refine ⟨fun _ _=>False,fun _ _ z=>z.elim,key _ ?_⟩
   have q2:OutQ X.K G1 M Mb L fr D (.rt r):=q'.based bs eS eL
   exact q2
 ·have hi':i=ds.length:=by omega
  subst hi'
  rw [List.drop_length] at e'
  cases e'
  exact .inl ⟨hJ.stop H' hs'.h0,q' σ' H' S' (hs'.unbase bs eS eL)⟩
end
end L2
namespace L2
open PySem PySem.Spec PyProof.Rows
def outD:Out->Option PyData
 | .rt d=>some d
 | .nx _=>some .none
 | _=>none
def outF:Out->Option PyData
 | .rt d=>some d
 | _=>none
def rho0 (n:Nat) (ds:List PyData):Rho:=ds.map some ++ List.replicate (n - ds.length) none
def G0 (H:Hp) (S:Av):Gm:=⟨H,S,fun _=>(0,.none)⟩
theorem OwnS.start {K:PySem.W.Frag} {H:Hp} {S:Av} {vs:List V} {ds:List PyData} (m:Dm S H) (h:DenL K H S vs ds) (N:List Str):OwnS K (G0 H S) [] [] H S (start N vs) (rho0 N.length ds) :=
 ⟨DenS.start m h N,fun _ z=>z,Same.refl _,(fun _ h=>nomatch h.1),(fun _ h=>nomatch h.1),fun _ z=>.inl z,(fun _ h=>nomatch h),fun _=>[],(fun _ h=>nomatch h.1),(fun _ h=>nomatch h.1),(fun _ h=>nomatch h.1)⟩
def spN (K:PySem.W.Frag) (n:Nat) (f:List PyData->Option PyData):Sp:=fun vs H Q _=>∃ S ds d,Dm S H/\DenL K H S vs ds/\ds.length=n/\f ds=some d/\∀ p H',Same H H'->H p=none->OwnO K H' (insA S p) p d->Q (.ref p) H'
structure FunG (K:PySem.W.Frag) (x qual:Str) (st:Stmt) (f:Addr) (fd:FuncData):Prop where
 ex:∃ (oc dV:Value) (od:Option Addr) (kV doc pm:Value) (an:Option Addr) (cdv ct:Value) (osl:Array (Option Value)),
  fd=PySem.W.fnOf x qual (qY st) (qJ st) (qb st) dV kV doc pm an cdv ct/\K.lookup f=some ⟨oc,od,.func fd,osl⟩/\PySem.W.codeIn K cdv qual=true
 kp:PySem.W.keepIn K (.ref f)=true
theorem Fun.g {K:PySem.W.Frag} {x qual:Str} {st:Stmt} {f:Addr} {fd:FuncData} (F:Fun K x qual st f fd):FunG K x qual st f fd:=by
 obtain ⟨oc,od,kV,doc,pm,an,cdv,ct,osl,e,lk,hcd⟩:=F.ex
 exact ⟨⟨oc,_,od,kV,doc,pm,an,cdv,ct,osl,e,lk,hcd⟩,F.kp⟩
section
variable {P:Program} {w:World} {K:PySem.W.Frag} {mg:Str->Option Value} {base:Heap}
theorem FunG.ok {x qual:Str} {st:Stmt} {f:Addr} {fd:FuncData} {N ps:List Str} {k:Nat} {sp:Sp} (F:FunG K x qual st f fd) (S:FnScope N ps (qb st)) (len:∀ vs H Q E,sp vs H Q E->vs.length=ps.length)
  (hbody:∀ (cdv:Value) (A:Around) (outer:List Env) (s:Shared) (H:Hp) (vs:List V) (Q:VK) (E:XK),Room k (A.deeper (envOfC qual (qb st) s.heap.objs.size f cdv))->sp vs H Q E->
   ∃ t,PSs (cxOf CX0 P w K mg base N qual (qb st) f cdv A outer s H E).nox (qJ st) t/\t { nx:=fun _ H'=>Q .non H',rt:=Q } (start N vs) H):FnOk P w K mg base CX0 (k + 1) f fd ps sp:=by
 obtain ⟨oc,dV,od,kV,doc,pm,an,cdv,ct,osl,rfl,lk,hcd⟩:=F.ex
 refine qgd lk hcd S len fun A outer s H vs Q E hr hsp=>?_
 obtain ⟨t,h,q⟩:=hbody cdv A outer s H vs Q E hr hsp
 exact ⟨t,h.nox,q⟩
theorem FunG.pure {x qual:Str} {st:Stmt} {f:Addr} {fd:FuncData} {N ps:List Str} {k n:Nat} {u:Rho->Option Out} {M':List Nat} (F:FunG K x qual st f fd) (S:FnScope N ps (qb st)) (hn:ps.length=n)
  (hbody:∀ (cdv:Value) (A:Around) (outer:List Env) (s:Shared) (H:Hp) (E:XK),Room k (A.deeper (envOfC qual (qb st) s.heap.objs.size f cdv))->∀ G:Gm,
   PDSs (cxOf CX0 P w K mg base N qual (qb st) f cdv A outer s H E).nox G [] [] M' [] .pl (qJ st) u) :
  FnOk P w K mg base CX0 (k + 1) f fd ps (spF K n fun ds=>ob (u (rho0 N.length ds)) outD):=by
 refine F.ok S (fun vs H Q E h=>?_) (fun cdv A outer s H vs Q E hr h=>?_)
 ·obtain ⟨_,ds,d,_,h1,h2,_⟩:=h
  rw [h1.length,h2,hn]
 ·obtain ⟨Sv,ds,d,m,h1,h2,e,q⟩:=h
  obtain ⟨o,e1,e⟩:=qj e
  refine ⟨_,hbody cdv A outer s H E hr (G0 H Sv),Sv,rho0 N.length ds,o,OwnS.start m h1 N,e1,?_⟩
  cases o with
  | rt r=>cases e;exact q
  | nx ρ=>cases e;exact fun σ' H' S' hs=>q _ H' hs.h0 .none
  | bk ρ=>cases e
  | ct ρ=>cases e
theorem Fun.pure {x qual:Str} {st:Stmt} {f:Addr} {fd:FuncData} {N ps:List Str} {k n:Nat} {u:Rho->Option Out} {M':List Nat} (F:Fun K x qual st f fd) (S:FnScope N ps (qb st)) (hn:ps.length=n)
  (hbody:∀ (cdv:Value) (A:Around) (outer:List Env) (s:Shared) (H:Hp) (E:XK),Room k (A.deeper (envOfC qual (qb st) s.heap.objs.size f cdv))->∀ G:Gm,
   PDSs (cxOf CX0 P w K mg base N qual (qb st) f cdv A outer s H E).nox G [] [] M' [] .pl (qJ st) u) :
  FnOk P w K mg base CX0 (k + 1) f fd ps (spF K n fun ds=>ob (u (rho0 N.length ds)) outD) :=
 F.g.pure S hn hbody
theorem FunG.new {x qual:Str} {st:Stmt} {f:Addr} {fd:FuncData} {N ps:List Str} {k n:Nat} {u:Rho->Option Out} {M':List Nat} (F:FunG K x qual st f fd) (S:FnScope N ps (qb st)) (hn:ps.length=n)
  (hbody:∀ (cdv:Value) (A:Around) (outer:List Env) (s:Shared) (H:Hp) (E:XK),Room k (A.deeper (envOfC qual (qb st) s.heap.objs.size f cdv))->∀ G:Gm,
   PDSs (cxOf CX0 P w K mg base N qual (qb st) f cdv A outer s H E).nox G [] [] M' [] .nw (qJ st) u) :
  FnOk P w K mg base CX0 (k + 1) f fd ps (spN K n fun ds=>ob (u (rho0 N.length ds)) outF):=by
 refine F.ok S (fun vs H Q E h=>?_) (fun cdv A outer s H vs Q E hr h=>?_)
 ·obtain ⟨_,ds,d,_,h1,h2,_⟩:=h
  rw [h1.length,h2,hn]
 ·obtain ⟨Sv,ds,d,m,h1,h2,e,q⟩:=h
  obtain ⟨o,e1,e⟩:=qj e
  refine ⟨_,hbody cdv A outer s H E hr (G0 H Sv),Sv,rho0 N.length ds,o,OwnS.start m h1 N,e1,?_⟩
  cases o with
  | rt r=>cases e;exact fun p H' g n _ o=>q p H' g n o
  | nx ρ=>cases e
  | bk ρ=>cases e
  | ct ρ=>cases e
theorem Fun.new {x qual:Str} {st:Stmt} {f:Addr} {fd:FuncData} {N ps:List Str} {k n:Nat} {u:Rho->Option Out} {M':List Nat} (F:Fun K x qual st f fd) (S:FnScope N ps (qb st)) (hn:ps.length=n)
  (hbody:∀ (cdv:Value) (A:Around) (outer:List Env) (s:Shared) (H:Hp) (E:XK),Room k (A.deeper (envOfC qual (qb st) s.heap.objs.size f cdv))->∀ G:Gm,
   PDSs (cxOf CX0 P w K mg base N qual (qb st) f cdv A outer s H E).nox G [] [] M' [] .nw (qJ st) u) :
  FnOk P w K mg base CX0 (k + 1) f fd ps (spN K n fun ds=>ob (u (rho0 N.length ds)) outF) :=
 F.g.new S hn hbody
structure Known (P:Program) (w:World) (K:PySem.W.Frag) (mg:Str->Option Value) (base:Heap) (x:Str) (n k:Nat) (h:List PyData->Option PyData):Prop where
 ex:∃ (f:Addr) (fd:FuncData) (ps:List Str),FnOk P w K mg base CX0 k f fd ps (spF K n h)/\mg x=some (.ref f)/\PySem.W.keepIn K (.ref f)=true/\Binds K fd ps []
structure KnownN (P:Program) (w:World) (K:PySem.W.Frag) (mg:Str->Option Value) (base:Heap) (x:Str) (n k:Nat) (h:List PyData->Option PyData):Prop where
 ex:∃ (f:Addr) (fd:FuncData) (ps:List Str),FnOk P w K mg base CX0 k f fd ps (spN K n h)/\mg x=some (.ref f)/\PySem.W.keepIn K (.ref f)=true/\Binds K fd ps []
theorem KnownN.known {x:Str} {n k:Nat} {h:List PyData->Option PyData} (F:KnownN P w K mg base x n k h):Known P w K mg base x n k h:=by
 obtain ⟨f,fd,ps,F,m,kp,b⟩:=F.ex
 exact ⟨f,fd,ps,F.imp fun vs H Q E ⟨S,ds,d,m,h1,h2,e,q⟩=>⟨S,ds,d,m,h1,h2,e,fun p H' g n o=>q _ H' g (o.den (m.free n) fun a _ z=>.inl z)⟩,m,kp,b⟩
end
section
variable {X:Cx} {G:Gm} {M M' Mb L:List Nat} {fr:Fr} {a b c:Expr} {es:List Expr} {f g:Rho->Option PyData} {p:Rho->Option Bool} {pos:Pos} {u:Rho->Option Out}
theorem qP {x:Str} {p:Pos} {n k k':Nat} {h:List PyData->Option PyData} {fs:Rho->Option (List PyData)} (F:Known X.prog X.w X.K X.mg X.base x n k h) (hr:Room k' X.A) (hk:k <= k') (hg:Gl X x) (ha:PDA X M (a :: es) fs) (hl:(a :: es).length=n)
  (hdb:(x == ("__debug__" : Str))=false:=by decide +kernel) (he:starEach (a :: es) X.env=(false,eval a X.env) :: starEach es X.env:=by rfl) (hpl:(backTo pos (starEach es X.env)).any (·.1)=false:=by rfl) :
  PD X M (.Call (.Name x p) (a :: es) [] pos) (evC n fs h):=by
 obtain ⟨f,fd,ps,F,m,kp,b⟩:=F.ex
 exact qi2 F (hr.mono hk) hg m kp b pass0 ha hl hdb he hpl
theorem OwnO.laid {K:PySem.W.Frag} {H:Hp} {S:Av} {p:Addr} {vs:List V} {ds:List PyData} (n:H p=none) (t:DenL K H S vs ds):OwnO K (L2.upd H p (.lst vs)) (insA S p) p (.list ds) :=
 .lst qR ((t.sub fun a ha z=>z.elim id fun y=>absurd (by rw [y];exact n) ha).same (Same.lay n))
theorem YL {fs:Rho->Option (List PyData)} (h:PDA X M es fs):PF X M (.List es pos) (evA fs lstD) :=
 (qhc h).weak fun σ H Q ⟨S,ρ,d,hs,e,q⟩=>by
  obtain ⟨xs,e1,e⟩:=qj e
  obtain ⟨hz,rfl⟩:=qaZ e
  exact ⟨S,ρ,xs,hs,e1,fun vs H1 g1 d1=>⟨Nat.le_of_lt (zq (by rw [d1.length];exact hz)),fun p hp=>q _ _ (g1.lay' hp) (g1.free hp) (OwnO.laid hp d1)⟩⟩
def qdI (X:Cx) (f:Value) (g:List PyData->Option PyData):Prop:=Zx X f (fun vs H Q=>∃ S ds d,Dm S H/\DenL X.K H S vs ds/\g ds=some d/\∀ p H',Same H H'->H p=none->OwnO X.K H' (insA S p) p d->Q (.ref p) H')
theorem qad {id:String} {x:Str} {p:Pos} {h:List PyData->Option PyData} {fs:Rho->Option (List PyData)} (hc:qdI X (.builtin id) h) (hg:Gl X x) (hm:X.mg x=none) (hv:bootBuiltins x=some (.builtin id)) (ha:PDA X M (a :: es) fs) (hn:x ≠ "__name__" := by decide +kernel) (hdb:(x == ("__debug__" : Str))=false:=by decide +kernel)
  (he:starEach (a :: es) X.env=(false,eval a X.env) :: starEach es X.env:=by rfl) (hpl:(backTo pos (starEach es X.env)).any (·.1)=false:=by rfl):PF X M (.Call (.Name x p) (a :: es) [] pos) (evA fs h) :=
 (Yh hc hg hm hv ha hn hdb he hpl).weak fun σ H Q ⟨S,ρ,d,hs,e,q⟩=>by
  obtain ⟨ds,e1,e⟩:=qj e
  exact ⟨S,ρ,ds,hs,e1,fun vs H1 g1 d1=>⟨S,ds,d,hs.1.same g1,d1,e,fun p H' g2 n o=>q p H' (g1.trans g2) (g1.free n) o⟩⟩
theorem qa8 {T:String} {x:Str} {p:Pos} {h:List PyData->Option PyData} {fs:Rho->Option (List PyData)} (hc:qdI X (.type T) h) (hg:Gl X x) (hm:X.mg x=none) (hv:bootBuiltins x=some (.type T)) (ha:PDA X M (a :: es) fs) (hn:x ≠ "__name__" := by decide +kernel) (hdb:(x == ("__debug__" : Str))=false:=by decide +kernel)
  (he:starEach (a :: es) X.env=(false,eval a X.env) :: starEach es X.env:=by rfl) (hpl:(backTo pos (starEach es X.env)).any (·.1)=false:=by rfl):PF X M (.Call (.Name x p) (a :: es) [] pos) (evA fs h) :=
 (qa7 hc hg hm hv ha hn hdb he hpl).weak fun σ H Q ⟨S,ρ,d,hs,e,q⟩=>by
  obtain ⟨ds,e1,e⟩:=qj e
  exact ⟨S,ρ,ds,hs,e1,fun vs H1 g1 d1=>⟨S,ds,d,hs.1.same g1,d1,e,fun p H' g2 n o=>q p H' (g1.trans g2) (g1.free n) o⟩⟩
theorem qgQ:qdI X (.type "list") ju:=fun pins s σ H xs us Q I r ⟨S,ds,d,m,h1,e,q⟩=>yx pins s σ H xs us Q I r (by
 cases h1 with
 | nil=>cases e
 | cons a t =>
  cases t with
  | cons a' t'=>cases a<;>cases e
  | nil =>
   cases a with
   | list h t=>cases e;exact ⟨_,_,rfl,.inl h.sq,fun l hl=>q _ _ (Same.lay hl) hl (OwnO.laid hl t)⟩
   | tuple h t=>cases e;exact ⟨_,_,rfl,.inr h,fun l hl=>q _ _ (Same.lay hl) hl (OwnO.laid hl t)⟩
   | _=>cases e)
def appD:PyData->PyData->Option PyData
 | .list ds,d=>if ds.length < 1000 then some (.list (ds ++ [d])) else none
 | _,_=>none
def sApp (i:Nat) (f:Rho->Option PyData):Rho->Option Out:=fun ρ=>ob (vr i ρ) fun l=>ob (f ρ) fun d=>ob (appD l d) fun l'=>some (.nx (ρ.set i (some l')))
theorem qaH {l d l':PyData} (e:appD l d=some l'):∃ ds,l=.list ds/\ds.length < 1000/\l'=.list (ds ++ [d]):=by
 unfold appD at e
 split at e
 ·split at e
  ·rename_i hz;cases e;exact ⟨_,rfl,hz,rfl⟩
  ·cases e
 ·cases e
theorem Off.upd {S:Av} {H:Hp} {p:Addr} {o:HO} (c:S p):Off S H (L2.upd H p o):=fun b u z e=>by
 rw [qI (fun y=>z (by rw [y];exact c))];exact e
theorem qbW (i:Nat) {x:Str} {px apos cpos:Pos} (hv:Vis X.env.scope x) (hM:Flt M i) (hL:i∉L) (he:PD X M a f) (hN:X.N[i]?=some x:=by rfl) (hd:(x == ("__debug__" : Str))=false:=by decide +kernel) (hcd:(x == ("__classdict__" : Str))=false:=by decide +kernel)
  (hbase:attributeBase (.Name x px) "append" X.env (eval (.Name x px) X.env)=eval (.Name x px) X.env:=by rfl)
  (hfew:((backTo cpos (starEach [a] X.env)).all (fun x=>!x.1) && (backToKw cpos (keywordEach [] X.env)).all (fun x=>x.1.isSome)
   && decide ([a].length + ([]:List Keyword).length + (if ([]:List Keyword).isEmpty then 0 else 1) < 30))=true:=by rfl)
  (hline:(apos.endLine == cpos.line)=true:=by rfl) (hs:starEach [a] X.env=(false,eval a X.env) :: starEach [] X.env:=by rfl) (hplain:(backTo cpos (starEach [] X.env)).any (·.1)=false:=by rfl)
  (hsw:swapsWith (.Call (.Attribute (.Name x px) "append" apos) [a] [] cpos) none pos.line X.env=pure false:=by rfl) :
  PDS X G M L M Mb fr (.Expr (.Call (.Attribute (.Name x px) "append" apos) [a] [] cpos) pos) (sApp i f) :=
 (qbY (qha PySem.F.plainAttrs_list PySem.F.slot_list_append PySem.F.type_list_append qa1 (qaa i hv hN hd hcd) (qd he qm hs) hbase hfew hline hs hplain) hsw).weak fun D σ H ⟨S,ρ,o,os,e,q⟩=>by
  obtain ⟨l,e1,e⟩:=qj e
  obtain ⟨d,e2,e⟩:=qj e
  obtain ⟨l',e3,e⟩:=qj e
  cases e
  obtain ⟨ds,rfl,hz,rfl⟩:=qaH e3
  obtain ⟨pp,a1,b1,c1,n1,w1,_⟩:=os.own i hM _ (Zv e1)
  cases b1 with
  | @lst xs _ h t =>
   refine ⟨_,a1,.inl ⟨rfl,_,SqL.of h⟩,S,ρ,[d],os.ds,by show ob (f ρ) _=_;rw [e2];rfl,fun vs H2 g2 dl=>?_⟩
   obtain ⟨v,rfl,dv⟩:=dl.inv1
   have os2:=os.same g2
   refine ⟨pp,xs,v,rfl,rfl,g2 _ _ h,Nat.lt_of_lt_of_le (by rw [t.length];exact hz) (Nat.le_of_lt (zq (Nat.le_refl _))),?_⟩
   exact q _ _ _ (os2.write hM hL (Zv e1) a1 rfl (.lst qR (((t.same g2).snoc dv).off os2.ds.1 (Off.upd c1))))
def sClr (i:Nat):Rho->Option Out:=fun ρ=>ob (vr i ρ) fun l=>match l with | .list _=>some (.nx (ρ.set i (some (.list [])))) | _=>none
def isNone:PyData->Bool
 | .none=>true
 | _=>false
def isD:PyData->PyData->Option PyData
 | x,.none=>some (.bool (isNone x))
 | .bool b,.bool c=>some (.bool (b == c))
 | _,_=>none
def isnD:PyData->PyData->Option PyData
 | x,.none=>some (.bool (!isNone x))
 | .bool b,.bool c=>some (.bool (!(b == c)))
 | _,_=>none
theorem qdg {K:PySem.W.Frag} {H:Hp} {S:Av} {v:V} {d:PyData} (h:Den K H S v d):decide (v=.non)=isNone d:=by cases h<;>rfl
theorem d_is:OpD X (compareOp .Is) isD:=by
 intro pins s σ H x y v u Q I rx ry ⟨S,dx,dy,d,m,h1,h2,e,q⟩
 unfold isD at e
 split at e
 ·cases e;cases h2
  exact qkT pins s σ H x _ v u Q I rx ry ⟨rfl,by rw [qdg h1];exact q _ H (Same.refl H) (.bool _)⟩
 ·cases e;cases h1;cases h2
  cases (show v=Value.bool _ from rx);cases (show u=Value.bool _ from ry)
  exact is_bool (jH I (q _ H (Same.refl H) (.bool _)) rfl)
 ·cases e
end
end L2
namespace L2
open PySem PySem.Spec PyProof.Rows
section
variable {X:Cx} {G:Gm} {M M' Mb L:List Nat} {fr:Fr} {a b c:Expr} {es:List Expr} {f g:Rho->Option PyData} {p:Rho->Option Bool} {pos:Pos} {u:Rho->Option Out}
theorem OwnS.lock {K:PySem.W.Frag} {G:Gm} {M L:List Nat} {H:Hp} {S:Av} {σ:St} {ρ:Rho} {i:Nat} {p:Addr} {d:PyData} (h:OwnS K G M L H S σ ρ) (hM:Flt M i) (e0:ρ[i]?=some (some d)) (e1:σ[i]?=some (some (.ref p))) :
  OwnS K { G with lk:=fun j=>if j=i then (p,d) else G.lk j } M (i :: L) H S σ ρ:=by
 obtain ⟨F,f⟩:=h.deep
 refine ⟨h.ds,h.s0,h.h0,fun j hj d' q=>?_,h.apart,fun a z=>?_,fun j hj=>?_,F,f.own,f.disj,f.flat⟩
 ·obtain ⟨q',a,b,c,n,w,w'⟩:=h.own j hj d' q
  refine ⟨q',a,b,c,n,fun hl=>w fun z=>hl (.tail _ z),fun hl=>?_⟩
  show (q',d')=if j=i then (p,d) else G.lk j
  by_cases e:j=i
  ·subst e
   rw [if_pos rfl]
   rw [e0] at q;cases q
   rw [e1] at a;cases a
   rfl
  ·rw [if_neg e]
   exact w' ((List.mem_cons.mp hl).resolve_left e)
 ·rcases h.bnd a z with y | y | ⟨j,hj,y⟩
  ·exact .inl y
  ·exact .inr (.inl y)
  ·refine .inr (.inr ⟨j,.tail _ hj,?_⟩)
   show a=(if j=i then (p,d) else G.lk j).1
   by_cases e:j=i
   ·subst e
    rw [if_pos rfl,y]
    obtain ⟨q',a',_,_,_,_,w'⟩:=h.own j hM d e0
    rw [e1] at a';cases a'
    rw [← w' hj]
   ·rw [if_neg e];exact y
 ·show _/\ρ[j]?=some (some (if j=i then (p,d) else G.lk j).2)
  by_cases e:j=i
  ·subst e;rw [if_pos rfl];exact ⟨hM,e0⟩
  ·rw [if_neg e];exact h.lkd j ((List.mem_cons.mp hj).resolve_left e)
theorem OwnS.unlock {K:PySem.W.Frag} {G:Gm} {M L:List Nat} {H:Hp} {S:Av} {σ:St} {ρ:Rho} {i:Nat} {p:Addr} {d:PyData} (hL:i∉L) (hp:G.H0 p=none) (h:OwnS K { G with lk:=fun j=>if j=i then (p,d) else G.lk j } M (i :: L) H S σ ρ):OwnS K G M L H S σ ρ:=by
 have lk1:∀ j∈L,(if j=i then (p,d) else G.lk j)=G.lk j:=fun j hj=>if_neg fun z=>hL (by rw [← z];exact hj)
 obtain ⟨F,f⟩:=h.deep
 refine ⟨h.ds,h.s0,h.h0,fun j hj d' q=>?_,h.apart,fun a z=>?_,fun j hj=>?_,F,f.own,f.disj,f.flat⟩
 ·obtain ⟨q',a,b,c,n,w,w'⟩:=h.own j hj d' q
  refine ⟨q',a,b,c,n,fun hl=>?_,fun hl=>?_⟩
  ·by_cases e:j=i
   ·have:(q',d')=(if j=i then (p,d) else G.lk j):=w' (by rw [e];exact .head _)
    rw [if_pos e] at this
    cases this
    exact hp
   ·exact w fun z=>hl ((List.mem_cons.mp z).resolve_left e)
  ·have:(q',d')=(if j=i then (p,d) else G.lk j):=w' (.tail _ hl)
   rw [lk1 j hl] at this
   exact this
 ·rcases h.bnd a z with y | y | ⟨j,hj,y⟩
  ·exact .inl y
  ·exact .inr (.inl y)
  ·have y:a=(if j=i then (p,d) else G.lk j).1:=y
   rcases List.mem_cons.mp hj with e | hj
   ·rw [if_pos e] at y
    exact .inr (.inl (by rw [y];exact hp))
   ·rw [lk1 j hj] at y
    exact .inr (.inr ⟨j,hj,y⟩)
 ·have:=h.lkd j (.tail _ hj)
  have e2:ρ[j]?=some (some (if j=i then (p,d) else G.lk j).2):=this.2
  rw [lk1 j hj] at e2
  exact ⟨this.1,e2⟩
theorem OutQ.unlock {K:PySem.W.Frag} {G:Gm} {M' Mb L:List Nat} {D:Ends} {o:Out} {i:Nat} {p:Addr} {d:PyData} (hL:i∉L) (hp:G.H0 p=none) (q:OutQ K G M' Mb L fr D o):OutQ K { G with lk:=fun j=>if j=i then (p,d) else G.lk j } M' Mb (i :: L) fr D o:=by
 cases o with
 | nx ρ=>exact fun σ' H' S' hs=>q σ' H' S' (hs.unlock hL hp)
 | rt d=>exact q
 | bk ρ=>exact fun σ' H' S' hs=>q σ' H' S' (hs.unlock hL hp)
 | ct ρ=>exact fun σ' H' S' hs=>q σ' H' S' (hs.unlock hL hp)
theorem qg5 (i:Nat) {x:Str} {tg:Expr} {body:List Stmt} {px:Pos} {g:PyData->Rho->Option Rho} (hp:PassesOwn (model X.prog X.w) X.A X.env X.xe) (hc:X.calm=true) (hv:Vis X.env.scope x) (hM:Flt M i) (hL:i∉L) (hg:∀ G,PDG X G M (i :: L) tg g) (hb:∀ G,PDSs X G M (i :: L) M M fr body u)
  (hN:X.N[i]?=some x:=by rfl) (hd:(x == ("__debug__" : Str))=false:=by decide +kernel) (hcd:(x == ("__classdict__" : Str))=false:=by decide +kernel)
  (hs:∀ v,foldedSetIterable (.Name x px) X.env v=pure v:=by intro _;rfl):PDS X G M L M Mb fr (.For tg (.Name x px) body [] pos) (sFor (evI (vr i) seqD) g u):=by
 have hg':PG X tg (fun v σ H Q=>∃ G,tDG X.K G M (i :: L) g v σ H Q):=fun pins s σ H v u Q I r ⟨G,q⟩=>hg G pins s σ H v u Q I r q
 have hb':PSs X body (fun D σ H=>∃ G,tDS X.K G M (i :: L) M M fr u D σ H):=fun pins s σ H D I ⟨G,q⟩=>hb G pins s σ H D I q
 refine (qdw hp hc (qhj (qaa i hv hN hd hcd)) hg' hb' hs).weak fun D σ H ⟨S,ρ,o,os,e,q⟩=>?_
 obtain ⟨ds,e1,e⟩:=qj e
 obtain ⟨l,e0,e1⟩:=qj e1
 have e0':=Zv e0
 obtain ⟨pp,a1,b1,c1,n1,w1,_⟩:=os.own i hM _ e0'
 cases b1 with
 | dct h k t=>cases e1
 | @lst xs ds' h t =>
  cases e1
  have lk:=os.lock hM e0' a1
  have hp0:=w1 hL
  generalize hG:({ G with lk:=fun j=>if j=i then (pp,PyData.list ds) else G.lk j }:Gm)=G1 at lk
  have lki:G1.lk i=(pp,PyData.list ds):=by rw [← hG];exact if_pos rfl
  have un:∀ {M:List Nat} {H:Hp} {S:Av} {σ:St} {ρ:Rho},OwnS X.K G1 M (i :: L) H S σ ρ->OwnS X.K G M L H S σ ρ:=fun h=>by
   rw [← hG] at h
   exact h.unlock hL hp0
  have uq:∀ {M' Mb:List Nat} {D:Ends} {o:Out},OutQ X.K G M' Mb L fr D o->OutQ X.K G1 M' Mb (i :: L) fr D o:=fun h=>by
   rw [← hG]
   exact h.unlock hL hp0
  refine ⟨_,a1,pp,rfl,.inl ⟨⟨xs,SqL.of h⟩,?_⟩⟩
  have cur:∀ {H':Hp} {S':Av} {σ':St} {ρ':Rho},OwnS X.K G1 M (i :: L) H' S' σ' ρ'->∃ xs',H' pp=some (.lst xs')/\DenL X.K H' S' xs' ds:=fun hs'=>by
   obtain ⟨hm,ed⟩:=hs'.lkd i (.head _)
   rw [lki] at ed
   obtain ⟨q',a',b',_,_,_,w'⟩:=hs'.own i hm _ ed
   have:=w' (.head _)
   rw [lki] at this
   cases this
   cases b' with
   | lst h t=>exact ⟨_,h,t⟩
  refine ⟨fun k m σ' H'=>m=ds.length - k/\k <= ds.length/\∃ S' ρ o,OwnS X.K G1 M (i :: L) H' S' σ' ρ/\forD g u (ds.drop k) ρ=some o/\OutQ X.K G M Mb L fr D o,⟨ds.length,by simp,Nat.zero_le _,S,ρ,o,lk,e,q⟩,?_⟩
  rintro k m σ' H' ⟨rfl,hk,S',ρ',o',hs',e',q'⟩
  obtain ⟨xs',hx,dx⟩:=cur hs'
  have hlen:=dx.length
  by_cases hlt:k < ds.length
  ·rw [List.drop_eq_getElem_cons hlt] at e'
   obtain ⟨ρ1,e2,e'⟩:=qj e'
   obtain ⟨o1,e3,e'⟩:=qj e'
   have key:∀ N:St->Hp->Prop,OutQ X.K G1 M M (i :: L) fr { D with nx:=N,ct:=N,bk:=D.nx } o1->∀ x H2,(Itl X.K pp).yld k H' x H2->∃ G,tDG X.K G M (i :: L) g x σ' H2 fun σ2 H2=>∃ G,tDS X.K G M (i :: L) M M fr u { D with nx:=N,ct:=N,bk:=D.nx } σ2 H2:=fun N hN x H2 y=>by
    obtain ⟨e4,yd⟩:=y
    subst e4
    obtain ⟨v,h1,h2⟩:=dx.get (List.getElem?_eq_getElem hlt)
    have hv:=yd xs' (SqL.of hx)
    rw [h1] at hv
    cases hv
    exact ⟨G1,S',ρ',_,ρ1,hs',h2,e2,fun σ2 H3 g3 hs3=>⟨G1,S',ρ1,o1,hs3,e3,hN⟩⟩
   have hk':k < xs'.length:=by omega
   refine .inr ⟨⟨xs',xs'[k],SqL.of hx,List.getElem?_eq_getElem hk'⟩,?_⟩
   have next:∀ ρ2,forD g u (ds.drop (k + 1)) ρ2=some o'->∃ N:St->Hp->Prop,(∀ σ' H'',N σ' H''->∃ m',m' < ds.length - k/\(m'=ds.length - (k + 1)/\k + 1 <= ds.length/\∃ S' ρ o,OwnS X.K G1 M (i :: L) H'' S' σ' ρ/\forD g u (ds.drop (k + 1)) ρ=some o/\OutQ X.K G M Mb L fr D o))/\∀ σ2 H2 S2,OwnS X.K G1 M (i :: L) H2 S2 σ2 ρ2->N σ2 H2:=fun ρ2 e4 =>
    ⟨fun σ2 H2=>∃ S2,OwnS X.K G1 M (i :: L) H2 S2 σ2 ρ2,fun σ2 H2 ⟨S2,hs3⟩=>⟨ds.length - (k + 1),by omega,rfl,hlt,S2,ρ2,o',hs3,e4,q'⟩,fun σ2 H2 S2 hs3=>⟨S2,hs3⟩⟩
   cases o1 with
   | nx ρ2 =>
    obtain ⟨N,n1,n2⟩:=next ρ2 e'
    exact ⟨N,n1,key N fun σ3 H3 S3 hs3=>n2 σ3 H3 S3 hs3⟩
   | ct ρ2 =>
    obtain ⟨N,n1,n2⟩:=next ρ2 e'
    exact ⟨N,n1,key N fun σ3 H3 S3 hs3=>n2 σ3 H3 S3 hs3⟩
   | bk ρ2 =>
    cases e'
    exact ⟨fun _ _=>False,fun _ _ z=>z.elim,key _ fun σ3 H3 S3 hs3=>q' σ3 H3 S3 (un hs3)⟩
   | rt r =>
    cases e'
    refine ⟨fun _ _=>False,fun _ _ z=>z.elim,key _ ?_⟩
    have q2:OutQ X.K G1 M Mb (i :: L) fr D (.rt r):=uq q'
    exact q2
  ·have hk':k=ds.length:=by omega
   subst hk'
   rw [List.drop_length] at e'
   cases e'
   exact .inl ⟨⟨xs',SqL.of hx,by omega⟩,q' σ' H' S' (un hs')⟩
def intD:PyData->Option Int
 | .int i=>some i
 | _=>none
def PDO (X:Cx) (M:List Nat) (e:Option Expr) (f:Rho->Option (Option Int)):Prop:=PO X e (fun σ H Q=>∃ S ρ i,DenS X.K H S M σ ρ/\f ρ=some i/\∀ H',Same H H'->Q i H')
def oN:Rho->Option (Option Int):=fun _=>some none
def oS (f:Rho->Option PyData):Rho->Option (Option Int):=fun ρ=>ob (f ρ) fun d=>ob (intD d) fun i=>some (some i)
theorem qeW {d:PyData} {i:Int} (h:intD d=some i):d=.int i:=by cases d<;>first | (cases h;rfl) | cases h
theorem Ye (h:PD X M a f):PDO X M (some a) (oS f):=fun pins s σ H Q I ⟨S,ρ,i,hs,e,q⟩=>by
 obtain ⟨d,e1,e⟩:=qj e
 obtain ⟨j,e2,e⟩:=qj e
 cases e
 cases qeW e2
 exact qjg h pins s σ H Q I ⟨S,ρ,_,hs,e1,fun v H' g d=>⟨j,d.int_inv,q H' g⟩⟩
def cutD (ds:List PyData) (lo hi:Option Int):List PyData:=(ds.drop (HT.sIx ds.length 0 lo)).take (HT.sIx ds.length ds.length hi - HT.sIx ds.length 0 lo)
def sliD (x:PyData) (lo hi:Option Int):Option PyData:=match x with
 | .list ds=>some (.list (cutD ds lo hi))
 | .tuple ds=>if HT.sIx ds.length 0 lo=0/\HT.sIx ds.length ds.length hi=ds.length then none else some (.tuple (cutD ds lo hi))
 | _=>none
def evS (fa:Rho->Option PyData) (fl fh:Rho->Option (Option Int)):Rho->Option PyData:=fun ρ=>ob (fa ρ) fun x=>ob (fl ρ) fun l=>ob (fh ρ) fun h=>sliD x l h
theorem qcm {K:PySem.W.Frag} {H:Hp} {S:Av} {vs:List V} {ds:List PyData} (t:DenL K H S vs ds) (lo hi:Option Int):DenL K H S (cutV vs lo hi) (cutD ds lo hi):=by
 unfold cutV cutD
 rw [t.length]
 exact (t.drop _).take _
theorem qcQ {lo hi:Option Expr} {fl fh:Rho->Option (Option Int)} {p2:Pos} (ha:PD X M a f) (hl:PDO X M lo fl) (hh:PDO X M hi fh):PD X M (.Subscript a (.Slice lo hi none p2) pos) (evS f fl fh) :=
 (qhd (r:=fun x lo hi H Q=>rSlL X.K x lo hi H Q\/rSlT X.K x lo hi H Q) (qjy.or qlK) ha hl hh).weak fun σ H Q ⟨S,ρ,d,hs,e,q⟩=>by
  obtain ⟨x,e1,e⟩:=qj e
  obtain ⟨l,e2,e⟩:=qj e
  obtain ⟨h,e3,e⟩:=qj e
  refine ⟨S,ρ,x,hs,e1,fun v H1 g1 d1=>⟨S,ρ,l,hs.same g1,e2,fun H2 g2=>⟨S,ρ,h,hs.same (g1.trans g2),e3,fun H3 g3=>?_⟩⟩⟩
  have g13:=g1.trans (g2.trans g3)
  have d3:=d1.same (g2.trans g3)
  cases d3 with
  | list hq t =>
   cases e
   exact .inl ⟨_,_,rfl,hq.sq,fun p hp=>q _ _ (g13.lay' hp) (.list (SqLS.new qR ((hs.1.same g13).free hp)) ((qcm t l h).same (Same.lay hp)))⟩
  | @tuple a' xs ds hq t =>
   have e:(if HT.sIx ds.length 0 l=0/\HT.sIx ds.length ds.length h=ds.length then none else some (PyData.tuple (cutD ds l h)))=some d:=e
   split at e
   ·cases e
   ·rename_i hc
    cases e
    refine .inr ⟨_,_,rfl,hq,by rw [t.length];exact hc,fun p hp=>q _ _ (g13.lay' hp) (.tuple (SqT.of qR) ((qcm t l h).same (Same.lay hp)))⟩
  | _=>cases e
def qdM (x y:PyData):Option PyData:=match x,y with
 | .int i,.int j=>some (.int (i + j))
 | .tuple ds,.tuple es=>if ds.length + es.length <= 1000 then some (.tuple (ds ++ es)) else none
 | _,_=>none
theorem qf1 {prog:Program} {w:World} {A:Around} {E:Value->Shared->Prop} {s:Shared} {t b:Addr} {vs ws:List Value} {Q:Value->Shared->Prop} (ht:IsTup s.heap t vs.toArray) (hb:IsTup s.heap b ws.toArray) (hv:vs=[]) (h:Q (.ref b) s) :
  wpAny (model prog w) A (binaryOp .Add (.ref t) (.ref b)) Q E s:=by
 obtain ⟨⟨cls,dd,data,sl⟩,ho,hc,n,hd⟩:=id ht
 obtain ⟨⟨cls2,dd2,data2,sl2⟩,ho2,hc2,n2,hd2⟩:=id hb
 simp only at hc hd hc2 hd2
 subst hc hd hc2 hd2
 exact concat_meets ⟨_,ho,rfl⟩ ⟨_,ho2,rfl⟩ noFill_tuple_add seq_tuple_add PySem.F.slot_tuple_add PySem.F.entry_tuple_add (PySem.F.args_tuple_add_2 _ _) (tuple_addW0 t b vs.toArray ws.toArray n n2 dd dd2 sl sl2 (by simp [hv])) ⟨ho,ho2,h⟩
theorem qiW:OpR X (binaryOp .Add) (fun x y H Q=>∃ a b ys,x=.ref a/\y=.ref b/\SqT X.K H a []/\SqT X.K H b ys/\Q (.ref b) H):=by
 intro pins s σ H x y v u Q I rx ry h
 obtain ⟨a,b,ys,rfl,rfl,ha,hb,q⟩:=h
 cases rx
 cases ry
 obtain ⟨its,r1,p1,_⟩:=I.tuple ha
 obtain ⟨its2,r2,p2,_⟩:=I.tuple hb
 exact qf1 p1 p2 (r1.nil_iff.mpr rfl) ⟨.ref b,H,I,rfl,q⟩
theorem qf6:OpD X (binaryOp .Add) qdM:=by
 refine ym (r:=fun x y H Q=>rI0 (fun i j=>.int (i + j)) x y H Q\/(qjW X.K x y H Q\/(∃ a b ys,x=.ref a/\y=.ref b/\SqT X.K H a []/\SqT X.K H b ys/\Q (.ref b) H))) (qkR.or (qiX.or qiW)) fun x y dx dy d H S Q m h1 h2 e q=>?_
 unfold qdM at e
 split at e
 ·cases e;cases h1;cases h2
  exact .inl ⟨_,_,rfl,rfl,q _ H (Same.refl H) (.int _)⟩
 ·split at e
  ·rename_i ds es hc
   cases e
   cases h1 with
   | tuple a1 t1 =>
    cases h2 with
    | tuple a2 t2 =>
     cases ds with
     | nil =>
      cases t1
      exact .inr (.inr ⟨_,_,_,rfl,rfl,a1,a2,q _ H (Same.refl H) (.tuple a2 t2)⟩)
     | cons d0 ds =>
      refine .inr (.inl ⟨_,_,_,_,rfl,rfl,a1,a2,fun z=>?_,?_,fun z=>?_,fun z p hp=>q _ _ (Same.lay hp) (.tuple (SqT.of qR) ((t1.append t2).same (Same.lay hp)))⟩)
      ·subst z;cases t1
      ·rw [t1.length,t2.length]
       exact Nat.le_of_lt (zq hc)
      ·subst z;cases t2
       rw [List.append_nil] at q
       exact q _ H (Same.refl H) (.tuple a1 t1)
  ·cases e
 ·cases e
end
end L2
namespace L2
open PySem PySem.Spec PyProof.Rows
section
variable {X:Cx} {G:Gm} {M M1 M' Mb L:List Nat} {fr:Fr} {a b c:Expr} {es:List Expr} {f g:Rho->Option PyData} {p:Rho->Option Bool} {pos:Pos} {u:Rho->Option Out} {ss:List Stmt} {s1:Stmt}
def PDR (X:Cx) (tg iter:Expr) (f:Rho->Option (List PyData)):Prop:=PI X tg iter (fun σ H R=>∃ S ρ ds,DenS X.K H S [] σ ρ/\f ρ=some ds/\∀ J H',Same H H'->(∀ H2 S2,IsIt X.K S2 J H2 ds)->R J H')
theorem qdu {tg:Expr} {fs:Rho->Option (List PyData)} {p:Pos} (hg:Gl X "range") (hm:X.mg "range" = none) (ha:PDA X [] [a] fs) (hs:starEach [a] X.env=[(false,eval a X.env)]:=by rfl):PDR X tg (.Call (.Name "range" p) [a] [] pos) (evR fs qag) :=
 (qa9 hg hm ha hs).weak fun σ H R ⟨S,ρ,ds,hs,e,w⟩=>by
  obtain ⟨xs,e1,e⟩:=qj e
  refine ⟨S,ρ,xs,hs,e1,fun vs H1 g1 d1=>?_⟩
  unfold qag at e
  split at e
  ·rename_i j
   split at e
   ·rename_i hj
    cases e
    obtain ⟨v,rfl,q⟩:=d1.inv1
    cases q
    exact ⟨j,rfl,by omega,by omega,w _ _ g1 fun _ _=>IsIt.rng 0 _⟩
   ·cases e
  ·cases e
theorem qg6 {tg iter:Expr} {body:List Stmt} {fi:Rho->Option (List PyData)} {g:PyData->Rho->Option Rho} (hp:PassesOwn (model X.prog X.w) X.A X.env X.xe) (hc:X.calm=true) (hi:PDR X tg iter fi) (hg:PDG X G M L tg g) (hb:PDSs X G M L M M fr body u)
  (hs:∀ x,foldedSetIterable iter X.env x=pure x:=by intro _;rfl):PDS X G M L M Mb fr (.For tg iter body [] pos) (sFor fi g u):=by
 refine (qdw hp hc hi hg hb hs).weak fun D σ H ⟨S,ρ,o,os,e,q⟩=>?_
 obtain ⟨ds,e1,e⟩:=qj e
 refine ⟨G.S0,ρ,ds,os.den,e1,fun J H1 g1 hJ=>?_⟩
 refine ⟨fun i m σ' H'=>m=ds.length - i/\i <= ds.length/\∃ S' ρ o,OwnS X.K G M L H' S' σ' ρ/\forD g u (ds.drop i) ρ=some o/\OutQ X.K G M Mb L fr D o,⟨ds.length,by simp,Nat.zero_le _,S,ρ,o,os.same g1,e,q⟩,?_⟩
 rintro i m σ' H' ⟨rfl,hi,S',ρ',o',hs',e',q'⟩
 by_cases hlt:i < ds.length
 ·rw [List.drop_eq_getElem_cons hlt] at e'
  obtain ⟨ρ1,e2,e'⟩:=qj e'
  obtain ⟨o1,e3,e'⟩:=qj e'
  have key:∀ N:St->Hp->Prop,OutQ X.K G M M L fr { D with nx:=N,ct:=N,bk:=D.nx } o1->∀ x H2,J.yld i H' x H2->tDG X.K G M L g x σ' H2 fun σ2 H2=>tDS X.K G M L M M fr u { D with nx:=N,ct:=N,bk:=D.nx } σ2 H2:=fun N hN x H2 y=>by
   obtain ⟨e4,yd⟩:=(hJ H' S').yld i H' x H2 (Same.refl _) y
   exact ⟨S',ρ',_,ρ1,hs'.same e4,yd _ (List.getElem?_eq_getElem hlt) S' fun y e q=>q.same e4,e2,fun σ2 H3 g3 hs3=>⟨S',ρ1,o1,hs3,e3,hN⟩⟩
  refine .inr ⟨(hJ H' S').go i H' (Same.refl _) hlt,?_⟩
  have next:∀ ρ2,forD g u (ds.drop (i + 1)) ρ2=some o'->∃ N:St->Hp->Prop,(∀ σ' H'',N σ' H''->∃ m',m' < ds.length - i/\(m'=ds.length - (i + 1)/\i + 1 <= ds.length/\∃ S' ρ o,OwnS X.K G M L H'' S' σ' ρ/\forD g u (ds.drop (i + 1)) ρ=some o/\OutQ X.K G M Mb L fr D o))/\∀ σ2 H2 S2,OwnS X.K G M L H2 S2 σ2 ρ2->N σ2 H2:=fun ρ2 e4 =>
   ⟨fun σ2 H2=>∃ S2,OwnS X.K G M L H2 S2 σ2 ρ2,fun σ2 H2 ⟨S2,hs3⟩=>⟨ds.length - (i + 1),by omega,rfl,hlt,S2,ρ2,o',hs3,e4,q'⟩,fun σ2 H2 S2 hs3=>⟨S2,hs3⟩⟩
  cases o1 with
  | nx ρ2 =>
   obtain ⟨N,n1,n2⟩:=next ρ2 e'
   exact ⟨N,n1,key N fun σ3 H3 S3 hs3=>n2 σ3 H3 S3 hs3⟩
  | ct ρ2 =>
   obtain ⟨N,n1,n2⟩:=next ρ2 e'
   exact ⟨N,n1,key N fun σ3 H3 S3 hs3=>n2 σ3 H3 S3 hs3⟩
  | bk ρ2 =>
   cases e'
   exact ⟨fun _ _=>False,fun _ _ z=>z.elim,key _ fun σ3 H3 S3 hs3=>q' σ3 H3 S3 hs3⟩
  | rt r =>
   cases e'
   have q2:OutQ X.K G M Mb L fr D (.rt r):=q'
   exact ⟨fun _ _=>False,fun _ _ z=>z.elim,key _ q2⟩
 ·have hi':i=ds.length:=by omega
  subst hi'
  rw [List.drop_length] at e'
  cases e'
  exact .inl ⟨(hJ H' S').stop H' (Same.refl _),q' σ' H' S' hs'⟩
theorem W9 (M1:List Nat) (h:PDSs X G M L M' Mb fr ss u) (h1:subB M1 M'=true) (h2:subB L M1=true):PDSs X G M L M1 Mb fr ss u:=qi5 h h1 h2
theorem qa5 (M1:List Nat) (h1:subB M1 M=true) (h2:subB L M1=true) (h:PDS X G M1 L M' Mb fr s1 u):PDS X G M L M' Mb fr s1 u:=qfe h h1 h2
theorem W8 (i:Nat) {x:Str} {px apos cpos:Pos} (hv:Vis X.env.scope x) (hM:Flt M i) (hL:i∉L) (he:PD X [] a f) (hN:X.N[i]?=some x:=by rfl) (hd:(x == ("__debug__" : Str))=false:=by decide +kernel) (hcd:(x == ("__classdict__" : Str))=false:=by decide +kernel)
  (hbase:attributeBase (.Name x px) "append" X.env (eval (.Name x px) X.env)=eval (.Name x px) X.env:=by rfl)
  (hfew:((backTo cpos (starEach [a] X.env)).all (fun x=>!x.1) && (backToKw cpos (keywordEach [] X.env)).all (fun x=>x.1.isSome)
   && decide ([a].length + ([]:List Keyword).length + (if ([]:List Keyword).isEmpty then 0 else 1) < 30))=true:=by rfl)
  (hline:(apos.endLine == cpos.line)=true:=by rfl) (hs:starEach [a] X.env=(false,eval a X.env) :: starEach [] X.env:=by rfl) (hplain:(backTo cpos (starEach [] X.env)).any (·.1)=false:=by rfl)
  (hsw:swapsWith (.Call (.Attribute (.Name x px) "append" apos) [a] [] cpos) none pos.line X.env=pure false:=by rfl) :
  PDS X G M L M Mb fr (.Expr (.Call (.Attribute (.Name x px) "append" apos) [a] [] cpos) pos) (sApp i (Qe f)) :=
 (qbY (qha PySem.F.plainAttrs_list PySem.F.slot_list_append PySem.F.type_list_append qa1 (qaa i hv hN hd hcd) (qd he qm hs) hbase hfew hline hs hplain) hsw).weak fun D σ H ⟨S,ρ,o,os,e,q⟩=>by
  obtain ⟨l,e1,e⟩:=qj e
  obtain ⟨d,e2,e⟩:=qj e
  obtain ⟨l',e3,e⟩:=qj e
  cases e
  obtain ⟨d',e4,e5⟩:=qj e2
  split at e5
  ·rename_i hf
   cases e5
   obtain ⟨ds,rfl,hz,rfl⟩:=qaH e3
   obtain ⟨pp,a1,b1,c1,n1,w1,_⟩:=os.own i hM _ (Zv e1)
   cases b1 with
   | @lst xs _ h t =>
    refine ⟨_,a1,.inl ⟨rfl,_,SqL.of h⟩,G.S0,ρ,[d],os.den,by show ob (f ρ) _=_;rw [e4];rfl,fun vs H2 g2 dl=>?_⟩
    obtain ⟨v,rfl,dv⟩:=dl.inv1
    have os2:=os.same g2
    refine ⟨pp,xs,v,rfl,rfl,g2 _ _ h,Nat.lt_of_lt_of_le (by rw [t.length];exact hz) (Nat.le_of_lt (zq (Nat.le_refl _))),?_⟩
    exact q _ _ _ (os2.write hM hL (Zv e1) a1 rfl (.lst qR (((t.same g2).snoc (dv.flat hf)).off os2.ds.1 (Off.upd c1))))
  ·cases e5
end
end L2
namespace L2
open PySem PySem.Spec PyProof.Rows
def intsOf:List PyData->Option (List Int)
 | []=>some []
 | .int i :: r=>ob (intsOf r) fun ns=>some (i :: ns)
 | _ :: _=>none
theorem wy:∀ {ds:List PyData} {ns:List Int},intsOf ds=some ns->ds=ns.map .int
 | [],_,h=>by cases h;rfl
 | .int i :: r,ns,h=>by
  obtain ⟨ms,e1,e2⟩:=qj h
  cases e2
  rw [wy e1]
  rfl
 | .none :: _,_,h=>by cases h
 | .bool _ :: _,_,h=>by cases h
 | .str _ :: _,_,h=>by cases h
 | .list _ :: _,_,h=>by cases h
 | .tuple _ :: _,_,h=>by cases h
 | .dict _ :: _,_,h=>by cases h
def inOk (ds:List PyData) (x:PyData):Bool:=PyData.canLayAll0 ds && (x.canLay0 && decide (x.depth <= 63))
def inL (ds:List PyData) (x:PyData):Bool:=ds.any fun y=>PyData.eqv y x
def inD (x y:PyData):Option PyData:=match y with
 | .list ds=>if inOk ds x=true then some (.bool (inL ds x)) else none
 | .tuple ds=>if inOk ds x=true then some (.bool (inL ds x)) else none
 | _=>none
def ninD (x y:PyData):Option PyData:=match y with
 | .list ds=>if inOk ds x=true then some (.bool (!inL ds x)) else none
 | .tuple ds=>if inOk ds x=true then some (.bool (!inL ds x)) else none
 | _=>none
section
variable {X:Cx}
theorem ZG {ds:List PyData} {x:PyData} (h:inOk ds x=true):PyData.canLayAll0 ds=true/\x.canLay0=true/\x.depth <= 63:=by
 unfold inOk at h
 rw [Bool.and_eq_true,Bool.and_eq_true] at h
 exact ⟨h.1,h.2.1,of_decide_eq_true h.2.2⟩
theorem yS {A:Around} {ds:List PyData} {x:PyData} (hd:x.depth <= 63) (hu:A.units + 64 < cLine):A.units + 1 + min (PyData.depthAll ds) x.depth < cLine:=by
 have:=Nat.min_le_right (PyData.depthAll ds) x.depth
 omega
theorem d_in {k:Nat} (hr:Room k X.A):OpD X (compareOp .In) inD:=by
 intro pins s σ H x y v u Q I rx ry h
 obtain ⟨S,dx,dy,d,m,h1,h2,e,q⟩:=h
 unfold inD at e
 split at e
 ·split at e
  ·rename_i hc
   obtain ⟨c1,c2,c3⟩:=ZG hc
   cases e
   obtain ⟨as,q1⟩:=h1.reads I c2 rx
   obtain ⟨bs,q2⟩:=h2.reads I (by rw [PyData.canLay0];exact c1) ry
   exact SeqAt.in_list_reads q2 q1 c1 c2 (yS c3 hr.units) (jH I (q _ H (Same.refl H) (.bool _)) rfl)
  ·cases e
 ·split at e
  ·rename_i hc
   obtain ⟨c1,c2,c3⟩:=ZG hc
   cases e
   obtain ⟨as,q1⟩:=h1.reads I c2 rx
   obtain ⟨bs,q2⟩:=h2.reads I (by rw [PyData.canLay0];exact c1) ry
   exact SeqAt.in_tuple_reads q2 q1 c1 c2 (yS c3 hr.units) (jH I (q _ H (Same.refl H) (.bool _)) rfl)
  ·cases e
 ·cases e
theorem yC {k:Nat} (hr:Room k X.A):OpD X (compareOp .NotIn) ninD:=by
 intro pins s σ H x y v u Q I rx ry h
 obtain ⟨S,dx,dy,d,m,h1,h2,e,q⟩:=h
 unfold ninD at e
 split at e
 ·split at e
  ·rename_i hc
   obtain ⟨c1,c2,c3⟩:=ZG hc
   cases e
   obtain ⟨as,q1⟩:=h1.reads I c2 rx
   obtain ⟨bs,q2⟩:=h2.reads I (by rw [PyData.canLay0];exact c1) ry
   exact SeqAt.notIn_list_reads q2 q1 c1 c2 (yS c3 hr.units) (jH I (q _ H (Same.refl H) (.bool _)) rfl)
  ·cases e
 ·split at e
  ·rename_i hc
   obtain ⟨c1,c2,c3⟩:=ZG hc
   cases e
   obtain ⟨as,q1⟩:=h1.reads I c2 rx
   obtain ⟨bs,q2⟩:=h2.reads I (by rw [PyData.canLay0];exact c1) ry
   exact SeqAt.notIn_tuple_reads q2 q1 c1 c2 (yS c3 hr.units) (jH I (q _ H (Same.refl H) (.bool _)) rfl)
  ·cases e
 ·cases e
end
section
variable {X:Cx} {G:Gm} {M M' Mb L:List Nat} {fr:Fr} {f:Rho->Option PyData} {p:Rho->Option Bool} {pos:Pos}
theorem qlO {K:PySem.W.Frag} {n k:Nat} {fi:Rho->Option (List PyData)} {g:PyData->Rho->Option Rho} (hg:GIn n k g):∀ σ H Q,tF K M (J4 n k fi g p f) σ H Q->qc2 k (tDI K M fi) (tDGc K M g) (tDT K M p) (tD K M f) σ H Q:=by
 intro σ H Q ⟨S,ρ,d,hs,e,q⟩
 obtain ⟨ds,ys,e1,hn,hz,e2,rfl⟩:=Wq e
 exact qeG hg σ H Q S ρ ds ys hs e1 hn hz e2 fun H' zs g2 dl D hD=>q _ _ (g2.lay' hD) (g2.free hD) (OwnO.laid hD dl)
variable {elt iter tg:Expr} {ifs:List Expr} {x:Str} {N':List Str} {px:Pos} {sc:Scope} {n k:Nat} {fi:Rho->Option (List PyData)} {g:PyData->Rho->Option Rho}
def swB (sc₀ sc:Scope) (t:Str) (pt p:Pos):Bool:=decide (sc₀.names.lookup t=some .local) && (pt.line == p.line) && !(sc.names.any fun (n,k)=>n == t && (k == .local || k == .cell))
theorem qc1 {sc:Scope} {y:Str} {py:Pos} {sc₀:Scope} (hsc:X.env.scope=sc₀) (h:swB sc₀ sc y py pos=true):X.env.scope.names.lookup y=some .local:=by
 subst hsc
 unfold swB at h
 rw [Bool.and_eq_true,Bool.and_eq_true] at h
 exact of_decide_eq_true h.1.1
theorem sw_of {elt:Expr} {gens:List Comprehension} {sc:Scope} {y:Str} {py:Pos} {line:Nat} {sc₀:Scope} (hsc:X.env.scope=sc₀) (h:swB sc₀ sc y py pos=true) (hbk:X.env.blockKind=.function):swapsWith (.ListComp elt gens sc pos) (some (.Name y py)) line X.env=pure true:=by
 have h0:=qc1 hsc h
 subst hsc
 unfold swB at h
 rw [Bool.and_eq_true,Bool.and_eq_true] at h
 show pure (X.env.blockKind == .function && X.env.kindOf y == some .local && py.line == pos.line && !(sc.names.any fun (n,k)=>n == y && (k == .local || k == .cell)))=pure true
 have e1:(X.env.blockKind == ScopeKind.function)=true:=by rw [hbk];rfl
 have e2:(X.env.kindOf y == some NameKind.local)=true:=by
  show (X.env.scope.names.lookup y == some NameKind.local)=true
  rw [h0];rfl
 rw [e1,e2,h.1.2,h.2]
 rfl
theorem qa4 (j:Nat) {y:Str} {py spos:Pos} (O:CompOk X N' k sc) (gi:GIn n k g) (sc₀:Scope) (hsc:X.env.scope=sc₀) (hB:swB sc₀ sc y py pos=true) (hM:Out0 M j) (hL:j∉L) (hi:PDI X M tg iter fi) (hg:∀ cl C fp pins s H,PDGc (qQ X N' sc cl C fp pins s H) M tg g) (hq:∀ cl C fp pins s H,PDTs (qQ X N' sc cl C fp pins s H) M ifs p) (he:∀ cl C fp pins s H,PD (qQ X N' sc cl C fp pins s H) M elt f)
  (hj:X.N[j]?=some y:=by rfl) (hbk:X.env.blockKind=.function:=by rfl)
  (hs:∀ v,foldedSetIterable iter X.env v=pure v:=by intro _;rfl):PDS X G M L (j :: M) Mb fr (.Assign [.Name y py] (.ListComp elt [⟨tg,iter,ifs,0⟩] sc pos) spos) (zP j (J4 n k fi g p f)) :=
 (qjh (wg:=tDGc X.K M g) (tt:=tDT X.K M p) (te:=tD X.K M f) O hj (qc1 hsc hB) hi hg hq he (sw_of hsc hB hbk) hs).weak fun D σ H ⟨S,ρ,o,hs,e,q⟩=>by
  unfold zP at e
  split at e
  ·rename_i hz
   obtain ⟨d,e1,e⟩:=qj e
   cases e
   exact qlO gi σ H _ ⟨S,ρ,d,hs.ds,e1,fun p H1 g1 n o=>q _ H1 _ (hs.take n g1 o hM hL hz)⟩
  ·cases e
theorem qg3 (j:Nat) {y:Str} {py spos:Pos} (O:CompOk X N' 1 sc) (hx:N'[n]?=some x) (hl:lc1 sc x=true) (sc₀:Scope) (hsc:X.env.scope=sc₀) (hB:swB sc₀ sc y py pos=true) (hM:Out0 M j) (hL:j∉L) (hi:PDI X M (.Name x px) iter fi) (hq:∀ cl C fp pins s H,PDTs (qQ X N' sc cl C fp pins s H) M ifs p) (he:∀ cl C fp pins s H,PD (qQ X N' sc cl C fp pins s H) M elt f)
  (hj:X.N[j]?=some y:=by rfl) (hbk:X.env.blockKind=.function:=by rfl)
  (hs:∀ v,foldedSetIterable iter X.env v=pure v:=by intro _;rfl):PDS X G M L (j :: M) Mb fr (.Assign [.Name y py] (.ListComp elt [⟨.Name x px,iter,ifs,0⟩] sc pos) spos) (zP j (jk n fi p f)):=by
 rw [Wo]
 exact qa4 j O (yJ (Nat.le_refl _)) sc₀ hsc hB hM hL hi (Wg O hx hl) hq he hj hbk hs
end
end L2
namespace L2
open PySem PySem.Spec PyProof.Rows
def qdZ (N N':List Str) (k:Nat) (sc₀ sc:Scope):Bool :=
 decide (sc.kind=.function) && decide N.Nodup && decide N'.Nodup && decide (N'.length=N.length + k) && sc.names.all (fun y=>decide (y.2≠.cell)) && sc.names.all (fun y=>decide (y.2≠.local) || decide (sc.names.lookup y.1=some .local)) &&
 (N.zip N').all (fun y=>(decide (y.1=y.2) && decide (sc.names.lookup y.2≠some .local)) || decide (sc.names.lookup y.2=none)) &&
 sc.names.all (fun y=>decide (y.2≠.free) || decide (sc₀.names.lookup y.1=some .cell) || decide (sc₀.names.lookup y.1=some .free))
theorem CompOk.of {X:Cx} {sc:Scope} {k:Nat} (N N':List Str) (sc₀:Scope) (hc:X.calm=true) (hN:X.N=N) (hs:X.env.scope=sc₀) (h:qdZ N N' k sc₀ sc=true):CompOk X N' k sc:=by
 subst hN
 subst hs
 unfold qdZ at h
 simp only [Bool.and_eq_true,decide_eq_true_eq,List.all_eq_true,Bool.or_eq_true] at h
 obtain ⟨⟨⟨⟨⟨⟨⟨h1,h2⟩,h2'⟩,h2l⟩,h3⟩,h4⟩,h7⟩,h8⟩:=h
 refine ⟨hc,h1,h2,h2',h2l,h3,fun y hy q=>(h4 y hy).resolve_left (fun z=>z q),fun i y hi e=>?_,fun y hy q=>?_⟩
 ·have hz:(X.N.zip N')[i]?=some (X.N[i],y):=by
   rw [List.getElem?_zip_eq_some]
   exact ⟨List.getElem?_eq_getElem hi,e⟩
  rcases h7 _ (List.mem_of_getElem? hz) with ⟨q,w⟩ | q
  ·refine .inl ⟨?_,w⟩
   rw [List.getElem?_eq_getElem hi]
   exact congrArg some q
  ·exact .inr q
 ·rcases h8 y hy with (z | z) | z
  ·exact absurd q z
  ·exact .inl z
  ·exact .inr z
theorem qaq:∀ {ns:List Int} {n:Int},n∈ns->PySem.W.WData.weight (.int n) <= PySem.W.WData.weightAll (ns.map .int)
 | m :: ns,n,h=>by
  rw [List.map_cons,PySem.W.WData.weightAll]
  rcases List.mem_cons.mp h with rfl | h
  ·omega
  ·have:=qaq h
   omega
theorem Wl {ns:List Int} (h:PySem.W.WData.layableAll [.list (ns.map .int)]=true):∀ n∈ns,Builtin.Int.intBits n <= 2 ^ 20:=by
 intro n hn
 have h1:PySem.W.WData.layable (.list (ns.map .int))=true:=by
  unfold PySem.W.WData.layableAll at h
  simpa using h
 unfold PySem.W.WData.layable at h1
 rw [Bool.and_eq_true] at h1
 have h2:=of_decide_eq_true h1.2
 rw [PySem.W.WData.weight] at h2
 have h3:=Nat.le_trans (qaq hn) h2
 rw [PySem.W.WData.weight] at h3
 exact h3
end L2
namespace Att
open PySem PySem.W PySem.Calls PyProof.Rows
theorem attach_callB {l:OpenLaw} {n:Nat} {q:Program} {loose:List Str} {XP:(Str->Option Value)->Heap->Prop} {YP:World->Heap->Prop} {d:DefRec}
  (hn:l.most=some n) (hdf:d.params.defaults=[])
  (call:∀ (w:World) (s₀ s₁:Shared) (mg mb:Str->Option Value) (fa:Addr) (o:Obj) (pm cd doc:Value) (a:Addr) (vs:List Value) (ns:List Int),
   Ground q loose [] XP w s₀ mg mb s₁.heap->YP w s₁.heap->
   s₁.heap.get? fa=some o->o.data=.func (docDef d.name d.params d.body d.scope pm cd doc)->s₁.heap.CodeRec cd d.name->mg d.name=some (.ref fa)->
   s₁.heap.get? a=some { cls:=.type "list", data:=.seq vs.toArray }->IntsAre vs ns->ns.length <= n->(∀ k∈ns,Builtin.Int.intBits k <= 2 ^ 20)->s₁.gens=#[]->
   codeAny (model l.prog w) callerA (.call (.ref fa) ⟨[.ref a],[]⟩) (fun r s'=>r=.ok (.ret (.bool true))/\OldK s₁.heap s'.heap/\s'.os=s₁.os/\AllBare s'.gens) s₁) :
  WalkO q loose XP YP l.row.toRowW d [] (fun f vs=>PySem.call f vs):=by
 intro w s₀ s₁ mg mb G Y fa o pm cd doc dV kV ho hd hcd hD hmg hg args vals as hpre hlay hrd hwl hlo
 obtain rfl:dV=.none:=Dflts.none hD hdf
 obtain rfl:kV=.none:=Dflts.noKw hD
 obtain ⟨a,vs,ns,rfl,rfl,hobj,hints,hlen⟩:=qfn hn hpre hwl
 refine enter_call (codeAny_mono (call w s₀ s₁ mg mb fa o pm cd doc a vs ns G Y ho (fd_plain hd) hcd hmg hobj hints hlen (L2.Wl hlay) hg) fun r s' hq=>?_)
 obtain ⟨rfl,h2,h3,h4⟩:=hq
 exact ⟨.inl ⟨.bool true,.bool true,[],rfl,fun _=>rfl,.bool true,qfi l _,fun _=>⟨List.Pairwise.nil,fun _ hm=>(nomatch hm)⟩⟩,h2,h3,h4⟩
end Att
namespace L2
open PySem PySem.Spec PyProof.Rows
def qdD (K:PySem.W.Frag) (n:Nat):Sp:=fun vs H Q _=>∃ (a:Addr) (ns:List Int),vs=[.ref a]/\SqL K H a (ns.map V.int)/\ns.length <= n/\(∀ k∈ns,Builtin.Int.intBits k <= 2 ^ 20)/\∀ H',Q (.bl true) H'
theorem qgr {P:Program} {w:World} {K:PySem.W.Frag} {mg:Str->Option Value} {base:Heap} {CX:CXT} {k n:Nat} {f:Addr} {fd:FuncData} {ps:List Str} {h:List PyData->Option PyData} (F:FnOk P w K mg base CX k f fd ps (spF K 1 h))
  (e:∀ ns:List Int,ns.length <= n->(∀ k∈ns,Builtin.Int.intBits k <= 2 ^ 20)->h [.list (ns.map .int)]=some (.bool true)):FnOk P w K mg base CX k f fd ps (qdD K n) :=
 F.imp fun vs H Q E ⟨a,ns,h1,h2,h3,h4,q⟩=>by
  subst h1
  exact ⟨fun _=>False,[.list (ns.map .int)],.bool true,(fun _ z=>z.elim),.cons (.list (h2.imp (fun y=>⟨y,id⟩) id) (DenL.ints ns)) .nil,rfl,e ns h3 h4,fun v H' _ d=>by rw [d.bool_inv];exact q H'⟩
theorem qfu {l:PySem.W.OpenLaw} {n k:Nat} {q:Program} {loose:List Str} {XP:(Str->Option Value)->Heap->Prop} {YP:World->Heap->Prop} {d:DefRec} {K:Params->PySem.W.Frag} {x:Str}
  (hn:l.most=some n) (hn2:n <= sizeLine) (hdf:d.params.defaults=[]) (hr:Room k callerA)
  (hY:∀ (w:World) (h:Heap),YP w h->(K w.params).In h)
  (F:∀ (w:World) (mg:Str->Option Value) (fa:Addr) (h:Heap),(K w.params).In h->h.Ns mainGlobals mg->mg d.name=some (.ref fa)->
   ∃ fd:FuncData,(∀ (s:Shared) (u:Value),BindsTo s fd ⟨[u],[]⟩ [(x,u)])/\
    ∀ base:Heap,(K w.params).In base->base.Ns mainGlobals mg->FnOk l.prog w (K w.params) mg base CX0 k fa fd [x] (qdD (K w.params) n)) :
  PySem.W.WalkO q loose XP YP l.row.toRowW d [] (fun f vs=>PySem.call f vs):=by
 refine Att.attach_callB hn hdf fun w s₀ s₁ mg mb fa o pm cd doc a vs ns G Y ho hd hcd hmg hobj hints hlen hbits hg=>?_
 have KX:=hY w _ Y
 obtain ⟨fd,hb,hF⟩:=F w mg fa _ KX G.T.g hmg
 exact qgq KX G.T.g G.T.b G.T.builtins G.T.nolimit hg hobj hints (Nat.le_trans hlen hn2) hr hF hb (fun H hO hS=>⟨a,ns,rfl,hS,hlen,hbits,fun _=>rfl⟩) fun H e s' h=>h
end L2
namespace L2
open PySem PySem.Spec PyProof.Rows
mutual
def ltX:PyData->PyData->Option Bool
 | .int i,.int j=>some (decide (i < j))
 | .tuple xs,.tuple ys=>ltXs xs ys
 | _,_=>none
def ltXs:List PyData->List PyData->Option Bool
 | [],[]=>some false
 | [],_ :: _=>some true
 | _ :: _,[]=>some false
 | x :: xs,y :: ys=>if PyData.eqv x y=true then ltXs xs ys else ltX x y
end
def LtAt (A:Around) (s:Shared) (y x:Value) (b:Bool):Prop:=∀ (prog:Program) (w:World) (E Q:Value->Shared->Prop),Q (.bool b) s->wpAny (model prog w) A (richCompare .Lt y x) Q E s
def qcg (A:Around) (s:Shared):List Value->List Value->Bool->Prop
 | [],[],r=>r=false
 | [],_ :: _,r=>r=true
 | _ :: _,[],r=>r=false
 | y :: ys,x :: xs,r=>∃ e,SeqAt.EqAt A s y x e/\(e=true->qcg A s ys xs r)/\(e=false->LtAt A s y x r)
section
open PySem.SeqAt
open PySem.AutoSeq1 (wpAny_loadPart')
open PySem.MeetsSeq PySem.MeetsSeq2 PySem.MeetsSeq3
theorem qb5 (l b:Addr) (items items2:Array Value) (n n2:Nat) (dd dd2:Option Addr) (sl sl2:Array (Option Value)) :
  Meets (Builtin.«tuple.__lt__» ⟨[.ref l,.ref b],[]⟩)
   (fun A R s=>s.heap.get? l=some { cls:=.type "tuple", dict:=dd,data:=.seq items n,slots:=sl }/\s.heap.get? b=some { cls:=.type "tuple", dict:=dd2,data:=.seq items2 n2,slots:=sl2 }/\
    ∃ r,qcg A.in1 s items.toList items2.toList r/\R (.ok (.ret (.bool r))) s) :=
 .of_wp fun prog w A R s h=>by
  obtain ⟨hp,g,d,tk,os⟩:=s;obtain ⟨hl,hb,r,hx,h⟩:=h
  have f2:=AutoSeq1.sub_tuple_tuple
  wp_walk using wpAny_loadPart' hl,wpAny_loadPart' hb,wpAny_forIn_list _ (fun rest b s'=>b.1=none/\s'=⟨hp,g,d,tk,os⟩/\∃ (vs ws:List Value),rest=vs.zip ws/\
   qcg A.in1 ⟨hp,g,d,tk,os⟩ vs ws r/\vs.length + items2.size=ws.length + items.size) _
  case turn =>
   rintro ⟨y,x⟩ rest b s' ⟨hb',rfl,vs,ws,hz,hlx,hlen⟩
   cases vs with
   | nil=>rw [List.zip_nil_left] at hz;cases hz
   | cons v vs =>
    cases ws with
    | nil=>rw [List.zip_nil_right] at hz;cases hz
    | cons u ws =>
     rw [List.zip_cons_cons] at hz
     injection hz with hyx hrest
     injection hyx with hy hx'
     subst hy hx'
     simp only [List.length_cons] at hlen
     obtain ⟨e,he,h1,h2⟩:=hlx
     refine wpAny_bind (he prog w _ _ ?_)
     cases e with
     | true =>
      wp_walk
      exact ⟨rfl,rfl,_,_,hrest,h1 rfl,by omega⟩
     | false =>
      have hri:=h2 rfl prog w
      wp_walk using hri
      exact ⟨_,rfl,by simpa using h⟩
  case fin =>
   rintro ⟨b1,b2⟩ s' ⟨hb',rfl,vs,ws,hz,hlx,hlen⟩
   simp only at hb'
   subst hb'
   have hv:r=decide (items.size < items2.size):=by
    cases vs with
    | nil =>
     cases ws with
     | nil =>
      simp only [List.length_nil] at hlen
      rw [show r=false from hlx]
      exact (decide_eq_false (by omega)).symm
     | cons c hw =>
      simp only [List.length_nil,List.length_cons] at hlen
      rw [show r=true from hlx]
      exact (decide_eq_true (by omega)).symm
    | cons a hv =>
     cases ws with
     | nil =>
      simp only [List.length_nil,List.length_cons] at hlen
      rw [show r=false from hlx]
      exact (decide_eq_false (by omega)).symm
     | cons c hw =>
      rw [List.zip_cons_cons] at hz
      cases hz
   rw [hv] at h
   wp_walk
   exact ⟨_,rfl,by simpa [Builtin.Tuple.tupleCompareSizes] using h⟩
  case h =>
   exact ⟨rfl,rfl,items.toList,items2.toList,rfl,hx,by simp [Nat.add_comm]⟩
end
theorem qgE {A:Around} {s:Shared} {l b:Addr} {items items2:Array Value} {r:Bool} (hl:IsTup s.heap l items) (hb:IsTup s.heap b items2) (hu:A.units < cLine) (h:qcg A.in1 s items.toList items2.toList r):LtAt A s (.ref l) (.ref b) r:=fun prog w E Q q=>by
 obtain ⟨⟨cls,dd,data,sl⟩,ho,hc,n,hd⟩:=id hl
 obtain ⟨⟨cls2,dd2,data2,sl2⟩,ho2,hc2,n2,hd2⟩:=id hb
 simp only at hc hd hc2 hd2
 subst hc hd hc2 hd2
 exact richCompare_meets_room (op:=.Lt) ⟨_,ho,rfl⟩ ⟨_,ho2,rfl⟩ PySem.F.slot_tuple_lt PySem.F.entry_tuple_lt (PySem.F.args_tuple_lt_2 _ _) (qb5 l b items items2 n n2 dd dd2 sl sl2)
  ⟨ho,ho2,r,h,show Value.bool r≠Value.notImplemented/\Q (.bool r) s from ⟨(fun x=>nomatch x),q⟩⟩ hu
theorem qcG {A:Around} {s:Shared} {m:Nat} (hu:A.units + m + 1 < cLine) (hit:∀ (x y:PyData) (a b:Value) (as bs:List Addr) (r:Bool),x.depth <= m->Reads s.heap a x as->Reads s.heap b y bs->x.canLay0=true->y.canLay0=true->ltX x y=some r->LtAt A s a b r) :
  ∀ (xs ys:List PyData) (vs ws:List Value) (as bs:List Addr) (r:Bool),PyData.depthAll xs <= m->ReadsAll s.heap vs xs as->ReadsAll s.heap ws ys bs->PyData.canLayAll0 xs=true->PyData.canLayAll0 ys=true->ltXs xs ys=some r->qcg A s vs ws r:=by
 intro xs
 induction xs with
 | nil =>
  intro ys vs ws as bs r _ h1 h2 _ _ e
  cases h1
  cases ys with
  | nil=>cases h2;rw [ltXs] at e;cases e;rfl
  | cons y ys=>cases h2;rw [ltXs] at e;cases e;rfl
 | cons x xs ih =>
  intro ys vs ws as bs r hm h1 h2 c1 c2 e
  cases h1 with
  | cons rx rxs =>
   cases ys with
   | nil=>cases h2;rw [ltXs] at e;cases e;rfl
   | cons y ys =>
    cases h2 with
    | cons ry rys =>
     have c1':x.canLay0=true/\PyData.canLayAll0 xs=true:=by simpa [PyData.canLayAll0] using c1
     have c2':y.canLay0=true/\PyData.canLayAll0 ys=true:=by simpa [PyData.canLayAll0] using c2
     have hd:max x.depth (PyData.depthAll xs) <= m:=by rw [PyData.depthAll] at hm;exact hm
     have m1:=Nat.le_trans (Nat.le_max_left x.depth (PyData.depthAll xs)) hd
     have m2:=Nat.le_trans (Nat.le_max_right x.depth (PyData.depthAll xs)) hd
     rw [ltXs] at e
     refine ⟨PyData.eqv x y,SeqAt.eqAt_reads x y A s _ _ _ _ rx ry c1'.1 c2'.1 (by have:=Nat.min_le_left x.depth y.depth;omega),fun q=>?_,fun q=>?_⟩
     ·rw [if_pos q] at e
      exact ih ys _ _ _ _ r m2 rxs rys c1'.2 c2'.2 e
     ·rw [if_neg (by rw [q];exact Bool.false_ne_true)] at e
      exact hit x y _ _ _ _ r m1 rx ry c1'.1 c2'.1 e
theorem W2:∀ (n:Nat) (da db:PyData) (A:Around) (s:Shared) (a b:Value) (as bs:List Addr) (r:Bool),da.depth <= n->Reads s.heap a da as->Reads s.heap b db bs->da.canLay0=true->db.canLay0=true->A.units + n + 1 < cLine->ltX da db=some r->LtAt A s a b r:=by
 intro n
 induction n with
 | zero =>
  intro da db A s a b as bs r hd ra rb ca cb hu e
  cases da with
  | int i =>
   cases db with
   | int j =>
    cases ra;cases rb
    rw [ltX] at e
    cases e
    exact fun prog w E Q q=>HT.qcW A s i _ j _ prog w E Q q
   | _=>simp [ltX] at e
  | tuple xs =>
   rw [PyData.depth] at hd
   omega
  | _=>simp [ltX] at e
 | succ n ih =>
  intro da db A s a b as bs r hd ra rb ca cb hu e
  cases da with
  | int i =>
   cases db with
   | int j =>
    cases ra;cases rb
    rw [ltX] at e
    cases e
    exact fun prog w E Q q=>HT.qcW A s i _ j _ prog w E Q q
   | _=>simp [ltX] at e
  | tuple xs =>
   cases db with
   | tuple ys =>
    rw [PyData.depth] at hd
    rw [ltX] at e
    cases ra with
    | tuple e1 c1 d1 t1 =>
     cases rb with
     | tuple e2 c2 d2 t2 =>
      refine qgE ⟨_,e1,c1,_,d1⟩ ⟨_,e2,c2,_,d2⟩ (by omega) ?_
      exact qcG (m:=n) (by show A.units + 1 + n + 1 < cLine;omega) (fun x y a b as bs r hx r1 r2 k1 k2 e=>ih x y A.in1 s a b as bs r hx r1 r2 k1 k2 (by show A.units + 1 + n + 1 < cLine;omega) e)
       xs ys _ _ _ _ r (by omega) t1 t2 (by simpa [PyData.canLay0] using ca) (by simpa [PyData.canLay0] using cb) e
   | _=>simp [ltX] at e
  | _=>simp [ltX] at e
def ltD2 (x y:PyData):Option PyData:=if SeqAt.shaped x=true/\SeqAt.shaped y=true/\x.depth <= 60 then ob (ltX x y) fun r=>some (.bool r) else none
theorem qjO {X:Cx} {k:Nat} (hr:Room k X.A):OpD X (compareOp .Lt) ltD2:=by
 intro pins s σ H x y v u Q I rx ry ⟨S,dx,dy,d,m,h1,h2,e,q⟩
 unfold ltD2 at e
 split at e
 ·rename_i hc
  obtain ⟨as,q1⟩:=h1.reads I (SeqAt.canLay_of_shaped hc.1) rx
  obtain ⟨bs,q2⟩:=h2.reads I (SeqAt.canLay_of_shaped hc.2.1) ry
  obtain ⟨r,e1,e⟩:=qj e
  cases e
  have hu:=hr.units
  exact W2 60 dx dy X.A s v u as bs r hc.2.2 q1 q2 (SeqAt.canLay_of_shaped hc.1) (SeqAt.canLay_of_shaped hc.2.1) (by omega) e1 X.prog X.w X.xe _ (jH I (q _ H (Same.refl H) (.bool r)) rfl)
 ·cases e
end L2
namespace L2
open PySem PySem.Spec PyProof.Rows PySem.W
def runC {α:Type} (lt:Nat->Nat->Option Bool):KasT α->Option α
 | .ret a=>some a
 | .ask i j k=>ob (lt i j) fun b=>runC lt (k b)
theorem qeC {α:Type} {cmp:Nat->Nat->(Bool->Shared->Prop)->Shared->Prop} {lt:Nat->Nat->Option Bool} {s:Shared} {Q:α->Shared->Prop} (hc:∀ i j b C,lt i j=some b->C b s->cmp i j C s) :
  ∀ (t:KasT α) (a:α),runC lt t=some a->Q a s->t.kasWp cmp Q s
 | .ret x,a,e,q=>by cases e;exact q
 | .ask i j k,a,e,q=>by
  obtain ⟨b,e1,e2⟩:=qj e
  exact hc i j b _ e1 (qeC hc (k b) a e2 q)
section
variable {prog:Program} {w:World} {A:Around} {E:Value->Shared->Prop} {s:Shared}
def Kept (a:Addr) (s s':Shared):Prop:=∀ b o,b≠a->s.heap.get? b=some o->s'.heap.get? b=some o
theorem qdB {a:Addr} {vs:List Value} {n:Nat} {P:PySem.Fin->Shared->Prop} {κ:SortKind} {p:Array Nat} (ho:s.heap.get? a=some (seqObj "list" vs.toArray n)) (h2:2 <= vs.length) (h64:vs.length < 64)
  (hk:∀ (s':Shared) (Q:SortKind->Shared->Prop),Kept a s s'->Q κ s'->wpAny (model prog w) A (keyKind' vs.toArray) Q E s')
  (hr:∀ (s':Shared) (G:Array Nat->Shared->Prop),Kept a s s'->G p s'->(kas_sort vs.length).kasWp (kas_ask prog w A κ vs) G s')
  (h:P (.done (.ret .none)) { s with heap:=sortedHeap s.heap a vs (p.toList.map fun i=>vs.getD i Value.none).toArray }) :
  wpAny (model prog w) A (Builtin.«list.sort» ⟨[.ref a],[]⟩) P E s:=by
 have small:vs.length <= sizeLine:=by rw [sizeLine_eq];omega
 have lt:=Heap.lt_size ho
 obtain ⟨e1,o1⟩:∃ e1,(s.heap.update a (Obj.mapSeq fun _=>#[])).get? a=some (seqObj "list" #[] e1):=⟨_,get?_update_seq ho fun _=>#[]⟩
 rw [list_sort_plain]
 refine wpAny_bind (listItems_at ho rfl (wpAny_bind (listUpdate_at ho rfl (wpAny_bind (seqEpoch_at o1 rfl (wpAny_bind ?_))) (by simpa using small) (Nat.zero_le _))))
 refine wpAny_newTuple (wpAny_bind (wpAny_newList (wpAny_holding ?_) (Nat.zero_le _))) (by simpa using small)
 obtain ⟨h6,hE⟩:∃ h6,h6=((s.heap.update a (Obj.mapSeq fun _=>(#[]:Array Value))).push (seqObj "tuple" vs.toArray 0)).push (seqObj "list" #[] 0):=⟨_,rfl⟩
 have kp:Kept a s { s with heap:=h6 }:=fun b o ne e=>by
  show h6.get? b=some o
  rw [hE]
  refine Heap.get?_push_of_some _ (Heap.get?_push_of_some _ ?_)
  rw [Heap.get?_update_ne _ _ _ _ ne]
  exact e
 have o6:h6.get? a=some (seqObj "list" #[] e1):=by
  rw [hE]
  exact Heap.get?_push_of_some _ (Heap.get?_push_of_some _ o1)
 show wpAny (model prog w) A _ P E { s with heap:=((s.heap.update a (Obj.mapSeq fun _=>(#[]:Array Value))).push (seqObj "tuple" vs.toArray 0)).push (seqObj "list" #[] 0) }
 rw [← hE]
 have n2:¬ vs.toArray.size < 2:=by rw [List.size_toArray];omega
 dsimp only
 rw [if_neg n2,if_neg n2]
 refine wpAny_bind (hk _ _ kp ?_)
 refine wpAny_bind (wpAny_mono (kat_run (Q:=fun st' s'=>s'={ s with heap:=h6 }/\arrOf st'=p.map (kas_item (vs.toArray.zip vs.toArray))/\failedOf st'=none/\p.size=vs.length) rfl h2 h64
  (fun p' st' s' z har hf hg=>⟨hg.1,by rw [← hg.2];exact har,hf,by rw [← hg.2];exact z⟩) (hr _ (fun p' s'=>s'={ s with heap:=h6 }/\p'=p) kp ⟨rfl,rfl⟩)) ?_ fun _ _ e=>e)
 rintro ⟨⟨⟩,st'⟩ s' ⟨rfl,har,hf,hz⟩
 dsimp only
 rw [kat_snds rfl har]
 refine wpAny_bind (seqEpoch_at o6 rfl (wpAny_bind (listUpdate_at o6 rfl ?_ (Nat.zero_le _) (by rw [List.size_toArray,List.length_map,Array.length_toList,hz];omega))))
 rw [hf]
 simp only [bne_self_eq_false,Bool.false_eq_true,if_false]
 refine wpAny_pure ?_
 rw [hE]
 exact h
theorem qdC {a:Addr} {vs:List Value} {n:Nat} {P:PySem.Fin->Shared->Prop} (ho:s.heap.get? a=some (seqObj "list" vs.toArray n)) (h2:vs.length < 2)
  (h:P (.done (.ret .none)) { s with heap:=sortedHeap s.heap a vs vs.toArray }):wpAny (model prog w) A (Builtin.«list.sort» ⟨[.ref a],[]⟩) P E s:=by
 have small:vs.length <= sizeLine:=by rw [sizeLine_eq];omega
 obtain ⟨e1,o1⟩:∃ e1,(s.heap.update a (Obj.mapSeq fun _=>#[])).get? a=some (seqObj "list" #[] e1):=⟨_,get?_update_seq ho fun _=>#[]⟩
 rw [list_sort_plain]
 refine wpAny_bind (listItems_at ho rfl (wpAny_bind (listUpdate_at ho rfl (wpAny_bind (seqEpoch_at o1 rfl (wpAny_bind ?_))) (by simpa using small) (Nat.zero_le _))))
 refine wpAny_newTuple (wpAny_bind (wpAny_newList (wpAny_holding ?_) (Nat.zero_le _))) (by simpa using small)
 obtain ⟨h6,hE⟩:∃ h6,h6=((s.heap.update a (Obj.mapSeq fun _=>(#[]:Array Value))).push (seqObj "tuple" vs.toArray 0)).push (seqObj "list" #[] 0):=⟨_,rfl⟩
 have o6:h6.get? a=some (seqObj "list" #[] e1):=by
  rw [hE]
  exact Heap.get?_push_of_some _ (Heap.get?_push_of_some _ o1)
 show wpAny (model prog w) A _ P E { s with heap:=((s.heap.update a (Obj.mapSeq fun _=>(#[]:Array Value))).push (seqObj "tuple" vs.toArray 0)).push (seqObj "list" #[] 0) }
 rw [← hE]
 have n2:vs.toArray.size < 2:=by rw [List.size_toArray];omega
 dsimp only
 rw [if_pos n2,if_pos n2]
 refine wpAny_bind (wpAny_pure ?_)
 rw [StateT.run_pure]
 refine wpAny_bind (wpAny_pure ?_)
 dsimp only
 have eo:Array.map (fun x=>x.2) (vs.toArray.zip vs.toArray)=vs.toArray:=by
  apply Array.toList_inj.mp
  simp [List.map_snd_zip]
 show wpAny (model prog w) A (seqEpoch a >>= _) P E { s with heap:=h6 }
 refine wpAny_bind (seqEpoch_at o6 rfl (wpAny_bind ?_))
 rw [show Array.map (fun x=>x.2) (arrOf (SortSt.mk' general' (vs.toArray.zip vs.toArray) #[] 7 none))=vs.toArray from eo]
 refine listUpdate_at o6 rfl ?_ (Nat.zero_le _) (by rw [List.size_toArray];omega)
 simp only [bne_self_eq_false,Bool.false_eq_true,if_false]
 refine wpAny_pure ?_
 rw [hE]
 exact h
theorem qb3 {l:Addr} {vs:List Value} {Q:Value->Shared->Prop} {κ:SortKind} {p:Array Nat} (hl:s.heap.IsList l vs.toArray) (h2:2 <= vs.length) (h64:vs.length < 64)
  (hk:∀ (s':Shared) (Q:SortKind->Shared->Prop),(∀ b o,s.heap.get? b=some o->s'.heap.get? b=some o)->Q κ s'->wpAny (model prog w) A.in1.in1 (keyKind' vs.toArray) Q (fun _ _=>False) s')
  (hr:∀ (s':Shared) (G:Array Nat->Shared->Prop),(∀ b o,s.heap.get? b=some o->s'.heap.get? b=some o)->G p s'->(kas_sort vs.length).kasWp (kas_ask prog w A.in1.in1 κ vs) G s')
  (h:Q (.ref (s.heap.objs.size + 1)) { s with heap:=sortedAll s.heap vs (p.toList.map fun i=>vs.getD i Value.none).toArray }) :
  wpAny (model prog w) A (call (.builtin "sorted") [.ref l]) Q E s:=by
 have small:vs.length <= sizeLine:=by rw [sizeLine_eq];omega
 refine Calls.call_function_entry kind_sorted plain_sorted entry_sorted (args_sorted1 _) ?_
 unfold Builtin.«sorted»
 refine wpAny_bind (m:=checkCount "sorted" 1 1 _) (wpAny_pure (wpAny_bind (collect_list hl (wpAny_bind (wpAny_newList ?_ (by simpa using small))) (by simpa using small))))
 have zz:((s.heap.push (seqObj "list" #[] 0)).update s.heap.objs.size (Obj.mapSeq (· ++ vs.toArray))).objs.size=s.heap.objs.size + 1:=by rw [Heap.size_update,size_push']
 obtain ⟨h3,hH⟩:∃ h3,h3=((s.heap.push (seqObj "list" #[] 0)).update s.heap.objs.size (Obj.mapSeq (· ++ vs.toArray))).push (seqObj "list" vs.toArray 0):=⟨_,rfl⟩
 have oL:h3.get? (s.heap.objs.size + 1)=some (seqObj "list" vs.toArray 0):=by
  rw [hH,← zz]
  exact Heap.get?_push_size _ rfl
 have keep:∀ b o,s.heap.get? b=some o->h3.get? b=some o:=fun b o e=>by
  rw [hH]
  have hlt:=Heap.lt_size e
  refine Heap.get?_push_of_some _ ?_
  rw [Heap.get?_update_ne _ _ _ _ (Nat.ne_of_lt hlt)]
  exact Heap.get?_push_of_some _ e
 show wpAny _ _ _ _ _ { s with heap:=((s.heap.push (seqObj "list" #[] 0)).update s.heap.objs.size (Obj.mapSeq (· ++ vs.toArray))).push (seqObj "list" vs.toArray 0) }
 rw [zz,← hH]
 have k2:∀ s':Shared,Kept (s.heap.objs.size + 1) { s with heap:=h3 } s'->∀ b o,s.heap.get? b=some o->s'.heap.get? b=some o:=fun s' kp b o e=>kp b o (Nat.ne_of_lt (Nat.lt_succ_of_lt (Heap.lt_size e))) (keep b o e)
 refine wpAny_bind (wpAny_holding (wpAny_call_entry slot_list_sort ⟨_,oL,rfl⟩ entry_list_sort (qdB (κ:=κ) (p:=p) oL h2 h64 (fun s' Q kp q=>wpAny_mono (hk s' Q (k2 s' kp) q) (fun _ _ z=>z) fun _ _ z=>z.elim) (fun s' G kp q=>hr s' G (k2 s' kp) q) ⟨_,rfl,?_⟩) (args_list_sort _)))
 refine wpAny_pure ⟨_,rfl,?_⟩
 have hA:sortedHeap h3 (s.heap.objs.size + 1) vs (p.toList.map fun i=>vs.getD i Value.none).toArray=sortedAll s.heap vs (p.toList.map fun i=>vs.getD i Value.none).toArray:=by
  rw [hH]
  rfl
 rw [hA]
 exact h
theorem qb4 {l:Addr} {vs:List Value} {Q:Value->Shared->Prop} (hl:s.heap.IsList l vs.toArray) (h2:vs.length < 2)
  (h:Q (.ref (s.heap.objs.size + 1)) { s with heap:=sortedAll s.heap vs vs.toArray }) :
  wpAny (model prog w) A (call (.builtin "sorted") [.ref l]) Q E s:=by
 have small:vs.length <= sizeLine:=by rw [sizeLine_eq];omega
 refine Calls.call_function_entry kind_sorted plain_sorted entry_sorted (args_sorted1 _) ?_
 unfold Builtin.«sorted»
 refine wpAny_bind (m:=checkCount "sorted" 1 1 _) (wpAny_pure (wpAny_bind (collect_list hl (wpAny_bind (wpAny_newList ?_ (by simpa using small))) (by simpa using small))))
 have zz:((s.heap.push (seqObj "list" #[] 0)).update s.heap.objs.size (Obj.mapSeq (· ++ vs.toArray))).objs.size=s.heap.objs.size + 1:=by rw [Heap.size_update,size_push']
 obtain ⟨h3,hH⟩:∃ h3,h3=((s.heap.push (seqObj "list" #[] 0)).update s.heap.objs.size (Obj.mapSeq (· ++ vs.toArray))).push (seqObj "list" vs.toArray 0):=⟨_,rfl⟩
 have oL:h3.get? (s.heap.objs.size + 1)=some (seqObj "list" vs.toArray 0):=by
  rw [hH,← zz]
  exact Heap.get?_push_size _ rfl
 show wpAny _ _ _ _ _ { s with heap:=((s.heap.push (seqObj "list" #[] 0)).update s.heap.objs.size (Obj.mapSeq (· ++ vs.toArray))).push (seqObj "list" vs.toArray 0) }
 rw [zz,← hH]
 refine wpAny_bind (wpAny_holding (wpAny_call_entry slot_list_sort ⟨_,oL,rfl⟩ entry_list_sort (qdC oL h2 ⟨_,rfl,?_⟩) (args_list_sort _)))
 refine wpAny_pure ⟨_,rfl,?_⟩
 have hA:sortedHeap h3 (s.heap.objs.size + 1) vs vs.toArray=sortedAll s.heap vs vs.toArray:=by
  rw [hH]
  rfl
 rw [hA]
 exact h
end
end L2
namespace L2
open PySem PySem.Spec PyProof.Rows PySem.W
def qcJ (ds:List PyData) (i j:Nat):Option Bool:=match ds[i]?,ds[j]? with
 | some x,some y=>ltX x y
 | _,_=>none
def keyD:PyData->Nat
 | .tuple (.int _ :: _)=>0
 | .tuple (.tuple _ :: _)=>1
 | .int _=>2
 | _=>3
def qcT (ds:List PyData) (p:Array Nat):Option PyData:=if (p.toList.all fun i=>decide (i < ds.length))=true/\p.toList.length <= 1000 then some (.list (p.toList.map fun i=>ds.getD i .none)) else none
def je (k:Nat) (ds:List PyData):Bool:=(ds.all fun d=>keyD d == k) && (decide (2 <= ds.length) && (decide (ds.length < 64) && (PyData.canLayAll0 ds && decide (PyData.depthAll ds <= 50))))
def zU:List PyData->Option PyData
 | [.list ds]=>if ds.length < 2 then some (.list ds) else if je 0 ds=true\/je 1 ds=true then ob (runC (qcJ ds) (kas_sort ds.length)) fun p=>qcT ds p else none
 | _=>none
section
variable {prog:Program} {w:World} {A:Around} {s:Shared}
theorem qbF {b fin:Bool} {m:Nat} {Q:Bool->Shared->Prop} {r:Bool} (hu:A.units + m + 1 < cLine) (q:Q r s) :
  ∀ (xs ys:List PyData) (vs ws:List Value) (as bs:List Addr) (i:Nat),PyData.depthAll xs <= m->ReadsAll s.heap vs xs as->ReadsAll s.heap ws ys bs->PyData.canLayAll0 xs=true->PyData.canLayAll0 ys=true->ltXs xs ys=some r->
   (b=true->i=0->∀ x y,xs.head?=some x->ys.head?=some y->∃ n k,x=.int n/\y=.int k)->fin=decide (xs.length < ys.length)->KatLex prog w A b fin Q (vs.zip ws) i s:=by
 intro xs
 induction xs with
 | nil =>
  intro ys vs ws as bs i _ h1 h2 _ _ e _ hf
  cases h1
  rw [List.zip_nil_left]
  refine kat_nil ?_
  cases ys with
  | nil=>rw [ltXs] at e;cases e;rw [hf];simpa using q
  | cons y ys=>rw [ltXs] at e;cases e;rw [hf];simpa using q
 | cons x xs ih =>
  intro ys vs ws as bs i hm h1 h2 c1 c2 e hb hf
  cases h1 with
  | cons rx rxs =>
   cases ys with
   | nil =>
    cases h2
    rw [List.zip_nil_right]
    refine kat_nil ?_
    rw [ltXs] at e;cases e;rw [hf];simpa using q
   | cons y ys =>
    cases h2 with
    | cons ry rys =>
     have c1':x.canLay0=true/\PyData.canLayAll0 xs=true:=by simpa [PyData.canLayAll0] using c1
     have c2':y.canLay0=true/\PyData.canLayAll0 ys=true:=by simpa [PyData.canLayAll0] using c2
     have hd:max x.depth (PyData.depthAll xs) <= m:=by rw [PyData.depthAll] at hm;exact hm
     have m1:=Nat.le_trans (Nat.le_max_left x.depth (PyData.depthAll xs)) hd
     have m2:=Nat.le_trans (Nat.le_max_right x.depth (PyData.depthAll xs)) hd
     rw [ltXs] at e
     rw [List.zip_cons_cons]
     refine kat_cons (SeqAt.eqAt_reads x y A s _ _ _ _ rx ry c1'.1 c2'.1 (by have:=Nat.min_le_left x.depth y.depth;omega) prog w _ _ (kat_go (fun z=>?_) fun z=>?_))
     ·rw [if_pos z] at e
      refine kat_yes (ih ys _ _ _ _ (i + 1) m2 rxs rys c1'.2 c2'.2 e (fun _ z=>by omega) ?_)
      rw [hf,List.length_cons,List.length_cons]
      exact decide_eq_decide.mpr (by omega)
     ·rw [if_neg (by rw [z];exact Bool.false_ne_true)] at e
      refine kat_no ?_
      cases hbi:(b && i == 0) with
      | true =>
       rw [Bool.and_eq_true] at hbi
       obtain ⟨n,k,rfl,rfl⟩:=hb hbi.1 (by simpa using hbi.2) x y rfl rfl
       cases rx;cases ry
       rw [ltX] at e
       cases e
       exact oneLt_int q
      | false =>
       exact kat_one _ _ (W2 m x y A s _ _ _ _ r m1 rx ry c1'.1 c2'.1 hu e prog w _ _ q)
theorem Yj {h:Heap}:∀ {vs:List Value} {ds:List PyData} {as:List Addr},ReadsAll h vs ds as->vs.length=ds.length
 | _,_,_,.nil=>rfl
 | _,_,_,.cons _ t=>by rw [List.length_cons,List.length_cons,Yj t]
theorem Yi {h:Heap}:∀ {vs:List Value} {ds:List PyData} {as:List Addr} {i:Nat} {d:PyData},ReadsAll h vs ds as->ds[i]?=some d->∃ v bs,vs[i]?=some v/\Reads h v d bs
 | _,_,_,_,_,.nil,e=>by simp at e
 | _,_,_,0,_,.cons r _,e=>by simp at e;subst e;exact ⟨_,_,rfl,r⟩
 | _,_,_,i + 1,d,.cons _ t,e=>by
  obtain ⟨v,bs,h1,h2⟩:=Yi (i:=i) (d:=d) t (by simpa using e)
  exact ⟨v,bs,by simpa using h1,h2⟩
theorem yc:∀ {ds:List PyData} {i:Nat} {d:PyData},PyData.canLayAll0 ds=true->ds[i]?=some d->d.canLay0=true/\d.depth <= PyData.depthAll ds
 | [],_,_,_,e=>by simp at e
 | x :: xs,0,d,h,e=>by
  have h':x.canLay0=true/\PyData.canLayAll0 xs=true:=by simpa [PyData.canLayAll0] using h
  simp at e
  subst e
  exact ⟨h'.1,by rw [PyData.depthAll];exact Nat.le_max_left _ _⟩
 | x :: xs,i + 1,d,h,e=>by
  have h':x.canLay0=true/\PyData.canLayAll0 xs=true:=by simpa [PyData.canLayAll0] using h
  obtain ⟨h1,h2⟩:=yc (i:=i) (d:=d) h'.2 (by simpa using e)
  exact ⟨h1,Nat.le_trans h2 (by rw [PyData.depthAll];exact Nat.le_max_right _ _)⟩
theorem WM {h:Heap} {k:Nat} (hk:k < 2):∀ {vs:List Value} {ds:List PyData} {as:List Addr},ReadsAll h vs ds as->(ds.all fun d=>keyD d == k)=true->∃ fs:List Value,KatTups h vs fs/\fs.length=vs.length/\∀ (M:Model),∀ f∈fs,Looks M h (typeOf f) (if k=0 then Value.type "int" else Value.type "tuple")
 | _,_,_,.nil,_=>⟨[],trivial,rfl,fun _ _ z=>nomatch z⟩
 | _,d :: ds,_,.cons (d:=_) r t,e=>by
  rw [List.all_cons,Bool.and_eq_true] at e
  obtain ⟨fs,h1,h2,h3⟩:=WM hk t e.2
  have e1:keyD d=k:=by simpa using e.1
  cases d with
  | tuple xs =>
   cases r with
   | @tuple a o its n xs' as' g1 g2 g3 g4 =>
    cases xs with
    | nil=>rw [show keyD (.tuple [])=3 from rfl] at e1;omega
    | cons x xs =>
     obtain ⟨v,rv,q1,rx⟩:=Yi (i:=0) g4 rfl
     have h0:its[0]?=some v:=by rw [← Array.getElem?_toList];exact q1
     refine ⟨v :: fs,KatTups.cons g1 g2 g3 h0 h1,by rw [List.length_cons,List.length_cons,h2],fun M f hf=>?_⟩
     rcases List.mem_cons.mp hf with rfl | hf
     ·cases x with
      | int n =>
       cases rx
       rw [show keyD (.tuple (.int n :: xs))=0 from rfl] at e1
       rw [if_pos e1.symm]
       exact Looks.of_pure rfl
      | tuple ys =>
       rw [show keyD (.tuple (.tuple ys :: xs))=1 from rfl] at e1
       cases rx with
       | tuple k1 k2 k3 k4 =>
        rw [if_neg (by omega),← k2]
        exact (Looks.ld k1).andThen .now
      | none=>rw [show keyD (.tuple (.none :: xs))=3 from rfl] at e1;omega
      | bool _=>rw [show keyD (.tuple (.bool _ :: xs))=3 from rfl] at e1;omega
      | str _=>rw [show keyD (.tuple (.str _ :: xs))=3 from rfl] at e1;omega
      | list _=>rw [show keyD (.tuple (.list _ :: xs))=3 from rfl] at e1;omega
      | dict _=>rw [show keyD (.tuple (.dict _ :: xs))=3 from rfl] at e1;omega
     ·exact h3 M f hf
  | int n=>rw [show keyD (.int n)=2 from rfl] at e1;omega
  | none=>rw [show keyD .none=3 from rfl] at e1;omega
  | bool _=>rw [show keyD (.bool _)=3 from rfl] at e1;omega
  | str _=>rw [show keyD (.str _)=3 from rfl] at e1;omega
  | list _=>rw [show keyD (.list _)=3 from rfl] at e1;omega
  | dict _=>rw [show keyD (.dict _)=3 from rfl] at e1;omega
end
end L2
namespace L2
open PySem PySem.Spec PyProof.Rows PySem.W
section
variable {h h':Heap}
mutual
theorem qfk (k:∀ b o,h.get? b=some o->h'.get? b=some o):∀ {d:PyData} {v:Value} {as:List Addr},Reads h v d as->d.canLay0=true->Reads h' v d as
 | .none,_,_,r,_=>by cases r;exact .none
 | .bool _,_,_,r,_=>by cases r;exact .bool _
 | .int _,_,_,r,_=>by cases r;exact .int _ _
 | .str _,_,_,r,_=>by cases r;exact .str _ _
 | .list xs,_,_,r,c=>by
  cases r with
  | list e q g t=>exact .list (k _ _ e) q g (QT k t (by simpa [PyData.canLay0] using c))
 | .tuple xs,_,_,r,c=>by
  cases r with
  | tuple e q g t=>exact .tuple (k _ _ e) q g (QT k t (by simpa [PyData.canLay0] using c))
 | .dict _,_,_,_,c=>by simp [PyData.canLay0] at c
theorem QT (k:∀ b o,h.get? b=some o->h'.get? b=some o):∀ {ds:List PyData} {vs:List Value} {as:List Addr},ReadsAll h vs ds as->PyData.canLayAll0 ds=true->ReadsAll h' vs ds as
 | [],_,_,r,_=>by cases r;exact .nil
 | d :: ds,_,_,r,c=>by
  have c':d.canLay0=true/\PyData.canLayAll0 ds=true:=by simpa [PyData.canLayAll0] using c
  cases r with
  | cons r t=>exact .cons (qfk k r c'.1) (QT k t c'.2)
end
end
theorem qgG {x y:PyData} {r:Bool} (hx:keyD x < 2) (e:ltX x y=some r):∃ xs ys,x=.tuple xs/\y=.tuple ys/\ltXs xs ys=some r:=by
 cases x with
 | tuple xs =>
  cases y with
  | tuple ys=>rw [ltX] at e;exact ⟨xs,ys,rfl,rfl,e⟩
  | _=>simp [ltX] at e
 | int n=>simp [keyD] at hx
 | _=>simp [ltX] at e
theorem qaS {k:Nat} {xs:List PyData} (e:keyD (.tuple xs)=k) (h0:k=0):∀ x,xs.head?=some x->∃ n,x=.int n:=by
 intro x hx
 cases xs with
 | nil=>cases hx
 | cons y ys =>
  cases hx
  cases x with
  | int n=>exact ⟨n,rfl⟩
  | _=>(first | (simp [keyD] at e;omega) | (simp only [keyD] at e;omega))
theorem getD_some {α:Type} {xs:List α} {i:Nat} {x d:α} (e:xs[i]?=some x):xs.getD i d=x:=by rw [List.getD_eq_getElem?_getD,e];rfl
theorem W3 {X:Cx} {k:Nat} (hr:Room k X.A):qdI X (.builtin "sorted") zU:=by
 intro pins s σ H xs us Q I r ⟨S,ds,d,m,h1,e,q⟩
 unfold zU at e
 split at e
 ·rename_i ds
  split at e
  ·rename_i hlt
   cases e
   obtain ⟨v,rfl,hv⟩:=h1.inv1
   obtain ⟨a,ys,rfl,hs,ht⟩:=hv.list_inv
   obtain ⟨u,rfl,ru⟩:=vals1 r
   cases (show u=Value.ref a from ru)
   obtain ⟨its,rv,pl,hz⟩:=I.list hs.sq
   have hlen:=rv.length
   have hl2:=ht.length
   refine qb4 pl.isList (by omega) ?_
   obtain ⟨en,ob⟩:=sortedAll_at s.heap its its.toArray
   have hfr:H (s.heap.objs.size + 1)=none:=I.hok.fresh (Nat.le_succ _)
   exact ⟨.ref (s.heap.objs.size + 1),_,I.laid (t':=s.toks) (o:=.lst ys) (fun b o e=>sortedAll_old e) (Nat.le_succ _) ⟨hz,_,en,rv,ob⟩,rfl,q _ _ (Same.lay hfr) hfr (OwnO.laid hfr ht)⟩
  split at e
  ·rename_i hok
   obtain ⟨p,e1,e2⟩:=qj e
   obtain ⟨v,rfl,hv⟩:=h1.inv1
   obtain ⟨a,ys,rfl,hs,ht⟩:=hv.list_inv
   obtain ⟨u,rfl,ru⟩:=vals1 r
   cases (show u=Value.ref a from ru)
   obtain ⟨its,rv,pl,hz⟩:=I.list hs.sq
   obtain ⟨kk,hk2,hk⟩:∃ kk,kk < 2/\je kk ds=true:=hok.elim (fun z=>⟨0,by decide,z⟩) fun z=>⟨1,by decide,z⟩
   unfold je at hk
   simp only [Bool.and_eq_true,decide_eq_true_eq] at hk
   obtain ⟨hall,l2,l64,hcan,hdep⟩:=hk
   obtain ⟨as,ra⟩:=ht.reads I hcan rv
   have hlen:=Yj ra
   unfold qcT at e2
   split at e2
   ·rename_i hin
    cases e2
    have hin':∀ i∈p.toList,i < ds.length:=fun i hi=>by
     have:=List.all_eq_true.mp hin.1 i hi
     simpa using this
    have hu:=hr.units
    obtain ⟨T,hT⟩:∃ T,T=(if kk=0 then Value.type "int" else Value.type "tuple"):=⟨_,rfl⟩
    have hT2:(T == T)=true:=by rw [hT];split<;>rfl
    have hb:(T != Value.type "tuple")=true->kk=0:=fun z=>by
     rw [hT] at z
     by_cases h0:kk=0
     ·exact h0
     ·rw [if_neg h0] at z;exact absurd z (by decide)
    refine qb3 (κ:=tuples' (T != Value.type "tuple")) (p:=p) pl.isList (by omega) (by omega) (fun s' Q' keep q'=>?_) (fun s' G keep g=>?_) ?_
    ·obtain ⟨fs,t1,t2,t3⟩:=WM hk2 (QT keep ra hcan) hall
     exact kat_kind t1 (by omega) (fun f hf=>by rw [hT];exact t3 _ f hf) hT2 q'
    ·have ra':=QT keep ra hcan
     rw [hlen]
     refine qeC (fun i j b C el hC=>?_) _ p e1 g
     unfold qcJ at el
     split at el
     ·rename_i x y ex ey
      obtain ⟨vx,bx,gx,rx⟩:=Yi ra' ex
      obtain ⟨vy,byy,gy,ry⟩:=Yi ra' ey
      obtain ⟨cx,dx⟩:=yc hcan ex
      obtain ⟨cy,dy⟩:=yc hcan ey
      have kx:keyD x=kk:=by
       have:=List.all_eq_true.mp hall x (List.mem_of_getElem? ex)
       simpa using this
      have ky:keyD y=kk:=by
       have:=List.all_eq_true.mp hall y (List.mem_of_getElem? ey)
       simpa using this
      obtain ⟨xs,ys',rfl,rfl,elx⟩:=qgG (by omega) el
      show kas_ask X.prog X.w X.A.in1.in1 _ its i j C s'
      unfold kas_ask
      rw [getD_some gx,getD_some gy]
      cases rx with
      | @tuple ax ox ax1 nx _ _ x1 x2 x3 x4 =>
       cases ry with
       | @tuple ay oy ay1 ny _ _ y1 y2 y3 y4 =>
        have dxs:PyData.depthAll xs <= 50:=by rw [PyData.depth] at dx;omega
        refine kat_lt x1 x3 y1 y3 (qbF (m:=50) (by show X.A.units + 1 + 1 + 50 + 1 < cLine;omega) hC xs ys' _ _ _ _ 0 dxs x4 y4 (by simpa [PyData.canLay0] using cx) (by simpa [PyData.canLay0] using cy) elx (fun hbb _ x y hx hy=>?_) ?_)
        ·have h0:=hb hbb
         obtain ⟨n1,rfl⟩:=qaS kx h0 x hx
         obtain ⟨n2,rfl⟩:=qaS ky h0 y hy
         exact ⟨n1,n2,rfl,rfl⟩
        ·have z1:=Yj x4
         have z2:=Yj y4
         rw [Array.length_toList] at z1 z2
         rw [z1,z2]
     ·cases el
    ·obtain ⟨en,ob⟩:=sortedAll_at s.heap its (p.toList.map fun i=>its.getD i Value.none).toArray
     have hfr:H (s.heap.objs.size + 1)=none:=I.hok.fresh (Nat.le_succ _)
     have dl:DenL X.K H S (p.toList.map fun i=>ys.getD i .non) (p.toList.map fun i=>ds.getD i .none):=by
      generalize p.toList=pl at hin'
      induction pl with
      | nil=>exact .nil
      | cons i pl ih =>
       have hi:=hin' i (.head _)
       obtain ⟨vy,gy,dy⟩:=ht.get (List.getElem?_eq_getElem hi)
       rw [List.map_cons,List.map_cons,getD_some gy,getD_some (List.getElem?_eq_getElem hi)]
       exact .cons dy (ih fun j hj=>hin' j (.tail _ hj))
     have vl:Vals (p.toList.map fun i=>ys.getD i .non) (p.toList.map fun i=>its.getD i Value.none):=by
      generalize p.toList=pl at hin'
      induction pl with
      | nil=>exact .nil
      | cons i pl ih =>
       have hi:i < ys.length:=by rw [ht.length];exact hin' i (.head _)
       obtain ⟨w,gw,rw'⟩:=rv.get (List.getElem?_eq_getElem hi)
       rw [List.map_cons,List.map_cons,getD_some (List.getElem?_eq_getElem hi),getD_some gw]
       exact .cons rw' (ih fun j hj=>hin' j (.tail _ hj))
     have zz:(p.toList.map fun i=>ys.getD i V.non).length <= sizeLine:=by rw [List.length_map];exact Nat.le_of_lt (zq hin.2)
     refine ⟨.ref (s.heap.objs.size + 1),_,I.laid (t':=s.toks) (o:=.lst (p.toList.map fun i=>ys.getD i .non)) (fun b o e=>sortedAll_old e) (Nat.le_succ _) ⟨zz,_,en,vl,ob⟩,rfl,q _ _ (Same.lay hfr) hfr (OwnO.laid hfr dl)⟩
   ·cases e2
  ·cases e
 ·cases e
end L2
namespace L2
open PySem PySem.Spec PyProof.Rows
def qc9 (K:PySem.W.Frag) (mg:Str->Option Value) (x:Str) (d:PyData):Prop:=∃ v u,mg x=some u/\RelV v u/\∀ H S,Den K H S v d
theorem qgX {X:Cx} {M:List Nat} {x:Str} {d:PyData} {pos:Pos} (C:qc9 X.K X.mg x d) (hg:Gl X x) (hdb:(x == ("__debug__" : Str))=false:=by decide +kernel):PD X M (.Name x pos) (kd d):=by
 obtain ⟨v,u,m,r,hd⟩:=C
 exact qi4 hg m r hd hdb
end L2
namespace L2
open PySem
theorem jG:bootBuiltins "sorted" = some (.builtin "sorted"):=by decide +kernel
end L2
namespace L2
open PySem PySem.Spec PyProof.Rows
theorem ob_s {α β:Type} (x:α) (f:α->Option β):ob (some x) f=f x:=rfl
theorem vr_z (o:Option PyData) (ρ:Rho):vr 0 (o :: ρ)=o:=rfl
theorem vr_s (n:Nat) (o:Option PyData) (ρ:Rho):vr (n + 1) (o :: ρ)=vr n ρ:=rfl
theorem atI0 {α:Type} (x:α) (xs:List α):atI (x :: xs) 0=some x:=by simp [atI,ixN]
theorem Ja {α:Type} (x:α) (xs:List α) (k:Nat):atI (x :: xs) ((k:Int) + 1)=atI xs (k:Int):=by
 unfold atI ixN
 have h1:(0:Int) <= (k:Int) + 1:=by omega
 have h2:(0:Int) <= (k:Int):=by omega
 rw [if_pos h1,if_pos h2]
 by_cases h:(k:Int) < xs.length
 ·have h':(k:Int) + 1 < ((x :: xs).length:Int):=by rw [List.length_cons];omega
  rw [if_pos h,if_pos h']
  have e1:((k:Int) + 1).toNat=k + 1:=by omega
  have e2:(k:Int).toNat=k:=by omega
  rw [e1,e2]
  rfl
 ·have h':¬ (k:Int) + 1 < ((x :: xs).length:Int):=by rw [List.length_cons];omega
  rw [if_neg h,if_neg h']
  rfl
theorem atI1 {α:Type} (x y:α) (xs:List α):atI (x :: y :: xs) 1=some y:=(Ja x (y :: xs) 0).trans (atI0 y xs)
theorem atI2 {α:Type} (x y z:α) (xs:List α):atI (x :: y :: z :: xs) 2=some z:=(Ja x (y :: z :: xs) 1).trans (atI1 y z xs)
theorem atI3 {α:Type} (x y z a:α) (xs:List α):atI (x :: y :: z :: a :: xs) 3=some a:=(Ja x (y :: z :: a :: xs) 2).trans (atI2 y z a xs)
theorem atI4 {α:Type} (x y z a b:α) (xs:List α):atI (x :: y :: z :: a :: b :: xs) 4=some b:=(Ja x (y :: z :: a :: b :: xs) 3).trans (atI3 y z a b xs)
theorem atI5 {α:Type} (x y z a b c:α) (xs:List α):atI (x :: y :: z :: a :: b :: c :: xs) 5=some c:=(Ja x (y :: z :: a :: b :: c :: xs) 4).trans (atI4 y z a b c xs)
theorem zf {i j:Int} (h:IntMulOk i j):mulD (.int i) (.int j)=some (.int (i * j)):=by
 show (if IntMulOk i j then some (PyData.int (i * j)) else none)=_
 rw [if_pos h]
def Bd (n:Nat) (i:Int):Prop:=Builtin.Int.intBits i <= n
theorem Bd.ok {n m:Nat} {i j:Int} (h:Bd n i) (g:Bd m j) (e:n + m <= 134217728:=by decide):IntMulOk i j:=IntMulOk.of_le h g e
theorem Bd.add {n m:Nat} {i j:Int} (h:Bd n i) (g:Bd m j):Bd (max n m + 1) (i + j):=intBits_add_le h g
theorem Bd.sub {n m:Nat} {i j:Int} (h:Bd n i) (g:Bd m j):Bd (max n m + 1) (i - j):=intBits_sub_le h g
theorem Bd.neg {n:Nat} {i:Int} (h:Bd n i):Bd n (-i):=intBits_neg_le h
theorem Bd.mono {n m:Nat} {i:Int} (h:Bd n i) (e:n <= m:=by decide):Bd m i:=Nat.le_trans h e
theorem Bd.of {n:Nat} {i:Int} (h:i.natAbs < 2 ^ n):Bd n i:=intBits_le_iff.mpr h
theorem natLit (n:Nat):((no_index (OfNat.ofNat n):Nat):Int)=(OfNat.ofNat n:Int):=rfl
theorem qij (i j:Int):eqD (.int i) (.int j)=some (.bool (i == j)):=rfl
theorem qiS (i j:Int):neD (.int i) (.int j)=some (.bool (!(i == j))):=rfl
theorem pow_a:powD (.int 7919) (.int 8)=some (.int (7919 ^ 8)):=rfl
theorem pow_b:powD (.int 10) (.int 30)=some (.int (10 ^ 30)):=rfl
theorem qbO (i:Int) {j:Int} (h:0 < j):modD (.int i) (.int j)=some (.int (i % j)):=by
 show (if 0 < j then some (PyData.int (i % j)) else none)=_
 rw [if_pos h]
theorem qga (i:Int) {j:Int} (h:0 < j) (h2:j < 1073741824):zY (.int i) (.int j)=some (.int (i / j)):=by
 show (if CDiv i j then some (PyData.int (i / j)) else none)=_
 rw [if_pos ⟨h,h2⟩]
def Wk (o:Option Out) (w:Rho->Option Out):Option Out:=match o with | some (.nx ρ')=>w ρ' | o=>o
theorem qhB (u w:Rho->Option Out) (ρ:Rho):seqO u w ρ=Wk (u ρ) w:=by
 unfold seqO ob Wk
 cases u ρ with
 | none=>rfl
 | some o=>cases o<;>rfl
theorem qcj (ρ:Rho) (w:Rho->Option Out):Wk (some (.nx ρ)) w=w ρ:=rfl
theorem qfR (d:PyData) (w:Rho->Option Out):Wk (some (.rt d)) w=some (.rt d):=rfl
theorem qfP (ρ:Rho) (w:Rho->Option Out):Wk (some (.bk ρ)) w=some (.bk ρ):=rfl
theorem qfQ (ρ:Rho) (w:Rho->Option Out):Wk (some (.ct ρ)) w=some (.ct ρ):=rfl
def ifO {α:Type} (b:Option Bool) (u w:Rho->Option α) (ρ:Rho):Option α:=match b with | some true=>u ρ | some false=>w ρ | none=>none
theorem ifO_t {α:Type} (u w:Rho->Option α) (ρ:Rho):ifO (some true) u w ρ=u ρ:=rfl
theorem ifO_f {α:Type} (u w:Rho->Option α) (ρ:Rho):ifO (some false) u w ρ=w ρ:=rfl
theorem sIf_b (p:Rho->Option Bool) (u w:Rho->Option Out) (ρ:Rho):sIf p u w ρ=ifO (p ρ) u w ρ:=by
 unfold sIf ob ifO
 cases p ρ with
 | none=>rfl
 | some b=>cases b<;>rfl
theorem vIf_b (p:Rho->Option Bool) (u w:Rho->Option PyData) (ρ:Rho):vIf p u w ρ=ifO (p ρ) u w ρ:=by
 unfold vIf ob ifO
 cases p ρ with
 | none=>rfl
 | some b=>cases b<;>rfl
theorem tA_b (p q:Rho->Option Bool) (ρ:Rho):tA p q ρ=ifO (p ρ) q (fun _=>some false) ρ:=by
 unfold tA ob ifO
 cases p ρ with
 | none=>rfl
 | some b=>cases b<;>rfl
theorem tO_b (p q:Rho->Option Bool) (ρ:Rho):tO p q ρ=ifO (p ρ) (fun _=>some true) q ρ:=by
 unfold tO ob ifO
 cases p ρ with
 | none=>rfl
 | some b=>cases b<;>rfl
theorem vA_b (f g:Rho->Option PyData) (ρ:Rho):vA f g ρ=ifO (ob (f ρ) jU) g (fun _=>some (.bool false)) ρ:=by
 unfold vA ob ifO
 cases f ρ with
 | none=>rfl
 | some x =>
  dsimp only
  cases jU x with
  | none=>rfl
  | some b=>cases b<;>rfl
theorem vO_b (f g:Rho->Option PyData) (ρ:Rho):vO f g ρ=ifO (ob (f ρ) jU) (fun _=>some (.bool true)) g ρ:=by
 unfold vO ob ifO
 cases f ρ with
 | none=>rfl
 | some x =>
  dsimp only
  cases jU x with
  | none=>rfl
  | some b=>cases b<;>rfl
def setO (o:Option PyData) (i:Nat) (ρ:Rho):Option Out:=match o with | some d=>some (.nx (ρ.set i (some d))) | none=>none
theorem qlC (i:Nat) (f:Rho->Option PyData) (ρ:Rho):sSet i f ρ=setO (f ρ) i ρ:=by
 unfold sSet ob setO
 cases f ρ<;>rfl
theorem qlH (d:PyData) (i:Nat) (ρ:Rho):setO (some d) i ρ=some (.nx (ρ.set i (some d))):=rfl
def binO (a b:Option PyData) (g:PyData->PyData->Option PyData):Option PyData:=match a,b with | some x,some y=>g x y | _,_=>none
theorem ev2_b (fa fb:Rho->Option PyData) (g:PyData->PyData->Option PyData) (ρ:Rho):ev2 fa fb g ρ=binO (fa ρ) (fb ρ) g:=by
 unfold ev2 ob binO
 cases fa ρ<;>cases fb ρ<;>rfl
theorem qke (x y:PyData) (g:PyData->PyData->Option PyData):binO (some x) (some y) g=g x y:=rfl
def J5 (a:Option PyData) (b:Option (List PyData)):Option (List PyData):=match a,b with | some x,some xs=>some (x :: xs) | _,_=>none
theorem aC_b (fa:Rho->Option PyData) (fs:Rho->Option (List PyData)) (ρ:Rho):aC fa fs ρ=J5 (fa ρ) (fs ρ):=by
 unfold aC ob J5
 cases fa ρ<;>cases fs ρ<;>rfl
theorem qib (x:PyData) (xs:List PyData):J5 (some x) (some xs)=some (x :: xs):=rfl
def qfV (n:Nat) (a:Option (List PyData)) (h:List PyData->Option PyData):Option PyData:=match a with | some ds=>if ds.length=n then h ds else none | none=>none
theorem evC_b (n:Nat) (fs:Rho->Option (List PyData)) (h:List PyData->Option PyData) (ρ:Rho):evC n fs h ρ=qfV n (fs ρ) h:=by
 unfold evC ob qfV
 cases fs ρ<;>rfl
theorem qhZ (n:Nat) (ds:List PyData) (h:List PyData->Option PyData):qfV n (some ds) h=if ds.length=n then h ds else none:=rfl
def qdW (b:Option Bool) (tt:Rho->Option Bool) (te:Rho->Option PyData) (ρ:Rho) (d:PyData) (ds:List PyData):Option (List PyData):=match b with | some true=>J5 (te (ρ ++ [some d])) (QH tt te ρ ds) | some false=>QH tt te ρ ds | none=>none
theorem qdV (tt:Rho->Option Bool) (te:Rho->Option PyData) (ρ:Rho) (d:PyData) (ds:List PyData):QH tt te ρ (d :: ds)=qdW (tt (ρ ++ [some d])) tt te ρ d ds:=by
 rw [QH]
 unfold ob qdW J5
 cases tt (ρ ++ [some d]) with
 | none=>rfl
 | some b =>
  cases b with
  | false=>rfl
  | true =>
   dsimp only [if_true]
   rw [if_pos rfl]
   cases te (ρ ++ [some d])<;>cases QH tt te ρ ds<;>rfl
theorem qh6 (tt:Rho->Option Bool) (te:Rho->Option PyData) (ρ:Rho):QH tt te ρ []=some []:=rfl
theorem qdY (tt:Rho->Option Bool) (te:Rho->Option PyData) (ρ:Rho) (d:PyData) (ds:List PyData):qdW (some true) tt te ρ d ds=J5 (te (ρ ++ [some d])) (QH tt te ρ ds):=rfl
theorem qdX (tt:Rho->Option Bool) (te:Rho->Option PyData) (ρ:Rho) (d:PyData) (ds:List PyData):qdW (some false) tt te ρ d ds=QH tt te ρ ds:=rfl
def WQ (a:Option (List PyData)):Option PyData:=match a with | some ys=>some (.list ys) | none=>none
def qf3 (a:Option (List PyData)) (n:Nat) (tt:Rho->Option Bool) (te:Rho->Option PyData) (ρ:Rho):Option PyData:=match a with | some ds=>if ρ.length=n/\ds.length <= 1000 then WQ (QH tt te ρ ds) else none | none=>none
theorem qh8 (n:Nat) (fi:Rho->Option (List PyData)) (tt:Rho->Option Bool) (te:Rho->Option PyData) (ρ:Rho):jk n fi tt te ρ=qf3 (fi ρ) n tt te ρ:=by
 unfold jk ob qf3 WQ
 cases fi ρ with
 | none=>rfl
 | some ds =>
  dsimp only
  split
  ·cases QH tt te ρ ds<;>rfl
  ·rfl
theorem qh2 (ds:List PyData) (n:Nat) (tt:Rho->Option Bool) (te:Rho->Option PyData) (ρ:Rho):qf3 (some ds) n tt te ρ=if ρ.length=n/\ds.length <= 1000 then WQ (QH tt te ρ ds) else none:=rfl
theorem qiL (ds:List PyData):WQ (some ds)=some (.list ds):=rfl
def forI (a:Option (List PyData)) (g:PyData->Rho->Option Rho) (u:Rho->Option Out) (ρ:Rho):Option Out:=match a with | some ds=>forD g u ds ρ | none=>none
theorem qlx (fi:Rho->Option (List PyData)) (g:PyData->Rho->Option Rho) (u:Rho->Option Out) (ρ:Rho):sFor fi g u ρ=forI (fi ρ) g u ρ:=by
 unfold sFor ob forI
 cases fi ρ<;>rfl
theorem qkr (ds:List PyData) (g:PyData->Rho->Option Rho) (u:Rho->Option Out) (ρ:Rho):forI (some ds) g u ρ=forD g u ds ρ:=rfl
def forO (o:Option Out) (g:PyData->Rho->Option Rho) (u:Rho->Option Out) (ds:List PyData):Option Out:=match o with
 | some (.nx ρ')=>forD g u ds ρ'
 | some (.ct ρ')=>forD g u ds ρ'
 | some (.bk ρ')=>some (.nx ρ')
 | some (.rt r)=>some (.rt r)
 | none=>none
theorem Wy (g:PyData->Rho->Option Rho) (u:Rho->Option Out) (d:PyData) (ds:List PyData) (ρ:Rho):forD g u (d :: ds) ρ=forO (ob (g d ρ) u) g u ds:=by
 rw [forD]
 unfold ob forO
 cases g d ρ with
 | none=>rfl
 | some ρ1 =>
  dsimp only
  cases u ρ1 with
  | none=>rfl
  | some o=>cases o<;>rfl
theorem qkq (g:PyData->Rho->Option Rho) (u:Rho->Option Out) (ρ:Rho):forD g u [] ρ=some (.nx ρ):=rfl
theorem yH (ρ:Rho) (g:PyData->Rho->Option Rho) (u:Rho->Option Out) (ds:List PyData):forO (some (.nx ρ)) g u ds=forD g u ds ρ:=rfl
theorem qis (ρ:Rho) (g:PyData->Rho->Option Rho) (u:Rho->Option Out) (ds:List PyData):forO (some (.ct ρ)) g u ds=forD g u ds ρ:=rfl
theorem qir (ρ:Rho) (g:PyData->Rho->Option Rho) (u:Rho->Option Out) (ds:List PyData):forO (some (.bk ρ)) g u ds=some (.nx ρ):=rfl
theorem qbx (d:PyData) (g:PyData->Rho->Option Rho) (u:Rho->Option Out) (ds:List PyData):forO (some (.rt d)) g u ds=some (.rt d):=rfl
def nxO (o:Option Rho):Option Out:=match o with | some ρ=>some (.nx ρ) | none=>none
def asgO (o:Option PyData) (g:PyData->Rho->Option Rho) (ρ:Rho):Option Out:=match o with | some d=>nxO (g d ρ) | none=>none
theorem qlt (f:Rho->Option PyData) (g:PyData->Rho->Option Rho) (ρ:Rho):sAsg f g ρ=asgO (f ρ) g ρ:=by
 unfold sAsg ob asgO nxO
 cases f ρ with
 | none=>rfl
 | some d=>dsimp only;cases g d ρ<;>rfl
theorem qj9 (d:PyData) (g:PyData->Rho->Option Rho) (ρ:Rho):asgO (some d) g ρ=nxO (g d ρ):=rfl
theorem nxO_s (ρ:Rho):nxO (some ρ)=some (.nx ρ):=rfl
def retO (o:Option PyData):Option Out:=match o with | some d=>some (.rt d) | none=>none
theorem qlB (f:Rho->Option PyData) (ρ:Rho):sRet f ρ=retO (f ρ):=by
 unfold sRet ob retO
 cases f ρ<;>rfl
theorem qlq (d:PyData):retO (some d)=some (.rt d):=rfl
theorem gsN_n (ρ:Rho):gsN [] ρ=some ρ:=rfl
theorem gsC_c (g1:PyData->Rho->Option Rho) (g2:List PyData->Rho->Option Rho) (d:PyData) (r:List PyData) (ρ:Rho):gsC g1 g2 (d :: r) ρ=ob (g1 d ρ) (g2 r):=rfl
theorem qlU (n:Nat) (g:List PyData->Rho->Option Rho) (ds:List PyData) (ρ:Rho):unpD n g (.tuple ds) ρ=if ds.length=n then g ds ρ else none:=rfl
theorem qlE (ds:List PyData):seqD (.list ds)=some ds:=rfl
theorem qlF (ds:List PyData):seqD (.tuple ds)=some ds:=rfl
theorem ixD_l (ds:List PyData) (i:Int):ixD (.list ds) (.int i)=atI ds i:=rfl
theorem ixD_t (ds:List PyData) (i:Int):ixD (.tuple ds) (.int i)=atI ds i:=rfl
theorem qkH (ds:List PyData):lenD [.list ds]=some (.int ds.length):=rfl
theorem qkI (ds:List PyData):lenD [.tuple ds]=some (.int ds.length):=rfl
theorem qhJ (ds:List PyData):zV [.list ds]=some (.tuple ds):=rfl
theorem qhK (ds:List PyData):zV [.tuple ds]=some (.tuple ds):=rfl
theorem qiJ (ds:List PyData):ju [.list ds]=some (.list ds):=rfl
theorem qiK (ds:List PyData):ju [.tuple ds]=some (.list ds):=rfl
theorem qhY (b:Bool):jU (.bool b)=some b:=rfl
theorem qkZ (d:PyData):outD (.rt d)=some d:=rfl
theorem qkY (ρ:Rho):outD (.nx ρ)=some .none:=rfl
theorem qj5 (i j:Int):qdM (.int i) (.int j)=some (.int (i + j)):=rfl
def takO (b:Bool) (o:Option PyData) (i:Nat) (ρ:Rho):Option Out:=match b,o with | true,some d=>some (.nx (ρ.set i (some d))) | _,_=>none
theorem qjx (i:Nat) (f:Rho->Option PyData) (ρ:Rho):zP i f ρ=takO (decide (i < ρ.length)) (f ρ) i ρ:=by
 unfold zP ob takO
 by_cases h:i < ρ.length
 ·rw [if_pos h,decide_eq_true h]
  cases f ρ<;>rfl
 ·rw [if_neg h,decide_eq_false h]
theorem qlP (d:PyData) (i:Nat) (ρ:Rho):takO true (some d) i ρ=some (.nx (ρ.set i (some d))):=rfl
def flaO (o:Option PyData):Option PyData:=match o with | some d=>if flat d=true then some d else none | none=>none
theorem qin (f:Rho->Option PyData) (ρ:Rho):Qe f ρ=flaO (f ρ):=by
 unfold Qe ob flaO
 cases f ρ<;>rfl
theorem qkn (d:PyData):flaO (some d)=if flat d=true then some d else none:=rfl
def flgO (o:Option PyData):Option PyData:=match o with | some d=>if qaN d=true then some d else none | none=>none
theorem qio (f:Rho->Option PyData) (ρ:Rho):wu f ρ=flgO (f ρ):=by
 unfold wu ob flgO
 cases f ρ<;>rfl
theorem qko (d:PyData):flgO (some d)=if qaN d=true then some d else none:=rfl
def appO (l d:Option PyData) (i:Nat) (ρ:Rho):Option Out:=match l,d with | some x,some y=>setO (appD x y) i ρ | _,_=>none
theorem qls (i:Nat) (f:Rho->Option PyData) (ρ:Rho):sApp i f ρ=appO (vr i ρ) (f ρ) i ρ:=by
 unfold sApp ob appO setO
 cases vr i ρ with
 | none=>rfl
 | some x =>
  cases f ρ with
  | none=>rfl
  | some y=>dsimp only;cases appD x y<;>rfl
theorem qj7 (x y:PyData) (i:Nat) (ρ:Rho):appO (some x) (some y) i ρ=setO (appD x y) i ρ:=rfl
theorem qdb (ds:List PyData) (d:PyData):appD (.list ds) d=if ds.length < 1000 then some (.list (ds ++ [d])) else none:=rfl
def clrO (l:Option PyData) (i:Nat) (ρ:Rho):Option Out:=match l with | some (.list _)=>some (.nx (ρ.set i (some (.list [])))) | _=>none
theorem qlv (i:Nat) (ρ:Rho):sClr i ρ=clrO (vr i ρ) i ρ:=by
 unfold sClr ob clrO
 cases vr i ρ with
 | none=>rfl
 | some x=>cases x<;>rfl
theorem qkf (ds:List PyData) (i:Nat) (ρ:Rho):clrO (some (.list ds)) i ρ=some (.nx (ρ.set i (some (.list [])))):=rfl
theorem qk0 (d:PyData):outF (.rt d)=some d:=rfl
theorem isD_n (x:PyData):isD x .none=some (.bool (isNone x)):=by cases x<;>rfl
theorem qkB (x:PyData):isnD x .none=some (.bool (!isNone x)):=by cases x<;>rfl
theorem isD_b (b c:Bool):isD (.bool b) (.bool c)=some (.bool (b == c)):=rfl
theorem qkA (b c:Bool):isnD (.bool b) (.bool c)=some (.bool (!(b == c))):=rfl
def sliO (a:Option PyData) (l h:Option (Option Int)):Option PyData:=match a,l,h with | some x,some l,some h=>sliD x l h | _,_,_=>none
theorem evS_b (fa:Rho->Option PyData) (fl fh:Rho->Option (Option Int)) (ρ:Rho):evS fa fl fh ρ=sliO (fa ρ) (fl ρ) (fh ρ):=by
 unfold evS ob sliO
 cases fa ρ<;>cases fl ρ<;>cases fh ρ<;>rfl
theorem qlL (x:PyData) (l h:Option Int):sliO (some x) (some l) (some h)=sliD x l h:=rfl
def prtO (a:Option PyData):Option (Option Int):=match a with | some (.int i)=>some (some i) | _=>none
theorem oS_b (f:Rho->Option PyData) (ρ:Rho):oS f ρ=prtO (f ρ):=by
 unfold oS ob prtO
 cases f ρ with
 | none=>rfl
 | some d=>cases d<;>rfl
theorem qlh (i:Int):prtO (some (.int i))=some (some i):=rfl
theorem qlM (i j:Int):subD (.int i) (.int j)=some (.int (i - j)):=rfl
theorem qkO (i:Int):negD (.int i)=some (.int (-i)):=rfl
theorem qkL (i j:Int):ltD2 (.int i) (.int j)=some (.bool (decide (i < j))):=by
 show (if _ then ob (ltX (.int i) (.int j)) _ else none)=_
 rw [if_pos ⟨rfl,rfl,Nat.zero_le 60⟩,ltX]
 rfl
theorem leD_i (i j:Int):leD (.int i) (.int j)=some (.bool (decide (i <= j))):=rfl
theorem gtD_i (i j:Int):gtD (.int i) (.int j)=some (.bool (decide (j < i))):=rfl
theorem geD_i (i j:Int):geD (.int i) (.int j)=some (.bool (decide (j <= i))):=rfl
theorem qkz (T:String) (ds:List PyData):isiT T (.tuple ds)=(T == "tuple" || T == "object"):=rfl
theorem qkw (T:String) (ds:List PyData):isiT T (.list ds)=(T == "list" || T == "object"):=rfl
theorem qkv (T:String) (i:Int):isiT T (.int i)=(T == "int" || T == "object"):=rfl
theorem qku (T:String) (b:Bool):isiT T (.bool b)=(T == "bool" || T == "int" || T == "object"):=rfl
theorem qky (T:String) (x:Str):isiT T (.str x)=(T == "str" || T == "object"):=rfl
theorem qkx (T:String):isiT T .none=(T == "NoneType" || T == "object"):=rfl
theorem qjr (j:Int):qag [.int j]=if -1000 <= j/\j <= 1000 then some (rngL 0 j.toNat) else none:=rfl
theorem qjs (i j:Int):rng2D [.int i,.int j]=if (-1000 <= i/\i <= 1000)/\(-1000 <= j/\j <= 1000) then some (rngL i (j - i).toNat) else none:=rfl
def S3 (a b c:Int):PyData:=.tuple [.int a,.int b,.int c]
end L2
namespace L2
open PySem PySem.Spec PyProof.Rows
section
variable {X:Cx} {G:Gm} {M M' Mb L:List Nat} {fr:Fr} {a b c:Expr} {es:List Expr} {f fk g:Rho->Option PyData} {pos:Pos} {u:Rho->Option Out}
theorem DenL.set {K:PySem.W.Frag} {H:Hp} {S:Av}:∀ {vs:List V} {ds:List PyData} {v:V} {d:PyData} (j:Nat),DenL K H S vs ds->Den K H S v d->DenL K H S (vs.set j v) (ds.set j d)
 | _,_,_,_,_,.nil,_=>.nil
 | _,_,_,_,0,.cons _ t,q=>.cons q t
 | _,_,_,_,j + 1,.cons h t,q=>.cons h (t.set j q)
theorem DenL.dropLast {K:PySem.W.Frag} {H:Hp} {S:Av}:∀ {vs:List V} {ds:List PyData},DenL K H S vs ds->DenL K H S vs.dropLast ds.dropLast
 | _,_,.nil=>.nil
 | _,_,.cons h .nil=>.nil
 | _,_,.cons h (.cons h2 t)=>.cons h (DenL.dropLast (.cons h2 t))
theorem DenL.erase {K:PySem.W.Frag} {H:Hp} {S:Av}:∀ {vs:List V} {ds:List PyData} (j:Nat),DenL K H S vs ds->DenL K H S (vs.eraseIdx j) (ds.eraseIdx j)
 | _,_,_,.nil=>.nil
 | _,_,0,.cons _ t=>t
 | _,_,j + 1,.cons h t=>.cons h (t.erase j)
def setD:PyData->PyData->PyData->Option PyData
 | .list ds,.int k,d=>ob (ixN ds.length k) fun j=>some (.list (ds.set j d))
 | _,_,_=>none
def sPut (i:Nat) (fk f:Rho->Option PyData):Rho->Option Out:=fun ρ=>ob (f ρ) fun d=>ob (vr i ρ) fun l=>ob (fk ρ) fun k=>ob (setD l k d) fun l'=>some (.nx (ρ.set i (some l')))
theorem qfo {l k d l':PyData} (e:setD l k d=some l'):∃ ds n j,l=.list ds/\k=.int n/\ixN ds.length n=some j/\l'=.list (ds.set j d):=by
 unfold setD at e
 split at e
 ·obtain ⟨j,e1,e⟩:=qj e
  cases e
  exact ⟨_,_,j,rfl,rfl,e1,rfl⟩
 ·cases e
theorem Yg (i:Nat) {x:Str} {px sp:Pos} (hv:Vis X.env.scope x) (hM:Flt M i) (hL:i∉L) (hk:PD X [] b fk) (he:PD X [] a f) (hN:X.N[i]?=some x:=by rfl) (hd:(x == ("__debug__" : Str))=false:=by decide +kernel) (hcd:(x == ("__classdict__" : Str))=false:=by decide +kernel)
  (ha:∀ v,assign (.Subscript (.Name x px) b sp) X.env v=(do
   let ov ← holding [v] (eval (.Name x px) X.env)
   let iv ← holding [v,ov] (eval b X.env)
   standAt sp
   holding [v,ov,iv] (setItem ov iv v)
   release [v,ov,iv] []):=by intro _;rfl)
  (hs:swapsWithSole [.Subscript (.Name x px) b sp] a pos.line X.env=pure false:=by rfl) (hw:swappedStores [.Subscript (.Name x px) b sp] a X.env=pure none:=by rfl)
  (h1:(assignEach [.Subscript (.Name x px) b sp] X.env).map (·.2)=[assign (.Subscript (.Name x px) b sp) X.env]:=by rfl) :
  PDS X G M L M Mb fr (.Assign [.Subscript (.Name x px) b sp] a pos) (sPut i fk (Qe f)) :=
 (qhm he (qhh (qaa i hv hN hd hcd) hk set_list ha) hs hw h1).weak fun D σ H ⟨S,ρ,o,os,e,q⟩=>by
  obtain ⟨d,e1,e⟩:=qj e
  obtain ⟨l,e2,e⟩:=qj e
  obtain ⟨k,e3,e⟩:=qj e
  obtain ⟨l',e4,e⟩:=qj e
  cases e
  obtain ⟨ds,n,j,rfl,rfl,ej,rfl⟩:=qfo e4
  obtain ⟨d',e5,e6⟩:=qj e1
  have hf:flat d'=true/\d'=d:=by
   split at e6
   ·rename_i hf;cases e6;exact ⟨hf,rfl⟩
   ·cases e6
  obtain ⟨hf,rfl⟩:=hf
  refine ⟨G.S0,ρ,d',os.den,e5,fun v H1 g1 d1'=>?_⟩
  have d1:Den X.K H1 S v d':=d1'.flat hf
  have os1:=os.same g1
  obtain ⟨pp,a1,b1,c1,n1,w1,_⟩:=os1.own i hM _ (Zv e2)
  cases b1 with
  | @lst xs _ h t =>
   refine ⟨_,a1,G.S0,ρ,_,os1.den,e3,fun kv H2 g2 dk=>?_⟩
   have os2:=os1.same g2
   refine ⟨pp,xs,n,j,rfl,dk.int_inv,g2 _ _ h,by rw [t.length];exact ej,?_⟩
   exact q _ _ _ (os2.write hM hL (Zv e2) a1 rfl (.lst qR (((t.same g2).set j (d1.same g2)).off os2.ds.1 (Off.upd c1))))
def popD:PyData->Option (PyData×PyData)
 | .list ds=>ob (ds[ds.length - 1]?) fun d=>some (d,.list ds.dropLast)
 | _=>none
def sPop (i j:Nat):Rho->Option Out:=fun ρ=>ob (vr i ρ) fun l=>ob (popD l) fun r=>some (.nx ((ρ.set i (some r.2)).set j (some r.1)))
def YM:PyData->PyData->Option (PyData×PyData)
 | .list ds,.int k=>ob (if -1000 <= k/\k <= 1000 then seqIndex? k ds.length else none) fun n=>ob (ds[n]?) fun d=>some (d,.list (ds.eraseIdx n))
 | _,_=>none
def qhv (i j:Nat) (fk:Rho->Option PyData):Rho->Option Out:=fun ρ=>ob (vr i ρ) fun l=>ob (fk ρ) fun k=>ob (YM l k) fun r=>some (.nx ((ρ.set i (some r.2)).set j (some r.1)))
def sAug (i:Nat) (f:Rho->Option PyData) (h:Int->Int->Int):Rho->Option Out:=fun ρ=>ob (vr i ρ) fun x=>ob (f ρ) fun y=>ob (iiD (fun a b=>some (.int (h a b))) x y) fun z=>some (.nx (ρ.set i (some z)))
end
end L2
namespace L2
open PySem
def putO (d l k:Option PyData) (i:Nat) (ρ:Rho):Option Out:=match d,l,k with | some d,some l,some k=>setO (setD l k d) i ρ | _,_,_=>none
theorem qlA (i:Nat) (fk f:Rho->Option PyData) (ρ:Rho):sPut i fk f ρ=putO (f ρ) (vr i ρ) (fk ρ) i ρ:=by
 unfold sPut ob putO setO
 cases f ρ with
 | none=>rfl
 | some d =>
  cases vr i ρ with
  | none=>rfl
  | some l =>
   cases fk ρ with
   | none=>rfl
   | some k=>dsimp only;cases setD l k d<;>rfl
theorem qll (d l k:PyData) (i:Nat) (ρ:Rho):putO (some d) (some l) (some k) i ρ=setO (setD l k d) i ρ:=rfl
theorem qlG (ds:List PyData) (k:Int) (d:PyData):setD (.list ds) (.int k) d=ob (ixN ds.length k) fun j=>some (.list (ds.set j d)):=rfl
def popO (r:Option (PyData×PyData)) (i j:Nat) (ρ:Rho):Option Out:=match r with | some r=>some (.nx ((ρ.set i (some r.2)).set j (some r.1))) | none=>none
theorem qlz (i j:Nat) (ρ:Rho):sPop i j ρ=popO (ob (vr i ρ) popD) i j ρ:=by
 unfold sPop ob popO
 cases vr i ρ with
 | none=>rfl
 | some l=>dsimp only;cases popD l<;>rfl
def popA (l k:Option PyData):Option (PyData×PyData):=match l,k with | some l,some k=>YM l k | _,_=>none
theorem qhw (i j:Nat) (fk:Rho->Option PyData) (ρ:Rho):qhv i j fk ρ=popO (popA (vr i ρ) (fk ρ)) i j ρ:=by
 unfold qhv ob popO popA
 cases vr i ρ with
 | none=>rfl
 | some l =>
  cases fk ρ with
  | none=>rfl
  | some k=>dsimp only;cases YM l k<;>rfl
theorem qlf (r:PyData×PyData) (i j:Nat) (ρ:Rho):popO (some r) i j ρ=some (.nx ((ρ.set i (some r.2)).set j (some r.1))):=rfl
theorem qle (l k:PyData):popA (some l) (some k)=YM l k:=rfl
def augO (x y:Option PyData) (h:Int->Int->Int) (i:Nat) (ρ:Rho):Option Out:=match x,y with | some x,some y=>setO (iiD (fun a b=>some (.int (h a b))) x y) i ρ | _,_=>none
theorem qlu (i:Nat) (f:Rho->Option PyData) (h:Int->Int->Int) (ρ:Rho):sAug i f h ρ=augO (vr i ρ) (f ρ) h i ρ:=by
 unfold sAug ob augO setO
 cases vr i ρ with
 | none=>rfl
 | some x =>
  cases f ρ with
  | none=>rfl
  | some y=>dsimp only;cases iiD (fun a b=>some (PyData.int (h a b))) x y<;>rfl
theorem qka (a b:Int) (h:Int->Int->Int) (i:Nat) (ρ:Rho):augO (some (.int a)) (some (.int b)) h i ρ=some (.nx (ρ.set i (some (.int (h a b))))):=rfl
end L2
namespace L2
open PySem PySem.Spec PyProof.Rows
section
variable {X:Cx}
def absD:List PyData->Option PyData
 | [.int i]=>some (.int (if i < 0 then -i else i))
 | _=>none
theorem qfM:CallD X (.builtin "abs") absD:=fun pins s σ H xs us Q I r ⟨S,ds,d,m,h1,e,q⟩=>qfW pins s σ H xs us Q I r (by
 unfold absD at e
 split at e
 ·cases e
  obtain ⟨v,rfl,hv⟩:=h1.inv1
  exact ⟨_,by rw [hv.int_inv],q _ H (Same.refl H) (.int _)⟩
 ·cases e)
theorem Yt:bootBuiltins "abs" = some (.builtin "abs"):=by decide +kernel
theorem qj3 (i:Int):absD [.int i]=some (.int (if i < 0 then -i else i)):=rfl
end
end L2
namespace L2
open PySem PySem.Spec PyProof.Rows
def evCh (fa fb fc:Rho->Option PyData) (g g':PyData->PyData->Option PyData):Rho->Option PyData:=fun ρ=>ob (fa ρ) fun x=>ob (fb ρ) fun y=>ob (g x y) fun z=>ob (jU z) fun k=>if k=true then ob (fc ρ) fun w=>g' y w else some (.bool false)
section
variable {X:Cx} {M:List Nat} {a b c:Expr} {fa fb fc:Rho->Option PyData} {pos:Pos} {op op':CmpOp} {g g':PyData->PyData->Option PyData}
end
def chO (y:Option PyData) (k:Option PyData) (fc:Rho->Option PyData) (g':PyData->PyData->Option PyData) (ρ:Rho):Option PyData:=match y,k with
 | some y,some (.bool true)=>ob (fc ρ) (g' y)
 | some _,some (.bool false)=>some (.bool false)
 | _,_=>none
theorem qkk (fa fb fc:Rho->Option PyData) (g g':PyData->PyData->Option PyData) (ρ:Rho):evCh fa fb fc g g' ρ=chO (fb ρ) (binO (fa ρ) (fb ρ) g) fc g' ρ:=by
 unfold evCh ob chO binO jU
 cases fa ρ with
 | none=>cases fb ρ<;>rfl
 | some x =>
  cases fb ρ with
  | none=>rfl
  | some y =>
   dsimp only
   cases g x y with
   | none=>rfl
   | some z =>
    cases z with
    | bool k=>cases k<;>rfl
    | _=>rfl
theorem chO_t (y:PyData) (fc:Rho->Option PyData) (g':PyData->PyData->Option PyData) (ρ:Rho):chO (some y) (some (.bool true)) fc g' ρ=ob (fc ρ) (g' y):=rfl
theorem chO_f (y:PyData) (fc:Rho->Option PyData) (g':PyData->PyData->Option PyData) (ρ:Rho):chO (some y) (some (.bool false)) fc g' ρ=some (.bool false):=rfl
end L2
namespace L2
open PySem PySem.Spec PyProof.Rows
section
variable {X:Cx} {M:List Nat} {a b c d:Expr} {fa fb fc fd:Rho->Option PyData} {ta tb tc td:TE} {pos:Pos} {op1 op2 op3:CmpOp} {g1 g2 g3:PyData->PyData->Option PyData}
end
end L2
namespace L2
open PySem PySem.Spec PyProof.Rows
def Jk (l x:PyData):Option PyData:=match l with
 | .list ds=>if inOk ds x=true/\ds.length <= 1000 then ob (ds.findIdx? fun y=>PyData.eqv y x) fun j=>some (.int (j:Nat)) else none
 | _=>none
section
variable {X:Cx} {G:Gm} {M M' Mb L:List Nat} {fr:Fr} {a b c:Expr} {es:List Expr} {f fk g:Rho->Option PyData} {pos:Pos} {u:Rho->Option Out}
def qjp (K:PySem.W.Frag):V->List V->Hp->VK->Prop:=fun x vs H Q=>∃ S dx y dy d,vs=[y]/\Den K H S x dx/\Den K H S y dy/\Jk dx dy=some d/\Dm S H/\∀ v H',Same H H'->Den K H' S v d->Q v H'
theorem qgP {k:Nat} (hr:Room k X.A):MtR X "list.index" (qjp X.K):=by
 intro pins s σ H x vs v us Q I rx rv h
 obtain ⟨S,dx,y,dy,d,rfl,h1,h2,e,m,q⟩:=h
 obtain ⟨u,rfl,ru⟩:=rv.one
 unfold Jk at e
 split at e
 ·rename_i ds
  split at e
  ·rename_i hc
   obtain ⟨⟨c1,c2,c3⟩,hz⟩:=And.intro (ZG hc.1) hc.2
   obtain ⟨j,ej,e⟩:=qj e
   cases e
   obtain ⟨bs,q2⟩:=h2.reads I c2 ru
   obtain ⟨as,q1⟩:=h1.reads I (by rw [PyData.canLay0];exact c1) rx
   obtain ⟨a,xs,rfl,hsq,ht⟩:=h1.list_inv
   cases (show v=Value.ref a from rx)
   cases q1 with
   | @list _ o items n _ _ g1 g2 g3 g4 =>
    obtain ⟨cls,dd,data,sl⟩:=o
    simp only at g2 g3
    subst g2 g3
    have hm:=SeqAt.readsAll_map _ _ _ c1 g4
    obtain ⟨hj,hp,hno⟩:=List.findIdx?_eq_some_iff_getElem.mp ej
    have hlen:items.size=ds.length:=by
     have:=congrArg List.length hm
     simpa using this
    have hat:∀ i (h:i < items.size),SeqAt.readOf s.heap items[i]=ds[i]'(by omega):=fun i h=>by
     have:=congrArg (fun l=>l[i]?) hm
     simp only [List.getElem?_map] at this
     rw [List.getElem?_eq_getElem (by simpa using h),List.getElem?_eq_getElem (by omega)] at this
     simpa using this
    refine call_meets PySem.F.slot_list_index ⟨_,g1,rfl⟩ PySem.F.entry_list_index (PySem.F.args_list_index_2 _ _) (SeqAt.list_indexAt a items n dd sl u (fun y=>PyData.eqv (SeqAt.readOf s.heap y) dy) j (by omega) (by omega) ?_ ?_) ⟨g1,SeqAt.items_eqAt g4 q2 c1 c2 (yS c3 hr.units),?_⟩
    ·rw [hat j (by omega)];exact hp
    ·intro i hi hij
     rw [hat i hi]
     simpa using hno i hij
    ·exact ⟨.int j,H,I.tok _,⟨_,rfl⟩,q _ H (Same.refl H) (.int _)⟩
  ·cases e
 ·cases e
theorem qgY {k:Nat} {o:Expr} {apos cpos:Pos} (hr:Room k X.A) (ho:PD X M o f) (he:PD X M a g)
  (hbase:attributeBase o "index" X.env (eval o X.env)=eval o X.env:=by rfl)
  (hfew:((backTo cpos (starEach [a] X.env)).all (fun x=>!x.1) && (backToKw cpos (keywordEach [] X.env)).all (fun x=>x.1.isSome)
   && decide ([a].length + ([]:List Keyword).length + (if ([]:List Keyword).isEmpty then 0 else 1) < 30))=true:=by rfl)
  (hline:(apos.endLine == cpos.line)=true:=by rfl) (hs:starEach [a] X.env=(false,eval a X.env) :: starEach [] X.env:=by rfl) (hplain:(backTo cpos (starEach [] X.env)).any (·.1)=false:=by rfl) :
  PD X M (.Call (.Attribute o "index" apos) [a] [] cpos) (ev2 f g Jk) :=
 (qha PySem.F.plainAttrs_list PySem.F.slot_list_index PySem.F.type_list_index (qgP hr) ho (qd he qm hs) hbase hfew hline hs hplain).weak fun σ H Q ⟨S,ρ,d,hs,e,q⟩=>by
  obtain ⟨dx,e1,e⟩:=qj e
  obtain ⟨dy,e2,e⟩:=qj e
  refine ⟨S,ρ,dx,hs,e1,fun v H1 g1 d1=>?_⟩
  have:∃ ds,dx=.list ds:=by
   unfold Jk at e
   split at e
   ·exact ⟨_,rfl⟩
   ·cases e
  obtain ⟨ds,rfl⟩:=this
  obtain ⟨p,xs,rfl,hsq,ht⟩:=d1.list_inv
  refine ⟨.inl ⟨rfl,_,hsq.sq⟩,S,ρ,[dy],hs.same g1,by show ob (g ρ) _=_;rw [e2];rfl,fun vs H2 g2 dl=>?_⟩
  obtain ⟨w,rfl,dw⟩:=dl.inv1
  exact ⟨S,_,w,dy,d,rfl,d1.same g2,dw,e,hs.1.same (g1.trans g2),fun v3 H3 g3 d3=>q v3 H3 (g1.trans (g2.trans g3)) d3⟩
def qM (x y:PyData):Option PyData:=match x,y with
 | .int i,.int j=>some (.int (i + j))
 | .list ds,.list es=>if ds.length + es.length <= 1000 then some (.list (ds ++ es)) else none
 | x,y=>qdM x y
def rCatL (K:PySem.W.Frag):R2:=fun x y H Q=>∃ l b xs zs,x=.ref l/\y=.ref b/\SqL K H l xs/\SqL K H b zs/\xs.length + zs.length <= sizeLine/\∀ p,H p=none->Q (.ref p) (upd H p (.lst (xs ++ zs)))
theorem qeq:OpR X (binaryOp .Add) (rCatL X.K):=by
 intro pins s σ H x y v u Q I rx ry h
 obtain ⟨l,b,xs,zs,rfl,rfl,hH,hB,hz,q⟩:=h
 cases rx
 cases ry
 obtain ⟨its,r,⟨⟨cls,dd,data,sl⟩,n,g1,g2,_,g3⟩,_⟩:=I.list hH
 obtain ⟨its2,r2,⟨⟨cls2,dd2,data2,sl2⟩,n2,k1,k2,_,k3⟩,_⟩:=I.list hB
 simp only at g2 g3 k2 k3
 subst g2 g3 k2 k3
 have ea:its.toArray ++ its2.toArray=(its ++ its2).toArray:=by simp
 have l1:=r.length
 have l2:=r2.length
 refine concat_meets ⟨_,g1,rfl⟩ ⟨_,k1,rfl⟩ noFill_list_add seq_list_add PySem.F.slot_list_add PySem.F.entry_list_add (PySem.F.args_list_add_2 _ _) (list_addW l b its.toArray its2.toArray n n2 dd dd2 sl sl2 (by rw [List.size_toArray,List.size_toArray];omega)) ⟨g1,k1,?_⟩
 rw [ea]
 exact ⟨.ref _,_,I.lnew (t':=s.toks) (r.append r2) (by rw [List.length_append];omega),rfl,q _ I.fresh⟩
theorem qkh:OpD X (binaryOp .Add) (fun x y=>match x,y with | .list ds,.list es=>if ds.length + es.length <= 1000 then some (.list (ds ++ es)) else none | _,_=>none):=by
 refine ym qeq fun x y dx dy d H S Q m h1 h2 e q=>?_
 split at e
 ·split at e
  ·rename_i ds es hc
   cases e
   cases h1 with
   | list a1 t1 =>
    cases h2 with
    | list a2 t2 =>
     exact ⟨_,_,_,_,rfl,rfl,a1.sq,a2.sq,by rw [t1.length,t2.length];exact Nat.le_of_lt (zq hc),fun p hp=>q _ _ (Same.lay hp) (.list (SqLS.new qR (m.free hp)) ((t1.append t2).same (Same.lay hp)))⟩
  ·cases e
 ·cases e
theorem zj:OpD X (binaryOp .Add) qM:=by
 intro pins s σ H x y v u Q I rx ry h
 obtain ⟨S,dx,dy,d,m,h1,h2,e,q⟩:=h
 unfold qM at e
 split at e
 ·exact qf6 pins s σ H x y v u Q I rx ry ⟨S,_,_,d,m,h1,h2,e,q⟩
 ·exact qkh pins s σ H x y v u Q I rx ry ⟨S,_,_,d,m,h1,h2,e,q⟩
 ·exact qf6 pins s σ H x y v u Q I rx ry ⟨S,_,_,d,m,h1,h2,e,q⟩
theorem qhS (i j:Int):qM (.int i) (.int j)=some (.int (i + j)):=rfl
def qlQ:List PyData->Option PyData
 | [.int i]=>some (.int i)
 | [.bool k]=>some (.int (if k then 1 else 0))
 | _=>none
def qj2 (i:Nat):Rho->Option Out:=fun ρ=>ob (vr i ρ) fun l=>ob (popD l) fun r=>some (.nx (ρ.set i (some r.2)))
def qeE (i:Nat) (fk:Rho->Option PyData):Rho->Option Out:=fun ρ=>ob (vr i ρ) fun l=>ob (fk ρ) fun k=>ob (YM l k) fun r=>some (.nx (ρ.set i (some r.2)))
def extD (l e:PyData):Option PyData:=match l,e with
 | .list ds,.list es=>if ds.length + es.length <= 1000 then some (.list (ds ++ es)) else none
 | _,_=>none
def sExt (i:Nat) (f:Rho->Option PyData):Rho->Option Out:=fun ρ=>ob (vr i ρ) fun l=>ob (f ρ) fun k=>ob (extD l k) fun r=>some (.nx (ρ.set i (some r)))
end
def popS (r:Option (PyData×PyData)) (i:Nat) (ρ:Rho):Option Out:=match r with | some r=>some (.nx (ρ.set i (some r.2))) | none=>none
theorem qjw (i:Nat) (ρ:Rho):qj2 i ρ=popS (ob (vr i ρ) popD) i ρ:=by
 unfold qj2 ob popS
 cases vr i ρ with
 | none=>rfl
 | some l=>dsimp only;cases popD l<;>rfl
theorem qlg (r:PyData×PyData) (i:Nat) (ρ:Rho):popS (some r) i ρ=some (.nx (ρ.set i (some r.2))):=rfl
theorem qfm (i:Nat) (fk:Rho->Option PyData) (ρ:Rho):qeE i fk ρ=popS (popA (vr i ρ) (fk ρ)) i ρ:=by
 unfold qeE ob popS popA
 cases vr i ρ with
 | none=>rfl
 | some l =>
  cases fk ρ with
  | none=>rfl
  | some k=>dsimp only;cases YM l k<;>rfl
def extO (l k:Option PyData) (i:Nat) (ρ:Rho):Option Out:=match l,k with | some l,some k=>setO (extD l k) i ρ | _,_=>none
theorem qlw (i:Nat) (f:Rho->Option PyData) (ρ:Rho):sExt i f ρ=extO (vr i ρ) (f ρ) i ρ:=by
 unfold sExt ob extO setO
 cases vr i ρ with
 | none=>rfl
 | some l =>
  cases f ρ with
  | none=>rfl
  | some k=>dsimp only;cases extD l k<;>rfl
theorem qkm (l k:PyData) (i:Nat) (ρ:Rho):extO (some l) (some k) i ρ=setO (extD l k) i ρ:=rfl
theorem qhI (k:Bool):qlQ [.bool k]=some (.int (if k then 1 else 0)):=rfl
end L2
namespace L2
open PySem PySem.Spec PyProof.Rows
section
variable {prog:Program} {w:World} {A:Around} {E:Value->Shared->Prop} {s:Shared}
theorem qcL {it t:Addr} {i:Nat} {items:Array Value} {x:Value} {Q:Value->Shared->Prop} (hit:s.heap.IsTupleIter it t i) (ht:s.heap.IsTuple t items) (hx:items[i]?=some x)
  (hQ:∀ h',h'.IsTupleIter it t (i + 1)->Heap.SameBut it s.heap h'->Q x { s with heap:=h' }):wpAny (model prog w) A (Builtin.SmallTypes.nextOf (.ref it)) Q E s:=by
 obtain ⟨o,ho,hc,hd⟩:=id hit
 obtain ⟨ol,hol,_,nl,hdl⟩:=ht
 unfold Builtin.SmallTypes.nextOf
 refine wpAny_bind (wpAny_callSpecial?_slot (name:=Str.ofString "__next__") hit.typeIs F.slot_tuple_iterator_next (wpAny_call_entry F.slot_tuple_iterator_next hit.typeIs F.entry_tuple_iterator_next ?_ (F.args_tuple_iterator_next_1 _)))
 refine (wpAny_bind (wpAny_field ho hd (x:=.ref t) rfl ?_):wpAny _ _ (field (.ref it) 0 >>= _) _ _ s)
 refine (id ?_:wpAny _ _ (if (Value.ref t == Value.none)=true then _ else _) _ _ s)
 rw [if_neg (fun z=>Bool.false_ne_true z:¬ ((Value.ref t == Value.none)=true))]
 refine (wpAny_bind (wpAny_field ho hd (x:=.int i 0) rfl ?_):wpAny _ _ (field (.ref it) 1 >>= _) _ _ s)
 refine (wpAny_bind (wpAny_seqItems hol hdl ?_):wpAny _ _ (seqItems? (.ref t) >>= _) _ _ s)
 simp only [hx,Int.toNat_natCast]
 refine wpAny_bind (wpAny_setField ho hd (by simp) (wpAny_pure ⟨x,rfl,wpAny_pure (hQ _ ⟨_,Heap.get?_update_self _ ho (Obj.isFreed_of_fields (Obj.data_mapFields hd _)),(Obj.cls_mapFields ..).trans hc,by rw [Obj.data_mapFields hd];simp [rawInt]⟩ (Heap.SameBut.update ..))⟩))
theorem qdr {it t:Addr} {i:Nat} {items:Array Value} {Q:Value->Shared->Prop} (hh:A.handled=none) (hit:s.heap.IsTupleIter it t i) (ht:s.heap.IsTuple t items) (hx:items[i]?=none)
  (hE:∀ h' e,Heap.ExtBut it s.heap h'->(∃ o,h'.get? e=some o/\o.cls=.type "StopIteration")->E (.ref e) { s with heap:=h' }):wpAny (model prog w) A (Builtin.SmallTypes.nextOf (.ref it)) Q E s:=by
 obtain ⟨o,ho,hc,hd⟩:=id hit
 obtain ⟨ol,hol,_,nl,hdl⟩:=ht
 unfold Builtin.SmallTypes.nextOf
 refine wpAny_bind (wpAny_callSpecial?_slot (name:=Str.ofString "__next__") hit.typeIs F.slot_tuple_iterator_next (wpAny_call_entry F.slot_tuple_iterator_next hit.typeIs F.entry_tuple_iterator_next ?_ (F.args_tuple_iterator_next_1 _)))
 refine (wpAny_bind (wpAny_field ho hd (x:=.ref t) rfl ?_):wpAny _ _ (field (.ref it) 0 >>= _) _ _ s)
 refine (id ?_:wpAny _ _ (if (Value.ref t == Value.none)=true then _ else _) _ _ s)
 rw [if_neg (fun z=>Bool.false_ne_true z:¬ ((Value.ref t == Value.none)=true))]
 refine (wpAny_bind (wpAny_field ho hd (x:=.int i 0) rfl ?_):wpAny _ _ (field (.ref it) 1 >>= _) _ _ s)
 refine (wpAny_bind (wpAny_seqItems hol hdl ?_):wpAny _ _ (seqItems? (.ref t) >>= _) _ _ s)
 simp only [hx,Int.toNat_natCast]
 refine wpAny_bind (wpAny_rule (wpAny_bind (wpAny_setField ho hd (by simp) (wpAny_bind (?_:wpAny _ _ (newExc (.type "StopIteration") []) _ _ _)))))
 simp only [newExc,newTuple]
 refine wpAny_bind (wpAny_newObj_type (wpAny_bind (m:=firstArgMember _ _) (wpAny_of_eq (a:=Value.none) (by first | rfl | (simp only [firstArgMember];rfl)) (wpAny_newObj_type ?_ (by size_fits)))) (by size_fits))
 simp only [raiseNew]
 refine wpAny_bind (wpAny_handled ?_)
 first | rw [show A.in1.handled=none from hh] | rw [hh]
 exact wpAny_bind (wpAny_pure (wpAny_throw (hE _ _ (((Heap.SameBut.update ..).extBut.push _).push _) ⟨_,Heap.get?_push_size _ rfl,rfl⟩)))
end
theorem qcp {prog:Program} {w:World} {A:Around} (hh:A.handled=none) (it l:Addr) (hne:l≠it) (items:Array Value) :
  Draws prog w A it [it,l] items.size (fun i v=>items[i]?=some v) (fun i h=>h.IsTupleIter it l i/\h.IsTuple l items) where
 live:=fun _ _ ⟨⟨o,ho,_⟩,_⟩=>⟨o,ho⟩
 frame:=fun _ _ _ ⟨a,b⟩ hk=>⟨a.at fun o e=>hk it (by simp) o e,let ⟨o,ho,r⟩:=b;⟨o,hk l (by simp) o ho,r⟩⟩
 item:=fun i s Q E hi ⟨a,b⟩ hQ=>qcL a b (x:=items[i]) (by simp [hi]) fun h' a' hs'=>hQ _ h' s.toks (by simp [hi]) ⟨a',b.extBut hs'.extBut hne⟩ hs'
 done:=fun s Q E ⟨a,b⟩ hE=>qdr hh a b (by simp) hE
open AutoSeq1 (wpAny_loadPart') in
theorem qeS (l:Addr) (items:Array Value) (n:Nat) (dct:Option Addr) (sl:Array (Option Value)) :
  Meets (Builtin.«enumerate.__new__» ⟨[.type "enumerate", .ref l],[]⟩) (fun _ R s=>s.heap.get? l=some { cls:=.type "tuple", dict:=dct,data:=.seq items n,slots:=sl }/\
   R (.ok (.ret (.ref (s.heap.push { cls:=.type "tuple_iterator", data:=.fields #[.ref l,.int 0 0] }).objs.size))) { s with heap:=(s.heap.push { cls:=.type "tuple_iterator", data:=.fields #[.ref l,.int 0 0] }).push { cls:=.type "enumerate", data:=.fields #[.none,.bool false,.ref s.heap.objs.size,rawInt 0,.none,.none] } }) :=
 .of_wp fun prog w A R s h=>by
  obtain ⟨hp,g,d,tk,os⟩:=s
  obtain ⟨hl,h⟩:=h
  have hsub:=sub_enumerate
  have hT:Heap.IsTuple (Shared.heap ⟨hp,g,d,tk,os⟩) l items:=⟨_,hl,rfl,n,rfl⟩
  wp_walk using wpAny_loadPart' hl
  refine wpAny_stack_any fun st=>wpAny_pure ?_
  split
  ·rename_i c _ _ _ _ _
   cases (c == Value.type "enumerate")<;>(wp_walk using wpAny_loadPart' hl,wpAny_pyIter_tuple hT;exact ⟨_,rfl,h⟩)
  ·wp_walk using wpAny_loadPart' hl,wpAny_pyIter_tuple hT
   exact ⟨_,rfl,h⟩
section
variable {X:Cx} {pins:List (Addr×Obj)} {σ:St} {H:Hp} {s:Shared}
theorem Inv.turned2 {h':Heap} {t':Nat} {e it:Addr} (I:Inv X pins σ H s) (k:∀ b o,b≠e->b≠it->s.heap.get? b=some o->h'.get? b=some o) (fe:FpOk X pins H e) (fi:FpOk X pins H it):Inv X pins σ H { s with heap:=h',toks:=t' }:=by
 have nit:∀ b u,H b=some u->b≠e/\b≠it:=fun b u q=>⟨fun z=>by (rw [z,fe.1] at q;cases q),fun z=>by (rw [z,fi.1] at q;cases q)⟩
 have out:∀ {b},b∉[e,it]->b≠e/\b≠it:=fun hc=>⟨fun z=>hc (by simp [z]),fun z=>hc (by simp [z])⟩
 refine I.step (g':=s.gens) (d':=s.drawn) (ch:=[e,it]) (fun b hb=>?_) (fun b o _ _ hc e _=>k b o (out hc).1 (out hc).2 e) (fun b o _ _ hc e _=>⟨o.slots,k b o (out hc).1 (out hc).2 e⟩) (fun _ _ _ _ n=>n)
  (fun b o hc e=>⟨o,k b o (out hc).1 (out hc).2 e⟩) (fun _ _ e=>e) (fun _ _ _ e=>e) (fun b ps e=>⟨#[],by rw [e];simp⟩) (fun m hm=>?_) (fun b u q=>?_) I.bare
 ·rcases List.mem_cons.mp hb with rfl | hb
  ·exact ⟨fe.2.2.2.1,fe.2.1,fe.2.2.2.2.1,fe.2.2.2.2.2⟩
  ·have:=List.mem_singleton.mp hb
   subst this
   exact ⟨fi.2.2.2.1,fi.2.1,fi.2.2.2.2.1,fi.2.2.2.2.2⟩
 ·obtain ⟨o,es,ep,ho,r⟩:=hm
  exact ⟨o,es,ep,k _ o (Ne.symm fe.2.1) (Ne.symm fi.2.1) ho,r⟩
 ·refine (I.hok b u q).stay (fun c v hc q'=>?_) (fun _ q=>q) fun _ _ q=>q
  have n:c≠e/\c≠it:=by
   rcases hc with z | z
   ·rw [z];exact nit b u q
   ·exact nit c _ z
  exact k c v n.1 n.2 q'
end
def SqB (K:PySem.W.Frag) (H:Hp) (b:Bool) (a:Addr) (xs:List V):Prop:=if b=true then SqT K H a xs else SqL K H a xs
def ItB (h:Heap) (b:Bool) (it a:Addr) (i:Nat):Prop:=if b=true then h.IsTupleIter it a i else h.IsListIter it a i
def Iten (K:PySem.W.Frag) (b:Bool) (a:Addr):It :=
 ⟨fun i H=>∃ xs x,SqB K H b a xs/\xs[i]?=some x,
  fun i H x H'=>∃ p y,H p=none/\x=.ref p/\H'=upd H p (.tup [.int i,y])/\∀ xs,SqB K H b a xs->xs[i]?=some y,
  fun i H=>∃ xs,SqB K H b a xs/\xs.length=i⟩
def tnE (b:Bool) (e it a:Addr) (i:Nat) (h:Heap):Prop:=(∃ old,IsEnum h e it i old)/\ItB h b it a i
section
variable {X:Cx} {pins:List (Addr×Obj)} {σ:St} {H:Hp} {s:Shared}
theorem SqB.draws {b:Bool} {a e it:Addr} {i:Nat} {xs:List V} {old:Value} (I:Inv X pins σ H s) (hh:X.A.handled=none) (hq:SqB X.K H b a xs) (he:IsEnum s.heap e it i old) (hi:ItB s.heap b it a i) :
  ∃ (its:List Value) (St':Nat->Heap->Prop),Vals xs its/\e≠it/\e∉[it,a]/\St' i s.heap/\Draws X.prog X.w X.A.in1 it [it,a] its.length (fun i v=>its[i]?=some v) St'/\(∀ j h,St' j h->ItB h b it a j):=by
 have hh1:X.A.in1.handled=none:=hh
 cases b with
 | true =>
  have hq:SqT X.K H a xs:=hq
  have hi:s.heap.IsTupleIter it a i:=hi
  obtain ⟨its,rv,p,hz⟩:=I.tuple hq
  have p:s.heap.IsTuple a its.toArray:=p
  obtain ⟨o1,e1,c1,d1⟩:=id hi
  obtain ⟨o2,e2,c2,n2,d2⟩:=id p
  have n1:e≠it:=fun z=>by rw [z] at he;rw [he] at e1;cases e1;exact absurd (show Value.type "enumerate" = Value.type "tuple_iterator" from c1) (by decide)
  have n2:a≠it:=fun z=>by rw [z] at e2;rw [e2] at e1;cases e1;rw [c1] at c2;exact absurd c2 (by decide)
  have n3:e≠a:=fun z=>by rw [z] at he;rw [he] at e2;cases e2;exact absurd (show Value.type "enumerate" = Value.type "tuple" from c2) (by decide)
  refine ⟨its,fun j h=>h.IsTupleIter it a j/\h.IsTuple a its.toArray,rv,n1,by simp [n1,n3],⟨hi,p⟩,?_,fun j h q=>q.1⟩
  have:=qcp (prog:=X.prog) (w:=X.w) hh1 it a n2 its.toArray
  simpa using this
 | false =>
  have hq:SqL X.K H a xs:=hq
  have hi:s.heap.IsListIter it a i:=hi
  obtain ⟨its,rv,p0,hz⟩:=I.list hq
  have p:=p0.isList
  obtain ⟨o1,e1,c1,d1⟩:=id hi
  obtain ⟨o2,e2,c2,n2,d2⟩:=id p
  have n1:e≠it:=fun z=>by rw [z] at he;rw [he] at e1;cases e1;exact absurd (show Value.type "enumerate" = Value.type "list_iterator" from c1) (by decide)
  have n2:a≠it:=fun z=>by rw [z] at e2;rw [e2] at e1;cases e1;rw [c1] at c2;exact absurd c2 (by decide)
  have n3:e≠a:=fun z=>by rw [z] at he;rw [he] at e2;cases e2;exact absurd (show Value.type "enumerate" = Value.type "list" from c2) (by decide)
  refine ⟨its,fun j h=>h.IsListIter it a j/\h.IsList a its.toArray,rv,n1,by simp [n1,n3],⟨hi,p⟩,?_,fun j h q=>q.1⟩
  have:=Draws.list (prog:=X.prog) (w:=X.w) hh1 it a n2 its.toArray
  simpa using this
theorem SqB.inj {b:Bool} {a:Addr} {xs ys:List V} (I:Inv X pins σ H s) (h1:SqB X.K H b a xs) (h2:SqB X.K H b a ys):xs=ys:=by
 cases b with
 | true=>exact I.tuple_inj h1 h2
 | false=>exact I.list_inj h1 h2
theorem ItB.but {h h':Heap} {b:Bool} {it a e:Addr} {i:Nat} (q:ItB h b it a i) (n:it≠e) (hs:∀ c o,c≠e->h.get? c=some o->h'.get? c=some o):ItB h' b it a i:=by
 cases b with
 | true=>obtain ⟨o,ho,r⟩:=(show h.IsTupleIter it a i from q);exact (show h'.IsTupleIter it a i from ⟨o,hs _ o n ho,r⟩)
 | false=>obtain ⟨o,ho,r⟩:=(show h.IsListIter it a i from q);exact (show h'.IsListIter it a i from ⟨o,hs _ o n ho,r⟩)
theorem ItB.obj {h:Heap} {b:Bool} {it a:Addr} {i:Nat} (q:ItB h b it a i):∃ o,h.get? it=some o/\∀ v,o.data≠.cell v:=by
 cases b with
 | true=>obtain ⟨o,ho,c,d⟩:=(show h.IsTupleIter it a i from q);exact ⟨o,ho,fun v z=>by rw [d] at z;cases z⟩
 | false=>obtain ⟨o,ho,c,d⟩:=(show h.IsListIter it a i from q);exact ⟨o,ho,fun v z=>by rw [d] at z;cases z⟩
end
theorem qfs {P:Program} {w:World} {K:PySem.W.Frag} {ts:List Expr} {kk:Nat} {tp:Pos} (b:Bool) (a e it:Addr):Turn P w K (.Tuple ts kk tp) (Iten K b a) [e,it] e (tnE b e it a) where
 mem:=by simp
 obj:=fun i h ⟨⟨old,he⟩,hi⟩ c hc=>by
  rcases List.mem_cons.mp hc with rfl | hc
  ·exact ⟨_,he,fun v z=>by cases z⟩
  ·have:=List.mem_singleton.mp hc
   subst this
   exact hi.obj
 keep:=fun i h h' ⟨⟨old,he⟩,hi⟩ k=>by
  refine ⟨⟨old,k e (by simp) _ he⟩,?_⟩
  cases b with
  | true=>obtain ⟨o,ho,r⟩:=(show h.IsTupleIter it a i from hi);exact (show h'.IsTupleIter it a i from ⟨o,k it (by simp) o ho,r⟩)
  | false=>obtain ⟨o,ho,r⟩:=(show h.IsListIter it a i from hi);exact (show h'.IsListIter it a i from ⟨o,k it (by simp) o ho,r⟩)
 item:=by
  intro X hP hw hK hc i pins s σ H E I hf st hg
  subst hP hw hK
  obtain ⟨xs,x,hq,hx⟩:=hg
  obtain ⟨⟨old,he⟩,hi⟩:=st
  obtain ⟨its,St',rv,n1,n2,st,D,back⟩:=SqB.draws I (I.ok.hd hc) hq he hi
  obtain ⟨u,hu,ru⟩:=rv.get hx
  have hlt:i < its.length:=by
   rcases Nat.lt_or_ge i its.length with z | z
   ·exact z
   ·rw [List.getElem?_eq_none z] at hu;cases hu
  refine wpAny_pyNext_enum_itemD D he st hlt n1 n2 fun x' h' tk hP heo st' ht hsz hk=>?_
  have ex:x'=u:=by rw [hu] at hP;cases hP;rfl
  subst ex
  refine ⟨_,rfl,wpAny_letOwnedTupleGo_enum heo fun h2 he2 hs2=>?_⟩
  have hs2:Heap.SameBut e h' h2:=hs2
  have k2:∀ c o,c≠e->h'.get? c=some o->h2.get? c=some o:=fun c o hc q=>(hs2.2 c hc).trans q
  have I1:Inv X pins σ H { s with heap:=h2,toks:=tk + 1 }:=I.turned2 (fun c o hc1 hc2 q=>k2 c o hc1 (hk c o hc1 hc2 q)) (hf e (by simp)) (hf it (by simp))
  have hn:H s.heap.objs.size=none:=I.hok.fresh (Nat.le_refl _)
  have fT:FpOk X pins H s.heap.objs.size:=I.fpOk (Nat.le_refl _) hn
  have neT:s.heap.objs.size≠e:=Nat.ne_of_gt (Heap.lt_size he)
  have hit:it≠s.heap.objs.size:=by
   obtain ⟨o,ho,_⟩:=hi.obj
   exact Nat.ne_of_lt (Heap.lt_size ho)
  have ok:Qx X.prog X.w (upd H s.heap.objs.size (.tup [.int i,x])) h2 s.heap.objs.size (.tup [.int i,x]) :=
   ⟨Nat.le_of_lt (zq (show 2 <= 1000 by decide)),[.int i tk,x'],.cons ⟨tk,rfl⟩ (.cons ru .nil),⟨_,k2 _ _ neT ht,rfl,_,rfl⟩⟩
  refine ⟨.ref s.heap.objs.size,upd H s.heap.objs.size (.tup [.int i,x]),I1.track hn fT.2.1 fT.2.2.2.1 fT.2.2.2.2.1 fT.2.2.2.2.2 ok,rfl,⟨_,x,hn,rfl,rfl,fun ys hy=>by rw [SqB.inj I hy hq];exact hx⟩,⟨⟨x',he2⟩,(back _ _ st').but (Ne.symm n1) k2⟩,fun c hc=>?_⟩
  rcases List.mem_cons.mp hc with rfl | hc
  ·rw [qI (Ne.symm neT)];exact (hf _ (by simp)).1
  ·have:=List.mem_singleton.mp hc
   subst this
   rw [qI hit];exact (hf _ (by simp)).1
 done:=by
  intro X hP hw hK hc i pins s σ H E I hf st hg
  subst hP hw hK
  obtain ⟨xs,hq,hx⟩:=hg
  obtain ⟨⟨old,he⟩,hi⟩:=st
  obtain ⟨its,St',rv,n1,n2,st,D,back⟩:=SqB.draws I (I.ok.hd hc) hq he hi
  have hl:=rv.length
  have hi':i=its.length:=by omega
  subst hi'
  obtain ⟨f0,f1,f2,f3,f4,f5⟩:=hf it (by simp)
  exact wpAny_pyNext_enum_endD D he st fun h' eb=>⟨rfl,I.turned (t':=s.toks) (fun c o hc e=>eb c o hc e) f0 f1 f3 f4 f5⟩
 self:=fun _ _ _ _ _ ⟨⟨old,he⟩,_⟩ h=>wpAny_pyIter_enum he h
end L2
namespace L2
open PySem PySem.Spec PyProof.Rows
theorem wF:bootBuiltins "enumerate" = some (.type "enumerate"):=by decide +kernel
section
variable {X:Cx} {pins:List (Addr×Obj)} {σ:St} {H:Hp} {s:Shared}
theorem qeR {b:Bool} {a:Addr} {xs:List V} {E:Value->Shared->Prop} {Q:Value->Shared->Prop} (I:Inv X pins σ H s) (hq:SqB X.K H b a xs)
  (h:∀ (h':Heap) (t':Nat),tnE b (s.heap.objs.size + 1) s.heap.objs.size a 0 h'->(∀ c o,s.heap.get? c=some o->h'.get? c=some o)->Q (.ref (s.heap.objs.size + 1)) { s with heap:=h',toks:=t' }) :
  wpAny (model X.prog X.w) X.A (call (.type "enumerate") [.ref a]) Q E s:=by
 cases b with
 | true =>
  have hq:SqT X.K H a xs:=hq
  obtain ⟨its,rv,⟨⟨cls,dd,data,sl⟩,g1,g2,n,g3⟩,hz⟩:=I.tuple hq
  simp only at g2 g3
  subst g2 g3
  have hz:(s.heap.push { cls:=.type "tuple_iterator", data:=.fields #[.ref a,.int 0 0] }).objs.size=s.heap.objs.size + 1:=by rw [Heap.size_push]
  refine callType_new F.called_enumerate (by decide) (F.typeCall_enumerate_1 _) (F.newCall_enumerate_1 _) (fun obj=>F.args_object_init_2 obj _) F.entry_enumerate_new (qeS a its.toArray n dd sl) ⟨g1,?_⟩
  refine (id ?_:_/\_)
  rw [hz]
  have he:IsEnum ((s.heap.push { cls:=.type "tuple_iterator", data:=.fields #[.ref a,.int 0 0] }).push { cls:=.type "enumerate", data:=.fields #[.none,.bool false,.ref s.heap.objs.size,rawInt 0,.none,.none] }) (s.heap.objs.size + 1) s.heap.objs.size 0 .none:=by
   have z:=Heap.get?_push_size (s.heap.push { cls:=.type "tuple_iterator", data:=.fields #[.ref a,.int 0 0] }) (o:={ cls:=.type "enumerate", data:=.fields #[.none,.bool false,.ref s.heap.objs.size,rawInt 0,.none,.none] }) rfl
   rw [hz] at z
   exact z
  exact ⟨⟨_,he,rfl⟩,h _ s.toks ⟨⟨_,he⟩,(show Heap.IsTupleIter _ _ _ _ from ⟨_,Heap.get?_push_of_some _ (Heap.get?_push_size _ rfl),rfl,rfl⟩)⟩ fun c o x=>Heap.get?_push_of_some _ (Heap.get?_push_of_some _ x)⟩
 | false =>
  have hq:SqL X.K H a xs:=hq
  obtain ⟨its,rv,⟨⟨cls,dd,data,sl⟩,n,g1,g2,_,g3⟩,hz⟩:=I.list hq
  simp only at g2 g3
  subst g2 g3
  have hz:(s.heap.push { cls:=.type "list_iterator", data:=.fields #[.ref a,.int 0 0] }).objs.size=s.heap.objs.size + 1:=by rw [Heap.size_push]
  refine callType_new F.called_enumerate (by decide) (F.typeCall_enumerate_1 _) (F.newCall_enumerate_1 _) (fun obj=>F.args_object_init_2 obj _) F.entry_enumerate_new (meets_enumerate_newL a its.toArray n dd sl) ⟨g1,?_⟩
  refine (id ?_:_/\_)
  rw [hz]
  have he:IsEnum ((s.heap.push { cls:=.type "list_iterator", data:=.fields #[.ref a,.int 0 0] }).push { cls:=.type "enumerate", data:=.fields #[.none,.bool false,.ref s.heap.objs.size,rawInt 0,.none,.none] }) (s.heap.objs.size + 1) s.heap.objs.size 0 .none:=by
   have z:=Heap.get?_push_size (s.heap.push { cls:=.type "list_iterator", data:=.fields #[.ref a,.int 0 0] }) (o:={ cls:=.type "enumerate", data:=.fields #[.none,.bool false,.ref s.heap.objs.size,rawInt 0,.none,.none] }) rfl
   rw [hz] at z
   exact z
  exact ⟨⟨_,he,rfl⟩,h _ s.toks ⟨⟨_,he⟩,(show Heap.IsListIter _ _ _ _ from ⟨_,Heap.get?_push_of_some _ (Heap.get?_push_size _ rfl),rfl,rfl⟩)⟩ fun c o x=>Heap.get?_push_of_some _ (Heap.get?_push_of_some _ x)⟩
end
def iEnum (K:PySem.W.Frag) (ta:TA):TI:=fun σ H R=>ta σ H fun vs H1=>∃ a b xs,vs=[.ref a]/\SqB K H1 b a xs/\R (Iten K b a) H1
section
variable {X:Cx} {M:List Nat} {a:Expr} {es:List Expr} {f:Rho->Option PyData} {pos:Pos}
theorem qje {ts:List Expr} {kk:Nat} {tp:Pos} {ta:TA} {p:Pos} (hg:Gl X "enumerate") (hm:X.mg "enumerate" = none) (ha:PA X [a] ta) (hs:starEach [a] X.env=[(false,eval a X.env)]:=by rfl):PI X (.Tuple ts kk tp) (.Call (.Name "enumerate" p) [a] [] pos) (iEnum X.K ta):=by
 intro pins s σ H R I h
 refine Call_ (WP I hg hm wF (PyProof.Rows.callWith_type1 (thn (ha pos pins s σ H _ I h) fun us s1 ⟨vs,H1,I1,r1,q1⟩=>?_) hs rfl) (by decide +kernel) (by decide +kernel))
 obtain ⟨p',b,xs,e,hq,q⟩:=q1
 subst e
 obtain ⟨u,rfl,ru⟩:=r1.one
 cases ru
 refine qeR I1 hq fun h' t' tn k=>wpAny_pyIter_enum tn.1.choose_spec ?_
 have I2:Inv X pins σ H1 { s1 with heap:=h',toks:=t' }:=I1.kept (t':=t') k
 refine ⟨_,[s1.heap.objs.size + 1,s1.heap.objs.size],tnE b (s1.heap.objs.size + 1) s1.heap.objs.size p',Iten X.K b p',H1,rfl,I2,qfs b p' _ _,tn,fun c hc=>?_,q⟩
 rcases List.mem_cons.mp hc with rfl | hc
 ·exact I1.fpOk (Nat.le_succ _) (I1.hok.fresh (Nat.le_succ _))
 ·have:=List.mem_singleton.mp hc
  subst this
  exact I1.fpOk (Nat.le_refl _) (I1.hok.fresh (Nat.le_refl _))
def enL:Nat->List PyData->List PyData
 | _,[]=>[]
 | n,d :: ds=>.tuple [.int (n:Nat),d] :: enL (n + 1) ds
theorem ye:∀ (n:Nat) (ds:List PyData),(enL n ds).length=ds.length
 | _,[]=>rfl
 | n,_ :: ds=>by rw [enL,List.length_cons,List.length_cons,ye]
theorem qd3:∀ (n i:Nat) (ds:List PyData) (d:PyData),(enL n ds)[i]?=some d->∃ e,ds[i]?=some e/\d=.tuple [.int ((n + i:Nat)),e]
 | _,_,[],_,h=>by simp [enL] at h
 | n,0,e :: ds,d,h=>by simp [enL] at h;subst h;exact ⟨e,rfl,rfl⟩
 | n,i + 1,e :: ds,d,h=>by
  obtain ⟨e',h1,h2⟩:=qd3 (n + 1) i ds d (by simpa [enL] using h)
  refine ⟨e',by simpa using h1,?_⟩
  rw [h2]
  congr 3
  congr 1
  omega
theorem SqB.same {K:PySem.W.Frag} {H H':Hp} {b:Bool} {l:Addr} {xs:List V} (e:Same H H') (h:SqB K H b l xs):SqB K H' b l xs:=by
 cases b with
 | true=>exact e.sqT h
 | false=>exact e.seq h
theorem IsIt.enum {K:PySem.W.Frag} {H:Hp} {S:Av} {b:Bool} {l:Addr} {xs:List V} {ds:List PyData} (h:SqB K H b l xs) (t:DenL K H S xs ds):IsIt K S (Iten K b l) H (enL 0 ds) where
 go:=fun i H' e hi=>by
  rw [ye] at hi
  have hi':i < xs.length:=by rw [t.length];exact hi
  exact ⟨xs,xs[i],h.same e,List.getElem?_eq_getElem hi'⟩
 yld:=fun i H' x H2 e ⟨p,y,hp,ex,e2,q⟩=>by
  subst ex e2
  refine ⟨Same.lay hp,fun d hd S' w=>?_⟩
  obtain ⟨de,h1,rfl⟩:=qd3 0 i ds d hd
  obtain ⟨v,h2,h3⟩:=t.get h1
  have:=q xs (h.same e)
  rw [h2] at this
  cases this
  rw [Nat.zero_add]
  exact .tuple (SqT.of qR) (.cons (.int _) (.cons (w _ _ h3) .nil))
 stop:=fun H' e=>⟨xs,h.same e,by rw [ye,t.length]⟩
def qcq:PyData->Option (List PyData)
 | .list ds=>some (enL 0 ds)
 | .tuple ds=>some (enL 0 ds)
 | _=>none
theorem qg2 {ts:List Expr} {kk:Nat} {tp p:Pos} (hg:Gl X "enumerate") (hm:X.mg "enumerate" = none) (ha:PD X M a f) (hs:starEach [a] X.env=[(false,eval a X.env)]:=by rfl):PDI X M (.Tuple ts kk tp) (.Call (.Name "enumerate" p) [a] [] pos) (evI f qcq) :=
 (qje hg hm (qd ha qm hs) hs).weak fun σ H R ⟨S,ρ,ds,hs,e,w⟩=>by
  obtain ⟨x,e1,e⟩:=qj e
  refine ⟨S,ρ,[x],hs,by show ob (f ρ) _=_;rw [e1];rfl,fun vs H1 g1 dl=>?_⟩
  obtain ⟨v,rfl,dv⟩:=dl.inv1
  cases dv with
  | list h t=>cases e;exact ⟨_,false,_,rfl,h.sq,w _ _ g1 fun H2 o=>IsIt.enum (b:=false) (h.off o).sq (t.off (hs.1.same g1) o)⟩
  | tuple h t=>cases e;exact ⟨_,true,_,rfl,h,w _ _ g1 fun H2 o=>IsIt.enum (b:=true) (h.off (hs.1.same g1) o) (t.off (hs.1.same g1) o)⟩
  | _=>cases e
theorem qig (ds:List PyData):qcq (.list ds)=some (enL 0 ds):=rfl
theorem qih (ds:List PyData):qcq (.tuple ds)=some (enL 0 ds):=rfl
theorem enL_n (n:Nat):enL n []=[]:=rfl
theorem enL_c (n:Nat) (d:PyData) (ds:List PyData):enL n (d :: ds)=.tuple [.int (n:Nat),d] :: enL (n + 1) ds:=rfl
def qdU (o:Option Rho) (k:Nat) (g:PyData->Rho->Option Rho) (tt:Rho->Option Bool) (te:Rho->Option PyData) (ρ:Rho) (ds:List PyData):Option (List PyData):=match o with
 | some ρ1=>(match tt ρ1 with | some true=>J5 (te ρ1) (Q5 k g tt te ρ ds) | some false=>Q5 k g tt te ρ ds | none=>none)
 | none=>none
theorem qh9 (k:Nat) (g:PyData->Rho->Option Rho) (tt:Rho->Option Bool) (te:Rho->Option PyData) (ρ:Rho) (d:PyData) (ds:List PyData):Q5 k g tt te ρ (d :: ds)=qdU (g d (ρ ++ List.replicate k none)) k g tt te ρ ds:=by
 rw [Q5]
 unfold ob qdU J5
 cases g d (ρ ++ List.replicate k none) with
 | none=>rfl
 | some ρ1 =>
  dsimp only
  cases tt ρ1 with
  | none=>rfl
  | some b =>
   cases b with
   | false=>rfl
   | true=>cases te ρ1<;>cases Q5 k g tt te ρ ds<;>rfl
theorem qia (k:Nat) (g:PyData->Rho->Option Rho) (tt:Rho->Option Bool) (te:Rho->Option PyData) (ρ:Rho):Q5 k g tt te ρ []=some []:=rfl
def qdT (b:Option Bool) (y:Option PyData) (r:Option (List PyData)):Option (List PyData):=match b with | some true=>J5 y r | some false=>r | none=>none
theorem qh5 (ρ1:Rho) (k:Nat) (g:PyData->Rho->Option Rho) (tt:Rho->Option Bool) (te:Rho->Option PyData) (ρ:Rho) (ds:List PyData):qdU (some ρ1) k g tt te ρ ds=qdT (tt ρ1) (te ρ1) (Q5 k g tt te ρ ds):=by
 unfold qdU qdT
 rfl
theorem qh4 (y:Option PyData) (r:Option (List PyData)):qdT (some true) y r=J5 y r:=rfl
theorem qh3 (y:Option PyData) (r:Option (List PyData)):qdT (some false) y r=r:=rfl
def qf2 (a:Option (List PyData)) (n k:Nat) (g:PyData->Rho->Option Rho) (tt:Rho->Option Bool) (te:Rho->Option PyData) (ρ:Rho):Option PyData:=match a with | some ds=>if ρ.length=n/\ds.length <= 1000 then WQ (Q5 k g tt te ρ ds) else none | none=>none
theorem qh7 (n k:Nat) (fi:Rho->Option (List PyData)) (g:PyData->Rho->Option Rho) (tt:Rho->Option Bool) (te:Rho->Option PyData) (ρ:Rho):J4 n k fi g tt te ρ=qf2 (fi ρ) n k g tt te ρ:=by
 unfold J4 ob qf2 WQ
 cases fi ρ with
 | none=>rfl
 | some ds =>
  dsimp only
  split
  ·cases Q5 k g tt te ρ ds<;>rfl
  ·rfl
theorem qh1 (ds:List PyData) (n k:Nat) (g:PyData->Rho->Option Rho) (tt:Rho->Option Bool) (te:Rho->Option PyData) (ρ:Rho):qf2 (some ds) n k g tt te ρ=if ρ.length=n/\ds.length <= 1000 then WQ (Q5 k g tt te ρ ds) else none:=rfl
end
end L2
namespace L2
open PySem PySem.Spec PyProof.Rows
def k1Of:PyData->Option (Int ⊕ List Int)
 | .int i=>some (.inl i)
 | .tuple ds=>ob (intsOf ds) fun js=>some (.inr js)
 | _=>none
def qgk:List PyData->Option K2
 | []=>some []
 | d :: ds=>ob (k1Of d) fun k=>ob (qgk ds) fun ks=>some (k :: ks)
def k2Of:PyData->Option K2
 | .tuple ds=>qgk ds
 | _=>none
theorem qeY {d:PyData} {k:Int ⊕ List Int} (e:k1Of d=some k):d=k2D k:=by
 unfold k1Of at e
 split at e
 ·cases e;rfl
 ·obtain ⟨js,e1,e⟩:=qj e
  cases e
  rw [wy e1];rfl
 ·cases e
theorem WD:∀ {ds:List PyData} {ks:K2},qgk ds=some ks->ds=ks.map k2D
 | [],_,e=>by cases e;rfl
 | d :: ds,_,e=>by
  obtain ⟨k,e1,e⟩:=qj e
  obtain ⟨ks,e2,e⟩:=qj e
  cases e
  rw [qeY e1,WD e2];rfl
theorem qeZ {d:PyData} {ks:K2} (e:k2Of d=some ks):d=k2T ks:=by
 unfold k2Of at e
 split at e
 ·rw [WD e];rfl
 ·cases e
def kxOf:PyData->Option KX
 | .int i=>some (.inl i)
 | d=>ob (k2Of d) fun ks=>some (.inr ks)
theorem YH {d:PyData} {k:KX} (e:kxOf d=some k):d=kxD k:=by
 unfold kxOf at e
 split at e
 ·cases e;rfl
 ·obtain ⟨ks,e1,e⟩:=qj e
  cases e
  exact qeZ e1
def kOk (kvs:List (PyData×PyData)) (k:KX):Bool:=kvs.all fun p=>qgi p.1 == kxI k
theorem qcB:∀ js:List Int,PyData.canLayAll0 (js.map .int)=true
 | []=>rfl
 | j :: js=>by rw [List.map_cons,PyData.canLayAll0,PyData.canLay0,qcB js];rfl
theorem qdh:∀ ks:K2,PyData.canLayAll0 (ks.map k2D)=true
 | []=>rfl
 | .inl i :: ks=>by rw [List.map_cons,PyData.canLayAll0,qdh ks];rfl
 | .inr js :: ks=>by
  rw [List.map_cons,PyData.canLayAll0,qdh ks]
  show (PyData.canLay0 (.tuple (js.map .int)) && true)=true
  rw [PyData.canLay0,qcB];rfl
theorem qeb (ks:K2):(k2T ks).canLay0=true:=by unfold k2T;rw [PyData.canLay0];exact qdh ks
theorem qiz (c:Str) (d:PyData) (ks:KX):kOk [(.str c,d),(.int 0,.none)] ks=false:=by
 cases ks with
 | inl i=>rfl
 | inr k=>rfl
theorem qbv {α β:Type} {a:Option β} {g:β->KX} {F:β->Option α} {c:Str} {d:PyData} {r:α} (e:(ob a fun ks=>if kOk [(.str c,d),(.int 0,.none)] (g ks)=true then F ks else none)=some r):False:=by
 obtain ⟨ks,_,e⟩:=qj e
 rw [qiz] at e
 cases e
def zZ (kvs:List (PyData×PyData)) (ks:KX):Option PyData:=(kvs.find? fun p=>PyData.eqv p.1 (kxD ks)).map (·.2)
def putD (kvs:List (PyData×PyData)) (ks:KX) (v:PyData):List (PyData×PyData) :=
 if (zZ kvs ks).isSome=true then kvs.map (fun p=>if PyData.eqv p.1 (kxD ks)=true then (p.1,v) else p) else kvs ++ [(kxD ks,v)]
def putV (kvs:List (KX×Addr×V)) (ks:KX) (b:Addr) (v:V):List (KX×Addr×V) :=
 if (kvs.any fun p=>decide (p.1=ks))=true then kvs.map (fun p=>if p.1=ks then (p.1,p.2.1,v) else p) else kvs ++ [(ks,b,v)]
section
variable {K:PySem.W.Frag} {H:Hp} {S:Av}
theorem jl (p:KX×Addr×V) (kvs:List (KX×Addr×V)) (d:PyData) (ds:List PyData):dkv (p :: kvs) (d :: ds)=(kxD p.1,d) :: dkv kvs ds:=rfl
theorem Yy {k:KX} {d:PyData} {kvs:List (PyData×PyData)} {ks:KX} (e:k=ks):zZ ((kxD k,d) :: kvs) ks=some d:=by
 unfold zZ
 rw [List.find?_cons,qbs,decide_eq_true e];rfl
theorem Yx {k:KX} {d:PyData} {kvs:List (PyData×PyData)} {ks:KX} (e:k≠ks):zZ ((kxD k,d) :: kvs) ks=zZ kvs ks:=by
 unfold zZ
 rw [List.find?_cons,qbs,decide_eq_false e]
theorem yo {α β:Type} {R:α->β->Prop} {a:α} {b:β}:∀ {as:List α} {bs:List β},Paired R as bs->R a b->Paired R (as ++ [a]) (bs ++ [b])
 | _,_,.nil,h=>.cons h .nil
 | _,_,.cons h t,q=>.cons h (yo t q)
theorem qeA {ks:KX} {v:V} {d:PyData} (dv:Den K H S v d):∀ {kvs:List (KX×Addr×V)} {ds:List PyData},DenL K H S (kvs.map (·.2.2)) ds->∃ ds',DenL K H S ((kvs.map fun p=>if p.1=ks then (p.1,p.2.1,v) else p).map (·.2.2)) ds'/\dkv (kvs.map fun p=>if p.1=ks then (p.1,p.2.1,v) else p) ds'=(dkv kvs ds).map (fun p=>if PyData.eqv p.1 (kxD ks)=true then (p.1,d) else p)
 | [],_,t=>by cases t;exact ⟨[],.nil,rfl⟩
 | p :: kvs,_,t=>by
  cases t with
  | @cons _ d0 _ ds dv0 t' =>
   obtain ⟨ds',h1,h2⟩:=qeA dv t'
   rw [List.map_cons,List.map_cons,jl,List.map_cons,qbs]
   by_cases e:p.1=ks
   ·refine ⟨d :: ds',?_,?_⟩
    ·rw [if_pos e];exact .cons dv h1
    ·rw [if_pos e,jl,h2,if_pos (decide_eq_true e)]
   ·refine ⟨d0 :: ds',?_,?_⟩
    ·rw [if_neg e];exact .cons dv0 h1
    ·rw [if_neg e,jl,h2,if_neg (fun z=>e (of_decide_eq_true z))]
theorem qf8 {kvs:List (KX×Addr×V)} {ds:List PyData} (hl:kvs.length=ds.length) (p:KX×Addr×V) (d:PyData):dkv (kvs ++ [p]) (ds ++ [d])=dkv kvs ds ++ [(kxD p.1,d)]:=by
 unfold dkv
 rw [List.map_append,List.zip_append (by rw [List.length_map,hl])]
 rfl
theorem qhr {ks:KX} {b:Addr} {v:V} {d:PyData} {kvs:List (KX×Addr×V)} {ds:List PyData} (t:DenL K H S (kvs.map (·.2.2)) ds) (dv:Den K H S v d) (he:(kvs.any fun p=>decide (p.1=ks))=(zZ (dkv kvs ds) ks).isSome) :
  ∃ ds',DenL K H S ((putV kvs ks b v).map (·.2.2)) ds'/\dkv (putV kvs ks b v) ds'=putD (dkv kvs ds) ks d:=by
 have hl:kvs.length=ds.length:=by
  have:=t.length
  rwa [List.length_map] at this
 unfold putV putD
 rw [he]
 split
 ·exact qeA dv t
 ·refine ⟨ds ++ [d],?_,qf8 hl _ _⟩
  rw [List.map_append]
  exact t.append (.cons dv .nil)
theorem qho {ks:KX} {b:Addr} {v:V} {kvs:List (KX×Addr×V)} (k:DenL K H S (kvs.map fun p=>kxV p.1 p.2.1) (kvs.map fun p=>kxD p.1)) (dk:Den K H S (kxV ks b) (kxD ks)):DenL K H S ((putV kvs ks b v).map fun p=>kxV p.1 p.2.1) ((putV kvs ks b v).map fun p=>kxD p.1):=by
 unfold putV
 split
 ·have e1:(kvs.map fun p=>if p.1=ks then (p.1,p.2.1,v) else p).map (fun p=>kxV p.1 p.2.1)=kvs.map fun p=>kxV p.1 p.2.1:=by
   rw [List.map_map]
   refine List.map_congr_left fun p _=>?_
   show kxV (if p.1=ks then (p.1,p.2.1,v) else p).1 (if p.1=ks then (p.1,p.2.1,v) else p).2.1=_
   split<;>rfl
  have e2:(kvs.map fun p=>if p.1=ks then (p.1,p.2.1,v) else p).map (fun p=>kxD p.1)=kvs.map fun p=>kxD p.1:=by
   rw [List.map_map]
   refine List.map_congr_left fun p _=>?_
   show kxD (if p.1=ks then (p.1,p.2.1,v) else p).1=_
   split<;>rfl
  rw [e1,e2];exact k
 ·rw [List.map_append,List.map_append]
  exact k.append (.cons dk .nil)
end
section
variable {K:PySem.W.Frag} {H:Hp} {S:Av}
theorem qby {kvs:List (KX×Addr×V)} {ds:List PyData} {k:KX} (hl:kvs.length=ds.length) (h:kOk (dkv kvs ds) k=true):∀ p∈kvs,kxI p.1=kxI k:=by
 intro p hp
 have hm:kxD p.1∈(dkv kvs ds).map (·.1):=by rw [qcn hl];exact List.mem_map.mpr ⟨p,hp,rfl⟩
 obtain ⟨q,hq,e⟩:=List.mem_map.mp hm
 have:=List.all_eq_true.mp h q hq
 rw [e,qdf] at this
 simpa using this
theorem JD (ks:K2):∀ {kvs:List (KX×Addr×V)} {xs:List (K2×Addr×Value)} {ds:List PyData},Paired PkT kvs xs->DenL K H S (kvs.map (·.2.2)) ds->
  (zZ (dkv kvs ds) (.inr ks)=none/\atKey xs ks=none/\(kvs.any fun p=>decide (p.1=.inr ks))=false)\/∃ d b y u,zZ (dkv kvs ds) (.inr ks)=some d/\atKey xs ks=some (b,u)/\RelV y u/\Den K H S y d/\(kvs.any fun p=>decide (p.1=.inr ks))=true
 | [],_,_,r,t=>by
  cases r
  cases t
  exact .inl ⟨rfl,rfl,rfl⟩
 | p :: kvs,_,_,r,t=>by
  cases r with
  | @cons _ q _ qs h r' =>
   cases t with
   | @cons _ d _ ds dv t' =>
    rw [jl]
    by_cases e:p.1=.inr ks
    ·refine .inr ⟨d,q.2.1,p.2.2,q.2.2,Yy e,?_,h.2.2,dv,by rw [List.any_cons,decide_eq_true e,Bool.true_or]⟩
     unfold atKey
     have eq:q.1=ks:=Sum.inr.inj (h.1.symm.trans e)
     rw [List.find?_cons,decide_eq_true eq];rfl
    ·have e':¬ q.1=ks:=fun z=>e (by rw [h.1,z])
     have ea:atKey (q :: qs) ks=atKey qs ks:=by
      unfold atKey
      rw [List.find?_cons,decide_eq_false e']
     rw [Yx e,ea,List.any_cons,decide_eq_false e,Bool.false_or]
     exact JD ks r' t'
theorem Yz (i:Int):∀ {kvs:List (KX×Addr×V)} {vs:List (Int×Value)} {ds:List PyData},Paired PkI kvs vs->DenL K H S (kvs.map (·.2.2)) ds->
  (zZ (dkv kvs ds) (.inl i)=none/\valueAt vs i=none/\(kvs.any fun p=>decide (p.1=.inl i))=false)\/∃ d y u,zZ (dkv kvs ds) (.inl i)=some d/\valueAt vs i=some u/\RelV y u/\Den K H S y d/\(kvs.any fun p=>decide (p.1=.inl i))=true
 | [],_,_,r,t=>by
  cases r
  cases t
  exact .inl ⟨rfl,rfl,rfl⟩
 | p :: kvs,_,_,r,t=>by
  cases r with
  | @cons _ q _ qs h r' =>
   cases t with
   | @cons _ d _ ds dv t' =>
    rw [jl]
    by_cases e:p.1=.inl i
    ·refine .inr ⟨d,p.2.2,q.2,Yy e,?_,h.2,dv,by rw [List.any_cons,decide_eq_true e,Bool.true_or]⟩
     unfold valueAt
     have eq:q.1=i:=Sum.inl.inj (h.1.symm.trans e)
     rw [List.find?_cons,decide_eq_true eq];rfl
    ·have e':¬ q.1=i:=fun z=>e (by rw [h.1,z])
     have ea:valueAt (q :: qs) i=valueAt qs i:=by
      unfold valueAt
      rw [List.find?_cons,decide_eq_false e']
     rw [Yx e,ea,List.any_cons,decide_eq_false e,Bool.false_or]
     exact Yz i r' t'
theorem qaf {ks:K2} {v:V} {u:Value} (rv:RelV v u):∀ {kvs:List (KX×Addr×V)} {xs:List (K2×Addr×Value)},Paired PkT kvs xs->Paired PkT (kvs.map fun p=>if p.1=.inr ks then (p.1,p.2.1,v) else p) (xs.map (putAt ks u))
 | [],_,r=>by cases r;exact .nil
 | p :: kvs,_,r=>by
  cases r with
  | @cons _ q _ qs h r' =>
   rw [List.map_cons,List.map_cons]
   refine .cons ?_ (qaf rv r')
   unfold putAt
   by_cases e:p.1=.inr ks
   ·have eq:q.1=ks:=Sum.inr.inj (h.1.symm.trans e)
    rw [if_pos e,if_pos eq];exact ⟨h.1,h.2.1,rv⟩
   ·rw [if_neg e,if_neg (fun z=>e (by rw [h.1,z]))];exact h
theorem qhq {ks:K2} {b:Addr} {v:V} {u:Value} {kvs:List (KX×Addr×V)} {xs:List (K2×Addr×Value)} (r:Paired PkT kvs xs) (rv:RelV v u) (he:(kvs.any fun p=>decide (p.1=.inr ks))=(atKey xs ks).isSome):Paired PkT (putV kvs (.inr ks) b v) (storedH xs ks b u):=by
 unfold putV storedH
 rw [he]
 split
 ·exact qaf rv r
 ·exact yo r ⟨rfl,rfl,rv⟩
theorem qae {i:Int} {v:V} {u:Value} (rv:RelV v u):∀ {kvs:List (KX×Addr×V)} {xs:List (Int×Value)},Paired PkI kvs xs->Paired PkI (kvs.map fun p=>if p.1=.inl i then (p.1,p.2.1,v) else p) (xs.map fun q=>if q.1=i then (q.1,u) else q)
 | [],_,r=>by cases r;exact .nil
 | p :: kvs,_,r=>by
  cases r with
  | @cons _ q _ qs h r' =>
   rw [List.map_cons,List.map_cons]
   refine .cons ?_ (qae rv r')
   by_cases e:p.1=.inl i
   ·have eq:q.1=i:=Sum.inl.inj (h.1.symm.trans e)
    rw [if_pos e,if_pos eq];exact ⟨h.1,rv⟩
   ·rw [if_neg e,if_neg (fun z=>e (by rw [h.1,z]))];exact h
theorem qdN (i:Int):∀ {kvs:List (KX×Addr×V)} {xs:List (Int×Value)},Paired PkI kvs xs->(kvs.any fun p=>decide (p.1=.inl i))=xs.any fun q=>decide (q.1=i)
 | _,_,.nil=>rfl
 | _,_,@Paired.cons _ _ _ p q _ _ h t=>by
  rw [List.any_cons,List.any_cons,qdN i t]
  by_cases e:p.1=.inl i
  ·rw [decide_eq_true e,decide_eq_true (Sum.inl.inj (h.1.symm.trans e):q.1=i)]
  ·rw [decide_eq_false e,decide_eq_false (fun z=>e (by rw [h.1,z]):¬ q.1=i)]
theorem qhp {i:Int} {b:Addr} {v:V} {u:Value} {kvs:List (KX×Addr×V)} {xs:List (Int×Value)} (r:Paired PkI kvs xs) (rv:RelV v u):Paired PkI (putV kvs (.inl i) b v) (stored xs i u):=by
 unfold putV stored
 rw [qdN i r]
 split
 ·exact qae rv r
 ·exact yo r ⟨rfl,rv⟩
end
section
variable {X:Cx} {pins:List (Addr×Obj)} {σ:St} {H:Hp} {s:Shared} {S:Av}
theorem qed (I:Inv X pins σ H s):∀ {kvs:List (KX×Addr×V)} {xs:List (K2×Addr×Value)},Paired PkT kvs xs->DenL X.K H S (kvs.map fun p=>kxV p.1 p.2.1) (kvs.map fun p=>kxD p.1)->∀ x∈xs,Is2 s.heap x.1 x.2.1
 | _,_,.nil,_,x,hx=>by cases hx
 | _,_,@Paired.cons _ _ _ p q kvs qs h t,k,x,hx=>by
  cases k with
  | cons dk k' =>
   have dk:Den X.K H S (kxV p.1 p.2.1) (kxD p.1):=dk
   rcases List.mem_cons.mp hx with rfl | hx
   ·rw [h.1] at dk
    obtain ⟨as,r⟩:=Den.reads I dk (qeb _) (u:=Value.ref x.2.1) (by rw [h.2.1];rfl)
    exact ⟨as,r⟩
   ·exact qed I t k' x hx
theorem qbo (I:Inv X pins σ H s) {a:Addr} {kvs:List (KX×Addr×V)} {ep:Nat} (h:H a=some (DctO a kvs ep)) (k:DenL X.K H S (kvs.map fun p=>kxV p.1 p.2.1) (kvs.map fun p=>kxD p.1)) (hk:∀ p∈kvs,kxI p.1=false) :
  kvs.length <= sizeLine/\(a == sysModules)=false/\∃ xs:List (K2×Addr×Value),Paired PkT kvs xs/\s.heap.DictOfH (qee X.prog X.w) a xs:=by
 have d:=zX.of (I.hok a _ h)
 obtain ⟨xs,pk,o,es,h1,h2,h3,h4,h5⟩:=d.tup hk
 exact ⟨d.1,d.2.1,xs,pk,o,es,ep,h1,h2,h3,h4,qed I pk k,h5⟩
theorem qcN {P:Program} {w:World}:∀ {es:List DictEntry} {vs:List (Int×Value)},Paired EnI es vs->Pairs (intKind P w) es vs
 | _,_,.nil=>.nil
 | _,_,.cons h t=>by
  obtain ⟨_,⟨tk,h2⟩,h3⟩:=h
  exact .cons (by rw [h2];exact intKind_is P w _ tk) h3 (qcN t)
theorem qe5 {P:Program} {w:World} {es:Array DictEntry} {vs:List (Int×Value)} (h:Paired EnI es.toList vs):PySem.KeysOf (intKind P w) es:=by
 intro e he
 have he:e∈es.toList:=Array.mem_toList_iff.mpr he
 generalize es.toList=l at h he
 induction h with
 | nil=>cases he
 | @cons a b as bs h t ih =>
  rcases List.mem_cons.mp he with rfl | he
  ·obtain ⟨h1,⟨tk,h2⟩,_⟩:=h
   exact ⟨b.1,by rw [h2];exact intKind_is P w _ tk,h1⟩
  ·exact ih he
theorem W5 {P:Program} {w:World}:∀ {es:List DictEntry} {vs:List (Int×Value)},Pairs (intKind P w) es vs->(∀ e∈es,∃ k,(intKind P w).is k e.key=true/\e.hash=(intKind P w).hash k)->Paired EnI es vs
 | _,_,.nil,_=>.nil
 | _,_,.cons h1 h2 t,hk=>by
  refine .cons ?_ (W5 t fun e he=>hk e (.tail _ he))
  obtain ⟨k,g1,g2⟩:=hk _ (.head _)
  obtain ⟨tk,e⟩:=Value.isInt_shape h1
  have hkk:=(intKind P w).inj _ _ _ g1 h1
  exact ⟨by rw [g2,hkk];rfl,⟨tk,e⟩,h2⟩
theorem qbn (I:Inv X pins σ H s) {a:Addr} {kvs:List (KX×Addr×V)} {ep:Nat} (h:H a=some (DctO a kvs ep)) (hk:∀ p∈kvs,kxI p.1=true) :
  kvs.length <= sizeLine/\(a == sysModules)=false/\∃ vs:List (Int×Value),Paired PkI kvs vs/\s.heap.DictOf (intKind X.prog X.w) a vs:=by
 have d:=zX.of (I.hok a _ h)
 obtain ⟨vs,pk,o,es,h1,h2,h3,h4,h5⟩:=d.int hk
 exact ⟨d.1,d.2.1,vs,pk,o,es,ep,h1,h2,h3,qe5 h4,qcN h4,h5⟩
theorem key_is (I:Inv X pins σ H s) {y:V} {u:Value} {ks:K2} (d:Den X.K H S y (k2T ks)) (r:RelV y u):∃ b,y=.ref b/\u=.ref b/\Is2 s.heap ks b:=by
 obtain ⟨a,xs,e,_,_⟩:=d.tuple_inv
 subst e
 cases (show u=Value.ref a from r)
 obtain ⟨as,q⟩:=d.reads I (qeb ks) (u:=.ref a) rfl
 exact ⟨a,rfl,rfl,as,q⟩
theorem qbG {y:V} {u:Value} {i:Int} (d:Den X.K H S y (.int i)) (r:RelV y u):y=.int i/\∃ t,u=.int i t:=by
 cases d
 exact ⟨rfl,r⟩
end
def dgetD (d k:PyData):Option PyData:=match d with
 | .dict kvs=>ob (kxOf k) fun ks=>if kOk kvs ks=true then zZ kvs ks else none
 | _=>none
def ix2D (d k:PyData):Option PyData:=match d with
 | .dict kvs=>dgetD (.dict kvs) k
 | d=>ixD d k
def Wu (d k x:PyData):Option PyData:=match d with
 | .dict kvs=>ob (kxOf k) fun ks=>if kOk kvs ks=true then some ((zZ kvs ks).getD x) else none
 | _=>none
def Wv (d k v:PyData):Option PyData:=match d with
 | .dict kvs=>ob (kxOf k) fun ks=>if kOk kvs ks=true/\kvs.length < 1000 then some (.dict (putD kvs ks v)) else none
 | _=>none
section
variable {X:Cx} {pins:List (Addr×Obj)} {σ:St} {H:Hp} {s:Shared} {S:Av} {A:Around} {E:Value->Shared->Prop} {a:Addr} {kvs:List (KX×Addr×V)} {ep:Nat} {ds:List PyData} {ks:KX} {y x v:V} {u r:Value} {d dx:PyData}
theorem qhu {A:Around} (hu:A.units + 64 < cLine):A.in1.units + 3 < cLine:=by show A.units + 1 + 3 < cLine;omega
theorem Wt (I:Inv X pins σ H s) (h:H a=some (DctO a kvs ep)):s.TypeIs (.ref a) "dict"/\∃ o,s.heap.get? a=some o/\o.dict=none:=by
 obtain ⟨o,es,h1,h2,_⟩:=(zX.of (I.hok a _ h)).vals
 exact ⟨⟨o,h1,h2.1⟩,o,h1,h2.2.1⟩
theorem qie {Q:Value->Shared->Prop} (hu:A.units + 64 < cLine) (I:Inv X pins σ H s) (h:H a=some (DctO a kvs ep)) (k:DenL X.K H S (kvs.map fun p=>kxV p.1 p.2.1) (kvs.map fun p=>kxD p.1)) (t:DenL X.K H S (kvs.map (·.2.2)) ds) (hk:∀ p∈kvs,kxI p.1=kxI ks)
  (dy:Den X.K H S y (kxD ks)) (ry:RelV y u) (e:zZ (dkv kvs ds) ks=some d) (q:∀ v w' s',Inv X pins σ H s'->RelV v w'->Den X.K H S v d->Q w' s'):wpAny (model X.prog X.w) A (getItem (.ref a) u) Q E s:=by
 cases ks with
 | inr ks =>
  obtain ⟨z,hs,xs,pk,dd⟩:=qbo I h k hk
  obtain ⟨b,rfl,rfl,hk⟩:=key_is I dy ry
  rcases JD ks pk t with ⟨e1,_,_⟩ | ⟨d',b',v,w',e1,e2,rv,dv,_⟩
  ·rw [e] at e1;cases e1
  ·rw [e] at e1
   cases e1
   exact wpAny_getItem_heap (knd:=qee X.prog X.w) (qhu hu) hk dd e2 (q v w' _ (I.tok _) rv dv)
 | inl i =>
  obtain ⟨z,hs,vs,pk,dd⟩:=qbn I h hk
  obtain ⟨rfl,t',rfl⟩:=qbG dy ry
  rcases Yz i pk t with ⟨e1,_,_⟩ | ⟨d',v,w',e1,e2,rv,dv,_⟩
  ·rw [e] at e1;cases e1
  ·rw [e] at e1
   cases e1
   exact wpAny_getItem_of (intKind_is _ _ i t') dd.mapOf e2 (q v w' _ (I.tok _) rv dv)
theorem qid {Q:Value->Shared->Prop} (hu:A.units + 64 < cLine) (I:Inv X pins σ H s) (h:H a=some (DctO a kvs ep)) (k:DenL X.K H S (kvs.map fun p=>kxV p.1 p.2.1) (kvs.map fun p=>kxD p.1)) (t:DenL X.K H S (kvs.map (·.2.2)) ds) (hk:∀ p∈kvs,kxI p.1=kxI ks)
  (dy:Den X.K H S y (kxD ks)) (ry:RelV y u) (dxv:Den X.K H S x dx) (rx:RelV x r) (q:∀ v w' s',Inv X pins σ H s'->RelV v w'->Den X.K H S v ((zZ (dkv kvs ds) ks).getD dx)->Q w' s'):wpAny (model X.prog X.w) A (call (.builtin "dict.get") [.ref a,u,r]) Q E s:=by
 cases ks with
 | inr ks =>
  obtain ⟨z,hs,xs,pk,dd⟩:=qbo I h k hk
  obtain ⟨b,rfl,rfl,hk⟩:=key_is I dy ry
  refine call_meetsIn PySem.F.slot_dict_get dd.typeIs PySem.F.entry_dict_get (PySem.F.args_dict_get_3 _ _ _) (meetsH_dict_get_default (qee X.prog X.w) a b hs r) ⟨qhu hu,ks,xs,hk,dd,?_⟩
  rcases JD ks pk t with ⟨e1,e2,_⟩ | ⟨d',b',v,w',e1,e2,rv,dv,_⟩
  ·rw [e1] at q;rw [e2];exact q _ _ _ (I.tok _) rx dxv
  ·rw [e1] at q;rw [e2];exact q _ _ _ (I.tok _) rv dv
 | inl i =>
  obtain ⟨z,hs,vs,pk,dd⟩:=qbn I h hk
  obtain ⟨rfl,t',rfl⟩:=qbG dy ry
  refine call_meetsIn PySem.F.slot_dict_get dd.typeIs PySem.F.entry_dict_get (PySem.F.args_dict_get_3 _ _ _) (meets_dict_get_default (intKind X.prog X.w) a (intKind_is _ _ i t') hs r) ⟨_,dd.mapOf,?_⟩
  rcases Yz i pk t with ⟨e1,e2,_⟩ | ⟨d',v,w',e1,e2,rv,dv,_⟩
  ·rw [e1] at q;rw [e2];exact q _ _ _ (I.tok _) rx dxv
  ·rw [e1] at q;rw [e2];exact q _ _ _ (I.tok _) rv dv
def qlp (K:PySem.W.Frag):TSet:=fun o i v H Q=>∃ S p kvs ep ks ds d,o=.ref p/\H p=some (DctO p kvs ep)/\DenL K H S (kvs.map fun p=>kxV p.1 p.2.1) (kvs.map fun p=>kxD p.1)/\DenL K H S (kvs.map (·.2.2)) ds/\(∀ p∈kvs,kxI p.1=kxI ks)/\Den K H S i (kxD ks)/\Den K H S v d/\kvs.length < 1000/\∀ b ep',i=kxV ks b->Q (upd H p (DctO p (putV kvs ks b v) ep'))
theorem qcV (kvs:List (KX×Addr×V)) (ks:KX) (b:Addr) (v:V):(putV kvs ks b v).length <= kvs.length + 1:=by
 unfold putV
 split
 ·rw [List.length_map];omega
 ·rw [List.length_append,List.length_singleton];omega
theorem set_dict (hu:X.A.units + 64 < cLine):PSet X (qlp X.K):=by
 intro pins s σ H o i v ov iv u Q I ro ri rv h
 obtain ⟨S,p,kvs,ep,ks,ds,d,rfl,hp,k,t,hk,di,dv,hz,q⟩:=h
 cases ro
 have z1000:1000 < sizeLine:=zq (Nat.le_refl _)
 cases ks with
 | inr ks =>
  obtain ⟨z,hs,xs,pk,dd⟩:=qbo I hp k hk
  obtain ⟨b,rfl,rfl,hk⟩:=key_is I di ri
  have hxl:xs.length <= sizeLine:=by rw [← Paired.length pk];exact z
  have he:(kvs.any fun p=>decide (p.1=.inr ks))=(atKey xs ks).isSome:=by
   rcases JD ks pk t with ⟨_,e2,e3⟩ | ⟨_,_,_,_,_,e2,_,_,e3⟩
   ·rw [e2,e3];rfl
   ·rw [e2,e3];rfl
  refine wpAny_setItem_heap (knd:=qee X.prog X.w) (hsz:=hxl) (qhu hu) hk dd fun h' dd' hs'=>?_
  obtain ⟨o,es,ep',g1,g2,g3,g4,_,g5⟩:=dd'
  have dct:zX p (putV kvs (.inr ks) b v) ep' h':=⟨by have:=qcV kvs (.inr ks) b v;omega,hs,.inl ⟨_,qhq pk rv he,o,es,g1,g2,g3,g4,g5⟩⟩
  exact ⟨_,I.write (x:=p) (e:=p) (by rw [hp];exact True.intro) (.inl rfl) (fun c o' hc e=>(hs'.2 c hc).trans e) ⟨o,g1⟩ dct.ok,q b ep' rfl⟩
 | inl i =>
  obtain ⟨z,hs,vs,pk,dd⟩:=qbn I hp hk
  obtain ⟨rfl,t',rfl⟩:=qbG di ri
  have hxl:vs.length <= sizeLine:=by rw [← Paired.length pk];exact z
  refine wpAny_setItem_pairs (hsz:=hxl) (intKind_is _ _ i t') dd fun h' dd' hs'=>?_
  obtain ⟨o,es,ep',g1,g2,g3,g4,g4',g5⟩:=dd'
  have dct:zX p (putV kvs (.inl i) 0 v) ep' h':=⟨by have:=qcV kvs (.inl i) 0 v;omega,hs,.inr ⟨_,qhp pk rv,o,es,g1,g2,g3,W5 g4' fun e he=>g4 e (Array.mem_toList_iff.mp he),g5⟩⟩
  exact ⟨_,I.write (x:=p) (e:=p) (by rw [hp];exact True.intro) (.inl rfl) (fun c o' hc e=>(hs'.2 c hc).trans e) ⟨o,g1⟩ dct.ok,q 0 ep' rfl⟩
end
end L2
namespace L2
open PySem PySem.Spec PyProof.Rows
section
variable {prog:Program} {w:World} {A:Around} {E:Value->Shared->Prop} {s:Shared}
theorem qiv {d:Addr} {od:Obj} {es:Array DictEntry} {ep:Nat} {Q:Value->Shared->Prop} (hd:(d == sysModules)=false) (ho:s.heap.get? d=some od) (hx:od.ExactDict) (hdat:od.data=.dict es ep)
  (hQ:Q (.ref s.heap.objs.size) { s with heap:=s.heap.push { cls:=.type "dict_keyiterator", data:=.fields #[.ref d,.int 0 0,.int es.size 0,.int ep 0] } }):wpAny (model prog w) A (pyIter (.ref d)) Q E s:=by
 have hT:s.TypeIs (.ref d) "dict" := ⟨od,ho,hx.1⟩
 refine wpAny_pyIter_slot hT F.slot_dict_iter (wpAny_call_entry F.slot_dict_iter hT F.entry_dict_iter (id ?_) (F.args_dict_iter_1 _))
 unfold Builtin.«dict.__iter__»
 refine wpAny_bind (id ?_)
 unfold Builtin.Dict.dictSlotNone
 refine wpAny_bind (wpAny_notOrdered_dict hT (id ?_:wpAny _ _ (pure (Value.ref d)) _ _ s))
 refine wpAny_pure (id ?_:wpAny _ _ (Builtin.Dict.showsAll d >>= _) _ _ s)
 unfold Builtin.Dict.showsAll
 rw [if_neg (fun z=>by rw [hd] at z;cases z)]
 refine wpAny_bind (wpAny_pure (wpAny_bind (wpAny_dictEntries ho hdat (wpAny_bind (wpAny_dictEpoch ho hdat ?_)))))
 refine wpAny_bind (wpAny_newObj_type (wpAny_pure ⟨_,rfl, "dict_keyiterator", _,⟨_,Heap.get?_push_size _ rfl,rfl⟩,F.slot_dict_keyiterator_next.lookup,by simpa [rawInt] using hQ⟩))
theorem qbQ {it d:Addr} {od:Obj} {es:Array DictEntry} {i ep:Nat} {e:DictEntry} {Q:Option Value->Shared->Prop} (hit:s.heap.IsKeyIter it d i es.size ep) (hod:s.heap.get? d=some od) (hdd:od.data=.dict es ep) (hx:es[i]?=some e)
  (hQ:∀ h',h'.IsKeyIter it d (i + 1) es.size ep->Heap.SameBut it s.heap h'->Q (some e.key) { s with heap:=h' }):wpAny (model prog w) A (pyNext (.ref it)) Q E s:=by
 obtain ⟨o,ho,hc,hd⟩:=id hit
 unfold pyNext
 refine wpAny_bind (wpAny_attempt (wpAny_callSpecial?_slot (name:=Str.ofString "__next__") hit.typeIs F.slot_dict_keyiterator_next (wpAny_call_entry F.slot_dict_keyiterator_next hit.typeIs F.entry_dict_keyiterator_next (wpAny_bind (wpAny_pure (wpAny_bind (wpAny_bind ?_)))) (F.args_dict_keyiterator_next_1 _))))
 first | refine wpAny_bind (wpAny_typeNameOfWhole_keyiter hit.typeIs (wpAny_pure (wpAny_bind (wpAny_fieldsOf ho hd ?_)))) | refine wpAny_bind (wpAny_typeNameOf_keyiter hit.typeIs (wpAny_pure (wpAny_bind (wpAny_fieldsOf ho hd ?_))))
 have hown:Builtin.Dict_items.ownsTuple "dict_keyiterator" = false:=rfl
 simp only [Bool.false_eq_true,hown,if_false]
 refine (id ?_:wpAny _ _ (if (Value.ref d == Value.none)=true then _ else _) _ _ s)
 rw [if_neg (fun z=>Bool.false_ne_true z:¬ ((Value.ref d == Value.none)=true))]
 refine wpAny_bind (wpAny_pure (wpAny_bind (wpAny_dictEntries hod hdd ?_)))
 rw [if_neg (by simp)]
 refine wpAny_bind (wpAny_pure (wpAny_bind (wpAny_dictEpoch hod hdd ?_)))
 rw [if_neg (by simp)]
 refine wpAny_pure (id ?_)
 have hlt:i < es.size:=(Array.getElem?_eq_some_iff.mp hx).1
 have hee:es[i]=e:=(Array.getElem?_eq_some_iff.mp hx).2
 simp only [show ¬ ((i:Int) < 0) from by omega,Int.toNat_natCast,if_false,Array.getElem?_eq_getElem hlt,hee]
 refine wpAny_bind (id ?_)
 first | refine wpAny_bind (wpAny_typeNameOfWhole_keyiter hit.typeIs (wpAny_pure (wpAny_bind (wpAny_isOneOf_keyiter hit.typeIs ?_)))) | refine wpAny_bind (wpAny_typeNameOf_keyiter hit.typeIs (wpAny_pure (wpAny_bind (wpAny_isOneOf_keyiter hit.typeIs ?_))))
 refine (wpAny_bind (wpAny_setField ho hd (by simp) ?_):wpAny _ _ (setField (.ref it) 1 (rawInt ((i:Int) + 1)) >>= _) _ _ s)
 have hit':(s.heap.update it (Obj.mapFields (·.setIfInBounds 1 (rawInt ((i:Int) + 1))))).IsKeyIter it d (i + 1) es.size ep:=⟨_,Heap.get?_update_self _ ho (Obj.isFreed_of_fields (Obj.data_mapFields hd _)),(Obj.cls_mapFields ..).trans hc,by rw [Obj.data_mapFields hd];simp [rawInt]⟩
 refine wpAny_bind (wpAny_holding (wpAny_bind (wpAny_isOneOf_keyiter (s:={ s with heap:=s.heap.update it (Obj.mapFields (·.setIfInBounds 1 (rawInt ((i:Int) + 1)))) }) hit'.typeIs (id ?_:wpAny _ _ (pure e.key) _ _ _))))
 exact wpAny_pure (wpAny_pure ⟨_,rfl,wpAny_pure (hQ _ hit' (Heap.SameBut.update ..))⟩)
theorem qcK {it d:Addr} {od:Obj} {es:Array DictEntry} {i ep:Nat} {Q:Option Value->Shared->Prop} (hh:A.handled=none) (hit:s.heap.IsKeyIter it d i es.size ep) (hod:s.heap.get? d=some od) (hdd:od.data=.dict es ep) (hge:es.size <= i)
  (hQ:∀ h',Heap.ExtBut it s.heap h'->Q none { s with heap:=h' }):wpAny (model prog w) A (pyNext (.ref it)) Q E s:=by
 obtain ⟨o,ho,hc,hd⟩:=id hit
 unfold pyNext
 refine wpAny_bind (wpAny_attempt (wpAny_callSpecial?_slot (name:=Str.ofString "__next__") hit.typeIs F.slot_dict_keyiterator_next (wpAny_call_entry F.slot_dict_keyiterator_next hit.typeIs F.entry_dict_keyiterator_next (wpAny_bind (wpAny_pure (wpAny_bind (wpAny_bind ?_)))) (F.args_dict_keyiterator_next_1 _))))
 first | refine wpAny_bind (wpAny_typeNameOfWhole_keyiter hit.typeIs (wpAny_pure (wpAny_bind (wpAny_fieldsOf ho hd ?_)))) | refine wpAny_bind (wpAny_typeNameOf_keyiter hit.typeIs (wpAny_pure (wpAny_bind (wpAny_fieldsOf ho hd ?_))))
 have hown:Builtin.Dict_items.ownsTuple "dict_keyiterator" = false:=rfl
 simp only [Bool.false_eq_true,hown,if_false]
 refine (id ?_:wpAny _ _ (if (Value.ref d == Value.none)=true then _ else _) _ _ s)
 rw [if_neg (fun z=>Bool.false_ne_true z:¬ ((Value.ref d == Value.none)=true))]
 refine wpAny_bind (wpAny_pure (wpAny_bind (wpAny_dictEntries hod hdd ?_)))
 rw [if_neg (by simp)]
 refine wpAny_bind (wpAny_pure (wpAny_bind (wpAny_dictEpoch hod hdd ?_)))
 rw [if_neg (by simp)]
 refine wpAny_pure (id ?_)
 simp only [show ¬ ((i:Int) < 0) from by omega,Int.toNat_natCast,if_false,Array.getElem?_eq_none hge]
 refine wpAny_bind (id ?_)
 first | refine wpAny_bind (wpAny_typeNameOfWhole_keyiter hit.typeIs (wpAny_pure (id ?_))) | refine wpAny_bind (wpAny_typeNameOf_keyiter hit.typeIs (wpAny_pure (id ?_)))
 refine (wpAny_bind (wpAny_setField ho hd (by simp) ?_):wpAny _ _ (setField (.ref it) 0 .none >>= _) _ _ s)
 refine (wpAny_bind ?_:wpAny _ _ (newExc (.type "StopIteration") [] >>= _) _ _ _)
 simp only [newExc,newTuple]
 refine wpAny_bind (wpAny_newObj_type (wpAny_bind (m:=firstArgMember _ _) (wpAny_of_eq (a:=Value.none) (by first | rfl | (simp only [firstArgMember];rfl)) (wpAny_newObj_type ?_ (by size_fits)))) (by size_fits))
 simp only [raiseNew]
 refine wpAny_bind (wpAny_handled (id ?_))
 rw [show A.in1.handled=none from hh]
 refine wpAny_bind (wpAny_pure (wpAny_throw (id ?_)))
 exact wpAny_bind (wpAny_isInstance (T := "StopIteration") (b:=true) ⟨_,Heap.get?_push_size _ rfl,rfl⟩ isSubtype_stop (wpAny_pure (hQ _ (((Heap.SameBut.update ..).extBut.push _).push _))))
end
def Itd (a:Addr) (kvs:List (KX×Addr×V)) (ep:Nat):It :=
 ⟨fun i H=>H a=some (DctO a kvs ep)/\i < kvs.length,fun i H x H'=>H'=H/\∃ p,kvs[i]?=some p/\x=kxV p.1 p.2.1,fun i H=>H a=some (DctO a kvs ep)/\kvs.length <= i⟩
theorem Jd {h:Heap} {a:Addr} {kvs:List (KX×Addr×V)} {ep:Nat} (d:zX a kvs ep h):∃ o es,h.get? a=some o/\o.ExactDict/\o.data=.dict es ep/\es.size=kvs.length/\∀ (i:Nat) p,kvs[i]?=some p->∃ e,es[i]?=some e/\RelV (kxV p.1 p.2.1) e.key/\RelV p.2.2 e.val:=by
 obtain ⟨o,es,h1,h2,h3,vk,vv⟩:=d.vals
 have hsz:es.size=kvs.length:=by
  have:=vk.length
  rw [List.length_map,List.length_map,Array.length_toList] at this
  exact this.symm
 refine ⟨o,es,h1,h2,h3,hsz,fun i p hp=>?_⟩
 have hi:i < es.size:=by rw [hsz];exact (List.getElem?_eq_some_iff.mp hp).1
 refine ⟨es[i],Array.getElem?_eq_getElem hi,?_,?_⟩
 ·obtain ⟨u,hu,ru⟩:=vk.get (i:=i) (x:=kxV p.1 p.2.1) (by rw [List.getElem?_map,hp];rfl)
  rw [List.getElem?_map,Array.getElem?_toList,Array.getElem?_eq_getElem hi] at hu
  cases hu
  exact ru
 ·obtain ⟨u,hu,ru⟩:=vv.get (i:=i) (x:=p.2.2) (by rw [List.getElem?_map,hp];rfl)
  rw [List.getElem?_map,Array.getElem?_toList,Array.getElem?_eq_getElem hi] at hu
  cases hu
  exact ru
theorem qfr {P:Program} {w:World} {K:PySem.W.Frag} {tg:Expr} (a it:Addr) (kvs:List (KX×Addr×V)) (ep:Nat):Turn P w K tg (Itd a kvs ep) [it] it (fun i h=>h.IsKeyIter it a i kvs.length ep) where
 mem:=by simp
 obj:=fun i h st b hb=>by
  have e:b=it:=by simpa using hb
  subst e
  obtain ⟨o,e,c,d⟩:=st
  exact ⟨o,e,fun v z=>by rw [d] at z;cases z⟩
 keep:=fun i h h' st k=>st.at fun o e=>k it (by simp) o e
 item:=by
  intro X hP hw hK hc i pins s σ H E I hf st hg
  subst hP hw hK
  obtain ⟨hq,hlt⟩:=hg
  obtain ⟨o,es,h1,h2,h3,hsz,hkey⟩:=Jd (zX.of (I.hok a _ hq))
  obtain ⟨e,he,hk,_⟩:=hkey i kvs[i] (List.getElem?_eq_getElem hlt)
  obtain ⟨f0,f1,f2,f3,f4,f5⟩:=hf it (by simp)
  have st':s.heap.IsKeyIter it a i es.size ep:=by rw [hsz];exact st
  refine qbQ st' h1 h3 he fun h' st2 sb=>?_
  have I1:Inv X pins σ H { s with heap:=h' }:=I.turned (t':=s.toks) (fun b o hb e=>(sb.2 b hb).trans e) f0 f1 f3 f4 f5
  obtain ⟨o2,e2,c2,d2⟩:=id st2
  refine ⟨e.key,rfl,qd7 (s:={ s with heap:=h' }) e2 c2 d2 (by decide) ⟨kxV kvs[i].1 kvs[i].2.1,H,I1,hk,⟨rfl,_,List.getElem?_eq_getElem hlt,rfl⟩,by rw [hsz] at st2;exact st2,fun b hb=>(hf b hb).1⟩⟩
 done:=by
  intro X hP hw hK hc i pins s σ H E I hf st hg
  subst hP hw hK
  obtain ⟨hq,hge⟩:=hg
  obtain ⟨o,es,h1,h2,h3,hsz,hkey⟩:=Jd (zX.of (I.hok a _ hq))
  obtain ⟨f0,f1,f2,f3,f4,f5⟩:=hf it (by simp)
  have st':s.heap.IsKeyIter it a i es.size ep:=by rw [hsz];exact st
  exact qcK (I.ok.hd hc) st' h1 h3 (by omega) fun h' eb=>⟨rfl,I.turned (t':=s.toks) (fun b o hb e=>eb b o hb e) f0 f1 f3 f4 f5⟩
 self:=fun _ _ _ _ _ st h=>wpAny_pyIter_keyiter st h
def iDct (tl:TE):TI:=fun σ H R=>tl σ H fun x H1=>∃ a kvs ep,x=.ref a/\H1 a=some (DctO a kvs ep)/\R (Itd a kvs ep) H1
section
variable {X:Cx} {M:List Nat} {a:Expr} {f:Rho->Option PyData}
theorem qjd {tg l:Expr} {tl:TE} (hl:PE X l tl):PI X tg l (iDct tl):=by
 intro pins s σ H R I h
 refine thn (hl pins s σ H _ I h) fun v s1 ⟨x,H1,I1,r1,p,kvs,ep,ex,hq,q⟩=>?_
 subst ex
 cases r1
 have d:=zX.of (I1.hok p _ hq)
 obtain ⟨o,es,h1,h2,h3,hsz,_⟩:=Jd d
 refine qiv d.2.1 h1 h2 h3 ?_
 rw [hsz]
 refine ⟨s1.heap.objs.size,[s1.heap.objs.size],_,_,H1,rfl,I1.kept (t':=s1.toks) fun b o e=>Heap.get?_push_of_some _ e,qfr p _ kvs ep,⟨_,Heap.get?_push_size _ rfl,rfl,rfl⟩,fun b hb=>?_,q⟩
 have e:b=s1.heap.objs.size:=by simpa using hb
 subst e
 exact I1.fpOk (Nat.le_refl _) (I1.hok.fresh (Nat.le_refl _))
theorem IsIt.dct {K:PySem.W.Frag} {H:Hp} {S:Av} {l:Addr} {kvs:List (KX×Addr×V)} {ep:Nat} (h:H l=some (DctO l kvs ep)) (k:DenL K H S (kvs.map fun p=>kxV p.1 p.2.1) (kvs.map fun p=>kxD p.1)):IsIt K S (Itd l kvs ep) H (kvs.map fun p=>kxD p.1) where
 go:=fun i H' e hi=>⟨e _ _ h,by rwa [List.length_map] at hi⟩
 yld:=fun i H' x H2 e ⟨e2,p,hp,ex⟩=>⟨by rw [e2];exact Same.refl _,fun d hd S' w=>by
  obtain ⟨v,h1,h2⟩:=k.get hd
  rw [List.getElem?_map,hp] at h1
  cases h1
  rw [ex]
  exact w _ _ h2⟩
 stop:=fun H' e=>⟨e _ _ h,by rw [List.length_map];exact Nat.le_refl _⟩
def qgl:PyData->Option (List PyData)
 | .dict kvs=>if excK kvs=true then none else some (kvs.map (·.1))
 | _=>none
theorem qg1 {tg:Expr} (h:PD X M a f):PDI X M tg a (evI f qgl) :=
 (qjd h).weak fun σ H R ⟨S,ρ,ds,hs,e,w⟩=>by
  obtain ⟨x,e1,e⟩:=qj e
  refine ⟨S,ρ,x,hs,e1,fun v H1 g1 d1=>?_⟩
  cases d1 with
  | @dict p kvs ep ds' h k t =>
   have hl:kvs.length=ds'.length:=by
    have:=t.length
    rwa [List.length_map] at this
   have e:(if excK (dkv kvs ds')=true then none else some ((dkv kvs ds').map (·.1)))=some ds:=e
   rw [qcs,qcn hl] at e
   cases e
   exact ⟨p,kvs,ep,rfl,h.1,w _ _ g1 fun H2 o=>IsIt.dct (o _ _ h.2 h.1) (k.off (hs.1.same g1) o)⟩
  | _=>cases e
end
end L2
namespace L2
open PySem PySem.Spec PyProof.Rows
def qjY (K:PySem.W.Frag):R2:=fun x y H Q=>∃ S a kvs ep ks ds d,x=.ref a/\H a=some (DctO a kvs ep)/\DenL K H S (kvs.map fun p=>kxV p.1 p.2.1) (kvs.map fun p=>kxD p.1)/\DenL K H S (kvs.map (·.2.2)) ds/\(∀ p∈kvs,kxI p.1=kxI ks)/\Den K H S y (kxD ks)/\zZ (dkv kvs ds) ks=some d/\∀ v,Den K H S v d->Q v H
section
variable {X:Cx} {G:Gm} {M M' Mb L:List Nat} {fr:Fr} {a b c:Expr} {es:List Expr} {f fk fx g fa fb:Rho->Option PyData} {pos:Pos} {u:Rho->Option Out}
theorem qiw (hu:X.A.units + 64 < cLine):IxR X (qjY X.K):=by
 intro value slice pins s σ H x y v u Q I rx ry h hs
 obtain ⟨S,p,kvs,ep,ks,ds,d,rfl,hp,k,t,hk,dy,e,q⟩:=h
 cases rx
 exact tail_any (Wt I hp).1 PySem.F.slot_dict_getitem.lookup (qie hu I hp k t hk dy ry e fun v' w' s' I' r' d'=>⟨v',H,I',r',q v' d'⟩) hs
theorem qk1 {k:Nat} (hr:Room k X.A) (ha:PD X M a fa) (hb:PD X M b fb) (hs:qbh b:=by intro _ _;rfl):PD X M (.Subscript a b pos) (ev2 fa fb ix2D) :=
 (qjU (r:=fun x y H Q=>(rIxL X.K x y H Q\/rIxT X.K x y H Q)\/qjY X.K x y H Q) ((qea.or qgj).or (qiw hr.units)) ha hb hs).weak fun σ H Q ⟨S,ρ,d,hs,e,q⟩=>by
  obtain ⟨x,e1,e⟩:=qj e
  obtain ⟨y,e2,e⟩:=qj e
  refine ⟨S,ρ,x,hs,e1,fun v H1 g1 d1=>⟨S,ρ,y,hs.same g1,e2,fun w H2 g2 d2=>?_⟩⟩
  have d1':=d1.same g2
  cases d1' with
  | list h t =>
   cases d2 with
   | int i =>
    obtain ⟨z,h1,h2⟩:=t.atI e
    exact .inl (.inl ⟨_,_,i,z,rfl,rfl,h.sq,h1,q z H2 (g1.trans g2) h2⟩)
   | _=>cases e
  | tuple h t =>
   cases d2 with
   | int i =>
    obtain ⟨z,h1,h2⟩:=t.atI e
    exact .inl (.inr ⟨_,_,i,z,rfl,rfl,h,h1,q z H2 (g1.trans g2) h2⟩)
   | _=>cases e
  | @dict p kvs ep ds h k t =>
   have e:ob (kxOf y) (fun ks=>if kOk (dkv kvs ds) ks=true then zZ (dkv kvs ds) ks else none)=some d:=e
   obtain ⟨ks,e3,e⟩:=qj e
   have hl:kvs.length=ds.length:=by
    have:=t.length
    rwa [List.length_map] at this
   split at e
   case isFalse=>cases e
   rename_i hok
   rw [YH e3] at d2
   exact .inr ⟨S,p,kvs,ep,ks,ds,d,rfl,h.1,k,t,qby hl hok,d2,e,fun v' d'=>q v' H2 (g1.trans g2) d'⟩
  | exc0 h o=>exact (qbv (g:=id) e).elim
  | exc1 h o x z t=>exact (qbv (g:=id) e).elim
  | _=>cases e
theorem qhg:PF X M (.Dict [] [] pos) (kd (.dict [])):=fun pins s σ H Q I ⟨S,ρ,d,hs,e,q⟩=>by
 cases e
 have hb:sysModules < s.heap.objs.size:=Nat.lt_trans (by decide) (show mainGlobals < s.heap.objs.size from (I.mod.glob.keeps I.bk).lt)
 have hn:=I.hok.fresh (Nat.le_refl s.heap.objs.size)
 have dct:zX s.heap.objs.size [] 0 (s.heap.push { cls:=.type "dict", data:=.dict #[] }):=⟨Nat.zero_le _,beq_eq_false_iff_ne.mpr (Ne.symm (Nat.ne_of_lt hb)),.inl ⟨[],.nil,_,#[],Heap.get?_push_size _ rfl,⟨rfl,rfl,rfl⟩,rfl,rfl,List.nodup_nil⟩⟩
 exact wpAny_Dict_empty ⟨.ref s.heap.objs.size,_,I.laid (a:=s.heap.objs.size) (o:=DctO s.heap.objs.size [] 0) (t':=s.toks) (fun _ _ q=>Heap.get?_push_of_some _ q) (Nat.le_refl _) dct.ok,rfl,q _ _ (Same.lay hn) hn (.dct (kvs:=[]) (ds:=[]) qR .nil .nil)⟩
def ev3 (f g h:Rho->Option PyData) (r:PyData->PyData->PyData->Option PyData):Rho->Option PyData:=fun ρ=>ob (f ρ) fun x=>ob (g ρ) fun y=>ob (h ρ) fun z=>r x y z
theorem qi3 {k:Nat} {o:Expr} {apos cpos:Pos} (hr:Room k X.A) (ho:PD X M o f) (he:PD X M a fk) (hx:PD X M b fx)
  (hbase:attributeBase o "get" X.env (eval o X.env)=eval o X.env:=by rfl)
  (hfew:((backTo cpos (starEach [a,b] X.env)).all (fun x=>!x.1) && (backToKw cpos (keywordEach [] X.env)).all (fun x=>x.1.isSome)
   && decide ([a,b].length + ([]:List Keyword).length + (if ([]:List Keyword).isEmpty then 0 else 1) < 30))=true:=by rfl)
  (hline:(apos.endLine == cpos.line)=true:=by rfl) (htr:backTo cpos (starEach [a,b] X.env)=[(false,eval a X.env),(false,eval b X.env)]:=by rfl) :
  PD X M (.Call (.Attribute o "get" apos) [a,b] [] cpos) (ev3 f fk fx Wu):=by
 intro pins s σ H Q I ⟨S,ρ,d,hs,e,q⟩
 obtain ⟨x,e1,e⟩:=qj e
 obtain ⟨y,e2,e⟩:=qj e
 obtain ⟨z,e3,e⟩:=qj e
 refine wpAny_Call_method hbase hfew hline PySem.F.plainAttrs_dict PySem.F.slot_dict_get PySem.F.type_dict_get (thn (ho pins s σ H (fun v H1=>Same H H1/\Den X.K H1 S v x) I ⟨S,ρ,x,hs,e1,fun v H1 g1 d1=>⟨g1,d1⟩⟩) fun v s1 ⟨xv,H1,I1,rx,g1,d1⟩=>?_)
 cases d1 with
 | @dict p kvs ep ds h kk t =>
  have e:ob (kxOf y) (fun ks=>if kOk (dkv kvs ds) ks=true then some ((zZ (dkv kvs ds) ks).getD z) else none)=some d:=e
  obtain ⟨ks,e4,e⟩:=qj e
  have hl:kvs.length=ds.length:=by
   have:=t.length
   rwa [List.length_map] at this
  split at e
  case isFalse=>cases e
  rename_i hok
  cases e
  obtain rfl:v=Value.ref p:=rx
  refine ⟨(Wt I1 h.1).1,fun a' q'=>?_,?_⟩
  ·cases q'
   exact (Wt I1 h.1).2
  rw [htr]
  refine Calls.callWith_builtin rfl (Calls.evalArgs_plain (Calls.spliced_cons (thn (he pins s1 σ H1 (fun v H2=>Same H1 H2/\Den X.K H2 S v y) I1 ⟨S,ρ,y,hs.same g1,e2,fun v H2 g2 d2=>⟨g2,d2⟩⟩) fun kv s2 ⟨yv,H2,I2,ry,g2,d2⟩ =>
   Calls.spliced_cons (thn (hx pins s2 σ H2 (fun v H3=>Same H2 H3/\Den X.K H3 S v z) I2 ⟨S,ρ,z,hs.same (g1.trans g2),e3,fun v H3 g3 d3=>⟨g3,d3⟩⟩) fun zv s3 ⟨zz,H3,I3,rz,g3,d3⟩=>Calls.spliced_nil ?_))))
  have g23:=g2.trans g3
  rw [YH e4] at d2
  exact qid hr.units I3 (g23 _ _ h.1) (kk.same g23) (t.same g23) (qby hl hok) (d2.same g3) ry d3 rz fun v' w' s' I' r' dv=>⟨v',H3,I',r',q v' H3 (g1.trans g23) dv⟩
 | exc0 h o=>exact (qbv (g:=id) e).elim
 | exc1 h o x z t=>exact (qbv (g:=id) e).elim
 | _=>cases e
def qbb (i:Nat) (fk f:Rho->Option PyData):Rho->Option Out:=fun ρ=>ob (f ρ) fun d=>ob (vr i ρ) fun l=>ob (fk ρ) fun k=>ob (Wv l k d) fun l'=>some (.nx (ρ.set i (some l')))
theorem qip (js:List Int):yG (js.map .int)=true:=by
 induction js with
 | nil=>rfl
 | cons j js ih=>exact ih
theorem qbw:∀ ks:K2,yG (ks.map k2D)=true
 | []=>rfl
 | .inl _ :: ks=>qbw ks
 | .inr js :: ks=>by
  show (yG (js.map .int) && yG (ks.map k2D))=true
  rw [qip,qbw];rfl
theorem qgc (k:KX):flat (kxD k)=true:=by
 cases k with
 | inl i=>rfl
 | inr ks=>exact qbw ks
theorem qde {l k d l':PyData} (e:Wv l k d=some l'):∃ kvs ks,l=.dict kvs/\k=kxD ks/\kOk kvs ks=true/\kvs.length < 1000/\l'=.dict (putD kvs ks d):=by
 unfold Wv at e
 split at e
 ·obtain ⟨ks,e1,e⟩:=qj e
  split at e
  ·rename_i hc;cases e;exact ⟨_,ks,rfl,YH e1,hc.1,hc.2,rfl⟩
  ·cases e
 ·cases e
theorem qgV {kvs:List (KX×Addr×V)} {ep:Nat} {ds:List PyData} {S:Av} {σ:St} {ρ:Rho} {H:Hp} {i:Nat} {pp b:Addr} {ks:KX} {v:V} {d:PyData} {ep':Nat} (os:OwnS X.K G M L H S σ ρ) (hM:Flt M i) (hL:i∉L) (e0:ρ[i]?=some (some (.dict (dkv kvs ds)))) (a1:σ[i]?=some (some (.ref pp))) (c1:S pp) (h:H pp=some (DctO pp kvs ep)) (k:DenL X.K H S (kvs.map fun p=>kxV p.1 p.2.1) (kvs.map fun p=>kxD p.1)) (t:DenL X.K H S (kvs.map (·.2.2)) ds) (dk:Den X.K H S (kxV ks b) (kxD ks)) (dv:Den X.K H S v d)
  (he:(kvs.any fun p=>decide (p.1=ks))=(zZ (dkv kvs ds) ks).isSome):OwnS X.K G M L (upd H pp (DctO pp (putV kvs ks b v) ep')) S σ (ρ.set i (some (.dict (putD (dkv kvs ds) ks d)))):=by
 obtain ⟨ds',t',ed⟩:=qhr (b:=b) t dv he
 refine os.write hM hL e0 a1 rfl ?_
 rw [← ed]
 exact .dct qR ((qho k dk).off os.ds.1 (Off.upd c1)) (t'.off os.ds.1 (Off.upd c1))
theorem qch {K:PySem.W.Frag} {H:Hp} {S:Av} (ks:KX):∀ {kvs:List (KX×Addr×V)} {ds:List PyData},DenL K H S (kvs.map (·.2.2)) ds->(kvs.any fun p=>decide (p.1=ks))=(zZ (dkv kvs ds) ks).isSome
 | [],_,t=>by cases t;rfl
 | p :: kvs,_,t=>by
  cases t with
  | @cons _ d _ ds dv t' =>
   rw [jl,List.any_cons]
   by_cases e:p.1=ks
   ·rw [Yy e,decide_eq_true e];rfl
   ·rw [Yx e,decide_eq_false e,Bool.false_or];exact qch ks t'
theorem qif {kvs:List (KX×Addr×V)} {ds:List PyData} (h:kvs.length=ds.length):(dkv kvs ds).length=kvs.length:=by
 unfold dkv
 rw [List.length_zip,List.length_map,h,Nat.min_self]
theorem qfd {k:Nat} (hr:Room k X.A) (i:Nat) {x:Str} {px sp:Pos} (hv:Vis X.env.scope x) (hM:Flt M i) (hL:i∉L) (hk:PD X [] b fk) (he:PD X [] a f) (hN:X.N[i]?=some x:=by rfl) (hd:(x == ("__debug__" : Str))=false:=by decide +kernel) (hcd:(x == ("__classdict__" : Str))=false:=by decide +kernel)
  (ha:∀ v,assign (.Subscript (.Name x px) b sp) X.env v=(do
   let ov ← holding [v] (eval (.Name x px) X.env)
   let iv ← holding [v,ov] (eval b X.env)
   standAt sp
   holding [v,ov,iv] (setItem ov iv v)
   release [v,ov,iv] []):=by intro _;rfl)
  (hs:swapsWithSole [.Subscript (.Name x px) b sp] a pos.line X.env=pure false:=by rfl) (hw:swappedStores [.Subscript (.Name x px) b sp] a X.env=pure none:=by rfl)
  (h1:(assignEach [.Subscript (.Name x px) b sp] X.env).map (·.2)=[assign (.Subscript (.Name x px) b sp) X.env]:=by rfl) :
  PDS X G M L M Mb fr (.Assign [.Subscript (.Name x px) b sp] a pos) (qbb i fk (Qe f)) :=
 (qhm he (qhh (qaa i hv hN hd hcd) hk (set_dict hr.units) ha) hs hw h1).weak fun D σ H ⟨S,ρ,o,os,e,q⟩=>by
  obtain ⟨d,e1,e⟩:=qj e
  obtain ⟨l,e2,e⟩:=qj e
  obtain ⟨kd,e3,e⟩:=qj e
  obtain ⟨l',e4,e⟩:=qj e
  cases e
  obtain ⟨kvs0,ks,rfl,rfl,hok,hz,rfl⟩:=qde e4
  obtain ⟨d',e5,e6⟩:=qj e1
  have hf:flat d'=true/\d'=d:=by
   split at e6
   ·rename_i hf;cases e6;exact ⟨hf,rfl⟩
   ·cases e6
  obtain ⟨hf,rfl⟩:=hf
  refine ⟨G.S0,ρ,d',os.den,e5,fun v H1 g1 d1'=>?_⟩
  have d1:Den X.K H1 S v d':=d1'.flat hf
  have os1:=os.same g1
  obtain ⟨pp,a1,b1,c1,n1,w1,_⟩:=os1.own i hM _ (Zv e2)
  cases b1 with
  | @dct kvs ep ds h kk t =>
   refine ⟨_,a1,G.S0,ρ,_,os1.den,e3,fun kv H2 g2 dk=>?_⟩
   have os2:=os1.same g2
   have dk:Den X.K H2 S kv (kxD ks):=dk.flat (qgc ks)
   have hl:kvs.length=ds.length:=by
    have:=t.length
    rwa [List.length_map] at this
   rw [qif hl] at hz
   refine ⟨S,pp,kvs,ep,ks,ds,d',rfl,g2 _ _ h,kk.same g2,t.same g2,qby hl hok,dk,d1.same g2,hz,fun b' ep' eb=>?_⟩
   subst eb
   exact q _ _ _ (qgV os2 hM hL (Zv e2) a1 c1 (g2 _ _ h) (kk.same g2) (t.same g2) dk (d1.same g2) (qch ks t))
end
end L2
namespace L2
open PySem PySem.Spec PyProof.Rows
section
variable {X:Cx} {G:Gm} {M M' Mb L:List Nat} {fr:Fr} {a b c:Expr} {es:List Expr} {f fk g:Rho->Option PyData} {pos:Pos} {u:Rho->Option Out}
def sNo:Rho->Option Out:=fun _=>none
theorem qa6 {e1 e2:Option Expr}:PDS X G M L M' Mb fr (.Raise e1 e2 pos) sNo:=fun pins s σ H D I ⟨S,ρ,o,os,e,q⟩=>by cases e
end
end L2
namespace L2
open PySem PySem.Spec PyProof.Rows
def qjR:PyData->Bool
 | .list _=>true
 | _=>false
def vC (f:Rho->Option PyData) (fs:Rho->Option (List PyData)):Rho->Option (List PyData):=fun ρ=>ob (f ρ) fun d=>ob (fs ρ) fun ds=>if qjR d=true then some (d :: ds) else none
theorem Kids.length {K:PySem.W.Frag} {H:Hp} {S:Av}:∀ {qs:List Addr} {ds:List PyData},Kids K H S qs ds->qs.length=ds.length
 | _,_,.nil=>rfl
 | _,_,.cons _ _ _ r=>by rw [List.length_cons,List.length_cons,r.length]
theorem Kids.get {K:PySem.W.Frag} {H:Hp} {S:Av}:∀ {qs:List Addr} {ds:List PyData} {i:Nat} {d:PyData},Kids K H S qs ds->ds[i]?=some d->∃ q xs es,qs[i]?=some q/\d=.list es/\H q=some (.lst xs)/\DenL K H S xs es
 | _,_,_,_,.nil,e=>by simp at e
 | _,_,0,_,.cons h t _ _,e=>by simp at e;subst e;exact ⟨_,_,_,rfl,rfl,h,t⟩
 | _,_,i + 1,d,.cons _ _ _ r,e=>by
  obtain ⟨q,xs,es,h1,h2⟩:=Kids.get (i:=i) (d:=d) r (by simpa using e)
  exact ⟨q,xs,es,by simpa using h1,h2⟩
section
variable {X:Cx} {G:Gm} {M M' Mb L:List Nat} {fr:Fr} {a b c:Expr} {es:List Expr} {f fk g:Rho->Option PyData} {pos:Pos} {u:Rho->Option Out} {fs:Rho->Option (List PyData)}
def qhx (i:Nat) (f:Rho->Option PyData):Rho->Option Out:=fun ρ=>if i < ρ.length/\ρ.length <= 1000 then ob (f ρ) fun d=>some (.nx (ρ.set i (some d))) else none
def spD (K:PySem.W.Frag) (n:Nat) (f:List PyData->Option PyData):Sp:=fun vs H Q _=>∃ S ds d,Dm S H/\DenL K H S vs ds/\ds.length=n/\f ds=some d/\∀ p fp H',Same H H'->(∀ q∈fp,H q=none)->DeepO K H' (insL S fp) fp p d->Q (.ref p) H'
theorem FunG.deep {P:Program} {w:World} {K:PySem.W.Frag} {mg:Str->Option Value} {base:Heap} {x qual:Str} {st:Stmt} {f:Addr} {fd:FuncData} {N ps:List Str} {k n:Nat} {u:Rho->Option Out} {M':List Nat} (F:FunG K x qual st f fd) (S:FnScope N ps (qb st)) (hn:ps.length=n)
  (hbody:∀ (cdv:Value) (A:Around) (outer:List Env) (s:Shared) (H:Hp) (E:XK),Room k (A.deeper (envOfC qual (qb st) s.heap.objs.size f cdv))->∀ G:Gm,
   PDSs (cxOf CX0 P w K mg base N qual (qb st) f cdv A outer s H E).nox G [] [] M' [] .dp (qJ st) u) :
  FnOk P w K mg base CX0 (k + 1) f fd ps (spD K n fun ds=>ob (u (rho0 N.length ds)) outF):=by
 refine F.ok S (fun vs H Q E h=>?_) (fun cdv A outer s H vs Q E hr h=>?_)
 ·obtain ⟨_,ds,d,_,h1,h2,_⟩:=h
  rw [h1.length,h2,hn]
 ·obtain ⟨Sv,ds,d,m,h1,h2,e,q⟩:=h
  obtain ⟨o,e1,e⟩:=qj e
  refine ⟨_,hbody cdv A outer s H E hr (G0 H Sv),Sv,rho0 N.length ds,o,OwnS.start m h1 N,e1,?_⟩
  cases o with
  | rt r=>cases e;exact fun p fp H' g n o=>q p fp H' g (fun r hr=>(n r hr).1) o
  | nx ρ=>cases e
  | bk ρ=>cases e
  | ct ρ=>cases e
theorem Fun.deep {P:Program} {w:World} {K:PySem.W.Frag} {mg:Str->Option Value} {base:Heap} {x qual:Str} {st:Stmt} {f:Addr} {fd:FuncData} {N ps:List Str} {k n:Nat} {u:Rho->Option Out} {M':List Nat} (F:Fun K x qual st f fd) (S:FnScope N ps (qb st)) (hn:ps.length=n)
  (hbody:∀ (cdv:Value) (A:Around) (outer:List Env) (s:Shared) (H:Hp) (E:XK),Room k (A.deeper (envOfC qual (qb st) s.heap.objs.size f cdv))->∀ G:Gm,
   PDSs (cxOf CX0 P w K mg base N qual (qb st) f cdv A outer s H E).nox G [] [] M' [] .dp (qJ st) u) :
  FnOk P w K mg base CX0 (k + 1) f fd ps (spD K n fun ds=>ob (u (rho0 N.length ds)) outF) :=
 F.g.deep S hn hbody
structure KnownD (P:Program) (w:World) (K:PySem.W.Frag) (mg:Str->Option Value) (base:Heap) (x:Str) (n k:Nat) (h:List PyData->Option PyData):Prop where
 ex:∃ (f:Addr) (fd:FuncData) (ps:List Str),FnOk P w K mg base CX0 k f fd ps (spD K n h)/\mg x=some (.ref f)/\PySem.W.keepIn K (.ref f)=true/\Binds K fd ps []
theorem KnownD.known {P:Program} {w:World} {K:PySem.W.Frag} {mg:Str->Option Value} {base:Heap} {x:Str} {n k:Nat} {h:List PyData->Option PyData} (F:KnownD P w K mg base x n k h):Known P w K mg base x n k h:=by
 obtain ⟨f,fd,ps,F,m,kp,b⟩:=F.ex
 exact ⟨f,fd,ps,F.imp fun vs H Q E ⟨S,ds,d,m,h1,h2,e,q⟩=>⟨S,ds,d,m,h1,h2,e,fun p fp H' g n o=>q _ H' g (o.den (fun r hr=>m.free (n r hr)) fun a _ z=>.inl z)⟩,m,kp,b⟩
def qaU:PyData->PyData->Option Nat
 | .tuple ds,.int k=>ixN ds.length k
 | .list ds,.int k=>ixN ds.length k
 | _,_=>none
def qaT:PyData->Nat->Option PyData
 | .tuple ds,j=>ds[j]?
 | .list ds,j=>ds[j]?
 | _,_=>none
def qbH:PyData->Nat->PyData->PyData
 | .tuple ds,j,l=>.tuple (ds.set j l)
 | .list ds,j,l=>.list (ds.set j l)
 | d,_,_=>d
theorem DeepF.same {K:PySem.W.Frag} {H H':Hp} {S:Av} {σ:St} {ρ:Rho} {F:Nat->List Addr} (e:Same H H') (f:DeepF K G M H S σ ρ F):DeepF K G M H' S σ ρ F :=
 ⟨fun i hi d q=>let ⟨p,a,b,c⟩:=f.own i hi d q;⟨p,a,b.same e,c⟩,f.disj,f.flat⟩
theorem yw {qs:List Addr} {j:Nat} {k:Int} {q:Addr} {n:Nat} (h:n=qs.length) (e:ixN n k=some j) (e':qs[j]?=some q):atI (qs.map V.ref) k=some (.ref q):=by
 unfold atI
 rw [List.length_map,← h,e]
 show (qs.map V.ref)[j]?=_
 rw [List.getElem?_map,e'];rfl
def qj0 (i:Nat) (fk f:Rho->Option PyData):Rho->Option Out:=fun ρ=>ob (vr i ρ) fun c=>ob (fk ρ) fun k=>ob (qaU c k) fun j=>ob (qaT c j) fun l=>ob (f ρ) fun d=>ob (appD l d) fun l'=>some (.nx (ρ.set i (some (qbH c j l'))))
def qj1 (i:Nat) (fk:Rho->Option PyData):Rho->Option Out:=fun ρ=>ob (vr i ρ) fun c=>ob (fk ρ) fun k=>ob (qaU c k) fun j=>ob (qaT c j) fun _=>some (.nx (ρ.set i (some (qbH c j (.list [])))))
end
end L2
namespace L2
open PySem PySem.Spec PyProof.Rows
def dfl (h:List PyData->Option PyData) (dds:List PyData):List PyData->Option PyData:=fun ds=>h (ds ++ dds)
theorem dfl_b (h:List PyData->Option PyData) (dds ds:List PyData):dfl h dds ds=h (ds ++ dds):=rfl
structure KnownX (P:Program) (w:World) (K:PySem.W.Frag) (mg:Str->Option Value) (base:Heap) (x:Str) (n k:Nat) (h:List PyData->Option PyData) (dds:List PyData):Prop where
 ex:∃ (f:Addr) (fd:FuncData) (ps:List Str) (us:List Value) (dvs:List V),FnOk P w K mg base CX0 k f fd ps (spF K n h)/\mg x=some (.ref f)/\PySem.W.keepIn K (.ref f)=true/\Binds K fd ps us/\Vals dvs us/\∀ (H:Hp) (S:Av),DenL K H S dvs dds
structure KnownNX (P:Program) (w:World) (K:PySem.W.Frag) (mg:Str->Option Value) (base:Heap) (x:Str) (n k:Nat) (h:List PyData->Option PyData) (dds:List PyData):Prop where
 ex:∃ (f:Addr) (fd:FuncData) (ps:List Str) (us:List Value) (dvs:List V),FnOk P w K mg base CX0 k f fd ps (spN K n h)/\mg x=some (.ref f)/\PySem.W.keepIn K (.ref f)=true/\Binds K fd ps us/\Vals dvs us/\∀ (H:Hp) (S:Av),DenL K H S dvs dds
theorem KnownNX.known {P:Program} {w:World} {K:PySem.W.Frag} {mg:Str->Option Value} {base:Heap} {x:Str} {n k:Nat} {h:List PyData->Option PyData} {dds:List PyData} (F:KnownNX P w K mg base x n k h dds):KnownX P w K mg base x n k h dds:=by
 obtain ⟨f,fd,ps,us,dvs,F,m,kp,b,v,t⟩:=F.ex
 exact ⟨f,fd,ps,us,dvs,F.imp fun vs H Q E ⟨S,ds,d,m,h1,h2,e,q⟩=>⟨S,ds,d,m,h1,h2,e,fun p H' g n o=>q _ H' g (o.den (m.free n) fun a _ z=>.inl z)⟩,m,kp,b,v,t⟩
section
variable {X:Cx} {M:List Nat} {a:Expr} {es:List Expr} {pos:Pos}
end
end L2
namespace L2
open PySem PySem.Spec PyProof.Rows
section
variable {X:Cx} {pins:List (Addr×Obj)} {σ:St} {H:Hp} {s:Shared}
end
def Itz (K:PySem.W.Frag) (a b:Addr):It :=
 ⟨fun i H=>∃ xs ys x y,SqL K H a xs/\SqL K H b ys/\xs[i]?=some x/\ys[i]?=some y,
  fun i H v H'=>∃ p x y,H p=none/\v=.ref p/\H'=upd H p (.tup [x,y])/\(∀ xs,SqL K H a xs->xs[i]?=some x)/\∀ ys,SqL K H b ys->ys[i]?=some y,
  fun i H=>∃ xs ys,SqL K H a xs/\SqL K H b ys/\(xs[i]?=none\/ys[i]?=none)⟩
section
variable {X:Cx} {M:List Nat} {a b:Expr} {es:List Expr} {f fa fb:Rho->Option PyData} {pos:Pos}
def zpL:List PyData->List PyData->List PyData
 | d :: ds,e :: es=>.tuple [d,e] :: zpL ds es
 | _,_=>[]
theorem qce:∀ (ds es:List PyData) (i:Nat) (d:PyData),(zpL ds es)[i]?=some d->∃ x y,ds[i]?=some x/\es[i]?=some y/\d=.tuple [x,y]
 | [],_,_,_,h=>by simp [zpL] at h
 | _ :: _,[],_,_,h=>by simp [zpL] at h
 | x :: ds,y :: es,0,d,h=>by simp [zpL] at h;exact ⟨x,y,rfl,rfl,h.symm⟩
 | x :: ds,y :: es,i + 1,d,h=>by
  obtain ⟨x',y',h1,h2,h3⟩:=qce ds es i d (by simpa [zpL] using h)
  exact ⟨x',y',by simpa using h1,by simpa using h2,h3⟩
theorem qeJ:∀ (ds es:List PyData),ds[(zpL ds es).length]?=none\/es[(zpL ds es).length]?=none
 | [],_=>.inl rfl
 | _ :: _,[]=>.inr rfl
 | x :: ds,y :: es=>by
  rcases qeJ ds es with h | h
  ·left;simpa [zpL] using h
  ·right;simpa [zpL] using h
theorem IsIt.zip {K:PySem.W.Frag} {H:Hp} {S:Av} {l m:Addr} {xs ys:List V} {ds es:List PyData} (h:SqL K H l xs) (t:DenL K H S xs ds) (h':SqL K H m ys) (t':DenL K H S ys es):IsIt K S (Itz K l m) H (zpL ds es) where
 go:=fun i H' e hi=>by
  obtain ⟨d,hd⟩:∃ d,(zpL ds es)[i]?=some d:=⟨_,List.getElem?_eq_getElem hi⟩
  obtain ⟨x,y,h1,h2,_⟩:=qce ds es i d hd
  obtain ⟨v,h3,_⟩:=t.get h1
  obtain ⟨w,h4,_⟩:=t'.get h2
  exact ⟨xs,ys,v,w,e.seq h,e.seq h',h3,h4⟩
 yld:=fun i H' x H2 e ⟨p,y1,y2,hp,ex,e2,q1,q2⟩=>by
  subst ex e2
  refine ⟨Same.lay hp,fun d hd S' w=>?_⟩
  obtain ⟨d1,d2,h1,h2,rfl⟩:=qce ds es i d hd
  obtain ⟨v1,h3,r1⟩:=t.get h1
  obtain ⟨v2,h4,r2⟩:=t'.get h2
  have e3:=q1 xs (e.seq h)
  have e4:=q2 ys (e.seq h')
  rw [h3] at e3
  rw [h4] at e4
  cases e3
  cases e4
  exact .tuple (SqT.of qR) (.cons (w _ _ r1) (.cons (w _ _ r2) .nil))
 stop:=fun H' e=>⟨xs,ys,e.seq h,e.seq h',by
  have a:=t.length
  have b:=t'.length
  rcases qeJ ds es with z | z
  ·left;rw [List.getElem?_eq_none_iff] at z ⊢;omega
  ·right;rw [List.getElem?_eq_none_iff] at z ⊢;omega⟩
def zipD:PyData->PyData->Option (List PyData)
 | .list ds,.list es=>some (zpL ds es)
 | _,_=>none
def evI2 (fa fb:Rho->Option PyData) (g:PyData->PyData->Option (List PyData)) (ρ:Rho):Option (List PyData):=ob (fa ρ) fun x=>ob (fb ρ) fun y=>g x y
theorem qjL (ds es:List PyData):zipD (.list ds) (.list es)=some (zpL ds es):=rfl
theorem zpL_c (d e:PyData) (ds es:List PyData):zpL (d :: ds) (e :: es)=.tuple [d,e] :: zpL ds es:=rfl
theorem qlW (es:List PyData):zpL [] es=[]:=by cases es<;>rfl
theorem qlX (ds:List PyData):zpL ds []=[]:=by cases ds<;>rfl
end
end L2
namespace L2
open PySem PySem.Spec PyProof.Rows
section
variable {X:Cx} {G:Gm} {M M' Mb L:List Nat} {fr:Fr} {a b c:Expr} {es:List Expr} {f fk g:Rho->Option PyData} {pos:Pos} {u:Rho->Option Out}
end
end L2
namespace L2
open PySem PySem.Spec PyProof.Rows
mutual
def gtX:PyData->PyData->Option Bool
 | .int i,.int j=>some (decide (i > j))
 | .tuple xs,.tuple ys=>gtXs xs ys
 | _,_=>none
def gtXs:List PyData->List PyData->Option Bool
 | [],[]=>some false
 | [],_ :: _=>some false
 | _ :: _,[]=>some true
 | x :: xs,y :: ys=>if PyData.eqv x y=true then gtXs xs ys else gtX x y
end
section
open PySem.SeqAt
open PySem.AutoSeq1 (wpAny_loadPart')
open PySem.MeetsSeq PySem.MeetsSeq2 PySem.MeetsSeq3
end
end L2
namespace L2
open PySem PySem.Spec PyProof.Rows
section
variable {prog:Program} {w:World} {A:Around} {R:Result->Shared->Prop} {it:Addr} {fp wr:List Addr} {n:Nat} {P:Nat->Value->Prop} {St:Nat->Heap->Prop} {h0:Heap}
end
section
variable {s:Shared} {prog:Program} {w:World} {A:Around} {E:Value->Shared->Prop}
end
section
variable {prog:Program} {w:World} {A:Around} {R:Result->Shared->Prop} {it:Addr} {fp wr:List Addr} {n:Nat} {P:Nat->Value->Prop} {St:Nat->Heap->Prop} {h0:Heap}
end
section
variable {s:Shared} {prog:Program} {w:World} {A:Around} {E:Value->Shared->Prop}
end
section
variable {X:Cx}
def qgM:List PyData->Option PyData
 | [x,y]=>if SeqAt.shaped x=true/\SeqAt.shaped y=true/\y.depth <= 50 then ob (ltX y x) fun r=>some (if r=true then y else x) else none
 | _=>none
def qgH:List PyData->Option PyData
 | [x,y]=>if SeqAt.shaped x=true/\SeqAt.shaped y=true/\y.depth <= 50 then ob (gtX y x) fun r=>some (if r=true then y else x) else none
 | _=>none
theorem qgN (x y:PyData):qgM [x,y]=if SeqAt.shaped x=true/\SeqAt.shaped y=true/\y.depth <= 50 then ob (ltX y x) fun r=>some (if r=true then y else x) else none:=rfl
theorem qgI (x y:PyData):qgH [x,y]=if SeqAt.shaped x=true/\SeqAt.shaped y=true/\y.depth <= 50 then ob (gtX y x) fun r=>some (if r=true then y else x) else none:=rfl
theorem qgO (i j:Int):qgM [.int i,.int j]=some (.int (if j < i then j else i)):=by
 have c:SeqAt.shaped (.int i)=true/\SeqAt.shaped (.int j)=true/\(PyData.int j).depth <= 50:=⟨rfl,rfl,Nat.zero_le _⟩
 rw [qgN,if_pos c,ltX]
 by_cases h:j < i
 ·rw [if_pos h,decide_eq_true h];rfl
 ·rw [if_neg h,decide_eq_false h];rfl
theorem qgJ (i j:Int):qgH [.int i,.int j]=some (.int (if j > i then j else i)):=by
 have c:SeqAt.shaped (.int i)=true/\SeqAt.shaped (.int j)=true/\(PyData.int j).depth <= 50:=⟨rfl,rfl,Nat.zero_le _⟩
 rw [qgI,if_pos c,gtX]
 by_cases h:j > i
 ·rw [if_pos h,decide_eq_true h];rfl
 ·rw [if_neg h,decide_eq_false h];rfl
end
end L2
namespace L2
open PySem PySem.Spec PyProof.Rows
theorem Vals.back:∀ {vs:List V} {us:List Value} {i:Nat} {u:Value},Vals vs us->us[i]?=some u->∃ v,vs[i]?=some v/\RelV v u
 | _,_,_,_,.nil,h=>by simp at h
 | _,_,0,_,.cons r _,h=>by cases h;exact ⟨_,rfl,r⟩
 | _,_,i + 1,_,.cons _ t,h=>by
  obtain ⟨v,hv,r⟩:=Vals.back t (i:=i) (by simpa using h)
  exact ⟨v,by simpa using hv,r⟩
theorem DenL.back {K:PySem.W.Frag} {H:Hp} {S:Av}:∀ {vs:List V} {ds:List PyData} {i:Nat} {v:V},DenL K H S vs ds->vs[i]?=some v->∃ d,ds[i]?=some d/\Den K H S v d
 | _,_,_,_,.nil,h=>by simp at h
 | _,_,0,_,.cons r _,h=>by cases h;exact ⟨_,rfl,r⟩
 | _,_,i + 1,_,.cons _ t,h=>by
  obtain ⟨v,hv,r⟩:=DenL.back t (i:=i) (by simpa using h)
  exact ⟨v,by simpa using hv,r⟩
end L2
namespace L2
open PySem PySem.Spec PyProof.Rows
section
variable {s:Shared} {prog:Program} {w:World} {A:Around} {E:Value->Shared->Prop}
end
section
variable {X:Cx}
end
end L2
namespace L2
open PySem PySem.Spec PyProof.Rows
section
variable {s:Shared} {prog:Program} {w:World} {A:Around} {E:Value->Shared->Prop}
end
section
variable {X:Cx}
end
end L2
namespace L2
open PySem PySem.Spec PyProof.Rows
section
variable {X:Cx} {tg a b c:Expr} {pos:Pos}
end
end L2
namespace L2
open PySem PySem.Spec PyProof.Rows
section
variable {prog:Program} {w:World} {A:Around} {E:Value->Shared->Prop} {s:Shared}
end
section
variable {X:Cx} {M:List Nat} {a:Expr} {f:Rho->Option PyData} {ts:List Expr} {kk:Nat} {tp apos cpos:Pos}
end
end L2
namespace L2
open PySem PySem.Spec PyProof.Rows
section
variable {X:Cx} {M:List Nat} {a b:Expr} {f fk:Rho->Option PyData} {pos:Pos}
end
end L2
namespace L2
open PySem PySem.Spec PyProof.Rows
theorem Is2.grow {h h':Heap} {ks:K2} {a:Addr} (x:Is2 h ks a) (k:∀ b o,h.get? b=some o->h'.get? b=some o):Is2 h' ks a:=let ⟨as,r⟩:=x;⟨as,Reads.keeps k r⟩
section
variable {prog:Program} {w:World} {A:Around} {E:Value->Shared->Prop} {s:Shared} {D:Addr} {kvs:List (KX×Addr×V)} {ep:Nat} {ks:KX} {b:Addr} {v:V} {key r:Value} {h0:Heap}
end
theorem zX.but {h h':Heap} {D:Addr} {kvs:List (KX×Addr×V)} {ep:Nat} (d:zX D kvs ep h) (k:∀ o,h.get? D=some o->h'.get? D=some o):zX D kvs ep h' :=
 ⟨d.1,d.2.1,d.2.2.imp (fun ⟨xs,r,o,es,g1,g2⟩=>⟨xs,r,o,es,k o g1,g2⟩) fun ⟨xs,r,o,es,g1,g2⟩=>⟨xs,r,o,es,k o g1,g2⟩⟩
section
variable {prog:Program} {w:World} {A:Around} {R:Result->Shared->Prop} {it D:Addr} {fp wr:List Addr} {Pv:Nat->Value->Prop} {St:Nat->Heap->Prop} {h0:Heap}
end
end L2
namespace L2
open PySem PySem.Spec PyProof.Rows
section
variable {prog:Program} {w:World} {A:Around} {E:Value->Shared->Prop} {s:Shared}
end
section
variable {K:PySem.W.Frag} {H:Hp} {S:Av}
end
section
variable {X:Cx} {pins:List (Addr×Obj)} {σ:St} {H:Hp} {s:Shared} {S:Av}
end
end L2
namespace L2
open PySem PySem.Spec PyProof.Rows
section
variable {X:Cx} {G:Gm} {M Mb L:List Nat} {fr:Fr} {a b:Expr} {f fk:Rho->Option PyData} {pos:Pos} {K:PySem.W.Frag} {H:Hp} {S:Av}
end
end L2
namespace L2
open PySem PySem.Spec PyProof.Rows
section
variable {X:Cx} {G:Gm} {M M' Mb L:List Nat} {a:Expr} {f:Rho->Option PyData} {pos tp:Pos}
end
end L2
namespace L2
open PySem PySem.Spec PyProof.Rows
section
variable {X:Cx} {M:List Nat} {a:Expr} {f:Rho->Option PyData}
end
end L2
namespace L2
open PySem PySem.Spec PyProof.Rows
section
variable {X:Cx} {M:List Nat} {a b:Expr} {fa fb:Rho->Option PyData} {pos:Pos}
end
section
variable {s:Shared} {prog:Program} {w:World} {A:Around} {E:Value->Shared->Prop}
end
section
variable {X:Cx}
end
section
variable {s:Shared} {prog:Program} {w:World} {A:Around} {E:Value->Shared->Prop}
end
section
variable {X:Cx}
end
end L2
namespace L2
open PySem
theorem qhy (i:Nat) (f:Rho->Option PyData) (ρ:Rho):qhx i f ρ=takO (decide (i < ρ.length/\ρ.length <= 1000)) (f ρ) i ρ:=by
 unfold qhx ob takO
 by_cases h:i < ρ.length/\ρ.length <= 1000
 ·rw [if_pos h,decide_eq_true h]
  cases f ρ<;>rfl
 ·rw [if_neg h,decide_eq_false h]
def vcO (a:Option PyData) (b:Option (List PyData)):Option (List PyData):=match a,b with | some x,some xs=>if qjR x=true then some (x :: xs) else none | _,_=>none
theorem vC_b (f:Rho->Option PyData) (fs:Rho->Option (List PyData)) (ρ:Rho):vC f fs ρ=vcO (f ρ) (fs ρ):=by
 unfold vC ob vcO
 cases f ρ<;>cases fs ρ<;>rfl
theorem vcO_s (ds es:List PyData):vcO (some (.list ds)) (some es)=some (.list ds :: es):=rfl
def bi2O (a b:Option PyData) (g:PyData->PyData->Option (List PyData)):Option (List PyData):=match a,b with | some x,some y=>g x y | _,_=>none
theorem qkl (fa fb:Rho->Option PyData) (g:PyData->PyData->Option (List PyData)) (ρ:Rho):evI2 fa fb g ρ=bi2O (fa ρ) (fb ρ) g:=by
 unfold evI2 ob bi2O
 cases fa ρ<;>cases fb ρ<;>rfl
theorem qkd (x y:PyData) (g:PyData->PyData->Option (List PyData)):bi2O (some x) (some y) g=g x y:=rfl
def kapO (c k d:Option PyData) (i:Nat) (ρ:Rho):Option Out:=match c,k,d with
 | some c,some k,some d=>ob (qaU c k) fun j=>ob (qaT c j) fun l=>ob (appD l d) fun l'=>some (.nx (ρ.set i (some (qbH c j l'))))
 | _,_,_=>none
theorem qju (i:Nat) (fk f:Rho->Option PyData) (ρ:Rho):qj0 i fk f ρ=kapO (vr i ρ) (fk ρ) (f ρ) i ρ:=by
 unfold qj0 kapO
 cases vr i ρ with
 | none=>rfl
 | some c =>
  cases fk ρ with
  | none=>rfl
  | some k =>
   cases f ρ with
   | some d=>rfl
   | none =>
    show ob (qaU c k) _=none
    cases qaU c k with
    | none=>rfl
    | some j =>
     show ob (qaT c j) _=none
     cases qaT c j<;>rfl
def kclO (c k:Option PyData) (i:Nat) (ρ:Rho):Option Out:=match c,k with
 | some c,some k=>ob (qaU c k) fun j=>ob (qaT c j) fun _=>some (.nx (ρ.set i (some (qbH c j (.list [])))))
 | _,_=>none
theorem qjv (i:Nat) (fk:Rho->Option PyData) (ρ:Rho):qj1 i fk ρ=kclO (vr i ρ) (fk ρ) i ρ:=by
 unfold qj1 kclO
 cases vr i ρ with
 | none=>rfl
 | some c=>cases fk ρ<;>rfl
def nxdO (o:Option PyData) (i:Nat) (ρ:Rho):Option Out:=match o with | some l=>some (.nx (ρ.set i (some l))) | none=>none
theorem qkP (l:PyData) (i:Nat) (ρ:Rho):nxdO (some l) i ρ=some (.nx (ρ.set i (some l))):=rfl
def dpO (d l k:Option PyData) (i:Nat) (ρ:Rho):Option Out:=match d,l,k with | some d,some l,some k=>nxdO (Wv l k d) i ρ | _,_,_=>none
theorem dpO_s (d l k:PyData) (i:Nat) (ρ:Rho):dpO (some d) (some l) (some k) i ρ=nxdO (Wv l k d) i ρ:=rfl
theorem qjt (i:Nat) (fk f:Rho->Option PyData) (ρ:Rho):qbb i fk f ρ=dpO (f ρ) (vr i ρ) (fk ρ) i ρ:=by
 unfold qbb dpO ob
 cases f ρ with
 | none=>rfl
 | some d =>
  cases vr i ρ with
  | none=>rfl
  | some l =>
   cases fk ρ with
   | none=>rfl
   | some k =>
    dsimp only
    unfold nxdO
    cases Wv l k d<;>rfl
def triO (a b c:Option PyData) (r:PyData->PyData->PyData->Option PyData):Option PyData:=match a,b,c with | some x,some y,some z=>r x y z | _,_,_=>none
theorem qlR (x y z:PyData) (r:PyData->PyData->PyData->Option PyData):triO (some x) (some y) (some z) r=r x y z:=rfl
theorem ev3_b (f g h:Rho->Option PyData) (r:PyData->PyData->PyData->Option PyData) (ρ:Rho):ev3 f g h r ρ=triO (f ρ) (g ρ) (h ρ) r:=by
 unfold ev3 triO ob
 cases f ρ<;>cases g ρ<;>cases h ρ<;>rfl
theorem qiB (a b:List PyData) (d:PyData) (i:Nat) (ρ:Rho):kapO (some (.tuple [.list a,.list b])) (some (.int 0)) (some d) i ρ=if a.length < 1000 then some (.nx (ρ.set i (some (.tuple [.list (a ++ [d]),.list b])))) else none:=by
 show ob (appD (.list a) d) _=_
 rw [qdb]
 split<;>rfl
theorem qiC (a b:List PyData) (d:PyData) (i:Nat) (ρ:Rho):kapO (some (.tuple [.list a,.list b])) (some (.int 1)) (some d) i ρ=if b.length < 1000 then some (.nx (ρ.set i (some (.tuple [.list a,.list (b ++ [d])])))) else none:=by
 show ob (appD (.list b) d) _=_
 rw [qdb]
 split<;>rfl
theorem qiD (a b:List PyData) (i:Nat) (ρ:Rho):kclO (some (.tuple [.list a,.list b])) (some (.int 0)) i ρ=some (.nx (ρ.set i (some (.tuple [.list [],.list b])))):=rfl
theorem qiE (a b:List PyData) (i:Nat) (ρ:Rho):kclO (some (.tuple [.list a,.list b])) (some (.int 1)) i ρ=some (.nx (ρ.set i (some (.tuple [.list a,.list []])))):=rfl
end L2
namespace L2
open PySem PySem.Spec PyProof.Rows
theorem Kids.snoc {K:PySem.W.Frag} {H:Hp} {S:Av} {p:Addr} {xs:List V} {es:List PyData} (h:H p=some (.lst xs)) (t:DenL K H S xs es):∀ {qs:List Addr} {ds:List PyData},p∉qs->Kids K H S qs ds->Kids K H S (qs ++ [p]) (ds ++ [.list es])
 | _,_,_,.nil=>.cons h t (fun z=>nomatch z) .nil
 | _,_,n,.cons h' t' n' r=>.cons h' t' (fun z=>(List.mem_append.mp z).elim n' fun z=>n (by rw [List.mem_singleton.mp z];exact .head _)) (Kids.snoc h t (fun z=>n (.tail _ z)) r)
section
variable {X:Cx} {G:Gm} {M M' Mb L:List Nat} {fr:Fr} {f:Rho->Option PyData} {p:Rho->Option Bool} {pos:Pos}
variable {elt iter tg:Expr} {ifs:List Expr} {x:Str} {N':List Str} {px:Pos} {sc:Scope} {n k:Nat} {fi:Rho->Option (List PyData)} {g:PyData->Rho->Option Rho}
end
end L2
namespace L2
open PySem PySem.Spec PyProof.Rows
section
variable {K:PySem.W.Frag} {G:Gm} {M L:List Nat} {H H':Hp} {S:Av} {σ:St} {ρ:Rho} {d:PyData}
theorem OwnS.more (h:OwnS K G M L H S σ ρ) {q:Addr} (hn:H q=none) (e:Same H H') (hq:∃ o,H' q=some o/\Jl o=true):OwnS K G M L H' (insA S q) σ ρ:=by
 have sub:∀ a,H a≠none->insA S q a->S a:=fun a ha z=>by
  rcases z with z | rfl
  ·exact z
  ·exact absurd hn ha
 obtain ⟨F,f⟩:=h.deep
 refine ⟨⟨(h.ds.1.same e).ins hq,h.ds.2.1,fun j d' hj w=>let ⟨v,a,b⟩:=h.ds.2.2 j d' hj w;⟨v,a,(b.sub sub).same e⟩⟩,fun a z=>.inl (h.s0 a z),h.h0.trans e,fun j hj d' w=>?_,h.apart,fun a z=>?_,h.lkd,F,fun j hj d' w=>?_,f.disj,f.flat⟩
 ·obtain ⟨p,a,b,c,n⟩:=h.own j hj d' w
  exact ⟨p,a,(b.sub sub).same e,.inl c,n⟩
 ·rcases z with z | rfl
  ·exact h.bnd a z
  ·exact .inr (.inl (h.h0.free hn))
 ·obtain ⟨p,a,b,c⟩:=f.own j hj d' w
  exact ⟨p,a,(b.sub sub).same e,fun r hr=>⟨.inl (c r hr).1,(c r hr).2⟩⟩
end
section
variable {X:Cx} {G:Gm} {M M' Mb L:List Nat} {fr:Fr} {a b:Expr} {f fk:Rho->Option PyData} {pos lp:Pos}
end
end L2
namespace L2
open PySem PySem.Spec PyProof.Rows
structure Fly (l:List Env) (H H':Hp) (g h B:Heap) (a:Addr) (cls:Value) (t:Addr):Prop where
 fl:Heap.FlyingW B l a cls (.ref t) h
 trk:∀ b u,H' b=some u->∀ o,h.get? b=some o->B.get? b=some o
 old:∀ b o,g.get? b=some o->H b=none->b∉frs l->B.get? b=some o
 dom:∀ b o,g.get? b=some o->b∉frs l->∃ o',B.get? b=some o'
 un:Un (frs l) [] H H' g h
def CX1 (P:Program) (w:World):CXT:=fun outer H s E e s'=>∃ a H' cls t B,e=.ref a/\s'.os=s.os/\AllBare s'.gens/\HOk P w H' s'.heap/\Fly outer H H' s.heap s'.heap B a cls t/\E cls none H'
theorem Qx.ex {P:Program} {w:World} {H:Hp} {h:Heap} {a:Addr} {o:HO} (x:Qx P w H h a o):∃ ob,h.get? a=some ob:=by
 cases o with
 | lst xs=>obtain ⟨_,_,_,_,e⟩:=x;exact ⟨_,e⟩
 | tup xs=>obtain ⟨_,_,_,_,e,_⟩:=x;exact ⟨_,e⟩
 | dK kvs=>obtain ⟨_,_,_,_,o,_,_,e,_⟩:=x;exact ⟨_,e⟩
 | dT kvs=>obtain ⟨_,_,_,_,o,_,_,e,_⟩:=x;exact ⟨_,e⟩
 | set S n=>obtain ⟨o,_,_,_,e,_⟩:=x;exact ⟨_,e⟩
 | ins C dx fs=>obtain ⟨_,_,_,e,_⟩:=x;exact ⟨_,e⟩
 | own y=>obtain ⟨_,e⟩:=x;exact ⟨_,e⟩
 | xd fs=>obtain ⟨_,⟨_,_,_,e,_⟩,_⟩:=x;exact ⟨_,e⟩
 | rng lo hi=>obtain ⟨_,_,_,e⟩:=x;exact ⟨_,e⟩
 | frz ob u=>exact ⟨_,x.1⟩
 | tbl ps=>exact ⟨_,(show h.get? a=some _ from x)⟩
 | met f y=>exact ⟨_,(show h.get? a=some _ from x)⟩
 | ext φ=>exact x.2.1
section
variable {P:Program} {w:World} {l l':List Env} {H H':Hp} {g h h' B:Heap} {a t:Addr} {cls:Value}
theorem Fly.hok (F:Fly l H H' g h B a cls t) (k:HOk P w H' h) (fl':Heap.FlyingW B l' a cls (.ref t) h'):HOk P w H' h':=fun b u e =>
 (k b u e).stay (fun c v hc q=>by
  have:H' c≠none:=by
   rcases hc with z | z
   ·rw [z,e];exact fun y=>nomatch y
   ·rw [z];exact fun y=>nomatch y
  obtain ⟨u',hu⟩:=Option.ne_none_iff_exists'.mp this
  exact fl'.1 _ _ (F.trk c u' hu v q)) (fun _ q=>q) fun _ _ q=>q
theorem Fly.step (F:Fly l H H' g h B a cls t) (k:HOk P w H' h) (fl':Heap.FlyingW B l a cls (.ref t) h') (up:h.UpToSlots h'):Fly l H H' g h' B a cls t where
 fl:=fl'
 trk:=fun b u e o q=>by
  obtain ⟨o1,h1⟩:∃ o1,h.get? b=some o1:=(k b u e).ex
  have h2:=F.trk b u e o1 h1
  have h3:=fl'.1 _ _ h2
  rw [q] at h3
  cases h3
  exact h2
 old:=F.old
 dom:=F.dom
 un:={
  keep:=fun b o e n hb _=>fl'.1 _ _ (F.old b o e n hb)
  slot:=fun b o e n hb hx=>by
   obtain ⟨sl,e1⟩:=F.un.slot b o e n hb hx
   obtain ⟨_,o',e2,nf⟩:=F.fl.2.2.1.mem hb
   rw [e1] at e2
   cases e2
   obtain ⟨sl',e3⟩:=up b _ e1 nf
   exact ⟨sl',e3⟩
  free:=F.un.free
  there:=fun b o e _=>by
   by_cases hb:b∈frs l
   ·obtain ⟨_,o',e2,nf⟩:=F.fl.2.2.1.mem hb
    obtain ⟨sl',e3⟩:=up b _ e2 nf
    exact ⟨_,e3⟩
   ·obtain ⟨o',e'⟩:=F.dom b o e hb
    exact ⟨o',fl'.1 _ _ e'⟩
  tups:=F.un.tups
  frzs:=F.un.frzs
  tbls:=F.un.tbls }
end
def XMade (X:Cx) (pins:List (Addr×Obj)) (G:Gm) (M L:List Nat) (ρ:Rho) (a C:Addr) (s':Shared):Prop :=
 ∃ σ H S s2 args,Inv X pins σ H s2/\OwnS X.K G M L H S σ ρ/\Heap.MadeExcOf s2.heap s'.heap a (.ref C) args/\s'={ s2 with heap:=s'.heap }
def qjM (X:Cx) (pins:List (Addr×Obj)) (G:Gm) (M L:List Nat) (ρ:Rho) (a C:Addr) (s':Shared):Prop :=
 ∃ σ H S s1 H' B t,Inv X pins σ H s1/\OwnS X.K G M L H S σ ρ/\Same H H'/\s'.os=s1.os/\AllBare s'.gens/\HOk X.prog X.w H' s'.heap/\Fly X.stack H H' s1.heap s'.heap B a (.ref C) t
def XCls (K:PySem.W.Frag) (c:Str) (C:Addr):Prop:=PySem.W.nsIn K mainGlobals c=some (some (.ref C))/\xcB K C=true
def XAt (X:Cx) (o:Bool) (pins:List (Addr×Obj)) (G:Gm) (M L:List Nat) (x:PyData) (ρ:Rho) (e:Value) (s':Shared):Prop :=
 ∃ a c C,e=.ref a/\x=excD c .none/\XCls X.K c C/\((o=false/\XMade X pins G M L ρ a C s')\/qjM X pins G M L ρ a C s')
def PDX (X:Cx) (o:Bool) (G:Gm) (M L Mx:List Nat) (st:Stmt) (w:Rho->Option (PyData×Rho)):Prop :=
 ∀ (pins:List (Addr×Obj)) (s:Shared) (σ:St) (H:Hp) (S:Av) (ρ ρ':Rho) (x:PyData),Inv X pins σ H s->OwnS X.K G M L H S σ ρ->w ρ=some (x,ρ')->
  wpAny (model X.prog X.w) X.A (exec st X.env) (fun _ _=>False) (XAt X o pins G Mx L x ρ') s
def PDXs (X:Cx) (o:Bool) (G:Gm) (M L Mx:List Nat) (st:List Stmt) (w:Rho->Option (PyData×Rho)):Prop :=
 ∀ (pins:List (Addr×Obj)) (s:Shared) (σ:St) (H:Hp) (S:Av) (ρ ρ':Rho) (x:PyData),Inv X pins σ H s->OwnS X.K G M L H S σ ρ->w ρ=some (x,ρ')->
  wpAny (model X.prog X.w) X.A (execs st X.env) (fun _ _=>False) (XAt X o pins G Mx L x ρ') s
section
variable {X:Cx} {pins:List (Addr×Obj)} {σ:St} {H H':Hp} {s s':Shared} {G:Gm} {S:Av}
theorem Inv.stkLoc (I:Inv X pins σ H s) {b:Addr} {o:Obj} (e:X.s₀.heap.get? b=some o) (h:b∉X.fs):b∉frs X.stack:=fun z=>by
 rcases List.mem_cons.mp (I.stkSub b z) with y | y
 ·exact absurd (Heap.lt_size e) (by rw [y];exact Nat.not_lt.mpr I.ok.above)
 ·exact h y
theorem qdm {E:Value->Shared->Prop} {Q:Unit->Shared->Prop} {h:Heap} {a:Addr} {cls:Value} {args:List Value} (I:Inv X pins σ H s) (hx:Heap.MadeExcOf s.heap h a cls args) (hst:X.stack=X.env :: X.outer) (hfr:X.env.frame=some X.env.locals) (hex:X.ex=[])
  (hq:∀ h' t,HOk X.prog X.w H h'->Fly X.outer X.H₀ H X.s₀.heap h' (PySem.W.hideAll s.heap (frs X.stack)) a cls t->Q () { s with heap:=h' }):wpAny (model X.prog X.w) X.A (leaving X.env (.ref a)) Q E { s with heap:=h }:=by
 have noex:∀ b,b∉X.ex:=fun b z=>by rw [hex] at z;cases z
 have hin:∀ env∈X.env :: X.outer,∀ b,env.frame=some b->b∈frs X.stack:=fun env he b hb=>by
  rw [hst];exact List.mem_filterMap.mpr ⟨env,he,hb⟩
 have hF:s.heap.FunFrames X.base (X.env :: X.outer):=by have:=I.stack;rw [hst] at this;exact this
 have fr:X.A.frames=some (X.env :: X.outer):=by rw [I.ok.frames,hst]
 refine wpAny_leaves_madeW (h:=s.heap) fr hfr (fun b o q=>PySem.W.of_hideAll _ q) (PySem.W.funFrames_hide hF hin) hx fun h' t x1 x2 x3 x4=>?_
 have hB:∀ b o,s.heap.get? b=some o->b∉frs X.stack->(PySem.W.hideAll s.heap (frs X.stack)).get? b=some o:=fun b o q n=>PySem.W.hideAll_get _ q n
 have trk:∀ b u,H b=some u->∀ o,s.heap.get? b=some o->(PySem.W.hideAll s.heap (frs X.stack)).get? b=some o:=fun b u e o q=>hB b o q fun z=>by rw [I.stkFree b z] at e;cases e
 have old:∀ b o,X.s₀.heap.get? b=some o->X.H₀ b=none->b∉frs X.outer->(PySem.W.hideAll s.heap (frs X.stack)).get? b=some o:=fun b o e n hb =>
  hB b o (I.base.keep b o e n hb (noex b)) (I.stkLoc e hb)
 have dom:∀ b o,X.s₀.heap.get? b=some o->b∉frs X.outer->∃ o',(PySem.W.hideAll s.heap (frs X.stack)).get? b=some o':=fun b o e hb=>by
  obtain ⟨o',e'⟩:=I.base.there b o e (noex b)
  exact ⟨o',hB b o' e' (I.stkLoc e hb)⟩
 have frm:∀ b o,s.heap.get? b=some o->b∈frs X.stack->∃ sl,h'.get? b=some { o with slots:=sl }:=fun b o e hb=>by
  obtain ⟨_,o',e2,nf⟩:=hF.mem (show b∈(X.env :: X.outer).filterMap (·.frame) from by rw [← hst];exact hb)
  rw [e] at e2
  cases e2
  exact x4 b o (hx.keeps b o e) nf
 have hsub:∀ b∈frs X.outer,b∈frs X.stack:=fun b hb=>by rw [hst];show b∈(X.env :: X.outer).filterMap (·.frame);rw [List.filterMap_cons,hfr];exact .tail _ hb
 refine hq h' t (fun b u e=>(I.hok b u e).stay (fun c v hc q=>?_) (fun _ q=>q) fun _ _ q=>q) ⟨x1,fun b u e o q=>?_,old,dom,?_⟩
 ·have:H c≠none:=by
   rcases hc with z | z
   ·rw [z,e];exact fun y=>nomatch y
   ·rw [z];exact fun y=>nomatch y
  obtain ⟨u',hu⟩:=Option.ne_none_iff_exists'.mp this
  exact x1.1 _ _ (trk c u' hu v q)
 ·obtain ⟨o1,h1⟩:=(I.hok b u e).ex
  have h2:=trk b u e o1 h1
  have h3:=x1.1 _ _ h2
  rw [q] at h3
  cases h3
  exact h2
 ·exact {
      keep:=fun b o e n hb _=>x1.1 _ _ (old b o e n hb)
      slot:=fun b o e n hb _=>by
       obtain ⟨sl,e1⟩:=I.base.slot b o e n hb (noex b)
       obtain ⟨sl',e2⟩:=frm b _ e1 (hsub b hb)
       exact ⟨sl',e2⟩
      free:=fun b o e n _=>I.base.free b o e n (noex b)
      there:=fun b o e _=>by
       obtain ⟨o',e'⟩:=I.base.there b o e (noex b)
       by_cases hb:b∈frs X.stack
       ·obtain ⟨sl,e2⟩:=frm b o' e' hb
        exact ⟨_,e2⟩
       ·exact ⟨o',x1.1 _ _ (hB b o' e' hb)⟩
      tups:=I.base.tups
      frzs:=I.base.frzs
      tbls:=I.base.tbls }
theorem qdl {E:Value->Shared->Prop} {Q:Unit->Shared->Prop} {B:Heap} {a t:Addr} {cls:Value} (I:Inv X pins σ H s) (ok:HOk X.prog X.w H' s'.heap) (F:Fly X.stack H H' s.heap s'.heap B a cls t) (hst:X.stack=X.env :: X.outer) (hfr:X.env.frame=some X.env.locals) (hex:X.ex=[])
  (hq:∀ h',HOk X.prog X.w H' h'->Fly X.outer X.H₀ H' X.s₀.heap h' B a cls t->Q () { s' with heap:=h' }):wpAny (model X.prog X.w) X.A (leaving X.env (.ref a)) Q E s':=by
 have noex:∀ b,b∉X.ex:=fun b z=>by rw [hex] at z;cases z
 have fr:X.A.frames=some (X.env :: X.outer):=by rw [I.ok.frames,hst]
 have fl:Heap.FlyingW B (X.env :: X.outer) a cls (.ref t) s'.heap:=by have:=F.fl;rw [hst] at this;exact this
 refine wpAny_leaves_onW fr hfr fl fun h' x1 up=>?_
 have hok:=F.hok ok x1
 have hsub:∀ b∈frs X.outer,b∈frs X.stack:=fun b hb=>by rw [hst];show b∈(X.env :: X.outer).filterMap (·.frame);rw [List.filterMap_cons,hfr];exact .tail _ hb
 have old:∀ b o,X.s₀.heap.get? b=some o->X.H₀ b=none->b∉frs X.outer->B.get? b=some o:=fun b o e n hb=>F.old b o (I.base.keep b o e n hb (noex b)) (I.base.free b o e n (noex b)) (I.stkLoc e hb)
 have dom:∀ b o,X.s₀.heap.get? b=some o->b∉frs X.outer->∃ o',B.get? b=some o':=fun b o e hb=>by
  obtain ⟨o',e'⟩:=I.base.there b o e (noex b)
  exact F.dom b o' e' (I.stkLoc e hb)
 have frm:∀ b o,s'.heap.get? b=some o->b∈frs X.stack->∃ sl,h'.get? b=some { o with slots:=sl }:=fun b o e hb=>by
  obtain ⟨_,o',e2,nf⟩:=F.fl.2.2.1.mem hb
  rw [e] at e2
  cases e2
  exact up b o e nf
 refine hq h' hok ⟨x1,fun b u e o q=>?_,old,dom,?_⟩
 ·obtain ⟨o1,h1⟩:=(ok b u e).ex
  have h2:=F.trk b u e o1 h1
  have h3:=x1.1 _ _ h2
  rw [q] at h3
  cases h3
  exact h2
 ·exact {
      keep:=fun b o e n hb _=>x1.1 _ _ (old b o e n hb)
      slot:=fun b o e n hb _=>by
       obtain ⟨sl,e1⟩:=I.base.slot b o e n hb (noex b)
       obtain ⟨sl1,e2⟩:=F.un.slot b _ e1 (I.base.free b o e n (noex b)) (hsub b hb) (by simp)
       obtain ⟨sl',e3⟩:=frm b _ e2 (hsub b hb)
       exact ⟨sl',e3⟩
      free:=fun b o e n _=>by
       obtain ⟨o',e'⟩:=I.base.there b o e (noex b)
       exact F.un.free b o' e' (I.base.free b o e n (noex b)) (by simp)
      there:=fun b o e _=>by
       obtain ⟨o',e'⟩:=I.base.there b o e (noex b)
       obtain ⟨o2,e2⟩:=F.un.there b o' e' (by simp)
       by_cases hb:b∈frs X.stack
       ·obtain ⟨sl,e3⟩:=frm b o2 e2 hb
        exact ⟨_,e3⟩
       ·obtain ⟨o3,e3⟩:=F.dom b o' e' hb
        exact ⟨o3,x1.1 _ _ e3⟩
      tups:=fun b xs e=>F.un.tups b xs (I.base.tups b xs e)
      frzs:=fun b o u e=>F.un.frzs b o u (I.base.frzs b o u e)
      tbls:=fun b ps e=>by
       obtain ⟨m1,e1⟩:=I.base.tbls b ps e
       obtain ⟨m2,e2⟩:=F.un.tbls b _ e1
       exact ⟨m1 ++ m2,by rw [e2,Array.append_assoc]⟩ }
end
end L2
namespace L2
open PySem PySem.Spec PyProof.Rows
theorem qim {K:PySem.W.Frag} {h:Heap} {C:Addr} {bmB:List Value} {newId:String} (X:K.In h) (q:PySem.W.excIn K C bmB newId=true) :
  ∃ bm N nm qn bs hd sn sub ab col dd k0 k1 k2 k3 k5 mN,h.get? C=some (excClassObj nm qn C N bs bm hd sn sub ab col dd k0 k1 k2 k3 k5 newId)/\h.Ns N mN/\mN "__init__" = none/\OwnTail h bmB bm:=by
 unfold PySem.W.excIn at q
 split at q
 case h_2=>cases q
 rename_i dd cd sl lk;split at q
 case h_2=>cases q
 rename_i C' bm k0 k1 k2 k3 n k5 em es
 rw [Bool.and_eq_true,Bool.and_eq_true,Bool.and_eq_true,Bool.and_eq_true,Bool.and_eq_true] at q
 obtain ⟨⟨⟨⟨⟨c1,c2⟩,c3⟩,c4⟩,c5⟩,c6⟩:=q
 replace c1:=beq_iff_eq.mp c1
 replace c2:=beq_iff_eq.mp c2
 replace c6:=beq_iff_eq.mp c6
 obtain ⟨nm,bs,mro,ns,qn,hd,sn,sub,ab,col,del⟩:=cd
 obtain ⟨l⟩:=sl
 have hdel:del=false:=by cases del with | true=>cases c3 | false=>rfl
 subst c1 c2 hdel
 dsimp only at em es c5 c6;subst em es
 exact ⟨bm,ns,nm,qn,bs,hd,sn,sub,ab,col,dd,k0,k1,k2,k3,k5,_,X _ _ lk,.of_isNs (PySem.W.isNs_of_in X c5),PySem.W.nsMap_none_of_in X c5 c6,PySem.W.tail_of_in X c4⟩
def xNo:Rho->Option (PyData×Rho):=fun _=>none
def xSeq (u:Rho->Option Out) (w1 w2:Rho->Option (PyData×Rho)) (ρ:Rho):Option (PyData×Rho):=match w1 ρ with
 | some r=>some r
 | none=>match u ρ with
  | some (.nx ρ')=>w2 ρ'
  | _=>none
def xIf (p:Rho->Option Bool) (w1 w2:Rho->Option (PyData×Rho)) (ρ:Rho):Option (PyData×Rho):=ob (p ρ) fun b=>if b=true then w1 ρ else w2 ρ
def qdH (c:Str) (fs:Rho->Option (List PyData)) (ρ:Rho):Option (PyData×Rho):=ob (fs ρ) fun ds=>if ds.length <= 1000 then some (excD c .none,ρ) else none
def qc8 (n:Nat) (fs:Rho->Option (List PyData)) (h:List PyData->Option PyData) (ρ:Rho):Option (PyData×Rho):=ob (fs ρ) fun ds=>if ds.length=n then ob (h ds) fun x=>some (x,ρ) else none
def spX (K:PySem.W.Frag) (n:Nat) (f:List PyData->Option PyData):Sp:=fun vs H _ E=>∃ S ds x,Dm S H/\DenL K H S vs ds/\ds.length=n/\f ds=some x/\∀ c C H',x=excD c .none->XCls K c C->Same H H'->E (.ref C) none H'
structure KnownR (P:Program) (w:World) (K:PySem.W.Frag) (mg:Str->Option Value) (base:Heap) (x:Str) (n k:Nat) (h:List PyData->Option PyData):Prop where
 ex:∃ (f:Addr) (fd:FuncData) (ps:List Str),FnOk P w K mg base (CX1 P w) k f fd ps (spX K n h)/\mg x=some (.ref f)/\PySem.W.keepIn K (.ref f)=true/\Binds K fd ps []
section
variable {X:Cx} {G:Gm} {M M1 M' Mb L Mx:List Nat} {fr:Fr} {a c:Expr} {es:List Expr} {fs:Rho->Option (List PyData)} {p:Rho->Option Bool} {pos:Pos} {s1:Stmt} {ss st1 st2:List Stmt} {u:Rho->Option Out} {w w1 w2:Rho->Option (PyData×Rho)} {x:Str} {o:Bool}
theorem qex:PDXs X o G M L Mx ss xNo:=fun _ _ _ _ _ _ _ _ _ _ e=>nomatch e
theorem qew (h:PDX X o G M L Mx s1 w):PDXs X o G M L Mx [s1] w:=fun pins s σ H S ρ ρ' x I os e=>wpAny_execs_cons (thn (h pins s σ H S ρ ρ' x I os e) fun _ _ z=>z.elim)
theorem qg8 (h1:PDS X G M L M1 Mb fr s1 u) (x1:PDX X o G M L Mx s1 w1) (x2:PDXs X o G M1 L Mx ss w2) (hn:∀ e s,X.xe e s->False:=by exact fun _ _ z=>z):PDXs X o G M L Mx (s1 :: ss) (xSeq u w1 w2):=by
 intro pins s σ H S ρ ρ' x I os e
 unfold xSeq at e
 cases e1:w1 ρ with
 | some r =>
  rw [e1] at e
  cases e
  exact wpAny_execs_cons (thn (x1 pins s σ H S ρ ρ' x I os e1) fun _ _ z=>z.elim)
 | none =>
  rw [e1] at e
  cases e2:u ρ with
  | none=>rw [e2] at e;cases e
  | some o' =>
   rw [e2] at e
   cases o' with
   | nx ρ1 =>
    refine wpAny_execs_cons (wpAny_mono (h1 pins s σ H { nx:=fun σ' H'=>∃ S',OwnS X.K G M1 L H' S' σ' ρ1,rt:=fun _ _=>False } I ⟨S,ρ,_,os,e2,fun σ' H' S' os'=>⟨S',os'⟩⟩) (fun f s1 q=>?_) fun e s z=>(hn e s z).elim)
    cases f with
    | next=>obtain ⟨σ',H',I',S',os'⟩:=q;exact x2 pins s1 σ' H' S' ρ1 ρ' x I' os' e
    | ret v=>obtain ⟨_,_,_,_,_,z⟩:=q;exact z.elim
    | brk=>obtain ⟨_,_,_,z⟩:=q;exact z.elim
    | cont=>obtain ⟨_,_,_,z⟩:=q;exact z.elim
   | rt d=>cases e
   | bk d=>cases e
   | ct d=>cases e
theorem qk6 (hc:PDT X [] c p) (x1:PDXs X o G M L Mx st1 w1) (x2:PDXs X o G M L Mx st2 w2) (hn:∀ e s,X.xe e s->False:=by exact fun _ _ z=>z):PDX X o G M L Mx (.If c st1 st2 pos) (xIf p w1 w2):=by
 intro pins s σ H S ρ ρ' x I os e
 obtain ⟨d,e1,e⟩:=qj e
 refine wpAny_If (wpAny_mono (hc pins s σ H (fun b H1=>b=d/\Same H H1) I ⟨G.S0,ρ,d,os.den,e1,fun H1 g1=>⟨rfl,g1⟩⟩) (fun b s1 ⟨H1,I1,hb,g1⟩=>?_) fun e s z=>(hn e s z).elim)
 subst hb
 cases b with
 | true=>rw [if_pos rfl] at e;exact x1 pins s1 σ H1 S ρ ρ' x I1 (os.same g1) e
 | false=>rw [if_neg (by decide)] at e;exact x2 pins s1 σ H1 S ρ ρ' x I1 (os.same g1) e
theorem qfg {C:Addr} {k:Nat} {bmB:List Value} {newId initId T:String} {np cpos:Pos} (FB:ExcBaseFacts T newId initId bmB) (hr:Room k X.A) (hg:Gl X x) (hm:X.mg x=some (.ref C)) (hc:XCls X.K x C) (hx:PySem.W.excIn X.K C bmB newId=true) (ha:PDA X M (a :: es) fs)
  (hdb:(x == ("__debug__" : Str))=false:=by decide +kernel) (he:starEach (a :: es) X.env=(false,eval a X.env) :: starEach es X.env:=by rfl) (hpl:(backTo cpos (starEach es X.env)).any (·.1)=false:=by rfl)
  (hn:∀ e s,X.xe e s->False:=by exact fun _ _ z=>z):PDX X false G M L M (.Raise (some (.Call (.Name x np) (a :: es) [] cpos)) none pos) (qdH x fs):=by
 intro pins s σ H S ρ ρ' d I os e
 obtain ⟨ds,e1,e⟩:=qj e
 have e:(if ds.length <= 1000 then some (excD x .none,ρ) else none)=some (d,ρ'):=e
 split at e
 case isFalse=>cases e
 rename_i hl
 cases e
 obtain ⟨bm,N,nm,qn,bs,hd,sn,sub,ab,col,dd,k0,k1,k2,k3,k5,mN,hC,hN,hni,TL⟩:=qim I.mod.kin hx
 refine wpAny_Raise_call_subT (C:=C) (nm:=nm) (q:=qn) (N:=N) (bs:=bs) (bm:=bm) (hdct:=hd) (sn:=sn) (sub:=sub) (ab:=ab) (col:=col) (dd:=dd) (k0:=k0) (k1:=k1) (k2:=k2) (k3:=k3) (k5:=k5) FB (mN:=mN) (TL.hasType FB.hasBase) hr.hd
  (by rw [he];show (false || (backTo cpos (starEach es X.env)).any (·.1))=false;rw [hpl];rfl) hni (JF I hg hm ⟨rfl,?_⟩ hdb)
 have ha':=ha cpos pins s σ H (fun vs H1=>Same H H1/\DenL X.K H1 S vs ds) I ⟨S,ρ,ds,os.ds,e1,fun vs H1 g1 d1=>⟨g1,d1⟩⟩
 rw [he] at ha' ⊢
 refine Calls.evalArgs_plain (wpAny_mono ha' (fun us s2 ⟨vs,H1,I1,r,g1,d1⟩=>⟨rfl,?_,I1.bk _ _ hC,hN.keeps I1.bk,TL.keeps I1.bk,fun h' e hm'=>?_⟩) fun e s z=>(hn e s z).elim)
 ·show us.length <= sizeLine
  rw [← r.length,d1.length]
  exact Nat.le_of_lt (zq hl)
 ·exact ⟨e,x,C,rfl,rfl,hc,.inl ⟨rfl,σ,H1,S,s2,us,I1,os.same g1,hm',rfl⟩⟩
theorem qil {p:Pos} {n k k':Nat} {h:List PyData->Option PyData} (F:KnownR X.prog X.w X.K X.mg X.base x n k h) (hr:Room k' X.A) (hk:k <= k') (hg:Gl X x) (ha:PDA X M (a :: es) fs)
  (hdb:(x == ("__debug__" : Str))=false:=by decide +kernel) (he:starEach (a :: es) X.env=(false,eval a X.env) :: starEach es X.env:=by rfl) (hpl:(backTo pos (starEach es X.env)).any (·.1)=false:=by rfl)
  (hn:∀ e s,X.xe e s->False:=by exact fun _ _ z=>z) {pins:List (Addr×Obj)} {s:Shared} {σ:St} {H:Hp} {S:Av} {ρ ρ':Rho} {d:PyData} (I:Inv X pins σ H s) (os:OwnS X.K G M L H S σ ρ) (e:qc8 n fs h ρ=some (d,ρ')) :
  wpAny (model X.prog X.w) X.A (eval (.Call (.Name x p) (a :: es) [] pos) X.env) (fun _ _=>False) (XAt X o pins G M L d ρ') s:=by
 obtain ⟨ds,e1,e⟩:=qj e
 have e:(if ds.length=n then ob (h ds) fun x=>some (x,ρ) else none)=some (d,ρ'):=e
 split at e
 case isFalse=>cases e
 rename_i hl
 obtain ⟨y,e2,e⟩:=qj e
 cases e
 obtain ⟨f,fd,ps,F,hm,kp,hb⟩:=F.ex
 refine wpAny_Call_Name_kw (JF I hg hm ?_ hdb)
 have ha':=ha pos pins s σ H (fun vs H1=>Same H H1/\DenL X.K H1 S vs ds) I ⟨S,ρ,ds,os.ds,e1,fun vs H1 g1 d1=>⟨g1,d1⟩⟩
 refine PySem.W.callWith_K (h₀:=X.base) I.ok.mod.kin kp (wpAny_mono ha' (fun us s1 ⟨vs,H1,I1,r,g1,d1⟩=>⟨I1.kIn,?_⟩) fun e s z=>(hn e s z).elim) he hpl
 have hsp:spX X.K n h vs H1 (fun _ _=>False) (fun cls _ H'=>∃ cn C,cls=.ref C/\d=excD cn .none/\XCls X.K cn C/\Same H1 H'):=⟨S,ds,d,os.ds.1.same g1,d1,hl,e2,fun cn C H' ed hC g=>⟨cn,C,rfl,ed,hC,g⟩⟩
 have hlen:(us ++ []).length=ps.length:=by rw [List.append_nil,← r.length];exact F.len _ _ _ _ hsp
 refine wpAny_call (codeAny_mono (F.run X.A X.stack s1 H1 ⟨us,[]⟩ us vs _ _ (hr.mono hk) I1.env0 (by have:=hb s1 us I1.kIn hlen;rwa [List.append_nil] at this) r hsp) fun r s' hq=>?_)
 cases r with
 | error e =>
  obtain ⟨a,H',cls,t,B,rfl,os',bare,ok,fl,cn,C,rfl,rfl,hC,g⟩:=hq
  exact ⟨a,cn,C,rfl,rfl,hC,.inr ⟨σ,H1,S,s1,H',B,t,I1,os.same g1,g,os',bare,ok,fl⟩⟩
 | ok fl =>
  cases fl with
  | ret u=>obtain ⟨_,_,_,_,_,_,_,z⟩:=hq;exact z.elim
  | next=>exact False.elim hq
  | brk=>exact False.elim hq
  | cont=>exact False.elim hq
theorem qg9 {p cpos:Pos} {n k k':Nat} {h:List PyData->Option PyData} (F:KnownR X.prog X.w X.K X.mg X.base x n k h) (hr:Room k' X.A) (hk:k <= k') (hg:Gl X x) (ha:PDA X M (a :: es) fs)
  (hdb:(x == ("__debug__" : Str))=false:=by decide +kernel) (he:starEach (a :: es) X.env=(false,eval a X.env) :: starEach es X.env:=by rfl) (hpl:(backTo cpos (starEach es X.env)).any (·.1)=false:=by rfl)
  (hn:∀ e s,X.xe e s->False:=by exact fun _ _ z=>z) (hsw:swapsWith (.Call (.Name x p) (a :: es) [] cpos) none pos.line X.env=pure false:=by rfl):PDX X o G M L M (.Expr (.Call (.Name x p) (a :: es) [] cpos) pos) (qc8 n fs h) :=
 fun pins s σ H S ρ ρ' d I os e=>wpAny_Expr_any (thn (qil F hr hk hg ha hdb he hpl hn I os e) fun _ _ z=>z.elim) I.quiet hsw
theorem XAt.drop {pins:List (Addr×Obj)} {d:PyData} {ρ:Rho} {e:Value} {s':Shared} (h1:subB Mx M=true) (h2:subB L Mx=true) (q:XAt X o pins G M L d ρ e s'):XAt X o pins G Mx L d ρ e s':=by
 obtain ⟨a,c,C,rfl,rfl,hC,q⟩:=q
 refine ⟨a,c,C,rfl,rfl,hC,?_⟩
 rcases q with ⟨ho,σ,H,S,s2,args,I,os,m,e⟩ | ⟨σ,H,S,s1,H',B,t,I,os,g,r⟩
 ·obtain ⟨S',os'⟩:=os.frz (Wh h1) fun i hi _=>qak h2 i hi
  exact .inl ⟨ho,σ,H,S',s2,args,I,os',m,e⟩
 ·obtain ⟨S',os'⟩:=os.frz (Wh h1) fun i hi _=>qak h2 i hi
  exact .inr ⟨σ,H,S',s1,H',B,t,I,os',g,r⟩
end
section
variable {P:Program} {w:World} {K:PySem.W.Frag} {mg:Str->Option Value} {base:Heap}
def xOut (w:Rho->Option (PyData×Rho)) (n:Nat) (ds:List PyData):Option PyData:=ob (w (rho0 n ds)) fun r=>some r.1
theorem FunG.raises {x qual:Str} {st:Stmt} {f:Addr} {fd:FuncData} {N ps:List Str} {k n:Nat} {wx:Rho->Option (PyData×Rho)} {Mx:List Nat} (F:FunG K x qual st f fd) (S:FnScope N ps (qb st)) (hn:ps.length=n)
  (hbody:∀ (cdv:Value) (A:Around) (outer:List Env) (s:Shared) (H:Hp) (E:XK),Room k (A.deeper (envOfC qual (qb st) s.heap.objs.size f cdv))->∀ G:Gm,
   PDXs (cxOf CX0 P w K mg base N qual (qb st) f cdv A outer s H E).nox false G [] [] Mx (qJ st) wx) :
  FnOk P w K mg base (CX1 P w) (k + 1) f fd ps (spX K n (xOut wx N.length)):=by
 obtain ⟨oc,dV,od,kV,doc,pm,an,cdv,ct,osl,rfl,lk,hcd⟩:=F.ex
 refine qgd lk hcd S (fun vs H Q E h=>?_) fun A outer s H vs Q E hr h=>?_
 ·obtain ⟨_,ds,_,_,h1,h2,_⟩:=h
  rw [h1.length,h2,hn]
 ·obtain ⟨Sv,ds,x,m,h1,h2,e,q⟩:=h
  obtain ⟨⟨d,ρ'⟩,e1,e⟩:=qj e
  cases e
  refine ⟨fun _ σ' H'=>σ'=start N vs/\H'=H,fun pins s1 σ' H' D I h=>?_,rfl,rfl⟩
  obtain ⟨rfl,rfl⟩:=h
  refine wpAny_mono (hbody cdv A outer s H' E hr (G0 H' Sv) pins s1 _ H' Sv _ ρ' _ (I.wish _) (OwnS.start m h1 N) e1) (fun _ _ z=>z.elim) fun ev s' hx=>?_
  obtain ⟨a,c',C',rfl,hd,hC',hx⟩:=hx
  show wpAny _ _ (leaving _ _) _ _ _
  rcases hx with ⟨_,σ2,H2,S2,s2,args,I2,os2,hm,hs⟩ | ⟨σ2,H2,S2,s2,H3,B,t,I2,os2,g,os',bare,ok,fl⟩
  ·have I3:Inv (cxOf (CX1 P w) P w K mg base N qual (qb st) f cdv A outer s H' E) pins σ2 H2 s2:=I2.unwish.wish _
   rw [hs]
   refine qdm I3 hm rfl rfl rfl fun h' t ok fl=>?_
   exact ⟨a,H2,.ref C',t,_,rfl,I3.os,I3.bare,ok,fl,q c' C' H2 hd hC' os2.h0⟩
  ·have I3:Inv (cxOf (CX1 P w) P w K mg base N qual (qb st) f cdv A outer s H' E) pins σ2 H2 s2:=I2.unwish.wish _
   refine qdl I3 ok fl rfl rfl rfl fun h' ok' fl'=>?_
   exact ⟨a,H3,.ref C',t,B,rfl,os'.trans I3.os,bare,ok',fl',q c' C' H3 hd hC' (os2.h0.trans g)⟩
theorem Fun.raises {x qual:Str} {st:Stmt} {f:Addr} {fd:FuncData} {N ps:List Str} {k n:Nat} {wx:Rho->Option (PyData×Rho)} {Mx:List Nat} (F:Fun K x qual st f fd) (S:FnScope N ps (qb st)) (hn:ps.length=n)
  (hbody:∀ (cdv:Value) (A:Around) (outer:List Env) (s:Shared) (H:Hp) (E:XK),Room k (A.deeper (envOfC qual (qb st) s.heap.objs.size f cdv))->∀ G:Gm,
   PDXs (cxOf CX0 P w K mg base N qual (qb st) f cdv A outer s H E).nox false G [] [] Mx (qJ st) wx) :
  FnOk P w K mg base (CX1 P w) (k + 1) f fd ps (spX K n (xOut wx N.length)):=F.g.raises S hn hbody
end
end L2
namespace L2
open PySem PySem.Spec PyProof.Rows
abbrev Cx.mk1 (X:Cx) (e:Value):Cx:={ X with A:=X.A.mark (some e),calm:=false }
def caught (cs:List Str):PyData->Bool
 | .dict ((.str c,_) :: _)=>cs.contains c
 | _=>false
def qgU (i:Nat):Out->Out
 | .nx ρ=>.nx (ρ.set i none)
 | .rt d=>.rt d
 | .bk ρ=>.bk (ρ.set i none)
 | .ct ρ=>.ct (ρ.set i none)
def sTry (u:Rho->Option Out) (w:Rho->Option (PyData×Rho)) (cs:List Str) (i:Nat) (uh:Rho->Option Out) (ρ:Rho):Option Out:=match w ρ with
 | some (x,ρ')=>if caught cs x=true then ob (uh (ρ'.set i (some x))) fun o=>some (qgU i o) else none
 | none=>u ρ
section
variable {X:Cx} {pins:List (Addr×Obj)} {σ:St} {H H':Hp} {s s':Shared} {G:Gm} {S:Av} {M L:List Nat} {ρ:Rho}
theorem Inv.mk1 (I:Inv X pins σ H s) (e:Value):Inv (X.mk1 e) pins σ H s :=
 ⟨⟨I.ok.mod,I.ok.kind,I.ok.glob,I.ok.blt,I.ok.above,I.ok.inj,I.ok.has,I.ok.cab,(fun z=>nomatch z),I.ok.frames,I.ok.stk,I.ok.exf,I.ok.bs,I.ok.bsz,I.ok.noex,I.ok.exfs,I.ok.funs,I.ok.frf⟩,I.os,I.bare,I.base,I.loc,I.cell,I.free,I.freeC,I.pin,I.hok,I.len⟩
theorem Inv.unmk1 {e:Value} (ok:X.Ok) (I:Inv (X.mk1 e) pins σ H s):Inv X pins σ H s:=⟨ok,I.os,I.bare,I.base,I.loc,I.cell,I.free,I.freeC,I.pin,I.hok,I.len⟩
theorem OwnS.del {i:Nat} (h:OwnS X.K G M L H S σ ρ) (hM:Out0 M i):OwnS X.K G M L H S (σ.set i none) (ρ.set i none):=by
 have back:∀ {j:Nat} {d:PyData},(ρ.set i none)[j]?=some (some d)->j≠i/\ρ[j]?=some (some d):=fun {j d} e=>by
  by_cases hj:i=j
  ·subst hj
   rw [List.getElem?_set] at e
   split at e
   ·split at e<;>cases e
   ·exact absurd rfl ‹_›
  ·rw [List.getElem?_set_ne hj] at e
   exact ⟨Ne.symm hj,e⟩
 have fwd:∀ {j:Nat},j≠i->(σ.set i none)[j]?=σ[j]?:=fun {j} hj=>List.getElem?_set_ne (Ne.symm hj)
 have keep:∀ {j:Nat},j∈M->j≠i:=fun {j} hj z=>hM.1 (z ▸ hj)
 have has:∀ {j:Nat},Has (ρ.set i none) j->Has ρ j:=fun {j} ⟨d,e⟩=>⟨d,(back e).2⟩
 obtain ⟨ds,s0,h0,own,apart,bnd,lkd,F,⟨d1,d2,d3⟩⟩:=h
 refine ⟨⟨ds.1,by rw [List.length_set,List.length_set];exact ds.2.1,fun j d n e=>?_⟩,s0,h0,fun j hj d e=>?_,fun j hj k hk d e p e1 e2 e3 e4=>?_,bnd,fun j hj=>?_,F,fun j hj d e=>?_,fun j hj k hk a1 a2=>d2 j hj k hk (has a1) (has a2),fun j hj k hk a1 a2 p e=>?_⟩
 ·obtain ⟨nj,e⟩:=back e
  rw [fwd nj]
  exact ds.2.2 j d n e
 ·obtain ⟨nj,e⟩:=back e
  rw [fwd nj]
  exact own j hj d e
 ·obtain ⟨n1,e1⟩:=back e1
  obtain ⟨n2,e2⟩:=back e2
  rw [fwd n1] at e3
  rw [fwd n2] at e4
  exact apart j hj k hk d e p e1 e2 e3 e4
 ·obtain ⟨a1,a2⟩:=lkd j hj
  exact ⟨a1,by rw [List.getElem?_set_ne (Ne.symm (keep a1.1))];exact a2⟩
 ·obtain ⟨nj,e⟩:=back e
  rw [fwd nj]
  exact d1 j hj d e
 ·rw [fwd (keep hj.1)] at e
  exact d3 j hj k hk (has a1) (has a2) p e
theorem Inv.gone {i:Nat} {x:Str} {m:Str->Option Value} {h':Heap} {v:Option Value} {t':Nat} (I:Inv X pins σ H s) (hN:X.N.Nodup) (hi:X.N[i]?=some x) (hn:s.heap.Ns X.env.locals m)
  (hl:∀ (j:Nat) (y:Str) (w:V),X.N[j]?=some y->σ[j]?=some (some w)->Vis X.env.scope y->∃ u,RelV w u/\Look X.env s.heap m y u) (hn':h'.Ns X.env.locals (fun y=>if y=x then v else m y)) (hs:Heap.SameBut X.env.locals s.heap h') :
  Inv X pins (σ.set i none) H { s with heap:=h',toks:=t' }:=by
 have cne:=I.cne
 obtain ⟨oL,_,_,hoL,_⟩:=id hn
 have nl:∀ {b:Addr} {o:Obj},X.s₀.heap.get? b=some o->b≠X.env.locals:=fun {b o} e=>Nat.ne_of_lt (Nat.lt_of_lt_of_le (Heap.lt_size e) I.ok.above)
 refine ⟨I.ok,I.os,I.bare,⟨fun b o e n hb hx=>(hs.2 b (nl e)).trans (I.base.keep b o e n hb hx),fun b o e n hb hx=>?_,I.base.free,fun b o e hx=>?_,I.base.tups,I.base.frzs,I.base.tbls⟩,⟨_,hn',fun j y v' e1 e2 e3=>?_⟩,fun y c e=>?_,I.free,I.freeC,fun p hp=>?_,fun b ob e=>?_,by rw [List.length_set];exact I.len⟩
 ·obtain ⟨sl,e1⟩:=I.base.slot b o e n hb hx
  exact ⟨sl,(hs.2 b (nl e)).trans e1⟩
 ·obtain ⟨o',e1⟩:=I.base.there b o e hx
  exact ⟨o',(hs.2 b (nl e)).trans e1⟩
 ·by_cases hj:i=j
  ·subst hj
   rw [List.getElem?_set] at e2
   split at e2
   ·split at e2<;>cases e2
   ·exact absurd rfl ‹_›
  ·rw [List.getElem?_set_ne hj] at e2
   obtain ⟨u',r',q⟩:=hl j y v' e1 e2 e3
   refine ⟨u',r',?_⟩
   rcases q with ⟨k,e⟩ | ⟨k,c,e,z⟩
   ·have ne:y≠x:=fun z=>hj (W4 hN (z ▸ hi) e1)
    exact .inl ⟨k,by show (if y=x then v else m y)=some u';rw [if_neg ne];exact e⟩
   ·exact .inr ⟨k,c,e,z.sameBut hs (cne y c e)⟩
 ·obtain ⟨w',z⟩:=I.cell y c e
  exact ⟨w',z.sameBut hs (cne y c e)⟩
 ·obtain ⟨e,n,ne,nf,d⟩:=I.pin p hp
  exact ⟨(hs.2 p.1 ne).trans e,n,ne,nf,d⟩
 ·refine (I.hok b ob e).stay (fun c w' hc q=>(hs.2 c ?_).trans q) (fun _ q=>q) fun _ _ q=>q
  rintro rfl
  rcases hc with rfl | hc
  ·rw [I.free] at e;cases e
  ·rw [I.free] at hc;cases hc
theorem Inv.trackX {a:Addr} {o:Obj} (I:Inv X pins σ H s) (ha:s.heap.get? a=some o) (hH:H a=none) (h0:X.s₀.heap.get? a=none) (hL:a≠X.env.locals) (hc:∀ x c,X.env.cells.lookup x=some c->c≠a) (hp:∀ p∈X.pn ++ pins,p.1≠a) :
  Inv X pins σ (upd H a (.frz o (.own a))) s:=by
 refine ⟨I.ok,I.os,I.bare,⟨I.base.keep,I.base.slot,fun b ob e n hx=>?_,I.base.there,fun b xs e=>?_,fun b ob u e=>?_,fun b ps e=>?_⟩,I.loc,I.cell,?_,fun x c e=>?_,fun p q=>?_,fun b u e=>?_,I.len⟩
 ·rw [qI (fun z=>by rw [z,h0] at e;cases e)]
  exact I.base.free b ob e n hx
 ·have:=I.base.tups b xs e
  rw [qI (q9 this hH)];exact this
 ·have:=I.base.frzs b ob u e
  rw [qI (q9 this hH)];exact this
 ·obtain ⟨more,this⟩:=I.base.tbls b ps e
  exact ⟨more,by rw [qI (q9 this hH)];exact this⟩
 ·rw [qI (Ne.symm hL)];exact I.free
 ·rw [qI (hc x c e)];exact I.freeC x c e
 ·obtain ⟨e,n,r⟩:=I.pin p q
  exact ⟨e,by rw [qI (hp p q)];exact n,r⟩
 ·by_cases hb:b=a
  ·subst hb
   rw [qR] at e
   cases e
   exact ⟨ha,_,ha⟩
  ·rw [qI hb] at e
   exact (I.hok b u e).stay (fun c v _ q=>q) (fun c q=>by rw [qI (q9 q hH)];exact q) fun c xs q=>by rw [qI (q9 q hH)];exact q
end
def catB (K:PySem.W.Frag) (Cc:Addr):Bool:=(PySem.W.typeIn K (.ref Cc) == some (.type "type")) && (PySem.W.clsIn K Cc).isSome && (PySem.W.mroIn K Cc (.type "BaseException") == some true)
theorem qcv {prog:Program} {w:World} {A:Around} {E:Value->Shared->Prop} {K:PySem.W.Frag} {s:Shared} {a C Cc:Addr} {oe:Obj} {Q:Bool->Shared->Prop} (X:K.In s.heap) (hc:catB K Cc=true) (he:s.heap.get? a=some oe) (hcl:oe.cls=.ref C) (hm:PySem.W.mroIn K C (.ref Cc)=some true) (hq:Q true s) :
  wpAny (model prog w) A (excMatches (.ref a) (.ref Cc)) Q E s:=by
 obtain ⟨h,g,d,t,os⟩:=s
 unfold catB at hc
 simp only [Bool.and_eq_true,beq_iff_eq] at hc
 obtain ⟨⟨h1,h2⟩,h3⟩:=hc
 have L1:=PySem.W.looks_typeIn (M:=model prog w) X h1
 have L3:=PySem.W.looks_mroIn (M:=model prog w) X h3
 have L4:=PySem.W.looks_mroIn (M:=model prog w) X hm
 have L5:PySem.W.Looks (model prog w) h (typeOf (.ref a)) (.ref C):=hcl ▸ (PySem.W.Looks.ld he).andThen .now
 have f:=tc_notTuple
 have L6:PySem.W.Looks (model prog w) h (isType (.ref Cc)) true:=by
  unfold PySem.W.clsIn at h2
  split at h2
  ·rename_i c' d' cd' sl' ho
   intro A' Q' E' s' k q
   unfold isType loadHead
   exact wpAny_bind (wpAny_loadPart (k _ _ (X _ _ ho)) (wpAny_pure q))
  ·cases h2
 unfold excMatches isExcClass
 unfold isInstance
 repeat (first | with_reducible refine PySem.W.Looks.at (by assumption) ?_ | wp_step)
 exact hq
section
variable {X:Cx} {G:Gm} {M M' Mb L Mx:List Nat} {fr:Fr} {u uh:Rho->Option Out} {w:Rho->Option (PyData×Rho)}
theorem OwnS.setX {K:PySem.W.Frag} {H:Hp} {S:Av} {σ:St} {ρ:Rho} {i:Nat} {v:V} {d:PyData} (h:OwnS K G M L H S σ ρ) (q:Den K H S v d) (hM:Out0 M i):OwnS K G M L H S (σ.set i (some v)) (ρ.set i (some d)):=h.set q hM.1
theorem qi6 {cn n:Str} {i:Nat} {Cc:Addr} {cs:List Str} {b0:Stmt} {body suite:List Stmt} {hpos np pos:Pos} (hb:PDSs X G M L M' Mb fr body u) (hx:PDXs X true G M L Mx body w) (hs:∀ e,PDSs (X.mk1 e) G Mx L M' Mb fr (b0 :: suite) uh)
  (hN:X.N.Nodup) (hloc:X.env.scope.names.lookup n=some .local) (hM:Out0 Mx i) (hM':Out0 M' i) (hMb:Out0 Mb i) (hg:Gl X cn) (hm:X.mg cn=some (.ref Cc)) (hcat:catB X.K Cc=true) (hcs:∀ c∈cs,∀ C,XCls X.K c C->PySem.W.mroIn X.K C (.ref Cc)=some true)
  (hst:X.stack=X.env :: X.outer) (hfr:X.env.frame=some X.env.locals) (hex:X.ex=[]) (hi:X.N[i]?=some n:=by rfl) (hn:∀ e s,X.xe e s->False:=by exact fun _ _ z=>z) (hdb:(cn == ("__debug__" : Str))=false:=by decide +kernel) :
  PDS X G M L M' Mb fr (.Try body [.ExceptHandler (some (.Name cn np)) (some n) (b0 :: suite) hpos] [] [] pos) (sTry u w cs i uh):=by
 intro pins s σ H D I ⟨S,ρ,out,os,e,q⟩
 unfold sTry at e
 cases ew:w ρ with
 | none =>
  rw [ew] at e
  refine wpAny_Try_except (wpAny_mono (hb pins s σ H D I ⟨S,ρ,out,os,e,q⟩) (fun f s1 hf=>?_) fun e s z=>(hn e s z).elim)
  cases f with
  | next=>exact wpAny_execs_nil hf
  | ret v=>exact hf
  | brk=>exact hf
  | cont=>exact hf
 | some r =>
  obtain ⟨x,ρ'⟩:=r
  rw [ew] at e
  have e:(if caught cs x=true then ob (uh (ρ'.set i (some x))) fun o=>some (qgU i o) else none)=some out:=e
  split at e
  case isFalse=>cases e
  rename_i hc
  obtain ⟨o2,e2,e⟩:=qj e
  cases e
  refine wpAny_Try_except (wpAny_mono (hx pins s σ H S ρ ρ' x I os ew) (fun _ _ z=>z.elim) fun ev s1 hx1=>?_)
  obtain ⟨a,c,C,rfl,rfl,hC,hx1⟩:=hx1
  obtain ⟨σ1,H1,S1,s0,H2,B,t,I1,os1,g12,hos,bare,ok,fl⟩:qjM X pins G Mx L ρ' a C s1:=by
   rcases hx1 with ⟨z,_⟩ | z
   ·cases z
   ·exact z
  have hcm:c∈cs:=List.contains_iff_mem.mp hc
  have frm:X.A.frames=some (X.env :: X.outer):=by rw [I1.ok.frames,hst]
  have fl0:Heap.FlyingW B (X.env :: X.outer) a (.ref C) (.ref t) s1.heap:=by have:=fl.fl;rw [hst] at this;exact this
  refine wpAny_looks_onW frm hfr fl0 fun h4 held4 up4=>?_
  refine wpAny_landsW held4 fun h5 fl5 up5=>?_
  have fl5':Heap.FlyingW B X.stack a (.ref C) (.ref t) h5:=by rw [hst];exact fl5
  have fly5:=fl.step ok fl5' (up4.trans up5)
  have ok5:=fl.hok ok fl5
  have I5:Inv X pins σ1 H2 { s1 with heap:=h5 }:=I1.call' (s':={ s1 with heap:=h5 }) (ch:=[]) hos fly5.un ok5 bare (fun b z=>by cases z)
  obtain ⟨oc,hoc,hocc⟩:=fl5.there
  refine wpAny_handleBy_cons (codeAny_handlers_test (JF (X:=X.mk1 (.ref a)) (I5.mk1 (.ref a)) hg hm ?_ hdb)) (by intro z;cases z)
  refine qcv (s:={ s1 with heap:=h5 }) I5.kIn hcat hoc hocc (hcs c hcm C hC) ?_
  refine codeAny_handlers_suite_as ?_
  refine lands_againW (s:={ s1 with heap:=h5 }) fl5 fun h6 fl6 up6=>?_
  have fl6':Heap.FlyingW B X.stack a (.ref C) (.ref t) h6:=by rw [hst];exact fl6
  have fly6:=fly5.step ok5 fl6' up6
  have ok6:=fly5.hok ok5 fl6
  have I6:Inv X pins σ1 H2 { s1 with heap:=h6 }:=I1.call' (s':={ s1 with heap:=h6 }) (ch:=[]) hos fly6.un ok6 bare (fun b z=>by cases z)
  obtain ⟨oe,ws,hoe,hoec,hoed,_⟩:=fl6.first
  have hBa:B.get? a=none:=fl6.2.1
  have hH2:H2 a=none:=by
   cases z:H2 a with
   | none=>rfl
   | some v=>have:=fly6.trk a v z oe hoe;rw [hBa] at this;cases this
  have hnew:s0.heap.get? a=none:=by
   cases z:s0.heap.get? a with
   | none=>rfl
   | some o =>
    by_cases hf:a∈frs X.stack
    ·obtain ⟨_,o',e',nf⟩:=fl6'.2.2.1.mem hf
     rw [hoe] at e'
     cases e'
     exact absurd hoed (nf _)
    ·obtain ⟨o',e'⟩:=fl.dom a o z hf
     rw [hBa] at e'
     cases e'
  have h0:X.s₀.heap.get? a=none:=by
   cases z:X.s₀.heap.get? a with
   | none=>rfl
   | some o =>
    obtain ⟨o',e'⟩:=I1.base.there a o z (by rw [hex];simp)
    rw [hnew] at e'
    cases e'
  have hL:a≠X.env.locals:=fun z=>by
   obtain ⟨m,⟨o,_,_,ho,_⟩,_⟩:=I1.loc
   rw [← z,hnew] at ho
   cases ho
  have hcl:∀ y c,X.env.cells.lookup y=some c->c≠a:=fun y c ec z=>by
   obtain ⟨v,o,ho,_⟩:=I1.cell y c ec
   rw [z,hnew] at ho
   cases ho
  have hpn:∀ p∈X.pn ++ pins,p.1≠a:=fun p hp z=>by
   have:=(I1.pin p hp).1
   rw [z,hnew] at this
   cases this
  have I7:=I6.trackX hoe hH2 h0 hL hcl hpn
  have g17:Same H1 (upd H2 a (.frz oe (.own a))):=g12.lay' hH2
  have os7:=os1.same g17
  have den:Den X.K (upd H2 a (.frz oe (.own a))) S1 (.ref a) (excD c .none):=.exc0 qR ⟨C,ws,hoec,hoed,hC.1,hC.2⟩
  refine qaj (X:=X.mk1 (.ref a)) (v:=.ref a) (I7.mk1 (.ref a)) hN hi (.inl hloc) rfl (fun s8 I8=>?_) (.inr hloc)
  have fin2:∀ (f:Flow) (σ9:St) (H9:Hp) (s9:Shared),Inv X pins σ9 H9 s9->(∀ s10,Inv X pins (σ9.set i none) H9 s10->SP X pins D f s10)->
    wpAny (model X.prog X.w) X.A (do bindName X.env n .none;unbindBehindTheSuite X.env n hpos) (fun _ s10=>SP X pins D f s10) X.xe s9:=fun f σ9 H9 s9 I9 k=>by
   obtain ⟨m,hn9,hl9⟩:=I9.loc
   exact wpAny_nameGoes_keeps hloc hn9 (by rw [I9.ok.kind];rfl) fun h' v hn' hsb=>k _ (I9.gone hN hi hn9 hl9 hn' hsb)
  let D2:Ends:=⟨fun σ9 H9=>∀ s10,Inv X pins (σ9.set i none) H9 s10->SP X pins D .next s10,D.rt,fun σ9 H9=>∀ s10,Inv X pins (σ9.set i none) H9 s10->SP X pins D .brk s10,fun σ9 H9=>∀ s10,Inv X pins (σ9.set i none) H9 s10->SP X pins D .cont s10⟩
  have q2:OutQ X.K G M' Mb L fr D2 o2:=by
   cases o2 with
   | nx ρ9=>exact fun σ9 H9 S9 os9 s10 I10=>⟨_,H9,I10,q _ H9 S9 (OwnS.del (X:=X) os9 hM')⟩
   | rt d=>exact q
   | bk ρ9=>exact fun σ9 H9 S9 os9 s10 I10=>⟨_,H9,I10,q _ H9 S9 (OwnS.del (X:=X) os9 hMb)⟩
   | ct ρ9=>exact fun σ9 H9 S9 os9 s10 I10=>⟨_,H9,I10,q _ H9 S9 (OwnS.del (X:=X) os9 hMb)⟩
  refine wpAny_mono (hs (.ref a) pins s8 _ _ D2 I8 ⟨S1,_,o2,os7.setX den hM,e2,q2⟩) (fun f s9 hf=>?_) fun e s z=>(hn e s z).elim
  cases f with
  | next =>
   obtain ⟨σ9,H9,I9,k⟩:=hf
   exact fin2 .next σ9 H9 s9 (I9.unmk1 I1.ok) k
  | brk =>
   obtain ⟨σ9,H9,I9,k⟩:=hf
   exact fin2 .brk σ9 H9 s9 (I9.unmk1 I1.ok) k
  | cont =>
   obtain ⟨σ9,H9,I9,k⟩:=hf
   exact fin2 .cont σ9 H9 s9 (I9.unmk1 I1.ok) k
  | ret v =>
   obtain ⟨y,σ9,H9,I9,r,k⟩:=hf
   exact fin2 (.ret v) σ9 H9 s9 (I9.unmk1 I1.ok) fun s10 I10=>⟨y,_,H9,I10,r,k⟩
end
end L2
namespace L2
open PySem PySem.Spec PyProof.Rows
def bTs:List String:=["ValueError"]
def xtB (K:PySem.W.Frag) (XS:List (Str×List Str)):Bool:=XS.all fun c=>match PySem.W.nsIn K mainGlobals c.1 with
 | some (some (.ref C))=>xcB K C && catB K C && (XS.all fun d=>match PySem.W.nsIn K mainGlobals d.1 with
   | some (some (.ref D))=>(PySem.W.kitOne K (.ref C) (.ref D) == some (c.2.contains d.1)) && (PySem.W.mroIn K C (.ref D) == some (c.2.contains d.1))
   | _=>false) && bTs.all fun T=>PySem.W.kitOne K (.ref C) (.type T) == some (c.2.contains (Str.ofString T))
 | _=>false
def adr (mg:Str->Option Value) (c:Str):Addr:=match mg c with
 | some (.ref C)=>C
 | _=>0
structure XTab (K:PySem.W.Frag) (mg:Str->Option Value) (XS:List (Str×List Str)):Prop where
 nm:∀ c∈XS,mg c.1=some (.ref (adr mg c.1))
 ns:∀ c∈XS,PySem.W.nsIn K mainGlobals c.1=some (some (.ref (adr mg c.1)))
 xc:∀ c∈XS,xcB K (adr mg c.1)=true
 cat:∀ c∈XS,catB K (adr mg c.1)=true
 kit:∀ c∈XS,∀ d∈XS,PySem.W.kitOne K (.ref (adr mg c.1)) (.ref (adr mg d.1))=some (c.2.contains d.1)
 mro:∀ c∈XS,∀ d∈XS,PySem.W.mroIn K (adr mg c.1) (.ref (adr mg d.1))=some (c.2.contains d.1)
 blt:∀ c∈XS,∀ T∈bTs,PySem.W.kitOne K (.ref (adr mg c.1)) (.type T)=some (c.2.contains (Str.ofString T))
theorem qjK {K:PySem.W.Frag} {h:Heap} {mg:Str->Option Value} {XS:List (Str×List Str)} (X:K.In h) (G:h.Ns mainGlobals mg) (e:xtB K XS=true):XTab K mg XS:=by
 have at1:∀ c∈XS,∃ C,PySem.W.nsIn K mainGlobals c.1=some (some (.ref C))/\adr mg c.1=C/\mg c.1=some (.ref C)/\xcB K C=true/\catB K C=true/\(∀ d∈XS,∃ D,PySem.W.nsIn K mainGlobals d.1=some (some (.ref D))/\PySem.W.kitOne K (.ref C) (.ref D)=some (c.2.contains d.1)/\PySem.W.mroIn K C (.ref D)=some (c.2.contains d.1))/\∀ T∈bTs,PySem.W.kitOne K (.ref C) (.type T)=some (c.2.contains (Str.ofString T)):=fun c hc=>by
  have:=List.all_eq_true.mp e c hc
  split at this
  ·rename_i C hC
   simp only [Bool.and_eq_true] at this
   obtain ⟨⟨⟨h1,h2⟩,h3⟩,h4⟩:=this
   have hm:=PySem.W.mg_of X G hC
   refine ⟨C,hC,by unfold adr;rw [hm],hm,h1,h2,fun d hd=>?_,fun T hT=>beq_iff_eq.mp (List.all_eq_true.mp h4 T hT)⟩
   have:=List.all_eq_true.mp h3 d hd
   split at this
   ·rename_i D hD
    rw [Bool.and_eq_true] at this
    exact ⟨D,hD,beq_iff_eq.mp this.1,beq_iff_eq.mp this.2⟩
   ·cases this
  ·cases this
 refine ⟨fun c hc=>?_,fun c hc=>?_,fun c hc=>?_,fun c hc=>?_,fun c hc d hd=>?_,fun c hc d hd=>?_,fun c hc T hT=>?_⟩<;>obtain ⟨C,h1,h2,h3,h4,h5,h6,h7⟩:=at1 c hc
 ·rw [h2];exact h3
 ·rw [h2];exact h1
 ·rw [h2];exact h4
 ·rw [h2];exact h5
 ·obtain ⟨D,g1,g2,_⟩:=at1 d hd
  obtain ⟨D',k1,k2,k3⟩:=h6 d hd
  rw [h2,g2]
  rw [g1] at k1
  cases k1
  exact k2
 ·obtain ⟨D,g1,g2,_⟩:=at1 d hd
  obtain ⟨D',k1,k2,k3⟩:=h6 d hd
  rw [h2,g2]
  rw [g1] at k1
  cases k1
  exact k3
 ·rw [h2];exact h7 T hT
def isiN (XS:List (Str×List Str)) (ns:List Str):PyData->Option PyData
 | .dict ((.str c,_) :: (.int 0,.none) :: [])=>ob (XS.find? fun p=>p.1 == c) fun p=>some (.bool (ns.any fun n=>p.2.contains n))
 | _=>none
theorem qeX {XS:List (Str×List Str)} {ns:List Str} {d r:PyData} (e:isiN XS ns d=some r):∃ c x p,d=excD c x/\p∈XS/\p.1=c/\r=.bool (ns.any fun n=>p.2.contains n):=by
 unfold isiN at e
 split at e
 ·obtain ⟨p,h1,e⟩:=qj e
  cases e
  exact ⟨_,_,p,rfl,List.mem_of_find?_eq_some h1,beq_iff_eq.mp (List.find?_some (p:=fun p:Str×List Str=>p.1 == _) h1),rfl⟩
 ·cases e
def CNm (X:Cx) (XS:List (Str×List Str)) (n:Str) (v:V):Prop:=((∃ p∈XS,p.1=n)/\v=.ref (adr X.mg n))\/∃ T∈bTs,n=Str.ofString T/\v=.ty T
def ClsV (X:Cx) (XS:List (Str×List Str)) (ns:List Str) (v:V) (H:Hp):Prop:=(∃ n,ns=[n]/\CNm X XS n v)\/∃ p vs,v=.ref p/\SqT X.K H p vs/\Paired (CNm X XS) ns vs
def PCl (X:Cx) (XS:List (Str×List Str)) (ns:List Str) (b:Expr):Prop:=PE X b (fun _ H Q=>∀ v H',Same H H'->ClsV X XS ns v H'->Q v H')
def PCls (X:Cx) (XS:List (Str×List Str)) (ns:List Str) (es:List Expr):Prop:=PA X es (fun _ H Q=>∀ vs,Paired (CNm X XS) ns vs->Q vs H)
def rIsiN (X:Cx) (XS:List (Str×List Str)):List V->Hp->VK->Prop:=fun vs H Q=>∃ a c p ns v,vs=[.ref a,v]/\ExcH X.K H a c/\p∈XS/\p.1=c/\ClsV X XS ns v H/\Q (.bl (ns.any fun n=>p.2.contains n)) H
section
variable {X:Cx} {XS:List (Str×List Str)} {ns:List Str} {n:Str} {M:List Nat} {a b:Expr} {es:List Expr} {fa:Rho->Option PyData} {pos p1:Pos}
theorem qaV {K:PySem.W.Frag} {t:Value} {f:Str->Bool}:∀ {ns:List Str} {us:List Value},Paired (fun n u=>PySem.W.kitOne K t u=some (f n)) ns us->PySem.W.kitAny K t us=some (ns.any f)
 | _,_,.nil=>rfl
 | n :: ns,u :: us,.cons h r=>by
  rw [PySem.W.kitAny,h,List.any_cons]
  cases hf:f n with
  | true=>rfl
  | false=>exact qaV r
theorem qgo (T:XTab X.K X.mg XS) {p:Str×List Str} (hp:p∈XS) {v:V} {u:Value} (h:CNm X XS n v) (r:RelV v u):PySem.W.kitOne X.K (.ref (adr X.mg p.1)) u=some (p.2.contains n):=by
 rcases h with ⟨⟨d,hd,rfl⟩,rfl⟩ | ⟨t,ht,rfl,rfl⟩
 ·cases (show u=Value.ref _ from r)
  exact T.kit p hp d hd
 ·cases (show u=Value.type _ from r)
  exact T.blt p hp t ht
theorem qef (T:XTab X.K X.mg XS) {p:Str×List Str} (hp:p∈XS):∀ {ns:List Str} {vs:List V} {us:List Value},Paired (CNm X XS) ns vs->Vals vs us->Paired (fun n u=>PySem.W.kitOne X.K (.ref (adr X.mg p.1)) u=some (p.2.contains n)) ns us
 | _,_,_,.nil,.nil=>.nil
 | _,_,_,.cons h t,.cons r q=>.cons (qgo T hp h r) (qef T hp t q)
theorem qeN (T:XTab X.K X.mg XS):Zx X (.builtin "isinstance") (rIsiN X XS):=by
 intro pins s σ H xs us Q I r h
 obtain ⟨a,c,p,ns,v,rfl,hx,hp,hc,hv,q⟩:=h
 obtain ⟨u,u',rfl,ru,rv⟩:=r.two
 cases (show u=Value.ref a from ru)
 obtain ⟨C,h3,h4,IA⟩:=I.excAt hx
 rw [← hc,T.ns p hp] at h3
 cases h3
 have fin:∀ tk,EP X pins σ Q (.bool (ns.any fun n=>p.2.contains n)) { s with toks:=tk }:=fun tk=>⟨.bl _,H,I.tok tk,rfl,q⟩
 rcases hv with ⟨n,rfl,hn⟩ | ⟨t,vs,rfl,ht,hvs⟩
 ·refine PySem.W.kia_one (WN (qcd h4)) I.kIn IA ?_ (fun z=>nomatch z) fin
  rw [qgo T hp hn rv,List.any_cons,List.any_nil,Bool.or_false]
 ·cases (show u'=Value.ref t from rv)
  obtain ⟨its,r',⟨o,e1,e2,n',e3⟩,_⟩:=I.tuple ht
  obtain ⟨oc,od,oa,os⟩:=o
  dsimp only at e2 e3
  subst e2 e3
  exact PySem.W.kia_tup (WN (qcd h4)) I.kIn IA e1 (qaV (qef T hp hvs r')) (fun z=>nomatch z) fin
theorem qi1 (T:XTab X.K X.mg XS) (hg:Gl X n) (hn:(XS.any fun p=>p.1 == n)=true:=by decide +kernel) (hd:(n == ("__debug__" : Str))=false:=by decide +kernel):PCl X XS [n] (.Name n pos):=by
 obtain ⟨p,hp,e⟩:=List.any_eq_true.mp hn
 have e:=beq_iff_eq.mp e
 subst e
 exact (qbX (v:=.ref (adr X.mg p.1)) hg (T.nm p hp) rfl hd).weak fun σ H Q h=>h _ H (Same.refl H) (.inl ⟨_,rfl,.inl ⟨⟨p,hp,rfl⟩,rfl⟩⟩)
theorem qi0 {T:String} (hT:T∈bTs) (hg:Gl X (Str.ofString T)) (hm:X.mg (Str.ofString T)=none) (hv:bootBuiltins (Str.ofString T)=some (.type T)) (hn:Str.ofString T ≠ "__name__" := by decide +kernel) (hd:(Str.ofString T == ("__debug__" : Str))=false:=by decide +kernel):PCl X XS [Str.ofString T] (.Name (Str.ofString T) pos) :=
 (qey (v:=.ty T) hg hm hv rfl hn hd).weak fun σ H Q h=>h _ H (Same.refl H) (.inl ⟨_,rfl,.inr ⟨T,hT,rfl,rfl⟩⟩)
theorem qcO:PCls X XS [] []:=qbR.weak fun σ H Q h=>h [] .nil
theorem Qa (T:XTab X.K X.mg XS) (hg:Gl X n) (h:PCls X XS ns es) (hn:(XS.any fun p=>p.1 == n)=true:=by decide +kernel) (hd:(n == ("__debug__" : Str))=false:=by decide +kernel) (hs:starEach (.Name n pos :: es) X.env=(false,eval (.Name n pos) X.env) :: starEach es X.env:=by rfl):PCls X XS (n :: ns) (.Name n pos :: es):=by
 obtain ⟨p,hp,e⟩:=List.any_eq_true.mp hn
 have e:=beq_iff_eq.mp e
 subst e
 exact (JL (qbX (v:=.ref (adr X.mg p.1)) hg (T.nm p hp) rfl hd) h hs).weak fun σ H Q h vs hv=>h _ (.cons (.inl ⟨⟨p,hp,rfl⟩,rfl⟩) hv)
theorem qet {k} (h:PCls X XS ns es) (hl:ns.length <= 1000:=by decide):PCl X XS ns (.Tuple es k pos) :=
 (qhe h).weak fun σ H Q q vs hv=>⟨Nat.le_of_lt (zq (by rw [← Paired.length hv];exact hl)),fun p hp=>q _ _ (Same.lay hp) (.inr ⟨p,vs,rfl,SqT.of qR,hv⟩)⟩
theorem Wd (T:XTab X.K X.mg XS) (hg:Gl X "isinstance") (hm:X.mg "isinstance" = none) (hv:bootBuiltins "isinstance" = some (.builtin "isinstance")) (ha:PD X M a fa) (hb:PCl X XS ns b)
  (he:starEach [a,b] X.env=(false,eval a X.env) :: starEach [b] X.env:=by rfl) (hpl:(backTo pos (starEach [b] X.env)).any (·.1)=false:=by rfl) (hs2:starEach [b] X.env=(false,eval b X.env) :: starEach [] X.env:=by rfl) :
  PD X M (.Call (.Name "isinstance" p1) [a,b] [] pos) (ev1 fa (isiN XS ns)) :=
 (Yh (qeN T) hg hm hv (JL ha (JL hb qbR hs2) he) (by decide +kernel) (by decide +kernel) he hpl).weak fun σ H Q ⟨S,ρ,d,hs,e,q⟩=>by
  obtain ⟨x,e1,e⟩:=qj e
  obtain ⟨c,y,p,rfl,hp,hc,rfl⟩:=qeX e
  refine ⟨S,ρ,_,hs,e1,fun v H1 g1 d1 v2 H2 g2 hv2=>?_⟩
  obtain ⟨a',rfl,o,ho,hx⟩:=d1.exc
  exact ⟨a',c,p,ns,v2,rfl,⟨o,g2 _ _ ho,hx⟩,hp,hc,hv2,q _ H2 (g1.trans g2) (.bool _)⟩
end
structure RoomM (k:Nat) (A:Around):Prop where
 dp:A.depth + 3 * k + 5 < recursionLimit
 un:A.units + 16 * k + 200 < cLine
theorem Room.m {k:Nat} {A:Around} (r:Room k A) (e:Option Value):RoomM k (A.mark e):=⟨r.dp,r.un⟩
theorem RoomM.mono {j k:Nat} {A:Around} (r:RoomM k A) (h:j <= k):RoomM j A:=⟨by have:=r.dp;omega,by have:=r.un;omega⟩
structure FnOkM (P:Program) (w:World) (K:PySem.W.Frag) (mg:Str->Option Value) (base:Heap) (k:Nat) (f:Addr) (fd:FuncData) (ps:List Str) (sp:Sp):Prop where
 len:∀ vs H Q E,sp vs H Q E->vs.length=ps.length
 run:∀ (A:Around) (outer:List Env) (s:Shared) (H:Hp) (args:Args) (us:List Value) (vs:List V) (Q:VK) (E:XK),RoomM k A->Env0 P w K mg base A outer s H->BindsTo s fd args (ps.zip us)->Vals vs us->sp vs H Q E->
  codeAny (model P w) A (.call (.ref f) args) (CR CX0 outer P w H s Q E) s
def cxM (P:Program) (w:World) (K:PySem.W.Frag) (mg:Str->Option Value) (base:Heap) (N:List Str) (qual:Str) (scope:Scope) (f:Addr) (cd:Value) (A:Around) (outer:List Env) (s:Shared) (H:Hp) (E:XK):Cx :=
 { (cxOf CX0 P w K mg base N qual scope f cd A outer s H E).nox with calm:=false }
structure KnownM (P:Program) (w:World) (K:PySem.W.Frag) (mg:Str->Option Value) (base:Heap) (x:Str) (n k:Nat) (h:List PyData->Option PyData):Prop where
 ex:∃ (f:Addr) (fd:FuncData) (ps:List Str),FnOkM P w K mg base k f fd ps (spF K n h)/\mg x=some (.ref f)/\PySem.W.keepIn K (.ref f)=true/\Binds K fd ps []
section
variable {P:Program} {w:World} {K:PySem.W.Frag} {mg:Str->Option Value} {base:Heap}
theorem Fun.pureM {x qual:Str} {st:Stmt} {f:Addr} {fd:FuncData} {N ps:List Str} {k n:Nat} {u:Rho->Option Out} {M':List Nat} (F:Fun K x qual st f fd) (S:FnScope N ps (qb st)) (hn:ps.length=n)
  (hbody:∀ (cdv:Value) (A:Around) (outer:List Env) (s:Shared) (H:Hp) (E:XK),RoomM k (A.deeper (envOfC qual (qb st) s.heap.objs.size f cdv))->∀ G:Gm,
   PDSs (cxM P w K mg base N qual (qb st) f cdv A outer s H E) G [] [] M' [] .pl (qJ st) u) :
  FnOkM P w K mg base (k + 1) f fd ps (spF K n fun ds=>ob (u (rho0 N.length ds)) outD):=by
 obtain ⟨oc,dV,od,kV,doc,pm,an,cdv,ct,osl,rfl,lk,hcd⟩:=F.g.ex
 have len:∀ vs H Q E,spF K n (fun ds=>ob (u (rho0 N.length ds)) outD) vs H Q E->vs.length=ps.length:=fun vs H Q E h=>by
  obtain ⟨_,ds,d,_,h1,h2,_⟩:=h
  rw [h1.length,h2,hn]
 refine ⟨len,fun A outer s H args us vs Q E hr e0 hb r hsp=>?_⟩
 have hl:=len _ _ _ _ hsp
 have KX:K.In s.heap:=e0.mod.kin.keeps fun b o e=>(e0.bs b o e).1
 have lim:s.heap.NoLimit:=e0.mod.nolimit.keeps fun b o e=>(e0.bs b o e).1
 have hkind:∀ y∈ps.zip us,(qb st).names.lookup y.1=some .local\/((qb st).names.lookup y.1=some .cell/\((cellsFrom (s.heap.objs.size + 1) (qb st).names []).lookup y.1).isSome=true):=fun ⟨n,v⟩ hy=>by
  rcases S.par n (List.of_mem_zip hy).1 with q | q
  ·exact .inl q
  ·exact .inr ⟨q,PySem.W.cellsFrom_some _ _ _ (.inl q)⟩
 refine codeAny_call_function (by have:=hr.dp;omega) (KX _ _ lk) rfl S.co S.gen rfl (PySem.W.codeRec_of KX hcd) (hb _ _ _ _ ?_)
 refine wpAny_newFunctionEnv_cells S.kind hkind fun env he s1 x=>?_
 subst he
 refine ⟨lim.keeps x.toInCall.keep,codeAny_func ?_⟩
 obtain ⟨Sv,ds,d,m,h1,h2,e,q⟩:=hsp
 obtain ⟨o,e1,e⟩:=qj e
 have hr':RoomM k (A.deeper (envOfC qual (qb st) s.heap.objs.size f cdv)):=⟨by have:=hr.dp;show A.depth + 1 + 3 * k + 5 < _;omega,by have:=hr.un;show A.units + 3 + 16 * k + 200 < _;omega⟩
 have I0:Inv (cxOf CX0 P w K mg base N qual (qb st) f cdv { A with handled:=none } outer s H E) [] (start N vs) H s1:=qaR S rfl ⟨e0.frames,e0.mod,e0.bs,e0.bsz,e0.funs,e0.frf,e0.hok,e0.bare⟩ hl r x
 have I:Inv (cxM P w K mg base N qual (qb st) f cdv A outer s H E) [] (start N vs) H s1 :=
  ⟨⟨I0.ok.mod,I0.ok.kind,I0.ok.glob,I0.ok.blt,I0.ok.above,I0.ok.inj,I0.ok.has,I0.ok.cab,(fun z=>nomatch z),I0.ok.frames,I0.ok.stk,I0.ok.exf,I0.ok.bs,I0.ok.bsz,I0.ok.noex,I0.ok.exfs,I0.ok.funs,I0.ok.frf⟩,I0.os,I0.bare,I0.base,I0.loc,I0.cell,I0.free,I0.freeC,I0.pin,I0.hok,I0.len⟩
 have q':OutQ K (G0 H Sv) M' [] [] .pl { nx:=fun _ H'=>Q .non H',rt:=Q } o:=by
  cases o with
  | rt r=>cases e;exact q
  | nx ρ=>cases e;exact fun σ' H' S' hs=>q _ H' hs.h0 .none
  | bk ρ=>cases e
  | ct ρ=>cases e
 refine wpAny_mono (hbody cdv A outer s H E hr' (G0 H Sv) [] s1 (start N vs) H _ I ⟨Sv,rho0 N.length ds,o,OwnS.start m h1 N,e1,q'⟩) (fun fl s' hs=>?_) fun e s' hs=>hs.elim
 cases fl with
 | ret u=>obtain ⟨v,σ',H',J,rv,q⟩:=hs;exact ⟨v,H',J.os,J.bare,J.base,J.hok,rv,q⟩
 | next=>obtain ⟨σ',H',J,q⟩:=hs;exact ⟨V.non,H',J.os,J.bare,J.base,J.hok,rfl,q⟩
 | brk=>obtain ⟨_,_,_,q⟩:=hs;exact False.elim q
 | cont=>obtain ⟨_,_,_,q⟩:=hs;exact False.elim q
end
section
variable {X:Cx} {M:List Nat} {a:Expr} {es:List Expr} {pos:Pos}
theorem qfa {x:Str} {p:Pos} {n k k':Nat} {h:List PyData->Option PyData} {fs:Rho->Option (List PyData)} (F:KnownM X.prog X.w X.K X.mg X.base x n k h) (hr:RoomM k' X.A) (hk:k <= k') (hg:Gl X x) (ha:PDA X M (a :: es) fs) (hl:(a :: es).length=n)
  (hdb:(x == ("__debug__" : Str))=false:=by decide +kernel) (he:starEach (a :: es) X.env=(false,eval a X.env) :: starEach es X.env:=by rfl) (hpl:(backTo pos (starEach es X.env)).any (·.1)=false:=by rfl) :
  PD X M (.Call (.Name x p) (a :: es) [] pos) (evC n fs h):=by
 obtain ⟨f,fd,ps,F,hm,kp,hb⟩:=F.ex
 intro pins s σ H Q I ⟨S,ρ,d,hs,e,q⟩
 obtain ⟨ds,e1,e⟩:=qj e
 have e:(if ds.length=n then h ds else none)=some d:=e
 split at e
 case isFalse=>cases e
 rename_i hn
 refine wpAny_Call_Name_kw (JF I hg hm ?_ hdb)
 refine PySem.W.callWith_K (h₀:=X.base) I.ok.mod.kin kp (thn (ha pos pins s σ H (fun vs H1=>Same H H1/\DenL X.K H1 S vs ds) I ⟨S,ρ,ds,hs,e1,fun vs H1 g1 d1=>⟨g1,d1⟩⟩) fun us s1 ⟨vs,H1,I1,r,g1,d1⟩=>⟨I1.kIn,?_⟩) he hpl
 have hsp:spF X.K n h vs H1 Q E0:=⟨S,ds,d,hs.1.same g1,d1,hn,e,fun v H' g2 dv=>q v H' (g1.trans g2) dv⟩
 have hlen:(us ++ []).length=ps.length:=by rw [List.append_nil,← r.length];exact F.len _ _ _ _ hsp
 refine wpAny_call (codeAny_mono (F.run X.A X.stack s1 H1 ⟨us,[]⟩ us vs Q E0 (hr.mono hk) I1.env0 (by have:=hb s1 us I1.kIn hlen;rwa [List.append_nil] at this) r hsp) fun r s' hq=>?_)
 cases r with
 | error e=>exact hq.elim
 | ok fl =>
  cases fl with
  | ret u=>exact I1.after hq
  | next=>exact False.elim hq
  | brk=>exact False.elim hq
  | cont=>exact False.elim hq
end
end L2
namespace L2
open PySem PySem.Spec PyProof.Rows
def vBM:List Value:=[.type "ValueError", .type "Exception", .type "BaseException", .type "object"]
def qct (K:PySem.W.Frag) (c:Str):Bool:=match PySem.W.nsIn K mainGlobals c with
 | some (some (.ref C))=>PySem.W.excIn K C vBM "ValueError.__new__"
 | _=>false
section
variable {K:PySem.W.Frag} {mg:Str->Option Value} {XS:List (Str×List Str)} {c cn:Str} {cs:List Str}
theorem XTab.has (h:(XS.any fun p=>p.1 == c)=true):∃ p∈XS,p.1=c:=by
 obtain ⟨p,hp,e⟩:=List.any_eq_true.mp h
 exact ⟨p,hp,beq_iff_eq.mp e⟩
theorem XTab.mg1 (T:XTab K mg XS) (h:(XS.any fun p=>p.1 == c)=true):mg c=some (.ref (adr mg c)):=by
 obtain ⟨p,hp,rfl⟩:=XTab.has h
 exact T.nm p hp
theorem XTab.cls1 (T:XTab K mg XS) (h:(XS.any fun p=>p.1 == c)=true):XCls K c (adr mg c):=by
 obtain ⟨p,hp,rfl⟩:=XTab.has h
 exact ⟨T.ns p hp,T.xc p hp⟩
theorem XTab.cat1 (T:XTab K mg XS) (h:(XS.any fun p=>p.1 == c)=true):catB K (adr mg c)=true:=by
 obtain ⟨p,hp,rfl⟩:=XTab.has h
 exact T.cat p hp
theorem XTab.exc1 (T:XTab K mg XS) (h:(XS.any fun p=>p.1 == c)=true) (e:qct K c=true):PySem.W.excIn K (adr mg c) vBM "ValueError.__new__" = true:=by
 obtain ⟨p,hp,rfl⟩:=XTab.has h
 unfold qct at e
 rw [T.ns p hp] at e
 exact e
theorem XTab.cs1 (T:XTab K mg XS) (h:(XS.any fun p=>p.1 == cn)=true) (hc:(cs.all fun c=>XS.any fun p=>p.1 == c && p.2.contains cn)=true):∀ c∈cs,∀ C,XCls K c C->PySem.W.mroIn K C (.ref (adr mg cn))=some true:=by
 intro c hm C hC
 obtain ⟨p,hp,e⟩:=List.any_eq_true.mp (List.all_eq_true.mp hc c hm)
 rw [Bool.and_eq_true] at e
 have e1:=beq_iff_eq.mp e.1
 subst e1
 obtain ⟨d,hd,rfl⟩:=XTab.has h
 have:=(T.ns p hp).symm.trans hC.1
 cases this
 rw [T.mro p hp d hd,e.2]
end
def qjZ (f:Rho->Option PyData):Rho->Option Out:=fun ρ=>ob (f ρ) fun _=>some (.nx ρ)
section
variable {X:Cx} {G:Gm} {M Mb L:List Nat} {fr:Fr} {a:Expr} {f:Rho->Option PyData} {pos:Pos}
theorem qg4 (h:PD X M a f) (hs:swapsWith a none pos.line X.env=pure false:=by rfl):PDS X G M L M Mb fr (.Expr a pos) (qjZ f) :=
 (qbY h hs).weak fun D σ H ⟨S,ρ,o,os,e,q⟩=>by
  obtain ⟨d,e1,e⟩:=qj e
  cases e
  exact ⟨S,ρ,d,os.ds,e1,fun v H1 g1 d1=>q σ H1 S (os.same g1)⟩
end
def catL:PyData->PyData->Option PyData
 | .list ds,.list es=>if ds.length + es.length <= 1000 then some (.list (ds ++ es)) else none
 | _,_=>none
theorem qjb {X:Cx} {M:List Nat} {a b:Expr} {fa fb:Rho->Option PyData} {pos:Pos} (ha:PD X M a fa) (hb:PD X M b fb):PF X M (.BinOp a .Add b pos) (ev2 fa fb catL) :=
 (qjV qeq ha hb).weak fun σ H Q ⟨S,ρ,d,hs,e,q⟩=>by
  obtain ⟨x,e1,e⟩:=qj e
  obtain ⟨y,e2,e⟩:=qj e
  refine ⟨S,ρ,x,hs,e1,fun v H1 g1 d1=>⟨S,ρ,y,hs.same g1,e2,fun v2 H2 g2 d2=>?_⟩⟩
  unfold catL at e
  split at e
  ·split at e
   ·rename_i ds es hc
    cases e
    obtain ⟨l,xs,rfl,h1,t1⟩:=d1.list_inv
    obtain ⟨l2,ys,rfl,h2,t2⟩:=d2.list_inv
    have h1:=h1.imp (fun q=>(⟨q.1.off (S:=S) g2.off q.2,q.2⟩:_/\_)) id
    refine ⟨l,l2,xs,ys,rfl,rfl,SqLS.sq (S:=S) h1,h2.sq,by rw [t1.length,t2.length];exact Nat.le_of_lt (zq hc),fun p hp=>q p _ ((g1.trans g2).lay' hp) ((g1.trans g2).free hp) (OwnO.laid hp ((t1.same g2).append t2))⟩
   ·cases e
  ·cases e
theorem qlD {u:Rho->Option Out} {w:Rho->Option (PyData×Rho)} {cs:List Str} {i:Nat} {uh:Rho->Option Out} {ρ ρ':Rho} {c:Str} {d:PyData} (h:w ρ=some (excD c d,ρ')) (hc:cs.contains c=true):sTry u w cs i uh ρ=ob (uh (ρ'.set i (some (excD c d)))) fun o=>some (qgU i o):=by
 unfold sTry
 rw [h]
 show (if cs.contains c=true then _ else _)=_
 rw [if_pos hc]
end L2
namespace L2
open PySem PySem.Spec PyProof.Rows
structure KnownDX (P:Program) (w:World) (K:PySem.W.Frag) (mg:Str->Option Value) (base:Heap) (x:Str) (n k:Nat) (h:List PyData->Option PyData) (dds:List PyData):Prop where
 ex:∃ (f:Addr) (fd:FuncData) (ps:List Str) (us:List Value) (dvs:List V),FnOk P w K mg base CX0 k f fd ps (spD K n h)/\mg x=some (.ref f)/\PySem.W.keepIn K (.ref f)=true/\Binds K fd ps us/\Vals dvs us/\∀ (H:Hp) (S:Av),DenL K H S dvs dds
theorem KnownDX.known {P:Program} {w:World} {K:PySem.W.Frag} {mg:Str->Option Value} {base:Heap} {x:Str} {n k:Nat} {h:List PyData->Option PyData} {dds:List PyData} (F:KnownDX P w K mg base x n k h dds):KnownX P w K mg base x n k h dds:=by
 obtain ⟨f,fd,ps,us,dvs,F,m,kp,b,v,t⟩:=F.ex
 exact ⟨f,fd,ps,us,dvs,F.imp fun vs H Q E ⟨S,ds,d,m,h1,h2,e,q⟩=>⟨S,ds,d,m,h1,h2,e,fun p fp H' g n o=>q _ H' g (o.den (fun r hr=>m.free (n r hr)) fun a _ z=>.inl z)⟩,m,kp,b,v,t⟩
section
variable {X:Cx} {G:Gm} {M M1 M' Mb L Mx:List Nat} {fr:Fr} {a c:Expr} {es:List Expr} {fs:Rho->Option (List PyData)} {pos:Pos} {x:Str} {o:Bool}
end
end L2
namespace L2
open PySem PySem.W PyProof.Rows
theorem Zw {α β:Type} {lt:Nat->Nat->Option Bool} {f:α->KasT β}:∀ (t:KasT α),runC lt (t.bind f)=ob (runC lt t) fun a=>runC lt (f a)
 | .ret _=>rfl
 | .ask i j k=>by
  show ob (lt i j) (fun b=>runC lt ((k b).bind f))=ob (ob (lt i j) fun b=>runC lt (k b)) _
  cases lt i j with
  | none=>rfl
  | some b=>exact Zw (k b)
structure IOrd (n:Nat) (lt:Nat->Nat->Option Bool) (blt:Nat->Nat->Bool):Prop where
 ask:∀ i j,i < n->j < n->lt i j=some (blt i j)
 irr:∀ i,blt i i=false
 tr:∀ i j k,blt i j=true->blt j k=true->blt i k=true
 neg:∀ i j k,blt i k=true->blt i j=true\/blt j k=true
def gp (p:Array Nat) (i:Nat):Nat:=p.getD i 0
def Qc (n:Nat) (p:Array Nat):Prop:=p.toList.Perm (List.range n)
def UpTo (blt:Nat->Nat->Bool) (p:Array Nat) (m:Nat):Prop:=∀ i j,i <= j->j < m->blt (gp p j) (gp p i)=false
section
variable {n:Nat} {lt:Nat->Nat->Option Bool} {blt:Nat->Nat->Bool} {p:Array Nat}
theorem Qc.size (h:Qc n p):p.size=n:=by
 have:=h.length_eq
 rw [Array.length_toList,List.length_range] at this
 exact this
theorem Qc.inb (h:Qc n p) {i:Nat} (hi:i < n):gp p i < n:=by
 have hs:=h.size
 have e:gp p i=p[i]'(by omega):=by simp [gp,Array.getD,hs,hi]
 have hm:p[i]'(by omega)∈p.toList:=by simp
 have:=h.mem_iff.mp hm
 rw [e]
 exact List.mem_range.mp this
theorem qcy {q:Array Nat} {i j:Nat} (h:q[i]?=p[j]?):gp q i=gp p j:=by
 unfold gp
 simp only [Array.getD_eq_getD_getElem?,h]
theorem IOrd.le_tr (O:IOrd n lt blt) {a b c:Nat} (h1:blt b a=false) (h2:blt c b=false):blt c a=false:=by
 cases h:blt c a with
 | false=>rfl
 | true =>
  rcases O.neg c b a h with z | z
  ·rw [h2] at z;cases z
  ·rw [h1] at z;cases z
theorem IOrd.asym (O:IOrd n lt blt) {a b:Nat} (h:blt a b=true):blt b a=false:=by
 cases z:blt b a with
 | false=>rfl
 | true =>
  have:=O.tr a b a h z
  rw [O.irr] at this
  cases this
theorem qfh (O:IOrd n lt blt) (hp:Qc n p) {k:Nat} (hk:k < n) (hs:UpTo blt p k):∀ (f l r:Nat),r - l <= f->l <= r->r <= k->(∀ i,i < l->blt (gp p k) (gp p i)=false)->(∀ i,r <= i->i < k->blt (gp p k) (gp p i)=true)->
  ∃ m,runC lt (kas_place p k f l r)=some m/\m <= k/\(∀ i,i < m->blt (gp p k) (gp p i)=false)/\(∀ i,m <= i->i < k->blt (gp p k) (gp p i)=true):=by
 intro f
 induction f with
 | zero =>
  intro l r h1 h2 h3 h4 h5
  exact ⟨l,rfl,by omega,h4,fun i hi hi2=>h5 i (by omega) hi2⟩
 | succ f ih =>
  intro l r h1 h2 h3 h4 h5
  unfold kas_place
  by_cases hlr:l >= r
  ·rw [if_pos hlr]
   exact ⟨l,rfl,by omega,h4,fun i hi hi2=>h5 i (by omega) hi2⟩
  ·rw [if_neg hlr]
   have hm:(l + r) / 2 < k:=by omega
   have ea:=O.ask (gp p k) (gp p ((l + r) / 2)) (hp.inb hk) (hp.inb (by omega))
   show ∃ m,ob (lt (gp p k) (gp p ((l + r) / 2))) (fun c=>runC lt (if c=true then kas_place p k f l ((l + r) / 2) else kas_place p k f ((l + r) / 2 + 1) r))=some m/\_
   rw [ea]
   cases hb:blt (gp p k) (gp p ((l + r) / 2)) with
   | true =>
    refine ih l ((l + r) / 2) (by omega) (by omega) (by omega) h4 fun i hi hi2=>?_
    cases z:blt (gp p k) (gp p i) with
    | true=>rfl
    | false =>
     have:=hs ((l + r) / 2) i hi hi2
     have q:=O.le_tr this z
     rw [hb] at q
     cases q
   | false =>
    refine ih ((l + r) / 2 + 1) r (by omega) (by omega) h3 (fun i hi=>?_) h5
    exact O.le_tr (hs i ((l + r) / 2) (by omega) hm) hb
theorem qcS {q:Array Nat} (h:Qc n p) (hq:q.Perm p):Qc n q:=(Array.perm_iff_toList_perm.mp hq).trans h
theorem qaP {k m:Nat} (hk:k < p.size) (hm:m <= k) (i:Nat):gp (bubble p k (k - m)) i=if i=m then gp p k else if m < i/\i <= k then gp p (i - 1) else gp p i:=by
 have e:=getElem?_bubble hk (k - m) (by omega) i
 have hkm:k - (k - m)=m:=by omega
 rw [hkm] at e
 by_cases h1:i=m
 ·rw [if_pos h1] at e ⊢;exact qcy e
 ·rw [if_neg h1] at e ⊢
  by_cases h2:m < i/\i <= k
  ·rw [if_pos h2] at e ⊢;exact qcy e
  ·rw [if_neg h2] at e ⊢;exact qcy e
theorem Z9 {i j:Nat} (hj:j <= p.size) (k:Nat):gp (kas_rev p i j) k=if i <= k/\k < j then gp p (i + j - 1 - k) else gp p k:=by
 have e:=getElem?_mirror_all (i:=i) hj k
 unfold kas_rev
 by_cases h1:i <= k/\k < j
 ·rw [if_pos h1] at e ⊢;exact qcy e
 ·rw [if_neg h1] at e ⊢;exact qcy e
theorem jx (h:Qc n p) (i j:Nat):Qc n (kas_rev p i j):=qcS h (mirror_perm _ _ _ _)
theorem qhX (O:IOrd n lt blt):∀ (f:Nat) (p:Array Nat) (k:Nat),Qc n p->UpTo blt p k->k + f=n->∃ p',runC lt (kas_bin f p k)=some p'/\Qc n p'/\UpTo blt p' n:=by
 intro f
 induction f with
 | zero=>exact fun p k hp hs e=>⟨p,rfl,hp,by rw [← e];exact hs⟩
 | succ f ih =>
  intro p k hp hs e
  have hk:k < n:=by omega
  obtain ⟨m,e1,h1,h2,h3⟩:=qfh O hp hk hs k 0 k (by omega) (by omega) (by omega) (fun i hi=>by omega) (fun i hi hi2=>by omega)
  have hz:=hp.size
  obtain ⟨p',e2,h4,h5⟩:=ih (bubble p k (k - m)) (k + 1) (qcS hp (bubble_perm _ _ _)) (fun i j hij hj=>by
   rw [qaP (by omega) h1,qaP (by omega) h1]
   by_cases a1:j=m
   ·rw [if_pos a1]
    by_cases a2:i=m
    ·rw [if_pos a2];exact O.irr _
    ·rw [if_neg a2,if_neg (by omega)]
     exact h2 i (by omega)
   ·rw [if_neg a1]
    by_cases a3:m < j/\j <= k
    ·rw [if_pos a3]
     by_cases a2:i=m
     ·rw [if_pos a2]
      exact O.asym (h3 (j - 1) (by omega) (by omega))
     ·rw [if_neg a2]
      by_cases a4:m < i/\i <= k
      ·rw [if_pos a4]
       exact hs (i - 1) (j - 1) (by omega) (by omega)
      ·rw [if_neg a4]
       exact hs i (j - 1) (by omega) (by omega)
    ·rw [if_neg a3,if_neg (by omega),if_neg (by omega)]
     exact hs i j hij (by omega)) (by omega)
  refine ⟨p',?_,h4,h5⟩
  unfold kas_bin
  rw [Zw,e1]
  exact e2
theorem qdO (O:IOrd n lt blt) (hp:Qc n p):∀ (f m:Nat),1 <= m->m + f <= n->UpTo blt p m->∃ m',runC lt (kas_asc p f m)=some m'/\m <= m'/\m' <= m + f/\UpTo blt p m'/\(m' < m + f->blt (gp p m') (gp p (m' - 1))=true):=by
 intro f
 induction f with
 | zero=>exact fun m h1 h2 hs=>⟨m,rfl,by omega,by omega,hs,fun z=>by omega⟩
 | succ f ih =>
  intro m h1 h2 hs
  have ea:=O.ask (gp p m) (gp p (m - 1)) (hp.inb (by omega)) (hp.inb (by omega))
  unfold kas_asc
  show ∃ m',ob (lt (gp p m) (gp p (m - 1))) (fun c=>runC lt (if c=true then .ret m else kas_asc p f (m + 1)))=some m'/\_
  rw [ea]
  cases hb:blt (gp p m) (gp p (m - 1)) with
  | true=>exact ⟨m,rfl,by omega,by omega,hs,fun _=>hb⟩
  | false =>
   obtain ⟨m',e1,h3,h4,h5,h6⟩:=ih (m + 1) (by omega) (by omega) (fun i j hij hj=>by
    by_cases hjm:j=m
    ·subst hjm
     by_cases hi:i=j
     ·subst hi;exact O.irr _
     ·exact O.le_tr (hs i (j - 1) (by omega) (by omega)) hb
    ·exact hs i j hij (by omega))
   exact ⟨m',e1,by omega,by omega,h5,fun z=>h6 (by omega)⟩
def Yo (blt:Nat->Nat->Bool) (p:Array Nat) (m:Nat):Prop:=∀ i j,i <= j->j < m->blt (gp p i) (gp p j)=false
def qfH (blt:Nat->Nat->Bool) (p:Array Nat) (a b:Nat):Prop:=∀ i j,a <= i->i < b->a <= j->j < b->blt (gp p i) (gp p j)=false
theorem qco (hp:Qc n p) {m a:Nat} (hm:m <= n) (ha:a <= m) (hd:Yo blt p m) (hs:qfH blt p a m):Yo blt (kas_rev p a m) m/\∀ i,i < m->∃ i',i' < m/\gp (kas_rev p a m) i=gp p i':=by
 have hz:=hp.size
 refine ⟨fun i j hij hj=>?_,fun i hi=>?_⟩
 ·rw [Z9 (by omega),Z9 (by omega)]
  by_cases h1:a <= i/\i < m
  ·rw [if_pos h1,if_pos (by omega)]
   exact hs _ _ (by omega) (by omega) (by omega) (by omega)
  ·rw [if_neg h1]
   by_cases h2:a <= j/\j < m
   ·rw [if_pos h2];exact hd _ _ (by omega) (by omega)
   ·rw [if_neg h2];exact hd _ _ hij hj
 ·rw [Z9 (by omega)]
  by_cases h1:a <= i/\i < m
  ·rw [if_pos h1];exact ⟨_,by omega,rfl⟩
  ·rw [if_neg h1];exact ⟨i,hi,rfl⟩
theorem qf7 (O:IOrd n lt blt):∀ (f:Nat) (p:Array Nat) (m q:Nat),Qc n p->m + f <= n->q + 1 <= m->Yo blt p m->qfH blt p (m - (q + 1)) m->
  ∃ p' m' q',runC lt (kas_desc f p m q)=some (p',m',q')/\Qc n p'/\m <= m'/\m' <= m + f/\q' + 1 <= m'/\Yo blt p' m'/\qfH blt p' (m' - (q' + 1)) m':=by
 intro f
 induction f with
 | zero=>exact fun p m q hp _ hq hd hs=>⟨p,m,q,rfl,hp,by omega,by omega,hq,hd,hs⟩
 | succ f ih =>
  intro p m q hp hm hq hd hs
  have hz:=hp.size
  have e1:=O.ask (gp p m) (gp p (m - 1)) (hp.inb (by omega)) (hp.inb (by omega))
  have e2:=O.ask (gp p (m - 1)) (gp p m) (hp.inb (by omega)) (hp.inb (by omega))
  unfold kas_desc
  show ∃ p' m' q',ob (lt (gp p m) (gp p (m - 1))) (fun c=>runC lt (if c=true then (if q > 0 then kas_desc f (kas_rev p (m - (q + 1)) m) (m + 1) 0 else kas_desc f p (m + 1) 0)
   else .ask (p.getD (m - 1) 0) (p.getD m 0) fun d=>if d=true then .ret (p,m,q) else kas_desc f p (m + 1) (q + 1)))=some (p',m',q')/\_
  rw [e1]
  cases hb:blt (gp p m) (gp p (m - 1)) with
  | true =>
   have below:∀ i,i < m->blt (gp p i) (gp p m)=false:=fun i hi=>O.le_tr (O.asym hb) (hd i (m - 1) (by omega) (by omega))
   show ∃ p' m' q',runC lt (if q > 0 then kas_desc f (kas_rev p (m - (q + 1)) m) (m + 1) 0 else kas_desc f p (m + 1) 0)=some (p',m',q')/\_
   by_cases hq0:q > 0
   ·rw [if_pos hq0]
    obtain ⟨d1,d2⟩:=qco (blt:=blt) hp (m:=m) (a:=m - (q + 1)) (by omega) (by omega) hd hs
    have gm:gp (kas_rev p (m - (q + 1)) m) m=gp p m:=by rw [Z9 (by omega),if_neg (by omega)]
    obtain ⟨p',m',q',r1,r2,r3,r4,r5,r6,r7⟩:=ih (kas_rev p (m - (q + 1)) m) (m + 1) 0 (jx hp _ _) (by omega) (by omega) (fun i j hij hj=>by
     by_cases hjm:j=m
     ·subst hjm
      by_cases hi:i=j
      ·subst hi;exact O.irr _
      ·obtain ⟨i',hi',ei⟩:=d2 i (by omega)
       rw [ei,gm]
       exact below i' hi'
     ·exact d1 i j hij (by omega)) (fun i j h1 h2 h3 h4=>by
      have:i=m:=by omega
      have:j=m:=by omega
      subst i;subst j;exact O.irr _)
    exact ⟨p',m',q',r1,r2,by omega,by omega,r5,r6,r7⟩
   ·rw [if_neg hq0]
    obtain ⟨p',m',q',r1,r2,r3,r4,r5,r6,r7⟩:=ih p (m + 1) 0 hp (by omega) (by omega) (fun i j hij hj=>by
     by_cases hjm:j=m
     ·subst hjm
      by_cases hi:i=j
      ·subst hi;exact O.irr _
      ·exact below i (by omega)
     ·exact hd i j hij (by omega)) (fun i j h1 h2 h3 h4=>by
      have:i=m:=by omega
      have:j=m:=by omega
      subst i;subst j;exact O.irr _)
    exact ⟨p',m',q',r1,r2,by omega,by omega,r5,r6,r7⟩
  | false =>
   show ∃ p' m' q',ob (lt (gp p (m - 1)) (gp p m)) (fun d=>runC lt (if d=true then .ret (p,m,q) else kas_desc f p (m + 1) (q + 1)))=some (p',m',q')/\_
   rw [e2]
   cases hd2:blt (gp p (m - 1)) (gp p m) with
   | true=>exact ⟨p,m,q,rfl,hp,by omega,by omega,hq,hd,hs⟩
   | false =>
    obtain ⟨p',m',q',r1,r2,r3,r4,r5,r6,r7⟩:=ih p (m + 1) (q + 1) hp (by omega) (by omega) (fun i j hij hj=>by
     by_cases hjm:j=m
     ·subst hjm
      by_cases hi:i=j
      ·subst hi;exact O.irr _
      ·exact O.le_tr hd2 (hd i (j - 1) (by omega) (by omega))
     ·exact hd i j hij (by omega)) (fun i j h1 h2 h3 h4=>by
      have s1:∀ i,m - (q + 1) <= i->i < m->blt (gp p i) (gp p m)=false/\blt (gp p m) (gp p i)=false:=fun i a b =>
       ⟨O.le_tr hd2 (hs i (m - 1) a b (by omega) (by omega)),O.le_tr (hs (m - 1) i (by omega) (by omega) a b) hb⟩
      by_cases hi:i=m
      ·subst hi
       by_cases hj:j=i
       ·subst hj;exact O.irr _
       ·exact (s1 j (by omega) (by omega)).2
      ·by_cases hj:j=m
       ·subst hj;exact (s1 i (by omega) (by omega)).1
       ·exact hs i j (by omega) (by omega) (by omega) (by omega))
    exact ⟨p',m',q',r1,r2,by omega,by omega,r5,r6,r7⟩
theorem qbd (O:IOrd n lt blt) (hp:Qc n p) {m:Nat} (h1:1 <= m) (h2:m <= n) (hd:Yo blt p m):∃ m' p',runC lt (kas_tail3 m n p)=some (m',p')/\Qc n p'/\1 <= m'/\m' <= n/\UpTo blt p' m':=by
 have hz:=hp.size
 obtain ⟨m',e1,h3,h4,h5,_⟩:=qdO O (jx hp 0 m) (n - m) m h1 (by omega) (fun i j hij hj=>by
  rw [Z9 (by omega),Z9 (by omega),if_pos (by omega),if_pos (by omega)]
  exact hd _ _ (by omega) (by omega))
 refine ⟨m',kas_rev p 0 m,?_,jx hp 0 m,by omega,by omega,h5⟩
 unfold kas_tail3
 rw [Zw,e1]
 rfl
theorem yE (O:IOrd n lt blt) (hp:Qc n p) {k:Nat} (h2:k + 1 <= n) (hd:Yo blt p (k + 1)):∃ m' p',runC lt (kas_descPart k n p)=some (m',p')/\Qc n p'/\1 <= m'/\m' <= n/\UpTo blt p' m':=by
 obtain ⟨p1,m1,q1,e1,r2,r3,r4,r5,r6,r7⟩:=qf7 O (n - (k + 1)) p (k + 1) 0 hp (by omega) (by omega) hd (fun i j a1 a2 a3 a4=>by
  have:i=k:=by omega
  have:j=k:=by omega
  subst i;subst j;exact O.irr _)
 unfold kas_descPart
 rw [Zw,e1]
 show ∃ m' p',runC lt (if q1 > 0 then kas_tail3 m1 n (kas_rev p1 (m1 - (q1 + 1)) m1) else kas_tail3 m1 n p1)=some (m',p')/\_
 by_cases hq:q1 > 0
 ·rw [if_pos hq]
  exact qbd O (jx r2 _ _) (by omega) (by omega) (qco r2 (by omega) (by omega) r6 r7).1
 ·rw [if_neg hq]
  exact qbd O r2 (by omega) (by omega) r6
theorem qeQ (O:IOrd n lt blt) (hp:Qc n p) (hn:1 <= n):∃ m' p',runC lt (kas_count n p)=some (m',p')/\Qc n p'/\1 <= m'/\m' <= n/\UpTo blt p' m':=by
 have hz:=hp.size
 obtain ⟨m,e1,h3,h4,h5,h6⟩:=qdO O hp (n - 1) 1 (by omega) (by omega) (fun i j hij hj=>by
  have:i=0:=by omega
  have:j=0:=by omega
  subst i;subst j;exact O.irr _)
 unfold kas_count
 rw [Zw,e1]
 show ∃ m' p',runC lt (if (m == n)=true then .ret (m,p) else if m > 1 then .ask (p.getD 0 0) (p.getD (m - 1) 0) fun c=>if c=true then .ret (m,p) else kas_descPart m n (kas_rev p 0 m) else kas_descPart m n p)=some (m',p')/\_
 by_cases hmn:m=n
 ·rw [if_pos (by simpa using hmn)]
  exact ⟨m,p,rfl,hp,by omega,by omega,h5⟩
 ·rw [if_neg (by simpa using hmn)]
  have hb:=h6 (by omega)
  by_cases hm1:m > 1
  ·rw [if_pos hm1]
   have ea:=O.ask (gp p 0) (gp p (m - 1)) (hp.inb (by omega)) (hp.inb (by omega))
   show ∃ m' p',ob (lt (gp p 0) (gp p (m - 1))) (fun c=>runC lt (if c=true then .ret (m,p) else kas_descPart m n (kas_rev p 0 m)))=some (m',p')/\_
   rw [ea]
   cases hc:blt (gp p 0) (gp p (m - 1)) with
   | true=>exact ⟨m,p,rfl,hp,by omega,by omega,h5⟩
   | false =>
    refine yE O (jx hp 0 m) (by omega) (fun i j hij hj=>?_)
    by_cases hjm:j=m
    ·by_cases hi:i=j
     ·rw [hi];exact O.irr _
     ·rw [Z9 (by omega),Z9 (by omega),if_pos (by omega),if_neg (by omega),hjm]
      exact O.le_tr (O.asym hb) (O.le_tr hc (h5 0 (0 + m - 1 - i) (by omega) (by omega)))
    ·rw [Z9 (by omega),Z9 (by omega),if_pos (by omega),if_pos (by omega)]
     exact h5 _ _ (by omega) (by omega)
  ·rw [if_neg hm1]
   have hm:m=1:=by omega
   subst hm
   refine yE O hp (by omega) (fun i j hij hj=>?_)
   by_cases hi:i=j
   ·rw [hi];exact O.irr _
   ·have e0:i=0:=by omega
    have ej:j=1:=by omega
    rw [e0,ej]
    exact O.asym hb
theorem qhE (O:IOrd n lt blt) (hn:1 <= n):∃ p',runC lt (kas_sort n)=some p'/\Qc n p'/\UpTo blt p' n:=by
 obtain ⟨m,p,e1,h1,h2,h3,h4⟩:=qeQ O (p:=(List.range n).toArray) (show Qc n _ from by unfold Qc;exact List.Perm.refl _) hn
 unfold kas_sort
 rw [Zw,e1]
 show ∃ p',runC lt (if m < n then kas_bin (n - max m 1) p (max m 1) else .ret p)=some p'/\_
 have hmax:max m 1=m:=by omega
 by_cases hm:m < n
 ·rw [if_pos hm,hmax]
  exact qhX O (n - m) p m h1 h4 (by omega)
 ·rw [if_neg hm]
  have:m=n:=by omega
  subst this
  exact ⟨p,rfl,h1,h4⟩
end
end L2
namespace L2
open PySem PySem.W PyProof.Rows
def tI (ns:List Int):PyData:=.tuple (ns.map .int)
theorem qaW:∀ xs:List Int,HT.lexLt xs xs=false
 | []=>rfl
 | x :: xs=>by rw [HT.zT,if_pos rfl];exact qaW xs
theorem qcH:∀ xs ys zs:List Int,HT.lexLt xs ys=true->HT.lexLt ys zs=true->HT.lexLt xs zs=true
 | [],[],_,h,_=>by cases h
 | [],_ :: _,[],_,h=>by cases h
 | [],_ :: _,_ :: _,_,_=>rfl
 | _ :: _,[],_,h,_=>by cases h
 | _ :: _,_ :: _,[],_,h=>by cases h
 | x :: xs,y :: ys,z :: zs,h1,h2=>by
  rw [HT.zT] at h1 h2 ⊢
  by_cases e1:x=y
  ·rw [if_pos e1] at h1
   by_cases e2:y=z
   ·rw [if_pos e2] at h2
    rw [if_pos (e1.trans e2)]
    exact qcH xs ys zs h1 h2
   ·rw [if_neg e2] at h2
    rw [if_neg (by rw [e1];exact e2),e1]
    exact h2
  ·rw [if_neg e1] at h1
   have h1':=of_decide_eq_true h1
   by_cases e2:y=z
   ·rw [if_neg (by rw [← e2];exact e1),← e2]
    exact h1
   ·rw [if_neg e2] at h2
    have h2':=of_decide_eq_true h2
    rw [if_neg (by omega)]
    exact decide_eq_true (by omega)
theorem qaX:∀ xs ys zs:List Int,HT.lexLt xs zs=true->HT.lexLt xs ys=true\/HT.lexLt ys zs=true
 | [],[],zs,h=>.inr h
 | [],_ :: _,_,_=>.inl rfl
 | _ :: _,_,[],h=>by cases h
 | _ :: _,[],_ :: _,_=>.inr rfl
 | x :: xs,y :: ys,z :: zs,h=>by
  rw [HT.zT] at h ⊢
  rw [HT.zT]
  by_cases e1:x=z
  ·rw [if_pos e1] at h
   subst e1
   by_cases e2:x=y
   ·subst e2
    rw [if_pos rfl,if_pos rfl]
    exact qaX xs ys zs h
   ·rw [if_neg e2,if_neg (fun z=>e2 z.symm)]
    by_cases hl:x < y
    ·exact .inl (decide_eq_true hl)
    ·exact .inr (decide_eq_true (by omega))
  ·rw [if_neg e1] at h
   have h':=of_decide_eq_true h
   by_cases e2:x=y
   ·subst e2
    rw [if_neg e1]
    exact .inr h
   ·rw [if_neg e2]
    by_cases hl:x < y
    ·exact .inl (decide_eq_true hl)
    ·right
     rw [if_neg (by omega)]
     exact decide_eq_true (by omega)
theorem qaY:∀ xs ys:List Int,HT.lexLt xs ys=false->HT.lexLt ys xs=false->xs=ys
 | [],[],_,_=>rfl
 | [],_ :: _,h,_=>by cases h
 | _ :: _,[],_,h=>by cases h
 | x :: xs,y :: ys,h1,h2=>by
  rw [HT.zT] at h1 h2
  by_cases e:x=y
  ·subst e
   rw [if_pos rfl] at h1 h2
   rw [qaY xs ys h1 h2]
  ·rw [if_neg e] at h1
   rw [if_neg (fun z=>e z.symm)] at h2
   have a1:=of_decide_eq_false h1
   have a2:=of_decide_eq_false h2
   omega
theorem qa0:∀ xs ys:List Int,ltXs (xs.map .int) (ys.map .int)=some (HT.lexLt xs ys)
 | [],[]=>by rw [List.map_nil,ltXs];rfl
 | [],_ :: _=>by rw [List.map_nil,List.map_cons,ltXs];rfl
 | _ :: _,[]=>by rw [List.map_nil,List.map_cons,ltXs];rfl
 | x :: xs,y :: ys=>by
  rw [List.map_cons,List.map_cons,ltXs,HT.zT]
  have e:PyData.eqv (.int x) (.int y)=(x == y):=rfl
  rw [e]
  by_cases h:x=y
  ·rw [if_pos (by simpa using h),if_pos h]
   exact qa0 xs ys
  ·rw [if_neg (by simpa using h),if_neg h,ltX]
theorem qgF (xs ys:List Int):ltX (tI xs) (tI ys)=some (HT.lexLt xs ys):=by
 unfold tI
 rw [ltX]
 exact qa0 xs ys
theorem qac {α:Type} (xs:List α) (d:α):(List.range xs.length).map (fun i=>xs.getD i d)=xs:=by
 apply List.ext_getElem
 ·simp
 ·intro i h1 h2
  simp [List.getD_eq_getElem?_getD,h2]
theorem qb1 {nss:List (List Int)} (hok:je 0 (nss.map tI)=true):∃ mss:List (List Int),zU [.list (nss.map tI)]=some (.list (mss.map tI))/\mss.Perm nss/\mss.Pairwise (fun a b=>HT.lexLt b a=false):=by
 have hn:2 <= nss.length/\nss.length < 64:=by
  unfold je at hok
  simp only [Bool.and_eq_true,decide_eq_true_eq,List.length_map] at hok
  exact ⟨hok.2.1,hok.2.2.1⟩
 have O:IOrd nss.length (qcJ (nss.map tI)) (fun i j=>HT.lexLt (nss.getD i []) (nss.getD j [])):=by
  refine ⟨fun i j hi hj=>?_,fun i=>qaW _,fun i j k=>qcH _ _ _,fun i j k=>qaX _ _ _⟩
  unfold qcJ
  rw [List.getElem?_map,List.getElem?_map,List.getElem?_eq_getElem hi,List.getElem?_eq_getElem hj]
  show ltX (tI nss[i]) (tI nss[j])=_
  rw [qgF,getD_some (List.getElem?_eq_getElem hi),getD_some (List.getElem?_eq_getElem hj)]
 obtain ⟨p,e1,hp,hs⟩:=qhE O (by omega)
 have hin:∀ i∈p.toList,i < nss.length:=fun i hi=>List.mem_range.mp (hp.mem_iff.mp hi)
 refine ⟨p.toList.map fun i=>nss.getD i [],?_,?_,?_⟩
 ·show (if (nss.map tI).length < 2 then some (PyData.list (nss.map tI)) else if je 0 (nss.map tI)=true\/je 1 (nss.map tI)=true then ob (runC (qcJ (nss.map tI)) (kas_sort (nss.map tI).length)) fun p=>qcT (nss.map tI) p else none)=_
  rw [if_neg (by rw [List.length_map];omega),if_pos (.inl hok),List.length_map,e1]
  show qcT (nss.map tI) p=_
  unfold qcT
  rw [if_pos ⟨List.all_eq_true.mpr fun i hi=>by rw [List.length_map];exact decide_eq_true (hin i hi),by rw [Array.length_toList,hp.size];omega⟩]
  congr 2
  rw [List.map_map]
  refine List.map_congr_left fun i hi=>?_
  have hi':=hin i hi
  show (nss.map tI).getD i .none=tI (nss.getD i [])
  rw [getD_some (show (nss.map tI)[i]?=some (tI nss[i]) from by rw [List.getElem?_map,List.getElem?_eq_getElem hi'];rfl),getD_some (List.getElem?_eq_getElem hi')]
 ·have:=hp.map (fun i=>nss.getD i [])
  rw [qac] at this
  exact this
 ·rw [List.pairwise_map,List.pairwise_iff_getElem]
  intro i j hi hj hij
  have hsz:=hp.size
  rw [Array.length_toList] at hi hj
  have:=hs i j (by omega) (by omega)
  have g1:gp p i=p.toList[i]'(by rw [Array.length_toList];exact hi):=by simp [gp,Array.getD,hi]
  have g2:gp p j=p.toList[j]'(by rw [Array.length_toList];exact hj):=by simp [gp,Array.getD,hj]
  rw [g1,g2] at this
  exact this
theorem qck:∀ ns:List Int,PyData.canLayAll0 (ns.map .int)=true/\PyData.depthAll (ns.map .int)=0
 | []=>⟨rfl,rfl⟩
 | n :: ns=>by
  obtain ⟨h1,h2⟩:=qck ns
  rw [List.map_cons]
  exact ⟨by simp [PyData.canLayAll0,PyData.canLay0,h1],by simp [PyData.depthAll,PyData.depth,h2]⟩
theorem Wm:∀ nss:List (List Int),PyData.canLayAll0 (nss.map tI)=true/\PyData.depthAll (nss.map tI) <= 1
 | []=>⟨rfl,Nat.zero_le _⟩
 | ns :: nss=>by
  obtain ⟨h1,h2⟩:=Wm nss
  obtain ⟨h3,h4⟩:=qck ns
  rw [List.map_cons]
  refine ⟨by simp [PyData.canLayAll0,tI,PyData.canLay0,h1,h3],?_⟩
  rw [PyData.depthAll,show (tI ns).depth=1 from by simp [tI,PyData.depth,h4]]
  omega
theorem qcZ {nss:List (List Int)} (h2:2 <= nss.length) (h64:nss.length < 64) (hne:∀ ns∈nss,ns≠[]):je 0 (nss.map tI)=true:=by
 obtain ⟨h3,h4⟩:=Wm nss
 unfold je
 simp only [Bool.and_eq_true,decide_eq_true_eq,List.length_map]
 refine ⟨List.all_eq_true.mpr fun d hd=>?_,h2,h64,h3,by omega⟩
 obtain ⟨ns,hn,rfl⟩:=List.mem_map.mp hd
 cases ns with
 | nil=>exact absurd rfl (hne [] hn)
 | cons n ns=>rfl
theorem qb2 {nss:List (List Int)} (h64:nss.length < 64) (hne:∀ ns∈nss,ns≠[]):∃ mss:List (List Int),zU [.list (nss.map tI)]=some (.list (mss.map tI))/\mss.Perm nss/\mss.Pairwise (fun a b=>HT.lexLt b a=false):=by
 by_cases h2:2 <= nss.length
 ·exact qb1 (qcZ h2 h64 hne)
 ·refine ⟨nss,?_,List.Perm.refl _,?_⟩
  ·show (if (nss.map tI).length < 2 then some (PyData.list (nss.map tI)) else _)=_
   rw [if_pos (by rw [List.length_map];omega)]
  ·match nss,h2 with
   | [],_=>exact .nil
   | [a],_=>exact .cons (fun _ z=>nomatch z) .nil
   | _ :: _ :: _,h2=>exact absurd (by simp) h2
theorem J7:∀ {as bs:List (List Int)},as.Perm bs->as.Pairwise (fun a b=>HT.lexLt b a=false)->bs.Pairwise (fun a b=>HT.lexLt b a=false)->as=bs
 | [],bs,h,_,_=>(List.nil_perm.mp h).symm
 | a :: as,[],h,_,_=>absurd h (by simp)
 | a :: as,b :: bs,h,h1,h2=>by
  rw [List.pairwise_cons] at h1 h2
  have e:a=b:=by
   have ma:a∈b :: bs:=h.mem_iff.mp (.head _)
   have mb:b∈a :: as:=h.mem_iff.mpr (.head _)
   rcases List.mem_cons.mp ma with z | z
   ·exact z
   ·rcases List.mem_cons.mp mb with y | y
    ·exact y.symm
    ·exact qaY a b (h2.1 a z) (h1.1 b y)
  subst e
  rw [J7 h.cons_inv h1.2 h2.2]
end L2
namespace SF
open PySem L2
def top (i:Nat):Stmt:=PySem.Challenge.pw_sheetfold_k22_outward.main.body.getD i (.Pass ⟨0,0,0,0⟩)
def yz:PyData:=(.tuple [(.tuple [(.int (-1)),(.int (0)),(.int (0))]),(.tuple [(.int (0)),(.int (-1)),(.int (0))]),(.tuple [(.int (0)),(.int (0)),(.int (-1))]),(.tuple [(.int (0)),(.int (0)),(.int (1))]),(.tuple [(.int (0)),(.int (1)),(.int (0))]),(.tuple [(.int (1)),(.int (0)),(.int (0))])])
def XS:List (Str×List Str):=[("SheetError", ["SheetError", "ValueError"]),("NoDrawing", ["NoDrawing", "SheetError", "ValueError"]),("NoBend", ["NoBend", "SheetError", "ValueError"]),("NoSquare", ["NoSquare", "SheetError", "ValueError"]),("TooMany", ["TooMany", "SheetError", "ValueError"]),("NoTurn", ["NoTurn", "SheetError", "ValueError"]),("NoRow", ["NoRow", "SheetError", "ValueError"]),("NoName", ["NoName", "SheetError", "ValueError"]),("NotClosed", ["NotClosed", "SheetError", "ValueError"]),("NoSheet", ["NoSheet", "SheetError", "ValueError"]),("NoSolid", ["NoSolid", "SheetError", "ValueError"]),("NoTree", ["NoTree", "SheetError", "ValueError"]),("NoWay", ["NoWay", "SheetError", "ValueError"]),("Crowded", ["Crowded", "SheetError", "ValueError"])]
abbrev Ze:Stmt:=top 17
abbrev qdJ:List Str:=["one", "other"]
theorem qhA:FnScope qdJ ["one", "other"] (qb Ze):=⟨rfl,rfl,rfl,by decide +kernel,rfl,by decide +kernel,by decide +kernel⟩
theorem Y4:visB (qb Ze) "one" = true:=by decide +kernel
theorem qkJ:locB (qb Ze) "one" = true:=by decide +kernel
theorem Y5:visB (qb Ze) "other" = true:=by decide +kernel
theorem qkK:locB (qb Ze) "other" = true:=by decide +kernel
def qb6:Rho->Option Out:=(sRet (evA (aC (ev2 (ev2 (vr 0) (kd (.int 0)) ixD) (ev2 (vr 1) (kd (.int 0)) ixD) qM) (aC (ev2 (ev2 (vr 0) (kd (.int 1)) ixD) (ev2 (vr 1) (kd (.int 1)) ixD) qM) (aC (ev2 (ev2 (vr 0) (kd (.int 2)) ixD) (ev2 (vr 1) (kd (.int 2)) ixD) qM) aN))) tupD))
def Zt (ds:List PyData):Option PyData:=ob (qb6 (rho0 qdJ.length ds)) outD
theorem qiA {P:Program} {w:World} {K:PySem.W.Frag} {mg:Str->Option Value} {base:Heap} {f:Addr} {fd:FuncData} (F:Fun K "added" "added" Ze f fd) (m:mg "added" = some (.ref f)) (b:Binds K fd ["one", "other"] []):Known P w K mg base "added" 2 1 Zt:=by
 refine ⟨f,fd,["one", "other"],F.pure (k:=0) (u:=qb6) (M':=[]) qhA rfl (fun cdv A outer s H E hr G=>?_),m,F.kp,b⟩
 refine qz ?_
 refine qX ?_
 refine zB ?_
 refine qd ?_ ?_
 refine qC zj ?_ ?_
 refine qU ?_ ?_
 exact qe 0 (qg Y4) (by decide)
 exact qi
 refine qU ?_ ?_
 exact qe 1 (qg Y5) (by decide)
 exact qi
 refine qd ?_ ?_
 refine qC zj ?_ ?_
 refine qU ?_ ?_
 exact qe 0 (qg Y4) (by decide)
 exact qi
 refine qU ?_ ?_
 exact qe 1 (qg Y5) (by decide)
 exact qi
 refine qd ?_ ?_
 refine qC zj ?_ ?_
 refine qU ?_ ?_
 exact qe 0 (qg Y4) (by decide)
 exact qi
 refine qU ?_ ?_
 exact qe 1 (qg Y5) (by decide)
 exact qi
 exact qm
abbrev QF:Stmt:=top 18
abbrev qaG:List Str:=["spot"]
theorem qdA:FnScope qaG ["spot"] (qb QF):=⟨rfl,rfl,rfl,by decide +kernel,rfl,by decide +kernel,by decide +kernel⟩
theorem Jz:visB (qb QF) "spot" = true:=by decide +kernel
theorem qiO:locB (qb QF) "spot" = true:=by decide +kernel
def YT:Rho->Option Out:=(sRet (evA (aC (ev1 (ev2 (vr 0) (kd (.int 0)) ixD) negD) (aC (ev1 (ev2 (vr 0) (kd (.int 1)) ixD) negD) (aC (ev1 (ev2 (vr 0) (kd (.int 2)) ixD) negD) aN))) tupD))
def jm (ds:List PyData):Option PyData:=ob (YT (rho0 qaG.length ds)) outD
theorem qe2 {P:Program} {w:World} {K:PySem.W.Frag} {mg:Str->Option Value} {base:Heap} {f:Addr} {fd:FuncData} (F:Fun K "negated" "negated" QF f fd) (m:mg "negated" = some (.ref f)) (b:Binds K fd ["spot"] []):Known P w K mg base "negated" 1 1 jm:=by
 refine ⟨f,fd,["spot"],F.pure (k:=0) (u:=YT) (M':=[]) qdA rfl (fun cdv A outer s H E hr G=>?_),m,F.kp,b⟩
 refine qz ?_
 refine qX ?_
 refine zB ?_
 refine qd ?_ ?_
 refine qeu qd0 ?_
 refine qU ?_ ?_
 exact qe 0 (qg Jz) (by decide)
 exact qi
 refine qd ?_ ?_
 refine qeu qd0 ?_
 refine qU ?_ ?_
 exact qe 0 (qg Jz) (by decide)
 exact qi
 refine qd ?_ ?_
 refine qeu qd0 ?_
 refine qU ?_ ?_
 exact qe 0 (qg Jz) (by decide)
 exact qi
 exact qm
abbrev Qk:Stmt:=top 20
abbrev Yq:List Str:=["square"]
theorem qdy:FnScope Yq ["square"] (qb Qk):=⟨rfl,rfl,rfl,by decide +kernel,rfl,by decide +kernel,by decide +kernel⟩
theorem qc4:visB (qb Qk) "square" = true:=by decide +kernel
theorem qiM:locB (qb Qk) "square" = true:=by decide +kernel
def YS:Rho->Option Out:=(sRet (ev2 (jk 1 (evI (vr 0) seqD) tT (ev2 (vr 1) (kd (.int 2)) modD)) (kd (.int 0)) Jk))
def Qz (ds:List PyData):Option PyData:=ob (YS (rho0 Yq.length ds)) outD
theorem qe0 {P:Program} {w:World} {K:PySem.W.Frag} {mg:Str->Option Value} {base:Heap} {f:Addr} {fd:FuncData} (F:Fun K "axis_of" "axis_of" Qk f fd) (m:mg "axis_of" = some (.ref f)) (b:Binds K fd ["square"] []):Known P w K mg base "axis_of" 1 1 Qz:=by
 refine ⟨f,fd,["square"],F.pure (k:=0) (u:=YS) (M':=[]) qdy rfl (fun cdv A outer s H E hr G=>?_),m,F.kp,b⟩
 refine qz ?_
 refine qX ?_
 refine qgY hr ?_ ?_
 refine Yd (CompOk.of (k:=1) Yq ["square", "number"] (qb Qk) rfl rfl rfl (by decide +kernel)) rfl (by decide +kernel) ?_ (fun _ _ _ _ _ _=>?_) (fun _ _ _ _ _ _=>?_)
 refine zM ?_
 exact qe 0 (qg qc4) (by decide)
 exact jw
 refine qC QK ?_ ?_
 exact qe 1 (zr (by decide +kernel)) (by decide)
 exact qi
 exact qi
abbrev zQ:Stmt:=top 21
abbrev wj:List Str:=["cube"]
theorem qbZ:FnScope wj ["cube"] (qb zQ):=⟨rfl,rfl,rfl,by decide +kernel,rfl,by decide +kernel,by decide +kernel⟩
theorem jj:visB (qb zQ) "cube" = true:=by decide +kernel
theorem qgC:locB (qb zQ) "cube" = true:=by decide +kernel
def Jp:Rho->Option Out:=(sRet (evA (aC (ev2 (ev2 (kd (.int 2)) (ev2 (vr 0) (kd (.int 0)) ixD) mulD) (kd (.int 1)) qM) (aC (ev2 (ev2 (kd (.int 2)) (ev2 (vr 0) (kd (.int 1)) ixD) mulD) (kd (.int 1)) qM) (aC (ev2 (ev2 (kd (.int 2)) (ev2 (vr 0) (kd (.int 2)) ixD) mulD) (kd (.int 1)) qM) aN))) tupD))
def zG (ds:List PyData):Option PyData:=ob (Jp (rho0 wj.length ds)) outD
theorem qcF {P:Program} {w:World} {K:PySem.W.Frag} {mg:Str->Option Value} {base:Heap} {f:Addr} {fd:FuncData} (F:Fun K "middle_of" "middle_of" zQ f fd) (m:mg "middle_of" = some (.ref f)) (b:Binds K fd ["cube"] []):Known P w K mg base "middle_of" 1 1 zG:=by
 refine ⟨f,fd,["cube"],F.pure (k:=0) (u:=Jp) (M':=[]) qbZ rfl (fun cdv A outer s H E hr G=>?_),m,F.kp,b⟩
 refine qz ?_
 refine qX ?_
 refine zB ?_
 refine qd ?_ ?_
 refine qC zj ?_ ?_
 refine qC ZZ ?_ ?_
 exact qi
 refine qU ?_ ?_
 exact qe 0 (qg jj) (by decide)
 exact qi
 exact qi
 refine qd ?_ ?_
 refine qC zj ?_ ?_
 refine qC ZZ ?_ ?_
 exact qi
 refine qU ?_ ?_
 exact qe 0 (qg jj) (by decide)
 exact qi
 exact qi
 refine qd ?_ ?_
 refine qC zj ?_ ?_
 refine qC ZZ ?_ ?_
 exact qi
 refine qU ?_ ?_
 exact qe 0 (qg jj) (by decide)
 exact qi
 exact qi
 exact qm
abbrev QD:Stmt:=top 22
abbrev qaF:List Str:=["spot"]
theorem qdz:FnScope qaF ["spot"] (qb QD):=⟨rfl,rfl,rfl,by decide +kernel,rfl,by decide +kernel,by decide +kernel⟩
theorem Jy:visB (qb QD) "spot" = true:=by decide +kernel
theorem qiN:locB (qb QD) "spot" = true:=by decide +kernel
def jy:Rho->Option Out:=(sRet (evA (aC (ev2 (ev2 (vr 0) (kd (.int 0)) ixD) (kd (.int 2)) zY) (aC (ev2 (ev2 (vr 0) (kd (.int 1)) ixD) (kd (.int 2)) zY) (aC (ev2 (ev2 (vr 0) (kd (.int 2)) ixD) (kd (.int 2)) zY) aN))) tupD))
def Q7 (ds:List PyData):Option PyData:=ob (jy (rho0 qaF.length ds)) outD
theorem qe1 {P:Program} {w:World} {K:PySem.W.Frag} {mg:Str->Option Value} {base:Heap} {f:Addr} {fd:FuncData} (F:Fun K "cube_of" "cube_of" QD f fd) (m:mg "cube_of" = some (.ref f)) (b:Binds K fd ["spot"] []):Known P w K mg base "cube_of" 1 1 Q7:=by
 refine ⟨f,fd,["spot"],F.pure (k:=0) (u:=jy) (M':=[]) qdz rfl (fun cdv A outer s H E hr G=>?_),m,F.kp,b⟩
 refine qz ?_
 refine qX ?_
 refine zB ?_
 refine qd ?_ ?_
 refine qC Qu ?_ ?_
 refine qU ?_ ?_
 exact qe 0 (qg Jy) (by decide)
 exact qi
 exact qi
 refine qd ?_ ?_
 refine qC Qu ?_ ?_
 refine qU ?_ ?_
 exact qe 0 (qg Jy) (by decide)
 exact qi
 exact qi
 refine qd ?_ ?_
 refine qC Qu ?_ ?_
 refine qU ?_ ?_
 exact qe 0 (qg Jy) (by decide)
 exact qi
 exact qi
 exact qm
abbrev qK:Stmt:=top 23
abbrev Zy:List Str:=["square", "axis", "lower"]
theorem wA:FnScope Zy ["square"] (qb qK):=⟨rfl,rfl,rfl,by decide +kernel,rfl,by decide +kernel,by decide +kernel⟩
theorem jR:visB (qb qK) "square" = true:=by decide +kernel
theorem qhQ:locB (qb qK) "square" = true:=by decide +kernel
theorem qjF:visB (qb qK) "axis" = true:=by decide +kernel
theorem qay:locB (qb qK) "axis" = true:=by decide +kernel
theorem qb9:visB (qb qK) "lower" = true:=by decide +kernel
theorem qhR:locB (qb qK) "lower" = true:=by decide +kernel
theorem JZ:glB (qb qK) "axis_of" = true:=by decide +kernel
theorem j5:glB (qb qK) "enumerate" = true:=by decide +kernel
theorem Zo:glB (qb qK) "cube_of" = true:=by decide +kernel
def ZM:Rho->Option Out:=(seqO (sSet 1 (evC 1 (aC (vr 0) aN) Qz)) (seqO (zP 2 (J4 3 2 (evI (vr 0) qcq) (unpD 2 (gsC (gNm 3) (gsC (gNm 4) gsN))) tT (vIf (tV (ev2 (vr 3) (vr 1) eqD)) (ev2 (vr 4) (kd (.int 1)) subD) (vr 4)))) (sRet (evA (aC (evC 1 (aC (vr 2) aN) Q7) (aC (evC 1 (aC (vr 0) aN) Q7) aN)) tupD))))
def Qv (ds:List PyData):Option PyData:=ob (ZM (rho0 Zy.length ds)) outD
theorem qdk {P:Program} {w:World} {K:PySem.W.Frag} {mg:Str->Option Value} {base:Heap} {f:Addr} {fd:FuncData} (F:Fun K "cubes_at" "cubes_at" qK f fd) (m:mg "cubes_at" = some (.ref f)) (b:Binds K fd ["square"] []) (K_axis_of:Known P w K mg base "axis_of" 1 1 Qz) (K_cube_of:Known P w K mg base "cube_of" 1 1 Q7) (z_enumerate:mg "enumerate" = none):Known P w K mg base "cubes_at" 1 2 Qv:=by
 refine ⟨f,fd,["square"],F.pure (k:=1) (u:=ZM) (M':=[]) wA rfl (fun cdv A outer s H E hr G=>?_),m,F.kp,b⟩
 refine qt (M1:=[]) ?_ ?_
 refine zx 1 ?_ ?_ ?_ ?_ ?_ ?_ ?_
 ·exact wA.nd
 ·exact (qO qay)
 ·rfl
 ·rfl
 ·exact .inl rfl
 ·decide
 refine qP K_axis_of hr (by decide) (qD (qb qK) rfl JZ) ?_ rfl
 refine qd ?_ ?_
 exact qe 0 (qg jR) (by decide)
 exact qm
 refine qt (M1:=[2]) ?_ ?_
 refine qa4 2 (CompOk.of (k:=2) Zy ["square", "axis", "lower", "k", "number"] (qb qK) rfl rfl rfl (by decide +kernel)) (qit (qaO (yJ (by decide)) (qaO (yJ (by decide)) qge))) (qb qK) rfl (by decide +kernel) (by decide) (by decide) ?_ (fun _ _ _ _ _ _=>qg0 rfl (W7 (Wg (i:=3) (CompOk.of (k:=2) Zy ["square", "axis", "lower", "k", "number"] (qb qK) rfl rfl rfl (by decide +kernel)) rfl (by decide +kernel) _ _ _ _ _ _) (W7 (Wg (i:=4) (CompOk.of (k:=2) Zy ["square", "axis", "lower", "k", "number"] (qb qK) rfl rfl rfl (by decide +kernel)) rfl (by decide +kernel) _ _ _ _ _ _) qfc))) (fun _ _ _ _ _ _=>?_) (fun _ _ _ _ _ _=>?_)
 refine qg2 (qD (qb qK) rfl j5) z_enumerate ?_
 exact qe 0 (qg jR) (by decide)
 exact jw
 refine qcP ?_ ?_ ?_
 refine zN (d_eq hr) ?_ ?_ (QR _)
 exact qe 3 (zr (by decide +kernel)) (by decide)
 exact qe 1 (zr (by decide +kernel)) (by decide)
 refine qC yD ?_ ?_
 exact qe 4 (zr (by decide +kernel)) (by decide)
 exact qi
 exact qe 4 (zr (by decide +kernel)) (by decide)
 refine qz ?_
 refine qX ?_
 refine zB ?_
 refine qd ?_ ?_
 refine qP K_cube_of hr (by decide) (qD (qb qK) rfl Zo) ?_ rfl
 refine qd ?_ ?_
 exact qe 2 (qg qb9) (by decide)
 exact qm
 refine qd ?_ ?_
 refine qP K_cube_of hr (by decide) (qD (qb qK) rfl Zo) ?_ rfl
 refine qd ?_ ?_
 exact qe 0 (qg jR) (by decide)
 exact qm
 exact qm
abbrev qN:Stmt:=top 24
abbrev Ys:List Str:=["cubes", "counts", "cube", "unit", "square"]
theorem ZK:FnScope Ys ["cubes"] (qb qN):=⟨rfl,rfl,rfl,by decide +kernel,rfl,by decide +kernel,by decide +kernel⟩
theorem qc5:visB (qb qN) "cubes" = true:=by decide +kernel
theorem qiR:locB (qb qN) "cubes" = true:=by decide +kernel
theorem JB:visB (qb qN) "counts" = true:=by decide +kernel
theorem qbJ:locB (qb qN) "counts" = true:=by decide +kernel
theorem qc6:visB (qb qN) "cube" = true:=by decide +kernel
theorem qbK:locB (qb qN) "cube" = true:=by decide +kernel
theorem qc7:visB (qb qN) "unit" = true:=by decide +kernel
theorem qbL:locB (qb qN) "unit" = true:=by decide +kernel
theorem wD:visB (qb qN) "square" = true:=by decide +kernel
theorem qbM:locB (qb qN) "square" = true:=by decide +kernel
theorem Jj:glB (qb qN) "middle_of" = true:=by decide +kernel
theorem YG:glB (qb qN) "added" = true:=by decide +kernel
theorem YF:glB (qb qN) "UNITS" = true:=by decide +kernel
theorem yR:glB (qb qN) "sorted" = true:=by decide +kernel
def YX:Rho->Option Out:=(seqO (zP 1 (kd (.dict []))) (seqO (sFor (evI (vr 0) seqD) (gNm 2) (sFor (evI (kd yz) seqD) (gNm 3) (seqO (sSet 4 (evC 2 (aC (evC 1 (aC (vr 2) aN) zG) (aC (vr 3) aN)) Zt)) (qbb 1 (vr 4) (Qe (ev2 (ev3 (vr 1) (vr 4) (kd (.int 0)) Wu) (kd (.int 1)) qM)))))) (sRet (evA (aC (jk 5 (evI (vr 1) qgl) (tV (ev2 (ev2 (vr 1) (vr 5) ix2D) (kd (.int 1)) eqD)) (vr 5)) aN) zU))))
def QB (ds:List PyData):Option PyData:=ob (YX (rho0 Ys.length ds)) outD
theorem qe4 {P:Program} {w:World} {K:PySem.W.Frag} {mg:Str->Option Value} {base:Heap} {f:Addr} {fd:FuncData} (F:Fun K "skin_of" "skin_of" qN f fd) (m:mg "skin_of" = some (.ref f)) (b:Binds K fd ["cubes"] []) (K_added:Known P w K mg base "added" 2 1 Zt) (K_middle_of:Known P w K mg base "middle_of" 1 1 zG) (z_sorted:mg "sorted" = none) (C_UNITS:qc9 K mg "UNITS" yz):Known P w K mg base "skin_of" 1 2 QB:=by
 refine ⟨f,fd,["cubes"],F.pure (k:=1) (u:=YX) (M':=[]) ZK rfl (fun cdv A outer s H E hr G=>?_),m,F.kp,b⟩
 refine qt (M1:=[1]) ?_ ?_
 refine QS 1 ?_ ?_ ?_ ?_ ?_ ?_ ?_ ?_
 ·exact ZK.nd
 ·exact (qO qbJ)
 ·rfl
 ·rfl
 ·exact .inl rfl
 ·decide
 ·decide
 exact qhg
 refine qt (M1:=[1]) ?_ ?_
 refine Qq PassesOwn.never rfl ?_ (fun _=>?_) (fun _=>?_)
 refine zM ?_
 exact qe 0 (qg qc5) (by decide)
 exact zJ 2 ZK.nd (qO qbK) (by decide)
 refine qz ?_
 refine Qq PassesOwn.never rfl ?_ (fun _=>?_) (fun _=>?_)
 refine zM ?_
 exact qgX C_UNITS (qD (qb qN) rfl YF)
 exact zJ 3 ZK.nd (qO qbL) (by decide)
 refine qt (M1:=[1]) ?_ ?_
 refine zx 4 ?_ ?_ ?_ ?_ ?_ ?_ ?_
 ·exact ZK.nd
 ·exact (qO qbM)
 ·rfl
 ·rfl
 ·exact .inl rfl
 ·decide
 refine qP K_added hr (by decide) (qD (qb qN) rfl YG) ?_ rfl
 refine qd ?_ ?_
 refine qP K_middle_of hr (by decide) (qD (qb qN) rfl Jj) ?_ rfl
 refine qd ?_ ?_
 exact qe 2 (qg qc6) (by decide)
 exact qm
 refine qd ?_ ?_
 exact qe 3 (qg qc7) (by decide)
 exact qm
 refine qz ?_
 refine qfd hr 1 (qg JB) (by decide) (by decide) ?_ ?_
 exact qe 4 (qg wD) (by decide)
 refine qC zj ?_ ?_
 refine qi3 hr ?_ ?_ ?_
 exact qe 1 (qg JB) (by decide)
 exact qe 4 (qg wD) (by decide)
 exact qi
 exact qi
 refine qz ?_
 refine qX ?_
 refine W6 ?_
 refine qad (W3 hr) (qD (qb qN) rfl yR) z_sorted jG ?_
 refine qd ?_ ?_
 refine Yd (CompOk.of (k:=1) Ys ["cubes", "counts", "cube", "unit", "", "square"] (qb qN) rfl rfl rfl (by decide +kernel)) rfl (by decide +kernel) ?_ (fun _ _ _ _ _ _=>?_) (fun _ _ _ _ _ _=>?_)
 refine qg1 ?_
 exact qe 1 (qg JB) (by decide)
 refine qg7 ?_
 refine zN (d_eq hr) ?_ ?_ (QR _)
 refine qk1 hr ?_ ?_
 exact qe 1 (zr (by decide +kernel)) (by decide)
 exact qe 5 (zr (by decide +kernel)) (by decide)
 exact qi
 exact qe 5 (zr (by decide +kernel)) (by decide)
 exact qm
abbrev qx:Stmt:=top 27
abbrev j9:List Str:=["solid", "square", "pair", "within"]
theorem Zm:FnScope j9 ["solid", "square"] (qb qx):=⟨rfl,rfl,rfl,by decide +kernel,rfl,by decide +kernel,by decide +kernel⟩
theorem Y6:visB (qb qx) "solid" = true:=by decide +kernel
theorem qel:locB (qb qx) "solid" = true:=by decide +kernel
theorem jD:visB (qb qx) "square" = true:=by decide +kernel
theorem qem:locB (qb qx) "square" = true:=by decide +kernel
theorem Zc:visB (qb qx) "pair" = true:=by decide +kernel
theorem yV:locB (qb qx) "pair" = true:=by decide +kernel
theorem Y7:visB (qb qx) "within" = true:=by decide +kernel
theorem yW:locB (qb qx) "within" = true:=by decide +kernel
theorem Z8:glB (qb qx) "cubes_at" = true:=by decide +kernel
theorem ZX:glB (qb qx) "middle_of" = true:=by decide +kernel
theorem jr:glB (qb qx) "negated" = true:=by decide +kernel
theorem j6:glB (qb qx) "added" = true:=by decide +kernel
def QW:Rho->Option Out:=(seqO (sSet 2 (evC 1 (aC (vr 1) aN) Qv)) (seqO (sSet 3 (vIf (tV (ev2 (ev2 (vr 2) (kd (.int 0)) ixD) (vr 0) inD)) (ev2 (vr 2) (kd (.int 0)) ixD) (ev2 (vr 2) (kd (.int 1)) ixD))) (sRet (evC 2 (aC (vr 1) (aC (evC 1 (aC (evC 1 (aC (vr 3) aN) zG) aN) jm) aN)) Zt))))
def zA (ds:List PyData):Option PyData:=ob (QW (rho0 j9.length ds)) outD
theorem WL {P:Program} {w:World} {K:PySem.W.Frag} {mg:Str->Option Value} {base:Heap} {f:Addr} {fd:FuncData} (F:Fun K "outward_from" "outward_from" qx f fd) (m:mg "outward_from" = some (.ref f)) (b:Binds K fd ["solid", "square"] []) (K_cubes_at:Known P w K mg base "cubes_at" 1 2 Qv) (K_added:Known P w K mg base "added" 2 1 Zt) (K_negated:Known P w K mg base "negated" 1 1 jm) (K_middle_of:Known P w K mg base "middle_of" 1 1 zG):Known P w K mg base "outward_from" 2 3 zA:=by
 refine ⟨f,fd,["solid", "square"],F.pure (k:=2) (u:=QW) (M':=[]) Zm rfl (fun cdv A outer s H E hr G=>?_),m,F.kp,b⟩
 refine qt (M1:=[]) ?_ ?_
 refine zx 2 ?_ ?_ ?_ ?_ ?_ ?_ ?_
 ·exact Zm.nd
 ·exact (qO yV)
 ·rfl
 ·rfl
 ·exact .inl rfl
 ·decide
 refine qP K_cubes_at hr (by decide) (qD (qb qx) rfl Z8) ?_ rfl
 refine qd ?_ ?_
 exact qe 1 (qg jD) (by decide)
 exact qm
 refine qt (M1:=[]) ?_ ?_
 refine zx 3 ?_ ?_ ?_ ?_ ?_ ?_ ?_
 ·exact Zm.nd
 ·exact (qO yW)
 ·rfl
 ·rfl
 ·exact .inl rfl
 ·decide
 refine qcP ?_ ?_ ?_
 refine zN (d_in hr) ?_ ?_ rfl
 refine qU ?_ ?_
 exact qe 2 (qg Zc) (by decide)
 exact qi
 exact qe 0 (qg Y6) (by decide)
 refine qU ?_ ?_
 exact qe 2 (qg Zc) (by decide)
 exact qi
 refine qU ?_ ?_
 exact qe 2 (qg Zc) (by decide)
 exact qi
 refine qz ?_
 refine qX ?_
 refine qP K_added hr (by decide) (qD (qb qx) rfl j6) ?_ rfl
 refine qd ?_ ?_
 exact qe 1 (qg jD) (by decide)
 refine qd ?_ ?_
 refine qP K_negated hr (by decide) (qD (qb qx) rfl jr) ?_ rfl
 refine qd ?_ ?_
 refine qP K_middle_of hr (by decide) (qD (qb qx) rfl ZX) ?_ rfl
 refine qd ?_ ?_
 exact qe 3 (qg Y7) (by decide)
 exact qm
 exact qm
 exact qm
abbrev qW:Stmt:=top 29
abbrev j7:List Str:=["_law_script", "_law_k"]
theorem wZ:FnScope j7 ["_law_script", "_law_k"] (qb qW):=⟨rfl,rfl,rfl,by decide +kernel,rfl,by decide +kernel,by decide +kernel⟩
theorem jz:visB (qb qW) "_law_script" = true:=by decide +kernel
theorem qeg:locB (qb qW) "_law_script" = true:=by decide +kernel
theorem jA:visB (qb qW) "_law_k" = true:=by decide +kernel
theorem qeh:locB (qb qW) "_law_k" = true:=by decide +kernel
theorem JR:glB (qb qW) "len" = true:=by decide +kernel
def ZL:Rho->Option Out:=(seqO (sIf (tV (ev2 (vr 1) (evA (aC (vr 0) aN) lenD) ltD2)) (sRet (ev2 (vr 0) (vr 1) ixD)) sN) (sRet (kd (.int 0))))
def zO (ds:List PyData):Option PyData:=ob (ZL (rho0 j7.length ds)) outD
theorem WF {P:Program} {w:World} {K:PySem.W.Frag} {mg:Str->Option Value} {base:Heap} {f:Addr} {fd:FuncData} (F:Fun K "_law_cell_at" "_law_cell_at" qW f fd) (m:mg "_law_cell_at" = some (.ref f)) (b:Binds K fd ["_law_script", "_law_k"] []) (z_len:mg "len" = none):Known P w K mg base "_law_cell_at" 2 1 zO:=by
 refine ⟨f,fd,["_law_script", "_law_k"],F.pure (k:=0) (u:=ZL) (M':=[]) wZ rfl (fun cdv A outer s H E hr G=>?_),m,F.kp,b⟩
 refine qt (M1:=[]) ?_ ?_
 refine Zb ?_ ?_ ?_
 refine zN (qjO hr) ?_ ?_ (QR _)
 exact qe 1 (qg jA) (by decide)
 refine Zh qci (qD (qb qW) rfl JR) z_len PySem.boot_len ?_
 refine qd ?_ ?_
 exact qe 0 (qg jz) (by decide)
 exact qm
 refine qz ?_
 refine qX ?_
 refine qU ?_ ?_
 exact qe 0 (qg jz) (by decide)
 exact qe 1 (qg jA) (by decide)
 exact Qs
 refine qz ?_
 refine qX ?_
 exact qi
abbrev qT:Stmt:=top 30
abbrev yu:List Str:=["_law_found"]
theorem qaz:FnScope yu ["_law_found"] (qb qT):=⟨rfl,rfl,rfl,by decide +kernel,rfl,by decide +kernel,by decide +kernel⟩
theorem Jx:visB (qb qT) "_law_found" = true:=by decide +kernel
theorem qfG:locB (qb qT) "_law_found" = true:=by decide +kernel
theorem Qp:glB (qb qT) "isinstance" = true:=by decide +kernel
theorem yN:glB (qb qT) "int" = true:=by decide +kernel
theorem yl:glB (qb qT) "bool" = true:=by decide +kernel
def Ym:Rho->Option Out:=(sRet (vA (ev1 (vr 0) (isiD "int")) (vN (ev1 (vr 0) (isiD "bool")))))
def QM (ds:List PyData):Option PyData:=ob (Ym (rho0 yu.length ds)) outD
theorem qbE {P:Program} {w:World} {K:PySem.W.Frag} {mg:Str->Option Value} {base:Heap} {f:Addr} {fd:FuncData} (F:Fun K "_law_whole" "_law_whole" qT f fd) (m:mg "_law_whole" = some (.ref f)) (b:Binds K fd ["_law_found"] []) (z_isinstance:mg "isinstance" = none) (z_int:mg "int" = none) (z_bool:mg "bool" = none):Known P w K mg base "_law_whole" 1 1 QM:=by
 refine ⟨f,fd,["_law_found"],F.pure (k:=0) (u:=Ym) (M':=[]) qaz rfl (fun cdv A outer s H E hr G=>?_),m,F.kp,b⟩
 refine qz ?_
 refine qX ?_
 refine qbS ?_ ?_
 refine qbU (T := "int") (qiH _) (qD (qb qT) rfl Qp) z_isinstance (qD (qb qT) rfl yN) z_int rfl rfl ?_
 exact qe 0 (qg Jx) (by decide)
 refine qbV ?_
 refine qk3 ?_
 refine qbU (T := "bool") (qgm _) (qD (qb qT) rfl Qp) z_isinstance (qD (qb qT) rfl yl) z_bool rfl rfl ?_
 exact qe 0 (qg Jx) (by decide)
abbrev qF:Stmt:=top 31
abbrev yt:List Str:=["_law_found", "_law_spot", "_law_number"]
theorem jd:FnScope yt ["_law_found"] (qb qF):=⟨rfl,rfl,rfl,by decide +kernel,rfl,by decide +kernel,by decide +kernel⟩
theorem Jw:visB (qb qF) "_law_found" = true:=by decide +kernel
theorem qfF:locB (qb qF) "_law_found" = true:=by decide +kernel
theorem ZW:visB (qb qF) "_law_spot" = true:=by decide +kernel
theorem wX:locB (qb qF) "_law_spot" = true:=by decide +kernel
theorem qap:visB (qb qF) "_law_number" = true:=by decide +kernel
theorem wY:locB (qb qF) "_law_number" = true:=by decide +kernel
theorem Qo:glB (qb qF) "isinstance" = true:=by decide +kernel
theorem yj:glB (qb qF) "list" = true:=by decide +kernel
theorem JX:glB (qb qF) "tuple" = true:=by decide +kernel
theorem yM:glB (qb qF) "len" = true:=by decide +kernel
theorem Z7:glB (qb qF) "_law_whole" = true:=by decide +kernel
def jO:Rho->Option Out:=(seqO (sIf (tN (tV (ev1 (vr 0) (isiD "list")))) (sRet (kd (.bool false))) sN) (seqO (sFor (evI (vr 0) seqD) (gNm 1) (seqO (sIf (tO (tN (tV (ev1 (vr 1) (isiD "tuple")))) (tV (ev2 (evA (aC (vr 1) aN) lenD) (kd (.int 3)) neD))) (sRet (kd (.bool false))) sN) (sFor (evI (vr 1) seqD) (gNm 2) (sIf (tN (tV (evC 1 (aC (vr 2) aN) QM))) (sRet (kd (.bool false))) sN)))) (sRet (kd (.bool true)))))
def Qj (ds:List PyData):Option PyData:=ob (jO (rho0 yt.length ds)) outD
theorem qbD {P:Program} {w:World} {K:PySem.W.Frag} {mg:Str->Option Value} {base:Heap} {f:Addr} {fd:FuncData} (F:Fun K "_law_spots" "_law_spots" qF f fd) (m:mg "_law_spots" = some (.ref f)) (b:Binds K fd ["_law_found"] []) (K__law_whole:Known P w K mg base "_law_whole" 1 1 QM) (z_isinstance:mg "isinstance" = none) (z_list:mg "list" = none) (z_tuple:mg "tuple" = none) (z_len:mg "len" = none):Known P w K mg base "_law_spots" 1 2 Qj:=by
 refine ⟨f,fd,["_law_found"],F.pure (k:=1) (u:=jO) (M':=[]) jd rfl (fun cdv A outer s H E hr G=>?_),m,F.kp,b⟩
 refine qt (M1:=[]) ?_ ?_
 refine Zb ?_ ?_ ?_
 refine We ?_
 refine Wf ?_
 refine qbU (T := "list") (qgn _) (qD (qb qF) rfl Qo) z_isinstance (qD (qb qF) rfl yj) z_list rfl rfl ?_
 exact qe 0 (qg Jw) (by decide)
 refine qz ?_
 refine qX ?_
 exact jW
 exact Qs
 refine qt (M1:=[]) ?_ ?_
 refine Qq PassesOwn.never rfl ?_ (fun _=>?_) (fun _=>?_)
 refine zM ?_
 exact qe 0 (qg Jw) (by decide)
 exact zJ 1 jd.nd (qO wX) (by decide)
 refine qt (M1:=[]) ?_ ?_
 refine Zb ?_ ?_ ?_
 refine PDW.pdt ?_
 refine qk5 ?_ ?_
 refine We ?_
 refine Wf ?_
 refine qbU (T := "tuple") (kit_tuple _) (qD (qb qF) rfl Qo) z_isinstance (qD (qb qF) rfl JX) z_tuple rfl rfl ?_
 exact qe 1 (qg ZW) (by decide)
 refine qi7 ?_
 refine zN (d_ne hr) ?_ ?_ (QR _)
 refine Zh qci (qD (qb qF) rfl yM) z_len PySem.boot_len ?_
 refine qd ?_ ?_
 exact qe 1 (qg ZW) (by decide)
 exact qm
 exact qi
 refine qz ?_
 refine qX ?_
 exact jW
 exact Qs
 refine qz ?_
 refine Qq PassesOwn.never rfl ?_ (fun _=>?_) (fun _=>?_)
 refine zM ?_
 exact qe 1 (qg ZW) (by decide)
 exact zJ 2 jd.nd (qO wY) (by decide)
 refine qz ?_
 refine Zb ?_ ?_ ?_
 refine We ?_
 refine Wf ?_
 refine qP K__law_whole hr (by decide) (qD (qb qF) rfl Z7) ?_ rfl
 refine qd ?_ ?_
 exact qe 2 (qg qap) (by decide)
 exact qm
 refine qz ?_
 refine qX ?_
 exact jW
 exact Qs
 refine qz ?_
 refine qX ?_
 exact jW
abbrev zb:Stmt:=top 32
abbrev Y8:List Str:=["_law_cells", "_law_base_here", "_law_cell"]
theorem jL:FnScope Y8 ["_law_cells"] (qb zb):=⟨rfl,rfl,rfl,by decide +kernel,rfl,by decide +kernel,by decide +kernel⟩
theorem qaB:visB (qb zb) "_law_cells" = true:=by decide +kernel
theorem qgt:locB (qb zb) "_law_cells" = true:=by decide +kernel
theorem jg:visB (qb zb) "_law_base_here" = true:=by decide +kernel
theorem WR:locB (qb zb) "_law_base_here" = true:=by decide +kernel
theorem jh:visB (qb zb) "_law_cell" = true:=by decide +kernel
theorem WT:locB (qb zb) "_law_cell" = true:=by decide +kernel
def Jo:Rho->Option Out:=(seqO (zP 1 (evA aN lstD)) (seqO (sFor (evI (vr 0) seqD) (gNm 2) (sIf (tV (ev2 (ev2 (vr 2) (kd (.int 5)) modD) (kd (.int 0)) eqD)) (sApp 1 (ev2 (ev2 (ev2 (vr 2) (kd (.int 5)) zY) (ev2 (ev2 (kd (.int 2)) (ev2 (kd (.int 10)) (kd (.int 19)) powD) mulD) (kd (.int 1)) qM) modD) (ev2 (kd (.int 10)) (kd (.int 19)) powD) subD)) (sApp 1 (ev2 (ev2 (ev2 (vr 2) (kd (.int 5)) zY) (kd (.int 9)) modD) (kd (.int 4)) subD)))) (sRet (vr 1))))
def Qy (ds:List PyData):Option PyData:=ob (Jo (rho0 Y8.length ds)) outD
theorem qcD {P:Program} {w:World} {K:PySem.W.Frag} {mg:Str->Option Value} {base:Heap} {f:Addr} {fd:FuncData} (F:Fun K "_law_base" "_law_base" zb f fd) (m:mg "_law_base" = some (.ref f)) (b:Binds K fd ["_law_cells"] []):Known P w K mg base "_law_base" 1 1 Qy:=by
 refine ⟨f,fd,["_law_cells"],F.pure (k:=0) (u:=Jo) (M':=[]) jL rfl (fun cdv A outer s H E hr G=>?_),m,F.kp,b⟩
 refine qt (M1:=[1]) ?_ ?_
 refine QS 1 ?_ ?_ ?_ ?_ ?_ ?_ ?_ ?_
 ·exact jL.nd
 ·exact (qO WR)
 ·rfl
 ·rfl
 ·exact .inl rfl
 ·decide
 ·decide
 refine YL ?_
 exact qm
 refine qt (M1:=[1]) ?_ ?_
 refine Qq PassesOwn.never rfl ?_ (fun _=>?_) (fun _=>?_)
 refine zM ?_
 exact qe 0 (qg qaB) (by decide)
 exact zJ 2 jL.nd (qO WT) (by decide)
 refine qz ?_
 refine Zb ?_ ?_ ?_
 refine zN (d_eq hr) ?_ ?_ (QR _)
 refine qC QK ?_ ?_
 exact qe 2 (qg jh) (by decide)
 exact qi
 exact qi
 refine qz ?_
 refine qbW 1 (qg jg) (by decide) (by decide) ?_
 refine qC yD ?_ ?_
 refine qC QK ?_ ?_
 refine qC Qu ?_ ?_
 exact qe 2 (qg jh) (by decide)
 exact qi
 refine qC zj ?_ ?_
 refine qC ZZ ?_ ?_
 exact qi
 refine qC qjP ?_ ?_
 exact qi
 exact qi
 exact qi
 refine qC qjP ?_ ?_
 exact qi
 exact qi
 refine qz ?_
 refine qbW 1 (qg jg) (by decide) (by decide) ?_
 refine qC yD ?_ ?_
 refine qC QK ?_ ?_
 refine qC Qu ?_ ?_
 exact qe 2 (qg jh) (by decide)
 exact qi
 exact qi
 exact qi
 refine qz ?_
 refine qX ?_
 exact qe 1 (qg jg) (by decide)
abbrev qp:Stmt:=top 33
abbrev yr:List Str:=["_law_cells", "_law_base_here", "_law_kind", "_law_cubes", "_law_corner", "_law_spot", "_law_k", "_law_cell", "_law_cube", "_law_axis"]
theorem zg:FnScope yr ["_law_cells", "_law_base_here", "_law_kind"] (qb qp):=⟨rfl,rfl,rfl,by decide +kernel,rfl,by decide +kernel,by decide +kernel⟩
theorem qao:visB (qb qp) "_law_cells" = true:=by decide +kernel
theorem qfC:locB (qb qp) "_law_cells" = true:=by decide +kernel
theorem Ju:visB (qb qp) "_law_base_here" = true:=by decide +kernel
theorem qfD:locB (qb qp) "_law_base_here" = true:=by decide +kernel
theorem Qi:visB (qb qp) "_law_kind" = true:=by decide +kernel
theorem qfE:locB (qb qp) "_law_kind" = true:=by decide +kernel
theorem zE:visB (qb qp) "_law_cubes" = true:=by decide +kernel
theorem jV:locB (qb qp) "_law_cubes" = true:=by decide +kernel
theorem ZR:visB (qb qp) "_law_corner" = true:=by decide +kernel
theorem wO:locB (qb qp) "_law_corner" = true:=by decide +kernel
theorem ZS:visB (qb qp) "_law_spot" = true:=by decide +kernel
theorem wQ:locB (qb qp) "_law_spot" = true:=by decide +kernel
theorem Q3:visB (qb qp) "_law_k" = true:=by decide +kernel
theorem wR:locB (qb qp) "_law_k" = true:=by decide +kernel
theorem ZV:visB (qb qp) "_law_cell" = true:=by decide +kernel
theorem wU:locB (qb qp) "_law_cell" = true:=by decide +kernel
theorem Q4:visB (qb qp) "_law_cube" = true:=by decide +kernel
theorem wV:locB (qb qp) "_law_cube" = true:=by decide +kernel
theorem Jv:visB (qb qp) "_law_axis" = true:=by decide +kernel
theorem wW:locB (qb qp) "_law_axis" = true:=by decide +kernel
theorem zL:glB (qb qp) "tuple" = true:=by decide +kernel
theorem JW:glB (qb qp) "range" = true:=by decide +kernel
theorem Z1:glB (qb qp) "len" = true:=by decide +kernel
theorem yh:glB (qb qp) "list" = true:=by decide +kernel
theorem Ji:glB (qb qp) "sorted" = true:=by decide +kernel
def Qm:Rho->Option Out:=(seqO (zP 3 (evA (aC (evA (aC (vr 1) aN) zV) aN) lstD)) (seqO (sIf (tV (ev2 (vr 2) (kd (.int 0)) gtD)) (seqO (zP 3 (evA aN lstD)) (sFor (evI (evA (aC (evA (aC (kd (.int 0)) (aC (kd (.int 0)) (aC (kd (.int 0)) aN))) tupD) (aC (evA (aC (kd (.int 0)) (aC (kd (.int 0)) (aC (kd (.int 1)) aN))) tupD) (aC (evA (aC (kd (.int 1)) (aC (kd (.int 0)) (aC (kd (.int 1)) aN))) tupD) (aC (evA (aC (kd (.int 1)) (aC (kd (.int 1)) (aC (kd (.int 1)) aN))) tupD) (aC (evA (aC (kd (.int 1)) (aC (kd (.int 1)) (aC (kd (.int 0)) aN))) tupD) aN))))) tupD) seqD) (gNm 4) (seqO (zP 5 (evA (aC (ev2 (vr 4) (ev2 (vr 2) (kd (.int 3)) modD) ixD) (aC (ev2 (vr 4) (ev2 (ev2 (vr 2) (kd (.int 1)) qM) (kd (.int 3)) modD) ixD) (aC (ev2 (vr 4) (ev2 (ev2 (vr 2) (kd (.int 2)) qM) (kd (.int 3)) modD) ixD) aN))) lstD)) (seqO (sFor (evR (aC (kd (.int 3)) aN) qag) (gNm 6) (sPut 5 (vr 6) (Qe (ev2 (ev2 (vr 1) (vr 6) ixD) (ev2 (ev2 (vr 5) (vr 6) ixD) (ev2 (kd (.int 1)) (ev2 (kd (.int 2)) (ev2 (ev2 (vr 2) (ev2 (evA (aC (kd (.int 3)) (aC (kd (.int 6)) (aC (kd (.int 12)) aN))) tupD) (vr 6) ixD) zY) (kd (.int 2)) modD) mulD) subD) mulD) qM)))) (sApp 3 (Qe (evA (aC (vr 5) aN) zV))))))) sN) (seqO (sFor (evI (vr 0) seqD) (gNm 7) (seqO (zP 8 (wu (evA (aC (ev2 (vr 3) (ev2 (vr 7) (evA (aC (vr 3) aN) lenD) modD) ixD) aN) ju))) (seqO (sSet 9 (ev2 (ev2 (vr 7) (kd (.int 60)) zY) (kd (.int 3)) modD)) (seqO (sPut 8 (vr 9) (Qe (ev2 (ev2 (ev2 (vr 8) (vr 9) ixD) (ev2 (kd (.int 2)) (ev2 (ev2 (vr 7) (kd (.int 180)) zY) (kd (.int 2)) modD) mulD) qM) (kd (.int 1)) subD))) (sIf (tA (tV (ev2 (evA (aC (vr 3) aN) lenD) (kd (.int 6)) ltD2)) (tV (ev2 (evA (aC (vr 8) aN) zV) (vr 3) ninD))) (sApp 3 (Qe (evA (aC (vr 8) aN) zV))) sN))))) (sRet (evA (aC (vr 3) aN) zU)))))
def zF (ds:List PyData):Option PyData:=ob (Qm (rho0 yr.length ds)) outD
theorem qbC {P:Program} {w:World} {K:PySem.W.Frag} {mg:Str->Option Value} {base:Heap} {f:Addr} {fd:FuncData} (F:Fun K "_law_solid" "_law_solid" qp f fd) (m:mg "_law_solid" = some (.ref f)) (b:Binds K fd ["_law_cells", "_law_base_here", "_law_kind"] []) (z_tuple:mg "tuple" = none) (z_range:mg "range" = none) (z_list:mg "list" = none) (z_len:mg "len" = none) (z_sorted:mg "sorted" = none):Known P w K mg base "_law_solid" 3 1 zF:=by
 refine ⟨f,fd,["_law_cells", "_law_base_here", "_law_kind"],F.pure (k:=0) (u:=Qm) (M':=[]) zg rfl (fun cdv A outer s H E hr G=>?_),m,F.kp,b⟩
 refine qt (M1:=[3]) ?_ ?_
 refine QS 3 ?_ ?_ ?_ ?_ ?_ ?_ ?_ ?_
 ·exact zg.nd
 ·exact (qO jV)
 ·rfl
 ·rfl
 ·exact .inl rfl
 ·decide
 ·decide
 refine YL ?_
 refine qd ?_ ?_
 refine Za JC (qD (qb qp) rfl zL) z_tuple rfl ?_
 refine qd ?_ ?_
 exact qe 1 (qg Ju) (by decide)
 exact qm
 exact qm
 refine qt (M1:=[3]) ?_ ?_
 refine Zb ?_ ?_ ?_
 refine zN d_gt ?_ ?_ (QR _)
 exact qe 2 (qg Qi) (by decide)
 exact qi
 refine qt (M1:=[3]) ?_ ?_
 refine qa5 [] ?_ ?_ ?_
 ·rfl
 ·rfl
 refine QS 3 ?_ ?_ ?_ ?_ ?_ ?_ ?_ ?_
 ·exact zg.nd
 ·exact (qO jV)
 ·rfl
 ·rfl
 ·exact .inl rfl
 ·decide
 ·decide
 refine YL ?_
 exact qm
 refine qz ?_
 refine Qq PassesOwn.never rfl ?_ (fun _=>?_) (fun _=>?_)
 refine zM ?_
 refine zB ?_
 refine qd ?_ ?_
 refine zB ?_
 refine qd ?_ ?_
 exact qi
 refine qd ?_ ?_
 exact qi
 refine qd ?_ ?_
 exact qi
 exact qm
 refine qd ?_ ?_
 refine zB ?_
 refine qd ?_ ?_
 exact qi
 refine qd ?_ ?_
 exact qi
 refine qd ?_ ?_
 exact qi
 exact qm
 refine qd ?_ ?_
 refine zB ?_
 refine qd ?_ ?_
 exact qi
 refine qd ?_ ?_
 exact qi
 refine qd ?_ ?_
 exact qi
 exact qm
 refine qd ?_ ?_
 refine zB ?_
 refine qd ?_ ?_
 exact qi
 refine qd ?_ ?_
 exact qi
 refine qd ?_ ?_
 exact qi
 exact qm
 refine qd ?_ ?_
 refine zB ?_
 refine qd ?_ ?_
 exact qi
 refine qd ?_ ?_
 exact qi
 refine qd ?_ ?_
 exact qi
 exact qm
 exact qm
 exact zJ 4 zg.nd (qO wO) (by decide)
 refine W9 (M':=[5,3]) [3] ?_ ?_ ?_
 refine qt (M1:=[5,3]) ?_ ?_
 refine QS 5 ?_ ?_ ?_ ?_ ?_ ?_ ?_ ?_
 ·exact zg.nd
 ·exact (qO wQ)
 ·rfl
 ·rfl
 ·exact .inl rfl
 ·decide
 ·decide
 refine YL ?_
 refine qd ?_ ?_
 refine qU ?_ ?_
 exact qe 4 (qg ZR) (by decide)
 refine qC QK ?_ ?_
 exact qe 2 (qg Qi) (by decide)
 exact qi
 refine qd ?_ ?_
 refine qU ?_ ?_
 exact qe 4 (qg ZR) (by decide)
 refine qC QK ?_ ?_
 refine qC zj ?_ ?_
 exact qe 2 (qg Qi) (by decide)
 exact qi
 exact qi
 refine qd ?_ ?_
 refine qU ?_ ?_
 exact qe 4 (qg ZR) (by decide)
 refine qC QK ?_ ?_
 refine qC zj ?_ ?_
 exact qe 2 (qg Qi) (by decide)
 exact qi
 exact qi
 exact qm
 refine qt (M1:=[5,3]) ?_ ?_
 refine qg6 PassesOwn.never rfl ?_ ?_ ?_
 refine qdu (qD (qb qp) rfl JW) z_range ?_
 refine qd ?_ ?_
 exact qi
 exact qm
 exact zJ 6 zg.nd (qO wR) (by decide)
 refine qz ?_
 refine Yg 5 (qg ZS) (by decide) (by decide) ?_ ?_
 exact qe 6 (qg Q3) (by decide)
 refine qC zj ?_ ?_
 refine qU ?_ ?_
 exact qe 1 (qg Ju) (by decide)
 exact qe 6 (qg Q3) (by decide)
 refine qC ZZ ?_ ?_
 refine qU ?_ ?_
 exact qe 5 (qg ZS) (by decide)
 exact qe 6 (qg Q3) (by decide)
 refine qC yD ?_ ?_
 exact qi
 refine qC ZZ ?_ ?_
 exact qi
 refine qC QK ?_ ?_
 refine qC Qu ?_ ?_
 exact qe 2 (qg Qi) (by decide)
 refine qU ?_ ?_
 refine zB ?_
 refine qd ?_ ?_
 exact qi
 refine qd ?_ ?_
 exact qi
 refine qd ?_ ?_
 exact qi
 exact qm
 exact qe 6 (qg Q3) (by decide)
 exact qi
 refine qz ?_
 refine W8 3 (qg zE) (by decide) (by decide) ?_
 refine Za JC (qD (qb qp) rfl zL) z_tuple rfl ?_
 refine qd ?_ ?_
 exact qe 5 (qg ZS) (by decide)
 exact qm
 ·rfl
 ·rfl
 exact Qs
 refine qt (M1:=[3]) ?_ ?_
 refine Qq PassesOwn.never rfl ?_ (fun _=>?_) (fun _=>?_)
 refine zM ?_
 exact qe 0 (qg qao) (by decide)
 exact zJ 7 zg.nd (qO wU) (by decide)
 refine W9 (M':=[8,3]) [3] ?_ ?_ ?_
 refine qt (M1:=[8,3]) ?_ ?_
 refine qff 8 ?_ ?_ ?_ ?_ ?_ ?_ ?_ ?_
 ·exact zg.nd
 ·exact (qO wV)
 ·rfl
 ·rfl
 ·exact .inl rfl
 ·decide
 ·decide
 refine qa8 qgQ (qD (qb qp) rfl yh) z_list rfl ?_
 refine qd ?_ ?_
 refine qU ?_ ?_
 exact qe 3 (qg zE) (by decide)
 refine qC QK ?_ ?_
 exact qe 7 (qg ZV) (by decide)
 refine Zh qci (qD (qb qp) rfl Z1) z_len PySem.boot_len ?_
 refine qd ?_ ?_
 exact qe 3 (qg zE) (by decide)
 exact qm
 exact qm
 refine qt (M1:=[8,3]) ?_ ?_
 refine zx 9 ?_ ?_ ?_ ?_ ?_ ?_ ?_
 ·exact zg.nd
 ·exact (qO wW)
 ·rfl
 ·rfl
 ·exact .inl rfl
 ·decide
 refine qC QK ?_ ?_
 refine qC Qu ?_ ?_
 exact qe 7 (qg ZV) (by decide)
 exact qi
 exact qi
 refine qt (M1:=[8,3]) ?_ ?_
 refine Yg 8 (qg Q4) (by decide) (by decide) ?_ ?_
 exact qe 9 (qg Jv) (by decide)
 refine qC yD ?_ ?_
 refine qC zj ?_ ?_
 refine qU ?_ ?_
 exact qe 8 (qg Q4) (by decide)
 exact qe 9 (qg Jv) (by decide)
 refine qC ZZ ?_ ?_
 exact qi
 refine qC QK ?_ ?_
 refine qC Qu ?_ ?_
 exact qe 7 (qg ZV) (by decide)
 exact qi
 exact qi
 exact qi
 refine qz ?_
 refine Zb ?_ ?_ ?_
 refine PDW.pdt ?_
 refine qev ?_ ?_
 refine zN (qjO hr) ?_ ?_ (QR _)
 refine Zh qci (qD (qb qp) rfl Z1) z_len PySem.boot_len ?_
 refine qd ?_ ?_
 exact qe 3 (qg zE) (by decide)
 exact qm
 exact qi
 refine qcR ?_
 refine zN (yC hr) ?_ ?_ rfl
 refine Za JC (qD (qb qp) rfl zL) z_tuple rfl ?_
 refine qd ?_ ?_
 exact qe 8 (qg Q4) (by decide)
 exact qm
 exact qe 3 (qg zE) (by decide)
 refine qz ?_
 refine W8 3 (qg zE) (by decide) (by decide) ?_
 refine Za JC (qD (qb qp) rfl zL) z_tuple rfl ?_
 refine qd ?_ ?_
 exact qe 8 (qg Q4) (by decide)
 exact qm
 exact Qs
 ·rfl
 ·rfl
 refine qz ?_
 refine qX ?_
 refine W6 ?_
 refine qad (W3 hr) (qD (qb qp) rfl Ji) z_sorted jG ?_
 refine qd ?_ ?_
 exact qe 3 (qg zE) (by decide)
 exact qm
abbrev qG:Stmt:=top 34
abbrev Y9:List Str:=["_law_spot", "_law_axes", "_law_found", "_law_axis", "_law_by", "_law_made"]
theorem QV:FnScope Y9 ["_law_spot", "_law_axes"] (qb qG):=⟨rfl,rfl,rfl,by decide +kernel,rfl,by decide +kernel,by decide +kernel⟩
theorem qaC:visB (qb qG) "_law_spot" = true:=by decide +kernel
theorem qgu:locB (qb qG) "_law_spot" = true:=by decide +kernel
theorem qaD:visB (qb qG) "_law_axes" = true:=by decide +kernel
theorem qgv:locB (qb qG) "_law_axes" = true:=by decide +kernel
theorem J8:visB (qb qG) "_law_found" = true:=by decide +kernel
theorem WW:locB (qb qG) "_law_found" = true:=by decide +kernel
theorem J9:visB (qb qG) "_law_axis" = true:=by decide +kernel
theorem WX:locB (qb qG) "_law_axis" = true:=by decide +kernel
theorem qaE:visB (qb qG) "_law_by" = true:=by decide +kernel
theorem WY:locB (qb qG) "_law_by" = true:=by decide +kernel
theorem ji:visB (qb qG) "_law_made" = true:=by decide +kernel
theorem W0:locB (qb qG) "_law_made" = true:=by decide +kernel
theorem yL:glB (qb qG) "list" = true:=by decide +kernel
theorem yf:glB (qb qG) "tuple" = true:=by decide +kernel
theorem JV:glB (qb qG) "sorted" = true:=by decide +kernel
def QG:Rho->Option Out:=(seqO (zP 2 (evA aN lstD)) (seqO (sFor (evI (vr 1) seqD) (gNm 3) (sFor (evI (evA (aC (ev1 (kd (.int 1)) negD) (aC (kd (.int 1)) aN)) tupD) seqD) (gNm 4) (seqO (zP 5 (evA (aC (vr 0) aN) ju)) (seqO (sPut 5 (vr 3) (Qe (ev2 (ev2 (vr 5) (vr 3) ixD) (vr 4) qM))) (sApp 2 (Qe (evA (aC (vr 5) aN) zV))))))) (sRet (evA (aC (vr 2) aN) zU))))
def q8 (ds:List PyData):Option PyData:=ob (QG (rho0 Y9.length ds)) outD
theorem qcE {P:Program} {w:World} {K:PySem.W.Frag} {mg:Str->Option Value} {base:Heap} {f:Addr} {fd:FuncData} (F:Fun K "_law_near" "_law_near" qG f fd) (m:mg "_law_near" = some (.ref f)) (b:Binds K fd ["_law_spot", "_law_axes"] []) (z_list:mg "list" = none) (z_tuple:mg "tuple" = none) (z_sorted:mg "sorted" = none):Known P w K mg base "_law_near" 2 1 q8:=by
 refine ⟨f,fd,["_law_spot", "_law_axes"],F.pure (k:=0) (u:=QG) (M':=[]) QV rfl (fun cdv A outer s H E hr G=>?_),m,F.kp,b⟩
 refine qt (M1:=[2]) ?_ ?_
 refine QS 2 ?_ ?_ ?_ ?_ ?_ ?_ ?_ ?_
 ·exact QV.nd
 ·exact (qO WW)
 ·rfl
 ·rfl
 ·exact .inl rfl
 ·decide
 ·decide
 refine YL ?_
 exact qm
 refine qt (M1:=[2]) ?_ ?_
 refine Qq PassesOwn.never rfl ?_ (fun _=>?_) (fun _=>?_)
 refine zM ?_
 exact qe 1 (qg qaD) (by decide)
 exact zJ 3 QV.nd (qO WX) (by decide)
 refine qz ?_
 refine Qq PassesOwn.never rfl ?_ (fun _=>?_) (fun _=>?_)
 refine zM ?_
 refine zB ?_
 refine qd ?_ ?_
 refine qeu qd0 ?_
 exact qi
 refine qd ?_ ?_
 exact qi
 exact qm
 exact zJ 4 QV.nd (qO WY) (by decide)
 refine W9 (M':=[5,2]) [2] ?_ ?_ ?_
 refine qt (M1:=[5,2]) ?_ ?_
 refine QS 5 ?_ ?_ ?_ ?_ ?_ ?_ ?_ ?_
 ·exact QV.nd
 ·exact (qO W0)
 ·rfl
 ·rfl
 ·exact .inl rfl
 ·decide
 ·decide
 refine qa8 qgQ (qD (qb qG) rfl yL) z_list rfl ?_
 refine qd ?_ ?_
 exact qe 0 (qg qaC) (by decide)
 exact qm
 refine qt (M1:=[5,2]) ?_ ?_
 refine Yg 5 (qg ji) (by decide) (by decide) ?_ ?_
 exact qe 3 (qg J9) (by decide)
 refine qC zj ?_ ?_
 refine qU ?_ ?_
 exact qe 5 (qg ji) (by decide)
 exact qe 3 (qg J9) (by decide)
 exact qe 4 (qg qaE) (by decide)
 refine qz ?_
 refine W8 2 (qg J8) (by decide) (by decide) ?_
 refine Za JC (qD (qb qG) rfl yf) z_tuple rfl ?_
 refine qd ?_ ?_
 exact qe 5 (qg ji) (by decide)
 exact qm
 ·rfl
 ·rfl
 refine qz ?_
 refine qX ?_
 refine W6 ?_
 refine qad (W3 hr) (qD (qb qG) rfl JV) z_sorted jG ?_
 refine qd ?_ ?_
 exact qe 2 (qg J8) (by decide)
 exact qm
abbrev ql:Stmt:=top 35
abbrev yp:List Str:=["_law_e", "_law_one", "_law_two"]
theorem jc:FnScope yp ["_law_e"] (qb ql):=⟨rfl,rfl,rfl,by decide +kernel,rfl,by decide +kernel,by decide +kernel⟩
theorem QX:visB (qb ql) "_law_e" = true:=by decide +kernel
theorem qfz:locB (qb ql) "_law_e" = true:=by decide +kernel
theorem qam:visB (qb ql) "_law_one" = true:=by decide +kernel
theorem wJ:locB (qb ql) "_law_one" = true:=by decide +kernel
theorem qan:visB (qb ql) "_law_two" = true:=by decide +kernel
theorem wK:locB (qb ql) "_law_two" = true:=by decide +kernel
theorem Jf:glB (qb ql) "NoName" = true:=by decide +kernel
theorem JS:glB (qb ql) "NoRow" = true:=by decide +kernel
theorem Jh:glB (qb ql) "NoTurn" = true:=by decide +kernel
theorem j0:glB (qb ql) "TooMany" = true:=by decide +kernel
theorem Je:glB (qb ql) "NoBend" = true:=by decide +kernel
theorem jo:glB (qb ql) "NoDrawing" = true:=by decide +kernel
theorem zc:glB (qb ql) "isinstance" = true:=by decide +kernel
theorem jX:glB (qb ql) "Crowded" = true:=by decide +kernel
theorem JT:glB (qb ql) "NoWay" = true:=by decide +kernel
theorem Jg:glB (qb ql) "NoTree" = true:=by decide +kernel
theorem jZ:glB (qb ql) "NoSolid" = true:=by decide +kernel
theorem jY:glB (qb ql) "NoSheet" = true:=by decide +kernel
theorem jq:glB (qb ql) "NotClosed" = true:=by decide +kernel
theorem jJ:glB (qb ql) "NoSquare" = true:=by decide +kernel
theorem Z5:glB (qb ql) "ValueError" = true:=by decide +kernel
def Yl:Rho->Option Out:=(seqO (sSet 1 (ev1 (vr 0) (isiN XS ["NoDrawing", "NoBend", "TooMany", "NoTurn", "NoRow", "NoName"]))) (seqO (sSet 2 (ev1 (vr 0) (isiN XS ["NotClosed", "NoSheet", "NoSolid", "NoTree", "NoWay", "Crowded"]))) (sRet (evA (aC (ev1 (vr 0) (isiN XS ["ValueError"])) (aC (ev1 (vr 0) (isiN XS ["NoSquare"])) (aC (vO (vr 1) (vr 2)) aN))) tupD))))
def Zr (ds:List PyData):Option PyData:=ob (Yl (rho0 yp.length ds)) outD
theorem qbA {P:Program} {w:World} {K:PySem.W.Frag} {mg:Str->Option Value} {base:Heap} {f:Addr} {fd:FuncData} (F:Fun K "_law_kinds" "_law_kinds" ql f fd) (m:mg "_law_kinds" = some (.ref f)) (b:Binds K fd ["_law_e"] []) (z_isinstance:mg "isinstance" = none) (z_ValueError:mg "ValueError" = none) (XT:XTab K mg XS):KnownM P w K mg base "_law_kinds" 1 1 Zr:=by
 refine ⟨f,fd,["_law_e"],F.pureM (k:=0) (u:=Yl) (M':=[]) jc rfl (fun cdv A outer s H E hr G=>?_),m,F.kp,b⟩
 refine qt (M1:=[]) ?_ ?_
 refine zx 1 ?_ ?_ ?_ ?_ ?_ ?_ ?_
 ·exact jc.nd
 ·exact (qO wJ)
 ·rfl
 ·rfl
 ·exact .inl rfl
 ·decide
 refine Wd XT (qD (qb ql) rfl zc) z_isinstance rfl ?_ (qet (Qa XT (qD (qb ql) rfl jo) (Qa XT (qD (qb ql) rfl Je) (Qa XT (qD (qb ql) rfl j0) (Qa XT (qD (qb ql) rfl Jh) (Qa XT (qD (qb ql) rfl JS) (Qa XT (qD (qb ql) rfl Jf) qcO)))))))
 exact qe 0 (qg QX) (by decide)
 refine qt (M1:=[]) ?_ ?_
 refine zx 2 ?_ ?_ ?_ ?_ ?_ ?_ ?_
 ·exact jc.nd
 ·exact (qO wK)
 ·rfl
 ·rfl
 ·exact .inl rfl
 ·decide
 refine Wd XT (qD (qb ql) rfl zc) z_isinstance rfl ?_ (qet (Qa XT (qD (qb ql) rfl jq) (Qa XT (qD (qb ql) rfl jY) (Qa XT (qD (qb ql) rfl jZ) (Qa XT (qD (qb ql) rfl Jg) (Qa XT (qD (qb ql) rfl JT) (Qa XT (qD (qb ql) rfl jX) qcO)))))))
 exact qe 0 (qg QX) (by decide)
 refine qz ?_
 refine qX ?_
 refine zB ?_
 refine qd ?_ ?_
 refine Wd XT (qD (qb ql) rfl zc) z_isinstance rfl ?_ (qi0 (T := "ValueError") (by decide) (qD (qb ql) rfl Z5) z_ValueError rfl)
 exact qe 0 (qg QX) (by decide)
 refine qd ?_ ?_
 refine Wd XT (qD (qb ql) rfl zc) z_isinstance rfl ?_ (qi1 XT (qD (qb ql) rfl jJ))
 exact qe 0 (qg QX) (by decide)
 refine qd ?_ ?_
 refine pd_or ?_ ?_
 exact qe 1 (qg qam) (by decide)
 refine qbV ?_
 exact qe 2 (qg qan) (by decide)
 exact qm
abbrev qL:Stmt:=top 36
abbrev Wi:List Str:=["_law_solid_here", "_law_square", "_law_cube", "_law_middle", "_law_unit", "_law_other"]
theorem Zi:FnScope Wi ["_law_solid_here", "_law_square"] (qb qL):=⟨rfl,rfl,rfl,by decide +kernel,rfl,by decide +kernel,by decide +kernel⟩
theorem Yn:visB (qb qL) "_law_solid_here" = true:=by decide +kernel
theorem qhO:locB (qb qL) "_law_solid_here" = true:=by decide +kernel
theorem jP:visB (qb qL) "_law_square" = true:=by decide +kernel
theorem qhP:locB (qb qL) "_law_square" = true:=by decide +kernel
theorem Qn:visB (qb qL) "_law_cube" = true:=by decide +kernel
theorem qau:locB (qb qL) "_law_cube" = true:=by decide +kernel
theorem jQ:visB (qb qL) "_law_middle" = true:=by decide +kernel
theorem qav:locB (qb qL) "_law_middle" = true:=by decide +kernel
theorem zW:visB (qb qL) "_law_unit" = true:=by decide +kernel
theorem qaw:locB (qb qL) "_law_unit" = true:=by decide +kernel
theorem qb8:visB (qb qL) "_law_other" = true:=by decide +kernel
theorem qax:locB (qb qL) "_law_other" = true:=by decide +kernel
theorem Zj:glB (qb qL) "abs" = true:=by decide +kernel
def jN:Rho->Option Out:=(seqO (sFor (evI (vr 0) seqD) (gNm 2) (seqO (sSet 3 (evA (aC (ev2 (ev2 (kd (.int 2)) (ev2 (vr 2) (kd (.int 0)) ixD) mulD) (kd (.int 1)) qM) (aC (ev2 (ev2 (kd (.int 2)) (ev2 (vr 2) (kd (.int 1)) ixD) mulD) (kd (.int 1)) qM) (aC (ev2 (ev2 (kd (.int 2)) (ev2 (vr 2) (kd (.int 2)) ixD) mulD) (kd (.int 1)) qM) aN))) tupD)) (seqO (sSet 4 (evA (aC (ev2 (ev2 (vr 1) (kd (.int 0)) ixD) (ev2 (vr 3) (kd (.int 0)) ixD) subD) (aC (ev2 (ev2 (vr 1) (kd (.int 1)) ixD) (ev2 (vr 3) (kd (.int 1)) ixD) subD) (aC (ev2 (ev2 (vr 1) (kd (.int 2)) ixD) (ev2 (vr 3) (kd (.int 2)) ixD) subD) aN))) tupD)) (seqO (sSet 5 (evA (aC (ev2 (ev2 (vr 2) (kd (.int 0)) ixD) (ev2 (vr 4) (kd (.int 0)) ixD) qM) (aC (ev2 (ev2 (vr 2) (kd (.int 1)) ixD) (ev2 (vr 4) (kd (.int 1)) ixD) qM) (aC (ev2 (ev2 (vr 2) (kd (.int 2)) ixD) (ev2 (vr 4) (kd (.int 2)) ixD) qM) aN))) tupD)) (sIf (tA (tV (ev2 (ev2 (ev2 (evA (aC (ev2 (vr 4) (kd (.int 0)) ixD) aN) absD) (evA (aC (ev2 (vr 4) (kd (.int 1)) ixD) aN) absD) qM) (evA (aC (ev2 (vr 4) (kd (.int 2)) ixD) aN) absD) qM) (kd (.int 1)) eqD)) (tV (ev2 (vr 5) (vr 0) ninD))) (sRet (vr 4)) sN))))) (sRet (kd .none)))
def Q6 (ds:List PyData):Option PyData:=ob (jN (rho0 Wi.length ds)) outD
theorem qdj {P:Program} {w:World} {K:PySem.W.Frag} {mg:Str->Option Value} {base:Heap} {f:Addr} {fd:FuncData} (F:Fun K "_law_due" "_law_due" qL f fd) (m:mg "_law_due" = some (.ref f)) (b:Binds K fd ["_law_solid_here", "_law_square"] []) (z_abs:mg "abs" = none):Known P w K mg base "_law_due" 2 1 Q6:=by
 refine ⟨f,fd,["_law_solid_here", "_law_square"],F.pure (k:=0) (u:=jN) (M':=[]) Zi rfl (fun cdv A outer s H E hr G=>?_),m,F.kp,b⟩
 refine qt (M1:=[]) ?_ ?_
 refine Qq PassesOwn.never rfl ?_ (fun _=>?_) (fun _=>?_)
 refine zM ?_
 exact qe 0 (qg Yn) (by decide)
 exact zJ 2 Zi.nd (qO qau) (by decide)
 refine qt (M1:=[]) ?_ ?_
 refine zx 3 ?_ ?_ ?_ ?_ ?_ ?_ ?_
 ·exact Zi.nd
 ·exact (qO qav)
 ·rfl
 ·rfl
 ·exact .inl rfl
 ·decide
 refine zB ?_
 refine qd ?_ ?_
 refine qC zj ?_ ?_
 refine qC ZZ ?_ ?_
 exact qi
 refine qU ?_ ?_
 exact qe 2 (qg Qn) (by decide)
 exact qi
 exact qi
 refine qd ?_ ?_
 refine qC zj ?_ ?_
 refine qC ZZ ?_ ?_
 exact qi
 refine qU ?_ ?_
 exact qe 2 (qg Qn) (by decide)
 exact qi
 exact qi
 refine qd ?_ ?_
 refine qC zj ?_ ?_
 refine qC ZZ ?_ ?_
 exact qi
 refine qU ?_ ?_
 exact qe 2 (qg Qn) (by decide)
 exact qi
 exact qi
 exact qm
 refine qt (M1:=[]) ?_ ?_
 refine zx 4 ?_ ?_ ?_ ?_ ?_ ?_ ?_
 ·exact Zi.nd
 ·exact (qO qaw)
 ·rfl
 ·rfl
 ·exact .inl rfl
 ·decide
 refine zB ?_
 refine qd ?_ ?_
 refine qC yD ?_ ?_
 refine qU ?_ ?_
 exact qe 1 (qg jP) (by decide)
 exact qi
 refine qU ?_ ?_
 exact qe 3 (qg jQ) (by decide)
 exact qi
 refine qd ?_ ?_
 refine qC yD ?_ ?_
 refine qU ?_ ?_
 exact qe 1 (qg jP) (by decide)
 exact qi
 refine qU ?_ ?_
 exact qe 3 (qg jQ) (by decide)
 exact qi
 refine qd ?_ ?_
 refine qC yD ?_ ?_
 refine qU ?_ ?_
 exact qe 1 (qg jP) (by decide)
 exact qi
 refine qU ?_ ?_
 exact qe 3 (qg jQ) (by decide)
 exact qi
 exact qm
 refine qt (M1:=[]) ?_ ?_
 refine zx 5 ?_ ?_ ?_ ?_ ?_ ?_ ?_
 ·exact Zi.nd
 ·exact (qO qax)
 ·rfl
 ·rfl
 ·exact .inl rfl
 ·decide
 refine zB ?_
 refine qd ?_ ?_
 refine qC zj ?_ ?_
 refine qU ?_ ?_
 exact qe 2 (qg Qn) (by decide)
 exact qi
 refine qU ?_ ?_
 exact qe 4 (qg zW) (by decide)
 exact qi
 refine qd ?_ ?_
 refine qC zj ?_ ?_
 refine qU ?_ ?_
 exact qe 2 (qg Qn) (by decide)
 exact qi
 refine qU ?_ ?_
 exact qe 4 (qg zW) (by decide)
 exact qi
 refine qd ?_ ?_
 refine qC zj ?_ ?_
 refine qU ?_ ?_
 exact qe 2 (qg Qn) (by decide)
 exact qi
 refine qU ?_ ?_
 exact qe 4 (qg zW) (by decide)
 exact qi
 exact qm
 refine qz ?_
 refine Zb ?_ ?_ ?_
 refine PDW.pdt ?_
 refine qev ?_ ?_
 refine zN (d_eq hr) ?_ ?_ (QR _)
 refine qC zj ?_ ?_
 refine qC zj ?_ ?_
 refine Zh qfM (qD (qb qL) rfl Zj) z_abs Yt ?_
 refine qd ?_ ?_
 refine qU ?_ ?_
 exact qe 4 (qg zW) (by decide)
 exact qi
 exact qm
 refine Zh qfM (qD (qb qL) rfl Zj) z_abs Yt ?_
 refine qd ?_ ?_
 refine qU ?_ ?_
 exact qe 4 (qg zW) (by decide)
 exact qi
 exact qm
 refine Zh qfM (qD (qb qL) rfl Zj) z_abs Yt ?_
 refine qd ?_ ?_
 refine qU ?_ ?_
 exact qe 4 (qg zW) (by decide)
 exact qi
 exact qm
 exact qi
 refine qcR ?_
 refine zN (yC hr) ?_ ?_ rfl
 exact qe 5 (qg qb8) (by decide)
 exact qe 0 (qg Yn) (by decide)
 refine qz ?_
 refine qX ?_
 exact qe 4 (qg zW) (by decide)
 exact Qs
 refine qz ?_
 refine qX ?_
 exact qgZ
abbrev qu:Stmt:=top 39
abbrev Zq:List Str:=["_law_cell", "_law_solid_here", "_law_base_here", "_law_cube", "_law_numbers"]
theorem J6:FnScope Zq ["_law_cell", "_law_solid_here", "_law_base_here"] (qb qu):=⟨rfl,rfl,rfl,by decide +kernel,rfl,by decide +kernel,by decide +kernel⟩
theorem Qh:visB (qb qu) "_law_cell" = true:=by decide +kernel
theorem qfv:locB (qb qu) "_law_cell" = true:=by decide +kernel
theorem Jr:visB (qb qu) "_law_solid_here" = true:=by decide +kernel
theorem qfw:locB (qb qu) "_law_solid_here" = true:=by decide +kernel
theorem qhN:visB (qb qu) "_law_base_here" = true:=by decide +kernel
theorem qfx:locB (qb qu) "_law_base_here" = true:=by decide +kernel
theorem qal:visB (qb qu) "_law_cube" = true:=by decide +kernel
theorem wI:locB (qb qu) "_law_cube" = true:=by decide +kernel
theorem ZP:visB (qb qu) "_law_numbers" = true:=by decide +kernel
theorem qfy:locB (qb qu) "_law_numbers" = true:=by decide +kernel
theorem yK:glB (qb qu) "len" = true:=by decide +kernel
theorem jn:glB (qb qu) "_law_near" = true:=by decide +kernel
theorem JP:glB (qb qu) "range" = true:=by decide +kernel
theorem JQ:glB (qb qu) "tuple" = true:=by decide +kernel
def Ql:Rho->Option Out:=(seqO (sIf (tV (ev2 (ev2 (vr 0) (kd (.int 3)) modD) (kd (.int 0)) gtD)) (seqO (sSet 3 (ev2 (vr 1) (ev2 (ev2 (vr 0) (kd (.int 3)) zY) (evA (aC (vr 1) aN) lenD) modD) ixD)) (sRet (ev2 (evC 2 (aC (jk 5 (evI (vr 3) seqD) tT (ev2 (ev2 (kd (.int 2)) (vr 5) mulD) (kd (.int 1)) qM)) (aC (evA (aC (kd (.int 0)) (aC (kd (.int 1)) (aC (kd (.int 2)) aN))) tupD) aN)) q8) (ev2 (ev2 (vr 0) (kd (.int 18)) zY) (kd (.int 6)) modD) ixD))) sN) (seqO (zP 4 (jk 5 (evR (aC (kd (.int 3)) aN) qag) tT (ev2 (ev2 (kd (.int 2)) (ev2 (ev2 (ev2 (vr 2) (vr 5) ixD) (ev2 (ev2 (vr 0) (ev2 (evA (aC (kd (.int 3)) (aC (kd (.int 15)) (aC (kd (.int 75)) aN))) tupD) (vr 5) ixD) zY) (kd (.int 5)) modD) qM) (kd (.int 2)) subD) mulD) (kd (.int 1)) qM))) (seqO (sPut 4 (ev2 (ev2 (vr 0) (kd (.int 375)) zY) (kd (.int 3)) modD) (Qe (ev2 (ev2 (vr 4) (ev2 (ev2 (vr 0) (kd (.int 375)) zY) (kd (.int 3)) modD) ixD) (kd (.int 1)) qM))) (sRet (evA (aC (vr 4) aN) zV)))))
def zu (ds:List PyData):Option PyData:=ob (Ql (rho0 Zq.length ds)) outD
theorem qbz {P:Program} {w:World} {K:PySem.W.Frag} {mg:Str->Option Value} {base:Heap} {f:Addr} {fd:FuncData} (F:Fun K "_law_asked" "_law_asked" qu f fd) (m:mg "_law_asked" = some (.ref f)) (b:Binds K fd ["_law_cell", "_law_solid_here", "_law_base_here"] []) (K__law_near:Known P w K mg base "_law_near" 2 1 q8) (z_len:mg "len" = none) (z_range:mg "range" = none) (z_tuple:mg "tuple" = none):Known P w K mg base "_law_asked" 3 2 zu:=by
 refine ⟨f,fd,["_law_cell", "_law_solid_here", "_law_base_here"],F.pure (k:=1) (u:=Ql) (M':=[]) J6 rfl (fun cdv A outer s H E hr G=>?_),m,F.kp,b⟩
 refine qt (M1:=[]) ?_ ?_
 refine Zb ?_ ?_ ?_
 refine zN d_gt ?_ ?_ (QR _)
 refine qC QK ?_ ?_
 exact qe 0 (qg Qh) (by decide)
 exact qi
 exact qi
 refine qt (M1:=[]) ?_ ?_
 refine zx 3 ?_ ?_ ?_ ?_ ?_ ?_ ?_
 ·exact J6.nd
 ·exact (qO wI)
 ·rfl
 ·rfl
 ·exact .inl rfl
 ·decide
 refine qU ?_ ?_
 exact qe 1 (qg Jr) (by decide)
 refine qC QK ?_ ?_
 refine qC Qu ?_ ?_
 exact qe 0 (qg Qh) (by decide)
 exact qi
 refine Zh qci (qD (qb qu) rfl yK) z_len PySem.boot_len ?_
 refine qd ?_ ?_
 exact qe 1 (qg Jr) (by decide)
 exact qm
 refine qz ?_
 refine qX ?_
 refine qU ?_ ?_
 refine qP K__law_near hr (by decide) (qD (qb qu) rfl jn) ?_ rfl
 refine qd ?_ ?_
 refine Yd (CompOk.of (k:=1) Zq ["_law_cell", "_law_solid_here", "_law_base_here", "_law_cube", "_law_numbers", "_law_number"] (qb qu) rfl rfl rfl (by decide +kernel)) rfl (by decide +kernel) ?_ (fun _ _ _ _ _ _=>?_) (fun _ _ _ _ _ _=>?_)
 refine zM ?_
 exact qe 3 (qg qal) (by decide)
 exact jw
 refine qC zj ?_ ?_
 refine qC ZZ ?_ ?_
 exact qi
 exact qe 5 (zr (by decide +kernel)) (by decide)
 exact qi
 refine qd ?_ ?_
 refine zB ?_
 refine qd ?_ ?_
 exact qi
 refine qd ?_ ?_
 exact qi
 refine qd ?_ ?_
 exact qi
 exact qm
 exact qm
 refine qC QK ?_ ?_
 refine qC Qu ?_ ?_
 exact qe 0 (qg Qh) (by decide)
 exact qi
 exact qi
 exact Qs
 refine qt (M1:=[4]) ?_ ?_
 refine qg3 4 (CompOk.of (k:=1) Zq ["_law_cell", "_law_solid_here", "_law_base_here", "_law_cube", "_law_numbers", "_law_k"] (qb qu) rfl rfl rfl (by decide +kernel)) rfl (by decide +kernel) (qb qu) rfl (by decide +kernel) (by decide) (by decide) ?_ (fun _ _ _ _ _ _=>?_) (fun _ _ _ _ _ _=>?_)
 refine qdt (qD (qb qu) rfl JP) z_range ?_
 refine qd ?_ ?_
 exact qi
 exact qm
 exact jw
 refine qC zj ?_ ?_
 refine qC ZZ ?_ ?_
 exact qi
 refine qC yD ?_ ?_
 refine qC zj ?_ ?_
 refine qU ?_ ?_
 exact qe 2 (zr (by decide +kernel)) (by decide)
 exact qe 5 (zr (by decide +kernel)) (by decide)
 refine qC QK ?_ ?_
 refine qC Qu ?_ ?_
 exact qe 0 (zr (by decide +kernel)) (by decide)
 refine qU ?_ ?_
 refine zB ?_
 refine qd ?_ ?_
 exact qi
 refine qd ?_ ?_
 exact qi
 refine qd ?_ ?_
 exact qi
 exact qm
 exact qe 5 (zr (by decide +kernel)) (by decide)
 exact qi
 exact qi
 exact qi
 refine qt (M1:=[4]) ?_ ?_
 refine Yg 4 (qg ZP) (by decide) (by decide) ?_ ?_
 refine qC QK ?_ ?_
 refine qC Qu ?_ ?_
 exact qe 0 (qg Qh) (by decide)
 exact qi
 exact qi
 refine qC zj ?_ ?_
 refine qU ?_ ?_
 exact qe 4 (qg ZP) (by decide)
 refine qC QK ?_ ?_
 refine qC Qu ?_ ?_
 exact qe 0 (qg Qh) (by decide)
 exact qi
 exact qi
 exact qi
 refine qz ?_
 refine qX ?_
 refine Za JC (qD (qb qu) rfl JQ) z_tuple rfl ?_
 refine qd ?_ ?_
 exact qe 4 (qg ZP) (by decide)
 exact qm
abbrev qZ:Stmt:=top 26
abbrev Yr:List Str:=["solid", "square"]
theorem qah:FnScope Yr ["solid", "square"] (qb qZ):=⟨rfl,rfl,rfl,by decide +kernel,rfl,by decide +kernel,by decide +kernel⟩
theorem Z3:visB (qb qZ) "solid" = true:=by decide +kernel
theorem qiP:locB (qb qZ) "solid" = true:=by decide +kernel
theorem Z4:visB (qb qZ) "square" = true:=by decide +kernel
theorem qiQ:locB (qb qZ) "square" = true:=by decide +kernel
theorem Qw:glB (qb qZ) "skin_of" = true:=by decide +kernel
theorem jt:glB (qb qZ) "outward_from" = true:=by decide +kernel
theorem J2:glB (qb qZ) "NoSquare" = true:=by decide +kernel
def YW:Rho->Option Out:=(seqO (sIf (tV (ev2 (vr 1) (evC 1 (aC (vr 0) aN) QB) ninD)) sNo sN) (sRet (evC 2 (aC (vr 0) (aC (vr 1) aN)) zA)))
def Q8 (ds:List PyData):Option PyData:=ob (YW (rho0 Yr.length ds)) outD
theorem qe3 {P:Program} {w:World} {K:PySem.W.Frag} {mg:Str->Option Value} {base:Heap} {f:Addr} {fd:FuncData} (F:Fun K "outward" "outward" qZ f fd) (m:mg "outward" = some (.ref f)) (b:Binds K fd ["solid", "square"] []) (K_skin_of:Known P w K mg base "skin_of" 1 2 QB) (K_outward_from:Known P w K mg base "outward_from" 2 3 zA) (XT:XTab K mg XS) (e_NoSquare:qct K "NoSquare" = true):Known P w K mg base "outward" 2 4 Q8:=by
 refine ⟨f,fd,["solid", "square"],F.pure (k:=3) (u:=YW) (M':=[]) qah rfl (fun cdv A outer s H E hr G=>?_),m,F.kp,b⟩
 refine qt (M1:=[]) ?_ ?_
 refine Zb ?_ ?_ ?_
 refine zN (yC hr) ?_ ?_ rfl
 exact qe 1 (qg Z4) (by decide)
 refine qP K_skin_of hr (by decide) (qD (qb qZ) rfl Qw) ?_ rfl
 refine qd ?_ ?_
 exact qe 0 (qg Z3) (by decide)
 exact qm
 refine qz ?_
 exact qa6
 exact Qs
 refine qz ?_
 refine qX ?_
 refine qP K_outward_from hr (by decide) (qD (qb qZ) rfl jt) ?_ rfl
 refine qd ?_ ?_
 exact qe 0 (qg Z3) (by decide)
 refine qd ?_ ?_
 exact qe 1 (qg Z4) (by decide)
 exact qm
def jE:Rho->Option (PyData×Rho):=(xSeq (sIf (tV (ev2 (vr 1) (evC 1 (aC (vr 0) aN) QB) ninD)) sNo sN) (xIf (tV (ev2 (vr 1) (evC 1 (aC (vr 0) aN) QB) ninD)) (qdH "NoSquare" (aC (kd (.str "the square is no part of the solid's skin")) aN)) xNo) xNo)
def jF (ds:List PyData):Option PyData:=xOut jE Yr.length ds
theorem qfj {P:Program} {w:World} {K:PySem.W.Frag} {mg:Str->Option Value} {base:Heap} {f:Addr} {fd:FuncData} (F:Fun K "outward" "outward" qZ f fd) (m:mg "outward" = some (.ref f)) (b:Binds K fd ["solid", "square"] []) (K_skin_of:Known P w K mg base "skin_of" 1 2 QB) (K_outward_from:Known P w K mg base "outward_from" 2 3 zA) (XT:XTab K mg XS) (e_NoSquare:qct K "NoSquare" = true):KnownR P w K mg base "outward" 2 4 jF:=by
 refine ⟨f,fd,["solid", "square"],F.raises (k:=3) (wx:=jE) (Mx:=[]) qah rfl (fun cdv A outer s H E hr G=>?_),m,F.kp,b⟩
 refine qg8 (M1:=[]) (fr:=.pl) (Mb:=[]) ?_ ?_ ?_
 refine Zb ?_ ?_ ?_
 refine zN (yC hr) ?_ ?_ rfl
 exact qe 1 (qg Z4) (by decide)
 refine qP K_skin_of hr (by decide) (qD (qb qZ) rfl Qw) ?_ rfl
 refine qd ?_ ?_
 exact qe 0 (qg Z3) (by decide)
 exact qm
 refine qz ?_
 exact qa6
 exact Qs
 refine qk6 ?_ ?_ ?_
 refine zN (yC hr) ?_ ?_ rfl
 exact qe 1 (qg Z4) (by decide)
 refine qP K_skin_of hr (by decide) (qD (qb qZ) rfl Qw) ?_ rfl
 refine qd ?_ ?_
 exact qe 0 (qg Z3) (by decide)
 exact qm
 refine qew ?_
 refine qfg PySem.F.excBase_ValueError hr (qD (qb qZ) rfl J2) (XT.mg1 (by decide +kernel)) (XT.cls1 (by decide +kernel)) (XT.exc1 (by decide +kernel) e_NoSquare) ?_
 refine qd ?_ ?_
 exact qk4
 exact qm
 exact qex
 exact qex
abbrev qw:Stmt:=top 37
abbrev j8:List Str:=["_law_solid_here", "_law_square", "_law_kinds_here", "_law_e"]
theorem Qt:FnScope j8 ["_law_solid_here", "_law_square"] (qb qw):=⟨rfl,rfl,rfl,by decide +kernel,rfl,by decide +kernel,by decide +kernel⟩
theorem jB:visB (qb qw) "_law_solid_here" = true:=by decide +kernel
theorem qei:locB (qb qw) "_law_solid_here" = true:=by decide +kernel
theorem jC:visB (qb qw) "_law_square" = true:=by decide +kernel
theorem qej:locB (qb qw) "_law_square" = true:=by decide +kernel
theorem YZ:visB (qb qw) "_law_kinds_here" = true:=by decide +kernel
theorem Z2:locB (qb qw) "_law_kinds_here" = true:=by decide +kernel
theorem Y0:visB (qb qw) "_law_e" = true:=by decide +kernel
theorem qek:locB (qb qw) "_law_e" = true:=by decide +kernel
theorem yU:(qb qw).names.lookup ("_law_e" : Str)=some NameKind.local:=by decide +kernel
theorem QC:glB (qb qw) "outward" = true:=by decide +kernel
theorem ZD:glB (qb qw) "_law_kinds" = true:=by decide +kernel
theorem ZC:glB (qb qw) "SheetError" = true:=by decide +kernel
def Qg:Rho->Option Out:=(seqO (sSet 2 (evA (aC (kd (.bool false)) (aC (kd (.bool false)) (aC (kd (.bool true)) aN))) tupD)) (seqO (sTry (qjZ (evC 2 (aC (vr 0) (aC (vr 1) aN)) Q8)) (qc8 2 (aC (vr 0) (aC (vr 1) aN)) jF) ["SheetError", "NoDrawing", "NoBend", "NoSquare", "TooMany", "NoTurn", "NoRow", "NoName", "NotClosed", "NoSheet", "NoSolid", "NoTree", "NoWay", "Crowded"] 3 (sSet 2 (evC 1 (aC (vr 3) aN) Zr))) (sRet (ev2 (vr 2) (evA (aC (kd (.bool true)) (aC (kd (.bool true)) (aC (kd (.bool false)) aN))) tupD) eqD))))
def QL (ds:List PyData):Option PyData:=ob (Qg (rho0 j8.length ds)) outD
theorem WK {P:Program} {w:World} {K:PySem.W.Frag} {mg:Str->Option Value} {base:Heap} {f:Addr} {fd:FuncData} (F:Fun K "_law_refused" "_law_refused" qw f fd) (m:mg "_law_refused" = some (.ref f)) (b:Binds K fd ["_law_solid_here", "_law_square"] []) (K_outward:Known P w K mg base "outward" 2 4 Q8) (K__law_kinds:KnownM P w K mg base "_law_kinds" 1 1 Zr) (XT:XTab K mg XS) (R_outward:KnownR P w K mg base "outward" 2 4 jF):Known P w K mg base "_law_refused" 2 5 QL:=by
 refine ⟨f,fd,["_law_solid_here", "_law_square"],F.pure (k:=4) (u:=Qg) (M':=[]) Qt rfl (fun cdv A outer s H E hr G=>?_),m,F.kp,b⟩
 refine qt (M1:=[]) ?_ ?_
 refine zx 2 ?_ ?_ ?_ ?_ ?_ ?_ ?_
 ·exact Qt.nd
 ·exact (qO Z2)
 ·rfl
 ·rfl
 ·exact .inl rfl
 ·decide
 refine zB ?_
 refine qd ?_ ?_
 exact jW
 refine qd ?_ ?_
 exact jW
 refine qd ?_ ?_
 exact jW
 exact qm
 refine qt (M1:=[]) ?_ ?_
 refine qi6 (Mx:=[]) (cs:=["SheetError", "NoDrawing", "NoBend", "NoSquare", "TooMany", "NoTurn", "NoRow", "NoName", "NotClosed", "NoSheet", "NoSolid", "NoTree", "NoWay", "Crowded"]) ?_ ?_ (fun _=>?_) Qt.nd yU (by decide) (by decide) (by decide) (qD (qb qw) rfl ZC) (XT.mg1 (by decide +kernel)) (XT.cat1 (by decide +kernel)) (XT.cs1 (by decide +kernel) (by decide +kernel)) rfl rfl rfl
 refine qz ?_
 refine qg4 ?_
 refine qP K_outward hr (by decide) (qD (qb qw) rfl QC) ?_ rfl
 refine qd ?_ ?_
 exact qe 0 (qg jB) (by decide)
 refine qd ?_ ?_
 exact qe 1 (qg jC) (by decide)
 exact qm
 refine qew ?_
 refine qg9 R_outward hr (by decide) (qD (qb qw) rfl QC) ?_
 refine qd ?_ ?_
 exact qe 0 (qg jB) (by decide)
 refine qd ?_ ?_
 exact qe 1 (qg jC) (by decide)
 exact qm
 refine qz ?_
 refine zx 2 ?_ ?_ ?_ ?_ ?_ ?_ ?_
 ·exact Qt.nd
 ·exact (qO Z2)
 ·rfl
 ·rfl
 ·exact .inl rfl
 ·decide
 refine qfa K__law_kinds (hr.m _) (by decide) (qD (qb qw) rfl ZD) ?_ rfl
 refine qd ?_ ?_
 exact qe 3 (qg Y0) (by decide)
 exact qm
 refine qz ?_
 refine qX ?_
 refine qbT (d_eq hr) ?_ ?_ (QR _)
 exact qe 2 (qg YZ) (by decide)
 refine zB ?_
 refine qd ?_ ?_
 exact jW
 refine qd ?_ ?_
 exact jW
 refine qd ?_ ?_
 exact jW
 exact qm
abbrev qy:Stmt:=top 38
abbrev yq:List Str:=["_law_solid_here", "_law_square", "_law_due_here", "_law_mine", "_law_found"]
theorem Zf:FnScope yq ["_law_solid_here", "_law_square"] (qb qy):=⟨rfl,rfl,rfl,by decide +kernel,rfl,by decide +kernel,by decide +kernel⟩
theorem QZ:visB (qb qy) "_law_solid_here" = true:=by decide +kernel
theorem qfA:locB (qb qy) "_law_solid_here" = true:=by decide +kernel
theorem ZQ:visB (qb qy) "_law_square" = true:=by decide +kernel
theorem qfB:locB (qb qy) "_law_square" = true:=by decide +kernel
theorem Js:visB (qb qy) "_law_due_here" = true:=by decide +kernel
theorem wL:locB (qb qy) "_law_due_here" = true:=by decide +kernel
theorem Q0:visB (qb qy) "_law_mine" = true:=by decide +kernel
theorem wM:locB (qb qy) "_law_mine" = true:=by decide +kernel
theorem Jt:visB (qb qy) "_law_found" = true:=by decide +kernel
theorem wN:locB (qb qy) "_law_found" = true:=by decide +kernel
theorem jK:glB (qb qy) "_law_due" = true:=by decide +kernel
theorem yg:glB (qb qy) "list" = true:=by decide +kernel
theorem ZF:glB (qb qy) "_law_refused" = true:=by decide +kernel
theorem j4:glB (qb qy) "outward" = true:=by decide +kernel
theorem Z6:glB (qb qy) "_law_spots" = true:=by decide +kernel
def Zu:Rho->Option Out:=(seqO (sSet 2 (evC 2 (aC (vr 0) (aC (vr 1) aN)) Q6)) (seqO (sSet 3 (evA (aC (vr 0) aN) ju)) (seqO (sIf (tV (ev2 (vr 2) (kd .none) isD)) (sRet (vA (evC 2 (aC (vr 3) (aC (vr 1) aN)) QL) (ev2 (vr 3) (vr 0) eqD))) sN) (seqO (sSet 4 (evC 2 (aC (vr 3) (aC (vr 1) aN)) Q8)) (sRet (vA (evC 1 (aC (evA (aC (vr 4) aN) lstD) aN) Qj) (vA (ev2 (vr 4) (vr 2) eqD) (ev2 (vr 3) (vr 0) eqD))))))))
def zR (ds:List PyData):Option PyData:=ob (Zu (rho0 yq.length ds)) outD
theorem qbB {P:Program} {w:World} {K:PySem.W.Frag} {mg:Str->Option Value} {base:Heap} {f:Addr} {fd:FuncData} (F:Fun K "_law_right" "_law_right" qy f fd) (m:mg "_law_right" = some (.ref f)) (b:Binds K fd ["_law_solid_here", "_law_square"] []) (K__law_due:Known P w K mg base "_law_due" 2 1 Q6) (K__law_refused:Known P w K mg base "_law_refused" 2 5 QL) (K_outward:Known P w K mg base "outward" 2 4 Q8) (K__law_spots:Known P w K mg base "_law_spots" 1 2 Qj) (z_list:mg "list" = none):Known P w K mg base "_law_right" 2 6 zR:=by
 refine ⟨f,fd,["_law_solid_here", "_law_square"],F.pure (k:=5) (u:=Zu) (M':=[]) Zf rfl (fun cdv A outer s H E hr G=>?_),m,F.kp,b⟩
 refine qt (M1:=[]) ?_ ?_
 refine zx 2 ?_ ?_ ?_ ?_ ?_ ?_ ?_
 ·exact Zf.nd
 ·exact (qO wL)
 ·rfl
 ·rfl
 ·exact .inl rfl
 ·decide
 refine qP K__law_due hr (by decide) (qD (qb qy) rfl jK) ?_ rfl
 refine qd ?_ ?_
 exact qe 0 (qg QZ) (by decide)
 refine qd ?_ ?_
 exact qe 1 (qg ZQ) (by decide)
 exact qm
 refine qt (M1:=[]) ?_ ?_
 refine zx 3 ?_ ?_ ?_ ?_ ?_ ?_ ?_
 ·exact Zf.nd
 ·exact (qO wM)
 ·rfl
 ·rfl
 ·exact .inl rfl
 ·decide
 refine Za qkc (qD (qb qy) rfl yg) z_list rfl ?_
 refine qd ?_ ?_
 exact qe 0 (qg QZ) (by decide)
 exact qm
 refine qt (M1:=[]) ?_ ?_
 refine Zb ?_ ?_ ?_
 refine zN d_is ?_ ?_ (QR _)
 exact qe 2 (qg Js) (by decide)
 exact qgZ
 refine qz ?_
 refine qX ?_
 refine qbS ?_ ?_
 refine qP K__law_refused hr (by decide) (qD (qb qy) rfl ZF) ?_ rfl
 refine qd ?_ ?_
 exact qe 3 (qg Q0) (by decide)
 refine qd ?_ ?_
 exact qe 1 (qg ZQ) (by decide)
 exact qm
 refine qbV ?_
 refine qbT (d_eq hr) ?_ ?_ (QR _)
 exact qe 3 (qg Q0) (by decide)
 exact qe 0 (qg QZ) (by decide)
 exact Qs
 refine qt (M1:=[]) ?_ ?_
 refine zx 4 ?_ ?_ ?_ ?_ ?_ ?_ ?_
 ·exact Zf.nd
 ·exact (qO wN)
 ·rfl
 ·rfl
 ·exact .inl rfl
 ·decide
 refine qP K_outward hr (by decide) (qD (qb qy) rfl j4) ?_ rfl
 refine qd ?_ ?_
 exact qe 3 (qg Q0) (by decide)
 refine qd ?_ ?_
 exact qe 1 (qg ZQ) (by decide)
 exact qm
 refine qz ?_
 refine qX ?_
 refine qbS ?_ ?_
 refine qP K__law_spots hr (by decide) (qD (qb qy) rfl Z6) ?_ rfl
 refine qd ?_ ?_
 refine qk2 ?_
 refine qd ?_ ?_
 exact qe 4 (qg Jt) (by decide)
 exact qm
 exact qm
 refine qbS ?_ ?_
 refine qbT (d_eq hr) ?_ ?_ (QR _)
 exact qe 4 (qg Jt) (by decide)
 exact qe 2 (qg Js) (by decide)
 refine qbV ?_
 refine qbT (d_eq hr) ?_ ?_ (QR _)
 exact qe 3 (qg Q0) (by decide)
 exact qe 0 (qg QZ) (by decide)
abbrev za:Stmt:=top 40
abbrev qdK:List Str:=["_law_script", "_law_base_here", "_law_first", "_law_solid_here", "_law_squares", "_law_cube", "_law_cell", "_law_square"]
theorem jM:FnScope qdK ["_law_script"] (qb za):=⟨rfl,rfl,rfl,by decide +kernel,rfl,by decide +kernel,by decide +kernel⟩
theorem qca:visB (qb za) "_law_script" = true:=by decide +kernel
theorem lo_law_0:locB (qb za) "_law_script" = true:=by decide +kernel
theorem qeH:visB (qb za) "_law_base_here" = true:=by decide +kernel
theorem qgw:locB (qb za) "_law_base_here" = true:=by decide +kernel
theorem qeI:visB (qb za) "_law_first" = true:=by decide +kernel
theorem qgx:locB (qb za) "_law_first" = true:=by decide +kernel
theorem qcb:visB (qb za) "_law_solid_here" = true:=by decide +kernel
theorem qgy:locB (qb za) "_law_solid_here" = true:=by decide +kernel
theorem qcc:visB (qb za) "_law_squares" = true:=by decide +kernel
theorem qcI:locB (qb za) "_law_squares" = true:=by decide +kernel
theorem qjG:visB (qb za) "_law_cube" = true:=by decide +kernel
theorem qgz:locB (qb za) "_law_cube" = true:=by decide +kernel
theorem qjH:visB (qb za) "_law_cell" = true:=by decide +kernel
theorem qgA:locB (qb za) "_law_cell" = true:=by decide +kernel
theorem qjI:visB (qb za) "_law_square" = true:=by decide +kernel
theorem qgB:locB (qb za) "_law_square" = true:=by decide +kernel
theorem YC:glB (qb za) "_law_base" = true:=by decide +kernel
theorem J0:glB (qb za) "_law_cell_at" = true:=by decide +kernel
theorem yQ:glB (qb za) "_law_solid" = true:=by decide +kernel
theorem YD:glB (qb za) "_law_near" = true:=by decide +kernel
theorem yO:glB (qb za) "_law_asked" = true:=by decide +kernel
theorem yP:glB (qb za) "_law_right" = true:=by decide +kernel
def qhL:Rho->Option Out:=(seqO (sSet 1 (evC 1 (aC (jk 8 (evI (evA (aC (kd (.int 1)) (aC (kd (.int 2)) (aC (kd (.int 3)) aN))) tupD) seqD) tT (evC 2 (aC (vr 0) (aC (vr 8) aN)) zO)) aN) Qy)) (seqO (sSet 2 (evC 2 (aC (vr 0) (aC (kd (.int 0)) aN)) zO)) (seqO (sSet 3 (evC 3 (aC (evS (vr 0) (oS (kd (.int 4))) (oS (kd (.int 9)))) (aC (vr 1) (aC (ev2 (ev2 (ev2 (vr 2) (kd (.int 5)) modD) (kd (.int 4)) zY) (ev2 (ev2 (vr 2) (kd (.int 5)) zY) (kd (.int 24)) modD) mulD) aN))) zF)) (seqO (zP 4 (evA aN lstD)) (seqO (sFor (evI (vr 3) seqD) (gNm 5) (zP 4 (ev2 (vr 4) (evC 2 (aC (jk 8 (evI (vr 5) seqD) tT (ev2 (ev2 (kd (.int 2)) (vr 8) mulD) (kd (.int 1)) qM)) (aC (evA (aC (kd (.int 0)) (aC (kd (.int 1)) (aC (kd (.int 2)) aN))) tupD) aN)) q8) catL))) (seqO (sFor (evI (evS (vr 0) (oS (kd (.int 9))) (oS (kd (.int 39)))) seqD) (gNm 6) (sApp 4 (evC 3 (aC (vr 6) (aC (vr 3) (aC (vr 1) aN))) zu))) (seqO (sFor (evI (vr 4) seqD) (gNm 7) (sIf (tN (tV (evC 2 (aC (vr 3) (aC (vr 7) aN)) zR))) (sRet (kd (.bool false))) sN)) (sRet (kd (.bool true))))))))))
def qd5 (ds:List PyData):Option PyData:=ob (qhL (rho0 qdK.length ds)) outD
theorem qkQ {P:Program} {w:World} {K:PySem.W.Frag} {mg:Str->Option Value} {base:Heap} {f:Addr} {fd:FuncData} (F:Fun K "law" "law" za f fd) (K__law_base:Known P w K mg base "_law_base" 1 1 Qy) (K__law_cell_at:Known P w K mg base "_law_cell_at" 2 1 zO) (K__law_solid:Known P w K mg base "_law_solid" 3 1 zF) (K__law_near:Known P w K mg base "_law_near" 2 1 q8) (K__law_asked:Known P w K mg base "_law_asked" 3 2 zu) (K__law_right:Known P w K mg base "_law_right" 2 6 zR):FnOk P w K mg base CX0 7 f fd ["_law_script"] (spF K 1 qd5):=by
 refine F.pure (k:=6) (u:=qhL) (M':=[]) jM rfl (fun cdv A outer s H E hr G=>?_)
 refine qt (M1:=[]) ?_ ?_
 refine zx 1 ?_ ?_ ?_ ?_ ?_ ?_ ?_
 ·exact jM.nd
 ·exact (qO qgw)
 ·rfl
 ·rfl
 ·exact .inl rfl
 ·decide
 refine qP K__law_base hr (by decide) (qD (qb za) rfl YC) ?_ rfl
 refine qd ?_ ?_
 refine Yd (CompOk.of (k:=1) qdK ["_law_script", "_law_base_here", "_law_first", "_law_solid_here", "_law_squares", "_law_cube", "_law_cell", "_law_square", "_law_k"] (qb za) rfl rfl rfl (by decide +kernel)) rfl (by decide +kernel) ?_ (fun _ _ _ _ _ _=>?_) (fun _ _ _ _ _ _=>?_)
 refine zM ?_
 refine zB ?_
 refine qd ?_ ?_
 exact qi
 refine qd ?_ ?_
 exact qi
 refine qd ?_ ?_
 exact qi
 exact qm
 exact jw
 refine qP K__law_cell_at hr (by decide) (qiu (by decide +kernel)) ?_ rfl
 refine qd ?_ ?_
 exact qe 0 (zr (by decide +kernel)) (by decide)
 refine qd ?_ ?_
 exact qe 8 (zr (by decide +kernel)) (by decide)
 exact qm
 exact qm
 refine qt (M1:=[]) ?_ ?_
 refine zx 2 ?_ ?_ ?_ ?_ ?_ ?_ ?_
 ·exact jM.nd
 ·exact (qO qgx)
 ·rfl
 ·rfl
 ·exact .inl rfl
 ·decide
 refine qP K__law_cell_at hr (by decide) (qD (qb za) rfl J0) ?_ rfl
 refine qd ?_ ?_
 exact qe 0 (qg qca) (by decide)
 refine qd ?_ ?_
 exact qi
 exact qm
 refine qt (M1:=[]) ?_ ?_
 refine zx 3 ?_ ?_ ?_ ?_ ?_ ?_ ?_
 ·exact jM.nd
 ·exact (qO qgy)
 ·rfl
 ·rfl
 ·exact .inl rfl
 ·decide
 refine qP K__law_solid hr (by decide) (qD (qb za) rfl yQ) ?_ rfl
 refine qd ?_ ?_
 refine qcQ ?_ ?_ ?_
 exact qe 0 (qg qca) (by decide)
 refine Ye ?_
 exact qi
 refine Ye ?_
 exact qi
 refine qd ?_ ?_
 exact qe 1 (qg qeH) (by decide)
 refine qd ?_ ?_
 refine qC ZZ ?_ ?_
 refine qC Qu ?_ ?_
 refine qC QK ?_ ?_
 exact qe 2 (qg qeI) (by decide)
 exact qi
 exact qi
 refine qC QK ?_ ?_
 refine qC Qu ?_ ?_
 exact qe 2 (qg qeI) (by decide)
 exact qi
 exact qi
 exact qm
 refine qt (M1:=[4]) ?_ ?_
 refine QS 4 ?_ ?_ ?_ ?_ ?_ ?_ ?_ ?_
 ·exact jM.nd
 ·exact (qO qcI)
 ·rfl
 ·rfl
 ·exact .inl rfl
 ·decide
 ·decide
 refine YL ?_
 exact qm
 refine qt (M1:=[4]) ?_ ?_
 refine Qq PassesOwn.never rfl ?_ (fun _=>?_) (fun _=>?_)
 refine zM ?_
 exact qe 3 (qg qcb) (by decide)
 exact zJ 5 jM.nd (qO qgz) (by decide)
 refine qz ?_
 refine qa5 [] ?_ ?_ ?_
 ·rfl
 ·rfl
 refine QS 4 ?_ ?_ ?_ ?_ ?_ ?_ ?_ ?_
 ·exact jM.nd
 ·exact (qO qcI)
 ·rfl
 ·rfl
 ·exact .inl rfl
 ·decide
 ·decide
 refine qjb ?_ ?_
 exact qe 4 (qg qcc) (by decide)
 refine qP K__law_near hr (by decide) (qD (qb za) rfl YD) ?_ rfl
 refine qd ?_ ?_
 refine Yd (CompOk.of (k:=1) qdK ["_law_script", "_law_base_here", "_law_first", "_law_solid_here", "_law_squares", "_law_cube", "_law_cell", "_law_square", "_law_number"] (qb za) rfl rfl rfl (by decide +kernel)) rfl (by decide +kernel) ?_ (fun _ _ _ _ _ _=>?_) (fun _ _ _ _ _ _=>?_)
 refine zM ?_
 exact qe 5 (qg qjG) (by decide)
 exact jw
 refine qC zj ?_ ?_
 refine qC ZZ ?_ ?_
 exact qi
 exact qe 8 (zr (by decide +kernel)) (by decide)
 exact qi
 refine qd ?_ ?_
 refine zB ?_
 refine qd ?_ ?_
 exact qi
 refine qd ?_ ?_
 exact qi
 refine qd ?_ ?_
 exact qi
 exact qm
 exact qm
 refine qt (M1:=[4]) ?_ ?_
 refine Qq PassesOwn.never rfl ?_ (fun _=>?_) (fun _=>?_)
 refine zM ?_
 refine qcQ ?_ ?_ ?_
 exact qe 0 (qg qca) (by decide)
 refine Ye ?_
 exact qi
 refine Ye ?_
 exact qi
 exact zJ 6 jM.nd (qO qgA) (by decide)
 refine qz ?_
 refine qbW 4 (qg qcc) (by decide) (by decide) ?_
 refine qP K__law_asked hr (by decide) (qD (qb za) rfl yO) ?_ rfl
 refine qd ?_ ?_
 exact qe 6 (qg qjH) (by decide)
 refine qd ?_ ?_
 exact qe 3 (qg qcb) (by decide)
 refine qd ?_ ?_
 exact qe 1 (qg qeH) (by decide)
 exact qm
 refine qt (M1:=[4]) ?_ ?_
 refine qg5 4 PassesOwn.never rfl (qg qcc) (by decide) (by decide) (fun _=>?_) (fun _=>?_)
 exact zJ 7 jM.nd (qO qgB) (by decide)
 refine qz ?_
 refine Zb ?_ ?_ ?_
 refine We ?_
 refine Wf ?_
 refine qP K__law_right hr (by decide) (qD (qb za) rfl yP) ?_ rfl
 refine qd ?_ ?_
 exact qe 3 (qg qcb) (by decide)
 refine qd ?_ ?_
 exact qe 7 (qg qjI) (by decide)
 exact qm
 refine qz ?_
 refine qX ?_
 exact jW
 exact Qs
 refine qz ?_
 refine qX ?_
 exact jW
end SF
local macro_rules
 | `(tactic| simp_arith [$ts,*] $[$loc]?)=>`(tactic| simp only [L2.rho0,List.map_cons,List.map_nil,List.length_cons,List.length_nil,Nat.reduceAdd,Nat.reduceSub,Nat.zero_add,Nat.sub_self,List.replicate_succ,List.replicate_zero,List.cons_append,List.nil_append,List.append_nil,L2.qhB,L2.qcj,L2.qfR,L2.qfP,L2.qfQ,L2.ifO_t,L2.ifO_f,L2.sIf_b,L2.vIf_b,L2.tA_b,L2.tO_b,L2.vA_b,L2.vO_b,L2.vN,L2.qlC,L2.qlH,L2.qlt,L2.qj9,L2.nxO_s,L2.qlB,L2.qlq,L2.sN,L2.sBk,L2.sCt,L2.tV,L2.tN,L2.tT,L2.ev2_b,L2.qke,L2.ev1,L2.vr_z,L2.vr_s,L2.kd,L2.evA,L2.evC_b,L2.qhZ,L2.evC0,L2.aC_b,L2.qib,L2.aN,L2.qkH,L2.qkI,L2.tupD,L2.lstD,L2.qhJ,L2.qhK,L2.qiJ,L2.qiK,L2.qj5,L2.qlM,L2.qkO,L2.qga,L2.qbO,L2.pow_a,L2.pow_b,L2.qij,L2.qiS,L2.qkL,L2.leD_i,L2.gtD_i,L2.geD_i,L2.qhY,L2.ixD_l,L2.ixD_t,L2.atI0,L2.atI1,L2.atI2,L2.atI3,L2.atI4,L2.atI5,L2.qkZ,L2.qkY,L2.ob_s,L2.gNm,L2.gsN_n,L2.gsC_c,L2.qlU,List.set_cons_zero,List.set_cons_succ,List.set_nil,L2.evI,L2.evR,L2.qlE,L2.qlF,L2.qjr,L2.qjs,L2.rngL,L2.qh8,L2.qh2,L2.qdV,L2.qh6,L2.qdY,L2.qdX,L2.qiL,L2.qlx,L2.qkr,L2.Wy,L2.qkq,L2.yH,L2.qis,L2.qir,L2.qbx,if_true,if_false,Bool.false_eq_true,Bool.not_true,Bool.not_false,Nat.reduceLeDiff,and_self,and_true,true_and,Int.reduceToNat,Int.reduceAdd,Int.reduceSub,Int.reduceLE,Int.reduceLT,Int.reduceNeg,reduceIte,L2.isiD,L2.qkz,L2.qkw,L2.qkv,L2.qku,L2.qky,L2.qkx,String.reduceBEq,L2.natLit,Int.reduceBEq,Bool.true_or,Bool.or_true,Bool.false_or,Bool.or_false,L2.qjx,L2.qlP,L2.qin,L2.qkn,L2.qio,L2.qko,L2.qls,L2.qj7,L2.qdb,L2.qlv,L2.qkf,L2.qk0,L2.dfl_b,L2.isD_n,L2.qkB,L2.isD_b,L2.qkA,L2.evS_b,L2.qlL,L2.oN,L2.oS_b,L2.qlh,Nat.reduceLT,decide_true,decide_false,L2.qlA,L2.qll,L2.qlG,L2.qlz,L2.qhw,L2.qlf,L2.qle,L2.qlu,L2.qka,L2.qj3,L2.qgJ,L2.qgO,L2.qhy,L2.vC_b,L2.vcO_s,L2.qkl,L2.qkd,L2.qjL,L2.zpL_c,L2.qlW,L2.qlX,L2.qju,L2.qjv,L2.qiB,L2.qiC,L2.qiD,L2.qiE,L2.qkk,L2.chO_t,L2.chO_f,L2.qhS,L2.qhI,L2.qjw,L2.qlg,L2.qfm,L2.qlw,L2.qkm,L2.qig,L2.qih,L2.enL_n,L2.enL_c,L2.qh9,L2.qia,L2.qh5,L2.qh4,L2.qh3,L2.qh7,L2.qh1,L2.qjt,L2.dpO_s,L2.qkP,L2.ev3_b,L2.qlR,$ts,*] $[$loc]?)
namespace SF
open PySem L2
def zy (ns:List Int) (k:Int):Int:=ns.getD k.toNat 0
theorem cell_bd {ns:List Int} (h:∀ k∈ns,Builtin.Int.intBits k <= 2 ^ 20) (k:Int):Bd 1048576 (zy ns k):=by
 unfold zy
 by_cases hk:k.toNat < ns.length
 ·rw [List.getD_eq_getElem?_getD,List.getElem?_eq_getElem hk]
  exact h _ (List.getElem_mem hk)
 ·rw [List.getD_eq_getElem?_getD,List.getElem?_eq_none (by omega)]
  show Builtin.Int.intBits 0 <= 1048576
  decide
theorem cell_eq (ns:List Int) (k:Int) (hk:0 <= k):zO [.list (ns.map .int),.int k]=some (.int (zy ns k)):=by
 simp only [zO,ZL]
 simp_arith []
 by_cases h:k < ((ns.map PyData.int).length:Int)
 ·have h':k.toNat < ns.length:=by rw [List.length_map] at h;omega
  have e:atI (ns.map PyData.int) k=some (.int (zy ns k)):=by
   have e1:((k.toNat:Nat):Int)=k:=by omega
   have:=qdQ (xs:=ns.map PyData.int) (j:=k.toNat) (v:=.int (zy ns k)) (by
    rw [List.getElem?_map,List.getElem?_eq_getElem h']
    unfold zy
    rw [List.getD_eq_getElem?_getD,List.getElem?_eq_getElem h']
    rfl)
   rw [e1] at this
   exact this
  simp_arith [decide_eq_true h,e]
 ·have h':¬ k.toNat < ns.length:=by rw [List.length_map] at h;omega
  have e:zy ns k=0:=by
   unfold zy
   rw [List.getD_eq_getElem?_getD,List.getElem?_eq_none (by omega)]
   rfl
  simp_arith [decide_eq_false h,e]
end SF
namespace SF
open PySem L2
abbrev Sp:=Int×Int×Int
def eS (s:Sp):PyData:=.tuple [.int s.1,.int s.2.1,.int s.2.2]
def l3 (s:Sp):List Int:=[s.1,s.2.1,s.2.2]
def b3:List Int->Sp
 | [a,b,c]=>(a,b,c)
 | _=>(0,0,0)
theorem qjN (s:Sp):b3 (l3 s)=s:=rfl
theorem l3_inj {a b:Sp} (h:l3 a=l3 b):a=b:=by rw [← qjN a,h,qjN]
theorem qdp (xs:List Sp):xs.map eS=(xs.map l3).map tI:=by rw [List.map_map];rfl
theorem JN {xs:List Sp} (h:xs.length < 64):∃ ys:List Sp,zU [.list (xs.map eS)]=some (.list (ys.map eS))/\ys.Perm xs/\(ys.map l3).Pairwise (fun a b=>HT.lexLt b a=false):=by
 obtain ⟨mss,e,p,o⟩:=qb2 (nss:=xs.map l3) (by rw [List.length_map];exact h) (by
  intro ns hn
  obtain ⟨x,_,rfl⟩:=List.mem_map.mp hn
  exact fun z=>by cases z)
 have back:∀ m∈mss,(l3 ∘ b3) m=id m:=fun m hm=>by
  obtain ⟨x,_,rfl⟩:=List.mem_map.mp (p.mem_iff.mp hm)
  rfl
 have hm:(mss.map b3).map l3=mss:=by
  rw [List.map_map]
  exact (List.map_congr_left back).trans (List.map_id mss)
 refine ⟨mss.map b3,?_,?_,?_⟩
 ·rw [qdp,e,qdp,hm]
 ·have:=p.map b3
  rw [List.map_map] at this
  have e2:xs.map (b3 ∘ l3)=xs:=(List.map_congr_left (fun x _=>rfl)).trans (List.map_id xs)
  rwa [e2] at this
 ·rw [hm];exact o
theorem qc0 {as bs:List Sp} (p:as.Perm bs) (h1:(as.map l3).Pairwise (fun a b=>HT.lexLt b a=false)) (h2:(bs.map l3).Pairwise (fun a b=>HT.lexLt b a=false)):as=bs:=by
 have:=J7 (p.map l3) h1 h2
 have e:=congrArg (List.map b3) this
 rw [List.map_map,List.map_map] at e
 have k:∀ xs:List Sp,xs.map (b3 ∘ l3)=xs:=fun xs=>(List.map_congr_left (fun x _=>rfl)).trans (List.map_id xs)
 rwa [k,k] at e
theorem Yw (a b:Sp):PyData.eqv (eS a) (eS b)=decide (a=b):=by
 have:PyData.eqv (eS a) (eS b)=((a.1 == b.1) && ((a.2.1 == b.2.1) && ((a.2.2 == b.2.2) && true))):=rfl
 rw [this]
 obtain ⟨a1,a2,a3⟩:=a
 obtain ⟨b1,b2,b3⟩:=b
 by_cases h1:a1=b1<;>by_cases h2:a2=b2<;>by_cases h3:a3=b3<;>simp [h1,h2,h3]
theorem qfY (xs:List Sp):PyData.canLayAll0 (xs.map eS)=true/\PyData.depthAll (xs.map eS) <= 1:=by rw [qdp];exact Wm _
theorem qd8 (xs:List Sp) (q:Sp):inOk (xs.map eS) (eS q)=true:=by
 unfold inOk
 rw [(qfY xs).1,Bool.true_and,Bool.and_eq_true]
 exact ⟨rfl,rfl⟩
theorem qgg (xs:List Sp) (q:Sp):inL (xs.map eS) (eS q)=decide (q∈xs):=by
 unfold inL
 rw [List.any_map]
 induction xs with
 | nil=>rfl
 | cons x xs ih =>
  rw [List.any_cons,ih]
  show (PyData.eqv (eS x) (eS q) || _)=_
  rw [Yw]
  by_cases h:x=q
  ·subst h;rw [decide_eq_true rfl,Bool.true_or,decide_eq_true List.mem_cons_self]
  ·rw [decide_eq_false h,Bool.false_or]
   by_cases h2:q∈xs
   ·rw [decide_eq_true h2,decide_eq_true (List.mem_cons_of_mem _ h2)]
   ·rw [decide_eq_false h2,decide_eq_false (by rw [List.mem_cons];rintro (rfl | z);exact h rfl;exact h2 z)]
theorem qkt (xs:List Sp) (q:Sp):inD (eS q) (.list (xs.map eS))=some (.bool (decide (q∈xs))):=by
 show (if inOk (xs.map eS) (eS q)=true then some (PyData.bool (inL (xs.map eS) (eS q))) else none)=_
 rw [qd8,qgg];rfl
theorem Wb (xs:List Sp) (q:Sp):ninD (eS q) (.list (xs.map eS))=some (.bool (!decide (q∈xs))):=by
 show (if inOk (xs.map eS) (eS q)=true then some (PyData.bool (!inL (xs.map eS) (eS q))) else none)=_
 rw [qd8,qgg];rfl
theorem JM (xs:List Sp):SeqAt.shaped (.list (xs.map eS))=true:=by
 have h:=qfY xs
 have h2:PyData.depth (.list (xs.map eS))=PyData.depthAll (xs.map eS) + 1:=rfl
 unfold SeqAt.shaped
 rw [h2,Bool.and_eq_true]
 exact ⟨h.1,decide_eq_true (by omega)⟩
theorem qbq:∀ xs ys:List Sp,PyData.eqv (.list (xs.map eS)) (.list (ys.map eS))=decide (xs=ys)
 | [],[]=>rfl
 | [],_ :: _=>rfl
 | _ :: _,[]=>rfl
 | x :: xs,y :: ys=>by
  have:PyData.eqv (.list ((x :: xs).map eS)) (.list ((y :: ys).map eS))=(PyData.eqv (eS x) (eS y) && PyData.eqv (.list (xs.map eS)) (.list (ys.map eS))):=rfl
  rw [this,Yw,qbq,Bool.eq_iff_iff]
  simp
theorem neD_eS (xs ys:List Sp):neD (.list (xs.map eS)) (.list (ys.map eS))=some (.bool (!decide (xs=ys))):=by
 unfold neD
 rw [if_pos ⟨JM _,JM _⟩,qbq]
theorem qkj (xs ys:List Sp):eqD (.list (xs.map eS)) (.list (ys.map eS))=some (.bool (decide (xs=ys))):=by
 unfold eqD
 rw [if_pos ⟨JM _,JM _⟩,qbq]
theorem qcx {α:Type} (enc:α->PyData) {g:PyData->Rho->Option Rho} {u:Rho->Option Out} (I:List α->Rho->Prop) (all:List α) (step:∀ a∈all,∀ done ρ,done.length < all.length->I done ρ->∃ ρ',ob (g (enc a) ρ) u=some (.nx ρ')/\I (done ++ [a]) ρ') :
  ∀ (as done:List α) (ρ:Rho),(∀ a∈as,a∈all)->done.length + as.length=all.length->I done ρ->∃ ρ',forD g u (as.map enc) ρ=some (.nx ρ')/\I (done ++ as) ρ'
 | [],done,ρ,_,_,h=>⟨ρ,rfl,by rw [List.append_nil];exact h⟩
 | a :: as,done,ρ,hm,hl,h=>by
  rw [List.length_cons] at hl
  obtain ⟨ρ1,e1,h1⟩:=step a (hm a (.head _)) done ρ (by omega) h
  obtain ⟨ρ2,e2,h2⟩:=qcx enc I all step as (done ++ [a]) ρ1 (fun x hx=>hm x (.tail _ hx)) (by rw [List.length_append,List.length_singleton];omega) h1
  refine ⟨ρ2,?_,by rw [List.append_assoc] at h2;exact h2⟩
  rw [List.map_cons,Wy,e1,yH]
  exact e2
theorem Zg {α:Type} (enc:α->PyData) {g:PyData->Rho->Option Rho} {u:Rho->Option Out} (I:List α->Rho->Prop) (as:List α) (ρ:Rho) (h:I [] ρ) (step:∀ a∈as,∀ done ρ,done.length < as.length->I done ρ->∃ ρ',ob (g (enc a) ρ) u=some (.nx ρ')/\I (done ++ [a]) ρ') :
  ∃ ρ',forD g u (as.map enc) ρ=some (.nx ρ')/\I as ρ':=by
 obtain ⟨ρ',e,i⟩:=qcx enc I as step as [] ρ (fun _ h=>h) (by simp) h
 exact ⟨ρ',e,by rwa [List.nil_append] at i⟩
theorem Yu {α:Type} (enc:α->PyData) {tt:Rho->Option Bool} {te:Rho->Option PyData} {ρ:Rho} (p:α->Bool) (f:α->PyData):∀ (as:List α),(∀ a∈as,tt (ρ ++ [some (enc a)])=some (p a))->(∀ a∈as,p a=true->te (ρ ++ [some (enc a)])=some (f a))->QH tt te ρ (as.map enc)=some ((as.filter p).map f)
 | [],_,_=>rfl
 | a :: as,h1,h2=>by
  have ih:=Yu enc p f as (fun x hx=>h1 x (.tail _ hx)) (fun x hx=>h2 x (.tail _ hx))
  rw [List.map_cons,qdV,h1 a (.head _),List.filter_cons]
  cases e:p a with
  | true=>rw [qdY,h2 a (.head _) e,ih];rfl
  | false=>rw [qdX,ih];rfl
theorem qkg {α:Type} (enc:α->PyData) {te:Rho->Option PyData} {ρ:Rho} (f:α->PyData) (as:List α) (h2:∀ a∈as,te (ρ ++ [some (enc a)])=some (f a)):QH tT te ρ (as.map enc)=some (as.map f):=by
 have:=Yu enc (tt:=tT) (te:=te) (ρ:=ρ) (fun _=>true) f as (fun _ _=>rfl) (fun a ha _=>h2 a ha)
 rwa [List.filter_eq_self.mpr (fun _ _=>rfl)] at this
def mid (c:Sp):Sp:=(2 * c.1 + 1,2 * c.2.1 + 1,2 * c.2.2 + 1)
def six (s:Sp):List Sp:=[(s.1 + -1,s.2.1,s.2.2),(s.1 + 1,s.2.1,s.2.2),(s.1,s.2.1 + -1,s.2.2),(s.1,s.2.1 + 1,s.2.2),(s.1,s.2.1,s.2.2 + -1),(s.1,s.2.1,s.2.2 + 1)]
def sides (cs:List Sp):List Sp:=cs.flatMap fun c=>six (mid c)
def cr (a:Nat) (q s:Sp):Bool:=match a with
 | 0=>decide (s.1 % 2=0/\s.1 > q.1/\s.2.1=q.2.1/\s.2.2=q.2.2)
 | 1=>decide (s.2.1 % 2=0/\s.2.1 > q.2.1/\s.1=q.1/\s.2.2=q.2.2)
 | _=>decide (s.2.2 % 2=0/\s.2.2 > q.2.2/\s.1=q.1/\s.2.1=q.2.1)
def Sq (s:Sp):Prop:=(s.1 % 2=0/\s.2.1 % 2=1/\s.2.2 % 2=1)\/(s.1 % 2=1/\s.2.1 % 2=0/\s.2.2 % 2=1)\/(s.1 % 2=1/\s.2.1 % 2=1/\s.2.2 % 2=0)
end SF
namespace SF
open PySem L2
theorem qfK {α:Type} (xs:List α) (v:α):atI (xs ++ [v]) (-1)=some v:=by
 unfold atI ixN
 rw [if_neg (by decide),if_pos (by rw [List.length_append,List.length_singleton];omega)]
 have e:((-1:Int) + ((xs ++ [v]).length:Int)).toNat=xs.length:=by
  rw [List.length_append,List.length_singleton];omega
 show (xs ++ [v])[((-1:Int) + ((xs ++ [v]).length:Int)).toNat]?=some v
 rw [e,List.getElem?_append_right (Nat.le_refl _)]
 simp
theorem qlZ (xs:List PyData) (v:PyData):popD (.list (xs ++ [v]))=some (v,.list xs):=by
 show (ob ((xs ++ [v])[(xs ++ [v]).length - 1]?) fun d=>some (d,PyData.list (xs ++ [v]).dropLast))=_
 have e:(xs ++ [v])[(xs ++ [v]).length - 1]?=some v:=by
  rw [List.length_append,List.length_singleton,Nat.add_sub_cancel,List.getElem?_append_right (Nat.le_refl _)]
  simp
 rw [e,List.dropLast_concat]
 rfl
theorem qii (a b:Sp):eqD (eS a) (eS b)=some (.bool (decide (a=b))):=by
 unfold eqD
 rw [if_pos ⟨rfl,rfl⟩,Yw]
theorem neD_eSp (a b:Sp):neD (eS a) (eS b)=some (.bool (!decide (a=b))):=by
 unfold neD
 rw [if_pos ⟨rfl,rfl⟩,Yw]
theorem yw {α β:Type} {f:α->β} {xs:List α} {k:Int} {x:α} (h0:0 <= k) (h:xs[k.toNat]?=some x):atI (xs.map f) k=some (f x):=by
 have e1:((k.toNat:Nat):Int)=k:=by omega
 have:=qdQ (xs:=xs.map f) (j:=k.toNat) (v:=f x) (by rw [List.getElem?_map,h];rfl)
 rwa [e1] at this
theorem seqIx {i:Int} {n:Nat} (h0:0 <= i) (h1:i < (n:Int)):seqIndex? i n=some i.toNat:=by
 show (if (decide (0 <= (if i < 0 then i + (n:Int) else i)) && decide ((if i < 0 then i + (n:Int) else i) < (n:Int)))=true then some (if i < 0 then i + (n:Int) else i).toNat else none)=_
 have h:(if i < 0 then i + (n:Int) else i)=i:=if_neg (by omega)
 rw [h,if_pos (by simp;omega)]
theorem qe7 {α β:Type} (f:α->β):∀ (xs:List α) (n:Nat),(xs.map f).eraseIdx n=(xs.eraseIdx n).map f
 | [],_=>rfl
 | _ :: _,0=>rfl
 | x :: xs,n + 1=>congrArg (f x :: ·) (qe7 f xs n)
theorem qhC {u w:Rho->Option Out} {ρ ρ':Rho} {r:Option Out} (h:u ρ=some (.nx ρ')) (h2:w ρ'=r):seqO u w ρ=r:=by rw [qhB,h,qcj];exact h2
theorem forD_pre {α:Type} (enc:α->PyData) {g:PyData->Rho->Option Rho} {u:Rho->Option Out} (I:List α->Rho->Prop) (all:List α) (ρ:Rho) (h0:I [] ρ) (step:∀ a done rest ρ,all=done ++ a :: rest->I done ρ->∃ ρ',ob (g (enc a) ρ) u=some (.nx ρ')/\I (done ++ [a]) ρ') :
  ∃ ρ',forD g u (all.map enc) ρ=some (.nx ρ')/\I all ρ':=by
 have key:∀ (as done:List α) (ρ:Rho),all=done ++ as->I done ρ->∃ ρ',forD g u (as.map enc) ρ=some (.nx ρ')/\I all ρ':=by
  intro as
  induction as with
  | nil=>intro done ρ e h;rw [List.append_nil] at e;subst e;exact ⟨ρ,rfl,h⟩
  | cons a as ih =>
   intro done ρ e h
   obtain ⟨ρ1,e1,h1⟩:=step a done as ρ e h
   obtain ⟨ρ2,e2,h2⟩:=ih (done ++ [a]) ρ1 (by rw [e,List.append_assoc];rfl) h1
   refine ⟨ρ2,?_,h2⟩
   rw [List.map_cons,Wy,e1,yH]
   exact e2
 exact key all [] ρ rfl h0
theorem ixe0 (s:Sp):ixD (eS s) (.int 0)=some (.int s.1):=rfl
theorem ixe1 (s:Sp):ixD (eS s) (.int 1)=some (.int s.2.1):=rfl
theorem ixe2 (s:Sp):ixD (eS s) (.int 2)=some (.int s.2.2):=rfl
theorem seqe (s:Sp):seqD (eS s)=some [.int s.1,.int s.2.1,.int s.2.2]:=rfl
theorem qf9 (s:Sp):qcq (eS s)=some (enL 0 [.int s.1,.int s.2.1,.int s.2.2]):=rfl
theorem liste (s:Sp):ju [eS s]=some (.list [.int s.1,.int s.2.1,.int s.2.2]):=rfl
theorem ix0:ixN 3 0=some 0:=rfl
theorem ix1:ixN 3 1=some 1:=rfl
theorem ix2:ixN 3 2=some 2:=rfl
theorem QQ (i:Int):flat (.int i)=true:=rfl
theorem flat_b (i:Bool):flat (.bool i)=true:=rfl
theorem Z0 (a b c:Int):flat (.tuple [.int a,.int b,.int c])=true:=rfl
theorem flat_eS (s:Sp):flat (eS s)=true:=rfl
theorem Wx (a b c:Int):qaN (.list [.int a,.int b,.int c])=true:=rfl
theorem qgb:∀ xs:List Sp,qaN (.list (xs.map eS))=true
 | []=>rfl
 | _ :: xs=>qgb xs
def BdS (n:Nat) (c:Sp):Prop:=Bd n c.1/\Bd n c.2.1/\Bd n c.2.2
theorem bd2:Bd 2 2:=Bd.of (by decide)
theorem rngL_map (n:Nat):rngL 0 n=(List.range n).map fun k=>PyData.int (k:Nat):=by
 have:∀ (n m:Nat),rngL (m:Nat) n=(List.range' m n).map fun k=>PyData.int (k:Nat):=by
  intro n
  induction n with
  | zero=>intro m;rfl
  | succ n ih =>
   intro m
   rw [rngL,List.range'_succ,List.map_cons,← ih (m + 1)]
   rfl
 rw [List.range_eq_range']
 exact this n 0
def Wc (os:List Sp) (a:Sp):List Sp:=if os.getLast?=some a then os.dropLast else os ++ [a]
theorem odd_step (os:List Sp) (a:Sp):(∀ P:Sp->Bool,(Wc os a).countP P % 2=(os.countP P + [a].countP P) % 2)/\(∀ s∈Wc os a,s∈os\/s=a)/\(Wc os a).length <= os.length + 1:=by
 unfold Wc
 split
 ·rename_i h
  obtain ⟨init,rfl⟩:=List.getLast?_eq_some_iff.mp h
  rw [List.dropLast_concat]
  refine ⟨fun P=>?_,fun s hs=>.inl (List.mem_append_left _ hs),by rw [List.length_append];omega⟩
  rw [List.countP_append]
  omega
 ·refine ⟨fun P=>by rw [List.countP_append],fun s hs=>?_,by rw [List.length_append];simp⟩
  rcases List.mem_append.mp hs with q | q
  ·exact .inl q
  ·exact .inr (by simpa using q)
end SF
namespace SF
open PySem L2
theorem lex3 (x y:Sp):HT.lexLt (l3 x) (l3 y)=decide (x.1 < y.1\/(x.1=y.1/\(x.2.1 < y.2.1\/(x.2.1=y.2.1/\x.2.2 < y.2.2)))):=by
 unfold l3
 rw [HT.zT,HT.zT,HT.zT,HT.qat]
 by_cases h1:x.1=y.1
 ·rw [if_pos h1]
  by_cases h2:x.2.1=y.2.1
  ·rw [if_pos h2]
   by_cases h3:x.2.2=y.2.2
   ·rw [if_pos h3,decide_eq_false (by omega)]
   ·rw [if_neg h3]
    exact decide_eq_decide.mpr (by omega)
  ·rw [if_neg h2]
   exact decide_eq_decide.mpr (by omega)
 ·rw [if_neg h1]
  exact decide_eq_decide.mpr (by omega)
theorem ris3 (x y:Sp):HT.lexLt (l3 y) (l3 x)=false↔(x.1 < y.1\/(x.1=y.1/\(x.2.1 < y.2.1\/(x.2.1=y.2.1/\x.2.2 <= y.2.2)))):=by
 rw [lex3,decide_eq_false_iff_not]
 omega
end SF
namespace SF
open PySem L2
theorem qf5 (ns:List Int) {a b:Nat}:∃ ms:List Int,sliD (.list (ns.map .int)) (some (a:Int)) (some (b:Int))=some (.list (ms.map .int))/\ms.length <= b - a:=by
 refine ⟨(ns.drop (HT.sIx (ns.map PyData.int).length 0 (some (a:Int)))).take (HT.sIx (ns.map PyData.int).length (ns.map PyData.int).length (some (b:Int)) - HT.sIx (ns.map PyData.int).length 0 (some (a:Int))),?_,?_⟩
 ·show some (PyData.list (cutD (ns.map .int) (some (a:Int)) (some (b:Int))))=_
  unfold cutD
  rw [← List.map_drop,← List.map_take]
 ·rw [List.length_take,List.length_drop,HT.qeD,HT.qeD,List.length_map]
  omega
def qgR (n:Nat) (c:Sp):Prop:=c.1.natAbs <= n/\c.2.1.natAbs <= n/\c.2.2.natAbs <= n
theorem qiT {n:Nat} {c:Sp} (h:qgR n c) (hn:n < 2 ^ 200):BdS 200 c:=⟨Bd.of (by have:=h.1;omega),Bd.of (by have:=h.2.1;omega),Bd.of (by have:=h.2.2;omega)⟩
theorem qd2 (x:Int):x % 3=0\/x % 3=1\/x % 3=2:=by omega
theorem qbp {α:Type} {xs:List α} (x:Int) (h:0 < xs.length):∃ y∈xs,xs[(x % (xs.length:Int)).toNat]?=some y:=by
 have a1:=Int.emod_nonneg x (b:=(xs.length:Int)) (by omega)
 have a2:=Int.emod_lt_of_pos x (b:=(xs.length:Int)) (by omega)
 have hlt:(x % (xs.length:Int)).toNat < xs.length:=by omega
 exact ⟨xs[(x % (xs.length:Int)).toNat],List.getElem_mem hlt,List.getElem?_eq_getElem hlt⟩
def mixV (c:Int):Int:=c % 10 ^ 30 * 48271 % 2147483647
theorem mix_mul (c:Int):mulD (.int (c % 10 ^ 30)) (.int 48271)=some (.int (c % 10 ^ 30 * 48271)):=by
 have a1:=Int.emod_nonneg c (b:=10 ^ 30) (by decide)
 have a2:=Int.emod_lt_of_pos c (b:=10 ^ 30) (by decide)
 exact zf (Bd.ok (n:=110) (m:=16) (Bd.of (by omega)) (Bd.of (by decide)))
theorem at_range {α β:Type} (f:α->β) {xs:List α} {k:Nat} (h:k∈List.range xs.length):∃ x∈xs,atI (xs.map f) (k:Int)=some (f x):=by
 have hk:=List.mem_range.mp h
 exact ⟨xs[k],List.getElem_mem hk,yw (by omega) (by simp [List.getElem?_eq_getElem hk])⟩
end SF
namespace SF
open PySem L2
theorem qkb {s:Sp} {A:Nat} (hA:A=0/\s.1 % 2=0/\s.2.1 % 2=1/\s.2.2 % 2=1\/A=1/\s.1 % 2=1/\s.2.1 % 2=0/\s.2.2 % 2=1\/A=2/\s.1 % 2=1/\s.2.1 % 2=1/\s.2.2 % 2=0):Qz [eS s]=some (.int (A:Nat)):=by
 have i0:Jk (.list [.int 0,.int 1,.int 1]) (.int 0)=some (.int 0):=rfl
 have i1:Jk (.list [.int 1,.int 0,.int 1]) (.int 0)=some (.int 1):=rfl
 have i2:Jk (.list [.int 1,.int 1,.int 0]) (.int 0)=some (.int 2):=rfl
 rcases hA with ⟨rfl,h1,h2,h3⟩ | ⟨rfl,h1,h2,h3⟩ | ⟨rfl,h1,h2,h3⟩<;>simp only [Qz,YS,eS]
 ·simp_arith [h1,h2,h3,i0]
 ·simp_arith [h1,h2,h3,i1]
 ·simp_arith [h1,h2,h3,i2]
def ed (A:Nat) (s:Sp):List Sp:=match A with
 | 0=>[(s.1,s.2.1 + -1,s.2.2),(s.1,s.2.1 + 1,s.2.2),(s.1,s.2.1,s.2.2 + -1),(s.1,s.2.1,s.2.2 + 1)]
 | 1=>[(s.1 + -1,s.2.1,s.2.2),(s.1 + 1,s.2.1,s.2.2),(s.1,s.2.1,s.2.2 + -1),(s.1,s.2.1,s.2.2 + 1)]
 | _=>[(s.1 + -1,s.2.1,s.2.2),(s.1 + 1,s.2.1,s.2.2),(s.1,s.2.1 + -1,s.2.2),(s.1,s.2.1 + 1,s.2.2)]
def others (A:Nat):List PyData:=match A with
 | 0=>[.int 1,.int 2]
 | 1=>[.int 0,.int 2]
 | _=>[.int 0,.int 1]
theorem near17 {A:Nat} (hA:A=0\/A=1\/A=2) (s:Sp):∃ zs:List Sp,q8 [eS s,.list (others A)]=some (.list (zs.map eS))/\zs.Perm (ed A s)/\(zs.map l3).Pairwise (fun a b=>HT.lexLt b a=false):=by
 obtain ⟨zs,e,p,o⟩:=JN (xs:=ed A s) (by rcases hA with rfl | rfl | rfl<;>exact (show (4:Nat) < 64 by decide))
 refine ⟨zs,?_,p,o⟩
 rcases hA with rfl | rfl | rfl
 ·have e:zU [.list [.tuple [.int s.1,.int (s.2.1 + -1),.int s.2.2],.tuple [.int s.1,.int (s.2.1 + 1),.int s.2.2],.tuple [.int s.1,.int s.2.1,.int (s.2.2 + -1)],.tuple [.int s.1,.int s.2.1,.int (s.2.2 + 1)]]]=some (.list (zs.map eS)):=e
  simp only [q8,QG,eS,others]
  simp_arith [ix0,ix1,ix2,QQ,Z0,e]
 ·have e:zU [.list [.tuple [.int (s.1 + -1),.int s.2.1,.int s.2.2],.tuple [.int (s.1 + 1),.int s.2.1,.int s.2.2],.tuple [.int s.1,.int s.2.1,.int (s.2.2 + -1)],.tuple [.int s.1,.int s.2.1,.int (s.2.2 + 1)]]]=some (.list (zs.map eS)):=e
  simp only [q8,QG,eS,others]
  simp_arith [ix0,ix1,ix2,QQ,Z0,e]
 ·have e:zU [.list [.tuple [.int (s.1 + -1),.int s.2.1,.int s.2.2],.tuple [.int (s.1 + 1),.int s.2.1,.int s.2.2],.tuple [.int s.1,.int (s.2.1 + -1),.int s.2.2],.tuple [.int s.1,.int (s.2.1 + 1),.int s.2.2]]]=some (.list (zs.map eS)):=e
  simp only [q8,QG,eS,others]
  simp_arith [ix0,ix1,ix2,QQ,Z0,e]
def edU (A:Nat) (s:Sp):List Sp:=match A with
 | 0=>[(s.1 + 0,s.2.1 + -1,s.2.2 + 0),(s.1 + 0,s.2.1 + 0,s.2.2 + -1),(s.1 + 0,s.2.1 + 0,s.2.2 + 1),(s.1 + 0,s.2.1 + 1,s.2.2 + 0)]
 | 1=>[(s.1 + -1,s.2.1 + 0,s.2.2 + 0),(s.1 + 0,s.2.1 + 0,s.2.2 + -1),(s.1 + 0,s.2.1 + 0,s.2.2 + 1),(s.1 + 1,s.2.1 + 0,s.2.2 + 0)]
 | _=>[(s.1 + -1,s.2.1 + 0,s.2.2 + 0),(s.1 + 0,s.2.1 + -1,s.2.2 + 0),(s.1 + 0,s.2.1 + 1,s.2.2 + 0),(s.1 + 1,s.2.1 + 0,s.2.2 + 0)]
theorem perm4 {α:Type} (a b c d:α):[a,c,d,b].Perm [a,b,c,d]:=.cons a ((List.Perm.cons c (.swap b d [])).trans (.swap b c [d]))
theorem edU_perm {A:Nat} (hA:A=0\/A=1\/A=2) (s:Sp):(edU A s).Perm (ed A s):=by
 obtain ⟨x,y,z⟩:=s
 rcases hA with rfl | rfl | rfl<;>simp only [edU,ed,Int.add_zero]<;>exact perm4 _ _ _ _
theorem qjJ (n:Int):QM [.int n]=some (.bool true):=rfl
theorem qjA (xs:List Sp):Qj [.list (xs.map eS)]=some (.bool true):=by
 obtain ⟨ρ',e,o1,o2,rfl⟩:=Zg eS (g:=gNm 1) (u:=(seqO (sIf (tO (tN (tV (ev1 (vr 1) (isiD "tuple")))) (tV (ev2 (evA (aC (vr 1) aN) lenD) (kd (.int 3)) neD))) (sRet (kd (.bool false))) sN) (sFor (evI (vr 1) seqD) (gNm 2) (sIf (tN (tV (evC 1 (aC (vr 2) aN) QM))) (sRet (kd (.bool false))) sN))))
  (fun done ρ=>∃ o1 o2:Option PyData,ρ=[some (.list (xs.map eS)),o1,o2]) xs [some (.list (xs.map eS)),none,none] ⟨none,none,rfl⟩ (by
   rintro a ha done ρ hdl ⟨o1,o2,rfl⟩
   refine ⟨[some (.list (xs.map eS)),some (eS a),some (.int a.2.2)],?_,_,_,rfl⟩
   simp only [eS]
   simp_arith [qjJ])
 simp only [Qj,jO]
 simp_arith []
 have:=congrArg (fun o=>ob (Wk o (sRet (kd (.bool true)))) outD) e
 simp_arith [] at this
 exact this
end SF
namespace SF
open PySem L2
def sb (a b:Sp):Sp:=(a.1 - b.1,a.2.1 - b.2.1,a.2.2 - b.2.2)
def ar (B:Nat) (e:Sp):List Sp:=match B with
 | 0=>[(e.1,e.2.1 - 1,e.2.2),(e.1,e.2.1,e.2.2 - 1),(e.1,e.2.1,e.2.2 + 1),(e.1,e.2.1 + 1,e.2.2)]
 | 1=>[(e.1 - 1,e.2.1,e.2.2),(e.1,e.2.1,e.2.2 - 1),(e.1,e.2.1,e.2.2 + 1),(e.1 + 1,e.2.1,e.2.2)]
 | _=>[(e.1 - 1,e.2.1,e.2.2),(e.1,e.2.1 - 1,e.2.2),(e.1,e.2.1 + 1,e.2.2),(e.1 + 1,e.2.1,e.2.2)]
def lo (A:Nat) (s:Sp):Sp:=match A with
 | 0=>(s.1 - 1,s.2.1,s.2.2)
 | 1=>(s.1,s.2.1 - 1,s.2.2)
 | _=>(s.1,s.2.1,s.2.2 - 1)
def hi (A:Nat) (s:Sp):Sp:=match A with
 | 0=>(s.1 + 1,s.2.1,s.2.2)
 | 1=>(s.1,s.2.1 + 1,s.2.2)
 | _=>(s.1,s.2.1,s.2.2 + 1)
def axA (s:Sp):Nat:=if s.1 % 2=0 then 0 else if s.2.1 % 2=0 then 1 else 2
def skB (I:Sp->Bool) (s:Sp):Bool:=I (lo (axA s) s) != I (hi (axA s) s)
def Jb (I:Sp->Bool) (s0 e s1:Sp):Int:=if sb s1 e=sb e s0 then 0 else if sb s1 e=sb s0 (if I (lo (axA s0) s0)=true then lo (axA s0) s0 else hi (axA s0) s0) then 1 else -1
def md4 (B:Nat) (e:Sp):List Sp:=match B with
 | 0=>[(e.1,e.2.1 - 1,e.2.2 - 1),(e.1,e.2.1 - 1,e.2.2 + 1),(e.1,e.2.1 + 1,e.2.2 - 1),(e.1,e.2.1 + 1,e.2.2 + 1)]
 | 1=>[(e.1 - 1,e.2.1,e.2.2 - 1),(e.1 - 1,e.2.1,e.2.2 + 1),(e.1 + 1,e.2.1,e.2.2 - 1),(e.1 + 1,e.2.1,e.2.2 + 1)]
 | _=>[(e.1 - 1,e.2.1 - 1,e.2.2),(e.1 - 1,e.2.1 + 1,e.2.2),(e.1 + 1,e.2.1 - 1,e.2.2),(e.1 + 1,e.2.1 + 1,e.2.2)]
theorem qab {α:Type} [DecidableEq α]:∀ {as bs:List α},as.Nodup->bs.Nodup->(∀ x,x∈as↔x∈bs)->as.Perm bs
 | [],[],_,_,_=>.refl _
 | [],b :: bs,_,_,h=>absurd ((h b).mpr (.head _)) (by simp)
 | a :: as,bs,h1,h2,h=>by
  have ha:a∈bs:=(h a).mp (.head _)
  obtain ⟨n1,n2⟩:=List.nodup_cons.mp h1
  refine List.Perm.trans (List.Perm.cons a (qab n2 (h2.erase a) fun x=>?_)) (List.perm_cons_erase ha).symm
  rw [h2.mem_erase_iff]
  constructor
  ·intro hx
   exact ⟨fun z=>n1 (by rw [← z];exact hx),(h x).mp (.tail _ hx)⟩
  ·rintro ⟨hx,hm⟩
   rcases List.mem_cons.mp ((h x).mpr hm) with z | z
   ·exact absurd z hx
   ·exact z
abbrev EdB' (B:Nat) (e:Sp):Prop:=B=0/\e.1 % 2=1/\e.2.1 % 2=0/\e.2.2 % 2=0\/B=1/\e.1 % 2=0/\e.2.1 % 2=1/\e.2.2 % 2=0\/B=2/\e.1 % 2=0/\e.2.1 % 2=0/\e.2.2 % 2=1
theorem Wj {s:Sp} (h:Sq s):(axA s=0/\s.1 % 2=0/\s.2.1 % 2=1/\s.2.2 % 2=1)\/(axA s=1/\s.1 % 2=1/\s.2.1 % 2=0/\s.2.2 % 2=1)\/(axA s=2/\s.1 % 2=1/\s.2.1 % 2=1/\s.2.2 % 2=0):=by
 unfold axA
 rcases h with ⟨a,b,c⟩ | ⟨a,b,c⟩ | ⟨a,b,c⟩
 ·exact .inl ⟨if_pos a,a,b,c⟩
 ·exact .inr (.inl ⟨by rw [if_neg (by omega),if_pos b],a,b,c⟩)
 ·exact .inr (.inr ⟨by rw [if_neg (by omega),if_neg (by omega)],a,b,c⟩)
theorem JG {e s:Sp}:s∈ar 0 e↔s.1=e.1/\((s.2.2=e.2.2/\(s.2.1=e.2.1 - 1\/s.2.1=e.2.1 + 1))\/(s.2.1=e.2.1/\(s.2.2=e.2.2 - 1\/s.2.2=e.2.2 + 1))):=by
 obtain ⟨x,y,z⟩:=e
 obtain ⟨u,v,w⟩:=s
 simp only [ar,List.mem_cons,List.not_mem_nil,or_false,Prod.mk.injEq]
 constructor
 ·rintro (⟨a,b,c⟩ | ⟨a,b,c⟩ | ⟨a,b,c⟩ | ⟨a,b,c⟩)
  ·exact ⟨a,.inl ⟨c,.inl b⟩⟩
  ·exact ⟨a,.inr ⟨b,.inl c⟩⟩
  ·exact ⟨a,.inr ⟨b,.inr c⟩⟩
  ·exact ⟨a,.inl ⟨c,.inr b⟩⟩
 ·rintro ⟨a,⟨c,b | b⟩ | ⟨b,c | c⟩⟩
  ·exact .inl ⟨a,b,c⟩
  ·exact .inr (.inr (.inr ⟨a,b,c⟩))
  ·exact .inr (.inl ⟨a,b,c⟩)
  ·exact .inr (.inr (.inl ⟨a,b,c⟩))
theorem JH {e s:Sp}:s∈ar 1 e↔s.2.1=e.2.1/\((s.2.2=e.2.2/\(s.1=e.1 - 1\/s.1=e.1 + 1))\/(s.1=e.1/\(s.2.2=e.2.2 - 1\/s.2.2=e.2.2 + 1))):=by
 obtain ⟨x,y,z⟩:=e
 obtain ⟨u,v,w⟩:=s
 simp only [ar,List.mem_cons,List.not_mem_nil,or_false,Prod.mk.injEq]
 constructor
 ·rintro (⟨a,b,c⟩ | ⟨a,b,c⟩ | ⟨a,b,c⟩ | ⟨a,b,c⟩)
  ·exact ⟨b,.inl ⟨c,.inl a⟩⟩
  ·exact ⟨b,.inr ⟨a,.inl c⟩⟩
  ·exact ⟨b,.inr ⟨a,.inr c⟩⟩
  ·exact ⟨b,.inl ⟨c,.inr a⟩⟩
 ·rintro ⟨b,⟨c,a | a⟩ | ⟨a,c | c⟩⟩
  ·exact .inl ⟨a,b,c⟩
  ·exact .inr (.inr (.inr ⟨a,b,c⟩))
  ·exact .inr (.inl ⟨a,b,c⟩)
  ·exact .inr (.inr (.inl ⟨a,b,c⟩))
theorem JK {e s:Sp}:s∈ar 2 e↔s.2.2=e.2.2/\((s.2.1=e.2.1/\(s.1=e.1 - 1\/s.1=e.1 + 1))\/(s.1=e.1/\(s.2.1=e.2.1 - 1\/s.2.1=e.2.1 + 1))):=by
 obtain ⟨x,y,z⟩:=e
 obtain ⟨u,v,w⟩:=s
 simp only [ar,List.mem_cons,List.not_mem_nil,or_false,Prod.mk.injEq]
 constructor
 ·rintro (⟨a,b,c⟩ | ⟨a,b,c⟩ | ⟨a,b,c⟩ | ⟨a,b,c⟩)
  ·exact ⟨c,.inl ⟨b,.inl a⟩⟩
  ·exact ⟨c,.inr ⟨a,.inl b⟩⟩
  ·exact ⟨c,.inr ⟨a,.inr b⟩⟩
  ·exact ⟨c,.inl ⟨b,.inr a⟩⟩
 ·rintro ⟨c,⟨b,a | a⟩ | ⟨a,b | b⟩⟩
  ·exact .inl ⟨a,b,c⟩
  ·exact .inr (.inr (.inr ⟨a,b,c⟩))
  ·exact .inr (.inl ⟨a,b,c⟩)
  ·exact .inr (.inr (.inl ⟨a,b,c⟩))
theorem ax0 {s:Sp} (h:s.1 % 2=0):axA s=0:=if_pos h
theorem ax1 {s:Sp} (h:s.1 % 2=1) (g:s.2.1 % 2=0):axA s=1:=by unfold axA;rw [if_neg (by omega),if_pos g]
theorem ax2 {s:Sp} (h:s.1 % 2=1) (g:s.2.1 % 2=1):axA s=2:=by unfold axA;rw [if_neg (by omega),if_neg (by omega)]
theorem jT {a b:Int} (h:a=b - 1\/a=b + 1):b=a - 1\/b=a + 1:=by omega
theorem odd1 {a b:Int} (h:a=b - 1\/a=b + 1) (g:b % 2=0):a % 2=1:=by omega
theorem qaM {a b:Int} (h:a=b - 1\/a=b + 1) (g:b % 2=1):a % 2=0:=by omega
theorem ne01 {a:Int} (h:a % 2=0) (g:a % 2=1) {P:Prop}:P:=by rw [h] at g;cases g
theorem oddm {a:Int} (h:a % 2=0):(a - 1) % 2=1:=by omega
theorem oddp {a:Int} (h:a % 2=0):(a + 1) % 2=1:=by omega
theorem od1 {a o:Int} (h:a % 2=0) (ho:o=-1\/o=1):(a + o) % 2=1:=by omega
theorem hlf {a:Int} (h:a % 2=1):(a - 1) / 2=a / 2:=by omega
theorem qjC {B:Nat} {e s:Sp} (hB:EdB' B e):s∈ar B e↔Sq s/\e∈ar (axA s) s:=by
 constructor
 ·intro h
  rcases hB with ⟨rfl,h1,h2,h3⟩ | ⟨rfl,h1,h2,h3⟩ | ⟨rfl,h1,h2,h3⟩
  ·obtain ⟨p,⟨q,r⟩ | ⟨q,r⟩⟩:=JG.mp h
   ·have k1:s.1 % 2=1:=p ▸ h1
    have k2:=odd1 r h2
    have k3:s.2.2 % 2=0:=q ▸ h3
    exact ⟨.inr (.inr ⟨k1,k2,k3⟩),by rw [ax2 k1 k2,JK];exact ⟨q.symm,.inr ⟨p.symm,jT r⟩⟩⟩
   ·have k1:s.1 % 2=1:=p ▸ h1
    have k2:s.2.1 % 2=0:=q ▸ h2
    have k3:=odd1 r h3
    exact ⟨.inr (.inl ⟨k1,k2,k3⟩),by rw [ax1 k1 k2,JH];exact ⟨q.symm,.inr ⟨p.symm,jT r⟩⟩⟩
  ·obtain ⟨p,⟨q,r⟩ | ⟨q,r⟩⟩:=JH.mp h
   ·have k1:=odd1 r h1
    have k2:s.2.1 % 2=1:=p ▸ h2
    have k3:s.2.2 % 2=0:=q ▸ h3
    exact ⟨.inr (.inr ⟨k1,k2,k3⟩),by rw [ax2 k1 k2,JK];exact ⟨q.symm,.inl ⟨p.symm,jT r⟩⟩⟩
   ·have k1:s.1 % 2=0:=q ▸ h1
    have k2:s.2.1 % 2=1:=p ▸ h2
    have k3:=odd1 r h3
    exact ⟨.inl ⟨k1,k2,k3⟩,by rw [ax0 k1,JG];exact ⟨q.symm,.inr ⟨p.symm,jT r⟩⟩⟩
  ·obtain ⟨p,⟨q,r⟩ | ⟨q,r⟩⟩:=JK.mp h
   ·have k1:=odd1 r h1
    have k2:s.2.1 % 2=0:=q ▸ h2
    have k3:s.2.2 % 2=1:=p ▸ h3
    exact ⟨.inr (.inl ⟨k1,k2,k3⟩),by rw [ax1 k1 k2,JH];exact ⟨q.symm,.inl ⟨p.symm,jT r⟩⟩⟩
   ·have k1:s.1 % 2=0:=q ▸ h1
    have k2:=odd1 r h2
    have k3:s.2.2 % 2=1:=p ▸ h3
    exact ⟨.inl ⟨k1,k2,k3⟩,by rw [ax0 k1,JG];exact ⟨q.symm,.inl ⟨p.symm,jT r⟩⟩⟩
 ·rintro ⟨hs,h⟩
  rcases Wj hs with ⟨e1,a,b,c⟩ | ⟨e1,a,b,c⟩ | ⟨e1,a,b,c⟩<;>rw [e1] at h
  ·obtain ⟨p,⟨q,r⟩ | ⟨q,r⟩⟩:=JG.mp h
   ·have k1:e.1 % 2=0:=p ▸ a
    have k2:=qaM r b
    rcases hB with ⟨rfl,h1,h2,h3⟩ | ⟨rfl,h1,h2,h3⟩ | ⟨rfl,h1,h2,h3⟩
    ·exact ne01 k1 h1
    ·exact ne01 k2 h2
    ·exact JK.mpr ⟨q.symm,.inr ⟨p.symm,jT r⟩⟩
   ·have k1:e.1 % 2=0:=p ▸ a
    have k3:=qaM r c
    rcases hB with ⟨rfl,h1,h2,h3⟩ | ⟨rfl,h1,h2,h3⟩ | ⟨rfl,h1,h2,h3⟩
    ·exact ne01 k1 h1
    ·exact JH.mpr ⟨q.symm,.inr ⟨p.symm,jT r⟩⟩
    ·exact ne01 k3 h3
  ·obtain ⟨p,⟨q,r⟩ | ⟨q,r⟩⟩:=JH.mp h
   ·have k1:=qaM r a
    have k2:e.2.1 % 2=0:=p ▸ b
    rcases hB with ⟨rfl,h1,h2,h3⟩ | ⟨rfl,h1,h2,h3⟩ | ⟨rfl,h1,h2,h3⟩
    ·exact ne01 k1 h1
    ·exact ne01 k2 h2
    ·exact JK.mpr ⟨q.symm,.inl ⟨p.symm,jT r⟩⟩
   ·have k2:e.2.1 % 2=0:=p ▸ b
    have k3:=qaM r c
    rcases hB with ⟨rfl,h1,h2,h3⟩ | ⟨rfl,h1,h2,h3⟩ | ⟨rfl,h1,h2,h3⟩
    ·exact JG.mpr ⟨q.symm,.inr ⟨p.symm,jT r⟩⟩
    ·exact ne01 k2 h2
    ·exact ne01 k3 h3
  ·obtain ⟨p,⟨q,r⟩ | ⟨q,r⟩⟩:=JK.mp h
   ·have k1:=qaM r a
    have k3:e.2.2 % 2=0:=p ▸ c
    rcases hB with ⟨rfl,h1,h2,h3⟩ | ⟨rfl,h1,h2,h3⟩ | ⟨rfl,h1,h2,h3⟩
    ·exact ne01 k1 h1
    ·exact JH.mpr ⟨q.symm,.inl ⟨p.symm,jT r⟩⟩
    ·exact ne01 k3 h3
   ·have k2:=qaM r b
    have k3:e.2.2 % 2=0:=p ▸ c
    rcases hB with ⟨rfl,h1,h2,h3⟩ | ⟨rfl,h1,h2,h3⟩ | ⟨rfl,h1,h2,h3⟩
    ·exact JG.mpr ⟨q.symm,.inl ⟨p.symm,jT r⟩⟩
    ·exact ne01 k2 h2
    ·exact ne01 k3 h3
theorem qj8 {B:Nat} (hB:B=0\/B=1\/B=2) (e:Sp):((ar B e).map l3).Pairwise (fun a b=>HT.lexLt b a=false):=by
 obtain ⟨x,y,z⟩:=e
 rcases hB with rfl | rfl | rfl<;>rw [List.pairwise_map]<;>simp only [ar,List.pairwise_cons,List.mem_cons,List.not_mem_nil,or_false,forall_eq_or_imp,forall_eq,ris3]<;>simp<;>omega
theorem qfJ {B:Nat} (hB:B=0\/B=1\/B=2) (e:Sp):(ar B e).Nodup:=by
 obtain ⟨x,y,z⟩:=e
 rcases hB with rfl | rfl | rfl<;>simp [ar]<;>omega
theorem at_edge {I:Sp->Bool} {sk:List Sp} (hr:(sk.map l3).Pairwise (fun a b=>HT.lexLt b a=false)) (hn:sk.Nodup) (hm:∀ s,s∈sk↔Sq s/\skB I s=true) {B:Nat} {e:Sp} (hB:EdB' B e) :
  sk.filter (fun s=>decide (e∈ar (axA s) s))=(ar B e).filter (skB I):=by
 have hB3:B=0\/B=1\/B=2:=by rcases hB with z | z | z<;>simp [z.1]
 refine qc0 (qab (hn.filter _) ((qfJ hB3 e).filter _) fun s=>?_) ?_ ?_
 ·rw [List.mem_filter,List.mem_filter,hm,qjC hB,decide_eq_true_eq]
  constructor
  ·rintro ⟨⟨a,b⟩,c⟩;exact ⟨⟨a,c⟩,b⟩
  ·rintro ⟨⟨a,b⟩,c⟩;exact ⟨⟨a,c⟩,b⟩
 ·rw [List.pairwise_map] at hr ⊢
  exact hr.filter _
 ·have:=qj8 hB3 e
  rw [List.pairwise_map] at this ⊢
  exact this.filter _
def ad (a b:Sp):Sp:=(a.1 + b.1,a.2.1 + b.2.1,a.2.2 + b.2.2)
theorem wB {a b:Sp} (h1:a.1=b.1) (h2:a.2.1=b.2.1) (h3:a.2.2=b.2.2):a=b:=Prod.ext h1 (Prod.ext h2 h3)
theorem ar_tr (A:Nat) (s t:Sp):ar A (ad s t)=(ar A s).map fun x=>ad x t:=by
 have h:∀ a b:Int,a + b - 1=a - 1 + b:=fun a b=>by omega
 have g:∀ a b:Int,a + b + 1=a + 1 + b:=fun a b=>by omega
 unfold ar
 split<;>simp only [ad,List.map_cons,List.map_nil,h,g]
def evn (t:Sp):Prop:=t.1 % 2=0/\t.2.1 % 2=0/\t.2.2 % 2=0
theorem evn1 {a b:Int} (h:b % 2=0):(a + b) % 2=a % 2:=by omega
theorem qfL {t:Sp} (ht:evn t) (s:Sp):axA (ad s t)=axA s:=by
 unfold axA ad
 dsimp only
 rw [evn1 ht.1,evn1 ht.2.1]
theorem qjT (A:Nat) (s t:Sp):lo A (ad s t)=ad (lo A s) t:=by
 have h:∀ a b:Int,a + b - 1=a - 1 + b:=fun a b=>by omega
 unfold lo
 split<;>simp only [ad,h]
theorem qjQ (A:Nat) (s t:Sp):hi A (ad s t)=ad (hi A s) t:=by
 have h:∀ a b:Int,a + b + 1=a + 1 + b:=fun a b=>by omega
 unfold hi
 split<;>simp only [ad,h]
theorem qhz (a b t:Sp):sb (ad a t) (ad b t)=sb a b:=by
 have h:∀ a b c:Int,a + c - (b + c)=a - b:=fun a b c=>by omega
 simp only [sb,ad,h]
theorem qlJ (I:Sp->Bool) {t:Sp} (ht:evn t) (s:Sp):skB I (ad s t)=skB (fun x=>I (ad x t)) s:=by
 unfold skB
 rw [qfL ht,qjT,qjQ]
theorem qfO (I:Sp->Bool) {t:Sp} (ht:evn t) (a e b:Sp):Jb I (ad a t) (ad e t) (ad b t)=Jb (fun x=>I (ad x t)) a e b:=by
 unfold Jb
 rw [qfL ht,qjT,qjQ,qhz,qhz]
 have:sb (ad a t) (if I (ad (lo (axA a) a) t)=true then ad (lo (axA a) a) t else ad (hi (axA a) a) t)=sb a (if I (ad (lo (axA a) a) t)=true then lo (axA a) a else hi (axA a) a):=by
  split<;>exact qhz _ _ _
 rw [this]
theorem qkM (B:Nat) (e t:Sp):md4 B (ad e t)=(md4 B e).map fun x=>ad x t:=by
 have h:∀ a b:Int,a + b - 1=a - 1 + b:=fun a b=>by omega
 have g:∀ a b:Int,a + b + 1=a + 1 + b:=fun a b=>by omega
 unfold md4
 split<;>simp only [ad,List.map_cons,List.map_nil,h,g]
def jf (l:List Sp) (a b c d:Bool):Sp->Bool:=fun m=>match l with
 | [m1,m2,m3,m4]=>if m == m1 then a else if m == m2 then b else if m == m3 then c else if m == m4 then d else false
 | _=>false
def e0s:List (Nat×Sp):=[(0,1,0,0),(1,0,1,0),(2,0,0,1)]
theorem w5 (b:Bool):b∈[false,true]:=by cases b<;>simp
theorem e0_of {B:Nat} {e:Sp} (hB:EdB' B e):∃ t p:Sp,evn t/\(B,p)∈e0s/\e=ad p t:=by
 refine ⟨(e.1 / 2 * 2,e.2.1 / 2 * 2,e.2.2 / 2 * 2),(e.1 % 2,e.2.1 % 2,e.2.2 % 2),⟨by dsimp only;omega,by dsimp only;omega,by dsimp only;omega⟩,?_,wB (by show e.1=e.1 % 2 + e.1 / 2 * 2;omega) (by show e.2.1=e.2.1 % 2 + e.2.1 / 2 * 2;omega) (by show e.2.2=e.2.2 % 2 + e.2.2 / 2 * 2;omega)⟩
 rcases hB with ⟨rfl,a,b,c⟩ | ⟨rfl,a,b,c⟩ | ⟨rfl,a,b,c⟩<;>rw [a,b,c]<;>simp [e0s]
theorem J_of (I:Sp->Bool) {B:Nat} {p:Sp} (hp:(B,p)∈e0s):∃ a b c d:Bool,(∀ m∈md4 B p,I m=jf (md4 B p) a b c d m)/\(∀ s∈ar B p,skB I s=skB (jf (md4 B p) a b c d) s)/\∀ s∈ar B p,I (lo (axA s) s)=jf (md4 B p) a b c d (lo (axA s) s):=by
 unfold e0s at hp
 simp only [List.mem_cons,List.not_mem_nil,or_false,Prod.mk.injEq] at hp
 rcases hp with ⟨rfl,rfl⟩ | ⟨rfl,rfl⟩ | ⟨rfl,rfl⟩
 ·refine ⟨I (1,-1,-1),I (1,-1,1),I (1,1,-1),I (1,1,1),fun s hs=>?_,fun s hs=>?_,fun s hs=>?_⟩
  ·simp only [md4,List.mem_cons,List.not_mem_nil,or_false] at hs;rcases hs with rfl | rfl | rfl | rfl<;>kernel_rfl
  ·simp only [ar,List.mem_cons,List.not_mem_nil,or_false] at hs;rcases hs with rfl | rfl | rfl | rfl<;>kernel_rfl
  ·simp only [ar,List.mem_cons,List.not_mem_nil,or_false] at hs;rcases hs with rfl | rfl | rfl | rfl<;>kernel_rfl
 ·refine ⟨I (-1,1,-1),I (-1,1,1),I (1,1,-1),I (1,1,1),fun s hs=>?_,fun s hs=>?_,fun s hs=>?_⟩
  ·simp only [md4,List.mem_cons,List.not_mem_nil,or_false] at hs;rcases hs with rfl | rfl | rfl | rfl<;>kernel_rfl
  ·simp only [ar,List.mem_cons,List.not_mem_nil,or_false] at hs;rcases hs with rfl | rfl | rfl | rfl<;>kernel_rfl
  ·simp only [ar,List.mem_cons,List.not_mem_nil,or_false] at hs;rcases hs with rfl | rfl | rfl | rfl<;>kernel_rfl
 ·refine ⟨I (-1,-1,1),I (-1,1,1),I (1,-1,1),I (1,1,1),fun s hs=>?_,fun s hs=>?_,fun s hs=>?_⟩
  ·simp only [md4,List.mem_cons,List.not_mem_nil,or_false] at hs;rcases hs with rfl | rfl | rfl | rfl<;>kernel_rfl
  ·simp only [ar,List.mem_cons,List.not_mem_nil,or_false] at hs;rcases hs with rfl | rfl | rfl | rfl<;>kernel_rfl
  ·simp only [ar,List.mem_cons,List.not_mem_nil,or_false] at hs;rcases hs with rfl | rfl | rfl | rfl<;>kernel_rfl
theorem qdc {I J:Sp->Bool} {a e b:Sp} (h:I (lo (axA a) a)=J (lo (axA a) a)):Jb I a e b=Jb J a e b:=by unfold Jb;rw [h]
def bndB (J:Sp->Bool) (B:Nat) (p:Sp):Bool:=match (ar B p).filter (skB J) with
 | []=>true
 | [s0,s1]=>Jb J s0 p s1 == ((md4 B p).countP J:Nat) - 2
 | l=>l == ar B p
def qfS:Bool:=e0s.all fun q=>[false,true].all fun a=>[false,true].all fun b=>[false,true].all fun c=>[false,true].all fun d=>bndB (jf (md4 q.1 q.2) a b c d) q.1 q.2
theorem qeL:qfS=true:=by decide +kernel
theorem qlY (I:Sp->Bool) {B:Nat} {e:Sp} (hB:EdB' B e) :
  (ar B e).filter (skB I)=[]\/((ar B e).filter (skB I)=ar B e)\/∃ s0 s1,(ar B e).filter (skB I)=[s0,s1]/\Jb I s0 e s1=((md4 B e).countP I:Nat) - 2:=by
 obtain ⟨t,p,ht,hp,rfl⟩:=e0_of hB
 have hf:skB I ∘ (fun x=>ad x t)=skB (fun x=>I (ad x t)):=funext fun s=>qlJ I ht s
 rw [ar_tr,List.filter_map,hf,qkM,List.countP_map]
 have hic:I ∘ (fun x=>ad x t)=fun x=>I (ad x t):=rfl
 rw [hic]
 obtain ⟨a,b,c,d,h1,h2,h3⟩:=J_of (fun x=>I (ad x t)) hp
 have hall:=qeL
 unfold qfS at hall
 have k:=List.all_eq_true.mp (List.all_eq_true.mp (List.all_eq_true.mp (List.all_eq_true.mp (List.all_eq_true.mp hall (B,p) hp) a (w5 a)) b (w5 b)) c (w5 c)) d (w5 d)
 dsimp only at k
 generalize jf (md4 B p) a b c d=J at h1 h2 h3 k
 have hc:(md4 B p).countP (fun x=>I (ad x t))=(md4 B p).countP J:=List.countP_congr fun m hm=>by rw [h1 m hm]
 rw [List.filter_congr h2,hc]
 unfold bndB at k
 cases hq:(ar B p).filter (skB J) with
 | nil=>exact .inl rfl
 | cons x l =>
  rw [hq] at k
  cases l with
  | nil=>exact .inr (.inl (by rw [beq_iff_eq.mp (show ([x] == ar B p)=true from k)]))
  | cons y l =>
   cases l with
   | cons z l=>exact .inr (.inl (by rw [beq_iff_eq.mp (show ((x :: y :: z :: l) == ar B p)=true from k)]))
   | nil =>
    have hx:x∈ar B p:=(List.mem_filter.mp (show x∈(ar B p).filter (skB J) by rw [hq];exact List.mem_cons_self)).1
    refine .inr (.inr ⟨ad x t,ad y t,rfl,?_⟩)
    rw [qfO I ht]
    have hb:Jb (fun x=>I (ad x t)) x p y=Jb J x p y:=qdc (h3 x hx)
    rw [hb]
    exact beq_iff_eq.mp (show (Jb J x p y == ((md4 B p).countP J:Nat) - 2)=true from k)
end SF
namespace SF
open PySem L2
def kS (s:Sp):KX:=.inr [.inl s.1,.inl s.2.1,.inl s.2.2]
theorem qec (s:Sp):kxD (kS s)=eS s:=rfl
theorem qgp (s:Sp):kxOf (eS s)=some (kS s):=rfl
def eD (kvs:List (Sp×Nat)):List (PyData×PyData):=kvs.map fun p=>(eS p.1,.int (p.2:Nat))
def cnt (kvs:List (Sp×Nat)) (s:Sp):Nat:=((kvs.find? fun p=>decide (p.1=s)).map (·.2)).getD 0
def bump (kvs:List (Sp×Nat)) (s:Sp):List (Sp×Nat):=if s∈kvs.map (·.1) then kvs.map fun p=>if p.1=s then (p.1,cnt kvs s + 1) else p else kvs ++ [(s,1)]
def tally (xs:List Sp):List (Sp×Nat):=xs.foldl bump []
def once (xs:List Sp):List Sp:=xs.foldl (fun ks s=>if s∈ks then ks else ks ++ [s]) []
theorem qdi (kvs:List (Sp×Nat)) (s:Sp):kOk (eD kvs) (kS s)=true:=by
 unfold kOk eD
 rw [List.all_map]
 exact List.all_eq_true.mpr fun p _=>rfl
theorem yF (s:Sp):∀ kvs:List (Sp×Nat),zZ (eD kvs) (kS s)=(kvs.find? fun p=>decide (p.1=s)).map fun p=>PyData.int (p.2:Nat)
 | []=>rfl
 | p :: kvs=>by
  have ih:=yF s kvs
  unfold zZ eD at *
  rw [List.map_cons,List.find?_cons,List.find?_cons,qec,Yw]
  rw [qec] at ih
  by_cases h:p.1=s
  ·rw [decide_eq_true h];rfl
  ·rw [decide_eq_false h];exact ih
theorem qeF (s:Sp) (kvs:List (Sp×Nat)):(zZ (eD kvs) (kS s)).isSome=decide (s∈kvs.map (·.1)):=by
 rw [yF]
 by_cases h:s∈kvs.map (·.1)
 ·obtain ⟨p,hp,rfl⟩:=List.mem_map.mp h
  rw [decide_eq_true h]
  cases e:kvs.find? (fun x=>decide (x.1=p.1)) with
  | some x=>rfl
  | none=>exact absurd (List.find?_eq_none.mp e p hp) (by simp)
 ·rw [decide_eq_false h,List.find?_eq_none.mpr fun p hp=>by simpa using fun z=>h (List.mem_map.mpr ⟨p,hp,z⟩)];rfl
theorem qks (kvs:List (Sp×Nat)) (s:Sp):Wu (.dict (eD kvs)) (eS s) (.int 0)=some (.int (cnt kvs s:Nat)):=by
 show ob (kxOf (eS s)) (fun ks=>if kOk (eD kvs) ks=true then some ((zZ (eD kvs) ks).getD (.int 0)) else none)=_
 rw [qgp,ob_s,if_pos (qdi _ _),yF]
 unfold cnt
 cases kvs.find? (fun p=>decide (p.1=s))<;>rfl
theorem qlm {kvs:List (Sp×Nat)} {s:Sp} (hl:kvs.length < 900):Wv (.dict (eD kvs)) (eS s) (.int ((cnt kvs s:Nat) + 1))=some (.dict (eD (bump kvs s))):=by
 show ob (kxOf (eS s)) (fun ks=>if kOk (eD kvs) ks=true/\(eD kvs).length < 1000 then some (PyData.dict (putD (eD kvs) ks _)) else none)=_
 rw [qgp,ob_s,if_pos ⟨qdi _ _,by unfold eD;rw [List.length_map];omega⟩]
 unfold putD bump
 rw [qeF]
 by_cases h:s∈kvs.map (·.1)
 ·rw [decide_eq_true h,if_pos rfl,if_pos h]
  unfold eD
  rw [List.map_map,List.map_map]
  refine congrArg (fun z=>some (PyData.dict z)) (List.map_congr_left fun p _=>?_)
  show (if PyData.eqv (eS p.1) (kxD (kS s))=true then (eS p.1,PyData.int ((cnt kvs s:Nat) + 1)) else (eS p.1,.int (p.2:Nat)))=(fun p:Sp×Nat=>(eS p.1,PyData.int (p.2:Nat))) (if p.1=s then (p.1,cnt kvs s + 1) else p)
  rw [qec,Yw]
  by_cases e:p.1=s
  ·rw [if_pos (decide_eq_true e),if_pos e];rfl
  ·rw [if_neg (by simpa using e),if_neg e]
 ·rw [decide_eq_false h,if_neg (by decide),if_neg h]
  have hc:cnt kvs s=0:=by
   unfold cnt
   rw [List.find?_eq_none.mpr fun p hp=>by simpa using fun z=>h (List.mem_map.mpr ⟨p,hp,z⟩)]
   rfl
  unfold eD
  rw [List.map_append,hc,qec]
  rfl
theorem ix_eD {kvs:List (Sp×Nat)} {s:Sp} (h:s∈kvs.map (·.1)):ix2D (.dict (eD kvs)) (eS s)=some (.int (cnt kvs s:Nat)):=by
 show ob (kxOf (eS s)) (fun ks=>if kOk (eD kvs) ks=true then zZ (eD kvs) ks else none)=_
 have hs:=qeF s kvs
 rw [decide_eq_true h,yF] at hs
 rw [qgp,ob_s,if_pos (qdi _ _),yF]
 unfold cnt
 cases e:kvs.find? (fun p=>decide (p.1=s)) with
 | none=>rw [e] at hs;cases hs
 | some p=>rfl
theorem qiF (kvs:List (Sp×Nat)):qgl (.dict (eD kvs))=some (kvs.map fun p=>eS p.1):=by
 show (if excK (eD kvs)=true then none else some ((eD kvs).map (·.1)))=_
 rw [if_neg (show ¬ excK (eD kvs)=true by cases kvs<;>exact Bool.false_ne_true)]
 unfold eD
 rw [List.map_map]
 rfl
theorem qeM (kvs:List (Sp×Nat)) (s:Sp):(bump kvs s).map (·.1)=if s∈kvs.map (·.1) then kvs.map (·.1) else kvs.map (·.1) ++ [s]:=by
 unfold bump
 by_cases h:s∈kvs.map (·.1)
 ·rw [if_pos h,if_pos h,List.map_map]
  refine List.map_congr_left fun p _=>?_
  show (if p.1=s then (p.1,cnt kvs s + 1) else p).1=p.1
  split<;>rfl
 ·rw [if_neg h,if_neg h,List.map_append];rfl
theorem qfT (kvs:List (Sp×Nat)) (s t:Sp):cnt (bump kvs s) t=cnt kvs t + if s=t then 1 else 0:=by
 unfold bump
 by_cases h:s∈kvs.map (·.1)
 ·rw [if_pos h]
  generalize hc:cnt kvs s=n
  by_cases e:s=t
  ·subst e
   rw [if_pos rfl,hc]
   obtain ⟨p,hp,hps⟩:=List.mem_map.mp h
   clear hc h
   unfold cnt
   induction kvs with
   | nil=>cases hp
   | cons q kvs ih =>
    rw [List.map_cons,List.find?_cons]
    by_cases hq:q.1=s
    ·rw [if_pos hq];simp [hq]
    ·rw [if_neg hq,decide_eq_false hq]
     rcases List.mem_cons.mp hp with rfl | z
     ·exact absurd hps hq
     ·exact ih z
  ·rw [if_neg e,Nat.add_zero]
   clear hc h
   unfold cnt
   induction kvs with
   | nil=>rfl
   | cons q kvs ih =>
    rw [List.map_cons,List.find?_cons,List.find?_cons]
    by_cases hq:q.1=s
    ·rw [if_pos hq]
     have:¬ q.1=t:=fun z=>e (hq.symm.trans z)
     rw [decide_eq_false this]
     exact ih
    ·rw [if_neg hq]
     by_cases ht:q.1=t
     ·rw [decide_eq_true ht];rfl
     ·rw [decide_eq_false ht];exact ih
 ·rw [if_neg h]
  unfold cnt
  rw [List.find?_append]
  by_cases e:s=t
  ·subst e
   rw [List.find?_eq_none.mpr fun p hp=>by simpa using fun z=>h (List.mem_map.mpr ⟨p,hp,z⟩)]
   simp
  ·rw [if_neg e]
   have:([(s,1)]:List (Sp×Nat)).find? (fun p=>decide (p.1=t))=none:=by simp [e]
   rw [this,Option.or_none,Nat.add_zero]
theorem qbe (xs:List Sp):∀ kvs:List (Sp×Nat),((xs.foldl bump kvs).map (·.1)=xs.foldl (fun ks s=>if s∈ks then ks else ks ++ [s]) (kvs.map (·.1)))/\∀ t,cnt (xs.foldl bump kvs) t=cnt kvs t + xs.count t:=by
 induction xs with
 | nil=>exact fun kvs=>⟨rfl,fun t=>rfl⟩
 | cons x xs ih =>
  intro kvs
  obtain ⟨h1,h2⟩:=ih (bump kvs x)
  refine ⟨?_,fun t=>?_⟩
  ·rw [List.foldl_cons,List.foldl_cons,h1,qeM]
  ·rw [List.foldl_cons,h2,qfT,List.count_cons]
   by_cases e:x=t
   ·rw [if_pos e,if_pos (by simp [e])];omega
   ·rw [if_neg e,if_neg (by simp [e])];omega
theorem qdE (xs:List Sp):(tally xs).map (·.1)=once xs:=(qbe xs []).1
theorem qfp (xs:List Sp) (t:Sp):cnt (tally xs) t=xs.count t:=by
 have:=(qbe xs []).2 t
 have h0:cnt [] t=0:=rfl
 rw [h0,Nat.zero_add] at this
 exact this
theorem qcM (xs:List Sp):∀ ks:List Sp,ks.Nodup->(xs.foldl (fun ks s=>if s∈ks then ks else ks ++ [s]) ks).Nodup/\∀ t,t∈xs.foldl (fun ks s=>if s∈ks then ks else ks ++ [s]) ks↔t∈ks\/t∈xs:=by
 induction xs with
 | nil=>exact fun ks h=>⟨h,fun t=>by simp⟩
 | cons x xs ih =>
  intro ks h
  rw [List.foldl_cons]
  by_cases hx:x∈ks
  ·rw [if_pos hx]
   obtain ⟨h1,h2⟩:=ih ks h
   refine ⟨h1,fun t=>(h2 t).trans ?_⟩
   rw [List.mem_cons]
   constructor
   ·rintro (z | z)
    ·exact .inl z
    ·exact .inr (.inr z)
   ·rintro (z | rfl | z)
    ·exact .inl z
    ·exact .inl hx
    ·exact .inr z
  ·rw [if_neg hx]
   obtain ⟨h1,h2⟩:=ih (ks ++ [x]) (by
    rw [List.nodup_append]
    exact ⟨h,by simp,fun a ha b hb z=>by subst z;exact hx (by have:=List.mem_singleton.mp hb;subst this;exact ha)⟩)
   refine ⟨h1,fun t=>(h2 t).trans ?_⟩
   rw [List.mem_append,List.mem_singleton,List.mem_cons]
   exact or_assoc
theorem qds (xs:List Sp):(once xs).Nodup:=(qcM xs [] List.nodup_nil).1
theorem qgK {xs:List Sp} {t:Sp}:t∈once xs↔t∈xs:=by
 have:=(qcM xs [] List.nodup_nil).2 t
 unfold once
 rw [this]
 simp
end SF
namespace SF
open PySem L2
theorem qfU (kvs:List (Sp×Nat)) (s:Sp):(bump kvs s).length <= kvs.length + 1:=by
 unfold bump
 split
 ·rw [List.length_map];omega
 ·rw [List.length_append,List.length_singleton];omega
end SF
namespace SF
open PySem L2
theorem qgL {c:Sp} (h:BdS 200 c):zG [eS c]=some (eS (mid c)):=by
 simp only [zG,Jp,eS,mid]
 simp_arith [zf (bd2.ok h.1),zf (bd2.ok h.2.1),zf (bd2.ok h.2.2)]
theorem qbi (a b:Sp):Zt [eS a,eS b]=some (eS (ad a b)):=by
 simp only [Zt,qb6]
 simp_arith [ixe0,ixe1,ixe2]
 rfl
def units:List Sp:=[(-1,0,0),(0,-1,0),(0,0,-1),(0,0,1),(0,1,0),(1,0,0)]
theorem qhM:seqD yz=some (units.map eS):=by kernel_rfl
def usq (c:Sp):List Sp:=units.map (ad (mid c))
theorem qhD {cs:List Sp} (hb:∀ c∈cs,BdS 200 c) (hl:cs.length <= 6):∃ sk:List Sp,QB [.list (cs.map eS)]=some (.list (sk.map eS))/\(sk.map l3).Pairwise (fun a b=>HT.lexLt b a=false)/\sk.Nodup/\sk.length <= 36/\∀ s,s∈sk↔(cs.flatMap usq).count s=1:=by
 obtain ⟨ρ',e,o2,o3,o4,rfl,hlen⟩:=Zg eS (g:=gNm 2) (u:=(sFor (evI (kd yz) seqD) (gNm 3) (seqO (sSet 4 (evC 2 (aC (evC 1 (aC (vr 2) aN) zG) (aC (vr 3) aN)) Zt)) (qbb 1 (vr 4) (Qe (ev2 (ev3 (vr 1) (vr 4) (kd (.int 0)) Wu) (kd (.int 1)) qM))))))
  (fun done ρ=>∃ o2 o3 o4:Option PyData,ρ=[some (.list (cs.map eS)),some (.dict (eD (tally (done.flatMap usq)))),o2,o3,o4]/\(tally (done.flatMap usq)).length <= 6 * done.length) cs [some (.list (cs.map eS)),some (.dict []),none,none,none] ⟨none,none,none,rfl,Nat.zero_le _⟩ (by
   rintro c hc done ρ hdl ⟨o2,o3,o4,rfl,hlen⟩
   have hm:=qgL (hb c hc)
   generalize hk:tally (done.flatMap usq)=kvs at *
   obtain ⟨ρ1,e1,o3',o4',rfl,hlen1⟩:=Zg eS (g:=gNm 3) (u:=(seqO (sSet 4 (evC 2 (aC (evC 1 (aC (vr 2) aN) zG) (aC (vr 3) aN)) Zt)) (qbb 1 (vr 4) (Qe (ev2 (ev3 (vr 1) (vr 4) (kd (.int 0)) Wu) (kd (.int 1)) qM)))))
    (fun don ρ=>∃ o3 o4:Option PyData,ρ=[some (.list (cs.map eS)),some (.dict (eD ((don.map (ad (mid c))).foldl bump kvs))),some (eS c),o3,o4]/\((don.map (ad (mid c))).foldl bump kvs).length <= kvs.length + don.length) units [some (.list (cs.map eS)),some (.dict (eD kvs)),some (eS c),o3,o4] ⟨o3,o4,rfl,Nat.le_refl _⟩ (by
     rintro u hu don ρ hd ⟨o3,o4,rfl,hl2⟩
     have hu6:units.length=6:=rfl
     have ha:=qbi (mid c) u
     have hg:=qks ((don.map (ad (mid c))).foldl bump kvs) (ad (mid c) u)
     have hp:=qlm (kvs:=(don.map (ad (mid c))).foldl bump kvs) (s:=ad (mid c) u) (by omega)
     have hbl:=qfU ((don.map (ad (mid c))).foldl bump kvs) (ad (mid c) u)
     refine ⟨_,?_,some (eS u),some (eS (ad (mid c) u)),rfl,?_⟩
     ·simp_arith [hm,ha,hg,QQ,hp]
      rw [List.map_append,List.foldl_append]
      rfl
     ·rw [List.map_append,List.foldl_append,List.length_append,List.length_singleton]
      show (bump ((don.map (ad (mid c))).foldl bump kvs) (ad (mid c) u)).length <= _
      omega)
   have ht:tally ((done ++ [c]).flatMap usq)=(units.map (ad (mid c))).foldl bump kvs:=by
    rw [List.flatMap_append,← hk]
    unfold tally
    rw [List.foldl_append]
    simp [usq]
   have hu6:units.length=6:=rfl
   refine ⟨_,?_,some (eS c),o3',o4',rfl,?_⟩
   ·rw [ht]
    simp_arith [qhM,e1]
   ·rw [ht,List.length_append,List.length_singleton]
    omega)
 generalize hk:tally (cs.flatMap usq)=kvs at *
 have hcnt:∀ t,cnt kvs t=(cs.flatMap usq).count t:=fun t=>by rw [← hk,qfp]
 have hkeys:kvs.map (·.1)=once (cs.flatMap usq):=by rw [← hk,qdE]
 have hc:QH (tV (ev2 (ev2 (vr 1) (vr 5) ix2D) (kd (.int 1)) eqD)) (vr 5) [some (.list (cs.map eS)),some (.dict (eD kvs)),o2,o3,o4] (kvs.map fun p=>eS p.1)=some ((kvs.filter fun p=>decide (cnt kvs p.1=1)).map fun p=>eS p.1):=by
  refine Yu (fun p:Sp×Nat=>eS p.1) (fun p=>decide (cnt kvs p.1=1)) (fun p=>eS p.1) kvs (fun p hp=>?_) fun p hp _=>?_
  ·have hi:=ix_eD (s:=p.1) (List.mem_map.mpr ⟨p,hp,rfl⟩)
   simp_arith [hi]
   refine congrArg some ?_
   rw [Bool.eq_iff_iff]
   simp
   omega
  ·simp_arith []
 have hlk:kvs.length <= 36:=by omega
 have hfl:=List.length_filter_le (fun p:Sp×Nat=>decide (cnt kvs p.1=1)) kvs
 obtain ⟨sk,es,p,r⟩:=JN (xs:=(kvs.filter fun p=>decide (cnt kvs p.1=1)).map (·.1)) (by rw [List.length_map];omega)
 have hz:(kvs.map fun p=>eS p.1).length <= 1000:=by rw [List.length_map];omega
 have es:zU [.list ((kvs.filter fun p=>decide (cnt kvs p.1=1)).map fun p=>eS p.1)]=some (.list (sk.map eS)):=by
  rw [← es,List.map_map]
  rfl
 have hnk:(kvs.map (·.1)).Nodup:=by rw [hkeys];exact qds _
 refine ⟨sk,?_,r,p.nodup_iff.mpr (List.Nodup.sublist (List.filter_sublist.map _) hnk),by rw [p.length_eq,List.length_map];omega,fun s=>?_⟩
 ·simp only [QB,YX]
  simp_arith [e,qiF,hz,hc,es]
 ·rw [p.mem_iff]
  constructor
  ·intro h
   obtain ⟨q,hq,rfl⟩:=List.mem_map.mp h
   have:=of_decide_eq_true (List.mem_filter.mp hq).2
   rwa [hcnt] at this
  ·intro h
   have hm:s∈kvs.map (·.1):=by
    rw [hkeys,qgK]
    exact List.count_pos_iff.mp (by omega)
   obtain ⟨q,hq,rfl⟩:=List.mem_map.mp hm
   exact List.mem_map.mpr ⟨q,List.mem_filter.mpr ⟨hq,decide_eq_true (by rw [hcnt];exact h)⟩,rfl⟩
end SF
namespace SF
open PySem L2
theorem qbN {a b:Sp} (h:mid a=mid b):a=b:=by
 obtain ⟨x,y,z⟩:=a
 obtain ⟨u,v,w⟩:=b
 unfold mid at h
 obtain ⟨h1,h2⟩:=Prod.mk.inj h
 obtain ⟨h2,h3⟩:=Prod.mk.inj h2
 dsimp only at h1 h2 h3
 have e1:x=u:=by omega
 have e2:y=v:=by omega
 have e3:z=w:=by omega
 rw [e1,e2,e3]
def inM (cs:List Sp) (m:Sp):Bool:=decide (m∈cs.map mid)
theorem yZ (c:Sp):(mid c).1 % 2=1/\(mid c).2.1 % 2=1/\(mid c).2.2 % 2=1:=⟨by show (2 * c.1 + 1) % 2=1;omega,by show (2 * c.2.1 + 1) % 2=1;omega,by show (2 * c.2.2 + 1) % 2=1;omega⟩
theorem Zd {m s:Sp}:s∈units.map (ad m)↔(s.1=m.1 + -1/\s.2.1=m.2.1 + 0/\s.2.2=m.2.2 + 0)\/(s.1=m.1 + 0/\s.2.1=m.2.1 + -1/\s.2.2=m.2.2 + 0)\/(s.1=m.1 + 0/\s.2.1=m.2.1 + 0/\s.2.2=m.2.2 + -1)\/(s.1=m.1 + 0/\s.2.1=m.2.1 + 0/\s.2.2=m.2.2 + 1)\/(s.1=m.1 + 0/\s.2.1=m.2.1 + 1/\s.2.2=m.2.2 + 0)\/(s.1=m.1 + 1/\s.2.1=m.2.1 + 0/\s.2.2=m.2.2 + 0):=by
 obtain ⟨x,y,z⟩:=m
 obtain ⟨a,b,d⟩:=s
 simp only [units,List.map_cons,List.map_nil,List.mem_cons,List.not_mem_nil,or_false,ad,Prod.mk.injEq]
theorem zem {a b:Int} (h:a=b + -1) (o:b % 2=1):a % 2=0:=by omega
theorem zep {a b:Int} (h:a=b + 1) (o:b % 2=1):a % 2=0:=by omega
theorem ze0 {a b:Int} (h:a=b + 0) (o:b % 2=1):a % 2=1:=by omega
theorem z0 {a b:Int} (h:a=b + 0):b=a:=by omega
theorem zm {a b:Int} (h:a=b + -1):b=a + 1:=by omega
theorem zp {a b:Int} (h:a=b + 1):b=a - 1:=by omega
theorem w0 {a b:Int} (h:b=a):a=b + 0:=by omega
theorem wm {a b:Int} (h:b=a + 1):a=b + -1:=by omega
theorem wp {a b:Int} (h:b=a - 1):a=b + 1:=by omega
theorem qlV {c s:Sp} (h:s∈usq c):Sq s:=by
 obtain ⟨o1,o2,o3⟩:=yZ c
 rcases Zd.mp h with ⟨p,q,r⟩ | ⟨p,q,r⟩ | ⟨p,q,r⟩ | ⟨p,q,r⟩ | ⟨p,q,r⟩ | ⟨p,q,r⟩
 ·exact .inl ⟨zem p o1,ze0 q o2,ze0 r o3⟩
 ·exact .inr (.inl ⟨ze0 p o1,zem q o2,ze0 r o3⟩)
 ·exact .inr (.inr ⟨ze0 p o1,ze0 q o2,zem r o3⟩)
 ·exact .inr (.inr ⟨ze0 p o1,ze0 q o2,zep r o3⟩)
 ·exact .inr (.inl ⟨ze0 p o1,zep q o2,ze0 r o3⟩)
 ·exact .inl ⟨zep p o1,ze0 q o2,ze0 r o3⟩
theorem qb7 {m s:Sp} (hm:m.1 % 2=1/\m.2.1 % 2=1/\m.2.2 % 2=1) (hs:Sq s):s∈units.map (ad m)↔m=lo (axA s) s\/m=hi (axA s) s:=by
 obtain ⟨o1,o2,o3⟩:=hm
 rcases Wj hs with ⟨e,h1,h2,h3⟩ | ⟨e,h1,h2,h3⟩ | ⟨e,h1,h2,h3⟩<;>rw [e]
 ·constructor
  ·intro h
   rcases Zd.mp h with ⟨p,q,r⟩ | ⟨p,q,r⟩ | ⟨p,q,r⟩ | ⟨p,q,r⟩ | ⟨p,q,r⟩ | ⟨p,q,r⟩
   ·exact .inr (wB (zm p) (z0 q) (z0 r))
   ·exact ne01 h1 (ze0 p o1)
   ·exact ne01 h1 (ze0 p o1)
   ·exact ne01 h1 (ze0 p o1)
   ·exact ne01 h1 (ze0 p o1)
   ·exact .inl (wB (zp p) (z0 q) (z0 r))
  ·rintro (h | h)
   ·exact Zd.mpr (.inr (.inr (.inr (.inr (.inr ⟨wp (congrArg (·.1) h),w0 (congrArg (·.2.1) h),w0 (congrArg (·.2.2) h)⟩)))))
   ·exact Zd.mpr (.inl ⟨wm (congrArg (·.1) h),w0 (congrArg (·.2.1) h),w0 (congrArg (·.2.2) h)⟩)
 ·constructor
  ·intro h
   rcases Zd.mp h with ⟨p,q,r⟩ | ⟨p,q,r⟩ | ⟨p,q,r⟩ | ⟨p,q,r⟩ | ⟨p,q,r⟩ | ⟨p,q,r⟩
   ·exact ne01 h2 (ze0 q o2)
   ·exact .inr (wB (z0 p) (zm q) (z0 r))
   ·exact ne01 h2 (ze0 q o2)
   ·exact ne01 h2 (ze0 q o2)
   ·exact .inl (wB (z0 p) (zp q) (z0 r))
   ·exact ne01 h2 (ze0 q o2)
  ·rintro (h | h)
   ·exact Zd.mpr (.inr (.inr (.inr (.inr (.inl ⟨w0 (congrArg (·.1) h),wp (congrArg (·.2.1) h),w0 (congrArg (·.2.2) h)⟩)))))
   ·exact Zd.mpr (.inr (.inl ⟨w0 (congrArg (·.1) h),wm (congrArg (·.2.1) h),w0 (congrArg (·.2.2) h)⟩))
 ·constructor
  ·intro h
   rcases Zd.mp h with ⟨p,q,r⟩ | ⟨p,q,r⟩ | ⟨p,q,r⟩ | ⟨p,q,r⟩ | ⟨p,q,r⟩ | ⟨p,q,r⟩
   ·exact ne01 h3 (ze0 r o3)
   ·exact ne01 h3 (ze0 r o3)
   ·exact .inr (wB (z0 p) (z0 q) (zm r))
   ·exact .inl (wB (z0 p) (z0 q) (zp r))
   ·exact ne01 h3 (ze0 r o3)
   ·exact ne01 h3 (ze0 r o3)
  ·rintro (h | h)
   ·exact Zd.mpr (.inr (.inr (.inr (.inl ⟨w0 (congrArg (·.1) h),w0 (congrArg (·.2.1) h),wp (congrArg (·.2.2) h)⟩))))
   ·exact Zd.mpr (.inr (.inr (.inl ⟨w0 (congrArg (·.1) h),w0 (congrArg (·.2.1) h),wm (congrArg (·.2.2) h)⟩)))
theorem YJ {α β:Type} {f:α->β} (hf:∀ a b,f a=f b->a=b):∀ {l:List α},l.Nodup->(l.map f).Nodup
 | [],_=>List.nodup_nil
 | a :: l,h=>by
  obtain ⟨h1,h2⟩:=List.nodup_cons.mp h
  refine List.map_cons ▸ List.nodup_cons.mpr ⟨fun z=>?_,YJ hf h2⟩
  obtain ⟨x,hx,e⟩:=List.mem_map.mp z
  rw [hf x a e] at hx
  exact h1 hx
theorem qj4 {m a b:Sp} (h:ad m a=ad m b):a=b:=by
 have h1:m.1 + a.1=m.1 + b.1:=congrArg (·.1) h
 have h2:m.2.1 + a.2.1=m.2.1 + b.2.1:=congrArg (·.2.1) h
 have h3:m.2.2 + a.2.2=m.2.2 + b.2.2:=congrArg (·.2.2) h
 exact wB (by omega) (by omega) (by omega)
theorem qgD (A:Nat) (s:Sp):lo A s≠hi A s:=fun h=>by
 unfold lo hi at h
 split at h
 ·have:=congrArg (·.1) h;dsimp only at this;omega
 ·have:=congrArg (·.2.1) h;dsimp only at this;omega
 ·have:=congrArg (·.2.2) h;dsimp only at this;omega
theorem Yv {s:Sp}:∀ {l:List Sp},l.Nodup->s∈l->l.count s=1
 | [],_,h=>by cases h
 | a :: l,hn,h=>by
  obtain ⟨h1,h2⟩:=List.nodup_cons.mp hn
  rw [List.count_cons]
  by_cases e:a=s
  ·subst e
   rw [List.count_eq_zero.mpr h1,beq_self_eq_true]
   rfl
  ·rw [Yv h2 ((List.mem_cons.mp h).resolve_left (fun z=>e z.symm)),beq_eq_false_iff_ne.mpr e]
   rfl
theorem qjE {c s:Sp} (hs:Sq s):(usq c).count s=(if mid c=lo (axA s) s then 1 else 0) + (if mid c=hi (axA s) s then 1 else 0):=by
 have hiff:=qb7 (yZ c) hs
 have hnd:(usq c).Nodup:=YJ (fun _ _=>qj4) (by decide)
 by_cases h1:mid c=lo (axA s) s
 ·rw [if_pos h1,if_neg (fun z=>qgD _ _ (h1.symm.trans z))]
  exact Yv hnd (hiff.mpr (.inl h1))
 ·rw [if_neg h1]
  by_cases h2:mid c=hi (axA s) s
  ·rw [if_pos h2]
   exact Yv hnd (hiff.mpr (.inr h2))
  ·rw [if_neg h2]
   exact List.count_eq_zero.mpr fun z=>(hiff.mp z).elim h1 h2
theorem qbj {s:Sp} (hs:Sq s):∀ {cs:List Sp},cs.Nodup->(cs.flatMap usq).count s=(if lo (axA s) s∈cs.map mid then 1 else 0) + (if hi (axA s) s∈cs.map mid then 1 else 0)
 | [],_=>rfl
 | c :: cs,hn=>by
  obtain ⟨n1,n2⟩:=List.nodup_cons.mp hn
  have ih:=qbj hs n2
  have nm:mid c∉cs.map mid:=fun z=>by
   obtain ⟨c',h1,h2⟩:=List.mem_map.mp z
   exact n1 (by rw [← qbN h2];exact h1)
  rw [List.flatMap_cons,List.count_append,qjE hs,ih,List.map_cons]
  have one:∀ m:Sp,(if m∈mid c :: cs.map mid then 1 else 0)=(if mid c=m then 1 else 0) + (if m∈cs.map mid then 1 else 0):=fun m=>by
   by_cases h:mid c=m
   ·subst h
    rw [if_pos (.head _),if_pos rfl,if_neg nm]
   ·rw [if_neg h,Nat.zero_add]
    by_cases h2:m∈cs.map mid
    ·rw [if_pos h2,if_pos (.tail _ h2)]
    ·rw [if_neg h2,if_neg (fun z=>by rcases List.mem_cons.mp z with y | y;exact h y.symm;exact h2 y)]
  rw [one,one]
  omega
theorem qcY {cs:List Sp} (hn:cs.Nodup) (s:Sp):(cs.flatMap usq).count s=1↔Sq s/\skB (inM cs) s=true:=by
 constructor
 ·intro h
  have hm:s∈cs.flatMap usq:=List.count_pos_iff.mp (by omega)
  obtain ⟨c,_,hc⟩:=List.mem_flatMap.mp hm
  have hs:=qlV hc
  refine ⟨hs,?_⟩
  rw [qbj hs hn] at h
  unfold skB inM
  by_cases h1:lo (axA s) s∈cs.map mid<;>by_cases h2:hi (axA s) s∈cs.map mid
  ·rw [if_pos h1,if_pos h2] at h;cases h
  ·rw [decide_eq_true h1,decide_eq_false h2];rfl
  ·rw [decide_eq_false h1,decide_eq_true h2];rfl
  ·rw [if_neg h1,if_neg h2] at h;cases h
 ·rintro ⟨hs,h⟩
  rw [qbj hs hn]
  unfold skB inM at h
  by_cases h1:lo (axA s) s∈cs.map mid<;>by_cases h2:hi (axA s) s∈cs.map mid
  ·rw [decide_eq_true h1,decide_eq_true h2] at h;cases h
  ·rw [if_pos h1,if_neg h2]
  ·rw [if_neg h1,if_pos h2]
  ·rw [decide_eq_false h1,decide_eq_false h2] at h;cases h
end SF
namespace SF
open PySem L2
def oth (a:Nat) (b:Int) (c:Sp):Sp:=match a with
 | 0=>(c.1 + b,c.2.1,c.2.2)
 | 1=>(c.1,c.2.1 + b,c.2.2)
 | _=>(c.1,c.2.1,c.2.2 + b)
def lsb (cs:List Sp) (c:Sp) (a:Nat) (b:Int):List Sp:=if oth a b c∈cs then [] else [oth a b (mid c)]
def lsa (cs:List Sp) (c:Sp) (a:Nat):List Sp:=[-1,1].flatMap (lsb cs c a)
def lsq (cs:List Sp) (c:Sp):List Sp:=[0,1,2].flatMap (lsa cs c)
theorem lsb_len (cs:List Sp) (c:Sp) (a:Nat) (b:Int):(lsb cs c a b).length <= 1:=by
 unfold lsb
 split
 ·exact Nat.zero_le _
 ·exact Nat.le_refl _
end SF
namespace SF
open PySem L2
def cb (m:Sp):Sp:=(m.1 / 2,m.2.1 / 2,m.2.2 / 2)
def Od (m:Sp):Prop:=m.1 % 2=1/\m.2.1 % 2=1/\m.2.2 % 2=1
theorem qbl {m:Sp} (h:Od m):mid (cb m)=m:=by
 obtain ⟨x,y,z⟩:=m
 obtain ⟨h1,h2,h3⟩:=h
 dsimp only at h1 h2 h3
 unfold mid cb
 exact Prod.ext (by dsimp only;omega) (Prod.ext (by dsimp only;omega) (by dsimp only;omega))
theorem qgh {cs:List Sp} {m:Sp} (h:Od m):inM cs m=decide (cb m∈cs):=by
 unfold inM
 refine decide_eq_decide.mpr ⟨fun z=>?_,fun z=>List.mem_map.mpr ⟨_,z,qbl h⟩⟩
 obtain ⟨c,h1,h2⟩:=List.mem_map.mp z
 have:c=cb m:=qbN (h2.trans (qbl h).symm)
 rw [← this];exact h1
theorem qgS {s:Sp} (h:Sq s):Od (lo (axA s) s)/\Od (hi (axA s) s):=by
 rcases Wj h with ⟨e,h1,h2,h3⟩ | ⟨e,h1,h2,h3⟩ | ⟨e,h1,h2,h3⟩<;>rw [e]
 ·exact ⟨⟨oddm h1,h2,h3⟩,⟨oddp h1,h2,h3⟩⟩
 ·exact ⟨⟨h1,oddm h2,h3⟩,⟨h1,oddp h2,h3⟩⟩
 ·exact ⟨⟨h1,h2,oddm h3⟩,⟨h1,h2,oddp h3⟩⟩
theorem qic {s:Sp} (h:Sq s):Qv [eS s]=some (.tuple [eS (cb (lo (axA s) s)),eS (cb (hi (axA s) s))]):=by
 have ha:=qkb (A:=axA s) (s:=s) (by rcases Wj h with ⟨a,b⟩ | ⟨a,b⟩ | ⟨a,b⟩;exact .inl ⟨a,b⟩;exact .inr (.inl ⟨a,b⟩);exact .inr (.inr ⟨a,b⟩))
 have n1:(((1:Nat):Nat):Int)=1:=rfl
 have n2:(((2:Nat):Nat):Int)=2:=rfl
 obtain ⟨x,y,z⟩:=s
 rcases Wj h with ⟨e,h1,h2,h3⟩ | ⟨e,h1,h2,h3⟩ | ⟨e,h1,h2,h3⟩<;>rw [e] at ha ⊢<;>dsimp only at h1 h2 h3
 ·have ha:Qz [eS (x,y,z)]=some (.int 0):=ha
  have q:(x + 1) / 2=x / 2:=by omega
  simp only [Qv,ZM,cb,lo,hi,q]
  simp_arith [ha,qf9,Q7,jy,ixe0,ixe1,ixe2,Int.natCast_zero,n1,n2]
  rfl
 ·have ha:Qz [eS (x,y,z)]=some (.int 1):=ha
  have q:(y + 1) / 2=y / 2:=by omega
  simp only [Qv,ZM,cb,lo,hi,q]
  simp_arith [ha,qf9,Q7,jy,ixe0,ixe1,ixe2,Int.natCast_zero,n1,n2]
  rfl
 ·have ha:Qz [eS (x,y,z)]=some (.int 2):=ha
  have q:(z + 1) / 2=z / 2:=by omega
  simp only [Qv,ZM,cb,lo,hi,q]
  simp_arith [ha,qf9,Q7,jy,ixe0,ixe1,ixe2,Int.natCast_zero,n1,n2]
  rfl
theorem qa3 (a:Sp):jm [eS a]=some (eS (-a.1,-a.2.1,-a.2.2)):=by
 simp only [jm,YT]
 simp_arith [ixe0,ixe1,ixe2]
 rfl
theorem qfI (a b:Sp):ad a (-b.1,-b.2.1,-b.2.2)=sb a b:=by
 unfold ad sb
 exact Prod.ext (by dsimp only;omega) (Prod.ext (by dsimp only;omega) (by dsimp only;omega))
theorem qe9 {cs:List Sp} (hb:∀ c∈cs,BdS 200 c) {s:Sp} (hs:Sq s) (hk:skB (inM cs) s=true):zA [.list (cs.map eS),eS s]=some (eS (sb s (if inM cs (lo (axA s) s)=true then lo (axA s) s else hi (axA s) s))):=by
 have hc:=qic hs
 obtain ⟨o1,o2⟩:=qgS hs
 have i1:=qkt cs (cb (lo (axA s) s))
 have m1:=qgh (cs:=cs) o1
 have m2:=qgh (cs:=cs) o2
 unfold skB at hk
 by_cases h:cb (lo (axA s) s)∈cs
 ·rw [decide_eq_true h] at i1 m1
  have hm:=qgL (hb _ h)
  rw [qbl o1] at hm
  have hn:=qa3 (lo (axA s) s)
  have ha:=qbi s (-(lo (axA s) s).1,-(lo (axA s) s).2.1,-(lo (axA s) s).2.2)
  rw [qfI] at ha
  rw [if_pos m1]
  simp only [zA,QW]
  simp_arith [hc,i1,hm,hn,ha]
 ·rw [decide_eq_false h] at i1 m1
  have h2:cb (hi (axA s) s)∈cs:=by
   rw [m1,m2] at hk
   by_cases z:cb (hi (axA s) s)∈cs
   ·exact z
   ·rw [decide_eq_false z] at hk;cases hk
  have hm:=qgL (hb _ h2)
  rw [qbl o2] at hm
  have hn:=qa3 (hi (axA s) s)
  have ha:=qbi s (-(hi (axA s) s).1,-(hi (axA s) s).2.1,-(hi (axA s) s).2.2)
  rw [qfI] at ha
  rw [if_neg (by rw [m1];decide)]
  simp only [zA,QW]
  simp_arith [hc,i1,hm,hn,ha]
end SF
namespace SF
open PySem L2
theorem qdR (J:List Sp->Prop) (hne:∀ cs,J cs->cs≠[]) (hadd:∀ (cs:List Sp) (c:Sp) (a:Nat) (s:Int),J cs->c∈cs->(a=0\/a=1\/a=2)->(s=-1\/s=1)->oth a s c∉cs->J (cs ++ [oth a s c])) (ms:List Int) (o0 o1 o2 o4 o5 o6:Option PyData) {cs0:List Sp} (hJ:J cs0) (hl0:cs0.length <= 6) :
  ∃ (gs:List Sp) (o7 o8 o9:Option PyData),forD (gNm 7) (seqO (zP 8 (wu (evA (aC (ev2 (vr 3) (ev2 (vr 7) (evA (aC (vr 3) aN) lenD) modD) ixD) aN) ju))) (seqO (sSet 9 (ev2 (ev2 (vr 7) (kd (.int 60)) zY) (kd (.int 3)) modD)) (seqO (sPut 8 (vr 9) (Qe (ev2 (ev2 (ev2 (vr 8) (vr 9) ixD) (ev2 (kd (.int 2)) (ev2 (ev2 (vr 7) (kd (.int 180)) zY) (kd (.int 2)) modD) mulD) qM) (kd (.int 1)) subD))) (sIf (tA (tV (ev2 (evA (aC (vr 3) aN) lenD) (kd (.int 6)) ltD2)) (tV (ev2 (evA (aC (vr 8) aN) zV) (vr 3) ninD))) (sApp 3 (Qe (evA (aC (vr 8) aN) zV))) sN)))) (ms.map .int) [o0,o1,o2,some (.list (cs0.map eS)),o4,o5,o6,none,none,none]=some (.nx [o0,o1,o2,some (.list (gs.map eS)),o4,o5,o6,o7,o8,o9])/\J gs/\gs.length <= 6:=by
 obtain ⟨ρ',e,gs,o7,o8,o9,rfl,h1,h2⟩:=Zg PyData.int (g:=gNm 7) (u:=(seqO (zP 8 (wu (evA (aC (ev2 (vr 3) (ev2 (vr 7) (evA (aC (vr 3) aN) lenD) modD) ixD) aN) ju))) (seqO (sSet 9 (ev2 (ev2 (vr 7) (kd (.int 60)) zY) (kd (.int 3)) modD)) (seqO (sPut 8 (vr 9) (Qe (ev2 (ev2 (ev2 (vr 8) (vr 9) ixD) (ev2 (kd (.int 2)) (ev2 (ev2 (vr 7) (kd (.int 180)) zY) (kd (.int 2)) modD) mulD) qM) (kd (.int 1)) subD))) (sIf (tA (tV (ev2 (evA (aC (vr 3) aN) lenD) (kd (.int 6)) ltD2)) (tV (ev2 (evA (aC (vr 8) aN) zV) (vr 3) ninD))) (sApp 3 (Qe (evA (aC (vr 8) aN) zV))) sN)))))
  (fun done ρ=>∃ (cs:List Sp) (o7 o8 o9:Option PyData),ρ=[o0,o1,o2,some (.list (cs.map eS)),o4,o5,o6,o7,o8,o9]/\J cs/\cs.length <= 6) ms [o0,o1,o2,some (.list (cs0.map eS)),o4,o5,o6,none,none,none] ⟨cs0,none,none,none,rfl,hJ,hl0⟩ (by
   rintro x hx done ρ hdl ⟨cs,o7,o8,o9,rfl,h1,h2⟩
   have fin:∀ (d:Sp),(∃ a s c,c∈cs/\(a=0\/a=1\/a=2)/\(s=-1\/s=1)/\d=oth a s c)->∀ o7 o9:Option PyData,∃ ρ',(sIf (tA (tV (ev2 (evA (aC (vr 3) aN) lenD) (kd (.int 6)) ltD2)) (tV (ev2 (evA (aC (vr 8) aN) zV) (vr 3) ninD))) (sApp 3 (Qe (evA (aC (vr 8) aN) zV))) sN) [o0,o1,o2,some (.list (cs.map eS)),o4,o5,o6,o7,some (.list [.int d.1,.int d.2.1,.int d.2.2]),o9]=some (.nx ρ')/\
     ∃ (cs:List Sp) (o7 o8 o9:Option PyData),ρ'=[o0,o1,o2,some (.list (cs.map eS)),o4,o5,o6,o7,o8,o9]/\J cs/\cs.length <= 6:=by
    rintro d ⟨a,s,c,hc,ha,hs,hd⟩ o7 o9
    have hn:ninD (.tuple [.int d.1,.int d.2.1,.int d.2.2]) (.list (cs.map eS))=some (.bool (!decide (d∈cs))):=Wb cs d
    by_cases h6:cs.length < 6
    ·have e6:decide ((((cs.map eS).length:Nat):Int) < 6)=true:=decide_eq_true (by rw [List.length_map];omega)
     by_cases hm:d∈cs
     ·refine ⟨[o0,o1,o2,some (.list (cs.map eS)),o4,o5,o6,o7,some (.list [.int d.1,.int d.2.1,.int d.2.2]),o9],?_,cs,o7,_,o9,rfl,h1,h2⟩
      simp_arith [hn,decide_eq_true hm,e6]
     ·refine ⟨[o0,o1,o2,some (.list ((cs ++ [d]).map eS)),o4,o5,o6,o7,some (.list [.int d.1,.int d.2.1,.int d.2.2]),o9],?_,cs ++ [d],o7,_,o9,rfl,?_,by rw [List.length_append,List.length_singleton];omega⟩
      ·have hz:(cs.map eS).length < 1000:=by rw [List.length_map];omega
       simp_arith [hn,decide_eq_false hm,e6,Z0,hz]
       simp only [List.map_append,List.map_cons,List.map_nil,eS]
      ·rw [hd] at hm ⊢
       exact hadd cs c a s h1 hc ha hs hm
    ·have e6:decide ((((cs.map eS).length:Nat):Int) < 6)=false:=decide_eq_false (by rw [List.length_map];omega)
     refine ⟨[o0,o1,o2,some (.list (cs.map eS)),o4,o5,o6,o7,some (.list [.int d.1,.int d.2.1,.int d.2.2]),o9],?_,cs,o7,_,o9,rfl,h1,h2⟩
     simp_arith [e6]
   have h0:0 < cs.length:=List.length_pos_iff.mpr (hne cs h1)
   obtain ⟨c,hc,ec⟩:=qbp x h0
   have e3:modD (.int x) (.int (((cs.map eS).length:Nat):Int))=some (.int (x % (cs.length:Int))):=by rw [List.length_map];exact qbO _ (by omega)
   have e4:atI (cs.map eS) (x % (cs.length:Int))=some (.tuple [.int c.1,.int c.2.1,.int c.2.2]):=yw (Int.emod_nonneg _ (by omega)) ec
   have e5:mulD (.int 2) (.int (x / 180 % 2))=some (.int (2 * (x / 180 % 2))):=zf (bd2.ok (Bd.of (n:=2) (by omega)))
   have hs:2 * (x / 180 % 2) - 1=-1\/2 * (x / 180 % 2) - 1=1:=by omega
   rcases qd2 (x / 60) with h | h | h
   ·obtain ⟨ρ',k1,k2⟩:=fin (c.1 + 2 * (x / 180 % 2) - 1,c.2.1,c.2.2) ⟨0,_,c,hc,.inl rfl,hs,by simp only [oth,Prod.mk.injEq,and_true];omega⟩ (some (.int x)) (some (.int 0))
    refine ⟨ρ',?_,k2⟩
    simp_arith [e3,e4,Wx,h,e5,QQ,ix0,ix1,ix2]
    simp_arith [] at k1
    exact k1
   ·obtain ⟨ρ',k1,k2⟩:=fin (c.1,c.2.1 + 2 * (x / 180 % 2) - 1,c.2.2) ⟨1,_,c,hc,.inr (.inl rfl),hs,by simp only [oth,Prod.mk.injEq,and_true,true_and];omega⟩ (some (.int x)) (some (.int 1))
    refine ⟨ρ',?_,k2⟩
    simp_arith [e3,e4,Wx,h,e5,QQ,ix0,ix1,ix2]
    simp_arith [] at k1
    exact k1
   ·obtain ⟨ρ',k1,k2⟩:=fin (c.1,c.2.1,c.2.2 + 2 * (x / 180 % 2) - 1) ⟨2,_,c,hc,.inr (.inr rfl),hs,by simp only [oth,Prod.mk.injEq,true_and];omega⟩ (some (.int x)) (some (.int 2))
    refine ⟨ρ',?_,k2⟩
    simp_arith [e3,e4,Wx,h,e5,QQ,ix0,ix1,ix2]
    simp_arith [] at k1
    exact k1)
 exact ⟨gs,o7,o8,o9,e,h1,h2⟩
theorem far6 {a b:Int} {n:Nat} (h:(a - b).natAbs <= 6) (g:b.natAbs <= n):a.natAbs <= n + 6:=by omega
theorem qiq {α:Type} (enc:α->PyData) {g:PyData->Rho->Option Rho} {u:Rho->Option Out} (I:Rho->Prop) (Q:PyData->Prop):∀ (as:List α) (ρ:Rho),I ρ->(∀ a∈as,∀ ρ,I ρ->(∃ ρ',ob (g (enc a) ρ) u=some (.nx ρ')/\I ρ')\/∃ d,ob (g (enc a) ρ) u=some (.rt d)/\Q d)->
  (∃ ρ',forD g u (as.map enc) ρ=some (.nx ρ')/\I ρ')\/∃ d,forD g u (as.map enc) ρ=some (.rt d)/\Q d
 | [],ρ,h,_=>.inl ⟨ρ,rfl,h⟩
 | a :: as,ρ,h,st=>by
  rw [List.map_cons,Wy]
  rcases st a List.mem_cons_self ρ h with ⟨ρ',e,i⟩ | ⟨d,e,q⟩
  ·rw [e,yH]
   exact qiq enc I Q as ρ' i fun x hx=>st x (List.mem_cons_of_mem _ hx)
  ·rw [e,qbx]
   exact .inr ⟨d,rfl,q⟩
def bsV (c:Int):Int:=if (c % 5 == 0)=true then c / 5 % (2 * 10 ^ 19 + 1) - 10 ^ 19 else c / 5 % 9 - 4
theorem qdd (c:Int):(bsV c).natAbs <= 10 ^ 19:=by
 unfold bsV
 split
 ·have a1:=Int.emod_nonneg (c / 5) (b:=2 * 10 ^ 19 + 1) (by decide)
  have a2:=Int.emod_lt_of_pos (c / 5) (b:=2 * 10 ^ 19 + 1) (by decide)
  generalize c / 5 % (2 * 10 ^ 19 + 1)=z at a1 a2 ⊢
  omega
 ·omega
theorem qhV (a b c:Int):Qy [.list [.int a,.int b,.int c]]=some (.list [.int (bsV a),.int (bsV b),.int (bsV c)]):=by
 have p19:powD (.int 10) (.int 19)=some (.int (10 ^ 19)):=rfl
 have m19:mulD (.int 2) (.int (10 ^ 19))=some (.int (2 * 10 ^ 19)):=rfl
 have md:∀ x:Int,modD (.int x) (.int (2 * 10 ^ 19 + 1))=some (.int (x % (2 * 10 ^ 19 + 1))):=fun x=>rfl
 simp only [Qy,Jo,bsV]
 cases ha:a % 5 == 0<;>cases hb:b % 5 == 0<;>cases hc:c % 5 == 0<;>simp_arith [ha,hb,hc,p19,m19,md]
end SF
namespace SF
open PySem L2
theorem qiG:Zr [excD "NoSquare" .none]=some (.tuple [.bool true,.bool true,.bool false]):=by kernel_rfl
theorem qcw {α:Type} (enc:α->PyData) {g:PyData->Rho->Option Rho} {u:Rho->Option Out} (I:Rho->Prop) (Q:PyData->Prop):∀ (as:List α) (ρ:Rho),I ρ->(∀ a∈as,∀ ρ,I ρ->(∃ ρ',ob (g (enc a) ρ) u=some (.nx ρ')/\I ρ')\/∃ d,ob (g (enc a) ρ) u=some (.rt d)/\Q d)->
  (∃ a∈as,∀ ρ,I ρ->∃ d,ob (g (enc a) ρ) u=some (.rt d))->∃ d,forD g u (as.map enc) ρ=some (.rt d)/\Q d
 | [],ρ,_,_,h=>by obtain ⟨a,ha,_⟩:=h;cases ha
 | a :: as,ρ,h,st,hit=>by
  rw [List.map_cons,Wy]
  rcases st a List.mem_cons_self ρ h with ⟨ρ',e,i⟩ | ⟨d,e,q⟩
  ·rw [e,yH]
   refine qcw enc I Q as ρ' i (fun x hx=>st x (List.mem_cons_of_mem _ hx)) ?_
   obtain ⟨b,hb,k⟩:=hit
   rcases List.mem_cons.mp hb with rfl | hb
   ·obtain ⟨d,e'⟩:=k ρ h
    rw [e] at e'
    cases e'
   ·exact ⟨b,hb,k⟩
  ·rw [e,qbx]
   exact ⟨d,rfl,q⟩
def ab (x:Int):Int:=if x < 0 then -x else x
def one1 (u:Sp):Bool:=decide (ab u.1 + ab u.2.1 + ab u.2.2=1)
theorem ab_z {x:Int} (h:ab x=0):x=0:=by unfold ab at h;split at h<;>omega
theorem ab_p (x:Int):0 <= ab x:=by unfold ab;split<;>omega
theorem ab_1 {x:Int} (h:ab x=1):x=-1\/x=1:=by
 unfold ab at h
 split at h
 ·exact .inl (by omega)
 ·exact .inr h
theorem s3 {a b c:Int} (ha:0 <= a) (hb:0 <= b) (hc:0 <= c) (h:a + b + c=1):(a=1/\b=0/\c=0)\/(a=0/\b=1/\c=0)\/(a=0/\b=0/\c=1):=by
 by_cases h1:a=0
 ·by_cases h2:b=0
  ·exact .inr (.inr ⟨h1,h2,by omega⟩)
  ·exact .inr (.inl ⟨h1,by omega,by omega⟩)
 ·exact .inl ⟨by omega,by omega,by omega⟩
theorem qep (s m:Sp):one1 (sb s m)=true↔s∈units.map (ad m):=by
 unfold one1
 rw [decide_eq_true_eq]
 constructor
 ·intro h
  have key:sb s m∈units:=by
   rcases s3 (ab_p _) (ab_p _) (ab_p _) h with ⟨h1,h2,h3⟩ | ⟨h1,h2,h3⟩ | ⟨h1,h2,h3⟩
   ·rcases ab_1 h1 with h1 | h1
    ·rw [show sb s m=(-1,0,0) from Prod.ext h1 (Prod.ext (ab_z h2) (ab_z h3))];simp [units]
    ·rw [show sb s m=(1,0,0) from Prod.ext h1 (Prod.ext (ab_z h2) (ab_z h3))];simp [units]
   ·rcases ab_1 h2 with h2 | h2
    ·rw [show sb s m=(0,-1,0) from Prod.ext (ab_z h1) (Prod.ext h2 (ab_z h3))];simp [units]
    ·rw [show sb s m=(0,1,0) from Prod.ext (ab_z h1) (Prod.ext h2 (ab_z h3))];simp [units]
   ·rcases ab_1 h3 with h3 | h3
    ·rw [show sb s m=(0,0,-1) from Prod.ext (ab_z h1) (Prod.ext (ab_z h2) h3)];simp [units]
    ·rw [show sb s m=(0,0,1) from Prod.ext (ab_z h1) (Prod.ext (ab_z h2) h3)];simp [units]
  refine List.mem_map.mpr ⟨sb s m,key,?_⟩
  unfold ad sb
  exact Prod.ext (by dsimp only;omega) (Prod.ext (by dsimp only;omega) (by dsimp only;omega))
 ·intro h
  obtain ⟨u,hu,rfl⟩:=List.mem_map.mp h
  have e:sb (ad m u) m=u:=by
   unfold ad sb
   exact Prod.ext (by dsimp only;omega) (Prod.ext (by dsimp only;omega) (by dsimp only;omega))
  rw [e]
  simp only [units,List.mem_cons,List.not_mem_nil,or_false] at hu
  rcases hu with rfl | rfl | rfl | rfl | rfl | rfl<;>decide
theorem Yb (s c:Sp):mid (ad c (sb s (mid c)))=(2 * s.1 - (mid c).1,2 * s.2.1 - (mid c).2.1,2 * s.2.2 - (mid c).2.2):=by
 unfold mid ad sb
 exact Prod.ext (by dsimp only;omega) (Prod.ext (by dsimp only;omega) (by dsimp only;omega))
theorem qes (A:Nat) (s:Sp):(2 * s.1 - (lo A s).1,2 * s.2.1 - (lo A s).2.1,2 * s.2.2 - (lo A s).2.2)=hi A s:=by
 unfold lo hi
 split<;>exact Prod.ext (by dsimp only;omega) (Prod.ext (by dsimp only;omega) (by dsimp only;omega))
theorem qer (A:Nat) (s:Sp):(2 * s.1 - (hi A s).1,2 * s.2.1 - (hi A s).2.1,2 * s.2.2 - (hi A s).2.2)=lo A s:=by
 unfold lo hi
 split<;>exact Prod.ext (by dsimp only;omega) (Prod.ext (by dsimp only;omega) (by dsimp only;omega))
theorem yX {cs:List Sp} {s c m:Sp} (h:mid (ad c (sb s (mid c)))=m):ad c (sb s (mid c))∈cs↔inM cs m=true:=by
 unfold inM
 rw [decide_eq_true_eq]
 constructor
 ·exact fun z=>List.mem_map.mpr ⟨_,z,h⟩
 ·intro z
  obtain ⟨d,h1,h2⟩:=List.mem_map.mp z
  rw [qbN (h.trans h2.symm)]
  exact h1
def inn (cs:List Sp) (s:Sp):Sp:=if inM cs (lo (axA s) s)=true then lo (axA s) s else hi (axA s) s
def wC (cs:List Sp) (s c:Sp):Bool:=one1 (sb s (mid c)) && !decide (ad c (sb s (mid c))∈cs)
theorem qc3 {cs:List Sp} {s c:Sp} (hs:Sq s) (hc:c∈cs) (h:wC cs s c=true):skB (inM cs) s=true/\mid c=inn cs s:=by
 unfold wC at h
 rw [Bool.and_eq_true,Bool.not_eq_true',decide_eq_false_iff_not] at h
 have hm:inM cs (mid c)=true:=decide_eq_true (List.mem_map.mpr ⟨c,hc,rfl⟩)
 rcases (qb7 (yZ c) hs).mp ((qep _ _).mp h.1) with e | e
 ·have ho:¬ inM cs (hi (axA s) s)=true:=fun z=>h.2 ((yX (by rw [Yb,e,qes])).mpr z)
  rw [e] at hm
  unfold skB inn
  rw [hm,if_pos rfl,Bool.eq_false_iff.mpr ho]
  exact ⟨rfl,e⟩
 ·have ho:¬ inM cs (lo (axA s) s)=true:=fun z=>h.2 ((yX (by rw [Yb,e,qer])).mpr z)
  rw [e] at hm
  unfold skB inn
  rw [hm,if_neg ho,Bool.eq_false_iff.mpr ho]
  exact ⟨rfl,e⟩
theorem qjD {cs:List Sp} {s:Sp} (hs:Sq s) (hk:skB (inM cs) s=true):∃ c∈cs,wC cs s c=true:=by
 have key:∀ m,inM cs m=true->(m=lo (axA s) s/\inM cs (hi (axA s) s)=false)\/(m=hi (axA s) s/\inM cs (lo (axA s) s)=false)->∃ c∈cs,wC cs s c=true:=fun m hm h=>by
  obtain ⟨c,hc,rfl⟩:=List.mem_map.mp (of_decide_eq_true hm)
  refine ⟨c,hc,?_⟩
  unfold wC
  rw [Bool.and_eq_true,Bool.not_eq_true',decide_eq_false_iff_not]
  refine ⟨(qep _ _).mpr ((qb7 (yZ c) hs).mpr (h.imp (·.1) (·.1))),fun z=>?_⟩
  rcases h with ⟨e,n⟩ | ⟨e,n⟩
  ·have:=(yX (by rw [Yb,e,qes])).mp z
   rw [n] at this;cases this
  ·have:=(yX (by rw [Yb,e,qer])).mp z
   rw [n] at this;cases this
 unfold skB at hk
 cases hl:inM cs (lo (axA s) s) with
 | true =>
  rw [hl] at hk
  exact key _ hl (.inl ⟨rfl,by cases hh:inM cs (hi (axA s) s) with | false=>rfl | true=>rw [hh] at hk;cases hk⟩)
 | false =>
  rw [hl] at hk
  cases hh:inM cs (hi (axA s) s) with
  | true=>exact key _ hh (.inr ⟨rfl,hl⟩)
  | false=>rw [hh] at hk;cases hk
theorem Ww {cs:List Sp} {c s:Sp} (hc:BdS 200 c) (o2 o3 o4 o5:Option PyData):∃ o3' o4' o5',ob (gNm 2 (eS c) [some (.list (cs.map eS)),some (eS s),o2,o3,o4,o5]) (seqO (sSet 3 (evA (aC (ev2 (ev2 (kd (.int 2)) (ev2 (vr 2) (kd (.int 0)) ixD) mulD) (kd (.int 1)) qM) (aC (ev2 (ev2 (kd (.int 2)) (ev2 (vr 2) (kd (.int 1)) ixD) mulD) (kd (.int 1)) qM) (aC (ev2 (ev2 (kd (.int 2)) (ev2 (vr 2) (kd (.int 2)) ixD) mulD) (kd (.int 1)) qM) aN))) tupD)) (seqO (sSet 4 (evA (aC (ev2 (ev2 (vr 1) (kd (.int 0)) ixD) (ev2 (vr 3) (kd (.int 0)) ixD) subD) (aC (ev2 (ev2 (vr 1) (kd (.int 1)) ixD) (ev2 (vr 3) (kd (.int 1)) ixD) subD) (aC (ev2 (ev2 (vr 1) (kd (.int 2)) ixD) (ev2 (vr 3) (kd (.int 2)) ixD) subD) aN))) tupD)) (seqO (sSet 5 (evA (aC (ev2 (ev2 (vr 2) (kd (.int 0)) ixD) (ev2 (vr 4) (kd (.int 0)) ixD) qM) (aC (ev2 (ev2 (vr 2) (kd (.int 1)) ixD) (ev2 (vr 4) (kd (.int 1)) ixD) qM) (aC (ev2 (ev2 (vr 2) (kd (.int 2)) ixD) (ev2 (vr 4) (kd (.int 2)) ixD) qM) aN))) tupD)) (sIf (tA (tV (ev2 (ev2 (ev2 (evA (aC (ev2 (vr 4) (kd (.int 0)) ixD) aN) absD) (evA (aC (ev2 (vr 4) (kd (.int 1)) ixD) aN) absD) qM) (evA (aC (ev2 (vr 4) (kd (.int 2)) ixD) aN) absD) qM) (kd (.int 1)) eqD)) (tV (ev2 (vr 5) (vr 0) ninD))) (sRet (vr 4)) sN))))=if wC cs s c=true then some (.rt (eS (sb s (mid c)))) else some (.nx [some (.list (cs.map eS)),some (eS s),some (eS c),o3',o4',o5']):=by
 have m1:=zf (bd2.ok hc.1)
 have m2:=zf (bd2.ok hc.2.1)
 have m3:=zf (bd2.ok hc.2.2)
 have nn:=Wb cs (ad c (sb s (mid c)))
 refine ⟨some (eS (mid c)),some (eS (sb s (mid c))),some (eS (ad c (sb s (mid c)))),?_⟩
 unfold wC one1
 by_cases h1:ab (sb s (mid c)).1 + ab (sb s (mid c)).2.1 + ab (sb s (mid c)).2.2=1
 ·rw [decide_eq_true h1]
  have e1:(ab (s.1 - (2 * c.1 + 1)) + ab (s.2.1 - (2 * c.2.1 + 1)) + ab (s.2.2 - (2 * c.2.2 + 1)) == 1)=true:=beq_iff_eq.mpr h1
  by_cases h2:ad c (sb s (mid c))∈cs
  ·rw [decide_eq_true h2] at nn ⊢
   simp only [ad,sb,mid,eS,ab] at nn e1 ⊢
   simp_arith [m1,m2,m3,nn,e1]
   rfl
  ·rw [decide_eq_false h2] at nn ⊢
   simp only [ad,sb,mid,eS,ab] at nn e1 ⊢
   simp_arith [m1,m2,m3,nn,e1]
   rfl
 ·rw [decide_eq_false h1]
  have e1:(ab (s.1 - (2 * c.1 + 1)) + ab (s.2.1 - (2 * c.2.1 + 1)) + ab (s.2.2 - (2 * c.2.2 + 1)) == 1)=false:=beq_eq_false_iff_ne.mpr h1
  simp only [ad,sb,mid,eS,ab] at e1 ⊢
  simp_arith [m1,m2,m3,e1]
  rfl
theorem due22 {cs:List Sp} (hb:∀ c∈cs,BdS 200 c) {s:Sp} (hs:Sq s):Q6 [.list (cs.map eS),eS s]=some (if skB (inM cs) s=true then eS (sb s (inn cs s)) else .none):=by
 by_cases hk:skB (inM cs) s=true
 ·rw [if_pos hk]
  obtain ⟨d,e,rfl⟩:=qcw eS (g:=gNm 2) (u:=(seqO (sSet 3 (evA (aC (ev2 (ev2 (kd (.int 2)) (ev2 (vr 2) (kd (.int 0)) ixD) mulD) (kd (.int 1)) qM) (aC (ev2 (ev2 (kd (.int 2)) (ev2 (vr 2) (kd (.int 1)) ixD) mulD) (kd (.int 1)) qM) (aC (ev2 (ev2 (kd (.int 2)) (ev2 (vr 2) (kd (.int 2)) ixD) mulD) (kd (.int 1)) qM) aN))) tupD)) (seqO (sSet 4 (evA (aC (ev2 (ev2 (vr 1) (kd (.int 0)) ixD) (ev2 (vr 3) (kd (.int 0)) ixD) subD) (aC (ev2 (ev2 (vr 1) (kd (.int 1)) ixD) (ev2 (vr 3) (kd (.int 1)) ixD) subD) (aC (ev2 (ev2 (vr 1) (kd (.int 2)) ixD) (ev2 (vr 3) (kd (.int 2)) ixD) subD) aN))) tupD)) (seqO (sSet 5 (evA (aC (ev2 (ev2 (vr 2) (kd (.int 0)) ixD) (ev2 (vr 4) (kd (.int 0)) ixD) qM) (aC (ev2 (ev2 (vr 2) (kd (.int 1)) ixD) (ev2 (vr 4) (kd (.int 1)) ixD) qM) (aC (ev2 (ev2 (vr 2) (kd (.int 2)) ixD) (ev2 (vr 4) (kd (.int 2)) ixD) qM) aN))) tupD)) (sIf (tA (tV (ev2 (ev2 (ev2 (evA (aC (ev2 (vr 4) (kd (.int 0)) ixD) aN) absD) (evA (aC (ev2 (vr 4) (kd (.int 1)) ixD) aN) absD) qM) (evA (aC (ev2 (vr 4) (kd (.int 2)) ixD) aN) absD) qM) (kd (.int 1)) eqD)) (tV (ev2 (vr 5) (vr 0) ninD))) (sRet (vr 4)) sN))))) (fun ρ=>∃ o2 o3 o4 o5:Option PyData,ρ=[some (.list (cs.map eS)),some (eS s),o2,o3,o4,o5]) (fun d=>d=eS (sb s (inn cs s))) cs [some (.list (cs.map eS)),some (eS s),none,none,none,none] ⟨none,none,none,none,rfl⟩ (by
   rintro c hc ρ ⟨o2,o3,o4,o5,rfl⟩
   obtain ⟨p3,p4,p5,e⟩:=Ww (cs:=cs) (s:=s) (hb c hc) o2 o3 o4 o5
   by_cases ht:wC cs s c=true
   ·rw [if_pos ht] at e
    exact .inr ⟨_,e,by rw [(qc3 hs hc ht).2]⟩
   ·rw [if_neg ht] at e
    exact .inl ⟨_,e,_,_,_,_,rfl⟩) (by
   obtain ⟨c,hc,ht⟩:=qjD hs hk
   refine ⟨c,hc,?_⟩
   rintro ρ ⟨o2,o3,o4,o5,rfl⟩
   obtain ⟨p3,p4,p5,e⟩:=Ww (cs:=cs) (s:=s) (hb c hc) o2 o3 o4 o5
   rw [if_pos ht] at e
   exact ⟨_,e⟩)
  simp only [Q6,jN]
  simp_arith [e]
 ·rw [if_neg hk]
  obtain ⟨ρ',e,o2,o3,o4,o5,rfl⟩:=Zg eS (g:=gNm 2) (u:=(seqO (sSet 3 (evA (aC (ev2 (ev2 (kd (.int 2)) (ev2 (vr 2) (kd (.int 0)) ixD) mulD) (kd (.int 1)) qM) (aC (ev2 (ev2 (kd (.int 2)) (ev2 (vr 2) (kd (.int 1)) ixD) mulD) (kd (.int 1)) qM) (aC (ev2 (ev2 (kd (.int 2)) (ev2 (vr 2) (kd (.int 2)) ixD) mulD) (kd (.int 1)) qM) aN))) tupD)) (seqO (sSet 4 (evA (aC (ev2 (ev2 (vr 1) (kd (.int 0)) ixD) (ev2 (vr 3) (kd (.int 0)) ixD) subD) (aC (ev2 (ev2 (vr 1) (kd (.int 1)) ixD) (ev2 (vr 3) (kd (.int 1)) ixD) subD) (aC (ev2 (ev2 (vr 1) (kd (.int 2)) ixD) (ev2 (vr 3) (kd (.int 2)) ixD) subD) aN))) tupD)) (seqO (sSet 5 (evA (aC (ev2 (ev2 (vr 2) (kd (.int 0)) ixD) (ev2 (vr 4) (kd (.int 0)) ixD) qM) (aC (ev2 (ev2 (vr 2) (kd (.int 1)) ixD) (ev2 (vr 4) (kd (.int 1)) ixD) qM) (aC (ev2 (ev2 (vr 2) (kd (.int 2)) ixD) (ev2 (vr 4) (kd (.int 2)) ixD) qM) aN))) tupD)) (sIf (tA (tV (ev2 (ev2 (ev2 (evA (aC (ev2 (vr 4) (kd (.int 0)) ixD) aN) absD) (evA (aC (ev2 (vr 4) (kd (.int 1)) ixD) aN) absD) qM) (evA (aC (ev2 (vr 4) (kd (.int 2)) ixD) aN) absD) qM) (kd (.int 1)) eqD)) (tV (ev2 (vr 5) (vr 0) ninD))) (sRet (vr 4)) sN))))) (fun done ρ=>∃ o2 o3 o4 o5:Option PyData,ρ=[some (.list (cs.map eS)),some (eS s),o2,o3,o4,o5]) cs [some (.list (cs.map eS)),some (eS s),none,none,none,none] ⟨none,none,none,none,rfl⟩ (by
   rintro c hc done ρ - ⟨o2,o3,o4,o5,rfl⟩
   obtain ⟨p3,p4,p5,e⟩:=Ww (cs:=cs) (s:=s) (hb c hc) o2 o3 o4 o5
   rw [if_neg (fun ht=>hk (qc3 hs hc ht).1)] at e
   exact ⟨_,e,_,_,_,_,rfl⟩)
  simp only [Q6,jN]
  simp_arith [e]
theorem qe8 {cs:List Sp} (hn:cs.Nodup) (hb:∀ c∈cs,BdS 200 c) (hl:cs.length <= 6) {s:Sp} (hs:Sq s) (hk:skB (inM cs) s=true):Q8 [.list (cs.map eS),eS s]=some (eS (sb s (inn cs s))):=by
 obtain ⟨sk,e,_,_,_,h⟩:=qhD hb hl
 have hm:s∈sk:=(h s).mpr ((qcY hn s).mpr ⟨hs,hk⟩)
 have nn:=Wb sk s
 rw [decide_eq_true hm] at nn
 have ho:=qe9 hb hs hk
 simp only [Q8,YW]
 simp_arith [e,nn,ho]
 rfl
theorem qhs {cs:List Sp} (hn:cs.Nodup) (hb:∀ c∈cs,BdS 200 c) (hl:cs.length <= 6) {s:Sp} (hk:¬ skB (inM cs) s=true):jF [.list (cs.map eS),eS s]=some (excD "NoSquare" .none):=by
 obtain ⟨sk,e,_,_,_,h⟩:=qhD hb hl
 have hm:s∉sk:=fun z=>hk ((qcY hn s).mp ((h s).mp z)).2
 have nn:=Wb sk s
 rw [decide_eq_false hm] at nn
 have hx:jE [some (.list (cs.map eS)),some (eS s)]=some (excD "NoSquare" .none,[some (.list (cs.map eS)),some (eS s)]):=by
  unfold jE xSeq xIf qdH xNo
  simp_arith [e,nn]
 show ob (jE [some (.list (cs.map eS)),some (eS s)]) _=_
 rw [hx]
 rfl
theorem qfl {cs:List Sp} (hn:cs.Nodup) (hb:∀ c∈cs,BdS 200 c) (hl:cs.length <= 6) {s:Sp} (hk:¬ skB (inM cs) s=true):QL [.list (cs.map eS),eS s]=some (.bool true):=by
 have hx:=qhs hn hb hl hk
 have hw:qc8 2 (aC (vr 0) (aC (vr 1) aN)) jF [some (.list (cs.map eS)),some (eS s),some (.tuple [.bool false,.bool false,.bool true]),none]=some (excD "NoSquare" .none,[some (.list (cs.map eS)),some (eS s),some (.tuple [.bool false,.bool false,.bool true]),none]):=by
  unfold qc8
  simp_arith [hx]
 have hc:=qiG
 have key:Qg [some (.list (cs.map eS)),some (eS s),none,none]=some (.rt (.bool true)):=by
  unfold Qg
  refine qhC (ρ':=[some (.list (cs.map eS)),some (eS s),some (.tuple [.bool false,.bool false,.bool true]),none]) (by simp_arith []) (qhC (ρ':=[some (.list (cs.map eS)),some (eS s),some (.tuple [.bool true,.bool true,.bool false]),none]) ?_ ?_)
  ·rw [qlD hw (by decide +kernel)]
   simp_arith [hc]
   rfl
  ·simp_arith []
   rfl
 show ob (Qg [some (.list (cs.map eS)),some (eS s),none,none]) outD=_
 rw [key]
 rfl
theorem qjB (s:Sp):Qj [.list [eS s]]=some (.bool true):=qjA [s]
theorem qgs (cs:List Sp):ju [.list (cs.map eS)]=some (.list (cs.map eS)):=rfl
theorem qjq {cs:List Sp} (hn:cs.Nodup) (hb:∀ c∈cs,BdS 200 c) (hl:cs.length <= 6) {s:Sp} (hs:Sq s):zR [.list (cs.map eS),eS s]=some (.bool true):=by
 have hd:=due22 hb hs
 have hq:=qkj cs cs
 rw [decide_eq_true rfl] at hq
 by_cases hk:skB (inM cs) s=true
 ·rw [if_pos hk] at hd
  have ho:=qe8 hn hb hl hs hk
  have hp:=qjB (sb s (inn cs s))
  have hu:=qii (sb s (inn cs s)) (sb s (inn cs s))
  rw [decide_eq_true rfl] at hu
  have hi:isD (eS (sb s (inn cs s))) .none=some (.bool false):=rfl
  simp only [zR,Zu]
  simp_arith [hd,qgs,hi,ho,hp,hu,hq]
 ·rw [if_neg hk] at hd
  have hr:=qfl hn hb hl hk
  have hi:isD .none .none=some (.bool true):=rfl
  simp only [zR,Zu]
  simp_arith [hd,qgs,hi,hr,hq]
theorem qkN (m:Sp):∃ zs:List Sp,q8 [.list [.int m.1,.int m.2.1,.int m.2.2],.tuple [.int 0,.int 1,.int 2]]=some (.list (zs.map eS))/\zs.Perm (six m):=by
 obtain ⟨zs,e,p,o⟩:=JN (xs:=six m) (show (6:Nat) < 64 by decide)
 refine ⟨zs,?_,p⟩
 have e:zU [.list [.tuple [.int (m.1 + -1),.int m.2.1,.int m.2.2],.tuple [.int (m.1 + 1),.int m.2.1,.int m.2.2],.tuple [.int m.1,.int (m.2.1 + -1),.int m.2.2],.tuple [.int m.1,.int (m.2.1 + 1),.int m.2.2],.tuple [.int m.1,.int m.2.1,.int (m.2.2 + -1)],.tuple [.int m.1,.int m.2.1,.int (m.2.2 + 1)]]]=some (.list (zs.map eS)):=e
 simp only [q8,QG]
 simp_arith [ix0,ix1,ix2,QQ,Z0,e]
theorem qlI {m s:Sp} (h:m.1 % 2=1/\m.2.1 % 2=1/\m.2.2 % 2=1) (hs:s∈six m):Sq s:=by
 obtain ⟨h1,h2,h3⟩:=h
 simp only [six,List.mem_cons,List.not_mem_nil,or_false] at hs
 rcases hs with rfl | rfl | rfl | rfl | rfl | rfl<;>unfold Sq<;>dsimp only
 ·exact .inl ⟨by omega,h2,h3⟩
 ·exact .inl ⟨by omega,h2,h3⟩
 ·exact .inr (.inl ⟨h1,by omega,h3⟩)
 ·exact .inr (.inl ⟨h1,by omega,h3⟩)
 ·exact .inr (.inr ⟨h1,h2,by omega⟩)
 ·exact .inr (.inr ⟨h1,h2,by omega⟩)
theorem qeo {c:Sp} (hc:BdS 200 c):∃ zs:List Sp,q8 [.list [.int (2 * c.1 + 1),.int (2 * c.2.1 + 1),.int (2 * c.2.2 + 1)],.tuple [.int 0,.int 1,.int 2]]=some (.list (zs.map eS))/\zs.length=6/\∀ s∈zs,Sq s:=by
 obtain ⟨zs,e,p⟩:=qkN (mid c)
 exact ⟨zs,e,p.length_eq,fun s hs=>qlI (yZ c) (p.mem_iff.mp hs)⟩
theorem qhU {cs:List Sp} (hb:∀ c∈cs,BdS 200 c) (hne:cs≠[]) (hl:cs.length <= 6) {b:Sp} (hbd:qgR (10 ^ 19) b) (x:Int):∃ s:Sp,zu [.int x,.list (cs.map eS),.list [.int b.1,.int b.2.1,.int b.2.2]]=some (eS s)/\Sq s:=by
 rcases qd2 x with h | h | h
 ·have hg:decide ((0:Int) > 0)=false:=by decide
  have m1:mulD (.int 2) (.int (b.1 + x / 3 % 5 - 2))=some (.int (2 * (b.1 + x / 3 % 5 - 2))):=zf (bd2.ok (Bd.of (n:=200) (by have:=hbd.1;omega)))
  have m2:mulD (.int 2) (.int (b.2.1 + x / 15 % 5 - 2))=some (.int (2 * (b.2.1 + x / 15 % 5 - 2))):=zf (bd2.ok (Bd.of (n:=200) (by have:=hbd.2.1;omega)))
  have m3:mulD (.int 2) (.int (b.2.2 + x / 75 % 5 - 2))=some (.int (2 * (b.2.2 + x / 75 % 5 - 2))):=zf (bd2.ok (Bd.of (n:=200) (by have:=hbd.2.2;omega)))
  have r3:rngL 0 3=[.int 0,.int 1,.int 2]:=rfl
  rcases qd2 (x / 375) with g | g | g
  ·refine ⟨(2 * (b.1 + x / 3 % 5 - 2) + 1 + 1,2 * (b.2.1 + x / 15 % 5 - 2) + 1,2 * (b.2.2 + x / 75 % 5 - 2) + 1),?_,.inl ⟨by dsimp only;omega,by dsimp only;omega,by dsimp only;omega⟩⟩
   simp only [zu,Ql]
   simp_arith [h,hg,m1,m2,m3,g,ix0,ix1,ix2,QQ,r3]
   rfl
  ·refine ⟨(2 * (b.1 + x / 3 % 5 - 2) + 1,2 * (b.2.1 + x / 15 % 5 - 2) + 1 + 1,2 * (b.2.2 + x / 75 % 5 - 2) + 1),?_,.inr (.inl ⟨by dsimp only;omega,by dsimp only;omega,by dsimp only;omega⟩)⟩
   simp only [zu,Ql]
   simp_arith [h,hg,m1,m2,m3,g,ix0,ix1,ix2,QQ,r3]
   rfl
  ·refine ⟨(2 * (b.1 + x / 3 % 5 - 2) + 1,2 * (b.2.1 + x / 15 % 5 - 2) + 1,2 * (b.2.2 + x / 75 % 5 - 2) + 1 + 1),?_,.inr (.inr ⟨by dsimp only;omega,by dsimp only;omega,by dsimp only;omega⟩)⟩
   simp only [zu,Ql]
   simp_arith [h,hg,m1,m2,m3,g,ix0,ix1,ix2,QQ,r3]
   rfl
 all_goals
  have h0:0 < cs.length:=List.length_pos_iff.mpr hne
  obtain ⟨c,hc,ec⟩:=qbp (x / 3) h0
  have e3:modD (.int (x / 3)) (.int (((cs.map eS).length:Nat):Int))=some (.int (x / 3 % (cs.length:Int))):=by rw [List.length_map];exact qbO _ (by omega)
  have e4:atI (cs.map eS) (x / 3 % (cs.length:Int))=some (eS c):=yw (Int.emod_nonneg _ (by omega)) ec
  obtain ⟨zs,en,hz,hq⟩:=qeo (hb c hc)
  obtain ⟨s,hs,es⟩:=qbp (xs:=zs) (x / 18) (by omega)
  rw [hz] at es
  have e5:atI (zs.map eS) (x / 18 % 6)=some (eS s):=yw (Int.emod_nonneg _ (by decide)) es
  have hg:decide (x % 3 > 0)=true:=decide_eq_true (by omega)
  refine ⟨s,?_,hq s hs⟩
  have m1:=zf (bd2.ok (hb c hc).1)
  have m2:=zf (bd2.ok (hb c hc).2.1)
  have m3:=zf (bd2.ok (hb c hc).2.2)
  simp only [zu,Ql]
  simp_arith [hg,e3,e4,seqe,m1,m2,m3,en,e5]
end SF
namespace SF
open PySem L2
def rot3 (r:Nat) (p:Sp):Sp:=match r with
 | 0=>p
 | 1=>(p.2.1,p.2.2,p.1)
 | _=>(p.2.2,p.1,p.2.1)
def QJ:List Sp:=[(0,0,0),(0,0,1),(1,0,1),(1,1,1),(1,1,0)]
def sgn (k d:Int):Int:=1 - 2 * (k / d % 2)
theorem Zn (k d:Int):sgn k d=1\/sgn k d=-1:=by unfold sgn;omega
def plc (b:Sp) (k:Int) (p:Sp):Sp:=(b.1 + p.1 * sgn k 3,b.2.1 + p.2.1 * sgn k 6,b.2.2 + p.2.2 * sgn k 12)
theorem qbP {a c s:Int} (hs:s=1\/s=-1) (h:a * s=c * s):a=c:=by
 rcases hs with rfl | rfl<;>omega
theorem qjf {b:Sp} {k:Int} (p q:Sp) (h:plc b k p=plc b k q):p=q:=by
 unfold plc at h
 injection h with h1 h2
 injection h2 with h2 h3
 exact Prod.ext (qbP (Zn k 3) (by omega)) (Prod.ext (qbP (Zn k 6) (by omega)) (qbP (Zn k 12) (by omega)))
structure Jq (b:Sp) (cs:List Sp):Prop where
 ne:cs≠[]
 nd:cs.Nodup
 nr:∀ c∈cs,(c.1 - b.1).natAbs <= cs.length/\(c.2.1 - b.2.1).natAbs <= cs.length/\(c.2.2 - b.2.2).natAbs <= cs.length
theorem n1 {x y:Int} {n:Nat} (h:(x - y).natAbs <= n):(x - y).natAbs <= n + 1:=Nat.le_succ_of_le h
theorem n2 {x y s:Int} {n:Nat} (hs:s=-1\/s=1) (h:(x - y).natAbs <= n):(x + s - y).natAbs <= n + 1:=by rcases hs with rfl | rfl<;>omega
theorem Jq.add {b:Sp} {cs:List Sp} {c:Sp} {a:Nat} {s:Int} (h:Jq b cs) (hc:c∈cs) (ha:a=0\/a=1\/a=2) (hs:s=-1\/s=1) (hn:oth a s c∉cs):Jq b (cs ++ [oth a s c]):=by
 refine ⟨by simp,List.nodup_append.mpr ⟨h.nd,by simp,fun x hx y hy=>?_⟩,fun x hx=>?_⟩
 ·rw [List.mem_singleton] at hy
  rw [hy]
  exact fun z=>hn (z ▸ hx)
 ·rw [List.length_append,List.length_singleton]
  rcases List.mem_append.mp hx with hx | hx
  ·obtain ⟨h1,h2,h3⟩:=h.nr x hx
   exact ⟨n1 h1,n1 h2,n1 h3⟩
  ·rw [List.mem_singleton] at hx
   subst hx
   obtain ⟨h1,h2,h3⟩:=h.nr c hc
   rcases ha with rfl | rfl | rfl
   ·exact ⟨n2 hs h1,n1 h2,n1 h3⟩
   ·exact ⟨n1 h1,n2 hs h2,n1 h3⟩
   ·exact ⟨n1 h1,n1 h2,n2 hs h3⟩
theorem qdq {b s:Int} (hs:s=1\/s=-1) {a:Int} (ha:a=0\/a=1):(b + a * s - b).natAbs <= 5:=by
 rcases hs with rfl | rfl<;>rcases ha with rfl | rfl<;>omega
theorem Jq.five (b:Sp) (k:Int) (r:Nat):Jq b ((QJ.map (rot3 r)).map (plc b k)):=by
 have hc:∀ p∈QJ.map (rot3 r),(p.1=0\/p.1=1)/\(p.2.1=0\/p.2.1=1)/\(p.2.2=0\/p.2.2=1):=by
  intro p hp
  obtain ⟨q,hq,rfl⟩:=List.mem_map.mp hp
  simp only [QJ,List.mem_cons,List.not_mem_nil,or_false] at hq
  unfold rot3
  rcases hq with rfl | rfl | rfl | rfl | rfl<;>split<;>decide
 have hd:(QJ.map (rot3 r)).Nodup:=by
  unfold rot3
  split<;>decide
 refine ⟨by simp [QJ],YJ qjf hd,fun c hc'=>?_⟩
 obtain ⟨p,hp,rfl⟩:=List.mem_map.mp hc'
 obtain ⟨h1,h2,h3⟩:=hc p hp
 exact ⟨qdq (Zn k 3) h1,qdq (Zn k 6) h2,qdq (Zn k 12) h3⟩
theorem qa2 {a s:Int} (ha:a=0\/a=1) (hs:s=1\/s=-1):mulD (.int a) (.int s)=some (.int (a * s)):=by
 rcases ha with rfl | rfl<;>rcases hs with rfl | rfl<;>rfl
theorem qjz (ms:List Int) (b:Sp) {k:Int} (hk:0 <= k) (hk2:k < 24):∃ cs:List Sp,zF [.list (ms.map .int),.list [.int b.1,.int b.2.1,.int b.2.2],.int k]=some (.list (cs.map eS))/\cs.length <= 6/\Jq b cs:=by
 have fin:∀ gs:List Sp,gs.length <= 6->Jq b gs->∃ cs:List Sp,zU [.list (gs.map eS)]=some (.list (cs.map eS))/\cs.length <= 6/\Jq b cs:=fun gs h1 h2=>by
  obtain ⟨cs,es,p,_⟩:=JN (xs:=gs) (by omega)
  refine ⟨cs,es,by rw [p.length_eq];exact h1,fun z=>h2.ne (by rw [z] at p;exact List.nil_perm.mp p),p.nodup_iff.mpr h2.nd,fun c hc=>?_⟩
  rw [p.length_eq]
  exact h2.nr c (p.mem_iff.mp hc)
 by_cases h0:k=0
 ·subst h0
  obtain ⟨gs,o7,o8,o9,e,h1,h2⟩:=qdR (Jq b) (fun cs h=>h.ne) (fun cs c a s h hc ha hs hn=>h.add hc ha hs hn) ms (some (.list (ms.map .int))) (some (.list [.int b.1,.int b.2.1,.int b.2.2])) (some (.int 0)) none none none (cs0:=[b]) ⟨by simp,by simp,fun c hc=>by
   rw [List.mem_singleton] at hc
   subst hc
   refine ⟨?_,?_,?_⟩<;>rw [Int.sub_self]<;>exact Nat.zero_le _⟩ (by simp)
  obtain ⟨cs,es,h3,h4⟩:=fin gs h2 h1
  refine ⟨cs,?_,h3,h4⟩
  have e:forD (gNm 7) (seqO (zP 8 (wu (evA (aC (ev2 (vr 3) (ev2 (vr 7) (evA (aC (vr 3) aN) lenD) modD) ixD) aN) ju))) (seqO (sSet 9 (ev2 (ev2 (vr 7) (kd (.int 60)) zY) (kd (.int 3)) modD)) (seqO (sPut 8 (vr 9) (Qe (ev2 (ev2 (ev2 (vr 8) (vr 9) ixD) (ev2 (kd (.int 2)) (ev2 (ev2 (vr 7) (kd (.int 180)) zY) (kd (.int 2)) modD) mulD) qM) (kd (.int 1)) subD))) (sIf (tA (tV (ev2 (evA (aC (vr 3) aN) lenD) (kd (.int 6)) ltD2)) (tV (ev2 (evA (aC (vr 8) aN) zV) (vr 3) ninD))) (sApp 3 (Qe (evA (aC (vr 8) aN) zV))) sN)))) (ms.map .int) [some (.list (ms.map .int)),some (.list [.int b.1,.int b.2.1,.int b.2.2]),some (.int 0),some (.list [.tuple [.int b.1,.int b.2.1,.int b.2.2]]),none,none,none,none,none,none]=some (.nx [some (.list (ms.map .int)),some (.list [.int b.1,.int b.2.1,.int b.2.2]),some (.int 0),some (.list (gs.map eS)),none,none,none,o7,o8,o9]):=e
  simp only [zF,Qm]
  simp_arith [e,es]
 ·have hg:decide (k > 0)=true:=decide_eq_true (by omega)
  have a1:mulD (.int 2) (.int (k / 3 % 2))=some (.int (2 * (k / 3 % 2))):=zf (bd2.ok (Bd.of (n:=2) (by omega)))
  have a2:mulD (.int 2) (.int (k / 6 % 2))=some (.int (2 * (k / 6 % 2))):=zf (bd2.ok (Bd.of (n:=2) (by omega)))
  have a3:mulD (.int 2) (.int (k / 12 % 2))=some (.int (2 * (k / 12 % 2))):=zf (bd2.ok (Bd.of (n:=2) (by omega)))
  have b1:mulD (.int 0) (.int (1 - 2 * (k / 3 % 2)))=some (.int (0 * sgn k 3)):=qa2 (.inl rfl) (Zn k 3)
  have b2:mulD (.int 0) (.int (1 - 2 * (k / 6 % 2)))=some (.int (0 * sgn k 6)):=qa2 (.inl rfl) (Zn k 6)
  have b3:mulD (.int 0) (.int (1 - 2 * (k / 12 % 2)))=some (.int (0 * sgn k 12)):=qa2 (.inl rfl) (Zn k 12)
  have c1:mulD (.int 1) (.int (1 - 2 * (k / 3 % 2)))=some (.int (1 * sgn k 3)):=qa2 (.inr rfl) (Zn k 3)
  have c2:mulD (.int 1) (.int (1 - 2 * (k / 6 % 2)))=some (.int (1 * sgn k 6)):=qa2 (.inr rfl) (Zn k 6)
  have c3:mulD (.int 1) (.int (1 - 2 * (k / 12 % 2)))=some (.int (1 * sgn k 12)):=qa2 (.inr rfl) (Zn k 12)
  have r3:rngL 0 3=[.int 0,.int 1,.int 2]:=rfl
  have fin2:∀ (r:Nat) (o4 o5 o6:Option PyData),∃ (cs gs:List Sp) (o7 o8 o9:Option PyData),forD (gNm 7) (seqO (zP 8 (wu (evA (aC (ev2 (vr 3) (ev2 (vr 7) (evA (aC (vr 3) aN) lenD) modD) ixD) aN) ju))) (seqO (sSet 9 (ev2 (ev2 (vr 7) (kd (.int 60)) zY) (kd (.int 3)) modD)) (seqO (sPut 8 (vr 9) (Qe (ev2 (ev2 (ev2 (vr 8) (vr 9) ixD) (ev2 (kd (.int 2)) (ev2 (ev2 (vr 7) (kd (.int 180)) zY) (kd (.int 2)) modD) mulD) qM) (kd (.int 1)) subD))) (sIf (tA (tV (ev2 (evA (aC (vr 3) aN) lenD) (kd (.int 6)) ltD2)) (tV (ev2 (evA (aC (vr 8) aN) zV) (vr 3) ninD))) (sApp 3 (Qe (evA (aC (vr 8) aN) zV))) sN)))) (ms.map .int) [some (.list (ms.map .int)),some (.list [.int b.1,.int b.2.1,.int b.2.2]),some (.int k),some (.list (((QJ.map (rot3 r)).map (plc b k)).map eS)),o4,o5,o6,none,none,none]=some (.nx [some (.list (ms.map .int)),some (.list [.int b.1,.int b.2.1,.int b.2.2]),some (.int k),some (.list (gs.map eS)),o4,o5,o6,o7,o8,o9])/\
    zU [.list (gs.map eS)]=some (.list (cs.map eS))/\cs.length <= 6/\Jq b cs:=fun r o4 o5 o6=>by
   obtain ⟨gs,o7,o8,o9,e,h1,h2⟩:=qdR (Jq b) (fun cs h=>h.ne) (fun cs c a s h hc ha hs hn=>h.add hc ha hs hn) ms (some (.list (ms.map .int))) (some (.list [.int b.1,.int b.2.1,.int b.2.2])) (some (.int k)) o4 o5 o6 (cs0:=(QJ.map (rot3 r)).map (plc b k)) (Jq.five b k r) (by simp [QJ])
   obtain ⟨cs,es,h3,h4⟩:=fin gs h2 h1
   exact ⟨cs,gs,o7,o8,o9,e,es,h3,h4⟩
  rcases qd2 k with g | g | g
  ·obtain ⟨cs,gs,o7,o8,o9,e,es,h3,h4⟩:=fin2 0 (some (.tuple [.int 1,.int 1,.int 0])) (some (.list [.int (b.1 + 1 * sgn k 3),.int (b.2.1 + 1 * sgn k 6),.int (b.2.2 + 0 * sgn k 12)])) (some (.int 2))
   refine ⟨cs,?_,h3,h4⟩
   have g1:(k + 1) % 3=1:=by omega
   have g2:(k + 2) % 3=2:=by omega
   simp only [QJ,rot3,plc,List.map_cons,List.map_nil,eS] at e
   simp only [zF,Qm]
   simp_arith [hg,g,g1,g2,a1,a2,a3,b1,b2,b3,c1,c2,c3,r3,ix0,ix1,ix2,QQ,Z0,e,es]
  ·obtain ⟨cs,gs,o7,o8,o9,e,es,h3,h4⟩:=fin2 1 (some (.tuple [.int 1,.int 1,.int 0])) (some (.list [.int (b.1 + 1 * sgn k 3),.int (b.2.1 + 0 * sgn k 6),.int (b.2.2 + 1 * sgn k 12)])) (some (.int 2))
   refine ⟨cs,?_,h3,h4⟩
   have g1:(k + 1) % 3=2:=by omega
   have g2:(k + 2) % 3=0:=by omega
   simp only [QJ,rot3,plc,List.map_cons,List.map_nil,eS] at e
   simp only [zF,Qm]
   simp_arith [hg,g,g1,g2,a1,a2,a3,b1,b2,b3,c1,c2,c3,r3,ix0,ix1,ix2,QQ,Z0,e,es]
  ·obtain ⟨cs,gs,o7,o8,o9,e,es,h3,h4⟩:=fin2 2 (some (.tuple [.int 1,.int 1,.int 0])) (some (.list [.int (b.1 + 0 * sgn k 3),.int (b.2.1 + 1 * sgn k 6),.int (b.2.2 + 1 * sgn k 12)])) (some (.int 2))
   refine ⟨cs,?_,h3,h4⟩
   have g1:(k + 1) % 3=0:=by omega
   have g2:(k + 2) % 3=1:=by omega
   simp only [QJ,rot3,plc,List.map_cons,List.map_nil,eS] at e
   simp only [zF,Qm]
   simp_arith [hg,g,g1,g2,a1,a2,a3,b1,b2,b3,c1,c2,c3,r3,ix0,ix1,ix2,QQ,Z0,e,es]
theorem qiI (ns:List Int):qd5 [.list (ns.map .int)]=some (.bool true):=by
 let b:Sp:=(bsV (zy ns 1),bsV (zy ns 2),bsV (zy ns 3))
 have hbd:qgR (10 ^ 19) b:=⟨qdd _,qdd _,qdd _⟩
 have hbase:Qy [.list [.int (zy ns 1),.int (zy ns 2),.int (zy ns 3)]]=some (.list [.int b.1,.int b.2.1,.int b.2.2]):=qhV _ _ _
 obtain ⟨ms,em,_⟩:=qf5 ns (a:=4) (b:=9)
 obtain ⟨xs,ex,hxl⟩:=qf5 ns (a:=9) (b:=39)
 have em:sliD (.list (ns.map .int)) (some 4) (some 9)=some (.list (ms.map .int)):=em
 have ex:sliD (.list (ns.map .int)) (some 9) (some 39)=some (.list (xs.map .int)):=ex
 have hk:0 <= zy ns 0 % 5 / 4 * (zy ns 0 / 5 % 24)/\zy ns 0 % 5 / 4 * (zy ns 0 / 5 % 24) < 24:=by
  have h1:zy ns 0 % 5 / 4=0\/zy ns 0 % 5 / 4=1:=by omega
  rcases h1 with h1 | h1<;>rw [h1]<;>omega
 have hmul:mulD (.int (zy ns 0 % 5 / 4)) (.int (zy ns 0 / 5 % 24))=some (.int (zy ns 0 % 5 / 4 * (zy ns 0 / 5 % 24))):=zf ((Bd.of (n:=8) (by omega)).ok (Bd.of (n:=8) (by omega)))
 obtain ⟨cs,esd,hl,hJ⟩:=qjz ms b hk.1 hk.2
 have hb:∀ c∈cs,BdS 200 c:=fun c hc=>by
  obtain ⟨h1,h2,h3⟩:=hJ.nr c hc
  obtain ⟨k1,k2,k3⟩:=hbd
  exact qiT (n:=10 ^ 19 + 6) ⟨by omega,by omega,by omega⟩ (by decide)
 obtain ⟨ρ1,e1,L1,o5,rfl,hq1,hz1⟩:=Zg eS (g:=gNm 5) (u:=(zP 4 (ev2 (vr 4) (evC 2 (aC (jk 8 (evI (vr 5) seqD) tT (ev2 (ev2 (kd (.int 2)) (vr 8) mulD) (kd (.int 1)) qM)) (aC (evA (aC (kd (.int 0)) (aC (kd (.int 1)) (aC (kd (.int 2)) aN))) tupD) aN)) q8) catL)))
  (fun done ρ=>∃ (L:List Sp) (o5:Option PyData),ρ=[some (.list (ns.map .int)),some (.list [.int b.1,.int b.2.1,.int b.2.2]),some (.int (zy ns 0)),some (.list (cs.map eS)),some (.list (L.map eS)),o5,none,none]/\(∀ s∈L,Sq s)/\L.length=6 * done.length) cs [some (.list (ns.map .int)),some (.list [.int b.1,.int b.2.1,.int b.2.2]),some (.int (zy ns 0)),some (.list (cs.map eS)),some (.list []),none,none,none] ⟨[],none,rfl,(fun s hs=>by cases hs),rfl⟩ (by
   rintro c hc done ρ hdl ⟨L,o5,rfl,hq,hz⟩
   obtain ⟨zs,en,hz6,hsq⟩:=qeo (hb c hc)
   have hcat:catL (.list (L.map eS)) (.list (zs.map eS))=some (.list ((L ++ zs).map eS)):=by
    show (if (L.map eS).length + (zs.map eS).length <= 1000 then some (PyData.list (L.map eS ++ zs.map eS)) else none)=_
    rw [if_pos (by rw [List.length_map,List.length_map];omega),List.map_append]
   refine ⟨_,?_,L ++ zs,some (eS c),rfl,fun s hs=>(List.mem_append.mp hs).elim (hq s) (hsq s),by rw [List.length_append,List.length_append,List.length_singleton];omega⟩
   have m1:=zf (bd2.ok (hb c hc).1)
   have m2:=zf (bd2.ok (hb c hc).2.1)
   have m3:=zf (bd2.ok (hb c hc).2.2)
   simp_arith [seqe,m1,m2,m3,en,hcat])
 obtain ⟨ρ2,e2,L2',o6,rfl,hq2,hz2⟩:=Zg PyData.int (g:=gNm 6) (u:=(sApp 4 (evC 3 (aC (vr 6) (aC (vr 3) (aC (vr 1) aN))) zu)))
  (fun done ρ=>∃ (L:List Sp) (o6:Option PyData),ρ=[some (.list (ns.map .int)),some (.list [.int b.1,.int b.2.1,.int b.2.2]),some (.int (zy ns 0)),some (.list (cs.map eS)),some (.list (L.map eS)),o5,o6,none]/\(∀ s∈L,Sq s)/\L.length=L1.length + done.length) xs [some (.list (ns.map .int)),some (.list [.int b.1,.int b.2.1,.int b.2.2]),some (.int (zy ns 0)),some (.list (cs.map eS)),some (.list (L1.map eS)),o5,none,none] ⟨L1,none,rfl,hq1,by simp⟩ (by
   rintro x hx done ρ hdl ⟨L,o6,rfl,hq,hz⟩
   obtain ⟨s,ea,hs⟩:=qhU hb hJ.ne hl hbd x
   have hz9:(L.map eS).length < 1000:=by rw [List.length_map];omega
   refine ⟨[some (.list (ns.map .int)),some (.list [.int b.1,.int b.2.1,.int b.2.2]),some (.int (zy ns 0)),some (.list (cs.map eS)),some (.list ((L ++ [s]).map eS)),o5,some (.int x),none],?_,L ++ [s],some (.int x),rfl,fun t ht=>(List.mem_append.mp ht).elim (hq t) fun z=>by rw [List.mem_singleton] at z;rw [z];exact hs,by rw [List.length_append,List.length_append,List.length_singleton,List.length_singleton];omega⟩
   simp_arith [ea,hz9]
   rw [List.map_append]
   rfl)
 obtain ⟨ρ3,e3,o7,rfl⟩:=Zg eS (g:=gNm 7) (u:=(sIf (tN (tV (evC 2 (aC (vr 3) (aC (vr 7) aN)) zR))) (sRet (kd (.bool false))) sN))
  (fun done ρ=>∃ o7:Option PyData,ρ=[some (.list (ns.map .int)),some (.list [.int b.1,.int b.2.1,.int b.2.2]),some (.int (zy ns 0)),some (.list (cs.map eS)),some (.list (L2'.map eS)),o5,o6,o7]) L2' [some (.list (ns.map .int)),some (.list [.int b.1,.int b.2.1,.int b.2.2]),some (.int (zy ns 0)),some (.list (cs.map eS)),some (.list (L2'.map eS)),o5,o6,none] ⟨none,rfl⟩ (by
   rintro s hs done ρ hdl ⟨o7,rfl⟩
   have hr:=qjq hJ.nd hb hl (hq2 s hs)
   refine ⟨_,?_,some (eS s),rfl⟩
   simp_arith [hr])
 have c0:=cell_eq ns 0 (by decide)
 have c1:=cell_eq ns 1 (by decide)
 have c2:=cell_eq ns 2 (by decide)
 have c3:=cell_eq ns 3 (by decide)
 simp only [qd5,qhL]
 simp_arith [c0,c1,c2,c3,hbase,em,hmul,esd,e1,ex,e2,e3]
theorem qe6:∀ ns:List Int,ns.length <= 63->(∀ k∈ns,Builtin.Int.intBits k <= 2 ^ 20)->qd5 [.list (ns.map .int)]=some (.bool true):=fun ns _ _=>qiI ns
end SF
namespace SF
open PySem L2
theorem qj6 {l:PySem.W.OpenLaw} {w:World} {K:PySem.W.Frag} {h:Heap} {mg:Str->Option Value} {fa f0 f1 f2 f3 f4 f5 f6 f7 f8 f9 f10 f11 f12 f13 f14 f15 f16 f17 f18 f19 f20:Addr} (X:K.In h) (G:h.Ns mainGlobals mg) (hfa:mg "law" = some (.ref fa))
  {od0 an0 od1 an1 od2 an2 od3 an3 od4 an4 od5 an5 od6 an6 od7 an7 od8 an8 od9 an9 od10 an10 od11 an11 od12 an12 od13 an13 od14 an14 od15 an15 od16 an16 od17 an17 od18 an18 od19 an19 od20 an20:Option Addr} {sl0 sl1 sl2 sl3 sl4 sl5 sl6 sl7 sl8 sl9 sl10 sl11 sl12 sl13 sl14 sl15 sl16 sl17 sl18 sl19 sl20:Array (Option Value)} {oc0 kV0 dc0 pm0 cd0 ct0 oc1 kV1 dc1 pm1 cd1 ct1 oc2 kV2 dc2 pm2 cd2 ct2 oc3 kV3 dc3 pm3 cd3 ct3 oc4 kV4 dc4 pm4 cd4 ct4 oc5 kV5 dc5 pm5 cd5 ct5 oc6 kV6 dc6 pm6 cd6 ct6 oc7 kV7 dc7 pm7 cd7 ct7 oc8 kV8 dc8 pm8 cd8 ct8 oc9 kV9 dc9 pm9 cd9 ct9 oc10 kV10 dc10 pm10 cd10 ct10 oc11 kV11 dc11 pm11 cd11 ct11 oc12 kV12 dc12 pm12 cd12 ct12 oc13 kV13 dc13 pm13 cd13 ct13 oc14 kV14 dc14 pm14 cd14 ct14 oc15 kV15 dc15 pm15 cd15 ct15 oc16 kV16 dc16 pm16 cd16 ct16 oc17 kV17 dc17 pm17 cd17 ct17 oc18 kV18 dc18 pm18 cd18 ct18 oc19 kV19 dc19 pm19 cd19 ct19 oc20 kV20 dc20 pm20 cd20 ct20:Value}
  (a0:PySem.W.nsIn K mainGlobals "added" = some (some (.ref f0))) (l0:K.lookup f0=some ⟨oc0,od0,.func (PySem.W.fnOf "added" "added" (qY Ze) (qJ Ze) (qb Ze) .none kV0 dc0 pm0 an0 cd0 ct0),sl0⟩) (c0:PySem.W.codeIn K cd0 "added" = true) (k0:PySem.W.keepIn K (.ref f0)=true)
  (a1:PySem.W.nsIn K mainGlobals "negated" = some (some (.ref f1))) (l1:K.lookup f1=some ⟨oc1,od1,.func (PySem.W.fnOf "negated" "negated" (qY QF) (qJ QF) (qb QF) .none kV1 dc1 pm1 an1 cd1 ct1),sl1⟩) (c1:PySem.W.codeIn K cd1 "negated" = true) (k1:PySem.W.keepIn K (.ref f1)=true)
  (a2:PySem.W.nsIn K mainGlobals "axis_of" = some (some (.ref f2))) (l2:K.lookup f2=some ⟨oc2,od2,.func (PySem.W.fnOf "axis_of" "axis_of" (qY Qk) (qJ Qk) (qb Qk) .none kV2 dc2 pm2 an2 cd2 ct2),sl2⟩) (c2:PySem.W.codeIn K cd2 "axis_of" = true) (k2:PySem.W.keepIn K (.ref f2)=true)
  (a3:PySem.W.nsIn K mainGlobals "middle_of" = some (some (.ref f3))) (l3:K.lookup f3=some ⟨oc3,od3,.func (PySem.W.fnOf "middle_of" "middle_of" (qY zQ) (qJ zQ) (qb zQ) .none kV3 dc3 pm3 an3 cd3 ct3),sl3⟩) (c3:PySem.W.codeIn K cd3 "middle_of" = true) (k3:PySem.W.keepIn K (.ref f3)=true)
  (a4:PySem.W.nsIn K mainGlobals "cube_of" = some (some (.ref f4))) (l4:K.lookup f4=some ⟨oc4,od4,.func (PySem.W.fnOf "cube_of" "cube_of" (qY QD) (qJ QD) (qb QD) .none kV4 dc4 pm4 an4 cd4 ct4),sl4⟩) (c4:PySem.W.codeIn K cd4 "cube_of" = true) (k4:PySem.W.keepIn K (.ref f4)=true)
  (a5:PySem.W.nsIn K mainGlobals "cubes_at" = some (some (.ref f5))) (l5:K.lookup f5=some ⟨oc5,od5,.func (PySem.W.fnOf "cubes_at" "cubes_at" (qY qK) (qJ qK) (qb qK) .none kV5 dc5 pm5 an5 cd5 ct5),sl5⟩) (c5:PySem.W.codeIn K cd5 "cubes_at" = true) (k5:PySem.W.keepIn K (.ref f5)=true)
  (a6:PySem.W.nsIn K mainGlobals "skin_of" = some (some (.ref f6))) (l6:K.lookup f6=some ⟨oc6,od6,.func (PySem.W.fnOf "skin_of" "skin_of" (qY qN) (qJ qN) (qb qN) .none kV6 dc6 pm6 an6 cd6 ct6),sl6⟩) (c6:PySem.W.codeIn K cd6 "skin_of" = true) (k6:PySem.W.keepIn K (.ref f6)=true)
  (a7:PySem.W.nsIn K mainGlobals "outward_from" = some (some (.ref f7))) (l7:K.lookup f7=some ⟨oc7,od7,.func (PySem.W.fnOf "outward_from" "outward_from" (qY qx) (qJ qx) (qb qx) .none kV7 dc7 pm7 an7 cd7 ct7),sl7⟩) (c7:PySem.W.codeIn K cd7 "outward_from" = true) (k7:PySem.W.keepIn K (.ref f7)=true)
  (a8:PySem.W.nsIn K mainGlobals "_law_cell_at" = some (some (.ref f8))) (l8:K.lookup f8=some ⟨oc8,od8,.func (PySem.W.fnOf "_law_cell_at" "_law_cell_at" (qY qW) (qJ qW) (qb qW) .none kV8 dc8 pm8 an8 cd8 ct8),sl8⟩) (c8:PySem.W.codeIn K cd8 "_law_cell_at" = true) (k8:PySem.W.keepIn K (.ref f8)=true)
  (a9:PySem.W.nsIn K mainGlobals "_law_whole" = some (some (.ref f9))) (l9:K.lookup f9=some ⟨oc9,od9,.func (PySem.W.fnOf "_law_whole" "_law_whole" (qY qT) (qJ qT) (qb qT) .none kV9 dc9 pm9 an9 cd9 ct9),sl9⟩) (c9:PySem.W.codeIn K cd9 "_law_whole" = true) (k9:PySem.W.keepIn K (.ref f9)=true)
  (a10:PySem.W.nsIn K mainGlobals "_law_spots" = some (some (.ref f10))) (l10:K.lookup f10=some ⟨oc10,od10,.func (PySem.W.fnOf "_law_spots" "_law_spots" (qY qF) (qJ qF) (qb qF) .none kV10 dc10 pm10 an10 cd10 ct10),sl10⟩) (c10:PySem.W.codeIn K cd10 "_law_spots" = true) (k10:PySem.W.keepIn K (.ref f10)=true)
  (a11:PySem.W.nsIn K mainGlobals "_law_base" = some (some (.ref f11))) (l11:K.lookup f11=some ⟨oc11,od11,.func (PySem.W.fnOf "_law_base" "_law_base" (qY zb) (qJ zb) (qb zb) .none kV11 dc11 pm11 an11 cd11 ct11),sl11⟩) (c11:PySem.W.codeIn K cd11 "_law_base" = true) (k11:PySem.W.keepIn K (.ref f11)=true)
  (a12:PySem.W.nsIn K mainGlobals "_law_solid" = some (some (.ref f12))) (l12:K.lookup f12=some ⟨oc12,od12,.func (PySem.W.fnOf "_law_solid" "_law_solid" (qY qp) (qJ qp) (qb qp) .none kV12 dc12 pm12 an12 cd12 ct12),sl12⟩) (c12:PySem.W.codeIn K cd12 "_law_solid" = true) (k12:PySem.W.keepIn K (.ref f12)=true)
  (a13:PySem.W.nsIn K mainGlobals "_law_near" = some (some (.ref f13))) (l13:K.lookup f13=some ⟨oc13,od13,.func (PySem.W.fnOf "_law_near" "_law_near" (qY qG) (qJ qG) (qb qG) .none kV13 dc13 pm13 an13 cd13 ct13),sl13⟩) (c13:PySem.W.codeIn K cd13 "_law_near" = true) (k13:PySem.W.keepIn K (.ref f13)=true)
  (a14:PySem.W.nsIn K mainGlobals "_law_kinds" = some (some (.ref f14))) (l14:K.lookup f14=some ⟨oc14,od14,.func (PySem.W.fnOf "_law_kinds" "_law_kinds" (qY ql) (qJ ql) (qb ql) .none kV14 dc14 pm14 an14 cd14 ct14),sl14⟩) (c14:PySem.W.codeIn K cd14 "_law_kinds" = true) (k14:PySem.W.keepIn K (.ref f14)=true)
  (a15:PySem.W.nsIn K mainGlobals "_law_due" = some (some (.ref f15))) (l15:K.lookup f15=some ⟨oc15,od15,.func (PySem.W.fnOf "_law_due" "_law_due" (qY qL) (qJ qL) (qb qL) .none kV15 dc15 pm15 an15 cd15 ct15),sl15⟩) (c15:PySem.W.codeIn K cd15 "_law_due" = true) (k15:PySem.W.keepIn K (.ref f15)=true)
  (a16:PySem.W.nsIn K mainGlobals "_law_asked" = some (some (.ref f16))) (l16:K.lookup f16=some ⟨oc16,od16,.func (PySem.W.fnOf "_law_asked" "_law_asked" (qY qu) (qJ qu) (qb qu) .none kV16 dc16 pm16 an16 cd16 ct16),sl16⟩) (c16:PySem.W.codeIn K cd16 "_law_asked" = true) (k16:PySem.W.keepIn K (.ref f16)=true)
  (a17:PySem.W.nsIn K mainGlobals "outward" = some (some (.ref f17))) (l17:K.lookup f17=some ⟨oc17,od17,.func (PySem.W.fnOf "outward" "outward" (qY qZ) (qJ qZ) (qb qZ) .none kV17 dc17 pm17 an17 cd17 ct17),sl17⟩) (c17:PySem.W.codeIn K cd17 "outward" = true) (k17:PySem.W.keepIn K (.ref f17)=true)
  (a18:PySem.W.nsIn K mainGlobals "_law_refused" = some (some (.ref f18))) (l18:K.lookup f18=some ⟨oc18,od18,.func (PySem.W.fnOf "_law_refused" "_law_refused" (qY qw) (qJ qw) (qb qw) .none kV18 dc18 pm18 an18 cd18 ct18),sl18⟩) (c18:PySem.W.codeIn K cd18 "_law_refused" = true) (k18:PySem.W.keepIn K (.ref f18)=true)
  (a19:PySem.W.nsIn K mainGlobals "_law_right" = some (some (.ref f19))) (l19:K.lookup f19=some ⟨oc19,od19,.func (PySem.W.fnOf "_law_right" "_law_right" (qY qy) (qJ qy) (qb qy) .none kV19 dc19 pm19 an19 cd19 ct19),sl19⟩) (c19:PySem.W.codeIn K cd19 "_law_right" = true) (k19:PySem.W.keepIn K (.ref f19)=true)
  (a20:PySem.W.nsIn K mainGlobals "law" = some (some (.ref f20))) (l20:K.lookup f20=some ⟨oc20,od20,.func (PySem.W.fnOf "law" "law" (qY za) (qJ za) (qb za) .none kV20 dc20 pm20 an20 cd20 ct20),sl20⟩) (c20:PySem.W.codeIn K cd20 "law" = true) (k20:PySem.W.keepIn K (.ref f20)=true)
  (z0:PySem.W.nsIn K mainGlobals "enumerate" = some none)
  (z1:PySem.W.nsIn K mainGlobals "sorted" = some none)
  (z2:PySem.W.nsIn K mainGlobals "len" = some none)
  (z3:PySem.W.nsIn K mainGlobals "isinstance" = some none)
  (z4:PySem.W.nsIn K mainGlobals "int" = some none)
  (z5:PySem.W.nsIn K mainGlobals "bool" = some none)
  (z6:PySem.W.nsIn K mainGlobals "list" = some none)
  (z7:PySem.W.nsIn K mainGlobals "tuple" = some none)
  (z8:PySem.W.nsIn K mainGlobals "range" = some none)
  (z9:PySem.W.nsIn K mainGlobals "ValueError" = some none)
  (z10:PySem.W.nsIn K mainGlobals "abs" = some none)
  (xt:xtB K XS=true) (e_NoSquare:qct K "NoSquare" = true)
  {kc0_a0:Addr}
  {kc0_d0:Option Addr}
  {kc0_n0:Nat}
  {kc0_s0:Array (Option Value)}
  {kc0_a4:Addr}
  {kc0_d4:Option Addr}
  {kc0_n4:Nat}
  {kc0_s4:Array (Option Value)}
  {kc0_t8:Tok}
  {kc0_t9:Tok}
  {kc0_t10:Tok}
  {kc0_a11:Addr}
  {kc0_d11:Option Addr}
  {kc0_n11:Nat}
  {kc0_s11:Array (Option Value)}
  {kc0_t15:Tok}
  {kc0_t16:Tok}
  {kc0_t17:Tok}
  {kc0_a18:Addr}
  {kc0_d18:Option Addr}
  {kc0_n18:Nat}
  {kc0_s18:Array (Option Value)}
  {kc0_t22:Tok}
  {kc0_t23:Tok}
  {kc0_t24:Tok}
  {kc0_a25:Addr}
  {kc0_d25:Option Addr}
  {kc0_n25:Nat}
  {kc0_s25:Array (Option Value)}
  {kc0_t29:Tok}
  {kc0_t30:Tok}
  {kc0_t31:Tok}
  {kc0_a32:Addr}
  {kc0_d32:Option Addr}
  {kc0_n32:Nat}
  {kc0_s32:Array (Option Value)}
  {kc0_t36:Tok}
  {kc0_t37:Tok}
  {kc0_t38:Tok}
  {kc0_a39:Addr}
  {kc0_d39:Option Addr}
  {kc0_n39:Nat}
  {kc0_s39:Array (Option Value)}
  {kc0_t43:Tok}
  {kc0_t44:Tok}
  {kc0_t45:Tok}
  (kc0:PySem.W.nsIn K mainGlobals "UNITS" = some (some (.ref kc0_a0)))
  (kc0_h0:K.lookup kc0_a0=some ⟨.type "tuple", kc0_d0,.seq #[(.ref kc0_a4),(.ref kc0_a11),(.ref kc0_a18),(.ref kc0_a25),(.ref kc0_a32),(.ref kc0_a39)] kc0_n0,kc0_s0⟩)
  (kc0_h4:K.lookup kc0_a4=some ⟨.type "tuple", kc0_d4,.seq #[(.int (-1) kc0_t8),(.int (0) kc0_t9),(.int (0) kc0_t10)] kc0_n4,kc0_s4⟩)
  (kc0_h11:K.lookup kc0_a11=some ⟨.type "tuple", kc0_d11,.seq #[(.int (0) kc0_t15),(.int (-1) kc0_t16),(.int (0) kc0_t17)] kc0_n11,kc0_s11⟩)
  (kc0_h18:K.lookup kc0_a18=some ⟨.type "tuple", kc0_d18,.seq #[(.int (0) kc0_t22),(.int (0) kc0_t23),(.int (-1) kc0_t24)] kc0_n18,kc0_s18⟩)
  (kc0_h25:K.lookup kc0_a25=some ⟨.type "tuple", kc0_d25,.seq #[(.int (0) kc0_t29),(.int (0) kc0_t30),(.int (1) kc0_t31)] kc0_n25,kc0_s25⟩)
  (kc0_h32:K.lookup kc0_a32=some ⟨.type "tuple", kc0_d32,.seq #[(.int (0) kc0_t36),(.int (1) kc0_t37),(.int (0) kc0_t38)] kc0_n32,kc0_s32⟩)
  (kc0_h39:K.lookup kc0_a39=some ⟨.type "tuple", kc0_d39,.seq #[(.int (1) kc0_t43),(.int (0) kc0_t44),(.int (0) kc0_t45)] kc0_n39,kc0_s39⟩)
  : ∃ fd:FuncData,(∀ (s:Shared) (v:Value),BindsTo s fd ⟨[v],[]⟩ [("_law_script", v)])/\∀ base:Heap,K.In base->base.Ns mainGlobals mg->FnOk l.prog w K mg base CX0 7 fa fd ["_law_script"] (qdD K 63):=by
 have e:=hfa.symm.trans (PySem.W.mg_of X G a20)
 cases e
 have F0:=zK (st:=Ze) l0 c0 k0
 have b0:=F0.binds (ps:=["one", "other"]) fun _ _ _ _ _ _ us hl=>match us,hl with | [_,_],_=>rfl
 have F1:=zK (st:=QF) l1 c1 k1
 have b1:=F1.binds (ps:=["spot"]) fun _ _ _ _ _ _ us hl=>match us,hl with | [_],_=>rfl
 have F2:=zK (st:=Qk) l2 c2 k2
 have b2:=F2.binds (ps:=["square"]) fun _ _ _ _ _ _ us hl=>match us,hl with | [_],_=>rfl
 have F3:=zK (st:=zQ) l3 c3 k3
 have b3:=F3.binds (ps:=["cube"]) fun _ _ _ _ _ _ us hl=>match us,hl with | [_],_=>rfl
 have F4:=zK (st:=QD) l4 c4 k4
 have b4:=F4.binds (ps:=["spot"]) fun _ _ _ _ _ _ us hl=>match us,hl with | [_],_=>rfl
 have F5:=zK (st:=qK) l5 c5 k5
 have b5:=F5.binds (ps:=["square"]) fun _ _ _ _ _ _ us hl=>match us,hl with | [_],_=>rfl
 have F6:=zK (st:=qN) l6 c6 k6
 have b6:=F6.binds (ps:=["cubes"]) fun _ _ _ _ _ _ us hl=>match us,hl with | [_],_=>rfl
 have F7:=zK (st:=qx) l7 c7 k7
 have b7:=F7.binds (ps:=["solid", "square"]) fun _ _ _ _ _ _ us hl=>match us,hl with | [_,_],_=>rfl
 have F8:=zK (st:=qW) l8 c8 k8
 have b8:=F8.binds (ps:=["_law_script", "_law_k"]) fun _ _ _ _ _ _ us hl=>match us,hl with | [_,_],_=>rfl
 have F9:=zK (st:=qT) l9 c9 k9
 have b9:=F9.binds (ps:=["_law_found"]) fun _ _ _ _ _ _ us hl=>match us,hl with | [_],_=>rfl
 have F10:=zK (st:=qF) l10 c10 k10
 have b10:=F10.binds (ps:=["_law_found"]) fun _ _ _ _ _ _ us hl=>match us,hl with | [_],_=>rfl
 have F11:=zK (st:=zb) l11 c11 k11
 have b11:=F11.binds (ps:=["_law_cells"]) fun _ _ _ _ _ _ us hl=>match us,hl with | [_],_=>rfl
 have F12:=zK (st:=qp) l12 c12 k12
 have b12:=F12.binds (ps:=["_law_cells", "_law_base_here", "_law_kind"]) fun _ _ _ _ _ _ us hl=>match us,hl with | [_,_,_],_=>rfl
 have F13:=zK (st:=qG) l13 c13 k13
 have b13:=F13.binds (ps:=["_law_spot", "_law_axes"]) fun _ _ _ _ _ _ us hl=>match us,hl with | [_,_],_=>rfl
 have F14:=zK (st:=ql) l14 c14 k14
 have b14:=F14.binds (ps:=["_law_e"]) fun _ _ _ _ _ _ us hl=>match us,hl with | [_],_=>rfl
 have F15:=zK (st:=qL) l15 c15 k15
 have b15:=F15.binds (ps:=["_law_solid_here", "_law_square"]) fun _ _ _ _ _ _ us hl=>match us,hl with | [_,_],_=>rfl
 have F16:=zK (st:=qu) l16 c16 k16
 have b16:=F16.binds (ps:=["_law_cell", "_law_solid_here", "_law_base_here"]) fun _ _ _ _ _ _ us hl=>match us,hl with | [_,_,_],_=>rfl
 have F17:=zK (st:=qZ) l17 c17 k17
 have b17:=F17.binds (ps:=["solid", "square"]) fun _ _ _ _ _ _ us hl=>match us,hl with | [_,_],_=>rfl
 have F18:=zK (st:=qw) l18 c18 k18
 have b18:=F18.binds (ps:=["_law_solid_here", "_law_square"]) fun _ _ _ _ _ _ us hl=>match us,hl with | [_,_],_=>rfl
 have F19:=zK (st:=qy) l19 c19 k19
 have b19:=F19.binds (ps:=["_law_solid_here", "_law_square"]) fun _ _ _ _ _ _ us hl=>match us,hl with | [_,_],_=>rfl
 have F20:=zK (st:=za) l20 c20 k20
 have z_enumerate:=PySem.W.mg_none_of X G z0
 have z_sorted:=PySem.W.mg_none_of X G z1
 have z_len:=PySem.W.mg_none_of X G z2
 have z_isinstance:=PySem.W.mg_none_of X G z3
 have z_int:=PySem.W.mg_none_of X G z4
 have z_bool:=PySem.W.mg_none_of X G z5
 have z_list:=PySem.W.mg_none_of X G z6
 have z_tuple:=PySem.W.mg_none_of X G z7
 have z_range:=PySem.W.mg_none_of X G z8
 have z_ValueError:=PySem.W.mg_none_of X G z9
 have z_abs:=PySem.W.mg_none_of X G z10
 have XT:=qjK X G xt
 have C_UNITS:qc9 K mg "UNITS" yz:=⟨(.ref kc0_a0),(.ref kc0_a0),PySem.W.mg_of X G kc0,rfl,fun H S=>(.tuple (xs:=[(.ref kc0_a4),(.ref kc0_a11),(.ref kc0_a18),(.ref kc0_a25),(.ref kc0_a32),(.ref kc0_a39)]) (.inr ⟨_,_,_,kc0_h0,rfl,rfl,(show 6 <= sizeLine by decide),(.cons rfl (.cons rfl (.cons rfl (.cons rfl (.cons rfl (.cons rfl .nil))))))⟩) (.cons (.tuple (xs:=[(.int (-1)),(.int (0)),(.int (0))]) (.inr ⟨_,_,_,kc0_h4,rfl,rfl,(show 3 <= sizeLine by decide),(.cons ⟨_,rfl⟩ (.cons ⟨_,rfl⟩ (.cons ⟨_,rfl⟩ .nil)))⟩) (.cons (.int (-1)) (.cons (.int (0)) (.cons (.int (0)) .nil)))) (.cons (.tuple (xs:=[(.int (0)),(.int (-1)),(.int (0))]) (.inr ⟨_,_,_,kc0_h11,rfl,rfl,(show 3 <= sizeLine by decide),(.cons ⟨_,rfl⟩ (.cons ⟨_,rfl⟩ (.cons ⟨_,rfl⟩ .nil)))⟩) (.cons (.int (0)) (.cons (.int (-1)) (.cons (.int (0)) .nil)))) (.cons (.tuple (xs:=[(.int (0)),(.int (0)),(.int (-1))]) (.inr ⟨_,_,_,kc0_h18,rfl,rfl,(show 3 <= sizeLine by decide),(.cons ⟨_,rfl⟩ (.cons ⟨_,rfl⟩ (.cons ⟨_,rfl⟩ .nil)))⟩) (.cons (.int (0)) (.cons (.int (0)) (.cons (.int (-1)) .nil)))) (.cons (.tuple (xs:=[(.int (0)),(.int (0)),(.int (1))]) (.inr ⟨_,_,_,kc0_h25,rfl,rfl,(show 3 <= sizeLine by decide),(.cons ⟨_,rfl⟩ (.cons ⟨_,rfl⟩ (.cons ⟨_,rfl⟩ .nil)))⟩) (.cons (.int (0)) (.cons (.int (0)) (.cons (.int (1)) .nil)))) (.cons (.tuple (xs:=[(.int (0)),(.int (1)),(.int (0))]) (.inr ⟨_,_,_,kc0_h32,rfl,rfl,(show 3 <= sizeLine by decide),(.cons ⟨_,rfl⟩ (.cons ⟨_,rfl⟩ (.cons ⟨_,rfl⟩ .nil)))⟩) (.cons (.int (0)) (.cons (.int (1)) (.cons (.int (0)) .nil)))) (.cons (.tuple (xs:=[(.int (1)),(.int (0)),(.int (0))]) (.inr ⟨_,_,_,kc0_h39,rfl,rfl,(show 3 <= sizeLine by decide),(.cons ⟨_,rfl⟩ (.cons ⟨_,rfl⟩ (.cons ⟨_,rfl⟩ .nil)))⟩) (.cons (.int (1)) (.cons (.int (0)) (.cons (.int (0)) .nil)))) .nil)))))))⟩
 refine ⟨PySem.W.fnOf "law" "law" (qY za) (qJ za) (qb za) .none kV20 dc20 pm20 an20 cd20 ct20,fun s v=>.of_eq rfl,fun base _ _=>?_⟩
 have b20:=F20.binds (ps:=["_law_script"]) fun _ _ _ _ _ _ us hl=>match us,hl with | [_],_=>rfl
 have K_added:=qiA (P:=l.prog) (w:=w) (base:=base) F0 (PySem.W.mg_of X G a0) b0
 have K_negated:=qe2 (P:=l.prog) (w:=w) (base:=base) F1 (PySem.W.mg_of X G a1) b1
 have K_axis_of:=qe0 (P:=l.prog) (w:=w) (base:=base) F2 (PySem.W.mg_of X G a2) b2
 have K_middle_of:=qcF (P:=l.prog) (w:=w) (base:=base) F3 (PySem.W.mg_of X G a3) b3
 have K_cube_of:=qe1 (P:=l.prog) (w:=w) (base:=base) F4 (PySem.W.mg_of X G a4) b4
 have K_cubes_at:=qdk (P:=l.prog) (w:=w) (base:=base) F5 (PySem.W.mg_of X G a5) b5 K_axis_of K_cube_of z_enumerate
 have K_skin_of:=qe4 (P:=l.prog) (w:=w) (base:=base) F6 (PySem.W.mg_of X G a6) b6 K_added K_middle_of z_sorted C_UNITS
 have K_outward_from:=WL (P:=l.prog) (w:=w) (base:=base) F7 (PySem.W.mg_of X G a7) b7 K_cubes_at K_added K_negated K_middle_of
 have K__law_cell_at:=WF (P:=l.prog) (w:=w) (base:=base) F8 (PySem.W.mg_of X G a8) b8 z_len
 have K__law_whole:=qbE (P:=l.prog) (w:=w) (base:=base) F9 (PySem.W.mg_of X G a9) b9 z_isinstance z_int z_bool
 have K__law_spots:=qbD (P:=l.prog) (w:=w) (base:=base) F10 (PySem.W.mg_of X G a10) b10 K__law_whole z_isinstance z_list z_tuple z_len
 have K__law_base:=qcD (P:=l.prog) (w:=w) (base:=base) F11 (PySem.W.mg_of X G a11) b11
 have K__law_solid:=qbC (P:=l.prog) (w:=w) (base:=base) F12 (PySem.W.mg_of X G a12) b12 z_tuple z_range z_list z_len z_sorted
 have K__law_near:=qcE (P:=l.prog) (w:=w) (base:=base) F13 (PySem.W.mg_of X G a13) b13 z_list z_tuple z_sorted
 have K__law_kinds:=qbA (P:=l.prog) (w:=w) (base:=base) F14 (PySem.W.mg_of X G a14) b14 z_isinstance z_ValueError XT
 have K__law_due:=qdj (P:=l.prog) (w:=w) (base:=base) F15 (PySem.W.mg_of X G a15) b15 z_abs
 have K__law_asked:=qbz (P:=l.prog) (w:=w) (base:=base) F16 (PySem.W.mg_of X G a16) b16 K__law_near z_len z_range z_tuple
 have K_outward:=qe3 (P:=l.prog) (w:=w) (base:=base) F17 (PySem.W.mg_of X G a17) b17 K_skin_of K_outward_from XT e_NoSquare
 have R_outward:=qfj (P:=l.prog) (w:=w) (base:=base) F17 (PySem.W.mg_of X G a17) b17 K_skin_of K_outward_from XT e_NoSquare
 have K__law_refused:=WK (P:=l.prog) (w:=w) (base:=base) F18 (PySem.W.mg_of X G a18) b18 K_outward K__law_kinds XT R_outward
 have K__law_right:=qbB (P:=l.prog) (w:=w) (base:=base) F19 (PySem.W.mg_of X G a19) b19 K__law_due K__law_refused K_outward K__law_spots z_list
 exact qgr (qkQ (P:=l.prog) (w:=w) (base:=base) F20 K__law_base K__law_cell_at K__law_solid K__law_near K__law_asked K__law_right) qe6
end SF
open PySem PySem.W PyProof.Rows
set_option maxRecDepth 100000 in
set_option maxHeartbeats 0 in
theorem PySem.Challenge.cw_sheetfold_k22_outward_holds : PySem.Challenge.rw_sheetfold_k22_outward.Holds := by
 w_on;o_law
 refine PySem.W.holds_open (q:=HD.vw) (YP:=(PySem.W.kHook HD.KH HD.kA HD.kE).says) HD.left (PySem.W.Hook.of _) (PySem.W.Hook.keeps _) (fun s e=>PySem.W.xl_of s (Bool.and_eq_true_iff.mp e).1) PySem.W.XL.keeps (by rfl) (by rfl) (by rfl) (fun s e=>PySem.W.recFacts_of (Bool.and_eq_true_iff.mp e).2) (by rfl) (by first | assumption | decide +kernel) (by decide +kernel) ⟨rfl,rfl,rfl,rfl,rfl,by decide +kernel⟩ ?hw ?hc
 case hw=>w_witness2
 k_fill
 refine L2.qfu (l:=PySem.Challenge.rw_sheetfold_k22_outward) (n:=63) (k:=7) (x := "_law_script") rfl (by decide) rfl ⟨rfl,by decide,by decide⟩ (fun w h Y=>PySem.W.kIn_of Y) ?F
 case F =>
  intro w mg fa h KX G hmg
  refine' SF.qj6 KX G hmg ?a0 ?l0 ?c0 ?k0 ?a1 ?l1 ?c1 ?k1 ?a2 ?l2 ?c2 ?k2 ?a3 ?l3 ?c3 ?k3 ?a4 ?l4 ?c4 ?k4 ?a5 ?l5 ?c5 ?k5 ?a6 ?l6 ?c6 ?k6 ?a7 ?l7 ?c7 ?k7 ?a8 ?l8 ?c8 ?k8 ?a9 ?l9 ?c9 ?k9 ?a10 ?l10 ?c10 ?k10 ?a11 ?l11 ?c11 ?k11 ?a12 ?l12 ?c12 ?k12 ?a13 ?l13 ?c13 ?k13 ?a14 ?l14 ?c14 ?k14 ?a15 ?l15 ?c15 ?k15 ?a16 ?l16 ?c16 ?k16 ?a17 ?l17 ?c17 ?k17 ?a18 ?l18 ?c18 ?k18 ?a19 ?l19 ?c19 ?k19 ?a20 ?l20 ?c20 ?k20 ?z0 ?z1 ?z2 ?z3 ?z4 ?z5 ?z6 ?z7 ?z8 ?z9 ?z10 ?xt ?e_NoSquare ?kc0 ?kc0_h0 ?kc0_h4 ?kc0_h11 ?kc0_h18 ?kc0_h25 ?kc0_h32 ?kc0_h39
  (case a0=>k_is);(case l0=>k_is);(case c0=>k_is);(case k0=>k_is)
  (case a1=>k_is);(case l1=>k_is);(case c1=>k_is);(case k1=>k_is)
  (case a2=>k_is);(case l2=>k_is);(case c2=>k_is);(case k2=>k_is)
  (case a3=>k_is);(case l3=>k_is);(case c3=>k_is);(case k3=>k_is)
  (case a4=>k_is);(case l4=>k_is);(case c4=>k_is);(case k4=>k_is)
  (case a5=>k_is);(case l5=>k_is);(case c5=>k_is);(case k5=>k_is)
  (case a6=>k_is);(case l6=>k_is);(case c6=>k_is);(case k6=>k_is)
  (case a7=>k_is);(case l7=>k_is);(case c7=>k_is);(case k7=>k_is)
  (case a8=>k_is);(case l8=>k_is);(case c8=>k_is);(case k8=>k_is)
  (case a9=>k_is);(case l9=>k_is);(case c9=>k_is);(case k9=>k_is)
  (case a10=>k_is);(case l10=>k_is);(case c10=>k_is);(case k10=>k_is)
  (case a11=>k_is);(case l11=>k_is);(case c11=>k_is);(case k11=>k_is)
  (case a12=>k_is);(case l12=>k_is);(case c12=>k_is);(case k12=>k_is)
  (case a13=>k_is);(case l13=>k_is);(case c13=>k_is);(case k13=>k_is)
  (case a14=>k_is);(case l14=>k_is);(case c14=>k_is);(case k14=>k_is)
  (case a15=>k_is);(case l15=>k_is);(case c15=>k_is);(case k15=>k_is)
  (case a16=>k_is);(case l16=>k_is);(case c16=>k_is);(case k16=>k_is)
  (case a17=>k_is);(case l17=>k_is);(case c17=>k_is);(case k17=>k_is)
  (case a18=>k_is);(case l18=>k_is);(case c18=>k_is);(case k18=>k_is)
  (case a19=>k_is);(case l19=>k_is);(case c19=>k_is);(case k19=>k_is)
  (case a20=>k_is);(case l20=>k_is);(case c20=>k_is);(case k20=>k_is)
  (case z0=>k_is)
  (case z1=>k_is)
  (case z2=>k_is)
  (case z3=>k_is)
  (case z4=>k_is)
  (case z5=>k_is)
  (case z6=>k_is)
  (case z7=>k_is)
  (case z8=>k_is)
  (case z9=>k_is)
  (case z10=>k_is)
  (case kc0=>k_is)
  (case kc0_h0=>k_is)
  (case kc0_h4=>k_is)
  (case kc0_h11=>k_is)
  (case kc0_h18=>k_is)
  (case kc0_h25=>k_is)
  (case kc0_h32=>k_is)
  (case kc0_h39=>k_is)
  (case xt=>kernel_rfl);(case e_NoSquare=>kernel_rfl)
