import PyProof.Rows.All
import Wide.All
import Open.Line
import OpenK.KWalk
import OpenK.Lit
import OpenK.KList
import Wide.FinOn
import PyProof.IsiTuple
import PyProof.ListRange
import PyProof.ListNew
import PyProof.Rows.DictUnroll
import PyProof.WalksMore
import PyProof.ReprLoop
import PyProof.FactsAll.list
import Lean
import PyProof.EqAt
import PyProof.EqKinds
import PyProof.TupleCall
import KE.KDictOf
import PySem.SetOps
import PyProof.Rows.SetFrom
import PyProof.CollectIter
import PyProof.Rows.SortShell
import PyProof.ExcArgsOwn
import PyProof.Rows.SortShellK
import PyProof.Rows.SortStr
import PySem.Challenge.RW_cutline_k12_whole_desk
set_option Elab.async false
set_option linter.all false
set_option maxRecDepth 100000
set_option maxHeartbeats 4000000
namespace Cut
open PySem
noncomputable def tTop (i:Nat):Stmt:=PySem.Challenge.pw_cutline_k12_whole_desk.main.body.getD i (.Pass ⟨0,0,0,0⟩)
noncomputable def tIn (s:Stmt) (j:Nat):Stmt:=match s with | .ClassDef _ _ _ body _ _ _ _ _ _ _=>body.getD j (.Pass ⟨0,0,0,0⟩)|_=>.Pass ⟨0,0,0,0⟩
noncomputable def tF (x y:Str) (s:Stmt) (m:Value) (c:Nat):Obj:=match s with | .FunctionDef _ a b _ _ _ sc _ _ _=>⟨.type "function",none,.func (PySem.W.fnOf x y a b sc .none .none .none m none (.ref c) .none),#[]⟩|_=>⟨.none,none,.freed,#[]⟩
noncomputable abbrev gE (x:Str) (t:Nat) (v:Value):Str×Nat×Value:=(x,t,v)
noncomputable abbrev kE (a:Nat) (o:Obj):Nat×Obj:=(a,o)
noncomputable def cO (x y:Str) (t ln ac a:Nat) (b c:Value) (d u:Nat):Obj:=⟨.type "code",none,.fields #[.str x t,.str y (t+1),.str "/claim/cut.py" (t+2),.int ln 0,.int ac 0,.int 0 0,.int 0 0,.int 3 0,.ref a,.bool true,.int 181 0,.ref (a+1),.none,b,c,.ref d,.int u 0,.int ln 0,.str "/claim/cut.py" (u+1)],#[]⟩
noncomputable def gO (P:Params) (n:Nat) (l:List (Str×Nat×Value)):Obj:=⟨.type "dict",none,.dict (l.map λe=>⟨PyData.keyHash P e.1,.str e.1 e.2.1,e.2.2⟩).toArray n,#[]⟩
noncomputable def c68:ClassData:=⟨"Line",[(.type "object")],[(.ref 68),(.type "object")],67,"Line",true,[],[],false,none,false⟩
noncomputable def c193:ClassData:=⟨"State",[(.type "object")],[(.ref 193),(.type "object")],192,"State",true,[],[],false,none,false⟩
noncomputable def c270:ClassData:=⟨"Desk",[(.type "object")],[(.ref 270),(.type "object")],269,"Desk",true,[],[],false,none,false⟩
noncomputable def c24:ClassData:=⟨"SpanError",[(.type "ValueError")],[(.ref 24),(.type "ValueError"),(.type "Exception"),(.type "BaseException"),(.type "object")],23,"SpanError",true,[],[(.ref 37),(.ref 49)],false,none,false⟩
noncomputable def c37:ClassData:=⟨"BadDeed",[(.ref 24)],[(.ref 37),(.ref 24),(.type "ValueError"),(.type "Exception"),(.type "BaseException"),(.type "object")],36,"BadDeed",true,[],[],false,none,false⟩
noncomputable def c49:ClassData:=⟨"NoDeed",[(.ref 24)],[(.ref 49),(.ref 24),(.type "ValueError"),(.type "Exception"),(.type "BaseException"),(.type "object")],48,"NoDeed",true,[],[],false,none,false⟩
noncomputable abbrev m0:Value:=(.str "cutline.lines" 239)
noncomputable abbrev m1:Value:=(.str "cutline.deeds" 309)
noncomputable abbrev m2:Value:=(.str "cutline.desk" 409)
noncomputable abbrev m3:Value:=(.str "law_cutline_k12_whole_desk" 539)
noncomputable def o3 (P:Params):Obj:=gO P 53 [gE "__name__" 165 (.str "law_cutline_k12_whole_desk" 539),gE "__doc__" 166 .none,gE "__package__" 167 .none,gE "__loader__" 168 (.builtin "__main__.__loader__#opaque"),gE "__spec__" 169 .none,gE "__annotations__" 170 (.ref 6),gE "__builtins__" 171 (.ref 4),gE "__file__" 173 (.str "/claim/cut.py" 172),gE "__cached__" 174 .none,gE "SpanError" 206 (.ref 24),gE "BadDeed" 222 (.ref 37),gE "NoDeed" 238 (.ref 49),gE "Line" 271 (.ref 68),gE "own_copy" 277 (.ref 77),gE "line_of" 291 (.ref 84),gE "empty_line" 297 (.ref 91),gE "cuts_up_to" 308 (.ref 98),gE "check_size" 317 (.ref 105),gE "check_times" 324 (.ref 112),gE "has_no_places" 332 (.ref 119),gE "put" 346 (.ref 126),gE "opened" 352 (.ref 131),gE "closed" 358 (.ref 136),gE "stretched" 364 (.ref 141),gE "done" 373 (.ref 148),gE "carried_by_opening" 382 (.ref 155),gE "carried_by_closing" 391 (.ref 162),gE "carried_by_stretching" 399 (.ref 169),gE "carried" 408 (.ref 176),gE "State" 441 (.ref 193),gE "with_mark" 451 (.ref 204),gE "behind_deed" 462 (.ref 211),gE "Desk" 538 (.ref 270),gE "_law_cell_at" 548 (.ref 281),gE "_law_names" 554 (.ref 286),gE "_law_deed" 566 (.ref 293),gE "_law_next" 576 (.ref 300),gE "_law_value" 586 (.ref 307),gE "_law_edges_behind" 592 (.ref 312),gE "_law_edges" 601 (.ref 319),gE "_law_due" 613 (.ref 326),gE "_law_whole" 620 (.ref 333),gE "_law_held" 628 (.ref 340),gE "_law_line" 637 (.ref 347),gE "_law_moved" 645 (.ref 354),gE "_law_marks" 655 (.ref 361),gE "_law_does" 664 (.ref 368),gE "_law_ill" 671 (.ref 375),gE "_law_none_alone" 681 (.ref 382),gE "_law_due_of" 691 (.ref 389),gE "_law_marks_right" 701 (.ref 396),gE "_law_stands" 707 (.ref 401),gE "law" 725 (.ref 408)]
noncomputable def o68:Obj:=⟨(.type "type"),none,.cls c68,#[none,none,(some (.str "Line" 241)),(some (.str "Line" 249)),(some (.builtin "object.__new__")),(some (.bool true))]⟩
noncomputable def o67 (P:Params):Obj:=gO P 4 [gE "__module__" 248 (.str "cutline.lines" 239),gE "__firstlineno__" 252 (.int 9 251),gE "__init__" 261 (.ref 65),gE "__static_attributes__" 264 (.ref 66),gE "__dict__" 266 (.ref 69),gE "__weakref__" 268 (.ref 70),gE "__doc__" 269 .none]
noncomputable def o64:Obj:=cO "__init__" "Line.__init__" 253 11 3 59 (.ref 61) (.ref 62) 63 259
noncomputable def o65:Obj:=tF "__init__" "Line.__init__" (tIn (tTop 5) 0) m0 64
noncomputable def o76:Obj:=cO "own_copy" "own_copy" 272 14 1 73 .none .none 75 275
noncomputable def o77:Obj:=tF "own_copy" "own_copy" (tTop 6) m0 76
noncomputable def o83:Obj:=cO "line_of" "line_of" 278 25 2 78 (.ref 80) (.ref 81) 82 289
noncomputable def o84:Obj:=tF "line_of" "line_of" (tTop 7) m0 83
noncomputable def o90:Obj:=cO "empty_line" "empty_line" 292 35 0 85 (.ref 87) (.ref 88) 89 295
noncomputable def o91:Obj:=tF "empty_line" "empty_line" (tTop 8) m0 90
noncomputable def o97:Obj:=cO "cuts_up_to" "cuts_up_to" 298 37 2 92 (.ref 94) (.ref 95) 96 306
noncomputable def o98:Obj:=tF "cuts_up_to" "cuts_up_to" (tTop 9) m0 97
noncomputable def o104:Obj:=cO "check_size" "check_size" 311 48 1 99 (.ref 101) (.ref 102) 103 315
noncomputable def o105:Obj:=tF "check_size" "check_size" (tTop 11) m1 104
noncomputable def o111:Obj:=cO "check_times" "check_times" 318 51 1 106 (.ref 108) (.ref 109) 110 322
noncomputable def o112:Obj:=tF "check_times" "check_times" (tTop 12) m1 111
noncomputable def o118:Obj:=cO "has_no_places" "has_no_places" 325 54 2 113 (.ref 115) (.ref 116) 117 330
noncomputable def o119:Obj:=tF "has_no_places" "has_no_places" (tTop 13) m1 118
noncomputable def o125:Obj:=cO "put" "put" 333 56 4 120 (.ref 122) (.ref 123) 124 344
noncomputable def o126:Obj:=tF "put" "put" (tTop 14) m1 125
noncomputable def o130:Obj:=cO "opened" "opened" 347 70 3 127 .none .none 129 350
noncomputable def o131:Obj:=tF "opened" "opened" (tTop 15) m1 130
noncomputable def o135:Obj:=cO "closed" "closed" 353 77 3 132 .none .none 134 356
noncomputable def o136:Obj:=tF "closed" "closed" (tTop 16) m1 135
noncomputable def o140:Obj:=cO "stretched" "stretched" 359 85 2 137 .none .none 139 362
noncomputable def o141:Obj:=tF "stretched" "stretched" (tTop 17) m1 140
noncomputable def o147:Obj:=cO "done" "done" 365 88 2 142 (.ref 144) (.ref 145) 146 371
noncomputable def o148:Obj:=tF "done" "done" (tTop 18) m1 147
noncomputable def o154:Obj:=cO "carried_by_opening" "carried_by_opening" 374 99 3 149 (.ref 151) (.ref 152) 153 380
noncomputable def o155:Obj:=tF "carried_by_opening" "carried_by_opening" (tTop 19) m1 154
noncomputable def o161:Obj:=cO "carried_by_closing" "carried_by_closing" 383 102 3 156 (.ref 158) (.ref 159) 160 389
noncomputable def o162:Obj:=tF "carried_by_closing" "carried_by_closing" (tTop 20) m1 161
noncomputable def o168:Obj:=cO "carried_by_stretching" "carried_by_stretching" 392 105 2 163 (.ref 165) (.ref 166) 167 397
noncomputable def o169:Obj:=tF "carried_by_stretching" "carried_by_stretching" (tTop 21) m1 168
noncomputable def o175:Obj:=cO "carried" "carried" 400 108 2 170 (.ref 172) (.ref 173) 174 406
noncomputable def o176:Obj:=tF "carried" "carried" (tTop 22) m1 175
noncomputable def o203:Obj:=cO "with_mark" "with_mark" 442 125 3 198 (.ref 200) (.ref 201) 202 449
noncomputable def o204:Obj:=tF "with_mark" "with_mark" (tTop 25) m2 203
noncomputable def o210:Obj:=cO "behind_deed" "behind_deed" 452 129 2 205 (.ref 207) (.ref 208) 209 460
noncomputable def o211:Obj:=tF "behind_deed" "behind_deed" (tTop 26) m2 210
noncomputable def o280:Obj:=cO "_law_cell_at" "_law_cell_at" 541 172 2 275 (.ref 277) (.ref 278) 279 546
noncomputable def o281:Obj:=tF "_law_cell_at" "_law_cell_at" (tTop 29) m3 280
noncomputable def o285:Obj:=cO "_law_names" "_law_names" 549 176 1 282 .none .none 284 552
noncomputable def o286:Obj:=tF "_law_names" "_law_names" (tTop 30) m3 285
noncomputable def o292:Obj:=cO "_law_deed" "_law_deed" 555 181 3 287 (.ref 289) (.ref 290) 291 564
noncomputable def o293:Obj:=tF "_law_deed" "_law_deed" (tTop 31) m3 292
noncomputable def o299:Obj:=cO "_law_next" "_law_next" 567 204 3 294 (.ref 296) (.ref 297) 298 574
noncomputable def o300:Obj:=tF "_law_next" "_law_next" (tTop 32) m3 299
noncomputable def o306:Obj:=cO "_law_value" "_law_value" 577 215 2 301 (.ref 303) (.ref 304) 305 584
noncomputable def o307:Obj:=tF "_law_value" "_law_value" (tTop 33) m3 306
noncomputable def o311:Obj:=cO "_law_edges_behind" "_law_edges_behind" 587 232 2 308 .none .none 310 590
noncomputable def o312:Obj:=tF "_law_edges_behind" "_law_edges_behind" (tTop 34) m3 311
noncomputable def o318:Obj:=cO "_law_edges" "_law_edges" 593 242 1 313 (.ref 315) (.ref 316) 317 599
noncomputable def o319:Obj:=tF "_law_edges" "_law_edges" (tTop 35) m3 318
noncomputable def o325:Obj:=cO "_law_due" "_law_due" 602 247 1 320 (.ref 322) (.ref 323) 324 611
noncomputable def o326:Obj:=tF "_law_due" "_law_due" (tTop 36) m3 325
noncomputable def o332:Obj:=cO "_law_whole" "_law_whole" 614 259 1 327 (.ref 329) (.ref 330) 331 618
noncomputable def o333:Obj:=tF "_law_whole" "_law_whole" (tTop 37) m3 332
noncomputable def o339:Obj:=cO "_law_held" "_law_held" 621 261 2 334 (.ref 336) (.ref 337) 338 626
noncomputable def o340:Obj:=tF "_law_held" "_law_held" (tTop 38) m3 339
noncomputable def o346:Obj:=cO "_law_line" "_law_line" 629 265 2 341 (.ref 343) (.ref 344) 345 635
noncomputable def o347:Obj:=tF "_law_line" "_law_line" (tTop 39) m3 346
noncomputable def o353:Obj:=cO "_law_moved" "_law_moved" 638 277 2 348 (.ref 350) (.ref 351) 352 643
noncomputable def o354:Obj:=tF "_law_moved" "_law_moved" (tTop 40) m3 353
noncomputable def o360:Obj:=cO "_law_marks" "_law_marks" 646 285 1 355 (.ref 357) (.ref 358) 359 653
noncomputable def o361:Obj:=tF "_law_marks" "_law_marks" (tTop 41) m3 360
noncomputable def o367:Obj:=cO "_law_does" "_law_does" 656 294 2 362 (.ref 364) (.ref 365) 366 662
noncomputable def o368:Obj:=tF "_law_does" "_law_does" (tTop 42) m3 367
noncomputable def o374:Obj:=cO "_law_ill" "_law_ill" 665 308 1 369 (.ref 371) (.ref 372) 373 669
noncomputable def o375:Obj:=tF "_law_ill" "_law_ill" (tTop 43) m3 374
noncomputable def o381:Obj:=cO "_law_none_alone" "_law_none_alone" 672 312 2 376 (.ref 378) (.ref 379) 380 679
noncomputable def o382:Obj:=tF "_law_none_alone" "_law_none_alone" (tTop 44) m3 381
noncomputable def o388:Obj:=cO "_law_due_of" "_law_due_of" 682 322 2 383 (.ref 385) (.ref 386) 387 689
noncomputable def o389:Obj:=tF "_law_due_of" "_law_due_of" (tTop 45) m3 388
noncomputable def o395:Obj:=cO "_law_marks_right" "_law_marks_right" 692 339 2 390 (.ref 392) (.ref 393) 394 699
noncomputable def o396:Obj:=tF "_law_marks_right" "_law_marks_right" (tTop 46) m3 395
noncomputable def o400:Obj:=cO "_law_stands" "_law_stands" 702 350 2 397 .none .none 399 705
noncomputable def o401:Obj:=tF "_law_stands" "_law_stands" (tTop 47) m3 400
noncomputable def o407:Obj:=cO "law" "law" 708 352 1 402 (.ref 404) (.ref 405) 406 723
noncomputable def o408:Obj:=tF "law" "law" (tTop 48) m3 407
noncomputable def o193:Obj:=⟨(.type "type"),none,.cls c193,#[none,none,(some (.str "State" 411)),(some (.str "State" 419)),(some (.builtin "object.__new__")),(some (.bool true))]⟩
noncomputable def o192 (P:Params):Obj:=gO P 4 [gE "__module__" 418 (.str "cutline.desk" 409),gE "__firstlineno__" 422 (.int 120 421),gE "__init__" 431 (.ref 190),gE "__static_attributes__" 434 (.ref 191),gE "__dict__" 436 (.ref 194),gE "__weakref__" 438 (.ref 195),gE "__doc__" 439 .none]
noncomputable def o189:Obj:=cO "__init__" "State.__init__" 423 122 3 184 (.ref 186) (.ref 187) 188 429
noncomputable def o190:Obj:=tF "__init__" "State.__init__" (tIn (tTop 24) 0) m2 189
noncomputable def o270:Obj:=⟨(.type "type"),none,.cls c270,#[none,none,(some (.str "Desk" 463)),(some (.str "Desk" 471)),(some (.builtin "object.__new__")),(some (.bool true))]⟩
noncomputable def o269 (P:Params):Obj:=gO P 4 [gE "__module__" 470 (.str "cutline.desk" 409),gE "__firstlineno__" 474 (.int 137 473),gE "__init__" 481 (.ref 225),gE "do" 490 (.ref 232),gE "undo" 497 (.ref 239),gE "redo" 504 (.ref 246),gE "line" 512 (.ref 253),gE "where" 520 (.ref 260),gE "names" 527 (.ref 267),gE "__static_attributes__" 531 (.ref 268),gE "__dict__" 533 (.ref 271),gE "__weakref__" 535 (.ref 272),gE "__doc__" 536 .none]
noncomputable def o224:Obj:=cO "__init__" "Desk.__init__" 475 139 1 219 (.ref 221) (.ref 222) 223 479
noncomputable def o225:Obj:=tF "__init__" "Desk.__init__" (tIn (tTop 27) 0) m2 224
noncomputable def o231:Obj:=cO "do" "Desk.do" 482 144 2 226 (.ref 228) (.ref 229) 230 488
noncomputable def o232:Obj:=tF "do" "Desk.do" (tIn (tTop 27) 1) m2 231
noncomputable def o238:Obj:=cO "undo" "Desk.undo" 491 150 1 233 (.ref 235) (.ref 236) 237 495
noncomputable def o239:Obj:=tF "undo" "Desk.undo" (tIn (tTop 27) 2) m2 238
noncomputable def o245:Obj:=cO "redo" "Desk.redo" 498 156 1 240 (.ref 242) (.ref 243) 244 502
noncomputable def o246:Obj:=tF "redo" "Desk.redo" (tIn (tTop 27) 3) m2 245
noncomputable def o252:Obj:=cO "line" "Desk.line" 505 162 1 247 (.ref 249) (.ref 250) 251 510
noncomputable def o253:Obj:=tF "line" "Desk.line" (tIn (tTop 27) 4) m2 252
noncomputable def o259:Obj:=cO "where" "Desk.where" 513 166 2 254 (.ref 256) (.ref 257) 258 518
noncomputable def o260:Obj:=tF "where" "Desk.where" (tIn (tTop 27) 5) m2 259
noncomputable def o266:Obj:=cO "names" "Desk.names" 521 169 1 261 (.ref 263) (.ref 264) 265 525
noncomputable def o267:Obj:=tF "names" "Desk.names" (tIn (tTop 27) 6) m2 266
noncomputable def o24:Obj:=⟨(.type "type"),none,.cls c24,#[(some (.ref 15)),none,(some (.str "SpanError" 189)),(some (.str "SpanError" 197)),(some (.builtin "ValueError.__new__")),(some (.bool true))]⟩
noncomputable def o23 (P:Params):Obj:=gO P 3 [gE "__module__" 196 (.str "cutline.errors" 187),gE "__firstlineno__" 200 (.int 2 199),gE "__static_attributes__" 201 (.ref 22),gE "__weakref__" 203 (.ref 25),gE "__doc__" 204 .none]
noncomputable def o37:Obj:=⟨(.type "type"),none,.cls c37,#[(some (.ref 28)),none,(some (.str "BadDeed" 207)),(some (.str "BadDeed" 215)),(some (.builtin "ValueError.__new__")),(some (.bool true))]⟩
noncomputable def o36 (P:Params):Obj:=gO P 2 [gE "__module__" 214 (.str "cutline.errors" 187),gE "__firstlineno__" 218 (.int 4 217),gE "__static_attributes__" 219 (.ref 35),gE "__doc__" 220 .none]
noncomputable def o49:Obj:=⟨(.type "type"),none,.cls c49,#[(some (.ref 40)),none,(some (.str "NoDeed" 223)),(some (.str "NoDeed" 231)),(some (.builtin "ValueError.__new__")),(some (.bool true))]⟩
noncomputable def o48 (P:Params):Obj:=gO P 2 [gE "__module__" 230 (.str "cutline.errors" 187),gE "__firstlineno__" 234 (.int 6 233),gE "__static_attributes__" 235 (.ref 47),gE "__doc__" 236 .none]
@[irreducible] noncomputable def Kx (P:Params):PySem.W.Frag:=[kE 3 (o3 P),kE 68 o68,kE 67 (o67 P),kE 64 o64,kE 65 o65,kE 76 o76,kE 77 o77,kE 83 o83,kE 84 o84,kE 90 o90,kE 91 o91,kE 97 o97,kE 98 o98,kE 104 o104,kE 105 o105,kE 111 o111,kE 112 o112,kE 118 o118,kE 119 o119,kE 125 o125,kE 126 o126,kE 130 o130,kE 131 o131,kE 135 o135,kE 136 o136,kE 140 o140,kE 141 o141,kE 147 o147,kE 148 o148,kE 154 o154,kE 155 o155,kE 161 o161,kE 162 o162,kE 168 o168,kE 169 o169,kE 175 o175,kE 176 o176,kE 203 o203,kE 204 o204,kE 210 o210,kE 211 o211,kE 280 o280,kE 281 o281,kE 285 o285,kE 286 o286,kE 292 o292,kE 293 o293,kE 299 o299,kE 300 o300,kE 306 o306,kE 307 o307,kE 311 o311,kE 312 o312,kE 318 o318,kE 319 o319,kE 325 o325,kE 326 o326,kE 332 o332,kE 333 o333,kE 339 o339,kE 340 o340,kE 346 o346,kE 347 o347,kE 353 o353,kE 354 o354,kE 360 o360,kE 361 o361,kE 367 o367,kE 368 o368,kE 374 o374,kE 375 o375,kE 381 o381,kE 382 o382,kE 388 o388,kE 389 o389,kE 395 o395,kE 396 o396,kE 400 o400,kE 401 o401,kE 407 o407,kE 408 o408,kE 193 o193,kE 192 (o192 P),kE 189 o189,kE 190 o190,kE 270 o270,kE 269 (o269 P),kE 224 o224,kE 225 o225,kE 231 o231,kE 232 o232,kE 238 o238,kE 239 o239,kE 245 o245,kE 246 o246,kE 252 o252,kE 253 o253,kE 259 o259,kE 260 o260,kE 266 o266,kE 267 o267,kE 24 o24,kE 23 (o23 P),kE 37 o37,kE 36 (o36 P),kE 49 o49,kE 48 (o48 P)]
theorem keepT {T G:Prop} (hc:T) (main:T->G):G:=main hc
end Cut
section
open PySem PySem.W PyProof.Rows
set_option maxRecDepth 100000 in
set_option maxHeartbeats 0 in
theorem Cut.topH (h:∀ {q:Program}{loose:List PySem.Str}{XP:(PySem.Str->Option Value)->Heap->Prop}{YP:World->Heap->Prop}{d:DefRec},d.params.defaults=[]->d.name="law"->(∀ (w:World) (h:Heap),YP w h->(Cut.Kx w.params).In h)->
  PySem.W.WalkO q loose XP YP (PySem.Challenge.rw_cutline_k12_whole_desk).row.toRowW d [] (λf vs=>PySem.call f vs)):PySem.Challenge.rw_cutline_k12_whole_desk.Holds:=by
 apply Cut.keepT
 case main=>
  intro _
  w_on;o_law;o_head (kHook Cut.Kx [3,68,67,64,65,76,77,83,84,90,91,97,98,104,105,111,112,118,119,125,126,130,131,135,136,140,141,147,148,154,155,161,162,168,169,175,176,203,204,210,211,280,281,285,286,292,293,299,300,306,307,311,312,318,319,325,326,332,333,339,340,346,347,353,354,360,361,367,368,374,375,381,382,388,389,395,396,400,401,407,408,193,192,189,190,270,269,224,225,231,232,238,239,245,246,252,253,259,260,266,267,24,23,37,36,49,48] (λ_=>by kernel_rfl));(case hw=>w_witness2)
 case hc=>exact h rfl rfl (λw h Y=>PySem.W.kIn_of Y)
end
namespace PySem.W
open PySem PySem.Spec PySem.Calls PyProof.Rows
theorem cellsFrom_some {x:Str} (names:List (Str×NameKind)):∀ (n:Nat) (acc:List (Str×Addr)),names.lookup x=some .cell∨(acc.lookup x).isSome=true->((cellsFrom n names acc).lookup x).isSome=true:=by
 induction names with
 |nil=>
  intro n acc h
  rcases h with z|z
  ·cases z
  ·exact z
 |cons p r ih=>
  obtain ⟨y,k⟩:=p
  intro n acc h
  have hx:List.lookup x ((y,k)::r)=if (x == y)=true then some k else List.lookup x r:=by
   rw [List.lookup_cons]
   cases x == y<;>rfl
  rw [hx] at h
  unfold cellsFrom
  split<;>rename_i c
  ·refine ih _ _ ?_
   have ha:List.lookup x ((y,n)::acc)=if (x == y)=true then some n else List.lookup x acc:=by
    rw [List.lookup_cons]
    cases x == y<;>rfl
   rw [ha]
   cases e:x == y
   ·rw [e] at h;exact h
   ·exact .inr rfl
  ·refine ih _ _ ?_
   cases e:x == y
   ·rw [e] at h;exact h
   ·rw [e] at h
    rcases h with z|z
    ·have z':k=.cell:=Option.some.inj z
     exact absurd (by rw [z'];rfl) c
    ·exact .inr z
theorem frames_hide {base h:Heap}{as:List Addr} (l:List Env):h.FunFrames base l->(∀ env∈l,∀ a,env.frame=some a->a∈as)->h.FunFrames (hideAll h as) l:=by
 induction l with
 |nil=>exact λ_ _=>trivial
 |cons env r ih=>
  rintro ⟨h1,⟨L,o,h2,_,h3,h4⟩,h5⟩ hin
  exact ⟨h1,⟨L,o,h2,hideAll_none _ (hin env List.mem_cons_self L h2),h3,h4⟩,ih h5 λe he=>hin e (List.mem_cons_of_mem _ he)⟩
end PySem.W
namespace PySem.W
open PySem PySem.Spec PySem.Calls PyProof.Rows
section
variable {prog:Program}{w:World}{A:Around}{E:Value->Shared->Prop}{s:Shared}{n:Nat}{l:Addr}{items:Array Value}{k:Int}{t:Tok}{v:Value}
/-- down to the built-in -/
theorem set_down {Q:Unit->Shared->Prop} (ho:s.heap.get? l=some (listOf items n)) (q:wpAny (model prog w) A.in1 (Builtin.«list.__setitem__» ⟨[.ref l,.int k t,v],[]⟩) (λf s'=>f=.done (.ret .none)/\Q () s') E s) :
  wpAny (model prog w) A (setItem (.ref l) (.int k t) v) Q E s:=by
 have il:s.heap.IsList l items:=PySem.IsL.isList (n:=n) ho
 unfold setItem
 refine wpAny_holding (wpAny_bind (wpAny_sequenceKey il.typeIs (by decide) ?_))
 refine wpAny_bind (wpAny_callSpecial?_slot (name:=Str.ofString "__setitem__") il.typeIs slot_list_setitem ?_)
 refine wpAny_call_entry slot_list_setitem il.typeIs entry_list_setitem (wpAny_mono q (λf s' z=>?_) λ_ _ z=>z) (args_list_setitem _ _ _)
 obtain ⟨rfl,z⟩:=z
 exact ⟨.none,rfl,wpAny_pure z⟩
theorem ki_setAt {Q:Unit->Shared->Prop} (ho:s.heap.get? l=some (listOf items n)) (h0:0<=k) (hfit:k<2 ^ 63) (hn:k<items.size)
  (hQ:Q () { s with heap:=s.heap.update l (Obj.mapSeq (·.setIfInBounds k.toNat v)) }):wpAny (model prog w) A (setItem (.ref l) (.int k t) v) Q E s:=by
 refine set_down ho ?_
 change wpAny _ _ (Builtin.List.listSubscript? (.int k t) >>= _) _ _ s
 refine wpAny_bind (wpAny_listSubscript_int (fitsIndex_of h0 hfit) ?_)
 clear hfit
 obtain ⟨j,rfl⟩:=Int.eq_ofNat_of_zero_le h0
 have gx:items[j]?=some items[j]:=Array.getElem?_eq_getElem (by omega)
 change wpAny _ _ ((seqItemAt l j >>= λr=>pure (r.map λx=>(j,x))) >>= _) _ _ s
 refine wpAny_bind (wpAny_bind (wpAny_seqItemAt ho rfl (wpAny_pure ?_)))
 rw [gx]
 change wpAny _ _ (setSeqItemAt l j v >>= _) _ _ s
 refine wpAny_bind (wpAny_setSeqItemAt ho rfl ?_)
 exact wpAny_bind (wpAny_pure (wpAny_pure ⟨rfl,hQ⟩))
theorem ki_setBack {Q:Unit->Shared->Prop} (ho:s.heap.get? l=some (listOf items n)) (h0:k<0) (h1:-(items.size:Int)<=k) (hfit:-(2 ^ 63)<=k)
  (hQ:Q () { s with heap:=s.heap.update l (Obj.mapSeq (·.setIfInBounds (k+items.size).toNat v)) }):wpAny (model prog w) A (setItem (.ref l) (.int k t) v) Q E s:=by
 refine set_down ho ?_
 have si:=PySem.seqIndex_neg h0 h1
 have lt:(k+items.size).toNat<items.size:=by clear hfit;omega
 have gx:items[(k+items.size).toNat]?=some items[(k+items.size).toNat]:=Array.getElem?_eq_getElem lt
 change wpAny _ _ (Builtin.List.listSubscript? (.int k t) >>= _) _ _ s
 refine wpAny_bind (wpAny_listSubscript_int (fitsIndex_neg h0 hfit) ?_)
 clear hfit
 obtain ⟨j,ej⟩:∃ j:Nat,k=Int.negSucc j:=match k,h0 with
  | .negSucc j,_=>⟨j,rfl⟩
  | .ofNat i,z=>absurd z (Int.not_lt.mpr (Int.natCast_nonneg i))
 subst ej
 change wpAny _ _ ((Builtin.List.listItems (.ref l) >>= λxs=>pure ((seqIndex? (Int.negSucc j) xs.size).bind λi=>xs[i]?.map λx=>(i,x))) >>= _) _ _ s
 unfold Builtin.List.listItems
 refine wpAny_bind (wpAny_bind (wpAny_bind (wpAny_seqItems ho rfl (wpAny_pure (wpAny_pure ?_)))))
 rw [si,Option.bind_some,gx,Option.map_some]
 change wpAny _ _ (setSeqItemAt l (Int.negSucc j+items.size).toNat v >>= _) _ _ s
 refine wpAny_bind (wpAny_setSeqItemAt ho rfl ?_)
 exact wpAny_bind (wpAny_pure (wpAny_pure ⟨rfl,hQ⟩))
end
end PySem.W
namespace PySem.W
open PySem PySem.Spec PySem.Calls PyProof.Rows
/-! ### isinstance(x,c),c a class -/
def kitMeta (T:String):Bool:=(match fastFind? T with|some m=>m.metatype|none=>"type") == "type"
theorem kitMeta_of {T:String} (e:kitMeta T=true):typeOf (.type T)=pure (.type "type"):=by
 have h:(match fastFind? T with|some m=>m.metatype|none=>"type")="type":=eq_of_beq e
 show (pure (Value.type ((Manifest.find? T).elim "type" λm=>m.metatype)):Sem Value)=_
 rw [find?_eq_fast]
 cases r:fastFind? T with
 |none=>rfl
 |some m=>
  rw [r] at h
  exact congrArg (λy=>(pure (Value.type y):Sem Value)) h
def ownCls (K:Frag) (D:Addr):Bool:=match K.lookup D with
 |some ⟨.type "type",_,.cls _,_⟩=>true
 |_=>false
def kitOne (K:Frag) (t c:Value):Option Bool:=if (t == c)=true then some true else match c with
 | .type T=>if kitMeta T=true then subIn K t (.type T) else none
 | .ref D=>if ownCls K D=true then subIn K t (.ref D) else none
 |_=>none
theorem ownCls_at {K:Frag}{D:Addr} (e:ownCls K D=true):∃ dd cd sl,K.lookup D=some ⟨.type "type",dd,.cls cd,sl⟩:=by
 unfold ownCls at e
 split at e
 ·rename_i h;exact ⟨_,_,_,h⟩
 ·cases e
theorem isType_at {M:Model}{h:Heap}{D:Addr}{c:Value}{dd:Option Addr}{cd:ClassData}{sl:Array (Option Value)} (g:h.get? D=some ⟨c,dd,.cls cd,sl⟩):Looks M h (isType (.ref D)) true:=by
 intro A Q E s k q;unfold isType loadHead
 exact wpAny_bind (wpAny_loadPart (k _ _ g) (wpAny_pure q))
theorem kit_three {K:Frag}{M:Model}{h:Heap}{t c:Value}{b:Bool} (X:K.In h) (n:¬ (t == c)=true) (e:kitOne K t c=some b):Looks M h (typeOf c) (.type "type")/\Looks M h (isType c) true/\Looks M h (isSubtype t c) b:=by
 unfold kitOne at e
 rw [if_neg n] at e
 cases c with
 |type T=>
  have e':(if kitMeta T=true then subIn K t (.type T) else none)=some b:=e
  split at e'
  ·rename_i z;exact ⟨Looks.of_pure (kitMeta_of z),Looks.of_pure rfl,looks_subIn X e'⟩
  ·cases e'
 |ref D=>
  have e':(if ownCls K D=true then subIn K t (.ref D) else none)=some b:=e
  split at e'
  ·rename_i z
   obtain ⟨dd,cd,sl,g⟩:=ownCls_at z
   exact ⟨(Looks.ld (X _ _ g)).andThen .now,isType_at (X _ _ g),looks_subIn X e'⟩
  ·cases e'
 |_=>cases e
structure KitX (K:Frag) (x t:Value) (H:Heap->Prop):Prop where
 ty:∀ (M:Model) (h:Heap),K.In h->H h->Looks M h (typeOf x) t
 it:∀ (M:Model) (h:Heap),K.In h->H h->Looks M h (isType t) true
 ca:∀ {prog:Program}{w:World}{A:Around}{E:Value->Shared->Prop}{Q:Option Value->Shared->Prop}{s:Shared},K.In s.heap->H s.heap->Q (some t) { s with toks:=s.toks+1 }->wpAny (model prog w) A (getAttr? x "__class__") Q E s
theorem kit_ans {K:Frag}{x t c:Value}{H:Heap->Prop}{b:Bool} (Z:KitX K x t H) (e:kitOne K t c=some b):Answers (λs=>K.In s.heap/\H s.heap) x c b:=by
 intro dep tk prog w A R s hs
 obtain ⟨hp,g,d,tt,os⟩:=s
 obtain ⟨⟨X,p⟩,k⟩:=hs
 have LT:=Z.ty (model prog w) hp X p
 unfold Builtin.«isinstance.nested»;refine wpAny_bind (LT.at ?_)
 by_cases q:(t == c)=true
 ·rw [if_pos q]
  unfold kitOne at e
  rw [if_pos q] at e
  cases e
  exact wpAny_bind (wpAny_rule (wpAny_pure (k tt)))
 ·rw [if_neg q]
  obtain ⟨l1,l2,l3⟩:=kit_three (M:=model prog w) X q e
  have LI:Looks (model prog w) hp (isInstance x c) b:=LT.andThen l3
  refine wpAny_bind (l1.at ?_)
  rw [if_pos (by decide)]
  k_delta "plainIsInstance"
  refine wpAny_bind (wpAny_bind (l2.at ?_));simp only [Bool.not_true,Bool.false_eq_true,if_false]
  refine wpAny_bind (LI.at ?_)
  cases b
  ·simp only [Bool.false_eq_true,if_false]
   refine wpAny_bind (Z.ca X p (wpAny_bind ((Z.it _ _ X p).at ?_)))
   simp only [Bool.not_true,Bool.false_eq_true,if_false]
   refine wpAny_bind (wpAny_rule (l3.at ?_))
   first|exact wpAny_pure (k _)|exact wpAny_pure (wpAny_pure (k _))
  ·first|exact wpAny_pure (wpAny_pure (k tt))|(simp only [if_true];first|exact wpAny_pure (wpAny_pure (k tt))|exact wpAny_pure (k tt)|exact wpAny_bind (wpAny_pure (wpAny_pure (k tt))))
theorem kia_one {prog:Program}{w:World}{A:Around}{E:Value->Shared->Prop}{s:Shared}{Q:Value->Shared->Prop}{K:Frag}{x t c:Value}{H:Heap->Prop}{b:Bool} (Z:KitX K x t H) (X:K.In s.heap) (p:H s.heap) (e:kitOne K t c=some b) (hx:x≠.builtin "__main__.__loader__#opaque")
  (h:∀ tk,Q (.bool b) { s with toks:=tk }):wpAny (model prog w) A (call (.builtin "isinstance") [x,c]) Q E s:=
 call_isinstance (S:=λ_ R s=>(K.In s.heap/\H s.heap)/\∀ tk,R (.ok (.ret (.bool b))) { s with toks:=tk }) (λprog w A R s hs=>isinstance_outer (kit_ans Z e 0 _ prog w A R s hs) hx) ⟨⟨X,p⟩,h⟩
section
variable {K:Frag}
theorem kitx_int {n:Int}{u:Tok}:KitX K (.int n u) (.type "int") (λ_=>True):=⟨λ_ _ _ _=>Looks.of_pure rfl,λ_ _ _ _=>Looks.of_pure rfl,λ{_ _ _ _ _ s} _ _ k=>by obtain ⟨h,g,d,t,os⟩:=s;exact class_attr_int k⟩
theorem kitx_str {y:Str}{u:Tok}:KitX K (.str y u) (.type "str") (λ_=>True):=⟨λ_ _ _ _=>Looks.of_pure rfl,λ_ _ _ _=>Looks.of_pure rfl,λ{_ _ _ _ _ s} _ _ k=>by obtain ⟨h,g,d,t,os⟩:=s;exact class_attr_str k⟩
theorem kitx_bool {y:Bool}:KitX K (.bool y) (.type "bool") (λ_=>True):=⟨λ_ _ _ _=>Looks.of_pure rfl,λ_ _ _ _=>Looks.of_pure rfl,λ{_ _ _ _ _ s} _ _ k=>by obtain ⟨h,g,d,t,os⟩:=s;exact class_attr_bool k⟩
theorem kitx_none:KitX K .none (.type "NoneType") (λ_=>True):=⟨λ_ _ _ _=>Looks.of_pure rfl,λ_ _ _ _=>Looks.of_pure rfl,λ{_ _ _ _ _ s} _ _ k=>by obtain ⟨h,g,d,t,os⟩:=s;exact class_attr_none k⟩
theorem kitx_float {y:UInt64}{u:Tok}:KitX K (.float y u) (.type "float") (λ_=>True):=⟨λ_ _ _ _=>Looks.of_pure rfl,λ_ _ _ _=>Looks.of_pure rfl,λ{_ _ _ _ _ s} _ _ k=>by obtain ⟨h,g,d,t,os⟩:=s;exact class_attr_float k⟩
def KitAt (a:Addr) (T:String) (h:Heap):Prop:=∃ o,h.get? a=some o/\o.cls=.type T
theorem kitAt_ty {a:Addr}{T:String} (M:Model) (h:Heap) (p:KitAt a T h):Looks M h (typeOf (.ref a)) (.type T):=
 let ⟨_,h1,h2⟩:=p
 h2 ▸ (Looks.ld h1).andThen .now
theorem kitx_list {a:Addr}:KitX K (.ref a) (.type "list") (KitAt a "list"):=⟨λM h _ p=>kitAt_ty M h p,λ_ _ _ _=>Looks.of_pure rfl,λ{_ _ _ _ _ s} _ p k=>by obtain ⟨h,g,d,t,os⟩:=s;obtain ⟨o,h1,h2⟩:=p;exact class_attr_list h1 h2 k⟩
theorem kitx_tuple {a:Addr}:KitX K (.ref a) (.type "tuple") (KitAt a "tuple"):=⟨λM h _ p=>kitAt_ty M h p,λ_ _ _ _=>Looks.of_pure rfl,λ{_ _ _ _ _ s} _ p k=>by obtain ⟨h,g,d,t,os⟩:=s;obtain ⟨o,h1,h2⟩:=p;exact class_attr_tuple h1 h2 k⟩
theorem kitx_dict {a:Addr}:KitX K (.ref a) (.type "dict") (KitAt a "dict"):=⟨λM h _ p=>kitAt_ty M h p,λ_ _ _ _=>Looks.of_pure rfl,λ{_ _ _ _ _ s} _ p k=>by obtain ⟨h,g,d,t,os⟩:=s;obtain ⟨o,h1,h2⟩:=p;exact class_attr_dict h1 h2 k⟩
/-! an own instance -/
theorem own_class {prog:Program}{w:World}{A:Around}{E:Value->Shared->Prop}{Q:Option Value->Shared->Prop}{s:Shared}{x D:Addr}{ox od:Obj} (X:K.In s.heap) (I:InstAt s.heap x ox D (some od)) (pg:plainGet K D "__class__"=true)
  (hf:findObj K D (some od) "__class__"=some (.bind (.builtin "getset_descriptor.__get__") (.builtin "object.__class__"))) (hm:mroIn K D (.type "object")=some true) (kq:Q (some (.ref D)) { s with toks:=s.toks+1 }):wpAny (model prog w) A (getAttr? (.ref x) "__class__") Q E s:=by
 obtain ⟨hh,g,d,t,os⟩:=s
 have l0:=I.type (M:=model prog w);have l1:=looks_findIn (M:=model prog w) X (plainGet_of pg).1
 have l2:=looks_findIn (M:=model prog w) X (plainGet_of pg).2;have l3:=looks_find (M:=model prog w) X I hf
 unfold getAttr? getAttrBy? getAttrBy;refine wpAny_bind (wpAny_mkText (wpAny_bind (wpAny_attempt (wpAny_holding (wpAny_bind (l0.at (wpAny_bind (l1.at ?_))))))))
 change wpAny _ _ (getAttrEveryday _ _ _) _ _ _
 refine wpAny_bind (wpAny_onRaise (wpAny_runValue (codeAny_builtin F.plainObj_entry_getattr_hooked (wpAny_bind (wpAny_pure (wpAny_bind (l0.at (wpAny_bind (l3.at (wpAny_bind (l2.at ?_)))))))))))
 change wpAny _ _ (holding [Value.builtin "object.__class__"] (call (.builtin "getset_descriptor.__get__") [.builtin "object.__class__",.ref x,.ref D]) >>= ret) _ _ _
 exact wpAny_bind (wpAny_holding (wpAny_call (class_get (s:=⟨hh,g,d,t+1,os⟩) (ox:=ox) (od:=some od) X I hm (wpAny_pure (handed_on rfl (wpAny_pure kq))))))
theorem kitx_own {x D:Addr}{ox od:Obj} (pg:plainGet K D "__class__"=true) (hd:hasDictIn K D=true) (ha:findIn K (.ref D) "__class__"=some (some (.builtin "object.__class__")))
  (hn:specialIn K (.builtin "object.__class__") "__get__"=some (some (.builtin "getset_descriptor.__get__"))) (ht:takesIn K (.builtin "object.__class__")=some true) (hm:mroIn K D (.type "object")=some true):KitX K (.ref x) (.ref D) (λh=>InstAt h x ox D (some od)):=by
 obtain ⟨cd,hc,_⟩:=any_some hd
 have hf:findObj K D (some od) "__class__"=some (.bind (.builtin "getset_descriptor.__get__") (.builtin "object.__class__")):=findObj_data (by rw [hc];rfl) ha hn ht
 refine ⟨λ_ _ _ I=>I.type,λM h X _=>?_,λX I kq=>own_class X I pg hf hm kq⟩
 unfold clsIn at hc
 split at hc
 ·rename_i g;exact isType_at (X _ _ g)
 ·cases hc
end
end PySem.W
namespace PySem.W
open PySem PySem.Spec PySem.Calls PyProof.Rows PyProof.V
/-! ### list(d),collect(d): d a dict -/
section
variable {prog:Program}{w:World}{KK:Type} [DecidableEq KK] {knd:KeyKind prog w KK}{A:Around}{E:Value->Shared->Prop}{s:Shared}{d S:Addr}{kvs:List (KK×Value)}{ep:Nat}
theorem dl_hint {Q:Bool->Shared->Prop} (ht:s.TypeIs (.ref d) "dict") (q:Q false s):wpAny (model prog w) A (Builtin.List.listLengthHint (.ref d)) Q E s:=by
 unfold Builtin.List.listLengthHint;refine wpAny_bind (wpAny_specialOf ht PySem.F.slot_dict_len.lookup ?_)
 generalize hx:("dict.__len__":String)=x;wp_delta
 have e:splitId x=some ("dict","__len__"):=by rw [<-hx];decide +kernel
 rw [e];subst hx
 refine wpAny_bind (wpAny_isInstance (T:="dict") (b:=true) ht (by rw [isSubtype_type];kernel_rfl) (wpAny_ite_split (λz=>absurd z (by decide)) λ_=>wpAny_ite_split (λ_=>wpAny_bind (wpAny_typeOf ht (wpAny_pure q))) λz=>absurd (by decide +kernel) z))
def KeyAt (knd:KeyKind prog w KK) (kvs:List (KK×Value)) (i:Nat) (v:Value):Prop:=∃ k x,kvs[i]?=some (k,x)/\knd.is k v=true
theorem dl_extend {R:Result->Shared->Prop} (lo:(d == sysModules)=false) (hh:A.handled=none) (hm:s.heap.DictAt knd d kvs ep) (hd:S≠d) (res:Value) (c:Nat) (hS:s.heap.get? S=some { cls:=.type "list",data:=.seq #[] c }) (hn:kvs.length<=sizeLine)
  (q:∀ (h1:Heap) (tk:Nat) (acc:Array Value) (c1:Nat),(∀ b o,b≠S->s.heap.get? b=some o->h1.get? b=some o)->h1.get? S=some { cls:=.type "list",data:=.seq acc c1 }->ItemsOf (KeyAt knd kvs) acc kvs.length->R (.ok (.ret res)) { s with heap:=h1,toks:=tk }) :
  wpAny (model prog w) A.in1 (Builtin.List.listExtendWith (.ref S) (.ref d) res) (λf s1=>match f with | .done f=>R (.ok f) s1 | .again c1=>c1.quiet=true/\codeAny (model prog w) A c1 R s1) (λe s1=>R (.error e) s1) s:=by
 have lt:=Heap.lt_size hS
 have W:=Walks.dictKeys (prog:=prog) (w:=w) (knd:=knd) (A:=A.in1) hh s.heap.objs.size d (Nat.ne_of_lt hm.lt_size) kvs ep
 have nf:S ∉ [s.heap.objs.size,d]:=by
  intro z
  rcases List.mem_cons.mp z with e|e
  ·exact Nat.ne_of_lt lt e
  ·exact hd (List.mem_singleton.mp e)
 have go:∀ (h1:Heap) (c1 tk:Nat),_->(∀ b o,b≠S->s.heap.get? b=some o->h1.get? b=some o)->h1.get? S=some { cls:=.type "list",data:=.seq #[] c1 }->codeAny (model prog w) A (.builtin "list.extend.loop" ⟨[.ref S,.ref s.heap.objs.size,res],[]⟩) R { s with heap:=h1,toks:=tk }:=λh1 c1 tk st kp h2=>
  codeAny_extend_loopS W.toS hn S nf res kvs.length 0 _ #[] c1 rfl (Nat.zero_le _) st h2 (ItemsOf.nil _) λs1 acc c2 mv g i=>by
   rw [Moved.eq_with mv]
   refine q s1.heap s1.toks acc c2 (λb o hb e=>mv.heap b o (λz=>?_) (kp b o hb e)) g i
   rcases List.mem_cons.mp z with z|z
   ·exact hb z
   ·exact Nat.lt_irrefl _ (List.mem_singleton.mp z ▸ Heap.lt_size e)
 have ty:=hm.dictOf.typeIs
 have n1:Builtin.List.listSameRef (.ref S) (.ref d)=false:=by simp [Builtin.List.listSameRef,hd]
 unfold Builtin.List.listExtendWith;refine wpAny_bind (wpAny_typeOf (T:="dict") ty ?_)
 simp only [n1,show (Value.type "dict" == Value.type "list")=false from by decide,show (Value.type "dict" == Value.type "tuple")=false from by decide,Bool.or_false,Bool.false_eq_true,if_false]
 refine wpAny_bind (wpAny_pyIter_dict lo hm (wpAny_bind (wpAny_holding (dl_hint (hm.push _).dictOf.typeIs ?_))))
 have hS1:=Heap.get?_push_of_some { cls:=.type "dict_keyiterator",data:=.fields #[.ref d,.int 0 0,.int kvs.length 0,.int ep 0] } hS
 have up:=λ(b:Addr) (o:Obj) (_:b≠S) (e:s.heap.get? b=some o)=>Heap.get?_push_of_some { cls:=.type "dict_keyiterator",data:=.fields #[.ref d,.int 0 0,.int kvs.length 0,.int ep 0] } e
 have st:(s.heap.push { cls:=.type "dict_keyiterator",data:=.fields #[.ref d,.int 0 0,.int kvs.length 0,.int ep 0] }).IsKeyIter s.heap.objs.size d 0 kvs.length ep/\Heap.DictAt knd (s.heap.push { cls:=.type "dict_keyiterator",data:=.fields #[.ref d,.int 0 0,.int kvs.length 0,.int ep 0] }) d kvs ep:=⟨⟨_,Heap.get?_push_size _ rfl,rfl,rfl⟩,hm.push _⟩
 refine wpAny_ite_split (λ_=>wpAny_bind (wpAny_rule (wpAny_bind ?_))) (λ_=>wpAny_pure ⟨plainId_quiet PySem.F.plain_extend_loop _,go _ c _ st up hS1⟩)
 change wpAny _ _ (updateSeq S (·.push .none) >>= λ_=>updateSeq S (·.pop)) _ _ _
 refine wpAny_bind (wpAny_updateSeq hS1 rfl ?_)
 have hS2:=Heap.get?_update_self (Obj.mapSeq (·.push Value.none)) hS1 rfl
 refine wpAny_updateSeq (hz:=by seq_fits) hS2 rfl (wpAny_pure ⟨plainId_quiet PySem.F.plain_extend_loop _,go _ _ _ (W.frame 0 _ _ st λb hb o e=>?_) (λb o hb e=>?_) (Heap.get?_update_self (Obj.mapSeq (·.pop)) hS2 rfl)⟩)
 ·have nb:b≠S:=λz=>nf (z ▸ hb)
  rw [Heap.get?_update_other _ _ nb.symm,Heap.get?_update_other _ _ nb.symm];exact e
 ·rw [Heap.get?_update_other _ _ hb.symm,Heap.get?_update_other _ _ hb.symm];exact up b o hb e
theorem dl_list {Q:Value->Shared->Prop} (lo:(d == sysModules)=false) (hh:A.handled=none) (hm:s.heap.DictAt knd d kvs ep) (hn:kvs.length<=sizeLine)
  (q:∀ (h1:Heap) (tk:Nat) (acc:Array Value) (c1:Nat),(∀ b o,s.heap.get? b=some o->h1.get? b=some o)->h1.get? s.heap.objs.size=some { cls:=.type "list",data:=.seq acc c1 }->ItemsOf (KeyAt knd kvs) acc kvs.length->Q (.ref s.heap.objs.size) { s with heap:=h1,toks:=tk }) :
  wpAny (model prog w) A (call (.type "list") [.ref d]) Q E s:=by
 refine callType_codes (Q₁:=λx s1=>x=.ref s.heap.objs.size/\s1={ s with heap:=s.heap.push { cls:=.type "list",data:=.seq #[] } }) PySem.F.called_list (PySem.F.typeCall_list_1 _) PySem.F.entry_list_init (code_list_new _ ⟨rfl,rfl⟩) λx s1 e=>?_
 obtain ⟨rfl,rfl⟩:=e
 have g:(s.heap.push { cls:=.type "list",data:=.seq #[] }).get? s.heap.objs.size=some { cls:=.type "list",data:=.seq #[] }:=Heap.get?_push_size _ rfl
 have nd:s.heap.objs.size≠d:=Nat.ne_of_gt hm.lt_size
 have m1:=hm.push { cls:=.type "list",data:=.seq #[] }
 refine ⟨⟨_,g,rfl⟩,PySem.F.args_list_init_2 _ _,?_⟩
 change wpAny _ _ (Builtin.List.listItems (.ref s.heap.objs.size) >>= λold=>Builtin.List.listUpdate (.ref s.heap.objs.size) (λ_=>#[]) >>= λ_=>letGo old.toList.reverse >>= λ_=>Builtin.List.listExtendWith (.ref s.heap.objs.size) (.ref d) .none) _ _ _
 refine wpAny_bind ?_
 unfold Builtin.List.listItems;refine wpAny_bind (wpAny_seqItems g rfl (wpAny_pure ?_))
 change wpAny _ _ (updateSeq s.heap.objs.size (λ_=>#[]) >>= _) _ _ _
 refine wpAny_bind (wpAny_updateSeq g rfl ?_)
 have g2:=Heap.get?_update_self (Obj.mapSeq λ_=>(#[]:Array Value)) g rfl
 refine wpAny_bind (wpAny_letGo ?_)
 refine dl_extend (A:=A.in1) lo hh (m1.at' λo e=>?_) nd .none _ g2 hn λh1 tk acc c1 kp g3 i=>⟨rfl,q h1 tk acc c1 (λb o e=>kp b o (Nat.ne_of_lt (Heap.lt_size e)) ?_) g3 i⟩
 ·rw [Heap.get?_update_other _ _ nd];exact e
 ·rw [Heap.get?_update_other _ _ (Nat.ne_of_gt (Heap.lt_size e))];exact Heap.get?_push_of_some _ e
theorem dl_collect {R:List Value->Shared->Prop} (lo:(d == sysModules)=false) (hh:A.handled=none) (hm:s.heap.DictAt knd d kvs ep) (hn:kvs.length<=sizeLine)
  (q:∀ (h1:Heap) (tk:Nat) (acc:Array Value),(∀ b o,s.heap.get? b=some o->h1.get? b=some o)->s.heap.objs.size<h1.objs.size->ItemsOf (KeyAt knd kvs) acc kvs.length->R acc.toList { s with heap:=h1,toks:=tk }):wpAny (model prog w) A (collect (.ref d)) R E s:=by
 unfold collect;refine wpAny_bind (wpAny_runValue (codeAny_builtin PySem.F.entry_proto_collect ?_))
 rw [Around.under_plainId PySem.F.plain_proto_collect]
 refine wpAny_bind (m:=newList []) (wpAny_newObj_type (wpAny_pure ⟨plainId_quiet PySem.F.plain_list_iadd _,codeAny_builtin PySem.F.entry_list_iadd ?_⟩));rw [Around.under_plainId PySem.F.plain_list_iadd]
 let Z:Heap->Array Value->Nat->Prop:=λh2 acc c=>(∀ b o,s.heap.get? b=some o->h2.get? b=some o)/\h2.get? s.heap.objs.size=some { cls:=.type "list",data:=.seq acc c }/\ItemsOf (KeyAt knd kvs) acc kvs.length
 have fin:∀ {h2:Heap}{tk:Nat}{acc:Array Value}{c:Nat},Z h2 acc c->wpAny (model prog w) A (load s.heap.objs.size >>= λo=>match o.data with | .seq xs _=>pure xs.toList|_=>unsupported "internal:collect") R E { s with heap:=h2,toks:=tk }:=λx=>wpAny_bind (wpAny_load x.2.1 (wpAny_pure (q _ _ _ x.1 (Heap.lt_size x.2.1) x.2.2)))
 have ext:=dl_extend (s:={ s with heap:=s.heap.push { cls:=.type "list",data:=.seq #[] } }) (A:=A) (R:=λrr s2=>∃ h2 tk acc c,rr=.ok (.ret (.ref s.heap.objs.size))/\s2={ s with heap:=h2,toks:=tk }/\Z h2 acc c) lo hh (hm.push _) (Nat.ne_of_gt hm.lt_size) (.ref s.heap.objs.size) 0 (Heap.get?_push_size _ rfl) hn
  (λh2 tk acc c kp g i=>⟨h2,tk,acc,c,rfl,rfl,λb o e=>kp b o (Nat.ne_of_lt (Heap.lt_size e)) (Heap.get?_push_of_some _ e),g,i⟩)
 refine wpAny_mono (t:=Builtin.List.listExtendWith (.ref s.heap.objs.size) (.ref d) (.ref s.heap.objs.size)) ext (λf s2 x=>?_) λe s2 x=>?_
 ·match f,x with
  | .done f,⟨h2,tk,acc,c,e,es,x2⟩=>cases e;subst es;exact fin x2
  | .again c1,⟨y1,y2⟩=>exact ⟨y1,codeAny_mono y2 λrr s3 ⟨h2,tk,acc,c,e,es,x⟩=>by subst e es;exact fin x⟩
 ·obtain ⟨_,_,_,_,e',_⟩:=x
  cases e'
end
end PySem.W
namespace PySem
/-! ### reversed(a list) -/
abbrev lriT:String:="list_reverseiterator"
theorem rv_sl_next:Slot lriT "__next__" "list_reverseiterator.__next__":=Slot.of (owner:=lriT) (n:="__next__") (by rw [typeLookup_type,builtinLookup_eq_fast];kernel_rfl) (by decide +kernel) (by decide +kernel) (by decide +kernel) (Or.inl (by decide +kernel)) (by rw [isSubtype_type];kernel_rfl)
theorem rv_sl_iter:Slot lriT "__iter__" "list_reverseiterator.__iter__":=Slot.of (owner:=lriT) (n:="__iter__") (by rw [typeLookup_type,builtinLookup_eq_fast];kernel_rfl) (by decide +kernel) (by decide +kernel) (by decide +kernel) (Or.inl (by decide +kernel)) (by rw [isSubtype_type];kernel_rfl)
theorem rv_en_next:entryFor table "list_reverseiterator.__next__"=some Builtin.«list_reverseiterator.__next__»:=entryFor_of_tree (by kernel_rfl)
theorem rv_en_iter:entryFor table "list_reverseiterator.__iter__"=some Builtin.«dict_keyiterator.__iter__»:=entryFor_alias (id':="dict_keyiterator.__iter__") (by kernel_rfl) (by decide +kernel) (by decide +kernel) (by kernel_rfl)
theorem rv_ar_next (a:Value):argsOk "list_reverseiterator.__next__" ⟨[a],[]⟩:=by unfold argsOk;kernel_rfl
theorem rv_ar_iter (a:Value):argsOk "list_reverseiterator.__iter__" ⟨[a],[]⟩:=by unfold argsOk;kernel_rfl
theorem rv_mro:mroOf (.type "reversed")=pure [.type "reversed",.type "object"]:=by rw [mroOf_type];kernel_rfl
theorem rv_new:typeLookup (.type "reversed") "__new__"=pure (some (.builtin "reversed.__new__")):=by rw [typeLookup_type,builtinLookup_eq_fast];kernel_rfl
theorem rv_made:Bind.madeBy (.type "reversed")=pure (some "reversed.__new__"):=madeBy_type rv_mro rv_new (by decide +kernel)
theorem rv_entry:entryFor table "reversed.__new__"=some Builtin.«reversed.__new__»:=entryFor_of_tree (by kernel_rfl)
theorem rv_plain:plainId "reversed.__new__"=true:=by decide +kernel
theorem rv_self:isSubtype (.type "reversed") (.type "reversed")=pure true:=by rw [isSubtype_type];kernel_rfl
theorem rv_not:isSubtype (.type lriT) (.type "reversed")=pure false:=by rw [isSubtype_type];kernel_rfl
def revO (l:Addr) (i:Int):Obj:={ cls:=.type lriT,data:=.fields #[.ref l,rawInt i] }
def RevAt (h:Heap) (it l:Addr) (i:Int):Prop:=h.get? it=some (revO l i)
section
variable {prog:Program}{w:World}{A:Around}{E:Value->Shared->Prop}{s:Shared}{it l:Addr}{items:Array Value}
theorem RevAt.ty {i:Int} (x:RevAt s.heap it l i):s.TypeIs (.ref it) lriT:=⟨_,x,rfl⟩
theorem rev_self {i:Int}{Q:Value->Shared->Prop} (x:RevAt s.heap it l i) (q:Q (.ref it) s):wpAny (model prog w) A (pyIter (.ref it)) Q E s:=
 wpAny_pyIter_slot x.ty rv_sl_iter (wpAny_call_entry rv_sl_iter x.ty rv_en_iter (wpAny_pure ⟨_,rfl,lriT,_,x.ty,rv_sl_next.lookup,q⟩) (rv_ar_iter _))
theorem rev_item {i:Nat}{v:Value}{Q:Option Value->Shared->Prop} (x:RevAt s.heap it l (i:Int)) (hl:s.heap.IsList l items) (hv:items[i]?=some v)
  (q:∀ h',RevAt h' it l ((i:Int) - 1)->Heap.SameBut it s.heap h'->Q (some v) { s with heap:=h' }):wpAny (model prog w) A (pyNext (.ref it)) Q E s:=by
 obtain ⟨ol,hol,_,nl,hdl⟩:=hl
 have x':s.heap.get? it=some (revO l (i:Int)):=x
 unfold pyNext
 refine wpAny_bind (wpAny_attempt (wpAny_callSpecial?_slot (name:=Str.ofString "__next__") x.ty rv_sl_next (wpAny_call_entry rv_sl_next x.ty rv_en_next ?_ (rv_ar_next _))))
 unfold Builtin.«list_reverseiterator.__next__»
 refine wpAny_bind (wpAny_of_eq (a:=(Value.ref it,[])) rfl ?_)
 refine wpAny_bind (wpAny_field x' rfl (x:=rawInt (i:Int)) rfl ?_)
 change wpAny _ _ (if (i:Int)<0 then _ else _) _ _ s
 rw [if_neg (Int.not_lt.mpr (Int.natCast_nonneg i))]
 change wpAny _ _ (field (.ref it) 0 >>= _) _ _ s
 refine wpAny_bind (wpAny_field x' rfl (x:=.ref l) rfl ?_)
 change wpAny _ _ (seqItems? (.ref l) >>= _) _ _ s
 refine wpAny_bind (wpAny_seqItems hol hdl ?_)
 simp only [Int.toNat_natCast,hv]
 refine wpAny_bind (wpAny_setField x' rfl (by show 1<2;decide) ?_)
 refine wpAny_pure ⟨v,rfl,wpAny_pure (q _ ?_ (Heap.SameBut.update ..))⟩
 exact Heap.get?_update_self _ x' rfl
theorem rev_end {Q:Option Value->Shared->Prop} (hh:A.handled=none) (x:RevAt s.heap it l (-1)) (q:∀ h',Heap.ExtBut it s.heap h'->Q none { s with heap:=h' }):wpAny (model prog w) A (pyNext (.ref it)) Q E s:=by
 have x':s.heap.get? it=some (revO l (-1)):=x
 unfold pyNext
 refine wpAny_bind (wpAny_attempt (wpAny_callSpecial?_slot (name:=Str.ofString "__next__") x.ty rv_sl_next (wpAny_call_entry rv_sl_next x.ty rv_en_next ?_ (rv_ar_next _))))
 unfold Builtin.«list_reverseiterator.__next__»
 refine wpAny_bind (wpAny_of_eq (a:=(Value.ref it,[])) rfl ?_)
 refine wpAny_bind (wpAny_field x' rfl (x:=rawInt (-1)) rfl ?_)
 change wpAny _ _ (if (-1:Int)<0 then _ else _) _ _ s
 rw [if_pos (by decide)]
 refine wpAny_bind (wpAny_rule (wpAny_bind ?_))
 change wpAny _ _ (newExc (.type "StopIteration") [] >>= _) _ _ _
 refine wpAny_bind ?_
 unfold newExc newTuple
 refine wpAny_bind (wpAny_newObj_type ?_ (by size_fits))
 refine wpAny_bind (m:=firstArgMember _ _) (wpAny_of_eq (a:=Value.none) rfl ?_)
 refine wpAny_newObj_type ?_ (by size_fits)
 unfold raiseNew
 refine wpAny_bind (wpAny_handled ?_)
 rw [show A.in1.handled=none from hh]
 refine wpAny_bind (wpAny_pure (wpAny_throw ?_))
 refine wpAny_bind (wpAny_isInstance (T:="StopIteration") (b:=true) ⟨_,Heap.get?_push_size _ rfl,rfl⟩ isSubtype_stop ?_)
 exact wpAny_pure (q _ (((Heap.ExtBut.refl _ _).push _).push _))
theorem rev_of_list {Q:Value->Shared->Prop} (hl:s.heap.IsList l items) (q:Q (.ref s.heap.objs.size) { s with heap:=s.heap.push (revO l ((items.size:Int) - 1)) }):wpAny (model prog w) A (call (.builtin "list.__reversed__") [.ref l]) Q E s:=by
 obtain ⟨o,ho,_,n,hd⟩:=id hl
 refine wpAny_call_entry F.slot_list_reversed hl.typeIs F.entry_list_reversed ?_ (F.args_list_reversed_1 _)
 unfold Builtin.«list.__reversed__»
 exact wpAny_bind (wpAny_of_eq (a:=Value.ref l) rfl (wpAny_bind (wpAny_listItems ho hd (wpAny_bind (wpAny_newObj_type (wpAny_pure ⟨_,rfl,q⟩))))))
theorem rev_new {Q:Value->Shared->Prop} (hl:s.heap.IsList l items) (q:Q (.ref s.heap.objs.size) { s with heap:=s.heap.push (revO l ((items.size:Int) - 1)) }) :
  codeAny (model prog w) A (.call (.builtin "reversed.__new__") ⟨[.type "reversed",.ref l],[]⟩) (wants Q E) s:=by
 have cls:Builtin.SmallTypes.newClass "reversed" ⟨[.type "reversed",.ref l],[]⟩=pure (.type "reversed",[.ref l]):=by
  unfold Builtin.SmallTypes.newClass
  simp only [isType,rv_self,pure_bind,Bool.not_true,Bool.false_eq_true,if_false]
 refine codeAny_of_tree ?_
 change wpAny _ A.in1 (checkBuiltinCall "reversed.__new__" ⟨[.type "reversed",.ref l],[]⟩ >>= λ_=>again (.builtin "reversed.__new__" ⟨[.type "reversed",.ref l],[]⟩)) _ _ s
 refine wpAny_bind (wpAny_of_eq (a:=()) (by kernel_rfl) (wpAny_pure ⟨plainId_quiet rv_plain _,codeAny_builtin rv_entry ?_⟩))
 rw [Around.under_plainId rv_plain]
 unfold Builtin.«reversed.__new__»
 refine wpAny_bind (wpAny_of_eq cls ?_)
 try dsimp only
 refine wpAny_bind (wpAny_of_eq (a:=()) (by first|rfl|kernel_rfl) (wpAny_bind (wpAny_of_eq (a:=()) (by first|rfl|kernel_rfl) ?_)))
 try dsimp only
 refine wpAny_bind (wpAny_specialOf hl.typeIs F.slot_list_reversed.lookup ?_)
 try dsimp only
 refine wpAny_bind (wpAny_of_eq (F.slot_list_reversed.bind _) ?_)
 rw [if_neg (show ¬ (Value.builtin "list.__reversed__" == Value.none)=true from Bool.false_ne_true)]
 refine wpAny_bind (wpAny_rule ?_)
 exact wpAny_bind (m:=runValue (.call (.builtin "list.__reversed__") ⟨[.ref l],[]⟩)) (rev_of_list (Q:=λv s'=>wpAny (model prog w) A.in1 (ret v) _ _ s') hl (wpAny_pure q))
/-- a call of the type reversed -/
theorem rev_call {Q:Value->Shared->Prop} (hl:s.heap.IsList l items) (q:Q (.ref s.heap.objs.size) { s with heap:=s.heap.push (revO l ((items.size:Int) - 1)) }):wpAny (model prog w) A (call (.type "reversed") [.ref l]) Q E s:=by
 refine wpAny_call (codeAny_of_tree ?_)
 change wpAny _ _ (callAny (.type "reversed") _) _ _ _
 refine wpAny_pure ⟨Code.quiet_builtin _ (by decide +kernel),codeAny_builtin F.entry_type_call ?_⟩
 have f1:(Value.type "reversed" == Value.type "type")=false:=by decide
 have f2:((Manifest.find? "reversed").bind (·.mro.findSome? λt=>(Manifest.find? t).bind λb=>if b.noNew then some true else if b.attrs.any (·.1 == "__new__") then some false else none)).getD false=false:=by decide +kernel
 have f3:=rv_mro
 have f4:=rv_made
 have f5:=rv_not
 have f6:checkTypeCall "reversed" ⟨[.ref l],[]⟩=pure ():=by kernel_rfl
 rw [Around.under_plain (weight_type_call_type "reversed" [.ref l] []) rfl]
 repeat (any_goals (first|assumption|wp_step))
 refine codeAny_mono (rev_new (E:=E) (Q:=λo s1=>o=.ref s.heap.objs.size/\s1={ s with heap:=s.heap.push (revO l ((items.size:Int) - 1)) }) hl ⟨rfl,rfl⟩) λr s1 hr=>?_
 match r,hr with
 | .error e,hr=>exact hr
 | .ok (.ret v),⟨e1,e2⟩=>
  subst e1 e2
  have hT:Shared.TypeIs { s with heap:=s.heap.push (revO l ((items.size:Int) - 1)) } (.ref s.heap.objs.size) lriT:=⟨_,Heap.get?_push_size _ rfl,rfl⟩
  repeat (any_goals (first|assumption|wp_step))
end
end PySem
namespace L2
open PySem PySem.Spec PyProof.Rows
abbrev Key:=Sum Int Str
def keyIs:Key->Value->Bool
 | .inl k,v=>Value.isInt k v
 | .inr x,v=>Value.isStrOf x v
def keyH (w:World):Key->Int
 | .inl k=>hashInt k
 | .inr x=>hashStr w x
theorem keyIs_shape:∀ {k:Key}{v:Value},keyIs k v=true->(∃ i t,k=Sum.inl i/\v=Value.int i t)∨(∃ x t,k=Sum.inr x/\v=Value.str x t)
 | .inl i,v,h=>by
  obtain ⟨t,e⟩:=Value.isInt_shape (k:=i) (v:=v) h
  exact .inl ⟨i,t,rfl,e⟩
 | .inr x,v,h=>by
  obtain ⟨t,e⟩:=Value.isStrOf_shape (x:=x) (v:=v) h
  exact .inr ⟨x,t,rfl,e⟩
theorem keyIs_int (i:Int) (t:Tok):keyIs (.inl i) (.int i t)=true:=by simp [keyIs,Value.isInt]
theorem keyIs_str (x:Str) (t:Tok):keyIs (.inr x) (.str x t)=true:=by simp [keyIs,Value.isStrOf]
theorem key_ll (a b:Int):decide ((Sum.inl a:Key)=Sum.inl b)=(a == b):=by
 by_cases e:a=b
 ·subst e;simp
 ·have h:¬ (Sum.inl a:Key)=Sum.inl b:=λq=>e (Sum.inl.inj q)
  rw [decide_eq_false h]
  exact (beq_eq_false_iff_ne.mpr e).symm
theorem key_rr (a b:Str):decide ((Sum.inr a:Key)=Sum.inr b)=decide (a=b):=by
 by_cases e:a=b
 ·subst e;simp
 ·have h:¬ (Sum.inr a:Key)=Sum.inr b:=λq=>e (Sum.inr.inj q)
  rw [decide_eq_false h,decide_eq_false e]
theorem key_lr (a:Int) (b:Str):decide ((Sum.inl a:Key)=Sum.inr b)=false:=decide_eq_false (λq=>nomatch q)
theorem key_rl (a:Str) (b:Int):decide ((Sum.inr a:Key)=Sum.inl b)=false:=decide_eq_false (λq=>nomatch q)
def mixKind (prog:Program) (w:World):PySem.KeyKind prog w Key where
 is:=keyIs
 hash:=keyH w
 inj:=λv a b ha hb=>by
  rcases keyIs_shape ha with ⟨i,t,rfl,rfl⟩|⟨x,t,rfl,rfl⟩
  ·rcases keyIs_shape hb with ⟨j,u,rfl,e⟩|⟨y,u,rfl,e⟩
   ·injection e with e1 _;rw [e1]
   ·exact nomatch e
  ·rcases keyIs_shape hb with ⟨j,u,rfl,e⟩|⟨y,u,rfl,e⟩
   ·exact nomatch e
   ·injection e with e1 _;rw [e1]
 byValue:=λk v h=>by
  rcases keyIs_shape h with ⟨i,t,rfl,rfl⟩|⟨x,t,rfl,rfl⟩<;>rfl
 pyHash:=λhv h=>by
  rcases keyIs_shape hv with ⟨i,t,rfl,rfl⟩|⟨x,t,rfl,rfl⟩
  ·exact wpAny_pyHash_int h
  ·exact wpAny_pyHash_str h
 eqBool:=λhu hv h=>by
  rcases keyIs_shape hu with ⟨i,t,rfl,rfl⟩|⟨x,t,rfl,rfl⟩
  ·rcases keyIs_shape hv with ⟨j,u,rfl,rfl⟩|⟨y,u,rfl,rfl⟩
   ·rw [key_ll] at h;exact wpAny_eqBool_int h
   ·rw [key_lr] at h;exact SeqAt.EqAt.int_str i t y u _ _ _ _ h
  ·rcases keyIs_shape hv with ⟨j,u,rfl,rfl⟩|⟨y,u,rfl,rfl⟩
   ·rw [key_rl] at h;exact SeqAt.EqAt.str_int x t j u _ _ _ _ h
   ·rw [key_rr] at h;exact wpAny_eqBool_str h
 «strs»:=λk x t v h=>by
  rcases keyIs_shape h with ⟨i,u,rfl,e⟩|⟨y,u,rfl,e⟩
  ·exact nomatch e
  ·injection e with e1 _
   subst e1
   cases v<;>rfl
theorem mixKind_is (prog:Program) (w:World) (k:Key) (v:Value):(mixKind prog w).is k v=keyIs k v:=rfl
theorem mixKind_int (prog:Program) (w:World) (i:Int) (t:Tok):(mixKind prog w).is (.inl i) (.int i t)=true:=keyIs_int i t
theorem mixKind_str (prog:Program) (w:World) (x:Str) (t:Tok):(mixKind prog w).is (.inr x) (.str x t)=true:=keyIs_str x t
end L2
namespace L2
open PySem PySem.Spec PyProof.Rows
inductive V where
 |non|bl (b:Bool)|int (i:Int)|str (x:Str)|byt (b:Array UInt8)|flt (b:UInt64)|ref (a:Addr)|ty (n:String)
 deriving DecidableEq
def RelV:V->Value->Prop
 | .non,u=>u=Value.none
 | .bl b,u=>u=Value.bool b
 | .int i,u=>∃ t,u=Value.int i t
 | .str x,u=>∃ t,u=Value.str x t
 | .byt b,u=>∃ t,u=Value.bytes b t
 | .flt b,u=>∃ t,u=Value.float b t
 | .ref a,u=>u=Value.ref a
 | .ty n,u=>u=Value.type n
abbrev Vals:List V->List Value->Prop:=Paired RelV
theorem Vals.length {xs:List V}{us:List Value} (r:Vals xs us):xs.length=us.length:=Paired.length r
theorem Vals.get:∀ {xs:List V}{us:List Value}{i:Nat}{x:V},Vals xs us->xs[i]?=some x->∃ u,us[i]?=some u/\RelV x u
 |_,_,_,_,.nil,e=>by simp at e
 |_,_,0,_,.cons r _,e=>by simp at e;subst e;exact ⟨_,rfl,r⟩
 |_,_,i+1,x,.cons _ t,e=>by
  obtain ⟨u,h1,h2⟩:=Vals.get (i:=i) (x:=x) t (by simpa using e)
  exact ⟨u,by simpa using h1,h2⟩
theorem Vals.set {x:V}{u:Value} (r:RelV x u):∀ {xs:List V}{us:List Value} (i:Nat),Vals xs us->Vals (xs.set i x) (us.set i u)
 |_,_,_,.nil=>.nil
 |_,_,0,.cons _ t=>.cons r t
 |_,_,i+1,.cons q t=>.cons q (Vals.set r i t)
theorem Vals.append:∀ {xs ys:List V}{us ws:List Value},Vals xs us->Vals ys ws->Vals (xs++ys) (us++ws)
 |_,_,_,_,.nil,s=>s
 |_,_,_,_,.cons r t,s=>.cons r (Vals.append t s)
theorem Vals.take:∀ {xs:List V}{us:List Value} (n:Nat),Vals xs us->Vals (xs.take n) (us.take n)
 |_,_,0,_=>.nil
 |_,_,_+1,.nil=>.nil
 |_,_,n+1,.cons r t=>.cons r (Vals.take n t)
theorem Vals.drop:∀ {xs:List V}{us:List Value} (n:Nat),Vals xs us->Vals (xs.drop n) (us.drop n)
 |_,_,0,r=>r
 |_,_,_+1,.nil=>.nil
 |_,_,n+1,.cons _ t=>Vals.drop n t
def RelO:Option V->Option Value->Prop
 |some v,some u=>RelV v u
 |none,none=>True
 |_,_=>False
def KV {κ:Type}:List (κ×V)->List (κ×Value)->Prop:=Paired λ(p:κ×V) (q:κ×Value)=>p.1=q.1/\RelV p.2 q.2
def kV:Key->V
 | .inl i=>.int i
 | .inr x=>.str x
inductive HO where
 |lst (xs:List V)
 |tup (xs:List V)
 |dK (kvs:List (Key×V))|dT (kvs:List (List Key×V))
 |set (S:Int->Bool) (n:Nat)
 |ins (C dx:Addr) (fs:List (Str×V))
 |own (x:Addr)
 |xd (fs:List (Str×V))
 |met (f x:Addr)
 |rng (lo hi:Int)
 |frz (o:Obj) (u:HO)
 |tbl (ps:Array Value)
 |ext (φ:Heap->Prop)
abbrev Hp:=Addr->Option HO
def upd (H:Hp) (a:Addr) (o:HO):Hp:=λb=>if b=a then some o else H b
theorem upd_same {H:Hp}{a:Addr}{o:HO}:upd H a o a=some o:=by unfold upd;rw [if_pos rfl]
theorem upd_ne {H:Hp}{a b:Addr}{o:HO} (h:b≠a):upd H a o b=H b:=by unfold upd;rw [if_neg h]
theorem upd_upd {H:Hp}{a:Addr}{o u:HO}:upd (upd H a o) a u=upd H a u:=by
 funext b;unfold upd;split<;>rfl
theorem ne_of {H:Hp}{a b:Addr}{o u:HO} (h:H a=some o) (h':H b=some u) (d:o≠u):a≠b:=by
 intro e;subst e;rw [h] at h';exact d (Option.some.inj h')
theorem ne_of_none {H:Hp}{a b:Addr}{o:HO} (h:H a=some o) (h':H b=none):a≠b:=by
 intro e;subst e;rw [h] at h';cases h'
section
variable (P:Program) (w:World)
def ObjOk (H:Hp) (h:Heap) (a:Addr):HO->Prop
 | .lst xs=>xs.length<=sizeLine/\∃ (its:List Value) (n:Nat),Vals xs its/\h.get? a=some { cls:=.type "list",data:=.seq its.toArray n }
 | .tup xs=>xs.length<=sizeLine/\∃ its:List Value,Vals xs its/\IsTup h a its.toArray
 | .dK kvs=>kvs.length<=sizeLine/\(a == sysModules)=false/\∃ vs,KV kvs vs/\h.DictOf (mixKind P w) a vs
 | .dT kvs=>kvs.length<=sizeLine/\(a == sysModules)=false/\∃ xs:List (List Key×Addr×Value),
   Paired (λ(p:List Key×V) (q:List Key×Addr×Value)=>p.1=q.1/\H q.2.1=some (.tup (p.1.map kV))/\RelV p.2 q.2.2) kvs xs/\
   ∃ o es ep,h.get? a=some o/\o.ExactDict/\o.data=.dict es ep/\es.toList=xs.map (entryOfKey (tupleKind (mixKind P w)))/\(xs.map (·.1)).Nodup
 | .set S n=>h.SetOf (intKind P w) a S n
 | .ins C dx fs=>H dx=some (.own a)/\fs.length<=1000/\dx≠a/\h.get? a=some (PySem.W.instObj C dx)/\
   ∃ mA,h.Ns1 dx mA/\(∀ f,RelO (fs.lookup f) (mA f))/\PySem.Within mA (fs.map (·.1))
 | .own _=>∃ o,h.get? a=some o
 | .xd fs=>∃ mA,h.Ns1 a mA/\∀ f,RelO (fs.lookup f) (mA f)
 | .rng lo hi=>∃ t u v,h.get? a=some { cls:=.type "range",data:=.fields #[.int lo t,.int hi u,.int 1 v] }
 | .frz o u=>h.get? a=some o/\ObjOk H h a u
 | .tbl ps=>h.get? a=some { cls:=.none,data:=.fields ps }
 | .met f x=>h.get? a=some (PySem.W.methodObj (.ref f) (.ref x))
 | .ext φ=>φ h/\(∃ o,h.get? a=some o)/\∀ h1 h2:Heap,φ h1->(∀ o,h1.get? a=some o->h2.get? a=some o)->φ h2
def HOk (H:Hp) (h:Heap):Prop:=∀ a o,H a=some o->ObjOk P w H h a o
end
section
variable {P:Program}{w:World}{H H':Hp}{h h':Heap}{a:Addr}{o:HO}
theorem ObjOk.lt (x:ObjOk P w H h a o):a<h.objs.size:=by
 cases o with
 |lst xs=>obtain ⟨_,_,_,_,e⟩:=x;exact Heap.lt_size e
 |tup xs=>obtain ⟨_,_,_,p⟩:=x;exact p.lt
 |dK kvs=>obtain ⟨_,_,_,_,o,_,_,e,_⟩:=x;exact Heap.lt_size e
 |dT kvs=>obtain ⟨_,_,_,_,o,_,_,e,_⟩:=x;exact Heap.lt_size e
 |set S n=>obtain ⟨o,_,_,_,e,_⟩:=x;exact Heap.lt_size e
 |ins C dx fs=>obtain ⟨_,_,_,e,_⟩:=x;exact Heap.lt_size e
 |own y=>obtain ⟨_,e⟩:=x;exact Heap.lt_size e
 |xd fs=>obtain ⟨_,⟨_,_,_,e,_⟩,_⟩:=x;exact Heap.lt_size e
 |rng lo hi=>obtain ⟨_,_,_,e⟩:=x;exact Heap.lt_size e
 |frz ob u=>obtain ⟨e,_⟩:=x;exact Heap.lt_size e
 |tbl ps=>exact Heap.lt_size (show h.get? a=some _ from x)
 |met f y=>exact Heap.lt_size (show h.get? a=some _ from x)
 |ext φ=>obtain ⟨_,⟨_,e⟩,_⟩:=x;exact Heap.lt_size e
theorem Paired.mapP {α β:Type}{F G:α->β->Prop}:∀ {l₁:List α}{l₂:List β},Paired F l₁ l₂->(∀ a b,F a b->G a b)->Paired G l₁ l₂
 |_,_,.nil,_=>.nil
 |_,_,.cons r t,f=>.cons (f _ _ r) (Paired.mapP t f)
theorem ObjOk.stay (x:ObjOk P w H h a o) (k:∀ b u,(b=a∨H b=some (.own a))->h.get? b=some u->h'.get? b=some u)
  (ho:∀ b,H b=some (.own a)->H' b=some (.own a)) (ht:∀ b xs,H b=some (.tup xs)->H' b=some (.tup xs)):ObjOk P w H' h' a o:=by
 induction o with
 |lst xs=>obtain ⟨z,its,n,r,e⟩:=x;exact ⟨z,its,n,r,k _ _ (.inl rfl) e⟩
 |tup xs=>obtain ⟨z,its,r,ob,e,c⟩:=x;exact ⟨z,its,r,ob,k _ _ (.inl rfl) e,c⟩
 |dK kvs=>obtain ⟨z,y,vs,r,ob,es,ep,e,c⟩:=x;exact ⟨z,y,vs,r,ob,es,ep,k _ _ (.inl rfl) e,c⟩
 |dT kvs=>
  obtain ⟨z,y,xs,r,ob,es,ep,e,c⟩:=x
  exact ⟨z,y,xs,Paired.mapP r λp q z=>⟨z.1,ht _ _ z.2.1,z.2.2⟩,ob,es,ep,k _ _ (.inl rfl) e,c⟩
 |set S n=>obtain ⟨ob,es,ep,t,e,c⟩:=x;exact ⟨ob,es,ep,t,k _ _ (.inl rfl) e,c⟩
 |ins C dx fs=>
  obtain ⟨d,z,ne,e,mA,⟨od,es,ep,e2,c⟩,r⟩:=x
  exact ⟨ho _ d,z,ne,k _ _ (.inl rfl) e,mA,⟨od,es,ep,k _ _ (.inr d) e2,c⟩,r⟩
 |own y=>obtain ⟨ob,e⟩:=x;exact ⟨ob,k _ _ (.inl rfl) e⟩
 |xd fs=>obtain ⟨mA,⟨od,es,ep,e,c⟩,r⟩:=x;exact ⟨mA,⟨od,es,ep,k _ _ (.inl rfl) e,c⟩,r⟩
 |rng lo hi=>obtain ⟨t,u,v,e⟩:=x;exact ⟨t,u,v,k _ _ (.inl rfl) e⟩
 |frz ob u ih=>obtain ⟨e,q⟩:=x;exact ⟨k _ _ (.inl rfl) e,ih q⟩
 |tbl ps=>
  have e:h.get? a=some { cls:=.none,data:=.fields ps }:=x
  show h'.get? a=some { cls:=.none,data:=.fields ps }
  exact k a _ (.inl rfl) e
 |met f y=>
  have e:h.get? a=some (PySem.W.methodObj (.ref f) (.ref y)):=x
  show h'.get? a=some (PySem.W.methodObj (.ref f) (.ref y))
  exact k a _ (.inl rfl) e
 |ext φ=>obtain ⟨p,⟨o,e⟩,st⟩:=x;exact ⟨st _ _ p λo q=>k _ _ (.inl rfl) q,⟨o,k _ _ (.inl rfl) e⟩,st⟩
theorem HOk.lt (x:HOk P w H h) (e:H a=some o):a<h.objs.size:=(x a o e).lt
theorem HOk.fresh (x:HOk P w H h) (e:h.objs.size<=a):H a=none:=by
 cases q:H a with
 |none=>rfl
 |some u=>exact absurd (Nat.lt_of_lt_of_le (x.lt q) e) (Nat.lt_irrefl _)
theorem HOk.kept (x:HOk P w H h) (k:∀ b u,h.get? b=some u->h'.get? b=some u):HOk P w H h':=λa o e=>
 (x a o e).stay (λb u _ q=>k b u q) (λ_ q=>q) λ_ _ q=>q
theorem HOk.laid (x:HOk P w H h) (k:∀ b u,h.get? b=some u->h'.get? b=some u) (hp:h.objs.size<=a) (new:ObjOk P w (upd H a o) h' a o):HOk P w (upd H a o) h':=λb u e=>by
 have hn:=x.fresh hp
 by_cases hb:b=a
 ·subst hb;rw [upd_same] at e;cases e;exact new
 ·rw [upd_ne hb] at e
  exact (x b u e).stay (λc v _ q=>k c v q) (λc q=>by rw [upd_ne (ne_of_none q hn)];exact q) λc xs q=>by rw [upd_ne (ne_of_none q hn)];exact q
end
def Rd (H:Hp) (a:Addr) (u:HO):Prop:=H a=some u∨∃ o,H a=some (.frz o u)
theorem Rd.ok {P:Program}{w:World}{H:Hp}{h:Heap}{a:Addr}{u:HO} (r:Rd H a u) (x:HOk P w H h):ObjOk P w H h a u:=by
 rcases r with r|⟨o,r⟩
 ·exact x a u r
 ·obtain ⟨_,q⟩:=x a _ r
  exact q
def Mut:Option HO->Prop
 |some (.lst _)=>True
 |some (.dK _)=>True
 |some (.dT _)=>True
 |some (.set _ _)=>True
 |some (.ins _ _ _)=>True
 |some (.ext _)=>True
 |_=>False
section
variable {P:Program}{w:World}{H:Hp}{h h':Heap}{x e:Addr}{o':HO}
theorem HOk.write (ok:HOk P w H h) (mu:Mut (H x)) (he:e=x∨H e=some (.own x)) (k:∀ b u,b≠e->h.get? b=some u->h'.get? b=some u) (heo:∃ u,h'.get? e=some u)
  (new:ObjOk P w (upd H x o') h' x o'):HOk P w (upd H x o') h':=λb u q=>by
 have nown:∀ c y,H c=some (.own y)->c≠x:=λc y r z=>by subst z;rw [r] at mu;exact mu
 have ntup:∀ c xs,H c=some (.tup xs)->c≠x:=λc xs r z=>by subst z;rw [r] at mu;exact mu
 by_cases hb:b=x
 ·subst hb;rw [upd_same] at q;cases q;exact new
 ·rw [upd_ne hb] at q
  by_cases hbe:b=e
  ·have q':H b=some (.own x):=by
    rcases he with z|z
    ·exact absurd (hbe.trans z) hb
    ·rw [hbe];exact z
   rw [q] at q';cases q'
   obtain ⟨v,hv⟩:=heo
   exact ⟨v,by rw [hbe];exact hv⟩
  ·refine (ok b u q).stay (λc v hc r=>k c v ?_ r) (λc r=>by rw [upd_ne (nown c b r)];exact r) λc xs r=>by rw [upd_ne (ntup c xs r)];exact r
   rcases hc with rfl|hc
   ·exact hbe
   ·rintro rfl
    rcases he with z|z
    ·exact nown c b hc z
    ·rw [hc] at z;cases z;exact hb rfl
end
structure Un (fs ex:List Addr) (H H':Hp) (h h':Heap):Prop where
 keep:∀ b o,h.get? b=some o->H b=none->b ∉ fs->b ∉ ex->h'.get? b=some o
 slot:∀ b o,h.get? b=some o->H b=none->b∈fs->b ∉ ex->∃ sl,h'.get? b=some { o with slots:=sl }
 free:∀ b o,h.get? b=some o->H b=none->b ∉ ex->H' b=none
 there:∀ b o,h.get? b=some o->b ∉ ex->∃ o',h'.get? b=some o'
 tups:∀ b xs,H b=some (.tup xs)->H' b=some (.tup xs)
 frzs:∀ b o u,H b=some (.frz o u)->H' b=some (.frz o u)
 tbls:∀ b ps,H b=some (.tbl ps)->∃ more,H' b=some (.tbl (ps++more))
section
variable {fs fs' ex ex':List Addr}{H H1 H2:Hp}{h h1 h2 h':Heap}{a x e:Addr}{o:HO}
theorem Un.any (u:Un fs ex H H1 h h1) {b:Addr}{ob:Obj} (q:h.get? b=some ob) (n:H b=none) (hx:b ∉ ex):∃ sl,h1.get? b=some { ob with slots:=sl }:=by
 by_cases hb:b∈fs
 ·exact u.slot b ob q n hb hx
 ·exact ⟨ob.slots,u.keep b ob q n hb hx⟩
theorem Un.kept (k:∀ b u,h.get? b=some u->h'.get? b=some u):Un fs ex H H h h':=
 ⟨λb ob q _ _ _=>k b ob q,λb ob q _ _ _=>⟨ob.slots,k b ob q⟩,λ_ _ _ n _=>n,λb ob q _=>⟨ob,k b ob q⟩,λ_ _ q=>q,λ_ _ _ q=>q,λ_ ps q=>⟨#[],by rw [q];simp⟩⟩
theorem Un.refl:Un fs ex H H h h:=Un.kept λ_ _ q=>q
theorem Un.laid (k:∀ b u,h.get? b=some u->h'.get? b=some u) (hp:h.objs.size<=a) (hn:H a=none):Un fs ex H (upd H a o) h h' where
 keep:=λb u q _ _ _=>k b u q
 slot:=λb u q _ _ _=>⟨u.slots,k b u q⟩
 free:=λb u q n _=>by rw [upd_ne (Nat.ne_of_lt (Nat.lt_of_lt_of_le (Heap.lt_size q) hp))];exact n
 there:=λb u q _=>⟨u,k b u q⟩
 tups:=λb xs q=>by rw [upd_ne (ne_of_none q hn)];exact q
 frzs:=λb u xs q=>by rw [upd_ne (ne_of_none q hn)];exact q
 tbls:=λb ps q=>⟨#[],by rw [upd_ne (ne_of_none q hn),q];simp⟩
theorem Un.write (mu:Mut (H x)) (he:e=x∨H e=some (.own x)) (k:∀ b u,b≠e->h.get? b=some u->h'.get? b=some u) (heo:∃ u,h'.get? e=some u):Un fs ex H (upd H x o) h h':=by
 have hx:∀ b,H b=none->b≠x:=λb n z=>by subst z;rw [n] at mu;exact mu
 have hb:∀ b,H b=none->b≠e:=λb n z=>by
  subst z
  rcases he with r|r
  ·exact hx b n r
  ·rw [n] at r;cases r
 have hm:∀ b u,H b=some u->¬ Mut (some u)->b≠x:=λb u q nm z=>by subst z;rw [q] at mu;exact nm mu
 refine ⟨λb u q n _ _=>k b u (hb b n) q,λb u q n _ _=>⟨u.slots,k b u (hb b n) q⟩,λb u q n _=>by rw [upd_ne (hx b n)];exact n,λb u q _=>?_,
  λb xs q=>by rw [upd_ne (hm b _ q λz=>z)];exact q,λb u xs q=>by rw [upd_ne (hm b _ q λz=>z)];exact q,λb ps q=>⟨#[],by rw [upd_ne (hm b _ q λz=>z),q];simp⟩⟩
 by_cases hbe:b=e
 ·subst hbe;exact heo
 ·exact ⟨u,k b u hbe q⟩
end
def trk (h:Heap) (H:Hp):List Addr:=(List.range h.objs.size).filter λa=>(H a).isSome
def hidT (h:Heap) (H:Hp):Heap:=PySem.W.hideAll h (trk h H)
theorem hidT_size (h:Heap) (H:Hp):(hidT h H).objs.size=h.objs.size:=PySem.W.hideAll_size _ _
theorem hidT_get {h:Heap}{H:Hp}{b:Addr}{o:Obj} (e:h.get? b=some o) (n:H b=none):(hidT h H).get? b=some o:=
 PySem.W.hideAll_get _ e λhm=>by
  have q:(H b).isSome=true:=(List.mem_filter.mp hm).2
  rw [n] at q;simp at q
theorem of_hidT {h:Heap}{H:Hp}{b:Addr}{o:Obj} (e:(hidT h H).get? b=some o):h.get? b=some o/\H b=none:=by
 have e':h.get? b=some o:=PySem.W.of_hideAll (trk h H) e
 refine ⟨e',?_⟩
 cases q:H b with
 |none=>rfl
 |some x=>
  have hm:b∈trk h H:=List.mem_filter.mpr ⟨List.mem_range.mpr (Heap.lt_size e'),by simp [q]⟩
  have z:(hidT h H).get? b=none:=PySem.W.hideAll_none (trk h H) hm
  rw [z] at e;cases e
end L2
namespace L2
open PySem PySem.Spec PyProof.Rows
structure Mod (K:PySem.W.Frag) (mg:Str->Option Value) (base:Heap):Prop where
 kin:K.In base
 glob:base.Ns mainGlobals mg
 blt:∃ mb,base.Ns builtinsNs mb/\∀ x:Str,x≠"__name__"->mb x=bootBuiltins x
 nolimit:base.NoLimit
structure Cx where
 prog:Program
 w:World
 K:PySem.W.Frag
 mg:Str->Option Value
 base:Heap
 A:Around
 N:List Str
 s₀:Shared
 H₀:Hp
 env:Env
 outer:List Env
 stack:List Env
 ex:List Addr
 fn:Str->Bool
 calm:Bool
 pn:List (Addr×Obj)
 xe:Value->Shared->Prop
def frs (l:List Env):List Addr:=l.filterMap (·.frame)
abbrev Cx.fs (X:Cx):List Addr:=frs X.outer
def Vis (sc:Scope) (x:Str):Prop:=sc.names.lookup x=some .local∨sc.names.lookup x=some .cell∨sc.names.lookup x=some .free
def Loc (sc:Scope) (x:Str):Prop:=sc.names.lookup x=some .local∨sc.names.lookup x=some .cell
def Look (env:Env) (h:Heap) (m:Str->Option Value) (x:Str) (u:Value):Prop:=
 (env.kindOf x=some .local/\m x=some u)∨((env.kindOf x=some .cell∨env.kindOf x=some .free)/\∃ c,env.cells.lookup x=some c/\h.IsCell c (some u))
structure Cx.Ok (X:Cx):Prop where
 mod:Mod X.K X.mg X.base
 kind:X.env.scope.kind=.function
 glob:X.env.globals=mainGlobals
 blt:X.env.builtins=builtinsNs
 above:X.s₀.heap.objs.size<=X.env.locals
 inj:∀ x y c,X.env.cells.lookup x=some c->X.env.cells.lookup y=some c->x=y
 has:∀ x,(X.env.kindOf x=some .cell∨X.env.kindOf x=some .free)->∃ c,X.env.cells.lookup x=some c
 cab:∀ x c,X.fn x=true->X.env.cells.lookup x=some c->X.s₀.heap.objs.size<=c
 hd:X.calm=true->X.A.handled=none
 frames:X.A.frames=some X.stack
 stk:X.stack=X.outer∨(X.stack=X.env::X.outer/\X.env.frame=some X.env.locals)
 exf:∀ b∈X.ex,b≠X.env.locals/\∀ x c,X.env.cells.lookup x=some c->c≠b
 bs:∀ b o,X.base.get? b=some o->X.s₀.heap.get? b=some o/\X.H₀ b=none
 bsz:X.base.objs.size<=X.s₀.heap.objs.size
 noex:∀ b o,X.base.get? b=some o->b ∉ X.ex
 exfs:∀ b∈X.ex,b ∉ X.fs
 funs:X.s₀.heap.FunFrames X.base X.outer
 frf:∀ b∈X.fs,X.H₀ b=none
structure Inv (X:Cx) (pins:List (Addr×Obj)) (σ:List (Option V)) (H:Hp) (s:Shared):Prop where
 ok:X.Ok
 os:s.os=X.s₀.os
 bare:AllBare s.gens
 base:Un X.fs X.ex X.H₀ H X.s₀.heap s.heap
 loc:∃ m,s.heap.Ns X.env.locals m/\∀ (i:Nat) (x:Str) (v:V),X.N[i]?=some x->σ[i]?=some (some v)->Vis X.env.scope x->∃ u,RelV v u/\Look X.env s.heap m x u
 cell:∀ x c,X.env.cells.lookup x=some c->∃ v,s.heap.IsCell c v
 free:H X.env.locals=none
 freeC:∀ x c,X.env.cells.lookup x=some c->H c=none
 pin:∀ p∈X.pn++pins,s.heap.get? p.1=some p.2/\H p.1=none/\p.1≠X.env.locals/\p.1 ∉ X.fs/\∀ v,p.2.data≠.cell v
 hok:HOk X.prog X.w H s.heap
 len:σ.length=X.N.length
section
variable {X:Cx}{pins:List (Addr×Obj)}{σ:List (Option V)}{H H':Hp}{s:Shared}{h':Heap}
theorem Cx.Ok.nofr (ok:X.Ok) {b:Addr}{o:Obj} (e:X.base.get? b=some o):b ∉ X.fs:=λhb=>by
 have:=(ok.funs.mem hb).1
 rw [e] at this;cases this
theorem Inv.bs (I:Inv X pins σ H s):∀ b o,X.base.get? b=some o->s.heap.get? b=some o/\H b=none:=λb o e=>
 ⟨I.base.keep b o (I.ok.bs b o e).1 (I.ok.bs b o e).2 (I.ok.nofr e) (I.ok.noex b o e),I.base.free b o (I.ok.bs b o e).1 (I.ok.bs b o e).2 (I.ok.noex b o e)⟩
theorem Inv.bk (I:Inv X pins σ H s):∀ b o,X.base.get? b=some o->s.heap.get? b=some o:=λb o e=>(I.bs b o e).1
theorem Inv.mod (I:Inv X pins σ H s):Mod X.K X.mg X.base:=I.ok.mod
theorem Inv.kIn (I:Inv X pins σ H s):X.K.In s.heap:=I.ok.mod.kin.keeps I.bk
theorem Inv.lt (I:Inv X pins σ H s):X.env.locals<s.heap.objs.size:=let ⟨_,hn,_⟩:=I.loc;hn.lt
theorem Inv.sz (I:Inv X pins σ H s):X.s₀.heap.objs.size<=s.heap.objs.size:=Nat.le_trans I.ok.above (Nat.le_of_lt I.lt)
theorem Inv.nofs (I:Inv X pins σ H s) {a:Addr} (h:s.heap.objs.size<=a):a ∉ X.fs:=λhb=>by
 obtain ⟨_,o,ho,_⟩:=I.ok.funs.mem hb
 exact absurd (Nat.lt_of_lt_of_le (Heap.lt_size ho) (Nat.le_trans I.sz h)) (Nat.lt_irrefl _)
theorem Inv.cne (I:Inv X pins σ H s):∀ x c,X.env.cells.lookup x=some c->c≠X.env.locals:=λx c e z=>by
 obtain ⟨v,o,ho,hd⟩:=I.cell x c e
 obtain ⟨m,⟨o',es,ep,ho',hd',_⟩,_⟩:=I.loc
 rw [z,ho'] at ho;cases ho;rw [hd'] at hd;cases hd
theorem Inv.funs (I:Inv X pins σ H s):s.heap.FunFrames X.base X.outer:=by
 have all:∀ (l:List Env),(∀ b∈frs l,b∈X.fs)->X.s₀.heap.FunFrames X.base l->s.heap.FunFrames X.base l:=by
  intro l
  induction l with
  |nil=>intro _ _;trivial
  |cons env r ih=>
   intro hs hl
   obtain ⟨hk,⟨L,o,hf,hn,ho,hd⟩,hr⟩:=hl
   have hL:L∈X.fs:=hs L (by unfold frs;rw [List.filterMap_cons,hf];exact List.mem_cons_self)
   obtain ⟨sl,e⟩:=I.base.slot L o ho (I.ok.frf L hL) hL λz=>I.ok.exfs L z hL
   exact ⟨hk,⟨L,_,hf,hn,e,hd⟩,ih (λb hb=>hs b (by unfold frs;rw [List.filterMap_cons,hf];exact List.mem_cons_of_mem _ hb)) hr⟩
 exact all X.outer (λ_ hb=>hb) I.ok.funs
theorem Inv.stack (I:Inv X pins σ H s):s.heap.FunFrames X.base X.stack:=by
 rcases I.ok.stk with e|⟨e,hf⟩
 ·rw [e];exact I.funs
 ·rw [e]
  obtain ⟨m,hn,_⟩:=I.loc
  refine .cons (by rw [I.ok.kind];decide) hf hn ?_ I.funs
  exact Heap.get?_none_of_le (Nat.le_trans I.ok.bsz I.ok.above)
theorem Inv.stkSub (I:Inv X pins σ H s):∀ b∈frs X.stack,b∈X.env.locals::X.fs:=λb hb=>by
 rcases I.ok.stk with e|⟨e,hf⟩
 ·rw [e] at hb;exact List.mem_cons_of_mem _ hb
 ·rw [e] at hb
  unfold frs at hb
  rw [List.filterMap_cons,hf] at hb
  exact hb
theorem Inv.stkFree (I:Inv X pins σ H s):∀ b∈frs X.stack,H b=none:=λb hb=>by
 rcases List.mem_cons.mp (I.stkSub b hb) with e|hb
 ·rw [e];exact I.free
 ·obtain ⟨_,o,ho,_⟩:=I.ok.funs.mem hb
  exact I.base.free b o ho (I.ok.frf b hb) λz=>I.ok.exfs b z hb
theorem Inv.step {g':Array GenState}{t':Nat}{d':Drawn}{ch:List Addr} (I:Inv X pins σ H s)
  (hch:∀ b∈ch,(b∈X.ex∨X.s₀.heap.objs.size<=b)/\b≠X.env.locals/\(∀ x c,X.env.cells.lookup x=some c->c≠b)/\∀ p∈X.pn++pins,p.1≠b)
  (keep:∀ b o,b≠X.env.locals->b ∉ X.fs->b ∉ ch->s.heap.get? b=some o->H b=none->h'.get? b=some o)
  (slot:∀ b o,b≠X.env.locals->b∈X.fs->b ∉ ch->s.heap.get? b=some o->H b=none->∃ sl,h'.get? b=some { o with slots:=sl }) (free:∀ b o,b ∉ ch->s.heap.get? b=some o->H b=none->H' b=none)
  (there:∀ b o,b ∉ ch->s.heap.get? b=some o->∃ o',h'.get? b=some o')
  (tups:∀ b xs,H b=some (.tup xs)->H' b=some (.tup xs)) (frzs:∀ b o u,H b=some (.frz o u)->H' b=some (.frz o u)) (tbls:∀ b ps,H b=some (.tbl ps)->∃ more,H' b=some (.tbl (ps++more)))
  (ns:∀ m,s.heap.Ns X.env.locals m->h'.Ns X.env.locals m) (hok:HOk X.prog X.w H' h') (hg:AllBare g') :
  Inv X pins σ H' { s with heap:=h',gens:=g',drawn:=d',toks:=t' }:=by
 have neL:∀ b o,X.s₀.heap.get? b=some o->b≠X.env.locals:=λb o e=>Nat.ne_of_lt (Nat.lt_of_lt_of_le (Heap.lt_size e) I.ok.above)
 have neC:∀ b o,X.s₀.heap.get? b=some o->b ∉ X.ex->b ∉ ch:=λb o e hx hb=>by
  rcases (hch b hb).1 with z|z
  ·exact hx z
  ·exact absurd (Nat.lt_of_lt_of_le (Heap.lt_size e) z) (Nat.lt_irrefl _)
 have cellK:∀ x c,X.env.cells.lookup x=some c->∀ v,s.heap.IsCell c v->h'.IsCell c v:=λx c e v ⟨o,ho,hd⟩=>by
  have nch:c ∉ ch:=λz=>(hch c z).2.2.1 x c e rfl
  by_cases hc:c∈X.fs
  ·obtain ⟨sl,q⟩:=slot c o (I.cne x c e) hc nch ho (I.freeC x c e)
   exact ⟨_,q,hd⟩
  ·exact ⟨o,keep c o (I.cne x c e) hc nch ho (I.freeC x c e),hd⟩
 refine ⟨I.ok,I.os,hg,⟨λb o e n hb hx=>?_,λb o e n hb hx=>?_,λb o e n hx=>?_,λb o e hx=>?_,λb xs e=>tups b xs (I.base.tups b xs e),λb o xs e=>frzs b o xs (I.base.frzs b o xs e),λb ps e=>?_⟩,?_,λx c e=>?_,?_,λx c e=>?_,λp hp=>?_,hok,I.len⟩
 ·exact keep b o (neL b o e) hb (neC b o e hx) (I.base.keep b o e n hb hx) (I.base.free b o e n hx)
 ·obtain ⟨sl,e1⟩:=I.base.slot b o e n hb hx
  obtain ⟨sl',e2⟩:=slot b _ (neL b o e) hb (neC b o e hx) e1 (I.base.free b o e n hx)
  exact ⟨sl',e2⟩
 ·obtain ⟨o',e1⟩:=I.base.there b o e hx
  exact free b o' (neC b o e hx) e1 (I.base.free b o e n hx)
 ·obtain ⟨o',e1⟩:=I.base.there b o e hx
  exact there b o' (neC b o e hx) e1
 ·obtain ⟨m1,e1⟩:=I.base.tbls b ps e
  obtain ⟨m2,e2⟩:=tbls b _ e1
  exact ⟨m1++m2,by rw [e2,Array.append_assoc]⟩
 ·obtain ⟨m,hn,hl⟩:=I.loc
  refine ⟨m,ns m hn,λi x v e1 e2 e3=>?_⟩
  obtain ⟨u,r,l⟩:=hl i x v e1 e2 e3
  refine ⟨u,r,?_⟩
  rcases l with l|⟨k,c,e,z⟩
  ·exact .inl l
  ·exact .inr ⟨k,c,e,cellK x c e _ z⟩
 ·obtain ⟨v,z⟩:=I.cell x c e
  exact ⟨v,cellK x c e v z⟩
 ·obtain ⟨m,⟨o,_,_,ho,_⟩,_⟩:=I.loc
  exact free _ o (λz=>(hch _ z).2.1 rfl) ho I.free
 ·obtain ⟨v,o,ho,hd⟩:=I.cell x c e
  exact free c o (λz=>(hch c z).2.2.1 x c e rfl) ho (I.freeC x c e)
 ·obtain ⟨e,n,ne,nf,d⟩:=I.pin p hp
  have nch:p.1 ∉ ch:=λz=>(hch p.1 z).2.2.2 p hp rfl
  exact ⟨keep p.1 p.2 ne nf nch e n,free p.1 p.2 nch e n,ne,nf,d⟩
theorem Inv.un {t':Nat} (I:Inv X pins σ H s) (u:Un X.fs [] H H' s.heap h') (hok:HOk X.prog X.w H' h'):Inv X pins σ H' { s with heap:=h',toks:=t' }:=by
 obtain ⟨m,⟨o,es,ep,ho,r⟩,_⟩:=id I.loc
 obtain ⟨sl,hL⟩:=u.any ho I.free (by simp)
 exact I.step (g':=s.gens) (d':=s.drawn) (ch:=[]) (λ_ z=>nomatch z) (λb o _ hb _ e n=>u.keep b o e n hb (by simp)) (λb o _ hb _ e n=>u.slot b o e n hb (by simp)) (λb o _ e n=>u.free b o e n (by simp)) (λb o _ e=>u.there b o e (by simp)) u.tups u.frzs u.tbls (λm' hm=>by
  obtain ⟨o',es',ep',ho',r'⟩:=hm
  rw [ho] at ho';cases ho'
  exact ⟨_,es',ep',hL,r'⟩) hok I.bare
theorem Inv.call {g':Array GenState}{t':Nat}{d':Drawn}{ch:List Addr} (I:Inv X pins σ H s) (u:Un (frs X.stack) ch H H' s.heap h') (hok:HOk X.prog X.w H' h') (hg:AllBare g')
  (hch:∀ b∈ch,(b∈X.ex∨X.s₀.heap.objs.size<=b)/\b≠X.env.locals/\(∀ x c,X.env.cells.lookup x=some c->c≠b)/\∀ p∈X.pn++pins,p.1≠b) :
  Inv X pins σ H' { s with heap:=h',gens:=g',drawn:=d',toks:=t' }:=by
 obtain ⟨m,⟨o,es,ep,ho,r⟩,_⟩:=id I.loc
 obtain ⟨sl,hL⟩:=u.any ho I.free λz=>(hch _ z).2.1 rfl
 exact I.step (ch:=ch) hch (λb o hL hb hc e n=>u.keep b o e n (λz=>(List.mem_cons.mp (I.stkSub b z)).elim hL hb) hc) (λb o _ _ hc e n=>u.any e n hc) (λb o hc e n=>u.free b o e n hc) (λb o hc e=>u.there b o e hc) u.tups u.frzs u.tbls (λm' hm=>by
  obtain ⟨o',es',ep',ho',r'⟩:=hm
  rw [ho] at ho';cases ho'
  exact ⟨_,es',ep',hL,r'⟩) hok hg
theorem Inv.turned {t':Nat}{it:Addr} (I:Inv X pins σ H s) (k:∀ b o,b≠it->s.heap.get? b=some o->h'.get? b=some o) (hn:H it=none) (hL:it≠X.env.locals)
  (h1:it∈X.ex∨X.s₀.heap.objs.size<=it) (h2:∀ x c,X.env.cells.lookup x=some c->c≠it) (h3:∀ p∈X.pn++pins,p.1≠it):Inv X pins σ H { s with heap:=h',toks:=t' }:=by
 have nit:∀ b u,H b=some u->b≠it:=λb u e z=>by rw [z,hn] at e;cases e
 refine I.step (g':=s.gens) (d':=s.drawn) (ch:=[it]) (λb hb=>?_) (λb o _ _ hc e _=>k b o (λz=>hc (by simp [z])) e) (λb o _ _ hc e _=>⟨o.slots,k b o (λz=>hc (by simp [z])) e⟩) (λ_ _ _ _ n=>n)
  (λb o hc e=>⟨o,k b o (λz=>hc (by simp [z])) e⟩) (λ_ _ e=>e) (λ_ _ _ e=>e) (λb ps e=>⟨#[],by rw [e];simp⟩) (λm hm=>?_) (λb u e=>?_) I.bare
 ·have e:b=it:=by simpa using hb
  subst e
  exact ⟨h1,hL,h2,h3⟩
 ·obtain ⟨o,es,ep,ho,r⟩:=hm
  exact ⟨o,es,ep,k _ o (Ne.symm hL) ho,r⟩
 ·refine (I.hok b u e).stay (λc v hc q=>k c v ?_ q) (λ_ q=>q) λ_ _ q=>q
  rcases hc with z|z
  ·rw [z];exact nit b u e
  ·exact nit c _ z
theorem Inv.tok (I:Inv X pins σ H s) (t:Nat):Inv X pins σ H { s with toks:=t }:=I.un (h':=s.heap) (t':=t) Un.refl I.hok
theorem Inv.kept {t':Nat} (I:Inv X pins σ H s) (k:∀ b u,s.heap.get? b=some u->h'.get? b=some u):Inv X pins σ H { s with heap:=h',toks:=t' }:=I.un (Un.kept k) (I.hok.kept k)
theorem Inv.laid {a:Addr}{o:HO}{t':Nat} (I:Inv X pins σ H s) (k:∀ b u,s.heap.get? b=some u->h'.get? b=some u) (hp:s.heap.objs.size<=a) (new:ObjOk X.prog X.w (upd H a o) h' a o) :
  Inv X pins σ (upd H a o) { s with heap:=h',toks:=t' }:=I.un (Un.laid k hp (I.hok.fresh hp)) (I.hok.laid k hp new)
theorem Inv.write {x e:Addr}{o:HO}{t':Nat} (I:Inv X pins σ H s) (mu:Mut (H x)) (he:e=x∨H e=some (.own x)) (k:∀ b u,b≠e->s.heap.get? b=some u->h'.get? b=some u) (heo:∃ u,h'.get? e=some u)
  (new:ObjOk X.prog X.w (upd H x o) h' x o):Inv X pins σ (upd H x o) { s with heap:=h',toks:=t' }:=I.un (Un.write mu he k heo) (I.hok.write mu he k heo new)
theorem Inv.pins_of {pins':List (Addr×Obj)} (I:Inv X pins σ H s) (h:∀ p∈pins',s.heap.get? p.1=some p.2/\H p.1=none/\p.1≠X.env.locals/\p.1 ∉ X.fs/\∀ v,p.2.data≠.cell v):Inv X pins' σ H s:=
 ⟨I.ok,I.os,I.bare,I.base,I.loc,I.cell,I.free,I.freeC,λp hp=>(List.mem_append.mp hp).elim (λz=>I.pin p (List.mem_append_left _ z)) (h p),I.hok,I.len⟩
theorem nodup_ix {N:List Str} (hN:N.Nodup) {i j:Nat}{x:Str} (a:N[i]?=some x) (b:N[j]?=some x):i=j:=by
 obtain ⟨h1,e1⟩:=List.getElem?_eq_some_iff.mp a
 obtain ⟨h2,e2⟩:=List.getElem?_eq_some_iff.mp b
 exact (List.getElem_inj hN).mp (e1.trans e2.symm)
theorem store_ok2 {M:Model}{A:Around}{E:Value->Shared->Prop}{i:Nat}{x:Str}{v:V}{u:Value}{Q:Unit->Shared->Prop} (I:Inv X pins σ H s) (hN:X.N.Nodup) (hi:X.N[i]?=some x) (hx:Loc X.env.scope x) (r:RelV v u)
  (h:∀ s',Inv X pins (σ.set i (some v)) H s'->(∃ a,Heap.SameBut a s.heap s'.heap/\(a=X.env.locals∨X.env.cells.lookup x=some a))->Q () s') (hf:X.fn x=true∨X.env.scope.names.lookup x=some .local:=by first|exact .inl rfl|exact .inr rfl|assumption):wpAny M A (storeName X.env x u) Q E s:=by
 obtain ⟨m,hn,hl⟩:=id I.loc
 have hcls:(X.env.scope.kind == .class || (X.env.scope.kind == .module && X.env.locals != X.env.globals))=false:=by rw [I.ok.kind];rfl
 have hiσ:i < σ.length:=by rw [I.len];exact (List.getElem?_eq_some_iff.mp hi).1
 have cne:=I.cne
 have tracked:∀ {a:Addr}{h':Heap},(∃ o,s.heap.get? a=some o/\H a=none)->Heap.SameBut a s.heap h'->HOk X.prog X.w H h':=λ{a h'} ha hs b ob e=>by
  obtain ⟨_,_,hfree⟩:=ha
  refine (I.hok b ob e).stay (λc w' hc q=>(hs.2 c ?_).trans q) (λ_ q=>q) λ_ _ q=>q
  rintro rfl
  rcases hc with rfl|hc
  ·rw [hfree] at e;cases e
  ·rw [hfree] at hc;cases hc
 rcases hx with hk|hk
 ·refine wpAny_storeName_local hk hn (λh' hn' hs=>?_) hcls
  obtain ⟨oL,_,_,hoL,_⟩:=id hn
  refine h _ ⟨I.ok,I.os,I.bare,⟨λb o e n hb hx=>?_,λb o e n hb hx=>?_,I.base.free,λb o e hx=>?_,I.base.tups,I.base.frzs,I.base.tbls⟩,⟨_,hn',λj y v' e1 e2 e3=>?_⟩,λy c e=>?_,I.free,I.freeC,λp hp=>?_,tracked ⟨oL,hoL,I.free⟩ hs,by simpa using I.len⟩ ⟨_,hs,.inl rfl⟩
  ·exact (hs.2 b (Nat.ne_of_lt (Nat.lt_of_lt_of_le (Heap.lt_size e) I.ok.above))).trans (I.base.keep b o e n hb hx)
  ·obtain ⟨sl,e1⟩:=I.base.slot b o e n hb hx
   exact ⟨sl,(hs.2 b (Nat.ne_of_lt (Nat.lt_of_lt_of_le (Heap.lt_size e) I.ok.above))).trans e1⟩
  ·obtain ⟨o',e1⟩:=I.base.there b o e hx
   exact ⟨o',(hs.2 b (Nat.ne_of_lt (Nat.lt_of_lt_of_le (Heap.lt_size e) I.ok.above))).trans e1⟩
  ·by_cases hj:j=i
   ·subst hj
    rw [hi] at e1;cases e1
    rw [List.getElem?_set_self hiσ] at e2
    cases e2
    exact ⟨u,r,.inl ⟨hk,by simp⟩⟩
   ·rw [List.getElem?_set_ne (Ne.symm hj)] at e2
    obtain ⟨u',r',q⟩:=hl j y v' e1 e2 e3
    refine ⟨u',r',?_⟩
    rcases q with ⟨k,e⟩|⟨k,c,e,z⟩
    ·refine .inl ⟨k,?_⟩
     have:y≠x:=λe=>hj (nodup_ix hN e1 (e ▸ hi))
     simp [this,e]
    ·exact .inr ⟨k,c,e,z.sameBut hs (cne y c e)⟩
  ·obtain ⟨w',z⟩:=I.cell y c e
   exact ⟨w',z.sameBut hs (cne y c e)⟩
  ·obtain ⟨e,n,ne,nf,d⟩:=I.pin p hp
   exact ⟨(hs.2 p.1 ne).trans e,n,ne,nf,d⟩
 ·have hfn:X.fn x=true:=by
   rcases hf with z|z
   ·exact z
   ·rw [z] at hk;cases hk
  obtain ⟨c,hc⟩:=I.ok.has x (.inl hk)
  obtain ⟨w',z⟩:=I.cell x c hc
  refine wpAny_storeName_cell I.ok.kind hk hc z (λh' hc' hs=>?_)
  obtain ⟨oc,hoc,hocd⟩:=id z
  refine h { s with heap:=h' } ⟨I.ok,I.os,I.bare,⟨λb o e n hb hx=>?_,λb o e n hb hx=>?_,I.base.free,λb o e hx=>?_,I.base.tups,I.base.frzs,I.base.tbls⟩,⟨m,hn.sameBut hs (Ne.symm (cne x c hc)),λj y v' e1 e2 e3=>?_⟩,λy c' e=>?_,I.free,I.freeC,λp hp=>?_,tracked ⟨oc,hoc,I.freeC x c hc⟩ hs,by simpa using I.len⟩ ⟨c,hs,.inr hc⟩
  ·exact (hs.2 b (Nat.ne_of_lt (Nat.lt_of_lt_of_le (Heap.lt_size e) (I.ok.cab x c hfn hc)))).trans (I.base.keep b o e n hb hx)
  ·obtain ⟨sl,e1⟩:=I.base.slot b o e n hb hx
   exact ⟨sl,(hs.2 b (Nat.ne_of_lt (Nat.lt_of_lt_of_le (Heap.lt_size e) (I.ok.cab x c hfn hc)))).trans e1⟩
  ·obtain ⟨o',e1⟩:=I.base.there b o e hx
   exact ⟨o',(hs.2 b (Nat.ne_of_lt (Nat.lt_of_lt_of_le (Heap.lt_size e) (I.ok.cab x c hfn hc)))).trans e1⟩
  ·by_cases hj:j=i
   ·subst hj
    rw [hi] at e1;cases e1
    rw [List.getElem?_set_self hiσ] at e2
    cases e2
    exact ⟨u,r,.inr ⟨.inl hk,c,hc,hc'⟩⟩
   ·rw [List.getElem?_set_ne (Ne.symm hj)] at e2
    obtain ⟨u',r',q⟩:=hl j y v' e1 e2 e3
    refine ⟨u',r',?_⟩
    rcases q with q|⟨k,c',e,z'⟩
    ·exact .inl q
    ·refine .inr ⟨k,c',e,z'.sameBut hs ?_⟩
     rintro rfl
     exact hj (nodup_ix hN e1 (I.ok.inj _ _ _ e hc ▸ hi))
  ·by_cases hcc:c'=c
   ·subst hcc;exact ⟨_,hc'⟩
   ·obtain ⟨w2,z2⟩:=I.cell y c' e
    exact ⟨w2,z2.sameBut hs hcc⟩
  ·obtain ⟨e,n,ne,nf,d⟩:=I.pin p hp
   refine ⟨(hs.2 p.1 ?_).trans e,n,ne,nf,d⟩
   intro q
   rw [q,hoc] at e
   have q':oc=p.2:=Option.some.inj e
   exact d w' (by rw [<-q'];exact hocd)
theorem store_ok {M:Model}{A:Around}{E:Value->Shared->Prop}{i:Nat}{x:Str}{v:V}{u:Value}{Q:Unit->Shared->Prop} (I:Inv X pins σ H s) (hN:X.N.Nodup) (hi:X.N[i]?=some x) (hx:Loc X.env.scope x) (r:RelV v u)
  (h:∀ s',Inv X pins (σ.set i (some v)) H s'->Q () s') (hf:X.fn x=true∨X.env.scope.names.lookup x=some .local:=by first|exact .inl rfl|exact .inr rfl|assumption):wpAny M A (storeName X.env x u) Q E s:=
 store_ok2 I hN hi hx r (λs' I' _=>h s' I') hf
theorem Inv.call' {s':Shared}{ch:List Addr} (I:Inv X pins σ H s) (ho:s'.os=s.os) (u:Un (frs X.stack) ch H H' s.heap s'.heap) (hok:HOk X.prog X.w H' s'.heap) (hg:AllBare s'.gens)
  (hch:∀ b∈ch,(b∈X.ex∨X.s₀.heap.objs.size<=b)/\b≠X.env.locals/\(∀ x c,X.env.cells.lookup x=some c->c≠b)/\∀ p∈X.pn++pins,p.1≠b):Inv X pins σ H' s':=by
 obtain ⟨h',g',d',t',o'⟩:=s'
 have e:o'=s.os:=ho
 subst e
 exact I.call (g':=g') (t':=t') (d':=d') u hok hg hch
end
abbrev XK:=Value->Option Addr->Hp->Prop
abbrev St:=List (Option V)
abbrev VK:=V->Hp->Prop
abbrev TE:=St->Hp->VK->Prop
abbrev TT:=St->Hp->(Bool->Hp->Prop)->Prop
abbrev TA:=St->Hp->(List V->Hp->Prop)->Prop
structure Ends where
 nx:St->Hp->Prop
 rt:VK
 bk:St->Hp->Prop:=λ_ _=>False
 ct:St->Hp->Prop:=λ_ _=>False
abbrev TS:=Ends->St->Hp->Prop
def EP (X:Cx) (pins:List (Addr×Obj)) (σ:St) (Q:VK) (u:Value) (s':Shared):Prop:=∃ v H',Inv X pins σ H' s'/\RelV v u/\Q v H'
def TP (X:Cx) (pins:List (Addr×Obj)) (σ:St) (Q:Bool->Hp->Prop) (b:Bool) (s':Shared):Prop:=∃ H',Inv X pins σ H' s'/\Q b H'
def AP (X:Cx) (pins:List (Addr×Obj)) (σ:St) (Q:List V->Hp->Prop) (us:List Value) (s':Shared):Prop:=∃ vs H',Inv X pins σ H' s'/\Vals vs us/\Q vs H'
def SP (X:Cx) (pins:List (Addr×Obj)) (D:Ends) (f:Flow) (s':Shared):Prop:=
 match f with
 | .next=>∃ σ' H',Inv X pins σ' H' s'/\D.nx σ' H'
 | .brk=>∃ σ' H',Inv X pins σ' H' s'/\D.bk σ' H'
 | .cont=>∃ σ' H',Inv X pins σ' H' s'/\D.ct σ' H'
 | .ret u=>∃ v σ' H',Inv X pins σ' H' s'/\RelV v u/\D.rt v H'
def PE (X:Cx) (e:Expr) (t:TE):Prop:=
 ∀ (pins:List (Addr×Obj)) (s:Shared) (σ:St) (H:Hp) (Q:VK),Inv X pins σ H s->t σ H Q->wpAny (model X.prog X.w) X.A (eval e X.env) (EP X pins σ Q) X.xe s
def PT (X:Cx) (e:Expr) (t:TT):Prop:=
 ∀ (pins:List (Addr×Obj)) (s:Shared) (σ:St) (H:Hp) (Q:Bool->Hp->Prop),Inv X pins σ H s->t σ H Q->wpAny (model X.prog X.w) X.A (isTrue e X.env (eval e X.env)) (TP X pins σ Q) X.xe s
def PW (X:Cx) (e:Expr) (t:TT):Prop:=
 ∀ (whole:Sem Value) (pins:List (Addr×Obj)) (s:Shared) (σ:St) (H:Hp) (Q:Bool->Hp->Prop),Inv X pins σ H s->t σ H Q->wpAny (model X.prog X.w) X.A (isTrue e X.env whole) (TP X pins σ Q) X.xe s
theorem PW.pt {X:Cx}{e:Expr}{t:TT} (h:PW X e t):PT X e t:=h _
def PA (X:Cx) (es:List Expr) (t:TA):Prop:=
 ∀ (pos:Pos) (pins:List (Addr×Obj)) (s:Shared) (σ:St) (H:Hp) (Q:List V->Hp->Prop),Inv X pins σ H s->t σ H Q->wpAny (model X.prog X.w) X.A (spliced (backTo pos (starEach es X.env))) (AP X pins σ Q) X.xe s
def PS (X:Cx) (st:Stmt) (t:TS):Prop:=
 ∀ (pins:List (Addr×Obj)) (s:Shared) (σ:St) (H:Hp) (D:Ends),Inv X pins σ H s->t D σ H->wpAny (model X.prog X.w) X.A (exec st X.env) (SP X pins D) X.xe s
def PSs (X:Cx) (st:List Stmt) (t:TS):Prop:=
 ∀ (pins:List (Addr×Obj)) (s:Shared) (σ:St) (H:Hp) (D:Ends),Inv X pins σ H s->t D σ H->wpAny (model X.prog X.w) X.A (execs st X.env) (SP X pins D) X.xe s
theorem thn {α:Type}{t:Sem α}{Q Q':α->Shared->Prop}{M:Model}{A:Around}{E:Value->Shared->Prop}{s:Shared} (h:wpAny M A t Q E s) (hQ:∀ a s,Q a s->Q' a s):wpAny M A t Q' E s:=wpAny_mono h hQ λ_ _ x=>x
end L2
namespace L2
open PySem PySem.Spec PyProof.Rows
section
variable {X:Cx}
def tVar (i:Nat):TE:=fun σ H Q=>∃ v,σ[i]?=some (some v)/\Q v H
def tC (v:V):TE:=λ_ H Q=>Q v H
theorem pe_var {i:Nat}{x:Str}{pos:Pos} (hN:X.N[i]?=some x) (hv:Vis X.env.scope x) (hd:(x == ("__debug__":Str))=false:=by decide) (hcd:(x == ("__classdict__":Str))=false:=by decide):PE X (.Name x pos) (tVar i):=by
 intro pins s σ H Q I h
 obtain ⟨v,e,h⟩:=h
 obtain ⟨m,hn,hl⟩:=I.loc
 obtain ⟨u,r,l⟩:=hl i x v hN e hv
 have fin:EP X pins σ Q u s:=⟨v,H,I,r,h⟩
 rcases l with ⟨hk,hm⟩|⟨hk,c,hc,hcell⟩
 ·exact wpAny_Name (wpAny_loadName_local I.ok.kind hk hn hm fin) hd
 ·rcases hk with hk|hk
  ·exact wpAny_Name (wpAny_loadName_cell I.ok.kind hk hc hcell fin) hd
  ·exact wpAny_Name (wpAny_loadName_free I.ok.kind hk hc hcell fin hcd) hd
theorem pe_int {i j pos}:PE X (.Constant (.int i) j pos) (tC (.int i)):=λ_ _ _ H _ I h=>wpAny_Constant_int ⟨.int i,H,I.tok _,⟨_,rfl⟩,h⟩
theorem pe_bl {b j pos}:PE X (.Constant (.bool b) j pos) (tC (.bl b)):=λ_ _ _ H _ I h=>Constant_bool ⟨.bl b,H,I,rfl,h⟩
theorem pe_non {j pos}:PE X (.Constant .none j pos) (tC .non):=λ_ _ _ H _ I h=>Constant_none ⟨.non,H,I,rfl,h⟩
theorem pe_str {x j pos}:PE X (.Constant (.str x) j pos) (tC (.str x)):=λ_ _ _ H _ I h=>Calls.Constant_str ⟨.str x,H,I.tok _,⟨_,rfl⟩,h⟩
def Gl (X:Cx) (x:Str):Prop:=X.env.kindOf x=some .globalImplicit
theorem ld_glob {E:Value->Shared->Prop}{pins:List (Addr×Obj)}{s:Shared}{σ:St}{H:Hp}{x:Str}{u:Value}{pos:Pos}{Q:Value->Shared->Prop} (I:Inv X pins σ H s) (hg:Gl X x) (hm:X.mg x=some u) (h:Q u s)
  (hd:(x == ("__debug__":Str))=false:=by decide):wpAny (model X.prog X.w) X.A (eval (.Name x pos) X.env) Q E s:=
 Calls.Name_function_global I.ok.kind hg (Calls.loadGlobal_global (by rw [I.ok.glob];exact I.mod.glob.keeps I.bk) hm h) hd
theorem ld_blt {E:Value->Shared->Prop}{pins:List (Addr×Obj)}{s:Shared}{σ:St}{H:Hp}{x:Str}{u:Value}{pos:Pos}{Q:Value->Shared->Prop} (I:Inv X pins σ H s) (hg:Gl X x) (hm:X.mg x=none) (hv:bootBuiltins x=some u) (h:Q u s)
  (hn:x≠"__name__":=by decide) (hd:(x == ("__debug__":Str))=false:=by decide):wpAny (model X.prog X.w) X.A (eval (.Name x pos) X.env) Q E s:=by
 obtain ⟨mb,h1,h2⟩:=I.mod.blt
 exact Calls.Name_function_global I.ok.kind hg (Calls.loadGlobal_builtin (by rw [I.ok.glob];exact I.mod.glob.keeps I.bk) hm (by rw [I.ok.blt];exact h1.keeps I.bk) ((h2 x hn).trans hv) h) hd
theorem pe_glob {x:Str}{v:V}{u:Value}{pos:Pos} (hg:Gl X x) (hm:X.mg x=some u) (r:RelV v u) (hd:(x == ("__debug__":Str))=false:=by decide):PE X (.Name x pos) (tC v):=
 λ_ _ _ H _ I h=>ld_glob I hg hm ⟨v,H,I,r,h⟩ hd
theorem pe_bltn {x:Str}{v:V}{u:Value}{pos:Pos} (hg:Gl X x) (hm:X.mg x=none) (hv:bootBuiltins x=some u) (r:RelV v u) (hn:x≠"__name__":=by decide) (hd:(x == ("__debug__":Str))=false:=by decide):PE X (.Name x pos) (tC v):=
 λ_ _ _ H _ I h=>ld_blt I hg hm hv ⟨v,H,I,r,h⟩ hn hd
variable {a b:Expr}{ta tb:TE}{pos:Pos}
def PC (X:Cx) (op:CmpOp) (a b:Expr) (t:TE):Prop:=
 ∀ (pins:List (Addr×Obj)) (s:Shared) (σ:St) (H:Hp) (Q:VK),Inv X pins σ H s->t σ H Q->
  wpAny (model X.prog X.w) X.A (eval a X.env) (λv s₁=>wpAny (model X.prog X.w) X.A (eval b X.env) (λu s₂=>wpAny (model X.prog X.w) X.A (compareOp op v u) (EP X pins σ Q) X.xe s₂) X.xe s₁) X.xe s
theorem nobehind (b:Expr) {op:CmpOp} (h:op≠.In) (h2:op≠.NotIn):behindInMarks op b=false:=by
 have e1:(op == CmpOp.In)=false:=by cases op<;>first|rfl|exact absurd rfl h
 have e2:(op == CmpOp.NotIn)=false:=by cases op<;>first|rfl|exact absurd rfl h2
 cases b<;>simp [behindInMarks,e1,e2]
def tIsN (ta:TE):TE:=fun σ H Q=>ta σ H λx H1=>Q (.bl (decide (x=.non))) H1
def tNotN (ta:TE):TE:=fun σ H Q=>ta σ H λx H1=>Q (.bl (!decide (x=.non))) H1
theorem RelV.none_iff {x:V}{v:Value} (r:RelV x v):(v == Value.none)=decide (x=.non):=by
 cases x with
 |non=>cases r;rfl
 |bl _=>cases r;rfl
 |int _=>obtain ⟨t,rfl⟩:=r;rfl
 |str _=>obtain ⟨t,rfl⟩:=r;rfl
 |byt _=>obtain ⟨t,rfl⟩:=r;rfl
 |flt _=>obtain ⟨t,rfl⟩:=r;rfl
 |ref _=>cases r;rfl
 |ty _=>cases r;rfl
theorem pc_isN {j pos'} (ha:PE X a ta):PC X .Is a (.Constant .none j pos') (tIsN ta):=by
 intro pins s σ H Q I h
 refine thn (ha pins s σ H _ I h) λv s1 ⟨x,H1,I1,r1,q1⟩=>?_
 exact Constant_none (is_none_gen ⟨.bl _,H1,I1,by rw [r1.none_iff];rfl,q1⟩)
theorem pc_notN {j pos'} (ha:PE X a ta):PC X .IsNot a (.Constant .none j pos') (tNotN ta):=by
 intro pins s σ H Q I h
 refine thn (ha pins s σ H _ I h) λv s1 ⟨x,H1,I1,r1,q1⟩=>?_
 exact Constant_none (isnot_none_gen ⟨.bl _,H1,I1,by rw [r1.none_iff];rfl,q1⟩)
def tB (t:TE):TT:=fun σ H Q=>t σ H λx H1=>∃ c,x=.bl c/\Q c H1
theorem pe_cmp {op:CmpOp}{t:TE} (h:PC X op a b t) (h1:behindInMarks op b=false:=by first|exact nobehind _ (by decide) (by decide)|rfl):PE X (.Compare a [op] [b] pos) t:=λpins s σ H Q I hw=>wpAny_Compare1 (h pins s σ H Q I hw) h1
theorem pt_cmp {op:CmpOp}{t:TE} (h:PC X op a b t) (h1:behindInMarks op b=false:=by first|exact nobehind _ (by decide) (by decide)|rfl):PT X (.Compare a [op] [b] pos) (tB t):=by
 intro pins s σ H Q I hw
 refine wpAny_isTrue_Compare1 (thn (h pins s σ H _ I hw) λv s1 h1=>thn h1 λu s2 h2=>thn h2 λc s3 ⟨x,H1,I1,r1,q1⟩=>?_) h1
 obtain ⟨d,rfl,q⟩:=q1
 cases r1
 exact wpAny_truthy_bool ⟨H1,I1,q⟩
theorem pt_val {e:Expr}{t:TE} (h:PE X e t) (he:∀ whole,isTrue e X.env whole=(do let v<-whole;standAt e.pos;holding [v] (truthy v)):=by intro _;rfl):PT X e (tB t):=by
 intro pins s σ H Q I hw
 refine isTrue_plain (thn (h pins s σ H _ I hw) λv s1 ⟨x,H1,I1,r1,q1⟩=>?_) (he _)
 obtain ⟨d,rfl,q⟩:=q1
 cases r1
 exact wpAny_truthy_bool ⟨H1,I1,q⟩
variable {tA tB':TT}{rest:List Expr}
def tAnd (t u:TT):TT:=fun σ H Q=>t σ H λc H1=>if c=true then u σ H1 Q else Q false H1
def tOr (t u:TT):TT:=fun σ H Q=>t σ H λc H1=>if c=true then Q true H1 else u σ H1 Q
def tNot (t:TT):TT:=fun σ H Q=>t σ H λc H1=>Q (!c) H1
theorem pw_and1 (ha:PT X a tA):PW X (.BoolOp .And [a] pos) tA:=by
 intro wh pins s σ H Q I h
 refine isTrue_and (thn (ha pins s σ H Q I h) λc s1 e=>?_)
 cases c with
 |true=>exact isTrue_and_nil e
 |false=>exact e
theorem pw_or1 (ha:PT X a tA):PW X (.BoolOp .Or [a] pos) tA:=by
 intro wh pins s σ H Q I h
 refine isTrue_or (thn (ha pins s σ H Q I h) λc s1 e=>?_)
 cases c with
 |false=>exact isTrue_or_nil e
 |true=>exact e
theorem pw_and (ha:PT X a tA) (hb:PW X (.BoolOp .And (b::rest) pos) tB'):PW X (.BoolOp .And (a::b::rest) pos) (tAnd tA tB'):=by
 intro wh pins s σ H Q I h
 refine isTrue_and (thn (ha pins s σ H _ I h) λc s1 ⟨H1,I1,q1⟩=>?_)
 cases c with
 |true=>exact hb wh pins s1 σ H1 Q I1 q1
 |false=>exact ⟨H1,I1,q1⟩
theorem pw_or (ha:PT X a tA) (hb:PW X (.BoolOp .Or (b::rest) pos) tB'):PW X (.BoolOp .Or (a::b::rest) pos) (tOr tA tB'):=by
 intro wh pins s σ H Q I h
 refine isTrue_or (thn (ha pins s σ H _ I h) λc s1 ⟨H1,I1,q1⟩=>?_)
 cases c with
 |true=>exact ⟨H1,I1,q1⟩
 |false=>exact hb wh pins s1 σ H1 Q I1 q1
theorem pt_not (ha:PT X a tA):PT X (.UnaryOp .Not a pos) (tNot tA):=by
 intro pins s σ H Q I h
 exact isTrue_not (ha pins s σ H (λc H1=>Q (!c) H1) I h)
def tAndV (ta tb:TE):TE:=fun σ H Q=>ta σ H λx H1=>∃ c,x=.bl c/\if c=true then tb σ H1 Q else Q (.bl false) H1
def tOrV (ta tb:TE):TE:=fun σ H Q=>ta σ H λx H1=>∃ c,x=.bl c/\if c=true then Q (.bl true) H1 else tb σ H1 Q
def tNotV (ta:TE):TE:=fun σ H Q=>ta σ H λx H1=>∃ c,x=.bl c/\Q (.bl (!c)) H1
theorem pe_one {op}{t:TE} (h:PE X a t):PE X (.BoolOp op [a] pos) t:=λpins s σ H Q I hw=>BoolOp_one (h pins s σ H Q I hw)
theorem pe_and (ha:PE X a ta) (hb:PE X (.BoolOp .And (b::rest) pos) tb):PE X (.BoolOp .And (a::b::rest) pos) (tAndV ta tb):=by
 intro pins s σ H Q I h
 refine BoolOp_and (thn (ha pins s σ H _ I h) λv s1 ⟨x,H1,I1,r1,q1⟩=>?_)
 obtain ⟨c,rfl,q1⟩:=q1
 cases r1
 refine wpAny_truthy_bool ?_
 cases c with
 |true=>exact hb pins s1 σ H1 Q I1 q1
 |false=>exact ⟨.bl false,H1,I1,rfl,q1⟩
theorem pe_or (ha:PE X a ta) (hb:PE X (.BoolOp .Or (b::rest) pos) tb):PE X (.BoolOp .Or (a::b::rest) pos) (tOrV ta tb):=by
 intro pins s σ H Q I h
 refine BoolOp_or (thn (ha pins s σ H _ I h) λv s1 ⟨x,H1,I1,r1,q1⟩=>?_)
 obtain ⟨c,rfl,q1⟩:=q1
 cases r1
 refine wpAny_truthy_bool ?_
 cases c with
 |false=>exact hb pins s1 σ H1 Q I1 q1
 |true=>exact ⟨.bl true,H1,I1,rfl,q1⟩
theorem pe_not (ha:PE X a ta):PE X (.UnaryOp .Not a pos) (tNotV ta):=by
 intro pins s σ H Q I h
 refine UnaryOp_ (thn (ha pins s σ H _ I h) λv s1 ⟨x,H1,I1,r1,q1⟩=>?_)
 obtain ⟨c,rfl,q1⟩:=q1
 cases r1
 exact not_of (wpAny_truthy_bool ⟨.bl (!c),H1,I1,rfl,q1⟩)
def tIf (t:TT) (ta tb:TE):TE:=fun σ H Q=>t σ H λc H1=>if c=true then ta σ H1 Q else tb σ H1 Q
theorem pe_ifExp {c:Expr} (hc:PT X c tA) (ha:PE X a ta) (hb:PE X b tb):PE X (.IfExp c a b pos) (tIf tA ta tb):=by
 intro pins s σ H Q I h
 refine wpAny_IfExp (thn (hc pins s σ H _ I h) λd s1 ⟨H1,I1,q1⟩=>?_)
 cases d with
 |true=>exact ha pins s1 σ H1 Q I1 q1
 |false=>exact hb pins s1 σ H1 Q I1 q1
end
end L2
namespace L2
open PySem PySem.Spec PyProof.Rows
def SqL (K:PySem.W.Frag) (H:Hp) (a:Addr) (xs:List V):Prop:=
 Rd H a (.lst xs) ∨
  ∃ (o:Obj) (its:Array Value) (n:Nat),K.lookup a=some o/\o.cls=.type "list"/\o.dict=none/\o.data=.seq its n/\its.size<=sizeLine/\Vals xs its.toList
def SqT (K:PySem.W.Frag) (H:Hp) (a:Addr) (xs:List V):Prop:=
 Rd H a (.tup xs) ∨
  ∃ (o:Obj) (its:Array Value) (n:Nat),K.lookup a=some o/\o.cls=.type "tuple"/\o.data=.seq its n/\its.size<=sizeLine/\Vals xs its.toList
def absV:Value->Option V
 | .none=>some .non
 | .bool b=>some (.bl b)
 | .int i _=>some (.int i)
 | .str x _=>some (.str x)
 | .bytes b _=>some (.byt b)
 | .float b _=>some (.flt b)
 | .ref a=>some (.ref a)
 | .type n=>some (.ty n)
 |_=>none
theorem RelV.abs {x:V}{u:Value} (r:RelV x u):absV u=some x:=by
 cases x with
 |non=>cases r;rfl
 |bl _=>cases r;rfl
 |int _=>obtain ⟨t,rfl⟩:=r;rfl
 |str _=>obtain ⟨t,rfl⟩:=r;rfl
 |byt _=>obtain ⟨t,rfl⟩:=r;rfl
 |flt _=>obtain ⟨t,rfl⟩:=r;rfl
 |ref _=>cases r;rfl
 |ty _=>cases r;rfl
theorem RelV.inj {x y:V}{u:Value} (r:RelV x u) (q:RelV y u):x=y:=Option.some.inj (r.abs.symm.trans q.abs)
theorem Vals.inj:∀ {xs ys:List V}{us:List Value},Vals xs us->Vals ys us->xs=ys
 |_,_,_,.nil,.nil=>rfl
 |_,_,_,.cons r t,.cons r' t'=>by rw [r.inj r',Vals.inj t t']
section
variable {X:Cx}{pins:List (Addr×Obj)}{σ:St}{H:Hp}{s:Shared}{a:Addr}{xs ys:List V}
theorem SqL.of {K:PySem.W.Frag} (h:H a=some (.lst xs)):SqL K H a xs:=.inl (.inl h)
theorem SqT.of {K:PySem.W.Frag} (h:H a=some (.tup xs)):SqT K H a xs:=.inl (.inl h)
theorem Inv.list (I:Inv X pins σ H s) (h:SqL X.K H a xs):∃ its:List Value,Vals xs its/\PlainL s.heap a its.toArray/\xs.length<=sizeLine:=by
 rcases h with h|⟨o,its,n,hk,hc,hd,hs,hz,r⟩
 ·obtain ⟨z,its,n,r,e⟩:=h.ok I.hok
  exact ⟨its,r,⟨_,n,e,rfl,rfl,rfl⟩,z⟩
 ·refine ⟨its.toList,r,⟨o,n,I.kIn a o hk,hc,hd,by simpa using hs⟩,?_⟩
  have e:=r.length
  simp only [Array.length_toList] at e
  omega
theorem Inv.tuple (I:Inv X pins σ H s) (h:SqT X.K H a xs):∃ its:List Value,Vals xs its/\IsTup s.heap a its.toArray/\xs.length<=sizeLine:=by
 rcases h with h|⟨o,its,n,hk,hc,hs,hz,r⟩
 ·obtain ⟨z,its,r,p⟩:=h.ok I.hok
  exact ⟨its,r,p,z⟩
 ·refine ⟨its.toList,r,⟨o,I.kIn a o hk,hc,n,by simpa using hs⟩,?_⟩
  have e:=r.length
  simp only [Array.length_toList] at e
  omega
theorem Inv.list_inj (I:Inv X pins σ H s) (h:SqL X.K H a xs) (h':SqL X.K H a ys):xs=ys:=by
 obtain ⟨its,r,⟨o,n,e,_,_,d⟩,_⟩:=I.list h
 obtain ⟨its',r',⟨o',n',e',_,_,d'⟩,_⟩:=I.list h'
 rw [e] at e';cases e'
 rw [d] at d'
 injection d' with d1 _
 have:its=its':=by simpa using congrArg Array.toList d1
 subst this
 exact r.inj r'
theorem Inv.tuple_inj (I:Inv X pins σ H s) (h:SqT X.K H a xs) (h':SqT X.K H a ys):xs=ys:=by
 obtain ⟨its,r,⟨o,e,_,n,d⟩,_⟩:=I.tuple h
 obtain ⟨its',r',⟨o',e',_,n',d'⟩,_⟩:=I.tuple h'
 rw [e] at e';cases e'
 rw [d] at d'
 injection d' with d1 _
 have:its=its':=by simpa using congrArg Array.toList d1
 subst this
 exact r.inj r'
end
abbrev Cx.wish (X:Cx) (E:Value->Shared->Prop):Cx:={ X with xe:=E }
abbrev Cx.nox (X:Cx):Cx:=X.wish λ_ _=>False
theorem Cx.Ok.wish {X:Cx} (ok:X.Ok) (E:Value->Shared->Prop):(X.wish E).Ok:=
 ⟨ok.mod,ok.kind,ok.glob,ok.blt,ok.above,ok.inj,ok.has,ok.cab,ok.hd,ok.frames,ok.stk,ok.exf,ok.bs,ok.bsz,ok.noex,ok.exfs,ok.funs,ok.frf⟩
theorem Cx.Ok.unwish {X:Cx}{E:Value->Shared->Prop} (ok:(X.wish E).Ok):X.Ok:=
 ⟨ok.mod,ok.kind,ok.glob,ok.blt,ok.above,ok.inj,ok.has,ok.cab,ok.hd,ok.frames,ok.stk,ok.exf,ok.bs,ok.bsz,ok.noex,ok.exfs,ok.funs,ok.frf⟩
section
variable {X:Cx}{pins:List (Addr×Obj)}{σ:St}{H:Hp}{s:Shared}{E:Value->Shared->Prop}
theorem Inv.wish (I:Inv X pins σ H s) (E:Value->Shared->Prop):Inv (X.wish E) pins σ H s:=⟨I.ok.wish E,I.os,I.bare,I.base,I.loc,I.cell,I.free,I.freeC,I.pin,I.hok,I.len⟩
theorem Inv.unwish (I:Inv (X.wish E) pins σ H s):Inv X pins σ H s:=⟨I.ok.unwish,I.os,I.bare,I.base,I.loc,I.cell,I.free,I.freeC,I.pin,I.hok,I.len⟩
theorem SP.unwish {D:Ends}{f:Flow}{s':Shared} (h:SP (X.wish E) pins D f s'):SP X pins D f s':=by
 cases f with
 |next=>obtain ⟨σ',H',I,q⟩:=h;exact ⟨σ',H',I.unwish,q⟩
 |brk=>obtain ⟨σ',H',I,q⟩:=h;exact ⟨σ',H',I.unwish,q⟩
 |cont=>obtain ⟨σ',H',I,q⟩:=h;exact ⟨σ',H',I.unwish,q⟩
 |ret u=>obtain ⟨v,σ',H',I,r,q⟩:=h;exact ⟨v,σ',H',I.unwish,r,q⟩
theorem PSs.nox {st:List Stmt}{t:TS} (h:PSs X.nox st t):PSs X st t:=λpins s σ H D I hw=>
 wpAny_mono (h pins s σ H D (I.wish _) hw) (λ_ _ q=>q.unwish) λ_ _ z=>False.elim z
end
section
variable {X:Cx}{st:Stmt}{rest:List Stmt}{t u:TS}{e:Expr}{te:TE}{pos:Pos}
def tNext:TS:=λD σ H=>D.nx σ H
def tSeq (t u:TS):TS:=λD σ H=>t { D with nx:=u D } σ H
theorem pss_nil:PSs X [] tNext:=λ_ _ σ H _ I h=>wpAny_execs_nil ⟨σ,H,I,h⟩
theorem pss_cons (h1:PS X st t) (h2:PSs X rest u):PSs X (st::rest) (tSeq t u):=by
 intro pins s σ H D I h
 refine wpAny_execs_cons (thn (h1 pins s σ H { D with nx:=u D } I h) λf s1 q=>?_)
 cases f with
 |next=>
  obtain ⟨σ',H',I',q⟩:=q
  exact h2 pins s1 σ' H' D I' q
 |ret v=>exact q
 |brk=>exact q
 |cont=>exact q
theorem pss_one (h1:PS X st t):PSs X [st] t:=by
 intro pins s σ H D I h
 refine wpAny_execs_cons (thn (h1 pins s σ H D I h) λf s1 q=>?_)
 cases f with
 |next=>exact wpAny_execs_nil q
 |ret v=>exact q
 |brk=>exact q
 |cont=>exact q
theorem Inv.quiet {pins:List (Addr×Obj)}{σ:St}{H:Hp}{s:Shared} (I:Inv X pins σ H s):interactive X.env=false:=by simp [interactive,I.ok.kind]
def tDrop (te:TE):TS:=λD σ H=>te σ H λ_ H1=>D.nx σ H1
theorem ps_expr (he:PE X e te) (hs:swapsWith e none pos.line X.env=pure false:=by rfl):PS X (.Expr e pos) (tDrop te):=by
 intro pins s σ H D I h
 exact wpAny_Expr_any (thn (he pins s σ H _ I h) λv s1 ⟨x,H1,I1,r1,q1⟩=>⟨σ,H1,I1,q1⟩) I.quiet hs
def tRet (te:TE):TS:=λD σ H=>te σ H D.rt
theorem ps_ret (he:PE X e te):PS X (.Return (some e) pos) (tRet te):=by
 intro pins s σ H D I h
 exact wpAny_Return_some (thn (he pins s σ H _ I h) λv s1 ⟨x,H1,I1,r1,q1⟩=>⟨x,σ,H1,I1,r1,q1⟩)
def tIfS (c:TT) (t u:TS):TS:=λD σ H=>c σ H λb H1=>if b=true then t D σ H1 else u D σ H1
theorem ps_if {c:Expr}{a b:List Stmt}{tc:TT} (hc:PT X c tc) (ha:PSs X a t) (hb:PSs X b u):PS X (.If c a b pos) (tIfS tc t u):=by
 intro pins s σ H D I h
 refine wpAny_If (thn (hc pins s σ H _ I h) λd s1 ⟨H1,I1,q1⟩=>?_)
 cases d with
 |true=>exact ha pins s1 σ H1 D I1 q1
 |false=>exact hb pins s1 σ H1 D I1 q1
def tNever:TS:=λ_ _ _=>False
theorem ps_never:PS X st tNever:=λ_ _ _ _ _ _ h=>h.elim
theorem pss_never {sts:List Stmt}:PSs X sts tNever:=λ_ _ _ _ _ _ h=>h.elim
end
abbrev TG:=V->St->Hp->(St->Hp->Prop)->Prop
abbrev TGs:=List V->St->Hp->(St->Hp->Prop)->Prop
def PG (X:Cx) (target:Expr) (t:TG):Prop:=
 ∀ (pins:List (Addr×Obj)) (s:Shared) (σ:St) (H:Hp) (v:V) (u:Value) (Q:St->Hp->Prop),Inv X pins σ H s->RelV v u->t v σ H Q->
  wpAny (model X.prog X.w) X.A (assign target X.env u) (λ_ s'=>∃ σ' H',Inv X pins σ' H' s'/\Q σ' H') X.xe s
def PGs (X:Cx) (ts:List Expr) (t:TGs):Prop:=
 ∀ (pins:List (Addr×Obj)) (s:Shared) (σ:St) (H:Hp) (vs:List V) (us:List Value) (Q:St->Hp->Prop),Inv X pins σ H s->Vals vs us->t vs σ H Q->
  wpAny (model X.prog X.w) X.A (assignInOrder ((assignEach ts X.env).map (·.2)) us) (λ_ s'=>∃ σ' H',Inv X pins σ' H' s'/\Q σ' H') X.xe s
abbrev TSet:=V->V->V->Hp->(Hp->Prop)->Prop
def PSet (X:Cx) (t:TSet):Prop:=
 ∀ (pins:List (Addr×Obj)) (s:Shared) (σ:St) (H:Hp) (o i v:V) (ov iv u:Value) (Q:Hp->Prop),Inv X pins σ H s->RelV o ov->RelV i iv->RelV v u->t o i v H Q->
  wpAny (model X.prog X.w) X.A (setItem ov iv u) (λ_ s'=>∃ H',Inv X pins σ H' s'/\Q H') X.xe s
section
variable {X:Cx}{pos:Pos}
def gName (i:Nat):TG:=λv σ H Q=>Q (σ.set i (some v)) H
theorem pg_name {i:Nat}{x:Str} (hN:X.N.Nodup) (hi:X.N[i]?=some x) (hx:Loc X.env.scope x) (hf:X.fn x=true∨X.env.scope.names.lookup x=some .local:=by first|exact .inl rfl|exact .inr rfl|assumption):PG X (.Name x pos) (gName i):=by
 intro pins s σ H v u Q I r h
 exact wpAny_assign_Name (store_ok I hN hi hx r (λs' I'=>⟨_,H,I',h⟩) hf)
def gNil:TGs:=λvs σ H Q=>vs=[]/\Q σ H
def gCons (t:TG) (u:TGs):TGs:=λvs σ H Q=>∃ v r,vs=v::r/\t v σ H fun σ' H'=>u r σ' H' Q
theorem pgs_nil:PGs X [] gNil:=by
 intro pins s σ H vs us Q I r h
 obtain ⟨e,h⟩:=h
 subst e
 cases r
 exact assignInOrder_nil ⟨σ,H,I,h⟩
theorem pgs_cons {e:Expr}{es:List Expr}{t:TG}{u:TGs} (h1:PG X e t) (h2:PGs X es u)
  (hs:(assignEach (e::es) X.env).map (·.2)=assign e X.env::(assignEach es X.env).map (·.2):=by rfl):PGs X (e::es) (gCons t u):=by
 intro pins s σ H vs us Q I r h
 obtain ⟨v,vr,e1,h⟩:=h
 subst e1
 cases r with
 |cons r rr=>
  rw [hs]
  refine assignInOrder_cons (thn (h1 pins s σ H _ _ _ I r h) λ_ s1 ⟨σ1,H1,I1,q1⟩=>?_)
  exact h2 pins s1 σ1 H1 _ _ Q I1 rr q1
def gTup (K:PySem.W.Frag) (n:Nat) (t:TGs):TG:=λv σ H Q=>∃ a xs,v=.ref a/\SqT K H a xs/\xs.length=n/\t xs σ H Q
theorem pg_tup {es:List Expr}{k:Nat}{t:TGs}{n:Nat} (hc:X.calm=true) (h:PGs X es t)
  (hn:(assignEach es X.env).length=n:=by rfl) (hst:(assignEach es X.env).findIdx? (·.1)=none:=by rfl):PG X (.Tuple es k pos) (gTup X.K n t):=by
 intro pins s σ H v u Q I r hw
 obtain ⟨a,xs,e1,hq,hl,hw⟩:=hw
 subst e1
 cases r
 obtain ⟨its,rv,ht,hz⟩:=I.tuple hq
 refine assign_Tuple_tuple (I.ok.hd hc) ht (by simp [hn,<-hl,rv.length]) hst λh' hx=>?_
 have I1:Inv X pins σ H { s with heap:=h' }:=I.kept (t':=s.toks) λb o e=>hx b o (Nat.ne_of_lt (Heap.lt_size e)) e
 exact h pins _ σ H xs _ Q I1 (by simpa using rv) hw
def gSub (to ti:TE) (t:TSet):TG:=λv σ H Q=>to σ H λo H1=>ti σ H1 λi H2=>t o i v H2 λH3=>Q σ H3
theorem pg_sub {o i:Expr}{to ti:TE}{t:TSet} (ho:PE X o to) (hi:PE X i ti) (hs:PSet X t)
  (ha:∀ v,assign (.Subscript o i pos) X.env v=(do
   let ov<-holding [v] (eval o X.env)
   let iv<-holding [v,ov] (eval i X.env)
   standAt pos
   holding [v,ov,iv] (setItem ov iv v)
   release [v,ov,iv] []):=by intro _;rfl):PG X (.Subscript o i pos) (gSub to ti t):=by
 intro pins s σ H v u Q I r h
 rw [ha]
 refine wpAny_bind (wpAny_holding (thn (ho pins s σ H _ I h) λov s1 ⟨x,H1,I1,r1,q1⟩=>?_))
 refine wpAny_bind (wpAny_holding (thn (hi pins s1 σ H1 _ I1 q1) λiv s2 ⟨y,H2,I2,r2,q2⟩=>?_))
 refine wpAny_bind (wpAny_standAt (wpAny_bind (wpAny_holding (thn (hs pins s2 σ H2 x y v ov iv u _ I2 r1 r2 r q2) λ_ s3 ⟨H3,I3,q3⟩=>?_))))
 exact wpAny_release ⟨σ,H3,I3,q3⟩
def tAsg (te:TE) (g:TG):TS:=λD σ H=>te σ H λx H1=>g x σ H1 D.nx
theorem ps_asg {tg e:Expr}{te:TE}{g:TG} (he:PE X e te) (hg:PG X tg g) (hs:swapsWithSole [tg] e pos.line X.env=pure false:=by rfl) (hw:swappedStores [tg] e X.env=pure none:=by rfl)
  (h1:(assignEach [tg] X.env).map (·.2)=[assign tg X.env]:=by rfl):PS X (.Assign [tg] e pos) (tAsg te g):=by
 intro pins s σ H D I h
 refine wpAny_Assign_stores (thn (he pins s σ H _ I h) λv s1 ⟨x,H1,I1,r1,q1⟩=>?_) hs hw
 rw [h1]
 exact thn (hg pins s1 σ H1 x v _ I1 r1 q1) λ_ s2 q=>q
theorem ps_set {i:Nat}{x:Str}{e:Expr}{te:TE}{pos':Pos} (hN:X.N.Nodup) (hi:X.N[i]?=some x) (hx:Loc X.env.scope x) (he:PE X e te) (hs:swapsWith e (some (.Name x pos')) pos.line X.env=pure false:=by rfl) (hf:X.fn x=true∨X.env.scope.names.lookup x=some .local:=by first|exact .inl rfl|exact .inr rfl|assumption) :
  PS X (.Assign [.Name x pos'] e pos) (tAsg te (gName i)):=by
 intro pins s σ H D I h
 refine wpAny_Assign_Name (thn (he pins s σ H _ I h) λv s1 ⟨y,H1,I1,r1,q1⟩=>?_) hs
 exact store_ok I1 hN hi hx r1 (λs2 I2=>⟨_,H1,I2,q1⟩) hf
end
section
variable {X:Cx}{pos:Pos}
def tWhile (c:TT) (tb:TS):TS:=λD σ H=>∃ W:Nat->St->Hp->Prop,(∃ m,W m σ H)/\∀ m σ H,W m σ H->
 c σ H λb H1=>if b=true then ∃ N:St->Hp->Prop,(∀ σ' H',N σ' H'->∃ m',m'<m/\W m' σ' H')/\tb { D with nx:=N,ct:=N,bk:=D.nx } σ H1 else D.nx σ H1
theorem ps_while {c:Expr}{body:List Stmt}{tc:TT}{tb:TS} (hp:PassesOwn (model X.prog X.w) X.A X.env X.xe) (hc:PT X c tc) (hb:PSs X body tb):PS X (.While c body [] pos) (tWhile tc tb):=by
 intro pins s σ H D I h
 obtain ⟨W,⟨m0,w0⟩,turn⟩:=h
 refine wpAny_While (codeAny_whileLoop (λn s'=>∃ σ' H',Inv X pins σ' H' s'/\W n σ' H') ?_ m0 ⟨σ,H,I,w0⟩)
 rintro n s1 ⟨σ1,H1,I1,w1⟩
 refine wpAny_passesOwn hp (thn (hc pins s1 σ1 H1 _ I1 (turn n σ1 H1 w1)) λb s2 ⟨H2,I2,q2⟩=>?_)
 cases b with
 |true=>
  obtain ⟨N,hN,q2⟩:=q2
  rw [if_pos rfl]
  refine wpAny_passesOwn hp (thn (hb pins s2 σ1 H2 _ I2 q2) λf s3 q3=>?_)
  cases f with
  |next=>
   obtain ⟨σ3,H3,I3,n3⟩:=q3
   obtain ⟨m',hm,w3⟩:=hN σ3 H3 n3
   exact ⟨m',hm,σ3,H3,I3,w3⟩
  |cont=>
   obtain ⟨σ3,H3,I3,n3⟩:=q3
   obtain ⟨m',hm,w3⟩:=hN σ3 H3 n3
   exact ⟨m',hm,σ3,H3,I3,w3⟩
  |brk=>exact q3
  |ret v=>exact q3
 |false=>
  rw [if_neg Bool.false_ne_true]
  exact wpAny_execs_nil ⟨σ1,H2,I2,q2⟩
end
structure It where
 go:Nat->Hp->Prop
 yld:Nat->Hp->V->Hp->Prop
 stop:Nat->Hp->Prop
def FpOk (X:Cx) (pins:List (Addr×Obj)) (H:Hp) (b:Addr):Prop:=
 H b=none/\b≠X.env.locals/\b ∉ X.fs/\(b∈X.ex∨X.s₀.heap.objs.size<=b)/\(∀ x c,X.env.cells.lookup x=some c->c≠b)/\∀ p∈X.pn++pins,p.1≠b
theorem Inv.fpOk {X:Cx}{pins:List (Addr×Obj)}{σ:St}{H H':Hp}{s:Shared}{b:Addr} (I:Inv X pins σ H s) (hb:s.heap.objs.size<=b) (hn:H' b=none):FpOk X pins H' b:=by
 refine ⟨hn,Nat.ne_of_gt (Nat.lt_of_lt_of_le I.lt hb),I.nofs hb,.inr (Nat.le_trans I.sz hb),λx c e z=>?_,λp hp z=>?_⟩
 ·obtain ⟨v,q⟩:=I.cell x c e
  exact absurd (Nat.lt_of_lt_of_le q.lt (by rw [z];exact hb)) (Nat.lt_irrefl _)
 ·exact absurd (Nat.lt_of_lt_of_le (Heap.lt_size (I.pin p hp).1) (by rw [z];exact hb)) (Nat.lt_irrefl _)
structure Turn (P:Program) (w:World) (K:PySem.W.Frag) (tg:Expr) (J:It) (fp:List Addr) (it:Addr) (tn:Nat->Heap->Prop):Prop where
 mem:it∈fp
 obj:∀ i h,tn i h->∀ b∈fp,∃ o,h.get? b=some o/\∀ v,o.data≠.cell v
 keep:∀ i h h',tn i h->(∀ b∈fp,∀ o,h.get? b=some o->h'.get? b=some o)->tn i h'
 item:∀ (X:Cx),X.prog=P->X.w=w->X.K=K->X.calm=true->∀ (i:Nat) (pins:List (Addr×Obj)) (s:Shared) (σ:St) (H:Hp) (E:Value->Shared->Prop),Inv X pins σ H s->(∀ b∈fp,FpOk X pins H b)->tn i s.heap->J.go i H->
  wpAny (model P w) X.A (pyNext (.ref it)) (λr s1=>∃ u,r=some u/\
   wpAny (model P w) X.A (letOwnedTupleGo tg (.ref it) u) (λ_ s2=>∃ x H',Inv X pins σ H' s2/\RelV x u/\J.yld i H x H'/\tn (i+1) s2.heap/\∀ b∈fp,H' b=none) E s1) E s
 done:∀ (X:Cx),X.prog=P->X.w=w->X.K=K->X.calm=true->∀ (i:Nat) (pins:List (Addr×Obj)) (s:Shared) (σ:St) (H:Hp) (E:Value->Shared->Prop),Inv X pins σ H s->(∀ b∈fp,FpOk X pins H b)->tn i s.heap->J.stop i H->
  wpAny (model P w) X.A (pyNext (.ref it)) (λr s1=>r=none/\Inv X pins σ H s1) E s
 self:∀ (A:Around) (i:Nat) (s:Shared) (Q:Value->Shared->Prop) (E:Value->Shared->Prop),tn i s.heap->Q (.ref it) s->wpAny (model P w) A (pyIter (.ref it)) Q E s
abbrev TI:=St->Hp->(It->Hp->Prop)->Prop
def PIE (X:Cx) (pins:List (Addr×Obj)) (σ:St) (tg:Expr) (R:It->Hp->Prop) (itv:Value) (s2:Shared):Prop:=
 ∃ (it:Addr) (fp:List Addr) (tn:Nat->Heap->Prop) (J:It) (H':Hp),itv=.ref it/\Inv X pins σ H' s2/\Turn X.prog X.w X.K tg J fp it tn/\tn 0 s2.heap/\(∀ b∈fp,FpOk X pins H' b)/\R J H'
def PI (X:Cx) (tg iter:Expr) (wi:TI):Prop:=
 ∀ (pins:List (Addr×Obj)) (s:Shared) (σ:St) (H:Hp) (R:It->Hp->Prop),Inv X pins σ H s->wi σ H R->
  wpAny (model X.prog X.w) X.A (eval iter X.env) (λv s1=>wpAny (model X.prog X.w) X.A (pyIter v) (PIE X pins σ tg R) X.xe s1) X.xe s
theorem go_of {M:Model}{A:Around}{E:Value->Shared->Prop}{s:Shared}{tg:Expr}{it:Addr}{u:Value}{o:Obj}{n:String}{vs:Array Value}{Q:Unit->Shared->Prop} (ho:s.heap.get? it=some o) (hc:o.cls=.type n) (hd:o.data=.fields vs)
  (hn:["enumerate","zip","dict_itemiterator","dict_reverseitemiterator","odict_iterator","itertools.zip_longest","itertools.pairwise"].contains n=false) (hQ:Q () s):wpAny M A (letOwnedTupleGo tg (.ref it) u) Q E s:=by
 unfold letOwnedTupleGo
 cases tg<;>first
  |exact wpAny_pure hQ
  |(cases u<;>first
    |exact wpAny_pure hQ
    |(refine wpAny_bind (wpAny_load ho ?_)
      rw [hc,hd]
      show wpAny M A (if (["enumerate","zip","dict_itemiterator","dict_reverseitemiterator","odict_iterator","itertools.zip_longest","itertools.pairwise"].contains n && vs[0]? == some (rawInt _))=true then _ else _) Q E s
      rw [if_neg (by intro h;rw [hn,Bool.false_and] at h;cases h)]
      exact wpAny_pure hQ))
def Itl (K:PySem.W.Frag) (a:Addr):It:=
 ⟨λi H=>∃ xs x,SqL K H a xs/\xs[i]?=some x,λi H x H'=>H'=H/\∀ xs,SqL K H a xs->xs[i]?=some x,λi H=>∃ xs,SqL K H a xs/\xs.length<=i⟩
def Itt (K:PySem.W.Frag) (a:Addr):It:=
 ⟨λi H=>∃ xs x,SqT K H a xs/\xs[i]?=some x,λi H x H'=>H'=H/\∀ xs,SqT K H a xs->xs[i]?=some x,λi H=>∃ xs,SqT K H a xs/\xs.length<=i⟩
def Itr (lo:Int) (n:Nat):It:=⟨λi _=>i<n,λi H x H'=>H'=H/\x=.int (lo+i),λi _=>n<=i⟩
theorem turn_list {P:Program}{w:World}{K:PySem.W.Frag}{tg:Expr} (a it:Addr):Turn P w K tg (Itl K a) [it] it (λi h=>h.IsListIter it a i) where
 mem:=by simp
 obj:=λi h st b hb=>by
  have e:b=it:=by simpa using hb
  subst e
  obtain ⟨o,e,c,d⟩:=st
  exact ⟨o,e,λv z=>by rw [d] at z;cases z⟩
 keep:=λi h h' st k=>st.at λo e=>k it (by simp) o e
 item:=by
  intro X hP hw hK hc i pins s σ H E I hf st hg
  subst hP hw hK
  obtain ⟨xs,x,hq,hx⟩:=hg
  obtain ⟨its,rv,p,hz⟩:=I.list hq
  obtain ⟨u,hu,ru⟩:=rv.get hx
  obtain ⟨f0,f1,f2,f3,f4,f5⟩:=hf it (by simp)
  refine wpAny_pyNext_list_item st p.isList (x:=u) (by simpa using hu) λh' st' sb=>?_
  have I1:Inv X pins σ H { s with heap:=h' }:=I.turned (t':=s.toks) (λb o hb e=>(sb.2 b hb).trans e) f0 f1 f3 f4 f5
  obtain ⟨o,e,c,d⟩:=id st'
  exact ⟨u,rfl,go_of (s:={ s with heap:=h' }) e c d (by decide) ⟨x,H,I1,ru,⟨rfl,λys hy=>by rw [I.list_inj hy hq];exact hx⟩,st',λb hb=>(hf b hb).1⟩⟩
 done:=by
  intro X hP hw hK hc i pins s σ H E I hf st hg
  subst hP hw hK
  obtain ⟨xs,hq,hx⟩:=hg
  obtain ⟨its,rv,p,hz⟩:=I.list hq
  obtain ⟨f0,f1,f2,f3,f4,f5⟩:=hf it (by simp)
  have hl:=rv.length
  exact wpAny_pyNext_list_end (I.ok.hd hc) st p.isList (by simp;omega) λh' eb=>⟨rfl,I.turned (t':=s.toks) (λb o hb e=>eb b o hb e) f0 f1 f3 f4 f5⟩
 self:=λ_ _ _ _ _ st h=>wpAny_pyIter_listiter st h
theorem turn_tuple {P:Program}{w:World}{K:PySem.W.Frag}{tg:Expr} (a it:Addr):Turn P w K tg (Itt K a) [it] it (λi h=>h.IsTupleIter it a i) where
 mem:=by simp
 obj:=λi h st b hb=>by
  have e:b=it:=by simpa using hb
  subst e
  obtain ⟨o,e,c,d⟩:=st
  exact ⟨o,e,λv z=>by rw [d] at z;cases z⟩
 keep:=λi h h' st k=>st.at λo e=>k it (by simp) o e
 item:=by
  intro X hP hw hK hc i pins s σ H E I hf st hg
  subst hP hw hK
  obtain ⟨xs,x,hq,hx⟩:=hg
  obtain ⟨its,rv,p,hz⟩:=I.tuple hq
  obtain ⟨u,hu,ru⟩:=rv.get hx
  obtain ⟨f0,f1,f2,f3,f4,f5⟩:=hf it (by simp)
  refine wpAny_pyNext_tuple_item st (show s.heap.IsTuple a its.toArray from p) (x:=u) (by simpa using hu) λh' st' sb=>?_
  have I1:Inv X pins σ H { s with heap:=h' }:=I.turned (t':=s.toks) (λb o hb e=>(sb.2 b hb).trans e) f0 f1 f3 f4 f5
  obtain ⟨o,e,c,d⟩:=id st'
  exact ⟨u,rfl,go_of (s:={ s with heap:=h' }) e c d (by decide) ⟨x,H,I1,ru,⟨rfl,λys hy=>by rw [I.tuple_inj hy hq];exact hx⟩,st',λb hb=>(hf b hb).1⟩⟩
 done:=by
  intro X hP hw hK hc i pins s σ H E I hf st hg
  subst hP hw hK
  obtain ⟨xs,hq,hx⟩:=hg
  obtain ⟨its,rv,p,hz⟩:=I.tuple hq
  obtain ⟨f0,f1,f2,f3,f4,f5⟩:=hf it (by simp)
  have hl:=rv.length
  exact wpAny_pyNext_tuple_end (I.ok.hd hc) st (show s.heap.IsTuple a its.toArray from p) (by simp;omega) λh' eb=>⟨rfl,I.turned (t':=s.toks) (λb o hb e=>eb b o hb e) f0 f1 f3 f4 f5⟩
 self:=λ_ _ _ _ _ st h=>wpAny_pyIter_tupleiter st h
theorem turn_range {P:Program}{w:World}{K:PySem.W.Frag}{tg:Expr} (it:Addr) (lo:Int) (n:Nat):Turn P w K tg (Itr lo n) [it] it (λi h=>IsRangeIter h it (lo+(i:Nat) * 1) ((n:Int)-(i:Nat)) 1) where
 mem:=by simp
 obj:=λi h st b hb=>by
  have e:b=it:=by simpa using hb
  subst e
  exact ⟨_,st,λv z=>by
   have z':Data.fields _=Data.cell v:=z
   cases z'⟩
 keep:=λi h h' st k=>k it (by simp) _ st
 item:=by
  intro X hP hw hK hc i pins s σ H E I hf st hg
  subst hP hw hK
  obtain ⟨f0,f1,f2,f3,f4,f5⟩:=hf it (by simp)
  have W:=Walks.range (prog:=X.prog) (w:=X.w) (I.ok.hd hc) it lo 1 n
  refine W.item i s _ _ hg st λv h' tk hv st' kk=>?_
  obtain ⟨t,rfl⟩:=hv
  have I1:Inv X pins σ H { s with heap:=h',toks:=tk }:=I.turned (λb o hb e=>kk b o (by simpa using hb) e) f0 f1 f3 f4 f5
  refine ⟨_,rfl,go_of (s:={ s with heap:=h',toks:=tk }) (n:="range_iterator") st' rfl rfl (by decide) ⟨.int (lo+i),H,I1,⟨t,?_⟩,⟨rfl,rfl⟩,st',λb hb=>(hf b hb).1⟩⟩
  rw [Int.mul_one]
 done:=by
  intro X hP hw hK hc i pins s σ H E I hf st hg
  subst hP hw hK
  obtain ⟨f0,f1,f2,f3,f4,f5⟩:=hf it (by simp)
  exact wpAny_pyNext_range_end (I.ok.hd hc) st (by have:n<=i:=hg;omega) λh' eb=>⟨rfl,I.turned (t':=s.toks) (λb o hb e=>eb b o hb e) f0 f1 f3 f4 f5⟩
 self:=λ_ _ _ _ _ st h=>wpAny_pyIter_rangeiter st h
end L2
namespace L2
open PySem PySem.Spec PyProof.Rows
section
variable {X:Cx}{tg:Expr}
def iList (K:PySem.W.Frag) (tl:TE):TI:=fun σ H R=>tl σ H λx H1=>∃ a,x=.ref a/\(∃ xs,SqL K H1 a xs)/\R (Itl K a) H1
def iTup (K:PySem.W.Frag) (tl:TE):TI:=fun σ H R=>tl σ H λx H1=>∃ a,x=.ref a/\(∃ xs,SqT K H1 a xs)/\R (Itt K a) H1
theorem pi_list {l:Expr}{tl:TE} (hl:PE X l tl):PI X tg l (iList X.K tl):=by
 intro pins s σ H R I h
 refine thn (hl pins s σ H _ I h) λv s1 ⟨x,H1,I1,r1,q1⟩=>?_
 obtain ⟨a,e,⟨xs,hq⟩,q⟩:=q1
 subst e
 cases r1
 obtain ⟨its,rv,p,hz⟩:=I1.list hq
 refine wpAny_pyIter_list p.isList ?_
 refine ⟨s1.heap.objs.size,[s1.heap.objs.size],_,_,H1,rfl,I1.kept (t':=s1.toks) λb o e=>Heap.get?_push_of_some _ e,turn_list a _,⟨_,Heap.get?_push_size _ rfl,rfl,rfl⟩,λb hb=>?_,q⟩
 have e:b=s1.heap.objs.size:=by simpa using hb
 subst e
 exact I1.fpOk (Nat.le_refl _) (I1.hok.fresh (Nat.le_refl _))
theorem pi_tup {l:Expr}{tl:TE} (hl:PE X l tl):PI X tg l (iTup X.K tl):=by
 intro pins s σ H R I h
 refine thn (hl pins s σ H _ I h) λv s1 ⟨x,H1,I1,r1,q1⟩=>?_
 obtain ⟨a,e,⟨xs,hq⟩,q⟩:=q1
 subst e
 cases r1
 obtain ⟨its,rv,p,hz⟩:=I1.tuple hq
 refine wpAny_pyIter_tuple (show s1.heap.IsTuple a its.toArray from p) ?_
 refine ⟨s1.heap.objs.size,[s1.heap.objs.size],_,_,H1,rfl,I1.kept (t':=s1.toks) λb o e=>Heap.get?_push_of_some _ e,turn_tuple a _,⟨_,Heap.get?_push_size _ rfl,rfl,rfl⟩,λb hb=>?_,q⟩
 have e:b=s1.heap.objs.size:=by simpa using hb
 subst e
 exact I1.fpOk (Nat.le_refl _) (I1.hok.fresh (Nat.le_refl _))
theorem range_it {pins:List (Addr×Obj)}{σ:St}{H:Hp}{s:Shared}{R:It->Hp->Prop}{E:Value->Shared->Prop}{lo hi:Int}{t u v:Tok}{tk:Nat} (I:Inv X pins σ H s) (h1:-(2 ^ 62)<=lo) (h2:lo<2 ^ 62) (h3:-(2 ^ 62)<=hi) (h4:hi<2 ^ 62)
  (q:R (Itr lo (hi-lo).toNat) H):wpAny (model X.prog X.w) X.A (pyIter (.ref s.heap.objs.size)) (PIE X pins σ tg R) E { s with heap:=s.heap.push { cls:=.type "range",data:=.fields #[.int lo t,.int hi u,.int 1 v] },toks:=tk }:=by
 refine wpAny_pyIter_range (IsRange.new ..) (small_one h1 h2 h3 h4) ?_
 have I1:Inv X pins σ H { s with heap:=s.heap.push { cls:=.type "range",data:=.fields #[.int lo t,.int hi u,.int 1 v] },toks:=tk }:=I.kept λb o e=>Heap.get?_push_of_some _ e
 refine ⟨(s.heap.push { cls:=.type "range",data:=.fields #[.int lo t,.int hi u,.int 1 v] }).objs.size,[(s.heap.push { cls:=.type "range",data:=.fields #[.int lo t,.int hi u,.int 1 v] }).objs.size],_,_,H,rfl,
  I1.kept (t':=tk) λb o e=>Heap.get?_push_of_some _ e,turn_range _ lo (hi-lo).toNat,?_,λb hb=>?_,q⟩
 ·have e1:lo+((0:Nat):Int) * 1=lo:=by simp
  have e2:(((hi-lo).toNat:Nat):Int)-((0:Nat):Int)=Builtin.Range.rangeSize lo hi 1:=by rw [rangeSize_one];split<;>omega
  show IsRangeIter _ _ (lo+((0:Nat):Int) * 1) ((((hi-lo).toNat:Nat):Int)-((0:Nat):Int)) 1
  rw [e1,e2]
  exact Heap.get?_push_size _ rfl
 ·have e:b=(s.heap.push { cls:=.type "range",data:=.fields #[.int lo t,.int hi u,.int 1 v] }).objs.size:=by simpa using hb
  subst e
  exact I1.fpOk (Nat.le_refl _) (I1.hok.fresh (Nat.le_refl _))
def iRng1 (ta:TA):TI:=fun σ H R=>ta σ H λvs H1=>∃ j:Int,vs=[.int j]/\-(2 ^ 62)<=j/\j<2 ^ 62/\R (Itr 0 j.toNat) H1
theorem pi_range1 {a:Expr}{ta:TA}{p pos:Pos} (hg:Gl X "range") (hm:X.mg "range"=none) (ha:PA X [a] ta) (hs:starEach [a] X.env=[(false,eval a X.env)]:=by rfl):PI X tg (.Call (.Name "range" p) [a] [] pos) (iRng1 ta):=by
 intro pins s σ H R I h
 refine Call_ (ld_blt I hg hm boot_range (PyProof.Rows.callWith_type1 (thn (ha pos pins s σ H _ I h) λus s1 ⟨vs,H1,I1,r1,q1⟩=>?_) hs rfl))
 obtain ⟨j,e,q1,q2,q⟩:=q1
 subst e
 cases r1 with
 |cons r rr=>
  cases rr
  obtain ⟨t,rfl⟩:=r
  exact call_range_1 (range_it I1 (by omega) (by omega) q1 q2 (by simpa using q))
def tFor (wi:TI) (g:TG) (tb:TS):TS:=λD σ H=>wi σ H λJ H1=>∃ W:Nat->Nat->St->Hp->Prop,(∃ m,W 0 m σ H1)/\∀ i m σ H,W i m σ H->
 (J.stop i H/\D.nx σ H)∨(J.go i H/\∃ N:St->Hp->Prop,(∀ σ' H',N σ' H'->∃ m',m'<m/\W (i+1) m' σ' H')/\∀ x H',J.yld i H x H'->g x σ H' fun σ2 H2=>tb { D with nx:=N,ct:=N,bk:=D.nx } σ2 H2)
def pinsAt (fp:List Addr) (h:Heap):List (Addr×Obj):=fp.filterMap λb=>(h.get? b).map λo=>(b,o)
theorem mem_pinsAt {fp:List Addr}{h:Heap}{b:Addr}{o:Obj} (hb:b∈fp) (e:h.get? b=some o):(b,o)∈pinsAt fp h:=List.mem_filterMap.mpr ⟨b,hb,by rw [e];rfl⟩
theorem of_pinsAt {fp:List Addr}{h:Heap}{p:Addr×Obj} (hp:p∈pinsAt fp h):p.1∈fp/\h.get? p.1=some p.2:=by
 obtain ⟨b,hb,e⟩:=List.mem_filterMap.mp hp
 cases q:h.get? b with
 |none=>rw [q] at e;cases e
 |some o=>
  rw [q] at e
  have e':(b,o)=p:=Option.some.inj e
  subst e'
  exact ⟨hb,q⟩
theorem Inv.pinned {pins:List (Addr×Obj)}{σ:St}{H:Hp}{s:Shared}{fp:List Addr} (I:Inv X pins σ H s) (hf:∀ b∈fp,FpOk X pins H b) (ho:∀ b∈fp,∃ o,s.heap.get? b=some o/\∀ v,o.data≠.cell v):Inv X (pins++pinsAt fp s.heap) σ H s:=
 I.pins_of λp hp=>(List.mem_append.mp hp).elim (λz=>I.pin p (List.mem_append_right _ z)) λz=>by
  obtain ⟨hb,e⟩:=of_pinsAt z
  obtain ⟨f0,f1,f2,_⟩:=hf p.1 hb
  obtain ⟨o,e',d⟩:=ho p.1 hb
  rw [e] at e';cases e'
  exact ⟨e,f0,f1,f2,d⟩
theorem Inv.unpinned {pins pl:List (Addr×Obj)}{σ:St}{H:Hp}{s:Shared} (I:Inv X (pins++pl) σ H s):Inv X pins σ H s:=I.pins_of λp hp=>I.pin p (List.mem_append_right _ (List.mem_append_left _ hp))
theorem ps_for {iter:Expr}{body:List Stmt}{wi:TI}{g:TG}{tb:TS}{pos:Pos} (hp:PassesOwn (model X.prog X.w) X.A X.env X.xe) (hc:X.calm=true) (hi:PI X tg iter wi) (hg:PG X tg g) (hb:PSs X body tb)
  (hs:∀ x,foldedSetIterable iter X.env x=pure x:=by intro _;rfl):PS X (.For tg iter body [] pos) (tFor wi g tb):=by
 intro pins s σ H D I h
 refine wpAny_For (thn (hi pins s σ H _ I h) λv s1 h1=>thn h1 λitv s2 h2=>?_) hs
 obtain ⟨it,fp,tn,J,H2,e,I2,T,st2,f2,W,⟨m0,w0⟩,turn⟩:=h2
 subst e
 have stat:∀ {H':Hp},(∀ b∈fp,H' b=none)->∀ b∈fp,FpOk X pins H' b:=λhn b hb=>⟨hn b hb,(f2 b hb).2⟩
 refine codeAny_forLoop_any (λn s'=>∃ i σ' H',Inv X pins σ' H' s'/\tn i s'.heap/\(∀ b∈fp,H' b=none)/\W i n σ' H') ?_ m0 ⟨0,σ,H2,I2,st2,λb hb=>(f2 b hb).1,w0⟩
 rintro n s3 ⟨i,σ3,H3,I3,st3,fr3,w3⟩
 rcases turn i n σ3 H3 w3 with ⟨stop,qn⟩|⟨go,N,hN,step⟩
 ·refine wpAny_passesOwn hp (thn (T.done X rfl rfl rfl hc i pins s3 σ3 H3 X.xe I3 (stat fr3) st3 stop) λr s4 ⟨hr,I4⟩=>?_)
  subst hr
  exact wpAny_execs_nil ⟨σ3,H3,I4,qn⟩
 ·refine wpAny_passesOwn hp (thn (T.item X rfl rfl rfl hc i pins s3 σ3 H3 X.xe I3 (stat fr3) st3 go) λr s4 ⟨u,hr,h4⟩=>?_)
  subst hr
  refine wpAny_passesOwn hp (thn h4 λ_ s5 ⟨x,H5,I5,r5,y5,st5,fr5⟩=>?_)
  have I5':=I5.pinned (stat fr5) (T.obj _ _ st5)
  refine wpAny_passesOwn hp (thn (hg _ s5 σ3 H5 x u _ I5' r5 (step x H5 y5)) λ_ s6 ⟨σ6,H6,I6,q6⟩=>?_)
  refine wpAny_passesOwn hp (thn (hb _ s6 σ6 H6 _ I6 q6) λf s7 q7=>?_)
  have again:∀ {σ7:St}{H7:Hp},Inv X (pins++pinsAt fp s5.heap) σ7 H7 s7->N σ7 H7->∃ m,m<n/\∃ i σ' H',Inv X pins σ' H' s7/\tn i s7.heap/\(∀ b∈fp,H' b=none)/\W i m σ' H':=λ{σ7 H7} I7 n7=>by
   obtain ⟨m',hm,w7⟩:=hN σ7 H7 n7
   refine ⟨m',hm,i+1,σ7,H7,I7.unpinned,T.keep _ _ _ st5 λb hb o e=>(I7.pin (b,o) (List.mem_append_right _ (List.mem_append_right _ (mem_pinsAt hb e)))).1,λb hb=>?_,w7⟩
   obtain ⟨o,e,d⟩:=T.obj _ _ st5 b hb
   exact (I7.pin (b,o) (List.mem_append_right _ (List.mem_append_right _ (mem_pinsAt hb e)))).2.1
  cases f with
  |next=>obtain ⟨σ7,H7,I7,n7⟩:=q7;exact again I7 n7
  |cont=>obtain ⟨σ7,H7,I7,n7⟩:=q7;exact again I7 n7
  |brk=>obtain ⟨σ7,H7,I7,q7⟩:=q7;exact ⟨σ7,H7,I7.unpinned,q7⟩
  |ret v=>obtain ⟨x7,σ7,H7,I7,r7,q7⟩:=q7;exact ⟨x7,σ7,H7,I7.unpinned,r7,q7⟩
end
theorem for_list {K:PySem.W.Frag}{a:Addr}{xs:List V}{g:TG}{tb:TS}{D:Ends}{σ:St}{H:Hp} (Pv:Nat->St->Hp->Prop) (h0:Pv 0 σ H) (hl:∀ i σ H,i<=xs.length->Pv i σ H->SqL K H a xs)
  (hs:∀ i x σ H,xs[i]?=some x->Pv i σ H->g x σ H fun σ2 H2=>tb { D with nx:=Pv (i+1),ct:=Pv (i+1),bk:=D.nx } σ2 H2) (hd:∀ σ H,Pv xs.length σ H->D.nx σ H) :
  ∃ W:Nat->Nat->St->Hp->Prop,(∃ m,W 0 m σ H)/\∀ i m σ H,W i m σ H->
   ((Itl K a).stop i H/\D.nx σ H)∨((Itl K a).go i H/\∃ N:St->Hp->Prop,(∀ σ' H',N σ' H'->∃ m',m'<m/\W (i+1) m' σ' H')/\∀ x H',(Itl K a).yld i H x H'->g x σ H' fun σ2 H2=>tb { D with nx:=N,ct:=N,bk:=D.nx } σ2 H2):=by
 refine ⟨λi m σ H=>m=xs.length-i/\i<=xs.length/\Pv i σ H,⟨xs.length,by simp,Nat.zero_le _,h0⟩,?_⟩
 rintro i m σ H ⟨rfl,hi,p⟩
 have q:=hl i σ H hi p
 by_cases hlt:i<xs.length
 ·refine .inr ⟨⟨xs,xs[i],q,by simp [hlt]⟩,Pv (i+1),fun σ' H' p'=>⟨xs.length-(i+1),by omega,rfl,hlt,p'⟩,λx H' y=>?_⟩
  obtain ⟨e,y⟩:=y
  subst e
  exact hs i x σ _ (y xs q) p
 ·have e:i=xs.length:=by omega
  subst e
  exact .inl ⟨⟨xs,q,Nat.le_refl _⟩,hd σ H p⟩
theorem for_range {lo:Int}{n:Nat}{g:TG}{tb:TS}{D:Ends}{σ:St}{H:Hp} (Pv:Nat->St->Hp->Prop) (h0:Pv 0 σ H)
  (hs:∀ i σ H,i<n->Pv i σ H->g (.int (lo+i)) σ H fun σ2 H2=>tb { D with nx:=Pv (i+1),ct:=Pv (i+1),bk:=D.nx } σ2 H2) (hd:∀ σ H,Pv n σ H->D.nx σ H) :
  ∃ W:Nat->Nat->St->Hp->Prop,(∃ m,W 0 m σ H)/\∀ i m σ H,W i m σ H->
   ((Itr lo n).stop i H/\D.nx σ H)∨((Itr lo n).go i H/\∃ N:St->Hp->Prop,(∀ σ' H',N σ' H'->∃ m',m'<m/\W (i+1) m' σ' H')/\∀ x H',(Itr lo n).yld i H x H'->g x σ H' fun σ2 H2=>tb { D with nx:=N,ct:=N,bk:=D.nx } σ2 H2):=by
 refine ⟨λi m σ H=>m=n-i/\i<=n/\Pv i σ H,⟨n,by simp,Nat.zero_le _,h0⟩,?_⟩
 rintro i m σ H ⟨rfl,hi,p⟩
 by_cases hlt:i<n
 ·refine .inr ⟨hlt,Pv (i+1),fun σ' H' p'=>⟨n-(i+1),by omega,rfl,hlt,p'⟩,λx H' y=>?_⟩
  obtain ⟨e,y⟩:=y
  subst e y
  exact hs i σ _ hlt p
 ·have e:i=n:=by omega
  subst e
  exact .inl ⟨Nat.le_refl _,hd σ H p⟩
theorem while_by {c:TT}{tb:TS}{D:Ends}{σ:St}{H:Hp} (Pv:St->Hp->Prop) (μ:St->Hp->Nat) (h0:Pv σ H)
  (hs:∀ σ H,Pv σ H->c σ H λb H1=>if b=true then tb { D with nx:=fun σ' H'=>Pv σ' H'/\μ σ' H' < μ σ H,ct:=fun σ' H'=>Pv σ' H'/\μ σ' H' < μ σ H,bk:=D.nx } σ H1 else D.nx σ H1)
  (mono:∀ σ H Q Q',(∀ b H1,Q b H1->Q' b H1)->c σ H Q->c σ H Q'):tWhile c tb D σ H:=by
 refine ⟨λm σ H=>m=μ σ H/\Pv σ H,⟨_,rfl,h0⟩,?_⟩
 rintro m σ H ⟨rfl,p⟩
 refine mono σ H _ _ (λb H1 q=>?_) (hs σ H p)
 cases b with
 |true=>exact ⟨_,fun σ' H' ⟨p',l⟩=>⟨_,l,rfl,p'⟩,q⟩
 |false=>exact q
end L2
namespace L2
open PySem PySem.Spec PyProof.Rows
abbrev R2:=V->V->Hp->VK->Prop
def OpR (X:Cx) (f:Value->Value->Sem Value) (r:R2):Prop:=
 ∀ (pins:List (Addr×Obj)) (s:Shared) (σ:St) (H:Hp) (x y:V) (v u:Value) (Q:VK),Inv X pins σ H s->RelV x v->RelV y u->r x y H Q->
  wpAny (model X.prog X.w) X.A (f v u) (EP X pins σ Q) X.xe s
def UnR (X:Cx) (f:Value->Sem Value) (r:V->Hp->VK->Prop):Prop:=
 ∀ (pins:List (Addr×Obj)) (s:Shared) (σ:St) (H:Hp) (x:V) (v:Value) (Q:VK),Inv X pins σ H s->RelV x v->r x H Q->
  wpAny (model X.prog X.w) X.A (f v) (EP X pins σ Q) X.xe s
def CallR (X:Cx) (f:Value) (r:List V->Hp->VK->Prop):Prop:=
 ∀ (pins:List (Addr×Obj)) (s:Shared) (σ:St) (H:Hp) (xs:List V) (us:List Value) (Q:VK),Inv X pins σ H s->Vals xs us->r xs H Q->
  wpAny (model X.prog X.w) X.A (call f us) (EP X pins σ Q) X.xe s
def tOp (r:R2) (ta tb:TE):TE:=fun σ H Q=>ta σ H λx H1=>tb σ H1 λy H2=>r x y H2 Q
def tUn (r:V->Hp->VK->Prop) (ta:TE):TE:=fun σ H Q=>ta σ H λx H1=>r x H1 Q
def rI (C:Int->Int->Prop) (g:Int->Int->V):R2:=λx y H Q=>∃ i j,x=.int i/\y=.int j/\C i j/\Q (g i j) H
def rI0 (g:Int->Int->V):R2:=λx y H Q=>∃ i j,x=.int i/\y=.int j/\Q (g i j) H
def rU (g:Int->V):V->Hp->VK->Prop:=λx H Q=>∃ i,x=.int i/\Q (g i) H
section
variable {X:Cx}{a b c:Expr}{ta tb tc:TE}{pos:Pos}
theorem binT (ha:PE X a ta) (hb:PE X b tb) {pins:List (Addr×Obj)}{s:Shared}{σ:St}{H:Hp}{R:V->V->Hp->Prop} (I:Inv X pins σ H s)
  (h:ta σ H λx H1=>tb σ H1 λy H2=>R x y H2) {Q:Value->Shared->Prop}{f:Value->Value->Sem Value}
  (hf:∀ v u s2 x y H2,Inv X pins σ H2 s2->RelV x v->RelV y u->R x y H2->wpAny (model X.prog X.w) X.A (f v u) Q X.xe s2) :
  wpAny (model X.prog X.w) X.A (eval a X.env) (λv s₁=>wpAny (model X.prog X.w) X.A (eval b X.env) (λu s₂=>wpAny (model X.prog X.w) X.A (f v u) Q X.xe s₂) X.xe s₁) X.xe s:=by
 refine thn (ha pins s σ H _ I h) λv s1 ⟨x,H1,I1,r1,q1⟩=>?_
 refine thn (hb pins s1 σ H1 _ I1 q1) λu s2 ⟨y,H2,I2,r2,q2⟩=>?_
 exact hf v u s2 x y H2 I2 r1 r2 q2
theorem pe_op {op:Operator}{r:R2} (ho:OpR X (binaryOp op) r) (ha:PE X a ta) (hb:PE X b tb):PE X (.BinOp a op b pos) (tOp r ta tb):=by
 intro pins s σ H Q I h
 exact wpAny_BinOp (binT ha hb I h λv u s2 x y H2 I2 rx ry q=>ho pins s2 σ H2 x y v u Q I2 rx ry q)
theorem pe_un {op:UnaryOp}{r:V->Hp->VK->Prop} (ho:UnR X (unaryOp op) r) (ha:PE X a ta):PE X (.UnaryOp op a pos) (tUn r ta):=by
 intro pins s σ H Q I h
 exact UnaryOp_ (thn (ha pins s σ H _ I h) λv s1 ⟨x,H1,I1,r1,q1⟩=>ho pins s1 σ H1 x v Q I1 r1 q1)
theorem opI {f:Value->Value->Sem Value}{C:Int->Int->Prop}{g:Int->Int->Int}
  (rule:∀ (i j:Int) (t u:Tok) (s:Shared) (Q:Value->Shared->Prop) (E:Value->Shared->Prop),C i j->Q (.int (g i j) s.toks) { s with toks:=s.toks+1 }->wpAny (model X.prog X.w) X.A (f (.int i t) (.int j u)) Q E s) :
  OpR X f (rI C λi j=>.int (g i j)):=by
 intro pins s σ H x y v u Q I rx ry h
 obtain ⟨i,j,rfl,rfl,hc,q⟩:=h
 obtain ⟨t,rfl⟩:=rx
 obtain ⟨t',rfl⟩:=ry
 exact rule i j t t' s _ _ hc ⟨.int (g i j),H,I.tok _,⟨_,rfl⟩,q⟩
theorem opI0 {f:Value->Value->Sem Value}{g:Int->Int->Int}
  (rule:∀ (i j:Int) (t u:Tok) (s:Shared) (Q:Value->Shared->Prop) (E:Value->Shared->Prop),Q (.int (g i j) s.toks) { s with toks:=s.toks+1 }->wpAny (model X.prog X.w) X.A (f (.int i t) (.int j u)) Q E s) :
  OpR X f (rI0 λi j=>.int (g i j)):=by
 intro pins s σ H x y v u Q I rx ry h
 obtain ⟨i,j,rfl,rfl,q⟩:=h
 obtain ⟨t,rfl⟩:=rx
 obtain ⟨t',rfl⟩:=ry
 exact rule i j t t' s _ _ ⟨.int (g i j),H,I.tok _,⟨_,rfl⟩,q⟩
theorem opB0 {f:Value->Value->Sem Value}{g:Int->Int->Bool}
  (rule:∀ (i j:Int) (t u:Tok) (s:Shared) (Q:Value->Shared->Prop) (E:Value->Shared->Prop),Q (.bool (g i j)) s->wpAny (model X.prog X.w) X.A (f (.int i t) (.int j u)) Q E s) :
  OpR X f (rI0 λi j=>.bl (g i j)):=by
 intro pins s σ H x y v u Q I rx ry h
 obtain ⟨i,j,rfl,rfl,q⟩:=h
 obtain ⟨t,rfl⟩:=rx
 obtain ⟨t',rfl⟩:=ry
 exact rule i j t t' s _ _ ⟨.bl (g i j),H,I,rfl,q⟩
def CDiv (i j:Int):Prop:=0<j/\j<1073741824
def CPow (i j:Int):Prop:=0<=j/\j<=1000000/\i.natAbs<2 ^ 64
def CMul (i j:Int):Prop:=(-(2 ^ 64)<i/\i<2 ^ 64)∨(-(2 ^ 64)<j/\j<2 ^ 64)
theorem CMul.ok {i j:Int} (h:CMul i j):IntMulOk i j:=by
 rcases h with ⟨h1,h2⟩|⟨h1,h2⟩
 ·exact .of_left (intBits_le_64 h1 h2)
 ·exact .of_right (intBits_le_64 h1 h2)
theorem op_add:OpR X (binaryOp .Add) (rI0 λi j=>.int (i+j)):=opI0 λ_ _ _ _ _ _ _ q=>add_int q
theorem op_sub:OpR X (binaryOp .Sub) (rI0 λi j=>.int (i-j)):=opI0 λ_ _ _ _ _ _ _ q=>sub_int q
theorem op_mul:OpR X (binaryOp .Mult) (rI CMul λi j=>.int (i * j)):=opI λ_ _ _ _ _ _ _ hc q=>mul_int q hc.ok
theorem op_fdiv:OpR X (binaryOp .FloorDiv) (rI CDiv λi j=>.int (i / j)):=opI λi j _ _ _ _ _ hc q=>by
 have h1:(0:Int)<j:=hc.1
 have h2:j<1073741824:=hc.2
 exact floordiv_int (by omega) (by rw [Int.fdiv_eq_ediv_of_nonneg i (by omega)];exact q) (.inl (PyProof.noPylong_small (by omega)))
theorem op_mod:OpR X (binaryOp .Mod) (rI (λ_ j=>0<j) λi j=>.int (i % j)):=opI λi j _ _ _ _ _ hc q=>by
 have h1:(0:Int)<j:=hc
 exact mod_int' (by omega) (by rw [Int.fmod_eq_emod_of_nonneg i (by omega)];exact q)
theorem op_pow:OpR X (binaryOp .Pow) (rI CPow λi j=>.int (i ^ j.toNat)):=opI λ_ _ _ _ _ _ _ hc q=>pow_int_small hc.1 hc.2.1 hc.2.2 q
theorem unI {f:Value->Sem Value}{g:Int->Int}
  (rule:∀ (i:Int) (t:Tok) (s:Shared) (Q:Value->Shared->Prop) (E:Value->Shared->Prop),Q (.int (g i) s.toks) { s with toks:=s.toks+1 }->wpAny (model X.prog X.w) X.A (f (.int i t)) Q E s) :
  UnR X f (rU λi=>.int (g i)):=by
 intro pins s σ H x v Q I rx h
 obtain ⟨i,rfl,q⟩:=h
 obtain ⟨t,rfl⟩:=rx
 exact rule i t s _ _ ⟨.int (g i),H,I.tok _,⟨_,rfl⟩,q⟩
theorem un_neg:UnR X (unaryOp .USub) (rU λi=>.int (-i)):=unI λ_ _ _ _ _ q=>neg_int q
end
def scal:V->V->Bool
 | .non,.non=>true | .non,.int _=>true | .int _,.non=>true | .non,.bl _=>true | .bl _,.non=>true | .non,.str _=>true | .str _,.non=>true
 | .int _,.int _=>true | .bl _,.bl _=>true | .str _,.str _=>true | .byt _,.byt _=>true
 | .int _,.str _=>true | .str _,.int _=>true | .bl _,.str _=>true | .str _,.bl _=>true
 |_,_=>false
def rEq:R2:=λx y H Q=>scal x y=true/\Q (.bl (decide (x=y))) H
def rNe:R2:=λx y H Q=>scal x y=true/\Q (.bl (!decide (x=y))) H
theorem dec_int {i j:Int}:decide (V.int i=V.int j)=(i == j):=by
 rw [Bool.eq_iff_iff]
 simp
theorem dec_bl {i j:Bool}:decide (V.bl i=V.bl j)=(i == j):=by
 rw [Bool.eq_iff_iff]
 simp
theorem dec_str {i j:Str}:decide (V.str i=V.str j)=(i == j):=by
 rw [Bool.eq_iff_iff]
 simp
theorem dec_byt {i j:Array UInt8}:decide (V.byt i=V.byt j)=(i.toList == j.toList):=by
 rw [Bool.eq_iff_iff]
 cases i
 cases j
 simp
section
variable {X:Cx}{a b c:Expr}{ta tb tc:TE}{pos:Pos}
theorem fin_bl {pins:List (Addr×Obj)}{σ:St}{H:Hp}{s:Shared}{Q:VK}{k k':Bool} (I:Inv X pins σ H s) (q:Q (.bl k) H) (e:k=k'):EP X pins σ Q (.bool k') s:=by
 subst e
 exact ⟨.bl k,H,I,rfl,q⟩
theorem op_eq:OpR X (compareOp .Eq) rEq:=by
 intro pins s σ H x y v u Q I rx ry h
 obtain ⟨hs,q⟩:=h
 cases x with
 |non=>
  cases rx
  cases y with
  |non=>cases ry;exact PySem.EqNone.eq_none_none (fin_bl I q (by simp))
  |bl j=>cases ry;exact PySem.EqNone.eq_none_bool (fin_bl I q (by simp))
  |int j=>obtain ⟨t',rfl⟩:=ry;exact PySem.EqNone.eq_none_int (fin_bl I q (by simp))
  |str j=>obtain ⟨t',rfl⟩:=ry;exact PySem.EqNone.eq_none_str (fin_bl I q (by simp))
  |_=>exact absurd (show false=true from hs) Bool.false_ne_true
 |bl i=>
  cases rx
  cases y with
  |non=>cases ry;exact PySem.EqNone.eq_bool_none (fin_bl I q (by simp))
  |bl j=>cases ry;exact eq_bool (fin_bl I q dec_bl)
  |str j=>obtain ⟨t',rfl⟩:=ry;exact PySem.EqMixed.eq_bool_str (fin_bl I q (by simp))
  |_=>exact absurd (show false=true from hs) Bool.false_ne_true
 |int i=>
  obtain ⟨t,rfl⟩:=rx
  cases y with
  |non=>cases ry;exact PySem.EqNone.eq_int_none (fin_bl I q (by simp))
  |int j=>obtain ⟨t',rfl⟩:=ry;exact eq_int (fin_bl I q dec_int)
  |str j=>obtain ⟨t',rfl⟩:=ry;exact PySem.EqMixed.eq_int_str (fin_bl I q (by simp))
  |_=>exact absurd (show false=true from hs) Bool.false_ne_true
 |str i=>
  obtain ⟨t,rfl⟩:=rx
  cases y with
  |non=>cases ry;exact PySem.EqNone.eq_str_none (fin_bl I q (by simp))
  |bl j=>cases ry;exact PySem.EqMixed.eq_str_bool (fin_bl I q (by simp))
  |int j=>obtain ⟨t',rfl⟩:=ry;exact PySem.EqMixed.eq_str_int (fin_bl I q (by simp))
  |str j=>obtain ⟨t',rfl⟩:=ry;exact eq_str (fin_bl I q dec_str)
  |_=>exact absurd (show false=true from hs) Bool.false_ne_true
 |byt i=>
  obtain ⟨t,rfl⟩:=rx
  cases y with
  |byt j=>obtain ⟨t',rfl⟩:=ry;exact PySem.W.eq_bytes (fin_bl I q dec_byt)
  |_=>exact absurd (show false=true from hs) Bool.false_ne_true
 |_=>cases y<;>exact absurd (show false=true from hs) Bool.false_ne_true
theorem op_ne:OpR X (compareOp .NotEq) rNe:=by
 intro pins s σ H x y v u Q I rx ry h
 obtain ⟨hs,q⟩:=h
 cases x with
 |non=>
  cases rx
  cases y with
  |non=>cases ry;exact PySem.EqNone.ne_none_none (fin_bl I q (by simp))
  |bl j=>cases ry;exact PySem.EqNone.ne_none_bool (fin_bl I q (by simp))
  |int j=>obtain ⟨t',rfl⟩:=ry;exact PySem.EqNone.ne_none_int (fin_bl I q (by simp))
  |str j=>obtain ⟨t',rfl⟩:=ry;exact PySem.EqNone.ne_none_str (fin_bl I q (by simp))
  |_=>exact absurd (show false=true from hs) Bool.false_ne_true
 |bl i=>
  cases rx
  cases y with
  |non=>cases ry;exact PySem.EqNone.ne_bool_none (fin_bl I q (by simp))
  |bl j=>cases ry;exact ne_bool (fin_bl I q (congrArg not dec_bl))
  |str j=>obtain ⟨t',rfl⟩:=ry;exact PySem.EqMixed.ne_bool_str (fin_bl I q (by simp))
  |_=>exact absurd (show false=true from hs) Bool.false_ne_true
 |int i=>
  obtain ⟨t,rfl⟩:=rx
  cases y with
  |non=>cases ry;exact PySem.EqNone.ne_int_none (fin_bl I q (by simp))
  |int j=>obtain ⟨t',rfl⟩:=ry;exact ne_int (fin_bl I q (congrArg not dec_int))
  |str j=>obtain ⟨t',rfl⟩:=ry;exact PySem.EqMixed.ne_int_str (fin_bl I q (by simp))
  |_=>exact absurd (show false=true from hs) Bool.false_ne_true
 |str i=>
  obtain ⟨t,rfl⟩:=rx
  cases y with
  |non=>cases ry;exact PySem.EqNone.ne_str_none (fin_bl I q (by simp))
  |bl j=>cases ry;exact PySem.EqMixed.ne_str_bool (fin_bl I q (by simp))
  |int j=>obtain ⟨t',rfl⟩:=ry;exact PySem.EqMixed.ne_str_int (fin_bl I q (by simp))
  |str j=>obtain ⟨t',rfl⟩:=ry;exact ne_str (fin_bl I q (congrArg not dec_str))
  |_=>exact absurd (show false=true from hs) Bool.false_ne_true
 |byt i=>
  obtain ⟨t,rfl⟩:=rx
  cases y with
  |byt j=>obtain ⟨t',rfl⟩:=ry;exact PySem.W.ne_bytes (fin_bl I q (congrArg not dec_byt))
  |_=>exact absurd (show false=true from hs) Bool.false_ne_true
 |_=>cases y<;>exact absurd (show false=true from hs) Bool.false_ne_true
theorem op_lt:OpR X (compareOp .Lt) (rI0 λi j=>.bl (decide (i<j))):=opB0 λ_ _ _ _ _ _ _ q=>lt_int q
theorem op_le:OpR X (compareOp .LtE) (rI0 λi j=>.bl (decide (i<=j))):=opB0 λ_ _ _ _ _ _ _ q=>le_int q
theorem op_ge:OpR X (compareOp .GtE) (rI0 λi j=>.bl (decide (j<=i))):=opB0 λ_ _ _ _ _ _ _ q=>ge_int q
theorem nomark (b:Expr) {op:CmpOp} (h:op≠.In:=by decide) (h2:op≠.NotIn:=by decide):behindInMarks op b=false:=by
 have e1:(op == CmpOp.In)=false:=by cases op<;>first|rfl|exact absurd rfl h
 have e2:(op == CmpOp.NotIn)=false:=by cases op<;>first|rfl|exact absurd rfl h2
 cases b<;>simp [behindInMarks,e1,e2]
theorem pe_cmpR {op:CmpOp}{r:R2} (ho:OpR X (compareOp op) r) (ha:PE X a ta) (hb:PE X b tb) (hm:behindInMarks op b=false):PE X (.Compare a [op] [b] pos) (tOp r ta tb):=by
 intro pins s σ H Q I h
 exact wpAny_Compare1 (binT ha hb I h λv u s2 x y H2 I2 rx ry q=>ho pins s2 σ H2 x y v u Q I2 rx ry q) hm
def tTest (t:TE):TT:=fun σ H Q=>t σ H λx H'=>∃ k,x=.bl k/\Q k H'
theorem pt_cmpR {op:CmpOp}{r:R2} (ho:OpR X (compareOp op) r) (ha:PE X a ta) (hb:PE X b tb) (hm:behindInMarks op b=false):PT X (.Compare a [op] [b] pos) (tTest (tOp r ta tb)):=by
 intro pins s σ H Q I h
 refine wpAny_isTrue_Compare1 (thn (ha pins s σ H _ I h) λv s1 ⟨x,H1,I1,r1,q1⟩=>thn (hb pins s1 σ H1 _ I1 q1) λu s2 ⟨y,H2,I2,r2,q2⟩=>
  thn (ho pins s2 σ H2 x y v u _ I2 r1 r2 q2) λc s3 ⟨z,H3,I3,r3,k,e,q3⟩=>?_) hm
 subst e
 cases r3
 exact wpAny_truthy_bool ⟨H3,I3,q3⟩
theorem line63:(sizeLine:Nat)<2 ^ 63:=by rw [sizeLine_eq];decide
theorem op_add_str:OpR X (binaryOp .Add) (λx y H Q=>∃ i j,x=.str i/\y=.str j/\i.length+j.length<=sizeLine/\Q (.str (i++j)) H):=by
 intro pins s σ H x y v u Q I rx ry h
 obtain ⟨i,j,rfl,rfl,hz,q⟩:=h
 obtain ⟨t,rfl⟩:=rx
 obtain ⟨t',rfl⟩:=ry
 exact add_str (λt' tk=>⟨.str (i++j),H,I.tok _,⟨_,rfl⟩,q⟩) hz
theorem vals1 {x:V}{us:List Value} (r:Vals [x] us):∃ u,us=[u]/\RelV x u:=by
 cases r with
 |cons r1 r2=>cases r2;exact ⟨_,rfl,r1⟩
theorem vals2 {x y:V}{us:List Value} (r:Vals [x,y] us):∃ u w',us=[u,w']/\RelV x u/\RelV y w':=by
 cases r with
 |cons r1 r2=>
  cases r2 with
  |cons r3 r4=>cases r4;exact ⟨_,_,rfl,r1,r3⟩
theorem call_max2 (hc:X.calm=true):CallR X (.builtin "max") (λxs H Q=>∃ i j,xs=[.int i,.int j]/\Q (.int (if j > i then j else i)) H):=by
 intro pins s σ H xs us Q I r h
 obtain ⟨i,j,rfl,q⟩:=h
 obtain ⟨u,w',rfl,⟨t,rfl⟩,⟨t',rfl⟩⟩:=vals2 r
 refine max_two_ints (I.ok.hd hc) λh' tk k=>⟨_,H,I.kept k,?_,q⟩
 by_cases hj:j > i
 ·rw [if_pos hj,if_pos hj];exact ⟨_,rfl⟩
 ·rw [if_neg hj,if_neg hj];exact ⟨_,rfl⟩
theorem call_min2 (hc:X.calm=true):CallR X (.builtin "min") (λxs H Q=>∃ i j,xs=[.int i,.int j]/\Q (.int (if j<i then j else i)) H):=by
 intro pins s σ H xs us Q I r h
 obtain ⟨i,j,rfl,q⟩:=h
 obtain ⟨u,w',rfl,⟨t,rfl⟩,⟨t',rfl⟩⟩:=vals2 r
 refine min_two_ints (I.ok.hd hc) λh' tk k=>⟨_,H,I.kept k,?_,q⟩
 by_cases hj:j<i
 ·rw [if_pos hj,if_pos hj];exact ⟨_,rfl⟩
 ·rw [if_neg hj,if_neg hj];exact ⟨_,rfl⟩
end
end L2
namespace L2
open PySem PySem.Spec PyProof.Rows
structure ObjM (h:Heap) (x dx C:Addr) (mA:Str->Option Value):Prop where
 obj:h.get? x=some (PySem.W.instObj C dx)
 ns:h.Ns1 dx mA
 ne:dx≠x
theorem lookIn_ns {h:Heap}{dx:Addr}{mA:Str->Option Value} (n:h.Ns1 dx mA):∃ od,h.get? dx=some od/\∀ name,PySem.W.lookIn name od=some (mA name):=by
 obtain ⟨o,es,ep,ho,hd,hk,_,hm⟩:=n
 refine ⟨o,ho,λname=>?_⟩
 have e:=hm name
 unfold nsFind findBy at e
 rw [<-Array.find?_toList] at e
 unfold PySem.W.lookIn
 rw [hd]
 dsimp only
 split
 ·rename_i y q
  rw [q] at e
  exact congrArg some e
 ·rename_i q
  rw [q] at e
  have a:es.toList.any (·.refKey)=false:=by
   rw [List.any_eq_false]
   intro y hy
   obtain ⟨z,t,hkey⟩:=hk y (Array.mem_toList_iff.mp hy)
   simp [DictEntry.refKey,hkey]
  have a':¬ es.toList.any (·.refKey)=true:=by rw [a];exact Bool.false_ne_true
  rw [if_neg a']
  exact congrArg some e
theorem ObjM.look {h:Heap}{x dx C:Addr}{mA:Str->Option Value} (I:ObjM h x dx C mA):∃ od,PySem.W.InstAt h x (PySem.W.instObj C dx) C (some od)/\∀ name,PySem.W.lookIn name od=some (mA name):=
 let ⟨od,ho,hl⟩:=lookIn_ns I.ns
 ⟨od,⟨I.obj,rfl,rfl,ho⟩,hl⟩
section
variable {prog:Program}{w:World}{A:Around}{E:Value->Shared->Prop}{s:Shared}{K:PySem.W.Frag}{x dx C f:Addr}{mA:Str->Option Value}{name:Str}{v:Value}
theorem get_map {expr:Bool}{Q:Value->Shared->Prop} (X:K.In s.heap) (I:ObjM s.heap x dx C mA) (hg:PySem.W.plainGet K C name=true) (hh:PySem.W.hasDictIn K C=true)
  (ha:PySem.W.findIn K (.ref C) name=some none) (hv:mA name=some v) (hv':PySem.W.handedIn v=true) (h:Q v { s with toks:=s.toks+1 }) :
  wpAny (model prog w) A (getAttr (.ref x) name expr) Q E s:=by
 obtain ⟨od,J,hl⟩:=I.look
 exact PySem.W.get_value X J (PySem.W.plainGet_of hg).1 (PySem.W.findObj_own hh ha rfl (by rw [hl,hv])) hv' h
theorem get_meth {pl:Sem Bool}{Q:Value×List Value->Shared->Prop} (X:K.In s.heap) (I:ObjM s.heap x dx C mA) (hg:PySem.W.plainGet K C name=true)
  (hf:PySem.W.findIn K (.ref C) name=some (some (.ref f))) (ht:PySem.W.isFn K (.ref f)=true) (hv:mA name=none) (h:Q (.ref f,[.ref x]) s) :
  wpAny (model prog w) A (getMethod (.ref x) name pl) Q E s:=by
 obtain ⟨od,J,hl⟩:=I.look
 exact PySem.W.method_fn X J (PySem.W.plainGet_of hg).1 (PySem.W.plainGet_of hg).2 hf (beq_iff_eq.mp ht) (by show (PySem.W.lookIn name od).map (·.isSome)=some false;rw [hl,hv];rfl) h
theorem set_map {ns:List Str}{Q:Unit->Shared->Prop} (X:K.In s.heap) (I:ObjM s.heap x dx C mA)
  (hs:PySem.W.findIn K (.ref C) "__setattr__"=some (some (.builtin "object.__setattr__"))) (hp:PySem.W.plainOver K C=true) (ht:PySem.W.takerIn K C name=some none) (hh:PySem.W.hasDictIn K C=true)
  (hw:PySem.Within mA ns) (hsz:ns.length<=sizeLine)
  (h:∀ h',ObjM h' x dx C (λy=>if y=name then some v else mA y)->Heap.SameBut dx s.heap h'->Q () { s with heap:=h',toks:=s.toks+2 }) :
  wpAny (model prog w) A (setAttr (.ref x) name v) Q E s:=by
 obtain ⟨od,J,hl⟩:=I.look
 refine PySem.W.set_plain X J hs (PySem.W.osa_open (s:={ s with toks:=s.toks+1 }) (r:=none) X J hp ht λb=>?_)
 obtain ⟨cd,hc,hd'⟩:=PySem.W.any_some hh
 have hx:s.heap.get? x=some ⟨.ref C,some dx,.plain,#[]⟩:=I.obj
 refine wpAny_bind (wpAny_pure (wpAny_bind (wpAny_bind (wpAny_loadPart hx (wpAny_bind (PySem.W.Looks.here (s:={ s with toks:=s.toks+1 }) (PySem.W.looks_clsIn X hc) ?_))))))
 rw [hd']
 refine wpAny_pure (a:=some dx) (wpAny_bind (wpAny_pure (wpAny_bind ?_)))
 refine wpAny_nsSet1 (s:={ s with toks:=s.toks+1 }) I.ns λh' hn2 hs2=>?_
 obtain ⟨oD,esD,epD,hoD,hdD,hcD⟩:=hn2.count (PySem.Within.cons name v hw)
 refine wpAny_bind (wpAny_lookBehind hoD (by rw [hdD];exact pastItsLine_dict (Nat.le_trans hcD (by rw [List.length_cons];omega))) ?_)
 exact wpAny_pure (h _ ⟨(hs2.2 _ (Ne.symm I.ne)).trans I.obj,hn2,I.ne⟩ hs2)
theorem make_map {R:Result->Shared->Prop}{vs:List Value}{kw:List (Str×Value)} (X:K.In s.heap) (hm:PySem.W.makesIn K C=true)
  (hi:PySem.W.findIn K (.ref C) "__init__"=some (some (.ref f))) (hf:PySem.W.typeIn K (.ref f)=some (.type "function"))
  (h:codeAny (model prog w) (A.under (.builtin "type.__call__" ⟨.ref C::vs,kw⟩)) (.call (.ref f) ⟨.ref (s.heap.objs.size+1)::vs,kw⟩) (PySem.W.InitBack (s.heap.objs.size+1) R)
   { s with heap:=(s.heap.push PySem.W.emptyDict).push (PySem.W.instObj C s.heap.objs.size) }) :
  codeAny (model prog w) A (.call (.ref C) ⟨vs,kw⟩) R s:=by
 obtain ⟨hh,g,d,t,os⟩:=s
 exact PySem.W.make_core (PySem.W.makes_of X hm) (PySem.W.looks_findIn X hi) (λself=>PySem.W.bind_fn X self hf) (.inl rfl) h
end
def putF (f:Str) (v:V):List (Str×V)->List (Str×V)
 | []=>[(f,v)]
 |(g,x)::r=>if g=f then (g,v)::r else (g,x)::putF f v r
theorem lookup_putF (f g:Str) (v:V):∀ fs:List (Str×V),(putF f v fs).lookup g=if g=f then some v else fs.lookup g
 | []=>by
  show List.lookup g [(f,v)]=_
  by_cases h:g=f
  ·have hb:(g == f)=true:=beq_iff_eq.mpr h
   simp only [List.lookup,hb,if_pos h]
  ·have hb:(g == f)=false:=beq_eq_false_iff_ne.mpr h
   simp only [List.lookup,hb,if_neg h]
 |(k,x)::r=>by
  have ih:=lookup_putF f g v r
  rw [show putF f v ((k,x)::r)=(if k=f then (k,v)::r else (k,x)::putF f v r) from rfl]
  by_cases hk:k=f
  ·rw [if_pos hk]
   by_cases h:g=k
   ·have hb:(g == k)=true:=beq_iff_eq.mpr h
    simp only [List.lookup,hb,if_pos (h.trans hk)]
   ·have hb:(g == k)=false:=beq_eq_false_iff_ne.mpr h
    simp only [List.lookup,hb,if_neg (λe:g=f=>h (e.trans hk.symm))]
  ·rw [if_neg hk]
   by_cases h:g=k
   ·have hb:(g == k)=true:=beq_iff_eq.mpr h
    simp only [List.lookup,hb,if_neg (λe:g=f=>hk (h.symm.trans e))]
   ·have hb:(g == k)=false:=beq_eq_false_iff_ne.mpr h
    simp only [List.lookup,hb]
    exact ih
theorem keys_putF (f:Str) (v:V):∀ fs:List (Str×V),f∈(putF f v fs).map (·.1)/\∀ g,g∈fs.map (·.1)->g∈(putF f v fs).map (·.1)
 | []=>⟨by simp [putF],λg h=>by simp at h⟩
 |(k,x)::r=>by
  obtain ⟨i1,i2⟩:=keys_putF f v r
  rw [show putF f v ((k,x)::r)=(if k=f then (k,v)::r else (k,x)::putF f v r) from rfl]
  by_cases hk:k=f
  ·rw [if_pos hk]
   subst hk
   exact ⟨by simp,λg h=>by simpa using h⟩
  ·rw [if_neg hk]
   refine ⟨?_,λg h=>?_⟩
   ·rw [List.map_cons]
    exact List.mem_cons_of_mem _ i1
   ·rw [List.map_cons] at h ⊢
    rcases List.mem_cons.mp h with e|e
    ·exact List.mem_cons.mpr (.inl e)
    ·exact List.mem_cons_of_mem _ (i2 g e)
theorem length_putF (f:Str) (v:V):∀ fs:List (Str×V),(putF f v fs).length<=fs.length+1
 | []=>by simp [putF]
 |(k,x)::r=>by
  have ih:=length_putF f v r
  rw [show putF f v ((k,x)::r)=(if k=f then (k,v)::r else (k,x)::putF f v r) from rfl]
  by_cases hk:k=f
  ·rw [if_pos hk,List.length_cons,List.length_cons];omega
  ·rw [if_neg hk,List.length_cons,List.length_cons];omega
theorem RelO.some_of {v:V}{o:Option Value} (r:RelO (some v) o):∃ u,o=some u/\RelV v u:=by
 cases o with
 |none=>exact (show False from r).elim
 |some u=>exact ⟨u,rfl,r⟩
theorem RelO.none_of {o:Option Value} (r:RelO none o):o=none:=by
 cases o with
 |none=>rfl
 |some u=>exact (show False from r).elim
theorem handed_of {v:V}{u:Value} (r:RelV v u):PySem.W.handedIn u=true:=by
 cases v with
 |non=>cases (show u=Value.none from r);rfl
 |bl b=>cases (show u=Value.bool b from r);rfl
 |int i=>obtain ⟨t,e⟩:=(show ∃ t,u=Value.int i t from r);cases e;rfl
 |str x=>obtain ⟨t,e⟩:=(show ∃ t,u=Value.str x t from r);cases e;rfl
 |byt b=>obtain ⟨t,e⟩:=(show ∃ t,u=Value.bytes b t from r);cases e;rfl
 |flt b=>obtain ⟨t,e⟩:=(show ∃ t,u=Value.float b t from r);cases e;rfl
 |ref a=>cases (show u=Value.ref a from r);rfl
 |ty n=>cases (show u=Value.type n from r);rfl
section
variable {P:Program}{w:World}{H H':Hp}{h h':Heap}{a C dx:Addr}{fs fs':List (Str×V)}
theorem ins_get (hok:HOk P w H h) (e:H a=some (.ins C dx fs)):∃ mA,ObjM h a dx C mA/\(∀ f,RelO (fs.lookup f) (mA f))/\PySem.Within mA (fs.map (·.1))/\fs.length<=1000/\H dx=some (.own a):=by
 obtain ⟨d,z,ne,ob,mA,n,r,q⟩:=(show ObjOk P w H h a (.ins C dx fs) from hok a _ e)
 exact ⟨mA,⟨ob,n,ne⟩,r,q,z,d⟩
end
structure Cls (K:PySem.W.Frag) (C:Addr):Prop where
 pg:PySem.W.plainGet K C Str.empty=true
 hd:PySem.W.hasDictIn K C=true
 po:PySem.W.plainOver K C=true
 sa:PySem.W.findIn K (.ref C) "__setattr__"=some (some (.builtin "object.__setattr__"))
theorem Cls.get {K:PySem.W.Frag}{C:Addr} (c:Cls K C) (f:Str):PySem.W.plainGet K C f=true:=c.pg
def NoAttr (K:PySem.W.Frag) (C:Addr) (f:Str):Prop:=PySem.W.findIn K (.ref C) f=some none
theorem NoAttr.taker {K:PySem.W.Frag}{C:Addr}{f:Str} (n:NoAttr K C f):PySem.W.takerIn K C f=some none:=by
 unfold PySem.W.takerIn
 rw [show PySem.W.findIn K (.ref C) f=some none from n]
 rfl
structure Meth (K:PySem.W.Frag) (C:Addr) (m:Str) (f:Addr):Prop where
 at_:PySem.W.findIn K (.ref C) m=some (some (.ref f))
 fn:PySem.W.isFn K (.ref f)=true
 kp:PySem.W.keepIn K (.ref f)=true
section
variable {X:Cx}{pins:List (Addr×Obj)}{σ:St}{H:Hp}{s:Shared}{a C dx:Addr}{fs:List (Str×V)}{f:Str}{v:V}{A:Around}{E:Value->Shared->Prop}
theorem getattr_ok {b:Bool}{Q:Value->Shared->Prop} (I:Inv X pins σ H s) (e:H a=some (.ins C dx fs)) (c:Cls X.K C) (n:NoAttr X.K C f) (l:fs.lookup f=some v)
  (h:∀ u s',Inv X pins σ H s'->RelV v u->Q u s'):wpAny (model X.prog X.w) A (getAttr (.ref a) f b) Q E s:=by
 obtain ⟨mA,O,r,_,_,_⟩:=ins_get I.hok e
 obtain ⟨u,hu,ru⟩:=RelO.some_of (v:=v) (o:=mA f) (by rw [<-l];exact r f)
 exact get_map I.kIn O (c.get f) c.hd n hu (handed_of ru) (h u _ (I.tok _) ru)
theorem getmeth_ok {m:Str}{g:Addr}{pl:Sem Bool}{Q:Value×List Value->Shared->Prop} (I:Inv X pins σ H s) (e:H a=some (.ins C dx fs)) (c:Cls X.K C) (k:Meth X.K C m g) (l:fs.lookup m=none)
  (h:Q (.ref g,[.ref a]) s):wpAny (model X.prog X.w) A (getMethod (.ref a) m pl) Q E s:=by
 obtain ⟨mA,O,r,_,_,_⟩:=ins_get I.hok e
 have hn:mA m=none:=RelO.none_of (by rw [<-l];exact r m)
 exact get_meth I.kIn O (c.get m) k.at_ k.fn hn h
theorem setattr_ok {y:V}{u:Value}{Q:Unit->Shared->Prop} (I:Inv X pins σ H s) (e:H a=some (.ins C dx fs)) (c:Cls X.K C) (n:NoAttr X.K C f) (hl:fs.length<1000) (ry:RelV y u)
  (h:∀ s',Inv X pins σ (upd H a (.ins C dx (putF f y fs))) s'->Q () s'):wpAny (model X.prog X.w) A (setAttr (.ref a) f u) Q E s:=by
 obtain ⟨mA,O,r,wi,_,ho⟩:=ins_get I.hok e
 have hz:(fs.map (·.1)).length<=sizeLine:=by rw [List.length_map,sizeLine_eq];omega
 refine set_map I.kIn O c.sa c.po n.taker c.hd wi hz λh' O' sb=>h _ ?_
 have hd:∃ o,h'.get? dx=some o:=let ⟨o,_,_,e',_⟩:=O'.ns;⟨o,e'⟩
 refine I.write (x:=a) (e:=dx) (by rw [e];exact True.intro) (.inr ho) (λb q hb z=>(sb.2 b hb).trans z) hd ?_
 refine ⟨by rw [upd_ne O.ne];exact ho,?_,O.ne,O'.obj,_,O'.ns,λg=>?_,λg hg=>?_⟩
 ·have:=length_putF f y fs;omega
 ·show RelO ((putF f y fs).lookup g) (if g=f then some u else mA g)
  rw [lookup_putF]
  by_cases q:g=f
  ·rw [if_pos q,if_pos q];exact ry
  ·rw [if_neg q,if_neg q];exact r g
 ·by_cases q:g=f
  ·rw [q];exact (keys_putF f y fs).1
  ·refine (keys_putF f y fs).2 g (wi g λz=>hg ?_)
   show (if g=f then some u else mA g)=none
   rw [if_neg q];exact z
theorem Inv.made (I:Inv X pins σ H s):Inv X pins σ (upd (upd H s.heap.objs.size (.own (s.heap.objs.size+1))) (s.heap.objs.size+1) (.ins C s.heap.objs.size []))
  { s with heap:=(s.heap.push PySem.W.emptyDict).push (PySem.W.instObj C s.heap.objs.size) }:=by
 have e1:(s.heap.push PySem.W.emptyDict).get? s.heap.objs.size=some PySem.W.emptyDict:=Heap.get?_push_size s.heap rfl
 have e2:((s.heap.push PySem.W.emptyDict).push (PySem.W.instObj C s.heap.objs.size)).get? (s.heap.objs.size+1)=some (PySem.W.instObj C s.heap.objs.size):=by
  have:=Heap.get?_push_size (s.heap.push PySem.W.emptyDict) (o:=PySem.W.instObj C s.heap.objs.size) rfl
  rwa [Heap.size_push] at this
 have e3:(s.heap.push PySem.W.emptyDict).Ns s.heap.objs.size (λ_=>none):=⟨PySem.W.emptyDict,#[],_,e1,rfl,(λe he=>absurd he (by simp)),λ_=>rfl⟩
 have I1:=I.laid (a:=s.heap.objs.size) (o:=.own (s.heap.objs.size+1)) (h':=s.heap.push PySem.W.emptyDict) (t':=s.toks) (λb u q=>Heap.get?_push_of_some _ q) (Nat.le_refl _) ⟨_,e1⟩
 refine I1.laid (a:=s.heap.objs.size+1) (o:=.ins C s.heap.objs.size []) (t':=s.toks) (λb u q=>Heap.get?_push_of_some _ q) (Nat.le_of_eq (Heap.size_push _ _)) ?_
 have ne:s.heap.objs.size≠s.heap.objs.size+1:=Nat.ne_of_lt (Nat.lt_succ_self _)
 refine ⟨by rw [upd_ne ne,upd_same],Nat.zero_le _,ne,e2,λ_=>none,(Heap.Ns1.of_empty e3).at λo q=>Heap.get?_push_of_some _ q,λ_=>True.intro,λy hy=>absurd rfl hy⟩
theorem attr_of {prog:Program}{w:World}{env:Env}{e:Expr}{f:Str}{pos:Pos}{s:Shared}{Q:Value->Shared->Prop} (hb:attributeBase e f env (eval e env)=eval e env)
  (h:wpAny (model prog w) A (eval e env) (λo s₁=>wpAny (model prog w) A (getAttr o f true) Q E s₁) E s):wpAny (model prog w) A (eval (.Attribute e f pos) env) Q E s:=
 Attribute_any_ h (by rw [arm_eval_Attribute,hb])
end
def tFld (K:PySem.W.Frag) (ta:TE) (f:Str):TE:=fun σ H Q=>ta σ H λx H1=>∃ a C dx fs v,x=.ref a/\H1 a=some (.ins C dx fs)/\Cls K C/\NoAttr K C f/\fs.lookup f=some v/\Q v H1
def sFld (K:PySem.W.Frag) (ta tv:TE) (f:Str):TS:=λD σ H=>tv σ H λy H1=>ta σ H1 λx H2=>∃ a C dx fs,x=.ref a/\H2 a=some (.ins C dx fs)/\Cls K C/\NoAttr K C f/\fs.length<1000/\
 D.nx σ (upd H2 a (.ins C dx (putF f y fs)))
section
variable {X:Cx}{o e value:Expr}{f:Str}{pos pos' tpos:Pos}{ta tv:TE}
theorem pe_fld (he:PE X e ta) (hb:attributeBase e f X.env (eval e X.env)=eval e X.env):PE X (.Attribute e f pos) (tFld X.K ta f):=by
 intro pins s σ H Q I h
 refine attr_of hb (thn (he pins s σ H _ I h) λu s1 ⟨x,H1,I1,rx,a,C,dx,fs,v,ex,ea,c,n,l,q⟩=>?_)
 subst ex
 obtain rfl:u=Value.ref a:=rx
 exact getattr_ok I1 ea c n l λu' s2 I2 ru=>⟨v,H1,I2,ru,q⟩
theorem ps_fld (ha:PE X o ta) (hv:PE X value tv) (hs:swapsWith value (some (.Attribute o f pos')) pos.line X.env=pure false):PS X (.Assign [.Attribute o f pos'] value pos) (sFld X.K ta tv f):=by
 intro pins s σ H D I h
 refine plainObj_wpAny_Assign_Attribute (thn (hv pins s σ H _ I h) λu s1 ⟨y,H1,I1,ry,q⟩=>thn (ha pins s1 σ H1 _ I1 q) λov s2 ⟨x,H2,I2,rx,a,C,dx,fs,ex,ea,c,n,l,q2⟩=>?_) hs
 subst ex
 obtain rfl:ov=Value.ref a:=rx
 exact setattr_ok I2 ea c n l ry λs3 I3=>⟨σ,_,I3,q2⟩
end
section
variable {X:Cx}{pins:List (Addr×Obj)}{σ:St}{H:Hp}{s:Shared}{A:Around}{E:Value->Shared->Prop}{Q:Value->Shared->Prop}{c:Value}{b:Bool}
inductive TyOf (K:PySem.W.Frag) (H:Hp):V->Value->Prop where
 |non:TyOf K H .non (.type "NoneType")
 |bl (x:Bool):TyOf K H (.bl x) (.type "bool")
 |int (i:Int):TyOf K H (.int i) (.type "int")
 |str (x:Str):TyOf K H (.str x) (.type "str")
 |flt (x:UInt64):TyOf K H (.flt x) (.type "float")
 |lst {a:Addr}{xs:List V} (e:H a=some (.lst xs)):TyOf K H (.ref a) (.type "list")
 |frz {a:Addr}{o:Obj}{xs:List V} (e:H a=some (.frz o (.lst xs))):TyOf K H (.ref a) (.type "list")
 |tup {a:Addr}{xs:List V} (e:H a=some (.tup xs)):TyOf K H (.ref a) (.type "tuple")
 |dK {a:Addr}{kvs:List (Key×V)} (e:H a=some (.dK kvs)):TyOf K H (.ref a) (.type "dict")
 |dT {a:Addr}{kvs:List (List Key×V)} (e:H a=some (.dT kvs)):TyOf K H (.ref a) (.type "dict")
 |ins {a C dx:Addr}{fs:List (Str×V)} (e:H a=some (.ins C dx fs)) (cl:Cls K C) (ha:PySem.W.findIn K (.ref C) "__class__"=some (some (.builtin "object.__class__")))
   (hn:PySem.W.specialIn K (.builtin "object.__class__") "__get__"=some (some (.builtin "getset_descriptor.__get__"))) (htk:PySem.W.takesIn K (.builtin "object.__class__")=some true)
   (hm:PySem.W.mroIn K C (.type "object")=some true):TyOf K H (.ref a) (.ref C)
theorem isinst_ok {x:V}{u t:Value} (I:Inv X pins σ H s) (rx:RelV x u) (ty:TyOf X.K H x t) (e:PySem.W.kitOne X.K t c=some b) (h:∀ tk,Q (.bool b) { s with toks:=tk }) :
  wpAny (model X.prog X.w) A (call (.builtin "isinstance") [u,c]) Q E s:=by
 cases ty with
 |non=>cases (show u=Value.none from rx);exact PySem.W.kia_one PySem.W.kitx_none I.kIn True.intro e (λz=>nomatch z) h
 |bl y=>cases (show u=Value.bool y from rx);exact PySem.W.kia_one PySem.W.kitx_bool I.kIn True.intro e (λz=>nomatch z) h
 |int i=>obtain ⟨t,q⟩:=(show ∃ t,u=Value.int i t from rx);cases q;exact PySem.W.kia_one PySem.W.kitx_int I.kIn True.intro e (λz=>nomatch z) h
 |str y=>obtain ⟨t,q⟩:=(show ∃ t,u=Value.str y t from rx);cases q;exact PySem.W.kia_one PySem.W.kitx_str I.kIn True.intro e (λz=>nomatch z) h
 |flt y=>obtain ⟨t,q⟩:=(show ∃ t,u=Value.float y t from rx);cases q;exact PySem.W.kia_one PySem.W.kitx_float I.kIn True.intro e (λz=>nomatch z) h
 | @lst a xs ea=>
  cases (show u=Value.ref a from rx)
  obtain ⟨_,_,n,_,h1⟩:=(show ObjOk X.prog X.w H s.heap a (.lst xs) from I.hok a _ ea)
  exact PySem.W.kia_one PySem.W.kitx_list I.kIn ⟨_,h1,rfl⟩ e (λz=>nomatch z) h
 | @frz a ob xs ea=>
  cases (show u=Value.ref a from rx)
  obtain ⟨_,_,_,n,_,h1⟩:=(show ObjOk X.prog X.w H s.heap a (.frz ob (.lst xs)) from I.hok a _ ea)
  exact PySem.W.kia_one PySem.W.kitx_list I.kIn ⟨_,h1,rfl⟩ e (λz=>nomatch z) h
 | @tup a xs ea=>
  cases (show u=Value.ref a from rx)
  obtain ⟨_,_,_,p⟩:=(show ObjOk X.prog X.w H s.heap a (.tup xs) from I.hok a _ ea)
  obtain ⟨o,h1,h2,_⟩:=p
  exact PySem.W.kia_one PySem.W.kitx_tuple I.kIn ⟨o,h1,h2⟩ e (λz=>nomatch z) h
 | @dK a kvs ea=>
  cases (show u=Value.ref a from rx)
  obtain ⟨_,_,vs,_,p⟩:=(show ObjOk X.prog X.w H s.heap a (.dK kvs) from I.hok a _ ea)
  obtain ⟨o,es,ep,h1,h2,_⟩:=p
  exact PySem.W.kia_one PySem.W.kitx_dict I.kIn ⟨o,h1,h2.1⟩ e (λz=>nomatch z) h
 | @dT a kvs ea=>
  cases (show u=Value.ref a from rx)
  obtain ⟨_,_,xs,_,o,es,ep,h1,h2,_⟩:=(show ObjOk X.prog X.w H s.heap a (.dT kvs) from I.hok a _ ea)
  exact PySem.W.kia_one PySem.W.kitx_dict I.kIn ⟨o,h1,h2.1⟩ e (λz=>nomatch z) h
 | @ins a C dx fs ea cl ha hn htk hm=>
  cases (show u=Value.ref a from rx)
  obtain ⟨mA,O,_⟩:=ins_get I.hok ea
  obtain ⟨od,J,_⟩:=O.look
  exact PySem.W.kia_one (PySem.W.kitx_own (cl.get _) cl.hd ha hn htk hm) I.kIn J e (λz=>nomatch z) h
end
end L2
namespace L2
open PySem PySem.Spec PyProof.Rows
structure Room (k:Nat) (A:Around):Prop where
 hd:A.handled=none
 dp:A.depth+3 * k+5<recursionLimit
 un:A.units+16 * k+200<cLine
theorem Room.mono {j k:Nat}{A:Around} (r:Room k A) (h:j<=k):Room j A:=⟨r.hd,by have:=r.dp;omega,by have:=r.un;omega⟩
theorem Room.deeper {k:Nat}{A:Around} (r:Room (k+1) A) (env:Env):Room k (A.deeper env):=
 ⟨r.hd,by have:=r.dp;show A.depth+1+3 * k+5<_;omega,by have:=r.un;show A.units+3+16 * k+200<_;omega⟩
theorem make_depth {A:Around}{C:Addr}{us:List Value}{kw:List (Str×Value)}:(A.under (.builtin "type.__call__" ⟨.ref C::us,kw⟩)).depth=A.depth+1:=by
 first|rfl|simp [Around.under,Code.weight,Code.isCreation,Code.isGuard,Code.isCaller,Code.frames,Code.isFrame,guardIds]
theorem make_units {A:Around}{C:Addr}{us:List Value}{kw:List (Str×Value)}:(A.under (.builtin "type.__call__" ⟨.ref C::us,kw⟩)).units=A.units+1:=by
 first|rfl|simp [Around.under,Code.cUnits,Code.frames,Code.isFrame]
theorem Room.make {k:Nat}{A:Around} (r:Room (k+1) A) (C:Addr) (us:List Value) (kw:List (Str×Value)):Room k (A.under (.builtin "type.__call__" ⟨.ref C::us,kw⟩)):=
 ⟨r.hd,by have:=r.dp;rw [make_depth];omega,by have:=r.un;rw [make_units];omega⟩
theorem Room.depth {k:Nat}{A:Around} (r:Room k A):A.depth<recursionLimit:=by have:=r.dp;omega
theorem Room.units {k:Nat}{A:Around} (r:Room k A):A.units+64<cLine:=by have:=r.un;omega
def tNil:TA:=λ_ H Q=>Q [] H
def tCons (ta:TE) (tr:TA):TA:=fun σ H Q=>ta σ H λx H1=>tr σ H1 λxs H2=>Q (x::xs) H2
section
variable {X:Cx}{e:Expr}{es:List Expr}{te:TE}{t:TA}{pos:Pos}
theorem pa_nil:PA X [] tNil:=λ_ _ _ _ H Q I h=>Calls.spliced_nil ⟨[],H,I,.nil,h⟩
theorem pa_cons (ha:PE X e te) (hr:PA X es t) (hs:starEach (e::es) X.env=(false,eval e X.env)::starEach es X.env:=by rfl):PA X (e::es) (tCons te t):=by
 intro pos pins s σ H Q I h
 rw [hs]
 show wpAny _ _ (spliced ((false,eval e X.env)::backTo pos (starEach es X.env))) _ _ s
 refine Calls.spliced_cons (thn (ha pins s σ H _ I h) λu s1 ⟨x,H1,I1,r1,q1⟩=>?_)
 exact thn (hr pos pins s1 σ H1 _ I1 q1) λus s2 ⟨xs,H2,I2,r2,q2⟩=>⟨x::xs,H2,I2,.cons r1 r2,q2⟩
def tTup (t:TA):TE:=fun σ H Q=>t σ H λxs H1=>xs.length<=sizeLine/\∀ p,H1 p=none->Q (.ref p) (upd H1 p (.tup xs))
def tLst (t:TA):TE:=fun σ H Q=>t σ H λxs H1=>xs.length<=sizeLine/\∀ p,H1 p=none->Q (.ref p) (upd H1 p (.lst xs))
theorem pe_tup {x1} (h:PA X es t):PE X (.Tuple es x1 pos) (tTup t):=by
 intro pins s σ H Q I hq
 refine wpAny_Tuple_spliced (thn (h pos pins s σ H _ I hq) λus s1 ⟨xs,H1,I1,r,z,q⟩=>⟨by rw [<-r.length];exact z,?_⟩)
 have hf:H1 s1.heap.objs.size=none:=I1.hok.fresh (Nat.le_refl _)
 refine ⟨.ref s1.heap.objs.size,upd H1 s1.heap.objs.size (.tup xs),I1.laid (t':=s1.toks) (λb u e=>Heap.get?_push_of_some _ e) (Nat.le_refl _) ?_,rfl,q _ hf⟩
 exact ⟨z,us,r,⟨_,Heap.get?_push_size _ rfl,rfl,_,rfl⟩⟩
theorem pe_lst (h:PA X es t):PE X (.List es pos) (tLst t):=by
 intro pins s σ H Q I hq
 refine wpAny_List_spliced (thn (h pos pins s σ H _ I hq) λus s1 ⟨xs,H1,I1,r,z,q⟩=>⟨by rw [<-r.length];exact z,?_⟩)
 have hf:H1 s1.heap.objs.size=none:=I1.hok.fresh (Nat.le_refl _)
 refine ⟨.ref s1.heap.objs.size,upd H1 s1.heap.objs.size (.lst xs),I1.laid (t':=s1.toks) (λb u e=>Heap.get?_push_of_some _ e) (Nat.le_refl _) ?_,rfl,q _ hf⟩
 exact ⟨z,us,0,r,Heap.get?_push_size _ rfl⟩
end
abbrev Sp:=List V->Hp->VK->XK->Prop
abbrev CXT:=List Env->Hp->Shared->XK->Value->Shared->Prop
structure Env0 (P:Program) (w:World) (K:PySem.W.Frag) (mg:Str->Option Value) (base:Heap) (A:Around) (outer:List Env) (s:Shared) (H:Hp):Prop where
 frames:A.frames=some outer
 mod:Mod K mg base
 bs:∀ b o,base.get? b=some o->s.heap.get? b=some o/\H b=none
 bsz:base.objs.size<=s.heap.objs.size
 funs:s.heap.FunFrames base outer
 frf:∀ b∈frs outer,H b=none
 hok:HOk P w H s.heap
 bare:AllBare s.gens
def CE (outer:List Env) (P:Program) (w:World) (H:Hp) (s:Shared) (Q:VK) (u:Value) (s':Shared):Prop:=
 ∃ v H',s'.os=s.os/\AllBare s'.gens/\Un (frs outer) [] H H' s.heap s'.heap/\HOk P w H' s'.heap/\RelV v u/\Q v H'
def CR (CX:CXT) (outer:List Env) (P:Program) (w:World) (H:Hp) (s:Shared) (Q:VK) (E:XK) (r:Result) (s':Shared):Prop:=
 match r with
 | .ok (.ret u)=>CE outer P w H s Q u s'
 | .ok _=>False
 | .error e=>CX outer H s E e s'
structure FnOk (P:Program) (w:World) (K:PySem.W.Frag) (mg:Str->Option Value) (base:Heap) (CX:CXT) (k:Nat) (f:Addr) (fd:FuncData) (ps:List Str) (sp:Sp):Prop where
 len:∀ vs H Q E,sp vs H Q E->vs.length=ps.length
 run:∀ (A:Around) (outer:List Env) (s:Shared) (H:Hp) (args:Args) (us:List Value) (vs:List V) (Q:VK) (E:XK),Room k A->Env0 P w K mg base A outer s H->BindsTo s fd args (ps.zip us)->Vals vs us->sp vs H Q E->
  codeAny (model P w) A (.call (.ref f) args) (CR CX outer P w H s Q E) s
theorem Env0.make {P:Program}{w:World}{K:PySem.W.Frag}{mg:Str->Option Value}{base:Heap}{A:Around}{outer:List Env}{s:Shared}{H:Hp} (e:Env0 P w K mg base A outer s H) (C:Addr) (us:List Value) (kw:List (Str×Value)) :
  Env0 P w K mg base (A.under (.builtin "type.__call__" ⟨.ref C::us,kw⟩)) outer s H:=⟨by first|exact e.frames|(simpa [Around.under,Code.envs,Code.isFrame,pushEnvs] using e.frames),e.mod,e.bs,e.bsz,e.funs,e.frf,e.hok,e.bare⟩
section
variable {X:Cx}{pins:List (Addr×Obj)}{σ:St}{H:Hp}{s s':Shared}
theorem Inv.env0 (I:Inv X pins σ H s):Env0 X.prog X.w X.K X.mg X.base X.A X.stack s H:=
 ⟨I.ok.frames,I.ok.mod,I.bs,Nat.le_trans I.ok.bsz I.sz,I.stack,I.stkFree,I.hok,I.bare⟩
theorem Inv.after {Q:VK}{u:Value} (I:Inv X pins σ H s) (h:CE X.stack X.prog X.w H s Q u s'):EP X pins σ Q u s':=by
 obtain ⟨v,H',os,bare,un,hok,r,q⟩:=h
 obtain ⟨hh,g,d,t,os'⟩:=s'
 obtain rfl:os'=s.os:=os
 exact ⟨v,H',I.call (h':=hh) (g':=g) (d':=d) (t':=t) (ch:=[]) un hok bare (λb z=>absurd z (by simp)),r,q⟩
end
def tCall (sp:Sp) (dvs:List V) (E:XK) (t:TA):TE:=fun σ H Q=>t σ H λvs H1=>sp (vs++dvs) H1 Q E
def tMeth (C:Addr) (m:Str) (sp:Sp) (dvs:List V) (E:XK) (ta:TE) (t:TA):TE:=fun σ H Q=>ta σ H λx H1=>∃ a dx fs,x=.ref a/\H1 a=some (.ins C dx fs)/\fs.lookup m=none/\
 t σ H1 λvs H2=>sp (x::(vs++dvs)) H2 Q E
def tMake (C:Addr) (sp:Sp) (dvs:List V) (E:XK) (t:TA):TE:=fun σ H Q=>t σ H λvs H1=>∀ x dx,H1 x=none->H1 dx=none->dx≠x->
 sp (.ref x::(vs++dvs)) (upd (upd H1 dx (.own x)) x (.ins C dx [])) (λv H2=>v=.non/\Q (.ref x) H2) E
def Binds (K:PySem.W.Frag) (fd:FuncData) (ps:List Str) (ds:List Value):Prop:=
 ∀ (s:Shared) (us:List Value),K.In s.heap->(us++ds).length=ps.length->BindsTo s fd ⟨us,[]⟩ (ps.zip (us++ds))
theorem Binds.all {K:PySem.W.Frag}{fd:FuncData}{ps:List Str} (h:∀ us:List Value,us.length=ps.length->bindArgs fd ⟨us,[]⟩=pure (ps.zip us)):Binds K fd ps []:=λs us _ hl=>by
 rw [List.append_nil] at hl ⊢
 exact .of_eq (h us hl)
def Passes (CX:CXT) (X:Cx) (E:XK):Prop:=∀ (pins:List (Addr×Obj)) (σ:St) (H:Hp) (s:Shared) (e:Value) (s':Shared),Inv X pins σ H s->CX X.stack H s E e s'->X.xe e s'
section
variable {X:Cx}{CX:CXT}{k:Nat}{f C:Addr}{fd:FuncData}{ps:List Str}{sp:Sp}{dvs:List V}{ds:List Value}{E:XK}{x m:Str}{p pos apos:Pos}{e o:Expr}{es:List Expr}{ta:TE}{t:TA}
theorem run_fn {pins:List (Addr×Obj)}{σ:St}{H:Hp}{s:Shared}{Q:VK}{us:List Value}{vs:List V} (F:FnOk X.prog X.w X.K X.mg X.base CX k f fd ps sp) (hr:Room k X.A) (hb:Binds X.K fd ps ds) (hd:Vals dvs ds) (hx:Passes CX X E)
  (I:Inv X pins σ H s) (r:Vals vs us) (h:sp (vs++dvs) H Q E):wpAny (model X.prog X.w) X.A (call (.ref f) us) (EP X pins σ Q) X.xe s:=by
 have r2:Vals (vs++dvs) (us++ds):=r.append hd
 have hl:(us++ds).length=ps.length:=by rw [<-r2.length];exact F.len _ _ _ _ h
 refine wpAny_call (codeAny_mono (F.run X.A X.stack s H ⟨us,[]⟩ (us++ds) (vs++dvs) Q E hr I.env0 (hb s us I.kIn hl) r2 h) λr s' hq=>?_)
 cases r with
 |error e=>exact hx pins σ H s e s' I hq
 |ok fl=>
  cases fl with
  |ret u=>exact I.after hq
  |next=>exact False.elim hq
  |brk=>exact False.elim hq
  |cont=>exact False.elim hq
theorem pe_call (F:FnOk X.prog X.w X.K X.mg X.base CX k f fd ps sp) (hr:Room k X.A) (hg:Gl X x) (hm:X.mg x=some (.ref f)) (hk:PySem.W.keepIn X.K (.ref f)=true) (hb:Binds X.K fd ps ds) (hd:Vals dvs ds) (hx:Passes CX X E)
  (ha:PA X (e::es) t) (hdb:(x == ("__debug__":Str))=false:=by decide) (he:starEach (e::es) X.env=(false,eval e X.env)::starEach es X.env:=by rfl) (hpl:(backTo pos (starEach es X.env)).any (·.1)=false:=by rfl) :
  PE X (.Call (.Name x p) (e::es) [] pos) (tCall sp dvs E t):=by
 intro pins s σ H Q I h
 refine wpAny_Call_Name_kw (ld_glob I hg hm ?_ hdb)
 refine PySem.W.callWith_K (h₀:=X.base) I.ok.mod.kin hk (thn (ha pos pins s σ H _ I h) λus s1 ⟨vs,H1,I1,r,q⟩=>⟨I1.kIn,?_⟩) he hpl
 exact run_fn F hr hb hd hx I1 r q
theorem pe_call0 (F:FnOk X.prog X.w X.K X.mg X.base CX k f fd ps sp) (hr:Room k X.A) (hg:Gl X x) (hm:X.mg x=some (.ref f)) (hk:PySem.W.keepIn X.K (.ref f)=true) (hb:Binds X.K fd ps ds) (hd:Vals dvs ds) (hx:Passes CX X E)
  (hdb:(x == ("__debug__":Str))=false:=by decide):PE X (.Call (.Name x p) [] [] pos) (tCall sp dvs E tNil):=by
 intro pins s σ H Q I h
 refine wpAny_Call_Name_kw (ld_glob I hg hm ?_ hdb)
 exact PySem.W.callWith_K0 I.kIn hk (run_fn (us:=[]) F hr hb hd hx I .nil h)
theorem pe_meth {pl:Sem Bool} (he:PE X o ta) (c:Cls X.K C) (hm:Meth X.K C m f) (F:FnOk X.prog X.w X.K X.mg X.base CX k f fd ps sp) (hr:Room k X.A) (hb:Binds X.K fd ps ds) (hd:Vals dvs ds) (hx:Passes CX X E) (ha:PA X (e::es) t)
  (hst:starEach (e::es) X.env=(false,eval e X.env)::starEach es X.env:=by rfl) (hpl:(backTo pos (starEach es X.env)).any (·.1)=false:=by rfl)
  (ht:eval (.Call (.Attribute o m apos) (e::es) [] pos) X.env=(do
   let ov<-eval o X.env
   standAt apos.atName
   let (f,first)<-holding [ov] (getMethod ov m pl)
   callWith pos f first (backTo pos (starEach (e::es) X.env)) (backToKw pos (keywordEach [] X.env))):=by rfl) :
  PE X (.Call (.Attribute o m apos) (e::es) [] pos) (tMeth C m sp dvs E ta t):=by
 intro pins s σ H Q I h
 refine PySem.W.methodCall_KW (pl:=pl) (thn (he pins s σ H _ I h) λu s1 ⟨x,H1,I1,rx,a,dx,fs,ex,ea,l,q⟩=>?_) ht
 subst ex
 obtain rfl:u=Value.ref a:=rx
 refine getmeth_ok I1 ea c hm l ?_
 refine PySem.W.callWith_K (first:=[.ref a]) (h₀:=X.base) I.ok.mod.kin hm.kp (thn (ha pos pins s1 σ H1 _ I1 q) λus s2 ⟨vs,H2,I2,r,q2⟩=>⟨I2.kIn,?_⟩) hst hpl
 exact run_fn (us:=.ref a::us) (vs:=.ref a::vs) F hr hb hd hx I2 (.cons rfl r) q2
theorem pe_meth0 {pl:Sem Bool} (he:PE X o ta) (c:Cls X.K C) (hm:Meth X.K C m f) (F:FnOk X.prog X.w X.K X.mg X.base CX k f fd ps sp) (hr:Room k X.A) (hb:Binds X.K fd ps ds) (hd:Vals dvs ds) (hx:Passes CX X E)
  (ht:eval (.Call (.Attribute o m apos) [] [] pos) X.env=(do
   let ov<-eval o X.env
   standAt apos.atName
   let (f,first)<-holding [ov] (getMethod ov m pl)
   callWith pos f first (backTo pos (starEach [] X.env)) (backToKw pos (keywordEach [] X.env))):=by rfl) :
  PE X (.Call (.Attribute o m apos) [] [] pos) (tMeth C m sp dvs E ta tNil):=by
 intro pins s σ H Q I h
 refine PySem.W.methodCall_KW (pl:=pl) (thn (he pins s σ H _ I h) λu s1 ⟨x,H1,I1,rx,a,dx,fs,ex,ea,l,q⟩=>?_) ht
 subst ex
 obtain rfl:u=Value.ref a:=rx
 refine getmeth_ok I1 ea c hm l ?_
 exact PySem.W.callWith_K0 (first:=[.ref a]) I1.kIn hm.kp (run_fn (us:=[.ref a]) (vs:=[.ref a]) F hr hb hd hx I1 (.cons rfl .nil) q)
structure Mk (K:PySem.W.Frag) (C f:Addr):Prop where
 makes:PySem.W.makesIn K C=true
 init:PySem.W.findIn K (.ref C) "__init__"=some (some (.ref f))
 fn:PySem.W.isFn K (.ref f)=true
 kp:PySem.W.keepIn K (.ref C)=true
theorem run_make {pins:List (Addr×Obj)}{σ:St}{H:Hp}{s:Shared}{Q:VK}{us:List Value}{vs:List V} (M:Mk X.K C f) (F:FnOk X.prog X.w X.K X.mg X.base CX k f fd ps sp) (hr:Room (k+1) X.A) (hb:Binds X.K fd ps ds) (hd:Vals dvs ds)
  (hx:Passes CX X E) (I:Inv X pins σ H s) (r:Vals vs us)
  (h:∀ x dx,H x=none->H dx=none->dx≠x->sp (.ref x::(vs++dvs)) (upd (upd H dx (.own x)) x (.ins C dx [])) (λv H2=>v=.non/\Q (.ref x) H2) E) :
  wpAny (model X.prog X.w) X.A (call (.ref C) us) (EP X pins σ Q) X.xe s:=by
 have hq:=h (s.heap.objs.size+1) s.heap.objs.size (I.hok.fresh (Nat.le_succ _)) (I.hok.fresh (Nat.le_refl _)) (Nat.ne_of_lt (Nat.lt_succ_self _))
 have I2:=Inv.made (C:=C) I
 have r2:Vals (V.ref (s.heap.objs.size+1)::(vs++dvs)) (Value.ref (s.heap.objs.size+1)::(us++ds)):=.cons rfl (r.append hd)
 have hl:(Value.ref (s.heap.objs.size+1)::us++ds).length=ps.length:=by
  have e:=r2.length
  rw [F.len _ _ _ _ hq] at e
  exact e.symm
 refine wpAny_call (make_map (f:=f) I.kIn M.makes M.init (beq_iff_eq.mp M.fn) (codeAny_mono (F.run _ X.stack _ _ ⟨Value.ref (s.heap.objs.size+1)::us,[]⟩ (Value.ref (s.heap.objs.size+1)::(us++ds)) _ _ E (hr.make C us [])
  (I2.env0.make C us []) (hb _ (Value.ref (s.heap.objs.size+1)::us) I2.kIn hl) r2 hq) λr s' hq'=>?_))
 cases r with
 |error e=>exact hx pins σ _ _ e s' I2 hq'
 |ok fl=>
  cases fl with
  |ret u=>
   obtain ⟨v,H',I3,rv,ev,q3⟩:=I2.after hq'
   subst ev
   exact ⟨rv,⟨V.ref (s.heap.objs.size+1),H',I3,rfl,q3⟩⟩
  |next=>exact False.elim hq'
  |brk=>exact False.elim hq'
  |cont=>exact False.elim hq'
theorem pe_make (M:Mk X.K C f) (F:FnOk X.prog X.w X.K X.mg X.base CX k f fd ps sp) (hr:Room (k+1) X.A) (hg:Gl X x) (hm:X.mg x=some (.ref C)) (hb:Binds X.K fd ps ds) (hd:Vals dvs ds) (hx:Passes CX X E)
  (ha:PA X (e::es) t) (hdb:(x == ("__debug__":Str))=false:=by decide) (he:starEach (e::es) X.env=(false,eval e X.env)::starEach es X.env:=by rfl) (hpl:(backTo pos (starEach es X.env)).any (·.1)=false:=by rfl) :
  PE X (.Call (.Name x p) (e::es) [] pos) (tMake C sp dvs E t):=by
 intro pins s σ H Q I h
 refine wpAny_Call_Name_kw (ld_glob I hg hm ?_ hdb)
 refine PySem.W.callWith_K (h₀:=X.base) I.ok.mod.kin M.kp (thn (ha pos pins s σ H _ I h) λus s1 ⟨vs,H1,I1,r,q⟩=>⟨I1.kIn,?_⟩) he hpl
 exact run_make M F hr hb hd hx I1 r q
theorem pe_make0 (M:Mk X.K C f) (F:FnOk X.prog X.w X.K X.mg X.base CX k f fd ps sp) (hr:Room (k+1) X.A) (hg:Gl X x) (hm:X.mg x=some (.ref C)) (hb:Binds X.K fd ps ds) (hd:Vals dvs ds) (hx:Passes CX X E)
  (hdb:(x == ("__debug__":Str))=false:=by decide):PE X (.Call (.Name x p) [] [] pos) (tMake C sp dvs E tNil):=by
 intro pins s σ H Q I h
 refine wpAny_Call_Name_kw (ld_glob I hg hm ?_ hdb)
 exact PySem.W.callWith_K0 I.kIn M.kp (run_make (us:=[]) M F hr hb hd hx I .nil h)
end
section
variable {X:Cx}{CX:CXT}{k:Nat}{f C:Addr}{fd:FuncData}{ps ks:List Str}{sp:Sp}{E:XK}{x m:Str}{p pos apos kpos:Pos}{e o:Expr}{es:List Expr}{kws:List Keyword}{te ta:TE}{t tk:TA}{nm:Option Str}
variable {g:List Value->List Value->List Value}{gV:List V->List V->List V}
end
structure FnScope (N P:List Str) (sc:Scope):Prop where
 kind:sc.kind=.function
 co:sc.isCoroutine=false
 gen:sc.isGenerator=false
 nd:N.Nodup
 pre:N.take P.length=P
 par:∀ x∈P,sc.names.lookup x=some .local∨sc.names.lookup x=some .cell
 nofree:∀ y∈sc.names,y.2≠.free
theorem bindL_out {kindOf:Str->Option NameKind}{x:Str}:∀ {binds:List (Str×Value)}{m:Str->Option Value},(∀ v,(x,v) ∉ binds)->bindL kindOf binds m x=m x
 | [],_,_=>rfl
 |(n,v)::r,m,h=>by
  unfold bindL
  rw [bindL_out λw hw=>h w (List.mem_cons_of_mem _ hw)]
  split
  ·have:x≠n:=by rintro rfl;exact h v List.mem_cons_self
   simp [this]
  ·rfl
theorem bindC_out {kindOf:Str->Option NameKind}{x:Str}:∀ {binds:List (Str×Value)}{m:Str->Option Value},(∀ v,(x,v) ∉ binds)->bindC kindOf binds m x=m x
 | [],_,_=>rfl
 |(n,v)::r,m,h=>by
  unfold bindC
  rw [bindC_out λw hw=>h w (List.mem_cons_of_mem _ hw)]
  split
  ·rfl
  ·have:x≠n:=by rintro rfl;exact h v List.mem_cons_self
   simp [this]
theorem bindL_get {kindOf:Str->Option NameKind}{x:Str}{v:Value}:∀ {P:List Str}{vs:List Value}{i:Nat}{m:Str->Option Value},P.Nodup->P[i]?=some x->vs[i]?=some v->kindOf x=some .local->
  bindL kindOf (P.zip vs) m x=some v
 | [],_,_,_,_,h,_,_=>by simp at h
 |_::_,[],_,_,_,_,h,_=>by simp at h
 |p::P,w::vs,0,m,nd,h1,h2,hk=>by
  simp at h1 h2;subst h1;subst h2
  show bindL kindOf ((p,w)::P.zip vs) m p=_
  unfold bindL
  rw [bindL_out λv hv=>(List.nodup_cons.mp nd).1 (List.of_mem_zip hv).1,if_pos hk]
  simp
 |p::P,w::vs,i+1,m,nd,h1,h2,hk=>by
  show bindL kindOf ((p,w)::P.zip vs) m x=_
  unfold bindL
  exact bindL_get (i:=i) (List.nodup_cons.mp nd).2 (by simpa using h1) (by simpa using h2) hk
theorem bindC_get {kindOf:Str->Option NameKind}{x:Str}{v:Value}:∀ {P:List Str}{vs:List Value}{i:Nat}{m:Str->Option Value},P.Nodup->P[i]?=some x->vs[i]?=some v->kindOf x≠some .local->
  bindC kindOf (P.zip vs) m x=some v
 | [],_,_,_,_,h,_,_=>by simp at h
 |_::_,[],_,_,_,_,h,_=>by simp at h
 |p::P,w::vs,0,m,nd,h1,h2,hk=>by
  simp at h1 h2;subst h1;subst h2
  show bindC kindOf ((p,w)::P.zip vs) m p=_
  unfold bindC
  rw [bindC_out λv hv=>(List.nodup_cons.mp nd).1 (List.of_mem_zip hv).1,if_neg hk]
  simp
 |p::P,w::vs,i+1,m,nd,h1,h2,hk=>by
  show bindC kindOf ((p,w)::P.zip vs) m x=_
  unfold bindC
  exact bindC_get (i:=i) (List.nodup_cons.mp nd).2 (by simpa using h1) (by simpa using h2) hk
def start (N:List Str) (vs:List V):St:=vs.map some++List.replicate (N.length-vs.length) none
def cxOf (CX:CXT) (P:Program) (w:World) (K:PySem.W.Frag) (mg:Str->Option Value) (base:Heap) (N:List Str) (qual:Str) (scope:Scope) (f:Addr) (cd:Value) (A:Around) (outer:List Env) (s:Shared) (H:Hp) (E:XK):Cx where
 prog:=P
 w:=w
 K:=K
 mg:=mg
 base:=base
 A:=A.deeper (envOfC qual scope s.heap.objs.size f cd)
 N:=N
 s₀:=s
 H₀:=H
 env:=envOfC qual scope s.heap.objs.size f cd
 outer:=outer
 stack:=envOfC qual scope s.heap.objs.size f cd::outer
 ex:=[]
 calm:=true
 fn:=λ_=>true
 pn:=[]
 xe:=λe s'=>wpAny (model P w) (A.deeper (envOfC qual scope s.heap.objs.size f cd)) (leaving (envOfC qual scope s.heap.objs.size f cd) e) (λ_ s''=>CX outer H s E e s'') (λe' s''=>CX outer H s E e' s'') s'
theorem cell_has {sc:Scope}{n:Nat}{x:Str} (h:sc.names.lookup x=some .cell):∃ c,(cellsFrom n sc.names []).lookup x=some c:=by
 have q:=PySem.W.cellsFrom_some sc.names n [] (.inl h)
 exact Option.isSome_iff_exists.mp q
theorem inv_start {CX:CXT}{P:Program}{w:World}{K:PySem.W.Frag}{mg:Str->Option Value}{base:Heap}{N ps:List Str}{qual:Str}{scope:Scope}{f:Addr}{cd:Value}{A:Around}{outer:List Env}{s s1:Shared}{H:Hp}{E:XK}{us:List Value}{vs:List V}
  (S:FnScope N ps scope) (hd:A.handled=none) (e0:Env0 P w K mg base A outer s H) (hl:vs.length=ps.length) (r:Vals vs us)
  (x:InCallC s s.heap.objs.size (bindL (envOfC qual scope s.heap.objs.size f cd).kindOf (ps.zip us) λ_=>none) (cellsFrom (s.heap.objs.size+1) scope.names []) (bindC (envOfC qual scope s.heap.objs.size f cd).kindOf (ps.zip us) λ_=>none) s1) :
  Inv (cxOf CX P w K mg base N qual scope f cd A outer s H E) [] (start N vs) H s1:=by
 have hpl:ps.length<=N.length:=by have:=congrArg List.length S.pre;rw [List.length_take] at this;omega
 obtain ⟨h1,tk,rfl,hk⟩:=x.done
 have noA:∀ b:Addr,b ∉ (cxOf CX P w K mg base N qual scope f cd A outer s H E).ex:=λb z=>absurd (show b∈([]:List Addr) from z) (by simp)
 refine ⟨⟨e0.mod,S.kind,rfl,rfl,Nat.le_refl _,λy z c h1 h2=>?_,λy hy=>?_,λy c _ h=>?_,λ_=>hd,Around.frames_deeper e0.frames,.inr ⟨rfl,rfl⟩,λb z=>absurd z (noA b),e0.bs,e0.bsz,λb _ _=>noA b,λb z=>absurd z (noA b),e0.funs,e0.frf⟩,
  rfl,e0.bare,Un.kept hk,⟨_,x.toInCall.ns,λi y v h1 h2 h3=>?_⟩,λy c h=>⟨_,x.cell y c h⟩,e0.hok.fresh (Nat.le_refl _),λy c h=>?_,λp hp=>absurd (show p∈([]:List (Addr×Obj)) from hp) (by simp),e0.hok.kept hk,?_⟩
 ·exact name_of_addr x.apart (PySem.mem_of_lookup h1) (PySem.mem_of_lookup h2)
 ·have hy:scope.names.lookup y=some .cell∨scope.names.lookup y=some .free:=hy
  rcases hy with hy|hy
  ·exact cell_has hy
  ·exact absurd rfl (S.nofree _ (PySem.mem_of_lookup hy))
 ·exact Nat.le_of_lt (x.above y c (PySem.mem_of_lookup h))
 ·have hi:i<vs.length:=by
   unfold start at h2
   by_cases hi:i<vs.length
   ·exact hi
   ·rw [List.getElem?_append_right (by simpa using hi)] at h2
    rw [List.getElem?_replicate] at h2
    split at h2<;>cases h2
  have ha:vs[i]?=some v:=by
   unfold start at h2
   rw [List.getElem?_append_left (by simpa using hi),List.getElem?_map] at h2
   cases e:vs[i]? with
   |none=>rw [e] at h2;cases h2
   |some a=>rw [e] at h2;cases h2;rfl
  obtain ⟨u,hu,rv⟩:=r.get ha
  have hp:ps[i]?=some y:=by
   rw [<-S.pre,List.getElem?_take_of_lt (by omega)];exact h1
  have ndP:ps.Nodup:=by rw [<-S.pre];exact S.nd.sublist (List.take_sublist _ _)
  refine ⟨u,rv,?_⟩
  rcases S.par y (List.mem_of_getElem? hp) with k|k
  ·exact .inl ⟨k,bindL_get ndP hp hu k⟩
  ·obtain ⟨c,e⟩:=cell_has (n:=s.heap.objs.size+1) k
   refine .inr ⟨.inl k,c,e,?_⟩
   have q:=x.cell y c e
   rw [bindC_get ndP hp hu (by show scope.names.lookup y≠_;rw [k];decide)] at q
   exact q
 ·exact e0.hok.fresh (Nat.le_of_lt (x.above y c (PySem.mem_of_lookup h)))
 ·unfold start
  show _=N.length
  rw [List.length_append,List.length_map,List.length_replicate]
  omega
theorem fn_of {CX:CXT}{P:Program}{w:World}{K:PySem.W.Frag}{mg:Str->Option Value}{base:Heap}{k:Nat}{f:Addr}{name qual:Str}{params:Arguments}{body:List Stmt}{scope:Scope}{dV kV doc pm cdv ct oc:Value}{an od:Option Addr}
  {osl:Array (Option Value)}{N ps:List Str}{sp:Sp} (lk:K.lookup f=some ⟨oc,od,.func (PySem.W.fnOf name qual params body scope dV kV doc pm an cdv ct),osl⟩) (hcd:PySem.W.codeIn K cdv qual=true) (S:FnScope N ps scope)
  (len:∀ vs H Q E,sp vs H Q E->vs.length=ps.length)
  (hbody:∀ (A:Around) (outer:List Env) (s:Shared) (H:Hp) (vs:List V) (Q:VK) (E:XK),Room k (A.deeper (envOfC qual scope s.heap.objs.size f cdv))->sp vs H Q E->
   ∃ t,PSs (cxOf CX P w K mg base N qual scope f cdv A outer s H E) body t/\t { nx:=λ_ H'=>Q .non H',rt:=Q } (start N vs) H) :
  FnOk P w K mg base CX (k+1) f (PySem.W.fnOf name qual params body scope dV kV doc pm an cdv ct) ps sp:=by
 refine ⟨len,λA outer s H args us vs Q E hr e0 hb r hsp=>?_⟩
 have hl:=len _ _ _ _ hsp
 have KX:K.In s.heap:=e0.mod.kin.keeps λb o e=>(e0.bs b o e).1
 have lim:s.heap.NoLimit:=e0.mod.nolimit.keeps λb o e=>(e0.bs b o e).1
 have hkind:∀ y∈ps.zip us,scope.names.lookup y.1=some .local∨(scope.names.lookup y.1=some .cell/\((cellsFrom (s.heap.objs.size+1) scope.names []).lookup y.1).isSome=true):=λ⟨n,v⟩ hy=>by
  rcases S.par n (List.of_mem_zip hy).1 with q|q
  ·exact .inl q
  ·exact .inr ⟨q,PySem.W.cellsFrom_some _ _ _ (.inl q)⟩
 refine codeAny_call_function hr.depth (KX _ _ lk) rfl S.co S.gen rfl (PySem.W.codeRec_of KX hcd) (hb _ _ _ _ ?_)
 refine wpAny_newFunctionEnv_cells S.kind hkind λenv he s1 x=>?_
 subst he
 refine ⟨lim.keeps x.toInCall.keep,codeAny_func ?_⟩
 obtain ⟨t,ht,hq⟩:=hbody A outer s H vs Q E (hr.deeper _) hsp
 have I:Inv (cxOf CX P w K mg base N qual scope f cdv A outer s H E) [] (start N vs) H s1:=inv_start S hr.hd e0 hl r x
 refine wpAny_mono (ht [] s1 (start N vs) H _ I hq) (λfl s' hs=>?_) λe s' hs=>hs
 have fin:∀ {σ':St}{H':Hp}{v:V}{u:Value},Inv (cxOf CX P w K mg base N qual scope f cdv A outer s H E) [] σ' H' s'->RelV v u->Q v H'->CE outer P w H s Q u s':=
  λ{σ' H' v u} J rv q=>⟨v,H',J.os,J.bare,J.base,J.hok,rv,q⟩
 cases fl with
 |ret u=>
  obtain ⟨v,σ',H',J,rv,q⟩:=hs
  exact fin J rv q
 |next=>
  obtain ⟨σ',H',J,q⟩:=hs
  exact fin (v:=V.non) (u:=Value.none) J rfl q
 |brk=>
  obtain ⟨_,_,_,q⟩:=hs
  exact False.elim q
 |cont=>
  obtain ⟨_,_,_,q⟩:=hs
  exact False.elim q
end L2
namespace L2
open PySem PySem.Spec PyProof.Rows
section
variable {X:Cx}{x:Str}{p pos:Pos}{e:Expr}{es:List Expr}{t:TA}{id T:String}{r:List V->Hp->VK->Prop}
def tCB (r:List V->Hp->VK->Prop) (t:TA):TE:=fun σ H Q=>t σ H λvs H1=>r vs H1 Q
theorem pe_callB (hc:CallR X (.builtin id) r) (hg:Gl X x) (hm:X.mg x=none) (hv:bootBuiltins x=some (.builtin id)) (ha:PA X (e::es) t) (hn:x≠"__name__":=by decide) (hdb:(x == ("__debug__":Str))=false:=by decide)
  (he:starEach (e::es) X.env=(false,eval e X.env)::starEach es X.env:=by rfl) (hpl:(backTo pos (starEach es X.env)).any (·.1)=false:=by rfl):PE X (.Call (.Name x p) (e::es) [] pos) (tCB r t):=by
 intro pins s σ H Q I h
 refine wpAny_Call_Name_kw (ld_blt I hg hm hv ?_ hn hdb)
 exact PyProof.Rows.callWith_builtin1 (thn (ha pos pins s σ H _ I h) λus s1 ⟨vs,H1,I1,r1,q1⟩=>hc pins s1 σ H1 vs us Q I1 r1 q1) he hpl
theorem pe_callTy (hc:CallR X (.type T) r) (hg:Gl X x) (hm:X.mg x=none) (hv:bootBuiltins x=some (.type T)) (ha:PA X (e::es) t) (hn:x≠"__name__":=by decide) (hdb:(x == ("__debug__":Str))=false:=by decide)
  (he:starEach (e::es) X.env=(false,eval e X.env)::starEach es X.env:=by rfl) (hpl:(backTo pos (starEach es X.env)).any (·.1)=false:=by rfl):PE X (.Call (.Name x p) (e::es) [] pos) (tCB r t):=by
 intro pins s σ H Q I h
 refine wpAny_Call_Name_kw (ld_blt I hg hm hv ?_ hn hdb)
 exact PyProof.Rows.callWith_type1 (thn (ha pos pins s σ H _ I h) λus s1 ⟨vs,H1,I1,r1,q1⟩=>hc pins s1 σ H1 vs us Q I1 r1 q1) he hpl
end
end L2
namespace HT
open PySem PyProof.Rows
section
open PySem.SeqAt
open PySem.AutoSeq1 (wpAny_loadPart')
open PySem.MeetsSeq PySem.MeetsSeq2 PySem.MeetsSeq3
end
section
variable {prog:Program}{w:World}{A:Around}{E:Value->Shared->Prop}{s:Shared}
def sIx (n d:Nat):Option Int->Nat
 |none=>d
 |some v=>if v<0 then (v+(n:Int)).toNat else min v.toNat n
theorem sIx_none (n d:Nat):sIx n d none=d:=rfl
theorem sIx_nat (n d k:Nat):sIx n d (some (k:Int))=min k n:=by
 show (if (k:Int)<0 then ((k:Int)+(n:Int)).toNat else min (k:Int).toNat n)=min k n
 rw [if_neg (by omega),Int.toNat_natCast]
theorem sIx_le (n d:Nat) (hd:d<=n) (o:Option Int):sIx n d o<=n:=by
 cases o with
 |none=>exact hd
 |some v=>
  show (if v<0 then (v+(n:Int)).toNat else min v.toNat n)<=n
  by_cases hv:v<0
  ·rw [if_pos hv];omega
  ·rw [if_neg hv];exact Nat.min_le_right _ _
theorem clip_eq (v:Int) (n d:Nat):(if v<0 then max (v+(n:Int)) 0 else min v (n:Int))=((sIx n d (some v):Nat):Int):=by
 show (if v<0 then max (v+(n:Int)) 0 else min v (n:Int))=(((if v<0 then (v+(n:Int)).toNat else min v.toNat n):Nat):Int)
 by_cases hv:v<0
 ·simp only [if_pos hv];omega
 ·simp only [if_neg hv];omega
theorem adjust_gen (lo hi:Option Int) (n:Nat):Builtin.Slice.sliceAdjust lo hi 1 (n:Int)=(((sIx n 0 lo:Nat):Int),((sIx n n hi:Nat):Int)):=by
 have h1:¬ ((1:Int)<0):=by omega
 unfold Builtin.Slice.sliceAdjust
 simp only [h1,if_false]
 refine Prod.ext ?_ ?_
 ·cases lo with
  |none=>rfl
  |some v=>exact clip_eq v n 0
 ·cases hi with
  |none=>rfl
  |some v=>exact clip_eq v n n
theorem places_gen (i j:Nat):Builtin.Slice.slicePlaces (i:Int) (j:Int) 1=j-i:=by
 unfold Builtin.Slice.slicePlaces
 have h1:(1:Int) > 0:=by omega
 simp only [h1,if_true,Int.ediv_one]
 split<;>omega
theorem slicePart_ {v:Value}{o:Option Int}{Q:Option Int->Shared->Prop} (p:IsPart v o) (h:Q o s):wpAny (model prog w) A (Builtin.Slice.slicePartIndex v) Q E s:=by
 cases p with
 |none=>exact slicePart_none h
 |int i t=>exact slicePart_int h
theorem sliceApplied_gen {sl:Addr}{vl vu:Value}{lo hi:Option Int}{n:Nat}{Q:Int×Int×Nat->Shared->Prop} (hs:s.heap.IsSliceOf sl vl vu .none) (pl:IsPart vl lo) (pu:IsPart vu hi)
  (h:Q (((sIx n 0 lo:Nat):Int),1,sIx n n hi-sIx n 0 lo) s):wpAny (model prog w) A (Builtin.Slice.sliceApplied (.ref sl) (pure (n:Int))) Q E s:=by
 obtain ⟨os,hos,hcs,hds⟩:=id hs
 unfold Builtin.Slice.sliceApplied Builtin.Slice.sliceFields
 refine wpAny_bind (wpAny_bind (wpAny_field hos hds (x:=vl) rfl (wpAny_bind (wpAny_field hos hds (x:=vu) rfl (wpAny_bind (wpAny_field hos hds (x:=.none) rfl (wpAny_pure ?_)))))))
 refine wpAny_bind (slicePart_none ?_)
 show wpAny _ _ (if ((1:Int) == 0)=true then _ else _) _ _ s
 rw [if_neg (by decide)]
 refine wpAny_bind (slicePart_ pl (wpAny_bind (slicePart_ pu (wpAny_bind (wpAny_pure ?_)))))
 show wpAny _ _ (match Builtin.Slice.sliceAdjust lo hi 1 (n:Int) with|(lo,hi)=>pure (lo,(1:Int),Builtin.Slice.slicePlaces lo hi 1)) _ _ s
 rw [adjust_gen lo hi n]
 show wpAny _ _ (pure (((sIx n 0 lo:Nat):Int),(1:Int),Builtin.Slice.slicePlaces ((sIx n 0 lo:Nat):Int) ((sIx n n hi:Nat):Int) 1)) _ _ s
 rw [places_gen]
 exact wpAny_pure h
theorem pick_gen (xs:Array Value) (i k:Nat):((List.range k).filterMap λ(m:Nat)=>xs[((i:Int)+(m:Int) * 1).toNat]?).toArray=((xs.toList.drop i).take k).toArray:=by
 have e:(λ(m:Nat)=>xs[((i:Int)+(m:Int) * 1).toNat]?)=λm=>xs[i+m]?:=by
  funext m
  have:((i:Int)+(m:Int) * 1).toNat=i+m:=by omega
  rw [this]
 rw [e]
 have:=pick_run xs i k
 rw [List.filterMap_map] at this
 have e2:((λx=>xs[x]?) ∘ λx=>i+x)=λm=>xs[i+m]?:=rfl
 rw [e2] at this
 rw [this]
theorem getItem_tuple_cut {t sl:Addr}{items:Array Value}{vl vu:Value}{lo hi:Option Int}{Q:Value->Shared->Prop} (ht:IsTup s.heap t items) (hs:s.heap.IsSliceOf sl vl vu .none) (pl:IsPart vl lo) (pu:IsPart vu hi)
  (hw:¬ (sIx items.size 0 lo=0/\sIx items.size items.size hi=items.size))
  (h:Q (.ref s.heap.objs.size) { s with heap:=s.heap.push { cls:=.type "tuple",data:=.seq ((items.toList.drop (sIx items.size 0 lo)).take (sIx items.size items.size hi-sIx items.size 0 lo)).toArray } })
  (hsz:items.size<=sizeLine):wpAny (model prog w) A (getItem (.ref t) (.ref sl)) Q E s:=by
 have htake:sizeOk (.seq ((items.toList.drop (sIx items.size 0 lo)).take (sIx items.size items.size hi-sIx items.size 0 lo)).toArray):=by
  show ((items.toList.drop (sIx items.size 0 lo)).take (sIx items.size items.size hi-sIx items.size 0 lo)).toArray.size<=sizeLine
  rw [List.size_toArray,List.length_take,List.length_drop,Array.length_toList]
  omega
 have hj:sIx items.size items.size hi<=items.size:=sIx_le _ _ (Nat.le_refl _) hi
 obtain ⟨os,hos,hcs,hds⟩:=id hs
 have hTs:s.TypeIs (.ref sl) "slice":=⟨os,hos,hcs⟩
 unfold getItem
 try with_reducible refine wpAny_holding ?_
 first|refine wpAny_bind (wpAny_pure ?_)|skip
 refine wpAny_bind (wpAny_sequenceKey ht.typeIs (by decide) ?_)
 refine wpAny_bind (wpAny_callSpecial?_slot (name:=Str.ofString "__getitem__") ht.typeIs PyProof.Rows.slot_tuple_getitem
  (wpAny_call_entry PyProof.Rows.slot_tuple_getitem ht.typeIs entry_tuple_getitem ?_ (args_tuple_getitem _ _)))
 show wpAny _ _ (Builtin.Tuple.tupleItemsOf (.ref t) >>= _) _ _ s
 refine wpAny_bind (tupleItemsOf_ ht ?_)
 refine wpAny_bind (wpAny_typeOf hTs ?_)
 rw [if_pos (by decide)]
 refine wpAny_bind (sliceApplied_gen hs pl pu ?_)
 have hno:¬ ((((sIx items.size 0 lo:Nat):Int) == 0 && (1:Int) == 1 && (sIx items.size items.size hi-sIx items.size 0 lo) == items.size)=true):=by
  intro q
  rw [Bool.and_eq_true,Bool.and_eq_true] at q
  have q1:((sIx items.size 0 lo:Nat):Int)=0:=eq_of_beq q.1.1
  have q2:sIx items.size items.size hi-sIx items.size 0 lo=items.size:=eq_of_beq q.2
  exact hw ⟨by omega,by omega⟩
 show wpAny _ _ (if (((sIx items.size 0 lo:Nat):Int) == 0 && (1:Int) == 1 && (sIx items.size items.size hi-sIx items.size 0 lo) == items.size)=true then _ else _) _ _ s
 rw [if_neg hno,pick_gen]
 first
  |exact wpAny_bind (m:=Builtin.Tuple.tupleExact _) (wpAny_newObj_type (wpAny_pure ⟨_,rfl,wpAny_pure h⟩) htake)
  |exact wpAny_bind (m:=Builtin.Tuple.tupleExact _) (wpAny_newObj_type (wpAny_bind (wpAny_pure (wpAny_pure ⟨_,rfl,wpAny_pure h⟩))) htake)
  |exact wpAny_bind (wpAny_bind (m:=Builtin.Tuple.tupleExact _) (wpAny_newObj_type (wpAny_pure (wpAny_pure ⟨_,rfl,wpAny_pure h⟩)) htake))
  |exact wpAny_bind (wpAny_bind (m:=Builtin.Tuple.tupleExact _) (wpAny_newObj_type (wpAny_pure ⟨_,rfl,wpAny_pure h⟩) htake))
end
end HT
namespace L2
open PySem PySem.Spec PyProof.Rows
abbrev TO:=St->Hp->(Option Int->Hp->Prop)->Prop
def PO (X:Cx) (e:Option Expr) (t:TO):Prop:=
 ∀ (pins:List (Addr×Obj)) (s:Shared) (σ:St) (H:Hp) (Q:Option Int->Hp->Prop),Inv X pins σ H s->t σ H Q->
  wpAny (model X.prog X.w) X.A (evalPart e X.env) (λu s'=>∃ o H',Inv X pins σ H' s'/\IsPart u o/\Q o H') X.xe s
def tNoPart:TO:=λ_ H Q=>Q none H
def tPart (t:TE):TO:=fun σ H Q=>t σ H λx H1=>∃ i,x=.int i/\Q (some i) H1
section
variable {X:Cx}{e:Expr}{te:TE}{lo hi:Option Expr}{tl th:TO}{pos p2:Pos}
theorem po_none:PO X none tNoPart:=by
 intro pins s σ H Q I h
 rw [evalPart_none]
 exact wpAny_pure ⟨none,H,I,.none,h⟩
theorem po_some (h:PE X e te):PO X (some e) (tPart te):=by
 intro pins s σ H Q I hw
 rw [evalPart_some]
 refine thn (h pins s σ H _ I hw) λu s1 ⟨x,H1,I1,r1,q1⟩=>?_
 obtain ⟨i,rfl,q⟩:=q1
 obtain ⟨t,rfl⟩:=r1
 exact ⟨some i,H1,I1,.int i t,q⟩
def SlR (X:Cx) (r:V->Option Int->Option Int->Hp->VK->Prop):Prop:=
 ∀ (pins:List (Addr×Obj)) (s:Shared) (σ:St) (H:Hp) (x:V) (v vl vu:Value) (lo hi:Option Int) (sl:Addr) (Q:VK),Inv X pins σ H s->RelV x v->s.heap.IsSliceOf sl vl vu .none->IsPart vl lo->IsPart vu hi->r x lo hi H Q->
  ∃ T id,typeLookup (.type T) "__getitem__"=pure (some (.builtin id))/\s.TypeIs v T/\wpAny (model X.prog X.w) X.A (getItem v (.ref sl)) (EP X pins σ Q) X.xe s
def tSl (r:V->Option Int->Option Int->Hp->VK->Prop) (te:TE) (tl th:TO):TE:=fun σ H Q=>te σ H λx H1=>tl σ H1 λl H2=>th σ H2 λu H3=>r x l u H3 Q
theorem pe_slice {r:V->Option Int->Option Int->Hp->VK->Prop} (hr:SlR X r) (he:PE X e te) (hl:PO X lo tl) (hu:PO X hi th):PE X (.Subscript e (.Slice lo hi none p2) pos) (tSl r te tl th):=by
 intro pins s σ H Q I h
 refine Subscript_ (thn (he pins s σ H _ I h) λv s1 ⟨x,H1,I1,r1,q1⟩=>?_)
 refine wpAny_Slice (thn (hl pins s1 σ H1 _ I1 q1) λvl s2 ⟨l,H2,I2,pl,q2⟩=>thn (hu pins s2 σ H2 _ I2 q2) λvu s3 ⟨u,H3,I3,pu,q3⟩=>?_)
 rw [evalPart_none]
 refine wpAny_pure ?_
 have I4:Inv X pins σ H3 { s3 with heap:=s3.heap.push { cls:=.type "slice",data:=.fields #[vl,vu,.none] } }:=I3.kept (t':=s3.toks) λb ob q=>Heap.get?_push_of_some _ q
 obtain ⟨T,id,hT,ht,hg⟩:=hr pins { s3 with heap:=s3.heap.push { cls:=.type "slice",data:=.fields #[vl,vu,.none] } } σ H3 x v vl vu l u s3.heap.objs.size Q I4 r1 (Heap.IsSliceOf.new ..) pl pu q3
 show wpAny (model X.prog X.w) X.A (subscriptTail e (.Slice lo hi none p2) v (.ref s3.heap.objs.size)) (EP X pins σ Q) X.xe { s3 with heap:=s3.heap.push { cls:=.type "slice",data:=.fields #[vl,vu,.none] } }
 exact tail_any (ops:=[.ref s3.heap.objs.size,v]) ht hT hg (by with_unfolding_all rfl)
def cutV (xs:List V) (lo hi:Option Int):List V:=(xs.drop (HT.sIx xs.length 0 lo)).take (HT.sIx xs.length xs.length hi-HT.sIx xs.length 0 lo)
theorem cutV_length (xs:List V) (lo hi:Option Int):(cutV xs lo hi).length<=xs.length:=by
 unfold cutV
 rw [List.length_take,List.length_drop]
 omega
def rSlT (K:PySem.W.Frag):V->Option Int->Option Int->Hp->VK->Prop:=λx lo hi H Q=>∃ a xs,x=.ref a/\SqT K H a xs/\
 ¬ (HT.sIx xs.length 0 lo=0/\HT.sIx xs.length xs.length hi=xs.length)/\∀ p,H p=none->Q (.ref p) (upd H p (.tup (cutV xs lo hi)))
theorem sl_tup:SlR X (rSlT X.K):=by
 intro pins s σ H x v vl vu lo hi sl Q I rx hs pl pu h
 obtain ⟨a,xs,rfl,hx,hw,q⟩:=h
 cases rx
 obtain ⟨its,r,ht,hz⟩:=I.tuple hx
 have hlen:its.toArray.size=xs.length:=by rw [List.size_toArray];exact r.length.symm
 refine ⟨"tuple",_,PyProof.Rows.slot_tuple_getitem.lookup,ht.typeIs,?_⟩
 refine HT.getItem_tuple_cut ht hs pl pu (by rw [hlen];exact hw) ?_ (by rw [hlen];exact hz)
 rw [hlen]
 refine ⟨.ref s.heap.objs.size,_,I.laid (t':=s.toks) (o:=.tup (cutV xs lo hi)) (λb ob q=>Heap.get?_push_of_some _ q) (Nat.le_refl _) ?_,rfl,q _ (I.hok.fresh (Nat.le_refl _))⟩
 exact ⟨Nat.le_trans (cutV_length xs lo hi) hz,_,(r.drop (HT.sIx xs.length 0 lo)).take (HT.sIx xs.length xs.length hi-HT.sIx xs.length 0 lo),IsTup.new _ _⟩
end
end L2
namespace L2
open PySem PySem.Spec PyProof.Rows
def ixN (n:Nat) (i:Int):Option Nat:=if 0<=i then (if i<n then some i.toNat else none) else if -(n:Int)<=i then some (i+n).toNat else none
def atI {α:Type} (xs:List α) (i:Int):Option α:=(ixN xs.length i).bind λj=>xs[j]?
theorem ixN_seq {n:Nat}{i:Int}{j:Nat} (h:ixN n i=some j):seqIndex? i n=some j/\j<n/\-(n:Int)<=i/\i<n:=by
 unfold ixN at h
 by_cases h0:0<=i
 ·rw [if_pos h0] at h
  by_cases h1:i<n
  ·rw [if_pos h1] at h
   have e:i.toNat=j:=Option.some.inj h
   exact ⟨by rw [seqIndex_of h0 h1,e],by omega,by omega,h1⟩
  ·rw [if_neg h1] at h;cases h
 ·rw [if_neg h0] at h
  by_cases h1:-(n:Int)<=i
  ·rw [if_pos h1] at h
   have e:(i+n).toNat=j:=Option.some.inj h
   exact ⟨by rw [seqIndex_neg (by omega) h1,e],by omega,h1,by omega⟩
  ·rw [if_neg h1] at h;cases h
theorem atI_get {α:Type}{xs:List α}{i:Int}{v:α} (h:atI xs i=some v):∃ j,seqIndex? i xs.length=some j/\xs[j]?=some v/\j<xs.length/\-(xs.length:Int)<=i/\i<xs.length:=by
 unfold atI at h
 cases e:ixN xs.length i with
 |none=>rw [e] at h;cases h
 |some j=>
  rw [e] at h
  obtain ⟨h1,h2,h3,h4⟩:=ixN_seq e
  exact ⟨j,h1,h,h2,h3,h4⟩
theorem atI_nat {α:Type}{xs:List α}{j:Nat}{v:α} (h:xs[j]?=some v):atI xs (j:Int)=some v:=by
 have hj:j<xs.length:=(List.getElem?_eq_some_iff.mp h).1
 have e:ixN xs.length (j:Int)=some j:=by
  unfold ixN
  rw [if_pos (by omega),if_pos (by omega)];simp
 unfold atI;rw [e];exact h
theorem atI_last {α:Type} (xs:List α) (v:α):atI (xs++[v]) (-1)=some v:=by
 have hl:(xs++[v]).length=xs.length+1:=by simp
 have e:ixN (xs++[v]).length (-1)=some xs.length:=by
  unfold ixN
  rw [hl,if_neg (by decide),if_pos (by omega)]
  congr 1
  omega
 unfold atI
 rw [e]
 show (xs++[v])[xs.length]?=some v
 simp
def PlainIx (b:Expr):Prop:=∀ o i,subscripted b false o i=operate [o,i] (getItem o i)
def IxR (X:Cx) (r:R2):Prop:=
 ∀ (value slice:Expr) (pins:List (Addr×Obj)) (s:Shared) (σ:St) (H:Hp) (x y:V) (v u:Value) (Q:VK),Inv X pins σ H s->RelV x v->RelV y u->r x y H Q->
  subscripted slice false v u=operate [v,u] (getItem v u)->wpAny (model X.prog X.w) X.A (subscriptTail value slice v u) (EP X pins σ Q) X.xe s
def MtR (X:Cx) (id:String) (r:V->List V->Hp->VK->Prop):Prop:=
 ∀ (pins:List (Addr×Obj)) (s:Shared) (σ:St) (H:Hp) (x:V) (xs:List V) (v:Value) (us:List Value) (Q:VK),Inv X pins σ H s->RelV x v->Vals xs us->r x xs H Q->
  wpAny (model X.prog X.w) X.A (call (.builtin id) (v::us)) (EP X pins σ Q) X.xe s
section
variable {X:Cx}{a b:Expr}{ta tb:TE}{pos:Pos}
theorem pe_ix {r:R2} (hr:IxR X r) (ha:PE X a ta) (hb:PE X b tb) (hs:PlainIx b):PE X (.Subscript a b pos) (tOp r ta tb):=by
 intro pins s σ H Q I h
 exact Subscript_ (binT ha hb I h λv u s2 x y H2 I2 rx ry q=>hr a b pins s2 σ H2 x y v u Q I2 rx ry q (hs _ _))
def rIxL (K:PySem.W.Frag):R2:=λx y H Q=>∃ p xs i v,x=.ref p/\y=.int i/\SqL K H p xs/\atI xs i=some v/\Q v H
def rIxT (K:PySem.W.Frag):R2:=λx y H Q=>∃ p xs i v,x=.ref p/\y=.int i/\SqT K H p xs/\atI xs i=some v/\Q v H
def rIxS:R2:=λx y H Q=>∃ z i c,x=.str z/\y=.int i/\z.length<=sizeLine/\atI z.cps.toList i=some c/\Q (.str ⟨#[c]⟩) H
theorem ix_list:IxR X (rIxL X.K):=by
 intro value slice pins s σ H x y v u Q I rx ry h hs
 obtain ⟨p,xs,i,z,rfl,rfl,hq,he,q⟩:=h
 cases rx
 obtain ⟨t,rfl⟩:=ry
 obtain ⟨its,r,pl,hz⟩:=I.list hq
 obtain ⟨j,h1,h2,h3,h4,h5⟩:=atI_get he
 obtain ⟨w,ew,rw'⟩:=r.get h2
 have hl:=r.length
 have hn:=line63
 have fin:EP X pins σ Q w s:=⟨z,H,I,rw',q⟩
 by_cases h0:0<=i
 ·have hj:i.toNat=j:=by
   rw [seqIndex_of h0 h5] at h1
   exact Option.some.inj h1
  exact item_listR pl.isList h0 (by omega) (by rw [hj];simpa using ew) fin hs
 ·have hj:(i+(its.toArray.size:Int)).toNat=j:=by
   rw [seqIndex_neg (by omega) h4] at h1
   rw [List.size_toArray,<-hl]
   exact Option.some.inj h1
  exact subscriptTail_builtinR (x:=w) pl.isList.typeIs slot_list_getitem.lookup
   (wpAny_getItem_list_neg (Q:=λr s'=>r=w/\EP X pins σ Q r s') pl.isList (by omega) (by rw [List.size_toArray]<;>omega) (by omega) (by rw [hj];simpa using ew) ⟨rfl,fin⟩) hs
theorem ix_tup:IxR X (rIxT X.K):=by
 intro value slice pins s σ H x y v u Q I rx ry h hs
 obtain ⟨p,xs,i,z,rfl,rfl,hq,he,q⟩:=h
 cases rx
 obtain ⟨t,rfl⟩:=ry
 obtain ⟨its,r,pl,hz⟩:=I.tuple hq
 obtain ⟨j,h1,h2,h3,h4,h5⟩:=atI_get he
 obtain ⟨w,ew,rw'⟩:=r.get h2
 have hl:=r.length
 have hn:=line63
 have fin:EP X pins σ Q w s:=⟨z,H,I,rw',q⟩
 exact subscriptTail_builtinR (x:=w) pl.typeIs slot_tuple_getitem.lookup
  (getItem_tuple (j:=j) (Q:=λr s'=>r=w/\EP X pins σ Q r s') pl (by omega) (by omega) (by rw [List.size_toArray,<-hl];exact h1) (by simpa using ew) ⟨rfl,fin⟩) hs
theorem ix_str:IxR X rIxS:=by
 intro value slice pins s σ H x y v u Q I rx ry h hs
 obtain ⟨z,i,c,rfl,rfl,hz,he,q⟩:=h
 obtain ⟨t,rfl⟩:=rx
 obtain ⟨t',rfl⟩:=ry
 obtain ⟨j,h1,h2,h3,h4,h5⟩:=atI_get he
 have hl:z.cps.toList.length=z.length:=by simp [Str.length]
 rw [hl] at h1 h4 h5
 have hn:=line63
 exact tail_any (typeIs_str s z t) slot_str_getitem.lookup (getItem_str (c:=c) (by
  have e1:decide (i < -(2 ^ 63:Int))=false:=decide_eq_false (by omega)
  have e2:decide (i ≥ 2 ^ 63)=false:=decide_eq_false (by omega)
  rw [e1,e2,Bool.or_false]) (by rw [h1];simpa using h2) ⟨.str ⟨#[c]⟩,H,I.tok _,⟨_,rfl⟩,q⟩) hs
theorem mapSeq_set (its:List Value) (n j:Nat) (u:Value):Obj.mapSeq (·.setIfInBounds j u) { cls:=.type "list",data:=.seq its.toArray n }={ cls:=.type "list",data:=.seq (its.set j u).toArray n }:=by
 simp [Obj.mapSeq]
theorem Inv.lst {pins:List (Addr×Obj)}{σ:St}{H:Hp}{s:Shared}{p:Addr}{xs:List V} (I:Inv X pins σ H s) (h:H p=some (.lst xs)) :
  ∃ (its:List Value) (n:Nat),Vals xs its/\s.heap.get? p=some { cls:=.type "list",data:=.seq its.toArray n }/\xs.length<=sizeLine:=by
 obtain ⟨z,its,n,r,e⟩:=I.hok p _ h
 exact ⟨its,n,r,e,z⟩
theorem Inv.lstUpd {pins:List (Addr×Obj)}{σ:St}{H:Hp}{s:Shared}{p:Addr}{xs ys:List V}{its its':List Value}{n n':Nat}{f:Obj->Obj} (I:Inv X pins σ H s) (h:H p=some (.lst xs))
  (ho:s.heap.get? p=some { cls:=.type "list",data:=.seq its.toArray n }) (hf:f { cls:=.type "list",data:=.seq its.toArray n }={ cls:=.type "list",data:=.seq its'.toArray n' }) (r:Vals ys its') (hz:ys.length<=sizeLine) (t:Nat) :
  Inv X pins σ (upd H p (.lst ys)) { s with heap:=s.heap.update p f,toks:=t }:=by
 have e:(s.heap.update p f).get? p=some { cls:=.type "list",data:=.seq its'.toArray n' }:=by
  rw [Heap.get?_update_self f ho (by rw [hf]<;>rfl),hf]
 refine I.write (x:=p) (e:=p) (by rw [h];trivial) (.inl rfl) (λb u hb q=>(Heap.get?_update_other _ _ (Ne.symm hb)).trans q) ⟨_,e⟩ ?_
 exact ⟨hz,its',n',r,e⟩
def rSetL:V->V->V->Hp->(Hp->Prop)->Prop:=λo i v H Q=>∃ p xs k j,o=.ref p/\i=.int k/\H p=some (.lst xs)/\ixN xs.length k=some j/\Q (upd H p (.lst (xs.set j v)))
theorem set_list:PSet X rSetL:=by
 intro pins s σ H o i v ov iv u Q I ro ri rv h
 obtain ⟨p,xs,k,j,rfl,rfl,hp,hj,q⟩:=h
 cases ro
 obtain ⟨t,rfl⟩:=ri
 obtain ⟨its,n,r,ho,hz⟩:=I.lst hp
 obtain ⟨h1,h2,h3,h4⟩:=ixN_seq hj
 have hl:=r.length
 have hn:=line63
 have I':Inv X pins σ (upd H p (.lst (xs.set j v))) { s with heap:=s.heap.update p (Obj.mapSeq (·.setIfInBounds j u)) }:=
  I.lstUpd hp ho (mapSeq_set its n j u) (r.set rv j) (by rw [List.length_set];exact hz) s.toks
 by_cases h0:0<=k
 ·have hk:k.toNat=j:=by
   rw [seqIndex_of h0 h4] at h1
   exact Option.some.inj h1
  exact PySem.W.ki_setAt ho h0 (by omega) (by rw [List.size_toArray,<-hl];exact h4) (by rw [hk];exact ⟨_,I',q⟩)
 ·have hk:(k+(its.toArray.size:Int)).toNat=j:=by
   rw [seqIndex_neg (by omega) h3] at h1
   rw [List.size_toArray,<-hl]
   exact Option.some.inj h1
  exact PySem.W.ki_setBack ho (by omega) (by rw [List.size_toArray,<-hl];exact h3) (by omega) (by rw [hk];exact ⟨_,I',q⟩)
theorem slice_bounds (lo hi:Option Int) (n:Nat):(sliceBounds lo hi none n).1=((HT.sIx n 0 lo:Nat):Int)/\(sliceBounds lo hi none n).2.1=((HT.sIx n n hi:Nat):Int)/\(sliceBounds lo hi none n).2.2=1:=by
 refine ⟨?_,?_,rfl⟩
 ·cases lo with
  |none=>simp [sliceBounds,HT.sIx]
  |some i=>
   simp only [sliceBounds,HT.sIx,Option.getD_none,show (1:Int) > 0 by decide,if_true]
   by_cases h:i<0
   ·simp only [h,if_true]<;>omega
   ·simp only [h,if_false]<;>omega
 ·cases hi with
  |none=>simp [sliceBounds,HT.sIx]
  |some i=>
   simp only [sliceBounds,HT.sIx,Option.getD_none,show (1:Int) > 0 by decide,if_true]
   by_cases h:i<0
   ·simp only [h,if_true]<;>omega
   ·simp only [h,if_false]<;>omega
theorem slicePick_cut (its:List Value) (lo hi:Option Int):slicePick its.toArray lo hi none=((its.drop (HT.sIx its.length 0 lo)).take (HT.sIx its.length its.length hi-HT.sIx its.length 0 lo)).toArray:=by
 obtain ⟨h1,h2,h3⟩:=slice_bounds lo hi its.toArray.size
 unfold slicePick
 rw [h1,h2,h3]
 simp only [sliceRange_one,pick_run,List.size_toArray]<;>rfl
def rSlL (K:PySem.W.Frag):V->Option Int->Option Int->Hp->VK->Prop:=λx lo hi H Q=>∃ a xs,x=.ref a/\SqL K H a xs/\∀ p,H p=none->Q (.ref p) (upd H p (.lst (cutV xs lo hi)))
theorem sl_list:SlR X (rSlL X.K):=by
 intro pins s σ H x v vl vu lo hi sl Q I rx hs pl pu h
 obtain ⟨a,xs,rfl,hx,q⟩:=h
 cases rx
 obtain ⟨its,r,ht,hz⟩:=I.list hx
 have hlen:=r.length
 refine ⟨"list",_,slot_list_getitem.lookup,ht.isList.typeIs,?_⟩
 refine wpAny_getItem_list_slice ht.isList hs pl pu .none (by simp) ?_ (by rw [List.size_toArray]<;>omega)
 rw [slicePick_cut,<-hlen]
 refine ⟨.ref s.heap.objs.size,_,I.laid (t':=s.toks) (o:=.lst (cutV xs lo hi)) (λb ob q=>Heap.get?_push_of_some _ q) (Nat.le_refl _) ?_,rfl,q _ (I.hok.fresh (Nat.le_refl _))⟩
 exact ⟨Nat.le_trans (cutV_length xs lo hi) hz,_,0,(r.drop (HT.sIx xs.length 0 lo)).take (HT.sIx xs.length xs.length hi-HT.sIx xs.length 0 lo),Heap.get?_push_size _ rfl⟩
def flatV:V->Bool
 | .non=>true
 | .bl _=>true
 | .int _=>true
 | .str _=>true
 |_=>false
def eqV:V->V->Bool
 | .non,.non=>true
 | .bl a,.bl b=>a == b
 | .bl a,.int b=>(if a then 1 else 0) == b
 | .int a,.bl b=>a == (if b then 1 else 0)
 | .int a,.int b=>a == b
 | .str a,.str b=>a == b
 |_,_=>false
theorem eqAt_V {A:Around}{s:Shared}{y x:V}{u v:Value} (ry:RelV y u) (rx:RelV x v) (fy:flatV y=true) (fx:flatV x=true):SeqAt.EqAt A s u v (eqV y x):=by
 cases y with
 |non=>
  cases ry
  cases x with
  |non=>cases rx;exact SeqAt.EqAt.same _
  |bl b=>cases rx;exact SeqAt.EqAt.none_bool b
  |int b=>obtain ⟨t,rfl⟩:=rx;exact SeqAt.EqAt.none_int b t
  |str b=>obtain ⟨t,rfl⟩:=rx;exact SeqAt.EqAt.none_str b t
  |_=>exact absurd (show false=true from fx) Bool.false_ne_true
 |bl a=>
  cases ry
  cases x with
  |non=>cases rx;exact SeqAt.EqAt.bool_none a
  |bl b=>cases rx;exact SeqAt.EqAt.bool_bool a b
  |int b=>obtain ⟨t,rfl⟩:=rx;exact SeqAt.EqAt.bool_int a b t
  |str b=>obtain ⟨t,rfl⟩:=rx;exact SeqAt.EqAt.bool_str a b t
  |_=>exact absurd (show false=true from fx) Bool.false_ne_true
 |int a=>
  obtain ⟨t',rfl⟩:=ry
  cases x with
  |non=>cases rx;exact SeqAt.EqAt.int_none a t'
  |bl b=>cases rx;exact SeqAt.EqAt.int_bool a t' b
  |int b=>obtain ⟨t,rfl⟩:=rx;exact SeqAt.EqAt.int_int a t' b t
  |str b=>obtain ⟨t,rfl⟩:=rx;exact SeqAt.EqAt.int_str a t' b t
  |_=>exact absurd (show false=true from fx) Bool.false_ne_true
 |str a=>
  obtain ⟨t',rfl⟩:=ry
  cases x with
  |non=>cases rx;exact SeqAt.EqAt.str_none a t'
  |bl b=>cases rx;exact SeqAt.EqAt.str_bool a t' b
  |int b=>obtain ⟨t,rfl⟩:=rx;exact SeqAt.EqAt.str_int a t' b t
  |str b=>obtain ⟨t,rfl⟩:=rx;exact SeqAt.EqAt.str_str a t' b t
  |_=>exact absurd (show false=true from fx) Bool.false_ne_true
 |_=>exact absurd (show false=true from fy) Bool.false_ne_true
theorem call_len_seq:CallR X (.builtin "len") (λxs H Q=>∃ p ys,xs=[.ref p]/\(SqL X.K H p ys∨SqT X.K H p ys)/\Q (.int ys.length) H):=by
 intro pins s σ H xs us Q I r h
 obtain ⟨p,ys,rfl,hq,q⟩:=h
 obtain ⟨u,rfl,rx⟩:=vals1 r
 cases rx
 have hn:=line63
 rcases hq with hq|hq
 ·obtain ⟨its,r',pl,hz⟩:=I.list hq
  have hlen:=r'.length
  exact Calls.call_len_list pl.isList (by simp only [List.size_toArray]<;>omega) ⟨.int ys.length,H,I.tok _,⟨s.toks+1,by rw [List.size_toArray,hlen]⟩,q⟩
 ·obtain ⟨its,r',pl,hz⟩:=I.tuple hq
  have hlen:=r'.length
  exact len_tuple pl (by simp only [List.size_toArray]<;>omega) ⟨.int ys.length,H,I.tok _,⟨s.toks+1,by rw [List.size_toArray,hlen]⟩,q⟩
theorem call_list_of:CallR X (.type "list") (λxs H Q=>∃ p ys,xs=[.ref p]/\(SqL X.K H p ys∨SqT X.K H p ys)/\∀ l,H l=none->Q (.ref l) (upd H l (.lst ys))):=by
 intro pins s σ H xs us Q I r h
 obtain ⟨p,ys,rfl,hq,q⟩:=h
 obtain ⟨u,rfl,rx⟩:=vals1 r
 cases rx
 have fin:∀ (its:List Value),Vals ys its->ys.length<=sizeLine->∀ (h':Heap) (c':Nat),(∀ b o',s.heap.get? b=some o'->h'.get? b=some o')->
   h'.get? s.heap.objs.size=some { cls:=.type "list",dict:=none,data:=.seq its.toArray c',slots:=#[] }->EP X pins σ Q (.ref s.heap.objs.size) { s with heap:=h' }:=λits r' hz h' c' kp e=>
  ⟨.ref s.heap.objs.size,_,I.laid (t':=s.toks) kp (Nat.le_refl _) (show ObjOk X.prog X.w _ h' _ (.lst ys) from ⟨hz,its,c',r',e⟩),rfl,q _ (I.hok.fresh (Nat.le_refl _))⟩
 rcases hq with hq|hq
 ·obtain ⟨its,r',pl,hz⟩:=I.list hq
  have hlen:=r'.length
  obtain ⟨o,ho,hc,n,hd⟩:=pl.isList
  exact call_list_seq p (.inl rfl) ho hc hd (λh' c' kp e=>fin its r' hz h' c' kp e) (by simp only [List.size_toArray]<;>omega)
 ·obtain ⟨its,r',pl,hz⟩:=I.tuple hq
  have hlen:=r'.length
  obtain ⟨o,ho,hc,n,hd⟩:=pl
  exact call_list_seq p (.inr rfl) ho hc hd (λh' c' kp e=>fin its r' hz h' c' kp e) (by simp only [List.size_toArray]<;>omega)
def tyV (K:PySem.W.Frag) (T:String) (x:V) (H:Hp):Prop:=match x with
 | .str _=>T="str"
 | .int _=>T="int"
 | .ref p=>(T="list"/\∃ xs,SqL K H p xs)∨(T="tuple"/\∃ o,K.lookup p=some o/\o.cls=.type "tuple"/\o.dict=none) ∨
   (T="dict"/\((∃ kvs,H p=some (.dK kvs))∨∃ kvs,H p=some (.dT kvs)))∨(T="set"/\∃ S n,H p=some (.set S n))
 |_=>False
theorem tyV_is {pins:List (Addr×Obj)}{σ:St}{H:Hp}{s:Shared}{T:String}{x:V}{v:Value} (I:Inv X pins σ H s) (r:RelV x v) (ty:tyV X.K T x H) :
  s.TypeIs v T/\∀ a,v=.ref a->∃ ob,s.heap.get? a=some ob/\ob.dict=none:=by
 cases x with
 |str z=>
  obtain ⟨t,rfl⟩:=r
  cases (show T="str" from ty)
  exact ⟨typeIs_str s z t,λ_ e=>nomatch e⟩
 |int i=>
  obtain ⟨t,rfl⟩:=r
  cases (show T="int" from ty)
  exact ⟨typeIs_int s i t,λ_ e=>nomatch e⟩
 |ref p=>
  cases r
  rcases ty with ⟨rfl,xs,hq⟩|⟨rfl,o,hk,hc,hd⟩|⟨rfl,hk⟩|⟨rfl,S,n,hk⟩
  ·obtain ⟨its,_,pl,_⟩:=I.list hq
   refine ⟨pl.isList.typeIs,λa e=>?_⟩
   cases e
   obtain ⟨o,n,e,c,hd,_⟩:=pl
   exact ⟨o,e,hd⟩
  ·refine ⟨⟨o,I.kIn p o hk,hc⟩,λa e=>?_⟩
   cases e
   exact ⟨o,I.kIn _ o hk,hd⟩
  ·have z:∃ o,s.heap.get? p=some o/\o.ExactDict:=by
    rcases hk with ⟨kvs,hk⟩|⟨kvs,hk⟩
    ·obtain ⟨_,_,_,_,o,_,_,e,ex,_⟩:=I.hok p _ hk
     exact ⟨o,e,ex⟩
    ·obtain ⟨_,_,_,_,o,_,_,e,ex,_⟩:=I.hok p _ hk
     exact ⟨o,e,ex⟩
   obtain ⟨o,e,ex⟩:=z
   refine ⟨⟨o,e,ex.1⟩,λa e2=>?_⟩
   cases e2
   exact ⟨o,e,ex.2.1⟩
  ·obtain ⟨o,_,_,_,e,ex,_⟩:=I.hok p _ hk
   refine ⟨⟨o,e,ex.1⟩,λa e2=>?_⟩
   cases e2
   exact ⟨o,e,ex.2.1⟩
 |_=>exact False.elim ty
def tBM0 (K:PySem.W.Frag) (T:String) (r:V->List V->Hp->VK->Prop) (to:TE):TE:=fun σ H Q=>to σ H λx H1=>tyV K T x H1/\r x [] H1 Q
def tBM (K:PySem.W.Frag) (T:String) (r:V->List V->Hp->VK->Prop) (to:TE) (t:TA):TE:=fun σ H Q=>to σ H λx H1=>tyV K T x H1/\t σ H1 λxs H2=>r x xs H2 Q
variable {o e:Expr}{es:List Expr}{to:TE}{t:TA}{name:Str}{apos cpos:Pos}{T id:String}{r:V->List V->Hp->VK->Prop}
theorem pe_bm0 (pa:PlainAttrs T) (slot:Slot T name id) (hty:typeOf (.builtin id)=pure (.type "method_descriptor")) (hm:MtR X id r) (ho:PE X o to)
  (hbase:attributeBase o name X.env (eval o X.env)=eval o X.env:=by rfl) (hline:(apos.endLine == cpos.line)=true:=by rfl):PE X (.Call (.Attribute o name apos) [] [] cpos) (tBM0 X.K T r to):=by
 intro pins s σ H Q I h
 refine wpAny_Call_method0_late hbase hline (thn (ho pins s σ H _ I h) λv s1 ⟨x,H1,I1,r1,ty,q1⟩=>?_)
 obtain ⟨h1,h2⟩:=tyV_is I1 r1 ty
 exact ⟨T,id,pa,slot,hty,h1,h2,Calls.callWith_builtin rfl (PySem.evalArgs_none (hm pins s1 σ H1 x [] v [] Q I1 r1 .nil q1))⟩
theorem pe_bm (pa:PlainAttrs T) (slot:Slot T name id) (hty:typeOf (.builtin id)=pure (.type "method_descriptor")) (hm:MtR X id r) (ho:PE X o to) (ha:PA X (e::es) t)
  (hbase:attributeBase o name X.env (eval o X.env)=eval o X.env:=by rfl)
  (hfew:((backTo cpos (starEach (e::es) X.env)).all (λx=>!x.1) && (backToKw cpos (keywordEach [] X.env)).all (λx=>x.1.isSome)
   && decide ((e::es).length+([]:List Keyword).length+(if ([]:List Keyword).isEmpty then 0 else 1)<30))=true:=by rfl)
  (hline:(apos.endLine == cpos.line)=true:=by rfl) (hs:starEach (e::es) X.env=(false,eval e X.env)::starEach es X.env:=by rfl) (hplain:(backTo cpos (starEach es X.env)).any (·.1)=false:=by rfl) :
  PE X (.Call (.Attribute o name apos) (e::es) [] cpos) (tBM X.K T r to t):=by
 intro pins s σ H Q I h
 refine wpAny_Call_method_late hbase hfew hline rfl (thn (ho pins s σ H _ I h) λv s1 ⟨x,H1,I1,r1,ty,q1⟩=>?_)
 obtain ⟨h1,h2⟩:=tyV_is I1 r1 ty
 refine ⟨T,id,pa,slot,hty,h1,h2,?_⟩
 have hA:=ha cpos pins s1 σ H1 _ I1 q1
 rw [hs] at hA ⊢
 refine Calls.callWith_builtin (by show (false || (backTo cpos (starEach es X.env)).any (·.1))=false;rw [hplain]<;>rfl) (Calls.evalArgs_plain ?_)
 exact thn hA λus s2 ⟨vs,H2,I2,r2,q2⟩=>hm pins s2 σ H2 x vs v us Q I2 r1 r2 q2
end
end L2
namespace L2
open PySem PySem.Spec PyProof.Rows
def MtM (X:Cx) (id:String) (r:V->List V->Hp->VK->Prop):Prop:=
 ∀ (pins:List (Addr×Obj)) (s:Shared) (σ:St) (H:Hp) (x:V) (xs:List V) (v:Value) (us:List Value) (Q:VK),Inv X pins σ H s->RelV x v->Vals xs us->r x xs H Q->
  wpAny (model X.prog X.w) X.A (call (.builtin id) (v::us)) (EP X pins σ Q) X.xe s
theorem Vals.one:∀ {x:V}{us:List Value},Vals [x] us->∃ u,us=[u]/\RelV x u
 |_,_,.cons r .nil=>⟨_,rfl,r⟩
theorem Vals.two:∀ {x y:V}{us:List Value},Vals [x,y] us->∃ u v,us=[u,v]/\RelV x u/\RelV y v
 |_,_,_,.cons r (.cons q .nil)=>⟨_,_,rfl,r,q⟩
theorem Vals.zero:∀ {us:List Value},Vals [] us->us=[]
 |_,.nil=>rfl
theorem Vals.dropLast {xs:List V}{us:List Value} (h:Vals xs us):Vals xs.dropLast us.dropLast:=by
 induction h with
 |nil=>exact .nil
 |cons r t ih=>
  cases t with
  |nil=>exact .nil
  |cons q t'=>exact .cons r ih
theorem erase_last {α:Type} (l:List α):l.eraseIdx (l.length - 1)=l.dropLast:=by
 induction l with
 |nil=>rfl
 |cons a r ih=>
  cases r with
  |nil=>rfl
  |cons b r=>
   have e:(a::b::r).length - 1=((b::r).length - 1)+1:=by
    have h1:(a::b::r).length=r.length+2:=rfl
    have h2:(b::r).length=r.length+1:=rfl
    omega
   rw [e,List.eraseIdx_cons_succ,ih]
   all_goals rfl
section
variable {X:Cx}{pins:List (Addr×Obj)}{σ:St}{H:Hp}{s:Shared}{l b:Addr}{xs ys zs:List V}
theorem Inv.lset {its its':List Value}{n:Nat}{f:Array Value->Array Value}{t':Nat} (I:Inv X pins σ H s) (hH:H l=some (.lst xs))
  (e:s.heap.get? l=some { cls:=.type "list",data:=.seq its.toArray n }) (hf:f its.toArray=its'.toArray) (hv:Vals ys its') (hz:ys.length<=sizeLine) :
  Inv X pins σ (upd H l (.lst ys)) { s with heap:=s.heap.update l (Obj.mapSeq f),toks:=t' }:=by
 have q:=PySem.IsL.update e f
 rw [hf] at q
 refine I.write (x:=l) (e:=l) (by rw [hH];exact trivial) (.inl rfl) (λb' u hb hu=>(Heap.get?_update_other s.heap (Obj.mapSeq f) (Ne.symm hb)).trans hu) ⟨_,q⟩ ?_
 exact ⟨hz,its',_,hv,q⟩
theorem Inv.lnew {its:List Value}{t':Nat} (I:Inv X pins σ H s) (hv:Vals ys its) (hz:ys.length<=sizeLine) :
  Inv X pins σ (upd H s.heap.objs.size (.lst ys)) { s with heap:=s.heap.push { cls:=.type "list",data:=.seq its.toArray },toks:=t' }:=
 I.laid (λ_ _ q=>Heap.get?_push_of_some _ q) (Nat.le_refl _) ⟨hz,its,0,hv,Heap.get?_push_size _ rfl⟩
theorem Inv.fresh (I:Inv X pins σ H s):H s.heap.objs.size=none:=I.hok.fresh (Nat.le_refl _)
theorem Inv.lstM (I:Inv X pins σ H s) (hH:H l=some (.lst xs)):xs.length<=sizeLine/\∃ (its:List Value) (n:Nat),Vals xs its/\xs.length=its.length/\s.heap.get? l=some { cls:=.type "list",data:=.seq its.toArray n }:=by
 obtain ⟨z,its,n,r,e⟩:=I.hok l _ hH
 exact ⟨z,its,n,r,r.length,e⟩
end
section
variable {X:Cx}
def rAppend:V->List V->Hp->VK->Prop:=λx vs H Q=>∃ l xs y,x=.ref l/\vs=[y]/\H l=some (.lst xs)/\xs.length<sizeLine/\Q .non (upd H l (.lst (xs++[y])))
theorem mt_append:MtM X "list.append" rAppend:=by
 intro pins s σ H x vs v us Q I rx rv h
 obtain ⟨l,xs,y,rfl,rfl,hH,hz,q⟩:=h
 cases rx
 obtain ⟨u,rfl,ru⟩:=rv.one
 obtain ⟨z,its,n,r,hl,e⟩:=I.lstM hH
 refine call_meets F.slot_list_append ⟨_,e,rfl⟩ F.entry_list_append (F.args_list_append_2 _ _) (PySem.list_append l its.toArray n u (by rw [List.size_toArray];omega)) ⟨e,?_⟩
 refine ⟨.non,_,I.lset (its':=its++[u]) hH e (by simp) (r.append (.cons ru .nil)) ?_,rfl,q⟩
 rw [List.length_append,List.length_singleton]
 omega
def rPop:V->List V->Hp->VK->Prop:=λx vs H Q=>∃ l xs y,x=.ref l/\vs=[]/\H l=some (.lst xs)/\xs[xs.length - 1]?=some y/\Q y (upd H l (.lst xs.dropLast))
theorem mt_pop:MtM X "list.pop" rPop:=by
 intro pins s σ H x vs v us Q I rx rv h
 obtain ⟨l,xs,y,rfl,rfl,hH,hy,q⟩:=h
 cases rx
 have hus:=rv.zero
 subst hus
 obtain ⟨z,its,n,r,hl,e⟩:=I.lstM hH
 obtain ⟨u,hu,ru⟩:=r.get hy
 have hy':its.toArray[its.toArray.size - 1]?=some u:=by
  show its.toArray[its.length - 1]?=some u
  rw [<-Array.getElem?_toList,<-hl]
  exact hu
 refine call_meets F.slot_list_pop ⟨_,e,rfl⟩ F.entry_list_pop (F.args_list_pop_1 _) (MeetsSeq.list_pop_last l its.toArray n u hy' (by rw [List.size_toArray];omega)) ⟨e,?_⟩
 refine ⟨y,_,I.lset (its':=its.dropLast) hH e ?_ r.dropLast ?_,ru,q⟩
 ·show its.toArray.eraseIdxIfInBounds (its.toArray.size - 1)=its.dropLast.toArray
  rw [List.size_toArray,List.eraseIdxIfInBounds_toArray,erase_last]
 ·rw [List.length_dropLast]
  omega
def rClear:V->List V->Hp->VK->Prop:=λx vs H Q=>∃ l xs,x=.ref l/\vs=[]/\H l=some (.lst xs)/\Q .non (upd H l (.lst []))
theorem mt_clear:MtM X "list.clear" rClear:=by
 intro pins s σ H x vs v us Q I rx rv h
 obtain ⟨l,xs,rfl,rfl,hH,q⟩:=h
 cases rx
 have hus:=rv.zero
 subst hus
 obtain ⟨z,its,n,r,hl,e⟩:=I.lstM hH
 refine call_meets F.slot_list_clear ⟨_,e,rfl⟩ F.entry_list_clear (F.args_list_clear_1 _) (AutoSeq1.list_clear_list_0 l its.toArray n (by rw [List.size_toArray];omega)) ⟨e,?_⟩
 exact ⟨.non,_,I.lset (its':=[]) (ys:=[]) hH e rfl .nil (Nat.zero_le _),rfl,q⟩
def rCat:R2:=λx y H Q=>∃ l b xs zs,x=.ref l/\y=.ref b/\H l=some (.lst xs)/\H b=some (.lst zs)/\xs.length+zs.length<=sizeLine/\∀ p,H p=none->Q (.ref p) (upd H p (.lst (xs++zs)))
theorem op_cat:OpR X (binaryOp .Add) rCat:=by
 intro pins s σ H x y v u Q I rx ry h
 obtain ⟨l,b,xs,zs,rfl,rfl,hH,hB,hz,q⟩:=h
 cases rx
 cases ry
 obtain ⟨z,its,n,r,hl,e⟩:=I.lstM hH
 obtain ⟨z2,its2,n2,r2,hl2,e2⟩:=I.lstM hB
 refine PySem.P.add_list e e2 ?_ (by rw [List.size_toArray,List.size_toArray];omega)
 have ea:its.toArray++its2.toArray=(its++its2).toArray:=by simp
 rw [ea]
 exact ⟨.ref _,_,I.lnew (t':=s.toks) (r.append r2) (by rw [List.length_append];omega),rfl,q _ I.fresh⟩
end
section
variable {prog:Program}{w:World}{A:Around}{E:Value->Shared->Prop}{s:Shared}
theorem bounds_run {a c n:Nat} (hac:a<=c) (hc:c<=n):sliceBounds (some (a:Int)) (some (c:Int)) none n=((a:Int),(c:Int),1):=by
 simp only [sliceBounds,Option.getD_none]
 have h1:¬ ((a:Int)<0):=by omega
 have h2:¬ ((c:Int)<0):=by omega
 simp only [h1,h2,if_false,show (1:Int) > 0 by decide,if_true]
 congr 1
 ·omega
 ·congr 1;omega
end
section
variable {X:Cx}
end
end L2
namespace Att
open PySem PySem.W PySem.Calls PyProof.Rows
theorem ints_of_wellAll {P:Params}{h:Heap}:∀ (ns:List Int) (vs:List Value),WellAll P h vs (ns.map WData.int)->IntsAre vs ns:=by
 intro ns
 induction ns with
 |nil=>
  intro vs w
  rw [List.map_nil] at w
  cases w
  exact .nil
 |cons n ns ih=>
  intro vs w
  rw [List.map_cons] at w
  cases w with
  |cons a b=>
   cases a
   exact .cons _ _ (ih _ b)
theorem script_of {l:OpenLaw}{n:Nat} (hn:l.most=some n) {P:Params}{h:Heap}{args:List WData}{vals:List Value}
  (hpre:l.row.toRowW.claim.pre args=true) (hwl:WellAll P h vals args) :
  ∃ a vs ns,vals=[Value.ref a]/\args=[WData.list (ns.map WData.int)]/\h.get? a=some { cls:=.type "list",data:=.seq vs.toArray }/\IntsAre vs ns/\ns.length<=n:=by
 have hsh:WShape.hasAll [] args [.list .int]=true:=(pre_splitW hpre).1
 have hc:l.pre.holds [] { args:=args }=true:=(pre_splitW hpre).2
 obtain ⟨d,r,rfl,h1,h2⟩:=hasAllW_cons hsh
 obtain rfl:=hasAllW_nil h2
 obtain ⟨xs,rfl,h3⟩:=hasW_list h1
 obtain ⟨ns,rfl⟩:=items_int h3
 have hlen:ns.length<=n:=by
  unfold OpenLaw.pre at hc
  have h4:(WTm.not (.lt (.lit (.int (n:Int))) (.len (.arg 0)))).holds [] { args:=[.list (ns.map .int)] }=true:=by
   have h4:=(holds_andW hc).1
   rw [hn] at h4
   exact h4
  have h5:=condW_of h4 (w_not (w_lt w_lit (w_len_list (w_arg rfl))))
  rw [List.length_map] at h5
  refine Nat.le_of_not_lt λq=>?_
  have q':(n:Int)<((ns.length:Nat):Int):=by omega
  first
   |(rw [decide_eq_true q'] at h5;exact absurd h5 (by decide))
   |(simp at h5;omega)
 cases hwl with
 |cons w1 w2=>
  cases w2
  cases w1 with
  |list ho hall=>exact ⟨_,_,ns,rfl,rfl,ho,ints_of_wellAll ns _ hall,hlen⟩
theorem post_true (l:OpenLaw) (args:List WData):l.row.toRowW.claim.post args (.bool true) args=true:=
 postW_of (r:=l.row.toRowW) (X:=(true == true))
  (show WShape.has [] (.bool true) .bool=true by first|rfl|decide|simp [WShape.has,WShape.arms,WShape.armsAll])
  (show (WTm.eq .res (.lit (.bool true))).value [] { args:=args,res:=some (.bool true),after:=args }=some (.bool (true == true)) from w_eq_bool (w_res rfl) w_lit) rfl
theorem attach_call {l:OpenLaw}{n:Nat}{q:Program}{loose:List Str}{XP:(Str->Option Value)->Heap->Prop}{YP:World->Heap->Prop}{d:DefRec}
  (hn:l.most=some n) (hdf:d.params.defaults=[])
  (call:∀ (w:World) (s₀ s₁:Shared) (mg mb:Str->Option Value) (fa:Addr) (o:Obj) (pm cd doc:Value) (a:Addr) (vs:List Value) (ns:List Int),
   Ground q loose [] XP w s₀ mg mb s₁.heap->YP w s₁.heap->
   s₁.heap.get? fa=some o->o.data=.func (docDef d.name d.params d.body d.scope pm cd doc)->s₁.heap.CodeRec cd d.name->mg d.name=some (.ref fa)->
   s₁.heap.get? a=some { cls:=.type "list",data:=.seq vs.toArray }->IntsAre vs ns->ns.length<=n->s₁.gens=#[]->
   codeAny (model l.prog w) callerA (.call (.ref fa) ⟨[.ref a],[]⟩) (λr s'=>r=.ok (.ret (.bool true))/\OldK s₁.heap s'.heap/\s'.os=s₁.os/\AllBare s'.gens) s₁) :
  WalkO q loose XP YP l.row.toRowW d [] (λf vs=>PySem.call f vs):=by
 intro w s₀ s₁ mg mb G Y fa o pm cd doc dV kV ho hd hcd hD hmg hg args vals as hpre hlay hrd hwl hlo
 obtain rfl:dV=.none:=Dflts.none hD hdf
 obtain rfl:kV=.none:=Dflts.noKw hD
 obtain ⟨a,vs,ns,rfl,rfl,hobj,hints,hlen⟩:=script_of hn hpre hwl
 refine enter_call (codeAny_mono (call w s₀ s₁ mg mb fa o pm cd doc a vs ns G Y ho (fd_plain hd) hcd hmg hobj hints hlen hg) λr s' hq=>?_)
 obtain ⟨rfl,h2,h3,h4⟩:=hq
 exact ⟨.inl ⟨.bool true,.bool true,[],rfl,λ_=>rfl,.bool true,post_true l _,λ_=>⟨List.Pairwise.nil,λ_ hm=>(nomatch hm)⟩⟩,h2,h3,h4⟩
section
variable {prog:Program}{w:World}{A:Around}{E:Value->Shared->Prop}{s:Shared}{K:Frag}
end
end Att
namespace L2
open PySem PySem.Spec PyProof.Rows
theorem vals_ints:∀ {vs:List Value}{ns:List Int},IntsAre vs ns->Vals (ns.map V.int) vs
 |_,_,.nil=>.nil
 |_,_,.cons n t h=>.cons ⟨t,rfl⟩ (vals_ints h)
def Only (H:Hp):Prop:=∀ b,H b=none∨∃ o xs,H b=some (.frz o (.lst xs))
theorem law_call {P:Program}{w:World}{K:PySem.W.Frag}{mg mb:Str->Option Value}{CX:CXT}{k:Nat}{fa a:Addr}{fd:FuncData}{x:Str}{sp:Sp}{s₁:Shared}{vs:List Value}{ns:List Int}
  (KX:K.In s₁.heap) (hns:s₁.heap.Ns mainGlobals mg) (hb:s₁.heap.Ns builtinsNs mb) (hbb:∀ x:Str,x≠"__name__"->mb x=bootBuiltins x) (hlim:s₁.heap.NoLimit) (hg:s₁.gens=#[])
  (ha:s₁.heap.get? a=some { cls:=.type "list",data:=.seq vs.toArray }) (hi:IntsAre vs ns) (hl:ns.length<=sizeLine) (hr:Room k callerA)
  (F:∀ base:Heap,K.In base->base.Ns mainGlobals mg->FnOk P w K mg base CX k fa fd [x] sp) (hbind:∀ (s:Shared) (u:Value),BindsTo s fd ⟨[u],[]⟩ [(x,u)])
  (hsp:∀ H:Hp,Only H->SqL K H a (ns.map V.int)->sp [.ref a] H (λv _=>v=.bl true) λ_ _ _=>False)
  (hCX:∀ H e s',CX [] H s₁ (λ_ _ _=>False) e s'->False) :
  codeAny (model P w) callerA (.call (.ref fa) ⟨[.ref a],[]⟩) (λr s'=>r=.ok (.ret (.bool true))/\OldK s₁.heap s'.heap/\s'.os=s₁.os/\AllBare s'.gens) s₁:=by
 have rv:=vals_ints hi
 have lenV:=hi.length
 have core:∀ H:Hp,Only H->SqL K H a (ns.map V.int)->HOk P w H s₁.heap->(∀ b,H b≠none->b=a)->(H a≠none->K.lookup a=none)->
   codeAny (model P w) callerA (.call (.ref fa) ⟨[.ref a],[]⟩) (λr s'=>r=.ok (.ret (.bool true))/\OldK s₁.heap s'.heap/\s'.os=s₁.os/\AllBare s'.gens) s₁:=by
  intro H hO hS hok hA hK
  have base_of:∀ {b:Addr}{o:Obj},s₁.heap.get? b=some o->H b=none->(hidT s₁.heap H).get? b=some o:=λe n=>hidT_get e n
  have noA:∀ {b:Addr}{o:Obj}{es:Array DictEntry}{ep:Nat},s₁.heap.get? b=some o->o.data=.dict es ep->H b=none:=λ{b o es ep} e d=>by
   cases q:H b with
   |none=>rfl
   |some u=>
    have e':b=a:=hA b (by rw [q];simp)
    subst e'
    rw [ha] at e;cases e
    have d':Data.seq vs.toArray _=Data.dict es ep:=d
    cases d'
  have nsK:∀ {b:Addr}{m:Str->Option Value},s₁.heap.Ns b m->(hidT s₁.heap H).Ns b m:=λ{b m} ⟨o,es,ep,e,d,r⟩=>⟨o,es,ep,base_of e (noA e d),d,r⟩
  have hKb:K.In (hidT s₁.heap H):=λb o e=>base_of (KX b o e) (by
   cases q:H b with
   |none=>rfl
   |some u=>
    have e':b=a:=hA b (by rw [q];simp)
    subst e'
    rw [hK (by rw [q];simp)] at e;cases e)
  have hM:Mod K mg (hidT s₁.heap H):=⟨hKb,nsK hns,⟨mb,nsK hb,hbb⟩,let ⟨mc,h1,h2⟩:=hlim;⟨mc,nsK h1,h2⟩⟩
  have e0:Env0 P w K mg (hidT s₁.heap H) callerA [] s₁ H:=⟨rfl,hM,λb o e=>of_hidT e,Nat.le_of_eq (hidT_size _ _),trivial,λb hb=>absurd (show b∈([]:List Addr) from hb) (by simp),hok,.of_eq hg⟩
  refine codeAny_mono ((F _ hKb (nsK hns)).run callerA [] s₁ H ⟨[.ref a],[]⟩ [.ref a] [.ref a] _ _ hr e0 (hbind s₁ (.ref a)) (.cons rfl .nil) (hsp H hO hS)) λr s' h=>?_
  cases r with
  |error e=>exact (hCX H e s' h).elim
  |ok fl=>
   cases fl with
   |next=>exact False.elim h
   |brk=>exact False.elim h
   |cont=>exact False.elim h
   |ret u=>
    obtain ⟨v,H',os,bare,un,hok',r',q⟩:=h
    have q':v=.bl true:=q
    subst q'
    obtain rfl:u=Value.bool true:=r'
    refine ⟨rfl,OldK.of_keep λb o e=>?_,os,bare⟩
    cases q:H b with
    |none=>exact un.keep b o e q (by intro z;exact absurd (show b∈([]:List Addr) from z) (by simp)) (by simp)
    |some u=>
     rcases hO b with z|⟨ob,xs,z⟩
     ·rw [q] at z;cases z
     ·have z2:=un.frzs b ob _ z
      obtain ⟨e1,_⟩:=hok b _ z
      obtain ⟨e2,_⟩:=hok' b _ z2
      rw [e] at e1;cases e1
      exact e2
 cases hk:K.lookup a with
 |some o=>
  have e:=KX a o hk
  rw [ha] at e
  cases e
  refine core (λ_=>none) (λ_=>.inl rfl) (.inr ⟨_,vs.toArray,_,hk,rfl,rfl,rfl,by rw [List.size_toArray,lenV];exact hl,by simpa using rv⟩) (λb u z=>by have z':(none:Option HO)=some u:=z;cases z') (λb z=>absurd rfl z) λz=>absurd rfl z
 |none=>
  refine core (λb=>if b=a then some (.frz { cls:=.type "list",data:=.seq vs.toArray } (.lst (ns.map V.int))) else none) (λb=>?_) (.inl (.inr ⟨{ cls:=.type "list",data:=.seq vs.toArray },if_pos rfl⟩)) (λb u z=>?_) (λb z=>?_) λ_=>hk
  ·by_cases hb:b=a
   ·exact .inr ⟨_,_,if_pos hb⟩
   ·exact .inl (if_neg hb)
  ·by_cases hb:b=a
   ·have z':=(if_pos hb).symm.trans z
    cases z'
    subst hb
    exact ⟨ha,by rw [List.length_map];exact hl,vs,_,rv,ha⟩
   ·have z':=(if_neg hb).symm.trans z
    cases z'
  ·by_cases hb:b=a
   ·exact hb
   ·exact absurd (if_neg hb) z
end L2
namespace L2
open PySem PySem.Spec PyProof.Rows
theorem walk_of {l:PySem.W.OpenLaw}{n k:Nat}{q:Program}{loose:List Str}{XP:(Str->Option Value)->Heap->Prop}{YP:World->Heap->Prop}{d:DefRec}{K:Params->PySem.W.Frag}{CX:World->CXT}{sp:World->Sp}{x:Str}
  (hn:l.most=some n) (hn2:n<=sizeLine) (hdf:d.params.defaults=[]) (hr:Room k callerA)
  (hY:∀ (w:World) (h:Heap),YP w h->(K w.params).In h)
  (F:∀ (w:World) (mg:Str->Option Value) (fa:Addr) (h:Heap),(K w.params).In h->h.Ns mainGlobals mg->mg d.name=some (.ref fa)->
   ∃ fd:FuncData,(∀ (s:Shared) (u:Value),BindsTo s fd ⟨[u],[]⟩ [(x,u)])/\
    ∀ base:Heap,(K w.params).In base->base.Ns mainGlobals mg->FnOk l.prog w (K w.params) mg base (CX w) k fa fd [x] (sp w))
  (hsp:∀ (w:World) (H:Hp) (a:Addr) (ns:List Int),ns.length<=n->Only H->SqL (K w.params) H a (ns.map V.int)->sp w [.ref a] H (λv _=>v=.bl true) λ_ _ _=>False)
  (hCX:∀ (w:World) (H:Hp) (s:Shared) (e:Value) (s':Shared),CX w [] H s (λ_ _ _=>False) e s'->False) :
  PySem.W.WalkO q loose XP YP l.row.toRowW d [] (λf vs=>PySem.call f vs):=by
 refine Att.attach_call hn hdf λw s₀ s₁ mg mb fa o pm cd doc a vs ns G Y ho hd hcd hmg hobj hints hlen hg=>?_
 have KX:=hY w _ Y
 obtain ⟨fd,hb,hF⟩:=F w mg fa _ KX G.T.g hmg
 exact law_call KX G.T.g G.T.b G.T.builtins G.T.nolimit hg hobj hints (Nat.le_trans hlen hn2) hr hF hb (λH hO hS=>hsp w H a ns hlen hO hS) λH e s'=>hCX w H s₁ e s'
end L2
namespace L2
open PySem PySem.Spec PyProof.Rows
def inClass (s:Stmt) (j:Nat):Stmt:=match s with
 | .ClassDef _ _ _ body _ _ _ _ _ _ _=>body.getD j (.Pass ⟨0,0,0,0⟩)
 |_=>.Pass ⟨0,0,0,0⟩
def defArgs (s:Stmt):Arguments:=match s with
 | .FunctionDef _ a _ _ _ _ _ _ _ _=>a
 |_=>{ posonlyargs:=[],args:=[],vararg:=none,kwonlyargs:=[],kw_defaults:=[],kwarg:=none,defaults:=[] }
def defBody (s:Stmt):List Stmt:=match s with
 | .FunctionDef _ _ b _ _ _ _ _ _ _=>b
 |_=>[]
def defScope (s:Stmt):Scope:=match s with
 | .FunctionDef _ _ _ _ _ _ sc _ _ _=>sc
 |_=>{ kind:=.function,names:=[],isGenerator:=false,isCoroutine:=false }
abbrev CX0:CXT:=λ_ _ _ _ _ _=>False
abbrev E0:XK:=λ_ _ _=>False
theorem pass0 {X:Cx}:Passes CX0 X E0:=λ_ _ _ _ _ _ _ h=>h.elim
structure Fun (K:PySem.W.Frag) (x qual:Str) (st:Stmt) (f:Addr) (fd:FuncData):Prop where
 ex:∃ (oc:Value) (od:Option Addr) (kV doc pm:Value) (an:Option Addr) (cdv ct:Value) (osl:Array (Option Value)),
  fd=PySem.W.fnOf x qual (defArgs st) (defBody st) (defScope st) .none kV doc pm an cdv ct/\K.lookup f=some ⟨oc,od,.func fd,osl⟩/\PySem.W.codeIn K cdv qual=true
 kp:PySem.W.keepIn K (.ref f)=true
section
variable {P:Program}{w:World}{K:PySem.W.Frag}{mg:Str->Option Value}{base:Heap}
theorem Fun.ok {x qual:Str}{st:Stmt}{f:Addr}{fd:FuncData}{N ps:List Str}{k:Nat}{sp:Sp} (F:Fun K x qual st f fd) (S:FnScope N ps (defScope st)) (len:∀ vs H Q E,sp vs H Q E->vs.length=ps.length)
  (hbody:∀ (cdv:Value) (A:Around) (outer:List Env) (s:Shared) (H:Hp) (vs:List V) (Q:VK) (E:XK),Room k (A.deeper (envOfC qual (defScope st) s.heap.objs.size f cdv))->sp vs H Q E->
   ∃ t,PSs (cxOf CX0 P w K mg base N qual (defScope st) f cdv A outer s H E).nox (defBody st) t/\t { nx:=λ_ H'=>Q .non H',rt:=Q } (start N vs) H):FnOk P w K mg base CX0 (k+1) f fd ps sp:=by
 obtain ⟨oc,od,kV,doc,pm,an,cdv,ct,osl,rfl,lk,hcd⟩:=F.ex
 refine fn_of lk hcd S len λA outer s H vs Q E hr hsp=>?_
 obtain ⟨t,h,q⟩:=hbody cdv A outer s H vs Q E hr hsp
 exact ⟨t,h.nox,q⟩
theorem Fun.binds {x qual:Str}{st:Stmt}{f:Addr}{fd:FuncData}{ps:List Str} (F:Fun K x qual st f fd)
  (h:∀ (kV doc pm:Value) (an:Option Addr) (cdv ct:Value) (us:List Value),us.length=ps.length->bindArgs (PySem.W.fnOf x qual (defArgs st) (defBody st) (defScope st) .none kV doc pm an cdv ct) ⟨us,[]⟩=pure (ps.zip us)):Binds K fd ps []:=by
 obtain ⟨oc,od,kV,doc,pm,an,cdv,ct,osl,rfl,lk,hcd⟩:=F.ex
 exact .all (h kV doc pm an cdv ct)
theorem fun_mk {x qual:Str}{st:Stmt}{f:Addr}{oc:Value}{od an:Option Addr}{osl:Array (Option Value)}{kV doc pm cdv ct:Value} (l:K.lookup f=some ⟨oc,od,.func (PySem.W.fnOf x qual (defArgs st) (defBody st) (defScope st) .none kV doc pm an cdv ct),osl⟩)
  (c:PySem.W.codeIn K cdv qual=true) (k:PySem.W.keepIn K (.ref f)=true):Fun K x qual st f (PySem.W.fnOf x qual (defArgs st) (defBody st) (defScope st) .none kV doc pm an cdv ct):=⟨⟨oc,od,kV,doc,pm,an,cdv,ct,osl,rfl,l,c⟩,k⟩
end
section
variable {X:Cx}
theorem pv (i:Nat) {x:Str}{pos:Pos} (hN:X.N[i]?=some x:=by rfl) (hv:Vis X.env.scope x:=by first|exact Or.inl rfl|exact Or.inr (Or.inl rfl)|exact Or.inr (Or.inr rfl)) (hd:(x == ("__debug__":Str))=false:=by decide)
  (hcd:(x == ("__classdict__":Str))=false:=by decide):PE X (.Name x pos) (tVar i):=pe_var hN hv hd hcd
end
theorem iteF {A B:Prop} (h:B):if false=true then A else B:=by
 rw [if_neg Bool.false_ne_true]
 exact h
theorem iteT {A B:Prop} (h:A):if true=true then A else B:=by
 rw [if_pos rfl]
 exact h
theorem ite2 {c A B:Prop} [Decidable c] (h1:c->A) (h2:¬ c->B):if c then A else B:=by
 by_cases h:c
 ·rw [if_pos h]
  exact h1 h
 ·rw [if_neg h]
  exact h2 h
theorem iteNS {c A B:Prop} [Decidable c] (hc:c) (h:B):if (!decide c)=true then A else B:=by
 rw [decide_eq_true hc]
 exact iteF h
def Same (H H':Hp):Prop:=∀ b o,H b=some o->H' b=some o
theorem Same.trans {H H1 H2:Hp} (a:Same H H1) (b:Same H1 H2):Same H H2:=λc o h=>b c o (a c o h)
theorem Same.free {H H':Hp} (e:Same H H') {l:Addr} (h:H' l=Option.none):H l=Option.none:=by
 cases q:H l with
 |none=>rfl
 |some o=>
  rw [e l o q] at h
  cases h
theorem Same.seq {K:PySem.W.Frag}{H H':Hp}{a:Addr}{xs:List V} (e:Same H H') (h:SqL K H a xs):SqL K H' a xs:=by
 rcases h with (h|⟨o,h⟩)|h
 ·exact .inl (.inl (e _ _ h))
 ·exact .inl (.inr ⟨o,e _ _ h⟩)
 ·exact .inr h
end L2
namespace L2
open PySem PySem.Spec PyProof.Rows
section
variable {κ:Type} [DecidableEq κ]
def valV (kvs:List (κ×V)) (k:κ):Option V:=(kvs.find? λkv=>decide (kv.1=k)).map (·.2)
def putK (kvs:List (κ×V)) (k:κ) (v:V):List (κ×V):=
 if (kvs.any λkv=>decide (kv.1=k))=true then kvs.map (λkv=>if kv.1=k then (kv.1,v) else kv) else kvs++[(k,v)]
theorem valV_pos {p:κ×V}{r:List (κ×V)}{k:κ} (e:p.1=k):valV (p::r) k=some p.2:=by simp [valV,List.find?_cons,e]
theorem valV_neg {p:κ×V}{r:List (κ×V)}{k:κ} (e:¬ p.1=k):valV (p::r) k=valV r k:=by simp [valV,List.find?_cons,e]
theorem valV_any (k:κ):∀ kvs:List (κ×V),(kvs.any λkv=>decide (kv.1=k))=(valV kvs k).isSome
 | []=>rfl
 |p::r=>by
  rw [List.any_cons]
  by_cases e:p.1=k
  ·simp only [valV_pos e,decide_eq_true e,Bool.true_or,Option.isSome_some]
  ·rw [valV_neg e,decide_eq_false e,Bool.false_or];exact valV_any k r
theorem length_putK (kvs:List (κ×V)) (k:κ) (v:V):(putK kvs k v).length<=kvs.length+1:=by
 unfold putK
 split
 ·rw [List.length_map];omega
 ·rw [List.length_append,List.length_cons,List.length_nil];omega
theorem RelO.isSome_eq {o:Option V}{u:Option Value} (r:RelO o u):o.isSome=u.isSome:=by
 cases o with
 |none=>cases u with
  |none=>rfl
  |some _=>exact (show False from r).elim
 |some _=>cases u with
  |none=>exact (show False from r).elim
  |some _=>rfl
theorem RelO.getD {o:Option V}{u:Option Value}{d:V}{d':Value} (r:RelO o u) (rd:RelV d d'):RelV (o.getD d) (u.getD d'):=by
 cases o with
 |none=>cases u with
  |none=>exact rd
  |some _=>exact (show False from r).elim
 |some _=>cases u with
  |none=>exact (show False from r).elim
  |some _=>exact r
theorem KV.val {kvs:List (κ×V)}{vs:List (κ×Value)} (r:KV kvs vs) (k:κ):RelO (valV kvs k) (valueAt vs k):=by
 unfold KV at r
 induction r with
 |nil=>exact True.intro
 | @cons p q ps qs h t ih=>
  obtain ⟨h1,h2⟩:=h
  by_cases e:p.1=k
  ·have e':q.1=k:=h1.symm.trans e
   have b:valueAt (q::qs) k=some q.2:=by simp [valueAt,List.find?_cons,e']
   rw [valV_pos e,b];exact h2
  ·have e':¬ q.1=k:=λz=>e (h1.trans z)
   have b:valueAt (q::qs) k=valueAt qs k:=by simp [valueAt,List.find?_cons,e']
   rw [valV_neg e,b];exact ih
theorem KV.any {kvs:List (κ×V)}{vs:List (κ×Value)} (r:KV kvs vs) (k:κ):(kvs.any λkv=>decide (kv.1=k))=vs.any λkv=>decide (kv.1=k):=by
 unfold KV at r
 induction r with
 |nil=>rfl
 |cons h t ih=>rw [List.any_cons,List.any_cons,ih,h.1]
theorem KV.repl {kvs:List (κ×V)}{vs:List (κ×Value)} (r:KV kvs vs) (k:κ) {y:V}{u:Value} (ry:RelV y u) :
  KV (kvs.map λkv=>if kv.1=k then (kv.1,y) else kv) (vs.map λkv=>if kv.1=k then (kv.1,u) else kv):=by
 unfold KV at r ⊢
 induction r with
 |nil=>exact .nil
 | @cons p q ps qs h t ih=>
  rw [List.map_cons,List.map_cons]
  refine .cons ?_ ih
  obtain ⟨h1,h2⟩:=h
  by_cases e:p.1=k
  ·rw [if_pos e,if_pos (h1.symm.trans e)];exact ⟨h1,ry⟩
  ·rw [if_neg e,if_neg (λz=>e (h1.trans z))];exact ⟨h1,h2⟩
theorem KV.put {kvs:List (κ×V)}{vs:List (κ×Value)} (r:KV kvs vs) (k:κ) {y:V}{u:Value} (ry:RelV y u):KV (putK kvs k y) (stored vs k u):=by
 unfold putK stored
 rw [r.any k]
 by_cases e:(vs.any λkv=>decide (kv.1=k))=true
 ·rw [if_pos e,if_pos e];exact r.repl k ry
 ·rw [if_neg e,if_neg e];exact Paired.snoc r ⟨rfl,ry⟩
theorem KV.length {kvs:List (κ×V)}{vs:List (κ×Value)} (r:KV kvs vs):kvs.length=vs.length:=Paired.length r
end
theorem kV_is {P:Program}{w:World}{k:Key}{u:Value} (r:RelV (kV k) u):(mixKind P w).is k u=true:=by
 cases k with
 |inl i=>obtain ⟨t,e⟩:=(show ∃ t,u=Value.int i t from r);subst e;exact mixKind_int P w i t
 |inr x=>obtain ⟨t,e⟩:=(show ∃ t,u=Value.str x t from r);subst e;exact mixKind_str P w x t
theorem items_are {P:Program}{w:World}:∀ {ks:List Key}{us:List Value},Vals (ks.map kV) us->ItemsAre (mixKind P w) ks us
 | [],_,r=>by rw [List.map_nil] at r;cases r;exact .nil
 |k::ks,_,r=>by
  rw [List.map_cons] at r
  cases r with
  |cons h t=>exact .cons (kV_is h) (items_are t)
abbrev KT (H:Hp):List (List Key×V)->List (List Key×Addr×Value)->Prop:=Paired λp q=>p.1=q.1/\H q.2.1=some (.tup (p.1.map kV))/\RelV p.2 q.2.2
theorem KT.val {H:Hp}{kvs:List (List Key×V)}{xs:List (List Key×Addr×Value)} (r:KT H kvs xs) (k:List Key):RelO (valV kvs k) ((atKey xs k).map (·.2)):=by
 induction r with
 |nil=>exact True.intro
 | @cons p q ps qs h t ih=>
  obtain ⟨h1,_,h2⟩:=h
  by_cases e:p.1=k
  ·have e':q.1=k:=h1.symm.trans e
   have b:atKey (q::qs) k=some q.2:=by simp [atKey,List.find?_cons,e']
   rw [valV_pos e,b];exact h2
  ·have e':¬ q.1=k:=λz=>e (h1.trans z)
   have b:atKey (q::qs) k=atKey qs k:=by simp [atKey,List.find?_cons,e']
   rw [valV_neg e,b];exact ih
theorem KT.repl {H:Hp}{kvs:List (List Key×V)}{xs:List (List Key×Addr×Value)} (r:KT H kvs xs) (k:List Key) {y:V}{u:Value} (ry:RelV y u) :
  KT H (kvs.map λkv=>if kv.1=k then (kv.1,y) else kv) (xs.map (putAt k u)):=by
 induction r with
 |nil=>exact .nil
 | @cons p q ps qs h t ih=>
  rw [List.map_cons,List.map_cons]
  refine .cons ?_ ih
  obtain ⟨h1,h2,h3⟩:=h
  unfold putAt
  by_cases e:p.1=k
  ·rw [if_pos e,if_pos (h1.symm.trans e)];exact ⟨h1,h2,ry⟩
  ·rw [if_neg e,if_neg (λz=>e (h1.trans z))];exact ⟨h1,h2,h3⟩
theorem KT.put {H:Hp}{kvs:List (List Key×V)}{xs:List (List Key×Addr×Value)} (r:KT H kvs xs) (k:List Key) {b:Addr}{y:V}{u:Value} (hb:H b=some (.tup (k.map kV))) (ry:RelV y u) :
  KT H (putK kvs k y) (storedH xs k b u):=by
 have e:(kvs.any λkv=>decide (kv.1=k))=(atKey xs k).isSome:=by
  rw [valV_any,(r.val k).isSome_eq,Option.isSome_map]
 unfold putK storedH
 rw [e]
 by_cases q:(atKey xs k).isSome=true
 ·rw [if_pos q,if_pos q];exact r.repl k ry
 ·rw [if_neg q,if_neg q];exact Paired.snoc r ⟨rfl,hb,ry⟩
theorem KT.keeps {H H':Hp}{kvs:List (List Key×V)}{xs:List (List Key×Addr×Value)} (r:KT H kvs xs) (ht:∀ b ys,H b=some (.tup ys)->H' b=some (.tup ys)):KT H' kvs xs:=
 Paired.mapP r λ_ _ z=>⟨z.1,ht _ _ z.2.1,z.2.2⟩
section
variable {P:Program}{w:World}{H:Hp}{h:Heap}{a:Addr}
theorem rd_of {u:HO} (ok:HOk P w H h) (e:Rd H a u):ObjOk P w H h a u:=e.ok ok
theorem dk_rd {kvs:List (Key×V)} (ok:HOk P w H h) (e:Rd H a (.dK kvs)):kvs.length<=sizeLine/\(a == sysModules)=false/\∃ vs,KV kvs vs/\h.DictOf (mixKind P w) a vs:=
 show ObjOk P w H h a (.dK kvs) from rd_of ok e
theorem dk_of {kvs:List (Key×V)} (ok:HOk P w H h) (e:H a=some (.dK kvs)):kvs.length<=sizeLine/\(a == sysModules)=false/\∃ vs,KV kvs vs/\h.DictOf (mixKind P w) a vs:=dk_rd ok (.inl e)
theorem key_of {ks:List Key} (ok:HOk P w H h) (e:H a=some (.tup (ks.map kV))):(tupleKind (mixKind P w)).is h ks a:=by
 obtain ⟨_,its,r,o,h1,h2,n,h3⟩:=(show ObjOk P w H h a (.tup (ks.map kV)) from ok a _ e)
 exact ⟨o,its.toArray,n,h1,h2,h3,by simpa using items_are r⟩
theorem dt_rd {kvs:List (List Key×V)} (ok:HOk P w H h) (e:Rd H a (.dT kvs)):kvs.length<=sizeLine/\(a == sysModules)=false/\
  ∃ xs,KT H kvs xs/\h.DictOfH (tupleKind (mixKind P w)) a xs:=by
 obtain ⟨z,y,xs,r,o,es,ep,h1,h2,h3,h4,h5⟩:=(show ObjOk P w H h a (.dT kvs) from rd_of ok e)
 refine ⟨z,y,xs,r,o,es,ep,h1,h2,h3,h4,λx hx=>?_,h5⟩
 have all:∀ {l:List (List Key×V)}{m:List (List Key×Addr×Value)},KT H l m->∀ x∈m,(tupleKind (mixKind P w)).is h x.1 x.2.1:=by
  intro l m q
  induction q with
  |nil=>intro x hx;exact nomatch hx
  | @cons p q ps qs hq t ih=>
   intro x hx
   rcases List.mem_cons.mp hx with e|hx
   ·subst e
    exact key_of ok (by rw [<-hq.1];exact hq.2.1)
   ·exact ih x hx
 exact all r x hx
theorem dt_of {kvs:List (List Key×V)} (ok:HOk P w H h) (e:H a=some (.dT kvs)):kvs.length<=sizeLine/\(a == sysModules)=false/\
  ∃ xs,KT H kvs xs/\h.DictOfH (tupleKind (mixKind P w)) a xs:=dt_rd ok (.inl e)
end
def DGet (H:Hp) (a:Addr) (y:V) (r:Option V):Prop:=
 (∃ kvs k,Rd H a (.dK kvs)/\y=kV k/\r=valV kvs k)∨∃ kvs k b,Rd H a (.dT kvs)/\y=.ref b/\H b=some (.tup (k.map kV))/\r=valV kvs k
def DPut (H:Hp) (a:Addr) (y v:V) (H':Hp):Prop:=
 (∃ kvs k,H a=some (.dK kvs)/\y=kV k/\kvs.length<sizeLine/\H'=upd H a (.dK (putK kvs k v))) ∨
 ∃ kvs k b,H a=some (.dT kvs)/\y=.ref b/\H b=some (.tup (k.map kV))/\kvs.length<sizeLine/\H'=upd H a (.dT (putK kvs k v))
theorem DGet.k {H:Hp}{a:Addr}{kvs:List (Key×V)}{k:Key} (e:H a=some (.dK kvs)):DGet H a (kV k) (valV kvs k):=.inl ⟨kvs,k,.inl e,rfl,rfl⟩
theorem DPut.k {H:Hp}{a:Addr}{kvs:List (Key×V)}{k:Key}{v:V} (e:H a=some (.dK kvs)) (hl:kvs.length<sizeLine):DPut H a (kV k) v (upd H a (.dK (putK kvs k v))):=.inl ⟨kvs,k,e,rfl,hl,rfl⟩
section
variable {X:Cx}{pins:List (Addr×Obj)}{σ:St}{H:Hp}{s:Shared}{a:Addr}{y v:V}{u r:Value}{o:Option V}{A:Around}{E:Value->Shared->Prop}
theorem Inv.big (I:Inv X pins σ H s):sysModules<s.heap.objs.size:=by
 have h:mainGlobals<s.heap.objs.size:=(I.mod.glob.keeps I.bk).lt
 exact Nat.lt_trans (by decide) h
theorem d_getItem {Q:Value->Shared->Prop} (hu:A.units+1<cLine) (I:Inv X pins σ H s) (g:DGet H a y (some v)) (ry:RelV y u) (h:∀ w' s',Inv X pins σ H s'->RelV v w'->Q w' s') :
  wpAny (model X.prog X.w) A (getItem (.ref a) u) Q E s:=by
 rcases g with ⟨kvs,k,e,ey,l⟩|⟨kvs,k,b,e,ey,eb,l⟩
 ·subst ey
  obtain ⟨z,hd,vs,rel,dd⟩:=dk_rd I.hok e
  obtain ⟨w',hw,rw'⟩:=RelO.some_of (v:=v) (o:=valueAt vs k) (by rw [l];exact rel.val k)
  exact wpAny_getItem_of (kV_is ry) dd.mapOf hw (h w' _ (I.tok _) rw')
 ·subst ey
  cases (show u=Value.ref b from ry)
  obtain ⟨z,hd,xs,rel,dd⟩:=dt_rd I.hok e
  obtain ⟨w',hw,rw'⟩:=RelO.some_of (v:=v) (o:=(atKey xs k).map (·.2)) (by rw [l];exact rel.val k)
  obtain ⟨p,hp,hp2⟩:=Option.map_eq_some_iff.mp hw
  refine wpAny_getItem_heap (tupleKind_room_in1 hu) (key_of I.hok eb) dd hp ?_
  rw [hp2]
  exact h w' _ (I.tok _) rw'
theorem d_notIn {Q:Value->Shared->Prop} (hu:A.units+1<cLine) (I:Inv X pins σ H s) (g:DGet H a y o) (ry:RelV y u) (h:∀ s',Inv X pins σ H s'->Q (.bool (!o.isSome)) s') :
  wpAny (model X.prog X.w) A (compareOp .NotIn u (.ref a)) Q E s:=by
 rcases g with ⟨kvs,k,e,ey,l⟩|⟨kvs,k,b,e,ey,eb,l⟩
 ·subst ey
  obtain ⟨z,hd,vs,rel,dd⟩:=dk_rd I.hok e
  refine wpAny_notIn_of (kV_is ry) hd dd.mapOf ?_
  rw [<-(rel.val k).isSome_eq,<-l]
  exact h _ (I.tok _)
 ·subst ey
  cases (show u=Value.ref b from ry)
  obtain ⟨z,hd,xs,rel,dd⟩:=dt_rd I.hok e
  refine wpAny_notIn_heap (tupleKind_room_in1 hu) (key_of I.hok eb) hd dd ?_
  have q:=(rel.val k).isSome_eq
  rw [Option.isSome_map] at q
  rw [<-q,<-l]
  exact h _ (I.tok _)
theorem d_write {h':Heap}{t':Nat}{ob:HO} (I:Inv X pins σ H s) (mu:Mut (H a)) (hs:Heap.SameBut a s.heap h') (he:∃ q,h'.get? a=some q) (new:ObjOk X.prog X.w (upd H a ob) h' a ob) :
  Inv X pins σ (upd H a ob) { s with heap:=h',toks:=t' }:=
 I.write (x:=a) (e:=a) mu (.inl rfl) (λb q hb z=>(hs.2 b hb).trans z) he new
theorem dk_new {P:Program}{w:World}{H':Hp}{h':Heap}{kvs:List (Key×V)}{vs:List (Key×Value)} (z:kvs.length<=sizeLine) (hd:(a == sysModules)=false) (rel:KV kvs vs) (dd:h'.DictOf (mixKind P w) a vs) :
  ObjOk P w H' h' a (.dK kvs):=⟨z,hd,vs,rel,dd⟩
theorem d_setItem {H':Hp}{Q:Unit->Shared->Prop} (hu:A.units+1<cLine) (I:Inv X pins σ H s) (g:DPut H a y v H') (ry:RelV y u) (rv:RelV v r) (h:∀ s',Inv X pins σ H' s'->Q () s') :
  wpAny (model X.prog X.w) A (setItem (.ref a) u r) Q E s:=by
 rcases g with ⟨kvs,k,e,ey,l,eH⟩|⟨kvs,k,b,e,ey,eb,l,eH⟩
 ·subst ey eH
  obtain ⟨z,hd,vs,rel,dd⟩:=dk_of I.hok e
  have hz:vs.length<=sizeLine:=by rw [<-rel.length];exact z
  have hl:(putK kvs k v).length<=sizeLine:=by have:=length_putK kvs k v;omega
  refine wpAny_setItem_pairs (hsz:=hz) (kV_is ry) dd λh' dd' hs=>h _ ?_
  have he:∃ q,h'.get? a=some q:=let ⟨q,_,_,hq,_⟩:=dd';⟨q,hq⟩
  exact d_write I (by rw [e];exact True.intro) hs he (dk_new hl hd (rel.put k rv) dd')
 ·subst ey eH
  cases (show u=Value.ref b from ry)
  obtain ⟨z,hd,xs,rel,dd⟩:=dt_of I.hok e
  have hz:xs.length<=sizeLine:=by rw [<-Paired.length rel];exact z
  have hl:(putK kvs k v).length<=sizeLine:=by have:=length_putK kvs k v;omega
  refine wpAny_setItem_heap (hsz:=hz) (tupleKind_room_in1 hu) (key_of I.hok eb) dd λh' dd' hs=>h _ ?_
  obtain ⟨q,es,ep,hq,h2,h3,h4,_,h5⟩:=dd'
  refine d_write I (by rw [e];exact True.intro) hs ⟨q,hq⟩ ⟨hl,hd,_,(rel.put k eb rv).keeps λc ys ec=>?_,q,es,ep,hq,h2,h3,h4,h5⟩
  rw [upd_ne (ne_of ec e (λz=>nomatch z))]
  exact ec
end
section
variable {X:Cx}{pins:List (Addr×Obj)}{σ:St}{H:Hp}{s:Shared}{a:Addr}{kvs:List (Key×V)}{k:Key}{u:Value}{A:Around}{E:Value->Shared->Prop}
end
def NoSl (i:Expr):Prop:=∀ ov iv,subscripted i false ov iv=operate [ov,iv] (getItem ov iv)
theorem subD_of {prog:Program}{w:World}{A:Around}{E:Value->Shared->Prop}{s:Shared}{env:Env}{value slice:Expr}{pos:Pos}{T id:String}{Q:Value->Shared->Prop}
  (hl:typeLookup (.type T) "__getitem__"=pure (some (.builtin id))) (hs:NoSl slice)
  (h:wpAny (model prog w) A (eval value env) (λo s₁=>wpAny (model prog w) A (eval slice env) (λi s₂=>s₂.TypeIs o T/\wpAny (model prog w) A (getItem o i) Q E s₂) E s₁) E s) :
  wpAny (model prog w) A (eval (.Subscript value slice pos) env) Q E s:=by
 refine Subscript_ (wpAny_mono h (λo s₁ h₁=>wpAny_mono h₁ (λi s₂ h₂=>?_) λ_ _ x=>x) λ_ _ x=>x)
 obtain ⟨hT,h₂⟩:=h₂
 unfold subscriptTail
 refine wpAny_bind ?_
 rw [getitemInPython_of_ne hT.not_modules]
 refine wpAny_bind (wpAny_specialOf hT hl ?_)
 have fin:wpAny (model prog w) A (subscripted slice false o i) (λr s₃=>wpAny (model prog w) A (letTemporaryGo value o r >>= λ_=>pure r) Q E s₃) E s₂:=by
  rw [hs o i]
  exact wpAny_operating (wpAny_mono h₂ (λr s₃ h₃=>wpAny_bind (wpAny_letTemporaryGo (wpAny_pure h₃))) λ_ _ x=>x)
 first
  |exact wpAny_pure (wpAny_bind fin)
  |exact wpAny_bind (wpAny_pure (wpAny_bind fin))
  |exact wpAny_bind fin
theorem dict_typeIs {X:Cx}{pins:List (Addr×Obj)}{σ:St}{H:Hp}{s:Shared}{a:Addr}{y:V}{o:Option V} (I:Inv X pins σ H s) (g:DGet H a y o):s.TypeIs (.ref a) "dict":=by
 rcases g with ⟨kvs,k,e,_,_⟩|⟨kvs,k,b,e,_,_,_⟩
 ·obtain ⟨_,_,vs,_,dd⟩:=dk_rd I.hok e
  exact dd.typeIs
 ·obtain ⟨_,_,xs,_,dd⟩:=dt_rd I.hok e
  exact dd.typeIs
def tDGet (td ty:TE):TE:=fun σ H Q=>td σ H λx H1=>ty σ H1 λy H2=>∃ a v,x=.ref a/\DGet H2 a y (some v)/\Q v H2
def tDNotIn (ty td:TE):TE:=fun σ H Q=>ty σ H λy H1=>td σ H1 λx H2=>∃ a o,x=.ref a/\DGet H2 a y o/\Q (.bl (!o.isSome)) H2
def sDPut (td ty tv:TE):TS:=λD σ H=>tv σ H λv H1=>td σ H1 λx H2=>ty σ H2 λy H3=>∃ a H4,x=.ref a/\DPut H3 a y v H4/\D.nx σ H4
section
variable {X:Cx}{o i e value:Expr}{pos pos' tpos:Pos}{td ty tv:TE}
theorem pe_dget (hu:X.A.units+1<cLine) (ho:PE X o td) (hi:PE X i ty) (hs:NoSl i):PE X (.Subscript o i pos) (tDGet td ty):=by
 intro pins s σ H Q I h
 refine subD_of PySem.F.slot_dict_getitem.lookup hs (thn (ho pins s σ H _ I h) λu s1 ⟨x,H1,I1,rx,q1⟩=>thn (hi pins s1 σ H1 _ I1 q1) λiv s2 ⟨y,H2,I2,ry,a,v,ex,g,q2⟩=>?_)
 subst ex
 obtain rfl:u=Value.ref a:=rx
 exact ⟨dict_typeIs I2 g,d_getItem hu I2 g ry λw' s3 I3 rw'=>⟨v,H2,I3,rw',q2⟩⟩
theorem pc_dnotin (hu:X.A.units+1<cLine) (hi:PE X i ty) (ho:PE X o td):PC X .NotIn i o (tDNotIn ty td):=by
 intro pins s σ H Q I h
 refine thn (hi pins s σ H _ I h) λiv s1 ⟨y,H1,I1,ry,q1⟩=>thn (ho pins s1 σ H1 _ I1 q1) λu s2 ⟨x,H2,I2,rx,a,ov,ex,g,q2⟩=>?_
 subst ex
 obtain rfl:u=Value.ref a:=rx
 exact d_notIn hu I2 g ry λs3 I3=>⟨.bl (!ov.isSome),H2,I3,rfl,q2⟩
theorem ps_dput (hu:X.A.units+1<cLine) (ho:PE X o td) (hi:PE X i ty) (hv:PE X value tv) (hs:swapsWith value (some (.Subscript o i pos')) pos.line X.env=pure false) :
  PS X (.Assign [.Subscript o i pos'] value pos) (sDPut td ty tv):=by
 intro pins s σ H D I h
 refine wpAny_Assign_Subscript (thn (hv pins s σ H _ I h) λr s1 ⟨v,H1,I1,rv,q1⟩=>thn (ho pins s1 σ H1 _ I1 q1) λu s2 ⟨x,H2,I2,rx,q2⟩=>thn (hi pins s2 σ H2 _ I2 q2) λiv s3 ⟨y,H3,I3,ry,a,H4,ex,g,q3⟩=>?_) hs
 subst ex
 obtain rfl:u=Value.ref a:=rx
 exact d_setItem hu I3 g ry rv λs4 I4=>⟨σ,H4,I4,q3⟩
end
theorem dk_empty {P:Program}{w:World}{H:Hp} (h:Heap) (hb:sysModules<h.objs.size):ObjOk P w H (h.push { cls:=.type "dict",data:=.dict #[] }) h.objs.size (.dK []):=
 ⟨Nat.zero_le _,beq_eq_false_iff_ne.mpr (Ne.symm (Nat.ne_of_lt hb)),[],.nil,Heap.DictOf.new h⟩
def tDNewK:TE:=λ_ H Q=>∀ p,H p=none->Q (.ref p) (upd H p (.dK []))
section
variable {X:Cx}{pos:Pos}
theorem pe_dnewK:PE X (.Dict [] [] pos) tDNewK:=λpins s σ H Q I h=>
 wpAny_Dict_empty ⟨.ref s.heap.objs.size,_,I.laid (a:=s.heap.objs.size) (o:=.dK []) (t':=s.toks) (λ_ _ q=>Heap.get?_push_of_some _ q) (Nat.le_refl _) (dk_empty s.heap I.big),rfl,h _ (I.hok.fresh (Nat.le_refl _))⟩
end
structure M1 (X:Cx) (o:Expr) (m:Str) (apos:Pos) (e:Expr) (cpos:Pos):Prop where
 base:attributeBase o m X.env (eval o X.env)=eval o X.env
 few:((backTo cpos (starEach [e] X.env)).all (λx=>!x.1) && (backToKw cpos (keywordEach [] X.env)).all (λx=>x.1.isSome)
  && decide (([e]:List Expr).length+([]:List Keyword).length+(if ([]:List Keyword).isEmpty then 0 else 1)<30))=true
 line:(apos.endLine == cpos.line)=true
 trees:backTo cpos (starEach [e] X.env)=[(false,eval e X.env)]
def IsD (H:Hp) (a:Addr):Prop:=(∃ kvs,Rd H a (.dK kvs))∨∃ kvs,Rd H a (.dT kvs)
theorem isD_at {X:Cx}{pins:List (Addr×Obj)}{σ:St}{H:Hp}{s:Shared}{a:Addr} (I:Inv X pins σ H s) (d:IsD H a) :
  s.TypeIs (.ref a) "dict"/\(∀ b,Value.ref a=.ref b->∃ ob,s.heap.get? b=some ob/\ob.dict=none)/\(a == sysModules)=false:=by
 rcases d with ⟨kvs,e⟩|⟨kvs,e⟩
 ·obtain ⟨_,hd,vs,_,dd⟩:=dk_rd I.hok e
  refine ⟨dd.typeIs,λb q=>?_,hd⟩
  cases q
  obtain ⟨ob,_,_,h1,h2,_⟩:=dd
  exact ⟨ob,h1,h2.2.1⟩
 ·obtain ⟨_,hd,xs,_,dd⟩:=dt_rd I.hok e
  refine ⟨dd.typeIs,λb q=>?_,hd⟩
  cases q
  obtain ⟨ob,_,_,h1,h2,_⟩:=dd
  exact ⟨ob,h1,h2.2.1⟩
section
variable {X:Cx}{pins:List (Addr×Obj)}{σ:St}{H:Hp}{s:Shared}{a:Addr}{y d:V}{u r:Value}{o:Option V}{A:Around}{E:Value->Shared->Prop}
theorem d_get1 {Q:Value->Shared->Prop} (hu:A.units+1<cLine) (I:Inv X pins σ H s) (g:DGet H a y o) (ry:RelV y u) (h:∀ w' s',Inv X pins σ H s'->RelV (o.getD .non) w'->Q w' s') :
  wpAny (model X.prog X.w) A (call (.builtin "dict.get") [.ref a,u]) Q E s:=by
 rcases g with ⟨kvs,k,e,ey,l⟩|⟨kvs,k,b,e,ey,eb,l⟩
 ·subst ey
  obtain ⟨z,hd,vs,rel,dd⟩:=dk_rd I.hok e
  refine call_meetsIn PySem.F.slot_dict_get dd.typeIs PySem.F.entry_dict_get (PySem.F.args_dict_get_2 _ _) (meets_dict_get (mixKind X.prog X.w) a (kV_is ry) hd) ⟨_,dd.mapOf,h _ _ (I.tok _) ?_⟩
  rw [l]
  exact (rel.val k).getD rfl
 ·subst ey
  cases (show u=Value.ref b from ry)
  obtain ⟨z,hd,xs,rel,dd⟩:=dt_rd I.hok e
  refine call_meetsIn PySem.F.slot_dict_get dd.typeIs PySem.F.entry_dict_get (PySem.F.args_dict_get_2 _ _) (meetsH_dict_get (tupleKind (mixKind X.prog X.w)) a b hd) ⟨tupleKind_room_in1 hu,k,xs,key_of I.hok eb,dd,h _ _ (I.tok _) ?_⟩
  rw [l]
  exact (rel.val k).getD rfl
end
def tDGet1 (td ty:TE):TE:=fun σ H Q=>td σ H λx H1=>∃ a,x=.ref a/\IsD H1 a/\ty σ H1 λy H2=>∃ o,DGet H2 a y o/\Q (o.getD .non) H2
section
variable {X:Cx}{o e f:Expr}{apos cpos:Pos}{td ty tx:TE}
theorem pe_dget1 (hu:X.A.units+1<cLine) (ho:PE X o td) (he:PE X e ty) (m:M1 X o "get" apos e cpos):PE X (.Call (.Attribute o "get" apos) [e] [] cpos) (tDGet1 td ty):=by
 intro pins s σ H Q I h
 refine wpAny_Call_method m.base m.few m.line PySem.F.plainAttrs_dict PySem.F.slot_dict_get PySem.F.type_dict_get (thn (ho pins s σ H _ I h) λu s1 ⟨x,H1,I1,rx,a,ex,d,q1⟩=>?_)
 subst ex
 obtain rfl:u=Value.ref a:=rx
 obtain ⟨t1,t2,_⟩:=isD_at I1 d
 refine ⟨t1,t2,?_⟩
 rw [m.trees]
 refine Calls.callWith_builtin rfl (Calls.evalArgs_plain (Calls.spliced_cons (thn (he pins s1 σ H1 _ I1 q1) λiv s2 ⟨y,H2,I2,ry,ov,g,q2⟩=>Calls.spliced_nil ?_)))
 exact d_get1 hu I2 g ry λw' s3 I3 rw'=>⟨_,H2,I3,rw',q2⟩
end
section
variable {X:Cx}{pins:List (Addr×Obj)}{σ:St}{H:Hp}{s:Shared}{a:Addr}{kvs:List (Key×V)}{A:Around}{E:Value->Shared->Prop}
theorem d_copyOf {Q:Value->Shared->Prop} (I:Inv X pins σ H s) (e:Rd H a (.dK kvs)) (h:∀ p s',H p=none->Inv X pins σ (upd H p (.dK kvs)) s'->Q (.ref p) s'):wpAny (model X.prog X.w) A (call (.type "dict") [.ref a]) Q E s:=by
 obtain ⟨z,hd,vs,rel,dd⟩:=dk_rd I.hok e
 refine kt_call_dict hd dd (by rw [<-rel.length];exact z) λh' dd' hs=>?_
 refine h _ _ (I.hok.fresh (Nat.le_refl _)) (I.laid (a:=s.heap.objs.size) (o:=.dK kvs) (t':=s.toks) (λb q hq=>?_) (Nat.le_refl _) (dk_new z (beq_eq_false_iff_ne.mpr (Ne.symm (Nat.ne_of_lt I.big))) rel dd'))
 exact (hs.2 b (Nat.ne_of_lt (Heap.lt_size hq))).trans (Heap.get?_push_of_some _ hq)
end
section
variable {X:Cx}{pins:List (Addr×Obj)}{σ:St}{H:Hp}{s:Shared}{a:Addr}{y:V}{u:Value}{A:Around}{E:Value->Shared->Prop}
end
end L2
namespace L2
open PySem PySem.Spec PyProof.Rows
def clo (env:Env):List (Str×NameKind)->List (Str×Addr)->List (Str×Addr)
 | [],acc=>acc
 |nk::r,acc=>clo env r (if nk.2=.free then (nk.1,(env.cells.lookup nk.1).getD 0)::acc else acc)
theorem closure_clo {sc:Scope}{env:Env} (h:∀ x∈sc.names,x.2=.free->∃ c,env.cells.lookup x.1=some c):closureFor sc env=pure (clo env sc.names []):=by
 have all:∀ (names:List (Str×NameKind)) (acc:List (Str×Addr)),(∀ x∈names,x.2=.free->∃ c,env.cells.lookup x.1=some c)->
   (forIn names acc λ(x:Str×NameKind) (cs:List (Str×Addr))=>(do
    if (x.2 == NameKind.free)=true then do
      let c<-cellOf env x.1
      pure (ForInStep.yield ((x.1,c)::cs))
     else pure (ForInStep.yield cs):Sem (ForInStep (List (Str×Addr)))))=(pure (clo env names acc):Sem (List (Str×Addr))):=by
  intro names
  induction names with
  |nil=>intro acc _;rfl
  |cons nk r ih=>
   intro acc hh
   rw [List.forIn_cons]
   have hr:=ih (acc:=if nk.2=.free then (nk.1,(env.cells.lookup nk.1).getD 0)::acc else acc) λx hx=>hh x (List.mem_cons_of_mem _ hx)
   by_cases hk:nk.2=.free
   ·obtain ⟨c,hc⟩:=hh nk List.mem_cons_self hk
    have e1:(nk.2 == NameKind.free)=true:=by rw [hk];rfl
    rw [if_pos e1]
    rw [if_pos hk,hc] at hr
    have e2:cellOf env nk.1=pure c:=by unfold cellOf;rw [hc]
    rw [e2]
    have e3:clo env (nk::r) acc=clo env r ((nk.1,(some c).getD 0)::acc):=by
     show clo env r (if nk.2=.free then (nk.1,(env.cells.lookup nk.1).getD 0)::acc else acc)=_
     rw [if_pos hk,hc]
    rw [e3]
    exact hr
   ·have e1:¬ (nk.2 == NameKind.free)=true:=by
     intro z
     exact hk (by revert z;cases nk.2<;>intro z<;>first|rfl|exact absurd z (by decide))
    rw [if_neg e1]
    rw [if_neg hk] at hr
    have e3:clo env (nk::r) acc=clo env r acc:=by
     show clo env r (if nk.2=.free then (nk.1,(env.cells.lookup nk.1).getD 0)::acc else acc)=_
     rw [if_neg hk]
    rw [e3]
    exact hr
 have q:=all sc.names [] h
 unfold closureFor
 have q2:(forIn sc.names ([]:List (Str×Addr)) λ(x:Str×NameKind) (cs:List (Str×Addr))=>(do
    if (x.2 == NameKind.free)=true then do
      let c<-cellOf env x.1
      pure (ForInStep.yield ((x.1,c)::cs))
     else pure (ForInStep.yield cs):Sem (ForInStep (List (Str×Addr))))) >>= (λcs=>(pure cs:Sem (List (Str×Addr))))=pure (clo env sc.names []):=by
  rw [q];rfl
 exact q2
theorem clo_get {env:Env}{y:Str}{c:Addr}:∀ {names:List (Str×NameKind)}{acc:List (Str×Addr)},(∀ x∈names,x.2=.free->∃ c,env.cells.lookup x.1=some c)->
  (clo env names acc).lookup y=some c->acc.lookup y=some c∨env.cells.lookup y=some c
 | [],_,_,h=>.inl h
 |nk::r,acc,hh,h=>by
  have hr:∀ x∈r,x.2=.free->∃ c,env.cells.lookup x.1=some c:=λx hx=>hh x (List.mem_cons_of_mem _ hx)
  have h':(clo env r (if nk.2=.free then (nk.1,(env.cells.lookup nk.1).getD 0)::acc else acc)).lookup y=some c:=h
  by_cases hk:nk.2=.free
  ·rw [if_pos hk] at h'
   rcases clo_get hr h' with q|q
   ·obtain ⟨d,hd⟩:=hh nk List.mem_cons_self hk
    rw [hd,List.lookup_cons] at q
    cases e:y == nk.1 with
    |true=>
     rw [e] at q
     have ey:y=nk.1:=by simpa using e
     cases q
     rw [ey]
     exact .inr hd
    |false=>
     rw [e] at q
     exact .inl q
   ·exact .inr q
  ·rw [if_neg hk] at h'
   exact clo_get hr h'
theorem clo_acc {env:Env}{y:Str}:∀ {names:List (Str×NameKind)}{acc:List (Str×Addr)},(acc.lookup y).isSome=true->((clo env names acc).lookup y).isSome=true
 | [],_,h=>h
 |nk::r,acc,h=>by
  show ((clo env r (if nk.2=.free then (nk.1,(env.cells.lookup nk.1).getD 0)::acc else acc)).lookup y).isSome=true
  refine clo_acc ?_
  by_cases hk:nk.2=.free
  ·rw [if_pos hk,List.lookup_cons]
   cases y == nk.1 with
   |true=>rfl
   |false=>exact h
  ·rw [if_neg hk];exact h
theorem clo_has {env:Env}{y:Str}:∀ {names:List (Str×NameKind)}{acc:List (Str×Addr)},(y,NameKind.free)∈names->((clo env names acc).lookup y).isSome=true
 | [],_,h=>nomatch h
 |nk::r,acc,h=>by
  show ((clo env r (if nk.2=.free then (nk.1,(env.cells.lookup nk.1).getD 0)::acc else acc)).lookup y).isSome=true
  rcases List.mem_cons.mp h with e|h
  ·refine clo_acc ?_
   subst e
   rw [if_pos rfl,List.lookup_cons]
   simp
  ·exact clo_has h
theorem comp_loop {prog:Program}{w:World}{A:Around}{R:Result->Shared->Prop}{s:Shared}{elt target iter:Expr}{ifs:List Expr}{scope:Scope}{pos:Pos}{it acc:Value}{env:Env} (J:Nat->Shared->Prop)
  (turn:∀ n s,J n s->wpAny (model prog w) A (pyNext it) (λr s1=>match r with
   |none=>R (.ok .next) s1
   |some v=>wpAny (model prog w) A (letOwnedTupleGo target it v) (λ_ s1'=>wpAny (model prog w) A (assign target env v) (λ_ s2=>
     wpAny (model prog w) A (forIn ifs true λc r=>if r=true then do let ok<-isTrue c env (eval c env);pure (ForInStep.yield ok) else pure (ForInStep.yield r)) (λok s3=>
      if ok=true then wpAny (model prog w) A (eval elt env) (λx s4=>wpAny (model prog w) A (call (.builtin "list.append") [acc,x]) (λ_ s5=>∃ m,m<n/\J m s5) (λ_ _=>False) s4) (λ_ _=>False) s3
      else ∃ m,m<n/\J m s3) (λ_ _=>False) s2) (λ_ _=>False) s1') (λ_ _=>False) s1) (λ_ _=>False) s) (n:Nat) (h:J n s) :
  codeAny (model prog w) A (.compLoop (.ListComp elt [⟨target,iter,ifs,0⟩] scope pos) 0 it acc env) R s:=by
 refine codeAny_loop rfl J (λn s hJ=>?_) n h
 show wpAny _ A ((compTurn (.ListComp elt [⟨target,iter,ifs,0⟩] scope pos) 0 it acc env).onRaise (λx=>do noteFrame x env;theTreesLotGoes x)) _ _ s
 refine wpAny_noted ?_
 rw [compTurn_list]
 have no:∀ {α:Type}{t:Sem α}{Q Q':α->Shared->Prop}{E:Value->Shared->Prop}{s:Shared},wpAny (model prog w) A t Q (λ_ _=>False) s->(∀ a s,Q a s->Q' a s)->wpAny (model prog w) A t Q' E s:=λh k=>wpAny_mono h k λ_ _ z=>z.elim
 refine wpAny_bind (wpAny_standAt (wpAny_bind (no (turn n s hJ) λr s1 h1=>?_)))
 cases r with
 |none=>exact wpAny_pure h1
 |some v=>
  refine wpAny_bind (no h1 λ_ s1' h1'=>wpAny_bind (no h1' λ_ s2 h2=>wpAny_bind (no h2 λok s3 h3=>?_)))
  cases ok with
  |false=>exact wpAny_pure ⟨rfl,h3⟩
  |true=>exact wpAny_bind (wpAny_bind (no h3 λx s4 h4=>wpAny_bind (no h4 λ_ s5 h5=>wpAny_pure (wpAny_pure ⟨rfl,h5⟩))))
def compCx (X:Cx) (N:List Str) (sc:Scope) (C:Addr) (fp:List Addr) (pins:List (Addr×Obj)) (s:Shared) (H:Hp):Cx where
 prog:=X.prog
 w:=X.w
 K:=X.K
 mg:=X.mg
 base:=X.base
 A:=X.A
 N:=N
 s₀:=s
 H₀:=H
 env:=compEnvC sc (clo X.env sc.names []) C X.env
 outer:=X.stack
 stack:=X.stack
 ex:=fp
 fn:=λ_=>false
 calm:=X.calm
 pn:=X.pn++pins
 xe:=λ_ _=>False
structure CScope (fsc sc:Scope) (N0 N:List Str) (js:List Nat) (x:Str):Prop where
 kind:sc.kind=.function
 nocell:∀ y∈sc.names,y.2≠.cell
 names:∀ y∈sc.names,y.2=.local->sc.names.lookup y.1=some .local
 loc:sc.names.lookup x=some .local
 nd:N.Nodup
 hd:N[0]?=some x
 frees:∀ y∈sc.names,y.2=.free->fsc.names.lookup y.1=some .cell∨fsc.names.lookup y.1=some .free
 lf:∀ y∈sc.names,y.2=.free->sc.names.lookup y.1=some .free
 caps:N.drop 1=js.map λj=>N0.getD j ""
 capin:∀ j∈js,j<N0.length/\sc.names.lookup (N0.getD j "")=some .free
def capsOf (js:List Nat) (σ:St):St:=js.map λj=>(σ[j]?).join
def PF (Y:Cx) (ifs:List Expr) (t:TT):Prop:=
 ∀ (pins:List (Addr×Obj)) (s:Shared) (σ:St) (H:Hp) (Q:Bool->Hp->Prop),Inv Y pins σ H s->t σ H Q->
  wpAny (model Y.prog Y.w) Y.A (forIn ifs true λc r=>if r=true then do let ok<-isTrue c Y.env (eval c Y.env);pure (ForInStep.yield ok) else pure (ForInStep.yield r)) (TP Y pins σ Q) Y.xe s
def tAll:TT:=λ_ H Q=>Q true H
theorem pf_nil {Y:Cx}:PF Y [] tAll:=λpins s σ H Q I h=>wpAny_tests_nil ⟨H,I,h⟩
theorem pf_one {Y:Cx}{c:Expr}{t:TT} (h:PT Y c t):PF Y [c] t:=λpins s σ H Q I q=>wpAny_tests_one (h pins s σ H Q I q)
def tComp (js:List Nat) (wi:TI) (tt:TT) (te:TE):TE:=fun σ H Q=>wi σ H λJ H1=>∀ l,H1 l=none->∃ W:Nat->Nat->List V->Hp->Prop,(∃ m,W 0 m [] (upd H1 l (.lst [])))/\
 ∀ i m ys H,W i m ys H->H l=some (.lst ys)/\((J.stop i H/\Q (.ref l) H)∨(J.go i H/\∀ x H',J.yld i H x H'->tt (some x::capsOf js σ) H' λb H2=>
  if b=true then te (some x::capsOf js σ) H2 λy H3=>H3 l=some (.lst ys)/\ys.length<sizeLine/\∃ m',m'<m/\W (i+1) m' (ys++[y]) (upd H3 l (.lst (ys++[y]))) else ∃ m',m'<m/\W (i+1) m' ys H2))
section
variable {X:Cx}{elt iter:Expr}{ifs:List Expr}{fsc sc:Scope}{N0 N:List Str}{js:List Nat}{x:Str}{px pos:Pos}{wi:TI}{tt:TT}{te:TE}
theorem relabel_free {env:Env}{y:Str}:∀ {names:List (Str×NameKind)},names.lookup y=some .free->
  (names.map λ(nk:Str×NameKind)=>if (nk.2 == .free && env.scope.kind == .function && env.kindOf nk.1 == some .cell) then (nk.1,NameKind.cell) else (nk.1,nk.2)).lookup y=some .cell ∨
  (names.map λ(nk:Str×NameKind)=>if (nk.2 == .free && env.scope.kind == .function && env.kindOf nk.1 == some .cell) then (nk.1,NameKind.cell) else (nk.1,nk.2)).lookup y=some .free
 | [],h=>by simp at h
 |nk::r,h=>by
  rw [List.map_cons]
  rw [List.lookup_cons] at h
  have ih:=@relabel_free env y r
  cases e:y == nk.1 with
  |true=>
   rw [e] at h
   have hk:nk.2=.free:=Option.some.inj h
   by_cases hc:(nk.2 == .free && env.scope.kind == .function && env.kindOf nk.1 == some .cell)=true
   ·rw [if_pos hc,List.lookup_cons,e];exact .inl rfl
   ·rw [if_neg hc,List.lookup_cons,e];exact .inr (by rw [hk])
  |false=>
   rw [e] at h
   by_cases hc:(nk.2 == .free && env.scope.kind == .function && env.kindOf nk.1 == some .cell)=true
   ·rw [if_pos hc,List.lookup_cons,e];exact ih h
   ·rw [if_neg hc,List.lookup_cons,e];exact ih h
theorem relabel_back {env:Env}{y:Str}{k:NameKind}:∀ {names:List (Str×NameKind)},(k=.cell∨k=.free)->(∀ z∈names,z.2≠.cell)->
  (names.map λ(nk:Str×NameKind)=>if (nk.2 == .free && env.scope.kind == .function && env.kindOf nk.1 == some .cell) then (nk.1,NameKind.cell) else (nk.1,nk.2)).lookup y=some k->(y,NameKind.free)∈names
 | [],_,_,h=>by simp at h
 |nk::r,hk,hc,h=>by
  rw [List.map_cons] at h
  have ih:=@relabel_back env y k r hk λz hz=>hc z (List.mem_cons_of_mem _ hz)
  obtain ⟨n,kd⟩:=nk
  by_cases hb:(kd == .free && env.scope.kind == .function && env.kindOf n == some .cell)=true
  ·rw [if_pos hb,List.lookup_cons] at h
   cases e:y == n with
   |true=>
    have ey:y=n:=by simpa using e
    subst ey
    have:kd=.free:=by
     rw [Bool.and_eq_true,Bool.and_eq_true] at hb
     have:=hb.1.1
     revert this
     cases kd<;>intro z<;>first|rfl|exact absurd z (by decide)
    subst this
    exact List.mem_cons_self
   |false=>simp only [e] at h;exact List.mem_cons_of_mem _ (ih h)
  ·rw [if_neg hb,List.lookup_cons] at h
   cases e:y == n with
   |true=>
    have ey:y=n:=by simpa using e
    subst ey
    simp only [e] at h
    have hkd:kd=k:=Option.some.inj h
    have hne:=hc (y,kd) List.mem_cons_self
    rcases hk with z|z
    ·exact absurd (hkd.trans z) hne
    ·rw [hkd,z];exact List.mem_cons_self
   |false=>simp only [e] at h;exact List.mem_cons_of_mem _ (ih h)
theorem comp_inv {pins:List (Addr×Obj)}{σ:St}{H:Hp}{s s3:Shared}{l C:Addr}{fp:List Addr}{m:Str->Option Value} (S:CScope fsc sc N0 N js x) (hsc:X.env.scope=fsc) (hN:X.N=N0) (I:Inv X pins σ H s)
  (hfp:∀ b∈fp,FpOk X pins H b) (hob:∀ b∈fp,∃ o,s.heap.get? b=some o) (hl:s.heap.objs.size<=l) (hC:s.heap.objs.size<=C) (hlC:l≠C)
  (kp:∀ b o,s.heap.get? b=some o->s3.heap.get? b=some o) (hn:s3.heap.Ns C m) (hlst:∃ n,s3.heap.get? l=some { cls:=.type "list",data:=.seq #[] n }) (ho:s3.os=s.os) (hg:s3.gens=s.gens) :
  Inv (compCx X N sc C fp pins s H) [] (none::capsOf js σ) (upd H l (.lst [])) s3:=by
 have fre:∀ y∈sc.names,y.2=.free->∃ c,X.env.cells.lookup y.1=some c:=λy hy hk=>I.ok.has y.1 (by
  have q:=S.frees y hy hk
  rw [<-hsc] at q
  exact q)
 have cget:∀ y c,(clo X.env sc.names []).lookup y=some c->X.env.cells.lookup y=some c:=λy c e=>by
  rcases clo_get fre e with q|q
  ·cases q
  ·exact q
 have old:∀ b o,s.heap.get? b=some o->b≠C/\b≠l:=λb o e=>⟨Nat.ne_of_lt (Nat.lt_of_lt_of_le (Heap.lt_size e) hC),Nat.ne_of_lt (Nat.lt_of_lt_of_le (Heap.lt_size e) hl)⟩
 have freshC:H C=none:=I.hok.fresh hC
 have freshl:H l=none:=I.hok.fresh hl
 refine ⟨⟨I.ok.mod,S.kind,I.ok.glob,I.ok.blt,hC,λy z c h1 h2=>I.ok.inj y z c (cget y c h1) (cget z c h2),λy hy=>?_,λy c h _=>absurd (show false=true from h) Bool.false_ne_true,I.ok.hd,I.ok.frames,.inl rfl,λb hb=>?_,I.bs,Nat.le_trans I.ok.bsz I.sz,λb o e hb=>?_,λb hb hb2=>?_,I.stack,I.stkFree⟩,
  ho,hg ▸ I.bare,Un.laid kp hl freshl,⟨m,hn,λi y v h1 h2 h3=>?_⟩,λy c e=>?_,?_,λy c e=>?_,λp hp=>?_,?_,?_⟩
 ·have hmem:(y,NameKind.free)∈sc.names:=by
   rcases hy with hy|hy
   ·exact relabel_back (.inl rfl) S.nocell hy
   ·exact relabel_back (.inr rfl) S.nocell hy
  exact Option.isSome_iff_exists.mp (clo_has hmem)
 ·obtain ⟨o,e⟩:=hob b hb
  exact ⟨(old b o e).1,λy c q=>(hfp b hb).2.2.2.2.1 y c (cget y c q)⟩
 ·obtain ⟨f0,f1,f2,f3,f4,f5⟩:=hfp b hb
  rcases f3 with z|z
  ·exact I.ok.noex b o e z
  ·exact absurd (Nat.lt_of_lt_of_le (Heap.lt_size (I.ok.bs b o e).1) z) (Nat.lt_irrefl _)
 ·obtain ⟨f0,f1,f2,f3,f4,f5⟩:=hfp b hb
  rcases List.mem_cons.mp (I.stkSub b hb2) with z|z
  ·exact f1 z
  ·exact f2 z
 ·
  cases i with
  |zero=>cases h2
  |succ i=>
   have h2':(capsOf js σ)[i]?=some (some v):=h2
   unfold capsOf at h2'
   rw [List.getElem?_map] at h2'
   cases ej:js[i]? with
   |none=>rw [ej] at h2';cases h2'
   |some j=>
    rw [ej] at h2'
    have hσ:σ[j]?.join=some v:=Option.some.inj h2'
    have hσ':σ[j]?=some (some v):=by
     cases q:σ[j]? with
     |none=>rw [q] at hσ;cases hσ
     |some o=>rw [q] at hσ;cases o with
      |none=>cases hσ
      |some v'=>cases hσ;rfl
    have hy:y=N0.getD j "":=by
     have h1':N[i+1]?=some y:=h1
     have:=congrArg (λL=>L[i]?) S.caps
     simp only [List.getElem?_drop,List.getElem?_map,ej] at this
     rw [Nat.add_comm 1 i,h1'] at this
     exact Option.some.inj this
    obtain ⟨hjl,hjf⟩:=S.capin j (List.mem_of_getElem? ej)
    have hNj:X.N[j]?=some y:=by
     rw [hN,hy]
     simp [hjl]
    rw [<-hy] at hjf
    have hmem:(y,NameKind.free)∈sc.names:=PySem.mem_of_lookup hjf
    have hk:=S.frees _ hmem rfl
    rw [<-hsc] at hk
    obtain ⟨mX,hnX,hlX⟩:=I.loc
    have hvis:Vis X.env.scope y:=by
     rcases hk with z|z
     ·exact .inr (.inl z)
     ·exact .inr (.inr z)
    obtain ⟨u,ru,lk⟩:=hlX j y v hNj hσ' hvis
    refine ⟨u,ru,?_⟩
    rcases lk with ⟨z,_⟩|⟨z,c,ec,ecell⟩
    ·have z':X.env.scope.names.lookup y=some .local:=z
     rcases hk with q|q
     ·rw [z'] at q;cases q
     ·rw [z'] at q;cases q
    ·refine .inr ⟨relabel_free hjf,?_⟩
     obtain ⟨c',ec'⟩:=Option.isSome_iff_exists.mp (clo_has (env:=X.env) (acc:=[]) hmem)
     have:=cget y c' ec'
     rw [ec] at this
     cases this
     exact ⟨c,ec',ecell.keeps kp⟩
 ·obtain ⟨v,q⟩:=I.cell y c (cget y c e)
  exact ⟨v,q.keeps kp⟩
 ·show upd H l (.lst []) C=none
  rw [upd_ne (Ne.symm hlC)]
  exact freshC
 ·show upd H l (.lst []) c=none
  obtain ⟨v,o,q,_⟩:=I.cell y c (cget y c e)
  rw [upd_ne (old c o q).2]
  exact I.freeC y c (cget y c e)
 ·have hp':p∈X.pn++pins:=by
   have hp2:p∈(X.pn++pins)++[]:=hp
   rw [List.append_nil] at hp2
   exact hp2
  obtain ⟨e,n,ne,nf,d⟩:=I.pin p hp'
  refine ⟨kp _ _ e,?_,(old _ _ e).1,λz=>?_,d⟩
  ·rw [upd_ne (old _ _ e).2];exact n
  ·rcases List.mem_cons.mp (I.stkSub p.1 z) with q|q
   ·exact ne q
   ·exact nf q
 ·obtain ⟨n,e⟩:=hlst
  exact I.hok.laid kp hl ⟨by rw [List.length_nil];exact Nat.zero_le _,[],n,.nil,e⟩
 ·have hlen:N.length=js.length+1:=by
   have e1:=congrArg List.length S.caps
   rw [List.length_drop,List.length_map] at e1
   have e2:0<N.length:=(List.getElem?_eq_some_iff.mp S.hd).1
   omega
  show (none::capsOf js σ).length=N.length
  unfold capsOf
  rw [List.length_cons,List.length_map,hlen]
theorem ne_succ {b l:Nat} (h:b<l):b≠l+1:=by omega
theorem ne_self_succ {l:Nat}:l≠l+1:=by omega
theorem comp_block {pins:List (Addr×Obj)}{σ:St}{H:Hp}{s:Shared}{it:Addr}{fp:List Addr}{tn:Nat->Heap->Prop}{J:It}{QQ:Hp->Prop}{RR:Value->Addr->Result->Shared->Prop}{E:Value->Shared->Prop}
  (S:CScope fsc sc N0 N js x) (hsc:X.env.scope=fsc) (hN:X.N=N0) (hc:X.calm=true) (I:Inv X pins σ H s) (T:Turn X.prog X.w X.K (.Name x px) J fp it tn) (st:tn 0 s.heap) (hfp:∀ b∈fp,FpOk X pins H b)
  (hf:∀ C fp pins s H,PF (compCx X N sc C fp pins s H) ifs tt) (he:∀ C fp pins s H,PE (compCx X N sc C fp pins s H) elt te)
  (q:∃ W:Nat->Nat->List V->Hp->Prop,(∃ m,W 0 m [] (upd H s.heap.objs.size (.lst [])))/\∀ i m ys H,W i m ys H->H s.heap.objs.size=some (.lst ys)/\((J.stop i H/\QQ H)∨(J.go i H/\∀ y H',J.yld i H y H'->tt (some y::capsOf js σ) H' λb H2=>
   if b=true then te (some y::capsOf js σ) H2 λz H3=>H3 s.heap.objs.size=some (.lst ys)/\ys.length<sizeLine/\∃ m',m'<m/\W (i+1) m' (ys++[z]) (upd H3 s.heap.objs.size (.lst (ys++[z]))) else ∃ m',m'<m/\W (i+1) m' ys H2)))
  (fin:∀ (C:Addr) (s':Shared) (H':Hp) (m:Str->Option Value),s.heap.objs.size<=C->s.heap.objs.size≠C->s'.heap.Ns C m->s'.os=s.os->AllBare s'.gens->Un (frs X.stack) fp H H' s.heap s'.heap->HOk X.prog X.w H' s'.heap->H' C=none->QQ H'->RR (.ref s.heap.objs.size) C (.ok .next) s') :
  wpAny (model X.prog X.w) X.A (newList []) (λacc s3=>wpAny (model X.prog X.w) X.A (newFunctionEnv sc X.env.globals (clo X.env sc.names []) [] X.env.qual none .none (some X.env)) (λcenv s4=>
   codeAny (model X.prog X.w) X.A (.compStart (.ListComp elt [⟨.Name x px,iter,ifs,0⟩] sc pos) 0 (.ref it) acc { cenv with scope:=relabel sc X.env }) (RR acc cenv.locals) s4) E s3) E s:=by
 obtain ⟨W,⟨m0,w0⟩,turn⟩:=q
 refine wpAny_newObj_type (wpAny_newFunctionEnv S.nocell (by intro y hy;simp at hy) (λh1 hns hsb=>?_) S.kind)
 dsimp only at hns hsb ⊢
 generalize hL:s.heap.objs.size=l at *
 generalize hP:s.heap.push { cls:=.type "list",dict:=none,data:=.seq ([]:List Value).toArray }=hp at hns hsb ⊢
 have hps:hp.objs.size=l+1:=by rw [<-hP,Heap.size_push,hL]
 have old:∀ b o,s.heap.get? b=some o->h1.get? b=some o:=λb o e=>by
  have lt:b<l:=by rw [<-hL];exact Heap.lt_size e
  exact hsb.extBut b o (by rw [hps];exact ne_succ lt) (Heap.get?_push_of_some _ (hP ▸ Heap.get?_push_of_some _ e))
 have hlst:∃ n,h1.get? l=some { cls:=.type "list",data:=.seq #[] n }:=by
  refine ⟨0,hsb.extBut _ _ (by rw [hps];exact ne_self_succ) (Heap.get?_push_of_some _ ?_)⟩
  rw [<-hP,<-hL]
  exact Heap.get?_push_size _ rfl
 have hlC:l≠hp.objs.size:=by rw [hps];omega
 have obj0:∀ b∈fp,∃ o,s.heap.get? b=some o:=λb hb=>let ⟨o,e,_⟩:=T.obj 0 _ st b hb;⟨o,e⟩
 have st1:tn 0 h1:=T.keep 0 _ _ st λb _ o e=>old b o e
 have loop:∀ s3:Shared,s3={ s with heap:=h1,toks:=s.toks+([]:List (Str×Value)).length }->
   codeAny (model X.prog X.w) X.A (.compLoop (.ListComp elt [⟨.Name x px,iter,ifs,0⟩] sc pos) 0 (.ref it) (.ref l) (compEnvC sc (clo X.env sc.names []) hp.objs.size X.env)) (RR (.ref l) hp.objs.size) s3:=by
  intro s3 e3
  have I0:Inv (compCx X N sc hp.objs.size fp pins s H) [] (none::capsOf js σ) (upd H l (.lst [])) s3:=by
   subst e3
   exact comp_inv S hsc hN I hfp obj0 (by omega) (by rw [hps];omega) hlC old hns hlst rfl rfl
  have FPY:∀ {pins':List (Addr×Obj)}{H':Hp},(∀ b∈fp,H' b=none)->pins'=[]->∀ b∈fp,FpOk (compCx X N sc hp.objs.size fp pins s H) pins' H' b:=λ{pins' H'} hn hp0 b hb=>by
   subst hp0
   obtain ⟨f0,f1,f2,f3,f4,f5⟩:=hfp b hb
   obtain ⟨o,e⟩:=obj0 b hb
   refine ⟨hn b hb,?_,λz=>?_,.inl hb,λy c q=>?_,λp hp'=>?_⟩
   ·have:b<l:=by rw [<-hL];exact Heap.lt_size e
    show b≠hp.objs.size
    rw [hps];exact ne_succ this
   ·exact I0.ok.exfs b hb z
   ·exact (I0.ok.exf b hb).2 y c q
   ·have hp2:p∈(X.pn++pins)++[]:=hp'
    rw [List.append_nil] at hp2
    exact f5 p hp2
  have fr0:∀ b∈fp,upd H l (.lst []) b=none:=λb hb=>by
   obtain ⟨o,e⟩:=obj0 b hb
   rw [upd_ne (Nat.ne_of_lt (hL ▸ Heap.lt_size e))]
   exact (hfp b hb).1
  refine comp_loop (λn s'=>∃ i ys σ' H',Inv (compCx X N sc hp.objs.size fp pins s H) [] σ' H' s'/\σ'.drop 1=capsOf js σ/\tn i s'.heap/\(∀ b∈fp,H' b=none)/\W i n ys H') ?_ m0 ⟨0,[],_,_,I0,rfl,by subst e3;exact st1,fr0,w0⟩
  rintro n s4 ⟨i,ys,σ4,H4,I4,hσ4,st4,fr4,w4⟩
  obtain ⟨hly,tn4⟩:=turn i n ys H4 w4
  rcases tn4 with ⟨stop,qn⟩|⟨go,step⟩
  ·refine thn (T.done (compCx X N sc hp.objs.size fp pins s H) rfl rfl rfl hc i [] s4 σ4 H4 _ I4 (FPY fr4 rfl) st4 stop) λr s5 ⟨hr,I5⟩=>?_
   subst hr
   obtain ⟨m5,hn5,_⟩:=I5.loc
   exact fin hp.objs.size s5 H4 m5 (by rw [hps];omega) hlC hn5 I5.os I5.bare I5.base I5.hok I5.free qn
  ·refine thn (T.item (compCx X N sc hp.objs.size fp pins s H) rfl rfl rfl hc i [] s4 σ4 H4 _ I4 (FPY fr4 rfl) st4 go) λr s5 ⟨u,hr,h5⟩=>?_
   subst hr
   refine thn h5 λ_ s6 ⟨y,H6,I6,r6,y6,st6,fr6⟩=>?_
   have I6':=I6.pinned (FPY fr6 rfl) (T.obj _ _ st6)
   refine wpAny_assign_Name (store_ok I6' (i:=0) S.nd S.hd (.inl (lookup_relabel_local S.loc)) r6 (λs7 I7=>?_) (.inr (lookup_relabel_local S.loc)))
   have hσ7:σ4.set 0 (some y)=some y::capsOf js σ:=by
    have hl4:σ4.length=N.length:=I4.len
    cases σ4 with
    |nil=>
     have e2:0<N.length:=(List.getElem?_eq_some_iff.mp S.hd).1
     rw [List.length_nil] at hl4
     omega
    |cons a r=>
     rw [List.set_cons_zero]
     have hσ4':r=capsOf js σ:=hσ4
     rw [hσ4']
   rw [hσ7] at I7
   have again:∀ {s9:Shared}{H9:Hp}{ys':List V}{m':Nat},Inv (compCx X N sc hp.objs.size fp pins s H) ([]++pinsAt fp s6.heap) (some y::capsOf js σ) H9 s9->m'<n->W (i+1) m' ys' H9->
     ∃ m,m<n/\∃ i ys σ' H',Inv (compCx X N sc hp.objs.size fp pins s H) [] σ' H' s9/\σ'.drop 1=capsOf js σ/\tn i s9.heap/\(∀ b∈fp,H' b=none)/\W i m ys H':=λ{s9 H9 ys' m'} I9 hm w9=>by
    refine ⟨m',hm,i+1,ys',_,H9,I9.unpinned,rfl,T.keep _ _ _ st6 λb hb o e=>(I9.pin (b,o) (List.mem_append_right _ (List.mem_append_right _ (mem_pinsAt hb e)))).1,λb hb=>?_,w9⟩
    obtain ⟨o,e,d⟩:=T.obj _ _ st6 b hb
    exact (I9.pin (b,o) (List.mem_append_right _ (List.mem_append_right _ (mem_pinsAt hb e)))).2.1
   refine thn (hf hp.objs.size fp pins s H _ s7 _ H6 _ I7 (step y H6 y6)) λok s8 ⟨H8,I8,q8⟩=>?_
   cases ok with
   |false=>
    rw [if_neg Bool.false_ne_true] at q8 ⊢
    obtain ⟨m',hm,w'⟩:=q8
    exact again I8 hm w'
   |true=>
    rw [if_pos rfl] at q8 ⊢
    refine thn (he hp.objs.size fp pins s H _ s8 _ H8 _ I8 q8) λv s9 ⟨z,H9,I9,r9,hl9,hz9,m',hm,w'⟩=>?_
    refine thn (mt_append (X:=compCx X N sc hp.objs.size fp pins s H) _ s9 _ H9 (.ref l) [z] (.ref l) [v] (λx H'=>x=.non/\H'=upd H9 l (.lst (ys++[z]))) I9 rfl (.cons r9 .nil) ⟨l,ys,z,rfl,rfl,hl9,hz9,rfl,rfl⟩) λ_ s10 ⟨_,H10,I10,_,_,e10⟩=>?_
    subst e10
    exact again I10 hm w'
 exact codeAny_compStart_list (loop _ rfl) (T.self X.A 0 _ _ _ st1 (loop _ rfl))
theorem pe_comp (S:CScope fsc sc N0 N js x) (hsc:X.env.scope=fsc) (hN:X.N=N0) (hc:X.calm=true) (hi:PI X (.Name x px) iter wi)
  (hf:∀ C fp pins s H,PF (compCx X N sc C fp pins s H) ifs tt) (he:∀ C fp pins s H,PE (compCx X N sc C fp pins s H) elt te)
  (hs:∀ x,foldedSetIterable iter X.env x=pure x:=by intro _;rfl):PE X (.ListComp elt [⟨.Name x px,iter,ifs,0⟩] sc pos) (tComp js wi tt te):=by
 intro pins s σ H Q I h
 rw [eval_ListComp]
 have fre:∀ y∈sc.names,y.2=.free->∃ c,X.env.cells.lookup y.1=some c:=λy hy hk=>I.ok.has y.1 (by
  have q:=S.frees y hy hk
  rw [<-hsc] at q
  exact q)
 refine wpAny_comprehension_free (use:=none) rfl hs (closure_clo fre) S.kind S.names (thn (hi pins s σ H _ I h) λv s1 h1=>thn h1 λitv s2 h2=>?_)
 obtain ⟨it,fp,tn,J,H2,e,I2,T,st2,f2,q2⟩:=h2
 subst e
 refine comp_block (QQ:=λH'=>Q (.ref s2.heap.objs.size) H') (RR:=λacc C=>compPost (model X.prog X.w) X.A X.xe none (EP X pins σ Q) acc C) S hsc hN hc I2 T st2 f2 hf he (q2 s2.heap.objs.size (I2.hok.fresh (Nat.le_refl _))) ?_
 intro C s' H' m hC hlC hn ho hg u hok hfree qq
 refine ⟨m,hn,λh' hs'=>⟨.ref s2.heap.objs.size,H',?_,rfl,qq⟩⟩
 have I3:Inv X pins σ H' s':=I2.call' ho u hok hg λb hb=>⟨(f2 b hb).2.2.2.1,(f2 b hb).2.1,(f2 b hb).2.2.2.2.1,(f2 b hb).2.2.2.2.2⟩
 have szs:X.s₀.heap.objs.size<=C:=Nat.le_trans I2.sz hC
 have CL:C≠X.env.locals:=Nat.ne_of_gt (Nat.lt_of_lt_of_le I2.lt hC)
 exact I3.turned (t':=s'.toks) (it:=C) (λb o hb e=>(hs'.2 b hb).trans e) hfree CL (.inr szs) (λy c e z=>by
  obtain ⟨v',o',e',_⟩:=I2.cell y c e
  exact Nat.ne_of_lt (Nat.lt_of_lt_of_le (Heap.lt_size e') hC) z) λp hp z=>
   Nat.ne_of_lt (Nat.lt_of_lt_of_le (Heap.lt_size (I2.pin p hp).1) hC) z
end
end L2
namespace L2
open PySem PySem.Spec PyProof.Rows
section
variable {X:Cx}{elt iter:Expr}{ifs:List Expr}{fsc sc:Scope}{N0 N:List Str}{js:List Nat}{x:Str}{px pos:Pos}{wi:TI}{tt:TT}{te:TE}
theorem ps_setC {i:Nat}{y:Str}{py spos:Pos} (hNd:X.N.Nodup) (hy:X.N[i]?=some y) (hly:Loc X.env.scope y) (S:CScope fsc sc N0 N js x) (hsc:X.env.scope=fsc) (hN:X.N=N0) (hc:X.calm=true) (hi:PI X (.Name x px) iter wi)
  (hf:∀ C fp pins s H,PF (compCx X N sc C fp pins s H) ifs tt) (he:∀ C fp pins s H,PE (compCx X N sc C fp pins s H) elt te)
  (hsw:swapsWith (.ListComp elt [⟨.Name x px,iter,ifs,0⟩] sc pos) (some (.Name y py)) spos.line X.env=pure true:=by rfl)
  (hs:∀ x,foldedSetIterable iter X.env x=pure x:=by intro _;rfl) (hfn:X.fn y=true∨X.env.scope.names.lookup y=some .local:=by first|exact .inl rfl|exact .inr rfl|assumption) :
  PS X (.Assign [.Name y py] (.ListComp elt [⟨.Name x px,iter,ifs,0⟩] sc pos) spos) (tAsg (tComp js wi tt te) (gName i)):=by
 intro pins s σ H D I h
 rw [exec_Assign_Name_used _ _ _ _ hsw]
 refine wpAny_bind (wpAny_standAt (wpAny_bind ?_))
 show wpAny _ X.A (do let _<-comprehension (.ListComp elt [⟨.Name x px,iter,ifs,0⟩] sc pos) sc X.env _ (newList []) false (eval iter X.env) (some (assign (.Name y py) X.env))) _ _ s
 have fre:∀ y∈sc.names,y.2=.free->∃ c,X.env.cells.lookup y.1=some c:=λy hy hk=>I.ok.has y.1 (by
  have q:=S.frees y hy hk
  rw [<-hsc] at q
  exact q)
 refine wpAny_bind (thn (wpAny_comprehension_free (use:=some (assign (.Name y py) X.env)) (Q:=λ_ s'=>SP X pins D .next s') rfl hs (closure_clo fre) S.kind S.names (thn (hi pins s σ H _ I h) λv s1 h1=>thn h1 λitv s2 h2=>?_)) λ_ s' hq=>wpAny_pure (wpAny_pure hq))
 obtain ⟨it,fp,tn,J,H2,e,I2,T,st2,f2,q2⟩:=h2
 subst e
 refine comp_block (QQ:=λH'=>D.nx (σ.set i (some (.ref s2.heap.objs.size))) H') (RR:=λacc C=>compPost (model X.prog X.w) X.A X.xe (some (assign (.Name y py) X.env)) (λ_ s'=>SP X pins D .next s') acc C) S hsc hN hc I2 T st2 f2 hf he (q2 s2.heap.objs.size (I2.hok.fresh (Nat.le_refl _))) ?_
 intro C s' H' m hC hlC hn ho hg u hok hfree qq
 have I3:Inv X pins σ H' s':=I2.call' ho u hok hg λb hb=>⟨(f2 b hb).2.2.2.1,(f2 b hb).2.1,(f2 b hb).2.2.2.2.1,(f2 b hb).2.2.2.2.2⟩
 have szs:X.s₀.heap.objs.size<=C:=Nat.le_trans I2.sz hC
 have CL:C≠X.env.locals:=Nat.ne_of_gt (Nat.lt_of_lt_of_le I2.lt hC)
 have CC:∀ z c,X.env.cells.lookup z=some c->c≠C:=λz c e q=>by
  obtain ⟨v',o',e',_⟩:=I2.cell z c e
  exact Nat.ne_of_lt (Nat.lt_of_lt_of_le (Heap.lt_size e') hC) q
 show wpAny _ X.A (assign (.Name y py) X.env (.ref s2.heap.objs.size)) _ _ _
 refine wpAny_assign_Name (store_ok2 I3 hNd hy hly (v:=.ref s2.heap.objs.size) rfl (λs4 I4 hsb=>?_) hfn)
 obtain ⟨a,sb,ha⟩:=hsb
 have hCa:C≠a:=by
  rcases ha with z|z
  ·rw [z];exact CL
  ·exact (CC y a z).symm
 refine ⟨m,hn.sameBut sb hCa,λh' hs'=>⟨_,H',?_,qq⟩⟩
 exact I4.turned (t':=s4.toks) (it:=C) (λb o hb e=>(hs'.2 b hb).trans e) hfree CL (.inr szs) CC λp hp z=>
   Nat.ne_of_lt (Nat.lt_of_lt_of_le (Heap.lt_size (I2.pin p hp).1) hC) z
end
def Ite (K:PySem.W.Frag) (a:Addr):It:=
 ⟨λi H=>∃ xs x,SqL K H a xs/\xs[i]?=some x,λi H v H'=>∃ t x,H t=none/\H'=upd H t (.tup [.int (i:Int),x])/\v=.ref t/\∀ xs,SqL K H a xs->xs[i]?=some x,λi H=>∃ xs,SqL K H a xs/\xs.length<=i⟩
theorem turn_enum {P:Program}{w:World}{K:PySem.W.Frag}{es:List Expr}{k:Nat}{tp:Pos} (a e it:Addr) (hne:e≠it) :
  Turn P w K (.Tuple es k tp) (Ite K a) [e,it] e (λi h=>(∃ old,IsEnum h e it i old)/\h.IsListIter it a i) where
 mem:=by simp
 obj:=λi h st b hb=>by
  obtain ⟨⟨old,he⟩,o,ho,c,d⟩:=st
  rcases List.mem_cons.mp hb with z|z
  ·subst z
   exact ⟨_,he,λv z=>by cases z⟩
  ·have z':b=it:=List.mem_singleton.mp z
   subst z'
   exact ⟨o,ho,λv z=>by rw [d] at z;cases z⟩
 keep:=λi h h' st kp=>by
  obtain ⟨⟨old,he⟩,hit⟩:=st
  exact ⟨⟨old,kp e (by simp) _ he⟩,hit.at λo q=>kp it (by simp) o q⟩
 item:=by
  intro X hP hw hK hc i pins s σ H E I hf st hg
  subst hP hw hK
  obtain ⟨⟨old,he⟩,hit⟩:=st
  obtain ⟨xs,x,hq,hx⟩:=hg
  obtain ⟨its,rv,p,hz⟩:=I.list hq
  obtain ⟨u,hu,ru⟩:=rv.get hx
  obtain ⟨f0,f1,f2,f3,f4,f5⟩:=hf e (by simp)
  obtain ⟨g0,g1,g2,g3,g4,g5⟩:=hf it (by simp)
  refine wpAny_pyNext_enum_item he hit p.isList (x:=u) (by simpa using hu) hne λh1 out hit1 htup hsz kp=>?_
  refine ⟨_,rfl,wpAny_letOwnedTupleGo_enum out λh2 he2 sb=>?_⟩
  have elt:e<s.heap.objs.size:=Heap.lt_size he
  have itl:it<s.heap.objs.size:=by obtain ⟨_,q,_⟩:=hit;exact Heap.lt_size q
  have kp2:∀ b o,b≠e->b≠it->s.heap.get? b=some o->h2.get? b=some o:=λb o h1' h2' q=>(sb.2 b h1').trans (kp b o h1' h2' q)
  have tup2:h2.get? s.heap.objs.size=some { cls:=.type "tuple",data:=.seq #[.int i s.toks,u] }:=(sb.2 _ (Nat.ne_of_gt elt)).trans htup
  have Hnew:H s.heap.objs.size=none:=I.hok.fresh (Nat.le_refl _)
  have ne1:∀ b o,H b=some o->b≠e/\b≠it:=λb o q=>⟨λz=>(by rw [z,f0] at q;cases q),λz=>(by rw [z,g0] at q;cases q)⟩
  have I1:Inv X pins σ (upd H s.heap.objs.size (.tup [.int (i:Int),x])) { s with heap:=h2,toks:=s.toks+1 }:=by
   refine I.step (g':=s.gens) (d':=s.drawn) (ch:=[e,it]) (λb hb=>?_) (λb o _ _ hc q _=>?_) (λb o _ _ hc q _=>?_) (λb o hc q n=>?_) (λb o hc q=>?_) (λb xs q=>?_) (λb o v q=>?_) (λb ps q=>?_) (λm hm=>?_) ?_ I.bare
   ·rcases List.mem_cons.mp hb with z|z
    ·subst z;exact ⟨f3,f1,f4,f5⟩
    ·have z':b=it:=List.mem_singleton.mp z
     subst z';exact ⟨g3,g1,g4,g5⟩
   ·exact kp2 b o (λz=>hc (by simp [z])) (λz=>hc (by simp [z])) q
   ·exact ⟨o.slots,kp2 b o (λz=>hc (by simp [z])) (λz=>hc (by simp [z])) q⟩
   ·rw [upd_ne (Nat.ne_of_lt (Heap.lt_size q))];exact n
   ·exact ⟨o,kp2 b o (λz=>hc (by simp [z])) (λz=>hc (by simp [z])) q⟩
   ·rw [upd_ne (ne_of_none q Hnew)];exact q
   ·rw [upd_ne (ne_of_none q Hnew)];exact q
   ·exact ⟨#[],by rw [upd_ne (ne_of_none q Hnew),q];simp⟩
   ·obtain ⟨o,es',ep,ho,r⟩:=hm
    exact ⟨o,es',ep,kp2 _ o (Ne.symm f1) (Ne.symm g1) ho,r⟩
   ·intro b o q
    by_cases hb:b=s.heap.objs.size
    ·subst hb
     rw [upd_same] at q
     cases q
     exact ⟨by show 2<=sizeLine;decide,[.int i s.toks,u],.cons ⟨_,rfl⟩ (.cons ru .nil),_,tup2,rfl,0,rfl⟩
    ·rw [upd_ne hb] at q
     refine (I.hok b o q).stay (λc v hc r=>kp2 c v ?_ ?_ r) (λc r=>?_) (λc ys r=>?_)
     ·rcases hc with z|z
      ·rw [z];exact (ne1 b o q).1
      ·exact (ne1 c _ z).1
     ·rcases hc with z|z
      ·rw [z];exact (ne1 b o q).2
      ·exact (ne1 c _ z).2
     ·rw [upd_ne (ne_of_none r Hnew)];exact r
     ·rw [upd_ne (ne_of_none r Hnew)];exact r
  refine ⟨.ref s.heap.objs.size,_,I1,rfl,⟨s.heap.objs.size,x,Hnew,rfl,rfl,λys hy=>by rw [I.list_inj hy hq];exact hx⟩,⟨⟨u,?_⟩,?_⟩,λb hb=>?_⟩
  ·have:=he2
   exact he2
  ·exact hit1.at λo q=>(sb.2 it hne.symm).trans q
  ·rcases List.mem_cons.mp hb with z|z
   ·subst z;rw [upd_ne (Nat.ne_of_lt elt)];exact f0
   ·have z':b=it:=List.mem_singleton.mp z
    subst z';rw [upd_ne (Nat.ne_of_lt itl)];exact g0
 done:=by
  intro X hP hw hK hc i pins s σ H E I hf st hg
  subst hP hw hK
  obtain ⟨⟨old,he⟩,hit⟩:=st
  obtain ⟨xs,hq,hx⟩:=hg
  obtain ⟨its,rv,p,hz⟩:=I.list hq
  obtain ⟨g0,g1,g2,g3,g4,g5⟩:=hf it (by simp)
  have hl:=rv.length
  exact wpAny_pyNext_enum_end (I.ok.hd hc) he hit p.isList (by simp;omega) λh' eb=>⟨rfl,I.turned (t':=s.toks) (λb o hb q=>eb b o hb q) g0 g1 g3 g4 g5⟩
 self:=λ_ _ _ _ _ st h=>let ⟨⟨_,he⟩,_⟩:=st;wpAny_pyIter_enum he h
def iEnum (K:PySem.W.Frag) (ta:TA):TI:=fun σ H R=>ta σ H λvs H1=>∃ a,vs=[.ref a]/\(∃ xs,SqL K H1 a xs)/\R (Ite K a) H1
theorem pi_enum {X:Cx}{a:Expr}{ta:TA}{es:List Expr}{k:Nat}{tp p pos:Pos} (hg:Gl X "enumerate") (hm:X.mg "enumerate"=none) (ha:PA X [a] ta) (hs:starEach [a] X.env=[(false,eval a X.env)]:=by rfl) :
  PI X (.Tuple es k tp) (.Call (.Name "enumerate" p) [a] [] pos) (iEnum X.K ta):=by
 intro pins s σ H R I h
 refine Call_ (ld_blt I hg hm boot_enumerate (PyProof.Rows.callWith_type1 (thn (ha pos pins s σ H _ I h) λus s1 ⟨vs,H1,I1,r1,q1⟩=>?_) hs rfl))
 obtain ⟨b,e,⟨xs,hq⟩,q⟩:=q1
 subst e
 obtain ⟨u,rfl,ru⟩:=r1.one
 obtain rfl:u=Value.ref b:=ru
 obtain ⟨its,rv,pl,hz⟩:=I1.list hq
 refine call_enumerate_list pl.isList λh' he hit hsz kp=>?_
 have I2:Inv X pins σ H1 { s1 with heap:=h' }:=I1.kept (t':=s1.toks) kp
 refine wpAny_pyIter_enum he ?_
 refine ⟨s1.heap.objs.size+1,[s1.heap.objs.size+1,s1.heap.objs.size],_,_,H1,rfl,I2,turn_enum b _ _ (Nat.succ_ne_self _),⟨⟨.none,he⟩,hit⟩,λc hc=>?_,q⟩
 rcases List.mem_cons.mp hc with z|z
 ·subst z
  exact I1.fpOk (Nat.le_succ _) (I1.hok.fresh (Nat.le_succ _))
 ·have z':c=s1.heap.objs.size:=List.mem_singleton.mp z
  subst z'
  exact I1.fpOk (Nat.le_refl _) (I1.hok.fresh (Nat.le_refl _))
theorem for_enum {K:PySem.W.Frag}{a:Addr}{xs:List V}{g:TG}{tb:TS}{D:Ends}{σ:St}{H:Hp} (Pv:Nat->St->Hp->Prop) (h0:Pv 0 σ H) (hl:∀ i σ H,i<=xs.length->Pv i σ H->SqL K H a xs)
  (hs:∀ i x t σ H,xs[i]?=some x->H t=none->Pv i σ H->g (.ref t) σ (upd H t (.tup [.int (i:Int),x])) fun σ2 H2=>tb { D with nx:=Pv (i+1),ct:=Pv (i+1),bk:=D.nx } σ2 H2) (hd:∀ σ H,Pv xs.length σ H->D.nx σ H) :
  ∃ W:Nat->Nat->St->Hp->Prop,(∃ m,W 0 m σ H)/\∀ i m σ H,W i m σ H->
   ((Ite K a).stop i H/\D.nx σ H)∨((Ite K a).go i H/\∃ N:St->Hp->Prop,(∀ σ' H',N σ' H'->∃ m',m'<m/\W (i+1) m' σ' H')/\∀ x H',(Ite K a).yld i H x H'->g x σ H' fun σ2 H2=>tb { D with nx:=N,ct:=N,bk:=D.nx } σ2 H2):=by
 refine ⟨λi m σ H=>m=xs.length-i/\i<=xs.length/\Pv i σ H,⟨xs.length,by simp,Nat.zero_le _,h0⟩,?_⟩
 rintro i m σ H ⟨rfl,hi,p⟩
 have q:=hl i σ H hi p
 by_cases hlt:i<xs.length
 ·refine .inr ⟨⟨xs,xs[i],q,by simp [hlt]⟩,Pv (i+1),fun σ' H' p'=>⟨xs.length-(i+1),by omega,rfl,hlt,p'⟩,λv H' y=>?_⟩
  obtain ⟨t,x,ht,e1,e2,y⟩:=y
  subst e1 e2
  exact hs i x t σ _ (y xs q) ht p
 ·have e:i=xs.length:=by omega
  subst e
  exact .inl ⟨⟨xs,q,Nat.le_refl _⟩,hd σ H p⟩
def clsV:V->Option Value
 | .ty n=>some (.type n)
 | .ref a=>some (.ref a)
 |_=>none
theorem call_isinst {X:Cx}:CallR X (.builtin "isinstance") (λxs H Q=>∃ x c t cv b,xs=[x,c]/\TyOf X.K H x t/\clsV c=some cv/\PySem.W.kitOne X.K t cv=some b/\Q (.bl b) H):=by
 intro pins s σ H xs us Q I r h
 obtain ⟨x,c,t,cv,b,rfl,ty,hc,e,q⟩:=h
 obtain ⟨u,v,rfl,ru,rv⟩:=r.two
 have ev:v=cv:=by
  cases c with
  |ty n=>cases hc;exact rv
  |ref a=>cases hc;exact rv
  |_=>cases hc
 subst ev
 exact isinst_ok I ru ty e λtk=>⟨.bl b,H,I.tok _,rfl,q⟩
end L2
namespace L2
open PySem PySem.Spec PyProof.Rows
inductive EqD (K:PySem.W.Frag) (H:Hp):Bool->Nat->V->V->Bool->Prop where
 |flat {n:Nat}{x y:V} (hx:flatV x=true) (hy:flatV y=true):EqD K H true n x y (eqV x y)
 |same {n:Nat}{x:V}{a:Addr} (h:x=.ref a):EqD K H true n x x true
 |refs {n:Nat}{p q:Addr}{b:Bool} (h:p≠q) (e:EqD K H false n (.ref p) (.ref q) b):EqD K H true n (.ref p) (.ref q) b
 |lists {n:Nat}{p q:Addr}{xs ys:List V} (f:Nat->Bool) (hp:SqL K H p xs) (hq:SqL K H q ys) (hl:xs.length=ys.length) (e:∀ j x y,xs[j]?=some x->ys[j]?=some y->EqD K H true n x y (f j)) :
   EqD K H false (n+1) (.ref p) (.ref q) ((List.range xs.length).all f)
 |lens {n:Nat}{p q:Addr}{xs ys:List V} (hp:SqL K H p xs) (hq:SqL K H q ys) (hl:xs.length≠ys.length):EqD K H false (n+1) (.ref p) (.ref q) false
 |tups {n:Nat}{p q:Addr}{xs ys:List V} (f:Nat->Bool) (hp:SqT K H p xs) (hq:SqT K H q ys) (hl:xs.length=ys.length) (e:∀ j x y,xs[j]?=some x->ys[j]?=some y->EqD K H true n x y (f j)) :
   EqD K H false (n+1) (.ref p) (.ref q) ((List.range xs.length).all f)
theorem eqd_at {X:Cx}{pins:List (Addr×Obj)}{σ:St}{H:Hp}{s:Shared} (I:Inv X pins σ H s) {i:Bool}{n:Nat}{x y:V}{b:Bool} (e:EqD X.K H i n x y b):∀ {A:Around}{u v:Value},A.units+n<=cLine->RelV x u->RelV y v->
  (i=true->SeqAt.EqAt A s u v b)/\(i=false->SeqAt.RcAt A s u v b):=by
 induction e with
 |flat hx hy=>intro A u v hu ru rv;exact ⟨λ_=>eqAt_V ru rv hx hy,λz=>nomatch z⟩
 |same h=>
  intro A u v hu ru rv
  subst h
  cases ru
  cases rv
  exact ⟨λ_=>SeqAt.EqAt.same _,λz=>nomatch z⟩
 |refs h e ih=>
  intro A u v hu ru rv
  have q:=(ih hu ru rv).2 rfl
  cases ru
  cases rv
  exact ⟨λ_=>SeqAt.EqAt.of_refs h q,λz=>nomatch z⟩
 | @lists n p q xs ys f hp hq hl e ih=>
  intro A u v hu ru rv
  cases ru
  cases rv
  obtain ⟨its,r1,pl1,_⟩:=I.list hp
  obtain ⟨its2,r2,pl2,_⟩:=I.list hq
  have l1:=r1.length
  have l2:=r2.length
  refine ⟨(λz=>nomatch z),λ_=>?_⟩
  have key:=SeqAt.RcAt.lists (A:=A) (s:=s) (e:=f) pl1.isList pl2.isList (by simp;omega) (by omega) λj h1 h2=>?_
  ·rw [List.size_toArray,<-l1] at key
   exact key
  ·have h1':j<xs.length:=by simpa [l1] using h1
   have h2':j<ys.length:=by simpa [l2] using h2
   obtain ⟨u1,e1,ru1⟩:=r1.get (List.getElem?_eq_getElem h1')
   obtain ⟨u2,e2,ru2⟩:=r2.get (List.getElem?_eq_getElem h2')
   have q1:its.toArray[j]=u1:=by
    have:=List.getElem?_eq_some_iff.mp e1
    simpa using this.2
   have q2:its2.toArray[j]=u2:=by
    have:=List.getElem?_eq_some_iff.mp e2
    simpa using this.2
   rw [q1,q2]
   exact (ih j _ _ (List.getElem?_eq_getElem h1') (List.getElem?_eq_getElem h2') (A:=A.in1) (by show A.units+1+n<=cLine;omega) ru1 ru2).1 rfl
 | @lens n p q xs ys hp hq hl=>
  intro A u v hu ru rv
  cases ru
  cases rv
  obtain ⟨its,r1,pl1,_⟩:=I.list hp
  obtain ⟨its2,r2,pl2,_⟩:=I.list hq
  have l1:=r1.length
  have l2:=r2.length
  exact ⟨(λz=>nomatch z),λ_=>SeqAt.RcAt.lists_lengths pl1.isList pl2.isList (by simp;omega) (by omega)⟩
 | @tups n p q xs ys f hp hq hl e ih=>
  intro A u v hu ru rv
  cases ru
  cases rv
  obtain ⟨its,r1,pl1,_⟩:=I.tuple hp
  obtain ⟨its2,r2,pl2,_⟩:=I.tuple hq
  have l1:=r1.length
  have l2:=r2.length
  refine ⟨(λz=>nomatch z),λ_=>?_⟩
  have key:=SeqAt.RcAt.tuples (A:=A) (s:=s) (e:=f) pl1 pl2 (by omega) λj h1 h2=>?_
  ·have e1:min its.toArray.size its2.toArray.size=xs.length:=by simp;omega
   have e2:(its.toArray.size == its2.toArray.size)=true:=by simp;omega
   rw [e1,e2,Bool.and_true] at key
   exact key
  ·have h1':j<xs.length:=by simpa [l1] using h1
   have h2':j<ys.length:=by simpa [l2] using h2
   obtain ⟨u1,e1,ru1⟩:=r1.get (List.getElem?_eq_getElem h1')
   obtain ⟨u2,e2,ru2⟩:=r2.get (List.getElem?_eq_getElem h2')
   have q1:its.toArray[j]=u1:=by
    have:=List.getElem?_eq_some_iff.mp e1
    simpa using this.2
   have q2:its2.toArray[j]=u2:=by
    have:=List.getElem?_eq_some_iff.mp e2
    simpa using this.2
   rw [q1,q2]
   exact (ih j _ _ (List.getElem?_eq_getElem h1') (List.getElem?_eq_getElem h2') (A:=A.in1) (by show A.units+1+n<=cLine;omega) ru1 ru2).1 rfl
theorem op_eqD {X:Cx} (hu:X.A.units+16<=cLine):OpR X (compareOp .Eq) (λx y H Q=>∃ n b,n<=16/\EqD X.K H false n x y b/\Q (.bl b) H):=by
 intro pins s σ H x y v u Q I rx ry h
 obtain ⟨n,b,hn,e,q⟩:=h
 exact (eqd_at I e (by omega) rx ry).2 rfl X.prog X.w X.xe _ ⟨.bl b,H,I,rfl,q⟩
theorem eqd_ne {X:Cx}{pins:List (Addr×Obj)}{σ:St}{H:Hp}{s:Shared} (I:Inv X pins σ H s) {n:Nat}{x y:V}{b:Bool} (e:EqD X.K H false n x y b) {A:Around}{u v:Value} (hu:A.units+n<=cLine) (ru:RelV x u) (rv:RelV y v) :
  SeqAt.RcNeAt A s u v (!b):=by
 cases e with
 | @lists n p q xs ys f hp hq hl e=>
  cases ru
  cases rv
  obtain ⟨its,r1,pl1,_⟩:=I.list hp
  obtain ⟨its2,r2,pl2,_⟩:=I.list hq
  have l1:=r1.length
  have l2:=r2.length
  have key:=SeqAt.RcNeAt.lists (A:=A) (s:=s) (e:=f) pl1.isList pl2.isList (by simp;omega) (by omega) λj h1 h2=>?_
  ·rw [List.size_toArray,<-l1] at key
   exact key
  ·have h1':j<xs.length:=by simpa [l1] using h1
   have h2':j<ys.length:=by simpa [l2] using h2
   obtain ⟨u1,e1,ru1⟩:=r1.get (List.getElem?_eq_getElem h1')
   obtain ⟨u2,e2,ru2⟩:=r2.get (List.getElem?_eq_getElem h2')
   have q1:its.toArray[j]=u1:=by
    have:=List.getElem?_eq_some_iff.mp e1
    simpa using this.2
   have q2:its2.toArray[j]=u2:=by
    have:=List.getElem?_eq_some_iff.mp e2
    simpa using this.2
   rw [q1,q2]
   exact (eqd_at I (e j _ _ (List.getElem?_eq_getElem h1') (List.getElem?_eq_getElem h2')) (A:=A.in1) (by show A.units+1+n<=cLine;omega) ru1 ru2).1 rfl
 | @lens n p q xs ys hp hq hl=>
  cases ru
  cases rv
  obtain ⟨its,r1,pl1,_⟩:=I.list hp
  obtain ⟨its2,r2,pl2,_⟩:=I.list hq
  have l1:=r1.length
  have l2:=r2.length
  exact SeqAt.RcNeAt.lists_lengths pl1.isList pl2.isList (by simp;omega) (by omega)
 | @tups n p q xs ys f hp hq hl e=>
  cases ru
  cases rv
  obtain ⟨its,r1,pl1,_⟩:=I.tuple hp
  obtain ⟨its2,r2,pl2,_⟩:=I.tuple hq
  have l1:=r1.length
  have l2:=r2.length
  have key:=SeqAt.RcNeAt.tuples (A:=A) (s:=s) (e:=f) pl1 pl2 (by omega) λj h1 h2=>?_
  ·have e1:min its.toArray.size its2.toArray.size=xs.length:=by simp;omega
   have e2:(its.toArray.size == its2.toArray.size)=true:=by simp;omega
   rw [e1,e2,Bool.and_true] at key
   exact key
  ·have h1':j<xs.length:=by simpa [l1] using h1
   have h2':j<ys.length:=by simpa [l2] using h2
   obtain ⟨u1,e1,ru1⟩:=r1.get (List.getElem?_eq_getElem h1')
   obtain ⟨u2,e2,ru2⟩:=r2.get (List.getElem?_eq_getElem h2')
   have q1:its.toArray[j]=u1:=by
    have:=List.getElem?_eq_some_iff.mp e1
    simpa using this.2
   have q2:its2.toArray[j]=u2:=by
    have:=List.getElem?_eq_some_iff.mp e2
    simpa using this.2
   rw [q1,q2]
   exact (eqd_at I (e j _ _ (List.getElem?_eq_getElem h1') (List.getElem?_eq_getElem h2')) (A:=A.in1) (by show A.units+1+n<=cLine;omega) ru1 ru2).1 rfl
theorem op_neD {X:Cx} (hu:X.A.units+16<=cLine):OpR X (compareOp .NotEq) (λx y H Q=>∃ n b,n<=16/\EqD X.K H false n x y b/\Q (.bl (!b)) H):=by
 intro pins s σ H x y v u Q I rx ry h
 obtain ⟨n,b,hn,e,q⟩:=h
 exact eqd_ne I e (by omega) rx ry X.prog X.w X.xe _ ⟨.bl (!b),H,I,rfl,q⟩
theorem all_range_eq {xs ys:List V} (hl:xs.length=ys.length):((List.range xs.length).all λj=>eqV (xs.getD j .non) (ys.getD j .non))=(xs.zip ys).all λp=>eqV p.1 p.2:=by
 induction xs generalizing ys with
 |nil=>rfl
 |cons x xs ih=>
  cases ys with
  |nil=>simp at hl
  |cons y ys=>
   rw [List.length_cons,List.range_succ_eq_map,List.all_cons,List.all_map,List.zip_cons_cons,List.all_cons]
   have:=ih (ys:=ys) (by simpa using hl)
   rw [<-this]
   rfl
def eqVs (xs ys:List V):Bool:=xs.length == ys.length && (xs.zip ys).all λp=>eqV p.1 p.2
theorem eqd_flat {K:PySem.W.Frag}{H:Hp}{p q:Addr}{xs ys:List V} (hp:SqL K H p xs) (hq:SqL K H q ys) (fx:∀ x∈xs,flatV x=true) (fy:∀ y∈ys,flatV y=true):EqD K H false 1 (.ref p) (.ref q) (eqVs xs ys):=by
 by_cases hl:xs.length=ys.length
 ·have e:eqVs xs ys=(List.range xs.length).all λj=>eqV (xs.getD j .non) (ys.getD j .non):=by
   unfold eqVs
   rw [all_range_eq hl,hl]
   simp
  rw [e]
  refine .lists _ hp hq hl λj x y hx hy=>?_
  have e1:xs.getD j .non=x:=by rw [List.getD_eq_getElem?_getD,hx];rfl
  have e2:ys.getD j .non=y:=by rw [List.getD_eq_getElem?_getD,hy];rfl
  rw [e1,e2]
  exact .flat (fx x (List.mem_of_getElem? hx)) (fy y (List.mem_of_getElem? hy))
 ·have e:eqVs xs ys=false:=by
   unfold eqVs
   have:(xs.length == ys.length)=false:=by simpa using hl
   rw [this];rfl
  rw [e]
  exact .lens hp hq hl
theorem strs_of:∀ {zs:List Str}{us:List Value},Vals (zs.map V.str) us->StrsAre us zs
 | [],_,r=>by rw [List.map_nil] at r;cases r;exact .nil
 |z::zs,_,r=>by
  rw [List.map_cons] at r
  cases r with
  |cons h t=>
   obtain ⟨k,rfl⟩:=h
   exact .cons _ _ (strs_of t)
theorem mt_join {X:Cx}:MtR X "str.join" (λx vs H Q=>∃ sep l zs,x=.str sep/\vs=[.ref l]/\SqL X.K H l (zs.map V.str)/\(zs.map (·.length)).sum+zs.length * sep.length<=16777216/\Q (.str (Txt.join sep zs)) H):=by
 intro pins s σ H x vs v us Q I rx rv h
 obtain ⟨sep,l,zs,rfl,rfl,hl,hz,q⟩:=h
 obtain ⟨t,rfl⟩:=rx
 obtain ⟨u,rfl,ru⟩:=rv.one
 obtain rfl:u=Value.ref l:=ru
 obtain ⟨its,r,pl,_⟩:=I.list hl
 exact join_list pl.isList (by simpa using strs_of r) hz λt' k=>⟨.str _,H,I.tok _,⟨t',rfl⟩,q⟩
end L2
namespace Cut
section
variable {α:Type} [DecidableEq α]
def atL:α->List (Int×α)->Int->α
 |v,[],_=>v
 |v,q::r,p=>atL (if q.1<=p then q.2 else v) r p
def lastA (q:Int×α):List (Int×α)->Bool
 | []=>true
 |s::_=>decide (s.1≠q.1)
def formP:α->List (Int×α)->List (Int×α)
 |_,[]=>[]
 |v,q::r=>if lastA q r=true/\q.2≠v then q::formP q.2 r else formP v r
def Rise (ps:List (Int×α)):Prop:=ps.Pairwise λa b=>a.1<=b.1
def Strict (ps:List (Int×α)):Prop:=ps.Pairwise λa b=>a.1<b.1
def Diff:α->List (Int×α)->Prop
 |_,[]=>True
 |v,q::r=>q.2≠v/\Diff q.2 r
theorem Strict.rise {ps:List (Int×α)} (h:Strict ps):Rise ps:=List.Pairwise.imp (λh=>Int.le_of_lt h) h
theorem atL_low {p:Int}:∀ {ps:List (Int×α)}{v:α},(∀ q∈ps,p<q.1)->atL v ps p=v
 | [],_,_=>rfl
 |q::r,v,h=>by
  have h1:=h q List.mem_cons_self
  show atL (if q.1<=p then q.2 else v) r p=v
  rw [if_neg (by omega)]
  exact atL_low λq hq=>h q (List.mem_cons_of_mem _ hq)
theorem atL_congr {p p':Int}:∀ {ps:List (Int×α)}{v:α},(∀ q∈ps,(q.1<=p ↔ q.1<=p'))->atL v ps p=atL v ps p'
 | [],_,_=>rfl
 |q::r,v,h=>by
  have h1:=h q List.mem_cons_self
  have ih:=λw=>@atL_congr p p' r w λq hq=>h q (List.mem_cons_of_mem _ hq)
  show atL (if q.1<=p then q.2 else v) r p=atL (if q.1<=p' then q.2 else v) r p'
  by_cases hc:q.1<=p
  ·rw [if_pos hc,if_pos (h1.mp hc)];exact ih _
  ·rw [if_neg hc,if_neg λz=>hc (h1.mpr z)];exact ih _
theorem atL_append {p:Int}:∀ {a b:List (Int×α)}{v:α},atL v (a++b) p=atL (atL v a p) b p
 | [],_,_=>rfl
 |q::r,b,v=>by
  show atL (if q.1<=p then q.2 else v) (r++b) p=atL (atL (if q.1<=p then q.2 else v) r p) b p
  exact atL_append
theorem form_mem {q:Int×α}:∀ {ps:List (Int×α)}{v:α},q∈formP v ps->q∈ps
 | [],_,h=>h
 |s::r,v,h=>by
  unfold formP at h
  split at h
  ·rcases List.mem_cons.mp h with e|h
   ·rw [e];exact List.mem_cons_self
   ·exact List.mem_cons_of_mem _ (form_mem h)
  ·exact List.mem_cons_of_mem _ (form_mem h)
theorem last_lt {q:Int×α}{r:List (Int×α)} (hr:Rise (q::r)) (hl:lastA q r=true):∀ s∈r,q.1<s.1:=by
 intro s hs
 cases r with
 |nil=>cases hs
 |cons t r=>
  have h1:t.1≠q.1:=of_decide_eq_true hl
  have h2:=List.pairwise_cons.mp hr
  have h3:=h2.1 t List.mem_cons_self
  rcases List.mem_cons.mp hs with e|hs
  ·rw [e];omega
  ·have h4:=(List.pairwise_cons.mp h2.2).1 s hs
   omega
theorem atL_form {p:Int}:∀ {ps:List (Int×α)}{v:α},Rise ps->atL v (formP v ps) p=atL v ps p
 | [],_,_=>rfl
 |q::r,v,hr=>by
  have h2:=List.pairwise_cons.mp hr
  show atL v (if lastA q r=true/\q.2≠v then q::formP q.2 r else formP v r) p=atL (if q.1<=p then q.2 else v) r p
  by_cases hc:lastA q r=true/\q.2≠v
  ·rw [if_pos hc]
   show atL (if q.1<=p then q.2 else v) (formP q.2 r) p=_
   by_cases hp:q.1<=p
   ·rw [if_pos hp];exact atL_form h2.2
   ·rw [if_neg hp,atL_low λs hs=>?_,atL_low λs hs=>?_]
    ·have:=h2.1 s hs;omega
    ·have:=h2.1 s (form_mem hs);omega
  ·rw [if_neg hc,atL_form h2.2]
   by_cases hv:q.2=v
   ·rw [hv];simp
   ·cases r with
    |nil=>exact absurd ⟨rfl,hv⟩ hc
    |cons t r=>
     have ht:t.1=q.1:=by
      by_cases e:t.1=q.1
      ·exact e
      ·exact absurd ⟨decide_eq_true e,hv⟩ hc
     show atL (if t.1<=p then t.2 else v) r p=atL (if t.1<=p then t.2 else (if q.1<=p then q.2 else v)) r p
     rw [ht]
     by_cases hp:q.1<=p
     ·rw [if_pos hp,if_pos hp]
     ·rw [if_neg hp,if_neg hp,if_neg hp]
theorem form_strict:∀ {ps:List (Int×α)}{v:α},Rise ps->Strict (formP v ps)
 | [],_,_=>List.Pairwise.nil
 |q::r,v,hr=>by
  have h2:=List.pairwise_cons.mp hr
  unfold formP
  split
  ·rename_i hc
   exact List.pairwise_cons.mpr ⟨λs hs=>last_lt hr hc.1 s (form_mem hs),form_strict h2.2⟩
  ·exact form_strict h2.2
theorem form_diff:∀ {ps:List (Int×α)}{v:α},Diff v (formP v ps)
 | [],_=>trivial
 |q::r,v=>by
  unfold formP
  split
  ·rename_i hc
   exact ⟨hc.2,form_diff⟩
  ·exact form_diff
theorem form_unique:∀ {a b:List (Int×α)}{v:α},Strict a->Strict b->Diff v a->Diff v b->(∀ p,atL v a p=atL v b p)->a=b
 | [],[],_,_,_,_,_,_=>rfl
 | [],q::r,v,_,hb,_,db,h=>by
  have h2:=List.pairwise_cons.mp hb
  have e:=h q.1
  have e2:atL v (q::r) q.1=q.2:=by
   show atL (if q.1<=q.1 then q.2 else v) r q.1=q.2
   rw [if_pos (Int.le_refl _)]
   exact atL_low h2.1
  rw [e2] at e
  exact absurd e.symm db.1
 |q::r,[],v,ha,_,da,_,h=>by
  have h2:=List.pairwise_cons.mp ha
  have e:=h q.1
  have e2:atL v (q::r) q.1=q.2:=by
   show atL (if q.1<=q.1 then q.2 else v) r q.1=q.2
   rw [if_pos (Int.le_refl _)]
   exact atL_low h2.1
  rw [e2] at e
  exact absurd e da.1
 |q::r,s::t,v,ha,hb,da,db,h=>by
  have h2:=List.pairwise_cons.mp ha
  have h3:=List.pairwise_cons.mp hb
  have atq:atL v (q::r) q.1=q.2:=by
   show atL (if q.1<=q.1 then q.2 else v) r q.1=q.2
   rw [if_pos (Int.le_refl _)]
   exact atL_low h2.1
  have ats:atL v (s::t) s.1=s.2:=by
   show atL (if s.1<=s.1 then s.2 else v) t s.1=s.2
   rw [if_pos (Int.le_refl _)]
   exact atL_low h3.1
  have ec:q.1=s.1:=by
   by_cases h4:q.1<s.1
   ·have e:=h q.1
    rw [atq,atL_low (ps:=s::t) λz hz=>?_] at e
    ·exact absurd e da.1
    ·rcases List.mem_cons.mp hz with z1|z1
     ·rw [z1];exact h4
     ·have:=h3.1 z z1;omega
   ·by_cases h5:s.1<q.1
    ·have e:=h s.1
     rw [ats,atL_low (ps:=q::r) λz hz=>?_] at e
     ·exact absurd e.symm db.1
     ·rcases List.mem_cons.mp hz with z1|z1
      ·rw [z1];exact h5
      ·have:=h2.1 z z1;omega
    ·omega
  have eh:q.2=s.2:=by
   have e:=h q.1
   rw [atq,ec,ats] at e
   exact e
  have eqs:q=s:=Prod.ext ec eh
  subst eqs
  have er:r=t:=form_unique h2.2 h3.2 da.2 db.2 λp=>by
   by_cases hp:q.1<=p
   ·have e:atL (if q.1<=p then q.2 else v) r p=atL (if q.1<=p then q.2 else v) t p:=h p
    rw [if_pos hp] at e
    exact e
   ·rw [atL_low λz hz=>?_,atL_low λz hz=>?_]
    ·have:=h3.1 z hz;omega
    ·have:=h2.1 z hz;omega
  rw [er]
def formE (f:Int->α):α->List Int->List (Int×α)
 |_,[]=>[]
 |v,e::r=>if f e≠v then (e,f e)::formE f (f e) r else formE f v r
theorem formE_formP (f:Int->α):∀ {es:List Int}{v:α},es.Pairwise (· < ·)->formE f v es=formP v (es.map λe=>(e,f e))
 | [],_,_=>rfl
 |e::r,v,h=>by
  have h2:=List.pairwise_cons.mp h
  have hl:lastA (e,f e) (r.map λe=>(e,f e))=true:=by
   cases r with
   |nil=>rfl
   |cons s r=>
    have:=h2.1 s List.mem_cons_self
    exact decide_eq_true (by show s≠e;omega)
  show (if f e≠v then (e,f e)::formE f (f e) r else formE f v r)=(if lastA (e,f e) (r.map λe=>(e,f e))=true/\f e≠v then (e,f e)::formP (f e) (r.map λe=>(e,f e)) else formP v (r.map λe=>(e,f e)))
  by_cases hv:f e≠v
  ·rw [if_pos hv,if_pos ⟨hl,hv⟩,formE_formP f h2.2]
  ·rw [if_neg hv,if_neg λz=>hv z.2,formE_formP f h2.2]
theorem atL_steps {f:Int->α}{p:Int}:∀ {es:List Int}{v:α},es.Pairwise (· < ·)->((∀ e∈es,p<e)->f p=v)->(∀ e∈es,e<=p->(∀ e'∈es,e'<=p->e'<=e)->f p=f e)->atL v (es.map λe=>(e,f e)) p=f p
 | [],v,_,h1,_=>(h1 λ_ h=>nomatch h).symm
 |e::r,v,hs,h1,h2=>by
  have hs2:=List.pairwise_cons.mp hs
  show atL (if e<=p then f e else v) (r.map λe=>(e,f e)) p=f p
  refine atL_steps hs2.2 (λhlow=>?_) λe' he' hle hmax=>?_
  ·by_cases hep:e<=p
   ·rw [if_pos hep]
    refine h2 e List.mem_cons_self hep λe' he' hle=>?_
    rcases List.mem_cons.mp he' with z|z
    ·omega
    ·have:=hlow e' z;omega
   ·rw [if_neg hep]
    refine h1 λe' he'=>?_
    rcases List.mem_cons.mp he' with z|z
    ·omega
    ·exact hlow e' z
  ·refine h2 e' (List.mem_cons_of_mem _ he') hle λe'' he'' hle''=>?_
   rcases List.mem_cons.mp he'' with z|z
   ·have:=hs2.1 e' he';omega
   ·exact hmax e'' z hle''
theorem formE_at {f:Int->α}{es:List Int}{v:α} (hs:es.Pairwise (· < ·)) (h1:∀ p,(∀ e∈es,p<e)->f p=v) (h2:∀ p,∀ e∈es,e<=p->(∀ e'∈es,e'<=p->e'<=e)->f p=f e) (p:Int):atL v (formE f v es) p=f p:=by
 have hr:Rise (es.map λe=>(e,f e)):=by
  unfold Rise
  rw [List.pairwise_map]
  exact List.Pairwise.imp (λh=>Int.le_of_lt h) hs
 rw [formE_formP f hs,atL_form hr]
 exact atL_steps hs (h1 p) (h2 p)
theorem formE_strict {f:Int->α}{es:List Int}{v:α} (hs:es.Pairwise (· < ·)):Strict (formE f v es):=by
 rw [formE_formP f hs]
 refine form_strict ?_
 unfold Rise
 rw [List.pairwise_map]
 exact List.Pairwise.imp (λh=>Int.le_of_lt h) hs
theorem formE_diff {f:Int->α}{es:List Int}{v:α} (hs:es.Pairwise (· < ·)):Diff v (formE f v es):=by
 rw [formE_formP f hs]
 exact form_diff
structure UpTo (cs:List Int) (p:Int) (n:Nat):Prop where
 le:n<=cs.length
 lo:∀ i c,i<n->cs[i]?=some c->c<=p
 hi:∀ i c,n<=i->cs[i]?=some c->p<c
theorem UpTo.at:∀ {ps:List (Int×α)}{p:Int}{n:Nat}{v:α},UpTo (ps.map (·.1)) p n->(v::ps.map (·.2))[n]?=some (atL v ps p)
 |ps,p,0,v,h=>by
  have e:atL v ps p=v:=atL_low λq hq=>by
   obtain ⟨i,hi,e⟩:=List.mem_iff_getElem.mp hq
   refine h.hi i q.1 (Nat.zero_le _) ?_
   rw [List.getElem?_map,List.getElem?_eq_getElem hi,e]
   rfl
  rw [e];rfl
 | [],p,n+1,v,h=>by
  have:=h.le
  simp at this
 |q::r,p,n+1,v,h=>by
  have h1:q.1<=p:=h.lo 0 q.1 (Nat.succ_pos _) rfl
  have hu:UpTo (r.map (·.1)) p n:=⟨by have:=h.le;simp at this ⊢;omega,λi c hi e=>h.lo (i+1) c (by omega) (by simpa using e),λi c hi e=>h.hi (i+1) c (by omega) (by simpa using e)⟩
  have ih:=UpTo.at (v:=q.2) hu
  have e:atL v (q::r) p=atL q.2 r p:=by
   show atL (if q.1<=p then q.2 else v) r p=_
   rw [if_pos h1]
  rw [e,<-ih]
  rfl
end
end Cut
namespace Cut
open PySem L2
def HV (v:V):Prop:=v=.non∨∃ x,v=.str x
theorem HV.non:HV .non:=.inl rfl
theorem HV.str (x:Str):HV (.str x):=.inr ⟨x,rfl⟩
theorem HV.flat {v:V} (h:HV v):flatV v=true:=by
 rcases h with e|⟨x,e⟩<;>subst e<;>rfl
theorem HV.eqV {v u:V} (h:HV v) (h':HV u):L2.eqV v u=decide (v=u):=by
 rcases h with e|⟨x,e⟩<;>subst e<;>rcases h' with e|⟨y,e⟩<;>subst e
 ·rfl
 ·simp [L2.eqV]
 ·simp [L2.eqV]
 ·show (x == y)=_
  rw [Bool.eq_iff_iff];simp
theorem HV.scal {v u:V} (h:HV v) (h':HV u):scal v u=true:=by
 rcases h with e|⟨x,e⟩<;>subst e<;>rcases h' with e|⟨y,e⟩<;>subst e<;>rfl
structure Def (P:Program) (w:World) (K:PySem.W.Frag) (mg:Str->Option Value) (base:Heap) (x:Str) (ps:List Str) (k:Nat) (sp:Sp):Prop where
 ex:∃ (f:Addr) (fd:FuncData),mg x=some (.ref f)/\PySem.W.keepIn K (.ref f)=true/\Binds K fd ps []/\FnOk P w K mg base CX0 k f fd ps sp
theorem pe_callD {X:Cx}{x:Str}{ps:List Str}{k:Nat}{sp:Sp}{p pos:Pos}{e:Expr}{es:List Expr}{t:TA} (D:Def X.prog X.w X.K X.mg X.base x ps k sp) (hr:Room k X.A) (hg:Gl X x) (ha:PA X (e::es) t)
  (hdb:(x == ("__debug__":Str))=false:=by decide) (he:starEach (e::es) X.env=(false,eval e X.env)::starEach es X.env:=by rfl) (hpl:(backTo pos (starEach es X.env)).any (·.1)=false:=by rfl) :
  PE X (.Call (.Name x p) (e::es) [] pos) (tCall sp [] E0 t):=by
 obtain ⟨f,fd,h1,h2,h3,h4⟩:=D.ex
 exact pe_call h4 hr hg h1 h2 h3 .nil pass0 ha hdb he hpl
theorem pe_callD0 {X:Cx}{x:Str}{ps:List Str}{k:Nat}{sp:Sp}{p pos:Pos} (D:Def X.prog X.w X.K X.mg X.base x ps k sp) (hr:Room k X.A) (hg:Gl X x)
  (hdb:(x == ("__debug__":Str))=false:=by decide):PE X (.Call (.Name x p) [] [] pos) (tCall sp [] E0 tNil):=by
 obtain ⟨f,fd,h1,h2,h3,h4⟩:=D.ex
 exact pe_call0 h4 hr hg h1 h2 h3 .nil pass0 hdb
theorem Same.refl {H:Hp}:Same H H:=λ_ _ e=>e
theorem Same.upd {H H':Hp}{p:Addr}{o:HO} (s:Same H H') (h:H p=none):Same H (upd H' p o):=λb u e=>by
 rw [upd_ne (ne_of_none e h)]
 exact s b u e
theorem Same.new {H:Hp}{p:Addr}{o:HO} (h:H p=none):Same H (L2.upd H p o):=Same.upd Same.refl h
theorem Same.tup {K:PySem.W.Frag}{H H':Hp}{a:Addr}{xs:List V} (e:Same H H') (h:SqT K H a xs):SqT K H' a xs:=by
 rcases h with (h|⟨o,h⟩)|h
 ·exact .inl (.inl (e _ _ h))
 ·exact .inl (.inr ⟨o,e _ _ h⟩)
 ·exact .inr h
theorem chne:¬ (("cuts":Str)="holds"):=by decide +kernel
def flds (a b:Addr):List (Str×V):=putF "holds" (.ref b) (putF "cuts" (.ref a) [])
theorem flds_cuts (a b:Addr):(flds a b).lookup ("cuts":Str)=some (.ref a):=by
 unfold flds
 rw [lookup_putF,if_neg chne,lookup_putF,if_pos rfl]
theorem flds_holds (a b:Addr):(flds a b).lookup ("holds":Str)=some (.ref b):=by
 unfold flds
 rw [lookup_putF,if_pos rfl]
abbrev cutsV (ps:List (Int×V)):List V:=ps.map λq=>V.int q.1
abbrev holdsV (v:V) (ps:List (Int×V)):List V:=v::ps.map (·.2)
def LineAt (C:Addr) (H:Hp) (p:Addr) (v:V) (ps:List (Int×V)):Prop:=
 ∃ dx a b,H p=some (.ins C dx (flds a b))/\H a=some (.lst (cutsV ps))/\H b=some (.lst (holdsV v ps))
def LineNew (C:Addr) (H H':Hp) (p:Addr) (v:V) (ps:List (Int×V)):Prop:=
 ∃ dx a b,H p=none/\H a=none/\H b=none/\H' p=some (.ins C dx (flds a b))/\H' a=some (.lst (cutsV ps))/\H' b=some (.lst (holdsV v ps))
theorem LineNew.at {C:Addr}{H H':Hp}{p:Addr}{v:V}{ps:List (Int×V)} (h:LineNew C H H' p v ps):LineAt C H' p v ps:=
 let ⟨dx,a,b,_,_,_,h1,h2,h3⟩:=h
 ⟨dx,a,b,h1,h2,h3⟩
theorem LineAt.same {C:Addr}{H H':Hp}{p:Addr}{v:V}{ps:List (Int×V)} (h:LineAt C H p v ps) (s:Same H H'):LineAt C H' p v ps:=
 let ⟨dx,a,b,h1,h2,h3⟩:=h
 ⟨dx,a,b,s _ _ h1,s _ _ h2,s _ _ h3⟩
structure Holds (v:V) (ps:List (Int×V)):Prop where
 h0:HV v
 hs:∀ q∈ps,HV q.2
theorem Holds.form {v:V}{ps:List (Int×V)} (h:Holds v ps):Holds v (formP v ps):=⟨h.h0,λq hq=>h.hs q (form_mem hq)⟩
theorem Holds.at {v:V}{ps:List (Int×V)}{p:Int} (h:Holds v ps):HV (atL v ps p):=by
 have all:∀ (ps:List (Int×V)) (v:V),HV v->(∀ q∈ps,HV q.2)->HV (atL v ps p):=by
  intro ps
  induction ps with
  |nil=>intro v h _;exact h
  |cons q r ih=>
   intro v h hs
   show HV (atL (if q.1<=p then q.2 else v) r p)
   refine ih _ ?_ λq hq=>hs q (List.mem_cons_of_mem _ hq)
   split
   ·exact hs q List.mem_cons_self
   ·exact h
 exact all ps v h.h0 h.hs
theorem form_len {α:Type} [DecidableEq α]:∀ {ps:List (Int×α)}{v:α},(formP v ps).length<=ps.length
 | [],_=>Nat.le_refl _
 |q::r,v=>by
  unfold formP
  split
  ·rw [List.length_cons,List.length_cons];exact Nat.succ_le_succ form_len
  ·rw [List.length_cons];exact Nat.le_succ_of_le form_len
structure Txt (K:PySem.W.Frag) (mg:Str->Option Value) (C:Addr):Prop where
 cl:Cls K C
 nC:NoAttr K C "cuts"
 nH:NoAttr K C "holds"
 mgC:mg "Line"=some (.ref C)
 len:mg "len"=none
 range:mg "range"=none
 enumerate:mg "enumerate"=none
 isinstance:mg "isinstance"=none
 list:mg "list"=none
 tuple:mg "tuple"=none
 dict:mg "dict"=none
 str:mg "str"=none
 int:mg "int"=none
 bool:mg "bool"=none
 set:mg "set"=none
 sorted:mg "sorted"=none
 max:mg "max"=none
 min:mg "min"=none
 reversed:mg "reversed"=none
 ty1:PySem.W.findIn K (.ref C) "__class__"=some (some (.builtin "object.__class__"))
 ty2:PySem.W.specialIn K (.builtin "object.__class__") "__get__"=some (some (.builtin "getset_descriptor.__get__"))
 ty3:PySem.W.takesIn K (.builtin "object.__class__")=some true
 ty4:PySem.W.mroIn K C (.type "object")=some true
theorem kit_bb {K:PySem.W.Frag}{T T':String}{b:Bool} (h:(if (Value.type T == Value.type T')=true then some true else if PySem.W.kitMeta T'=true then (fastBuiltinMro T).map (·.contains (.type T')) else none)=some b) :
  PySem.W.kitOne K (.type T) (.type T')=some b:=h
theorem kit_NL {K:PySem.W.Frag}:PySem.W.kitOne K (.type "NoneType") (.type "list")=some false:=kit_bb (by decide +kernel)
theorem kit_NT {K:PySem.W.Frag}:PySem.W.kitOne K (.type "NoneType") (.type "tuple")=some false:=kit_bb (by decide +kernel)
theorem kit_ND {K:PySem.W.Frag}:PySem.W.kitOne K (.type "NoneType") (.type "dict")=some false:=kit_bb (by decide +kernel)
theorem kit_NS {K:PySem.W.Frag}:PySem.W.kitOne K (.type "NoneType") (.type "str")=some false:=kit_bb (by decide +kernel)
theorem kit_SL {K:PySem.W.Frag}:PySem.W.kitOne K (.type "str") (.type "list")=some false:=kit_bb (by decide +kernel)
theorem kit_ST {K:PySem.W.Frag}:PySem.W.kitOne K (.type "str") (.type "tuple")=some false:=kit_bb (by decide +kernel)
theorem kit_SD {K:PySem.W.Frag}:PySem.W.kitOne K (.type "str") (.type "dict")=some false:=kit_bb (by decide +kernel)
theorem kit_SS {K:PySem.W.Frag}:PySem.W.kitOne K (.type "str") (.type "str")=some true:=kit_bb (by decide +kernel)
theorem kit_II {K:PySem.W.Frag}:PySem.W.kitOne K (.type "int") (.type "int")=some true:=kit_bb (by decide +kernel)
theorem kit_IB {K:PySem.W.Frag}:PySem.W.kitOne K (.type "int") (.type "bool")=some false:=kit_bb (by decide +kernel)
theorem kit_LL {K:PySem.W.Frag}:PySem.W.kitOne K (.type "list") (.type "list")=some true:=kit_bb (by decide +kernel)
theorem kit_own {K:PySem.W.Frag}{C:Addr}:PySem.W.kitOne K (.ref C) (.ref C)=some true:=by
 unfold PySem.W.kitOne
 rw [if_pos (beq_self_eq_true _)]
theorem HV.ty {K:PySem.W.Frag}{H:Hp}{v:V} (h:HV v):∃ t,TyOf K H v t/\PySem.W.kitOne K t (.type "list")=some false/\PySem.W.kitOne K t (.type "tuple")=some false/\PySem.W.kitOne K t (.type "dict")=some false/\
  PySem.W.kitOne K t (.type "str")=some (decide (v≠.non)):=by
 rcases h with e|⟨x,e⟩
 ·subst e;exact ⟨_,.non,kit_NL,kit_NT,kit_ND,kit_NS⟩
 ·subst e;exact ⟨_,.str x,kit_SL,kit_ST,kit_SD,kit_SS⟩
def spInit (C:Addr):Sp:=λvs H Q _=>∃ (p dx a b:Addr),vs=[.ref p,.ref a,.ref b]/\H p=some (.ins C dx [])/\Q .non (upd H p (.ins C dx (flds a b)))
def spOwn:Sp:=λvs H Q _=>∃ v,vs=[v]/\HV v/\Q v H
def spLineOf (K:PySem.W.Frag) (C:Addr):Sp:=λvs H Q _=>∃ (a b:Addr) (v:V) (ps:List (Int×V)),vs=[.ref a,.ref b]/\SqL K H a (cutsV ps)/\SqL K H b (holdsV v ps)/\Holds v ps/\ps.length<=1000/\
 ∀ (p:Addr) (H':Hp),Same H H'->LineNew C H H' p v (formP v ps)->Q (.ref p) H'
def spEmpty (C:Addr):Sp:=λvs H Q _=>vs=[]/\∀ (p:Addr) (H':Hp),Same H H'->LineNew C H H' p .non []->Q (.ref p) H'
def spUpTo (C:Addr):Sp:=λvs H Q _=>∃ (p:Addr) (x:Int) (v:V) (ps:List (Int×V)),vs=[.ref p,.int x]/\LineAt C H p v ps/\Rise ps/\ps.length<=1000/\∀ n:Nat,UpTo (ps.map (·.1)) x n->Q (.int (n:Int)) H
def spCellAt (K:PySem.W.Frag):Sp:=λvs H Q _=>∃ (a:Addr) (ns:List Int) (k:Nat),vs=[.ref a,.int (k:Int)]/\SqL K H a (ns.map V.int)/\ns.length<=63/\Q (.int (ns.getD k 0)) H
def Names (K:PySem.W.Frag) (H:Hp) (l:Addr) (ts:List V):Prop:=SqL K H l ts/\ts.length=4/\∀ t∈ts,HV t
def spNames:Sp:=λvs H Q _=>∃ c:Int,vs=[.int c]/\∀ (l:Addr) (H':Hp) (t1 t2 t3:Str),Same H H'->H l=none->H' l=some (.lst [.non,.str t1,.str t2,.str t3])->Q (.ref l) H'
def ToldAt (K:PySem.W.Frag) (H:Hp) (t:Addr) (v:V) (ps:List (Int×V)):Prop:=∃ a b,SqT K H t [.ref a,.ref b]/\SqL K H a (cutsV ps)/\SqL K H b (holdsV v ps)
def ToldNew (H H':Hp) (t:Addr) (v:V) (ps:List (Int×V)):Prop:=∃ a b,H t=none/\H a=none/\H b=none/\a≠b/\H' t=some (.tup [.ref a,.ref b])/\H' a=some (.lst (cutsV ps))/\H' b=some (.lst (holdsV v ps))
theorem ToldNew.at {K:PySem.W.Frag}{H H':Hp}{t:Addr}{v:V}{ps:List (Int×V)} (h:ToldNew H H' t v ps):ToldAt K H' t v ps:=
 let ⟨a,b,_,_,_,_,h1,h2,h3⟩:=h
 ⟨a,b,SqT.of h1,SqL.of h2,SqL.of h3⟩
def spLaw (K:PySem.W.Frag):Sp:=λvs H Q _=>∃ (a:Addr) (ns:List Int),vs=[.ref a]/\SqL K H a (ns.map V.int)/\ns.length<=63/\∀ H',Q (.bl true) H'
def spHeld:Sp:=λvs H Q _=>∃ v u,vs=[v,u]/\HV v/\HV u/\Q (.bl (decide (v=u))) H
theorem orV {c:Bool}{tb:TE}{σ:St}{H:Hp}{Q:VK} (d:Bool) (hb:c=false->∀ Q:VK,Q (.bl d) H->tb σ H Q) (h:Q (.bl (c || d)) H):if c=true then Q (.bl true) H else tb σ H Q:=by
 cases c with
 |true=>rw [if_pos rfl];exact h
 |false=>rw [if_neg Bool.false_ne_true];exact hb rfl Q h
theorem andV {c:Bool}{tb:TE}{σ:St}{H:Hp}{Q:VK} (d:Bool) (hb:c=true->∀ Q:VK,Q (.bl d) H->tb σ H Q) (h:Q (.bl (c && d)) H):if c=true then tb σ H Q else Q (.bl false) H:=by
 cases c with
 |true=>rw [if_pos rfl];exact hb rfl Q h
 |false=>rw [if_neg Bool.false_ne_true];exact h
theorem andT {c:Bool}{u:TT}{σ:St}{H:Hp}{Q:Bool->Hp->Prop} (d:Bool) (hb:c=true->∀ Q:Bool->Hp->Prop,Q d H->u σ H Q) (h:Q (c && d) H):if c=true then u σ H Q else Q false H:=by
 cases c with
 |true=>rw [if_pos rfl];exact hb rfl Q h
 |false=>rw [if_neg Bool.false_ne_true];exact h
def lastH (v:V) (kp:List (Int×V)):V:=(kp.getLast?.map (·.2)).getD v
theorem lastH_snoc (v:V) (kp:List (Int×V)) (q:Int×V):lastH v (kp++[q])=q.2:=by
 unfold lastH
 rw [List.getLast?_append]
 rfl
theorem atI_lastH (v:V) (kp:List (Int×V)):atI (holdsV v kp) (-1)=some (lastH v kp):=by
 rcases List.eq_nil_or_concat kp with e|⟨r,q,e⟩
 ·subst e;exact atI_last [] v
 ·subst e
  rw [List.concat_eq_append,lastH_snoc]
  have e2:holdsV v (r++[q])=(v::r.map (·.2))++[q.2]:=by
   show v::(r++[q]).map (·.2)=_
   rw [List.map_append];rfl
  rw [e2]
  exact atI_last _ _
theorem lastH_hv {v:V}{kp:List (Int×V)} (h:Holds v kp):HV (lastH v kp):=by
 unfold lastH
 cases e:kp.getLast? with
 |none=>exact h.h0
 |some q=>exact h.hs q (List.mem_of_getLast? e)
theorem small {n:Nat} (h:n<=2000):n<sizeLine:=Nat.lt_of_le_of_lt h (by decide)
theorem smallL {n:Nat} (h:n<=2000):n<=sizeLine:=Nat.le_of_lt (small h)
theorem atN {α:Type}{xs:List α}{i:Int}{j:Nat}{v:α} (e:i=(j:Int)) (h:xs[j]?=some v):atI xs i=some v:=by
 rw [e];exact atI_nat h
theorem LineNew.from {C:Addr}{H H1 H':Hp}{p:Addr}{v:V}{ps:List (Int×V)} (s:Same H H1) (h:LineNew C H1 H' p v ps):LineNew C H H' p v ps:=
 let ⟨dx,a,b,n1,n2,n3,h1,h2,h3⟩:=h
 ⟨dx,a,b,s.free n1,s.free n2,s.free n3,h1,h2,h3⟩
theorem comp_rng {js:List Nat}{tt:TT}{te:TE}{σ:St}{H1:Hp}{R:Addr->Hp->Prop}{lo:Int}{n:Nat} (g:Nat->V) (hn:n<=2000)
  (ht:∀ i H2 (Q':Bool->Hp->Prop),i<n->Same H1 H2->Q' true H2->tt (some (.int (lo+i))::capsOf js σ) H2 Q')
  (he:∀ i H2 (Q':VK),i<n->Same H1 H2->Q' (g i) H2->te (some (.int (lo+i))::capsOf js σ) H2 Q')
  (hq:∀ l,H1 l=none->R l (upd H1 l (.lst ((List.range n).map g)))) :
  ∀ l,H1 l=none->∃ W:Nat->Nat->List V->Hp->Prop,(∃ m,W 0 m [] (upd H1 l (.lst [])))/\
   ∀ i m ys H,W i m ys H->H l=some (.lst ys)/\(((Itr lo n).stop i H/\R l H)∨((Itr lo n).go i H/\∀ x H',(Itr lo n).yld i H x H'->tt (some x::capsOf js σ) H' λb H2=>
    if b=true then te (some x::capsOf js σ) H2 λy H3=>H3 l=some (.lst ys)/\ys.length<sizeLine/\∃ m',m'<m/\W (i+1) m' (ys++[y]) (upd H3 l (.lst (ys++[y]))) else ∃ m',m'<m/\W (i+1) m' ys H2)):=by
 intro l hl
 refine ⟨λi m ys H=>m=n-i/\i<=n/\ys=(List.range i).map g/\H=upd H1 l (.lst ys),⟨n,rfl,Nat.zero_le _,rfl,rfl⟩,?_⟩
 rintro i m ys H ⟨rfl,hi,rfl,rfl⟩
 refine ⟨upd_same,?_⟩
 by_cases hlt:i<n
 ·refine .inr ⟨hlt,λx H' y=>?_⟩
  obtain ⟨e1,e2⟩:=y
  subst e1 e2
  refine ht i _ _ hlt (Same.new hl) (iteT (he i _ _ hlt (Same.new hl) ⟨upd_same,small (by rw [List.length_map,List.length_range];omega),n-(i+1),by omega,rfl,hlt,?_,?_⟩))
  ·rw [List.range_succ,List.map_append];rfl
  ·rw [upd_upd]
 ·have e:i=n:=by omega
  subst e
  exact .inl ⟨Nat.le_refl _,hq l hl⟩
theorem comp_lst {K:PySem.W.Frag}{a:Addr}{xs:List V}{js:List Nat}{tt:TT}{te:TE}{σ:St}{H1:Hp}{R:Addr->Hp->Prop} (p:V->Bool) (g:V->V) (hx:SqL K H1 a xs) (hn:xs.length<=2000)
  (ht:∀ x H2 (Q':Bool->Hp->Prop),x∈xs->Same H1 H2->Q' (p x) H2->tt (some x::capsOf js σ) H2 Q')
  (he:∀ x H2 (Q':VK),x∈xs->p x=true->Same H1 H2->Q' (g x) H2->te (some x::capsOf js σ) H2 Q')
  (hq:∀ l,H1 l=none->R l (upd H1 l (.lst ((xs.filter p).map g)))) :
  ∀ l,H1 l=none->∃ W:Nat->Nat->List V->Hp->Prop,(∃ m,W 0 m [] (upd H1 l (.lst [])))/\
   ∀ i m ys H,W i m ys H->H l=some (.lst ys)/\(((Itl K a).stop i H/\R l H)∨((Itl K a).go i H/\∀ x H',(Itl K a).yld i H x H'->tt (some x::capsOf js σ) H' λb H2=>
    if b=true then te (some x::capsOf js σ) H2 λy H3=>H3 l=some (.lst ys)/\ys.length<sizeLine/\∃ m',m'<m/\W (i+1) m' (ys++[y]) (upd H3 l (.lst (ys++[y]))) else ∃ m',m'<m/\W (i+1) m' ys H2)):=by
 intro l hl
 refine ⟨λi m ys H=>m=xs.length-i/\i<=xs.length/\ys=((xs.take i).filter p).map g/\H=upd H1 l (.lst ys),⟨xs.length,rfl,Nat.zero_le _,by simp,rfl⟩,?_⟩
 rintro i m ys H ⟨rfl,hi,rfl,rfl⟩
 refine ⟨upd_same,?_⟩
 have hx2:SqL K (upd H1 l (.lst (((xs.take i).filter p).map g))) a xs:=(Same.new hl).seq hx
 by_cases hlt:i<xs.length
 ·have hxi:xs[i]?=some xs[i]:=List.getElem?_eq_getElem hlt
  have htk:xs.take (i+1)=xs.take i++[xs[i]]:=by rw [List.take_add_one,hxi];rfl
  refine .inr ⟨⟨xs,xs[i],hx2,hxi⟩,λx H' y=>?_⟩
  obtain ⟨e1,y⟩:=y
  subst e1
  have ex:=y xs hx2
  rw [hxi] at ex
  obtain rfl:xs[i]=x:=Option.some.inj ex
  have hm:xs[i]∈xs:=List.getElem_mem hlt
  refine ht _ _ _ hm (Same.new hl) ?_
  have hlen:(((xs.take i).filter p).map g).length<=i:=by
   rw [List.length_map]
   refine Nat.le_trans (List.length_filter_le _ _) ?_
   rw [List.length_take];omega
  by_cases hp:p xs[i]=true
  ·rw [if_pos hp]
   refine he _ _ _ hm hp (Same.new hl) ⟨upd_same,small (by omega),xs.length-(i+1),by omega,rfl,hlt,?_,by rw [upd_upd]⟩
   rw [htk,List.filter_append,List.map_append]
   simp [hp]
  ·rw [if_neg hp]
   refine ⟨xs.length-(i+1),by omega,rfl,hlt,?_,rfl⟩
   rw [htk,List.filter_append,List.map_append]
   simp [hp]
 ·have e:i=xs.length:=by omega
  subst e
  refine .inl ⟨⟨xs,hx2,Nat.le_refl _⟩,?_⟩
  rw [List.take_of_length_le (Nat.le_refl _)]
  exact hq l hl
theorem comp_map {K:PySem.W.Frag}{a:Addr}{xs:List V}{js:List Nat}{te:TE}{σ:St}{H1:Hp}{R:Addr->Hp->Prop} (g:V->V) (hx:SqL K H1 a xs) (hn:xs.length<=2000)
  (he:∀ x H2 (Q':VK),x∈xs->Same H1 H2->Q' (g x) H2->te (some x::capsOf js σ) H2 Q')
  (hq:∀ l,H1 l=none->R l (upd H1 l (.lst (xs.map g)))) :
  ∀ l,H1 l=none->∃ W:Nat->Nat->List V->Hp->Prop,(∃ m,W 0 m [] (upd H1 l (.lst [])))/\
   ∀ i m ys H,W i m ys H->H l=some (.lst ys)/\(((Itl K a).stop i H/\R l H)∨((Itl K a).go i H/\∀ x H',(Itl K a).yld i H x H'->tAll (some x::capsOf js σ) H' λb H2=>
    if b=true then te (some x::capsOf js σ) H2 λy H3=>H3 l=some (.lst ys)/\ys.length<sizeLine/\∃ m',m'<m/\W (i+1) m' (ys++[y]) (upd H3 l (.lst (ys++[y]))) else ∃ m',m'<m/\W (i+1) m' ys H2)):=
 comp_lst (λ_=>true) g hx hn (λ_ _ _ _ _ q=>q) (λx H2 Q' hm _ s q=>he x H2 Q' hm s q) λl hl=>by
  have e:xs.filter (λ_=>true)=xs:=List.filter_eq_self.mpr λ_ _=>rfl
  rw [e];exact hq l hl
theorem cut_from (xs:List V) (k:Nat):cutV xs (some (k:Int)) none=xs.drop k:=by
 unfold cutV
 rw [HT.sIx_nat,HT.sIx_none]
 by_cases h:k<=xs.length
 ·rw [Nat.min_eq_left h]
  exact List.take_of_length_le (by rw [List.length_drop];exact Nat.le_refl _)
 ·have e:xs.drop k=[]:=List.drop_eq_nil_of_le (by omega)
  rw [Nat.min_eq_right (by omega),Nat.sub_self,e];simp
theorem cut_to (xs:List V) (m:Nat):cutV xs none (some (m:Int))=xs.take m:=by
 unfold cutV
 rw [HT.sIx_nat,HT.sIx_none,Nat.sub_zero,List.drop_zero]
 by_cases h2:m<=xs.length
 ·rw [Nat.min_eq_left h2]
 ·rw [Nat.min_eq_right (by omega),List.take_of_length_le (Nat.le_refl _),List.take_of_length_le (by omega)]
theorem join_len (sep:Str):∀ ts:List Str,(PySem.Txt.join sep ts).length<=(ts.map (·.length)).sum+ts.length * sep.length:=by
 have all:∀ ts:List Str,(Str.join sep ts).length<=(ts.map (·.length)).sum+ts.length * sep.length:=by
  intro ts
  induction ts with
  |nil=>exact Nat.zero_le _
  |cons x r ih=>
   cases r with
   |nil=>
    show x.length<=_
    simp only [List.map_cons,List.map_nil,List.sum_cons,List.sum_nil,List.length_cons,List.length_nil]
    omega
   |cons y r=>
    have e:Str.join sep (x::y::r)=x++sep++Str.join sep (y::r):=rfl
    rw [e,Str.length_append,Str.length_append]
    simp only [List.map_cons,List.sum_cons,List.length_cons] at ih ⊢
    have e2:(r.length+1+1) * sep.length=(r.length+1) * sep.length+sep.length:=by rw [Nat.succ_mul]
    omega
 intro ts
 exact Nat.le_trans (Nat.le_of_eq (congrArg Str.length (PySem.StrLaws.glued_eq_join sep ts))) (all ts)
theorem letter_at {i:Int} (h0:0<=i) (h1:i<26):∃ c,atI ("abcdefghijklmnopqrstuvwxyz":Str).cps.toList i=some c:=by
 have hl:("abcdefghijklmnopqrstuvwxyz":Str).cps.toList.length=26:=by decide +kernel
 have hj:i.toNat<("abcdefghijklmnopqrstuvwxyz":Str).cps.toList.length:=by rw [hl];omega
 exact ⟨_,atN (j:=i.toNat) (by omega) (List.getElem?_eq_getElem hj)⟩
theorem letters_len:("abcdefghijklmnopqrstuvwxyz":Str).length<=sizeLine:=by decide +kernel
theorem in_list {ts:List V}{i:Int} (h0:0<=i) (h1:i<(ts.length:Int)):∃ v,v∈ts/\atI ts i=some v:=by
 have hj:i.toNat<ts.length:=by omega
 exact ⟨ts[i.toNat],List.getElem_mem hj,atN (j:=i.toNat) (by omega) (List.getElem?_eq_getElem hj)⟩
theorem iteN {c A B:Prop} [Decidable c] (h:¬ c) (hb:B):if c then A else B:=by
 rw [if_neg h]
 exact hb
theorem iteP {c A B:Prop} [Decidable c] (h:c) (ha:A):if c then A else B:=by
 rw [if_pos h]
 exact ha
theorem ps_imp {X:Cx}{st:Stmt}{t t':TS} (h:PS X st t) (hi:∀ D σ H,t' D σ H->t D σ H):PS X st t':=λpins s σ H D I q=>h pins s σ H D I (hi D σ H q)
theorem hu16 {A:Around}{k:Nat} (hr:Room k A):A.units+16<=cLine:=by have:=hr.units;omega
end Cut
namespace Cut
section
variable {α:Type} [DecidableEq α]
theorem atL_map {f:Int->Int}{x y:Int}:∀ {ps:List (Int×α)}{v:α},(∀ q∈ps,(f q.1<=x ↔ q.1<=y))->atL v (ps.map λq=>(f q.1,q.2)) x=atL v ps y
 | [],_,_=>rfl
 |q::r,v,h=>by
  have h1:=h q List.mem_cons_self
  have ih:=λw=>@atL_map f x y r w λq hq=>h q (List.mem_cons_of_mem _ hq)
  show atL (if f q.1<=x then q.2 else v) (r.map λq=>(f q.1,q.2)) x=atL (if q.1<=y then q.2 else v) r y
  by_cases hc:q.1<=y
  ·rw [if_pos hc,if_pos (h1.mpr hc)];exact ih _
  ·rw [if_neg hc,if_neg λz=>hc (h1.mp z)];exact ih _
theorem atL_cons (v:α) (q:Int×α) (r:List (Int×α)) (x:Int):atL v (q::r) x=atL (if q.1<=x then q.2 else v) r x:=rfl
theorem UpTo.take {ps:List (Int×α)}{p:Int}{n:Nat} (h:UpTo (ps.map (·.1)) p n):∀ q∈ps.take n,q.1<=p:=λq hq=>by
 obtain ⟨i,hi,e⟩:=List.mem_iff_getElem.mp hq
 rw [List.length_take] at hi
 rw [List.getElem_take] at e
 refine h.lo i q.1 (by omega) ?_
 rw [List.getElem?_map,List.getElem?_eq_getElem (by omega),e]
 rfl
theorem UpTo.drop {ps:List (Int×α)}{p:Int}{n:Nat} (h:UpTo (ps.map (·.1)) p n):∀ q∈ps.drop n,p<q.1:=λq hq=>by
 obtain ⟨i,hi,e⟩:=List.mem_iff_getElem.mp hq
 rw [List.length_drop] at hi
 rw [List.getElem_drop] at e
 refine h.hi (n+i) q.1 (by omega) ?_
 rw [List.getElem?_map,List.getElem?_eq_getElem (by omega),e]
 rfl
theorem UpTo.low {ps:List (Int×α)}{p x:Int}{n:Nat}{v:α} (h:UpTo (ps.map (·.1)) p n) (hx:x<=p):atL v ps x=atL v (ps.take n) x:=by
 have e:=atL_append (p:=x) (a:=ps.take n) (b:=ps.drop n) (v:=v)
 rw [List.take_append_drop] at e
 rw [e,atL_low λq hq=>by have:=h.drop q hq;omega]
theorem UpTo.high {ps:List (Int×α)}{p x:Int}{n:Nat}{v:α} (h:UpTo (ps.map (·.1)) p n) (hx:p<=x):atL v ps x=atL (atL v ps p) (ps.drop n) x:=by
 have e:=atL_append (p:=x) (a:=ps.take n) (b:=ps.drop n) (v:=v)
 rw [List.take_append_drop] at e
 rw [e,h.low (v:=v) (Int.le_refl p)]
 congr 1
 exact atL_congr λq hq=>⟨λ_=>h.take q hq,λ_=>by have:=h.take q hq;omega⟩
theorem rise_take {ps:List (Int×α)} (h:Rise ps) (n:Nat):Rise (ps.take n):=List.Pairwise.sublist (List.take_sublist _ _) h
theorem rise_drop {ps:List (Int×α)} (h:Rise ps) (n:Nat):Rise (ps.drop n):=List.Pairwise.sublist (List.drop_sublist _ _) h
theorem rise_map {ps:List (Int×α)}{f:Int->Int} (h:Rise ps) (hf:∀ a b,a<=b->f a<=f b):Rise (ps.map λq=>(f q.1,q.2)):=by
 unfold Rise
 rw [List.pairwise_map]
 exact List.Pairwise.imp (λh=>hf _ _ h) h
theorem rise_join {a b:List (Int×α)}{p:Int} (ha:Rise a) (hb:Rise b) (h1:∀ q∈a,q.1<=p) (h2:∀ q∈b,p<=q.1):Rise (a++b):=
 List.pairwise_append.mpr ⟨ha,hb,λx hx y hy=>Int.le_trans (h1 x hx) (h2 y hy)⟩
theorem rise_cons {q:Int×α}{b:List (Int×α)} (hb:Rise b) (h2:∀ s∈b,q.1<=s.1):Rise (q::b):=List.pairwise_cons.mpr ⟨h2,hb⟩
def openP (v:α) (ps:List (Int×α)) (z:α) (p s:Int) (n:Nat):List (Int×α):=ps.take n++((p,z)::(p+s,atL v ps p)::(ps.drop n).map λq=>(q.1+s,q.2))
def openF (z:α) (p s:Int) (f:Int->α) (x:Int):α:=if x<p then f x else if x<p+s then z else f (x-s)
theorem open_rise {v z:α}{ps:List (Int×α)}{p s:Int}{n:Nat} (hr:Rise ps) (hs:0<=s) (h:UpTo (ps.map (·.1)) p n):Rise (openP v ps z p s n):=by
 have hb:∀ q∈(ps.drop n).map (λq=>(q.1+s,q.2)),p+s<=q.1:=λq hq=>by
  obtain ⟨r,hr',e⟩:=List.mem_map.mp hq
  have:=h.drop r hr'
  rw [<-e];show p+s<=r.1+s;omega
 refine rise_join (p:=p) (rise_take hr n) (rise_cons (rise_cons (rise_map (f:=λc=>c+s) (rise_drop hr n) λa b h=>by omega) hb) λq hq=>?_) h.take λq hq=>?_
 ·rcases List.mem_cons.mp hq with e|hq
  ·rw [e];show p<=p+s;omega
  ·have:=hb q hq;show p<=q.1;omega
 ·rcases List.mem_cons.mp hq with e|hq
  ·rw [e];exact Int.le_refl _
  ·rcases List.mem_cons.mp hq with e|hq
   ·rw [e];show p<=p+s;omega
   ·have:=hb q hq;omega
theorem open_at {v z:α}{ps:List (Int×α)}{p s:Int}{n:Nat} (hs:0<=s) (h:UpTo (ps.map (·.1)) p n) (x:Int):atL v (openP v ps z p s n) x=openF z p s (atL v ps) x:=by
 have hsh:∀ w,atL w ((ps.drop n).map λq=>(q.1+s,q.2)) x=atL w (ps.drop n) (x-s):=λw=>atL_map (f:=λc=>c+s) λq _=>⟨λh=>by omega,λh=>by omega⟩
 unfold openP openF
 rw [atL_append,atL_cons,atL_cons]
 by_cases h1:x<p
 ·rw [if_pos h1,if_neg (by show ¬ p+s<=x;omega),if_neg (by show ¬ p<=x;omega),hsh,atL_low λq hq=>by have:=h.drop q hq;omega]
  exact (h.low (by omega)).symm
 ·rw [if_neg h1]
  by_cases h2:x<p+s
  ·rw [if_pos h2,if_neg (by show ¬ p+s<=x;omega),if_pos (by show p<=x;omega),hsh,atL_low λq hq=>by have:=h.drop q hq;omega]
  ·rw [if_neg h2,if_pos (by show p+s<=x;omega),hsh]
   exact (h.high (by omega)).symm
def closeP (v:α) (ps:List (Int×α)) (p s:Int) (n m:Nat):List (Int×α):=ps.take n++((p,atL v ps (p+s))::(ps.drop m).map λq=>(q.1-s,q.2))
def closeF (p s:Int) (f:Int->α) (x:Int):α:=if x<p then f x else f (x+s)
theorem close_rise {v:α}{ps:List (Int×α)}{p s:Int}{n m:Nat} (hr:Rise ps) (h:UpTo (ps.map (·.1)) p n) (h':UpTo (ps.map (·.1)) (p+s) m):Rise (closeP v ps p s n m):=by
 have hb:∀ q∈(ps.drop m).map (λq=>(q.1-s,q.2)),p<=q.1:=λq hq=>by
  obtain ⟨r,hr',e⟩:=List.mem_map.mp hq
  have:=h'.drop r hr'
  rw [<-e];show p<=r.1-s;omega
 refine rise_join (p:=p) (rise_take hr n) (rise_cons (rise_map (f:=λc=>c-s) (rise_drop hr m) λa b h=>by omega) hb) h.take λq hq=>?_
 rcases List.mem_cons.mp hq with e|hq
 ·rw [e];exact Int.le_refl _
 ·exact hb q hq
theorem close_at {v:α}{ps:List (Int×α)}{p s:Int}{n m:Nat} (h:UpTo (ps.map (·.1)) p n) (h':UpTo (ps.map (·.1)) (p+s) m) (x:Int):atL v (closeP v ps p s n m) x=closeF p s (atL v ps) x:=by
 have hsh:∀ w,atL w ((ps.drop m).map λq=>(q.1-s,q.2)) x=atL w (ps.drop m) (x+s):=λw=>atL_map (f:=λc=>c-s) λq _=>⟨λh=>by omega,λh=>by omega⟩
 unfold closeP closeF
 rw [atL_append,atL_cons]
 by_cases h1:x<p
 ·rw [if_pos h1,if_neg (by show ¬ p<=x;omega),hsh,atL_low λq hq=>by have:=h'.drop q hq;omega]
  exact (h.low (by omega)).symm
 ·rw [if_neg h1,if_pos (by show p<=x;omega),hsh]
  exact (h'.high (by omega)).symm
def strP (ps:List (Int×α)) (t:Int):List (Int×α):=ps.map λq=>(q.1 * t,q.2)
def strF (t:Int) (f:Int->α) (x:Int):α:=f (x / t)
theorem str_rise {ps:List (Int×α)}{t:Int} (hr:Rise ps) (ht:1<=t):Rise (strP ps t):=rise_map (f:=λc=>c * t) hr λa b h=>Int.mul_le_mul_of_nonneg_right h (by omega)
theorem str_at {v:α}{ps:List (Int×α)}{t:Int} (ht:1<=t) (x:Int):atL v (strP ps t) x=strF t (atL v ps) x:=
 atL_map (f:=λc=>c * t) λq _=>(Int.le_ediv_iff_mul_le (by omega)).symm
def putF' (s e:Option Int) (u:α) (f:Int->α) (x:Int):α:=if (∀ a,s=some a->a<=x)/\(∀ b,e=some b->x<b) then u else f x
def putV (v:α) (s:Option Int) (u:α):α:=match s with
 |none=>u
 |some _=>v
def putP (v:α) (ps:List (Int×α)) (s e:Option Int) (u:α) (n m:Nat):List (Int×α):=
 (match s with|none=>[]|some a=>ps.take n++[(a,u)])++(match e with|none=>[]|some b=>(b,atL v ps b)::ps.drop m)
theorem put_rise {v u:α}{ps:List (Int×α)}{s e:Option Int}{n m:Nat} (hr:Rise ps) (hn:∀ a,s=some a->UpTo (ps.map (·.1)) a n) (hm:∀ b,e=some b->UpTo (ps.map (·.1)) b m) (hlt:∀ a b,s=some a->e=some b->a<b) :
  Rise (putP v ps s e u n m):=by
 cases s with
 |none=>
  cases e with
  |none=>exact List.Pairwise.nil
  |some b=>exact rise_cons (rise_drop hr m) λq hq=>by have:=(hm b rfl).drop q hq;show b<=q.1;omega
 |some a=>
  have h1:Rise (ps.take n++[(a,u)]):=rise_join (p:=a) (rise_take hr n) (List.pairwise_singleton _ _) (hn a rfl).take λq hq=>by rw [List.mem_singleton.mp hq];exact Int.le_refl _
  have h1':∀ q∈ps.take n++[(a,u)],q.1<=a:=λq hq=>by
   rcases List.mem_append.mp hq with z|z
   ·exact (hn a rfl).take q z
   ·rw [List.mem_singleton.mp z];exact Int.le_refl _
  cases e with
  |none=>show Rise ((ps.take n++[(a,u)])++[]);rw [List.append_nil];exact h1
  |some b=>
   have hab:=hlt a b rfl rfl
   have hd:∀ q∈ps.drop m,b<=q.1:=λq hq=>by have:=(hm b rfl).drop q hq;omega
   refine rise_join (p:=a) h1 (rise_cons (rise_drop hr m) hd) h1' λq hq=>?_
   rcases List.mem_cons.mp hq with z|z
   ·rw [z];show a<=b;omega
   ·have:=hd q z;omega
theorem put_at {v u:α}{ps:List (Int×α)}{s e:Option Int}{n m:Nat} (hn:∀ a,s=some a->UpTo (ps.map (·.1)) a n) (hm:∀ b,e=some b->UpTo (ps.map (·.1)) b m) (hlt:∀ a b,s=some a->e=some b->a<b) (x:Int) :
  atL (putV v s u) (putP v ps s e u n m) x=putF' s e u (atL v ps) x:=by
 have tail:∀ w,atL w (match e with|none=>[]|some b=>(b,atL v ps b)::ps.drop m) x=if (∀ b,e=some b->x<b) then w else atL v ps x:=by
  intro w
  cases e with
  |none=>rw [if_pos (λb h=>nomatch h)];rfl
  |some b=>
   rw [atL_cons]
   by_cases h1:x<b
   ·rw [if_neg (by show ¬ b<=x;omega),if_pos (λc hc=>by cases hc;exact h1),atL_low λq hq=>by have:=(hm b rfl).drop q hq;omega]
   ·rw [if_pos (by show b<=x;omega),if_neg (λhc=>h1 (hc b rfl))]
    exact ((hm b rfl).high (by omega)).symm
 unfold putP putF'
 rw [atL_append,tail]
 cases s with
 |none=>
  show (if (∀ b,e=some b->x<b) then u else atL v ps x)=_
  by_cases h2:∀ b,e=some b->x<b
  ·rw [if_pos h2,if_pos ⟨λa h=>(nomatch h),h2⟩]
  ·rw [if_neg h2,if_neg λh=>h2 h.2]
 |some a=>
  have e1:atL v (ps.take n++[(a,u)]) x=if a<=x then u else atL v (ps.take n) x:=by rw [atL_append];rfl
  show (if (∀ b,e=some b->x<b) then atL v (ps.take n++[(a,u)]) x else atL v ps x)=_
  rw [e1]
  by_cases h1:a<=x
  ·rw [if_pos h1]
   by_cases h2:∀ b,e=some b->x<b
   ·rw [if_pos h2,if_pos ⟨λc h=>by cases h;exact h1,h2⟩]
   ·rw [if_neg h2,if_neg λh=>h2 h.2]
  ·rw [if_neg h1,<-(hn a rfl).low (v:=v) (by omega)]
   have h3:¬ ((∀ c,some a=some c->c<=x)/\∀ b,e=some b->x<b):=λh=>h1 (h.1 a rfl)
   rw [if_neg h3]
   split<;>rfl
theorem mem_putP {v u:α}{ps:List (Int×α)}{s e:Option Int}{n m:Nat}{R:α->Prop} (hR:∀ q∈ps,R q.2) (hv:∀ x,R (atL v ps x)) (hu:R u):∀ q∈putP v ps s e u n m,R q.2:=λq hq=>by
 rcases List.mem_append.mp hq with z|z
 ·cases s with
  |none=>cases z
  |some a=>
   rcases List.mem_append.mp z with z|z
   ·exact hR q (List.mem_of_mem_take z)
   ·rw [List.mem_singleton.mp z];exact hu
 ·cases e with
  |none=>cases z
  |some b=>
   rcases List.mem_cons.mp z with z|z
   ·rw [z];exact hv b
   ·exact hR q (List.mem_of_mem_drop z)
theorem mem_openP {v z:α}{ps:List (Int×α)}{p s:Int}{n:Nat}{R:α->Prop} (hR:∀ q∈ps,R q.2) (hv:∀ x,R (atL v ps x)) (hz:R z):∀ q∈openP v ps z p s n,R q.2:=λq hq=>by
 rcases List.mem_append.mp hq with h|h
 ·exact hR q (List.mem_of_mem_take h)
 ·rcases List.mem_cons.mp h with e|h
  ·rw [e];exact hz
  ·rcases List.mem_cons.mp h with e|h
   ·rw [e];exact hv p
   ·obtain ⟨r,hr,e⟩:=List.mem_map.mp h
    rw [<-e];exact hR r (List.mem_of_mem_drop hr)
theorem mem_closeP {v:α}{ps:List (Int×α)}{p s:Int}{n m:Nat}{R:α->Prop} (hR:∀ q∈ps,R q.2) (hv:∀ x,R (atL v ps x)):∀ q∈closeP v ps p s n m,R q.2:=λq hq=>by
 rcases List.mem_append.mp hq with h|h
 ·exact hR q (List.mem_of_mem_take h)
 ·rcases List.mem_cons.mp h with e|h
  ·rw [e];exact hv _
  ·obtain ⟨r,hr,e⟩:=List.mem_map.mp h
   rw [<-e];exact hR r (List.mem_of_mem_drop hr)
theorem mem_strP {ps:List (Int×α)}{t:Int}{R:α->Prop} (hR:∀ q∈ps,R q.2):∀ q∈strP ps t,R q.2:=λq hq=>by
 obtain ⟨r,hr,e⟩:=List.mem_map.mp hq
 rw [<-e];exact hR r hr
theorem len_putP {v u:α}{ps:List (Int×α)}{s e:Option Int}{n m:Nat} (hnm:∀ a b,s=some a->e=some b->n<=m):(putP v ps s e u n m).length<=ps.length+2:=by
 unfold putP
 rw [List.length_append]
 cases s with
 |none=>
  cases e with
  |none=>simp
  |some b=>simp only [List.length_nil,List.length_cons,List.length_drop];omega
 |some a=>
  cases e with
  |none=>simp only [List.length_append,List.length_take,List.length_cons,List.length_nil];omega
  |some b=>
   have:=hnm a b rfl rfl
   simp only [List.length_append,List.length_take,List.length_cons,List.length_nil,List.length_drop];omega
theorem len_openP {v z:α}{ps:List (Int×α)}{p s:Int}{n:Nat}:(openP v ps z p s n).length<=ps.length+2:=by
 unfold openP
 simp only [List.length_append,List.length_take,List.length_cons,List.length_map,List.length_drop];omega
theorem len_closeP {v:α}{ps:List (Int×α)}{p s:Int}{n m:Nat} (hnm:n<=m):(closeP v ps p s n m).length<=ps.length+1:=by
 unfold closeP
 simp only [List.length_append,List.length_take,List.length_cons,List.length_map,List.length_drop];omega
theorem UpTo.mono {cs:List Int}{p p':Int}{n m:Nat} (h:UpTo cs p n) (h':UpTo cs p' m) (hp:p<=p'):n<=m:=by
 by_cases hc:n<=m
 ·exact hc
 ·have hm:m<cs.length:=by have:=h.le;omega
  have e:=List.getElem?_eq_getElem hm
  have h1:=h.lo m _ (by omega) e
  have h2:=h'.hi m _ (Nat.le_refl _) e
  omega
end
end Cut
namespace Cut
open PySem L2
inductive Deed where
 |put (s e:Option Int) (u:V)
 |opn (p n:Int)
 |cls (p n:Int)
 |str (t:Int)
def optV:Option Int->V
 |none=>.non
 |some i=>.int i
def Deed.vs:Deed->List V
 | .put s e u=>[.str "put",optV s,optV e,u]
 | .opn p n=>[.str "open",.int p,.int n]
 | .cls p n=>[.str "close",.int p,.int n]
 | .str t=>[.str "stretch",.int t]
def Deed.Ok:Deed->Prop
 | .put _ _ u=>HV u
 | .opn _ n=>0<=n
 | .cls _ n=>0<=n
 | .str t=>1<=t/\t<=3
def Deed.back:Deed->(Int->V)->Int->V
 | .put s e u,f=>putF' s e u f
 | .opn p n,f=>openF .non p n f
 | .cls p n,f=>closeF p n f
 | .str t,f=>strF t f
structure Form (v:V) (ps:List (Int×V)):Prop where
 st:Strict ps
 df:Diff v ps
 hh:Holds v ps
theorem Form.of {v:V}{ps:List (Int×V)} (hr:Rise ps) (hh:Holds v ps):Form v (formP v ps):=⟨form_strict hr,form_diff,hh.form⟩
theorem Form.unique {v:V}{a b:List (Int×V)} (ha:Form v a) (hb:Form v b) (h:∀ x,atL v a x=atL v b x):a=b:=form_unique ha.st hb.st ha.df hb.df h
theorem Form.again {v:V}{ps:List (Int×V)} (h:Form v ps):formP v ps=ps:=(Form.of h.st.rise h.hh).unique h λx=>atL_form h.st.rise
def Behind (C:Addr) (H:Hp) (v:V) (ps:List (Int×V)) (d:Deed) (Q:VK):Prop:=
 ∀ (p:Addr) (H':Hp) (v':V) (ps':List (Int×V)),Same H H'->LineNew C H H' p v' ps'->Form v' ps'->ps'.length<=ps.length+2->(∀ x,atL v' ps' x=d.back (atL v ps) x)->Q (.ref p) H'
def noPl:Option Int->Option Int->Bool
 |some a,some b=>decide (b<=a)
 |_,_=>false
def spNoPl:Sp:=λvs H Q _=>∃ s e,vs=[optV s,optV e]/\Q (.bl (noPl s e)) H
def spCheckS:Sp:=λvs H Q _=>∃ n:Int,vs=[.int n]/\0<=n/\Q .non H
def spCheckT:Sp:=λvs H Q _=>∃ n:Int,vs=[.int n]/\1<=n/\Q .non H
def spPut (C:Addr):Sp:=λvs H Q _=>∃ (p:Addr) (v:V) (ps:List (Int×V)) (s e:Option Int) (u:V),vs=[.ref p,optV s,optV e,u]/\LineAt C H p v ps/\Form v ps/\ps.length<=900/\HV u/\Behind C H v ps (.put s e u) Q
def spOpened (C:Addr):Sp:=λvs H Q _=>∃ (p:Addr) (v:V) (ps:List (Int×V)) (x n:Int),vs=[.ref p,.int x,.int n]/\LineAt C H p v ps/\Form v ps/\ps.length<=900/\0<=n/\Behind C H v ps (.opn x n) Q
def spClosed (C:Addr):Sp:=λvs H Q _=>∃ (p:Addr) (v:V) (ps:List (Int×V)) (x n:Int),vs=[.ref p,.int x,.int n]/\LineAt C H p v ps/\Form v ps/\ps.length<=900/\0<=n/\Behind C H v ps (.cls x n) Q
def spStretched (C:Addr):Sp:=λvs H Q _=>∃ (p:Addr) (v:V) (ps:List (Int×V)) (t:Int),vs=[.ref p,.int t]/\LineAt C H p v ps/\Form v ps/\ps.length<=900/\1<=t/\t<=3/\Behind C H v ps (.str t) Q
def spDone (K:PySem.W.Frag) (C:Addr):Sp:=λvs H Q _=>∃ (p d:Addr) (v:V) (ps:List (Int×V)) (dd:Deed),vs=[.ref p,.ref d]/\LineAt C H p v ps/\Form v ps/\ps.length<=900/\SqT K H d dd.vs/\dd.Ok/\Behind C H v ps dd Q
theorem Behind.of {C:Addr}{H H1 H':Hp}{v w:V}{ps qs:List (Int×V)}{d:Deed}{Q:VK}{p:Addr} (k:Behind C H v ps d Q) (s1:Same H H1) (s2:Same H1 H') (ln:LineNew C H1 H' p w (formP w qs)) (hr:Rise qs) (hh:Holds w qs)
  (hl:qs.length<=ps.length+2) (hx:∀ x,atL w qs x=d.back (atL v ps) x):Q (.ref p) H':=
 k p H' w _ (s1.trans s2) (ln.from s1) (Form.of hr hh) (Nat.le_trans form_len hl) λx=>(atL_form hr).trans (hx x)
theorem cutsV_app (a b:List (Int×V)):cutsV (a++b)=cutsV a++cutsV b:=List.map_append ..
theorem cutsV_take (a:List (Int×V)) (n:Nat):(cutsV a).take n=cutsV (a.take n):=(List.map_take ..).symm
theorem cutsV_drop (a:List (Int×V)) (n:Nat):(cutsV a).drop n=cutsV (a.drop n):=(List.map_drop ..).symm
theorem holdsV_take (v:V) (a:List (Int×V)) (n:Nat):(holdsV v a).take (n+1)=holdsV v (a.take n):=by
 show v::(a.map (·.2)).take n=v::(a.take n).map (·.2)
 rw [List.map_take]
theorem holdsV_drop {v:V}{a:List (Int×V)}{x:Int}{n:Nat} (h:UpTo (a.map (·.1)) x n):(holdsV v a).drop n=atL v a x::(a.drop n).map (·.2):=by
 have e:=h.at (v:=v)
 have hl:n<(holdsV v a).length:=(List.getElem?_eq_some_iff.mp e).1
 rw [List.drop_eq_getElem_cons hl]
 have e2:(holdsV v a)[n]=atL v a x:=(List.getElem?_eq_some_iff.mp e).2
 rw [e2]
 show _::(a.map (·.2)).drop n=_
 rw [List.map_drop]
end Cut
namespace Cut
open PySem L2 PyProof.Rows
variable {K:PySem.W.Frag}
def Deed.edges:Deed->List Int->List Int
 | .put s e _,es=>es++(s.toList++e.toList)
 | .opn p n,es=>es.map (λx=>if p<=x then x+n else x)++[p,p+n]
 | .cls p n,es=>es.map (λx=>if x-n > (if p<x then p else x) then x-n else (if p<x then p else x))++[p]
 | .str t,es=>es.map λx=>x * t
theorem back_const (dd:Deed) (hok:dd.Ok) {g:Int->V}{cs:List Int} (hg:∀ x y,x<=y->(∀ c∈cs,¬ (x<c/\c<=y))->g x=g y) {x y:Int} (hxy:x<=y) (h:∀ e∈dd.edges cs,¬ (x<e/\e<=y)):dd.back g x=dd.back g y:=by
 cases dd with
 |put s e u=>
  have h1:∀ c∈cs,¬ (x<c/\c<=y):=λc hc=>h c (List.mem_append_left _ hc)
  have hs:∀ c∈s,¬ (x<c/\c<=y):=λc hc=>h c (List.mem_append_right _ (List.mem_append_left _ (by rw [Option.mem_toList];exact hc)))
  have he:∀ c∈e,¬ (x<c/\c<=y):=λc hc=>h c (List.mem_append_right _ (List.mem_append_right _ (by rw [Option.mem_toList];exact hc)))
  have hgg:=hg x y hxy h1
  show putF' s e u g x=putF' s e u g y
  unfold putF'
  cases s with
  |none=>
   cases e with
   |none=>simp [hgg]
   |some b=>
    have:=he b rfl
    have e2:(x<b) ↔ (y<b):=⟨λz=>by omega,λz=>by omega⟩
    simp [hgg,e2]
  |some a=>
   have ha:=hs a rfl
   have e1:(a<=x) ↔ (a<=y):=⟨λz=>by omega,λz=>by omega⟩
   cases e with
   |none=>simp [hgg,e1]
   |some b=>
    have:=he b rfl
    have e2:(x<b) ↔ (y<b):=⟨λz=>by omega,λz=>by omega⟩
    simp [hgg,e1,e2]
 |opn p n=>
  have hn:0<=n:=hok
  have hp:=h p (List.mem_append_right _ (by simp))
  have hpn:=h (p+n) (List.mem_append_right _ (by simp))
  have hm:∀ c∈cs,¬ (x<(if p<=c then c+n else c)/\(if p<=c then c+n else c)<=y):=λc hc=>h _ (List.mem_append_left _ (List.mem_map.mpr ⟨c,hc,rfl⟩))
  show openF .non p n g x=openF .non p n g y
  unfold openF
  by_cases h1:x<p
  ·have h2:y<p:=by omega
   rw [if_pos h1,if_pos h2]
   refine hg x y hxy λc hc z=>?_
   have:=hm c hc
   rw [if_neg (by omega)] at this
   exact this z
  ·have h2:¬ y<p:=by omega
   rw [if_neg h1,if_neg h2]
   by_cases h3:x<p+n
   ·have h4:y<p+n:=by omega
    rw [if_pos h3,if_pos h4]
   ·have h4:¬ y<p+n:=by omega
    rw [if_neg h3,if_neg h4]
    refine hg _ _ (by omega) λc hc z=>?_
    have:=hm c hc
    rw [if_pos (by omega)] at this
    exact this ⟨by omega,by omega⟩
 |cls p n=>
  have hn:0<=n:=hok
  have hp:=h p (List.mem_append_right _ (by simp))
  have hm:∀ c∈cs,¬ (x<(if c-n > (if p<c then p else c) then c-n else (if p<c then p else c))/\(if c-n > (if p<c then p else c) then c-n else (if p<c then p else c))<=y):=λc hc=>h _ (List.mem_append_left _ (List.mem_map.mpr ⟨c,hc,rfl⟩))
  show closeF p n g x=closeF p n g y
  unfold closeF
  by_cases h1:x<p
  ·have h2:y<p:=by omega
   rw [if_pos h1,if_pos h2]
   refine hg x y hxy λc hc z=>?_
   have:=hm c hc
   rw [if_neg (show ¬ p<c by omega),if_neg (show ¬ c-n > c by omega)] at this
   exact this z
  ·have h2:¬ y<p:=by omega
   rw [if_neg h1,if_neg h2]
   refine hg _ _ (by omega) λc hc z=>?_
   have:=hm c hc
   by_cases h5:p<c
   ·rw [if_pos h5] at this
    by_cases h6:c-n > p
    ·rw [if_pos h6] at this
     exact this ⟨by omega,by omega⟩
    ·omega
   ·omega
 |str t=>
  have ht:1<=t:=hok.1
  have hm:∀ c∈cs,¬ (x<c * t/\c * t<=y):=λc hc=>h _ (List.mem_map.mpr ⟨c,hc,rfl⟩)
  show strF t g x=strF t g y
  unfold strF
  refine hg _ _ (Int.ediv_le_ediv (by omega) hxy) λc hc z=>?_
  refine hm c hc ⟨?_,?_⟩
  ·exact (Int.ediv_lt_iff_lt_mul (by omega)).mp z.1
  ·exact (Int.le_ediv_iff_mul_le (by omega)).mp z.2
theorem edges_len (dd:Deed) (cs:List Int):(dd.edges cs).length<=cs.length+2:=by
 cases dd with
 |put s e u=>
  show (cs++(s.toList++e.toList)).length<=_
  rw [List.length_append,List.length_append]
  have h1:∀ o:Option Int,o.toList.length<=1:=λo=>by cases o<;>simp
  have:=h1 s
  have:=h1 e
  omega
 |opn p n=>show (cs.map _++[p,p+n]).length<=_;rw [List.length_append,List.length_map];exact Nat.le_refl _
 |cls p n=>show (cs.map _++[p]).length<=_;rw [List.length_append,List.length_map];show cs.length+1<=_;omega
 |str t=>show (cs.map _).length<=_;rw [List.length_map];omega
theorem low_ex:∀ ps:List (Int×V),∃ x0:Int,∀ q∈ps,x0<q.1
 | []=>⟨0,λq hq=>nomatch hq⟩
 |p::ps=>by
  obtain ⟨x0,h⟩:=low_ex ps
  refine ⟨if x0<p.1 then x0 else p.1 - 1,λq hq=>?_⟩
  rcases List.mem_cons.mp hq with e|hq
  ·rw [e];split<;>omega
  ·have:=h q hq
   split<;>omega
theorem Form.same {v w:V}{a b:List (Int×V)} (ha:Form v a) (hb:Form w b) (h:∀ x,atL v a x=atL w b x):v=w/\a=b:=by
 obtain ⟨x1,h1⟩:=low_ex a
 obtain ⟨x2,h2⟩:=low_ex b
 have e:=h (if x1<x2 then x1 else x2)
 rw [atL_low λq hq=>by have:=h1 q hq;split<;>omega,atL_low λq hq=>by have:=h2 q hq;split<;>omega] at e
 subst e
 exact ⟨rfl,ha.unique hb h⟩
theorem formE_mem {f:Int->V}:∀ {es:List Int}{v:V}{q:Int×V},q∈formE f v es->q.2=f q.1
 | [],_,_,h=>nomatch h
 |e::r,v,q,h=>by
  unfold formE at h
  split at h
  ·rcases List.mem_cons.mp h with z|z
   ·rw [z]
   ·exact formE_mem z
  ·exact formE_mem h
theorem Deed.back_hv (dd:Deed) (hok:dd.Ok) {g:Int->V} (hg:∀ x,HV (g x)) (x:Int):HV (dd.back g x):=by
 cases dd with
 |put s e u=>
  show HV (putF' s e u g x)
  unfold putF'
  split
  ·exact hok
  ·exact hg x
 |opn p n=>
  show HV (openF .non p n g x)
  unfold openF
  split
  ·exact hg x
  ·split
   ·exact HV.non
   ·exact hg _
 |cls p n=>
  show HV (closeF p n g x)
  unfold closeF
  split<;>exact hg _
 |str t=>exact hg _
theorem eqVs_dec:∀ (xs ys:List V),(∀ x∈xs,∀ y∈ys,L2.eqV x y=decide (x=y))->eqVs xs ys=decide (xs=ys)
 | [],[],_=>by simp [eqVs]
 | [],y::ys,_=>by simp [eqVs]
 |x::xs,[],_=>by simp [eqVs]
 |x::xs,y::ys,h=>by
  have ih:=eqVs_dec xs ys λa ha b hb=>h a (List.mem_cons_of_mem _ ha) b (List.mem_cons_of_mem _ hb)
  have e:=h x List.mem_cons_self y List.mem_cons_self
  unfold eqVs at ih ⊢
  rw [List.length_cons,List.length_cons,List.zip_cons_cons,List.all_cons,e]
  rw [Bool.eq_iff_iff] at ih ⊢
  simp only [Bool.and_eq_true,beq_iff_eq,decide_eq_true_eq,List.cons.injEq,Nat.add_right_cancel_iff] at ih ⊢
  constructor
  ·rintro ⟨h1,h2,h3⟩;exact ⟨h2,ih.mp ⟨h1,h3⟩⟩
  ·rintro ⟨h1,h2⟩
   have q:=ih.mpr h2
   exact ⟨q.1,h1,q.2⟩
theorem eqVs_cuts (ps qs:List (Int×V)):eqVs (cutsV ps) (cutsV qs)=decide (cutsV ps=cutsV qs):=by
 refine eqVs_dec _ _ λx hx y hy=>?_
 obtain ⟨q,_,rfl⟩:=List.mem_map.mp hx
 obtain ⟨r,_,rfl⟩:=List.mem_map.mp hy
 show (q.1 == r.1)=_
 rw [Bool.eq_iff_iff];simp
theorem Holds.mem {v:V}{ps:List (Int×V)} (h:Holds v ps):∀ x∈holdsV v ps,HV x:=λx hx=>by
 rcases List.mem_cons.mp hx with e|hx
 ·rw [e];exact h.h0
 ·obtain ⟨q,hq,e⟩:=List.mem_map.mp hx
  rw [<-e];exact h.hs q hq
theorem eqVs_holds {v u:V}{ps qs:List (Int×V)} (h:Holds v ps) (h':Holds u qs):eqVs (holdsV v ps) (holdsV u qs)=decide (holdsV v ps=holdsV u qs):=
 eqVs_dec _ _ λx hx y hy=>(h.mem x hx).eqV (h'.mem y hy)
theorem eqd_pairT {H:Hp}{p q a b c d:Addr}{n:Nat}{ba bb:Bool} (hp:SqT K H p [.ref a,.ref b]) (hq:SqT K H q [.ref c,.ref d]) (e1:EqD K H true n (.ref a) (.ref c) ba) (e2:EqD K H true n (.ref b) (.ref d) bb) :
  EqD K H false (n+1) (.ref p) (.ref q) (ba && bb):=by
 have e:(ba && bb)=(List.range [V.ref a,V.ref b].length).all (λj=>if j=0 then ba else bb):=by cases ba<;>cases bb<;>rfl
 rw [e]
 refine EqD.tups (λj=>if j=0 then ba else bb) hp hq rfl λj x y hx hy=>?_
 match j,hx,hy with
 | 0,hx,hy=>cases hx;cases hy;exact e1
 | 1,hx,hy=>cases hx;cases hy;exact e2
 |j+2,hx,hy=>cases hx
theorem ints_flat {τ:List Int}:∀ x∈τ.map V.int,flatV x=true:=λx hx=>by
 obtain ⟨z,_,rfl⟩:=List.mem_map.mp hx
 rfl
def firstOf:List Int->Int
 | []=>0
 |z::_=>z - 1
def ConstOn (g:Int->V) (cs:List Int):Prop:=∀ x y,x<=y->(∀ c∈cs,¬ (x<c/\c<=y))->g x=g y
theorem edges_form {g:Int->V}{cs τ:List Int} (hg:ConstOn g cs) (hv:∀ x,HV (g x)) (hτ:τ.Pairwise (· < ·)) (hm:∀ x,x∈τ ↔ x∈cs) :
  Form (g (firstOf τ)) (formE g (g (firstOf τ)) τ)/\∀ x,atL (g (firstOf τ)) (formE g (g (firstOf τ)) τ) x=g x:=by
 have cst:∀ {x y:Int},x<=y->(∀ e∈τ,¬ (x<e/\e<=y))->g x=g y:=λ{x y} hxy h=>hg x y hxy λe he=>h e ((hm e).mpr he)
 refine ⟨⟨formE_strict hτ,formE_diff hτ,hv _,λq hq=>by rw [formE_mem hq];exact hv _⟩,λx=>?_⟩
 refine formE_at hτ (λp hp=>?_) (λp e he hle hmax=>?_) x
 ·cases τ with
  |nil=>
   show g p=g 0
   by_cases h0:p<=0
   ·exact cst h0 λe he=>nomatch he
   ·exact (cst (by omega:(0:Int)<=p) λe he=>nomatch he).symm
  |cons z r=>
   show g p=g (z - 1)
   have h1:=hp z List.mem_cons_self
   refine cst (by omega) λe he q=>?_
   rcases List.mem_cons.mp he with w|w
   ·omega
   ·have:=(List.pairwise_cons.mp hτ).1 e w
    omega
 ·refine (cst hle λe' he' q=>?_).symm
  have:=hmax e' he' q.2
  omega
def valD (qs:List (Addr×Deed)):Int->V:=qs.foldl (λf q=>q.2.back f) λ_=>.non
theorem valD_snoc (qs:List (Addr×Deed)) (q:Addr×Deed):valD (qs++[q])=q.2.back (valD qs):=by unfold valD;rw [List.foldl_append];rfl
def edgesD (qs:List (Addr×Deed)):List Int:=qs.foldl (λes q=>q.2.edges es) []
theorem edgesD_snoc (qs:List (Addr×Deed)) (q:Addr×Deed):edgesD (qs++[q])=q.2.edges (edgesD qs):=by unfold edgesD;rw [List.foldl_append];rfl
theorem snocRec {α:Type}{p:List α->Prop} (h0:p []) (hs:∀ r q,p r->p (r++[q])) (l:List α):p l:=by
 have h:∀ n (l:List α),l.length=n->p l:=by
  intro n
  induction n with
  |zero=>intro l hl;rw [List.length_eq_zero_iff.mp hl];exact h0
  |succ n ih=>
   intro l hl
   rcases List.eq_nil_or_concat l with e|⟨r,q,e⟩
   ·rw [e] at hl;cases hl
   ·rw [List.concat_eq_append] at e
    subst e
    refine hs r q (ih r ?_)
    rw [List.length_append,List.length_singleton] at hl
    omega
 exact h _ l rfl
theorem row_const (qs:List (Addr×Deed)):(∀ q∈qs,q.2.Ok)->ConstOn (valD qs) (edgesD qs)/\(∀ x,HV (valD qs x))/\(edgesD qs).length<=2 * qs.length:=by
 refine snocRec (p:=λqs=>(∀ q∈qs,q.2.Ok)->ConstOn (valD qs) (edgesD qs)/\(∀ x,HV (valD qs x))/\(edgesD qs).length<=2 * qs.length) (λ_=>⟨λ_ _ _ _=>rfl,λ_=>HV.non,Nat.le_refl _⟩) (λr q ih hok=>?_) qs
 obtain ⟨h1,h2,h3⟩:=ih λz hz=>hok z (List.mem_append_left _ hz)
 have hq:=hok q (List.mem_append_right _ (List.mem_singleton.mpr rfl))
 rw [valD_snoc,edgesD_snoc]
 refine ⟨λx y hxy h=>back_const q.2 hq h1 hxy h,λx=>q.2.back_hv hq h2 x,?_⟩
 have:=edges_len q.2 (edgesD r)
 rw [List.length_append,List.length_singleton]
 omega
def DeedsAt (K:PySem.W.Frag) (H:Hp) (r:Addr) (qs:List (Addr×Deed)):Prop:=SqL K H r (qs.map λq=>V.ref q.1)/\∀ q∈qs,SqT K H q.1 q.2.vs/\q.2.Ok
theorem DeedsAt.same {H H':Hp}{r:Addr}{qs:List (Addr×Deed)} (h:DeedsAt K H r qs) (s:Same H H'):DeedsAt K H' r qs:=⟨s.seq h.1,λq hq=>⟨Same.tup s (h.2 q hq).1,(h.2 q hq).2⟩⟩
end Cut
namespace Cut
open PySem
def RisT (xs:Array Nat):Prop:=xs.toList.Pairwise (· < ·)
theorem RisT.lt {xs:Array Nat} (r:RisT xs) {a b:Nat} (h:a<b) (hb:b<xs.size):xs[a]'(Nat.lt_trans h hb)<xs[b]:=by
 have:=List.pairwise_iff_getElem.mp r a b (by simpa using Nat.lt_trans h hb) (by simpa using hb) h
 simpa using this
theorem below_go {xs:Array Nat} (r:RisT xs) (j:Nat):∀ (fuel lo hi:Nat),hi-lo<=fuel->lo<=hi->hi<=xs.size->
  (∀ k (h:k<xs.size),k<lo->xs[k]<j)->(∀ k (h:k<xs.size),hi<=k->j<=xs[k])->
  SetTable.below.go xs j fuel lo hi<=xs.size/\(∀ k (h:k<xs.size),k<SetTable.below.go xs j fuel lo hi->xs[k]<j)/\(∀ k (h:k<xs.size),SetTable.below.go xs j fuel lo hi<=k->j<=xs[k])
 | 0,lo,hi,hf,hl,hh,a,b=>by
  have e:lo=hi:=by omega
  subst e
  exact ⟨hh,a,b⟩
 |fuel+1,lo,hi,hf,hl,hh,a,b=>by
  unfold SetTable.below.go
  by_cases hlt:lo<hi
  ·rw [if_pos hlt]
   have hm:(lo+hi) / 2<xs.size:=by omega
   have eg:xs.getD ((lo+hi) / 2) j=xs[(lo+hi) / 2]:=by simp [Array.getD,hm]
   dsimp only
   rw [eg]
   by_cases hx:xs[(lo+hi) / 2]<j
   ·rw [if_pos hx]
    refine below_go r j fuel _ _ (by omega) (by omega) hh (λk h hk=>?_) b
    by_cases e:k=(lo+hi) / 2
    ·subst e;exact hx
    ·exact Nat.lt_trans (r.lt (show k<(lo+hi) / 2 by omega) hm) hx
   ·rw [if_neg hx]
    refine below_go r j fuel _ _ (by omega) (by omega) (by omega) a (λk h hk=>?_)
    by_cases e:k=(lo+hi) / 2
    ·subst e;omega
    ·have:=r.lt (show (lo+hi) / 2<k by omega) h
     omega
  ·rw [if_neg hlt]
   have e:lo=hi:=by omega
   subst e
   exact ⟨hh,a,b⟩
theorem below_spec {xs:Array Nat} (r:RisT xs) (j:Nat):SetTable.below xs j<=xs.size/\(∀ k (h:k<xs.size),k<SetTable.below xs j->xs[k]<j)/\(∀ k (h:k<xs.size),SetTable.below xs j<=k->j<=xs[k]):=
 below_go r j xs.size 0 xs.size (by omega) (Nat.zero_le _) (Nat.le_refl _) (λk h z=>absurd z (Nat.not_lt_zero _)) (λk h z=>absurd h (by omega))
theorem below_walk {xs:Array Nat} (r:RisT xs) {i slot:Nat} (hi:i<=xs.size) (h0:i=0->slot=0) (h1:∀ k (h:k<xs.size),k+1=i->slot=xs[k]+1):SetTable.below xs slot=i:=by
 obtain ⟨a,b,c⟩:=below_spec r slot
 cases i with
 |zero=>
  have e:=h0 rfl
  by_cases z:SetTable.below xs slot=0
  ·exact z
  ·have:=b 0 (by omega) (by omega)
   omega
 |succ i=>
  have e:=h1 i (by omega) rfl
  have h2:i<SetTable.below xs slot:=by
   by_cases z:i<SetTable.below xs slot
   ·exact z
   ·have:=c i (by omega) (by omega)
    omega
  by_cases z:SetTable.below xs slot=i+1
  ·exact z
  ·have h3:=b (i+1) (by omega) (by omega)
   have h4:=r.lt (show i<i+1 by omega) (show i+1<xs.size by omega)
   omega
theorem insertAt_toList {α:Type} (xs:Array α) (p:Nat) (x:α) (hp:p<=xs.size):(SetTable.insertAt xs p x).toList=xs.toList.take p++x::xs.toList.drop p:=by
 unfold SetTable.insertAt
 simp [Array.toList_extract,List.take_of_length_le]
theorem insertAt_perm {α:Type} (xs:Array α) (p:Nat) (x:α) (hp:p<=xs.size):(SetTable.insertAt xs p x).toList.Perm (x::xs.toList):=by
 rw [insertAt_toList xs p x hp]
 refine (List.perm_middle).trans (List.Perm.cons _ ?_)
 rw [List.take_append_drop]
theorem rise_insert {xs:Array Nat} (r:RisT xs) {j:Nat} (hn:xs[SetTable.below xs j]?≠some j):RisT (SetTable.insertAt xs (SetTable.below xs j) j):=by
 obtain ⟨a,b,c⟩:=below_spec r j
 unfold RisT
 rw [insertAt_toList _ _ _ a]
 have key:∀ y∈xs.toList.drop (SetTable.below xs j),j<y:=by
  intro y hy
  obtain ⟨k,hk,rfl⟩:=List.mem_iff_getElem.mp hy
  rw [List.length_drop] at hk
  have hk2:SetTable.below xs j+k<xs.size:=by simpa using (by omega:SetTable.below xs j+k<xs.toList.length)
  rw [List.getElem_drop]
  have h1:=c _ hk2 (by omega)
  simp only [Array.getElem_toList]
  by_cases e:k=0
  ·subst e
   simp only [Nat.add_zero] at h1 hk2 ⊢
   have h2:xs[SetTable.below xs j]≠j:=λz=>hn (by rw [Array.getElem?_eq_getElem hk2,z])
   omega
  ·have h0:=r.lt (show SetTable.below xs j<SetTable.below xs j+k by omega) hk2
   have h3:=c (SetTable.below xs j) (by omega) (Nat.le_refl _)
   omega
 have low:∀ y∈xs.toList.take (SetTable.below xs j),y<j:=by
  intro y hy
  obtain ⟨k,hk,rfl⟩:=List.mem_iff_getElem.mp hy
  rw [List.length_take] at hk
  rw [List.getElem_take]
  simp only [Array.getElem_toList]
  exact b k (by simpa using (by omega:k<xs.toList.length)) (by omega)
 refine List.pairwise_append.mpr ⟨List.Pairwise.sublist (List.take_sublist _ _) r,List.pairwise_cons.mpr ⟨key,List.Pairwise.sublist (List.drop_sublist _ _) r⟩,λy hy z hz=>?_⟩
 rcases List.mem_cons.mp hz with rfl|hz
 ·exact low y hy
 ·exact Nat.lt_trans (low y hy) (key z hz)
theorem rise_range (n:Nat):RisT (Array.range n):=by
 unfold RisT
 rw [Array.toList_range]
 exact List.pairwise_lt_range
theorem live_sub {β:Type} (f:Nat->Option β):∀ l:List Nat,((l.filterMap λj=>(f j).map (j,·)).map (·.1)).Sublist l
 | []=>List.Sublist.slnil
 |j::l=>by
  rw [List.filterMap_cons]
  cases f j with
  |none=>exact List.Sublist.cons _ (live_sub f l)
  |some b=>exact List.Sublist.cons_cons _ (live_sub f l)
structure Good (es:Array (Int×Value)) (t:SetTable):Prop where
 size:t.place.size=es.size
 fill:t.fill<=t.mask
 rise:RisT t.place
 dumm:t.dummies=#[]
theorem Good.stand {t:SetTable}{es:Array (Int×Value)}{n:Nat} (h:n=es.size):Good es (t.standIn n) where
 size:=by simp [SetTable.standIn,h]
 fill:=by simp [SetTable.standIn,SetTable.fill];omega
 rise:=rise_range n
 dumm:=rfl
theorem Good.or {t:SetTable}{es:Array (Int×Value)} (r:RisT t.place) (d:t.dummies=#[]):Good es (t.orStandIn es.size):=by
 unfold SetTable.orStandIn
 by_cases h:t.fits es.size=true
 ·rw [if_pos h]
  unfold SetTable.fits at h
  simp only [Bool.and_eq_true,beq_iff_eq,decide_eq_true_eq] at h
  exact ⟨h.1,h.2,r,d⟩
 ·rw [if_neg h]
  exact Good.stand rfl
theorem or_led (t:SetTable) (n:Nat):(t.orStandIn n).led=t.led:=by
 unfold SetTable.orStandIn
 split<;>rfl
theorem slot_free {t:SetTable} (hd:t.dummies=#[]) {j:Nat} (h:t.slot j=.empty∨t.slot j=.dummy):t.place[SetTable.below t.place j]?≠some j:=by
 intro z
 unfold SetTable.slot at h
 simp [z] at h
theorem probe_free {t:SetTable}{g:Nat->Int}{h:Int} (hd:t.dummies=#[]):∀ (fuel:Nat) (p:SetTable.Probe) (j:Nat) (d:Option Nat),p.dummy=none->
  SetTable.probe.go t g h fuel p=some (.empty j d)->d=none/\t.slot j=.empty
 | 0,p,j,d,hp,e=>by simp [SetTable.probe.go] at e
 |fuel+1,p,j,d,hp,e=>by
  unfold SetTable.probe.go at e
  split at e
  ·rename_i hs
   cases e
   exact ⟨hp,hs⟩
  ·rename_i hs
   exfalso
   unfold SetTable.slot at hs
   dsimp only at hs
   split at hs
   ·cases hs
   ·rw [hd] at hs
    simp [SetTable.has] at hs
  ·split at e
   ·cases e
   ·refine probe_free hd fuel _ j d ?_ e
    unfold SetTable.advance
    split
    ·exact hp
    ·exact hp
theorem Good.lay {es:Array (Int×Value)}{t:SetTable} (G:Good es t) (h:Int) (x:Value) {es':Array (Int×Value)}{t':SetTable}{b c:Bool} (e:layNew t es h x=(es',t',b,c)) :
  es'.toList.Perm ((h,x)::es.toList)/\Good es' t'/\t'.led=t.led/\b=false:=by
 unfold layNew at e
 split at e
 ·rename_i slot wd hf
  unfold SetTable.freeSlot at hf
  split at hf
  ·rename_i j d hp
   obtain ⟨rfl,hs⟩:=probe_free G.dumm _ _ _ _ rfl hp
   cases hf
   have hfree:=slot_free G.dumm (.inl hs)
   have hle:SetTable.below t.place j<=es.size:=by rw [<-G.size];exact (below_spec G.rise j).1
   simp only [SetTable.put,Prod.mk.injEq] at e
   obtain ⟨rfl,rfl,rfl,rfl⟩:=e
   refine ⟨insertAt_perm _ _ _ hle,Good.or (rise_insert G.rise hfree) ?_,?_,rfl⟩
   ·show (if SetTable.has t.dummies j=true then _ else t.dummies)=#[]
    rw [G.dumm]
    rfl
   ·exact or_led _ _
  ·cases hf
 ·cases e
  refine ⟨?_,Good.stand (by simp),rfl,rfl⟩
  simp only [Array.toList_push]
  exact List.perm_append_singleton _ _
theorem filterMap_range {α:Type} (l:List α):((List.range l.length).filterMap λi=>l[i]?)=l:=by
 have e:(List.range l.length).map (λi=>l[i]?)=l.map some:=by
  refine List.ext_getElem (by simp) λi h1 h2=>?_
  simp only [List.length_map,List.length_range] at h1
  simp [h1]
 have e2:=congrArg (λz=>List.filterMap id z) e
 simp only [List.filterMap_map] at e2
 simpa [Function.comp_def] using e2
theorem filterMap_perm {α:Type} (xs:Array α) (l:List Nat) (h:l.Perm (List.range xs.size)):(l.filterMap λi=>xs[i]?).Perm xs.toList:=by
 refine (List.Perm.filterMap _ h).trans (List.Perm.of_eq ?_)
 have e:=filterMap_range xs.toList
 simpa using e
theorem Good.relay {es:Array (Int×Value)}{t:SetTable} (G:Good es t) (wanted:Nat) {es':Array (Int×Value)}{t':SetTable}{c:Bool} (e:relayAll t es wanted=(es',t',c)) :
  es'.toList.Perm es.toList/\Good es' t'/\t'.led=t.led:=by
 unfold relayAll at e
 split at e
 ·rename_i t1 order hr
  dsimp only at e
  split at e
  ·rename_i hc
   cases e
   rw [Bool.and_eq_true] at hc
   have hp:order.toList.Perm (List.range es.size):=List.isPerm_iff.mp hc.1
   have hf:=hc.2
   unfold SetTable.fits at hf
   simp only [Bool.and_eq_true,beq_iff_eq,decide_eq_true_eq] at hf
   unfold SetTable.relaid SetTable.laid at hr
   cases ho:SetTable.layClean (SetTable.sizeAbove wanted - 1) (es.map (·.1)) with
   |none=>rw [ho] at hr;cases hr
   |some owner=>
    rw [ho] at hr
    cases hr
    refine ⟨?_,⟨hf.1,hf.2,?_,rfl⟩,rfl⟩
    ·rw [Array.toList_filterMap]
     exact filterMap_perm es _ hp
    ·unfold RisT
     simp only [List.toList_toArray]
     exact List.Pairwise.sublist (live_sub _ _) List.pairwise_lt_range
  ·cases e
   exact ⟨List.Perm.refl _,Good.stand rfl,rfl⟩
 ·cases e
  exact ⟨List.Perm.refl _,Good.stand rfl,rfl⟩
theorem erase_perm {α:Type}:∀ (l:List α) (i:Nat) (h:i<l.length),(l[i]::l.eraseIdx i).Perm l
 |a::l,0,h=>List.Perm.refl _
 |a::l,i+1,h=>by
  have h':i<l.length:=by simpa using h
  show (l[i]::a::l.eraseIdx i).Perm (a::l)
  exact (List.Perm.swap _ _ _).trans (List.Perm.cons _ (erase_perm l i h'))
theorem pick_perm {α:Type} (next:Nat->Nat):∀ (fuel k:Nat) (left:List α) (out:Array α),left.length=fuel->(pickOrder.go next fuel k left out).toList.Perm (out.toList++left)
 | 0,k,left,out,h=>by
  have e:left=[]:=List.eq_nil_of_length_eq_zero h
  subst e
  unfold pickOrder.go
  simp
 |fuel+1,k,left,out,h=>by
  unfold pickOrder.go
  have hl:next k % left.length<left.length:=Nat.mod_lt _ (by omega)
  rw [List.getElem?_eq_getElem hl]
  dsimp only
  refine (pick_perm next fuel (k+1) _ _ (by rw [List.length_eraseIdx];rw [if_pos hl];omega)).trans ?_
  simp only [Array.toList_push,List.append_assoc,List.singleton_append]
  refine List.Perm.append_left _ ?_
  exact erase_perm _ _ hl
theorem pickOrder_perm {α:Type} (next:Nat->Nat) (xs:Array α):(pickOrder next xs).toList.Perm xs.toList:=by
 unfold pickOrder
 refine (pick_perm next xs.size 0 xs.toList #[] (by simp)).trans ?_
 simp
end Cut
namespace Cut
open PySem PyProof.Rows
def keyI:Value->Int
 | .int k _=>k
 |_=>0
def EleI (e:Int×Value):Prop:=∃ k u,e=(hashInt k,.int k u)
def SetI (w:World) (h:Heap) (a:Addr) (σ:List Int):Prop:=
 ∃ es ep t,h.get? a=some { cls:=.type "set",dict:=none,data:=.set es ep t,slots:=#[] }/\(∀ e∈es.toList,EleI e)/\(es.toList.map λe=>keyI e.2).Perm σ/\
  Good es t/\t.led=!w.params.followText "set-order"
theorem Good.fits {es:Array (Int×Value)}{t:SetTable} (G:Good es t):t.fits es.size=true:=by
 unfold SetTable.fits
 rw [Bool.and_eq_true]
 exact ⟨beq_iff_eq.mpr G.size,decide_eq_true G.fill⟩
theorem SetI.at {w:World}{h h':Heap}{a:Addr}{σ:List Int} (S:SetI w h a σ) (k:∀ o,h.get? a=some o->h'.get? a=some o):SetI w h' a σ:=by
 obtain ⟨es,ep,t,x1,x⟩:=S
 exact ⟨es,ep,t,k _ x1,x⟩
section
variable {prog:Program}{w:World}{A:Around}{E:Value->Shared->Prop}{s:Shared}
theorem eleI_of {l:List (Int×Value)} (h:∀ e∈l,EleI e):ElemsOf (intKind prog w) l:=by
 intro e he
 obtain ⟨k,u,rfl⟩:=h e he
 exact ⟨⟨k,intKind_is _ _ _ _,rfl⟩,rfl⟩
theorem is_key {e:Int×Value} (h:EleI e) (k:Int):(intKind prog w).is k e.2=true ↔ keyI e.2=k:=by
 obtain ⟨j,u,rfl⟩:=h
 constructor
 ·intro z
  exact (intKind prog w).inj _ _ _ (intKind_is prog w j u) z
 ·rintro rfl
  exact intKind_is prog w _ u
theorem store_at {h:Heap}{a:Addr}{es es':Array (Int×Value)}{ep:Nat}{t t':SetTable} (x:h.get? a=some { cls:=.type "set",dict:=none,data:=.set es ep t,slots:=#[] }) :
  (h.update a (Obj.putSet es' t')).get? a=some { cls:=.type "set",dict:=none,data:=.set es' (ep+1) t',slots:=#[] }:=
 Heap.get?_update_self (Obj.putSet es' t') x rfl
theorem add_end {a:Addr}{es es1:Array (Int×Value)}{ep:Nat}{t t1:SetTable}{τ:List Int}{g:Bool->Sem Unit}{R:Option Bool->Shared->Prop}{wd:Bool}
  (hg:∀ (b:Bool) (s₁:Shared) (Q':Unit->Shared->Prop),Q' () s₁->wpAny (model prog w) A (g b) Q' E s₁)
  (x:s.heap.get? a=some { cls:=.type "set",dict:=none,data:=.set es ep t,slots:=#[] })
  (x2:∀ e∈es1.toList,EleI e) (x3:(es1.toList.map λe=>keyI e.2).Perm τ) (x4:Good es1 t1) (x5:t1.led=!w.params.followText "set-order") (hb:es1.size<scanBound)
  (k:∀ h',Heap.SameBut a s.heap h'->SetI w h' a τ->R (some true) { s with heap:=h' }) :
  wpAny (model prog w) A (do
   storeSet a es1 t1
   if (!wd && t1.tooFull)=true then do
    g (relayAll t1 es1 (SetTable.grown es1.size)).2.2
    storeSet a (relayAll t1 es1 (SetTable.grown es1.size)).1 (relayAll t1 es1 (SetTable.grown es1.size)).2.1
    pure (some true)
   else pure (some true)) R E s:=by
 refine wpAny_bind (wpAny_storeSet_of x rfl ?_ (fits_of_scanBound hb))
 have y1:=store_at (es':=es1) (t':=t1) x
 have b1:=Heap.SameBut.update s.heap a (Obj.putSet es1 t1)
 by_cases hc:(!wd && t1.tooFull)=true
 ·rw [if_pos hc]
  cases hR:relayAll t1 es1 (SetTable.grown es1.size) with
  |mk es2 r=>
   obtain ⟨t2,gv⟩:=r
   obtain ⟨p1,p2,p3⟩:=x4.relay _ hR
   have hb2:es2.size<scanBound:=by
    have:=p1.length_eq
    simp only [Array.length_toList] at this
    omega
   refine wpAny_bind (hg _ _ _ (wpAny_bind (wpAny_storeSet_of (s:={ s with heap:=_ }) y1 rfl (wpAny_pure ?_) (fits_of_scanBound hb2))))
   refine k _ (b1.trans (Heap.SameBut.update _ a _)) ⟨es2,_,t2,store_at y1,λe he=>x2 e (p1.mem_iff.mp he),(p1.map _).trans x3,p2,p3.trans x5⟩
 ·rw [if_neg hc]
  exact wpAny_pure (k _ b1 ⟨es1,_,t1,y1,x2,x3,x4,x5⟩)
theorem add_int {a:Addr}{σ:List Int}{k:Int}{u:Tok}{Q:Bool->Shared->Prop} (S:SetI w s.heap a σ) (hroom:σ.length+1<scanBound)
  (h:∀ b h',Heap.SameBut a s.heap h'->SetI w h' a (if k∈σ then σ else σ++[k])->Q b { s with heap:=h' }) :
  wpAny (model prog w) A (setAddHashed a (.int k u) ((intKind prog w).hash k)) Q E s:=by
 obtain ⟨es,ep,t,x,x2,x3,G,x5⟩:=id S
 have hsz:es.size=σ.length:=by
  have:=x3.length_eq
  simpa using this
 have hb:es.size<scanBound:=by omega
 have el:ElemsOf (intKind prog w) es.toList:=eleI_of x2
 unfold setAddHashed setAddHashedIn
 refine wpAny_holding (wpAny_bind (wpAny_setState_of x rfl G.fits ?_))
 dsimp only
 rw [byScan_of (x:=.int k u) rfl hb el,if_pos rfl]
 unfold setAddByScan
 refine wpAny_bind (wpAny_bind (wpAny_rule (wpAny_bind (wpAny_setScan_of (intKind_is prog w k u) x rfl G.fits el ?_))))
 cases hr:List.findIdx? (λe=>(intKind prog w).is k e.2) es.toList with
 |some j=>
  dsimp only
  obtain ⟨hj,hpj,_⟩:=List.findIdx?_eq_some_iff_getElem.mp hr
  have hm:k∈σ:=x3.mem_iff.mp (List.mem_map.mpr ⟨_,List.getElem_mem hj,(is_key (x2 _ (List.getElem_mem hj)) k).mp hpj⟩)
  rw [if_pos hm] at h
  exact wpAny_pure (wpAny_pure (h _ s.heap (Heap.SameBut.refl a s.heap) S))
 |none=>
  dsimp only
  have hm:¬ k∈σ:=by
   intro z
   obtain ⟨e,he,hk⟩:=List.mem_map.mp (x3.mem_iff.mpr z)
   have:=List.findIdx?_eq_none_iff.mp hr e he
   rw [(is_key (x2 e he) k).mpr hk] at this
   cases this
  rw [if_neg hm] at h
  cases hL:layNew t es ((intKind prog w).hash k) (.int k u) with
  |mk es1 r=>
   obtain ⟨t1,wd,gv⟩:=r
   obtain ⟨p1,p2,p3,p4⟩:=G.lay _ _ hL
   have y2:∀ e∈es1.toList,EleI e:=λe he=>by
    rcases List.mem_cons.mp (p1.mem_iff.mp he) with rfl|he'
    ·exact ⟨k,u,rfl⟩
    ·exact x2 e he'
   have y3:(es1.toList.map λe=>keyI e.2).Perm (σ++[k]):=((p1.map _).trans (List.Perm.cons _ x3)).trans (List.perm_append_singleton _ _).symm
   have y5:=p3.trans x5
   have hb1:es1.size<scanBound:=by
    have:=p1.length_eq
    simp only [Array.length_toList,List.length_cons] at this
    omega
   dsimp only
   refine wpAny_bind ?_
   have gw:∀ (R':Unit->Shared->Prop),R' () s->wpAny (model prog w) A (match gv with|true=>rule "set.scan.the-table-gave-way"|false=>pure ()) R' E s:=by
    intro R' q
    cases gv
    ·exact wpAny_pure q
    ·exact wpAny_rule q
   refine gw _ ?_
   by_cases hp:t1.plain=true
   ·rw [if_pos hp]
    refine wpAny_bind ?_
    rw [hashByValue_scannable 8 (x:=.int k u) rfl]
    refine wpAny_pure ?_
    refine add_end ?_ x y2 y3 p2 y5 hb1 λh' sb S'=>wpAny_pure (h _ h' sb S')
    intro b s₁ Q' q
    cases b
    ·exact wpAny_pure q
    ·exact wpAny_rule q
   ·rw [if_neg hp]
    refine wpAny_bind (wpAny_pure ?_)
    refine add_end ?_ x y2 y3 p2 y5 hb1 λh' sb S'=>wpAny_pure (h _ h' sb S')
    intro b s₁ Q' q
    cases b
    ·exact wpAny_pure q
    ·exact wpAny_rule q
end
end Cut
namespace Cut
open PySem PyProof.Rows
def ddup (l:List Int):List Int:=l.foldl (fun σ k=>if k∈σ then σ else σ++[k]) []
theorem ddup_snoc (l:List Int) (k:Int):ddup (l++[k])=if k∈ddup l then ddup l else ddup l++[k]:=by
 unfold ddup
 rw [List.foldl_append]
 rfl
theorem ddup_le:∀ l:List Int,(ddup l).length<=l.length:=by
 suffices h:∀ l σ:List Int,(l.foldl (fun σ k=>if k∈σ then σ else σ++[k]) σ).length<=σ.length+l.length by
  intro l
  have:=h l []
  simpa [ddup] using this
 intro l
 induction l with
 |nil=>intro σ;simp
 |cons a l ih=>
  intro σ
  refine Nat.le_trans (ih _) ?_
  dsimp only
  split<;>simp<;>omega
theorem ddup_mem (x:Int):∀ l:List Int,x∈ddup l ↔ x∈l:=by
 suffices h:∀ l σ:List Int,x∈l.foldl (fun σ k=>if k∈σ then σ else σ++[k]) σ ↔ x∈σ∨x∈l by
  intro l
  have:=h l []
  simpa [ddup] using this
 intro l
 induction l with
 |nil=>intro σ;simp
 |cons a l ih=>
  intro σ
  refine (ih _).trans ?_
  dsimp only
  by_cases z:a∈σ
  ·rw [if_pos z]
   constructor
   ·rintro (q|q)
    ·exact .inl q
    ·exact .inr (List.mem_cons_of_mem _ q)
   ·rintro (q|q)
    ·exact .inl q
    ·rcases List.mem_cons.mp q with rfl|q
     ·exact .inl z
     ·exact .inr q
  ·rw [if_neg z]
   simp only [List.mem_append,List.mem_cons,List.mem_singleton,List.not_mem_nil,or_false,or_assoc]
theorem ddup_nodup:∀ l:List Int,(ddup l).Nodup:=by
 suffices h:∀ l σ:List Int,σ.Nodup->(l.foldl (fun σ k=>if k∈σ then σ else σ++[k]) σ).Nodup by
  intro l
  exact h l [] List.nodup_nil
 intro l
 induction l with
 |nil=>intro σ h;exact h
 |cons a l ih=>
  intro σ h
  refine ih _ ?_
  dsimp only
  by_cases z:a∈σ
  ·rw [if_pos z];exact h
  ·rw [if_neg z]
   refine List.nodup_append.mpr ⟨h,by simp,?_⟩
   intro p hp q hq e
   rw [List.mem_singleton] at hq
   subst hq;subst e
   exact z hp
section
variable {prog:Program}{w:World}{A:Around}{R:Result->Shared->Prop}{I:Addr}{fp wr:List Addr}{G:Array GenState->Array GenState->Prop}{n:Nat}{P:Nat->Value->Prop}{St:Nat->Shared->Prop}
theorem loop_set (W:WalksS prog w A.in1 I fp wr G n P St) (S:Addr) (hS:S ∉ fp) (val:Nat->Int) (hv:∀ i v,P i v->∃ u,v=.int (val i) u) (hb:n+1<scanBound) :
  ∀ (k i:Nat) (s:Shared),n-i=k->i<=n->St i s->SetI w s.heap S (ddup ((List.range i).map val))->
   (∀ s',Moved (S::wr) G s s'->SetI w s'.heap S (ddup ((List.range n).map val))->R (.ok (.ret .none)) s')->
   codeAny (model prog w) A (.builtin "set.update.loop" ⟨[.ref S,.ref I],[]⟩) R s:=by
 have hw:S ∉ wr:=λz=>hS (W.sub _ z)
 have more:∀ b∈wr,b∈S::wr:=λb z=>List.mem_cons_of_mem _ z
 intro k
 induction k with
 |zero=>
  intro i s hk hi st T q
  obtain rfl:i=n:=by omega
  refine codeAny_builtin PyProof.Rows.F.entry_set_update_loop ?_
  rw [Around.under_plainId PyProof.Rows.F.plain_set_update_loop]
  show wpAny _ A.in1 (pyNext (.ref I) >>= _) _ _ _
  exact wpAny_bind (W.done s _ _ st λs' m=>wpAny_pure (q s' (m.mono more) (T.at λo e=>m.heap S o hw e)))
 |succ k ih=>
  intro i s hk hi st T q
  have hlt:i<n:=by omega
  refine codeAny_builtin PyProof.Rows.F.entry_set_update_loop ?_
  rw [Around.under_plainId PyProof.Rows.F.plain_set_update_loop]
  show wpAny _ A.in1 (pyNext (.ref I) >>= _) _ _ _
  refine wpAny_bind (W.item i s _ _ hlt st λv s' hP st' m=>?_)
  obtain ⟨u,rfl⟩:=hv i v hP
  have T':SetI w s'.heap S (ddup ((List.range i).map val)):=T.at λo e=>m.heap S o hw e
  show wpAny _ A.in1 (holding [Value.int (val i) u] (setAdd S (.int (val i) u)) >>= _) _ _ _
  refine wpAny_bind (wpAny_holding ?_)
  unfold setAdd
  refine wpAny_holding (wpAny_bind ((intKind prog w).pyHash (k:=val i) (intKind_is _ _ _ _) ?_))
  have room:(ddup ((List.range i).map val)).length+1<scanBound:=by
   have:=ddup_le ((List.range i).map val)
   simp at this
   omega
  refine add_int (s:={ s' with toks:=s'.toks+1 }) T' room λb h' sb T2=>?_
  have T3:SetI w h' S (ddup ((List.range (i+1)).map val)):=by
   rw [List.range_succ,List.map_append]
   show SetI w h' S (ddup (_++[val i]))
   rw [ddup_snoc]
   exact T2
  refine wpAny_pure ⟨plainId_quiet PyProof.Rows.F.plain_set_update_loop _,ih (i+1) _ (by omega) hlt (W.frame _ s' _ _ st' (Nat.le_succ _) λc hc o e=>?_) T3 λs'' m2 T4=>?_⟩
  ·rw [sb.2 c λz:c=S=>hS (z ▸ hc)]
   exact e
  ·refine q s'' (Moved.trans W.gtrans ((m.mono more).then_heap (Nat.le_succ _) λc o hc e=>?_) m2) T4
   rw [sb.2 c λz:c=S=>hc (z ▸ List.mem_cons_self)]
   exact e
end
section
variable {prog:Program}{w:World}{A:Around}{E:Value->Shared->Prop}{s:Shared}
abbrev oSet0 (w:World):Obj:={ cls:=.type "set",dict:=none,data:=.set #[] 0 (.fresh 0 0 (!w.params.followText "set-order")),slots:=#[] }
theorem setI_new (h:Heap):SetI w (h.push (oSet0 w)) h.objs.size []:=
 ⟨#[],0,_,Heap.get?_push_size _ rfl,λe z=>by simp at z,List.Perm.refl _,⟨rfl,Nat.zero_le _,List.Pairwise.nil,rfl⟩,rfl⟩
theorem set_new1 (a:Value) {Q₁:Value->Shared->Prop} (h:Q₁ (.ref s.heap.objs.size) { s with heap:=s.heap.push (oSet0 w) }) :
  codeAny (model prog w) A (.call (.builtin "set.__new__") ⟨[.type "set",a],[]⟩) (wants Q₁ E) s:=by
 refine codeAny_of_tree ?_
 show wpAny _ A.in1 (checkBuiltinCall "set.__new__" ⟨[.type "set",a],[]⟩ >>= λ_=>again (.builtin "set.__new__" ⟨[.type "set",a],[]⟩)) _ _ s
 refine wpAny_bind (wpAny_of_eq (PySem.F.newCall_set_1 a) (wpAny_pure ⟨plainId_quiet F.plain_set_new _,codeAny_builtin F.entry_set_new ?_⟩))
 rw [Around.under_plainId F.plain_set_new]
 unfold Builtin.«set.__new__» Builtin.Frozenset.newClass
 have sub:=sub_set_self
 obtain ⟨hp,g,d,tk,os⟩:=s
 dsimp only
 wp_walk
 refine wpAny_askSetting (wpAny_pure ?_)
 simp only [newObj]
 exact wpAny_bind (wpAny_alloc (wpAny_pure (wpAny_pure h)))
theorem range_getD:∀ ns:List Int,(List.range ns.length).map (λi=>ns.getD i 0)=ns:=by
 intro ns
 refine List.ext_getElem (by simp) λi h1 h2=>?_
 simp [List.getD,h2]
theorem set_list {l:Addr}{items:Array Value}{ns:List Int}{Q:Value->Shared->Prop} (hh:A.handled=none) (hl:s.heap.IsList l items) (hi:IntsAre items.toList ns) (hb:items.size+1<scanBound)
  (q:∀ (h':Heap) (tk:Nat),SetI w h' s.heap.objs.size (ddup ns)->(∀ b o,b<s.heap.objs.size->s.heap.get? b=some o->h'.get? b=some o)->Q (.ref s.heap.objs.size) { s with heap:=h',toks:=tk }) :
  wpAny (model prog w) A (call (.type "set") [.ref l]) Q E s:=by
 have hlen:items.size=ns.length:=by
  have:=IntsAre.length hi
  simpa using this
 obtain ⟨c,tl,mro⟩:=F.called_set.mro
 have made:=F.called_set.made
 have sub:=F.called_set.sub
 refine wpAny_call ?_
 refine codeAny_of_tree ?_
 show wpAny _ _ (callAny (.type "set") _) _ _ _
 refine wpAny_pure ⟨Code.quiet_builtin _ (by decide +kernel),?_⟩
 refine codeAny_builtin F.entry_type_call ?_
 rw [Around.under_plain (weight_type_call_type "set" [.ref l] []) rfl]
 have n1:=F.called_set.notType
 have n2:=F.called_set.canCreate
 have n3:=F.typeCall_set_1 (.ref l)
 repeat (any_goals (first|assumption|wp_step))
 refine codeAny_mono (set_new1 (.ref l) (E:=E) (Q₁:=λv s₁=>v=.ref s.heap.objs.size/\s₁={ s with heap:=s.heap.push (oSet0 w) }) ⟨rfl,rfl⟩) λr s₁ hr=>?_
 cases r with
 |error e=>exact hr
 |ok fl=>
  cases fl with
  |ret v=>
   obtain ⟨rfl,rfl⟩:=hr
   have g0:(s.heap.push (oSet0 w)).get? s.heap.objs.size=some (oSet0 w):=Heap.get?_push_size _ rfl
   have ty:Shared.TypeIs { s with heap:=s.heap.push (oSet0 w) } (.ref s.heap.objs.size) "set":=⟨_,g0,rfl⟩
   have i1:=F.called_set.init.lookup
   have i2:=F.called_set.init.bind (.ref s.heap.objs.size)
   repeat (any_goals (first|assumption|wp_step))
   refine codeAny_mono (codeAny_call_builtin (R:=wants (λv s₂=>v=.none/\∃ h' tk,s₂={ s with heap:=h',toks:=tk }/\SetI w h' s.heap.objs.size (ddup ns)/\
     (∀ b o,b<s.heap.objs.size->s.heap.get? b=some o->h'.get? b=some o)) E) F.called_set.init.plain F.entry_set_init (check_set_init_1 ty ?_)) λr₂ s₂ hr₂=>?_
   ·obtain ⟨ol,hol,hcl,nl,hdl⟩:=hl
    obtain ⟨ocls,odict,odata,oslots⟩:=ol
    simp only at hcl hdl
    subst hcl
    subst hdl
    have g1:(s.heap.push (oSet0 w)).get? l=some { cls:=.type "list",dict:=odict,data:=.seq items nl,slots:=oslots }:=Heap.get?_push_of_some _ hol
    have n4:=F.sub_list_set
    have n5:=F.sub_list_frozenset
    have n6:(Value.type "list" == Value.type "dict")=false:=by decide
    have lst:(s.heap.push (oSet0 w)).IsList l items:=⟨_,g1,rfl,nl,rfl⟩
    unfold Builtin.«set.__init__» noKeywords Builtin.Frozenset.updateFrom
    generalize hPI:pyIter=PI
    wp_walk
    subst hPI
    refine wpAny_pyIter_list lst ?_
    refine wpAny_bind (wpAny_runValue ?_)
    have hlS:l<s.heap.objs.size:=Heap.lt_size hol
    have hh3:A.in1.in1.in1.handled=none:=by simp [hh]
    have ne1:l≠(s.heap.push (oSet0 w)).objs.size:=by
     rw [Heap.size_push]
     exact Nat.ne_of_lt (Nat.lt_succ_of_lt hlS)
    have ne2:s.heap.objs.size ∉ [(s.heap.push (oSet0 w)).objs.size,l]:=by
     rw [Heap.size_push]
     simp only [List.mem_cons,List.not_mem_nil,or_false,not_or]
     exact ⟨Nat.ne_of_lt (Nat.lt_succ_self _),Nat.ne_of_gt hlS⟩
    have hv:∀ (i:Nat) (v:Value),items[i]?=some v->∃ u,v=.int ((λi=>ns.getD i 0) i) u:=λi v z=>IntsAre.int_at hi i v (by rw [Array.getElem?_toList];exact z)
    refine loop_set ((Walks.list hh3 _ l ne1 items).toS) s.heap.objs.size ne2 (λi=>ns.getD i 0) hv hb items.size 0 _ rfl (Nat.zero_le _) ⟨⟨_,Heap.get?_push_size _ rfl,rfl,rfl⟩,lst.push _⟩ ?x0 ?x1
    case x0=>exact (setI_new s.heap).at λo e=>Heap.get?_push_of_some _ e
    case x1=>
     intro s' m T
     rw [hlen,range_getD] at T
     obtain ⟨h',g',d',tk',os'⟩:=s'
     obtain rfl:g'=s.gens:=m.gens
     obtain rfl:d'=s.drawn:=m.drawn
     obtain rfl:os'=s.os:=m.os
     refine wpAny_pure (show wpAny _ _ (ret Value.none) _ _ _ from wpAny_pure ⟨rfl,h',tk',rfl,T,λb o hb e=>?_⟩)
     refine m.heap b o ?_ (Heap.get?_push_of_some _ (Heap.get?_push_of_some _ e))
     rw [Heap.size_push]
     simp only [List.mem_cons,List.not_mem_nil,or_false,not_or]
     exact ⟨Nat.ne_of_lt hb,Nat.ne_of_lt (Nat.lt_succ_of_lt hb)⟩
   ·cases r₂ with
    |error e=>exact hr₂
    |ok fl₂=>
     cases fl₂ with
     |ret v=>
      obtain ⟨rfl,h',tk,rfl,T,kp⟩:=hr₂
      repeat (any_goals (first|assumption|wp_step))
      exact q _ _ T kp
     |_=>exact hr₂.elim
  |_=>exact hr.elim
end
end Cut
namespace Cut
open PySem PyProof.Rows
theorem sl_next:Slot "set_iterator" "__next__" "set_iterator.__next__":=
 .of (owner:="set_iterator") (n:="__next__") (by rw [typeLookup_type,builtinLookup_eq_fast];kernel_rfl) (by decide +kernel) (by decide +kernel) (by decide +kernel)
  (by first|exact .inl (by decide +kernel)|exact .inr (by decide +kernel)) (by rw [isSubtype_type];kernel_rfl)
theorem en_next:entryFor table "set_iterator.__next__"=some Builtin.«set_iterator.__next__»:=entryFor_of_tree (by kernel_rfl)
theorem ow_next:Manifest.owners.lookup (String.ofList ['r','o','t','a','r','e','t','i','_','t','e','s'].reverse)=some Manifest.sig_set_iterator:=by kernel_rfl
theorem ar_next (a:Value):argsOk "set_iterator.__next__" ⟨[a],[]⟩:=by
 unfold argsOk;rw [signature?_of (id:="set_iterator.__next__") (n:=['_','_','t','x','e','n','_','_']) (o:=['r','o','t','a','r','e','t','i','_','t','e','s']) (by kernel_rfl) ow_next];kernel_rfl
theorem sl_iter:Slot "set" "__iter__" "set.__iter__":=
 .of (owner:="set") (n:="__iter__") (by rw [typeLookup_type,builtinLookup_eq_fast];kernel_rfl) (by decide +kernel) (by decide +kernel) (by decide +kernel)
  (by first|exact .inl (by decide +kernel)|exact .inr (by decide +kernel)) (by rw [isSubtype_type];kernel_rfl)
theorem en_iter:entryFor table "set.__iter__"=some Builtin.«frozenset.__iter__»:=entryFor_alias (id':="frozenset.__iter__") (by kernel_rfl) rfl (by decide +kernel) (by kernel_rfl)
theorem ow_set:Manifest.owners.lookup (String.ofList ['t','e','s'].reverse)=some Manifest.sig_set:=by kernel_rfl
theorem ar_iter (a:Value):argsOk "set.__iter__" ⟨[a],[]⟩:=by
 unfold argsOk;rw [signature?_of (id:="set.__iter__") (n:=['_','_','r','e','t','i','_','_']) (o:=['t','e','s']) (by kernel_rfl) ow_set];kernel_rfl
theorem sl_self:Slot "set_iterator" "__iter__" "set_iterator.__iter__":=
 .of (owner:="set_iterator") (n:="__iter__") (by rw [typeLookup_type,builtinLookup_eq_fast];kernel_rfl) (by decide +kernel) (by decide +kernel) (by decide +kernel)
  (by first|exact .inl (by decide +kernel)|exact .inr (by decide +kernel)) (by rw [isSubtype_type];kernel_rfl)
theorem lk_len:typeLookup (.type "set") "__len__"=pure (some (.builtin "set.__len__")):=by rw [typeLookup_type,builtinLookup_eq_fast];kernel_rfl
section
variable {prog:Program}{w:World}{A:Around}{E:Value->Shared->Prop}{s:Shared}
theorem wp_choose {src:Source}{n:Nat}{Q:Nat->Shared->Prop} (hn:n≠0) (h:∀ k,k<n->Q k { s with drawn:=s.drawn.bump src }):wpAny (model prog w) A (choose src n) Q E s:=
 fun Γ p hΓ=>⟨hn,h _ (Nat.mod_lt _ (Nat.pos_of_ne_zero hn))⟩
theorem wp_draw {α:Type}:∀ (n:Nat) (l:List α) (s:Shared) (Q:List α->Shared->Prop),l.length=n->(∀ r d,r.Perm l->Q r { s with drawn:=d })->wpAny (model prog w) A (drawOrder n l) Q E s
 | 0,l,s,Q,hl,h=>by
  have e:l=[]:=List.eq_nil_of_length_eq_zero hl
  subst e
  exact wpAny_pure (h [] s.drawn (List.Perm.refl _))
 |n+1,[],s,Q,hl,h=>by cases hl
 |n+1,x::l,s,Q,hl,h=>by
  unfold drawOrder
  refine wpAny_bind (wp_choose (by simp) λk hk=>?_)
  rw [List.getElem?_eq_getElem hk]
  refine wpAny_bind (wp_draw n _ _ _ ?_ λr d hp=>wpAny_pure ?_)
  ·rw [List.length_eraseIdx,if_pos hk]
   omega
  ·exact h _ d ((List.Perm.cons _ hp).trans (erase_perm _ _ hk))
def ItAt (h:Heap) (I a:Addr) (x:Value) (i n ep:Nat):Prop:=
 h.get? I=some { cls:=.type "set_iterator",dict:=none,data:=.fields #[x,.int i 0,.ref a,.int n 0,.int ep 0],slots:=#[] }
abbrev SetAt (h:Heap) (a:Addr) (es:Array (Int×Value)) (ep:Nat) (t:SetTable):Prop:=
 h.get? a=some { cls:=.type "set",dict:=none,data:=.set es ep t,slots:=#[] }
theorem next_item {I a:Addr}{es:Array (Int×Value)}{ep i:Nat}{t:SetTable}{slot nx:Nat}{x:Value}{Q:Option Value->Shared->Prop} (hI:ItAt s.heap I a (.int slot 0) i es.size ep) (ha:SetAt s.heap a es ep t) (G:Good es t)
  (hn:∀ (A':Around) (E':Value->Shared->Prop) (Q':Option (Value×Nat)->Shared->Prop),Q' (some (x,nx)) s->wpAny (model prog w) A' (setNext a slot i ep) Q' E' s)
  (q:∀ h',ItAt h' I a (.int nx 0) (i+1) es.size ep->Heap.SameBut I s.heap h'->Q (some x) { s with heap:=h' }):wpAny (model prog w) A (pyNext (.ref I)) Q E s:=by
 have ty:s.TypeIs (.ref I) "set_iterator":=⟨_,hI,rfl⟩
 unfold pyNext
 refine wpAny_bind (wpAny_attempt (wpAny_callSpecial?_slot (name:=Str.ofString "__next__") ty sl_next (wpAny_call_entry sl_next ty en_next ?_ (ar_next _))))
 unfold Builtin.«set_iterator.__next__»
 refine wpAny_bind (wpAny_pure ?_)
 refine wpAny_bind (wpAny_fieldsOf hI rfl ?_)
 dsimp only
 refine wpAny_bind (wpAny_setEntries_of ha rfl G.fits ?_)
 rw [if_neg (by simp)]
 refine wpAny_bind (hn _ _ _ ?_)
 dsimp only
 refine wpAny_bind (wpAny_setField_rec hI (by simp) λh1 g1 b1=>?_)
 refine wpAny_bind (wpAny_setField_rec (s:={ s with heap:=h1 }) g1 (by simp) λh2 g2 b2=>?_)
 exact wpAny_pure ⟨x,rfl,wpAny_pure (q h2 g2 (b1.trans b2))⟩
end
end Cut
namespace Cut
open PySem PyProof.Rows
section
variable {prog:Program}{w:World}{A:Around}{E:Value->Shared->Prop}{s:Shared}
theorem next_stop {I a:Addr}{es:Array (Int×Value)}{ep i:Nat}{t:SetTable}{slot:Nat}{Q:Option Value->Shared->Prop} (hh:A.handled=none) (hI:ItAt s.heap I a (.int slot 0) i es.size ep) (ha:SetAt s.heap a es ep t) (G:Good es t)
  (hn:∀ (A':Around) (E':Value->Shared->Prop) (Q':Option (Value×Nat)->Shared->Prop),Q' none s->wpAny (model prog w) A' (setNext a slot i ep) Q' E' s)
  (q:∀ h',Heap.ExtBut I s.heap h'->Q none { s with heap:=h' }):wpAny (model prog w) A (pyNext (.ref I)) Q E s:=by
 have ty:s.TypeIs (.ref I) "set_iterator":=⟨_,hI,rfl⟩
 unfold pyNext
 refine wpAny_bind (wpAny_attempt (wpAny_callSpecial?_slot (name:=Str.ofString "__next__") ty sl_next (wpAny_call_entry sl_next ty en_next ?_ (ar_next _))))
 unfold Builtin.«set_iterator.__next__»
 refine wpAny_bind (wpAny_pure ?_)
 refine wpAny_bind (wpAny_fieldsOf hI rfl ?_)
 dsimp only
 refine wpAny_bind (wpAny_setEntries_of ha rfl G.fits ?_)
 rw [if_neg (by simp)]
 refine wpAny_bind (hn _ _ _ ?_)
 dsimp only
 refine wpAny_bind (wpAny_setField_rec hI (by simp) λh1 g1 b1=>?_)
 refine wpAny_bind (show wpAny _ _ (newExc (.type "StopIteration") []) _ _ _ from ?_)
 simp only [newExc,newTuple]
 refine wpAny_bind (wpAny_newObj_type ?_ (by size_fits))
 refine wpAny_bind (m:=firstArgMember _ _) (wpAny_of_eq (a:=Value.none) (by first|rfl|(simp only [firstArgMember];rfl)) (wpAny_newObj_type ?_ (by size_fits)))
 simp only [raiseNew]
 refine wpAny_bind (wpAny_handled ?_)
 rw [show A.in1.handled=none from hh]
 refine wpAny_bind (wpAny_pure (wpAny_throw ?_))
 refine wpAny_bind (wpAny_isInstance (T:="StopIteration") (b:=true) ⟨_,Heap.get?_push_size _ rfl,rfl⟩ isSubtype_stop (wpAny_pure ?_))
 exact q _ ((b1.extBut.push _).push _)
theorem setNext_led {a:Addr}{es:Array (Int×Value)}{ep i:Nat}{t:SetTable}{slot:Nat}{Q:Option (Value×Nat)->Shared->Prop} (ha:SetAt s.heap a es ep t) (G:Good es t) (hw:w.params.followText "set-order"=false)
  (hl:t.led=true) (hd:(!t.plain && decide (es.size > 1))=false) (hs:SetTable.below t.place slot=i)
  (q:Q (match es[i]?,t.place[i]? with|some (_,x),some j=>some (x,j+1)|_,_=>none) s):wpAny (model prog w) A (setNext a slot i ep) Q E s:=by
 unfold setNext
 refine wpAny_bind (wpAny_setState_of ha rfl G.fits ?_)
 dsimp only
 unfold setsByText
 refine wpAny_bind (wpAny_bind (wpAny_askSetting (wpAny_pure ?_)))
 show wpAny _ _ (if w.params.followText "set-order"=true then _ else _) _ _ _
 rw [hw,if_neg (by decide)]
 show wpAny _ _ (if (!t.plain && decide (es.size > 1))=true then _ else _) _ _ _
 rw [hd,if_neg (by decide)]
 refine wpAny_bind ?_
 show wpAny _ _ (if (!t.led && !es.isEmpty)=true then _ else _) _ _ _
 rw [hl,if_neg (by simp)]
 refine wpAny_pure (wpAny_pure ?_)
 rw [hs]
 exact q
theorem setNext_text {a:Addr}{es:Array (Int×Value)}{ep i:Nat}{t:SetTable}{slot:Nat}{Q:Option (Value×Nat)->Shared->Prop} (ha:SetAt s.heap a es ep t) (G:Good es t) (hw:w.params.followText "set-order"=true)
  (q:Q (((pickOrder (w.params.setOrder a ep) es)[i]?).map λe=>(e.2,slot)) s):wpAny (model prog w) A (setNext a slot i ep) Q E s:=by
 unfold setNext
 refine wpAny_bind (wpAny_setState_of ha rfl G.fits ?_)
 dsimp only
 unfold setsByText
 refine wpAny_bind (wpAny_bind (wpAny_askSetting (wpAny_pure ?_)))
 show wpAny _ _ (if w.params.followText "set-order"=true then _ else _) _ _ _
 rw [hw,if_pos rfl,if_neg (by simp)]
 refine wpAny_bind ?_
 unfold setWalk
 refine wpAny_bind (wpAny_setState_of ha rfl G.fits ?_)
 dsimp only
 unfold setsByText
 refine wpAny_bind (wpAny_bind (wpAny_askSetting (wpAny_pure ?_)))
 show wpAny _ _ (if w.params.followText "set-order"=true then _ else _) _ _ _
 rw [hw,if_pos rfl]
 exact wpAny_bind (wpAny_askSetting (wpAny_pure (wpAny_pure q)))
end
end Cut
namespace Cut
open PySem PyProof.Rows
theorem en_self:entryFor table "set_iterator.__iter__"=some Builtin.«dict_keyiterator.__iter__»:=entryFor_alias (id':="dict_keyiterator.__iter__") (by kernel_rfl) rfl (by decide +kernel) (by kernel_rfl)
theorem ar_self (a:Value):argsOk "set_iterator.__iter__" ⟨[a],[]⟩:=by
 unfold argsOk;rw [signature?_of (id:="set_iterator.__iter__") (n:=['_','_','r','e','t','i','_','_']) (o:=['r','o','t','a','r','e','t','i','_','t','e','s']) (by kernel_rfl) ow_next];kernel_rfl
section
variable {prog:Program}{w:World}{A:Around}{E:Value->Shared->Prop}{s:Shared}
theorem it_self {I a:Addr}{x:Value}{i n ep:Nat}{Q:Value->Shared->Prop} (hI:ItAt s.heap I a x i n ep) (q:Q (.ref I) s):wpAny (model prog w) A (pyIter (.ref I)) Q E s:=by
 have ty:s.TypeIs (.ref I) "set_iterator":=⟨_,hI,rfl⟩
 refine wpAny_pyIter_slot ty sl_self (wpAny_call_entry sl_self ty en_self ?_ (ar_self _))
 exact wpAny_pure ⟨_,rfl,"set_iterator",_,ty,sl_next.lookup,q⟩
def StI (I a:Addr) (es:Array (Int×Value)) (ep:Nat) (t:SetTable) (Rel:Nat->Nat->Prop) (i:Nat) (h:Heap):Prop:=
 ∃ slot:Nat,ItAt h I a (.int slot 0) i es.size ep/\SetAt h a es ep t/\Rel i slot
theorem walk_int (hh:A.handled=none) {I a:Addr}{es:Array (Int×Value)}{ep:Nat}{t:SetTable} (hne:a≠I) (G:Good es t) (vs:List Value) (Rel:Nat->Nat->Prop)
  (hi:∀ (s:Shared) i slot,i<es.size->Rel i slot->SetAt s.heap a es ep t->∃ x nx,vs[i]?=some x/\Rel (i+1) nx/\
   ∀ (A':Around) (E':Value->Shared->Prop) (Q':Option (Value×Nat)->Shared->Prop),Q' (some (x,nx)) s->wpAny (model prog w) A' (setNext a slot i ep) Q' E' s)
  (hd:∀ (s:Shared) slot,Rel es.size slot->SetAt s.heap a es ep t->
   ∀ (A':Around) (E':Value->Shared->Prop) (Q':Option (Value×Nat)->Shared->Prop),Q' none s->wpAny (model prog w) A' (setNext a slot es.size ep) Q' E' s) :
  Walks prog w A I [I,a] [I] es.size (λi v=>vs[i]?=some v) (StI I a es ep t Rel) where
 sub:=λb hb=>by simp at hb;simp [hb]
 frame:=λi h h' st k=>by
  obtain ⟨slot,x1,x2,x3⟩:=st
  exact ⟨slot,k I (by simp) _ x1,k a (by simp) _ x2,x3⟩
 item:=λi s Q E lt st q=>by
  obtain ⟨slot,x1,x2,x3⟩:=st
  obtain ⟨x,nx,y1,y2,y3⟩:=hi s i slot lt x3 x2
  refine next_item x1 x2 G y3 λh' g b=>?_
  have kp:∀ c o,c≠I->s.heap.get? c=some o->h'.get? c=some o:=λc o hc e=>by rw [b.2 c hc];exact e
  exact q x h' s.toks y1 ⟨nx,g,kp a _ hne x2,y2⟩ λc o hc e=>kp c o (λz=>hc (by simp [z])) e
 done:=λs Q E st q=>by
  obtain ⟨slot,x1,x2,x3⟩:=st
  exact next_stop hh x1 x2 G (hd s slot x3 x2) λh' b=>q h' s.toks λc o hc e=>b c o (λz=>hc (by simp [z])) e
 self:=λi s Q E st q=>by
  obtain ⟨slot,x1,_⟩:=st
  exact it_self x1 q
def StD (I a T:Addr) (es:Array (Int×Value)) (ep:Nat) (t:SetTable) (pl:List Nat) (i:Nat) (h:Heap):Prop:=
 ItAt h I a (.ref T) i es.size ep/\SetAt h a es ep t/\h.get? T=some { cls:=.type "tuple",dict:=none,data:=.seq (pl.map λ(k:Nat)=>rawInt (k:Int)).toArray,slots:=#[] }
theorem walk_drawn (hh:A.handled=none) {I a T:Addr}{es:Array (Int×Value)}{ep:Nat}{t:SetTable} (hne:a≠I) (hT:T≠I) (G:Good es t) (pl:List Nat) (hp:pl.Perm (List.range es.size)) :
  Walks prog w A I [I,a,T] [I] es.size (λi v=>(pl.map λk=>(es.getD k (0,.none)).2)[i]?=some v) (StD I a T es ep t pl) where
 sub:=λb hb=>by simp at hb;simp [hb]
 frame:=λi h h' st k=>⟨k I (by simp) _ st.1,k a (by simp) _ st.2.1,k T (by simp) _ st.2.2⟩
 item:=λi s Q E lt st q=>by
  obtain ⟨x1,x2,x3⟩:=st
  have hlen:pl.length=es.size:=by
   have:=hp.length_eq
   simpa using this
  have li:i<pl.length:=by omega
  have hk:pl[i]<es.size:=by
   have:=hp.mem_iff.mp (List.getElem_mem li)
   simpa using this
  have ty:s.TypeIs (.ref I) "set_iterator":=⟨_,x1,rfl⟩
  unfold pyNext
  refine wpAny_bind (wpAny_attempt (wpAny_callSpecial?_slot (name:=Str.ofString "__next__") ty sl_next (wpAny_call_entry sl_next ty en_next ?_ (ar_next _))))
  unfold Builtin.«set_iterator.__next__»
  refine wpAny_bind (wpAny_pure ?_)
  refine wpAny_bind (wpAny_fieldsOf x1 rfl ?_)
  dsimp only
  refine wpAny_bind (wpAny_setEntries_of x2 rfl G.fits ?_)
  rw [if_neg (by simp)]
  refine wpAny_bind (wpAny_seqItems x3 rfl ?_)
  have e1:((pl.map λ(k:Nat)=>rawInt (k:Int)).toArray)[(i:Int).toNat]?=some (rawInt (pl[i]:Int)):=by simp [li]
  dsimp only
  rw [e1]
  dsimp only [rawInt]
  refine wpAny_bind ?_
  unfold setNextDrawn
  refine wpAny_bind (wpAny_setState_of x2 rfl G.fits ?_)
  dsimp only
  rw [if_neg (by simp)]
  have e2:es[(pl[i]:Int).toNat]?=some es[pl[i]]:=by simp [hk]
  rw [e2]
  refine wpAny_pure ?_
  refine wpAny_bind (wpAny_setField_rec x1 (by simp) λh1 g1 b1=>?_)
  have kp:∀ c o,c≠I->s.heap.get? c=some o->h1.get? c=some o:=λc o hc e=>by rw [b1.2 c hc];exact e
  refine wpAny_pure ⟨_,rfl,wpAny_pure (q _ h1 s.toks ?_ ⟨g1,kp a _ hne x2,kp T _ hT x3⟩ λc o hc e=>kp c o (λz=>hc (by simp [z])) e)⟩
  simp [li,hk,Array.getD]
 done:=λs Q E st q=>by
  obtain ⟨x1,x2,x3⟩:=st
  have hlen:pl.length=es.size:=by
   have:=hp.length_eq
   simpa using this
  have ty:s.TypeIs (.ref I) "set_iterator":=⟨_,x1,rfl⟩
  unfold pyNext
  refine wpAny_bind (wpAny_attempt (wpAny_callSpecial?_slot (name:=Str.ofString "__next__") ty sl_next (wpAny_call_entry sl_next ty en_next ?_ (ar_next _))))
  unfold Builtin.«set_iterator.__next__»
  refine wpAny_bind (wpAny_pure ?_)
  refine wpAny_bind (wpAny_fieldsOf x1 rfl ?_)
  dsimp only
  refine wpAny_bind (wpAny_setEntries_of x2 rfl G.fits ?_)
  rw [if_neg (by simp)]
  refine wpAny_bind (wpAny_seqItems x3 rfl ?_)
  have e1:((pl.map λ(k:Nat)=>rawInt (k:Int)).toArray)[((es.size:Nat):Int).toNat]?=none:=by simp [hlen]
  dsimp only
  rw [e1]
  dsimp only
  refine wpAny_bind (wpAny_setField_rec x1 (by simp) λh0 g0 b0=>?_)
  refine wpAny_bind (wpAny_setField_rec (s:={ s with heap:=h0 }) g0 (by simp) λh1 g1 b1=>?_)
  refine wpAny_bind (show wpAny _ _ (newExc (.type "StopIteration") []) _ _ _ from ?_)
  simp only [newExc,newTuple]
  refine wpAny_bind (wpAny_newObj_type ?_ (by size_fits))
  refine wpAny_bind (m:=firstArgMember _ _) (wpAny_of_eq (a:=Value.none) (by first|rfl|(simp only [firstArgMember];rfl)) (wpAny_newObj_type ?_ (by size_fits)))
  simp only [raiseNew]
  refine wpAny_bind (wpAny_handled ?_)
  rw [show A.in1.handled=none from hh]
  refine wpAny_bind (wpAny_pure (wpAny_throw ?_))
  refine wpAny_bind (wpAny_isInstance (T:="StopIteration") (b:=true) ⟨_,Heap.get?_push_size _ rfl,rfl⟩ isSubtype_stop (wpAny_pure ?_))
  have kp:=((b0.trans b1).extBut.push { cls:=.type "tuple",dict:=none,data:=.seq #[] }).push
  exact q _ s.toks λc o hc e=>(((b0.trans b1).extBut.push _).push _) c o (λz=>hc (by simp [z])) e
 self:=λi s Q E st q=>it_self st.1 q
end
end Cut
namespace Cut
open PySem PyProof.Rows
theorem intsAre_of:∀ (l:List (Int×Value)),(∀ e∈l,EleI e)->IntsAre (l.map (·.2)) (l.map λe=>keyI e.2)
 | [],_=>.nil
 |e::l,h=>by
  obtain ⟨k,u,rfl⟩:=h e (List.mem_cons_self ..)
  exact .cons k u (intsAre_of l λe he=>h e (List.mem_cons_of_mem _ he))
section
variable {prog:Program}{w:World}{A:Around}{E:Value->Shared->Prop}{s:Shared}
def Over (prog:Program) (w:World) (A:Around) (σ:List Int) (a:Addr) (L:Nat) (I:Addr) (h:Heap):Prop:=
 ∃ (fp:List Addr) (n:Nat) (vs:List Value) (τ:List Int) (St:Nat->Heap->Prop),Walks prog w A I fp [I] n (λi v=>vs[i]?=some v) St/\St 0 h/\(∀ b∈fp,b<h.objs.size)/\I∈fp/\IntsAre vs τ/\τ.Perm σ/\vs.length=n/\∀ b∈fp,b=a∨L<=b
theorem iter_set {a:Addr}{σ:List Int}{Q:Value->Shared->Prop} (hh:A.handled=none) (S:SetI w s.heap a σ) (hb:σ.length<scanBound)
  (q:∀ I h' d',Over prog w A σ a s.heap.objs.size I h'->(∀ b o,s.heap.get? b=some o->h'.get? b=some o)->s.heap.objs.size<=I->Q (.ref I) { s with heap:=h',drawn:=d' }):wpAny (model prog w) A (pyIter (.ref a)) Q E s:=by
 obtain ⟨es,ep,t,x,x2,x3,G,x5⟩:=S
 have ty:s.TypeIs (.ref a) "set":=⟨_,x,rfl⟩
 have ha:a<s.heap.objs.size:=Heap.lt_size x
 have hsz:es.size<=sizeLine:=by
  have:=x3.length_eq
  simp only [List.length_map,Array.length_toList] at this
  exact fits_of_scanBound (by omega)
 refine wpAny_pyIter_slot ty sl_iter (wpAny_call_entry sl_iter ty en_iter ?_ (ar_iter _))
 unfold Builtin.«frozenset.__iter__» Builtin.Frozenset.slot0
 refine wpAny_bind (wpAny_bind (wpAny_pure (wpAny_pure ?_)))
 unfold Builtin.Frozenset.sizeOf
 refine wpAny_bind (wpAny_bind (wpAny_setEntries_of x rfl G.fits (wpAny_pure ?_)))
 unfold setDrawn setsByText
 refine wpAny_bind (wpAny_bind (wpAny_setState_of x rfl G.fits ?_))
 dsimp only
 refine wpAny_bind (wpAny_bind (wpAny_askSetting (wpAny_pure (wpAny_pure ?_))))
 show wpAny _ _ (if (!w.params.followText "set-order" && (!t.plain && decide (es.size > 1)))=true then _ else _) _ _ _
 by_cases hc:(!w.params.followText "set-order" && (!t.plain && decide (es.size > 1)))=true
 ·rw [if_pos hc]
  refine wpAny_bind (wp_draw es.size (List.range es.size) _ _ List.length_range λr d hp=>?_)
  have hrl:r.length=es.size:=by
   have:=hp.length_eq
   simpa using this
  have hes:es.size<=sizeLine:=hsz
  refine wpAny_bind (wpAny_newTuple ?_ (by rw [List.length_map,hrl];exact hes))
  have g1:=Heap.get?_push_of_some { cls:=.type "tuple",data:=.seq (r.map λ(k:Nat)=>rawInt (k:Int)).toArray } x
  refine wpAny_bind (wpAny_setEpoch_of (s:={ s with heap:=_,drawn:=d }) g1 rfl G.fits ?_)
  refine wpAny_bind (wpAny_newObj_type (wpAny_pure ⟨_,rfl,"set_iterator",_,⟨_,Heap.get?_push_size _ rfl,rfl⟩,sl_next.lookup,?_⟩))
  have z1:(s.heap.push { cls:=.type "tuple",data:=.seq (r.map λ(k:Nat)=>rawInt (k:Int)).toArray }).objs.size=s.heap.objs.size+1:=Heap.size_push ..
  refine q _ _ _ ⟨_,_,r.map λk=>(es.getD k (0,.none)).2,r.map λk=>keyI (es.getD k (0,.none)).2,_,walk_drawn (T:=s.heap.objs.size) (t:=t) (ep:=ep) hh ?n1 ?n2 G r hp,⟨Heap.get?_push_size _ rfl,Heap.get?_push_of_some _ g1,Heap.get?_push_of_some _ (Heap.get?_push_size _ rfl)⟩,?n3,by simp,?n4,?n5,by rw [List.length_map,hrl],?n6⟩ (λb o e=>Heap.get?_push_of_some _ (Heap.get?_push_of_some _ e)) (by show s.heap.objs.size<=_;rw [z1];exact Nat.le_succ _)
  case n1=>show a≠_;rw [z1];exact Nat.ne_of_lt (Nat.lt_succ_of_lt ha)
  case n2=>show s.heap.objs.size≠_;rw [z1];exact Nat.ne_of_lt (Nat.lt_succ_self _)
  case n3=>
   intro b hb
   rw [Heap.size_push,z1]
   rw [z1] at hb
   simp only [List.mem_cons,List.not_mem_nil,or_false] at hb
   rcases hb with rfl|rfl|rfl
   ·exact Nat.lt_succ_self _
   ·exact Nat.lt_succ_of_lt (Nat.lt_succ_of_lt ha)
   ·exact Nat.lt_succ_of_lt (Nat.lt_succ_self _)
  case n6=>
   intro b hb
   rw [z1] at hb
   simp only [List.mem_cons,List.not_mem_nil,or_false] at hb
   rcases hb with rfl|rfl|rfl
   ·exact .inr (Nat.le_succ _)
   ·exact .inl rfl
   ·exact .inr (Nat.le_refl _)
  case n4=>
   have e1:(r.map λk=>(es.getD k (0,.none)).2)=(r.map λk=>es.getD k (0,.none)).map (·.2):=by rw [List.map_map];rfl
   have e2:(r.map λk=>keyI (es.getD k (0,.none)).2)=(r.map λk=>es.getD k (0,.none)).map λe=>keyI e.2:=by rw [List.map_map];rfl
   rw [e1,e2]
   refine intsAre_of _ λe he=>?_
   obtain ⟨k,hk,rfl⟩:=List.mem_map.mp he
   have lk:k<es.size:=by simpa using hp.mem_iff.mp hk
   have e3:es.getD k (0,.none)=es[k]:=by simp [Array.getD,lk]
   rw [e3]
   exact x2 _ (by simp)
  case n5=>
   refine (hp.map _).trans (List.Perm.trans (List.Perm.of_eq ?_) x3)
   refine List.ext_getElem (by simp) λk h1 h2=>?_
   have lk:k<es.size:=by simpa using h1
   simp [Array.getD,lk]
 ·rw [if_neg hc]
  refine wpAny_bind (wpAny_pure ?_)
  refine wpAny_bind (wpAny_setEpoch_of x rfl G.fits ?_)
  refine wpAny_bind (wpAny_newObj_type (wpAny_pure ⟨_,rfl,"set_iterator",_,⟨_,Heap.get?_push_size _ rfl,rfl⟩,sl_next.lookup,?_⟩))
  have fpb:∀ (o:Obj),∀ b∈[s.heap.objs.size,a],b<(s.heap.push o).objs.size:=by
   intro o b hb
   rw [Heap.size_push]
   simp only [List.mem_cons,List.not_mem_nil,or_false] at hb
   rcases hb with rfl|rfl
   ·exact Nat.lt_succ_self _
   ·exact Nat.lt_succ_of_lt ha
  have ab:∀ b∈[s.heap.objs.size,a],b=a∨s.heap.objs.size<=b:=by
   intro b hb
   simp only [List.mem_cons,List.not_mem_nil,or_false] at hb
   rcases hb with rfl|rfl
   ·exact .inr (Nat.le_refl _)
   ·exact .inl rfl
  by_cases hw:w.params.followText "set-order"=true
  ·have pp:=pickOrder_perm (w.params.setOrder a ep) es
   have pl:(pickOrder (w.params.setOrder a ep) es).size=es.size:=by
    have:=pp.length_eq
    simpa using this
   refine q _ _ s.drawn ⟨_,_,(pickOrder (w.params.setOrder a ep) es).toList.map (·.2),(pickOrder (w.params.setOrder a ep) es).toList.map λe=>keyI e.2,_,
    walk_int (t:=t) (ep:=ep) (es:=es) hh (Nat.ne_of_lt ha) G _ (λ_ _=>True) ?m1 ?m2,⟨0,Heap.get?_push_size _ rfl,Heap.get?_push_of_some _ x,trivial⟩,fpb _,by simp,intsAre_of _ λe he=>x2 e (pp.mem_iff.mp he),(pp.map _).trans x3,by simp [pl],ab⟩
    (λb o e=>Heap.get?_push_of_some _ e) (Nat.le_refl _)
   case m1=>
    intro s i slot lt _ g
    have li:i<(pickOrder (w.params.setOrder a ep) es).size:=by omega
    refine ⟨(pickOrder (w.params.setOrder a ep) es)[i].2,slot,by simp [li],trivial,λA' E' Q' q'=>setNext_text g G hw ?_⟩
    simp only [Array.getElem?_eq_getElem li,Option.map_some]
    exact q'
   case m2=>
    intro s slot _ g A' E' Q' q'
    refine setNext_text g G hw ?_
    rw [Array.getElem?_eq_none (by omega)]
    exact q'
  ·have hwf:w.params.followText "set-order"=false:=by simpa using hw
   have hl:t.led=true:=by rw [x5,hwf];rfl
   have hd:(!t.plain && decide (es.size > 1))=false:=by
    rw [hwf] at hc
    simpa using hc
   refine q _ _ s.drawn ⟨_,_,es.toList.map (·.2),es.toList.map λe=>keyI e.2,_,
    walk_int (t:=t) (ep:=ep) (es:=es) hh (Nat.ne_of_lt ha) G _ (λi slot=>SetTable.below t.place slot=i) ?m1 ?m2,⟨0,Heap.get?_push_size _ rfl,Heap.get?_push_of_some _ x,?m3⟩,fpb _,by simp,intsAre_of _ x2,x3,by simp,ab⟩
    (λb o e=>Heap.get?_push_of_some _ e) (Nat.le_refl _)
   case m1=>
    intro s i slot lt hr g
    have lp:i<t.place.size:=by rw [G.size];exact lt
    refine ⟨es[i].2,t.place[i]+1,by simp [lt],?_,λA' E' Q' q'=>setNext_led g G hwf hl hd hr ?_⟩
    ·exact below_walk G.rise (by omega) (λz=>nomatch z) λk hk e=>by
      obtain rfl:k=i:=by omega
      rfl
    ·rw [Array.getElem?_eq_getElem lt,Array.getElem?_eq_getElem lp]
     exact q'
   case m2=>
    intro s slot hr g A' E' Q' q'
    refine setNext_led g G hwf hl hd hr ?_
    rw [Array.getElem?_eq_none (Nat.le_refl _)]
    exact q'
   case m3=>
    exact below_walk G.rise (Nat.zero_le _) (λ_=>rfl) λk hk e=>by cases e
end
end Cut
namespace Cut
open PySem PyProof.Rows
section
variable {prog:Program}{w:World}{A:Around}{E:Value->Shared->Prop}{s:Shared}
theorem hint_set {a:Addr}{Q:Bool->Shared->Prop} (ty:s.TypeIs (.ref a) "set") (q:Q false s):wpAny (model prog w) A (Builtin.List.listLengthHint (.ref a)) Q E s:=by
 unfold Builtin.List.listLengthHint
 refine wpAny_bind (wpAny_specialOf ty lk_len ?_)
 generalize hid:("set.__len__":String)=id0
 wp_delta
 rw [show splitId id0=some ("set","__len__") from by subst hid;decide +kernel]
 subst hid
 refine wpAny_bind (wpAny_isInstance (T:="set") (b:=true) ty (by rw [isSubtype_type];kernel_rfl) ?_)
 refine wpAny_ite_split (λz=>absurd z (by decide)) λ_=>?_
 refine wpAny_ite_split (λ_=>?_) λz=>absurd (by decide +kernel) z
 exact wpAny_bind (wpAny_typeOf ty (wpAny_pure q))
theorem items_ints {vs:List Value}{τ:List Int}{acc:Array Value} (hI:IntsAre vs τ) (h:ItemsOf (λi v=>vs[i]?=some v) acc vs.length):acc.toList=vs:=by
 refine List.ext_getElem? λi=>?_
 have hz:=h.1
 by_cases hi:i<vs.length
 ·have hj:i<acc.size:=by omega
  have e:acc[i]?=some acc[i]:=Array.getElem?_eq_getElem hj
  rw [Array.getElem?_toList,e]
  exact (h.2 i _ e).symm
 ·have h1:vs[i]?=none:=List.getElem?_eq_none (by omega)
  have h2:acc.toList[i]?=none:=List.getElem?_eq_none (by rw [Array.length_toList];omega)
  rw [h1,h2]
theorem collect_set {a:Addr}{σ:List Int}{Q:List Value->Shared->Prop} (hh:A.handled=none) (S:SetI w s.heap a σ) (hb:σ.length<scanBound)
  (q:∀ vs τ h' d' tk,IntsAre vs τ->τ.Perm σ->(∀ b o,s.heap.get? b=some o->h'.get? b=some o)->s.heap.objs.size<h'.objs.size->Q vs { s with heap:=h',drawn:=d',toks:=tk }):wpAny (model prog w) A (collect (.ref a)) Q E s:=by
 have ha:a<s.heap.objs.size:=by
  obtain ⟨es,ep,t,x,_⟩:=id S
  exact Heap.lt_size x
 unfold collect
 refine wpAny_bind (wpAny_runValue (codeAny_builtin PySem.F.entry_proto_collect ?_))
 rw [Around.under_plainId PySem.F.plain_proto_collect]
 show wpAny _ A.in1 (newList [] >>= λl=>again (.builtin "list.__iadd__" ⟨[l,.ref a],[]⟩)) _ _ _
 refine wpAny_bind (wpAny_newObj_type (wpAny_pure ⟨plainId_quiet PySem.F.plain_list_iadd _,codeAny_builtin PySem.F.entry_list_iadd ?_⟩))
 rw [Around.under_plainId PySem.F.plain_list_iadd]
 show wpAny _ A.in1 (Builtin.List.listExtendWith (.ref s.heap.objs.size) (.ref a) (.ref s.heap.objs.size)) _ _ _
 have S1:SetI w (s.heap.push { cls:=.type "list",data:=.seq ([]:List Value).toArray }) a σ:=S.at λo e=>Heap.get?_push_of_some _ e
 have ty1:Shared.TypeIs { s with heap:=s.heap.push { cls:=.type "list",data:=.seq ([]:List Value).toArray } } (.ref a) "set":=by
  obtain ⟨es,ep,t,x,_⟩:=id S1
  exact ⟨_,x,rfl⟩
 have hS:(s.heap.push { cls:=.type "list",data:=.seq ([]:List Value).toArray }).get? s.heap.objs.size=some { cls:=.type "list",data:=.seq #[] 0 }:=Heap.get?_push_size _ rfl
 unfold Builtin.List.listExtendWith
 refine wpAny_bind (wpAny_typeOf ty1 ?_)
 have k1:Builtin.List.listSameRef (.ref s.heap.objs.size) (.ref a)=false:=by
  simp only [Builtin.List.listSameRef]
  exact beq_eq_false_iff_ne.mpr (Nat.ne_of_gt ha)
 rw [if_neg (by rw [k1];decide)]
 refine wpAny_bind (iter_set (A:=A.in1) hh S1 hb λI h1 d1 ov kp le=>?_)
 have ty2:Shared.TypeIs { s with heap:=h1,drawn:=d1 } (.ref a) "set":=by
  obtain ⟨es,ep,t,x,_⟩:=id S1
  exact ⟨_,kp _ _ x,rfl⟩
 refine wpAny_bind (wpAny_holding (hint_set ty2 ?_))
 rw [if_pos (by decide)]
 refine wpAny_bind (wpAny_rule (wpAny_bind ?_))
 have hS1:=kp _ _ hS
 show wpAny _ _ (updateSeq s.heap.objs.size (·.push .none) >>= λ_=>updateSeq s.heap.objs.size (·.pop)) _ _ _
 refine wpAny_bind (wpAny_updateSeq (s:={ s with heap:=h1,drawn:=d1 }) hS1 rfl ?_)
 have hS2:=Heap.get?_update_self (Obj.mapSeq (·.push Value.none)) hS1 rfl
 refine wpAny_updateSeq (s:={ s with heap:=_,drawn:=d1 }) (hz:=by seq_fits) hS2 rfl ?_
 have hS3:=Heap.get?_update_self (Obj.mapSeq (·.pop)) hS2 rfl
 obtain ⟨fp,n,vs,τ,St,W,st,fpb,hI,ia,pm,hn,ab⟩:=ov
 have hSf:s.heap.objs.size ∉ fp:=by
  intro z
  rcases ab _ z with e|e
  ·exact absurd e (Nat.ne_of_gt ha)
  ·rw [Heap.size_push] at e
   exact Nat.not_succ_le_self _ e
 subst hn
 have hn:vs.length<=sizeLine:=by
  have e1:=IntsAre.length ia
  have e2:=pm.length_eq
  exact fits_of_scanBound (by omega)
 have oth:∀ b o,b≠s.heap.objs.size->h1.get? b=some o->((h1.update s.heap.objs.size (Obj.mapSeq (·.push Value.none))).update s.heap.objs.size (Obj.mapSeq (·.pop))).get? b=some o:=
  λb o hb e=>(Heap.get?_update_other _ _ (Ne.symm hb)).trans ((Heap.get?_update_other _ _ (Ne.symm hb)).trans e)
 refine wpAny_pure ⟨plainId_quiet PySem.F.plain_extend_loop _,codeAny_extend_loopS W.toS hn _ hSf _ vs.length 0 _ #[] _ rfl (Nat.zero_le _) (W.frame 0 _ _ st λb z o e=>oth b o (λy=>hSf (y ▸ z)) e) hS3 (ItemsOf.nil _) λs' acc c' m g hacc=>?_⟩
 show wpAny _ A (load s.heap.objs.size >>= _) _ _ s'
 refine wpAny_bind (wpAny_load g (wpAny_pure ?_))
 rw [items_ints ia hacc]
 obtain ⟨h',g',d',tk',os'⟩:=s'
 obtain rfl:g'=s.gens:=m.gens
 obtain rfl:d'=d1:=m.drawn
 obtain rfl:os'=s.os:=m.os
 refine q vs τ h' d' tk' ia pm (λb o e=>m.heap b o ?_ (oth b o (Nat.ne_of_lt (Heap.lt_size e)) (kp b o (Heap.get?_push_of_some _ e)))) (Heap.lt_size g)
 intro z
 have lt:=Heap.lt_size e
 rcases List.mem_cons.mp z with y|y
 ·exact absurd y (Nat.ne_of_lt lt)
 ·rw [List.mem_singleton] at y
  rw [Heap.size_push] at le
  exact absurd (Nat.lt_of_lt_of_le lt (Nat.le_of_succ_le le)) (by rw [y];exact Nat.lt_irrefl _)
theorem sorted_set {a:Addr}{σ:List Int}{Q:Value->Shared->Prop} (hh:A.handled=none) (S:SetI w s.heap a σ) (hb:σ.length<64)
  (q:∀ l out τ h' d' tk,IntsAre out τ->τ.Perm σ->τ.Pairwise (·<=·)->(∃ n,h'.get? l=some (seqObj "list" out.toArray n))->s.heap.objs.size<=l->(∀ b o,s.heap.get? b=some o->h'.get? b=some o)->Q (.ref l) { s with heap:=h',drawn:=d',toks:=tk }) :
  wpAny (model prog w) A (call (.builtin "sorted") [.ref a]) Q E s:=by
 refine Calls.call_function_entry kind_sorted plain_sorted entry_sorted (args_sorted1 _) ?_
 unfold Builtin.«sorted»
 refine wpAny_bind (m:=checkCount "sorted" 1 1 _) (wpAny_pure (wpAny_bind (collect_set (A:=A.in1) hh S (by unfold scanBound;omega) λvs τ h1 d1 tk1 ia pm kp lt1=>?_)))
 have hl:vs.length<64:=by
  have e1:=IntsAre.length ia
  have e2:=pm.length_eq
  omega
 refine wpAny_bind (wpAny_newList ?_)
 have g:(h1.push (seqObj "list" vs.toArray 0)).get? h1.objs.size=some (seqObj "list" vs.toArray 0):=Heap.get?_push_size _ rfl
 refine wpAny_bind (wpAny_holding (wpAny_call_entry slot_list_sort ⟨_,g,rfl⟩ entry_list_sort (list_sort_tree g ia hl λout ns' a1 a2 a3=>⟨_,rfl,?_⟩) (args_list_sort _)))
 have le:s.heap.objs.size<=h1.objs.size:=Nat.le_of_lt lt1
 refine wpAny_pure ⟨_,rfl,q h1.objs.size out.toList ns' _ _ _ a1 (a2.trans pm) a3 ?_ le λb o e=>?_⟩
 ·have y1:=get?_update_seq g (λ_=>#[])
  have y2:=Heap.get?_push_of_some (seqObj "list" #[] 0) (Heap.get?_push_of_some (seqObj "tuple" vs.toArray 0) y1)
  have y3:=get?_update_seq y2 (λ_=>out)
  rw [Array.toArray_toList]
  exact ⟨_,y3⟩
 ·have nb:b≠h1.objs.size:=Nat.ne_of_lt (Heap.lt_size (kp b o e))
  have y0:=Heap.get?_push_of_some (seqObj "list" vs.toArray 0) (kp b o e)
  have y1:=(Heap.get?_update_other (h1.push (seqObj "list" vs.toArray 0)) (Obj.mapSeq λ_=>#[]) (Ne.symm nb)).trans y0
  have y2:=Heap.get?_push_of_some (seqObj "list" #[] 0) (Heap.get?_push_of_some (seqObj "tuple" vs.toArray 0) y1)
  exact (Heap.get?_update_other _ _ (Ne.symm nb)).trans y2
end
end Cut
namespace L2
open PySem PySem.Spec PyProof.Rows
theorem ints_of_vals:∀ {ns:List Int}{us:List Value},Vals (ns.map V.int) us->IntsAre us ns
 | [],_,r=>by rw [List.map_nil] at r;cases r;exact .nil
 |z::zs,_,r=>by
  rw [List.map_cons] at r
  cases r with
  |cons h t=>
   obtain ⟨k,rfl⟩:=h
   exact .cons _ _ (ints_of_vals t)
theorem vals_of_ints:∀ {us:List Value}{ns:List Int},IntsAre us ns->Vals (ns.map V.int) us
 |_,_,.nil=>.nil
 |_,_,.cons n t r=>.cons ⟨_,rfl⟩ (vals_of_ints r)
theorem Inv.laidD {X:Cx}{pins:List (Addr×Obj)}{σ:St}{H:Hp}{s:Shared}{h':Heap}{a:Addr}{o:HO}{t':Nat}{d':Drawn} (I:Inv X pins σ H s) (k:∀ b u,s.heap.get? b=some u->h'.get? b=some u) (hp:s.heap.objs.size<=a) (new:ObjOk X.prog X.w (upd H a o) h' a o) :
  Inv X pins σ (upd H a o) { s with heap:=h',drawn:=d',toks:=t' }:=by
 have J:=I.laid (t':=t') k hp new
 generalize hs1:({ s with heap:=h',toks:=t' }:Shared)=s1 at J
 have e:({ s with heap:=h',drawn:=d',toks:=t' }:Shared)={ s1 with heap:=s1.heap,gens:=s1.gens,drawn:=d',toks:=s1.toks }:=by subst hs1;rfl
 rw [e]
 exact J.step (g':=s1.gens) (t':=s1.toks) (d':=d') (h':=s1.heap) (ch:=[]) (λ_ z=>nomatch z) (λb o _ _ _ e _=>e) (λb o _ _ _ e _=>⟨o.slots,e⟩) (λ_ _ _ _ n=>n) (λb o _ e=>⟨o,e⟩) (λ_ _ e=>e) (λ_ _ _ e=>e) (λb ps e=>⟨#[],by rw [e];simp⟩) (λm hm=>hm) J.hok J.bare
def tSort (K:PySem.W.Frag) (ta:TE):TE:=fun σ H Q=>ta σ H λv H1=>∃ a ns,v=.ref a/\SqL K H1 a (ns.map V.int)/\ns.length<=2000/\(Cut.ddup ns).length<64/\
 ∀ (l:Addr) (τ:List Int),H1 l=none->τ.Pairwise (· < ·)->(∀ x,x∈τ ↔ x∈ns)->τ.length=(Cut.ddup ns).length->Q (.ref l) (upd H1 l (.lst (τ.map V.int)))
theorem strict_of {τ σ:List Int} (pm:τ.Perm σ) (nd:σ.Nodup) (le:τ.Pairwise (·<=·)):τ.Pairwise (· < ·):=by
 have nt:τ.Nodup:=pm.nodup_iff.mpr nd
 exact (List.pairwise_and_iff.mpr ⟨le,nt⟩).imp λ{a b} h=>by
  have h1:=h.1
  have h2:a≠b:=h.2
  omega
theorem pe_sortset {X:Cx}{a:Expr}{ta:TE}{p p2 pos pos2:Pos} (hc:X.calm=true) (hg:Gl X "sorted") (hm:X.mg "sorted"=none) (hg2:Gl X "set") (hm2:X.mg "set"=none) (ha:PE X a ta)
  (hs:starEach [a] X.env=[(false,eval a X.env)]:=by rfl) (hs2:starEach [.Call (.Name "set" p2) [a] [] pos2] X.env=[(false,eval (.Call (.Name "set" p2) [a] [] pos2) X.env)]:=by rfl) :
  PE X (.Call (.Name "sorted" p) [.Call (.Name "set" p2) [a] [] pos2] [] pos) (tSort X.K ta):=by
 intro pins s σ H Q I h
 refine wpAny_Call_Name_kw (ld_blt I hg hm boot_sorted ?_ (by decide) (by decide))
 refine PyProof.Rows.callWith_builtin1 ?_ hs2 rfl
 rw [hs2]
 show wpAny _ _ (spliced ((false,eval (.Call (.Name "set" p2) [a] [] pos2) X.env)::backTo pos [])) _ _ s
 refine Calls.spliced_cons ?_
 refine wpAny_Call_Name_kw (ld_blt I hg2 hm2 boot_set ?_ (by decide) (by decide))
 refine PyProof.Rows.callWith_type1 ?_ hs rfl
 rw [hs]
 show wpAny _ _ (spliced ((false,eval a X.env)::backTo pos2 [])) _ _ s
 refine Calls.spliced_cons (thn (ha pins s σ H _ I h) λu s1 ⟨v,H1,I1,r1,q1⟩=>Calls.spliced_nil ?_)
 obtain ⟨b,ns,e,hq,hn,hd,q⟩:=q1
 subst e
 obtain rfl:u=Value.ref b:=r1
 obtain ⟨its,rv,pl,hz⟩:=I1.list hq
 have hh:=I1.ok.hd hc
 have hl1:=rv.length
 rw [List.length_map] at hl1
 refine Cut.set_list hh pl.isList (ints_of_vals rv) (by rw [List.size_toArray,<-hl1];unfold scanBound;omega) λh1 tk S kp=>?_
 refine Calls.spliced_nil ?_
 refine Cut.sorted_set hh S hd λl out τ h2 d2 tk2 ia pm le ⟨n,hl⟩ hle kp2=>?_
 have lt:s1.heap.objs.size<h1.objs.size:=by
  obtain ⟨es,ep,t,x,_⟩:=id S
  exact Heap.lt_size x
 have hle':s1.heap.objs.size<=l:=Nat.le_trans (Nat.le_of_lt lt) hle
 have hlen:τ.length=(Cut.ddup ns).length:=pm.length_eq
 refine ⟨.ref l,upd H1 l (.lst (τ.map V.int)),?_,rfl,q l τ (I1.hok.fresh hle') (strict_of pm (Cut.ddup_nodup ns) le) (λx=>(pm.mem_iff).trans (Cut.ddup_mem x ns)) hlen⟩
 refine I1.laidD (λb u e=>kp2 b u (kp b u (Heap.lt_size e) e)) hle' ?_
 have hsz:(τ.map V.int).length<=sizeLine:=by
  rw [List.length_map]
  exact Nat.le_of_lt (Nat.lt_of_lt_of_le (by omega:τ.length<64) (by decide))
 exact ⟨hsz,out,n,vals_of_ints ia,hl⟩
end L2
namespace L2
open PySem PySem.Spec PyProof.Rows
def Itv (K:PySem.W.Frag) (a:Addr) (n:Nat):It:=
 ⟨λi H=>∃ xs x,SqL K H a xs/\xs.length=n/\xs.reverse[i]?=some x,λi H x H'=>H'=H/\∀ xs,SqL K H a xs->xs.reverse[i]?=some x,λi _=>i=n⟩
theorem turn_rev {P:Program}{w:World}{K:PySem.W.Frag}{tg:Expr} (a it:Addr) (n:Nat):Turn P w K tg (Itv K a n) [it] it (λi h=>RevAt h it a ((n:Int) - 1-(i:Int))) where
 mem:=List.mem_singleton.mpr rfl
 obj:=λi h st b hb=>by
  obtain rfl:b=it:=List.mem_singleton.mp hb
  exact ⟨_,st,λv z=>nomatch z⟩
 keep:=λi h h' st kp=>kp it (List.mem_singleton.mpr rfl) _ st
 item:=by
  intro X hP hw hK hc i pins s σ H E I hf st hg
  subst hP hw hK
  obtain ⟨xs,x,hq,hn,hx⟩:=hg
  obtain ⟨its,rv,pl,hz⟩:=I.list hq
  have hi:i<xs.length:=by
   have:=(List.getElem?_eq_some_iff.mp hx).1
   rwa [List.length_reverse] at this
  have hx':xs[xs.length - 1-i]?=some x:=by rw [<-hx,List.getElem?_reverse hi]
  obtain ⟨u,hu,ru⟩:=rv.get hx'
  obtain ⟨f0,f1,f2,f3,f4,f5⟩:=hf it (List.mem_singleton.mpr rfl)
  have e1:(n:Int) - 1-(i:Int)=((xs.length - 1-i:Nat):Int):=by omega
  rw [e1] at st
  refine rev_item st pl.isList (v:=u) (by rw [List.getElem?_toArray];exact hu) λh' st' sb=>?_
  have I1:Inv X pins σ H { s with heap:=h' }:=I.turned (t':=s.toks) (λb o hb q=>(sb.2 b hb).trans q) f0 f1 f3 f4 f5
  have e2:((xs.length - 1-i:Nat):Int) - 1=(n:Int) - 1-((i+1:Nat):Int):=by omega
  rw [e2] at st'
  exact ⟨u,rfl,go_of (s:={ s with heap:=h' }) st' rfl rfl (by decide) ⟨x,H,I1,ru,⟨rfl,λys hy=>by rw [I.list_inj hy hq];exact hx⟩,st',λb hb=>(hf b hb).1⟩⟩
 done:=by
  intro X hP hw hK hc i pins s σ H E I hf st hg
  subst hP hw hK
  obtain ⟨f0,f1,f2,f3,f4,f5⟩:=hf it (List.mem_singleton.mpr rfl)
  have hg':i=n:=hg
  subst hg'
  have e1:(i:Int) - 1-(i:Int)=-1:=by omega
  rw [e1] at st
  exact rev_end (I.ok.hd hc) st λh' eb=>⟨rfl,I.turned (t':=s.toks) (λb o hb q=>eb b o hb q) f0 f1 f3 f4 f5⟩
 self:=λ_ _ _ _ _ st h=>rev_self st h
def iRev (K:PySem.W.Frag) (ta:TA):TI:=fun σ H R=>ta σ H λvs H1=>∃ a xs,vs=[.ref a]/\SqL K H1 a xs/\R (Itv K a xs.length) H1
theorem pi_rev {X:Cx}{tg a:Expr}{ta:TA}{p pos:Pos} (hg:Gl X "reversed") (hm:X.mg "reversed"=none) (ha:PA X [a] ta) (hs:starEach [a] X.env=[(false,eval a X.env)]:=by rfl) :
  PI X tg (.Call (.Name "reversed" p) [a] [] pos) (iRev X.K ta):=by
 intro pins s σ H R I h
 refine Call_ (ld_blt I hg hm boot_reversed (PyProof.Rows.callWith_type1 (thn (ha pos pins s σ H _ I h) λus s1 ⟨vs,H1,I1,r1,q1⟩=>?_) hs rfl))
 obtain ⟨b,xs,e,hq,q⟩:=q1
 subst e
 obtain ⟨u,rfl,ru⟩:=r1.one
 obtain rfl:u=Value.ref b:=ru
 obtain ⟨its,rv,pl,hz⟩:=I1.list hq
 have hl:=rv.length
 refine rev_call pl.isList ?_
 have it0:RevAt (s1.heap.push (revO b ((its.toArray.size:Int) - 1))) s1.heap.objs.size b ((xs.length:Int) - 1-((0:Nat):Int)):=by
  have e:((its.toArray.size:Int) - 1)=(xs.length:Int) - 1-((0:Nat):Int):=by rw [List.size_toArray,<-hl];omega
  rw [<-e]
  exact Heap.get?_push_size _ rfl
 refine rev_self it0 ?_
 refine ⟨s1.heap.objs.size,[s1.heap.objs.size],_,_,H1,rfl,I1.kept (t':=s1.toks) λb o e=>Heap.get?_push_of_some _ e,turn_rev b _ xs.length,it0,λc hc=>?_,q⟩
 obtain rfl:c=s1.heap.objs.size:=List.mem_singleton.mp hc
 exact I1.fpOk (Nat.le_refl _) (I1.hok.fresh (Nat.le_refl _))
theorem for_rev {K:PySem.W.Frag}{a:Addr}{xs:List V}{g:TG}{tb:TS}{D:Ends}{σ:St}{H:Hp} (Pv:Nat->St->Hp->Prop) (h0:Pv 0 σ H) (hl:∀ i σ H,i<=xs.length->Pv i σ H->SqL K H a xs)
  (hs:∀ i x σ H,xs.reverse[i]?=some x->Pv i σ H->g x σ H fun σ2 H2=>tb { D with nx:=Pv (i+1),ct:=Pv (i+1),bk:=D.nx } σ2 H2) (hd:∀ σ H,Pv xs.length σ H->D.nx σ H) :
  ∃ W:Nat->Nat->St->Hp->Prop,(∃ m,W 0 m σ H)/\∀ i m σ H,W i m σ H->
   ((Itv K a xs.length).stop i H/\D.nx σ H)∨((Itv K a xs.length).go i H/\∃ N:St->Hp->Prop,(∀ σ' H',N σ' H'->∃ m',m'<m/\W (i+1) m' σ' H')/\∀ x H',(Itv K a xs.length).yld i H x H'->g x σ H' fun σ2 H2=>tb { D with nx:=N,ct:=N,bk:=D.nx } σ2 H2):=by
 refine ⟨λi m σ H=>m=xs.length-i/\i<=xs.length/\Pv i σ H,⟨xs.length,rfl,Nat.zero_le _,h0⟩,?_⟩
 rintro i m σ H ⟨rfl,hi,p⟩
 have q:=hl i σ H hi p
 by_cases hlt:i<xs.length
 ·have hx:xs.reverse[i]?=some (xs.reverse[i]'(by rw [List.length_reverse];exact hlt)):=List.getElem?_eq_getElem _
  refine .inr ⟨⟨xs,_,q,rfl,hx⟩,Pv (i+1),fun σ' H' p'=>⟨xs.length-(i+1),by omega,rfl,hlt,p'⟩,λx H' y=>?_⟩
  obtain ⟨e,y⟩:=y
  subst e
  exact hs i x σ _ (y xs q) p
 ·have e:i=xs.length:=by omega
  subst e
  exact .inl ⟨rfl,hd σ H p⟩
end L2
namespace Cut
open PySem PySem.Spec L2 PyProof.Rows
structure Fly (B:Heap) (l:List Env) (e:Addr) (cls fl:Value) (h:Heap):Prop where
 st:B.StaysIn h
 ne:B.get? e=none
 fr:h.FunFrames B l
 ex:∃ oe vs T oT ts,h.get? e=some oe/\oe.cls=cls/\oe.dict=none/\oe.data=.fields vs/\vs[1]?=some (.ref T)/\B.get? T=none/\T≠e/\h.get? T=some oT/\oT.data=.fields ts/\ts[3]?=some fl
theorem mapF_dict (o:Obj) (g:Array Value->Array Value):(o.mapFields g).dict=o.dict:=by
 obtain ⟨c,d,dt,sl⟩:=o
 cases dt<;>rfl
section
variable {M:Model}{A:Around}{E:Value->Shared->Prop}{s:Shared}{B:Heap}{env:Env}{outer:List Env}{L e:Addr}{oe:Obj}{vs:Array Value}{head:Value}{Q:Unit->Shared->Prop}
def NoteQ (env:Env) (outer:List Env) (L e:Addr) (oe:Obj) (h h':Heap):Prop:=∃ T oT ts,h'.get? e=some (oe.mapFields (·.setIfInBounds 1 (.ref T)))/\T≠e/\h'.get? T=some oT/\oT.data=.fields ts/\ts[3]?=some (rawInt L)/\h.get? T=none/\
 ∀ b o,b≠e->h.get? b=some o->(b ∉ frs (env::outer)->h'.get? b=some o)/\∃ sl,h'.get? b=some { o with slots:=sl }
theorem note_tail {b0:Bool} (hA:A.frames=some (env::outer)) (hF:s.heap.FunFrames B (env::outer)) (hL:env.frame=some L) (hE:s.heap.get? e=some oe) (hD:oe.data=.fields vs) (hS:1<vs.size) (k:∀ h',NoteQ env outer L e oe s.heap h'->Q () { s with heap:=h' }) :
  wpAny M A (do let a<-frameOf env;let pl<-entryPlaceOf L b0;let n<-EntryCells.newEntry head a .none (rawInt L) .none pl;setField (.ref e) 1 n) Q E s:=by
 have eF:e ∉ frs (env::outer):=λz=>by
  obtain ⟨_,o3,e3,nf⟩:=hF.mem z
  rw [hE] at e3
  cases e3
  exact nf vs hD
 refine wpAny_bind (wpAny_frameOf_fun hA hF hL λha sl=>wpAny_bind (wpAny_entryPlaceOf λpl hpl=>?_))
 have hE1:ha.get? e=some oe:=(sl.2.1 e eF).trans hE
 unfold EntryCells.newEntry newFields
 refine wpAny_bind (wpAny_newObj_type ?_ (hpl.sizeOk5 _ _ _ _ _))
 generalize hob:({ cls:=.type "traceback",dict:=none,data:=.fields ([head,.ref L,.none,rawInt L,.none]++(if pl.isEmpty then List.replicate 6 Value.none else pl)).toArray }:Obj)=tob
 have hE2:(ha.push tob).get? e=some oe:=Heap.get?_push_of_some tob hE1
 have nfr:tob.isFreed=false:=by subst hob;rfl
 have hT2:(ha.push tob).get? ha.objs.size=some tob:=Heap.get?_push_size ha nfr
 have hne:ha.objs.size≠e:=Nat.ne_of_gt (Heap.lt_size hE1)
 refine wpAny_setField hE2 hD hS (k _ ?_)
 have hD2:=Obj.data_mapFields hD (·.setIfInBounds 1 (Value.ref ha.objs.size))
 refine ⟨ha.objs.size,tob,([head,.ref L,.none,rawInt L,.none]++(if pl.isEmpty then List.replicate 6 Value.none else pl)).toArray,Heap.get?_update_self _ hE2 (Obj.isFreed_of_fields hD2),hne,(Heap.get?_update_other _ _ (Ne.symm hne)).trans hT2,by subst hob;rfl,by simp,?_,λb o hb q=>?_⟩
 ·have:s.heap.objs.size=ha.objs.size:=sl.1.symm
  rw [<-this]
  exact Heap.get?_none_of_le (Nat.le_refl _)
 ·have stay:∀ o',ha.get? b=some o'->((ha.push tob).update e (Obj.mapFields (·.setIfInBounds 1 (Value.ref ha.objs.size)))).get? b=some o':=λo' q'=>(Heap.get?_update_other _ _ (Ne.symm hb)).trans (Heap.get?_push_of_some tob q')
  refine ⟨λhn=>stay o ((sl.2.1 b hn).trans q),?_⟩
  obtain ⟨sl2,e2⟩:=sl.2.2 b o q
  exact ⟨sl2,stay _ e2⟩
theorem note_first (hA:A.frames=some (env::outer)) (hF:s.heap.FunFrames B (env::outer)) (hL:env.frame=some L) (hE:s.heap.get? e=some oe) (hD:oe.data=.fields vs) (h1:vs[1]?=some .none) (k:∀ h',NoteQ env outer L e oe s.heap h'->Q () { s with heap:=h' }) :
  wpAny M A (noteFrame (.ref e) env) Q E s:=by
 unfold noteFrame
 simp only [hL]
 refine wpAny_bind (wpAny_field hE hD h1 ?_)
 rw [if_neg (by decide)]
 exact note_tail hA hF hL hE hD (Array.getElem?_eq_some_iff.mp h1).1 k
theorem no_fields {h:Heap}{T:Addr}{oT:Obj}{ts:Array Value} (hT:h.get? T=some oT) (hd:oT.data=.fields ts):∀ b o,h.get? b=some o->(∀ vs,o.data≠.fields vs)->b≠T:=λb o q nf z=>by
 rw [z,hT] at q
 cases q
 exact nf ts hd
theorem fly_note {cls:Value} (hA:A.frames=some (env::outer)) (hL:env.frame=some L) (fl:Fly B (env::outer) e cls .none s.heap) (k:∀ h',Fly B (env::outer) e cls (rawInt L) h'->s.heap.UpToSlots h'->Q () { s with heap:=h' }):wpAny M A (noteFrame (.ref e) env) Q E s:=by
 obtain ⟨oe,vs,T,oT,ts,hE,hc,hdi,hD,h1,nT,nTe,hT,hDT,h3⟩:=fl.ex
 unfold noteFrame
 simp only [hL]
 refine wpAny_bind (wpAny_field hE hD h1 ?_)
 rw [if_pos (by simp)]
 refine wpAny_bind (wpAny_field hT hDT h3 ?_)
 rw [if_neg (by simp [rawInt])]
 refine wpAny_bind (wpAny_setField hT hDT (Array.getElem?_eq_some_iff.mp h3).1 ?_)
 have oth:∀ b,b≠T->(s.heap.update T (Obj.mapFields (·.setIfInBounds 3 Value.none))).get? b=s.heap.get? b:=λb hb=>Heap.get?_update_other _ _ (Ne.symm hb)
 have nrec:=no_fields hT hDT
 refine note_tail (B:=B) hA (fl.fr.of_keeps λb o q nf=>⟨o,(oth b (nrec b o q nf)).trans q,rfl⟩) hL ((oth e (Ne.symm nTe)).trans hE) hD (Array.getElem?_eq_some_iff.mp h1).1 λh' nq=>?_
 obtain ⟨T2,oT2,ts2,e1,ne2,e2,d2,f2,n2,oths⟩:=nq
 have ene:∀ b o,s.heap.get? b=some o->(∀ vs,o.data≠.fields vs)->b≠e:=no_fields hE hD
 refine k h' ⟨λb o q=>?_,fl.ne,?_,?_⟩ λb o q nf=>?_
 ·have hbe:b≠e:=λz=>by rw [z,fl.ne] at q;cases q
  have hbT:b≠T:=λz=>by rw [z,nT] at q;cases q
  refine (oths b o hbe ((oth b hbT).trans (fl.st b o q))).1 λz=>?_
  rw [(fl.fr.mem z).1] at q
  cases q
 ·refine fl.fr.of_keeps λb o q nf=>?_
  obtain ⟨sl,e3⟩:=(oths b o (ene b o q nf) ((oth b (nrec b o q nf)).trans q)).2
  exact ⟨_,e3,rfl⟩
 ·have hsz:1<vs.size:=(Array.getElem?_eq_some_iff.mp h1).1
  refine ⟨_,_,T2,oT2,ts2,e1,(Obj.cls_mapFields ..).trans hc,(mapF_dict _ _).trans hdi,Obj.data_mapFields hD _,by simp [hsz],?_,ne2,e2,d2,f2⟩
  cases q:B.get? T2 with
  |none=>rfl
  |some o=>
   have hT2T:T2≠T:=λz=>by rw [z,nT] at q;cases q
   have:=(oth T2 hT2T).trans (fl.st T2 o q)
   rw [n2] at this
   cases this
 ·exact (oths b o (ene b o q nf) ((oth b (nrec b o q nf)).trans q)).2
theorem fly_made {h:Heap}{cls:Value}{args:List Value} (hA:A.frames=some (env::outer)) (hL:env.frame=some L) (hst:B.StaysIn h) (hF:h.FunFrames B (env::outer)) (hm:Heap.MadeExcOf h s.heap e cls args) (k:∀ h',Fly B (env::outer) e cls (rawInt L) h'->s.heap.UpToSlots h'->Q () { s with heap:=h' }) :
  wpAny M A (noteFrame (.ref e) env) Q E s:=by
 obtain ⟨t,hE,_,_⟩:=hm.there
 have nB:∀ b,h.get? b=none->B.get? b=none:=λb hb=>by
  cases q:B.get? b with
  |none=>rfl
  |some o=>
   have:=hst b o q
   rw [hb] at this
   cases this
 have hF2:s.heap.FunFrames B (env::outer):=hF.of_keeps λb o q _=>⟨o,hm.keeps b o q,rfl⟩
 refine note_first hA hF2 hL hE rfl rfl λh' nq=>?_
 obtain ⟨T2,oT2,ts2,e1,ne2,e2,d2,f2,n2,oths⟩:=nq
 have ene:=no_fields hE rfl
 refine k h' ⟨λb o q=>?_,nB e hm.new,?_,?_⟩ λb o q nf=>(oths b o (ene b o q nf) q).2
 ·have hbe:b≠e:=λz=>by rw [z,nB e hm.new] at q;cases q
  refine (oths b o hbe (hm.keeps b o (hst b o q))).1 λz=>?_
  rw [(hF.mem z).1] at q
  cases q
 ·refine hF2.of_keeps λb o q nf=>?_
  obtain ⟨sl,e3⟩:=(oths b o (ene b o q nf) q).2
  exact ⟨_,e3,rfl⟩
 ·refine ⟨_,_,T2,oT2,ts2,e1,(Obj.cls_mapFields ..).trans rfl,(mapF_dict _ _).trans rfl,Obj.data_mapFields rfl _,by simp,?_,ne2,e2,d2,f2⟩
  cases q:B.get? T2 with
  |none=>rfl
  |some o=>
   have:=hm.keeps _ _ (hst T2 o q)
   rw [n2] at this
   cases this
theorem fly_land {l:List Env}{cls fl:Value} (f:Fly B l e cls fl s.heap) (k:∀ h',Fly B l e cls .none h'->s.heap.UpToSlots h'->Q () { s with heap:=h' }):wpAny M A (setFlight (.ref e) none) Q E s:=by
 obtain ⟨oe,vs,T,oT,ts,hE,hc,hdi,hD,h1,nT,nTe,hT,hDT,h3⟩:=f.ex
 have h3z:3<ts.size:=(Array.getElem?_eq_some_iff.mp h3).1
 unfold setFlight
 refine wpAny_bind (wpAny_field hE hD h1 ?_)
 rw [if_pos (by simp)]
 have oth:∀ b,b≠T->(s.heap.update T (Obj.mapFields (·.setIfInBounds 3 ((none:Option Addr).elim Value.none λf=>rawInt f)))).get? b=s.heap.get? b:=λb hb=>Heap.get?_update_other _ _ (Ne.symm hb)
 have nrec:=no_fields hT hDT
 have hD2:=Obj.data_mapFields hDT (·.setIfInBounds 3 ((none:Option Addr).elim Value.none λf=>rawInt f))
 refine wpAny_setField hT hDT h3z (k _ ⟨λb o q=>(oth b λz=>?_).trans (f.st b o q),f.ne,f.fr.of_keeps λb o q nf=>⟨o,(oth b (nrec b o q nf)).trans q,rfl⟩,?_⟩ λb o q nf=>⟨o.slots,(oth b (nrec b o q nf)).trans q⟩)
 ·rw [z,nT] at q;cases q
 ·exact ⟨oe,vs,T,_,_,(oth e (Ne.symm nTe)).trans hE,hc,hdi,hD,h1,nT,nTe,Heap.get?_update_self _ hT (Obj.isFreed_of_fields hD2),hD2,by simp [h3z]⟩
end
end Cut
namespace Cut
open PySem PySem.Spec L2 PyProof.Rows
theorem obj_at {P:Program}{w:World}{H:Hp}{h:Heap}{a:Addr}{o:HO} (x:ObjOk P w H h a o):∃ ob,h.get? a=some ob:=by
 cases o with
 |lst xs=>obtain ⟨_,_,_,_,z⟩:=x;exact ⟨_,z⟩
 |tup xs=>obtain ⟨_,_,_,ob,z,_⟩:=x;exact ⟨ob,z⟩
 |dK kvs=>obtain ⟨_,_,_,_,ob,_,_,z,_⟩:=x;exact ⟨ob,z⟩
 |dT kvs=>obtain ⟨_,_,_,_,ob,_,_,z,_⟩:=x;exact ⟨ob,z⟩
 |set S n=>obtain ⟨ob,_,_,_,z,_⟩:=x;exact ⟨ob,z⟩
 |ins C dx fs=>obtain ⟨_,_,_,z,_⟩:=x;exact ⟨_,z⟩
 |own y=>exact x
 |xd fs=>obtain ⟨_,⟨ob,_,_,z,_⟩,_⟩:=x;exact ⟨ob,z⟩
 |rng lo hi=>obtain ⟨_,_,_,z⟩:=x;exact ⟨_,z⟩
 |frz ob u=>exact ⟨ob,x.1⟩
 |tbl ps=>exact ⟨_,x⟩
 |met f y=>exact ⟨_,x⟩
 |ext φ=>exact x.2.1
theorem Fly.out {B h:Heap}{env:Env}{outer:List Env}{e:Addr}{cls fl:Value} (f:Fly B (env::outer) e cls fl h):Fly B outer e cls fl h:=⟨f.st,f.ne,f.fr.2.2,f.ex⟩
def CXR (P:Program) (w:World):CXT:=λouter H s E e s'=>∃ (x:Addr) (cls:Value) (B:Heap) (H':Hp),e=.ref x/\s'.os=s.os/\AllBare s'.gens/\s.heap.get? x=none/\H' x=none/\Fly B outer x cls .none s'.heap/\
 Un (frs outer) [] H H' s.heap s'.heap/\HOk P w H' s'.heap/\(∀ b o,b ∉ frs outer->((∃ o0,s.heap.get? b=some o0)∨H' b≠none)->s'.heap.get? b=some o->B.get? b=some o)/\E cls none H'
section
variable {X:Cx}{pins:List (Addr×Obj)}{σ:L2.St}{H:Hp}{s:Shared}{B h2:Heap}
theorem frs_cons {env:Env}{l:List Env}{L:Addr} (hf:env.frame=some L):frs (env::l)=L::frs l:=by
 unfold frs
 rw [List.filterMap_cons,hf]
theorem leave_un (I:Inv X pins σ H s) (hstk:X.stack=X.env::X.outer) (hfr:X.env.frame=some X.env.locals) (hex:X.ex=[])
  (hB:∀ b o,b ∉ frs X.stack->((∃ o0,X.s₀.heap.get? b=some o0)∨H b≠none)->s.heap.get? b=some o->B.get? b=some o) (st:B.StaysIn h2) (up:s.heap.UpToSlots h2) :
  Un (frs X.outer) [] X.H₀ H X.s₀.heap h2/\HOk X.prog X.w H h2/\∀ b o,b ∉ frs X.outer->((∃ o0,X.s₀.heap.get? b=some o0)∨H b≠none)->h2.get? b=some o->B.get? b=some o:=by
 have u:=I.base
 rw [hex] at u
 have sub:∀ b,b ∉ frs X.outer->((∃ o0,X.s₀.heap.get? b=some o0)∨H b≠none)->b ∉ frs X.stack:=λb h1 h3 hb=>by
  rw [hstk,frs_cons hfr] at hb
  rcases List.mem_cons.mp hb with e|e
  ·subst e
   rcases h3 with ⟨o0,e0⟩|h3
   ·exact absurd (Heap.lt_size e0) (Nat.not_lt.mpr I.ok.above)
   ·exact h3 I.free
  ·exact h1 e
 have here:∀ b,((∃ o0,X.s₀.heap.get? b=some o0)∨H b≠none)->∃ o1,s.heap.get? b=some o1:=λb h3=>by
  rcases h3 with ⟨o0,e0⟩|h3
  ·exact u.there b o0 e0 (by simp)
  ·cases q:H b with
   |none=>exact absurd q h3
   |some ob=>exact obj_at (I.hok b ob q)
 have kp:∀ b o,b ∉ frs X.outer->((∃ o0,X.s₀.heap.get? b=some o0)∨H b≠none)->s.heap.get? b=some o->h2.get? b=some o:=λb o h1 h3 e=>st b o (hB b o (sub b h1 h3) h3 e)
 have trk:∀ b ob,H b=some ob->b ∉ frs X.outer:=λb ob e hb=>by
  have:=I.stkFree b (by rw [hstk,frs_cons hfr];exact List.mem_cons_of_mem _ hb)
  rw [e] at this
  cases this
 refine ⟨⟨λb o e n hb hx=>kp b o hb (.inl ⟨o,e⟩) (u.keep b o e n hb hx),λb o e n hb hx=>?_,u.free,λb o e hx=>?_,u.tups,u.frzs,u.tbls⟩,λb ob e=>?_,λb o h1 h3 e=>?_⟩
 ·obtain ⟨sl,e1⟩:=u.slot b o e n hb hx
  obtain ⟨_,o3,e3,nf⟩:=I.stack.mem (b:=b) (by show b∈frs X.stack;rw [hstk,frs_cons hfr];exact List.mem_cons_of_mem _ hb)
  obtain ⟨sl2,e2⟩:=up b _ e1 (by rw [e1] at e3;cases e3;exact nf)
  exact ⟨sl2,e2⟩
 ·obtain ⟨o1,e1⟩:=u.there b o e hx
  by_cases hb:b∈frs X.outer
  ·obtain ⟨_,o3,e3,nf⟩:=I.stack.mem (b:=b) (by show b∈frs X.stack;rw [hstk,frs_cons hfr];exact List.mem_cons_of_mem _ hb)
   obtain ⟨sl2,e2⟩:=up b o3 e3 nf
   exact ⟨_,e2⟩
  ·exact ⟨o1,kp b o1 hb (.inl ⟨o,e⟩) e1⟩
 ·refine (I.hok b ob e).stay (λc v hc q=>?_) (λ_ q=>q) λ_ _ q=>q
  rcases hc with z|z
  ·subst z
   exact kp c v (trk c ob e) (.inr (by rw [e];exact λz=>by cases z)) q
  ·exact kp c v (trk c _ z) (.inr (by rw [z];exact λz=>by cases z)) q
 ·obtain ⟨o1,e1⟩:=here b h3
  have e2:=hB b o1 (sub b h1 h3) h3 e1
  have e3:=st b o1 e2
  rw [e] at e3
  cases e3
  exact e2
end
section
variable {P:Program}{w:World}{K:PySem.W.Frag}{mg:Str->Option Value}{base:Heap}{N:List Str}{qual:Str}{scope:Scope}{f:Addr}{cd:Value}{A:Around}{outer:List Env}{s:Shared}{H:Hp}{E:XK}
theorem made_xe {pins:List (Addr×Obj)}{σ:L2.St}{H1:Hp}{s1:Shared}{h1:Heap}{x:Addr}{cls:Value}{vs:List Value} (I:Inv (cxOf (CXR P w) P w K mg base N qual scope f cd A outer s H E) pins σ H1 s1) (hm:Heap.MadeExcOf s1.heap h1 x cls vs) (hE:E cls none H1) :
  (cxOf (CXR P w) P w K mg base N qual scope f cd A outer s H E).xe (.ref x) { s1 with heap:=h1 }:=by
 let X:=cxOf (CXR P w) P w K mg base N qual scope f cd A outer s H E
 have hin:∀ env∈X.stack,∀ b,env.frame=some b->b∈frs X.stack:=λenv he b hb=>List.mem_filterMap.mpr ⟨env,he,hb⟩
 show wpAny _ _ (leaving X.env (.ref x)) _ _ _
 unfold leaving
 refine wpAny_bind (fly_made (B:=PySem.W.hideAll s1.heap (frs X.stack)) (h:=s1.heap) (outer:=outer) (L:=X.env.locals) I.ok.frames rfl (λb o q=>PySem.W.of_hideAll _ q) (PySem.W.frames_hide _ I.stack hin) hm λh1' f1 u1=>fly_land f1 λh2 k1' k4=>?_)
 have k1:=k1'.out
 have up:s1.heap.UpToSlots h2:=((Heap.UpToSlots.of_keeps hm.keeps).trans u1).trans k4
 obtain ⟨u,hk,hB⟩:=leave_un (X:=X) (B:=PySem.W.hideAll s1.heap (frs X.stack)) I rfl rfl rfl (λb o hb _ e=>PySem.W.hideAll_get _ e hb) k1.st up
 have nx:s1.heap.get? x=none:=hm.new
 have n0:s.heap.get? x=none:=by
  cases q:s.heap.get? x with
  |none=>rfl
  |some o=>
   obtain ⟨o1,e1⟩:=I.base.there x o q (by show x ∉ ([]:List Addr);simp)
   rw [nx] at e1
   cases e1
 have nH:H1 x=none:=by
  cases q:H1 x with
  |none=>rfl
  |some o=>
   obtain ⟨o1,e1⟩:=obj_at (I.hok x o q)
   rw [nx] at e1
   cases e1
 exact ⟨x,cls,_,H1,rfl,I.os,I.bare,n0,nH,k1,u,hk,hB,hE⟩
theorem pass_on:Passes (CXR P w) (cxOf (CXR P w) P w K mg base N qual scope f cd A outer s H E) E:=by
 intro pins σ H1 s1 e s2 I h
 obtain ⟨x,cls,B,H2,rfl,ho,hg,n1,nH,fl,u,hk,hB,hE⟩:=h
 let X:=cxOf (CXR P w) P w K mg base N qual scope f cd A outer s H E
 have I2:Inv X pins σ H2 s2:=I.call' (ch:=[]) ho u hk hg (λb hb=>absurd hb (by simp))
 show wpAny _ _ (leaving X.env (.ref x)) _ _ _
 unfold leaving
 refine wpAny_bind (fly_note (B:=B) (outer:=outer) (L:=X.env.locals) I.ok.frames rfl fl λh1' f1 u1=>fly_land f1 λh2 k1' u2=>?_)
 have k1:=k1'.out
 have k2:=u1.trans u2
 have hB':∀ b o,b ∉ frs X.stack->((∃ o0,X.s₀.heap.get? b=some o0)∨H2 b≠none)->s2.heap.get? b=some o->B.get? b=some o:=λb o hb h3 e=>by
  refine hB b o hb ?_ e
  rcases h3 with ⟨o0,e0⟩|h3
  ·exact .inl (I.base.there b o0 e0 (by show b ∉ ([]:List Addr);simp))
  ·exact .inr h3
 obtain ⟨u2,hk2,hB2⟩:=leave_un (X:=X) I2 rfl rfl rfl hB' k1.st k2
 have n0:s.heap.get? x=none:=by
  cases q:s.heap.get? x with
  |none=>rfl
  |some o=>
   obtain ⟨o1,e1⟩:=I.base.there x o q (by show x ∉ ([]:List Addr);simp)
   rw [n1] at e1
   cases e1
 exact ⟨x,cls,B,H2,rfl,I2.os,I2.bare,n0,nH,k1,u2,hk2,hB2,hE⟩
end
end Cut
namespace Cut
open PySem PySem.Spec L2 PyProof.Rows
abbrev bmV:List Value:=[.type "ValueError",.type "Exception",.type "BaseException",.type "object"]
def textKeys (o:Obj):Bool:=match o.data with
 | .dict es _=>es.all λe=>match e.key with | .str _ _=>true|_=>false
 |_=>false
def noInit (o:Obj):Bool:=match o.data with
 | .dict es _=>(nsFind es "__init__").isNone
 |_=>false
theorem textKeys_ns {h:Heap}{N:Addr}{o:Obj} (g:h.get? N=some o) (e:textKeys o=true):h.Ns N (h.nsMap N):=by
 refine .of_isNs ?_
 unfold Heap.isNs;rw [g];exact e
theorem noInit_ns {h:Heap}{N:Addr}{o:Obj} (g:h.get? N=some o) (e:noInit o=true):h.nsMap N "__init__"=none:=by
 unfold Heap.nsMap;rw [g]
 unfold noInit at e
 split at e
 ·rename_i es n hd
  show (match o.data with | .dict es _=>nsFind es "__init__"|_=>none)=none
  rw [hd];exact Option.isNone_iff_eq_none.mp e
 ·cases e
structure Exc (K:PySem.W.Frag) (C:Addr) (bm:List Value):Prop where
 look:∃ (dd:Option Addr) (cl:ClassData) (k0 k1 k2 k3 k5:Option Value) (oN:Obj),K.lookup C=some ⟨.type "type",dd,.cls cl,#[k0,k1,k2,k3,some (.builtin "ValueError.__new__"),k5]⟩/\cl.mro=.ref C::bm/\cl.hasDel=false/\K.lookup cl.ns=some oN/\textKeys oN=true/\noInit oN=true
 tail:bm=bmV∨∃ (A:Addr) (c0:Value) (dd:Option Addr) (cd:ClassData) (sl:Array (Option Value)) (oN:Obj),bm=.ref A::bmV/\K.lookup A=some ⟨c0,dd,.cls cd,sl⟩/\K.lookup cd.ns=some oN/\textKeys oN=true/\noInit oN=true
def ExcObj (h:Heap) (C:Addr) (bm:List Value) (o:Obj) (N:Addr) (mN:Str->Option Value):Prop:=h.get? C=some o/\h.Ns N mN/\OwnTail h bmV bm
theorem Exc.at {K:PySem.W.Frag}{C:Addr}{bm:List Value}{h:Heap} (x:Exc K C bm) (X:K.In h):∃ nm q N bs hdct sn sub ab col dd k0 k1 k2 k3 k5 mN,mN "__init__"=none/\ExcObj h C bm (excClassObj nm q C N bs bm hdct sn sub ab col dd k0 k1 k2 k3 k5 "ValueError.__new__") N mN:=by
 obtain ⟨dd,cl,k0,k1,k2,k3,k5,oN,lk,mr,hd,ln,tk,ni⟩:=x.look
 obtain ⟨nm,bs,mro,ns,qn,hdct,sn,sub,ab,col,del⟩:=cl
 dsimp only at mr hd ln
 subst mr hd
 refine ⟨nm,qn,ns,bs,hdct,sn,sub,ab,col,dd,k0,k1,k2,k3,k5,_,noInit_ns (X _ _ ln) ni,X _ _ lk,textKeys_ns (X _ _ ln) tk,?_⟩
 rcases x.tail with e|⟨A,c0,dd',cd,sl,oN',e,l1,l2,t1,t2⟩
 ·rw [e];exact .base
 ·rw [e];exact .own (X _ _ l1) (textKeys_ns (X _ _ l2) t1) (noInit_ns (X _ _ l2) t2) .base
theorem ExcObj.keeps {h h':Heap}{C:Addr}{bm:List Value}{o:Obj}{N:Addr}{mN:Str->Option Value} (x:ExcObj h C bm o N mN) (k:∀ b o,h.get? b=some o->h'.get? b=some o):ExcObj h' C bm o N mN:=
 ⟨k _ _ x.1,x.2.1.keeps k,x.2.2.keeps k⟩
def tRaise (E:XK) (C:Addr) (t:TA):TS:=λ_ σ H=>t σ H λvs H1=>vs.length<=1000/\E (.ref C) none H1
def Lands (X:Cx) (E:XK) (C:Addr):Prop:=∀ (pins:List (Addr×Obj)) (σ:L2.St) (H1:Hp) (s1:Shared) (h1:Heap) (z:Addr) (vs:List Value),Inv X pins σ H1 s1->Heap.MadeExcOf s1.heap h1 z (.ref C) vs->E (.ref C) none H1->X.xe (.ref z) { s1 with heap:=h1 }
theorem ps_raise {X:Cx}{x:Str}{C:Addr}{bm:List Value}{E:XK}{np cpos pos:Pos}{e0:Expr}{rest:List Expr}{t:TA} (hc:X.calm=true) (hg:Gl X x) (hmx:X.mg x=some (.ref C)) (ex:Exc X.K C bm) (hx:Lands X E C) (ha:PA X (e0::rest) t)
  (hdb:(x == ("__debug__":Str))=false:=by decide) (he:starEach (e0::rest) X.env=(false,eval e0 X.env)::starEach rest X.env:=by rfl) (hpl:(backTo cpos (starEach rest X.env)).any (·.1)=false:=by rfl) :
  PS X (.Raise (some (.Call (.Name x np) (e0::rest) [] cpos)) none pos) (tRaise E C t):=by
 intro pins s σ H D I h
 obtain ⟨nm,q,N,bs,hdct,sn,sub,ab,col,dd,k0,k1,k2,k3,k5,mN,hni,ob⟩:=ex.at I.ok.mod.kin
 have hbase:bm.contains (.type "BaseException")=true:=ob.2.2.hasType (by decide +kernel)
 have hplain:(backTo cpos (starEach (e0::rest) X.env)).any (·.1)=false:=by
  rw [he]
  show (false || (backTo cpos (starEach rest X.env)).any (·.1))=false
  rw [hpl]
  rfl
 refine wpAny_Raise_call_subT (C:=C) (nm:=nm) (q:=q) (N:=N) (bs:=bs) (bm:=bm) (hdct:=hdct) (sn:=sn) (sub:=sub) (ab:=ab) (col:=col) (dd:=dd) (k0:=k0) (k1:=k1) (k2:=k2) (k3:=k3) (k5:=k5) PySem.F.excBase_ValueError (mN:=mN) hbase (I.ok.hd hc) hplain hni (ld_glob I hg hmx ⟨rfl,?_⟩ hdb)
 have h':=ha cpos pins s σ H _ I h
 rw [he] at h' ⊢
 refine Calls.evalArgs_plain (thn h' λus s2 ⟨vs,H1,I1,r,hl,hE⟩=>?_)
 have o2:=ob.keeps I1.bk
 have hl2:=r.length
 exact ⟨rfl,(show us.length<=sizeLine from Nat.le_of_lt (small (by omega))),o2.1,o2.2.1,o2.2.2,λh1 z hm=>hx pins σ H1 s2 h1 z us I1 hm hE⟩
theorem matches_own {M:Model}{A:Around}{E:Value->Shared->Prop}{h:Heap}{g:Array GenState}{d:Drawn}{t:Nat}{os:OsState}{e C D N N':Addr}{oe:Obj}{Q:Bool->Shared->Prop}{nm q nm' q':Str}{bs bm bs' bm':List Value}{hdct hdct':Bool}{sn sn':List Str}{sub sub':List Value}{ab ab':Bool}{col col':Option Bool}{dd dd':Option Addr}
  {k0 k1 k2 k3 k5 j0 j1 j2 j3 j5:Option Value}{ni ni':String} (hC:h.get? C=some (excClassObj nm q C N bs bm hdct sn sub ab col dd k0 k1 k2 k3 k5 ni)) (he:h.get? e=some oe) (hcls:oe.cls=.ref C)
  (hD:h.get? D=some (excClassObj nm' q' D N' bs' bm' hdct' sn' sub' ab' col' dd' j0 j1 j2 j3 j5 ni')) (hbase:bm'.contains (.type "BaseException")=true) (hb:(Value.ref C::bm).contains (.ref D)=true)
  (hq:Q true ⟨h,g,d,t,os⟩):wpAny M A (excMatches (.ref e) (.ref D)) Q E ⟨h,g,d,t,os⟩:=by
 have hcB:(Value.ref D::bm').contains (.type "BaseException")=true:=by rw [List.contains_cons,hbase,Bool.or_true]
 have nt:=tc_notTuple
 unfold excMatches
 repeat (first|(with_reducible refine wpAny_loadPart_at he ?_;rw [hcls])|with_reducible refine wpAny_loadPart_at hD ?_|(with_reducible refine wpAny_isSubtype_exc hD ?_;rw [hcB])|(with_reducible refine wpAny_isSubtype_exc hC ?_;rw [hb])|wp_step)
 exact hq
end Cut
namespace Cut
open PySem PySem.Spec L2 PyProof.Rows
abbrev Cx.alt (X:Cx) (A:Around) (c:Bool) (pn:List (Addr×Obj)) (xe:Value->Shared->Prop):Cx:={ X with A:=A,calm:=c,pn:=pn,xe:=xe }
theorem inv_alt {X:Cx}{A:Around}{c:Bool}{pn pins pins':List (Addr×Obj)}{xe:Value->Shared->Prop}{σ:L2.St}{H:Hp}{s:Shared} (I:Inv X pins σ H s) (hA:A.frames=X.A.frames) (hc:c=true->A.handled=none) (hp:∀ p∈pn++pins',p∈X.pn++pins) :
  Inv (Cx.alt X A c pn xe) pins' σ H s:=
 ⟨⟨I.ok.mod,I.ok.kind,I.ok.glob,I.ok.blt,I.ok.above,I.ok.inj,I.ok.has,I.ok.cab,hc,hA.trans I.ok.frames,I.ok.stk,I.ok.exf,I.ok.bs,I.ok.bsz,I.ok.noex,I.ok.exfs,I.ok.funs,I.ok.frf⟩,I.os,I.bare,I.base,I.loc,I.cell,I.free,I.freeC,λp hq=>I.pin p (hp p hq),I.hok,I.len⟩
theorem inv_back {X:Cx}{A:Around}{c:Bool}{pn pins pins':List (Addr×Obj)}{xe:Value->Shared->Prop}{σ:L2.St}{H:Hp}{s:Shared} (ok:X.Ok) (I:Inv (Cx.alt X A c pn xe) pins' σ H s) (hp:∀ p∈X.pn++pins,p∈pn++pins'):Inv X pins σ H s:=
 ⟨ok,I.os,I.bare,I.base,I.loc,I.cell,I.free,I.freeC,λp hq=>I.pin p (hp p hq),I.hok,I.len⟩
def ExcAt (x:Addr) (cls:Value) (h:Heap):Prop:=∃ ob,h.get? x=some ob/\ob.cls=cls/\ob.dict=none/\∃ vs,ob.data=.fields vs
def excO (x:Addr) (cls:Value):HO:=.ext (ExcAt x cls)
theorem excO_ok {P:Program}{w:World}{H:Hp}{h:Heap}{x:Addr}{cls:Value} (e:ExcAt x cls h):ObjOk P w H h x (excO x cls):=
 let ⟨ob,e1,_⟩:=e
 ⟨e,⟨ob,e1⟩,λh1 h2 ⟨o1,e1,c1⟩ k=>⟨o1,k o1 e1,c1⟩⟩
theorem Fly.exc {B h:Heap}{l:List Env}{x:Addr}{cls fl:Value} (f:Fly B l x cls fl h):ExcAt x cls h:=
 let ⟨oe,vs,_,_,_,h1,h2,h3,h4,_⟩:=f.ex
 ⟨oe,h1,h2,h3,vs,h4⟩
theorem land_inv {X:Cx}{pins:List (Addr×Obj)}{σ:L2.St}{H1 H2:Hp}{s1 s2:Shared}{B h5:Heap}{x:Addr}{cls:Value} (J:Inv X pins σ H1 s1) (ho:s2.os=s1.os) (hg:AllBare s2.gens) (n1:s1.heap.get? x=none) (nH:H2 x=none)
  (u:Un (frs X.stack) [] H1 H2 s1.heap s2.heap) (hk:HOk X.prog X.w H2 s2.heap) (hB:∀ b o,b ∉ frs X.stack->((∃ o0,s1.heap.get? b=some o0)∨H2 b≠none)->s2.heap.get? b=some o->B.get? b=some o) (st:B.StaysIn h5) (up:s2.heap.UpToSlots h5)
  (ex:ExcAt x cls h5):Inv X pins σ (upd H2 x (excO x cls)) { s2 with heap:=h5 }:=by
 have fre:∀ b∈frs X.stack,∀ o,s2.heap.get? b=some o->∃ sl,h5.get? b=some { o with slots:=sl }:=λb hb o e=>by
  obtain ⟨_,o3,e3,nf⟩:=J.stack.mem (b:=b) hb
  obtain ⟨sl,e4⟩:=u.slot b o3 e3 (J.stkFree b hb) hb (by simp)
  rw [e] at e4
  cases e4
  exact up b _ e nf
 have kp:∀ b o,b ∉ frs X.stack->((∃ o0,s1.heap.get? b=some o0)∨H2 b≠none)->s2.heap.get? b=some o->h5.get? b=some o:=λb o h1 h3 e=>st b o (hB b o h1 h3 e)
 have nx:∀ b o,s1.heap.get? b=some o->b≠x:=λb o e z=>by rw [z,n1] at e;cases e
 have trk1:∀ b ob,H1 b=some ob->b≠x:=λb ob e=>by
  obtain ⟨o,q⟩:=obj_at (J.hok b ob e)
  exact nx b o q
 have trk:∀ b ob,H2 b=some ob->b ∉ frs X.stack:=λb ob e hb=>by
  obtain ⟨_,o3,e3,_⟩:=J.stack.mem (b:=b) hb
  have:=u.free b o3 e3 (J.stkFree b hb) (by simp)
  rw [e] at this
  cases this
 refine J.call' (ch:=[]) ho ⟨λb o e n hb hx=>kp b o hb (.inl ⟨o,e⟩) (u.keep b o e n hb hx),λb o e n hb hx=>?_,λb o e n hx=>?_,λb o e hx=>?_,λb xs e=>?_,λb o v e=>?_,λb ps e=>?_⟩ ?_ hg (λb hb=>absurd hb (by simp))
 ·obtain ⟨sl,e1⟩:=u.slot b o e n hb hx
  obtain ⟨sl2,e2⟩:=fre b hb _ e1
  exact ⟨sl2,e2⟩
 ·rw [upd_ne (nx b o e)];exact u.free b o e n hx
 ·obtain ⟨o1,e1⟩:=u.there b o e hx
  by_cases hb:b∈frs X.stack
  ·obtain ⟨sl,e2⟩:=fre b hb _ e1
   exact ⟨_,e2⟩
  ·exact ⟨o1,kp b o1 hb (.inl ⟨o,e⟩) e1⟩
 ·rw [upd_ne (trk1 b _ e)];exact u.tups b xs e
 ·rw [upd_ne (trk1 b _ e)];exact u.frzs b o v e
 ·rw [upd_ne (trk1 b _ e)];exact u.tbls b ps e
 ·intro b o e
  by_cases hb:b=x
  ·subst hb
   rw [upd_same] at e
   cases e
   exact excO_ok ex
  ·rw [upd_ne hb] at e
   refine (hk b o e).stay (λc v hc q=>?_) (λc q=>?_) λc xs q=>?_
   ·rcases hc with z|z
    ·subst z
     exact kp c v (trk c o e) (.inr (by rw [e];exact λz=>by cases z)) q
    ·exact kp c v (trk c _ z) (.inr (by rw [z];exact λz=>by cases z)) q
   ·rw [upd_ne (ne_of_none q nH)];exact q
   ·rw [upd_ne (ne_of_none q nH)];exact q
theorem inv_unset {X:Cx}{pins:List (Addr×Obj)}{σ:L2.St}{H:Hp}{s:Shared}{h2:Heap}{i t:Nat}{n:Str}{m:Str->Option Value}{v:Option Value} (I:Inv X pins σ H s) (hN:X.N.Nodup) (hi:X.N[i]?=some n)
  (hl:∀ (j:Nat) (y:Str) (v:V),X.N[j]?=some y->σ[j]?=some (some v)->Vis X.env.scope y->∃ u,RelV v u/\Look X.env s.heap m y u)
  (hn:h2.Ns X.env.locals (λy=>if y=n then v else m y)) (hs:Heap.SameBut X.env.locals s.heap h2):Inv X pins (σ.set i none) H { s with heap:=h2,toks:=t }:=by
 have ne:∀ b o,X.s₀.heap.get? b=some o->b≠X.env.locals:=λb o e=>Nat.ne_of_lt (Nat.lt_of_lt_of_le (Heap.lt_size e) I.ok.above)
 have hiσ:i < σ.length:=by rw [I.len];exact (List.getElem?_eq_some_iff.mp hi).1
 refine ⟨I.ok,I.os,I.bare,⟨λb o e n hb hx=>(hs.2 b (ne b o e)).trans (I.base.keep b o e n hb hx),λb o e n hb hx=>?_,I.base.free,λb o e hx=>?_,I.base.tups,I.base.frzs,I.base.tbls⟩,⟨_,hn,λj y w e1 e2 e3=>?_⟩,λy c e=>?_,I.free,I.freeC,λp hp=>?_,λb ob e=>?_,by rw [List.length_set];exact I.len⟩
 ·obtain ⟨sl,e1⟩:=I.base.slot b o e n hb hx
  exact ⟨sl,(hs.2 b (ne b o e)).trans e1⟩
 ·obtain ⟨o1,e1⟩:=I.base.there b o e hx
  exact ⟨o1,(hs.2 b (ne b o e)).trans e1⟩
 ·by_cases hj:j=i
  ·subst hj
   rw [List.getElem?_set_self hiσ] at e2
   cases e2
  ·rw [List.getElem?_set_ne (Ne.symm hj)] at e2
   obtain ⟨u,r,q⟩:=hl j y w e1 e2 e3
   refine ⟨u,r,?_⟩
   rcases q with ⟨k,e⟩|⟨k,c,e,z⟩
   ·by_cases hy:y=n
    ·exact absurd (nodup_ix hN e1 (hy ▸ hi)) hj
    ·exact .inl ⟨k,by simp [hy,e]⟩
   ·exact .inr ⟨k,c,e,z.sameBut hs (I.cne y c e)⟩
 ·obtain ⟨w,z⟩:=I.cell y c e
  exact ⟨w,z.sameBut hs (I.cne y c e)⟩
 ·obtain ⟨e,q,ne',nf,d⟩:=I.pin p hp
  exact ⟨(hs.2 p.1 ne').trans e,q,ne',nf,d⟩
 ·refine (I.hok b ob e).stay (λc w hc q=>(hs.2 c ?_).trans q) (λ_ q=>q) λ_ _ q=>q
  rintro rfl
  rcases hc with rfl|hc
  ·rw [I.free] at e;cases e
  ·rw [I.free] at hc;cases hc
def tryEnds (i:Nat) (D:Ends):Ends:={ nx:=fun σ H=>D.nx (σ.set i none) H,rt:=D.rt,bk:=fun σ H=>D.bk (σ.set i none) H,ct:=fun σ H=>D.ct (σ.set i none) H }
def tTryAs (K:PySem.W.Frag) (E:XK) (D0:Addr) (i:Nat) (tb ts:TS):TS:=λD σ H=>tb D σ H/\∀ cls H1,E cls none H1->∃ C bm,cls=.ref C/\Exc K C bm/\(Value.ref C::bm).contains (.ref D0)=true/\
 ∀ (x:Addr) (σ1:L2.St),H1 x=none->σ1.length=σ.length->ts (tryEnds i D) (σ1.set i (some (.ref x))) (upd H1 x (excO x cls))
theorem ps_tryAs {X:Cx}{E:XK}{tb ts:TS}{i:Nat}{n cn:Str}{D0:Addr}{bmD:List Value}{b0:Stmt}{suite body:List Stmt}{np pos hpos:Pos} (hstk:X.stack=X.env::X.outer) (hfr:X.env.frame=some X.env.locals)
  (hNd:X.N.Nodup) (hi:X.N[i]?=some n) (hln:X.env.scope.names.lookup n=some .local) (hg:Gl X cn) (hmD:X.mg cn=some (.ref D0)) (exD:Exc X.K D0 bmD)
  (hb:∀ xe' pn',Passes (CXR X.prog X.w) (Cx.alt X X.A X.calm pn' xe') E->PSs (Cx.alt X X.A X.calm pn' xe') body tb)
  (hs:∀ A' pn',PSs (Cx.alt X A' false pn' (λ_ _=>False)) (b0::suite) ts) (hdb:(cn == ("__debug__":Str))=false:=by decide) :
  PS X (.Try body [.ExceptHandler (some (.Name cn np)) (some n) (b0::suite) hpos] [] [] pos) (tTryAs X.K E D0 i tb ts):=by
 intro pins s σ H D I hh
 obtain ⟨h1,h2⟩:=hh
 have hcls:(X.env.scope.kind == .class || (X.env.scope.kind == .module && X.env.locals != X.env.globals))=false:=by rw [I.ok.kind];rfl
 have fr:X.A.frames=some (X.env::X.outer):=hstk ▸ I.ok.frames
 refine wpAny_Try_except ?_
 generalize hxe:(λ(e:Value) (s₁:Shared)=>wpAny (model X.prog X.w) X.A (noteFrame e X.env) (λ_ s₂=>wpAny (model X.prog X.w) X.A (setFlight e none) (λ_ s₃=>wpAny (model X.prog X.w) X.A (handleBy e X.env [.ExceptHandler (some (.Name cn np)) (some n) (b0::suite) hpos]) (SP X pins D) X.xe s₃) X.xe s₂) X.xe s₁)=xe'
 have I':Inv (Cx.alt X X.A X.calm (X.pn++pins) xe') [] σ H s:=inv_alt I rfl I.ok.hd (λp hp=>by simpa using hp)
 refine wpAny_mono (hb xe' (X.pn++pins) ?pass [] s σ H D I' h1) (λf s1 q=>?fin) (λe s1 q=>q)
 case fin=>
  have back:∀ {σ':L2.St}{H':Hp},Inv (Cx.alt X X.A X.calm (X.pn++pins) xe') [] σ' H' s1->Inv X pins σ' H' s1:=λJ=>inv_back I.ok J (λp hp=>by simpa using hp)
  cases f with
  |next=>obtain ⟨σ',H',J,q⟩:=q;exact wpAny_execs_nil ⟨σ',H',back J,q⟩
  |brk=>obtain ⟨σ',H',J,q⟩:=q;exact ⟨σ',H',back J,q⟩
  |cont=>obtain ⟨σ',H',J,q⟩:=q;exact ⟨σ',H',back J,q⟩
  |ret u=>obtain ⟨v,σ',H',J,r,q⟩:=q;exact ⟨v,σ',H',back J,r,q⟩
 case pass=>
  intro pins1 σ1 H1 s1 e s2 J hC
  obtain ⟨x,cls,B,H2,rfl,ho,hgen,n1,nH,fl,u,hk,hB,hE⟩:=hC
  obtain ⟨C,bm,rfl,exC,hcont,hsuite⟩:=h2 cls H2 hE
  obtain ⟨hp2,g2,d2,tk2,os2⟩:=s2
  show xe' (.ref x) _
  rw [<-hxe]
  have hfl:Fly B (X.env::X.outer) x (.ref C) .none hp2:=hstk ▸ fl
  refine fly_note (B:=B) (outer:=X.outer) (L:=X.env.locals) fr hfr hfl λh4 held up4=>?_
  refine fly_land held λh5 fl5 up5=>?_
  have up25:hp2.UpToSlots h5:=up4.trans up5
  obtain ⟨ob,eob,cob,_⟩:=fl5.exc
  have J5:=land_inv J ho hgen n1 nH u hk hB fl5.st up25 fl5.exc
  have J5':Inv (Cx.alt X (X.A.mark (some (.ref x))) false (X.pn++pins) (λ_ _=>False)) pins1 σ1 (upd H2 x (excO x (.ref C))) ⟨h5,g2,d2,tk2,os2⟩:=inv_alt (X:=Cx.alt X X.A X.calm (X.pn++pins) xe') J5 rfl (λz=>by cases z) (λp hp=>hp)
  obtain ⟨nm,q,N,bs,hdct,sn,sub,ab,col,dd,k0,k1,k2,k3,k5,mN,_,obC⟩:=exC.at J5'.kIn
  obtain ⟨nm',q',N',bs',hdct',sn',sub',ab',col',dd',j0,j1,j2,j3,j5,mN',_,obD⟩:=exD.at J5'.kIn
  have hbase:bmD.contains (.type "BaseException")=true:=obD.2.2.hasType (by decide +kernel)
  refine wpAny_handleBy_cons (codeAny_handlers_test (ld_glob J5' hg hmD ?_ hdb)) (by intro q;cases q)
  refine matches_own obC.1 eob cob obD.1 hbase hcont ?_
  refine codeAny_handlers_suite_as ?_
  refine fly_land fl5 λh6 fl6 up6=>?_
  have J6:=land_inv J ho hgen n1 nH u hk hB fl6.st (up25.trans up6) fl6.exc
  have J6':Inv (Cx.alt X (X.A.mark (some (.ref x))) false (X.pn++pins) (λ_ _=>False)) pins1 σ1 (upd H2 x (excO x (.ref C))) ⟨h6,g2,d2,tk2,os2⟩:=inv_alt (X:=Cx.alt X X.A X.calm (X.pn++pins) xe') J6 rfl (λz=>by cases z) (λp hp=>hp)
  refine store_ok (X:=Cx.alt X (X.A.mark (some (.ref x))) false (X.pn++pins) (λ_ _=>False)) J6' hNd hi (Or.inl hln) (v:=.ref x) rfl (λs7 J7=>?_) (Or.inr hln)
  have hlen:σ1.length=σ.length:=J.len.trans I.len.symm
  refine wpAny_mono (hs (X.A.mark (some (.ref x))) (X.pn++pins) pins1 s7 _ _ (tryEnds i D) J7 (hsuite x σ1 nH hlen)) (λf s8 q=>?_) (λ_ _ z=>z.elim)
  have go:∀ {σ':L2.St}{H':Hp},Inv (Cx.alt X (X.A.mark (some (.ref x))) false (X.pn++pins) (λ_ _=>False)) pins1 σ' H' s8->(∀ s9,Inv X pins (σ'.set i none) H' s9->SP X pins D f s9)->
    wpAny (model X.prog X.w) X.A (do bindName X.env n .none;unbindBehindTheSuite X.env n hpos) (λ_ s9=>SP X pins D f s9) X.xe s8:=λ{σ' H'} J8 kk=>by
   obtain ⟨m,hn,hl⟩:=J8.loc
   exact wpAny_nameGoes_keeps hln hn hcls λh9 v hn9 hs9=>kk _ (inv_back I.ok (inv_unset J8 hNd hi hl hn9 hs9) λp hp=>List.mem_append_left _ hp)
  cases f with
  |next=>obtain ⟨σ',H',J8,q⟩:=q;exact go J8 λs9 J9=>⟨_,H',J9,q⟩
  |brk=>obtain ⟨σ',H',J8,q⟩:=q;exact go J8 λs9 J9=>⟨_,H',J9,q⟩
  |cont=>obtain ⟨σ',H',J8,q⟩:=q;exact go J8 λs9 J9=>⟨_,H',J9,q⟩
  |ret u=>obtain ⟨v,σ',H',J8,r,q⟩:=q;exact go J8 λs9 J9=>⟨v,_,H',J9,r,q⟩
theorem exc_check {M:Model}{A:Around}{E:Value->Shared->Prop}{s:Shared}{K:PySem.W.Frag}{x C:Addr}{ob:Obj}{nameV:Value}{Q:Unit->Shared->Prop} (X:K.In s.heap) (I:PySem.W.InstAt s.heap x ob C none) (hB:PySem.W.mroIn K C (.type "BaseException")=some true) (hq:Q () s) :
  wpAny M A (checkBuiltinCall "BaseException.__getattribute__" ⟨[.ref x,nameV],[]⟩) Q E s:=by
 have hk:builtinKind "BaseException.__getattribute__"=some .slot:=by decide +kernel
 have hsplit:splitId "BaseException.__getattribute__"=some ("BaseException","__getattribute__"):=by decide +kernel
 have ha:=F.args_bexc_ga (.ref x) nameV
 have L0:=I.type (M:=M)
 have L1:=PySem.W.looks_mroIn (M:=M) X hB
 simp only [checkBuiltinCall,hk,hsplit]
 refine wpAny_bind ?_
 unfold isInstance
 refine wpAny_bind (L0.at ?_)
 refine L1.at ?_
 obtain ⟨hh,g,d,t,os⟩:=s
 repeat (any_goals (first|assumption|wp_step))
theorem exc_class {prog:Program}{w:World}{A:Around}{E:Value->Shared->Prop}{Q:Option Value->Shared->Prop}{s:Shared}{K:PySem.W.Frag}{x C:Addr}{ob:Obj} (X:K.In s.heap) (I:PySem.W.InstAt s.heap x ob C none)
  (hga:PySem.W.findIn K (.ref C) "__getattribute__"=some (some (.builtin "BaseException.__getattribute__"))) (hgn:PySem.W.findIn K (.ref C) "__getattr__"=some none)
  (hf:PySem.W.findObj K C none "__class__"=some (.bind (.builtin "getset_descriptor.__get__") (.builtin "object.__class__"))) (hm:PySem.W.mroIn K C (.type "object")=some true) (hB:PySem.W.mroIn K C (.type "BaseException")=some true)
  (kq:Q (some (.ref C)) { s with toks:=s.toks+1 }):wpAny (model prog w) A (getAttr? (.ref x) "__class__") Q E s:=by
 obtain ⟨hh,g,d,t,os⟩:=s
 have L0:=I.type (M:=model prog w)
 have L1:=PySem.W.looks_findIn (M:=model prog w) X hga
 have L2:=PySem.W.looks_findIn (M:=model prog w) X hgn
 have L3:=PySem.W.looks_find (M:=model prog w) X I hf
 have f3:=F.excAttr_ValueError.ga.bind (.ref x)
 unfold getAttr? getAttrBy? getAttrBy
 refine wpAny_bind (wpAny_mkText (wpAny_bind (wpAny_attempt (wpAny_holding (wpAny_bind (L0.at (wpAny_bind (L1.at ?_))))))))
 have hx2:(Value.builtin "BaseException.__getattribute__" == Value.builtin "object.__getattribute__")=false:=by decide +kernel
 have hx1:(onTheHeap (Value.ref C) && Value.builtin "BaseException.__getattribute__" == Value.builtin "object.__getattribute__")=false:=by rw [hx2];rfl
 dsimp only
 rw [hx1]
 show wpAny _ _ (getAttrByItsOwn _ _ _ _ _ _) _ _ _
 unfold getAttrByItsOwn hookBefore
 refine wpAny_bind ?_
 show wpAny _ _ (typeLookup _ _) _ _ _
 refine L2.at ?_
 refine wpAny_bind (wpAny_attempt (wpAny_holding ?_))
 have hx0:(false && onTheHeap (Value.builtin "BaseException.__getattribute__"))=false:=rfl
 repeat (any_goals (first|assumption|wp_step))
 show codeAny _ _ (.call (.builtin "BaseException.__getattribute__") ⟨[.ref x,.str "__class__" t],[]⟩) _ _
 refine codeAny_call_builtin F.excAttr_ValueError.ga.plain F.entry_bexc_ga (exc_check (s:=⟨hh,g,d,t+1,os⟩) (ob:=ob) X I hB ?_)
 unfold Builtin.«object.__getattribute__»
 repeat (first|with_reducible refine wpAny_bind (L0.at ?_)|with_reducible refine wpAny_bind (L3.at ?_)|with_reducible refine L0.at ?_|with_reducible refine L3.at ?_|wp_step)
 refine PySem.W.class_get (s:=⟨hh,g,d,t+1,os⟩) (ox:=ob) (od:=none) X I hm ?_
 repeat (any_goals (first|assumption|wp_step))
structure ExcCls (K:PySem.W.Frag) (C:Addr):Prop where
 ga:PySem.W.findIn K (.ref C) "__getattribute__"=some (some (.builtin "BaseException.__getattribute__"))
 gn:PySem.W.findIn K (.ref C) "__getattr__"=some none
 ic:(PySem.W.clsIn K C).isSome=true
 y1:PySem.W.findIn K (.ref C) "__class__"=some (some (.builtin "object.__class__"))
 y2:PySem.W.specialIn K (.builtin "object.__class__") "__get__"=some (some (.builtin "getset_descriptor.__get__"))
 y3:PySem.W.takesIn K (.builtin "object.__class__")=some true
 y4:PySem.W.mroIn K C (.type "object")=some true
 yB:PySem.W.mroIn K C (.type "BaseException")=some true
theorem kitx_exc {K:PySem.W.Frag}{x C:Addr} (ec:ExcCls K C):PySem.W.KitX K (.ref x) (.ref C) (ExcAt x (.ref C)) where
 ty:=λM h _ ⟨ob,e,c,d,vs,hd⟩=>by
  have I:PySem.W.InstAt h x ob C none:=⟨e,c,by unfold PySem.W.notCls;rw [hd],by rw [d];trivial⟩
  exact I.type
 it:=λM h X _=>by
  obtain ⟨cdD,hcD⟩:=Option.isSome_iff_exists.mp ec.ic
  unfold PySem.W.clsIn at hcD
  split at hcD
  ·rename_i ho
   intro A' Q' E' s' kp q
   unfold isType loadHead
   exact wpAny_bind (wpAny_loadPart (kp _ _ (X _ _ ho)) (wpAny_pure q))
  ·cases hcD
 ca:=λ{prog w A E Q s} X ⟨ob,e,c,d,vs,hd⟩ kq=>by
  have I:PySem.W.InstAt s.heap x ob C none:=⟨e,c,by unfold PySem.W.notCls;rw [hd],by rw [d];trivial⟩
  have hf:PySem.W.findObj K C none "__class__"=some (.bind (.builtin "getset_descriptor.__get__") (.builtin "object.__class__")):=by
   obtain ⟨cdD,hcD⟩:=Option.isSome_iff_exists.mp ec.ic
   unfold PySem.W.findObj
   rw [hcD,Option.bind_some,ec.y1,Option.bind_some]
   simp [ec.y2,ec.y3]
  exact exc_class X I ec.ga ec.gn hf ec.y4 ec.yB kq
theorem call_isexc {X:Cx}:CallR X (.builtin "isinstance") (λxs H Q=>∃ x C c cv b,xs=[.ref x,c]/\H x=some (excO x (.ref C))/\ExcCls X.K C/\clsV c=some cv/\PySem.W.kitOne X.K (.ref C) cv=some b/\Q (.bl b) H):=by
 intro pins s σ H xs us Q I r h
 obtain ⟨x,C,c,cv,b,rfl,hx,ec,hc,e,q⟩:=h
 obtain ⟨u,v,rfl,ru,rv⟩:=r.two
 have ev:v=cv:=by
  cases c with
  |ty n=>cases hc;exact rv
  |ref a=>cases hc;exact rv
  |_=>cases hc
 subst ev
 obtain rfl:u=Value.ref x:=ru
 obtain ⟨at1,_⟩:=(show ObjOk X.prog X.w H s.heap x (excO x (.ref C)) from I.hok x _ hx)
 exact PySem.W.kia_one (kitx_exc ec) I.kIn at1 e (λz=>nomatch z) λtk=>⟨.bl b,H,I.tok _,rfl,q⟩
theorem call_isexcK {X:Cx}{K':PySem.W.Frag} (h:X.K=K'):CallR X (.builtin "isinstance") (λxs H Q=>∃ x C c cv b,xs=[.ref x,c]/\H x=some (excO x (.ref C))/\ExcCls K' C/\clsV c=some cv/\PySem.W.kitOne K' (.ref C) cv=some b/\Q (.bl b) H):=h ▸ call_isexc
theorem len4 {α:Type}{l:List α} (h:l.length=4):∃ a b c d,l=[a,b,c,d]:=by
 match l,h with
 | [a,b,c,d],_=>exact ⟨a,b,c,d,rfl⟩
theorem Fun.okR {P:Program}{w:World}{K:PySem.W.Frag}{mg:Str->Option Value}{base:Heap}{x qual:Str}{st:Stmt}{f:Addr}{fd:FuncData}{N ps:List Str}{k:Nat}{sp:Sp} (F:Fun K x qual st f fd) (S:FnScope N ps (defScope st)) (len:∀ vs H Q E,sp vs H Q E->vs.length=ps.length)
  (hbody:∀ (cdv:Value) (A:Around) (outer:List Env) (s:Shared) (H:Hp) (vs:List V) (Q:VK) (E:XK),Room k (A.deeper (envOfC qual (defScope st) s.heap.objs.size f cdv))->sp vs H Q E->
   ∃ t,PSs (cxOf (CXR P w) P w K mg base N qual (defScope st) f cdv A outer s H E) (defBody st) t/\t { nx:=λ_ H'=>Q .non H',rt:=Q } (start N vs) H):FnOk P w K mg base (CXR P w) (k+1) f fd ps sp:=by
 obtain ⟨oc,od,kV,doc,pm,an,cdv,ct,osl,rfl,lk,hcd⟩:=F.ex
 exact fn_of lk hcd S len λA outer s H vs Q E hr hsp=>hbody cdv A outer s H vs Q E hr hsp
structure DefR (P:Program) (w:World) (K:PySem.W.Frag) (mg:Str->Option Value) (base:Heap) (x:Str) (ps:List Str) (k:Nat) (sp:Sp):Prop where
 ex:∃ (f:Addr) (fd:FuncData),mg x=some (.ref f)/\PySem.W.keepIn K (.ref f)=true/\Binds K fd ps []/\FnOk P w K mg base (CXR P w) k f fd ps sp
theorem pe_callR {X:Cx}{x:Str}{ps:List Str}{k:Nat}{sp:Sp}{E:XK}{p pos:Pos}{e:Expr}{es:List Expr}{t:TA} (D:DefR X.prog X.w X.K X.mg X.base x ps k sp) (hr:Room k X.A) (hx:Passes (CXR X.prog X.w) X E) (hg:Gl X x) (ha:PA X (e::es) t)
  (hdb:(x == ("__debug__":Str))=false:=by decide) (he:starEach (e::es) X.env=(false,eval e X.env)::starEach es X.env:=by rfl) (hpl:(backTo pos (starEach es X.env)).any (·.1)=false:=by rfl) :
  PE X (.Call (.Name x p) (e::es) [] pos) (tCall sp [] E t):=by
 obtain ⟨f,fd,h1,h2,h3,h4⟩:=D.ex
 exact pe_call h4 hr hg h1 h2 h3 .nil hx ha hdb he hpl
def spRaises (C:Addr) (ok:List V->Hp->Prop):Sp:=λvs H _ E=>ok vs H/\E (.ref C) none H
end Cut
namespace Cut
open PySem L2 PyProof.Rows
theorem matches_any {M:Model}{A:Around}{E:Value->Shared->Prop}{h:Heap}{g:Array GenState}{d:Drawn}{t:Nat}{os:OsState}{e C D N N':Addr}{oe:Obj}{Q:Bool->Shared->Prop}{nm q nm' q':Str}{bs bm bs' bm':List Value}{hdct hdct':Bool}{sn sn':List Str}{sub sub':List Value}{ab ab':Bool}{col col':Option Bool}{dd dd':Option Addr}
  {k0 k1 k2 k3 k5 j0 j1 j2 j3 j5:Option Value}{ni ni':String} (b:Bool) (hC:h.get? C=some (excClassObj nm q C N bs bm hdct sn sub ab col dd k0 k1 k2 k3 k5 ni)) (he:h.get? e=some oe) (hcls:oe.cls=.ref C)
  (hD:h.get? D=some (excClassObj nm' q' D N' bs' bm' hdct' sn' sub' ab' col' dd' j0 j1 j2 j3 j5 ni')) (hbase:bm'.contains (.type "BaseException")=true) (hb:(Value.ref C::bm).contains (.ref D)=b)
  (hq:Q b ⟨h,g,d,t,os⟩):wpAny M A (excMatches (.ref e) (.ref D)) Q E ⟨h,g,d,t,os⟩:=by
 have hcB:(Value.ref D::bm').contains (.type "BaseException")=true:=by rw [List.contains_cons,hbase,Bool.or_true]
 have nt:=tc_notTuple
 unfold excMatches
 cases b
 ·repeat (first|(with_reducible refine wpAny_loadPart_at he ?_;rw [hcls])|with_reducible refine wpAny_loadPart_at hD ?_|(with_reducible refine wpAny_isSubtype_exc hD ?_;rw [hcB])|(with_reducible refine wpAny_isSubtype_exc hC ?_;rw [hb])|wp_step)
  exact hq
 ·repeat (first|(with_reducible refine wpAny_loadPart_at he ?_;rw [hcls])|with_reducible refine wpAny_loadPart_at hD ?_|(with_reducible refine wpAny_isSubtype_exc hD ?_;rw [hcB])|(with_reducible refine wpAny_isSubtype_exc hC ?_;rw [hb])|wp_step)
  exact hq
def tTry2 (K:PySem.W.Frag) (E:XK) (D1 D2:Addr) (tb t1 t2:TS):TS:=λD σ H=>tb D σ H/\∀ cls H1,E cls none H1->∃ C bm,cls=.ref C/\Exc K C bm/\
 (((Value.ref C::bm).contains (.ref D1)=true/\∀ (x:Addr) (σ1:L2.St),H1 x=none->σ1.length=σ.length->t1 D σ1 (upd H1 x (excO x cls))) ∨
  ((Value.ref C::bm).contains (.ref D1)=false/\(Value.ref C::bm).contains (.ref D2)=true/\∀ (x:Addr) (σ1:L2.St),H1 x=none->σ1.length=σ.length->t2 D σ1 (upd H1 x (excO x cls))))
theorem ps_try2 {X:Cx}{E:XK}{tb t1 t2:TS}{cn cm:Str}{D1 D2:Addr}{bm1 bm2:List Value}{b1 b2:Stmt}{suite1 suite2 body:List Stmt}{np np2 pos hpos hpos2:Pos} (hstk:X.stack=X.env::X.outer) (hfr:X.env.frame=some X.env.locals)
  (hg:Gl X cn) (hmD:X.mg cn=some (.ref D1)) (exD:Exc X.K D1 bm1) (hg2:Gl X cm) (hmD2:X.mg cm=some (.ref D2)) (exD2:Exc X.K D2 bm2)
  (hb:∀ xe' pn',Passes (CXR X.prog X.w) (Cx.alt X X.A X.calm pn' xe') E->PSs (Cx.alt X X.A X.calm pn' xe') body tb)
  (hs1:∀ A' pn',PSs (Cx.alt X A' false pn' (λ_ _=>False)) (b1::suite1) t1) (hs2:∀ A' pn',PSs (Cx.alt X A' false pn' (λ_ _=>False)) (b2::suite2) t2)
  (hdb:(cn == ("__debug__":Str))=false:=by decide) (hdb2:(cm == ("__debug__":Str))=false:=by decide) :
  PS X (.Try body [.ExceptHandler (some (.Name cn np)) none (b1::suite1) hpos,.ExceptHandler (some (.Name cm np2)) none (b2::suite2) hpos2] [] [] pos) (tTry2 X.K E D1 D2 tb t1 t2):=by
 intro pins s σ H D I hh
 obtain ⟨h1,h2⟩:=hh
 have fr:X.A.frames=some (X.env::X.outer):=hstk ▸ I.ok.frames
 refine wpAny_Try_except ?_
 generalize hxe:(λ(e:Value) (s₁:Shared)=>wpAny (model X.prog X.w) X.A (noteFrame e X.env) (λ_ s₂=>wpAny (model X.prog X.w) X.A (setFlight e none) (λ_ s₃=>wpAny (model X.prog X.w) X.A (handleBy e X.env [.ExceptHandler (some (.Name cn np)) none (b1::suite1) hpos,.ExceptHandler (some (.Name cm np2)) none (b2::suite2) hpos2]) (SP X pins D) X.xe s₃) X.xe s₂) X.xe s₁)=xe'
 have I':Inv (Cx.alt X X.A X.calm (X.pn++pins) xe') [] σ H s:=inv_alt I rfl I.ok.hd (λp hp=>by simpa using hp)
 refine wpAny_mono (hb xe' (X.pn++pins) ?pass [] s σ H D I' h1) (λf s1 q=>?fin) (λe s1 q=>q)
 case fin=>
  have back:∀ {σ':L2.St}{H':Hp},Inv (Cx.alt X X.A X.calm (X.pn++pins) xe') [] σ' H' s1->Inv X pins σ' H' s1:=λJ=>inv_back I.ok J (λp hp=>by simpa using hp)
  cases f with
  |next=>obtain ⟨σ',H',J,q⟩:=q;exact wpAny_execs_nil ⟨σ',H',back J,q⟩
  |brk=>obtain ⟨σ',H',J,q⟩:=q;exact ⟨σ',H',back J,q⟩
  |cont=>obtain ⟨σ',H',J,q⟩:=q;exact ⟨σ',H',back J,q⟩
  |ret u=>obtain ⟨v,σ',H',J,r,q⟩:=q;exact ⟨v,σ',H',back J,r,q⟩
 case pass=>
  intro pins1 σ1 H1 s1 e s2 J hC
  obtain ⟨x,cls,B,H2,rfl,ho,hgen,n1,nH,fl,u,hk,hB,hE⟩:=hC
  obtain ⟨C,bm,rfl,exC,hways⟩:=h2 cls H2 hE
  obtain ⟨hp2,g2,d2,tk2,os2⟩:=s2
  show xe' (.ref x) _
  rw [<-hxe]
  have hfl:Fly B (X.env::X.outer) x (.ref C) .none hp2:=hstk ▸ fl
  refine fly_note (B:=B) (outer:=X.outer) (L:=X.env.locals) fr hfr hfl λh4 held up4=>?_
  refine fly_land held λh5 fl5 up5=>?_
  have up25:hp2.UpToSlots h5:=up4.trans up5
  obtain ⟨ob,eob,cob,_⟩:=fl5.exc
  have J5:=land_inv J ho hgen n1 nH u hk hB fl5.st up25 fl5.exc
  have J5':Inv (Cx.alt X (X.A.mark (some (.ref x))) false (X.pn++pins) (λ_ _=>False)) pins1 σ1 (upd H2 x (excO x (.ref C))) ⟨h5,g2,d2,tk2,os2⟩:=inv_alt (X:=Cx.alt X X.A X.calm (X.pn++pins) xe') J5 rfl (λz=>by cases z) (λp hp=>hp)
  obtain ⟨nm,q,N,bs,hdct,sn,sub,ab,col,dd,k0,k1,k2,k3,k5,mN,_,obC⟩:=exC.at J5'.kIn
  obtain ⟨nm',q',N',bs',hdct',sn',sub',ab',col',dd',j0,j1,j2,j3,j5,mN',_,obD⟩:=exD.at J5'.kIn
  obtain ⟨nm2,q2,N2,bs2,hdct2,sn2,sub2,ab2,col2,dd2,i0,i1,i2,i3,i5,mN2,_,obD2⟩:=exD2.at J5'.kIn
  have hbase:bm1.contains (.type "BaseException")=true:=obD.2.2.hasType (by decide +kernel)
  have hbase2:bm2.contains (.type "BaseException")=true:=obD2.2.2.hasType (by decide +kernel)
  have hlen:σ1.length=σ.length:=J.len.trans I.len.symm
  have suite:∀ {b0:Stmt}{suite:List Stmt}{ts:TS},(∀ A' pn',PSs (Cx.alt X A' false pn' (λ_ _=>False)) (b0::suite) ts)->ts D σ1 (upd H2 x (excO x (.ref C)))->∀ (EE:Value->Shared->Prop),
    wpAny (model X.prog X.w) (X.A.mark (some (.ref x))) (setFlight (.ref x) none) (λ_ s₁=>wpAny (model X.prog X.w) (X.A.mark (some (.ref x))) (execs (b0::suite) X.env) (λf s₂=>SP X pins D f s₂) EE s₁) EE ⟨h5,g2,d2,tk2,os2⟩:=λ{b0 suite ts} hs ht EE=>by
   refine fly_land fl5 λh6 fl6 up6=>?_
   have J6:=land_inv J ho hgen n1 nH u hk hB fl6.st (up25.trans up6) fl6.exc
   have J6':Inv (Cx.alt X (X.A.mark (some (.ref x))) false (X.pn++pins) (λ_ _=>False)) pins1 σ1 (upd H2 x (excO x (.ref C))) ⟨h6,g2,d2,tk2,os2⟩:=inv_alt (X:=Cx.alt X X.A X.calm (X.pn++pins) xe') J6 rfl (λz=>by cases z) (λp hp=>hp)
   refine wpAny_mono (hs (X.A.mark (some (.ref x))) (X.pn++pins) pins1 _ _ _ D J6' ht) (λf s8 q=>?_) (λ_ _ z=>z.elim)
   have back:∀ {σ':L2.St}{H':Hp},Inv (Cx.alt X (X.A.mark (some (.ref x))) false (X.pn++pins) (λ_ _=>False)) pins1 σ' H' s8->Inv X pins σ' H' s8:=λJ8=>inv_back I.ok J8 λp hp=>List.mem_append_left _ hp
   show SP X pins D f s8
   cases f with
   |next=>obtain ⟨σ',H',J8,q⟩:=q;exact ⟨σ',H',back J8,q⟩
   |brk=>obtain ⟨σ',H',J8,q⟩:=q;exact ⟨σ',H',back J8,q⟩
   |cont=>obtain ⟨σ',H',J8,q⟩:=q;exact ⟨σ',H',back J8,q⟩
   |ret u=>obtain ⟨v,σ',H',J8,r,q⟩:=q;exact ⟨v,σ',H',back J8,r,q⟩
  rcases hways with ⟨c1,k1⟩|⟨c1,c2,k2⟩
  ·refine wpAny_handleBy_cons (codeAny_handlers_test (ld_glob J5' hg hmD ?_ hdb)) (by intro q;cases q)
   refine matches_any true obC.1 eob cob obD.1 hbase c1 ?_
   exact codeAny_handlers_suite (suite hs1 (k1 x σ1 nH hlen) _)
  ·refine wpAny_handleBy_cons (codeAny_handlers_test (ld_glob J5' hg hmD ?_ hdb)) (by intro q;cases q)
   refine matches_any false obC.1 eob cob obD.1 hbase c1 ?_
   refine wpAny_handleBy_cons (codeAny_handlers_test (ld_glob J5' hg2 hmD2 ?_ hdb2)) (by intro q;cases q)
   refine matches_any true obC.1 eob cob obD2.1 hbase2 c2 ?_
   exact codeAny_handlers_suite (suite hs2 (k2 x σ1 nH hlen) _)
end Cut
namespace L2
open PySem PySem.Spec PyProof.Rows
section
variable {X:Cx}{pins:List (Addr×Obj)}{σ:St}{H:Hp}{s:Shared}{a:Addr}
theorem Inv.swap {o o':HO} (I:Inv X pins σ H s) (e:H a=some o) (nt:∀ xs,o≠.tup xs) (nb:∀ ps,o≠.tbl ps) (nw:∀ x,o≠.own x) (nf:∀ ob u,X.H₀ a=some (.frz ob u)->False) (new:ObjOk X.prog X.w (upd H a o') s.heap a o'):Inv X pins σ (upd H a o') s:=by
 have ne:∀ {b:Addr},H b=none->b≠a:=λ{b} n z=>by rw [z,e] at n;cases n
 have up:∀ {b:Addr},H b=none->upd H a o' b=none:=λ{b} n=>by rw [upd_ne (ne n)];exact n
 refine ⟨I.ok,I.os,I.bare,⟨I.base.keep,I.base.slot,λb ob q n hx=>up (I.base.free b ob q n hx),I.base.there,λb xs q=>?_,λb ob u q=>?_,λb ps q=>?_⟩,I.loc,I.cell,up I.free,λx c q=>up (I.freeC x c q),λp hp=>?_,λb u q=>?_,I.len⟩
 ·have h:=I.base.tups b xs q
  rw [upd_ne (λz=>by rw [z,e] at h;exact nt xs (Option.some.inj h))]
  exact h
 ·have h:=I.base.frzs b ob u q
  rw [upd_ne (λz=>by rw [z] at q;exact nf ob u q)]
  exact h
 ·obtain ⟨more,h⟩:=I.base.tbls b ps q
  refine ⟨more,?_⟩
  rw [upd_ne (λz=>by rw [z,e] at h;exact nb _ (Option.some.inj h))]
  exact h
 ·obtain ⟨p1,p2,p3⟩:=I.pin p hp
  exact ⟨p1,up p2,p3⟩
 ·by_cases hb:b=a
  ·subst hb
   rw [upd_same] at q
   cases q
   exact new
  ·rw [upd_ne hb] at q
   refine (I.hok b u q).stay (λ_ _ _ r=>r) (λc r=>?_) λc xs r=>?_
   ·rw [upd_ne (λz=>by rw [z,e] at r;exact nw b (Option.some.inj r))];exact r
   ·rw [upd_ne (λz=>by rw [z,e] at r;exact nt xs (Option.some.inj r))];exact r
theorem Inv.nofrz {o:HO} (I:Inv X pins σ H s) (e:H a=some o) (n:∀ ob u,o≠.frz ob u):∀ ob u,X.H₀ a=some (.frz ob u)->False:=λob u q=>by
 have h:=I.base.frzs a ob u q
 rw [e] at h
 exact n ob u (Option.some.inj h)
theorem objD_of {P:Program}{w:World}{H':Hp}{h:Heap}{kvs:List (Key×V)} (x:ObjOk P w H h a (.dK kvs)):ObjOk P w H' h a (.dK kvs):=x
theorem Inv.freeze {kvs:List (Key×V)}{ob:Obj} (I:Inv X pins σ H s) (e:H a=some (.dK kvs)) (g:s.heap.get? a=some ob):Inv X pins σ (upd H a (.frz ob (.dK kvs))) s:=
 I.swap e (λ_ z=>nomatch z) (λ_ z=>nomatch z) (λ_ z=>nomatch z) (I.nofrz e λ_ _ z=>nomatch z) ⟨g,objD_of (I.hok a _ e)⟩
theorem Inv.thaw {kvs:List (Key×V)}{ob:Obj} (I:Inv X pins σ H s) (e:H a=some (.frz ob (.dK kvs))) (nf:∀ ob u,X.H₀ a=some (.frz ob u)->False):Inv X pins σ (upd H a (.dK kvs)) s:=
 I.swap e (λ_ z=>nomatch z) (λ_ z=>nomatch z) (λ_ z=>nomatch z) nf (objD_of (I.hok a _ e).2)
end
theorem kV_of {P:Program}{w:World}{k:Key}{u:Value} (h:(mixKind P w).is k u=true):RelV (kV k) u:=by
 rw [mixKind_is] at h
 cases k with
 |inl i=>
  obtain ⟨t,e⟩:=Value.isInt_shape (k:=i) (v:=u) h
  exact ⟨t,e⟩
 |inr x=>
  obtain ⟨t,e⟩:=Value.isStrOf_shape (x:=x) (v:=u) h
  exact ⟨t,e⟩
theorem kvs_get {κ:Type}{kvs:List (κ×V)}{vs:List (κ×Value)} (r:KV kvs vs):∀ (i:Nat) (p:κ×V),kvs[i]?=some p->∃ q,vs[i]?=some q/\q.1=p.1:=by
 unfold KV at r
 induction r with
 |nil=>intro i p h;simp at h
 | @cons p q ps qs h t ih=>
  intro i p' e
  cases i with
  |zero=>simp at e;subst e;exact ⟨q,by simp,h.1.symm⟩
  |succ i=>simp at e;obtain ⟨q',e1,e2⟩:=ih i p' e;exact ⟨q',by simpa using e1,e2⟩
def Itd (a:Addr) (ob:Obj) (kvs:List (Key×V)):It:=
 ⟨λi H=>H a=some (.frz ob (.dK kvs))/\i<kvs.length,λi H x H'=>H'=H/\∃ p,kvs[i]?=some p/\x=kV p.1,λi H=>H a=some (.frz ob (.dK kvs))/\kvs.length<=i⟩
theorem dictAt_of {P:Program}{w:World}{H:Hp}{h:Heap}{a:Addr}{ob:Obj}{kvs:List (Key×V)}{es:Array DictEntry}{ep:Nat} (x:ObjOk P w H h a (.frz ob (.dK kvs))) (hd:ob.data=.dict es ep):∃ vs,KV kvs vs/\h.DictAt (mixKind P w) a vs ep:=by
 obtain ⟨g,z,y,vs,rel,o',es',ep',e',c1,c2,c3,c4,c5⟩:=x
 rw [g] at e'
 cases e'
 rw [hd] at c2
 cases c2
 exact ⟨vs,rel,ob,es,g,c1,hd,c3,c4,c5⟩
theorem turn_dict {P:Program}{w:World}{K:PySem.W.Frag}{tg:Expr} (a it:Addr) (ob:Obj) (kvs:List (Key×V)) {es:Array DictEntry}{ep:Nat} (hd:ob.data=.dict es ep):Turn P w K tg (Itd a ob kvs) [it] it (λi h=>h.IsKeyIter it a i kvs.length ep) where
 mem:=by simp
 obj:=λi h st b hb=>by
  have e:b=it:=by simpa using hb
  subst e
  obtain ⟨o,e,c,d⟩:=st
  exact ⟨o,e,λv z=>by rw [d] at z;cases z⟩
 keep:=λi h h' st k=>st.at λo e=>k it (by simp) o e
 item:=by
  intro X hP hw hK hc i pins s σ H E I hf st hg
  subst hP hw hK
  obtain ⟨hH,hi⟩:=hg
  obtain ⟨vs,rel,da⟩:=dictAt_of (I.hok a _ hH) hd
  obtain ⟨p,hp⟩:∃ p,kvs[i]?=some p:=⟨_,List.getElem?_eq_getElem hi⟩
  obtain ⟨q,hq,e1⟩:=kvs_get rel i p hp
  obtain ⟨f0,f1,f2,f3,f4,f5⟩:=hf it (by simp)
  have hl:=rel.length
  rw [hl] at st
  refine wpAny_pyNext_dict_item st da (k:=q.1) (v:=q.2) hq λkey h' hk st' sb=>?_
  rw [<-hl] at st'
  have I1:Inv X pins σ H { s with heap:=h' }:=I.turned (t':=s.toks) (λb o hb e=>(sb.2 b hb).trans e) f0 f1 f3 f4 f5
  obtain ⟨o,e,c,d⟩:=id st'
  refine ⟨key,rfl,go_of (s:={ s with heap:=h' }) e c d (by decide) ⟨kV p.1,H,I1,?_,⟨rfl,p,hp,rfl⟩,st',λb hb=>(hf b hb).1⟩⟩
  rw [<-e1]
  exact kV_of hk
 done:=by
  intro X hP hw hK hc i pins s σ H E I hf st hg
  subst hP hw hK
  obtain ⟨hH,hi⟩:=hg
  obtain ⟨vs,rel,da⟩:=dictAt_of (I.hok a _ hH) hd
  obtain ⟨f0,f1,f2,f3,f4,f5⟩:=hf it (by simp)
  have hl:=rel.length
  rw [hl] at st hi
  exact wpAny_pyNext_dict_end (I.ok.hd hc) st da (List.getElem?_eq_none hi) λh' eb=>⟨rfl,I.turned (t':=s.toks) (λb o hb e=>eb b o hb e) f0 f1 f3 f4 f5⟩
 self:=λ_ _ _ _ _ st h=>wpAny_pyIter_keyiter st h
def iDict (X:Cx) (td:TE):TI:=fun σ H R=>td σ H λx H1=>∃ a kvs,x=.ref a/\H1 a=some (.dK kvs)/\∀ ob,(∀ ob u,X.H₀ a=some (.frz ob u)->False)->R (Itd a ob kvs) (upd H1 a (.frz ob (.dK kvs)))
theorem pi_dict {X:Cx}{tg l:Expr}{tl:TE} (hl:PE X l tl):PI X tg l (iDict X tl):=by
 intro pins s σ H R I h
 refine thn (hl pins s σ H _ I h) λv s1 ⟨x,H1,I1,r1,q1⟩=>?_
 obtain ⟨a,kvs,e,hH,q⟩:=q1
 subst e
 cases r1
 obtain ⟨z,hs,vs,rel,ob,es,ep,g,c1,c2,c3,c4,c5⟩:=id (show ObjOk X.prog X.w H1 s1.heap a (.dK kvs) from I1.hok a _ hH)
 have nf:=I1.nofrz hH λ_ _ z=>nomatch z
 have hl:=rel.length
 refine wpAny_pyIter_dict (knd:=mixKind X.prog X.w) hs ⟨ob,es,g,c1,c2,c3,c4,c5⟩ ?_
 have I2:Inv X pins σ (upd H1 a (.frz ob (.dK kvs))) s1:=I1.freeze hH g
 have I3:=I2.kept (t':=s1.toks) (h':=s1.heap.push { cls:=.type "dict_keyiterator",data:=.fields #[.ref a,.int 0 0,.int vs.length 0,.int ep 0] }) λb o e=>Heap.get?_push_of_some _ e
 refine ⟨s1.heap.objs.size,[s1.heap.objs.size],_,_,upd H1 a (.frz ob (.dK kvs)),rfl,I3,turn_dict a _ ob kvs c2,⟨_,Heap.get?_push_size _ rfl,rfl,by rw [<-hl];rfl⟩,λb hb=>?_,q ob nf⟩
 have e:b=s1.heap.objs.size:=by simpa using hb
 subst e
 exact I2.fpOk (Nat.le_refl _) (I2.hok.fresh (Nat.le_refl _))
def tForD (td:TE) (g:TG) (tb:TS):TS:=λD σ H=>td σ H λx H1=>∃ a kvs,x=.ref a/\H1 a=some (.dK kvs)/\∀ ob,∃ Pv:Nat->St->Hp->Prop,Pv 0 σ (upd H1 a (.frz ob (.dK kvs)))/\
 (∀ i σ H,i<=kvs.length->Pv i σ H->H a=some (.frz ob (.dK kvs)))/\(∀ B i p σ H,kvs[i]?=some p->Pv i σ H->g (kV p.1) σ H fun σ2 H2=>tb { nx:=Pv (i+1),rt:=λ_ _=>False,ct:=Pv (i+1),bk:=B } σ2 H2)/\
 ∀ σ H,Pv kvs.length σ H->D.nx σ (upd H a (.dK kvs))
def thawed (X:Cx) (D:Ends):St->Hp->Prop:=fun σ H=>∃ a kvs ob,H a=some (.frz ob (.dK kvs))/\(∀ ob u,X.H₀ a=some (.frz ob u)->False)/\D.nx σ (upd H a (.dK kvs))
def Mono (td:TE):Prop:=∀ (σ:St) (H:Hp) (Q Q':VK),(∀ v H,Q v H->Q' v H)->td σ H Q->td σ H Q'
theorem ps_forD {X:Cx}{tg iter:Expr}{body:List Stmt}{td:TE}{g:TG}{tb:TS}{pos:Pos} (hp:PassesOwn (model X.prog X.w) X.A X.env X.xe) (hc:X.calm=true) (hi:PE X iter td) (hg:PG X tg g) (hb:PSs X body tb) (hmo:Mono td)
  (hs:∀ x,foldedSetIterable iter X.env x=pure x:=by intro _;rfl):PS X (.For tg iter body [] pos) (tForD td g tb):=by
 intro pins s σ H D I h
 have h2:tFor (iDict X td) g tb { nx:=thawed X D,rt:=λ_ _=>False } σ H:=by
  refine hmo σ H _ _ (λx H1 q=>?_) h
  obtain ⟨a,kvs,e,hH,q⟩:=q
  refine ⟨a,kvs,e,hH,λob nf=>?_⟩
  obtain ⟨Pv,p0,pa,ps,pd⟩:=q ob
  refine ⟨λi m σ H=>m=kvs.length-i/\i<=kvs.length/\Pv i σ H,⟨kvs.length,by simp,Nat.zero_le _,p0⟩,?_⟩
  rintro i m σ H ⟨rfl,hi,p⟩
  have hA:=pa i σ H hi p
  by_cases hlt:i<kvs.length
  ·refine .inr ⟨⟨hA,hlt⟩,Pv (i+1),fun σ' H' p'=>⟨kvs.length-(i+1),by omega,rfl,hlt,p'⟩,λx H' y=>?_⟩
   obtain ⟨e,pp,hpp,ex⟩:=y
   subst e ex
   exact ps _ i pp σ _ hpp p
  ·have e:i=kvs.length:=by omega
   subst e
   exact .inl ⟨⟨hA,Nat.le_refl _⟩,a,kvs,ob,hA,nf,pd σ H p⟩
 refine wpAny_mono (ps_for hp hc (pi_dict hi) hg hb hs pins s σ H _ I h2) (λf s' q=>?_) λ_ _ x=>x
 cases f with
 |next=>
  obtain ⟨σ',H',J,a,kvs,ob,hA,nf,q⟩:=q
  exact ⟨σ',_,J.thaw hA nf,q⟩
 |brk=>obtain ⟨_,_,_,z⟩:=q;exact z.elim
 |cont=>obtain ⟨_,_,_,z⟩:=q;exact z.elim
 |ret u=>obtain ⟨_,_,_,_,_,z⟩:=q;exact z.elim
theorem call_dict_copy {X:Cx}:CallR X (.type "dict") (λxs H Q=>∃ a kvs,xs=[.ref a]/\H a=some (.dK kvs)/\∀ p,H p=none->Q (.ref p) (upd H p (.dK kvs))):=by
 intro pins s σ H xs us Q I rxs h
 obtain ⟨a,kvs,rfl,hH,q⟩:=h
 obtain ⟨u,rfl,ru⟩:∃ u,us=[u]/\RelV (.ref a) u:=by
  cases rxs with
  |cons r r1=>cases r1;exact ⟨_,rfl,r⟩
 obtain rfl:u=Value.ref a:=ru
 exact d_copyOf I (.inl hH) λp s' hp I'=>⟨.ref p,_,I',rfl,q p hp⟩
theorem vals_keys {P:Program}{w:World}:∀ {kvs:List (Key×V)}{vs:List (Key×Value)}{us:List Value},KV kvs vs->us.length=vs.length->(∀ (j:Nat) (v:Value),us[j]?=some v->∃ k x,vs[j]?=some (k,x)/\(mixKind P w).is k v=true)->Vals (kvs.map λp=>kV p.1) us:=by
 intro kvs vs us r
 unfold KV at r
 induction r generalizing us with
 |nil=>
  intro hl _
  cases us with
  |nil=>exact .nil
  |cons u us=>simp at hl
 | @cons p q ps qs h t ih=>
  intro hl hj
  cases us with
  |nil=>simp at hl
  |cons u us=>
   obtain ⟨k,x,e1,e2⟩:=hj 0 u (by simp)
   simp at e1
   refine .cons ?_ (ih (by simpa using hl) λj v e=>?_)
   ·have hk:=kV_of e2
    show RelV (kV p.1) u
    rw [h.1,e1]
    exact hk
   ·obtain ⟨k',x',e1',e2'⟩:=hj (j+1) v (by simpa using e)
    exact ⟨k',x',by simpa using e1',e2'⟩
theorem call_list_dict {X:Cx} (hc:X.calm=true):CallR X (.type "list") (λxs H Q=>∃ a kvs,xs=[.ref a]/\H a=some (.dK kvs)/\∀ l,H l=none->Q (.ref l) (upd H l (.lst (kvs.map λp=>kV p.1)))):=by
 intro pins s σ H xs us Q I rxs h
 obtain ⟨a,kvs,rfl,hH,q⟩:=h
 obtain ⟨u,rfl,ru⟩:∃ u,us=[u]/\RelV (.ref a) u:=by
  cases rxs with
  |cons r r1=>cases r1;exact ⟨_,rfl,r⟩
 obtain rfl:u=Value.ref a:=ru
 obtain ⟨z,hs,vs,rel,ob,es,ep,g,c1,c2,c3,c4,c5⟩:=id (show ObjOk X.prog X.w H s.heap a (.dK kvs) from I.hok a _ hH)
 have hl:=rel.length
 refine PySem.W.dl_list (knd:=mixKind X.prog X.w) (kvs:=vs) (ep:=ep) hs (I.ok.hd hc) ⟨ob,es,g,c1,c2,c3,c4,c5⟩ (by rw [<-hl];exact z) λh' tk acc' c' hk hS hacc=>?_
 refine ⟨.ref s.heap.objs.size,_,I.laid (t':=tk) hk (Nat.le_refl _) ?_,rfl,q _ (I.hok.fresh (Nat.le_refl _))⟩
 refine ⟨by rw [List.length_map];exact z,acc'.toList,c',vals_keys rel (by rw [Array.length_toList];exact hacc.1) (λj v e=>hacc.2 j v (by rw [<-Array.getElem?_toList];exact e)),?_⟩
 rw [Array.toArray_toList]
 exact hS
theorem strs_of_vals:∀ {ts:List Str}{us:List Value},Vals (ts.map V.str) us->StrsAre us ts
 | [],_,r=>by rw [List.map_nil] at r;cases r;exact .nil
 |z::zs,_,r=>by
  rw [List.map_cons] at r
  cases r with
  |cons h t=>
   obtain ⟨k,rfl⟩:=h
   exact .cons _ _ (strs_of_vals t)
theorem vals_of_strs:∀ {us:List Value}{ts:List Str},StrsAre us ts->Vals (ts.map V.str) us
 |_,_,.nil=>.nil
 |_,_,.cons n t r=>.cons ⟨_,rfl⟩ (vals_of_strs r)
theorem call_sorted_dict {X:Cx} (hc:X.calm=true):CallR X (.builtin "sorted") (λxs H Q=>∃ (a:Addr) (kvs:List (Key×V)) (ts:List Str),xs=[.ref a]/\H a=some (.dK kvs)/\(kvs.map λp=>kV p.1)=ts.map V.str/\ts.length<64/\
  ∀ (l:Addr) (τ:List Str),H l=none->τ.Perm ts->sortedS τ=true->Q (.ref l) (upd H l (.lst (τ.map V.str)))):=by
 intro pins s σ H xs us Q I rxs h
 obtain ⟨a,kvs,ts,rfl,hH,hk,ht,q⟩:=h
 obtain ⟨u,rfl,ru⟩:∃ u,us=[u]/\RelV (.ref a) u:=by
  cases rxs with
  |cons r r1=>cases r1;exact ⟨_,rfl,r⟩
 obtain rfl:u=Value.ref a:=ru
 obtain ⟨z,hs,vs,rel,ob,es,ep,g,c1,c2,c3,c4,c5⟩:=id (show ObjOk X.prog X.w H s.heap a (.dK kvs) from I.hok a _ hH)
 have hl:=rel.length
 have hh:=I.ok.hd hc
 refine Calls.call_function_entry kind_sorted plain_sorted entry_sorted (args_sorted1 _) ?_
 unfold Builtin.«sorted»
 refine wpAny_bind (m:=checkCount "sorted" 1 1 _) (wpAny_pure ?_)
 refine wpAny_bind (PySem.W.dl_collect (A:=X.A.in1) (knd:=mixKind X.prog X.w) (kvs:=vs) (ep:=ep) hs hh ⟨ob,es,g,c1,c2,c3,c4,c5⟩ (by rw [<-hl];exact z) λh1 tk acc kp lt1 hacc=>?_)
 have hal:acc.toList.length=vs.length:=by rw [Array.length_toList];exact hacc.1
 have hv:Vals (kvs.map λp=>kV p.1) acc.toList:=vals_keys rel hal (λj v e=>hacc.2 j v (by rw [<-Array.getElem?_toList];exact e))
 rw [hk] at hv
 have hS:=strs_of_vals hv
 have hl2:acc.toList.length<64:=by
  have e:=hv.length
  rw [List.length_map] at e
  omega
 generalize acc.toList=ws at hv hS hl2 hal
 refine wpAny_bind (wpAny_newList ?_ (by rw [hal,<-hl];exact z))
 have g2:(h1.push (seqObj "list" ws.toArray 0)).get? h1.objs.size=some (seqObj "list" ws.toArray 0):=Heap.get?_push_size _ rfl
 refine wpAny_bind (wpAny_holding (wpAny_call_entry slot_list_sort ⟨_,g2,rfl⟩ entry_list_sort (list_sort_treeK strKind_oneLt g2 hS.keysOf (λv₁ v₂ rest e=>keyKind_strs (by rw [<-e];exact hS)) hl2 λst' hp hs'=>⟨_,rfl,?_⟩) (args_list_sort _)))
 obtain ⟨ss',o1,o2,o3⟩:=sorted_out_str hS hp hs'
 generalize (arrOf st').map (·.2)=out at o1
 have le:s.heap.objs.size<=h1.objs.size:=Nat.le_of_lt lt1
 refine wpAny_pure ⟨_,rfl,.ref h1.objs.size,upd H h1.objs.size (.lst (ss'.map V.str)),?_,rfl,q h1.objs.size ss' (I.hok.fresh le) o2 o3⟩
 refine I.laid (t':=tk) (λb o e=>?_) le ?_
 ·have nb:b≠h1.objs.size:=Nat.ne_of_lt (Heap.lt_size (kp b o e))
  have y0:=Heap.get?_push_of_some (seqObj "list" ws.toArray 0) (kp b o e)
  have y1:=(Heap.get?_update_other (h1.push (seqObj "list" ws.toArray 0)) (Obj.mapSeq λ_=>#[]) (Ne.symm nb)).trans y0
  have y2:=Heap.get?_push_of_some (seqObj "list" #[] 0) (Heap.get?_push_of_some (seqObj "tuple" ws.toArray 0) y1)
  exact (Heap.get?_update_other _ _ (Ne.symm nb)).trans y2
 ·have y1:=get?_update_seq g2 (λ_=>#[])
  have y2:=Heap.get?_push_of_some (seqObj "list" #[] 0) (Heap.get?_push_of_some (seqObj "tuple" ws.toArray 0) y1)
  have y3:=get?_update_seq y2 (λ_=>out)
  have hz:(ss'.map V.str).length<=sizeLine:=by
   rw [List.length_map,o2.length_eq]
   exact Nat.le_of_lt (Nat.lt_of_lt_of_le ht (by decide))
  exact ⟨hz,out.toList,_,vals_of_strs o1,by rw [Array.toArray_toList];exact y3⟩
end L2
namespace Cut
open PySem L2 PyProof.Rows
def top (i:Nat):Stmt:=PySem.Challenge.pw_cutline_k12_whole_desk.main.body.getD i (.Pass ⟨0,0,0,0⟩)
abbrev s_Line_init:Stmt:=inClass (top 5) 0
abbrev s_own_copy:Stmt:=top 6
abbrev s_line_of:Stmt:=top 7
abbrev s_empty_line:Stmt:=top 8
abbrev s_cuts_up_to:Stmt:=top 9
abbrev s_check_size:Stmt:=top 11
abbrev s_check_times:Stmt:=top 12
abbrev s_has_no_places:Stmt:=top 13
abbrev s_put:Stmt:=top 14
abbrev s_opened:Stmt:=top 15
abbrev s_closed:Stmt:=top 16
abbrev s_stretched:Stmt:=top 17
abbrev s_done:Stmt:=top 18
abbrev s_carried_by_opening:Stmt:=top 19
abbrev s_carried_by_closing:Stmt:=top 20
abbrev s_carried_by_stretching:Stmt:=top 21
abbrev s_carried:Stmt:=top 22
abbrev s_State_init:Stmt:=inClass (top 24) 0
abbrev s_with_mark:Stmt:=top 25
abbrev s_behind_deed:Stmt:=top 26
abbrev s_Desk_init:Stmt:=inClass (top 27) 0
abbrev s_Desk_do:Stmt:=inClass (top 27) 1
abbrev s_Desk_undo:Stmt:=inClass (top 27) 2
abbrev s_Desk_redo:Stmt:=inClass (top 27) 3
abbrev s_Desk_line:Stmt:=inClass (top 27) 4
abbrev s_Desk_where:Stmt:=inClass (top 27) 5
abbrev s_Desk_names:Stmt:=inClass (top 27) 6
abbrev s_law_cell_at:Stmt:=top 29
abbrev s_law_names:Stmt:=top 30
abbrev s_law_deed:Stmt:=top 31
abbrev s_law_next:Stmt:=top 32
abbrev s_law_value:Stmt:=top 33
abbrev s_law_edges_behind:Stmt:=top 34
abbrev s_law_edges:Stmt:=top 35
abbrev s_law_due:Stmt:=top 36
abbrev s_law_whole:Stmt:=top 37
abbrev s_law_held:Stmt:=top 38
abbrev s_law_line:Stmt:=top 39
abbrev s_law_moved:Stmt:=top 40
abbrev s_law_marks:Stmt:=top 41
abbrev s_law_does:Stmt:=top 42
abbrev s_law_ill:Stmt:=top 43
abbrev s_law_none_alone:Stmt:=top 44
abbrev s_law_due_of:Stmt:=top 45
abbrev s_law_marks_right:Stmt:=top 46
abbrev s_law_stands:Stmt:=top 47
abbrev s_law:Stmt:=top 48
theorem sc_Line_init:FnScope ["self","cuts","holds"] ["self","cuts","holds"] (defScope s_Line_init):=⟨rfl,rfl,rfl,by decide +kernel,rfl,by decide +kernel,by decide +kernel⟩
theorem sc_own_copy:FnScope ["thing","fresh","key"] ["thing"] (defScope s_own_copy):=⟨rfl,rfl,rfl,by decide +kernel,rfl,by decide +kernel,by decide +kernel⟩
theorem sc_line_of:FnScope ["cuts","holds","kept_cuts","kept_holds","number","cut","last_of_alike","hold"] ["cuts","holds"] (defScope s_line_of):=⟨rfl,rfl,rfl,by decide +kernel,rfl,by decide +kernel,by decide +kernel⟩
theorem sc_empty_line:FnScope [] [] (defScope s_empty_line):=⟨rfl,rfl,rfl,by decide +kernel,rfl,by decide +kernel,by decide +kernel⟩
theorem sc_cuts_up_to:FnScope ["line","place","low","high","middle"] ["line","place"] (defScope s_cuts_up_to):=⟨rfl,rfl,rfl,by decide +kernel,rfl,by decide +kernel,by decide +kernel⟩
theorem sc_check_size:FnScope ["size"] ["size"] (defScope s_check_size):=⟨rfl,rfl,rfl,by decide +kernel,rfl,by decide +kernel,by decide +kernel⟩
theorem sc_check_times:FnScope ["times"] ["times"] (defScope s_check_times):=⟨rfl,rfl,rfl,by decide +kernel,rfl,by decide +kernel,by decide +kernel⟩
theorem sc_has_no_places:FnScope ["start","end"] ["start","end"] (defScope s_has_no_places):=⟨rfl,rfl,rfl,by decide +kernel,rfl,by decide +kernel,by decide +kernel⟩
theorem sc_put:FnScope ["line","start","end","value","cuts","holds","ahead","passed"] ["line","start","end","value"] (defScope s_put):=⟨rfl,rfl,rfl,by decide +kernel,rfl,by decide +kernel,by decide +kernel⟩
theorem sc_opened:FnScope ["line","place","size","ahead","moved","cuts","holds"] ["line","place","size"] (defScope s_opened):=⟨rfl,rfl,rfl,by decide +kernel,rfl,by decide +kernel,by decide +kernel⟩
theorem sc_closed:FnScope ["line","place","size","ahead","passed","moved","cuts","holds"] ["line","place","size"] (defScope s_closed):=⟨rfl,rfl,rfl,by decide +kernel,rfl,by decide +kernel,by decide +kernel⟩
theorem sc_stretched:FnScope ["line","times"] ["line","times"] (defScope s_stretched):=⟨rfl,rfl,rfl,by decide +kernel,rfl,by decide +kernel,by decide +kernel⟩
theorem sc_done:FnScope ["line","deed","word"] ["line","deed"] (defScope s_done):=⟨rfl,rfl,rfl,by decide +kernel,rfl,by decide +kernel,by decide +kernel⟩
theorem sc_carried_by_opening:FnScope ["place","gap","size"] ["place","gap","size"] (defScope s_carried_by_opening):=⟨rfl,rfl,rfl,by decide +kernel,rfl,by decide +kernel,by decide +kernel⟩
theorem sc_carried_by_closing:FnScope ["place","gap","size"] ["place","gap","size"] (defScope s_carried_by_closing):=⟨rfl,rfl,rfl,by decide +kernel,rfl,by decide +kernel,by decide +kernel⟩
theorem sc_carried_by_stretching:FnScope ["place","times"] ["place","times"] (defScope s_carried_by_stretching):=⟨rfl,rfl,rfl,by decide +kernel,rfl,by decide +kernel,by decide +kernel⟩
theorem sc_carried:FnScope ["place","deed","word"] ["place","deed"] (defScope s_carried):=⟨rfl,rfl,rfl,by decide +kernel,rfl,by decide +kernel,by decide +kernel⟩
theorem sc_State_init:FnScope ["self","drawn","marks"] ["self","drawn","marks"] (defScope s_State_init):=⟨rfl,rfl,rfl,by decide +kernel,rfl,by decide +kernel,by decide +kernel⟩
theorem sc_with_mark:FnScope ["state","name","place","marks"] ["state","name","place"] (defScope s_with_mark):=⟨rfl,rfl,rfl,by decide +kernel,rfl,by decide +kernel,by decide +kernel⟩
theorem sc_behind_deed:FnScope ["state","deed","drawn","marks","name"] ["state","deed"] (defScope s_behind_deed):=⟨rfl,rfl,rfl,by decide +kernel,rfl,by decide +kernel,by decide +kernel⟩
theorem sc_Desk_init:FnScope ["self"] ["self"] (defScope s_Desk_init):=⟨rfl,rfl,rfl,by decide +kernel,rfl,by decide +kernel,by decide +kernel⟩
theorem sc_Desk_do:FnScope ["self","deed","behind"] ["self","deed"] (defScope s_Desk_do):=⟨rfl,rfl,rfl,by decide +kernel,rfl,by decide +kernel,by decide +kernel⟩
theorem sc_Desk_undo:FnScope ["self"] ["self"] (defScope s_Desk_undo):=⟨rfl,rfl,rfl,by decide +kernel,rfl,by decide +kernel,by decide +kernel⟩
theorem sc_Desk_redo:FnScope ["self"] ["self"] (defScope s_Desk_redo):=⟨rfl,rfl,rfl,by decide +kernel,rfl,by decide +kernel,by decide +kernel⟩
theorem sc_Desk_line:FnScope ["self","drawn"] ["self"] (defScope s_Desk_line):=⟨rfl,rfl,rfl,by decide +kernel,rfl,by decide +kernel,by decide +kernel⟩
theorem sc_Desk_where:FnScope ["self","name"] ["self","name"] (defScope s_Desk_where):=⟨rfl,rfl,rfl,by decide +kernel,rfl,by decide +kernel,by decide +kernel⟩
theorem sc_Desk_names:FnScope ["self"] ["self"] (defScope s_Desk_names):=⟨rfl,rfl,rfl,by decide +kernel,rfl,by decide +kernel,by decide +kernel⟩
theorem sc_law_cell_at:FnScope ["script","k"] ["script","k"] (defScope s_law_cell_at):=⟨rfl,rfl,rfl,by decide +kernel,rfl,by decide +kernel,by decide +kernel⟩
theorem sc_law_names:FnScope ["cell","letters","first","size"] ["cell"] (defScope s_law_names):=⟨rfl,rfl,rfl,by decide +kernel,rfl,by decide +kernel,by decide +kernel⟩
theorem sc_law_deed:FnScope ["one","two","names","place","size","ends"] ["one","two","names"] (defScope s_law_deed):=⟨rfl,rfl,rfl,by decide +kernel,rfl,by decide +kernel,by decide +kernel⟩
theorem sc_law_next:FnScope ["cell","other","names","ill"] ["cell","other","names"] (defScope s_law_next):=⟨rfl,rfl,rfl,by decide +kernel,rfl,by decide +kernel,by decide +kernel⟩
theorem sc_law_value:FnScope ["deeds","place","deed","late"] ["deeds","place"] (defScope s_law_value):=⟨rfl,rfl,rfl,by decide +kernel,rfl,by decide +kernel,by decide +kernel⟩
theorem sc_law_edges_behind:FnScope ["edges","deed","place","moved"] ["edges","deed"] (defScope s_law_edges_behind):=⟨rfl,rfl,rfl,by decide +kernel,rfl,by decide +kernel,by decide +kernel⟩
theorem sc_law_edges:FnScope ["deeds","edges","deed"] ["deeds"] (defScope s_law_edges):=⟨rfl,rfl,rfl,by decide +kernel,rfl,by decide +kernel,by decide +kernel⟩
theorem sc_law_due:FnScope ["deeds","edges","cuts","holds","edge","value"] ["deeds"] (defScope s_law_due):=⟨rfl,rfl,rfl,by decide +kernel,rfl,by decide +kernel,by decide +kernel⟩
theorem sc_law_whole:FnScope ["found"] ["found"] (defScope s_law_whole):=⟨rfl,rfl,rfl,by decide +kernel,rfl,by decide +kernel,by decide +kernel⟩
theorem sc_law_held:FnScope ["found","due"] ["found","due"] (defScope s_law_held):=⟨rfl,rfl,rfl,by decide +kernel,rfl,by decide +kernel,by decide +kernel⟩
theorem sc_law_line:FnScope ["found","due","k"] ["found","due"] (defScope s_law_line):=⟨rfl,rfl,rfl,by decide +kernel,rfl,by decide +kernel,by decide +kernel⟩
theorem sc_law_moved:FnScope ["deed","place"] ["deed","place"] (defScope s_law_moved):=⟨rfl,rfl,rfl,by decide +kernel,rfl,by decide +kernel,by decide +kernel⟩
theorem sc_law_marks:FnScope ["deeds","marks","deed","name"] ["deeds"] (defScope s_law_marks):=⟨rfl,rfl,rfl,by decide +kernel,rfl,by decide +kernel,by decide +kernel⟩
theorem sc_law_does:FnScope ["desk","deed","told"] ["desk","deed"] (defScope s_law_does):=⟨rfl,rfl,rfl,by decide +kernel,rfl,by decide +kernel,by decide +kernel⟩
theorem sc_law_ill:FnScope ["deed"] ["deed"] (defScope s_law_ill):=⟨rfl,rfl,rfl,by decide +kernel,rfl,by decide +kernel,by decide +kernel⟩
theorem sc_law_none_alone:FnScope ["desk","way","alone","e"] ["desk","way"] (defScope s_law_none_alone):=⟨rfl,rfl,rfl,by decide +kernel,rfl,by decide +kernel,by decide +kernel⟩
theorem sc_law_due_of:FnScope ["stand","deed","deeds","gone"] ["stand","deed"] (defScope s_law_due_of):=⟨rfl,rfl,rfl,by decide +kernel,rfl,by decide +kernel,by decide +kernel⟩
theorem sc_law_marks_right:FnScope ["desk","marks","name","found"] ["desk","marks"] (defScope s_law_marks_right):=⟨rfl,rfl,rfl,by decide +kernel,rfl,by decide +kernel,by decide +kernel⟩
theorem sc_law_stands:FnScope ["desk","deeds"] ["desk","deeds"] (defScope s_law_stands):=⟨rfl,rfl,rfl,by decide +kernel,rfl,by decide +kernel,by decide +kernel⟩
theorem sc_law:FnScope ["script","names","desk","other","stand","cells","k","deed","now","kept","found","due"] ["script"] (defScope s_law):=⟨rfl,rfl,rfl,by decide +kernel,rfl,by decide +kernel,by decide +kernel⟩
section
variable {P:Program}{w:World}{K:PySem.W.Frag}{mg:Str->Option Value}{base:Heap}{C:Addr}
theorem ok_init {f:Addr}{fd:FuncData} (F:Fun K "__init__" "Line.__init__" s_Line_init f fd) (T:Txt K mg C):FnOk P w K mg base CX0 1 f fd ["self","cuts","holds"] (spInit C):=by
 refine F.ok sc_Line_init (λvs H Q E h=>?_) (λcdv A outer s H vs Q E hr h=>?_)
 ·obtain ⟨p,dx,a,b,rfl,_⟩:=h
  rfl
 ·obtain ⟨p,dx,a,b,rfl,hp,k⟩:=h
  refine ⟨_,pss_cons (ps_fld (pv 0) (pv 1) rfl) (pss_one (ps_fld (pv 0) (pv 2) rfl)),?_⟩
  refine ⟨_,rfl,_,rfl,p,C,dx,[],rfl,hp,T.cl,T.nC,(by show 0<1000;decide),_,rfl,_,rfl,p,C,dx,_,rfl,upd_same,T.cl,T.nH,(by show 1<1000;decide),?_⟩
  show Q .non (upd (upd H p _) p _)
  rw [upd_upd]
  exact k
theorem ok_own {f:Addr}{fd:FuncData} (F:Fun K "own_copy" "own_copy" s_own_copy f fd) (T:Txt K mg C):FnOk P w K mg base CX0 1 f fd ["thing"] spOwn:=by
 refine F.ok sc_own_copy (λvs H Q E h=>?_) (λcdv A outer s H vs Q E hr h=>?_)
 ·obtain ⟨v,rfl,_⟩:=h
  rfl
 ·obtain ⟨v,rfl,hv,k⟩:=h
  obtain ⟨t,ty,k1,k2,k3,_⟩:=hv.ty (K:=K) (H:=H)
  refine ⟨_,pss_cons (ps_if (pt_val (pe_callB call_isinst rfl T.isinstance boot_isinstance (pa_cons (pv 0) (pa_cons (pe_bltn rfl T.list boot_list (v:=.ty "list") rfl) pa_nil)))) pss_never pss_nil)
   (pss_cons (ps_if (pt_val (pe_callB call_isinst rfl T.isinstance boot_isinstance (pa_cons (pv 0) (pa_cons (pe_bltn rfl T.tuple boot_tuple (v:=.ty "tuple") rfl) pa_nil)))) pss_never pss_nil)
   (pss_cons (ps_if (pt_val (pe_callB call_isinst rfl T.isinstance boot_isinstance (pa_cons (pv 0) (pa_cons (pe_bltn rfl T.dict boot_dict (v:=.ty "dict") rfl) pa_nil)))) pss_never pss_nil)
   (pss_one (ps_ret (pv 0))))),?_⟩
  refine ⟨_,rfl,_,_,_,_,_,rfl,ty,rfl,k1,_,rfl,iteF ?_⟩
  refine ⟨_,rfl,_,_,_,_,_,rfl,ty,rfl,k2,_,rfl,iteF ?_⟩
  refine ⟨_,rfl,_,_,_,_,_,rfl,ty,rfl,k3,_,rfl,iteF ?_⟩
  exact ⟨_,rfl,k⟩
theorem ok_line_of {f fI:Addr}{fd fdI:FuncData} (F:Fun K "line_of" "line_of" s_line_of f fd) (T:Txt K mg C) (M:Mk K C fI) (GI:FnOk P w K mg base CX0 1 fI fdI ["self","cuts","holds"] (spInit C)) (bI:Binds K fdI ["self","cuts","holds"] [])
  (DO:Def P w K mg base "own_copy" ["thing"] 1 spOwn):FnOk P w K mg base CX0 3 f fd ["cuts","holds"] (spLineOf K C):=by
 refine F.ok sc_line_of (λvs H Q E h=>?_) (λcdv A outer s H vs Q E hr h=>?_)
 ·obtain ⟨a,b,v,ps,rfl,_⟩:=h
  rfl
 ·obtain ⟨a,b,v,ps,rfl,ha,hb,hh,hlen,k⟩:=h
  have hr1:Room 1 _:=hr.mono (by decide)
  refine ⟨_,pss_cons (ps_set (i:=2) sc_line_of.nd rfl (Or.inl rfl) (pe_lst pa_nil))
   (pss_cons (ps_set (i:=3) sc_line_of.nd rfl (Or.inl rfl) (pe_lst (pa_cons (pe_callD DO hr1 rfl (pa_cons (pe_ix ix_list (pv 1) pe_int (λ_ _=>rfl)) pa_nil)) pa_nil)))
   (pss_cons (ps_for PassesOwn.never rfl (pi_enum rfl T.enumerate (pa_cons (pv 0) pa_nil)) (pg_tup rfl (pgs_cons (pg_name (i:=4) sc_line_of.nd rfl (Or.inl rfl)) (pgs_cons (pg_name (i:=5) sc_line_of.nd rfl (Or.inl rfl)) pgs_nil)))
    (pss_cons (ps_set (i:=6) sc_line_of.nd rfl (Or.inl rfl) (pe_or (pe_cmpR op_eq (pe_op op_add (pv 4) pe_int) (pe_callB call_len_seq rfl T.len PySem.boot_len (pa_cons (pv 0) pa_nil)) (nomark _))
     (pe_one (pe_cmpR op_ne (pe_ix ix_list (pv 0) (pe_op op_add (pv 4) pe_int) (λ_ _=>rfl)) (pv 5) (nomark _)))))
    (pss_cons (ps_set (i:=7) sc_line_of.nd rfl (Or.inl rfl) (pe_ix ix_list (pv 1) (pe_op op_add (pv 4) pe_int) (λ_ _=>rfl)))
    (pss_one (ps_if (PW.pt (pw_and (pt_val (pv 6)) (pw_and1 (pt_not (pt_cmpR op_eq (pv 7) (pe_ix ix_list (pv 3) (pe_un un_neg pe_int) (λ_ _=>rfl)) (nomark _))))))
     (pss_cons (ps_expr (pe_bm PySem.F.plainAttrs_list PySem.F.slot_list_append PySem.F.type_list_append mt_append (pv 2) (pa_cons (pv 5) pa_nil)))
     (pss_one (ps_expr (pe_bm PySem.F.plainAttrs_list PySem.F.slot_list_append PySem.F.type_list_append mt_append (pv 3) (pa_cons (pe_callD DO hr1 rfl (pa_cons (pv 7) pa_nil)) pa_nil)))))
     pss_nil)))))
   (pss_one (ps_ret (pe_make M GI hr rfl T.mgC bI .nil pass0 (pa_cons (pv 2) (pa_cons (pv 3) pa_nil))))))),?_⟩
  refine ⟨Nat.zero_le _,λkc hkc=>?_⟩
  have hb1:SqL K (upd H kc (.lst [])) b (holdsV v ps):=(Same.new hkc).seq hb
  refine ⟨_,rfl,b,_,0,v,rfl,rfl,hb1,atN (j:=0) rfl rfl,_,rfl,hh.h0,smallL (by show 1<=2000;decide),λkh hkh=>?_⟩
  have hkh0:H kh=none:=(Same.new hkc).free hkh
  have nkk:kc≠kh:=λe=>by rw [<-e,upd_same] at hkh;cases hkh
  have s0:Same H (upd (upd H kc (.lst [])) kh (.lst [v])):=Same.upd (Same.new hkc) hkh0
  refine ⟨_,rfl,a,rfl,⟨_,s0.seq ha⟩,for_enum (K:=K) (a:=a) (xs:=cutsV ps) (λi σ H2=>∃ (kp:List (Int×V)) (x4 x5 x6 x7:Option V),σ=[some (.ref a),some (.ref b),some (.ref kc),some (.ref kh),x4,x5,x6,x7]/\Same H H2/\
   H2 kc=some (.lst (cutsV kp))/\H2 kh=some (.lst (holdsV v kp))/\Holds v kp/\kp.length<=i/\kp++formP (lastH v kp) (ps.drop i)=formP v ps) ?_ (λi σ H2 _ ⟨_,_,_,_,_,_,s2,_⟩=>s2.seq ha) ?_ ?_⟩
  ·exact ⟨[],none,none,none,none,rfl,s0,by rw [upd_ne nkk,upd_same];rfl,upd_same,⟨hh.h0,λq hq=>nomatch hq⟩,Nat.le_refl _,rfl⟩
  ·rintro i y t σ H2 hi ht ⟨kp,x4,x5,x6,x7,rfl,s2,h2c,h2h,hkp,hki,hform⟩
   have hil:i<ps.length:=by
    have:=(List.getElem?_eq_some_iff.mp hi).1
    rw [List.length_map] at this
    exact this
   obtain ⟨q,hq⟩:∃ q,ps[i]?=some q:=⟨ps[i],List.getElem?_eq_getElem hil⟩
   obtain rfl:V.int q.1=y:=by
    rw [List.getElem?_map,hq] at hi
    exact Option.some.inj hi
   have hqh:HV q.2:=hh.hs q (List.mem_of_getElem? hq)
   have hdrop:ps.drop i=q::ps.drop (i+1):=by
    rw [List.drop_eq_getElem_cons hil]
    congr 1
    have:=List.getElem?_eq_getElem hil
    rw [hq] at this
    exact (Option.some.inj this).symm
   have s3:Same H (upd H2 t (.tup [.int (i:Int),.int q.1])):=Same.upd s2 (s2.free ht)
   have g2c:(upd H2 t (.tup [.int (i:Int),.int q.1])) kc=some (.lst (cutsV kp)):=by rw [upd_ne (ne_of_none h2c ht)];exact h2c
   have g2h:(upd H2 t (.tup [.int (i:Int),.int q.1])) kh=some (.lst (holdsV v kp)):=by rw [upd_ne (ne_of_none h2h ht)];exact h2h
   refine ⟨t,_,rfl,SqT.of upd_same,rfl,_,_,rfl,_,_,rfl,rfl,?_⟩
   generalize upd H2 t (.tup [.int (i:Int),.int q.1])=H3 at s3 g2c g2h ⊢
   have lenC:(cutsV ps).length=ps.length:=List.length_map ..
   refine ⟨_,rfl,_,_,rfl,rfl,_,rfl,a,_,rfl,.inl (s3.seq ha),rfl,_,rfl,orV (!decide (V.int ((ps.getD (i+1) q).1)=V.int q.1)) (λhc Q' q'=>?_) ?_⟩
   ·have hne:¬ ((i:Int)+1=((cutsV ps).length:Int)):=λe=>by
     have:=of_decide_eq_false hc
     exact this (congrArg V.int e)
    have hi1:i+1<ps.length:=by rw [lenC] at hne;omega
    refine ⟨_,rfl,_,rfl,_,_,rfl,rfl,a,_,_,V.int ((ps.getD (i+1) q).1),rfl,rfl,s3.seq ha,atN (j:=i+1) (by omega) ?_,_,rfl,rfl,q'⟩
    rw [List.getElem?_map,List.getElem?_eq_getElem hi1,List.getD_eq_getElem?_getD,List.getElem?_eq_getElem hi1]
    rfl
   ·have hL:(decide (V.int ((i:Int)+1)=V.int ((cutsV ps).length:Int)) || !decide (V.int ((ps.getD (i+1) q).1)=V.int q.1))=lastA q (ps.drop (i+1)):=by
     by_cases e:i+1=ps.length
     ·have e1:ps.drop (i+1)=[]:=List.drop_eq_nil_of_le (by omega)
      rw [e1,lenC,decide_eq_true (by rw [<-e];rfl)]
      rfl
     ·have hi1:i+1<ps.length:=by omega
      have e1:ps.drop (i+1)=ps[i+1]::ps.drop (i+2):=List.drop_eq_getElem_cons hi1
      have e2:ps.getD (i+1) q=ps[i+1]:=by rw [List.getD_eq_getElem?_getD,List.getElem?_eq_getElem hi1];rfl
      rw [e1,e2,lenC,decide_eq_false (by intro z;injection z with z;omega),Bool.false_or]
      show (!decide _)=decide _
      rw [Bool.eq_iff_iff]
      simp
    rw [hL]
    refine ⟨_,rfl,_,rfl,_,_,rfl,rfl,b,_,_,q.2,rfl,rfl,s3.seq hb,atN (j:=i+1) (by omega) (by show (ps.map (·.2))[i]?=_;rw [List.getElem?_map,hq];rfl),?_⟩
    refine ⟨_,rfl,_,rfl,andT (!decide (q.2=lastH v kp)) (λ_ Q' q'=>?_) ?_⟩
    ·exact ⟨_,rfl,_,rfl,_,rfl,kh,_,_,_,rfl,rfl,SqL.of g2h,atI_lastH v kp,hqh.scal (lastH_hv hkp),_,rfl,q'⟩
    ·refine ite2 (λhc=>?_) (λhc=>?_)
     ·rw [Bool.and_eq_true] at hc
      have hne:q.2≠lastH v kp:=λe=>by
       have:=hc.2
       rw [decide_eq_true e] at this
       cases this
      refine ⟨_,rfl,.inl ⟨rfl,_,SqL.of g2c⟩,_,rfl,kc,_,_,rfl,rfl,g2c,small (by rw [List.length_map];omega),?_⟩
      refine ⟨_,rfl,.inl ⟨rfl,_,SqL.of (by rw [upd_ne nkk.symm];exact g2h)⟩,_,rfl,_,rfl,hqh,kh,_,_,rfl,rfl,(by rw [upd_ne nkk.symm];exact g2h),small (by show (kp.map _).length+1<=2000;rw [List.length_map];omega),?_⟩
      refine ⟨kp++[q],_,_,_,_,rfl,Same.upd (Same.upd s3 hkc) hkh0,?_,?_,⟨hkp.h0,λz hz=>?_⟩,?_,?_⟩
      ·rw [upd_ne nkk,upd_same]
       show _=some (HO.lst ((kp++[q]).map _))
       rw [List.map_append];rfl
      ·rw [upd_same]
       show _=some (HO.lst (v::(kp++[q]).map _))
       rw [List.map_append];rfl
      ·rcases List.mem_append.mp hz with z1|z1
       ·exact hkp.hs z z1
       ·rw [List.mem_singleton.mp z1];exact hqh
      ·rw [List.length_append,List.length_singleton];omega
      ·rw [lastH_snoc,<-hform,hdrop]
       show _=kp++(if lastA q (ps.drop (i+1))=true/\q.2≠lastH v kp then q::formP q.2 (ps.drop (i+1)) else _)
       rw [if_pos ⟨hc.1,hne⟩,List.append_assoc];rfl
     ·refine ⟨kp,_,_,_,_,rfl,s3,g2c,g2h,hkp,by omega,?_⟩
      rw [<-hform,hdrop]
      show _=kp++(if lastA q (ps.drop (i+1))=true/\q.2≠lastH v kp then _ else formP (lastH v kp) (ps.drop (i+1)))
      rw [if_neg]
      intro z
      refine hc ?_
      rw [z.1,decide_eq_false z.2];rfl
  ·rintro σ H2 ⟨kp,x4,x5,x6,x7,rfl,s2,h2c,h2h,hkp,hki,hform⟩
   have e:ps.drop (cutsV ps).length=[]:=List.drop_eq_nil_of_le (by rw [List.length_map];exact Nat.le_refl _)
   rw [e] at hform
   have e2:kp=formP v ps:=by rw [<-hform];show kp=kp++[];rw [List.append_nil]
   subst e2
   refine ⟨_,rfl,_,rfl,λx dx nx ndx nex=>⟨x,dx,kc,kh,rfl,upd_same,rfl,?_⟩⟩
   have hx0:H x=none:=s2.free nx
   have hd0:H dx=none:=s2.free ndx
   refine k x _ (Same.upd (Same.upd (Same.upd s2 hd0) hx0) hx0) ⟨dx,kc,kh,hx0,hkc,hkh0,upd_same,?_,?_⟩
   ·rw [upd_ne (ne_of_none h2c nx),upd_ne (ne_of_none h2c nx),upd_ne (ne_of_none h2c ndx)];exact h2c
   ·rw [upd_ne (ne_of_none h2h nx),upd_ne (ne_of_none h2h nx),upd_ne (ne_of_none h2h ndx)];exact h2h
def muUp (σ:L2.St) (_:Hp):Nat:=match σ with
 | [_,_,some (.int lo),some (.int hi),_]=>(hi-lo).toNat
 |_=>0
theorem ok_upto {f:Addr}{fd:FuncData} (F:Fun K "cuts_up_to" "cuts_up_to" s_cuts_up_to f fd) (T:Txt K mg C):FnOk P w K mg base CX0 1 f fd ["line","place"] (spUpTo C):=by
 refine F.ok sc_cuts_up_to (λvs H Q E h=>?_) (λcdv A outer s H vs Q E hr h=>?_)
 ·obtain ⟨p,x,v,ps,rfl,_⟩:=h
  rfl
 ·obtain ⟨p,x,v,ps,rfl,⟨dx,a,b,h1,h2,h3⟩,hrise,hlen,k⟩:=h
  refine ⟨_,pss_cons (ps_set (i:=2) sc_cuts_up_to.nd rfl (Or.inl rfl) pe_int)
   (pss_cons (ps_set (i:=3) sc_cuts_up_to.nd rfl (Or.inl rfl) (pe_callB call_len_seq rfl T.len PySem.boot_len (pa_cons (pe_fld (pv 0) rfl) pa_nil)))
   (pss_cons (ps_while PassesOwn.never (pt_cmpR op_lt (pv 2) (pv 3) (nomark _))
    (pss_cons (ps_set (i:=4) sc_cuts_up_to.nd rfl (Or.inl rfl) (pe_op op_fdiv (pe_op op_add (pv 2) (pv 3)) pe_int))
    (pss_one (ps_if (pt_cmpR op_le (pe_ix ix_list (pe_fld (pv 0) rfl) (pv 4) (λ_ _=>rfl)) (pv 1) (nomark _))
     (pss_one (ps_set (i:=2) sc_cuts_up_to.nd rfl (Or.inl rfl) (pe_op op_add (pv 4) pe_int)))
     (pss_one (ps_set (i:=3) sc_cuts_up_to.nd rfl (Or.inl rfl) (pv 4)))))))
   (pss_one (ps_ret (pv 2))))),?_⟩
  refine ⟨_,rfl,p,C,dx,_,_,rfl,h1,T.cl,T.nC,flds_cuts _ _,a,_,rfl,.inl (SqL.of h2),?_⟩
  have lenC:(cutsV ps).length=ps.length:=List.length_map ..
  have lenM:(ps.map (·.1)).length=ps.length:=List.length_map ..
  refine while_by (fun σ H'=>H'=H/\∃ (lo hi:Nat) (m:Option V),σ=[some (.ref p),some (.int x),some (.int (lo:Int)),some (.int (hi:Int)),m]/\lo<=hi/\hi<=ps.length/\
   (∀ i c,i<lo->(ps.map (·.1))[i]?=some c->c<=x)/\∀ i c,hi<=i->(ps.map (·.1))[i]?=some c->x<c) muUp ?_ ?_ ?_
  ·refine ⟨rfl,0,ps.length,none,by rw [lenC];rfl,Nat.zero_le _,Nat.le_refl _,λi c h=>absurd h (Nat.not_lt_zero _),λi c h e=>?_⟩
   have:=(List.getElem?_eq_some_iff.mp e).1
   omega
  ·rintro σ H' ⟨rfl,lo,hi,m,rfl,hle,hhi,hlo,hhi2⟩
   refine ⟨_,rfl,_,rfl,_,_,rfl,rfl,_,rfl,ite2 (λhc=>?_) (λhc=>?_)⟩
   ·have hlt:lo<hi:=by
     have:=of_decide_eq_true hc
     omega
    have hmid:((lo:Int)+(hi:Int)) / 2=(((lo+hi) / 2:Nat):Int):=by omega
    have hml:(lo+hi) / 2<ps.length:=by omega
    refine ⟨_,rfl,_,rfl,_,_,rfl,rfl,_,_,rfl,rfl,⟨by decide,by decide⟩,?_⟩
    obtain ⟨q,hq⟩:∃ q,ps[(lo+hi) / 2]?=some q:=⟨_,List.getElem?_eq_getElem hml⟩
    have hqm:(ps.map (·.1))[(lo+hi) / 2]?=some q.1:=by rw [List.getElem?_map,hq];rfl
    refine ⟨_,rfl,p,C,dx,_,_,rfl,h1,T.cl,T.nC,flds_cuts _ _,_,rfl,a,_,_,.int q.1,rfl,rfl,SqL.of h2,atN hmid (by rw [List.getElem?_map,hq];rfl),_,rfl,_,_,rfl,rfl,_,rfl,ite2 (λhd=>?_) (λhd=>?_)⟩
    ·have hd':q.1<=x:=of_decide_eq_true hd
     refine ⟨_,rfl,_,_,rfl,rfl,⟨rfl,(lo+hi) / 2+1,hi,some (.int (((lo:Int)+(hi:Int)) / 2)),?_,by omega,hhi,λi c hi2 e=>?_,hhi2⟩,?_⟩
     ·rw [show ((((lo+hi) / 2+1:Nat)):Int)=((lo:Int)+(hi:Int)) / 2+1 by omega];rfl
     ·by_cases hie:i=(lo+hi) / 2
      ·subst hie
       rw [hqm] at e
       cases e
       exact hd'
      ·have hr2:q.1=q.1:=rfl
       have hil:i<(lo+hi) / 2:=by omega
       obtain ⟨hb1,eb1⟩:=List.getElem?_eq_some_iff.mp e
       obtain ⟨hb2,eb2⟩:=List.getElem?_eq_some_iff.mp hqm
       have hp:=List.pairwise_iff_getElem.mp (List.pairwise_map.mpr hrise:(ps.map (·.1)).Pairwise (·<=·)) i ((lo+hi) / 2) hb1 hb2 hil
       rw [eb1,eb2] at hp
       omega
     ·show ((hi:Int)-(((lo:Int)+(hi:Int)) / 2+1)).toNat<((hi:Int)-(lo:Int)).toNat
      omega
    ·have hd':x<q.1:=by
      have:=of_decide_eq_false (Bool.eq_false_iff.mpr hd)
      omega
     refine ⟨_,rfl,⟨rfl,lo,(lo+hi) / 2,some (.int (((lo:Int)+(hi:Int)) / 2)),?_,by omega,by omega,hlo,λi c hi2 e=>?_⟩,?_⟩
     ·rw [<-hmid];rfl
     ·by_cases hie:i=(lo+hi) / 2
      ·subst hie
       rw [hqm] at e
       cases e
       exact hd'
      ·obtain ⟨hb1,eb1⟩:=List.getElem?_eq_some_iff.mp e
       obtain ⟨hb2,eb2⟩:=List.getElem?_eq_some_iff.mp hqm
       have hp:=List.pairwise_iff_getElem.mp (List.pairwise_map.mpr hrise:(ps.map (·.1)).Pairwise (·<=·)) ((lo+hi) / 2) i hb2 hb1 (by omega)
       rw [eb1,eb2] at hp
       omega
     ·show (((lo:Int)+(hi:Int)) / 2-(lo:Int)).toNat<((hi:Int)-(lo:Int)).toNat
      omega
   ·have heq:lo=hi:=by
     have:=of_decide_eq_false (Bool.eq_false_iff.mpr hc)
     omega
    subst heq
    exact ⟨_,rfl,k lo ⟨by rw [lenM];exact hhi,hlo,hhi2⟩⟩
  ·rintro σ H' Q1 Q2 himp ⟨v1,e1,v2,e2,i,j,e3,e4,kk,e5,q⟩
   exact ⟨v1,e1,v2,e2,i,j,e3,e4,kk,e5,himp _ _ q⟩
theorem ok_check_size {f:Addr}{fd:FuncData} (F:Fun K "check_size" "check_size" s_check_size f fd):FnOk P w K mg base CX0 1 f fd ["size"] spCheckS:=by
 refine F.ok sc_check_size (λvs H Q E h=>?_) (λcdv A outer s H vs Q E hr h=>?_)
 ·obtain ⟨n,rfl,_⟩:=h
  rfl
 ·obtain ⟨n,rfl,hn,k⟩:=h
  refine ⟨_,pss_one (ps_if (pt_cmpR op_lt (pv 0) pe_int (nomark _)) pss_never pss_nil),?_⟩
  refine ⟨_,rfl,_,_,rfl,rfl,_,rfl,ite2 (λhc=>?_) (λhc=>k)⟩
  have:=of_decide_eq_true hc
  exact absurd this (by omega)
theorem ok_check_times {f:Addr}{fd:FuncData} (F:Fun K "check_times" "check_times" s_check_times f fd):FnOk P w K mg base CX0 1 f fd ["times"] spCheckT:=by
 refine F.ok sc_check_times (λvs H Q E h=>?_) (λcdv A outer s H vs Q E hr h=>?_)
 ·obtain ⟨n,rfl,_⟩:=h
  rfl
 ·obtain ⟨n,rfl,hn,k⟩:=h
  refine ⟨_,pss_one (ps_if (pt_cmpR op_lt (pv 0) pe_int (nomark _)) pss_never pss_nil),?_⟩
  refine ⟨_,rfl,_,_,rfl,rfl,_,rfl,ite2 (λhc=>?_) (λhc=>k)⟩
  have:=of_decide_eq_true hc
  exact absurd this (by omega)
theorem ok_no_places {f:Addr}{fd:FuncData} (F:Fun K "has_no_places" "has_no_places" s_has_no_places f fd):FnOk P w K mg base CX0 1 f fd ["start","end"] spNoPl:=by
 refine F.ok sc_has_no_places (λvs H Q E h=>?_) (λcdv A outer s H vs Q E hr h=>?_)
 ·obtain ⟨s,e,rfl,_⟩:=h
  rfl
 ·obtain ⟨s,e,rfl,k⟩:=h
  refine ⟨_,pss_one (ps_ret (pe_and (pe_cmp (pc_notN (pv 0))) (pe_and (pe_cmp (pc_notN (pv 1))) (pe_one (pe_cmpR op_le (pv 1) (pv 0) (nomark _)))))),?_⟩
  cases s with
  |none=>exact ⟨_,rfl,false,rfl,iteF k⟩
  |some a=>
   refine ⟨_,rfl,true,rfl,iteT ?_⟩
   cases e with
   |none=>exact ⟨_,rfl,false,rfl,iteF k⟩
   |some b=>exact ⟨_,rfl,true,rfl,iteT ⟨_,rfl,_,rfl,_,_,rfl,rfl,k⟩⟩
theorem ok_put {f:Addr}{fd:FuncData} (F:Fun K "put" "put" s_put f fd) (T:Txt K mg C) (DP:Def P w K mg base "has_no_places" ["start","end"] 1 spNoPl) (DU:Def P w K mg base "cuts_up_to" ["line","place"] 1 (spUpTo C))
  (DL:Def P w K mg base "line_of" ["cuts","holds"] 3 (spLineOf K C)):FnOk P w K mg base CX0 4 f fd ["line","start","end","value"] (spPut C):=by
 refine F.ok sc_put (λvs H Q E h=>?_) (λcdv A outer s H vs Q E hr h=>?_)
 ·obtain ⟨p,v,ps,s,e,u,rfl,_⟩:=h
  rfl
 ·obtain ⟨p,v,ps,s,e,u,rfl,hL,hF,hlen,hu,k⟩:=h
  obtain ⟨dx,a,b,h1,h2,h3⟩:=id hL
  have hr1:Room 1 _:=hr.mono (by decide)
  refine' ⟨_,pss_cons (ps_if ?c1 (pss_one (ps_ret ?r1)) pss_nil)
   (pss_cons (ps_set (i:=4) sc_put.nd rfl (Or.inl rfl) (pe_lst pa_nil))
   (pss_cons (ps_set (i:=5) sc_put.nd rfl (Or.inl rfl) (pe_lst (pa_cons (pv 3) pa_nil)))
   (pss_cons (ps_if (pt_cmp (pc_notN (pv 1))) (pss_cons (ps_set (i:=6) sc_put.nd rfl (Or.inl rfl) ?a1) (pss_cons (ps_set (i:=4) sc_put.nd rfl (Or.inl rfl) ?a2) (pss_one (ps_set (i:=5) sc_put.nd rfl (Or.inl rfl) ?a3)))) pss_nil)
   (pss_cons (ps_if (pt_cmp (pc_notN (pv 2))) (pss_cons (ps_set (i:=7) sc_put.nd rfl (Or.inl rfl) ?b1) (pss_cons (ps_set (i:=4) sc_put.nd rfl (Or.inl rfl) ?b2) (pss_one (ps_set (i:=5) sc_put.nd rfl (Or.inl rfl) ?b3)))) pss_nil)
   (pss_one (ps_ret ?r2)))))),?rd⟩
  case c1=>exact pt_val (pe_callD DP hr1 rfl (pa_cons (pv 1) (pa_cons (pv 2) pa_nil)))
  case r1=>exact pe_callD DL hr rfl (pa_cons (pe_fld (pv 0) rfl) (pa_cons (pe_fld (pv 0) rfl) pa_nil))
  case a1=>exact pe_callD DU hr1 rfl (pa_cons (pv 0) (pa_cons (pv 1) pa_nil))
  case a2=>
   refine' pe_op op_cat ?x ?y
   case x=>exact pe_slice sl_list (pe_fld (pv 0) rfl) po_none (po_some (pv 6))
   case y=>exact pe_lst (pa_cons (pv 1) pa_nil)
  case a3=>
   refine' pe_op op_cat ?x ?y
   case x=>exact pe_slice sl_list (pe_fld (pv 0) rfl) po_none (po_some (pe_op op_add (pv 6) pe_int))
   case y=>exact pe_lst (pa_cons (pv 3) pa_nil)
  case b1=>exact pe_callD DU hr1 rfl (pa_cons (pv 0) (pa_cons (pv 2) pa_nil))
  case b2=>
   refine' pe_op op_cat ?x ?y
   case x=>exact pe_op op_cat (pv 4) (pe_lst (pa_cons (pv 2) pa_nil))
   case y=>exact pe_slice sl_list (pe_fld (pv 0) rfl) (po_some (pv 7)) po_none
  case b3=>
   refine' pe_op op_cat ?x ?y
   case x=>exact pv 5
   case y=>exact pe_slice sl_list (pe_fld (pv 0) rfl) (po_some (pv 7)) po_none
  case r2=>exact pe_callD DL hr rfl (pa_cons (pv 4) (pa_cons (pv 5) pa_nil))
  case rd=>
  have lenC:(cutsV ps).length=ps.length:=List.length_map ..
  have lenH:(holdsV v ps).length=ps.length+1:=by show (ps.map _).length+1=_;rw [List.length_map]
  have rise:=hF.st.rise
  have hat:∀ x,HV (atL v ps x):=λx=>hF.hh.at
  have finish:∀ (n m:Nat) (x6 x7:Option V) (H1:Hp) (c1 b1:Addr),Same H H1->H1 c1=some (.lst (cutsV (putP v ps s e u n m)))->H1 b1=some (.lst (holdsV (putV v s u) (putP v ps s e u n m)))->(∀ a,s=some a->UpTo (ps.map (·.1)) a n)->
    (∀ b,e=some b->UpTo (ps.map (·.1)) b m)->noPl s e=false->spLineOf K C [.ref c1,.ref b1] H1 Q E0:=λn m x6 x7 H1 c1 b1 s1 g1 g2 hn hm hp=>by
   have hlt:∀ a b,s=some a->e=some b->a<b:=λa b ha hb=>by
    rw [ha,hb] at hp
    have:=of_decide_eq_false (show decide (b<=a)=false from hp)
    omega
   have hhold:Holds (putV v s u) (putP v ps s e u n m):=⟨by cases s with|none=>exact hu|some a=>exact hF.hh.h0,mem_putP hF.hh.hs hat hu⟩
   have hl2:=len_putP (v:=v) (u:=u) (ps:=ps) (s:=s) (e:=e) (n:=n) (m:=m) λa b ha hb=>(hn a ha).mono (hm b hb) (Int.le_of_lt (hlt a b ha hb))
   exact ⟨c1,b1,_,_,rfl,SqL.of g1,SqL.of g2,hhold,by omega,λq H' s2 ln=>k.of s1 s2 ln (put_rise rise hn hm hlt) hhold hl2 λx=>put_at hn hm hlt x⟩
  refine ⟨_,rfl,_,rfl,s,e,rfl,_,rfl,ite2 (λhc=>?_) (λhc=>?_)⟩
  ·
   refine ⟨_,rfl,p,C,dx,_,_,rfl,h1,T.cl,T.nC,flds_cuts _ _,_,rfl,p,C,dx,_,_,rfl,h1,T.cl,T.nH,flds_holds _ _,a,b,v,ps,rfl,SqL.of h2,SqL.of h3,hF.hh,by omega,λq H' s2 ln=>?_⟩
   refine k.of Same.refl s2 ln rise hF.hh (by omega) λx=>?_
   show _=putF' s e u (atL v ps) x
   cases s with
   |none=>exact absurd hc (by cases e<;>exact Bool.false_ne_true)
   |some a'=>
    cases e with
    |none=>exact absurd hc Bool.false_ne_true
    |some b'=>
     have hba:b'<=a':=of_decide_eq_true hc
     unfold putF'
     rw [if_neg λz=>by have z1:=z.1 a' rfl;have z2:=z.2 b' rfl;omega]
  ·have hp:noPl s e=false:=Bool.eq_false_iff.mpr hc
   refine ⟨Nat.zero_le _,λc0 hc0=>⟨_,rfl,smallL (by show 1<=2000;decide),λb0 hb0=>?_⟩⟩
   have s0:Same H (upd (upd H c0 (.lst [])) b0 (.lst [u])):=Same.upd (Same.new hc0) ((Same.new hc0).free hb0)
   have g0c:(upd (upd H c0 (.lst [])) b0 (.lst [u])) c0=some (.lst []):=by
    rw [upd_ne λz=>by rw [<-z,upd_same] at hb0;cases hb0]
    exact upd_same
   have g0b:(upd (upd H c0 (.lst [])) b0 (.lst [u])) b0=some (.lst [u]):=upd_same
   generalize upd (upd H c0 (.lst [])) b0 (.lst [u])=H1 at s0 g0c g0b
   cases s with
   |none=>
    refine ⟨_,rfl,false,rfl,iteF ?_⟩
    cases e with
    |none=>
     refine ⟨_,rfl,false,rfl,iteF ⟨_,rfl,_,rfl,finish 0 0 none none H1 c0 b0 s0 g0c g0b (λ_ z=>nomatch z) (λ_ z=>nomatch z) hp⟩⟩
    |some y=>
     refine ⟨_,rfl,true,rfl,iteT ⟨_,rfl,_,rfl,p,y,v,ps,rfl,hL.same s0,rise,by omega,λm hm=>?_⟩⟩
     have em:cutV (cutsV ps) (some (m:Int)) none=cutsV (ps.drop m):=by rw [cut_from,cutsV_drop]
     have emh:cutV (holdsV v ps) (some (m:Int)) none=atL v ps y::(ps.drop m).map (·.2):=by rw [cut_from,holdsV_drop hm]
     have hm2:=hm.le
     rw [List.length_map] at hm2
     refine ⟨_,rfl,_,rfl,smallL (by show 1<=2000;decide),λl1 hl1=>⟨c0,l1,_,_,rfl,rfl,(by rw [upd_ne (ne_of_none g0c hl1)];exact g0c),upd_same,smallL (by show 0+1<=2000;decide),λl2 hl2=>?_⟩⟩
     have sA:Same H1 (upd (upd H1 l1 (.lst [optV (some y)])) l2 (.lst ([]++[optV (some y)]))):=Same.upd (Same.new hl1) ((Same.new hl1).free hl2)
     refine ⟨_,rfl,p,C,dx,_,_,rfl,sA _ _ (s0 _ _ h1),T.cl,T.nC,flds_cuts _ _,_,rfl,_,rfl,a,_,rfl,SqL.of (sA _ _ (s0 _ _ h2)),λl3 hl3=>⟨l2,l3,_,_,rfl,rfl,(by rw [upd_ne (ne_of_none (H:=upd (upd H1 l1 (.lst [optV (some y)])) l2 (.lst ([]++[optV (some y)]))) upd_same hl3)];exact upd_same),upd_same,?_,λc1 hc1=>?_⟩⟩
     ·rw [em];exact smallL (by show 1+(List.map _ (ps.drop m)).length<=2000;rw [List.length_map,List.length_drop];omega)
     have sB:Same H1 (upd (upd (upd (upd H1 l1 (.lst [optV (some y)])) l2 (.lst ([]++[optV (some y)]))) l3 (.lst (cutV (cutsV ps) (some (m:Int)) none))) c1 (.lst (([]++[optV (some y)])++cutV (cutsV ps) (some (m:Int)) none))):=Same.upd (Same.upd sA (sA.free hl3)) ((Same.upd sA (sA.free hl3)).free hc1)
     have gc1:(upd (upd (upd (upd H1 l1 (.lst [optV (some y)])) l2 (.lst ([]++[optV (some y)]))) l3 (.lst (cutV (cutsV ps) (some (m:Int)) none))) c1 (.lst (([]++[optV (some y)])++cutV (cutsV ps) (some (m:Int)) none))) c1=some (.lst (([]++[optV (some y)])++cutV (cutsV ps) (some (m:Int)) none)):=upd_same
     generalize upd (upd (upd (upd H1 l1 (.lst [optV (some y)])) l2 (.lst ([]++[optV (some y)]))) l3 (.lst (cutV (cutsV ps) (some (m:Int)) none))) c1 (.lst (([]++[optV (some y)])++cutV (cutsV ps) (some (m:Int)) none))=H2 at sB gc1
     refine ⟨_,rfl,_,rfl,p,C,dx,_,_,rfl,sB _ _ (s0 _ _ h1),T.cl,T.nH,flds_holds _ _,_,rfl,_,rfl,b,_,rfl,SqL.of (sB _ _ (s0 _ _ h3)),λl4 hl4=>⟨b0,l4,_,_,rfl,rfl,(by rw [upd_ne (ne_of_none (sB _ _ g0b) hl4)];exact sB _ _ g0b),upd_same,?_,λb1 hb1=>?_⟩⟩
     ·rw [emh];exact smallL (by show 1+((List.map _ (ps.drop m)).length+1)<=2000;rw [List.length_map,List.length_drop];omega)
     have sC:Same H2 (upd (upd H2 l4 (.lst (cutV (holdsV v ps) (some (m:Int)) none))) b1 (.lst ([u]++cutV (holdsV v ps) (some (m:Int)) none))):=Same.upd (Same.new hl4) ((Same.new hl4).free hb1)
     refine ⟨_,rfl,_,rfl,finish 0 m none none _ c1 b1 ((s0.trans sB).trans sC) (sC _ _ ?_) (upd_same.trans ?_) (λ_ z=>nomatch z) (λz hz=>by cases hz;exact hm) hp⟩
     ·rw [gc1,em];rfl
     ·rw [emh];rfl
   |some x=>
    refine ⟨_,rfl,true,rfl,iteT ⟨_,rfl,_,rfl,p,x,v,ps,rfl,hL.same s0,rise,by omega,λn hn=>?_⟩⟩
    have en:cutV (cutsV ps) none (some (n:Int))=cutsV (ps.take n):=by rw [cut_to,cutsV_take]
    have enh:cutV (holdsV v ps) none (some ((n:Int)+1))=holdsV v (ps.take n):=by rw [show ((n:Int)+1)=((n+1:Nat):Int) from rfl,cut_to,holdsV_take]
    have hn2:=hn.le
    rw [List.length_map] at hn2
    have ltk:(ps.take n).length<=ps.length:=by rw [List.length_take];omega
    refine ⟨_,rfl,p,C,dx,_,_,rfl,s0 _ _ h1,T.cl,T.nC,flds_cuts _ _,_,rfl,_,rfl,a,_,rfl,SqL.of (s0 _ _ h2),λl1 hl1=>⟨_,rfl,smallL (by show 1<=2000;decide),λl2 hl2=>⟨l1,l2,_,_,rfl,rfl,(by rw [upd_ne (ne_of_none (H:=upd H1 l1 _) upd_same hl2)];exact upd_same),upd_same,?_,λc1 hc1=>?_⟩⟩⟩
    ·rw [en];exact smallL (by show (List.map _ (ps.take n)).length+1<=2000;rw [List.length_map];omega)
    have sA:Same H1 (upd (upd (upd H1 l1 (.lst (cutV (cutsV ps) none (some (n:Int))))) l2 (.lst [optV (some x)])) c1 (.lst (cutV (cutsV ps) none (some (n:Int))++[optV (some x)]))):=Same.upd (Same.upd (Same.new hl1) ((Same.new hl1).free hl2)) ((Same.upd (Same.new hl1) ((Same.new hl1).free hl2)).free hc1)
    have gc1:(upd (upd (upd H1 l1 (.lst (cutV (cutsV ps) none (some (n:Int))))) l2 (.lst [optV (some x)])) c1 (.lst (cutV (cutsV ps) none (some (n:Int))++[optV (some x)]))) c1=some (.lst (cutV (cutsV ps) none (some (n:Int))++[optV (some x)])):=upd_same
    generalize upd (upd (upd H1 l1 (.lst (cutV (cutsV ps) none (some (n:Int))))) l2 (.lst [optV (some x)])) c1 (.lst (cutV (cutsV ps) none (some (n:Int))++[optV (some x)]))=H2 at sA gc1
    rw [en] at gc1
    have s02:=s0.trans sA
    refine ⟨_,rfl,p,C,dx,_,_,rfl,s02 _ _ h1,T.cl,T.nH,flds_holds _ _,_,rfl,_,_,rfl,rfl,_,rfl,b,_,rfl,SqL.of (s02 _ _ h3),λl3 hl3=>⟨_,rfl,smallL (by show 1<=2000;decide),λl4 hl4=>⟨l3,l4,_,_,rfl,rfl,(by rw [upd_ne (ne_of_none (H:=upd H2 l3 _) upd_same hl4)];exact upd_same),upd_same,?_,λb1 hb1=>?_⟩⟩⟩
    ·rw [enh];exact smallL (by show ((List.map _ (ps.take n)).length+1)+1<=2000;rw [List.length_map];omega)
    have sB:Same H2 (upd (upd (upd H2 l3 (.lst (cutV (holdsV v ps) none (some ((n:Int)+1))))) l4 (.lst [u])) b1 (.lst (cutV (holdsV v ps) none (some ((n:Int)+1))++[u]))):=Same.upd (Same.upd (Same.new hl3) ((Same.new hl3).free hl4)) ((Same.upd (Same.new hl3) ((Same.new hl3).free hl4)).free hb1)
    have gb1:(upd (upd (upd H2 l3 (.lst (cutV (holdsV v ps) none (some ((n:Int)+1))))) l4 (.lst [u])) b1 (.lst (cutV (holdsV v ps) none (some ((n:Int)+1))++[u]))) b1=some (.lst (cutV (holdsV v ps) none (some ((n:Int)+1))++[u])):=upd_same
    generalize upd (upd (upd H2 l3 (.lst (cutV (holdsV v ps) none (some ((n:Int)+1))))) l4 (.lst [u])) b1 (.lst (cutV (holdsV v ps) none (some ((n:Int)+1))++[u]))=H3 at sB gb1
    rw [enh] at gb1
    have s03:=s02.trans sB
    have gc2:H3 c1=some (.lst (cutsV (ps.take n)++[optV (some x)])):=sB _ _ gc1
    cases e with
    |none=>
     refine ⟨_,rfl,false,rfl,iteF ⟨_,rfl,_,rfl,finish n 0 none none H3 c1 b1 s03 ?_ ?_ (λz hz=>by cases hz;exact hn) (λ_ z=>nomatch z) hp⟩⟩
     ·rw [gc2]
      show _=some (HO.lst (cutsV ((ps.take n++[(x,u)])++[])))
      rw [List.append_nil,cutsV_app];rfl
     ·rw [gb1]
      show _=some (HO.lst (v::((ps.take n++[(x,u)])++[]).map _))
      rw [List.append_nil,List.map_append];rfl
    |some y=>
     refine ⟨_,rfl,true,rfl,iteT ⟨_,rfl,_,rfl,p,y,v,ps,rfl,hL.same s03,rise,by omega,λm hm=>?_⟩⟩
     have em:cutV (cutsV ps) (some (m:Int)) none=cutsV (ps.drop m):=by rw [cut_from,cutsV_drop]
     have emh:cutV (holdsV v ps) (some (m:Int)) none=atL v ps y::(ps.drop m).map (·.2):=by rw [cut_from,holdsV_drop hm]
     refine ⟨_,rfl,_,rfl,smallL (by show 1<=2000;decide),λl5 hl5=>⟨c1,l5,_,_,rfl,rfl,(by rw [upd_ne (ne_of_none gc2 hl5)];exact gc2),upd_same,smallL (by rw [List.length_append,List.length_map];show (ps.take n).length+1+1<=2000;omega),λl6 hl6=>?_⟩⟩
     have sC:Same H3 (upd (upd H3 l5 (.lst [optV (some y)])) l6 (.lst ((cutsV (ps.take n)++[optV (some x)])++[optV (some y)]))):=Same.upd (Same.new hl5) ((Same.new hl5).free hl6)
     refine ⟨_,rfl,p,C,dx,_,_,rfl,sC _ _ (s03 _ _ h1),T.cl,T.nC,flds_cuts _ _,_,rfl,_,rfl,a,_,rfl,SqL.of (sC _ _ (s03 _ _ h2)),λl7 hl7=>⟨l6,l7,_,_,rfl,rfl,(by rw [upd_ne (ne_of_none (H:=upd (upd H3 l5 (.lst [optV (some y)])) l6 _) upd_same hl7)];exact upd_same),upd_same,?_,λc2 hc2=>?_⟩⟩
     ·rw [em,List.length_append,List.length_append,List.length_map,List.length_map,List.length_drop];exact smallL (by show (ps.take n).length+1+1+(ps.length-m)<=2000;omega)
     have sD:Same H3 (upd (upd (upd (upd H3 l5 (.lst [optV (some y)])) l6 (.lst ((cutsV (ps.take n)++[optV (some x)])++[optV (some y)]))) l7 (.lst (cutV (cutsV ps) (some (m:Int)) none))) c2 (.lst (((cutsV (ps.take n)++[optV (some x)])++[optV (some y)])++cutV (cutsV ps) (some (m:Int)) none))):=Same.upd (Same.upd sC (sC.free hl7)) ((Same.upd sC (sC.free hl7)).free hc2)
     have gc3:(upd (upd (upd (upd H3 l5 (.lst [optV (some y)])) l6 (.lst ((cutsV (ps.take n)++[optV (some x)])++[optV (some y)]))) l7 (.lst (cutV (cutsV ps) (some (m:Int)) none))) c2 (.lst (((cutsV (ps.take n)++[optV (some x)])++[optV (some y)])++cutV (cutsV ps) (some (m:Int)) none))) c2=some (.lst (((cutsV (ps.take n)++[optV (some x)])++[optV (some y)])++cutV (cutsV ps) (some (m:Int)) none)):=upd_same
     generalize upd (upd (upd (upd H3 l5 (.lst [optV (some y)])) l6 (.lst ((cutsV (ps.take n)++[optV (some x)])++[optV (some y)]))) l7 (.lst (cutV (cutsV ps) (some (m:Int)) none))) c2 (.lst (((cutsV (ps.take n)++[optV (some x)])++[optV (some y)])++cutV (cutsV ps) (some (m:Int)) none))=H4 at sD gc3
     rw [em] at gc3
     have gb2:H4 b1=some (.lst (holdsV v (ps.take n)++[u])):=sD _ _ gb1
     refine ⟨_,rfl,_,rfl,p,C,dx,_,_,rfl,sD _ _ (s03 _ _ h1),T.cl,T.nH,flds_holds _ _,_,rfl,_,rfl,b,_,rfl,SqL.of (sD _ _ (s03 _ _ h3)),λl8 hl8=>⟨b1,l8,_,_,rfl,rfl,(by rw [upd_ne (ne_of_none gb2 hl8)];exact gb2),upd_same,?_,λb2 hb2=>?_⟩⟩
     ·rw [emh,List.length_append];exact smallL (by show ((List.map _ (ps.take n)).length+1)+1+((List.map _ (ps.drop m)).length+1)<=2000;rw [List.length_map,List.length_map,List.length_drop];omega)
     have sE:Same H4 (upd (upd H4 l8 (.lst (cutV (holdsV v ps) (some (m:Int)) none))) b2 (.lst ((holdsV v (ps.take n)++[u])++cutV (holdsV v ps) (some (m:Int)) none))):=Same.upd (Same.new hl8) ((Same.new hl8).free hb2)
     refine ⟨_,rfl,_,rfl,finish n m none none _ c2 b2 ((s03.trans sD).trans sE) (sE _ _ ?_) (upd_same.trans ?_) (λz hz=>by cases hz;exact hn) (λz hz=>by cases hz;exact hm) hp⟩
     ·rw [gc3]
      show _=some (HO.lst (cutsV ((ps.take n++[(x,u)])++((y,atL v ps y)::ps.drop m))))
      rw [cutsV_app,cutsV_app,List.append_assoc];rfl
     ·rw [emh]
      show _=some (HO.lst (v::((ps.take n++[(x,u)])++((y,atL v ps y)::ps.drop m)).map _))
      rw [List.map_append,List.map_append];rfl
end
section
variable {P:Program}{w:World}{K:PySem.W.Frag}{mg:Str->Option Value}{base:Heap}{C:Addr}
abbrev scO:Scope:={ kind:=.function,names:=[(".0",.local),("cut",.local),("size",.free)],isGenerator:=false,isCoroutine:=false,more:=[] }
abbrev scS:Scope:={ kind:=.function,names:=[(".0",.local),("cut",.local),("times",.free)],isGenerator:=false,isCoroutine:=false,more:=[] }
theorem cs_opened:CScope (defScope s_opened) scO ["line","place","size","ahead","moved","cuts","holds"] ["cut","size"] [2] "cut":=
 ⟨rfl,by decide +kernel,by decide +kernel,by decide +kernel,by decide +kernel,rfl,by decide +kernel,by decide +kernel,by decide +kernel,by decide +kernel⟩
theorem cs_closed:CScope (defScope s_closed) scO ["line","place","size","ahead","passed","moved","cuts","holds"] ["cut","size"] [2] "cut":=
 ⟨rfl,by decide +kernel,by decide +kernel,by decide +kernel,by decide +kernel,rfl,by decide +kernel,by decide +kernel,by decide +kernel,by decide +kernel⟩
theorem cs_stretched:CScope (defScope s_stretched) scS ["line","times"] ["cut","times"] [1] "cut":=
 ⟨rfl,by decide +kernel,by decide +kernel,by decide +kernel,by decide +kernel,rfl,by decide +kernel,by decide +kernel,by decide +kernel,by decide +kernel⟩
def mapI (g:Int->Int):V->V
 | .int c=>.int (g c)
 |y=>y
theorem map_cutsV (g:Int->Int) (ps:List (Int×V)):(cutsV ps).map (mapI g)=cutsV (ps.map λq=>(g q.1,q.2)):=by
 show (ps.map _).map _=(ps.map _).map _
 rw [List.map_map,List.map_map]
 rfl
theorem ok_opened {f:Addr}{fd:FuncData} (F:Fun K "opened" "opened" s_opened f fd) (T:Txt K mg C) (DS:Def P w K mg base "check_size" ["size"] 1 spCheckS) (DU:Def P w K mg base "cuts_up_to" ["line","place"] 1 (spUpTo C))
  (DL:Def P w K mg base "line_of" ["cuts","holds"] 3 (spLineOf K C)):FnOk P w K mg base CX0 4 f fd ["line","place","size"] (spOpened C):=by
 refine F.ok sc_opened (λvs H Q E h=>?_) (λcdv A outer s H vs Q E hr h=>?_)
 ·obtain ⟨p,v,ps,x,sz,rfl,_⟩:=h
  rfl
 ·obtain ⟨p,v,ps,x,sz,rfl,hL,hF,hlen,hsz,k⟩:=h
  obtain ⟨dx,a,b,h1,h2,h3⟩:=id hL
  have hr1:Room 1 _:=hr.mono (by decide)
  refine' ⟨_,pss_cons (ps_expr (pe_callD DS hr1 rfl (pa_cons (pv 2) pa_nil)))
   (pss_cons (ps_set (i:=3) sc_opened.nd rfl (Or.inl rfl) (pe_callD DU hr1 rfl (pa_cons (pv 0) (pa_cons (pv 1) pa_nil))))
   (pss_cons (ps_setC (i:=4) sc_opened.nd rfl (Or.inl rfl) cs_opened rfl rfl rfl ?m1 (λ_ _ _ _ _=>pf_nil) (λ_ _ _ _ _=>pe_op op_add (pv 0) (pv 1)))
   (pss_cons (ps_set (i:=5) sc_opened.nd rfl (Or.inl rfl) ?a1)
   (pss_cons (ps_set (i:=6) sc_opened.nd rfl (Or.inl rfl) ?a2)
   (pss_one (ps_ret (pe_callD DL hr rfl (pa_cons (pv 5) (pa_cons (pv 6) pa_nil))))))))),?rd⟩
  case m1=>exact pi_list (pe_slice sl_list (pe_fld (pv 0) rfl) (po_some (pv 3)) po_none)
  case a1=>
   refine' pe_op op_cat ?x ?y
   case y=>exact pv 4
   case x=>
    refine' pe_op op_cat ?x ?y
    case x=>exact pe_slice sl_list (pe_fld (pv 0) rfl) po_none (po_some (pv 3))
    case y=>exact pe_lst (pa_cons (pv 1) (pa_cons (pe_op op_add (pv 1) (pv 2)) pa_nil))
  case a2=>
   refine' pe_op op_cat ?x ?y
   case y=>exact pe_slice sl_list (pe_fld (pv 0) rfl) (po_some (pv 3)) po_none
   case x=>
    refine' pe_op op_cat ?x ?y
    case x=>exact pe_slice sl_list (pe_fld (pv 0) rfl) po_none (po_some (pe_op op_add (pv 3) pe_int))
    case y=>exact pe_lst (pa_cons pe_non pa_nil)
  case rd=>
  have rise:=hF.st.rise
  refine ⟨_,rfl,sz,rfl,hsz,?_⟩
  refine ⟨_,rfl,_,rfl,p,x,v,ps,rfl,hL,rise,by omega,λn hn=>?_⟩
  have en:cutV (cutsV ps) none (some (n:Int))=cutsV (ps.take n):=by rw [cut_to,cutsV_take]
  have ed:cutV (cutsV ps) (some (n:Int)) none=cutsV (ps.drop n):=by rw [cut_from,cutsV_drop]
  have enh:cutV (holdsV v ps) none (some ((n:Int)+1))=holdsV v (ps.take n):=by rw [show ((n:Int)+1)=((n+1:Nat):Int) from rfl,cut_to,holdsV_take]
  have edh:cutV (holdsV v ps) (some (n:Int)) none=atL v ps x::(ps.drop n).map (·.2):=by rw [cut_from,holdsV_drop hn]
  have ltk:(ps.take n).length<=ps.length:=by rw [List.length_take];omega
  have ldr:(ps.drop n).length<=ps.length:=by rw [List.length_drop];omega
  refine ⟨_,rfl,p,C,dx,_,_,rfl,h1,T.cl,T.nC,flds_cuts _ _,_,rfl,_,rfl,a,_,rfl,SqL.of h2,λl1 hl1=>⟨l1,rfl,⟨_,SqL.of upd_same⟩,?_⟩⟩
  rw [ed]
  refine comp_map (js:=[2]) (te:=tOp (rI0 λi j=>V.int (i+j)) (tVar 0) (tVar 1)) (mapI λc=>c+sz) (SqL.of upd_same) ?g1 ?g2 ?g3
  case g1=>rw [List.length_map];omega
  case g2=>
   intro y H2 Q' hy _ q'
   obtain ⟨q,_,rfl⟩:=List.mem_map.mp hy
   exact ⟨_,rfl,_,rfl,_,_,rfl,rfl,q'⟩
  case g3=>
  intro mo hmo
  rw [map_cutsV]
  have s1:Same H (upd (upd H l1 (.lst (cutsV (ps.drop n)))) mo (.lst (cutsV ((ps.drop n).map λq=>(q.1+sz,q.2))))):=Same.upd (Same.new hl1) ((Same.new hl1).free hmo)
  have gm:(upd (upd H l1 (.lst (cutsV (ps.drop n)))) mo (.lst (cutsV ((ps.drop n).map λq=>(q.1+sz,q.2))))) mo=some (.lst (cutsV ((ps.drop n).map λq=>(q.1+sz,q.2)))):=upd_same
  show tSeq _ _ _ _ _
  generalize upd (upd H l1 (.lst (cutsV (ps.drop n)))) mo (.lst (cutsV ((ps.drop n).map λq=>(q.1+sz,q.2))))=H1 at s1 gm ⊢
  refine ⟨_,rfl,p,C,dx,_,_,rfl,s1 _ _ h1,T.cl,T.nC,flds_cuts _ _,_,rfl,_,rfl,a,_,rfl,SqL.of (s1 _ _ h2),λl2 hl2=>⟨_,rfl,_,rfl,_,rfl,_,_,rfl,rfl,smallL (by show 2<=2000;decide),λl3 hl3=>⟨l2,l3,_,_,rfl,rfl,(by rw [upd_ne (ne_of_none (H:=upd H1 l2 _) upd_same hl3)];exact upd_same),upd_same,?_,λl4 hl4=>?_⟩⟩⟩
  ·rw [en];exact smallL (by rw [List.length_map];show (ps.take n).length+2<=2000;omega)
  have s2:Same H1 (upd (upd (upd H1 l2 (.lst (cutV (cutsV ps) none (some (n:Int))))) l3 (.lst [.int x,.int (x+sz)])) l4 (.lst (cutV (cutsV ps) none (some (n:Int))++[.int x,.int (x+sz)]))):=Same.upd (Same.upd (Same.new hl2) ((Same.new hl2).free hl3)) ((Same.upd (Same.new hl2) ((Same.new hl2).free hl3)).free hl4)
  have g4:(upd (upd (upd H1 l2 (.lst (cutV (cutsV ps) none (some (n:Int))))) l3 (.lst [.int x,.int (x+sz)])) l4 (.lst (cutV (cutsV ps) none (some (n:Int))++[.int x,.int (x+sz)]))) l4=some (.lst (cutV (cutsV ps) none (some (n:Int))++[.int x,.int (x+sz)])):=upd_same
  refine ⟨_,rfl,l4,mo,_,_,rfl,rfl,g4,s2 _ _ gm,?_,λc1 hc1=>?_⟩
  ·rw [en,List.length_append,List.length_map,List.length_map,List.length_map];exact smallL (by show (ps.take n).length+2+(ps.drop n).length<=2000;omega)
  have s3:Same H1 (upd (upd (upd (upd H1 l2 (.lst (cutV (cutsV ps) none (some (n:Int))))) l3 (.lst [.int x,.int (x+sz)])) l4 (.lst (cutV (cutsV ps) none (some (n:Int))++[.int x,.int (x+sz)]))) c1 (.lst ((cutV (cutsV ps) none (some (n:Int))++[.int x,.int (x+sz)])++cutsV ((ps.drop n).map λq=>(q.1+sz,q.2))))):=Same.upd s2 (s2.free hc1)
  have gc:(upd (upd (upd (upd H1 l2 (.lst (cutV (cutsV ps) none (some (n:Int))))) l3 (.lst [.int x,.int (x+sz)])) l4 (.lst (cutV (cutsV ps) none (some (n:Int))++[.int x,.int (x+sz)]))) c1 (.lst ((cutV (cutsV ps) none (some (n:Int))++[.int x,.int (x+sz)])++cutsV ((ps.drop n).map λq=>(q.1+sz,q.2))))) c1=some (.lst ((cutV (cutsV ps) none (some (n:Int))++[.int x,.int (x+sz)])++cutsV ((ps.drop n).map λq=>(q.1+sz,q.2)))):=upd_same
  show tSeq _ _ _ _ _
  generalize upd (upd (upd (upd H1 l2 (.lst (cutV (cutsV ps) none (some (n:Int))))) l3 (.lst [.int x,.int (x+sz)])) l4 (.lst (cutV (cutsV ps) none (some (n:Int))++[.int x,.int (x+sz)]))) c1 (.lst ((cutV (cutsV ps) none (some (n:Int))++[.int x,.int (x+sz)])++cutsV ((ps.drop n).map λq=>(q.1+sz,q.2))))=H2 at s3 gc ⊢
  rw [en] at gc
  have s02:=s1.trans s3
  refine ⟨_,rfl,p,C,dx,_,_,rfl,s02 _ _ h1,T.cl,T.nH,flds_holds _ _,_,rfl,_,_,rfl,rfl,_,rfl,b,_,rfl,SqL.of (s02 _ _ h3),λl5 hl5=>⟨smallL (by show 1<=2000;decide),λl6 hl6=>⟨l5,l6,_,_,rfl,rfl,(by rw [upd_ne (ne_of_none (H:=upd H2 l5 _) upd_same hl6)];exact upd_same),upd_same,?_,λl7 hl7=>?_⟩⟩⟩
  ·rw [enh];exact smallL (by show (List.map _ (ps.take n)).length+1+1<=2000;rw [List.length_map];omega)
  have s4:Same H2 (upd (upd (upd H2 l5 (.lst (cutV (holdsV v ps) none (some ((n:Int)+1))))) l6 (.lst [.non])) l7 (.lst (cutV (holdsV v ps) none (some ((n:Int)+1))++[.non]))):=Same.upd (Same.upd (Same.new hl5) ((Same.new hl5).free hl6)) ((Same.upd (Same.new hl5) ((Same.new hl5).free hl6)).free hl7)
  have g7:(upd (upd (upd H2 l5 (.lst (cutV (holdsV v ps) none (some ((n:Int)+1))))) l6 (.lst [.non])) l7 (.lst (cutV (holdsV v ps) none (some ((n:Int)+1))++[.non]))) l7=some (.lst (cutV (holdsV v ps) none (some ((n:Int)+1))++[.non])):=upd_same
  refine ⟨_,rfl,p,C,dx,_,_,rfl,s4 _ _ (s02 _ _ h1),T.cl,T.nH,flds_holds _ _,_,rfl,_,rfl,b,_,rfl,SqL.of (s4 _ _ (s02 _ _ h3)),λl8 hl8=>⟨l7,l8,_,_,rfl,rfl,(by rw [upd_ne (ne_of_none g7 hl8)];exact g7),upd_same,?_,λb1 hb1=>?_⟩⟩
  ·rw [enh,edh,List.length_append];exact smallL (by show (List.map _ (ps.take n)).length+1+1+((List.map _ (ps.drop n)).length+1)<=2000;rw [List.length_map,List.length_map];omega)
  have s5:=Same.upd (o:=.lst (cutV (holdsV v ps) (some (n:Int)) none)) s4 (s4.free hl8)
  have s6:=Same.upd (o:=.lst ((cutV (holdsV v ps) none (some ((n:Int)+1))++[.non])++cutV (holdsV v ps) (some (n:Int)) none)) s5 (s5.free hb1)
  refine ⟨_,rfl,_,rfl,c1,b1,v,openP v ps .non x sz n,rfl,SqL.of ((s6 _ _ gc).trans ?_),SqL.of (upd_same.trans ?_),⟨hF.hh.h0,mem_openP hF.hh.hs (λy=>hF.hh.at) HV.non⟩,?_,λr H' s7 ln=>?_⟩
  ·unfold openP
   rw [cutsV_app,List.append_assoc];rfl
  ·rw [enh,edh]
   unfold openP
   show _=some (HO.lst (v::(ps.take n++_).map _))
   rw [List.map_append,List.append_assoc]
   show _=some (HO.lst (v::((ps.take n).map _++(V.non::atL v ps x::((ps.drop n).map λq=>(q.1+sz,q.2)).map _))))
   rw [List.map_map];rfl
  ·have:=len_openP (v:=v) (z:=V.non) (ps:=ps) (p:=x) (s:=sz) (n:=n);omega
  ·exact k.of (s02.trans s6) s7 ln (open_rise rise hsz hn) ⟨hF.hh.h0,mem_openP hF.hh.hs (λy=>hF.hh.at) HV.non⟩ len_openP λy=>open_at hsz hn y
end
section
variable {P:Program}{w:World}{K:PySem.W.Frag}{mg:Str->Option Value}{base:Heap}{C:Addr}
theorem ok_closed {f:Addr}{fd:FuncData} (F:Fun K "closed" "closed" s_closed f fd) (T:Txt K mg C) (DS:Def P w K mg base "check_size" ["size"] 1 spCheckS) (DU:Def P w K mg base "cuts_up_to" ["line","place"] 1 (spUpTo C))
  (DL:Def P w K mg base "line_of" ["cuts","holds"] 3 (spLineOf K C)):FnOk P w K mg base CX0 4 f fd ["line","place","size"] (spClosed C):=by
 refine F.ok sc_closed (λvs H Q E h=>?_) (λcdv A outer s H vs Q E hr h=>?_)
 ·obtain ⟨p,v,ps,x,sz,rfl,_⟩:=h
  rfl
 ·obtain ⟨p,v,ps,x,sz,rfl,hL,hF,hlen,hsz,k⟩:=h
  obtain ⟨dx,a,b,h1,h2,h3⟩:=id hL
  have hr1:Room 1 _:=hr.mono (by decide)
  refine' ⟨_,pss_cons (ps_expr (pe_callD DS hr1 rfl (pa_cons (pv 2) pa_nil)))
   (pss_cons (ps_set (i:=3) sc_closed.nd rfl (Or.inl rfl) (pe_callD DU hr1 rfl (pa_cons (pv 0) (pa_cons (pv 1) pa_nil))))
   (pss_cons (ps_set (i:=4) sc_closed.nd rfl (Or.inl rfl) (pe_callD DU hr1 rfl (pa_cons (pv 0) (pa_cons (pe_op op_add (pv 1) (pv 2)) pa_nil))))
   (pss_cons (ps_setC (i:=5) sc_closed.nd rfl (Or.inl rfl) cs_closed rfl rfl rfl ?m1 (λ_ _ _ _ _=>pf_nil) (λ_ _ _ _ _=>pe_op op_sub (pv 0) (pv 1)))
   (pss_cons (ps_set (i:=6) sc_closed.nd rfl (Or.inl rfl) ?a1)
   (pss_cons (ps_set (i:=7) sc_closed.nd rfl (Or.inl rfl) ?a2)
   (pss_one (ps_ret (pe_callD DL hr rfl (pa_cons (pv 6) (pa_cons (pv 7) pa_nil)))))))))),?rd⟩
  case m1=>exact pi_list (pe_slice sl_list (pe_fld (pv 0) rfl) (po_some (pv 4)) po_none)
  case a1=>
   refine' pe_op op_cat ?x ?y
   case y=>exact pv 5
   case x=>
    refine' pe_op op_cat ?x ?y
    case x=>exact pe_slice sl_list (pe_fld (pv 0) rfl) po_none (po_some (pv 3))
    case y=>exact pe_lst (pa_cons (pv 1) pa_nil)
  case a2=>
   refine' pe_op op_cat ?x ?y
   case y=>exact pe_slice sl_list (pe_fld (pv 0) rfl) (po_some (pv 4)) po_none
   case x=>exact pe_slice sl_list (pe_fld (pv 0) rfl) po_none (po_some (pe_op op_add (pv 3) pe_int))
  case rd=>
  have rise:=hF.st.rise
  refine ⟨_,rfl,sz,rfl,hsz,?_⟩
  refine ⟨_,rfl,_,rfl,p,x,v,ps,rfl,hL,rise,by omega,λn hn=>?_⟩
  refine ⟨_,rfl,_,rfl,_,rfl,_,_,rfl,rfl,p,x+sz,v,ps,rfl,hL,rise,by omega,λm hm=>?_⟩
  have hnm:n<=m:=hn.mono hm (by omega)
  have en:cutV (cutsV ps) none (some (n:Int))=cutsV (ps.take n):=by rw [cut_to,cutsV_take]
  have ed:cutV (cutsV ps) (some (m:Int)) none=cutsV (ps.drop m):=by rw [cut_from,cutsV_drop]
  have enh:cutV (holdsV v ps) none (some ((n:Int)+1))=holdsV v (ps.take n):=by rw [show ((n:Int)+1)=((n+1:Nat):Int) from rfl,cut_to,holdsV_take]
  have edh:cutV (holdsV v ps) (some (m:Int)) none=atL v ps (x+sz)::(ps.drop m).map (·.2):=by rw [cut_from,holdsV_drop hm]
  have ltk:(ps.take n).length<=ps.length:=by rw [List.length_take];omega
  have ldr:(ps.drop m).length<=ps.length:=by rw [List.length_drop];omega
  refine ⟨_,rfl,p,C,dx,_,_,rfl,h1,T.cl,T.nC,flds_cuts _ _,_,rfl,_,rfl,a,_,rfl,SqL.of h2,λl1 hl1=>⟨l1,rfl,⟨_,SqL.of upd_same⟩,?_⟩⟩
  rw [ed]
  refine comp_map (js:=[2]) (te:=tOp (rI0 λi j=>V.int (i-j)) (tVar 0) (tVar 1)) (mapI λc=>c-sz) (SqL.of upd_same) ?g1 ?g2 ?g3
  case g1=>rw [List.length_map];omega
  case g2=>
   intro y H2 Q' hy _ q'
   obtain ⟨q,_,rfl⟩:=List.mem_map.mp hy
   exact ⟨_,rfl,_,rfl,_,_,rfl,rfl,q'⟩
  case g3=>
  intro mo hmo
  rw [map_cutsV]
  have s1:Same H (upd (upd H l1 (.lst (cutsV (ps.drop m)))) mo (.lst (cutsV ((ps.drop m).map λq=>(q.1-sz,q.2))))):=Same.upd (Same.new hl1) ((Same.new hl1).free hmo)
  have gm:(upd (upd H l1 (.lst (cutsV (ps.drop m)))) mo (.lst (cutsV ((ps.drop m).map λq=>(q.1-sz,q.2))))) mo=some (.lst (cutsV ((ps.drop m).map λq=>(q.1-sz,q.2)))):=upd_same
  show tSeq _ _ _ _ _
  generalize upd (upd H l1 (.lst (cutsV (ps.drop m)))) mo (.lst (cutsV ((ps.drop m).map λq=>(q.1-sz,q.2))))=H1 at s1 gm ⊢
  refine ⟨_,rfl,p,C,dx,_,_,rfl,s1 _ _ h1,T.cl,T.nC,flds_cuts _ _,_,rfl,_,rfl,a,_,rfl,SqL.of (s1 _ _ h2),λl2 hl2=>⟨_,rfl,smallL (by show 1<=2000;decide),λl3 hl3=>⟨l2,l3,_,_,rfl,rfl,(by rw [upd_ne (ne_of_none (H:=upd H1 l2 _) upd_same hl3)];exact upd_same),upd_same,?_,λl4 hl4=>?_⟩⟩⟩
  ·rw [en];exact smallL (by rw [List.length_map];show (ps.take n).length+1<=2000;omega)
  have s2:Same H1 (upd (upd (upd H1 l2 (.lst (cutV (cutsV ps) none (some (n:Int))))) l3 (.lst [.int x])) l4 (.lst (cutV (cutsV ps) none (some (n:Int))++[.int x]))):=Same.upd (Same.upd (Same.new hl2) ((Same.new hl2).free hl3)) ((Same.upd (Same.new hl2) ((Same.new hl2).free hl3)).free hl4)
  have g4:(upd (upd (upd H1 l2 (.lst (cutV (cutsV ps) none (some (n:Int))))) l3 (.lst [.int x])) l4 (.lst (cutV (cutsV ps) none (some (n:Int))++[.int x]))) l4=some (.lst (cutV (cutsV ps) none (some (n:Int))++[.int x])):=upd_same
  refine ⟨_,rfl,l4,mo,_,_,rfl,rfl,g4,s2 _ _ gm,?_,λc1 hc1=>?_⟩
  ·rw [en,List.length_append,List.length_map,List.length_map,List.length_map];exact smallL (by show (ps.take n).length+1+(ps.drop m).length<=2000;omega)
  have s3:Same H1 (upd (upd (upd (upd H1 l2 (.lst (cutV (cutsV ps) none (some (n:Int))))) l3 (.lst [.int x])) l4 (.lst (cutV (cutsV ps) none (some (n:Int))++[.int x]))) c1 (.lst ((cutV (cutsV ps) none (some (n:Int))++[.int x])++cutsV ((ps.drop m).map λq=>(q.1-sz,q.2))))):=Same.upd s2 (s2.free hc1)
  have gc:(upd (upd (upd (upd H1 l2 (.lst (cutV (cutsV ps) none (some (n:Int))))) l3 (.lst [.int x])) l4 (.lst (cutV (cutsV ps) none (some (n:Int))++[.int x]))) c1 (.lst ((cutV (cutsV ps) none (some (n:Int))++[.int x])++cutsV ((ps.drop m).map λq=>(q.1-sz,q.2))))) c1=some (.lst ((cutV (cutsV ps) none (some (n:Int))++[.int x])++cutsV ((ps.drop m).map λq=>(q.1-sz,q.2)))):=upd_same
  show tSeq _ _ _ _ _
  generalize upd (upd (upd (upd H1 l2 (.lst (cutV (cutsV ps) none (some (n:Int))))) l3 (.lst [.int x])) l4 (.lst (cutV (cutsV ps) none (some (n:Int))++[.int x]))) c1 (.lst ((cutV (cutsV ps) none (some (n:Int))++[.int x])++cutsV ((ps.drop m).map λq=>(q.1-sz,q.2))))=H2 at s3 gc ⊢
  rw [en] at gc
  have s02:=s1.trans s3
  refine ⟨_,rfl,p,C,dx,_,_,rfl,s02 _ _ h1,T.cl,T.nH,flds_holds _ _,_,rfl,_,_,rfl,rfl,_,rfl,b,_,rfl,SqL.of (s02 _ _ h3),λl5 hl5=>?_⟩
  have s4:Same H2 (upd H2 l5 (.lst (cutV (holdsV v ps) none (some ((n:Int)+1))))):=Same.new hl5
  have g5:(upd H2 l5 (.lst (cutV (holdsV v ps) none (some ((n:Int)+1))))) l5=some (.lst (cutV (holdsV v ps) none (some ((n:Int)+1)))):=upd_same
  refine ⟨_,rfl,p,C,dx,_,_,rfl,s4 _ _ (s02 _ _ h1),T.cl,T.nH,flds_holds _ _,_,rfl,_,rfl,b,_,rfl,SqL.of (s4 _ _ (s02 _ _ h3)),λl8 hl8=>⟨l5,l8,_,_,rfl,rfl,(by rw [upd_ne (ne_of_none g5 hl8)];exact g5),upd_same,?_,λb1 hb1=>?_⟩⟩
  ·rw [enh,edh];exact smallL (by show (List.map _ (ps.take n)).length+1+((List.map _ (ps.drop m)).length+1)<=2000;rw [List.length_map,List.length_map];omega)
  have s5:=Same.upd (o:=.lst (cutV (holdsV v ps) (some (m:Int)) none)) s4 (s4.free hl8)
  have s6:=Same.upd (o:=.lst (cutV (holdsV v ps) none (some ((n:Int)+1))++cutV (holdsV v ps) (some (m:Int)) none)) s5 (s5.free hb1)
  refine ⟨_,rfl,_,rfl,c1,b1,v,closeP v ps x sz n m,rfl,SqL.of ((s6 _ _ gc).trans ?_),SqL.of (upd_same.trans ?_),⟨hF.hh.h0,mem_closeP hF.hh.hs (λy=>hF.hh.at)⟩,?_,λr H' s7 ln=>?_⟩
  ·unfold closeP
   rw [cutsV_app,List.append_assoc];rfl
  ·rw [enh,edh]
   unfold closeP
   show _=some (HO.lst (v::(ps.take n++_).map _))
   rw [List.map_append]
   show _=some (HO.lst (v::((ps.take n).map _++(atL v ps (x+sz)::((ps.drop m).map λq=>(q.1-sz,q.2)).map _))))
   rw [List.map_map];rfl
  ·have:=len_closeP (v:=v) (ps:=ps) (p:=x) (s:=sz) hnm;omega
  ·exact k.of (s02.trans s6) s7 ln (close_rise rise hn hm) ⟨hF.hh.h0,mem_closeP hF.hh.hs (λy=>hF.hh.at)⟩ (Nat.le_trans (len_closeP hnm) (by omega)) λy=>close_at hn hm y
theorem ok_stretched {f:Addr}{fd:FuncData} (F:Fun K "stretched" "stretched" s_stretched f fd) (T:Txt K mg C) (DS:Def P w K mg base "check_times" ["times"] 1 spCheckT)
  (DL:Def P w K mg base "line_of" ["cuts","holds"] 3 (spLineOf K C)):FnOk P w K mg base CX0 4 f fd ["line","times"] (spStretched C):=by
 refine F.ok sc_stretched (λvs H Q E h=>?_) (λcdv A outer s H vs Q E hr h=>?_)
 ·obtain ⟨p,v,ps,t,rfl,_⟩:=h
  rfl
 ·obtain ⟨p,v,ps,t,rfl,hL,hF,hlen,ht1,ht3,k⟩:=h
  obtain ⟨dx,a,b,h1,h2,h3⟩:=id hL
  have hr1:Room 1 _:=hr.mono (by decide)
  refine' ⟨_,pss_cons (ps_expr (pe_callD DS hr1 rfl (pa_cons (pv 1) pa_nil))) (pss_one (ps_ret ?c1)),?rd⟩
  case c1=>
   refine' pe_callD DL hr rfl ?c2
   case c2=>
    refine' pa_cons ?c3 ?c4
    case c4=>exact pa_cons (pe_fld (pv 0) rfl) pa_nil
    case c3=>
     refine' pe_comp cs_stretched rfl rfl rfl ?y1 ?y2 ?y3
     case y1=>exact pi_list (pe_fld (pv 0) rfl)
     case y2=>exact λ_ _ _ _ _=>pf_nil
     case y3=>exact λ_ _ _ _ _=>pe_op op_mul (pv 0) (pv 1)
  case rd=>
  refine ⟨_,rfl,t,rfl,ht1,?_⟩
  refine ⟨_,rfl,p,C,dx,_,_,rfl,h1,T.cl,T.nC,flds_cuts _ _,a,rfl,⟨_,SqL.of h2⟩,?_⟩
  refine comp_map (js:=[1]) (te:=tOp (rI CMul λi j=>V.int (i * j)) (tVar 0) (tVar 1)) (mapI λc=>c * t) (SqL.of h2) ?g1 ?g2 ?g3
  case g1=>rw [List.length_map];omega
  case g2=>
   intro y H2 Q' hy _ q'
   obtain ⟨q,_,rfl⟩:=List.mem_map.mp hy
   exact ⟨_,rfl,_,rfl,_,_,rfl,rfl,.inr ⟨by omega,by omega⟩,q'⟩
  case g3=>
  intro mo hmo
  rw [map_cutsV]
  have s1:Same H (upd H mo (.lst (cutsV (ps.map λq=>(q.1 * t,q.2))))):=Same.new hmo
  have hh:Holds v (strP ps t):=⟨hF.hh.h0,mem_strP hF.hh.hs⟩
  have hlen2:(strP ps t).length=ps.length:=List.length_map ..
  refine ⟨_,rfl,p,C,dx,_,_,rfl,s1 _ _ h1,T.cl,T.nH,flds_holds _ _,mo,b,v,strP ps t,rfl,SqL.of upd_same,SqL.of ((s1 _ _ h3).trans ?_),hh,by omega,λr H' s7 ln=>?_⟩
  ·unfold strP
   show _=some (HO.lst (v::(ps.map _).map _))
   rw [List.map_map];rfl
  ·exact k.of s1 s7 ln (str_rise hF.st.rise ht1) hh (by omega) λy=>str_at ht1 y
theorem ok_done {f:Addr}{fd:FuncData} (F:Fun K "done" "done" s_done f fd) (DP:Def P w K mg base "put" ["line","start","end","value"] 4 (spPut C)) (DO:Def P w K mg base "opened" ["line","place","size"] 4 (spOpened C))
  (DC:Def P w K mg base "closed" ["line","place","size"] 4 (spClosed C)) (DS:Def P w K mg base "stretched" ["line","times"] 4 (spStretched C)):FnOk P w K mg base CX0 5 f fd ["line","deed"] (spDone K C):=by
 refine F.ok sc_done (λvs H Q E h=>?_) (λcdv A outer s H vs Q E hr h=>?_)
 ·obtain ⟨p,d,v,ps,dd,rfl,_⟩:=h
  rfl
 ·obtain ⟨p,d,v,ps,dd,rfl,hL,hF,hlen,hd,hok,k⟩:=h
  refine' ⟨_,pss_cons (ps_set (i:=2) sc_done.nd rfl (Or.inl rfl) (pe_ix ix_tup (pv 1) pe_int (λ_ _=>rfl)))
   (pss_cons (ps_if (pt_cmpR op_eq (pv 2) pe_str (nomark _)) (pss_one (ps_ret ?e1)) pss_nil)
   (pss_cons (ps_if (pt_cmpR op_eq (pv 2) pe_str (nomark _)) (pss_one (ps_ret ?e2)) pss_nil)
   (pss_cons (ps_if (pt_cmpR op_eq (pv 2) pe_str (nomark _)) (pss_one (ps_ret ?e3)) pss_nil)
   (pss_cons (ps_if (pt_cmpR op_eq (pv 2) pe_str (nomark _)) (pss_one (ps_ret ?e4)) pss_nil)
   (pss_one ps_never))))),?rd⟩
  case e1=>exact pe_callD DP hr rfl (pa_cons (pv 0) (pa_cons (pe_ix ix_tup (pv 1) pe_int (λ_ _=>rfl)) (pa_cons (pe_ix ix_tup (pv 1) pe_int (λ_ _=>rfl)) (pa_cons (pe_ix ix_tup (pv 1) pe_int (λ_ _=>rfl)) pa_nil))))
  case e2=>exact pe_callD DO hr rfl (pa_cons (pv 0) (pa_cons (pe_ix ix_tup (pv 1) pe_int (λ_ _=>rfl)) (pa_cons (pe_ix ix_tup (pv 1) pe_int (λ_ _=>rfl)) pa_nil)))
  case e3=>exact pe_callD DC hr rfl (pa_cons (pv 0) (pa_cons (pe_ix ix_tup (pv 1) pe_int (λ_ _=>rfl)) (pa_cons (pe_ix ix_tup (pv 1) pe_int (λ_ _=>rfl)) pa_nil)))
  case e4=>exact pe_callD DS hr rfl (pa_cons (pv 0) (pa_cons (pe_ix ix_tup (pv 1) pe_int (λ_ _=>rfl)) pa_nil))
  case rd=>
  cases dd with
  |put s e u=>
   refine ⟨_,rfl,d,_,_,_,rfl,rfl,hd,atN (j:=0) rfl rfl,?_⟩
   refine ⟨_,rfl,rfl,_,rfl,iteP (by decide +kernel) ?_⟩
   exact ⟨_,rfl,_,rfl,d,_,_,_,rfl,rfl,hd,atN (j:=1) rfl rfl,_,rfl,d,_,_,_,rfl,rfl,hd,atN (j:=2) rfl rfl,_,rfl,d,_,_,_,rfl,rfl,hd,atN (j:=3) rfl rfl,p,v,ps,s,e,u,rfl,hL,hF,hlen,hok,k⟩
  |opn x n=>
   refine ⟨_,rfl,d,_,_,_,rfl,rfl,hd,atN (j:=0) rfl rfl,?_⟩
   refine ⟨_,rfl,rfl,_,rfl,iteN (by decide +kernel) ?_⟩
   refine ⟨_,rfl,rfl,_,rfl,iteP (by decide +kernel) ?_⟩
   exact ⟨_,rfl,_,rfl,d,_,_,_,rfl,rfl,hd,atN (j:=1) rfl rfl,_,rfl,d,_,_,_,rfl,rfl,hd,atN (j:=2) rfl rfl,p,v,ps,x,n,rfl,hL,hF,hlen,hok,k⟩
  |cls x n=>
   refine ⟨_,rfl,d,_,_,_,rfl,rfl,hd,atN (j:=0) rfl rfl,?_⟩
   refine ⟨_,rfl,rfl,_,rfl,iteN (by decide +kernel) ?_⟩
   refine ⟨_,rfl,rfl,_,rfl,iteN (by decide +kernel) ?_⟩
   refine ⟨_,rfl,rfl,_,rfl,iteP (by decide +kernel) ?_⟩
   exact ⟨_,rfl,_,rfl,d,_,_,_,rfl,rfl,hd,atN (j:=1) rfl rfl,_,rfl,d,_,_,_,rfl,rfl,hd,atN (j:=2) rfl rfl,p,v,ps,x,n,rfl,hL,hF,hlen,hok,k⟩
  |str t=>
   refine ⟨_,rfl,d,_,_,_,rfl,rfl,hd,atN (j:=0) rfl rfl,?_⟩
   refine ⟨_,rfl,rfl,_,rfl,iteN (by decide +kernel) ?_⟩
   refine ⟨_,rfl,rfl,_,rfl,iteN (by decide +kernel) ?_⟩
   refine ⟨_,rfl,rfl,_,rfl,iteN (by decide +kernel) ?_⟩
   refine ⟨_,rfl,rfl,_,rfl,iteP (by decide +kernel) ?_⟩
   exact ⟨_,rfl,_,rfl,d,_,_,_,rfl,rfl,hd,atN (j:=1) rfl rfl,p,v,ps,t,rfl,hL,hF,hlen,hok.1,hok.2,k⟩
end
section
variable {P:Program}{w:World}{K:PySem.W.Frag}{mg:Str->Option Value}{base:Heap}{C:Addr}
def Deed.carry:Deed->Int->Int
 | .put _ _ _,x=>x
 | .opn p n,x=>if x<p then x else x+n
 | .cls p n,x=>if x<p then x else if x-n > p then x-n else p
 | .str t,x=>x * t
def spByOpen:Sp:=λvs H Q _=>∃ x p n:Int,vs=[.int x,.int p,.int n]/\0<=n/\Q (.int (if x<p then x else x+n)) H
def spByClose:Sp:=λvs H Q _=>∃ x p n:Int,vs=[.int x,.int p,.int n]/\0<=n/\Q (.int (if x<p then x else if x-n > p then x-n else p)) H
def spByStr:Sp:=λvs H Q _=>∃ x t:Int,vs=[.int x,.int t]/\1<=t/\t<=3/\Q (.int (x * t)) H
def spCarried (K:PySem.W.Frag):Sp:=λvs H Q _=>∃ (x:Int) (d:Addr) (dd:Deed),vs=[.int x,.ref d]/\SqT K H d dd.vs/\dd.Ok/\Q (.int (dd.carry x)) H
theorem ok_by_open {f:Addr}{fd:FuncData} (F:Fun K "carried_by_opening" "carried_by_opening" s_carried_by_opening f fd) (DS:Def P w K mg base "check_size" ["size"] 1 spCheckS):FnOk P w K mg base CX0 2 f fd ["place","gap","size"] spByOpen:=by
 refine F.ok sc_carried_by_opening (λvs H Q E h=>?_) (λcdv A outer s H vs Q E hr h=>?_)
 ·obtain ⟨x,p,n,rfl,_⟩:=h
  rfl
 ·obtain ⟨x,p,n,rfl,hn,k⟩:=h
  refine ⟨_,pss_cons (ps_expr (pe_callD DS hr rfl (pa_cons (pv 2) pa_nil))) (pss_one (ps_ret (pe_ifExp (pt_cmpR op_lt (pv 0) (pv 1) (nomark _)) (pv 0) (pe_op op_add (pv 0) (pv 2))))),?_⟩
  refine ⟨_,rfl,n,rfl,hn,_,rfl,_,rfl,_,_,rfl,rfl,_,rfl,ite2 (λhc=>?_) (λhc=>?_)⟩
  ·rw [if_pos (of_decide_eq_true hc)] at k
   exact ⟨_,rfl,k⟩
  ·rw [if_neg (of_decide_eq_false (Bool.eq_false_iff.mpr hc))] at k
   exact ⟨_,rfl,_,rfl,_,_,rfl,rfl,k⟩
theorem ok_by_close {f:Addr}{fd:FuncData} (F:Fun K "carried_by_closing" "carried_by_closing" s_carried_by_closing f fd) (T:Txt K mg C) (DS:Def P w K mg base "check_size" ["size"] 1 spCheckS):FnOk P w K mg base CX0 2 f fd ["place","gap","size"] spByClose:=by
 refine F.ok sc_carried_by_closing (λvs H Q E h=>?_) (λcdv A outer s H vs Q E hr h=>?_)
 ·obtain ⟨x,p,n,rfl,_⟩:=h
  rfl
 ·obtain ⟨x,p,n,rfl,hn,k⟩:=h
  refine ⟨_,pss_cons (ps_expr (pe_callD DS hr rfl (pa_cons (pv 2) pa_nil))) (pss_one (ps_ret (pe_ifExp (pt_cmpR op_lt (pv 0) (pv 1) (nomark _)) (pv 0) (pe_callB (call_max2 rfl) rfl T.max boot_max (pa_cons (pv 1) (pa_cons (pe_op op_sub (pv 0) (pv 2)) pa_nil)))))),?_⟩
  refine ⟨_,rfl,n,rfl,hn,_,rfl,_,rfl,_,_,rfl,rfl,_,rfl,ite2 (λhc=>?_) (λhc=>?_)⟩
  ·rw [if_pos (of_decide_eq_true hc)] at k
   exact ⟨_,rfl,k⟩
  ·rw [if_neg (of_decide_eq_false (Bool.eq_false_iff.mpr hc))] at k
   exact ⟨_,rfl,_,rfl,_,rfl,_,_,rfl,rfl,_,_,rfl,k⟩
theorem ok_by_str {f:Addr}{fd:FuncData} (F:Fun K "carried_by_stretching" "carried_by_stretching" s_carried_by_stretching f fd) (DS:Def P w K mg base "check_times" ["times"] 1 spCheckT):FnOk P w K mg base CX0 2 f fd ["place","times"] spByStr:=by
 refine F.ok sc_carried_by_stretching (λvs H Q E h=>?_) (λcdv A outer s H vs Q E hr h=>?_)
 ·obtain ⟨x,t,rfl,_⟩:=h
  rfl
 ·obtain ⟨x,t,rfl,h1,h3,k⟩:=h
  refine ⟨_,pss_cons (ps_expr (pe_callD DS hr rfl (pa_cons (pv 1) pa_nil))) (pss_one (ps_ret (pe_op op_mul (pv 0) (pv 1)))),?_⟩
  exact ⟨_,rfl,t,rfl,h1,_,rfl,_,rfl,_,_,rfl,rfl,.inr ⟨by omega,by omega⟩,k⟩
theorem ok_carried {f:Addr}{fd:FuncData} (F:Fun K "carried" "carried" s_carried f fd) (DO:Def P w K mg base "carried_by_opening" ["place","gap","size"] 2 spByOpen)
  (DC:Def P w K mg base "carried_by_closing" ["place","gap","size"] 2 spByClose) (DS:Def P w K mg base "carried_by_stretching" ["place","times"] 2 spByStr):FnOk P w K mg base CX0 3 f fd ["place","deed"] (spCarried K):=by
 refine F.ok sc_carried (λvs H Q E h=>?_) (λcdv A outer s H vs Q E hr h=>?_)
 ·obtain ⟨x,d,dd,rfl,_⟩:=h
  rfl
 ·obtain ⟨x,d,dd,rfl,hd,hok,k⟩:=h
  refine' ⟨_,pss_cons (ps_set (i:=2) sc_carried.nd rfl (Or.inl rfl) (pe_ix ix_tup (pv 1) pe_int (λ_ _=>rfl)))
   (pss_cons (ps_if (pt_cmpR op_eq (pv 2) pe_str (nomark _)) (pss_one (ps_ret (pv 0))) pss_nil)
   (pss_cons (ps_if (pt_cmpR op_eq (pv 2) pe_str (nomark _)) (pss_one (ps_ret ?e2)) pss_nil)
   (pss_cons (ps_if (pt_cmpR op_eq (pv 2) pe_str (nomark _)) (pss_one (ps_ret ?e3)) pss_nil)
   (pss_cons (ps_if (pt_cmpR op_eq (pv 2) pe_str (nomark _)) (pss_one (ps_ret ?e4)) pss_nil)
   (pss_one ps_never))))),?rd⟩
  case e2=>exact pe_callD DO hr rfl (pa_cons (pv 0) (pa_cons (pe_ix ix_tup (pv 1) pe_int (λ_ _=>rfl)) (pa_cons (pe_ix ix_tup (pv 1) pe_int (λ_ _=>rfl)) pa_nil)))
  case e3=>exact pe_callD DC hr rfl (pa_cons (pv 0) (pa_cons (pe_ix ix_tup (pv 1) pe_int (λ_ _=>rfl)) (pa_cons (pe_ix ix_tup (pv 1) pe_int (λ_ _=>rfl)) pa_nil)))
  case e4=>exact pe_callD DS hr rfl (pa_cons (pv 0) (pa_cons (pe_ix ix_tup (pv 1) pe_int (λ_ _=>rfl)) pa_nil))
  case rd=>
  cases dd with
  |put s e u=>
   refine ⟨_,rfl,d,_,_,_,rfl,rfl,hd,atN (j:=0) rfl rfl,?_⟩
   refine ⟨_,rfl,rfl,_,rfl,iteP (by decide +kernel) ?_⟩
   exact ⟨_,rfl,k⟩
  |opn p n=>
   refine ⟨_,rfl,d,_,_,_,rfl,rfl,hd,atN (j:=0) rfl rfl,?_⟩
   refine ⟨_,rfl,rfl,_,rfl,iteN (by decide +kernel) ?_⟩
   refine ⟨_,rfl,rfl,_,rfl,iteP (by decide +kernel) ?_⟩
   exact ⟨_,rfl,_,rfl,d,_,_,_,rfl,rfl,hd,atN (j:=1) rfl rfl,_,rfl,d,_,_,_,rfl,rfl,hd,atN (j:=2) rfl rfl,x,p,n,rfl,hok,k⟩
  |cls p n=>
   refine ⟨_,rfl,d,_,_,_,rfl,rfl,hd,atN (j:=0) rfl rfl,?_⟩
   refine ⟨_,rfl,rfl,_,rfl,iteN (by decide +kernel) ?_⟩
   refine ⟨_,rfl,rfl,_,rfl,iteN (by decide +kernel) ?_⟩
   refine ⟨_,rfl,rfl,_,rfl,iteP (by decide +kernel) ?_⟩
   exact ⟨_,rfl,_,rfl,d,_,_,_,rfl,rfl,hd,atN (j:=1) rfl rfl,_,rfl,d,_,_,_,rfl,rfl,hd,atN (j:=2) rfl rfl,x,p,n,rfl,hok,k⟩
  |str t=>
   refine ⟨_,rfl,d,_,_,_,rfl,rfl,hd,atN (j:=0) rfl rfl,?_⟩
   refine ⟨_,rfl,rfl,_,rfl,iteN (by decide +kernel) ?_⟩
   refine ⟨_,rfl,rfl,_,rfl,iteN (by decide +kernel) ?_⟩
   refine ⟨_,rfl,rfl,_,rfl,iteN (by decide +kernel) ?_⟩
   refine ⟨_,rfl,rfl,_,rfl,iteP (by decide +kernel) ?_⟩
   exact ⟨_,rfl,_,rfl,d,_,_,_,rfl,rfl,hd,atN (j:=1) rfl rfl,x,t,rfl,hok.1,hok.2,k⟩
end
section
variable {P:Program}{w:World}{K:PySem.W.Frag}{mg:Str->Option Value}{base:Heap}{C:Addr}
def spDeed (K:PySem.W.Frag):Sp:=λvs H Q _=>∃ (o t:Int) (l:Addr) (ts:List V),vs=[.int o,.int t,.ref l]/\Names K H l ts/\∀ (d:Addr) (H':Hp) (dd:Deed),Same H H'->H d=none->H' d=some (.tup dd.vs)->dd.Ok->Q (.ref d) H'
def tSz (f0 f1 f2 f3:Option V):TS:=λD σ H=>∃ sz:Int,σ=[f0,f1,f2,f3,some (.int sz),none]/\0<=sz/\∀ sz':Int,0<=sz'->D.nx [f0,f1,f2,f3,some (.int sz'),none] H
def tPl (f0 f1 f2 f4:Option V):TS:=λD σ H=>∃ pl:Int,σ=[f0,f1,f2,some (.int pl),f4,none]/\∀ pl':Int,D.nx [f0,f1,f2,some (.int pl'),f4,none] H
def tEn (H0:Hp) (f0 f1 f2 f3 f4:Option V):TS:=λD σ H=>∃ (en:Addr) (s e:Option Int),σ=[f0,f1,f2,f3,f4,some (.ref en)]/\Same H0 H/\H0 en=none/\H en=some (.lst [optV s,optV e])/\
 ∀ (en':Addr) (H':Hp) (s' e':Option Int),Same H0 H'->H0 en'=none->H' en'=some (.lst [optV s',optV e'])->D.nx [f0,f1,f2,f3,f4,some (.ref en')] H'
theorem ok_deed {f:Addr}{fd:FuncData} (F:Fun K "_law_deed" "_law_deed" s_law_deed f fd):FnOk P w K mg base CX0 1 f fd ["one","two","names"] (spDeed K):=by
 refine F.ok sc_law_deed (λvs H Q E h=>?_) (λcdv A outer s H vs Q E hr h=>?_)
 ·obtain ⟨o,t,l,ts,rfl,_⟩:=h
  rfl
 ·obtain ⟨o,t,l,ts,rfl,⟨hN,hN4,hNv⟩,k⟩:=h
  refine' ⟨_,pss_cons (ps_set (i:=3) sc_law_deed.nd rfl (Or.inl rfl) ?a1)
   (pss_cons (ps_set (i:=4) sc_law_deed.nd rfl (Or.inl rfl) ?a2)
   (pss_cons (ps_imp (t':=tSz (some (.int o)) (some (.int t)) (some (.ref l)) (some (.int (o / 7 % 25 - 12)))) (ps_if ?b1 (pss_one (ps_set (i:=4) sc_law_deed.nd rfl (Or.inl rfl) ?b2)) pss_nil) ?bi)
   (pss_cons (ps_imp (t':=λD σ H=>∃ f4,tPl (some (.int o)) (some (.int t)) (some (.ref l)) f4 D σ H) (ps_if ?c1 (pss_one (ps_set (i:=3) sc_law_deed.nd rfl (Or.inl rfl) ?c2)) pss_nil) ?ci)
   (pss_cons (ps_if ?d1 (pss_one (ps_ret (pe_tup (pa_cons pe_str (pa_cons (pv 3) (pa_cons (pv 4) pa_nil)))))) pss_nil)
   (pss_cons (ps_if ?d2 (pss_one (ps_ret (pe_tup (pa_cons pe_str (pa_cons (pv 3) (pa_cons (pv 4) pa_nil)))))) pss_nil)
   (pss_cons (ps_if ?d3 (pss_one (ps_ret (pe_tup (pa_cons pe_str (pa_cons (pe_op op_add pe_int (pe_op op_mod (pv 1) pe_int)) pa_nil))))) pss_nil)
   (pss_cons (ps_set (i:=5) sc_law_deed.nd rfl (Or.inl rfl) (pe_lst (pa_cons (pv 3) (pa_cons (pe_op op_add (pv 3) (pv 4)) pa_nil))))
   (pss_cons (ps_imp (t':=λD σ H1=>∃ f3 f4,tEn H (some (.int o)) (some (.int t)) (some (.ref l)) f3 f4 D σ H1) (ps_if ?e1 (pss_one (ps_asg pe_non (pg_sub (pv 5) pe_int L2.set_list))) pss_nil) ?e1i)
   (pss_cons (ps_imp (t':=λD σ H1=>∃ f3 f4,tEn H (some (.int o)) (some (.int t)) (some (.ref l)) f3 f4 D σ H1) (ps_if ?e2 (pss_one (ps_asg pe_non (pg_sub (pv 5) pe_int L2.set_list))) pss_nil) ?e2i)
   (pss_cons (ps_imp (t':=λD σ H1=>∃ pl sz:Int,tEn H (some (.int o)) (some (.int t)) (some (.ref l)) (some (.int pl)) (some (.int sz)) D σ H1) (ps_if ?e3 (pss_one (ps_asg (pe_op op_sub (pv 3) (pv 4)) (pg_sub (pv 5) pe_int L2.set_list))) pss_nil) ?e3i)
   (pss_cons (ps_imp (t':=λD σ H1=>∃ f3 f4,tEn H (some (.int o)) (some (.int t)) (some (.ref l)) f3 f4 D σ H1) (ps_if ?e4 (pss_one (ps_set (i:=5) sc_law_deed.nd rfl (Or.inl rfl) (pe_lst (pa_cons pe_non (pa_cons pe_non pa_nil))))) pss_nil) ?e4i)
   (pss_one (ps_ret ?r))))))))))))),?rd⟩
  case a1=>exact pe_op op_sub (pe_op op_mod (pe_op op_fdiv (pv 0) pe_int) pe_int) pe_int
  case a2=>exact pe_op op_mod (pv 1) pe_int
  case b1=>exact pt_cmpR op_eq (pe_op op_mod (pe_op op_fdiv (pv 1) pe_int) pe_int) pe_int (nomark _)
  case b2=>exact pe_op op_add (pe_op op_pow pe_int pe_int) (pe_op op_mod (pv 1) pe_int)
  case c1=>exact pt_cmpR op_eq (pe_op op_mod (pe_op op_fdiv (pv 0) pe_int) pe_int) pe_int (nomark _)
  case c2=>exact pe_op op_sub (pe_op op_mod (pv 0) (pe_op op_pow pe_int pe_int)) (pe_op op_mul pe_int (pe_op op_pow pe_int pe_int))
  case d1=>exact pt_cmpR op_eq (pe_op op_mod (pv 0) pe_int) pe_int (nomark _)
  case d2=>exact pt_cmpR op_eq (pe_op op_mod (pv 0) pe_int) pe_int (nomark _)
  case d3=>exact pt_cmpR op_eq (pe_op op_mod (pv 0) pe_int) pe_int (nomark _)
  case e1=>exact pt_cmpR op_eq (pe_op op_mod (pe_op op_fdiv (pv 1) pe_int) pe_int) pe_int (nomark _)
  case e2=>exact pt_cmpR op_eq (pe_op op_mod (pe_op op_fdiv (pv 1) pe_int) pe_int) pe_int (nomark _)
  case e3=>exact pt_cmpR op_eq (pe_op op_mod (pe_op op_fdiv (pv 1) pe_int) pe_int) pe_int (nomark _)
  case e4=>exact pt_cmpR op_eq (pe_op op_mod (pe_op op_fdiv (pv 1) pe_int) pe_int) pe_int (nomark _)
  case r=>
   refine' pe_tup ?r1
   case r1=>
    refine' pa_cons pe_str (pa_cons ?x1 (pa_cons ?x2 (pa_cons ?x3 pa_nil)))
    case x1=>exact pe_ix ix_list (pv 5) pe_int (λ_ _=>rfl)
    case x2=>exact pe_ix ix_list (pv 5) pe_int (λ_ _=>rfl)
    case x3=>
     refine' pe_ix ?u1 ?u2 ?u3 ?u4
     case u1=>exact ix_list
     case u2=>exact pv 2
     case u3=>exact pe_op op_mod (pe_op op_fdiv (pv 1) pe_int) pe_int
     case u4=>exact λ_ _=>rfl
  case bi=>
   rintro D σ H1 ⟨sz,rfl,h0,kk⟩
   refine ⟨_,rfl,_,_,rfl,rfl,⟨by decide,by decide⟩,_,_,rfl,rfl,(by show (0:Int)<8;decide),rfl,_,rfl,ite2 (λ_=>?_) (λ_=>kk sz h0)⟩
   refine ⟨_,_,rfl,rfl,⟨by decide,by decide,by decide⟩,_,rfl,_,_,rfl,rfl,(by show (0:Int)<100;decide),_,_,rfl,rfl,kk _ ?_⟩
   have:=Int.emod_nonneg t (by decide:(100:Int)≠0)
   have h10:(0:Int)<=(10:Int) ^ (20:Int).toNat:=by decide +kernel
   omega
  case ci=>
   rintro D σ H1 ⟨f4,pl,rfl,kk⟩
   refine ⟨_,rfl,_,_,rfl,rfl,⟨by decide,by decide⟩,_,_,rfl,rfl,(by show (0:Int)<8;decide),rfl,_,rfl,ite2 (λ_=>?_) (λ_=>kk pl)⟩
   exact ⟨_,rfl,_,_,rfl,rfl,⟨by decide,by decide,by decide⟩,_,_,rfl,rfl,(by show (0:Int)<(10:Int) ^ (30:Int).toNat;decide +kernel),_,_,rfl,rfl,⟨by decide,by decide,by decide⟩,_,_,rfl,rfl,.inl ⟨by decide,by decide⟩,_,_,rfl,rfl,kk _⟩
  case e1i=>
   rintro D σ H1 ⟨f3,f4,en,s,e,rfl,s1,n0,g,kk⟩
   refine ⟨_,rfl,_,_,rfl,rfl,⟨by decide,by decide⟩,_,_,rfl,rfl,(by show (0:Int)<6;decide),rfl,_,rfl,ite2 (λ_=>?_) (λ_=>kk en H1 s e s1 n0 g)⟩
   exact ⟨_,rfl,en,_,_,0,rfl,rfl,g,rfl,kk en _ none e (Same.upd s1 n0) n0 upd_same⟩
  case e2i=>
   rintro D σ H1 ⟨f3,f4,en,s,e,rfl,s1,n0,g,kk⟩
   refine ⟨_,rfl,_,_,rfl,rfl,⟨by decide,by decide⟩,_,_,rfl,rfl,(by show (0:Int)<6;decide),rfl,_,rfl,ite2 (λ_=>?_) (λ_=>kk en H1 s e s1 n0 g)⟩
   exact ⟨_,rfl,en,_,_,1,rfl,rfl,g,rfl,kk en _ s none (Same.upd s1 n0) n0 upd_same⟩
  case e3i=>
   rintro D σ H1 ⟨pl,sz,en,s,e,rfl,s1,n0,g,kk⟩
   refine ⟨_,rfl,_,_,rfl,rfl,⟨by decide,by decide⟩,_,_,rfl,rfl,(by show (0:Int)<6;decide),rfl,_,rfl,ite2 (λ_=>?_) (λ_=>kk en H1 s e s1 n0 g)⟩
   exact ⟨_,rfl,_,rfl,_,_,rfl,rfl,_,rfl,en,_,_,1,rfl,rfl,g,rfl,kk en _ s (some (pl-sz)) (Same.upd s1 n0) n0 upd_same⟩
  case e4i=>
   rintro D σ H1 ⟨f3,f4,en,s,e,rfl,s1,n0,g,kk⟩
   refine ⟨_,rfl,_,_,rfl,rfl,⟨by decide,by decide⟩,_,_,rfl,rfl,(by show (0:Int)<36;decide),rfl,_,rfl,ite2 (λ_=>?_) (λ_=>kk en H1 s e s1 n0 g)⟩
   exact ⟨smallL (by show 2<=2000;decide),λen' hen'=>kk en' _ none none (Same.upd s1 (s1.free hen')) (s1.free hen') upd_same⟩
  case rd=>
  refine ⟨_,rfl,_,_,rfl,rfl,⟨by decide,by decide⟩,_,_,rfl,rfl,(by show (0:Int)<25;decide),_,_,rfl,rfl,?_⟩
  refine ⟨_,rfl,_,_,rfl,rfl,(by show (0:Int)<7;decide),?_⟩
  refine ⟨_,rfl,Int.emod_nonneg t (by decide),λsz hsz=>?_⟩
  refine ⟨_,_,rfl,λpl=>?_⟩
  refine ⟨_,rfl,_,_,rfl,rfl,(by show (0:Int)<7;decide),rfl,_,rfl,ite2 (λ_=>?_) (λ_=>?_)⟩
  ·exact ⟨_,rfl,_,rfl,smallL (by show 3<=2000;decide),λd hd=>k d _ (.opn pl sz) (Same.new hd) hd upd_same hsz⟩
  refine ⟨_,rfl,_,_,rfl,rfl,(by show (0:Int)<7;decide),rfl,_,rfl,ite2 (λ_=>?_) (λ_=>?_)⟩
  ·exact ⟨_,rfl,_,rfl,smallL (by show 3<=2000;decide),λd hd=>k d _ (.cls pl sz) (Same.new hd) hd upd_same hsz⟩
  refine ⟨_,rfl,_,_,rfl,rfl,(by show (0:Int)<7;decide),rfl,_,rfl,ite2 (λ_=>?_) (λ_=>?_)⟩
  ·refine ⟨_,rfl,_,_,rfl,rfl,(by show (0:Int)<3;decide),_,_,rfl,rfl,smallL (by show 2<=2000;decide),λd hd=>k d _ (.str (1+t % 3)) (Same.new hd) hd upd_same ?_⟩
   have:=Int.emod_nonneg t (by decide:(3:Int)≠0)
   have:=Int.emod_lt_of_pos t (by decide:(0:Int)<3)
   exact ⟨by omega,by omega⟩
  refine ⟨_,rfl,_,rfl,_,rfl,_,_,rfl,rfl,smallL (by show 2<=2000;decide),λen hen=>?_⟩
  refine ⟨_,_,en,some pl,some (pl+sz),rfl,Same.new hen,hen,upd_same,λen1 H1 s1 e1 sa na ga=>?_⟩
  refine ⟨_,_,en1,s1,e1,rfl,sa,na,ga,λen2 H2 s2 e2 sb nb gb=>?_⟩
  refine ⟨pl,sz,en2,s2,e2,rfl,sb,nb,gb,λen3 H3 s3 e3 sc nc gc=>?_⟩
  refine ⟨_,_,en3,s3,e3,rfl,sc,nc,gc,λen4 H4 s4 e4 sd nd gd=>?_⟩
  obtain ⟨u,hu,eu⟩:=in_list (ts:=ts) (Int.emod_nonneg (t / 11) (by decide:(4:Int)≠0)) (by rw [hN4];exact Int.emod_lt_of_pos (t / 11) (by decide))
  refine ⟨_,rfl,en4,_,_,optV s4,rfl,rfl,SqL.of gd,atN (j:=0) rfl rfl,_,rfl,en4,_,_,optV e4,rfl,rfl,SqL.of gd,atN (j:=1) rfl rfl,_,rfl,_,rfl,_,_,rfl,rfl,⟨by decide,by decide⟩,_,_,rfl,rfl,(by show (0:Int)<4;decide),l,ts,_,u,rfl,rfl,sd.seq hN,eu,smallL (by show 4<=2000;decide),λd hd=>?_⟩
  exact k d _ (.put s4 e4 u) (Same.upd sd (sd.free hd)) (sd.free hd) upd_same (hNv u hu)
end
section
variable {P:Program}{w:World}{K:PySem.W.Frag}{mg:Str->Option Value}{base:Heap}{C:Addr}
theorem comp_tup {a:Addr}{xs:List V}{js:List Nat}{tt:TT}{te:TE}{σ:L2.St}{H1:Hp}{R:Addr->Hp->Prop} (p:V->Bool) (g:V->V) (hx:SqT K H1 a xs) (hn:xs.length<=2000)
  (ht:∀ x H2 (Q':Bool->Hp->Prop),x∈xs->Same H1 H2->Q' (p x) H2->tt (some x::capsOf js σ) H2 Q')
  (he:∀ x H2 (Q':VK),x∈xs->p x=true->Same H1 H2->Q' (g x) H2->te (some x::capsOf js σ) H2 Q')
  (hq:∀ l,H1 l=none->R l (upd H1 l (.lst ((xs.filter p).map g)))) :
  ∀ l,H1 l=none->∃ W:Nat->Nat->List V->Hp->Prop,(∃ m,W 0 m [] (upd H1 l (.lst [])))/\
   ∀ i m ys H,W i m ys H->H l=some (.lst ys)/\(((Itt K a).stop i H/\R l H)∨((Itt K a).go i H/\∀ x H',(Itt K a).yld i H x H'->tt (some x::capsOf js σ) H' λb H2=>
    if b=true then te (some x::capsOf js σ) H2 λy H3=>H3 l=some (.lst ys)/\ys.length<sizeLine/\∃ m',m'<m/\W (i+1) m' (ys++[y]) (upd H3 l (.lst (ys++[y]))) else ∃ m',m'<m/\W (i+1) m' ys H2)):=by
 intro l hl
 refine ⟨λi m ys H=>m=xs.length-i/\i<=xs.length/\ys=((xs.take i).filter p).map g/\H=upd H1 l (.lst ys),⟨xs.length,rfl,Nat.zero_le _,by simp,rfl⟩,?_⟩
 rintro i m ys H ⟨rfl,hi,rfl,rfl⟩
 refine ⟨upd_same,?_⟩
 have hx2:SqT K (upd H1 l (.lst (((xs.take i).filter p).map g))) a xs:=Same.tup (Same.new hl) hx
 by_cases hlt:i<xs.length
 ·have hxi:xs[i]?=some xs[i]:=List.getElem?_eq_getElem hlt
  have htk:xs.take (i+1)=xs.take i++[xs[i]]:=by rw [List.take_add_one,hxi];rfl
  refine .inr ⟨⟨xs,xs[i],hx2,hxi⟩,λx H' y=>?_⟩
  obtain ⟨e1,y⟩:=y
  subst e1
  have ex:=y xs hx2
  rw [hxi] at ex
  obtain rfl:xs[i]=x:=Option.some.inj ex
  have hm:xs[i]∈xs:=List.getElem_mem hlt
  refine ht _ _ _ hm (Same.new hl) ?_
  have hlen:(((xs.take i).filter p).map g).length<=i:=by
   rw [List.length_map]
   refine Nat.le_trans (List.length_filter_le _ _) ?_
   rw [List.length_take];omega
  by_cases hp:p xs[i]=true
  ·rw [if_pos hp]
   refine he _ _ _ hm hp (Same.new hl) ⟨upd_same,small (by omega),xs.length-(i+1),by omega,rfl,hlt,?_,by rw [upd_upd]⟩
   rw [htk,List.filter_append,List.map_append]
   simp [hp]
  ·rw [if_neg hp]
   refine ⟨xs.length-(i+1),by omega,rfl,hlt,?_,rfl⟩
   rw [htk,List.filter_append,List.map_append]
   simp [hp]
 ·have e:i=xs.length:=by omega
  subst e
  refine .inl ⟨⟨xs,hx2,Nat.le_refl _⟩,?_⟩
  rw [List.take_of_length_le (Nat.le_refl _)]
  exact hq l hl
theorem ix_tupK {X:Cx}{K':PySem.W.Frag} (h:X.K=K'):IxR X (rIxT K'):=h ▸ ix_tup
def spEdges (K:PySem.W.Frag):Sp:=λvs H Q _=>∃ (l d:Addr) (es:List Int) (dd:Deed),vs=[.ref l,.ref d]/\H l=some (.lst (es.map V.int))/\es.length<=900/\SqT K H d dd.vs/\dd.Ok/\
 ∀ (l':Addr) (H':Hp),Same H H'->H l'=none->H' l'=some (.lst ((dd.edges es).map V.int))->Q (.ref l') H'
abbrev scE1:Scope:={ kind:=.function,names:=[(".0",.local),("end",.local)],isGenerator:=false,isCoroutine:=false,more:=[] }
abbrev scE2:Scope:={ kind:=.function,names:=[(".0",.local),("edge",.local),("deed",.free)],isGenerator:=false,isCoroutine:=false,more:=[] }
abbrev scE3:Scope:={ kind:=.function,names:=[(".0",.local),("edge",.local),("deed",.free),("place",.free)],isGenerator:=false,isCoroutine:=false,more:=[] }
abbrev scE4:Scope:={ kind:=.function,names:=[(".0",.local),("edge",.local),("max",.globalImplicit),("min",.globalImplicit),("deed",.free),("place",.free)],isGenerator:=false,isCoroutine:=false,more:=[] }
theorem cs_e1:CScope (defScope s_law_edges_behind) scE1 ["edges","deed","place","moved"] ["end"] [] "end":=
 ⟨rfl,by decide +kernel,by decide +kernel,by decide +kernel,by decide +kernel,rfl,by decide +kernel,by decide +kernel,by decide +kernel,by decide +kernel⟩
theorem cs_e2:CScope (defScope s_law_edges_behind) scE2 ["edges","deed","place","moved"] ["edge","deed"] [1] "edge":=
 ⟨rfl,by decide +kernel,by decide +kernel,by decide +kernel,by decide +kernel,rfl,by decide +kernel,by decide +kernel,by decide +kernel,by decide +kernel⟩
theorem cs_e3:CScope (defScope s_law_edges_behind) scE3 ["edges","deed","place","moved"] ["edge","deed","place"] [1,2] "edge":=
 ⟨rfl,by decide +kernel,by decide +kernel,by decide +kernel,by decide +kernel,rfl,by decide +kernel,by decide +kernel,by decide +kernel,by decide +kernel⟩
theorem cs_e4:CScope (defScope s_law_edges_behind) scE4 ["edges","deed","place","moved"] ["edge","deed","place"] [1,2] "edge":=
 ⟨rfl,by decide +kernel,by decide +kernel,by decide +kernel,by decide +kernel,rfl,by decide +kernel,by decide +kernel,by decide +kernel,by decide +kernel⟩
def mapE (g:Int->Int):V->V
 | .int c=>.int (g c)
 |y=>y
theorem map_ints (g:Int->Int) (es:List Int):(es.map V.int).map (mapE g)=(es.map g).map V.int:=by
 rw [List.map_map,List.map_map]
 rfl
theorem ok_edges {f:Addr}{fd:FuncData} (F:Fun K "_law_edges_behind" "_law_edges_behind" s_law_edges_behind f fd) (T:Txt K mg C):FnOk P w K mg base CX0 1 f fd ["edges","deed"] (spEdges K):=by
 refine F.ok sc_law_edges_behind (λvs H Q E h=>?_) (λcdv A outer s H vs Q E hr h=>?_)
 ·obtain ⟨l,d,es,dd,rfl,_⟩:=h
  rfl
 ·obtain ⟨l,d,es,dd,rfl,hl,hlen,hd,hok,k⟩:=h
  refine' ⟨_,pss_cons (ps_if ?a1 (pss_one (ps_ret ?a2)) pss_nil)
   (pss_cons (ps_if ?b1 (pss_one (ps_ret ?b2)) pss_nil)
   (pss_cons (ps_set (i:=2) sc_law_edges_behind.nd rfl (Or.inr rfl) (pe_ix ix_tup (pv 1) pe_int (λ_ _=>rfl)))
   (pss_cons (ps_if ?c1 (pss_cons (ps_setC (i:=3) sc_law_edges_behind.nd rfl (Or.inl rfl) cs_e3 rfl rfl rfl (pi_list (pv 0)) (λ_ _ _ _ _=>pf_nil) ?c2) (pss_one (ps_ret ?c3))) pss_nil)
   (pss_one (ps_ret ?d1))))),?rd⟩
  case a1=>exact pt_cmpR op_eq (pe_ix ix_tup (pv 1) pe_int (λ_ _=>rfl)) pe_str (nomark _)
  case a2=>
   refine' pe_op op_cat ?x ?y
   case x=>exact pv 0
   case y=>
    refine' pe_comp cs_e1 rfl rfl rfl ?y1 ?y2 ?y3
    case y1=>exact pi_tup (pe_slice sl_tup (pv 1) (po_some pe_int) (po_some pe_int))
    case y2=>exact λ_ _ _ _ _=>pf_one (pt_cmp (pc_notN (pv 0)))
    case y3=>exact λ_ _ _ _ _=>pv 0
  case b1=>exact pt_cmpR op_eq (pe_ix ix_tup (pv 1) pe_int (λ_ _=>rfl)) pe_str (nomark _)
  case b2=>
   refine' pe_comp cs_e2 rfl rfl rfl ?y1 ?y2 ?y3
   case y1=>exact pi_list (pv 0)
   case y2=>exact λ_ _ _ _ _=>pf_nil
   case y3=>exact λ_ _ _ _ _=>pe_op op_mul (pv 0) (pe_ix (ix_tupK (K':=K) rfl) (pv 1) pe_int (λ_ _=>rfl))
  case c1=>exact pt_cmpR op_eq (pe_ix ix_tup (pv 1) pe_int (λ_ _=>rfl)) pe_str (nomark _)
  case c2=>exact λ_ _ _ _ _=>pe_ifExp (pt_cmpR op_ge (pv 0) (pv 2) (nomark _)) (pe_op op_add (pv 0) (pe_ix (ix_tupK (K':=K) rfl) (pv 1) pe_int (λ_ _=>rfl))) (pv 0)
  case c3=>
   refine' pe_op op_cat ?x ?y
   case x=>exact pv 3
   case y=>exact pe_lst (pa_cons (pv 2) (pa_cons (pe_op op_add (pv 2) (pe_ix ix_tup (pv 1) pe_int (λ_ _=>rfl))) pa_nil))
  case d1=>
   refine' pe_op op_cat ?x ?y
   case y=>exact pe_lst (pa_cons (pv 2) pa_nil)
   case x=>
    refine' pe_comp cs_e4 rfl rfl rfl ?y1 ?y2 ?y3
    case y1=>exact pi_list (pv 0)
    case y2=>exact λ_ _ _ _ _=>pf_nil
    case y3=>exact λ_ _ _ _ _=>pe_callB (call_max2 rfl) rfl T.max boot_max (pa_cons (pe_callB (call_min2 rfl) rfl T.min boot_min (pa_cons (pv 0) (pa_cons (pv 2) pa_nil))) (pa_cons (pe_op op_sub (pv 0) (pe_ix (ix_tupK (K':=K) rfl) (pv 1) pe_int (λ_ _=>rfl))) pa_nil))
  case rd=>
  have lenE:(es.map V.int).length=es.length:=List.length_map ..
  cases dd with
  |put s e u=>
   refine ⟨_,rfl,d,_,_,_,rfl,rfl,hd,atN (j:=0) rfl rfl,rfl,_,rfl,iteP (by decide +kernel) ?_⟩
   refine ⟨_,rfl,_,rfl,_,rfl,_,rfl,d,_,rfl,hd,(λz=>absurd (show (1:Nat)=0 from z.1) (by decide)),λsl hsl=>⟨sl,rfl,⟨_,SqT.of upd_same⟩,?_⟩⟩
   refine comp_tup (js:=[]) (te:=tVar 0) (λy=>!decide (y=.non)) (λy=>y) (SqT.of (xs:=[optV s,optV e]) upd_same) ?g1 ?g2 ?g3 ?g4
   case g1=>show 2<=2000;decide
   case g2=>exact λx H2 Q' _ _ q'=>⟨_,rfl,_,rfl,q'⟩
   case g3=>exact λx H2 Q' _ _ _ q'=>⟨_,rfl,q'⟩
   case g4=>
   intro lc hlc
   have s1:Same H (upd H sl (.tup [optV s,optV e])):=Same.new hsl
   have s2:Same H (upd (upd H sl (.tup [optV s,optV e])) lc (.lst (([optV s,optV e].filter λy=>!decide (y=.non)).map λy=>y))):=Same.upd s1 (s1.free hlc)
   have eF:(([optV s,optV e].filter λy=>!decide (y=.non)).map λy=>y)=(s.toList++e.toList).map V.int:=by
    cases s<;>cases e<;>rfl
   refine ⟨l,lc,_,_,rfl,rfl,s2 _ _ hl,upd_same,?_,λl' hl'=>?_⟩
   ·rw [eF,lenE,List.length_map,List.length_append]
    refine smallL ?_
    cases s<;>cases e<;>simp<;>omega
   ·refine k l' _ (Same.upd s2 (s2.free hl')) (s2.free hl') ?_
    rw [upd_same,eF]
    show _=some (HO.lst ((es++(s.toList++e.toList)).map V.int))
    simp only [List.map_append]
  |opn p n=>
   refine ⟨_,rfl,d,_,_,_,rfl,rfl,hd,atN (j:=0) rfl rfl,rfl,_,rfl,iteN (by decide +kernel) ?_⟩
   refine ⟨_,rfl,d,_,_,_,rfl,rfl,hd,atN (j:=0) rfl rfl,rfl,_,rfl,iteN (by decide +kernel) ?_⟩
   refine ⟨_,rfl,d,_,_,_,rfl,rfl,hd,atN (j:=1) rfl rfl,?_⟩
   refine ⟨_,rfl,d,_,_,_,rfl,rfl,hd,atN (j:=0) rfl rfl,rfl,_,rfl,iteP (by decide +kernel) ?_⟩
   refine ⟨_,rfl,l,rfl,⟨_,SqL.of hl⟩,?_⟩
   refine comp_map (js:=[1,2]) (mapE λx=>if p<=x then x+n else x) (SqL.of hl) ?g1 ?g2 ?g3
   case g1=>rw [lenE];omega
   case g2=>
    intro y H2 Q' hy s' q'
    obtain ⟨c,_,rfl⟩:=List.mem_map.mp hy
    have q2:Q' (.int (if p<=c then c+n else c)) H2:=q'
    refine ⟨_,rfl,_,rfl,_,_,rfl,rfl,_,rfl,ite2 (λhc=>?_) (λhc=>?_)⟩
    ·rw [if_pos (of_decide_eq_true hc)] at q2
     exact ⟨_,rfl,_,rfl,d,_,_,_,rfl,rfl,Same.tup s' hd,atN (j:=2) rfl rfl,_,_,rfl,rfl,q2⟩
    ·rw [if_neg (of_decide_eq_false (Bool.eq_false_iff.mpr hc))] at q2
     exact ⟨_,rfl,q2⟩
   case g3=>
   intro mo hmo
   rw [map_ints]
   have s1:Same H (upd H mo (.lst ((es.map λx=>if p<=x then x+n else x).map V.int))):=Same.new hmo
   refine ⟨_,rfl,_,rfl,_,rfl,_,rfl,d,_,_,_,rfl,rfl,Same.tup s1 hd,atN (j:=2) rfl rfl,_,_,rfl,rfl,smallL (by show 2<=2000;decide),λl3 hl3=>⟨mo,l3,_,_,rfl,rfl,(by rw [upd_ne (ne_of_none (H:=upd H mo _) upd_same hl3)];exact upd_same),upd_same,?_,λl' hl'=>?_⟩⟩
   ·rw [List.length_map,List.length_map];exact smallL (by show es.length+2<=2000;omega)
   ·have s2:=Same.upd (o:=.lst [.int p,.int (p+n)]) s1 (s1.free hl3)
    refine k l' _ (Same.upd s2 (s2.free hl')) (s2.free hl') (upd_same.trans ?_)
    show _=some (HO.lst ((es.map _++[p,p+n]).map V.int))
    rw [List.map_append];rfl
  |cls p n=>
   refine ⟨_,rfl,d,_,_,_,rfl,rfl,hd,atN (j:=0) rfl rfl,rfl,_,rfl,iteN (by decide +kernel) ?_⟩
   refine ⟨_,rfl,d,_,_,_,rfl,rfl,hd,atN (j:=0) rfl rfl,rfl,_,rfl,iteN (by decide +kernel) ?_⟩
   refine ⟨_,rfl,d,_,_,_,rfl,rfl,hd,atN (j:=1) rfl rfl,?_⟩
   refine ⟨_,rfl,d,_,_,_,rfl,rfl,hd,atN (j:=0) rfl rfl,rfl,_,rfl,iteN (by decide +kernel) ?_⟩
   refine ⟨_,rfl,l,rfl,⟨_,SqL.of hl⟩,?_⟩
   refine comp_map (js:=[1,2]) (mapE λx=>if x-n > (if p<x then p else x) then x-n else (if p<x then p else x)) (SqL.of hl) ?g1 ?g2 ?g3
   case g1=>rw [lenE];omega
   case g2=>
    intro y H2 Q' hy s' q'
    obtain ⟨c,_,rfl⟩:=List.mem_map.mp hy
    exact ⟨_,rfl,_,rfl,_,_,rfl,_,rfl,_,rfl,d,_,_,_,rfl,rfl,Same.tup s' hd,atN (j:=2) rfl rfl,_,_,rfl,rfl,_,_,rfl,q'⟩
   case g3=>
   intro mo hmo
   rw [map_ints]
   have s1:Same H (upd H mo (.lst ((es.map λx=>if x-n > (if p<x then p else x) then x-n else (if p<x then p else x)).map V.int))):=Same.new hmo
   refine ⟨_,rfl,smallL (by show 1<=2000;decide),λl3 hl3=>⟨mo,l3,_,_,rfl,rfl,(by rw [upd_ne (ne_of_none (H:=upd H mo _) upd_same hl3)];exact upd_same),upd_same,?_,λl' hl'=>?_⟩⟩
   ·rw [List.length_map,List.length_map];exact smallL (by show es.length+1<=2000;omega)
   ·have s2:=Same.upd (o:=.lst [.int p]) s1 (s1.free hl3)
    refine k l' _ (Same.upd s2 (s2.free hl')) (s2.free hl') (upd_same.trans ?_)
    show _=some (HO.lst ((es.map _++[p]).map V.int))
    rw [List.map_append];rfl
  |str t=>
   have h1:=hok.1
   have h3:=hok.2
   refine ⟨_,rfl,d,_,_,_,rfl,rfl,hd,atN (j:=0) rfl rfl,rfl,_,rfl,iteN (by decide +kernel) ?_⟩
   refine ⟨_,rfl,d,_,_,_,rfl,rfl,hd,atN (j:=0) rfl rfl,rfl,_,rfl,iteP (by decide +kernel) ?_⟩
   refine ⟨_,rfl,l,rfl,⟨_,SqL.of hl⟩,?_⟩
   refine comp_map (js:=[1]) (mapE λx=>x * t) (SqL.of hl) ?g1 ?g2 ?g3
   case g1=>rw [lenE];omega
   case g2=>
    intro y H2 Q' hy s' q'
    obtain ⟨c,_,rfl⟩:=List.mem_map.mp hy
    exact ⟨_,rfl,_,rfl,d,_,_,_,rfl,rfl,Same.tup s' hd,atN (j:=1) rfl rfl,_,_,rfl,rfl,.inr ⟨by omega,by omega⟩,q'⟩
   case g3=>
   intro mo hmo
   rw [map_ints]
   exact k mo _ (Same.new hmo) hmo upd_same
end
section
variable {P:Program}{w:World}{K:PySem.W.Frag}{mg:Str->Option Value}{base:Heap}{C:Addr}
def spEdgesAll (K:PySem.W.Frag):Sp:=λvs H Q _=>∃ (r:Addr) (qs:List (Addr×Deed)),vs=[.ref r]/\DeedsAt K H r qs/\qs.length<=31/\
 ∀ (l:Addr) (H':Hp) (τ:List Int),Same H H'->H l=none->H' l=some (.lst (τ.map V.int))->τ.Pairwise (· < ·)->(∀ x,x∈τ ↔ x∈edgesD qs)->τ.length<=62->Q (.ref l) H'
theorem ok_alledges {f:Addr}{fd:FuncData} (F:Fun K "_law_edges" "_law_edges" s_law_edges f fd) (T:Txt K mg C) (DE:Def P w K mg base "_law_edges_behind" ["edges","deed"] 1 (spEdges K)):FnOk P w K mg base CX0 2 f fd ["deeds"] (spEdgesAll K):=by
 refine F.ok sc_law_edges (λvs H Q E h=>?_) (λcdv A outer s H vs Q E hr h=>?_)
 ·obtain ⟨r,qs,rfl,_⟩:=h
  rfl
 ·obtain ⟨r,qs,rfl,hD,hlen,k⟩:=h
  refine' ⟨_,pss_cons (ps_set (i:=1) sc_law_edges.nd rfl (Or.inl rfl) (pe_lst pa_nil))
   (pss_cons (ps_for PassesOwn.never rfl (pi_list (pv 0)) (pg_name (i:=2) sc_law_edges.nd rfl (Or.inl rfl)) (pss_one (ps_set (i:=1) sc_law_edges.nd rfl (Or.inl rfl) ?a1)))
   (pss_one (ps_ret ?a2))),?rd⟩
  case a1=>exact pe_callD DE hr rfl (pa_cons (pv 1) (pa_cons (pv 2) pa_nil))
  case a2=>exact pe_sortset rfl rfl T.sorted rfl T.set (pv 1)
  case rd=>
  have hok:∀ q∈qs,q.2.Ok:=λq hq=>(hD.2 q hq).2
  refine ⟨Nat.zero_le _,λl0 hl0=>?_⟩
  have s0:Same H (upd H l0 (.lst [])):=Same.new hl0
  refine ⟨_,rfl,r,rfl,⟨_,s0.seq hD.1⟩,?_⟩
  refine for_list (K:=K) (a:=r) (xs:=qs.map λq=>V.ref q.1) (λi σ H'=>∃ (e:Addr) (x2:Option V),σ=[some (.ref r),some (.ref e),x2]/\Same H H'/\H' e=some (.lst ((edgesD (qs.take i)).map V.int))) ?_ (λi σ H' _ ⟨_,_,_,s1,_⟩=>s1.seq hD.1) ?_ ?_
  ·exact ⟨l0,none,rfl,s0,upd_same⟩
  ·rintro i v σ H' hi ⟨e,x2,rfl,s1,ge⟩
   have hil:i<qs.length:=by
    have:=(List.getElem?_eq_some_iff.mp hi).1
    rw [List.length_map] at this
    exact this
   obtain ⟨q,hq⟩:∃ q,qs[i]?=some q:=⟨_,List.getElem?_eq_getElem hil⟩
   obtain rfl:V.ref q.1=v:=by
    rw [List.getElem?_map,hq] at hi
    exact Option.some.inj hi
   have hD1:=hD.same s1
   obtain ⟨hd,hqo⟩:=hD1.2 q (List.mem_of_getElem? hq)
   have hle:(edgesD (qs.take i)).length<=62:=by
    have:=(row_const (qs.take i) λz hz=>hok z (List.mem_of_mem_take hz)).2.2
    rw [List.length_take] at this
    omega
   refine ⟨_,rfl,_,rfl,e,q.1,edgesD (qs.take i),q.2,rfl,ge,by omega,hd,hqo,λl' H2 s2 n2 g2=>?_⟩
   refine ⟨l',_,rfl,s1.trans s2,?_⟩
   rw [List.take_add_one,hq]
   show H2 l'=some (.lst ((edgesD (qs.take i++[q])).map V.int))
   rw [edgesD_snoc]
   exact g2
  ·rintro σ H' ⟨e,x2,rfl,s1,ge⟩
   rw [List.take_of_length_le (by rw [List.length_map];exact Nat.le_refl _)] at ge
   have hle:=(row_const qs hok).2.2
   have hdd:=ddup_le (edgesD qs)
   refine ⟨_,rfl,e,edgesD qs,rfl,SqL.of ge,by omega,by omega,λl τ hl hτ hm hτl=>?_⟩
   exact k l _ τ (Same.upd s1 (s1.free hl)) (s1.free hl) upd_same hτ hm (by omega)
end
section
variable {P:Program}{w:World}{K:PySem.W.Frag}{mg:Str->Option Value}{base:Heap}{C:Addr}
def spValue (K:PySem.W.Frag):Sp:=λvs H Q _=>∃ (r:Addr) (x:Int) (qs:List (Addr×Deed)),vs=[.ref r,.int x]/\DeedsAt K H r qs/\Q (valD qs x) H
theorem ok_value {f:Addr}{fd:FuncData} (F:Fun K "_law_value" "_law_value" s_law_value f fd) (T:Txt K mg C):FnOk P w K mg base CX0 1 f fd ["deeds","place"] (spValue K):=by
 refine F.ok sc_law_value (λvs H Q E h=>?_) (λcdv A outer s H vs Q E hr h=>?_)
 ·obtain ⟨r,x,qs,rfl,_⟩:=h
  rfl
 ·obtain ⟨r,x,qs,rfl,⟨hR,hD⟩,k⟩:=h
  refine' ⟨_,pss_cons (ps_for PassesOwn.never rfl (pi_rev rfl T.reversed (pa_cons (pv 0) pa_nil)) (pg_name (i:=2) sc_law_value.nd rfl (Or.inl rfl))
   (pss_one (ps_if ?a1 (pss_cons (ps_set (i:=3) sc_law_value.nd rfl (Or.inl rfl) ?a2) (pss_one (ps_if ?a3 (pss_one (ps_ret ?a4)) pss_nil)))
    (pss_one (ps_if ?b1 (pss_one (ps_if ?b2 (pss_one (ps_set (i:=1) sc_law_value.nd rfl (Or.inl rfl) ?b3)) (pss_one (ps_if ?b4 (pss_one (ps_ret pe_non)) pss_nil))))
     (pss_one (ps_if ?c1 (pss_one (ps_if ?c2 (pss_one (ps_set (i:=1) sc_law_value.nd rfl (Or.inl rfl) ?c3)) pss_nil))
      (pss_one (ps_set (i:=1) sc_law_value.nd rfl (Or.inl rfl) ?d1)))))))))
   (pss_one (ps_ret pe_non)),?rd⟩
  case a1=>exact pt_cmpR op_eq (pe_ix ix_tup (pv 2) pe_int (λ_ _=>rfl)) pe_str (nomark _)
  case a2=>exact pe_or (pe_cmp (pc_isN (pe_ix ix_tup (pv 2) pe_int (λ_ _=>rfl)))) (pe_one (pe_cmpR op_le (pe_ix ix_tup (pv 2) pe_int (λ_ _=>rfl)) (pv 1) (nomark _)))
  case a3=>
   refine' PW.pt (pw_and (pt_val (pv 3)) (pw_and1 ?x))
   case x=>
    refine' PW.pt (pw_or ?y (pw_or1 ?z))
    case y=>exact pt_cmp (pc_isN (pe_ix ix_tup (pv 2) pe_int (λ_ _=>rfl)))
    case z=>exact pt_cmpR op_lt (pv 1) (pe_ix ix_tup (pv 2) pe_int (λ_ _=>rfl)) (nomark _)
  case a4=>exact pe_ix ix_tup (pv 2) pe_int (λ_ _=>rfl)
  case b1=>exact pt_cmpR op_eq (pe_ix ix_tup (pv 2) pe_int (λ_ _=>rfl)) pe_str (nomark _)
  case b2=>exact pt_cmpR op_ge (pv 1) (pe_op op_add (pe_ix ix_tup (pv 2) pe_int (λ_ _=>rfl)) (pe_ix ix_tup (pv 2) pe_int (λ_ _=>rfl))) (nomark _)
  case b3=>exact pe_op op_sub (pv 1) (pe_ix ix_tup (pv 2) pe_int (λ_ _=>rfl))
  case b4=>exact pt_cmpR op_ge (pv 1) (pe_ix ix_tup (pv 2) pe_int (λ_ _=>rfl)) (nomark _)
  case c1=>exact pt_cmpR op_eq (pe_ix ix_tup (pv 2) pe_int (λ_ _=>rfl)) pe_str (nomark _)
  case c2=>exact pt_cmpR op_ge (pv 1) (pe_ix ix_tup (pv 2) pe_int (λ_ _=>rfl)) (nomark _)
  case c3=>exact pe_op op_add (pv 1) (pe_ix ix_tup (pv 2) pe_int (λ_ _=>rfl))
  case d1=>exact pe_op op_fdiv (pv 1) (pe_ix ix_tup (pv 2) pe_int (λ_ _=>rfl))
  case rd=>
  have lenR:(qs.map λq=>V.ref q.1).length=qs.length:=List.length_map ..
  refine ⟨_,rfl,r,_,rfl,hR,?_⟩
  refine for_rev (K:=K) (a:=r) (xs:=qs.map λq=>V.ref q.1) (λi σ H'=>H'=H/\∃ (y:Int) (x2 x3:Option V),σ=[some (.ref r),some (.int y),x2,x3]/\valD qs x=valD (qs.take (qs.length-i)) y) ?_ (λi σ H' _ ⟨e,_⟩=>by rw [e];exact hR) ?_ ?_
  ·exact ⟨rfl,x,none,none,rfl,by rw [Nat.sub_zero,List.take_of_length_le (Nat.le_refl _)]⟩
  ·rintro i v σ H' hi ⟨rfl,y,x2,x3,rfl,hval⟩
   have hil:i<qs.length:=by
    have:=(List.getElem?_eq_some_iff.mp hi).1
    rw [List.length_reverse,lenR] at this
    exact this
   obtain ⟨q,hq⟩:∃ q,qs[qs.length - 1-i]?=some q:=⟨_,List.getElem?_eq_getElem (by omega)⟩
   obtain rfl:V.ref q.1=v:=by
    rw [List.getElem?_reverse (by rw [lenR];exact hil),lenR,List.getElem?_map,hq] at hi
    exact Option.some.inj hi
   obtain ⟨hd,hok⟩:=hD q (List.mem_of_getElem? hq)
   have htk:qs.take (qs.length-i)=qs.take (qs.length-(i+1))++[q]:=by
    rw [show qs.length-i=(qs.length-(i+1))+1 by omega,List.take_add_one,show qs.length-(i+1)=qs.length - 1-i by omega,hq];rfl
   rw [htk,valD_snoc] at hval
   generalize valD (qs.take (qs.length-(i+1)))=g at hval ⊢
   obtain ⟨d,dd⟩:=q
   simp only at hd hok hval ⊢
   cases dd with
   |put s e u=>
    refine ⟨_,rfl,d,_,_,_,rfl,rfl,hd,atN (j:=0) rfl rfl,rfl,_,rfl,iteP (by decide +kernel) ?_⟩
    have hv:valD qs x=putF' s e u g y:=hval
    unfold putF' at hv
    have hin:(∀ a,s=some a->a<=y)->(∀ b,e=some b->y<b)->Q u H':=λh1 h2=>by
     rw [if_pos ⟨h1,h2⟩] at hv
     rw [<-hv];exact k
    have hout:¬ ((∀ a,s=some a->a<=y)/\∀ b,e=some b->y<b)->valD qs x=g y:=λh1=>by
     rw [if_neg h1] at hv
     exact hv
    cases s with
    |none=>
     refine ⟨_,rfl,d,_,_,_,rfl,rfl,hd,atN (j:=1) rfl rfl,true,rfl,iteT ?_⟩
     cases e with
     |none=>exact ⟨_,rfl,true,rfl,iteT ⟨_,rfl,d,_,_,_,rfl,rfl,hd,atN (j:=2) rfl rfl,true,rfl,iteT (iteT ⟨_,rfl,d,_,_,_,rfl,rfl,hd,atN (j:=3) rfl rfl,hin (λ_ z=>nomatch z) λ_ z=>nomatch z⟩)⟩⟩
     |some b=>
      refine ⟨_,rfl,true,rfl,iteT ⟨_,rfl,d,_,_,_,rfl,rfl,hd,atN (j:=2) rfl rfl,false,rfl,iteF ⟨_,rfl,_,rfl,d,_,_,_,rfl,rfl,hd,atN (j:=2) rfl rfl,_,_,rfl,rfl,_,rfl,ite2 (λhc=>?_) (λhc=>?_)⟩⟩⟩
      ·exact ⟨_,rfl,d,_,_,_,rfl,rfl,hd,atN (j:=3) rfl rfl,hin (λ_ z=>nomatch z) λb' z=>by cases z;exact of_decide_eq_true hc⟩
      ·exact ⟨rfl,y,_,_,rfl,hout λz=>hc (decide_eq_true (z.2 b rfl))⟩
    |some a=>
     refine ⟨_,rfl,d,_,_,_,rfl,rfl,hd,atN (j:=1) rfl rfl,false,rfl,iteF ⟨_,rfl,d,_,_,_,rfl,rfl,hd,atN (j:=1) rfl rfl,_,rfl,_,_,rfl,rfl,?_⟩⟩
     cases e with
     |none=>
      refine ⟨_,rfl,_,rfl,ite2 (λhc=>?_) (λhc=>?_)⟩
      ·exact ⟨_,rfl,d,_,_,_,rfl,rfl,hd,atN (j:=2) rfl rfl,true,rfl,iteT (iteT ⟨_,rfl,d,_,_,_,rfl,rfl,hd,atN (j:=3) rfl rfl,hin (λa' z=>by cases z;exact of_decide_eq_true hc) λ_ z=>nomatch z⟩)⟩
      ·exact iteF ⟨rfl,y,_,_,rfl,hout λz=>hc (decide_eq_true (z.1 a rfl))⟩
     |some b=>
      refine ⟨_,rfl,_,rfl,ite2 (λhc=>?_) (λhc=>?_)⟩
      ·refine ⟨_,rfl,d,_,_,_,rfl,rfl,hd,atN (j:=2) rfl rfl,false,rfl,iteF ⟨_,rfl,_,rfl,d,_,_,_,rfl,rfl,hd,atN (j:=2) rfl rfl,_,_,rfl,rfl,_,rfl,ite2 (λhc2=>?_) (λhc2=>?_)⟩⟩
       ·exact ⟨_,rfl,d,_,_,_,rfl,rfl,hd,atN (j:=3) rfl rfl,hin (λa' z=>by cases z;exact of_decide_eq_true hc) λb' z=>by cases z;exact of_decide_eq_true hc2⟩
       ·exact ⟨rfl,y,_,_,rfl,hout λz=>hc2 (decide_eq_true (z.2 b rfl))⟩
      ·exact iteF ⟨rfl,y,_,_,rfl,hout λz=>hc (decide_eq_true (z.1 a rfl))⟩
   |opn p m=>
    have hv:valD qs x=openF .non p m g y:=hval
    have hm:0<=m:=hok
    unfold openF at hv
    refine ⟨_,rfl,d,_,_,_,rfl,rfl,hd,atN (j:=0) rfl rfl,rfl,_,rfl,iteN (by decide +kernel) ?_⟩
    refine ⟨_,rfl,d,_,_,_,rfl,rfl,hd,atN (j:=0) rfl rfl,rfl,_,rfl,iteP (by decide +kernel) ?_⟩
    refine ⟨_,rfl,_,rfl,d,_,_,_,rfl,rfl,hd,atN (j:=1) rfl rfl,_,rfl,d,_,_,_,rfl,rfl,hd,atN (j:=2) rfl rfl,_,_,rfl,rfl,_,_,rfl,rfl,_,rfl,ite2 (λhc=>?_) (λhc=>?_)⟩
    ·have hc':p+m<=y:=of_decide_eq_true hc
     rw [if_neg (by omega),if_neg (by omega)] at hv
     exact ⟨_,rfl,_,rfl,d,_,_,_,rfl,rfl,hd,atN (j:=2) rfl rfl,_,_,rfl,rfl,rfl,y-m,_,_,rfl,hv⟩
    ·have hc':¬ p+m<=y:=λz=>hc (decide_eq_true z)
     refine ⟨_,rfl,_,rfl,d,_,_,_,rfl,rfl,hd,atN (j:=1) rfl rfl,_,_,rfl,rfl,_,rfl,ite2 (λhc2=>?_) (λhc2=>?_)⟩
     ·have hc3:p<=y:=of_decide_eq_true hc2
      rw [if_neg (by omega),if_pos (by omega)] at hv
      rw [hv] at k
      exact k
     ·have hc3:¬ p<=y:=λz=>hc2 (decide_eq_true z)
      rw [if_pos (by omega)] at hv
      exact ⟨rfl,y,_,_,rfl,hv⟩
   |cls p m=>
    have hv:valD qs x=closeF p m g y:=hval
    unfold closeF at hv
    refine ⟨_,rfl,d,_,_,_,rfl,rfl,hd,atN (j:=0) rfl rfl,rfl,_,rfl,iteN (by decide +kernel) ?_⟩
    refine ⟨_,rfl,d,_,_,_,rfl,rfl,hd,atN (j:=0) rfl rfl,rfl,_,rfl,iteN (by decide +kernel) ?_⟩
    refine ⟨_,rfl,d,_,_,_,rfl,rfl,hd,atN (j:=0) rfl rfl,rfl,_,rfl,iteP (by decide +kernel) ?_⟩
    refine ⟨_,rfl,_,rfl,d,_,_,_,rfl,rfl,hd,atN (j:=1) rfl rfl,_,_,rfl,rfl,_,rfl,ite2 (λhc=>?_) (λhc=>?_)⟩
    ·have hc':p<=y:=of_decide_eq_true hc
     rw [if_neg (by omega)] at hv
     exact ⟨_,rfl,_,rfl,d,_,_,_,rfl,rfl,hd,atN (j:=2) rfl rfl,_,_,rfl,rfl,rfl,y+m,_,_,rfl,hv⟩
    ·have hc':¬ p<=y:=λz=>hc (decide_eq_true z)
     rw [if_pos (by omega)] at hv
     exact ⟨rfl,y,_,_,rfl,hv⟩
   |str t=>
    have h1:=hok.1
    have h3:=hok.2
    refine ⟨_,rfl,d,_,_,_,rfl,rfl,hd,atN (j:=0) rfl rfl,rfl,_,rfl,iteN (by decide +kernel) ?_⟩
    refine ⟨_,rfl,d,_,_,_,rfl,rfl,hd,atN (j:=0) rfl rfl,rfl,_,rfl,iteN (by decide +kernel) ?_⟩
    refine ⟨_,rfl,d,_,_,_,rfl,rfl,hd,atN (j:=0) rfl rfl,rfl,_,rfl,iteN (by decide +kernel) ?_⟩
    exact ⟨_,rfl,_,rfl,d,_,_,_,rfl,rfl,hd,atN (j:=1) rfl rfl,_,_,rfl,rfl,⟨by omega,by omega⟩,rfl,y / t,_,_,rfl,hval⟩
  ·rintro σ H' ⟨rfl,y,x2,x3,rfl,hval⟩
   have e:qs.take (qs.length-(qs.map λq=>V.ref q.1).length)=[]:=by rw [lenR,Nat.sub_self];rfl
   rw [e] at hval
   have k':Q (valD [] y) H':=hval ▸ k
   exact k'
end
section
variable {P:Program}{w:World}{K:PySem.W.Frag}{mg:Str->Option Value}{base:Heap}{C:Addr}
def spDue (K:PySem.W.Frag):Sp:=λvs H Q _=>∃ (r:Addr) (qs:List (Addr×Deed)),vs=[.ref r]/\DeedsAt K H r qs/\qs.length<=31/\
 ∀ (du:Addr) (H':Hp) (v':V) (ps:List (Int×V)),Same H H'->ToldNew H H' du v' ps->Form v' ps->ps.length<=63->(∀ x,atL v' ps x=valD qs x)->Q (.ref du) H'
theorem ok_due {f:Addr}{fd:FuncData} (F:Fun K "_law_due" "_law_due" s_law_due f fd) (T:Txt K mg C) (DE:Def P w K mg base "_law_edges" ["deeds"] 2 (spEdgesAll K)) (DV:Def P w K mg base "_law_value" ["deeds","place"] 1 (spValue K)) :
  FnOk P w K mg base CX0 3 f fd ["deeds"] (spDue K):=by
 refine F.ok sc_law_due (λvs H Q E h=>?_) (λcdv A outer s H vs Q E hr h=>?_)
 ·obtain ⟨r,qs,rfl,_⟩:=h
  rfl
 ·obtain ⟨r,qs,rfl,hD,hlen,k⟩:=h
  have hr1:Room 1 _:=hr.mono (by decide)
  have hu:=hu16 hr
  refine' ⟨_,pss_cons (ps_set (i:=1) sc_law_due.nd rfl (Or.inl rfl) (pe_callD DE hr rfl (pa_cons (pv 0) pa_nil)))
   (pss_cons (ps_if ?d2 (pss_one (ps_ret ?d3)) pss_nil)
   (pss_cons (ps_set (i:=2) sc_law_due.nd rfl (Or.inl rfl) (pe_lst pa_nil))
   (pss_cons (ps_set (i:=3) sc_law_due.nd rfl (Or.inl rfl) ?e1)
   (pss_cons (ps_for PassesOwn.never rfl (pi_list (pv 1)) (pg_name (i:=4) sc_law_due.nd rfl (Or.inl rfl))
    (pss_cons (ps_set (i:=5) sc_law_due.nd rfl (Or.inl rfl) ?f1)
    (pss_one (ps_if ?f2 (pss_cons (ps_expr ?f3) (pss_one (ps_expr ?f4))) pss_nil))))
   (pss_one (ps_ret (pe_tup (pa_cons (pv 2) (pa_cons (pv 3) pa_nil))))))))),?rd⟩
  case d2=>exact pt_cmpR (op_eqD hu) (pv 1) (pe_lst pa_nil) (nomark _)
  case d3=>exact pe_tup (pa_cons (pe_lst pa_nil) (pa_cons (pe_lst (pa_cons (pe_callD DV hr1 rfl (pa_cons (pv 0) (pa_cons pe_int pa_nil))) pa_nil)) pa_nil))
  case e1=>exact pe_lst (pa_cons (pe_callD DV hr1 rfl (pa_cons (pv 0) (pa_cons (pe_op op_sub (pe_ix ix_list (pv 1) pe_int (λ_ _=>rfl)) pe_int) pa_nil))) pa_nil)
  case f1=>exact pe_callD DV hr1 rfl (pa_cons (pv 0) (pa_cons (pv 4) pa_nil))
  case f2=>exact pt_cmpR op_ne (pv 5) (pe_ix ix_list (pv 3) (pe_un un_neg pe_int) (λ_ _=>rfl)) (nomark _)
  case f3=>exact pe_bm PySem.F.plainAttrs_list PySem.F.slot_list_append PySem.F.type_list_append mt_append (pv 2) (pa_cons (pv 4) pa_nil)
  case f4=>exact pe_bm PySem.F.plainAttrs_list PySem.F.slot_list_append PySem.F.type_list_append mt_append (pv 3) (pa_cons (pv 5) pa_nil)
  case rd=>
  obtain ⟨hcon,hhv,_⟩:=row_const qs λq hq=>(hD.2 q hq).2
  refine ⟨_,rfl,r,qs,rfl,hD,hlen,λed H2 τ s3 ned ge hτ hm hτl=>?_⟩
  refine ⟨_,rfl,Nat.zero_le _,λem hem=>?_⟩
  have s4:Same H (upd H2 em (.lst [])):=Same.upd s3 (s3.free hem)
  have ge4:(upd H2 em (.lst [])) ed=some (.lst (τ.map V.int)):=by rw [upd_ne (ne_of_none ge hem)];exact ge
  have hE:=eqd_flat (K:=K) (SqL.of ge4) (SqL.of (upd_same (H:=H2) (a:=em) (o:=.lst []))) ints_flat (λy hy=>nomatch hy)
  generalize upd H2 em (.lst [])=H3 at s4 ge4 hE ⊢
  obtain ⟨hF,hat⟩:=edges_form hcon hhv hτ hm
  cases τ with
  |nil=>
   refine ⟨1,_,by decide,hE,true,rfl,iteT ?_⟩
   refine ⟨Nat.zero_le _,λcu hcu=>?_⟩
   have s5:Same H3 (upd H3 cu (.lst [])):=Same.new hcu
   have s05:=s4.trans s5
   refine ⟨_,rfl,r,0,qs,rfl,hD.same s05,smallL (by show 1<=2000;decide),λho hho=>⟨smallL (by show 2<=2000;decide),λdu hdu=>?_⟩⟩
   have hho3:H3 ho=none:=s5.free hho
   have nch:cu≠ho:=λe=>by rw [<-e,upd_same] at hho;cases hho
   have s6:Same H3 (upd (upd H3 cu (.lst [])) ho (.lst [valD qs 0])):=Same.upd s5 hho3
   have gcu:(upd (upd H3 cu (.lst [])) ho (.lst [valD qs 0])) cu=some (.lst []):=by rw [upd_ne nch,upd_same]
   have gho:(upd (upd H3 cu (.lst [])) ho (.lst [valD qs 0])) ho=some (.lst [valD qs 0]):=upd_same
   generalize upd (upd H3 cu (.lst [])) ho (.lst [valD qs 0])=H4 at s6 gcu gho hdu ⊢
   refine k du _ (valD qs 0) [] (Same.upd (s4.trans s6) (s4.free (s6.free hdu))) ⟨cu,ho,s4.free (s6.free hdu),s4.free hcu,s4.free hho3,nch,upd_same,?_,?_⟩ hF (Nat.zero_le _) hat
   ·rw [upd_ne (ne_of_none gcu hdu)];exact gcu
   ·rw [upd_ne (ne_of_none gho hdu)];exact gho
  |cons z0 τ0=>
  have e0:eqVs ((z0::τ0).map V.int) []=false:=by simp [eqVs]
  rw [e0] at hE
  refine ⟨1,_,by decide,hE,false,rfl,iteF ?_⟩
  have hw:valD qs (firstOf (z0::τ0))=valD qs (z0 - 1):=rfl
  generalize hττ:z0::τ0=τ at ge4 hτ hm hτl hF hat hw
  have g0:(τ.map V.int)[0]?=some (V.int z0):=by rw [<-hττ];rfl
  clear hττ ge hE e0
  refine ⟨Nat.zero_le _,λcu hcu=>?_⟩
  have s5:Same H3 (upd H3 cu (.lst [])):=Same.new hcu
  have s05:Same H (upd H3 cu (.lst [])):=s4.trans s5
  refine ⟨_,rfl,_,rfl,ed,_,_,.int z0,rfl,rfl,SqL.of (s5 _ _ ge4),atN (j:=0) rfl g0,_,_,rfl,rfl,r,z0 - 1,qs,rfl,hD.same s05,smallL (by show 1<=2000;decide),λho hho=>?_⟩
  rw [<-hw]
  have hcu0:H cu=none:=s4.free hcu
  have hho3:H3 ho=none:=s5.free hho
  have hho0:H ho=none:=s4.free hho3
  have nch:cu≠ho:=λe=>by rw [<-e,upd_same] at hho;cases hho
  have hwv:HV (valD qs (firstOf τ)):=hhv _
  clear hw
  generalize valD qs (firstOf τ)=w at hF hat hwv ⊢
  have s6:Same H3 (upd (upd H3 cu (.lst [])) ho (.lst [w])):=Same.upd s5 hho3
  have nce:cu≠ed:=(ne_of_none ge4 hcu).symm
  have nhe:ho≠ed:=(ne_of_none ge4 hho3).symm
  refine ⟨_,rfl,ed,rfl,⟨_,SqL.of (s6 _ _ ge4)⟩,?_⟩
  refine for_list (K:=K) (a:=ed) (xs:=τ.map V.int) (λi σ H4=>∃ (kp:List (Int×V)) (x6 x7:Option V),σ=[some (.ref r),some (.ref ed),some (.ref cu),some (.ref ho),x6,x7]/\Same H H4/\
   H4 ed=some (.lst (τ.map V.int))/\H4 cu=some (.lst (cutsV kp))/\H4 ho=some (.lst (holdsV w kp))/\Holds w kp/\kp.length<=i/\kp++formE (valD qs) (lastH w kp) (τ.drop i)=formE (valD qs) w τ) ?_ (λi σ H2 _ ⟨_,_,_,_,_,h,_⟩=>SqL.of h) ?_ ?_
  ·exact ⟨[],none,none,rfl,s4.trans s6,s6 _ _ ge4,by rw [upd_ne nch,upd_same];rfl,upd_same,⟨hwv,λq hq=>nomatch hq⟩,Nat.le_refl _,rfl⟩
  ·rintro i y σ H4 hi ⟨kp,x6,x7,rfl,s7,h3s,h3c,h3h,hkp,hki,hform⟩
   have hil:=(List.getElem?_eq_some_iff.mp hi).1
   rw [List.length_map] at hil
   obtain ⟨z,hz⟩:∃ z,τ[i]?=some z:=⟨_,List.getElem?_eq_getElem hil⟩
   obtain rfl:V.int z=y:=by
    rw [List.getElem?_map,hz] at hi
    exact Option.some.inj hi
   have hdrop:τ.drop i=z::τ.drop (i+1):=by
    rw [List.drop_eq_getElem_cons hil]
    congr 1
    have:=List.getElem?_eq_getElem hil
    rw [hz] at this
    exact (Option.some.inj this).symm
   refine ⟨_,rfl,_,rfl,r,z,qs,rfl,hD.same s7,?_⟩
   have hat:HV (valD qs z):=hhv z
   refine ⟨_,rfl,_,rfl,_,rfl,ho,_,_,_,rfl,rfl,SqL.of h3h,atI_lastH w kp,hat.scal (lastH_hv hkp),_,rfl,ite2 (λhc=>?_) (λhc=>?_)⟩
   ·have hne:valD qs z≠lastH w kp:=λe=>by
     rw [decide_eq_true e] at hc
     cases hc
    refine ⟨_,rfl,.inl ⟨rfl,_,SqL.of h3c⟩,_,rfl,cu,_,_,rfl,rfl,h3c,small (by rw [List.length_map];omega),?_⟩
    have h4h:(upd H4 cu (.lst (cutsV kp++[.int z]))) ho=some (.lst (holdsV w kp)):=by rw [upd_ne nch.symm];exact h3h
    refine ⟨_,rfl,.inl ⟨rfl,_,SqL.of h4h⟩,_,rfl,ho,_,_,rfl,rfl,h4h,small (by show (kp.map _).length+1<=2000;rw [List.length_map];omega),?_⟩
    refine ⟨kp++[(z,valD qs z)],_,_,rfl,Same.upd (Same.upd s7 hcu0) hho0,?_,?_,?_,⟨hkp.h0,λq hq=>?_⟩,?_,?_⟩
    ·rw [upd_ne nhe.symm,upd_ne nce.symm];exact h3s
    ·rw [upd_ne nch,upd_same]
     show _=some (HO.lst ((kp++[(z,valD qs z)]).map _))
     rw [List.map_append];rfl
    ·rw [upd_same]
     show _=some (HO.lst (w::(kp++[(z,valD qs z)]).map _))
     rw [List.map_append];rfl
    ·rcases List.mem_append.mp hq with z1|z1
     ·exact hkp.hs q z1
     ·rw [List.mem_singleton.mp z1];exact hat
    ·rw [List.length_append,List.length_singleton];omega
    ·rw [lastH_snoc,<-hform,hdrop]
     show _=kp++(if valD qs z≠lastH w kp then (z,valD qs z)::formE (valD qs) (valD qs z) (τ.drop (i+1)) else _)
     rw [if_pos hne,List.append_assoc];rfl
   ·refine ⟨kp,_,_,rfl,s7,h3s,h3c,h3h,hkp,by omega,?_⟩
    rw [<-hform,hdrop]
    show _=kp++(if valD qs z≠lastH w kp then _ else formE (valD qs) (lastH w kp) (τ.drop (i+1)))
    rw [if_neg]
    intro z1
    refine hc ?_
    rw [decide_eq_false z1];rfl
  ·rintro σ H4 ⟨kp,x6,x7,rfl,s7,h3s,h3c,h3h,hkp,hki,hform⟩
   have e:τ.drop (τ.map V.int).length=[]:=List.drop_eq_nil_of_le (by rw [List.length_map];exact Nat.le_refl _)
   rw [e] at hform
   have e2:formE (valD qs) w τ=kp:=by
    rw [<-hform]
    show kp++[]=kp
    rw [List.append_nil]
   rw [e2] at hF hat
   refine ⟨_,rfl,_,rfl,smallL (by show 2<=2000;decide),λdu hdu=>?_⟩
   refine k du _ w kp (Same.upd s7 (s7.free hdu)) ⟨cu,ho,s7.free hdu,hcu0,hho0,nch,upd_same,?_,?_⟩ hF (by rw [List.length_map] at hki;omega) hat
   ·rw [upd_ne (ne_of_none h3c hdu)];exact h3c
   ·rw [upd_ne (ne_of_none h3h hdu)];exact h3h
end
section
variable {P:Program}{w:World}{K:PySem.W.Frag}{mg:Str->Option Value}{base:Heap}{C:Addr}
theorem ok_cell_at {f:Addr}{fd:FuncData} (F:Fun K "_law_cell_at" "_law_cell_at" s_law_cell_at f fd) (T:Txt K mg C):FnOk P w K mg base CX0 1 f fd ["script","k"] (spCellAt K):=by
 refine F.ok sc_law_cell_at (λvs H Q E h=>?_) (λcdv A outer s H vs Q E hr h=>?_)
 ·obtain ⟨a,ns,k,rfl,_⟩:=h
  rfl
 ·obtain ⟨a,ns,k,rfl,hS,hlen,q⟩:=h
  refine ⟨_,pss_cons (ps_if (pt_cmpR op_lt (pv 1) (pe_callB call_len_seq rfl T.len PySem.boot_len (pa_cons (pv 0) pa_nil)) (nomark _)) (pss_one (ps_ret (pe_ix ix_list (pv 0) (pv 1) (λ_ _=>rfl)))) pss_nil) (pss_one (ps_ret pe_int)),?_⟩
  have lenC:(ns.map V.int).length=ns.length:=List.length_map ..
  refine ⟨_,rfl,_,rfl,a,_,rfl,.inl hS,_,_,rfl,rfl,_,rfl,ite2 (λhc=>?_) (λhc=>?_)⟩
  ·have hk:k<ns.length:=by
    have:=of_decide_eq_true hc
    omega
   refine ⟨_,rfl,_,rfl,a,_,_,.int (ns.getD k 0),rfl,rfl,hS,atI_nat ?_,q⟩
   rw [List.getElem?_map,List.getElem?_eq_getElem hk,List.getD_eq_getElem?_getD,List.getElem?_eq_getElem hk]
   rfl
  ·have hk:¬ k<ns.length:=by
    have:=of_decide_eq_false (Bool.eq_false_iff.mpr hc)
    omega
   have e:ns.getD k 0=0:=by
    rw [List.getD_eq_getElem?_getD,List.getElem?_eq_none (by omega)];rfl
   rw [e] at q
   exact q
theorem ok_held {f:Addr}{fd:FuncData} (F:Fun K "_law_held" "_law_held" s_law_held f fd) (T:Txt K mg C):FnOk P w K mg base CX0 1 f fd ["found","due"] spHeld:=by
 refine F.ok sc_law_held (λvs H Q E h=>?_) (λcdv A outer s H vs Q E hr h=>?_)
 ·obtain ⟨v,u,rfl,_⟩:=h
  rfl
 ·obtain ⟨v,u,rfl,hv,hu,k⟩:=h
  obtain ⟨t,ty,_,_,_,k4⟩:=hv.ty (K:=K) (H:=H)
  refine ⟨_,pss_cons (ps_if (pt_cmp (pc_isN (pv 1))) (pss_one (ps_ret (pe_cmp (pc_isN (pv 0))))) pss_nil)
   (pss_one (ps_ret (pe_and (pe_callB call_isinst rfl T.isinstance boot_isinstance (pa_cons (pv 0) (pa_cons (pe_bltn rfl T.str boot_str (v:=.ty "str") rfl) pa_nil))) (pe_one (pe_cmpR op_eq (pv 0) (pv 1) (nomark _)))))),?_⟩
  refine ⟨_,rfl,_,rfl,ite2 (λhc=>?_) (λhc=>?_)⟩
  ·have e:u=.non:=of_decide_eq_true hc
   subst e
   exact ⟨_,rfl,k⟩
  ·have e:u≠.non:=of_decide_eq_false (Bool.eq_false_iff.mpr hc)
   refine ⟨_,rfl,_,_,_,_,_,rfl,ty,rfl,k4,_,rfl,andV (decide (v=u)) (λ_ Q' q'=>⟨_,rfl,_,rfl,hv.scal hu,q'⟩) ?_⟩
   have e2:(decide (v≠V.non) && decide (v=u))=decide (v=u):=by
    by_cases hvu:v=u
    ·subst hvu;simp [e]
    ·simp [hvu]
   rw [e2]
   exact k
def spWhole:Sp:=λvs H Q _=>∃ i:Int,vs=[.int i]/\Q (.bl true) H
theorem ok_whole {f:Addr}{fd:FuncData} (F:Fun K "_law_whole" "_law_whole" s_law_whole f fd) (T:Txt K mg C):FnOk P w K mg base CX0 1 f fd ["found"] spWhole:=by
 refine F.ok sc_law_whole (λvs H Q E h=>?_) (λcdv A outer s H vs Q E hr h=>?_)
 ·obtain ⟨i,rfl,_⟩:=h
  rfl
 ·obtain ⟨i,rfl,k⟩:=h
  refine ⟨_,pss_one (ps_ret (pe_and (pe_callB call_isinst rfl T.isinstance boot_isinstance (pa_cons (pv 0) (pa_cons (pe_bltn rfl T.int boot_int (v:=.ty "int") rfl) pa_nil)))
   (pe_one (pe_not (pe_callB call_isinst rfl T.isinstance boot_isinstance (pa_cons (pv 0) (pa_cons (pe_bltn rfl T.bool boot_bool (v:=.ty "bool") rfl) pa_nil))))))),?_⟩
  exact ⟨_,rfl,_,_,_,_,_,rfl,TyOf.int i,rfl,kit_II,true,rfl,iteT ⟨_,rfl,_,_,_,_,_,rfl,TyOf.int i,rfl,kit_IB,false,rfl,k⟩⟩
def spLine (K:PySem.W.Frag) (C:Addr):Sp:=λvs H Q _=>∃ (p t:Addr) (v:V) (ps:List (Int×V)),vs=[.ref p,.ref t]/\LineAt C H p v ps/\ToldAt K H t v ps/\Holds v ps/\ps.length<=1000/\Q (.bl true) H
theorem ok_line {f:Addr}{fd:FuncData} (F:Fun K "_law_line" "_law_line" s_law_line f fd) (T:Txt K mg C) (DW:Def P w K mg base "_law_whole" ["found"] 1 spWhole) (DH:Def P w K mg base "_law_held" ["found","due"] 1 spHeld) :
  FnOk P w K mg base CX0 2 f fd ["found","due"] (spLine K C):=by
 refine F.ok sc_law_line (λvs H Q E h=>?_) (λcdv A outer s H vs Q E hr h=>?_)
 ·obtain ⟨p,t,v,ps,rfl,_⟩:=h
  rfl
 ·obtain ⟨p,t,v,ps,rfl,⟨dx,a,b,h1,h2,h3⟩,⟨ca,ho,gt,gc,gh⟩,hh,hlen,k⟩:=h
  refine' ⟨_,pss_cons (ps_if ?a1 (pss_one (ps_ret pe_bl)) pss_nil)
   (pss_cons (ps_if ?a2 (pss_one (ps_ret pe_bl)) pss_nil)
   (pss_cons (ps_for PassesOwn.never rfl ?b1 (pg_name (i:=2) sc_law_line.nd rfl (Or.inl rfl)) (pss_one (ps_if ?b2 (pss_one (ps_ret pe_bl)) pss_nil)))
   (pss_cons (ps_for PassesOwn.never rfl ?c1 (pg_name (i:=2) sc_law_line.nd rfl (Or.inl rfl)) (pss_one (ps_if ?c2 (pss_one (ps_ret pe_bl)) pss_nil)))
   (pss_one (ps_ret pe_bl))))),?rd⟩
  case a1=>
   refine' PW.pt (pw_or (pt_not (pt_val ?x)) (pw_or (pt_not (pt_val ?y)) (pw_or1 (pt_not (pt_val ?z)))))
   case x=>exact pe_callB call_isinst rfl T.isinstance boot_isinstance (pa_cons (pv 0) (pa_cons (pe_glob rfl T.mgC (v:=.ref C) rfl) pa_nil))
   case y=>exact pe_callB call_isinst rfl T.isinstance boot_isinstance (pa_cons (pe_fld (pv 0) rfl) (pa_cons (pe_bltn rfl T.list boot_list (v:=.ty "list") rfl) pa_nil))
   case z=>exact pe_callB call_isinst rfl T.isinstance boot_isinstance (pa_cons (pe_fld (pv 0) rfl) (pa_cons (pe_bltn rfl T.list boot_list (v:=.ty "list") rfl) pa_nil))
  case a2=>
   refine' PW.pt (pw_or ?x (pw_or1 ?y))
   case x=>exact pt_cmpR op_ne (pe_callB call_len_seq rfl T.len PySem.boot_len (pa_cons (pe_fld (pv 0) rfl) pa_nil)) (pe_callB call_len_seq rfl T.len PySem.boot_len (pa_cons (pe_ix ix_tup (pv 1) pe_int (λ_ _=>rfl)) pa_nil)) (nomark _)
   case y=>exact pt_cmpR op_ne (pe_callB call_len_seq rfl T.len PySem.boot_len (pa_cons (pe_fld (pv 0) rfl) pa_nil)) (pe_callB call_len_seq rfl T.len PySem.boot_len (pa_cons (pe_ix ix_tup (pv 1) pe_int (λ_ _=>rfl)) pa_nil)) (nomark _)
  case b1=>exact pi_range1 rfl T.range (pa_cons (pe_callB call_len_seq rfl T.len PySem.boot_len (pa_cons (pe_ix ix_tup (pv 1) pe_int (λ_ _=>rfl)) pa_nil)) pa_nil)
  case b2=>
   refine' PW.pt (pw_or (pt_not (pt_val ?x)) (pw_or1 ?y))
   case x=>exact pe_callD DW hr rfl (pa_cons (pe_ix ix_list (pe_fld (pv 0) rfl) (pv 2) (λ_ _=>rfl)) pa_nil)
   case y=>exact pt_cmpR op_ne (pe_ix ix_list (pe_fld (pv 0) rfl) (pv 2) (λ_ _=>rfl)) (pe_ix ix_list (pe_ix ix_tup (pv 1) pe_int (λ_ _=>rfl)) (pv 2) (λ_ _=>rfl)) (nomark _)
  case c1=>exact pi_range1 rfl T.range (pa_cons (pe_callB call_len_seq rfl T.len PySem.boot_len (pa_cons (pe_ix ix_tup (pv 1) pe_int (λ_ _=>rfl)) pa_nil)) pa_nil)
  case c2=>
   refine' pt_not (pt_val ?x)
   case x=>exact pe_callD DH hr rfl (pa_cons (pe_ix ix_list (pe_fld (pv 0) rfl) (pv 2) (λ_ _=>rfl)) (pa_cons (pe_ix ix_list (pe_ix ix_tup (pv 1) pe_int (λ_ _=>rfl)) (pv 2) (λ_ _=>rfl)) pa_nil))
  case rd=>
  have lenC:(cutsV ps).length=ps.length:=List.length_map ..
  have lenH:(holdsV v ps).length=ps.length+1:=by show (ps.map _).length+1=_;rw [List.length_map]
  refine ⟨_,rfl,_,_,_,_,_,rfl,TyOf.ins h1 T.cl T.ty1 T.ty2 T.ty3 T.ty4,rfl,kit_own,true,rfl,iteN (by decide) ?_⟩
  refine ⟨_,rfl,p,C,dx,_,_,rfl,h1,T.cl,T.nC,flds_cuts _ _,_,_,_,_,_,rfl,TyOf.lst h2,rfl,kit_LL,true,rfl,iteN (by decide) ?_⟩
  refine ⟨_,rfl,p,C,dx,_,_,rfl,h1,T.cl,T.nH,flds_holds _ _,_,_,_,_,_,rfl,TyOf.lst h3,rfl,kit_LL,true,rfl,iteN (by decide) ?_⟩
  refine ⟨_,rfl,p,C,dx,_,_,rfl,h1,T.cl,T.nC,flds_cuts _ _,a,_,rfl,.inl (SqL.of h2),_,rfl,t,_,_,.ref ca,rfl,rfl,gt,atN (j:=0) rfl rfl,ca,_,rfl,.inl gc,rfl,_,rfl,iteNS rfl ?_⟩
  refine ⟨_,rfl,p,C,dx,_,_,rfl,h1,T.cl,T.nH,flds_holds _ _,b,_,rfl,.inl (SqL.of h3),_,rfl,t,_,_,.ref ho,rfl,rfl,gt,atN (j:=1) rfl rfl,ho,_,rfl,.inl gh,rfl,_,rfl,iteNS rfl ?_⟩
  refine ⟨_,rfl,t,_,_,.ref ca,rfl,rfl,gt,atN (j:=0) rfl rfl,ca,_,rfl,.inl gc,_,rfl,by omega,by rw [lenC];omega,?_⟩
  rw [show (((cutsV ps).length:Nat):Int).toNat=ps.length by rw [lenC];omega]
  refine for_range (λi σ H'=>H'=H/\∃ m,σ=[some (.ref p),some (.ref t),m]) ⟨rfl,none,rfl⟩ ?_ ?_
  ·rintro i σ H' hi ⟨rfl,m,rfl⟩
   obtain ⟨q,hq⟩:∃ q,ps[i]?=some q:=⟨_,List.getElem?_eq_getElem hi⟩
   have hc:(cutsV ps)[i]?=some (V.int q.1):=by rw [List.getElem?_map,hq];rfl
   refine ⟨_,rfl,p,C,dx,_,_,rfl,h1,T.cl,T.nC,flds_cuts _ _,_,rfl,a,_,_,.int q.1,rfl,rfl,SqL.of h2,atN (j:=i) (by omega) hc,_,rfl,true,rfl,iteN (by decide) ?_⟩
   refine ⟨_,rfl,p,C,dx,_,_,rfl,h1,T.cl,T.nC,flds_cuts _ _,_,rfl,a,_,_,.int q.1,rfl,rfl,SqL.of h2,atN (j:=i) (by omega) hc,_,rfl,t,_,_,.ref ca,rfl,rfl,gt,atN (j:=0) rfl rfl,_,rfl,ca,_,_,.int q.1,rfl,rfl,gc,atN (j:=i) (by omega) hc,rfl,_,rfl,iteNS rfl ⟨rfl,_,rfl⟩⟩
  ·rintro σ H' ⟨rfl,m,rfl⟩
   refine ⟨_,rfl,t,_,_,.ref ho,rfl,rfl,gt,atN (j:=1) rfl rfl,ho,_,rfl,.inl gh,_,rfl,by omega,by rw [lenH];omega,?_⟩
   rw [show (((holdsV v ps).length:Nat):Int).toNat=ps.length+1 by rw [lenH];omega]
   refine for_range (λi σ H''=>H''=H'/\∃ m,σ=[some (.ref p),some (.ref t),m]) ⟨rfl,m,rfl⟩ ?_ ?_
   ·rintro i σ H'' hi ⟨rfl,m,rfl⟩
    obtain ⟨u,hu⟩:∃ u,(holdsV v ps)[i]?=some u:=⟨_,List.getElem?_eq_getElem (by rw [lenH];exact hi)⟩
    have huv:HV u:=by
     rcases List.mem_cons.mp (List.mem_of_getElem? hu) with e|e
     ·rw [e];exact hh.h0
     ·obtain ⟨q,hq,e⟩:=List.mem_map.mp e
      rw [<-e];exact hh.hs q hq
    exact ⟨_,rfl,p,C,dx,_,_,rfl,h1,T.cl,T.nH,flds_holds _ _,_,rfl,b,_,_,u,rfl,rfl,SqL.of h3,atN (j:=i) (by omega) hu,_,rfl,t,_,_,.ref ho,rfl,rfl,gt,atN (j:=1) rfl rfl,_,rfl,ho,_,_,u,rfl,rfl,gh,atN (j:=i) (by omega) hu,_,_,rfl,huv,huv,_,rfl,iteNS rfl ⟨rfl,_,rfl⟩⟩
   ·rintro σ H'' ⟨rfl,m,rfl⟩
    exact k
theorem ok_empty {f:Addr}{fd:FuncData} (F:Fun K "empty_line" "empty_line" s_empty_line f fd) (DL:Def P w K mg base "line_of" ["cuts","holds"] 3 (spLineOf K C)):FnOk P w K mg base CX0 4 f fd [] (spEmpty C):=by
 refine F.ok sc_empty_line (λvs H Q E h=>?_) (λcdv A outer s H vs Q E hr h=>?_)
 ·obtain ⟨rfl,_⟩:=h
  rfl
 ·obtain ⟨rfl,k⟩:=h
  refine ⟨_,pss_one (ps_ret (pe_callD DL hr rfl (pa_cons (pe_lst pa_nil) (pa_cons (pe_lst (pa_cons pe_non pa_nil)) pa_nil)))),?_⟩
  refine ⟨Nat.zero_le _,λl1 h1=>⟨smallL (by show 1<=2000;decide),λl2 h2=>⟨l1,l2,.non,[],rfl,?_,SqL.of upd_same,⟨HV.non,λq hq=>nomatch hq⟩,Nat.zero_le _,λp H' s' ln=>?_⟩⟩⟩
  ·refine SqL.of ?_
   rw [upd_ne λe=>by rw [<-e,upd_same] at h2;cases h2]
   exact upd_same
  ·have s2:Same H (upd (upd H l1 (.lst [])) l2 (.lst [.non])):=Same.upd (Same.new h1) ((Same.new h1).free h2)
   exact k p H' (s2.trans s') (ln.from s2)
end
section
variable {P:Program}{w:World}{K:PySem.W.Frag}{mg:Str->Option Value}{base:Heap}{C:Addr}
abbrev scN:Scope:={ kind:=.function,names:=[(".0",.local),("k",.local),("first",.free)],isGenerator:=false,isCoroutine:=false,more:=[] }
theorem cs_names:CScope (defScope s_law_names) scN ["cell","letters","first","size"] ["k","first"] [2] "k":=
 ⟨rfl,by decide +kernel,by decide +kernel,by decide +kernel,by decide +kernel,rfl,by decide +kernel,by decide +kernel,by decide +kernel,by decide +kernel⟩
theorem ok_names {f:Addr}{fd:FuncData} (F:Fun K "_law_names" "_law_names" s_law_names f fd) (T:Txt K mg C):FnOk P w K mg base CX0 1 f fd ["cell"] spNames:=by
 refine F.ok sc_law_names (λvs H Q E h=>?_) (λcdv A outer s H vs Q E hr h=>?_)
 ·obtain ⟨c,rfl,_⟩:=h
  rfl
 ·obtain ⟨c,rfl,k⟩:=h
  refine' ⟨_,pss_cons (ps_set (i:=1) sc_law_names.nd rfl (Or.inl rfl) pe_str)
   (pss_cons (ps_set (i:=2) sc_law_names.nd rfl (Or.inr rfl) ?u1)
   (pss_cons (ps_set (i:=3) sc_law_names.nd rfl (Or.inl rfl) (pe_op op_add pe_int (pe_op op_mod (pe_op op_fdiv (pv 0) pe_int) pe_int)))
   (pss_one (ps_ret (pe_lst (pa_cons pe_non (pa_cons (pv 2) (pa_cons ?u2 (pa_cons ?u3 pa_nil))))))))),?_⟩
  case u1=>
   refine' pe_ix ix_str ?v1 ?v2 (λ_ _=>rfl)
   case v1=>exact pv 1
   case v2=>exact pe_op op_mod (pv 0) pe_int
  case u2=>
   refine' pe_op op_add_str ?v1 ?v2
   case v2=>exact pe_str
   case v1=>
    refine' pe_bm PySem.F.plainAttrs_str PySem.F.slot_str_join PySem.F.type_str_join mt_join ?w1 ?w2
    case w1=>exact pe_str
    case w2=>
     refine' pa_cons ?z1 pa_nil
     case z1=>
      refine' pe_comp cs_names rfl rfl rfl ?y1 ?y2 ?y3
      case y1=>exact pi_range1 rfl T.range (pa_cons (pv 3) pa_nil)
      case y2=>exact λ_ _ _ _ _=>pf_nil
      case y3=>exact λ_ _ _ _ _=>pv 1
  case u3=>
   refine' pe_ix ix_str ?v1 ?v2 (λ_ _=>rfl)
   case v1=>exact pv 1
   case v2=>exact pe_op op_mod (pe_op op_add (pv 0) pe_int) pe_int
  obtain ⟨c1,e1⟩:=letter_at (Int.emod_nonneg c (by decide:(26:Int)≠0)) (Int.emod_lt_of_pos c (by decide))
  obtain ⟨c2,e2⟩:=letter_at (Int.emod_nonneg (c+5) (by decide:(26:Int)≠0)) (Int.emod_lt_of_pos (c+5) (by decide))
  have m0:=Int.emod_nonneg (c / 26) (by decide:(12:Int)≠0)
  have m1:=Int.emod_lt_of_pos (c / 26) (by decide:(0:Int)<12)
  refine ⟨_,rfl,_,rfl,_,_,rfl,rfl,(by show (0:Int)<26;decide),_,_,c1,rfl,rfl,letters_len,e1,?_⟩
  refine ⟨_,rfl,_,_,rfl,rfl,⟨by decide,by decide⟩,_,_,rfl,rfl,(by show (0:Int)<12;decide),_,_,rfl,rfl,?_⟩
  refine ⟨_,rfl,rfl,_,rfl,_,rfl,by omega,by omega,?_⟩
  refine comp_rng (js:=[2]) (tt:=tAll) (te:=tVar 1) (lo:=0) (n:=(1+c / 26 % 12).toNat) (λ_=>V.str ⟨#[c1]⟩) ?h1 ?h2 ?h3 ?h4
  case h1=>omega
  case h2=>exact λi H2 Q' _ _ q=>q
  case h3=>exact λi H2 Q' _ _ q=>⟨_,rfl,q⟩
  case h4=>
  intro l hl
  have hz:(((List.replicate (1+c / 26 % 12).toNat (⟨#[c1]⟩:Str))).map (·.length)).sum+(List.replicate (1+c / 26 % 12).toNat (⟨#[c1]⟩:Str)).length * ("":Str).length<=100:=by
   rw [List.map_replicate,List.length_replicate]
   have e:("":Str).length=0:=by decide +kernel
   have e3:(⟨#[c1]⟩:Str).length=1:=rfl
   rw [e,e3,Nat.mul_zero,List.sum_replicate_nat]
   omega
  have hj:=join_len "" (List.replicate (1+c / 26 % 12).toNat (⟨#[c1]⟩:Str))
  refine ⟨"",l,List.replicate (1+c / 26 % 12).toNat ⟨#[c1]⟩,rfl,rfl,SqL.of ?_,Nat.le_trans hz (by decide),_,_,rfl,rfl,?_,?_⟩
  ·rw [upd_same,List.map_replicate]
   congr 2
   rw [List.map_const']
   simp
  ·have e:("":Str).length=0:=by decide +kernel
   rw [e]
   exact smallL (by omega)
  ·refine ⟨_,rfl,_,rfl,_,_,rfl,rfl,_,_,rfl,rfl,(by show (0:Int)<26;decide),_,_,c2,rfl,rfl,letters_len,e2,smallL (by show 4<=2000;decide),λl' hl'=>?_⟩
   exact k l' _ _ _ _ (Same.upd (Same.new hl) ((Same.new hl).free hl')) ((Same.new hl).free hl') upd_same
end
section
variable {P:Program}{w:World}{K:PySem.W.Frag}{mg:Str->Option Value}{base:Heap}{C:Addr}
structure Errs (K:PySem.W.Frag) (mg:Str->Option Value) (CS CB CN:Addr):Prop where
 mgS:mg "SpanError"=some (.ref CS)
 mgB:mg "BadDeed"=some (.ref CB)
 mgN:mg "NoDeed"=some (.ref CN)
 mgV:mg "ValueError"=none
 exS:Exc K CS bmV
 exB:Exc K CB (.ref CS::bmV)
 exN:Exc K CN (.ref CS::bmV)
 clN:ExcCls K CN
 kV:PySem.W.kitOne K (.ref CN) (.type "ValueError")=some true
 kN:PySem.W.kitOne K (.ref CN) (.ref CN)=some true
 kB:PySem.W.kitOne K (.ref CN) (.ref CB)=some false
 ne:CB≠CN
 nS:CB≠CS
theorem boot_VE:bootBuiltins "ValueError"=some (.type "ValueError"):=by decide +kernel
section
variable {CS CB CN:Addr}
theorem re_size {f:Addr}{fd:FuncData} (F:Fun K "check_size" "check_size" s_check_size f fd) (R:Errs K mg CS CB CN):FnOk P w K mg base (CXR P w) 1 f fd ["size"] (spRaises CB λvs _=>∃ n:Int,vs=[.int n]/\n<0):=by
 refine Cut.Fun.okR F sc_check_size (λvs H Q E h=>?_) (λcdv A outer s H vs Q E hr h=>?_)
 ·obtain ⟨⟨n,rfl,_⟩,_⟩:=h
  rfl
 ·obtain ⟨⟨n,rfl,hn⟩,hE⟩:=h
  refine' ⟨_,pss_one (ps_if ?a (pss_one (ps_raise (E:=E) rfl rfl R.mgB R.exB ?b (pa_cons pe_str pa_nil))) pss_nil),?rd⟩
  case a=>exact pt_cmpR op_lt (pv 0) pe_int (nomark _)
  case b=>exact λpins σ H1 s1 h1 z vs I hm hE=>made_xe I hm hE
  case rd=>exact ⟨_,rfl,_,_,rfl,rfl,_,rfl,iteP (decide_eq_true hn) ⟨by decide,hE⟩⟩
theorem re_times {f:Addr}{fd:FuncData} (F:Fun K "check_times" "check_times" s_check_times f fd) (R:Errs K mg CS CB CN):FnOk P w K mg base (CXR P w) 1 f fd ["times"] (spRaises CB λvs _=>∃ n:Int,vs=[.int n]/\n<1):=by
 refine Cut.Fun.okR F sc_check_times (λvs H Q E h=>?_) (λcdv A outer s H vs Q E hr h=>?_)
 ·obtain ⟨⟨n,rfl,_⟩,_⟩:=h
  rfl
 ·obtain ⟨⟨n,rfl,hn⟩,hE⟩:=h
  refine' ⟨_,pss_one (ps_if ?a (pss_one (ps_raise (E:=E) rfl rfl R.mgB R.exB ?b (pa_cons pe_str pa_nil))) pss_nil),?rd⟩
  case a=>exact pt_cmpR op_lt (pv 0) pe_int (nomark _)
  case b=>exact λpins σ H1 s1 h1 z vs I hm hE=>made_xe I hm hE
  case rd=>exact ⟨_,rfl,_,_,rfl,rfl,_,rfl,iteP (decide_eq_true hn) ⟨by decide,hE⟩⟩
theorem re_opened {f:Addr}{fd:FuncData} (F:Fun K "opened" "opened" s_opened f fd) (DS:DefR P w K mg base "check_size" ["size"] 1 (spRaises CB λvs _=>∃ n:Int,vs=[.int n]/\n<0)) :
  FnOk P w K mg base (CXR P w) 2 f fd ["line","place","size"] (spRaises CB λvs _=>∃ (p:Addr) (x n:Int),vs=[.ref p,.int x,.int n]/\n<0):=by
 refine Cut.Fun.okR F sc_opened (λvs H Q E h=>?_) (λcdv A outer s H vs Q E hr h=>?_)
 ·obtain ⟨⟨p,x,n,rfl,_⟩,_⟩:=h
  rfl
 ·obtain ⟨⟨p,x,n,rfl,hn⟩,hE⟩:=h
  refine' ⟨_,pss_cons (ps_expr (pe_callR (E:=E) DS hr pass_on rfl (pa_cons (pv 2) pa_nil))) pss_never,?rd⟩
  case rd=>exact ⟨_,rfl,⟨n,rfl,hn⟩,hE⟩
theorem re_closed {f:Addr}{fd:FuncData} (F:Fun K "closed" "closed" s_closed f fd) (DS:DefR P w K mg base "check_size" ["size"] 1 (spRaises CB λvs _=>∃ n:Int,vs=[.int n]/\n<0)) :
  FnOk P w K mg base (CXR P w) 2 f fd ["line","place","size"] (spRaises CB λvs _=>∃ (p:Addr) (x n:Int),vs=[.ref p,.int x,.int n]/\n<0):=by
 refine Cut.Fun.okR F sc_closed (λvs H Q E h=>?_) (λcdv A outer s H vs Q E hr h=>?_)
 ·obtain ⟨⟨p,x,n,rfl,_⟩,_⟩:=h
  rfl
 ·obtain ⟨⟨p,x,n,rfl,hn⟩,hE⟩:=h
  refine' ⟨_,pss_cons (ps_expr (pe_callR (E:=E) DS hr pass_on rfl (pa_cons (pv 2) pa_nil))) pss_never,?rd⟩
  case rd=>exact ⟨_,rfl,⟨n,rfl,hn⟩,hE⟩
theorem re_stretched {f:Addr}{fd:FuncData} (F:Fun K "stretched" "stretched" s_stretched f fd) (DS:DefR P w K mg base "check_times" ["times"] 1 (spRaises CB λvs _=>∃ n:Int,vs=[.int n]/\n<1)) :
  FnOk P w K mg base (CXR P w) 2 f fd ["line","times"] (spRaises CB λvs _=>∃ (p:Addr) (n:Int),vs=[.ref p,.int n]/\n<1):=by
 refine Cut.Fun.okR F sc_stretched (λvs H Q E h=>?_) (λcdv A outer s H vs Q E hr h=>?_)
 ·obtain ⟨⟨p,n,rfl,_⟩,_⟩:=h
  rfl
 ·obtain ⟨⟨p,n,rfl,hn⟩,hE⟩:=h
  refine' ⟨_,pss_cons (ps_expr (pe_callR (E:=E) DS hr pass_on rfl (pa_cons (pv 1) pa_nil))) pss_never,?rd⟩
  case rd=>exact ⟨_,rfl,⟨n,rfl,hn⟩,hE⟩
inductive Ill where
 |opn (p n:Int)
 |cls (p n:Int)
 |str (t:Int)
 |word (x:Str) (p n:Int)
def Ill.vs:Ill->List V
 | .opn p n=>[.str "open",.int p,.int n]
 | .cls p n=>[.str "close",.int p,.int n]
 | .str t=>[.str "stretch",.int t]
 | .word x p n=>[.str x,.int p,.int n]
def Ill.Bad:Ill->Prop
 | .opn _ n=>n<0
 | .cls _ n=>n<0
 | .str t=>t<1
 | .word x _ _=>x≠"put"/\x≠"open"/\x≠"close"/\x≠"stretch"
def IllAt (K:PySem.W.Frag) (vs:List V) (H:Hp):Prop:=∃ (p d:Addr) (i:Ill),vs=[.ref p,.ref d]/\SqT K H d i.vs/\i.Bad
theorem re_done {f:Addr}{fd:FuncData} (F:Fun K "done" "done" s_done f fd) (R:Errs K mg CS CB CN) (DO:DefR P w K mg base "opened" ["line","place","size"] 2 (spRaises CB λvs _=>∃ (p:Addr) (x n:Int),vs=[.ref p,.int x,.int n]/\n<0))
  (DC:DefR P w K mg base "closed" ["line","place","size"] 2 (spRaises CB λvs _=>∃ (p:Addr) (x n:Int),vs=[.ref p,.int x,.int n]/\n<0)) (DS:DefR P w K mg base "stretched" ["line","times"] 2 (spRaises CB λvs _=>∃ (p:Addr) (n:Int),vs=[.ref p,.int n]/\n<1)) :
  FnOk P w K mg base (CXR P w) 3 f fd ["line","deed"] (spRaises CB (IllAt K)):=by
 refine Cut.Fun.okR F sc_done (λvs H Q E h=>?_) (λcdv A outer s H vs Q E hr h=>?_)
 ·obtain ⟨⟨p,d,i,rfl,_⟩,_⟩:=h
  rfl
 ·obtain ⟨⟨p,d,i,rfl,hd,hb⟩,hE⟩:=h
  refine' ⟨_,pss_cons (ps_set (i:=2) sc_done.nd rfl (Or.inl rfl) (pe_ix ix_tup (pv 1) pe_int (λ_ _=>rfl)))
   (pss_cons (ps_if (pt_cmpR op_eq (pv 2) pe_str (nomark _)) pss_never pss_nil)
   (pss_cons (ps_if (pt_cmpR op_eq (pv 2) pe_str (nomark _)) (pss_one (ps_ret ?e2)) pss_nil)
   (pss_cons (ps_if (pt_cmpR op_eq (pv 2) pe_str (nomark _)) (pss_one (ps_ret ?e3)) pss_nil)
   (pss_cons (ps_if (pt_cmpR op_eq (pv 2) pe_str (nomark _)) (pss_one (ps_ret ?e4)) pss_nil)
   (pss_one (ps_raise (E:=E) rfl rfl R.mgB R.exB ?b (pa_cons pe_str pa_nil))))))),?rd⟩
  case e2=>exact pe_callR (E:=E) DO hr pass_on rfl (pa_cons (pv 0) (pa_cons (pe_ix ix_tup (pv 1) pe_int (λ_ _=>rfl)) (pa_cons (pe_ix ix_tup (pv 1) pe_int (λ_ _=>rfl)) pa_nil)))
  case e3=>exact pe_callR (E:=E) DC hr pass_on rfl (pa_cons (pv 0) (pa_cons (pe_ix ix_tup (pv 1) pe_int (λ_ _=>rfl)) (pa_cons (pe_ix ix_tup (pv 1) pe_int (λ_ _=>rfl)) pa_nil)))
  case e4=>exact pe_callR (E:=E) DS hr pass_on rfl (pa_cons (pv 0) (pa_cons (pe_ix ix_tup (pv 1) pe_int (λ_ _=>rfl)) pa_nil))
  case b=>exact λpins σ H1 s1 h1 z vs I hm hE=>made_xe I hm hE
  case rd=>
  cases i with
  |opn x n=>
   refine ⟨_,rfl,d,_,_,_,rfl,rfl,hd,atN (j:=0) rfl rfl,?_⟩
   refine ⟨_,rfl,rfl,_,rfl,iteN (by decide +kernel) ?_⟩
   refine ⟨_,rfl,rfl,_,rfl,iteP (by decide +kernel) ?_⟩
   exact ⟨_,rfl,_,rfl,d,_,_,_,rfl,rfl,hd,atN (j:=1) rfl rfl,_,rfl,d,_,_,_,rfl,rfl,hd,atN (j:=2) rfl rfl,⟨p,x,n,rfl,hb⟩,hE⟩
  |cls x n=>
   refine ⟨_,rfl,d,_,_,_,rfl,rfl,hd,atN (j:=0) rfl rfl,?_⟩
   refine ⟨_,rfl,rfl,_,rfl,iteN (by decide +kernel) ?_⟩
   refine ⟨_,rfl,rfl,_,rfl,iteN (by decide +kernel) ?_⟩
   refine ⟨_,rfl,rfl,_,rfl,iteP (by decide +kernel) ?_⟩
   exact ⟨_,rfl,_,rfl,d,_,_,_,rfl,rfl,hd,atN (j:=1) rfl rfl,_,rfl,d,_,_,_,rfl,rfl,hd,atN (j:=2) rfl rfl,⟨p,x,n,rfl,hb⟩,hE⟩
  |str t=>
   refine ⟨_,rfl,d,_,_,_,rfl,rfl,hd,atN (j:=0) rfl rfl,?_⟩
   refine ⟨_,rfl,rfl,_,rfl,iteN (by decide +kernel) ?_⟩
   refine ⟨_,rfl,rfl,_,rfl,iteN (by decide +kernel) ?_⟩
   refine ⟨_,rfl,rfl,_,rfl,iteN (by decide +kernel) ?_⟩
   refine ⟨_,rfl,rfl,_,rfl,iteP (by decide +kernel) ?_⟩
   exact ⟨_,rfl,_,rfl,d,_,_,_,rfl,rfl,hd,atN (j:=1) rfl rfl,⟨p,t,rfl,hb⟩,hE⟩
  |word x y n=>
   have nq:∀ z:Str,x≠z->¬ (decide (V.str x=V.str z)=true):=λz h q=>h (V.str.inj (of_decide_eq_true q))
   refine ⟨_,rfl,d,_,_,_,rfl,rfl,hd,atN (j:=0) rfl rfl,?_⟩
   refine ⟨_,rfl,rfl,_,rfl,iteN (nq _ hb.1) ?_⟩
   refine ⟨_,rfl,rfl,_,rfl,iteN (nq _ hb.2.1) ?_⟩
   refine ⟨_,rfl,rfl,_,rfl,iteN (nq _ hb.2.2.1) ?_⟩
   refine ⟨_,rfl,rfl,_,rfl,iteN (nq _ hb.2.2.2) ?_⟩
   exact ⟨by decide,hE⟩
end
end
section
variable {P:Program}{w:World}{K:PySem.W.Frag}{mg:Str->Option Value}{base:Heap}{C:Addr}
inductive Act where
 |deed (d:Deed)
 |mark (n:Str) (p:Int)
def Act.vs:Act->List V
 | .deed d=>d.vs
 | .mark n p=>[.str "mark",.str n,.int p]
def Nm (n:Str):Prop:=n="a"∨n="peg"∨n="zz"
def Act.Ok:Act->Prop
 | .deed d=>d.Ok
 | .mark n _=>Nm n
abbrev Acts:=List (Addr×Act)
def deedsA (l:Acts):List (Addr×Deed):=l.filterMap λq=>match q.2 with
 | .deed d=>some (q.1,d)
 | .mark _ _=>none
theorem deedsA_app (l l':Acts):deedsA (l++l')=deedsA l++deedsA l':=List.filterMap_append
abbrev Marks:=List (Str×Int)
def putM (m:Marks) (n:Str) (p:Int):Marks:=if (m.any λq=>decide (q.1=n))=true then m.map (λq=>if q.1=n then (q.1,p) else q) else m++[(n,p)]
def stepM (m:Marks):Act->Marks
 | .deed d=>m.map λq=>(q.1,d.carry q.2)
 | .mark n p=>putM m n p
def marksA (l:Acts):Marks:=l.foldl (λm q=>stepM m q.2) []
theorem marksA_snoc (l:Acts) (q:Addr×Act):marksA (l++[q])=stepM (marksA l) q.2:=by unfold marksA;rw [List.foldl_append];rfl
def kvM (m:Marks):List (Key×V):=m.map λq=>(Sum.inr q.1,V.int q.2)
theorem kvM_put (m:Marks) (n:Str) (p:Int):putK (kvM m) (Sum.inr n) (.int p)=kvM (putM m n p):=by
 have ea:((kvM m).any λkv=>decide (kv.1=Sum.inr n))=(m.any λq=>decide (q.1=n)):=by
  unfold kvM
  rw [List.any_map]
  congr 1
  funext q
  show decide (Sum.inr q.1=(Sum.inr n:Key))=_
  by_cases e:q.1=n
  ·rw [decide_eq_true e,decide_eq_true (by rw [e])]
  ·rw [decide_eq_false e,decide_eq_false (λz=>e (Sum.inr.inj z))]
 unfold putK putM
 rw [ea]
 split
 ·unfold kvM
  rw [List.map_map,List.map_map]
  refine List.map_congr_left λq _=>?_
  show (if (Sum.inr q.1:Key)=Sum.inr n then ((Sum.inr q.1:Key),V.int p) else (Sum.inr q.1,V.int q.2))=_
  by_cases e:q.1=n
  ·rw [if_pos (by rw [e])]
   show _=((Sum.inr (if q.1=n then (q.1,p) else q).1:Key),V.int (if q.1=n then (q.1,p) else q).2)
   rw [if_pos e]
  ·rw [if_neg (λz=>e (Sum.inr.inj z))]
   show _=((Sum.inr (if q.1=n then (q.1,p) else q).1:Key),V.int (if q.1=n then (q.1,p) else q).2)
   rw [if_neg e]
 ·unfold kvM
  rw [List.map_append]
  rfl
def NdM (m:Marks):Prop:=(m.map (·.1)).Nodup
theorem putM_keys (m:Marks) (n:Str) (p:Int):(putM m n p).map (·.1)=if (m.any λq=>decide (q.1=n))=true then m.map (·.1) else m.map (·.1)++[n]:=by
 unfold putM
 split
 ·rw [List.map_map]
  refine List.map_congr_left λq _=>?_
  show (if q.1=n then (q.1,p) else q).1=q.1
  split<;>rfl
 ·rw [List.map_append];rfl
theorem NdM.put {m:Marks} (h:NdM m) (n:Str) (p:Int):NdM (putM m n p):=by
 unfold NdM
 rw [putM_keys]
 split
 ·exact h
 ·rename_i hn
  refine List.nodup_append.mpr ⟨h,by simp,λa ha b hb=>?_⟩
  rw [List.mem_singleton.mp hb]
  intro e
  subst e
  obtain ⟨q,hq,e⟩:=List.mem_map.mp ha
  exact hn (List.any_eq_true.mpr ⟨q,hq,decide_eq_true e⟩)
theorem carry_keys (m:Marks) (d:Deed):((stepM m (.deed d)).map (·.1))=m.map (·.1):=by
 show (m.map λq=>(q.1,d.carry q.2)).map (·.1)=_
 rw [List.map_map];rfl
theorem marksA_nd (l:Acts):NdM (marksA l):=by
 refine snocRec (p:=λl=>NdM (marksA l)) (by unfold NdM;simp [marksA]) (λr q ih=>?_) l
 rw [marksA_snoc]
 cases q.2 with
 |deed d=>unfold NdM;rw [carry_keys];exact ih
 |mark n p=>exact NdM.put ih n p
theorem marksA_nm (l:Acts):(∀ q∈l,q.2.Ok)->∀ n∈(marksA l).map (·.1),Nm n:=by
 refine snocRec (p:=λl=>(∀ q∈l,q.2.Ok)->∀ n∈(marksA l).map (·.1),Nm n) (λ_ n h=>by simp [marksA] at h) (λr q ih hok=>?_) l
 have ihr:=ih λq' h'=>hok q' (List.mem_append_left _ h')
 have hq:=hok q (List.mem_append_right _ List.mem_cons_self)
 rw [marksA_snoc]
 cases e:q.2 with
 |deed d=>rw [carry_keys];exact ihr
 |mark n p=>
  rw [e] at hq
  show ∀ x∈(putM (marksA r) n p).map (·.1),Nm x
  rw [putM_keys]
  split
  ·exact ihr
  ·intro x hx
   rcases List.mem_append.mp hx with h|h
   ·exact ihr x h
   ·rw [List.mem_singleton.mp h];exact hq
theorem marksA_len {l:Acts} (h:∀ q∈l,q.2.Ok):(marksA l).length<=3:=by
 have nd:=marksA_nd l
 have hs:(marksA l).map (·.1) ⊆ (["a","peg","zz"]:List Str):=λn hn=>by
  rcases marksA_nm l h n hn with e|e|e<;>rw [e]<;>simp
 have:=List.Nodup.length_le_of_subset nd hs
 rw [List.length_map] at this
 exact this
def Gn (G H H':Hp):Hp:=λb=>if (G b).isSome=true then G b else if H b=none then H' b else none
theorem Gn.old {G H H':Hp}:Same G (Gn G H H'):=λb o e=>by unfold Gn;rw [if_pos (by rw [e];rfl)];exact e
theorem Gn.at {G H H':Hp} (s1:Same G H) (s2:Same H H'):Same (Gn G H H') H':=λb o e=>by
 unfold Gn at e
 split at e
 ·exact s2 b o (s1 b o e)
 ·split at e
  ·exact e
  ·cases e
theorem Gn.new {G H H':Hp} (s1:Same G H) {b:Addr}{o:HO} (hn:H b=none) (h:H' b=some o):Gn G H H' b=some o:=by
 unfold Gn
 rw [if_neg (by rw [s1.free hn];simp),if_pos hn]
 exact h
theorem Gn.none {G H H':Hp}{b:Addr} (h:G b=none) (hH:H b≠none):Gn G H H' b=none:=by
 unfold Gn
 rw [if_neg (by rw [h];simp),if_neg hH]
theorem dmne:¬ (("drawn":Str)="marks"):=by decide +kernel
def fldsS (p m:Addr):List (Str×V):=putF "marks" (.ref m) (putF "drawn" (.ref p) [])
theorem fldsS_drawn (p m:Addr):(fldsS p m).lookup ("drawn":Str)=some (.ref p):=by
 unfold fldsS
 rw [lookup_putF,if_neg dmne,lookup_putF,if_pos rfl]
theorem fldsS_marks (p m:Addr):(fldsS p m).lookup ("marks":Str)=some (.ref m):=by
 unfold fldsS
 rw [lookup_putF,if_pos rfl]
def StateAt (C CS:Addr) (G:Hp) (st:Addr) (l:Acts):Prop:=∃ dx p m v ps,G st=some (.ins CS dx (fldsS p m))/\LineAt C G p v ps/\Form v ps/\ps.length<=2 * l.length/\(∀ x,atL v ps x=valD (deedsA l) x)/\G m=some (.dK (kvM (marksA l)))
theorem StateAt.same {C CS:Addr}{G G':Hp}{st:Addr}{l:Acts} (h:StateAt C CS G st l) (s:Same G G'):StateAt C CS G' st l:=
 let ⟨dx,p,m,v,ps,h1,h2,h3,h4,h5,h6⟩:=h
 ⟨dx,p,m,v,ps,s _ _ h1,h2.same s,h3,h4,h5,s _ _ h6⟩
structure Txt12 (K:PySem.W.Frag) (mg:Str->Option Value) (CS CD:Addr):Prop where
 clS:Cls K CS
 nD:NoAttr K CS "drawn"
 nM:NoAttr K CS "marks"
 mgS:mg "State"=some (.ref CS)
 clD:Cls K CD
 nP:NoAttr K CD "present"
 nA:NoAttr K CD "past"
 nU:NoAttr K CD "undone"
 mgD:mg "Desk"=some (.ref CD)
def spInitS (CS:Addr):Sp:=λvs H Q _=>∃ (p dx a b:Addr),vs=[.ref p,.ref a,.ref b]/\H p=some (.ins CS dx [])/\Q .non (upd H p (.ins CS dx (fldsS a b)))
section
variable {CS CD fS:Addr}{fdS:FuncData}
theorem ok_initS {f:Addr}{fd:FuncData} (F:Fun K "__init__" "State.__init__" s_State_init f fd) (T2:Txt12 K mg CS CD):FnOk P w K mg base CX0 1 f fd ["self","drawn","marks"] (spInitS CS):=by
 refine F.ok sc_State_init (λvs H Q E h=>?_) (λcdv A outer s H vs Q E hr h=>?_)
 ·obtain ⟨p,dx,a,b,rfl,_⟩:=h
  rfl
 ·obtain ⟨p,dx,a,b,rfl,hp,k⟩:=h
  refine ⟨_,pss_cons (ps_fld (pv 0) (pv 1) rfl) (pss_one (ps_fld (pv 0) (pv 2) rfl)),?_⟩
  refine ⟨_,rfl,_,rfl,p,CS,dx,[],rfl,hp,T2.clS,T2.nD,(by show 0<1000;decide),_,rfl,_,rfl,p,CS,dx,_,rfl,upd_same,T2.clS,T2.nM,(by show 1<1000;decide),?_⟩
  show Q .non (upd (upd H p _) p _)
  rw [upd_upd]
  exact k
theorem state_new {C:Addr}{G H H1:Hp}{x dx p m:Addr}{v:V}{ps:List (Int×V)}{l:Acts} (s1:Same G H) (s2:Same H H1) (hx:H1 x=none) (hdx:H1 dx=none) (ne:dx≠x) (hL:LineAt C (Gn G H H1) p v ps) (hF:Form v ps) (hl:ps.length<=2 * l.length) (hv:∀ x,atL v ps x=valD (deedsA l) x)
  (hm:Gn G H H1 m=some (.dK (kvM (marksA l)))):Same H (upd (upd (upd H1 dx (.own x)) x (.ins CS dx [])) x (.ins CS dx (fldsS p m)))/\StateAt C CS (Gn G H (upd (upd (upd H1 dx (.own x)) x (.ins CS dx [])) x (.ins CS dx (fldsS p m)))) x l:=by
 have hx0:=s2.free hx
 have hdx0:=s2.free hdx
 have s3:Same H (upd (upd (upd H1 dx (.own x)) x (.ins CS dx [])) x (.ins CS dx (fldsS p m))):=Same.upd (Same.upd (Same.upd s2 hdx0) hx0) hx0
 have s4:Same (Gn G H H1) (Gn G H (upd (upd (upd H1 dx (.own x)) x (.ins CS dx [])) x (.ins CS dx (fldsS p m)))):=λb o e=>by
  have hb1:H1 b=some o:=Gn.at s1 s2 b o e
  unfold Gn at e ⊢
  split
  ·rename_i h;rw [if_pos h] at e;exact e
  ·rename_i h
   rw [if_neg h] at e
   split
   ·rw [upd_ne (ne_of_none hb1 hx),upd_ne (ne_of_none hb1 hx),upd_ne (ne_of_none hb1 hdx)];exact hb1
   ·rename_i h2;rw [if_neg h2] at e;exact e
 exact ⟨s3,dx,p,m,v,ps,Gn.new s1 hx0 upd_same,hL.same s4,hF,hl,hv,s4 _ _ hm⟩
theorem boot_dictT:bootBuiltins "dict"=some (.type "dict"):=by decide +kernel
def spWithMark (C CS:Addr):Sp:=λvs H Q _=>∃ (st t:Addr) (n:Str) (p:Int) (G:Hp) (l:Acts),vs=[.ref st,.str n,.int p]/\StateAt C CS G st l/\Same G H/\(∀ q∈l,q.2.Ok)/\
 ∀ (st':Addr) (H':Hp),Same H H'->StateAt C CS (Gn G H H') st' (l++[(t,.mark n p)])->H st'=none->Q (.ref st') H'
theorem ok_with_mark {f:Addr}{fd:FuncData} (F:Fun K "with_mark" "with_mark" s_with_mark f fd) (T:Txt K mg C) (T2:Txt12 K mg CS CD) (M:Mk K CS fS) (GS:FnOk P w K mg base CX0 1 fS fdS ["self","drawn","marks"] (spInitS CS)) (bS:Binds K fdS ["self","drawn","marks"] []) :
  FnOk P w K mg base CX0 3 f fd ["state","name","place"] (spWithMark C CS):=by
 refine F.ok sc_with_mark (λvs H Q E h=>?_) (λcdv A outer s H vs Q E hr h=>?_)
 ·obtain ⟨st,t,n,p,G,l,rfl,_⟩:=h
  rfl
 ·obtain ⟨st,t,n,p,G,l,rfl,hS,sG,hok,k⟩:=h
  have hu:=hu16 hr
  obtain ⟨dx,lp,m,v,ps,g1,g2,hF,hl,hv,g3⟩:=hS
  refine' ⟨_,pss_cons (ps_set (i:=3) sc_with_mark.nd rfl (Or.inl rfl) ?d1)
   (pss_cons (ps_dput ?u (pv 3) (pv 1) (pv 2) rfl)
   (pss_one (ps_ret (pe_make M GS hr rfl T2.mgS bS .nil pass0 (pa_cons (pe_fld (pv 0) rfl) (pa_cons (pv 3) pa_nil)))))),?rd⟩
  case u=>exact Nat.lt_of_lt_of_le (Nat.add_lt_add_left (by decide:1<16) _) hu
  case d1=>exact pe_callTy call_dict_copy rfl T.dict boot_dictT (pa_cons (pe_fld (pv 0) rfl) pa_nil)
  case rd=>
  refine ⟨_,rfl,st,CS,dx,_,_,rfl,sG _ _ g1,T2.clS,T2.nM,fldsS_marks _ _,m,_,rfl,sG _ _ g3,λd hd=>?_⟩
  refine ⟨_,rfl,_,rfl,_,rfl,d,_,rfl,DPut.k (k:=Sum.inr n) upd_same ?hlen,?_⟩
  case hlen=>
   unfold kvM
   rw [List.length_map]
   exact Nat.lt_of_le_of_lt (marksA_len hok) (by decide)
  rw [upd_upd,kvM_put]
  have s2:Same H (upd H d (.dK (kvM (putM (marksA l) n p)))):=Same.new hd
  have gd:Gn G H (upd H d (.dK (kvM (putM (marksA l) n p)))) d=some (.dK (kvM (marksA (l++[(t,.mark n p)])))):=by
   rw [marksA_snoc];exact Gn.new sG hd upd_same
  generalize upd H d (.dK (kvM (putM (marksA l) n p)))=H2 at s2 gd ⊢
  refine ⟨_,rfl,st,CS,dx,_,_,rfl,s2 _ _ (sG _ _ g1),T2.clS,T2.nD,fldsS_drawn _ _,_,rfl,λx dx' hx hdx ne=>?_⟩
  refine ⟨x,dx',lp,d,rfl,upd_same,rfl,?_⟩
  obtain ⟨s3,hS3⟩:=state_new (CS:=CS) (l:=l++[(t,.mark n p)]) sG s2 hx hdx ne (g2.same Gn.old) hF (by rw [List.length_append];omega) (λy=>by rw [deedsA_app,hv];show _=valD (deedsA l++[]) y;rw [List.append_nil]) gd
  exact k x _ s3 hS3 (s2.free hx)
end
end
section
variable {P:Program}{w:World}{K:PySem.W.Frag}{mg:Str->Option Value}{base:Heap}{C:Addr}
theorem mono_fld {K:PySem.W.Frag}{i:Nat}{f:Str}:L2.Mono (tFld K (tVar i) f):=fun σ H Q Q' h q=>by
 obtain ⟨v,e,a,C,dx,fs,w,h1,h2,h3,h4,h5,q⟩:=q
 exact ⟨v,e,a,C,dx,fs,w,h1,h2,h3,h4,h5,h _ _ q⟩
theorem valM {m:Marks} (nd:NdM m):∀ {i:Nat}{q:Str×Int},m[i]?=some q->valV (kvM m) (Sum.inr q.1)=some (.int q.2):=by
 induction m with
 |nil=>intro i q h;simp at h
 |cons p r ih=>
  intro i q h
  have nd':(p.1::r.map (·.1)).Nodup:=nd
  have nd2:=List.nodup_cons.mp nd'
  show valV ((Sum.inr p.1,V.int p.2)::kvM r) (Sum.inr q.1)=_
  cases i with
  |zero=>simp at h;subst h;exact valV_pos rfl
  |succ i=>
   have h':r[i]?=some q:=by simpa using h
   rw [valV_neg]
   ·exact ih nd2.2 h'
   ·intro e
    have e':p.1=q.1:=Sum.inr.inj e
    exact nd2.1 (by rw [e'];exact List.mem_map_of_mem (List.mem_of_getElem? h'))
theorem putM_new {m:Marks}{n:Str}{p:Int} (h:n ∉ m.map (·.1)):putM m n p=m++[(n,p)]:=by
 unfold putM
 rw [if_neg]
 intro z
 obtain ⟨q,hq,e⟩:=List.any_eq_true.mp z
 exact h (by rw [<-of_decide_eq_true e];exact List.mem_map_of_mem hq)
theorem take_put {m:Marks} (nd:NdM m) {i:Nat}{q:Str×Int} (h:m[i]?=some q):putM (m.take i) q.1 q.2=m.take (i+1):=by
 rw [putM_new,List.take_add_one,h]
 ·rfl
 ·intro hm
  rw [List.map_take] at hm
  obtain ⟨j,hj,e⟩:=List.getElem_of_mem hm
  rw [List.length_take] at hj
  have hi:i<m.length:=(List.getElem?_eq_some_iff.mp h).1
  rw [List.getElem_take] at e
  have hq:(m.map (·.1))[i]'(by rw [List.length_map];exact hi)=q.1:=by
   rw [List.getElem_map]
   have:=(List.getElem?_eq_some_iff.mp h).2
   rw [this]
  exact List.pairwise_iff_getElem.mp nd j i _ _ (by omega) (e.trans hq.symm)
def spBehind (C CS:Addr):Sp:=λvs H Q _=>∃ (st t:Addr) (a:Act) (G:Hp) (l:Acts),vs=[.ref st,.ref t]/\StateAt C CS G st l/\Same G H/\(∀ q∈l,q.2.Ok)/\l.length<=60/\H t=some (.tup a.vs)/\a.Ok/\
 ∀ (st':Addr) (H':Hp),Same H H'->StateAt C CS (Gn G H H') st' (l++[(t,a)])->H st'=none->Q (.ref st') H'
section
variable {CS CD fS:Addr}{fdS:FuncData}
theorem ok_behind {f:Addr}{fd:FuncData} (F:Fun K "behind_deed" "behind_deed" s_behind_deed f fd) (T:Txt K mg C) (T2:Txt12 K mg CS CD) (M:Mk K CS fS) (GS:FnOk P w K mg base CX0 1 fS fdS ["self","drawn","marks"] (spInitS CS)) (bS:Binds K fdS ["self","drawn","marks"] [])
  (DW:Def P w K mg base "with_mark" ["state","name","place"] 3 (spWithMark C CS)) (DD:Def P w K mg base "done" ["line","deed"] 5 (spDone K C)) (DC:Def P w K mg base "carried" ["place","deed"] 3 (spCarried K)) :
  FnOk P w K mg base CX0 6 f fd ["state","deed"] (spBehind C CS):=by
 refine F.ok sc_behind_deed (λvs H Q E h=>?_) (λcdv A outer s H vs Q E hr h=>?_)
 ·obtain ⟨st,t,a,G,l,rfl,_⟩:=h
  rfl
 ·obtain ⟨st,t,a,G,l,rfl,hS,sG,hok,hll,ht,hao,k⟩:=h
  have hu:=Nat.lt_of_lt_of_le (Nat.add_lt_add_left (by decide:1<16) _) (hu16 hr)
  have hr3:Room 3 _:=hr.mono (by decide)
  have hr2:Room 2 _:=hr.mono (by decide)
  refine' ⟨_,pss_cons (ps_if ?a1 (pss_one (ps_ret ?a2)) pss_nil)
   (pss_cons (ps_set (i:=2) sc_behind_deed.nd rfl (Or.inl rfl) ?b1)
   (pss_cons (ps_set (i:=3) sc_behind_deed.nd rfl (Or.inl rfl) pe_dnewK)
   (pss_cons (ps_forD PassesOwn.never rfl (pe_fld (pv 0) rfl) (pg_name (i:=4) sc_behind_deed.nd rfl (Or.inl rfl)) (pss_one (ps_dput hu (pv 3) (pv 4) ?c1 rfl)) mono_fld)
   (pss_one (ps_ret (pe_make M GS hr2 rfl T2.mgS bS .nil pass0 (pa_cons (pv 2) (pa_cons (pv 3) pa_nil)))))))),?rd⟩
  case a1=>exact pt_cmpR op_eq (pe_ix ix_tup (pv 1) pe_int (λ_ _=>rfl)) pe_str (nomark _)
  case a2=>exact pe_callD DW hr3 rfl (pa_cons (pv 0) (pa_cons (pe_ix ix_tup (pv 1) pe_int (λ_ _=>rfl)) (pa_cons (pe_ix ix_tup (pv 1) pe_int (λ_ _=>rfl)) pa_nil)))
  case b1=>exact pe_callD DD hr rfl (pa_cons (pe_fld (pv 0) rfl) (pa_cons (pv 1) pa_nil))
  case c1=>exact pe_callD DC hr3 rfl (pa_cons (pe_dget hu (pe_fld (pv 0) rfl) (pv 4) (λ_ _=>rfl)) (pa_cons (pv 1) pa_nil))
  case rd=>
  cases a with
  |mark n p=>
   have ht':SqT K H t [.str "mark",.str n,.int p]:=SqT.of ht
   refine ⟨_,rfl,t,_,_,_,rfl,rfl,ht',atN (j:=0) rfl rfl,rfl,_,rfl,iteP (by decide +kernel) ?_⟩
   exact ⟨_,rfl,_,rfl,t,_,_,_,rfl,rfl,ht',atN (j:=1) rfl rfl,_,rfl,t,_,_,_,rfl,rfl,ht',atN (j:=2) rfl rfl,st,t,n,p,G,l,rfl,hS,sG,hok,k⟩
  |deed d=>
   obtain ⟨wd,r,ew,hw⟩:∃ wd r,d.vs=V.str wd::r/\¬ (decide (V.str wd=V.str "mark")=true):=by
    cases d<;>exact ⟨_,_,rfl,by decide +kernel⟩
   have ht':SqT K H t d.vs:=SqT.of ht
   have ht2:SqT K H t (V.str wd::r):=by rw [<-ew];exact ht'
   obtain ⟨dx,lp,m,v,ps,g1,g2,hF,hl,hv,g3⟩:=hS
   refine ⟨_,rfl,t,_,_,_,rfl,rfl,ht2,atN (j:=0) rfl rfl,rfl,_,rfl,iteN hw ?_⟩
   refine ⟨_,rfl,st,CS,dx,_,_,rfl,sG _ _ g1,T2.clS,T2.nD,fldsS_drawn _ _,_,rfl,lp,t,v,ps,d,rfl,g2.same sG,hF,by omega,ht',hao,λp' H1 v' ps' s1 ln hF' hl' hx'=>?_⟩
   refine λmd hmd=>?_
   have s2:Same H (upd H1 md (.dK [])):=Same.upd s1 (s1.free hmd)
   have s12:Same H1 (upd H1 md (.dK [])):=Same.new hmd
   have gm0:(upd H1 md (.dK [])) md=some (.dK []):=upd_same
   have lnG:LineAt C (Gn G H (upd H1 md (.dK []))) p' v' ps':=by
    obtain ⟨dx',a',b',n1,n2,n3,e1,e2,e3⟩:=ln
    exact ⟨dx',a',b',Gn.new sG n1 (s12 _ _ e1),Gn.new sG n2 (s12 _ _ e2),Gn.new sG n3 (s12 _ _ e3)⟩
   have hmd0:H md=none:=s1.free hmd
   generalize upd H1 md (.dK [])=H2 at s2 gm0 lnG ⊢
   have gm2:=s2 _ _ (sG _ _ g3)
   have g12:=s2 _ _ (sG _ _ g1)
   have nmm:m≠md:=ne_of_none (sG _ _ g3) hmd0
   have hml:=marksA_len hok
   refine ⟨_,rfl,st,CS,dx,_,_,rfl,g12,T2.clS,T2.nM,fldsS_marks _ _,m,_,rfl,gm2,λob=>⟨λi σ H'=>∃ x4:Option V,σ=[some (.ref st),some (.ref t),some (.ref p'),some (.ref md),x4]/\H' md=some (.dK (kvM ((stepM (marksA l) (.deed d)).take i)))/\H' m=some (.frz ob (.dK (kvM (marksA l))))/\∀ b,b≠md->b≠m->H' b=H2 b,?p0,?pa,?ps,?pd⟩⟩
   case p0=>exact ⟨none,rfl,by rw [upd_ne (Ne.symm nmm)];exact gm0,upd_same,λb h1 h2=>upd_ne h2⟩
   case pa=>rintro i σ H' _ ⟨_,_,_,h,_⟩;exact h
   case ps=>
    rintro B i q σ H' hi ⟨x4,rfl,hmd',hm',hoth⟩
    unfold kvM at hi
    rw [List.getElem?_map] at hi
    obtain ⟨q0,hq0,rfl⟩:=Option.map_eq_some_iff.mp hi
    have gt':H' t=some (.tup d.vs):=by
     have h2:=s2 _ _ ht
     rw [hoth t (ne_of h2 gm0 (by intro z;cases z)) (ne_of h2 gm2 (by intro z;cases z))]
     exact h2
    have gs':H' st=some (.ins CS dx (fldsS lp m)):=by
     rw [hoth st (ne_of g12 gm0 (by intro z;cases z)) (ne_of g12 gm2 (by intro z;cases z))]
     exact g12
    refine ⟨_,rfl,st,CS,dx,_,_,rfl,gs',T2.clS,T2.nM,fldsS_marks _ _,_,rfl,m,.int q0.2,rfl,.inl ⟨_,Sum.inr q0.1,.inr ⟨ob,hm'⟩,rfl,(valM (marksA_nd l) hq0).symm⟩,_,rfl,q0.2,t,d,rfl,SqT.of gt',hao,?_⟩
    refine ⟨_,rfl,_,rfl,md,_,rfl,DPut.k (k:=Sum.inr q0.1) hmd' ?hlen,_,rfl,?_,?_,?_⟩
    case hlen=>
     unfold kvM
     rw [List.length_map,List.length_take]
     refine Nat.lt_of_le_of_lt (Nat.min_le_right ..) ?_
     show ((marksA l).map _).length<_
     rw [List.length_map]
     exact Nat.lt_of_le_of_lt hml (by decide)
    ·rw [upd_same,kvM_put]
     have hq1:(stepM (marksA l) (.deed d))[i]?=some (q0.1,d.carry q0.2):=by
      show ((marksA l).map λq=>(q.1,d.carry q.2))[i]?=_
      rw [List.getElem?_map,hq0];rfl
     have nd2:NdM (stepM (marksA l) (.deed d)):=by unfold NdM;rw [carry_keys];exact marksA_nd l
     rw [take_put nd2 hq1]
    ·rw [upd_ne nmm];exact hm'
    ·intro b h1 h2
     rw [upd_ne h1];exact hoth b h1 h2
   case pd=>
    rintro σ H' ⟨x4,rfl,hmd',hm',hoth⟩
    have ek:(kvM (marksA l)).length=(stepM (marksA l) (.deed d)).length:=by
     unfold kvM
     rw [List.length_map]
     show _=((marksA l).map _).length
     rw [List.length_map]
    rw [ek,List.take_length] at hmd'
    have s3:Same H (upd H' m (.dK (kvM (marksA l)))):=λb o e=>by
     by_cases hb:b=m
     ·subst hb
      have:=s2 _ _ e
      rw [gm2] at this
      rw [upd_same];exact this
     ·rw [upd_ne hb,hoth b (ne_of_none e hmd0) hb]
      exact s2 _ _ e
    have gmd3:(upd H' m (.dK (kvM (marksA l)))) md=some (.dK (kvM (stepM (marksA l) (.deed d)))):=by rw [upd_ne (Ne.symm nmm)];exact hmd'
    have lnG3:LineAt C (Gn G H (upd H' m (.dK (kvM (marksA l))))) p' v' ps':=by
     have tr:∀ b o,(∀ kvs,o≠.dK kvs)->Gn G H H2 b=some o->Gn G H (upd H' m (.dK (kvM (marksA l)))) b=some o:=λb o ho e=>by
      unfold Gn at e ⊢
      split
      ·rename_i h;rw [if_pos h] at e;exact e
      ·rename_i h
       rw [if_neg h] at e
       split
       ·rename_i hn
        rw [if_pos hn] at e
        have n1:b≠m:=λz=>by rw [z,gm2] at e;exact ho _ (Option.some.inj e).symm
        rw [upd_ne n1,hoth b (λz=>by rw [z,gm0] at e;exact ho _ (Option.some.inj e).symm) n1]
        exact e
       ·rename_i hn;rw [if_neg hn] at e;exact e
     obtain ⟨dx',a',b',e1,e2,e3⟩:=lnG
     exact ⟨dx',a',b',tr _ _ (λ_ z=>nomatch z) e1,tr _ _ (λ_ z=>nomatch z) e2,tr _ _ (λ_ z=>nomatch z) e3⟩
    generalize upd H' m (.dK (kvM (marksA l)))=H3 at s3 gmd3 lnG3 ⊢
    refine ⟨_,rfl,_,rfl,λx dx' hx hdx ne=>?_⟩
    refine ⟨x,dx',p',md,rfl,upd_same,rfl,?_⟩
    obtain ⟨s4,hS4⟩:=state_new (CS:=CS) (l:=l++[(t,.deed d)]) sG s3 hx hdx ne lnG3 hF' (by rw [List.length_append];show ps'.length<=2 * (l.length+1);omega) (λy=>by
     rw [deedsA_app,hx']
     show d.back (atL v ps) y=valD (deedsA l++[(t,d)]) y
     rw [valD_snoc,show atL v ps=valD (deedsA l) from funext hv]) (by rw [marksA_snoc];exact Gn.new sG hmd0 gmd3)
    exact k x _ s4 hS4 (s3.free hx)
end
end
section
variable {P:Program}{w:World}{K:PySem.W.Frag}{mg:Str->Option Value}{base:Heap}{C:Addr}
def fldsD (a b c:Addr):List (Str×V):=[("present",.ref a),("past",.ref b),("undone",.ref c)]
theorem pne4:¬ (("present":Str)="past"):=by decide +kernel
theorem pne5:¬ (("present":Str)="undone"):=by decide +kernel
theorem pne6:¬ (("past":Str)="undone"):=by decide +kernel
theorem fldsD_eq (a b c:Addr):putF "undone" (.ref c) (putF "past" (.ref b) (putF "present" (.ref a) []))=fldsD a b c:=by
 simp [putF,fldsD,pne4,pne5,pne6]
theorem fldsD_present (a b c:Addr):(fldsD a b c).lookup ("present":Str)=some (.ref a):=by
 rw [<-fldsD_eq,lookup_putF,if_neg pne5,lookup_putF,if_neg pne4,lookup_putF,if_pos rfl]
theorem fldsD_past (a b c:Addr):(fldsD a b c).lookup ("past":Str)=some (.ref b):=by
 rw [<-fldsD_eq,lookup_putF,if_neg pne6,lookup_putF,if_pos rfl]
theorem fldsD_undone (a b c:Addr):(fldsD a b c).lookup ("undone":Str)=some (.ref c):=by
 rw [<-fldsD_eq,lookup_putF,if_pos rfl]
theorem putD_present (a b c x:Addr):putF "present" (.ref x) (fldsD a b c)=fldsD x b c:=by simp [putF,fldsD]
theorem putD_undone (a b c x:Addr):putF "undone" (.ref x) (fldsD a b c)=fldsD a b x:=by simp [putF,fldsD,pne5,pne6]
structure DeskIs (C CS CD:Addr) (H:Hp) (d pl ul:Addr) (l g:Acts) (G:Hp) (st dx:Addr) (ps us:List Addr):Prop where
 at':H d=some (.ins CD dx (fldsD st pl ul))
 hp:H pl=some (.lst (ps.map V.ref))
 hu:H ul=some (.lst (us.map V.ref))
 ne:pl≠ul
 gd:G d=none
 gp:G pl=none
 gu:G ul=none
 sG:Same G H
 now:StateAt C CS G st l
 pl':ps.length=l.length
 past:∀ (i:Nat) (x:Addr),ps[i]?=some x->StateAt C CS G x (l.take i)
 ul':us.length=g.length
 undone:∀ (j:Nat) (x:Addr),us[j]?=some x->StateAt C CS G x (l++(g.drop j).reverse)
def DeskAt (C CS CD:Addr) (H:Hp) (d pl ul:Addr) (l g:Acts):Prop:=∃ G st dx ps us,DeskIs C CS CD H d pl ul l g G st dx ps us
def Keep (S:List Addr) (H H':Hp):Prop:=∀ b o,b ∉ S->H b=some o->H' b=some o
theorem Keep.of {S:List Addr}{H H':Hp} (s:Same H H'):Keep S H H':=λb o _ e=>s b o e
theorem DeskIs.keep {C CS CD:Addr}{H H':Hp}{d pl ul:Addr}{l g:Acts}{G:Hp}{st dx:Addr}{ps us:List Addr} (h:DeskIs C CS CD H d pl ul l g G st dx ps us) (s:Same H H'):DeskIs C CS CD H' d pl ul l g G st dx ps us:=
 ⟨s _ _ h.at',s _ _ h.hp,s _ _ h.hu,h.ne,h.gd,h.gp,h.gu,h.sG.trans s,h.now,h.pl',h.past,h.ul',h.undone⟩
theorem DeskAt.same {C CS CD:Addr}{H H':Hp}{d pl ul:Addr}{l g:Acts} (h:DeskAt C CS CD H d pl ul l g) (s:Same H H'):DeskAt C CS CD H' d pl ul l g:=
 let ⟨G,st,dx,ps,us,h⟩:=h
 ⟨G,st,dx,ps,us,h.keep s⟩
section
variable {CS CD CE CB CN fS:Addr}{fdS:FuncData}
def spBehindBad (K:PySem.W.Frag) (CS CB:Addr):Sp:=spRaises CB λvs H=>∃ (st t dx p m:Addr) (i:Ill),vs=[.ref st,.ref t]/\H st=some (.ins CS dx (fldsS p m))/\H t=some (.tup i.vs)/\i.Bad/\i.vs[0]?≠some (.str "mark")
theorem re_behind {f:Addr}{fd:FuncData} (F:Fun K "behind_deed" "behind_deed" s_behind_deed f fd) (T2:Txt12 K mg CS CD) (RD:DefR P w K mg base "done" ["line","deed"] 3 (spRaises CB (IllAt K))):FnOk P w K mg base (CXR P w) 4 f fd ["state","deed"] (spBehindBad K CS CB):=by
 refine Cut.Fun.okR F sc_behind_deed (λvs H Q E h=>?_) (λcdv A outer s H vs Q E hr h=>?_)
 ·obtain ⟨⟨st,t,dx,p,m,i,rfl,_⟩,_⟩:=h
  rfl
 ·obtain ⟨⟨st,t,dx,p,m,i,rfl,g1,g2,hb,hm⟩,hE⟩:=h
  refine' ⟨_,pss_cons (ps_if ?a1 pss_never pss_nil) (pss_cons (ps_set (i:=2) sc_behind_deed.nd rfl (Or.inl rfl) ?b1) pss_never),?rd⟩
  case a1=>exact pt_cmpR op_eq (pe_ix ix_tup (pv 1) pe_int (λ_ _=>rfl)) pe_str (nomark _)
  case b1=>exact pe_callR (E:=E) RD hr pass_on rfl (pa_cons (pe_fld (pv 0) rfl) (pa_cons (pv 1) pa_nil))
  case rd=>
  obtain ⟨x,r,ex⟩:∃ x r,i.vs=V.str x::r:=by cases i<;>exact ⟨_,_,rfl⟩
  have hx:¬ (decide (V.str x=V.str "mark")=true):=λz=>hm (by rw [ex,of_decide_eq_true z];rfl)
  have g3:SqT K H t (V.str x::r):=by rw [<-ex];exact SqT.of g2
  refine ⟨_,rfl,t,_,_,_,rfl,rfl,g3,atN (j:=0) rfl rfl,rfl,_,rfl,iteN hx ?_⟩
  exact ⟨_,rfl,st,CS,dx,_,_,rfl,g1,T2.clS,T2.nD,fldsS_drawn _ _,_,rfl,⟨p,t,i,rfl,SqT.of g2,hb⟩,hE⟩
def DeskNew (C CS CD:Addr) (H H':Hp) (d pl ul:Addr):Prop:=∃ G st dx ps us,DeskIs C CS CD H' d pl ul [] [] G st dx ps us/\∀ b,H b≠none->G b=none
def spInitD (C CS CD:Addr):Sp:=λvs H Q _=>∃ (d dx:Addr),vs=[.ref d]/\H d=some (.ins CD dx [])/\∀ (H':Hp) (pl ul:Addr),Keep [d] H H'->DeskNew C CS CD H H' d pl ul->H pl=none->H ul=none->Q .non H'
theorem state0 {C:Addr}{H H1:Hp}{p m:Addr} (s1:Same H H1) (ln:LineNew C H H1 p .non []) (hm:H1 m=none):Same H (upd H1 m (.dK []))/\LineAt C (Gn (λ_=>none) H (upd H1 m (.dK []))) p .non []/\Gn (λ_=>none) H (upd H1 m (.dK [])) m=some (.dK (kvM (marksA []))):=by
 have s2:Same H1 (upd H1 m (.dK [])):=Same.new hm
 have s0:Same (λ_=>none) H:=λ_ _ e=>by cases e
 obtain ⟨dx,a,b,n1,n2,n3,e1,e2,e3⟩:=ln
 exact ⟨s1.trans s2,⟨dx,a,b,Gn.new s0 n1 (s2 _ _ e1),Gn.new s0 n2 (s2 _ _ e2),Gn.new s0 n3 (s2 _ _ e3)⟩,Gn.new s0 (s1.free hm) upd_same⟩
theorem ok_initD {f:Addr}{fd:FuncData} (F:Fun K "__init__" "Desk.__init__" s_Desk_init f fd) (T2:Txt12 K mg CS CD) (M:Mk K CS fS) (GS:FnOk P w K mg base CX0 1 fS fdS ["self","drawn","marks"] (spInitS CS)) (bS:Binds K fdS ["self","drawn","marks"] [])
  (DE:Def P w K mg base "empty_line" [] 4 (spEmpty C)):FnOk P w K mg base CX0 5 f fd ["self"] (spInitD C CS CD):=by
 refine F.ok sc_Desk_init (λvs H Q E h=>?_) (λcdv A outer s H vs Q E hr h=>?_)
 ·obtain ⟨d,dx,rfl,_⟩:=h
  rfl
 ·obtain ⟨d,dx,rfl,hd,k⟩:=h
  have hr2:Room 2 _:=hr.mono (by decide)
  refine' ⟨_,pss_cons (ps_fld (pv 0) ?a rfl) (pss_cons (ps_fld (pv 0) (pe_lst pa_nil) rfl) (pss_one (ps_fld (pv 0) (pe_lst pa_nil) rfl))),?rd⟩
  case a=>exact pe_make M GS hr2 rfl T2.mgS bS .nil pass0 (pa_cons (pe_callD0 DE hr rfl) (pa_cons pe_dnewK pa_nil))
  case rd=>
  refine ⟨rfl,λp H1 s1 ln m hm=>?_⟩
  have s0:Same (λ_=>none) H:=λ_ _ e=>by cases e
  obtain ⟨s2,hL,gm⟩:=state0 s1 ln hm
  generalize upd H1 m (.dK [])=H2 at s2 hL gm ⊢
  refine λx dx' hx hdx ne=>⟨x,dx',p,m,rfl,upd_same,rfl,?_⟩
  obtain ⟨s3,hS⟩:=state_new (CS:=CS) (l:=[]) s0 s2 hx hdx ne hL ⟨List.Pairwise.nil,trivial,HV.non,λq hq=>nomatch hq⟩ (Nat.le_refl _) (λy=>rfl) gm
  have hxn:H x=none:=s2.free hx
  generalize upd (upd (upd H2 dx' (.own x)) x (.ins CS dx' [])) x (.ins CS dx' (fldsS p m))=H3 at s3 hS ⊢
  refine ⟨_,rfl,d,CD,dx,[],rfl,s3 _ _ hd,T2.clD,T2.nP,(by show 0<1000;decide),?_⟩
  refine ⟨Nat.zero_le _,λpl hpl=>?_⟩
  have npd:pl≠d:=λz=>by rw [z,upd_same] at hpl;cases hpl
  have hpl3:H3 pl=none:=by rw [upd_ne npd] at hpl;exact hpl
  refine ⟨_,rfl,d,CD,dx,_,rfl,by rw [upd_ne (Ne.symm npd),upd_same],T2.clD,T2.nA,(by show 1<1000;decide),?_⟩
  refine ⟨Nat.zero_le _,λul hul=>?_⟩
  have nud:ul≠d:=λz=>by rw [z,upd_same] at hul;cases hul
  have nup:ul≠pl:=λz=>by rw [z,upd_ne npd,upd_same] at hul;cases hul
  have hul3:H3 ul=none:=by rw [upd_ne nud,upd_ne nup,upd_ne nud] at hul;exact hul
  refine ⟨_,rfl,d,CD,dx,_,rfl,by rw [upd_ne (Ne.symm nud),upd_same],T2.clD,T2.nU,(by show 2<1000;decide),?_⟩
  have hpl0:=s3.free hpl3
  have hul0:=s3.free hul3
  refine k _ pl ul (λb o hb e=>?_) ⟨Gn (λ_=>none) H H3,x,dx,[],[],?_,λb h=>Gn.none rfl h⟩ hpl0 hul0
  ·have nb:b≠d:=λz=>hb (by rw [z];exact List.mem_cons_self)
   rw [upd_ne nb,upd_ne (ne_of_none e hul0),upd_ne nb,upd_ne (ne_of_none e hpl0),upd_ne nb]
   exact s3 _ _ e
  ·have g0:∀ b,H b≠none->Gn (λ_=>none) H H3 b=none:=λb h=>Gn.none rfl h
   have nn:∀ b,H3 b=none->Gn (λ_=>none) H H3 b=none:=λb h=>by
    cases e:Gn (λ_=>none) H H3 b with
    |none=>rfl
    |some o=>
     have:=Gn.at s0 s3 b o e
     rw [h] at this;cases this
   have gd:=g0 d (by rw [hd];simp)
   refine ⟨by rw [upd_same];rw [fldsD_eq],by rw [upd_ne npd,upd_ne (Ne.symm nup),upd_ne npd,upd_same];rfl,by rw [upd_ne nud,upd_same];rfl,Ne.symm nup,gd,nn pl hpl3,nn ul hul3,λb o e=>?_,hS,rfl,λi y h=>by simp at h,rfl,λi y h=>by simp at h⟩
   have e3:=Gn.at s0 s3 b o e
   have nb:b≠d:=λz=>by rw [z,gd] at e;cases e
   rw [upd_ne nb,upd_ne (ne_of_none e3 hul3),upd_ne nb,upd_ne (ne_of_none e3 hpl3),upd_ne nb]
   exact e3
end
end
section
variable {P:Program}{w:World}{K:PySem.W.Frag}{mg:Str->Option Value}{base:Heap}{C:Addr}
theorem Keep.mono {S S':List Addr}{H H':Hp} (h:Keep S H H') (hs:∀ b∈S,b∈S'):Keep S' H H':=λb o hb e=>h b o (λz=>hb (hs b z)) e
theorem Keep.trans {S:List Addr}{H H1 H2:Hp} (h:Keep S H H1) (h2:Keep S H1 H2):Keep S H H2:=λb o hb e=>h2 b o hb (h b o hb e)
section
variable {CS CD:Addr}{H:Hp}{d pl ul:Addr}{l g:Acts}{G:Hp}{st dx:Addr}{ps us:List Addr}
theorem DeskIs.dp (h:DeskIs C CS CD H d pl ul l g G st dx ps us):d≠pl:=ne_of h.at' h.hp (by intro z;cases z)
theorem DeskIs.du (h:DeskIs C CS CD H d pl ul l g G st dx ps us):d≠ul:=ne_of h.at' h.hu (by intro z;cases z)
theorem DeskIs.did (h:DeskIs C CS CD H d pl ul l g G st dx ps us) {H1 Hf:Hp}{st' ul':Addr}{q:Addr×Act} (s:Same H H1) (hS:StateAt C CS (Gn G H H1) st' (l++[q])) (hul:H1 ul'=none)
  (e1:Hf d=some (.ins CD dx (fldsD st' pl ul'))) (e2:Hf pl=some (.lst ((ps++[st]).map V.ref))) (e3:Hf ul'=some (.lst [])) (e4:∀ b,b≠d->b≠pl->b≠ul'->Hf b=H1 b) :
  DeskIs C CS CD Hf d pl ul' (l++[q]) [] (Gn G H H1) st' dx (ps++[st]) []/\Keep [d,pl] H Hf:=by
 have gd:Gn G H H1 d=none:=Gn.none h.gd (by rw [h.at'];simp)
 have gp:Gn G H H1 pl=none:=Gn.none h.gp (by rw [h.hp];simp)
 have gu:Gn G H H1 ul'=none:=by
  cases e:Gn G H H1 ul' with
  |none=>rfl
  |some o=>have:=Gn.at h.sG s _ _ e;rw [hul] at this;cases this
 refine ⟨⟨e1,e2,e3,?_,gd,gp,gu,λb o e=>?_,hS,?_,λi x hi=>?_,rfl,λj x hj=>by simp at hj⟩,λb o hb e=>?_⟩
 ·exact ne_of_none (s _ _ h.hp) hul
 ·have h1:=Gn.at h.sG s b o e
  rw [e4 b (λz=>by rw [z,gd] at e;cases e) (λz=>by rw [z,gp] at e;cases e) (ne_of_none h1 hul)]
  exact h1
 ·rw [List.length_append,List.length_append,h.pl'];rfl
 ·have hl:=h.pl'
  by_cases hi2:i<ps.length
  ·rw [List.getElem?_append_left hi2] at hi
   rw [List.take_append_of_le_length (by omega)]
   exact (h.past i x hi).same Gn.old
  ·have hi3:i=ps.length:=by
    have:=(List.getElem?_eq_some_iff.mp hi).1
    rw [List.length_append] at this
    simp at this
    omega
   subst hi3
   rw [List.getElem?_append_right (Nat.le_refl _),Nat.sub_self] at hi
   obtain rfl:st=x:=by simpa using hi
   rw [hl,List.take_left]
   exact h.now.same Gn.old
 ·have nb:b≠d/\b≠pl:=⟨λz=>hb (by rw [z];simp),λz=>hb (by rw [z];simp)⟩
  rw [e4 b nb.1 nb.2 (ne_of_none (s _ _ e) hul)]
  exact s _ _ e
theorem DeskIs.undid {q:Addr×Act}{x:Addr}{ps':List Addr} (h:DeskIs C CS CD H d pl ul (l++[q]) g G st dx (ps'++[x]) us) {Hf:Hp}
  (e1:Hf d=some (.ins CD dx (fldsD x pl ul))) (e2:Hf pl=some (.lst (ps'.map V.ref))) (e3:Hf ul=some (.lst ((us++[st]).map V.ref))) (e4:∀ b,b≠d->b≠pl->b≠ul->Hf b=H b) :
  DeskIs C CS CD Hf d pl ul l (g++[q]) G x dx ps' (us++[st])/\Keep [d,pl,ul] H Hf:=by
 have hl:=h.pl'
 have hu:=h.ul'
 simp only [List.length_append,List.length_singleton] at hl
 refine ⟨⟨e1,e2,e3,h.ne,h.gd,h.gp,h.gu,λb o e=>?_,?_,by omega,λi y hi=>?_,?_,λj y hj=>?_⟩,λb o hb e=>?_⟩
 ·rw [e4 b (λz=>by rw [z,h.gd] at e;cases e) (λz=>by rw [z,h.gp] at e;cases e) (λz=>by rw [z,h.gu] at e;cases e)]
  exact h.sG b o e
 ·have:=h.past ps'.length x (by rw [List.getElem?_append_right (Nat.le_refl _),Nat.sub_self];rfl)
  rwa [show ps'.length=l.length by omega,List.take_left] at this
 ·have hi2:i<ps'.length:=(List.getElem?_eq_some_iff.mp hi).1
  have:=h.past i y (by rw [List.getElem?_append_left hi2];exact hi)
  rwa [List.take_append_of_le_length (by omega)] at this
 ·rw [List.length_append,List.length_append,hu];rfl
 ·by_cases hj2:j<us.length
  ·rw [List.getElem?_append_left hj2] at hj
   have:=h.undone j y hj
   rw [List.drop_append_of_le_length (by omega),List.reverse_append]
   simpa using this
  ·have hj3:j=us.length:=by
    have:=(List.getElem?_eq_some_iff.mp hj).1
    rw [List.length_append] at this
    simp at this
    omega
   subst hj3
   rw [List.getElem?_append_right (Nat.le_refl _),Nat.sub_self] at hj
   obtain rfl:st=y:=by simpa using hj
   rw [hu,List.drop_left]
   exact h.now
 ·rw [e4 b (λz=>hb (by rw [z];simp)) (λz=>hb (by rw [z];simp)) (λz=>hb (by rw [z];simp))]
  exact e
theorem DeskIs.redid {q:Addr×Act}{x:Addr}{us':List Addr} (h:DeskIs C CS CD H d pl ul l (g++[q]) G st dx ps (us'++[x])) {Hf:Hp}
  (e1:Hf d=some (.ins CD dx (fldsD x pl ul))) (e2:Hf pl=some (.lst ((ps++[st]).map V.ref))) (e3:Hf ul=some (.lst (us'.map V.ref))) (e4:∀ b,b≠d->b≠pl->b≠ul->Hf b=H b) :
  DeskIs C CS CD Hf d pl ul (l++[q]) g G x dx (ps++[st]) us'/\Keep [d,pl,ul] H Hf:=by
 have hl:=h.pl'
 have hu:=h.ul'
 simp only [List.length_append,List.length_singleton] at hu
 refine ⟨⟨e1,e2,e3,h.ne,h.gd,h.gp,h.gu,λb o e=>?_,?_,?_,λi y hi=>?_,by omega,λj y hj=>?_⟩,λb o hb e=>?_⟩
 ·rw [e4 b (λz=>by rw [z,h.gd] at e;cases e) (λz=>by rw [z,h.gp] at e;cases e) (λz=>by rw [z,h.gu] at e;cases e)]
  exact h.sG b o e
 ·have:=h.undone us'.length x (by rw [List.getElem?_append_right (Nat.le_refl _),Nat.sub_self];rfl)
  rw [show us'.length=g.length by omega,List.drop_left] at this
  simpa using this
 ·rw [List.length_append,List.length_append,hl];rfl
 ·by_cases hi2:i<ps.length
  ·rw [List.getElem?_append_left hi2] at hi
   rw [List.take_append_of_le_length (by omega)]
   exact h.past i y hi
  ·have hi3:i=ps.length:=by
    have:=(List.getElem?_eq_some_iff.mp hi).1
    rw [List.length_append] at this
    simp at this
    omega
   subst hi3
   rw [List.getElem?_append_right (Nat.le_refl _),Nat.sub_self] at hi
   obtain rfl:st=y:=by simpa using hi
   rw [hl,List.take_left]
   exact h.now
 ·have hj2:j<us'.length:=(List.getElem?_eq_some_iff.mp hj).1
  have:=h.undone j y (by rw [List.getElem?_append_left hj2];exact hj)
  rw [List.drop_append_of_le_length (by omega),List.reverse_append] at this
  simpa using this
 ·rw [e4 b (λz=>hb (by rw [z];simp)) (λz=>hb (by rw [z];simp)) (λz=>hb (by rw [z];simp))]
  exact e
theorem last_of {α:Type}{l:List α}{n:Nat} (h:l.length=n+1):∃ a x,l=a++[x]:=by
 rcases List.eq_nil_or_concat l with e|⟨a,x,e⟩
 ·rw [e] at h;cases h
 ·exact ⟨a,x,by rw [e,List.concat_eq_append]⟩
end
def DeskAv (C CS CD:Addr) (H:Hp) (d pl ul:Addr) (l g:Acts) (S:List Addr):Prop:=∃ G st dx ps us,DeskIs C CS CD H d pl ul l g G st dx ps us/\∀ b∈S,G b=none
theorem DeskAv.to {CS CD:Addr}{H:Hp}{d pl ul:Addr}{l g:Acts}{S:List Addr} (h:DeskAv C CS CD H d pl ul l g S):DeskAt C CS CD H d pl ul l g:=
 let ⟨G,st,dx,ps,us,h,_⟩:=h
 ⟨G,st,dx,ps,us,h⟩
theorem DeskAv.same {CS CD:Addr}{H H':Hp}{d pl ul:Addr}{l g:Acts}{S:List Addr} (h:DeskAv C CS CD H d pl ul l g S) (s:Same H H'):DeskAv C CS CD H' d pl ul l g S:=
 let ⟨G,st,dx,ps,us,h,hS⟩:=h
 ⟨G,st,dx,ps,us,h.keep s,hS⟩
def OkA (l:Acts):Prop:=∀ q∈l,q.2.Ok
def spDo (C CS CD:Addr):Sp:=λvs H Q _=>∃ (d pl ul t:Addr) (a:Act) (l g:Acts) (S:List Addr),vs=[.ref d,.ref t]/\DeskAv C CS CD H d pl ul l g S/\(∀ b∈S,H b≠none)/\OkA l/\l.length<=60/\H t=some (.tup a.vs)/\a.Ok/\
 ∀ (H':Hp) (ul':Addr),Keep [d,pl] H H'->H ul'=none->DeskAv C CS CD H' d pl ul' (l++[(t,a)]) [] S->Q .non H'
def spUndo (C CS CD:Addr):Sp:=λvs H Q _=>∃ (d pl ul:Addr) (q:Addr×Act) (l g:Acts) (S:List Addr),vs=[.ref d]/\DeskAv C CS CD H d pl ul (l++[q]) g S/\g.length<=60/\
 ∀ (H':Hp),Keep [d,pl,ul] H H'->DeskAv C CS CD H' d pl ul l (g++[q]) S->Q .non H'
def spRedo (C CS CD:Addr):Sp:=λvs H Q _=>∃ (d pl ul:Addr) (q:Addr×Act) (l g:Acts) (S:List Addr),vs=[.ref d]/\DeskAv C CS CD H d pl ul l (g++[q]) S/\l.length<=60/\
 ∀ (H':Hp),Keep [d,pl,ul] H H'->DeskAv C CS CD H' d pl ul (l++[q]) g S->Q .non H'
section
variable {CS CD CE CB CN:Addr}
theorem ok_do {f:Addr}{fd:FuncData} (F:Fun K "do" "Desk.do" s_Desk_do f fd) (T2:Txt12 K mg CS CD) (DB:Def P w K mg base "behind_deed" ["state","deed"] 6 (spBehind C CS)):FnOk P w K mg base CX0 7 f fd ["self","deed"] (spDo C CS CD):=by
 refine F.ok sc_Desk_do (λvs H Q E h=>?_) (λcdv A outer s H vs Q E hr h=>?_)
 ·obtain ⟨d,pl,ul,t,a,l,g,S,rfl,_⟩:=h
  rfl
 ·obtain ⟨d,pl,ul,t,a,l,g,S,rfl,⟨G,st,dx,ps,us,hD,hGS⟩,hSH,hok,hll,ht,hao,k⟩:=h
  refine' ⟨_,pss_cons (ps_set (i:=2) sc_Desk_do.nd rfl (Or.inl rfl) ?a1) (pss_cons (ps_expr ?a2) (pss_cons (ps_fld (pv 0) (pv 2) rfl) (pss_one (ps_fld (pv 0) (pe_lst pa_nil) rfl)))),?rd⟩
  case a1=>exact pe_callD DB (hr.mono (by decide)) rfl (pa_cons (pe_fld (pv 0) rfl) (pa_cons (pv 1) pa_nil))
  case a2=>exact pe_bm PySem.F.plainAttrs_list PySem.F.slot_list_append PySem.F.type_list_append mt_append (pe_fld (pv 0) rfl) (pa_cons (pe_fld (pv 0) rfl) pa_nil)
  case rd=>
  refine ⟨_,rfl,d,CD,dx,_,_,rfl,hD.at',T2.clD,T2.nP,fldsD_present _ _ _,_,rfl,st,t,a,G,l,rfl,hD.now,hD.sG,hok,hll,ht,hao,λst' H1 s1 hS hn=>?_⟩
  have d1:=s1 _ _ hD.at'
  have p1:=s1 _ _ hD.hp
  have ndp:=hD.dp
  have hpl:=hD.pl'
  refine ⟨_,rfl,d,CD,dx,_,_,rfl,d1,T2.clD,T2.nA,fldsD_past _ _ _,.inl ⟨rfl,_,SqL.of p1⟩,_,rfl,d,CD,dx,_,_,rfl,d1,T2.clD,T2.nP,fldsD_present _ _ _,pl,_,_,rfl,rfl,p1,?_,?_⟩
  ·rw [List.length_map];exact Nat.lt_of_le_of_lt (by omega:ps.length<=60) (by decide)
  refine ⟨_,rfl,_,rfl,d,CD,dx,_,rfl,by rw [upd_ne ndp];exact d1,T2.clD,T2.nP,(by show 3<1000;decide),?_⟩
  rw [putD_present]
  refine ⟨Nat.zero_le _,λul' hul=>?_⟩
  have nud:ul'≠d:=λz=>by rw [z,upd_same] at hul;cases hul
  have nup:ul'≠pl:=λz=>by rw [z,upd_ne (Ne.symm ndp),upd_same] at hul;cases hul
  have hul1:H1 ul'=none:=by rw [upd_ne nud,upd_ne nup] at hul;exact hul
  refine ⟨_,rfl,d,CD,dx,_,rfl,by rw [upd_ne (Ne.symm nud),upd_same],T2.clD,T2.nU,(by show 3<1000;decide),?_⟩
  rw [putD_undone]
  obtain ⟨hD2,hK⟩:=hD.did (st':=st') (ul':=ul') (Hf:=upd (upd (upd (upd H1 pl (.lst (ps.map V.ref++[.ref st]))) d (.ins CD dx (fldsD st' pl ul))) ul' (.lst [])) d (.ins CD dx (fldsD st' pl ul'))) s1 hS hul1 (by rw [upd_same]) (by rw [upd_ne (Ne.symm ndp),upd_ne (Ne.symm nup),upd_ne (Ne.symm ndp),upd_same,List.map_append];rfl) (by rw [upd_ne nud,upd_same]) (λb b1 b2 b3=>by rw [upd_ne b1,upd_ne b3,upd_ne b1,upd_ne b2])
  exact k _ ul' hK (s1.free hul1) ⟨_,_,_,_,_,hD2,λb hb=>Gn.none (hGS b hb) (hSH b hb)⟩
theorem ok_undo {f:Addr}{fd:FuncData} (F:Fun K "undo" "Desk.undo" s_Desk_undo f fd) (T:Txt K mg C) (T2:Txt12 K mg CS CD):FnOk P w K mg base CX0 1 f fd ["self"] (spUndo C CS CD):=by
 refine F.ok sc_Desk_undo (λvs H Q E h=>?_) (λcdv A outer s H vs Q E hr h=>?_)
 ·obtain ⟨d,pl,ul,q,l,g,S,rfl,_⟩:=h
  rfl
 ·obtain ⟨d,pl,ul,q,l,g,S,rfl,⟨G,st,dx,ps,us,hD,hGS⟩,hgl,k⟩:=h
  refine' ⟨_,pss_cons (ps_if ?a1 pss_never pss_nil) (pss_cons (ps_expr ?a2) (pss_one (ps_fld (pv 0) ?a3 rfl))),?rd⟩
  case a1=>exact pt_cmpR op_eq (pe_callB call_len_seq (by rfl) T.len PySem.boot_len (pa_cons (pe_fld (pv 0) rfl) pa_nil)) pe_int (nomark _)
  case a2=>exact pe_bm PySem.F.plainAttrs_list PySem.F.slot_list_append PySem.F.type_list_append mt_append (pe_fld (pv 0) rfl) (pa_cons (pe_fld (pv 0) rfl) pa_nil)
  case a3=>exact pe_bm0 PySem.F.plainAttrs_list PySem.F.slot_list_pop PySem.F.type_list_pop mt_pop (pe_fld (pv 0) rfl)
  case rd=>
  have hpl:=hD.pl'
  have hul:=hD.ul'
  rw [List.length_append,List.length_singleton] at hpl
  obtain ⟨ps',x,rfl⟩:=last_of hpl
  have ndp:=hD.dp
  have ndu:=hD.du
  refine ⟨_,rfl,d,CD,dx,_,_,rfl,hD.at',T2.clD,T2.nA,fldsD_past _ _ _,pl,_,rfl,.inl (SqL.of hD.hp),rfl,_,rfl,iteN ?_ ?_⟩
  ·intro z
   have z2:=of_decide_eq_true z
   rw [List.length_map,hpl] at z2
   injection z2 with z3
   omega
  refine ⟨_,rfl,d,CD,dx,_,_,rfl,hD.at',T2.clD,T2.nU,fldsD_undone _ _ _,.inl ⟨rfl,_,SqL.of hD.hu⟩,_,rfl,d,CD,dx,_,_,rfl,hD.at',T2.clD,T2.nP,fldsD_present _ _ _,ul,_,_,rfl,rfl,hD.hu,?_,?_⟩
  ·rw [List.length_map];exact Nat.lt_of_le_of_lt (by omega:us.length<=60) (by decide)
  refine ⟨_,rfl,d,CD,dx,_,_,rfl,by rw [upd_ne ndu];exact hD.at',T2.clD,T2.nA,fldsD_past _ _ _,.inl ⟨rfl,_,SqL.of (by rw [upd_ne hD.ne];exact hD.hp)⟩,pl,_,.ref x,rfl,rfl,by rw [upd_ne hD.ne];exact hD.hp,by simp,_,rfl,d,CD,dx,_,rfl,by rw [upd_ne ndp,upd_ne ndu];exact hD.at',T2.clD,T2.nP,(by show 3<1000;decide),?_⟩
  rw [putD_present]
  obtain ⟨hD2,hK⟩:=hD.undid (Hf:=upd (upd (upd H ul (.lst (us.map V.ref++[.ref st]))) pl (.lst ((ps'++[x]).map V.ref).dropLast)) d (.ins CD dx (fldsD x pl ul))) (by rw [upd_same]) (by rw [upd_ne (Ne.symm ndp),upd_same];simp) (by rw [upd_ne (Ne.symm ndu),upd_ne (Ne.symm hD.ne),upd_same,List.map_append];rfl) (λb b1 b2 b3=>by rw [upd_ne b1,upd_ne b2,upd_ne b3])
  exact k _ hK ⟨_,_,_,_,_,hD2,hGS⟩
theorem ok_redo {f:Addr}{fd:FuncData} (F:Fun K "redo" "Desk.redo" s_Desk_redo f fd) (T:Txt K mg C) (T2:Txt12 K mg CS CD):FnOk P w K mg base CX0 1 f fd ["self"] (spRedo C CS CD):=by
 refine F.ok sc_Desk_redo (λvs H Q E h=>?_) (λcdv A outer s H vs Q E hr h=>?_)
 ·obtain ⟨d,pl,ul,q,l,g,S,rfl,_⟩:=h
  rfl
 ·obtain ⟨d,pl,ul,q,l,g,S,rfl,⟨G,st,dx,ps,us,hD,hGS⟩,hgl,k⟩:=h
  refine' ⟨_,pss_cons (ps_if ?a1 pss_never pss_nil) (pss_cons (ps_expr ?a2) (pss_one (ps_fld (pv 0) ?a3 rfl))),?rd⟩
  case a1=>exact pt_cmpR op_eq (pe_callB call_len_seq (by rfl) T.len PySem.boot_len (pa_cons (pe_fld (pv 0) rfl) pa_nil)) pe_int (nomark _)
  case a2=>exact pe_bm PySem.F.plainAttrs_list PySem.F.slot_list_append PySem.F.type_list_append mt_append (pe_fld (pv 0) rfl) (pa_cons (pe_fld (pv 0) rfl) pa_nil)
  case a3=>exact pe_bm0 PySem.F.plainAttrs_list PySem.F.slot_list_pop PySem.F.type_list_pop mt_pop (pe_fld (pv 0) rfl)
  case rd=>
  have hpl:=hD.pl'
  have hul:=hD.ul'
  rw [List.length_append,List.length_singleton] at hul
  obtain ⟨us',x,rfl⟩:=last_of hul
  have ndp:=hD.dp
  have ndu:=hD.du
  refine ⟨_,rfl,d,CD,dx,_,_,rfl,hD.at',T2.clD,T2.nU,fldsD_undone _ _ _,ul,_,rfl,.inl (SqL.of hD.hu),rfl,_,rfl,iteN ?_ ?_⟩
  ·intro z
   have z2:=of_decide_eq_true z
   rw [List.length_map,hul] at z2
   injection z2 with z3
   omega
  refine ⟨_,rfl,d,CD,dx,_,_,rfl,hD.at',T2.clD,T2.nA,fldsD_past _ _ _,.inl ⟨rfl,_,SqL.of hD.hp⟩,_,rfl,d,CD,dx,_,_,rfl,hD.at',T2.clD,T2.nP,fldsD_present _ _ _,pl,_,_,rfl,rfl,hD.hp,?_,?_⟩
  ·rw [List.length_map];exact Nat.lt_of_le_of_lt (by omega:ps.length<=60) (by decide)
  refine ⟨_,rfl,d,CD,dx,_,_,rfl,by rw [upd_ne ndp];exact hD.at',T2.clD,T2.nU,fldsD_undone _ _ _,.inl ⟨rfl,_,SqL.of (by rw [upd_ne (Ne.symm hD.ne)];exact hD.hu)⟩,ul,_,.ref x,rfl,rfl,by rw [upd_ne (Ne.symm hD.ne)];exact hD.hu,by simp,_,rfl,d,CD,dx,_,rfl,by rw [upd_ne ndu,upd_ne ndp];exact hD.at',T2.clD,T2.nP,(by show 3<1000;decide),?_⟩
  rw [putD_present]
  obtain ⟨hD2,hK⟩:=hD.redid (Hf:=upd (upd (upd H pl (.lst (ps.map V.ref++[.ref st]))) ul (.lst ((us'++[x]).map V.ref).dropLast)) d (.ins CD dx (fldsD x pl ul))) (by rw [upd_same]) (by rw [upd_ne (Ne.symm ndp),upd_ne hD.ne,upd_same,List.map_append];rfl) (by rw [upd_ne (Ne.symm ndu),upd_same];simp) (λb b1 b2 b3=>by rw [upd_ne b1,upd_ne b3,upd_ne b2])
  exact k _ hK ⟨_,_,_,_,_,hD2,hGS⟩
end
end
section
variable {P:Program}{w:World}{K:PySem.W.Frag}{mg:Str->Option Value}{base:Heap}{C:Addr}
section
variable {CS CD CE CB CN:Addr}
theorem re_undo {f:Addr}{fd:FuncData} (F:Fun K "undo" "Desk.undo" s_Desk_undo f fd) (T:Txt K mg C) (T2:Txt12 K mg CS CD) (R:Errs K mg CE CB CN):FnOk P w K mg base (CXR P w) 1 f fd ["self"] (spRaises CN λvs H=>∃ (d pl ul:Addr) (g:Acts),vs=[.ref d]/\DeskAt C CS CD H d pl ul [] g):=by
 refine Cut.Fun.okR F sc_Desk_undo (λvs H Q E h=>?_) (λcdv A outer s H vs Q E hr h=>?_)
 ·obtain ⟨⟨d,pl,ul,g,rfl,_⟩,_⟩:=h
  rfl
 ·obtain ⟨⟨d,pl,ul,g,rfl,⟨G,st,dx,ps,us,hD⟩⟩,hE⟩:=h
  refine' ⟨_,pss_cons (ps_if ?a1 (pss_one (ps_raise (E:=E) rfl rfl R.mgN R.exN ?b (pa_cons pe_str pa_nil))) pss_nil) pss_never,?rd⟩
  case a1=>exact pt_cmpR op_eq (pe_callB call_len_seq (by rfl) T.len PySem.boot_len (pa_cons (pe_fld (pv 0) rfl) pa_nil)) pe_int (nomark _)
  case b=>exact λpins σ H1 s1 h1 z vs I hm hE=>made_xe I hm hE
  case rd=>
  have hpl:ps=[]:=List.eq_nil_of_length_eq_zero hD.pl'
  refine ⟨_,rfl,d,CD,dx,_,_,rfl,hD.at',T2.clD,T2.nA,fldsD_past _ _ _,pl,_,rfl,.inl (SqL.of hD.hp),rfl,_,rfl,iteP ?_ ⟨by decide,hE⟩⟩
  rw [hpl];exact decide_eq_true rfl
theorem re_redo {f:Addr}{fd:FuncData} (F:Fun K "redo" "Desk.redo" s_Desk_redo f fd) (T:Txt K mg C) (T2:Txt12 K mg CS CD) (R:Errs K mg CE CB CN):FnOk P w K mg base (CXR P w) 1 f fd ["self"] (spRaises CN λvs H=>∃ (d pl ul:Addr) (l:Acts),vs=[.ref d]/\DeskAt C CS CD H d pl ul l []):=by
 refine Cut.Fun.okR F sc_Desk_redo (λvs H Q E h=>?_) (λcdv A outer s H vs Q E hr h=>?_)
 ·obtain ⟨⟨d,pl,ul,l,rfl,_⟩,_⟩:=h
  rfl
 ·obtain ⟨⟨d,pl,ul,l,rfl,⟨G,st,dx,ps,us,hD⟩⟩,hE⟩:=h
  refine' ⟨_,pss_cons (ps_if ?a1 (pss_one (ps_raise (E:=E) rfl rfl R.mgN R.exN ?b (pa_cons pe_str pa_nil))) pss_nil) pss_never,?rd⟩
  case a1=>exact pt_cmpR op_eq (pe_callB call_len_seq (by rfl) T.len PySem.boot_len (pa_cons (pe_fld (pv 0) rfl) pa_nil)) pe_int (nomark _)
  case b=>exact λpins σ H1 s1 h1 z vs I hm hE=>made_xe I hm hE
  case rd=>
  have hul:us=[]:=List.eq_nil_of_length_eq_zero hD.ul'
  refine ⟨_,rfl,d,CD,dx,_,_,rfl,hD.at',T2.clD,T2.nU,fldsD_undone _ _ _,ul,_,rfl,.inl (SqL.of hD.hu),rfl,_,rfl,iteP ?_ ⟨by decide,hE⟩⟩
  rw [hul];exact decide_eq_true rfl
theorem re_do {f:Addr}{fd:FuncData} (F:Fun K "do" "Desk.do" s_Desk_do f fd) (T2:Txt12 K mg CS CD) (RB:DefR P w K mg base "behind_deed" ["state","deed"] 4 (spBehindBad K CS CB)) :
  FnOk P w K mg base (CXR P w) 5 f fd ["self","deed"] (spRaises CB λvs H=>∃ (d pl ul t:Addr) (l g:Acts) (i:Ill),vs=[.ref d,.ref t]/\DeskAt C CS CD H d pl ul l g/\H t=some (.tup i.vs)/\i.Bad/\i.vs[0]?≠some (.str "mark")):=by
 refine Cut.Fun.okR F sc_Desk_do (λvs H Q E h=>?_) (λcdv A outer s H vs Q E hr h=>?_)
 ·obtain ⟨⟨d,pl,ul,t,l,g,i,rfl,_⟩,_⟩:=h
  rfl
 ·obtain ⟨⟨d,pl,ul,t,l,g,i,rfl,⟨G,st,dx,ps,us,hD⟩,ht,hb,hm⟩,hE⟩:=h
  refine' ⟨_,pss_cons (ps_set (i:=2) sc_Desk_do.nd rfl (Or.inl rfl) ?a1) pss_never,?rd⟩
  case a1=>exact pe_callR (E:=E) RB (hr.mono (by decide)) pass_on rfl (pa_cons (pe_fld (pv 0) rfl) (pa_cons (pv 1) pa_nil))
  case rd=>
  obtain ⟨dx',p,m,v,qs,e1,_⟩:=hD.now
  exact ⟨_,rfl,d,CD,dx,_,_,rfl,hD.at',T2.clD,T2.nP,fldsD_present _ _ _,_,rfl,⟨st,t,dx',p,m,i,rfl,hD.sG _ _ e1,ht,hb,hm⟩,hE⟩
def spDLine (C CS CD:Addr):Sp:=λvs H Q _=>∃ (d pl ul:Addr) (l g:Acts),vs=[.ref d]/\DeskAt C CS CD H d pl ul l g/\l.length<=60/\
 ∀ (p:Addr) (H':Hp) (v:V) (qs:List (Int×V)),Same H H'->LineNew C H H' p v qs->Form v qs->qs.length<=2 * l.length->(∀ x,atL v qs x=valD (deedsA l) x)->Q (.ref p) H'
theorem ok_dline {f:Addr}{fd:FuncData} (F:Fun K "line" "Desk.line" s_Desk_line f fd) (T:Txt K mg C) (T2:Txt12 K mg CS CD) (DL:Def P w K mg base "line_of" ["cuts","holds"] 3 (spLineOf K C)):FnOk P w K mg base CX0 4 f fd ["self"] (spDLine C CS CD):=by
 refine F.ok sc_Desk_line (λvs H Q E h=>?_) (λcdv A outer s H vs Q E hr h=>?_)
 ·obtain ⟨d,pl,ul,l,g,rfl,_⟩:=h
  rfl
 ·obtain ⟨d,pl,ul,l,g,rfl,⟨G,st,dx,ps,us,hD⟩,hll,k⟩:=h
  refine' ⟨_,pss_cons (ps_set (i:=1) sc_Desk_line.nd rfl (Or.inl rfl) (pe_fld (pe_fld (pv 0) rfl) rfl)) (pss_one (ps_ret ?a1)),?rd⟩
  case a1=>exact pe_callD DL (hr.mono (by decide)) rfl (pa_cons (pe_fld (pv 1) rfl) (pa_cons (pe_fld (pv 1) rfl) pa_nil))
  case rd=>
  obtain ⟨dx',p,m,v,qs,e1,e2,hF,hql,hv,e3⟩:=hD.now
  have e1':=hD.sG _ _ e1
  obtain ⟨dxl,a,b,l1,l2,l3⟩:=e2.same hD.sG
  refine ⟨_,rfl,d,CD,dx,_,_,rfl,hD.at',T2.clD,T2.nP,fldsD_present _ _ _,st,CS,dx',_,_,rfl,e1',T2.clS,T2.nD,fldsS_drawn _ _,?_⟩
  refine ⟨_,rfl,p,C,dxl,_,_,rfl,l1,T.cl,T.nC,flds_cuts _ _,_,rfl,p,C,dxl,_,_,rfl,l1,T.cl,T.nH,flds_holds _ _,a,b,v,qs,rfl,SqL.of l2,SqL.of l3,hF.hh,by omega,λp' H' s' ln=>?_⟩
  rw [hF.again] at ln
  exact k p' H' v qs s' ln hF hql hv
def spWhere (C CS CD:Addr):Sp:=λvs H Q _=>∃ (d pl ul:Addr) (l g:Acts) (n:Str),vs=[.ref d,.str n]/\DeskAt C CS CD H d pl ul l g/\Q ((valV (kvM (marksA l)) (Sum.inr n)).getD .non) H
theorem ok_where {f:Addr}{fd:FuncData} (F:Fun K "where" "Desk.where" s_Desk_where f fd) (T2:Txt12 K mg CS CD):FnOk P w K mg base CX0 1 f fd ["self","name"] (spWhere C CS CD):=by
 refine F.ok sc_Desk_where (λvs H Q E h=>?_) (λcdv A outer s H vs Q E hr h=>?_)
 ·obtain ⟨d,pl,ul,l,g,n,rfl,_⟩:=h
  rfl
 ·obtain ⟨d,pl,ul,l,g,n,rfl,⟨G,st,dx,ps,us,hD⟩,k⟩:=h
  have hu:=Nat.lt_of_lt_of_le (Nat.add_lt_add_left (by decide:1<16) _) (hu16 hr)
  refine' ⟨_,pss_one (ps_ret (pe_dget1 hu (pe_fld (pe_fld (pv 0) rfl) rfl) (pv 1) ⟨rfl,rfl,rfl,rfl⟩)),?rd⟩
  obtain ⟨dx',p,m,v,qs,e1,e2,hF,hql,hv,e3⟩:=hD.now
  exact ⟨_,rfl,d,CD,dx,_,_,rfl,hD.at',T2.clD,T2.nP,fldsD_present _ _ _,st,CS,dx',_,_,rfl,hD.sG _ _ e1,T2.clS,T2.nM,fldsS_marks _ _,m,rfl,.inl ⟨_,.inl (hD.sG _ _ e3)⟩,_,rfl,_,DGet.k (k:=Sum.inr n) (hD.sG _ _ e3),k⟩
theorem kvM_strs (m:Marks):((kvM m).map λp=>kV p.1)=(m.map (·.1)).map V.str:=by
 unfold kvM
 rw [List.map_map,List.map_map];rfl
def spDNames (C CS CD:Addr):Sp:=λvs H Q _=>∃ (d pl ul:Addr) (l g:Acts),vs=[.ref d]/\DeskAt C CS CD H d pl ul l g/\OkA l/\∀ (r:Addr) (τ:List Str),H r=none->τ.Perm ((marksA l).map (·.1))->sortedS τ=true->Q (.ref r) (upd H r (.lst (τ.map V.str)))
theorem ok_dnames {f:Addr}{fd:FuncData} (F:Fun K "names" "Desk.names" s_Desk_names f fd) (T:Txt K mg C) (T2:Txt12 K mg CS CD):FnOk P w K mg base CX0 1 f fd ["self"] (spDNames C CS CD):=by
 refine F.ok sc_Desk_names (λvs H Q E h=>?_) (λcdv A outer s H vs Q E hr h=>?_)
 ·obtain ⟨d,pl,ul,l,g,rfl,_⟩:=h
  rfl
 ·obtain ⟨d,pl,ul,l,g,rfl,⟨G,st,dx,ps,us,hD⟩,hok,k⟩:=h
  refine' ⟨_,pss_one (ps_ret (pe_callB (call_sorted_dict rfl) rfl T.sorted boot_sorted (pa_cons (pe_fld (pe_fld (pv 0) rfl) rfl) pa_nil))),?rd⟩
  obtain ⟨dx',p,m,v,qs,e1,e2,hF,hql,hv,e3⟩:=hD.now
  exact ⟨_,rfl,d,CD,dx,_,_,rfl,hD.at',T2.clD,T2.nP,fldsD_present _ _ _,st,CS,dx',_,_,rfl,hD.sG _ _ e1,T2.clS,T2.nM,fldsS_marks _ _,m,_,_,rfl,hD.sG _ _ e3,kvM_strs _,by rw [List.length_map];exact Nat.lt_of_le_of_lt (marksA_len hok) (by decide),k⟩
end
end
section
variable {P:Program}{w:World}{K:PySem.W.Frag}{mg:Str->Option Value}{base:Heap}{C:Addr}
inductive Op where
 |undo
 |redo
 |act (a:Act)
 |ill (i:Ill)
def Op.vs:Op->List V
 | .undo=>[.str "undo"]
 | .redo=>[.str "redo"]
 | .act a=>a.vs
 | .ill i=>i.vs
def Ill.Law:Ill->Prop
 | .word x _ _=>x="shut"
 |_=>True
def Op.Ok:Op->Prop
 | .act a=>a.Ok
 | .ill i=>i.Bad/\i.Law
 |_=>True
def Op.told (l g:Acts):Op->V
 | .undo=>if l=[] then .str "none" else .non
 | .redo=>if g=[] then .str "none" else .non
 | .act _=>.non
 | .ill _=>.str "bad"
def Op.nl (t:Addr) (l g:Acts):Op->Acts
 | .undo=>l.dropLast
 | .redo=>l++g.getLast?.toList
 | .act a=>l++[(t,a)]
 | .ill _=>l
def Op.ng (l g:Acts):Op->Acts
 | .undo=>g++l.getLast?.toList
 | .redo=>g.dropLast
 | .act _=>[]
 | .ill _=>g
def spIll (K:PySem.W.Frag):Sp:=λvs H Q _=>∃ t:Addr,vs=[.ref t]/\((∃ a:Act,SqT K H t a.vs/\a.Ok/\Q (.bl false) H)∨(∃ i:Ill,SqT K H t i.vs/\i.Bad/\i.Law/\Q (.bl true) H))
theorem ok_ill {f:Addr}{fd:FuncData} (F:Fun K "_law_ill" "_law_ill" s_law_ill f fd):FnOk P w K mg base CX0 1 f fd ["deed"] (spIll K):=by
 refine F.ok sc_law_ill (λvs H Q E h=>?_) (λcdv A outer s H vs Q E hr h=>?_)
 ·obtain ⟨t,rfl,_⟩:=h
  rfl
 ·obtain ⟨t,rfl,k⟩:=h
  refine' ⟨_,pss_cons (ps_if ?a1 (pss_one (ps_ret ?a2)) pss_nil) (pss_one (ps_ret ?a3)),?rd⟩
  case a1=>
   refine' PW.pt (pw_or ?x (pw_or1 ?y))
   case x=>exact pt_cmpR op_eq (pe_ix ix_tup (pv 0) pe_int (λ_ _=>rfl)) pe_str (nomark _)
   case y=>exact pt_cmpR op_eq (pe_ix ix_tup (pv 0) pe_int (λ_ _=>rfl)) pe_str (nomark _)
  case a2=>exact pe_cmpR op_lt (pe_ix ix_tup (pv 0) pe_int (λ_ _=>rfl)) pe_int (nomark _)
  case a3=>exact pe_or (pe_cmpR op_eq (pe_ix ix_tup (pv 0) pe_int (λ_ _=>rfl)) pe_str (nomark _)) (pe_one (pe_and (pe_cmpR op_eq (pe_ix ix_tup (pv 0) pe_int (λ_ _=>rfl)) pe_str (nomark _)) (pe_one (pe_cmpR op_lt (pe_ix ix_tup (pv 0) pe_int (λ_ _=>rfl)) pe_int (nomark _)))))
  case rd=>
  rcases k with ⟨a,g,hok,q⟩|⟨i,g,hb,hl,q⟩
  ·cases a with
   |mark n p=>
    refine ⟨_,rfl,t,_,_,_,rfl,rfl,g,atN (j:=0) rfl rfl,rfl,_,rfl,iteN (by decide +kernel) ?_⟩
    refine ⟨_,rfl,t,_,_,_,rfl,rfl,g,atN (j:=0) rfl rfl,rfl,_,rfl,iteN (by decide +kernel) ?_⟩
    refine ⟨_,rfl,t,_,_,_,rfl,rfl,g,atN (j:=0) rfl rfl,rfl,_,rfl,iteN (by decide +kernel) ?_⟩
    exact ⟨_,rfl,t,_,_,_,rfl,rfl,g,atN (j:=0) rfl rfl,rfl,_,rfl,iteN (by decide +kernel) q⟩
   |deed d=>
    cases d with
    |put s e u=>
     refine ⟨_,rfl,t,_,_,_,rfl,rfl,g,atN (j:=0) rfl rfl,rfl,_,rfl,iteN (by decide +kernel) ?_⟩
     refine ⟨_,rfl,t,_,_,_,rfl,rfl,g,atN (j:=0) rfl rfl,rfl,_,rfl,iteN (by decide +kernel) ?_⟩
     refine ⟨_,rfl,t,_,_,_,rfl,rfl,g,atN (j:=0) rfl rfl,rfl,_,rfl,iteN (by decide +kernel) ?_⟩
     exact ⟨_,rfl,t,_,_,_,rfl,rfl,g,atN (j:=0) rfl rfl,rfl,_,rfl,iteN (by decide +kernel) q⟩
    |opn p n=>
     have h0:0<=n:=hok
     refine ⟨_,rfl,t,_,_,_,rfl,rfl,g,atN (j:=0) rfl rfl,rfl,_,rfl,iteP (by decide +kernel) ?_⟩
     refine iteT ⟨_,rfl,t,_,_,_,rfl,rfl,g,atN (j:=2) rfl rfl,_,_,rfl,rfl,?_⟩
     show Q (.bl (decide (n<0))) H
     rw [decide_eq_false (by omega)];exact q
    |cls p n=>
     have h0:0<=n:=hok
     refine ⟨_,rfl,t,_,_,_,rfl,rfl,g,atN (j:=0) rfl rfl,rfl,_,rfl,iteN (by decide +kernel) ?_⟩
     refine ⟨_,rfl,t,_,_,_,rfl,rfl,g,atN (j:=0) rfl rfl,rfl,_,rfl,iteP (by decide +kernel) ?_⟩
     refine ⟨_,rfl,t,_,_,_,rfl,rfl,g,atN (j:=2) rfl rfl,_,_,rfl,rfl,?_⟩
     show Q (.bl (decide (n<0))) H
     rw [decide_eq_false (by omega)];exact q
    |str n=>
     have h0:1<=n:=hok.1
     refine ⟨_,rfl,t,_,_,_,rfl,rfl,g,atN (j:=0) rfl rfl,rfl,_,rfl,iteN (by decide +kernel) ?_⟩
     refine ⟨_,rfl,t,_,_,_,rfl,rfl,g,atN (j:=0) rfl rfl,rfl,_,rfl,iteN (by decide +kernel) ?_⟩
     refine ⟨_,rfl,t,_,_,_,rfl,rfl,g,atN (j:=0) rfl rfl,rfl,_,rfl,iteN (by decide +kernel) ?_⟩
     refine ⟨_,rfl,t,_,_,_,rfl,rfl,g,atN (j:=0) rfl rfl,rfl,_,rfl,iteP (by decide +kernel) ?_⟩
     refine ⟨_,rfl,t,_,_,_,rfl,rfl,g,atN (j:=1) rfl rfl,_,_,rfl,rfl,?_⟩
     show Q (.bl (decide (n<1))) H
     rw [decide_eq_false (by omega)];exact q
  ·cases i with
   |opn p n=>
    have h0:n<0:=hb
    refine ⟨_,rfl,t,_,_,_,rfl,rfl,g,atN (j:=0) rfl rfl,rfl,_,rfl,iteP (by decide +kernel) ?_⟩
    refine iteT ⟨_,rfl,t,_,_,_,rfl,rfl,g,atN (j:=2) rfl rfl,_,_,rfl,rfl,?_⟩
    show Q (.bl (decide (n<0))) H
    rw [decide_eq_true h0];exact q
   |cls p n=>
    have h0:n<0:=hb
    refine ⟨_,rfl,t,_,_,_,rfl,rfl,g,atN (j:=0) rfl rfl,rfl,_,rfl,iteN (by decide +kernel) ?_⟩
    refine ⟨_,rfl,t,_,_,_,rfl,rfl,g,atN (j:=0) rfl rfl,rfl,_,rfl,iteP (by decide +kernel) ?_⟩
    refine ⟨_,rfl,t,_,_,_,rfl,rfl,g,atN (j:=2) rfl rfl,_,_,rfl,rfl,?_⟩
    show Q (.bl (decide (n<0))) H
    rw [decide_eq_true h0];exact q
   |str n=>
    have h0:n<1:=hb
    refine ⟨_,rfl,t,_,_,_,rfl,rfl,g,atN (j:=0) rfl rfl,rfl,_,rfl,iteN (by decide +kernel) ?_⟩
    refine ⟨_,rfl,t,_,_,_,rfl,rfl,g,atN (j:=0) rfl rfl,rfl,_,rfl,iteN (by decide +kernel) ?_⟩
    refine ⟨_,rfl,t,_,_,_,rfl,rfl,g,atN (j:=0) rfl rfl,rfl,_,rfl,iteN (by decide +kernel) ?_⟩
    refine ⟨_,rfl,t,_,_,_,rfl,rfl,g,atN (j:=0) rfl rfl,rfl,_,rfl,iteP (by decide +kernel) ?_⟩
    refine ⟨_,rfl,t,_,_,_,rfl,rfl,g,atN (j:=1) rfl rfl,_,_,rfl,rfl,?_⟩
    show Q (.bl (decide (n<1))) H
    rw [decide_eq_true h0];exact q
   |word x p n=>
    have hx:x="shut":=hl
    subst hx
    refine ⟨_,rfl,t,_,_,_,rfl,rfl,g,atN (j:=0) rfl rfl,rfl,_,rfl,iteN (by decide +kernel) ?_⟩
    refine ⟨_,rfl,t,_,_,_,rfl,rfl,g,atN (j:=0) rfl rfl,rfl,_,rfl,iteN (by decide +kernel) ?_⟩
    exact ⟨_,rfl,t,_,_,_,rfl,rfl,g,atN (j:=0) rfl rfl,rfl,_,rfl,iteP (by decide +kernel) q⟩
def spMoved (K:PySem.W.Frag):Sp:=λvs H Q _=>∃ (t:Addr) (x:Int) (d:Deed),vs=[.ref t,.int x]/\SqT K H t d.vs/\d.Ok/\Q (.int (d.carry x)) H
theorem ok_moved {f:Addr}{fd:FuncData} (F:Fun K "_law_moved" "_law_moved" s_law_moved f fd) (T:Txt K mg C):FnOk P w K mg base CX0 1 f fd ["deed","place"] (spMoved K):=by
 refine F.ok sc_law_moved (λvs H Q E h=>?_) (λcdv A outer s H vs Q E hr h=>?_)
 ·obtain ⟨t,x,d,rfl,_⟩:=h
  rfl
 ·obtain ⟨t,x,d,rfl,g,hok,k⟩:=h
  refine' ⟨_,pss_cons (ps_if ?a1 (pss_one (ps_ret ?a2)) pss_nil) (pss_cons (ps_if ?b1 (pss_one (ps_ret ?b2)) pss_nil) (pss_cons (ps_if ?c1 (pss_one (ps_ret ?c2)) pss_nil) (pss_one (ps_ret (pv 1))))),?rd⟩
  case a1=>
   refine' PW.pt (pw_and ?x (pw_and1 ?y))
   case x=>exact pt_cmpR op_eq (pe_ix ix_tup (pv 0) pe_int (λ_ _=>rfl)) pe_str (nomark _)
   case y=>exact pt_cmpR op_ge (pv 1) (pe_ix ix_tup (pv 0) pe_int (λ_ _=>rfl)) (nomark _)
  case a2=>exact pe_op op_add (pv 1) (pe_ix ix_tup (pv 0) pe_int (λ_ _=>rfl))
  case b1=>
   refine' PW.pt (pw_and ?x (pw_and1 ?y))
   case x=>exact pt_cmpR op_eq (pe_ix ix_tup (pv 0) pe_int (λ_ _=>rfl)) pe_str (nomark _)
   case y=>exact pt_cmpR op_ge (pv 1) (pe_ix ix_tup (pv 0) pe_int (λ_ _=>rfl)) (nomark _)
  case b2=>exact pe_callB (call_max2 rfl) rfl T.max boot_max (pa_cons (pe_ix ix_tup (pv 0) pe_int (λ_ _=>rfl)) (pa_cons (pe_op op_sub (pv 1) (pe_ix ix_tup (pv 0) pe_int (λ_ _=>rfl))) pa_nil))
  case c1=>exact pt_cmpR op_eq (pe_ix ix_tup (pv 0) pe_int (λ_ _=>rfl)) pe_str (nomark _)
  case c2=>exact pe_op op_mul (pv 1) (pe_ix ix_tup (pv 0) pe_int (λ_ _=>rfl))
  case rd=>
  cases d with
  |put s e u=>
   refine ⟨_,rfl,t,_,_,_,rfl,rfl,g,atN (j:=0) rfl rfl,rfl,_,rfl,iteN (by decide +kernel) ?_⟩
   refine ⟨_,rfl,t,_,_,_,rfl,rfl,g,atN (j:=0) rfl rfl,rfl,_,rfl,iteN (by decide +kernel) ?_⟩
   exact ⟨_,rfl,t,_,_,_,rfl,rfl,g,atN (j:=0) rfl rfl,rfl,_,rfl,iteN (by decide +kernel) ⟨_,rfl,k⟩⟩
  |opn p n=>
   have k':Q (.int (if x<p then x else x+n)) H:=k
   refine ⟨_,rfl,t,_,_,_,rfl,rfl,g,atN (j:=0) rfl rfl,rfl,_,rfl,iteP (by decide +kernel) ?_⟩
   refine ⟨_,rfl,_,rfl,t,_,_,_,rfl,rfl,g,atN (j:=1) rfl rfl,_,_,rfl,rfl,_,rfl,ite2 (λhc=>?_) (λhc=>?_)⟩
   ·have:=of_decide_eq_true hc
    rw [if_neg (by omega)] at k'
    exact ⟨_,rfl,_,rfl,t,_,_,_,rfl,rfl,g,atN (j:=2) rfl rfl,_,_,rfl,rfl,k'⟩
   ·have:=of_decide_eq_false (Bool.eq_false_iff.mpr hc)
    rw [if_pos (by omega)] at k'
    refine ⟨_,rfl,t,_,_,_,rfl,rfl,g,atN (j:=0) rfl rfl,rfl,_,rfl,iteN (by decide +kernel) ?_⟩
    exact ⟨_,rfl,t,_,_,_,rfl,rfl,g,atN (j:=0) rfl rfl,rfl,_,rfl,iteN (by decide +kernel) ⟨_,rfl,k'⟩⟩
  |cls p n=>
   have k':Q (.int (if x<p then x else if x-n > p then x-n else p)) H:=k
   refine ⟨_,rfl,t,_,_,_,rfl,rfl,g,atN (j:=0) rfl rfl,rfl,_,rfl,iteN (by decide +kernel) ?_⟩
   refine ⟨_,rfl,t,_,_,_,rfl,rfl,g,atN (j:=0) rfl rfl,rfl,_,rfl,iteP (by decide +kernel) ?_⟩
   refine ⟨_,rfl,_,rfl,t,_,_,_,rfl,rfl,g,atN (j:=1) rfl rfl,_,_,rfl,rfl,_,rfl,ite2 (λhc=>?_) (λhc=>?_)⟩
   ·have:=of_decide_eq_true hc
    rw [if_neg (by omega)] at k'
    exact ⟨_,rfl,t,_,_,_,rfl,rfl,g,atN (j:=1) rfl rfl,_,rfl,_,rfl,t,_,_,_,rfl,rfl,g,atN (j:=2) rfl rfl,_,_,rfl,rfl,_,_,rfl,k'⟩
   ·have:=of_decide_eq_false (Bool.eq_false_iff.mpr hc)
    rw [if_pos (by omega)] at k'
    exact ⟨_,rfl,t,_,_,_,rfl,rfl,g,atN (j:=0) rfl rfl,rfl,_,rfl,iteN (by decide +kernel) ⟨_,rfl,k'⟩⟩
  |str n=>
   have h1:1<=n:=hok.1
   have h3:n<=3:=hok.2
   refine ⟨_,rfl,t,_,_,_,rfl,rfl,g,atN (j:=0) rfl rfl,rfl,_,rfl,iteN (by decide +kernel) ?_⟩
   refine ⟨_,rfl,t,_,_,_,rfl,rfl,g,atN (j:=0) rfl rfl,rfl,_,rfl,iteN (by decide +kernel) ?_⟩
   refine ⟨_,rfl,t,_,_,_,rfl,rfl,g,atN (j:=0) rfl rfl,rfl,_,rfl,iteP (by decide +kernel) ?_⟩
   exact ⟨_,rfl,_,rfl,t,_,_,_,rfl,rfl,g,atN (j:=1) rfl rfl,_,_,rfl,rfl,.inr ⟨by omega,by omega⟩,k⟩
end
section
variable {P:Program}{w:World}{K:PySem.W.Frag}{mg:Str->Option Value}{base:Heap}{C:Addr}
def spNext (K:PySem.W.Frag):Sp:=λvs H Q _=>∃ (c o:Int) (l:Addr) (ts:List V),vs=[.int c,.int o,.ref l]/\Names K H l ts/\∀ (t:Addr) (H':Hp) (op:Op),Same H H'->H t=none->H' t=some (.tup op.vs)->op.Ok->Q (.ref t) H'
theorem ok_next {f:Addr}{fd:FuncData} (F:Fun K "_law_next" "_law_next" s_law_next f fd) (DD:Def P w K mg base "_law_deed" ["one","two","names"] 1 (spDeed K)):FnOk P w K mg base CX0 2 f fd ["cell","other","names"] (spNext K):=by
 refine F.ok sc_law_next (λvs H Q E h=>?_) (λcdv A outer s H vs Q E hr h=>?_)
 ·obtain ⟨c,o,l,ts,rfl,_⟩:=h
  rfl
 ·obtain ⟨c,o,l,ts,rfl,hN,k⟩:=h
  refine' ⟨_,pss_cons (ps_if ?a1 (pss_one (ps_ret (pe_tup (pa_cons pe_str pa_nil)))) pss_nil)
   (pss_cons (ps_if ?a2 (pss_one (ps_ret (pe_tup (pa_cons pe_str pa_nil)))) pss_nil)
   (pss_cons (ps_if ?a3 (pss_one (ps_ret ?b3)) pss_nil)
   (pss_cons (ps_if ?a4 (pss_cons (ps_set (i:=3) sc_law_next.nd rfl (Or.inl rfl) ?c1) (pss_one (ps_ret ?c2))) pss_nil)
   (pss_one (ps_ret ?d1))))),?rd⟩
  case a1=>exact pt_cmpR op_eq (pe_op op_mod (pe_op op_fdiv (pv 0) pe_int) pe_int) pe_int (nomark _)
  case a2=>exact pt_cmpR op_eq (pe_op op_mod (pe_op op_fdiv (pv 0) pe_int) pe_int) pe_int (nomark _)
  case a3=>exact pt_cmpR op_eq (pe_op op_mod (pe_op op_fdiv (pv 0) pe_int) pe_int) pe_int (nomark _)
  case a4=>exact pt_cmpR op_eq (pe_op op_mod (pe_op op_fdiv (pv 0) pe_int) pe_int) pe_int (nomark _)
  case b3=>
   refine' pe_tup (pa_cons pe_str (pa_cons ?x1 (pa_cons ?x2 pa_nil)))
   case x1=>
    refine' pe_ix ?u1 ?u2 ?u3 ?u4
    case u1=>exact ix_list
    case u2=>exact pe_lst (pa_cons pe_str (pa_cons pe_str (pa_cons pe_str pa_nil)))
    case u3=>exact pe_op op_mod (pv 1) pe_int
    case u4=>exact λ_ _=>rfl
   case x2=>exact pe_op op_sub (pe_op op_mod (pe_op op_fdiv (pv 1) pe_int) pe_int) pe_int
  case c1=>exact pe_op op_sub (pe_un un_neg pe_int) (pe_op op_mod (pe_op op_fdiv (pv 1) pe_int) pe_int)
  case c2=>
   refine' pe_ix ?u1 ?u2 ?u3 ?u4
   case u1=>exact ix_list
   case u2=>
    refine' pe_lst (pa_cons (pe_tup ?y1) (pa_cons (pe_tup ?y2) (pa_cons (pe_tup ?y3) (pa_cons (pe_tup ?y4) pa_nil))))
    case y1=>exact pa_cons pe_str (pa_cons (pe_op op_mod (pv 1) pe_int) (pa_cons (pv 3) pa_nil))
    case y2=>exact pa_cons pe_str (pa_cons (pe_op op_mod (pv 1) pe_int) (pa_cons (pv 3) pa_nil))
    case y3=>exact pa_cons pe_str (pa_cons (pe_op op_add (pv 3) pe_int) pa_nil)
    case y4=>exact pa_cons pe_str (pa_cons pe_int (pa_cons pe_int pa_nil))
   case u3=>exact pe_op op_mod (pv 1) pe_int
   case u4=>exact λ_ _=>rfl
  case d1=>
   refine' pe_callD DD hr rfl (pa_cons ?x1 (pa_cons (pv 1) (pa_cons (pv 2) pa_nil)))
   case x1=>exact pe_op op_add (pe_op op_mul (pe_op op_fdiv (pv 0) pe_int) pe_int) (pe_op op_mod (pv 0) pe_int)
  case rd=>
  refine ⟨_,rfl,_,_,rfl,rfl,⟨by decide,by decide⟩,_,_,rfl,rfl,(by show (0:Int)<10;decide),rfl,_,rfl,ite2 (λ_=>?_) (λ_=>?_)⟩
  ·exact ⟨smallL (by show 1<=2000;decide),λt ht=>k t _ .undo (Same.new ht) ht upd_same trivial⟩
  refine ⟨_,rfl,_,_,rfl,rfl,⟨by decide,by decide⟩,_,_,rfl,rfl,(by show (0:Int)<10;decide),rfl,_,rfl,ite2 (λ_=>?_) (λ_=>?_)⟩
  ·exact ⟨smallL (by show 1<=2000;decide),λt ht=>k t _ .redo (Same.new ht) ht upd_same trivial⟩
  refine ⟨_,rfl,_,_,rfl,rfl,⟨by decide,by decide⟩,_,_,rfl,rfl,(by show (0:Int)<10;decide),rfl,_,rfl,ite2 (λ_=>?_) (λ_=>?_)⟩
  ·refine ⟨smallL (by show 3<=2000;decide),λr hr0=>?_⟩
   obtain ⟨u,hu,eu⟩:=in_list (ts:=[V.str "a",V.str "peg",V.str "zz"]) (Int.emod_nonneg o (by decide:(3:Int)≠0)) (Int.emod_lt_of_pos o (by decide))
   have s1:Same H (upd H r (.lst [V.str "a",V.str "peg",V.str "zz"])):=Same.new hr0
   refine ⟨_,rfl,_,_,rfl,rfl,(by show (0:Int)<3;decide),r,_,_,u,rfl,rfl,SqL.of upd_same,eu,_,rfl,_,_,rfl,rfl,⟨by decide,by decide⟩,_,_,rfl,rfl,(by show (0:Int)<41;decide),_,_,rfl,rfl,smallL (by show 3<=2000;decide),λt ht=>?_⟩
   have ht0:=s1.free ht
   obtain ⟨n,hn,rfl⟩:∃ n:Str,Nm n/\V.str n=u:=by
    rcases List.mem_cons.mp hu with e|hu
    ·exact ⟨_,.inl rfl,e.symm⟩
    rcases List.mem_cons.mp hu with e|hu
    ·exact ⟨_,.inr (.inl rfl),e.symm⟩
    exact ⟨_,.inr (.inr rfl),(List.mem_singleton.mp hu).symm⟩
   exact k t _ (.act (.mark n _)) (Same.upd s1 ht0) ht0 upd_same hn
  refine ⟨_,rfl,_,_,rfl,rfl,⟨by decide,by decide⟩,_,_,rfl,rfl,(by show (0:Int)<10;decide),rfl,_,rfl,ite2 (λ_=>?_) (λ_=>?_)⟩
  ·refine ⟨_,rfl,_,rfl,_,_,rfl,rfl,⟨by decide,by decide⟩,_,_,rfl,rfl,(by show (0:Int)<5;decide),_,_,rfl,rfl,?_⟩
   have h5:=Int.emod_nonneg (o / 9) (by decide:(5:Int)≠0)
   have hil0:-1-o / 9 % 5<0:=by omega
   refine ⟨_,rfl,_,_,rfl,rfl,(by show (0:Int)<9;decide),_,rfl,smallL (by show 3<=2000;decide),λt1 h1=>?_⟩
   refine ⟨_,rfl,_,_,rfl,rfl,(by show (0:Int)<9;decide),_,rfl,smallL (by show 3<=2000;decide),λt2 h2=>?_⟩
   refine ⟨_,rfl,_,_,rfl,rfl,smallL (by show 2<=2000;decide),λt3 h3=>?_⟩
   refine ⟨smallL (by show 3<=2000;decide),λt4 h4=>?_⟩
   refine ⟨smallL (by show 4<=2000;decide),λr hr0=>?_⟩
   obtain ⟨H1,e1⟩:∃ H1:Hp,H1=upd H t1 (.tup (Op.ill (.opn (o % 9) (-1-o / 9 % 5))).vs):=⟨_,rfl⟩
   have h2:H1 t2=none:=by rw [e1];exact h2
   obtain ⟨H2,e2⟩:∃ H2:Hp,H2=upd H1 t2 (.tup (Op.ill (.cls (o % 9) (-1-o / 9 % 5))).vs):=⟨_,rfl⟩
   have h3:H2 t3=none:=by rw [e2,e1];exact h3
   obtain ⟨H3,e3⟩:∃ H3:Hp,H3=upd H2 t3 (.tup (Op.ill (.str ((-1-o / 9 % 5)+1))).vs):=⟨_,rfl⟩
   have h4:H3 t4=none:=by rw [e3,e2,e1];exact h4
   obtain ⟨H4,e4⟩:∃ H4:Hp,H4=upd H3 t4 (.tup (Op.ill (.word "shut" 1 1)).vs):=⟨_,rfl⟩
   have hr0:H4 r=none:=by rw [e4,e3,e2,e1];exact hr0
   have s1:Same H H1:=e1 ▸ Same.new h1
   have s2:Same H1 H2:=e2 ▸ Same.new h2
   have s3:Same H2 H3:=e3 ▸ Same.new h3
   have s4:Same H3 H4:=e4 ▸ Same.new h4
   have s5:Same H4 (upd H4 r (.lst [.ref t1,.ref t2,.ref t3,.ref t4])):=Same.new hr0
   obtain ⟨u,hu,eu⟩:=in_list (ts:=[V.ref t1,V.ref t2,V.ref t3,V.ref t4]) (Int.emod_nonneg o (by decide:(4:Int)≠0)) (Int.emod_lt_of_pos o (by decide))
   refine ⟨_,rfl,_,_,rfl,rfl,(by show (0:Int)<4;decide),r,_,_,u,rfl,rfl,SqL.of upd_same,eu,?_⟩
   have g1:H1 t1=some (.tup (Op.ill (.opn (o % 9) (-1-o / 9 % 5))).vs):=e1 ▸ upd_same
   have g2:H2 t2=some (.tup (Op.ill (.cls (o % 9) (-1-o / 9 % 5))).vs):=e2 ▸ upd_same
   have g3:H3 t3=some (.tup (Op.ill (.str ((-1-o / 9 % 5)+1))).vs):=e3 ▸ upd_same
   have g4:H4 t4=some (.tup (Op.ill (.word "shut" 1 1)).vs):=e4 ▸ upd_same
   have sA:Same H (upd H4 r (.lst [.ref t1,.ref t2,.ref t3,.ref t4])):=s1.trans (s2.trans (s3.trans (s4.trans s5)))
   have n2:=s1.free h2
   have n3:=s1.free (s2.free h3)
   have n4:=s1.free (s2.free (s3.free h4))
   have g1:=s5 _ _ (s4 _ _ (s3 _ _ (s2 _ _ g1)))
   have g2:=s5 _ _ (s4 _ _ (s3 _ _ g2))
   have g3:=s5 _ _ (s4 _ _ g3)
   have g4:=s5 _ _ g4
   clear s1 s2 s3 s4 s5 hr0 h2 h3 h4
   subst e4 e3 e2 e1
   rcases List.mem_cons.mp hu with e|hu
   ·subst e
    exact k t1 _ _ sA h1 g1 ⟨hil0,trivial⟩
   rcases List.mem_cons.mp hu with e|hu
   ·subst e
    exact k t2 _ _ sA n2 g2 ⟨hil0,trivial⟩
   rcases List.mem_cons.mp hu with e|hu
   ·subst e
    exact k t3 _ _ sA n3 g3 ⟨(by omega:(-1-o / 9 % 5)+1<1),trivial⟩
   ·have e:=List.mem_singleton.mp hu
    subst e
    exact k t4 _ _ sA n4 g4 ⟨⟨by decide +kernel,by decide +kernel,by decide +kernel,by decide +kernel⟩,rfl⟩
  refine ⟨_,rfl,_,_,rfl,rfl,⟨by decide,by decide⟩,_,_,rfl,rfl,.inr ⟨by decide,by decide⟩,_,rfl,_,_,rfl,rfl,(by show (0:Int)<7;decide),_,_,rfl,rfl,_,rfl,_,rfl,?_⟩
  exact ⟨_,_,l,ts,rfl,hN,λd H' dd s' hd gd hok=>k d H' (.act (.deed dd)) s' hd gd hok⟩
def StandAt (H:Hp) (sa dl gl:Addr) (l g:Acts):Prop:=H sa=some (.tup [.ref dl,.ref gl])/\H dl=some (.lst (l.map λq=>V.ref q.1))/\H gl=some (.lst (g.map λq=>V.ref q.1))/\dl≠gl
def spDueOf (K:PySem.W.Frag):Sp:=λvs H Q _=>∃ (sa dl gl t:Addr) (l g:Acts) (op:Op),vs=[.ref sa,.ref t]/\StandAt H sa dl gl l g/\SqT K H t op.vs/\op.Ok/\l.length<=60/\g.length<=60/\
 ∀ (H':Hp),Keep [dl,gl] H H'->StandAt H' sa dl gl (op.nl t l g) (op.ng l g)->Q (op.told l g) H'
theorem last_map {l:Acts}{q:Addr×Act}:((l++[q]).map λq=>V.ref q.1)[((l++[q]).map λq=>V.ref q.1).length - 1]?=some (.ref q.1):=by simp
theorem drop_map {l:Acts}{q:Addr×Act}:((l++[q]).map λq=>V.ref q.1).dropLast=l.map λq=>V.ref q.1:=by simp
theorem eq_nil (K:PySem.W.Frag) {H:Hp}{a r:Addr}{l:Acts} (h:H a=some (.lst (l.map λq=>V.ref q.1))) (hr:H r=some (.lst [])):EqD K H false 1 (.ref a) (.ref r) (decide (l=[])):=by
 cases l with
 |nil=>
  have:=EqD.lists (K:=K) (n:=0) (λ_=>true) (SqL.of h) (SqL.of hr) rfl (λj x y hx=>by simp at hx)
  exact this
 |cons q l=>
  rw [decide_eq_false (by simp)]
  exact EqD.lens (SqL.of h) (SqL.of hr) (by simp)
theorem ok_due_of {f:Addr}{fd:FuncData} (F:Fun K "_law_due_of" "_law_due_of" s_law_due_of f fd) (DI:Def P w K mg base "_law_ill" ["deed"] 1 (spIll K)):FnOk P w K mg base CX0 2 f fd ["stand","deed"] (spDueOf K):=by
 refine F.ok sc_law_due_of (λvs H Q E h=>?_) (λcdv A outer s H vs Q E hr h=>?_)
 ·obtain ⟨sa,dl,gl,t,l,g,op,rfl,_⟩:=h
  rfl
 ·obtain ⟨sa,dl,gl,t,l,g,op,rfl,⟨hs,hd,hg,ne⟩,ht,hok,hll,hgl,k⟩:=h
  have hu:=hu16 hr
  have nsd:sa≠dl:=ne_of hs hd (by intro z;cases z)
  have nsg:sa≠gl:=ne_of hs hg (by intro z;cases z)
  refine' ⟨_,pss_cons (ps_set (i:=2) sc_law_due_of.nd rfl (Or.inl rfl) (pe_ix ix_tup (pv 0) pe_int (λ_ _=>rfl)))
   (pss_cons (ps_set (i:=3) sc_law_due_of.nd rfl (Or.inl rfl) (pe_ix ix_tup (pv 0) pe_int (λ_ _=>rfl)))
   (pss_cons (ps_if ?a1 (pss_cons (ps_if ?a2 (pss_one (ps_ret pe_str)) pss_nil) (pss_one (ps_expr ?a3)))
    (pss_one (ps_if ?b1 (pss_cons (ps_if ?b2 (pss_one (ps_ret pe_str)) pss_nil) (pss_one (ps_expr ?b3)))
     (pss_one (ps_if ?c1 (pss_one (ps_ret pe_str)) (pss_cons (ps_expr ?c2) (pss_one (ps_expr ?c3)))))))) (pss_one (ps_ret pe_non)))),?rd⟩
  case a1=>exact pt_cmpR op_eq (pe_ix ix_tup (pv 1) pe_int (λ_ _=>rfl)) pe_str (nomark _)
  case a2=>exact pt_cmpR (op_eqD hu) (pv 2) (pe_lst pa_nil) (nomark _)
  case a3=>exact pe_bm PySem.F.plainAttrs_list PySem.F.slot_list_append PySem.F.type_list_append mt_append (pv 3) (pa_cons (pe_bm0 PySem.F.plainAttrs_list PySem.F.slot_list_pop PySem.F.type_list_pop mt_pop (pv 2)) pa_nil)
  case b1=>exact pt_cmpR op_eq (pe_ix ix_tup (pv 1) pe_int (λ_ _=>rfl)) pe_str (nomark _)
  case b2=>exact pt_cmpR (op_eqD hu) (pv 3) (pe_lst pa_nil) (nomark _)
  case b3=>exact pe_bm PySem.F.plainAttrs_list PySem.F.slot_list_append PySem.F.type_list_append mt_append (pv 2) (pa_cons (pe_bm0 PySem.F.plainAttrs_list PySem.F.slot_list_pop PySem.F.type_list_pop mt_pop (pv 3)) pa_nil)
  case c1=>exact pt_val (pe_callD DI hr rfl (pa_cons (pv 1) pa_nil))
  case c2=>exact pe_bm PySem.F.plainAttrs_list PySem.F.slot_list_append PySem.F.type_list_append mt_append (pv 2) (pa_cons (pv 1) pa_nil)
  case c3=>exact pe_bm0 PySem.F.plainAttrs_list PySem.F.slot_list_clear PySem.F.type_list_clear mt_clear (pv 3)
  case rd=>
  refine ⟨_,rfl,sa,_,_,_,rfl,rfl,SqT.of hs,atN (j:=0) rfl rfl,?_⟩
  refine ⟨_,rfl,sa,_,_,_,rfl,rfl,SqT.of hs,atN (j:=1) rfl rfl,?_⟩
  cases op with
  |undo=>
   refine ⟨_,rfl,t,_,_,_,rfl,rfl,ht,atN (j:=0) rfl rfl,rfl,_,rfl,iteP (by decide +kernel) ?_⟩
   refine ⟨_,rfl,Nat.zero_le _,λr hr0=>?_⟩
   have s1:Same H (upd H r (.lst [])):=Same.new hr0
   refine ⟨1,_,by decide,eq_nil K (s1 _ _ hd) upd_same,_,rfl,?_⟩
   rcases List.eq_nil_or_concat l with e|⟨l',q,e⟩
   ·subst e
    exact iteT (k _ (Keep.of s1) ⟨s1 _ _ hs,s1 _ _ hd,by show _=some (HO.lst ((g++[]).map _));rw [List.append_nil];exact s1 _ _ hg,ne⟩)
   ·rw [List.concat_eq_append] at e
    subst e
    refine iteN (by simp) ?_
    have hd1:=s1 _ _ hd
    have hg1:=s1 _ _ hg
    have hs1:=s1 _ _ hs
    generalize upd H r (.lst [])=H1 at s1 hd1 hg1 hs1 ⊢
    refine ⟨_,rfl,.inl ⟨rfl,_,SqL.of hg1⟩,_,rfl,.inl ⟨rfl,_,SqL.of hd1⟩,dl,_,.ref q.1,rfl,rfl,hd1,last_map,gl,_,_,rfl,rfl,by rw [upd_ne (Ne.symm ne)];exact hg1,small (by rw [List.length_map];omega),?_⟩
    have k':=k (upd (upd H1 dl (.lst ((l'++[q]).map λq=>V.ref q.1).dropLast)) gl (.lst ((g.map λq=>V.ref q.1)++[.ref q.1]))) (λb o hb e=>by
     rw [upd_ne (λz=>hb (by rw [z];simp)),upd_ne (λz=>hb (by rw [z];simp))];exact s1 _ _ e)
     ⟨by rw [upd_ne nsg,upd_ne nsd];exact hs1,by rw [upd_ne ne,upd_same,drop_map];simp [Op.nl],by rw [upd_same];simp [Op.ng],ne⟩
    simp only [Op.told,List.append_eq_nil_iff,List.cons_ne_nil,and_false,if_false] at k'
    exact k'
  |redo=>
   refine ⟨_,rfl,t,_,_,_,rfl,rfl,ht,atN (j:=0) rfl rfl,rfl,_,rfl,iteN (by decide +kernel) ?_⟩
   refine ⟨_,rfl,t,_,_,_,rfl,rfl,ht,atN (j:=0) rfl rfl,rfl,_,rfl,iteP (by decide +kernel) ?_⟩
   refine ⟨_,rfl,Nat.zero_le _,λr hr0=>?_⟩
   have s1:Same H (upd H r (.lst [])):=Same.new hr0
   refine ⟨1,_,by decide,eq_nil K (s1 _ _ hg) upd_same,_,rfl,?_⟩
   rcases List.eq_nil_or_concat g with e|⟨g',q,e⟩
   ·subst e
    exact iteT (k _ (Keep.of s1) ⟨s1 _ _ hs,by show _=some (HO.lst ((l++[]).map _));rw [List.append_nil];exact s1 _ _ hd,s1 _ _ hg,ne⟩)
   ·rw [List.concat_eq_append] at e
    subst e
    refine iteN (by simp) ?_
    have hd1:=s1 _ _ hd
    have hg1:=s1 _ _ hg
    have hs1:=s1 _ _ hs
    generalize upd H r (.lst [])=H1 at s1 hd1 hg1 hs1 ⊢
    refine ⟨_,rfl,.inl ⟨rfl,_,SqL.of hd1⟩,_,rfl,.inl ⟨rfl,_,SqL.of hg1⟩,gl,_,.ref q.1,rfl,rfl,hg1,last_map,dl,_,_,rfl,rfl,by rw [upd_ne ne];exact hd1,small (by rw [List.length_map];omega),?_⟩
    have k':=k (upd (upd H1 gl (.lst ((g'++[q]).map λq=>V.ref q.1).dropLast)) dl (.lst ((l.map λq=>V.ref q.1)++[.ref q.1]))) (λb o hb e=>by
     rw [upd_ne (λz=>hb (by rw [z];simp)),upd_ne (λz=>hb (by rw [z];simp))];exact s1 _ _ e)
     ⟨by rw [upd_ne nsd,upd_ne nsg];exact hs1,by rw [upd_same];simp [Op.nl],by rw [upd_ne (Ne.symm ne),upd_same,drop_map];simp [Op.ng],ne⟩
    simp only [Op.told,List.append_eq_nil_iff,List.cons_ne_nil,and_false,if_false] at k'
    exact k'
  |act a=>
   obtain ⟨x,r,ex,h1,h2⟩:∃ x r,a.vs=V.str x::r/\¬ decide (V.str x=V.str "undo")=true/\¬ decide (V.str x=V.str "redo")=true:=by
    cases a with
    |mark n p=>exact ⟨_,_,rfl,by decide +kernel,by decide +kernel⟩
    |deed d=>cases d<;>exact ⟨_,_,rfl,by decide +kernel,by decide +kernel⟩
   have ht2:SqT K H t (V.str x::r):=ex ▸ ht
   refine ⟨_,rfl,t,_,_,_,rfl,rfl,ht2,atN (j:=0) rfl rfl,rfl,_,rfl,iteN h1 ?_⟩
   refine ⟨_,rfl,t,_,_,_,rfl,rfl,ht2,atN (j:=0) rfl rfl,rfl,_,rfl,iteN h2 ?_⟩
   refine ⟨_,rfl,t,rfl,.inl ⟨a,ht,hok,_,rfl,iteF ?_⟩⟩
   refine ⟨_,rfl,.inl ⟨rfl,_,SqL.of hd⟩,_,rfl,dl,_,_,rfl,rfl,hd,small (by rw [List.length_map];omega),?_⟩
   have hg1:(upd H dl (.lst ((l.map λq=>V.ref q.1)++[.ref t]))) gl=some (.lst (g.map λq=>V.ref q.1)):=by rw [upd_ne (Ne.symm ne)];exact hg
   refine ⟨_,rfl,.inl ⟨rfl,_,SqL.of hg1⟩,gl,_,rfl,rfl,hg1,?_⟩
   exact k _ (λb o hb e=>by rw [upd_ne (λz=>hb (by rw [z];simp)),upd_ne (λz=>hb (by rw [z];simp))];exact e) ⟨by rw [upd_ne nsg,upd_ne nsd];exact hs,by rw [upd_ne ne,upd_same];simp [Op.nl],by rw [upd_same];rfl,ne⟩
  |ill i=>
   obtain ⟨hb,hl⟩:i.Bad/\i.Law:=hok
   obtain ⟨x,r,ex,h1,h2⟩:∃ x r,i.vs=V.str x::r/\¬ decide (V.str x=V.str "undo")=true/\¬ decide (V.str x=V.str "redo")=true:=by
    cases i with
    |word x p n=>
     have hx:x="shut":=hl
     subst hx
     exact ⟨_,_,rfl,by decide +kernel,by decide +kernel⟩
    |_=>exact ⟨_,_,rfl,by decide +kernel,by decide +kernel⟩
   have ht2:SqT K H t (V.str x::r):=ex ▸ ht
   refine ⟨_,rfl,t,_,_,_,rfl,rfl,ht2,atN (j:=0) rfl rfl,rfl,_,rfl,iteN h1 ?_⟩
   refine ⟨_,rfl,t,_,_,_,rfl,rfl,ht2,atN (j:=0) rfl rfl,rfl,_,rfl,iteN h2 ?_⟩
   exact ⟨_,rfl,t,rfl,.inr ⟨i,ht,hb,hl,_,rfl,iteT (k _ (Keep.of Same.refl) ⟨hs,hd,hg,ne⟩)⟩⟩
end
section
variable {P:Program}{w:World}{K:PySem.W.Frag}{mg:Str->Option Value}{base:Heap}{C:Addr}
def midM (d:Deed) (m:Marks) (j:Nat):Marks:=(m.take j).map (λq=>(q.1,d.carry q.2))++m.drop j
theorem mid_keys (d:Deed) (m:Marks) (j:Nat):(midM d m j).map (·.1)=m.map (·.1):=by
 unfold midM
 rw [List.map_append,List.map_map]
 show (m.take j).map (·.1)++_=_
 rw [<-List.map_append,List.take_append_drop]
theorem mid_nd {d:Deed}{m:Marks}{j:Nat} (h:NdM m):NdM (midM d m j):=by unfold NdM;rw [mid_keys];exact h
theorem mid_get {d:Deed}{m:Marks}{j:Nat}{q:Str×Int} (h:m[j]?=some q):(midM d m j)[j]?=some q:=by
 have hj:=(List.getElem?_eq_some_iff.mp h).1
 unfold midM
 rw [List.getElem?_append_right (by rw [List.length_map,List.length_take];omega),List.length_map,List.length_take,List.getElem?_drop,show j+(j-min j m.length)=j by omega]
 exact h
theorem putM_at {m:Marks} (nd:NdM m) (p:Int):∀ {i:Nat}{q:Str×Int},m[i]?=some q->putM m q.1 p=m.set i (q.1,p):=by
 intro i q h
 unfold putM
 rw [if_pos (List.any_eq_true.mpr ⟨q,List.mem_of_getElem? h,decide_eq_true rfl⟩)]
 refine List.ext_getElem? λk=>?_
 rw [List.getElem?_map,List.getElem?_set]
 have hi:=(List.getElem?_eq_some_iff.mp h).1
 by_cases e:i=k
 ·subst e
  rw [h,if_pos rfl,if_pos hi]
  show some (if q.1=q.1 then (q.1,p) else q)=_
  rw [if_pos rfl]
 ·rw [if_neg e]
  cases hk:m[k]? with
  |none=>rfl
  |some r=>
   show some (if r.1=q.1 then (r.1,p) else r)=_
   rw [if_neg]
   intro z
   have hk2:=(List.getElem?_eq_some_iff.mp hk).1
   have e1:(m.map (·.1))[i]'(by rw [List.length_map];exact hi)=q.1:=by rw [List.getElem_map,(List.getElem?_eq_some_iff.mp h).2]
   have e2:(m.map (·.1))[k]'(by rw [List.length_map];exact hk2)=r.1:=by rw [List.getElem_map,(List.getElem?_eq_some_iff.mp hk).2]
   have pw:=List.pairwise_iff_getElem.mp nd
   rcases Nat.lt_or_gt_of_ne e with c|c
   ·exact pw i k _ _ c (e1.trans (z.symm.trans e2.symm))
   ·exact pw k i _ _ c (e2.trans (z.trans e1.symm))
theorem mid_set {d:Deed}{m:Marks}{j:Nat}{q:Str×Int} (h:m[j]?=some q):(midM d m j).set j (q.1,d.carry q.2)=midM d m (j+1):=by
 have hj:=(List.getElem?_eq_some_iff.mp h).1
 have el:((m.take j).map λq=>(q.1,d.carry q.2)).length=j:=by rw [List.length_map,List.length_take];omega
 unfold midM
 rw [List.set_append_right _ _ (by omega),el,Nat.sub_self,List.drop_eq_getElem_cons hj,List.set_cons_zero,List.take_add_one,h,List.map_append,List.append_assoc]
 rfl
theorem mid_all (d:Deed) (m:Marks):midM d m m.length=stepM m (.deed d):=by
 unfold midM
 rw [List.take_length,List.drop_length,List.append_nil];rfl
def ActsAt (K:PySem.W.Frag) (H:Hp) (r:Addr) (l:Acts):Prop:=SqL K H r (l.map λq=>V.ref q.1)/\∀ q∈l,SqT K H q.1 q.2.vs/\q.2.Ok
theorem ActsAt.same {H H':Hp}{r:Addr}{l:Acts} (h:ActsAt K H r l) (s:Same H H'):ActsAt K H' r l:=⟨s.seq h.1,λq hq=>⟨Same.tup s (h.2 q hq).1,(h.2 q hq).2⟩⟩
def spMarks (K:PySem.W.Frag):Sp:=λvs H Q _=>∃ (r:Addr) (l:Acts),vs=[.ref r]/\ActsAt K H r l/\∀ (m:Addr) (H':Hp),Same H H'->H m=none->H' m=some (.dK (kvM (marksA l)))->Q (.ref m) H'
theorem ok_marks {f:Addr}{fd:FuncData} (F:Fun K "_law_marks" "_law_marks" s_law_marks f fd) (T:Txt K mg C) (DM:Def P w K mg base "_law_moved" ["deed","place"] 1 (spMoved K)):FnOk P w K mg base CX0 2 f fd ["deeds"] (spMarks K):=by
 refine F.ok sc_law_marks (λvs H Q E h=>?_) (λcdv A outer s H vs Q E hr h=>?_)
 ·obtain ⟨r,l,rfl,_⟩:=h
  rfl
 ·obtain ⟨r,l,rfl,hA,k⟩:=h
  have hu:=Nat.lt_of_lt_of_le (Nat.add_lt_add_left (by decide:1<16) _) (hu16 hr)
  refine' ⟨_,pss_cons (ps_set (i:=1) sc_law_marks.nd rfl (Or.inl rfl) pe_dnewK)
   (pss_cons (ps_for PassesOwn.never rfl (pi_list (pv 0)) (pg_name (i:=2) sc_law_marks.nd rfl (Or.inl rfl))
    (pss_one (ps_if ?a1 (pss_one (ps_dput hu (pv 1) (pe_ix ix_tup (pv 2) pe_int (λ_ _=>rfl)) (pe_ix ix_tup (pv 2) pe_int (λ_ _=>rfl)) rfl))
     (pss_one (ps_for PassesOwn.never rfl (pi_list ?b1) (pg_name (i:=3) sc_law_marks.nd rfl (Or.inl rfl)) (pss_one (ps_dput hu (pv 1) (pv 3) ?b2 rfl)))))))
   (pss_one (ps_ret (pv 1)))),?rd⟩
  case a1=>exact pt_cmpR op_eq (pe_ix ix_tup (pv 2) pe_int (λ_ _=>rfl)) pe_str (nomark _)
  case b1=>exact pe_callTy (call_list_dict rfl) rfl T.list boot_list (pa_cons (pv 1) pa_nil)
  case b2=>exact pe_callD DM hr rfl (pa_cons (pv 2) (pa_cons (pe_dget hu (pv 1) (pv 3) (λ_ _=>rfl)) pa_nil))
  case rd=>
  have hok:OkA l:=λq hq=>(hA.2 q hq).2
  refine λm hm=>?_
  have s0:Same H (upd H m (.dK [])):=Same.new hm
  have g0:(upd H m (.dK [])) m=some (.dK []):=upd_same
  generalize upd H m (.dK [])=H0 at s0 g0 ⊢
  refine ⟨_,rfl,r,rfl,⟨_,(hA.same s0).1⟩,?_⟩
  refine for_list (K:=K) (a:=r) (xs:=l.map λq=>V.ref q.1) (λi σ H'=>∃ (x2 x3:Option V),σ=[some (.ref r),some (.ref m),x2,x3]/\Same H H'/\H' m=some (.dK (kvM (marksA (l.take i))))) ?_ (λi σ H' _ ⟨_,_,_,s5,_⟩=>(hA.same s5).1) ?_ ?_
  ·exact ⟨none,none,rfl,s0,g0⟩
  ·rintro i y σ H' hi ⟨x2,x3,rfl,s5,gm⟩
   have hil:i<l.length:=by
    have:=(List.getElem?_eq_some_iff.mp hi).1
    rw [List.length_map] at this
    exact this
   obtain ⟨q,hq⟩:∃ q,l[i]?=some q:=⟨_,List.getElem?_eq_getElem hil⟩
   obtain rfl:V.ref q.1=y:=by
    rw [List.getElem?_map,hq] at hi
    exact Option.some.inj hi
   obtain ⟨hd,hqk⟩:=(hA.same s5).2 q (List.mem_of_getElem? hq)
   have hokt:OkA (l.take i):=λq' hq'=>hok q' (List.mem_of_mem_take hq')
   have hml:(kvM (marksA (l.take i))).length<sizeLine:=by
    unfold kvM
    rw [List.length_map]
    exact Nat.lt_of_le_of_lt (marksA_len hokt) (by decide)
   have etk:marksA (l.take (i+1))=stepM (marksA (l.take i)) q.2:=by
    rw [List.take_add_one,hq]
    exact marksA_snoc _ q
   obtain ⟨t,a⟩:=q
   cases a with
   |mark n p=>
    refine ⟨_,rfl,t,_,_,_,rfl,rfl,hd,atN (j:=0) rfl rfl,rfl,_,rfl,iteP (by decide +kernel) ?_⟩
    refine ⟨_,rfl,t,_,_,_,rfl,rfl,hd,atN (j:=2) rfl rfl,_,rfl,_,rfl,t,_,_,_,rfl,rfl,hd,atN (j:=1) rfl rfl,m,_,rfl,DPut.k (k:=Sum.inr n) gm hml,?_⟩
    refine ⟨_,_,rfl,Same.upd s5 hm,?_⟩
    rw [upd_same,etk,kvM_put];rfl
   |deed d=>
    obtain ⟨x,r',ex,hx⟩:∃ x r',d.vs=V.str x::r'/\¬ decide (V.str x=V.str "mark")=true:=by
     cases d<;>exact ⟨_,_,rfl,by decide +kernel⟩
    have hd2:SqT K H' t (V.str x::r'):=ex ▸ hd
    refine ⟨_,rfl,t,_,_,_,rfl,rfl,hd2,atN (j:=0) rfl rfl,rfl,_,rfl,iteN hx ?_⟩
    refine ⟨_,rfl,m,_,rfl,gm,λr2 hr2=>⟨r2,rfl,⟨_,SqL.of upd_same⟩,?_⟩⟩
    have n2m:r2≠m:=Ne.symm (ne_of_none gm hr2)
    have hr20:=s5.free hr2
    have nd:=marksA_nd (l.take i)
    refine for_list (K:=K) (a:=r2) (xs:=(kvM (marksA (l.take i))).map λp=>kV p.1) (λj σ H2=>∃ x3:Option V,σ=[some (.ref r),some (.ref m),some (.ref t),x3]/\Same H H2/\H2 r2=some (.lst ((kvM (marksA (l.take i))).map λp=>kV p.1))/\H2 m=some (.dK (kvM (midM d (marksA (l.take i)) j)))) ?_ (λj σ H2 _ ⟨_,_,_,g,_⟩=>SqL.of g) ?_ ?_
    ·exact ⟨x3,rfl,Same.upd s5 hr20,upd_same,by rw [upd_ne (Ne.symm n2m)];exact gm⟩
    ·rintro j y σ H2 hj ⟨x3,rfl,s6,gr,gm2⟩
     rw [kvM_strs,List.map_map,List.getElem?_map] at hj
     obtain ⟨p,hp,rfl⟩:=Option.map_eq_some_iff.mp hj
     have hg:=mid_get (d:=d) hp
     have ht2:=(hA.same s6).2 _ (List.mem_of_getElem? hq)
     refine ⟨_,rfl,_,rfl,_,rfl,m,_,rfl,.inl ⟨_,Sum.inr p.1,.inl gm2,rfl,(valM (mid_nd nd) hg).symm⟩,t,p.2,d,rfl,ht2.1,ht2.2,?_⟩
     refine ⟨_,rfl,_,rfl,m,_,rfl,DPut.k (k:=Sum.inr p.1) gm2 ?hl2,?_⟩
     case hl2=>
      unfold kvM
      rw [List.length_map,<-List.length_map (f:=(·.1)),mid_keys,List.length_map]
      exact Nat.lt_of_le_of_lt (marksA_len hokt) (by decide)
     refine ⟨_,rfl,Same.upd s6 hm,by rw [upd_ne n2m];exact gr,?_⟩
     rw [upd_same,kvM_put,putM_at (mid_nd nd) _ hg,mid_set hp]
    ·rintro σ H2 ⟨x3,rfl,s6,gr,gm2⟩
     refine ⟨_,_,rfl,s6,?_⟩
     rw [gm2,etk]
     rw [show ((kvM (marksA (l.take i))).map λp=>kV p.1).length=(marksA (l.take i)).length by unfold kvM;rw [List.length_map,List.length_map],mid_all]
  ·rintro σ H' ⟨x2,x3,rfl,s5,gm⟩
   rw [List.length_map,List.take_length] at gm
   exact ⟨_,rfl,k m H' s5 hm gm⟩
theorem risingS_pw:∀ (l:List Str) (p:Str),risingS p l=true->(p::l).Pairwise (λa b=>a.cps.toList<=b.cps.toList)
 | [],p,_=>by simp
 |x::l,p,h=>by
  have h':(!Spec.ltCps x.cps.toList p.cps.toList && risingS x l)=true:=h
  rw [Bool.and_eq_true] at h'
  have ih:=risingS_pw l x h'.2
  have hx:p.cps.toList<=x.cps.toList:=by
   have h1:=h'.1
   rw [ltCps_eq] at h1
   exact List.not_lt.mp (by simpa using h1)
  refine List.pairwise_cons.mpr ⟨λy hy=>?_,ih⟩
  rcases List.mem_cons.mp hy with e|hy
  ·rw [e];exact hx
  ·exact List.le_trans hx ((List.pairwise_cons.mp ih).1 y hy)
theorem sortedS_one {a b:List Str} (ha:sortedS a=true) (hb:sortedS b=true) (h:a.Perm b):a=b:=by
 have pw:∀ {l:List Str},sortedS l=true->l.Pairwise (λa b=>a.cps.toList<=b.cps.toList):=λ{l} h=>by
  cases l with
  |nil=>exact List.Pairwise.nil
  |cons x l=>exact risingS_pw l x h
 refine List.Perm.eq_of_pairwise (λx y _ _ h1 h2=>?_) (pw ha) (pw hb) h
 have e:=List.le_antisymm h1 h2
 obtain ⟨⟨x⟩⟩:=x
 obtain ⟨⟨y⟩⟩:=y
 simp only at e
 rw [e]
end
section
variable {P:Program}{w:World}{K:PySem.W.Frag}{mg:Str->Option Value}{base:Heap}{C:Addr}
structure MDef (P:Program) (w:World) (K:PySem.W.Frag) (mg:Str->Option Value) (base:Heap) (CX:CXT) (CD:Addr) (m:Str) (ps:List Str) (k:Nat) (sp:Sp):Prop where
 ex:∃ (f:Addr) (fd:FuncData),Meth K CD m f/\Binds K fd ps []/\FnOk P w K mg base CX k f fd ps sp
theorem no_names (a b c:Addr):(fldsD a b c).lookup ("names":Str)=none:=by kernel_rfl
theorem no_where (a b c:Addr):(fldsD a b c).lookup ("where":Str)=none:=by kernel_rfl
theorem no_line (a b c:Addr):(fldsD a b c).lookup ("line":Str)=none:=by kernel_rfl
theorem no_do (a b c:Addr):(fldsD a b c).lookup ("do":Str)=none:=by kernel_rfl
theorem no_undo (a b c:Addr):(fldsD a b c).lookup ("undo":Str)=none:=by kernel_rfl
theorem no_redo (a b c:Addr):(fldsD a b c).lookup ("redo":Str)=none:=by kernel_rfl
theorem DeskAt.at {CS CD:Addr}{H:Hp}{d pl ul:Addr}{l g:Acts} (h:DeskAt C CS CD H d pl ul l g):∃ st dx,H d=some (.ins CD dx (fldsD st pl ul)):=
 let ⟨_,st,dx,_,_,h⟩:=h
 ⟨st,dx,h.at'⟩
theorem valM_int:∀ {m:Marks}{k:Key}{v:V},valV (kvM m) k=some v->∃ p,v=.int p
 | [],k,v,h=>by cases h
 |q::m,k,v,h=>by
  have h':valV ((Sum.inr q.1,V.int q.2)::kvM m) k=some v:=h
  by_cases e:(Sum.inr q.1:Key)=k
  ·rw [valV_pos e] at h';exact ⟨_,(Option.some.inj h').symm⟩
  ·rw [valV_neg e] at h';exact valM_int h'
theorem eqVs_strs (a:List Str):eqVs (a.map V.str) (a.map V.str)=true:=by
 rw [eqVs_dec]
 ·exact decide_eq_true rfl
 ·intro x hx y hy
  obtain ⟨s,_,rfl⟩:=List.mem_map.mp hx
  obtain ⟨t,_,rfl⟩:=List.mem_map.mp hy
  show (s == t)=_
  rw [Bool.eq_iff_iff];simp
def spMR (C CS CD:Addr):Sp:=λvs H Q _=>∃ (d pl ul m:Addr) (l g:Acts),vs=[.ref d,.ref m]/\DeskAt C CS CD H d pl ul l g/\OkA l/\H m=some (.dK (kvM (marksA l)))/\∀ (H':Hp),Same H H'->Q (.bl true) H'
section
variable {CS CD CE CB CN:Addr}
theorem ok_mright {f:Addr}{fd:FuncData} (F:Fun K "_law_marks_right" "_law_marks_right" s_law_marks_right f fd) (T:Txt K mg C) (T2:Txt12 K mg CS CD) (DN:MDef P w K mg base CX0 CD "names" ["self"] 1 (spDNames C CS CD)) (DWh:MDef P w K mg base CX0 CD "where" ["self","name"] 1 (spWhere C CS CD))
  (DW:Def P w K mg base "_law_whole" ["found"] 1 spWhole):FnOk P w K mg base CX0 2 f fd ["desk","marks"] (spMR C CS CD):=by
 refine F.ok sc_law_marks_right (λvs H Q E h=>?_) (λcdv A outer s H vs Q E hr h=>?_)
 ·obtain ⟨d,pl,ul,m,l,g,rfl,_⟩:=h
  rfl
 ·obtain ⟨d,pl,ul,m,l,g,rfl,hD,hok,hm,k⟩:=h
  have hu16':=hu16 hr
  have hu:=Nat.lt_of_lt_of_le (Nat.add_lt_add_left (by decide:1<16) _) hu16'
  obtain ⟨fn,fdn,mn,bn,Fn⟩:=DN.ex
  obtain ⟨fw,fdw,mw,bw,Fw⟩:=DWh.ex
  refine' ⟨_,pss_cons (ps_if ?a1 (pss_one (ps_ret pe_bl)) pss_nil)
   (pss_cons (ps_for PassesOwn.never rfl (pi_list (pe_lst (pa_cons pe_str (pa_cons pe_str (pa_cons pe_str pa_nil))))) (pg_name (i:=2) sc_law_marks_right.nd rfl (Or.inl rfl))
    (pss_cons (ps_set (i:=3) sc_law_marks_right.nd rfl (Or.inl rfl) ?b1)
     (pss_one (ps_if ?c1 (pss_one (ps_if (pt_cmp (pc_notN (pv 3))) (pss_one (ps_ret pe_bl)) pss_nil)) (pss_one (ps_if ?d1 (pss_one (ps_ret pe_bl)) pss_nil))))))
   (pss_one (ps_ret pe_bl))),?rd⟩
  case a1=>exact pt_cmpR (op_neD hu16') (pe_meth0 (pv 0) T2.clD mn Fn hr bn .nil pass0) (pe_callB (call_sorted_dict rfl) rfl T.sorted boot_sorted (pa_cons (pv 1) pa_nil)) (nomark _)
  case b1=>exact pe_meth (pv 0) T2.clD mw Fw hr bw .nil pass0 (pa_cons (pv 2) pa_nil)
  case c1=>exact pt_cmp (pc_dnotin hu (pv 2) (pv 1))
  case d1=>exact PW.pt (pw_or (pt_not (pt_val (pe_callD DW hr rfl (pa_cons (pv 3) pa_nil)))) (pw_or1 (pt_cmpR op_ne (pv 3) (pe_dget hu (pv 1) (pv 2) (λ_ _=>rfl)) (nomark _))))
  case rd=>
  obtain ⟨st,dx,e1⟩:=hD.at
  refine ⟨_,rfl,d,dx,_,rfl,e1,no_names _ _ _,d,pl,ul,l,g,rfl,hD,hok,λr1 τ1 h1 p1 o1=>?_⟩
  have s1:Same H (upd H r1 (.lst (τ1.map V.str))):=Same.new h1
  refine ⟨_,rfl,m,_,_,rfl,s1 _ _ hm,kvM_strs _,by rw [List.length_map];exact Nat.lt_of_le_of_lt (marksA_len hok) (by decide),λr2 τ2 h2 p2 o2=>?_⟩
  obtain rfl:τ1=τ2:=sortedS_one o1 o2 (p1.trans p2.symm)
  have s2:Same (upd H r1 (.lst (τ1.map V.str))) (upd (upd H r1 (.lst (τ1.map V.str))) r2 (.lst (τ1.map V.str))):=Same.new h2
  have fl:∀ x∈τ1.map V.str,flatV x=true:=λx hx=>by obtain ⟨s,_,rfl⟩:=List.mem_map.mp hx;rfl
  have e12:=eqd_flat (K:=K) (SqL.of (s2 _ _ upd_same)) (SqL.of upd_same) fl fl
  rw [eqVs_strs] at e12
  refine ⟨1,true,by decide,e12,_,rfl,iteN (by decide) ?_⟩
  have s3:=s1.trans s2
  clear e12
  generalize upd (upd H r1 (.lst (τ1.map V.str))) r2 (.lst (τ1.map V.str))=H2 at s3 ⊢
  refine ⟨by decide,λr3 h3=>⟨r3,rfl,⟨_,SqL.of upd_same⟩,?_⟩⟩
  have s4:Same H (upd H2 r3 (.lst [.str "a",.str "peg",.str "zz"])):=Same.upd s3 (s3.free h3)
  have g4:(upd H2 r3 (.lst [.str "a",.str "peg",.str "zz"])) r3=some (.lst [.str "a",.str "peg",.str "zz"]):=upd_same
  generalize upd H2 r3 (.lst [.str "a",.str "peg",.str "zz"])=H3 at s4 g4 ⊢
  refine for_list (K:=K) (a:=r3) (xs:=[.str "a",.str "peg",.str "zz"]) (λi σ H'=>∃ (x2 x3:Option V),σ=[some (.ref d),some (.ref m),x2,x3]/\H'=H3) ⟨none,none,rfl,rfl⟩ (λi σ H' _ ⟨_,_,_,e⟩=>e ▸ SqL.of g4) ?_ ?_
  ·rintro i y σ H' hi ⟨x2,x3,rfl,rfl⟩
   obtain ⟨n,rfl⟩:∃ n:Str,y=.str n:=by
    have:=List.mem_of_getElem? hi
    rcases List.mem_cons.mp this with e|hu
    ·exact ⟨_,e⟩
    rcases List.mem_cons.mp hu with e|hu
    ·exact ⟨_,e⟩
    exact ⟨_,List.mem_singleton.mp hu⟩
   refine ⟨_,rfl,d,dx,_,rfl,s4 _ _ e1,no_where _ _ _,_,rfl,d,pl,ul,l,g,n,rfl,hD.same s4,?_⟩
   refine ⟨_,rfl,_,rfl,m,_,rfl,DGet.k (k:=Sum.inr n) (s4 _ _ hm),_,rfl,?_⟩
   cases e:valV (kvM (marksA l)) (Sum.inr n) with
   |none=>exact iteT ⟨_,rfl,_,rfl,iteN (by decide) ⟨_,_,rfl,rfl⟩⟩
   |some v=>
    obtain ⟨p,rfl⟩:=valM_int e
    refine iteF ?_
    refine ⟨_,rfl,p,rfl,true,rfl,iteN (by decide) ?_⟩
    exact ⟨_,rfl,_,rfl,_,rfl,m,.int p,rfl,.inl ⟨_,Sum.inr n,.inl (s4 _ _ hm),rfl,e.symm⟩,rfl,_,rfl,iteNS rfl ⟨_,_,rfl,rfl⟩⟩
  ·rintro σ H' ⟨x2,x3,rfl,rfl⟩
   exact k _ s4
end
end
section
variable {P:Program}{w:World}{K:PySem.W.Frag}{mg:Str->Option Value}{base:Heap}{C:Addr}
def ActsH (H:Hp) (r:Addr) (l:Acts):Prop:=H r=some (.lst (l.map λq=>V.ref q.1))/\∀ q∈l,H q.1=some (.tup q.2.vs)/\q.2.Ok
theorem ActsH.same {H H':Hp}{r:Addr}{l:Acts} (h:ActsH H r l) (s:Same H H'):ActsH H' r l:=⟨s _ _ h.1,λq hq=>⟨s _ _ (h.2 q hq).1,(h.2 q hq).2⟩⟩
theorem ActsH.at {H:Hp}{r:Addr}{l:Acts} (h:ActsH H r l):ActsAt K H r l:=⟨SqL.of h.1,λq hq=>⟨SqT.of (h.2 q hq).1,(h.2 q hq).2⟩⟩
def isD (H:Hp):V->Bool
 | .ref t=>(match H t with
  |some (.tup (v::_))=>!decide (v=.str "mark")
  |_=>false)
 |_=>false
theorem isD_deed {H:Hp}{t:Addr}{d:Deed} (h:H t=some (.tup d.vs)):isD H (.ref t)=true:=by
 unfold isD
 simp only [h]
 cases d<;>exact congrArg (!·) (decide_eq_false (by decide +kernel))
theorem isD_mark {H:Hp}{t:Addr}{n:Str}{p:Int} (h:H t=some (.tup (Act.mark n p).vs)):isD H (.ref t)=false:=by
 unfold isD
 simp only [h]
 exact congrArg (!·) (decide_eq_true rfl)
theorem filter_isD {H:Hp}:∀ {l:Acts},(∀ q∈l,H q.1=some (.tup q.2.vs)/\q.2.Ok)->(l.map λq=>V.ref q.1).filter (isD H)=(deedsA l).map λq=>V.ref q.1
 | [],_=>rfl
 |(t,.deed d)::l,h=>by
  have ih:=filter_isD (l:=l) λq hq=>h q (List.mem_cons_of_mem _ hq)
  have h1:H t=some (.tup d.vs):=(h _ List.mem_cons_self).1
  show List.filter (isD H) (V.ref t::_)=_
  rw [List.filter_cons_of_pos (isD_deed h1),ih];rfl
 |(t,.mark n p)::l,h=>by
  have ih:=filter_isD (l:=l) λq hq=>h q (List.mem_cons_of_mem _ hq)
  have h1:H t=some (.tup (Act.mark n p).vs):=(h _ List.mem_cons_self).1
  show List.filter (isD H) (V.ref t::_)=_
  rw [List.filter_cons_of_neg (by rw [isD_mark h1];simp),ih];rfl
theorem deedsA_len (l:Acts):(deedsA l).length<=l.length:=List.length_filterMap_le ..
theorem deedsA_mem {l:Acts}{q:Addr×Deed} (h:q∈deedsA l):(q.1,Act.deed q.2)∈l:=by
 obtain ⟨x,hx,e⟩:=List.mem_filterMap.mp h
 obtain ⟨t,a⟩:=x
 cases a with
 |deed d=>obtain rfl:(t,d)=q:=Option.some.inj e;exact hx
 |mark n p=>cases e
abbrev scS1:Scope:={ kind:=.function,names:=[(".0",.local),("deed",.local)],isGenerator:=false,isCoroutine:=false,more:=[] }
theorem cs_s1:CScope (defScope s_law_stands) scS1 ["desk","deeds"] ["deed"] [] "deed":=
 ⟨rfl,by decide +kernel,by decide +kernel,by decide +kernel,by decide +kernel,rfl,by decide +kernel,by decide +kernel,by decide +kernel,by decide +kernel⟩
def spStands (C CS CD:Addr):Sp:=λvs H Q _=>∃ (d pl ul r:Addr) (l g:Acts),vs=[.ref d,.ref r]/\DeskAt C CS CD H d pl ul l g/\ActsH H r l/\l.length<=31/\∀ (H':Hp),Same H H'->Q (.bl true) H'
section
variable {CS CD CE CB CN:Addr}
theorem ok_stands {f:Addr}{fd:FuncData} (F:Fun K "_law_stands" "_law_stands" s_law_stands f fd) (T:Txt K mg C) (T2:Txt12 K mg CS CD) (DL:MDef P w K mg base CX0 CD "line" ["self"] 4 (spDLine C CS CD))
  (DLn:Def P w K mg base "_law_line" ["found","due"] 2 (spLine K C)) (DDu:Def P w K mg base "_law_due" ["deeds"] 3 (spDue K)):FnOk P w K mg base CX0 5 f fd ["desk","deeds"] (spStands C CS CD):=by
 refine F.ok sc_law_stands (λvs H Q E h=>?_) (λcdv A outer s H vs Q E hr h=>?_)
 ·obtain ⟨d,pl,ul,r,l,g,rfl,_⟩:=h
  rfl
 ·obtain ⟨d,pl,ul,r,l,g,rfl,hD,hA,hl,k⟩:=h
  have hr2:Room 2 _:=hr.mono (by decide)
  have hr3:Room 3 _:=hr.mono (by decide)
  obtain ⟨fl,fdl,ml,bl,Fl⟩:=DL.ex
  refine' ⟨_,pss_one (ps_ret ?a),?rd⟩
  case a=>
   refine' pe_callD DLn hr2 rfl (pa_cons ?x (pa_cons (pe_callD DDu hr3 rfl (pa_cons ?y pa_nil)) pa_nil))
   case x=>exact pe_meth0 (pv 0) T2.clD ml Fl hr bl .nil pass0
   case y=>
    refine' pe_comp cs_s1 rfl rfl rfl (pi_list (pv 1)) ?y1 (λ_ _ _ _ _=>pv 0)
    case y1=>exact λ_ _ _ _ _=>pf_one (pt_cmpR op_ne (pe_ix (ix_tupK (K':=K) rfl) (pv 0) pe_int (λ_ _=>rfl)) pe_str (nomark _))
  case rd=>
  obtain ⟨st,dx,e1⟩:=hD.at
  refine ⟨_,rfl,d,dx,_,rfl,e1,no_line _ _ _,d,pl,ul,l,g,rfl,hD,by omega,λp H1 v qs s1 ln hF hql hv=>?_⟩
  have hA1:=hA.same s1
  refine ⟨_,rfl,r,rfl,⟨_,SqL.of hA1.1⟩,?_⟩
  refine comp_lst (K:=K) (js:=[]) (isD H1) (λy=>y) (SqL.of hA1.1) ?g1 ?g2 ?g3 ?g4
  case g1=>rw [List.length_map];omega
  case g2=>
   rintro x H2 Q' hx s2 q
   obtain ⟨⟨t,a⟩,hq,rfl⟩:=List.mem_map.mp hx
   have ht:=hA1.2 _ hq
   cases a with
   |mark n p=>
    rw [isD_mark ht.1] at q
    exact ⟨_,rfl,t,_,_,_,rfl,rfl,SqT.of (s2 _ _ ht.1),atN (j:=0) rfl rfl,rfl,_,rfl,q⟩
   |deed d=>
    have ht':H1 t=some (.tup d.vs):=ht.1
    rw [isD_deed ht'] at q
    obtain ⟨x,r',ex,hx⟩:∃ x r',d.vs=V.str x::r'/\decide (V.str x=V.str "mark")=false:=by
     cases d<;>exact ⟨_,_,rfl,by decide +kernel⟩
    have ht2:SqT K H2 t (V.str x::r'):=by rw [<-ex];exact SqT.of (s2 _ _ ht')
    refine ⟨_,rfl,t,_,_,_,rfl,rfl,ht2,atN (j:=0) rfl rfl,rfl,_,rfl,?_⟩
    rw [hx];exact q
  case g3=>exact λx H2 Q' _ _ _ q=>⟨_,rfl,q⟩
  case g4=>
   intro r2 hr2
   rw [List.map_id',filter_isD hA1.2]
   have s2:Same H1 (upd H1 r2 (.lst ((deedsA l).map λq=>V.ref q.1))):=Same.new hr2
   refine ⟨r2,deedsA l,rfl,⟨SqL.of upd_same,λq hq=>?_⟩,Nat.le_trans (deedsA_len l) hl,λdu H3 v' ps s3 tn hF' hpl hv'=>?_⟩
   ·have:=hA1.2 _ (deedsA_mem hq)
    exact ⟨SqT.of (s2 _ _ this.1),this.2⟩
   obtain ⟨ev,eq⟩:=hF.same hF' λx=>(hv x).trans (hv' x).symm
   subst ev eq
   exact ⟨p,du,v,qs,rfl,(ln.at.same s2).same s3,tn.at,hF.hh,by omega,k _ (s1.trans (s2.trans s3))⟩
end
end
section
variable {P:Program}{w:World}{K:PySem.W.Frag}{mg:Str->Option Value}{base:Heap}{C:Addr}
theorem lenT {α:Type}{l:List α} (h:l.length=3):∃ a b c,l=[a,b,c]:=by
 match l,h with
 | [a,b,c],_=>exact ⟨a,b,c,rfl⟩
theorem has1 {A B:Addr}:(Value.ref A::Value.ref B::bmV).contains (.ref A)=true:=by simp
theorem has2 {A B:Addr}:(Value.ref A::Value.ref B::bmV).contains (.ref B)=true:=by simp
theorem hasN {CE CB CN:Addr} (h1:CB≠CN) (h2:CB≠CE):(Value.ref CN::Value.ref CE::bmV).contains (.ref CB)=false:=by
 rw [List.contains_cons,List.contains_cons,show bmV.contains (Value.ref CB)=false from rfl,Bool.or_false]
 have e1:(Value.ref CB == Value.ref CN)=false:=by rw [beq_eq_false_iff_ne];intro z;injection z with z;exact h1 z
 have e2:(Value.ref CB == Value.ref CE)=false:=by rw [beq_eq_false_iff_ne];intro z;injection z with z;exact h2 z
 rw [e1,e2];rfl
def spDoes (C CS CD:Addr):Sp:=λvs H Q _=>∃ (d pl ul t:Addr) (l g:Acts) (op:Op) (S:List Addr),vs=[.ref d,.ref t]/\DeskAv C CS CD H d pl ul l g S/\(∀ b∈S,H b≠none)/\OkA l/\l.length<=60/\g.length<=60/\H t=some (.tup op.vs)/\op.Ok/\
 ∀ (H':Hp) (ul':Addr),Keep [d,pl,ul] H H'->(ul'=ul∨H ul'=none)->DeskAv C CS CD H' d pl ul' (op.nl t l g) (op.ng l g) S->Q (op.told l g) H'
section
variable {CS CD CE CB CN:Addr}
theorem ok_does {f:Addr}{fd:FuncData} (F:Fun K "_law_does" "_law_does" s_law_does f fd) (T2:Txt12 K mg CS CD) (R:Errs K mg CE CB CN)
  (DU:MDef P w K mg base CX0 CD "undo" ["self"] 1 (spUndo C CS CD)) (DR:MDef P w K mg base CX0 CD "redo" ["self"] 1 (spRedo C CS CD)) (DD:MDef P w K mg base CX0 CD "do" ["self","deed"] 7 (spDo C CS CD))
  (RU:MDef P w K mg base (CXR P w) CD "undo" ["self"] 1 (spRaises CN λvs H=>∃ (d pl ul:Addr) (g:Acts),vs=[.ref d]/\DeskAt C CS CD H d pl ul [] g))
  (RR:MDef P w K mg base (CXR P w) CD "redo" ["self"] 1 (spRaises CN λvs H=>∃ (d pl ul:Addr) (l:Acts),vs=[.ref d]/\DeskAt C CS CD H d pl ul l []))
  (RD:MDef P w K mg base (CXR P w) CD "do" ["self","deed"] 5 (spRaises CB λvs H=>∃ (d pl ul t:Addr) (l g:Acts) (i:Ill),vs=[.ref d,.ref t]/\DeskAt C CS CD H d pl ul l g/\H t=some (.tup i.vs)/\i.Bad/\i.vs[0]?≠some (.str "mark"))) :
  FnOk P w K mg base CX0 8 f fd ["desk","deed"] (spDoes C CS CD):=by
 refine F.ok sc_law_does (λvs H Q E h=>?_) (λcdv A outer s H vs Q E hr h=>?_)
 ·obtain ⟨d,pl,ul,t,l,g,op,S,rfl,_⟩:=h
  rfl
 ·obtain ⟨d,pl,ul,t,l,g,op,S,rfl,hD,hSH,hok,hll,hgl,ht,hop,k⟩:=h
  have hr1:Room 1 _:=hr.mono (by decide)
  have hr5:Room 5 _:=hr.mono (by decide)
  obtain ⟨st,dx,e1⟩:=hD.to.at
  obtain ⟨fu,fdu,mu,bu,Fu⟩:=DU.ex
  obtain ⟨fr,fdr,mr,br,Fr⟩:=DR.ex
  obtain ⟨fo,fdo,mo,bo,Fo⟩:=DD.ex
  obtain ⟨fu',fdu',mu',bu',Fu'⟩:=RU.ex
  obtain ⟨fr',fdr',mr',br',Fr'⟩:=RR.ex
  obtain ⟨fo',fdo',mo',bo',Fo'⟩:=RD.ex
  cases op with
  |undo=>
   rcases List.eq_nil_or_concat l with e|⟨l',q,e⟩
   ·subst e
    refine' ⟨_,pss_cons (ps_set (i:=2) sc_law_does.nd rfl (Or.inl rfl) pe_str)
     (pss_cons (ps_try2 (E:=λcls _ H'=>cls=.ref CN/\H'=H) rfl rfl rfl R.mgB R.exB rfl R.mgN R.exN ?b (λA' pn'=>pss_never) (λA' pn'=>pss_one (ps_set (i:=2) sc_law_does.nd rfl (Or.inl rfl) pe_str)))
     (pss_one (ps_ret (pv 2)))),?rd⟩
    case b=>
     intro xe' pn' hp
     refine' pss_one (ps_if ?w0 (pss_one (ps_set (i:=2) sc_law_does.nd rfl (Or.inl rfl) ?c0)) pss_never)
     case w0=>exact pt_cmpR op_eq (pe_ix (ix_tupK (K':=K) rfl) (pv 1) pe_int (λ_ _=>rfl)) pe_str (nomark _)
     case c0=>exact pe_meth0 (pv 0) T2.clD mu' Fu' hr1 bu' .nil hp
    case rd=>
    refine ⟨⟨_,rfl,t,_,_,_,rfl,rfl,SqT.of ht,atN (j:=0) rfl rfl,rfl,_,rfl,iteP (by decide +kernel) ⟨_,rfl,d,dx,_,rfl,e1,no_undo _ _ _,⟨d,pl,ul,g,rfl,hD.to⟩,rfl,rfl⟩⟩,λcls H1 hE=>?_⟩
    obtain ⟨rfl,rfl⟩:=hE
    refine ⟨CN,_,rfl,R.exN,.inr ⟨hasN R.ne R.nS,has1,λx σ1 hx hl=>?_⟩⟩
    obtain ⟨a1,a2,a3,rfl⟩:=lenT (show σ1.length=3 from hl)
    refine ⟨_,rfl,k _ ul (Keep.of (Same.new hx)) (.inl rfl) ?_⟩
    show DeskAv _ _ _ _ _ _ _ [] (g++[]) _
    rw [List.append_nil];exact hD.same (Same.new hx)
   ·rw [List.concat_eq_append] at e
    subst e
    refine' ⟨_,pss_cons (ps_set (i:=2) sc_law_does.nd rfl (Or.inl rfl) pe_str)
     (pss_cons (ps_try2 (E:=λ_ _ _=>False) rfl rfl rfl R.mgB R.exB rfl R.mgN R.exN ?b (λA' pn'=>pss_never) (λA' pn'=>pss_never))
     (pss_one (ps_ret (pv 2)))),?rd⟩
    case b=>
     intro xe' pn' hp
     refine' pss_one (ps_if ?w0 (pss_one (ps_set (i:=2) sc_law_does.nd rfl (Or.inl rfl) ?c0)) pss_never)
     case w0=>exact pt_cmpR op_eq (pe_ix (ix_tupK (K':=K) rfl) (pv 1) pe_int (λ_ _=>rfl)) pe_str (nomark _)
     case c0=>exact pe_meth0 (pv 0) T2.clD mu Fu hr1 bu .nil pass0
    case rd=>
    refine ⟨⟨_,rfl,t,_,_,_,rfl,rfl,SqT.of ht,atN (j:=0) rfl rfl,rfl,_,rfl,iteP (by decide +kernel) ⟨_,rfl,d,dx,_,rfl,e1,no_undo _ _ _,d,pl,ul,q,l',g,S,rfl,hD,hgl,λH' hK hD'=>⟨_,rfl,?_⟩⟩⟩,λcls H1 hE=>hE.elim⟩
    have k':=k H' ul hK (.inl rfl) (by simpa [Op.nl,Op.ng] using hD')
    simp only [Op.told,List.append_eq_nil_iff,List.cons_ne_nil,and_false,if_false] at k'
    exact k'
  |redo=>
   rcases List.eq_nil_or_concat g with e|⟨g',q,e⟩
   ·subst e
    refine' ⟨_,pss_cons (ps_set (i:=2) sc_law_does.nd rfl (Or.inl rfl) pe_str)
     (pss_cons (ps_try2 (E:=λcls _ H'=>cls=.ref CN/\H'=H) rfl rfl rfl R.mgB R.exB rfl R.mgN R.exN ?b (λA' pn'=>pss_never) (λA' pn'=>pss_one (ps_set (i:=2) sc_law_does.nd rfl (Or.inl rfl) pe_str)))
     (pss_one (ps_ret (pv 2)))),?rd⟩
    case b=>
     intro xe' pn' hp
     refine' pss_one (ps_if ?w0 pss_never (pss_one (ps_if ?w1 (pss_one (ps_set (i:=2) sc_law_does.nd rfl (Or.inl rfl) ?c0)) pss_never)))
     case w0=>exact pt_cmpR op_eq (pe_ix (ix_tupK (K':=K) rfl) (pv 1) pe_int (λ_ _=>rfl)) pe_str (nomark _)
     case w1=>exact pt_cmpR op_eq (pe_ix (ix_tupK (K':=K) rfl) (pv 1) pe_int (λ_ _=>rfl)) pe_str (nomark _)
     case c0=>exact pe_meth0 (pv 0) T2.clD mr' Fr' hr1 br' .nil hp
    case rd=>
    refine ⟨⟨_,rfl,t,_,_,_,rfl,rfl,SqT.of ht,atN (j:=0) rfl rfl,rfl,_,rfl,iteN (by decide +kernel) ⟨_,rfl,t,_,_,_,rfl,rfl,SqT.of ht,atN (j:=0) rfl rfl,rfl,_,rfl,iteP (by decide +kernel) ⟨_,rfl,d,dx,_,rfl,e1,no_redo _ _ _,⟨d,pl,ul,l,rfl,hD.to⟩,rfl,rfl⟩⟩⟩,λcls H1 hE=>?_⟩
    obtain ⟨rfl,rfl⟩:=hE
    refine ⟨CN,_,rfl,R.exN,.inr ⟨hasN R.ne R.nS,has1,λx σ1 hx hl=>?_⟩⟩
    obtain ⟨a1,a2,a3,rfl⟩:=lenT (show σ1.length=3 from hl)
    refine ⟨_,rfl,k _ ul (Keep.of (Same.new hx)) (.inl rfl) ?_⟩
    show DeskAv _ _ _ _ _ _ _ (l++[]) [] _
    rw [List.append_nil];exact hD.same (Same.new hx)
   ·rw [List.concat_eq_append] at e
    subst e
    refine' ⟨_,pss_cons (ps_set (i:=2) sc_law_does.nd rfl (Or.inl rfl) pe_str)
     (pss_cons (ps_try2 (E:=λ_ _ _=>False) rfl rfl rfl R.mgB R.exB rfl R.mgN R.exN ?b (λA' pn'=>pss_never) (λA' pn'=>pss_never))
     (pss_one (ps_ret (pv 2)))),?rd⟩
    case b=>
     intro xe' pn' hp
     refine' pss_one (ps_if ?w0 pss_never (pss_one (ps_if ?w1 (pss_one (ps_set (i:=2) sc_law_does.nd rfl (Or.inl rfl) ?c0)) pss_never)))
     case w0=>exact pt_cmpR op_eq (pe_ix (ix_tupK (K':=K) rfl) (pv 1) pe_int (λ_ _=>rfl)) pe_str (nomark _)
     case w1=>exact pt_cmpR op_eq (pe_ix (ix_tupK (K':=K) rfl) (pv 1) pe_int (λ_ _=>rfl)) pe_str (nomark _)
     case c0=>exact pe_meth0 (pv 0) T2.clD mr Fr hr1 br .nil pass0
    case rd=>
    refine ⟨⟨_,rfl,t,_,_,_,rfl,rfl,SqT.of ht,atN (j:=0) rfl rfl,rfl,_,rfl,iteN (by decide +kernel) ⟨_,rfl,t,_,_,_,rfl,rfl,SqT.of ht,atN (j:=0) rfl rfl,rfl,_,rfl,iteP (by decide +kernel) ⟨_,rfl,d,dx,_,rfl,e1,no_redo _ _ _,d,pl,ul,q,l,g',S,rfl,hD,hll,λH' hK hD'=>⟨_,rfl,?_⟩⟩⟩⟩,λcls H1 hE=>hE.elim⟩
    have k':=k H' ul hK (.inl rfl) (by simpa [Op.nl,Op.ng] using hD')
    simp only [Op.told,List.append_eq_nil_iff,List.cons_ne_nil,and_false,if_false] at k'
    exact k'
  |act a=>
   obtain ⟨x,r,ex,h1,h2⟩:∃ x r,a.vs=V.str x::r/\¬ decide (V.str x=V.str "undo")=true/\¬ decide (V.str x=V.str "redo")=true:=by
    cases a with
    |mark n p=>exact ⟨_,_,rfl,by decide +kernel,by decide +kernel⟩
    |deed d=>cases d<;>exact ⟨_,_,rfl,by decide +kernel,by decide +kernel⟩
   have ht0:H t=some (.tup a.vs):=ht
   have ht2:SqT K H t (V.str x::r):=ex ▸ SqT.of ht0
   refine' ⟨_,pss_cons (ps_set (i:=2) sc_law_does.nd rfl (Or.inl rfl) pe_str)
    (pss_cons (ps_try2 (E:=λ_ _ _=>False) rfl rfl rfl R.mgB R.exB rfl R.mgN R.exN ?b (λA' pn'=>pss_never) (λA' pn'=>pss_never))
    (pss_one (ps_ret (pv 2)))),?rd⟩
   case b=>
    intro xe' pn' hp
    refine' pss_one (ps_if ?w0 pss_never (pss_one (ps_if ?w1 pss_never (pss_one (ps_set (i:=2) sc_law_does.nd rfl (Or.inl rfl) ?c0)))))
    case w0=>exact pt_cmpR op_eq (pe_ix (ix_tupK (K':=K) rfl) (pv 1) pe_int (λ_ _=>rfl)) pe_str (nomark _)
    case w1=>exact pt_cmpR op_eq (pe_ix (ix_tupK (K':=K) rfl) (pv 1) pe_int (λ_ _=>rfl)) pe_str (nomark _)
    case c0=>exact pe_meth (pv 0) T2.clD mo Fo hr bo .nil pass0 (pa_cons (pv 1) pa_nil)
   case rd=>
   refine ⟨⟨_,rfl,t,_,_,_,rfl,rfl,ht2,atN (j:=0) rfl rfl,rfl,_,rfl,iteN h1 ⟨_,rfl,t,_,_,_,rfl,rfl,ht2,atN (j:=0) rfl rfl,rfl,_,rfl,iteN h2 ⟨_,rfl,d,dx,_,rfl,e1,no_do _ _ _,_,rfl,d,pl,ul,t,a,l,g,S,rfl,hD,hSH,hok,hll,ht0,hop,λH' ul' hK hn hD'=>⟨_,rfl,?_⟩⟩⟩⟩,λcls H1 hE=>hE.elim⟩
   exact k H' ul' (hK.mono λb hb=>by simp at hb ⊢;rcases hb with e|e<;>simp [e]) (.inr hn) hD'
  |ill i=>
   obtain ⟨hb,hl⟩:i.Bad/\i.Law:=hop
   obtain ⟨x,r,ex,h1,h2,h3⟩:∃ x r,i.vs=V.str x::r/\¬ decide (V.str x=V.str "undo")=true/\¬ decide (V.str x=V.str "redo")=true/\¬ decide (V.str x=V.str "mark")=true:=by
    cases i with
    |word x p n=>
     have hx:x="shut":=hl
     subst hx
     exact ⟨_,_,rfl,by decide +kernel,by decide +kernel,by decide +kernel⟩
    |_=>exact ⟨_,_,rfl,by decide +kernel,by decide +kernel,by decide +kernel⟩
   have ht0:H t=some (.tup i.vs):=ht
   have ht2:SqT K H t (V.str x::r):=ex ▸ SqT.of ht0
   refine' ⟨_,pss_cons (ps_set (i:=2) sc_law_does.nd rfl (Or.inl rfl) pe_str)
    (pss_cons (ps_try2 (E:=λcls _ H'=>cls=.ref CB/\H'=H) rfl rfl rfl R.mgB R.exB rfl R.mgN R.exN ?b (λA' pn'=>pss_one (ps_set (i:=2) sc_law_does.nd rfl (Or.inl rfl) pe_str)) (λA' pn'=>pss_never))
    (pss_one (ps_ret (pv 2)))),?rd⟩
   case b=>
    intro xe' pn' hp
    refine' pss_one (ps_if ?w0 pss_never (pss_one (ps_if ?w1 pss_never (pss_one (ps_set (i:=2) sc_law_does.nd rfl (Or.inl rfl) ?c0)))))
    case w0=>exact pt_cmpR op_eq (pe_ix (ix_tupK (K':=K) rfl) (pv 1) pe_int (λ_ _=>rfl)) pe_str (nomark _)
    case w1=>exact pt_cmpR op_eq (pe_ix (ix_tupK (K':=K) rfl) (pv 1) pe_int (λ_ _=>rfl)) pe_str (nomark _)
    case c0=>exact pe_meth (pv 0) T2.clD mo' Fo' hr5 bo' .nil hp (pa_cons (pv 1) pa_nil)
   case rd=>
   refine ⟨⟨_,rfl,t,_,_,_,rfl,rfl,ht2,atN (j:=0) rfl rfl,rfl,_,rfl,iteN h1 ⟨_,rfl,t,_,_,_,rfl,rfl,ht2,atN (j:=0) rfl rfl,rfl,_,rfl,iteN h2 ⟨_,rfl,d,dx,_,rfl,e1,no_do _ _ _,_,rfl,⟨d,pl,ul,t,l,g,i,rfl,hD.to,ht0,hb,λz=>h3 (by rw [ex] at z;exact decide_eq_true (Option.some.inj z))⟩,rfl,rfl⟩⟩⟩,λcls H1 hE=>?_⟩
   obtain ⟨rfl,rfl⟩:=hE
   refine ⟨CB,_,rfl,R.exB,.inl ⟨has1,λx σ1 hx hl=>?_⟩⟩
   obtain ⟨a1,a2,a3,rfl⟩:=lenT (show σ1.length=3 from hl)
   exact ⟨_,rfl,k _ ul (Keep.of (Same.new hx)) (.inl rfl) (hD.same (Same.new hx))⟩
def spAlone (C CS CD:Addr):Sp:=λvs H Q _=>∃ (d pl ul:Addr) (l g:Acts) (wy:Str),vs=[.ref d,.str wy]/\DeskAt C CS CD H d pl ul l g/\((wy="undo"/\l=[])∨(wy="redo"/\g=[]))/\∀ H',Same H H'->Q (.bl true) H'
theorem ok_alone {f:Addr}{fd:FuncData} (F:Fun K "_law_none_alone" "_law_none_alone" s_law_none_alone f fd) (T:Txt K mg C) (T2:Txt12 K mg CS CD) (R:Errs K mg CE CB CN)
  (RU:MDef P w K mg base (CXR P w) CD "undo" ["self"] 1 (spRaises CN λvs H=>∃ (d pl ul:Addr) (g:Acts),vs=[.ref d]/\DeskAt C CS CD H d pl ul [] g))
  (RR:MDef P w K mg base (CXR P w) CD "redo" ["self"] 1 (spRaises CN λvs H=>∃ (d pl ul:Addr) (l:Acts),vs=[.ref d]/\DeskAt C CS CD H d pl ul l [])) :
  FnOk P w K mg base CX0 2 f fd ["desk","way"] (spAlone C CS CD):=by
 refine F.ok sc_law_none_alone (λvs H Q E h=>?_) (λcdv A outer s H vs Q E hr h=>?_)
 ·obtain ⟨d,pl,ul,l,g,wy,rfl,_⟩:=h
  rfl
 ·obtain ⟨d,pl,ul,l,g,wy,rfl,hD,hw,k⟩:=h
  obtain ⟨st,dx,e1⟩:=hD.at
  obtain ⟨fu',fdu',mu',bu',Fu'⟩:=RU.ex
  obtain ⟨fr',fdr',mr',br',Fr'⟩:=RR.ex
  refine' ⟨_,pss_cons (ps_set (i:=2) sc_law_none_alone.nd rfl (Or.inl rfl) pe_bl)
   (pss_cons (ps_tryAs (i:=3) (E:=λcls _ H'=>cls=.ref CN/\H'=H) rfl rfl sc_law_none_alone.nd rfl rfl rfl R.mgS R.exS ?b ?h)
   (pss_one (ps_ret (pv 2)))),?rd⟩
  case b=>
   intro xe' pn' hp
   refine' pss_one (ps_if ?w0 (pss_one (ps_expr ?c0)) (pss_one (ps_expr ?c1)))
   case w0=>exact pt_cmpR op_eq (pv 1) pe_str (nomark _)
   case c0=>exact pe_meth0 (pv 0) T2.clD mu' Fu' hr bu' .nil hp
   case c1=>exact pe_meth0 (pv 0) T2.clD mr' Fr' hr br' .nil hp
  case h=>
   intro A' pn'
   refine' pss_one (ps_set (i:=2) sc_law_none_alone.nd rfl (Or.inl rfl) ?x)
   case x=>
    refine' pe_and ?x1 (pe_and ?x2 (pe_one (pe_not ?x3)))
    case x1=>exact pe_callB (call_isexcK (K':=K) rfl) rfl T.isinstance boot_isinstance (pa_cons (pv 3) (pa_cons (pe_glob rfl R.mgN (v:=.ref CN) rfl) pa_nil))
    case x2=>exact pe_callB (call_isexcK (K':=K) rfl) rfl T.isinstance boot_isinstance (pa_cons (pv 3) (pa_cons (pe_bltn rfl R.mgV boot_VE (v:=.ty "ValueError") rfl) pa_nil))
    case x3=>exact pe_callB (call_isexcK (K':=K) rfl) rfl T.isinstance boot_isinstance (pa_cons (pv 3) (pa_cons (pe_glob rfl R.mgB (v:=.ref CB) rfl) pa_nil))
  case rd=>
  refine ⟨?_,λcls H1 hE=>?_⟩
  ·rcases hw with ⟨rfl,rfl⟩|⟨rfl,rfl⟩
   ·exact ⟨_,rfl,rfl,_,rfl,iteP (by decide +kernel) ⟨_,rfl,d,dx,_,rfl,e1,no_undo _ _ _,⟨d,pl,ul,g,rfl,hD⟩,rfl,rfl⟩⟩
   ·exact ⟨_,rfl,rfl,_,rfl,iteN (by decide +kernel) ⟨_,rfl,d,dx,_,rfl,e1,no_redo _ _ _,⟨d,pl,ul,l,rfl,hD⟩,rfl,rfl⟩⟩
  ·obtain ⟨rfl,rfl⟩:=hE
   refine ⟨CN,_,rfl,R.exN,has2,λx σ1 hx hl=>?_⟩
   obtain ⟨a1,a2,a3,a4,rfl⟩:=len4 (show σ1.length=4 from hl)
   refine ⟨_,rfl,x,CN,_,_,true,rfl,upd_same,R.clN,rfl,R.kN,true,rfl,iteT ⟨_,rfl,x,CN,_,_,true,rfl,upd_same,R.clN,rfl,R.kV,true,rfl,iteT ⟨_,rfl,x,CN,_,_,false,rfl,upd_same,R.clN,rfl,R.kB,false,rfl,?_⟩⟩⟩
   exact ⟨_,rfl,k _ (Same.new hx)⟩
end
end
section
variable {P:Program}{w:World}{K:PySem.W.Frag}{mg:Str->Option Value}{base:Heap}{C:Addr}
theorem DeskIs.keepS {CS CD:Addr}{H H':Hp}{d pl ul:Addr}{l g:Acts}{G:Hp}{st dx:Addr}{ps us:List Addr}{S:List Addr} (h:DeskIs C CS CD H d pl ul l g G st dx ps us) (hK:Keep S H H') (hG:∀ b∈S,G b=none) (h1:d ∉ S) (h2:pl ∉ S) (h3:ul ∉ S) :
  DeskIs C CS CD H' d pl ul l g G st dx ps us:=
 ⟨hK _ _ h1 h.at',hK _ _ h2 h.hp,hK _ _ h3 h.hu,h.ne,h.gd,h.gp,h.gu,λb o e=>hK b o (λhb=>by rw [hG b hb] at e;cases e) (h.sG b o e),h.now,h.pl',h.past,h.ul',h.undone⟩
def OtherOk (C CS CD:Addr) (H:Hp) (od opl oul:Addr) (W:List Addr):Prop:=DeskAv C CS CD H od opl oul [] [] W/\∀ b∈W,b≠od/\b≠opl/\b≠oul
structure LInv (C CS CD:Addr) (H:Hp) (d pl ul od opl oul sa dl gl nl sl:Addr) (l g:Acts) (nms cs:List V):Prop where
 dk:DeskAv C CS CD H d pl ul l g [dl,gl]
 st:StandAt H sa dl gl l g
 ac:∀ q∈l++g,H q.1=some (.tup q.2.vs)/\q.2.Ok
 ot:OtherOk C CS CD H od opl oul [d,pl,ul,dl,gl]
 nm:H nl=some (.lst nms)
 cl:H sl=some (.lst cs)
 w1:∀ b∈[nl,sl],b ∉ [d,pl,ul,dl,gl]
 ds:∀ b∈[dl,gl],b ∉ [d,pl,ul]
section
variable {CS CD:Addr}{H H1 H2:Hp}{d pl ul ul' od opl oul sa dl gl nl sl:Addr}{l g:Acts}{nms cs:List V}
theorem LInv.same (I:LInv C CS CD H d pl ul od opl oul sa dl gl nl sl l g nms cs) (s:Same H H1):LInv C CS CD H1 d pl ul od opl oul sa dl gl nl sl l g nms cs:=
 ⟨I.dk.same s,⟨s _ _ I.st.1,s _ _ I.st.2.1,s _ _ I.st.2.2.1,I.st.2.2.2⟩,λq hq=>⟨s _ _ (I.ac q hq).1,(I.ac q hq).2⟩,⟨I.ot.1.same s,I.ot.2⟩,s _ _ I.nm,s _ _ I.cl,I.w1,I.ds⟩
theorem LInv.there (I:LInv C CS CD H d pl ul od opl oul sa dl gl nl sl l g nms cs):∀ b∈[d,pl,ul,dl,gl],∃ o,H b=some o/\∀ vs,o≠.tup vs:=by
 obtain ⟨G,st,dx,ps,us,hD,_⟩:=I.dk
 intro b hb
 simp only [List.mem_cons,List.not_mem_nil,or_false] at hb
 rcases hb with rfl|rfl|rfl|rfl|rfl
 ·exact ⟨_,hD.at',λ_ z=>by cases z⟩
 ·exact ⟨_,hD.hp,λ_ z=>by cases z⟩
 ·exact ⟨_,hD.hu,λ_ z=>by cases z⟩
 ·exact ⟨_,I.st.2.1,λ_ z=>by cases z⟩
 ·exact ⟨_,I.st.2.2.1,λ_ z=>by cases z⟩
theorem LInv.tup (I:LInv C CS CD H d pl ul od opl oul sa dl gl nl sl l g nms cs) {b:Addr}{vs:List V} (h:H b=some (.tup vs)):b ∉ [d,pl,ul,dl,gl]:=λhb=>by
 obtain ⟨o,h1,h2⟩:=I.there b hb
 rw [h] at h1
 exact h2 vs (Option.some.inj h1).symm
theorem LInv.stand1 (I:LInv C CS CD H d pl ul od opl oul sa dl gl nl sl l g nms cs) (k1:Keep [d,pl,ul] H H1):StandAt H1 sa dl gl l g:=by
 refine ⟨k1 _ _ (λhb=>?_) I.st.1,k1 _ _ (I.ds dl (by simp)) I.st.2.1,k1 _ _ (I.ds gl (by simp)) I.st.2.2.1,I.st.2.2.2⟩
 exact I.tup I.st.1 (by simp only [List.mem_cons,List.not_mem_nil,or_false] at hb ⊢;rcases hb with e|e|e<;>simp [e])
theorem Op.mem {op:Op}{t:Addr}{q:Addr×Act} (h:q∈op.nl t l g++op.ng l g):q∈l++g∨∃ a,op=.act a/\q=(t,a):=by
 have lst:∀ {x:Acts},q∈x.getLast?.toList->q∈x:=λ{x} hx=>by
  cases e:x.getLast? with
  |none=>rw [e] at hx;cases hx
  |some y=>
   rw [e] at hx
   rw [List.mem_singleton.mp hx]
   exact List.mem_of_getLast? e
 cases op with
 |undo=>
  rcases List.mem_append.mp h with h|h
  ·exact .inl (List.mem_append_left _ ((List.dropLast_sublist _).subset h))
  ·rcases List.mem_append.mp h with h|h
   ·exact .inl (List.mem_append_right _ h)
   ·exact .inl (List.mem_append_left _ (lst h))
 |redo=>
  rcases List.mem_append.mp h with h|h
  ·rcases List.mem_append.mp h with h|h
   ·exact .inl (List.mem_append_left _ h)
   ·exact .inl (List.mem_append_right _ (lst h))
  ·exact .inl (List.mem_append_right _ ((List.dropLast_sublist _).subset h))
 |act a=>
  rcases List.mem_append.mp h with h|h
  ·rcases List.mem_append.mp h with h|h
   ·exact .inl (List.mem_append_left _ h)
   ·exact .inr ⟨a,rfl,List.mem_singleton.mp h⟩
  ·cases h
 |ill i=>exact .inl h
theorem Op.len (op:Op) (t:Addr) (l g:Acts):(op.nl t l g).length+(op.ng l g).length<=l.length+g.length+1:=by
 have ll:∀ x:Acts,x.getLast?.toList.length<=1:=λx=>by cases x.getLast?<;>simp
 cases op with
 |undo=>
  show l.dropLast.length+(g++l.getLast?.toList).length<=_
  rw [List.length_dropLast,List.length_append]
  have:=ll l
  omega
 |redo=>
  show (l++g.getLast?.toList).length+g.dropLast.length<=_
  rw [List.length_dropLast,List.length_append]
  have:=ll g
  omega
 |act a=>
  show (l++[(t,a)]).length+0<=_
  rw [List.length_append,List.length_singleton]
  omega
 |ill i=>exact Nat.le_succ _
theorem LInv.step (I:LInv C CS CD H d pl ul od opl oul sa dl gl nl sl l g nms cs) {t:Addr}{op:Op} (ht:H t=some (.tup op.vs)) (hop:op.Ok) (k1:Keep [d,pl,ul] H H1) (hu:ul'=ul∨H ul'=none)
  (dk1:DeskAv C CS CD H1 d pl ul' (op.nl t l g) (op.ng l g) [dl,gl]) (k2:Keep [dl,gl] H1 H2) (st2:StandAt H2 sa dl gl (op.nl t l g) (op.ng l g)) :
  LInv C CS CD H2 d pl ul' od opl oul sa dl gl nl sl (op.nl t l g) (op.ng l g) nms cs/\Keep [d,pl,ul,dl,gl] H H2:=by
 have kW:Keep [d,pl,ul,dl,gl] H H2:=Keep.trans (k1.mono λb hb=>by simp only [List.mem_cons,List.not_mem_nil,or_false] at hb ⊢;rcases hb with e|e|e<;>simp [e]) (k2.mono λb hb=>by simp only [List.mem_cons,List.not_mem_nil,or_false] at hb ⊢;rcases hb with e|e<;>simp [e])
 have hnew:∀ b o,H b=some o->b ∉ [d,pl,ul,dl,gl]->b ∉ [d,pl,ul',dl,gl]:=λb o hb hn h=>by
  simp only [List.mem_cons,List.not_mem_nil,or_false] at h hn
  rcases h with e|e|e|e|e
  ·exact hn (.inl e)
  ·exact hn (.inr (.inl e))
  ·rcases hu with z|z
   ·exact hn (.inr (.inr (.inl (e.trans z))))
   ·exact ne_of_none hb z e
  ·exact hn (.inr (.inr (.inr (.inl e))))
  ·exact hn (.inr (.inr (.inr (.inr e))))
 have hds:∀ b∈[dl,gl],b ∉ [d,pl,ul']:=λb hb h=>by
  have h0:=I.ds b hb
  simp only [List.mem_cons,List.not_mem_nil,or_false] at h h0
  have hbo:∃ o,H b=some o:=by
   obtain ⟨o,h1,_⟩:=I.there b (by simp only [List.mem_cons,List.not_mem_nil,or_false] at hb ⊢;rcases hb with e|e<;>simp [e])
   exact ⟨o,h1⟩
  obtain ⟨o,hbo⟩:=hbo
  rcases h with e|e|e
  ·exact h0 (.inl e)
  ·exact h0 (.inr (.inl e))
  ·rcases hu with z|z
   ·exact h0 (.inr (.inr (e.trans z)))
   ·exact ne_of_none hbo z e
 refine ⟨⟨?_,st2,λq hq=>?_,?_,kW _ _ (I.w1 nl (by simp)) I.nm,kW _ _ (I.w1 sl (by simp)) I.cl,λb hb=>?_,hds⟩,kW⟩
 ·obtain ⟨G,st,dx,ps,us,hD,hG⟩:=dk1
  refine ⟨G,st,dx,ps,us,hD.keepS k2 hG (λh=>hds _ h (by simp)) (λh=>hds _ h (by simp)) (λh=>hds _ h (by simp)),hG⟩
 ·rcases Op.mem hq with h|⟨a,rfl,rfl⟩
  ·exact ⟨kW _ _ (I.tup (I.ac q h).1) (I.ac q h).1,(I.ac q h).2⟩
  ·exact ⟨kW _ _ (I.tup ht) ht,hop⟩
 ·obtain ⟨⟨G,st,dx,ps,us,hD,hG⟩,hn⟩:=I.ot
  have hW:∀ b∈[d,pl,ul',dl,gl],b∈[d,pl,ul,dl,gl]∨H b=none:=λb hb=>by
   simp only [List.mem_cons,List.not_mem_nil,or_false] at hb ⊢
   rcases hb with e|e|e|e|e
   ·simp [e]
   ·simp [e]
   ·rcases hu with z|z
    ·simp [e,z]
    ·rw [e];exact .inr z
   ·simp [e]
   ·simp [e]
  refine ⟨⟨G,st,dx,ps,us,hD.keepS kW hG (λh=>(hn _ h).1 rfl) (λh=>(hn _ h).2.1 rfl) (λh=>(hn _ h).2.2 rfl),λb hb=>?_⟩,λb hb=>?_⟩
  ·rcases hW b hb with z|z
   ·exact hG b z
   ·exact hD.sG.free z
  ·rcases hW b hb with z|z
   ·exact hn b z
   ·exact ⟨(ne_of_none hD.at' z).symm,(ne_of_none hD.hp z).symm,(ne_of_none hD.hu z).symm⟩
 ·rcases List.mem_cons.mp hb with e|hb
  ·subst e;exact hnew _ _ I.nm (I.w1 _ (by simp))
  ·have e:=List.mem_singleton.mp hb
   subst e;exact hnew _ _ I.cl (I.w1 _ (by simp))
end
end
section
variable {P:Program}{w:World}{K:PySem.W.Frag}{mg:Str->Option Value}{base:Heap}{C:Addr}
theorem desk_made {CS CD:Addr}{H1 H2:Hp}{x dx pl ul:Addr} (hx:H1 x=none) (hdx:H1 dx=none) (ne:dx≠x) (hK:Keep [x] (upd (upd H1 dx (.own x)) x (.ins CD dx [])) H2) (hD:DeskNew C CS CD (upd (upd H1 dx (.own x)) x (.ins CD dx [])) H2 x pl ul)
  (hpl:(upd (upd H1 dx (.own x)) x (.ins CD dx [])) pl=none) (hul:(upd (upd H1 dx (.own x)) x (.ins CD dx [])) ul=none) :
  Same H1 H2/\H1 pl=none/\H1 ul=none/\∃ G st dx ps us,DeskIs C CS CD H2 x pl ul [] [] G st dx ps us/\∀ b,H1 b≠none->G b=none:=by
 have s:Same H1 (upd (upd H1 dx (.own x)) x (.ins CD dx [])):=Same.upd (Same.new hdx) hx
 obtain ⟨G,st,dx',ps,us,h1,h2⟩:=hD
 refine ⟨λb o e=>hK b o (λz=>?_) (s b o e),s.free hpl,s.free hul,G,st,dx',ps,us,h1,λb hb=>h2 b λz=>hb (s.free z)⟩
 exact ne_of_none e hx (List.mem_singleton.mp z)
theorem hvTold (op:Op) (l g:Acts):HV (op.told l g):=by
 cases op with
 |undo=>show HV (if l=[] then _ else _);split;exact HV.str _;exact HV.non
 |redo=>show HV (if g=[] then _ else _);split;exact HV.str _;exact HV.non
 |act a=>exact HV.non
 |ill i=>exact HV.str _
section
variable {CS CD CE CB CN fD:Addr}{fdD:FuncData}
set_option maxHeartbeats 8000000 in
theorem ok_law {f:Addr}{fd:FuncData} (F:Fun K "law" "law" s_law f fd) (T:Txt K mg C) (T2:Txt12 K mg CS CD) (MD:Mk K CD fD) (GD:FnOk P w K mg base CX0 5 fD fdD ["self"] (spInitD C CS CD)) (bD:Binds K fdD ["self"] [])
  (DC:Def P w K mg base "_law_cell_at" ["script","k"] 1 (spCellAt K)) (DN:Def P w K mg base "_law_names" ["cell"] 1 spNames) (DNx:Def P w K mg base "_law_next" ["cell","other","names"] 2 (spNext K))
  (DL:MDef P w K mg base CX0 CD "line" ["self"] 4 (spDLine C CS CD)) (DNm:MDef P w K mg base CX0 CD "names" ["self"] 1 (spDNames C CS CD))
  (DDoes:Def P w K mg base "_law_does" ["desk","deed"] 8 (spDoes C CS CD)) (DDue:Def P w K mg base "_law_due_of" ["stand","deed"] 2 (spDueOf K)) (DMR:Def P w K mg base "_law_marks_right" ["desk","marks"] 2 (spMR C CS CD))
  (DMk:Def P w K mg base "_law_marks" ["deeds"] 2 (spMarks K)) (DAl:Def P w K mg base "_law_none_alone" ["desk","way"] 2 (spAlone C CS CD)) (DSt:Def P w K mg base "_law_stands" ["desk","deeds"] 5 (spStands C CS CD))
  (DLn:Def P w K mg base "_law_line" ["found","due"] 2 (spLine K C)):FnOk P w K mg base CX0 9 f fd ["script"] (spLaw K):=by
 refine F.ok sc_law (λvs H Q E h=>?_) (λcdv A outer s H vs Q E hr h=>?_)
 ·obtain ⟨a,ns,rfl,_⟩:=h
  rfl
 ·obtain ⟨a,ns,rfl,hS,hlen,k⟩:=h
  have hr1:Room 1 _:=hr.mono (by decide)
  have hr2:Room 2 _:=hr.mono (by decide)
  have hr4:Room 4 _:=hr.mono (by decide)
  have hr5:Room 5 _:=hr.mono (by decide)
  have hr6:Room 6 _:=hr.mono (by decide)
  have hu:=hu16 hr
  obtain ⟨fl,fdl,ml,bl,Fl⟩:=DL.ex
  obtain ⟨fn,fdn,mn,bn,Fn⟩:=DNm.ex
  refine' ⟨_,pss_cons (ps_set (i:=1) sc_law.nd rfl (Or.inl rfl) ?n1)
   (pss_cons (ps_set (i:=2) sc_law.nd rfl (Or.inl rfl) (pe_make0 MD GD hr6 rfl T2.mgD bD .nil pass0))
   (pss_cons (ps_set (i:=3) sc_law.nd rfl (Or.inl rfl) (pe_make0 MD GD hr6 rfl T2.mgD bD .nil pass0))
   (pss_cons (ps_set (i:=4) sc_law.nd rfl (Or.inl rfl) (pe_tup (pa_cons (pe_lst pa_nil) (pa_cons (pe_lst pa_nil) pa_nil))))
   (pss_cons (ps_set (i:=5) sc_law.nd rfl (Or.inl rfl) (pe_slice sl_list (pv 0) (po_some pe_int) po_none))
   (pss_cons (ps_for PassesOwn.never rfl ?r (pg_name (i:=6) sc_law.nd rfl (Or.inl rfl))
    (pss_cons (ps_set (i:=7) sc_law.nd rfl (Or.inl rfl) ?b7)
    (pss_cons (ps_set (i:=8) sc_law.nd rfl (Or.inl rfl) (pe_meth0 (pv 2) T2.clD ml Fl hr4 bl .nil pass0))
    (pss_cons (ps_set (i:=9) sc_law.nd rfl (Or.inl rfl) ?b9)
    (pss_cons (ps_set (i:=10) sc_law.nd rfl (Or.inl rfl) (pe_callD DDoes hr rfl (pa_cons (pv 2) (pa_cons (pv 7) pa_nil))))
    (pss_cons (ps_set (i:=11) sc_law.nd rfl (Or.inl rfl) (pe_callD DDue hr2 rfl (pa_cons (pv 4) (pa_cons (pv 7) pa_nil))))
    (pss_cons (ps_if ?c1 (pss_one (ps_ret pe_bl)) pss_nil)
    (pss_cons (ps_if ?c2 (pss_one (ps_ret pe_bl)) pss_nil)
    (pss_one (ps_if ?c3 (pss_one (ps_ret pe_bl)) pss_nil))))))))))
   (pss_cons (ps_if (pt_not (pt_val ?s1)) (pss_one (ps_ret pe_bl)) pss_nil)
   (pss_one (ps_ret ?fin)))))))),?rd⟩
  case n1=>exact pe_callD DN hr1 rfl (pa_cons (pe_callD DC hr1 rfl (pa_cons (pv 0) (pa_cons pe_int pa_nil))) pa_nil)
  case r=>exact pi_range1 rfl T.range (pa_cons (pe_op op_fdiv (pe_callB call_len_seq rfl T.len PySem.boot_len (pa_cons (pv 5) pa_nil)) pe_int) pa_nil)
  case b7=>
   refine' pe_callD DNx hr2 rfl (pa_cons ?x (pa_cons ?y (pa_cons (pv 1) pa_nil)))
   case x=>exact pe_ix ix_list (pv 5) (pe_op op_mul pe_int (pv 6)) (λ_ _=>rfl)
   case y=>exact pe_ix ix_list (pv 5) (pe_op op_add (pe_op op_mul pe_int (pv 6)) pe_int) (λ_ _=>rfl)
  case b9=>
   refine' pe_tup (pa_cons ?x (pa_cons ?y pa_nil))
   case x=>exact pe_callTy call_list_of rfl T.list boot_list (pa_cons (pe_fld (pv 8) rfl) pa_nil)
   case y=>exact pe_callTy call_list_of rfl T.list boot_list (pa_cons (pe_fld (pv 8) rfl) pa_nil)
  case c1=>
   refine' PW.pt (pw_or (pt_cmpR op_ne (pv 10) (pv 11) (nomark _)) (pw_or1 (pt_not (pt_val ?x))))
   case x=>exact pe_callD DMR hr2 rfl (pa_cons (pv 2) (pa_cons (pe_callD DMk hr2 rfl (pa_cons (pe_ix ix_tup (pv 4) pe_int (λ_ _=>rfl)) pa_nil)) pa_nil))
  case c2=>
   refine' PW.pt (pw_and (pt_cmpR op_eq (pv 11) pe_str (nomark _)) (pw_and1 (pt_not (pt_val ?x))))
   case x=>exact pe_callD DAl hr2 rfl (pa_cons (pv 2) (pa_cons (pe_ix ix_tup (pv 7) pe_int (λ_ _=>rfl)) pa_nil))
  case c3=>
   refine' PW.pt (pw_or ?x (pw_or1 (PW.pt (pw_and (pt_cmpR op_eq (pe_op op_mod (pv 6) pe_int) pe_int (nomark _)) (pw_and1 (pt_not (pt_val ?y)))))))
   case x=>exact pt_cmpR (op_neD hu) (pv 9) (pe_tup (pa_cons (pe_fld (pv 8) rfl) (pa_cons (pe_fld (pv 8) rfl) pa_nil))) (nomark _)
   case y=>exact pe_callD DSt hr5 rfl (pa_cons (pv 2) (pa_cons (pe_ix ix_tup (pv 4) pe_int (λ_ _=>rfl)) pa_nil))
  case s1=>exact pe_callD DSt hr5 rfl (pa_cons (pv 2) (pa_cons (pe_ix ix_tup (pv 4) pe_int (λ_ _=>rfl)) pa_nil))
  case fin=>
   refine' pe_and ?x (pe_one ?y)
   case x=>exact pe_callD DLn hr2 rfl (pa_cons (pe_meth0 (pv 3) T2.clD ml Fl hr4 bl .nil pass0) (pa_cons (pe_tup (pa_cons (pe_lst pa_nil) (pa_cons (pe_lst (pa_cons pe_non pa_nil)) pa_nil))) pa_nil))
   case y=>exact pe_cmpR (op_eqD hu) (pe_meth0 (pv 3) T2.clD mn Fn hr1 bn .nil pass0) (pe_lst pa_nil) (nomark _)
  case rd=>
  refine ⟨_,rfl,a,ns,0,rfl,hS,hlen,_,rfl,λnl H1 t1 t2 t3 s1 hnl gnl=>?_⟩
  refine λd dxd hd hdx ne=>⟨d,dxd,rfl,upd_same,λH2 pl ul hK hDn hpl hul=>⟨rfl,?_⟩⟩
  obtain ⟨s2,hpl1,hul1,G1,st1,dx1,ps1,us1,hD1,hG1⟩:=desk_made hd hdx ne hK hDn hpl hul
  clear hK hDn hpl hul hdx ne
  refine λod dxo hod hdx ne=>⟨od,dxo,rfl,upd_same,λH3 opl oul hK hDn hpl hul=>⟨rfl,?_⟩⟩
  obtain ⟨s3,hpl2,hul2,G2,st2,dx2,ps2,us2,hD2,hG2⟩:=desk_made hod hdx ne hK hDn hpl hul
  clear hK hDn hpl hul hdx ne
  refine ⟨Nat.zero_le _,λdl hdl=>⟨Nat.zero_le _,λgl hgl=>⟨smallL (by show 2<=2000;decide),λsa hsa=>?_⟩⟩⟩
  have s4:Same H3 (upd H3 dl (.lst [])):=Same.new hdl
  have s5:Same (upd H3 dl (.lst [])) (upd (upd H3 dl (.lst [])) gl (.lst [])):=Same.new hgl
  have s6:Same (upd (upd H3 dl (.lst [])) gl (.lst [])) (upd (upd (upd H3 dl (.lst [])) gl (.lst [])) sa (.tup [.ref dl,.ref gl])):=Same.new hsa
  have g1:=s6 _ _ (s5 _ _ (upd_same (H:=H3) (a:=dl) (o:=.lst [])))
  have g2:=s6 _ _ (upd_same (H:=upd H3 dl (.lst [])) (a:=gl) (o:=.lst []))
  have g3:(upd (upd (upd H3 dl (.lst [])) gl (.lst [])) sa (.tup [.ref dl,.ref gl])) sa=some (.tup [.ref dl,.ref gl]):=upd_same
  have s36:=s4.trans (s5.trans s6)
  have hgl3:H3 gl=none:=s4.free hgl
  have ndg:dl≠gl:=ne_of_none upd_same hgl
  generalize upd (upd (upd H3 dl (.lst [])) gl (.lst [])) sa (.tup [.ref dl,.ref gl])=H6 at s36 g1 g2 g3 ⊢
  clear s4 s5 s6 hgl hsa
  have ecut:cutV (ns.map V.int) (some 1) none=(ns.drop 1).map V.int:=by
   rw [show (1:Int)=((1:Nat):Int) from rfl,cut_from,List.map_drop]
  refine ⟨_,rfl,_,rfl,a,_,rfl,(s1.trans (s2.trans (s3.trans s36))).seq hS,λsl hsl=>?_⟩
  rw [ecut]
  have s7:Same H6 (upd H6 sl (.lst ((ns.drop 1).map V.int))):=Same.new hsl
  have gsl:(upd H6 sl (.lst ((ns.drop 1).map V.int))) sl=some (.lst ((ns.drop 1).map V.int)):=upd_same
  have gdl6:=g1
  have I0:LInv C CS CD (upd H6 sl (.lst ((ns.drop 1).map V.int))) d pl ul od opl oul sa dl gl nl sl [] [] [.non,.str t1,.str t2,.str t3] ((ns.drop 1).map V.int):=by
   have fr3:∀ b∈[dl,gl],H3 b=none:=λb hb=>by
    rcases List.mem_cons.mp hb with e|hb
    ·rw [e];exact hdl
    ·rw [List.mem_singleton.mp hb];exact hgl3
   have th2:∀ b∈[d,pl,ul],∃ o,H2 b=some o:=λb hb=>by
    simp only [List.mem_cons,List.not_mem_nil,or_false] at hb
    rcases hb with e|e|e
    ·rw [e];exact ⟨_,hD1.at'⟩
    ·rw [e];exact ⟨_,hD1.hp⟩
    ·rw [e];exact ⟨_,hD1.hu⟩
   have fr1:∀ b∈[d,pl,ul],H1 b=none:=λb hb=>by
    simp only [List.mem_cons,List.not_mem_nil,or_false] at hb
    rcases hb with e|e|e
    ·rw [e];exact hd
    ·rw [e];exact hpl1
    ·rw [e];exact hul1
   have hds:∀ b∈[dl,gl],b ∉ [d,pl,ul]:=λb hb h=>by
    obtain ⟨o,ho⟩:=th2 b h
    have:=s3 _ _ ho
    rw [fr3 b hb] at this;cases this
   have spl:∀ {b:Addr},b∈[d,pl,ul,dl,gl]->b∈[d,pl,ul]∨b∈[dl,gl]:=λ{b} hb=>by
    simp only [List.mem_cons,List.not_mem_nil,or_false] at hb ⊢
    rcases hb with e|e|e|e|e<;>simp [e]
   refine ⟨⟨G1,st1,dx1,ps1,us1,hD1.keep (s3.trans (s36.trans s7)),λb hb=>?_⟩,⟨s7 _ _ g3,s7 _ _ g1,s7 _ _ g2,ndg⟩,λq hq=>(by cases hq),⟨⟨G2,st2,dx2,ps2,us2,hD2.keep (s36.trans s7),λb hb=>?_⟩,λb hb=>?_⟩,(s2.trans (s3.trans (s36.trans s7))) _ _ gnl,gsl,λb hb h=>?_,hds⟩
   ·exact (hD1.sG.trans s3).free (fr3 b hb)
   ·rcases spl hb with h|h
    ·obtain ⟨o,ho⟩:=th2 b h
     exact hG2 b (by rw [ho];simp)
    ·exact hD2.sG.free (fr3 b h)
   ·rcases spl hb with h|h
    ·obtain ⟨o,ho⟩:=th2 b h
     exact ⟨ne_of_none ho hod,ne_of_none ho hpl2,ne_of_none ho hul2⟩
    ·exact ⟨(ne_of_none hD2.at' (fr3 b h)).symm,(ne_of_none hD2.hp (fr3 b h)).symm,(ne_of_none hD2.hu (fr3 b h)).symm⟩
   ·rcases List.mem_cons.mp hb with e|hb
    ·subst e
     rcases spl h with h|h
     ·rw [fr1 _ h] at gnl;cases gnl
     ·have:=s3 _ _ (s2 _ _ gnl)
      rw [fr3 _ h] at this;cases this
    ·have e:=List.mem_singleton.mp hb
     subst e
     rcases spl h with h|h
     ·obtain ⟨o,ho⟩:=th2 _ h
      have:=s36 _ _ (s3 _ _ ho)
      rw [hsl] at this;cases this
     ·simp only [List.mem_cons,List.not_mem_nil,or_false] at h
      rcases h with e|e
      ·rw [e,g1] at hsl;cases hsl
      ·rw [e,g2] at hsl;cases hsl
  clear s1 s2 s3 s36 s7 g1 g2 g3 gdl6 hD1 hD2 hG1 hG2 hsl gsl hdl hgl3 hd hod hpl1 hpl2 hul1 hul2
  generalize upd H6 sl (.lst ((ns.drop 1).map V.int))=H7 at I0 ⊢
  have lenS:((ns.drop 1).map V.int).length=ns.length - 1:=by rw [List.length_map,List.length_drop]
  refine ⟨_,rfl,sl,_,rfl,.inl (SqL.of I0.cl),_,_,rfl,rfl,⟨by decide,by decide⟩,_,rfl,(by omega),(by rw [lenS];omega),?_⟩
  rw [show (((((ns.drop 1).map V.int).length:Nat):Int) / 2).toNat=(ns.length - 1) / 2 by rw [lenS];omega]
  refine for_range (λi σ H'=>∃ (ul:Addr) (l g:Acts) (x6 x7 x8 x9 x10 x11:Option V),σ=[some (.ref a),some (.ref nl),some (.ref d),some (.ref od),some (.ref sa),some (.ref sl),x6,x7,x8,x9,x10,x11]/\l.length+g.length<=i/\LInv C CS CD H' d pl ul od opl oul sa dl gl nl sl l g [.non,.str t1,.str t2,.str t3] ((ns.drop 1).map V.int)) ?_ ?_ ?_
  ·exact ⟨ul,[],[],none,none,none,none,none,none,rfl,Nat.le_refl _,I0⟩
  ·rintro i σ H0 hi ⟨ul,l,g,x6,x7,x8,x9,x10,x11,rfl,hlg,I⟩
   have hdl:(ns.drop 1).length=ns.length - 1:=List.length_drop ..
   have c1:((ns.drop 1).map V.int)[2 * i]?=some (V.int ((ns.drop 1).getD (2 * i) 0)):=by
    rw [List.getElem?_map,List.getElem?_eq_getElem (by omega),List.getD_eq_getElem?_getD,List.getElem?_eq_getElem (by omega)];rfl
   have c2:((ns.drop 1).map V.int)[2 * i+1]?=some (V.int ((ns.drop 1).getD (2 * i+1) 0)):=by
    rw [List.getElem?_map,List.getElem?_eq_getElem (by omega),List.getD_eq_getElem?_getD,List.getElem?_eq_getElem (by omega)];rfl
   refine ⟨_,rfl,_,rfl,_,_,rfl,rfl,.inl ⟨by decide,by decide⟩,sl,_,_,_,rfl,rfl,SqL.of I.cl,atN (j:=2 * i) (by omega) c1,_,rfl,_,rfl,_,_,rfl,rfl,.inl ⟨by decide,by decide⟩,_,_,rfl,rfl,sl,_,_,_,rfl,rfl,SqL.of I.cl,atN (j:=2 * i+1) (by omega) c2,_,rfl,?_⟩
   refine ⟨_,_,nl,_,rfl,⟨SqL.of I.nm,rfl,λu hu=>?_⟩,λt H1 op s1 htn ht hop=>?_⟩
   ·rcases List.mem_cons.mp hu with e|hu
    ·rw [e];exact HV.non
    ·obtain ⟨x,_,e⟩:∃ x,x∈[t1,t2,t3]/\V.str x=u:=List.mem_map.mp (show u∈[t1,t2,t3].map V.str from hu)
     rw [<-e];exact HV.str x
   have I1:=I.same s1
   obtain ⟨std,dxd,e1⟩:=I1.dk.to.at
   have hok:OkA l:=λq hq=>(I.ac q (List.mem_append_left _ hq)).2
   refine ⟨_,rfl,d,dxd,_,rfl,e1,no_line _ _ _,d,pl,ul,l,g,rfl,I1.dk.to,by omega,λp H2 v qs s2 ln hF hql hv=>?_⟩
   obtain ⟨dxl,ca,ha,lp0,la0,lh0,lp,la,lh⟩:=ln
   refine ⟨_,rfl,p,C,dxl,_,_,rfl,lp,T.cl,T.nC,flds_cuts _ _,ca,_,rfl,.inl (SqL.of la),λkc hkc=>?_⟩
   have s3:Same H2 (upd H2 kc (.lst (cutsV qs))):=Same.new hkc
   refine ⟨_,rfl,p,C,dxl,_,_,rfl,s3 _ _ lp,T.cl,T.nH,flds_holds _ _,ha,_,rfl,.inl (SqL.of (s3 _ _ lh)),λkh hkh=>?_⟩
   have s4:Same (upd H2 kc (.lst (cutsV qs))) (upd (upd H2 kc (.lst (cutsV qs))) kh (.lst (holdsV v qs))):=Same.new hkh
   refine ⟨smallL (by show 2<=2000;decide),λkt hkt=>?_⟩
   have s5:Same (upd (upd H2 kc (.lst (cutsV qs))) kh (.lst (holdsV v qs))) (upd (upd (upd H2 kc (.lst (cutsV qs))) kh (.lst (holdsV v qs))) kt (.tup [.ref kc,.ref kh])):=Same.new hkt
   have s25:=s3.trans (s4.trans s5)
   have gkc:=s5 _ _ (s4 _ _ (upd_same (H:=H2) (a:=kc) (o:=.lst (cutsV qs))))
   have gkh:=s5 _ _ (upd_same (H:=upd H2 kc (.lst (cutsV qs))) (a:=kh) (o:=.lst (holdsV v qs)))
   have gkt:(upd (upd (upd H2 kc (.lst (cutsV qs))) kh (.lst (holdsV v qs))) kt (.tup [.ref kc,.ref kh])) kt=some (.tup [.ref kc,.ref kh]):=upd_same
   have hkh2:H2 kh=none:=s3.free hkh
   generalize upd (upd (upd H2 kc (.lst (cutsV qs))) kh (.lst (holdsV v qs))) kt (.tup [.ref kc,.ref kh])=H5 at s25 gkc gkh gkt ⊢
   have s15:=s2.trans s25
   have I5:=I1.same s15
   have ht5:=s15 _ _ ht
   have th1:∀ b∈[d,pl,ul,dl,gl],H1 b≠none:=λb hb=>by
    obtain ⟨o,h1,_⟩:=I1.there b hb
    rw [h1];simp
   have np:p ∉ [d,pl,ul,dl,gl]:=λh=>th1 _ h lp0
   have na:ca ∉ [d,pl,ul,dl,gl]:=λh=>th1 _ h la0
   have nh:ha ∉ [d,pl,ul,dl,gl]:=λh=>th1 _ h lh0
   have nkc:kc ∉ [d,pl,ul,dl,gl]:=λh=>th1 _ h (s2.free hkc)
   have nkh:kh ∉ [d,pl,ul,dl,gl]:=λh=>th1 _ h (s2.free hkh2)
   have nkt:=I5.tup gkt
   have nac:ca≠kc:=ne_of_none la hkc
   have nah:ha≠kh:=ne_of_none lh hkh2
   have lp5:=s25 _ _ lp
   have la5:=s25 _ _ la
   have lh5:=s25 _ _ lh
   clear s3 s4 s5 hkc hkh hkt hkh2
   refine ⟨_,rfl,_,rfl,d,pl,ul,t,l,g,op,[dl,gl],rfl,I5.dk,λb hb=>?_,hok,by omega,by omega,ht5,hop,λH6 ul' k1 hul dk1=>?_⟩
   ·obtain ⟨o,h1,_⟩:=I5.there b (by simp only [List.mem_cons,List.not_mem_nil,or_false] at hb ⊢;rcases hb with e|e<;>simp [e])
    rw [h1];simp
   have hS6:=I5.stand1 k1
   have ht6:H6 t=some (.tup op.vs):=k1 _ _ (λhb=>I5.tup ht5 (by simp only [List.mem_cons,List.not_mem_nil,or_false] at hb ⊢;rcases hb with e|e|e<;>simp [e])) ht5
   refine ⟨_,rfl,_,rfl,sa,dl,gl,t,l,g,op,rfl,hS6,SqT.of ht6,hop,by omega,by omega,λH7 k2 st7=>?_⟩
   obtain ⟨I7,kW⟩:=I5.step ht5 hop k1 hul dk1 k2 st7
   have ht7:=kW _ _ (I5.tup ht5) ht5
   have lp7:=kW _ _ np lp5
   have la7:=kW _ _ na la5
   have lh7:=kW _ _ nh lh5
   have gkc7:=kW _ _ nkc gkc
   have gkh7:=kW _ _ nkh gkh
   have gkt7:=kW _ _ nkt gkt
   have hlen7:=op.len t l g
   have hi31:i<31:=by omega
   clear kW k1 k2 hS6 ht6 dk1 lp5 la5 lh5 gkc gkh gkt
   have hmn:op.told l g=.str "none"->(op=.undo/\op.nl t l g=[])∨(op=.redo/\op.ng l g=[]):=λh=>by
    cases op with
    |undo=>
     by_cases e:l=[]
     ·subst e;exact .inl ⟨rfl,rfl⟩
     ·exact absurd h (by show (if l=[] then _ else _)≠_;rw [if_neg e];intro z;cases z)
    |redo=>
     by_cases e:g=[]
     ·subst e;exact .inr ⟨rfl,rfl⟩
     ·exact absurd h (by show (if g=[] then _ else _)≠_;rw [if_neg e];intro z;cases z)
    |act a=>cases h
    |ill i=>exact absurd h (by show V.str "bad"≠V.str "none";decide +kernel)
   have htold:=hvTold op l g
   generalize op.told l g=tv at hmn htold ⊢
   generalize op.nl t l g=l' at I7 hlen7 hmn ⊢
   generalize op.ng l g=g' at I7 hlen7 hmn ⊢
   have hok7:OkA l':=λq hq=>(I7.ac q (List.mem_append_left _ hq)).2
   have hA7:ActsH H7 dl l':=⟨I7.st.2.1,λq hq=>I7.ac q (List.mem_append_left _ hq)⟩
   have ekeep:∀ (H10:Hp) (kt2:Addr),Same H7 H10->H10 kt2=none->EqD K (upd H10 kt2 (.tup [.ref ca,.ref ha])) false 2 (.ref kt) (.ref kt2) true:=λH10 kt2 s10 hk2=>by
    have s11:Same H7 (upd H10 kt2 (.tup [.ref ca,.ref ha])):=s10.trans (Same.new hk2)
    have fc:∀ x∈cutsV qs,flatV x=true:=λx hx=>by obtain ⟨q,_,rfl⟩:=List.mem_map.mp hx;rfl
    have fh:∀ x∈holdsV v qs,flatV x=true:=λx hx=>(hF.hh.mem x hx).flat
    have e1:=eqd_flat (K:=K) (SqL.of (s11 _ _ gkc7)) (SqL.of (s11 _ _ la7)) fc fc
    have e2:=eqd_flat (K:=K) (SqL.of (s11 _ _ gkh7)) (SqL.of (s11 _ _ lh7)) fh fh
    rw [eqVs_cuts,decide_eq_true rfl] at e1
    rw [eqVs_holds hF.hh hF.hh,decide_eq_true rfl] at e2
    exact eqd_pairT (SqT.of (s11 _ _ gkt7)) (SqT.of upd_same) (EqD.refs nac.symm e1) (EqD.refs nah.symm e2)
   refine ⟨_,rfl,_,rfl,htold.scal htold,_,rfl,iteNS rfl ?_⟩
   refine ⟨_,rfl,_,rfl,sa,_,_,_,rfl,rfl,SqT.of I7.st.1,atN (j:=0) rfl rfl,dl,l',rfl,hA7.at,λm H8 s8 hm gm=>?_⟩
   refine ⟨d,pl,ul',m,l',g',rfl,I7.dk.to.same s8,hok7,gm,λH9 s9=>⟨true,rfl,iteN (by decide) ?_⟩⟩
   have s79:=s8.trans s9
   refine ⟨_,rfl,htold.scal (HV.str _),_,rfl,ite2 (λhc=>?y1) (λhc=>?y2)⟩
   case' y1=>
    obtain ⟨w,ew,hw⟩:∃ w:Str,op.vs=[.str w]/\((w="undo"/\l'=[])∨(w="redo"/\g'=[])):=by
     rcases hmn (of_decide_eq_true hc) with ⟨e,h⟩|⟨e,h⟩
     ·subst e;exact ⟨_,rfl,.inl ⟨rfl,h⟩⟩
     ·subst e;exact ⟨_,rfl,.inr ⟨rfl,h⟩⟩
    rw [ew] at ht7
    refine ⟨_,rfl,_,rfl,t,_,_,_,rfl,rfl,SqT.of (s79 _ _ ht7),atN (j:=0) rfl rfl,d,pl,ul',l',g',w,rfl,I7.dk.to.same s79,hw,λH10 s910=>⟨true,rfl,iteN (by decide) ?_⟩⟩
    have s10:=s79.trans s910
   case' y2=>
    have s10:=s79
    generalize H9=H10 at s10 ⊢
    refine iteF ?_
   all_goals
    have lp10:=s10 _ _ lp7
    refine ⟨_,rfl,_,rfl,p,C,dxl,_,_,rfl,lp10,T.cl,T.nC,flds_cuts _ _,_,rfl,p,C,dxl,_,_,rfl,lp10,T.cl,T.nH,flds_holds _ _,smallL (by show 2<=2000;decide),λkt2 hk2=>?_⟩
    have e2:=ekeep H10 kt2 s10 hk2
    have s11:Same H7 (upd H10 kt2 (.tup [.ref ca,.ref ha])):=s10.trans (Same.new hk2)
    refine ⟨2,true,by decide,e2,_,rfl,iteN (by decide) ?_⟩
    clear e2
    generalize upd H10 kt2 (.tup [.ref ca,.ref ha])=H11 at s11 ⊢
    refine ⟨_,rfl,_,_,rfl,rfl,(by show (0:Int)<5;decide),rfl,_,rfl,ite2 (λhc5=>?_) (λhc5=>?_)⟩
    ·refine ⟨_,rfl,_,rfl,sa,_,_,_,rfl,rfl,SqT.of (s11 _ _ I7.st.1),atN (j:=0) rfl rfl,d,pl,ul',dl,l',g',rfl,I7.dk.to.same s11,hA7.same s11,by omega,λH12 s12=>⟨true,rfl,iteN (by decide) ?_⟩⟩
     exact ⟨ul',l',g',_,_,_,_,_,_,rfl,by omega,I7.same (s11.trans s12)⟩
    ·exact iteF ⟨ul',l',g',_,_,_,_,_,_,rfl,by omega,I7.same s11⟩
  ·rintro σ H0 ⟨ul,l,g,x6,x7,x8,x9,x10,x11,rfl,hlg,I⟩
   have hA:ActsH H0 dl l:=⟨I.st.2.1,λq hq=>I.ac q (List.mem_append_left _ hq)⟩
   refine ⟨_,rfl,_,rfl,sa,_,_,_,rfl,rfl,SqT.of I.st.1,atN (j:=0) rfl rfl,d,pl,ul,dl,l,g,rfl,I.dk.to,hA,by omega,λH1 s1=>⟨true,rfl,iteN (by decide) ?_⟩⟩
   have hO:=I.ot.1.to.same s1
   obtain ⟨sto,dxo,e1⟩:=hO.at
   refine ⟨_,rfl,od,dxo,_,rfl,e1,no_line _ _ _,od,opl,oul,[],[],rfl,hO,by decide,λp H2 v qs s2 ln hF hql hv=>?_⟩
   obtain rfl:qs=[]:=List.eq_nil_of_length_eq_zero (Nat.le_zero.mp hql)
   obtain rfl:v=.non:=hv 0
   refine ⟨Nat.zero_le _,λl1 h1=>⟨smallL (by show 1<=2000;decide),λl2 h2=>⟨smallL (by show 2<=2000;decide),λtt htt=>?_⟩⟩⟩
   have s3:Same H2 (upd H2 l1 (.lst [])):=Same.new h1
   have s4:Same (upd H2 l1 (.lst [])) (upd (upd H2 l1 (.lst [])) l2 (.lst [.non])):=Same.new h2
   have s5:Same (upd (upd H2 l1 (.lst [])) l2 (.lst [.non])) (upd (upd (upd H2 l1 (.lst [])) l2 (.lst [.non])) tt (.tup [.ref l1,.ref l2])):=Same.new htt
   have g1:=s5 _ _ (s4 _ _ (upd_same (H:=H2) (a:=l1) (o:=.lst [])))
   have g2:=s5 _ _ (upd_same (H:=upd H2 l1 (.lst [])) (a:=l2) (o:=.lst [.non]))
   have g3:(upd (upd (upd H2 l1 (.lst [])) l2 (.lst [.non])) tt (.tup [.ref l1,.ref l2])) tt=some (.tup [.ref l1,.ref l2]):=upd_same
   have s25:=s3.trans (s4.trans s5)
   generalize upd (upd (upd H2 l1 (.lst [])) l2 (.lst [.non])) tt (.tup [.ref l1,.ref l2])=H5 at s25 g1 g2 g3 ⊢
   refine ⟨p,tt,.non,[],rfl,ln.at.same s25,⟨l1,l2,SqT.of g3,SqL.of g1,SqL.of g2⟩,⟨HV.non,λq hq=>nomatch hq⟩,Nat.zero_le _,true,rfl,iteT ?_⟩
   have hO5:=hO.same (s2.trans s25)
   refine ⟨_,rfl,od,dxo,_,rfl,s25 _ _ (s2 _ _ e1),no_names _ _ _,od,opl,oul,[],[],rfl,hO5,(λq hq=>nomatch hq),λr τ hr0 hp _=>?_⟩
   obtain rfl:τ=[]:=hp.eq_nil
   refine ⟨Nat.zero_le _,λr2 hr2=>⟨1,true,by decide,?_,k _⟩⟩
   exact EqD.lists (K:=K) (n:=0) (λ_=>true) (SqL.of (Same.new hr2 _ _ upd_same)) (SqL.of upd_same) rfl (λj x y hx=>by simp at hx)
end
end
end Cut
namespace Cut
open PySem L2 PyProof.Rows
noncomputable def fX (x y:Str) (st:Stmt) (m:Value) (c:Nat):FuncData:=PySem.W.fnOf x y (defArgs st) (defBody st) (defScope st) .none .none .none m none (.ref c) .none
noncomputable def fO (x y:Str) (st:Stmt) (m:Value) (c:Nat):Obj:=⟨.type "function",none,.func (fX x y st m c),#[]⟩
section
variable {l:PySem.W.OpenLaw}{w:World}{h:Heap}{mg:Str->Option Value}
theorem fO_mk {K:PySem.W.Frag}{x y:Str}{st:Stmt}{m:Value}{c f:Nat} (l:K.lookup f=some (fO x y st m c)) (i:PySem.W.codeIn K (.ref c) y=true) (k:PySem.W.keepIn K (.ref f)=true):Fun K x y st f (fX x y st m c):=fun_mk l i k
theorem dmk {P:Program}{K:PySem.W.Frag}{base:Heap}{x:Str}{st:Stmt}{m:Value}{c f k:Nat}{ps:List Str}{sp:Sp} (X:K.In h) (G:h.Ns mainGlobals mg) (F:Fun K x x st f (fX x x st m c)) (a:PySem.W.nsIn K mainGlobals x=some (some (.ref f)))
  (hb:∀ (kV doc pm:Value) (an:Option Addr) (cdv ct:Value) (us:List Value),us.length=ps.length->bindArgs (PySem.W.fnOf x x (defArgs st) (defBody st) (defScope st) .none kV doc pm an cdv ct) ⟨us,[]⟩=pure (ps.zip us)) (ok:FnOk P w K mg base CX0 k f (fX x x st m c) ps sp):Def P w K mg base x ps k sp:=⟨⟨f,_,PySem.W.mg_of X G a,F.kp,F.binds hb,ok⟩⟩
theorem lenU0 {p:List Value->Prop} (h:p []) (us:List Value) (e:us.length=0):p us:=by rw [List.eq_nil_of_length_eq_zero e];exact h
theorem lenU1 {p:List Value->Prop} (h:∀ a0,p [a0]) (us:List Value) (e:us.length=1):p us:=by obtain ⟨a0,r,rfl⟩:=List.exists_cons_of_length_eq_add_one e;exact lenU0 (p:=λus=>p (a0::us)) (h a0) r (by simpa using e)
theorem lenU2 {p:List Value->Prop} (h:∀ a0 a1,p [a0,a1]) (us:List Value) (e:us.length=2):p us:=by obtain ⟨a0,r,rfl⟩:=List.exists_cons_of_length_eq_add_one e;exact lenU1 (p:=λus=>p (a0::us)) (h a0) r (by simpa using e)
theorem lenU3 {p:List Value->Prop} (h:∀ a0 a1 a2,p [a0,a1,a2]) (us:List Value) (e:us.length=3):p us:=by obtain ⟨a0,r,rfl⟩:=List.exists_cons_of_length_eq_add_one e;exact lenU2 (p:=λus=>p (a0::us)) (h a0) r (by simpa using e)
theorem lenU4 {p:List Value->Prop} (h:∀ a0 a1 a2 a3,p [a0,a1,a2,a3]) (us:List Value) (e:us.length=4):p us:=by obtain ⟨a0,r,rfl⟩:=List.exists_cons_of_length_eq_add_one e;exact lenU3 (p:=λus=>p (a0::us)) (h a0) r (by simpa using e)
theorem lenU5 {p:List Value->Prop} (h:∀ a0 a1 a2 a3 a4,p [a0,a1,a2,a3,a4]) (us:List Value) (e:us.length=5):p us:=by obtain ⟨a0,r,rfl⟩:=List.exists_cons_of_length_eq_add_one e;exact lenU4 (p:=λus=>p (a0::us)) (h a0) r (by simpa using e)
theorem lenU6 {p:List Value->Prop} (h:∀ a0 a1 a2 a3 a4 a5,p [a0,a1,a2,a3,a4,a5]) (us:List Value) (e:us.length=6):p us:=by obtain ⟨a0,r,rfl⟩:=List.exists_cons_of_length_eq_add_one e;exact lenU5 (p:=λus=>p (a0::us)) (h a0) r (by simpa using e)
theorem mmk {P:Program}{K:PySem.W.Frag}{base:Heap}{CX:CXT}{CD:Addr}{x y:Str}{st:Stmt}{m:Value}{c f k:Nat}{ps:List Str}{sp:Sp} (F:Fun K x y st f (fX x y st m c)) (a:Meth K CD x f)
  (hb:∀ (kV doc pm:Value) (an:Option Addr) (cdv ct:Value) (us:List Value),us.length=ps.length->bindArgs (PySem.W.fnOf x y (defArgs st) (defBody st) (defScope st) .none kV doc pm an cdv ct) ⟨us,[]⟩=pure (ps.zip us)) (ok:FnOk P w K mg base CX k f (fX x y st m c) ps sp):MDef P w K mg base CX CD x ps k sp:=⟨⟨f,_,a,F.binds hb,ok⟩⟩
theorem rmk {P:Program}{K:PySem.W.Frag}{base:Heap}{x:Str}{st:Stmt}{m:Value}{c f k:Nat}{ps:List Str}{sp:Sp} (X:K.In h) (G:h.Ns mainGlobals mg) (F:Fun K x x st f (fX x x st m c)) (a:PySem.W.nsIn K mainGlobals x=some (some (.ref f)))
  (hb:∀ (kV doc pm:Value) (an:Option Addr) (cdv ct:Value) (us:List Value),us.length=ps.length->bindArgs (PySem.W.fnOf x x (defArgs st) (defBody st) (defScope st) .none kV doc pm an cdv ct) ⟨us,[]⟩=pure (ps.zip us)) (ok:FnOk P w K mg base (CXR P w) k f (fX x x st m c) ps sp):DefR P w K mg base x ps k sp:=⟨⟨f,_,PySem.W.mg_of X G a,F.kp,F.binds hb,ok⟩⟩
theorem F65:Fun (Kx w.params) "__init__" "Line.__init__" s_Line_init 65 (fX "__init__" "Line.__init__" s_Line_init m0 64):=fO_mk (by kernel_rfl) (by kernel_rfl) (by kernel_rfl)
theorem F77:Fun (Kx w.params) "own_copy" "own_copy" s_own_copy 77 (fX "own_copy" "own_copy" s_own_copy m0 76):=fO_mk (by kernel_rfl) (by kernel_rfl) (by kernel_rfl)
theorem F84:Fun (Kx w.params) "line_of" "line_of" s_line_of 84 (fX "line_of" "line_of" s_line_of m0 83):=fO_mk (by kernel_rfl) (by kernel_rfl) (by kernel_rfl)
theorem F91:Fun (Kx w.params) "empty_line" "empty_line" s_empty_line 91 (fX "empty_line" "empty_line" s_empty_line m0 90):=fO_mk (by kernel_rfl) (by kernel_rfl) (by kernel_rfl)
theorem F98:Fun (Kx w.params) "cuts_up_to" "cuts_up_to" s_cuts_up_to 98 (fX "cuts_up_to" "cuts_up_to" s_cuts_up_to m0 97):=fO_mk (by kernel_rfl) (by kernel_rfl) (by kernel_rfl)
theorem F105:Fun (Kx w.params) "check_size" "check_size" s_check_size 105 (fX "check_size" "check_size" s_check_size m1 104):=fO_mk (by kernel_rfl) (by kernel_rfl) (by kernel_rfl)
theorem F112:Fun (Kx w.params) "check_times" "check_times" s_check_times 112 (fX "check_times" "check_times" s_check_times m1 111):=fO_mk (by kernel_rfl) (by kernel_rfl) (by kernel_rfl)
theorem F119:Fun (Kx w.params) "has_no_places" "has_no_places" s_has_no_places 119 (fX "has_no_places" "has_no_places" s_has_no_places m1 118):=fO_mk (by kernel_rfl) (by kernel_rfl) (by kernel_rfl)
theorem F126:Fun (Kx w.params) "put" "put" s_put 126 (fX "put" "put" s_put m1 125):=fO_mk (by kernel_rfl) (by kernel_rfl) (by kernel_rfl)
theorem F131:Fun (Kx w.params) "opened" "opened" s_opened 131 (fX "opened" "opened" s_opened m1 130):=fO_mk (by kernel_rfl) (by kernel_rfl) (by kernel_rfl)
theorem F136:Fun (Kx w.params) "closed" "closed" s_closed 136 (fX "closed" "closed" s_closed m1 135):=fO_mk (by kernel_rfl) (by kernel_rfl) (by kernel_rfl)
theorem F141:Fun (Kx w.params) "stretched" "stretched" s_stretched 141 (fX "stretched" "stretched" s_stretched m1 140):=fO_mk (by kernel_rfl) (by kernel_rfl) (by kernel_rfl)
theorem F148:Fun (Kx w.params) "done" "done" s_done 148 (fX "done" "done" s_done m1 147):=fO_mk (by kernel_rfl) (by kernel_rfl) (by kernel_rfl)
theorem F155:Fun (Kx w.params) "carried_by_opening" "carried_by_opening" s_carried_by_opening 155 (fX "carried_by_opening" "carried_by_opening" s_carried_by_opening m1 154):=fO_mk (by kernel_rfl) (by kernel_rfl) (by kernel_rfl)
theorem F162:Fun (Kx w.params) "carried_by_closing" "carried_by_closing" s_carried_by_closing 162 (fX "carried_by_closing" "carried_by_closing" s_carried_by_closing m1 161):=fO_mk (by kernel_rfl) (by kernel_rfl) (by kernel_rfl)
theorem F169:Fun (Kx w.params) "carried_by_stretching" "carried_by_stretching" s_carried_by_stretching 169 (fX "carried_by_stretching" "carried_by_stretching" s_carried_by_stretching m1 168):=fO_mk (by kernel_rfl) (by kernel_rfl) (by kernel_rfl)
theorem F176:Fun (Kx w.params) "carried" "carried" s_carried 176 (fX "carried" "carried" s_carried m1 175):=fO_mk (by kernel_rfl) (by kernel_rfl) (by kernel_rfl)
theorem F204:Fun (Kx w.params) "with_mark" "with_mark" s_with_mark 204 (fX "with_mark" "with_mark" s_with_mark m2 203):=fO_mk (by kernel_rfl) (by kernel_rfl) (by kernel_rfl)
theorem F211:Fun (Kx w.params) "behind_deed" "behind_deed" s_behind_deed 211 (fX "behind_deed" "behind_deed" s_behind_deed m2 210):=fO_mk (by kernel_rfl) (by kernel_rfl) (by kernel_rfl)
theorem F281:Fun (Kx w.params) "_law_cell_at" "_law_cell_at" s_law_cell_at 281 (fX "_law_cell_at" "_law_cell_at" s_law_cell_at m3 280):=fO_mk (by kernel_rfl) (by kernel_rfl) (by kernel_rfl)
theorem F286:Fun (Kx w.params) "_law_names" "_law_names" s_law_names 286 (fX "_law_names" "_law_names" s_law_names m3 285):=fO_mk (by kernel_rfl) (by kernel_rfl) (by kernel_rfl)
theorem F293:Fun (Kx w.params) "_law_deed" "_law_deed" s_law_deed 293 (fX "_law_deed" "_law_deed" s_law_deed m3 292):=fO_mk (by kernel_rfl) (by kernel_rfl) (by kernel_rfl)
theorem F300:Fun (Kx w.params) "_law_next" "_law_next" s_law_next 300 (fX "_law_next" "_law_next" s_law_next m3 299):=fO_mk (by kernel_rfl) (by kernel_rfl) (by kernel_rfl)
theorem F307:Fun (Kx w.params) "_law_value" "_law_value" s_law_value 307 (fX "_law_value" "_law_value" s_law_value m3 306):=fO_mk (by kernel_rfl) (by kernel_rfl) (by kernel_rfl)
theorem F312:Fun (Kx w.params) "_law_edges_behind" "_law_edges_behind" s_law_edges_behind 312 (fX "_law_edges_behind" "_law_edges_behind" s_law_edges_behind m3 311):=fO_mk (by kernel_rfl) (by kernel_rfl) (by kernel_rfl)
theorem F319:Fun (Kx w.params) "_law_edges" "_law_edges" s_law_edges 319 (fX "_law_edges" "_law_edges" s_law_edges m3 318):=fO_mk (by kernel_rfl) (by kernel_rfl) (by kernel_rfl)
theorem F326:Fun (Kx w.params) "_law_due" "_law_due" s_law_due 326 (fX "_law_due" "_law_due" s_law_due m3 325):=fO_mk (by kernel_rfl) (by kernel_rfl) (by kernel_rfl)
theorem F333:Fun (Kx w.params) "_law_whole" "_law_whole" s_law_whole 333 (fX "_law_whole" "_law_whole" s_law_whole m3 332):=fO_mk (by kernel_rfl) (by kernel_rfl) (by kernel_rfl)
theorem F340:Fun (Kx w.params) "_law_held" "_law_held" s_law_held 340 (fX "_law_held" "_law_held" s_law_held m3 339):=fO_mk (by kernel_rfl) (by kernel_rfl) (by kernel_rfl)
theorem F347:Fun (Kx w.params) "_law_line" "_law_line" s_law_line 347 (fX "_law_line" "_law_line" s_law_line m3 346):=fO_mk (by kernel_rfl) (by kernel_rfl) (by kernel_rfl)
theorem F354:Fun (Kx w.params) "_law_moved" "_law_moved" s_law_moved 354 (fX "_law_moved" "_law_moved" s_law_moved m3 353):=fO_mk (by kernel_rfl) (by kernel_rfl) (by kernel_rfl)
theorem F361:Fun (Kx w.params) "_law_marks" "_law_marks" s_law_marks 361 (fX "_law_marks" "_law_marks" s_law_marks m3 360):=fO_mk (by kernel_rfl) (by kernel_rfl) (by kernel_rfl)
theorem F368:Fun (Kx w.params) "_law_does" "_law_does" s_law_does 368 (fX "_law_does" "_law_does" s_law_does m3 367):=fO_mk (by kernel_rfl) (by kernel_rfl) (by kernel_rfl)
theorem F375:Fun (Kx w.params) "_law_ill" "_law_ill" s_law_ill 375 (fX "_law_ill" "_law_ill" s_law_ill m3 374):=fO_mk (by kernel_rfl) (by kernel_rfl) (by kernel_rfl)
theorem F382:Fun (Kx w.params) "_law_none_alone" "_law_none_alone" s_law_none_alone 382 (fX "_law_none_alone" "_law_none_alone" s_law_none_alone m3 381):=fO_mk (by kernel_rfl) (by kernel_rfl) (by kernel_rfl)
theorem F389:Fun (Kx w.params) "_law_due_of" "_law_due_of" s_law_due_of 389 (fX "_law_due_of" "_law_due_of" s_law_due_of m3 388):=fO_mk (by kernel_rfl) (by kernel_rfl) (by kernel_rfl)
theorem F396:Fun (Kx w.params) "_law_marks_right" "_law_marks_right" s_law_marks_right 396 (fX "_law_marks_right" "_law_marks_right" s_law_marks_right m3 395):=fO_mk (by kernel_rfl) (by kernel_rfl) (by kernel_rfl)
theorem F401:Fun (Kx w.params) "_law_stands" "_law_stands" s_law_stands 401 (fX "_law_stands" "_law_stands" s_law_stands m3 400):=fO_mk (by kernel_rfl) (by kernel_rfl) (by kernel_rfl)
theorem F408:Fun (Kx w.params) "law" "law" s_law 408 (fX "law" "law" s_law m3 407):=fO_mk (by kernel_rfl) (by kernel_rfl) (by kernel_rfl)
theorem F190:Fun (Kx w.params) "__init__" "State.__init__" s_State_init 190 (fX "__init__" "State.__init__" s_State_init m2 189):=fO_mk (by kernel_rfl) (by kernel_rfl) (by kernel_rfl)
theorem F225:Fun (Kx w.params) "__init__" "Desk.__init__" s_Desk_init 225 (fX "__init__" "Desk.__init__" s_Desk_init m2 224):=fO_mk (by kernel_rfl) (by kernel_rfl) (by kernel_rfl)
theorem F232:Fun (Kx w.params) "do" "Desk.do" s_Desk_do 232 (fX "do" "Desk.do" s_Desk_do m2 231):=fO_mk (by kernel_rfl) (by kernel_rfl) (by kernel_rfl)
theorem F239:Fun (Kx w.params) "undo" "Desk.undo" s_Desk_undo 239 (fX "undo" "Desk.undo" s_Desk_undo m2 238):=fO_mk (by kernel_rfl) (by kernel_rfl) (by kernel_rfl)
theorem F246:Fun (Kx w.params) "redo" "Desk.redo" s_Desk_redo 246 (fX "redo" "Desk.redo" s_Desk_redo m2 245):=fO_mk (by kernel_rfl) (by kernel_rfl) (by kernel_rfl)
theorem F253:Fun (Kx w.params) "line" "Desk.line" s_Desk_line 253 (fX "line" "Desk.line" s_Desk_line m2 252):=fO_mk (by kernel_rfl) (by kernel_rfl) (by kernel_rfl)
theorem F260:Fun (Kx w.params) "where" "Desk.where" s_Desk_where 260 (fX "where" "Desk.where" s_Desk_where m2 259):=fO_mk (by kernel_rfl) (by kernel_rfl) (by kernel_rfl)
theorem F267:Fun (Kx w.params) "names" "Desk.names" s_Desk_names 267 (fX "names" "Desk.names" s_Desk_names m2 266):=fO_mk (by kernel_rfl) (by kernel_rfl) (by kernel_rfl)
theorem txt (X:(Kx w.params).In h) (G:h.Ns mainGlobals mg):Txt (Kx w.params) mg 68:=⟨⟨by kernel_rfl,by kernel_rfl,by kernel_rfl,by kernel_rfl⟩,by unfold NoAttr;kernel_rfl,by unfold NoAttr;kernel_rfl,PySem.W.mg_of X G (by kernel_rfl),PySem.W.mg_none_of X G (by kernel_rfl),PySem.W.mg_none_of X G (by kernel_rfl),PySem.W.mg_none_of X G (by kernel_rfl),PySem.W.mg_none_of X G (by kernel_rfl),PySem.W.mg_none_of X G (by kernel_rfl),PySem.W.mg_none_of X G (by kernel_rfl),PySem.W.mg_none_of X G (by kernel_rfl),PySem.W.mg_none_of X G (by kernel_rfl),PySem.W.mg_none_of X G (by kernel_rfl),PySem.W.mg_none_of X G (by kernel_rfl),PySem.W.mg_none_of X G (by kernel_rfl),PySem.W.mg_none_of X G (by kernel_rfl),PySem.W.mg_none_of X G (by kernel_rfl),PySem.W.mg_none_of X G (by kernel_rfl),PySem.W.mg_none_of X G (by kernel_rfl),by kernel_rfl,by kernel_rfl,by kernel_rfl,by kernel_rfl⟩
theorem all_mk {fa:Addr} (X:(Kx w.params).In h) (G:h.Ns mainGlobals mg) (hfa:mg "law"=some (.ref fa)) :
  ∃ fd:FuncData,(∀ (s:Shared) (v:Value),BindsTo s fd ⟨[v],[]⟩ [("script",v)])/\∀ base:Heap,(Kx w.params).In base->base.Ns mainGlobals mg->FnOk l.prog w (Kx w.params) mg base CX0 9 fa fd ["script"] (spLaw (Kx w.params)):=by
 have e:=hfa.symm.trans (PySem.W.mg_of (v:=.ref 408) X G (by kernel_rfl))
 cases e
 have T:=txt X G
 have M:Mk (Kx w.params) 68 65:=⟨by kernel_rfl,by kernel_rfl,by kernel_rfl,by kernel_rfl⟩
 have b0:=(F65 (w:=w)).binds (ps:=["self","cuts","holds"]) λ_ _ _ _ _ _=>lenU3 λ_ _ _=>rfl
 refine ⟨fX "law" "law" s_law m3 407,λs v=>.of_eq rfl,λbase _ _=>?_⟩
 have GI:FnOk l.prog w (Kx w.params) mg base CX0 1 65 _ ["self","cuts","holds"] (spInit 68):=ok_init F65 T
 have DO:Def l.prog w (Kx w.params) mg base "own_copy" ["thing"] 1 (spOwn):=dmk X G F77 (by kernel_rfl) (λ_ _ _ _ _ _=>lenU1 λ_=>rfl) (ok_own F77 T)
 have DL:Def l.prog w (Kx w.params) mg base "line_of" ["cuts","holds"] 3 (spLineOf (Kx w.params) 68):=dmk X G F84 (by kernel_rfl) (λ_ _ _ _ _ _=>lenU2 λ_ _=>rfl) (ok_line_of F84 T M GI b0 DO)
 have DEm:Def l.prog w (Kx w.params) mg base "empty_line" [] 4 (spEmpty 68):=dmk X G F91 (by kernel_rfl) (λ_ _ _ _ _ _=>lenU0 rfl) (ok_empty F91 DL)
 have DU:Def l.prog w (Kx w.params) mg base "cuts_up_to" ["line","place"] 1 (spUpTo 68):=dmk X G F98 (by kernel_rfl) (λ_ _ _ _ _ _=>lenU2 λ_ _=>rfl) (ok_upto F98 T)
 have DCS:Def l.prog w (Kx w.params) mg base "check_size" ["size"] 1 (spCheckS):=dmk X G F105 (by kernel_rfl) (λ_ _ _ _ _ _=>lenU1 λ_=>rfl) (ok_check_size F105 )
 have DCT:Def l.prog w (Kx w.params) mg base "check_times" ["times"] 1 (spCheckT):=dmk X G F112 (by kernel_rfl) (λ_ _ _ _ _ _=>lenU1 λ_=>rfl) (ok_check_times F112 )
 have DNP:Def l.prog w (Kx w.params) mg base "has_no_places" ["start","end"] 1 (spNoPl):=dmk X G F119 (by kernel_rfl) (λ_ _ _ _ _ _=>lenU2 λ_ _=>rfl) (ok_no_places F119 )
 have DPu:Def l.prog w (Kx w.params) mg base "put" ["line","start","end","value"] 4 (spPut 68):=dmk X G F126 (by kernel_rfl) (λ_ _ _ _ _ _=>lenU4 λ_ _ _ _=>rfl) (ok_put F126 T DNP DU DL)
 have DOp:Def l.prog w (Kx w.params) mg base "opened" ["line","place","size"] 4 (spOpened 68):=dmk X G F131 (by kernel_rfl) (λ_ _ _ _ _ _=>lenU3 λ_ _ _=>rfl) (ok_opened F131 T DCS DU DL)
 have DCl:Def l.prog w (Kx w.params) mg base "closed" ["line","place","size"] 4 (spClosed 68):=dmk X G F136 (by kernel_rfl) (λ_ _ _ _ _ _=>lenU3 λ_ _ _=>rfl) (ok_closed F136 T DCS DU DL)
 have DSt:Def l.prog w (Kx w.params) mg base "stretched" ["line","times"] 4 (spStretched 68):=dmk X G F141 (by kernel_rfl) (λ_ _ _ _ _ _=>lenU2 λ_ _=>rfl) (ok_stretched F141 T DCT DL)
 have DDo:Def l.prog w (Kx w.params) mg base "done" ["line","deed"] 5 (spDone (Kx w.params) 68):=dmk X G F148 (by kernel_rfl) (λ_ _ _ _ _ _=>lenU2 λ_ _=>rfl) (ok_done F148 DPu DOp DCl DSt)
 have DBO:Def l.prog w (Kx w.params) mg base "carried_by_opening" ["place","gap","size"] 2 (spByOpen):=dmk X G F155 (by kernel_rfl) (λ_ _ _ _ _ _=>lenU3 λ_ _ _=>rfl) (ok_by_open F155 DCS)
 have DBC:Def l.prog w (Kx w.params) mg base "carried_by_closing" ["place","gap","size"] 2 (spByClose):=dmk X G F162 (by kernel_rfl) (λ_ _ _ _ _ _=>lenU3 λ_ _ _=>rfl) (ok_by_close F162 T DCS)
 have DBS:Def l.prog w (Kx w.params) mg base "carried_by_stretching" ["place","times"] 2 (spByStr):=dmk X G F169 (by kernel_rfl) (λ_ _ _ _ _ _=>lenU2 λ_ _=>rfl) (ok_by_str F169 DCT)
 have DCa:Def l.prog w (Kx w.params) mg base "carried" ["place","deed"] 3 (spCarried (Kx w.params)):=dmk X G F176 (by kernel_rfl) (λ_ _ _ _ _ _=>lenU2 λ_ _=>rfl) (ok_carried F176 DBO DBC DBS)
 have T2:Txt12 (Kx w.params) mg 193 270:=⟨⟨by kernel_rfl,by kernel_rfl,by kernel_rfl,by kernel_rfl⟩,by unfold NoAttr;kernel_rfl,by unfold NoAttr;kernel_rfl,PySem.W.mg_of X G (by kernel_rfl),⟨by kernel_rfl,by kernel_rfl,by kernel_rfl,by kernel_rfl⟩,by unfold NoAttr;kernel_rfl,by unfold NoAttr;kernel_rfl,by unfold NoAttr;kernel_rfl,PySem.W.mg_of X G (by kernel_rfl)⟩
 have MS:Mk (Kx w.params) 193 190:=⟨by kernel_rfl,by kernel_rfl,by kernel_rfl,by kernel_rfl⟩
 have bS:=(F190 (w:=w)).binds (ps:=["self","drawn","marks"]) (λ_ _ _ _ _ _=>lenU3 λ_ _ _=>rfl)
 have GS:FnOk l.prog w (Kx w.params) mg base CX0 1 190 _ ["self","drawn","marks"] (spInitS 193):=ok_initS F190 T2
 have DWm:Def l.prog w (Kx w.params) mg base "with_mark" ["state","name","place"] 3 (spWithMark 68 193):=dmk X G F204 (by kernel_rfl) (λ_ _ _ _ _ _=>lenU3 λ_ _ _=>rfl) (ok_with_mark F204 T T2 MS GS bS)
 have DBh:Def l.prog w (Kx w.params) mg base "behind_deed" ["state","deed"] 6 (spBehind 68 193):=dmk X G F211 (by kernel_rfl) (λ_ _ _ _ _ _=>lenU2 λ_ _=>rfl) (ok_behind F211 T T2 MS GS bS DWm DDo DCa)
 have R:Errs (Kx w.params) mg 24 37 49:=⟨PySem.W.mg_of X G (by kernel_rfl),PySem.W.mg_of X G (by kernel_rfl),PySem.W.mg_of X G (by kernel_rfl),PySem.W.mg_none_of X G (by kernel_rfl),⟨⟨none,c24,(some (.ref 15)),none,(some (.str "SpanError" 189)),(some (.str "SpanError" 197)),(some (.bool true)),o23 w.params,by kernel_rfl,by kernel_rfl,by kernel_rfl,by kernel_rfl,by kernel_rfl,by kernel_rfl⟩,.inl rfl⟩,⟨⟨none,c37,(some (.ref 28)),none,(some (.str "BadDeed" 207)),(some (.str "BadDeed" 215)),(some (.bool true)),o36 w.params,by kernel_rfl,by kernel_rfl,by kernel_rfl,by kernel_rfl,by kernel_rfl,by kernel_rfl⟩,.inr ⟨24,.type "type",none,c24,#[(some (.ref 15)),none,(some (.str "SpanError" 189)),(some (.str "SpanError" 197)),(some (.builtin "ValueError.__new__")),(some (.bool true))],o23 w.params,rfl,by kernel_rfl,by kernel_rfl,by kernel_rfl,by kernel_rfl⟩⟩,⟨⟨none,c49,(some (.ref 40)),none,(some (.str "NoDeed" 223)),(some (.str "NoDeed" 231)),(some (.bool true)),o48 w.params,by kernel_rfl,by kernel_rfl,by kernel_rfl,by kernel_rfl,by kernel_rfl,by kernel_rfl⟩,.inr ⟨24,.type "type",none,c24,#[(some (.ref 15)),none,(some (.str "SpanError" 189)),(some (.str "SpanError" 197)),(some (.builtin "ValueError.__new__")),(some (.bool true))],o23 w.params,rfl,by kernel_rfl,by kernel_rfl,by kernel_rfl,by kernel_rfl⟩⟩,⟨by kernel_rfl,by kernel_rfl,by kernel_rfl,by kernel_rfl,by kernel_rfl,by kernel_rfl,by kernel_rfl,by kernel_rfl⟩,by kernel_rfl,by kernel_rfl,by kernel_rfl,by decide,by decide⟩
 have RCS:DefR l.prog w (Kx w.params) mg base "check_size" ["size"] 1 (spRaises 37 λvs _=>∃ n:Int,vs=[.int n]/\n<0):=rmk X G F105 (by kernel_rfl) (λ_ _ _ _ _ _=>lenU1 λ_=>rfl) (re_size F105 R)
 have RCT:DefR l.prog w (Kx w.params) mg base "check_times" ["times"] 1 (spRaises 37 λvs _=>∃ n:Int,vs=[.int n]/\n<1):=rmk X G F112 (by kernel_rfl) (λ_ _ _ _ _ _=>lenU1 λ_=>rfl) (re_times F112 R)
 have ROp:DefR l.prog w (Kx w.params) mg base "opened" ["line","place","size"] 2 (spRaises 37 λvs _=>∃ (p:Addr) (x n:Int),vs=[.ref p,.int x,.int n]/\n<0):=rmk X G F131 (by kernel_rfl) (λ_ _ _ _ _ _=>lenU3 λ_ _ _=>rfl) (re_opened F131 RCS)
 have RCl:DefR l.prog w (Kx w.params) mg base "closed" ["line","place","size"] 2 (spRaises 37 λvs _=>∃ (p:Addr) (x n:Int),vs=[.ref p,.int x,.int n]/\n<0):=rmk X G F136 (by kernel_rfl) (λ_ _ _ _ _ _=>lenU3 λ_ _ _=>rfl) (re_closed F136 RCS)
 have RSt:DefR l.prog w (Kx w.params) mg base "stretched" ["line","times"] 2 (spRaises 37 λvs _=>∃ (p:Addr) (n:Int),vs=[.ref p,.int n]/\n<1):=rmk X G F141 (by kernel_rfl) (λ_ _ _ _ _ _=>lenU2 λ_ _=>rfl) (re_stretched F141 RCT)
 have RDo:DefR l.prog w (Kx w.params) mg base "done" ["line","deed"] 3 (spRaises 37 (IllAt (Kx w.params))):=rmk X G F148 (by kernel_rfl) (λ_ _ _ _ _ _=>lenU2 λ_ _=>rfl) (re_done F148 R ROp RCl RSt)
 have RBh:DefR l.prog w (Kx w.params) mg base "behind_deed" ["state","deed"] 4 (spBehindBad (Kx w.params) 193 37):=rmk X G F211 (by kernel_rfl) (λ_ _ _ _ _ _=>lenU2 λ_ _=>rfl) (re_behind F211 T2 RDo)
 have DMdo:MDef l.prog w (Kx w.params) mg base CX0 270 "do" ["self","deed"] 7 (spDo 68 193 270):=mmk F232 ⟨by kernel_rfl,by kernel_rfl,by kernel_rfl⟩ (λ_ _ _ _ _ _=>lenU2 λ_ _=>rfl) (ok_do F232 T2 DBh)
 have DMun:MDef l.prog w (Kx w.params) mg base CX0 270 "undo" ["self"] 1 (spUndo 68 193 270):=mmk F239 ⟨by kernel_rfl,by kernel_rfl,by kernel_rfl⟩ (λ_ _ _ _ _ _=>lenU1 λ_=>rfl) (ok_undo F239 T T2)
 have DMre:MDef l.prog w (Kx w.params) mg base CX0 270 "redo" ["self"] 1 (spRedo 68 193 270):=mmk F246 ⟨by kernel_rfl,by kernel_rfl,by kernel_rfl⟩ (λ_ _ _ _ _ _=>lenU1 λ_=>rfl) (ok_redo F246 T T2)
 have DMln:MDef l.prog w (Kx w.params) mg base CX0 270 "line" ["self"] 4 (spDLine 68 193 270):=mmk F253 ⟨by kernel_rfl,by kernel_rfl,by kernel_rfl⟩ (λ_ _ _ _ _ _=>lenU1 λ_=>rfl) (ok_dline F253 T T2 DL)
 have DMwh:MDef l.prog w (Kx w.params) mg base CX0 270 "where" ["self","name"] 1 (spWhere 68 193 270):=mmk F260 ⟨by kernel_rfl,by kernel_rfl,by kernel_rfl⟩ (λ_ _ _ _ _ _=>lenU2 λ_ _=>rfl) (ok_where F260 T2)
 have DMnm:MDef l.prog w (Kx w.params) mg base CX0 270 "names" ["self"] 1 (spDNames 68 193 270):=mmk F267 ⟨by kernel_rfl,by kernel_rfl,by kernel_rfl⟩ (λ_ _ _ _ _ _=>lenU1 λ_=>rfl) (ok_dnames F267 T T2)
 have RMun:MDef l.prog w (Kx w.params) mg base (CXR l.prog w) 270 "undo" ["self"] 1 (spRaises 49 λvs H=>∃ (d pl ul:Addr) (g:Acts),vs=[.ref d]/\DeskAt 68 193 270 H d pl ul [] g):=mmk F239 ⟨by kernel_rfl,by kernel_rfl,by kernel_rfl⟩ (λ_ _ _ _ _ _=>lenU1 λ_=>rfl) (re_undo F239 T T2 R)
 have RMre:MDef l.prog w (Kx w.params) mg base (CXR l.prog w) 270 "redo" ["self"] 1 (spRaises 49 λvs H=>∃ (d pl ul:Addr) (l:Acts),vs=[.ref d]/\DeskAt 68 193 270 H d pl ul l []):=mmk F246 ⟨by kernel_rfl,by kernel_rfl,by kernel_rfl⟩ (λ_ _ _ _ _ _=>lenU1 λ_=>rfl) (re_redo F246 T T2 R)
 have RMdo:MDef l.prog w (Kx w.params) mg base (CXR l.prog w) 270 "do" ["self","deed"] 5 (spRaises 37 λvs H=>∃ (d pl ul t:Addr) (l g:Acts) (i:Ill),vs=[.ref d,.ref t]/\DeskAt 68 193 270 H d pl ul l g/\H t=some (.tup i.vs)/\i.Bad/\i.vs[0]?≠some (.str "mark")):=mmk F232 ⟨by kernel_rfl,by kernel_rfl,by kernel_rfl⟩ (λ_ _ _ _ _ _=>lenU2 λ_ _=>rfl) (re_do F232 T2 RBh)
 have MD:Mk (Kx w.params) 270 225:=⟨by kernel_rfl,by kernel_rfl,by kernel_rfl,by kernel_rfl⟩
 have bD:=(F225 (w:=w)).binds (ps:=["self"]) (λ_ _ _ _ _ _=>lenU1 λ_=>rfl)
 have GD:FnOk l.prog w (Kx w.params) mg base CX0 5 225 _ ["self"] (spInitD 68 193 270):=ok_initD F225 T2 MS GS bS DEm
 have DC:Def l.prog w (Kx w.params) mg base "_law_cell_at" ["script","k"] 1 (spCellAt (Kx w.params)):=dmk X G F281 (by kernel_rfl) (λ_ _ _ _ _ _=>lenU2 λ_ _=>rfl) (ok_cell_at F281 T)
 have DN:Def l.prog w (Kx w.params) mg base "_law_names" ["cell"] 1 (spNames):=dmk X G F286 (by kernel_rfl) (λ_ _ _ _ _ _=>lenU1 λ_=>rfl) (ok_names F286 T)
 have DD:Def l.prog w (Kx w.params) mg base "_law_deed" ["one","two","names"] 1 (spDeed (Kx w.params)):=dmk X G F293 (by kernel_rfl) (λ_ _ _ _ _ _=>lenU3 λ_ _ _=>rfl) (ok_deed F293 )
 have DNx:Def l.prog w (Kx w.params) mg base "_law_next" ["cell","other","names"] 2 (spNext (Kx w.params)):=dmk X G F300 (by kernel_rfl) (λ_ _ _ _ _ _=>lenU3 λ_ _ _=>rfl) (ok_next F300 DD)
 have DV:Def l.prog w (Kx w.params) mg base "_law_value" ["deeds","place"] 1 (spValue (Kx w.params)):=dmk X G F307 (by kernel_rfl) (λ_ _ _ _ _ _=>lenU2 λ_ _=>rfl) (ok_value F307 T)
 have DE:Def l.prog w (Kx w.params) mg base "_law_edges_behind" ["edges","deed"] 1 (spEdges (Kx w.params)):=dmk X G F312 (by kernel_rfl) (λ_ _ _ _ _ _=>lenU2 λ_ _=>rfl) (ok_edges F312 T)
 have DEa:Def l.prog w (Kx w.params) mg base "_law_edges" ["deeds"] 2 (spEdgesAll (Kx w.params)):=dmk X G F319 (by kernel_rfl) (λ_ _ _ _ _ _=>lenU1 λ_=>rfl) (ok_alledges F319 T DE)
 have DDu:Def l.prog w (Kx w.params) mg base "_law_due" ["deeds"] 3 (spDue (Kx w.params)):=dmk X G F326 (by kernel_rfl) (λ_ _ _ _ _ _=>lenU1 λ_=>rfl) (ok_due F326 T DEa DV)
 have DW:Def l.prog w (Kx w.params) mg base "_law_whole" ["found"] 1 (spWhole):=dmk X G F333 (by kernel_rfl) (λ_ _ _ _ _ _=>lenU1 λ_=>rfl) (ok_whole F333 T)
 have DH:Def l.prog w (Kx w.params) mg base "_law_held" ["found","due"] 1 (spHeld):=dmk X G F340 (by kernel_rfl) (λ_ _ _ _ _ _=>lenU2 λ_ _=>rfl) (ok_held F340 T)
 have DLn:Def l.prog w (Kx w.params) mg base "_law_line" ["found","due"] 2 (spLine (Kx w.params) 68):=dmk X G F347 (by kernel_rfl) (λ_ _ _ _ _ _=>lenU2 λ_ _=>rfl) (ok_line F347 T DW DH)
 have DMv:Def l.prog w (Kx w.params) mg base "_law_moved" ["deed","place"] 1 (spMoved (Kx w.params)):=dmk X G F354 (by kernel_rfl) (λ_ _ _ _ _ _=>lenU2 λ_ _=>rfl) (ok_moved F354 T)
 have DMk:Def l.prog w (Kx w.params) mg base "_law_marks" ["deeds"] 2 (spMarks (Kx w.params)):=dmk X G F361 (by kernel_rfl) (λ_ _ _ _ _ _=>lenU1 λ_=>rfl) (ok_marks F361 T DMv)
 have DDs:Def l.prog w (Kx w.params) mg base "_law_does" ["desk","deed"] 8 (spDoes 68 193 270):=dmk X G F368 (by kernel_rfl) (λ_ _ _ _ _ _=>lenU2 λ_ _=>rfl) (ok_does F368 T2 R DMun DMre DMdo RMun RMre RMdo)
 have DI:Def l.prog w (Kx w.params) mg base "_law_ill" ["deed"] 1 (spIll (Kx w.params)):=dmk X G F375 (by kernel_rfl) (λ_ _ _ _ _ _=>lenU1 λ_=>rfl) (ok_ill F375 )
 have DAl:Def l.prog w (Kx w.params) mg base "_law_none_alone" ["desk","way"] 2 (spAlone 68 193 270):=dmk X G F382 (by kernel_rfl) (λ_ _ _ _ _ _=>lenU2 λ_ _=>rfl) (ok_alone F382 T T2 R RMun RMre)
 have DDf:Def l.prog w (Kx w.params) mg base "_law_due_of" ["stand","deed"] 2 (spDueOf (Kx w.params)):=dmk X G F389 (by kernel_rfl) (λ_ _ _ _ _ _=>lenU2 λ_ _=>rfl) (ok_due_of F389 DI)
 have DMR:Def l.prog w (Kx w.params) mg base "_law_marks_right" ["desk","marks"] 2 (spMR 68 193 270):=dmk X G F396 (by kernel_rfl) (λ_ _ _ _ _ _=>lenU2 λ_ _=>rfl) (ok_mright F396 T T2 DMnm DMwh DW)
 have DSd:Def l.prog w (Kx w.params) mg base "_law_stands" ["desk","deeds"] 5 (spStands 68 193 270):=dmk X G F401 (by kernel_rfl) (λ_ _ _ _ _ _=>lenU2 λ_ _=>rfl) (ok_stands F401 T T2 DMln DLn DDu)
 exact ok_law F408 T T2 MD GD bD DC DN DNx DMln DMnm DDs DDf DMR DMk DAl DSd DLn
end
theorem walk {l:PySem.W.OpenLaw}{q:Program}{loose:List Str}{XP:(Str->Option Value)->Heap->Prop}{YP:World->Heap->Prop}{d:DefRec} (hn:l.most=some 63) (hdf:d.params.defaults=[]) (hx:d.name="law")
  (hY:∀ (w:World) (h:Heap),YP w h->(Kx w.params).In h) :
  PySem.W.WalkO q loose XP YP l.row.toRowW d [] (λf vs=>PySem.call f vs):=
 L2.walk_of (n:=63) (k:=9) (x:="script") (CX:=λ_=>CX0) (sp:=λw=>spLaw (Kx w.params)) hn (by decide) hdf ⟨rfl,by decide,by decide⟩ hY (λ_ _ _ _ X G e=>all_mk X G (hx ▸ e)) (λ_ _ a ns hl _ hS=>⟨a,ns,rfl,hS,hl,λ_=>rfl⟩) λ_ _ _ _ _ z=>z
end Cut
theorem PySem.Challenge.cw_cutline_k12_whole_desk_holds : PySem.Challenge.rw_cutline_k12_whole_desk.Holds :=
 Cut.topH λa b c=>Cut.walk (l:=PySem.Challenge.rw_cutline_k12_whole_desk) rfl a b c
