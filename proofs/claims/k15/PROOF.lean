import PyProof.Rows.All
import Wide.All
import Open.Line
import OpenK.KWalk
import OpenK.Lit
import OpenK.KList
import Wide.FinOn
import PyProof.IsiTuple
import PyProof.ListNew
import PyProof.WalksMore
import PyProof.ReprLoop
import PyProof.FactsAll.list
import Lean
import PyProof.EqAt
import PyProof.EqKinds
import PyProof.TupleCall
import PySem.SetOps
import PyProof.Rows.SetFrom
import PyProof.CollectIter
import PyProof.Rows.SortShell
import PyProof.ZipIter
import PyProof.Rows.ZipGen
import PyProof.RaisesAny
import PyProof.ListCopy
import PyProof.Rows.SumAny
import PySem.Challenge.RW_cutline_k15_whole_asked_behind_deeds
set_option Elab.async false
set_option linter.all false
set_option maxRecDepth 100000
set_option maxHeartbeats 4000000
namespace Cut
open PySem
noncomputable def tTop (i:Nat):Stmt:=PySem.Challenge.pw_cutline_k15_whole_asked_behind_deeds.main.body.getD i (.Pass ⟨0,0,0,0⟩)
noncomputable def tIn (s:Stmt) (j:Nat):Stmt:=match s with | .ClassDef _ _ _ body _ _ _ _ _ _ _=>body.getD j (.Pass ⟨0,0,0,0⟩)|_=>.Pass ⟨0,0,0,0⟩
noncomputable def tF (x y:Str) (s:Stmt) (m:Value) (c:Nat):Obj:=match s with | .FunctionDef _ a b _ _ _ sc _ _ _=>⟨.type "function",none,.func (PySem.W.fnOf x y a b sc .none .none .none m none (.ref c) .none),#[]⟩|_=>⟨.none,none,.freed,#[]⟩
noncomputable abbrev gE (x:Str) (t:Nat) (v:Value):Str×Nat×Value:=(x,t,v)
noncomputable abbrev kE (a:Nat) (o:Obj):Nat×Obj:=(a,o)
noncomputable def cO (x y:Str) (t ln ac a:Nat) (b c:Value) (d u:Nat):Obj:=⟨.type "code",none,.fields #[.str x t,.str y (t+1),.str "/claim/cut.py" (t+2),.int ln 0,.int ac 0,.int 0 0,.int 0 0,.int 3 0,.ref a,.bool true,.int 181 0,.ref (a+1),.none,b,c,.ref d,.int u 0,.int ln 0,.str "/claim/cut.py" (u+1)],#[]⟩
noncomputable def gO (P:Params) (n:Nat) (l:List (Str×Nat×Value)):Obj:=⟨.type "dict",none,.dict (l.map λe=>⟨PyData.keyHash P e.1,.str e.1 e.2.1,e.2.2⟩).toArray n,#[]⟩
noncomputable abbrev m0:Value:=(.str "cutline.lines" 239)
noncomputable abbrev m1:Value:=(.str "cutline.weaving" 317)
noncomputable abbrev m2:Value:=(.str "cutline.asks" 352)
noncomputable abbrev m3:Value:=(.str "cutline.deeds" 411)
noncomputable abbrev m4:Value:=(.str "law_cutline_k15_whole_asked_behind_deeds" 476)
noncomputable def o3 (P:Params):Obj:=gO P 57 [gE "__name__" 165 (.str "law_cutline_k15_whole_asked_behind_deeds" 476),gE "__doc__" 166 .none,gE "__package__" 167 .none,gE "__loader__" 168 (.builtin "__main__.__loader__#opaque"),gE "__spec__" 169 .none,gE "__annotations__" 170 (.ref 6),gE "__builtins__" 171 (.ref 4),gE "__file__" 173 (.str "/claim/cut.py" 172),gE "__cached__" 174 .none,gE "SpanError" 206 (.ref 24),gE "BadDeed" 222 (.ref 37),gE "BadAsk" 238 (.ref 49),gE "Line" 271 (.ref 68),gE "own_copy" 277 (.ref 77),gE "line_of" 291 (.ref 84),gE "empty_line" 297 (.ref 91),gE "cuts_up_to" 308 (.ref 98),gE "value_at" 316 (.ref 105),gE "cuts_of_all" 327 (.ref 112),gE "holds_between" 338 (.ref 119),gE "joined" 351 (.ref 126),gE "runs" 359 (.ref 131),gE "tally" 365 (.ref 136),gE "longest" 379 (.ref 143),gE "first_room" 393 (.ref 150),gE "unlike" 401 (.ref 157),gE "parted" 410 (.ref 164),gE "check_size" 419 (.ref 171),gE "check_times" 426 (.ref 178),gE "has_no_places" 434 (.ref 185),gE "put" 448 (.ref 192),gE "opened" 454 (.ref 197),gE "closed" 460 (.ref 202),gE "stretched" 466 (.ref 207),gE "done" 475 (.ref 214),gE "_law_cell_at" 485 (.ref 221),gE "_law_names" 491 (.ref 226),gE "_law_deed" 503 (.ref 233),gE "_law_deeds" 509 (.ref 238),gE "_law_value" 519 (.ref 245),gE "_law_edges_behind" 525 (.ref 250),gE "_law_edges" 534 (.ref 257),gE "_law_due" 546 (.ref 264),gE "_law_whole" 553 (.ref 271),gE "_law_held" 561 (.ref 278),gE "_law_at" 571 (.ref 285),gE "_law_runs" 577 (.ref 290),gE "_law_longest" 588 (.ref 297),gE "_law_room" 594 (.ref 302),gE "_law_apart" 600 (.ref 307),gE "_law_place" 608 (.ref 314),gE "_law_told" 616 (.ref 321),gE "_law_parts" 625 (.ref 328),gE "_law_asked" 631 (.ref 333),gE "_law_alike_by" 639 (.ref 340),gE "_law_both" 650 (.ref 347),gE "law" 669 (.ref 354)]
noncomputable def o68:Obj:=⟨(.type "type"),none,.cls ⟨"Line",[(.type "object")],[(.ref 68),(.type "object")],67,"Line",true,[],[],false,none,false⟩,#[none,none,(some (.str "Line" 241)),(some (.str "Line" 249)),(some (.builtin "object.__new__")),(some (.bool true))]⟩
noncomputable def o67 (P:Params):Obj:=gO P 4 [gE "__module__" 248 (.str "cutline.lines" 239),gE "__firstlineno__" 252 (.int 9 251),gE "__init__" 261 (.ref 65),gE "__static_attributes__" 264 (.ref 66),gE "__dict__" 266 (.ref 69),gE "__weakref__" 268 (.ref 70),gE "__doc__" 269 .none]
noncomputable def o64:Obj:=cO "__init__" "Line.__init__" 253 11 3 59 (.ref 61) (.ref 62) 63 259
noncomputable def o65:Obj:=tF "__init__" "Line.__init__" (tIn (tTop 5) 0) m0 64
noncomputable def o76:Obj:=cO "own_copy" "own_copy" 272 14 1 73 .none .none 75 275
noncomputable def o77:Obj:=tF "own_copy" "own_copy" (tTop 6) m0 76
noncomputable def o83:Obj:=cO "line_of" "line_of" 278 25 2 78 (.ref 80) (.ref 81) 82 289
noncomputable def o84:Obj:=tF "line_of" "line_of" (tTop 7) m0 83
noncomputable def o90:Obj:=cO "empty_line" "empty_line" 292 35 0 85 (.ref 87) (.ref 88) 89 295
noncomputable def o91:Obj:=tF "empty_line" "empty_line" (tTop 8) m0 90
noncomputable def o97:Obj:=cO "cuts_up_to" "cuts_up_to" 298 37 2 92 (.ref 94) (.ref 95) 96 306
noncomputable def o98:Obj:=tF "cuts_up_to" "cuts_up_to" (tTop 9) m0 97
noncomputable def o104:Obj:=cO "value_at" "value_at" 309 47 2 99 (.ref 101) (.ref 102) 103 314
noncomputable def o105:Obj:=tF "value_at" "value_at" (tTop 10) m0 104
noncomputable def o111:Obj:=cO "cuts_of_all" "cuts_of_all" 319 50 1 106 (.ref 108) (.ref 109) 110 325
noncomputable def o112:Obj:=tF "cuts_of_all" "cuts_of_all" (tTop 12) m1 111
noncomputable def o118:Obj:=cO "holds_between" "holds_between" 328 55 2 113 (.ref 115) (.ref 116) 117 336
noncomputable def o119:Obj:=tF "holds_between" "holds_between" (tTop 13) m1 118
noncomputable def o125:Obj:=cO "joined" "joined" 339 63 3 120 (.ref 122) (.ref 123) 124 349
noncomputable def o126:Obj:=tF "joined" "joined" (tTop 14) m1 125
noncomputable def o130:Obj:=cO "runs" "runs" 354 70 3 127 .none .none 129 357
noncomputable def o131:Obj:=tF "runs" "runs" (tTop 16) m2 130
noncomputable def o135:Obj:=cO "tally" "tally" 360 80 4 132 .none .none 134 363
noncomputable def o136:Obj:=tF "tally" "tally" (tTop 17) m2 135
noncomputable def o142:Obj:=cO "longest" "longest" 366 82 4 137 (.ref 139) (.ref 140) 141 377
noncomputable def o143:Obj:=tF "longest" "longest" (tTop 18) m2 142
noncomputable def o149:Obj:=cO "first_room" "first_room" 380 88 4 144 (.ref 146) (.ref 147) 148 391
noncomputable def o150:Obj:=tF "first_room" "first_room" (tTop 19) m2 149
noncomputable def o156:Obj:=cO "unlike" "unlike" 394 98 2 151 (.ref 153) (.ref 154) 155 399
noncomputable def o157:Obj:=tF "unlike" "unlike" (tTop 20) m2 156
noncomputable def o163:Obj:=cO "parted" "parted" 402 100 3 158 (.ref 160) (.ref 161) 162 408
noncomputable def o164:Obj:=tF "parted" "parted" (tTop 21) m2 163
noncomputable def o170:Obj:=cO "check_size" "check_size" 413 103 1 165 (.ref 167) (.ref 168) 169 417
noncomputable def o171:Obj:=tF "check_size" "check_size" (tTop 23) m3 170
noncomputable def o177:Obj:=cO "check_times" "check_times" 420 106 1 172 (.ref 174) (.ref 175) 176 424
noncomputable def o178:Obj:=tF "check_times" "check_times" (tTop 24) m3 177
noncomputable def o184:Obj:=cO "has_no_places" "has_no_places" 427 109 2 179 (.ref 181) (.ref 182) 183 432
noncomputable def o185:Obj:=tF "has_no_places" "has_no_places" (tTop 25) m3 184
noncomputable def o191:Obj:=cO "put" "put" 435 111 4 186 (.ref 188) (.ref 189) 190 446
noncomputable def o192:Obj:=tF "put" "put" (tTop 26) m3 191
noncomputable def o196:Obj:=cO "opened" "opened" 449 125 3 193 .none .none 195 452
noncomputable def o197:Obj:=tF "opened" "opened" (tTop 27) m3 196
noncomputable def o201:Obj:=cO "closed" "closed" 455 132 3 198 .none .none 200 458
noncomputable def o202:Obj:=tF "closed" "closed" (tTop 28) m3 201
noncomputable def o206:Obj:=cO "stretched" "stretched" 461 140 2 203 .none .none 205 464
noncomputable def o207:Obj:=tF "stretched" "stretched" (tTop 29) m3 206
noncomputable def o213:Obj:=cO "done" "done" 467 143 2 208 (.ref 210) (.ref 211) 212 473
noncomputable def o214:Obj:=tF "done" "done" (tTop 30) m3 213
noncomputable def o220:Obj:=cO "_law_cell_at" "_law_cell_at" 478 155 2 215 (.ref 217) (.ref 218) 219 483
noncomputable def o221:Obj:=tF "_law_cell_at" "_law_cell_at" (tTop 32) m4 220
noncomputable def o225:Obj:=cO "_law_names" "_law_names" 486 159 1 222 .none .none 224 489
noncomputable def o226:Obj:=tF "_law_names" "_law_names" (tTop 33) m4 225
noncomputable def o232:Obj:=cO "_law_deed" "_law_deed" 492 164 3 227 (.ref 229) (.ref 230) 231 501
noncomputable def o233:Obj:=tF "_law_deed" "_law_deed" (tTop 34) m4 232
noncomputable def o237:Obj:=cO "_law_deeds" "_law_deeds" 504 187 2 234 .none .none 236 507
noncomputable def o238:Obj:=tF "_law_deeds" "_law_deeds" (tTop 35) m4 237
noncomputable def o244:Obj:=cO "_law_value" "_law_value" 510 189 2 239 (.ref 241) (.ref 242) 243 517
noncomputable def o245:Obj:=tF "_law_value" "_law_value" (tTop 36) m4 244
noncomputable def o249:Obj:=cO "_law_edges_behind" "_law_edges_behind" 520 206 2 246 .none .none 248 523
noncomputable def o250:Obj:=tF "_law_edges_behind" "_law_edges_behind" (tTop 37) m4 249
noncomputable def o256:Obj:=cO "_law_edges" "_law_edges" 526 216 1 251 (.ref 253) (.ref 254) 255 532
noncomputable def o257:Obj:=tF "_law_edges" "_law_edges" (tTop 38) m4 256
noncomputable def o263:Obj:=cO "_law_due" "_law_due" 535 221 1 258 (.ref 260) (.ref 261) 262 544
noncomputable def o264:Obj:=tF "_law_due" "_law_due" (tTop 39) m4 263
noncomputable def o270:Obj:=cO "_law_whole" "_law_whole" 547 233 1 265 (.ref 267) (.ref 268) 269 551
noncomputable def o271:Obj:=tF "_law_whole" "_law_whole" (tTop 40) m4 270
noncomputable def o277:Obj:=cO "_law_held" "_law_held" 554 235 2 272 (.ref 274) (.ref 275) 276 559
noncomputable def o278:Obj:=tF "_law_held" "_law_held" (tTop 41) m4 277
noncomputable def o284:Obj:=cO "_law_at" "_law_at" 562 239 2 279 (.ref 281) (.ref 282) 283 569
noncomputable def o285:Obj:=tF "_law_at" "_law_at" (tTop 42) m4 284
noncomputable def o289:Obj:=cO "_law_runs" "_law_runs" 572 245 3 286 .none .none 288 575
noncomputable def o290:Obj:=tF "_law_runs" "_law_runs" (tTop 43) m4 289
noncomputable def o296:Obj:=cO "_law_longest" "_law_longest" 578 260 2 291 (.ref 293) (.ref 294) 295 586
noncomputable def o297:Obj:=tF "_law_longest" "_law_longest" (tTop 44) m4 296
noncomputable def o301:Obj:=cO "_law_room" "_law_room" 589 267 4 298 .none .none 300 592
noncomputable def o302:Obj:=tF "_law_room" "_law_room" (tTop 45) m4 301
noncomputable def o306:Obj:=cO "_law_apart" "_law_apart" 595 278 3 303 .none .none 305 598
noncomputable def o307:Obj:=tF "_law_apart" "_law_apart" (tTop 46) m4 306
noncomputable def o313:Obj:=cO "_law_place" "_law_place" 601 283 2 308 (.ref 310) (.ref 311) 312 606
noncomputable def o314:Obj:=tF "_law_place" "_law_place" (tTop 47) m4 313
noncomputable def o320:Obj:=cO "_law_told" "_law_told" 609 287 2 315 (.ref 317) (.ref 318) 319 614
noncomputable def o321:Obj:=tF "_law_told" "_law_told" (tTop 48) m4 320
noncomputable def o327:Obj:=cO "_law_parts" "_law_parts" 617 293 2 322 (.ref 324) (.ref 325) 326 623
noncomputable def o328:Obj:=tF "_law_parts" "_law_parts" (tTop 49) m4 327
noncomputable def o332:Obj:=cO "_law_asked" "_law_asked" 626 300 6 329 .none .none 331 629
noncomputable def o333:Obj:=tF "_law_asked" "_law_asked" (tTop 50) m4 332
noncomputable def o339:Obj:=cO "_law_alike_by" "_law_alike_by" 632 310 2 334 (.ref 336) (.ref 337) 338 637
noncomputable def o340:Obj:=tF "_law_alike_by" "_law_alike_by" (tTop 51) m4 339
noncomputable def o346:Obj:=cO "_law_both" "_law_both" 640 312 2 341 (.ref 343) (.ref 344) 345 648
noncomputable def o347:Obj:=tF "_law_both" "_law_both" (tTop 52) m4 346
noncomputable def o353:Obj:=cO "law" "law" 651 318 1 348 (.ref 350) (.ref 351) 352 667
noncomputable def o354:Obj:=tF "law" "law" (tTop 53) m4 353
@[irreducible] noncomputable def Kx (P:Params):PySem.W.Frag:=[kE 3 (o3 P),kE 68 o68,kE 67 (o67 P),kE 64 o64,kE 65 o65,kE 76 o76,kE 77 o77,kE 83 o83,kE 84 o84,kE 90 o90,kE 91 o91,kE 97 o97,kE 98 o98,kE 104 o104,kE 105 o105,kE 111 o111,kE 112 o112,kE 118 o118,kE 119 o119,kE 125 o125,kE 126 o126,kE 130 o130,kE 131 o131,kE 135 o135,kE 136 o136,kE 142 o142,kE 143 o143,kE 149 o149,kE 150 o150,kE 156 o156,kE 157 o157,kE 163 o163,kE 164 o164,kE 170 o170,kE 171 o171,kE 177 o177,kE 178 o178,kE 184 o184,kE 185 o185,kE 191 o191,kE 192 o192,kE 196 o196,kE 197 o197,kE 201 o201,kE 202 o202,kE 206 o206,kE 207 o207,kE 213 o213,kE 214 o214,kE 220 o220,kE 221 o221,kE 225 o225,kE 226 o226,kE 232 o232,kE 233 o233,kE 237 o237,kE 238 o238,kE 244 o244,kE 245 o245,kE 249 o249,kE 250 o250,kE 256 o256,kE 257 o257,kE 263 o263,kE 264 o264,kE 270 o270,kE 271 o271,kE 277 o277,kE 278 o278,kE 284 o284,kE 285 o285,kE 289 o289,kE 290 o290,kE 296 o296,kE 297 o297,kE 301 o301,kE 302 o302,kE 306 o306,kE 307 o307,kE 313 o313,kE 314 o314,kE 320 o320,kE 321 o321,kE 327 o327,kE 328 o328,kE 332 o332,kE 333 o333,kE 339 o339,kE 340 o340,kE 346 o346,kE 347 o347,kE 353 o353,kE 354 o354]
theorem keepT {T G:Prop} (hc:T) (main:T->G):G:=main hc
end Cut
section
open PySem PySem.W PyProof.Rows
set_option maxRecDepth 100000 in
set_option maxHeartbeats 0 in
theorem Cut.topH (h:∀ {q:Program}{loose:List PySem.Str}{XP:(PySem.Str->Option Value)->Heap->Prop}{YP:World->Heap->Prop}{d:DefRec},d.params.defaults=[]->d.name="law"->(∀ (w:World) (h:Heap),YP w h->(Cut.Kx w.params).In h)->
  PySem.W.WalkO q loose XP YP (PySem.Challenge.rw_cutline_k15_whole_asked_behind_deeds).row.toRowW d [] (λf vs=>PySem.call f vs)):PySem.Challenge.rw_cutline_k15_whole_asked_behind_deeds.Holds:=by
 apply Cut.keepT
 case main=>
  intro _
  w_on;o_law;o_head (kHook Cut.Kx [3,68,67,64,65,76,77,83,84,90,91,97,98,104,105,111,112,118,119,125,126,130,131,135,136,142,143,149,150,156,157,163,164,170,171,177,178,184,185,191,192,196,197,201,202,206,207,213,214,220,221,225,226,232,233,237,238,244,245,249,250,256,257,263,264,270,271,277,278,284,285,289,290,296,297,301,302,306,307,313,314,320,321,327,328,332,333,339,340,346,347,353,354] (λ_=>by kernel_rfl));(case hw=>w_witness2)
 case hc=>exact h rfl rfl (λw h Y=>PySem.W.kIn_of Y)
end
namespace PySem.W
open PySem PySem.Spec PySem.Calls PyProof.Rows
theorem cellsFrom_some {x:Str} (names:List (Str×NameKind)):∀ (n:Nat) (acc:List (Str×Addr)),names.lookup x=some .cell∨(acc.lookup x).isSome=true->((cellsFrom n names acc).lookup x).isSome=true:=by
 induction names with
 |nil=>
  intro n acc h
  rcases h with z|z
  ·cases z
  ·exact z
 |cons p r ih=>
  obtain ⟨y,k⟩:=p
  intro n acc h
  have hx:List.lookup x ((y,k)::r)=if (x == y)=true then some k else List.lookup x r:=by
   rw [List.lookup_cons]
   cases x == y<;>rfl
  rw [hx] at h
  unfold cellsFrom
  split<;>rename_i c
  ·refine ih _ _ ?_
   have ha:List.lookup x ((y,n)::acc)=if (x == y)=true then some n else List.lookup x acc:=by
    rw [List.lookup_cons]
    cases x == y<;>rfl
   rw [ha]
   cases e:x == y
   ·rw [e] at h;exact h
   ·exact .inr rfl
  ·refine ih _ _ ?_
   cases e:x == y
   ·rw [e] at h;exact h
   ·rw [e] at h
    rcases h with z|z
    ·have z':k=.cell:=Option.some.inj z
     exact absurd (by rw [z'];rfl) c
    ·exact .inr z
end PySem.W
namespace PySem.W
open PySem PySem.Spec PySem.Calls PyProof.Rows
section
variable {prog:Program}{w:World}{A:Around}{E:Value->Shared->Prop}{s:Shared}{n:Nat}{l:Addr}{items:Array Value}{k:Int}{t:Tok}{v:Value}
/-- down to the built-in -/
theorem set_down {Q:Unit->Shared->Prop} (ho:s.heap.get? l=some (listOf items n)) (q:wpAny (model prog w) A.in1 (Builtin.«list.__setitem__» ⟨[.ref l,.int k t,v],[]⟩) (λf s'=>f=.done (.ret .none)/\Q () s') E s) :
  wpAny (model prog w) A (setItem (.ref l) (.int k t) v) Q E s:=by
 have il:s.heap.IsList l items:=PySem.IsL.isList (n:=n) ho
 unfold setItem
 refine wpAny_holding (wpAny_bind (wpAny_sequenceKey il.typeIs (by decide) ?_))
 refine wpAny_bind (wpAny_callSpecial?_slot (name:=Str.ofString "__setitem__") il.typeIs slot_list_setitem ?_)
 refine wpAny_call_entry slot_list_setitem il.typeIs entry_list_setitem (wpAny_mono q (λf s' z=>?_) λ_ _ z=>z) (args_list_setitem _ _ _)
 obtain ⟨rfl,z⟩:=z
 exact ⟨.none,rfl,wpAny_pure z⟩
theorem ki_setAt {Q:Unit->Shared->Prop} (ho:s.heap.get? l=some (listOf items n)) (h0:0<=k) (hfit:k<2 ^ 63) (hn:k<items.size)
  (hQ:Q () { s with heap:=s.heap.update l (Obj.mapSeq (·.setIfInBounds k.toNat v)) }):wpAny (model prog w) A (setItem (.ref l) (.int k t) v) Q E s:=by
 refine set_down ho ?_
 change wpAny _ _ (Builtin.List.listSubscript? (.int k t) >>= _) _ _ s
 refine wpAny_bind (wpAny_listSubscript_int (fitsIndex_of h0 hfit) ?_)
 clear hfit
 obtain ⟨j,rfl⟩:=Int.eq_ofNat_of_zero_le h0
 have gx:items[j]?=some items[j]:=Array.getElem?_eq_getElem (by omega)
 change wpAny _ _ ((seqItemAt l j >>= λr=>pure (r.map λx=>(j,x))) >>= _) _ _ s
 refine wpAny_bind (wpAny_bind (wpAny_seqItemAt ho rfl (wpAny_pure ?_)))
 rw [gx]
 change wpAny _ _ (setSeqItemAt l j v >>= _) _ _ s
 refine wpAny_bind (wpAny_setSeqItemAt ho rfl ?_)
 exact wpAny_bind (wpAny_pure (wpAny_pure ⟨rfl,hQ⟩))
theorem ki_setBack {Q:Unit->Shared->Prop} (ho:s.heap.get? l=some (listOf items n)) (h0:k<0) (h1:-(items.size:Int)<=k) (hfit:-(2 ^ 63)<=k)
  (hQ:Q () { s with heap:=s.heap.update l (Obj.mapSeq (·.setIfInBounds (k+items.size).toNat v)) }):wpAny (model prog w) A (setItem (.ref l) (.int k t) v) Q E s:=by
 refine set_down ho ?_
 have si:=PySem.seqIndex_neg h0 h1
 have lt:(k+items.size).toNat<items.size:=by clear hfit;omega
 have gx:items[(k+items.size).toNat]?=some items[(k+items.size).toNat]:=Array.getElem?_eq_getElem lt
 change wpAny _ _ (Builtin.List.listSubscript? (.int k t) >>= _) _ _ s
 refine wpAny_bind (wpAny_listSubscript_int (fitsIndex_neg h0 hfit) ?_)
 clear hfit
 obtain ⟨j,ej⟩:∃ j:Nat,k=Int.negSucc j:=match k,h0 with
  | .negSucc j,_=>⟨j,rfl⟩
  | .ofNat i,z=>absurd z (Int.not_lt.mpr (Int.natCast_nonneg i))
 subst ej
 change wpAny _ _ ((Builtin.List.listItems (.ref l) >>= λxs=>pure ((seqIndex? (Int.negSucc j) xs.size).bind λi=>xs[i]?.map λx=>(i,x))) >>= _) _ _ s
 unfold Builtin.List.listItems
 refine wpAny_bind (wpAny_bind (wpAny_bind (wpAny_seqItems ho rfl (wpAny_pure (wpAny_pure ?_)))))
 rw [si,Option.bind_some,gx,Option.map_some]
 change wpAny _ _ (setSeqItemAt l (Int.negSucc j+items.size).toNat v >>= _) _ _ s
 refine wpAny_bind (wpAny_setSeqItemAt ho rfl ?_)
 exact wpAny_bind (wpAny_pure (wpAny_pure ⟨rfl,hQ⟩))
end
end PySem.W
namespace PySem.W
open PySem PySem.Spec PySem.Calls PyProof.Rows
/-! ### isinstance(x,c),c a class -/
def kitMeta (T:String):Bool:=(match fastFind? T with|some m=>m.metatype|none=>"type") == "type"
theorem kitMeta_of {T:String} (e:kitMeta T=true):typeOf (.type T)=pure (.type "type"):=by
 have h:(match fastFind? T with|some m=>m.metatype|none=>"type")="type":=eq_of_beq e
 show (pure (Value.type ((Manifest.find? T).elim "type" λm=>m.metatype)):Sem Value)=_
 rw [find?_eq_fast]
 cases r:fastFind? T with
 |none=>rfl
 |some m=>
  rw [r] at h
  exact congrArg (λy=>(pure (Value.type y):Sem Value)) h
def kitOne (K:Frag) (t c:Value):Option Bool:=if (t == c)=true then some true else match c with
 | .type T=>if kitMeta T=true then subIn K t (.type T) else none
 |_=>none
structure KitX (K:Frag) (x t:Value) (H:Heap->Prop):Prop where
 ty:∀ (M:Model) (h:Heap),H h->Looks M h (typeOf x) t
 it:∀ (M:Model) (h:Heap),Looks M h (isType t) true
 ca:∀ {prog:Program}{w:World}{A:Around}{E:Value->Shared->Prop}{Q:Option Value->Shared->Prop}{s:Shared},H s.heap->Q (some t) { s with toks:=s.toks+1 }->wpAny (model prog w) A (getAttr? x "__class__") Q E s
theorem kit_ans {K:Frag}{x t c:Value}{H:Heap->Prop}{b:Bool} (Z:KitX K x t H) (e:kitOne K t c=some b):Answers (λs=>K.In s.heap/\H s.heap) x c b:=by
 intro dep tk prog w A R s hs
 obtain ⟨hp,g,d,tt,os⟩:=s
 obtain ⟨⟨X,p⟩,k⟩:=hs
 have LT:=Z.ty (model prog w) hp p
 unfold kitOne at e
 unfold Builtin.«isinstance.nested»
 refine wpAny_bind (LT.at ?_)
 split at e
 ·rename_i q
  rw [if_pos q]
  cases e
  exact wpAny_bind (wpAny_rule (wpAny_pure (k tt)))
 ·rename_i q
  rw [if_neg q]
  cases c with
  |type T=>
   have e':(if kitMeta T=true then subIn K t (.type T) else none)=some b:=e
   split at e'
   ·rename_i z
    have hsub:=looks_subIn (M:=model prog w) X e'
    have LI:Looks (model prog w) hp (isInstance x (.type T)) b:=LT.andThen hsub
    refine wpAny_bind ((Looks.of_pure (kitMeta_of z)).at ?_)
    rw [if_pos (by decide)]
    k_delta "plainIsInstance"
    refine wpAny_bind (wpAny_bind (Looks.at (r:=true) (Looks.of_pure rfl) ?_))
    simp only [Bool.not_true,Bool.false_eq_true,if_false]
    refine wpAny_bind (LI.at ?_)
    cases b
    ·simp only [Bool.false_eq_true,if_false]
     refine wpAny_bind (Z.ca p (wpAny_bind ((Z.it _ _).at ?_)))
     simp only [Bool.not_true,Bool.false_eq_true,if_false]
     refine wpAny_bind (wpAny_rule (hsub.at ?_))
     first|exact wpAny_pure (k _)|exact wpAny_pure (wpAny_pure (k _))
    ·first|exact wpAny_pure (wpAny_pure (k tt))|(simp only [if_true];first|exact wpAny_pure (wpAny_pure (k tt))|exact wpAny_pure (k tt)|exact wpAny_bind (wpAny_pure (wpAny_pure (k tt))))
   ·cases e'
  |_=>cases e
theorem kia_one {prog:Program}{w:World}{A:Around}{E:Value->Shared->Prop}{s:Shared}{Q:Value->Shared->Prop}{K:Frag}{x t c:Value}{H:Heap->Prop}{b:Bool} (Z:KitX K x t H) (X:K.In s.heap) (p:H s.heap) (e:kitOne K t c=some b) (hx:x≠.builtin "__main__.__loader__#opaque")
  (h:∀ tk,Q (.bool b) { s with toks:=tk }):wpAny (model prog w) A (call (.builtin "isinstance") [x,c]) Q E s:=
 call_isinstance (S:=λ_ R s=>(K.In s.heap/\H s.heap)/\∀ tk,R (.ok (.ret (.bool b))) { s with toks:=tk }) (λprog w A R s hs=>isinstance_outer (kit_ans Z e 0 _ prog w A R s hs) hx) ⟨⟨X,p⟩,h⟩
section
variable {K:Frag}
theorem kitx_int {n:Int}{u:Tok}:KitX K (.int n u) (.type "int") (λ_=>True):=⟨λ_ _ _=>Looks.of_pure rfl,λ_ _=>Looks.of_pure rfl,λ{_ _ _ _ _ s} _ k=>by obtain ⟨h,g,d,t,os⟩:=s;exact class_attr_int k⟩
theorem kitx_str {y:Str}{u:Tok}:KitX K (.str y u) (.type "str") (λ_=>True):=⟨λ_ _ _=>Looks.of_pure rfl,λ_ _=>Looks.of_pure rfl,λ{_ _ _ _ _ s} _ k=>by obtain ⟨h,g,d,t,os⟩:=s;exact class_attr_str k⟩
theorem kitx_bool {y:Bool}:KitX K (.bool y) (.type "bool") (λ_=>True):=⟨λ_ _ _=>Looks.of_pure rfl,λ_ _=>Looks.of_pure rfl,λ{_ _ _ _ _ s} _ k=>by obtain ⟨h,g,d,t,os⟩:=s;exact class_attr_bool k⟩
theorem kitx_none:KitX K .none (.type "NoneType") (λ_=>True):=⟨λ_ _ _=>Looks.of_pure rfl,λ_ _=>Looks.of_pure rfl,λ{_ _ _ _ _ s} _ k=>by obtain ⟨h,g,d,t,os⟩:=s;exact class_attr_none k⟩
theorem kitx_float {y:UInt64}{u:Tok}:KitX K (.float y u) (.type "float") (λ_=>True):=⟨λ_ _ _=>Looks.of_pure rfl,λ_ _=>Looks.of_pure rfl,λ{_ _ _ _ _ s} _ k=>by obtain ⟨h,g,d,t,os⟩:=s;exact class_attr_float k⟩
def KitAt (a:Addr) (T:String) (h:Heap):Prop:=∃ o,h.get? a=some o/\o.cls=.type T
theorem kitAt_ty {a:Addr}{T:String} (M:Model) (h:Heap) (p:KitAt a T h):Looks M h (typeOf (.ref a)) (.type T):=
 let ⟨_,h1,h2⟩:=p
 h2 ▸ (Looks.ld h1).andThen .now
theorem kitx_list {a:Addr}:KitX K (.ref a) (.type "list") (KitAt a "list"):=⟨kitAt_ty,λ_ _=>Looks.of_pure rfl,λ{_ _ _ _ _ s} p k=>by obtain ⟨h,g,d,t,os⟩:=s;obtain ⟨o,h1,h2⟩:=p;exact class_attr_list h1 h2 k⟩
theorem kitx_tuple {a:Addr}:KitX K (.ref a) (.type "tuple") (KitAt a "tuple"):=⟨kitAt_ty,λ_ _=>Looks.of_pure rfl,λ{_ _ _ _ _ s} p k=>by obtain ⟨h,g,d,t,os⟩:=s;obtain ⟨o,h1,h2⟩:=p;exact class_attr_tuple h1 h2 k⟩
theorem kitx_dict {a:Addr}:KitX K (.ref a) (.type "dict") (KitAt a "dict"):=⟨kitAt_ty,λ_ _=>Looks.of_pure rfl,λ{_ _ _ _ _ s} p k=>by obtain ⟨h,g,d,t,os⟩:=s;obtain ⟨o,h1,h2⟩:=p;exact class_attr_dict h1 h2 k⟩
end
end PySem.W
namespace PySem
/-! ### reversed(a list) -/
abbrev lriT:String:="list_reverseiterator"
theorem rv_sl_next:Slot lriT "__next__" "list_reverseiterator.__next__":=Slot.of (owner:=lriT) (n:="__next__") (by rw [typeLookup_type,builtinLookup_eq_fast];kernel_rfl) (by decide +kernel) (by decide +kernel) (by decide +kernel) (Or.inl (by decide +kernel)) (by rw [isSubtype_type];kernel_rfl)
theorem rv_sl_iter:Slot lriT "__iter__" "list_reverseiterator.__iter__":=Slot.of (owner:=lriT) (n:="__iter__") (by rw [typeLookup_type,builtinLookup_eq_fast];kernel_rfl) (by decide +kernel) (by decide +kernel) (by decide +kernel) (Or.inl (by decide +kernel)) (by rw [isSubtype_type];kernel_rfl)
theorem rv_en_next:entryFor table "list_reverseiterator.__next__"=some Builtin.«list_reverseiterator.__next__»:=entryFor_of_tree (by kernel_rfl)
theorem rv_en_iter:entryFor table "list_reverseiterator.__iter__"=some Builtin.«dict_keyiterator.__iter__»:=entryFor_alias (id':="dict_keyiterator.__iter__") (by kernel_rfl) (by decide +kernel) (by decide +kernel) (by kernel_rfl)
theorem rv_ar_next (a:Value):argsOk "list_reverseiterator.__next__" ⟨[a],[]⟩:=by unfold argsOk;kernel_rfl
theorem rv_ar_iter (a:Value):argsOk "list_reverseiterator.__iter__" ⟨[a],[]⟩:=by unfold argsOk;kernel_rfl
theorem rv_mro:mroOf (.type "reversed")=pure [.type "reversed",.type "object"]:=by rw [mroOf_type];kernel_rfl
theorem rv_new:typeLookup (.type "reversed") "__new__"=pure (some (.builtin "reversed.__new__")):=by rw [typeLookup_type,builtinLookup_eq_fast];kernel_rfl
theorem rv_made:Bind.madeBy (.type "reversed")=pure (some "reversed.__new__"):=madeBy_type rv_mro rv_new (by decide +kernel)
theorem rv_entry:entryFor table "reversed.__new__"=some Builtin.«reversed.__new__»:=entryFor_of_tree (by kernel_rfl)
theorem rv_plain:plainId "reversed.__new__"=true:=by decide +kernel
theorem rv_self:isSubtype (.type "reversed") (.type "reversed")=pure true:=by rw [isSubtype_type];kernel_rfl
theorem rv_not:isSubtype (.type lriT) (.type "reversed")=pure false:=by rw [isSubtype_type];kernel_rfl
def revO (l:Addr) (i:Int):Obj:={ cls:=.type lriT,data:=.fields #[.ref l,rawInt i] }
def RevAt (h:Heap) (it l:Addr) (i:Int):Prop:=h.get? it=some (revO l i)
section
variable {prog:Program}{w:World}{A:Around}{E:Value->Shared->Prop}{s:Shared}{it l:Addr}{items:Array Value}
theorem RevAt.ty {i:Int} (x:RevAt s.heap it l i):s.TypeIs (.ref it) lriT:=⟨_,x,rfl⟩
theorem rev_self {i:Int}{Q:Value->Shared->Prop} (x:RevAt s.heap it l i) (q:Q (.ref it) s):wpAny (model prog w) A (pyIter (.ref it)) Q E s:=
 wpAny_pyIter_slot x.ty rv_sl_iter (wpAny_call_entry rv_sl_iter x.ty rv_en_iter (wpAny_pure ⟨_,rfl,lriT,_,x.ty,rv_sl_next.lookup,q⟩) (rv_ar_iter _))
theorem rev_item {i:Nat}{v:Value}{Q:Option Value->Shared->Prop} (x:RevAt s.heap it l (i:Int)) (hl:s.heap.IsList l items) (hv:items[i]?=some v)
  (q:∀ h',RevAt h' it l ((i:Int) - 1)->Heap.SameBut it s.heap h'->Q (some v) { s with heap:=h' }):wpAny (model prog w) A (pyNext (.ref it)) Q E s:=by
 obtain ⟨ol,hol,_,nl,hdl⟩:=hl
 have x':s.heap.get? it=some (revO l (i:Int)):=x
 unfold pyNext
 refine wpAny_bind (wpAny_attempt (wpAny_callSpecial?_slot (name:=Str.ofString "__next__") x.ty rv_sl_next (wpAny_call_entry rv_sl_next x.ty rv_en_next ?_ (rv_ar_next _))))
 unfold Builtin.«list_reverseiterator.__next__»
 refine wpAny_bind (wpAny_of_eq (a:=(Value.ref it,[])) rfl ?_)
 refine wpAny_bind (wpAny_field x' rfl (x:=rawInt (i:Int)) rfl ?_)
 change wpAny _ _ (if (i:Int)<0 then _ else _) _ _ s
 rw [if_neg (Int.not_lt.mpr (Int.natCast_nonneg i))]
 change wpAny _ _ (field (.ref it) 0 >>= _) _ _ s
 refine wpAny_bind (wpAny_field x' rfl (x:=.ref l) rfl ?_)
 change wpAny _ _ (seqItems? (.ref l) >>= _) _ _ s
 refine wpAny_bind (wpAny_seqItems hol hdl ?_)
 simp only [Int.toNat_natCast,hv]
 refine wpAny_bind (wpAny_setField x' rfl (by show 1<2;decide) ?_)
 refine wpAny_pure ⟨v,rfl,wpAny_pure (q _ ?_ (Heap.SameBut.update ..))⟩
 exact Heap.get?_update_self _ x' rfl
theorem rev_end {Q:Option Value->Shared->Prop} (hh:A.handled=none) (x:RevAt s.heap it l (-1)) (q:∀ h',Heap.ExtBut it s.heap h'->Q none { s with heap:=h' }):wpAny (model prog w) A (pyNext (.ref it)) Q E s:=by
 have x':s.heap.get? it=some (revO l (-1)):=x
 unfold pyNext
 refine wpAny_bind (wpAny_attempt (wpAny_callSpecial?_slot (name:=Str.ofString "__next__") x.ty rv_sl_next (wpAny_call_entry rv_sl_next x.ty rv_en_next ?_ (rv_ar_next _))))
 unfold Builtin.«list_reverseiterator.__next__»
 refine wpAny_bind (wpAny_of_eq (a:=(Value.ref it,[])) rfl ?_)
 refine wpAny_bind (wpAny_field x' rfl (x:=rawInt (-1)) rfl ?_)
 change wpAny _ _ (if (-1:Int)<0 then _ else _) _ _ s
 rw [if_pos (by decide)]
 refine wpAny_bind (wpAny_rule (wpAny_bind ?_))
 change wpAny _ _ (newExc (.type "StopIteration") [] >>= _) _ _ _
 refine wpAny_bind ?_
 unfold newExc newTuple
 refine wpAny_bind (wpAny_newObj_type ?_ (by size_fits))
 refine wpAny_bind (m:=firstArgMember _ _) (wpAny_of_eq (a:=Value.none) rfl ?_)
 refine wpAny_newObj_type ?_ (by size_fits)
 unfold raiseNew
 refine wpAny_bind (wpAny_handled ?_)
 rw [show A.in1.handled=none from hh]
 refine wpAny_bind (wpAny_pure (wpAny_throw ?_))
 refine wpAny_bind (wpAny_isInstance (T:="StopIteration") (b:=true) ⟨_,Heap.get?_push_size _ rfl,rfl⟩ isSubtype_stop ?_)
 exact wpAny_pure (q _ (((Heap.ExtBut.refl _ _).push _).push _))
theorem rev_of_list {Q:Value->Shared->Prop} (hl:s.heap.IsList l items) (q:Q (.ref s.heap.objs.size) { s with heap:=s.heap.push (revO l ((items.size:Int) - 1)) }):wpAny (model prog w) A (call (.builtin "list.__reversed__") [.ref l]) Q E s:=by
 obtain ⟨o,ho,_,n,hd⟩:=id hl
 refine wpAny_call_entry F.slot_list_reversed hl.typeIs F.entry_list_reversed ?_ (F.args_list_reversed_1 _)
 unfold Builtin.«list.__reversed__»
 exact wpAny_bind (wpAny_of_eq (a:=Value.ref l) rfl (wpAny_bind (wpAny_listItems ho hd (wpAny_bind (wpAny_newObj_type (wpAny_pure ⟨_,rfl,q⟩))))))
theorem rev_new {Q:Value->Shared->Prop} (hl:s.heap.IsList l items) (q:Q (.ref s.heap.objs.size) { s with heap:=s.heap.push (revO l ((items.size:Int) - 1)) }) :
  codeAny (model prog w) A (.call (.builtin "reversed.__new__") ⟨[.type "reversed",.ref l],[]⟩) (wants Q E) s:=by
 have cls:Builtin.SmallTypes.newClass "reversed" ⟨[.type "reversed",.ref l],[]⟩=pure (.type "reversed",[.ref l]):=by
  unfold Builtin.SmallTypes.newClass
  simp only [isType,rv_self,pure_bind,Bool.not_true,Bool.false_eq_true,if_false]
 refine codeAny_of_tree ?_
 change wpAny _ A.in1 (checkBuiltinCall "reversed.__new__" ⟨[.type "reversed",.ref l],[]⟩ >>= λ_=>again (.builtin "reversed.__new__" ⟨[.type "reversed",.ref l],[]⟩)) _ _ s
 refine wpAny_bind (wpAny_of_eq (a:=()) (by kernel_rfl) (wpAny_pure ⟨plainId_quiet rv_plain _,codeAny_builtin rv_entry ?_⟩))
 rw [Around.under_plainId rv_plain]
 unfold Builtin.«reversed.__new__»
 refine wpAny_bind (wpAny_of_eq cls ?_)
 try dsimp only
 refine wpAny_bind (wpAny_of_eq (a:=()) (by first|rfl|kernel_rfl) (wpAny_bind (wpAny_of_eq (a:=()) (by first|rfl|kernel_rfl) ?_)))
 try dsimp only
 refine wpAny_bind (wpAny_specialOf hl.typeIs F.slot_list_reversed.lookup ?_)
 try dsimp only
 refine wpAny_bind (wpAny_of_eq (F.slot_list_reversed.bind _) ?_)
 rw [if_neg (show ¬ (Value.builtin "list.__reversed__" == Value.none)=true from Bool.false_ne_true)]
 refine wpAny_bind (wpAny_rule ?_)
 exact wpAny_bind (m:=runValue (.call (.builtin "list.__reversed__") ⟨[.ref l],[]⟩)) (rev_of_list (Q:=λv s'=>wpAny (model prog w) A.in1 (ret v) _ _ s') hl (wpAny_pure q))
/-- a call of the type reversed -/
theorem rev_call {Q:Value->Shared->Prop} (hl:s.heap.IsList l items) (q:Q (.ref s.heap.objs.size) { s with heap:=s.heap.push (revO l ((items.size:Int) - 1)) }):wpAny (model prog w) A (call (.type "reversed") [.ref l]) Q E s:=by
 refine wpAny_call (codeAny_of_tree ?_)
 change wpAny _ _ (callAny (.type "reversed") _) _ _ _
 refine wpAny_pure ⟨Code.quiet_builtin _ (by decide +kernel),codeAny_builtin F.entry_type_call ?_⟩
 have f1:(Value.type "reversed" == Value.type "type")=false:=by decide
 have f2:((Manifest.find? "reversed").bind (·.mro.findSome? λt=>(Manifest.find? t).bind λb=>if b.noNew then some true else if b.attrs.any (·.1 == "__new__") then some false else none)).getD false=false:=by decide +kernel
 have f3:=rv_mro
 have f4:=rv_made
 have f5:=rv_not
 have f6:checkTypeCall "reversed" ⟨[.ref l],[]⟩=pure ():=by kernel_rfl
 rw [Around.under_plain (weight_type_call_type "reversed" [.ref l] []) rfl]
 repeat (any_goals (first|assumption|wp_step))
 refine codeAny_mono (rev_new (E:=E) (Q:=λo s1=>o=.ref s.heap.objs.size/\s1={ s with heap:=s.heap.push (revO l ((items.size:Int) - 1)) }) hl ⟨rfl,rfl⟩) λr s1 hr=>?_
 match r,hr with
 | .error e,hr=>exact hr
 | .ok (.ret v),⟨e1,e2⟩=>
  subst e1 e2
  have hT:Shared.TypeIs { s with heap:=s.heap.push (revO l ((items.size:Int) - 1)) } (.ref s.heap.objs.size) lriT:=⟨_,Heap.get?_push_size _ rfl,rfl⟩
  repeat (any_goals (first|assumption|wp_step))
end
end PySem
namespace L2
open PySem PySem.Spec PyProof.Rows
abbrev Key:=Sum Int Str
def keyIs:Key->Value->Bool
 | .inl k,v=>Value.isInt k v
 | .inr x,v=>Value.isStrOf x v
def keyH (w:World):Key->Int
 | .inl k=>hashInt k
 | .inr x=>hashStr w x
theorem keyIs_shape:∀ {k:Key}{v:Value},keyIs k v=true->(∃ i t,k=Sum.inl i/\v=Value.int i t)∨(∃ x t,k=Sum.inr x/\v=Value.str x t)
 | .inl i,v,h=>by
  obtain ⟨t,e⟩:=Value.isInt_shape (k:=i) (v:=v) h
  exact .inl ⟨i,t,rfl,e⟩
 | .inr x,v,h=>by
  obtain ⟨t,e⟩:=Value.isStrOf_shape (x:=x) (v:=v) h
  exact .inr ⟨x,t,rfl,e⟩
theorem key_ll (a b:Int):decide ((Sum.inl a:Key)=Sum.inl b)=(a == b):=by
 by_cases e:a=b
 ·subst e;simp
 ·have h:¬ (Sum.inl a:Key)=Sum.inl b:=λq=>e (Sum.inl.inj q)
  rw [decide_eq_false h]
  exact (beq_eq_false_iff_ne.mpr e).symm
theorem key_rr (a b:Str):decide ((Sum.inr a:Key)=Sum.inr b)=decide (a=b):=by
 by_cases e:a=b
 ·subst e;simp
 ·have h:¬ (Sum.inr a:Key)=Sum.inr b:=λq=>e (Sum.inr.inj q)
  rw [decide_eq_false h,decide_eq_false e]
theorem key_lr (a:Int) (b:Str):decide ((Sum.inl a:Key)=Sum.inr b)=false:=decide_eq_false (λq=>nomatch q)
theorem key_rl (a:Str) (b:Int):decide ((Sum.inr a:Key)=Sum.inl b)=false:=decide_eq_false (λq=>nomatch q)
def mixKind (prog:Program) (w:World):PySem.KeyKind prog w Key where
 is:=keyIs
 hash:=keyH w
 inj:=λv a b ha hb=>by
  rcases keyIs_shape ha with ⟨i,t,rfl,rfl⟩|⟨x,t,rfl,rfl⟩
  ·rcases keyIs_shape hb with ⟨j,u,rfl,e⟩|⟨y,u,rfl,e⟩
   ·injection e with e1 _;rw [e1]
   ·exact nomatch e
  ·rcases keyIs_shape hb with ⟨j,u,rfl,e⟩|⟨y,u,rfl,e⟩
   ·exact nomatch e
   ·injection e with e1 _;rw [e1]
 byValue:=λk v h=>by
  rcases keyIs_shape h with ⟨i,t,rfl,rfl⟩|⟨x,t,rfl,rfl⟩<;>rfl
 pyHash:=λhv h=>by
  rcases keyIs_shape hv with ⟨i,t,rfl,rfl⟩|⟨x,t,rfl,rfl⟩
  ·exact wpAny_pyHash_int h
  ·exact wpAny_pyHash_str h
 eqBool:=λhu hv h=>by
  rcases keyIs_shape hu with ⟨i,t,rfl,rfl⟩|⟨x,t,rfl,rfl⟩
  ·rcases keyIs_shape hv with ⟨j,u,rfl,rfl⟩|⟨y,u,rfl,rfl⟩
   ·rw [key_ll] at h;exact wpAny_eqBool_int h
   ·rw [key_lr] at h;exact SeqAt.EqAt.int_str i t y u _ _ _ _ h
  ·rcases keyIs_shape hv with ⟨j,u,rfl,rfl⟩|⟨y,u,rfl,rfl⟩
   ·rw [key_rl] at h;exact SeqAt.EqAt.str_int x t j u _ _ _ _ h
   ·rw [key_rr] at h;exact wpAny_eqBool_str h
 «strs»:=λk x t v h=>by
  rcases keyIs_shape h with ⟨i,u,rfl,e⟩|⟨y,u,rfl,e⟩
  ·exact nomatch e
  ·injection e with e1 _
   subst e1
   cases v<;>rfl
end L2
namespace L2
open PySem PySem.Spec PyProof.Rows
inductive V where
 |non|bl (b:Bool)|int (i:Int)|str (x:Str)|byt (b:Array UInt8)|flt (b:UInt64)|ref (a:Addr)|ty (n:String)
 deriving DecidableEq
def RelV:V->Value->Prop
 | .non,u=>u=Value.none
 | .bl b,u=>u=Value.bool b
 | .int i,u=>∃ t,u=Value.int i t
 | .str x,u=>∃ t,u=Value.str x t
 | .byt b,u=>∃ t,u=Value.bytes b t
 | .flt b,u=>∃ t,u=Value.float b t
 | .ref a,u=>u=Value.ref a
 | .ty n,u=>u=Value.type n
abbrev Vals:List V->List Value->Prop:=Paired RelV
theorem Vals.length {xs:List V}{us:List Value} (r:Vals xs us):xs.length=us.length:=Paired.length r
theorem Vals.get:∀ {xs:List V}{us:List Value}{i:Nat}{x:V},Vals xs us->xs[i]?=some x->∃ u,us[i]?=some u/\RelV x u
 |_,_,_,_,.nil,e=>by simp at e
 |_,_,0,_,.cons r _,e=>by simp at e;subst e;exact ⟨_,rfl,r⟩
 |_,_,i+1,x,.cons _ t,e=>by
  obtain ⟨u,h1,h2⟩:=Vals.get (i:=i) (x:=x) t (by simpa using e)
  exact ⟨u,by simpa using h1,h2⟩
theorem Vals.set {x:V}{u:Value} (r:RelV x u):∀ {xs:List V}{us:List Value} (i:Nat),Vals xs us->Vals (xs.set i x) (us.set i u)
 |_,_,_,.nil=>.nil
 |_,_,0,.cons _ t=>.cons r t
 |_,_,i+1,.cons q t=>.cons q (Vals.set r i t)
theorem Vals.append:∀ {xs ys:List V}{us ws:List Value},Vals xs us->Vals ys ws->Vals (xs++ys) (us++ws)
 |_,_,_,_,.nil,s=>s
 |_,_,_,_,.cons r t,s=>.cons r (Vals.append t s)
theorem Vals.take:∀ {xs:List V}{us:List Value} (n:Nat),Vals xs us->Vals (xs.take n) (us.take n)
 |_,_,0,_=>.nil
 |_,_,_+1,.nil=>.nil
 |_,_,n+1,.cons r t=>.cons r (Vals.take n t)
theorem Vals.drop:∀ {xs:List V}{us:List Value} (n:Nat),Vals xs us->Vals (xs.drop n) (us.drop n)
 |_,_,0,r=>r
 |_,_,_+1,.nil=>.nil
 |_,_,n+1,.cons _ t=>Vals.drop n t
def RelO:Option V->Option Value->Prop
 |some v,some u=>RelV v u
 |none,none=>True
 |_,_=>False
def KV {κ:Type}:List (κ×V)->List (κ×Value)->Prop:=Paired λ(p:κ×V) (q:κ×Value)=>p.1=q.1/\RelV p.2 q.2
def kV:Key->V
 | .inl i=>.int i
 | .inr x=>.str x
inductive HO where
 |lst (xs:List V)
 |tup (xs:List V)
 |dK (kvs:List (Key×V))|dT (kvs:List (List Key×V))
 |set (S:Int->Bool) (n:Nat)
 |ins (C dx:Addr) (fs:List (Str×V))
 |own (x:Addr)
 |xd (fs:List (Str×V))
 |met (f x:Addr)
 |rng (lo hi:Int)
 |frz (o:Obj) (u:HO)
 |tbl (ps:Array Value)
 |ext (φ:Heap->Prop)
abbrev Hp:=Addr->Option HO
def upd (H:Hp) (a:Addr) (o:HO):Hp:=λb=>if b=a then some o else H b
theorem upd_same {H:Hp}{a:Addr}{o:HO}:upd H a o a=some o:=by unfold upd;rw [if_pos rfl]
theorem upd_ne {H:Hp}{a b:Addr}{o:HO} (h:b≠a):upd H a o b=H b:=by unfold upd;rw [if_neg h]
theorem upd_upd {H:Hp}{a:Addr}{o u:HO}:upd (upd H a o) a u=upd H a u:=by
 funext b;unfold upd;split<;>rfl
theorem ne_of {H:Hp}{a b:Addr}{o u:HO} (h:H a=some o) (h':H b=some u) (d:o≠u):a≠b:=by
 intro e;subst e;rw [h] at h';exact d (Option.some.inj h')
theorem ne_of_none {H:Hp}{a b:Addr}{o:HO} (h:H a=some o) (h':H b=none):a≠b:=by
 intro e;subst e;rw [h] at h';cases h'
section
variable (P:Program) (w:World)
def ObjOk (H:Hp) (h:Heap) (a:Addr):HO->Prop
 | .lst xs=>xs.length<=sizeLine/\∃ (its:List Value) (n:Nat),Vals xs its/\h.get? a=some { cls:=.type "list",data:=.seq its.toArray n }
 | .tup xs=>xs.length<=sizeLine/\∃ its:List Value,Vals xs its/\IsTup h a its.toArray
 | .dK kvs=>kvs.length<=sizeLine/\(a == sysModules)=false/\∃ vs,KV kvs vs/\h.DictOf (mixKind P w) a vs
 | .dT kvs=>kvs.length<=sizeLine/\(a == sysModules)=false/\∃ xs:List (List Key×Addr×Value),
   Paired (λ(p:List Key×V) (q:List Key×Addr×Value)=>p.1=q.1/\H q.2.1=some (.tup (p.1.map kV))/\RelV p.2 q.2.2) kvs xs/\
   ∃ o es ep,h.get? a=some o/\o.ExactDict/\o.data=.dict es ep/\es.toList=xs.map (entryOfKey (tupleKind (mixKind P w)))/\(xs.map (·.1)).Nodup
 | .set S n=>h.SetOf (intKind P w) a S n
 | .ins C dx fs=>H dx=some (.own a)/\fs.length<=1000/\dx≠a/\h.get? a=some (PySem.W.instObj C dx)/\
   ∃ mA,h.Ns1 dx mA/\(∀ f,RelO (fs.lookup f) (mA f))/\PySem.Within mA (fs.map (·.1))
 | .own _=>∃ o,h.get? a=some o
 | .xd fs=>∃ mA,h.Ns1 a mA/\∀ f,RelO (fs.lookup f) (mA f)
 | .rng lo hi=>∃ t u v,h.get? a=some { cls:=.type "range",data:=.fields #[.int lo t,.int hi u,.int 1 v] }
 | .frz o u=>h.get? a=some o/\ObjOk H h a u
 | .tbl ps=>h.get? a=some { cls:=.none,data:=.fields ps }
 | .met f x=>h.get? a=some (PySem.W.methodObj (.ref f) (.ref x))
 | .ext φ=>φ h/\(∃ o,h.get? a=some o)/\∀ h1 h2:Heap,φ h1->(∀ o,h1.get? a=some o->h2.get? a=some o)->φ h2
def HOk (H:Hp) (h:Heap):Prop:=∀ a o,H a=some o->ObjOk P w H h a o
end
section
variable {P:Program}{w:World}{H H':Hp}{h h':Heap}{a:Addr}{o:HO}
theorem ObjOk.lt (x:ObjOk P w H h a o):a<h.objs.size:=by
 cases o with
 |lst xs=>obtain ⟨_,_,_,_,e⟩:=x;exact Heap.lt_size e
 |tup xs=>obtain ⟨_,_,_,p⟩:=x;exact p.lt
 |dK kvs=>obtain ⟨_,_,_,_,o,_,_,e,_⟩:=x;exact Heap.lt_size e
 |dT kvs=>obtain ⟨_,_,_,_,o,_,_,e,_⟩:=x;exact Heap.lt_size e
 |set S n=>obtain ⟨o,_,_,_,e,_⟩:=x;exact Heap.lt_size e
 |ins C dx fs=>obtain ⟨_,_,_,e,_⟩:=x;exact Heap.lt_size e
 |own y=>obtain ⟨_,e⟩:=x;exact Heap.lt_size e
 |xd fs=>obtain ⟨_,⟨_,_,_,e,_⟩,_⟩:=x;exact Heap.lt_size e
 |rng lo hi=>obtain ⟨_,_,_,e⟩:=x;exact Heap.lt_size e
 |frz ob u=>obtain ⟨e,_⟩:=x;exact Heap.lt_size e
 |tbl ps=>exact Heap.lt_size (show h.get? a=some _ from x)
 |met f y=>exact Heap.lt_size (show h.get? a=some _ from x)
 |ext φ=>obtain ⟨_,⟨_,e⟩,_⟩:=x;exact Heap.lt_size e
theorem Paired.mapP {α β:Type}{F G:α->β->Prop}:∀ {l₁:List α}{l₂:List β},Paired F l₁ l₂->(∀ a b,F a b->G a b)->Paired G l₁ l₂
 |_,_,.nil,_=>.nil
 |_,_,.cons r t,f=>.cons (f _ _ r) (Paired.mapP t f)
theorem ObjOk.stay (x:ObjOk P w H h a o) (k:∀ b u,(b=a∨H b=some (.own a))->h.get? b=some u->h'.get? b=some u)
  (ho:∀ b,H b=some (.own a)->H' b=some (.own a)) (ht:∀ b xs,H b=some (.tup xs)->H' b=some (.tup xs)):ObjOk P w H' h' a o:=by
 induction o with
 |lst xs=>obtain ⟨z,its,n,r,e⟩:=x;exact ⟨z,its,n,r,k _ _ (.inl rfl) e⟩
 |tup xs=>obtain ⟨z,its,r,ob,e,c⟩:=x;exact ⟨z,its,r,ob,k _ _ (.inl rfl) e,c⟩
 |dK kvs=>obtain ⟨z,y,vs,r,ob,es,ep,e,c⟩:=x;exact ⟨z,y,vs,r,ob,es,ep,k _ _ (.inl rfl) e,c⟩
 |dT kvs=>
  obtain ⟨z,y,xs,r,ob,es,ep,e,c⟩:=x
  exact ⟨z,y,xs,Paired.mapP r λp q z=>⟨z.1,ht _ _ z.2.1,z.2.2⟩,ob,es,ep,k _ _ (.inl rfl) e,c⟩
 |set S n=>obtain ⟨ob,es,ep,t,e,c⟩:=x;exact ⟨ob,es,ep,t,k _ _ (.inl rfl) e,c⟩
 |ins C dx fs=>
  obtain ⟨d,z,ne,e,mA,⟨od,es,ep,e2,c⟩,r⟩:=x
  exact ⟨ho _ d,z,ne,k _ _ (.inl rfl) e,mA,⟨od,es,ep,k _ _ (.inr d) e2,c⟩,r⟩
 |own y=>obtain ⟨ob,e⟩:=x;exact ⟨ob,k _ _ (.inl rfl) e⟩
 |xd fs=>obtain ⟨mA,⟨od,es,ep,e,c⟩,r⟩:=x;exact ⟨mA,⟨od,es,ep,k _ _ (.inl rfl) e,c⟩,r⟩
 |rng lo hi=>obtain ⟨t,u,v,e⟩:=x;exact ⟨t,u,v,k _ _ (.inl rfl) e⟩
 |frz ob u ih=>obtain ⟨e,q⟩:=x;exact ⟨k _ _ (.inl rfl) e,ih q⟩
 |tbl ps=>
  have e:h.get? a=some { cls:=.none,data:=.fields ps }:=x
  show h'.get? a=some { cls:=.none,data:=.fields ps }
  exact k a _ (.inl rfl) e
 |met f y=>
  have e:h.get? a=some (PySem.W.methodObj (.ref f) (.ref y)):=x
  show h'.get? a=some (PySem.W.methodObj (.ref f) (.ref y))
  exact k a _ (.inl rfl) e
 |ext φ=>obtain ⟨p,⟨o,e⟩,st⟩:=x;exact ⟨st _ _ p λo q=>k _ _ (.inl rfl) q,⟨o,k _ _ (.inl rfl) e⟩,st⟩
theorem HOk.lt (x:HOk P w H h) (e:H a=some o):a<h.objs.size:=(x a o e).lt
theorem HOk.fresh (x:HOk P w H h) (e:h.objs.size<=a):H a=none:=by
 cases q:H a with
 |none=>rfl
 |some u=>exact absurd (Nat.lt_of_lt_of_le (x.lt q) e) (Nat.lt_irrefl _)
theorem HOk.kept (x:HOk P w H h) (k:∀ b u,h.get? b=some u->h'.get? b=some u):HOk P w H h':=λa o e=>
 (x a o e).stay (λb u _ q=>k b u q) (λ_ q=>q) λ_ _ q=>q
theorem HOk.laid (x:HOk P w H h) (k:∀ b u,h.get? b=some u->h'.get? b=some u) (hp:h.objs.size<=a) (new:ObjOk P w (upd H a o) h' a o):HOk P w (upd H a o) h':=λb u e=>by
 have hn:=x.fresh hp
 by_cases hb:b=a
 ·subst hb;rw [upd_same] at e;cases e;exact new
 ·rw [upd_ne hb] at e
  exact (x b u e).stay (λc v _ q=>k c v q) (λc q=>by rw [upd_ne (ne_of_none q hn)];exact q) λc xs q=>by rw [upd_ne (ne_of_none q hn)];exact q
end
def Rd (H:Hp) (a:Addr) (u:HO):Prop:=H a=some u∨∃ o,H a=some (.frz o u)
theorem Rd.ok {P:Program}{w:World}{H:Hp}{h:Heap}{a:Addr}{u:HO} (r:Rd H a u) (x:HOk P w H h):ObjOk P w H h a u:=by
 rcases r with r|⟨o,r⟩
 ·exact x a u r
 ·obtain ⟨_,q⟩:=x a _ r
  exact q
def Mut:Option HO->Prop
 |some (.lst _)=>True
 |some (.dK _)=>True
 |some (.dT _)=>True
 |some (.set _ _)=>True
 |some (.ins _ _ _)=>True
 |some (.ext _)=>True
 |_=>False
section
variable {P:Program}{w:World}{H:Hp}{h h':Heap}{x e:Addr}{o':HO}
theorem HOk.write (ok:HOk P w H h) (mu:Mut (H x)) (he:e=x∨H e=some (.own x)) (k:∀ b u,b≠e->h.get? b=some u->h'.get? b=some u) (heo:∃ u,h'.get? e=some u)
  (new:ObjOk P w (upd H x o') h' x o'):HOk P w (upd H x o') h':=λb u q=>by
 have nown:∀ c y,H c=some (.own y)->c≠x:=λc y r z=>by subst z;rw [r] at mu;exact mu
 have ntup:∀ c xs,H c=some (.tup xs)->c≠x:=λc xs r z=>by subst z;rw [r] at mu;exact mu
 by_cases hb:b=x
 ·subst hb;rw [upd_same] at q;cases q;exact new
 ·rw [upd_ne hb] at q
  by_cases hbe:b=e
  ·have q':H b=some (.own x):=by
    rcases he with z|z
    ·exact absurd (hbe.trans z) hb
    ·rw [hbe];exact z
   rw [q] at q';cases q'
   obtain ⟨v,hv⟩:=heo
   exact ⟨v,by rw [hbe];exact hv⟩
  ·refine (ok b u q).stay (λc v hc r=>k c v ?_ r) (λc r=>by rw [upd_ne (nown c b r)];exact r) λc xs r=>by rw [upd_ne (ntup c xs r)];exact r
   rcases hc with rfl|hc
   ·exact hbe
   ·rintro rfl
    rcases he with z|z
    ·exact nown c b hc z
    ·rw [hc] at z;cases z;exact hb rfl
end
structure Un (fs ex:List Addr) (H H':Hp) (h h':Heap):Prop where
 keep:∀ b o,h.get? b=some o->H b=none->b ∉ fs->b ∉ ex->h'.get? b=some o
 slot:∀ b o,h.get? b=some o->H b=none->b∈fs->b ∉ ex->∃ sl,h'.get? b=some { o with slots:=sl }
 free:∀ b o,h.get? b=some o->H b=none->b ∉ ex->H' b=none
 there:∀ b o,h.get? b=some o->b ∉ ex->∃ o',h'.get? b=some o'
 tups:∀ b xs,H b=some (.tup xs)->H' b=some (.tup xs)
 frzs:∀ b o u,H b=some (.frz o u)->H' b=some (.frz o u)
 tbls:∀ b ps,H b=some (.tbl ps)->∃ more,H' b=some (.tbl (ps++more))
section
variable {fs fs' ex ex':List Addr}{H H1 H2:Hp}{h h1 h2 h':Heap}{a x e:Addr}{o:HO}
theorem Un.any (u:Un fs ex H H1 h h1) {b:Addr}{ob:Obj} (q:h.get? b=some ob) (n:H b=none) (hx:b ∉ ex):∃ sl,h1.get? b=some { ob with slots:=sl }:=by
 by_cases hb:b∈fs
 ·exact u.slot b ob q n hb hx
 ·exact ⟨ob.slots,u.keep b ob q n hb hx⟩
theorem Un.kept (k:∀ b u,h.get? b=some u->h'.get? b=some u):Un fs ex H H h h':=
 ⟨λb ob q _ _ _=>k b ob q,λb ob q _ _ _=>⟨ob.slots,k b ob q⟩,λ_ _ _ n _=>n,λb ob q _=>⟨ob,k b ob q⟩,λ_ _ q=>q,λ_ _ _ q=>q,λ_ ps q=>⟨#[],by rw [q];simp⟩⟩
theorem Un.refl:Un fs ex H H h h:=Un.kept λ_ _ q=>q
theorem Un.laid (k:∀ b u,h.get? b=some u->h'.get? b=some u) (hp:h.objs.size<=a) (hn:H a=none):Un fs ex H (upd H a o) h h' where
 keep:=λb u q _ _ _=>k b u q
 slot:=λb u q _ _ _=>⟨u.slots,k b u q⟩
 free:=λb u q n _=>by rw [upd_ne (Nat.ne_of_lt (Nat.lt_of_lt_of_le (Heap.lt_size q) hp))];exact n
 there:=λb u q _=>⟨u,k b u q⟩
 tups:=λb xs q=>by rw [upd_ne (ne_of_none q hn)];exact q
 frzs:=λb u xs q=>by rw [upd_ne (ne_of_none q hn)];exact q
 tbls:=λb ps q=>⟨#[],by rw [upd_ne (ne_of_none q hn),q];simp⟩
theorem Un.write (mu:Mut (H x)) (he:e=x∨H e=some (.own x)) (k:∀ b u,b≠e->h.get? b=some u->h'.get? b=some u) (heo:∃ u,h'.get? e=some u):Un fs ex H (upd H x o) h h':=by
 have hx:∀ b,H b=none->b≠x:=λb n z=>by subst z;rw [n] at mu;exact mu
 have hb:∀ b,H b=none->b≠e:=λb n z=>by
  subst z
  rcases he with r|r
  ·exact hx b n r
  ·rw [n] at r;cases r
 have hm:∀ b u,H b=some u->¬ Mut (some u)->b≠x:=λb u q nm z=>by subst z;rw [q] at mu;exact nm mu
 refine ⟨λb u q n _ _=>k b u (hb b n) q,λb u q n _ _=>⟨u.slots,k b u (hb b n) q⟩,λb u q n _=>by rw [upd_ne (hx b n)];exact n,λb u q _=>?_,
  λb xs q=>by rw [upd_ne (hm b _ q λz=>z)];exact q,λb u xs q=>by rw [upd_ne (hm b _ q λz=>z)];exact q,λb ps q=>⟨#[],by rw [upd_ne (hm b _ q λz=>z),q];simp⟩⟩
 by_cases hbe:b=e
 ·subst hbe;exact heo
 ·exact ⟨u,k b u hbe q⟩
end
def trk (h:Heap) (H:Hp):List Addr:=(List.range h.objs.size).filter λa=>(H a).isSome
def hidT (h:Heap) (H:Hp):Heap:=PySem.W.hideAll h (trk h H)
theorem hidT_size (h:Heap) (H:Hp):(hidT h H).objs.size=h.objs.size:=PySem.W.hideAll_size _ _
theorem hidT_get {h:Heap}{H:Hp}{b:Addr}{o:Obj} (e:h.get? b=some o) (n:H b=none):(hidT h H).get? b=some o:=
 PySem.W.hideAll_get _ e λhm=>by
  have q:(H b).isSome=true:=(List.mem_filter.mp hm).2
  rw [n] at q;simp at q
theorem of_hidT {h:Heap}{H:Hp}{b:Addr}{o:Obj} (e:(hidT h H).get? b=some o):h.get? b=some o/\H b=none:=by
 have e':h.get? b=some o:=PySem.W.of_hideAll (trk h H) e
 refine ⟨e',?_⟩
 cases q:H b with
 |none=>rfl
 |some x=>
  have hm:b∈trk h H:=List.mem_filter.mpr ⟨List.mem_range.mpr (Heap.lt_size e'),by simp [q]⟩
  have z:(hidT h H).get? b=none:=PySem.W.hideAll_none (trk h H) hm
  rw [z] at e;cases e
end L2
namespace L2
open PySem PySem.Spec PyProof.Rows
structure Mod (K:PySem.W.Frag) (mg:Str->Option Value) (base:Heap):Prop where
 kin:K.In base
 glob:base.Ns mainGlobals mg
 blt:∃ mb,base.Ns builtinsNs mb/\∀ x:Str,x≠"__name__"->mb x=bootBuiltins x
 nolimit:base.NoLimit
structure Cx where
 prog:Program
 w:World
 K:PySem.W.Frag
 mg:Str->Option Value
 base:Heap
 A:Around
 N:List Str
 s₀:Shared
 H₀:Hp
 env:Env
 outer:List Env
 stack:List Env
 ex:List Addr
 fn:Str->Bool
 calm:Bool
 pn:List (Addr×Obj)
 xe:Value->Shared->Prop
def frs (l:List Env):List Addr:=l.filterMap (·.frame)
abbrev Cx.fs (X:Cx):List Addr:=frs X.outer
def Vis (sc:Scope) (x:Str):Prop:=sc.names.lookup x=some .local∨sc.names.lookup x=some .cell∨sc.names.lookup x=some .free
def Loc (sc:Scope) (x:Str):Prop:=sc.names.lookup x=some .local∨sc.names.lookup x=some .cell
def Look (env:Env) (h:Heap) (m:Str->Option Value) (x:Str) (u:Value):Prop:=
 (env.kindOf x=some .local/\m x=some u)∨((env.kindOf x=some .cell∨env.kindOf x=some .free)/\∃ c,env.cells.lookup x=some c/\h.IsCell c (some u))
structure Cx.Ok (X:Cx):Prop where
 mod:Mod X.K X.mg X.base
 kind:X.env.scope.kind=.function
 glob:X.env.globals=mainGlobals
 blt:X.env.builtins=builtinsNs
 above:X.s₀.heap.objs.size<=X.env.locals
 inj:∀ x y c,X.env.cells.lookup x=some c->X.env.cells.lookup y=some c->x=y
 has:∀ x,(X.env.kindOf x=some .cell∨X.env.kindOf x=some .free)->∃ c,X.env.cells.lookup x=some c
 cab:∀ x c,X.fn x=true->X.env.cells.lookup x=some c->X.s₀.heap.objs.size<=c
 hd:X.calm=true->X.A.handled=none
 frames:X.A.frames=some X.stack
 stk:X.stack=X.outer∨(X.stack=X.env::X.outer/\X.env.frame=some X.env.locals)
 exf:∀ b∈X.ex,b≠X.env.locals/\∀ x c,X.env.cells.lookup x=some c->c≠b
 bs:∀ b o,X.base.get? b=some o->X.s₀.heap.get? b=some o/\X.H₀ b=none
 bsz:X.base.objs.size<=X.s₀.heap.objs.size
 noex:∀ b o,X.base.get? b=some o->b ∉ X.ex
 exfs:∀ b∈X.ex,b ∉ X.fs
 funs:X.s₀.heap.FunFrames X.base X.outer
 frf:∀ b∈X.fs,X.H₀ b=none
structure Inv (X:Cx) (pins:List (Addr×Obj)) (σ:List (Option V)) (H:Hp) (s:Shared):Prop where
 ok:X.Ok
 os:s.os=X.s₀.os
 bare:AllBare s.gens
 base:Un X.fs X.ex X.H₀ H X.s₀.heap s.heap
 loc:∃ m,s.heap.Ns X.env.locals m/\∀ (i:Nat) (x:Str) (v:V),X.N[i]?=some x->σ[i]?=some (some v)->Vis X.env.scope x->∃ u,RelV v u/\Look X.env s.heap m x u
 cell:∀ x c,X.env.cells.lookup x=some c->∃ v,s.heap.IsCell c v
 free:H X.env.locals=none
 freeC:∀ x c,X.env.cells.lookup x=some c->H c=none
 pin:∀ p∈X.pn++pins,s.heap.get? p.1=some p.2/\H p.1=none/\p.1≠X.env.locals/\p.1 ∉ X.fs/\∀ v,p.2.data≠.cell v
 hok:HOk X.prog X.w H s.heap
 len:σ.length=X.N.length
section
variable {X:Cx}{pins:List (Addr×Obj)}{σ:List (Option V)}{H H':Hp}{s:Shared}{h':Heap}
theorem Cx.Ok.nofr (ok:X.Ok) {b:Addr}{o:Obj} (e:X.base.get? b=some o):b ∉ X.fs:=λhb=>by
 have:=(ok.funs.mem hb).1
 rw [e] at this;cases this
theorem Inv.bs (I:Inv X pins σ H s):∀ b o,X.base.get? b=some o->s.heap.get? b=some o/\H b=none:=λb o e=>
 ⟨I.base.keep b o (I.ok.bs b o e).1 (I.ok.bs b o e).2 (I.ok.nofr e) (I.ok.noex b o e),I.base.free b o (I.ok.bs b o e).1 (I.ok.bs b o e).2 (I.ok.noex b o e)⟩
theorem Inv.bk (I:Inv X pins σ H s):∀ b o,X.base.get? b=some o->s.heap.get? b=some o:=λb o e=>(I.bs b o e).1
theorem Inv.mod (I:Inv X pins σ H s):Mod X.K X.mg X.base:=I.ok.mod
theorem Inv.kIn (I:Inv X pins σ H s):X.K.In s.heap:=I.ok.mod.kin.keeps I.bk
theorem Inv.lt (I:Inv X pins σ H s):X.env.locals<s.heap.objs.size:=let ⟨_,hn,_⟩:=I.loc;hn.lt
theorem Inv.sz (I:Inv X pins σ H s):X.s₀.heap.objs.size<=s.heap.objs.size:=Nat.le_trans I.ok.above (Nat.le_of_lt I.lt)
theorem Inv.nofs (I:Inv X pins σ H s) {a:Addr} (h:s.heap.objs.size<=a):a ∉ X.fs:=λhb=>by
 obtain ⟨_,o,ho,_⟩:=I.ok.funs.mem hb
 exact absurd (Nat.lt_of_lt_of_le (Heap.lt_size ho) (Nat.le_trans I.sz h)) (Nat.lt_irrefl _)
theorem Inv.cne (I:Inv X pins σ H s):∀ x c,X.env.cells.lookup x=some c->c≠X.env.locals:=λx c e z=>by
 obtain ⟨v,o,ho,hd⟩:=I.cell x c e
 obtain ⟨m,⟨o',es,ep,ho',hd',_⟩,_⟩:=I.loc
 rw [z,ho'] at ho;cases ho;rw [hd'] at hd;cases hd
theorem Inv.funs (I:Inv X pins σ H s):s.heap.FunFrames X.base X.outer:=by
 have all:∀ (l:List Env),(∀ b∈frs l,b∈X.fs)->X.s₀.heap.FunFrames X.base l->s.heap.FunFrames X.base l:=by
  intro l
  induction l with
  |nil=>intro _ _;trivial
  |cons env r ih=>
   intro hs hl
   obtain ⟨hk,⟨L,o,hf,hn,ho,hd⟩,hr⟩:=hl
   have hL:L∈X.fs:=hs L (by unfold frs;rw [List.filterMap_cons,hf];exact List.mem_cons_self)
   obtain ⟨sl,e⟩:=I.base.slot L o ho (I.ok.frf L hL) hL λz=>I.ok.exfs L z hL
   exact ⟨hk,⟨L,_,hf,hn,e,hd⟩,ih (λb hb=>hs b (by unfold frs;rw [List.filterMap_cons,hf];exact List.mem_cons_of_mem _ hb)) hr⟩
 exact all X.outer (λ_ hb=>hb) I.ok.funs
theorem Inv.stack (I:Inv X pins σ H s):s.heap.FunFrames X.base X.stack:=by
 rcases I.ok.stk with e|⟨e,hf⟩
 ·rw [e];exact I.funs
 ·rw [e]
  obtain ⟨m,hn,_⟩:=I.loc
  refine .cons (by rw [I.ok.kind];decide) hf hn ?_ I.funs
  exact Heap.get?_none_of_le (Nat.le_trans I.ok.bsz I.ok.above)
theorem Inv.stkSub (I:Inv X pins σ H s):∀ b∈frs X.stack,b∈X.env.locals::X.fs:=λb hb=>by
 rcases I.ok.stk with e|⟨e,hf⟩
 ·rw [e] at hb;exact List.mem_cons_of_mem _ hb
 ·rw [e] at hb
  unfold frs at hb
  rw [List.filterMap_cons,hf] at hb
  exact hb
theorem Inv.stkFree (I:Inv X pins σ H s):∀ b∈frs X.stack,H b=none:=λb hb=>by
 rcases List.mem_cons.mp (I.stkSub b hb) with e|hb
 ·rw [e];exact I.free
 ·obtain ⟨_,o,ho,_⟩:=I.ok.funs.mem hb
  exact I.base.free b o ho (I.ok.frf b hb) λz=>I.ok.exfs b z hb
theorem Inv.step {g':Array GenState}{t':Nat}{d':Drawn}{ch:List Addr} (I:Inv X pins σ H s)
  (hch:∀ b∈ch,(b∈X.ex∨X.s₀.heap.objs.size<=b)/\b≠X.env.locals/\(∀ x c,X.env.cells.lookup x=some c->c≠b)/\∀ p∈X.pn++pins,p.1≠b)
  (keep:∀ b o,b≠X.env.locals->b ∉ X.fs->b ∉ ch->s.heap.get? b=some o->H b=none->h'.get? b=some o)
  (slot:∀ b o,b≠X.env.locals->b∈X.fs->b ∉ ch->s.heap.get? b=some o->H b=none->∃ sl,h'.get? b=some { o with slots:=sl }) (free:∀ b o,b ∉ ch->s.heap.get? b=some o->H b=none->H' b=none)
  (there:∀ b o,b ∉ ch->s.heap.get? b=some o->∃ o',h'.get? b=some o')
  (tups:∀ b xs,H b=some (.tup xs)->H' b=some (.tup xs)) (frzs:∀ b o u,H b=some (.frz o u)->H' b=some (.frz o u)) (tbls:∀ b ps,H b=some (.tbl ps)->∃ more,H' b=some (.tbl (ps++more)))
  (ns:∀ m,s.heap.Ns X.env.locals m->h'.Ns X.env.locals m) (hok:HOk X.prog X.w H' h') (hg:AllBare g') :
  Inv X pins σ H' { s with heap:=h',gens:=g',drawn:=d',toks:=t' }:=by
 have neL:∀ b o,X.s₀.heap.get? b=some o->b≠X.env.locals:=λb o e=>Nat.ne_of_lt (Nat.lt_of_lt_of_le (Heap.lt_size e) I.ok.above)
 have neC:∀ b o,X.s₀.heap.get? b=some o->b ∉ X.ex->b ∉ ch:=λb o e hx hb=>by
  rcases (hch b hb).1 with z|z
  ·exact hx z
  ·exact absurd (Nat.lt_of_lt_of_le (Heap.lt_size e) z) (Nat.lt_irrefl _)
 have cellK:∀ x c,X.env.cells.lookup x=some c->∀ v,s.heap.IsCell c v->h'.IsCell c v:=λx c e v ⟨o,ho,hd⟩=>by
  have nch:c ∉ ch:=λz=>(hch c z).2.2.1 x c e rfl
  by_cases hc:c∈X.fs
  ·obtain ⟨sl,q⟩:=slot c o (I.cne x c e) hc nch ho (I.freeC x c e)
   exact ⟨_,q,hd⟩
  ·exact ⟨o,keep c o (I.cne x c e) hc nch ho (I.freeC x c e),hd⟩
 refine ⟨I.ok,I.os,hg,⟨λb o e n hb hx=>?_,λb o e n hb hx=>?_,λb o e n hx=>?_,λb o e hx=>?_,λb xs e=>tups b xs (I.base.tups b xs e),λb o xs e=>frzs b o xs (I.base.frzs b o xs e),λb ps e=>?_⟩,?_,λx c e=>?_,?_,λx c e=>?_,λp hp=>?_,hok,I.len⟩
 ·exact keep b o (neL b o e) hb (neC b o e hx) (I.base.keep b o e n hb hx) (I.base.free b o e n hx)
 ·obtain ⟨sl,e1⟩:=I.base.slot b o e n hb hx
  obtain ⟨sl',e2⟩:=slot b _ (neL b o e) hb (neC b o e hx) e1 (I.base.free b o e n hx)
  exact ⟨sl',e2⟩
 ·obtain ⟨o',e1⟩:=I.base.there b o e hx
  exact free b o' (neC b o e hx) e1 (I.base.free b o e n hx)
 ·obtain ⟨o',e1⟩:=I.base.there b o e hx
  exact there b o' (neC b o e hx) e1
 ·obtain ⟨m1,e1⟩:=I.base.tbls b ps e
  obtain ⟨m2,e2⟩:=tbls b _ e1
  exact ⟨m1++m2,by rw [e2,Array.append_assoc]⟩
 ·obtain ⟨m,hn,hl⟩:=I.loc
  refine ⟨m,ns m hn,λi x v e1 e2 e3=>?_⟩
  obtain ⟨u,r,l⟩:=hl i x v e1 e2 e3
  refine ⟨u,r,?_⟩
  rcases l with l|⟨k,c,e,z⟩
  ·exact .inl l
  ·exact .inr ⟨k,c,e,cellK x c e _ z⟩
 ·obtain ⟨v,z⟩:=I.cell x c e
  exact ⟨v,cellK x c e v z⟩
 ·obtain ⟨m,⟨o,_,_,ho,_⟩,_⟩:=I.loc
  exact free _ o (λz=>(hch _ z).2.1 rfl) ho I.free
 ·obtain ⟨v,o,ho,hd⟩:=I.cell x c e
  exact free c o (λz=>(hch c z).2.2.1 x c e rfl) ho (I.freeC x c e)
 ·obtain ⟨e,n,ne,nf,d⟩:=I.pin p hp
  have nch:p.1 ∉ ch:=λz=>(hch p.1 z).2.2.2 p hp rfl
  exact ⟨keep p.1 p.2 ne nf nch e n,free p.1 p.2 nch e n,ne,nf,d⟩
theorem Inv.un {t':Nat} (I:Inv X pins σ H s) (u:Un X.fs [] H H' s.heap h') (hok:HOk X.prog X.w H' h'):Inv X pins σ H' { s with heap:=h',toks:=t' }:=by
 obtain ⟨m,⟨o,es,ep,ho,r⟩,_⟩:=id I.loc
 obtain ⟨sl,hL⟩:=u.any ho I.free (by simp)
 exact I.step (g':=s.gens) (d':=s.drawn) (ch:=[]) (λ_ z=>nomatch z) (λb o _ hb _ e n=>u.keep b o e n hb (by simp)) (λb o _ hb _ e n=>u.slot b o e n hb (by simp)) (λb o _ e n=>u.free b o e n (by simp)) (λb o _ e=>u.there b o e (by simp)) u.tups u.frzs u.tbls (λm' hm=>by
  obtain ⟨o',es',ep',ho',r'⟩:=hm
  rw [ho] at ho';cases ho'
  exact ⟨_,es',ep',hL,r'⟩) hok I.bare
theorem Inv.call {g':Array GenState}{t':Nat}{d':Drawn}{ch:List Addr} (I:Inv X pins σ H s) (u:Un (frs X.stack) ch H H' s.heap h') (hok:HOk X.prog X.w H' h') (hg:AllBare g')
  (hch:∀ b∈ch,(b∈X.ex∨X.s₀.heap.objs.size<=b)/\b≠X.env.locals/\(∀ x c,X.env.cells.lookup x=some c->c≠b)/\∀ p∈X.pn++pins,p.1≠b) :
  Inv X pins σ H' { s with heap:=h',gens:=g',drawn:=d',toks:=t' }:=by
 obtain ⟨m,⟨o,es,ep,ho,r⟩,_⟩:=id I.loc
 obtain ⟨sl,hL⟩:=u.any ho I.free λz=>(hch _ z).2.1 rfl
 exact I.step (ch:=ch) hch (λb o hL hb hc e n=>u.keep b o e n (λz=>(List.mem_cons.mp (I.stkSub b z)).elim hL hb) hc) (λb o _ _ hc e n=>u.any e n hc) (λb o hc e n=>u.free b o e n hc) (λb o hc e=>u.there b o e hc) u.tups u.frzs u.tbls (λm' hm=>by
  obtain ⟨o',es',ep',ho',r'⟩:=hm
  rw [ho] at ho';cases ho'
  exact ⟨_,es',ep',hL,r'⟩) hok hg
theorem Inv.turned {t':Nat}{it:Addr} (I:Inv X pins σ H s) (k:∀ b o,b≠it->s.heap.get? b=some o->h'.get? b=some o) (hn:H it=none) (hL:it≠X.env.locals)
  (h1:it∈X.ex∨X.s₀.heap.objs.size<=it) (h2:∀ x c,X.env.cells.lookup x=some c->c≠it) (h3:∀ p∈X.pn++pins,p.1≠it):Inv X pins σ H { s with heap:=h',toks:=t' }:=by
 have nit:∀ b u,H b=some u->b≠it:=λb u e z=>by rw [z,hn] at e;cases e
 refine I.step (g':=s.gens) (d':=s.drawn) (ch:=[it]) (λb hb=>?_) (λb o _ _ hc e _=>k b o (λz=>hc (by simp [z])) e) (λb o _ _ hc e _=>⟨o.slots,k b o (λz=>hc (by simp [z])) e⟩) (λ_ _ _ _ n=>n)
  (λb o hc e=>⟨o,k b o (λz=>hc (by simp [z])) e⟩) (λ_ _ e=>e) (λ_ _ _ e=>e) (λb ps e=>⟨#[],by rw [e];simp⟩) (λm hm=>?_) (λb u e=>?_) I.bare
 ·have e:b=it:=by simpa using hb
  subst e
  exact ⟨h1,hL,h2,h3⟩
 ·obtain ⟨o,es,ep,ho,r⟩:=hm
  exact ⟨o,es,ep,k _ o (Ne.symm hL) ho,r⟩
 ·refine (I.hok b u e).stay (λc v hc q=>k c v ?_ q) (λ_ q=>q) λ_ _ q=>q
  rcases hc with z|z
  ·rw [z];exact nit b u e
  ·exact nit c _ z
theorem Inv.tok (I:Inv X pins σ H s) (t:Nat):Inv X pins σ H { s with toks:=t }:=I.un (h':=s.heap) (t':=t) Un.refl I.hok
theorem Inv.kept {t':Nat} (I:Inv X pins σ H s) (k:∀ b u,s.heap.get? b=some u->h'.get? b=some u):Inv X pins σ H { s with heap:=h',toks:=t' }:=I.un (Un.kept k) (I.hok.kept k)
theorem Inv.laid {a:Addr}{o:HO}{t':Nat} (I:Inv X pins σ H s) (k:∀ b u,s.heap.get? b=some u->h'.get? b=some u) (hp:s.heap.objs.size<=a) (new:ObjOk X.prog X.w (upd H a o) h' a o) :
  Inv X pins σ (upd H a o) { s with heap:=h',toks:=t' }:=I.un (Un.laid k hp (I.hok.fresh hp)) (I.hok.laid k hp new)
theorem Inv.write {x e:Addr}{o:HO}{t':Nat} (I:Inv X pins σ H s) (mu:Mut (H x)) (he:e=x∨H e=some (.own x)) (k:∀ b u,b≠e->s.heap.get? b=some u->h'.get? b=some u) (heo:∃ u,h'.get? e=some u)
  (new:ObjOk X.prog X.w (upd H x o) h' x o):Inv X pins σ (upd H x o) { s with heap:=h',toks:=t' }:=I.un (Un.write mu he k heo) (I.hok.write mu he k heo new)
theorem Inv.pins_of {pins':List (Addr×Obj)} (I:Inv X pins σ H s) (h:∀ p∈pins',s.heap.get? p.1=some p.2/\H p.1=none/\p.1≠X.env.locals/\p.1 ∉ X.fs/\∀ v,p.2.data≠.cell v):Inv X pins' σ H s:=
 ⟨I.ok,I.os,I.bare,I.base,I.loc,I.cell,I.free,I.freeC,λp hp=>(List.mem_append.mp hp).elim (λz=>I.pin p (List.mem_append_left _ z)) (h p),I.hok,I.len⟩
theorem nodup_ix {N:List Str} (hN:N.Nodup) {i j:Nat}{x:Str} (a:N[i]?=some x) (b:N[j]?=some x):i=j:=by
 obtain ⟨h1,e1⟩:=List.getElem?_eq_some_iff.mp a
 obtain ⟨h2,e2⟩:=List.getElem?_eq_some_iff.mp b
 exact (List.getElem_inj hN).mp (e1.trans e2.symm)
theorem store_ok2 {M:Model}{A:Around}{E:Value->Shared->Prop}{i:Nat}{x:Str}{v:V}{u:Value}{Q:Unit->Shared->Prop} (I:Inv X pins σ H s) (hN:X.N.Nodup) (hi:X.N[i]?=some x) (hx:Loc X.env.scope x) (r:RelV v u)
  (h:∀ s',Inv X pins (σ.set i (some v)) H s'->(∃ a,Heap.SameBut a s.heap s'.heap/\(a=X.env.locals∨X.env.cells.lookup x=some a))->Q () s') (hf:X.fn x=true∨X.env.scope.names.lookup x=some .local:=by first|exact .inl rfl|exact .inr rfl|assumption):wpAny M A (storeName X.env x u) Q E s:=by
 obtain ⟨m,hn,hl⟩:=id I.loc
 have hcls:(X.env.scope.kind == .class || (X.env.scope.kind == .module && X.env.locals != X.env.globals))=false:=by rw [I.ok.kind];rfl
 have hiσ:i < σ.length:=by rw [I.len];exact (List.getElem?_eq_some_iff.mp hi).1
 have cne:=I.cne
 have tracked:∀ {a:Addr}{h':Heap},(∃ o,s.heap.get? a=some o/\H a=none)->Heap.SameBut a s.heap h'->HOk X.prog X.w H h':=λ{a h'} ha hs b ob e=>by
  obtain ⟨_,_,hfree⟩:=ha
  refine (I.hok b ob e).stay (λc w' hc q=>(hs.2 c ?_).trans q) (λ_ q=>q) λ_ _ q=>q
  rintro rfl
  rcases hc with rfl|hc
  ·rw [hfree] at e;cases e
  ·rw [hfree] at hc;cases hc
 rcases hx with hk|hk
 ·refine wpAny_storeName_local hk hn (λh' hn' hs=>?_) hcls
  obtain ⟨oL,_,_,hoL,_⟩:=id hn
  refine h _ ⟨I.ok,I.os,I.bare,⟨λb o e n hb hx=>?_,λb o e n hb hx=>?_,I.base.free,λb o e hx=>?_,I.base.tups,I.base.frzs,I.base.tbls⟩,⟨_,hn',λj y v' e1 e2 e3=>?_⟩,λy c e=>?_,I.free,I.freeC,λp hp=>?_,tracked ⟨oL,hoL,I.free⟩ hs,by simpa using I.len⟩ ⟨_,hs,.inl rfl⟩
  ·exact (hs.2 b (Nat.ne_of_lt (Nat.lt_of_lt_of_le (Heap.lt_size e) I.ok.above))).trans (I.base.keep b o e n hb hx)
  ·obtain ⟨sl,e1⟩:=I.base.slot b o e n hb hx
   exact ⟨sl,(hs.2 b (Nat.ne_of_lt (Nat.lt_of_lt_of_le (Heap.lt_size e) I.ok.above))).trans e1⟩
  ·obtain ⟨o',e1⟩:=I.base.there b o e hx
   exact ⟨o',(hs.2 b (Nat.ne_of_lt (Nat.lt_of_lt_of_le (Heap.lt_size e) I.ok.above))).trans e1⟩
  ·by_cases hj:j=i
   ·subst hj
    rw [hi] at e1;cases e1
    rw [List.getElem?_set_self hiσ] at e2
    cases e2
    exact ⟨u,r,.inl ⟨hk,by simp⟩⟩
   ·rw [List.getElem?_set_ne (Ne.symm hj)] at e2
    obtain ⟨u',r',q⟩:=hl j y v' e1 e2 e3
    refine ⟨u',r',?_⟩
    rcases q with ⟨k,e⟩|⟨k,c,e,z⟩
    ·refine .inl ⟨k,?_⟩
     have:y≠x:=λe=>hj (nodup_ix hN e1 (e ▸ hi))
     simp [this,e]
    ·exact .inr ⟨k,c,e,z.sameBut hs (cne y c e)⟩
  ·obtain ⟨w',z⟩:=I.cell y c e
   exact ⟨w',z.sameBut hs (cne y c e)⟩
  ·obtain ⟨e,n,ne,nf,d⟩:=I.pin p hp
   exact ⟨(hs.2 p.1 ne).trans e,n,ne,nf,d⟩
 ·have hfn:X.fn x=true:=by
   rcases hf with z|z
   ·exact z
   ·rw [z] at hk;cases hk
  obtain ⟨c,hc⟩:=I.ok.has x (.inl hk)
  obtain ⟨w',z⟩:=I.cell x c hc
  refine wpAny_storeName_cell I.ok.kind hk hc z (λh' hc' hs=>?_)
  obtain ⟨oc,hoc,hocd⟩:=id z
  refine h { s with heap:=h' } ⟨I.ok,I.os,I.bare,⟨λb o e n hb hx=>?_,λb o e n hb hx=>?_,I.base.free,λb o e hx=>?_,I.base.tups,I.base.frzs,I.base.tbls⟩,⟨m,hn.sameBut hs (Ne.symm (cne x c hc)),λj y v' e1 e2 e3=>?_⟩,λy c' e=>?_,I.free,I.freeC,λp hp=>?_,tracked ⟨oc,hoc,I.freeC x c hc⟩ hs,by simpa using I.len⟩ ⟨c,hs,.inr hc⟩
  ·exact (hs.2 b (Nat.ne_of_lt (Nat.lt_of_lt_of_le (Heap.lt_size e) (I.ok.cab x c hfn hc)))).trans (I.base.keep b o e n hb hx)
  ·obtain ⟨sl,e1⟩:=I.base.slot b o e n hb hx
   exact ⟨sl,(hs.2 b (Nat.ne_of_lt (Nat.lt_of_lt_of_le (Heap.lt_size e) (I.ok.cab x c hfn hc)))).trans e1⟩
  ·obtain ⟨o',e1⟩:=I.base.there b o e hx
   exact ⟨o',(hs.2 b (Nat.ne_of_lt (Nat.lt_of_lt_of_le (Heap.lt_size e) (I.ok.cab x c hfn hc)))).trans e1⟩
  ·by_cases hj:j=i
   ·subst hj
    rw [hi] at e1;cases e1
    rw [List.getElem?_set_self hiσ] at e2
    cases e2
    exact ⟨u,r,.inr ⟨.inl hk,c,hc,hc'⟩⟩
   ·rw [List.getElem?_set_ne (Ne.symm hj)] at e2
    obtain ⟨u',r',q⟩:=hl j y v' e1 e2 e3
    refine ⟨u',r',?_⟩
    rcases q with q|⟨k,c',e,z'⟩
    ·exact .inl q
    ·refine .inr ⟨k,c',e,z'.sameBut hs ?_⟩
     rintro rfl
     exact hj (nodup_ix hN e1 (I.ok.inj _ _ _ e hc ▸ hi))
  ·by_cases hcc:c'=c
   ·subst hcc;exact ⟨_,hc'⟩
   ·obtain ⟨w2,z2⟩:=I.cell y c' e
    exact ⟨w2,z2.sameBut hs hcc⟩
  ·obtain ⟨e,n,ne,nf,d⟩:=I.pin p hp
   refine ⟨(hs.2 p.1 ?_).trans e,n,ne,nf,d⟩
   intro q
   rw [q,hoc] at e
   have q':oc=p.2:=Option.some.inj e
   exact d w' (by rw [<-q'];exact hocd)
theorem store_ok {M:Model}{A:Around}{E:Value->Shared->Prop}{i:Nat}{x:Str}{v:V}{u:Value}{Q:Unit->Shared->Prop} (I:Inv X pins σ H s) (hN:X.N.Nodup) (hi:X.N[i]?=some x) (hx:Loc X.env.scope x) (r:RelV v u)
  (h:∀ s',Inv X pins (σ.set i (some v)) H s'->Q () s') (hf:X.fn x=true∨X.env.scope.names.lookup x=some .local:=by first|exact .inl rfl|exact .inr rfl|assumption):wpAny M A (storeName X.env x u) Q E s:=
 store_ok2 I hN hi hx r (λs' I' _=>h s' I') hf
theorem Inv.call' {s':Shared}{ch:List Addr} (I:Inv X pins σ H s) (ho:s'.os=s.os) (u:Un (frs X.stack) ch H H' s.heap s'.heap) (hok:HOk X.prog X.w H' s'.heap) (hg:AllBare s'.gens)
  (hch:∀ b∈ch,(b∈X.ex∨X.s₀.heap.objs.size<=b)/\b≠X.env.locals/\(∀ x c,X.env.cells.lookup x=some c->c≠b)/\∀ p∈X.pn++pins,p.1≠b):Inv X pins σ H' s':=by
 obtain ⟨h',g',d',t',o'⟩:=s'
 have e:o'=s.os:=ho
 subst e
 exact I.call (g':=g') (t':=t') (d':=d') u hok hg hch
end
abbrev XK:=Value->Option Addr->Hp->Prop
abbrev St:=List (Option V)
abbrev VK:=V->Hp->Prop
abbrev TE:=St->Hp->VK->Prop
abbrev TT:=St->Hp->(Bool->Hp->Prop)->Prop
abbrev TA:=St->Hp->(List V->Hp->Prop)->Prop
structure Ends where
 nx:St->Hp->Prop
 rt:VK
 bk:St->Hp->Prop:=λ_ _=>False
 ct:St->Hp->Prop:=λ_ _=>False
abbrev TS:=Ends->St->Hp->Prop
def EP (X:Cx) (pins:List (Addr×Obj)) (σ:St) (Q:VK) (u:Value) (s':Shared):Prop:=∃ v H',Inv X pins σ H' s'/\RelV v u/\Q v H'
def TP (X:Cx) (pins:List (Addr×Obj)) (σ:St) (Q:Bool->Hp->Prop) (b:Bool) (s':Shared):Prop:=∃ H',Inv X pins σ H' s'/\Q b H'
def AP (X:Cx) (pins:List (Addr×Obj)) (σ:St) (Q:List V->Hp->Prop) (us:List Value) (s':Shared):Prop:=∃ vs H',Inv X pins σ H' s'/\Vals vs us/\Q vs H'
def SP (X:Cx) (pins:List (Addr×Obj)) (D:Ends) (f:Flow) (s':Shared):Prop:=
 match f with
 | .next=>∃ σ' H',Inv X pins σ' H' s'/\D.nx σ' H'
 | .brk=>∃ σ' H',Inv X pins σ' H' s'/\D.bk σ' H'
 | .cont=>∃ σ' H',Inv X pins σ' H' s'/\D.ct σ' H'
 | .ret u=>∃ v σ' H',Inv X pins σ' H' s'/\RelV v u/\D.rt v H'
def PE (X:Cx) (e:Expr) (t:TE):Prop:=
 ∀ (pins:List (Addr×Obj)) (s:Shared) (σ:St) (H:Hp) (Q:VK),Inv X pins σ H s->t σ H Q->wpAny (model X.prog X.w) X.A (eval e X.env) (EP X pins σ Q) X.xe s
def PT (X:Cx) (e:Expr) (t:TT):Prop:=
 ∀ (pins:List (Addr×Obj)) (s:Shared) (σ:St) (H:Hp) (Q:Bool->Hp->Prop),Inv X pins σ H s->t σ H Q->wpAny (model X.prog X.w) X.A (isTrue e X.env (eval e X.env)) (TP X pins σ Q) X.xe s
def PW (X:Cx) (e:Expr) (t:TT):Prop:=
 ∀ (whole:Sem Value) (pins:List (Addr×Obj)) (s:Shared) (σ:St) (H:Hp) (Q:Bool->Hp->Prop),Inv X pins σ H s->t σ H Q->wpAny (model X.prog X.w) X.A (isTrue e X.env whole) (TP X pins σ Q) X.xe s
theorem PW.pt {X:Cx}{e:Expr}{t:TT} (h:PW X e t):PT X e t:=h _
def PA (X:Cx) (es:List Expr) (t:TA):Prop:=
 ∀ (pos:Pos) (pins:List (Addr×Obj)) (s:Shared) (σ:St) (H:Hp) (Q:List V->Hp->Prop),Inv X pins σ H s->t σ H Q->wpAny (model X.prog X.w) X.A (spliced (backTo pos (starEach es X.env))) (AP X pins σ Q) X.xe s
def PS (X:Cx) (st:Stmt) (t:TS):Prop:=
 ∀ (pins:List (Addr×Obj)) (s:Shared) (σ:St) (H:Hp) (D:Ends),Inv X pins σ H s->t D σ H->wpAny (model X.prog X.w) X.A (exec st X.env) (SP X pins D) X.xe s
def PSs (X:Cx) (st:List Stmt) (t:TS):Prop:=
 ∀ (pins:List (Addr×Obj)) (s:Shared) (σ:St) (H:Hp) (D:Ends),Inv X pins σ H s->t D σ H->wpAny (model X.prog X.w) X.A (execs st X.env) (SP X pins D) X.xe s
theorem thn {α:Type}{t:Sem α}{Q Q':α->Shared->Prop}{M:Model}{A:Around}{E:Value->Shared->Prop}{s:Shared} (h:wpAny M A t Q E s) (hQ:∀ a s,Q a s->Q' a s):wpAny M A t Q' E s:=wpAny_mono h hQ λ_ _ x=>x
end L2
namespace L2
open PySem PySem.Spec PyProof.Rows
section
variable {X:Cx}
def tVar (i:Nat):TE:=fun σ H Q=>∃ v,σ[i]?=some (some v)/\Q v H
def tC (v:V):TE:=λ_ H Q=>Q v H
theorem pe_var {i:Nat}{x:Str}{pos:Pos} (hN:X.N[i]?=some x) (hv:Vis X.env.scope x) (hd:(x == ("__debug__":Str))=false:=by decide) (hcd:(x == ("__classdict__":Str))=false:=by decide):PE X (.Name x pos) (tVar i):=by
 intro pins s σ H Q I h
 obtain ⟨v,e,h⟩:=h
 obtain ⟨m,hn,hl⟩:=I.loc
 obtain ⟨u,r,l⟩:=hl i x v hN e hv
 have fin:EP X pins σ Q u s:=⟨v,H,I,r,h⟩
 rcases l with ⟨hk,hm⟩|⟨hk,c,hc,hcell⟩
 ·exact wpAny_Name (wpAny_loadName_local I.ok.kind hk hn hm fin) hd
 ·rcases hk with hk|hk
  ·exact wpAny_Name (wpAny_loadName_cell I.ok.kind hk hc hcell fin) hd
  ·exact wpAny_Name (wpAny_loadName_free I.ok.kind hk hc hcell fin hcd) hd
theorem pe_int {i j pos}:PE X (.Constant (.int i) j pos) (tC (.int i)):=λ_ _ _ H _ I h=>wpAny_Constant_int ⟨.int i,H,I.tok _,⟨_,rfl⟩,h⟩
theorem pe_bl {b j pos}:PE X (.Constant (.bool b) j pos) (tC (.bl b)):=λ_ _ _ H _ I h=>Constant_bool ⟨.bl b,H,I,rfl,h⟩
theorem pe_non {j pos}:PE X (.Constant .none j pos) (tC .non):=λ_ _ _ H _ I h=>Constant_none ⟨.non,H,I,rfl,h⟩
theorem pe_str {x j pos}:PE X (.Constant (.str x) j pos) (tC (.str x)):=λ_ _ _ H _ I h=>Calls.Constant_str ⟨.str x,H,I.tok _,⟨_,rfl⟩,h⟩
def Gl (X:Cx) (x:Str):Prop:=X.env.kindOf x=some .globalImplicit
theorem ld_glob {E:Value->Shared->Prop}{pins:List (Addr×Obj)}{s:Shared}{σ:St}{H:Hp}{x:Str}{u:Value}{pos:Pos}{Q:Value->Shared->Prop} (I:Inv X pins σ H s) (hg:Gl X x) (hm:X.mg x=some u) (h:Q u s)
  (hd:(x == ("__debug__":Str))=false:=by decide):wpAny (model X.prog X.w) X.A (eval (.Name x pos) X.env) Q E s:=
 Calls.Name_function_global I.ok.kind hg (Calls.loadGlobal_global (by rw [I.ok.glob];exact I.mod.glob.keeps I.bk) hm h) hd
theorem ld_blt {E:Value->Shared->Prop}{pins:List (Addr×Obj)}{s:Shared}{σ:St}{H:Hp}{x:Str}{u:Value}{pos:Pos}{Q:Value->Shared->Prop} (I:Inv X pins σ H s) (hg:Gl X x) (hm:X.mg x=none) (hv:bootBuiltins x=some u) (h:Q u s)
  (hn:x≠"__name__":=by decide) (hd:(x == ("__debug__":Str))=false:=by decide):wpAny (model X.prog X.w) X.A (eval (.Name x pos) X.env) Q E s:=by
 obtain ⟨mb,h1,h2⟩:=I.mod.blt
 exact Calls.Name_function_global I.ok.kind hg (Calls.loadGlobal_builtin (by rw [I.ok.glob];exact I.mod.glob.keeps I.bk) hm (by rw [I.ok.blt];exact h1.keeps I.bk) ((h2 x hn).trans hv) h) hd
theorem pe_glob {x:Str}{v:V}{u:Value}{pos:Pos} (hg:Gl X x) (hm:X.mg x=some u) (r:RelV v u) (hd:(x == ("__debug__":Str))=false:=by decide):PE X (.Name x pos) (tC v):=
 λ_ _ _ H _ I h=>ld_glob I hg hm ⟨v,H,I,r,h⟩ hd
theorem pe_bltn {x:Str}{v:V}{u:Value}{pos:Pos} (hg:Gl X x) (hm:X.mg x=none) (hv:bootBuiltins x=some u) (r:RelV v u) (hn:x≠"__name__":=by decide) (hd:(x == ("__debug__":Str))=false:=by decide):PE X (.Name x pos) (tC v):=
 λ_ _ _ H _ I h=>ld_blt I hg hm hv ⟨v,H,I,r,h⟩ hn hd
variable {a b:Expr}{ta tb:TE}{pos:Pos}
def PC (X:Cx) (op:CmpOp) (a b:Expr) (t:TE):Prop:=
 ∀ (pins:List (Addr×Obj)) (s:Shared) (σ:St) (H:Hp) (Q:VK),Inv X pins σ H s->t σ H Q->
  wpAny (model X.prog X.w) X.A (eval a X.env) (λv s₁=>wpAny (model X.prog X.w) X.A (eval b X.env) (λu s₂=>wpAny (model X.prog X.w) X.A (compareOp op v u) (EP X pins σ Q) X.xe s₂) X.xe s₁) X.xe s
theorem nobehind (b:Expr) {op:CmpOp} (h:op≠.In) (h2:op≠.NotIn):behindInMarks op b=false:=by
 have e1:(op == CmpOp.In)=false:=by cases op<;>first|rfl|exact absurd rfl h
 have e2:(op == CmpOp.NotIn)=false:=by cases op<;>first|rfl|exact absurd rfl h2
 cases b<;>simp [behindInMarks,e1,e2]
def tIsN (ta:TE):TE:=fun σ H Q=>ta σ H λx H1=>Q (.bl (decide (x=.non))) H1
def tNotN (ta:TE):TE:=fun σ H Q=>ta σ H λx H1=>Q (.bl (!decide (x=.non))) H1
theorem RelV.none_iff {x:V}{v:Value} (r:RelV x v):(v == Value.none)=decide (x=.non):=by
 cases x with
 |non=>cases r;rfl
 |bl _=>cases r;rfl
 |int _=>obtain ⟨t,rfl⟩:=r;rfl
 |str _=>obtain ⟨t,rfl⟩:=r;rfl
 |byt _=>obtain ⟨t,rfl⟩:=r;rfl
 |flt _=>obtain ⟨t,rfl⟩:=r;rfl
 |ref _=>cases r;rfl
 |ty _=>cases r;rfl
theorem pc_isN {j pos'} (ha:PE X a ta):PC X .Is a (.Constant .none j pos') (tIsN ta):=by
 intro pins s σ H Q I h
 refine thn (ha pins s σ H _ I h) λv s1 ⟨x,H1,I1,r1,q1⟩=>?_
 exact Constant_none (is_none_gen ⟨.bl _,H1,I1,by rw [r1.none_iff];rfl,q1⟩)
theorem pc_notN {j pos'} (ha:PE X a ta):PC X .IsNot a (.Constant .none j pos') (tNotN ta):=by
 intro pins s σ H Q I h
 refine thn (ha pins s σ H _ I h) λv s1 ⟨x,H1,I1,r1,q1⟩=>?_
 exact Constant_none (isnot_none_gen ⟨.bl _,H1,I1,by rw [r1.none_iff];rfl,q1⟩)
def tB (t:TE):TT:=fun σ H Q=>t σ H λx H1=>∃ c,x=.bl c/\Q c H1
theorem pe_cmp {op:CmpOp}{t:TE} (h:PC X op a b t) (h1:behindInMarks op b=false:=by first|exact nobehind _ (by decide) (by decide)|rfl):PE X (.Compare a [op] [b] pos) t:=λpins s σ H Q I hw=>wpAny_Compare1 (h pins s σ H Q I hw) h1
theorem pt_cmp {op:CmpOp}{t:TE} (h:PC X op a b t) (h1:behindInMarks op b=false:=by first|exact nobehind _ (by decide) (by decide)|rfl):PT X (.Compare a [op] [b] pos) (tB t):=by
 intro pins s σ H Q I hw
 refine wpAny_isTrue_Compare1 (thn (h pins s σ H _ I hw) λv s1 h1=>thn h1 λu s2 h2=>thn h2 λc s3 ⟨x,H1,I1,r1,q1⟩=>?_) h1
 obtain ⟨d,rfl,q⟩:=q1
 cases r1
 exact wpAny_truthy_bool ⟨H1,I1,q⟩
theorem pt_val {e:Expr}{t:TE} (h:PE X e t) (he:∀ whole,isTrue e X.env whole=(do let v<-whole;standAt e.pos;holding [v] (truthy v)):=by intro _;rfl):PT X e (tB t):=by
 intro pins s σ H Q I hw
 refine isTrue_plain (thn (h pins s σ H _ I hw) λv s1 ⟨x,H1,I1,r1,q1⟩=>?_) (he _)
 obtain ⟨d,rfl,q⟩:=q1
 cases r1
 exact wpAny_truthy_bool ⟨H1,I1,q⟩
variable {tA tB':TT}{rest:List Expr}
def tAnd (t u:TT):TT:=fun σ H Q=>t σ H λc H1=>if c=true then u σ H1 Q else Q false H1
def tOr (t u:TT):TT:=fun σ H Q=>t σ H λc H1=>if c=true then Q true H1 else u σ H1 Q
def tNot (t:TT):TT:=fun σ H Q=>t σ H λc H1=>Q (!c) H1
theorem pw_and1 (ha:PT X a tA):PW X (.BoolOp .And [a] pos) tA:=by
 intro wh pins s σ H Q I h
 refine isTrue_and (thn (ha pins s σ H Q I h) λc s1 e=>?_)
 cases c with
 |true=>exact isTrue_and_nil e
 |false=>exact e
theorem pw_or1 (ha:PT X a tA):PW X (.BoolOp .Or [a] pos) tA:=by
 intro wh pins s σ H Q I h
 refine isTrue_or (thn (ha pins s σ H Q I h) λc s1 e=>?_)
 cases c with
 |false=>exact isTrue_or_nil e
 |true=>exact e
theorem pw_and (ha:PT X a tA) (hb:PW X (.BoolOp .And (b::rest) pos) tB'):PW X (.BoolOp .And (a::b::rest) pos) (tAnd tA tB'):=by
 intro wh pins s σ H Q I h
 refine isTrue_and (thn (ha pins s σ H _ I h) λc s1 ⟨H1,I1,q1⟩=>?_)
 cases c with
 |true=>exact hb wh pins s1 σ H1 Q I1 q1
 |false=>exact ⟨H1,I1,q1⟩
theorem pw_or (ha:PT X a tA) (hb:PW X (.BoolOp .Or (b::rest) pos) tB'):PW X (.BoolOp .Or (a::b::rest) pos) (tOr tA tB'):=by
 intro wh pins s σ H Q I h
 refine isTrue_or (thn (ha pins s σ H _ I h) λc s1 ⟨H1,I1,q1⟩=>?_)
 cases c with
 |true=>exact ⟨H1,I1,q1⟩
 |false=>exact hb wh pins s1 σ H1 Q I1 q1
theorem pt_not (ha:PT X a tA):PT X (.UnaryOp .Not a pos) (tNot tA):=by
 intro pins s σ H Q I h
 exact isTrue_not (ha pins s σ H (λc H1=>Q (!c) H1) I h)
def tAndV (ta tb:TE):TE:=fun σ H Q=>ta σ H λx H1=>∃ c,x=.bl c/\if c=true then tb σ H1 Q else Q (.bl false) H1
def tOrV (ta tb:TE):TE:=fun σ H Q=>ta σ H λx H1=>∃ c,x=.bl c/\if c=true then Q (.bl true) H1 else tb σ H1 Q
def tNotV (ta:TE):TE:=fun σ H Q=>ta σ H λx H1=>∃ c,x=.bl c/\Q (.bl (!c)) H1
theorem pe_one {op}{t:TE} (h:PE X a t):PE X (.BoolOp op [a] pos) t:=λpins s σ H Q I hw=>BoolOp_one (h pins s σ H Q I hw)
theorem pe_and (ha:PE X a ta) (hb:PE X (.BoolOp .And (b::rest) pos) tb):PE X (.BoolOp .And (a::b::rest) pos) (tAndV ta tb):=by
 intro pins s σ H Q I h
 refine BoolOp_and (thn (ha pins s σ H _ I h) λv s1 ⟨x,H1,I1,r1,q1⟩=>?_)
 obtain ⟨c,rfl,q1⟩:=q1
 cases r1
 refine wpAny_truthy_bool ?_
 cases c with
 |true=>exact hb pins s1 σ H1 Q I1 q1
 |false=>exact ⟨.bl false,H1,I1,rfl,q1⟩
theorem pe_or (ha:PE X a ta) (hb:PE X (.BoolOp .Or (b::rest) pos) tb):PE X (.BoolOp .Or (a::b::rest) pos) (tOrV ta tb):=by
 intro pins s σ H Q I h
 refine BoolOp_or (thn (ha pins s σ H _ I h) λv s1 ⟨x,H1,I1,r1,q1⟩=>?_)
 obtain ⟨c,rfl,q1⟩:=q1
 cases r1
 refine wpAny_truthy_bool ?_
 cases c with
 |false=>exact hb pins s1 σ H1 Q I1 q1
 |true=>exact ⟨.bl true,H1,I1,rfl,q1⟩
theorem pe_not (ha:PE X a ta):PE X (.UnaryOp .Not a pos) (tNotV ta):=by
 intro pins s σ H Q I h
 refine UnaryOp_ (thn (ha pins s σ H _ I h) λv s1 ⟨x,H1,I1,r1,q1⟩=>?_)
 obtain ⟨c,rfl,q1⟩:=q1
 cases r1
 exact not_of (wpAny_truthy_bool ⟨.bl (!c),H1,I1,rfl,q1⟩)
def tIf (t:TT) (ta tb:TE):TE:=fun σ H Q=>t σ H λc H1=>if c=true then ta σ H1 Q else tb σ H1 Q
theorem pe_ifExp {c:Expr} (hc:PT X c tA) (ha:PE X a ta) (hb:PE X b tb):PE X (.IfExp c a b pos) (tIf tA ta tb):=by
 intro pins s σ H Q I h
 refine wpAny_IfExp (thn (hc pins s σ H _ I h) λd s1 ⟨H1,I1,q1⟩=>?_)
 cases d with
 |true=>exact ha pins s1 σ H1 Q I1 q1
 |false=>exact hb pins s1 σ H1 Q I1 q1
end
end L2
namespace L2
open PySem PySem.Spec PyProof.Rows
def SqL (K:PySem.W.Frag) (H:Hp) (a:Addr) (xs:List V):Prop:=
 Rd H a (.lst xs) ∨
  ∃ (o:Obj) (its:Array Value) (n:Nat),K.lookup a=some o/\o.cls=.type "list"/\o.dict=none/\o.data=.seq its n/\its.size<=sizeLine/\Vals xs its.toList
def SqT (K:PySem.W.Frag) (H:Hp) (a:Addr) (xs:List V):Prop:=
 Rd H a (.tup xs) ∨
  ∃ (o:Obj) (its:Array Value) (n:Nat),K.lookup a=some o/\o.cls=.type "tuple"/\o.data=.seq its n/\its.size<=sizeLine/\Vals xs its.toList
def absV:Value->Option V
 | .none=>some .non
 | .bool b=>some (.bl b)
 | .int i _=>some (.int i)
 | .str x _=>some (.str x)
 | .bytes b _=>some (.byt b)
 | .float b _=>some (.flt b)
 | .ref a=>some (.ref a)
 | .type n=>some (.ty n)
 |_=>none
theorem RelV.abs {x:V}{u:Value} (r:RelV x u):absV u=some x:=by
 cases x with
 |non=>cases r;rfl
 |bl _=>cases r;rfl
 |int _=>obtain ⟨t,rfl⟩:=r;rfl
 |str _=>obtain ⟨t,rfl⟩:=r;rfl
 |byt _=>obtain ⟨t,rfl⟩:=r;rfl
 |flt _=>obtain ⟨t,rfl⟩:=r;rfl
 |ref _=>cases r;rfl
 |ty _=>cases r;rfl
theorem RelV.inj {x y:V}{u:Value} (r:RelV x u) (q:RelV y u):x=y:=Option.some.inj (r.abs.symm.trans q.abs)
theorem Vals.inj:∀ {xs ys:List V}{us:List Value},Vals xs us->Vals ys us->xs=ys
 |_,_,_,.nil,.nil=>rfl
 |_,_,_,.cons r t,.cons r' t'=>by rw [r.inj r',Vals.inj t t']
section
variable {X:Cx}{pins:List (Addr×Obj)}{σ:St}{H:Hp}{s:Shared}{a:Addr}{xs ys:List V}
theorem SqL.of {K:PySem.W.Frag} (h:H a=some (.lst xs)):SqL K H a xs:=.inl (.inl h)
theorem SqT.of {K:PySem.W.Frag} (h:H a=some (.tup xs)):SqT K H a xs:=.inl (.inl h)
theorem Inv.list (I:Inv X pins σ H s) (h:SqL X.K H a xs):∃ its:List Value,Vals xs its/\PlainL s.heap a its.toArray/\xs.length<=sizeLine:=by
 rcases h with h|⟨o,its,n,hk,hc,hd,hs,hz,r⟩
 ·obtain ⟨z,its,n,r,e⟩:=h.ok I.hok
  exact ⟨its,r,⟨_,n,e,rfl,rfl,rfl⟩,z⟩
 ·refine ⟨its.toList,r,⟨o,n,I.kIn a o hk,hc,hd,by simpa using hs⟩,?_⟩
  have e:=r.length
  simp only [Array.length_toList] at e
  omega
theorem Inv.tuple (I:Inv X pins σ H s) (h:SqT X.K H a xs):∃ its:List Value,Vals xs its/\IsTup s.heap a its.toArray/\xs.length<=sizeLine:=by
 rcases h with h|⟨o,its,n,hk,hc,hs,hz,r⟩
 ·obtain ⟨z,its,r,p⟩:=h.ok I.hok
  exact ⟨its,r,p,z⟩
 ·refine ⟨its.toList,r,⟨o,I.kIn a o hk,hc,n,by simpa using hs⟩,?_⟩
  have e:=r.length
  simp only [Array.length_toList] at e
  omega
theorem Inv.list_inj (I:Inv X pins σ H s) (h:SqL X.K H a xs) (h':SqL X.K H a ys):xs=ys:=by
 obtain ⟨its,r,⟨o,n,e,_,_,d⟩,_⟩:=I.list h
 obtain ⟨its',r',⟨o',n',e',_,_,d'⟩,_⟩:=I.list h'
 rw [e] at e';cases e'
 rw [d] at d'
 injection d' with d1 _
 have:its=its':=by simpa using congrArg Array.toList d1
 subst this
 exact r.inj r'
theorem Inv.tuple_inj (I:Inv X pins σ H s) (h:SqT X.K H a xs) (h':SqT X.K H a ys):xs=ys:=by
 obtain ⟨its,r,⟨o,e,_,n,d⟩,_⟩:=I.tuple h
 obtain ⟨its',r',⟨o',e',_,n',d'⟩,_⟩:=I.tuple h'
 rw [e] at e';cases e'
 rw [d] at d'
 injection d' with d1 _
 have:its=its':=by simpa using congrArg Array.toList d1
 subst this
 exact r.inj r'
end
abbrev Cx.wish (X:Cx) (E:Value->Shared->Prop):Cx:={ X with xe:=E }
abbrev Cx.nox (X:Cx):Cx:=X.wish λ_ _=>False
theorem Cx.Ok.wish {X:Cx} (ok:X.Ok) (E:Value->Shared->Prop):(X.wish E).Ok:=
 ⟨ok.mod,ok.kind,ok.glob,ok.blt,ok.above,ok.inj,ok.has,ok.cab,ok.hd,ok.frames,ok.stk,ok.exf,ok.bs,ok.bsz,ok.noex,ok.exfs,ok.funs,ok.frf⟩
theorem Cx.Ok.unwish {X:Cx}{E:Value->Shared->Prop} (ok:(X.wish E).Ok):X.Ok:=
 ⟨ok.mod,ok.kind,ok.glob,ok.blt,ok.above,ok.inj,ok.has,ok.cab,ok.hd,ok.frames,ok.stk,ok.exf,ok.bs,ok.bsz,ok.noex,ok.exfs,ok.funs,ok.frf⟩
section
variable {X:Cx}{pins:List (Addr×Obj)}{σ:St}{H:Hp}{s:Shared}{E:Value->Shared->Prop}
theorem Inv.wish (I:Inv X pins σ H s) (E:Value->Shared->Prop):Inv (X.wish E) pins σ H s:=⟨I.ok.wish E,I.os,I.bare,I.base,I.loc,I.cell,I.free,I.freeC,I.pin,I.hok,I.len⟩
theorem Inv.unwish (I:Inv (X.wish E) pins σ H s):Inv X pins σ H s:=⟨I.ok.unwish,I.os,I.bare,I.base,I.loc,I.cell,I.free,I.freeC,I.pin,I.hok,I.len⟩
theorem SP.unwish {D:Ends}{f:Flow}{s':Shared} (h:SP (X.wish E) pins D f s'):SP X pins D f s':=by
 cases f with
 |next=>obtain ⟨σ',H',I,q⟩:=h;exact ⟨σ',H',I.unwish,q⟩
 |brk=>obtain ⟨σ',H',I,q⟩:=h;exact ⟨σ',H',I.unwish,q⟩
 |cont=>obtain ⟨σ',H',I,q⟩:=h;exact ⟨σ',H',I.unwish,q⟩
 |ret u=>obtain ⟨v,σ',H',I,r,q⟩:=h;exact ⟨v,σ',H',I.unwish,r,q⟩
theorem PSs.nox {st:List Stmt}{t:TS} (h:PSs X.nox st t):PSs X st t:=λpins s σ H D I hw=>
 wpAny_mono (h pins s σ H D (I.wish _) hw) (λ_ _ q=>q.unwish) λ_ _ z=>False.elim z
end
section
variable {X:Cx}{st:Stmt}{rest:List Stmt}{t u:TS}{e:Expr}{te:TE}{pos:Pos}
def tNext:TS:=λD σ H=>D.nx σ H
def tSeq (t u:TS):TS:=λD σ H=>t { D with nx:=u D } σ H
theorem pss_nil:PSs X [] tNext:=λ_ _ σ H _ I h=>wpAny_execs_nil ⟨σ,H,I,h⟩
theorem pss_cons (h1:PS X st t) (h2:PSs X rest u):PSs X (st::rest) (tSeq t u):=by
 intro pins s σ H D I h
 refine wpAny_execs_cons (thn (h1 pins s σ H { D with nx:=u D } I h) λf s1 q=>?_)
 cases f with
 |next=>
  obtain ⟨σ',H',I',q⟩:=q
  exact h2 pins s1 σ' H' D I' q
 |ret v=>exact q
 |brk=>exact q
 |cont=>exact q
theorem pss_one (h1:PS X st t):PSs X [st] t:=by
 intro pins s σ H D I h
 refine wpAny_execs_cons (thn (h1 pins s σ H D I h) λf s1 q=>?_)
 cases f with
 |next=>exact wpAny_execs_nil q
 |ret v=>exact q
 |brk=>exact q
 |cont=>exact q
theorem Inv.quiet {pins:List (Addr×Obj)}{σ:St}{H:Hp}{s:Shared} (I:Inv X pins σ H s):interactive X.env=false:=by simp [interactive,I.ok.kind]
def tDrop (te:TE):TS:=λD σ H=>te σ H λ_ H1=>D.nx σ H1
theorem ps_expr (he:PE X e te) (hs:swapsWith e none pos.line X.env=pure false:=by rfl):PS X (.Expr e pos) (tDrop te):=by
 intro pins s σ H D I h
 exact wpAny_Expr_any (thn (he pins s σ H _ I h) λv s1 ⟨x,H1,I1,r1,q1⟩=>⟨σ,H1,I1,q1⟩) I.quiet hs
def tRet (te:TE):TS:=λD σ H=>te σ H D.rt
theorem ps_ret (he:PE X e te):PS X (.Return (some e) pos) (tRet te):=by
 intro pins s σ H D I h
 exact wpAny_Return_some (thn (he pins s σ H _ I h) λv s1 ⟨x,H1,I1,r1,q1⟩=>⟨x,σ,H1,I1,r1,q1⟩)
def tIfS (c:TT) (t u:TS):TS:=λD σ H=>c σ H λb H1=>if b=true then t D σ H1 else u D σ H1
theorem ps_if {c:Expr}{a b:List Stmt}{tc:TT} (hc:PT X c tc) (ha:PSs X a t) (hb:PSs X b u):PS X (.If c a b pos) (tIfS tc t u):=by
 intro pins s σ H D I h
 refine wpAny_If (thn (hc pins s σ H _ I h) λd s1 ⟨H1,I1,q1⟩=>?_)
 cases d with
 |true=>exact ha pins s1 σ H1 D I1 q1
 |false=>exact hb pins s1 σ H1 D I1 q1
def tNever:TS:=λ_ _ _=>False
theorem ps_never:PS X st tNever:=λ_ _ _ _ _ _ h=>h.elim
theorem pss_never {sts:List Stmt}:PSs X sts tNever:=λ_ _ _ _ _ _ h=>h.elim
end
abbrev TG:=V->St->Hp->(St->Hp->Prop)->Prop
abbrev TGs:=List V->St->Hp->(St->Hp->Prop)->Prop
def PG (X:Cx) (target:Expr) (t:TG):Prop:=
 ∀ (pins:List (Addr×Obj)) (s:Shared) (σ:St) (H:Hp) (v:V) (u:Value) (Q:St->Hp->Prop),Inv X pins σ H s->RelV v u->t v σ H Q->
  wpAny (model X.prog X.w) X.A (assign target X.env u) (λ_ s'=>∃ σ' H',Inv X pins σ' H' s'/\Q σ' H') X.xe s
def PGs (X:Cx) (ts:List Expr) (t:TGs):Prop:=
 ∀ (pins:List (Addr×Obj)) (s:Shared) (σ:St) (H:Hp) (vs:List V) (us:List Value) (Q:St->Hp->Prop),Inv X pins σ H s->Vals vs us->t vs σ H Q->
  wpAny (model X.prog X.w) X.A (assignInOrder ((assignEach ts X.env).map (·.2)) us) (λ_ s'=>∃ σ' H',Inv X pins σ' H' s'/\Q σ' H') X.xe s
abbrev TSet:=V->V->V->Hp->(Hp->Prop)->Prop
def PSet (X:Cx) (t:TSet):Prop:=
 ∀ (pins:List (Addr×Obj)) (s:Shared) (σ:St) (H:Hp) (o i v:V) (ov iv u:Value) (Q:Hp->Prop),Inv X pins σ H s->RelV o ov->RelV i iv->RelV v u->t o i v H Q->
  wpAny (model X.prog X.w) X.A (setItem ov iv u) (λ_ s'=>∃ H',Inv X pins σ H' s'/\Q H') X.xe s
abbrev TIp:=V->V->Hp->VK->Prop
def PIp (X:Cx) (op:Operator) (t:TIp):Prop:=
 ∀ (pins:List (Addr×Obj)) (s:Shared) (σ:St) (H:Hp) (x y:V) (v u:Value) (Q:VK),Inv X pins σ H s->RelV x v->RelV y u->t x y H Q->
  wpAny (model X.prog X.w) X.A (inplaceOp op v u) (EP X pins σ Q) X.xe s
section
variable {X:Cx}{pos:Pos}
def gName (i:Nat):TG:=λv σ H Q=>Q (σ.set i (some v)) H
theorem pg_name {i:Nat}{x:Str} (hN:X.N.Nodup) (hi:X.N[i]?=some x) (hx:Loc X.env.scope x) (hf:X.fn x=true∨X.env.scope.names.lookup x=some .local:=by first|exact .inl rfl|exact .inr rfl|assumption):PG X (.Name x pos) (gName i):=by
 intro pins s σ H v u Q I r h
 exact wpAny_assign_Name (store_ok I hN hi hx r (λs' I'=>⟨_,H,I',h⟩) hf)
def gNil:TGs:=λvs σ H Q=>vs=[]/\Q σ H
def gCons (t:TG) (u:TGs):TGs:=λvs σ H Q=>∃ v r,vs=v::r/\t v σ H fun σ' H'=>u r σ' H' Q
theorem pgs_nil:PGs X [] gNil:=by
 intro pins s σ H vs us Q I r h
 obtain ⟨e,h⟩:=h
 subst e
 cases r
 exact assignInOrder_nil ⟨σ,H,I,h⟩
theorem pgs_cons {e:Expr}{es:List Expr}{t:TG}{u:TGs} (h1:PG X e t) (h2:PGs X es u)
  (hs:(assignEach (e::es) X.env).map (·.2)=assign e X.env::(assignEach es X.env).map (·.2):=by rfl):PGs X (e::es) (gCons t u):=by
 intro pins s σ H vs us Q I r h
 obtain ⟨v,vr,e1,h⟩:=h
 subst e1
 cases r with
 |cons r rr=>
  rw [hs]
  refine assignInOrder_cons (thn (h1 pins s σ H _ _ _ I r h) λ_ s1 ⟨σ1,H1,I1,q1⟩=>?_)
  exact h2 pins s1 σ1 H1 _ _ Q I1 rr q1
def gTup (K:PySem.W.Frag) (n:Nat) (t:TGs):TG:=λv σ H Q=>∃ a xs,v=.ref a/\SqT K H a xs/\xs.length=n/\t xs σ H Q
theorem pg_tup {es:List Expr}{k:Nat}{t:TGs}{n:Nat} (hc:X.calm=true) (h:PGs X es t)
  (hn:(assignEach es X.env).length=n:=by rfl) (hst:(assignEach es X.env).findIdx? (·.1)=none:=by rfl):PG X (.Tuple es k pos) (gTup X.K n t):=by
 intro pins s σ H v u Q I r hw
 obtain ⟨a,xs,e1,hq,hl,hw⟩:=hw
 subst e1
 cases r
 obtain ⟨its,rv,ht,hz⟩:=I.tuple hq
 refine assign_Tuple_tuple (I.ok.hd hc) ht (by simp [hn,<-hl,rv.length]) hst λh' hx=>?_
 have I1:Inv X pins σ H { s with heap:=h' }:=I.kept (t':=s.toks) λb o e=>hx b o (Nat.ne_of_lt (Heap.lt_size e)) e
 exact h pins _ σ H xs _ Q I1 (by simpa using rv) hw
def gSub (to ti:TE) (t:TSet):TG:=λv σ H Q=>to σ H λo H1=>ti σ H1 λi H2=>t o i v H2 λH3=>Q σ H3
theorem pg_sub {o i:Expr}{to ti:TE}{t:TSet} (ho:PE X o to) (hi:PE X i ti) (hs:PSet X t)
  (ha:∀ v,assign (.Subscript o i pos) X.env v=(do
   let ov<-holding [v] (eval o X.env)
   let iv<-holding [v,ov] (eval i X.env)
   standAt pos
   holding [v,ov,iv] (setItem ov iv v)
   release [v,ov,iv] []):=by intro _;rfl):PG X (.Subscript o i pos) (gSub to ti t):=by
 intro pins s σ H v u Q I r h
 rw [ha]
 refine wpAny_bind (wpAny_holding (thn (ho pins s σ H _ I h) λov s1 ⟨x,H1,I1,r1,q1⟩=>?_))
 refine wpAny_bind (wpAny_holding (thn (hi pins s1 σ H1 _ I1 q1) λiv s2 ⟨y,H2,I2,r2,q2⟩=>?_))
 refine wpAny_bind (wpAny_standAt (wpAny_bind (wpAny_holding (thn (hs pins s2 σ H2 x y v ov iv u _ I2 r1 r2 r q2) λ_ s3 ⟨H3,I3,q3⟩=>?_))))
 exact wpAny_release ⟨σ,H3,I3,q3⟩
def tAsg (te:TE) (g:TG):TS:=λD σ H=>te σ H λx H1=>g x σ H1 D.nx
theorem ps_asg {tg e:Expr}{te:TE}{g:TG} (he:PE X e te) (hg:PG X tg g) (hs:swapsWithSole [tg] e pos.line X.env=pure false:=by rfl) (hw:swappedStores [tg] e X.env=pure none:=by rfl)
  (h1:(assignEach [tg] X.env).map (·.2)=[assign tg X.env]:=by rfl):PS X (.Assign [tg] e pos) (tAsg te g):=by
 intro pins s σ H D I h
 refine wpAny_Assign_stores (thn (he pins s σ H _ I h) λv s1 ⟨x,H1,I1,r1,q1⟩=>?_) hs hw
 rw [h1]
 exact thn (hg pins s1 σ H1 x v _ I1 r1 q1) λ_ s2 q=>q
theorem ps_set {i:Nat}{x:Str}{e:Expr}{te:TE}{pos':Pos} (hN:X.N.Nodup) (hi:X.N[i]?=some x) (hx:Loc X.env.scope x) (he:PE X e te) (hs:swapsWith e (some (.Name x pos')) pos.line X.env=pure false:=by rfl) (hf:X.fn x=true∨X.env.scope.names.lookup x=some .local:=by first|exact .inl rfl|exact .inr rfl|assumption) :
  PS X (.Assign [.Name x pos'] e pos) (tAsg te (gName i)):=by
 intro pins s σ H D I h
 refine wpAny_Assign_Name (thn (he pins s σ H _ I h) λv s1 ⟨y,H1,I1,r1,q1⟩=>?_) hs
 exact store_ok I1 hN hi hx r1 (λs2 I2=>⟨_,H1,I2,q1⟩) hf
def tAug (i:Nat) (te:TE) (ti:TIp):TS:=λD σ H=>∃ x,σ[i]?=some (some x)/\te σ H λy H1=>ti x y H1 λz H2=>D.nx (σ.set i (some z)) H2
theorem ps_aug {i:Nat}{x:Str}{e:Expr}{te:TE}{op:Operator}{ti:TIp}{pos':Pos} (hN:X.N.Nodup) (hi:X.N[i]?=some x) (hx:Loc X.env.scope x) (he:PE X e te) (ho:PIp X op ti) (hf:X.fn x=true∨X.env.scope.names.lookup x=some .local:=by first|exact .inl rfl|exact .inr rfl|assumption) :
  PS X (.AugAssign (.Name x pos') op e pos) (tAug i te ti):=by
 intro pins s σ H D I h
 obtain ⟨v,e1,h⟩:=h
 obtain ⟨m,hn,hl⟩:=I.loc
 have vis:Vis X.env.scope x:=by rcases hx with k|k;exact .inl k;exact .inr (.inl k)
 obtain ⟨u,r,l⟩:=hl i x v hi e1 vis
 refine wpAny_AugAssign_Name ?_
 have go:wpAny (model X.prog X.w) X.A (eval e X.env) (λw s₂=>wpAny (model X.prog X.w) X.A (inplaceOp op u w) (λr s₃=>wpAny (model X.prog X.w) X.A (storeName X.env x r) (λ_=>SP X pins D .next) X.xe s₃) X.xe s₂) X.xe s:=by
  refine thn (he pins s σ H _ I h) λw s1 ⟨y,H1,I1,r1,q1⟩=>?_
  refine thn (ho pins s1 σ H1 v y u w _ I1 r r1 q1) λz s2 ⟨zv,H2,I2,r2,q2⟩=>?_
  exact store_ok I2 hN hi hx r2 (λs3 I3=>⟨_,H2,I3,q2⟩) hf
 rcases l with ⟨hk,hm⟩|⟨hk,c,hc,hcell⟩
 ·exact wpAny_loadName_local I.ok.kind hk hn hm go
 ·rcases hk with hk|hk
  ·exact wpAny_loadName_cell I.ok.kind hk hc hcell go
  ·rcases hx with k|k
   ·have:X.env.scope.names.lookup x=some .free:=hk
    rw [k] at this;cases this
   ·have:X.env.scope.names.lookup x=some .free:=hk
    rw [k] at this;cases this
def ipI (f:Int->Int->Int):TIp:=λx y H Q=>∃ i j,x=.int i/\y=.int j/\Q (.int (f i j)) H
theorem ip_add:PIp X .Add (ipI λi j=>i+j):=by
 intro pins s σ H x y v u Q I r1 r2 h
 obtain ⟨i,j,e1,e2,q⟩:=h
 subst e1;subst e2
 obtain ⟨t,rfl⟩:=r1
 obtain ⟨t',rfl⟩:=r2
 exact iadd_int ⟨.int _,H,I.tok _,⟨_,rfl⟩,q⟩
end
section
variable {X:Cx}{pos:Pos}
def tWhile (c:TT) (tb:TS):TS:=λD σ H=>∃ W:Nat->St->Hp->Prop,(∃ m,W m σ H)/\∀ m σ H,W m σ H->
 c σ H λb H1=>if b=true then ∃ N:St->Hp->Prop,(∀ σ' H',N σ' H'->∃ m',m'<m/\W m' σ' H')/\tb { D with nx:=N,ct:=N,bk:=D.nx } σ H1 else D.nx σ H1
theorem ps_while {c:Expr}{body:List Stmt}{tc:TT}{tb:TS} (hp:PassesOwn (model X.prog X.w) X.A X.env X.xe) (hc:PT X c tc) (hb:PSs X body tb):PS X (.While c body [] pos) (tWhile tc tb):=by
 intro pins s σ H D I h
 obtain ⟨W,⟨m0,w0⟩,turn⟩:=h
 refine wpAny_While (codeAny_whileLoop (λn s'=>∃ σ' H',Inv X pins σ' H' s'/\W n σ' H') ?_ m0 ⟨σ,H,I,w0⟩)
 rintro n s1 ⟨σ1,H1,I1,w1⟩
 refine wpAny_passesOwn hp (thn (hc pins s1 σ1 H1 _ I1 (turn n σ1 H1 w1)) λb s2 ⟨H2,I2,q2⟩=>?_)
 cases b with
 |true=>
  obtain ⟨N,hN,q2⟩:=q2
  rw [if_pos rfl]
  refine wpAny_passesOwn hp (thn (hb pins s2 σ1 H2 _ I2 q2) λf s3 q3=>?_)
  cases f with
  |next=>
   obtain ⟨σ3,H3,I3,n3⟩:=q3
   obtain ⟨m',hm,w3⟩:=hN σ3 H3 n3
   exact ⟨m',hm,σ3,H3,I3,w3⟩
  |cont=>
   obtain ⟨σ3,H3,I3,n3⟩:=q3
   obtain ⟨m',hm,w3⟩:=hN σ3 H3 n3
   exact ⟨m',hm,σ3,H3,I3,w3⟩
  |brk=>exact q3
  |ret v=>exact q3
 |false=>
  rw [if_neg Bool.false_ne_true]
  exact wpAny_execs_nil ⟨σ1,H2,I2,q2⟩
end
structure It where
 go:Nat->Hp->Prop
 yld:Nat->Hp->V->Hp->Prop
 stop:Nat->Hp->Prop
def FpOk (X:Cx) (pins:List (Addr×Obj)) (H:Hp) (b:Addr):Prop:=
 H b=none/\b≠X.env.locals/\b ∉ X.fs/\(b∈X.ex∨X.s₀.heap.objs.size<=b)/\(∀ x c,X.env.cells.lookup x=some c->c≠b)/\∀ p∈X.pn++pins,p.1≠b
theorem Inv.fpOk {X:Cx}{pins:List (Addr×Obj)}{σ:St}{H H':Hp}{s:Shared}{b:Addr} (I:Inv X pins σ H s) (hb:s.heap.objs.size<=b) (hn:H' b=none):FpOk X pins H' b:=by
 refine ⟨hn,Nat.ne_of_gt (Nat.lt_of_lt_of_le I.lt hb),I.nofs hb,.inr (Nat.le_trans I.sz hb),λx c e z=>?_,λp hp z=>?_⟩
 ·obtain ⟨v,q⟩:=I.cell x c e
  exact absurd (Nat.lt_of_lt_of_le q.lt (by rw [z];exact hb)) (Nat.lt_irrefl _)
 ·exact absurd (Nat.lt_of_lt_of_le (Heap.lt_size (I.pin p hp).1) (by rw [z];exact hb)) (Nat.lt_irrefl _)
structure Turn (P:Program) (w:World) (K:PySem.W.Frag) (tg:Expr) (J:It) (fp:List Addr) (it:Addr) (tn:Nat->Heap->Prop):Prop where
 mem:it∈fp
 obj:∀ i h,tn i h->∀ b∈fp,∃ o,h.get? b=some o/\∀ v,o.data≠.cell v
 keep:∀ i h h',tn i h->(∀ b∈fp,∀ o,h.get? b=some o->h'.get? b=some o)->tn i h'
 item:∀ (X:Cx),X.prog=P->X.w=w->X.K=K->X.calm=true->∀ (i:Nat) (pins:List (Addr×Obj)) (s:Shared) (σ:St) (H:Hp) (E:Value->Shared->Prop),Inv X pins σ H s->(∀ b∈fp,FpOk X pins H b)->tn i s.heap->J.go i H->
  wpAny (model P w) X.A (pyNext (.ref it)) (λr s1=>∃ u,r=some u/\
   wpAny (model P w) X.A (letOwnedTupleGo tg (.ref it) u) (λ_ s2=>∃ x H',Inv X pins σ H' s2/\RelV x u/\J.yld i H x H'/\tn (i+1) s2.heap/\∀ b∈fp,H' b=none) E s1) E s
 done:∀ (X:Cx),X.prog=P->X.w=w->X.K=K->X.calm=true->∀ (i:Nat) (pins:List (Addr×Obj)) (s:Shared) (σ:St) (H:Hp) (E:Value->Shared->Prop),Inv X pins σ H s->(∀ b∈fp,FpOk X pins H b)->tn i s.heap->J.stop i H->
  wpAny (model P w) X.A (pyNext (.ref it)) (λr s1=>r=none/\Inv X pins σ H s1) E s
 self:∀ (A:Around) (i:Nat) (s:Shared) (Q:Value->Shared->Prop) (E:Value->Shared->Prop),tn i s.heap->Q (.ref it) s->wpAny (model P w) A (pyIter (.ref it)) Q E s
abbrev TI:=St->Hp->(It->Hp->Prop)->Prop
def PIE (X:Cx) (pins:List (Addr×Obj)) (σ:St) (tg:Expr) (R:It->Hp->Prop) (itv:Value) (s2:Shared):Prop:=
 ∃ (it:Addr) (fp:List Addr) (tn:Nat->Heap->Prop) (J:It) (H':Hp),itv=.ref it/\Inv X pins σ H' s2/\Turn X.prog X.w X.K tg J fp it tn/\tn 0 s2.heap/\(∀ b∈fp,FpOk X pins H' b)/\R J H'
def PI (X:Cx) (tg iter:Expr) (wi:TI):Prop:=
 ∀ (pins:List (Addr×Obj)) (s:Shared) (σ:St) (H:Hp) (R:It->Hp->Prop),Inv X pins σ H s->wi σ H R->
  wpAny (model X.prog X.w) X.A (eval iter X.env) (λv s1=>wpAny (model X.prog X.w) X.A (pyIter v) (PIE X pins σ tg R) X.xe s1) X.xe s
theorem go_of {M:Model}{A:Around}{E:Value->Shared->Prop}{s:Shared}{tg:Expr}{it:Addr}{u:Value}{o:Obj}{n:String}{vs:Array Value}{Q:Unit->Shared->Prop} (ho:s.heap.get? it=some o) (hc:o.cls=.type n) (hd:o.data=.fields vs)
  (hn:["enumerate","zip","dict_itemiterator","dict_reverseitemiterator","odict_iterator","itertools.zip_longest","itertools.pairwise"].contains n=false) (hQ:Q () s):wpAny M A (letOwnedTupleGo tg (.ref it) u) Q E s:=by
 unfold letOwnedTupleGo
 cases tg<;>first
  |exact wpAny_pure hQ
  |(cases u<;>first
    |exact wpAny_pure hQ
    |(refine wpAny_bind (wpAny_load ho ?_)
      rw [hc,hd]
      show wpAny M A (if (["enumerate","zip","dict_itemiterator","dict_reverseitemiterator","odict_iterator","itertools.zip_longest","itertools.pairwise"].contains n && vs[0]? == some (rawInt _))=true then _ else _) Q E s
      rw [if_neg (by intro h;rw [hn,Bool.false_and] at h;cases h)]
      exact wpAny_pure hQ))
def Itl (K:PySem.W.Frag) (a:Addr):It:=
 ⟨λi H=>∃ xs x,SqL K H a xs/\xs[i]?=some x,λi H x H'=>H'=H/\∀ xs,SqL K H a xs->xs[i]?=some x,λi H=>∃ xs,SqL K H a xs/\xs.length<=i⟩
def Itt (K:PySem.W.Frag) (a:Addr):It:=
 ⟨λi H=>∃ xs x,SqT K H a xs/\xs[i]?=some x,λi H x H'=>H'=H/\∀ xs,SqT K H a xs->xs[i]?=some x,λi H=>∃ xs,SqT K H a xs/\xs.length<=i⟩
def Itr (lo:Int) (n:Nat):It:=⟨λi _=>i<n,λi H x H'=>H'=H/\x=.int (lo+i),λi _=>n<=i⟩
theorem turn_list {P:Program}{w:World}{K:PySem.W.Frag}{tg:Expr} (a it:Addr):Turn P w K tg (Itl K a) [it] it (λi h=>h.IsListIter it a i) where
 mem:=by simp
 obj:=λi h st b hb=>by
  have e:b=it:=by simpa using hb
  subst e
  obtain ⟨o,e,c,d⟩:=st
  exact ⟨o,e,λv z=>by rw [d] at z;cases z⟩
 keep:=λi h h' st k=>st.at λo e=>k it (by simp) o e
 item:=by
  intro X hP hw hK hc i pins s σ H E I hf st hg
  subst hP hw hK
  obtain ⟨xs,x,hq,hx⟩:=hg
  obtain ⟨its,rv,p,hz⟩:=I.list hq
  obtain ⟨u,hu,ru⟩:=rv.get hx
  obtain ⟨f0,f1,f2,f3,f4,f5⟩:=hf it (by simp)
  refine wpAny_pyNext_list_item st p.isList (x:=u) (by simpa using hu) λh' st' sb=>?_
  have I1:Inv X pins σ H { s with heap:=h' }:=I.turned (t':=s.toks) (λb o hb e=>(sb.2 b hb).trans e) f0 f1 f3 f4 f5
  obtain ⟨o,e,c,d⟩:=id st'
  exact ⟨u,rfl,go_of (s:={ s with heap:=h' }) e c d (by decide) ⟨x,H,I1,ru,⟨rfl,λys hy=>by rw [I.list_inj hy hq];exact hx⟩,st',λb hb=>(hf b hb).1⟩⟩
 done:=by
  intro X hP hw hK hc i pins s σ H E I hf st hg
  subst hP hw hK
  obtain ⟨xs,hq,hx⟩:=hg
  obtain ⟨its,rv,p,hz⟩:=I.list hq
  obtain ⟨f0,f1,f2,f3,f4,f5⟩:=hf it (by simp)
  have hl:=rv.length
  exact wpAny_pyNext_list_end (I.ok.hd hc) st p.isList (by simp;omega) λh' eb=>⟨rfl,I.turned (t':=s.toks) (λb o hb e=>eb b o hb e) f0 f1 f3 f4 f5⟩
 self:=λ_ _ _ _ _ st h=>wpAny_pyIter_listiter st h
theorem turn_tuple {P:Program}{w:World}{K:PySem.W.Frag}{tg:Expr} (a it:Addr):Turn P w K tg (Itt K a) [it] it (λi h=>h.IsTupleIter it a i) where
 mem:=by simp
 obj:=λi h st b hb=>by
  have e:b=it:=by simpa using hb
  subst e
  obtain ⟨o,e,c,d⟩:=st
  exact ⟨o,e,λv z=>by rw [d] at z;cases z⟩
 keep:=λi h h' st k=>st.at λo e=>k it (by simp) o e
 item:=by
  intro X hP hw hK hc i pins s σ H E I hf st hg
  subst hP hw hK
  obtain ⟨xs,x,hq,hx⟩:=hg
  obtain ⟨its,rv,p,hz⟩:=I.tuple hq
  obtain ⟨u,hu,ru⟩:=rv.get hx
  obtain ⟨f0,f1,f2,f3,f4,f5⟩:=hf it (by simp)
  refine wpAny_pyNext_tuple_item st (show s.heap.IsTuple a its.toArray from p) (x:=u) (by simpa using hu) λh' st' sb=>?_
  have I1:Inv X pins σ H { s with heap:=h' }:=I.turned (t':=s.toks) (λb o hb e=>(sb.2 b hb).trans e) f0 f1 f3 f4 f5
  obtain ⟨o,e,c,d⟩:=id st'
  exact ⟨u,rfl,go_of (s:={ s with heap:=h' }) e c d (by decide) ⟨x,H,I1,ru,⟨rfl,λys hy=>by rw [I.tuple_inj hy hq];exact hx⟩,st',λb hb=>(hf b hb).1⟩⟩
 done:=by
  intro X hP hw hK hc i pins s σ H E I hf st hg
  subst hP hw hK
  obtain ⟨xs,hq,hx⟩:=hg
  obtain ⟨its,rv,p,hz⟩:=I.tuple hq
  obtain ⟨f0,f1,f2,f3,f4,f5⟩:=hf it (by simp)
  have hl:=rv.length
  exact wpAny_pyNext_tuple_end (I.ok.hd hc) st (show s.heap.IsTuple a its.toArray from p) (by simp;omega) λh' eb=>⟨rfl,I.turned (t':=s.toks) (λb o hb e=>eb b o hb e) f0 f1 f3 f4 f5⟩
 self:=λ_ _ _ _ _ st h=>wpAny_pyIter_tupleiter st h
theorem turn_range {P:Program}{w:World}{K:PySem.W.Frag}{tg:Expr} (it:Addr) (lo:Int) (n:Nat):Turn P w K tg (Itr lo n) [it] it (λi h=>IsRangeIter h it (lo+(i:Nat) * 1) ((n:Int)-(i:Nat)) 1) where
 mem:=by simp
 obj:=λi h st b hb=>by
  have e:b=it:=by simpa using hb
  subst e
  exact ⟨_,st,λv z=>by
   have z':Data.fields _=Data.cell v:=z
   cases z'⟩
 keep:=λi h h' st k=>k it (by simp) _ st
 item:=by
  intro X hP hw hK hc i pins s σ H E I hf st hg
  subst hP hw hK
  obtain ⟨f0,f1,f2,f3,f4,f5⟩:=hf it (by simp)
  have W:=Walks.range (prog:=X.prog) (w:=X.w) (I.ok.hd hc) it lo 1 n
  refine W.item i s _ _ hg st λv h' tk hv st' kk=>?_
  obtain ⟨t,rfl⟩:=hv
  have I1:Inv X pins σ H { s with heap:=h',toks:=tk }:=I.turned (λb o hb e=>kk b o (by simpa using hb) e) f0 f1 f3 f4 f5
  refine ⟨_,rfl,go_of (s:={ s with heap:=h',toks:=tk }) (n:="range_iterator") st' rfl rfl (by decide) ⟨.int (lo+i),H,I1,⟨t,?_⟩,⟨rfl,rfl⟩,st',λb hb=>(hf b hb).1⟩⟩
  rw [Int.mul_one]
 done:=by
  intro X hP hw hK hc i pins s σ H E I hf st hg
  subst hP hw hK
  obtain ⟨f0,f1,f2,f3,f4,f5⟩:=hf it (by simp)
  exact wpAny_pyNext_range_end (I.ok.hd hc) st (by have:n<=i:=hg;omega) λh' eb=>⟨rfl,I.turned (t':=s.toks) (λb o hb e=>eb b o hb e) f0 f1 f3 f4 f5⟩
 self:=λ_ _ _ _ _ st h=>wpAny_pyIter_rangeiter st h
end L2
namespace L2
open PySem PySem.Spec PyProof.Rows
section
variable {X:Cx}{tg:Expr}
def iList (K:PySem.W.Frag) (tl:TE):TI:=fun σ H R=>tl σ H λx H1=>∃ a,x=.ref a/\(∃ xs,SqL K H1 a xs)/\R (Itl K a) H1
def iTup (K:PySem.W.Frag) (tl:TE):TI:=fun σ H R=>tl σ H λx H1=>∃ a,x=.ref a/\(∃ xs,SqT K H1 a xs)/\R (Itt K a) H1
theorem pi_list {l:Expr}{tl:TE} (hl:PE X l tl):PI X tg l (iList X.K tl):=by
 intro pins s σ H R I h
 refine thn (hl pins s σ H _ I h) λv s1 ⟨x,H1,I1,r1,q1⟩=>?_
 obtain ⟨a,e,⟨xs,hq⟩,q⟩:=q1
 subst e
 cases r1
 obtain ⟨its,rv,p,hz⟩:=I1.list hq
 refine wpAny_pyIter_list p.isList ?_
 refine ⟨s1.heap.objs.size,[s1.heap.objs.size],_,_,H1,rfl,I1.kept (t':=s1.toks) λb o e=>Heap.get?_push_of_some _ e,turn_list a _,⟨_,Heap.get?_push_size _ rfl,rfl,rfl⟩,λb hb=>?_,q⟩
 have e:b=s1.heap.objs.size:=by simpa using hb
 subst e
 exact I1.fpOk (Nat.le_refl _) (I1.hok.fresh (Nat.le_refl _))
theorem pi_tup {l:Expr}{tl:TE} (hl:PE X l tl):PI X tg l (iTup X.K tl):=by
 intro pins s σ H R I h
 refine thn (hl pins s σ H _ I h) λv s1 ⟨x,H1,I1,r1,q1⟩=>?_
 obtain ⟨a,e,⟨xs,hq⟩,q⟩:=q1
 subst e
 cases r1
 obtain ⟨its,rv,p,hz⟩:=I1.tuple hq
 refine wpAny_pyIter_tuple (show s1.heap.IsTuple a its.toArray from p) ?_
 refine ⟨s1.heap.objs.size,[s1.heap.objs.size],_,_,H1,rfl,I1.kept (t':=s1.toks) λb o e=>Heap.get?_push_of_some _ e,turn_tuple a _,⟨_,Heap.get?_push_size _ rfl,rfl,rfl⟩,λb hb=>?_,q⟩
 have e:b=s1.heap.objs.size:=by simpa using hb
 subst e
 exact I1.fpOk (Nat.le_refl _) (I1.hok.fresh (Nat.le_refl _))
theorem range_it {pins:List (Addr×Obj)}{σ:St}{H:Hp}{s:Shared}{R:It->Hp->Prop}{E:Value->Shared->Prop}{lo hi:Int}{t u v:Tok}{tk:Nat} (I:Inv X pins σ H s) (h1:-(2 ^ 62)<=lo) (h2:lo<2 ^ 62) (h3:-(2 ^ 62)<=hi) (h4:hi<2 ^ 62)
  (q:R (Itr lo (hi-lo).toNat) H):wpAny (model X.prog X.w) X.A (pyIter (.ref s.heap.objs.size)) (PIE X pins σ tg R) E { s with heap:=s.heap.push { cls:=.type "range",data:=.fields #[.int lo t,.int hi u,.int 1 v] },toks:=tk }:=by
 refine wpAny_pyIter_range (IsRange.new ..) (small_one h1 h2 h3 h4) ?_
 have I1:Inv X pins σ H { s with heap:=s.heap.push { cls:=.type "range",data:=.fields #[.int lo t,.int hi u,.int 1 v] },toks:=tk }:=I.kept λb o e=>Heap.get?_push_of_some _ e
 refine ⟨(s.heap.push { cls:=.type "range",data:=.fields #[.int lo t,.int hi u,.int 1 v] }).objs.size,[(s.heap.push { cls:=.type "range",data:=.fields #[.int lo t,.int hi u,.int 1 v] }).objs.size],_,_,H,rfl,
  I1.kept (t':=tk) λb o e=>Heap.get?_push_of_some _ e,turn_range _ lo (hi-lo).toNat,?_,λb hb=>?_,q⟩
 ·have e1:lo+((0:Nat):Int) * 1=lo:=by simp
  have e2:(((hi-lo).toNat:Nat):Int)-((0:Nat):Int)=Builtin.Range.rangeSize lo hi 1:=by rw [rangeSize_one];split<;>omega
  show IsRangeIter _ _ (lo+((0:Nat):Int) * 1) ((((hi-lo).toNat:Nat):Int)-((0:Nat):Int)) 1
  rw [e1,e2]
  exact Heap.get?_push_size _ rfl
 ·have e:b=(s.heap.push { cls:=.type "range",data:=.fields #[.int lo t,.int hi u,.int 1 v] }).objs.size:=by simpa using hb
  subst e
  exact I1.fpOk (Nat.le_refl _) (I1.hok.fresh (Nat.le_refl _))
def iRng1 (ta:TA):TI:=fun σ H R=>ta σ H λvs H1=>∃ j:Int,vs=[.int j]/\-(2 ^ 62)<=j/\j<2 ^ 62/\R (Itr 0 j.toNat) H1
theorem pi_range1 {a:Expr}{ta:TA}{p pos:Pos} (hg:Gl X "range") (hm:X.mg "range"=none) (ha:PA X [a] ta) (hs:starEach [a] X.env=[(false,eval a X.env)]:=by rfl):PI X tg (.Call (.Name "range" p) [a] [] pos) (iRng1 ta):=by
 intro pins s σ H R I h
 refine Call_ (ld_blt I hg hm boot_range (PyProof.Rows.callWith_type1 (thn (ha pos pins s σ H _ I h) λus s1 ⟨vs,H1,I1,r1,q1⟩=>?_) hs rfl))
 obtain ⟨j,e,q1,q2,q⟩:=q1
 subst e
 cases r1 with
 |cons r rr=>
  cases rr
  obtain ⟨t,rfl⟩:=r
  exact call_range_1 (range_it I1 (by omega) (by omega) q1 q2 (by simpa using q))
def tFor (wi:TI) (g:TG) (tb:TS):TS:=λD σ H=>wi σ H λJ H1=>∃ W:Nat->Nat->St->Hp->Prop,(∃ m,W 0 m σ H1)/\∀ i m σ H,W i m σ H->
 (J.stop i H/\D.nx σ H)∨(J.go i H/\∃ N:St->Hp->Prop,(∀ σ' H',N σ' H'->∃ m',m'<m/\W (i+1) m' σ' H')/\∀ x H',J.yld i H x H'->g x σ H' fun σ2 H2=>tb { D with nx:=N,ct:=N,bk:=D.nx } σ2 H2)
def pinsAt (fp:List Addr) (h:Heap):List (Addr×Obj):=fp.filterMap λb=>(h.get? b).map λo=>(b,o)
theorem mem_pinsAt {fp:List Addr}{h:Heap}{b:Addr}{o:Obj} (hb:b∈fp) (e:h.get? b=some o):(b,o)∈pinsAt fp h:=List.mem_filterMap.mpr ⟨b,hb,by rw [e];rfl⟩
theorem of_pinsAt {fp:List Addr}{h:Heap}{p:Addr×Obj} (hp:p∈pinsAt fp h):p.1∈fp/\h.get? p.1=some p.2:=by
 obtain ⟨b,hb,e⟩:=List.mem_filterMap.mp hp
 cases q:h.get? b with
 |none=>rw [q] at e;cases e
 |some o=>
  rw [q] at e
  have e':(b,o)=p:=Option.some.inj e
  subst e'
  exact ⟨hb,q⟩
theorem Inv.pinned {pins:List (Addr×Obj)}{σ:St}{H:Hp}{s:Shared}{fp:List Addr} (I:Inv X pins σ H s) (hf:∀ b∈fp,FpOk X pins H b) (ho:∀ b∈fp,∃ o,s.heap.get? b=some o/\∀ v,o.data≠.cell v):Inv X (pins++pinsAt fp s.heap) σ H s:=
 I.pins_of λp hp=>(List.mem_append.mp hp).elim (λz=>I.pin p (List.mem_append_right _ z)) λz=>by
  obtain ⟨hb,e⟩:=of_pinsAt z
  obtain ⟨f0,f1,f2,_⟩:=hf p.1 hb
  obtain ⟨o,e',d⟩:=ho p.1 hb
  rw [e] at e';cases e'
  exact ⟨e,f0,f1,f2,d⟩
theorem Inv.unpinned {pins pl:List (Addr×Obj)}{σ:St}{H:Hp}{s:Shared} (I:Inv X (pins++pl) σ H s):Inv X pins σ H s:=I.pins_of λp hp=>I.pin p (List.mem_append_right _ (List.mem_append_left _ hp))
theorem ps_for {iter:Expr}{body:List Stmt}{wi:TI}{g:TG}{tb:TS}{pos:Pos} (hp:PassesOwn (model X.prog X.w) X.A X.env X.xe) (hc:X.calm=true) (hi:PI X tg iter wi) (hg:PG X tg g) (hb:PSs X body tb)
  (hs:∀ x,foldedSetIterable iter X.env x=pure x:=by intro _;rfl):PS X (.For tg iter body [] pos) (tFor wi g tb):=by
 intro pins s σ H D I h
 refine wpAny_For (thn (hi pins s σ H _ I h) λv s1 h1=>thn h1 λitv s2 h2=>?_) hs
 obtain ⟨it,fp,tn,J,H2,e,I2,T,st2,f2,W,⟨m0,w0⟩,turn⟩:=h2
 subst e
 have stat:∀ {H':Hp},(∀ b∈fp,H' b=none)->∀ b∈fp,FpOk X pins H' b:=λhn b hb=>⟨hn b hb,(f2 b hb).2⟩
 refine codeAny_forLoop_any (λn s'=>∃ i σ' H',Inv X pins σ' H' s'/\tn i s'.heap/\(∀ b∈fp,H' b=none)/\W i n σ' H') ?_ m0 ⟨0,σ,H2,I2,st2,λb hb=>(f2 b hb).1,w0⟩
 rintro n s3 ⟨i,σ3,H3,I3,st3,fr3,w3⟩
 rcases turn i n σ3 H3 w3 with ⟨stop,qn⟩|⟨go,N,hN,step⟩
 ·refine wpAny_passesOwn hp (thn (T.done X rfl rfl rfl hc i pins s3 σ3 H3 X.xe I3 (stat fr3) st3 stop) λr s4 ⟨hr,I4⟩=>?_)
  subst hr
  exact wpAny_execs_nil ⟨σ3,H3,I4,qn⟩
 ·refine wpAny_passesOwn hp (thn (T.item X rfl rfl rfl hc i pins s3 σ3 H3 X.xe I3 (stat fr3) st3 go) λr s4 ⟨u,hr,h4⟩=>?_)
  subst hr
  refine wpAny_passesOwn hp (thn h4 λ_ s5 ⟨x,H5,I5,r5,y5,st5,fr5⟩=>?_)
  have I5':=I5.pinned (stat fr5) (T.obj _ _ st5)
  refine wpAny_passesOwn hp (thn (hg _ s5 σ3 H5 x u _ I5' r5 (step x H5 y5)) λ_ s6 ⟨σ6,H6,I6,q6⟩=>?_)
  refine wpAny_passesOwn hp (thn (hb _ s6 σ6 H6 _ I6 q6) λf s7 q7=>?_)
  have again:∀ {σ7:St}{H7:Hp},Inv X (pins++pinsAt fp s5.heap) σ7 H7 s7->N σ7 H7->∃ m,m<n/\∃ i σ' H',Inv X pins σ' H' s7/\tn i s7.heap/\(∀ b∈fp,H' b=none)/\W i m σ' H':=λ{σ7 H7} I7 n7=>by
   obtain ⟨m',hm,w7⟩:=hN σ7 H7 n7
   refine ⟨m',hm,i+1,σ7,H7,I7.unpinned,T.keep _ _ _ st5 λb hb o e=>(I7.pin (b,o) (List.mem_append_right _ (List.mem_append_right _ (mem_pinsAt hb e)))).1,λb hb=>?_,w7⟩
   obtain ⟨o,e,d⟩:=T.obj _ _ st5 b hb
   exact (I7.pin (b,o) (List.mem_append_right _ (List.mem_append_right _ (mem_pinsAt hb e)))).2.1
  cases f with
  |next=>obtain ⟨σ7,H7,I7,n7⟩:=q7;exact again I7 n7
  |cont=>obtain ⟨σ7,H7,I7,n7⟩:=q7;exact again I7 n7
  |brk=>obtain ⟨σ7,H7,I7,q7⟩:=q7;exact ⟨σ7,H7,I7.unpinned,q7⟩
  |ret v=>obtain ⟨x7,σ7,H7,I7,r7,q7⟩:=q7;exact ⟨x7,σ7,H7,I7.unpinned,r7,q7⟩
end
theorem for_list {K:PySem.W.Frag}{a:Addr}{xs:List V}{g:TG}{tb:TS}{D:Ends}{σ:St}{H:Hp} (Pv:Nat->St->Hp->Prop) (h0:Pv 0 σ H) (hl:∀ i σ H,i<=xs.length->Pv i σ H->SqL K H a xs)
  (hs:∀ i x σ H,xs[i]?=some x->Pv i σ H->g x σ H fun σ2 H2=>tb { D with nx:=Pv (i+1),ct:=Pv (i+1),bk:=D.nx } σ2 H2) (hd:∀ σ H,Pv xs.length σ H->D.nx σ H) :
  ∃ W:Nat->Nat->St->Hp->Prop,(∃ m,W 0 m σ H)/\∀ i m σ H,W i m σ H->
   ((Itl K a).stop i H/\D.nx σ H)∨((Itl K a).go i H/\∃ N:St->Hp->Prop,(∀ σ' H',N σ' H'->∃ m',m'<m/\W (i+1) m' σ' H')/\∀ x H',(Itl K a).yld i H x H'->g x σ H' fun σ2 H2=>tb { D with nx:=N,ct:=N,bk:=D.nx } σ2 H2):=by
 refine ⟨λi m σ H=>m=xs.length-i/\i<=xs.length/\Pv i σ H,⟨xs.length,by simp,Nat.zero_le _,h0⟩,?_⟩
 rintro i m σ H ⟨rfl,hi,p⟩
 have q:=hl i σ H hi p
 by_cases hlt:i<xs.length
 ·refine .inr ⟨⟨xs,xs[i],q,by simp [hlt]⟩,Pv (i+1),fun σ' H' p'=>⟨xs.length-(i+1),by omega,rfl,hlt,p'⟩,λx H' y=>?_⟩
  obtain ⟨e,y⟩:=y
  subst e
  exact hs i x σ _ (y xs q) p
 ·have e:i=xs.length:=by omega
  subst e
  exact .inl ⟨⟨xs,q,Nat.le_refl _⟩,hd σ H p⟩
theorem for_range {lo:Int}{n:Nat}{g:TG}{tb:TS}{D:Ends}{σ:St}{H:Hp} (Pv:Nat->St->Hp->Prop) (h0:Pv 0 σ H)
  (hs:∀ i σ H,i<n->Pv i σ H->g (.int (lo+i)) σ H fun σ2 H2=>tb { D with nx:=Pv (i+1),ct:=Pv (i+1),bk:=D.nx } σ2 H2) (hd:∀ σ H,Pv n σ H->D.nx σ H) :
  ∃ W:Nat->Nat->St->Hp->Prop,(∃ m,W 0 m σ H)/\∀ i m σ H,W i m σ H->
   ((Itr lo n).stop i H/\D.nx σ H)∨((Itr lo n).go i H/\∃ N:St->Hp->Prop,(∀ σ' H',N σ' H'->∃ m',m'<m/\W (i+1) m' σ' H')/\∀ x H',(Itr lo n).yld i H x H'->g x σ H' fun σ2 H2=>tb { D with nx:=N,ct:=N,bk:=D.nx } σ2 H2):=by
 refine ⟨λi m σ H=>m=n-i/\i<=n/\Pv i σ H,⟨n,by simp,Nat.zero_le _,h0⟩,?_⟩
 rintro i m σ H ⟨rfl,hi,p⟩
 by_cases hlt:i<n
 ·refine .inr ⟨hlt,Pv (i+1),fun σ' H' p'=>⟨n-(i+1),by omega,rfl,hlt,p'⟩,λx H' y=>?_⟩
  obtain ⟨e,y⟩:=y
  subst e y
  exact hs i σ _ hlt p
 ·have e:i=n:=by omega
  subst e
  exact .inl ⟨Nat.le_refl _,hd σ H p⟩
theorem while_by {c:TT}{tb:TS}{D:Ends}{σ:St}{H:Hp} (Pv:St->Hp->Prop) (μ:St->Hp->Nat) (h0:Pv σ H)
  (hs:∀ σ H,Pv σ H->c σ H λb H1=>if b=true then tb { D with nx:=fun σ' H'=>Pv σ' H'/\μ σ' H' < μ σ H,ct:=fun σ' H'=>Pv σ' H'/\μ σ' H' < μ σ H,bk:=D.nx } σ H1 else D.nx σ H1)
  (mono:∀ σ H Q Q',(∀ b H1,Q b H1->Q' b H1)->c σ H Q->c σ H Q'):tWhile c tb D σ H:=by
 refine ⟨λm σ H=>m=μ σ H/\Pv σ H,⟨_,rfl,h0⟩,?_⟩
 rintro m σ H ⟨rfl,p⟩
 refine mono σ H _ _ (λb H1 q=>?_) (hs σ H p)
 cases b with
 |true=>exact ⟨_,fun σ' H' ⟨p',l⟩=>⟨_,l,rfl,p'⟩,q⟩
 |false=>exact q
end L2
namespace L2
open PySem PySem.Spec PyProof.Rows
abbrev R2:=V->V->Hp->VK->Prop
def OpR (X:Cx) (f:Value->Value->Sem Value) (r:R2):Prop:=
 ∀ (pins:List (Addr×Obj)) (s:Shared) (σ:St) (H:Hp) (x y:V) (v u:Value) (Q:VK),Inv X pins σ H s->RelV x v->RelV y u->r x y H Q->
  wpAny (model X.prog X.w) X.A (f v u) (EP X pins σ Q) X.xe s
def UnR (X:Cx) (f:Value->Sem Value) (r:V->Hp->VK->Prop):Prop:=
 ∀ (pins:List (Addr×Obj)) (s:Shared) (σ:St) (H:Hp) (x:V) (v:Value) (Q:VK),Inv X pins σ H s->RelV x v->r x H Q->
  wpAny (model X.prog X.w) X.A (f v) (EP X pins σ Q) X.xe s
def CallR (X:Cx) (f:Value) (r:List V->Hp->VK->Prop):Prop:=
 ∀ (pins:List (Addr×Obj)) (s:Shared) (σ:St) (H:Hp) (xs:List V) (us:List Value) (Q:VK),Inv X pins σ H s->Vals xs us->r xs H Q->
  wpAny (model X.prog X.w) X.A (call f us) (EP X pins σ Q) X.xe s
def tOp (r:R2) (ta tb:TE):TE:=fun σ H Q=>ta σ H λx H1=>tb σ H1 λy H2=>r x y H2 Q
def tUn (r:V->Hp->VK->Prop) (ta:TE):TE:=fun σ H Q=>ta σ H λx H1=>r x H1 Q
def rI (C:Int->Int->Prop) (g:Int->Int->V):R2:=λx y H Q=>∃ i j,x=.int i/\y=.int j/\C i j/\Q (g i j) H
def rI0 (g:Int->Int->V):R2:=λx y H Q=>∃ i j,x=.int i/\y=.int j/\Q (g i j) H
def rU (g:Int->V):V->Hp->VK->Prop:=λx H Q=>∃ i,x=.int i/\Q (g i) H
section
variable {X:Cx}{a b c:Expr}{ta tb tc:TE}{pos:Pos}
theorem binT (ha:PE X a ta) (hb:PE X b tb) {pins:List (Addr×Obj)}{s:Shared}{σ:St}{H:Hp}{R:V->V->Hp->Prop} (I:Inv X pins σ H s)
  (h:ta σ H λx H1=>tb σ H1 λy H2=>R x y H2) {Q:Value->Shared->Prop}{f:Value->Value->Sem Value}
  (hf:∀ v u s2 x y H2,Inv X pins σ H2 s2->RelV x v->RelV y u->R x y H2->wpAny (model X.prog X.w) X.A (f v u) Q X.xe s2) :
  wpAny (model X.prog X.w) X.A (eval a X.env) (λv s₁=>wpAny (model X.prog X.w) X.A (eval b X.env) (λu s₂=>wpAny (model X.prog X.w) X.A (f v u) Q X.xe s₂) X.xe s₁) X.xe s:=by
 refine thn (ha pins s σ H _ I h) λv s1 ⟨x,H1,I1,r1,q1⟩=>?_
 refine thn (hb pins s1 σ H1 _ I1 q1) λu s2 ⟨y,H2,I2,r2,q2⟩=>?_
 exact hf v u s2 x y H2 I2 r1 r2 q2
theorem pe_op {op:Operator}{r:R2} (ho:OpR X (binaryOp op) r) (ha:PE X a ta) (hb:PE X b tb):PE X (.BinOp a op b pos) (tOp r ta tb):=by
 intro pins s σ H Q I h
 exact wpAny_BinOp (binT ha hb I h λv u s2 x y H2 I2 rx ry q=>ho pins s2 σ H2 x y v u Q I2 rx ry q)
theorem pe_un {op:UnaryOp}{r:V->Hp->VK->Prop} (ho:UnR X (unaryOp op) r) (ha:PE X a ta):PE X (.UnaryOp op a pos) (tUn r ta):=by
 intro pins s σ H Q I h
 exact UnaryOp_ (thn (ha pins s σ H _ I h) λv s1 ⟨x,H1,I1,r1,q1⟩=>ho pins s1 σ H1 x v Q I1 r1 q1)
theorem opI {f:Value->Value->Sem Value}{C:Int->Int->Prop}{g:Int->Int->Int}
  (rule:∀ (i j:Int) (t u:Tok) (s:Shared) (Q:Value->Shared->Prop) (E:Value->Shared->Prop),C i j->Q (.int (g i j) s.toks) { s with toks:=s.toks+1 }->wpAny (model X.prog X.w) X.A (f (.int i t) (.int j u)) Q E s) :
  OpR X f (rI C λi j=>.int (g i j)):=by
 intro pins s σ H x y v u Q I rx ry h
 obtain ⟨i,j,rfl,rfl,hc,q⟩:=h
 obtain ⟨t,rfl⟩:=rx
 obtain ⟨t',rfl⟩:=ry
 exact rule i j t t' s _ _ hc ⟨.int (g i j),H,I.tok _,⟨_,rfl⟩,q⟩
theorem opI0 {f:Value->Value->Sem Value}{g:Int->Int->Int}
  (rule:∀ (i j:Int) (t u:Tok) (s:Shared) (Q:Value->Shared->Prop) (E:Value->Shared->Prop),Q (.int (g i j) s.toks) { s with toks:=s.toks+1 }->wpAny (model X.prog X.w) X.A (f (.int i t) (.int j u)) Q E s) :
  OpR X f (rI0 λi j=>.int (g i j)):=by
 intro pins s σ H x y v u Q I rx ry h
 obtain ⟨i,j,rfl,rfl,q⟩:=h
 obtain ⟨t,rfl⟩:=rx
 obtain ⟨t',rfl⟩:=ry
 exact rule i j t t' s _ _ ⟨.int (g i j),H,I.tok _,⟨_,rfl⟩,q⟩
theorem opB0 {f:Value->Value->Sem Value}{g:Int->Int->Bool}
  (rule:∀ (i j:Int) (t u:Tok) (s:Shared) (Q:Value->Shared->Prop) (E:Value->Shared->Prop),Q (.bool (g i j)) s->wpAny (model X.prog X.w) X.A (f (.int i t) (.int j u)) Q E s) :
  OpR X f (rI0 λi j=>.bl (g i j)):=by
 intro pins s σ H x y v u Q I rx ry h
 obtain ⟨i,j,rfl,rfl,q⟩:=h
 obtain ⟨t,rfl⟩:=rx
 obtain ⟨t',rfl⟩:=ry
 exact rule i j t t' s _ _ ⟨.bl (g i j),H,I,rfl,q⟩
def CDiv (i j:Int):Prop:=0<j/\j<1073741824
def CPow (i j:Int):Prop:=0<=j/\j<=1000000/\i.natAbs<2 ^ 64
def CMul (i j:Int):Prop:=(-(2 ^ 64)<i/\i<2 ^ 64)∨(-(2 ^ 64)<j/\j<2 ^ 64)
theorem CMul.ok {i j:Int} (h:CMul i j):IntMulOk i j:=by
 rcases h with ⟨h1,h2⟩|⟨h1,h2⟩
 ·exact .of_left (intBits_le_64 h1 h2)
 ·exact .of_right (intBits_le_64 h1 h2)
theorem op_add:OpR X (binaryOp .Add) (rI0 λi j=>.int (i+j)):=opI0 λ_ _ _ _ _ _ _ q=>add_int q
theorem op_sub:OpR X (binaryOp .Sub) (rI0 λi j=>.int (i-j)):=opI0 λ_ _ _ _ _ _ _ q=>sub_int q
theorem op_mul:OpR X (binaryOp .Mult) (rI CMul λi j=>.int (i * j)):=opI λ_ _ _ _ _ _ _ hc q=>mul_int q hc.ok
theorem op_fdiv:OpR X (binaryOp .FloorDiv) (rI CDiv λi j=>.int (i / j)):=opI λi j _ _ _ _ _ hc q=>by
 have h1:(0:Int)<j:=hc.1
 have h2:j<1073741824:=hc.2
 exact floordiv_int (by omega) (by rw [Int.fdiv_eq_ediv_of_nonneg i (by omega)];exact q) (.inl (PyProof.noPylong_small (by omega)))
theorem op_mod:OpR X (binaryOp .Mod) (rI (λ_ j=>0<j) λi j=>.int (i % j)):=opI λi j _ _ _ _ _ hc q=>by
 have h1:(0:Int)<j:=hc
 exact mod_int' (by omega) (by rw [Int.fmod_eq_emod_of_nonneg i (by omega)];exact q)
theorem op_pow:OpR X (binaryOp .Pow) (rI CPow λi j=>.int (i ^ j.toNat)):=opI λ_ _ _ _ _ _ _ hc q=>pow_int_small hc.1 hc.2.1 hc.2.2 q
theorem unI {f:Value->Sem Value}{g:Int->Int}
  (rule:∀ (i:Int) (t:Tok) (s:Shared) (Q:Value->Shared->Prop) (E:Value->Shared->Prop),Q (.int (g i) s.toks) { s with toks:=s.toks+1 }->wpAny (model X.prog X.w) X.A (f (.int i t)) Q E s) :
  UnR X f (rU λi=>.int (g i)):=by
 intro pins s σ H x v Q I rx h
 obtain ⟨i,rfl,q⟩:=h
 obtain ⟨t,rfl⟩:=rx
 exact rule i t s _ _ ⟨.int (g i),H,I.tok _,⟨_,rfl⟩,q⟩
theorem un_neg:UnR X (unaryOp .USub) (rU λi=>.int (-i)):=unI λ_ _ _ _ _ q=>neg_int q
end
def scal:V->V->Bool
 | .non,.non=>true | .non,.int _=>true | .int _,.non=>true | .non,.bl _=>true | .bl _,.non=>true | .non,.str _=>true | .str _,.non=>true
 | .int _,.int _=>true | .bl _,.bl _=>true | .str _,.str _=>true | .byt _,.byt _=>true
 | .int _,.str _=>true | .str _,.int _=>true | .bl _,.str _=>true | .str _,.bl _=>true
 |_,_=>false
def rEq:R2:=λx y H Q=>scal x y=true/\Q (.bl (decide (x=y))) H
def rNe:R2:=λx y H Q=>scal x y=true/\Q (.bl (!decide (x=y))) H
theorem dec_int {i j:Int}:decide (V.int i=V.int j)=(i == j):=by
 rw [Bool.eq_iff_iff]
 simp
theorem dec_bl {i j:Bool}:decide (V.bl i=V.bl j)=(i == j):=by
 rw [Bool.eq_iff_iff]
 simp
theorem dec_str {i j:Str}:decide (V.str i=V.str j)=(i == j):=by
 rw [Bool.eq_iff_iff]
 simp
theorem dec_byt {i j:Array UInt8}:decide (V.byt i=V.byt j)=(i.toList == j.toList):=by
 rw [Bool.eq_iff_iff]
 cases i
 cases j
 simp
section
variable {X:Cx}{a b c:Expr}{ta tb tc:TE}{pos:Pos}
theorem fin_bl {pins:List (Addr×Obj)}{σ:St}{H:Hp}{s:Shared}{Q:VK}{k k':Bool} (I:Inv X pins σ H s) (q:Q (.bl k) H) (e:k=k'):EP X pins σ Q (.bool k') s:=by
 subst e
 exact ⟨.bl k,H,I,rfl,q⟩
theorem op_eq:OpR X (compareOp .Eq) rEq:=by
 intro pins s σ H x y v u Q I rx ry h
 obtain ⟨hs,q⟩:=h
 cases x with
 |non=>
  cases rx
  cases y with
  |non=>cases ry;exact PySem.EqNone.eq_none_none (fin_bl I q (by simp))
  |bl j=>cases ry;exact PySem.EqNone.eq_none_bool (fin_bl I q (by simp))
  |int j=>obtain ⟨t',rfl⟩:=ry;exact PySem.EqNone.eq_none_int (fin_bl I q (by simp))
  |str j=>obtain ⟨t',rfl⟩:=ry;exact PySem.EqNone.eq_none_str (fin_bl I q (by simp))
  |_=>exact absurd (show false=true from hs) Bool.false_ne_true
 |bl i=>
  cases rx
  cases y with
  |non=>cases ry;exact PySem.EqNone.eq_bool_none (fin_bl I q (by simp))
  |bl j=>cases ry;exact eq_bool (fin_bl I q dec_bl)
  |str j=>obtain ⟨t',rfl⟩:=ry;exact PySem.EqMixed.eq_bool_str (fin_bl I q (by simp))
  |_=>exact absurd (show false=true from hs) Bool.false_ne_true
 |int i=>
  obtain ⟨t,rfl⟩:=rx
  cases y with
  |non=>cases ry;exact PySem.EqNone.eq_int_none (fin_bl I q (by simp))
  |int j=>obtain ⟨t',rfl⟩:=ry;exact eq_int (fin_bl I q dec_int)
  |str j=>obtain ⟨t',rfl⟩:=ry;exact PySem.EqMixed.eq_int_str (fin_bl I q (by simp))
  |_=>exact absurd (show false=true from hs) Bool.false_ne_true
 |str i=>
  obtain ⟨t,rfl⟩:=rx
  cases y with
  |non=>cases ry;exact PySem.EqNone.eq_str_none (fin_bl I q (by simp))
  |bl j=>cases ry;exact PySem.EqMixed.eq_str_bool (fin_bl I q (by simp))
  |int j=>obtain ⟨t',rfl⟩:=ry;exact PySem.EqMixed.eq_str_int (fin_bl I q (by simp))
  |str j=>obtain ⟨t',rfl⟩:=ry;exact eq_str (fin_bl I q dec_str)
  |_=>exact absurd (show false=true from hs) Bool.false_ne_true
 |byt i=>
  obtain ⟨t,rfl⟩:=rx
  cases y with
  |byt j=>obtain ⟨t',rfl⟩:=ry;exact PySem.W.eq_bytes (fin_bl I q dec_byt)
  |_=>exact absurd (show false=true from hs) Bool.false_ne_true
 |_=>cases y<;>exact absurd (show false=true from hs) Bool.false_ne_true
theorem op_ne:OpR X (compareOp .NotEq) rNe:=by
 intro pins s σ H x y v u Q I rx ry h
 obtain ⟨hs,q⟩:=h
 cases x with
 |non=>
  cases rx
  cases y with
  |non=>cases ry;exact PySem.EqNone.ne_none_none (fin_bl I q (by simp))
  |bl j=>cases ry;exact PySem.EqNone.ne_none_bool (fin_bl I q (by simp))
  |int j=>obtain ⟨t',rfl⟩:=ry;exact PySem.EqNone.ne_none_int (fin_bl I q (by simp))
  |str j=>obtain ⟨t',rfl⟩:=ry;exact PySem.EqNone.ne_none_str (fin_bl I q (by simp))
  |_=>exact absurd (show false=true from hs) Bool.false_ne_true
 |bl i=>
  cases rx
  cases y with
  |non=>cases ry;exact PySem.EqNone.ne_bool_none (fin_bl I q (by simp))
  |bl j=>cases ry;exact ne_bool (fin_bl I q (congrArg not dec_bl))
  |str j=>obtain ⟨t',rfl⟩:=ry;exact PySem.EqMixed.ne_bool_str (fin_bl I q (by simp))
  |_=>exact absurd (show false=true from hs) Bool.false_ne_true
 |int i=>
  obtain ⟨t,rfl⟩:=rx
  cases y with
  |non=>cases ry;exact PySem.EqNone.ne_int_none (fin_bl I q (by simp))
  |int j=>obtain ⟨t',rfl⟩:=ry;exact ne_int (fin_bl I q (congrArg not dec_int))
  |str j=>obtain ⟨t',rfl⟩:=ry;exact PySem.EqMixed.ne_int_str (fin_bl I q (by simp))
  |_=>exact absurd (show false=true from hs) Bool.false_ne_true
 |str i=>
  obtain ⟨t,rfl⟩:=rx
  cases y with
  |non=>cases ry;exact PySem.EqNone.ne_str_none (fin_bl I q (by simp))
  |bl j=>cases ry;exact PySem.EqMixed.ne_str_bool (fin_bl I q (by simp))
  |int j=>obtain ⟨t',rfl⟩:=ry;exact PySem.EqMixed.ne_str_int (fin_bl I q (by simp))
  |str j=>obtain ⟨t',rfl⟩:=ry;exact ne_str (fin_bl I q (congrArg not dec_str))
  |_=>exact absurd (show false=true from hs) Bool.false_ne_true
 |byt i=>
  obtain ⟨t,rfl⟩:=rx
  cases y with
  |byt j=>obtain ⟨t',rfl⟩:=ry;exact PySem.W.ne_bytes (fin_bl I q (congrArg not dec_byt))
  |_=>exact absurd (show false=true from hs) Bool.false_ne_true
 |_=>cases y<;>exact absurd (show false=true from hs) Bool.false_ne_true
theorem op_lt:OpR X (compareOp .Lt) (rI0 λi j=>.bl (decide (i<j))):=opB0 λ_ _ _ _ _ _ _ q=>lt_int q
theorem op_le:OpR X (compareOp .LtE) (rI0 λi j=>.bl (decide (i<=j))):=opB0 λ_ _ _ _ _ _ _ q=>le_int q
theorem op_gt:OpR X (compareOp .Gt) (rI0 λi j=>.bl (decide (j<i))):=opB0 λ_ _ _ _ _ _ _ q=>gt_int q
theorem op_ge:OpR X (compareOp .GtE) (rI0 λi j=>.bl (decide (j<=i))):=opB0 λ_ _ _ _ _ _ _ q=>ge_int q
theorem nomark (b:Expr) {op:CmpOp} (h:op≠.In:=by decide) (h2:op≠.NotIn:=by decide):behindInMarks op b=false:=by
 have e1:(op == CmpOp.In)=false:=by cases op<;>first|rfl|exact absurd rfl h
 have e2:(op == CmpOp.NotIn)=false:=by cases op<;>first|rfl|exact absurd rfl h2
 cases b<;>simp [behindInMarks,e1,e2]
theorem pe_cmpR {op:CmpOp}{r:R2} (ho:OpR X (compareOp op) r) (ha:PE X a ta) (hb:PE X b tb) (hm:behindInMarks op b=false):PE X (.Compare a [op] [b] pos) (tOp r ta tb):=by
 intro pins s σ H Q I h
 exact wpAny_Compare1 (binT ha hb I h λv u s2 x y H2 I2 rx ry q=>ho pins s2 σ H2 x y v u Q I2 rx ry q) hm
def tTest (t:TE):TT:=fun σ H Q=>t σ H λx H'=>∃ k,x=.bl k/\Q k H'
theorem pt_cmpR {op:CmpOp}{r:R2} (ho:OpR X (compareOp op) r) (ha:PE X a ta) (hb:PE X b tb) (hm:behindInMarks op b=false):PT X (.Compare a [op] [b] pos) (tTest (tOp r ta tb)):=by
 intro pins s σ H Q I h
 refine wpAny_isTrue_Compare1 (thn (ha pins s σ H _ I h) λv s1 ⟨x,H1,I1,r1,q1⟩=>thn (hb pins s1 σ H1 _ I1 q1) λu s2 ⟨y,H2,I2,r2,q2⟩=>
  thn (ho pins s2 σ H2 x y v u _ I2 r1 r2 q2) λc s3 ⟨z,H3,I3,r3,k,e,q3⟩=>?_) hm
 subst e
 cases r3
 exact wpAny_truthy_bool ⟨H3,I3,q3⟩
def tChain (r r':R2) (ta tb tc:TE):TE:=fun σ H Q=>ta σ H λx H1=>tb σ H1 λy H2=>r x y H2 λz H3=>∃ k,z=.bl k/\
 (if k=true then tc σ H3 λw' H4=>r' y w' H4 Q else Q (.bl false) H3)
theorem pt_chain {op op':CmpOp}{r r':R2} (ho:OpR X (compareOp op) r) (ho':OpR X (compareOp op') r') (ha:PE X a ta) (hb:PE X b tb) (hc:PE X c tc)
  (hm:lastMarks [op,op'] [b,c]=false:=by with_unfolding_all rfl):PT X (.Compare a [op,op'] [b,c] pos) (tTest (tChain r r' ta tb tc)):=by
 intro pins s σ H Q I h
 refine isTrue_chain (thn (ha pins s σ H _ I h) λv s1 ⟨x,H1,I1,r1,q1⟩=>test_link (thn (hb pins s1 σ H1 _ I1 q1) λu s2 ⟨y,H2,I2,r2,q2⟩=>
  thn (ho pins s2 σ H2 x y v u _ I2 r1 r2 q2) λd s3 ⟨z,H3,I3,r3,k,e,q3⟩=>?_)) hm
 subst e
 cases r3
 refine wpAny_truthy_bool ?_
 cases k with
 |false=>
  obtain ⟨k',e',q'⟩:=q3
  cases e'
  exact ite_ff ⟨H3,I3,q'⟩
 |true=>
  refine ite_tt (test_last (thn (hc pins s3 σ H3 _ I3 q3) λw' s4 ⟨z',H4,I4,r4,q4⟩=>thn (ho' pins s4 σ H4 y z' u w' _ I4 r2 r4 q4) λd' s5 ⟨z2,H5,I5,r5,k2,e2,q5⟩=>?_))
  subst e2
  cases r5
  exact wpAny_truthy_bool ⟨H5,I5,q5⟩
theorem line63:(sizeLine:Nat)<2 ^ 63:=by rw [sizeLine_eq];decide
theorem op_add_str:OpR X (binaryOp .Add) (λx y H Q=>∃ i j,x=.str i/\y=.str j/\i.length+j.length<=sizeLine/\Q (.str (i++j)) H):=by
 intro pins s σ H x y v u Q I rx ry h
 obtain ⟨i,j,rfl,rfl,hz,q⟩:=h
 obtain ⟨t,rfl⟩:=rx
 obtain ⟨t',rfl⟩:=ry
 exact add_str (λt' tk=>⟨.str (i++j),H,I.tok _,⟨_,rfl⟩,q⟩) hz
theorem vals1 {x:V}{us:List Value} (r:Vals [x] us):∃ u,us=[u]/\RelV x u:=by
 cases r with
 |cons r1 r2=>cases r2;exact ⟨_,rfl,r1⟩
theorem vals2 {x y:V}{us:List Value} (r:Vals [x,y] us):∃ u w',us=[u,w']/\RelV x u/\RelV y w':=by
 cases r with
 |cons r1 r2=>
  cases r2 with
  |cons r3 r4=>cases r4;exact ⟨_,_,rfl,r1,r3⟩
theorem call_max2 (hc:X.calm=true):CallR X (.builtin "max") (λxs H Q=>∃ i j,xs=[.int i,.int j]/\Q (.int (if j > i then j else i)) H):=by
 intro pins s σ H xs us Q I r h
 obtain ⟨i,j,rfl,q⟩:=h
 obtain ⟨u,w',rfl,⟨t,rfl⟩,⟨t',rfl⟩⟩:=vals2 r
 refine max_two_ints (I.ok.hd hc) λh' tk k=>⟨_,H,I.kept k,?_,q⟩
 by_cases hj:j > i
 ·rw [if_pos hj,if_pos hj];exact ⟨_,rfl⟩
 ·rw [if_neg hj,if_neg hj];exact ⟨_,rfl⟩
theorem call_min2 (hc:X.calm=true):CallR X (.builtin "min") (λxs H Q=>∃ i j,xs=[.int i,.int j]/\Q (.int (if j<i then j else i)) H):=by
 intro pins s σ H xs us Q I r h
 obtain ⟨i,j,rfl,q⟩:=h
 obtain ⟨u,w',rfl,⟨t,rfl⟩,⟨t',rfl⟩⟩:=vals2 r
 refine min_two_ints (I.ok.hd hc) λh' tk k=>⟨_,H,I.kept k,?_,q⟩
 by_cases hj:j<i
 ·rw [if_pos hj,if_pos hj];exact ⟨_,rfl⟩
 ·rw [if_neg hj,if_neg hj];exact ⟨_,rfl⟩
theorem call_int1:CallR X (.type "int") (λxs H Q=>(∃ i,xs=[.int i]/\Q (.int i) H)∨∃ k,xs=[.bl k]/\Q (.int (if k then 1 else 0)) H):=by
 intro pins s σ H xs us Q I r h
 rcases h with ⟨i,rfl,q⟩|⟨k,rfl,q⟩
 ·obtain ⟨u,rfl,t,rfl⟩:=vals1 r
  exact call_int_int ⟨.int i,H,I,⟨_,rfl⟩,q⟩
 ·obtain ⟨u,rfl,r1⟩:=vals1 r
  cases r1
  exact call_int_bool ⟨.int (if k then 1 else 0),H,I.tok _,⟨_,rfl⟩,q⟩
end
end L2
namespace L2
open PySem PySem.Spec PyProof.Rows
structure ObjM (h:Heap) (x dx C:Addr) (mA:Str->Option Value):Prop where
 obj:h.get? x=some (PySem.W.instObj C dx)
 ns:h.Ns1 dx mA
 ne:dx≠x
theorem lookIn_ns {h:Heap}{dx:Addr}{mA:Str->Option Value} (n:h.Ns1 dx mA):∃ od,h.get? dx=some od/\∀ name,PySem.W.lookIn name od=some (mA name):=by
 obtain ⟨o,es,ep,ho,hd,hk,_,hm⟩:=n
 refine ⟨o,ho,λname=>?_⟩
 have e:=hm name
 unfold nsFind findBy at e
 rw [<-Array.find?_toList] at e
 unfold PySem.W.lookIn
 rw [hd]
 dsimp only
 split
 ·rename_i y q
  rw [q] at e
  exact congrArg some e
 ·rename_i q
  rw [q] at e
  have a:es.toList.any (·.refKey)=false:=by
   rw [List.any_eq_false]
   intro y hy
   obtain ⟨z,t,hkey⟩:=hk y (Array.mem_toList_iff.mp hy)
   simp [DictEntry.refKey,hkey]
  have a':¬ es.toList.any (·.refKey)=true:=by rw [a];exact Bool.false_ne_true
  rw [if_neg a']
  exact congrArg some e
theorem ObjM.look {h:Heap}{x dx C:Addr}{mA:Str->Option Value} (I:ObjM h x dx C mA):∃ od,PySem.W.InstAt h x (PySem.W.instObj C dx) C (some od)/\∀ name,PySem.W.lookIn name od=some (mA name):=
 let ⟨od,ho,hl⟩:=lookIn_ns I.ns
 ⟨od,⟨I.obj,rfl,rfl,ho⟩,hl⟩
section
variable {prog:Program}{w:World}{A:Around}{E:Value->Shared->Prop}{s:Shared}{K:PySem.W.Frag}{x dx C f:Addr}{mA:Str->Option Value}{name:Str}{v:Value}
theorem get_map {expr:Bool}{Q:Value->Shared->Prop} (X:K.In s.heap) (I:ObjM s.heap x dx C mA) (hg:PySem.W.plainGet K C name=true) (hh:PySem.W.hasDictIn K C=true)
  (ha:PySem.W.findIn K (.ref C) name=some none) (hv:mA name=some v) (hv':PySem.W.handedIn v=true) (h:Q v { s with toks:=s.toks+1 }) :
  wpAny (model prog w) A (getAttr (.ref x) name expr) Q E s:=by
 obtain ⟨od,J,hl⟩:=I.look
 exact PySem.W.get_value X J (PySem.W.plainGet_of hg).1 (PySem.W.findObj_own hh ha rfl (by rw [hl,hv])) hv' h
theorem set_map {ns:List Str}{Q:Unit->Shared->Prop} (X:K.In s.heap) (I:ObjM s.heap x dx C mA)
  (hs:PySem.W.findIn K (.ref C) "__setattr__"=some (some (.builtin "object.__setattr__"))) (hp:PySem.W.plainOver K C=true) (ht:PySem.W.takerIn K C name=some none) (hh:PySem.W.hasDictIn K C=true)
  (hw:PySem.Within mA ns) (hsz:ns.length<=sizeLine)
  (h:∀ h',ObjM h' x dx C (λy=>if y=name then some v else mA y)->Heap.SameBut dx s.heap h'->Q () { s with heap:=h',toks:=s.toks+2 }) :
  wpAny (model prog w) A (setAttr (.ref x) name v) Q E s:=by
 obtain ⟨od,J,hl⟩:=I.look
 refine PySem.W.set_plain X J hs (PySem.W.osa_open (s:={ s with toks:=s.toks+1 }) (r:=none) X J hp ht λb=>?_)
 obtain ⟨cd,hc,hd'⟩:=PySem.W.any_some hh
 have hx:s.heap.get? x=some ⟨.ref C,some dx,.plain,#[]⟩:=I.obj
 refine wpAny_bind (wpAny_pure (wpAny_bind (wpAny_bind (wpAny_loadPart hx (wpAny_bind (PySem.W.Looks.here (s:={ s with toks:=s.toks+1 }) (PySem.W.looks_clsIn X hc) ?_))))))
 rw [hd']
 refine wpAny_pure (a:=some dx) (wpAny_bind (wpAny_pure (wpAny_bind ?_)))
 refine wpAny_nsSet1 (s:={ s with toks:=s.toks+1 }) I.ns λh' hn2 hs2=>?_
 obtain ⟨oD,esD,epD,hoD,hdD,hcD⟩:=hn2.count (PySem.Within.cons name v hw)
 refine wpAny_bind (wpAny_lookBehind hoD (by rw [hdD];exact pastItsLine_dict (Nat.le_trans hcD (by rw [List.length_cons];omega))) ?_)
 exact wpAny_pure (h _ ⟨(hs2.2 _ (Ne.symm I.ne)).trans I.obj,hn2,I.ne⟩ hs2)
theorem make_map {R:Result->Shared->Prop}{vs:List Value}{kw:List (Str×Value)} (X:K.In s.heap) (hm:PySem.W.makesIn K C=true)
  (hi:PySem.W.findIn K (.ref C) "__init__"=some (some (.ref f))) (hf:PySem.W.typeIn K (.ref f)=some (.type "function"))
  (h:codeAny (model prog w) (A.under (.builtin "type.__call__" ⟨.ref C::vs,kw⟩)) (.call (.ref f) ⟨.ref (s.heap.objs.size+1)::vs,kw⟩) (PySem.W.InitBack (s.heap.objs.size+1) R)
   { s with heap:=(s.heap.push PySem.W.emptyDict).push (PySem.W.instObj C s.heap.objs.size) }) :
  codeAny (model prog w) A (.call (.ref C) ⟨vs,kw⟩) R s:=by
 obtain ⟨hh,g,d,t,os⟩:=s
 exact PySem.W.make_core (PySem.W.makes_of X hm) (PySem.W.looks_findIn X hi) (λself=>PySem.W.bind_fn X self hf) (.inl rfl) h
end
def putF (f:Str) (v:V):List (Str×V)->List (Str×V)
 | []=>[(f,v)]
 |(g,x)::r=>if g=f then (g,v)::r else (g,x)::putF f v r
theorem lookup_putF (f g:Str) (v:V):∀ fs:List (Str×V),(putF f v fs).lookup g=if g=f then some v else fs.lookup g
 | []=>by
  show List.lookup g [(f,v)]=_
  by_cases h:g=f
  ·have hb:(g == f)=true:=beq_iff_eq.mpr h
   simp only [List.lookup,hb,if_pos h]
  ·have hb:(g == f)=false:=beq_eq_false_iff_ne.mpr h
   simp only [List.lookup,hb,if_neg h]
 |(k,x)::r=>by
  have ih:=lookup_putF f g v r
  rw [show putF f v ((k,x)::r)=(if k=f then (k,v)::r else (k,x)::putF f v r) from rfl]
  by_cases hk:k=f
  ·rw [if_pos hk]
   by_cases h:g=k
   ·have hb:(g == k)=true:=beq_iff_eq.mpr h
    simp only [List.lookup,hb,if_pos (h.trans hk)]
   ·have hb:(g == k)=false:=beq_eq_false_iff_ne.mpr h
    simp only [List.lookup,hb,if_neg (λe:g=f=>h (e.trans hk.symm))]
  ·rw [if_neg hk]
   by_cases h:g=k
   ·have hb:(g == k)=true:=beq_iff_eq.mpr h
    simp only [List.lookup,hb,if_neg (λe:g=f=>hk (h.symm.trans e))]
   ·have hb:(g == k)=false:=beq_eq_false_iff_ne.mpr h
    simp only [List.lookup,hb]
    exact ih
theorem keys_putF (f:Str) (v:V):∀ fs:List (Str×V),f∈(putF f v fs).map (·.1)/\∀ g,g∈fs.map (·.1)->g∈(putF f v fs).map (·.1)
 | []=>⟨by simp [putF],λg h=>by simp at h⟩
 |(k,x)::r=>by
  obtain ⟨i1,i2⟩:=keys_putF f v r
  rw [show putF f v ((k,x)::r)=(if k=f then (k,v)::r else (k,x)::putF f v r) from rfl]
  by_cases hk:k=f
  ·rw [if_pos hk]
   subst hk
   exact ⟨by simp,λg h=>by simpa using h⟩
  ·rw [if_neg hk]
   refine ⟨?_,λg h=>?_⟩
   ·rw [List.map_cons]
    exact List.mem_cons_of_mem _ i1
   ·rw [List.map_cons] at h ⊢
    rcases List.mem_cons.mp h with e|e
    ·exact List.mem_cons.mpr (.inl e)
    ·exact List.mem_cons_of_mem _ (i2 g e)
theorem length_putF (f:Str) (v:V):∀ fs:List (Str×V),(putF f v fs).length<=fs.length+1
 | []=>by simp [putF]
 |(k,x)::r=>by
  have ih:=length_putF f v r
  rw [show putF f v ((k,x)::r)=(if k=f then (k,v)::r else (k,x)::putF f v r) from rfl]
  by_cases hk:k=f
  ·rw [if_pos hk,List.length_cons,List.length_cons];omega
  ·rw [if_neg hk,List.length_cons,List.length_cons];omega
theorem RelO.some_of {v:V}{o:Option Value} (r:RelO (some v) o):∃ u,o=some u/\RelV v u:=by
 cases o with
 |none=>exact (show False from r).elim
 |some u=>exact ⟨u,rfl,r⟩
theorem handed_of {v:V}{u:Value} (r:RelV v u):PySem.W.handedIn u=true:=by
 cases v with
 |non=>cases (show u=Value.none from r);rfl
 |bl b=>cases (show u=Value.bool b from r);rfl
 |int i=>obtain ⟨t,e⟩:=(show ∃ t,u=Value.int i t from r);cases e;rfl
 |str x=>obtain ⟨t,e⟩:=(show ∃ t,u=Value.str x t from r);cases e;rfl
 |byt b=>obtain ⟨t,e⟩:=(show ∃ t,u=Value.bytes b t from r);cases e;rfl
 |flt b=>obtain ⟨t,e⟩:=(show ∃ t,u=Value.float b t from r);cases e;rfl
 |ref a=>cases (show u=Value.ref a from r);rfl
 |ty n=>cases (show u=Value.type n from r);rfl
section
variable {P:Program}{w:World}{H H':Hp}{h h':Heap}{a C dx:Addr}{fs fs':List (Str×V)}
theorem ins_get (hok:HOk P w H h) (e:H a=some (.ins C dx fs)):∃ mA,ObjM h a dx C mA/\(∀ f,RelO (fs.lookup f) (mA f))/\PySem.Within mA (fs.map (·.1))/\fs.length<=1000/\H dx=some (.own a):=by
 obtain ⟨d,z,ne,ob,mA,n,r,q⟩:=(show ObjOk P w H h a (.ins C dx fs) from hok a _ e)
 exact ⟨mA,⟨ob,n,ne⟩,r,q,z,d⟩
end
structure Cls (K:PySem.W.Frag) (C:Addr):Prop where
 pg:PySem.W.plainGet K C Str.empty=true
 hd:PySem.W.hasDictIn K C=true
 po:PySem.W.plainOver K C=true
 sa:PySem.W.findIn K (.ref C) "__setattr__"=some (some (.builtin "object.__setattr__"))
theorem Cls.get {K:PySem.W.Frag}{C:Addr} (c:Cls K C) (f:Str):PySem.W.plainGet K C f=true:=c.pg
def NoAttr (K:PySem.W.Frag) (C:Addr) (f:Str):Prop:=PySem.W.findIn K (.ref C) f=some none
theorem NoAttr.taker {K:PySem.W.Frag}{C:Addr}{f:Str} (n:NoAttr K C f):PySem.W.takerIn K C f=some none:=by
 unfold PySem.W.takerIn
 rw [show PySem.W.findIn K (.ref C) f=some none from n]
 rfl
section
variable {X:Cx}{pins:List (Addr×Obj)}{σ:St}{H:Hp}{s:Shared}{a C dx:Addr}{fs:List (Str×V)}{f:Str}{v:V}{A:Around}{E:Value->Shared->Prop}
theorem getattr_ok {b:Bool}{Q:Value->Shared->Prop} (I:Inv X pins σ H s) (e:H a=some (.ins C dx fs)) (c:Cls X.K C) (n:NoAttr X.K C f) (l:fs.lookup f=some v)
  (h:∀ u s',Inv X pins σ H s'->RelV v u->Q u s'):wpAny (model X.prog X.w) A (getAttr (.ref a) f b) Q E s:=by
 obtain ⟨mA,O,r,_,_,_⟩:=ins_get I.hok e
 obtain ⟨u,hu,ru⟩:=RelO.some_of (v:=v) (o:=mA f) (by rw [<-l];exact r f)
 exact get_map I.kIn O (c.get f) c.hd n hu (handed_of ru) (h u _ (I.tok _) ru)
theorem setattr_ok {y:V}{u:Value}{Q:Unit->Shared->Prop} (I:Inv X pins σ H s) (e:H a=some (.ins C dx fs)) (c:Cls X.K C) (n:NoAttr X.K C f) (hl:fs.length<1000) (ry:RelV y u)
  (h:∀ s',Inv X pins σ (upd H a (.ins C dx (putF f y fs))) s'->Q () s'):wpAny (model X.prog X.w) A (setAttr (.ref a) f u) Q E s:=by
 obtain ⟨mA,O,r,wi,_,ho⟩:=ins_get I.hok e
 have hz:(fs.map (·.1)).length<=sizeLine:=by rw [List.length_map,sizeLine_eq];omega
 refine set_map I.kIn O c.sa c.po n.taker c.hd wi hz λh' O' sb=>h _ ?_
 have hd:∃ o,h'.get? dx=some o:=let ⟨o,_,_,e',_⟩:=O'.ns;⟨o,e'⟩
 refine I.write (x:=a) (e:=dx) (by rw [e];exact True.intro) (.inr ho) (λb q hb z=>(sb.2 b hb).trans z) hd ?_
 refine ⟨by rw [upd_ne O.ne];exact ho,?_,O.ne,O'.obj,_,O'.ns,λg=>?_,λg hg=>?_⟩
 ·have:=length_putF f y fs;omega
 ·show RelO ((putF f y fs).lookup g) (if g=f then some u else mA g)
  rw [lookup_putF]
  by_cases q:g=f
  ·rw [if_pos q,if_pos q];exact ry
  ·rw [if_neg q,if_neg q];exact r g
 ·by_cases q:g=f
  ·rw [q];exact (keys_putF f y fs).1
  ·refine (keys_putF f y fs).2 g (wi g λz=>hg ?_)
   show (if g=f then some u else mA g)=none
   rw [if_neg q];exact z
theorem Inv.made (I:Inv X pins σ H s):Inv X pins σ (upd (upd H s.heap.objs.size (.own (s.heap.objs.size+1))) (s.heap.objs.size+1) (.ins C s.heap.objs.size []))
  { s with heap:=(s.heap.push PySem.W.emptyDict).push (PySem.W.instObj C s.heap.objs.size) }:=by
 have e1:(s.heap.push PySem.W.emptyDict).get? s.heap.objs.size=some PySem.W.emptyDict:=Heap.get?_push_size s.heap rfl
 have e2:((s.heap.push PySem.W.emptyDict).push (PySem.W.instObj C s.heap.objs.size)).get? (s.heap.objs.size+1)=some (PySem.W.instObj C s.heap.objs.size):=by
  have:=Heap.get?_push_size (s.heap.push PySem.W.emptyDict) (o:=PySem.W.instObj C s.heap.objs.size) rfl
  rwa [Heap.size_push] at this
 have e3:(s.heap.push PySem.W.emptyDict).Ns s.heap.objs.size (λ_=>none):=⟨PySem.W.emptyDict,#[],_,e1,rfl,(λe he=>absurd he (by simp)),λ_=>rfl⟩
 have I1:=I.laid (a:=s.heap.objs.size) (o:=.own (s.heap.objs.size+1)) (h':=s.heap.push PySem.W.emptyDict) (t':=s.toks) (λb u q=>Heap.get?_push_of_some _ q) (Nat.le_refl _) ⟨_,e1⟩
 refine I1.laid (a:=s.heap.objs.size+1) (o:=.ins C s.heap.objs.size []) (t':=s.toks) (λb u q=>Heap.get?_push_of_some _ q) (Nat.le_of_eq (Heap.size_push _ _)) ?_
 have ne:s.heap.objs.size≠s.heap.objs.size+1:=Nat.ne_of_lt (Nat.lt_succ_self _)
 refine ⟨by rw [upd_ne ne,upd_same],Nat.zero_le _,ne,e2,λ_=>none,(Heap.Ns1.of_empty e3).at λo q=>Heap.get?_push_of_some _ q,λ_=>True.intro,λy hy=>absurd rfl hy⟩
theorem attr_of {prog:Program}{w:World}{env:Env}{e:Expr}{f:Str}{pos:Pos}{s:Shared}{Q:Value->Shared->Prop} (hb:attributeBase e f env (eval e env)=eval e env)
  (h:wpAny (model prog w) A (eval e env) (λo s₁=>wpAny (model prog w) A (getAttr o f true) Q E s₁) E s):wpAny (model prog w) A (eval (.Attribute e f pos) env) Q E s:=
 Attribute_any_ h (by rw [arm_eval_Attribute,hb])
end
def tFld (K:PySem.W.Frag) (ta:TE) (f:Str):TE:=fun σ H Q=>ta σ H λx H1=>∃ a C dx fs v,x=.ref a/\H1 a=some (.ins C dx fs)/\Cls K C/\NoAttr K C f/\fs.lookup f=some v/\Q v H1
def sFld (K:PySem.W.Frag) (ta tv:TE) (f:Str):TS:=λD σ H=>tv σ H λy H1=>ta σ H1 λx H2=>∃ a C dx fs,x=.ref a/\H2 a=some (.ins C dx fs)/\Cls K C/\NoAttr K C f/\fs.length<1000/\
 D.nx σ (upd H2 a (.ins C dx (putF f y fs)))
section
variable {X:Cx}{o e value:Expr}{f:Str}{pos pos' tpos:Pos}{ta tv:TE}
theorem pe_fld (he:PE X e ta) (hb:attributeBase e f X.env (eval e X.env)=eval e X.env):PE X (.Attribute e f pos) (tFld X.K ta f):=by
 intro pins s σ H Q I h
 refine attr_of hb (thn (he pins s σ H _ I h) λu s1 ⟨x,H1,I1,rx,a,C,dx,fs,v,ex,ea,c,n,l,q⟩=>?_)
 subst ex
 obtain rfl:u=Value.ref a:=rx
 exact getattr_ok I1 ea c n l λu' s2 I2 ru=>⟨v,H1,I2,ru,q⟩
theorem ps_fld (ha:PE X o ta) (hv:PE X value tv) (hs:swapsWith value (some (.Attribute o f pos')) pos.line X.env=pure false):PS X (.Assign [.Attribute o f pos'] value pos) (sFld X.K ta tv f):=by
 intro pins s σ H D I h
 refine plainObj_wpAny_Assign_Attribute (thn (hv pins s σ H _ I h) λu s1 ⟨y,H1,I1,ry,q⟩=>thn (ha pins s1 σ H1 _ I1 q) λov s2 ⟨x,H2,I2,rx,a,C,dx,fs,ex,ea,c,n,l,q2⟩=>?_) hs
 subst ex
 obtain rfl:ov=Value.ref a:=rx
 exact setattr_ok I2 ea c n l ry λs3 I3=>⟨σ,_,I3,q2⟩
end
section
variable {X:Cx}{pins:List (Addr×Obj)}{σ:St}{H:Hp}{s:Shared}{A:Around}{E:Value->Shared->Prop}{Q:Value->Shared->Prop}{c:Value}{b:Bool}
inductive TyOf (K:PySem.W.Frag) (H:Hp):V->Value->Prop where
 |non:TyOf K H .non (.type "NoneType")
 |bl (x:Bool):TyOf K H (.bl x) (.type "bool")
 |int (i:Int):TyOf K H (.int i) (.type "int")
 |str (x:Str):TyOf K H (.str x) (.type "str")
 |flt (x:UInt64):TyOf K H (.flt x) (.type "float")
 |lst {a:Addr}{xs:List V} (e:H a=some (.lst xs)):TyOf K H (.ref a) (.type "list")
 |frz {a:Addr}{o:Obj}{xs:List V} (e:H a=some (.frz o (.lst xs))):TyOf K H (.ref a) (.type "list")
 |tup {a:Addr}{xs:List V} (e:H a=some (.tup xs)):TyOf K H (.ref a) (.type "tuple")
 |dK {a:Addr}{kvs:List (Key×V)} (e:H a=some (.dK kvs)):TyOf K H (.ref a) (.type "dict")
 |dT {a:Addr}{kvs:List (List Key×V)} (e:H a=some (.dT kvs)):TyOf K H (.ref a) (.type "dict")
theorem isinst_ok {x:V}{u t:Value} (I:Inv X pins σ H s) (rx:RelV x u) (ty:TyOf X.K H x t) (e:PySem.W.kitOne X.K t c=some b) (h:∀ tk,Q (.bool b) { s with toks:=tk }) :
  wpAny (model X.prog X.w) A (call (.builtin "isinstance") [u,c]) Q E s:=by
 cases ty with
 |non=>cases (show u=Value.none from rx);exact PySem.W.kia_one PySem.W.kitx_none I.kIn True.intro e (λz=>nomatch z) h
 |bl y=>cases (show u=Value.bool y from rx);exact PySem.W.kia_one PySem.W.kitx_bool I.kIn True.intro e (λz=>nomatch z) h
 |int i=>obtain ⟨t,q⟩:=(show ∃ t,u=Value.int i t from rx);cases q;exact PySem.W.kia_one PySem.W.kitx_int I.kIn True.intro e (λz=>nomatch z) h
 |str y=>obtain ⟨t,q⟩:=(show ∃ t,u=Value.str y t from rx);cases q;exact PySem.W.kia_one PySem.W.kitx_str I.kIn True.intro e (λz=>nomatch z) h
 |flt y=>obtain ⟨t,q⟩:=(show ∃ t,u=Value.float y t from rx);cases q;exact PySem.W.kia_one PySem.W.kitx_float I.kIn True.intro e (λz=>nomatch z) h
 | @lst a xs ea=>
  cases (show u=Value.ref a from rx)
  obtain ⟨_,_,n,_,h1⟩:=(show ObjOk X.prog X.w H s.heap a (.lst xs) from I.hok a _ ea)
  exact PySem.W.kia_one PySem.W.kitx_list I.kIn ⟨_,h1,rfl⟩ e (λz=>nomatch z) h
 | @frz a ob xs ea=>
  cases (show u=Value.ref a from rx)
  obtain ⟨_,_,_,n,_,h1⟩:=(show ObjOk X.prog X.w H s.heap a (.frz ob (.lst xs)) from I.hok a _ ea)
  exact PySem.W.kia_one PySem.W.kitx_list I.kIn ⟨_,h1,rfl⟩ e (λz=>nomatch z) h
 | @tup a xs ea=>
  cases (show u=Value.ref a from rx)
  obtain ⟨_,_,_,p⟩:=(show ObjOk X.prog X.w H s.heap a (.tup xs) from I.hok a _ ea)
  obtain ⟨o,h1,h2,_⟩:=p
  exact PySem.W.kia_one PySem.W.kitx_tuple I.kIn ⟨o,h1,h2⟩ e (λz=>nomatch z) h
 | @dK a kvs ea=>
  cases (show u=Value.ref a from rx)
  obtain ⟨_,_,vs,_,p⟩:=(show ObjOk X.prog X.w H s.heap a (.dK kvs) from I.hok a _ ea)
  obtain ⟨o,es,ep,h1,h2,_⟩:=p
  exact PySem.W.kia_one PySem.W.kitx_dict I.kIn ⟨o,h1,h2.1⟩ e (λz=>nomatch z) h
 | @dT a kvs ea=>
  cases (show u=Value.ref a from rx)
  obtain ⟨_,_,xs,_,o,es,ep,h1,h2,_⟩:=(show ObjOk X.prog X.w H s.heap a (.dT kvs) from I.hok a _ ea)
  exact PySem.W.kia_one PySem.W.kitx_dict I.kIn ⟨o,h1,h2.1⟩ e (λz=>nomatch z) h
end
end L2
namespace L2
open PySem PySem.Spec PyProof.Rows
structure Room (k:Nat) (A:Around):Prop where
 hd:A.handled=none
 dp:A.depth+3 * k+5<recursionLimit
 un:A.units+16 * k+200<cLine
theorem Room.mono {j k:Nat}{A:Around} (r:Room k A) (h:j<=k):Room j A:=⟨r.hd,by have:=r.dp;omega,by have:=r.un;omega⟩
theorem Room.deeper {k:Nat}{A:Around} (r:Room (k+1) A) (env:Env):Room k (A.deeper env):=
 ⟨r.hd,by have:=r.dp;show A.depth+1+3 * k+5<_;omega,by have:=r.un;show A.units+3+16 * k+200<_;omega⟩
theorem make_depth {A:Around}{C:Addr}{us:List Value}{kw:List (Str×Value)}:(A.under (.builtin "type.__call__" ⟨.ref C::us,kw⟩)).depth=A.depth+1:=by
 first|rfl|simp [Around.under,Code.weight,Code.isCreation,Code.isGuard,Code.isCaller,Code.frames,Code.isFrame,guardIds]
theorem make_units {A:Around}{C:Addr}{us:List Value}{kw:List (Str×Value)}:(A.under (.builtin "type.__call__" ⟨.ref C::us,kw⟩)).units=A.units+1:=by
 first|rfl|simp [Around.under,Code.cUnits,Code.frames,Code.isFrame]
theorem Room.make {k:Nat}{A:Around} (r:Room (k+1) A) (C:Addr) (us:List Value) (kw:List (Str×Value)):Room k (A.under (.builtin "type.__call__" ⟨.ref C::us,kw⟩)):=
 ⟨r.hd,by have:=r.dp;rw [make_depth];omega,by have:=r.un;rw [make_units];omega⟩
theorem Room.depth {k:Nat}{A:Around} (r:Room k A):A.depth<recursionLimit:=by have:=r.dp;omega
theorem Room.units {k:Nat}{A:Around} (r:Room k A):A.units+64<cLine:=by have:=r.un;omega
def tNil:TA:=λ_ H Q=>Q [] H
def tCons (ta:TE) (tr:TA):TA:=fun σ H Q=>ta σ H λx H1=>tr σ H1 λxs H2=>Q (x::xs) H2
section
variable {X:Cx}{e:Expr}{es:List Expr}{te:TE}{t:TA}{pos:Pos}
theorem pa_nil:PA X [] tNil:=λ_ _ _ _ H Q I h=>Calls.spliced_nil ⟨[],H,I,.nil,h⟩
theorem pa_cons (ha:PE X e te) (hr:PA X es t) (hs:starEach (e::es) X.env=(false,eval e X.env)::starEach es X.env:=by rfl):PA X (e::es) (tCons te t):=by
 intro pos pins s σ H Q I h
 rw [hs]
 show wpAny _ _ (spliced ((false,eval e X.env)::backTo pos (starEach es X.env))) _ _ s
 refine Calls.spliced_cons (thn (ha pins s σ H _ I h) λu s1 ⟨x,H1,I1,r1,q1⟩=>?_)
 exact thn (hr pos pins s1 σ H1 _ I1 q1) λus s2 ⟨xs,H2,I2,r2,q2⟩=>⟨x::xs,H2,I2,.cons r1 r2,q2⟩
def tTup (t:TA):TE:=fun σ H Q=>t σ H λxs H1=>xs.length<=sizeLine/\∀ p,H1 p=none->Q (.ref p) (upd H1 p (.tup xs))
def tLst (t:TA):TE:=fun σ H Q=>t σ H λxs H1=>xs.length<=sizeLine/\∀ p,H1 p=none->Q (.ref p) (upd H1 p (.lst xs))
theorem pe_tup {x1} (h:PA X es t):PE X (.Tuple es x1 pos) (tTup t):=by
 intro pins s σ H Q I hq
 refine wpAny_Tuple_spliced (thn (h pos pins s σ H _ I hq) λus s1 ⟨xs,H1,I1,r,z,q⟩=>⟨by rw [<-r.length];exact z,?_⟩)
 have hf:H1 s1.heap.objs.size=none:=I1.hok.fresh (Nat.le_refl _)
 refine ⟨.ref s1.heap.objs.size,upd H1 s1.heap.objs.size (.tup xs),I1.laid (t':=s1.toks) (λb u e=>Heap.get?_push_of_some _ e) (Nat.le_refl _) ?_,rfl,q _ hf⟩
 exact ⟨z,us,r,⟨_,Heap.get?_push_size _ rfl,rfl,_,rfl⟩⟩
theorem pe_lst (h:PA X es t):PE X (.List es pos) (tLst t):=by
 intro pins s σ H Q I hq
 refine wpAny_List_spliced (thn (h pos pins s σ H _ I hq) λus s1 ⟨xs,H1,I1,r,z,q⟩=>⟨by rw [<-r.length];exact z,?_⟩)
 have hf:H1 s1.heap.objs.size=none:=I1.hok.fresh (Nat.le_refl _)
 refine ⟨.ref s1.heap.objs.size,upd H1 s1.heap.objs.size (.lst xs),I1.laid (t':=s1.toks) (λb u e=>Heap.get?_push_of_some _ e) (Nat.le_refl _) ?_,rfl,q _ hf⟩
 exact ⟨z,us,0,r,Heap.get?_push_size _ rfl⟩
end
abbrev Sp:=List V->Hp->VK->XK->Prop
abbrev CXT:=List Env->Hp->Shared->XK->Value->Shared->Prop
structure Env0 (P:Program) (w:World) (K:PySem.W.Frag) (mg:Str->Option Value) (base:Heap) (A:Around) (outer:List Env) (s:Shared) (H:Hp):Prop where
 frames:A.frames=some outer
 mod:Mod K mg base
 bs:∀ b o,base.get? b=some o->s.heap.get? b=some o/\H b=none
 bsz:base.objs.size<=s.heap.objs.size
 funs:s.heap.FunFrames base outer
 frf:∀ b∈frs outer,H b=none
 hok:HOk P w H s.heap
 bare:AllBare s.gens
def CE (outer:List Env) (P:Program) (w:World) (H:Hp) (s:Shared) (Q:VK) (u:Value) (s':Shared):Prop:=
 ∃ v H',s'.os=s.os/\AllBare s'.gens/\Un (frs outer) [] H H' s.heap s'.heap/\HOk P w H' s'.heap/\RelV v u/\Q v H'
def CR (CX:CXT) (outer:List Env) (P:Program) (w:World) (H:Hp) (s:Shared) (Q:VK) (E:XK) (r:Result) (s':Shared):Prop:=
 match r with
 | .ok (.ret u)=>CE outer P w H s Q u s'
 | .ok _=>False
 | .error e=>CX outer H s E e s'
structure FnOk (P:Program) (w:World) (K:PySem.W.Frag) (mg:Str->Option Value) (base:Heap) (CX:CXT) (k:Nat) (f:Addr) (fd:FuncData) (ps:List Str) (sp:Sp):Prop where
 len:∀ vs H Q E,sp vs H Q E->vs.length=ps.length
 run:∀ (A:Around) (outer:List Env) (s:Shared) (H:Hp) (args:Args) (us:List Value) (vs:List V) (Q:VK) (E:XK),Room k A->Env0 P w K mg base A outer s H->BindsTo s fd args (ps.zip us)->Vals vs us->sp vs H Q E->
  codeAny (model P w) A (.call (.ref f) args) (CR CX outer P w H s Q E) s
theorem Env0.make {P:Program}{w:World}{K:PySem.W.Frag}{mg:Str->Option Value}{base:Heap}{A:Around}{outer:List Env}{s:Shared}{H:Hp} (e:Env0 P w K mg base A outer s H) (C:Addr) (us:List Value) (kw:List (Str×Value)) :
  Env0 P w K mg base (A.under (.builtin "type.__call__" ⟨.ref C::us,kw⟩)) outer s H:=⟨by first|exact e.frames|(simpa [Around.under,Code.envs,Code.isFrame,pushEnvs] using e.frames),e.mod,e.bs,e.bsz,e.funs,e.frf,e.hok,e.bare⟩
section
variable {X:Cx}{pins:List (Addr×Obj)}{σ:St}{H:Hp}{s s':Shared}
theorem Inv.env0 (I:Inv X pins σ H s):Env0 X.prog X.w X.K X.mg X.base X.A X.stack s H:=
 ⟨I.ok.frames,I.ok.mod,I.bs,Nat.le_trans I.ok.bsz I.sz,I.stack,I.stkFree,I.hok,I.bare⟩
theorem Inv.after {Q:VK}{u:Value} (I:Inv X pins σ H s) (h:CE X.stack X.prog X.w H s Q u s'):EP X pins σ Q u s':=by
 obtain ⟨v,H',os,bare,un,hok,r,q⟩:=h
 obtain ⟨hh,g,d,t,os'⟩:=s'
 obtain rfl:os'=s.os:=os
 exact ⟨v,H',I.call (h':=hh) (g':=g) (d':=d) (t':=t) (ch:=[]) un hok bare (λb z=>absurd z (by simp)),r,q⟩
end
def tCall (sp:Sp) (dvs:List V) (E:XK) (t:TA):TE:=fun σ H Q=>t σ H λvs H1=>sp (vs++dvs) H1 Q E
def tMake (C:Addr) (sp:Sp) (dvs:List V) (E:XK) (t:TA):TE:=fun σ H Q=>t σ H λvs H1=>∀ x dx,H1 x=none->H1 dx=none->dx≠x->
 sp (.ref x::(vs++dvs)) (upd (upd H1 dx (.own x)) x (.ins C dx [])) (λv H2=>v=.non/\Q (.ref x) H2) E
def Binds (K:PySem.W.Frag) (fd:FuncData) (ps:List Str) (ds:List Value):Prop:=
 ∀ (s:Shared) (us:List Value),K.In s.heap->(us++ds).length=ps.length->BindsTo s fd ⟨us,[]⟩ (ps.zip (us++ds))
theorem Binds.all {K:PySem.W.Frag}{fd:FuncData}{ps:List Str} (h:∀ us:List Value,us.length=ps.length->bindArgs fd ⟨us,[]⟩=pure (ps.zip us)):Binds K fd ps []:=λs us _ hl=>by
 rw [List.append_nil] at hl ⊢
 exact .of_eq (h us hl)
def Passes (CX:CXT) (X:Cx) (E:XK):Prop:=∀ (pins:List (Addr×Obj)) (σ:St) (H:Hp) (s:Shared) (e:Value) (s':Shared),Inv X pins σ H s->CX X.stack H s E e s'->X.xe e s'
section
variable {X:Cx}{CX:CXT}{k:Nat}{f C:Addr}{fd:FuncData}{ps:List Str}{sp:Sp}{dvs:List V}{ds:List Value}{E:XK}{x m:Str}{p pos apos:Pos}{e o:Expr}{es:List Expr}{ta:TE}{t:TA}
theorem run_fn {pins:List (Addr×Obj)}{σ:St}{H:Hp}{s:Shared}{Q:VK}{us:List Value}{vs:List V} (F:FnOk X.prog X.w X.K X.mg X.base CX k f fd ps sp) (hr:Room k X.A) (hb:Binds X.K fd ps ds) (hd:Vals dvs ds) (hx:Passes CX X E)
  (I:Inv X pins σ H s) (r:Vals vs us) (h:sp (vs++dvs) H Q E):wpAny (model X.prog X.w) X.A (call (.ref f) us) (EP X pins σ Q) X.xe s:=by
 have r2:Vals (vs++dvs) (us++ds):=r.append hd
 have hl:(us++ds).length=ps.length:=by rw [<-r2.length];exact F.len _ _ _ _ h
 refine wpAny_call (codeAny_mono (F.run X.A X.stack s H ⟨us,[]⟩ (us++ds) (vs++dvs) Q E hr I.env0 (hb s us I.kIn hl) r2 h) λr s' hq=>?_)
 cases r with
 |error e=>exact hx pins σ H s e s' I hq
 |ok fl=>
  cases fl with
  |ret u=>exact I.after hq
  |next=>exact False.elim hq
  |brk=>exact False.elim hq
  |cont=>exact False.elim hq
theorem pe_call (F:FnOk X.prog X.w X.K X.mg X.base CX k f fd ps sp) (hr:Room k X.A) (hg:Gl X x) (hm:X.mg x=some (.ref f)) (hk:PySem.W.keepIn X.K (.ref f)=true) (hb:Binds X.K fd ps ds) (hd:Vals dvs ds) (hx:Passes CX X E)
  (ha:PA X (e::es) t) (hdb:(x == ("__debug__":Str))=false:=by decide) (he:starEach (e::es) X.env=(false,eval e X.env)::starEach es X.env:=by rfl) (hpl:(backTo pos (starEach es X.env)).any (·.1)=false:=by rfl) :
  PE X (.Call (.Name x p) (e::es) [] pos) (tCall sp dvs E t):=by
 intro pins s σ H Q I h
 refine wpAny_Call_Name_kw (ld_glob I hg hm ?_ hdb)
 refine PySem.W.callWith_K (h₀:=X.base) I.ok.mod.kin hk (thn (ha pos pins s σ H _ I h) λus s1 ⟨vs,H1,I1,r,q⟩=>⟨I1.kIn,?_⟩) he hpl
 exact run_fn F hr hb hd hx I1 r q
theorem pe_call0 (F:FnOk X.prog X.w X.K X.mg X.base CX k f fd ps sp) (hr:Room k X.A) (hg:Gl X x) (hm:X.mg x=some (.ref f)) (hk:PySem.W.keepIn X.K (.ref f)=true) (hb:Binds X.K fd ps ds) (hd:Vals dvs ds) (hx:Passes CX X E)
  (hdb:(x == ("__debug__":Str))=false:=by decide):PE X (.Call (.Name x p) [] [] pos) (tCall sp dvs E tNil):=by
 intro pins s σ H Q I h
 refine wpAny_Call_Name_kw (ld_glob I hg hm ?_ hdb)
 exact PySem.W.callWith_K0 I.kIn hk (run_fn (us:=[]) F hr hb hd hx I .nil h)
structure Mk (K:PySem.W.Frag) (C f:Addr):Prop where
 makes:PySem.W.makesIn K C=true
 init:PySem.W.findIn K (.ref C) "__init__"=some (some (.ref f))
 fn:PySem.W.isFn K (.ref f)=true
 kp:PySem.W.keepIn K (.ref C)=true
theorem run_make {pins:List (Addr×Obj)}{σ:St}{H:Hp}{s:Shared}{Q:VK}{us:List Value}{vs:List V} (M:Mk X.K C f) (F:FnOk X.prog X.w X.K X.mg X.base CX k f fd ps sp) (hr:Room (k+1) X.A) (hb:Binds X.K fd ps ds) (hd:Vals dvs ds)
  (hx:Passes CX X E) (I:Inv X pins σ H s) (r:Vals vs us)
  (h:∀ x dx,H x=none->H dx=none->dx≠x->sp (.ref x::(vs++dvs)) (upd (upd H dx (.own x)) x (.ins C dx [])) (λv H2=>v=.non/\Q (.ref x) H2) E) :
  wpAny (model X.prog X.w) X.A (call (.ref C) us) (EP X pins σ Q) X.xe s:=by
 have hq:=h (s.heap.objs.size+1) s.heap.objs.size (I.hok.fresh (Nat.le_succ _)) (I.hok.fresh (Nat.le_refl _)) (Nat.ne_of_lt (Nat.lt_succ_self _))
 have I2:=Inv.made (C:=C) I
 have r2:Vals (V.ref (s.heap.objs.size+1)::(vs++dvs)) (Value.ref (s.heap.objs.size+1)::(us++ds)):=.cons rfl (r.append hd)
 have hl:(Value.ref (s.heap.objs.size+1)::us++ds).length=ps.length:=by
  have e:=r2.length
  rw [F.len _ _ _ _ hq] at e
  exact e.symm
 refine wpAny_call (make_map (f:=f) I.kIn M.makes M.init (beq_iff_eq.mp M.fn) (codeAny_mono (F.run _ X.stack _ _ ⟨Value.ref (s.heap.objs.size+1)::us,[]⟩ (Value.ref (s.heap.objs.size+1)::(us++ds)) _ _ E (hr.make C us [])
  (I2.env0.make C us []) (hb _ (Value.ref (s.heap.objs.size+1)::us) I2.kIn hl) r2 hq) λr s' hq'=>?_))
 cases r with
 |error e=>exact hx pins σ _ _ e s' I2 hq'
 |ok fl=>
  cases fl with
  |ret u=>
   obtain ⟨v,H',I3,rv,ev,q3⟩:=I2.after hq'
   subst ev
   exact ⟨rv,⟨V.ref (s.heap.objs.size+1),H',I3,rfl,q3⟩⟩
  |next=>exact False.elim hq'
  |brk=>exact False.elim hq'
  |cont=>exact False.elim hq'
theorem pe_make (M:Mk X.K C f) (F:FnOk X.prog X.w X.K X.mg X.base CX k f fd ps sp) (hr:Room (k+1) X.A) (hg:Gl X x) (hm:X.mg x=some (.ref C)) (hb:Binds X.K fd ps ds) (hd:Vals dvs ds) (hx:Passes CX X E)
  (ha:PA X (e::es) t) (hdb:(x == ("__debug__":Str))=false:=by decide) (he:starEach (e::es) X.env=(false,eval e X.env)::starEach es X.env:=by rfl) (hpl:(backTo pos (starEach es X.env)).any (·.1)=false:=by rfl) :
  PE X (.Call (.Name x p) (e::es) [] pos) (tMake C sp dvs E t):=by
 intro pins s σ H Q I h
 refine wpAny_Call_Name_kw (ld_glob I hg hm ?_ hdb)
 refine PySem.W.callWith_K (h₀:=X.base) I.ok.mod.kin M.kp (thn (ha pos pins s σ H _ I h) λus s1 ⟨vs,H1,I1,r,q⟩=>⟨I1.kIn,?_⟩) he hpl
 exact run_make M F hr hb hd hx I1 r q
end
section
variable {X:Cx}{CX:CXT}{k:Nat}{f C:Addr}{fd:FuncData}{ps ks:List Str}{sp:Sp}{E:XK}{x m:Str}{p pos apos kpos:Pos}{e o:Expr}{es:List Expr}{kws:List Keyword}{te ta:TE}{t tk:TA}{nm:Option Str}
variable {g:List Value->List Value->List Value}{gV:List V->List V->List V}
end
structure FnScope (N P:List Str) (sc:Scope):Prop where
 kind:sc.kind=.function
 co:sc.isCoroutine=false
 gen:sc.isGenerator=false
 nd:N.Nodup
 pre:N.take P.length=P
 par:∀ x∈P,sc.names.lookup x=some .local∨sc.names.lookup x=some .cell
 nofree:∀ y∈sc.names,y.2≠.free
theorem bindL_out {kindOf:Str->Option NameKind}{x:Str}:∀ {binds:List (Str×Value)}{m:Str->Option Value},(∀ v,(x,v) ∉ binds)->bindL kindOf binds m x=m x
 | [],_,_=>rfl
 |(n,v)::r,m,h=>by
  unfold bindL
  rw [bindL_out λw hw=>h w (List.mem_cons_of_mem _ hw)]
  split
  ·have:x≠n:=by rintro rfl;exact h v List.mem_cons_self
   simp [this]
  ·rfl
theorem bindC_out {kindOf:Str->Option NameKind}{x:Str}:∀ {binds:List (Str×Value)}{m:Str->Option Value},(∀ v,(x,v) ∉ binds)->bindC kindOf binds m x=m x
 | [],_,_=>rfl
 |(n,v)::r,m,h=>by
  unfold bindC
  rw [bindC_out λw hw=>h w (List.mem_cons_of_mem _ hw)]
  split
  ·rfl
  ·have:x≠n:=by rintro rfl;exact h v List.mem_cons_self
   simp [this]
theorem bindL_get {kindOf:Str->Option NameKind}{x:Str}{v:Value}:∀ {P:List Str}{vs:List Value}{i:Nat}{m:Str->Option Value},P.Nodup->P[i]?=some x->vs[i]?=some v->kindOf x=some .local->
  bindL kindOf (P.zip vs) m x=some v
 | [],_,_,_,_,h,_,_=>by simp at h
 |_::_,[],_,_,_,_,h,_=>by simp at h
 |p::P,w::vs,0,m,nd,h1,h2,hk=>by
  simp at h1 h2;subst h1;subst h2
  show bindL kindOf ((p,w)::P.zip vs) m p=_
  unfold bindL
  rw [bindL_out λv hv=>(List.nodup_cons.mp nd).1 (List.of_mem_zip hv).1,if_pos hk]
  simp
 |p::P,w::vs,i+1,m,nd,h1,h2,hk=>by
  show bindL kindOf ((p,w)::P.zip vs) m x=_
  unfold bindL
  exact bindL_get (i:=i) (List.nodup_cons.mp nd).2 (by simpa using h1) (by simpa using h2) hk
theorem bindC_get {kindOf:Str->Option NameKind}{x:Str}{v:Value}:∀ {P:List Str}{vs:List Value}{i:Nat}{m:Str->Option Value},P.Nodup->P[i]?=some x->vs[i]?=some v->kindOf x≠some .local->
  bindC kindOf (P.zip vs) m x=some v
 | [],_,_,_,_,h,_,_=>by simp at h
 |_::_,[],_,_,_,_,h,_=>by simp at h
 |p::P,w::vs,0,m,nd,h1,h2,hk=>by
  simp at h1 h2;subst h1;subst h2
  show bindC kindOf ((p,w)::P.zip vs) m p=_
  unfold bindC
  rw [bindC_out λv hv=>(List.nodup_cons.mp nd).1 (List.of_mem_zip hv).1,if_neg hk]
  simp
 |p::P,w::vs,i+1,m,nd,h1,h2,hk=>by
  show bindC kindOf ((p,w)::P.zip vs) m x=_
  unfold bindC
  exact bindC_get (i:=i) (List.nodup_cons.mp nd).2 (by simpa using h1) (by simpa using h2) hk
def start (N:List Str) (vs:List V):St:=vs.map some++List.replicate (N.length-vs.length) none
def cxOf (CX:CXT) (P:Program) (w:World) (K:PySem.W.Frag) (mg:Str->Option Value) (base:Heap) (N:List Str) (qual:Str) (scope:Scope) (f:Addr) (cd:Value) (A:Around) (outer:List Env) (s:Shared) (H:Hp) (E:XK):Cx where
 prog:=P
 w:=w
 K:=K
 mg:=mg
 base:=base
 A:=A.deeper (envOfC qual scope s.heap.objs.size f cd)
 N:=N
 s₀:=s
 H₀:=H
 env:=envOfC qual scope s.heap.objs.size f cd
 outer:=outer
 stack:=envOfC qual scope s.heap.objs.size f cd::outer
 ex:=[]
 calm:=true
 fn:=λ_=>true
 pn:=[]
 xe:=λe s'=>wpAny (model P w) (A.deeper (envOfC qual scope s.heap.objs.size f cd)) (leaving (envOfC qual scope s.heap.objs.size f cd) e) (λ_ s''=>CX outer H s E e s'') (λe' s''=>CX outer H s E e' s'') s'
theorem cell_has {sc:Scope}{n:Nat}{x:Str} (h:sc.names.lookup x=some .cell):∃ c,(cellsFrom n sc.names []).lookup x=some c:=by
 have q:=PySem.W.cellsFrom_some sc.names n [] (.inl h)
 exact Option.isSome_iff_exists.mp q
theorem inv_start {CX:CXT}{P:Program}{w:World}{K:PySem.W.Frag}{mg:Str->Option Value}{base:Heap}{N ps:List Str}{qual:Str}{scope:Scope}{f:Addr}{cd:Value}{A:Around}{outer:List Env}{s s1:Shared}{H:Hp}{E:XK}{us:List Value}{vs:List V}
  (S:FnScope N ps scope) (hd:A.handled=none) (e0:Env0 P w K mg base A outer s H) (hl:vs.length=ps.length) (r:Vals vs us)
  (x:InCallC s s.heap.objs.size (bindL (envOfC qual scope s.heap.objs.size f cd).kindOf (ps.zip us) λ_=>none) (cellsFrom (s.heap.objs.size+1) scope.names []) (bindC (envOfC qual scope s.heap.objs.size f cd).kindOf (ps.zip us) λ_=>none) s1) :
  Inv (cxOf CX P w K mg base N qual scope f cd A outer s H E) [] (start N vs) H s1:=by
 have hpl:ps.length<=N.length:=by have:=congrArg List.length S.pre;rw [List.length_take] at this;omega
 obtain ⟨h1,tk,rfl,hk⟩:=x.done
 have noA:∀ b:Addr,b ∉ (cxOf CX P w K mg base N qual scope f cd A outer s H E).ex:=λb z=>absurd (show b∈([]:List Addr) from z) (by simp)
 refine ⟨⟨e0.mod,S.kind,rfl,rfl,Nat.le_refl _,λy z c h1 h2=>?_,λy hy=>?_,λy c _ h=>?_,λ_=>hd,Around.frames_deeper e0.frames,.inr ⟨rfl,rfl⟩,λb z=>absurd z (noA b),e0.bs,e0.bsz,λb _ _=>noA b,λb z=>absurd z (noA b),e0.funs,e0.frf⟩,
  rfl,e0.bare,Un.kept hk,⟨_,x.toInCall.ns,λi y v h1 h2 h3=>?_⟩,λy c h=>⟨_,x.cell y c h⟩,e0.hok.fresh (Nat.le_refl _),λy c h=>?_,λp hp=>absurd (show p∈([]:List (Addr×Obj)) from hp) (by simp),e0.hok.kept hk,?_⟩
 ·exact name_of_addr x.apart (PySem.mem_of_lookup h1) (PySem.mem_of_lookup h2)
 ·have hy:scope.names.lookup y=some .cell∨scope.names.lookup y=some .free:=hy
  rcases hy with hy|hy
  ·exact cell_has hy
  ·exact absurd rfl (S.nofree _ (PySem.mem_of_lookup hy))
 ·exact Nat.le_of_lt (x.above y c (PySem.mem_of_lookup h))
 ·have hi:i<vs.length:=by
   unfold start at h2
   by_cases hi:i<vs.length
   ·exact hi
   ·rw [List.getElem?_append_right (by simpa using hi)] at h2
    rw [List.getElem?_replicate] at h2
    split at h2<;>cases h2
  have ha:vs[i]?=some v:=by
   unfold start at h2
   rw [List.getElem?_append_left (by simpa using hi),List.getElem?_map] at h2
   cases e:vs[i]? with
   |none=>rw [e] at h2;cases h2
   |some a=>rw [e] at h2;cases h2;rfl
  obtain ⟨u,hu,rv⟩:=r.get ha
  have hp:ps[i]?=some y:=by
   rw [<-S.pre,List.getElem?_take_of_lt (by omega)];exact h1
  have ndP:ps.Nodup:=by rw [<-S.pre];exact S.nd.sublist (List.take_sublist _ _)
  refine ⟨u,rv,?_⟩
  rcases S.par y (List.mem_of_getElem? hp) with k|k
  ·exact .inl ⟨k,bindL_get ndP hp hu k⟩
  ·obtain ⟨c,e⟩:=cell_has (n:=s.heap.objs.size+1) k
   refine .inr ⟨.inl k,c,e,?_⟩
   have q:=x.cell y c e
   rw [bindC_get ndP hp hu (by show scope.names.lookup y≠_;rw [k];decide)] at q
   exact q
 ·exact e0.hok.fresh (Nat.le_of_lt (x.above y c (PySem.mem_of_lookup h)))
 ·unfold start
  show _=N.length
  rw [List.length_append,List.length_map,List.length_replicate]
  omega
theorem fn_of {CX:CXT}{P:Program}{w:World}{K:PySem.W.Frag}{mg:Str->Option Value}{base:Heap}{k:Nat}{f:Addr}{name qual:Str}{params:Arguments}{body:List Stmt}{scope:Scope}{dV kV doc pm cdv ct oc:Value}{an od:Option Addr}
  {osl:Array (Option Value)}{N ps:List Str}{sp:Sp} (lk:K.lookup f=some ⟨oc,od,.func (PySem.W.fnOf name qual params body scope dV kV doc pm an cdv ct),osl⟩) (hcd:PySem.W.codeIn K cdv qual=true) (S:FnScope N ps scope)
  (len:∀ vs H Q E,sp vs H Q E->vs.length=ps.length)
  (hbody:∀ (A:Around) (outer:List Env) (s:Shared) (H:Hp) (vs:List V) (Q:VK) (E:XK),Room k (A.deeper (envOfC qual scope s.heap.objs.size f cdv))->sp vs H Q E->
   ∃ t,PSs (cxOf CX P w K mg base N qual scope f cdv A outer s H E) body t/\t { nx:=λ_ H'=>Q .non H',rt:=Q } (start N vs) H) :
  FnOk P w K mg base CX (k+1) f (PySem.W.fnOf name qual params body scope dV kV doc pm an cdv ct) ps sp:=by
 refine ⟨len,λA outer s H args us vs Q E hr e0 hb r hsp=>?_⟩
 have hl:=len _ _ _ _ hsp
 have KX:K.In s.heap:=e0.mod.kin.keeps λb o e=>(e0.bs b o e).1
 have lim:s.heap.NoLimit:=e0.mod.nolimit.keeps λb o e=>(e0.bs b o e).1
 have hkind:∀ y∈ps.zip us,scope.names.lookup y.1=some .local∨(scope.names.lookup y.1=some .cell/\((cellsFrom (s.heap.objs.size+1) scope.names []).lookup y.1).isSome=true):=λ⟨n,v⟩ hy=>by
  rcases S.par n (List.of_mem_zip hy).1 with q|q
  ·exact .inl q
  ·exact .inr ⟨q,PySem.W.cellsFrom_some _ _ _ (.inl q)⟩
 refine codeAny_call_function hr.depth (KX _ _ lk) rfl S.co S.gen rfl (PySem.W.codeRec_of KX hcd) (hb _ _ _ _ ?_)
 refine wpAny_newFunctionEnv_cells S.kind hkind λenv he s1 x=>?_
 subst he
 refine ⟨lim.keeps x.toInCall.keep,codeAny_func ?_⟩
 obtain ⟨t,ht,hq⟩:=hbody A outer s H vs Q E (hr.deeper _) hsp
 have I:Inv (cxOf CX P w K mg base N qual scope f cdv A outer s H E) [] (start N vs) H s1:=inv_start S hr.hd e0 hl r x
 refine wpAny_mono (ht [] s1 (start N vs) H _ I hq) (λfl s' hs=>?_) λe s' hs=>hs
 have fin:∀ {σ':St}{H':Hp}{v:V}{u:Value},Inv (cxOf CX P w K mg base N qual scope f cdv A outer s H E) [] σ' H' s'->RelV v u->Q v H'->CE outer P w H s Q u s':=
  λ{σ' H' v u} J rv q=>⟨v,H',J.os,J.bare,J.base,J.hok,rv,q⟩
 cases fl with
 |ret u=>
  obtain ⟨v,σ',H',J,rv,q⟩:=hs
  exact fin J rv q
 |next=>
  obtain ⟨σ',H',J,q⟩:=hs
  exact fin (v:=V.non) (u:=Value.none) J rfl q
 |brk=>
  obtain ⟨_,_,_,q⟩:=hs
  exact False.elim q
 |cont=>
  obtain ⟨_,_,_,q⟩:=hs
  exact False.elim q
end L2
namespace L2
open PySem PySem.Spec PyProof.Rows
section
variable {X:Cx}{x:Str}{p pos:Pos}{e:Expr}{es:List Expr}{t:TA}{id T:String}{r:List V->Hp->VK->Prop}
def tCB (r:List V->Hp->VK->Prop) (t:TA):TE:=fun σ H Q=>t σ H λvs H1=>r vs H1 Q
theorem pe_callB (hc:CallR X (.builtin id) r) (hg:Gl X x) (hm:X.mg x=none) (hv:bootBuiltins x=some (.builtin id)) (ha:PA X (e::es) t) (hn:x≠"__name__":=by decide) (hdb:(x == ("__debug__":Str))=false:=by decide)
  (he:starEach (e::es) X.env=(false,eval e X.env)::starEach es X.env:=by rfl) (hpl:(backTo pos (starEach es X.env)).any (·.1)=false:=by rfl):PE X (.Call (.Name x p) (e::es) [] pos) (tCB r t):=by
 intro pins s σ H Q I h
 refine wpAny_Call_Name_kw (ld_blt I hg hm hv ?_ hn hdb)
 exact PyProof.Rows.callWith_builtin1 (thn (ha pos pins s σ H _ I h) λus s1 ⟨vs,H1,I1,r1,q1⟩=>hc pins s1 σ H1 vs us Q I1 r1 q1) he hpl
theorem pe_callTy (hc:CallR X (.type T) r) (hg:Gl X x) (hm:X.mg x=none) (hv:bootBuiltins x=some (.type T)) (ha:PA X (e::es) t) (hn:x≠"__name__":=by decide) (hdb:(x == ("__debug__":Str))=false:=by decide)
  (he:starEach (e::es) X.env=(false,eval e X.env)::starEach es X.env:=by rfl) (hpl:(backTo pos (starEach es X.env)).any (·.1)=false:=by rfl):PE X (.Call (.Name x p) (e::es) [] pos) (tCB r t):=by
 intro pins s σ H Q I h
 refine wpAny_Call_Name_kw (ld_blt I hg hm hv ?_ hn hdb)
 exact PyProof.Rows.callWith_type1 (thn (ha pos pins s σ H _ I h) λus s1 ⟨vs,H1,I1,r1,q1⟩=>hc pins s1 σ H1 vs us Q I1 r1 q1) he hpl
end
end L2
namespace HT
open PySem PyProof.Rows
section
open PySem.SeqAt
open PySem.AutoSeq1 (wpAny_loadPart')
open PySem.MeetsSeq PySem.MeetsSeq2 PySem.MeetsSeq3
end
section
variable {prog:Program}{w:World}{A:Around}{E:Value->Shared->Prop}{s:Shared}
def sIx (n d:Nat):Option Int->Nat
 |none=>d
 |some v=>if v<0 then (v+(n:Int)).toNat else min v.toNat n
theorem sIx_none (n d:Nat):sIx n d none=d:=rfl
theorem sIx_nat (n d k:Nat):sIx n d (some (k:Int))=min k n:=by
 show (if (k:Int)<0 then ((k:Int)+(n:Int)).toNat else min (k:Int).toNat n)=min k n
 rw [if_neg (by omega),Int.toNat_natCast]
theorem sIx_le (n d:Nat) (hd:d<=n) (o:Option Int):sIx n d o<=n:=by
 cases o with
 |none=>exact hd
 |some v=>
  show (if v<0 then (v+(n:Int)).toNat else min v.toNat n)<=n
  by_cases hv:v<0
  ·rw [if_pos hv];omega
  ·rw [if_neg hv];exact Nat.min_le_right _ _
theorem clip_eq (v:Int) (n d:Nat):(if v<0 then max (v+(n:Int)) 0 else min v (n:Int))=((sIx n d (some v):Nat):Int):=by
 show (if v<0 then max (v+(n:Int)) 0 else min v (n:Int))=(((if v<0 then (v+(n:Int)).toNat else min v.toNat n):Nat):Int)
 by_cases hv:v<0
 ·simp only [if_pos hv];omega
 ·simp only [if_neg hv];omega
theorem adjust_gen (lo hi:Option Int) (n:Nat):Builtin.Slice.sliceAdjust lo hi 1 (n:Int)=(((sIx n 0 lo:Nat):Int),((sIx n n hi:Nat):Int)):=by
 have h1:¬ ((1:Int)<0):=by omega
 unfold Builtin.Slice.sliceAdjust
 simp only [h1,if_false]
 refine Prod.ext ?_ ?_
 ·cases lo with
  |none=>rfl
  |some v=>exact clip_eq v n 0
 ·cases hi with
  |none=>rfl
  |some v=>exact clip_eq v n n
theorem places_gen (i j:Nat):Builtin.Slice.slicePlaces (i:Int) (j:Int) 1=j-i:=by
 unfold Builtin.Slice.slicePlaces
 have h1:(1:Int) > 0:=by omega
 simp only [h1,if_true,Int.ediv_one]
 split<;>omega
theorem slicePart_ {v:Value}{o:Option Int}{Q:Option Int->Shared->Prop} (p:IsPart v o) (h:Q o s):wpAny (model prog w) A (Builtin.Slice.slicePartIndex v) Q E s:=by
 cases p with
 |none=>exact slicePart_none h
 |int i t=>exact slicePart_int h
theorem sliceApplied_gen {sl:Addr}{vl vu:Value}{lo hi:Option Int}{n:Nat}{Q:Int×Int×Nat->Shared->Prop} (hs:s.heap.IsSliceOf sl vl vu .none) (pl:IsPart vl lo) (pu:IsPart vu hi)
  (h:Q (((sIx n 0 lo:Nat):Int),1,sIx n n hi-sIx n 0 lo) s):wpAny (model prog w) A (Builtin.Slice.sliceApplied (.ref sl) (pure (n:Int))) Q E s:=by
 obtain ⟨os,hos,hcs,hds⟩:=id hs
 unfold Builtin.Slice.sliceApplied Builtin.Slice.sliceFields
 refine wpAny_bind (wpAny_bind (wpAny_field hos hds (x:=vl) rfl (wpAny_bind (wpAny_field hos hds (x:=vu) rfl (wpAny_bind (wpAny_field hos hds (x:=.none) rfl (wpAny_pure ?_)))))))
 refine wpAny_bind (slicePart_none ?_)
 show wpAny _ _ (if ((1:Int) == 0)=true then _ else _) _ _ s
 rw [if_neg (by decide)]
 refine wpAny_bind (slicePart_ pl (wpAny_bind (slicePart_ pu (wpAny_bind (wpAny_pure ?_)))))
 show wpAny _ _ (match Builtin.Slice.sliceAdjust lo hi 1 (n:Int) with|(lo,hi)=>pure (lo,(1:Int),Builtin.Slice.slicePlaces lo hi 1)) _ _ s
 rw [adjust_gen lo hi n]
 show wpAny _ _ (pure (((sIx n 0 lo:Nat):Int),(1:Int),Builtin.Slice.slicePlaces ((sIx n 0 lo:Nat):Int) ((sIx n n hi:Nat):Int) 1)) _ _ s
 rw [places_gen]
 exact wpAny_pure h
theorem pick_gen (xs:Array Value) (i k:Nat):((List.range k).filterMap λ(m:Nat)=>xs[((i:Int)+(m:Int) * 1).toNat]?).toArray=((xs.toList.drop i).take k).toArray:=by
 have e:(λ(m:Nat)=>xs[((i:Int)+(m:Int) * 1).toNat]?)=λm=>xs[i+m]?:=by
  funext m
  have:((i:Int)+(m:Int) * 1).toNat=i+m:=by omega
  rw [this]
 rw [e]
 have:=pick_run xs i k
 rw [List.filterMap_map] at this
 have e2:((λx=>xs[x]?) ∘ λx=>i+x)=λm=>xs[i+m]?:=rfl
 rw [e2] at this
 rw [this]
theorem getItem_tuple_cut {t sl:Addr}{items:Array Value}{vl vu:Value}{lo hi:Option Int}{Q:Value->Shared->Prop} (ht:IsTup s.heap t items) (hs:s.heap.IsSliceOf sl vl vu .none) (pl:IsPart vl lo) (pu:IsPart vu hi)
  (hw:¬ (sIx items.size 0 lo=0/\sIx items.size items.size hi=items.size))
  (h:Q (.ref s.heap.objs.size) { s with heap:=s.heap.push { cls:=.type "tuple",data:=.seq ((items.toList.drop (sIx items.size 0 lo)).take (sIx items.size items.size hi-sIx items.size 0 lo)).toArray } })
  (hsz:items.size<=sizeLine):wpAny (model prog w) A (getItem (.ref t) (.ref sl)) Q E s:=by
 have htake:sizeOk (.seq ((items.toList.drop (sIx items.size 0 lo)).take (sIx items.size items.size hi-sIx items.size 0 lo)).toArray):=by
  show ((items.toList.drop (sIx items.size 0 lo)).take (sIx items.size items.size hi-sIx items.size 0 lo)).toArray.size<=sizeLine
  rw [List.size_toArray,List.length_take,List.length_drop,Array.length_toList]
  omega
 have hj:sIx items.size items.size hi<=items.size:=sIx_le _ _ (Nat.le_refl _) hi
 obtain ⟨os,hos,hcs,hds⟩:=id hs
 have hTs:s.TypeIs (.ref sl) "slice":=⟨os,hos,hcs⟩
 unfold getItem
 try with_reducible refine wpAny_holding ?_
 first|refine wpAny_bind (wpAny_pure ?_)|skip
 refine wpAny_bind (wpAny_sequenceKey ht.typeIs (by decide) ?_)
 refine wpAny_bind (wpAny_callSpecial?_slot (name:=Str.ofString "__getitem__") ht.typeIs PyProof.Rows.slot_tuple_getitem
  (wpAny_call_entry PyProof.Rows.slot_tuple_getitem ht.typeIs entry_tuple_getitem ?_ (args_tuple_getitem _ _)))
 show wpAny _ _ (Builtin.Tuple.tupleItemsOf (.ref t) >>= _) _ _ s
 refine wpAny_bind (tupleItemsOf_ ht ?_)
 refine wpAny_bind (wpAny_typeOf hTs ?_)
 rw [if_pos (by decide)]
 refine wpAny_bind (sliceApplied_gen hs pl pu ?_)
 have hno:¬ ((((sIx items.size 0 lo:Nat):Int) == 0 && (1:Int) == 1 && (sIx items.size items.size hi-sIx items.size 0 lo) == items.size)=true):=by
  intro q
  rw [Bool.and_eq_true,Bool.and_eq_true] at q
  have q1:((sIx items.size 0 lo:Nat):Int)=0:=eq_of_beq q.1.1
  have q2:sIx items.size items.size hi-sIx items.size 0 lo=items.size:=eq_of_beq q.2
  exact hw ⟨by omega,by omega⟩
 show wpAny _ _ (if (((sIx items.size 0 lo:Nat):Int) == 0 && (1:Int) == 1 && (sIx items.size items.size hi-sIx items.size 0 lo) == items.size)=true then _ else _) _ _ s
 rw [if_neg hno,pick_gen]
 first
  |exact wpAny_bind (m:=Builtin.Tuple.tupleExact _) (wpAny_newObj_type (wpAny_pure ⟨_,rfl,wpAny_pure h⟩) htake)
  |exact wpAny_bind (m:=Builtin.Tuple.tupleExact _) (wpAny_newObj_type (wpAny_bind (wpAny_pure (wpAny_pure ⟨_,rfl,wpAny_pure h⟩))) htake)
  |exact wpAny_bind (wpAny_bind (m:=Builtin.Tuple.tupleExact _) (wpAny_newObj_type (wpAny_pure (wpAny_pure ⟨_,rfl,wpAny_pure h⟩)) htake))
  |exact wpAny_bind (wpAny_bind (m:=Builtin.Tuple.tupleExact _) (wpAny_newObj_type (wpAny_pure ⟨_,rfl,wpAny_pure h⟩) htake))
end
end HT
namespace L2
open PySem PySem.Spec PyProof.Rows
abbrev TO:=St->Hp->(Option Int->Hp->Prop)->Prop
def PO (X:Cx) (e:Option Expr) (t:TO):Prop:=
 ∀ (pins:List (Addr×Obj)) (s:Shared) (σ:St) (H:Hp) (Q:Option Int->Hp->Prop),Inv X pins σ H s->t σ H Q->
  wpAny (model X.prog X.w) X.A (evalPart e X.env) (λu s'=>∃ o H',Inv X pins σ H' s'/\IsPart u o/\Q o H') X.xe s
def tNoPart:TO:=λ_ H Q=>Q none H
def tPart (t:TE):TO:=fun σ H Q=>t σ H λx H1=>∃ i,x=.int i/\Q (some i) H1
theorem intsAre_of {ns:List Int}:∀ {us:List Value},Vals (ns.map V.int) us->IntsAre us ns:=by
 induction ns with
 |nil=>intro us r;rw [List.map_nil] at r;cases r;exact .nil
 |cons n ns ih=>
  intro us r
  rw [List.map_cons] at r
  cases r with
  |cons r1 r2=>
   obtain ⟨t,e⟩:=r1
   subst e
   exact .cons n t (ih r2)
section
variable {X:Cx}{e:Expr}{te:TE}{lo hi:Option Expr}{tl th:TO}{pos p2:Pos}
theorem po_none:PO X none tNoPart:=by
 intro pins s σ H Q I h
 rw [evalPart_none]
 exact wpAny_pure ⟨none,H,I,.none,h⟩
theorem po_some (h:PE X e te):PO X (some e) (tPart te):=by
 intro pins s σ H Q I hw
 rw [evalPart_some]
 refine thn (h pins s σ H _ I hw) λu s1 ⟨x,H1,I1,r1,q1⟩=>?_
 obtain ⟨i,rfl,q⟩:=q1
 obtain ⟨t,rfl⟩:=r1
 exact ⟨some i,H1,I1,.int i t,q⟩
def SlR (X:Cx) (r:V->Option Int->Option Int->Hp->VK->Prop):Prop:=
 ∀ (pins:List (Addr×Obj)) (s:Shared) (σ:St) (H:Hp) (x:V) (v vl vu:Value) (lo hi:Option Int) (sl:Addr) (Q:VK),Inv X pins σ H s->RelV x v->s.heap.IsSliceOf sl vl vu .none->IsPart vl lo->IsPart vu hi->r x lo hi H Q->
  ∃ T id,typeLookup (.type T) "__getitem__"=pure (some (.builtin id))/\s.TypeIs v T/\wpAny (model X.prog X.w) X.A (getItem v (.ref sl)) (EP X pins σ Q) X.xe s
def tSl (r:V->Option Int->Option Int->Hp->VK->Prop) (te:TE) (tl th:TO):TE:=fun σ H Q=>te σ H λx H1=>tl σ H1 λl H2=>th σ H2 λu H3=>r x l u H3 Q
theorem pe_slice {r:V->Option Int->Option Int->Hp->VK->Prop} (hr:SlR X r) (he:PE X e te) (hl:PO X lo tl) (hu:PO X hi th):PE X (.Subscript e (.Slice lo hi none p2) pos) (tSl r te tl th):=by
 intro pins s σ H Q I h
 refine Subscript_ (thn (he pins s σ H _ I h) λv s1 ⟨x,H1,I1,r1,q1⟩=>?_)
 refine wpAny_Slice (thn (hl pins s1 σ H1 _ I1 q1) λvl s2 ⟨l,H2,I2,pl,q2⟩=>thn (hu pins s2 σ H2 _ I2 q2) λvu s3 ⟨u,H3,I3,pu,q3⟩=>?_)
 rw [evalPart_none]
 refine wpAny_pure ?_
 have I4:Inv X pins σ H3 { s3 with heap:=s3.heap.push { cls:=.type "slice",data:=.fields #[vl,vu,.none] } }:=I3.kept (t':=s3.toks) λb ob q=>Heap.get?_push_of_some _ q
 obtain ⟨T,id,hT,ht,hg⟩:=hr pins { s3 with heap:=s3.heap.push { cls:=.type "slice",data:=.fields #[vl,vu,.none] } } σ H3 x v vl vu l u s3.heap.objs.size Q I4 r1 (Heap.IsSliceOf.new ..) pl pu q3
 show wpAny (model X.prog X.w) X.A (subscriptTail e (.Slice lo hi none p2) v (.ref s3.heap.objs.size)) (EP X pins σ Q) X.xe { s3 with heap:=s3.heap.push { cls:=.type "slice",data:=.fields #[vl,vu,.none] } }
 exact tail_any (ops:=[.ref s3.heap.objs.size,v]) ht hT hg (by with_unfolding_all rfl)
def cutV (xs:List V) (lo hi:Option Int):List V:=(xs.drop (HT.sIx xs.length 0 lo)).take (HT.sIx xs.length xs.length hi-HT.sIx xs.length 0 lo)
theorem cutV_length (xs:List V) (lo hi:Option Int):(cutV xs lo hi).length<=xs.length:=by
 unfold cutV
 rw [List.length_take,List.length_drop]
 omega
def rSlT (K:PySem.W.Frag):V->Option Int->Option Int->Hp->VK->Prop:=λx lo hi H Q=>∃ a xs,x=.ref a/\SqT K H a xs/\
 ¬ (HT.sIx xs.length 0 lo=0/\HT.sIx xs.length xs.length hi=xs.length)/\∀ p,H p=none->Q (.ref p) (upd H p (.tup (cutV xs lo hi)))
theorem sl_tup:SlR X (rSlT X.K):=by
 intro pins s σ H x v vl vu lo hi sl Q I rx hs pl pu h
 obtain ⟨a,xs,rfl,hx,hw,q⟩:=h
 cases rx
 obtain ⟨its,r,ht,hz⟩:=I.tuple hx
 have hlen:its.toArray.size=xs.length:=by rw [List.size_toArray];exact r.length.symm
 refine ⟨"tuple",_,PyProof.Rows.slot_tuple_getitem.lookup,ht.typeIs,?_⟩
 refine HT.getItem_tuple_cut ht hs pl pu (by rw [hlen];exact hw) ?_ (by rw [hlen];exact hz)
 rw [hlen]
 refine ⟨.ref s.heap.objs.size,_,I.laid (t':=s.toks) (o:=.tup (cutV xs lo hi)) (λb ob q=>Heap.get?_push_of_some _ q) (Nat.le_refl _) ?_,rfl,q _ (I.hok.fresh (Nat.le_refl _))⟩
 exact ⟨Nat.le_trans (cutV_length xs lo hi) hz,_,(r.drop (HT.sIx xs.length 0 lo)).take (HT.sIx xs.length xs.length hi-HT.sIx xs.length 0 lo),IsTup.new _ _⟩
end
end L2
namespace L2
open PySem PySem.Spec PyProof.Rows
def ixN (n:Nat) (i:Int):Option Nat:=if 0<=i then (if i<n then some i.toNat else none) else if -(n:Int)<=i then some (i+n).toNat else none
def atI {α:Type} (xs:List α) (i:Int):Option α:=(ixN xs.length i).bind λj=>xs[j]?
theorem ixN_seq {n:Nat}{i:Int}{j:Nat} (h:ixN n i=some j):seqIndex? i n=some j/\j<n/\-(n:Int)<=i/\i<n:=by
 unfold ixN at h
 by_cases h0:0<=i
 ·rw [if_pos h0] at h
  by_cases h1:i<n
  ·rw [if_pos h1] at h
   have e:i.toNat=j:=Option.some.inj h
   exact ⟨by rw [seqIndex_of h0 h1,e],by omega,by omega,h1⟩
  ·rw [if_neg h1] at h;cases h
 ·rw [if_neg h0] at h
  by_cases h1:-(n:Int)<=i
  ·rw [if_pos h1] at h
   have e:(i+n).toNat=j:=Option.some.inj h
   exact ⟨by rw [seqIndex_neg (by omega) h1,e],by omega,h1,by omega⟩
  ·rw [if_neg h1] at h;cases h
theorem atI_get {α:Type}{xs:List α}{i:Int}{v:α} (h:atI xs i=some v):∃ j,seqIndex? i xs.length=some j/\xs[j]?=some v/\j<xs.length/\-(xs.length:Int)<=i/\i<xs.length:=by
 unfold atI at h
 cases e:ixN xs.length i with
 |none=>rw [e] at h;cases h
 |some j=>
  rw [e] at h
  obtain ⟨h1,h2,h3,h4⟩:=ixN_seq e
  exact ⟨j,h1,h,h2,h3,h4⟩
theorem atI_nat {α:Type}{xs:List α}{j:Nat}{v:α} (h:xs[j]?=some v):atI xs (j:Int)=some v:=by
 have hj:j<xs.length:=(List.getElem?_eq_some_iff.mp h).1
 have e:ixN xs.length (j:Int)=some j:=by
  unfold ixN
  rw [if_pos (by omega),if_pos (by omega)];simp
 unfold atI;rw [e];exact h
theorem atI_last {α:Type} (xs:List α) (v:α):atI (xs++[v]) (-1)=some v:=by
 have hl:(xs++[v]).length=xs.length+1:=by simp
 have e:ixN (xs++[v]).length (-1)=some xs.length:=by
  unfold ixN
  rw [hl,if_neg (by decide),if_pos (by omega)]
  congr 1
  omega
 unfold atI
 rw [e]
 show (xs++[v])[xs.length]?=some v
 simp
def PlainIx (b:Expr):Prop:=∀ o i,subscripted b false o i=operate [o,i] (getItem o i)
def IxR (X:Cx) (r:R2):Prop:=
 ∀ (value slice:Expr) (pins:List (Addr×Obj)) (s:Shared) (σ:St) (H:Hp) (x y:V) (v u:Value) (Q:VK),Inv X pins σ H s->RelV x v->RelV y u->r x y H Q->
  subscripted slice false v u=operate [v,u] (getItem v u)->wpAny (model X.prog X.w) X.A (subscriptTail value slice v u) (EP X pins σ Q) X.xe s
def MtR (X:Cx) (id:String) (r:V->List V->Hp->VK->Prop):Prop:=
 ∀ (pins:List (Addr×Obj)) (s:Shared) (σ:St) (H:Hp) (x:V) (xs:List V) (v:Value) (us:List Value) (Q:VK),Inv X pins σ H s->RelV x v->Vals xs us->r x xs H Q->
  wpAny (model X.prog X.w) X.A (call (.builtin id) (v::us)) (EP X pins σ Q) X.xe s
section
variable {X:Cx}{a b:Expr}{ta tb:TE}{pos:Pos}
theorem pe_ix {r:R2} (hr:IxR X r) (ha:PE X a ta) (hb:PE X b tb) (hs:PlainIx b):PE X (.Subscript a b pos) (tOp r ta tb):=by
 intro pins s σ H Q I h
 exact Subscript_ (binT ha hb I h λv u s2 x y H2 I2 rx ry q=>hr a b pins s2 σ H2 x y v u Q I2 rx ry q (hs _ _))
def rIxL (K:PySem.W.Frag):R2:=λx y H Q=>∃ p xs i v,x=.ref p/\y=.int i/\SqL K H p xs/\atI xs i=some v/\Q v H
def rIxT (K:PySem.W.Frag):R2:=λx y H Q=>∃ p xs i v,x=.ref p/\y=.int i/\SqT K H p xs/\atI xs i=some v/\Q v H
def rIxS:R2:=λx y H Q=>∃ z i c,x=.str z/\y=.int i/\z.length<=sizeLine/\atI z.cps.toList i=some c/\Q (.str ⟨#[c]⟩) H
theorem ix_list:IxR X (rIxL X.K):=by
 intro value slice pins s σ H x y v u Q I rx ry h hs
 obtain ⟨p,xs,i,z,rfl,rfl,hq,he,q⟩:=h
 cases rx
 obtain ⟨t,rfl⟩:=ry
 obtain ⟨its,r,pl,hz⟩:=I.list hq
 obtain ⟨j,h1,h2,h3,h4,h5⟩:=atI_get he
 obtain ⟨w,ew,rw'⟩:=r.get h2
 have hl:=r.length
 have hn:=line63
 have fin:EP X pins σ Q w s:=⟨z,H,I,rw',q⟩
 by_cases h0:0<=i
 ·have hj:i.toNat=j:=by
   rw [seqIndex_of h0 h5] at h1
   exact Option.some.inj h1
  exact item_listR pl.isList h0 (by omega) (by rw [hj];simpa using ew) fin hs
 ·have hj:(i+(its.toArray.size:Int)).toNat=j:=by
   rw [seqIndex_neg (by omega) h4] at h1
   rw [List.size_toArray,<-hl]
   exact Option.some.inj h1
  exact subscriptTail_builtinR (x:=w) pl.isList.typeIs slot_list_getitem.lookup
   (wpAny_getItem_list_neg (Q:=λr s'=>r=w/\EP X pins σ Q r s') pl.isList (by omega) (by rw [List.size_toArray]<;>omega) (by omega) (by rw [hj];simpa using ew) ⟨rfl,fin⟩) hs
theorem ix_tup:IxR X (rIxT X.K):=by
 intro value slice pins s σ H x y v u Q I rx ry h hs
 obtain ⟨p,xs,i,z,rfl,rfl,hq,he,q⟩:=h
 cases rx
 obtain ⟨t,rfl⟩:=ry
 obtain ⟨its,r,pl,hz⟩:=I.tuple hq
 obtain ⟨j,h1,h2,h3,h4,h5⟩:=atI_get he
 obtain ⟨w,ew,rw'⟩:=r.get h2
 have hl:=r.length
 have hn:=line63
 have fin:EP X pins σ Q w s:=⟨z,H,I,rw',q⟩
 exact subscriptTail_builtinR (x:=w) pl.typeIs slot_tuple_getitem.lookup
  (getItem_tuple (j:=j) (Q:=λr s'=>r=w/\EP X pins σ Q r s') pl (by omega) (by omega) (by rw [List.size_toArray,<-hl];exact h1) (by simpa using ew) ⟨rfl,fin⟩) hs
theorem ix_str:IxR X rIxS:=by
 intro value slice pins s σ H x y v u Q I rx ry h hs
 obtain ⟨z,i,c,rfl,rfl,hz,he,q⟩:=h
 obtain ⟨t,rfl⟩:=rx
 obtain ⟨t',rfl⟩:=ry
 obtain ⟨j,h1,h2,h3,h4,h5⟩:=atI_get he
 have hl:z.cps.toList.length=z.length:=by simp [Str.length]
 rw [hl] at h1 h4 h5
 have hn:=line63
 exact tail_any (typeIs_str s z t) slot_str_getitem.lookup (getItem_str (c:=c) (by
  have e1:decide (i < -(2 ^ 63:Int))=false:=decide_eq_false (by omega)
  have e2:decide (i ≥ 2 ^ 63)=false:=decide_eq_false (by omega)
  rw [e1,e2,Bool.or_false]) (by rw [h1];simpa using h2) ⟨.str ⟨#[c]⟩,H,I.tok _,⟨_,rfl⟩,q⟩) hs
theorem mapSeq_set (its:List Value) (n j:Nat) (u:Value):Obj.mapSeq (·.setIfInBounds j u) { cls:=.type "list",data:=.seq its.toArray n }={ cls:=.type "list",data:=.seq (its.set j u).toArray n }:=by
 simp [Obj.mapSeq]
theorem Inv.lst {pins:List (Addr×Obj)}{σ:St}{H:Hp}{s:Shared}{p:Addr}{xs:List V} (I:Inv X pins σ H s) (h:H p=some (.lst xs)) :
  ∃ (its:List Value) (n:Nat),Vals xs its/\s.heap.get? p=some { cls:=.type "list",data:=.seq its.toArray n }/\xs.length<=sizeLine:=by
 obtain ⟨z,its,n,r,e⟩:=I.hok p _ h
 exact ⟨its,n,r,e,z⟩
theorem Inv.lstUpd {pins:List (Addr×Obj)}{σ:St}{H:Hp}{s:Shared}{p:Addr}{xs ys:List V}{its its':List Value}{n n':Nat}{f:Obj->Obj} (I:Inv X pins σ H s) (h:H p=some (.lst xs))
  (ho:s.heap.get? p=some { cls:=.type "list",data:=.seq its.toArray n }) (hf:f { cls:=.type "list",data:=.seq its.toArray n }={ cls:=.type "list",data:=.seq its'.toArray n' }) (r:Vals ys its') (hz:ys.length<=sizeLine) (t:Nat) :
  Inv X pins σ (upd H p (.lst ys)) { s with heap:=s.heap.update p f,toks:=t }:=by
 have e:(s.heap.update p f).get? p=some { cls:=.type "list",data:=.seq its'.toArray n' }:=by
  rw [Heap.get?_update_self f ho (by rw [hf]<;>rfl),hf]
 refine I.write (x:=p) (e:=p) (by rw [h];trivial) (.inl rfl) (λb u hb q=>(Heap.get?_update_other _ _ (Ne.symm hb)).trans q) ⟨_,e⟩ ?_
 exact ⟨hz,its',n',r,e⟩
def rSetL:V->V->V->Hp->(Hp->Prop)->Prop:=λo i v H Q=>∃ p xs k j,o=.ref p/\i=.int k/\H p=some (.lst xs)/\ixN xs.length k=some j/\Q (upd H p (.lst (xs.set j v)))
theorem set_list:PSet X rSetL:=by
 intro pins s σ H o i v ov iv u Q I ro ri rv h
 obtain ⟨p,xs,k,j,rfl,rfl,hp,hj,q⟩:=h
 cases ro
 obtain ⟨t,rfl⟩:=ri
 obtain ⟨its,n,r,ho,hz⟩:=I.lst hp
 obtain ⟨h1,h2,h3,h4⟩:=ixN_seq hj
 have hl:=r.length
 have hn:=line63
 have I':Inv X pins σ (upd H p (.lst (xs.set j v))) { s with heap:=s.heap.update p (Obj.mapSeq (·.setIfInBounds j u)) }:=
  I.lstUpd hp ho (mapSeq_set its n j u) (r.set rv j) (by rw [List.length_set];exact hz) s.toks
 by_cases h0:0<=k
 ·have hk:k.toNat=j:=by
   rw [seqIndex_of h0 h4] at h1
   exact Option.some.inj h1
  exact PySem.W.ki_setAt ho h0 (by omega) (by rw [List.size_toArray,<-hl];exact h4) (by rw [hk];exact ⟨_,I',q⟩)
 ·have hk:(k+(its.toArray.size:Int)).toNat=j:=by
   rw [seqIndex_neg (by omega) h3] at h1
   rw [List.size_toArray,<-hl]
   exact Option.some.inj h1
  exact PySem.W.ki_setBack ho (by omega) (by rw [List.size_toArray,<-hl];exact h3) (by omega) (by rw [hk];exact ⟨_,I',q⟩)
theorem slice_bounds (lo hi:Option Int) (n:Nat):(sliceBounds lo hi none n).1=((HT.sIx n 0 lo:Nat):Int)/\(sliceBounds lo hi none n).2.1=((HT.sIx n n hi:Nat):Int)/\(sliceBounds lo hi none n).2.2=1:=by
 refine ⟨?_,?_,rfl⟩
 ·cases lo with
  |none=>simp [sliceBounds,HT.sIx]
  |some i=>
   simp only [sliceBounds,HT.sIx,Option.getD_none,show (1:Int) > 0 by decide,if_true]
   by_cases h:i<0
   ·simp only [h,if_true]<;>omega
   ·simp only [h,if_false]<;>omega
 ·cases hi with
  |none=>simp [sliceBounds,HT.sIx]
  |some i=>
   simp only [sliceBounds,HT.sIx,Option.getD_none,show (1:Int) > 0 by decide,if_true]
   by_cases h:i<0
   ·simp only [h,if_true]<;>omega
   ·simp only [h,if_false]<;>omega
theorem slicePick_cut (its:List Value) (lo hi:Option Int):slicePick its.toArray lo hi none=((its.drop (HT.sIx its.length 0 lo)).take (HT.sIx its.length its.length hi-HT.sIx its.length 0 lo)).toArray:=by
 obtain ⟨h1,h2,h3⟩:=slice_bounds lo hi its.toArray.size
 unfold slicePick
 rw [h1,h2,h3]
 simp only [sliceRange_one,pick_run,List.size_toArray]<;>rfl
def rSlL (K:PySem.W.Frag):V->Option Int->Option Int->Hp->VK->Prop:=λx lo hi H Q=>∃ a xs,x=.ref a/\SqL K H a xs/\∀ p,H p=none->Q (.ref p) (upd H p (.lst (cutV xs lo hi)))
theorem sl_list:SlR X (rSlL X.K):=by
 intro pins s σ H x v vl vu lo hi sl Q I rx hs pl pu h
 obtain ⟨a,xs,rfl,hx,q⟩:=h
 cases rx
 obtain ⟨its,r,ht,hz⟩:=I.list hx
 have hlen:=r.length
 refine ⟨"list",_,slot_list_getitem.lookup,ht.isList.typeIs,?_⟩
 refine wpAny_getItem_list_slice ht.isList hs pl pu .none (by simp) ?_ (by rw [List.size_toArray]<;>omega)
 rw [slicePick_cut,<-hlen]
 refine ⟨.ref s.heap.objs.size,_,I.laid (t':=s.toks) (o:=.lst (cutV xs lo hi)) (λb ob q=>Heap.get?_push_of_some _ q) (Nat.le_refl _) ?_,rfl,q _ (I.hok.fresh (Nat.le_refl _))⟩
 exact ⟨Nat.le_trans (cutV_length xs lo hi) hz,_,0,(r.drop (HT.sIx xs.length 0 lo)).take (HT.sIx xs.length xs.length hi-HT.sIx xs.length 0 lo),Heap.get?_push_size _ rfl⟩
def flatV:V->Bool
 | .non=>true
 | .bl _=>true
 | .int _=>true
 | .str _=>true
 |_=>false
def eqV:V->V->Bool
 | .non,.non=>true
 | .bl a,.bl b=>a == b
 | .bl a,.int b=>(if a then 1 else 0) == b
 | .int a,.bl b=>a == (if b then 1 else 0)
 | .int a,.int b=>a == b
 | .str a,.str b=>a == b
 |_,_=>false
theorem eqAt_V {A:Around}{s:Shared}{y x:V}{u v:Value} (ry:RelV y u) (rx:RelV x v) (fy:flatV y=true) (fx:flatV x=true):SeqAt.EqAt A s u v (eqV y x):=by
 cases y with
 |non=>
  cases ry
  cases x with
  |non=>cases rx;exact SeqAt.EqAt.same _
  |bl b=>cases rx;exact SeqAt.EqAt.none_bool b
  |int b=>obtain ⟨t,rfl⟩:=rx;exact SeqAt.EqAt.none_int b t
  |str b=>obtain ⟨t,rfl⟩:=rx;exact SeqAt.EqAt.none_str b t
  |_=>exact absurd (show false=true from fx) Bool.false_ne_true
 |bl a=>
  cases ry
  cases x with
  |non=>cases rx;exact SeqAt.EqAt.bool_none a
  |bl b=>cases rx;exact SeqAt.EqAt.bool_bool a b
  |int b=>obtain ⟨t,rfl⟩:=rx;exact SeqAt.EqAt.bool_int a b t
  |str b=>obtain ⟨t,rfl⟩:=rx;exact SeqAt.EqAt.bool_str a b t
  |_=>exact absurd (show false=true from fx) Bool.false_ne_true
 |int a=>
  obtain ⟨t',rfl⟩:=ry
  cases x with
  |non=>cases rx;exact SeqAt.EqAt.int_none a t'
  |bl b=>cases rx;exact SeqAt.EqAt.int_bool a t' b
  |int b=>obtain ⟨t,rfl⟩:=rx;exact SeqAt.EqAt.int_int a t' b t
  |str b=>obtain ⟨t,rfl⟩:=rx;exact SeqAt.EqAt.int_str a t' b t
  |_=>exact absurd (show false=true from fx) Bool.false_ne_true
 |str a=>
  obtain ⟨t',rfl⟩:=ry
  cases x with
  |non=>cases rx;exact SeqAt.EqAt.str_none a t'
  |bl b=>cases rx;exact SeqAt.EqAt.str_bool a t' b
  |int b=>obtain ⟨t,rfl⟩:=rx;exact SeqAt.EqAt.str_int a t' b t
  |str b=>obtain ⟨t,rfl⟩:=rx;exact SeqAt.EqAt.str_str a t' b t
  |_=>exact absurd (show false=true from fx) Bool.false_ne_true
 |_=>exact absurd (show false=true from fy) Bool.false_ne_true
theorem call_len_seq:CallR X (.builtin "len") (λxs H Q=>∃ p ys,xs=[.ref p]/\(SqL X.K H p ys∨SqT X.K H p ys)/\Q (.int ys.length) H):=by
 intro pins s σ H xs us Q I r h
 obtain ⟨p,ys,rfl,hq,q⟩:=h
 obtain ⟨u,rfl,rx⟩:=vals1 r
 cases rx
 have hn:=line63
 rcases hq with hq|hq
 ·obtain ⟨its,r',pl,hz⟩:=I.list hq
  have hlen:=r'.length
  exact Calls.call_len_list pl.isList (by simp only [List.size_toArray]<;>omega) ⟨.int ys.length,H,I.tok _,⟨s.toks+1,by rw [List.size_toArray,hlen]⟩,q⟩
 ·obtain ⟨its,r',pl,hz⟩:=I.tuple hq
  have hlen:=r'.length
  exact len_tuple pl (by simp only [List.size_toArray]<;>omega) ⟨.int ys.length,H,I.tok _,⟨s.toks+1,by rw [List.size_toArray,hlen]⟩,q⟩
def tyV (K:PySem.W.Frag) (T:String) (x:V) (H:Hp):Prop:=match x with
 | .str _=>T="str"
 | .int _=>T="int"
 | .ref p=>(T="list"/\∃ xs,SqL K H p xs)∨(T="tuple"/\∃ o,K.lookup p=some o/\o.cls=.type "tuple"/\o.dict=none) ∨
   (T="dict"/\((∃ kvs,H p=some (.dK kvs))∨∃ kvs,H p=some (.dT kvs)))∨(T="set"/\∃ S n,H p=some (.set S n))
 |_=>False
theorem tyV_is {pins:List (Addr×Obj)}{σ:St}{H:Hp}{s:Shared}{T:String}{x:V}{v:Value} (I:Inv X pins σ H s) (r:RelV x v) (ty:tyV X.K T x H) :
  s.TypeIs v T/\∀ a,v=.ref a->∃ ob,s.heap.get? a=some ob/\ob.dict=none:=by
 cases x with
 |str z=>
  obtain ⟨t,rfl⟩:=r
  cases (show T="str" from ty)
  exact ⟨typeIs_str s z t,λ_ e=>nomatch e⟩
 |int i=>
  obtain ⟨t,rfl⟩:=r
  cases (show T="int" from ty)
  exact ⟨typeIs_int s i t,λ_ e=>nomatch e⟩
 |ref p=>
  cases r
  rcases ty with ⟨rfl,xs,hq⟩|⟨rfl,o,hk,hc,hd⟩|⟨rfl,hk⟩|⟨rfl,S,n,hk⟩
  ·obtain ⟨its,_,pl,_⟩:=I.list hq
   refine ⟨pl.isList.typeIs,λa e=>?_⟩
   cases e
   obtain ⟨o,n,e,c,hd,_⟩:=pl
   exact ⟨o,e,hd⟩
  ·refine ⟨⟨o,I.kIn p o hk,hc⟩,λa e=>?_⟩
   cases e
   exact ⟨o,I.kIn _ o hk,hd⟩
  ·have z:∃ o,s.heap.get? p=some o/\o.ExactDict:=by
    rcases hk with ⟨kvs,hk⟩|⟨kvs,hk⟩
    ·obtain ⟨_,_,_,_,o,_,_,e,ex,_⟩:=I.hok p _ hk
     exact ⟨o,e,ex⟩
    ·obtain ⟨_,_,_,_,o,_,_,e,ex,_⟩:=I.hok p _ hk
     exact ⟨o,e,ex⟩
   obtain ⟨o,e,ex⟩:=z
   refine ⟨⟨o,e,ex.1⟩,λa e2=>?_⟩
   cases e2
   exact ⟨o,e,ex.2.1⟩
  ·obtain ⟨o,_,_,_,e,ex,_⟩:=I.hok p _ hk
   refine ⟨⟨o,e,ex.1⟩,λa e2=>?_⟩
   cases e2
   exact ⟨o,e,ex.2.1⟩
 |_=>exact False.elim ty
def tBM (K:PySem.W.Frag) (T:String) (r:V->List V->Hp->VK->Prop) (to:TE) (t:TA):TE:=fun σ H Q=>to σ H λx H1=>tyV K T x H1/\t σ H1 λxs H2=>r x xs H2 Q
variable {o e:Expr}{es:List Expr}{to:TE}{t:TA}{name:Str}{apos cpos:Pos}{T id:String}{r:V->List V->Hp->VK->Prop}
theorem pe_bm (pa:PlainAttrs T) (slot:Slot T name id) (hty:typeOf (.builtin id)=pure (.type "method_descriptor")) (hm:MtR X id r) (ho:PE X o to) (ha:PA X (e::es) t)
  (hbase:attributeBase o name X.env (eval o X.env)=eval o X.env:=by rfl)
  (hfew:((backTo cpos (starEach (e::es) X.env)).all (λx=>!x.1) && (backToKw cpos (keywordEach [] X.env)).all (λx=>x.1.isSome)
   && decide ((e::es).length+([]:List Keyword).length+(if ([]:List Keyword).isEmpty then 0 else 1)<30))=true:=by rfl)
  (hline:(apos.endLine == cpos.line)=true:=by rfl) (hs:starEach (e::es) X.env=(false,eval e X.env)::starEach es X.env:=by rfl) (hplain:(backTo cpos (starEach es X.env)).any (·.1)=false:=by rfl) :
  PE X (.Call (.Attribute o name apos) (e::es) [] cpos) (tBM X.K T r to t):=by
 intro pins s σ H Q I h
 refine wpAny_Call_method_late hbase hfew hline rfl (thn (ho pins s σ H _ I h) λv s1 ⟨x,H1,I1,r1,ty,q1⟩=>?_)
 obtain ⟨h1,h2⟩:=tyV_is I1 r1 ty
 refine ⟨T,id,pa,slot,hty,h1,h2,?_⟩
 have hA:=ha cpos pins s1 σ H1 _ I1 q1
 rw [hs] at hA ⊢
 refine Calls.callWith_builtin (by show (false || (backTo cpos (starEach es X.env)).any (·.1))=false;rw [hplain]<;>rfl) (Calls.evalArgs_plain ?_)
 exact thn hA λus s2 ⟨vs,H2,I2,r2,q2⟩=>hm pins s2 σ H2 x vs v us Q I2 r1 r2 q2
end
end L2
namespace L2
open PySem PySem.Spec PyProof.Rows
def MtM (X:Cx) (id:String) (r:V->List V->Hp->VK->Prop):Prop:=
 ∀ (pins:List (Addr×Obj)) (s:Shared) (σ:St) (H:Hp) (x:V) (xs:List V) (v:Value) (us:List Value) (Q:VK),Inv X pins σ H s->RelV x v->Vals xs us->r x xs H Q->
  wpAny (model X.prog X.w) X.A (call (.builtin id) (v::us)) (EP X pins σ Q) X.xe s
theorem Vals.one:∀ {x:V}{us:List Value},Vals [x] us->∃ u,us=[u]/\RelV x u
 |_,_,.cons r .nil=>⟨_,rfl,r⟩
theorem Vals.two:∀ {x y:V}{us:List Value},Vals [x,y] us->∃ u v,us=[u,v]/\RelV x u/\RelV y v
 |_,_,_,.cons r (.cons q .nil)=>⟨_,_,rfl,r,q⟩
section
variable {X:Cx}{pins:List (Addr×Obj)}{σ:St}{H:Hp}{s:Shared}{l b:Addr}{xs ys zs:List V}
theorem Inv.lset {its its':List Value}{n:Nat}{f:Array Value->Array Value}{t':Nat} (I:Inv X pins σ H s) (hH:H l=some (.lst xs))
  (e:s.heap.get? l=some { cls:=.type "list",data:=.seq its.toArray n }) (hf:f its.toArray=its'.toArray) (hv:Vals ys its') (hz:ys.length<=sizeLine) :
  Inv X pins σ (upd H l (.lst ys)) { s with heap:=s.heap.update l (Obj.mapSeq f),toks:=t' }:=by
 have q:=PySem.IsL.update e f
 rw [hf] at q
 refine I.write (x:=l) (e:=l) (by rw [hH];exact trivial) (.inl rfl) (λb' u hb hu=>(Heap.get?_update_other s.heap (Obj.mapSeq f) (Ne.symm hb)).trans hu) ⟨_,q⟩ ?_
 exact ⟨hz,its',_,hv,q⟩
theorem Inv.lnew {its:List Value}{t':Nat} (I:Inv X pins σ H s) (hv:Vals ys its) (hz:ys.length<=sizeLine) :
  Inv X pins σ (upd H s.heap.objs.size (.lst ys)) { s with heap:=s.heap.push { cls:=.type "list",data:=.seq its.toArray },toks:=t' }:=
 I.laid (λ_ _ q=>Heap.get?_push_of_some _ q) (Nat.le_refl _) ⟨hz,its,0,hv,Heap.get?_push_size _ rfl⟩
theorem Inv.fresh (I:Inv X pins σ H s):H s.heap.objs.size=none:=I.hok.fresh (Nat.le_refl _)
theorem Inv.lstM (I:Inv X pins σ H s) (hH:H l=some (.lst xs)):xs.length<=sizeLine/\∃ (its:List Value) (n:Nat),Vals xs its/\xs.length=its.length/\s.heap.get? l=some { cls:=.type "list",data:=.seq its.toArray n }:=by
 obtain ⟨z,its,n,r,e⟩:=I.hok l _ hH
 exact ⟨z,its,n,r,r.length,e⟩
theorem notLongL {n:Nat} (h:n<=sizeLine):Builtin.List.listTooLong n=false:=by
 unfold Builtin.List.listTooLong
 exact decide_eq_false (by omega)
end
section
variable {X:Cx}
def rAppend:V->List V->Hp->VK->Prop:=λx vs H Q=>∃ l xs y,x=.ref l/\vs=[y]/\H l=some (.lst xs)/\xs.length<sizeLine/\Q .non (upd H l (.lst (xs++[y])))
theorem mt_append:MtM X "list.append" rAppend:=by
 intro pins s σ H x vs v us Q I rx rv h
 obtain ⟨l,xs,y,rfl,rfl,hH,hz,q⟩:=h
 cases rx
 obtain ⟨u,rfl,ru⟩:=rv.one
 obtain ⟨z,its,n,r,hl,e⟩:=I.lstM hH
 refine call_meets F.slot_list_append ⟨_,e,rfl⟩ F.entry_list_append (F.args_list_append_2 _ _) (PySem.list_append l its.toArray n u (by rw [List.size_toArray];omega)) ⟨e,?_⟩
 refine ⟨.non,_,I.lset (its':=its++[u]) hH e (by simp) (r.append (.cons ru .nil)) ?_,rfl,q⟩
 rw [List.length_append,List.length_singleton]
 omega
def rExtend:V->List V->Hp->VK->Prop:=λx vs H Q=>∃ l b xs zs,x=.ref l/\vs=[.ref b]/\H l=some (.lst xs)/\H b=some (.lst zs)/\xs.length+zs.length<=sizeLine/\Q .non (upd H l (.lst (xs++zs)))
theorem mt_extend:MtM X "list.extend" rExtend:=by
 intro pins s σ H x vs v us Q I rx rv h
 obtain ⟨l,b,xs,zs,rfl,rfl,hH,hB,hz,q⟩:=h
 cases rx
 obtain ⟨u,rfl,ru⟩:=rv.one
 cases ru
 obtain ⟨z,its,n,r,hl,e⟩:=I.lstM hH
 obtain ⟨z2,its2,n2,r2,hl2,e2⟩:=I.lstM hB
 have hsz:its.toArray.size+its2.toArray.size<=sizeLine:=by rw [List.size_toArray,List.size_toArray];omega
 have hlong:¬ (!its.toArray.isEmpty && Builtin.List.listTooLong (its.toArray.size+its2.toArray.size))=true:=by
  rw [notLongL hsz,Bool.and_false]
  exact Bool.false_ne_true
 refine call_meets F.slot_list_extend ⟨_,e,rfl⟩ F.entry_list_extend (F.args_list_extend_2 _ _)
  (AutoSeq1.list_extend_list_list_0 l its.toArray n b its2.toArray n2 hlong (by rw [List.size_toArray];omega) (by omega)) ⟨e,e2,?_⟩
 refine ⟨.non,_,I.lset (its':=its++its2) hH e (by simp) (r.append r2) ?_,rfl,q⟩
 rw [List.length_append]
 omega
def rCat:R2:=λx y H Q=>∃ l b xs zs,x=.ref l/\y=.ref b/\H l=some (.lst xs)/\H b=some (.lst zs)/\xs.length+zs.length<=sizeLine/\∀ p,H p=none->Q (.ref p) (upd H p (.lst (xs++zs)))
theorem op_cat:OpR X (binaryOp .Add) rCat:=by
 intro pins s σ H x y v u Q I rx ry h
 obtain ⟨l,b,xs,zs,rfl,rfl,hH,hB,hz,q⟩:=h
 cases rx
 cases ry
 obtain ⟨z,its,n,r,hl,e⟩:=I.lstM hH
 obtain ⟨z2,its2,n2,r2,hl2,e2⟩:=I.lstM hB
 refine PySem.P.add_list e e2 ?_ (by rw [List.size_toArray,List.size_toArray];omega)
 have ea:its.toArray++its2.toArray=(its++its2).toArray:=by simp
 rw [ea]
 exact ⟨.ref _,_,I.lnew (t':=s.toks) (r.append r2) (by rw [List.length_append];omega),rfl,q _ I.fresh⟩
end
section
variable {prog:Program}{w:World}{A:Around}{E:Value->Shared->Prop}{s:Shared}
theorem bounds_run {a c n:Nat} (hac:a<=c) (hc:c<=n):sliceBounds (some (a:Int)) (some (c:Int)) none n=((a:Int),(c:Int),1):=by
 simp only [sliceBounds,Option.getD_none]
 have h1:¬ ((a:Int)<0):=by omega
 have h2:¬ ((c:Int)<0):=by omega
 simp only [h1,h2,if_false,show (1:Int) > 0 by decide,if_true]
 congr 1
 ·omega
 ·congr 1;omega
set_option maxRecDepth 100000 in
theorem setItem_slice {l b sl:Addr}{items new:Array Value}{n n2:Nat}{vl vu:Value}{a c:Nat}{Q:Unit->Shared->Prop}
  (e:s.heap.get? l=some { cls:=.type "list",data:=.seq items n }) (e2:s.heap.get? b=some { cls:=.type "list",data:=.seq new n2 }) (hne:l≠b)
  (hs:s.heap.IsSliceOf sl vl vu .none) (pl:IsPart vl (some (a:Int))) (pu:IsPart vu (some (c:Int))) (hac:a<=c) (hc:c<=items.size)
  (hsz:items.size+new.size<=sizeLine) (h:Q () { s with heap:=s.heap.update l (Obj.mapSeq λxs=>xs.extract 0 a++new++xs.extract c xs.size) }) :
  wpAny (model prog w) A (setItem (.ref l) (.ref sl) (.ref b)) Q E s:=by
 have hl:s.heap.IsList l items:=PySem.IsL.isList e
 have hb:s.heap.IsList b new:=PySem.IsL.isList e2
 obtain ⟨os,hos,hcs,hds⟩:=id hs
 have hTs:s.TypeIs (.ref sl) "slice":=⟨os,hos,hcs⟩
 have hstep:¬ ((rawPart none == rawInt 0)=true):=Bool.false_ne_true
 have hsame:Builtin.List.listSameRef (.ref l) (.ref b)=false:=by
  unfold Builtin.List.listSameRef
  exact beq_eq_false_iff_ne.mpr hne
 have hmax:(max (a:Int) (c:Int)).toNat=c:=by omega
 have hz':((λxs:Array Value=>xs.extract 0 a++new++xs.extract c xs.size) items).size<=sizeLine+1:=by
  simp only [Array.size_append,Array.size_extract]
  omega
 unfold setItem
 try with_reducible refine wpAny_holding ?_
 first|refine wpAny_bind (wpAny_pure ?_)|skip
 refine wpAny_bind (wpAny_sequenceKey hl.typeIs (by decide) ?_)
 refine wpAny_bind (wpAny_callSpecial?_slot (name:=Str.ofString "__setitem__") hl.typeIs slot_list_setitem
  (wpAny_call_entry slot_list_setitem hl.typeIs entry_list_setitem ?_ (args_list_setitem _ _ _)))
 show wpAny _ _ (Builtin.List.listSubscript? (.ref sl) >>= _) _ _ s
 refine wpAny_bind ?_
 unfold Builtin.List.listSubscript?
 refine wpAny_bind (wpAny_specialOf hTs slice_no_index ?_)
 simp only [Option.isNone_none,if_true]
 refine wpAny_pure ?_
 show wpAny _ _ (typeOf (.ref sl) >>= _) _ _ s
 refine wpAny_bind (wpAny_typeOf hTs ?_)
 first
  |rw [if_neg (by decide)]
  |refine PySem.W.KFB.if_not (by decide) ?_
 rw [listSliceParts_eq]
 refine wpAny_bind (wpAny_bind (wpAny_field hos hds (x:=.none) rfl (wpAny_bind (wpAny_listPart .none ?_))))
 rw [if_neg hstep]
 refine wpAny_bind (wpAny_field hos hds (x:=vl) rfl (wpAny_bind (wpAny_listPart pl ?_)))
 refine wpAny_bind (wpAny_field hos hds (x:=vu) rfl (wpAny_bind (wpAny_listPart pu (wpAny_pure ?_))))
 first
  |simp only [hsame,Bool.false_eq_true,if_false]
  |refine PySem.W.KFB.if_not hsame ?_
  |(dsimp only
    rw [if_neg (by rw [hsame];exact Bool.false_ne_true)])
 refine wpAny_bind (m:=Builtin.List.listAllItems (.ref b) "must assign iterable to extended slice") ?_
 unfold Builtin.List.listAllItems
 refine wpAny_bind (wpAny_typeOf hb.typeIs ?_)
 first
  |refine PySem.W.KFB.if_so (by decide) ?_
  |rw [if_pos (by decide)]
  |simp only [beq_self_eq_true,Bool.true_or,if_true]
 unfold Builtin.List.listItems
 refine wpAny_bind (wpAny_seqItems e2 rfl (wpAny_pure ?_))
 refine wpAny_bind (wpAny_bind (wpAny_seqItems e rfl (wpAny_pure ?_)))
 refine wpAny_bind (wpAny_of_eq ((sliceIndices_raw (some (a:Int)) (some (c:Int)) none items.size (by simp)).trans (congrArg (pure:Int×Int×Int->Sem (Int×Int×Int)) (bounds_run hac hc))) ?_)
 show wpAny _ _ (if ((1:Int) == 1)=true then _ else _) _ _ s
 rw [if_pos (by decide)]
 refine wpAny_bind (wpAny_rule ?_)
 first
  |simp only [notLongL hsz,Bool.false_eq_true,if_false]
  |refine PySem.W.KFB.if_not (notLongL hsz) ?_
 first|refine wpAny_bind (wpAny_pure ?_)|skip
 show wpAny _ _ (updateSeq l (λxs=>xs.extract 0 ((a:Int)).toNat++new++xs.extract (max (a:Int) (c:Int)).toNat xs.size) >>= _) _ _ s
 rw [hmax,Int.toNat_natCast]
 refine wpAny_bind (wpAny_updateSeq (hz:=Nat.le_trans (Nat.le_add_right _ _) hsz) (_hz':=hz') e rfl ?_)
 refine wpAny_bind (wpAny_letGo ?_)
 first
  |exact wpAny_bind (wpAny_pure (wpAny_pure ⟨.none,rfl,wpAny_pure h⟩))
  |exact wpAny_pure ⟨.none,rfl,wpAny_pure h⟩
end
section
variable {X:Cx}
end
end L2
namespace Att
open PySem PySem.W PySem.Calls PyProof.Rows
theorem ints_of_wellAll {P:Params}{h:Heap}:∀ (ns:List Int) (vs:List Value),WellAll P h vs (ns.map WData.int)->IntsAre vs ns:=by
 intro ns
 induction ns with
 |nil=>
  intro vs w
  rw [List.map_nil] at w
  cases w
  exact .nil
 |cons n ns ih=>
  intro vs w
  rw [List.map_cons] at w
  cases w with
  |cons a b=>
   cases a
   exact .cons _ _ (ih _ b)
theorem script_of {l:OpenLaw}{n:Nat} (hn:l.most=some n) {P:Params}{h:Heap}{args:List WData}{vals:List Value}
  (hpre:l.row.toRowW.claim.pre args=true) (hwl:WellAll P h vals args) :
  ∃ a vs ns,vals=[Value.ref a]/\args=[WData.list (ns.map WData.int)]/\h.get? a=some { cls:=.type "list",data:=.seq vs.toArray }/\IntsAre vs ns/\ns.length<=n:=by
 have hsh:WShape.hasAll [] args [.list .int]=true:=(pre_splitW hpre).1
 have hc:l.pre.holds [] { args:=args }=true:=(pre_splitW hpre).2
 obtain ⟨d,r,rfl,h1,h2⟩:=hasAllW_cons hsh
 obtain rfl:=hasAllW_nil h2
 obtain ⟨xs,rfl,h3⟩:=hasW_list h1
 obtain ⟨ns,rfl⟩:=items_int h3
 have hlen:ns.length<=n:=by
  unfold OpenLaw.pre at hc
  have h4:(WTm.not (.lt (.lit (.int (n:Int))) (.len (.arg 0)))).holds [] { args:=[.list (ns.map .int)] }=true:=by
   have h4:=(holds_andW hc).1
   rw [hn] at h4
   exact h4
  have h5:=condW_of h4 (w_not (w_lt w_lit (w_len_list (w_arg rfl))))
  rw [List.length_map] at h5
  refine Nat.le_of_not_lt λq=>?_
  have q':(n:Int)<((ns.length:Nat):Int):=by omega
  first
   |(rw [decide_eq_true q'] at h5;exact absurd h5 (by decide))
   |(simp at h5;omega)
 cases hwl with
 |cons w1 w2=>
  cases w2
  cases w1 with
  |list ho hall=>exact ⟨_,_,ns,rfl,rfl,ho,ints_of_wellAll ns _ hall,hlen⟩
theorem post_true (l:OpenLaw) (args:List WData):l.row.toRowW.claim.post args (.bool true) args=true:=
 postW_of (r:=l.row.toRowW) (X:=(true == true))
  (show WShape.has [] (.bool true) .bool=true by first|rfl|decide|simp [WShape.has,WShape.arms,WShape.armsAll])
  (show (WTm.eq .res (.lit (.bool true))).value [] { args:=args,res:=some (.bool true),after:=args }=some (.bool (true == true)) from w_eq_bool (w_res rfl) w_lit) rfl
theorem attach_call {l:OpenLaw}{n:Nat}{q:Program}{loose:List Str}{XP:(Str->Option Value)->Heap->Prop}{YP:World->Heap->Prop}{d:DefRec}
  (hn:l.most=some n) (hdf:d.params.defaults=[])
  (call:∀ (w:World) (s₀ s₁:Shared) (mg mb:Str->Option Value) (fa:Addr) (o:Obj) (pm cd doc:Value) (a:Addr) (vs:List Value) (ns:List Int),
   Ground q loose [] XP w s₀ mg mb s₁.heap->YP w s₁.heap->
   s₁.heap.get? fa=some o->o.data=.func (docDef d.name d.params d.body d.scope pm cd doc)->s₁.heap.CodeRec cd d.name->mg d.name=some (.ref fa)->
   s₁.heap.get? a=some { cls:=.type "list",data:=.seq vs.toArray }->IntsAre vs ns->ns.length<=n->s₁.gens=#[]->
   codeAny (model l.prog w) callerA (.call (.ref fa) ⟨[.ref a],[]⟩) (λr s'=>r=.ok (.ret (.bool true))/\OldK s₁.heap s'.heap/\s'.os=s₁.os/\AllBare s'.gens) s₁) :
  WalkO q loose XP YP l.row.toRowW d [] (λf vs=>PySem.call f vs):=by
 intro w s₀ s₁ mg mb G Y fa o pm cd doc dV kV ho hd hcd hD hmg hg args vals as hpre hlay hrd hwl hlo
 obtain rfl:dV=.none:=Dflts.none hD hdf
 obtain rfl:kV=.none:=Dflts.noKw hD
 obtain ⟨a,vs,ns,rfl,rfl,hobj,hints,hlen⟩:=script_of hn hpre hwl
 refine enter_call (codeAny_mono (call w s₀ s₁ mg mb fa o pm cd doc a vs ns G Y ho (fd_plain hd) hcd hmg hobj hints hlen hg) λr s' hq=>?_)
 obtain ⟨rfl,h2,h3,h4⟩:=hq
 exact ⟨.inl ⟨.bool true,.bool true,[],rfl,λ_=>rfl,.bool true,post_true l _,λ_=>⟨List.Pairwise.nil,λ_ hm=>(nomatch hm)⟩⟩,h2,h3,h4⟩
section
variable {prog:Program}{w:World}{A:Around}{E:Value->Shared->Prop}{s:Shared}{K:Frag}
end
end Att
namespace L2
open PySem PySem.Spec PyProof.Rows
theorem vals_ints:∀ {vs:List Value}{ns:List Int},IntsAre vs ns->Vals (ns.map V.int) vs
 |_,_,.nil=>.nil
 |_,_,.cons n t h=>.cons ⟨t,rfl⟩ (vals_ints h)
def Only (H:Hp):Prop:=∀ b,H b=none∨∃ o xs,H b=some (.frz o (.lst xs))
theorem law_call {P:Program}{w:World}{K:PySem.W.Frag}{mg mb:Str->Option Value}{CX:CXT}{k:Nat}{fa a:Addr}{fd:FuncData}{x:Str}{sp:Sp}{s₁:Shared}{vs:List Value}{ns:List Int}
  (KX:K.In s₁.heap) (hns:s₁.heap.Ns mainGlobals mg) (hb:s₁.heap.Ns builtinsNs mb) (hbb:∀ x:Str,x≠"__name__"->mb x=bootBuiltins x) (hlim:s₁.heap.NoLimit) (hg:s₁.gens=#[])
  (ha:s₁.heap.get? a=some { cls:=.type "list",data:=.seq vs.toArray }) (hi:IntsAre vs ns) (hl:ns.length<=sizeLine) (hr:Room k callerA)
  (F:∀ base:Heap,K.In base->base.Ns mainGlobals mg->FnOk P w K mg base CX k fa fd [x] sp) (hbind:∀ (s:Shared) (u:Value),BindsTo s fd ⟨[u],[]⟩ [(x,u)])
  (hsp:∀ H:Hp,Only H->SqL K H a (ns.map V.int)->sp [.ref a] H (λv _=>v=.bl true) λ_ _ _=>False)
  (hCX:∀ H e s',CX [] H s₁ (λ_ _ _=>False) e s'->False) :
  codeAny (model P w) callerA (.call (.ref fa) ⟨[.ref a],[]⟩) (λr s'=>r=.ok (.ret (.bool true))/\OldK s₁.heap s'.heap/\s'.os=s₁.os/\AllBare s'.gens) s₁:=by
 have rv:=vals_ints hi
 have lenV:=hi.length
 have core:∀ H:Hp,Only H->SqL K H a (ns.map V.int)->HOk P w H s₁.heap->(∀ b,H b≠none->b=a)->(H a≠none->K.lookup a=none)->
   codeAny (model P w) callerA (.call (.ref fa) ⟨[.ref a],[]⟩) (λr s'=>r=.ok (.ret (.bool true))/\OldK s₁.heap s'.heap/\s'.os=s₁.os/\AllBare s'.gens) s₁:=by
  intro H hO hS hok hA hK
  have base_of:∀ {b:Addr}{o:Obj},s₁.heap.get? b=some o->H b=none->(hidT s₁.heap H).get? b=some o:=λe n=>hidT_get e n
  have noA:∀ {b:Addr}{o:Obj}{es:Array DictEntry}{ep:Nat},s₁.heap.get? b=some o->o.data=.dict es ep->H b=none:=λ{b o es ep} e d=>by
   cases q:H b with
   |none=>rfl
   |some u=>
    have e':b=a:=hA b (by rw [q];simp)
    subst e'
    rw [ha] at e;cases e
    have d':Data.seq vs.toArray _=Data.dict es ep:=d
    cases d'
  have nsK:∀ {b:Addr}{m:Str->Option Value},s₁.heap.Ns b m->(hidT s₁.heap H).Ns b m:=λ{b m} ⟨o,es,ep,e,d,r⟩=>⟨o,es,ep,base_of e (noA e d),d,r⟩
  have hKb:K.In (hidT s₁.heap H):=λb o e=>base_of (KX b o e) (by
   cases q:H b with
   |none=>rfl
   |some u=>
    have e':b=a:=hA b (by rw [q];simp)
    subst e'
    rw [hK (by rw [q];simp)] at e;cases e)
  have hM:Mod K mg (hidT s₁.heap H):=⟨hKb,nsK hns,⟨mb,nsK hb,hbb⟩,let ⟨mc,h1,h2⟩:=hlim;⟨mc,nsK h1,h2⟩⟩
  have e0:Env0 P w K mg (hidT s₁.heap H) callerA [] s₁ H:=⟨rfl,hM,λb o e=>of_hidT e,Nat.le_of_eq (hidT_size _ _),trivial,λb hb=>absurd (show b∈([]:List Addr) from hb) (by simp),hok,.of_eq hg⟩
  refine codeAny_mono ((F _ hKb (nsK hns)).run callerA [] s₁ H ⟨[.ref a],[]⟩ [.ref a] [.ref a] _ _ hr e0 (hbind s₁ (.ref a)) (.cons rfl .nil) (hsp H hO hS)) λr s' h=>?_
  cases r with
  |error e=>exact (hCX H e s' h).elim
  |ok fl=>
   cases fl with
   |next=>exact False.elim h
   |brk=>exact False.elim h
   |cont=>exact False.elim h
   |ret u=>
    obtain ⟨v,H',os,bare,un,hok',r',q⟩:=h
    have q':v=.bl true:=q
    subst q'
    obtain rfl:u=Value.bool true:=r'
    refine ⟨rfl,OldK.of_keep λb o e=>?_,os,bare⟩
    cases q:H b with
    |none=>exact un.keep b o e q (by intro z;exact absurd (show b∈([]:List Addr) from z) (by simp)) (by simp)
    |some u=>
     rcases hO b with z|⟨ob,xs,z⟩
     ·rw [q] at z;cases z
     ·have z2:=un.frzs b ob _ z
      obtain ⟨e1,_⟩:=hok b _ z
      obtain ⟨e2,_⟩:=hok' b _ z2
      rw [e] at e1;cases e1
      exact e2
 cases hk:K.lookup a with
 |some o=>
  have e:=KX a o hk
  rw [ha] at e
  cases e
  refine core (λ_=>none) (λ_=>.inl rfl) (.inr ⟨_,vs.toArray,_,hk,rfl,rfl,rfl,by rw [List.size_toArray,lenV];exact hl,by simpa using rv⟩) (λb u z=>by have z':(none:Option HO)=some u:=z;cases z') (λb z=>absurd rfl z) λz=>absurd rfl z
 |none=>
  refine core (λb=>if b=a then some (.frz { cls:=.type "list",data:=.seq vs.toArray } (.lst (ns.map V.int))) else none) (λb=>?_) (.inl (.inr ⟨{ cls:=.type "list",data:=.seq vs.toArray },if_pos rfl⟩)) (λb u z=>?_) (λb z=>?_) λ_=>hk
  ·by_cases hb:b=a
   ·exact .inr ⟨_,_,if_pos hb⟩
   ·exact .inl (if_neg hb)
  ·by_cases hb:b=a
   ·have z':=(if_pos hb).symm.trans z
    cases z'
    subst hb
    exact ⟨ha,by rw [List.length_map];exact hl,vs,_,rv,ha⟩
   ·have z':=(if_neg hb).symm.trans z
    cases z'
  ·by_cases hb:b=a
   ·exact hb
   ·exact absurd (if_neg hb) z
end L2
namespace L2
open PySem PySem.Spec PyProof.Rows
theorem walk_of {l:PySem.W.OpenLaw}{n k:Nat}{q:Program}{loose:List Str}{XP:(Str->Option Value)->Heap->Prop}{YP:World->Heap->Prop}{d:DefRec}{K:Params->PySem.W.Frag}{CX:World->CXT}{sp:World->Sp}{x:Str}
  (hn:l.most=some n) (hn2:n<=sizeLine) (hdf:d.params.defaults=[]) (hr:Room k callerA)
  (hY:∀ (w:World) (h:Heap),YP w h->(K w.params).In h)
  (F:∀ (w:World) (mg:Str->Option Value) (fa:Addr) (h:Heap),(K w.params).In h->h.Ns mainGlobals mg->mg d.name=some (.ref fa)->
   ∃ fd:FuncData,(∀ (s:Shared) (u:Value),BindsTo s fd ⟨[u],[]⟩ [(x,u)])/\
    ∀ base:Heap,(K w.params).In base->base.Ns mainGlobals mg->FnOk l.prog w (K w.params) mg base (CX w) k fa fd [x] (sp w))
  (hsp:∀ (w:World) (H:Hp) (a:Addr) (ns:List Int),ns.length<=n->Only H->SqL (K w.params) H a (ns.map V.int)->sp w [.ref a] H (λv _=>v=.bl true) λ_ _ _=>False)
  (hCX:∀ (w:World) (H:Hp) (s:Shared) (e:Value) (s':Shared),CX w [] H s (λ_ _ _=>False) e s'->False) :
  PySem.W.WalkO q loose XP YP l.row.toRowW d [] (λf vs=>PySem.call f vs):=by
 refine Att.attach_call hn hdf λw s₀ s₁ mg mb fa o pm cd doc a vs ns G Y ho hd hcd hmg hobj hints hlen hg=>?_
 have KX:=hY w _ Y
 obtain ⟨fd,hb,hF⟩:=F w mg fa _ KX G.T.g hmg
 exact law_call KX G.T.g G.T.b G.T.builtins G.T.nolimit hg hobj hints (Nat.le_trans hlen hn2) hr hF hb (λH hO hS=>hsp w H a ns hlen hO hS) λH e s'=>hCX w H s₁ e s'
end L2
namespace L2
open PySem PySem.Spec PyProof.Rows
def inClass (s:Stmt) (j:Nat):Stmt:=match s with
 | .ClassDef _ _ _ body _ _ _ _ _ _ _=>body.getD j (.Pass ⟨0,0,0,0⟩)
 |_=>.Pass ⟨0,0,0,0⟩
def defArgs (s:Stmt):Arguments:=match s with
 | .FunctionDef _ a _ _ _ _ _ _ _ _=>a
 |_=>{ posonlyargs:=[],args:=[],vararg:=none,kwonlyargs:=[],kw_defaults:=[],kwarg:=none,defaults:=[] }
def defBody (s:Stmt):List Stmt:=match s with
 | .FunctionDef _ _ b _ _ _ _ _ _ _=>b
 |_=>[]
def defScope (s:Stmt):Scope:=match s with
 | .FunctionDef _ _ _ _ _ _ sc _ _ _=>sc
 |_=>{ kind:=.function,names:=[],isGenerator:=false,isCoroutine:=false }
abbrev CX0:CXT:=λ_ _ _ _ _ _=>False
abbrev E0:XK:=λ_ _ _=>False
theorem pass0 {X:Cx}:Passes CX0 X E0:=λ_ _ _ _ _ _ _ h=>h.elim
structure Fun (K:PySem.W.Frag) (x qual:Str) (st:Stmt) (f:Addr) (fd:FuncData):Prop where
 ex:∃ (oc:Value) (od:Option Addr) (kV doc pm:Value) (an:Option Addr) (cdv ct:Value) (osl:Array (Option Value)),
  fd=PySem.W.fnOf x qual (defArgs st) (defBody st) (defScope st) .none kV doc pm an cdv ct/\K.lookup f=some ⟨oc,od,.func fd,osl⟩/\PySem.W.codeIn K cdv qual=true
 kp:PySem.W.keepIn K (.ref f)=true
section
variable {P:Program}{w:World}{K:PySem.W.Frag}{mg:Str->Option Value}{base:Heap}
theorem Fun.ok {x qual:Str}{st:Stmt}{f:Addr}{fd:FuncData}{N ps:List Str}{k:Nat}{sp:Sp} (F:Fun K x qual st f fd) (S:FnScope N ps (defScope st)) (len:∀ vs H Q E,sp vs H Q E->vs.length=ps.length)
  (hbody:∀ (cdv:Value) (A:Around) (outer:List Env) (s:Shared) (H:Hp) (vs:List V) (Q:VK) (E:XK),Room k (A.deeper (envOfC qual (defScope st) s.heap.objs.size f cdv))->sp vs H Q E->
   ∃ t,PSs (cxOf CX0 P w K mg base N qual (defScope st) f cdv A outer s H E).nox (defBody st) t/\t { nx:=λ_ H'=>Q .non H',rt:=Q } (start N vs) H):FnOk P w K mg base CX0 (k+1) f fd ps sp:=by
 obtain ⟨oc,od,kV,doc,pm,an,cdv,ct,osl,rfl,lk,hcd⟩:=F.ex
 refine fn_of lk hcd S len λA outer s H vs Q E hr hsp=>?_
 obtain ⟨t,h,q⟩:=hbody cdv A outer s H vs Q E hr hsp
 exact ⟨t,h.nox,q⟩
theorem Fun.binds {x qual:Str}{st:Stmt}{f:Addr}{fd:FuncData}{ps:List Str} (F:Fun K x qual st f fd)
  (h:∀ (kV doc pm:Value) (an:Option Addr) (cdv ct:Value) (us:List Value),us.length=ps.length->bindArgs (PySem.W.fnOf x qual (defArgs st) (defBody st) (defScope st) .none kV doc pm an cdv ct) ⟨us,[]⟩=pure (ps.zip us)):Binds K fd ps []:=by
 obtain ⟨oc,od,kV,doc,pm,an,cdv,ct,osl,rfl,lk,hcd⟩:=F.ex
 exact .all (h kV doc pm an cdv ct)
theorem fun_mk {x qual:Str}{st:Stmt}{f:Addr}{oc:Value}{od an:Option Addr}{osl:Array (Option Value)}{kV doc pm cdv ct:Value} (l:K.lookup f=some ⟨oc,od,.func (PySem.W.fnOf x qual (defArgs st) (defBody st) (defScope st) .none kV doc pm an cdv ct),osl⟩)
  (c:PySem.W.codeIn K cdv qual=true) (k:PySem.W.keepIn K (.ref f)=true):Fun K x qual st f (PySem.W.fnOf x qual (defArgs st) (defBody st) (defScope st) .none kV doc pm an cdv ct):=⟨⟨oc,od,kV,doc,pm,an,cdv,ct,osl,rfl,l,c⟩,k⟩
end
section
variable {X:Cx}
theorem pv (i:Nat) {x:Str}{pos:Pos} (hN:X.N[i]?=some x:=by rfl) (hv:Vis X.env.scope x:=by first|exact Or.inl rfl|exact Or.inr (Or.inl rfl)|exact Or.inr (Or.inr rfl)) (hd:(x == ("__debug__":Str))=false:=by decide)
  (hcd:(x == ("__classdict__":Str))=false:=by decide):PE X (.Name x pos) (tVar i):=pe_var hN hv hd hcd
end
theorem iteF {A B:Prop} (h:B):if false=true then A else B:=by
 rw [if_neg Bool.false_ne_true]
 exact h
theorem iteT {A B:Prop} (h:A):if true=true then A else B:=by
 rw [if_pos rfl]
 exact h
theorem ite2 {c A B:Prop} [Decidable c] (h1:c->A) (h2:¬ c->B):if c then A else B:=by
 by_cases h:c
 ·rw [if_pos h]
  exact h1 h
 ·rw [if_neg h]
  exact h2 h
theorem iteNS {c A B:Prop} [Decidable c] (hc:c) (h:B):if (!decide c)=true then A else B:=by
 rw [decide_eq_true hc]
 exact iteF h
def Same (H H':Hp):Prop:=∀ b o,H b=some o->H' b=some o
theorem Same.trans {H H1 H2:Hp} (a:Same H H1) (b:Same H1 H2):Same H H2:=λc o h=>b c o (a c o h)
theorem Same.free {H H':Hp} (e:Same H H') {l:Addr} (h:H' l=Option.none):H l=Option.none:=by
 cases q:H l with
 |none=>rfl
 |some o=>
  rw [e l o q] at h
  cases h
theorem Same.seq {K:PySem.W.Frag}{H H':Hp}{a:Addr}{xs:List V} (e:Same H H') (h:SqL K H a xs):SqL K H' a xs:=by
 rcases h with (h|⟨o,h⟩)|h
 ·exact .inl (.inl (e _ _ h))
 ·exact .inl (.inr ⟨o,e _ _ h⟩)
 ·exact .inr h
end L2
namespace L2
open PySem PySem.Spec PyProof.Rows
def clo (env:Env):List (Str×NameKind)->List (Str×Addr)->List (Str×Addr)
 | [],acc=>acc
 |nk::r,acc=>clo env r (if nk.2=.free then (nk.1,(env.cells.lookup nk.1).getD 0)::acc else acc)
theorem closure_clo {sc:Scope}{env:Env} (h:∀ x∈sc.names,x.2=.free->∃ c,env.cells.lookup x.1=some c):closureFor sc env=pure (clo env sc.names []):=by
 have all:∀ (names:List (Str×NameKind)) (acc:List (Str×Addr)),(∀ x∈names,x.2=.free->∃ c,env.cells.lookup x.1=some c)->
   (forIn names acc λ(x:Str×NameKind) (cs:List (Str×Addr))=>(do
    if (x.2 == NameKind.free)=true then do
      let c<-cellOf env x.1
      pure (ForInStep.yield ((x.1,c)::cs))
     else pure (ForInStep.yield cs):Sem (ForInStep (List (Str×Addr)))))=(pure (clo env names acc):Sem (List (Str×Addr))):=by
  intro names
  induction names with
  |nil=>intro acc _;rfl
  |cons nk r ih=>
   intro acc hh
   rw [List.forIn_cons]
   have hr:=ih (acc:=if nk.2=.free then (nk.1,(env.cells.lookup nk.1).getD 0)::acc else acc) λx hx=>hh x (List.mem_cons_of_mem _ hx)
   by_cases hk:nk.2=.free
   ·obtain ⟨c,hc⟩:=hh nk List.mem_cons_self hk
    have e1:(nk.2 == NameKind.free)=true:=by rw [hk];rfl
    rw [if_pos e1]
    rw [if_pos hk,hc] at hr
    have e2:cellOf env nk.1=pure c:=by unfold cellOf;rw [hc]
    rw [e2]
    have e3:clo env (nk::r) acc=clo env r ((nk.1,(some c).getD 0)::acc):=by
     show clo env r (if nk.2=.free then (nk.1,(env.cells.lookup nk.1).getD 0)::acc else acc)=_
     rw [if_pos hk,hc]
    rw [e3]
    exact hr
   ·have e1:¬ (nk.2 == NameKind.free)=true:=by
     intro z
     exact hk (by revert z;cases nk.2<;>intro z<;>first|rfl|exact absurd z (by decide))
    rw [if_neg e1]
    rw [if_neg hk] at hr
    have e3:clo env (nk::r) acc=clo env r acc:=by
     show clo env r (if nk.2=.free then (nk.1,(env.cells.lookup nk.1).getD 0)::acc else acc)=_
     rw [if_neg hk]
    rw [e3]
    exact hr
 have q:=all sc.names [] h
 unfold closureFor
 have q2:(forIn sc.names ([]:List (Str×Addr)) λ(x:Str×NameKind) (cs:List (Str×Addr))=>(do
    if (x.2 == NameKind.free)=true then do
      let c<-cellOf env x.1
      pure (ForInStep.yield ((x.1,c)::cs))
     else pure (ForInStep.yield cs):Sem (ForInStep (List (Str×Addr))))) >>= (λcs=>(pure cs:Sem (List (Str×Addr))))=pure (clo env sc.names []):=by
  rw [q];rfl
 exact q2
theorem clo_get {env:Env}{y:Str}{c:Addr}:∀ {names:List (Str×NameKind)}{acc:List (Str×Addr)},(∀ x∈names,x.2=.free->∃ c,env.cells.lookup x.1=some c)->
  (clo env names acc).lookup y=some c->acc.lookup y=some c∨env.cells.lookup y=some c
 | [],_,_,h=>.inl h
 |nk::r,acc,hh,h=>by
  have hr:∀ x∈r,x.2=.free->∃ c,env.cells.lookup x.1=some c:=λx hx=>hh x (List.mem_cons_of_mem _ hx)
  have h':(clo env r (if nk.2=.free then (nk.1,(env.cells.lookup nk.1).getD 0)::acc else acc)).lookup y=some c:=h
  by_cases hk:nk.2=.free
  ·rw [if_pos hk] at h'
   rcases clo_get hr h' with q|q
   ·obtain ⟨d,hd⟩:=hh nk List.mem_cons_self hk
    rw [hd,List.lookup_cons] at q
    cases e:y == nk.1 with
    |true=>
     rw [e] at q
     have ey:y=nk.1:=by simpa using e
     cases q
     rw [ey]
     exact .inr hd
    |false=>
     rw [e] at q
     exact .inl q
   ·exact .inr q
  ·rw [if_neg hk] at h'
   exact clo_get hr h'
theorem clo_acc {env:Env}{y:Str}:∀ {names:List (Str×NameKind)}{acc:List (Str×Addr)},(acc.lookup y).isSome=true->((clo env names acc).lookup y).isSome=true
 | [],_,h=>h
 |nk::r,acc,h=>by
  show ((clo env r (if nk.2=.free then (nk.1,(env.cells.lookup nk.1).getD 0)::acc else acc)).lookup y).isSome=true
  refine clo_acc ?_
  by_cases hk:nk.2=.free
  ·rw [if_pos hk,List.lookup_cons]
   cases y == nk.1 with
   |true=>rfl
   |false=>exact h
  ·rw [if_neg hk];exact h
theorem clo_has {env:Env}{y:Str}:∀ {names:List (Str×NameKind)}{acc:List (Str×Addr)},(y,NameKind.free)∈names->((clo env names acc).lookup y).isSome=true
 | [],_,h=>nomatch h
 |nk::r,acc,h=>by
  show ((clo env r (if nk.2=.free then (nk.1,(env.cells.lookup nk.1).getD 0)::acc else acc)).lookup y).isSome=true
  rcases List.mem_cons.mp h with e|h
  ·refine clo_acc ?_
   subst e
   rw [if_pos rfl,List.lookup_cons]
   simp
  ·exact clo_has h
theorem comp_loop {prog:Program}{w:World}{A:Around}{R:Result->Shared->Prop}{s:Shared}{elt target iter:Expr}{ifs:List Expr}{scope:Scope}{pos:Pos}{it acc:Value}{env:Env} (J:Nat->Shared->Prop)
  (turn:∀ n s,J n s->wpAny (model prog w) A (pyNext it) (λr s1=>match r with
   |none=>R (.ok .next) s1
   |some v=>wpAny (model prog w) A (letOwnedTupleGo target it v) (λ_ s1'=>wpAny (model prog w) A (assign target env v) (λ_ s2=>
     wpAny (model prog w) A (forIn ifs true λc r=>if r=true then do let ok<-isTrue c env (eval c env);pure (ForInStep.yield ok) else pure (ForInStep.yield r)) (λok s3=>
      if ok=true then wpAny (model prog w) A (eval elt env) (λx s4=>wpAny (model prog w) A (call (.builtin "list.append") [acc,x]) (λ_ s5=>∃ m,m<n/\J m s5) (λ_ _=>False) s4) (λ_ _=>False) s3
      else ∃ m,m<n/\J m s3) (λ_ _=>False) s2) (λ_ _=>False) s1') (λ_ _=>False) s1) (λ_ _=>False) s) (n:Nat) (h:J n s) :
  codeAny (model prog w) A (.compLoop (.ListComp elt [⟨target,iter,ifs,0⟩] scope pos) 0 it acc env) R s:=by
 refine codeAny_loop rfl J (λn s hJ=>?_) n h
 show wpAny _ A ((compTurn (.ListComp elt [⟨target,iter,ifs,0⟩] scope pos) 0 it acc env).onRaise (λx=>do noteFrame x env;theTreesLotGoes x)) _ _ s
 refine wpAny_noted ?_
 rw [compTurn_list]
 have no:∀ {α:Type}{t:Sem α}{Q Q':α->Shared->Prop}{E:Value->Shared->Prop}{s:Shared},wpAny (model prog w) A t Q (λ_ _=>False) s->(∀ a s,Q a s->Q' a s)->wpAny (model prog w) A t Q' E s:=λh k=>wpAny_mono h k λ_ _ z=>z.elim
 refine wpAny_bind (wpAny_standAt (wpAny_bind (no (turn n s hJ) λr s1 h1=>?_)))
 cases r with
 |none=>exact wpAny_pure h1
 |some v=>
  refine wpAny_bind (no h1 λ_ s1' h1'=>wpAny_bind (no h1' λ_ s2 h2=>wpAny_bind (no h2 λok s3 h3=>?_)))
  cases ok with
  |false=>exact wpAny_pure ⟨rfl,h3⟩
  |true=>exact wpAny_bind (wpAny_bind (no h3 λx s4 h4=>wpAny_bind (no h4 λ_ s5 h5=>wpAny_pure (wpAny_pure ⟨rfl,h5⟩))))
def compCx (X:Cx) (N:List Str) (sc:Scope) (C:Addr) (fp:List Addr) (pins:List (Addr×Obj)) (s:Shared) (H:Hp):Cx where
 prog:=X.prog
 w:=X.w
 K:=X.K
 mg:=X.mg
 base:=X.base
 A:=X.A
 N:=N
 s₀:=s
 H₀:=H
 env:=compEnvC sc (clo X.env sc.names []) C X.env
 outer:=X.stack
 stack:=X.stack
 ex:=fp
 fn:=λ_=>false
 calm:=X.calm
 pn:=X.pn++pins
 xe:=λ_ _=>False
structure CScope (fsc sc:Scope) (N0 N:List Str) (js:List Nat) (x:Str):Prop where
 kind:sc.kind=.function
 nocell:∀ y∈sc.names,y.2≠.cell
 names:∀ y∈sc.names,y.2=.local->sc.names.lookup y.1=some .local
 loc:sc.names.lookup x=some .local
 nd:N.Nodup
 hd:N[0]?=some x
 frees:∀ y∈sc.names,y.2=.free->fsc.names.lookup y.1=some .cell∨fsc.names.lookup y.1=some .free
 lf:∀ y∈sc.names,y.2=.free->sc.names.lookup y.1=some .free
 caps:N.drop 1=js.map λj=>N0.getD j ""
 capin:∀ j∈js,j<N0.length/\sc.names.lookup (N0.getD j "")=some .free
def capsOf (js:List Nat) (σ:St):St:=js.map λj=>(σ[j]?).join
def PF (Y:Cx) (ifs:List Expr) (t:TT):Prop:=
 ∀ (pins:List (Addr×Obj)) (s:Shared) (σ:St) (H:Hp) (Q:Bool->Hp->Prop),Inv Y pins σ H s->t σ H Q->
  wpAny (model Y.prog Y.w) Y.A (forIn ifs true λc r=>if r=true then do let ok<-isTrue c Y.env (eval c Y.env);pure (ForInStep.yield ok) else pure (ForInStep.yield r)) (TP Y pins σ Q) Y.xe s
def tAll:TT:=λ_ H Q=>Q true H
theorem pf_nil {Y:Cx}:PF Y [] tAll:=λpins s σ H Q I h=>wpAny_tests_nil ⟨H,I,h⟩
theorem pf_one {Y:Cx}{c:Expr}{t:TT} (h:PT Y c t):PF Y [c] t:=λpins s σ H Q I q=>wpAny_tests_one (h pins s σ H Q I q)
def tComp (js:List Nat) (wi:TI) (tt:TT) (te:TE):TE:=fun σ H Q=>wi σ H λJ H1=>∀ l,H1 l=none->∃ W:Nat->Nat->List V->Hp->Prop,(∃ m,W 0 m [] (upd H1 l (.lst [])))/\
 ∀ i m ys H,W i m ys H->H l=some (.lst ys)/\((J.stop i H/\Q (.ref l) H)∨(J.go i H/\∀ x H',J.yld i H x H'->tt (some x::capsOf js σ) H' λb H2=>
  if b=true then te (some x::capsOf js σ) H2 λy H3=>H3 l=some (.lst ys)/\ys.length<sizeLine/\∃ m',m'<m/\W (i+1) m' (ys++[y]) (upd H3 l (.lst (ys++[y]))) else ∃ m',m'<m/\W (i+1) m' ys H2))
section
variable {X:Cx}{elt iter:Expr}{ifs:List Expr}{fsc sc:Scope}{N0 N:List Str}{js:List Nat}{x:Str}{px pos:Pos}{wi:TI}{tt:TT}{te:TE}
theorem relabel_free {env:Env}{y:Str}:∀ {names:List (Str×NameKind)},names.lookup y=some .free->
  (names.map λ(nk:Str×NameKind)=>if (nk.2 == .free && env.scope.kind == .function && env.kindOf nk.1 == some .cell) then (nk.1,NameKind.cell) else (nk.1,nk.2)).lookup y=some .cell ∨
  (names.map λ(nk:Str×NameKind)=>if (nk.2 == .free && env.scope.kind == .function && env.kindOf nk.1 == some .cell) then (nk.1,NameKind.cell) else (nk.1,nk.2)).lookup y=some .free
 | [],h=>by simp at h
 |nk::r,h=>by
  rw [List.map_cons]
  rw [List.lookup_cons] at h
  have ih:=@relabel_free env y r
  cases e:y == nk.1 with
  |true=>
   rw [e] at h
   have hk:nk.2=.free:=Option.some.inj h
   by_cases hc:(nk.2 == .free && env.scope.kind == .function && env.kindOf nk.1 == some .cell)=true
   ·rw [if_pos hc,List.lookup_cons,e];exact .inl rfl
   ·rw [if_neg hc,List.lookup_cons,e];exact .inr (by rw [hk])
  |false=>
   rw [e] at h
   by_cases hc:(nk.2 == .free && env.scope.kind == .function && env.kindOf nk.1 == some .cell)=true
   ·rw [if_pos hc,List.lookup_cons,e];exact ih h
   ·rw [if_neg hc,List.lookup_cons,e];exact ih h
theorem relabel_back {env:Env}{y:Str}{k:NameKind}:∀ {names:List (Str×NameKind)},(k=.cell∨k=.free)->(∀ z∈names,z.2≠.cell)->
  (names.map λ(nk:Str×NameKind)=>if (nk.2 == .free && env.scope.kind == .function && env.kindOf nk.1 == some .cell) then (nk.1,NameKind.cell) else (nk.1,nk.2)).lookup y=some k->(y,NameKind.free)∈names
 | [],_,_,h=>by simp at h
 |nk::r,hk,hc,h=>by
  rw [List.map_cons] at h
  have ih:=@relabel_back env y k r hk λz hz=>hc z (List.mem_cons_of_mem _ hz)
  obtain ⟨n,kd⟩:=nk
  by_cases hb:(kd == .free && env.scope.kind == .function && env.kindOf n == some .cell)=true
  ·rw [if_pos hb,List.lookup_cons] at h
   cases e:y == n with
   |true=>
    have ey:y=n:=by simpa using e
    subst ey
    have:kd=.free:=by
     rw [Bool.and_eq_true,Bool.and_eq_true] at hb
     have:=hb.1.1
     revert this
     cases kd<;>intro z<;>first|rfl|exact absurd z (by decide)
    subst this
    exact List.mem_cons_self
   |false=>simp only [e] at h;exact List.mem_cons_of_mem _ (ih h)
  ·rw [if_neg hb,List.lookup_cons] at h
   cases e:y == n with
   |true=>
    have ey:y=n:=by simpa using e
    subst ey
    simp only [e] at h
    have hkd:kd=k:=Option.some.inj h
    have hne:=hc (y,kd) List.mem_cons_self
    rcases hk with z|z
    ·exact absurd (hkd.trans z) hne
    ·rw [hkd,z];exact List.mem_cons_self
   |false=>simp only [e] at h;exact List.mem_cons_of_mem _ (ih h)
theorem comp_inv {pins:List (Addr×Obj)}{σ:St}{H:Hp}{s s3:Shared}{l C:Addr}{fp:List Addr}{m:Str->Option Value} (S:CScope fsc sc N0 N js x) (hsc:X.env.scope=fsc) (hN:X.N=N0) (I:Inv X pins σ H s)
  (hfp:∀ b∈fp,FpOk X pins H b) (hob:∀ b∈fp,∃ o,s.heap.get? b=some o) (hl:s.heap.objs.size<=l) (hC:s.heap.objs.size<=C) (hlC:l≠C)
  (kp:∀ b o,s.heap.get? b=some o->s3.heap.get? b=some o) (hn:s3.heap.Ns C m) (hlst:∃ n,s3.heap.get? l=some { cls:=.type "list",data:=.seq #[] n }) (ho:s3.os=s.os) (hg:s3.gens=s.gens) :
  Inv (compCx X N sc C fp pins s H) [] (none::capsOf js σ) (upd H l (.lst [])) s3:=by
 have fre:∀ y∈sc.names,y.2=.free->∃ c,X.env.cells.lookup y.1=some c:=λy hy hk=>I.ok.has y.1 (by
  have q:=S.frees y hy hk
  rw [<-hsc] at q
  exact q)
 have cget:∀ y c,(clo X.env sc.names []).lookup y=some c->X.env.cells.lookup y=some c:=λy c e=>by
  rcases clo_get fre e with q|q
  ·cases q
  ·exact q
 have old:∀ b o,s.heap.get? b=some o->b≠C/\b≠l:=λb o e=>⟨Nat.ne_of_lt (Nat.lt_of_lt_of_le (Heap.lt_size e) hC),Nat.ne_of_lt (Nat.lt_of_lt_of_le (Heap.lt_size e) hl)⟩
 have freshC:H C=none:=I.hok.fresh hC
 have freshl:H l=none:=I.hok.fresh hl
 refine ⟨⟨I.ok.mod,S.kind,I.ok.glob,I.ok.blt,hC,λy z c h1 h2=>I.ok.inj y z c (cget y c h1) (cget z c h2),λy hy=>?_,λy c h _=>absurd (show false=true from h) Bool.false_ne_true,I.ok.hd,I.ok.frames,.inl rfl,λb hb=>?_,I.bs,Nat.le_trans I.ok.bsz I.sz,λb o e hb=>?_,λb hb hb2=>?_,I.stack,I.stkFree⟩,
  ho,hg ▸ I.bare,Un.laid kp hl freshl,⟨m,hn,λi y v h1 h2 h3=>?_⟩,λy c e=>?_,?_,λy c e=>?_,λp hp=>?_,?_,?_⟩
 ·have hmem:(y,NameKind.free)∈sc.names:=by
   rcases hy with hy|hy
   ·exact relabel_back (.inl rfl) S.nocell hy
   ·exact relabel_back (.inr rfl) S.nocell hy
  exact Option.isSome_iff_exists.mp (clo_has hmem)
 ·obtain ⟨o,e⟩:=hob b hb
  exact ⟨(old b o e).1,λy c q=>(hfp b hb).2.2.2.2.1 y c (cget y c q)⟩
 ·obtain ⟨f0,f1,f2,f3,f4,f5⟩:=hfp b hb
  rcases f3 with z|z
  ·exact I.ok.noex b o e z
  ·exact absurd (Nat.lt_of_lt_of_le (Heap.lt_size (I.ok.bs b o e).1) z) (Nat.lt_irrefl _)
 ·obtain ⟨f0,f1,f2,f3,f4,f5⟩:=hfp b hb
  rcases List.mem_cons.mp (I.stkSub b hb2) with z|z
  ·exact f1 z
  ·exact f2 z
 ·
  cases i with
  |zero=>cases h2
  |succ i=>
   have h2':(capsOf js σ)[i]?=some (some v):=h2
   unfold capsOf at h2'
   rw [List.getElem?_map] at h2'
   cases ej:js[i]? with
   |none=>rw [ej] at h2';cases h2'
   |some j=>
    rw [ej] at h2'
    have hσ:σ[j]?.join=some v:=Option.some.inj h2'
    have hσ':σ[j]?=some (some v):=by
     cases q:σ[j]? with
     |none=>rw [q] at hσ;cases hσ
     |some o=>rw [q] at hσ;cases o with
      |none=>cases hσ
      |some v'=>cases hσ;rfl
    have hy:y=N0.getD j "":=by
     have h1':N[i+1]?=some y:=h1
     have:=congrArg (λL=>L[i]?) S.caps
     simp only [List.getElem?_drop,List.getElem?_map,ej] at this
     rw [Nat.add_comm 1 i,h1'] at this
     exact Option.some.inj this
    obtain ⟨hjl,hjf⟩:=S.capin j (List.mem_of_getElem? ej)
    have hNj:X.N[j]?=some y:=by
     rw [hN,hy]
     simp [hjl]
    rw [<-hy] at hjf
    have hmem:(y,NameKind.free)∈sc.names:=PySem.mem_of_lookup hjf
    have hk:=S.frees _ hmem rfl
    rw [<-hsc] at hk
    obtain ⟨mX,hnX,hlX⟩:=I.loc
    have hvis:Vis X.env.scope y:=by
     rcases hk with z|z
     ·exact .inr (.inl z)
     ·exact .inr (.inr z)
    obtain ⟨u,ru,lk⟩:=hlX j y v hNj hσ' hvis
    refine ⟨u,ru,?_⟩
    rcases lk with ⟨z,_⟩|⟨z,c,ec,ecell⟩
    ·have z':X.env.scope.names.lookup y=some .local:=z
     rcases hk with q|q
     ·rw [z'] at q;cases q
     ·rw [z'] at q;cases q
    ·refine .inr ⟨relabel_free hjf,?_⟩
     obtain ⟨c',ec'⟩:=Option.isSome_iff_exists.mp (clo_has (env:=X.env) (acc:=[]) hmem)
     have:=cget y c' ec'
     rw [ec] at this
     cases this
     exact ⟨c,ec',ecell.keeps kp⟩
 ·obtain ⟨v,q⟩:=I.cell y c (cget y c e)
  exact ⟨v,q.keeps kp⟩
 ·show upd H l (.lst []) C=none
  rw [upd_ne (Ne.symm hlC)]
  exact freshC
 ·show upd H l (.lst []) c=none
  obtain ⟨v,o,q,_⟩:=I.cell y c (cget y c e)
  rw [upd_ne (old c o q).2]
  exact I.freeC y c (cget y c e)
 ·have hp':p∈X.pn++pins:=by
   have hp2:p∈(X.pn++pins)++[]:=hp
   rw [List.append_nil] at hp2
   exact hp2
  obtain ⟨e,n,ne,nf,d⟩:=I.pin p hp'
  refine ⟨kp _ _ e,?_,(old _ _ e).1,λz=>?_,d⟩
  ·rw [upd_ne (old _ _ e).2];exact n
  ·rcases List.mem_cons.mp (I.stkSub p.1 z) with q|q
   ·exact ne q
   ·exact nf q
 ·obtain ⟨n,e⟩:=hlst
  exact I.hok.laid kp hl ⟨by rw [List.length_nil];exact Nat.zero_le _,[],n,.nil,e⟩
 ·have hlen:N.length=js.length+1:=by
   have e1:=congrArg List.length S.caps
   rw [List.length_drop,List.length_map] at e1
   have e2:0<N.length:=(List.getElem?_eq_some_iff.mp S.hd).1
   omega
  show (none::capsOf js σ).length=N.length
  unfold capsOf
  rw [List.length_cons,List.length_map,hlen]
theorem ne_succ {b l:Nat} (h:b<l):b≠l+1:=by omega
theorem ne_self_succ {l:Nat}:l≠l+1:=by omega
theorem comp_block {pins:List (Addr×Obj)}{σ:St}{H:Hp}{s:Shared}{it:Addr}{fp:List Addr}{tn:Nat->Heap->Prop}{J:It}{QQ:Hp->Prop}{RR:Value->Addr->Result->Shared->Prop}{E:Value->Shared->Prop}
  (S:CScope fsc sc N0 N js x) (hsc:X.env.scope=fsc) (hN:X.N=N0) (hc:X.calm=true) (I:Inv X pins σ H s) (T:Turn X.prog X.w X.K (.Name x px) J fp it tn) (st:tn 0 s.heap) (hfp:∀ b∈fp,FpOk X pins H b)
  (hf:∀ C fp pins s H,PF (compCx X N sc C fp pins s H) ifs tt) (he:∀ C fp pins s H,PE (compCx X N sc C fp pins s H) elt te)
  (q:∃ W:Nat->Nat->List V->Hp->Prop,(∃ m,W 0 m [] (upd H s.heap.objs.size (.lst [])))/\∀ i m ys H,W i m ys H->H s.heap.objs.size=some (.lst ys)/\((J.stop i H/\QQ H)∨(J.go i H/\∀ y H',J.yld i H y H'->tt (some y::capsOf js σ) H' λb H2=>
   if b=true then te (some y::capsOf js σ) H2 λz H3=>H3 s.heap.objs.size=some (.lst ys)/\ys.length<sizeLine/\∃ m',m'<m/\W (i+1) m' (ys++[z]) (upd H3 s.heap.objs.size (.lst (ys++[z]))) else ∃ m',m'<m/\W (i+1) m' ys H2)))
  (fin:∀ (C:Addr) (s':Shared) (H':Hp) (m:Str->Option Value),s.heap.objs.size<=C->s.heap.objs.size≠C->s'.heap.Ns C m->s'.os=s.os->AllBare s'.gens->Un (frs X.stack) fp H H' s.heap s'.heap->HOk X.prog X.w H' s'.heap->H' C=none->QQ H'->RR (.ref s.heap.objs.size) C (.ok .next) s') :
  wpAny (model X.prog X.w) X.A (newList []) (λacc s3=>wpAny (model X.prog X.w) X.A (newFunctionEnv sc X.env.globals (clo X.env sc.names []) [] X.env.qual none .none (some X.env)) (λcenv s4=>
   codeAny (model X.prog X.w) X.A (.compStart (.ListComp elt [⟨.Name x px,iter,ifs,0⟩] sc pos) 0 (.ref it) acc { cenv with scope:=relabel sc X.env }) (RR acc cenv.locals) s4) E s3) E s:=by
 obtain ⟨W,⟨m0,w0⟩,turn⟩:=q
 refine wpAny_newObj_type (wpAny_newFunctionEnv S.nocell (by intro y hy;simp at hy) (λh1 hns hsb=>?_) S.kind)
 dsimp only at hns hsb ⊢
 generalize hL:s.heap.objs.size=l at *
 generalize hP:s.heap.push { cls:=.type "list",dict:=none,data:=.seq ([]:List Value).toArray }=hp at hns hsb ⊢
 have hps:hp.objs.size=l+1:=by rw [<-hP,Heap.size_push,hL]
 have old:∀ b o,s.heap.get? b=some o->h1.get? b=some o:=λb o e=>by
  have lt:b<l:=by rw [<-hL];exact Heap.lt_size e
  exact hsb.extBut b o (by rw [hps];exact ne_succ lt) (Heap.get?_push_of_some _ (hP ▸ Heap.get?_push_of_some _ e))
 have hlst:∃ n,h1.get? l=some { cls:=.type "list",data:=.seq #[] n }:=by
  refine ⟨0,hsb.extBut _ _ (by rw [hps];exact ne_self_succ) (Heap.get?_push_of_some _ ?_)⟩
  rw [<-hP,<-hL]
  exact Heap.get?_push_size _ rfl
 have hlC:l≠hp.objs.size:=by rw [hps];omega
 have obj0:∀ b∈fp,∃ o,s.heap.get? b=some o:=λb hb=>let ⟨o,e,_⟩:=T.obj 0 _ st b hb;⟨o,e⟩
 have st1:tn 0 h1:=T.keep 0 _ _ st λb _ o e=>old b o e
 have loop:∀ s3:Shared,s3={ s with heap:=h1,toks:=s.toks+([]:List (Str×Value)).length }->
   codeAny (model X.prog X.w) X.A (.compLoop (.ListComp elt [⟨.Name x px,iter,ifs,0⟩] sc pos) 0 (.ref it) (.ref l) (compEnvC sc (clo X.env sc.names []) hp.objs.size X.env)) (RR (.ref l) hp.objs.size) s3:=by
  intro s3 e3
  have I0:Inv (compCx X N sc hp.objs.size fp pins s H) [] (none::capsOf js σ) (upd H l (.lst [])) s3:=by
   subst e3
   exact comp_inv S hsc hN I hfp obj0 (by omega) (by rw [hps];omega) hlC old hns hlst rfl rfl
  have FPY:∀ {pins':List (Addr×Obj)}{H':Hp},(∀ b∈fp,H' b=none)->pins'=[]->∀ b∈fp,FpOk (compCx X N sc hp.objs.size fp pins s H) pins' H' b:=λ{pins' H'} hn hp0 b hb=>by
   subst hp0
   obtain ⟨f0,f1,f2,f3,f4,f5⟩:=hfp b hb
   obtain ⟨o,e⟩:=obj0 b hb
   refine ⟨hn b hb,?_,λz=>?_,.inl hb,λy c q=>?_,λp hp'=>?_⟩
   ·have:b<l:=by rw [<-hL];exact Heap.lt_size e
    show b≠hp.objs.size
    rw [hps];exact ne_succ this
   ·exact I0.ok.exfs b hb z
   ·exact (I0.ok.exf b hb).2 y c q
   ·have hp2:p∈(X.pn++pins)++[]:=hp'
    rw [List.append_nil] at hp2
    exact f5 p hp2
  have fr0:∀ b∈fp,upd H l (.lst []) b=none:=λb hb=>by
   obtain ⟨o,e⟩:=obj0 b hb
   rw [upd_ne (Nat.ne_of_lt (hL ▸ Heap.lt_size e))]
   exact (hfp b hb).1
  refine comp_loop (λn s'=>∃ i ys σ' H',Inv (compCx X N sc hp.objs.size fp pins s H) [] σ' H' s'/\σ'.drop 1=capsOf js σ/\tn i s'.heap/\(∀ b∈fp,H' b=none)/\W i n ys H') ?_ m0 ⟨0,[],_,_,I0,rfl,by subst e3;exact st1,fr0,w0⟩
  rintro n s4 ⟨i,ys,σ4,H4,I4,hσ4,st4,fr4,w4⟩
  obtain ⟨hly,tn4⟩:=turn i n ys H4 w4
  rcases tn4 with ⟨stop,qn⟩|⟨go,step⟩
  ·refine thn (T.done (compCx X N sc hp.objs.size fp pins s H) rfl rfl rfl hc i [] s4 σ4 H4 _ I4 (FPY fr4 rfl) st4 stop) λr s5 ⟨hr,I5⟩=>?_
   subst hr
   obtain ⟨m5,hn5,_⟩:=I5.loc
   exact fin hp.objs.size s5 H4 m5 (by rw [hps];omega) hlC hn5 I5.os I5.bare I5.base I5.hok I5.free qn
  ·refine thn (T.item (compCx X N sc hp.objs.size fp pins s H) rfl rfl rfl hc i [] s4 σ4 H4 _ I4 (FPY fr4 rfl) st4 go) λr s5 ⟨u,hr,h5⟩=>?_
   subst hr
   refine thn h5 λ_ s6 ⟨y,H6,I6,r6,y6,st6,fr6⟩=>?_
   have I6':=I6.pinned (FPY fr6 rfl) (T.obj _ _ st6)
   refine wpAny_assign_Name (store_ok I6' (i:=0) S.nd S.hd (.inl (lookup_relabel_local S.loc)) r6 (λs7 I7=>?_) (.inr (lookup_relabel_local S.loc)))
   have hσ7:σ4.set 0 (some y)=some y::capsOf js σ:=by
    have hl4:σ4.length=N.length:=I4.len
    cases σ4 with
    |nil=>
     have e2:0<N.length:=(List.getElem?_eq_some_iff.mp S.hd).1
     rw [List.length_nil] at hl4
     omega
    |cons a r=>
     rw [List.set_cons_zero]
     have hσ4':r=capsOf js σ:=hσ4
     rw [hσ4']
   rw [hσ7] at I7
   have again:∀ {s9:Shared}{H9:Hp}{ys':List V}{m':Nat},Inv (compCx X N sc hp.objs.size fp pins s H) ([]++pinsAt fp s6.heap) (some y::capsOf js σ) H9 s9->m'<n->W (i+1) m' ys' H9->
     ∃ m,m<n/\∃ i ys σ' H',Inv (compCx X N sc hp.objs.size fp pins s H) [] σ' H' s9/\σ'.drop 1=capsOf js σ/\tn i s9.heap/\(∀ b∈fp,H' b=none)/\W i m ys H':=λ{s9 H9 ys' m'} I9 hm w9=>by
    refine ⟨m',hm,i+1,ys',_,H9,I9.unpinned,rfl,T.keep _ _ _ st6 λb hb o e=>(I9.pin (b,o) (List.mem_append_right _ (List.mem_append_right _ (mem_pinsAt hb e)))).1,λb hb=>?_,w9⟩
    obtain ⟨o,e,d⟩:=T.obj _ _ st6 b hb
    exact (I9.pin (b,o) (List.mem_append_right _ (List.mem_append_right _ (mem_pinsAt hb e)))).2.1
   refine thn (hf hp.objs.size fp pins s H _ s7 _ H6 _ I7 (step y H6 y6)) λok s8 ⟨H8,I8,q8⟩=>?_
   cases ok with
   |false=>
    rw [if_neg Bool.false_ne_true] at q8 ⊢
    obtain ⟨m',hm,w'⟩:=q8
    exact again I8 hm w'
   |true=>
    rw [if_pos rfl] at q8 ⊢
    refine thn (he hp.objs.size fp pins s H _ s8 _ H8 _ I8 q8) λv s9 ⟨z,H9,I9,r9,hl9,hz9,m',hm,w'⟩=>?_
    refine thn (mt_append (X:=compCx X N sc hp.objs.size fp pins s H) _ s9 _ H9 (.ref l) [z] (.ref l) [v] (λx H'=>x=.non/\H'=upd H9 l (.lst (ys++[z]))) I9 rfl (.cons r9 .nil) ⟨l,ys,z,rfl,rfl,hl9,hz9,rfl,rfl⟩) λ_ s10 ⟨_,H10,I10,_,_,e10⟩=>?_
    subst e10
    exact again I10 hm w'
 exact codeAny_compStart_list (loop _ rfl) (T.self X.A 0 _ _ _ st1 (loop _ rfl))
theorem pe_comp (S:CScope fsc sc N0 N js x) (hsc:X.env.scope=fsc) (hN:X.N=N0) (hc:X.calm=true) (hi:PI X (.Name x px) iter wi)
  (hf:∀ C fp pins s H,PF (compCx X N sc C fp pins s H) ifs tt) (he:∀ C fp pins s H,PE (compCx X N sc C fp pins s H) elt te)
  (hs:∀ x,foldedSetIterable iter X.env x=pure x:=by intro _;rfl):PE X (.ListComp elt [⟨.Name x px,iter,ifs,0⟩] sc pos) (tComp js wi tt te):=by
 intro pins s σ H Q I h
 rw [eval_ListComp]
 have fre:∀ y∈sc.names,y.2=.free->∃ c,X.env.cells.lookup y.1=some c:=λy hy hk=>I.ok.has y.1 (by
  have q:=S.frees y hy hk
  rw [<-hsc] at q
  exact q)
 refine wpAny_comprehension_free (use:=none) rfl hs (closure_clo fre) S.kind S.names (thn (hi pins s σ H _ I h) λv s1 h1=>thn h1 λitv s2 h2=>?_)
 obtain ⟨it,fp,tn,J,H2,e,I2,T,st2,f2,q2⟩:=h2
 subst e
 refine comp_block (QQ:=λH'=>Q (.ref s2.heap.objs.size) H') (RR:=λacc C=>compPost (model X.prog X.w) X.A X.xe none (EP X pins σ Q) acc C) S hsc hN hc I2 T st2 f2 hf he (q2 s2.heap.objs.size (I2.hok.fresh (Nat.le_refl _))) ?_
 intro C s' H' m hC hlC hn ho hg u hok hfree qq
 refine ⟨m,hn,λh' hs'=>⟨.ref s2.heap.objs.size,H',?_,rfl,qq⟩⟩
 have I3:Inv X pins σ H' s':=I2.call' ho u hok hg λb hb=>⟨(f2 b hb).2.2.2.1,(f2 b hb).2.1,(f2 b hb).2.2.2.2.1,(f2 b hb).2.2.2.2.2⟩
 have szs:X.s₀.heap.objs.size<=C:=Nat.le_trans I2.sz hC
 have CL:C≠X.env.locals:=Nat.ne_of_gt (Nat.lt_of_lt_of_le I2.lt hC)
 exact I3.turned (t':=s'.toks) (it:=C) (λb o hb e=>(hs'.2 b hb).trans e) hfree CL (.inr szs) (λy c e z=>by
  obtain ⟨v',o',e',_⟩:=I2.cell y c e
  exact Nat.ne_of_lt (Nat.lt_of_lt_of_le (Heap.lt_size e') hC) z) λp hp z=>
   Nat.ne_of_lt (Nat.lt_of_lt_of_le (Heap.lt_size (I2.pin p hp).1) hC) z
end
end L2
namespace L2
open PySem PySem.Spec PyProof.Rows
section
variable {X:Cx}{elt iter:Expr}{ifs:List Expr}{fsc sc:Scope}{N0 N:List Str}{js:List Nat}{x:Str}{px pos:Pos}{wi:TI}{tt:TT}{te:TE}
theorem ps_setC {i:Nat}{y:Str}{py spos:Pos} (hNd:X.N.Nodup) (hy:X.N[i]?=some y) (hly:Loc X.env.scope y) (S:CScope fsc sc N0 N js x) (hsc:X.env.scope=fsc) (hN:X.N=N0) (hc:X.calm=true) (hi:PI X (.Name x px) iter wi)
  (hf:∀ C fp pins s H,PF (compCx X N sc C fp pins s H) ifs tt) (he:∀ C fp pins s H,PE (compCx X N sc C fp pins s H) elt te)
  (hsw:swapsWith (.ListComp elt [⟨.Name x px,iter,ifs,0⟩] sc pos) (some (.Name y py)) spos.line X.env=pure true:=by rfl)
  (hs:∀ x,foldedSetIterable iter X.env x=pure x:=by intro _;rfl) (hfn:X.fn y=true∨X.env.scope.names.lookup y=some .local:=by first|exact .inl rfl|exact .inr rfl|assumption) :
  PS X (.Assign [.Name y py] (.ListComp elt [⟨.Name x px,iter,ifs,0⟩] sc pos) spos) (tAsg (tComp js wi tt te) (gName i)):=by
 intro pins s σ H D I h
 rw [exec_Assign_Name_used _ _ _ _ hsw]
 refine wpAny_bind (wpAny_standAt (wpAny_bind ?_))
 show wpAny _ X.A (do let _<-comprehension (.ListComp elt [⟨.Name x px,iter,ifs,0⟩] sc pos) sc X.env _ (newList []) false (eval iter X.env) (some (assign (.Name y py) X.env))) _ _ s
 have fre:∀ y∈sc.names,y.2=.free->∃ c,X.env.cells.lookup y.1=some c:=λy hy hk=>I.ok.has y.1 (by
  have q:=S.frees y hy hk
  rw [<-hsc] at q
  exact q)
 refine wpAny_bind (thn (wpAny_comprehension_free (use:=some (assign (.Name y py) X.env)) (Q:=λ_ s'=>SP X pins D .next s') rfl hs (closure_clo fre) S.kind S.names (thn (hi pins s σ H _ I h) λv s1 h1=>thn h1 λitv s2 h2=>?_)) λ_ s' hq=>wpAny_pure (wpAny_pure hq))
 obtain ⟨it,fp,tn,J,H2,e,I2,T,st2,f2,q2⟩:=h2
 subst e
 refine comp_block (QQ:=λH'=>D.nx (σ.set i (some (.ref s2.heap.objs.size))) H') (RR:=λacc C=>compPost (model X.prog X.w) X.A X.xe (some (assign (.Name y py) X.env)) (λ_ s'=>SP X pins D .next s') acc C) S hsc hN hc I2 T st2 f2 hf he (q2 s2.heap.objs.size (I2.hok.fresh (Nat.le_refl _))) ?_
 intro C s' H' m hC hlC hn ho hg u hok hfree qq
 have I3:Inv X pins σ H' s':=I2.call' ho u hok hg λb hb=>⟨(f2 b hb).2.2.2.1,(f2 b hb).2.1,(f2 b hb).2.2.2.2.1,(f2 b hb).2.2.2.2.2⟩
 have szs:X.s₀.heap.objs.size<=C:=Nat.le_trans I2.sz hC
 have CL:C≠X.env.locals:=Nat.ne_of_gt (Nat.lt_of_lt_of_le I2.lt hC)
 have CC:∀ z c,X.env.cells.lookup z=some c->c≠C:=λz c e q=>by
  obtain ⟨v',o',e',_⟩:=I2.cell z c e
  exact Nat.ne_of_lt (Nat.lt_of_lt_of_le (Heap.lt_size e') hC) q
 show wpAny _ X.A (assign (.Name y py) X.env (.ref s2.heap.objs.size)) _ _ _
 refine wpAny_assign_Name (store_ok2 I3 hNd hy hly (v:=.ref s2.heap.objs.size) rfl (λs4 I4 hsb=>?_) hfn)
 obtain ⟨a,sb,ha⟩:=hsb
 have hCa:C≠a:=by
  rcases ha with z|z
  ·rw [z];exact CL
  ·exact (CC y a z).symm
 refine ⟨m,hn.sameBut sb hCa,λh' hs'=>⟨_,H',?_,qq⟩⟩
 exact I4.turned (t':=s4.toks) (it:=C) (λb o hb e=>(hs'.2 b hb).trans e) hfree CL (.inr szs) CC λp hp z=>
   Nat.ne_of_lt (Nat.lt_of_lt_of_le (Heap.lt_size (I2.pin p hp).1) hC) z
end
def Ite (K:PySem.W.Frag) (a:Addr):It:=
 ⟨λi H=>∃ xs x,SqL K H a xs/\xs[i]?=some x,λi H v H'=>∃ t x,H t=none/\H'=upd H t (.tup [.int (i:Int),x])/\v=.ref t/\∀ xs,SqL K H a xs->xs[i]?=some x,λi H=>∃ xs,SqL K H a xs/\xs.length<=i⟩
theorem turn_enum {P:Program}{w:World}{K:PySem.W.Frag}{es:List Expr}{k:Nat}{tp:Pos} (a e it:Addr) (hne:e≠it) :
  Turn P w K (.Tuple es k tp) (Ite K a) [e,it] e (λi h=>(∃ old,IsEnum h e it i old)/\h.IsListIter it a i) where
 mem:=by simp
 obj:=λi h st b hb=>by
  obtain ⟨⟨old,he⟩,o,ho,c,d⟩:=st
  rcases List.mem_cons.mp hb with z|z
  ·subst z
   exact ⟨_,he,λv z=>by cases z⟩
  ·have z':b=it:=List.mem_singleton.mp z
   subst z'
   exact ⟨o,ho,λv z=>by rw [d] at z;cases z⟩
 keep:=λi h h' st kp=>by
  obtain ⟨⟨old,he⟩,hit⟩:=st
  exact ⟨⟨old,kp e (by simp) _ he⟩,hit.at λo q=>kp it (by simp) o q⟩
 item:=by
  intro X hP hw hK hc i pins s σ H E I hf st hg
  subst hP hw hK
  obtain ⟨⟨old,he⟩,hit⟩:=st
  obtain ⟨xs,x,hq,hx⟩:=hg
  obtain ⟨its,rv,p,hz⟩:=I.list hq
  obtain ⟨u,hu,ru⟩:=rv.get hx
  obtain ⟨f0,f1,f2,f3,f4,f5⟩:=hf e (by simp)
  obtain ⟨g0,g1,g2,g3,g4,g5⟩:=hf it (by simp)
  refine wpAny_pyNext_enum_item he hit p.isList (x:=u) (by simpa using hu) hne λh1 out hit1 htup hsz kp=>?_
  refine ⟨_,rfl,wpAny_letOwnedTupleGo_enum out λh2 he2 sb=>?_⟩
  have elt:e<s.heap.objs.size:=Heap.lt_size he
  have itl:it<s.heap.objs.size:=by obtain ⟨_,q,_⟩:=hit;exact Heap.lt_size q
  have kp2:∀ b o,b≠e->b≠it->s.heap.get? b=some o->h2.get? b=some o:=λb o h1' h2' q=>(sb.2 b h1').trans (kp b o h1' h2' q)
  have tup2:h2.get? s.heap.objs.size=some { cls:=.type "tuple",data:=.seq #[.int i s.toks,u] }:=(sb.2 _ (Nat.ne_of_gt elt)).trans htup
  have Hnew:H s.heap.objs.size=none:=I.hok.fresh (Nat.le_refl _)
  have ne1:∀ b o,H b=some o->b≠e/\b≠it:=λb o q=>⟨λz=>(by rw [z,f0] at q;cases q),λz=>(by rw [z,g0] at q;cases q)⟩
  have I1:Inv X pins σ (upd H s.heap.objs.size (.tup [.int (i:Int),x])) { s with heap:=h2,toks:=s.toks+1 }:=by
   refine I.step (g':=s.gens) (d':=s.drawn) (ch:=[e,it]) (λb hb=>?_) (λb o _ _ hc q _=>?_) (λb o _ _ hc q _=>?_) (λb o hc q n=>?_) (λb o hc q=>?_) (λb xs q=>?_) (λb o v q=>?_) (λb ps q=>?_) (λm hm=>?_) ?_ I.bare
   ·rcases List.mem_cons.mp hb with z|z
    ·subst z;exact ⟨f3,f1,f4,f5⟩
    ·have z':b=it:=List.mem_singleton.mp z
     subst z';exact ⟨g3,g1,g4,g5⟩
   ·exact kp2 b o (λz=>hc (by simp [z])) (λz=>hc (by simp [z])) q
   ·exact ⟨o.slots,kp2 b o (λz=>hc (by simp [z])) (λz=>hc (by simp [z])) q⟩
   ·rw [upd_ne (Nat.ne_of_lt (Heap.lt_size q))];exact n
   ·exact ⟨o,kp2 b o (λz=>hc (by simp [z])) (λz=>hc (by simp [z])) q⟩
   ·rw [upd_ne (ne_of_none q Hnew)];exact q
   ·rw [upd_ne (ne_of_none q Hnew)];exact q
   ·exact ⟨#[],by rw [upd_ne (ne_of_none q Hnew),q];simp⟩
   ·obtain ⟨o,es',ep,ho,r⟩:=hm
    exact ⟨o,es',ep,kp2 _ o (Ne.symm f1) (Ne.symm g1) ho,r⟩
   ·intro b o q
    by_cases hb:b=s.heap.objs.size
    ·subst hb
     rw [upd_same] at q
     cases q
     exact ⟨by show 2<=sizeLine;decide,[.int i s.toks,u],.cons ⟨_,rfl⟩ (.cons ru .nil),_,tup2,rfl,0,rfl⟩
    ·rw [upd_ne hb] at q
     refine (I.hok b o q).stay (λc v hc r=>kp2 c v ?_ ?_ r) (λc r=>?_) (λc ys r=>?_)
     ·rcases hc with z|z
      ·rw [z];exact (ne1 b o q).1
      ·exact (ne1 c _ z).1
     ·rcases hc with z|z
      ·rw [z];exact (ne1 b o q).2
      ·exact (ne1 c _ z).2
     ·rw [upd_ne (ne_of_none r Hnew)];exact r
     ·rw [upd_ne (ne_of_none r Hnew)];exact r
  refine ⟨.ref s.heap.objs.size,_,I1,rfl,⟨s.heap.objs.size,x,Hnew,rfl,rfl,λys hy=>by rw [I.list_inj hy hq];exact hx⟩,⟨⟨u,?_⟩,?_⟩,λb hb=>?_⟩
  ·have:=he2
   exact he2
  ·exact hit1.at λo q=>(sb.2 it hne.symm).trans q
  ·rcases List.mem_cons.mp hb with z|z
   ·subst z;rw [upd_ne (Nat.ne_of_lt elt)];exact f0
   ·have z':b=it:=List.mem_singleton.mp z
    subst z';rw [upd_ne (Nat.ne_of_lt itl)];exact g0
 done:=by
  intro X hP hw hK hc i pins s σ H E I hf st hg
  subst hP hw hK
  obtain ⟨⟨old,he⟩,hit⟩:=st
  obtain ⟨xs,hq,hx⟩:=hg
  obtain ⟨its,rv,p,hz⟩:=I.list hq
  obtain ⟨g0,g1,g2,g3,g4,g5⟩:=hf it (by simp)
  have hl:=rv.length
  exact wpAny_pyNext_enum_end (I.ok.hd hc) he hit p.isList (by simp;omega) λh' eb=>⟨rfl,I.turned (t':=s.toks) (λb o hb q=>eb b o hb q) g0 g1 g3 g4 g5⟩
 self:=λ_ _ _ _ _ st h=>let ⟨⟨_,he⟩,_⟩:=st;wpAny_pyIter_enum he h
def iEnum (K:PySem.W.Frag) (ta:TA):TI:=fun σ H R=>ta σ H λvs H1=>∃ a,vs=[.ref a]/\(∃ xs,SqL K H1 a xs)/\R (Ite K a) H1
theorem pi_enum {X:Cx}{a:Expr}{ta:TA}{es:List Expr}{k:Nat}{tp p pos:Pos} (hg:Gl X "enumerate") (hm:X.mg "enumerate"=none) (ha:PA X [a] ta) (hs:starEach [a] X.env=[(false,eval a X.env)]:=by rfl) :
  PI X (.Tuple es k tp) (.Call (.Name "enumerate" p) [a] [] pos) (iEnum X.K ta):=by
 intro pins s σ H R I h
 refine Call_ (ld_blt I hg hm boot_enumerate (PyProof.Rows.callWith_type1 (thn (ha pos pins s σ H _ I h) λus s1 ⟨vs,H1,I1,r1,q1⟩=>?_) hs rfl))
 obtain ⟨b,e,⟨xs,hq⟩,q⟩:=q1
 subst e
 obtain ⟨u,rfl,ru⟩:=r1.one
 obtain rfl:u=Value.ref b:=ru
 obtain ⟨its,rv,pl,hz⟩:=I1.list hq
 refine call_enumerate_list pl.isList λh' he hit hsz kp=>?_
 have I2:Inv X pins σ H1 { s1 with heap:=h' }:=I1.kept (t':=s1.toks) kp
 refine wpAny_pyIter_enum he ?_
 refine ⟨s1.heap.objs.size+1,[s1.heap.objs.size+1,s1.heap.objs.size],_,_,H1,rfl,I2,turn_enum b _ _ (Nat.succ_ne_self _),⟨⟨.none,he⟩,hit⟩,λc hc=>?_,q⟩
 rcases List.mem_cons.mp hc with z|z
 ·subst z
  exact I1.fpOk (Nat.le_succ _) (I1.hok.fresh (Nat.le_succ _))
 ·have z':c=s1.heap.objs.size:=List.mem_singleton.mp z
  subst z'
  exact I1.fpOk (Nat.le_refl _) (I1.hok.fresh (Nat.le_refl _))
theorem for_enum {K:PySem.W.Frag}{a:Addr}{xs:List V}{g:TG}{tb:TS}{D:Ends}{σ:St}{H:Hp} (Pv:Nat->St->Hp->Prop) (h0:Pv 0 σ H) (hl:∀ i σ H,i<=xs.length->Pv i σ H->SqL K H a xs)
  (hs:∀ i x t σ H,xs[i]?=some x->H t=none->Pv i σ H->g (.ref t) σ (upd H t (.tup [.int (i:Int),x])) fun σ2 H2=>tb { D with nx:=Pv (i+1),ct:=Pv (i+1),bk:=D.nx } σ2 H2) (hd:∀ σ H,Pv xs.length σ H->D.nx σ H) :
  ∃ W:Nat->Nat->St->Hp->Prop,(∃ m,W 0 m σ H)/\∀ i m σ H,W i m σ H->
   ((Ite K a).stop i H/\D.nx σ H)∨((Ite K a).go i H/\∃ N:St->Hp->Prop,(∀ σ' H',N σ' H'->∃ m',m'<m/\W (i+1) m' σ' H')/\∀ x H',(Ite K a).yld i H x H'->g x σ H' fun σ2 H2=>tb { D with nx:=N,ct:=N,bk:=D.nx } σ2 H2):=by
 refine ⟨λi m σ H=>m=xs.length-i/\i<=xs.length/\Pv i σ H,⟨xs.length,by simp,Nat.zero_le _,h0⟩,?_⟩
 rintro i m σ H ⟨rfl,hi,p⟩
 have q:=hl i σ H hi p
 by_cases hlt:i<xs.length
 ·refine .inr ⟨⟨xs,xs[i],q,by simp [hlt]⟩,Pv (i+1),fun σ' H' p'=>⟨xs.length-(i+1),by omega,rfl,hlt,p'⟩,λv H' y=>?_⟩
  obtain ⟨t,x,ht,e1,e2,y⟩:=y
  subst e1 e2
  exact hs i x t σ _ (y xs q) ht p
 ·have e:i=xs.length:=by omega
  subst e
  exact .inl ⟨⟨xs,q,Nat.le_refl _⟩,hd σ H p⟩
def clsV:V->Option Value
 | .ty n=>some (.type n)
 | .ref a=>some (.ref a)
 |_=>none
theorem call_isinst {X:Cx}:CallR X (.builtin "isinstance") (λxs H Q=>∃ x c t cv b,xs=[x,c]/\TyOf X.K H x t/\clsV c=some cv/\PySem.W.kitOne X.K t cv=some b/\Q (.bl b) H):=by
 intro pins s σ H xs us Q I r h
 obtain ⟨x,c,t,cv,b,rfl,ty,hc,e,q⟩:=h
 obtain ⟨u,v,rfl,ru,rv⟩:=r.two
 have ev:v=cv:=by
  cases c with
  |ty n=>cases hc;exact rv
  |ref a=>cases hc;exact rv
  |_=>cases hc
 subst ev
 exact isinst_ok I ru ty e λtk=>⟨.bl b,H,I.tok _,rfl,q⟩
end L2
namespace L2
open PySem PySem.Spec PyProof.Rows
structure CScopeK (fsc sc:Scope) (N0 N:List Str) (js:List Nat) (kk:Nat):Prop where
 kind:sc.kind=.function
 nocell:∀ y∈sc.names,y.2≠.cell
 names:∀ y∈sc.names,y.2=.local->sc.names.lookup y.1=some .local
 nd:N.Nodup
 len:N.length=kk+js.length
 frees:∀ y∈sc.names,y.2=.free->fsc.names.lookup y.1=some .cell∨fsc.names.lookup y.1=some .free
 caps:N.drop kk=js.map λj=>N0.getD j ""
 capin:∀ j∈js,j<N0.length/\sc.names.lookup (N0.getD j "")=some .free
def tCompK (kk:Nat) (js:List Nat) (wi:TI) (g:TG) (tt:TT) (te:TE):TE:=fun σ H Q=>wi σ H λJ H1=>∀ l,H1 l=none->∃ W:Nat->Nat->List V->Hp->Prop,(∃ m,W 0 m [] (upd H1 l (.lst [])))/\
 ∀ i m ys H,W i m ys H->H l=some (.lst ys)/\((J.stop i H/\Q (.ref l) H)∨(J.go i H/\∀ x H',J.yld i H x H'->∀ σ0:St,σ0.length=kk+js.length->σ0.drop kk=capsOf js σ->g x σ0 H' fun σ1 H1=>σ1.drop kk=capsOf js σ/\tt σ1 H1 λb H2=>
  if b=true then te σ1 H2 λy H3=>H3 l=some (.lst ys)/\ys.length<sizeLine/\∃ m',m'<m/\W (i+1) m' (ys++[y]) (upd H3 l (.lst (ys++[y]))) else ∃ m',m'<m/\W (i+1) m' ys H2))
section
variable {X:Cx}{elt iter tg:Expr}{ifs:List Expr}{fsc sc:Scope}{N0 N:List Str}{js:List Nat}{kk:Nat}{pos:Pos}{wi:TI}{g:TG}{tt:TT}{te:TE}
theorem comp_invK {pins:List (Addr×Obj)}{σ:St}{H:Hp}{s s3:Shared}{l C:Addr}{fp:List Addr}{m:Str->Option Value} (S:CScopeK fsc sc N0 N js kk) (hsc:X.env.scope=fsc) (hN:X.N=N0) (I:Inv X pins σ H s)
  (hfp:∀ b∈fp,FpOk X pins H b) (hob:∀ b∈fp,∃ o,s.heap.get? b=some o) (hl:s.heap.objs.size<=l) (hC:s.heap.objs.size<=C) (hlC:l≠C)
  (kp:∀ b o,s.heap.get? b=some o->s3.heap.get? b=some o) (hn:s3.heap.Ns C m) (hlst:∃ n,s3.heap.get? l=some { cls:=.type "list",data:=.seq #[] n }) (ho:s3.os=s.os) (hg:s3.gens=s.gens) :
  Inv (compCx X N sc C fp pins s H) [] (List.replicate kk none++capsOf js σ) (upd H l (.lst [])) s3:=by
 have fre:∀ y∈sc.names,y.2=.free->∃ c,X.env.cells.lookup y.1=some c:=λy hy hk=>I.ok.has y.1 (by
  have q:=S.frees y hy hk
  rw [<-hsc] at q
  exact q)
 have cget:∀ y c,(clo X.env sc.names []).lookup y=some c->X.env.cells.lookup y=some c:=λy c e=>by
  rcases clo_get fre e with q|q
  ·cases q
  ·exact q
 have old:∀ b o,s.heap.get? b=some o->b≠C/\b≠l:=λb o e=>⟨Nat.ne_of_lt (Nat.lt_of_lt_of_le (Heap.lt_size e) hC),Nat.ne_of_lt (Nat.lt_of_lt_of_le (Heap.lt_size e) hl)⟩
 have freshC:H C=none:=I.hok.fresh hC
 have freshl:H l=none:=I.hok.fresh hl
 refine ⟨⟨I.ok.mod,S.kind,I.ok.glob,I.ok.blt,hC,λy z c h1 h2=>I.ok.inj y z c (cget y c h1) (cget z c h2),λy hy=>?_,λy c h _=>absurd (show false=true from h) Bool.false_ne_true,I.ok.hd,I.ok.frames,.inl rfl,λb hb=>?_,I.bs,Nat.le_trans I.ok.bsz I.sz,λb o e hb=>?_,λb hb hb2=>?_,I.stack,I.stkFree⟩,
  ho,hg ▸ I.bare,Un.laid kp hl freshl,⟨m,hn,λi y v h1 h2 h3=>?_⟩,λy c e=>?_,?_,λy c e=>?_,λp hp=>?_,?_,?_⟩
 ·have hmem:(y,NameKind.free)∈sc.names:=by
   rcases hy with hy|hy
   ·exact relabel_back (.inl rfl) S.nocell hy
   ·exact relabel_back (.inr rfl) S.nocell hy
  exact Option.isSome_iff_exists.mp (clo_has hmem)
 ·obtain ⟨o,e⟩:=hob b hb
  exact ⟨(old b o e).1,λy c q=>(hfp b hb).2.2.2.2.1 y c (cget y c q)⟩
 ·obtain ⟨f0,f1,f2,f3,f4,f5⟩:=hfp b hb
  rcases f3 with z|z
  ·exact I.ok.noex b o e z
  ·exact absurd (Nat.lt_of_lt_of_le (Heap.lt_size (I.ok.bs b o e).1) z) (Nat.lt_irrefl _)
 ·obtain ⟨f0,f1,f2,f3,f4,f5⟩:=hfp b hb
  rcases List.mem_cons.mp (I.stkSub b hb2) with z|z
  ·exact f1 z
  ·exact f2 z
 ·
  by_cases hik:i<kk
  ·have h2':(List.replicate kk (none:Option V)++capsOf js σ)[i]?=some (some v):=h2
   rw [List.getElem?_append_left (by rw [List.length_replicate];exact hik),List.getElem?_replicate,if_pos hik] at h2'
   cases h2'
  ·obtain ⟨i,rfl⟩:∃ i',i=kk+i':=⟨i-kk,by omega⟩
   have h2':(capsOf js σ)[i]?=some (some v):=by
    have h2'':(List.replicate kk (none:Option V)++capsOf js σ)[kk+i]?=some (some v):=h2
    rw [List.getElem?_append_right (by rw [List.length_replicate];omega),List.length_replicate,Nat.add_sub_cancel_left] at h2''
    exact h2''
   unfold capsOf at h2'
   rw [List.getElem?_map] at h2'
   cases ej:js[i]? with
   |none=>rw [ej] at h2';cases h2'
   |some j=>
    rw [ej] at h2'
    have hσ:σ[j]?.join=some v:=Option.some.inj h2'
    have hσ':σ[j]?=some (some v):=by
     cases q:σ[j]? with
     |none=>rw [q] at hσ;cases hσ
     |some o=>rw [q] at hσ;cases o with
      |none=>cases hσ
      |some v'=>cases hσ;rfl
    have hy:y=N0.getD j "":=by
     have h1':N[kk+i]?=some y:=h1
     have:=congrArg (λL=>L[i]?) S.caps
     simp only [List.getElem?_drop,List.getElem?_map,ej] at this
     rw [h1'] at this
     exact Option.some.inj this
    obtain ⟨hjl,hjf⟩:=S.capin j (List.mem_of_getElem? ej)
    have hNj:X.N[j]?=some y:=by
     rw [hN,hy]
     simp [hjl]
    rw [<-hy] at hjf
    have hmem:(y,NameKind.free)∈sc.names:=PySem.mem_of_lookup hjf
    have hk:=S.frees _ hmem rfl
    rw [<-hsc] at hk
    obtain ⟨mX,hnX,hlX⟩:=I.loc
    have hvis:Vis X.env.scope y:=by
     rcases hk with z|z
     ·exact .inr (.inl z)
     ·exact .inr (.inr z)
    obtain ⟨u,ru,lk⟩:=hlX j y v hNj hσ' hvis
    refine ⟨u,ru,?_⟩
    rcases lk with ⟨z,_⟩|⟨z,c,ec,ecell⟩
    ·have z':X.env.scope.names.lookup y=some .local:=z
     rcases hk with q|q
     ·rw [z'] at q;cases q
     ·rw [z'] at q;cases q
    ·refine .inr ⟨relabel_free hjf,?_⟩
     obtain ⟨c',ec'⟩:=Option.isSome_iff_exists.mp (clo_has (env:=X.env) (acc:=[]) hmem)
     have:=cget y c' ec'
     rw [ec] at this
     cases this
     exact ⟨c,ec',ecell.keeps kp⟩
 ·obtain ⟨v,q⟩:=I.cell y c (cget y c e)
  exact ⟨v,q.keeps kp⟩
 ·show upd H l (.lst []) C=none
  rw [upd_ne (Ne.symm hlC)]
  exact freshC
 ·show upd H l (.lst []) c=none
  obtain ⟨v,o,q,_⟩:=I.cell y c (cget y c e)
  rw [upd_ne (old c o q).2]
  exact I.freeC y c (cget y c e)
 ·have hp':p∈X.pn++pins:=by
   have hp2:p∈(X.pn++pins)++[]:=hp
   rw [List.append_nil] at hp2
   exact hp2
  obtain ⟨e,n,ne,nf,d⟩:=I.pin p hp'
  refine ⟨kp _ _ e,?_,(old _ _ e).1,λz=>?_,d⟩
  ·rw [upd_ne (old _ _ e).2];exact n
  ·rcases List.mem_cons.mp (I.stkSub p.1 z) with q|q
   ·exact ne q
   ·exact nf q
 ·obtain ⟨n,e⟩:=hlst
  exact I.hok.laid kp hl ⟨by rw [List.length_nil];exact Nat.zero_le _,[],n,.nil,e⟩
 ·show (List.replicate kk none++capsOf js σ).length=N.length
  unfold capsOf
  rw [List.length_append,List.length_replicate,List.length_map,S.len]
theorem comp_blockK {pins:List (Addr×Obj)}{σ:St}{H:Hp}{s:Shared}{it:Addr}{fp:List Addr}{tn:Nat->Heap->Prop}{J:It}{QQ:Hp->Prop}{RR:Value->Addr->Result->Shared->Prop}{E:Value->Shared->Prop}
  (S:CScopeK fsc sc N0 N js kk) (hsc:X.env.scope=fsc) (hN:X.N=N0) (hc:X.calm=true) (I:Inv X pins σ H s) (T:Turn X.prog X.w X.K tg J fp it tn) (st:tn 0 s.heap) (hfp:∀ b∈fp,FpOk X pins H b)
  (hgt:∀ C fp pins s H,PG (compCx X N sc C fp pins s H) tg g) (hf:∀ C fp pins s H,PF (compCx X N sc C fp pins s H) ifs tt) (he:∀ C fp pins s H,PE (compCx X N sc C fp pins s H) elt te)
  (q:∃ W:Nat->Nat->List V->Hp->Prop,(∃ m,W 0 m [] (upd H s.heap.objs.size (.lst [])))/\∀ i m ys H,W i m ys H->H s.heap.objs.size=some (.lst ys)/\((J.stop i H/\QQ H)∨(J.go i H/\∀ y H',J.yld i H y H'->∀ σ0:St,σ0.length=kk+js.length->σ0.drop kk=capsOf js σ->g y σ0 H' fun σ1 H1=>σ1.drop kk=capsOf js σ/\tt σ1 H1 λb H2=>
   if b=true then te σ1 H2 λz H3=>H3 s.heap.objs.size=some (.lst ys)/\ys.length<sizeLine/\∃ m',m'<m/\W (i+1) m' (ys++[z]) (upd H3 s.heap.objs.size (.lst (ys++[z]))) else ∃ m',m'<m/\W (i+1) m' ys H2)))
  (fin:∀ (C:Addr) (s':Shared) (H':Hp) (m:Str->Option Value),s.heap.objs.size<=C->s.heap.objs.size≠C->s'.heap.Ns C m->s'.os=s.os->AllBare s'.gens->Un (frs X.stack) fp H H' s.heap s'.heap->HOk X.prog X.w H' s'.heap->H' C=none->QQ H'->RR (.ref s.heap.objs.size) C (.ok .next) s') :
  wpAny (model X.prog X.w) X.A (newList []) (λacc s3=>wpAny (model X.prog X.w) X.A (newFunctionEnv sc X.env.globals (clo X.env sc.names []) [] X.env.qual none .none (some X.env)) (λcenv s4=>
   codeAny (model X.prog X.w) X.A (.compStart (.ListComp elt [⟨tg,iter,ifs,0⟩] sc pos) 0 (.ref it) acc { cenv with scope:=relabel sc X.env }) (RR acc cenv.locals) s4) E s3) E s:=by
 obtain ⟨W,⟨m0,w0⟩,turn⟩:=q
 refine wpAny_newObj_type (wpAny_newFunctionEnv S.nocell (by intro y hy;simp at hy) (λh1 hns hsb=>?_) S.kind)
 dsimp only at hns hsb ⊢
 generalize hL:s.heap.objs.size=l at *
 generalize hP:s.heap.push { cls:=.type "list",dict:=none,data:=.seq ([]:List Value).toArray }=hp at hns hsb ⊢
 have hps:hp.objs.size=l+1:=by rw [<-hP,Heap.size_push,hL]
 have old:∀ b o,s.heap.get? b=some o->h1.get? b=some o:=λb o e=>by
  have lt:b<l:=by rw [<-hL];exact Heap.lt_size e
  exact hsb.extBut b o (by rw [hps];exact ne_succ lt) (Heap.get?_push_of_some _ (hP ▸ Heap.get?_push_of_some _ e))
 have hlst:∃ n,h1.get? l=some { cls:=.type "list",data:=.seq #[] n }:=by
  refine ⟨0,hsb.extBut _ _ (by rw [hps];exact ne_self_succ) (Heap.get?_push_of_some _ ?_)⟩
  rw [<-hP,<-hL]
  exact Heap.get?_push_size _ rfl
 have hlC:l≠hp.objs.size:=by rw [hps];omega
 have obj0:∀ b∈fp,∃ o,s.heap.get? b=some o:=λb hb=>let ⟨o,e,_⟩:=T.obj 0 _ st b hb;⟨o,e⟩
 have st1:tn 0 h1:=T.keep 0 _ _ st λb _ o e=>old b o e
 have loop:∀ s3:Shared,s3={ s with heap:=h1,toks:=s.toks+([]:List (Str×Value)).length }->
   codeAny (model X.prog X.w) X.A (.compLoop (.ListComp elt [⟨tg,iter,ifs,0⟩] sc pos) 0 (.ref it) (.ref l) (compEnvC sc (clo X.env sc.names []) hp.objs.size X.env)) (RR (.ref l) hp.objs.size) s3:=by
  intro s3 e3
  have I0:Inv (compCx X N sc hp.objs.size fp pins s H) [] (List.replicate kk none++capsOf js σ) (upd H l (.lst [])) s3:=by
   subst e3
   exact comp_invK S hsc hN I hfp obj0 (by omega) (by rw [hps];omega) hlC old hns hlst rfl rfl
  have FPY:∀ {pins':List (Addr×Obj)}{H':Hp},(∀ b∈fp,H' b=none)->pins'=[]->∀ b∈fp,FpOk (compCx X N sc hp.objs.size fp pins s H) pins' H' b:=λ{pins' H'} hn hp0 b hb=>by
   subst hp0
   obtain ⟨f0,f1,f2,f3,f4,f5⟩:=hfp b hb
   obtain ⟨o,e⟩:=obj0 b hb
   refine ⟨hn b hb,?_,λz=>?_,.inl hb,λy c q=>?_,λp hp'=>?_⟩
   ·have:b<l:=by rw [<-hL];exact Heap.lt_size e
    show b≠hp.objs.size
    rw [hps];exact ne_succ this
   ·exact I0.ok.exfs b hb z
   ·exact (I0.ok.exf b hb).2 y c q
   ·have hp2:p∈(X.pn++pins)++[]:=hp'
    rw [List.append_nil] at hp2
    exact f5 p hp2
  have fr0:∀ b∈fp,upd H l (.lst []) b=none:=λb hb=>by
   obtain ⟨o,e⟩:=obj0 b hb
   rw [upd_ne (Nat.ne_of_lt (hL ▸ Heap.lt_size e))]
   exact (hfp b hb).1
  refine comp_loop (λn s'=>∃ i ys σ' H',Inv (compCx X N sc hp.objs.size fp pins s H) [] σ' H' s'/\σ'.drop kk=capsOf js σ/\tn i s'.heap/\(∀ b∈fp,H' b=none)/\W i n ys H') ?_ m0 ⟨0,[],_,_,I0,by rw [List.drop_append_of_le_length (by rw [List.length_replicate];exact Nat.le_refl _),List.drop_eq_nil_of_le (by rw [List.length_replicate];exact Nat.le_refl _)];rfl,by subst e3;exact st1,fr0,w0⟩
  rintro n s4 ⟨i,ys,σ4,H4,I4,hσ4,st4,fr4,w4⟩
  obtain ⟨hly,tn4⟩:=turn i n ys H4 w4
  rcases tn4 with ⟨stop,qn⟩|⟨go,step⟩
  ·refine thn (T.done (compCx X N sc hp.objs.size fp pins s H) rfl rfl rfl hc i [] s4 σ4 H4 _ I4 (FPY fr4 rfl) st4 stop) λr s5 ⟨hr,I5⟩=>?_
   subst hr
   obtain ⟨m5,hn5,_⟩:=I5.loc
   exact fin hp.objs.size s5 H4 m5 (by rw [hps];omega) hlC hn5 I5.os I5.bare I5.base I5.hok I5.free qn
  ·refine thn (T.item (compCx X N sc hp.objs.size fp pins s H) rfl rfl rfl hc i [] s4 σ4 H4 _ I4 (FPY fr4 rfl) st4 go) λr s5 ⟨u,hr,h5⟩=>?_
   subst hr
   refine thn h5 λ_ s6 ⟨y,H6,I6,r6,y6,st6,fr6⟩=>?_
   have I6':=I6.pinned (FPY fr6 rfl) (T.obj _ _ st6)
   have hl4:σ4.length=kk+js.length:=I4.len.trans S.len
   refine thn (hgt hp.objs.size fp pins s H _ s6 σ4 H6 y u _ I6' r6 (step y H6 y6 σ4 hl4 hσ4)) λ_ s7 ⟨σ7,H7,I7,hσ7,q7⟩=>?_
   have again:∀ {s9:Shared}{H9:Hp}{ys':List V}{m':Nat},Inv (compCx X N sc hp.objs.size fp pins s H) ([]++pinsAt fp s6.heap) σ7 H9 s9->m'<n->W (i+1) m' ys' H9->
     ∃ m,m<n/\∃ i ys σ' H',Inv (compCx X N sc hp.objs.size fp pins s H) [] σ' H' s9/\σ'.drop kk=capsOf js σ/\tn i s9.heap/\(∀ b∈fp,H' b=none)/\W i m ys H':=λ{s9 H9 ys' m'} I9 hm w9=>by
    refine ⟨m',hm,i+1,ys',_,H9,I9.unpinned,hσ7,T.keep _ _ _ st6 λb hb o e=>(I9.pin (b,o) (List.mem_append_right _ (List.mem_append_right _ (mem_pinsAt hb e)))).1,λb hb=>?_,w9⟩
    obtain ⟨o,e,d⟩:=T.obj _ _ st6 b hb
    exact (I9.pin (b,o) (List.mem_append_right _ (List.mem_append_right _ (mem_pinsAt hb e)))).2.1
   refine thn (hf hp.objs.size fp pins s H _ s7 _ H7 _ I7 q7) λok s8 ⟨H8,I8,q8⟩=>?_
   cases ok with
   |false=>
    rw [if_neg Bool.false_ne_true] at q8 ⊢
    obtain ⟨m',hm,w'⟩:=q8
    exact again I8 hm w'
   |true=>
    rw [if_pos rfl] at q8 ⊢
    refine thn (he hp.objs.size fp pins s H _ s8 _ H8 _ I8 q8) λv s9 ⟨z,H9,I9,r9,hl9,hz9,m',hm,w'⟩=>?_
    refine thn (mt_append (X:=compCx X N sc hp.objs.size fp pins s H) _ s9 _ H9 (.ref l) [z] (.ref l) [v] (λx H'=>x=.non/\H'=upd H9 l (.lst (ys++[z]))) I9 rfl (.cons r9 .nil) ⟨l,ys,z,rfl,rfl,hl9,hz9,rfl,rfl⟩) λ_ s10 ⟨_,H10,I10,_,_,e10⟩=>?_
    subst e10
    exact again I10 hm w'
 exact codeAny_compStart_list (loop _ rfl) (T.self X.A 0 _ _ _ st1 (loop _ rfl))
theorem pe_compK (S:CScopeK fsc sc N0 N js kk) (hsc:X.env.scope=fsc) (hN:X.N=N0) (hc:X.calm=true) (hi:PI X tg iter wi)
  (hgt:∀ C fp pins s H,PG (compCx X N sc C fp pins s H) tg g) (hf:∀ C fp pins s H,PF (compCx X N sc C fp pins s H) ifs tt) (he:∀ C fp pins s H,PE (compCx X N sc C fp pins s H) elt te)
  (hs:∀ x,foldedSetIterable iter X.env x=pure x:=by intro _;rfl):PE X (.ListComp elt [⟨tg,iter,ifs,0⟩] sc pos) (tCompK kk js wi g tt te):=by
 intro pins s σ H Q I h
 rw [eval_ListComp]
 have fre:∀ y∈sc.names,y.2=.free->∃ c,X.env.cells.lookup y.1=some c:=λy hy hk=>I.ok.has y.1 (by
  have q:=S.frees y hy hk
  rw [<-hsc] at q
  exact q)
 refine wpAny_comprehension_free (use:=none) rfl hs (closure_clo fre) S.kind S.names (thn (hi pins s σ H _ I h) λv s1 h1=>thn h1 λitv s2 h2=>?_)
 obtain ⟨it,fp,tn,J,H2,e,I2,T,st2,f2,q2⟩:=h2
 subst e
 refine comp_blockK (QQ:=λH'=>Q (.ref s2.heap.objs.size) H') (RR:=λacc C=>compPost (model X.prog X.w) X.A X.xe none (EP X pins σ Q) acc C) S hsc hN hc I2 T st2 f2 hgt hf he (q2 s2.heap.objs.size (I2.hok.fresh (Nat.le_refl _))) ?_
 intro C s' H' m hC hlC hn ho hg u hok hfree qq
 refine ⟨m,hn,λh' hs'=>⟨.ref s2.heap.objs.size,H',?_,rfl,qq⟩⟩
 have I3:Inv X pins σ H' s':=I2.call' ho u hok hg λb hb=>⟨(f2 b hb).2.2.2.1,(f2 b hb).2.1,(f2 b hb).2.2.2.2.1,(f2 b hb).2.2.2.2.2⟩
 have szs:X.s₀.heap.objs.size<=C:=Nat.le_trans I2.sz hC
 have CL:C≠X.env.locals:=Nat.ne_of_gt (Nat.lt_of_lt_of_le I2.lt hC)
 exact I3.turned (t':=s'.toks) (it:=C) (λb o hb e=>(hs'.2 b hb).trans e) hfree CL (.inr szs) (λy c e z=>by
  obtain ⟨v',o',e',_⟩:=I2.cell y c e
  exact Nat.ne_of_lt (Nat.lt_of_lt_of_le (Heap.lt_size e') hC) z) λp hp z=>
   Nat.ne_of_lt (Nat.lt_of_lt_of_le (Heap.lt_size (I2.pin p hp).1) hC) z
end
theorem pg_tupK {X:Cx}{K':PySem.W.Frag}{es:List Expr}{k n:Nat}{t:TGs}{pos:Pos} (hK:X.K=K') (hc:X.calm=true) (h:PGs X es t)
  (hn:(assignEach es X.env).length=n:=by rfl) (hst:(assignEach es X.env).findIdx? (·.1)=none:=by rfl):PG X (.Tuple es k pos) (gTup K' n t):=hK ▸ pg_tup hc h hn hst
theorem comp_gh {α:Type}{K:PySem.W.Frag}{a:Addr}{xs:List V}{kk:Nat}{js:List Nat}{g:TG}{tt:TT}{te:TE}{σ:St}{H1:Hp}{R:Addr->Hp->Prop} (rs:List α) (p:α->Bool) (f:α->V) (hx:SqL K H1 a xs) (hl:rs.length=xs.length) (hn:xs.length<=2000)
  (step:∀ (j:Nat) (x:V) (r:α) (H2:Hp) (σ0:St) (R1:Hp->Prop) (R2:VK),xs[j]?=some x->rs[j]?=some r->Same H1 H2->σ0.length=kk+js.length->σ0.drop kk=capsOf js σ->(p r=false->R1 H2)->(p r=true->R2 (f r) H2)->
   g x σ0 H2 fun σ1 H3=>σ1.drop kk=capsOf js σ/\tt σ1 H3 λb H4=>if b=true then te σ1 H4 R2 else R1 H4)
  (hq:∀ l,H1 l=none->R l (upd H1 l (.lst ((rs.filter p).map f)))) :
  ∀ l,H1 l=none->∃ W:Nat->Nat->List V->Hp->Prop,(∃ m,W 0 m [] (upd H1 l (.lst [])))/\
   ∀ i m ys H,W i m ys H->H l=some (.lst ys)/\(((Itl K a).stop i H/\R l H)∨((Itl K a).go i H/\∀ x H',(Itl K a).yld i H x H'->∀ σ0:St,σ0.length=kk+js.length->σ0.drop kk=capsOf js σ->g x σ0 H' fun σ1 H1=>σ1.drop kk=capsOf js σ/\tt σ1 H1 λb H2=>
    if b=true then te σ1 H2 λy H3=>H3 l=some (.lst ys)/\ys.length<sizeLine/\∃ m',m'<m/\W (i+1) m' (ys++[y]) (upd H3 l (.lst (ys++[y]))) else ∃ m',m'<m/\W (i+1) m' ys H2)):=by
 intro l hll
 have sm:∀ {o:HO},Same H1 (upd H1 l o):=λ{o} b u e=>by rw [upd_ne (ne_of_none e hll)];exact e
 have s2:(2000:Nat)<sizeLine:=by decide
 refine ⟨λi m ys H=>m=xs.length-i/\i<=xs.length/\ys=((rs.take i).filter p).map f/\H=upd H1 l (.lst ys),⟨xs.length,rfl,Nat.zero_le _,by simp,rfl⟩,?_⟩
 rintro i m ys H ⟨rfl,hi,rfl,rfl⟩
 refine ⟨upd_same,?_⟩
 have hx2:SqL K (upd H1 l (.lst (((rs.take i).filter p).map f))) a xs:=sm.seq hx
 by_cases hlt:i<xs.length
 ·have hxi:xs[i]?=some xs[i]:=List.getElem?_eq_getElem hlt
  have hri:rs[i]?=some (rs[i]'(by omega)):=List.getElem?_eq_getElem _
  generalize rs[i]'(by omega)=r at hri
  have htk:rs.take (i+1)=rs.take i++[r]:=by rw [List.take_add_one,hri];rfl
  refine .inr ⟨⟨xs,xs[i],hx2,hxi⟩,λx H' y σ0 h0 h1=>?_⟩
  obtain ⟨e1,y⟩:=y
  subst e1
  have ex:=y xs hx2
  have hlen:(((rs.take i).filter p).map f).length<=i:=by
   rw [List.length_map]
   refine Nat.le_trans (List.length_filter_le _ _) ?_
   rw [List.length_take];omega
  refine step i x r _ σ0 _ _ ex hri sm h0 h1 (λhp=>?_) (λhp=>?_)
  ·refine ⟨xs.length-(i+1),by omega,rfl,hlt,?_,rfl⟩
   rw [htk,List.filter_append,List.map_append]
   simp [hp]
  ·refine ⟨upd_same,by omega,xs.length-(i+1),by omega,rfl,hlt,?_,by rw [upd_upd]⟩
   rw [htk,List.filter_append,List.map_append]
   simp [hp]
 ·have e:i=xs.length:=by omega
  subst e
  refine .inl ⟨⟨xs,hx2,Nat.le_refl _⟩,?_⟩
  rw [List.take_of_length_le (by omega)]
  exact hq l hll
theorem comp_ghN {α:Type}{K:PySem.W.Frag}{a:Addr}{xs:List V}{js:List Nat}{tt:TT}{te:TE}{σ:St}{H1:Hp}{R:Addr->Hp->Prop} (rs:List α) (p:α->Bool) (f:α->V) (hx:SqL K H1 a xs) (hl:rs.length=xs.length) (hn:xs.length<=2000)
  (ht:∀ (j:Nat) (x:V) (r:α) (H2:Hp) (Q':Bool->Hp->Prop),xs[j]?=some x->rs[j]?=some r->Same H1 H2->Q' (p r) H2->tt (some x::capsOf js σ) H2 Q')
  (he:∀ (j:Nat) (x:V) (r:α) (H2:Hp) (Q':VK),xs[j]?=some x->rs[j]?=some r->p r=true->Same H1 H2->Q' (f r) H2->te (some x::capsOf js σ) H2 Q')
  (hq:∀ l,H1 l=none->R l (upd H1 l (.lst ((rs.filter p).map f)))) :
  ∀ l,H1 l=none->∃ W:Nat->Nat->List V->Hp->Prop,(∃ m,W 0 m [] (upd H1 l (.lst [])))/\
   ∀ i m ys H,W i m ys H->H l=some (.lst ys)/\(((Itl K a).stop i H/\R l H)∨((Itl K a).go i H/\∀ x H',(Itl K a).yld i H x H'->tt (some x::capsOf js σ) H' λb H2=>
    if b=true then te (some x::capsOf js σ) H2 λy H3=>H3 l=some (.lst ys)/\ys.length<sizeLine/\∃ m',m'<m/\W (i+1) m' (ys++[y]) (upd H3 l (.lst (ys++[y]))) else ∃ m',m'<m/\W (i+1) m' ys H2)):=by
 intro l hll
 have sm:∀ {o:HO},Same H1 (upd H1 l o):=λ{o} b u e=>by rw [upd_ne (ne_of_none e hll)];exact e
 have s2:(2000:Nat)<sizeLine:=by decide
 refine ⟨λi m ys H=>m=xs.length-i/\i<=xs.length/\ys=((rs.take i).filter p).map f/\H=upd H1 l (.lst ys),⟨xs.length,rfl,Nat.zero_le _,by simp,rfl⟩,?_⟩
 rintro i m ys H ⟨rfl,hi,rfl,rfl⟩
 refine ⟨upd_same,?_⟩
 have hx2:SqL K (upd H1 l (.lst (((rs.take i).filter p).map f))) a xs:=sm.seq hx
 by_cases hlt:i<xs.length
 ·have hxi:xs[i]?=some xs[i]:=List.getElem?_eq_getElem hlt
  have hri:rs[i]?=some (rs[i]'(by omega)):=List.getElem?_eq_getElem _
  generalize rs[i]'(by omega)=r at hri
  have htk:rs.take (i+1)=rs.take i++[r]:=by rw [List.take_add_one,hri];rfl
  refine .inr ⟨⟨xs,xs[i],hx2,hxi⟩,λx H' y=>?_⟩
  obtain ⟨e1,y⟩:=y
  subst e1
  have ex:=y xs hx2
  have hlen:(((rs.take i).filter p).map f).length<=i:=by
   rw [List.length_map]
   refine Nat.le_trans (List.length_filter_le _ _) ?_
   rw [List.length_take];omega
  refine ht i x r _ _ ex hri sm ?_
  by_cases hp:p r=true
  ·rw [if_pos hp]
   refine he i x r _ _ ex hri hp sm ⟨upd_same,by omega,xs.length-(i+1),by omega,rfl,hlt,?_,by rw [upd_upd]⟩
   rw [htk,List.filter_append,List.map_append]
   simp [hp]
  ·rw [if_neg hp]
   refine ⟨xs.length-(i+1),by omega,rfl,hlt,?_,rfl⟩
   rw [htk,List.filter_append,List.map_append]
   simp [hp]
 ·have e:i=xs.length:=by omega
  subst e
  refine .inl ⟨⟨xs,hx2,Nat.le_refl _⟩,?_⟩
  rw [List.take_of_length_le (by omega)]
  exact hq l hll
end L2
namespace L2
open PySem PySem.Spec PyProof.Rows
inductive EqD (K:PySem.W.Frag) (H:Hp):Bool->Nat->V->V->Bool->Prop where
 |flat {n:Nat}{x y:V} (hx:flatV x=true) (hy:flatV y=true):EqD K H true n x y (eqV x y)
 |same {n:Nat}{x:V}{a:Addr} (h:x=.ref a):EqD K H true n x x true
 |refs {n:Nat}{p q:Addr}{b:Bool} (h:p≠q) (e:EqD K H false n (.ref p) (.ref q) b):EqD K H true n (.ref p) (.ref q) b
 |lists {n:Nat}{p q:Addr}{xs ys:List V} (f:Nat->Bool) (hp:SqL K H p xs) (hq:SqL K H q ys) (hl:xs.length=ys.length) (e:∀ j x y,xs[j]?=some x->ys[j]?=some y->EqD K H true n x y (f j)) :
   EqD K H false (n+1) (.ref p) (.ref q) ((List.range xs.length).all f)
 |lens {n:Nat}{p q:Addr}{xs ys:List V} (hp:SqL K H p xs) (hq:SqL K H q ys) (hl:xs.length≠ys.length):EqD K H false (n+1) (.ref p) (.ref q) false
 |tups {n:Nat}{p q:Addr}{xs ys:List V} (f:Nat->Bool) (hp:SqT K H p xs) (hq:SqT K H q ys) (hl:xs.length=ys.length) (e:∀ j x y,xs[j]?=some x->ys[j]?=some y->EqD K H true n x y (f j)) :
   EqD K H false (n+1) (.ref p) (.ref q) ((List.range xs.length).all f)
theorem eqd_at {X:Cx}{pins:List (Addr×Obj)}{σ:St}{H:Hp}{s:Shared} (I:Inv X pins σ H s) {i:Bool}{n:Nat}{x y:V}{b:Bool} (e:EqD X.K H i n x y b):∀ {A:Around}{u v:Value},A.units+n<=cLine->RelV x u->RelV y v->
  (i=true->SeqAt.EqAt A s u v b)/\(i=false->SeqAt.RcAt A s u v b):=by
 induction e with
 |flat hx hy=>intro A u v hu ru rv;exact ⟨λ_=>eqAt_V ru rv hx hy,λz=>nomatch z⟩
 |same h=>
  intro A u v hu ru rv
  subst h
  cases ru
  cases rv
  exact ⟨λ_=>SeqAt.EqAt.same _,λz=>nomatch z⟩
 |refs h e ih=>
  intro A u v hu ru rv
  have q:=(ih hu ru rv).2 rfl
  cases ru
  cases rv
  exact ⟨λ_=>SeqAt.EqAt.of_refs h q,λz=>nomatch z⟩
 | @lists n p q xs ys f hp hq hl e ih=>
  intro A u v hu ru rv
  cases ru
  cases rv
  obtain ⟨its,r1,pl1,_⟩:=I.list hp
  obtain ⟨its2,r2,pl2,_⟩:=I.list hq
  have l1:=r1.length
  have l2:=r2.length
  refine ⟨(λz=>nomatch z),λ_=>?_⟩
  have key:=SeqAt.RcAt.lists (A:=A) (s:=s) (e:=f) pl1.isList pl2.isList (by simp;omega) (by omega) λj h1 h2=>?_
  ·rw [List.size_toArray,<-l1] at key
   exact key
  ·have h1':j<xs.length:=by simpa [l1] using h1
   have h2':j<ys.length:=by simpa [l2] using h2
   obtain ⟨u1,e1,ru1⟩:=r1.get (List.getElem?_eq_getElem h1')
   obtain ⟨u2,e2,ru2⟩:=r2.get (List.getElem?_eq_getElem h2')
   have q1:its.toArray[j]=u1:=by
    have:=List.getElem?_eq_some_iff.mp e1
    simpa using this.2
   have q2:its2.toArray[j]=u2:=by
    have:=List.getElem?_eq_some_iff.mp e2
    simpa using this.2
   rw [q1,q2]
   exact (ih j _ _ (List.getElem?_eq_getElem h1') (List.getElem?_eq_getElem h2') (A:=A.in1) (by show A.units+1+n<=cLine;omega) ru1 ru2).1 rfl
 | @lens n p q xs ys hp hq hl=>
  intro A u v hu ru rv
  cases ru
  cases rv
  obtain ⟨its,r1,pl1,_⟩:=I.list hp
  obtain ⟨its2,r2,pl2,_⟩:=I.list hq
  have l1:=r1.length
  have l2:=r2.length
  exact ⟨(λz=>nomatch z),λ_=>SeqAt.RcAt.lists_lengths pl1.isList pl2.isList (by simp;omega) (by omega)⟩
 | @tups n p q xs ys f hp hq hl e ih=>
  intro A u v hu ru rv
  cases ru
  cases rv
  obtain ⟨its,r1,pl1,_⟩:=I.tuple hp
  obtain ⟨its2,r2,pl2,_⟩:=I.tuple hq
  have l1:=r1.length
  have l2:=r2.length
  refine ⟨(λz=>nomatch z),λ_=>?_⟩
  have key:=SeqAt.RcAt.tuples (A:=A) (s:=s) (e:=f) pl1 pl2 (by omega) λj h1 h2=>?_
  ·have e1:min its.toArray.size its2.toArray.size=xs.length:=by simp;omega
   have e2:(its.toArray.size == its2.toArray.size)=true:=by simp;omega
   rw [e1,e2,Bool.and_true] at key
   exact key
  ·have h1':j<xs.length:=by simpa [l1] using h1
   have h2':j<ys.length:=by simpa [l2] using h2
   obtain ⟨u1,e1,ru1⟩:=r1.get (List.getElem?_eq_getElem h1')
   obtain ⟨u2,e2,ru2⟩:=r2.get (List.getElem?_eq_getElem h2')
   have q1:its.toArray[j]=u1:=by
    have:=List.getElem?_eq_some_iff.mp e1
    simpa using this.2
   have q2:its2.toArray[j]=u2:=by
    have:=List.getElem?_eq_some_iff.mp e2
    simpa using this.2
   rw [q1,q2]
   exact (ih j _ _ (List.getElem?_eq_getElem h1') (List.getElem?_eq_getElem h2') (A:=A.in1) (by show A.units+1+n<=cLine;omega) ru1 ru2).1 rfl
theorem op_eqD {X:Cx} (hu:X.A.units+16<=cLine):OpR X (compareOp .Eq) (λx y H Q=>∃ n b,n<=16/\EqD X.K H false n x y b/\Q (.bl b) H):=by
 intro pins s σ H x y v u Q I rx ry h
 obtain ⟨n,b,hn,e,q⟩:=h
 exact (eqd_at I e (by omega) rx ry).2 rfl X.prog X.w X.xe _ ⟨.bl b,H,I,rfl,q⟩
theorem eqd_ne {X:Cx}{pins:List (Addr×Obj)}{σ:St}{H:Hp}{s:Shared} (I:Inv X pins σ H s) {n:Nat}{x y:V}{b:Bool} (e:EqD X.K H false n x y b) {A:Around}{u v:Value} (hu:A.units+n<=cLine) (ru:RelV x u) (rv:RelV y v) :
  SeqAt.RcNeAt A s u v (!b):=by
 cases e with
 | @lists n p q xs ys f hp hq hl e=>
  cases ru
  cases rv
  obtain ⟨its,r1,pl1,_⟩:=I.list hp
  obtain ⟨its2,r2,pl2,_⟩:=I.list hq
  have l1:=r1.length
  have l2:=r2.length
  have key:=SeqAt.RcNeAt.lists (A:=A) (s:=s) (e:=f) pl1.isList pl2.isList (by simp;omega) (by omega) λj h1 h2=>?_
  ·rw [List.size_toArray,<-l1] at key
   exact key
  ·have h1':j<xs.length:=by simpa [l1] using h1
   have h2':j<ys.length:=by simpa [l2] using h2
   obtain ⟨u1,e1,ru1⟩:=r1.get (List.getElem?_eq_getElem h1')
   obtain ⟨u2,e2,ru2⟩:=r2.get (List.getElem?_eq_getElem h2')
   have q1:its.toArray[j]=u1:=by
    have:=List.getElem?_eq_some_iff.mp e1
    simpa using this.2
   have q2:its2.toArray[j]=u2:=by
    have:=List.getElem?_eq_some_iff.mp e2
    simpa using this.2
   rw [q1,q2]
   exact (eqd_at I (e j _ _ (List.getElem?_eq_getElem h1') (List.getElem?_eq_getElem h2')) (A:=A.in1) (by show A.units+1+n<=cLine;omega) ru1 ru2).1 rfl
 | @lens n p q xs ys hp hq hl=>
  cases ru
  cases rv
  obtain ⟨its,r1,pl1,_⟩:=I.list hp
  obtain ⟨its2,r2,pl2,_⟩:=I.list hq
  have l1:=r1.length
  have l2:=r2.length
  exact SeqAt.RcNeAt.lists_lengths pl1.isList pl2.isList (by simp;omega) (by omega)
 | @tups n p q xs ys f hp hq hl e=>
  cases ru
  cases rv
  obtain ⟨its,r1,pl1,_⟩:=I.tuple hp
  obtain ⟨its2,r2,pl2,_⟩:=I.tuple hq
  have l1:=r1.length
  have l2:=r2.length
  have key:=SeqAt.RcNeAt.tuples (A:=A) (s:=s) (e:=f) pl1 pl2 (by omega) λj h1 h2=>?_
  ·have e1:min its.toArray.size its2.toArray.size=xs.length:=by simp;omega
   have e2:(its.toArray.size == its2.toArray.size)=true:=by simp;omega
   rw [e1,e2,Bool.and_true] at key
   exact key
  ·have h1':j<xs.length:=by simpa [l1] using h1
   have h2':j<ys.length:=by simpa [l2] using h2
   obtain ⟨u1,e1,ru1⟩:=r1.get (List.getElem?_eq_getElem h1')
   obtain ⟨u2,e2,ru2⟩:=r2.get (List.getElem?_eq_getElem h2')
   have q1:its.toArray[j]=u1:=by
    have:=List.getElem?_eq_some_iff.mp e1
    simpa using this.2
   have q2:its2.toArray[j]=u2:=by
    have:=List.getElem?_eq_some_iff.mp e2
    simpa using this.2
   rw [q1,q2]
   exact (eqd_at I (e j _ _ (List.getElem?_eq_getElem h1') (List.getElem?_eq_getElem h2')) (A:=A.in1) (by show A.units+1+n<=cLine;omega) ru1 ru2).1 rfl
theorem op_neD {X:Cx} (hu:X.A.units+16<=cLine):OpR X (compareOp .NotEq) (λx y H Q=>∃ n b,n<=16/\EqD X.K H false n x y b/\Q (.bl (!b)) H):=by
 intro pins s σ H x y v u Q I rx ry h
 obtain ⟨n,b,hn,e,q⟩:=h
 exact eqd_ne I e (by omega) rx ry X.prog X.w X.xe _ ⟨.bl (!b),H,I,rfl,q⟩
theorem all_range_eq {xs ys:List V} (hl:xs.length=ys.length):((List.range xs.length).all λj=>eqV (xs.getD j .non) (ys.getD j .non))=(xs.zip ys).all λp=>eqV p.1 p.2:=by
 induction xs generalizing ys with
 |nil=>rfl
 |cons x xs ih=>
  cases ys with
  |nil=>simp at hl
  |cons y ys=>
   rw [List.length_cons,List.range_succ_eq_map,List.all_cons,List.all_map,List.zip_cons_cons,List.all_cons]
   have:=ih (ys:=ys) (by simpa using hl)
   rw [<-this]
   rfl
def eqVs (xs ys:List V):Bool:=xs.length == ys.length && (xs.zip ys).all λp=>eqV p.1 p.2
theorem eqd_flat {K:PySem.W.Frag}{H:Hp}{p q:Addr}{xs ys:List V} (hp:SqL K H p xs) (hq:SqL K H q ys) (fx:∀ x∈xs,flatV x=true) (fy:∀ y∈ys,flatV y=true):EqD K H false 1 (.ref p) (.ref q) (eqVs xs ys):=by
 by_cases hl:xs.length=ys.length
 ·have e:eqVs xs ys=(List.range xs.length).all λj=>eqV (xs.getD j .non) (ys.getD j .non):=by
   unfold eqVs
   rw [all_range_eq hl,hl]
   simp
  rw [e]
  refine .lists _ hp hq hl λj x y hx hy=>?_
  have e1:xs.getD j .non=x:=by rw [List.getD_eq_getElem?_getD,hx];rfl
  have e2:ys.getD j .non=y:=by rw [List.getD_eq_getElem?_getD,hy];rfl
  rw [e1,e2]
  exact .flat (fx x (List.mem_of_getElem? hx)) (fy y (List.mem_of_getElem? hy))
 ·have e:eqVs xs ys=false:=by
   unfold eqVs
   have:(xs.length == ys.length)=false:=by simpa using hl
   rw [this];rfl
  rw [e]
  exact .lens hp hq hl
theorem strs_of:∀ {zs:List Str}{us:List Value},Vals (zs.map V.str) us->StrsAre us zs
 | [],_,r=>by rw [List.map_nil] at r;cases r;exact .nil
 |z::zs,_,r=>by
  rw [List.map_cons] at r
  cases r with
  |cons h t=>
   obtain ⟨k,rfl⟩:=h
   exact .cons _ _ (strs_of t)
theorem mt_join {X:Cx}:MtR X "str.join" (λx vs H Q=>∃ sep l zs,x=.str sep/\vs=[.ref l]/\SqL X.K H l (zs.map V.str)/\(zs.map (·.length)).sum+zs.length * sep.length<=16777216/\Q (.str (Txt.join sep zs)) H):=by
 intro pins s σ H x vs v us Q I rx rv h
 obtain ⟨sep,l,zs,rfl,rfl,hl,hz,q⟩:=h
 obtain ⟨t,rfl⟩:=rx
 obtain ⟨u,rfl,ru⟩:=rv.one
 obtain rfl:u=Value.ref l:=ru
 obtain ⟨its,r,pl,_⟩:=I.list hl
 exact join_list pl.isList (by simpa using strs_of r) hz λt' k=>⟨.str _,H,I.tok _,⟨t',rfl⟩,q⟩
end L2
namespace Cut
section
variable {α:Type} [DecidableEq α]
def atL:α->List (Int×α)->Int->α
 |v,[],_=>v
 |v,q::r,p=>atL (if q.1<=p then q.2 else v) r p
def lastA (q:Int×α):List (Int×α)->Bool
 | []=>true
 |s::_=>decide (s.1≠q.1)
def formP:α->List (Int×α)->List (Int×α)
 |_,[]=>[]
 |v,q::r=>if lastA q r=true/\q.2≠v then q::formP q.2 r else formP v r
def Rise (ps:List (Int×α)):Prop:=ps.Pairwise λa b=>a.1<=b.1
def Strict (ps:List (Int×α)):Prop:=ps.Pairwise λa b=>a.1<b.1
def Diff:α->List (Int×α)->Prop
 |_,[]=>True
 |v,q::r=>q.2≠v/\Diff q.2 r
theorem Strict.rise {ps:List (Int×α)} (h:Strict ps):Rise ps:=List.Pairwise.imp (λh=>Int.le_of_lt h) h
theorem atL_low {p:Int}:∀ {ps:List (Int×α)}{v:α},(∀ q∈ps,p<q.1)->atL v ps p=v
 | [],_,_=>rfl
 |q::r,v,h=>by
  have h1:=h q List.mem_cons_self
  show atL (if q.1<=p then q.2 else v) r p=v
  rw [if_neg (by omega)]
  exact atL_low λq hq=>h q (List.mem_cons_of_mem _ hq)
theorem atL_congr {p p':Int}:∀ {ps:List (Int×α)}{v:α},(∀ q∈ps,(q.1<=p ↔ q.1<=p'))->atL v ps p=atL v ps p'
 | [],_,_=>rfl
 |q::r,v,h=>by
  have h1:=h q List.mem_cons_self
  have ih:=λw=>@atL_congr p p' r w λq hq=>h q (List.mem_cons_of_mem _ hq)
  show atL (if q.1<=p then q.2 else v) r p=atL (if q.1<=p' then q.2 else v) r p'
  by_cases hc:q.1<=p
  ·rw [if_pos hc,if_pos (h1.mp hc)];exact ih _
  ·rw [if_neg hc,if_neg λz=>hc (h1.mpr z)];exact ih _
theorem atL_append {p:Int}:∀ {a b:List (Int×α)}{v:α},atL v (a++b) p=atL (atL v a p) b p
 | [],_,_=>rfl
 |q::r,b,v=>by
  show atL (if q.1<=p then q.2 else v) (r++b) p=atL (atL (if q.1<=p then q.2 else v) r p) b p
  exact atL_append
theorem form_mem {q:Int×α}:∀ {ps:List (Int×α)}{v:α},q∈formP v ps->q∈ps
 | [],_,h=>h
 |s::r,v,h=>by
  unfold formP at h
  split at h
  ·rcases List.mem_cons.mp h with e|h
   ·rw [e];exact List.mem_cons_self
   ·exact List.mem_cons_of_mem _ (form_mem h)
  ·exact List.mem_cons_of_mem _ (form_mem h)
theorem last_lt {q:Int×α}{r:List (Int×α)} (hr:Rise (q::r)) (hl:lastA q r=true):∀ s∈r,q.1<s.1:=by
 intro s hs
 cases r with
 |nil=>cases hs
 |cons t r=>
  have h1:t.1≠q.1:=of_decide_eq_true hl
  have h2:=List.pairwise_cons.mp hr
  have h3:=h2.1 t List.mem_cons_self
  rcases List.mem_cons.mp hs with e|hs
  ·rw [e];omega
  ·have h4:=(List.pairwise_cons.mp h2.2).1 s hs
   omega
theorem atL_form {p:Int}:∀ {ps:List (Int×α)}{v:α},Rise ps->atL v (formP v ps) p=atL v ps p
 | [],_,_=>rfl
 |q::r,v,hr=>by
  have h2:=List.pairwise_cons.mp hr
  show atL v (if lastA q r=true/\q.2≠v then q::formP q.2 r else formP v r) p=atL (if q.1<=p then q.2 else v) r p
  by_cases hc:lastA q r=true/\q.2≠v
  ·rw [if_pos hc]
   show atL (if q.1<=p then q.2 else v) (formP q.2 r) p=_
   by_cases hp:q.1<=p
   ·rw [if_pos hp];exact atL_form h2.2
   ·rw [if_neg hp,atL_low λs hs=>?_,atL_low λs hs=>?_]
    ·have:=h2.1 s hs;omega
    ·have:=h2.1 s (form_mem hs);omega
  ·rw [if_neg hc,atL_form h2.2]
   by_cases hv:q.2=v
   ·rw [hv];simp
   ·cases r with
    |nil=>exact absurd ⟨rfl,hv⟩ hc
    |cons t r=>
     have ht:t.1=q.1:=by
      by_cases e:t.1=q.1
      ·exact e
      ·exact absurd ⟨decide_eq_true e,hv⟩ hc
     show atL (if t.1<=p then t.2 else v) r p=atL (if t.1<=p then t.2 else (if q.1<=p then q.2 else v)) r p
     rw [ht]
     by_cases hp:q.1<=p
     ·rw [if_pos hp,if_pos hp]
     ·rw [if_neg hp,if_neg hp,if_neg hp]
theorem form_strict:∀ {ps:List (Int×α)}{v:α},Rise ps->Strict (formP v ps)
 | [],_,_=>List.Pairwise.nil
 |q::r,v,hr=>by
  have h2:=List.pairwise_cons.mp hr
  unfold formP
  split
  ·rename_i hc
   exact List.pairwise_cons.mpr ⟨λs hs=>last_lt hr hc.1 s (form_mem hs),form_strict h2.2⟩
  ·exact form_strict h2.2
theorem form_diff:∀ {ps:List (Int×α)}{v:α},Diff v (formP v ps)
 | [],_=>trivial
 |q::r,v=>by
  unfold formP
  split
  ·rename_i hc
   exact ⟨hc.2,form_diff⟩
  ·exact form_diff
theorem form_unique:∀ {a b:List (Int×α)}{v:α},Strict a->Strict b->Diff v a->Diff v b->(∀ p,atL v a p=atL v b p)->a=b
 | [],[],_,_,_,_,_,_=>rfl
 | [],q::r,v,_,hb,_,db,h=>by
  have h2:=List.pairwise_cons.mp hb
  have e:=h q.1
  have e2:atL v (q::r) q.1=q.2:=by
   show atL (if q.1<=q.1 then q.2 else v) r q.1=q.2
   rw [if_pos (Int.le_refl _)]
   exact atL_low h2.1
  rw [e2] at e
  exact absurd e.symm db.1
 |q::r,[],v,ha,_,da,_,h=>by
  have h2:=List.pairwise_cons.mp ha
  have e:=h q.1
  have e2:atL v (q::r) q.1=q.2:=by
   show atL (if q.1<=q.1 then q.2 else v) r q.1=q.2
   rw [if_pos (Int.le_refl _)]
   exact atL_low h2.1
  rw [e2] at e
  exact absurd e da.1
 |q::r,s::t,v,ha,hb,da,db,h=>by
  have h2:=List.pairwise_cons.mp ha
  have h3:=List.pairwise_cons.mp hb
  have atq:atL v (q::r) q.1=q.2:=by
   show atL (if q.1<=q.1 then q.2 else v) r q.1=q.2
   rw [if_pos (Int.le_refl _)]
   exact atL_low h2.1
  have ats:atL v (s::t) s.1=s.2:=by
   show atL (if s.1<=s.1 then s.2 else v) t s.1=s.2
   rw [if_pos (Int.le_refl _)]
   exact atL_low h3.1
  have ec:q.1=s.1:=by
   by_cases h4:q.1<s.1
   ·have e:=h q.1
    rw [atq,atL_low (ps:=s::t) λz hz=>?_] at e
    ·exact absurd e da.1
    ·rcases List.mem_cons.mp hz with z1|z1
     ·rw [z1];exact h4
     ·have:=h3.1 z z1;omega
   ·by_cases h5:s.1<q.1
    ·have e:=h s.1
     rw [ats,atL_low (ps:=q::r) λz hz=>?_] at e
     ·exact absurd e.symm db.1
     ·rcases List.mem_cons.mp hz with z1|z1
      ·rw [z1];exact h5
      ·have:=h2.1 z z1;omega
    ·omega
  have eh:q.2=s.2:=by
   have e:=h q.1
   rw [atq,ec,ats] at e
   exact e
  have eqs:q=s:=Prod.ext ec eh
  subst eqs
  have er:r=t:=form_unique h2.2 h3.2 da.2 db.2 λp=>by
   by_cases hp:q.1<=p
   ·have e:atL (if q.1<=p then q.2 else v) r p=atL (if q.1<=p then q.2 else v) t p:=h p
    rw [if_pos hp] at e
    exact e
   ·rw [atL_low λz hz=>?_,atL_low λz hz=>?_]
    ·have:=h3.1 z hz;omega
    ·have:=h2.1 z hz;omega
  rw [er]
def formE (f:Int->α):α->List Int->List (Int×α)
 |_,[]=>[]
 |v,e::r=>if f e≠v then (e,f e)::formE f (f e) r else formE f v r
theorem formE_formP (f:Int->α):∀ {es:List Int}{v:α},es.Pairwise (· < ·)->formE f v es=formP v (es.map λe=>(e,f e))
 | [],_,_=>rfl
 |e::r,v,h=>by
  have h2:=List.pairwise_cons.mp h
  have hl:lastA (e,f e) (r.map λe=>(e,f e))=true:=by
   cases r with
   |nil=>rfl
   |cons s r=>
    have:=h2.1 s List.mem_cons_self
    exact decide_eq_true (by show s≠e;omega)
  show (if f e≠v then (e,f e)::formE f (f e) r else formE f v r)=(if lastA (e,f e) (r.map λe=>(e,f e))=true/\f e≠v then (e,f e)::formP (f e) (r.map λe=>(e,f e)) else formP v (r.map λe=>(e,f e)))
  by_cases hv:f e≠v
  ·rw [if_pos hv,if_pos ⟨hl,hv⟩,formE_formP f h2.2]
  ·rw [if_neg hv,if_neg λz=>hv z.2,formE_formP f h2.2]
theorem atL_steps {f:Int->α}{p:Int}:∀ {es:List Int}{v:α},es.Pairwise (· < ·)->((∀ e∈es,p<e)->f p=v)->(∀ e∈es,e<=p->(∀ e'∈es,e'<=p->e'<=e)->f p=f e)->atL v (es.map λe=>(e,f e)) p=f p
 | [],v,_,h1,_=>(h1 λ_ h=>nomatch h).symm
 |e::r,v,hs,h1,h2=>by
  have hs2:=List.pairwise_cons.mp hs
  show atL (if e<=p then f e else v) (r.map λe=>(e,f e)) p=f p
  refine atL_steps hs2.2 (λhlow=>?_) λe' he' hle hmax=>?_
  ·by_cases hep:e<=p
   ·rw [if_pos hep]
    refine h2 e List.mem_cons_self hep λe' he' hle=>?_
    rcases List.mem_cons.mp he' with z|z
    ·omega
    ·have:=hlow e' z;omega
   ·rw [if_neg hep]
    refine h1 λe' he'=>?_
    rcases List.mem_cons.mp he' with z|z
    ·omega
    ·exact hlow e' z
  ·refine h2 e' (List.mem_cons_of_mem _ he') hle λe'' he'' hle''=>?_
   rcases List.mem_cons.mp he'' with z|z
   ·have:=hs2.1 e' he';omega
   ·exact hmax e'' z hle''
theorem formE_at {f:Int->α}{es:List Int}{v:α} (hs:es.Pairwise (· < ·)) (h1:∀ p,(∀ e∈es,p<e)->f p=v) (h2:∀ p,∀ e∈es,e<=p->(∀ e'∈es,e'<=p->e'<=e)->f p=f e) (p:Int):atL v (formE f v es) p=f p:=by
 have hr:Rise (es.map λe=>(e,f e)):=by
  unfold Rise
  rw [List.pairwise_map]
  exact List.Pairwise.imp (λh=>Int.le_of_lt h) hs
 rw [formE_formP f hs,atL_form hr]
 exact atL_steps hs (h1 p) (h2 p)
theorem formE_strict {f:Int->α}{es:List Int}{v:α} (hs:es.Pairwise (· < ·)):Strict (formE f v es):=by
 rw [formE_formP f hs]
 refine form_strict ?_
 unfold Rise
 rw [List.pairwise_map]
 exact List.Pairwise.imp (λh=>Int.le_of_lt h) hs
theorem formE_diff {f:Int->α}{es:List Int}{v:α} (hs:es.Pairwise (· < ·)):Diff v (formE f v es):=by
 rw [formE_formP f hs]
 exact form_diff
structure UpTo (cs:List Int) (p:Int) (n:Nat):Prop where
 le:n<=cs.length
 lo:∀ i c,i<n->cs[i]?=some c->c<=p
 hi:∀ i c,n<=i->cs[i]?=some c->p<c
theorem UpTo.at:∀ {ps:List (Int×α)}{p:Int}{n:Nat}{v:α},UpTo (ps.map (·.1)) p n->(v::ps.map (·.2))[n]?=some (atL v ps p)
 |ps,p,0,v,h=>by
  have e:atL v ps p=v:=atL_low λq hq=>by
   obtain ⟨i,hi,e⟩:=List.mem_iff_getElem.mp hq
   refine h.hi i q.1 (Nat.zero_le _) ?_
   rw [List.getElem?_map,List.getElem?_eq_getElem hi,e]
   rfl
  rw [e];rfl
 | [],p,n+1,v,h=>by
  have:=h.le
  simp at this
 |q::r,p,n+1,v,h=>by
  have h1:q.1<=p:=h.lo 0 q.1 (Nat.succ_pos _) rfl
  have hu:UpTo (r.map (·.1)) p n:=⟨by have:=h.le;simp at this ⊢;omega,λi c hi e=>h.lo (i+1) c (by omega) (by simpa using e),λi c hi e=>h.hi (i+1) c (by omega) (by simpa using e)⟩
  have ih:=UpTo.at (v:=q.2) hu
  have e:atL v (q::r) p=atL q.2 r p:=by
   show atL (if q.1<=p then q.2 else v) r p=_
   rw [if_pos h1]
  rw [e,<-ih]
  rfl
end
end Cut
namespace Cut
open PySem L2
inductive Kd where
 |N
 |B
 |I
class HoldKind where
 kd:Kd
def okN (v:V):Prop:=v=.non∨∃ x,v=.str x
def okK:Kd->V->Prop
 | .N,v=>okN v
 | .B,v=>okN v∨∃ b,v=.bl b
 | .I,v=>okN v∨∃ n,v=.int n
theorem okN.flat {v:V} (h:okN v):flatV v=true:=by rcases h with e|⟨x,e⟩<;>subst e<;>rfl
theorem okN.eqV {v u:V} (h:okN v) (h':okN u):L2.eqV v u=decide (v=u):=by
 rcases h with e|⟨x,e⟩<;>subst e<;>rcases h' with e|⟨y,e⟩<;>subst e
 ·rfl
 ·simp [L2.eqV]
 ·simp [L2.eqV]
 ·show (x == y)=_
  rw [Bool.eq_iff_iff];simp
theorem okK.ofN {k:Kd}{v:V} (h:okN v):okK k v:=by
 cases k
 ·exact h
 ·exact .inl h
 ·exact .inl h
theorem okK.flat {k:Kd}{v:V} (h:okK k v):flatV v=true:=by
 cases k
 ·exact okN.flat h
 ·rcases h with h|⟨b,e⟩
  ·exact okN.flat h
  ·subst e;rfl
 ·rcases h with h|⟨b,e⟩
  ·exact okN.flat h
  ·subst e;rfl
theorem okK.eqV {k:Kd}{v u:V} (h:okK k v) (h':okK k u):L2.eqV v u=decide (v=u):=by
 cases k
 ·exact okN.eqV h h'
 ·rcases h with h|⟨b,e⟩
  ·rcases h' with h'|⟨c,e⟩
   ·exact okN.eqV h h'
   ·subst e;rcases h with e|⟨x,e⟩<;>subst e<;>simp [L2.eqV]
  ·subst e
   rcases h' with h'|⟨c,e⟩
   ·rcases h' with e|⟨x,e⟩<;>subst e<;>simp [L2.eqV]
   ·subst e
    show (b == c)=_
    rw [Bool.eq_iff_iff];simp
 ·rcases h with h|⟨b,e⟩
  ·rcases h' with h'|⟨c,e⟩
   ·exact okN.eqV h h'
   ·subst e;rcases h with e|⟨x,e⟩<;>subst e<;>simp [L2.eqV]
  ·subst e
   rcases h' with h'|⟨c,e⟩
   ·rcases h' with e|⟨x,e⟩<;>subst e<;>simp [L2.eqV]
   ·subst e
    show (b == c)=_
    rw [Bool.eq_iff_iff];simp
theorem okN.scal {v u:V} (h:okN v) (h':okN u):scal v u=true:=by
 rcases h with e|⟨x,e⟩<;>subst e<;>rcases h' with e|⟨y,e⟩<;>subst e<;>rfl
theorem okK.scal {k:Kd}{v u:V} (h:okK k v) (h':okK k u):scal v u=true:=by
 cases k
 ·exact okN.scal h h'
 ·rcases h with h|⟨b,e⟩
  ·rcases h' with h'|⟨c,e⟩
   ·exact okN.scal h h'
   ·subst e;rcases h with e|⟨x,e⟩<;>subst e<;>rfl
  ·subst e
   rcases h' with h'|⟨c,e⟩
   ·rcases h' with e|⟨x,e⟩<;>subst e<;>rfl
   ·subst e;rfl
 ·rcases h with h|⟨b,e⟩
  ·rcases h' with h'|⟨c,e⟩
   ·exact okN.scal h h'
   ·subst e;rcases h with e|⟨x,e⟩<;>subst e<;>rfl
  ·subst e
   rcases h' with h'|⟨c,e⟩
   ·rcases h' with e|⟨x,e⟩<;>subst e<;>rfl
   ·subst e;rfl
section
variable [HoldKind]
def HV (v:V):Prop:=okK HoldKind.kd v
theorem HV.non:HV .non:=okK.ofN (.inl rfl)
theorem HV.str (x:Str):HV (.str x):=okK.ofN (.inr ⟨x,rfl⟩)
theorem HV.scal {v u:V} (h:HV v) (h':HV u):scal v u=true:=okK.scal h h'
end
structure Def (P:Program) (w:World) (K:PySem.W.Frag) (mg:Str->Option Value) (base:Heap) (x:Str) (ps:List Str) (k:Nat) (sp:Sp):Prop where
 ex:∃ (f:Addr) (fd:FuncData),mg x=some (.ref f)/\PySem.W.keepIn K (.ref f)=true/\Binds K fd ps []/\FnOk P w K mg base CX0 k f fd ps sp
theorem pe_callD {X:Cx}{x:Str}{ps:List Str}{k:Nat}{sp:Sp}{p pos:Pos}{e:Expr}{es:List Expr}{t:TA} (D:Def X.prog X.w X.K X.mg X.base x ps k sp) (hr:Room k X.A) (hg:Gl X x) (ha:PA X (e::es) t)
  (hdb:(x == ("__debug__":Str))=false:=by decide) (he:starEach (e::es) X.env=(false,eval e X.env)::starEach es X.env:=by rfl) (hpl:(backTo pos (starEach es X.env)).any (·.1)=false:=by rfl) :
  PE X (.Call (.Name x p) (e::es) [] pos) (tCall sp [] E0 t):=by
 obtain ⟨f,fd,h1,h2,h3,h4⟩:=D.ex
 exact pe_call h4 hr hg h1 h2 h3 .nil pass0 ha hdb he hpl
theorem pe_callD0 {X:Cx}{x:Str}{ps:List Str}{k:Nat}{sp:Sp}{p pos:Pos} (D:Def X.prog X.w X.K X.mg X.base x ps k sp) (hr:Room k X.A) (hg:Gl X x)
  (hdb:(x == ("__debug__":Str))=false:=by decide):PE X (.Call (.Name x p) [] [] pos) (tCall sp [] E0 tNil):=by
 obtain ⟨f,fd,h1,h2,h3,h4⟩:=D.ex
 exact pe_call0 h4 hr hg h1 h2 h3 .nil pass0 hdb
theorem Same.refl {H:Hp}:Same H H:=λ_ _ e=>e
theorem Same.upd {H H':Hp}{p:Addr}{o:HO} (s:Same H H') (h:H p=none):Same H (upd H' p o):=λb u e=>by
 rw [upd_ne (ne_of_none e h)]
 exact s b u e
theorem Same.new {H:Hp}{p:Addr}{o:HO} (h:H p=none):Same H (L2.upd H p o):=Same.upd Same.refl h
theorem Same.tup {K:PySem.W.Frag}{H H':Hp}{a:Addr}{xs:List V} (e:Same H H') (h:SqT K H a xs):SqT K H' a xs:=by
 rcases h with (h|⟨o,h⟩)|h
 ·exact .inl (.inl (e _ _ h))
 ·exact .inl (.inr ⟨o,e _ _ h⟩)
 ·exact .inr h
theorem chne:¬ (("cuts":Str)="holds"):=by decide +kernel
def flds (a b:Addr):List (Str×V):=putF "holds" (.ref b) (putF "cuts" (.ref a) [])
theorem flds_cuts (a b:Addr):(flds a b).lookup ("cuts":Str)=some (.ref a):=by
 unfold flds
 rw [lookup_putF,if_neg chne,lookup_putF,if_pos rfl]
theorem flds_holds (a b:Addr):(flds a b).lookup ("holds":Str)=some (.ref b):=by
 unfold flds
 rw [lookup_putF,if_pos rfl]
abbrev cutsV (ps:List (Int×V)):List V:=ps.map λq=>V.int q.1
abbrev holdsV (v:V) (ps:List (Int×V)):List V:=v::ps.map (·.2)
def LineAt (C:Addr) (H:Hp) (p:Addr) (v:V) (ps:List (Int×V)):Prop:=
 ∃ dx a b,H p=some (.ins C dx (flds a b))/\H a=some (.lst (cutsV ps))/\H b=some (.lst (holdsV v ps))
def LineNew (C:Addr) (H H':Hp) (p:Addr) (v:V) (ps:List (Int×V)):Prop:=
 ∃ dx a b,H p=none/\H a=none/\H b=none/\H' p=some (.ins C dx (flds a b))/\H' a=some (.lst (cutsV ps))/\H' b=some (.lst (holdsV v ps))
theorem LineNew.at {C:Addr}{H H':Hp}{p:Addr}{v:V}{ps:List (Int×V)} (h:LineNew C H H' p v ps):LineAt C H' p v ps:=
 let ⟨dx,a,b,_,_,_,h1,h2,h3⟩:=h
 ⟨dx,a,b,h1,h2,h3⟩
theorem LineAt.same {C:Addr}{H H':Hp}{p:Addr}{v:V}{ps:List (Int×V)} (h:LineAt C H p v ps) (s:Same H H'):LineAt C H' p v ps:=
 let ⟨dx,a,b,h1,h2,h3⟩:=h
 ⟨dx,a,b,s _ _ h1,s _ _ h2,s _ _ h3⟩
namespace KindN
scoped instance _root_.Cut.kN:HoldKind:=⟨.N⟩
end KindN
namespace KindB
scoped instance _root_.Cut.kB:HoldKind:=⟨.B⟩
end KindB
namespace KindI
scoped instance _root_.Cut.kI:HoldKind:=⟨.I⟩
end KindI
theorem HV.bl (b:Bool):@HV kB (.bl b):=.inr ⟨b,rfl⟩
theorem HV.int (n:Int):@HV kI (.int n):=.inr ⟨n,rfl⟩
variable [HoldKind]
structure Holds (v:V) (ps:List (Int×V)):Prop where
 h0:HV v
 hs:∀ q∈ps,HV q.2
theorem Holds.form {v:V}{ps:List (Int×V)} (h:Holds v ps):Holds v (formP v ps):=⟨h.h0,λq hq=>h.hs q (form_mem hq)⟩
theorem Holds.at {v:V}{ps:List (Int×V)}{p:Int} (h:Holds v ps):HV (atL v ps p):=by
 have all:∀ (ps:List (Int×V)) (v:V),HV v->(∀ q∈ps,HV q.2)->HV (atL v ps p):=by
  intro ps
  induction ps with
  |nil=>intro v h _;exact h
  |cons q r ih=>
   intro v h hs
   show HV (atL (if q.1<=p then q.2 else v) r p)
   refine ih _ ?_ λq hq=>hs q (List.mem_cons_of_mem _ hq)
   split
   ·exact hs q List.mem_cons_self
   ·exact h
 exact all ps v h.h0 h.hs
theorem cuts_flat {ps:List (Int×V)}:∀ x∈cutsV ps,flatV x=true:=λx hx=>by
 obtain ⟨q,hq,e⟩:=List.mem_map.mp hx
 rw [<-e];rfl
theorem form_len {α:Type} [DecidableEq α]:∀ {ps:List (Int×α)}{v:α},(formP v ps).length<=ps.length
 | [],_=>Nat.le_refl _
 |q::r,v=>by
  unfold formP
  split
  ·rw [List.length_cons,List.length_cons];exact Nat.succ_le_succ form_len
  ·rw [List.length_cons];exact Nat.le_succ_of_le form_len
structure Txt (K:PySem.W.Frag) (mg:Str->Option Value) (C:Addr):Prop where
 cl:Cls K C
 nC:NoAttr K C "cuts"
 nH:NoAttr K C "holds"
 mgC:mg "Line"=some (.ref C)
 len:mg "len"=none
 range:mg "range"=none
 enumerate:mg "enumerate"=none
 isinstance:mg "isinstance"=none
 list:mg "list"=none
 tuple:mg "tuple"=none
 dict:mg "dict"=none
 str:mg "str"=none
 int:mg "int"=none
 bool:mg "bool"=none
 set:mg "set"=none
 sorted:mg "sorted"=none
 max:mg "max"=none
 min:mg "min"=none
 reversed:mg "reversed"=none
 ty1:PySem.W.findIn K (.ref C) "__class__"=some (some (.builtin "object.__class__"))
 ty2:PySem.W.specialIn K (.builtin "object.__class__") "__get__"=some (some (.builtin "getset_descriptor.__get__"))
 ty3:PySem.W.takesIn K (.builtin "object.__class__")=some true
 ty4:PySem.W.mroIn K C (.type "object")=some true
theorem kit_bb {K:PySem.W.Frag}{T T':String}{b:Bool} (h:(if (Value.type T == Value.type T')=true then some true else if PySem.W.kitMeta T'=true then (fastBuiltinMro T).map (·.contains (.type T')) else none)=some b) :
  PySem.W.kitOne K (.type T) (.type T')=some b:=h
theorem kit_NL {K:PySem.W.Frag}:PySem.W.kitOne K (.type "NoneType") (.type "list")=some false:=kit_bb (by decide +kernel)
theorem kit_NT {K:PySem.W.Frag}:PySem.W.kitOne K (.type "NoneType") (.type "tuple")=some false:=kit_bb (by decide +kernel)
theorem kit_ND {K:PySem.W.Frag}:PySem.W.kitOne K (.type "NoneType") (.type "dict")=some false:=kit_bb (by decide +kernel)
theorem kit_NS {K:PySem.W.Frag}:PySem.W.kitOne K (.type "NoneType") (.type "str")=some false:=kit_bb (by decide +kernel)
theorem kit_SL {K:PySem.W.Frag}:PySem.W.kitOne K (.type "str") (.type "list")=some false:=kit_bb (by decide +kernel)
theorem kit_ST {K:PySem.W.Frag}:PySem.W.kitOne K (.type "str") (.type "tuple")=some false:=kit_bb (by decide +kernel)
theorem kit_SD {K:PySem.W.Frag}:PySem.W.kitOne K (.type "str") (.type "dict")=some false:=kit_bb (by decide +kernel)
theorem kit_SS {K:PySem.W.Frag}:PySem.W.kitOne K (.type "str") (.type "str")=some true:=kit_bb (by decide +kernel)
theorem kit_II {K:PySem.W.Frag}:PySem.W.kitOne K (.type "int") (.type "int")=some true:=kit_bb (by decide +kernel)
theorem kit_IB {K:PySem.W.Frag}:PySem.W.kitOne K (.type "int") (.type "bool")=some false:=kit_bb (by decide +kernel)
theorem kit_LL {K:PySem.W.Frag}:PySem.W.kitOne K (.type "list") (.type "list")=some true:=kit_bb (by decide +kernel)
theorem kit_TT {K:PySem.W.Frag}:PySem.W.kitOne K (.type "tuple") (.type "tuple")=some true:=kit_bb (by decide +kernel)
theorem kit_BL {K:PySem.W.Frag}:PySem.W.kitOne K (.type "bool") (.type "list")=some false:=kit_bb (by decide +kernel)
theorem kit_BT {K:PySem.W.Frag}:PySem.W.kitOne K (.type "bool") (.type "tuple")=some false:=kit_bb (by decide +kernel)
theorem kit_BD {K:PySem.W.Frag}:PySem.W.kitOne K (.type "bool") (.type "dict")=some false:=kit_bb (by decide +kernel)
theorem kit_IL {K:PySem.W.Frag}:PySem.W.kitOne K (.type "int") (.type "list")=some false:=kit_bb (by decide +kernel)
theorem kit_IT {K:PySem.W.Frag}:PySem.W.kitOne K (.type "int") (.type "tuple")=some false:=kit_bb (by decide +kernel)
theorem kit_ID {K:PySem.W.Frag}:PySem.W.kitOne K (.type "int") (.type "dict")=some false:=kit_bb (by decide +kernel)
theorem okN.ty {K:PySem.W.Frag}{H:Hp}{v:V} (h:okN v):∃ t,TyOf K H v t/\PySem.W.kitOne K t (.type "list")=some false/\PySem.W.kitOne K t (.type "tuple")=some false/\PySem.W.kitOne K t (.type "dict")=some false/\
  PySem.W.kitOne K t (.type "str")=some (decide (v≠.non)):=by
 rcases h with e|⟨x,e⟩
 ·subst e;exact ⟨_,.non,kit_NL,kit_NT,kit_ND,kit_NS⟩
 ·subst e;exact ⟨_,.str x,kit_SL,kit_ST,kit_SD,kit_SS⟩
theorem HV.ty [HoldKind] {K:PySem.W.Frag}{H:Hp}{v:V} (h:HV v):∃ t,TyOf K H v t/\PySem.W.kitOne K t (.type "list")=some false/\PySem.W.kitOne K t (.type "tuple")=some false/\PySem.W.kitOne K t (.type "dict")=some false/\True:=by
 have base:okN v->∃ t,TyOf K H v t/\PySem.W.kitOne K t (.type "list")=some false/\PySem.W.kitOne K t (.type "tuple")=some false/\PySem.W.kitOne K t (.type "dict")=some false/\True:=λh=>by
  obtain ⟨t,h1,h2,h3,h4,_⟩:=h.ty (K:=K) (H:=H)
  exact ⟨t,h1,h2,h3,h4,trivial⟩
 unfold HV at h
 cases e:HoldKind.kd
 ·rw [e] at h;exact base h
 ·rw [e] at h
  rcases h with h|⟨b,e⟩
  ·exact base h
  ·subst e;exact ⟨_,.bl b,kit_BL,kit_BT,kit_BD,trivial⟩
 ·rw [e] at h
  rcases h with h|⟨b,e⟩
  ·exact base h
  ·subst e;exact ⟨_,.int b,kit_IL,kit_IT,kit_ID,trivial⟩
def spInit (C:Addr):Sp:=λvs H Q _=>∃ (p dx a b:Addr),vs=[.ref p,.ref a,.ref b]/\H p=some (.ins C dx [])/\Q .non (upd H p (.ins C dx (flds a b)))
def spOwn:Sp:=λvs H Q _=>∃ v,vs=[v]/\HV v/\Q v H
def spLineOf (K:PySem.W.Frag) (C:Addr):Sp:=λvs H Q _=>∃ (a b:Addr) (v:V) (ps:List (Int×V)),vs=[.ref a,.ref b]/\SqL K H a (cutsV ps)/\SqL K H b (holdsV v ps)/\Holds v ps/\ps.length<=1000/\
 ∀ (p:Addr) (H':Hp),Same H H'->LineNew C H H' p v (formP v ps)->Q (.ref p) H'
def spEmpty (C:Addr):Sp:=λvs H Q _=>vs=[]/\∀ (p:Addr) (H':Hp),Same H H'->LineNew C H H' p .non []->Q (.ref p) H'
def spUpTo (C:Addr):Sp:=λvs H Q _=>∃ (p:Addr) (x:Int) (v:V) (ps:List (Int×V)),vs=[.ref p,.int x]/\LineAt C H p v ps/\Rise ps/\ps.length<=1000/\∀ n:Nat,UpTo (ps.map (·.1)) x n->Q (.int (n:Int)) H
def spValueAt (C:Addr):Sp:=λvs H Q _=>∃ (p:Addr) (x:Int) (v:V) (ps:List (Int×V)),vs=[.ref p,.int x]/\LineAt C H p v ps/\Rise ps/\Holds v ps/\ps.length<=1000/\Q (atL v ps x) H
def spCellAt (K:PySem.W.Frag):Sp:=λvs H Q _=>∃ (a:Addr) (ns:List Int) (k:Nat),vs=[.ref a,.int (k:Int)]/\SqL K H a (ns.map V.int)/\ns.length<=63/\Q (.int (ns.getD k 0)) H
def Names (K:PySem.W.Frag) (H:Hp) (l:Addr) (ts:List V):Prop:=SqL K H l ts/\ts.length=4/\∀ t∈ts,HV t
def spNames:Sp:=λvs H Q _=>∃ c:Int,vs=[.int c]/\∀ (l:Addr) (H':Hp) (t1 t2 t3:Str),Same H H'->H l=none->H' l=some (.lst [.non,.str t1,.str t2,.str t3])->Q (.ref l) H'
def ToldAt (K:PySem.W.Frag) (H:Hp) (t:Addr) (v:V) (ps:List (Int×V)):Prop:=∃ a b,SqT K H t [.ref a,.ref b]/\SqL K H a (cutsV ps)/\SqL K H b (holdsV v ps)
def ToldNew (H H':Hp) (t:Addr) (v:V) (ps:List (Int×V)):Prop:=∃ a b,H t=none/\H a=none/\H b=none/\a≠b/\H' t=some (.tup [.ref a,.ref b])/\H' a=some (.lst (cutsV ps))/\H' b=some (.lst (holdsV v ps))
def spAt (K:PySem.W.Frag):Sp:=λvs H Q _=>∃ (t:Addr) (x:Int) (v:V) (ps:List (Int×V)),vs=[.ref t,.int x]/\ToldAt K H t v ps/\ps.length<=1000/\Q (atL v ps x) H
def spLaw (K:PySem.W.Frag):Sp:=λvs H Q _=>∃ (a:Addr) (ns:List Int),vs=[.ref a]/\SqL K H a (ns.map V.int)/\ns.length<=63/\∀ H',Q (.bl true) H'
theorem orV {c:Bool}{tb:TE}{σ:St}{H:Hp}{Q:VK} (d:Bool) (hb:c=false->∀ Q:VK,Q (.bl d) H->tb σ H Q) (h:Q (.bl (c || d)) H):if c=true then Q (.bl true) H else tb σ H Q:=by
 cases c with
 |true=>rw [if_pos rfl];exact h
 |false=>rw [if_neg Bool.false_ne_true];exact hb rfl Q h
theorem andV {c:Bool}{tb:TE}{σ:St}{H:Hp}{Q:VK} (d:Bool) (hb:c=true->∀ Q:VK,Q (.bl d) H->tb σ H Q) (h:Q (.bl (c && d)) H):if c=true then tb σ H Q else Q (.bl false) H:=by
 cases c with
 |true=>rw [if_pos rfl];exact hb rfl Q h
 |false=>rw [if_neg Bool.false_ne_true];exact h
theorem andT {c:Bool}{u:TT}{σ:St}{H:Hp}{Q:Bool->Hp->Prop} (d:Bool) (hb:c=true->∀ Q:Bool->Hp->Prop,Q d H->u σ H Q) (h:Q (c && d) H):if c=true then u σ H Q else Q false H:=by
 cases c with
 |true=>rw [if_pos rfl];exact hb rfl Q h
 |false=>rw [if_neg Bool.false_ne_true];exact h
def lastH (v:V) (kp:List (Int×V)):V:=(kp.getLast?.map (·.2)).getD v
theorem lastH_snoc (v:V) (kp:List (Int×V)) (q:Int×V):lastH v (kp++[q])=q.2:=by
 unfold lastH
 rw [List.getLast?_append]
 rfl
theorem atI_lastH (v:V) (kp:List (Int×V)):atI (holdsV v kp) (-1)=some (lastH v kp):=by
 rcases List.eq_nil_or_concat kp with e|⟨r,q,e⟩
 ·subst e;exact atI_last [] v
 ·subst e
  rw [List.concat_eq_append,lastH_snoc]
  have e2:holdsV v (r++[q])=(v::r.map (·.2))++[q.2]:=by
   show v::(r++[q]).map (·.2)=_
   rw [List.map_append];rfl
  rw [e2]
  exact atI_last _ _
theorem lastH_hv {v:V}{kp:List (Int×V)} (h:Holds v kp):HV (lastH v kp):=by
 unfold lastH
 cases e:kp.getLast? with
 |none=>exact h.h0
 |some q=>exact h.hs q (List.mem_of_getLast? e)
theorem small {n:Nat} (h:n<=2000):n<sizeLine:=Nat.lt_of_le_of_lt h (by decide)
theorem smallL {n:Nat} (h:n<=2000):n<=sizeLine:=Nat.le_of_lt (small h)
theorem atN {α:Type}{xs:List α}{i:Int}{j:Nat}{v:α} (e:i=(j:Int)) (h:xs[j]?=some v):atI xs i=some v:=by
 rw [e];exact atI_nat h
theorem LineNew.from {C:Addr}{H H1 H':Hp}{p:Addr}{v:V}{ps:List (Int×V)} (s:Same H H1) (h:LineNew C H1 H' p v ps):LineNew C H H' p v ps:=
 let ⟨dx,a,b,n1,n2,n3,h1,h2,h3⟩:=h
 ⟨dx,a,b,s.free n1,s.free n2,s.free n3,h1,h2,h3⟩
theorem comp_rng {js:List Nat}{tt:TT}{te:TE}{σ:St}{H1:Hp}{R:Addr->Hp->Prop}{lo:Int}{n:Nat} (g:Nat->V) (hn:n<=2000)
  (ht:∀ i H2 (Q':Bool->Hp->Prop),i<n->Same H1 H2->Q' true H2->tt (some (.int (lo+i))::capsOf js σ) H2 Q')
  (he:∀ i H2 (Q':VK),i<n->Same H1 H2->Q' (g i) H2->te (some (.int (lo+i))::capsOf js σ) H2 Q')
  (hq:∀ l,H1 l=none->R l (upd H1 l (.lst ((List.range n).map g)))) :
  ∀ l,H1 l=none->∃ W:Nat->Nat->List V->Hp->Prop,(∃ m,W 0 m [] (upd H1 l (.lst [])))/\
   ∀ i m ys H,W i m ys H->H l=some (.lst ys)/\(((Itr lo n).stop i H/\R l H)∨((Itr lo n).go i H/\∀ x H',(Itr lo n).yld i H x H'->tt (some x::capsOf js σ) H' λb H2=>
    if b=true then te (some x::capsOf js σ) H2 λy H3=>H3 l=some (.lst ys)/\ys.length<sizeLine/\∃ m',m'<m/\W (i+1) m' (ys++[y]) (upd H3 l (.lst (ys++[y]))) else ∃ m',m'<m/\W (i+1) m' ys H2)):=by
 intro l hl
 refine ⟨λi m ys H=>m=n-i/\i<=n/\ys=(List.range i).map g/\H=upd H1 l (.lst ys),⟨n,rfl,Nat.zero_le _,rfl,rfl⟩,?_⟩
 rintro i m ys H ⟨rfl,hi,rfl,rfl⟩
 refine ⟨upd_same,?_⟩
 by_cases hlt:i<n
 ·refine .inr ⟨hlt,λx H' y=>?_⟩
  obtain ⟨e1,e2⟩:=y
  subst e1 e2
  refine ht i _ _ hlt (Same.new hl) (iteT (he i _ _ hlt (Same.new hl) ⟨upd_same,small (by rw [List.length_map,List.length_range];omega),n-(i+1),by omega,rfl,hlt,?_,?_⟩))
  ·rw [List.range_succ,List.map_append];rfl
  ·rw [upd_upd]
 ·have e:i=n:=by omega
  subst e
  exact .inl ⟨Nat.le_refl _,hq l hl⟩
theorem comp_lst {K:PySem.W.Frag}{a:Addr}{xs:List V}{js:List Nat}{tt:TT}{te:TE}{σ:St}{H1:Hp}{R:Addr->Hp->Prop} (p:V->Bool) (g:V->V) (hx:SqL K H1 a xs) (hn:xs.length<=2000)
  (ht:∀ x H2 (Q':Bool->Hp->Prop),x∈xs->Same H1 H2->Q' (p x) H2->tt (some x::capsOf js σ) H2 Q')
  (he:∀ x H2 (Q':VK),x∈xs->p x=true->Same H1 H2->Q' (g x) H2->te (some x::capsOf js σ) H2 Q')
  (hq:∀ l,H1 l=none->R l (upd H1 l (.lst ((xs.filter p).map g)))) :
  ∀ l,H1 l=none->∃ W:Nat->Nat->List V->Hp->Prop,(∃ m,W 0 m [] (upd H1 l (.lst [])))/\
   ∀ i m ys H,W i m ys H->H l=some (.lst ys)/\(((Itl K a).stop i H/\R l H)∨((Itl K a).go i H/\∀ x H',(Itl K a).yld i H x H'->tt (some x::capsOf js σ) H' λb H2=>
    if b=true then te (some x::capsOf js σ) H2 λy H3=>H3 l=some (.lst ys)/\ys.length<sizeLine/\∃ m',m'<m/\W (i+1) m' (ys++[y]) (upd H3 l (.lst (ys++[y]))) else ∃ m',m'<m/\W (i+1) m' ys H2)):=by
 intro l hl
 refine ⟨λi m ys H=>m=xs.length-i/\i<=xs.length/\ys=((xs.take i).filter p).map g/\H=upd H1 l (.lst ys),⟨xs.length,rfl,Nat.zero_le _,by simp,rfl⟩,?_⟩
 rintro i m ys H ⟨rfl,hi,rfl,rfl⟩
 refine ⟨upd_same,?_⟩
 have hx2:SqL K (upd H1 l (.lst (((xs.take i).filter p).map g))) a xs:=(Same.new hl).seq hx
 by_cases hlt:i<xs.length
 ·have hxi:xs[i]?=some xs[i]:=List.getElem?_eq_getElem hlt
  have htk:xs.take (i+1)=xs.take i++[xs[i]]:=by rw [List.take_add_one,hxi];rfl
  refine .inr ⟨⟨xs,xs[i],hx2,hxi⟩,λx H' y=>?_⟩
  obtain ⟨e1,y⟩:=y
  subst e1
  have ex:=y xs hx2
  rw [hxi] at ex
  obtain rfl:xs[i]=x:=Option.some.inj ex
  have hm:xs[i]∈xs:=List.getElem_mem hlt
  refine ht _ _ _ hm (Same.new hl) ?_
  have hlen:(((xs.take i).filter p).map g).length<=i:=by
   rw [List.length_map]
   refine Nat.le_trans (List.length_filter_le _ _) ?_
   rw [List.length_take];omega
  by_cases hp:p xs[i]=true
  ·rw [if_pos hp]
   refine he _ _ _ hm hp (Same.new hl) ⟨upd_same,small (by omega),xs.length-(i+1),by omega,rfl,hlt,?_,by rw [upd_upd]⟩
   rw [htk,List.filter_append,List.map_append]
   simp [hp]
  ·rw [if_neg hp]
   refine ⟨xs.length-(i+1),by omega,rfl,hlt,?_,rfl⟩
   rw [htk,List.filter_append,List.map_append]
   simp [hp]
 ·have e:i=xs.length:=by omega
  subst e
  refine .inl ⟨⟨xs,hx2,Nat.le_refl _⟩,?_⟩
  rw [List.take_of_length_le (Nat.le_refl _)]
  exact hq l hl
theorem comp_map {K:PySem.W.Frag}{a:Addr}{xs:List V}{js:List Nat}{te:TE}{σ:St}{H1:Hp}{R:Addr->Hp->Prop} (g:V->V) (hx:SqL K H1 a xs) (hn:xs.length<=2000)
  (he:∀ x H2 (Q':VK),x∈xs->Same H1 H2->Q' (g x) H2->te (some x::capsOf js σ) H2 Q')
  (hq:∀ l,H1 l=none->R l (upd H1 l (.lst (xs.map g)))) :
  ∀ l,H1 l=none->∃ W:Nat->Nat->List V->Hp->Prop,(∃ m,W 0 m [] (upd H1 l (.lst [])))/\
   ∀ i m ys H,W i m ys H->H l=some (.lst ys)/\(((Itl K a).stop i H/\R l H)∨((Itl K a).go i H/\∀ x H',(Itl K a).yld i H x H'->tAll (some x::capsOf js σ) H' λb H2=>
    if b=true then te (some x::capsOf js σ) H2 λy H3=>H3 l=some (.lst ys)/\ys.length<sizeLine/\∃ m',m'<m/\W (i+1) m' (ys++[y]) (upd H3 l (.lst (ys++[y]))) else ∃ m',m'<m/\W (i+1) m' ys H2)):=
 comp_lst (λ_=>true) g hx hn (λ_ _ _ _ _ q=>q) (λx H2 Q' hm _ s q=>he x H2 Q' hm s q) λl hl=>by
  have e:xs.filter (λ_=>true)=xs:=List.filter_eq_self.mpr λ_ _=>rfl
  rw [e];exact hq l hl
theorem cut_from (xs:List V) (k:Nat):cutV xs (some (k:Int)) none=xs.drop k:=by
 unfold cutV
 rw [HT.sIx_nat,HT.sIx_none]
 by_cases h:k<=xs.length
 ·rw [Nat.min_eq_left h]
  exact List.take_of_length_le (by rw [List.length_drop];exact Nat.le_refl _)
 ·have e:xs.drop k=[]:=List.drop_eq_nil_of_le (by omega)
  rw [Nat.min_eq_right (by omega),Nat.sub_self,e];simp
theorem cut_fromto (xs:List V) (k m:Nat):cutV xs (some (k:Int)) (some (m:Int))=(xs.drop k).take (m-k):=by
 unfold cutV
 rw [HT.sIx_nat,HT.sIx_nat]
 by_cases h:k<=xs.length
 ·rw [Nat.min_eq_left h]
  by_cases h2:m<=xs.length
  ·rw [Nat.min_eq_left h2]
  ·rw [Nat.min_eq_right (by omega),List.take_of_length_le (by rw [List.length_drop];exact Nat.le_refl _),List.take_of_length_le (by rw [List.length_drop];omega)]
 ·have e:xs.drop k=[]:=List.drop_eq_nil_of_le (by omega)
  have e2:min k xs.length=xs.length:=Nat.min_eq_right (by omega)
  rw [e2,e,List.drop_eq_nil_of_le (Nat.le_refl _)];simp
theorem cut_to (xs:List V) (m:Nat):cutV xs none (some (m:Int))=xs.take m:=by
 unfold cutV
 rw [HT.sIx_nat,HT.sIx_none,Nat.sub_zero,List.drop_zero]
 by_cases h2:m<=xs.length
 ·rw [Nat.min_eq_left h2]
 ·rw [Nat.min_eq_right (by omega),List.take_of_length_le (Nat.le_refl _),List.take_of_length_le (by omega)]
theorem join_len (sep:Str):∀ ts:List Str,(PySem.Txt.join sep ts).length<=(ts.map (·.length)).sum+ts.length * sep.length:=by
 have all:∀ ts:List Str,(Str.join sep ts).length<=(ts.map (·.length)).sum+ts.length * sep.length:=by
  intro ts
  induction ts with
  |nil=>exact Nat.zero_le _
  |cons x r ih=>
   cases r with
   |nil=>
    show x.length<=_
    simp only [List.map_cons,List.map_nil,List.sum_cons,List.sum_nil,List.length_cons,List.length_nil]
    omega
   |cons y r=>
    have e:Str.join sep (x::y::r)=x++sep++Str.join sep (y::r):=rfl
    rw [e,Str.length_append,Str.length_append]
    simp only [List.map_cons,List.sum_cons,List.length_cons] at ih ⊢
    have e2:(r.length+1+1) * sep.length=(r.length+1) * sep.length+sep.length:=by rw [Nat.succ_mul]
    omega
 intro ts
 exact Nat.le_trans (Nat.le_of_eq (congrArg Str.length (PySem.StrLaws.glued_eq_join sep ts))) (all ts)
theorem letter_at {i:Int} (h0:0<=i) (h1:i<26):∃ c,atI ("abcdefghijklmnopqrstuvwxyz":Str).cps.toList i=some c:=by
 have hl:("abcdefghijklmnopqrstuvwxyz":Str).cps.toList.length=26:=by decide +kernel
 have hj:i.toNat<("abcdefghijklmnopqrstuvwxyz":Str).cps.toList.length:=by rw [hl];omega
 exact ⟨_,atN (j:=i.toNat) (by omega) (List.getElem?_eq_getElem hj)⟩
theorem letters_len:("abcdefghijklmnopqrstuvwxyz":Str).length<=sizeLine:=by decide +kernel
theorem in_list {ts:List V}{i:Int} (h0:0<=i) (h1:i<(ts.length:Int)):∃ v,v∈ts/\atI ts i=some v:=by
 have hj:i.toNat<ts.length:=by omega
 exact ⟨ts[i.toNat],List.getElem_mem hj,atN (j:=i.toNat) (by omega) (List.getElem?_eq_getElem hj)⟩
theorem iteN {c A B:Prop} [Decidable c] (h:¬ c) (hb:B):if c then A else B:=by
 rw [if_neg h]
 exact hb
theorem iteP {c A B:Prop} [Decidable c] (h:c) (ha:A):if c then A else B:=by
 rw [if_pos h]
 exact ha
theorem ps_imp {X:Cx}{st:Stmt}{t t':TS} (h:PS X st t) (hi:∀ D σ H,t' D σ H->t D σ H):PS X st t':=λpins s σ H D I q=>h pins s σ H D I (hi D σ H q)
theorem hu16 {A:Around}{k:Nat} (hr:Room k A):A.units+16<=cLine:=by have:=hr.units;omega
theorem Holds.ofN {k:HoldKind}{v:V}{ps:List (Int×V)} (h:@Holds kN v ps):@Holds k v ps:=@Holds.mk k v ps (okK.ofN (@Holds.h0 kN v ps h)) λq hq=>okK.ofN (@Holds.hs kN v ps h q hq)
end Cut
namespace Cut
section
variable {α:Type} [DecidableEq α]
theorem atL_map {f:Int->Int}{x y:Int}:∀ {ps:List (Int×α)}{v:α},(∀ q∈ps,(f q.1<=x ↔ q.1<=y))->atL v (ps.map λq=>(f q.1,q.2)) x=atL v ps y
 | [],_,_=>rfl
 |q::r,v,h=>by
  have h1:=h q List.mem_cons_self
  have ih:=λw=>@atL_map f x y r w λq hq=>h q (List.mem_cons_of_mem _ hq)
  show atL (if f q.1<=x then q.2 else v) (r.map λq=>(f q.1,q.2)) x=atL (if q.1<=y then q.2 else v) r y
  by_cases hc:q.1<=y
  ·rw [if_pos hc,if_pos (h1.mpr hc)];exact ih _
  ·rw [if_neg hc,if_neg λz=>hc (h1.mp z)];exact ih _
theorem atL_cons (v:α) (q:Int×α) (r:List (Int×α)) (x:Int):atL v (q::r) x=atL (if q.1<=x then q.2 else v) r x:=rfl
theorem UpTo.take {ps:List (Int×α)}{p:Int}{n:Nat} (h:UpTo (ps.map (·.1)) p n):∀ q∈ps.take n,q.1<=p:=λq hq=>by
 obtain ⟨i,hi,e⟩:=List.mem_iff_getElem.mp hq
 rw [List.length_take] at hi
 rw [List.getElem_take] at e
 refine h.lo i q.1 (by omega) ?_
 rw [List.getElem?_map,List.getElem?_eq_getElem (by omega),e]
 rfl
theorem UpTo.drop {ps:List (Int×α)}{p:Int}{n:Nat} (h:UpTo (ps.map (·.1)) p n):∀ q∈ps.drop n,p<q.1:=λq hq=>by
 obtain ⟨i,hi,e⟩:=List.mem_iff_getElem.mp hq
 rw [List.length_drop] at hi
 rw [List.getElem_drop] at e
 refine h.hi (n+i) q.1 (by omega) ?_
 rw [List.getElem?_map,List.getElem?_eq_getElem (by omega),e]
 rfl
theorem UpTo.low {ps:List (Int×α)}{p x:Int}{n:Nat}{v:α} (h:UpTo (ps.map (·.1)) p n) (hx:x<=p):atL v ps x=atL v (ps.take n) x:=by
 have e:=atL_append (p:=x) (a:=ps.take n) (b:=ps.drop n) (v:=v)
 rw [List.take_append_drop] at e
 rw [e,atL_low λq hq=>by have:=h.drop q hq;omega]
theorem UpTo.high {ps:List (Int×α)}{p x:Int}{n:Nat}{v:α} (h:UpTo (ps.map (·.1)) p n) (hx:p<=x):atL v ps x=atL (atL v ps p) (ps.drop n) x:=by
 have e:=atL_append (p:=x) (a:=ps.take n) (b:=ps.drop n) (v:=v)
 rw [List.take_append_drop] at e
 rw [e,h.low (v:=v) (Int.le_refl p)]
 congr 1
 exact atL_congr λq hq=>⟨λ_=>h.take q hq,λ_=>by have:=h.take q hq;omega⟩
theorem rise_take {ps:List (Int×α)} (h:Rise ps) (n:Nat):Rise (ps.take n):=List.Pairwise.sublist (List.take_sublist _ _) h
theorem rise_drop {ps:List (Int×α)} (h:Rise ps) (n:Nat):Rise (ps.drop n):=List.Pairwise.sublist (List.drop_sublist _ _) h
theorem rise_map {ps:List (Int×α)}{f:Int->Int} (h:Rise ps) (hf:∀ a b,a<=b->f a<=f b):Rise (ps.map λq=>(f q.1,q.2)):=by
 unfold Rise
 rw [List.pairwise_map]
 exact List.Pairwise.imp (λh=>hf _ _ h) h
theorem rise_join {a b:List (Int×α)}{p:Int} (ha:Rise a) (hb:Rise b) (h1:∀ q∈a,q.1<=p) (h2:∀ q∈b,p<=q.1):Rise (a++b):=
 List.pairwise_append.mpr ⟨ha,hb,λx hx y hy=>Int.le_trans (h1 x hx) (h2 y hy)⟩
theorem rise_cons {q:Int×α}{b:List (Int×α)} (hb:Rise b) (h2:∀ s∈b,q.1<=s.1):Rise (q::b):=List.pairwise_cons.mpr ⟨h2,hb⟩
def openP (v:α) (ps:List (Int×α)) (z:α) (p s:Int) (n:Nat):List (Int×α):=ps.take n++((p,z)::(p+s,atL v ps p)::(ps.drop n).map λq=>(q.1+s,q.2))
def openF (z:α) (p s:Int) (f:Int->α) (x:Int):α:=if x<p then f x else if x<p+s then z else f (x-s)
theorem open_rise {v z:α}{ps:List (Int×α)}{p s:Int}{n:Nat} (hr:Rise ps) (hs:0<=s) (h:UpTo (ps.map (·.1)) p n):Rise (openP v ps z p s n):=by
 have hb:∀ q∈(ps.drop n).map (λq=>(q.1+s,q.2)),p+s<=q.1:=λq hq=>by
  obtain ⟨r,hr',e⟩:=List.mem_map.mp hq
  have:=h.drop r hr'
  rw [<-e];show p+s<=r.1+s;omega
 refine rise_join (p:=p) (rise_take hr n) (rise_cons (rise_cons (rise_map (f:=λc=>c+s) (rise_drop hr n) λa b h=>by omega) hb) λq hq=>?_) h.take λq hq=>?_
 ·rcases List.mem_cons.mp hq with e|hq
  ·rw [e];show p<=p+s;omega
  ·have:=hb q hq;show p<=q.1;omega
 ·rcases List.mem_cons.mp hq with e|hq
  ·rw [e];exact Int.le_refl _
  ·rcases List.mem_cons.mp hq with e|hq
   ·rw [e];show p<=p+s;omega
   ·have:=hb q hq;omega
theorem open_at {v z:α}{ps:List (Int×α)}{p s:Int}{n:Nat} (hs:0<=s) (h:UpTo (ps.map (·.1)) p n) (x:Int):atL v (openP v ps z p s n) x=openF z p s (atL v ps) x:=by
 have hsh:∀ w,atL w ((ps.drop n).map λq=>(q.1+s,q.2)) x=atL w (ps.drop n) (x-s):=λw=>atL_map (f:=λc=>c+s) λq _=>⟨λh=>by omega,λh=>by omega⟩
 unfold openP openF
 rw [atL_append,atL_cons,atL_cons]
 by_cases h1:x<p
 ·rw [if_pos h1,if_neg (by show ¬ p+s<=x;omega),if_neg (by show ¬ p<=x;omega),hsh,atL_low λq hq=>by have:=h.drop q hq;omega]
  exact (h.low (by omega)).symm
 ·rw [if_neg h1]
  by_cases h2:x<p+s
  ·rw [if_pos h2,if_neg (by show ¬ p+s<=x;omega),if_pos (by show p<=x;omega),hsh,atL_low λq hq=>by have:=h.drop q hq;omega]
  ·rw [if_neg h2,if_pos (by show p+s<=x;omega),hsh]
   exact (h.high (by omega)).symm
def closeP (v:α) (ps:List (Int×α)) (p s:Int) (n m:Nat):List (Int×α):=ps.take n++((p,atL v ps (p+s))::(ps.drop m).map λq=>(q.1-s,q.2))
def closeF (p s:Int) (f:Int->α) (x:Int):α:=if x<p then f x else f (x+s)
theorem close_rise {v:α}{ps:List (Int×α)}{p s:Int}{n m:Nat} (hr:Rise ps) (h:UpTo (ps.map (·.1)) p n) (h':UpTo (ps.map (·.1)) (p+s) m):Rise (closeP v ps p s n m):=by
 have hb:∀ q∈(ps.drop m).map (λq=>(q.1-s,q.2)),p<=q.1:=λq hq=>by
  obtain ⟨r,hr',e⟩:=List.mem_map.mp hq
  have:=h'.drop r hr'
  rw [<-e];show p<=r.1-s;omega
 refine rise_join (p:=p) (rise_take hr n) (rise_cons (rise_map (f:=λc=>c-s) (rise_drop hr m) λa b h=>by omega) hb) h.take λq hq=>?_
 rcases List.mem_cons.mp hq with e|hq
 ·rw [e];exact Int.le_refl _
 ·exact hb q hq
theorem close_at {v:α}{ps:List (Int×α)}{p s:Int}{n m:Nat} (h:UpTo (ps.map (·.1)) p n) (h':UpTo (ps.map (·.1)) (p+s) m) (x:Int):atL v (closeP v ps p s n m) x=closeF p s (atL v ps) x:=by
 have hsh:∀ w,atL w ((ps.drop m).map λq=>(q.1-s,q.2)) x=atL w (ps.drop m) (x+s):=λw=>atL_map (f:=λc=>c-s) λq _=>⟨λh=>by omega,λh=>by omega⟩
 unfold closeP closeF
 rw [atL_append,atL_cons]
 by_cases h1:x<p
 ·rw [if_pos h1,if_neg (by show ¬ p<=x;omega),hsh,atL_low λq hq=>by have:=h'.drop q hq;omega]
  exact (h.low (by omega)).symm
 ·rw [if_neg h1,if_pos (by show p<=x;omega),hsh]
  exact (h'.high (by omega)).symm
def strP (ps:List (Int×α)) (t:Int):List (Int×α):=ps.map λq=>(q.1 * t,q.2)
def strF (t:Int) (f:Int->α) (x:Int):α:=f (x / t)
theorem str_rise {ps:List (Int×α)}{t:Int} (hr:Rise ps) (ht:1<=t):Rise (strP ps t):=rise_map (f:=λc=>c * t) hr λa b h=>Int.mul_le_mul_of_nonneg_right h (by omega)
theorem str_at {v:α}{ps:List (Int×α)}{t:Int} (ht:1<=t) (x:Int):atL v (strP ps t) x=strF t (atL v ps) x:=
 atL_map (f:=λc=>c * t) λq _=>(Int.le_ediv_iff_mul_le (by omega)).symm
def putF' (s e:Option Int) (u:α) (f:Int->α) (x:Int):α:=if (∀ a,s=some a->a<=x)/\(∀ b,e=some b->x<b) then u else f x
def putV (v:α) (s:Option Int) (u:α):α:=match s with
 |none=>u
 |some _=>v
def putP (v:α) (ps:List (Int×α)) (s e:Option Int) (u:α) (n m:Nat):List (Int×α):=
 (match s with|none=>[]|some a=>ps.take n++[(a,u)])++(match e with|none=>[]|some b=>(b,atL v ps b)::ps.drop m)
theorem put_rise {v u:α}{ps:List (Int×α)}{s e:Option Int}{n m:Nat} (hr:Rise ps) (hn:∀ a,s=some a->UpTo (ps.map (·.1)) a n) (hm:∀ b,e=some b->UpTo (ps.map (·.1)) b m) (hlt:∀ a b,s=some a->e=some b->a<b) :
  Rise (putP v ps s e u n m):=by
 cases s with
 |none=>
  cases e with
  |none=>exact List.Pairwise.nil
  |some b=>exact rise_cons (rise_drop hr m) λq hq=>by have:=(hm b rfl).drop q hq;show b<=q.1;omega
 |some a=>
  have h1:Rise (ps.take n++[(a,u)]):=rise_join (p:=a) (rise_take hr n) (List.pairwise_singleton _ _) (hn a rfl).take λq hq=>by rw [List.mem_singleton.mp hq];exact Int.le_refl _
  have h1':∀ q∈ps.take n++[(a,u)],q.1<=a:=λq hq=>by
   rcases List.mem_append.mp hq with z|z
   ·exact (hn a rfl).take q z
   ·rw [List.mem_singleton.mp z];exact Int.le_refl _
  cases e with
  |none=>show Rise ((ps.take n++[(a,u)])++[]);rw [List.append_nil];exact h1
  |some b=>
   have hab:=hlt a b rfl rfl
   have hd:∀ q∈ps.drop m,b<=q.1:=λq hq=>by have:=(hm b rfl).drop q hq;omega
   refine rise_join (p:=a) h1 (rise_cons (rise_drop hr m) hd) h1' λq hq=>?_
   rcases List.mem_cons.mp hq with z|z
   ·rw [z];show a<=b;omega
   ·have:=hd q z;omega
theorem put_at {v u:α}{ps:List (Int×α)}{s e:Option Int}{n m:Nat} (hn:∀ a,s=some a->UpTo (ps.map (·.1)) a n) (hm:∀ b,e=some b->UpTo (ps.map (·.1)) b m) (hlt:∀ a b,s=some a->e=some b->a<b) (x:Int) :
  atL (putV v s u) (putP v ps s e u n m) x=putF' s e u (atL v ps) x:=by
 have tail:∀ w,atL w (match e with|none=>[]|some b=>(b,atL v ps b)::ps.drop m) x=if (∀ b,e=some b->x<b) then w else atL v ps x:=by
  intro w
  cases e with
  |none=>rw [if_pos (λb h=>nomatch h)];rfl
  |some b=>
   rw [atL_cons]
   by_cases h1:x<b
   ·rw [if_neg (by show ¬ b<=x;omega),if_pos (λc hc=>by cases hc;exact h1),atL_low λq hq=>by have:=(hm b rfl).drop q hq;omega]
   ·rw [if_pos (by show b<=x;omega),if_neg (λhc=>h1 (hc b rfl))]
    exact ((hm b rfl).high (by omega)).symm
 unfold putP putF'
 rw [atL_append,tail]
 cases s with
 |none=>
  show (if (∀ b,e=some b->x<b) then u else atL v ps x)=_
  by_cases h2:∀ b,e=some b->x<b
  ·rw [if_pos h2,if_pos ⟨λa h=>(nomatch h),h2⟩]
  ·rw [if_neg h2,if_neg λh=>h2 h.2]
 |some a=>
  have e1:atL v (ps.take n++[(a,u)]) x=if a<=x then u else atL v (ps.take n) x:=by rw [atL_append];rfl
  show (if (∀ b,e=some b->x<b) then atL v (ps.take n++[(a,u)]) x else atL v ps x)=_
  rw [e1]
  by_cases h1:a<=x
  ·rw [if_pos h1]
   by_cases h2:∀ b,e=some b->x<b
   ·rw [if_pos h2,if_pos ⟨λc h=>by cases h;exact h1,h2⟩]
   ·rw [if_neg h2,if_neg λh=>h2 h.2]
  ·rw [if_neg h1,<-(hn a rfl).low (v:=v) (by omega)]
   have h3:¬ ((∀ c,some a=some c->c<=x)/\∀ b,e=some b->x<b):=λh=>h1 (h.1 a rfl)
   rw [if_neg h3]
   split<;>rfl
theorem mem_putP {v u:α}{ps:List (Int×α)}{s e:Option Int}{n m:Nat}{R:α->Prop} (hR:∀ q∈ps,R q.2) (hv:∀ x,R (atL v ps x)) (hu:R u):∀ q∈putP v ps s e u n m,R q.2:=λq hq=>by
 rcases List.mem_append.mp hq with z|z
 ·cases s with
  |none=>cases z
  |some a=>
   rcases List.mem_append.mp z with z|z
   ·exact hR q (List.mem_of_mem_take z)
   ·rw [List.mem_singleton.mp z];exact hu
 ·cases e with
  |none=>cases z
  |some b=>
   rcases List.mem_cons.mp z with z|z
   ·rw [z];exact hv b
   ·exact hR q (List.mem_of_mem_drop z)
theorem mem_openP {v z:α}{ps:List (Int×α)}{p s:Int}{n:Nat}{R:α->Prop} (hR:∀ q∈ps,R q.2) (hv:∀ x,R (atL v ps x)) (hz:R z):∀ q∈openP v ps z p s n,R q.2:=λq hq=>by
 rcases List.mem_append.mp hq with h|h
 ·exact hR q (List.mem_of_mem_take h)
 ·rcases List.mem_cons.mp h with e|h
  ·rw [e];exact hz
  ·rcases List.mem_cons.mp h with e|h
   ·rw [e];exact hv p
   ·obtain ⟨r,hr,e⟩:=List.mem_map.mp h
    rw [<-e];exact hR r (List.mem_of_mem_drop hr)
theorem mem_closeP {v:α}{ps:List (Int×α)}{p s:Int}{n m:Nat}{R:α->Prop} (hR:∀ q∈ps,R q.2) (hv:∀ x,R (atL v ps x)):∀ q∈closeP v ps p s n m,R q.2:=λq hq=>by
 rcases List.mem_append.mp hq with h|h
 ·exact hR q (List.mem_of_mem_take h)
 ·rcases List.mem_cons.mp h with e|h
  ·rw [e];exact hv _
  ·obtain ⟨r,hr,e⟩:=List.mem_map.mp h
   rw [<-e];exact hR r (List.mem_of_mem_drop hr)
theorem mem_strP {ps:List (Int×α)}{t:Int}{R:α->Prop} (hR:∀ q∈ps,R q.2):∀ q∈strP ps t,R q.2:=λq hq=>by
 obtain ⟨r,hr,e⟩:=List.mem_map.mp hq
 rw [<-e];exact hR r hr
theorem len_putP {v u:α}{ps:List (Int×α)}{s e:Option Int}{n m:Nat} (hnm:∀ a b,s=some a->e=some b->n<=m):(putP v ps s e u n m).length<=ps.length+2:=by
 unfold putP
 rw [List.length_append]
 cases s with
 |none=>
  cases e with
  |none=>simp
  |some b=>simp only [List.length_nil,List.length_cons,List.length_drop];omega
 |some a=>
  cases e with
  |none=>simp only [List.length_append,List.length_take,List.length_cons,List.length_nil];omega
  |some b=>
   have:=hnm a b rfl rfl
   simp only [List.length_append,List.length_take,List.length_cons,List.length_nil,List.length_drop];omega
theorem len_openP {v z:α}{ps:List (Int×α)}{p s:Int}{n:Nat}:(openP v ps z p s n).length<=ps.length+2:=by
 unfold openP
 simp only [List.length_append,List.length_take,List.length_cons,List.length_map,List.length_drop];omega
theorem len_closeP {v:α}{ps:List (Int×α)}{p s:Int}{n m:Nat} (hnm:n<=m):(closeP v ps p s n m).length<=ps.length+1:=by
 unfold closeP
 simp only [List.length_append,List.length_take,List.length_cons,List.length_map,List.length_drop];omega
theorem UpTo.mono {cs:List Int}{p p':Int}{n m:Nat} (h:UpTo cs p n) (h':UpTo cs p' m) (hp:p<=p'):n<=m:=by
 by_cases hc:n<=m
 ·exact hc
 ·have hm:m<cs.length:=by have:=h.le;omega
  have e:=List.getElem?_eq_getElem hm
  have h1:=h.lo m _ (by omega) e
  have h2:=h'.hi m _ (Nat.le_refl _) e
  omega
end
end Cut
namespace Cut
open PySem L2
variable [HoldKind]
inductive Deed where
 |put (s e:Option Int) (u:V)
 |opn (p n:Int)
 |cls (p n:Int)
 |str (t:Int)
def optV:Option Int->V
 |none=>.non
 |some i=>.int i
def Deed.vs:Deed->List V
 | .put s e u=>[.str "put",optV s,optV e,u]
 | .opn p n=>[.str "open",.int p,.int n]
 | .cls p n=>[.str "close",.int p,.int n]
 | .str t=>[.str "stretch",.int t]
def Deed.Ok:Deed->Prop
 | .put _ _ u=>HV u
 | .opn _ n=>0<=n
 | .cls _ n=>0<=n
 | .str t=>1<=t/\t<=3
def Deed.back:Deed->(Int->V)->Int->V
 | .put s e u,f=>putF' s e u f
 | .opn p n,f=>openF .non p n f
 | .cls p n,f=>closeF p n f
 | .str t,f=>strF t f
structure Form (v:V) (ps:List (Int×V)):Prop where
 st:Strict ps
 df:Diff v ps
 hh:Holds v ps
theorem Form.of {v:V}{ps:List (Int×V)} (hr:Rise ps) (hh:Holds v ps):Form v (formP v ps):=⟨form_strict hr,form_diff,hh.form⟩
theorem Form.unique {v:V}{a b:List (Int×V)} (ha:Form v a) (hb:Form v b) (h:∀ x,atL v a x=atL v b x):a=b:=form_unique ha.st hb.st ha.df hb.df h
def Behind (C:Addr) (H:Hp) (v:V) (ps:List (Int×V)) (d:Deed) (Q:VK):Prop:=
 ∀ (p:Addr) (H':Hp) (v':V) (ps':List (Int×V)),Same H H'->LineNew C H H' p v' ps'->Form v' ps'->ps'.length<=ps.length+2->(∀ x,atL v' ps' x=d.back (atL v ps) x)->Q (.ref p) H'
def noPl:Option Int->Option Int->Bool
 |some a,some b=>decide (b<=a)
 |_,_=>false
def spNoPl:Sp:=λvs H Q _=>∃ s e,vs=[optV s,optV e]/\Q (.bl (noPl s e)) H
def spCheckS:Sp:=λvs H Q _=>∃ n:Int,vs=[.int n]/\0<=n/\Q .non H
def spCheckT:Sp:=λvs H Q _=>∃ n:Int,vs=[.int n]/\1<=n/\Q .non H
def spPut (C:Addr):Sp:=λvs H Q _=>∃ (p:Addr) (v:V) (ps:List (Int×V)) (s e:Option Int) (u:V),vs=[.ref p,optV s,optV e,u]/\LineAt C H p v ps/\Form v ps/\ps.length<=900/\HV u/\Behind C H v ps (.put s e u) Q
def spOpened (C:Addr):Sp:=λvs H Q _=>∃ (p:Addr) (v:V) (ps:List (Int×V)) (x n:Int),vs=[.ref p,.int x,.int n]/\LineAt C H p v ps/\Form v ps/\ps.length<=900/\0<=n/\Behind C H v ps (.opn x n) Q
def spClosed (C:Addr):Sp:=λvs H Q _=>∃ (p:Addr) (v:V) (ps:List (Int×V)) (x n:Int),vs=[.ref p,.int x,.int n]/\LineAt C H p v ps/\Form v ps/\ps.length<=900/\0<=n/\Behind C H v ps (.cls x n) Q
def spStretched (C:Addr):Sp:=λvs H Q _=>∃ (p:Addr) (v:V) (ps:List (Int×V)) (t:Int),vs=[.ref p,.int t]/\LineAt C H p v ps/\Form v ps/\ps.length<=900/\1<=t/\t<=3/\Behind C H v ps (.str t) Q
def spDone (K:PySem.W.Frag) (C:Addr):Sp:=λvs H Q _=>∃ (p d:Addr) (v:V) (ps:List (Int×V)) (dd:Deed),vs=[.ref p,.ref d]/\LineAt C H p v ps/\Form v ps/\ps.length<=900/\SqT K H d dd.vs/\dd.Ok/\Behind C H v ps dd Q
theorem Behind.of {C:Addr}{H H1 H':Hp}{v w:V}{ps qs:List (Int×V)}{d:Deed}{Q:VK}{p:Addr} (k:Behind C H v ps d Q) (s1:Same H H1) (s2:Same H1 H') (ln:LineNew C H1 H' p w (formP w qs)) (hr:Rise qs) (hh:Holds w qs)
  (hl:qs.length<=ps.length+2) (hx:∀ x,atL w qs x=d.back (atL v ps) x):Q (.ref p) H':=
 k p H' w _ (s1.trans s2) (ln.from s1) (Form.of hr hh) (Nat.le_trans form_len hl) λx=>(atL_form hr).trans (hx x)
theorem cutsV_app (a b:List (Int×V)):cutsV (a++b)=cutsV a++cutsV b:=List.map_append ..
theorem cutsV_take (a:List (Int×V)) (n:Nat):(cutsV a).take n=cutsV (a.take n):=(List.map_take ..).symm
theorem cutsV_drop (a:List (Int×V)) (n:Nat):(cutsV a).drop n=cutsV (a.drop n):=(List.map_drop ..).symm
theorem holdsV_take (v:V) (a:List (Int×V)) (n:Nat):(holdsV v a).take (n+1)=holdsV v (a.take n):=by
 show v::(a.map (·.2)).take n=v::(a.take n).map (·.2)
 rw [List.map_take]
theorem holdsV_drop {v:V}{a:List (Int×V)}{x:Int}{n:Nat} (h:UpTo (a.map (·.1)) x n):(holdsV v a).drop n=atL v a x::(a.drop n).map (·.2):=by
 have e:=h.at (v:=v)
 have hl:n<(holdsV v a).length:=(List.getElem?_eq_some_iff.mp e).1
 rw [List.drop_eq_getElem_cons hl]
 have e2:(holdsV v a)[n]=atL v a x:=(List.getElem?_eq_some_iff.mp e).2
 rw [e2]
 show _::(a.map (·.2)).drop n=_
 rw [List.map_drop]
end Cut
namespace Cut
open PySem L2 PyProof.Rows
variable [HoldKind]
variable {K:PySem.W.Frag}
def Deed.edges:Deed->List Int->List Int
 | .put s e _,es=>es++(s.toList++e.toList)
 | .opn p n,es=>es.map (λx=>if p<=x then x+n else x)++[p,p+n]
 | .cls p n,es=>es.map (λx=>if x-n > (if p<x then p else x) then x-n else (if p<x then p else x))++[p]
 | .str t,es=>es.map λx=>x * t
theorem atL_const {v:V}{ps:List (Int×V)}{x y:Int} (hxy:x<=y) (h:∀ c∈ps.map (·.1),¬ (x<c/\c<=y)):atL v ps x=atL v ps y:=
 atL_congr λq hq=>⟨λz=>Int.le_trans z hxy,λz=>by
  have:=h q.1 (List.mem_map.mpr ⟨q,hq,rfl⟩)
  omega⟩
theorem back_const (dd:Deed) (hok:dd.Ok) {g:Int->V}{cs:List Int} (hg:∀ x y,x<=y->(∀ c∈cs,¬ (x<c/\c<=y))->g x=g y) {x y:Int} (hxy:x<=y) (h:∀ e∈dd.edges cs,¬ (x<e/\e<=y)):dd.back g x=dd.back g y:=by
 cases dd with
 |put s e u=>
  have h1:∀ c∈cs,¬ (x<c/\c<=y):=λc hc=>h c (List.mem_append_left _ hc)
  have hs:∀ c∈s,¬ (x<c/\c<=y):=λc hc=>h c (List.mem_append_right _ (List.mem_append_left _ (by rw [Option.mem_toList];exact hc)))
  have he:∀ c∈e,¬ (x<c/\c<=y):=λc hc=>h c (List.mem_append_right _ (List.mem_append_right _ (by rw [Option.mem_toList];exact hc)))
  have hgg:=hg x y hxy h1
  show putF' s e u g x=putF' s e u g y
  unfold putF'
  cases s with
  |none=>
   cases e with
   |none=>simp [hgg]
   |some b=>
    have:=he b rfl
    have e2:(x<b) ↔ (y<b):=⟨λz=>by omega,λz=>by omega⟩
    simp [hgg,e2]
  |some a=>
   have ha:=hs a rfl
   have e1:(a<=x) ↔ (a<=y):=⟨λz=>by omega,λz=>by omega⟩
   cases e with
   |none=>simp [hgg,e1]
   |some b=>
    have:=he b rfl
    have e2:(x<b) ↔ (y<b):=⟨λz=>by omega,λz=>by omega⟩
    simp [hgg,e1,e2]
 |opn p n=>
  have hn:0<=n:=hok
  have hp:=h p (List.mem_append_right _ (by simp))
  have hpn:=h (p+n) (List.mem_append_right _ (by simp))
  have hm:∀ c∈cs,¬ (x<(if p<=c then c+n else c)/\(if p<=c then c+n else c)<=y):=λc hc=>h _ (List.mem_append_left _ (List.mem_map.mpr ⟨c,hc,rfl⟩))
  show openF .non p n g x=openF .non p n g y
  unfold openF
  by_cases h1:x<p
  ·have h2:y<p:=by omega
   rw [if_pos h1,if_pos h2]
   refine hg x y hxy λc hc z=>?_
   have:=hm c hc
   rw [if_neg (by omega)] at this
   exact this z
  ·have h2:¬ y<p:=by omega
   rw [if_neg h1,if_neg h2]
   by_cases h3:x<p+n
   ·have h4:y<p+n:=by omega
    rw [if_pos h3,if_pos h4]
   ·have h4:¬ y<p+n:=by omega
    rw [if_neg h3,if_neg h4]
    refine hg _ _ (by omega) λc hc z=>?_
    have:=hm c hc
    rw [if_pos (by omega)] at this
    exact this ⟨by omega,by omega⟩
 |cls p n=>
  have hn:0<=n:=hok
  have hp:=h p (List.mem_append_right _ (by simp))
  have hm:∀ c∈cs,¬ (x<(if c-n > (if p<c then p else c) then c-n else (if p<c then p else c))/\(if c-n > (if p<c then p else c) then c-n else (if p<c then p else c))<=y):=λc hc=>h _ (List.mem_append_left _ (List.mem_map.mpr ⟨c,hc,rfl⟩))
  show closeF p n g x=closeF p n g y
  unfold closeF
  by_cases h1:x<p
  ·have h2:y<p:=by omega
   rw [if_pos h1,if_pos h2]
   refine hg x y hxy λc hc z=>?_
   have:=hm c hc
   rw [if_neg (show ¬ p<c by omega),if_neg (show ¬ c-n > c by omega)] at this
   exact this z
  ·have h2:¬ y<p:=by omega
   rw [if_neg h1,if_neg h2]
   refine hg _ _ (by omega) λc hc z=>?_
   have:=hm c hc
   by_cases h5:p<c
   ·rw [if_pos h5] at this
    by_cases h6:c-n > p
    ·rw [if_pos h6] at this
     exact this ⟨by omega,by omega⟩
    ·omega
   ·omega
 |str t=>
  have ht:1<=t:=hok.1
  have hm:∀ c∈cs,¬ (x<c * t/\c * t<=y):=λc hc=>h _ (List.mem_map.mpr ⟨c,hc,rfl⟩)
  show strF t g x=strF t g y
  unfold strF
  refine hg _ _ (Int.ediv_le_ediv (by omega) hxy) λc hc z=>?_
  refine hm c hc ⟨?_,?_⟩
  ·exact (Int.ediv_lt_iff_lt_mul (by omega)).mp z.1
  ·exact (Int.le_ediv_iff_mul_le (by omega)).mp z.2
theorem edges_len (dd:Deed) (cs:List Int):(dd.edges cs).length<=cs.length+2:=by
 cases dd with
 |put s e u=>
  show (cs++(s.toList++e.toList)).length<=_
  rw [List.length_append,List.length_append]
  have h1:∀ o:Option Int,o.toList.length<=1:=λo=>by cases o<;>simp
  have:=h1 s
  have:=h1 e
  omega
 |opn p n=>show (cs.map _++[p,p+n]).length<=_;rw [List.length_append,List.length_map];exact Nat.le_refl _
 |cls p n=>show (cs.map _++[p]).length<=_;rw [List.length_append,List.length_map];show cs.length+1<=_;omega
 |str t=>show (cs.map _).length<=_;rw [List.length_map];omega
theorem low_ex:∀ ps:List (Int×V),∃ x0:Int,∀ q∈ps,x0<q.1
 | []=>⟨0,λq hq=>nomatch hq⟩
 |p::ps=>by
  obtain ⟨x0,h⟩:=low_ex ps
  refine ⟨if x0<p.1 then x0 else p.1 - 1,λq hq=>?_⟩
  rcases List.mem_cons.mp hq with e|hq
  ·rw [e];split<;>omega
  ·have:=h q hq
   split<;>omega
theorem Form.same {v w:V}{a b:List (Int×V)} (ha:Form v a) (hb:Form w b) (h:∀ x,atL v a x=atL w b x):v=w/\a=b:=by
 obtain ⟨x1,h1⟩:=low_ex a
 obtain ⟨x2,h2⟩:=low_ex b
 have e:=h (if x1<x2 then x1 else x2)
 rw [atL_low λq hq=>by have:=h1 q hq;split<;>omega,atL_low λq hq=>by have:=h2 q hq;split<;>omega] at e
 subst e
 exact ⟨rfl,ha.unique hb h⟩
theorem formE_mem {f:Int->V}:∀ {es:List Int}{v:V}{q:Int×V},q∈formE f v es->q.2=f q.1
 | [],_,_,h=>nomatch h
 |e::r,v,q,h=>by
  unfold formE at h
  split at h
  ·rcases List.mem_cons.mp h with z|z
   ·rw [z]
   ·exact formE_mem z
  ·exact formE_mem h
theorem Deed.back_hv (dd:Deed) (hok:dd.Ok) {g:Int->V} (hg:∀ x,HV (g x)) (x:Int):HV (dd.back g x):=by
 cases dd with
 |put s e u=>
  show HV (putF' s e u g x)
  unfold putF'
  split
  ·exact hok
  ·exact hg x
 |opn p n=>
  show HV (openF .non p n g x)
  unfold openF
  split
  ·exact hg x
  ·split
   ·exact HV.non
   ·exact hg _
 |cls p n=>
  show HV (closeF p n g x)
  unfold closeF
  split<;>exact hg _
 |str t=>exact hg _
theorem Holds.mem {v:V}{ps:List (Int×V)} (h:Holds v ps):∀ x∈holdsV v ps,HV x:=λx hx=>by
 rcases List.mem_cons.mp hx with e|hx
 ·rw [e];exact h.h0
 ·obtain ⟨q,hq,e⟩:=List.mem_map.mp hx
  rw [<-e];exact h.hs q hq
theorem ints_flat {τ:List Int}:∀ x∈τ.map V.int,flatV x=true:=λx hx=>by
 obtain ⟨z,_,rfl⟩:=List.mem_map.mp hx
 rfl
def firstOf:List Int->Int
 | []=>0
 |z::_=>z - 1
def ConstOn (g:Int->V) (cs:List Int):Prop:=∀ x y,x<=y->(∀ c∈cs,¬ (x<c/\c<=y))->g x=g y
theorem edges_form {g:Int->V}{cs τ:List Int} (hg:ConstOn g cs) (hv:∀ x,HV (g x)) (hτ:τ.Pairwise (· < ·)) (hm:∀ x,x∈τ ↔ x∈cs) :
  Form (g (firstOf τ)) (formE g (g (firstOf τ)) τ)/\∀ x,atL (g (firstOf τ)) (formE g (g (firstOf τ)) τ) x=g x:=by
 have cst:∀ {x y:Int},x<=y->(∀ e∈τ,¬ (x<e/\e<=y))->g x=g y:=λ{x y} hxy h=>hg x y hxy λe he=>h e ((hm e).mpr he)
 refine ⟨⟨formE_strict hτ,formE_diff hτ,hv _,λq hq=>by rw [formE_mem hq];exact hv _⟩,λx=>?_⟩
 refine formE_at hτ (λp hp=>?_) (λp e he hle hmax=>?_) x
 ·cases τ with
  |nil=>
   show g p=g 0
   by_cases h0:p<=0
   ·exact cst h0 λe he=>nomatch he
   ·exact (cst (by omega:(0:Int)<=p) λe he=>nomatch he).symm
  |cons z r=>
   show g p=g (z - 1)
   have h1:=hp z List.mem_cons_self
   refine cst (by omega) λe he q=>?_
   rcases List.mem_cons.mp he with w|w
   ·omega
   ·have:=(List.pairwise_cons.mp hτ).1 e w
    omega
 ·refine (cst hle λe' he' q=>?_).symm
  have:=hmax e' he' q.2
  omega
def valD (qs:List (Addr×Deed)):Int->V:=qs.foldl (λf q=>q.2.back f) λ_=>.non
theorem valD_snoc (qs:List (Addr×Deed)) (q:Addr×Deed):valD (qs++[q])=q.2.back (valD qs):=by unfold valD;rw [List.foldl_append];rfl
def edgesD (qs:List (Addr×Deed)):List Int:=qs.foldl (λes q=>q.2.edges es) []
theorem edgesD_snoc (qs:List (Addr×Deed)) (q:Addr×Deed):edgesD (qs++[q])=q.2.edges (edgesD qs):=by unfold edgesD;rw [List.foldl_append];rfl
theorem snocRec {α:Type}{p:List α->Prop} (h0:p []) (hs:∀ r q,p r->p (r++[q])) (l:List α):p l:=by
 have h:∀ n (l:List α),l.length=n->p l:=by
  intro n
  induction n with
  |zero=>intro l hl;rw [List.length_eq_zero_iff.mp hl];exact h0
  |succ n ih=>
   intro l hl
   rcases List.eq_nil_or_concat l with e|⟨r,q,e⟩
   ·rw [e] at hl;cases hl
   ·rw [List.concat_eq_append] at e
    subst e
    refine hs r q (ih r ?_)
    rw [List.length_append,List.length_singleton] at hl
    omega
 exact h _ l rfl
theorem row_const (qs:List (Addr×Deed)):(∀ q∈qs,q.2.Ok)->ConstOn (valD qs) (edgesD qs)/\(∀ x,HV (valD qs x))/\(edgesD qs).length<=2 * qs.length:=by
 refine snocRec (p:=λqs=>(∀ q∈qs,q.2.Ok)->ConstOn (valD qs) (edgesD qs)/\(∀ x,HV (valD qs x))/\(edgesD qs).length<=2 * qs.length) (λ_=>⟨λ_ _ _ _=>rfl,λ_=>HV.non,Nat.le_refl _⟩) (λr q ih hok=>?_) qs
 obtain ⟨h1,h2,h3⟩:=ih λz hz=>hok z (List.mem_append_left _ hz)
 have hq:=hok q (List.mem_append_right _ (List.mem_singleton.mpr rfl))
 rw [valD_snoc,edgesD_snoc]
 refine ⟨λx y hxy h=>back_const q.2 hq h1 hxy h,λx=>q.2.back_hv hq h2 x,?_⟩
 have:=edges_len q.2 (edgesD r)
 rw [List.length_append,List.length_singleton]
 omega
def DeedsAt (K:PySem.W.Frag) (H:Hp) (r:Addr) (qs:List (Addr×Deed)):Prop:=SqL K H r (qs.map λq=>V.ref q.1)/\∀ q∈qs,SqT K H q.1 q.2.vs/\q.2.Ok
theorem DeedsAt.same {H H':Hp}{r:Addr}{qs:List (Addr×Deed)} (h:DeedsAt K H r qs) (s:Same H H'):DeedsAt K H' r qs:=⟨s.seq h.1,λq hq=>⟨Same.tup s (h.2 q hq).1,(h.2 q hq).2⟩⟩
def NL (H H':Hp):Prop:=∀ b o,H b=some o->(∀ ys,o≠.lst ys)->H' b=some o
theorem comp_rngP {js:List Nat}{te:TE}{σ:L2.St}{H1:Hp}{R:Addr->Hp->Prop}{lo:Int}{n:Nat} (P:Nat->V->Hp->Prop) (hP:∀ i v H H',P i v H->NL H H'->P i v H') (hn:n<=2000)
  (he:∀ i H2 (Q':VK),i<n->Same H1 H2->(∀ v H3,Same H2 H3->P i v H3->Q' v H3)->te (some (.int (lo+i))::capsOf js σ) H2 Q')
  (hq:∀ l ys H',H1 l=none->Same H1 H'->H' l=some (.lst ys)->ys.length=n->(∀ i v,ys[i]?=some v->P i v H')->R l H') :
  ∀ l,H1 l=none->∃ W:Nat->Nat->List V->Hp->Prop,(∃ m,W 0 m [] (upd H1 l (.lst [])))/\
   ∀ i m ys H,W i m ys H->H l=some (.lst ys)/\(((Itr lo n).stop i H/\R l H)∨((Itr lo n).go i H/\∀ x H',(Itr lo n).yld i H x H'->tAll (some x::capsOf js σ) H' λb H2=>
    if b=true then te (some x::capsOf js σ) H2 λy H3=>H3 l=some (.lst ys)/\ys.length<sizeLine/\∃ m',m'<m/\W (i+1) m' (ys++[y]) (upd H3 l (.lst (ys++[y]))) else ∃ m',m'<m/\W (i+1) m' ys H2)):=by
 intro l hl
 refine ⟨λi m ys H=>m=n-i/\i<=n/\ys.length=i/\Same H1 H/\H l=some (.lst ys)/\∀ j v,ys[j]?=some v->P j v H,⟨n,rfl,Nat.zero_le _,rfl,Same.new hl,upd_same,λj v z=>by simp at z⟩,?_⟩
 rintro i m ys H ⟨rfl,hi,hy,hs,hg,hp⟩
 refine ⟨hg,?_⟩
 by_cases hlt:i<n
 ·refine .inr ⟨hlt,λx H' y=>?_⟩
  obtain ⟨e1,e2⟩:=y
  subst e1 e2
  simp only [tAll,↓reduceIte]
  refine (he i _ _ hlt hs λv H3 s3 pv=>⟨s3 _ _ hg,small (by omega),n-(i+1),by omega,rfl,hlt,?_,Same.upd (hs.trans s3) hl,upd_same,λj u hj=>?_⟩)
  ·rw [List.length_append,List.length_singleton,hy]
  ·have nl:∀ b o,H3 b=some o->(∀ zs,o≠.lst zs)->b≠l:=λb o hb ho z=>by
    rw [z,s3 _ _ hg] at hb
    exact ho ys (Option.some.inj hb).symm
   by_cases hjl:j<ys.length
   ·rw [List.getElem?_append_left hjl] at hj
    refine hP j u _ _ (hp j u hj) λb o hb ho=>?_
    rw [upd_ne (nl b o (s3 _ _ hb) ho)]
    exact s3 _ _ hb
   ·have hj2:j=i:=by
     have:=(List.getElem?_eq_some_iff.mp hj).1
     rw [List.length_append,List.length_singleton] at this
     omega
    subst hj2
    rw [List.getElem?_append_right (by omega),hy,Nat.sub_self] at hj
    obtain rfl:v=u:=Option.some.inj hj
    exact hP _ _ _ _ pv λb o hb ho=>by
     rw [upd_ne (nl b o hb ho)]
     exact hb
 ·have e:i=n:=by omega
  subst e
  exact .inl ⟨Nat.le_refl _,hq l ys H hl hs hg hy hp⟩
end Cut
namespace Cut
open PySem
def RisT (xs:Array Nat):Prop:=xs.toList.Pairwise (· < ·)
theorem RisT.lt {xs:Array Nat} (r:RisT xs) {a b:Nat} (h:a<b) (hb:b<xs.size):xs[a]'(Nat.lt_trans h hb)<xs[b]:=by
 have:=List.pairwise_iff_getElem.mp r a b (by simpa using Nat.lt_trans h hb) (by simpa using hb) h
 simpa using this
theorem below_go {xs:Array Nat} (r:RisT xs) (j:Nat):∀ (fuel lo hi:Nat),hi-lo<=fuel->lo<=hi->hi<=xs.size->
  (∀ k (h:k<xs.size),k<lo->xs[k]<j)->(∀ k (h:k<xs.size),hi<=k->j<=xs[k])->
  SetTable.below.go xs j fuel lo hi<=xs.size/\(∀ k (h:k<xs.size),k<SetTable.below.go xs j fuel lo hi->xs[k]<j)/\(∀ k (h:k<xs.size),SetTable.below.go xs j fuel lo hi<=k->j<=xs[k])
 | 0,lo,hi,hf,hl,hh,a,b=>by
  have e:lo=hi:=by omega
  subst e
  exact ⟨hh,a,b⟩
 |fuel+1,lo,hi,hf,hl,hh,a,b=>by
  unfold SetTable.below.go
  by_cases hlt:lo<hi
  ·rw [if_pos hlt]
   have hm:(lo+hi) / 2<xs.size:=by omega
   have eg:xs.getD ((lo+hi) / 2) j=xs[(lo+hi) / 2]:=by simp [Array.getD,hm]
   dsimp only
   rw [eg]
   by_cases hx:xs[(lo+hi) / 2]<j
   ·rw [if_pos hx]
    refine below_go r j fuel _ _ (by omega) (by omega) hh (λk h hk=>?_) b
    by_cases e:k=(lo+hi) / 2
    ·subst e;exact hx
    ·exact Nat.lt_trans (r.lt (show k<(lo+hi) / 2 by omega) hm) hx
   ·rw [if_neg hx]
    refine below_go r j fuel _ _ (by omega) (by omega) (by omega) a (λk h hk=>?_)
    by_cases e:k=(lo+hi) / 2
    ·subst e;omega
    ·have:=r.lt (show (lo+hi) / 2<k by omega) h
     omega
  ·rw [if_neg hlt]
   have e:lo=hi:=by omega
   subst e
   exact ⟨hh,a,b⟩
theorem below_spec {xs:Array Nat} (r:RisT xs) (j:Nat):SetTable.below xs j<=xs.size/\(∀ k (h:k<xs.size),k<SetTable.below xs j->xs[k]<j)/\(∀ k (h:k<xs.size),SetTable.below xs j<=k->j<=xs[k]):=
 below_go r j xs.size 0 xs.size (by omega) (Nat.zero_le _) (Nat.le_refl _) (λk h z=>absurd z (Nat.not_lt_zero _)) (λk h z=>absurd h (by omega))
theorem below_walk {xs:Array Nat} (r:RisT xs) {i slot:Nat} (hi:i<=xs.size) (h0:i=0->slot=0) (h1:∀ k (h:k<xs.size),k+1=i->slot=xs[k]+1):SetTable.below xs slot=i:=by
 obtain ⟨a,b,c⟩:=below_spec r slot
 cases i with
 |zero=>
  have e:=h0 rfl
  by_cases z:SetTable.below xs slot=0
  ·exact z
  ·have:=b 0 (by omega) (by omega)
   omega
 |succ i=>
  have e:=h1 i (by omega) rfl
  have h2:i<SetTable.below xs slot:=by
   by_cases z:i<SetTable.below xs slot
   ·exact z
   ·have:=c i (by omega) (by omega)
    omega
  by_cases z:SetTable.below xs slot=i+1
  ·exact z
  ·have h3:=b (i+1) (by omega) (by omega)
   have h4:=r.lt (show i<i+1 by omega) (show i+1<xs.size by omega)
   omega
theorem insertAt_toList {α:Type} (xs:Array α) (p:Nat) (x:α) (hp:p<=xs.size):(SetTable.insertAt xs p x).toList=xs.toList.take p++x::xs.toList.drop p:=by
 unfold SetTable.insertAt
 simp [Array.toList_extract,List.take_of_length_le]
theorem insertAt_perm {α:Type} (xs:Array α) (p:Nat) (x:α) (hp:p<=xs.size):(SetTable.insertAt xs p x).toList.Perm (x::xs.toList):=by
 rw [insertAt_toList xs p x hp]
 refine (List.perm_middle).trans (List.Perm.cons _ ?_)
 rw [List.take_append_drop]
theorem rise_insert {xs:Array Nat} (r:RisT xs) {j:Nat} (hn:xs[SetTable.below xs j]?≠some j):RisT (SetTable.insertAt xs (SetTable.below xs j) j):=by
 obtain ⟨a,b,c⟩:=below_spec r j
 unfold RisT
 rw [insertAt_toList _ _ _ a]
 have key:∀ y∈xs.toList.drop (SetTable.below xs j),j<y:=by
  intro y hy
  obtain ⟨k,hk,rfl⟩:=List.mem_iff_getElem.mp hy
  rw [List.length_drop] at hk
  have hk2:SetTable.below xs j+k<xs.size:=by simpa using (by omega:SetTable.below xs j+k<xs.toList.length)
  rw [List.getElem_drop]
  have h1:=c _ hk2 (by omega)
  simp only [Array.getElem_toList]
  by_cases e:k=0
  ·subst e
   simp only [Nat.add_zero] at h1 hk2 ⊢
   have h2:xs[SetTable.below xs j]≠j:=λz=>hn (by rw [Array.getElem?_eq_getElem hk2,z])
   omega
  ·have h0:=r.lt (show SetTable.below xs j<SetTable.below xs j+k by omega) hk2
   have h3:=c (SetTable.below xs j) (by omega) (Nat.le_refl _)
   omega
 have low:∀ y∈xs.toList.take (SetTable.below xs j),y<j:=by
  intro y hy
  obtain ⟨k,hk,rfl⟩:=List.mem_iff_getElem.mp hy
  rw [List.length_take] at hk
  rw [List.getElem_take]
  simp only [Array.getElem_toList]
  exact b k (by simpa using (by omega:k<xs.toList.length)) (by omega)
 refine List.pairwise_append.mpr ⟨List.Pairwise.sublist (List.take_sublist _ _) r,List.pairwise_cons.mpr ⟨key,List.Pairwise.sublist (List.drop_sublist _ _) r⟩,λy hy z hz=>?_⟩
 rcases List.mem_cons.mp hz with rfl|hz
 ·exact low y hy
 ·exact Nat.lt_trans (low y hy) (key z hz)
theorem rise_range (n:Nat):RisT (Array.range n):=by
 unfold RisT
 rw [Array.toList_range]
 exact List.pairwise_lt_range
theorem live_sub {β:Type} (f:Nat->Option β):∀ l:List Nat,((l.filterMap λj=>(f j).map (j,·)).map (·.1)).Sublist l
 | []=>List.Sublist.slnil
 |j::l=>by
  rw [List.filterMap_cons]
  cases f j with
  |none=>exact List.Sublist.cons _ (live_sub f l)
  |some b=>exact List.Sublist.cons_cons _ (live_sub f l)
structure Good (es:Array (Int×Value)) (t:SetTable):Prop where
 size:t.place.size=es.size
 fill:t.fill<=t.mask
 rise:RisT t.place
 dumm:t.dummies=#[]
theorem Good.stand {t:SetTable}{es:Array (Int×Value)}{n:Nat} (h:n=es.size):Good es (t.standIn n) where
 size:=by simp [SetTable.standIn,h]
 fill:=by simp [SetTable.standIn,SetTable.fill];omega
 rise:=rise_range n
 dumm:=rfl
theorem Good.or {t:SetTable}{es:Array (Int×Value)} (r:RisT t.place) (d:t.dummies=#[]):Good es (t.orStandIn es.size):=by
 unfold SetTable.orStandIn
 by_cases h:t.fits es.size=true
 ·rw [if_pos h]
  unfold SetTable.fits at h
  simp only [Bool.and_eq_true,beq_iff_eq,decide_eq_true_eq] at h
  exact ⟨h.1,h.2,r,d⟩
 ·rw [if_neg h]
  exact Good.stand rfl
theorem or_led (t:SetTable) (n:Nat):(t.orStandIn n).led=t.led:=by
 unfold SetTable.orStandIn
 split<;>rfl
theorem slot_free {t:SetTable} (hd:t.dummies=#[]) {j:Nat} (h:t.slot j=.empty∨t.slot j=.dummy):t.place[SetTable.below t.place j]?≠some j:=by
 intro z
 unfold SetTable.slot at h
 simp [z] at h
theorem probe_free {t:SetTable}{g:Nat->Int}{h:Int} (hd:t.dummies=#[]):∀ (fuel:Nat) (p:SetTable.Probe) (j:Nat) (d:Option Nat),p.dummy=none->
  SetTable.probe.go t g h fuel p=some (.empty j d)->d=none/\t.slot j=.empty
 | 0,p,j,d,hp,e=>by simp [SetTable.probe.go] at e
 |fuel+1,p,j,d,hp,e=>by
  unfold SetTable.probe.go at e
  split at e
  ·rename_i hs
   cases e
   exact ⟨hp,hs⟩
  ·rename_i hs
   exfalso
   unfold SetTable.slot at hs
   dsimp only at hs
   split at hs
   ·cases hs
   ·rw [hd] at hs
    simp [SetTable.has] at hs
  ·split at e
   ·cases e
   ·refine probe_free hd fuel _ j d ?_ e
    unfold SetTable.advance
    split
    ·exact hp
    ·exact hp
theorem Good.lay {es:Array (Int×Value)}{t:SetTable} (G:Good es t) (h:Int) (x:Value) {es':Array (Int×Value)}{t':SetTable}{b c:Bool} (e:layNew t es h x=(es',t',b,c)) :
  es'.toList.Perm ((h,x)::es.toList)/\Good es' t'/\t'.led=t.led/\b=false:=by
 unfold layNew at e
 split at e
 ·rename_i slot wd hf
  unfold SetTable.freeSlot at hf
  split at hf
  ·rename_i j d hp
   obtain ⟨rfl,hs⟩:=probe_free G.dumm _ _ _ _ rfl hp
   cases hf
   have hfree:=slot_free G.dumm (.inl hs)
   have hle:SetTable.below t.place j<=es.size:=by rw [<-G.size];exact (below_spec G.rise j).1
   simp only [SetTable.put,Prod.mk.injEq] at e
   obtain ⟨rfl,rfl,rfl,rfl⟩:=e
   refine ⟨insertAt_perm _ _ _ hle,Good.or (rise_insert G.rise hfree) ?_,?_,rfl⟩
   ·show (if SetTable.has t.dummies j=true then _ else t.dummies)=#[]
    rw [G.dumm]
    rfl
   ·exact or_led _ _
  ·cases hf
 ·cases e
  refine ⟨?_,Good.stand (by simp),rfl,rfl⟩
  simp only [Array.toList_push]
  exact List.perm_append_singleton _ _
theorem filterMap_range {α:Type} (l:List α):((List.range l.length).filterMap λi=>l[i]?)=l:=by
 have e:(List.range l.length).map (λi=>l[i]?)=l.map some:=by
  refine List.ext_getElem (by simp) λi h1 h2=>?_
  simp only [List.length_map,List.length_range] at h1
  simp [h1]
 have e2:=congrArg (λz=>List.filterMap id z) e
 simp only [List.filterMap_map] at e2
 simpa [Function.comp_def] using e2
theorem filterMap_perm {α:Type} (xs:Array α) (l:List Nat) (h:l.Perm (List.range xs.size)):(l.filterMap λi=>xs[i]?).Perm xs.toList:=by
 refine (List.Perm.filterMap _ h).trans (List.Perm.of_eq ?_)
 have e:=filterMap_range xs.toList
 simpa using e
theorem Good.relay {es:Array (Int×Value)}{t:SetTable} (G:Good es t) (wanted:Nat) {es':Array (Int×Value)}{t':SetTable}{c:Bool} (e:relayAll t es wanted=(es',t',c)) :
  es'.toList.Perm es.toList/\Good es' t'/\t'.led=t.led:=by
 unfold relayAll at e
 split at e
 ·rename_i t1 order hr
  dsimp only at e
  split at e
  ·rename_i hc
   cases e
   rw [Bool.and_eq_true] at hc
   have hp:order.toList.Perm (List.range es.size):=List.isPerm_iff.mp hc.1
   have hf:=hc.2
   unfold SetTable.fits at hf
   simp only [Bool.and_eq_true,beq_iff_eq,decide_eq_true_eq] at hf
   unfold SetTable.relaid SetTable.laid at hr
   cases ho:SetTable.layClean (SetTable.sizeAbove wanted - 1) (es.map (·.1)) with
   |none=>rw [ho] at hr;cases hr
   |some owner=>
    rw [ho] at hr
    cases hr
    refine ⟨?_,⟨hf.1,hf.2,?_,rfl⟩,rfl⟩
    ·rw [Array.toList_filterMap]
     exact filterMap_perm es _ hp
    ·unfold RisT
     simp only [List.toList_toArray]
     exact List.Pairwise.sublist (live_sub _ _) List.pairwise_lt_range
  ·cases e
   exact ⟨List.Perm.refl _,Good.stand rfl,rfl⟩
 ·cases e
  exact ⟨List.Perm.refl _,Good.stand rfl,rfl⟩
theorem erase_perm {α:Type}:∀ (l:List α) (i:Nat) (h:i<l.length),(l[i]::l.eraseIdx i).Perm l
 |a::l,0,h=>List.Perm.refl _
 |a::l,i+1,h=>by
  have h':i<l.length:=by simpa using h
  show (l[i]::a::l.eraseIdx i).Perm (a::l)
  exact (List.Perm.swap _ _ _).trans (List.Perm.cons _ (erase_perm l i h'))
theorem pick_perm {α:Type} (next:Nat->Nat):∀ (fuel k:Nat) (left:List α) (out:Array α),left.length=fuel->(pickOrder.go next fuel k left out).toList.Perm (out.toList++left)
 | 0,k,left,out,h=>by
  have e:left=[]:=List.eq_nil_of_length_eq_zero h
  subst e
  unfold pickOrder.go
  simp
 |fuel+1,k,left,out,h=>by
  unfold pickOrder.go
  have hl:next k % left.length<left.length:=Nat.mod_lt _ (by omega)
  rw [List.getElem?_eq_getElem hl]
  dsimp only
  refine (pick_perm next fuel (k+1) _ _ (by rw [List.length_eraseIdx];rw [if_pos hl];omega)).trans ?_
  simp only [Array.toList_push,List.append_assoc,List.singleton_append]
  refine List.Perm.append_left _ ?_
  exact erase_perm _ _ hl
theorem pickOrder_perm {α:Type} (next:Nat->Nat) (xs:Array α):(pickOrder next xs).toList.Perm xs.toList:=by
 unfold pickOrder
 refine (pick_perm next xs.size 0 xs.toList #[] (by simp)).trans ?_
 simp
end Cut
namespace Cut
open PySem PyProof.Rows
def keyI:Value->Int
 | .int k _=>k
 |_=>0
def EleI (e:Int×Value):Prop:=∃ k u,e=(hashInt k,.int k u)
def SetI (w:World) (h:Heap) (a:Addr) (σ:List Int):Prop:=
 ∃ es ep t,h.get? a=some { cls:=.type "set",dict:=none,data:=.set es ep t,slots:=#[] }/\(∀ e∈es.toList,EleI e)/\(es.toList.map λe=>keyI e.2).Perm σ/\
  Good es t/\t.led=!w.params.followText "set-order"
theorem Good.fits {es:Array (Int×Value)}{t:SetTable} (G:Good es t):t.fits es.size=true:=by
 unfold SetTable.fits
 rw [Bool.and_eq_true]
 exact ⟨beq_iff_eq.mpr G.size,decide_eq_true G.fill⟩
theorem SetI.at {w:World}{h h':Heap}{a:Addr}{σ:List Int} (S:SetI w h a σ) (k:∀ o,h.get? a=some o->h'.get? a=some o):SetI w h' a σ:=by
 obtain ⟨es,ep,t,x1,x⟩:=S
 exact ⟨es,ep,t,k _ x1,x⟩
section
variable {prog:Program}{w:World}{A:Around}{E:Value->Shared->Prop}{s:Shared}
theorem eleI_of {l:List (Int×Value)} (h:∀ e∈l,EleI e):ElemsOf (intKind prog w) l:=by
 intro e he
 obtain ⟨k,u,rfl⟩:=h e he
 exact ⟨⟨k,intKind_is _ _ _ _,rfl⟩,rfl⟩
theorem is_key {e:Int×Value} (h:EleI e) (k:Int):(intKind prog w).is k e.2=true ↔ keyI e.2=k:=by
 obtain ⟨j,u,rfl⟩:=h
 constructor
 ·intro z
  exact (intKind prog w).inj _ _ _ (intKind_is prog w j u) z
 ·rintro rfl
  exact intKind_is prog w _ u
theorem store_at {h:Heap}{a:Addr}{es es':Array (Int×Value)}{ep:Nat}{t t':SetTable} (x:h.get? a=some { cls:=.type "set",dict:=none,data:=.set es ep t,slots:=#[] }) :
  (h.update a (Obj.putSet es' t')).get? a=some { cls:=.type "set",dict:=none,data:=.set es' (ep+1) t',slots:=#[] }:=
 Heap.get?_update_self (Obj.putSet es' t') x rfl
theorem add_end {a:Addr}{es es1:Array (Int×Value)}{ep:Nat}{t t1:SetTable}{τ:List Int}{g:Bool->Sem Unit}{R:Option Bool->Shared->Prop}{wd:Bool}
  (hg:∀ (b:Bool) (s₁:Shared) (Q':Unit->Shared->Prop),Q' () s₁->wpAny (model prog w) A (g b) Q' E s₁)
  (x:s.heap.get? a=some { cls:=.type "set",dict:=none,data:=.set es ep t,slots:=#[] })
  (x2:∀ e∈es1.toList,EleI e) (x3:(es1.toList.map λe=>keyI e.2).Perm τ) (x4:Good es1 t1) (x5:t1.led=!w.params.followText "set-order") (hb:es1.size<scanBound)
  (k:∀ h',Heap.SameBut a s.heap h'->SetI w h' a τ->R (some true) { s with heap:=h' }) :
  wpAny (model prog w) A (do
   storeSet a es1 t1
   if (!wd && t1.tooFull)=true then do
    g (relayAll t1 es1 (SetTable.grown es1.size)).2.2
    storeSet a (relayAll t1 es1 (SetTable.grown es1.size)).1 (relayAll t1 es1 (SetTable.grown es1.size)).2.1
    pure (some true)
   else pure (some true)) R E s:=by
 refine wpAny_bind (wpAny_storeSet_of x rfl ?_ (fits_of_scanBound hb))
 have y1:=store_at (es':=es1) (t':=t1) x
 have b1:=Heap.SameBut.update s.heap a (Obj.putSet es1 t1)
 by_cases hc:(!wd && t1.tooFull)=true
 ·rw [if_pos hc]
  cases hR:relayAll t1 es1 (SetTable.grown es1.size) with
  |mk es2 r=>
   obtain ⟨t2,gv⟩:=r
   obtain ⟨p1,p2,p3⟩:=x4.relay _ hR
   have hb2:es2.size<scanBound:=by
    have:=p1.length_eq
    simp only [Array.length_toList] at this
    omega
   refine wpAny_bind (hg _ _ _ (wpAny_bind (wpAny_storeSet_of (s:={ s with heap:=_ }) y1 rfl (wpAny_pure ?_) (fits_of_scanBound hb2))))
   refine k _ (b1.trans (Heap.SameBut.update _ a _)) ⟨es2,_,t2,store_at y1,λe he=>x2 e (p1.mem_iff.mp he),(p1.map _).trans x3,p2,p3.trans x5⟩
 ·rw [if_neg hc]
  exact wpAny_pure (k _ b1 ⟨es1,_,t1,y1,x2,x3,x4,x5⟩)
theorem add_int {a:Addr}{σ:List Int}{k:Int}{u:Tok}{Q:Bool->Shared->Prop} (S:SetI w s.heap a σ) (hroom:σ.length+1<scanBound)
  (h:∀ b h',Heap.SameBut a s.heap h'->SetI w h' a (if k∈σ then σ else σ++[k])->Q b { s with heap:=h' }) :
  wpAny (model prog w) A (setAddHashed a (.int k u) ((intKind prog w).hash k)) Q E s:=by
 obtain ⟨es,ep,t,x,x2,x3,G,x5⟩:=id S
 have hsz:es.size=σ.length:=by
  have:=x3.length_eq
  simpa using this
 have hb:es.size<scanBound:=by omega
 have el:ElemsOf (intKind prog w) es.toList:=eleI_of x2
 unfold setAddHashed setAddHashedIn
 refine wpAny_holding (wpAny_bind (wpAny_setState_of x rfl G.fits ?_))
 dsimp only
 rw [byScan_of (x:=.int k u) rfl hb el,if_pos rfl]
 unfold setAddByScan
 refine wpAny_bind (wpAny_bind (wpAny_rule (wpAny_bind (wpAny_setScan_of (intKind_is prog w k u) x rfl G.fits el ?_))))
 cases hr:List.findIdx? (λe=>(intKind prog w).is k e.2) es.toList with
 |some j=>
  dsimp only
  obtain ⟨hj,hpj,_⟩:=List.findIdx?_eq_some_iff_getElem.mp hr
  have hm:k∈σ:=x3.mem_iff.mp (List.mem_map.mpr ⟨_,List.getElem_mem hj,(is_key (x2 _ (List.getElem_mem hj)) k).mp hpj⟩)
  rw [if_pos hm] at h
  exact wpAny_pure (wpAny_pure (h _ s.heap (Heap.SameBut.refl a s.heap) S))
 |none=>
  dsimp only
  have hm:¬ k∈σ:=by
   intro z
   obtain ⟨e,he,hk⟩:=List.mem_map.mp (x3.mem_iff.mpr z)
   have:=List.findIdx?_eq_none_iff.mp hr e he
   rw [(is_key (x2 e he) k).mpr hk] at this
   cases this
  rw [if_neg hm] at h
  cases hL:layNew t es ((intKind prog w).hash k) (.int k u) with
  |mk es1 r=>
   obtain ⟨t1,wd,gv⟩:=r
   obtain ⟨p1,p2,p3,p4⟩:=G.lay _ _ hL
   have y2:∀ e∈es1.toList,EleI e:=λe he=>by
    rcases List.mem_cons.mp (p1.mem_iff.mp he) with rfl|he'
    ·exact ⟨k,u,rfl⟩
    ·exact x2 e he'
   have y3:(es1.toList.map λe=>keyI e.2).Perm (σ++[k]):=((p1.map _).trans (List.Perm.cons _ x3)).trans (List.perm_append_singleton _ _).symm
   have y5:=p3.trans x5
   have hb1:es1.size<scanBound:=by
    have:=p1.length_eq
    simp only [Array.length_toList,List.length_cons] at this
    omega
   dsimp only
   refine wpAny_bind ?_
   have gw:∀ (R':Unit->Shared->Prop),R' () s->wpAny (model prog w) A (match gv with|true=>rule "set.scan.the-table-gave-way"|false=>pure ()) R' E s:=by
    intro R' q
    cases gv
    ·exact wpAny_pure q
    ·exact wpAny_rule q
   refine gw _ ?_
   by_cases hp:t1.plain=true
   ·rw [if_pos hp]
    refine wpAny_bind ?_
    rw [hashByValue_scannable 8 (x:=.int k u) rfl]
    refine wpAny_pure ?_
    refine add_end ?_ x y2 y3 p2 y5 hb1 λh' sb S'=>wpAny_pure (h _ h' sb S')
    intro b s₁ Q' q
    cases b
    ·exact wpAny_pure q
    ·exact wpAny_rule q
   ·rw [if_neg hp]
    refine wpAny_bind (wpAny_pure ?_)
    refine add_end ?_ x y2 y3 p2 y5 hb1 λh' sb S'=>wpAny_pure (h _ h' sb S')
    intro b s₁ Q' q
    cases b
    ·exact wpAny_pure q
    ·exact wpAny_rule q
end
end Cut
namespace Cut
open PySem PyProof.Rows
def ddup (l:List Int):List Int:=l.foldl (fun σ k=>if k∈σ then σ else σ++[k]) []
theorem ddup_snoc (l:List Int) (k:Int):ddup (l++[k])=if k∈ddup l then ddup l else ddup l++[k]:=by
 unfold ddup
 rw [List.foldl_append]
 rfl
theorem ddup_le:∀ l:List Int,(ddup l).length<=l.length:=by
 suffices h:∀ l σ:List Int,(l.foldl (fun σ k=>if k∈σ then σ else σ++[k]) σ).length<=σ.length+l.length by
  intro l
  have:=h l []
  simpa [ddup] using this
 intro l
 induction l with
 |nil=>intro σ;simp
 |cons a l ih=>
  intro σ
  refine Nat.le_trans (ih _) ?_
  dsimp only
  split<;>simp<;>omega
theorem ddup_mem (x:Int):∀ l:List Int,x∈ddup l ↔ x∈l:=by
 suffices h:∀ l σ:List Int,x∈l.foldl (fun σ k=>if k∈σ then σ else σ++[k]) σ ↔ x∈σ∨x∈l by
  intro l
  have:=h l []
  simpa [ddup] using this
 intro l
 induction l with
 |nil=>intro σ;simp
 |cons a l ih=>
  intro σ
  refine (ih _).trans ?_
  dsimp only
  by_cases z:a∈σ
  ·rw [if_pos z]
   constructor
   ·rintro (q|q)
    ·exact .inl q
    ·exact .inr (List.mem_cons_of_mem _ q)
   ·rintro (q|q)
    ·exact .inl q
    ·rcases List.mem_cons.mp q with rfl|q
     ·exact .inl z
     ·exact .inr q
  ·rw [if_neg z]
   simp only [List.mem_append,List.mem_cons,List.mem_singleton,List.not_mem_nil,or_false,or_assoc]
theorem ddup_nodup:∀ l:List Int,(ddup l).Nodup:=by
 suffices h:∀ l σ:List Int,σ.Nodup->(l.foldl (fun σ k=>if k∈σ then σ else σ++[k]) σ).Nodup by
  intro l
  exact h l [] List.nodup_nil
 intro l
 induction l with
 |nil=>intro σ h;exact h
 |cons a l ih=>
  intro σ h
  refine ih _ ?_
  dsimp only
  by_cases z:a∈σ
  ·rw [if_pos z];exact h
  ·rw [if_neg z]
   refine List.nodup_append.mpr ⟨h,by simp,?_⟩
   intro p hp q hq e
   rw [List.mem_singleton] at hq
   subst hq;subst e
   exact z hp
section
variable {prog:Program}{w:World}{A:Around}{R:Result->Shared->Prop}{I:Addr}{fp wr:List Addr}{G:Array GenState->Array GenState->Prop}{n:Nat}{P:Nat->Value->Prop}{St:Nat->Shared->Prop}
theorem loop_set (W:WalksS prog w A.in1 I fp wr G n P St) (S:Addr) (hS:S ∉ fp) (val:Nat->Int) (hv:∀ i v,P i v->∃ u,v=.int (val i) u) (hb:n+1<scanBound) :
  ∀ (k i:Nat) (s:Shared),n-i=k->i<=n->St i s->SetI w s.heap S (ddup ((List.range i).map val))->
   (∀ s',Moved (S::wr) G s s'->SetI w s'.heap S (ddup ((List.range n).map val))->R (.ok (.ret .none)) s')->
   codeAny (model prog w) A (.builtin "set.update.loop" ⟨[.ref S,.ref I],[]⟩) R s:=by
 have hw:S ∉ wr:=λz=>hS (W.sub _ z)
 have more:∀ b∈wr,b∈S::wr:=λb z=>List.mem_cons_of_mem _ z
 intro k
 induction k with
 |zero=>
  intro i s hk hi st T q
  obtain rfl:i=n:=by omega
  refine codeAny_builtin PyProof.Rows.F.entry_set_update_loop ?_
  rw [Around.under_plainId PyProof.Rows.F.plain_set_update_loop]
  show wpAny _ A.in1 (pyNext (.ref I) >>= _) _ _ _
  exact wpAny_bind (W.done s _ _ st λs' m=>wpAny_pure (q s' (m.mono more) (T.at λo e=>m.heap S o hw e)))
 |succ k ih=>
  intro i s hk hi st T q
  have hlt:i<n:=by omega
  refine codeAny_builtin PyProof.Rows.F.entry_set_update_loop ?_
  rw [Around.under_plainId PyProof.Rows.F.plain_set_update_loop]
  show wpAny _ A.in1 (pyNext (.ref I) >>= _) _ _ _
  refine wpAny_bind (W.item i s _ _ hlt st λv s' hP st' m=>?_)
  obtain ⟨u,rfl⟩:=hv i v hP
  have T':SetI w s'.heap S (ddup ((List.range i).map val)):=T.at λo e=>m.heap S o hw e
  show wpAny _ A.in1 (holding [Value.int (val i) u] (setAdd S (.int (val i) u)) >>= _) _ _ _
  refine wpAny_bind (wpAny_holding ?_)
  unfold setAdd
  refine wpAny_holding (wpAny_bind ((intKind prog w).pyHash (k:=val i) (intKind_is _ _ _ _) ?_))
  have room:(ddup ((List.range i).map val)).length+1<scanBound:=by
   have:=ddup_le ((List.range i).map val)
   simp at this
   omega
  refine add_int (s:={ s' with toks:=s'.toks+1 }) T' room λb h' sb T2=>?_
  have T3:SetI w h' S (ddup ((List.range (i+1)).map val)):=by
   rw [List.range_succ,List.map_append]
   show SetI w h' S (ddup (_++[val i]))
   rw [ddup_snoc]
   exact T2
  refine wpAny_pure ⟨plainId_quiet PyProof.Rows.F.plain_set_update_loop _,ih (i+1) _ (by omega) hlt (W.frame _ s' _ _ st' (Nat.le_succ _) λc hc o e=>?_) T3 λs'' m2 T4=>?_⟩
  ·rw [sb.2 c λz:c=S=>hS (z ▸ hc)]
   exact e
  ·refine q s'' (Moved.trans W.gtrans ((m.mono more).then_heap (Nat.le_succ _) λc o hc e=>?_) m2) T4
   rw [sb.2 c λz:c=S=>hc (z ▸ List.mem_cons_self)]
   exact e
end
section
variable {prog:Program}{w:World}{A:Around}{E:Value->Shared->Prop}{s:Shared}
abbrev oSet0 (w:World):Obj:={ cls:=.type "set",dict:=none,data:=.set #[] 0 (.fresh 0 0 (!w.params.followText "set-order")),slots:=#[] }
theorem setI_new (h:Heap):SetI w (h.push (oSet0 w)) h.objs.size []:=
 ⟨#[],0,_,Heap.get?_push_size _ rfl,λe z=>by simp at z,List.Perm.refl _,⟨rfl,Nat.zero_le _,List.Pairwise.nil,rfl⟩,rfl⟩
theorem set_new1 (a:Value) {Q₁:Value->Shared->Prop} (h:Q₁ (.ref s.heap.objs.size) { s with heap:=s.heap.push (oSet0 w) }) :
  codeAny (model prog w) A (.call (.builtin "set.__new__") ⟨[.type "set",a],[]⟩) (wants Q₁ E) s:=by
 refine codeAny_of_tree ?_
 show wpAny _ A.in1 (checkBuiltinCall "set.__new__" ⟨[.type "set",a],[]⟩ >>= λ_=>again (.builtin "set.__new__" ⟨[.type "set",a],[]⟩)) _ _ s
 refine wpAny_bind (wpAny_of_eq (PySem.F.newCall_set_1 a) (wpAny_pure ⟨plainId_quiet F.plain_set_new _,codeAny_builtin F.entry_set_new ?_⟩))
 rw [Around.under_plainId F.plain_set_new]
 unfold Builtin.«set.__new__» Builtin.Frozenset.newClass
 have sub:=sub_set_self
 obtain ⟨hp,g,d,tk,os⟩:=s
 dsimp only
 wp_walk
 refine wpAny_askSetting (wpAny_pure ?_)
 simp only [newObj]
 exact wpAny_bind (wpAny_alloc (wpAny_pure (wpAny_pure h)))
theorem range_getD:∀ ns:List Int,(List.range ns.length).map (λi=>ns.getD i 0)=ns:=by
 intro ns
 refine List.ext_getElem (by simp) λi h1 h2=>?_
 simp [List.getD,h2]
theorem set_list {l:Addr}{items:Array Value}{ns:List Int}{Q:Value->Shared->Prop} (hh:A.handled=none) (hl:s.heap.IsList l items) (hi:IntsAre items.toList ns) (hb:items.size+1<scanBound)
  (q:∀ (h':Heap) (tk:Nat),SetI w h' s.heap.objs.size (ddup ns)->(∀ b o,b<s.heap.objs.size->s.heap.get? b=some o->h'.get? b=some o)->Q (.ref s.heap.objs.size) { s with heap:=h',toks:=tk }) :
  wpAny (model prog w) A (call (.type "set") [.ref l]) Q E s:=by
 have hlen:items.size=ns.length:=by
  have:=IntsAre.length hi
  simpa using this
 obtain ⟨c,tl,mro⟩:=F.called_set.mro
 have made:=F.called_set.made
 have sub:=F.called_set.sub
 refine wpAny_call ?_
 refine codeAny_of_tree ?_
 show wpAny _ _ (callAny (.type "set") _) _ _ _
 refine wpAny_pure ⟨Code.quiet_builtin _ (by decide +kernel),?_⟩
 refine codeAny_builtin F.entry_type_call ?_
 rw [Around.under_plain (weight_type_call_type "set" [.ref l] []) rfl]
 have n1:=F.called_set.notType
 have n2:=F.called_set.canCreate
 have n3:=F.typeCall_set_1 (.ref l)
 repeat (any_goals (first|assumption|wp_step))
 refine codeAny_mono (set_new1 (.ref l) (E:=E) (Q₁:=λv s₁=>v=.ref s.heap.objs.size/\s₁={ s with heap:=s.heap.push (oSet0 w) }) ⟨rfl,rfl⟩) λr s₁ hr=>?_
 cases r with
 |error e=>exact hr
 |ok fl=>
  cases fl with
  |ret v=>
   obtain ⟨rfl,rfl⟩:=hr
   have g0:(s.heap.push (oSet0 w)).get? s.heap.objs.size=some (oSet0 w):=Heap.get?_push_size _ rfl
   have ty:Shared.TypeIs { s with heap:=s.heap.push (oSet0 w) } (.ref s.heap.objs.size) "set":=⟨_,g0,rfl⟩
   have i1:=F.called_set.init.lookup
   have i2:=F.called_set.init.bind (.ref s.heap.objs.size)
   repeat (any_goals (first|assumption|wp_step))
   refine codeAny_mono (codeAny_call_builtin (R:=wants (λv s₂=>v=.none/\∃ h' tk,s₂={ s with heap:=h',toks:=tk }/\SetI w h' s.heap.objs.size (ddup ns)/\
     (∀ b o,b<s.heap.objs.size->s.heap.get? b=some o->h'.get? b=some o)) E) F.called_set.init.plain F.entry_set_init (check_set_init_1 ty ?_)) λr₂ s₂ hr₂=>?_
   ·obtain ⟨ol,hol,hcl,nl,hdl⟩:=hl
    obtain ⟨ocls,odict,odata,oslots⟩:=ol
    simp only at hcl hdl
    subst hcl
    subst hdl
    have g1:(s.heap.push (oSet0 w)).get? l=some { cls:=.type "list",dict:=odict,data:=.seq items nl,slots:=oslots }:=Heap.get?_push_of_some _ hol
    have n4:=F.sub_list_set
    have n5:=F.sub_list_frozenset
    have n6:(Value.type "list" == Value.type "dict")=false:=by decide
    have lst:(s.heap.push (oSet0 w)).IsList l items:=⟨_,g1,rfl,nl,rfl⟩
    unfold Builtin.«set.__init__» noKeywords Builtin.Frozenset.updateFrom
    generalize hPI:pyIter=PI
    wp_walk
    subst hPI
    refine wpAny_pyIter_list lst ?_
    refine wpAny_bind (wpAny_runValue ?_)
    have hlS:l<s.heap.objs.size:=Heap.lt_size hol
    have hh3:A.in1.in1.in1.handled=none:=by simp [hh]
    have ne1:l≠(s.heap.push (oSet0 w)).objs.size:=by
     rw [Heap.size_push]
     exact Nat.ne_of_lt (Nat.lt_succ_of_lt hlS)
    have ne2:s.heap.objs.size ∉ [(s.heap.push (oSet0 w)).objs.size,l]:=by
     rw [Heap.size_push]
     simp only [List.mem_cons,List.not_mem_nil,or_false,not_or]
     exact ⟨Nat.ne_of_lt (Nat.lt_succ_self _),Nat.ne_of_gt hlS⟩
    have hv:∀ (i:Nat) (v:Value),items[i]?=some v->∃ u,v=.int ((λi=>ns.getD i 0) i) u:=λi v z=>IntsAre.int_at hi i v (by rw [Array.getElem?_toList];exact z)
    refine loop_set ((Walks.list hh3 _ l ne1 items).toS) s.heap.objs.size ne2 (λi=>ns.getD i 0) hv hb items.size 0 _ rfl (Nat.zero_le _) ⟨⟨_,Heap.get?_push_size _ rfl,rfl,rfl⟩,lst.push _⟩ ?x0 ?x1
    case x0=>exact (setI_new s.heap).at λo e=>Heap.get?_push_of_some _ e
    case x1=>
     intro s' m T
     rw [hlen,range_getD] at T
     obtain ⟨h',g',d',tk',os'⟩:=s'
     obtain rfl:g'=s.gens:=m.gens
     obtain rfl:d'=s.drawn:=m.drawn
     obtain rfl:os'=s.os:=m.os
     refine wpAny_pure (show wpAny _ _ (ret Value.none) _ _ _ from wpAny_pure ⟨rfl,h',tk',rfl,T,λb o hb e=>?_⟩)
     refine m.heap b o ?_ (Heap.get?_push_of_some _ (Heap.get?_push_of_some _ e))
     rw [Heap.size_push]
     simp only [List.mem_cons,List.not_mem_nil,or_false,not_or]
     exact ⟨Nat.ne_of_lt hb,Nat.ne_of_lt (Nat.lt_succ_of_lt hb)⟩
   ·cases r₂ with
    |error e=>exact hr₂
    |ok fl₂=>
     cases fl₂ with
     |ret v=>
      obtain ⟨rfl,h',tk,rfl,T,kp⟩:=hr₂
      repeat (any_goals (first|assumption|wp_step))
      exact q _ _ T kp
     |_=>exact hr₂.elim
  |_=>exact hr.elim
end
end Cut
namespace Cut
open PySem PyProof.Rows
theorem sl_next:Slot "set_iterator" "__next__" "set_iterator.__next__":=
 .of (owner:="set_iterator") (n:="__next__") (by rw [typeLookup_type,builtinLookup_eq_fast];kernel_rfl) (by decide +kernel) (by decide +kernel) (by decide +kernel)
  (by first|exact .inl (by decide +kernel)|exact .inr (by decide +kernel)) (by rw [isSubtype_type];kernel_rfl)
theorem en_next:entryFor table "set_iterator.__next__"=some Builtin.«set_iterator.__next__»:=entryFor_of_tree (by kernel_rfl)
theorem ow_next:Manifest.owners.lookup (String.ofList ['r','o','t','a','r','e','t','i','_','t','e','s'].reverse)=some Manifest.sig_set_iterator:=by kernel_rfl
theorem ar_next (a:Value):argsOk "set_iterator.__next__" ⟨[a],[]⟩:=by
 unfold argsOk;rw [signature?_of (id:="set_iterator.__next__") (n:=['_','_','t','x','e','n','_','_']) (o:=['r','o','t','a','r','e','t','i','_','t','e','s']) (by kernel_rfl) ow_next];kernel_rfl
theorem sl_iter:Slot "set" "__iter__" "set.__iter__":=
 .of (owner:="set") (n:="__iter__") (by rw [typeLookup_type,builtinLookup_eq_fast];kernel_rfl) (by decide +kernel) (by decide +kernel) (by decide +kernel)
  (by first|exact .inl (by decide +kernel)|exact .inr (by decide +kernel)) (by rw [isSubtype_type];kernel_rfl)
theorem en_iter:entryFor table "set.__iter__"=some Builtin.«frozenset.__iter__»:=entryFor_alias (id':="frozenset.__iter__") (by kernel_rfl) rfl (by decide +kernel) (by kernel_rfl)
theorem ow_set:Manifest.owners.lookup (String.ofList ['t','e','s'].reverse)=some Manifest.sig_set:=by kernel_rfl
theorem ar_iter (a:Value):argsOk "set.__iter__" ⟨[a],[]⟩:=by
 unfold argsOk;rw [signature?_of (id:="set.__iter__") (n:=['_','_','r','e','t','i','_','_']) (o:=['t','e','s']) (by kernel_rfl) ow_set];kernel_rfl
theorem sl_self:Slot "set_iterator" "__iter__" "set_iterator.__iter__":=
 .of (owner:="set_iterator") (n:="__iter__") (by rw [typeLookup_type,builtinLookup_eq_fast];kernel_rfl) (by decide +kernel) (by decide +kernel) (by decide +kernel)
  (by first|exact .inl (by decide +kernel)|exact .inr (by decide +kernel)) (by rw [isSubtype_type];kernel_rfl)
theorem lk_len:typeLookup (.type "set") "__len__"=pure (some (.builtin "set.__len__")):=by rw [typeLookup_type,builtinLookup_eq_fast];kernel_rfl
section
variable {prog:Program}{w:World}{A:Around}{E:Value->Shared->Prop}{s:Shared}
theorem wp_choose {src:Source}{n:Nat}{Q:Nat->Shared->Prop} (hn:n≠0) (h:∀ k,k<n->Q k { s with drawn:=s.drawn.bump src }):wpAny (model prog w) A (choose src n) Q E s:=
 fun Γ p hΓ=>⟨hn,h _ (Nat.mod_lt _ (Nat.pos_of_ne_zero hn))⟩
theorem wp_draw {α:Type}:∀ (n:Nat) (l:List α) (s:Shared) (Q:List α->Shared->Prop),l.length=n->(∀ r d,r.Perm l->Q r { s with drawn:=d })->wpAny (model prog w) A (drawOrder n l) Q E s
 | 0,l,s,Q,hl,h=>by
  have e:l=[]:=List.eq_nil_of_length_eq_zero hl
  subst e
  exact wpAny_pure (h [] s.drawn (List.Perm.refl _))
 |n+1,[],s,Q,hl,h=>by cases hl
 |n+1,x::l,s,Q,hl,h=>by
  unfold drawOrder
  refine wpAny_bind (wp_choose (by simp) λk hk=>?_)
  rw [List.getElem?_eq_getElem hk]
  refine wpAny_bind (wp_draw n _ _ _ ?_ λr d hp=>wpAny_pure ?_)
  ·rw [List.length_eraseIdx,if_pos hk]
   omega
  ·exact h _ d ((List.Perm.cons _ hp).trans (erase_perm _ _ hk))
def ItAt (h:Heap) (I a:Addr) (x:Value) (i n ep:Nat):Prop:=
 h.get? I=some { cls:=.type "set_iterator",dict:=none,data:=.fields #[x,.int i 0,.ref a,.int n 0,.int ep 0],slots:=#[] }
abbrev SetAt (h:Heap) (a:Addr) (es:Array (Int×Value)) (ep:Nat) (t:SetTable):Prop:=
 h.get? a=some { cls:=.type "set",dict:=none,data:=.set es ep t,slots:=#[] }
theorem next_item {I a:Addr}{es:Array (Int×Value)}{ep i:Nat}{t:SetTable}{slot nx:Nat}{x:Value}{Q:Option Value->Shared->Prop} (hI:ItAt s.heap I a (.int slot 0) i es.size ep) (ha:SetAt s.heap a es ep t) (G:Good es t)
  (hn:∀ (A':Around) (E':Value->Shared->Prop) (Q':Option (Value×Nat)->Shared->Prop),Q' (some (x,nx)) s->wpAny (model prog w) A' (setNext a slot i ep) Q' E' s)
  (q:∀ h',ItAt h' I a (.int nx 0) (i+1) es.size ep->Heap.SameBut I s.heap h'->Q (some x) { s with heap:=h' }):wpAny (model prog w) A (pyNext (.ref I)) Q E s:=by
 have ty:s.TypeIs (.ref I) "set_iterator":=⟨_,hI,rfl⟩
 unfold pyNext
 refine wpAny_bind (wpAny_attempt (wpAny_callSpecial?_slot (name:=Str.ofString "__next__") ty sl_next (wpAny_call_entry sl_next ty en_next ?_ (ar_next _))))
 unfold Builtin.«set_iterator.__next__»
 refine wpAny_bind (wpAny_pure ?_)
 refine wpAny_bind (wpAny_fieldsOf hI rfl ?_)
 dsimp only
 refine wpAny_bind (wpAny_setEntries_of ha rfl G.fits ?_)
 rw [if_neg (by simp)]
 refine wpAny_bind (hn _ _ _ ?_)
 dsimp only
 refine wpAny_bind (wpAny_setField_rec hI (by simp) λh1 g1 b1=>?_)
 refine wpAny_bind (wpAny_setField_rec (s:={ s with heap:=h1 }) g1 (by simp) λh2 g2 b2=>?_)
 exact wpAny_pure ⟨x,rfl,wpAny_pure (q h2 g2 (b1.trans b2))⟩
end
end Cut
namespace Cut
open PySem PyProof.Rows
section
variable {prog:Program}{w:World}{A:Around}{E:Value->Shared->Prop}{s:Shared}
theorem next_stop {I a:Addr}{es:Array (Int×Value)}{ep i:Nat}{t:SetTable}{slot:Nat}{Q:Option Value->Shared->Prop} (hh:A.handled=none) (hI:ItAt s.heap I a (.int slot 0) i es.size ep) (ha:SetAt s.heap a es ep t) (G:Good es t)
  (hn:∀ (A':Around) (E':Value->Shared->Prop) (Q':Option (Value×Nat)->Shared->Prop),Q' none s->wpAny (model prog w) A' (setNext a slot i ep) Q' E' s)
  (q:∀ h',Heap.ExtBut I s.heap h'->Q none { s with heap:=h' }):wpAny (model prog w) A (pyNext (.ref I)) Q E s:=by
 have ty:s.TypeIs (.ref I) "set_iterator":=⟨_,hI,rfl⟩
 unfold pyNext
 refine wpAny_bind (wpAny_attempt (wpAny_callSpecial?_slot (name:=Str.ofString "__next__") ty sl_next (wpAny_call_entry sl_next ty en_next ?_ (ar_next _))))
 unfold Builtin.«set_iterator.__next__»
 refine wpAny_bind (wpAny_pure ?_)
 refine wpAny_bind (wpAny_fieldsOf hI rfl ?_)
 dsimp only
 refine wpAny_bind (wpAny_setEntries_of ha rfl G.fits ?_)
 rw [if_neg (by simp)]
 refine wpAny_bind (hn _ _ _ ?_)
 dsimp only
 refine wpAny_bind (wpAny_setField_rec hI (by simp) λh1 g1 b1=>?_)
 refine wpAny_bind (show wpAny _ _ (newExc (.type "StopIteration") []) _ _ _ from ?_)
 simp only [newExc,newTuple]
 refine wpAny_bind (wpAny_newObj_type ?_ (by size_fits))
 refine wpAny_bind (m:=firstArgMember _ _) (wpAny_of_eq (a:=Value.none) (by first|rfl|(simp only [firstArgMember];rfl)) (wpAny_newObj_type ?_ (by size_fits)))
 simp only [raiseNew]
 refine wpAny_bind (wpAny_handled ?_)
 rw [show A.in1.handled=none from hh]
 refine wpAny_bind (wpAny_pure (wpAny_throw ?_))
 refine wpAny_bind (wpAny_isInstance (T:="StopIteration") (b:=true) ⟨_,Heap.get?_push_size _ rfl,rfl⟩ isSubtype_stop (wpAny_pure ?_))
 exact q _ ((b1.extBut.push _).push _)
theorem setNext_led {a:Addr}{es:Array (Int×Value)}{ep i:Nat}{t:SetTable}{slot:Nat}{Q:Option (Value×Nat)->Shared->Prop} (ha:SetAt s.heap a es ep t) (G:Good es t) (hw:w.params.followText "set-order"=false)
  (hl:t.led=true) (hd:(!t.plain && decide (es.size > 1))=false) (hs:SetTable.below t.place slot=i)
  (q:Q (match es[i]?,t.place[i]? with|some (_,x),some j=>some (x,j+1)|_,_=>none) s):wpAny (model prog w) A (setNext a slot i ep) Q E s:=by
 unfold setNext
 refine wpAny_bind (wpAny_setState_of ha rfl G.fits ?_)
 dsimp only
 unfold setsByText
 refine wpAny_bind (wpAny_bind (wpAny_askSetting (wpAny_pure ?_)))
 show wpAny _ _ (if w.params.followText "set-order"=true then _ else _) _ _ _
 rw [hw,if_neg (by decide)]
 show wpAny _ _ (if (!t.plain && decide (es.size > 1))=true then _ else _) _ _ _
 rw [hd,if_neg (by decide)]
 refine wpAny_bind ?_
 show wpAny _ _ (if (!t.led && !es.isEmpty)=true then _ else _) _ _ _
 rw [hl,if_neg (by simp)]
 refine wpAny_pure (wpAny_pure ?_)
 rw [hs]
 exact q
theorem setNext_text {a:Addr}{es:Array (Int×Value)}{ep i:Nat}{t:SetTable}{slot:Nat}{Q:Option (Value×Nat)->Shared->Prop} (ha:SetAt s.heap a es ep t) (G:Good es t) (hw:w.params.followText "set-order"=true)
  (q:Q (((pickOrder (w.params.setOrder a ep) es)[i]?).map λe=>(e.2,slot)) s):wpAny (model prog w) A (setNext a slot i ep) Q E s:=by
 unfold setNext
 refine wpAny_bind (wpAny_setState_of ha rfl G.fits ?_)
 dsimp only
 unfold setsByText
 refine wpAny_bind (wpAny_bind (wpAny_askSetting (wpAny_pure ?_)))
 show wpAny _ _ (if w.params.followText "set-order"=true then _ else _) _ _ _
 rw [hw,if_pos rfl,if_neg (by simp)]
 refine wpAny_bind ?_
 unfold setWalk
 refine wpAny_bind (wpAny_setState_of ha rfl G.fits ?_)
 dsimp only
 unfold setsByText
 refine wpAny_bind (wpAny_bind (wpAny_askSetting (wpAny_pure ?_)))
 show wpAny _ _ (if w.params.followText "set-order"=true then _ else _) _ _ _
 rw [hw,if_pos rfl]
 exact wpAny_bind (wpAny_askSetting (wpAny_pure (wpAny_pure q)))
end
end Cut
namespace Cut
open PySem PyProof.Rows
theorem en_self:entryFor table "set_iterator.__iter__"=some Builtin.«dict_keyiterator.__iter__»:=entryFor_alias (id':="dict_keyiterator.__iter__") (by kernel_rfl) rfl (by decide +kernel) (by kernel_rfl)
theorem ar_self (a:Value):argsOk "set_iterator.__iter__" ⟨[a],[]⟩:=by
 unfold argsOk;rw [signature?_of (id:="set_iterator.__iter__") (n:=['_','_','r','e','t','i','_','_']) (o:=['r','o','t','a','r','e','t','i','_','t','e','s']) (by kernel_rfl) ow_next];kernel_rfl
section
variable {prog:Program}{w:World}{A:Around}{E:Value->Shared->Prop}{s:Shared}
theorem it_self {I a:Addr}{x:Value}{i n ep:Nat}{Q:Value->Shared->Prop} (hI:ItAt s.heap I a x i n ep) (q:Q (.ref I) s):wpAny (model prog w) A (pyIter (.ref I)) Q E s:=by
 have ty:s.TypeIs (.ref I) "set_iterator":=⟨_,hI,rfl⟩
 refine wpAny_pyIter_slot ty sl_self (wpAny_call_entry sl_self ty en_self ?_ (ar_self _))
 exact wpAny_pure ⟨_,rfl,"set_iterator",_,ty,sl_next.lookup,q⟩
def StI (I a:Addr) (es:Array (Int×Value)) (ep:Nat) (t:SetTable) (Rel:Nat->Nat->Prop) (i:Nat) (h:Heap):Prop:=
 ∃ slot:Nat,ItAt h I a (.int slot 0) i es.size ep/\SetAt h a es ep t/\Rel i slot
theorem walk_int (hh:A.handled=none) {I a:Addr}{es:Array (Int×Value)}{ep:Nat}{t:SetTable} (hne:a≠I) (G:Good es t) (vs:List Value) (Rel:Nat->Nat->Prop)
  (hi:∀ (s:Shared) i slot,i<es.size->Rel i slot->SetAt s.heap a es ep t->∃ x nx,vs[i]?=some x/\Rel (i+1) nx/\
   ∀ (A':Around) (E':Value->Shared->Prop) (Q':Option (Value×Nat)->Shared->Prop),Q' (some (x,nx)) s->wpAny (model prog w) A' (setNext a slot i ep) Q' E' s)
  (hd:∀ (s:Shared) slot,Rel es.size slot->SetAt s.heap a es ep t->
   ∀ (A':Around) (E':Value->Shared->Prop) (Q':Option (Value×Nat)->Shared->Prop),Q' none s->wpAny (model prog w) A' (setNext a slot es.size ep) Q' E' s) :
  Walks prog w A I [I,a] [I] es.size (λi v=>vs[i]?=some v) (StI I a es ep t Rel) where
 sub:=λb hb=>by simp at hb;simp [hb]
 frame:=λi h h' st k=>by
  obtain ⟨slot,x1,x2,x3⟩:=st
  exact ⟨slot,k I (by simp) _ x1,k a (by simp) _ x2,x3⟩
 item:=λi s Q E lt st q=>by
  obtain ⟨slot,x1,x2,x3⟩:=st
  obtain ⟨x,nx,y1,y2,y3⟩:=hi s i slot lt x3 x2
  refine next_item x1 x2 G y3 λh' g b=>?_
  have kp:∀ c o,c≠I->s.heap.get? c=some o->h'.get? c=some o:=λc o hc e=>by rw [b.2 c hc];exact e
  exact q x h' s.toks y1 ⟨nx,g,kp a _ hne x2,y2⟩ λc o hc e=>kp c o (λz=>hc (by simp [z])) e
 done:=λs Q E st q=>by
  obtain ⟨slot,x1,x2,x3⟩:=st
  exact next_stop hh x1 x2 G (hd s slot x3 x2) λh' b=>q h' s.toks λc o hc e=>b c o (λz=>hc (by simp [z])) e
 self:=λi s Q E st q=>by
  obtain ⟨slot,x1,_⟩:=st
  exact it_self x1 q
def StD (I a T:Addr) (es:Array (Int×Value)) (ep:Nat) (t:SetTable) (pl:List Nat) (i:Nat) (h:Heap):Prop:=
 ItAt h I a (.ref T) i es.size ep/\SetAt h a es ep t/\h.get? T=some { cls:=.type "tuple",dict:=none,data:=.seq (pl.map λ(k:Nat)=>rawInt (k:Int)).toArray,slots:=#[] }
theorem walk_drawn (hh:A.handled=none) {I a T:Addr}{es:Array (Int×Value)}{ep:Nat}{t:SetTable} (hne:a≠I) (hT:T≠I) (G:Good es t) (pl:List Nat) (hp:pl.Perm (List.range es.size)) :
  Walks prog w A I [I,a,T] [I] es.size (λi v=>(pl.map λk=>(es.getD k (0,.none)).2)[i]?=some v) (StD I a T es ep t pl) where
 sub:=λb hb=>by simp at hb;simp [hb]
 frame:=λi h h' st k=>⟨k I (by simp) _ st.1,k a (by simp) _ st.2.1,k T (by simp) _ st.2.2⟩
 item:=λi s Q E lt st q=>by
  obtain ⟨x1,x2,x3⟩:=st
  have hlen:pl.length=es.size:=by
   have:=hp.length_eq
   simpa using this
  have li:i<pl.length:=by omega
  have hk:pl[i]<es.size:=by
   have:=hp.mem_iff.mp (List.getElem_mem li)
   simpa using this
  have ty:s.TypeIs (.ref I) "set_iterator":=⟨_,x1,rfl⟩
  unfold pyNext
  refine wpAny_bind (wpAny_attempt (wpAny_callSpecial?_slot (name:=Str.ofString "__next__") ty sl_next (wpAny_call_entry sl_next ty en_next ?_ (ar_next _))))
  unfold Builtin.«set_iterator.__next__»
  refine wpAny_bind (wpAny_pure ?_)
  refine wpAny_bind (wpAny_fieldsOf x1 rfl ?_)
  dsimp only
  refine wpAny_bind (wpAny_setEntries_of x2 rfl G.fits ?_)
  rw [if_neg (by simp)]
  refine wpAny_bind (wpAny_seqItems x3 rfl ?_)
  have e1:((pl.map λ(k:Nat)=>rawInt (k:Int)).toArray)[(i:Int).toNat]?=some (rawInt (pl[i]:Int)):=by simp [li]
  dsimp only
  rw [e1]
  dsimp only [rawInt]
  refine wpAny_bind ?_
  unfold setNextDrawn
  refine wpAny_bind (wpAny_setState_of x2 rfl G.fits ?_)
  dsimp only
  rw [if_neg (by simp)]
  have e2:es[(pl[i]:Int).toNat]?=some es[pl[i]]:=by simp [hk]
  rw [e2]
  refine wpAny_pure ?_
  refine wpAny_bind (wpAny_setField_rec x1 (by simp) λh1 g1 b1=>?_)
  have kp:∀ c o,c≠I->s.heap.get? c=some o->h1.get? c=some o:=λc o hc e=>by rw [b1.2 c hc];exact e
  refine wpAny_pure ⟨_,rfl,wpAny_pure (q _ h1 s.toks ?_ ⟨g1,kp a _ hne x2,kp T _ hT x3⟩ λc o hc e=>kp c o (λz=>hc (by simp [z])) e)⟩
  simp [li,hk,Array.getD]
 done:=λs Q E st q=>by
  obtain ⟨x1,x2,x3⟩:=st
  have hlen:pl.length=es.size:=by
   have:=hp.length_eq
   simpa using this
  have ty:s.TypeIs (.ref I) "set_iterator":=⟨_,x1,rfl⟩
  unfold pyNext
  refine wpAny_bind (wpAny_attempt (wpAny_callSpecial?_slot (name:=Str.ofString "__next__") ty sl_next (wpAny_call_entry sl_next ty en_next ?_ (ar_next _))))
  unfold Builtin.«set_iterator.__next__»
  refine wpAny_bind (wpAny_pure ?_)
  refine wpAny_bind (wpAny_fieldsOf x1 rfl ?_)
  dsimp only
  refine wpAny_bind (wpAny_setEntries_of x2 rfl G.fits ?_)
  rw [if_neg (by simp)]
  refine wpAny_bind (wpAny_seqItems x3 rfl ?_)
  have e1:((pl.map λ(k:Nat)=>rawInt (k:Int)).toArray)[((es.size:Nat):Int).toNat]?=none:=by simp [hlen]
  dsimp only
  rw [e1]
  dsimp only
  refine wpAny_bind (wpAny_setField_rec x1 (by simp) λh0 g0 b0=>?_)
  refine wpAny_bind (wpAny_setField_rec (s:={ s with heap:=h0 }) g0 (by simp) λh1 g1 b1=>?_)
  refine wpAny_bind (show wpAny _ _ (newExc (.type "StopIteration") []) _ _ _ from ?_)
  simp only [newExc,newTuple]
  refine wpAny_bind (wpAny_newObj_type ?_ (by size_fits))
  refine wpAny_bind (m:=firstArgMember _ _) (wpAny_of_eq (a:=Value.none) (by first|rfl|(simp only [firstArgMember];rfl)) (wpAny_newObj_type ?_ (by size_fits)))
  simp only [raiseNew]
  refine wpAny_bind (wpAny_handled ?_)
  rw [show A.in1.handled=none from hh]
  refine wpAny_bind (wpAny_pure (wpAny_throw ?_))
  refine wpAny_bind (wpAny_isInstance (T:="StopIteration") (b:=true) ⟨_,Heap.get?_push_size _ rfl,rfl⟩ isSubtype_stop (wpAny_pure ?_))
  have kp:=((b0.trans b1).extBut.push { cls:=.type "tuple",dict:=none,data:=.seq #[] }).push
  exact q _ s.toks λc o hc e=>(((b0.trans b1).extBut.push _).push _) c o (λz=>hc (by simp [z])) e
 self:=λi s Q E st q=>it_self st.1 q
end
end Cut
namespace Cut
open PySem PyProof.Rows
theorem intsAre_of:∀ (l:List (Int×Value)),(∀ e∈l,EleI e)->IntsAre (l.map (·.2)) (l.map λe=>keyI e.2)
 | [],_=>.nil
 |e::l,h=>by
  obtain ⟨k,u,rfl⟩:=h e (List.mem_cons_self ..)
  exact .cons k u (intsAre_of l λe he=>h e (List.mem_cons_of_mem _ he))
section
variable {prog:Program}{w:World}{A:Around}{E:Value->Shared->Prop}{s:Shared}
def Over (prog:Program) (w:World) (A:Around) (σ:List Int) (a:Addr) (L:Nat) (I:Addr) (h:Heap):Prop:=
 ∃ (fp:List Addr) (n:Nat) (vs:List Value) (τ:List Int) (St:Nat->Heap->Prop),Walks prog w A I fp [I] n (λi v=>vs[i]?=some v) St/\St 0 h/\(∀ b∈fp,b<h.objs.size)/\I∈fp/\IntsAre vs τ/\τ.Perm σ/\vs.length=n/\∀ b∈fp,b=a∨L<=b
theorem iter_set {a:Addr}{σ:List Int}{Q:Value->Shared->Prop} (hh:A.handled=none) (S:SetI w s.heap a σ) (hb:σ.length<scanBound)
  (q:∀ I h' d',Over prog w A σ a s.heap.objs.size I h'->(∀ b o,s.heap.get? b=some o->h'.get? b=some o)->s.heap.objs.size<=I->Q (.ref I) { s with heap:=h',drawn:=d' }):wpAny (model prog w) A (pyIter (.ref a)) Q E s:=by
 obtain ⟨es,ep,t,x,x2,x3,G,x5⟩:=S
 have ty:s.TypeIs (.ref a) "set":=⟨_,x,rfl⟩
 have ha:a<s.heap.objs.size:=Heap.lt_size x
 have hsz:es.size<=sizeLine:=by
  have:=x3.length_eq
  simp only [List.length_map,Array.length_toList] at this
  exact fits_of_scanBound (by omega)
 refine wpAny_pyIter_slot ty sl_iter (wpAny_call_entry sl_iter ty en_iter ?_ (ar_iter _))
 unfold Builtin.«frozenset.__iter__» Builtin.Frozenset.slot0
 refine wpAny_bind (wpAny_bind (wpAny_pure (wpAny_pure ?_)))
 unfold Builtin.Frozenset.sizeOf
 refine wpAny_bind (wpAny_bind (wpAny_setEntries_of x rfl G.fits (wpAny_pure ?_)))
 unfold setDrawn setsByText
 refine wpAny_bind (wpAny_bind (wpAny_setState_of x rfl G.fits ?_))
 dsimp only
 refine wpAny_bind (wpAny_bind (wpAny_askSetting (wpAny_pure (wpAny_pure ?_))))
 show wpAny _ _ (if (!w.params.followText "set-order" && (!t.plain && decide (es.size > 1)))=true then _ else _) _ _ _
 by_cases hc:(!w.params.followText "set-order" && (!t.plain && decide (es.size > 1)))=true
 ·rw [if_pos hc]
  refine wpAny_bind (wp_draw es.size (List.range es.size) _ _ List.length_range λr d hp=>?_)
  have hrl:r.length=es.size:=by
   have:=hp.length_eq
   simpa using this
  have hes:es.size<=sizeLine:=hsz
  refine wpAny_bind (wpAny_newTuple ?_ (by rw [List.length_map,hrl];exact hes))
  have g1:=Heap.get?_push_of_some { cls:=.type "tuple",data:=.seq (r.map λ(k:Nat)=>rawInt (k:Int)).toArray } x
  refine wpAny_bind (wpAny_setEpoch_of (s:={ s with heap:=_,drawn:=d }) g1 rfl G.fits ?_)
  refine wpAny_bind (wpAny_newObj_type (wpAny_pure ⟨_,rfl,"set_iterator",_,⟨_,Heap.get?_push_size _ rfl,rfl⟩,sl_next.lookup,?_⟩))
  have z1:(s.heap.push { cls:=.type "tuple",data:=.seq (r.map λ(k:Nat)=>rawInt (k:Int)).toArray }).objs.size=s.heap.objs.size+1:=Heap.size_push ..
  refine q _ _ _ ⟨_,_,r.map λk=>(es.getD k (0,.none)).2,r.map λk=>keyI (es.getD k (0,.none)).2,_,walk_drawn (T:=s.heap.objs.size) (t:=t) (ep:=ep) hh ?n1 ?n2 G r hp,⟨Heap.get?_push_size _ rfl,Heap.get?_push_of_some _ g1,Heap.get?_push_of_some _ (Heap.get?_push_size _ rfl)⟩,?n3,by simp,?n4,?n5,by rw [List.length_map,hrl],?n6⟩ (λb o e=>Heap.get?_push_of_some _ (Heap.get?_push_of_some _ e)) (by show s.heap.objs.size<=_;rw [z1];exact Nat.le_succ _)
  case n1=>show a≠_;rw [z1];exact Nat.ne_of_lt (Nat.lt_succ_of_lt ha)
  case n2=>show s.heap.objs.size≠_;rw [z1];exact Nat.ne_of_lt (Nat.lt_succ_self _)
  case n3=>
   intro b hb
   rw [Heap.size_push,z1]
   rw [z1] at hb
   simp only [List.mem_cons,List.not_mem_nil,or_false] at hb
   rcases hb with rfl|rfl|rfl
   ·exact Nat.lt_succ_self _
   ·exact Nat.lt_succ_of_lt (Nat.lt_succ_of_lt ha)
   ·exact Nat.lt_succ_of_lt (Nat.lt_succ_self _)
  case n6=>
   intro b hb
   rw [z1] at hb
   simp only [List.mem_cons,List.not_mem_nil,or_false] at hb
   rcases hb with rfl|rfl|rfl
   ·exact .inr (Nat.le_succ _)
   ·exact .inl rfl
   ·exact .inr (Nat.le_refl _)
  case n4=>
   have e1:(r.map λk=>(es.getD k (0,.none)).2)=(r.map λk=>es.getD k (0,.none)).map (·.2):=by rw [List.map_map];rfl
   have e2:(r.map λk=>keyI (es.getD k (0,.none)).2)=(r.map λk=>es.getD k (0,.none)).map λe=>keyI e.2:=by rw [List.map_map];rfl
   rw [e1,e2]
   refine intsAre_of _ λe he=>?_
   obtain ⟨k,hk,rfl⟩:=List.mem_map.mp he
   have lk:k<es.size:=by simpa using hp.mem_iff.mp hk
   have e3:es.getD k (0,.none)=es[k]:=by simp [Array.getD,lk]
   rw [e3]
   exact x2 _ (by simp)
  case n5=>
   refine (hp.map _).trans (List.Perm.trans (List.Perm.of_eq ?_) x3)
   refine List.ext_getElem (by simp) λk h1 h2=>?_
   have lk:k<es.size:=by simpa using h1
   simp [Array.getD,lk]
 ·rw [if_neg hc]
  refine wpAny_bind (wpAny_pure ?_)
  refine wpAny_bind (wpAny_setEpoch_of x rfl G.fits ?_)
  refine wpAny_bind (wpAny_newObj_type (wpAny_pure ⟨_,rfl,"set_iterator",_,⟨_,Heap.get?_push_size _ rfl,rfl⟩,sl_next.lookup,?_⟩))
  have fpb:∀ (o:Obj),∀ b∈[s.heap.objs.size,a],b<(s.heap.push o).objs.size:=by
   intro o b hb
   rw [Heap.size_push]
   simp only [List.mem_cons,List.not_mem_nil,or_false] at hb
   rcases hb with rfl|rfl
   ·exact Nat.lt_succ_self _
   ·exact Nat.lt_succ_of_lt ha
  have ab:∀ b∈[s.heap.objs.size,a],b=a∨s.heap.objs.size<=b:=by
   intro b hb
   simp only [List.mem_cons,List.not_mem_nil,or_false] at hb
   rcases hb with rfl|rfl
   ·exact .inr (Nat.le_refl _)
   ·exact .inl rfl
  by_cases hw:w.params.followText "set-order"=true
  ·have pp:=pickOrder_perm (w.params.setOrder a ep) es
   have pl:(pickOrder (w.params.setOrder a ep) es).size=es.size:=by
    have:=pp.length_eq
    simpa using this
   refine q _ _ s.drawn ⟨_,_,(pickOrder (w.params.setOrder a ep) es).toList.map (·.2),(pickOrder (w.params.setOrder a ep) es).toList.map λe=>keyI e.2,_,
    walk_int (t:=t) (ep:=ep) (es:=es) hh (Nat.ne_of_lt ha) G _ (λ_ _=>True) ?m1 ?m2,⟨0,Heap.get?_push_size _ rfl,Heap.get?_push_of_some _ x,trivial⟩,fpb _,by simp,intsAre_of _ λe he=>x2 e (pp.mem_iff.mp he),(pp.map _).trans x3,by simp [pl],ab⟩
    (λb o e=>Heap.get?_push_of_some _ e) (Nat.le_refl _)
   case m1=>
    intro s i slot lt _ g
    have li:i<(pickOrder (w.params.setOrder a ep) es).size:=by omega
    refine ⟨(pickOrder (w.params.setOrder a ep) es)[i].2,slot,by simp [li],trivial,λA' E' Q' q'=>setNext_text g G hw ?_⟩
    simp only [Array.getElem?_eq_getElem li,Option.map_some]
    exact q'
   case m2=>
    intro s slot _ g A' E' Q' q'
    refine setNext_text g G hw ?_
    rw [Array.getElem?_eq_none (by omega)]
    exact q'
  ·have hwf:w.params.followText "set-order"=false:=by simpa using hw
   have hl:t.led=true:=by rw [x5,hwf];rfl
   have hd:(!t.plain && decide (es.size > 1))=false:=by
    rw [hwf] at hc
    simpa using hc
   refine q _ _ s.drawn ⟨_,_,es.toList.map (·.2),es.toList.map λe=>keyI e.2,_,
    walk_int (t:=t) (ep:=ep) (es:=es) hh (Nat.ne_of_lt ha) G _ (λi slot=>SetTable.below t.place slot=i) ?m1 ?m2,⟨0,Heap.get?_push_size _ rfl,Heap.get?_push_of_some _ x,?m3⟩,fpb _,by simp,intsAre_of _ x2,x3,by simp,ab⟩
    (λb o e=>Heap.get?_push_of_some _ e) (Nat.le_refl _)
   case m1=>
    intro s i slot lt hr g
    have lp:i<t.place.size:=by rw [G.size];exact lt
    refine ⟨es[i].2,t.place[i]+1,by simp [lt],?_,λA' E' Q' q'=>setNext_led g G hwf hl hd hr ?_⟩
    ·exact below_walk G.rise (by omega) (λz=>nomatch z) λk hk e=>by
      obtain rfl:k=i:=by omega
      rfl
    ·rw [Array.getElem?_eq_getElem lt,Array.getElem?_eq_getElem lp]
     exact q'
   case m2=>
    intro s slot hr g A' E' Q' q'
    refine setNext_led g G hwf hl hd hr ?_
    rw [Array.getElem?_eq_none (Nat.le_refl _)]
    exact q'
   case m3=>
    exact below_walk G.rise (Nat.zero_le _) (λ_=>rfl) λk hk e=>by cases e
end
end Cut
namespace Tim
open PySem PyProof.Rows
def OnlyIn (lo hi:Nat) (xs ys:Array Keyed):Prop:=ys.Perm xs/\∀ k,(k<lo∨hi<=k)->ys[k]?=xs[k]?
theorem OnlyIn.refl {lo hi:Nat}{xs:Array Keyed}:OnlyIn lo hi xs xs:=⟨Array.Perm.refl _,λ_ _=>rfl⟩
theorem OnlyIn.trans {lo hi:Nat}{xs ys zs:Array Keyed} (h1:OnlyIn lo hi xs ys) (h2:OnlyIn lo hi ys zs):OnlyIn lo hi xs zs:=⟨h2.1.trans h1.1,λk hk=>(h2.2 k hk).trans (h1.2 k hk)⟩
theorem OnlyIn.mono {lo hi lo' hi':Nat}{xs ys:Array Keyed} (h:OnlyIn lo hi xs ys) (h1:lo'<=lo) (h2:hi<=hi'):OnlyIn lo' hi' xs ys:=⟨h.1,λk hk=>h.2 k (by omega)⟩
theorem OnlyIn.size {lo hi:Nat}{xs ys:Array Keyed} (h:OnlyIn lo hi xs ys):ys.size=xs.size:=h.1.size_eq
theorem OnlyIn.keys {lo hi:Nat}{xs ys:Array Keyed} (h:OnlyIn lo hi xs ys) (hI:IntKeys xs):IntKeys ys:=λp hp=>hI p ((Array.perm_iff_toList_perm.mp h.1).mem_iff.mp hp)
theorem OnlyIn.key {lo hi k:Nat}{xs ys:Array Keyed} (h:OnlyIn lo hi xs ys) (hk:k<lo∨hi<=k):K ys k=K xs k:=K_congr (h.2 k hk)
def Up (xs:Array Keyed) (lo hi:Nat):Prop:=∀ i j,lo<=i->i<=j->j<hi->K xs i<=K xs j
def Down (xs:Array Keyed) (lo hi:Nat):Prop:=∀ i j,lo<=i->i<=j->j<hi->K xs j<=K xs i
theorem Up.one {xs:Array Keyed}{lo:Nat}:Up xs lo (lo+1):=λi j h1 h2 h3=>by
 have:i=j:=by omega
 rw [this];exact Int.le_refl _
theorem Up.snoc {xs:Array Keyed}{lo hi:Nat} (h:Up xs lo hi) (hlt:lo<hi) (hk:K xs (hi - 1)<=K xs hi):Up xs lo (hi+1):=λi j h1 h2 h3=>by
 by_cases e:j=hi
 ·subst e
  by_cases e2:i=j
  ·rw [e2];exact Int.le_refl _
  ·exact Int.le_trans (h i (j - 1) h1 (by omega) (by omega)) hk
 ·exact h i j h1 h2 (by omega)
theorem Down.snoc {xs:Array Keyed}{lo hi:Nat} (h:Down xs lo hi) (hlt:lo<hi) (hk:K xs hi<=K xs (hi - 1)):Down xs lo (hi+1):=λi j h1 h2 h3=>by
 by_cases e:j=hi
 ·subst e
  by_cases e2:i=j
  ·rw [e2];exact Int.le_refl _
  ·exact Int.le_trans hk (h i (j - 1) h1 (by omega) (by omega))
 ·exact h i j h1 h2 (by omega)
theorem key_at {xs:Array Keyed} (hI:IntKeys xs) {i:Nat} (hi:i<xs.size):∃ t q,xs[i]?=some (.int (K xs i) t,q):=by
 obtain ⟨n,t,hn⟩:=hI xs[i] (by simp)
 refine ⟨t,xs[i].2,?_⟩
 have e:xs[i]?=some xs[i]:=getElem?_pos _ i hi
 have e2:xs[i]=(.int n t,xs[i].2):=Prod.ext hn rfl
 unfold K
 rw [e,e2]
 rfl
theorem mirror_in {xs:Array Keyed}{i j:Nat} (hj:j<=xs.size):OnlyIn i j xs (mirror xs i j ((j-i) / 2)):=⟨mirror_perm ..,λk hk=>by
 rw [getElem?_mirror_all hj,if_neg (by omega)]⟩
theorem bubble_in {xs:Array Keyed}{src d:Nat} (hs:src<xs.size) (hd:d<=src):OnlyIn (src-d) (src+1) xs (bubble xs src d):=⟨bubble_perm ..,λk hk=>by
 rw [getElem?_bubble hs d hd,if_neg (by omega),if_neg (by omega)]⟩
section
variable {prog:Program}{w:World}{A:Around}{E:Value->Shared->Prop}{s:Shared}
theorem lt_keys {st:SortSt}{i j:Nat}{Q:Option Bool->SortSt->Prop} (hk:kindOf st=oneType') (hI:IntKeys (arrOf st)) (hi:i<(arrOf st).size) (hj:j<(arrOf st).size)
  (h:Q (some (decide (K (arrOf st) i<K (arrOf st) j))) st):wpS (model prog w) A E s (ltAt' i j) Q st:=by
 obtain ⟨t,p,e1⟩:=key_at hI hi
 obtain ⟨u,q,e2⟩:=key_at hI hj
 exact wpS_ltAt hk e1 e2 h
theorem wpS_cut {i j:Nat}{st:SortSt}{Q:Unit->SortSt->Prop} (h:Q () (setArr st (mirror (arrOf st) i j ((j-i) / 2)))):wpS (model prog w) A E s (reverseSlice' i j) Q st:=by
 rw [reverseSlice'_eq]
 exact wpS_modify h
end
abbrev C2:=Option (Option Nat)×Nat
abbrev C3:=Option (Option Nat)×Nat×Nat
def riseL (lo a nrem:Nat):StateT SortSt Sem C2:=
 forIn [a:nrem] ((none,a):C2) λ_ c=>do
  let x<-ltAt' (lo+c.2) (lo+c.2 - 1)
  match x with
  |some smaller=>if smaller=true then pure (ForInStep.done (none,c.2)) else pure (ForInStep.yield (none,c.2+1))
  |_=>pure (ForInStep.done (some none,c.2))
def tailL (lo n nrem:Nat):StateT SortSt Sem (Option Nat):=do
 reverseSlice' lo (lo+n)
 let q<-riseL lo n nrem
 match q.1 with
 |some r=>pure r
 |none=>pure (some q.2)
def fallL (lo n nrem:Nat):StateT SortSt Sem C3:=
 forIn [n:nrem] ((none,n,0):C3) λ_ c=>do
  let x<-ltAt' (lo+c.2.1) (lo+c.2.1 - 1)
  match x with
  |some smaller=>
   if smaller=true then
    if c.2.2 > 0 then do
     reverseSlice' (lo+c.2.1-(c.2.2+1)) (lo+c.2.1)
     pure (ForInStep.yield (none,c.2.1+1,0))
    else pure (ForInStep.yield (none,c.2.1+1,0))
   else do
    let y<-ltAt' (lo+c.2.1 - 1) (lo+c.2.1)
    match y with
    |some larger=>if larger=true then pure (ForInStep.done (none,c.2.1,c.2.2)) else pure (ForInStep.yield (none,c.2.1+1,c.2.2+1))
    |_=>pure (ForInStep.done (some none,c.2.1,c.2.2))
  |_=>pure (ForInStep.done (some none,c.2.1,c.2.2))
def fallP (lo n nrem:Nat):StateT SortSt Sem (Option Nat):=do
 liftM (rule "list.sort.descending-run")
 let c<-fallL lo (n+1) nrem
 match c.1 with
 |some r=>pure r
 |none=>
  if c.2.2 > 0 then do
   reverseSlice' (lo+c.2.1-(c.2.2+1)) (lo+c.2.1)
   tailL lo c.2.1 nrem
  else tailL lo c.2.1 nrem
section
variable {prog:Program}{w:World}{A:Around}{E:Value->Shared->Prop}{s:Shared}
theorem wp_rise {st:SortSt}{lo a nrem:Nat} (hk:kindOf st=oneType') (hI:IntKeys (arrOf st)) (hn:lo+nrem<=(arrOf st).size) (ha:1<=a) (han:a<=nrem) (hU:Up (arrOf st) lo (lo+a))
  {Q:C2->SortSt->Prop} (h:∀ n,a<=n->n<=nrem->Up (arrOf st) lo (lo+n)->(n<nrem->K (arrOf st) (lo+n)<K (arrOf st) (lo+n - 1))->Q (none,n) st):wpS (model prog w) A E s (riseL lo a nrem) Q st:=by
 unfold riseL
 refine wpS_forRange (I:=λx c st'=>st'=st/\c=(none,x)/\Up (arrOf st) lo (lo+x)) ?_ ?_ ⟨rfl,rfl,hU⟩
 ·rintro i c st' h1 h2 ⟨rfl,rfl,hu⟩
  refine wpS_bind (lt_keys hk hI (show lo+i<_ by omega) (show lo+i - 1<_ by omega) ?_)
  dsimp only
  by_cases hc:K (arrOf st') (lo+i)<K (arrOf st') (lo+i - 1)
  ·rw [if_pos (decide_eq_true hc)]
   exact wpS_pure (h i (by omega) (by omega) hu λ_=>hc)
  ·rw [if_neg λz=>hc (of_decide_eq_true z)]
   exact wpS_pure ⟨rfl,rfl,hu.snoc (by omega) (Int.not_lt.mp hc)⟩
 ·rintro c st' ⟨rfl,rfl,hu⟩
  rw [Nat.max_eq_right han] at hu ⊢
  exact h nrem han (Nat.le_refl _) hu λz=>absurd z (Nat.lt_irrefl _)
end
end Tim
namespace Tim
open PySem PyProof.Rows
section
variable {prog:Program}{w:World}{A:Around}{E:Value->Shared->Prop}{s:Shared}
theorem down_flip {xs:Array Keyed}{lo hi:Nat} (hh:hi<=xs.size) (h:Down xs lo hi):Up (mirror xs lo hi ((hi-lo) / 2)) lo hi:=λi j h1 h2 h3=>by
 rw [K_mirror hh,K_mirror hh,if_pos ⟨h1,by omega⟩,if_pos ⟨by omega,h3⟩]
 exact h _ _ (by omega) (by omega) (by omega)
theorem same_flip {xs:Array Keyed}{i j:Nat} (hj:j<=xs.size) (heq:∀ k,i<=k->k<j->K xs k=K xs (j - 1)):∀ k,K (mirror xs i j ((j-i) / 2)) k=K xs k:=λk=>K_mirror_equal hj heq k
theorem wp_tail {st:SortSt}{lo n nrem:Nat}{ys:Array Keyed} (hk:kindOf st=oneType') (hI:IntKeys (arrOf st)) (hn:lo+nrem<=(arrOf st).size) (hn2:1<=n) (hn1:n<=nrem) (hy:OnlyIn lo (lo+nrem) (arrOf st) ys) (hd:Down ys lo (lo+n))
  {Q:Option Nat->SortSt->Prop} (h:∀ (m:Nat) (ys:Array Keyed),1<=m->m<=nrem->OnlyIn lo (lo+nrem) (arrOf st) ys->Up ys lo (lo+m)->Q (some m) (setArr st ys)):wpS (model prog w) A E s (tailL lo n nrem) Q (setArr st ys):=by
 have hys:=hy.size
 unfold tailL
 refine wpS_bind (wpS_cut ?_)
 have hm:OnlyIn lo (lo+n) ys (mirror ys lo (lo+n) ((lo+n-lo) / 2)):=mirror_in (by omega)
 have hz:OnlyIn lo (lo+nrem) (arrOf st) (mirror ys lo (lo+n) ((lo+n-lo) / 2)):=hy.trans (hm.mono (Nat.le_refl _) (by omega))
 refine wpS_bind (wp_rise (st:=setArr st (mirror ys lo (lo+n) ((lo+n-lo) / 2))) hk (hz.keys hI) (by have:=hz.size;show lo+nrem<=(mirror ys lo (lo+n) ((lo+n-lo) / 2)).size;omega) hn2 hn1 (down_flip (by omega) hd) λm m1 m2 hu _=>?_)
 exact wpS_pure (h m _ (by omega) m2 hz hu)
theorem wp_fall {st:SortSt}{lo n0 nrem:Nat}{ys:Array Keyed} (hk:kindOf st=oneType') (hI:IntKeys (arrOf st)) (hn:lo+nrem<=(arrOf st).size) (h1:1<=n0) (hnn:n0<nrem) (hy:OnlyIn lo (lo+nrem) (arrOf st) ys) (hD:Down ys lo (lo+n0+1))
  {Q:Option Nat->SortSt->Prop} (h:∀ (m:Nat) (ys:Array Keyed),1<=m->m<=nrem->OnlyIn lo (lo+nrem) (arrOf st) ys->Up ys lo (lo+m)->Q (some m) (setArr st ys)) :
  wpS (model prog w) A E s (fallP lo n0 nrem) Q (setArr st ys):=by
 unfold fallP
 refine wpS_bind (wpS_lift (wpAny_rule ⟨rfl,?_⟩))
 unfold fallL
 refine wpS_bind (wpS_mono (wpS_forRange (I:=λx c st'=>∃ (xs:Array Keyed) (neq:Nat),st'=setArr st xs/\c=(none,x,neq)/\OnlyIn lo (lo+nrem) (arrOf st) xs/\Down xs lo (lo+x)/\neq+1<=x/\∀ k,lo+x-(neq+1)<=k->k<lo+x->K xs k=K xs (lo+x - 1))
  (Q:=λc st'=>∃ (xs:Array Keyed) (n neq:Nat),st'=setArr st xs/\c=(none,n,neq)/\n<=nrem/\1<=n/\OnlyIn lo (lo+nrem) (arrOf st) xs/\Down xs lo (lo+n)/\neq+1<=n/\∀ k,lo+n-(neq+1)<=k->k<lo+n->K xs k=K xs (lo+n - 1)) ?step ?fin ?init) ?post)
 case init=>exact ⟨ys,0,rfl,rfl,hy,hD,by omega,λk k1 k2=>by rw [show k=lo+(n0+1) - 1 by omega]⟩
 case fin=>
  rintro c st' ⟨xs,neq,rfl,rfl,h3,h4,h5,h6⟩
  rw [Nat.max_eq_right (show n0+1<=nrem by omega)] at h4 h5 h6
  refine ⟨xs,nrem,neq,rfl,?_,Nat.le_refl _,by omega,h3,h4,h5,h6⟩
  rw [Nat.max_eq_right (show n0+1<=nrem by omega)]
 case step=>
  rintro x c st' hx1 hx2 ⟨xs,neq,rfl,rfl,h3,h4,h5,h6⟩
  have hI':IntKeys (arrOf (setArr st xs)):=h3.keys hI
  have hsz:(arrOf (setArr st xs)).size=(arrOf st).size:=h3.size
  refine wpS_bind (lt_keys hk hI' (show lo+x<_ by omega) (show lo+x - 1<_ by omega) ?_)
  dsimp only
  by_cases hc:K xs (lo+x)<K xs (lo+x - 1)
  ·rw [if_pos (decide_eq_true hc)]
   by_cases hq:neq > 0
   ·rw [if_pos hq]
    refine wpS_bind (wpS_cut (wpS_pure ?_))
    have hkk:=same_flip (xs:=xs) (i:=lo+x-(neq+1)) (j:=lo+x) (by have:=h3.size;omega) h6
    refine ⟨_,0,rfl,rfl,h3.trans ((mirror_in (by have:=h3.size;omega)).mono (by omega) (by omega)),?_,by omega,λk k1 k2=>by rw [show k=lo+(x+1) - 1 by omega]⟩
    have hd:=h4.snoc (by omega) (Int.le_of_lt hc)
    exact λi j i1 i2 i3=>by rw [hkk,hkk];exact hd i j i1 i2 (by omega)
   ·rw [if_neg hq]
    exact wpS_pure ⟨xs,0,rfl,rfl,h3,h4.snoc (by omega) (Int.le_of_lt hc),by omega,λk k1 k2=>by rw [show k=lo+(x+1) - 1 by omega]⟩
  ·rw [if_neg λz=>hc (of_decide_eq_true z)]
   refine wpS_bind (lt_keys hk hI' (show lo+x - 1<_ by omega) (show lo+x<_ by omega) ?_)
   dsimp only
   by_cases hl:K xs (lo+x - 1)<K xs (lo+x)
   ·rw [if_pos (decide_eq_true hl)]
    exact wpS_pure ⟨xs,x,neq,rfl,rfl,by omega,by omega,h3,h4,h5,h6⟩
   ·rw [if_neg λz=>hl (of_decide_eq_true z)]
    have he:K xs (lo+x)=K xs (lo+x - 1):=by omega
    refine wpS_pure ⟨xs,neq+1,rfl,rfl,h3,h4.snoc (by omega) (Int.le_of_eq he),by omega,λk k1 k2=>?_⟩
    rw [show lo+(x+1) - 1=lo+x by omega,he]
    by_cases e:k=lo+x
    ·rw [e,he]
    ·exact h6 k (by omega) (by omega)
 case post=>
  rintro c st' ⟨xs,n,neq,rfl,rfl,hn1,hn2,h3,h4,h5,h6⟩
  dsimp only
  by_cases hq:neq > 0
  ·rw [if_pos hq]
   refine wpS_bind (wpS_cut ?_)
   have hsz:=h3.size
   have hkk:=same_flip (xs:=xs) (i:=lo+n-(neq+1)) (j:=lo+n) (by omega) h6
   exact wp_tail hk hI hn hn2 hn1 (h3.trans ((mirror_in (by omega)).mono (by omega) (by omega))) (λi j i1 i2 i3=>by rw [hkk,hkk];exact h4 i j i1 i2 i3) h
  ·rw [if_neg hq]
   exact wp_tail hk hI hn hn2 hn1 h3 h4 h
theorem count_is (lo nrem:Nat):countRun' lo nrem=(do
  let c<-riseL lo 1 nrem
  match c.1 with
  |some r=>pure r
  |none=>
   if (c.2 == nrem)=true then pure (some c.2)
   else if c.2 > 1 then do
    let x<-ltAt' lo (lo+c.2 - 1)
    match x with
    |some rose=>if rose=true then pure (some c.2) else do
      reverseSlice' lo (lo+c.2)
      fallP lo c.2 nrem
    |_=>pure none
   else fallP lo c.2 nrem):=by
 rw [countRun'_eq]
 refine congrArg (λf=>riseL lo 1 nrem >>= f) (funext λc=>?_)
 obtain ⟨r,n⟩:=c
 cases r with
 |some r=>rfl
 |none=>
  dsimp only
  by_cases h1:(n == nrem)=true
  ·rw [if_pos h1,if_pos h1]
  ·rw [if_neg h1,if_neg h1]
   by_cases h2:n > 1
   ·rw [if_pos h2,if_pos h2]
    refine congrArg (λf=>ltAt' lo (lo+n - 1) >>= f) (funext λx=>?_)
    cases x with
    |none=>rfl
    |some rose=>
     dsimp only
     by_cases h3:rose=true
     ·rw [if_pos h3,if_pos h3]
     ·rw [if_neg h3,if_neg h3]
      refine congrArg (λf=>reverseSlice' lo (lo+n) >>= f) (funext λ_=>?_)
      unfold fallP
      refine congrArg (λf=>_ >>= f) (funext λ_=>?_)
      refine congrArg (λf=>fallL _ _ _ >>= f) (funext λc2=>?_)
      obtain ⟨r2,n2,q2⟩:=c2
      cases r2 with
      |some r2=>rfl
      |none=>
       dsimp only
       by_cases hq2:q2 > 0
       ·rw [if_pos hq2,if_pos hq2]
        refine congrArg (λf=>_ >>= f) (funext λ_=>?_)
        unfold tailL
        refine congrArg (λf=>_ >>= f) (funext λ_=>?_)
        refine congrArg (λf=>riseL _ _ _ >>= f) (funext λq3=>?_)
        obtain ⟨r3,n3⟩:=q3
        cases r3<;>rfl
       ·rw [if_neg hq2,if_neg hq2]
        unfold tailL
        refine congrArg (λf=>_ >>= f) (funext λ_=>?_)
        refine congrArg (λf=>riseL _ _ _ >>= f) (funext λq3=>?_)
        obtain ⟨r3,n3⟩:=q3
        cases r3<;>rfl
   ·rw [if_neg h2,if_neg h2]
    unfold fallP
    refine congrArg (λf=>_ >>= f) (funext λ_=>?_)
    refine congrArg (λf=>fallL _ _ _ >>= f) (funext λc2=>?_)
    obtain ⟨r2,n2,q2⟩:=c2
    cases r2 with
    |some r2=>rfl
    |none=>
     dsimp only
     by_cases hq2:q2 > 0
     ·rw [if_pos hq2,if_pos hq2]
      refine congrArg (λf=>_ >>= f) (funext λ_=>?_)
      unfold tailL
      refine congrArg (λf=>_ >>= f) (funext λ_=>?_)
      refine congrArg (λf=>riseL _ _ _ >>= f) (funext λq3=>?_)
      obtain ⟨r3,n3⟩:=q3
      cases r3<;>rfl
     ·rw [if_neg hq2,if_neg hq2]
      unfold tailL
      refine congrArg (λf=>_ >>= f) (funext λ_=>?_)
      refine congrArg (λf=>riseL _ _ _ >>= f) (funext λq3=>?_)
      obtain ⟨r3,n3⟩:=q3
      cases r3<;>rfl
theorem wp_countRun {st:SortSt}{lo nrem:Nat} (hk:kindOf st=oneType') (hI:IntKeys (arrOf st)) (hn:lo+nrem<=(arrOf st).size) (h1:1<=nrem)
  {Q:Option Nat->SortSt->Prop} (h:∀ (m:Nat) (ys:Array Keyed),1<=m->m<=nrem->OnlyIn lo (lo+nrem) (arrOf st) ys->Up ys lo (lo+m)->Q (some m) (setArr st ys)) :
  wpS (model prog w) A E s (countRun' lo nrem) Q st:=by
 rw [count_is]
 refine wpS_bind (wp_rise hk hI hn (Nat.le_refl 1) h1 Up.one λn n1 n2 hu hdn=>?_)
 dsimp only
 by_cases he:(n == nrem)=true
 ·rw [if_pos he]
  exact wpS_pure (h n (arrOf st) n1 n2 .refl hu)
 ·rw [if_neg he]
  have hlt:n<nrem:=by have:n≠nrem:=λz=>he (beq_iff_eq.mpr z);omega
  have hstep:=hdn hlt
  by_cases hn1:n > 1
  ·rw [if_pos hn1]
   refine wpS_bind (lt_keys hk hI (show lo<_ by omega) (show lo+n - 1<_ by omega) ?_)
   dsimp only
   by_cases hr:K (arrOf st) lo<K (arrOf st) (lo+n - 1)
   ·rw [if_pos (decide_eq_true hr)]
    exact wpS_pure (h n (arrOf st) n1 n2 .refl hu)
   ·rw [if_neg λz=>hr (of_decide_eq_true z)]
    refine wpS_bind (wpS_cut ?_)
    have hall:∀ k,lo<=k->k<lo+n->K (arrOf st) k=K (arrOf st) (lo+n - 1):=λk k1 k2=>by
     have a1:=hu lo k (Nat.le_refl _) k1 k2
     have a2:=hu k (lo+n - 1) k1 (by omega) (by omega)
     omega
    have hkk:=same_flip (xs:=arrOf st) (i:=lo) (j:=lo+n) (by omega) hall
    refine wp_fall hk hI hn n1 hlt ((mirror_in (by omega)).mono (Nat.le_refl _) (by omega)) (λi j i1 i2 i3=>?_) h
    rw [hkk,hkk]
    by_cases e1:j=lo+n
    ·by_cases e2:i=lo+n
     ·rw [e1,e2];exact Int.le_refl _
     ·rw [e1,hall i i1 (by omega)];omega
    ·rw [hall i i1 (by omega),hall j (by omega) (by omega)];exact Int.le_refl _
  ·rw [if_neg hn1]
   have hn:n=1:=by omega
   subst hn
   have:=wp_fall (ys:=arrOf st) (prog:=prog) (w:=w) (A:=A) (E:=E) (s:=s) hk hI (by omega) (Nat.le_refl 1) hlt .refl (Down.snoc (hi:=lo+1) (λi j i1 i2 i3=>by rw [show i=j by omega];exact Int.le_refl _) (by omega) (Int.le_of_lt hstep)) h
   exact this
end
end Tim
namespace Tim
open PySem PyProof.Rows
section
variable {prog:Program}{w:World}{A:Around}{E:Value->Shared->Prop}{s:Shared}
theorem wp_binary {st:SortSt}{lo n ok:Nat}{Q:Bool->SortSt->Prop} (hk:kindOf st=oneType') (hI:IntKeys (arrOf st)) (hn:lo+n<=(arrOf st).size) (hok:ok<=n) (hok1:1<=ok) (hu:Up (arrOf st) lo (lo+ok))
  (h:∀ ys:Array Keyed,OnlyIn lo (lo+n) (arrOf st) ys->Up ys lo (lo+n)->Q true (setArr st ys)):wpS (model prog w) A E s (binarySort' lo n ok) Q st:=by
 rw [binarySort'_eq,Nat.max_eq_left hok1]
 refine wpS_bind (wpS_mono (wpS_forRange (I:=λk c st'=>c=(none,())/\∃ ys,st'=setArr st ys/\OnlyIn lo (lo+n) (arrOf st) ys/\Up ys lo (lo+k)) (Q:=λc st'=>c=(none,())/\∃ ys,st'=setArr st ys/\OnlyIn lo (lo+n) (arrOf st) ys/\Up ys lo (lo+n)) ?step ?fin ⟨rfl,arrOf st,rfl,.refl,hu⟩) ?post)
 case post=>
  rintro c st' ⟨rfl,ys,rfl,h1,h2⟩
  exact wpS_pure (h ys h1 h2)
 case fin=>
  rintro c st' ⟨hc,ys,e,h1,h2⟩
  rw [Nat.max_eq_right hok] at h2
  exact ⟨hc,ys,e,h1,h2⟩
 case step=>
  rintro k c st' hk1 hk2 ⟨rfl,xs,rfl,h3,h4⟩
  have hsz:=h3.size
  have hI':IntKeys (arrOf (setArr st xs)):=h3.keys hI
  refine wpS_bind (wpS_mono (wpS_forRange (I:=λx c st''=>st''=setArr st xs/\∃ l r,c=(none,l,r)/\l<=r/\r<=k/\r-l<=k-x/\(∀ i,i<l->K xs (lo+i)<=K xs (lo+k))/\∀ i,r<=i->i<k->K xs (lo+k)<K xs (lo+i))
   (Q:=λc st''=>st''=setArr st xs/\∃ l r,c=(none,l,r)/\l<=k/\(∀ i,i<l->K xs (lo+i)<=K xs (lo+k))/\∀ i,l<=i->i<k->K xs (lo+k)<K xs (lo+i)) ?b1 ?b2 ⟨rfl,0,k,rfl,by omega,by omega,by omega,λi z=>by omega,λi z z'=>by omega⟩) ?b3)
  case b2=>
   rintro c st'' ⟨rfl,l,r,rfl,q1,q2,q3,q4,q5⟩
   obtain rfl:l=r:=by omega
   exact ⟨rfl,l,l,rfl,q2,q4,q5⟩
  case b1=>
   rintro x c st'' _ hx ⟨rfl,l,r,rfl,q1,q2,q3,q4,q5⟩
   dsimp only
   by_cases hge:l ≥ r
   ·rw [if_pos hge]
    obtain rfl:l=r:=by omega
    exact wpS_pure ⟨rfl,l,l,rfl,q2,q4,q5⟩
   ·rw [if_neg hge]
    refine wpS_bind (lt_keys hk hI' (show lo+k<(arrOf (setArr st xs)).size by show lo+k<xs.size;omega) (show lo+(l+r) / 2<(arrOf (setArr st xs)).size by show _<xs.size;omega) ?_)
    dsimp only
    by_cases hl:K xs (lo+k)<K xs (lo+(l+r) / 2)
    ·rw [if_pos (decide_eq_true hl)]
     refine wpS_pure ⟨rfl,l,(l+r) / 2,rfl,by omega,by omega,by omega,q4,λi z z'=>?_⟩
     have:=h4 (lo+(l+r) / 2) (lo+i) (by omega) (by omega) (by omega)
     omega
    ·rw [if_neg λz=>hl (of_decide_eq_true z)]
     refine wpS_pure ⟨rfl,(l+r) / 2+1,r,rfl,by omega,by omega,by omega,λi z=>?_,q5⟩
     have:=h4 (lo+i) (lo+(l+r) / 2) (by omega) (by omega) (by omega)
     omega
  case b3=>
   rintro c st'' ⟨rfl,l,r,rfl,q1,q4,q5⟩
   show wpS _ _ _ _ (do moveDown' (lo+k) (lo+l);pure (ForInStep.yield (none,()))) _ _
   rw [moveDown'_eq]
   have hb:OnlyIn lo (lo+n) xs (bubble xs (lo+k) (lo+k-(lo+l))):=(bubble_in (by omega) (by omega)).mono (by omega) (by omega)
   refine wpS_bind (wpS_modify (wpS_pure ⟨rfl,_,rfl,h3.trans hb,λi j i1 i2 i3=>?_⟩))
   have hkb:=λkk=>K_bubble (xs:=xs) (src:=lo+k) (d:=lo+k-(lo+l)) (by omega) (by omega) kk
   show K (bubble xs (lo+k) (lo+k-(lo+l))) i<=K (bubble xs (lo+k) (lo+k-(lo+l))) j
   rw [hkb,hkb,show lo+k-(lo+k-(lo+l))=lo+l by omega]
   have lowL:∀ i,lo<=i->i<lo+l->K xs i<=K xs (lo+k):=λi z z'=>by
    have:=q4 (i-lo) (by omega)
    rw [show lo+(i-lo)=i by omega] at this
    exact this
   have highL:∀ i,lo+l<=i->i<lo+k->K xs (lo+k)<K xs i:=λi z z'=>by
    have:=q5 (i-lo) (by omega) (by omega)
    rw [show lo+(i-lo)=i by omega] at this
    exact this
   by_cases a1:i=lo+l
   ·rw [if_pos a1]
    by_cases a2:j=lo+l
    ·rw [if_pos a2];exact Int.le_refl _
    ·rw [if_neg a2,if_pos (by omega)]
     exact Int.le_of_lt (highL _ (by omega) (by omega))
   ·rw [if_neg a1]
    by_cases b1:lo+l<i/\i<=lo+k
    ·rw [if_pos b1,if_neg (by omega),if_pos (by omega)]
     exact h4 _ _ (by omega) (by omega) (by omega)
    ·rw [if_neg b1]
     by_cases a2:j=lo+l
     ·rw [if_pos a2];exact lowL i i1 (by omega)
     ·rw [if_neg a2]
      by_cases b2:lo+l<j/\j<=lo+k
      ·rw [if_pos b2];exact h4 _ _ i1 (by omega) (by omega)
      ·rw [if_neg b2];exact h4 _ _ i1 i2 (by omega)
end
def gallop':Bool->Keyed->Array Keyed->Nat->Nat->Nat->StateT SortSt Sem (Option Nat):=sortPriv% PySem.Builtin.gallop
theorem gallop'_eq (lf:Bool) (kk:Keyed) (xs:Array Keyed) (bs n ht:Nat):gallop' lf kk xs bs n ht=(do
 let bey (i:Nat):StateT SortSt Sem (Option Bool):=do
  let x<-elem' xs (bs+i)
  if lf then lt' x kk else return (<-lt' kk x).map (!·)
 let mut la:=0
 let mut o:=1
 let mut l:=0
 let mut h:=0
 let some rt<-bey ht|return none
 if rt then
  let mo:=n-ht
  for _ in [0:n] do
   if o ≥ mo then break
   let some mr<-bey (ht+o)|return none
   if !mr then break
   la:=o
   o:=2 * o+1
  l:=ht+la+1
  h:=ht+min o mo
 else
  let mo:=ht+1
  for _ in [0:n] do
   if o ≥ mo then break
   let some fd<-bey (ht-o)|return none
   if fd then break
   la:=o
   o:=2 * o+1
  l:=ht+1-min o mo
  h:=ht-la
 for _ in [0:n] do
  if l ≥ h then break
  let m:=l+(h-l) / 2
  let some mr<-bey m|return none
  if mr then l:=m+1 else h:=m
 return some h):=rfl
def searchL (left:Bool) (key:Keyed) (arr:Array Keyed) (base n lo hi:Nat):StateT SortSt Sem C3:=
 forIn [:n] ((none,lo,hi):C3) λ_ c=>
  if c.2.1 ≥ c.2.2 then pure (ForInStep.done (none,c.2.1,c.2.2))
  else do
   let x<-(do
    let x<-elem' arr (base+(c.2.1+(c.2.2-c.2.1) / 2))
    if left=true then lt' x key else do
     let y<-lt' key x
     pure (Option.map (λb=>!b) y))
   match x with
   |some more=>if more=true then pure (ForInStep.yield (none,c.2.1+(c.2.2-c.2.1) / 2+1,c.2.2)) else pure (ForInStep.yield (none,c.2.1,c.2.1+(c.2.2-c.2.1) / 2))
   |_=>pure (ForInStep.done (some none,c.2.1,c.2.2))
section
variable {prog:Program}{w:World}{A:Around}{E:Value->Shared->Prop}{s:Shared}
theorem wp_lt {st:SortSt}{x y:Keyed}{a b:Int}{t u:Tok}{Q:Option Bool->SortSt->Prop} (hk:kindOf st=oneType') (hx:x.1=.int a t) (hy:y.1=.int b u) (h:Q (some (decide (a<b))) st):wpS (model prog w) A E s (lt' x y) Q st:=by
 rw [lt'_eq]
 refine wpS_bind (wpS_get ?_)
 rw [hk,keyLt'_oneType,hx,hy]
 refine wpS_bind (wpS_lift (wpAny_attempt (oneLt_int ⟨rfl,?_⟩)))
 exact wpS_pure h
theorem wp_elem {st:SortSt}{arr:Array Keyed}{i:Nat}{p:Keyed}{Q:Keyed->SortSt->Prop} (hi:arr[i]?=some p) (h:Q p st):wpS (model prog w) A E s (elem' arr i) Q st:=by
 rw [elem'_eq,hi]
 exact wpS_pure h
def Bey (left:Bool) (kv:Int) (xs:Array Keyed) (i:Nat):Bool:=if left=true then decide (K xs i<kv) else !decide (kv<K xs i)
theorem Bey.down {left:Bool}{kv:Int}{xs:Array Keyed}{lo hi i j:Nat} (hu:Up xs lo hi) (h1:lo<=i) (h2:i<=j) (h3:j<hi) (hb:Bey left kv xs j=true):Bey left kv xs i=true:=by
 have:=hu i j h1 h2 h3
 unfold Bey at *
 cases left
 ·simp at *;omega
 ·simp at *;omega
theorem wp_beyond {st:SortSt}{left:Bool}{key:Keyed}{kv:Int}{kt:Tok}{arr:Array Keyed}{i:Nat}{Q:Option Bool->SortSt->Prop} (hk:kindOf st=oneType') (hI:IntKeys arr) (hkey:key.1=.int kv kt) (hi:i<arr.size) (h:Q (some (Bey left kv arr i)) st) :
  wpS (model prog w) A E s (do
   let x<-elem' arr i
   if left=true then lt' x key else do
    let y<-lt' key x
    pure (Option.map (λb=>!b) y)) Q st:=by
 obtain ⟨t,q,e⟩:=key_at hI hi
 refine wpS_bind (wp_elem e ?_)
 unfold Bey at h
 cases left with
 |true=>exact wp_lt hk rfl hkey h
 |false=>exact wpS_bind (wp_lt hk hkey rfl (wpS_pure h))
theorem wp_search {st:SortSt}{left:Bool}{key:Keyed}{kv:Int}{kt:Tok}{arr:Array Keyed}{base n lo hi:Nat}{Q:C3->SortSt->Prop} (hk:kindOf st=oneType') (hI:IntKeys arr) (hkey:key.1=.int kv kt) (hn:base+n<=arr.size) (hu:Up arr base (base+n))
  (h1:lo<=hi) (h2:hi<=n) (h3:∀ i,i<lo->Bey left kv arr (base+i)=true) (h4:∀ i,hi<=i->i<n->Bey left kv arr (base+i)=false)
  (h:∀ m,m<=n->(∀ i,i<m->Bey left kv arr (base+i)=true)->(∀ i,m<=i->i<n->Bey left kv arr (base+i)=false)->Q (none,m,m) st):wpS (model prog w) A E s (searchL left key arr base n lo hi) Q st:=by
 unfold searchL
 refine wpS_mono (wpS_forRange (I:=λx c st'=>st'=st/\∃ lo hi,c=(none,lo,hi)/\lo<=hi/\hi<=n/\hi-lo<=n-x/\(∀ i,i<lo->Bey left kv arr (base+i)=true)/\∀ i,hi<=i->i<n->Bey left kv arr (base+i)=false)
  (Q:=λc st'=>st'=st/\∃ m,c=(none,m,m)/\m<=n/\(∀ i,i<m->Bey left kv arr (base+i)=true)/\∀ i,m<=i->i<n->Bey left kv arr (base+i)=false) ?step ?fin ⟨rfl,lo,hi,rfl,h1,h2,by omega,h3,h4⟩) ?post
 case post=>
  rintro c st' ⟨rfl,m,rfl,m1,m2,m3⟩
  exact h m m1 m2 m3
 case fin=>
  rintro c st' ⟨rfl,lo,hi,rfl,q1,q2,q3,q4,q5⟩
  obtain rfl:lo=hi:=by omega
  exact ⟨rfl,lo,rfl,q2,q4,q5⟩
 case step=>
  rintro x c st' _ hx ⟨rfl,lo,hi,rfl,q1,q2,q3,q4,q5⟩
  dsimp only
  by_cases hge:lo ≥ hi
  ·rw [if_pos hge]
   obtain rfl:lo=hi:=by omega
   exact wpS_pure ⟨rfl,lo,rfl,q2,q4,q5⟩
  ·rw [if_neg hge]
   refine wpS_bind (wp_beyond hk hI hkey (by omega) ?_)
   dsimp only
   by_cases hb:Bey left kv arr (base+(lo+(hi-lo) / 2))=true
   ·rw [if_pos hb]
    refine wpS_pure ⟨rfl,_,hi,rfl,by omega,q2,by omega,λi z=>?_,q5⟩
    exact Bey.down hu (by omega) (by omega) (by omega) hb
   ·rw [if_neg hb]
    refine wpS_pure ⟨rfl,lo,_,rfl,by omega,by omega,by omega,q4,λi z z'=>?_⟩
    cases e:Bey left kv arr (base+i) with
    |false=>rfl
    |true=>exact absurd (Bey.down hu (by omega) (by omega) (by omega) e) hb
theorem wp_gallop {st:SortSt}{left:Bool}{key:Keyed}{kv:Int}{kt:Tok}{arr:Array Keyed}{base n hint:Nat}{Q:Option Nat->SortSt->Prop} (hk:kindOf st=oneType') (hI:IntKeys arr) (hkey:key.1=.int kv kt) (hn:base+n<=arr.size) (hh:hint<n) (hu:Up arr base (base+n))
  (h:∀ m,m<=n->(∀ i,i<m->Bey left kv arr (base+i)=true)->(∀ i,m<=i->i<n->Bey left kv arr (base+i)=false)->Q (some m) st):wpS (model prog w) A E s (gallop' left key arr base n hint) Q st:=by
 have up:∀ {j},j<n->Bey left kv arr (base+j)=true->∀ i,i<=j->Bey left kv arr (base+i)=true:=λ{j} hj hb i hi=>Bey.down hu (by omega) (by omega) (by omega) hb
 have dn:∀ {j},j<n->Bey left kv arr (base+j)=false->∀ i,j<=i->i<n->Bey left kv arr (base+i)=false:=λ{j} hj hb i hi hin=>by
  cases e:Bey left kv arr (base+i) with
  |false=>rfl
  |true=>rw [Bey.down hu (by omega) (by omega) (by omega) e] at hb;cases hb
 rw [gallop'_eq]
 dsimp only
 refine wpS_bind (wp_beyond hk hI hkey (by omega) ?_)
 dsimp only
 by_cases hb:Bey left kv arr (base+hint)=true
 ·rw [if_pos hb]
  refine wpS_bind (wpS_mono (wpS_forRange (I:=λx c st'=>st'=st/\∃ la o,c=(none,la,o)/\la<o/\x+1<=o/\hint+la<n/\Bey left kv arr (base+(hint+la))=true)
   (Q:=λc st'=>st'=st/\∃ la o,c=(none,la,o)/\la<o/\hint+la<n/\Bey left kv arr (base+(hint+la))=true/\(n<=hint+o∨(hint+o<n/\Bey left kv arr (base+(hint+o))=false))) ?s1 ?f1 ⟨rfl,0,1,rfl,by omega,by omega,by omega,hb⟩) ?p1)
  case f1=>
   rintro c st' ⟨rfl,la,o,rfl,q1,q2,q3,q4⟩
   exact ⟨rfl,la,o,rfl,q1,q3,q4,.inl (by omega)⟩
  case s1=>
   rintro x c st' _ hx ⟨rfl,la,o,rfl,q1,q2,q3,q4⟩
   dsimp only
   by_cases hge:o ≥ n-hint
   ·rw [if_pos hge]
    exact wpS_pure ⟨rfl,la,o,rfl,q1,q3,q4,.inl (by omega)⟩
   ·rw [if_neg hge]
    refine wpS_bind (wp_beyond hk hI hkey (by omega) ?_)
    dsimp only
    cases e:Bey left kv arr (base+(hint+o)) with
    |false=>exact wpS_pure ⟨rfl,la,o,rfl,q1,q3,q4,.inr ⟨by omega,e⟩⟩
    |true=>exact wpS_pure ⟨rfl,o,2 * o+1,rfl,by omega,by omega,by omega,e⟩
  case p1=>
   rintro c st' ⟨rfl,la,o,rfl,q1,q3,q4,q5⟩
   dsimp only
   refine wpS_bind (wp_search (lo:=hint+la+1) (hi:=hint+min o (n-hint)) hk hI hkey hn hu (by omega) (by omega) (λi z=>up q3 q4 i (by omega)) (λi z z'=>?_) λm m1 m2 m3=>wpS_pure (h m m1 m2 m3))
   rcases q5 with q5|⟨q5,q6⟩
   ·omega
   ·exact dn q5 q6 i (by omega) z'
 ·rw [if_neg hb]
  have hb':Bey left kv arr (base+hint)=false:=Bool.eq_false_iff.mpr hb
  refine wpS_bind (wpS_mono (wpS_forRange (I:=λx c st'=>st'=st/\∃ la o,c=(none,la,o)/\la<o/\x+1<=o/\la<=hint/\Bey left kv arr (base+(hint-la))=false)
   (Q:=λc st'=>st'=st/\∃ la o,c=(none,la,o)/\la<o/\la<=hint/\Bey left kv arr (base+(hint-la))=false/\(hint+1<=o∨(o<=hint/\Bey left kv arr (base+(hint-o))=true))) ?s2 ?f2 ⟨rfl,0,1,rfl,by omega,by omega,by omega,hb'⟩) ?p2)
  case f2=>
   rintro c st' ⟨rfl,la,o,rfl,q1,q2,q3,q4⟩
   exact ⟨rfl,la,o,rfl,q1,q3,q4,.inl (by omega)⟩
  case s2=>
   rintro x c st' _ hx ⟨rfl,la,o,rfl,q1,q2,q3,q4⟩
   dsimp only
   by_cases hge:o ≥ hint+1
   ·rw [if_pos hge]
    exact wpS_pure ⟨rfl,la,o,rfl,q1,q3,q4,.inl (by omega)⟩
   ·rw [if_neg hge]
    refine wpS_bind (wp_beyond hk hI hkey (by omega) ?_)
    dsimp only
    cases e:Bey left kv arr (base+(hint-o)) with
    |true=>exact wpS_pure ⟨rfl,la,o,rfl,q1,q3,q4,.inr ⟨by omega,e⟩⟩
    |false=>exact wpS_pure ⟨rfl,o,2 * o+1,rfl,by omega,by omega,by omega,e⟩
  case p2=>
   rintro c st' ⟨rfl,la,o,rfl,q1,q3,q4,q5⟩
   dsimp only
   refine wpS_bind (wp_search (lo:=hint+1-min o (hint+1)) (hi:=hint-la) hk hI hkey hn hu (by omega) (by omega) (λi z=>?_) (λi z z'=>dn (show hint-la<n by omega) q4 i (by omega) z') λm m1 m2 m3=>wpS_pure (h m m1 m2 m3))
   rcases q5 with q5|⟨q5,q6⟩
   ·omega
   ·exact up (show hint-o<n by omega) q6 i (by omega)
end
end Tim
namespace Tim
open PySem PyProof.Rows
abbrev setGal (st:SortSt) (g:Nat):SortSt:=SortSt.mk' (kindOf st) (arrOf st) (pendingOf st) g (failedOf st)
def setMinG:Nat->StateT SortSt Sem Unit:=sortPriv% PySem.Builtin.setMinGallop
theorem setMinG_eq (g:Nat):setMinG g=modify λs=>setGal s g:=rfl
def mergeLo':Array Keyed->Array Keyed->StateT SortSt Sem (Array Keyed):=sortPriv% PySem.Builtin.mergeLo
theorem mergeLo'_eq (a b:Array Keyed):mergeLo' a b=(do
 rule "list.sort.merge-lo"
 let tt:=a.size+b.size
 let dn (o:Array Keyed) (i j:Nat):=o++a.extract i a.size++b.extract j b.size
 let la (o:Array Keyed) (i j:Nat):=o++b.extract j b.size++a.extract i a.size
 let mut o:Array Keyed:=#[<-elem' b 0]
 let mut i:=0
 let mut j:=1
 if j == b.size then return dn o i j
 if i+1 == a.size then return la o i j
 let mut g:=gallopOf (<-get)
 for _ in [0:tt] do
  let mut ac:=0
  let mut bc:=0
  for _ in [0:tt] do
   let some bw<-lt' (<-elem' b j) (<-elem' a i)|return dn o i j
   if bw then
    o:=o.push (<-elem' b j);j:=j+1;bc:=bc+1;ac:=0
    if j == b.size then return dn o i j
    if bc ≥ g then break
   else
    o:=o.push (<-elem' a i);i:=i+1;ac:=ac+1;bc:=0
    if i+1 == a.size then return la o i j
    if ac ≥ g then break
  rule "list.sort.gallop"
  g:=g+1
  for _ in [0:tt] do
   if g > 1 then g:=g - 1
   setMinG g
   let some k<-gallop' false (<-elem' b j) a i (a.size-i) 0|return dn o i j
   ac:=k
   if k > 0 then
    o:=o++a.extract i (i+k);i:=i+k
    if i+1 == a.size then return la o i j
    if i == a.size then return dn o i j
   o:=o.push (<-elem' b j);j:=j+1
   if j == b.size then return dn o i j
   let some k<-gallop' true (<-elem' a i) b j (b.size-j) 0|return dn o i j
   bc:=k
   if k > 0 then
    o:=o++b.extract j (j+k);j:=j+k
    if j == b.size then return dn o i j
   o:=o.push (<-elem' a i);i:=i+1
   if i+1 == a.size then return la o i j
   if ac<7 && bc<7 then break
  g:=g+1
  setMinG g
 unsupported "internal:list.sort.merge-bound"):=rfl
abbrev LS1:=Option (Array Keyed)×Array Keyed×Nat×Nat×Nat×Nat
abbrev LS:=Option (Array Keyed)×Array Keyed×Nat×Nat×Nat×Nat×Nat
abbrev LS0:=Option (Array Keyed)×Array Keyed×Nat×Nat×Nat
def dnL (a b o:Array Keyed) (i j:Nat):Array Keyed:=o++a.extract i a.size++b.extract j b.size
def laL (a b o:Array Keyed) (i j:Nat):Array Keyed:=o++b.extract j b.size++a.extract i a.size
def loOne (a b:Array Keyed) (g:Nat) (c:LS1):StateT SortSt Sem (ForInStep LS1):=do
 let y<-elem' b c.2.2.2.1
 let x<-elem' a c.2.2.1
 let z<-lt' y x
 match z with
 |some bw=>
  if bw=true then do
   let y<-elem' b c.2.2.2.1
   if (c.2.2.2.1+1 == b.size)=true then pure (.done (some (dnL a b (c.2.1.push y) c.2.2.1 (c.2.2.2.1+1)),c.2.1.push y,c.2.2.1,c.2.2.2.1+1,0,c.2.2.2.2.2+1))
   else if c.2.2.2.2.2+1 ≥ g then pure (.done (none,c.2.1.push y,c.2.2.1,c.2.2.2.1+1,0,c.2.2.2.2.2+1))
   else pure (.yield (none,c.2.1.push y,c.2.2.1,c.2.2.2.1+1,0,c.2.2.2.2.2+1))
  else do
   let x<-elem' a c.2.2.1
   if (c.2.2.1+1+1 == a.size)=true then pure (.done (some (laL a b (c.2.1.push x) (c.2.2.1+1) c.2.2.2.1),c.2.1.push x,c.2.2.1+1,c.2.2.2.1,c.2.2.2.2.1+1,0))
   else if c.2.2.2.2.1+1 ≥ g then pure (.done (none,c.2.1.push x,c.2.2.1+1,c.2.2.2.1,c.2.2.2.2.1+1,0))
   else pure (.yield (none,c.2.1.push x,c.2.2.1+1,c.2.2.2.1,c.2.2.2.2.1+1,0))
 |_=>pure (.done (some (dnL a b c.2.1 c.2.2.1 c.2.2.2.1),c.2.1,c.2.2.1,c.2.2.2.1,c.2.2.2.2.1,c.2.2.2.2.2))
def loTail (a b o:Array Keyed) (i j g ac bc:Nat):StateT SortSt Sem (ForInStep LS):=do
 let x<-elem' a i
 if (i+1+1 == a.size)=true then pure (.done (some (laL a b (o.push x) (i+1) j),o.push x,i+1,j,g,ac,bc))
 else if (decide (ac<7) && decide (bc<7))=true then pure (.done (none,o.push x,i+1,j,g,ac,bc))
 else pure (.yield (none,o.push x,i+1,j,g,ac,bc))
def loB (a b o:Array Keyed) (i j g ac bc:Nat):StateT SortSt Sem (ForInStep LS):=do
 let y<-elem' b j
 if (j+1 == b.size)=true then pure (.done (some (dnL a b (o.push y) i (j+1)),o.push y,i,j+1,g,ac,bc))
 else do
  let x<-elem' a i
  let z<-gallop' true x b (j+1) (b.size-(j+1)) 0
  match z with
  |some k=>
   if k > 0 then
    if (j+1+k == b.size)=true then pure (.done (some (dnL a b (o.push y++b.extract (j+1) (j+1+k)) i (j+1+k)),o.push y++b.extract (j+1) (j+1+k),i,j+1+k,g,ac,k))
    else loTail a b (o.push y++b.extract (j+1) (j+1+k)) i (j+1+k) g ac k
   else loTail a b (o.push y) i (j+1) g ac k
  |_=>pure (.done (some (dnL a b (o.push y) i (j+1)),o.push y,i,j+1,g,ac,bc))
def loA (a b o:Array Keyed) (i j g ac bc:Nat):StateT SortSt Sem (ForInStep LS):=do
 setMinG g
 let y<-elem' b j
 let z<-gallop' false y a i (a.size-i) 0
 match z with
 |some k=>
  if k > 0 then
   if (i+k+1 == a.size)=true then pure (.done (some (laL a b (o++a.extract i (i+k)) (i+k) j),o++a.extract i (i+k),i+k,j,g,k,bc))
   else if (i+k == a.size)=true then pure (.done (some (dnL a b (o++a.extract i (i+k)) (i+k) j),o++a.extract i (i+k),i+k,j,g,k,bc))
   else loB a b (o++a.extract i (i+k)) (i+k) j g k bc
  else loB a b o i j g k bc
 |_=>pure (.done (some (dnL a b o i j),o,i,j,g,ac,bc))
def loTwo (a b:Array Keyed) (c:LS):StateT SortSt Sem (ForInStep LS):=
 if c.2.2.2.2.1 > 1 then loA a b c.2.1 c.2.2.1 c.2.2.2.1 (c.2.2.2.2.1 - 1) c.2.2.2.2.2.1 c.2.2.2.2.2.2 else loA a b c.2.1 c.2.2.1 c.2.2.2.1 c.2.2.2.2.1 c.2.2.2.2.2.1 c.2.2.2.2.2.2
def loStep (a b:Array Keyed) (c:LS0):StateT SortSt Sem (ForInStep LS0):=do
 let d<-forIn [:a.size+b.size] ((none,c.2.1,c.2.2.1,c.2.2.2.1,0,0):LS1) λ_ e=>loOne a b c.2.2.2.2 e
 match d.1 with
 |some r=>pure (.done (some r,d.2.1,d.2.2.1,d.2.2.2.1,c.2.2.2.2))
 |none=>do
  liftM (rule "list.sort.gallop")
  let e<-forIn [:a.size+b.size] ((none,d.2.1,d.2.2.1,d.2.2.2.1,c.2.2.2.2+1,d.2.2.2.2.1,d.2.2.2.2.2):LS) λ_ e=>loTwo a b e
  match e.1 with
  |some r=>pure (.done (some r,e.2.1,e.2.2.1,e.2.2.2.1,e.2.2.2.2.1))
  |none=>do
   setMinG (e.2.2.2.2.1+1)
   pure (.yield (none,e.2.1,e.2.2.1,e.2.2.2.1,e.2.2.2.2.1+1))
theorem bind2 {m:Type->Type} [Monad m] {α β:Type}{x x':m α}{f f':α->m β} (h:x=x') (h2:∀ a,f a=f' a):(x >>= f)=(x' >>= f'):=by
 rw [h,funext h2]
theorem iteC {α:Type}{c:Prop} [Decidable c] {a a' b b':α} (h1:a=a') (h2:b=b'):(if c then a else b)=(if c then a' else b'):=by rw [h1,h2]
theorem forC {β:Type}{n:Nat}{i:β}{F F':Nat->β->StateT SortSt Sem (ForInStep β)} (h:∀ x c,F x c=F' x c):(forIn [:n] i F:StateT SortSt Sem β)=forIn [:n] i F':=by
 rw [funext λx=>funext (h x)]
theorem mergeLo_is (a b:Array Keyed):mergeLo' a b=(do
  liftM (rule "list.sort.merge-lo")
  let y<-elem' b 0
  if (1 == b.size)=true then pure (dnL a b #[y] 0 1)
  else if (0+1 == a.size)=true then pure (laL a b #[y] 0 1)
  else do
   let s<-get
   let c<-forIn [:a.size+b.size] ((none,#[y],0,1,gallopOf s):LS0) λ_ c=>loStep a b c
   match c.1 with
   |some r=>pure r
   |none=>liftM (unsupported "internal:list.sort.merge-bound")):=by
 rw [mergeLo'_eq]
 refine bind2 rfl λ_=>?_
 refine bind2 rfl λy=>?_
 refine iteC rfl ?_
 refine iteC rfl ?_
 refine bind2 rfl λs=>?_
 refine bind2 (forC λ_ c=>?_) λc=>?_
 ·refine bind2 (forC λ_ e=>?_) λd=>?_
  ·refine bind2 rfl λy=>bind2 rfl λx=>bind2 rfl λz=>?_
   cases z with
   |none=>rfl
   |some bw=>exact iteC (bind2 rfl λy=>iteC rfl (iteC rfl rfl)) (bind2 rfl λx=>iteC rfl (iteC rfl rfl))
  ·obtain ⟨r,d⟩:=d
   cases r with
   |some r=>rfl
   |none=>
    refine bind2 rfl λ_=>bind2 (forC λ_ e=>?_) λe=>?_
    ·refine iteC ?_ ?_
     all_goals
      refine bind2 rfl λ_=>bind2 rfl λy=>bind2 rfl λz=>?_
      cases z with
      |none=>rfl
      |some k=>
       refine iteC (iteC rfl (iteC rfl ?_)) ?_
       all_goals
        refine bind2 rfl λy=>iteC rfl (bind2 rfl λx=>bind2 rfl λz=>?_)
        cases z with
        |none=>rfl
        |some k=>exact iteC (iteC rfl (bind2 rfl λx=>iteC rfl (iteC rfl rfl))) (bind2 rfl λx=>iteC rfl (iteC rfl rfl))
    ·obtain ⟨r,e⟩:=e
     cases r<;>rfl
 ·obtain ⟨r,c⟩:=c
  cases r<;>rfl
def kv (p:Keyed):Int:=numOf p.1
def SL (l:List Keyed):Prop:=l.Pairwise λp q=>kv p<=kv q
theorem K_kv {xs:Array Keyed}{i:Nat}{p:Keyed} (h:xs.toList[i]?=some p):K xs i=kv p:=by
 unfold K kv
 rw [<-Array.getElem?_toList,h]
theorem SL.up {xs:Array Keyed}{n:Nat} (h:SL xs.toList) (hn:n<=xs.size):Up xs 0 n:=λi j h1 h2 h3=>by
 by_cases e:i=j
 ·rw [e];exact Int.le_refl _
 ·have hj:j<xs.toList.length:=by rw [Array.length_toList];omega
  rw [K_kv (List.getElem?_eq_getElem (show i<xs.toList.length by omega)),K_kv (List.getElem?_eq_getElem hj)]
  exact List.pairwise_iff_getElem.mp h i j (by omega) hj (by omega)
structure J (T O X Y:List Keyed):Prop where
 perm:(O++X++Y).Perm T
 so:SL O
 sx:SL X
 sy:SL Y
 ox:∀ p∈O,∀ q∈X,kv p<=kv q
 oy:∀ p∈O,∀ q∈Y,kv p<=kv q
def Good (T:List Keyed) (r:Array Keyed):Prop:=SL r.toList/\r.toList.Perm T
theorem J.takeX {T O X Y Z:List Keyed} (h:J T O (Z++X) Y) (hz:∀ p∈Z,∀ q∈Y,kv p<=kv q):J T (O++Z) X Y:=by
 have h2:=List.pairwise_append.mp h.sx
 refine ⟨by rw [List.append_assoc O Z X];exact h.perm,List.pairwise_append.mpr ⟨h.so,h2.1,λp hp q hq=>h.ox p hp q (List.mem_append_left _ hq)⟩,h2.2.1,h.sy,λp hp q hq=>?_,λp hp q hq=>?_⟩
 ·rcases List.mem_append.mp hp with z|z
  ·exact h.ox p z q (List.mem_append_right _ hq)
  ·exact h2.2.2 p z q hq
 ·rcases List.mem_append.mp hp with z|z
  ·exact h.oy p z q hq
  ·exact hz p z q hq
theorem J.swap {T O X Y:List Keyed} (h:J T O X Y):J T O Y X:=⟨(by
 rw [List.append_assoc]
 refine List.Perm.trans ?_ h.perm
 rw [List.append_assoc]
 exact List.Perm.append_left O List.perm_append_comm),h.so,h.sy,h.sx,h.oy,h.ox⟩
theorem J.takeY {T O X Y Z:List Keyed} (h:J T O X (Z++Y)) (hz:∀ p∈Z,∀ q∈X,kv p<=kv q):J T (O++Z) X Y:=(h.swap.takeX hz).swap
theorem J.endX {T O X:List Keyed} (h:J T O X []):SL (O++X)/\(O++X).Perm T:=⟨List.pairwise_append.mpr ⟨h.so,h.sx,h.ox⟩,by have:=h.perm;rwa [List.append_nil] at this⟩
theorem J.endXY {T O X Y:List Keyed} (h:J T O X Y) (hxy:∀ p∈X,∀ q∈Y,kv p<=kv q):SL (O++X++Y):=by
 refine List.pairwise_append.mpr ⟨List.pairwise_append.mpr ⟨h.so,h.sx,h.ox⟩,h.sy,λp hp q hq=>?_⟩
 rcases List.mem_append.mp hp with z|z
 ·exact h.oy p z q hq
 ·exact hxy p z q hq
section
variable {a b o:Array Keyed}{T:List Keyed}{i j:Nat}
theorem ext_drop (x:Array Keyed) (i:Nat):(x.extract i x.size).toList=x.toList.drop i:=by
 rw [Array.toList_extract,List.extract_eq_take_drop]
 refine List.take_of_length_le ?_
 rw [List.length_drop,Array.length_toList]
 exact Nat.le_refl _
theorem ext_take (x:Array Keyed) (i k:Nat):(x.extract i (i+k)).toList=(x.toList.drop i).take k:=by
 rw [Array.toList_extract,List.extract_eq_take_drop,Nat.add_sub_cancel_left]
theorem good_dnB (h:J T o.toList (a.toList.drop i) (b.toList.drop j)) (hj:j=b.size):Good T (dnL a b o i j):=by
 unfold dnL
 have e:b.toList.drop j=[]:=by rw [hj,<-Array.length_toList,List.drop_length]
 rw [e] at h
 obtain ⟨h1,h2⟩:=h.endX
 have e2:(o++a.extract i a.size++b.extract j b.size).toList=o.toList++a.toList.drop i:=by
  rw [Array.toList_append,Array.toList_append,ext_drop,ext_drop,e,List.append_nil]
 unfold Good
 rw [e2]
 exact ⟨h1,h2⟩
theorem good_dnA (h:J T o.toList (a.toList.drop i) (b.toList.drop j)) (hi:i=a.size):Good T (dnL a b o i j):=by
 unfold dnL
 have e:a.toList.drop i=[]:=by rw [hi,<-Array.length_toList,List.drop_length]
 rw [e] at h
 obtain ⟨h1,h2⟩:=h.swap.endX
 have e2:(o++a.extract i a.size++b.extract j b.size).toList=o.toList++b.toList.drop j:=by
  rw [Array.toList_append,Array.toList_append,ext_drop,ext_drop,e,List.append_nil]
 unfold Good
 rw [e2]
 exact ⟨h1,h2⟩
theorem drop_cons {x:Array Keyed}{i:Nat} (hi:i<x.size):x.toList.drop i=x[i]::x.toList.drop (i+1):=by
 rw [List.drop_eq_getElem_cons (by rw [Array.length_toList];exact hi)]
 rfl
theorem good_la (h:J T o.toList (a.toList.drop i) (b.toList.drop j)) (hi:i+1=a.size) (hl:∀ q∈b.toList,kv q<=kv (a[i]'(by omega))):Good T (laL a b o i j):=by
 unfold laL
 have e:a.toList.drop i=[a[i]'(by omega)]:=by
  have e3:a.toList.drop (i+1)=[]:=List.drop_eq_nil_of_le (by rw [Array.length_toList];omega)
  rw [drop_cons (by omega),e3]
 have e2:(o++b.extract j b.size++a.extract i a.size).toList=o.toList++b.toList.drop j++a.toList.drop i:=by
  rw [Array.toList_append,Array.toList_append,ext_drop,ext_drop]
 unfold Good
 rw [e2]
 refine ⟨h.swap.endXY λp hp q hq=>?_,h.swap.perm⟩
 rw [e] at hq
 rw [List.mem_singleton.mp hq]
 exact hl p (List.mem_of_mem_drop hp)
end
structure MS (a b:Array Keyed):Prop where
 ia:IntKeys a
 ib:IntKeys b
 sa:SL a.toList
 sb:SL b.toList
 last:∀ (i:Nat) (hi:i+1=a.size),∀ q∈b.toList,kv q<=kv (a[i]'(by omega))
theorem key_of {x:Array Keyed} (hI:IntKeys x) {i:Nat} (hi:i<x.size):∃ t,(x[i]'hi).1=.int (kv (x[i]'hi)) t:=by
 obtain ⟨n,t,e⟩:=hI (x[i]'hi) (by simp)
 refine ⟨t,?_⟩
 unfold kv
 rw [e];rfl
theorem first_le {x:Array Keyed} (h:SL x.toList) {i:Nat} (hi:i<x.size):∀ q∈x.toList.drop i,kv (x[i]'hi)<=kv q:=λq hq=>by
 have h2:SL (x.toList.drop i):=List.Pairwise.sublist (List.drop_sublist ..) h
 rw [drop_cons hi] at h2 hq
 rcases List.mem_cons.mp hq with e|e
 ·rw [e];exact Int.le_refl _
 ·exact (List.pairwise_cons.mp h2).1 q e
section
variable {a b o:Array Keyed}{T:List Keyed}{i j:Nat}
theorem oneB (hj:j<b.size) (hJ:J T o.toList (a.toList.drop i) (b.toList.drop j)) (hq:∀ q∈a.toList.drop i,kv (b[j]'hj)<=kv q):J T (o.push (b[j]'hj)).toList (a.toList.drop i) (b.toList.drop (j+1)):=by
 rw [drop_cons hj] at hJ
 have:=hJ.takeY (Z:=[b[j]'hj]) λp hp q hq'=>by rw [List.mem_singleton.mp hp];exact hq q hq'
 rw [Array.toList_push]
 exact this
theorem oneA (hi:i<a.size) (hJ:J T o.toList (a.toList.drop i) (b.toList.drop j)) (hq:∀ q∈b.toList.drop j,kv (a[i]'hi)<=kv q):J T (o.push (a[i]'hi)).toList (a.toList.drop (i+1)) (b.toList.drop j):=by
 rw [drop_cons hi] at hJ
 have:=hJ.takeX (Z:=[a[i]'hi]) λp hp q hq'=>by rw [List.mem_singleton.mp hp];exact hq q hq'
 rw [Array.toList_push]
 exact this
theorem manyA {k:Nat} (hj:j<b.size) (hs:SL b.toList) (hJ:J T o.toList (a.toList.drop i) (b.toList.drop j)) (k2:∀ m,m<k->Bey false (kv (b[j]'hj)) a (i+m)=true) (hk:i+k<=a.size):J T (o++a.extract i (i+k)).toList (a.toList.drop (i+k)) (b.toList.drop j):=by
 rw [Array.toList_append,ext_take]
 refine J.takeX (Z:=(a.toList.drop i).take k) ?_ ?_
 ·rw [<-List.drop_drop,List.take_append_drop];exact hJ
 ·intro p hp q hq
  obtain ⟨m,hm,e⟩:=List.getElem_of_mem hp
  rw [List.length_take] at hm
  have hb2:=k2 m (by omega)
  have e2:a.toList[i+m]?=some p:=by
   rw [<-e,List.getElem_take,List.getElem_drop]
   exact List.getElem?_eq_getElem _
  unfold Bey at hb2
  rw [if_neg (by decide),K_kv e2] at hb2
  have:¬ kv (b[j]'hj)<kv p:=λz=>by rw [decide_eq_true z] at hb2;cases hb2
  exact Int.le_trans (Int.not_lt.mp this) (first_le hs hj q hq)
theorem manyB {k:Nat} (hi:i<a.size) (hs:SL a.toList) (hJ:J T o.toList (a.toList.drop i) (b.toList.drop j)) (k2:∀ m,m<k->Bey true (kv (a[i]'hi)) b (j+m)=true) (hk:j+k<=b.size):J T (o++b.extract j (j+k)).toList (a.toList.drop i) (b.toList.drop (j+k)):=by
 rw [Array.toList_append,ext_take]
 refine J.takeY (Z:=(b.toList.drop j).take k) ?_ ?_
 ·rw [<-List.drop_drop,List.take_append_drop];exact hJ
 ·intro p hp q hq
  obtain ⟨m,hm,e⟩:=List.getElem_of_mem hp
  rw [List.length_take] at hm
  have hb2:=k2 m (by omega)
  have e2:b.toList[j+m]?=some p:=by
   rw [<-e,List.getElem_take,List.getElem_drop]
   exact List.getElem?_eq_getElem _
  unfold Bey at hb2
  rw [if_pos rfl,K_kv e2] at hb2
  exact Int.le_trans (Int.le_of_lt (of_decide_eq_true hb2)) (first_le hs hi q hq)
theorem restA {k n:Nat}{v:Int} (hn:i+n=a.size) (k3:∀ m,k<=m->m<n->Bey false v a (i+m)=false):∀ q∈a.toList.drop (i+k),v<=kv q:=λq hq=>by
 obtain ⟨m,hm,e⟩:=List.getElem_of_mem hq
 rw [List.length_drop,Array.length_toList] at hm
 have hb2:=k3 (k+m) (by omega) (by omega)
 have e2:a.toList[i+(k+m)]?=some q:=by
  rw [<-e,List.getElem_drop,show i+(k+m)=i+k+m by omega]
  exact List.getElem?_eq_getElem _
 unfold Bey at hb2
 rw [if_neg (by decide),K_kv e2] at hb2
 by_cases z:v<kv q
 ·exact Int.le_of_lt z
 ·rw [decide_eq_false z] at hb2;cases hb2
theorem restB {k n:Nat}{v:Int} (hn:j+n=b.size) (k3:∀ m,k<=m->m<n->Bey true v b (j+m)=false):∀ q∈b.toList.drop (j+k),v<=kv q:=λq hq=>by
 obtain ⟨m,hm,e⟩:=List.getElem_of_mem hq
 rw [List.length_drop,Array.length_toList] at hm
 have hb2:=k3 (k+m) (by omega) (by omega)
 have e2:b.toList[j+(k+m)]?=some q:=by
  rw [<-e,List.getElem_drop,show j+(k+m)=j+k+m by omega]
  exact List.getElem?_eq_getElem _
 unfold Bey at hb2
 rw [if_pos rfl,K_kv e2] at hb2
 exact Int.not_lt.mp λz=>by rw [decide_eq_true z] at hb2;cases hb2
end
section
variable {prog:Program}{w:World}{A:Around}{E:Value->Shared->Prop}{s:Shared}{st:SortSt}{a b:Array Keyed}{T:List Keyed}
theorem at_a {i:Nat} (hi:i<a.size):a[i]?=some (a[i]'hi):=getElem?_pos a _ hi
structure Goes (st:SortSt) (a b:Array Keyed) (T:List Keyed) (rem:Nat) (R:ForInStep LS->SortSt->Prop):Prop where
 ret:∀ (r o:Array Keyed) (i j g ac bc g3:Nat),Good T r->R (.done (some r,o,i,j,g,ac,bc)) (setGal st g3)
 go:∀ (o:Array Keyed) (i j g ac bc g3:Nat),J T o.toList (a.toList.drop i) (b.toList.drop j)->i+1<a.size->j<b.size->(a.size-i)+(b.size-j)<rem->R (.done (none,o,i,j,g,ac,bc)) (setGal st g3)/\R (.yield (none,o,i,j,g,ac,bc)) (setGal st g3)
theorem beq_no {m n:Nat} (h:¬ (m == n)=true):m≠n:=λz=>h (beq_iff_eq.mpr z)
theorem wp_loTail {rem:Nat}{o:Array Keyed}{i j g ac bc g3:Nat}{R:ForInStep LS->SortSt->Prop} (M:MS a b) (G:Goes st a b T rem R) (hJ:J T o.toList (a.toList.drop i) (b.toList.drop j)) (hi:i+1<a.size) (hj:j<b.size) (hq:∀ q∈b.toList.drop j,kv (a[i]'(by omega))<=kv q) (hr:(a.size-i)+(b.size-j)<=rem) :
  wpS (model prog w) A E s (loTail a b o i j g ac bc) R (setGal st g3):=by
 unfold loTail
 refine wpS_bind (wp_elem (at_a (show i<a.size by omega)) ?_)
 have hJ2:=oneA (show i<a.size by omega) hJ hq
 by_cases e1:(i+1+1 == a.size)=true
 ·rw [if_pos e1]
  exact wpS_pure (G.ret _ _ _ _ _ _ _ _ (good_la hJ2 (beq_iff_eq.mp e1) (M.last _ (beq_iff_eq.mp e1))))
 ·rw [if_neg e1]
  have e1':=beq_no e1
  have hg:=G.go _ _ _ g ac bc g3 hJ2 (by omega) hj (by omega)
  by_cases e2:(decide (ac<7) && decide (bc<7))=true
  ·rw [if_pos e2];exact wpS_pure hg.1
  ·rw [if_neg e2];exact wpS_pure hg.2
theorem wp_loB {rem:Nat}{o:Array Keyed}{i j g ac bc g3:Nat}{R:ForInStep LS->SortSt->Prop} (hk:kindOf st=oneType') (M:MS a b) (G:Goes st a b T rem R) (hJ:J T o.toList (a.toList.drop i) (b.toList.drop j)) (hi:i+1<a.size) (hj:j<b.size) (hq:∀ q∈a.toList.drop i,kv (b[j]'hj)<=kv q) (hr:(a.size-i)+(b.size-j)<=rem) :
  wpS (model prog w) A E s (loB a b o i j g ac bc) R (setGal st g3):=by
 unfold loB
 refine wpS_bind (wp_elem (at_a hj) ?_)
 have hJ2:=oneB hj hJ hq
 by_cases e1:(j+1 == b.size)=true
 ·rw [if_pos e1]
  exact wpS_pure (G.ret _ _ _ _ _ _ _ _ (good_dnB hJ2 (beq_iff_eq.mp e1)))
 ·rw [if_neg e1]
  have e1':=beq_no e1
  refine wpS_bind (wp_elem (at_a (show i<a.size by omega)) ?_)
  obtain ⟨ta,eka⟩:=key_of M.ia (show i<a.size by omega)
  refine wpS_bind (wp_gallop (st:=setGal st g3) (left:=true) hk M.ib eka (by omega) (by omega) (λu v u1 u2 u3=>SL.up M.sb (Nat.le_refl _) u v (Nat.zero_le _) u2 (by omega)) λk k1 k2 k3=>?_)
  dsimp only
  by_cases hk0:k > 0
  ·rw [if_pos hk0]
   have hJ3:=manyB (k:=k) (show i<a.size by omega) M.sa hJ2 k2 (by omega)
   by_cases e2:(j+1+k == b.size)=true
   ·rw [if_pos e2]
    exact wpS_pure (G.ret _ _ _ _ _ _ _ _ (good_dnB hJ3 (beq_iff_eq.mp e2)))
   ·rw [if_neg e2]
    have e2':=beq_no e2
    exact wp_loTail M G hJ3 hi (by omega) (restB (n:=b.size-(j+1)) (by omega) k3) (by omega)
  ·rw [if_neg hk0]
   obtain rfl:k=0:=by omega
   exact wp_loTail M G hJ2 hi (by omega) (restB (k:=0) (n:=b.size-(j+1)) (by omega) k3) (by omega)
theorem wp_loA {rem:Nat}{o:Array Keyed}{i j g ac bc g3:Nat}{R:ForInStep LS->SortSt->Prop} (hk:kindOf st=oneType') (M:MS a b) (G:Goes st a b T rem R) (hJ:J T o.toList (a.toList.drop i) (b.toList.drop j)) (hi:i+1<a.size) (hj:j<b.size) (hr:(a.size-i)+(b.size-j)<=rem) :
  wpS (model prog w) A E s (loA a b o i j g ac bc) R (setGal st g3):=by
 unfold loA
 rw [setMinG_eq]
 refine wpS_bind (wpS_modify ?_)
 refine wpS_bind (wp_elem (at_a hj) ?_)
 obtain ⟨tb,ekb⟩:=key_of M.ib hj
 refine wpS_bind (wp_gallop (st:=setGal st g) (left:=false) hk M.ia ekb (by omega) (by omega) (λu v u1 u2 u3=>SL.up M.sa (Nat.le_refl _) u v (Nat.zero_le _) u2 (by omega)) λk k1 k2 k3=>?_)
 dsimp only
 have hJ2:=manyA (k:=k) hj M.sb hJ k2 (by omega)
 have hB:=restA (k:=k) (n:=a.size-i) (by omega) k3
 by_cases hk0:k > 0
 ·rw [if_pos hk0]
  by_cases e1:(i+k+1 == a.size)=true
  ·rw [if_pos e1]
   exact wpS_pure (G.ret _ _ _ _ _ _ _ _ (good_la hJ2 (beq_iff_eq.mp e1) (M.last _ (beq_iff_eq.mp e1))))
  ·rw [if_neg e1]
   have e1':=beq_no e1
   by_cases e2:(i+k == a.size)=true
   ·rw [if_pos e2]
    exact wpS_pure (G.ret _ _ _ _ _ _ _ _ (good_dnA hJ2 (beq_iff_eq.mp e2)))
   ·rw [if_neg e2]
    have e2':=beq_no e2
    exact wp_loB hk M G hJ2 (by omega) hj hB (by omega)
 ·rw [if_neg hk0]
  obtain rfl:k=0:=by omega
  exact wp_loB hk M G hJ hi hj hB (by omega)
theorem wp_loOne {o:Array Keyed}{i j ac bc g g3:Nat}{R:ForInStep LS1->SortSt->Prop} (hk:kindOf st=oneType') (M:MS a b) (hJ:J T o.toList (a.toList.drop i) (b.toList.drop j)) (hi:i+1<a.size) (hj:j<b.size)
  (h1:∀ (r o:Array Keyed) (i j ac bc:Nat),Good T r->R (.done (some r,o,i,j,ac,bc)) (setGal st g3))
  (h2:∀ (o':Array Keyed) (i' j' ac bc:Nat),J T o'.toList (a.toList.drop i') (b.toList.drop j')->i'+1<a.size->j'<b.size->(a.size-i')+(b.size-j')+1=(a.size-i)+(b.size-j)->R (.done (none,o',i',j',ac,bc)) (setGal st g3)/\R (.yield (none,o',i',j',ac,bc)) (setGal st g3)) :
  wpS (model prog w) A E s (loOne a b g (none,o,i,j,ac,bc)) R (setGal st g3):=by
 unfold loOne
 dsimp only
 obtain ⟨ta,eka⟩:=key_of M.ia (show i<a.size by omega)
 obtain ⟨tb,ekb⟩:=key_of M.ib hj
 refine wpS_bind (wp_elem (at_a hj) (wpS_bind (wp_elem (at_a (show i<a.size by omega)) (wpS_bind (wp_lt (st:=setGal st g3) hk ekb eka ?_)))))
 dsimp only
 by_cases hlt:kv (b[j]'hj)<kv (a[i]'(by omega))
 ·rw [if_pos (decide_eq_true hlt)]
  refine wpS_bind (wp_elem (at_a hj) ?_)
  have hJ2:=oneB hj hJ λq hq=>Int.le_trans (Int.le_of_lt hlt) (first_le M.sa (by omega) q hq)
  by_cases e1:(j+1 == b.size)=true
  ·rw [if_pos e1]
   exact wpS_pure (h1 _ _ _ _ _ _ (good_dnB hJ2 (beq_iff_eq.mp e1)))
  ·rw [if_neg e1]
   have e1':=beq_no e1
   have hg:=h2 _ _ _ 0 (bc+1) hJ2 hi (by omega) (by omega)
   by_cases e2:bc+1 ≥ g
   ·rw [if_pos e2];exact wpS_pure hg.1
   ·rw [if_neg e2];exact wpS_pure hg.2
 ·rw [if_neg λz=>hlt (of_decide_eq_true z)]
  refine wpS_bind (wp_elem (at_a (show i<a.size by omega)) ?_)
  have hJ2:=oneA (show i<a.size by omega) hJ λq hq=>Int.le_trans (Int.not_lt.mp hlt) (first_le M.sb hj q hq)
  by_cases e1:(i+1+1 == a.size)=true
  ·rw [if_pos e1]
   exact wpS_pure (h1 _ _ _ _ _ _ (good_la hJ2 (beq_iff_eq.mp e1) (M.last _ (beq_iff_eq.mp e1))))
  ·rw [if_neg e1]
   have e1':=beq_no e1
   have hg:=h2 _ _ _ (ac+1) 0 hJ2 (by omega) hj (by omega)
   by_cases e2:ac+1 ≥ g
   ·rw [if_pos e2];exact wpS_pure hg.1
   ·rw [if_neg e2];exact wpS_pure hg.2
theorem wp_mergeLo {Q:Array Keyed->SortSt->Prop} (hk:kindOf st=oneType') (M:MS a b) (ha:1<=a.size) (hb:1<=b.size) (h0:kv (b[0]'hb)<=kv (a[0]'ha))
  (h:∀ r g,Good (a.toList++b.toList) r->Q r (setGal st g)):wpS (model prog w) A E s (mergeLo' a b) Q st:=by
 rw [mergeLo_is]
 have J1:J (a.toList++b.toList) #[b[0]'hb].toList (a.toList.drop 0) (b.toList.drop 1):=by
  have J0:J (a.toList++b.toList) (#[]:Array Keyed).toList (a.toList.drop 0) (b.toList.drop 0):=by
   rw [List.drop_zero,List.drop_zero]
   exact ⟨List.Perm.refl _,List.Pairwise.nil,M.sa,M.sb,λp hp=>(nomatch hp),λp hp=>(nomatch hp)⟩
  exact oneB hb J0 λq hq=>Int.le_trans h0 (first_le M.sa ha q hq)
 generalize a.toList++b.toList=T at J1 h
 refine wpS_bind (wpS_lift (wpAny_rule ⟨rfl,?_⟩))
 refine wpS_bind (wp_elem (at_a hb) ?_)
 by_cases c1:(1 == b.size)=true
 ·rw [if_pos c1]
  exact wpS_pure (h _ (gallopOf st) (good_dnB J1 (beq_iff_eq.mp c1)))
 rw [if_neg c1]
 by_cases c2:(0+1 == a.size)=true
 ·rw [if_pos c2]
  exact wpS_pure (h _ (gallopOf st) (good_la J1 (beq_iff_eq.mp c2) (M.last 0 (beq_iff_eq.mp c2))))
 rw [if_neg c2]
 have c1':=beq_no c1
 have c2':=beq_no c2
 refine wpS_bind (wpS_get ?_)
 refine wpS_bind (wpS_mono (wpS_forRange (I:=λx c st'=>∃ (o:Array Keyed) (i j g g':Nat),c=(none,o,i,j,g)/\st'=setGal st g'/\J T o.toList (a.toList.drop i) (b.toList.drop j)/\i+1<a.size/\j<b.size/\(a.size-i)+(b.size-j)+x<=a.size+b.size)
  (Q:=λc st'=>∃ (r:Array Keyed) (o:Array Keyed) (i j g g':Nat),c=(some r,o,i,j,g)/\st'=setGal st g'/\Good T r) ?step ?fin ⟨_,0,1,_,gallopOf st,rfl,rfl,J1,by omega,by omega,by omega⟩) ?post)
 case post=>
  rintro c st' ⟨r,o,i,j,g,g',rfl,rfl,hg⟩
  exact wpS_pure (h r g' hg)
 case fin=>
  rintro c st' ⟨o,i,j,g,g',rfl,rfl,hJ,q1,q2,q3⟩
  rw [Nat.max_eq_right (Nat.zero_le _)] at q3
  omega
 case step=>
  rintro x c st' _ hx ⟨o,i,j,g,g',rfl,rfl,hJ,q1,q2,q3⟩
  unfold loStep
  dsimp only
  refine wpS_bind (wpS_mono (wpS_forRange (I:=λy c st''=>∃ (o':Array Keyed) (i' j' ac bc:Nat),c=(none,o',i',j',ac,bc)/\st''=setGal st g'/\J T o'.toList (a.toList.drop i') (b.toList.drop j')/\i'+1<a.size/\j'<b.size/\(a.size-i')+(b.size-j')+y<=(a.size-i)+(b.size-j))
   (Q:=λc st''=>st''=setGal st g'/\((∃ (r:Array Keyed) (o':Array Keyed) (i' j' ac bc:Nat),c=(some r,o',i',j',ac,bc)/\Good T r)∨∃ (o':Array Keyed) (i' j' ac bc:Nat),c=(none,o',i',j',ac,bc)/\J T o'.toList (a.toList.drop i') (b.toList.drop j')/\i'+1<a.size/\j'<b.size/\(a.size-i')+(b.size-j')<(a.size-i)+(b.size-j))) ?s1 ?f1 ⟨o,i,j,0,0,rfl,rfl,hJ,q1,q2,by omega⟩) ?p1)
  case f1=>
   rintro c st'' ⟨o',i',j',ac,bc,rfl,rfl,hJ',r1,r2,r3⟩
   rw [Nat.max_eq_right (Nat.zero_le _)] at r3
   omega
  case s1=>
   rintro y c st'' _ hy ⟨o',i',j',ac,bc,rfl,rfl,hJ',r1,r2,r3⟩
   exact wp_loOne hk M hJ' r1 r2 (λr o i j ac bc hg=>⟨rfl,.inl ⟨_,_,_,_,_,_,rfl,hg⟩⟩) λo2 i2 j2 ac bc hJ2 t1 t2 t3=>⟨⟨rfl,.inr ⟨_,_,_,_,_,rfl,hJ2,t1,t2,by omega⟩⟩,⟨_,_,_,_,_,rfl,rfl,hJ2,t1,t2,by omega⟩⟩
  case p1=>
   rintro c st'' ⟨rfl,(⟨r,o',i',j',ac,bc,rfl,hg⟩|⟨o',i',j',ac,bc,rfl,hJ',r1,r2,r3⟩)⟩
   ·exact wpS_pure ⟨r,_,_,_,_,g',rfl,rfl,hg⟩
   ·dsimp only
    refine wpS_bind (wpS_lift (wpAny_rule ⟨rfl,?_⟩))
    refine wpS_bind (wpS_mono (wpS_forRange (I:=λy c st''=>∃ (o':Array Keyed) (i' j' g2 ac bc g3:Nat),c=(none,o',i',j',g2,ac,bc)/\st''=setGal st g3/\J T o'.toList (a.toList.drop i') (b.toList.drop j')/\i'+1<a.size/\j'<b.size/\(a.size-i')+(b.size-j')<(a.size-i)+(b.size-j))
     (Q:=λc st''=>(∃ (r:Array Keyed) (o':Array Keyed) (i' j' g2 ac bc g3:Nat),c=(some r,o',i',j',g2,ac,bc)/\st''=setGal st g3/\Good T r)∨∃ (o':Array Keyed) (i' j' g2 ac bc g3:Nat),c=(none,o',i',j',g2,ac,bc)/\st''=setGal st g3/\J T o'.toList (a.toList.drop i') (b.toList.drop j')/\i'+1<a.size/\j'<b.size/\(a.size-i')+(b.size-j')<(a.size-i)+(b.size-j)) ?s2 (λc st'' h'=>.inr h') ⟨o',i',j',_,_,_,g',rfl,rfl,hJ',r1,r2,r3⟩) ?p2)
    case p2=>
     rintro c st'' (⟨r,o',i',j',g2,ac,bc,g3,rfl,rfl,hg⟩|⟨o',i',j',g2,ac,bc,g3,rfl,rfl,hJ',r1,r2,r3⟩)
     ·exact wpS_pure ⟨r,_,_,_,_,g3,rfl,rfl,hg⟩
     ·dsimp only
      rw [setMinG_eq]
      exact wpS_bind (wpS_modify (wpS_pure ⟨o',i',j',_,_,rfl,rfl,hJ',r1,r2,by omega⟩))
    case s2=>
     rintro y c st'' _ hy ⟨o',i',j',g2,ac,bc,g3,rfl,rfl,hJ',r1,r2,r3⟩
     unfold loTwo
     dsimp only
     have G:Goes st a b T ((a.size-i')+(b.size-j')) (λr st'=>match r with
       | .done c'=>(∃ (r:Array Keyed) (o':Array Keyed) (i' j' g2 ac bc g3:Nat),c'=(some r,o',i',j',g2,ac,bc)/\st'=setGal st g3/\Good T r)∨∃ (o':Array Keyed) (i' j' g2 ac bc g3:Nat),c'=(none,o',i',j',g2,ac,bc)/\st'=setGal st g3/\J T o'.toList (a.toList.drop i') (b.toList.drop j')/\i'+1<a.size/\j'<b.size/\(a.size-i')+(b.size-j')<(a.size-i)+(b.size-j)
       | .yield c'=>∃ (o':Array Keyed) (i' j' g2 ac bc g3:Nat),c'=(none,o',i',j',g2,ac,bc)/\st'=setGal st g3/\J T o'.toList (a.toList.drop i') (b.toList.drop j')/\i'+1<a.size/\j'<b.size/\(a.size-i')+(b.size-j')<(a.size-i)+(b.size-j)):=
      ⟨λr o i j g ac bc g3 hg=>.inl ⟨r,o,i,j,g,ac,bc,g3,rfl,rfl,hg⟩,λo2 i2 j2 g ac bc g3 hJ2 t1 t2 t3=>⟨.inr ⟨o2,i2,j2,g,ac,bc,g3,rfl,rfl,hJ2,t1,t2,by omega⟩,⟨o2,i2,j2,g,ac,bc,g3,rfl,rfl,hJ2,t1,t2,by omega⟩⟩⟩
     by_cases hg:g2 > 1
     ·rw [if_pos hg];exact wpS_mono (wp_loA hk M G hJ' r1 r2 (Nat.le_refl _)) λr st' hr=>by cases r<;>exact hr
     ·rw [if_neg hg];exact wpS_mono (wp_loA hk M G hJ' r1 r2 (Nat.le_refl _)) λr st' hr=>by cases r<;>exact hr
end
end Tim
namespace Tim
open PySem PyProof.Rows
def mergeHi':Array Keyed->Array Keyed->StateT SortSt Sem (Array Keyed):=sortPriv% PySem.Builtin.mergeHi
theorem mergeHi'_eq (a b:Array Keyed):mergeHi' a b=(do
 rule "list.sort.merge-hi"
 let tt:=a.size+b.size
 let dn (o:Array Keyed) (i j:Nat):=a.extract 0 i++b.extract 0 j++o.reverse
 let fb (o:Array Keyed) (i j:Nat):=b.extract 0 j++a.extract 0 i++o.reverse
 let mut i:=a.size - 1
 let mut j:=b.size
 let mut o:Array Keyed:=#[<-elem' a i]
 if i == 0 then return dn o i j
 if j == 1 then return fb o i j
 let mut g:=gallopOf (<-get)
 for _ in [0:tt] do
  let mut ac:=0
  let mut bc:=0
  for _ in [0:tt] do
   let some aw<-lt' (<-elem' b (j - 1)) (<-elem' a (i - 1))|return dn o i j
   if aw then
    i:=i - 1;o:=o.push (<-elem' a i);ac:=ac+1;bc:=0
    if i == 0 then return dn o i j
    if ac ≥ g then break
   else
    j:=j - 1;o:=o.push (<-elem' b j);bc:=bc+1;ac:=0
    if j == 1 then return fb o i j
    if bc ≥ g then break
  rule "list.sort.gallop"
  g:=g+1
  for _ in [0:tt] do
   if g > 1 then g:=g - 1
   setMinG g
   let some q<-gallop' false (<-elem' b (j - 1)) a 0 i (i - 1)|return dn o i j
   let k:=i-q
   ac:=k
   if k > 0 then
    o:=o++(a.extract q i).reverse;i:=q
    if i == 0 then return dn o i j
   j:=j - 1;o:=o.push (<-elem' b j)
   if j == 1 then return fb o i j
   let some q<-gallop' true (<-elem' a (i - 1)) b 0 j (j - 1)|return dn o i j
   let k:=j-q
   bc:=k
   if k > 0 then
    o:=o++(b.extract q j).reverse;j:=q
    if j == 1 then return fb o i j
    if j == 0 then return dn o i j
   i:=i - 1;o:=o.push (<-elem' a i)
   if i == 0 then return dn o i j
   if ac<7 && bc<7 then break
  g:=g+1
  setMinG g
 unsupported "internal:list.sort.merge-bound"):=rfl
abbrev HS1:=Option (Array Keyed)×Nat×Nat×Array Keyed×Nat×Nat
abbrev HS:=Option (Array Keyed)×Nat×Nat×Array Keyed×Nat×Nat×Nat
abbrev HS0:=Option (Array Keyed)×Nat×Nat×Array Keyed×Nat
def dnH (a b o:Array Keyed) (i j:Nat):Array Keyed:=a.extract 0 i++b.extract 0 j++o.reverse
def fbH (a b o:Array Keyed) (i j:Nat):Array Keyed:=b.extract 0 j++a.extract 0 i++o.reverse
def hiOne (a b:Array Keyed) (g:Nat) (c:HS1):StateT SortSt Sem (ForInStep HS1):=do
 let y<-elem' b (c.2.2.1 - 1)
 let x<-elem' a (c.2.1 - 1)
 let z<-lt' y x
 match z with
 |some aw=>
  if aw=true then do
   let x<-elem' a (c.2.1 - 1)
   if (c.2.1 - 1 == 0)=true then pure (.done (some (dnH a b (c.2.2.2.1.push x) (c.2.1 - 1) c.2.2.1),c.2.1 - 1,c.2.2.1,c.2.2.2.1.push x,c.2.2.2.2.1+1,0))
   else if c.2.2.2.2.1+1 ≥ g then pure (.done (none,c.2.1 - 1,c.2.2.1,c.2.2.2.1.push x,c.2.2.2.2.1+1,0))
   else pure (.yield (none,c.2.1 - 1,c.2.2.1,c.2.2.2.1.push x,c.2.2.2.2.1+1,0))
  else do
   let y<-elem' b (c.2.2.1 - 1)
   if (c.2.2.1 - 1 == 1)=true then pure (.done (some (fbH a b (c.2.2.2.1.push y) c.2.1 (c.2.2.1 - 1)),c.2.1,c.2.2.1 - 1,c.2.2.2.1.push y,0,c.2.2.2.2.2+1))
   else if c.2.2.2.2.2+1 ≥ g then pure (.done (none,c.2.1,c.2.2.1 - 1,c.2.2.2.1.push y,0,c.2.2.2.2.2+1))
   else pure (.yield (none,c.2.1,c.2.2.1 - 1,c.2.2.2.1.push y,0,c.2.2.2.2.2+1))
 |_=>pure (.done (some (dnH a b c.2.2.2.1 c.2.1 c.2.2.1),c.2.1,c.2.2.1,c.2.2.2.1,c.2.2.2.2.1,c.2.2.2.2.2))
def hiTail (a b o:Array Keyed) (i j g ac bc:Nat):StateT SortSt Sem (ForInStep HS):=do
 let x<-elem' a (i - 1)
 if (i - 1 == 0)=true then pure (.done (some (dnH a b (o.push x) (i - 1) j),i - 1,j,o.push x,g,ac,bc))
 else if (decide (ac<7) && decide (bc<7))=true then pure (.done (none,i - 1,j,o.push x,g,ac,bc))
 else pure (.yield (none,i - 1,j,o.push x,g,ac,bc))
def hiB (a b o:Array Keyed) (i j g ac bc:Nat):StateT SortSt Sem (ForInStep HS):=do
 let y<-elem' b (j - 1)
 if (j - 1 == 1)=true then pure (.done (some (fbH a b (o.push y) i (j - 1)),i,j - 1,o.push y,g,ac,bc))
 else do
  let x<-elem' a (i - 1)
  let z<-gallop' true x b 0 (j - 1) (j - 1 - 1)
  match z with
  |some q=>
   if j - 1-q > 0 then
    if (q == 1)=true then pure (.done (some (fbH a b (o.push y++(b.extract q (j - 1)).reverse) i q),i,q,o.push y++(b.extract q (j - 1)).reverse,g,ac,j - 1-q))
    else if (q == 0)=true then pure (.done (some (dnH a b (o.push y++(b.extract q (j - 1)).reverse) i q),i,q,o.push y++(b.extract q (j - 1)).reverse,g,ac,j - 1-q))
    else hiTail a b (o.push y++(b.extract q (j - 1)).reverse) i q g ac (j - 1-q)
   else hiTail a b (o.push y) i (j - 1) g ac (j - 1-q)
  |_=>pure (.done (some (dnH a b (o.push y) i (j - 1)),i,j - 1,o.push y,g,ac,bc))
def hiA (a b o:Array Keyed) (i j g ac bc:Nat):StateT SortSt Sem (ForInStep HS):=do
 setMinG g
 let y<-elem' b (j - 1)
 let z<-gallop' false y a 0 i (i - 1)
 match z with
 |some q=>
  if i-q > 0 then
   if (q == 0)=true then pure (.done (some (dnH a b (o++(a.extract q i).reverse) q j),q,j,o++(a.extract q i).reverse,g,i-q,bc))
   else hiB a b (o++(a.extract q i).reverse) q j g (i-q) bc
  else hiB a b o i j g (i-q) bc
 |_=>pure (.done (some (dnH a b o i j),i,j,o,g,ac,bc))
def hiTwo (a b:Array Keyed) (c:HS):StateT SortSt Sem (ForInStep HS):=
 if c.2.2.2.2.1 > 1 then hiA a b c.2.2.2.1 c.2.1 c.2.2.1 (c.2.2.2.2.1 - 1) c.2.2.2.2.2.1 c.2.2.2.2.2.2 else hiA a b c.2.2.2.1 c.2.1 c.2.2.1 c.2.2.2.2.1 c.2.2.2.2.2.1 c.2.2.2.2.2.2
def hiStep (a b:Array Keyed) (c:HS0):StateT SortSt Sem (ForInStep HS0):=do
 let d<-forIn [:a.size+b.size] ((none,c.2.1,c.2.2.1,c.2.2.2.1,0,0):HS1) λ_ e=>hiOne a b c.2.2.2.2 e
 match d.1 with
 |some r=>pure (.done (some r,d.2.1,d.2.2.1,d.2.2.2.1,c.2.2.2.2))
 |none=>do
  liftM (rule "list.sort.gallop")
  let e<-forIn [:a.size+b.size] ((none,d.2.1,d.2.2.1,d.2.2.2.1,c.2.2.2.2+1,d.2.2.2.2.1,d.2.2.2.2.2):HS) λ_ e=>hiTwo a b e
  match e.1 with
  |some r=>pure (.done (some r,e.2.1,e.2.2.1,e.2.2.2.1,e.2.2.2.2.1))
  |none=>do
   setMinG (e.2.2.2.2.1+1)
   pure (.yield (none,e.2.1,e.2.2.1,e.2.2.2.1,e.2.2.2.2.1+1))
theorem mergeHi_is (a b:Array Keyed):mergeHi' a b=(do
  liftM (rule "list.sort.merge-hi")
  let x<-elem' a (a.size - 1)
  if (a.size - 1 == 0)=true then pure (dnH a b #[x] (a.size - 1) b.size)
  else if (b.size == 1)=true then pure (fbH a b #[x] (a.size - 1) b.size)
  else do
   let s<-get
   let c<-forIn [:a.size+b.size] ((none,a.size - 1,b.size,#[x],gallopOf s):HS0) λ_ c=>hiStep a b c
   match c.1 with
   |some r=>pure r
   |none=>liftM (unsupported "internal:list.sort.merge-bound")):=by
 rw [mergeHi'_eq]
 refine bind2 rfl λ_=>?_
 refine bind2 rfl λy=>?_
 refine iteC rfl ?_
 refine iteC rfl ?_
 refine bind2 rfl λs=>?_
 refine bind2 (forC λ_ c=>?_) λc=>?_
 ·refine bind2 (forC λ_ e=>?_) λd=>?_
  ·refine bind2 rfl λy=>bind2 rfl λx=>bind2 rfl λz=>?_
   cases z with
   |none=>rfl
   |some bw=>exact iteC (bind2 rfl λy=>iteC rfl (iteC rfl rfl)) (bind2 rfl λx=>iteC rfl (iteC rfl rfl))
  ·obtain ⟨r,d⟩:=d
   cases r with
   |some r=>rfl
   |none=>
    refine bind2 rfl λ_=>bind2 (forC λ_ e=>?_) λe=>?_
    ·refine iteC ?_ ?_
     all_goals
      refine bind2 rfl λ_=>bind2 rfl λy=>bind2 rfl λz=>?_
      cases z with
      |none=>rfl
      |some k=>
       refine iteC (iteC rfl ?_) ?_
       all_goals
        refine bind2 rfl λy=>iteC rfl (bind2 rfl λx=>bind2 rfl λz=>?_)
        cases z with
        |none=>rfl
        |some k=>exact iteC (iteC rfl (iteC rfl (bind2 rfl λx=>iteC rfl (iteC rfl rfl)))) (bind2 rfl λx=>iteC rfl (iteC rfl rfl))
    ·obtain ⟨r,e⟩:=e
     cases r<;>rfl
 ·obtain ⟨r,c⟩:=c
  cases r<;>rfl
structure JH (T X Y O:List Keyed):Prop where
 perm:(X++Y++O).Perm T
 sx:SL X
 sy:SL Y
 so:SL O
 xo:∀ p∈X,∀ q∈O,kv p<=kv q
 yo:∀ p∈Y,∀ q∈O,kv p<=kv q
theorem JH.swap {T X Y O:List Keyed} (h:JH T X Y O):JH T Y X O:=⟨List.Perm.trans (List.Perm.append_right O List.perm_append_comm) h.perm,h.sy,h.sx,h.so,h.yo,h.xo⟩
theorem JH.takeX {T X Y O Z:List Keyed} (h:JH T (X++Z) Y O) (hz:∀ p∈Z,∀ q∈Y,kv q<=kv p):JH T X Y (Z++O):=by
 have h2:=List.pairwise_append.mp h.sx
 refine ⟨?_,h2.1,h.sy,List.pairwise_append.mpr ⟨h2.2.1,h.so,λp hp q hq=>h.xo p (List.mem_append_right _ hp) q hq⟩,λp hp q hq=>?_,λp hp q hq=>?_⟩
 ·refine List.Perm.trans ?_ h.perm
  rw [<-List.append_assoc (X++Y) Z O]
  refine List.Perm.append_right O ?_
  rw [List.append_assoc,List.append_assoc]
  exact List.Perm.append_left X List.perm_append_comm
 ·rcases List.mem_append.mp hq with z|z
  ·exact h2.2.2 p hp q z
  ·exact h.xo p (List.mem_append_left _ hp) q z
 ·rcases List.mem_append.mp hq with z|z
  ·exact hz q z p hp
  ·exact h.yo p hp q z
theorem JH.takeY {T X Y O Z:List Keyed} (h:JH T X (Y++Z) O) (hz:∀ p∈Z,∀ q∈X,kv q<=kv p):JH T X Y (Z++O):=(h.swap.takeX hz).swap
theorem ext0 (x:Array Keyed) (i:Nat):(x.extract 0 i).toList=x.toList.take i:=by
 rw [Array.toList_extract,List.extract_eq_take_drop,List.drop_zero,Nat.sub_zero]
theorem take_last {x:Array Keyed}{i:Nat} (h1:1<=i) (h2:i<=x.size):x.toList.take i=x.toList.take (i - 1)++[x[i - 1]'(by omega)]:=by
 obtain ⟨n,rfl⟩:∃ n,i=n+1:=⟨i - 1,by omega⟩
 rw [List.take_add_one,show x.toList[n]?=some (x[n]'(by omega)) from by rw [Array.getElem?_toList];exact getElem?_pos x n (by omega)]
 rfl
theorem take_split {x:Array Keyed}{q i:Nat} (h:q<=i):x.toList.take i=x.toList.take q++(x.extract q i).toList:=by
 rw [Array.toList_extract,List.extract_eq_take_drop]
 obtain ⟨m,rfl⟩:∃ m,i=q+m:=⟨i-q,by omega⟩
 rw [Nat.add_sub_cancel_left,List.take_add]
section
variable {a b o:Array Keyed}{T:List Keyed}{i j:Nat}
theorem good_dnI (h:JH T (a.toList.take i) (b.toList.take j) o.toList.reverse) (hi:i=0):Good T (dnH a b o i j):=by
 have e:(dnH a b o i j).toList=b.toList.take j++o.toList.reverse:=by
  unfold dnH
  rw [Array.toList_append,Array.toList_append,ext0,ext0,Array.toList_reverse,hi,List.take_zero,List.nil_append]
 rw [hi,List.take_zero] at h
 unfold Good
 rw [e]
 refine ⟨List.pairwise_append.mpr ⟨h.sy,h.so,h.yo⟩,?_⟩
 have:=h.perm
 rwa [List.nil_append] at this
theorem good_dnJ (h:JH T (a.toList.take i) (b.toList.take j) o.toList.reverse) (hj:j=0):Good T (dnH a b o i j):=by
 have e:(dnH a b o i j).toList=a.toList.take i++o.toList.reverse:=by
  unfold dnH
  rw [Array.toList_append,Array.toList_append,ext0,ext0,Array.toList_reverse,hj,List.take_zero,List.append_nil]
 rw [hj,List.take_zero] at h
 unfold Good
 rw [e]
 refine ⟨List.pairwise_append.mpr ⟨h.sx,h.so,h.xo⟩,?_⟩
 have:=h.perm
 rwa [List.append_nil] at this
theorem good_fb (h:JH T (a.toList.take i) (b.toList.take j) o.toList.reverse) (hj:j=1) (hb:0<b.size) (hf:∀ q∈a.toList,kv (b[0]'hb)<=kv q):Good T (fbH a b o i j):=by
 have e:(fbH a b o i j).toList=b.toList.take j++a.toList.take i++o.toList.reverse:=by
  unfold fbH
  rw [Array.toList_append,Array.toList_append,ext0,ext0,Array.toList_reverse]
 have e2:b.toList.take j=[b[0]'hb]:=by
  rw [hj,take_last (Nat.le_refl 1) hb];rfl
 unfold Good
 rw [e]
 refine ⟨List.pairwise_append.mpr ⟨List.pairwise_append.mpr ⟨h.sy,h.sx,λp hp q hq=>?_⟩,h.so,λp hp q hq=>?_⟩,h.swap.perm⟩
 ·rw [e2] at hp
  rw [List.mem_singleton.mp hp]
  exact hf q (List.mem_of_mem_take hq)
 ·rcases List.mem_append.mp hp with z|z
  ·exact h.yo p z q hq
  ·exact h.xo p z q hq
theorem last_ge {x:Array Keyed} (h:SL x.toList) {i:Nat} (h1:1<=i) (h2:i<=x.size):∀ q∈x.toList.take i,kv q<=kv (x[i - 1]'(by omega)):=λq hq=>by
 have h3:SL (x.toList.take i):=List.Pairwise.sublist (List.take_sublist ..) h
 rw [take_last h1 h2] at h3 hq
 rcases List.mem_append.mp hq with e|e
 ·exact (List.pairwise_append.mp h3).2.2 q e _ List.mem_cons_self
 ·rw [List.mem_singleton.mp e];exact Int.le_refl _
theorem oneX (h1:1<=i) (h2:i<=a.size) (hJ:JH T (a.toList.take i) (b.toList.take j) o.toList.reverse) (hq:∀ q∈b.toList.take j,kv q<=kv (a[i - 1]'(by omega))):JH T (a.toList.take (i - 1)) (b.toList.take j) (o.push (a[i - 1]'(by omega))).toList.reverse:=by
 rw [take_last h1 h2] at hJ
 have:=hJ.takeX λp hp q hq'=>by rw [List.mem_singleton.mp hp];exact hq q hq'
 rw [Array.toList_push,List.reverse_append]
 exact this
theorem oneY (h1:1<=j) (h2:j<=b.size) (hJ:JH T (a.toList.take i) (b.toList.take j) o.toList.reverse) (hq:∀ q∈a.toList.take i,kv q<=kv (b[j - 1]'(by omega))):JH T (a.toList.take i) (b.toList.take (j - 1)) (o.push (b[j - 1]'(by omega))).toList.reverse:=by
 rw [take_last h1 h2] at hJ
 have:=hJ.takeY λp hp q hq'=>by rw [List.mem_singleton.mp hp];exact hq q hq'
 rw [Array.toList_push,List.reverse_append]
 exact this
theorem rev_app (o z:Array Keyed):(o++z.reverse).toList.reverse=z.toList++o.toList.reverse:=by
 rw [Array.toList_append,Array.toList_reverse,List.reverse_append,List.reverse_reverse]
theorem at_ext {x:Array Keyed}{q i:Nat}{p:Keyed} (h:p∈(x.extract q i).toList):∃ m,q<=m/\m<i/\x.toList[m]?=some p:=by
 rw [Array.toList_extract,List.extract_eq_take_drop] at h
 obtain ⟨n,hn,e⟩:=List.getElem_of_mem h
 rw [List.length_take] at hn
 refine ⟨q+n,by omega,by omega,?_⟩
 rw [<-e,List.getElem_take,List.getElem_drop]
 exact List.getElem?_eq_getElem _
theorem at_take {x:Array Keyed}{q:Nat}{p:Keyed} (h:p∈x.toList.take q):∃ m,m<q/\x.toList[m]?=some p:=by
 obtain ⟨n,hn,e⟩:=List.getElem_of_mem h
 rw [List.length_take] at hn
 refine ⟨n,by omega,?_⟩
 rw [<-e,List.getElem_take]
 exact List.getElem?_eq_getElem _
theorem bey_f {x:Array Keyed}{v:Int}{m:Nat}{p:Keyed} (h:x.toList[m]?=some p):(Bey false v x m=true->kv p<=v)/\(Bey false v x m=false->v<=kv p):=by
 unfold Bey
 rw [if_neg (by decide),K_kv h]
 constructor
 ·intro z
  exact Int.not_lt.mp λy=>by rw [decide_eq_true y] at z;cases z
 ·intro z
  by_cases y:v<kv p
  ·exact Int.le_of_lt y
  ·rw [decide_eq_false y] at z;cases z
theorem bey_t {x:Array Keyed}{v:Int}{m:Nat}{p:Keyed} (h:x.toList[m]?=some p):(Bey true v x m=true->kv p<=v)/\(Bey true v x m=false->v<=kv p):=by
 unfold Bey
 rw [if_pos rfl,K_kv h]
 constructor
 ·intro z;exact Int.le_of_lt (of_decide_eq_true z)
 ·intro z;exact Int.not_lt.mp λy=>by rw [decide_eq_true y] at z;cases z
end
structure MSH (a b:Array Keyed):Prop where
 ia:IntKeys a
 ib:IntKeys b
 sa:SL a.toList
 sb:SL b.toList
 first:∀ (hb:0<b.size),∀ q∈a.toList,kv (b[0]'hb)<=kv q
section
variable {prog:Program}{w:World}{A:Around}{E:Value->Shared->Prop}{s:Shared}{st:SortSt}{a b:Array Keyed}{T:List Keyed}
structure GoesH (st:SortSt) (a b:Array Keyed) (T:List Keyed) (rem:Nat) (R:ForInStep HS->SortSt->Prop):Prop where
 ret:∀ (r o:Array Keyed) (i j g ac bc g3:Nat),Good T r->R (.done (some r,i,j,o,g,ac,bc)) (setGal st g3)
 go:∀ (o:Array Keyed) (i j g ac bc g3:Nat),JH T (a.toList.take i) (b.toList.take j) o.toList.reverse->1<=i->i<=a.size->2<=j->j<=b.size->i+j<rem->R (.done (none,i,j,o,g,ac,bc)) (setGal st g3)/\R (.yield (none,i,j,o,g,ac,bc)) (setGal st g3)
theorem wp_hiTail {rem:Nat}{o:Array Keyed}{i j g ac bc g3:Nat}{R:ForInStep HS->SortSt->Prop} (G:GoesH st a b T rem R) (hJ:JH T (a.toList.take i) (b.toList.take j) o.toList.reverse) (h1:1<=i) (h2:i<=a.size) (h3:2<=j) (h4:j<=b.size)
  (hq:∀ q∈b.toList.take j,kv q<=kv (a[i - 1]'(by omega))) (hr:i+j<=rem):wpS (model prog w) A E s (hiTail a b o i j g ac bc) R (setGal st g3):=by
 unfold hiTail
 refine wpS_bind (wp_elem (at_a (show i - 1<a.size by omega)) ?_)
 have hJ2:=oneX h1 h2 hJ hq
 by_cases e1:(i - 1 == 0)=true
 ·rw [if_pos e1]
  exact wpS_pure (G.ret _ _ _ _ _ _ _ _ (good_dnI hJ2 (beq_iff_eq.mp e1)))
 ·rw [if_neg e1]
  have e1':=beq_no e1
  have hg:=G.go _ _ _ g ac bc g3 hJ2 (by omega) (by omega) h3 h4 (by omega)
  by_cases e2:(decide (ac<7) && decide (bc<7))=true
  ·rw [if_pos e2];exact wpS_pure hg.1
  ·rw [if_neg e2];exact wpS_pure hg.2
theorem wp_hiB {rem:Nat}{o:Array Keyed}{i j g ac bc g3:Nat}{R:ForInStep HS->SortSt->Prop} (hk:kindOf st=oneType') (M:MSH a b) (G:GoesH st a b T rem R) (hJ:JH T (a.toList.take i) (b.toList.take j) o.toList.reverse) (h1:1<=i) (h2:i<=a.size) (h3:2<=j) (h4:j<=b.size)
  (hq:∀ q∈a.toList.take i,kv q<=kv (b[j - 1]'(by omega))) (hr:i+j<=rem):wpS (model prog w) A E s (hiB a b o i j g ac bc) R (setGal st g3):=by
 unfold hiB
 refine wpS_bind (wp_elem (at_a (show j - 1<b.size by omega)) ?_)
 have hJ2:=oneY (by omega) h4 hJ hq
 by_cases e1:(j - 1 == 1)=true
 ·rw [if_pos e1]
  exact wpS_pure (G.ret _ _ _ _ _ _ _ _ (good_fb hJ2 (beq_iff_eq.mp e1) (by omega) (M.first _)))
 ·rw [if_neg e1]
  have e1':=beq_no e1
  refine wpS_bind (wp_elem (at_a (show i - 1<a.size by omega)) ?_)
  obtain ⟨ta,eka⟩:=key_of M.ia (show i - 1<a.size by omega)
  refine wpS_bind (wp_gallop (st:=setGal st g3) (left:=true) hk M.ib eka (by omega) (by omega) (λu v u1 u2 u3=>SL.up M.sb (Nat.le_refl _) u v (Nat.zero_le _) u2 (by omega)) λq k1 k2 k3=>?_)
  dsimp only
  have hlow:∀ p∈b.toList.take q,kv p<=kv (a[i - 1]'(by omega)):=λp hp=>by
   obtain ⟨m,hm,e⟩:=at_take hp
   have:=k2 m hm
   rw [Nat.zero_add] at this
   exact (bey_t e).1 this
  by_cases hk0:j - 1-q > 0
  ·rw [if_pos hk0]
   have hJ3:JH T (a.toList.take i) (b.toList.take q) (o.push (b[j - 1]'(by omega))++(b.extract q (j - 1)).reverse).toList.reverse:=by
    rw [rev_app]
    refine JH.takeY ?_ λp hp p' hp'=>?_
    ·rw [<-take_split k1];exact hJ2
    ·obtain ⟨m,m1,m2,e⟩:=at_ext hp
     have:=k3 m m1 m2
     rw [Nat.zero_add] at this
     exact Int.le_trans (last_ge M.sa h1 h2 p' hp') ((bey_t e).2 this)
   by_cases e2:(q == 1)=true
   ·rw [if_pos e2]
    exact wpS_pure (G.ret _ _ _ _ _ _ _ _ (good_fb hJ3 (beq_iff_eq.mp e2) (by omega) (M.first _)))
   ·rw [if_neg e2]
    have e2':=beq_no e2
    by_cases e3:(q == 0)=true
    ·rw [if_pos e3]
     exact wpS_pure (G.ret _ _ _ _ _ _ _ _ (good_dnJ hJ3 (beq_iff_eq.mp e3)))
    ·rw [if_neg e3]
     have e3':=beq_no e3
     exact wp_hiTail G hJ3 h1 h2 (by omega) (by omega) hlow (by omega)
  ·rw [if_neg hk0]
   obtain rfl:q=j - 1:=by omega
   exact wp_hiTail G hJ2 h1 h2 (by omega) (by omega) hlow (by omega)
theorem wp_hiA {rem:Nat}{o:Array Keyed}{i j g ac bc g3:Nat}{R:ForInStep HS->SortSt->Prop} (hk:kindOf st=oneType') (M:MSH a b) (G:GoesH st a b T rem R) (hJ:JH T (a.toList.take i) (b.toList.take j) o.toList.reverse) (h1:1<=i) (h2:i<=a.size) (h3:2<=j) (h4:j<=b.size)
  (hr:i+j<=rem):wpS (model prog w) A E s (hiA a b o i j g ac bc) R (setGal st g3):=by
 unfold hiA
 rw [setMinG_eq]
 refine wpS_bind (wpS_modify ?_)
 refine wpS_bind (wp_elem (at_a (show j - 1<b.size by omega)) ?_)
 obtain ⟨tb,ekb⟩:=key_of M.ib (show j - 1<b.size by omega)
 refine wpS_bind (wp_gallop (st:=setGal st g) (left:=false) hk M.ia ekb (by omega) (by omega) (λu v u1 u2 u3=>SL.up M.sa (Nat.le_refl _) u v (Nat.zero_le _) u2 (by omega)) λq k1 k2 k3=>?_)
 dsimp only
 have hlow:∀ p∈a.toList.take q,kv p<=kv (b[j - 1]'(by omega)):=λp hp=>by
  obtain ⟨m,hm,e⟩:=at_take hp
  have:=k2 m hm
  rw [Nat.zero_add] at this
  exact (bey_f e).1 this
 by_cases hk0:i-q > 0
 ·rw [if_pos hk0]
  have hJ2:JH T (a.toList.take q) (b.toList.take j) (o++(a.extract q i).reverse).toList.reverse:=by
   rw [rev_app]
   refine JH.takeX ?_ λp hp p' hp'=>?_
   ·rw [<-take_split k1];exact hJ
   ·obtain ⟨m,m1,m2,e⟩:=at_ext hp
    have:=k3 m m1 m2
    rw [Nat.zero_add] at this
    exact Int.le_trans (last_ge M.sb (by omega) h4 p' hp') ((bey_f e).2 this)
  by_cases e1:(q == 0)=true
  ·rw [if_pos e1]
   exact wpS_pure (G.ret _ _ _ _ _ _ _ _ (good_dnI hJ2 (beq_iff_eq.mp e1)))
  ·rw [if_neg e1]
   have e1':=beq_no e1
   exact wp_hiB hk M G hJ2 (by omega) (by omega) h3 h4 hlow (by omega)
 ·rw [if_neg hk0]
  obtain rfl:q=i:=by omega
  exact wp_hiB hk M G hJ h1 h2 h3 h4 hlow (by omega)
theorem wp_hiOne {o:Array Keyed}{i j ac bc g g3:Nat}{R:ForInStep HS1->SortSt->Prop} (hk:kindOf st=oneType') (M:MSH a b) (hJ:JH T (a.toList.take i) (b.toList.take j) o.toList.reverse) (h1:1<=i) (h2:i<=a.size) (h3:2<=j) (h4:j<=b.size)
  (r1:∀ (r o:Array Keyed) (i j ac bc:Nat),Good T r->R (.done (some r,i,j,o,ac,bc)) (setGal st g3))
  (r2:∀ (o':Array Keyed) (i' j' ac bc:Nat),JH T (a.toList.take i') (b.toList.take j') o'.toList.reverse->1<=i'->i'<=a.size->2<=j'->j'<=b.size->i'+j'+1=i+j->R (.done (none,i',j',o',ac,bc)) (setGal st g3)/\R (.yield (none,i',j',o',ac,bc)) (setGal st g3)) :
  wpS (model prog w) A E s (hiOne a b g (none,i,j,o,ac,bc)) R (setGal st g3):=by
 unfold hiOne
 dsimp only
 obtain ⟨ta,eka⟩:=key_of M.ia (show i - 1<a.size by omega)
 obtain ⟨tb,ekb⟩:=key_of M.ib (show j - 1<b.size by omega)
 refine wpS_bind (wp_elem (at_a (show j - 1<b.size by omega)) (wpS_bind (wp_elem (at_a (show i - 1<a.size by omega)) (wpS_bind (wp_lt (st:=setGal st g3) hk ekb eka ?_)))))
 dsimp only
 by_cases hlt:kv (b[j - 1]'(by omega))<kv (a[i - 1]'(by omega))
 ·rw [if_pos (decide_eq_true hlt)]
  refine wpS_bind (wp_elem (at_a (show i - 1<a.size by omega)) ?_)
  have hJ2:=oneX h1 h2 hJ λq hq=>Int.le_trans (last_ge M.sb (by omega) h4 q hq) (Int.le_of_lt hlt)
  by_cases e1:(i - 1 == 0)=true
  ·rw [if_pos e1]
   exact wpS_pure (r1 _ _ _ _ _ _ (good_dnI hJ2 (beq_iff_eq.mp e1)))
  ·rw [if_neg e1]
   have e1':=beq_no e1
   have hg:=r2 _ _ _ (ac+1) 0 hJ2 (by omega) (by omega) h3 h4 (by omega)
   by_cases e2:ac+1 ≥ g
   ·rw [if_pos e2];exact wpS_pure hg.1
   ·rw [if_neg e2];exact wpS_pure hg.2
 ·rw [if_neg λz=>hlt (of_decide_eq_true z)]
  refine wpS_bind (wp_elem (at_a (show j - 1<b.size by omega)) ?_)
  have hJ2:=oneY (by omega) h4 hJ λq hq=>Int.le_trans (last_ge M.sa h1 h2 q hq) (Int.not_lt.mp hlt)
  by_cases e1:(j - 1 == 1)=true
  ·rw [if_pos e1]
   exact wpS_pure (r1 _ _ _ _ _ _ (good_fb hJ2 (beq_iff_eq.mp e1) (by omega) (M.first _)))
  ·rw [if_neg e1]
   have e1':=beq_no e1
   have hg:=r2 _ _ _ 0 (bc+1) hJ2 h1 h2 (by omega) (by omega) (by omega)
   by_cases e2:bc+1 ≥ g
   ·rw [if_pos e2];exact wpS_pure hg.1
   ·rw [if_neg e2];exact wpS_pure hg.2
theorem wp_mergeHi {Q:Array Keyed->SortSt->Prop} (hk:kindOf st=oneType') (M:MSH a b) (ha:1<=a.size) (hb:1<=b.size) (h0:∀ q∈b.toList,kv q<=kv (a[a.size - 1]'(by omega)))
  (h:∀ r g,Good (a.toList++b.toList) r->Q r (setGal st g)):wpS (model prog w) A E s (mergeHi' a b) Q st:=by
 rw [mergeHi_is]
 have J1:JH (a.toList++b.toList) (a.toList.take (a.size - 1)) (b.toList.take b.size) #[a[a.size - 1]'(by omega)].toList.reverse:=by
  have J0:JH (a.toList++b.toList) (a.toList.take a.size) (b.toList.take b.size) (#[]:Array Keyed).toList.reverse:=by
   rw [List.take_of_length_le (by rw [Array.length_toList];exact Nat.le_refl _),List.take_of_length_le (by rw [Array.length_toList];exact Nat.le_refl _)]
   exact ⟨by rw [show (#[]:Array Keyed).toList.reverse=[] from rfl,List.append_nil],M.sa,M.sb,List.Pairwise.nil,λp hp q hq=>(nomatch hq),λp hp q hq=>(nomatch hq)⟩
  exact oneX ha (Nat.le_refl _) J0 λq hq=>h0 q (List.mem_of_mem_take hq)
 generalize a.toList++b.toList=T at J1 h
 refine wpS_bind (wpS_lift (wpAny_rule ⟨rfl,?_⟩))
 refine wpS_bind (wp_elem (at_a (show a.size - 1<a.size by omega)) ?_)
 by_cases c1:(a.size - 1 == 0)=true
 ·rw [if_pos c1]
  exact wpS_pure (h _ (gallopOf st) (good_dnI J1 (beq_iff_eq.mp c1)))
 rw [if_neg c1]
 by_cases c2:(b.size == 1)=true
 ·rw [if_pos c2]
  exact wpS_pure (h _ (gallopOf st) (good_fb J1 (beq_iff_eq.mp c2) hb (M.first _)))
 rw [if_neg c2]
 have c1':=beq_no c1
 have c2':=beq_no c2
 refine wpS_bind (wpS_get ?_)
 refine wpS_bind (wpS_mono (wpS_forRange (I:=λx c st'=>∃ (o:Array Keyed) (i j g g':Nat),c=(none,i,j,o,g)/\st'=setGal st g'/\JH T (a.toList.take i) (b.toList.take j) o.toList.reverse/\1<=i/\i<=a.size/\2<=j/\j<=b.size/\i+j+x<=a.size+b.size)
  (Q:=λc st'=>∃ (r:Array Keyed) (o:Array Keyed) (i j g g':Nat),c=(some r,i,j,o,g)/\st'=setGal st g'/\Good T r) ?step ?fin ⟨_,a.size - 1,b.size,_,gallopOf st,rfl,rfl,J1,by omega,by omega,by omega,by omega,by omega⟩) ?post)
 case post=>
  rintro c st' ⟨r,o,i,j,g,g',rfl,rfl,hg⟩
  exact wpS_pure (h r g' hg)
 case fin=>
  rintro c st' ⟨o,i,j,g,g',rfl,rfl,hJ,p1,p2,p3,p4,q3⟩
  rw [Nat.max_eq_right (Nat.zero_le _)] at q3
  omega
 case step=>
  rintro x c st' _ hx ⟨o,i,j,g,g',rfl,rfl,hJ,p1,p2,p3,p4,q3⟩
  unfold hiStep
  dsimp only
  refine wpS_bind (wpS_mono (wpS_forRange (I:=λy c st''=>∃ (o':Array Keyed) (i' j' ac bc:Nat),c=(none,i',j',o',ac,bc)/\st''=setGal st g'/\JH T (a.toList.take i') (b.toList.take j') o'.toList.reverse/\1<=i'/\i'<=a.size/\2<=j'/\j'<=b.size/\i'+j'+y<=i+j)
   (Q:=λc st''=>st''=setGal st g'/\((∃ (r:Array Keyed) (o':Array Keyed) (i' j' ac bc:Nat),c=(some r,i',j',o',ac,bc)/\Good T r)∨∃ (o':Array Keyed) (i' j' ac bc:Nat),c=(none,i',j',o',ac,bc)/\JH T (a.toList.take i') (b.toList.take j') o'.toList.reverse/\1<=i'/\i'<=a.size/\2<=j'/\j'<=b.size/\i'+j'<i+j)) ?s1 ?f1 ⟨o,i,j,0,0,rfl,rfl,hJ,p1,p2,p3,p4,by omega⟩) ?p1)
  case f1=>
   rintro c st'' ⟨o',i',j',ac,bc,rfl,rfl,hJ',t1,t2,t3,t4,r3⟩
   rw [Nat.max_eq_right (Nat.zero_le _)] at r3
   omega
  case s1=>
   rintro y c st'' _ hy ⟨o',i',j',ac,bc,rfl,rfl,hJ',t1,t2,t3,t4,r3⟩
   exact wp_hiOne hk M hJ' t1 t2 t3 t4 (λr o i j ac bc hg=>⟨rfl,.inl ⟨_,_,_,_,_,_,rfl,hg⟩⟩) λo2 i2 j2 ac bc hJ2 u1 u2 u3 u4 u5=>⟨⟨rfl,.inr ⟨_,_,_,_,_,rfl,hJ2,u1,u2,u3,u4,by omega⟩⟩,⟨_,_,_,_,_,rfl,rfl,hJ2,u1,u2,u3,u4,by omega⟩⟩
  case p1=>
   rintro c st'' ⟨rfl,(⟨r,o',i',j',ac,bc,rfl,hg⟩|⟨o',i',j',ac,bc,rfl,hJ',t1,t2,t3,t4,r3⟩)⟩
   ·exact wpS_pure ⟨r,_,_,_,_,g',rfl,rfl,hg⟩
   ·dsimp only
    refine wpS_bind (wpS_lift (wpAny_rule ⟨rfl,?_⟩))
    refine wpS_bind (wpS_mono (wpS_forRange (I:=λy c st''=>∃ (o':Array Keyed) (i' j' g2 ac bc g3:Nat),c=(none,i',j',o',g2,ac,bc)/\st''=setGal st g3/\JH T (a.toList.take i') (b.toList.take j') o'.toList.reverse/\1<=i'/\i'<=a.size/\2<=j'/\j'<=b.size/\i'+j'<i+j)
     (Q:=λc st''=>(∃ (r:Array Keyed) (o':Array Keyed) (i' j' g2 ac bc g3:Nat),c=(some r,i',j',o',g2,ac,bc)/\st''=setGal st g3/\Good T r)∨∃ (o':Array Keyed) (i' j' g2 ac bc g3:Nat),c=(none,i',j',o',g2,ac,bc)/\st''=setGal st g3/\JH T (a.toList.take i') (b.toList.take j') o'.toList.reverse/\1<=i'/\i'<=a.size/\2<=j'/\j'<=b.size/\i'+j'<i+j) ?s2 (λc st'' h'=>.inr h') ⟨o',i',j',_,_,_,g',rfl,rfl,hJ',t1,t2,t3,t4,r3⟩) ?p2)
    case p2=>
     rintro c st'' (⟨r,o',i',j',g2,ac,bc,g3,rfl,rfl,hg⟩|⟨o',i',j',g2,ac,bc,g3,rfl,rfl,hJ',t1,t2,t3,t4,r3⟩)
     ·exact wpS_pure ⟨r,_,_,_,_,g3,rfl,rfl,hg⟩
     ·dsimp only
      rw [setMinG_eq]
      exact wpS_bind (wpS_modify (wpS_pure ⟨o',i',j',_,_,rfl,rfl,hJ',t1,t2,t3,t4,by omega⟩))
    case s2=>
     rintro y c st'' _ hy ⟨o',i',j',g2,ac,bc,g3,rfl,rfl,hJ',t1,t2,t3,t4,r3⟩
     unfold hiTwo
     dsimp only
     have G:GoesH st a b T (i'+j') (λr st'=>match r with
       | .done c'=>(∃ (r:Array Keyed) (o':Array Keyed) (i' j' g2 ac bc g3:Nat),c'=(some r,i',j',o',g2,ac,bc)/\st'=setGal st g3/\Good T r)∨∃ (o':Array Keyed) (i' j' g2 ac bc g3:Nat),c'=(none,i',j',o',g2,ac,bc)/\st'=setGal st g3/\JH T (a.toList.take i') (b.toList.take j') o'.toList.reverse/\1<=i'/\i'<=a.size/\2<=j'/\j'<=b.size/\i'+j'<i+j
       | .yield c'=>∃ (o':Array Keyed) (i' j' g2 ac bc g3:Nat),c'=(none,i',j',o',g2,ac,bc)/\st'=setGal st g3/\JH T (a.toList.take i') (b.toList.take j') o'.toList.reverse/\1<=i'/\i'<=a.size/\2<=j'/\j'<=b.size/\i'+j'<i+j):=
      ⟨λr o i j g ac bc g3 hg=>.inl ⟨r,o,i,j,g,ac,bc,g3,rfl,rfl,hg⟩,λo2 i2 j2 g ac bc g3 hJ2 u1 u2 u3 u4 u5=>⟨.inr ⟨o2,i2,j2,g,ac,bc,g3,rfl,rfl,hJ2,u1,u2,u3,u4,by omega⟩,⟨o2,i2,j2,g,ac,bc,g3,rfl,rfl,hJ2,u1,u2,u3,u4,by omega⟩⟩⟩
     by_cases hg:g2 > 1
     ·rw [if_pos hg];exact wpS_mono (wp_hiA hk M G hJ' t1 t2 t3 t4 (Nat.le_refl _)) λr st' hr=>by cases r<;>exact hr
     ·rw [if_neg hg];exact wpS_mono (wp_hiA hk M G hJ' t1 t2 t3 t4 (Nat.le_refl _)) λr st' hr=>by cases r<;>exact hr
end
end Tim
namespace Tim
open PySem PyProof.Rows
theorem mergeAt'_eq (n:Nat):mergeAt' n=(do
 let s<-get
 let (some (u,m,pw),some (v,l,_)):=((pendingOf s)[n]?,(pendingOf s)[n+1]?)|unsupported "internal:list.sort.pending"
 set (setPending s (((pendingOf s).setIfInBounds n (u,m+l,pw)).eraseIdxIfInBounds (n+1)))
 let some k<-gallop' false (<-elem' (arrOf s) v) (arrOf s) u m 0|return false
 let (u,m):=(u+k,m-k)
 if m == 0 then return true
 let some l<-gallop' true (<-elem' (arrOf s) (u+m - 1)) (arrOf s) v l (l - 1)|return false
 if l == 0 then return true
 let x:=(arrOf s).extract u v
 let y:=(arrOf s).extract v (v+l)
 let r<-if m<=l then mergeLo' x y else mergeHi' x y
 modify λs=>setArr s (r.toList.zipIdx.foldl (λa (p,j)=>a.setIfInBounds (u+j) p) (arrOf s))
 return (failedOf (<-get)).isNone):=rfl
def putAt (xs:Array Keyed) (u:Nat) (r:List Keyed) (n:Nat):Array Keyed:=(r.zipIdx n).foldl (λa (p:Keyed×Nat)=>a.setIfInBounds (u+p.2) p.1) xs
theorem putAt_get:∀ (r:List Keyed) (xs:Array Keyed) (u n k:Nat),u+n+r.length<=xs.size->(putAt xs u r n)[k]?=if u+n<=k/\k<u+n+r.length then r[k-(u+n)]? else xs[k]?
 | [],xs,u,n,k,_=>by
  rw [if_neg (by rw [List.length_nil];omega)];rfl
 |p::r,xs,u,n,k,h=>by
  show (putAt (xs.setIfInBounds (u+n) p) u r (n+1))[k]?=_
  rw [List.length_cons] at h
  rw [putAt_get r _ u (n+1) k (by rw [Array.size_setIfInBounds];omega),Array.getElem?_setIfInBounds,List.length_cons]
  by_cases h1:u+(n+1)<=k/\k<u+(n+1)+r.length
  ·rw [if_pos h1,if_pos (by omega),show k-(u+n)=(k-(u+(n+1)))+1 by omega,List.getElem?_cons_succ]
  ·rw [if_neg h1]
   by_cases h2:u+n=k
   ·subst h2
    rw [if_pos rfl,if_pos (by omega),if_pos (by omega),Nat.sub_self]
    rfl
   ·rw [if_neg h2,if_neg (by omega)]
theorem putAt_list (xs:Array Keyed) (u:Nat) (r:List Keyed) (h:u+r.length<=xs.size):(putAt xs u r 0).toList=xs.toList.take u++r++xs.toList.drop (u+r.length):=by
 refine List.ext_getElem? λk=>?_
 rw [Array.getElem?_toList,putAt_get r xs u 0 k (by omega),Nat.add_zero]
 have hl:xs.toList.length=xs.size:=Array.length_toList
 by_cases h1:k<u
 ·rw [if_neg (by omega),List.append_assoc,List.getElem?_append_left (by rw [List.length_take];omega),List.getElem?_take_of_lt h1,Array.getElem?_toList]
 ·by_cases h2:k<u+r.length
  ·rw [if_pos ⟨by omega,h2⟩,List.append_assoc,List.getElem?_append_right (by rw [List.length_take];omega),List.length_take,Nat.min_eq_left (by omega),List.getElem?_append_left (by omega)]
  ·rw [if_neg (by omega),List.getElem?_append_right (by rw [List.length_append,List.length_take];omega),List.length_append,List.length_take,Nat.min_eq_left (by omega),List.getElem?_drop,show u+r.length+(k-(u+r.length))=k by omega,Array.getElem?_toList]
theorem seg_split (xs:Array Keyed) {u v:Nat} (h1:u<=v) (h2:v<=xs.size):xs.toList=xs.toList.take u++(xs.extract u v).toList++xs.toList.drop v:=by
 rw [<-take_split h1,List.take_append_drop]
theorem seg_cat (xs:Array Keyed) {u v t:Nat} (h1:u<=v) (h2:v<=t):(xs.extract u t).toList=(xs.extract u v).toList++(xs.extract v t).toList:=by
 have e1:=take_split (x:=xs) h1
 have e2:=take_split (x:=xs) h2
 have e3:=take_split (x:=xs) (Nat.le_trans h1 h2)
 rw [e1,e3,List.append_assoc] at e2
 exact List.append_cancel_left e2
theorem seg_size (xs:Array Keyed) {u v:Nat} (h2:v<=xs.size):(xs.extract u v).size=v-u:=by
 rw [Array.size_extract,Nat.min_eq_left h2]
theorem seg_sorted {xs:Array Keyed}{u v lo hi:Nat} (h:Up xs lo hi) (h1:lo<=u) (h2:v<=hi) (h3:v<=xs.size):SL (xs.extract u v).toList:=by
 refine List.pairwise_iff_getElem.mpr λi j hi' hj hij=>?_
 have hs:=seg_size xs (u:=u) h3
 rw [Array.length_toList] at hi' hj
 have e:∀ (n:Nat) (hn:n<(xs.extract u v).toList.length),xs.toList[u+n]?=some ((xs.extract u v).toList[n]'hn):=λn hn=>by
  rw [Array.length_toList] at hn
  rw [Array.getElem?_toList,getElem?_pos xs (u+n) (by omega)]
  congr 1
  rw [Array.getElem_toList,Array.getElem_extract]
 have a1:=K_kv (e i (by rw [Array.length_toList];exact hi'))
 have a2:=K_kv (e j (by rw [Array.length_toList];exact hj))
 rw [<-a1,<-a2]
 exact h _ _ (by omega) (by omega) (by omega)
theorem seg_keys {xs:Array Keyed}{u v:Nat} (h:IntKeys xs):IntKeys (xs.extract u v):=λp hp=>by
 refine h p ?_
 rw [Array.toList_extract,List.extract_eq_take_drop] at hp
 exact List.mem_of_mem_drop (List.mem_of_mem_take hp)
theorem merged_up {xs:Array Keyed}{r:Array Keyed}{sa sb k l nb:Nat} (hsz:sb+nb<=xs.size) (hk:sa+k<=sb) (hl:l<=nb) (ua:Up xs sa sb) (ub:Up xs sb (sb+nb)) (hkb:sa<sb) (hnb:0<nb)
  (g1:∀ i,i<k->K xs (sa+i)<=K xs sb) (g3:∀ i,l<=i->i<nb->K xs (sb - 1)<=K xs (sb+i)) (hG:Good ((xs.extract (sa+k) sb).toList++(xs.extract sb (sb+l)).toList) r) :
  OnlyIn sa (sb+nb) xs (putAt xs (sa+k) r.toList 0)/\Up (putAt xs (sa+k) r.toList 0) sa (sb+nb):=by
 have hcat:=seg_cat xs hk (show sb<=sb+l by omega)
 rw [<-hcat] at hG
 have hrl:r.toList.length=sb+l-(sa+k):=by
  rw [hG.2.length_eq,Array.length_toList,seg_size xs (by omega)]
 have hput:=putAt_list xs (sa+k) r.toList (by omega)
 have hget:=λj=>putAt_get r.toList xs (sa+k) 0 j (by omega)
 have hend:sa+k+r.toList.length=sb+l:=by omega
 refine ⟨⟨?_,λj hj=>?_⟩,λi j h1 h2 h3=>?_⟩
 ·refine Array.perm_iff_toList_perm.mpr ?_
  rw [hput,hend]
  have e:=seg_split xs (u:=sa+k) (v:=sb+l) (by omega) (by omega)
  refine List.Perm.trans ?_ (List.Perm.of_eq e.symm)
  exact List.Perm.append_right _ (List.Perm.append_left _ hG.2)
 ·rw [hget,if_neg (by omega)]
 ·
  have out:∀ j,(j<sa+k∨sb+l<=j)->K (putAt xs (sa+k) r.toList 0) j=K xs j:=λj hj=>K_congr (by rw [hget,if_neg (by omega)])
  have inn:∀ j,sa+k<=j->j<sb+l->∃ p,r.toList[j-(sa+k)]?=some p/\K (putAt xs (sa+k) r.toList 0) j=kv p/\∃ m,sa+k<=m/\m<sb+l/\K xs m=kv p:=λj j1 j2=>by
   have hj:j-(sa+k)<r.toList.length:=by omega
   refine ⟨r.toList[j-(sa+k)]'hj,List.getElem?_eq_getElem hj,?_,?_⟩
   ·refine K_kv ?_
    rw [Array.getElem?_toList,hget,if_pos (by omega),Nat.add_zero]
    exact List.getElem?_eq_getElem hj
   ·obtain ⟨m,m1,m2,e⟩:=at_ext (hG.2.mem_iff.mp (List.getElem_mem hj))
    exact ⟨m,m1,m2,K_kv e⟩
  by_cases a1:i<sa+k
  ·rw [out i (.inl a1)]
   by_cases b1:j<sa+k
   ·rw [out j (.inl b1)];exact ua i j h1 h2 (by omega)
   ·by_cases b2:j<sb+l
    ·obtain ⟨p,_,e,m,m1,m2,em⟩:=inn j (by omega) b2
     rw [e,<-em]
     by_cases c:m<sb
     ·exact ua i m h1 (by omega) c
     ·have x1:=g1 (i-sa) (by omega)
      rw [show sa+(i-sa)=i by omega] at x1
      exact Int.le_trans x1 (ub sb m (Nat.le_refl _) (by omega) (by omega))
    ·rw [out j (.inr (by omega))]
     have x1:=g1 (i-sa) (by omega)
     rw [show sa+(i-sa)=i by omega] at x1
     exact Int.le_trans x1 (ub sb j (Nat.le_refl _) (by omega) h3)
  ·by_cases a2:i<sb+l
   ·obtain ⟨p,ep,e,m,m1,m2,em⟩:=inn i (by omega) a2
    rw [e]
    by_cases b2:j<sb+l
    ·obtain ⟨p',ep',e',_⟩:=inn j (by omega) b2
     rw [e']
     by_cases z:i=j
     ·subst z
      rw [ep] at ep'
      cases ep'
      exact Int.le_refl _
     ·obtain ⟨l1,x1⟩:=List.getElem?_eq_some_iff.mp ep
      obtain ⟨l2,x2⟩:=List.getElem?_eq_some_iff.mp ep'
      have:=List.pairwise_iff_getElem.mp hG.1 _ _ l1 l2 (by omega)
      rw [x1,x2] at this
      exact this
    ·rw [out j (.inr (by omega)),<-em]
     by_cases c:m<sb
     ·have x1:=g3 (j-sb) (by omega) (by omega)
      rw [show sb+(j-sb)=j by omega] at x1
      exact Int.le_trans (ua m (sb - 1) (by omega) (by omega) (by omega)) x1
     ·exact ub m j (by omega) (by omega) h3
   ·rw [out i (.inr (by omega)),out j (.inr (by omega))]
    exact ub i j (by omega) h2 h3
section
variable {prog:Program}{w:World}{A:Around}{E:Value->Shared->Prop}{s:Shared}{st:SortSt}
theorem bey_K (left:Bool) (v:Int) (xs:Array Keyed) (i:Nat):(Bey left v xs i=true->K xs i<=v)/\(Bey left v xs i=false->v<=K xs i):=by
 unfold Bey
 cases left
 ·rw [if_neg (by decide)]
  constructor
  ·intro z;exact Int.not_lt.mp λy=>by rw [decide_eq_true y] at z;cases z
  ·intro z
   by_cases y:v<K xs i
   ·exact Int.le_of_lt y
   ·rw [decide_eq_false y] at z;cases z
 ·rw [if_pos rfl]
  constructor
  ·intro z;exact Int.le_of_lt (of_decide_eq_true z)
  ·intro z;exact Int.not_lt.mp λy=>by rw [decide_eq_true y] at z;cases z
theorem up_join {xs:Array Keyed}{sa sb hi:Nat} (ua:Up xs sa sb) (ub:Up xs sb hi) (hab:sa<sb) (hbh:sb<hi) (h:K xs (sb - 1)<=K xs sb):Up xs sa hi:=λi j h1 h2 h3=>by
 by_cases a:j<sb
 ·exact ua i j h1 h2 a
 ·by_cases b:i<sb
  ·exact Int.le_trans (Int.le_trans (ua i (sb - 1) h1 (by omega) (by omega)) h) (ub sb j (Nat.le_refl _) (by omega) h3)
  ·exact ub i j (by omega) h2 h3
theorem wp_mergeAt {n sa na pw sb nb pw':Nat}{Q:Bool->SortSt->Prop} (hk:kindOf st=oneType') (hf:failedOf st=none) (hI:IntKeys (arrOf st)) (hp:(pendingOf st)[n]?=some (sa,na,pw)) (hp':(pendingOf st)[n+1]?=some (sb,nb,pw')) (hsb:sb=sa+na) (hna:1<=na) (hnb:1<=nb) (hsz:sb+nb<=(arrOf st).size)
  (ua:Up (arrOf st) sa sb) (ub:Up (arrOf st) sb (sb+nb))
  (h:∀ (ys:Array Keyed) (g:Nat),OnlyIn sa (sb+nb) (arrOf st) ys->Up ys sa (sb+nb)->Q true (SortSt.mk' oneType' ys (((pendingOf st).setIfInBounds n (sa,na+nb,pw)).eraseIdxIfInBounds (n+1)) g none)) :
  wpS (model prog w) A E s (mergeAt' n) Q st:=by
 rw [mergeAt'_eq]
 refine wpS_bind (wpS_get ?_)
 rw [hp,hp']
 dsimp only
 have hset:∀ {R:PUnit->SortSt->Prop}{st2 st':SortSt},R ⟨⟩ st2->wpS (model prog w) A E s (set st2:StateT SortSt Sem PUnit) R st':=λ{R st2 st'} hr=>by
  unfold wpS
  exact wpAny_pure ⟨rfl,hr⟩
 refine wpS_bind (hset ?_)
 obtain ⟨kd,xs,pd,gl,fl⟩:=st
 obtain rfl:kd=oneType':=hk
 obtain rfl:fl=none:=hf
 replace hsz:sb+nb<=xs.size:=hsz
 replace ua:Up xs sa sb:=ua
 replace ub:Up xs sb (sb+nb):=ub
 replace hI:IntKeys xs:=hI
 obtain ⟨t1,q1,e1⟩:=key_at hI (show sb<xs.size by omega)
 refine wpS_bind (wp_elem e1 ?_)
 refine wpS_bind (wp_gallop (arr:=xs) (left:=false) (kv:=K xs sb) rfl hI rfl (show sa+na<=xs.size by omega) (by omega) (λi j h1 h2 h3=>ua i j h1 h2 (by omega)) λk k1 k2 k3=>?_)
 dsimp only
 by_cases c1:(na-k == 0)=true
 ·rw [if_pos c1]
  have hk':k=na:=by have:=beq_iff_eq.mp c1;omega
  refine wpS_pure (h xs _ .refl (up_join ua ub (by omega) (by omega) ?_))
  have:=(bey_K _ _ _ _).1 (k2 (na - 1) (by omega))
  rw [show sa+(na - 1)=sb - 1 by omega] at this
  exact this
 ·rw [if_neg c1]
  have c1':=beq_no c1
  obtain ⟨t2,q2,e2⟩:=key_at hI (show sb - 1<xs.size by omega)
  refine wpS_bind (wp_elem (show xs[sa+k+(na-k) - 1]?=some _ by rw [show sa+k+(na-k) - 1=sb - 1 by omega];exact e2) ?_)
  refine wpS_bind (wp_gallop (arr:=xs) (left:=true) (kv:=K xs (sb - 1)) rfl hI rfl hsz (by omega) ub λl l1 l2 l3=>?_)
  dsimp only
  by_cases c2:(l == 0)=true
  ·rw [if_pos c2]
   have hl':l=0:=beq_iff_eq.mp c2
   refine wpS_pure (h xs _ .refl (up_join ua ub (by omega) (by omega) ?_))
   have:=(bey_K _ _ _ _).2 (l3 0 (by omega) (by omega))
   exact this
  ·rw [if_neg c2]
   have c2':=beq_no c2
   have sx:(xs.extract (sa+k) sb).size=sb-(sa+k):=seg_size xs (by omega)
   have sy:(xs.extract sb (sb+l)).size=l:=by rw [seg_size xs (by omega)];omega
   have atx:∀ {m:Nat} (hm:m<(xs.extract (sa+k) sb).size),kv ((xs.extract (sa+k) sb)[m]'hm)=K xs (sa+k+m):=λ{m} hm=>by
    rw [Array.getElem_extract]
    exact (K_kv (by rw [Array.getElem?_toList];exact getElem?_pos xs _ (by omega))).symm
   have aty:∀ {m:Nat} (hm:m<(xs.extract sb (sb+l)).size),kv ((xs.extract sb (sb+l))[m]'hm)=K xs (sb+m):=λ{m} hm=>by
    rw [Array.getElem_extract]
    exact (K_kv (by rw [Array.getElem?_toList];exact getElem?_pos xs _ (by omega))).symm
   have memy:∀ q∈(xs.extract sb (sb+l)).toList,kv q<=K xs (sb - 1):=λq hq=>by
    obtain ⟨m,m1,m2,e⟩:=at_ext hq
    rw [<-K_kv e]
    have:=(bey_K _ _ _ _).1 (l2 (m-sb) (by omega))
    rw [show sb+(m-sb)=m by omega] at this
    exact this
   have memx:∀ q∈(xs.extract (sa+k) sb).toList,K xs sb<=kv q:=λq hq=>by
    obtain ⟨m,m1,m2,e⟩:=at_ext hq
    rw [<-K_kv e]
    have:=(bey_K _ _ _ _).2 (k3 (m-sa) (by omega) (by omega))
    rw [show sa+(m-sa)=m by omega] at this
    exact this
   have ssx:=seg_sorted (u:=sa+k) (v:=sb) ua (by omega) (Nat.le_refl _) (by omega)
   have ssy:=seg_sorted (u:=sb) (v:=sb+l) ub (Nat.le_refl _) (by omega) (by omega)
   have fin:∀ (r:Array Keyed) (g:Nat),Good ((xs.extract (sa+k) sb).toList++(xs.extract sb (sb+l)).toList) r->wpS (model prog w) A E s (do
     modify λs=>setArr s (r.toList.zipIdx.foldl (λa (p:Keyed×Nat)=>a.setIfInBounds (sa+k+p.2) p.1) (arrOf s))
     let s<-get
     pure (failedOf s).isNone) Q (SortSt.mk' oneType' xs ((pd.setIfInBounds n (sa,na+nb,pw)).eraseIdxIfInBounds (n+1)) g none):=λr g hG=>by
    obtain ⟨m1,m2⟩:=merged_up (xs:=xs) (r:=r) hsz (by omega) l1 ua ub (by omega) (by omega) (λi hi=>(bey_K _ _ _ _).1 (k2 i hi)) (λi i1 i2=>(bey_K _ _ _ _).2 (l3 i i1 i2)) hG
    refine wpS_bind (wpS_modify (wpS_bind (wpS_get (wpS_pure ?_))))
    exact h (putAt xs (sa+k) r.toList 0) g m1 m2
   by_cases c3:na-k<=l
   ·rw [if_pos c3]
    refine wpS_bind (wp_mergeLo (a:=xs.extract (sa+k) sb) (b:=xs.extract sb (sb+l)) rfl ⟨seg_keys hI,seg_keys hI,ssx,ssy,λi hi q hq=>?_⟩ (show 1<=(xs.extract (sa+k) sb).size by omega) (show 1<=(xs.extract sb (sb+l)).size by omega) ?_ λr g hG=>fin r g hG)
    ·rw [atx,show sa+k+i=sb - 1 by omega];exact memy q hq
    ·rw [aty,Nat.add_zero]
     exact memx _ (Array.mem_toList_iff.mpr (Array.getElem_mem _))
   ·rw [if_neg c3]
    refine wpS_bind (wp_mergeHi (a:=xs.extract (sa+k) sb) (b:=xs.extract sb (sb+l)) rfl ⟨seg_keys hI,seg_keys hI,ssx,ssy,λhb q hq=>?_⟩ (show 1<=(xs.extract (sa+k) sb).size by omega) (show 1<=(xs.extract sb (sb+l)).size by omega) (λq hq=>?_) λr g hG=>fin r g hG)
    ·rw [aty,Nat.add_zero];exact memx q hq
    ·rw [atx,show sa+k+((xs.extract (sa+k) sb).size - 1)=sb - 1 by omega];exact memy q hq
end
end Tim
namespace Tim
open PySem PyProof.Rows
abbrev Pd:=Array (Nat×Nat×Nat)
def tl (p:Nat×Nat×Nat):Nat×Nat:=(p.1,p.2.1)
def Tiled (xs:Array Keyed):List (Nat×Nat)->Nat->Nat->Prop
 | [],s,e=>s=e
 |p::r,s,e=>p.1=s/\1<=p.2/\Up xs s (s+p.2)/\Tiled xs r (s+p.2) e
theorem Tiled.le {xs:Array Keyed}:∀ {l:List (Nat×Nat)}{s e:Nat},Tiled xs l s e->s+l.length<=e
 | [],s,e,h=>by have:s=e:=h;simp;omega
 |p::r,s,e,h=>by have:=h.2.2.2.le;have:=h.2.1;rw [List.length_cons];omega
theorem Tiled.congr {xs ys:Array Keyed}:∀ {l:List (Nat×Nat)}{s e:Nat},Tiled xs l s e->(∀ k,s<=k->k<e->K ys k=K xs k)->Tiled ys l s e
 | [],s,e,h,_=>h
 |p::r,s,e,h,hk=>by
  have hle:=h.2.2.2.le
  have h1:=h.2.1
  refine ⟨h.1,h1,λi j i1 i2 i3=>?_,Tiled.congr h.2.2.2 λk k1 k2=>hk k (by omega) k2⟩
  rw [hk i (by omega) (by omega),hk j (by omega) (by omega)]
  exact h.2.2.1 i j i1 i2 i3
theorem Tiled.snoc {xs:Array Keyed}{n:Nat}:∀ {l:List (Nat×Nat)}{s e:Nat},Tiled xs l s e->1<=n->Up xs e (e+n)->Tiled xs (l++[(e,n)]) s (e+n)
 | [],s,e,h,h1,h2=>by
  have e1:s=e:=h
  subst e1
  exact ⟨rfl,h1,h2,rfl⟩
 |p::r,s,e,h,h1,h2=>⟨h.1,h.2.1,h.2.2.1,Tiled.snoc h.2.2.2 h1 h2⟩
theorem Tiled.at {xs:Array Keyed}:∀ {l:List (Nat×Nat)}{s e n sa na sb nb:Nat},Tiled xs l s e->l[n]?=some (sa,na)->l[n+1]?=some (sb,nb)->
  sb=sa+na/\1<=na/\1<=nb/\s<=sa/\sb+nb<=e/\Up xs sa sb/\Up xs sb (sb+nb)/\∀ ys,OnlyIn sa (sb+nb) xs ys->Up ys sa (sb+nb)->Tiled ys ((l.set n (sa,na+nb)).eraseIdx (n+1)) s e
 | [],_,_,_,_,_,_,_,_,e1,_=>by simp at e1
 | [p],s,e,n,sa,na,sb,nb,h,e1,e2=>by simp at e2
 |p::q::r,s,e,0,sa,na,sb,nb,h,e1,e2=>by
  cases e1
  cases e2
  obtain ⟨h1,h2,h3,h4,h5,h6,h7⟩:=h
  have h1':sa=s:=h1
  subst h1'
  have h4':sb=sa+na:=h4
  have hle:=h7.le
  refine ⟨h4',h2,h5,Nat.le_refl _,by show sb+nb<=e;rw [h4'];exact Nat.le_trans (Nat.le_add_right _ _) hle,by rw [h4'];exact h3,by rw [h4'];exact h6,λys hy hu=>?_⟩
  refine ⟨rfl,by show 1<=na+nb;omega,by rw [<-Nat.add_assoc,<-h4'];exact hu,?_⟩
  show Tiled ys r (sa+(na+nb)) e
  rw [<-Nat.add_assoc]
  exact Tiled.congr h7 λk k1 k2=>hy.key (.inr (by rw [h4'];exact k1))
 |p::q::r,s,e,n+1,sa,na,sb,nb,h,e1,e2=>by
  obtain ⟨h1,h2,h3,h4⟩:=h
  obtain ⟨a1,a2,a3,a4,a5,a6,a7,a8⟩:=Tiled.at h4 (by simpa using e1) (by simpa using e2)
  refine ⟨a1,a2,a3,by omega,a5,a6,a7,λys hy hu=>⟨h1,h2,λi j i1 i2 i3=>?_,a8 ys hy hu⟩⟩
  rw [hy.key (.inl (by omega)),hy.key (.inl (by omega))]
  exact h3 i j i1 i2 i3
theorem map_modify {α β:Type} (f:α->β) (g:α->α) (h:∀ x,f (g x)=f x):∀ (l:List α) (i:Nat),(l.modify i g).map f=l.map f
 | [],i=>by cases i<;>rfl
 |x::l,0=>by show f (g x)::l.map f=_;rw [h];rfl
 |x::l,i+1=>by show f x::(l.modify i g).map f=_;rw [map_modify f g h l i];rfl
theorem map_set_erase {α β:Type} (f:α->β) (v:α):∀ (l:List α) (n:Nat),((l.set n v).eraseIdx (n+1)).map f=((l.map f).set n (f v)).eraseIdx (n+1)
 | [],n=>rfl
 | [x],0=>rfl
 | [x],n+1=>rfl
 |x::y::l,0=>rfl
 |x::y::l,n+1=>by
  show f x::(((y::l).set n v).eraseIdx (n+1)).map f=_
  rw [map_set_erase f v (y::l) n]
  rfl
theorem pd_merge (pd:Pd) (n:Nat) (v:Nat×Nat×Nat):((pd.setIfInBounds n v).eraseIdxIfInBounds (n+1)).toList=(pd.toList.set n v).eraseIdx (n+1):=by
 rw [Array.toList_eraseIdxIfInBounds,Array.toList_setIfInBounds]
abbrev stOf (xs:Array Keyed) (pd:Pd) (g:Nat):SortSt:=SortSt.mk' oneType' xs pd g none
section
variable {prog:Program}{w:World}{A:Around}{E:Value->Shared->Prop}{s:Shared}
theorem wp_mergeTile {xs:Array Keyed}{pd:Pd}{g n e:Nat}{Q:Bool->SortSt->Prop} (hI:IntKeys xs) (hT:Tiled xs (pd.toList.map tl) 0 e) (he:e<=xs.size) (hn:n+1<pd.size)
  (h:∀ (ys:Array Keyed) (pd':Pd) (g':Nat),OnlyIn 0 xs.size xs ys->(∀ k,e<=k->ys[k]?=xs[k]?)->Tiled ys (pd'.toList.map tl) 0 e->pd'.size+1=pd.size->Q true (stOf ys pd' g')):wpS (model prog w) A E s (mergeAt' n) Q (stOf xs pd g):=by
 have e1:pd[n]?=some (pd[n]'(by omega)):=getElem?_pos pd n (by omega)
 have e2:pd[n+1]?=some (pd[n+1]'hn):=getElem?_pos pd (n+1) hn
 generalize pd[n]'(by omega)=x at e1
 generalize pd[n+1]'hn=y at e2
 obtain ⟨sa,na,pw⟩:=x
 obtain ⟨sb,nb,pw'⟩:=y
 have t1:(pd.toList.map tl)[n]?=some (sa,na):=by rw [List.getElem?_map,Array.getElem?_toList,e1];rfl
 have t2:(pd.toList.map tl)[n+1]?=some (sb,nb):=by rw [List.getElem?_map,Array.getElem?_toList,e2];rfl
 obtain ⟨a1,a2,a3,a4,a5,a6,a7,a8⟩:=hT.at t1 t2
 refine wp_mergeAt (st:=stOf xs pd g) rfl rfl hI e1 e2 a1 a2 a3 (by show sb+nb<=xs.size;omega) a6 a7 λys g' hy hu=>?_
 refine h ys _ g' (hy.mono (Nat.zero_le _) (by omega)) (λk hk=>hy.2 k (.inr (by omega))) ?_ ?_
 ·rw [pd_merge,map_set_erase]
  exact a8 ys hy hu
 ·rw [<-Array.length_toList,pd_merge,List.length_eraseIdx,List.length_set,Array.length_toList]
  show (if n+1<pd.size then pd.size - 1 else pd.size)+1=pd.size
  rw [if_pos hn]
  omega
end
end Tim
namespace Tim
open PySem PyProof.Rows
abbrev R2:=Option Unit×Unit
abbrev RN:=Option Unit×Nat
def colL (size pw:Nat):StateT SortSt Sem R2:=
 forIn [:size] ((none,()):R2) λ_ _=>do
  let s<-get
  match (if (pendingOf s).size > 1 then (pendingOf s)[(pendingOf s).size - 2]? else none) with
  |some (_,_,older)=>
   if older<=pw then pure (ForInStep.done (none,()))
   else do
    let ok<-mergeAt' ((pendingOf s).size - 2)
    if (!ok)=true then pure (ForInStep.done (some (),())) else pure (ForInStep.yield (none,()))
  |_=>pure (ForInStep.done (none,()))
def pushL (lo n:Nat):StateT SortSt Sem (ForInStep RN):=do
 modify λs=>setPending s ((pendingOf s).push (lo,n,0))
 pure (ForInStep.yield (none,lo+n))
def midL (size lo n:Nat):StateT SortSt Sem (ForInStep RN):=do
 let s<-get
 match (pendingOf s).back? with
 |some (s1,n1,_)=>do
  let c<-colL size (power' size (2 * s1+n1) (2 * s1+n1+n1+n) size)
  match c.1 with
  |some r=>pure (ForInStep.done (some r,lo))
  |none=>do
   modify λs=>setPending s ((pendingOf s).modify ((pendingOf s).size - 1) λx=>(x.1,x.2.1,power' size (2 * s1+n1) (2 * s1+n1+n1+n) size))
   pushL lo n
 |_=>pushL lo n
def runL (size mr lo:Nat):StateT SortSt Sem (ForInStep RN):=
 if lo ≥ size then pure (ForInStep.done (none,lo))
 else do
  let x<-countRun' lo (size-lo)
  match x with
  |some n=>
   if n<mr then do
    liftM (rule "list.sort.binary-insertion")
    let ok<-binarySort' lo (min (size-lo) mr) n
    if (!ok)=true then pure (ForInStep.done (some (),lo)) else midL size lo (min (size-lo) mr)
   else midL size lo n
  |_=>pure (ForInStep.done (some (),lo))
def pickI (p:Pd):Nat:=if ((if p.size - 2 > 0 then p[p.size - 2 - 1]?.map (·.2.1) else none).any λx=>decide (x<(p[p.size - 2+1]?.elim 0 λx=>x.2.1)))=true then p.size - 2 - 1 else p.size - 2
theorem ite_pred {c:Prop} [Decidable c] {n:Nat}:(if c then n - 1 else n)<=n:=by split<;>omega
theorem pick_le (p:Pd):pickI p<=p.size - 2:=ite_pred
def endL (size:Nat):StateT SortSt Sem R2:=
 forIn [:size] ((none,()):R2) λ_ _=>do
  let s<-get
  if (pendingOf s).size<=1 then pure (ForInStep.done (none,()))
  else do
   let ok<-mergeAt' (pickI (pendingOf s))
   if (!ok)=true then pure (ForInStep.done (some (),())) else pure (ForInStep.yield (none,()))
theorem sort_is:sortRuns'=(do
  let s<-get
  let c<-forIn [:(arrOf s).size] ((none,0):RN) λ_ c=>runL (arrOf s).size (minRun' (arrOf s).size (arrOf s).size 0) c.2
  match c.1 with
  |some r=>pure r
  |none=>do
   let d<-endL (arrOf s).size
   match d.1 with
   |some r=>pure r
   |none=>pure ()):=by
 rw [sortRuns'_eq]
 refine bind2 rfl λs=>?_
 refine bind2 (forC λ_ c=>?_) λc=>?_
 ·refine iteC rfl (bind2 rfl λx=>?_)
  cases x with
  |none=>rfl
  |some n=>
   refine iteC (bind2 rfl λ_=>bind2 rfl λok=>iteC rfl ?_) ?_
   all_goals
    refine bind2 rfl λs2=>?_
    cases hb:(pendingOf s2).back? with
    |none=>simp only [hb];rfl
    |some y=>
     obtain ⟨s1,n1,p1⟩:=y
     simp only [hb]
     refine bind2 (forC λ_ e=>bind2 rfl λs3=>?_) λe=>?_
     ·cases hx:(if (pendingOf s3).size > 1 then (pendingOf s3)[(pendingOf s3).size - 2]? else none) with
      |none=>simp only [hx]
      |some z=>
       obtain ⟨z1,z2,z3⟩:=z
       simp only [hx]
     ·obtain ⟨r,e⟩:=e
      cases r<;>rfl
 ·obtain ⟨r,c⟩:=c
  cases r with
  |some r=>rfl
  |none=>
   refine bind2 (forC λ_ e=>bind2 rfl λs3=>iteC rfl (bind2 rfl λok=>iteC rfl rfl)) λe=>?_
   obtain ⟨r,e⟩:=e
   cases r<;>rfl
theorem Up.congr {xs ys:Array Keyed}{lo hi:Nat} (h:Up xs lo hi) (hk:∀ k,lo<=k->k<hi->K ys k=K xs k):Up ys lo hi:=λi j h1 h2 h3=>by
 rw [hk i h1 (by omega),hk j (by omega) h3]
 exact h i j h1 h2 h3
section
variable {prog:Program}{w:World}{A:Around}{E:Value->Shared->Prop}{s:Shared}
theorem wp_col {xs:Array Keyed}{pd:Pd}{g size pw e:Nat}{Q:R2->SortSt->Prop} (hI:IntKeys xs) (hT:Tiled xs (pd.toList.map tl) 0 e) (he:e<=xs.size)
  (h:∀ (ys:Array Keyed) (pd':Pd) (g':Nat),OnlyIn 0 xs.size xs ys->(∀ k,e<=k->ys[k]?=xs[k]?)->Tiled ys (pd'.toList.map tl) 0 e->Q (none,()) (stOf ys pd' g')):wpS (model prog w) A E s (colL size pw) Q (stOf xs pd g):=by
 unfold colL
 refine wpS_forRange (I:=λ_ c st'=>c=(none,())/\∃ (ys:Array Keyed) (pd':Pd) (g':Nat),st'=stOf ys pd' g'/\OnlyIn 0 xs.size xs ys/\(∀ k,e<=k->ys[k]?=xs[k]?)/\Tiled ys (pd'.toList.map tl) 0 e) ?step ?fin ⟨rfl,xs,pd,g,rfl,.refl,λ_ _=>rfl,hT⟩
 case fin=>
  rintro c st' ⟨rfl,ys,pd',g',rfl,h1,h2,h3⟩
  exact h ys pd' g' h1 h2 h3
 case step=>
  rintro x c st' _ _ ⟨rfl,ys,pd',g',rfl,h1,h2,h3⟩
  refine wpS_bind (wpS_get ?_)
  show wpS _ _ _ _ (match (if pd'.size > 1 then pd'[pd'.size - 2]? else none) with
   |some (_,_,older)=>if older<=pw then pure (ForInStep.done (none,())) else (do
    let ok<-mergeAt' (pd'.size - 2)
    if (!ok)=true then pure (ForInStep.done (some (),())) else pure (ForInStep.yield (none,())))
   |_=>pure (ForInStep.done (none,()))) _ _
  by_cases c1:pd'.size > 1
  ·rw [if_pos c1,getElem?_pos pd' (pd'.size - 2) (by omega)]
   generalize pd'[pd'.size - 2]'(by omega)=z
   obtain ⟨z1,z2,z3⟩:=z
   dsimp only
   by_cases c2:z3<=pw
   ·rw [if_pos c2]
    exact wpS_pure (h ys pd' g' h1 h2 h3)
   ·rw [if_neg c2]
    refine wpS_bind (wp_mergeTile (h1.keys hI) h3 (by rw [h1.size];exact he) (by omega) λzs pd2 g2 t1 t2 t3 _=>?_)
    rw [if_neg (by decide)]
    refine wpS_pure ⟨rfl,zs,pd2,g2,rfl,h1.trans (by rw [h1.size] at t1;exact t1),λk hk=>(t2 k hk).trans (h2 k hk),t3⟩
  ·rw [if_neg c1]
   exact wpS_pure (h ys pd' g' h1 h2 h3)
theorem wp_push {xs:Array Keyed}{pd:Pd}{g lo n:Nat}{R:ForInStep RN->SortSt->Prop} (hT:Tiled xs (pd.toList.map tl) 0 lo) (hn:1<=n) (hu:Up xs lo (lo+n))
  (h:∀ pd':Pd,Tiled xs (pd'.toList.map tl) 0 (lo+n)->R (.yield (none,lo+n)) (stOf xs pd' g)):wpS (model prog w) A E s (pushL lo n) R (stOf xs pd g):=by
 unfold pushL
 refine wpS_bind (wpS_modify (wpS_pure (h (pd.push (lo,n,0)) ?_)))
 rw [Array.toList_push,List.map_append]
 exact hT.snoc hn hu
theorem wp_mid {xs:Array Keyed}{pd:Pd}{g size lo n:Nat}{R:ForInStep RN->SortSt->Prop} (hI:IntKeys xs) (hT:Tiled xs (pd.toList.map tl) 0 lo) (hn:1<=n) (hsz:lo+n<=xs.size) (hu:Up xs lo (lo+n))
  (h:∀ (ys:Array Keyed) (pd':Pd) (g':Nat),OnlyIn 0 xs.size xs ys->Tiled ys (pd'.toList.map tl) 0 (lo+n)->R (.yield (none,lo+n)) (stOf ys pd' g')):wpS (model prog w) A E s (midL size lo n) R (stOf xs pd g):=by
 unfold midL
 refine wpS_bind (wpS_get ?_)
 show wpS _ _ _ _ (match pd.back? with
  |some (s1,n1,_)=>(do
   let c<-colL size (power' size (2 * s1+n1) (2 * s1+n1+n1+n) size)
   match c.1 with
   |some r=>pure (ForInStep.done (some r,lo))
   |none=>do
    modify λs=>setPending s ((pendingOf s).modify ((pendingOf s).size - 1) λx=>(x.1,x.2.1,power' size (2 * s1+n1) (2 * s1+n1+n1+n) size))
    pushL lo n)
  |_=>pushL lo n) _ _
 cases pd.back? with
 |none=>exact wp_push hT hn hu λpd' hp=>h xs pd' g .refl hp
 |some y=>
  obtain ⟨s1,n1,p1⟩:=y
  dsimp only
  refine wpS_bind (wp_col hI hT (by omega) λys pd' g' t1 t2 t3=>?_)
  dsimp only
  refine wpS_bind (wpS_modify ?_)
  refine wp_push (pd:=pd'.modify (pd'.size - 1) λx=>(x.1,x.2.1,power' size (2 * s1+n1) (2 * s1+n1+n1+n) size)) ?_ hn (hu.congr λk k1 k2=>K_congr (t2 k k1)) λpd2 hp=>h ys pd2 g' t1 hp
  have em:=map_modify tl (λx=>(x.1,x.2.1,power' size (2 * s1+n1) (2 * s1+n1+n1+n) size)) (λ_=>rfl) pd'.toList (pd'.size - 1)
  rw [Array.toList_modify]
  exact em ▸ t3
theorem wp_run {xs:Array Keyed}{pd:Pd}{g mr lo:Nat}{R:ForInStep RN->SortSt->Prop} (hI:IntKeys xs) (hT:Tiled xs (pd.toList.map tl) 0 lo) (hlo:lo<=xs.size) (hmr:1<=mr)
  (h1:lo=xs.size->R (.done (none,lo)) (stOf xs pd g))
  (h2:∀ (n:Nat) (ys:Array Keyed) (pd':Pd) (g':Nat),1<=n->lo+n<=xs.size->OnlyIn 0 xs.size xs ys->Tiled ys (pd'.toList.map tl) 0 (lo+n)->R (.yield (none,lo+n)) (stOf ys pd' g')):wpS (model prog w) A E s (runL xs.size mr lo) R (stOf xs pd g):=by
 unfold runL
 by_cases c1:lo ≥ xs.size
 ·rw [if_pos c1]
  exact wpS_pure (h1 (by omega))
 ·rw [if_neg c1]
  refine wpS_bind (wp_countRun (st:=stOf xs pd g) rfl hI (by show lo+(xs.size-lo)<=xs.size;omega) (by omega) λm ys m1 m2 m3 m4=>?_)
  replace m3:OnlyIn lo (lo+(xs.size-lo)) xs ys:=m3
  rw [show lo+(xs.size-lo)=xs.size by omega] at m3
  have hy:Tiled ys (pd.toList.map tl) 0 lo:=hT.congr λk _ k2=>m3.key (.inl k2)
  have hsz:=m3.size
  show wpS _ _ _ _ (if m<mr then (do
    liftM (rule "list.sort.binary-insertion")
    let ok<-binarySort' lo (min (xs.size-lo) mr) m
    if (!ok)=true then pure (ForInStep.done (some (),lo)) else midL xs.size lo (min (xs.size-lo) mr))
   else midL xs.size lo m) R (stOf ys pd g)
  by_cases c2:m<mr
  ·rw [if_pos c2]
   refine wpS_bind (wpS_lift (wpAny_rule ⟨rfl,?_⟩))
   refine wpS_bind (wp_binary (st:=stOf ys pd g) rfl (m3.keys hI) (by show lo+min (xs.size-lo) mr<=ys.size;omega) (by omega) m1 m4 λzs t1 t2=>?_)
   rw [if_neg (by decide)]
   replace t1:OnlyIn lo (lo+min (xs.size-lo) mr) ys zs:=t1
   have t3:OnlyIn 0 xs.size xs zs:=(m3.mono (Nat.zero_le _) (Nat.le_refl _)).trans (t1.mono (Nat.zero_le _) (by omega))
   refine wp_mid (xs:=zs) (t3.keys hI) (hy.congr λk _ k2=>t1.key (.inl k2)) (by omega) (by rw [t3.size];omega) t2 λus pd' g' u1 u2=>?_
   rw [t3.size] at u1
   exact h2 _ us pd' g' (by omega) (by omega) (t3.trans u1) u2
  ·rw [if_neg c2]
   refine wp_mid (xs:=ys) (m3.keys hI) hy m1 (by omega) m4 λus pd' g' u1 u2=>?_
   rw [hsz] at u1
   exact h2 m us pd' g' m1 (by omega) ((m3.mono (Nat.zero_le _) (Nat.le_refl _)).trans u1) u2
theorem minRun_pos:∀ (f n r:Nat),1<=n->1<=minRun' f n r
 | 0,n,r,h=>by show 1<=n+r;omega
 |f+1,n,r,h=>by
  rw [minRun'_succ]
  split
  ·omega
  ·exact minRun_pos f (n / 2) _ (by omega)
theorem wp_sortMany {a0:Array Keyed}{g:Nat}{Q:Unit->SortSt->Prop} (hI:IntKeys a0) (h2:2<=a0.size) (h:∀ st',(arrOf st').Perm a0->failedOf st'=none->SortedTo (arrOf st') a0.size->Q () st'):wpS (model prog w) A E s sortRuns' Q (stOf a0 #[] g):=by
 rw [sort_is]
 refine wpS_bind (wpS_get ?_)
 show wpS _ _ _ _ (do
  let c<-forIn [:a0.size] ((none,0):RN) λ_ c=>runL a0.size (minRun' a0.size a0.size 0) c.2
  match c.1 with
  |some r=>pure r
  |none=>do
   let d<-endL a0.size
   match d.1 with
   |some r=>pure r
   |none=>pure ()) Q (stOf a0 #[] g)
 refine wpS_bind (wpS_mono (wpS_forRange (I:=λx c st'=>∃ (xs:Array Keyed) (pd:Pd) (g lo:Nat),c=(none,lo)/\st'=stOf xs pd g/\OnlyIn 0 a0.size a0 xs/\Tiled xs (pd.toList.map tl) 0 lo/\lo<=a0.size/\x<=lo)
  (Q:=λc st'=>∃ (xs:Array Keyed) (pd:Pd) (g:Nat),c=(none,a0.size)/\st'=stOf xs pd g/\OnlyIn 0 a0.size a0 xs/\Tiled xs (pd.toList.map tl) 0 a0.size) ?step ?fin ⟨a0,#[],g,0,rfl,rfl,.refl,rfl,Nat.zero_le _,Nat.le_refl _⟩) ?post)
 case fin=>
  rintro c st' ⟨xs,pd,g,lo,rfl,rfl,q1,q2,q3,q4⟩
  rw [Nat.max_eq_right (Nat.zero_le _)] at q4
  obtain rfl:lo=a0.size:=by omega
  exact ⟨xs,pd,g,rfl,rfl,q1,q2⟩
 case step=>
  rintro x c st' _ hx ⟨xs,pd,g,lo,rfl,rfl,q1,q2,q3,q4⟩
  dsimp only
  have hsz:=q1.size
  have key:=wp_run (prog:=prog) (w:=w) (A:=A) (E:=E) (s:=s) (xs:=xs) (pd:=pd) (g:=g) (lo:=lo) (mr:=minRun' a0.size a0.size 0)
   (R:=λr st'=>match r with
    | .done c'=>∃ (xs:Array Keyed) (pd:Pd) (g:Nat),c'=(none,a0.size)/\st'=stOf xs pd g/\OnlyIn 0 a0.size a0 xs/\Tiled xs (pd.toList.map tl) 0 a0.size
    | .yield c'=>∃ (xs:Array Keyed) (pd:Pd) (g lo:Nat),c'=(none,lo)/\st'=stOf xs pd g/\OnlyIn 0 a0.size a0 xs/\Tiled xs (pd.toList.map tl) 0 lo/\lo<=a0.size/\x+1<=lo)
   (q1.keys hI) q2 (by omega) (minRun_pos _ _ _ (by omega))
   (λe=>⟨xs,pd,g,by rw [e,hsz],rfl,q1,by rw [e,hsz] at q2;exact q2⟩)
   (λn ys pd' g' n1 n2 n3 n4=>⟨ys,pd',g',lo+n,rfl,rfl,q1.trans (by rw [hsz] at n3;exact n3),n4,by omega,by omega⟩)
  rw [hsz] at key
  exact wpS_mono key λr st' hr=>by cases r<;>exact hr
 case post=>
  rintro c st' ⟨xs,pd,g,rfl,rfl,q1,q2⟩
  dsimp only
  have hsz:=q1.size
  have hle:=q2.le
  rw [List.length_map,Array.length_toList] at hle
  unfold endL
  refine wpS_bind (wpS_mono (wpS_forRange (I:=λx c st'=>c=(none,())/\∃ (xs:Array Keyed) (pd:Pd) (g:Nat),st'=stOf xs pd g/\OnlyIn 0 a0.size a0 xs/\Tiled xs (pd.toList.map tl) 0 a0.size/\(pd.size+x<=a0.size∨pd.size<=1))
   (Q:=λc st'=>c=(none,())/\∃ (xs:Array Keyed) (pd:Pd) (g:Nat),st'=stOf xs pd g/\OnlyIn 0 a0.size a0 xs/\Tiled xs (pd.toList.map tl) 0 a0.size/\pd.size<=1) ?s1 ?f1 ⟨rfl,xs,pd,g,rfl,q1,q2,.inl (by omega)⟩) ?p1)
  case f1=>
   rintro c st' ⟨rfl,xs,pd,g,rfl,t1,t2,t3⟩
   rw [Nat.max_eq_right (Nat.zero_le _)] at t3
   exact ⟨rfl,xs,pd,g,rfl,t1,t2,by omega⟩
  case s1=>
   rintro x c st' _ hx ⟨rfl,xs,pd,g,rfl,t1,t2,t3⟩
   refine wpS_bind (wpS_get ?_)
   show wpS _ _ _ _ (if pd.size<=1 then pure (ForInStep.done (none,())) else (do
    let ok<-mergeAt' (pickI pd)
    if (!ok)=true then pure (ForInStep.done (some (),())) else pure (ForInStep.yield (none,())))) _ _
   by_cases c1:pd.size<=1
   ·rw [if_pos c1]
    exact wpS_pure ⟨rfl,xs,pd,g,rfl,t1,t2,c1⟩
   ·rw [if_neg c1]
    have hp:pickI pd+1<pd.size:=by
     have:=pick_le pd
     omega
    have hs1:=t1.size
    refine wpS_bind (wp_mergeTile (t1.keys hI) t2 (by omega) hp λys pd' g' u1 u2 u3 u4=>?_)
    rw [if_neg (by decide)]
    refine wpS_pure ⟨rfl,ys,pd',g',rfl,t1.trans (by rw [hs1] at u1;exact u1),u3,?_⟩
    rcases t3 with t3|t3
    ·exact .inl (by omega)
    ·omega
  case p1=>
   rintro c st' ⟨rfl,xs,pd,g,rfl,t1,t2,t3⟩
   refine wpS_pure (h _ t1.1 rfl ?_)
   have hup:Up xs 0 a0.size:=by
    have hl:(pd.toList.map tl).length<=1:=by rw [List.length_map,Array.length_toList];exact t3
    cases e:pd.toList.map tl with
    |nil=>
     rw [e] at t2
     have:0=a0.size:=t2
     omega
    |cons p r=>
     rw [e] at t2 hl
     have hr:r=[]:=by
      cases r with
      |nil=>rfl
      |cons y r=>simp at hl
     subst hr
     obtain ⟨_,_,u3,u4⟩:=t2
     have u5:0+p.2=a0.size:=u4
     rw [u5] at u3
     exact u3
   exact λi j i1 i2=>hup i j (Nat.zero_le _) i1 i2
end
end Tim
namespace Tim
open PySem PyProof.Rows PySem.Builtin
section
variable {prog:Program}{w:World}{A:Around}{E:Value->Shared->Prop}{s:Shared}
theorem sort_many {l:Addr}{us:List Value}{zs:List Int}{n:Nat}{P:Fin->Shared->Prop} (hl:s.heap.get? l=some (seqObj "list" us.toArray n)) (hi:IntsAre us zs) (hz:us.length<=2000)
  (h:∀ (out:Array Value) (τ:List Int),IntsAre out.toList τ->τ.Perm zs->τ.Pairwise (·<=·)->P (.done (.ret .none)) { s with heap:=sortedHeap s.heap l us out }):wpAny (model prog w) A (Builtin.«list.sort» ⟨[.ref l],[]⟩) P E s:=by
 by_cases h64:us.length<64
 ·exact list_sort_tree hl hi h64 h
 have hll:l<s.heap.objs.size:=Heap.lt_size hl
 obtain ⟨v1,v2,r,e⟩:∃ v1 v2 r,us=v1::v2::r:=by
  match us,h64 with
  | [],q=>simp at q
  | [_],q=>simp at q
  |a::b::r,_=>exact ⟨a,b,r,rfl⟩
 obtain ⟨ep,h1⟩:∃ ep,(s.heap.update l (Obj.mapSeq λ_=>#[])).get? l=some (seqObj "list" #[] ep):=⟨_,get?_update_seq hl (λ_=>#[])⟩
 have h2:(((s.heap.update l (Obj.mapSeq λ_=>#[])).push (seqObj "tuple" us.toArray 0)).push (seqObj "list" #[] 0)).get? l=some (seqObj "list" #[] ep):=
  Heap.get?_push_of_some _ (Heap.get?_push_of_some _ h1)
 have hs2:¬ us.toArray.size<2:=by rw [e];simp
 have hkk:keyKind' us.toArray=pure oneType':=by rw [e];exact keyKind_ints (e ▸ hi)
 rw [list_sort_plain]
 refine wpAny_bind (listItems_at hl rfl (wpAny_bind (listUpdate_at hl rfl (wpAny_bind (seqEpoch_at h1 rfl (wpAny_bind (wpAny_newTuple (wpAny_bind (wpAny_newList (wpAny_holding ?_)))))))) ))
 show wpAny (model prog w) A _ P E { s with heap:=((s.heap.update l (Obj.mapSeq λ_=>#[])).push (seqObj "tuple" us.toArray 0)).push (seqObj "list" #[] 0) }
 dsimp only
 rw [if_neg hs2,if_neg hs2,hkk]
 refine wpAny_bind (wpAny_pure (wpAny_bind (wpAny_mono (wp_sortMany (a0:=pairsOf us) (g:=7) (Q:=λ_ st'=>(arrOf st').Perm (pairsOf us)/\failedOf st'=none/\SortedTo (arrOf st') (pairsOf us).size) hi.intKeys (by rw [pairsOf_size];omega) λst' q1 q2 q3=>⟨q1,q2,q3⟩) ?_ λ_ _ z=>z)))
 rintro ⟨⟨⟩,st'⟩ s' ⟨rfl,hp,hf,hs⟩
 dsimp only
 obtain ⟨τ,t1,t2,t3⟩:=sorted_out hi hp hs
 have hsz:((arrOf st').map (·.2)).size<=sizeLine:=by
  rw [Array.size_map,hp.size_eq,pairsOf_size]
  exact Nat.le_trans hz (by decide)
 refine wpAny_bind (seqEpoch_at h2 rfl (wpAny_bind (listUpdate_at h2 rfl ?_ (hsz2:=by omega))))
 rw [hf]
 simp only [bne_self_eq_false,Bool.false_eq_true,if_false]
 exact wpAny_pure (h _ τ t1 t2 t3)
end
end Tim
namespace Cut
open PySem PyProof.Rows
section
variable {prog:Program}{w:World}{A:Around}{E:Value->Shared->Prop}{s:Shared}
theorem hint_set {a:Addr}{Q:Bool->Shared->Prop} (ty:s.TypeIs (.ref a) "set") (q:Q false s):wpAny (model prog w) A (Builtin.List.listLengthHint (.ref a)) Q E s:=by
 unfold Builtin.List.listLengthHint
 refine wpAny_bind (wpAny_specialOf ty lk_len ?_)
 generalize hid:("set.__len__":String)=id0
 wp_delta
 rw [show splitId id0=some ("set","__len__") from by subst hid;decide +kernel]
 subst hid
 refine wpAny_bind (wpAny_isInstance (T:="set") (b:=true) ty (by rw [isSubtype_type];kernel_rfl) ?_)
 refine wpAny_ite_split (λz=>absurd z (by decide)) λ_=>?_
 refine wpAny_ite_split (λ_=>?_) λz=>absurd (by decide +kernel) z
 exact wpAny_bind (wpAny_typeOf ty (wpAny_pure q))
theorem items_ints {vs:List Value}{τ:List Int}{acc:Array Value} (hI:IntsAre vs τ) (h:ItemsOf (λi v=>vs[i]?=some v) acc vs.length):acc.toList=vs:=by
 refine List.ext_getElem? λi=>?_
 have hz:=h.1
 by_cases hi:i<vs.length
 ·have hj:i<acc.size:=by omega
  have e:acc[i]?=some acc[i]:=Array.getElem?_eq_getElem hj
  rw [Array.getElem?_toList,e]
  exact (h.2 i _ e).symm
 ·have h1:vs[i]?=none:=List.getElem?_eq_none (by omega)
  have h2:acc.toList[i]?=none:=List.getElem?_eq_none (by rw [Array.length_toList];omega)
  rw [h1,h2]
theorem collect_set {a:Addr}{σ:List Int}{Q:List Value->Shared->Prop} (hh:A.handled=none) (S:SetI w s.heap a σ) (hb:σ.length<scanBound)
  (q:∀ vs τ h' d' tk,IntsAre vs τ->τ.Perm σ->(∀ b o,s.heap.get? b=some o->h'.get? b=some o)->s.heap.objs.size<h'.objs.size->Q vs { s with heap:=h',drawn:=d',toks:=tk }):wpAny (model prog w) A (collect (.ref a)) Q E s:=by
 have ha:a<s.heap.objs.size:=by
  obtain ⟨es,ep,t,x,_⟩:=id S
  exact Heap.lt_size x
 unfold collect
 refine wpAny_bind (wpAny_runValue (codeAny_builtin PySem.F.entry_proto_collect ?_))
 rw [Around.under_plainId PySem.F.plain_proto_collect]
 show wpAny _ A.in1 (newList [] >>= λl=>again (.builtin "list.__iadd__" ⟨[l,.ref a],[]⟩)) _ _ _
 refine wpAny_bind (wpAny_newObj_type (wpAny_pure ⟨plainId_quiet PySem.F.plain_list_iadd _,codeAny_builtin PySem.F.entry_list_iadd ?_⟩))
 rw [Around.under_plainId PySem.F.plain_list_iadd]
 show wpAny _ A.in1 (Builtin.List.listExtendWith (.ref s.heap.objs.size) (.ref a) (.ref s.heap.objs.size)) _ _ _
 have S1:SetI w (s.heap.push { cls:=.type "list",data:=.seq ([]:List Value).toArray }) a σ:=S.at λo e=>Heap.get?_push_of_some _ e
 have ty1:Shared.TypeIs { s with heap:=s.heap.push { cls:=.type "list",data:=.seq ([]:List Value).toArray } } (.ref a) "set":=by
  obtain ⟨es,ep,t,x,_⟩:=id S1
  exact ⟨_,x,rfl⟩
 have hS:(s.heap.push { cls:=.type "list",data:=.seq ([]:List Value).toArray }).get? s.heap.objs.size=some { cls:=.type "list",data:=.seq #[] 0 }:=Heap.get?_push_size _ rfl
 unfold Builtin.List.listExtendWith
 refine wpAny_bind (wpAny_typeOf ty1 ?_)
 have k1:Builtin.List.listSameRef (.ref s.heap.objs.size) (.ref a)=false:=by
  simp only [Builtin.List.listSameRef]
  exact beq_eq_false_iff_ne.mpr (Nat.ne_of_gt ha)
 rw [if_neg (by rw [k1];decide)]
 refine wpAny_bind (iter_set (A:=A.in1) hh S1 hb λI h1 d1 ov kp le=>?_)
 have ty2:Shared.TypeIs { s with heap:=h1,drawn:=d1 } (.ref a) "set":=by
  obtain ⟨es,ep,t,x,_⟩:=id S1
  exact ⟨_,kp _ _ x,rfl⟩
 refine wpAny_bind (wpAny_holding (hint_set ty2 ?_))
 rw [if_pos (by decide)]
 refine wpAny_bind (wpAny_rule (wpAny_bind ?_))
 have hS1:=kp _ _ hS
 show wpAny _ _ (updateSeq s.heap.objs.size (·.push .none) >>= λ_=>updateSeq s.heap.objs.size (·.pop)) _ _ _
 refine wpAny_bind (wpAny_updateSeq (s:={ s with heap:=h1,drawn:=d1 }) hS1 rfl ?_)
 have hS2:=Heap.get?_update_self (Obj.mapSeq (·.push Value.none)) hS1 rfl
 refine wpAny_updateSeq (s:={ s with heap:=_,drawn:=d1 }) (hz:=by seq_fits) hS2 rfl ?_
 have hS3:=Heap.get?_update_self (Obj.mapSeq (·.pop)) hS2 rfl
 obtain ⟨fp,n,vs,τ,St,W,st,fpb,hI,ia,pm,hn,ab⟩:=ov
 have hSf:s.heap.objs.size ∉ fp:=by
  intro z
  rcases ab _ z with e|e
  ·exact absurd e (Nat.ne_of_gt ha)
  ·rw [Heap.size_push] at e
   exact Nat.not_succ_le_self _ e
 subst hn
 have hn:vs.length<=sizeLine:=by
  have e1:=IntsAre.length ia
  have e2:=pm.length_eq
  exact fits_of_scanBound (by omega)
 have oth:∀ b o,b≠s.heap.objs.size->h1.get? b=some o->((h1.update s.heap.objs.size (Obj.mapSeq (·.push Value.none))).update s.heap.objs.size (Obj.mapSeq (·.pop))).get? b=some o:=
  λb o hb e=>(Heap.get?_update_other _ _ (Ne.symm hb)).trans ((Heap.get?_update_other _ _ (Ne.symm hb)).trans e)
 refine wpAny_pure ⟨plainId_quiet PySem.F.plain_extend_loop _,codeAny_extend_loopS W.toS hn _ hSf _ vs.length 0 _ #[] _ rfl (Nat.zero_le _) (W.frame 0 _ _ st λb z o e=>oth b o (λy=>hSf (y ▸ z)) e) hS3 (ItemsOf.nil _) λs' acc c' m g hacc=>?_⟩
 show wpAny _ A (load s.heap.objs.size >>= _) _ _ s'
 refine wpAny_bind (wpAny_load g (wpAny_pure ?_))
 rw [items_ints ia hacc]
 obtain ⟨h',g',d',tk',os'⟩:=s'
 obtain rfl:g'=s.gens:=m.gens
 obtain rfl:d'=d1:=m.drawn
 obtain rfl:os'=s.os:=m.os
 refine q vs τ h' d' tk' ia pm (λb o e=>m.heap b o ?_ (oth b o (Nat.ne_of_lt (Heap.lt_size e)) (kp b o (Heap.get?_push_of_some _ e)))) (Heap.lt_size g)
 intro z
 have lt:=Heap.lt_size e
 rcases List.mem_cons.mp z with y|y
 ·exact absurd y (Nat.ne_of_lt lt)
 ·rw [List.mem_singleton] at y
  rw [Heap.size_push] at le
  exact absurd (Nat.lt_of_lt_of_le lt (Nat.le_of_succ_le le)) (by rw [y];exact Nat.lt_irrefl _)
theorem sorted_set {a:Addr}{σ:List Int}{Q:Value->Shared->Prop} (hh:A.handled=none) (S:SetI w s.heap a σ) (hb:σ.length<1000)
  (q:∀ l out τ h' d' tk,IntsAre out τ->τ.Perm σ->τ.Pairwise (·<=·)->(∃ n,h'.get? l=some (seqObj "list" out.toArray n))->s.heap.objs.size<=l->(∀ b o,s.heap.get? b=some o->h'.get? b=some o)->Q (.ref l) { s with heap:=h',drawn:=d',toks:=tk }) :
  wpAny (model prog w) A (call (.builtin "sorted") [.ref a]) Q E s:=by
 refine Calls.call_function_entry kind_sorted plain_sorted entry_sorted (args_sorted1 _) ?_
 unfold Builtin.«sorted»
 refine wpAny_bind (m:=checkCount "sorted" 1 1 _) (wpAny_pure (wpAny_bind (collect_set (A:=A.in1) hh S (by unfold scanBound;omega) λvs τ h1 d1 tk1 ia pm kp lt1=>?_)))
 have hl:vs.length<=2000:=by
  have e1:=IntsAre.length ia
  have e2:=pm.length_eq
  omega
 refine wpAny_bind (wpAny_newList ?_)
 have g:(h1.push (seqObj "list" vs.toArray 0)).get? h1.objs.size=some (seqObj "list" vs.toArray 0):=Heap.get?_push_size _ rfl
 refine wpAny_bind (wpAny_holding (wpAny_call_entry slot_list_sort ⟨_,g,rfl⟩ entry_list_sort (Tim.sort_many g ia hl λout ns' a1 a2 a3=>⟨_,rfl,?_⟩) (args_list_sort _)))
 have le:s.heap.objs.size<=h1.objs.size:=Nat.le_of_lt lt1
 refine wpAny_pure ⟨_,rfl,q h1.objs.size out.toList ns' _ _ _ a1 (a2.trans pm) a3 ?_ le λb o e=>?_⟩
 ·have y1:=get?_update_seq g (λ_=>#[])
  have y2:=Heap.get?_push_of_some (seqObj "list" #[] 0) (Heap.get?_push_of_some (seqObj "tuple" vs.toArray 0) y1)
  have y3:=get?_update_seq y2 (λ_=>out)
  rw [Array.toArray_toList]
  exact ⟨_,y3⟩
 ·have nb:b≠h1.objs.size:=Nat.ne_of_lt (Heap.lt_size (kp b o e))
  have y0:=Heap.get?_push_of_some (seqObj "list" vs.toArray 0) (kp b o e)
  have y1:=(Heap.get?_update_other (h1.push (seqObj "list" vs.toArray 0)) (Obj.mapSeq λ_=>#[]) (Ne.symm nb)).trans y0
  have y2:=Heap.get?_push_of_some (seqObj "list" #[] 0) (Heap.get?_push_of_some (seqObj "tuple" vs.toArray 0) y1)
  exact (Heap.get?_update_other _ _ (Ne.symm nb)).trans y2
end
end Cut
namespace L2
open PySem PySem.Spec PyProof.Rows
theorem ints_of_vals:∀ {ns:List Int}{us:List Value},Vals (ns.map V.int) us->IntsAre us ns
 | [],_,r=>by rw [List.map_nil] at r;cases r;exact .nil
 |z::zs,_,r=>by
  rw [List.map_cons] at r
  cases r with
  |cons h t=>
   obtain ⟨k,rfl⟩:=h
   exact .cons _ _ (ints_of_vals t)
theorem vals_of_ints:∀ {us:List Value}{ns:List Int},IntsAre us ns->Vals (ns.map V.int) us
 |_,_,.nil=>.nil
 |_,_,.cons n t r=>.cons ⟨_,rfl⟩ (vals_of_ints r)
theorem Inv.laidD {X:Cx}{pins:List (Addr×Obj)}{σ:St}{H:Hp}{s:Shared}{h':Heap}{a:Addr}{o:HO}{t':Nat}{d':Drawn} (I:Inv X pins σ H s) (k:∀ b u,s.heap.get? b=some u->h'.get? b=some u) (hp:s.heap.objs.size<=a) (new:ObjOk X.prog X.w (upd H a o) h' a o) :
  Inv X pins σ (upd H a o) { s with heap:=h',drawn:=d',toks:=t' }:=by
 have J:=I.laid (t':=t') k hp new
 generalize hs1:({ s with heap:=h',toks:=t' }:Shared)=s1 at J
 have e:({ s with heap:=h',drawn:=d',toks:=t' }:Shared)={ s1 with heap:=s1.heap,gens:=s1.gens,drawn:=d',toks:=s1.toks }:=by subst hs1;rfl
 rw [e]
 exact J.step (g':=s1.gens) (t':=s1.toks) (d':=d') (h':=s1.heap) (ch:=[]) (λ_ z=>nomatch z) (λb o _ _ _ e _=>e) (λb o _ _ _ e _=>⟨o.slots,e⟩) (λ_ _ _ _ n=>n) (λb o _ e=>⟨o,e⟩) (λ_ _ e=>e) (λ_ _ _ e=>e) (λb ps e=>⟨#[],by rw [e];simp⟩) (λm hm=>hm) J.hok J.bare
def tSort (K:PySem.W.Frag) (ta:TE):TE:=fun σ H Q=>ta σ H λv H1=>∃ a ns,v=.ref a/\SqL K H1 a (ns.map V.int)/\ns.length<=2000/\(Cut.ddup ns).length<1000/\
 ∀ (l:Addr) (τ:List Int),H1 l=none->τ.Pairwise (· < ·)->(∀ x,x∈τ ↔ x∈ns)->τ.length=(Cut.ddup ns).length->Q (.ref l) (upd H1 l (.lst (τ.map V.int)))
theorem strict_of {τ σ:List Int} (pm:τ.Perm σ) (nd:σ.Nodup) (le:τ.Pairwise (·<=·)):τ.Pairwise (· < ·):=by
 have nt:τ.Nodup:=pm.nodup_iff.mpr nd
 exact (List.pairwise_and_iff.mpr ⟨le,nt⟩).imp λ{a b} h=>by
  have h1:=h.1
  have h2:a≠b:=h.2
  omega
theorem pe_sortset {X:Cx}{a:Expr}{ta:TE}{p p2 pos pos2:Pos} (hc:X.calm=true) (hg:Gl X "sorted") (hm:X.mg "sorted"=none) (hg2:Gl X "set") (hm2:X.mg "set"=none) (ha:PE X a ta)
  (hs:starEach [a] X.env=[(false,eval a X.env)]:=by rfl) (hs2:starEach [.Call (.Name "set" p2) [a] [] pos2] X.env=[(false,eval (.Call (.Name "set" p2) [a] [] pos2) X.env)]:=by rfl) :
  PE X (.Call (.Name "sorted" p) [.Call (.Name "set" p2) [a] [] pos2] [] pos) (tSort X.K ta):=by
 intro pins s σ H Q I h
 refine wpAny_Call_Name_kw (ld_blt I hg hm boot_sorted ?_ (by decide) (by decide))
 refine PyProof.Rows.callWith_builtin1 ?_ hs2 rfl
 rw [hs2]
 show wpAny _ _ (spliced ((false,eval (.Call (.Name "set" p2) [a] [] pos2) X.env)::backTo pos [])) _ _ s
 refine Calls.spliced_cons ?_
 refine wpAny_Call_Name_kw (ld_blt I hg2 hm2 boot_set ?_ (by decide) (by decide))
 refine PyProof.Rows.callWith_type1 ?_ hs rfl
 rw [hs]
 show wpAny _ _ (spliced ((false,eval a X.env)::backTo pos2 [])) _ _ s
 refine Calls.spliced_cons (thn (ha pins s σ H _ I h) λu s1 ⟨v,H1,I1,r1,q1⟩=>Calls.spliced_nil ?_)
 obtain ⟨b,ns,e,hq,hn,hd,q⟩:=q1
 subst e
 obtain rfl:u=Value.ref b:=r1
 obtain ⟨its,rv,pl,hz⟩:=I1.list hq
 have hh:=I1.ok.hd hc
 have hl1:=rv.length
 rw [List.length_map] at hl1
 refine Cut.set_list hh pl.isList (ints_of_vals rv) (by rw [List.size_toArray,<-hl1];unfold scanBound;omega) λh1 tk S kp=>?_
 refine Calls.spliced_nil ?_
 refine Cut.sorted_set hh S hd λl out τ h2 d2 tk2 ia pm le ⟨n,hl⟩ hle kp2=>?_
 have lt:s1.heap.objs.size<h1.objs.size:=by
  obtain ⟨es,ep,t,x,_⟩:=id S
  exact Heap.lt_size x
 have hle':s1.heap.objs.size<=l:=Nat.le_trans (Nat.le_of_lt lt) hle
 have hlen:τ.length=(Cut.ddup ns).length:=pm.length_eq
 refine ⟨.ref l,upd H1 l (.lst (τ.map V.int)),?_,rfl,q l τ (I1.hok.fresh hle') (strict_of pm (Cut.ddup_nodup ns) le) (λx=>(pm.mem_iff).trans (Cut.ddup_mem x ns)) hlen⟩
 refine I1.laidD (λb u e=>kp2 b u (kp b u (Heap.lt_size e) e)) hle' ?_
 have hsz:(τ.map V.int).length<=sizeLine:=by
  rw [List.length_map]
  exact Nat.le_of_lt (Nat.lt_of_lt_of_le (by omega:τ.length<1000) (by decide))
 exact ⟨hsz,out,n,vals_of_ints ia,hl⟩
end L2
namespace L2
open PySem PySem.Spec PyProof.Rows
def Itz (K:PySem.W.Frag) (a b:Addr):It:=
 ⟨λi H=>∃ xs ys x y,SqL K H a xs/\SqL K H b ys/\xs[i]?=some x/\ys[i]?=some y,
  λi H v H'=>∃ t x y,H t=none/\H'=upd H t (.tup [x,y])/\v=.ref t/\(∀ xs,SqL K H a xs->xs[i]?=some x)/\∀ ys,SqL K H b ys->ys[i]?=some y,
  λi H=>∃ xs ys,SqL K H a xs/\SqL K H b ys/\(xs.length<=i∨ys.length<=i)⟩
def ZipSt (a b z TI TO i1 i2:Addr) (i:Nat) (h:Heap):Prop:=IsZip h z TI TO .none/\IsPair h TI (.ref i1) (.ref i2)/\(∃ c d,IsPair h TO c d)/\h.IsListIter i1 a i/\h.IsListIter i2 b i
theorem turn_zip {P:Program}{w:World}{K:PySem.W.Frag}{es:List Expr}{k:Nat}{tp:Pos} (a b z TI TO i1 i2:Addr) (D:ZipApart z TI TO i1 i2 a b) :
  Turn P w K (.Tuple es k tp) (Itz K a b) [z,TI,TO,i1,i2] z (ZipSt a b z TI TO i1 i2) where
 mem:=by simp
 obj:=λi h st c hc=>by
  obtain ⟨hz,hTI,⟨c1,d1,hTO⟩,⟨o1,e1,_,q1⟩,⟨o2,e2,_,q2⟩⟩:=st
  simp only [List.mem_cons,List.not_mem_nil,or_false] at hc
  rcases hc with rfl|rfl|rfl|rfl|rfl
  ·exact ⟨_,hz,λv y=>by cases y⟩
  ·exact ⟨_,hTI,λv y=>by cases y⟩
  ·exact ⟨_,hTO,λv y=>by cases y⟩
  ·exact ⟨o1,e1,λv y=>by rw [q1] at y;cases y⟩
  ·exact ⟨o2,e2,λv y=>by rw [q2] at y;cases y⟩
 keep:=λi h h' st kp=>by
  obtain ⟨hz,hTI,⟨c1,d1,hTO⟩,h1,h2⟩:=st
  exact ⟨kp z (by simp) _ hz,kp TI (by simp) _ hTI,⟨c1,d1,kp TO (by simp) _ hTO⟩,h1.at λo q=>kp i1 (by simp) o q,h2.at λo q=>kp i2 (by simp) o q⟩
 item:=by
  intro X hP hw hK hc i pins s σ H E I hf st hg
  subst hP hw hK
  obtain ⟨hz,hTI,⟨c1,d1,hTO⟩,h1,h2⟩:=st
  obtain ⟨xs,ys,x,y,hqa,hqb,hx,hy⟩:=hg
  obtain ⟨its,rva,pa,_⟩:=I.list hqa
  obtain ⟨jts,rvb,pb,_⟩:=I.list hqb
  obtain ⟨u,hu,ru⟩:=rva.get hx
  obtain ⟨v,hv,rv⟩:=rvb.get hy
  refine wpAny_pyNext_zip_item D hz hTI hTO h1 h2 pa.isList pb.isList (x:=u) (y:=v) (by simpa using hu) (by simpa using hv) λh3 a1 a2 a3 a4 a5 a6 kp=>?_
  refine ⟨_,rfl,wpAny_letOwnedTupleGo_zip a1 λh4 z4 sb=>?_⟩
  have ltz:∀ {c o},s.heap.get? c=some o->c<s.heap.objs.size:=λe=>Heap.lt_size e
  have fpz:∀ c∈[z,TI,TO,i1,i2],c<s.heap.objs.size:=λc hc=>by
   simp only [List.mem_cons,List.not_mem_nil,or_false] at hc
   rcases hc with rfl|rfl|rfl|rfl|rfl
   ·exact ltz hz
   ·exact ltz hTI
   ·exact ltz hTO
   ·obtain ⟨_,q,_⟩:=h1;exact ltz q
   ·obtain ⟨_,q,_⟩:=h2;exact ltz q
  have kp2:∀ c o,c ∉ [z,TI,TO,i1,i2]->s.heap.get? c=some o->h4.get? c=some o:=λc o hc q=>by
   simp only [List.mem_cons,List.not_mem_nil,or_false,not_or] at hc
   exact (sb.2 c hc.1).trans (kp c o hc.1 hc.2.2.1 hc.2.2.2.1 hc.2.2.2.2 q)
  have tup2:h4.get? s.heap.objs.size=some { cls:=.type "tuple",data:=.seq #[u,v] }:=(sb.2 _ (Nat.ne_of_gt (ltz hz))).trans a5
  have Hnew:H s.heap.objs.size=none:=I.hok.fresh (Nat.le_refl _)
  have ne1:∀ c o,H c=some o->c ∉ [z,TI,TO,i1,i2]:=λc o q hc=>by
   rw [(hf c hc).1] at q
   cases q
  have I1:Inv X pins σ (upd H s.heap.objs.size (.tup [x,y])) { s with heap:=h4 }:=by
   refine I.step (g':=s.gens) (t':=s.toks) (d':=s.drawn) (ch:=[z,TI,TO,i1,i2]) (λc hc=>?_) (λc o _ _ hc q _=>kp2 c o hc q) (λc o _ _ hc q _=>⟨o.slots,kp2 c o hc q⟩) (λc o hc q n=>?_) (λc o hc q=>⟨o,kp2 c o hc q⟩) (λc zs q=>?_) (λc o v q=>?_) (λc ps q=>?_) (λm hm=>?_) ?_ I.bare
   ·obtain ⟨_,f1,_,f3,f4,f5⟩:=hf c hc
    exact ⟨f3,f1,f4,f5⟩
   ·rw [upd_ne (Nat.ne_of_lt (Heap.lt_size q))];exact n
   ·rw [upd_ne (ne_of_none q Hnew)];exact q
   ·rw [upd_ne (ne_of_none q Hnew)];exact q
   ·exact ⟨#[],by rw [upd_ne (ne_of_none q Hnew),q];simp⟩
   ·obtain ⟨o,es',ep,ho,r⟩:=hm
    exact ⟨o,es',ep,kp2 _ o (λhc=>(hf _ hc).2.1 rfl) ho,r⟩
   ·intro c o q
    by_cases hb:c=s.heap.objs.size
    ·subst hb
     rw [upd_same] at q
     cases q
     exact ⟨by show 2<=sizeLine;decide,[u,v],.cons ru (.cons rv .nil),_,tup2,rfl,0,rfl⟩
    ·rw [upd_ne hb] at q
     refine (I.hok c o q).stay (λc' v' hc r=>kp2 c' v' ?_ r) (λc' r=>?_) (λc' zs r=>?_)
     ·rcases hc with e|e
      ·rw [e];exact ne1 c o q
      ·exact ne1 c' _ e
     ·rw [upd_ne (ne_of_none r Hnew)];exact r
     ·rw [upd_ne (ne_of_none r Hnew)];exact r
  refine ⟨.ref s.heap.objs.size,_,I1,rfl,⟨s.heap.objs.size,x,y,Hnew,rfl,rfl,λzs hz'=>by rw [I.list_inj hz' hqa];exact hx,λzs hz'=>by rw [I.list_inj hz' hqb];exact hy⟩,⟨z4,?_,⟨u,v,?_⟩,?_,?_⟩,λc hc=>?_⟩
  ·exact (sb.2 TI D.TIz).trans (kp TI _ D.TIz D.TITO D.TIi1 D.TIi2 hTI)
  ·exact (sb.2 TO D.TOz).trans a2
  ·exact a3.at λo q=>(sb.2 i1 D.i1z).trans q
  ·exact a4.at λo q=>(sb.2 i2 D.i2z).trans q
  ·rw [upd_ne (Nat.ne_of_lt (fpz c hc))];exact (hf c hc).1
 done:=by
  intro X hP hw hK hc i pins s σ H E I hf st hg
  subst hP hw hK
  obtain ⟨hz,hTI,⟨c1,d1,hTO⟩,h1,h2⟩:=st
  obtain ⟨xs,ys,hqa,hqb,hx⟩:=hg
  obtain ⟨its,rva,pa,_⟩:=I.list hqa
  obtain ⟨jts,rvb,pb,_⟩:=I.list hqb
  have la:=rva.length
  have lb:=rvb.length
  have hend:its.toArray[i]?=none∨jts.toArray[i]?=none:=by
   rcases hx with e|e
   ·exact .inl (Array.getElem?_eq_none (by rw [List.size_toArray];omega))
   ·exact .inr (Array.getElem?_eq_none (by rw [List.size_toArray];omega))
  refine wpAny_pyNext_zip_end (I.ok.hd hc) D hz hTI hTO h1 h2 pa.isList pb.isList hend λh' kp=>⟨rfl,?_⟩
  have kp2:∀ c o,c ∉ [z,TO,i1,i2]->s.heap.get? c=some o->h'.get? c=some o:=λc o hc q=>by
   simp only [List.mem_cons,List.not_mem_nil,or_false,not_or] at hc
   exact kp c o hc.1 hc.2.1 hc.2.2.1 hc.2.2.2 q
  have sub:∀ c∈[z,TO,i1,i2],c∈[z,TI,TO,i1,i2]:=λc hc=>by
   simp only [List.mem_cons,List.not_mem_nil,or_false] at hc ⊢
   rcases hc with e|e|e|e<;>simp [e]
  have ne1:∀ c o,H c=some o->c ∉ [z,TO,i1,i2]:=λc o q hc=>by
   rw [(hf c (sub c hc)).1] at q
   cases q
  refine I.step (g':=s.gens) (t':=s.toks) (d':=s.drawn) (ch:=[z,TO,i1,i2]) (λc hc=>?_) (λc o _ _ hc q _=>kp2 c o hc q) (λc o _ _ hc q _=>⟨o.slots,kp2 c o hc q⟩) (λc o hc q n=>n) (λc o hc q=>⟨o,kp2 c o hc q⟩) (λ_ _ e=>e) (λ_ _ _ e=>e) (λc ps e=>⟨#[],by rw [e];simp⟩) (λm hm=>?_) (λc u e=>?_) I.bare
  ·obtain ⟨_,f1,_,f3,f4,f5⟩:=hf c (sub c hc)
   exact ⟨f3,f1,f4,f5⟩
  ·obtain ⟨o,es',ep,ho,r⟩:=hm
   exact ⟨o,es',ep,kp2 _ o (λhc=>(hf _ (sub _ hc)).2.1 rfl) ho,r⟩
  ·refine (I.hok c u e).stay (λc' v hc q=>kp2 c' v ?_ q) (λ_ q=>q) λ_ _ q=>q
   rcases hc with y|y
   ·rw [y];exact ne1 c u e
   ·exact ne1 c' _ y
 self:=λ_ _ _ _ _ st h=>wpAny_pyIter_zip st.1 h
def iZip (K:PySem.W.Frag) (ta:TA):TI:=fun σ H R=>ta σ H λvs H1=>∃ a b xs ys,vs=[.ref a,.ref b]/\SqL K H1 a xs/\SqL K H1 b ys/\R (Itz K a b) H1
theorem pi_zip {X:Cx}{a b:Expr}{ta:TA}{es:List Expr}{k:Nat}{tp p pos:Pos} (hg:Gl X "zip") (hm:X.mg "zip"=none) (ha:PA X [a,b] ta)
  (hs:starEach [a,b] X.env=(false,eval a X.env)::starEach [b] X.env:=by rfl) (hpl:(backTo pos (starEach [b] X.env)).any (·.1)=false:=by rfl) :
  PI X (.Tuple es k tp) (.Call (.Name "zip" p) [a,b] [] pos) (iZip X.K ta):=by
 intro pins s σ H R I h
 refine Call_ (ld_blt I hg hm boot_zip (PyProof.Rows.callWith_type1 (thn (ha pos pins s σ H _ I h) λus s1 ⟨vs,H1,I1,r1,q1⟩=>?_) hs hpl))
 obtain ⟨l1,l2,xs,ys,e,hqa,hqb,q⟩:=q1
 subst e
 obtain ⟨u,v,rfl,ru,rv⟩:=r1.two
 obtain rfl:u=Value.ref l1:=ru
 obtain rfl:v=Value.ref l2:=rv
 obtain ⟨its,rva,pa,_⟩:=I1.list hqa
 obtain ⟨jts,rvb,pb,_⟩:=I1.list hqb
 have lt1:l1<s1.heap.objs.size:=by obtain ⟨o,e,_⟩:=pa.isList;exact Heap.lt_size e
 have lt2:l2<s1.heap.objs.size:=by obtain ⟨o,e,_⟩:=pb.isList;exact Heap.lt_size e
 refine call_zip_2 pa.isList pb.isList λh' hz hTI hTO h1 h2 hsz kp=>?_
 have I2:Inv X pins σ H1 { s1 with heap:=h' }:=I1.kept (t':=s1.toks) kp
 refine wpAny_pyIter_zip hz ?_
 refine ⟨s1.heap.objs.size+4,[s1.heap.objs.size+4,s1.heap.objs.size+2,s1.heap.objs.size+3,s1.heap.objs.size,s1.heap.objs.size+1],_,_,H1,rfl,I2,turn_zip l1 l2 _ _ _ _ _ (zipApart_new lt1 lt2),⟨hz,hTI,⟨_,_,hTO⟩,h1,h2⟩,λc hc=>?_,q⟩
 have hle:s1.heap.objs.size<=c:=by
  simp only [List.mem_cons,List.not_mem_nil,or_false] at hc
  rcases hc with e|e|e|e|e<;>rw [e]
  ·exact Nat.le_add_right _ _
  ·exact Nat.le_add_right _ _
  ·exact Nat.le_add_right _ _
  ·exact Nat.le_refl _
  ·exact Nat.le_add_right _ _
 exact I1.fpOk hle (I1.hok.fresh hle)
theorem for_zip {K:PySem.W.Frag}{a b:Addr}{xs ys:List V}{g:TG}{tb:TS}{D:Ends}{σ:St}{H:Hp} (n:Nat) (hn:n=min xs.length ys.length) (Pv:Nat->St->Hp->Prop) (h0:Pv 0 σ H) (hl:∀ i σ H,i<=n->Pv i σ H->SqL K H a xs/\SqL K H b ys)
  (hs:∀ i x y t σ H,xs[i]?=some x->ys[i]?=some y->H t=none->Pv i σ H->g (.ref t) σ (upd H t (.tup [x,y])) fun σ2 H2=>tb { D with nx:=Pv (i+1),ct:=Pv (i+1),bk:=D.nx } σ2 H2) (hd:∀ σ H,Pv n σ H->D.nx σ H) :
  ∃ W:Nat->Nat->St->Hp->Prop,(∃ m,W 0 m σ H)/\∀ i m σ H,W i m σ H->
   ((Itz K a b).stop i H/\D.nx σ H)∨((Itz K a b).go i H/\∃ N:St->Hp->Prop,(∀ σ' H',N σ' H'->∃ m',m'<m/\W (i+1) m' σ' H')/\∀ x H',(Itz K a b).yld i H x H'->g x σ H' fun σ2 H2=>tb { D with nx:=N,ct:=N,bk:=D.nx } σ2 H2):=by
 refine ⟨λi m σ H=>m=n-i/\i<=n/\Pv i σ H,⟨n,rfl,Nat.zero_le _,h0⟩,?_⟩
 rintro i m σ H ⟨rfl,hi,p⟩
 obtain ⟨q1,q2⟩:=hl i σ H hi p
 by_cases hlt:i<n
 ·have hx:xs[i]?=some (xs[i]'(by omega)):=List.getElem?_eq_getElem _
  have hy:ys[i]?=some (ys[i]'(by omega)):=List.getElem?_eq_getElem _
  refine .inr ⟨⟨xs,ys,_,_,q1,q2,hx,hy⟩,Pv (i+1),fun σ' H' p'=>⟨n-(i+1),by omega,rfl,hlt,p'⟩,λv H' y=>?_⟩
  obtain ⟨t,x,y,ht,e1,e2,y1,y2⟩:=y
  subst e1 e2
  exact hs i x y t σ _ (y1 xs q1) (y2 ys q2) ht p
 ·have e:i=n:=by omega
  subst e
  exact .inl ⟨⟨xs,ys,q1,q2,by omega⟩,hd σ H p⟩
end L2
namespace Cut
open PySem
abbrev IsZ3 (h:Heap) (n:Nat) (f0 f1:Value):Prop:=h.get? (n+5)=some { cls:=.type "zip",dict:=none,data:=.fields #[f0,f1,.bool false,.ref (n+3),.ref (n+4)],slots:=#[] }
abbrev IsTri (h:Heap) (T:Addr) (a b c:Value):Prop:=h.get? T=some { cls:=.type "tuple",data:=.seq #[a,b,c] }
theorem na {n a b:Nat} (h:a≠b):n+a≠n+b:=λe=>h (Nat.add_left_cancel e)
theorem la {n a l:Nat} (h:l<n):l≠n+a:=Nat.ne_of_lt (Nat.lt_of_lt_of_le h (Nat.le_add_right n a))
theorem oa {n a c:Nat} (ha:a<6) (h:c<n∨n+6<=c):c≠n+a:=by omega
structure Z3 (h:Heap) (n:Nat) (l1 l2 l3:Addr) (i:Nat) (f0 f1:Value):Prop where
 z:IsZ3 h n f0 f1
 ti:IsTri h (n+3) (.ref (n+0)) (.ref (n+1)) (.ref (n+2))
 to:∃ a b c,IsTri h (n+4) a b c
 i1:h.IsListIter (n+0) l1 i
 i2:h.IsListIter (n+1) l2 i
 i3:h.IsListIter (n+2) l3 i
section
variable {prog:Program}{w:World}{A:Around}{E:Value->Shared->Prop}{s:Shared}
theorem updateSeq_tri {T:Addr}{a b c x:Value}{k:Nat}{Q:Unit->Shared->Prop} (hT:IsTri s.heap T a b c)
  (h:∀ h',h'.get? T=some { cls:=.type "tuple",data:=.seq ((#[a,b,c]:Array Value).setIfInBounds k x) }->Heap.SameBut T s.heap h'->Q () { s with heap:=h' }) :
  wpAny (model prog w) A (updateSeq T (·.setIfInBounds k x)) Q E s:=by
 refine wpAny_updateSeq hT rfl (h _ ?_ (Heap.SameBut.update ..))
 rw [Heap.get?_update_self _ hT rfl]
 simp [Obj.mapSeq]
theorem z3_first {n i:Nat}{l1 l2 l3:Addr}{xs ys zs:Array Value}{x y z f1:Value}{Q:Value->Shared->Prop} (Z:Z3 s.heap n l1 l2 l3 i .none f1) (hl1:s.heap.IsList l1 xs) (hl2:s.heap.IsList l2 ys) (hl3:s.heap.IsList l3 zs) (t1:l1<n) (t2:l2<n) (t3:l3<n)
  (hx:xs[i]?=some x) (hy:ys[i]?=some y) (hz:zs[i]?=some z)
  (hQ:∀ h',Z3 h' n l1 l2 l3 (i+1) (rawInt s.heap.objs.size) (.bool false)->IsTri h' s.heap.objs.size x y z->h'.objs.size=s.heap.objs.size+1->(∀ c o,(c<n∨n+6<=c)->s.heap.get? c=some o->h'.get? c=some o)->Q (.ref s.heap.objs.size) { s with heap:=h' }) :
  wpAny (model prog w) A (Builtin.«zip.__next__» ⟨[.ref (n+5)],[]⟩) (λfin s'=>∃ v,fin=.done (.ret v)/\Q v s') E s:=by
 obtain ⟨hzz,hTI,⟨a,b,c,hTO⟩,h1,h2,h3⟩:=Z
 show wpAny _ _ (field (.ref (n+5)) 2 >>= _) _ _ _
 refine wpAny_bind (wpAny_field hzz rfl (x:=.bool false) rfl ?_)
 show wpAny _ _ (field (.ref (n+5)) 3 >>= _) _ _ _
 refine wpAny_bind (wpAny_field hzz rfl (x:=.ref (n+3)) rfl ?_)
 refine wpAny_bind (wpAny_seqItems hTI rfl ?_)
 show wpAny _ _ (Builtin.SmallTypes.ownedTupleIsFree (.ref (n+5)) >>= _) _ _ _
 refine wpAny_bind ?_
 unfold Builtin.SmallTypes.ownedTupleIsFree
 refine wpAny_bind (wpAny_field hzz rfl (x:=.none) rfl (wpAny_pure ?_))
 simp only [if_true]
 refine wpAny_bind (wpAny_rule ?_)
 refine wpAny_bind (wpAny_field hzz rfl (x:=.ref (n+4)) rfl ?_)
 refine wpAny_bind (wpAny_setField_rec hzz (by simp) λg1 hz1 s1=>?_)
 replace hz1:IsZ3 g1 n .ellipsis f1:=hz1
 refine wpAny_bind ?_
 simp only [List.zipIdx_cons,List.zipIdx_nil,List.forIn_cons,List.forIn_nil]
 refine wpAny_bind (wpAny_bind (wpAny_onRaise ?_))
 show wpAny _ _ (Builtin.SmallTypes.nextOf (.ref (n+0)) >>= _) _ _ _
 refine wpAny_bind (wpAny_nextOf_list_item (h1.extBut s1.extBut (na (by decide))) (hl1.extBut s1.extBut (la t1)) hx λg2 i12 s2=>wpAny_pure ?_)
 have hTO2:IsTri g2 (n+4) a b c:=s2.extBut _ _ (na (by decide)) (s1.extBut _ _ (na (by decide)) hTO)
 refine wpAny_bind (wpAny_seqItems hTO2 rfl ?_)
 refine wpAny_bind (updateSeq_tri hTO2 λg3 hTO3 s3=>?_)
 replace hTO3:IsTri g3 (n+4) x b c:=hTO3
 refine wpAny_bind (wpAny_letGo (wpAny_pure ?_))
 refine wpAny_bind (wpAny_bind (wpAny_onRaise ?_))
 show wpAny _ _ (Builtin.SmallTypes.nextOf (.ref (n+1)) >>= _) _ _ _
 refine wpAny_bind (wpAny_nextOf_list_item (((h2.extBut s1.extBut (na (by decide))).extBut s2.extBut (na (by decide))).extBut s3.extBut (na (by decide)))
  (((hl2.extBut s1.extBut (la t2)).extBut s2.extBut (la t2)).extBut s3.extBut (la t2)) hy λg4 i24 s4=>wpAny_pure ?_)
 have hTO4:IsTri g4 (n+4) x b c:=s4.extBut _ _ (na (by decide)) hTO3
 refine wpAny_bind (wpAny_seqItems hTO4 rfl ?_)
 refine wpAny_bind (updateSeq_tri hTO4 λg5 hTO5 s5=>?_)
 replace hTO5:IsTri g5 (n+4) x y c:=hTO5
 refine wpAny_bind (wpAny_letGo (wpAny_pure ?_))
 have k5:∀ q o,q≠n+5->q≠n+4->q≠n+0->q≠n+1->s.heap.get? q=some o->g5.get? q=some o:=λq o c1 c2 c3 c4 e=>
  s5.extBut _ _ c2 (s4.extBut _ _ c4 (s3.extBut _ _ c2 (s2.extBut _ _ c3 (s1.extBut _ _ c1 e))))
 refine wpAny_bind (wpAny_bind (wpAny_onRaise ?_))
 show wpAny _ _ (Builtin.SmallTypes.nextOf (.ref (n+2)) >>= _) _ _ _
 refine wpAny_bind (wpAny_nextOf_list_item (h3.at λo e=>k5 _ o (na (by decide)) (na (by decide)) (na (by decide)) (na (by decide)) e) (hl3.at λo e=>k5 _ o (la t3) (la t3) (la t3) (la t3) e) hz λg6 i36 s6=>wpAny_pure ?_)
 have hTO6:IsTri g6 (n+4) x y c:=s6.extBut _ _ (na (by decide)) hTO5
 refine wpAny_bind (wpAny_seqItems hTO6 rfl ?_)
 refine wpAny_bind (updateSeq_tri hTO6 λg7 hTO7 s7=>?_)
 replace hTO7:IsTri g7 (n+4) x y z:=hTO7
 refine wpAny_bind (wpAny_letGo (wpAny_pure (wpAny_pure ?_)))
 refine wpAny_bind (wpAny_seqItems hTO7 rfl ?_)
 refine wpAny_bind (wpAny_newTuple ?_)
 have hsz:g7.objs.size=s.heap.objs.size:=by rw [s7.1,s6.1,s5.1,s4.1,s3.1,s2.1,s1.1]
 have up57:∀ q o,q≠n+4->q≠n+2->g5.get? q=some o->g7.get? q=some o:=λq o c1 c2 e=>s7.extBut _ _ c1 (s6.extBut _ _ c2 e)
 have hz7:IsZ3 g7 n .ellipsis f1:=up57 _ _ (na (by decide)) (na (by decide)) (s5.extBut _ _ (na (by decide)) (s4.extBut _ _ (na (by decide)) (s3.extBut _ _ (na (by decide)) (s2.extBut _ _ (na (by decide)) hz1))))
 have k7:∀ q o,q≠n+5->q≠n+4->q≠n+0->q≠n+1->q≠n+2->s.heap.get? q=some o->g7.get? q=some o:=λq o c1 c2 c3 c4 c5 e=>up57 q o c2 c5 (k5 q o c1 c2 c3 c4 e)
 have i17:g7.IsListIter (n+0) l1 (i+1):=i12.at λo e=>up57 _ o (na (by decide)) (na (by decide)) (s5.extBut _ _ (na (by decide)) (s4.extBut _ _ (na (by decide)) (s3.extBut _ _ (na (by decide)) e)))
 have i27:g7.IsListIter (n+1) l2 (i+1):=i24.at λo e=>up57 _ o (na (by decide)) (na (by decide)) (s5.extBut _ _ (na (by decide)) e)
 have i37:g7.IsListIter (n+2) l3 (i+1):=i36.at λo e=>s7.extBut _ _ (na (by decide)) e
 have hlt:n+5<g7.objs.size:=Heap.lt_size hz7
 show wpAny _ _ (Builtin.SmallTypes.ownedTupleHandOut (.ref (n+5)) (.ref g7.objs.size) >>= _) _ _ _
 refine wpAny_bind ?_
 unfold Builtin.SmallTypes.ownedTupleHandOut
 have hz8:IsZ3 (g7.push { cls:=.type "tuple",data:=.seq #[x,y,z] }) n .ellipsis f1:=Heap.get?_push_of_some _ hz7
 refine wpAny_bind (wpAny_setField_rec hz8 (by simp) λg9 hz9 s9=>?_)
 replace hz9:IsZ3 g9 n (rawInt g7.objs.size) f1:=hz9
 refine wpAny_setField_rec hz9 (by simp) λg10 hz10 s10=>?_
 replace hz10:IsZ3 g10 n (rawInt g7.objs.size) (.bool false):=hz10
 have up:∀ q o,q≠n+5->g7.get? q=some o->g10.get? q=some o:=λq o c1 e=>s10.extBut _ _ c1 (s9.extBut _ _ c1 (Heap.get?_push_of_some _ e))
 have hT:IsTri g10 g7.objs.size x y z:=s10.extBut _ _ (Nat.ne_of_gt hlt) (s9.extBut _ _ (Nat.ne_of_gt hlt) (Heap.get?_push_size _ rfl))
 have hs10:g10.objs.size=g7.objs.size+1:=by rw [s10.1,s9.1,Heap.size_push]
 rw [hsz] at hz10 hT hs10
 refine wpAny_pure ⟨_,rfl,?_⟩
 show Q (.ref g7.objs.size) _
 rw [hsz]
 refine hQ g10 ⟨hz10,up _ _ (na (by decide)) (k7 _ _ (na (by decide)) (na (by decide)) (na (by decide)) (na (by decide)) (na (by decide)) hTI),⟨x,y,z,up _ _ (na (by decide)) hTO7⟩,i17.at λo e=>up _ o (na (by decide)) e,i27.at λo e=>up _ o (na (by decide)) e,i37.at λo e=>up _ o (na (by decide)) e⟩ hT hs10 λq o hq e=>up q o (oa (by decide) hq) (k7 q o (oa (by decide) hq) (oa (by decide) hq) (oa (by decide) hq) (oa (by decide) hq) (oa (by decide) hq) e)
theorem loadIfAlive_any {M:Model}{a:Addr}{Q:Option Obj->Shared->Prop} (h:Q (s.heap.get? a) s):wpAny M A (loadIfAlive a) Q E s:=fun Γ p _=>by
 unfold loadIfAlive
 rw [Sem.wp_loadIfAlive]
 simpa using h
theorem z3_free {n:Nat}{T:Addr}{oT:Obj}{f1:Value}{Q:Bool->Shared->Prop} (hz:IsZ3 s.heap n (rawInt T) f1) (hT:s.heap.get? T=some oT) (hf:f1=.bool false∨f1=.bool true)
  (hQ:∀ h',IsZ3 h' n (rawInt T) (.bool true)->Heap.SameBut (n+5) s.heap h'->Q false { s with heap:=h' }):wpAny (model prog w) A (Builtin.SmallTypes.ownedTupleIsFree (.ref (n+5))) Q E s:=by
 unfold Builtin.SmallTypes.ownedTupleIsFree
 refine wpAny_bind (wpAny_field hz rfl (x:=rawInt T) rfl ?_)
 show wpAny _ _ (loadIfAlive (T:Int).toNat >>= _) _ _ _
 refine wpAny_bind (loadIfAlive_any ?_)
 rw [Int.toNat_natCast,hT]
 show wpAny _ _ (field (.ref (n+5)) 1 >>= _) _ _ _
 refine wpAny_bind (wpAny_field hz rfl (x:=f1) rfl ?_)
 rcases hf with rfl|rfl
 ·show wpAny _ _ (setField (.ref (n+5)) 1 (.bool true) >>= _) _ _ _
  refine wpAny_bind (wpAny_setField_rec hz (by simp) λh' hz' s'=>wpAny_pure (hQ h' hz' s'))
 ·exact wpAny_pure (hQ _ hz ⟨rfl,λ_ _=>rfl⟩)
theorem z3_more {n i:Nat}{T:Addr}{oT:Obj}{l1 l2 l3:Addr}{xs ys zs:Array Value}{x y z f1:Value}{Q:Value->Shared->Prop} (Z:Z3 s.heap n l1 l2 l3 i (rawInt T) f1) (hT:s.heap.get? T=some oT) (hf:f1=.bool false∨f1=.bool true) (hTn:n+6<=T)
  (hl1:s.heap.IsList l1 xs) (hl2:s.heap.IsList l2 ys) (hl3:s.heap.IsList l3 zs) (t1:l1<n) (t2:l2<n) (t3:l3<n)
  (hx:xs[i]?=some x) (hy:ys[i]?=some y) (hz:zs[i]?=some z)
  (hQ:∀ h',Z3 h' n l1 l2 l3 (i+1) (rawInt T) (.bool true)->IsTri h' s.heap.objs.size x y z->h'.objs.size=s.heap.objs.size+1->(∀ c o,(c<n∨n+6<=c)->s.heap.get? c=some o->h'.get? c=some o)->Q (.ref s.heap.objs.size) { s with heap:=h' }) :
  wpAny (model prog w) A (Builtin.«zip.__next__» ⟨[.ref (n+5)],[]⟩) (λfin s'=>∃ v,fin=.done (.ret v)/\Q v s') E s:=by
 obtain ⟨hzz,hTI,⟨a,b,c,hTO⟩,h1,h2,h3⟩:=Z
 show wpAny _ _ (field (.ref (n+5)) 2 >>= _) _ _ _
 refine wpAny_bind (wpAny_field hzz rfl (x:=.bool false) rfl ?_)
 show wpAny _ _ (field (.ref (n+5)) 3 >>= _) _ _ _
 refine wpAny_bind (wpAny_field hzz rfl (x:=.ref (n+3)) rfl ?_)
 refine wpAny_bind (wpAny_seqItems hTI rfl ?_)
 show wpAny _ _ (Builtin.SmallTypes.ownedTupleIsFree (.ref (n+5)) >>= _) _ _ _
 refine wpAny_bind (z3_free hzz hT hf λg1 hz1 s1=>?_)
 simp only [Bool.false_eq_true,if_false]
 refine wpAny_bind ?_
 simp only [List.forIn_toArray,List.forIn_cons,List.forIn_nil]
 refine wpAny_bind (wpAny_bind (wpAny_holding ?_))
 show wpAny _ _ (Builtin.SmallTypes.nextOf (.ref (n+0)) >>= _) _ _ _
 refine wpAny_bind (wpAny_nextOf_list_item (h1.extBut s1.extBut (na (by decide))) (hl1.extBut s1.extBut (la t1)) hx λg2 i12 s2=>wpAny_pure ?_)
 refine wpAny_pure ?_
 refine wpAny_bind (wpAny_bind (wpAny_holding ?_))
 show wpAny _ _ (Builtin.SmallTypes.nextOf (.ref (n+1)) >>= _) _ _ _
 refine wpAny_bind (wpAny_nextOf_list_item ((h2.extBut s1.extBut (na (by decide))).extBut s2.extBut (na (by decide))) ((hl2.extBut s1.extBut (la t2)).extBut s2.extBut (la t2)) hy λg3 i23 s3=>wpAny_pure ?_)
 refine wpAny_pure ?_
 refine wpAny_bind (wpAny_bind (wpAny_holding ?_))
 show wpAny _ _ (Builtin.SmallTypes.nextOf (.ref (n+2)) >>= _) _ _ _
 refine wpAny_bind (wpAny_nextOf_list_item (((h3.extBut s1.extBut (na (by decide))).extBut s2.extBut (na (by decide))).extBut s3.extBut (na (by decide))) (((hl3.extBut s1.extBut (la t3)).extBut s2.extBut (la t3)).extBut s3.extBut (la t3)) hz λg4 i34 s4=>wpAny_pure ?_)
 refine wpAny_pure (wpAny_pure ?_)
 show wpAny _ _ (newTuple [x,y,z] >>= _) _ _ _
 refine wpAny_bind (wpAny_newTuple ?_)
 have hsz:g4.objs.size=s.heap.objs.size:=by rw [s4.1,s3.1,s2.1,s1.1]
 have up:∀ q o,q≠n+5->q≠n+0->q≠n+1->q≠n+2->s.heap.get? q=some o->(g4.push { cls:=.type "tuple",data:=.seq #[x,y,z] }).get? q=some o:=λq o c1 c2 c3 c4 e=>
  Heap.get?_push_of_some _ (s4.extBut _ _ c4 (s3.extBut _ _ c3 (s2.extBut _ _ c2 (s1.extBut _ _ c1 e))))
 refine wpAny_pure ⟨_,rfl,?_⟩
 show Q (.ref g4.objs.size) _
 rw [hsz]
 refine hQ _ ⟨Heap.get?_push_of_some _ (s4.extBut _ _ (na (by decide)) (s3.extBut _ _ (na (by decide)) (s2.extBut _ _ (na (by decide)) hz1))),up _ _ (na (by decide)) (na (by decide)) (na (by decide)) (na (by decide)) hTI,⟨a,b,c,up _ _ (na (by decide)) (na (by decide)) (na (by decide)) (na (by decide)) hTO⟩,
  i12.at λo e=>Heap.get?_push_of_some _ (s4.extBut _ _ (na (by decide)) (s3.extBut _ _ (na (by decide)) e)),i23.at λo e=>Heap.get?_push_of_some _ (s4.extBut _ _ (na (by decide)) e),i34.at λo e=>Heap.get?_push_of_some _ e⟩ ?_ ?_ λq o hq e=>up q o (oa (by decide) hq) (oa (by decide) hq) (oa (by decide) hq) (oa (by decide) hq) e
 ·rw [<-hsz];exact Heap.get?_push_size _ rfl
 ·rw [Heap.size_push,hsz]
theorem z3_end {n i:Nat}{T:Addr}{oT:Obj}{l1 l2 l3:Addr}{xs:Array Value}{f1:Value}{Q:Fin->Shared->Prop} (hh:A.handled=none) (Z:Z3 s.heap n l1 l2 l3 i (rawInt T) f1) (hT:s.heap.get? T=some oT) (hf:f1=.bool false∨f1=.bool true)
  (hl1:s.heap.IsList l1 xs) (t1:l1<n) (hx:xs[i]?=none)
  (hE:∀ h' e,(∀ c o,(c<n∨n+6<=c)->s.heap.get? c=some o->h'.get? c=some o)->(∃ o,h'.get? e=some o/\o.cls=.type "StopIteration")->E (.ref e) { s with heap:=h' }) :
  wpAny (model prog w) A (Builtin.«zip.__next__» ⟨[.ref (n+5)],[]⟩) Q E s:=by
 obtain ⟨hzz,hTI,⟨a,b,c,hTO⟩,h1,h2,h3⟩:=Z
 show wpAny _ _ (field (.ref (n+5)) 2 >>= _) _ _ _
 refine wpAny_bind (wpAny_field hzz rfl (x:=.bool false) rfl ?_)
 show wpAny _ _ (field (.ref (n+5)) 3 >>= _) _ _ _
 refine wpAny_bind (wpAny_field hzz rfl (x:=.ref (n+3)) rfl ?_)
 refine wpAny_bind (wpAny_seqItems hTI rfl ?_)
 show wpAny _ _ (Builtin.SmallTypes.ownedTupleIsFree (.ref (n+5)) >>= _) _ _ _
 refine wpAny_bind (z3_free hzz hT hf λg1 hz1 s1=>?_)
 simp only [Bool.false_eq_true,if_false]
 refine wpAny_bind ?_
 simp only [List.forIn_toArray,List.forIn_cons,List.forIn_nil]
 refine wpAny_bind (wpAny_bind (wpAny_holding ?_))
 show wpAny _ _ (Builtin.SmallTypes.nextOf (.ref (n+0)) >>= _) _ _ _
 refine wpAny_bind (wpAny_nextOf_list_end hh (h1.extBut s1.extBut (na (by decide))) (hl1.extBut s1.extBut (la t1)) hx λg2 e s2 he=>?_)
 exact hE g2 e (λq o hq e=>s2 _ _ (oa (by decide) hq) (s1.extBut _ _ (oa (by decide) hq) e)) he
theorem next_z3_first {n i:Nat}{l1 l2 l3:Addr}{xs ys zs:Array Value}{x y z f1:Value}{Q:Option Value->Shared->Prop} (Z:Z3 s.heap n l1 l2 l3 i .none f1) (hl1:s.heap.IsList l1 xs) (hl2:s.heap.IsList l2 ys) (hl3:s.heap.IsList l3 zs) (t1:l1<n) (t2:l2<n) (t3:l3<n)
  (hx:xs[i]?=some x) (hy:ys[i]?=some y) (hz:zs[i]?=some z)
  (hQ:∀ h',Z3 h' n l1 l2 l3 (i+1) (rawInt s.heap.objs.size) (.bool false)->IsTri h' s.heap.objs.size x y z->h'.objs.size=s.heap.objs.size+1->(∀ c o,(c<n∨n+6<=c)->s.heap.get? c=some o->h'.get? c=some o)->Q (some (.ref s.heap.objs.size)) { s with heap:=h' }) :
  wpAny (model prog w) A (pyNext (.ref (n+5))) Q E s:=by
 have hT:s.TypeIs (.ref (n+5)) "zip":=⟨_,Z.z,rfl⟩
 unfold pyNext
 exact wpAny_bind (wpAny_attempt (wpAny_callSpecial?_slot (name:=Str.ofString "__next__") hT F.slot_zip_next
  (wpAny_call_entry F.slot_zip_next hT F.entry_zip_next (z3_first Z hl1 hl2 hl3 t1 t2 t3 hx hy hz λh' a1 a2 a3 a4=>wpAny_pure (hQ h' a1 a2 a3 a4)) (F.args_zip_next_1 _))))
theorem next_z3_more {n i:Nat}{T:Addr}{oT:Obj}{l1 l2 l3:Addr}{xs ys zs:Array Value}{x y z f1:Value}{Q:Option Value->Shared->Prop} (Z:Z3 s.heap n l1 l2 l3 i (rawInt T) f1) (hT:s.heap.get? T=some oT) (hf:f1=.bool false∨f1=.bool true) (hTn:n+6<=T)
  (hl1:s.heap.IsList l1 xs) (hl2:s.heap.IsList l2 ys) (hl3:s.heap.IsList l3 zs) (t1:l1<n) (t2:l2<n) (t3:l3<n)
  (hx:xs[i]?=some x) (hy:ys[i]?=some y) (hz:zs[i]?=some z)
  (hQ:∀ h',Z3 h' n l1 l2 l3 (i+1) (rawInt T) (.bool true)->IsTri h' s.heap.objs.size x y z->h'.objs.size=s.heap.objs.size+1->(∀ c o,(c<n∨n+6<=c)->s.heap.get? c=some o->h'.get? c=some o)->Q (some (.ref s.heap.objs.size)) { s with heap:=h' }) :
  wpAny (model prog w) A (pyNext (.ref (n+5))) Q E s:=by
 have hTy:s.TypeIs (.ref (n+5)) "zip":=⟨_,Z.z,rfl⟩
 unfold pyNext
 exact wpAny_bind (wpAny_attempt (wpAny_callSpecial?_slot (name:=Str.ofString "__next__") hTy F.slot_zip_next
  (wpAny_call_entry F.slot_zip_next hTy F.entry_zip_next (z3_more Z hT hf hTn hl1 hl2 hl3 t1 t2 t3 hx hy hz λh' a1 a2 a3 a4=>wpAny_pure (hQ h' a1 a2 a3 a4)) (F.args_zip_next_1 _))))
theorem next_z3_end {n i:Nat}{T:Addr}{oT:Obj}{l1 l2 l3:Addr}{xs:Array Value}{f1:Value}{Q:Option Value->Shared->Prop} (hh:A.handled=none) (Z:Z3 s.heap n l1 l2 l3 i (rawInt T) f1) (hT:s.heap.get? T=some oT) (hf:f1=.bool false∨f1=.bool true)
  (hl1:s.heap.IsList l1 xs) (t1:l1<n) (hx:xs[i]?=none)
  (hQ:∀ h',(∀ c o,(c<n∨n+6<=c)->s.heap.get? c=some o->h'.get? c=some o)->Q none { s with heap:=h' }):wpAny (model prog w) A (pyNext (.ref (n+5))) Q E s:=by
 have hTy:s.TypeIs (.ref (n+5)) "zip":=⟨_,Z.z,rfl⟩
 unfold pyNext
 refine wpAny_bind (wpAny_attempt (wpAny_callSpecial?_slot (name:=Str.ofString "__next__") hTy F.slot_zip_next
  (wpAny_call_entry F.slot_zip_next hTy F.entry_zip_next (z3_end hh Z hT hf hl1 t1 hx λh' e hk he=>?_) (F.args_zip_next_1 _))))
 obtain ⟨o,ho,hc⟩:=he
 refine wpAny_bind (wpAny_isInstance (T:="StopIteration") (b:=true) ⟨o,ho,hc⟩ isSubtype_stop ?_)
 exact wpAny_pure (hQ _ hk)
theorem iter_z3 {n:Nat}{f0 f1:Value}{Q:Value->Shared->Prop} (hz:IsZ3 s.heap n f0 f1) (h:Q (.ref (n+5)) s):wpAny (model prog w) A (pyIter (.ref (n+5))) Q E s:=by
 have hT:s.TypeIs (.ref (n+5)) "zip":=⟨_,hz,rfl⟩
 refine wpAny_pyIter_slot hT F.slot_zip_iter (wpAny_call_entry F.slot_zip_iter hT F.entry_zip_iter ?_ (F.args_zip_iter_1 _))
 show wpAny _ _ (ret (.ref (n+5))) _ _ s
 exact wpAny_pure ⟨_,rfl,"zip",_,hT,F.slot_zip_next.lookup,h⟩
end
end Cut
namespace Cut
open PySem
theorem typeCall_zip_3 (a b c:Value):checkTypeCall "zip" ⟨[a,b,c],[]⟩=pure ():=by kernel_rfl
theorem newCall_zip_3 (a b c:Value):checkBuiltinCall "zip.__new__" ⟨[.type "zip",a,b,c],[]⟩=pure ():=by kernel_rfl
theorem args_object_init_4 (a b c d:Value):argsOk "object.__init__" ⟨[a,b,c,d],[]⟩:=by
 unfold argsOk;rw [signature?_of (id:="object.__init__") (n:=['_','_','t','i','n','i','_','_']) (o:=['t','c','e','j','b','o']) (by kernel_rfl) F.owner_object];kernel_rfl
theorem zip_no_len:typeLookup (.type "zip") "__len__"=pure none:=by rw [typeLookup_type,builtinLookup_eq_fast];kernel_rfl
theorem zip_no_hint:typeLookup (.type "zip") "__length_hint__"=pure none:=by rw [typeLookup_type,builtinLookup_eq_fast];kernel_rfl
abbrev zA1 (h:Heap) (l1:Addr):Heap:=h.push { cls:=.type "list_iterator",data:=.fields #[.ref l1,.int 0 0] }
abbrev zA2 (h:Heap) (l1 l2:Addr):Heap:=(zA1 h l1).push { cls:=.type "list_iterator",data:=.fields #[.ref l2,.int 0 0] }
abbrev zA3 (h:Heap) (l1 l2 l3:Addr):Heap:=(zA2 h l1 l2).push { cls:=.type "list_iterator",data:=.fields #[.ref l3,.int 0 0] }
abbrev zA4 (h:Heap) (l1 l2 l3:Addr):Heap:=(zA3 h l1 l2 l3).push { cls:=.type "tuple",data:=.seq #[.ref h.objs.size,.ref (zA1 h l1).objs.size,.ref (zA2 h l1 l2).objs.size] }
abbrev zA5 (h:Heap) (l1 l2 l3:Addr):Heap:=(zA4 h l1 l2 l3).push { cls:=.type "tuple",data:=.seq #[.none,.none,.none] }
abbrev zA6 (h:Heap) (l1 l2 l3:Addr):Heap:=(zA5 h l1 l2 l3).push { cls:=.type "zip",data:=.fields #[.none,.bool false,.bool false,.ref (zA3 h l1 l2 l3).objs.size,.ref (zA4 h l1 l2 l3).objs.size] }
theorem meets_zip3_new (l1 l2 l3:Addr) (xs ys zs:Array Value) :
  Meets (Builtin.«zip.__new__» ⟨[.type "zip",.ref l1,.ref l2,.ref l3],[]⟩) (λ_ R s=>s.heap.IsList l1 xs/\s.heap.IsList l2 ys/\s.heap.IsList l3 zs/\
   R (.ok (.ret (.ref (zA5 s.heap l1 l2 l3).objs.size))) { s with heap:=zA6 s.heap l1 l2 l3 }):=
 .of_wp λprog w A R s h=>by
  obtain ⟨hp,g,d,tk,os⟩:=s;obtain ⟨hl1,hl2,hl3,h⟩:=h
  have hsub:=sub_zip
  have hL1:Heap.IsList (Shared.heap ⟨hp,g,d,tk,os⟩) l1 xs:=hl1
  have hL2:Heap.IsList (Shared.heap ⟨hp.push { cls:=.type "list_iterator",data:=.fields #[.ref l1,.int 0 0] },g,d,tk,os⟩) l2 ys:=Heap.IsList.push hl2 _
  have hL3:Heap.IsList (Shared.heap ⟨(hp.push { cls:=.type "list_iterator",data:=.fields #[.ref l1,.int 0 0] }).push { cls:=.type "list_iterator",data:=.fields #[.ref l2,.int 0 0] },g,d,tk,os⟩) l3 zs:=Heap.IsList.push (Heap.IsList.push hl3 _) _
  wp_walk using wpAny_pyIter_list hL1,wpAny_pyIter_list hL2,wpAny_pyIter_list hL3
  exact ⟨_,rfl,h⟩
section
variable {prog:Program}{w:World}{A:Around}{E:Value->Shared->Prop}{s:Shared}
theorem call_zip_3 {l1 l2 l3:Addr}{xs ys zs:Array Value}{Q:Value->Shared->Prop} (hl1:s.heap.IsList l1 xs) (hl2:s.heap.IsList l2 ys) (hl3:s.heap.IsList l3 zs)
  (h:∀ h',Z3 h' s.heap.objs.size l1 l2 l3 0 .none (.bool false)->h'.objs.size=s.heap.objs.size+6->(∀ c o,s.heap.get? c=some o->h'.get? c=some o)->Q (.ref (s.heap.objs.size+5)) { s with heap:=h' }) :
  wpAny (model prog w) A (call (.type "zip") [.ref l1,.ref l2,.ref l3]) Q E s:=by
 refine callType_new F.called_zip (by decide) (typeCall_zip_3 _ _ _) (newCall_zip_3 _ _ _) (λobj=>args_object_init_4 obj _ _ _) F.entry_zip_new
  (meets_zip3_new l1 l2 l3 xs ys zs) ⟨hl1,hl2,hl3,?_⟩
 have z1:(zA1 s.heap l1).objs.size=s.heap.objs.size+1:=Heap.size_push ..
 have z2:(zA2 s.heap l1 l2).objs.size=s.heap.objs.size+2:=by rw [Heap.size_push,z1]
 have z3:(zA3 s.heap l1 l2 l3).objs.size=s.heap.objs.size+3:=by rw [Heap.size_push,z2]
 have z4:(zA4 s.heap l1 l2 l3).objs.size=s.heap.objs.size+4:=by rw [Heap.size_push,z3]
 have z5:(zA5 s.heap l1 l2 l3).objs.size=s.heap.objs.size+5:=by rw [Heap.size_push,z4]
 have z6:(zA6 s.heap l1 l2 l3).objs.size=s.heap.objs.size+6:=by rw [Heap.size_push,z5]
 have g6:(zA6 s.heap l1 l2 l3).get? (zA5 s.heap l1 l2 l3).objs.size=some _:=Heap.get?_push_size _ rfl
 have g5:(zA6 s.heap l1 l2 l3).get? (zA4 s.heap l1 l2 l3).objs.size=some _:=Heap.get?_push_of_some _ (Heap.get?_push_size _ rfl)
 have g4:(zA6 s.heap l1 l2 l3).get? (zA3 s.heap l1 l2 l3).objs.size=some _:=Heap.get?_push_of_some _ (Heap.get?_push_of_some _ (Heap.get?_push_size _ rfl))
 have g3:(zA6 s.heap l1 l2 l3).get? (zA2 s.heap l1 l2).objs.size=some _:=Heap.get?_push_of_some _ (Heap.get?_push_of_some _ (Heap.get?_push_of_some _ (Heap.get?_push_size _ rfl)))
 have g2:(zA6 s.heap l1 l2 l3).get? (zA1 s.heap l1).objs.size=some _:=Heap.get?_push_of_some _ (Heap.get?_push_of_some _ (Heap.get?_push_of_some _ (Heap.get?_push_of_some _ (Heap.get?_push_size _ rfl))))
 have g1:(zA6 s.heap l1 l2 l3).get? s.heap.objs.size=some _:=Heap.get?_push_of_some _ (Heap.get?_push_of_some _ (Heap.get?_push_of_some _ (Heap.get?_push_of_some _ (Heap.get?_push_of_some _ (Heap.get?_push_size _ rfl)))))
 show _/\_
 rw [z3,z4,z5] at g6
 rw [z1,z2,z3] at g4
 rw [z4] at g5
 rw [z2] at g3
 rw [z1] at g2
 rw [z5]
 exact ⟨⟨_,g6,rfl⟩,h _ ⟨g6,g4,⟨_,_,_,g5⟩,⟨_,g1,rfl,rfl⟩,⟨_,g2,rfl,rfl⟩,⟨_,g3,rfl,rfl⟩⟩ z6 λc o x=>
  Heap.get?_push_of_some _ (Heap.get?_push_of_some _ (Heap.get?_push_of_some _ (Heap.get?_push_of_some _ (Heap.get?_push_of_some _ (Heap.get?_push_of_some _ x)))))⟩
end
theorem Z3.keep {h h':Heap}{n:Nat}{l1 l2 l3:Addr}{i:Nat}{f0 f1:Value} (Z:Z3 h n l1 l2 l3 i f0 f1) (k:∀ q o,n<=q->q<n+6->h.get? q=some o->h'.get? q=some o):Z3 h' n l1 l2 l3 i f0 f1:=
 have in6:∀ j,j<6->n<=n+j/\n+j<n+6:=λj hj=>⟨Nat.le_add_right _ _,Nat.add_lt_add_left hj n⟩
 ⟨k _ _ (in6 5 (by decide)).1 (in6 5 (by decide)).2 Z.z,k _ _ (in6 3 (by decide)).1 (in6 3 (by decide)).2 Z.ti,let ⟨a,b,c,e⟩:=Z.to;⟨a,b,c,k _ _ (in6 4 (by decide)).1 (in6 4 (by decide)).2 e⟩,
  Z.i1.at λo e=>k _ o (in6 0 (by decide)).1 (in6 0 (by decide)).2 e,Z.i2.at λo e=>k _ o (in6 1 (by decide)).1 (in6 1 (by decide)).2 e,Z.i3.at λo e=>k _ o (in6 2 (by decide)).1 (in6 2 (by decide)).2 e⟩
def Items3 (h:Heap) (n S:Nat) (xs ys zs acc:Array Value):Prop:=∀ (j:Nat) (v:Value),acc[j]?=some v->∃ (t:Addr) (x y z:Value),v=Value.ref t/\n+6<=t/\t≠S/\IsTri h t x y z/\xs[j]?=some x/\ys[j]?=some y/\zs[j]?=some z
theorem Items3.keep {h h':Heap}{n S:Nat}{xs ys zs acc:Array Value} (x:Items3 h n S xs ys zs acc) (k:∀ q o,n+6<=q->q≠S->h.get? q=some o->h'.get? q=some o):Items3 h' n S xs ys zs acc:=λj v e=>
 let ⟨t,a,b,c,h1,h2,h3,h4,h5⟩:=x j v e
 ⟨t,a,b,c,h1,h2,h3,k _ _ h2 h3 h4,h5⟩
theorem Items3.push {h:Heap}{n S:Nat}{xs ys zs acc:Array Value}{t:Addr}{a b c:Value} (x:Items3 h n S xs ys zs acc) (h2:n+6<=t) (h3:t≠S) (h4:IsTri h t a b c) (ha:xs[acc.size]?=some a) (hb:ys[acc.size]?=some b) (hc:zs[acc.size]?=some c) :
  Items3 h n S xs ys zs (acc.push (.ref t)):=λj v e=>by
 rw [Array.getElem?_push] at e
 split at e
 ·rename_i e2
  cases e
  rw [e2]
  exact ⟨t,a,b,c,rfl,h2,h3,h4,ha,hb,hc⟩
 ·exact x j v e
theorem ne6 {n q S:Nat} (h:q<n+6) (hS:n+6<=S):q≠S:=by omega
section
variable {prog:Program}{w:World}{A:Around}{R:Result->Shared->Prop}{n m:Nat}{l1 l2 l3 S:Addr}{xs ys zs:Array Value}{res:Value}
theorem z3_loop (hh:A.handled=none) (t1:l1<n) (t2:l2<n) (t3:l3<n) (hS6:n+6<=S) (hxm:xs.size=m) (hym:ys.size=m) (hzm:zs.size=m) (hm:m<=sizeLine) :
  ∀ (k i:Nat) (s:Shared) (acc:Array Value) (c:Nat) (T:Addr) (oT:Obj) (f1:Value),m-i=k->i<=m->Z3 s.heap n l1 l2 l3 i (rawInt T) f1->s.heap.get? T=some oT->(f1=.bool false∨f1=.bool true)->n+6<=T->T≠S->
  s.heap.IsList l1 xs->s.heap.IsList l2 ys->s.heap.IsList l3 zs->s.heap.get? S=some { cls:=.type "list",dict:=none,data:=.seq acc c,slots:=#[] }->acc.size=i->Items3 s.heap n S xs ys zs acc->
  (∀ h' acc' c',(∀ b o,b≠S->(b<n∨n+6<=b)->s.heap.get? b=some o->h'.get? b=some o)->h'.get? S=some { cls:=.type "list",dict:=none,data:=.seq acc' c',slots:=#[] }->acc'.size=m->Items3 h' n S xs ys zs acc'->R (.ok (.ret res)) { s with heap:=h' })->
  codeAny (model prog w) A (.builtin "list.extend.loop" ⟨[.ref S,.ref (n+5),res],[]⟩) R s:=by
 intro k
 induction k with
 |zero=>
  intro i s acc c T oT f1 hk hi Z hT hf hTn hTS hl1 hl2 hl3 hS hacc hit hR
  have hin:i=m:=by omega
  subst hin
  refine codeAny_builtin F.entry_extend_loop ?_
  rw [Around.under_plainId F.plain_extend_loop _]
  show wpAny _ A.in1 (pyNext (.ref (n+5)) >>= _) _ _ s
  refine wpAny_bind (next_z3_end (A:=A.in1) hh Z hT hf hl1 t1 (Array.getElem?_eq_none (by omega)) λh' kp=>?_)
  exact wpAny_pure (hR h' acc c (λb o _ hb e=>kp b o hb e) (kp S _ (.inr hS6) hS) hacc (hit.keep λq o hq _ e=>kp q o (.inr hq) e))
 |succ k ih=>
  intro i s acc c T oT f1 hk hi Z hT hf hTn hTS hl1 hl2 hl3 hS hacc hit hR
  have hlt:i<m:=by omega
  refine codeAny_builtin F.entry_extend_loop ?_
  rw [Around.under_plainId F.plain_extend_loop _]
  show wpAny _ A.in1 (pyNext (.ref (n+5)) >>= _) _ _ s
  have ex:xs[i]?=some (xs[i]'(by omega)):=Array.getElem?_eq_getElem _
  have ey:ys[i]?=some (ys[i]'(by omega)):=Array.getElem?_eq_getElem _
  have ez:zs[i]?=some (zs[i]'(by omega)):=Array.getElem?_eq_getElem _
  refine wpAny_bind (next_z3_more Z hT hf hTn hl1 hl2 hl3 t1 t2 t3 ex ey ez λh' Z' tri hsz kp=>?_)
  have hS':=kp S _ (.inr hS6) hS
  have hTl:=Heap.lt_size hT
  have hSl:=Heap.lt_size hS
  have hnT:n+6<=s.heap.objs.size:=Nat.le_trans hTn (Nat.le_of_lt hTl)
  show wpAny _ A.in1 (updateSeq S (·.push (.ref s.heap.objs.size)) >>= _) _ _ _
  refine wpAny_bind ?_
  have oth:∀ b o,b≠S->h'.get? b=some o->(h'.update S (Obj.mapSeq (·.push (Value.ref s.heap.objs.size)))).get? b=some o:=λb o hb e=>(Heap.get?_update_other _ _ (Ne.symm hb)).trans e
  refine wpAny_updateSeq hS' rfl (wpAny_pure ⟨plainId_quiet F.plain_extend_loop _,ih (i+1) _ (acc.push (.ref s.heap.objs.size)) _ T oT (.bool true) (by omega) hlt (Z'.keep λq o _ hq e=>oth q o (ne6 hq hS6) e) (oth T _ hTS (kp T _ (.inr hTn) hT)) (.inr rfl) hTn hTS
   ((hl1.at λo e=>kp l1 o (.inl t1) e).at λo e=>oth l1 o (ne6 (Nat.lt_of_lt_of_le t1 (Nat.le_add_right _ _)) hS6) e) ((hl2.at λo e=>kp l2 o (.inl t2) e).at λo e=>oth l2 o (ne6 (Nat.lt_of_lt_of_le t2 (Nat.le_add_right _ _)) hS6) e) ((hl3.at λo e=>kp l3 o (.inl t3) e).at λo e=>oth l3 o (ne6 (Nat.lt_of_lt_of_le t3 (Nat.le_add_right _ _)) hS6) e)
   (Heap.get?_update_self _ hS' rfl) (by rw [Array.size_push,hacc]) ?_ λh'' acc' c' hk'' hS'' hacc' hit'=>?_⟩)
   (by rw [hacc];omega) (by show (acc.push _).size<=sizeLine+1;rw [Array.size_push,hacc];omega)
  ·refine Items3.push ((hit.keep λq o hq _ e=>kp q o (.inr hq) e).keep λq o _ hq e=>oth q o hq e) hnT (Nat.ne_of_gt hSl) (oth _ _ (Nat.ne_of_gt hSl) tri) ?_ ?_ ?_
   ·rw [hacc];exact ex
   ·rw [hacc];exact ey
   ·rw [hacc];exact ez
  ·exact hR h'' acc' c' (λb o hb hb2 e=>hk'' b o hb hb2 (oth b o hb (kp b o hb2 e))) hS'' hacc' hit'
theorem z3_start (hh:A.handled=none) (t1:l1<n) (t2:l2<n) (t3:l3<n) (hS6:n+6<=S) (hxm:xs.size=m) (hym:ys.size=m) (hzm:zs.size=m) (hm:m<=sizeLine) (hm1:1<=m) {s:Shared}{c:Nat}{f1:Value}
  (Z:Z3 s.heap n l1 l2 l3 0 .none f1) (hl1:s.heap.IsList l1 xs) (hl2:s.heap.IsList l2 ys) (hl3:s.heap.IsList l3 zs) (hS:s.heap.get? S=some { cls:=.type "list",dict:=none,data:=.seq #[] c,slots:=#[] })
  (hR:∀ h' acc' c',(∀ b o,b≠S->(b<n∨n+6<=b)->s.heap.get? b=some o->h'.get? b=some o)->h'.get? S=some { cls:=.type "list",dict:=none,data:=.seq acc' c',slots:=#[] }->acc'.size=m->Items3 h' n S xs ys zs acc'->R (.ok (.ret res)) { s with heap:=h' }) :
  codeAny (model prog w) A (.builtin "list.extend.loop" ⟨[.ref S,.ref (n+5),res],[]⟩) R s:=by
 refine codeAny_builtin F.entry_extend_loop ?_
 rw [Around.under_plainId F.plain_extend_loop _]
 show wpAny _ A.in1 (pyNext (.ref (n+5)) >>= _) _ _ s
 have ex:xs[0]?=some (xs[0]'(by omega)):=Array.getElem?_eq_getElem _
 have ey:ys[0]?=some (ys[0]'(by omega)):=Array.getElem?_eq_getElem _
 have ez:zs[0]?=some (zs[0]'(by omega)):=Array.getElem?_eq_getElem _
 refine wpAny_bind (next_z3_first Z hl1 hl2 hl3 t1 t2 t3 ex ey ez λh' Z' tri hsz kp=>?_)
 have hS':=kp S _ (.inr hS6) hS
 have hSl:=Heap.lt_size hS
 have hnT:n+6<=s.heap.objs.size:=Nat.le_trans hS6 (Nat.le_of_lt hSl)
 show wpAny _ A.in1 (updateSeq S (·.push (.ref s.heap.objs.size)) >>= _) _ _ _
 refine wpAny_bind ?_
 have oth:∀ b o,b≠S->h'.get? b=some o->(h'.update S (Obj.mapSeq (·.push (Value.ref s.heap.objs.size)))).get? b=some o:=λb o hb e=>(Heap.get?_update_other _ _ (Ne.symm hb)).trans e
 refine wpAny_updateSeq hS' rfl (wpAny_pure ⟨plainId_quiet F.plain_extend_loop _,z3_loop hh t1 t2 t3 hS6 hxm hym hzm hm (m - 1) 1 _ ((#[]:Array Value).push (.ref s.heap.objs.size)) _ s.heap.objs.size _ (.bool false) rfl hm1 (Z'.keep λq o _ hq e=>oth q o (ne6 hq hS6) e) (oth _ _ (Nat.ne_of_gt hSl) tri) (.inl rfl) hnT (Nat.ne_of_gt hSl)
  ((hl1.at λo e=>kp l1 o (.inl t1) e).at λo e=>oth l1 o (ne6 (Nat.lt_of_lt_of_le t1 (Nat.le_add_right _ _)) hS6) e) ((hl2.at λo e=>kp l2 o (.inl t2) e).at λo e=>oth l2 o (ne6 (Nat.lt_of_lt_of_le t2 (Nat.le_add_right _ _)) hS6) e) ((hl3.at λo e=>kp l3 o (.inl t3) e).at λo e=>oth l3 o (ne6 (Nat.lt_of_lt_of_le t3 (Nat.le_add_right _ _)) hS6) e)
  (Heap.get?_update_self _ hS' rfl) rfl ?_ λh'' acc' c' hk'' hS'' hacc' hit'=>?_⟩)
  (by show (#[]:Array Value).size<=_;simp) (by show ((#[]:Array Value).push _).size<=sizeLine+1;simp)
 ·exact Items3.push (acc:=#[]) (λj v e=>by simp at e) hnT (Nat.ne_of_gt hSl) (oth _ _ (Nat.ne_of_gt hSl) tri) ex ey ez
 ·exact hR h'' acc' c' (λb o hb hb2 e=>hk'' b o hb hb2 (oth b o hb (kp b o hb2 e))) hS'' hacc' hit'
theorem extend_z3 (hh:A.handled=none) (t1:l1<n) (t2:l2<n) (t3:l3<n) (hS6:n+6<=S) (hxm:xs.size=m) (hym:ys.size=m) (hzm:zs.size=m) (hm:m<=sizeLine) (hm1:1<=m) {s:Shared}{c:Nat}{f1:Value}
  (Z:Z3 s.heap n l1 l2 l3 0 .none f1) (hl1:s.heap.IsList l1 xs) (hl2:s.heap.IsList l2 ys) (hl3:s.heap.IsList l3 zs) (hS:s.heap.get? S=some { cls:=.type "list",dict:=none,data:=.seq #[] c,slots:=#[] })
  (hR:∀ h' acc' c',(∀ b o,b≠S->(b<n∨n+6<=b)->s.heap.get? b=some o->h'.get? b=some o)->h'.get? S=some { cls:=.type "list",dict:=none,data:=.seq acc' c',slots:=#[] }->acc'.size=m->Items3 h' n S xs ys zs acc'->R (.ok (.ret res)) { s with heap:=h' }) :
  wpAny (model prog w) A.in1 (Builtin.List.listExtendWith (.ref S) (.ref (n+5)) res)
   (λfin s'=>match fin with | .done f=>R (.ok f) s' | .again c'=>c'.quiet=true/\codeAny (model prog w) A c' R s') (λe s'=>R (.error e) s') s:=by
 have hSI:S≠n+5:=Nat.ne_of_gt (Nat.lt_of_lt_of_le (Nat.add_lt_add_left (by decide) n) hS6)
 have hT:s.TypeIs (.ref (n+5)) "zip":=⟨_,Z.z,rfl⟩
 unfold Builtin.List.listExtendWith
 refine wpAny_bind (wpAny_typeOf hT ?_)
 have h1:Builtin.List.listSameRef (.ref S) (.ref (n+5))=false:=by simp [Builtin.List.listSameRef,hSI]
 have h2:(Value.type "zip" == Value.type "list")=false:=by decide
 have h3:(Value.type "zip" == Value.type "tuple")=false:=by decide
 simp only [h1,h2,h3,Bool.or_false,Bool.false_eq_true,if_false]
 refine wpAny_bind (iter_z3 Z.z ?_)
 refine wpAny_bind (wpAny_holding ?_)
 unfold Builtin.List.listLengthHint
 refine wpAny_bind (wpAny_specialOf hT zip_no_len ?_)
 show wpAny _ A.in1 (specialOf (Value.ref (n+5)) (Str.ofString "__length_hint__") >>= _) _ _ _
 refine wpAny_bind (wpAny_specialOf hT zip_no_hint ?_)
 refine wpAny_pure ?_
 show wpAny _ A.in1 (rule "list.extend.makes-room" >>= λ_=>Builtin.List.listTouch (.ref S) >>= λ_=>
  again (.builtin "list.extend.loop" ⟨[.ref S,.ref (n+5),res],[]⟩)) _ _ _
 refine wpAny_bind (wpAny_rule ?_)
 refine wpAny_bind ?_
 show wpAny _ A.in1 (updateSeq S (·.push .none) >>= λ_=>updateSeq S (·.pop)) _ _ _
 refine wpAny_bind (wpAny_updateSeq hS rfl ?_)
 have hS₂:=Heap.get?_update_self (Obj.mapSeq (·.push Value.none)) hS rfl
 refine wpAny_updateSeq (hz:=by seq_fits) hS₂ rfl ?_
 have hS₃:=Heap.get?_update_self (Obj.mapSeq (·.pop)) hS₂ rfl
 have oth:∀ b o,b≠S->s.heap.get? b=some o->((s.heap.update S (Obj.mapSeq (·.push Value.none))).update S (Obj.mapSeq (·.pop))).get? b=some o:=
  λb o hb e=>(Heap.get?_update_other _ _ (Ne.symm hb)).trans ((Heap.get?_update_other _ _ (Ne.symm hb)).trans e)
 refine wpAny_pure ⟨plainId_quiet F.plain_extend_loop _,z3_start hh t1 t2 t3 hS6 hxm hym hzm hm hm1 (Z.keep λq o _ hq e=>oth q o (ne6 hq hS6) e) (hl1.at λo e=>oth l1 o (ne6 (Nat.lt_of_lt_of_le t1 (Nat.le_add_right _ _)) hS6) e) (hl2.at λo e=>oth l2 o (ne6 (Nat.lt_of_lt_of_le t2 (Nat.le_add_right _ _)) hS6) e) (hl3.at λo e=>oth l3 o (ne6 (Nat.lt_of_lt_of_le t3 (Nat.le_add_right _ _)) hS6) e) hS₃ λh' acc' c' kp hS' ha hit=>?_⟩
 exact hR h' acc' c' (λb o hb hb2 e=>kp b o hb hb2 (oth b o hb e)) hS' ha hit
theorem init_z3 (hh:A.handled=none) (t1:l1<n) (t2:l2<n) (t3:l3<n) (hS6:n+6<=S) (hxm:xs.size=m) (hym:ys.size=m) (hzm:zs.size=m) (hm:m<=sizeLine) (hm1:1<=m) {s:Shared}{f1:Value}
  (Z:Z3 s.heap n l1 l2 l3 0 .none f1) (hl1:s.heap.IsList l1 xs) (hl2:s.heap.IsList l2 ys) (hl3:s.heap.IsList l3 zs) (hS:s.heap.get? S=some { cls:=.type "list",data:=.seq #[] })
  (hR:∀ h' acc' c',(∀ b o,b≠S->(b<n∨n+6<=b)->s.heap.get? b=some o->h'.get? b=some o)->h'.get? S=some { cls:=.type "list",dict:=none,data:=.seq acc' c',slots:=#[] }->acc'.size=m->Items3 h' n S xs ys zs acc'->R (.ok (.ret .none)) { s with heap:=h' }) :
  wpAny (model prog w) A.in1 (Builtin.«list.__init__» ⟨[.ref S,.ref (n+5)],[]⟩)
   (λfin s'=>match fin with | .done f=>R (.ok f) s' | .again c'=>c'.quiet=true/\codeAny (model prog w) A c' R s') (λe s'=>R (.error e) s') s:=by
 show wpAny _ A.in1 (do let old<-Builtin.List.listItems (.ref S);Builtin.List.listUpdate (.ref S) (λ_=>#[]);letGo old.toList.reverse;Builtin.List.listExtendWith (.ref S) (.ref (n+5)) .none) _ _ s
 refine wpAny_bind ?_
 unfold Builtin.List.listItems
 refine wpAny_bind (wpAny_seqItems hS rfl (wpAny_pure ?_))
 show wpAny _ A.in1 (updateSeq S (λ_=>#[]) >>= λ_=>letGo (#[]:Array Value).toList.reverse >>= λ_=>Builtin.List.listExtendWith (.ref S) (.ref (n+5)) .none) _ _ s
 refine wpAny_bind (wpAny_updateSeq hS rfl ?_)
 have hS₂:=Heap.get?_update_self (Obj.mapSeq (λ_=>(#[]:Array Value))) hS rfl
 have oth:∀ b o,b≠S->s.heap.get? b=some o->(s.heap.update S (Obj.mapSeq (λ_=>(#[]:Array Value)))).get? b=some o:=
  λb o hb e=>(Heap.get?_update_other _ _ (Ne.symm hb)).trans e
 refine wpAny_bind (wpAny_letGo ?_)
 refine extend_z3 hh t1 t2 t3 hS6 hxm hym hzm hm hm1 (Z.keep λq o _ hq e=>oth q o (ne6 hq hS6) e) (hl1.at λo e=>oth l1 o (ne6 (Nat.lt_of_lt_of_le t1 (Nat.le_add_right _ _)) hS6) e) (hl2.at λo e=>oth l2 o (ne6 (Nat.lt_of_lt_of_le t2 (Nat.le_add_right _ _)) hS6) e) (hl3.at λo e=>oth l3 o (ne6 (Nat.lt_of_lt_of_le t3 (Nat.le_add_right _ _)) hS6) e) hS₂ λh' acc' c' kp hS' ha hit=>?_
 exact hR h' acc' c' (λb o hb hb2 e=>kp b o hb hb2 (oth b o hb e)) hS' ha hit
end
section
variable {prog:Program}{w:World}{A:Around}{E:Value->Shared->Prop}{s:Shared}
theorem call_list_z3 {Q:Value->Shared->Prop}{n m:Nat}{l1 l2 l3:Addr}{xs ys zs:Array Value}{f1:Value} (hh:A.handled=none) (t1:l1<n) (t2:l2<n) (t3:l3<n) (hxm:xs.size=m) (hym:ys.size=m) (hzm:zs.size=m) (hm:m<=sizeLine) (hm1:1<=m)
  (Z:Z3 s.heap n l1 l2 l3 0 .none f1) (hsz:n+6<=s.heap.objs.size) (hl1:s.heap.IsList l1 xs) (hl2:s.heap.IsList l2 ys) (hl3:s.heap.IsList l3 zs)
  (hQ:∀ h' acc' c',(∀ b o,b<n->s.heap.get? b=some o->h'.get? b=some o)->h'.get? s.heap.objs.size=some { cls:=.type "list",dict:=none,data:=.seq acc' c',slots:=#[] }->acc'.size=m->Items3 h' n s.heap.objs.size xs ys zs acc'->
   Q (.ref s.heap.objs.size) { s with heap:=h' }) :
  wpAny (model prog w) A (call (.type "list") [.ref (n+5)]) Q E s:=by
 refine callType_codes (Q₁:=λobj s₁=>obj=.ref s.heap.objs.size/\s₁={ s with heap:=s.heap.push { cls:=.type "list",data:=.seq #[] } }) F.called_list (F.typeCall_list_1 _) F.entry_list_init
  (code_list_new _ ⟨rfl,rfl⟩) λobj s₁ h₁=>?_
 obtain ⟨rfl,rfl⟩:=h₁
 have hS:(s.heap.push { cls:=.type "list",data:=.seq #[] }).get? s.heap.objs.size=some { cls:=.type "list",data:=.seq #[] }:=Heap.get?_push_size _ rfl
 have up:∀ b o,s.heap.get? b=some o->(s.heap.push { cls:=.type "list",data:=.seq #[] }).get? b=some o:=λb o e=>Heap.get?_push_of_some _ e
 refine ⟨⟨_,hS,rfl⟩,F.args_list_init_2 _ _,init_z3 (A:=A.in1) hh t1 t2 t3 hsz hxm hym hzm hm hm1 (Z.keep λq o _ _ e=>up q o e) (hl1.at λo e=>up _ o e) (hl2.at λo e=>up _ o e) (hl3.at λo e=>up _ o e) hS λh' acc' c' kp hS' ha hit=>?_⟩
 exact ⟨rfl,hQ h' acc' c' (λb o hb e=>kp b o (Nat.ne_of_lt (Nat.lt_of_lt_of_le hb (Nat.le_trans (Nat.le_add_right _ _) hsz))) (.inl hb) (up b o e)) hS' ha hit⟩
end
end Cut
namespace L2
open PySem PySem.Spec PyProof.Rows
theorem Inv.laidMany {X:Cx}{pins:List (Addr×Obj)}{σ:St}{H H':Hp}{s:Shared}{h':Heap}{t':Nat} (I:Inv X pins σ H s) (k:∀ b u,s.heap.get? b=some u->h'.get? b=some u) (ext:Same H H')
  (new:∀ b o,H' b=some o->H b=some o∨(s.heap.objs.size<=b/\ObjOk X.prog X.w H' h' b o)):Inv X pins σ H' { s with heap:=h',toks:=t' }:=by
 refine I.un ⟨λb u q _ _ _=>k b u q,λb u q _ _ _=>⟨u.slots,k b u q⟩,λb u q n _=>?_,λb u q _=>⟨u,k b u q⟩,λb xs q=>ext _ _ q,λb u xs q=>ext _ _ q,λb ps q=>⟨#[],by rw [ext _ _ q];simp⟩⟩ λb o e=>?_
 ·cases e:H' b with
  |none=>rfl
  |some o=>
   rcases new b o e with z|z
   ·rw [n] at z;cases z
   ·exact absurd (Heap.lt_size q) (Nat.not_lt.mpr z.1)
 ·rcases new b o e with z|z
  ·exact (I.hok b o z).stay (λc v _ q=>k c v q) (λc q=>ext _ _ q) λc xs q=>ext _ _ q
  ·exact z.2
def tZip3 (K:PySem.W.Frag) (ta:TA):TE:=fun σ H Q=>ta σ H λvs H1=>∃ a b c xs ys zs,vs=[.ref a,.ref b,.ref c]/\SqL K H1 a xs/\SqL K H1 b ys/\SqL K H1 c zs/\1<=xs.length/\ys.length=xs.length/\zs.length=xs.length/\
 ∀ (l:Addr) (ts:List Addr) (H':Hp),Same H1 H'->H1 l=none->H' l=some (.lst (ts.map V.ref))->ts.length=xs.length->
  (∀ (j:Nat) (t:Addr),ts[j]?=some t->H1 t=none/\t≠l/\∃ x y z,xs[j]?=some x/\ys[j]?=some y/\zs[j]?=some z/\H' t=some (.tup [x,y,z]))->Q (.ref l) H'
theorem Vals.back:∀ {xs:List V}{us:List Value}{i:Nat}{u:Value},Vals xs us->us[i]?=some u->∃ x,xs[i]?=some x/\RelV x u:=λ{xs us i u} r e=>by
 have hl:=r.length
 have hi:=(List.getElem?_eq_some_iff.mp e).1
 have hx:xs[i]?=some (xs[i]'(by omega)):=List.getElem?_eq_getElem _
 obtain ⟨u',e',r'⟩:=r.get hx
 rw [e] at e'
 cases e'
 exact ⟨_,hx,r'⟩
theorem refs_of:∀ {us:List Value},(∀ (j:Nat) (u:Value),us[j]?=some u->∃ t,u=Value.ref t)->∃ ts:List Addr,us=ts.map Value.ref
 | [],_=>⟨[],rfl⟩
 |u::us,h=>by
  obtain ⟨t,rfl⟩:=h 0 u rfl
  obtain ⟨ts,rfl⟩:=refs_of (us:=us) λj u e=>h (j+1) u (by simpa using e)
  exact ⟨t::ts,rfl⟩
theorem vals_refs:∀ ts:List Addr,Vals (ts.map V.ref) (ts.map Value.ref)
 | []=>.nil
 |_::ts=>.cons rfl (vals_refs ts)
theorem zle {n S:Nat} (h:n+6<=S):n<=S:=Nat.le_trans (Nat.le_add_right _ _) h
theorem pe_zip3 {X:Cx}{a b c:Expr}{ta:TA}{p p2 pos pos2:Pos} (hl:Gl X "list") (ml:X.mg "list"=none) (hg:Gl X "zip") (hm:X.mg "zip"=none) (hc:X.calm=true) (ha:PA X [a,b,c] ta)
  (hs1:starEach [Expr.Call (.Name "zip" p2) [a,b,c] [] pos2] X.env=[(false,eval (Expr.Call (.Name "zip" p2) [a,b,c] [] pos2) X.env)]:=by rfl)
  (hs:starEach [a,b,c] X.env=(false,eval a X.env)::starEach [b,c] X.env:=by rfl) (hpl:(backTo pos2 (starEach [b,c] X.env)).any (·.1)=false:=by rfl) :
  PE X (.Call (.Name "list" p) [.Call (.Name "zip" p2) [a,b,c] [] pos2] [] pos) (tZip3 X.K ta):=by
 intro pins s σ H Q I h
 refine wpAny_Call_Name_kw (ld_blt I hl ml boot_list ?_ (by decide) (by decide))
 refine PyProof.Rows.callWith_type1 ?_ hs1 rfl
 rw [hs1]
 show wpAny _ _ (spliced ((false,eval (Expr.Call (.Name "zip" p2) [a,b,c] [] pos2) X.env)::[])) _ _ s
 refine Calls.spliced_cons ?_
 refine Call_ (ld_blt I hg hm boot_zip (PyProof.Rows.callWith_type1 (thn (ha pos2 pins s σ H _ I h) λus s1 ⟨vs,H1,I1,r1,q1⟩=>?_) hs hpl))
 obtain ⟨l1,l2,l3,xs,ys,zs,e,hqa,hqb,hqc,hx1,hyx,hzx,q⟩:=q1
 subst e
 obtain ⟨u,v,t,rfl,ru,rv,rt⟩:∃ u v t,us=[u,v,t]/\RelV (.ref l1) u/\RelV (.ref l2) v/\RelV (.ref l3) t:=by
  cases r1 with
  |cons r1 r2=>cases r2 with
   |cons r2 r3=>cases r3 with
    |cons r3 r4=>cases r4;exact ⟨_,_,_,rfl,r1,r2,r3⟩
 obtain rfl:u=Value.ref l1:=ru
 obtain rfl:v=Value.ref l2:=rv
 obtain rfl:t=Value.ref l3:=rt
 obtain ⟨its,rva,pa,za⟩:=I1.list hqa
 obtain ⟨jts,rvb,pb,zb⟩:=I1.list hqb
 obtain ⟨kts,rvc,pc,zc⟩:=I1.list hqc
 have lt1:l1<s1.heap.objs.size:=by obtain ⟨o,e,_⟩:=pa.isList;exact Heap.lt_size e
 have lt2:l2<s1.heap.objs.size:=by obtain ⟨o,e,_⟩:=pb.isList;exact Heap.lt_size e
 have lt3:l3<s1.heap.objs.size:=by obtain ⟨o,e,_⟩:=pc.isList;exact Heap.lt_size e
 have la:=rva.length
 have lb:=rvb.length
 have lc:=rvc.length
 refine Cut.call_zip_3 pa.isList pb.isList pc.isList λh2 Z hsz kp=>?_
 refine Calls.spliced_nil ?_
 refine Cut.call_list_z3 (m:=xs.length) (n:=s1.heap.objs.size) (xs:=its.toArray) (ys:=jts.toArray) (zs:=kts.toArray) (I.ok.hd hc) lt1 lt2 lt3 (by simp;omega) (by simp;omega) (by simp;omega) za hx1 Z (Nat.le_of_eq hsz.symm)
  (pa.isList.at λo e=>kp _ o e) (pb.isList.at λo e=>kp _ o e) (pc.isList.at λo e=>kp _ o e) λh3 acc c' kp3 hS ha3 hit=>?_
 obtain ⟨ts,hts⟩:=refs_of (us:=acc.toList) λj u e=>by
  obtain ⟨t,_,_,_,e',_⟩:=hit j u (by rw [<-Array.getElem?_toList];exact e)
  exact ⟨t,e'⟩
 have htl:ts.length=xs.length:=by
  have:=congrArg List.length hts
  rw [List.length_map,Array.length_toList] at this
  omega
 have S6:s1.heap.objs.size+6<=h2.objs.size:=Nat.le_of_eq hsz.symm
 have tup:∀ (j:Nat) (t:Addr),ts[j]?=some t->s1.heap.objs.size+6<=t/\t≠h2.objs.size/\∃ x y z ux uy uz,xs[j]?=some x/\ys[j]?=some y/\zs[j]?=some z/\RelV x ux/\RelV y uy/\RelV z uz/\Cut.IsTri h3 t ux uy uz:=λj t e=>by
  have e2:acc[j]?=some (.ref t):=by rw [<-Array.getElem?_toList,hts,List.getElem?_map,e];rfl
  obtain ⟨t',ux,uy,uz,e3,a1,a2,a3,a4,a5,a6⟩:=hit j _ e2
  cases e3
  obtain ⟨x,ex,rx⟩:=rva.back (by simpa using a4)
  obtain ⟨y,ey,ry⟩:=rvb.back (by simpa using a5)
  obtain ⟨z,ez,rz⟩:=rvc.back (by simpa using a6)
  exact ⟨a1,a2,x,y,z,ux,uy,uz,ex,ey,ez,rx,ry,rz,a3⟩
 let cont:Addr->List V:=λb=>[xs.getD (ts.idxOf b) .non,ys.getD (ts.idxOf b) .non,zs.getD (ts.idxOf b) .non]
 let H':Hp:=λb=>if b=h2.objs.size then some (.lst (ts.map V.ref)) else if b∈ts then some (.tup (cont b)) else H1 b
 have hH'l:H' h2.objs.size=some (.lst (ts.map V.ref)):=if_pos rfl
 have ix:∀ b,b∈ts->ts[ts.idxOf b]?=some b:=λb hb=>by
  have hlt:ts.idxOf b<ts.length:=List.idxOf_lt_length_of_mem hb
  rw [List.getElem?_eq_getElem hlt,List.getElem_idxOf hlt]
 have hH't:∀ b,b∈ts->H' b=some (.tup (cont b)):=λb hb=>by
  have:=(tup _ b (ix b hb)).2.1
  show (if b=h2.objs.size then _ else if b∈ts then _ else _)=_
  rw [if_neg this,if_pos hb]
 have fr:∀ b,s1.heap.objs.size<=b->H1 b=none:=λb hb=>I1.hok.fresh hb
 have ext:Same H1 H':=λb o e=>by
  have hlt:b<s1.heap.objs.size:=I1.hok.lt e
  have n1:b≠h2.objs.size:=Nat.ne_of_lt (Nat.lt_of_lt_of_le hlt (zle S6))
  have n2:b ∉ ts:=λhb=>absurd hlt (Nat.not_lt.mpr (zle (tup _ b (ix b hb)).1))
  show (if b=h2.objs.size then _ else if b∈ts then _ else _)=_
  rw [if_neg n1,if_neg n2];exact e
 have kp13:∀ b u,s1.heap.get? b=some u->h3.get? b=some u:=λb u e=>kp3 b u (Heap.lt_size e) (kp b u e)
 have I3:Inv X pins σ H' { s1 with heap:=h3 }:=I1.laidMany (t':=s1.toks) kp13 ext λb o e=>by
  by_cases n1:b=h2.objs.size
  ·subst n1
   rw [hH'l] at e
   cases e
   refine .inr ⟨zle S6,by rw [List.length_map,htl];exact za,acc.toList,c',?_,?_⟩
   ·rw [hts];exact vals_refs ts
   ·exact hS
  ·by_cases n2:b∈ts
   ·rw [hH't b n2] at e
    cases e
    obtain ⟨a1,a2,x,y,z,ux,uy,uz,ex,ey,ez,rx,ry,rz,tri⟩:=tup _ b (ix b n2)
    refine .inr ⟨zle a1,by show 3<=sizeLine;decide,[ux,uy,uz],?_,_,tri,rfl,0,rfl⟩
    show Vals [xs.getD (ts.idxOf b) .non,ys.getD (ts.idxOf b) .non,zs.getD (ts.idxOf b) .non] _
    rw [List.getD_eq_getElem?_getD,List.getD_eq_getElem?_getD,List.getD_eq_getElem?_getD,ex,ey,ez]
    exact .cons rx (.cons ry (.cons rz .nil))
   ·left
    have:H' b=H1 b:=by
     show (if b=h2.objs.size then _ else if b∈ts then _ else _)=_
     rw [if_neg n1,if_neg n2]
    rw [<-this];exact e
 refine ⟨.ref h2.objs.size,H',I3,rfl,q _ ts H' ext (fr _ (zle S6)) hH'l htl λj t e=>?_⟩
 obtain ⟨a1,a2,x,y,z,ux,uy,uz,ex,ey,ez,rx,ry,rz,tri⟩:=tup j t e
 refine ⟨fr _ (zle a1),a2,x,y,z,ex,ey,ez,?_⟩
 have hm:t∈ts:=List.mem_of_getElem? e
 obtain ⟨_,_,x',y',z',ux',uy',uz',ex',ey',ez',rx',ry',rz',tri'⟩:=tup _ t (ix t hm)
 rw [hH't t hm]
 have heq:(#[ux,uy,uz]:Array Value)=#[ux',uy',uz']:=by
  have:=tri.symm.trans tri'
  simp at this
  simp [this]
 obtain ⟨q1,q2,q3⟩:ux=ux'/\uy=uy'/\uz=uz':=by simpa using congrArg Array.toList heq
 subst q1 q2 q3
 show some (HO.tup [xs.getD (ts.idxOf t) .non,ys.getD (ts.idxOf t) .non,zs.getD (ts.idxOf t) .non])=_
 rw [List.getD_eq_getElem?_getD,List.getD_eq_getElem?_getD,List.getD_eq_getElem?_getD,ex',ey',ez',rx.inj rx',ry.inj ry',rz.inj rz']
 rfl
theorem call_sum {X:Cx} (hc:X.calm=true):CallR X (.builtin "sum") (λvs H Q=>∃ (l:Addr) (ns:List Int),vs=[.ref l]/\SqL X.K H l (ns.map V.int)/\Q (.int ns.sum) H):=by
 intro pins s σ H xs us Q I r h
 obtain ⟨l,ns,rfl,hq,q⟩:=h
 obtain ⟨u,rfl,ru⟩:=r.one
 obtain rfl:u=Value.ref l:=ru
 obtain ⟨its,rv,pl,_⟩:=I.list hq
 have hi:IntsAre its ns:=intsAre_of rv
 obtain ⟨xs,hxs⟩:=hi.allInts.items
 have hl:=pl.isList
 rw [hxs] at hl
 refine sum_intListG (I.ok.hd hc) hl λh' tk t' hk=>?_
 have e1:=hi.numsOf
 have e2:preSum (numAt xs) xs.size=ns.sum:=by
  have e3:numsOf its.toArray.toList=numsOf (intItems xs).toList:=by rw [hxs]
  rw [show its.toArray.toList=its from rfl,hi.numsOf,nums_intItems] at e3
  rw [preSum_eq,List.take_of_length_le (by simp),e3]
 rw [e2]
 exact ⟨.int ns.sum,H,I.kept (t':=tk) hk,⟨t',rfl⟩,q⟩
end L2
namespace L2
open PySem PySem.Spec PyProof.Rows
def Itv (K:PySem.W.Frag) (a:Addr) (n:Nat):It:=
 ⟨λi H=>∃ xs x,SqL K H a xs/\xs.length=n/\xs.reverse[i]?=some x,λi H x H'=>H'=H/\∀ xs,SqL K H a xs->xs.reverse[i]?=some x,λi _=>i=n⟩
theorem turn_rev {P:Program}{w:World}{K:PySem.W.Frag}{tg:Expr} (a it:Addr) (n:Nat):Turn P w K tg (Itv K a n) [it] it (λi h=>RevAt h it a ((n:Int) - 1-(i:Int))) where
 mem:=List.mem_singleton.mpr rfl
 obj:=λi h st b hb=>by
  obtain rfl:b=it:=List.mem_singleton.mp hb
  exact ⟨_,st,λv z=>nomatch z⟩
 keep:=λi h h' st kp=>kp it (List.mem_singleton.mpr rfl) _ st
 item:=by
  intro X hP hw hK hc i pins s σ H E I hf st hg
  subst hP hw hK
  obtain ⟨xs,x,hq,hn,hx⟩:=hg
  obtain ⟨its,rv,pl,hz⟩:=I.list hq
  have hi:i<xs.length:=by
   have:=(List.getElem?_eq_some_iff.mp hx).1
   rwa [List.length_reverse] at this
  have hx':xs[xs.length - 1-i]?=some x:=by rw [<-hx,List.getElem?_reverse hi]
  obtain ⟨u,hu,ru⟩:=rv.get hx'
  obtain ⟨f0,f1,f2,f3,f4,f5⟩:=hf it (List.mem_singleton.mpr rfl)
  have e1:(n:Int) - 1-(i:Int)=((xs.length - 1-i:Nat):Int):=by omega
  rw [e1] at st
  refine rev_item st pl.isList (v:=u) (by rw [List.getElem?_toArray];exact hu) λh' st' sb=>?_
  have I1:Inv X pins σ H { s with heap:=h' }:=I.turned (t':=s.toks) (λb o hb q=>(sb.2 b hb).trans q) f0 f1 f3 f4 f5
  have e2:((xs.length - 1-i:Nat):Int) - 1=(n:Int) - 1-((i+1:Nat):Int):=by omega
  rw [e2] at st'
  exact ⟨u,rfl,go_of (s:={ s with heap:=h' }) st' rfl rfl (by decide) ⟨x,H,I1,ru,⟨rfl,λys hy=>by rw [I.list_inj hy hq];exact hx⟩,st',λb hb=>(hf b hb).1⟩⟩
 done:=by
  intro X hP hw hK hc i pins s σ H E I hf st hg
  subst hP hw hK
  obtain ⟨f0,f1,f2,f3,f4,f5⟩:=hf it (List.mem_singleton.mpr rfl)
  have hg':i=n:=hg
  subst hg'
  have e1:(i:Int) - 1-(i:Int)=-1:=by omega
  rw [e1] at st
  exact rev_end (I.ok.hd hc) st λh' eb=>⟨rfl,I.turned (t':=s.toks) (λb o hb q=>eb b o hb q) f0 f1 f3 f4 f5⟩
 self:=λ_ _ _ _ _ st h=>rev_self st h
def iRev (K:PySem.W.Frag) (ta:TA):TI:=fun σ H R=>ta σ H λvs H1=>∃ a xs,vs=[.ref a]/\SqL K H1 a xs/\R (Itv K a xs.length) H1
theorem pi_rev {X:Cx}{tg a:Expr}{ta:TA}{p pos:Pos} (hg:Gl X "reversed") (hm:X.mg "reversed"=none) (ha:PA X [a] ta) (hs:starEach [a] X.env=[(false,eval a X.env)]:=by rfl) :
  PI X tg (.Call (.Name "reversed" p) [a] [] pos) (iRev X.K ta):=by
 intro pins s σ H R I h
 refine Call_ (ld_blt I hg hm boot_reversed (PyProof.Rows.callWith_type1 (thn (ha pos pins s σ H _ I h) λus s1 ⟨vs,H1,I1,r1,q1⟩=>?_) hs rfl))
 obtain ⟨b,xs,e,hq,q⟩:=q1
 subst e
 obtain ⟨u,rfl,ru⟩:=r1.one
 obtain rfl:u=Value.ref b:=ru
 obtain ⟨its,rv,pl,hz⟩:=I1.list hq
 have hl:=rv.length
 refine rev_call pl.isList ?_
 have it0:RevAt (s1.heap.push (revO b ((its.toArray.size:Int) - 1))) s1.heap.objs.size b ((xs.length:Int) - 1-((0:Nat):Int)):=by
  have e:((its.toArray.size:Int) - 1)=(xs.length:Int) - 1-((0:Nat):Int):=by rw [List.size_toArray,<-hl];omega
  rw [<-e]
  exact Heap.get?_push_size _ rfl
 refine rev_self it0 ?_
 refine ⟨s1.heap.objs.size,[s1.heap.objs.size],_,_,H1,rfl,I1.kept (t':=s1.toks) λb o e=>Heap.get?_push_of_some _ e,turn_rev b _ xs.length,it0,λc hc=>?_,q⟩
 obtain rfl:c=s1.heap.objs.size:=List.mem_singleton.mp hc
 exact I1.fpOk (Nat.le_refl _) (I1.hok.fresh (Nat.le_refl _))
theorem for_rev {K:PySem.W.Frag}{a:Addr}{xs:List V}{g:TG}{tb:TS}{D:Ends}{σ:St}{H:Hp} (Pv:Nat->St->Hp->Prop) (h0:Pv 0 σ H) (hl:∀ i σ H,i<=xs.length->Pv i σ H->SqL K H a xs)
  (hs:∀ i x σ H,xs.reverse[i]?=some x->Pv i σ H->g x σ H fun σ2 H2=>tb { D with nx:=Pv (i+1),ct:=Pv (i+1),bk:=D.nx } σ2 H2) (hd:∀ σ H,Pv xs.length σ H->D.nx σ H) :
  ∃ W:Nat->Nat->St->Hp->Prop,(∃ m,W 0 m σ H)/\∀ i m σ H,W i m σ H->
   ((Itv K a xs.length).stop i H/\D.nx σ H)∨((Itv K a xs.length).go i H/\∃ N:St->Hp->Prop,(∀ σ' H',N σ' H'->∃ m',m'<m/\W (i+1) m' σ' H')/\∀ x H',(Itv K a xs.length).yld i H x H'->g x σ H' fun σ2 H2=>tb { D with nx:=N,ct:=N,bk:=D.nx } σ2 H2):=by
 refine ⟨λi m σ H=>m=xs.length-i/\i<=xs.length/\Pv i σ H,⟨xs.length,rfl,Nat.zero_le _,h0⟩,?_⟩
 rintro i m σ H ⟨rfl,hi,p⟩
 have q:=hl i σ H hi p
 by_cases hlt:i<xs.length
 ·have hx:xs.reverse[i]?=some (xs.reverse[i]'(by rw [List.length_reverse];exact hlt)):=List.getElem?_eq_getElem _
  refine .inr ⟨⟨xs,_,q,rfl,hx⟩,Pv (i+1),fun σ' H' p'=>⟨xs.length-(i+1),by omega,rfl,hlt,p'⟩,λx H' y=>?_⟩
  obtain ⟨e,y⟩:=y
  subst e
  exact hs i x σ _ (y xs q) p
 ·have e:i=xs.length:=by omega
  subst e
  exact .inl ⟨rfl,hd σ H p⟩
end L2
namespace Cut
open PySem L2 PyProof.Rows
def FnV (P:Program) (w:World) (K:PySem.W.Frag) (mg:Str->Option Value) (base:Heap) (k:Nat) (f:Addr) (sp:Sp):Prop:=
 ∃ (fd:FuncData) (ps:List Str),PySem.W.keepIn K (.ref f)=true/\Binds K fd ps []/\FnOk P w K mg base CX0 k f fd ps sp
def tCallL (P:Program) (w:World) (K:PySem.W.Frag) (mg:Str->Option Value) (base:Heap) (k i:Nat) (t:TA):TE:=fun σ H Q=>∃ f sp,σ[i]?=some (some (.ref f))/\FnV P w K mg base k f sp/\t σ H λvs H1=>sp vs H1 Q E0
theorem pe_callL {X:Cx}{i k:Nat}{x:Str}{p pos:Pos}{e:Expr}{es:List Expr}{t:TA} (hN:X.N[i]?=some x) (hv:Vis X.env.scope x) (hr:Room k X.A) (ha:PA X (e::es) t)
  (hdb:(x == ("__debug__":Str))=false:=by decide) (hcd:(x == ("__classdict__":Str))=false:=by decide) (he:starEach (e::es) X.env=(false,eval e X.env)::starEach es X.env:=by rfl) (hpl:(backTo pos (starEach es X.env)).any (·.1)=false:=by rfl) :
  PE X (.Call (.Name x p) (e::es) [] pos) (tCallL X.prog X.w X.K X.mg X.base k i t):=by
 intro pins s σ H Q I h
 obtain ⟨f,sp,hσ,⟨fd,ps,hk,hb,F⟩,h⟩:=h
 refine wpAny_Call_Name_kw (thn (pe_var (pos:=p) hN hv hdb hcd pins s σ H (λv H'=>v=.ref f/\H'=H) I ⟨_,hσ,rfl,rfl⟩) λfv s1 ⟨v,H1,I1,rv,ev,eh⟩=>?_)
 subst ev eh
 cases rv
 refine PySem.W.callWith_K (h₀:=X.base) I1.ok.mod.kin hk (thn (ha pos pins s1 σ H1 _ I1 h) λus s2 ⟨vs,H2,I2,r,q⟩=>⟨I2.kIn,?_⟩) he hpl
 have q':sp (vs++[]) H2 Q E0:=by rw [List.append_nil];exact q
 exact run_fn F hr hb .nil pass0 I2 r q'
end Cut
namespace Cut
open PySem L2 PyProof.Rows
def top (i:Nat):Stmt:=PySem.Challenge.pw_cutline_k15_whole_asked_behind_deeds.main.body.getD i (.Pass ⟨0,0,0,0⟩)
abbrev s_Line_init:Stmt:=inClass (top 5) 0
abbrev s_own_copy:Stmt:=top 6
abbrev s_line_of:Stmt:=top 7
abbrev s_empty_line:Stmt:=top 8
abbrev s_cuts_up_to:Stmt:=top 9
abbrev s_value_at:Stmt:=top 10
abbrev s_cuts_of_all:Stmt:=top 12
abbrev s_holds_between:Stmt:=top 13
abbrev s_joined:Stmt:=top 14
abbrev s_runs:Stmt:=top 16
abbrev s_tally:Stmt:=top 17
abbrev s_longest:Stmt:=top 18
abbrev s_first_room:Stmt:=top 19
abbrev s_unlike:Stmt:=top 20
abbrev s_parted:Stmt:=top 21
abbrev s_check_size:Stmt:=top 23
abbrev s_check_times:Stmt:=top 24
abbrev s_has_no_places:Stmt:=top 25
abbrev s_put:Stmt:=top 26
abbrev s_opened:Stmt:=top 27
abbrev s_closed:Stmt:=top 28
abbrev s_stretched:Stmt:=top 29
abbrev s_done:Stmt:=top 30
abbrev s_law_cell_at:Stmt:=top 32
abbrev s_law_names:Stmt:=top 33
abbrev s_law_deed:Stmt:=top 34
abbrev s_law_deeds:Stmt:=top 35
abbrev s_law_value:Stmt:=top 36
abbrev s_law_edges_behind:Stmt:=top 37
abbrev s_law_edges:Stmt:=top 38
abbrev s_law_due:Stmt:=top 39
abbrev s_law_whole:Stmt:=top 40
abbrev s_law_held:Stmt:=top 41
abbrev s_law_at:Stmt:=top 42
abbrev s_law_runs:Stmt:=top 43
abbrev s_law_longest:Stmt:=top 44
abbrev s_law_room:Stmt:=top 45
abbrev s_law_apart:Stmt:=top 46
abbrev s_law_place:Stmt:=top 47
abbrev s_law_told:Stmt:=top 48
abbrev s_law_parts:Stmt:=top 49
abbrev s_law_asked:Stmt:=top 50
abbrev s_law_alike_by:Stmt:=top 51
abbrev s_law_both:Stmt:=top 52
abbrev s_law:Stmt:=top 53
theorem sc_Line_init:FnScope ["self","cuts","holds"] ["self","cuts","holds"] (defScope s_Line_init):=⟨rfl,rfl,rfl,by decide +kernel,rfl,by decide +kernel,by decide +kernel⟩
theorem sc_own_copy:FnScope ["thing","fresh","key"] ["thing"] (defScope s_own_copy):=⟨rfl,rfl,rfl,by decide +kernel,rfl,by decide +kernel,by decide +kernel⟩
theorem sc_line_of:FnScope ["cuts","holds","kept_cuts","kept_holds","number","cut","last_of_alike","hold"] ["cuts","holds"] (defScope s_line_of):=⟨rfl,rfl,rfl,by decide +kernel,rfl,by decide +kernel,by decide +kernel⟩
theorem sc_empty_line:FnScope [] [] (defScope s_empty_line):=⟨rfl,rfl,rfl,by decide +kernel,rfl,by decide +kernel,by decide +kernel⟩
theorem sc_cuts_up_to:FnScope ["line","place","low","high","middle"] ["line","place"] (defScope s_cuts_up_to):=⟨rfl,rfl,rfl,by decide +kernel,rfl,by decide +kernel,by decide +kernel⟩
theorem sc_value_at:FnScope ["line","place"] ["line","place"] (defScope s_value_at):=⟨rfl,rfl,rfl,by decide +kernel,rfl,by decide +kernel,by decide +kernel⟩
theorem sc_cuts_of_all:FnScope ["lines","cuts","line"] ["lines"] (defScope s_cuts_of_all):=⟨rfl,rfl,rfl,by decide +kernel,rfl,by decide +kernel,by decide +kernel⟩
theorem sc_holds_between:FnScope ["line","cuts","holds","passed","cut"] ["line","cuts"] (defScope s_holds_between):=⟨rfl,rfl,rfl,by decide +kernel,rfl,by decide +kernel,by decide +kernel⟩
theorem sc_joined:FnScope ["one","other","way","cuts","holds","here","there"] ["one","other","way"] (defScope s_joined):=⟨rfl,rfl,rfl,by decide +kernel,rfl,by decide +kernel,by decide +kernel⟩
theorem sc_runs:FnScope ["line","start","end","first","last","inner","starts","ends","holds"] ["line","start","end"] (defScope s_runs):=⟨rfl,rfl,rfl,by decide +kernel,rfl,by decide +kernel,by decide +kernel⟩
theorem sc_tally:FnScope ["line","value","start","end"] ["line","value","start","end"] (defScope s_tally):=⟨rfl,rfl,rfl,by decide +kernel,rfl,by decide +kernel,by decide +kernel⟩
theorem sc_longest:FnScope ["line","value","start","end","best","ahead","behind","held"] ["line","value","start","end"] (defScope s_longest):=⟨rfl,rfl,rfl,by decide +kernel,rfl,by decide +kernel,by decide +kernel⟩
theorem sc_first_room:FnScope ["line","value","place","size","first","start","cut","held"] ["line","value","place","size"] (defScope s_first_room):=⟨rfl,rfl,rfl,by decide +kernel,rfl,by decide +kernel,by decide +kernel⟩
theorem sc_unlike:FnScope ["here","there"] ["here","there"] (defScope s_unlike):=⟨rfl,rfl,rfl,by decide +kernel,rfl,by decide +kernel,by decide +kernel⟩
theorem sc_parted:FnScope ["one","other","place"] ["one","other","place"] (defScope s_parted):=⟨rfl,rfl,rfl,by decide +kernel,rfl,by decide +kernel,by decide +kernel⟩
theorem sc_check_size:FnScope ["size"] ["size"] (defScope s_check_size):=⟨rfl,rfl,rfl,by decide +kernel,rfl,by decide +kernel,by decide +kernel⟩
theorem sc_check_times:FnScope ["times"] ["times"] (defScope s_check_times):=⟨rfl,rfl,rfl,by decide +kernel,rfl,by decide +kernel,by decide +kernel⟩
theorem sc_has_no_places:FnScope ["start","end"] ["start","end"] (defScope s_has_no_places):=⟨rfl,rfl,rfl,by decide +kernel,rfl,by decide +kernel,by decide +kernel⟩
theorem sc_put:FnScope ["line","start","end","value","cuts","holds","ahead","passed"] ["line","start","end","value"] (defScope s_put):=⟨rfl,rfl,rfl,by decide +kernel,rfl,by decide +kernel,by decide +kernel⟩
theorem sc_opened:FnScope ["line","place","size","ahead","moved","cuts","holds"] ["line","place","size"] (defScope s_opened):=⟨rfl,rfl,rfl,by decide +kernel,rfl,by decide +kernel,by decide +kernel⟩
theorem sc_closed:FnScope ["line","place","size","ahead","passed","moved","cuts","holds"] ["line","place","size"] (defScope s_closed):=⟨rfl,rfl,rfl,by decide +kernel,rfl,by decide +kernel,by decide +kernel⟩
theorem sc_stretched:FnScope ["line","times"] ["line","times"] (defScope s_stretched):=⟨rfl,rfl,rfl,by decide +kernel,rfl,by decide +kernel,by decide +kernel⟩
theorem sc_done:FnScope ["line","deed","word"] ["line","deed"] (defScope s_done):=⟨rfl,rfl,rfl,by decide +kernel,rfl,by decide +kernel,by decide +kernel⟩
theorem sc_law_cell_at:FnScope ["script","k"] ["script","k"] (defScope s_law_cell_at):=⟨rfl,rfl,rfl,by decide +kernel,rfl,by decide +kernel,by decide +kernel⟩
theorem sc_law_names:FnScope ["cell","letters","first","size"] ["cell"] (defScope s_law_names):=⟨rfl,rfl,rfl,by decide +kernel,rfl,by decide +kernel,by decide +kernel⟩
theorem sc_law_deed:FnScope ["one","two","names","place","size","ends"] ["one","two","names"] (defScope s_law_deed):=⟨rfl,rfl,rfl,by decide +kernel,rfl,by decide +kernel,by decide +kernel⟩
theorem sc_law_deeds:FnScope ["cells","names"] ["cells","names"] (defScope s_law_deeds):=⟨rfl,rfl,rfl,by decide +kernel,rfl,by decide +kernel,by decide +kernel⟩
theorem sc_law_value:FnScope ["deeds","place","deed","late"] ["deeds","place"] (defScope s_law_value):=⟨rfl,rfl,rfl,by decide +kernel,rfl,by decide +kernel,by decide +kernel⟩
theorem sc_law_edges_behind:FnScope ["edges","deed","place","moved"] ["edges","deed"] (defScope s_law_edges_behind):=⟨rfl,rfl,rfl,by decide +kernel,rfl,by decide +kernel,by decide +kernel⟩
theorem sc_law_edges:FnScope ["deeds","edges","deed"] ["deeds"] (defScope s_law_edges):=⟨rfl,rfl,rfl,by decide +kernel,rfl,by decide +kernel,by decide +kernel⟩
theorem sc_law_due:FnScope ["deeds","edges","cuts","holds","edge","value"] ["deeds"] (defScope s_law_due):=⟨rfl,rfl,rfl,by decide +kernel,rfl,by decide +kernel,by decide +kernel⟩
theorem sc_law_whole:FnScope ["found"] ["found"] (defScope s_law_whole):=⟨rfl,rfl,rfl,by decide +kernel,rfl,by decide +kernel,by decide +kernel⟩
theorem sc_law_held:FnScope ["found","due"] ["found","due"] (defScope s_law_held):=⟨rfl,rfl,rfl,by decide +kernel,rfl,by decide +kernel,by decide +kernel⟩
theorem sc_law_at:FnScope ["told","place","value","k"] ["told","place"] (defScope s_law_at):=⟨rfl,rfl,rfl,by decide +kernel,rfl,by decide +kernel,by decide +kernel⟩
theorem sc_law_runs:FnScope ["told","start","end","found","edges","k","stop","value"] ["told","start","end"] (defScope s_law_runs):=⟨rfl,rfl,rfl,by decide +kernel,rfl,by decide +kernel,by decide +kernel⟩
theorem sc_law_longest:FnScope ["due","value","best","part","size"] ["due","value"] (defScope s_law_longest):=⟨rfl,rfl,rfl,by decide +kernel,rfl,by decide +kernel,by decide +kernel⟩
theorem sc_law_room:FnScope ["told","value","place","size","starts","since","k"] ["told","value","place","size"] (defScope s_law_room):=⟨rfl,rfl,rfl,by decide +kernel,rfl,by decide +kernel,by decide +kernel⟩
theorem sc_law_apart:FnScope ["told","other","place","spot"] ["told","other","place"] (defScope s_law_apart):=⟨rfl,rfl,rfl,by decide +kernel,rfl,by decide +kernel,by decide +kernel⟩
theorem sc_law_place:FnScope ["due","cell"] ["due","cell"] (defScope s_law_place):=⟨rfl,rfl,rfl,by decide +kernel,rfl,by decide +kernel,by decide +kernel⟩
theorem sc_law_told:FnScope ["found","due"] ["found","due"] (defScope s_law_told):=⟨rfl,rfl,rfl,by decide +kernel,rfl,by decide +kernel,by decide +kernel⟩
theorem sc_law_parts:FnScope ["found","due","k"] ["found","due"] (defScope s_law_parts):=⟨rfl,rfl,rfl,by decide +kernel,rfl,by decide +kernel,by decide +kernel⟩
theorem sc_law_asked:FnScope ["line","due","start","end","value","size","parts","many"] ["line","due","start","end","value","size"] (defScope s_law_asked):=⟨rfl,rfl,rfl,by decide +kernel,rfl,by decide +kernel,by decide +kernel⟩
theorem sc_law_alike_by:FnScope ["one","other"] ["one","other"] (defScope s_law_alike_by):=⟨rfl,rfl,rfl,by decide +kernel,rfl,by decide +kernel,by decide +kernel⟩
theorem sc_law_both:FnScope ["one","other","cuts","holds","cut"] ["one","other"] (defScope s_law_both):=⟨rfl,rfl,rfl,by decide +kernel,rfl,by decide +kernel,by decide +kernel⟩
theorem sc_law:FnScope ["script","names","deeds","line","elder","deed","due","was","start","end","value","size","both"] ["script"] (defScope s_law):=⟨rfl,rfl,rfl,by decide +kernel,rfl,by decide +kernel,by decide +kernel⟩
section
variable {P:Program}{w:World}{K:PySem.W.Frag}{mg:Str->Option Value}{base:Heap}{C:Addr} [HoldKind]
theorem ok_init {f:Addr}{fd:FuncData} (F:Fun K "__init__" "Line.__init__" s_Line_init f fd) (T:Txt K mg C):FnOk P w K mg base CX0 1 f fd ["self","cuts","holds"] (spInit C):=by
 refine F.ok sc_Line_init (λvs H Q E h=>?_) (λcdv A outer s H vs Q E hr h=>?_)
 ·obtain ⟨p,dx,a,b,rfl,_⟩:=h
  rfl
 ·obtain ⟨p,dx,a,b,rfl,hp,k⟩:=h
  refine ⟨_,pss_cons (ps_fld (pv 0) (pv 1) rfl) (pss_one (ps_fld (pv 0) (pv 2) rfl)),?_⟩
  refine ⟨_,rfl,_,rfl,p,C,dx,[],rfl,hp,T.cl,T.nC,(by show 0<1000;decide),_,rfl,_,rfl,p,C,dx,_,rfl,upd_same,T.cl,T.nH,(by show 1<1000;decide),?_⟩
  show Q .non (upd (upd H p _) p _)
  rw [upd_upd]
  exact k
theorem ok_own {f:Addr}{fd:FuncData} (F:Fun K "own_copy" "own_copy" s_own_copy f fd) (T:Txt K mg C):FnOk P w K mg base CX0 1 f fd ["thing"] spOwn:=by
 refine F.ok sc_own_copy (λvs H Q E h=>?_) (λcdv A outer s H vs Q E hr h=>?_)
 ·obtain ⟨v,rfl,_⟩:=h
  rfl
 ·obtain ⟨v,rfl,hv,k⟩:=h
  obtain ⟨t,ty,k1,k2,k3,_⟩:=hv.ty (K:=K) (H:=H)
  refine ⟨_,pss_cons (ps_if (pt_val (pe_callB call_isinst rfl T.isinstance boot_isinstance (pa_cons (pv 0) (pa_cons (pe_bltn rfl T.list boot_list (v:=.ty "list") rfl) pa_nil)))) pss_never pss_nil)
   (pss_cons (ps_if (pt_val (pe_callB call_isinst rfl T.isinstance boot_isinstance (pa_cons (pv 0) (pa_cons (pe_bltn rfl T.tuple boot_tuple (v:=.ty "tuple") rfl) pa_nil)))) pss_never pss_nil)
   (pss_cons (ps_if (pt_val (pe_callB call_isinst rfl T.isinstance boot_isinstance (pa_cons (pv 0) (pa_cons (pe_bltn rfl T.dict boot_dict (v:=.ty "dict") rfl) pa_nil)))) pss_never pss_nil)
   (pss_one (ps_ret (pv 0))))),?_⟩
  refine ⟨_,rfl,_,_,_,_,_,rfl,ty,rfl,k1,_,rfl,iteF ?_⟩
  refine ⟨_,rfl,_,_,_,_,_,rfl,ty,rfl,k2,_,rfl,iteF ?_⟩
  refine ⟨_,rfl,_,_,_,_,_,rfl,ty,rfl,k3,_,rfl,iteF ?_⟩
  exact ⟨_,rfl,k⟩
theorem ok_line_of {f fI:Addr}{fd fdI:FuncData} (F:Fun K "line_of" "line_of" s_line_of f fd) (T:Txt K mg C) (M:Mk K C fI) (GI:FnOk P w K mg base CX0 1 fI fdI ["self","cuts","holds"] (spInit C)) (bI:Binds K fdI ["self","cuts","holds"] [])
  (DO:Def P w K mg base "own_copy" ["thing"] 1 spOwn):FnOk P w K mg base CX0 3 f fd ["cuts","holds"] (spLineOf K C):=by
 refine F.ok sc_line_of (λvs H Q E h=>?_) (λcdv A outer s H vs Q E hr h=>?_)
 ·obtain ⟨a,b,v,ps,rfl,_⟩:=h
  rfl
 ·obtain ⟨a,b,v,ps,rfl,ha,hb,hh,hlen,k⟩:=h
  have hr1:Room 1 _:=hr.mono (by decide)
  refine ⟨_,pss_cons (ps_set (i:=2) sc_line_of.nd rfl (Or.inl rfl) (pe_lst pa_nil))
   (pss_cons (ps_set (i:=3) sc_line_of.nd rfl (Or.inl rfl) (pe_lst (pa_cons (pe_callD DO hr1 rfl (pa_cons (pe_ix ix_list (pv 1) pe_int (λ_ _=>rfl)) pa_nil)) pa_nil)))
   (pss_cons (ps_for PassesOwn.never rfl (pi_enum rfl T.enumerate (pa_cons (pv 0) pa_nil)) (pg_tup rfl (pgs_cons (pg_name (i:=4) sc_line_of.nd rfl (Or.inl rfl)) (pgs_cons (pg_name (i:=5) sc_line_of.nd rfl (Or.inl rfl)) pgs_nil)))
    (pss_cons (ps_set (i:=6) sc_line_of.nd rfl (Or.inl rfl) (pe_or (pe_cmpR op_eq (pe_op op_add (pv 4) pe_int) (pe_callB call_len_seq rfl T.len PySem.boot_len (pa_cons (pv 0) pa_nil)) (nomark _))
     (pe_one (pe_cmpR op_ne (pe_ix ix_list (pv 0) (pe_op op_add (pv 4) pe_int) (λ_ _=>rfl)) (pv 5) (nomark _)))))
    (pss_cons (ps_set (i:=7) sc_line_of.nd rfl (Or.inl rfl) (pe_ix ix_list (pv 1) (pe_op op_add (pv 4) pe_int) (λ_ _=>rfl)))
    (pss_one (ps_if (PW.pt (pw_and (pt_val (pv 6)) (pw_and1 (pt_not (pt_cmpR op_eq (pv 7) (pe_ix ix_list (pv 3) (pe_un un_neg pe_int) (λ_ _=>rfl)) (nomark _))))))
     (pss_cons (ps_expr (pe_bm PySem.F.plainAttrs_list PySem.F.slot_list_append PySem.F.type_list_append mt_append (pv 2) (pa_cons (pv 5) pa_nil)))
     (pss_one (ps_expr (pe_bm PySem.F.plainAttrs_list PySem.F.slot_list_append PySem.F.type_list_append mt_append (pv 3) (pa_cons (pe_callD DO hr1 rfl (pa_cons (pv 7) pa_nil)) pa_nil)))))
     pss_nil)))))
   (pss_one (ps_ret (pe_make M GI hr rfl T.mgC bI .nil pass0 (pa_cons (pv 2) (pa_cons (pv 3) pa_nil))))))),?_⟩
  refine ⟨Nat.zero_le _,λkc hkc=>?_⟩
  have hb1:SqL K (upd H kc (.lst [])) b (holdsV v ps):=(Same.new hkc).seq hb
  refine ⟨_,rfl,b,_,0,v,rfl,rfl,hb1,atN (j:=0) rfl rfl,_,rfl,hh.h0,smallL (by show 1<=2000;decide),λkh hkh=>?_⟩
  have hkh0:H kh=none:=(Same.new hkc).free hkh
  have nkk:kc≠kh:=λe=>by rw [<-e,upd_same] at hkh;cases hkh
  have s0:Same H (upd (upd H kc (.lst [])) kh (.lst [v])):=Same.upd (Same.new hkc) hkh0
  refine ⟨_,rfl,a,rfl,⟨_,s0.seq ha⟩,for_enum (K:=K) (a:=a) (xs:=cutsV ps) (λi σ H2=>∃ (kp:List (Int×V)) (x4 x5 x6 x7:Option V),σ=[some (.ref a),some (.ref b),some (.ref kc),some (.ref kh),x4,x5,x6,x7]/\Same H H2/\
   H2 kc=some (.lst (cutsV kp))/\H2 kh=some (.lst (holdsV v kp))/\Holds v kp/\kp.length<=i/\kp++formP (lastH v kp) (ps.drop i)=formP v ps) ?_ (λi σ H2 _ ⟨_,_,_,_,_,_,s2,_⟩=>s2.seq ha) ?_ ?_⟩
  ·exact ⟨[],none,none,none,none,rfl,s0,by rw [upd_ne nkk,upd_same];rfl,upd_same,⟨hh.h0,λq hq=>nomatch hq⟩,Nat.le_refl _,rfl⟩
  ·rintro i y t σ H2 hi ht ⟨kp,x4,x5,x6,x7,rfl,s2,h2c,h2h,hkp,hki,hform⟩
   have hil:i<ps.length:=by
    have:=(List.getElem?_eq_some_iff.mp hi).1
    rw [List.length_map] at this
    exact this
   obtain ⟨q,hq⟩:∃ q,ps[i]?=some q:=⟨ps[i],List.getElem?_eq_getElem hil⟩
   obtain rfl:V.int q.1=y:=by
    rw [List.getElem?_map,hq] at hi
    exact Option.some.inj hi
   have hqh:HV q.2:=hh.hs q (List.mem_of_getElem? hq)
   have hdrop:ps.drop i=q::ps.drop (i+1):=by
    rw [List.drop_eq_getElem_cons hil]
    congr 1
    have:=List.getElem?_eq_getElem hil
    rw [hq] at this
    exact (Option.some.inj this).symm
   have s3:Same H (upd H2 t (.tup [.int (i:Int),.int q.1])):=Same.upd s2 (s2.free ht)
   have g2c:(upd H2 t (.tup [.int (i:Int),.int q.1])) kc=some (.lst (cutsV kp)):=by rw [upd_ne (ne_of_none h2c ht)];exact h2c
   have g2h:(upd H2 t (.tup [.int (i:Int),.int q.1])) kh=some (.lst (holdsV v kp)):=by rw [upd_ne (ne_of_none h2h ht)];exact h2h
   refine ⟨t,_,rfl,SqT.of upd_same,rfl,_,_,rfl,_,_,rfl,rfl,?_⟩
   generalize upd H2 t (.tup [.int (i:Int),.int q.1])=H3 at s3 g2c g2h ⊢
   have lenC:(cutsV ps).length=ps.length:=List.length_map ..
   refine ⟨_,rfl,_,_,rfl,rfl,_,rfl,a,_,rfl,.inl (s3.seq ha),rfl,_,rfl,orV (!decide (V.int ((ps.getD (i+1) q).1)=V.int q.1)) (λhc Q' q'=>?_) ?_⟩
   ·have hne:¬ ((i:Int)+1=((cutsV ps).length:Int)):=λe=>by
     have:=of_decide_eq_false hc
     exact this (congrArg V.int e)
    have hi1:i+1<ps.length:=by rw [lenC] at hne;omega
    refine ⟨_,rfl,_,rfl,_,_,rfl,rfl,a,_,_,V.int ((ps.getD (i+1) q).1),rfl,rfl,s3.seq ha,atN (j:=i+1) (by omega) ?_,_,rfl,rfl,q'⟩
    rw [List.getElem?_map,List.getElem?_eq_getElem hi1,List.getD_eq_getElem?_getD,List.getElem?_eq_getElem hi1]
    rfl
   ·have hL:(decide (V.int ((i:Int)+1)=V.int ((cutsV ps).length:Int)) || !decide (V.int ((ps.getD (i+1) q).1)=V.int q.1))=lastA q (ps.drop (i+1)):=by
     by_cases e:i+1=ps.length
     ·have e1:ps.drop (i+1)=[]:=List.drop_eq_nil_of_le (by omega)
      rw [e1,lenC,decide_eq_true (by rw [<-e];rfl)]
      rfl
     ·have hi1:i+1<ps.length:=by omega
      have e1:ps.drop (i+1)=ps[i+1]::ps.drop (i+2):=List.drop_eq_getElem_cons hi1
      have e2:ps.getD (i+1) q=ps[i+1]:=by rw [List.getD_eq_getElem?_getD,List.getElem?_eq_getElem hi1];rfl
      rw [e1,e2,lenC,decide_eq_false (by intro z;injection z with z;omega),Bool.false_or]
      show (!decide _)=decide _
      rw [Bool.eq_iff_iff]
      simp
    rw [hL]
    refine ⟨_,rfl,_,rfl,_,_,rfl,rfl,b,_,_,q.2,rfl,rfl,s3.seq hb,atN (j:=i+1) (by omega) (by show (ps.map (·.2))[i]?=_;rw [List.getElem?_map,hq];rfl),?_⟩
    refine ⟨_,rfl,_,rfl,andT (!decide (q.2=lastH v kp)) (λ_ Q' q'=>?_) ?_⟩
    ·exact ⟨_,rfl,_,rfl,_,rfl,kh,_,_,_,rfl,rfl,SqL.of g2h,atI_lastH v kp,hqh.scal (lastH_hv hkp),_,rfl,q'⟩
    ·refine ite2 (λhc=>?_) (λhc=>?_)
     ·rw [Bool.and_eq_true] at hc
      have hne:q.2≠lastH v kp:=λe=>by
       have:=hc.2
       rw [decide_eq_true e] at this
       cases this
      refine ⟨_,rfl,.inl ⟨rfl,_,SqL.of g2c⟩,_,rfl,kc,_,_,rfl,rfl,g2c,small (by rw [List.length_map];omega),?_⟩
      refine ⟨_,rfl,.inl ⟨rfl,_,SqL.of (by rw [upd_ne nkk.symm];exact g2h)⟩,_,rfl,_,rfl,hqh,kh,_,_,rfl,rfl,(by rw [upd_ne nkk.symm];exact g2h),small (by show (kp.map _).length+1<=2000;rw [List.length_map];omega),?_⟩
      refine ⟨kp++[q],_,_,_,_,rfl,Same.upd (Same.upd s3 hkc) hkh0,?_,?_,⟨hkp.h0,λz hz=>?_⟩,?_,?_⟩
      ·rw [upd_ne nkk,upd_same]
       show _=some (HO.lst ((kp++[q]).map _))
       rw [List.map_append];rfl
      ·rw [upd_same]
       show _=some (HO.lst (v::(kp++[q]).map _))
       rw [List.map_append];rfl
      ·rcases List.mem_append.mp hz with z1|z1
       ·exact hkp.hs z z1
       ·rw [List.mem_singleton.mp z1];exact hqh
      ·rw [List.length_append,List.length_singleton];omega
      ·rw [lastH_snoc,<-hform,hdrop]
       show _=kp++(if lastA q (ps.drop (i+1))=true/\q.2≠lastH v kp then q::formP q.2 (ps.drop (i+1)) else _)
       rw [if_pos ⟨hc.1,hne⟩,List.append_assoc];rfl
     ·refine ⟨kp,_,_,_,_,rfl,s3,g2c,g2h,hkp,by omega,?_⟩
      rw [<-hform,hdrop]
      show _=kp++(if lastA q (ps.drop (i+1))=true/\q.2≠lastH v kp then _ else formP (lastH v kp) (ps.drop (i+1)))
      rw [if_neg]
      intro z
      refine hc ?_
      rw [z.1,decide_eq_false z.2];rfl
  ·rintro σ H2 ⟨kp,x4,x5,x6,x7,rfl,s2,h2c,h2h,hkp,hki,hform⟩
   have e:ps.drop (cutsV ps).length=[]:=List.drop_eq_nil_of_le (by rw [List.length_map];exact Nat.le_refl _)
   rw [e] at hform
   have e2:kp=formP v ps:=by rw [<-hform];show kp=kp++[];rw [List.append_nil]
   subst e2
   refine ⟨_,rfl,_,rfl,λx dx nx ndx nex=>⟨x,dx,kc,kh,rfl,upd_same,rfl,?_⟩⟩
   have hx0:H x=none:=s2.free nx
   have hd0:H dx=none:=s2.free ndx
   refine k x _ (Same.upd (Same.upd (Same.upd s2 hd0) hx0) hx0) ⟨dx,kc,kh,hx0,hkc,hkh0,upd_same,?_,?_⟩
   ·rw [upd_ne (ne_of_none h2c nx),upd_ne (ne_of_none h2c nx),upd_ne (ne_of_none h2c ndx)];exact h2c
   ·rw [upd_ne (ne_of_none h2h nx),upd_ne (ne_of_none h2h nx),upd_ne (ne_of_none h2h ndx)];exact h2h
def muUp (σ:L2.St) (_:Hp):Nat:=match σ with
 | [_,_,some (.int lo),some (.int hi),_]=>(hi-lo).toNat
 |_=>0
theorem ok_upto {f:Addr}{fd:FuncData} (F:Fun K "cuts_up_to" "cuts_up_to" s_cuts_up_to f fd) (T:Txt K mg C):FnOk P w K mg base CX0 1 f fd ["line","place"] (spUpTo C):=by
 refine F.ok sc_cuts_up_to (λvs H Q E h=>?_) (λcdv A outer s H vs Q E hr h=>?_)
 ·obtain ⟨p,x,v,ps,rfl,_⟩:=h
  rfl
 ·obtain ⟨p,x,v,ps,rfl,⟨dx,a,b,h1,h2,h3⟩,hrise,hlen,k⟩:=h
  refine ⟨_,pss_cons (ps_set (i:=2) sc_cuts_up_to.nd rfl (Or.inl rfl) pe_int)
   (pss_cons (ps_set (i:=3) sc_cuts_up_to.nd rfl (Or.inl rfl) (pe_callB call_len_seq rfl T.len PySem.boot_len (pa_cons (pe_fld (pv 0) rfl) pa_nil)))
   (pss_cons (ps_while PassesOwn.never (pt_cmpR op_lt (pv 2) (pv 3) (nomark _))
    (pss_cons (ps_set (i:=4) sc_cuts_up_to.nd rfl (Or.inl rfl) (pe_op op_fdiv (pe_op op_add (pv 2) (pv 3)) pe_int))
    (pss_one (ps_if (pt_cmpR op_le (pe_ix ix_list (pe_fld (pv 0) rfl) (pv 4) (λ_ _=>rfl)) (pv 1) (nomark _))
     (pss_one (ps_set (i:=2) sc_cuts_up_to.nd rfl (Or.inl rfl) (pe_op op_add (pv 4) pe_int)))
     (pss_one (ps_set (i:=3) sc_cuts_up_to.nd rfl (Or.inl rfl) (pv 4)))))))
   (pss_one (ps_ret (pv 2))))),?_⟩
  refine ⟨_,rfl,p,C,dx,_,_,rfl,h1,T.cl,T.nC,flds_cuts _ _,a,_,rfl,.inl (SqL.of h2),?_⟩
  have lenC:(cutsV ps).length=ps.length:=List.length_map ..
  have lenM:(ps.map (·.1)).length=ps.length:=List.length_map ..
  refine while_by (fun σ H'=>H'=H/\∃ (lo hi:Nat) (m:Option V),σ=[some (.ref p),some (.int x),some (.int (lo:Int)),some (.int (hi:Int)),m]/\lo<=hi/\hi<=ps.length/\
   (∀ i c,i<lo->(ps.map (·.1))[i]?=some c->c<=x)/\∀ i c,hi<=i->(ps.map (·.1))[i]?=some c->x<c) muUp ?_ ?_ ?_
  ·refine ⟨rfl,0,ps.length,none,by rw [lenC];rfl,Nat.zero_le _,Nat.le_refl _,λi c h=>absurd h (Nat.not_lt_zero _),λi c h e=>?_⟩
   have:=(List.getElem?_eq_some_iff.mp e).1
   omega
  ·rintro σ H' ⟨rfl,lo,hi,m,rfl,hle,hhi,hlo,hhi2⟩
   refine ⟨_,rfl,_,rfl,_,_,rfl,rfl,_,rfl,ite2 (λhc=>?_) (λhc=>?_)⟩
   ·have hlt:lo<hi:=by
     have:=of_decide_eq_true hc
     omega
    have hmid:((lo:Int)+(hi:Int)) / 2=(((lo+hi) / 2:Nat):Int):=by omega
    have hml:(lo+hi) / 2<ps.length:=by omega
    refine ⟨_,rfl,_,rfl,_,_,rfl,rfl,_,_,rfl,rfl,⟨by decide,by decide⟩,?_⟩
    obtain ⟨q,hq⟩:∃ q,ps[(lo+hi) / 2]?=some q:=⟨_,List.getElem?_eq_getElem hml⟩
    have hqm:(ps.map (·.1))[(lo+hi) / 2]?=some q.1:=by rw [List.getElem?_map,hq];rfl
    refine ⟨_,rfl,p,C,dx,_,_,rfl,h1,T.cl,T.nC,flds_cuts _ _,_,rfl,a,_,_,.int q.1,rfl,rfl,SqL.of h2,atN hmid (by rw [List.getElem?_map,hq];rfl),_,rfl,_,_,rfl,rfl,_,rfl,ite2 (λhd=>?_) (λhd=>?_)⟩
    ·have hd':q.1<=x:=of_decide_eq_true hd
     refine ⟨_,rfl,_,_,rfl,rfl,⟨rfl,(lo+hi) / 2+1,hi,some (.int (((lo:Int)+(hi:Int)) / 2)),?_,by omega,hhi,λi c hi2 e=>?_,hhi2⟩,?_⟩
     ·rw [show ((((lo+hi) / 2+1:Nat)):Int)=((lo:Int)+(hi:Int)) / 2+1 by omega];rfl
     ·by_cases hie:i=(lo+hi) / 2
      ·subst hie
       rw [hqm] at e
       cases e
       exact hd'
      ·have hr2:q.1=q.1:=rfl
       have hil:i<(lo+hi) / 2:=by omega
       obtain ⟨hb1,eb1⟩:=List.getElem?_eq_some_iff.mp e
       obtain ⟨hb2,eb2⟩:=List.getElem?_eq_some_iff.mp hqm
       have hp:=List.pairwise_iff_getElem.mp (List.pairwise_map.mpr hrise:(ps.map (·.1)).Pairwise (·<=·)) i ((lo+hi) / 2) hb1 hb2 hil
       rw [eb1,eb2] at hp
       omega
     ·show ((hi:Int)-(((lo:Int)+(hi:Int)) / 2+1)).toNat<((hi:Int)-(lo:Int)).toNat
      omega
    ·have hd':x<q.1:=by
      have:=of_decide_eq_false (Bool.eq_false_iff.mpr hd)
      omega
     refine ⟨_,rfl,⟨rfl,lo,(lo+hi) / 2,some (.int (((lo:Int)+(hi:Int)) / 2)),?_,by omega,by omega,hlo,λi c hi2 e=>?_⟩,?_⟩
     ·rw [<-hmid];rfl
     ·by_cases hie:i=(lo+hi) / 2
      ·subst hie
       rw [hqm] at e
       cases e
       exact hd'
      ·obtain ⟨hb1,eb1⟩:=List.getElem?_eq_some_iff.mp e
       obtain ⟨hb2,eb2⟩:=List.getElem?_eq_some_iff.mp hqm
       have hp:=List.pairwise_iff_getElem.mp (List.pairwise_map.mpr hrise:(ps.map (·.1)).Pairwise (·<=·)) ((lo+hi) / 2) i hb2 hb1 (by omega)
       rw [eb1,eb2] at hp
       omega
     ·show (((lo:Int)+(hi:Int)) / 2-(lo:Int)).toNat<((hi:Int)-(lo:Int)).toNat
      omega
   ·have heq:lo=hi:=by
     have:=of_decide_eq_false (Bool.eq_false_iff.mpr hc)
     omega
    subst heq
    exact ⟨_,rfl,k lo ⟨by rw [lenM];exact hhi,hlo,hhi2⟩⟩
  ·rintro σ H' Q1 Q2 himp ⟨v1,e1,v2,e2,i,j,e3,e4,kk,e5,q⟩
   exact ⟨v1,e1,v2,e2,i,j,e3,e4,kk,e5,himp _ _ q⟩
theorem diff_drop:∀ {ps:List (Int×V)}{x:Int}{n:Nat}{v:V},Diff v ps->UpTo (ps.map (·.1)) x n->Diff (atL v ps x) (ps.drop n)
 |ps,x,0,v,hd,h=>by
  have e:atL v ps x=v:=atL_low λq hq=>by
   obtain ⟨i,hi,e⟩:=List.mem_iff_getElem.mp hq
   refine h.hi i q.1 (Nat.zero_le _) ?_
   rw [List.getElem?_map,List.getElem?_eq_getElem hi,e]
   rfl
  rw [e];exact hd
 | [],x,n+1,v,hd,h=>by
  have:=h.le
  simp at this
 |q::r,x,n+1,v,hd,h=>by
  have h1:q.1<=x:=h.lo 0 q.1 (Nat.succ_pos _) rfl
  have hu:UpTo (r.map (·.1)) x n:=⟨by have:=h.le;simp at this ⊢;omega,λi c hi e=>h.lo (i+1) c (by omega) (by simpa using e),λi c hi e=>h.hi (i+1) c (by omega) (by simpa using e)⟩
  have e:atL v (q::r) x=atL q.2 r x:=by
   show atL (if q.1<=x then q.2 else v) r x=_
   rw [if_pos h1]
  rw [e]
  exact diff_drop hd.2 hu
theorem ok_check_size {f:Addr}{fd:FuncData} (F:Fun K "check_size" "check_size" s_check_size f fd):FnOk P w K mg base CX0 1 f fd ["size"] spCheckS:=by
 refine F.ok sc_check_size (λvs H Q E h=>?_) (λcdv A outer s H vs Q E hr h=>?_)
 ·obtain ⟨n,rfl,_⟩:=h
  rfl
 ·obtain ⟨n,rfl,hn,k⟩:=h
  refine ⟨_,pss_one (ps_if (pt_cmpR op_lt (pv 0) pe_int (nomark _)) pss_never pss_nil),?_⟩
  refine ⟨_,rfl,_,_,rfl,rfl,_,rfl,ite2 (λhc=>?_) (λhc=>k)⟩
  have:=of_decide_eq_true hc
  exact absurd this (by omega)
theorem ok_check_times {f:Addr}{fd:FuncData} (F:Fun K "check_times" "check_times" s_check_times f fd):FnOk P w K mg base CX0 1 f fd ["times"] spCheckT:=by
 refine F.ok sc_check_times (λvs H Q E h=>?_) (λcdv A outer s H vs Q E hr h=>?_)
 ·obtain ⟨n,rfl,_⟩:=h
  rfl
 ·obtain ⟨n,rfl,hn,k⟩:=h
  refine ⟨_,pss_one (ps_if (pt_cmpR op_lt (pv 0) pe_int (nomark _)) pss_never pss_nil),?_⟩
  refine ⟨_,rfl,_,_,rfl,rfl,_,rfl,ite2 (λhc=>?_) (λhc=>k)⟩
  have:=of_decide_eq_true hc
  exact absurd this (by omega)
theorem ok_no_places {f:Addr}{fd:FuncData} (F:Fun K "has_no_places" "has_no_places" s_has_no_places f fd):FnOk P w K mg base CX0 1 f fd ["start","end"] spNoPl:=by
 refine F.ok sc_has_no_places (λvs H Q E h=>?_) (λcdv A outer s H vs Q E hr h=>?_)
 ·obtain ⟨s,e,rfl,_⟩:=h
  rfl
 ·obtain ⟨s,e,rfl,k⟩:=h
  refine ⟨_,pss_one (ps_ret (pe_and (pe_cmp (pc_notN (pv 0))) (pe_and (pe_cmp (pc_notN (pv 1))) (pe_one (pe_cmpR op_le (pv 1) (pv 0) (nomark _)))))),?_⟩
  cases s with
  |none=>exact ⟨_,rfl,false,rfl,iteF k⟩
  |some a=>
   refine ⟨_,rfl,true,rfl,iteT ?_⟩
   cases e with
   |none=>exact ⟨_,rfl,false,rfl,iteF k⟩
   |some b=>exact ⟨_,rfl,true,rfl,iteT ⟨_,rfl,_,rfl,_,_,rfl,rfl,k⟩⟩
theorem ok_put {f:Addr}{fd:FuncData} (F:Fun K "put" "put" s_put f fd) (T:Txt K mg C) (DP:Def P w K mg base "has_no_places" ["start","end"] 1 spNoPl) (DU:Def P w K mg base "cuts_up_to" ["line","place"] 1 (spUpTo C))
  (DL:Def P w K mg base "line_of" ["cuts","holds"] 3 (spLineOf K C)):FnOk P w K mg base CX0 4 f fd ["line","start","end","value"] (spPut C):=by
 refine F.ok sc_put (λvs H Q E h=>?_) (λcdv A outer s H vs Q E hr h=>?_)
 ·obtain ⟨p,v,ps,s,e,u,rfl,_⟩:=h
  rfl
 ·obtain ⟨p,v,ps,s,e,u,rfl,hL,hF,hlen,hu,k⟩:=h
  obtain ⟨dx,a,b,h1,h2,h3⟩:=id hL
  have hr1:Room 1 _:=hr.mono (by decide)
  refine' ⟨_,pss_cons (ps_if ?c1 (pss_one (ps_ret ?r1)) pss_nil)
   (pss_cons (ps_set (i:=4) sc_put.nd rfl (Or.inl rfl) (pe_lst pa_nil))
   (pss_cons (ps_set (i:=5) sc_put.nd rfl (Or.inl rfl) (pe_lst (pa_cons (pv 3) pa_nil)))
   (pss_cons (ps_if (pt_cmp (pc_notN (pv 1))) (pss_cons (ps_set (i:=6) sc_put.nd rfl (Or.inl rfl) ?a1) (pss_cons (ps_set (i:=4) sc_put.nd rfl (Or.inl rfl) ?a2) (pss_one (ps_set (i:=5) sc_put.nd rfl (Or.inl rfl) ?a3)))) pss_nil)
   (pss_cons (ps_if (pt_cmp (pc_notN (pv 2))) (pss_cons (ps_set (i:=7) sc_put.nd rfl (Or.inl rfl) ?b1) (pss_cons (ps_set (i:=4) sc_put.nd rfl (Or.inl rfl) ?b2) (pss_one (ps_set (i:=5) sc_put.nd rfl (Or.inl rfl) ?b3)))) pss_nil)
   (pss_one (ps_ret ?r2)))))),?rd⟩
  case c1=>exact pt_val (pe_callD DP hr1 rfl (pa_cons (pv 1) (pa_cons (pv 2) pa_nil)))
  case r1=>exact pe_callD DL hr rfl (pa_cons (pe_fld (pv 0) rfl) (pa_cons (pe_fld (pv 0) rfl) pa_nil))
  case a1=>exact pe_callD DU hr1 rfl (pa_cons (pv 0) (pa_cons (pv 1) pa_nil))
  case a2=>
   refine' pe_op op_cat ?x ?y
   case x=>exact pe_slice sl_list (pe_fld (pv 0) rfl) po_none (po_some (pv 6))
   case y=>exact pe_lst (pa_cons (pv 1) pa_nil)
  case a3=>
   refine' pe_op op_cat ?x ?y
   case x=>exact pe_slice sl_list (pe_fld (pv 0) rfl) po_none (po_some (pe_op op_add (pv 6) pe_int))
   case y=>exact pe_lst (pa_cons (pv 3) pa_nil)
  case b1=>exact pe_callD DU hr1 rfl (pa_cons (pv 0) (pa_cons (pv 2) pa_nil))
  case b2=>
   refine' pe_op op_cat ?x ?y
   case x=>exact pe_op op_cat (pv 4) (pe_lst (pa_cons (pv 2) pa_nil))
   case y=>exact pe_slice sl_list (pe_fld (pv 0) rfl) (po_some (pv 7)) po_none
  case b3=>
   refine' pe_op op_cat ?x ?y
   case x=>exact pv 5
   case y=>exact pe_slice sl_list (pe_fld (pv 0) rfl) (po_some (pv 7)) po_none
  case r2=>exact pe_callD DL hr rfl (pa_cons (pv 4) (pa_cons (pv 5) pa_nil))
  case rd=>
  have lenC:(cutsV ps).length=ps.length:=List.length_map ..
  have lenH:(holdsV v ps).length=ps.length+1:=by show (ps.map _).length+1=_;rw [List.length_map]
  have rise:=hF.st.rise
  have hat:∀ x,HV (atL v ps x):=λx=>hF.hh.at
  have finish:∀ (n m:Nat) (x6 x7:Option V) (H1:Hp) (c1 b1:Addr),Same H H1->H1 c1=some (.lst (cutsV (putP v ps s e u n m)))->H1 b1=some (.lst (holdsV (putV v s u) (putP v ps s e u n m)))->(∀ a,s=some a->UpTo (ps.map (·.1)) a n)->
    (∀ b,e=some b->UpTo (ps.map (·.1)) b m)->noPl s e=false->spLineOf K C [.ref c1,.ref b1] H1 Q E0:=λn m x6 x7 H1 c1 b1 s1 g1 g2 hn hm hp=>by
   have hlt:∀ a b,s=some a->e=some b->a<b:=λa b ha hb=>by
    rw [ha,hb] at hp
    have:=of_decide_eq_false (show decide (b<=a)=false from hp)
    omega
   have hhold:Holds (putV v s u) (putP v ps s e u n m):=⟨by cases s with|none=>exact hu|some a=>exact hF.hh.h0,mem_putP hF.hh.hs hat hu⟩
   have hl2:=len_putP (v:=v) (u:=u) (ps:=ps) (s:=s) (e:=e) (n:=n) (m:=m) λa b ha hb=>(hn a ha).mono (hm b hb) (Int.le_of_lt (hlt a b ha hb))
   exact ⟨c1,b1,_,_,rfl,SqL.of g1,SqL.of g2,hhold,by omega,λq H' s2 ln=>k.of s1 s2 ln (put_rise rise hn hm hlt) hhold hl2 λx=>put_at hn hm hlt x⟩
  refine ⟨_,rfl,_,rfl,s,e,rfl,_,rfl,ite2 (λhc=>?_) (λhc=>?_)⟩
  ·
   refine ⟨_,rfl,p,C,dx,_,_,rfl,h1,T.cl,T.nC,flds_cuts _ _,_,rfl,p,C,dx,_,_,rfl,h1,T.cl,T.nH,flds_holds _ _,a,b,v,ps,rfl,SqL.of h2,SqL.of h3,hF.hh,by omega,λq H' s2 ln=>?_⟩
   refine k.of Same.refl s2 ln rise hF.hh (by omega) λx=>?_
   show _=putF' s e u (atL v ps) x
   cases s with
   |none=>exact absurd hc (by cases e<;>exact Bool.false_ne_true)
   |some a'=>
    cases e with
    |none=>exact absurd hc Bool.false_ne_true
    |some b'=>
     have hba:b'<=a':=of_decide_eq_true hc
     unfold putF'
     rw [if_neg λz=>by have z1:=z.1 a' rfl;have z2:=z.2 b' rfl;omega]
  ·have hp:noPl s e=false:=Bool.eq_false_iff.mpr hc
   refine ⟨Nat.zero_le _,λc0 hc0=>⟨_,rfl,smallL (by show 1<=2000;decide),λb0 hb0=>?_⟩⟩
   have s0:Same H (upd (upd H c0 (.lst [])) b0 (.lst [u])):=Same.upd (Same.new hc0) ((Same.new hc0).free hb0)
   have g0c:(upd (upd H c0 (.lst [])) b0 (.lst [u])) c0=some (.lst []):=by
    rw [upd_ne λz=>by rw [<-z,upd_same] at hb0;cases hb0]
    exact upd_same
   have g0b:(upd (upd H c0 (.lst [])) b0 (.lst [u])) b0=some (.lst [u]):=upd_same
   generalize upd (upd H c0 (.lst [])) b0 (.lst [u])=H1 at s0 g0c g0b
   cases s with
   |none=>
    refine ⟨_,rfl,false,rfl,iteF ?_⟩
    cases e with
    |none=>
     refine ⟨_,rfl,false,rfl,iteF ⟨_,rfl,_,rfl,finish 0 0 none none H1 c0 b0 s0 g0c g0b (λ_ z=>nomatch z) (λ_ z=>nomatch z) hp⟩⟩
    |some y=>
     refine ⟨_,rfl,true,rfl,iteT ⟨_,rfl,_,rfl,p,y,v,ps,rfl,hL.same s0,rise,by omega,λm hm=>?_⟩⟩
     have em:cutV (cutsV ps) (some (m:Int)) none=cutsV (ps.drop m):=by rw [cut_from,cutsV_drop]
     have emh:cutV (holdsV v ps) (some (m:Int)) none=atL v ps y::(ps.drop m).map (·.2):=by rw [cut_from,holdsV_drop hm]
     have hm2:=hm.le
     rw [List.length_map] at hm2
     refine ⟨_,rfl,_,rfl,smallL (by show 1<=2000;decide),λl1 hl1=>⟨c0,l1,_,_,rfl,rfl,(by rw [upd_ne (ne_of_none g0c hl1)];exact g0c),upd_same,smallL (by show 0+1<=2000;decide),λl2 hl2=>?_⟩⟩
     have sA:Same H1 (upd (upd H1 l1 (.lst [optV (some y)])) l2 (.lst ([]++[optV (some y)]))):=Same.upd (Same.new hl1) ((Same.new hl1).free hl2)
     refine ⟨_,rfl,p,C,dx,_,_,rfl,sA _ _ (s0 _ _ h1),T.cl,T.nC,flds_cuts _ _,_,rfl,_,rfl,a,_,rfl,SqL.of (sA _ _ (s0 _ _ h2)),λl3 hl3=>⟨l2,l3,_,_,rfl,rfl,(by rw [upd_ne (ne_of_none (H:=upd (upd H1 l1 (.lst [optV (some y)])) l2 (.lst ([]++[optV (some y)]))) upd_same hl3)];exact upd_same),upd_same,?_,λc1 hc1=>?_⟩⟩
     ·rw [em];exact smallL (by show 1+(List.map _ (ps.drop m)).length<=2000;rw [List.length_map,List.length_drop];omega)
     have sB:Same H1 (upd (upd (upd (upd H1 l1 (.lst [optV (some y)])) l2 (.lst ([]++[optV (some y)]))) l3 (.lst (cutV (cutsV ps) (some (m:Int)) none))) c1 (.lst (([]++[optV (some y)])++cutV (cutsV ps) (some (m:Int)) none))):=Same.upd (Same.upd sA (sA.free hl3)) ((Same.upd sA (sA.free hl3)).free hc1)
     have gc1:(upd (upd (upd (upd H1 l1 (.lst [optV (some y)])) l2 (.lst ([]++[optV (some y)]))) l3 (.lst (cutV (cutsV ps) (some (m:Int)) none))) c1 (.lst (([]++[optV (some y)])++cutV (cutsV ps) (some (m:Int)) none))) c1=some (.lst (([]++[optV (some y)])++cutV (cutsV ps) (some (m:Int)) none)):=upd_same
     generalize upd (upd (upd (upd H1 l1 (.lst [optV (some y)])) l2 (.lst ([]++[optV (some y)]))) l3 (.lst (cutV (cutsV ps) (some (m:Int)) none))) c1 (.lst (([]++[optV (some y)])++cutV (cutsV ps) (some (m:Int)) none))=H2 at sB gc1
     refine ⟨_,rfl,_,rfl,p,C,dx,_,_,rfl,sB _ _ (s0 _ _ h1),T.cl,T.nH,flds_holds _ _,_,rfl,_,rfl,b,_,rfl,SqL.of (sB _ _ (s0 _ _ h3)),λl4 hl4=>⟨b0,l4,_,_,rfl,rfl,(by rw [upd_ne (ne_of_none (sB _ _ g0b) hl4)];exact sB _ _ g0b),upd_same,?_,λb1 hb1=>?_⟩⟩
     ·rw [emh];exact smallL (by show 1+((List.map _ (ps.drop m)).length+1)<=2000;rw [List.length_map,List.length_drop];omega)
     have sC:Same H2 (upd (upd H2 l4 (.lst (cutV (holdsV v ps) (some (m:Int)) none))) b1 (.lst ([u]++cutV (holdsV v ps) (some (m:Int)) none))):=Same.upd (Same.new hl4) ((Same.new hl4).free hb1)
     refine ⟨_,rfl,_,rfl,finish 0 m none none _ c1 b1 ((s0.trans sB).trans sC) (sC _ _ ?_) (upd_same.trans ?_) (λ_ z=>nomatch z) (λz hz=>by cases hz;exact hm) hp⟩
     ·rw [gc1,em];rfl
     ·rw [emh];rfl
   |some x=>
    refine ⟨_,rfl,true,rfl,iteT ⟨_,rfl,_,rfl,p,x,v,ps,rfl,hL.same s0,rise,by omega,λn hn=>?_⟩⟩
    have en:cutV (cutsV ps) none (some (n:Int))=cutsV (ps.take n):=by rw [cut_to,cutsV_take]
    have enh:cutV (holdsV v ps) none (some ((n:Int)+1))=holdsV v (ps.take n):=by rw [show ((n:Int)+1)=((n+1:Nat):Int) from rfl,cut_to,holdsV_take]
    have hn2:=hn.le
    rw [List.length_map] at hn2
    have ltk:(ps.take n).length<=ps.length:=by rw [List.length_take];omega
    refine ⟨_,rfl,p,C,dx,_,_,rfl,s0 _ _ h1,T.cl,T.nC,flds_cuts _ _,_,rfl,_,rfl,a,_,rfl,SqL.of (s0 _ _ h2),λl1 hl1=>⟨_,rfl,smallL (by show 1<=2000;decide),λl2 hl2=>⟨l1,l2,_,_,rfl,rfl,(by rw [upd_ne (ne_of_none (H:=upd H1 l1 _) upd_same hl2)];exact upd_same),upd_same,?_,λc1 hc1=>?_⟩⟩⟩
    ·rw [en];exact smallL (by show (List.map _ (ps.take n)).length+1<=2000;rw [List.length_map];omega)
    have sA:Same H1 (upd (upd (upd H1 l1 (.lst (cutV (cutsV ps) none (some (n:Int))))) l2 (.lst [optV (some x)])) c1 (.lst (cutV (cutsV ps) none (some (n:Int))++[optV (some x)]))):=Same.upd (Same.upd (Same.new hl1) ((Same.new hl1).free hl2)) ((Same.upd (Same.new hl1) ((Same.new hl1).free hl2)).free hc1)
    have gc1:(upd (upd (upd H1 l1 (.lst (cutV (cutsV ps) none (some (n:Int))))) l2 (.lst [optV (some x)])) c1 (.lst (cutV (cutsV ps) none (some (n:Int))++[optV (some x)]))) c1=some (.lst (cutV (cutsV ps) none (some (n:Int))++[optV (some x)])):=upd_same
    generalize upd (upd (upd H1 l1 (.lst (cutV (cutsV ps) none (some (n:Int))))) l2 (.lst [optV (some x)])) c1 (.lst (cutV (cutsV ps) none (some (n:Int))++[optV (some x)]))=H2 at sA gc1
    rw [en] at gc1
    have s02:=s0.trans sA
    refine ⟨_,rfl,p,C,dx,_,_,rfl,s02 _ _ h1,T.cl,T.nH,flds_holds _ _,_,rfl,_,_,rfl,rfl,_,rfl,b,_,rfl,SqL.of (s02 _ _ h3),λl3 hl3=>⟨_,rfl,smallL (by show 1<=2000;decide),λl4 hl4=>⟨l3,l4,_,_,rfl,rfl,(by rw [upd_ne (ne_of_none (H:=upd H2 l3 _) upd_same hl4)];exact upd_same),upd_same,?_,λb1 hb1=>?_⟩⟩⟩
    ·rw [enh];exact smallL (by show ((List.map _ (ps.take n)).length+1)+1<=2000;rw [List.length_map];omega)
    have sB:Same H2 (upd (upd (upd H2 l3 (.lst (cutV (holdsV v ps) none (some ((n:Int)+1))))) l4 (.lst [u])) b1 (.lst (cutV (holdsV v ps) none (some ((n:Int)+1))++[u]))):=Same.upd (Same.upd (Same.new hl3) ((Same.new hl3).free hl4)) ((Same.upd (Same.new hl3) ((Same.new hl3).free hl4)).free hb1)
    have gb1:(upd (upd (upd H2 l3 (.lst (cutV (holdsV v ps) none (some ((n:Int)+1))))) l4 (.lst [u])) b1 (.lst (cutV (holdsV v ps) none (some ((n:Int)+1))++[u]))) b1=some (.lst (cutV (holdsV v ps) none (some ((n:Int)+1))++[u])):=upd_same
    generalize upd (upd (upd H2 l3 (.lst (cutV (holdsV v ps) none (some ((n:Int)+1))))) l4 (.lst [u])) b1 (.lst (cutV (holdsV v ps) none (some ((n:Int)+1))++[u]))=H3 at sB gb1
    rw [enh] at gb1
    have s03:=s02.trans sB
    have gc2:H3 c1=some (.lst (cutsV (ps.take n)++[optV (some x)])):=sB _ _ gc1
    cases e with
    |none=>
     refine ⟨_,rfl,false,rfl,iteF ⟨_,rfl,_,rfl,finish n 0 none none H3 c1 b1 s03 ?_ ?_ (λz hz=>by cases hz;exact hn) (λ_ z=>nomatch z) hp⟩⟩
     ·rw [gc2]
      show _=some (HO.lst (cutsV ((ps.take n++[(x,u)])++[])))
      rw [List.append_nil,cutsV_app];rfl
     ·rw [gb1]
      show _=some (HO.lst (v::((ps.take n++[(x,u)])++[]).map _))
      rw [List.append_nil,List.map_append];rfl
    |some y=>
     refine ⟨_,rfl,true,rfl,iteT ⟨_,rfl,_,rfl,p,y,v,ps,rfl,hL.same s03,rise,by omega,λm hm=>?_⟩⟩
     have em:cutV (cutsV ps) (some (m:Int)) none=cutsV (ps.drop m):=by rw [cut_from,cutsV_drop]
     have emh:cutV (holdsV v ps) (some (m:Int)) none=atL v ps y::(ps.drop m).map (·.2):=by rw [cut_from,holdsV_drop hm]
     refine ⟨_,rfl,_,rfl,smallL (by show 1<=2000;decide),λl5 hl5=>⟨c1,l5,_,_,rfl,rfl,(by rw [upd_ne (ne_of_none gc2 hl5)];exact gc2),upd_same,smallL (by rw [List.length_append,List.length_map];show (ps.take n).length+1+1<=2000;omega),λl6 hl6=>?_⟩⟩
     have sC:Same H3 (upd (upd H3 l5 (.lst [optV (some y)])) l6 (.lst ((cutsV (ps.take n)++[optV (some x)])++[optV (some y)]))):=Same.upd (Same.new hl5) ((Same.new hl5).free hl6)
     refine ⟨_,rfl,p,C,dx,_,_,rfl,sC _ _ (s03 _ _ h1),T.cl,T.nC,flds_cuts _ _,_,rfl,_,rfl,a,_,rfl,SqL.of (sC _ _ (s03 _ _ h2)),λl7 hl7=>⟨l6,l7,_,_,rfl,rfl,(by rw [upd_ne (ne_of_none (H:=upd (upd H3 l5 (.lst [optV (some y)])) l6 _) upd_same hl7)];exact upd_same),upd_same,?_,λc2 hc2=>?_⟩⟩
     ·rw [em,List.length_append,List.length_append,List.length_map,List.length_map,List.length_drop];exact smallL (by show (ps.take n).length+1+1+(ps.length-m)<=2000;omega)
     have sD:Same H3 (upd (upd (upd (upd H3 l5 (.lst [optV (some y)])) l6 (.lst ((cutsV (ps.take n)++[optV (some x)])++[optV (some y)]))) l7 (.lst (cutV (cutsV ps) (some (m:Int)) none))) c2 (.lst (((cutsV (ps.take n)++[optV (some x)])++[optV (some y)])++cutV (cutsV ps) (some (m:Int)) none))):=Same.upd (Same.upd sC (sC.free hl7)) ((Same.upd sC (sC.free hl7)).free hc2)
     have gc3:(upd (upd (upd (upd H3 l5 (.lst [optV (some y)])) l6 (.lst ((cutsV (ps.take n)++[optV (some x)])++[optV (some y)]))) l7 (.lst (cutV (cutsV ps) (some (m:Int)) none))) c2 (.lst (((cutsV (ps.take n)++[optV (some x)])++[optV (some y)])++cutV (cutsV ps) (some (m:Int)) none))) c2=some (.lst (((cutsV (ps.take n)++[optV (some x)])++[optV (some y)])++cutV (cutsV ps) (some (m:Int)) none)):=upd_same
     generalize upd (upd (upd (upd H3 l5 (.lst [optV (some y)])) l6 (.lst ((cutsV (ps.take n)++[optV (some x)])++[optV (some y)]))) l7 (.lst (cutV (cutsV ps) (some (m:Int)) none))) c2 (.lst (((cutsV (ps.take n)++[optV (some x)])++[optV (some y)])++cutV (cutsV ps) (some (m:Int)) none))=H4 at sD gc3
     rw [em] at gc3
     have gb2:H4 b1=some (.lst (holdsV v (ps.take n)++[u])):=sD _ _ gb1
     refine ⟨_,rfl,_,rfl,p,C,dx,_,_,rfl,sD _ _ (s03 _ _ h1),T.cl,T.nH,flds_holds _ _,_,rfl,_,rfl,b,_,rfl,SqL.of (sD _ _ (s03 _ _ h3)),λl8 hl8=>⟨b1,l8,_,_,rfl,rfl,(by rw [upd_ne (ne_of_none gb2 hl8)];exact gb2),upd_same,?_,λb2 hb2=>?_⟩⟩
     ·rw [emh,List.length_append];exact smallL (by show ((List.map _ (ps.take n)).length+1)+1+((List.map _ (ps.drop m)).length+1)<=2000;rw [List.length_map,List.length_map,List.length_drop];omega)
     have sE:Same H4 (upd (upd H4 l8 (.lst (cutV (holdsV v ps) (some (m:Int)) none))) b2 (.lst ((holdsV v (ps.take n)++[u])++cutV (holdsV v ps) (some (m:Int)) none))):=Same.upd (Same.new hl8) ((Same.new hl8).free hb2)
     refine ⟨_,rfl,_,rfl,finish n m none none _ c2 b2 ((s03.trans sD).trans sE) (sE _ _ ?_) (upd_same.trans ?_) (λz hz=>by cases hz;exact hn) (λz hz=>by cases hz;exact hm) hp⟩
     ·rw [gc3]
      show _=some (HO.lst (cutsV ((ps.take n++[(x,u)])++((y,atL v ps y)::ps.drop m))))
      rw [cutsV_app,cutsV_app,List.append_assoc];rfl
     ·rw [emh]
      show _=some (HO.lst (v::((ps.take n++[(x,u)])++((y,atL v ps y)::ps.drop m)).map _))
      rw [List.map_append,List.map_append];rfl
end
section
variable {P:Program}{w:World}{K:PySem.W.Frag}{mg:Str->Option Value}{base:Heap}{C:Addr} [HoldKind]
abbrev scO:Scope:={ kind:=.function,names:=[(".0",.local),("cut",.local),("size",.free)],isGenerator:=false,isCoroutine:=false,more:=[] }
abbrev scS:Scope:={ kind:=.function,names:=[(".0",.local),("cut",.local),("times",.free)],isGenerator:=false,isCoroutine:=false,more:=[] }
theorem cs_opened:CScope (defScope s_opened) scO ["line","place","size","ahead","moved","cuts","holds"] ["cut","size"] [2] "cut":=
 ⟨rfl,by decide +kernel,by decide +kernel,by decide +kernel,by decide +kernel,rfl,by decide +kernel,by decide +kernel,by decide +kernel,by decide +kernel⟩
theorem cs_closed:CScope (defScope s_closed) scO ["line","place","size","ahead","passed","moved","cuts","holds"] ["cut","size"] [2] "cut":=
 ⟨rfl,by decide +kernel,by decide +kernel,by decide +kernel,by decide +kernel,rfl,by decide +kernel,by decide +kernel,by decide +kernel,by decide +kernel⟩
theorem cs_stretched:CScope (defScope s_stretched) scS ["line","times"] ["cut","times"] [1] "cut":=
 ⟨rfl,by decide +kernel,by decide +kernel,by decide +kernel,by decide +kernel,rfl,by decide +kernel,by decide +kernel,by decide +kernel,by decide +kernel⟩
def mapI (g:Int->Int):V->V
 | .int c=>.int (g c)
 |y=>y
theorem map_cutsV (g:Int->Int) (ps:List (Int×V)):(cutsV ps).map (mapI g)=cutsV (ps.map λq=>(g q.1,q.2)):=by
 show (ps.map _).map _=(ps.map _).map _
 rw [List.map_map,List.map_map]
 rfl
theorem ok_opened {f:Addr}{fd:FuncData} (F:Fun K "opened" "opened" s_opened f fd) (T:Txt K mg C) (DS:Def P w K mg base "check_size" ["size"] 1 spCheckS) (DU:Def P w K mg base "cuts_up_to" ["line","place"] 1 (spUpTo C))
  (DL:Def P w K mg base "line_of" ["cuts","holds"] 3 (spLineOf K C)):FnOk P w K mg base CX0 4 f fd ["line","place","size"] (spOpened C):=by
 refine F.ok sc_opened (λvs H Q E h=>?_) (λcdv A outer s H vs Q E hr h=>?_)
 ·obtain ⟨p,v,ps,x,sz,rfl,_⟩:=h
  rfl
 ·obtain ⟨p,v,ps,x,sz,rfl,hL,hF,hlen,hsz,k⟩:=h
  obtain ⟨dx,a,b,h1,h2,h3⟩:=id hL
  have hr1:Room 1 _:=hr.mono (by decide)
  refine' ⟨_,pss_cons (ps_expr (pe_callD DS hr1 rfl (pa_cons (pv 2) pa_nil)))
   (pss_cons (ps_set (i:=3) sc_opened.nd rfl (Or.inl rfl) (pe_callD DU hr1 rfl (pa_cons (pv 0) (pa_cons (pv 1) pa_nil))))
   (pss_cons (ps_setC (i:=4) sc_opened.nd rfl (Or.inl rfl) cs_opened rfl rfl rfl ?m1 (λ_ _ _ _ _=>pf_nil) (λ_ _ _ _ _=>pe_op op_add (pv 0) (pv 1)))
   (pss_cons (ps_set (i:=5) sc_opened.nd rfl (Or.inl rfl) ?a1)
   (pss_cons (ps_set (i:=6) sc_opened.nd rfl (Or.inl rfl) ?a2)
   (pss_one (ps_ret (pe_callD DL hr rfl (pa_cons (pv 5) (pa_cons (pv 6) pa_nil))))))))),?rd⟩
  case m1=>exact pi_list (pe_slice sl_list (pe_fld (pv 0) rfl) (po_some (pv 3)) po_none)
  case a1=>
   refine' pe_op op_cat ?x ?y
   case y=>exact pv 4
   case x=>
    refine' pe_op op_cat ?x ?y
    case x=>exact pe_slice sl_list (pe_fld (pv 0) rfl) po_none (po_some (pv 3))
    case y=>exact pe_lst (pa_cons (pv 1) (pa_cons (pe_op op_add (pv 1) (pv 2)) pa_nil))
  case a2=>
   refine' pe_op op_cat ?x ?y
   case y=>exact pe_slice sl_list (pe_fld (pv 0) rfl) (po_some (pv 3)) po_none
   case x=>
    refine' pe_op op_cat ?x ?y
    case x=>exact pe_slice sl_list (pe_fld (pv 0) rfl) po_none (po_some (pe_op op_add (pv 3) pe_int))
    case y=>exact pe_lst (pa_cons pe_non pa_nil)
  case rd=>
  have rise:=hF.st.rise
  refine ⟨_,rfl,sz,rfl,hsz,?_⟩
  refine ⟨_,rfl,_,rfl,p,x,v,ps,rfl,hL,rise,by omega,λn hn=>?_⟩
  have en:cutV (cutsV ps) none (some (n:Int))=cutsV (ps.take n):=by rw [cut_to,cutsV_take]
  have ed:cutV (cutsV ps) (some (n:Int)) none=cutsV (ps.drop n):=by rw [cut_from,cutsV_drop]
  have enh:cutV (holdsV v ps) none (some ((n:Int)+1))=holdsV v (ps.take n):=by rw [show ((n:Int)+1)=((n+1:Nat):Int) from rfl,cut_to,holdsV_take]
  have edh:cutV (holdsV v ps) (some (n:Int)) none=atL v ps x::(ps.drop n).map (·.2):=by rw [cut_from,holdsV_drop hn]
  have ltk:(ps.take n).length<=ps.length:=by rw [List.length_take];omega
  have ldr:(ps.drop n).length<=ps.length:=by rw [List.length_drop];omega
  refine ⟨_,rfl,p,C,dx,_,_,rfl,h1,T.cl,T.nC,flds_cuts _ _,_,rfl,_,rfl,a,_,rfl,SqL.of h2,λl1 hl1=>⟨l1,rfl,⟨_,SqL.of upd_same⟩,?_⟩⟩
  rw [ed]
  refine comp_map (js:=[2]) (te:=tOp (rI0 λi j=>V.int (i+j)) (tVar 0) (tVar 1)) (mapI λc=>c+sz) (SqL.of upd_same) ?g1 ?g2 ?g3
  case g1=>rw [List.length_map];omega
  case g2=>
   intro y H2 Q' hy _ q'
   obtain ⟨q,_,rfl⟩:=List.mem_map.mp hy
   exact ⟨_,rfl,_,rfl,_,_,rfl,rfl,q'⟩
  case g3=>
  intro mo hmo
  rw [map_cutsV]
  have s1:Same H (upd (upd H l1 (.lst (cutsV (ps.drop n)))) mo (.lst (cutsV ((ps.drop n).map λq=>(q.1+sz,q.2))))):=Same.upd (Same.new hl1) ((Same.new hl1).free hmo)
  have gm:(upd (upd H l1 (.lst (cutsV (ps.drop n)))) mo (.lst (cutsV ((ps.drop n).map λq=>(q.1+sz,q.2))))) mo=some (.lst (cutsV ((ps.drop n).map λq=>(q.1+sz,q.2)))):=upd_same
  show tSeq _ _ _ _ _
  generalize upd (upd H l1 (.lst (cutsV (ps.drop n)))) mo (.lst (cutsV ((ps.drop n).map λq=>(q.1+sz,q.2))))=H1 at s1 gm ⊢
  refine ⟨_,rfl,p,C,dx,_,_,rfl,s1 _ _ h1,T.cl,T.nC,flds_cuts _ _,_,rfl,_,rfl,a,_,rfl,SqL.of (s1 _ _ h2),λl2 hl2=>⟨_,rfl,_,rfl,_,rfl,_,_,rfl,rfl,smallL (by show 2<=2000;decide),λl3 hl3=>⟨l2,l3,_,_,rfl,rfl,(by rw [upd_ne (ne_of_none (H:=upd H1 l2 _) upd_same hl3)];exact upd_same),upd_same,?_,λl4 hl4=>?_⟩⟩⟩
  ·rw [en];exact smallL (by rw [List.length_map];show (ps.take n).length+2<=2000;omega)
  have s2:Same H1 (upd (upd (upd H1 l2 (.lst (cutV (cutsV ps) none (some (n:Int))))) l3 (.lst [.int x,.int (x+sz)])) l4 (.lst (cutV (cutsV ps) none (some (n:Int))++[.int x,.int (x+sz)]))):=Same.upd (Same.upd (Same.new hl2) ((Same.new hl2).free hl3)) ((Same.upd (Same.new hl2) ((Same.new hl2).free hl3)).free hl4)
  have g4:(upd (upd (upd H1 l2 (.lst (cutV (cutsV ps) none (some (n:Int))))) l3 (.lst [.int x,.int (x+sz)])) l4 (.lst (cutV (cutsV ps) none (some (n:Int))++[.int x,.int (x+sz)]))) l4=some (.lst (cutV (cutsV ps) none (some (n:Int))++[.int x,.int (x+sz)])):=upd_same
  refine ⟨_,rfl,l4,mo,_,_,rfl,rfl,g4,s2 _ _ gm,?_,λc1 hc1=>?_⟩
  ·rw [en,List.length_append,List.length_map,List.length_map,List.length_map];exact smallL (by show (ps.take n).length+2+(ps.drop n).length<=2000;omega)
  have s3:Same H1 (upd (upd (upd (upd H1 l2 (.lst (cutV (cutsV ps) none (some (n:Int))))) l3 (.lst [.int x,.int (x+sz)])) l4 (.lst (cutV (cutsV ps) none (some (n:Int))++[.int x,.int (x+sz)]))) c1 (.lst ((cutV (cutsV ps) none (some (n:Int))++[.int x,.int (x+sz)])++cutsV ((ps.drop n).map λq=>(q.1+sz,q.2))))):=Same.upd s2 (s2.free hc1)
  have gc:(upd (upd (upd (upd H1 l2 (.lst (cutV (cutsV ps) none (some (n:Int))))) l3 (.lst [.int x,.int (x+sz)])) l4 (.lst (cutV (cutsV ps) none (some (n:Int))++[.int x,.int (x+sz)]))) c1 (.lst ((cutV (cutsV ps) none (some (n:Int))++[.int x,.int (x+sz)])++cutsV ((ps.drop n).map λq=>(q.1+sz,q.2))))) c1=some (.lst ((cutV (cutsV ps) none (some (n:Int))++[.int x,.int (x+sz)])++cutsV ((ps.drop n).map λq=>(q.1+sz,q.2)))):=upd_same
  show tSeq _ _ _ _ _
  generalize upd (upd (upd (upd H1 l2 (.lst (cutV (cutsV ps) none (some (n:Int))))) l3 (.lst [.int x,.int (x+sz)])) l4 (.lst (cutV (cutsV ps) none (some (n:Int))++[.int x,.int (x+sz)]))) c1 (.lst ((cutV (cutsV ps) none (some (n:Int))++[.int x,.int (x+sz)])++cutsV ((ps.drop n).map λq=>(q.1+sz,q.2))))=H2 at s3 gc ⊢
  rw [en] at gc
  have s02:=s1.trans s3
  refine ⟨_,rfl,p,C,dx,_,_,rfl,s02 _ _ h1,T.cl,T.nH,flds_holds _ _,_,rfl,_,_,rfl,rfl,_,rfl,b,_,rfl,SqL.of (s02 _ _ h3),λl5 hl5=>⟨smallL (by show 1<=2000;decide),λl6 hl6=>⟨l5,l6,_,_,rfl,rfl,(by rw [upd_ne (ne_of_none (H:=upd H2 l5 _) upd_same hl6)];exact upd_same),upd_same,?_,λl7 hl7=>?_⟩⟩⟩
  ·rw [enh];exact smallL (by show (List.map _ (ps.take n)).length+1+1<=2000;rw [List.length_map];omega)
  have s4:Same H2 (upd (upd (upd H2 l5 (.lst (cutV (holdsV v ps) none (some ((n:Int)+1))))) l6 (.lst [.non])) l7 (.lst (cutV (holdsV v ps) none (some ((n:Int)+1))++[.non]))):=Same.upd (Same.upd (Same.new hl5) ((Same.new hl5).free hl6)) ((Same.upd (Same.new hl5) ((Same.new hl5).free hl6)).free hl7)
  have g7:(upd (upd (upd H2 l5 (.lst (cutV (holdsV v ps) none (some ((n:Int)+1))))) l6 (.lst [.non])) l7 (.lst (cutV (holdsV v ps) none (some ((n:Int)+1))++[.non]))) l7=some (.lst (cutV (holdsV v ps) none (some ((n:Int)+1))++[.non])):=upd_same
  refine ⟨_,rfl,p,C,dx,_,_,rfl,s4 _ _ (s02 _ _ h1),T.cl,T.nH,flds_holds _ _,_,rfl,_,rfl,b,_,rfl,SqL.of (s4 _ _ (s02 _ _ h3)),λl8 hl8=>⟨l7,l8,_,_,rfl,rfl,(by rw [upd_ne (ne_of_none g7 hl8)];exact g7),upd_same,?_,λb1 hb1=>?_⟩⟩
  ·rw [enh,edh,List.length_append];exact smallL (by show (List.map _ (ps.take n)).length+1+1+((List.map _ (ps.drop n)).length+1)<=2000;rw [List.length_map,List.length_map];omega)
  have s5:=Same.upd (o:=.lst (cutV (holdsV v ps) (some (n:Int)) none)) s4 (s4.free hl8)
  have s6:=Same.upd (o:=.lst ((cutV (holdsV v ps) none (some ((n:Int)+1))++[.non])++cutV (holdsV v ps) (some (n:Int)) none)) s5 (s5.free hb1)
  refine ⟨_,rfl,_,rfl,c1,b1,v,openP v ps .non x sz n,rfl,SqL.of ((s6 _ _ gc).trans ?_),SqL.of (upd_same.trans ?_),⟨hF.hh.h0,mem_openP hF.hh.hs (λy=>hF.hh.at) HV.non⟩,?_,λr H' s7 ln=>?_⟩
  ·unfold openP
   rw [cutsV_app,List.append_assoc];rfl
  ·rw [enh,edh]
   unfold openP
   show _=some (HO.lst (v::(ps.take n++_).map _))
   rw [List.map_append,List.append_assoc]
   show _=some (HO.lst (v::((ps.take n).map _++(V.non::atL v ps x::((ps.drop n).map λq=>(q.1+sz,q.2)).map _))))
   rw [List.map_map];rfl
  ·have:=len_openP (v:=v) (z:=V.non) (ps:=ps) (p:=x) (s:=sz) (n:=n);omega
  ·exact k.of (s02.trans s6) s7 ln (open_rise rise hsz hn) ⟨hF.hh.h0,mem_openP hF.hh.hs (λy=>hF.hh.at) HV.non⟩ len_openP λy=>open_at hsz hn y
end
section
variable {P:Program}{w:World}{K:PySem.W.Frag}{mg:Str->Option Value}{base:Heap}{C:Addr} [HoldKind]
theorem ok_closed {f:Addr}{fd:FuncData} (F:Fun K "closed" "closed" s_closed f fd) (T:Txt K mg C) (DS:Def P w K mg base "check_size" ["size"] 1 spCheckS) (DU:Def P w K mg base "cuts_up_to" ["line","place"] 1 (spUpTo C))
  (DL:Def P w K mg base "line_of" ["cuts","holds"] 3 (spLineOf K C)):FnOk P w K mg base CX0 4 f fd ["line","place","size"] (spClosed C):=by
 refine F.ok sc_closed (λvs H Q E h=>?_) (λcdv A outer s H vs Q E hr h=>?_)
 ·obtain ⟨p,v,ps,x,sz,rfl,_⟩:=h
  rfl
 ·obtain ⟨p,v,ps,x,sz,rfl,hL,hF,hlen,hsz,k⟩:=h
  obtain ⟨dx,a,b,h1,h2,h3⟩:=id hL
  have hr1:Room 1 _:=hr.mono (by decide)
  refine' ⟨_,pss_cons (ps_expr (pe_callD DS hr1 rfl (pa_cons (pv 2) pa_nil)))
   (pss_cons (ps_set (i:=3) sc_closed.nd rfl (Or.inl rfl) (pe_callD DU hr1 rfl (pa_cons (pv 0) (pa_cons (pv 1) pa_nil))))
   (pss_cons (ps_set (i:=4) sc_closed.nd rfl (Or.inl rfl) (pe_callD DU hr1 rfl (pa_cons (pv 0) (pa_cons (pe_op op_add (pv 1) (pv 2)) pa_nil))))
   (pss_cons (ps_setC (i:=5) sc_closed.nd rfl (Or.inl rfl) cs_closed rfl rfl rfl ?m1 (λ_ _ _ _ _=>pf_nil) (λ_ _ _ _ _=>pe_op op_sub (pv 0) (pv 1)))
   (pss_cons (ps_set (i:=6) sc_closed.nd rfl (Or.inl rfl) ?a1)
   (pss_cons (ps_set (i:=7) sc_closed.nd rfl (Or.inl rfl) ?a2)
   (pss_one (ps_ret (pe_callD DL hr rfl (pa_cons (pv 6) (pa_cons (pv 7) pa_nil)))))))))),?rd⟩
  case m1=>exact pi_list (pe_slice sl_list (pe_fld (pv 0) rfl) (po_some (pv 4)) po_none)
  case a1=>
   refine' pe_op op_cat ?x ?y
   case y=>exact pv 5
   case x=>
    refine' pe_op op_cat ?x ?y
    case x=>exact pe_slice sl_list (pe_fld (pv 0) rfl) po_none (po_some (pv 3))
    case y=>exact pe_lst (pa_cons (pv 1) pa_nil)
  case a2=>
   refine' pe_op op_cat ?x ?y
   case y=>exact pe_slice sl_list (pe_fld (pv 0) rfl) (po_some (pv 4)) po_none
   case x=>exact pe_slice sl_list (pe_fld (pv 0) rfl) po_none (po_some (pe_op op_add (pv 3) pe_int))
  case rd=>
  have rise:=hF.st.rise
  refine ⟨_,rfl,sz,rfl,hsz,?_⟩
  refine ⟨_,rfl,_,rfl,p,x,v,ps,rfl,hL,rise,by omega,λn hn=>?_⟩
  refine ⟨_,rfl,_,rfl,_,rfl,_,_,rfl,rfl,p,x+sz,v,ps,rfl,hL,rise,by omega,λm hm=>?_⟩
  have hnm:n<=m:=hn.mono hm (by omega)
  have en:cutV (cutsV ps) none (some (n:Int))=cutsV (ps.take n):=by rw [cut_to,cutsV_take]
  have ed:cutV (cutsV ps) (some (m:Int)) none=cutsV (ps.drop m):=by rw [cut_from,cutsV_drop]
  have enh:cutV (holdsV v ps) none (some ((n:Int)+1))=holdsV v (ps.take n):=by rw [show ((n:Int)+1)=((n+1:Nat):Int) from rfl,cut_to,holdsV_take]
  have edh:cutV (holdsV v ps) (some (m:Int)) none=atL v ps (x+sz)::(ps.drop m).map (·.2):=by rw [cut_from,holdsV_drop hm]
  have ltk:(ps.take n).length<=ps.length:=by rw [List.length_take];omega
  have ldr:(ps.drop m).length<=ps.length:=by rw [List.length_drop];omega
  refine ⟨_,rfl,p,C,dx,_,_,rfl,h1,T.cl,T.nC,flds_cuts _ _,_,rfl,_,rfl,a,_,rfl,SqL.of h2,λl1 hl1=>⟨l1,rfl,⟨_,SqL.of upd_same⟩,?_⟩⟩
  rw [ed]
  refine comp_map (js:=[2]) (te:=tOp (rI0 λi j=>V.int (i-j)) (tVar 0) (tVar 1)) (mapI λc=>c-sz) (SqL.of upd_same) ?g1 ?g2 ?g3
  case g1=>rw [List.length_map];omega
  case g2=>
   intro y H2 Q' hy _ q'
   obtain ⟨q,_,rfl⟩:=List.mem_map.mp hy
   exact ⟨_,rfl,_,rfl,_,_,rfl,rfl,q'⟩
  case g3=>
  intro mo hmo
  rw [map_cutsV]
  have s1:Same H (upd (upd H l1 (.lst (cutsV (ps.drop m)))) mo (.lst (cutsV ((ps.drop m).map λq=>(q.1-sz,q.2))))):=Same.upd (Same.new hl1) ((Same.new hl1).free hmo)
  have gm:(upd (upd H l1 (.lst (cutsV (ps.drop m)))) mo (.lst (cutsV ((ps.drop m).map λq=>(q.1-sz,q.2))))) mo=some (.lst (cutsV ((ps.drop m).map λq=>(q.1-sz,q.2)))):=upd_same
  show tSeq _ _ _ _ _
  generalize upd (upd H l1 (.lst (cutsV (ps.drop m)))) mo (.lst (cutsV ((ps.drop m).map λq=>(q.1-sz,q.2))))=H1 at s1 gm ⊢
  refine ⟨_,rfl,p,C,dx,_,_,rfl,s1 _ _ h1,T.cl,T.nC,flds_cuts _ _,_,rfl,_,rfl,a,_,rfl,SqL.of (s1 _ _ h2),λl2 hl2=>⟨_,rfl,smallL (by show 1<=2000;decide),λl3 hl3=>⟨l2,l3,_,_,rfl,rfl,(by rw [upd_ne (ne_of_none (H:=upd H1 l2 _) upd_same hl3)];exact upd_same),upd_same,?_,λl4 hl4=>?_⟩⟩⟩
  ·rw [en];exact smallL (by rw [List.length_map];show (ps.take n).length+1<=2000;omega)
  have s2:Same H1 (upd (upd (upd H1 l2 (.lst (cutV (cutsV ps) none (some (n:Int))))) l3 (.lst [.int x])) l4 (.lst (cutV (cutsV ps) none (some (n:Int))++[.int x]))):=Same.upd (Same.upd (Same.new hl2) ((Same.new hl2).free hl3)) ((Same.upd (Same.new hl2) ((Same.new hl2).free hl3)).free hl4)
  have g4:(upd (upd (upd H1 l2 (.lst (cutV (cutsV ps) none (some (n:Int))))) l3 (.lst [.int x])) l4 (.lst (cutV (cutsV ps) none (some (n:Int))++[.int x]))) l4=some (.lst (cutV (cutsV ps) none (some (n:Int))++[.int x])):=upd_same
  refine ⟨_,rfl,l4,mo,_,_,rfl,rfl,g4,s2 _ _ gm,?_,λc1 hc1=>?_⟩
  ·rw [en,List.length_append,List.length_map,List.length_map,List.length_map];exact smallL (by show (ps.take n).length+1+(ps.drop m).length<=2000;omega)
  have s3:Same H1 (upd (upd (upd (upd H1 l2 (.lst (cutV (cutsV ps) none (some (n:Int))))) l3 (.lst [.int x])) l4 (.lst (cutV (cutsV ps) none (some (n:Int))++[.int x]))) c1 (.lst ((cutV (cutsV ps) none (some (n:Int))++[.int x])++cutsV ((ps.drop m).map λq=>(q.1-sz,q.2))))):=Same.upd s2 (s2.free hc1)
  have gc:(upd (upd (upd (upd H1 l2 (.lst (cutV (cutsV ps) none (some (n:Int))))) l3 (.lst [.int x])) l4 (.lst (cutV (cutsV ps) none (some (n:Int))++[.int x]))) c1 (.lst ((cutV (cutsV ps) none (some (n:Int))++[.int x])++cutsV ((ps.drop m).map λq=>(q.1-sz,q.2))))) c1=some (.lst ((cutV (cutsV ps) none (some (n:Int))++[.int x])++cutsV ((ps.drop m).map λq=>(q.1-sz,q.2)))):=upd_same
  show tSeq _ _ _ _ _
  generalize upd (upd (upd (upd H1 l2 (.lst (cutV (cutsV ps) none (some (n:Int))))) l3 (.lst [.int x])) l4 (.lst (cutV (cutsV ps) none (some (n:Int))++[.int x]))) c1 (.lst ((cutV (cutsV ps) none (some (n:Int))++[.int x])++cutsV ((ps.drop m).map λq=>(q.1-sz,q.2))))=H2 at s3 gc ⊢
  rw [en] at gc
  have s02:=s1.trans s3
  refine ⟨_,rfl,p,C,dx,_,_,rfl,s02 _ _ h1,T.cl,T.nH,flds_holds _ _,_,rfl,_,_,rfl,rfl,_,rfl,b,_,rfl,SqL.of (s02 _ _ h3),λl5 hl5=>?_⟩
  have s4:Same H2 (upd H2 l5 (.lst (cutV (holdsV v ps) none (some ((n:Int)+1))))):=Same.new hl5
  have g5:(upd H2 l5 (.lst (cutV (holdsV v ps) none (some ((n:Int)+1))))) l5=some (.lst (cutV (holdsV v ps) none (some ((n:Int)+1)))):=upd_same
  refine ⟨_,rfl,p,C,dx,_,_,rfl,s4 _ _ (s02 _ _ h1),T.cl,T.nH,flds_holds _ _,_,rfl,_,rfl,b,_,rfl,SqL.of (s4 _ _ (s02 _ _ h3)),λl8 hl8=>⟨l5,l8,_,_,rfl,rfl,(by rw [upd_ne (ne_of_none g5 hl8)];exact g5),upd_same,?_,λb1 hb1=>?_⟩⟩
  ·rw [enh,edh];exact smallL (by show (List.map _ (ps.take n)).length+1+((List.map _ (ps.drop m)).length+1)<=2000;rw [List.length_map,List.length_map];omega)
  have s5:=Same.upd (o:=.lst (cutV (holdsV v ps) (some (m:Int)) none)) s4 (s4.free hl8)
  have s6:=Same.upd (o:=.lst (cutV (holdsV v ps) none (some ((n:Int)+1))++cutV (holdsV v ps) (some (m:Int)) none)) s5 (s5.free hb1)
  refine ⟨_,rfl,_,rfl,c1,b1,v,closeP v ps x sz n m,rfl,SqL.of ((s6 _ _ gc).trans ?_),SqL.of (upd_same.trans ?_),⟨hF.hh.h0,mem_closeP hF.hh.hs (λy=>hF.hh.at)⟩,?_,λr H' s7 ln=>?_⟩
  ·unfold closeP
   rw [cutsV_app,List.append_assoc];rfl
  ·rw [enh,edh]
   unfold closeP
   show _=some (HO.lst (v::(ps.take n++_).map _))
   rw [List.map_append]
   show _=some (HO.lst (v::((ps.take n).map _++(atL v ps (x+sz)::((ps.drop m).map λq=>(q.1-sz,q.2)).map _))))
   rw [List.map_map];rfl
  ·have:=len_closeP (v:=v) (ps:=ps) (p:=x) (s:=sz) hnm;omega
  ·exact k.of (s02.trans s6) s7 ln (close_rise rise hn hm) ⟨hF.hh.h0,mem_closeP hF.hh.hs (λy=>hF.hh.at)⟩ (Nat.le_trans (len_closeP hnm) (by omega)) λy=>close_at hn hm y
theorem ok_stretched {f:Addr}{fd:FuncData} (F:Fun K "stretched" "stretched" s_stretched f fd) (T:Txt K mg C) (DS:Def P w K mg base "check_times" ["times"] 1 spCheckT)
  (DL:Def P w K mg base "line_of" ["cuts","holds"] 3 (spLineOf K C)):FnOk P w K mg base CX0 4 f fd ["line","times"] (spStretched C):=by
 refine F.ok sc_stretched (λvs H Q E h=>?_) (λcdv A outer s H vs Q E hr h=>?_)
 ·obtain ⟨p,v,ps,t,rfl,_⟩:=h
  rfl
 ·obtain ⟨p,v,ps,t,rfl,hL,hF,hlen,ht1,ht3,k⟩:=h
  obtain ⟨dx,a,b,h1,h2,h3⟩:=id hL
  have hr1:Room 1 _:=hr.mono (by decide)
  refine' ⟨_,pss_cons (ps_expr (pe_callD DS hr1 rfl (pa_cons (pv 1) pa_nil))) (pss_one (ps_ret ?c1)),?rd⟩
  case c1=>
   refine' pe_callD DL hr rfl ?c2
   case c2=>
    refine' pa_cons ?c3 ?c4
    case c4=>exact pa_cons (pe_fld (pv 0) rfl) pa_nil
    case c3=>
     refine' pe_comp cs_stretched rfl rfl rfl ?y1 ?y2 ?y3
     case y1=>exact pi_list (pe_fld (pv 0) rfl)
     case y2=>exact λ_ _ _ _ _=>pf_nil
     case y3=>exact λ_ _ _ _ _=>pe_op op_mul (pv 0) (pv 1)
  case rd=>
  refine ⟨_,rfl,t,rfl,ht1,?_⟩
  refine ⟨_,rfl,p,C,dx,_,_,rfl,h1,T.cl,T.nC,flds_cuts _ _,a,rfl,⟨_,SqL.of h2⟩,?_⟩
  refine comp_map (js:=[1]) (te:=tOp (rI CMul λi j=>V.int (i * j)) (tVar 0) (tVar 1)) (mapI λc=>c * t) (SqL.of h2) ?g1 ?g2 ?g3
  case g1=>rw [List.length_map];omega
  case g2=>
   intro y H2 Q' hy _ q'
   obtain ⟨q,_,rfl⟩:=List.mem_map.mp hy
   exact ⟨_,rfl,_,rfl,_,_,rfl,rfl,.inr ⟨by omega,by omega⟩,q'⟩
  case g3=>
  intro mo hmo
  rw [map_cutsV]
  have s1:Same H (upd H mo (.lst (cutsV (ps.map λq=>(q.1 * t,q.2))))):=Same.new hmo
  have hh:Holds v (strP ps t):=⟨hF.hh.h0,mem_strP hF.hh.hs⟩
  have hlen2:(strP ps t).length=ps.length:=List.length_map ..
  refine ⟨_,rfl,p,C,dx,_,_,rfl,s1 _ _ h1,T.cl,T.nH,flds_holds _ _,mo,b,v,strP ps t,rfl,SqL.of upd_same,SqL.of ((s1 _ _ h3).trans ?_),hh,by omega,λr H' s7 ln=>?_⟩
  ·unfold strP
   show _=some (HO.lst (v::(ps.map _).map _))
   rw [List.map_map];rfl
  ·exact k.of s1 s7 ln (str_rise hF.st.rise ht1) hh (by omega) λy=>str_at ht1 y
theorem ok_done {f:Addr}{fd:FuncData} (F:Fun K "done" "done" s_done f fd) (DP:Def P w K mg base "put" ["line","start","end","value"] 4 (spPut C)) (DO:Def P w K mg base "opened" ["line","place","size"] 4 (spOpened C))
  (DC:Def P w K mg base "closed" ["line","place","size"] 4 (spClosed C)) (DS:Def P w K mg base "stretched" ["line","times"] 4 (spStretched C)):FnOk P w K mg base CX0 5 f fd ["line","deed"] (spDone K C):=by
 refine F.ok sc_done (λvs H Q E h=>?_) (λcdv A outer s H vs Q E hr h=>?_)
 ·obtain ⟨p,d,v,ps,dd,rfl,_⟩:=h
  rfl
 ·obtain ⟨p,d,v,ps,dd,rfl,hL,hF,hlen,hd,hok,k⟩:=h
  refine' ⟨_,pss_cons (ps_set (i:=2) sc_done.nd rfl (Or.inl rfl) (pe_ix ix_tup (pv 1) pe_int (λ_ _=>rfl)))
   (pss_cons (ps_if (pt_cmpR op_eq (pv 2) pe_str (nomark _)) (pss_one (ps_ret ?e1)) pss_nil)
   (pss_cons (ps_if (pt_cmpR op_eq (pv 2) pe_str (nomark _)) (pss_one (ps_ret ?e2)) pss_nil)
   (pss_cons (ps_if (pt_cmpR op_eq (pv 2) pe_str (nomark _)) (pss_one (ps_ret ?e3)) pss_nil)
   (pss_cons (ps_if (pt_cmpR op_eq (pv 2) pe_str (nomark _)) (pss_one (ps_ret ?e4)) pss_nil)
   (pss_one ps_never))))),?rd⟩
  case e1=>exact pe_callD DP hr rfl (pa_cons (pv 0) (pa_cons (pe_ix ix_tup (pv 1) pe_int (λ_ _=>rfl)) (pa_cons (pe_ix ix_tup (pv 1) pe_int (λ_ _=>rfl)) (pa_cons (pe_ix ix_tup (pv 1) pe_int (λ_ _=>rfl)) pa_nil))))
  case e2=>exact pe_callD DO hr rfl (pa_cons (pv 0) (pa_cons (pe_ix ix_tup (pv 1) pe_int (λ_ _=>rfl)) (pa_cons (pe_ix ix_tup (pv 1) pe_int (λ_ _=>rfl)) pa_nil)))
  case e3=>exact pe_callD DC hr rfl (pa_cons (pv 0) (pa_cons (pe_ix ix_tup (pv 1) pe_int (λ_ _=>rfl)) (pa_cons (pe_ix ix_tup (pv 1) pe_int (λ_ _=>rfl)) pa_nil)))
  case e4=>exact pe_callD DS hr rfl (pa_cons (pv 0) (pa_cons (pe_ix ix_tup (pv 1) pe_int (λ_ _=>rfl)) pa_nil))
  case rd=>
  cases dd with
  |put s e u=>
   refine ⟨_,rfl,d,_,_,_,rfl,rfl,hd,atN (j:=0) rfl rfl,?_⟩
   refine ⟨_,rfl,rfl,_,rfl,iteP (by decide +kernel) ?_⟩
   exact ⟨_,rfl,_,rfl,d,_,_,_,rfl,rfl,hd,atN (j:=1) rfl rfl,_,rfl,d,_,_,_,rfl,rfl,hd,atN (j:=2) rfl rfl,_,rfl,d,_,_,_,rfl,rfl,hd,atN (j:=3) rfl rfl,p,v,ps,s,e,u,rfl,hL,hF,hlen,hok,k⟩
  |opn x n=>
   refine ⟨_,rfl,d,_,_,_,rfl,rfl,hd,atN (j:=0) rfl rfl,?_⟩
   refine ⟨_,rfl,rfl,_,rfl,iteN (by decide +kernel) ?_⟩
   refine ⟨_,rfl,rfl,_,rfl,iteP (by decide +kernel) ?_⟩
   exact ⟨_,rfl,_,rfl,d,_,_,_,rfl,rfl,hd,atN (j:=1) rfl rfl,_,rfl,d,_,_,_,rfl,rfl,hd,atN (j:=2) rfl rfl,p,v,ps,x,n,rfl,hL,hF,hlen,hok,k⟩
  |cls x n=>
   refine ⟨_,rfl,d,_,_,_,rfl,rfl,hd,atN (j:=0) rfl rfl,?_⟩
   refine ⟨_,rfl,rfl,_,rfl,iteN (by decide +kernel) ?_⟩
   refine ⟨_,rfl,rfl,_,rfl,iteN (by decide +kernel) ?_⟩
   refine ⟨_,rfl,rfl,_,rfl,iteP (by decide +kernel) ?_⟩
   exact ⟨_,rfl,_,rfl,d,_,_,_,rfl,rfl,hd,atN (j:=1) rfl rfl,_,rfl,d,_,_,_,rfl,rfl,hd,atN (j:=2) rfl rfl,p,v,ps,x,n,rfl,hL,hF,hlen,hok,k⟩
  |str t=>
   refine ⟨_,rfl,d,_,_,_,rfl,rfl,hd,atN (j:=0) rfl rfl,?_⟩
   refine ⟨_,rfl,rfl,_,rfl,iteN (by decide +kernel) ?_⟩
   refine ⟨_,rfl,rfl,_,rfl,iteN (by decide +kernel) ?_⟩
   refine ⟨_,rfl,rfl,_,rfl,iteN (by decide +kernel) ?_⟩
   refine ⟨_,rfl,rfl,_,rfl,iteP (by decide +kernel) ?_⟩
   exact ⟨_,rfl,_,rfl,d,_,_,_,rfl,rfl,hd,atN (j:=1) rfl rfl,p,v,ps,t,rfl,hL,hF,hlen,hok.1,hok.2,k⟩
end
section
variable {P:Program}{w:World}{K:PySem.W.Frag}{mg:Str->Option Value}{base:Heap}{C:Addr} [HoldKind]
def spDeed (K:PySem.W.Frag):Sp:=λvs H Q _=>∃ (o t:Int) (l:Addr) (ts:List V),vs=[.int o,.int t,.ref l]/\Names K H l ts/\∀ (d:Addr) (H':Hp) (dd:Deed),Same H H'->H d=none->H' d=some (.tup dd.vs)->dd.Ok->Q (.ref d) H'
def tSz (f0 f1 f2 f3:Option V):TS:=λD σ H=>∃ sz:Int,σ=[f0,f1,f2,f3,some (.int sz),none]/\0<=sz/\∀ sz':Int,0<=sz'->D.nx [f0,f1,f2,f3,some (.int sz'),none] H
def tPl (f0 f1 f2 f4:Option V):TS:=λD σ H=>∃ pl:Int,σ=[f0,f1,f2,some (.int pl),f4,none]/\∀ pl':Int,D.nx [f0,f1,f2,some (.int pl'),f4,none] H
def tEn (H0:Hp) (f0 f1 f2 f3 f4:Option V):TS:=λD σ H=>∃ (en:Addr) (s e:Option Int),σ=[f0,f1,f2,f3,f4,some (.ref en)]/\Same H0 H/\H0 en=none/\H en=some (.lst [optV s,optV e])/\
 ∀ (en':Addr) (H':Hp) (s' e':Option Int),Same H0 H'->H0 en'=none->H' en'=some (.lst [optV s',optV e'])->D.nx [f0,f1,f2,f3,f4,some (.ref en')] H'
theorem ok_deed {f:Addr}{fd:FuncData} (F:Fun K "_law_deed" "_law_deed" s_law_deed f fd):FnOk P w K mg base CX0 1 f fd ["one","two","names"] (spDeed K):=by
 refine F.ok sc_law_deed (λvs H Q E h=>?_) (λcdv A outer s H vs Q E hr h=>?_)
 ·obtain ⟨o,t,l,ts,rfl,_⟩:=h
  rfl
 ·obtain ⟨o,t,l,ts,rfl,⟨hN,hN4,hNv⟩,k⟩:=h
  refine' ⟨_,pss_cons (ps_set (i:=3) sc_law_deed.nd rfl (Or.inl rfl) ?a1)
   (pss_cons (ps_set (i:=4) sc_law_deed.nd rfl (Or.inl rfl) ?a2)
   (pss_cons (ps_imp (t':=tSz (some (.int o)) (some (.int t)) (some (.ref l)) (some (.int (o / 7 % 25 - 12)))) (ps_if ?b1 (pss_one (ps_set (i:=4) sc_law_deed.nd rfl (Or.inl rfl) ?b2)) pss_nil) ?bi)
   (pss_cons (ps_imp (t':=λD σ H=>∃ f4,tPl (some (.int o)) (some (.int t)) (some (.ref l)) f4 D σ H) (ps_if ?c1 (pss_one (ps_set (i:=3) sc_law_deed.nd rfl (Or.inl rfl) ?c2)) pss_nil) ?ci)
   (pss_cons (ps_if ?d1 (pss_one (ps_ret (pe_tup (pa_cons pe_str (pa_cons (pv 3) (pa_cons (pv 4) pa_nil)))))) pss_nil)
   (pss_cons (ps_if ?d2 (pss_one (ps_ret (pe_tup (pa_cons pe_str (pa_cons (pv 3) (pa_cons (pv 4) pa_nil)))))) pss_nil)
   (pss_cons (ps_if ?d3 (pss_one (ps_ret (pe_tup (pa_cons pe_str (pa_cons (pe_op op_add pe_int (pe_op op_mod (pv 1) pe_int)) pa_nil))))) pss_nil)
   (pss_cons (ps_set (i:=5) sc_law_deed.nd rfl (Or.inl rfl) (pe_lst (pa_cons (pv 3) (pa_cons (pe_op op_add (pv 3) (pv 4)) pa_nil))))
   (pss_cons (ps_imp (t':=λD σ H1=>∃ f3 f4,tEn H (some (.int o)) (some (.int t)) (some (.ref l)) f3 f4 D σ H1) (ps_if ?e1 (pss_one (ps_asg pe_non (pg_sub (pv 5) pe_int L2.set_list))) pss_nil) ?e1i)
   (pss_cons (ps_imp (t':=λD σ H1=>∃ f3 f4,tEn H (some (.int o)) (some (.int t)) (some (.ref l)) f3 f4 D σ H1) (ps_if ?e2 (pss_one (ps_asg pe_non (pg_sub (pv 5) pe_int L2.set_list))) pss_nil) ?e2i)
   (pss_cons (ps_imp (t':=λD σ H1=>∃ pl sz:Int,tEn H (some (.int o)) (some (.int t)) (some (.ref l)) (some (.int pl)) (some (.int sz)) D σ H1) (ps_if ?e3 (pss_one (ps_asg (pe_op op_sub (pv 3) (pv 4)) (pg_sub (pv 5) pe_int L2.set_list))) pss_nil) ?e3i)
   (pss_cons (ps_imp (t':=λD σ H1=>∃ f3 f4,tEn H (some (.int o)) (some (.int t)) (some (.ref l)) f3 f4 D σ H1) (ps_if ?e4 (pss_one (ps_set (i:=5) sc_law_deed.nd rfl (Or.inl rfl) (pe_lst (pa_cons pe_non (pa_cons pe_non pa_nil))))) pss_nil) ?e4i)
   (pss_one (ps_ret ?r))))))))))))),?rd⟩
  case a1=>exact pe_op op_sub (pe_op op_mod (pe_op op_fdiv (pv 0) pe_int) pe_int) pe_int
  case a2=>exact pe_op op_mod (pv 1) pe_int
  case b1=>exact pt_cmpR op_eq (pe_op op_mod (pe_op op_fdiv (pv 1) pe_int) pe_int) pe_int (nomark _)
  case b2=>exact pe_op op_add (pe_op op_pow pe_int pe_int) (pe_op op_mod (pv 1) pe_int)
  case c1=>exact pt_cmpR op_eq (pe_op op_mod (pe_op op_fdiv (pv 0) pe_int) pe_int) pe_int (nomark _)
  case c2=>exact pe_op op_sub (pe_op op_mod (pv 0) (pe_op op_pow pe_int pe_int)) (pe_op op_mul pe_int (pe_op op_pow pe_int pe_int))
  case d1=>exact pt_cmpR op_eq (pe_op op_mod (pv 0) pe_int) pe_int (nomark _)
  case d2=>exact pt_cmpR op_eq (pe_op op_mod (pv 0) pe_int) pe_int (nomark _)
  case d3=>exact pt_cmpR op_eq (pe_op op_mod (pv 0) pe_int) pe_int (nomark _)
  case e1=>exact pt_cmpR op_eq (pe_op op_mod (pe_op op_fdiv (pv 1) pe_int) pe_int) pe_int (nomark _)
  case e2=>exact pt_cmpR op_eq (pe_op op_mod (pe_op op_fdiv (pv 1) pe_int) pe_int) pe_int (nomark _)
  case e3=>exact pt_cmpR op_eq (pe_op op_mod (pe_op op_fdiv (pv 1) pe_int) pe_int) pe_int (nomark _)
  case e4=>exact pt_cmpR op_eq (pe_op op_mod (pe_op op_fdiv (pv 1) pe_int) pe_int) pe_int (nomark _)
  case r=>
   refine' pe_tup ?r1
   case r1=>
    refine' pa_cons pe_str (pa_cons ?x1 (pa_cons ?x2 (pa_cons ?x3 pa_nil)))
    case x1=>exact pe_ix ix_list (pv 5) pe_int (λ_ _=>rfl)
    case x2=>exact pe_ix ix_list (pv 5) pe_int (λ_ _=>rfl)
    case x3=>
     refine' pe_ix ?u1 ?u2 ?u3 ?u4
     case u1=>exact ix_list
     case u2=>exact pv 2
     case u3=>exact pe_op op_mod (pe_op op_fdiv (pv 1) pe_int) pe_int
     case u4=>exact λ_ _=>rfl
  case bi=>
   rintro D σ H1 ⟨sz,rfl,h0,kk⟩
   refine ⟨_,rfl,_,_,rfl,rfl,⟨by decide,by decide⟩,_,_,rfl,rfl,(by show (0:Int)<8;decide),rfl,_,rfl,ite2 (λ_=>?_) (λ_=>kk sz h0)⟩
   refine ⟨_,_,rfl,rfl,⟨by decide,by decide,by decide⟩,_,rfl,_,_,rfl,rfl,(by show (0:Int)<100;decide),_,_,rfl,rfl,kk _ ?_⟩
   have:=Int.emod_nonneg t (by decide:(100:Int)≠0)
   have h10:(0:Int)<=(10:Int) ^ (20:Int).toNat:=by decide +kernel
   omega
  case ci=>
   rintro D σ H1 ⟨f4,pl,rfl,kk⟩
   refine ⟨_,rfl,_,_,rfl,rfl,⟨by decide,by decide⟩,_,_,rfl,rfl,(by show (0:Int)<8;decide),rfl,_,rfl,ite2 (λ_=>?_) (λ_=>kk pl)⟩
   exact ⟨_,rfl,_,_,rfl,rfl,⟨by decide,by decide,by decide⟩,_,_,rfl,rfl,(by show (0:Int)<(10:Int) ^ (30:Int).toNat;decide +kernel),_,_,rfl,rfl,⟨by decide,by decide,by decide⟩,_,_,rfl,rfl,.inl ⟨by decide,by decide⟩,_,_,rfl,rfl,kk _⟩
  case e1i=>
   rintro D σ H1 ⟨f3,f4,en,s,e,rfl,s1,n0,g,kk⟩
   refine ⟨_,rfl,_,_,rfl,rfl,⟨by decide,by decide⟩,_,_,rfl,rfl,(by show (0:Int)<6;decide),rfl,_,rfl,ite2 (λ_=>?_) (λ_=>kk en H1 s e s1 n0 g)⟩
   exact ⟨_,rfl,en,_,_,0,rfl,rfl,g,rfl,kk en _ none e (Same.upd s1 n0) n0 upd_same⟩
  case e2i=>
   rintro D σ H1 ⟨f3,f4,en,s,e,rfl,s1,n0,g,kk⟩
   refine ⟨_,rfl,_,_,rfl,rfl,⟨by decide,by decide⟩,_,_,rfl,rfl,(by show (0:Int)<6;decide),rfl,_,rfl,ite2 (λ_=>?_) (λ_=>kk en H1 s e s1 n0 g)⟩
   exact ⟨_,rfl,en,_,_,1,rfl,rfl,g,rfl,kk en _ s none (Same.upd s1 n0) n0 upd_same⟩
  case e3i=>
   rintro D σ H1 ⟨pl,sz,en,s,e,rfl,s1,n0,g,kk⟩
   refine ⟨_,rfl,_,_,rfl,rfl,⟨by decide,by decide⟩,_,_,rfl,rfl,(by show (0:Int)<6;decide),rfl,_,rfl,ite2 (λ_=>?_) (λ_=>kk en H1 s e s1 n0 g)⟩
   exact ⟨_,rfl,_,rfl,_,_,rfl,rfl,_,rfl,en,_,_,1,rfl,rfl,g,rfl,kk en _ s (some (pl-sz)) (Same.upd s1 n0) n0 upd_same⟩
  case e4i=>
   rintro D σ H1 ⟨f3,f4,en,s,e,rfl,s1,n0,g,kk⟩
   refine ⟨_,rfl,_,_,rfl,rfl,⟨by decide,by decide⟩,_,_,rfl,rfl,(by show (0:Int)<36;decide),rfl,_,rfl,ite2 (λ_=>?_) (λ_=>kk en H1 s e s1 n0 g)⟩
   exact ⟨smallL (by show 2<=2000;decide),λen' hen'=>kk en' _ none none (Same.upd s1 (s1.free hen')) (s1.free hen') upd_same⟩
  case rd=>
  refine ⟨_,rfl,_,_,rfl,rfl,⟨by decide,by decide⟩,_,_,rfl,rfl,(by show (0:Int)<25;decide),_,_,rfl,rfl,?_⟩
  refine ⟨_,rfl,_,_,rfl,rfl,(by show (0:Int)<7;decide),?_⟩
  refine ⟨_,rfl,Int.emod_nonneg t (by decide),λsz hsz=>?_⟩
  refine ⟨_,_,rfl,λpl=>?_⟩
  refine ⟨_,rfl,_,_,rfl,rfl,(by show (0:Int)<7;decide),rfl,_,rfl,ite2 (λ_=>?_) (λ_=>?_)⟩
  ·exact ⟨_,rfl,_,rfl,smallL (by show 3<=2000;decide),λd hd=>k d _ (.opn pl sz) (Same.new hd) hd upd_same hsz⟩
  refine ⟨_,rfl,_,_,rfl,rfl,(by show (0:Int)<7;decide),rfl,_,rfl,ite2 (λ_=>?_) (λ_=>?_)⟩
  ·exact ⟨_,rfl,_,rfl,smallL (by show 3<=2000;decide),λd hd=>k d _ (.cls pl sz) (Same.new hd) hd upd_same hsz⟩
  refine ⟨_,rfl,_,_,rfl,rfl,(by show (0:Int)<7;decide),rfl,_,rfl,ite2 (λ_=>?_) (λ_=>?_)⟩
  ·refine ⟨_,rfl,_,_,rfl,rfl,(by show (0:Int)<3;decide),_,_,rfl,rfl,smallL (by show 2<=2000;decide),λd hd=>k d _ (.str (1+t % 3)) (Same.new hd) hd upd_same ?_⟩
   have:=Int.emod_nonneg t (by decide:(3:Int)≠0)
   have:=Int.emod_lt_of_pos t (by decide:(0:Int)<3)
   exact ⟨by omega,by omega⟩
  refine ⟨_,rfl,_,rfl,_,rfl,_,_,rfl,rfl,smallL (by show 2<=2000;decide),λen hen=>?_⟩
  refine ⟨_,_,en,some pl,some (pl+sz),rfl,Same.new hen,hen,upd_same,λen1 H1 s1 e1 sa na ga=>?_⟩
  refine ⟨_,_,en1,s1,e1,rfl,sa,na,ga,λen2 H2 s2 e2 sb nb gb=>?_⟩
  refine ⟨pl,sz,en2,s2,e2,rfl,sb,nb,gb,λen3 H3 s3 e3 sc nc gc=>?_⟩
  refine ⟨_,_,en3,s3,e3,rfl,sc,nc,gc,λen4 H4 s4 e4 sd nd gd=>?_⟩
  obtain ⟨u,hu,eu⟩:=in_list (ts:=ts) (Int.emod_nonneg (t / 11) (by decide:(4:Int)≠0)) (by rw [hN4];exact Int.emod_lt_of_pos (t / 11) (by decide))
  refine ⟨_,rfl,en4,_,_,optV s4,rfl,rfl,SqL.of gd,atN (j:=0) rfl rfl,_,rfl,en4,_,_,optV e4,rfl,rfl,SqL.of gd,atN (j:=1) rfl rfl,_,rfl,_,rfl,_,_,rfl,rfl,⟨by decide,by decide⟩,_,_,rfl,rfl,(by show (0:Int)<4;decide),l,ts,_,u,rfl,rfl,sd.seq hN,eu,smallL (by show 4<=2000;decide),λd hd=>?_⟩
  exact k d _ (.put s4 e4 u) (Same.upd sd (sd.free hd)) (sd.free hd) upd_same (hNv u hu)
end
section
variable {P:Program}{w:World}{K:PySem.W.Frag}{mg:Str->Option Value}{base:Heap}{C:Addr} [HoldKind]
def spDeeds (K:PySem.W.Frag):Sp:=λvs H Q _=>∃ (a l:Addr) (ns:List Int) (ts:List V),vs=[.ref a,.ref l]/\SqL K H a (ns.map V.int)/\ns.length<=63/\Names K H l ts/\
 ∀ (r:Addr) (H':Hp) (qs:List (Addr×Deed)),Same H H'->H r=none->H' r=some (.lst (qs.map λq=>V.ref q.1))->DeedsAt K H' r qs->qs.length=ns.length / 2->Q (.ref r) H'
abbrev scD1:Scope:={ kind:=.function,names:=[(".0",.local),("k",.local),("_law_deed",.globalImplicit),("cells",.free),("names",.free)],isGenerator:=false,isCoroutine:=false,more:=[] }
theorem cs_d1:CScope (defScope s_law_deeds) scD1 ["cells","names"] ["k","cells","names"] [0,1] "k":=
 ⟨rfl,by decide +kernel,by decide +kernel,by decide +kernel,by decide +kernel,rfl,by decide +kernel,by decide +kernel,by decide +kernel,by decide +kernel⟩
theorem ix_listK {X:Cx}{K':PySem.W.Frag} (h:X.K=K'):IxR X (rIxL K'):=h ▸ ix_list
def DeedV (v:V) (H:Hp):Prop:=∃ (d:Addr) (dd:Deed),v=.ref d/\H d=some (.tup dd.vs)/\dd.Ok
theorem deeds_of:∀ {ys:List V}{H:Hp},(∀ v∈ys,DeedV v H)->∃ qs:List (Addr×Deed),ys=qs.map (λq=>V.ref q.1)/\∀ q∈qs,H q.1=some (.tup q.2.vs)/\q.2.Ok
 | [],_,_=>⟨[],rfl,λq hq=>nomatch hq⟩
 |y::ys,H,h=>by
  obtain ⟨d,dd,rfl,h1,h2⟩:=h y List.mem_cons_self
  obtain ⟨qs,e,h3⟩:=deeds_of (ys:=ys) λv hv=>h v (List.mem_cons_of_mem _ hv)
  refine ⟨(d,dd)::qs,by rw [e];rfl,λq hq=>?_⟩
  rcases List.mem_cons.mp hq with z|z
  ·rw [z];exact ⟨h1,h2⟩
  ·exact h3 q z
theorem ok_deeds {f:Addr}{fd:FuncData} (F:Fun K "_law_deeds" "_law_deeds" s_law_deeds f fd) (T:Txt K mg C) (DD:Def P w K mg base "_law_deed" ["one","two","names"] 1 (spDeed K)):FnOk P w K mg base CX0 2 f fd ["cells","names"] (spDeeds K):=by
 refine F.ok sc_law_deeds (λvs H Q E h=>?_) (λcdv A outer s H vs Q E hr h=>?_)
 ·obtain ⟨a,l,ns,ts,rfl,_⟩:=h
  rfl
 ·obtain ⟨a,l,ns,ts,rfl,hS,hlen,hN,k⟩:=h
  refine' ⟨_,pss_one (ps_ret ?x),?rd⟩
  case x=>
   refine' pe_comp cs_d1 rfl rfl rfl ?y1 ?y2 ?y3
   case y1=>exact pi_range1 rfl T.range (pa_cons (pe_op op_fdiv (pe_callB call_len_seq rfl T.len PySem.boot_len (pa_cons (pv 0) pa_nil)) pe_int) pa_nil)
   case y2=>exact λ_ _ _ _ _=>pf_nil
   case y3=>exact λC' fp pins s' H'=>pe_callD (X:=compCx _ _ _ C' fp pins s' H') DD hr rfl (pa_cons (pe_ix (ix_listK (K':=K) rfl) (pv 1) (pe_op op_mul pe_int (pv 0)) (λ_ _=>rfl)) (pa_cons (pe_ix (ix_listK (K':=K) rfl) (pv 1) (pe_op op_add (pe_op op_mul pe_int (pv 0)) pe_int) (λ_ _=>rfl)) (pa_cons (pv 2) pa_nil)))
  case rd=>
  have lenS:(ns.map V.int).length=ns.length:=List.length_map ..
  refine ⟨_,rfl,a,_,rfl,.inl hS,_,_,rfl,rfl,⟨by decide,by decide⟩,_,rfl,(by omega),(by rw [lenS];omega),?_⟩
  rw [show ((((ns.map V.int).length:Nat):Int) / 2).toNat=ns.length / 2 by rw [lenS];omega]
  refine comp_rngP (js:=[0,1]) (λ_ v H=>DeedV v H) ?p1 ?p2 ?p3 ?p4
  case p1=>exact λ_ v H H' ⟨d,dd,e,h1,h2⟩ nl=>⟨d,dd,e,nl _ _ h1 (λys z=>by cases z),h2⟩
  case p2=>omega
  case p3=>
   intro i H2 Q' hi s2 q'
   have g1:(ns.map V.int)[2 * i]?=some (V.int (ns.getD (2 * i) 0)):=by
    rw [List.getElem?_map,List.getElem?_eq_getElem (by omega),List.getD_eq_getElem?_getD,List.getElem?_eq_getElem (by omega)];rfl
   have g2:(ns.map V.int)[2 * i+1]?=some (V.int (ns.getD (2 * i+1) 0)):=by
    rw [List.getElem?_map,List.getElem?_eq_getElem (by omega),List.getD_eq_getElem?_getD,List.getElem?_eq_getElem (by omega)];rfl
   refine ⟨_,rfl,_,rfl,_,_,rfl,rfl,.inl ⟨by decide,by decide⟩,a,_,_,_,rfl,rfl,s2.seq hS,atN (j:=2 * i) (by omega) g1,_,rfl,_,rfl,_,_,rfl,rfl,.inl ⟨by decide,by decide⟩,_,_,rfl,rfl,a,_,_,_,rfl,rfl,s2.seq hS,atN (j:=2 * i+1) (by omega) g2,_,rfl,_,_,l,ts,rfl,⟨s2.seq hN.1,hN.2⟩,λd H3 dd s3 nd gd hok=>?_⟩
   exact q' _ _ s3 ⟨d,dd,rfl,gd,hok⟩
  case p4=>
   intro l' ys H' hl' s' g' hy hp
   obtain ⟨qs,rfl,hq⟩:=deeds_of (ys:=ys) (H:=H') λv hv=>by
    obtain ⟨i,hi⟩:=List.getElem?_of_mem hv
    exact hp i v hi
   refine k l' H' qs s' hl' g' ⟨SqL.of g',λq hq'=>⟨SqT.of (hq q hq').1,(hq q hq').2⟩⟩ ?_
   rw [<-hy,List.length_map]
end
section
variable {P:Program}{w:World}{K:PySem.W.Frag}{mg:Str->Option Value}{base:Heap}{C:Addr} [HoldKind]
theorem comp_tup {a:Addr}{xs:List V}{js:List Nat}{tt:TT}{te:TE}{σ:L2.St}{H1:Hp}{R:Addr->Hp->Prop} (p:V->Bool) (g:V->V) (hx:SqT K H1 a xs) (hn:xs.length<=2000)
  (ht:∀ x H2 (Q':Bool->Hp->Prop),x∈xs->Same H1 H2->Q' (p x) H2->tt (some x::capsOf js σ) H2 Q')
  (he:∀ x H2 (Q':VK),x∈xs->p x=true->Same H1 H2->Q' (g x) H2->te (some x::capsOf js σ) H2 Q')
  (hq:∀ l,H1 l=none->R l (upd H1 l (.lst ((xs.filter p).map g)))) :
  ∀ l,H1 l=none->∃ W:Nat->Nat->List V->Hp->Prop,(∃ m,W 0 m [] (upd H1 l (.lst [])))/\
   ∀ i m ys H,W i m ys H->H l=some (.lst ys)/\(((Itt K a).stop i H/\R l H)∨((Itt K a).go i H/\∀ x H',(Itt K a).yld i H x H'->tt (some x::capsOf js σ) H' λb H2=>
    if b=true then te (some x::capsOf js σ) H2 λy H3=>H3 l=some (.lst ys)/\ys.length<sizeLine/\∃ m',m'<m/\W (i+1) m' (ys++[y]) (upd H3 l (.lst (ys++[y]))) else ∃ m',m'<m/\W (i+1) m' ys H2)):=by
 intro l hl
 refine ⟨λi m ys H=>m=xs.length-i/\i<=xs.length/\ys=((xs.take i).filter p).map g/\H=upd H1 l (.lst ys),⟨xs.length,rfl,Nat.zero_le _,by simp,rfl⟩,?_⟩
 rintro i m ys H ⟨rfl,hi,rfl,rfl⟩
 refine ⟨upd_same,?_⟩
 have hx2:SqT K (upd H1 l (.lst (((xs.take i).filter p).map g))) a xs:=Same.tup (Same.new hl) hx
 by_cases hlt:i<xs.length
 ·have hxi:xs[i]?=some xs[i]:=List.getElem?_eq_getElem hlt
  have htk:xs.take (i+1)=xs.take i++[xs[i]]:=by rw [List.take_add_one,hxi];rfl
  refine .inr ⟨⟨xs,xs[i],hx2,hxi⟩,λx H' y=>?_⟩
  obtain ⟨e1,y⟩:=y
  subst e1
  have ex:=y xs hx2
  rw [hxi] at ex
  obtain rfl:xs[i]=x:=Option.some.inj ex
  have hm:xs[i]∈xs:=List.getElem_mem hlt
  refine ht _ _ _ hm (Same.new hl) ?_
  have hlen:(((xs.take i).filter p).map g).length<=i:=by
   rw [List.length_map]
   refine Nat.le_trans (List.length_filter_le _ _) ?_
   rw [List.length_take];omega
  by_cases hp:p xs[i]=true
  ·rw [if_pos hp]
   refine he _ _ _ hm hp (Same.new hl) ⟨upd_same,small (by omega),xs.length-(i+1),by omega,rfl,hlt,?_,by rw [upd_upd]⟩
   rw [htk,List.filter_append,List.map_append]
   simp [hp]
  ·rw [if_neg hp]
   refine ⟨xs.length-(i+1),by omega,rfl,hlt,?_,rfl⟩
   rw [htk,List.filter_append,List.map_append]
   simp [hp]
 ·have e:i=xs.length:=by omega
  subst e
  refine .inl ⟨⟨xs,hx2,Nat.le_refl _⟩,?_⟩
  rw [List.take_of_length_le (Nat.le_refl _)]
  exact hq l hl
theorem ix_tupK {X:Cx}{K':PySem.W.Frag} (h:X.K=K'):IxR X (rIxT K'):=h ▸ ix_tup
def spEdges (K:PySem.W.Frag):Sp:=λvs H Q _=>∃ (l d:Addr) (es:List Int) (dd:Deed),vs=[.ref l,.ref d]/\H l=some (.lst (es.map V.int))/\es.length<=900/\SqT K H d dd.vs/\dd.Ok/\
 ∀ (l':Addr) (H':Hp),Same H H'->H l'=none->H' l'=some (.lst ((dd.edges es).map V.int))->Q (.ref l') H'
abbrev scE1:Scope:={ kind:=.function,names:=[(".0",.local),("end",.local)],isGenerator:=false,isCoroutine:=false,more:=[] }
abbrev scE2:Scope:={ kind:=.function,names:=[(".0",.local),("edge",.local),("deed",.free)],isGenerator:=false,isCoroutine:=false,more:=[] }
abbrev scE3:Scope:={ kind:=.function,names:=[(".0",.local),("edge",.local),("deed",.free),("place",.free)],isGenerator:=false,isCoroutine:=false,more:=[] }
abbrev scE4:Scope:={ kind:=.function,names:=[(".0",.local),("edge",.local),("max",.globalImplicit),("min",.globalImplicit),("deed",.free),("place",.free)],isGenerator:=false,isCoroutine:=false,more:=[] }
theorem cs_e1:CScope (defScope s_law_edges_behind) scE1 ["edges","deed","place","moved"] ["end"] [] "end":=
 ⟨rfl,by decide +kernel,by decide +kernel,by decide +kernel,by decide +kernel,rfl,by decide +kernel,by decide +kernel,by decide +kernel,by decide +kernel⟩
theorem cs_e2:CScope (defScope s_law_edges_behind) scE2 ["edges","deed","place","moved"] ["edge","deed"] [1] "edge":=
 ⟨rfl,by decide +kernel,by decide +kernel,by decide +kernel,by decide +kernel,rfl,by decide +kernel,by decide +kernel,by decide +kernel,by decide +kernel⟩
theorem cs_e3:CScope (defScope s_law_edges_behind) scE3 ["edges","deed","place","moved"] ["edge","deed","place"] [1,2] "edge":=
 ⟨rfl,by decide +kernel,by decide +kernel,by decide +kernel,by decide +kernel,rfl,by decide +kernel,by decide +kernel,by decide +kernel,by decide +kernel⟩
theorem cs_e4:CScope (defScope s_law_edges_behind) scE4 ["edges","deed","place","moved"] ["edge","deed","place"] [1,2] "edge":=
 ⟨rfl,by decide +kernel,by decide +kernel,by decide +kernel,by decide +kernel,rfl,by decide +kernel,by decide +kernel,by decide +kernel,by decide +kernel⟩
def mapE (g:Int->Int):V->V
 | .int c=>.int (g c)
 |y=>y
theorem map_ints (g:Int->Int) (es:List Int):(es.map V.int).map (mapE g)=(es.map g).map V.int:=by
 rw [List.map_map,List.map_map]
 rfl
theorem ok_edges {f:Addr}{fd:FuncData} (F:Fun K "_law_edges_behind" "_law_edges_behind" s_law_edges_behind f fd) (T:Txt K mg C):FnOk P w K mg base CX0 1 f fd ["edges","deed"] (spEdges K):=by
 refine F.ok sc_law_edges_behind (λvs H Q E h=>?_) (λcdv A outer s H vs Q E hr h=>?_)
 ·obtain ⟨l,d,es,dd,rfl,_⟩:=h
  rfl
 ·obtain ⟨l,d,es,dd,rfl,hl,hlen,hd,hok,k⟩:=h
  refine' ⟨_,pss_cons (ps_if ?a1 (pss_one (ps_ret ?a2)) pss_nil)
   (pss_cons (ps_if ?b1 (pss_one (ps_ret ?b2)) pss_nil)
   (pss_cons (ps_set (i:=2) sc_law_edges_behind.nd rfl (Or.inr rfl) (pe_ix ix_tup (pv 1) pe_int (λ_ _=>rfl)))
   (pss_cons (ps_if ?c1 (pss_cons (ps_setC (i:=3) sc_law_edges_behind.nd rfl (Or.inl rfl) cs_e3 rfl rfl rfl (pi_list (pv 0)) (λ_ _ _ _ _=>pf_nil) ?c2) (pss_one (ps_ret ?c3))) pss_nil)
   (pss_one (ps_ret ?d1))))),?rd⟩
  case a1=>exact pt_cmpR op_eq (pe_ix ix_tup (pv 1) pe_int (λ_ _=>rfl)) pe_str (nomark _)
  case a2=>
   refine' pe_op op_cat ?x ?y
   case x=>exact pv 0
   case y=>
    refine' pe_comp cs_e1 rfl rfl rfl ?y1 ?y2 ?y3
    case y1=>exact pi_tup (pe_slice sl_tup (pv 1) (po_some pe_int) (po_some pe_int))
    case y2=>exact λ_ _ _ _ _=>pf_one (pt_cmp (pc_notN (pv 0)))
    case y3=>exact λ_ _ _ _ _=>pv 0
  case b1=>exact pt_cmpR op_eq (pe_ix ix_tup (pv 1) pe_int (λ_ _=>rfl)) pe_str (nomark _)
  case b2=>
   refine' pe_comp cs_e2 rfl rfl rfl ?y1 ?y2 ?y3
   case y1=>exact pi_list (pv 0)
   case y2=>exact λ_ _ _ _ _=>pf_nil
   case y3=>exact λ_ _ _ _ _=>pe_op op_mul (pv 0) (pe_ix (ix_tupK (K':=K) rfl) (pv 1) pe_int (λ_ _=>rfl))
  case c1=>exact pt_cmpR op_eq (pe_ix ix_tup (pv 1) pe_int (λ_ _=>rfl)) pe_str (nomark _)
  case c2=>exact λ_ _ _ _ _=>pe_ifExp (pt_cmpR op_ge (pv 0) (pv 2) (nomark _)) (pe_op op_add (pv 0) (pe_ix (ix_tupK (K':=K) rfl) (pv 1) pe_int (λ_ _=>rfl))) (pv 0)
  case c3=>
   refine' pe_op op_cat ?x ?y
   case x=>exact pv 3
   case y=>exact pe_lst (pa_cons (pv 2) (pa_cons (pe_op op_add (pv 2) (pe_ix ix_tup (pv 1) pe_int (λ_ _=>rfl))) pa_nil))
  case d1=>
   refine' pe_op op_cat ?x ?y
   case y=>exact pe_lst (pa_cons (pv 2) pa_nil)
   case x=>
    refine' pe_comp cs_e4 rfl rfl rfl ?y1 ?y2 ?y3
    case y1=>exact pi_list (pv 0)
    case y2=>exact λ_ _ _ _ _=>pf_nil
    case y3=>exact λ_ _ _ _ _=>pe_callB (call_max2 rfl) rfl T.max boot_max (pa_cons (pe_callB (call_min2 rfl) rfl T.min boot_min (pa_cons (pv 0) (pa_cons (pv 2) pa_nil))) (pa_cons (pe_op op_sub (pv 0) (pe_ix (ix_tupK (K':=K) rfl) (pv 1) pe_int (λ_ _=>rfl))) pa_nil))
  case rd=>
  have lenE:(es.map V.int).length=es.length:=List.length_map ..
  cases dd with
  |put s e u=>
   refine ⟨_,rfl,d,_,_,_,rfl,rfl,hd,atN (j:=0) rfl rfl,rfl,_,rfl,iteP (by decide +kernel) ?_⟩
   refine ⟨_,rfl,_,rfl,_,rfl,_,rfl,d,_,rfl,hd,(λz=>absurd (show (1:Nat)=0 from z.1) (by decide)),λsl hsl=>⟨sl,rfl,⟨_,SqT.of upd_same⟩,?_⟩⟩
   refine comp_tup (js:=[]) (te:=tVar 0) (λy=>!decide (y=.non)) (λy=>y) (SqT.of (xs:=[optV s,optV e]) upd_same) ?g1 ?g2 ?g3 ?g4
   case g1=>show 2<=2000;decide
   case g2=>exact λx H2 Q' _ _ q'=>⟨_,rfl,_,rfl,q'⟩
   case g3=>exact λx H2 Q' _ _ _ q'=>⟨_,rfl,q'⟩
   case g4=>
   intro lc hlc
   have s1:Same H (upd H sl (.tup [optV s,optV e])):=Same.new hsl
   have s2:Same H (upd (upd H sl (.tup [optV s,optV e])) lc (.lst (([optV s,optV e].filter λy=>!decide (y=.non)).map λy=>y))):=Same.upd s1 (s1.free hlc)
   have eF:(([optV s,optV e].filter λy=>!decide (y=.non)).map λy=>y)=(s.toList++e.toList).map V.int:=by
    cases s<;>cases e<;>rfl
   refine ⟨l,lc,_,_,rfl,rfl,s2 _ _ hl,upd_same,?_,λl' hl'=>?_⟩
   ·rw [eF,lenE,List.length_map,List.length_append]
    refine smallL ?_
    cases s<;>cases e<;>simp<;>omega
   ·refine k l' _ (Same.upd s2 (s2.free hl')) (s2.free hl') ?_
    rw [upd_same,eF]
    show _=some (HO.lst ((es++(s.toList++e.toList)).map V.int))
    simp only [List.map_append]
  |opn p n=>
   refine ⟨_,rfl,d,_,_,_,rfl,rfl,hd,atN (j:=0) rfl rfl,rfl,_,rfl,iteN (by decide +kernel) ?_⟩
   refine ⟨_,rfl,d,_,_,_,rfl,rfl,hd,atN (j:=0) rfl rfl,rfl,_,rfl,iteN (by decide +kernel) ?_⟩
   refine ⟨_,rfl,d,_,_,_,rfl,rfl,hd,atN (j:=1) rfl rfl,?_⟩
   refine ⟨_,rfl,d,_,_,_,rfl,rfl,hd,atN (j:=0) rfl rfl,rfl,_,rfl,iteP (by decide +kernel) ?_⟩
   refine ⟨_,rfl,l,rfl,⟨_,SqL.of hl⟩,?_⟩
   refine comp_map (js:=[1,2]) (mapE λx=>if p<=x then x+n else x) (SqL.of hl) ?g1 ?g2 ?g3
   case g1=>rw [lenE];omega
   case g2=>
    intro y H2 Q' hy s' q'
    obtain ⟨c,_,rfl⟩:=List.mem_map.mp hy
    have q2:Q' (.int (if p<=c then c+n else c)) H2:=q'
    refine ⟨_,rfl,_,rfl,_,_,rfl,rfl,_,rfl,ite2 (λhc=>?_) (λhc=>?_)⟩
    ·rw [if_pos (of_decide_eq_true hc)] at q2
     exact ⟨_,rfl,_,rfl,d,_,_,_,rfl,rfl,Same.tup s' hd,atN (j:=2) rfl rfl,_,_,rfl,rfl,q2⟩
    ·rw [if_neg (of_decide_eq_false (Bool.eq_false_iff.mpr hc))] at q2
     exact ⟨_,rfl,q2⟩
   case g3=>
   intro mo hmo
   rw [map_ints]
   have s1:Same H (upd H mo (.lst ((es.map λx=>if p<=x then x+n else x).map V.int))):=Same.new hmo
   refine ⟨_,rfl,_,rfl,_,rfl,_,rfl,d,_,_,_,rfl,rfl,Same.tup s1 hd,atN (j:=2) rfl rfl,_,_,rfl,rfl,smallL (by show 2<=2000;decide),λl3 hl3=>⟨mo,l3,_,_,rfl,rfl,(by rw [upd_ne (ne_of_none (H:=upd H mo _) upd_same hl3)];exact upd_same),upd_same,?_,λl' hl'=>?_⟩⟩
   ·rw [List.length_map,List.length_map];exact smallL (by show es.length+2<=2000;omega)
   ·have s2:=Same.upd (o:=.lst [.int p,.int (p+n)]) s1 (s1.free hl3)
    refine k l' _ (Same.upd s2 (s2.free hl')) (s2.free hl') (upd_same.trans ?_)
    show _=some (HO.lst ((es.map _++[p,p+n]).map V.int))
    rw [List.map_append];rfl
  |cls p n=>
   refine ⟨_,rfl,d,_,_,_,rfl,rfl,hd,atN (j:=0) rfl rfl,rfl,_,rfl,iteN (by decide +kernel) ?_⟩
   refine ⟨_,rfl,d,_,_,_,rfl,rfl,hd,atN (j:=0) rfl rfl,rfl,_,rfl,iteN (by decide +kernel) ?_⟩
   refine ⟨_,rfl,d,_,_,_,rfl,rfl,hd,atN (j:=1) rfl rfl,?_⟩
   refine ⟨_,rfl,d,_,_,_,rfl,rfl,hd,atN (j:=0) rfl rfl,rfl,_,rfl,iteN (by decide +kernel) ?_⟩
   refine ⟨_,rfl,l,rfl,⟨_,SqL.of hl⟩,?_⟩
   refine comp_map (js:=[1,2]) (mapE λx=>if x-n > (if p<x then p else x) then x-n else (if p<x then p else x)) (SqL.of hl) ?g1 ?g2 ?g3
   case g1=>rw [lenE];omega
   case g2=>
    intro y H2 Q' hy s' q'
    obtain ⟨c,_,rfl⟩:=List.mem_map.mp hy
    exact ⟨_,rfl,_,rfl,_,_,rfl,_,rfl,_,rfl,d,_,_,_,rfl,rfl,Same.tup s' hd,atN (j:=2) rfl rfl,_,_,rfl,rfl,_,_,rfl,q'⟩
   case g3=>
   intro mo hmo
   rw [map_ints]
   have s1:Same H (upd H mo (.lst ((es.map λx=>if x-n > (if p<x then p else x) then x-n else (if p<x then p else x)).map V.int))):=Same.new hmo
   refine ⟨_,rfl,smallL (by show 1<=2000;decide),λl3 hl3=>⟨mo,l3,_,_,rfl,rfl,(by rw [upd_ne (ne_of_none (H:=upd H mo _) upd_same hl3)];exact upd_same),upd_same,?_,λl' hl'=>?_⟩⟩
   ·rw [List.length_map,List.length_map];exact smallL (by show es.length+1<=2000;omega)
   ·have s2:=Same.upd (o:=.lst [.int p]) s1 (s1.free hl3)
    refine k l' _ (Same.upd s2 (s2.free hl')) (s2.free hl') (upd_same.trans ?_)
    show _=some (HO.lst ((es.map _++[p]).map V.int))
    rw [List.map_append];rfl
  |str t=>
   have h1:=hok.1
   have h3:=hok.2
   refine ⟨_,rfl,d,_,_,_,rfl,rfl,hd,atN (j:=0) rfl rfl,rfl,_,rfl,iteN (by decide +kernel) ?_⟩
   refine ⟨_,rfl,d,_,_,_,rfl,rfl,hd,atN (j:=0) rfl rfl,rfl,_,rfl,iteP (by decide +kernel) ?_⟩
   refine ⟨_,rfl,l,rfl,⟨_,SqL.of hl⟩,?_⟩
   refine comp_map (js:=[1]) (mapE λx=>x * t) (SqL.of hl) ?g1 ?g2 ?g3
   case g1=>rw [lenE];omega
   case g2=>
    intro y H2 Q' hy s' q'
    obtain ⟨c,_,rfl⟩:=List.mem_map.mp hy
    exact ⟨_,rfl,_,rfl,d,_,_,_,rfl,rfl,Same.tup s' hd,atN (j:=1) rfl rfl,_,_,rfl,rfl,.inr ⟨by omega,by omega⟩,q'⟩
   case g3=>
   intro mo hmo
   rw [map_ints]
   exact k mo _ (Same.new hmo) hmo upd_same
end
section
variable {P:Program}{w:World}{K:PySem.W.Frag}{mg:Str->Option Value}{base:Heap}{C:Addr} [HoldKind]
def spEdgesAll (K:PySem.W.Frag):Sp:=λvs H Q _=>∃ (r:Addr) (qs:List (Addr×Deed)),vs=[.ref r]/\DeedsAt K H r qs/\qs.length<=31/\
 ∀ (l:Addr) (H':Hp) (τ:List Int),Same H H'->H l=none->H' l=some (.lst (τ.map V.int))->τ.Pairwise (· < ·)->(∀ x,x∈τ ↔ x∈edgesD qs)->τ.length<=62->Q (.ref l) H'
theorem ok_alledges {f:Addr}{fd:FuncData} (F:Fun K "_law_edges" "_law_edges" s_law_edges f fd) (T:Txt K mg C) (DE:Def P w K mg base "_law_edges_behind" ["edges","deed"] 1 (spEdges K)):FnOk P w K mg base CX0 2 f fd ["deeds"] (spEdgesAll K):=by
 refine F.ok sc_law_edges (λvs H Q E h=>?_) (λcdv A outer s H vs Q E hr h=>?_)
 ·obtain ⟨r,qs,rfl,_⟩:=h
  rfl
 ·obtain ⟨r,qs,rfl,hD,hlen,k⟩:=h
  refine' ⟨_,pss_cons (ps_set (i:=1) sc_law_edges.nd rfl (Or.inl rfl) (pe_lst pa_nil))
   (pss_cons (ps_for PassesOwn.never rfl (pi_list (pv 0)) (pg_name (i:=2) sc_law_edges.nd rfl (Or.inl rfl)) (pss_one (ps_set (i:=1) sc_law_edges.nd rfl (Or.inl rfl) ?a1)))
   (pss_one (ps_ret ?a2))),?rd⟩
  case a1=>exact pe_callD DE hr rfl (pa_cons (pv 1) (pa_cons (pv 2) pa_nil))
  case a2=>exact pe_sortset rfl rfl T.sorted rfl T.set (pv 1)
  case rd=>
  have hok:∀ q∈qs,q.2.Ok:=λq hq=>(hD.2 q hq).2
  refine ⟨Nat.zero_le _,λl0 hl0=>?_⟩
  have s0:Same H (upd H l0 (.lst [])):=Same.new hl0
  refine ⟨_,rfl,r,rfl,⟨_,s0.seq hD.1⟩,?_⟩
  refine for_list (K:=K) (a:=r) (xs:=qs.map λq=>V.ref q.1) (λi σ H'=>∃ (e:Addr) (x2:Option V),σ=[some (.ref r),some (.ref e),x2]/\Same H H'/\H' e=some (.lst ((edgesD (qs.take i)).map V.int))) ?_ (λi σ H' _ ⟨_,_,_,s1,_⟩=>s1.seq hD.1) ?_ ?_
  ·exact ⟨l0,none,rfl,s0,upd_same⟩
  ·rintro i v σ H' hi ⟨e,x2,rfl,s1,ge⟩
   have hil:i<qs.length:=by
    have:=(List.getElem?_eq_some_iff.mp hi).1
    rw [List.length_map] at this
    exact this
   obtain ⟨q,hq⟩:∃ q,qs[i]?=some q:=⟨_,List.getElem?_eq_getElem hil⟩
   obtain rfl:V.ref q.1=v:=by
    rw [List.getElem?_map,hq] at hi
    exact Option.some.inj hi
   have hD1:=hD.same s1
   obtain ⟨hd,hqo⟩:=hD1.2 q (List.mem_of_getElem? hq)
   have hle:(edgesD (qs.take i)).length<=62:=by
    have:=(row_const (qs.take i) λz hz=>hok z (List.mem_of_mem_take hz)).2.2
    rw [List.length_take] at this
    omega
   refine ⟨_,rfl,_,rfl,e,q.1,edgesD (qs.take i),q.2,rfl,ge,by omega,hd,hqo,λl' H2 s2 n2 g2=>?_⟩
   refine ⟨l',_,rfl,s1.trans s2,?_⟩
   rw [List.take_add_one,hq]
   show H2 l'=some (.lst ((edgesD (qs.take i++[q])).map V.int))
   rw [edgesD_snoc]
   exact g2
  ·rintro σ H' ⟨e,x2,rfl,s1,ge⟩
   rw [List.take_of_length_le (by rw [List.length_map];exact Nat.le_refl _)] at ge
   have hle:=(row_const qs hok).2.2
   have hdd:=ddup_le (edgesD qs)
   refine ⟨_,rfl,e,edgesD qs,rfl,SqL.of ge,by omega,by omega,λl τ hl hτ hm hτl=>?_⟩
   exact k l _ τ (Same.upd s1 (s1.free hl)) (s1.free hl) upd_same hτ hm (by omega)
end
section
variable {P:Program}{w:World}{K:PySem.W.Frag}{mg:Str->Option Value}{base:Heap}{C:Addr} [HoldKind]
def spValue (K:PySem.W.Frag):Sp:=λvs H Q _=>∃ (r:Addr) (x:Int) (qs:List (Addr×Deed)),vs=[.ref r,.int x]/\DeedsAt K H r qs/\Q (valD qs x) H
theorem ok_value {f:Addr}{fd:FuncData} (F:Fun K "_law_value" "_law_value" s_law_value f fd) (T:Txt K mg C):FnOk P w K mg base CX0 1 f fd ["deeds","place"] (spValue K):=by
 refine F.ok sc_law_value (λvs H Q E h=>?_) (λcdv A outer s H vs Q E hr h=>?_)
 ·obtain ⟨r,x,qs,rfl,_⟩:=h
  rfl
 ·obtain ⟨r,x,qs,rfl,⟨hR,hD⟩,k⟩:=h
  refine' ⟨_,pss_cons (ps_for PassesOwn.never rfl (pi_rev rfl T.reversed (pa_cons (pv 0) pa_nil)) (pg_name (i:=2) sc_law_value.nd rfl (Or.inl rfl))
   (pss_one (ps_if ?a1 (pss_cons (ps_set (i:=3) sc_law_value.nd rfl (Or.inl rfl) ?a2) (pss_one (ps_if ?a3 (pss_one (ps_ret ?a4)) pss_nil)))
    (pss_one (ps_if ?b1 (pss_one (ps_if ?b2 (pss_one (ps_set (i:=1) sc_law_value.nd rfl (Or.inl rfl) ?b3)) (pss_one (ps_if ?b4 (pss_one (ps_ret pe_non)) pss_nil))))
     (pss_one (ps_if ?c1 (pss_one (ps_if ?c2 (pss_one (ps_set (i:=1) sc_law_value.nd rfl (Or.inl rfl) ?c3)) pss_nil))
      (pss_one (ps_set (i:=1) sc_law_value.nd rfl (Or.inl rfl) ?d1)))))))))
   (pss_one (ps_ret pe_non)),?rd⟩
  case a1=>exact pt_cmpR op_eq (pe_ix ix_tup (pv 2) pe_int (λ_ _=>rfl)) pe_str (nomark _)
  case a2=>exact pe_or (pe_cmp (pc_isN (pe_ix ix_tup (pv 2) pe_int (λ_ _=>rfl)))) (pe_one (pe_cmpR op_le (pe_ix ix_tup (pv 2) pe_int (λ_ _=>rfl)) (pv 1) (nomark _)))
  case a3=>
   refine' PW.pt (pw_and (pt_val (pv 3)) (pw_and1 ?x))
   case x=>
    refine' PW.pt (pw_or ?y (pw_or1 ?z))
    case y=>exact pt_cmp (pc_isN (pe_ix ix_tup (pv 2) pe_int (λ_ _=>rfl)))
    case z=>exact pt_cmpR op_lt (pv 1) (pe_ix ix_tup (pv 2) pe_int (λ_ _=>rfl)) (nomark _)
  case a4=>exact pe_ix ix_tup (pv 2) pe_int (λ_ _=>rfl)
  case b1=>exact pt_cmpR op_eq (pe_ix ix_tup (pv 2) pe_int (λ_ _=>rfl)) pe_str (nomark _)
  case b2=>exact pt_cmpR op_ge (pv 1) (pe_op op_add (pe_ix ix_tup (pv 2) pe_int (λ_ _=>rfl)) (pe_ix ix_tup (pv 2) pe_int (λ_ _=>rfl))) (nomark _)
  case b3=>exact pe_op op_sub (pv 1) (pe_ix ix_tup (pv 2) pe_int (λ_ _=>rfl))
  case b4=>exact pt_cmpR op_ge (pv 1) (pe_ix ix_tup (pv 2) pe_int (λ_ _=>rfl)) (nomark _)
  case c1=>exact pt_cmpR op_eq (pe_ix ix_tup (pv 2) pe_int (λ_ _=>rfl)) pe_str (nomark _)
  case c2=>exact pt_cmpR op_ge (pv 1) (pe_ix ix_tup (pv 2) pe_int (λ_ _=>rfl)) (nomark _)
  case c3=>exact pe_op op_add (pv 1) (pe_ix ix_tup (pv 2) pe_int (λ_ _=>rfl))
  case d1=>exact pe_op op_fdiv (pv 1) (pe_ix ix_tup (pv 2) pe_int (λ_ _=>rfl))
  case rd=>
  have lenR:(qs.map λq=>V.ref q.1).length=qs.length:=List.length_map ..
  refine ⟨_,rfl,r,_,rfl,hR,?_⟩
  refine for_rev (K:=K) (a:=r) (xs:=qs.map λq=>V.ref q.1) (λi σ H'=>H'=H/\∃ (y:Int) (x2 x3:Option V),σ=[some (.ref r),some (.int y),x2,x3]/\valD qs x=valD (qs.take (qs.length-i)) y) ?_ (λi σ H' _ ⟨e,_⟩=>by rw [e];exact hR) ?_ ?_
  ·exact ⟨rfl,x,none,none,rfl,by rw [Nat.sub_zero,List.take_of_length_le (Nat.le_refl _)]⟩
  ·rintro i v σ H' hi ⟨rfl,y,x2,x3,rfl,hval⟩
   have hil:i<qs.length:=by
    have:=(List.getElem?_eq_some_iff.mp hi).1
    rw [List.length_reverse,lenR] at this
    exact this
   obtain ⟨q,hq⟩:∃ q,qs[qs.length - 1-i]?=some q:=⟨_,List.getElem?_eq_getElem (by omega)⟩
   obtain rfl:V.ref q.1=v:=by
    rw [List.getElem?_reverse (by rw [lenR];exact hil),lenR,List.getElem?_map,hq] at hi
    exact Option.some.inj hi
   obtain ⟨hd,hok⟩:=hD q (List.mem_of_getElem? hq)
   have htk:qs.take (qs.length-i)=qs.take (qs.length-(i+1))++[q]:=by
    rw [show qs.length-i=(qs.length-(i+1))+1 by omega,List.take_add_one,show qs.length-(i+1)=qs.length - 1-i by omega,hq];rfl
   rw [htk,valD_snoc] at hval
   generalize valD (qs.take (qs.length-(i+1)))=g at hval ⊢
   obtain ⟨d,dd⟩:=q
   simp only at hd hok hval ⊢
   cases dd with
   |put s e u=>
    refine ⟨_,rfl,d,_,_,_,rfl,rfl,hd,atN (j:=0) rfl rfl,rfl,_,rfl,iteP (by decide +kernel) ?_⟩
    have hv:valD qs x=putF' s e u g y:=hval
    unfold putF' at hv
    have hin:(∀ a,s=some a->a<=y)->(∀ b,e=some b->y<b)->Q u H':=λh1 h2=>by
     rw [if_pos ⟨h1,h2⟩] at hv
     rw [<-hv];exact k
    have hout:¬ ((∀ a,s=some a->a<=y)/\∀ b,e=some b->y<b)->valD qs x=g y:=λh1=>by
     rw [if_neg h1] at hv
     exact hv
    cases s with
    |none=>
     refine ⟨_,rfl,d,_,_,_,rfl,rfl,hd,atN (j:=1) rfl rfl,true,rfl,iteT ?_⟩
     cases e with
     |none=>exact ⟨_,rfl,true,rfl,iteT ⟨_,rfl,d,_,_,_,rfl,rfl,hd,atN (j:=2) rfl rfl,true,rfl,iteT (iteT ⟨_,rfl,d,_,_,_,rfl,rfl,hd,atN (j:=3) rfl rfl,hin (λ_ z=>nomatch z) λ_ z=>nomatch z⟩)⟩⟩
     |some b=>
      refine ⟨_,rfl,true,rfl,iteT ⟨_,rfl,d,_,_,_,rfl,rfl,hd,atN (j:=2) rfl rfl,false,rfl,iteF ⟨_,rfl,_,rfl,d,_,_,_,rfl,rfl,hd,atN (j:=2) rfl rfl,_,_,rfl,rfl,_,rfl,ite2 (λhc=>?_) (λhc=>?_)⟩⟩⟩
      ·exact ⟨_,rfl,d,_,_,_,rfl,rfl,hd,atN (j:=3) rfl rfl,hin (λ_ z=>nomatch z) λb' z=>by cases z;exact of_decide_eq_true hc⟩
      ·exact ⟨rfl,y,_,_,rfl,hout λz=>hc (decide_eq_true (z.2 b rfl))⟩
    |some a=>
     refine ⟨_,rfl,d,_,_,_,rfl,rfl,hd,atN (j:=1) rfl rfl,false,rfl,iteF ⟨_,rfl,d,_,_,_,rfl,rfl,hd,atN (j:=1) rfl rfl,_,rfl,_,_,rfl,rfl,?_⟩⟩
     cases e with
     |none=>
      refine ⟨_,rfl,_,rfl,ite2 (λhc=>?_) (λhc=>?_)⟩
      ·exact ⟨_,rfl,d,_,_,_,rfl,rfl,hd,atN (j:=2) rfl rfl,true,rfl,iteT (iteT ⟨_,rfl,d,_,_,_,rfl,rfl,hd,atN (j:=3) rfl rfl,hin (λa' z=>by cases z;exact of_decide_eq_true hc) λ_ z=>nomatch z⟩)⟩
      ·exact iteF ⟨rfl,y,_,_,rfl,hout λz=>hc (decide_eq_true (z.1 a rfl))⟩
     |some b=>
      refine ⟨_,rfl,_,rfl,ite2 (λhc=>?_) (λhc=>?_)⟩
      ·refine ⟨_,rfl,d,_,_,_,rfl,rfl,hd,atN (j:=2) rfl rfl,false,rfl,iteF ⟨_,rfl,_,rfl,d,_,_,_,rfl,rfl,hd,atN (j:=2) rfl rfl,_,_,rfl,rfl,_,rfl,ite2 (λhc2=>?_) (λhc2=>?_)⟩⟩
       ·exact ⟨_,rfl,d,_,_,_,rfl,rfl,hd,atN (j:=3) rfl rfl,hin (λa' z=>by cases z;exact of_decide_eq_true hc) λb' z=>by cases z;exact of_decide_eq_true hc2⟩
       ·exact ⟨rfl,y,_,_,rfl,hout λz=>hc2 (decide_eq_true (z.2 b rfl))⟩
      ·exact iteF ⟨rfl,y,_,_,rfl,hout λz=>hc (decide_eq_true (z.1 a rfl))⟩
   |opn p m=>
    have hv:valD qs x=openF .non p m g y:=hval
    have hm:0<=m:=hok
    unfold openF at hv
    refine ⟨_,rfl,d,_,_,_,rfl,rfl,hd,atN (j:=0) rfl rfl,rfl,_,rfl,iteN (by decide +kernel) ?_⟩
    refine ⟨_,rfl,d,_,_,_,rfl,rfl,hd,atN (j:=0) rfl rfl,rfl,_,rfl,iteP (by decide +kernel) ?_⟩
    refine ⟨_,rfl,_,rfl,d,_,_,_,rfl,rfl,hd,atN (j:=1) rfl rfl,_,rfl,d,_,_,_,rfl,rfl,hd,atN (j:=2) rfl rfl,_,_,rfl,rfl,_,_,rfl,rfl,_,rfl,ite2 (λhc=>?_) (λhc=>?_)⟩
    ·have hc':p+m<=y:=of_decide_eq_true hc
     rw [if_neg (by omega),if_neg (by omega)] at hv
     exact ⟨_,rfl,_,rfl,d,_,_,_,rfl,rfl,hd,atN (j:=2) rfl rfl,_,_,rfl,rfl,rfl,y-m,_,_,rfl,hv⟩
    ·have hc':¬ p+m<=y:=λz=>hc (decide_eq_true z)
     refine ⟨_,rfl,_,rfl,d,_,_,_,rfl,rfl,hd,atN (j:=1) rfl rfl,_,_,rfl,rfl,_,rfl,ite2 (λhc2=>?_) (λhc2=>?_)⟩
     ·have hc3:p<=y:=of_decide_eq_true hc2
      rw [if_neg (by omega),if_pos (by omega)] at hv
      rw [hv] at k
      exact k
     ·have hc3:¬ p<=y:=λz=>hc2 (decide_eq_true z)
      rw [if_pos (by omega)] at hv
      exact ⟨rfl,y,_,_,rfl,hv⟩
   |cls p m=>
    have hv:valD qs x=closeF p m g y:=hval
    unfold closeF at hv
    refine ⟨_,rfl,d,_,_,_,rfl,rfl,hd,atN (j:=0) rfl rfl,rfl,_,rfl,iteN (by decide +kernel) ?_⟩
    refine ⟨_,rfl,d,_,_,_,rfl,rfl,hd,atN (j:=0) rfl rfl,rfl,_,rfl,iteN (by decide +kernel) ?_⟩
    refine ⟨_,rfl,d,_,_,_,rfl,rfl,hd,atN (j:=0) rfl rfl,rfl,_,rfl,iteP (by decide +kernel) ?_⟩
    refine ⟨_,rfl,_,rfl,d,_,_,_,rfl,rfl,hd,atN (j:=1) rfl rfl,_,_,rfl,rfl,_,rfl,ite2 (λhc=>?_) (λhc=>?_)⟩
    ·have hc':p<=y:=of_decide_eq_true hc
     rw [if_neg (by omega)] at hv
     exact ⟨_,rfl,_,rfl,d,_,_,_,rfl,rfl,hd,atN (j:=2) rfl rfl,_,_,rfl,rfl,rfl,y+m,_,_,rfl,hv⟩
    ·have hc':¬ p<=y:=λz=>hc (decide_eq_true z)
     rw [if_pos (by omega)] at hv
     exact ⟨rfl,y,_,_,rfl,hv⟩
   |str t=>
    have h1:=hok.1
    have h3:=hok.2
    refine ⟨_,rfl,d,_,_,_,rfl,rfl,hd,atN (j:=0) rfl rfl,rfl,_,rfl,iteN (by decide +kernel) ?_⟩
    refine ⟨_,rfl,d,_,_,_,rfl,rfl,hd,atN (j:=0) rfl rfl,rfl,_,rfl,iteN (by decide +kernel) ?_⟩
    refine ⟨_,rfl,d,_,_,_,rfl,rfl,hd,atN (j:=0) rfl rfl,rfl,_,rfl,iteN (by decide +kernel) ?_⟩
    exact ⟨_,rfl,_,rfl,d,_,_,_,rfl,rfl,hd,atN (j:=1) rfl rfl,_,_,rfl,rfl,⟨by omega,by omega⟩,rfl,y / t,_,_,rfl,hval⟩
  ·rintro σ H' ⟨rfl,y,x2,x3,rfl,hval⟩
   have e:qs.take (qs.length-(qs.map λq=>V.ref q.1).length)=[]:=by rw [lenR,Nat.sub_self];rfl
   rw [e] at hval
   have k':Q (valD [] y) H':=hval ▸ k
   exact k'
end
section
variable {P:Program}{w:World}{K:PySem.W.Frag}{mg:Str->Option Value}{base:Heap}{C:Addr} [HoldKind]
def spDue (K:PySem.W.Frag):Sp:=λvs H Q _=>∃ (r:Addr) (qs:List (Addr×Deed)),vs=[.ref r]/\DeedsAt K H r qs/\qs.length<=31/\
 ∀ (du:Addr) (H':Hp) (v':V) (ps:List (Int×V)),Same H H'->ToldNew H H' du v' ps->Form v' ps->ps.length<=63->(∀ x,atL v' ps x=valD qs x)->Q (.ref du) H'
theorem ok_due {f:Addr}{fd:FuncData} (F:Fun K "_law_due" "_law_due" s_law_due f fd) (T:Txt K mg C) (DE:Def P w K mg base "_law_edges" ["deeds"] 2 (spEdgesAll K)) (DV:Def P w K mg base "_law_value" ["deeds","place"] 1 (spValue K)) :
  FnOk P w K mg base CX0 3 f fd ["deeds"] (spDue K):=by
 refine F.ok sc_law_due (λvs H Q E h=>?_) (λcdv A outer s H vs Q E hr h=>?_)
 ·obtain ⟨r,qs,rfl,_⟩:=h
  rfl
 ·obtain ⟨r,qs,rfl,hD,hlen,k⟩:=h
  have hr1:Room 1 _:=hr.mono (by decide)
  have hu:=hu16 hr
  refine' ⟨_,pss_cons (ps_set (i:=1) sc_law_due.nd rfl (Or.inl rfl) (pe_callD DE hr rfl (pa_cons (pv 0) pa_nil)))
   (pss_cons (ps_if ?d2 (pss_one (ps_ret ?d3)) pss_nil)
   (pss_cons (ps_set (i:=2) sc_law_due.nd rfl (Or.inl rfl) (pe_lst pa_nil))
   (pss_cons (ps_set (i:=3) sc_law_due.nd rfl (Or.inl rfl) ?e1)
   (pss_cons (ps_for PassesOwn.never rfl (pi_list (pv 1)) (pg_name (i:=4) sc_law_due.nd rfl (Or.inl rfl))
    (pss_cons (ps_set (i:=5) sc_law_due.nd rfl (Or.inl rfl) ?f1)
    (pss_one (ps_if ?f2 (pss_cons (ps_expr ?f3) (pss_one (ps_expr ?f4))) pss_nil))))
   (pss_one (ps_ret (pe_tup (pa_cons (pv 2) (pa_cons (pv 3) pa_nil))))))))),?rd⟩
  case d2=>exact pt_cmpR (op_eqD hu) (pv 1) (pe_lst pa_nil) (nomark _)
  case d3=>exact pe_tup (pa_cons (pe_lst pa_nil) (pa_cons (pe_lst (pa_cons (pe_callD DV hr1 rfl (pa_cons (pv 0) (pa_cons pe_int pa_nil))) pa_nil)) pa_nil))
  case e1=>exact pe_lst (pa_cons (pe_callD DV hr1 rfl (pa_cons (pv 0) (pa_cons (pe_op op_sub (pe_ix ix_list (pv 1) pe_int (λ_ _=>rfl)) pe_int) pa_nil))) pa_nil)
  case f1=>exact pe_callD DV hr1 rfl (pa_cons (pv 0) (pa_cons (pv 4) pa_nil))
  case f2=>exact pt_cmpR op_ne (pv 5) (pe_ix ix_list (pv 3) (pe_un un_neg pe_int) (λ_ _=>rfl)) (nomark _)
  case f3=>exact pe_bm PySem.F.plainAttrs_list PySem.F.slot_list_append PySem.F.type_list_append mt_append (pv 2) (pa_cons (pv 4) pa_nil)
  case f4=>exact pe_bm PySem.F.plainAttrs_list PySem.F.slot_list_append PySem.F.type_list_append mt_append (pv 3) (pa_cons (pv 5) pa_nil)
  case rd=>
  obtain ⟨hcon,hhv,_⟩:=row_const qs λq hq=>(hD.2 q hq).2
  refine ⟨_,rfl,r,qs,rfl,hD,hlen,λed H2 τ s3 ned ge hτ hm hτl=>?_⟩
  refine ⟨_,rfl,Nat.zero_le _,λem hem=>?_⟩
  have s4:Same H (upd H2 em (.lst [])):=Same.upd s3 (s3.free hem)
  have ge4:(upd H2 em (.lst [])) ed=some (.lst (τ.map V.int)):=by rw [upd_ne (ne_of_none ge hem)];exact ge
  have hE:=eqd_flat (K:=K) (SqL.of ge4) (SqL.of (upd_same (H:=H2) (a:=em) (o:=.lst []))) ints_flat (λy hy=>nomatch hy)
  generalize upd H2 em (.lst [])=H3 at s4 ge4 hE ⊢
  obtain ⟨hF,hat⟩:=edges_form hcon hhv hτ hm
  cases τ with
  |nil=>
   refine ⟨1,_,by decide,hE,true,rfl,iteT ?_⟩
   refine ⟨Nat.zero_le _,λcu hcu=>?_⟩
   have s5:Same H3 (upd H3 cu (.lst [])):=Same.new hcu
   have s05:=s4.trans s5
   refine ⟨_,rfl,r,0,qs,rfl,hD.same s05,smallL (by show 1<=2000;decide),λho hho=>⟨smallL (by show 2<=2000;decide),λdu hdu=>?_⟩⟩
   have hho3:H3 ho=none:=s5.free hho
   have nch:cu≠ho:=λe=>by rw [<-e,upd_same] at hho;cases hho
   have s6:Same H3 (upd (upd H3 cu (.lst [])) ho (.lst [valD qs 0])):=Same.upd s5 hho3
   have gcu:(upd (upd H3 cu (.lst [])) ho (.lst [valD qs 0])) cu=some (.lst []):=by rw [upd_ne nch,upd_same]
   have gho:(upd (upd H3 cu (.lst [])) ho (.lst [valD qs 0])) ho=some (.lst [valD qs 0]):=upd_same
   generalize upd (upd H3 cu (.lst [])) ho (.lst [valD qs 0])=H4 at s6 gcu gho hdu ⊢
   refine k du _ (valD qs 0) [] (Same.upd (s4.trans s6) (s4.free (s6.free hdu))) ⟨cu,ho,s4.free (s6.free hdu),s4.free hcu,s4.free hho3,nch,upd_same,?_,?_⟩ hF (Nat.zero_le _) hat
   ·rw [upd_ne (ne_of_none gcu hdu)];exact gcu
   ·rw [upd_ne (ne_of_none gho hdu)];exact gho
  |cons z0 τ0=>
  have e0:eqVs ((z0::τ0).map V.int) []=false:=by simp [eqVs]
  rw [e0] at hE
  refine ⟨1,_,by decide,hE,false,rfl,iteF ?_⟩
  have hw:valD qs (firstOf (z0::τ0))=valD qs (z0 - 1):=rfl
  generalize hττ:z0::τ0=τ at ge4 hτ hm hτl hF hat hw
  have g0:(τ.map V.int)[0]?=some (V.int z0):=by rw [<-hττ];rfl
  clear hττ ge hE e0
  refine ⟨Nat.zero_le _,λcu hcu=>?_⟩
  have s5:Same H3 (upd H3 cu (.lst [])):=Same.new hcu
  have s05:Same H (upd H3 cu (.lst [])):=s4.trans s5
  refine ⟨_,rfl,_,rfl,ed,_,_,.int z0,rfl,rfl,SqL.of (s5 _ _ ge4),atN (j:=0) rfl g0,_,_,rfl,rfl,r,z0 - 1,qs,rfl,hD.same s05,smallL (by show 1<=2000;decide),λho hho=>?_⟩
  rw [<-hw]
  have hcu0:H cu=none:=s4.free hcu
  have hho3:H3 ho=none:=s5.free hho
  have hho0:H ho=none:=s4.free hho3
  have nch:cu≠ho:=λe=>by rw [<-e,upd_same] at hho;cases hho
  have hwv:HV (valD qs (firstOf τ)):=hhv _
  clear hw
  generalize valD qs (firstOf τ)=w at hF hat hwv ⊢
  have s6:Same H3 (upd (upd H3 cu (.lst [])) ho (.lst [w])):=Same.upd s5 hho3
  have nce:cu≠ed:=(ne_of_none ge4 hcu).symm
  have nhe:ho≠ed:=(ne_of_none ge4 hho3).symm
  refine ⟨_,rfl,ed,rfl,⟨_,SqL.of (s6 _ _ ge4)⟩,?_⟩
  refine for_list (K:=K) (a:=ed) (xs:=τ.map V.int) (λi σ H4=>∃ (kp:List (Int×V)) (x6 x7:Option V),σ=[some (.ref r),some (.ref ed),some (.ref cu),some (.ref ho),x6,x7]/\Same H H4/\
   H4 ed=some (.lst (τ.map V.int))/\H4 cu=some (.lst (cutsV kp))/\H4 ho=some (.lst (holdsV w kp))/\Holds w kp/\kp.length<=i/\kp++formE (valD qs) (lastH w kp) (τ.drop i)=formE (valD qs) w τ) ?_ (λi σ H2 _ ⟨_,_,_,_,_,h,_⟩=>SqL.of h) ?_ ?_
  ·exact ⟨[],none,none,rfl,s4.trans s6,s6 _ _ ge4,by rw [upd_ne nch,upd_same];rfl,upd_same,⟨hwv,λq hq=>nomatch hq⟩,Nat.le_refl _,rfl⟩
  ·rintro i y σ H4 hi ⟨kp,x6,x7,rfl,s7,h3s,h3c,h3h,hkp,hki,hform⟩
   have hil:=(List.getElem?_eq_some_iff.mp hi).1
   rw [List.length_map] at hil
   obtain ⟨z,hz⟩:∃ z,τ[i]?=some z:=⟨_,List.getElem?_eq_getElem hil⟩
   obtain rfl:V.int z=y:=by
    rw [List.getElem?_map,hz] at hi
    exact Option.some.inj hi
   have hdrop:τ.drop i=z::τ.drop (i+1):=by
    rw [List.drop_eq_getElem_cons hil]
    congr 1
    have:=List.getElem?_eq_getElem hil
    rw [hz] at this
    exact (Option.some.inj this).symm
   refine ⟨_,rfl,_,rfl,r,z,qs,rfl,hD.same s7,?_⟩
   have hat:HV (valD qs z):=hhv z
   refine ⟨_,rfl,_,rfl,_,rfl,ho,_,_,_,rfl,rfl,SqL.of h3h,atI_lastH w kp,hat.scal (lastH_hv hkp),_,rfl,ite2 (λhc=>?_) (λhc=>?_)⟩
   ·have hne:valD qs z≠lastH w kp:=λe=>by
     rw [decide_eq_true e] at hc
     cases hc
    refine ⟨_,rfl,.inl ⟨rfl,_,SqL.of h3c⟩,_,rfl,cu,_,_,rfl,rfl,h3c,small (by rw [List.length_map];omega),?_⟩
    have h4h:(upd H4 cu (.lst (cutsV kp++[.int z]))) ho=some (.lst (holdsV w kp)):=by rw [upd_ne nch.symm];exact h3h
    refine ⟨_,rfl,.inl ⟨rfl,_,SqL.of h4h⟩,_,rfl,ho,_,_,rfl,rfl,h4h,small (by show (kp.map _).length+1<=2000;rw [List.length_map];omega),?_⟩
    refine ⟨kp++[(z,valD qs z)],_,_,rfl,Same.upd (Same.upd s7 hcu0) hho0,?_,?_,?_,⟨hkp.h0,λq hq=>?_⟩,?_,?_⟩
    ·rw [upd_ne nhe.symm,upd_ne nce.symm];exact h3s
    ·rw [upd_ne nch,upd_same]
     show _=some (HO.lst ((kp++[(z,valD qs z)]).map _))
     rw [List.map_append];rfl
    ·rw [upd_same]
     show _=some (HO.lst (w::(kp++[(z,valD qs z)]).map _))
     rw [List.map_append];rfl
    ·rcases List.mem_append.mp hq with z1|z1
     ·exact hkp.hs q z1
     ·rw [List.mem_singleton.mp z1];exact hat
    ·rw [List.length_append,List.length_singleton];omega
    ·rw [lastH_snoc,<-hform,hdrop]
     show _=kp++(if valD qs z≠lastH w kp then (z,valD qs z)::formE (valD qs) (valD qs z) (τ.drop (i+1)) else _)
     rw [if_pos hne,List.append_assoc];rfl
   ·refine ⟨kp,_,_,rfl,s7,h3s,h3c,h3h,hkp,by omega,?_⟩
    rw [<-hform,hdrop]
    show _=kp++(if valD qs z≠lastH w kp then _ else formE (valD qs) (lastH w kp) (τ.drop (i+1)))
    rw [if_neg]
    intro z1
    refine hc ?_
    rw [decide_eq_false z1];rfl
  ·rintro σ H4 ⟨kp,x6,x7,rfl,s7,h3s,h3c,h3h,hkp,hki,hform⟩
   have e:τ.drop (τ.map V.int).length=[]:=List.drop_eq_nil_of_le (by rw [List.length_map];exact Nat.le_refl _)
   rw [e] at hform
   have e2:formE (valD qs) w τ=kp:=by
    rw [<-hform]
    show kp++[]=kp
    rw [List.append_nil]
   rw [e2] at hF hat
   refine ⟨_,rfl,_,rfl,smallL (by show 2<=2000;decide),λdu hdu=>?_⟩
   refine k du _ w kp (Same.upd s7 (s7.free hdu)) ⟨cu,ho,s7.free hdu,hcu0,hho0,nch,upd_same,?_,?_⟩ hF (by rw [List.length_map] at hki;omega) hat
   ·rw [upd_ne (ne_of_none h3c hdu)];exact h3c
   ·rw [upd_ne (ne_of_none h3h hdu)];exact h3h
end
section
variable {P:Program}{w:World}{K:PySem.W.Frag}{mg:Str->Option Value}{base:Heap}{C:Addr} [HoldKind]
abbrev Run:=Int×Int×V
def RunsFrom (f:Int->V) (b:Int):Int->Option V->List Run->Prop
 |a,_,[]=>a=b
 |a,w,r::rs=>r.1=a/\a<r.2.1/\r.2.1<=b/\(∀ z,a<=z->z<r.2.1->f z=r.2.2)/\w≠some r.2.2/\RunsFrom f b r.2.1 (some r.2.2) rs
theorem RunsFrom.no {f:Int->V}{b e:Int}{v:V}{rs:List Run} (h:RunsFrom f b e (some v) rs) (hb:e<b):f e≠v:=by
 cases rs with
 |nil=>
  have:e=b:=h
  omega
 |cons r rs=>
  obtain ⟨h1,h2,h3,h4,h5,_⟩:=h
  intro z
  exact h5 (by rw [<-h4 e (Int.le_refl _) h2,z])
theorem RunsFrom.unique {f:Int->V}{b:Int}:∀ {rs rs':List Run}{a:Int}{w w':Option V},RunsFrom f b a w rs->RunsFrom f b a w' rs'->rs=rs'
 | [],[],_,_,_,_,_=>rfl
 | [],r::rs,a,w,w',h,h'=>by
  obtain ⟨h1,h2,h3,_⟩:=h'
  have:a=b:=h
  omega
 |r::rs,[],a,w,w',h,h'=>by
  obtain ⟨h1,h2,h3,_⟩:=h
  have:a=b:=h'
  omega
 |r::rs,r'::rs',a,w,w',h,h'=>by
  obtain ⟨h1,h2,h3,h4,h5,h6⟩:=h
  obtain ⟨k1,k2,k3,k4,k5,k6⟩:=h'
  have ev:r.2.2=r'.2.2:=(h4 a (Int.le_refl _) h2).symm.trans (k4 a (Int.le_refl _) k2)
  have ee:r.2.1=r'.2.1:=by
   rcases Int.lt_trichotomy r.2.1 r'.2.1 with z|z|z
   ·exact absurd ((k4 _ (by omega) z).trans ev.symm) (h6.no (by omega))
   ·exact z
   ·exact absurd ((h4 _ (by omega) z).trans ev) (k6.no (by omega))
  have er:r=r':=Prod.ext (h1.trans k1.symm) (Prod.ext ee ev)
  subst er
  rw [RunsFrom.unique h6 k6]
theorem RunsFrom.hv {f:Int->V}{b:Int} (hf:∀ x,HV (f x)):∀ {rs:List Run}{a:Int}{w:Option V},RunsFrom f b a w rs->∀ r∈rs,HV r.2.2
 | [],_,_,_,r,hr=>nomatch hr
 |q::rs,a,w,⟨_,h2,_,h4,_,h6⟩,r,hr=>by
  rcases List.mem_cons.mp hr with e|e
  ·rw [e,<-h4 a (Int.le_refl _) h2];exact hf a
  ·exact RunsFrom.hv hf h6 r e
def RunsOk (f:Int->V) (a b:Int) (rs:List Run):Prop:=(b<=a/\rs=[])∨(a<b/\RunsFrom f b a none rs)
theorem RunsOk.unique {f:Int->V}{a b:Int}{rs rs':List Run} (h:RunsOk f a b rs) (h':RunsOk f a b rs'):rs=rs':=by
 rcases h with ⟨h1,h2⟩|⟨h1,h2⟩<;>rcases h' with ⟨k1,k2⟩|⟨k1,k2⟩
 ·rw [h2,k2]
 ·omega
 ·omega
 ·exact h2.unique k2
theorem RunsOk.hv {f:Int->V}{a b:Int}{rs:List Run} (h:RunsOk f a b rs) (hf:∀ x,HV (f x)):∀ r∈rs,HV r.2.2:=by
 rcases h with ⟨_,h2⟩|⟨_,h2⟩
 ·rw [h2];exact λr hr=>nomatch hr
 ·exact h2.hv hf
def RunsAt (H:Hp) (l:Addr) (rs:List Run):Prop:=∃ ts:List Addr,H l=some (.lst (ts.map V.ref))/\ts.length=rs.length/\∀ (j:Nat) (t:Addr) (r:Run),ts[j]?=some t->rs[j]?=some r->H t=some (.tup [.int r.1,.int r.2.1,r.2.2])
theorem RunsAt.same {H H':Hp}{l:Addr}{rs:List Run} (h:RunsAt H l rs) (s:Same H H'):RunsAt H' l rs:=
 let ⟨ts,h1,h2,h3⟩:=h
 ⟨ts,s _ _ h1,h2,λj t r e1 e2=>s _ _ (h3 j t r e1 e2)⟩
def mkR:Int->V->List (Int×V)->Int->List Run
 |a,w,[],b=>[(a,b,w)]
 |a,w,q::r,b=>(a,q.1,w)::mkR q.1 q.2 r b
theorem mkR_len:∀ {qs:List (Int×V)}{a b:Int}{w:V},(mkR a w qs b).length=qs.length+1
 | [],_,_,_=>rfl
 |q::r,a,b,w=>by show (mkR q.1 q.2 r b).length+1=_;rw [mkR_len];rfl
theorem mkR_get {b:Int}:∀ (qs:List (Int×V)) (a:Int) (w:V) (j:Nat) (r:Run),(mkR a w qs b)[j]?=some r->(V.int a::cutsV qs)[j]?=some (.int r.1)/\(cutsV qs++[.int b])[j]?=some (.int r.2.1)/\(holdsV w qs)[j]?=some r.2.2:=by
 intro qs
 induction qs with
 |nil=>
  intro a w j r h
  cases j with
  |zero=>cases h;exact ⟨rfl,rfl,rfl⟩
  |succ j=>
   have h':([]:List Run)[j]?=some r:=h
   rw [List.getElem?_nil] at h'
   cases h'
 |cons q t ih=>
  intro a w j r h
  cases j with
  |zero=>cases h;exact ⟨rfl,rfl,rfl⟩
  |succ j=>
   have h':(mkR q.1 q.2 t b)[j]?=some r:=h
   exact ih q.1 q.2 j r h'
theorem mkR_runs {f:Int->V}{b:Int}:∀ {qs:List (Int×V)}{a:Int}{w:V}{o:Option V},a<b->(∀ q∈qs,a<q.1/\q.1<b)->Strict qs->Diff w qs->(∀ y,a<=y->y<b->f y=atL w qs y)->o≠some w->RunsFrom f b a o (mkR a w qs b)
 | [],a,w,o,hab,_,_,_,hf,ho=>⟨rfl,hab,Int.le_refl _,λz h1 h2=>hf z h1 h2,ho,rfl⟩
 |q::r,a,w,o,hab,hq,hs,hd,hf,ho=>by
  have hs2:=List.pairwise_cons.mp hs
  have hq0:=hq q List.mem_cons_self
  refine ⟨rfl,hq0.1,Int.le_of_lt hq0.2,λz h1 h2=>?_,ho,mkR_runs hq0.2 (λp hp=>⟨hs2.1 p hp,(hq p (List.mem_cons_of_mem _ hp)).2⟩) hs2.2 hd.2 (λy h1 h2=>?_) λz=>hd.1 (Option.some.inj z).symm⟩
  ·have h2':z<q.1:=h2
   rw [hf z h1 (by omega),atL_low λp hp=>?_]
   rcases List.mem_cons.mp hp with e|e
   ·rw [e];exact h2'
   ·have:=hs2.1 p e
    omega
  ·have h1':q.1<=y:=h1
   rw [hf y (by omega) h2]
   show atL (if q.1<=y then q.2 else w) r y=_
   rw [if_pos h1']
def spRuns (C:Addr):Sp:=λvs H Q _=>∃ (p:Addr) (a b:Int) (v:V) (ps:List (Int×V)),vs=[.ref p,.int a,.int b]/\LineAt C H p v ps/\Form v ps/\ps.length<=900/\
 ∀ (l:Addr) (rs:List Run) (H':Hp),Same H H'->H l=none->RunsAt H' l rs->RunsOk (atL v ps) a b rs->rs.length<=1000->Q (.ref l) H'
theorem atL_take {ps:List (Int×V)}{v:V}{y:Int} (n:Nat) (h:∀ q∈ps.drop n,y<q.1):atL v ps y=atL v (ps.take n) y:=by
 have e:atL v (ps.take n++ps.drop n) y=atL v (ps.take n) y:=by rw [atL_append,atL_low h]
 rw [List.take_append_drop] at e
 exact e
theorem Diff.take:∀ {ps:List (Int×V)}{v:V} (n:Nat),Diff v ps->Diff v (ps.take n)
 |_,_,0,_=>trivial
 | [],_,n+1,_=>trivial
 |q::r,v,n+1,h=>⟨h.1,Diff.take n h.2⟩
abbrev scRu:Scope:={ kind:=.function,names:=[(".0",.local),("held",.local),("own_copy",.globalImplicit)],isGenerator:=false,isCoroutine:=false,more:=[] }
theorem cs_ru:CScope (defScope s_runs) scRu ["line","start","end","first","last","inner","starts","ends","holds"] ["held"] [] "held":=
 ⟨rfl,by decide +kernel,by decide +kernel,by decide +kernel,by decide +kernel,rfl,by decide +kernel,by decide +kernel,by decide +kernel,by decide +kernel⟩
theorem ok_runs {f:Addr}{fd:FuncData} (F:Fun K "runs" "runs" s_runs f fd) (T:Txt K mg C) (zz:mg "zip"=none) (DO:Def P w K mg base "own_copy" ["thing"] 1 spOwn) (DU:Def P w K mg base "cuts_up_to" ["line","place"] 1 (spUpTo C)):FnOk P w K mg base CX0 2 f fd ["line","start","end"] (spRuns C):=by
 refine F.ok sc_runs (λvs H Q E h=>?_) (λcdv A outer s H vs Q E hr h=>?_)
 ·obtain ⟨p,a,b,v,ps,rfl,_⟩:=h
  rfl
 ·obtain ⟨p,a,b,v,ps,rfl,hL,hF,hlen,k⟩:=h
  refine' ⟨_,pss_cons (ps_if (pt_cmpR op_le (pv 2) (pv 1) (nomark _)) (pss_one (ps_ret (pe_lst pa_nil))) pss_nil)
   (pss_cons (ps_set (i:=3) sc_runs.nd rfl (Or.inl rfl) ?a1)
   (pss_cons (ps_set (i:=4) sc_runs.nd rfl (Or.inl rfl) ?a2)
   (pss_cons (ps_set (i:=5) sc_runs.nd rfl (Or.inl rfl) ?a3)
   (pss_cons (ps_set (i:=6) sc_runs.nd rfl (Or.inl rfl) ?a4)
   (pss_cons (ps_set (i:=7) sc_runs.nd rfl (Or.inl rfl) ?a5)
   (pss_cons (ps_setC (i:=8) sc_runs.nd rfl (Or.inl rfl) cs_ru rfl rfl rfl ?b1 ?b2 ?b3)
   (pss_one (ps_ret ?c1)))))))),?rd⟩
  case a1=>exact pe_callD DU hr rfl (pa_cons (pv 0) (pa_cons (pv 1) pa_nil))
  case a2=>exact pe_callD DU hr rfl (pa_cons (pv 0) (pa_cons (pe_op op_sub (pv 2) pe_int) pa_nil))
  case a3=>exact pe_slice sl_list (pe_fld (pv 0) rfl) (po_some (pv 3)) (po_some (pv 4))
  case a4=>exact pe_op op_cat (pe_lst (pa_cons (pv 1) pa_nil)) (pv 5)
  case a5=>exact pe_op op_cat (pv 5) (pe_lst (pa_cons (pv 2) pa_nil))
  case b1=>exact pi_list (pe_slice sl_list (pe_fld (pv 0) rfl) (po_some (pv 3)) (po_some (pe_op op_add (pv 4) pe_int)))
  case b2=>exact λ_ _ _ _ _=>pf_nil
  case b3=>exact λC' fp pins s' H'=>pe_callD (X:=compCx _ _ _ C' fp pins s' H') DO hr rfl (pa_cons (pv 0) pa_nil)
  case c1=>exact pe_zip3 rfl T.list rfl zz rfl (pa_cons (pv 6) (pa_cons (pv 7) (pa_cons (pv 8) pa_nil)))
  case rd=>
  obtain ⟨dx,ca,ho,h1,h2,h3⟩:=id hL
  refine ⟨_,rfl,_,rfl,_,_,rfl,rfl,_,rfl,ite2 (λhc=>?_) (λhc=>?_)⟩
  ·have hba:b<=a:=of_decide_eq_true hc
   refine ⟨Nat.zero_le _,λl hl=>k l [] _ (Same.new hl) hl ⟨[],upd_same,rfl,λj t r e _=>by simp at e⟩ (.inl ⟨hba,rfl⟩) (Nat.zero_le _)⟩
  have hab:a<b:=by
   have:¬ b<=a:=λz=>hc (decide_eq_true z)
   omega
  refine ⟨_,rfl,_,rfl,p,a,v,ps,rfl,hL,hF.st.rise,by omega,λn1 u1=>?_⟩
  refine ⟨_,rfl,_,rfl,_,_,rfl,rfl,p,b - 1,v,ps,rfl,hL,hF.st.rise,by omega,λn2 u2=>?_⟩
  have h12:n1<=n2:=u1.mono u2 (by omega)
  have hn2:n2<=ps.length:=by have:=u2.le;rwa [List.length_map] at this
  have ecut:cutV (cutsV ps) (some ((n1:Nat):Int)) (some ((n2:Nat):Int))=cutsV ((ps.drop n1).take (n2-n1)):=by
   rw [cut_fromto];unfold cutsV;rw [List.map_take,List.map_drop]
  refine ⟨_,rfl,p,C,dx,_,_,rfl,h1,T.cl,T.nC,flds_cuts _ _,_,rfl,_,rfl,_,rfl,_,rfl,ca,_,rfl,SqL.of h2,λli hli=>?_⟩
  rw [ecut]
  generalize hqs:(ps.drop n1).take (n2-n1)=qs
  have hqsl:qs.length<=900:=by rw [<-hqs,List.length_take,List.length_drop];omega
  have s1:Same H (upd H li (.lst (cutsV qs))):=Same.new hli
  have gi:(upd H li (.lst (cutsV qs))) li=some (.lst (cutsV qs)):=upd_same
  generalize upd H li (.lst (cutsV qs))=H1 at s1 gi ⊢
  have lcq:(cutsV qs).length=qs.length:=List.length_map ..
  refine ⟨_,rfl,smallL (by show 1<=2000;decide),λla hla=>?_⟩
  have s2:Same H1 (upd H1 la (.lst [.int a])):=Same.new hla
  have ga:(upd H1 la (.lst [.int a])) la=some (.lst [.int a]):=upd_same
  have gi2:=s2 _ _ gi
  generalize upd H1 la (.lst [.int a])=H2 at s2 ga gi2 ⊢
  refine ⟨_,rfl,la,li,_,_,rfl,rfl,ga,gi2,smallL (by rw [lcq];show 1+_<=2000;omega),λls hls=>?_⟩
  have s3:Same H2 (upd H2 ls (.lst ([.int a]++cutsV qs))):=Same.new hls
  have gs:(upd H2 ls (.lst ([.int a]++cutsV qs))) ls=some (.lst (V.int a::cutsV qs)):=upd_same
  have gi3:=s3 _ _ gi2
  generalize upd H2 ls (.lst ([.int a]++cutsV qs))=H3 at s3 gs gi3 ⊢
  refine ⟨_,rfl,_,rfl,smallL (by show 1<=2000;decide),λlb hlb=>?_⟩
  have s4:Same H3 (upd H3 lb (.lst [.int b])):=Same.new hlb
  have gb:(upd H3 lb (.lst [.int b])) lb=some (.lst [.int b]):=upd_same
  have gi4:=s4 _ _ gi3
  have gs4:=s4 _ _ gs
  generalize upd H3 lb (.lst [.int b])=H4 at s4 gb gi4 gs4 ⊢
  refine ⟨li,lb,_,_,rfl,rfl,gi4,gb,smallL (by rw [lcq];show _+1<=2000;omega),λle hle=>?_⟩
  have s5:Same H4 (upd H4 le (.lst (cutsV qs++[.int b]))):=Same.new hle
  have ge:(upd H4 le (.lst (cutsV qs++[.int b]))) le=some (.lst (cutsV qs++[.int b])):=upd_same
  have gs5:=s5 _ _ gs4
  generalize upd H4 le (.lst (cutsV qs++[.int b]))=H5 at s5 ge gs5 ⊢
  have s05:Same H H5:=s1.trans (s2.trans (s3.trans (s4.trans s5)))
  have ehold:cutV (holdsV v ps) (some ((n1:Nat):Int)) (some (((n2:Nat):Int)+1))=holdsV (atL v ps a) qs:=by
   rw [show (((n2:Nat):Int)+1)=((n2+1:Nat):Int) by omega,cut_fromto]
   have e1:(holdsV v ps).drop n1=holdsV (atL v ps a) (ps.drop n1):=by rw [holdsV_drop u1]
   rw [e1,show n2+1-n1=(n2-n1)+1 by omega]
   show atL v ps a::((ps.drop n1).map (·.2)).take (n2-n1)=_
   rw [<-List.map_take,hqs]
  refine ⟨_,rfl,p,C,dx,_,_,rfl,s05 _ _ h1,T.cl,T.nH,flds_holds _ _,_,rfl,_,rfl,_,rfl,_,_,rfl,rfl,_,rfl,ho,_,rfl,SqL.of (s05 _ _ h3),λlh hlh=>?_⟩
  rw [ehold]
  have s6:Same H5 (upd H5 lh (.lst (holdsV (atL v ps a) qs))):=Same.new hlh
  have gh:(upd H5 lh (.lst (holdsV (atL v ps a) qs))) lh=some (.lst (holdsV (atL v ps a) qs)):=upd_same
  have ge6:=s6 _ _ ge
  have gs6:=s6 _ _ gs5
  generalize upd H5 lh (.lst (holdsV (atL v ps a) qs))=H6 at s6 gh ge6 gs6 ⊢
  have hw:HV (atL v ps a):=hF.hh.at
  have hqm:∀ q∈qs,q∈ps:=λq hq=>List.mem_of_mem_drop (List.mem_of_mem_take (by rw [hqs];exact hq))
  have hhs:Holds (atL v ps a) qs:=⟨hw,λq hq=>hF.hh.hs q (hqm q hq)⟩
  have lhq:(holdsV (atL v ps a) qs).length=qs.length+1:=by show (qs.map _).length+1=_;rw [List.length_map]
  refine ⟨lh,rfl,⟨_,SqL.of gh⟩,?_⟩
  refine comp_map (K:=K) (js:=[]) (λy=>y) (SqL.of gh) ?g1 ?g2 ?g3
  case g1=>rw [lhq];omega
  case g2=>exact λy H7 Q' hy _ q'=>⟨_,rfl,y,rfl,hhs.mem y hy,q'⟩
  case g3=>
  intro lc hlc
  rw [List.map_id']
  have s7:Same H6 (upd H6 lc (.lst (holdsV (atL v ps a) qs))):=Same.new hlc
  have gc:(upd H6 lc (.lst (holdsV (atL v ps a) qs))) lc=some (.lst (holdsV (atL v ps a) qs)):=upd_same
  have ge7:=s7 _ _ ge6
  have gs7:=s7 _ _ gs6
  generalize upd H6 lc (.lst (holdsV (atL v ps a) qs))=H7 at s7 gc ge7 gs7 ⊢
  have s07:Same H H7:=s05.trans (s6.trans s7)
  refine ⟨_,rfl,_,rfl,_,rfl,ls,le,lc,_,_,_,rfl,SqL.of gs7,SqL.of ge7,SqL.of gc,by rw [List.length_cons];omega,?_,?_,λl ts H8 s8 hl gl htl hts=>?_⟩
  ·show (cutsV qs++[V.int b]).length=(cutsV qs).length+1
   rw [List.length_append]
   rfl
  ·rw [lhq,List.length_cons,lcq]
  have htl':ts.length=qs.length+1:=by rw [htl,List.length_cons,lcq]
  refine k l (mkR a (atL v ps a) qs b) H8 (s07.trans s8) (s07.free hl) ⟨ts,gl,by rw [mkR_len];exact htl',λj t r e1 e2=>?_⟩ (.inr ⟨hab,?_⟩) (by rw [mkR_len];omega)
  ·obtain ⟨_,_,x,y,z,ex,ey,ez,g⟩:=hts j t e1
   obtain ⟨m1,m2,m3⟩:=mkR_get _ _ _ _ _ e2
   rw [m1] at ex
   rw [m2] at ey
   rw [m3] at ez
   cases ex
   cases ey
   cases ez
   exact g
  ·have hdr:∀ q∈ps.drop n1,a<q.1:=λq hq=>u1.drop q hq
   refine mkR_runs hab (λq hq=>⟨?_,?_⟩) ?_ ?_ (λy h4 h5=>?_) (λz=>nomatch z)
   ·rw [<-hqs] at hq
    exact hdr q (List.mem_of_mem_take hq)
   ·rw [<-hqs] at hq
    have hq2:q∈ps.take n2:=by
     rw [<-List.drop_take] at hq
     exact List.mem_of_mem_drop hq
    have:=u2.take q hq2
    omega
   ·rw [<-hqs]
    exact (hF.st.sublist (List.drop_sublist _ _)).sublist (List.take_sublist _ _)
   ·rw [<-hqs]
    exact (diff_drop hF.df u1).take _
   ·rw [u1.high h4,<-hqs]
    refine atL_take (n2-n1) λq hq=>?_
    rw [List.drop_drop,show n1+(n2-n1)=n2 by omega] at hq
    have:=u2.drop q hq
    omega
end
section
variable {P:Program}{w:World}{K:PySem.W.Frag}{mg:Str->Option Value}{base:Heap}{C:Addr} [HoldKind]
def sumR (u:V) (rs:List Run):Int:=((rs.filter λr=>decide (r.2.2=u)).map λr=>r.2.1-r.1).sum
def spTally (C:Addr):Sp:=λvs H Q _=>∃ (p:Addr) (u:V) (a b:Int) (v:V) (ps:List (Int×V)),vs=[.ref p,u,.int a,.int b]/\LineAt C H p v ps/\Form v ps/\HV u/\ps.length<=900/\
 ∀ (rs:List Run) (H':Hp),Same H H'->RunsOk (atL v ps) a b rs->Q (.int (sumR u rs)) H'
abbrev scTa:Scope:={ kind:=.function,names:=[(".0",.local),("ahead",.local),("behind",.local),("held",.local),("value",.free)],isGenerator:=false,isCoroutine:=false,more:=[] }
theorem cs_ta:CScopeK (defScope s_tally) scTa ["line","value","start","end"] ["ahead","behind","held","value"] [1] 3:=
 ⟨rfl,by decide +kernel,by decide +kernel,by decide +kernel,rfl,by decide +kernel,by decide +kernel,by decide +kernel⟩
theorem st3 {σ:L2.St}{c:L2.St} (h:σ.length=3+c.length) (hd:σ.drop 3=c):∃ x y z,σ=x::y::z::c:=by
 match σ,h,hd with
 |x::y::z::r,_,hd=>exact ⟨x,y,z,by rw [<-hd];rfl⟩
 | [x,y],h,_=>simp at h;omega
 | [x],h,_=>simp at h;omega
 | [],h,_=>simp at h;omega
theorem ok_tally {f:Addr}{fd:FuncData} (F:Fun K "tally" "tally" s_tally f fd) (T:Txt K mg C) (zs:mg "sum"=none) (DR:Def P w K mg base "runs" ["line","start","end"] 2 (spRuns C)):FnOk P w K mg base CX0 3 f fd ["line","value","start","end"] (spTally C):=by
 refine F.ok sc_tally (λvs H Q E h=>?_) (λcdv A outer s H vs Q E hr h=>?_)
 ·obtain ⟨p,u,a,b,v,ps,rfl,_⟩:=h
  rfl
 ·obtain ⟨p,u,a,b,v,ps,rfl,hL,hF,hu,hlen,k⟩:=h
  refine' ⟨_,pss_one (ps_ret ?x0),?rd⟩
  case x0=>
   refine' pe_callB (call_sum rfl) rfl zs boot_sum (pa_cons ?x pa_nil)
   case x=>
   refine' pe_compK cs_ta rfl rfl rfl ?y1 ?y2 ?y3 ?y4
   case y1=>exact pi_list (pe_callD DR hr rfl (pa_cons (pv 0) (pa_cons (pv 2) (pa_cons (pv 3) pa_nil))))
   case y2=>exact λ_ _ _ _ _=>pg_tupK (K':=K) (n:=3) rfl rfl (pgs_cons (pg_name (i:=0) cs_ta.nd rfl (Or.inl rfl)) (pgs_cons (pg_name (i:=1) cs_ta.nd rfl (Or.inl rfl)) (pgs_cons (pg_name (i:=2) cs_ta.nd rfl (Or.inl rfl)) pgs_nil)))
   case y3=>exact λ_ _ _ _ _=>pf_one (pt_cmpR op_eq (pv 2) (pv 3) (nomark _))
   case y4=>exact λ_ _ _ _ _=>pe_op op_sub (pv 1) (pv 0)
  case rd=>
  refine ⟨_,rfl,_,rfl,_,rfl,p,a,b,v,ps,rfl,hL,hF,hlen,λl rs H1 s1 hl hR hok hrl=>?_⟩
  obtain ⟨ts,gl,htl,hts⟩:=hR
  have hhv:=hok.hv λx=>hF.hh.at
  refine ⟨l,rfl,⟨_,SqL.of gl⟩,?_⟩
  refine comp_gh (K:=K) (js:=[1]) (kk:=3) rs (λr=>decide (r.2.2=u)) (λr=>.int (r.2.1-r.1)) (SqL.of gl) ?g1 ?g2 ?g3 ?g4
  case g1=>rw [List.length_map,htl]
  case g2=>rw [List.length_map];omega
  case g3=>
   intro j x r H2 σ0 R1 R2 hx hr' s2 h0 h1 q1 q2
   rw [List.getElem?_map] at hx
   obtain ⟨t,ht,rfl⟩:=Option.map_eq_some_iff.mp hx
   obtain ⟨x0,x1,x2,rfl⟩:=st3 (c:=capsOf [1] [some (V.ref p),some u,some (V.int a),some (V.int b)]) h0 h1
   have hv:=hhv r (List.mem_of_getElem? hr')
   refine ⟨t,_,rfl,SqT.of (s2 _ _ (hts j t r ht hr')),rfl,_,_,rfl,_,_,rfl,_,_,rfl,rfl,rfl,?_⟩
   refine ⟨_,rfl,_,rfl,hv.scal hu,_,rfl,ite2 (λhc=>?_) (λhc=>?_)⟩
   ·exact ⟨_,rfl,_,rfl,_,_,rfl,rfl,q2 hc⟩
   ·exact q1 (Bool.eq_false_iff.mpr hc)
  case g4=>
  intro lc hlc
  refine ⟨lc,(rs.filter λr:Run=>decide (r.2.2=u)).map (λr:Run=>r.2.1-r.1),rfl,SqL.of ?_,k rs _ (s1.trans (Same.new hlc)) hok⟩
  rw [upd_same,List.map_map]
  rfl
def better (o:Option (Int×Int)) (n:Int):Bool:=match o with
 |none=>true
 |some b=>decide (b.2<n)
def bestStep (u:V) (o:Option (Int×Int)) (r:Run):Option (Int×Int):=if (decide (r.2.2=u) && better o (r.2.1-r.1))=true then some (r.1,r.2.1-r.1) else o
def bestR (u:V) (rs:List Run):Option (Int×Int):=rs.foldl (bestStep u) none
theorem bestR_take {u:V}{rs:List Run}{i:Nat}{r:Run} (h:rs[i]?=some r):bestR u (rs.take (i+1))=bestStep u (bestR u (rs.take i)) r:=by
 have htk:rs.take (i+1)=rs.take i++[r]:=by rw [List.take_add_one,h];rfl
 unfold bestR
 rw [htk,List.foldl_append]
 rfl
def BestAt (H:Hp) (x:V):Option (Int×Int)->Prop
 |none=>x=.non
 |some b=>∃ t,x=.ref t/\H t=some (.tup [.int b.1,.int b.2])
theorem BestAt.same {H H':Hp}{x:V}:∀ {o:Option (Int×Int)},BestAt H x o->Same H H'->BestAt H' x o
 |none,h,_=>h
 |some b,⟨t,e,g⟩,s=>⟨t,e,s _ _ g⟩
def spLongest (C:Addr):Sp:=λvs H Q _=>∃ (p:Addr) (u:V) (a b:Int) (v:V) (ps:List (Int×V)),vs=[.ref p,u,.int a,.int b]/\LineAt C H p v ps/\Form v ps/\HV u/\ps.length<=900/\
 ∀ (x:V) (rs:List Run) (H':Hp),Same H H'->RunsOk (atL v ps) a b rs->BestAt H' x (bestR u rs)->Q x H'
theorem ok_longest {f:Addr}{fd:FuncData} (F:Fun K "longest" "longest" s_longest f fd) (T:Txt K mg C) (DR:Def P w K mg base "runs" ["line","start","end"] 2 (spRuns C)):FnOk P w K mg base CX0 3 f fd ["line","value","start","end"] (spLongest C):=by
 refine F.ok sc_longest (λvs H Q E h=>?_) (λcdv A outer s H vs Q E hr h=>?_)
 ·obtain ⟨p,u,a,b,v,ps,rfl,_⟩:=h
  rfl
 ·obtain ⟨p,u,a,b,v,ps,rfl,hL,hF,hu,hlen,k⟩:=h
  refine' ⟨_,pss_cons (ps_set (i:=4) sc_longest.nd rfl (Or.inl rfl) pe_non)
   (pss_cons (ps_for PassesOwn.never rfl ?a1 (pg_tup rfl (pgs_cons (pg_name (i:=5) sc_longest.nd rfl (Or.inl rfl)) (pgs_cons (pg_name (i:=6) sc_longest.nd rfl (Or.inl rfl)) (pgs_cons (pg_name (i:=7) sc_longest.nd rfl (Or.inl rfl)) pgs_nil))))
    (pss_one (ps_if ?b1 (pss_one (ps_set (i:=4) sc_longest.nd rfl (Or.inl rfl) ?b2)) pss_nil)))
   (pss_one (ps_ret (pv 4)))),?rd⟩
  case a1=>exact pi_list (pe_callD DR hr rfl (pa_cons (pv 0) (pa_cons (pv 2) (pa_cons (pv 3) pa_nil))))
  case b1=>
   refine' PW.pt (pw_and ?x (pw_and1 (PW.pt (pw_or ?y (pw_or1 ?z)))))
   case x=>exact pt_cmpR op_eq (pv 7) (pv 1) (nomark _)
   case y=>exact pt_cmp (pc_isN (pv 4))
   case z=>exact pt_cmpR op_gt (pe_op op_sub (pv 6) (pv 5)) (pe_ix ix_tup (pv 4) pe_int (λ_ _=>rfl)) (nomark _)
  case b2=>exact pe_tup (pa_cons (pv 5) (pa_cons (pe_op op_sub (pv 6) (pv 5)) pa_nil))
  case rd=>
  refine ⟨_,rfl,_,rfl,_,rfl,p,a,b,v,ps,rfl,hL,hF,hlen,λl rs H1 s1 hl hR hok hrl=>?_⟩
  obtain ⟨ts,gl,htl,hts⟩:=hR
  have hhv:=hok.hv λx=>hF.hh.at
  refine ⟨l,rfl,⟨_,SqL.of gl⟩,?_⟩
  refine for_list (K:=K) (xs:=ts.map V.ref) (λi σ H'=>∃ (x:V) (y5 y6 y7:Option V),σ=[some (.ref p),some u,some (.int a),some (.int b),some x,y5,y6,y7]/\Same H1 H'/\BestAt H' x (bestR u (rs.take i))) ?_ (λi σ H' _ ⟨_,_,_,_,_,s2,_⟩=>s2.seq (SqL.of gl)) ?_ ?_
  ·exact ⟨.non,none,none,none,rfl,Same.refl,rfl⟩
  ·rintro i x σ H' hx ⟨y,y5,y6,y7,rfl,s2,hB⟩
   rw [List.getElem?_map] at hx
   obtain ⟨t,ht,rfl⟩:=Option.map_eq_some_iff.mp hx
   have hil:i<rs.length:=by rw [<-htl];exact (List.getElem?_eq_some_iff.mp ht).1
   have hri:rs[i]?=some rs[i]:=List.getElem?_eq_getElem hil
   generalize rs[i]=r at hri
   have hv:=hhv r (List.mem_of_getElem? hri)
   have hnx:=bestR_take (u:=u) hri
   generalize bestR u (rs.take i)=o at hB hnx
   refine ⟨t,_,rfl,SqT.of (s2 _ _ (hts i t r ht hri)),rfl,_,_,rfl,_,_,rfl,_,_,rfl,rfl,?_⟩
   refine ⟨_,rfl,_,rfl,hv.scal hu,_,rfl,andT (better o (r.2.1-r.1)) (λ_ Q' q'=>?_) ?_⟩
   ·cases o with
    |none=>
     cases hB
     exact ⟨_,rfl,true,rfl,iteT q'⟩
    |some bb=>
     obtain ⟨t2,rfl,gt2⟩:=hB
     exact ⟨_,rfl,false,rfl,iteF ⟨_,rfl,_,rfl,_,_,rfl,rfl,_,rfl,t2,_,_,.int bb.2,rfl,rfl,SqT.of gt2,atN (j:=1) rfl rfl,_,_,rfl,rfl,_,rfl,q'⟩⟩
   ·refine ite2 (λhc=>?_) (λhc=>?_)
    ·have e:bestStep u o r=some (r.1,r.2.1-r.1):=if_pos hc
     refine ⟨_,rfl,_,rfl,_,rfl,_,_,rfl,rfl,smallL (by show 2<=2000;decide),λt3 ht3=>?_⟩
     refine ⟨.ref t3,_,_,_,rfl,s2.trans (Same.new ht3),?_⟩
     rw [hnx,e]
     exact ⟨t3,rfl,upd_same⟩
    ·have e:bestStep u o r=o:=if_neg hc
     refine ⟨y,_,_,_,rfl,s2,?_⟩
     rw [hnx,e]
     exact hB
  ·rintro σ H' ⟨x,y5,y6,y7,rfl,s2,hB⟩
   rw [List.take_of_length_le (by rw [List.length_map];omega)] at hB
   exact ⟨_,rfl,k x rs H' (s1.trans s2) hok hB⟩
end
section
variable {P:Program}{w:World}{K:PySem.W.Frag}{mg:Str->Option Value}{base:Heap}{C:Addr} [HoldKind]
theorem ok_at {f:Addr}{fd:FuncData} (F:Fun K "_law_at" "_law_at" s_law_at f fd) (T:Txt K mg C):FnOk P w K mg base CX0 1 f fd ["told","place"] (spAt K):=by
 refine F.ok sc_law_at (λvs H Q E h=>?_) (λcdv A outer s H vs Q E hr h=>?_)
 ·obtain ⟨t,x,v,ps,rfl,_⟩:=h
  rfl
 ·obtain ⟨t,x,v,ps,rfl,⟨a,b,ht,ha,hb⟩,hlen,k⟩:=h
  refine ⟨_,pss_cons (ps_set (i:=2) sc_law_at.nd rfl (Or.inl rfl) (pe_ix ix_list (pe_ix ix_tup (pv 0) pe_int (λ_ _=>rfl)) pe_int (λ_ _=>rfl)))
   (pss_cons (ps_for PassesOwn.never rfl (pi_range1 rfl T.range (pa_cons (pe_callB call_len_seq rfl T.len PySem.boot_len (pa_cons (pe_ix ix_tup (pv 0) pe_int (λ_ _=>rfl)) pa_nil)) pa_nil)) (pg_name (i:=3) sc_law_at.nd rfl (Or.inl rfl))
    (pss_one (ps_if (pt_cmpR op_le (pe_ix ix_list (pe_ix ix_tup (pv 0) pe_int (λ_ _=>rfl)) (pv 3) (λ_ _=>rfl)) (pv 1) (nomark _))
     (pss_one (ps_set (i:=2) sc_law_at.nd rfl (Or.inl rfl) (pe_ix ix_list (pe_ix ix_tup (pv 0) pe_int (λ_ _=>rfl)) (pe_op op_add (pv 3) pe_int) (λ_ _=>rfl)))) pss_nil)))
   (pss_one (ps_ret (pv 2)))),?_⟩
  refine ⟨_,rfl,t,_,_,.ref b,rfl,rfl,ht,atN (j:=1) rfl rfl,b,_,_,v,rfl,rfl,hb,atN (j:=0) rfl rfl,?_⟩
  have lenC:(cutsV ps).length=ps.length:=List.length_map ..
  refine ⟨_,rfl,t,_,_,.ref a,rfl,rfl,ht,atN (j:=0) rfl rfl,a,_,rfl,.inl ha,_,rfl,by omega,by rw [lenC];omega,?_⟩
  rw [show (((cutsV ps).length:Nat):Int).toNat=ps.length by rw [lenC];omega]
  refine for_range (λi σ H'=>H'=H/\∃ m,σ=[some (.ref t),some (.int x),some (atL v (ps.take i) x),m]) ⟨rfl,none,rfl⟩ ?_ ?_
  ·rintro i σ H' hi ⟨rfl,m,rfl⟩
   obtain ⟨q,hq⟩:∃ q,ps[i]?=some q:=⟨_,List.getElem?_eq_getElem hi⟩
   have htk:ps.take (i+1)=ps.take i++[q]:=by rw [List.take_add_one,hq];rfl
   have hat:atL v (ps.take (i+1)) x=if q.1<=x then q.2 else atL v (ps.take i) x:=by rw [htk,atL_append];rfl
   refine ⟨_,rfl,t,_,_,.ref a,rfl,rfl,ht,atN (j:=0) rfl rfl,_,rfl,a,_,_,.int q.1,rfl,rfl,ha,atN (j:=i) (by omega) (by rw [List.getElem?_map,hq];rfl),_,rfl,_,_,rfl,rfl,_,rfl,ite2 (λhc=>?_) (λhc=>?_)⟩
   ·have hc':q.1<=x:=of_decide_eq_true hc
    rw [if_pos hc'] at hat
    refine ⟨_,rfl,t,_,_,.ref b,rfl,rfl,ht,atN (j:=1) rfl rfl,_,rfl,_,_,rfl,rfl,b,_,_,q.2,rfl,rfl,hb,atN (j:=i+1) (by omega) (by show (ps.map (·.2))[i]?=_;rw [List.getElem?_map,hq];rfl),rfl,some (.int (0+(i:Int))),?_⟩
    rw [hat];rfl
   ·have hc':¬ q.1<=x:=of_decide_eq_false (Bool.eq_false_iff.mpr hc)
    rw [if_neg hc'] at hat
    refine ⟨rfl,some (.int (0+(i:Int))),?_⟩
    rw [hat];rfl
  ·rintro σ H' ⟨rfl,m,rfl⟩
   rw [List.take_of_length_le (Nat.le_refl _)]
   exact ⟨_,rfl,k⟩
def ToldH (H:Hp) (t:Addr) (v:V) (ps:List (Int×V)):Prop:=∃ a b,H t=some (.tup [.ref a,.ref b])/\H a=some (.lst (cutsV ps))/\H b=some (.lst (holdsV v ps))
theorem ToldH.same {H H':Hp}{t:Addr}{v:V}{ps:List (Int×V)} (h:ToldH H t v ps) (s:Same H H'):ToldH H' t v ps:=
 let ⟨a,b,h1,h2,h3⟩:=h
 ⟨a,b,s _ _ h1,s _ _ h2,s _ _ h3⟩
theorem ToldH.at {H:Hp}{t:Addr}{v:V}{ps:List (Int×V)} (h:ToldH H t v ps):ToldAt K H t v ps:=
 let ⟨a,b,h1,h2,h3⟩:=h
 ⟨a,b,SqT.of h1,SqL.of h2,SqL.of h3⟩
def lastV:Option V->List Run->Option V
 |w,[]=>w
 |_,r::rs=>lastV (some r.2.2) rs
theorem lastV_snoc:∀ {rs:List Run}{w:Option V}{r:Run},lastV w (rs++[r])=some r.2.2
 | [],_,_=>rfl
 |_::rs,_,_=>lastV_snoc (rs:=rs)
theorem RunsFrom.snoc {f:Int->V}{c c':Int}{v:V} (hc:c<c') (hf:∀ z,c<=z->z<c'->f z=v):∀ {rs:List Run}{a:Int}{w:Option V},RunsFrom f c a w rs->lastV w rs≠some v->RunsFrom f c' a w (rs++[(c,c',v)])
 | [],a,w,h,hl=>by
  have e:a=c:=h
  subst e
  exact ⟨rfl,hc,Int.le_refl _,hf,hl,rfl⟩
 |r::rs,a,w,⟨h1,h2,h3,h4,h5,h6⟩,hl=>⟨h1,h2,by omega,h4,h5,RunsFrom.snoc hc hf h6 hl⟩
theorem RunsFrom.grow {f:Int->V}{c c' s e:Int}{v:V} (hc:c<c') (hf:∀ z,c<=z->z<c'->f z=v):∀ {rs:List Run}{a:Int}{w:Option V},RunsFrom f c a w (rs++[(s,e,v)])->RunsFrom f c' a w (rs++[(s,c',v)])
 | [],a,w,⟨h1,h2,h3,h4,h5,h6⟩=>by
  have e':e=c:=h6
  have h2':a<e:=h2
  subst e'
  refine ⟨h1,?_,Int.le_refl _,λz z1 z2=>?_,h5,rfl⟩
  ·show a<c'
   omega
  ·by_cases hz:z<e
   ·exact h4 z z1 hz
   ·exact hf z (by omega) z2
 |r::rs,a,w,⟨h1,h2,h3,h4,h5,h6⟩=>⟨h1,h2,by omega,h4,h5,RunsFrom.grow hc hf h6⟩
def spLRuns:Sp:=λvs H Q _=>∃ (t:Addr) (a b:Int) (v:V) (ps:List (Int×V)),vs=[.ref t,.int a,.int b]/\ToldH H t v ps/\Holds v ps/\ps.length<=150/\
 ∀ (l:Addr) (rs:List Run) (H':Hp),Same H H'->H l=none->RunsAt H' l rs->RunsOk (atL v ps) a b rs->rs.length<=300->Q (.ref l) H'
abbrev scLr:Scope:={ kind:=.function,names:=[(".0",.local),("cut",.local),("end",.free),("start",.free)],isGenerator:=false,isCoroutine:=false,more:=[] }
theorem cs_lr:CScope (defScope s_law_runs) scLr ["told","start","end","found","edges","k","stop","value"] ["cut","end","start"] [2,1] "cut":=
 ⟨rfl,by decide +kernel,by decide +kernel,by decide +kernel,by decide +kernel,rfl,by decide +kernel,by decide +kernel,by decide +kernel,by decide +kernel⟩
def tEdg:TS:=λD σ H'=>∃ (t l ls:Addr) (a b:Int) (L:List Int),σ=[some (.ref t),some (.int a),some (.int b),some (.ref l),some (.ref ls),none,none,none]/\H' ls=some (.lst (L.map V.int))/\ls≠l/\(∃ o,H' l=some o)/\
 ∀ (ls':Addr) (L':List Int) (H2:Hp),Same H' H2->H2 ls'=some (.lst (L'.map V.int))->ls'≠l->(b<=a->L'=[])->(a<b->L'=L)->D.nx [some (.ref t),some (.int a),some (.int b),some (.ref l),some (.ref ls'),none,none,none] H2
def tStop:TS:=λD σ H'=>∃ (t l ls:Addr) (a b:Int) (L:List Int) (i:Nat) (y7:Option V),σ=[some (.ref t),some (.int a),some (.int b),some (.ref l),some (.ref ls),some (.int (0+(i:Int))),some (.int b),y7]/\H' ls=some (.lst (L.map V.int))/\
 D.nx [some (.ref t),some (.int a),some (.int b),some (.ref l),some (.ref ls),some (.int (0+(i:Int))),some (.int (L.getD (i+1) b)),y7] H'
theorem ixN_last {n:Nat} (h:0<n):ixN n (-1)=some (n - 1):=by
 unfold ixN
 rw [if_neg (by decide),if_pos (by omega)]
 congr 1
 omega
theorem ok_lruns {f:Addr}{fd:FuncData} (F:Fun K "_law_runs" "_law_runs" s_law_runs f fd) (T:Txt K mg C) (DA:Def P w K mg base "_law_at" ["told","place"] 1 (spAt K)):FnOk P w K mg base CX0 2 f fd ["told","start","end"] spLRuns:=by
 refine F.ok sc_law_runs (λvs H Q E h=>?_) (λcdv A outer s H vs Q E hr h=>?_)
 ·obtain ⟨t,a,b,v,ps,rfl,_⟩:=h
  rfl
 ·obtain ⟨t,a,b,v,ps,rfl,hT,hh,hlen,k⟩:=h
  have hu:=hu16 hr
  refine' ⟨_,pss_cons (ps_set (i:=3) sc_law_runs.nd rfl (Or.inl rfl) (pe_lst pa_nil))
   (pss_cons (ps_set (i:=4) sc_law_runs.nd rfl (Or.inl rfl) (pe_op op_cat ?a1 ?a2))
   (pss_cons (ps_imp (t':=tEdg) (ps_if ?b1 (pss_one (ps_set (i:=4) sc_law_runs.nd rfl (Or.inl rfl) (pe_lst pa_nil))) pss_nil) ?bi)
   (pss_cons (ps_for PassesOwn.never rfl (pi_range1 rfl T.range (pa_cons (pe_callB call_len_seq rfl T.len PySem.boot_len (pa_cons (pv 4) pa_nil)) pa_nil)) (pg_name (i:=5) sc_law_runs.nd rfl (Or.inl rfl))
    (pss_cons (ps_set (i:=6) sc_law_runs.nd rfl (Or.inl rfl) (pv 2))
    (pss_cons (ps_imp (t':=tStop) (ps_if ?c1 (pss_one (ps_set (i:=6) sc_law_runs.nd rfl (Or.inl rfl) ?c2)) pss_nil) ?ci)
    (pss_cons (ps_set (i:=7) sc_law_runs.nd rfl (Or.inl rfl) ?c3)
    (pss_one (ps_if ?d1 (pss_one (ps_asg ?d2 (pg_sub (pv 3) (pe_un un_neg pe_int) L2.set_list))) (pss_one (ps_expr ?d3))))))))
   (pss_one (ps_ret (pv 3)))))),?rd⟩
  case a1=>exact pe_lst (pa_cons (pv 1) pa_nil)
  case a2=>
   refine' pe_comp cs_lr rfl rfl rfl ?y1 ?y2 ?y3
   case y1=>exact pi_list (pe_sortset rfl rfl T.sorted rfl T.set (pe_ix ix_tup (pv 0) pe_int (λ_ _=>rfl)))
   case y2=>exact λ_ _ _ _ _=>pf_one (pt_chain op_lt op_lt (pv 2) (pv 0) (pv 1))
   case y3=>exact λ_ _ _ _ _=>pv 0
  case b1=>exact pt_cmpR op_le (pv 2) (pv 1) (nomark _)
  case c1=>exact pt_cmpR op_lt (pe_op op_add (pv 5) pe_int) (pe_callB call_len_seq rfl T.len PySem.boot_len (pa_cons (pv 4) pa_nil)) (nomark _)
  case c2=>exact pe_ix ix_list (pv 4) (pe_op op_add (pv 5) pe_int) (λ_ _=>rfl)
  case c3=>exact pe_callD DA hr rfl (pa_cons (pv 0) (pa_cons (pe_ix ix_list (pv 4) (pv 5) (λ_ _=>rfl)) pa_nil))
  case d1=>
   refine' PW.pt (pw_and ?x (pw_and1 ?y))
   case x=>exact pt_cmpR (op_neD hu) (pv 3) (pe_lst pa_nil) (nomark _)
   case y=>exact pt_cmpR op_eq (pe_ix ix_tup (pe_ix ix_list (pv 3) (pe_un un_neg pe_int) (λ_ _=>rfl)) pe_int (λ_ _=>rfl)) (pv 7) (nomark _)
  case d2=>exact pe_tup (pa_cons (pe_ix ix_tup (pe_ix ix_list (pv 3) (pe_un un_neg pe_int) (λ_ _=>rfl)) pe_int (λ_ _=>rfl)) (pa_cons (pv 6) (pa_cons (pv 7) pa_nil)))
  case d3=>exact pe_bm PySem.F.plainAttrs_list PySem.F.slot_list_append PySem.F.type_list_append mt_append (pv 3) (pa_cons (pe_tup (pa_cons (pe_ix ix_list (pv 4) (pv 5) (λ_ _=>rfl)) (pa_cons (pv 6) (pa_cons (pv 7) pa_nil)))) pa_nil)
  case bi=>
   rintro D σ H' ⟨t,l,ls,a,b,L,rfl,g,hne,⟨o,gl⟩,kk⟩
   refine ⟨_,rfl,_,rfl,_,_,rfl,rfl,_,rfl,ite2 (λhc=>?_) (λhc=>?_)⟩
   ·have hba:b<=a:=of_decide_eq_true hc
    exact ⟨Nat.zero_le _,λl2 hl2=>kk l2 [] _ (Same.new hl2) upd_same (ne_of_none gl hl2).symm (λ_=>rfl) (λz=>by omega)⟩
   ·have hba:¬ b<=a:=λz=>hc (decide_eq_true z)
    exact kk ls L H' Same.refl g hne (λz=>absurd z hba) (λ_=>rfl)
  case ci=>
   rintro D σ H' ⟨t,l,ls,a,b,L,i,y7,rfl,g,kk⟩
   have lenL:(L.map V.int).length=L.length:=List.length_map ..
   refine ⟨_,rfl,_,_,rfl,rfl,_,rfl,ls,_,rfl,.inl (SqL.of g),_,_,rfl,rfl,_,rfl,ite2 (λhc=>?_) (λhc=>?_)⟩
   ·have hi:i+1<L.length:=by have:=of_decide_eq_true hc;rw [lenL] at this;omega
    refine ⟨_,rfl,_,rfl,_,_,rfl,rfl,ls,_,_,.int (L.getD (i+1) b),rfl,rfl,SqL.of g,atN (j:=i+1) (by omega) ?_,kk⟩
    rw [List.getElem?_map,List.getD_eq_getElem?_getD,List.getElem?_eq_getElem hi]
    rfl
   ·have hi:¬ i+1<L.length:=λz=>hc (decide_eq_true (by rw [lenL];omega))
    rw [List.getD_eq_getElem?_getD,List.getElem?_eq_none (by omega)] at kk
    exact kk
  case rd=>
  obtain ⟨a1,b1,gt,ga,gb⟩:=id hT
  have ecv:cutsV ps=(ps.map (·.1)).map V.int:=by rw [List.map_map];rfl
  refine ⟨Nat.zero_le _,λl hl=>?_⟩
  have s1:Same H (upd H l (.lst [])):=Same.new hl
  have gl1:(upd H l (.lst [])) l=some (.lst []):=upd_same
  generalize upd H l (.lst [])=H1 at s1 gl1 ⊢
  refine ⟨_,rfl,smallL (by show 1<=2000;decide),λl2 hl2=>?_⟩
  have s2:Same H1 (upd H1 l2 (.lst [.int a])):=Same.new hl2
  have gl2:(upd H1 l2 (.lst [.int a])) l2=some (.lst [.int a]):=upd_same
  generalize upd H1 l2 (.lst [.int a])=H2 at s2 gl2 ⊢
  have s12:=s1.trans s2
  have ll:(ps.map (·.1)).length<=150:=by rw [List.length_map];omega
  refine ⟨_,rfl,t,_,_,.ref a1,rfl,rfl,SqT.of (s12 _ _ gt),atN (j:=0) rfl rfl,a1,ps.map (·.1),rfl,SqL.of (by rw [<-ecv];exact s12 _ _ ga),by omega,Nat.lt_of_le_of_lt (ddup_le _) (by omega),λl3 τ hl3 hτ hm hτl=>?_⟩
  have hτ60:τ.length<=150:=by have:=ddup_le (ps.map (·.1));omega
  have s3:Same H2 (upd H2 l3 (.lst (τ.map V.int))):=Same.new hl3
  have gl3:(upd H2 l3 (.lst (τ.map V.int))) l3=some (.lst (τ.map V.int)):=upd_same
  generalize upd H2 l3 (.lst (τ.map V.int))=H3 at s3 gl3 ⊢
  refine ⟨l3,rfl,⟨_,SqL.of gl3⟩,?_⟩
  refine comp_lst (K:=K) (js:=[2,1]) (λy=>match y with | .int c=>decide (a<c) && decide (c<b)|_=>false) (λy=>y) (SqL.of gl3) ?g1 ?g2 ?g3 ?g4
  case g1=>rw [List.length_map];omega
  case g2=>
   intro y H4 Q' hy s4 q'
   obtain ⟨c,_,rfl⟩:=List.mem_map.mp hy
   refine ⟨_,rfl,_,rfl,_,_,rfl,rfl,_,rfl,?_⟩
   cases e:decide (a<c) with
   |true=>
    refine iteT ⟨_,rfl,_,_,rfl,rfl,_,rfl,?_⟩
    have q2:Q' (decide (a<c) && decide (c<b)) H4:=q'
    rw [e,Bool.true_and] at q2
    exact q2
   |false=>
    refine iteF ⟨_,rfl,?_⟩
    have q2:Q' (decide (a<c) && decide (c<b)) H4:=q'
    rw [e,Bool.false_and] at q2
    exact q2
  case g3=>exact λy H4 Q' _ _ _ q'=>⟨_,rfl,q'⟩
  case g4=>
  intro lc hlc
  have ef:((τ.map V.int).filter λy=>match y with | .int c=>decide (a<c) && decide (c<b)|_=>false).map (λy=>y)=(τ.filter λc=>decide (a<c) && decide (c<b)).map V.int:=by
   rw [List.map_id',List.filter_map]
   rfl
  rw [ef]
  generalize hμ:(τ.filter λc=>decide (a<c) && decide (c<b))=μ
  have s4:Same H3 (upd H3 lc (.lst (μ.map V.int))):=Same.new hlc
  have glc:(upd H3 lc (.lst (μ.map V.int))) lc=some (.lst (μ.map V.int)):=upd_same
  generalize upd H3 lc (.lst (μ.map V.int))=H4 at s4 glc ⊢
  have s24:Same H2 H4:=s3.trans s4
  have hfl:μ.length<=150:=by rw [<-hμ];exact Nat.le_trans (List.length_filter_le _ _) hτ60
  refine ⟨l2,lc,_,_,rfl,rfl,s24 _ _ gl2,glc,smallL (by rw [List.length_map];show 1+_<=2000;omega),λls hls=>?_⟩
  have s5:Same H4 (upd H4 ls (.lst ([.int a]++μ.map V.int))):=Same.new hls
  have gls:(upd H4 ls (.lst ([.int a]++μ.map V.int))) ls=some (.lst ((a::μ).map V.int)):=upd_same
  have gl4:H4 l=some (.lst []):=s24 _ _ (s2 _ _ gl1)
  have nls:ls≠l:=(ne_of_none gl4 hls).symm
  have gl5:=s5 _ _ gl4
  generalize upd H4 ls (.lst ([.int a]++μ.map V.int))=H5 at s5 gls gl5 ⊢
  have s05:Same H H5:=s12.trans (s24.trans s5)
  refine ⟨t,l,ls,a,b,a::μ,rfl,gls,nls,⟨_,gl5⟩,λls' L H6 s6 gL nL hL0 hL1=>?_⟩
  have gl6:=s6 _ _ gl5
  have s06:Same H H6:=s05.trans s6
  have hLl:L.length<=151:=by
   by_cases hab:a<b
   ·rw [hL1 hab,List.length_cons];omega
   ·rw [hL0 (by omega)];exact Nat.zero_le _
  have hLs:L.Pairwise (· < ·):=by
   by_cases hab:a<b
   ·rw [hL1 hab]
    refine List.pairwise_cons.mpr ⟨λc hc=>?_,?_⟩
    ·rw [<-hμ] at hc
     exact of_decide_eq_true (Bool.and_eq_true_iff.mp (List.mem_filter.mp hc).2).1
    ·rw [<-hμ];exact hτ.sublist List.filter_sublist
   ·rw [hL0 (by omega)];exact List.Pairwise.nil
  have hLb:∀ c∈L,a<=c/\c<b:=λc hc=>by
   by_cases hab:a<b
   ·rw [hL1 hab] at hc
    rcases List.mem_cons.mp hc with e|e
    ·omega
    ·rw [<-hμ] at e
     have:=Bool.and_eq_true_iff.mp (List.mem_filter.mp e).2
     have h1:=of_decide_eq_true this.1
     have h2:=of_decide_eq_true this.2
     omega
   ·rw [hL0 (by omega)] at hc;cases hc
  have hmL:∀ c,a<c->c<b->c∈ps.map (·.1)->c∈L:=λc h1 h2 hc=>by
   rw [hL1 (by omega),<-hμ]
   exact List.mem_cons_of_mem _ (List.mem_filter.mpr ⟨(hm c).mpr hc,by rw [decide_eq_true h1,decide_eq_true h2];rfl⟩)
  have hL00:a<b->L[0]?=some a:=λh=>by rw [hL1 h];rfl
  have hLn:L.length=0->b<=a:=λh=>by
   by_cases hab:a<b
   ·rw [hL1 hab,List.length_cons] at h;omega
   ·omega
  clear hL0 hL1 hμ
  have lenL:(L.map V.int).length=L.length:=List.length_map ..
  refine ⟨_,rfl,ls',_,rfl,.inl (SqL.of gL),_,rfl,by omega,by rw [lenL];omega,?_⟩
  rw [show (((L.map V.int).length:Nat):Int).toNat=L.length by rw [lenL];omega]
  refine for_range (λi σ H'=>∃ (ts:List Addr) (rs:List Run) (y5 y6 y7:Option V),σ=[some (.ref t),some (.int a),some (.int b),some (.ref l),some (.ref ls'),y5,y6,y7]/\Same H H'/\H' ls'=some (.lst (L.map V.int))/\
   H' l=some (.lst (ts.map V.ref))/\ts.length=rs.length/\(∀ (j:Nat) (t:Addr) (r:Run),ts[j]?=some t->rs[j]?=some r->H' t=some (.tup [.int r.1,.int r.2.1,r.2.2]))/\rs.length<=i/\(a<b->RunsFrom (atL v ps) (L.getD i b) a none rs)) ?_ ?_ ?_
  ·refine ⟨[],[],none,none,none,rfl,s06,gL,gl6,rfl,λj t r e _=>by simp at e,Nat.zero_le _,λhab=>?_⟩
   rw [List.getD_eq_getElem?_getD,hL00 hab]
   rfl
  ·rintro i σ H' hi ⟨ts,rs,y5,y6,y7,rfl,s7,gL7,gl7,htl,hts,hri,hR⟩
   have hc:L[i]?=some L[i]:=List.getElem?_eq_getElem hi
   generalize L[i]=c at hc
   have hcb:=hLb c (List.mem_of_getElem? hc)
   have hab:a<b:=by omega
   have hR':=hR hab
   rw [List.getD_eq_getElem?_getD,hc] at hR'
   have hR2:RunsFrom (atL v ps) c a none rs:=hR'
   clear hR' hR
   have hix:atI (L.map V.int) (0+(i:Int))=some (.int c):=atN (j:=i) (by omega) (by rw [List.getElem?_map,hc];rfl)
   refine ⟨_,rfl,⟨t,l,ls',a,b,L,i,y7,rfl,gL7,?_⟩⟩
   have hst:c<L.getD (i+1) b/\∀ z,c<=z->z<L.getD (i+1) b->atL v ps z=atL v ps c:=by
    obtain ⟨hi1,e1⟩:=List.getElem?_eq_some_iff.mp hc
    have hlt:∀ a b (ha:a<L.length) (hb:b<L.length),a<b->L[a]<L[b]:=λa b ha hb hab=>List.pairwise_iff_getElem.mp hLs a b ha hb hab
    have cs:c<L.getD (i+1) b:=by
     rw [List.getD_eq_getElem?_getD]
     by_cases h:i+1<L.length
     ·rw [List.getElem?_eq_getElem h]
      have:=hlt i (i+1) hi1 h (Nat.lt_succ_self _)
      show c<L[i+1]
      omega
     ·rw [List.getElem?_eq_none (by omega)]
      exact hcb.2
    refine ⟨cs,λz hz h=>(atL_const hz λq hq hw=>?_).symm⟩
    have sb:L.getD (i+1) b<=b:=by
     rw [List.getD_eq_getElem?_getD]
     by_cases h:i+1<L.length
     ·rw [List.getElem?_eq_getElem h]
      have:=(hLb _ (List.getElem_mem h)).2
      show L[i+1]<=b
      omega
     ·rw [List.getElem?_eq_none (by omega)]
      exact Int.le_refl _
    obtain ⟨j,hj,ej⟩:=List.mem_iff_getElem.mp (hmL q (by omega) (by omega) hq)
    have hij:i<j:=by
     rcases Nat.lt_trichotomy i j with w|w|w
     ·exact w
     ·subst w;omega
     ·have:=hlt j i hj hi1 w;omega
    have hi2:i+1<L.length:=by omega
    rw [List.getD_eq_getElem?_getD,List.getElem?_eq_getElem hi2] at h
    have h':z<L[i+1]:=h
    by_cases e:i+1=j
    ·subst e;omega
    ·have:=hlt (i+1) j hi2 hj (by omega)
     omega
   have gnx:∀ rs',RunsFrom (atL v ps) (L.getD (i+1) b) a none rs'->a<b->RunsFrom (atL v ps) (L.getD (i+1) b) a none rs':=λ_ h _=>h
   obtain ⟨hcs,hcon⟩:=hst
   generalize L.getD (i+1) b=st at hcs hcon gnx ⊢
   have hat:HV (atL v ps c):=hh.at
   refine ⟨_,rfl,_,rfl,_,rfl,ls',_,_,.int c,rfl,rfl,SqL.of gL7,hix,t,c,v,ps,rfl,(hT.same s7).at,by omega,?_⟩
   generalize atL v ps c=u at hcon hat ⊢
   refine ⟨_,rfl,Nat.zero_le _,λem hem=>?_⟩
   have s8:Same H' (upd H' em (.lst [])):=Same.new hem
   have gem:(upd H' em (.lst [])) em=some (.lst []):=upd_same
   generalize upd H' em (.lst [])=H8 at s8 gem ⊢
   have gl8:=s8 _ _ gl7
   have gL8:=s8 _ _ gL7
   have s08:=s7.trans s8
   have hts8:∀ (j:Nat) (t:Addr) (r:Run),ts[j]?=some t->rs[j]?=some r->H8 t=some (.tup [.int r.1,.int r.2.1,r.2.2]):=λj t r e1 e2=>s8 _ _ (hts j t r e1 e2)
   have hE:EqD K H8 false 1 (.ref l) (.ref em) (decide (rs=[])):=by
    cases ers:rs with
    |nil=>
     have ets:ts=[]:=by rw [ers] at htl;exact List.length_eq_zero_iff.mp htl
     rw [ets] at gl8
     exact EqD.lists (λ_=>true) (SqL.of gl8) (SqL.of gem) rfl λj x y e _=>by simp at e
    |cons r0 r1=>exact EqD.lens (SqL.of gl8) (SqL.of gem) (by rw [List.length_map,htl,ers,List.length_cons];exact Nat.succ_ne_zero _)
   have last:rs≠[]->∃ rs0 r ts0 tl,rs=rs0++[r]/\ts=ts0++[tl]/\ts0.length=rs0.length/\H8 tl=some (.tup [.int r.1,.int r.2.1,r.2.2]):=λhne=>by
    rcases List.eq_nil_or_concat rs with e|⟨rs0,r,e⟩
    ·exact absurd e hne
    ·rw [List.concat_eq_append] at e
     rcases List.eq_nil_or_concat ts with e'|⟨ts0,tl,e'⟩
     ·rw [e',e,List.length_append] at htl
      simp at htl
     ·rw [List.concat_eq_append] at e'
      have hl0:ts0.length=rs0.length:=by
       rw [e,e',List.length_append,List.length_append] at htl
       simpa using htl
      refine ⟨rs0,r,ts0,tl,e,e',hl0,hts8 ts0.length tl r ?_ ?_⟩
      ·rw [e'];simp
      ·rw [e,hl0];simp
   refine ⟨1,_,by decide,hE,_,rfl,andT (decide (lastV none rs=some u)) (λhne Q' q'=>?_) ?_⟩
   ·have hne':rs≠[]:=λe=>by rw [decide_eq_true e] at hne;cases hne
    obtain ⟨rs0,r,ts0,tl,e1,e2,_,g⟩:=last hne'
    have hrv:HV r.2.2:=hR2.hv (λx=>hh.at) r (by rw [e1];exact List.mem_append_right _ (List.mem_singleton.mpr rfl))
    have eL:(lastV none rs=some u)=(r.2.2=u):=by rw [e1,lastV_snoc];exact propext ⟨λz=>Option.some.inj z,λz=>congrArg some z⟩
    have q2:Q' (decide (r.2.2=u)) H8:=by
     have:decide (lastV none rs=some u)=decide (r.2.2=u):=by simp only [eL]
     rw [<-this];exact q'
    exact ⟨_,rfl,_,rfl,l,_,_,.ref tl,rfl,rfl,SqL.of gl8,(by rw [e2,List.map_append];exact atI_last _ _),tl,_,_,r.2.2,rfl,rfl,SqT.of g,atN (j:=2) rfl rfl,_,rfl,hrv.scal hat,_,rfl,q2⟩
   ·refine ite2 (λhc'=>?_) (λhc'=>?_)
    ·
     have hc2:=Bool.and_eq_true_iff.mp hc'
     have hne':rs≠[]:=λe=>by rw [decide_eq_true e] at hc2;cases hc2.1
     obtain ⟨rs0,r,ts0,tl,e1,e2,el,g⟩:=last hne'
     have eu:r.2.2=u:=by
      have:=of_decide_eq_true hc2.2
      rw [e1,lastV_snoc] at this
      exact Option.some.inj this
     have hix2:atI (ts.map V.ref) (-1)=some (.ref tl):=by rw [e2,List.map_append];exact atI_last _ _
     refine ⟨_,rfl,_,rfl,l,_,_,.ref tl,rfl,rfl,SqL.of gl8,hix2,tl,_,_,.int r.1,rfl,rfl,SqT.of g,atN (j:=0) rfl rfl,_,rfl,_,rfl,smallL (by show 3<=2000;decide),λt3 ht3=>?_⟩
     have s9:Same H8 (upd H8 t3 (.tup [.int r.1,.int st,u])):=Same.new ht3
     have g3:(upd H8 t3 (.tup [.int r.1,.int st,u])) t3=some (.tup [.int r.1,.int st,u]):=upd_same
     generalize upd H8 t3 (.tup [.int r.1,.int st,u])=H9 at s9 g3 ⊢
     have gl9:=s9 _ _ gl8
     have s09:=s08.trans s9
     refine ⟨_,rfl,_,rfl,l,_,_,ts.length - 1,rfl,rfl,gl9,(by rw [List.length_map];exact ixN_last (by rw [e2,List.length_append];simp)),?_⟩
     have hl9:H l=none:=hl
     have eset:(ts.map V.ref).set (ts.length - 1) (.ref t3)=(ts0++[t3]).map V.ref:=by
      rw [e2,List.map_append,List.map_append,List.length_append]
      show (ts0.map V.ref++[V.ref tl]).set (ts0.length+1 - 1) (.ref t3)=_
      rw [Nat.add_sub_cancel,List.set_append_right _ _ (by rw [List.length_map];exact Nat.le_refl _),List.length_map,Nat.sub_self]
      rfl
     rw [eset]
     refine ⟨ts0++[t3],rs0++[(r.1,st,u)],_,_,_,rfl,Same.upd s09 hl9,?_,upd_same,?_,λj t r' h1 h2=>?_,?_,gnx _ ?_⟩
     ·rw [upd_ne nL];exact s9 _ _ gL8
     ·rw [List.length_append,List.length_append,el];rfl
     ·by_cases hj:j<ts0.length
      ·rw [List.getElem?_append_left hj] at h1
       rw [List.getElem?_append_left (by omega)] at h2
       have h3:=s9 _ _ (hts8 j t r' (by rw [e2,List.getElem?_append_left hj];exact h1) (by rw [e1,List.getElem?_append_left (by omega)];exact h2))
       rw [upd_ne (ne_of h3 gl9 (by intro z;cases z))]
       exact h3
      ·rw [List.getElem?_append_right (by omega)] at h1
       rw [List.getElem?_append_right (by omega),<-el] at h2
       cases e3:j-ts0.length with
       |zero=>
        rw [e3] at h1 h2
        cases h1
        cases h2
        rw [upd_ne (ne_of g3 gl9 (by intro z;cases z))]
        exact g3
       |succ n=>rw [e3] at h1;simp at h1
     ·rw [e1,List.length_append,List.length_singleton] at hri
      rw [List.length_append,List.length_singleton]
      omega
     ·rw [e1] at hR2
      have:RunsFrom (atL v ps) c a none (rs0++[(r.1,r.2.1,u)]):=by rw [<-eu];exact hR2
      exact RunsFrom.grow hcs hcon this
    ·
     have hlv:lastV none rs≠some u:=λz=>by
      refine hc' ?_
      have hne':rs≠[]:=λe=>by rw [e] at z;cases z
      rw [decide_eq_false hne',decide_eq_true z]
      rfl
     have hix8:atI (L.map V.int) (0+(i:Int))=some (.int c):=hix
     refine ⟨_,rfl,.inl ⟨rfl,_,SqL.of gl8⟩,_,rfl,_,rfl,ls',_,_,.int c,rfl,rfl,SqL.of gL8,hix8,_,rfl,_,rfl,smallL (by show 3<=2000;decide),λt3 ht3=>?_⟩
     have s9:Same H8 (upd H8 t3 (.tup [.int c,.int st,u])):=Same.new ht3
     have g3:(upd H8 t3 (.tup [.int c,.int st,u])) t3=some (.tup [.int c,.int st,u]):=upd_same
     generalize upd H8 t3 (.tup [.int c,.int st,u])=H9 at s9 g3 ⊢
     have gl9:=s9 _ _ gl8
     have s09:=s08.trans s9
     refine ⟨l,_,_,rfl,rfl,gl9,small (by rw [List.length_map];omega),?_⟩
     have eapp:ts.map V.ref++[V.ref t3]=(ts++[t3]).map V.ref:=by rw [List.map_append];rfl
     rw [eapp]
     refine ⟨ts++[t3],rs++[(c,st,u)],_,_,_,rfl,Same.upd s09 hl,?_,upd_same,?_,λj t r' h1 h2=>?_,?_,gnx _ ?_⟩
     ·rw [upd_ne nL];exact s9 _ _ gL8
     ·rw [List.length_append,List.length_append,htl];rfl
     ·by_cases hj:j<ts.length
      ·rw [List.getElem?_append_left hj] at h1
       rw [List.getElem?_append_left (by omega)] at h2
       have h3:=s9 _ _ (hts8 j t r' h1 h2)
       rw [upd_ne (ne_of h3 gl9 (by intro z;cases z))]
       exact h3
      ·rw [List.getElem?_append_right (by omega)] at h1
       rw [List.getElem?_append_right (by omega),<-htl] at h2
       cases e3:j-ts.length with
       |zero=>
        rw [e3] at h1 h2
        cases h1
        cases h2
        rw [upd_ne (ne_of g3 gl9 (by intro z;cases z))]
        exact g3
       |succ n=>rw [e3] at h1;simp at h1
     ·rw [List.length_append,List.length_singleton];omega
     ·exact RunsFrom.snoc hcs hcon hR2 hlv
  ·rintro σ H' ⟨ts,rs,y5,y6,y7,rfl,s7,gL7,gl7,htl,hts,hri,hR⟩
   refine ⟨_,rfl,k l rs H' s7 hl ⟨ts,gl7,htl,hts⟩ ?_ (by omega)⟩
   by_cases hab:a<b
   ·refine .inr ⟨hab,?_⟩
    have:=hR hab
    rw [List.getD_eq_getElem?_getD,List.getElem?_eq_none (Nat.le_refl _)] at this
    exact this
   ·refine .inl ⟨by omega,?_⟩
    have:L.length=0:=by
     cases L with
     |nil=>rfl
     |cons c L=>have:=hLb c List.mem_cons_self;omega
    exact List.length_eq_zero_iff.mp (by omega)
end
section
variable {P:Program}{w:World}{K:PySem.W.Frag}{mg:Str->Option Value}{base:Heap}{C:Addr} [HoldKind]
def Room' (f:Int->V) (u:V) (n x:Int):Option Int->Prop
 |some y=>x<=y/\(∀ z,y<=z->z<y+n->f z=u)/\∀ y',x<=y'->y'<y->∃ z,y'<=z/\z<y'+n/\f z≠u
 |none=>∀ y',x<=y'->∃ z,y'<=z/\z<y'+n/\f z≠u
theorem Room'.unique {f:Int->V}{u:V}{n x:Int}:∀ {r r':Option Int},Room' f u n x r->Room' f u n x r'->r=r'
 |none,none,_,_=>rfl
 |none,some y,h,h'=>by
  obtain ⟨z,h1,h2,h3⟩:=h y h'.1
  exact absurd (h'.2.1 z h1 h2) h3
 |some y,none,h,h'=>by
  obtain ⟨z,h1,h2,h3⟩:=h' y h.1
  exact absurd (h.2.1 z h1 h2) h3
 |some y,some y',h,h'=>by
  by_cases h1:y<y'
  ·obtain ⟨z,z1,z2,z3⟩:=h'.2.2 y h.1 h1
   exact absurd (h.2.1 z z1 z2) z3
  ·by_cases h2:y'<y
   ·obtain ⟨z,z1,z2,z3⟩:=h.2.2 y' h'.1 h2
    exact absurd (h'.2.1 z z1 z2) z3
   ·rw [show y=y' by omega]
theorem atL_last {y:Int}:∀ (ps:List (Int×V)) (v:V),(∀ q∈ps,q.1<=y)->atL v ps y=lastH v ps:=by
 intro ps v
 refine snocRec (p:=λps=>(∀ q∈ps,q.1<=y)->atL v ps y=lastH v ps) (λ_=>rfl) (λr q ih h=>?_) ps
 rw [lastH_snoc,atL_append]
 show (if q.1<=y then q.2 else _)=_
 rw [if_pos (h q (List.mem_append_right _ (List.mem_singleton.mpr rfl)))]
structure RoomAt (f:Int->V) (u:V) (n x:Int) (ps rs:List (Int×V)) (w:V) (s:Int):Prop where
 le:x<=s
 cuts:∀ q∈rs,s<q.1
 st:Strict rs
 df:Diff w rs
 at':∀ y,s<=y->f y=atL w rs y
 no:∀ y',x<=y'->y'<s->∃ z,y'<=z/\z<y'+n/\f z≠u
 all:∀ q∈ps,q.1<=s∨q∈rs
theorem RoomAt.here {f:Int->V}{u:V}{n x s:Int}{ps rs:List (Int×V)}{w:V}{q:Int×V} (h:RoomAt f u n x ps (q::rs) w s) (hw:w=u) (hc:n<=q.1-s):Room' f u n x (some s):=by
 refine ⟨h.le,λz h1 h2=>?_,h.no⟩
 rw [h.at' z h1,atL_low λp hp=>?_,hw]
 rcases List.mem_cons.mp hp with e|e
 ·rw [e];omega
 ·have:=(List.pairwise_cons.mp h.st).1 p e
  omega
theorem RoomAt.step {f:Int->V}{u:V}{n x s:Int}{ps rs:List (Int×V)}{w:V}{q:Int×V} (h:RoomAt f u n x ps (q::rs) w s) (hn:1<=n) (hno:¬ (w=u/\n<=q.1-s)):RoomAt f u n x ps rs q.2 q.1:=by
 have hsq:=h.cuts q List.mem_cons_self
 have hst:=List.pairwise_cons.mp h.st
 have hq:∀ y,q.1<=y->f y=atL q.2 rs y:=λy hy=>by
  rw [h.at' y (by omega)]
  show atL (if q.1<=y then q.2 else w) rs y=_
  rw [if_pos hy]
 refine ⟨by have:=h.le;omega,hst.1,hst.2,h.df.2,hq,λy' h1 h2=>?_,λp hp=>?_⟩
 ·by_cases h3:y'<s
  ·exact h.no y' h1 h3
  ·have fy:f y'=w:=by
    rw [h.at' y' (by omega),atL_low λp hp=>?_]
    rcases List.mem_cons.mp hp with e|e
    ·rw [e];exact h2
    ·have:=hst.1 p e
     omega
   by_cases hw:w=u
   ·have h4:¬ n<=q.1-s:=λz=>hno ⟨hw,z⟩
    refine ⟨q.1,by omega,by omega,?_⟩
    rw [hq q.1 (Int.le_refl _),atL_low hst.1,<-hw]
    exact h.df.1
   ·exact ⟨y',Int.le_refl _,by omega,by rw [fy];exact hw⟩
 ·rcases h.all p hp with e|e
  ·exact .inl (by omega)
  ·rcases List.mem_cons.mp e with e|e
   ·exact .inl (by rw [e];exact Int.le_refl _)
   ·exact .inr e
def spRoom (K:PySem.W.Frag) (C:Addr):Sp:=λvs H Q _=>∃ (p:Addr) (u:V) (x n:Int) (v:V) (ps:List (Int×V)),vs=[.ref p,u,.int x,.int n]/\LineAt C H p v ps/\Form v ps/\HV u/\1<=n/\ps.length<=900/\
 ∀ (r:Option Int) (H':Hp),Same H H'->Room' (atL v ps) u n x r->Q (optV r) H'
theorem ok_room {f:Addr}{fd:FuncData} (F:Fun K "first_room" "first_room" s_first_room f fd) (T:Txt K mg C) (zz:mg "zip"=none) (DU:Def P w K mg base "cuts_up_to" ["line","place"] 1 (spUpTo C)):FnOk P w K mg base CX0 2 f fd ["line","value","place","size"] (spRoom K C):=by
 refine F.ok sc_first_room (λvs H Q E h=>?_) (λcdv A outer s H vs Q E hr h=>?_)
 ·obtain ⟨p,u,x,n,v,ps,rfl,_⟩:=h
  rfl
 ·obtain ⟨p,u,x,n,v,ps,rfl,hL,hF,hu,hn,hlen,k⟩:=h
  refine' ⟨_,pss_cons (ps_if ?a1 pss_never pss_nil)
   (pss_cons (ps_set (i:=4) sc_first_room.nd rfl (Or.inl rfl) (pe_callD DU hr rfl (pa_cons (pv 0) (pa_cons (pv 2) pa_nil))))
   (pss_cons (ps_set (i:=5) sc_first_room.nd rfl (Or.inl rfl) (pv 2))
   (pss_cons (ps_for PassesOwn.never rfl ?b1 (pg_tup rfl (pgs_cons (pg_name (i:=6) sc_first_room.nd rfl (Or.inl rfl)) (pgs_cons (pg_name (i:=7) sc_first_room.nd rfl (Or.inl rfl)) pgs_nil)))
    (pss_cons (ps_if ?b2 (pss_one (ps_ret (pv 5))) pss_nil) (pss_one (ps_set (i:=5) sc_first_room.nd rfl (Or.inl rfl) (pv 6)))))
   (pss_one (ps_ret ?c1))))),?rd⟩
  case a1=>exact pt_cmpR op_lt (pv 3) pe_int (nomark _)
  case b1=>exact pi_zip rfl zz (pa_cons (pe_slice sl_list (pe_fld (pv 0) rfl) (po_some (pv 4)) po_none) (pa_cons (pe_slice sl_list (pe_fld (pv 0) rfl) (po_some (pv 4)) po_none) pa_nil))
  case b2=>
   refine' PW.pt (pw_and ?x (pw_and1 ?y))
   case x=>exact pt_cmpR op_eq (pv 7) (pv 1) (nomark _)
   case y=>exact pt_cmpR op_ge (pe_op op_sub (pv 6) (pv 5)) (pv 3) (nomark _)
  case c1=>
   refine' pe_ifExp ?x (pv 5) pe_non
   case x=>exact pt_cmpR op_eq (pe_ix ix_list (pe_fld (pv 0) rfl) (pe_un un_neg pe_int) (λ_ _=>rfl)) (pv 1) (nomark _)
  case rd=>
  obtain ⟨dx,a,b,h1,h2,h3⟩:=id hL
  refine ⟨_,rfl,_,_,rfl,rfl,_,rfl,iteN (λz=>?_) ?_⟩
  ·have:=of_decide_eq_true z
   omega
  refine ⟨_,rfl,_,rfl,p,x,v,ps,rfl,hL,hF.st.rise,by omega,λn0 hup=>?_⟩
  refine ⟨_,rfl,?_⟩
  have ecut:cutV (cutsV ps) (some ((n0:Nat):Int)) none=cutsV (ps.drop n0):=by rw [cut_from,cutsV_drop]
  have ehold:cutV (holdsV v ps) (some ((n0:Nat):Int)) none=holdsV (atL v ps x) (ps.drop n0):=by rw [cut_from,holdsV_drop hup]
  refine ⟨_,rfl,p,C,dx,_,_,rfl,h1,T.cl,T.nC,flds_cuts _ _,_,rfl,_,rfl,a,_,rfl,SqL.of h2,λc1 hc1=>?_⟩
  rw [ecut]
  have s1:Same H (upd H c1 (.lst (cutsV (ps.drop n0)))):=Same.new hc1
  have gc1:(upd H c1 (.lst (cutsV (ps.drop n0)))) c1=some (.lst (cutsV (ps.drop n0))):=upd_same
  generalize upd H c1 (.lst (cutsV (ps.drop n0)))=H1 at s1 gc1 ⊢
  refine ⟨_,rfl,p,C,dx,_,_,rfl,s1 _ _ h1,T.cl,T.nH,flds_holds _ _,_,rfl,_,rfl,b,_,rfl,SqL.of (s1 _ _ h3),λc2 hc2=>?_⟩
  rw [ehold]
  have s2:Same H1 (upd H1 c2 (.lst (holdsV (atL v ps x) (ps.drop n0)))):=Same.new hc2
  have gc2:(upd H1 c2 (.lst (holdsV (atL v ps x) (ps.drop n0)))) c2=some (.lst (holdsV (atL v ps x) (ps.drop n0))):=upd_same
  have gc1':=s2 _ _ gc1
  have s02:=s1.trans s2
  generalize upd H1 c2 (.lst (holdsV (atL v ps x) (ps.drop n0)))=H2 at s02 gc1' gc2 ⊢
  have hR0:RoomAt (atL v ps) u n x ps (ps.drop n0) (atL v ps x) x:=⟨Int.le_refl _,λq hq=>hup.drop q hq,hF.st.sublist (List.drop_sublist _ _),diff_drop hF.df hup,λy hy=>hup.high hy,λy' z1 z2=>by omega,λq hq=>by
   rw [<-List.take_append_drop n0 ps] at hq
   rcases List.mem_append.mp hq with e|e
   ·exact .inl (hup.take q e)
   ·exact .inr e⟩
  generalize hrs:ps.drop n0=rs at hR0 gc1' gc2
  have hhw:∀ q∈rs,HV q.2:=λq hq=>hF.hh.hs q (List.mem_of_mem_drop (by rw [hrs];exact hq))
  have hw0:HV (atL v ps x):=hF.hh.at
  generalize atL v ps x=w0 at hR0 gc2 hw0
  clear ecut ehold
  refine ⟨c1,c2,_,_,rfl,SqL.of gc1',SqL.of gc2,?_⟩
  refine for_zip (K:=K) (a:=c1) (b:=c2) (xs:=cutsV rs) (ys:=holdsV w0 rs) rs.length (by show _=min (rs.map _).length ((rs.map _).length+1);rw [List.length_map,List.length_map];omega)
   (λi σ H'=>∃ (s:Int) (w:V) (y6 y7:Option V),σ=[some (.ref p),some u,some (.int x),some (.int n),some (.int (n0:Int)),some (.int s),y6,y7]/\Same H2 H'/\(holdsV w0 rs)[i]?=some w/\RoomAt (atL v ps) u n x ps (rs.drop i) w s) ?_ (λi σ H' _ ⟨_,_,_,_,_,s3,_⟩=>⟨s3.seq (SqL.of gc1'),s3.seq (SqL.of gc2)⟩) ?_ ?_
  ·exact ⟨x,w0,none,none,rfl,Same.refl,rfl,hR0⟩
  ·rintro i c w1 t σ H' hi hj ht ⟨s,w,y6,y7,rfl,s3,hwi,hR⟩
   obtain rfl:w=w1:=by rw [hwi] at hj;exact Option.some.inj hj
   have hil:i<rs.length:=by
    have:=(List.getElem?_eq_some_iff.mp hi).1
    rw [List.length_map] at this
    exact this
   obtain ⟨q,hq⟩:∃ q,rs[i]?=some q:=⟨_,List.getElem?_eq_getElem hil⟩
   obtain rfl:V.int q.1=c:=by
    rw [List.getElem?_map,hq] at hi
    exact Option.some.inj hi
   have hdrop:rs.drop i=q::rs.drop (i+1):=by
    rw [List.drop_eq_getElem_cons hil]
    congr 1
    have:=List.getElem?_eq_getElem hil
    rw [hq] at this
    exact (Option.some.inj this).symm
   rw [hdrop] at hR
   have hwv:HV w:=by
    cases i with
    |zero=>cases hwi;exact hw0
    |succ i=>
     have:(rs.map (·.2))[i]?=some w:=hwi
     obtain ⟨q',hq',rfl⟩:=List.mem_map.mp (List.mem_of_getElem? this)
     exact hhw q' hq'
   have s7:Same H' (upd H' t (.tup [.int q.1,w])):=Same.new ht
   have gt:(upd H' t (.tup [.int q.1,w])) t=some (.tup [.int q.1,w]):=upd_same
   refine ⟨t,_,rfl,SqT.of gt,rfl,_,_,rfl,_,_,rfl,rfl,?_⟩
   have s37:=s3.trans s7
   generalize upd H' t (.tup [.int q.1,w])=H7 at s37 ⊢
   refine ⟨_,rfl,_,rfl,hwv.scal hu,_,rfl,andT (decide (n<=q.1-s)) (λ_ Q' q'=>?_) ?_⟩
   ·exact ⟨_,rfl,_,rfl,_,_,rfl,rfl,_,rfl,_,_,rfl,rfl,_,rfl,q'⟩
   ·refine ite2 (λhc=>?_) (λhc=>?_)
    ·have hc':=Bool.and_eq_true_iff.mp hc
     exact ⟨_,rfl,k (some s) H7 (s02.trans s37) (hR.here (of_decide_eq_true hc'.1) (of_decide_eq_true hc'.2))⟩
    ·have hno:¬ (w=u/\n<=q.1-s):=λz=>hc (by rw [decide_eq_true z.1,decide_eq_true z.2];rfl)
     refine ⟨_,rfl,q.1,q.2,_,_,rfl,s37,?_,hR.step hn hno⟩
     show (rs.map (·.2))[i]?=_
     rw [List.getElem?_map,hq];rfl
  ·rintro σ H' ⟨s,w,y6,y7,rfl,s3,hwi,hR⟩
   rw [List.drop_eq_nil_of_le (Nat.le_refl _)] at hR
   have hall:∀ q∈ps,q.1<=s:=λq hq=>by
    rcases hR.all q hq with e|e
    ·exact e
    ·cases e
   have hwl:w=lastH v ps:=by
    rw [<-atL_last ps v hall]
    exact (hR.at' s (Int.le_refl _)).symm
   have hlv:HV (lastH v ps):=lastH_hv hF.hh
   have h2':Same H H':=s02.trans s3
   refine ⟨_,rfl,p,C,dx,_,_,rfl,h2' _ _ h1,T.cl,T.nH,flds_holds _ _,_,rfl,b,_,_,_,rfl,rfl,SqL.of (h2' _ _ h3),atI_lastH v ps,_,rfl,hlv.scal hu,_,rfl,ite2 (λhc=>?_) (λhc=>?_)⟩
   ·have e:lastH v ps=u:=of_decide_eq_true hc
    exact ⟨_,rfl,k (some s) H' h2' ⟨hR.le,λz z1 _=>by rw [hR.at' z z1];exact hwl.trans e,hR.no⟩⟩
   ·have e:lastH v ps≠u:=λz=>hc (decide_eq_true z)
    refine k none H' h2' λy' z1=>?_
    by_cases z2:y'<s
    ·exact hR.no y' z1 z2
    ·exact ⟨y',Int.le_refl _,by omega,by rw [hR.at' y' (by omega)];exact λz=>e (hwl.symm.trans z)⟩
end
section
variable {P:Program}{w:World}{K:PySem.W.Frag}{mg:Str->Option Value}{base:Heap}{C:Addr} [HoldKind]
def RoomSt (f:Int->V) (u:V) (n x:Int) (L:List Int) (i:Nat):Option Int->Prop
 |none=>∀ y',x<=y'->(∀ c,L[i]?=some c->y'<c)->∃ z,y'<=z/\z<y'+n/\f z≠u
 |some s=>∃ c,L[i]?=some c/\x<=s/\s<=c/\c-s<n/\(∀ z,s<=z->z<c->f z=u)/\∀ y',x<=y'->y'<s->∃ z,y'<=z/\z<y'+n/\f z≠u
theorem RoomSt.miss {f:Int->V}{u:V}{n x c:Int}{L:List Int}{i:Nat}{r:Option Int} (h:RoomSt f u n x L i r) (hc:L[i]?=some c) (hn:1<=n) (hp:∀ z,c<=z->(∀ c',L[i+1]?=some c'->z<c')->f z=f c) (hw:f c≠u):RoomSt f u n x L (i+1) none:=by
 intro y' h1 h2
 by_cases hy:c<=y'
 ·exact ⟨y',Int.le_refl _,by omega,by rw [hp y' hy h2];exact hw⟩
 ·cases r with
  |none=>exact h y' h1 λc' e=>by rw [hc] at e;cases e;omega
  |some s=>
   obtain ⟨c',e,hxs,hsc,hcs,hall,hno⟩:=h
   rw [hc] at e
   cases e
   by_cases hys:y'<s
   ·exact hno y' h1 hys
   ·exact ⟨c,by omega,by omega,hw⟩
theorem RoomSt.hit {f:Int->V}{u:V}{n x c:Int}{L:List Int}{i:Nat}{r:Option Int} (h:RoomSt f u n x L i r) (hc:L[i]?=some c) (hxc:x<=c) (hp:∀ z,c<=z->(∀ c',L[i+1]?=some c'->z<c')->f z=f c) (hw:f c=u) :
  x<=r.getD c/\r.getD c<=c/\(∀ z,r.getD c<=z->(∀ c',L[i+1]?=some c'->z<c')->f z=u)/\∀ y',x<=y'->y'<r.getD c->∃ z,y'<=z/\z<y'+n/\f z≠u:=by
 cases r with
 |none=>exact ⟨hxc,Int.le_refl _,λz h1 h2=>(hp z h1 h2).trans hw,λy' h1 h2=>h y' h1 λc' e=>by rw [hc] at e;cases e;exact h2⟩
 |some s=>
  obtain ⟨c',e,hxs,hsc,hcs,hall,hno⟩:=h
  rw [hc] at e
  cases e
  refine ⟨hxs,hsc,λz h1 h2=>?_,hno⟩
  by_cases hz:z<c
  ·exact hall z h1 hz
  ·exact (hp z (by omega) h2).trans hw
def spLawRoom:Sp:=λvs H Q _=>∃ (t:Addr) (u:V) (x n:Int) (v:V) (ps:List (Int×V)),vs=[.ref t,u,.int x,.int n]/\ToldH H t v ps/\Holds v ps/\HV u/\1<=n/\ps.length<=150/\
 ∀ (r:Option Int) (H':Hp),Same H H'->Room' (atL v ps) u n x r->Q (optV r) H'
abbrev scR1:Scope:={ kind:=.function,names:=[(".0",.local),("cut",.local),("place",.free)],isGenerator:=false,isCoroutine:=false,more:=[] }
theorem cs_r1:CScope (defScope s_law_room) scR1 ["told","value","place","size","starts","since","k"] ["cut","place"] [2] "cut":=
 ⟨rfl,by decide +kernel,by decide +kernel,by decide +kernel,by decide +kernel,rfl,by decide +kernel,by decide +kernel,by decide +kernel,by decide +kernel⟩
theorem ok_lawroom {f:Addr}{fd:FuncData} (F:Fun K "_law_room" "_law_room" s_law_room f fd) (T:Txt K mg C) (DA:Def P w K mg base "_law_at" ["told","place"] 1 (spAt K)):FnOk P w K mg base CX0 2 f fd ["told","value","place","size"] spLawRoom:=by
 refine F.ok sc_law_room (λvs H Q E h=>?_) (λcdv A outer s H vs Q E hr h=>?_)
 ·obtain ⟨t,u,x,n,v,ps,rfl,_⟩:=h
  rfl
 ·obtain ⟨t,u,x,n,v,ps,rfl,hT,hh,hu,hn,hl,k⟩:=h
  refine' ⟨_,pss_cons (ps_set (i:=4) sc_law_room.nd rfl (Or.inl rfl) (pe_op op_cat ?a1 ?a2))
   (pss_cons (ps_set (i:=5) sc_law_room.nd rfl (Or.inl rfl) pe_non)
   (pss_cons (ps_for PassesOwn.never rfl (pi_range1 rfl T.range (pa_cons (pe_callB call_len_seq rfl T.len PySem.boot_len (pa_cons (pv 4) pa_nil)) pa_nil)) (pg_name (i:=6) sc_law_room.nd rfl (Or.inl rfl))
    (pss_cons (ps_if ?b1 (pss_one (ps_set (i:=5) sc_law_room.nd rfl (Or.inl rfl) pe_non)) (pss_one (ps_if ?b2 (pss_one (ps_set (i:=5) sc_law_room.nd rfl (Or.inl rfl) ?b3)) pss_nil)))
    (pss_one (ps_if ?b4 (pss_one (ps_ret (pv 5))) pss_nil))))
   (pss_one (ps_ret pe_non)))),?rd⟩
  case a1=>exact pe_lst (pa_cons (pv 2) pa_nil)
  case a2=>
   refine' pe_comp cs_r1 rfl rfl rfl ?y1 ?y2 ?y3
   case y1=>exact pi_list (pe_sortset rfl rfl T.sorted rfl T.set (pe_ix ix_tup (pv 0) pe_int (λ_ _=>rfl)))
   case y2=>exact λ_ _ _ _ _=>pf_one (pt_cmpR op_gt (pv 0) (pv 1) (nomark _))
   case y3=>exact λ_ _ _ _ _=>pv 0
  case b1=>
   refine' pt_cmpR op_ne ?x (pv 1) (nomark _)
   case x=>exact pe_callD DA hr rfl (pa_cons (pv 0) (pa_cons (pe_ix ix_list (pv 4) (pv 6) (λ_ _=>rfl)) pa_nil))
  case b2=>exact pt_cmp (pc_isN (pv 5))
  case b3=>exact pe_ix ix_list (pv 4) (pv 6) (λ_ _=>rfl)
  case b4=>
   refine' PW.pt (pw_and ?x (pw_and1 (PW.pt (pw_or ?y (pw_or1 ?z)))))
   case x=>exact pt_cmp (pc_notN (pv 5))
   case y=>exact pt_cmpR op_eq (pe_op op_add (pv 6) pe_int) (pe_callB call_len_seq rfl T.len PySem.boot_len (pa_cons (pv 4) pa_nil)) (nomark _)
   case z=>exact pt_cmpR op_ge (pe_op op_sub (pe_ix ix_list (pv 4) (pe_op op_add (pv 6) pe_int) (λ_ _=>rfl)) (pv 5)) (pv 3) (nomark _)
  case rd=>
  obtain ⟨a1,b1,gt,ga,gb⟩:=id hT
  have ecv:cutsV ps=(ps.map (·.1)).map V.int:=by rw [List.map_map];rfl
  refine ⟨_,rfl,smallL (by show 1<=2000;decide),λl1 hl1'=>?_⟩
  have s1:Same H (upd H l1 (.lst [.int x])):=Same.new hl1'
  have gl1:(upd H l1 (.lst [.int x])) l1=some (.lst [.int x]):=upd_same
  generalize upd H l1 (.lst [.int x])=H1 at s1 gl1 ⊢
  have ll:(ps.map (·.1)).length<=150:=by rw [List.length_map];omega
  refine ⟨_,rfl,t,_,_,.ref a1,rfl,rfl,SqT.of (s1 _ _ gt),atN (j:=0) rfl rfl,a1,ps.map (·.1),rfl,SqL.of (by rw [<-ecv];exact s1 _ _ ga),by omega,Nat.lt_of_le_of_lt (ddup_le _) (by omega),λl3 τ hl3 hτ hm hτl=>?_⟩
  have hτ60:τ.length<=150:=by have:=ddup_le (ps.map (·.1));omega
  have s3:Same H1 (upd H1 l3 (.lst (τ.map V.int))):=Same.new hl3
  have gl3:(upd H1 l3 (.lst (τ.map V.int))) l3=some (.lst (τ.map V.int)):=upd_same
  generalize upd H1 l3 (.lst (τ.map V.int))=H3 at s3 gl3 ⊢
  refine ⟨l3,rfl,⟨_,SqL.of gl3⟩,?_⟩
  refine comp_lst (K:=K) (js:=[2]) (λy=>match y with | .int c=>decide (x<c)|_=>false) (λy=>y) (SqL.of gl3) ?g1 ?g2 ?g3 ?g4
  case g1=>rw [List.length_map];omega
  case g2=>
   intro y H4 Q' hy s4 q'
   obtain ⟨c,_,rfl⟩:=List.mem_map.mp hy
   exact ⟨_,rfl,_,rfl,_,_,rfl,rfl,_,rfl,q'⟩
  case g3=>exact λy H4 Q' _ _ _ q'=>⟨_,rfl,q'⟩
  case g4=>
  intro lc hlc
  have ef:((τ.map V.int).filter λy=>match y with | .int c=>decide (x<c)|_=>false).map (λy=>y)=(τ.filter λc=>decide (x<c)).map V.int:=by
   rw [List.map_id',List.filter_map]
   rfl
  rw [ef]
  have s4:Same H3 (upd H3 lc (.lst ((τ.filter λc=>decide (x<c)).map V.int))):=Same.new hlc
  have glc:(upd H3 lc (.lst ((τ.filter λc=>decide (x<c)).map V.int))) lc=some (.lst ((τ.filter λc=>decide (x<c)).map V.int)):=upd_same
  generalize upd H3 lc (.lst ((τ.filter λc=>decide (x<c)).map V.int))=H4 at s4 glc ⊢
  have s14:Same H1 H4:=s3.trans s4
  have hfl:(τ.filter λc=>decide (x<c)).length<=150:=Nat.le_trans (List.length_filter_le _ _) hτ60
  refine ⟨l1,lc,_,_,rfl,rfl,s14 _ _ gl1,glc,smallL (by rw [List.length_map];show 1+_<=2000;omega),λls hls=>?_⟩
  have s5:Same H4 (upd H4 ls (.lst ([.int x]++(τ.filter λc=>decide (x<c)).map V.int))):=Same.new hls
  have gls:(upd H4 ls (.lst ([.int x]++(τ.filter λc=>decide (x<c)).map V.int))) ls=some (.lst ((x::τ.filter λc=>decide (x<c)).map V.int)):=upd_same
  generalize upd H4 ls (.lst ([.int x]++(τ.filter λc=>decide (x<c)).map V.int))=H5 at s5 gls ⊢
  have s05:Same H H5:=(s1.trans s14).trans s5
  have hmL:∀ c,x<c->c∈ps.map (·.1)->c∈x::τ.filter λc=>decide (x<c):=λc hx hc=>List.mem_cons_of_mem _ (List.mem_filter.mpr ⟨(hm c).mpr hc,decide_eq_true hx⟩)
  have hLs:(x::τ.filter λc=>decide (x<c)).Pairwise (· < ·):=List.pairwise_cons.mpr ⟨λc hc=>of_decide_eq_true (List.mem_filter.mp hc).2,hτ.sublist (List.filter_sublist)⟩
  have hLx:∀ c∈x::τ.filter λc=>decide (x<c),x<=c:=λc hc=>by
   rcases List.mem_cons.mp hc with e|e
   ·omega
   ·exact Int.le_of_lt (of_decide_eq_true (List.mem_filter.mp e).2)
  have hLl:(x::τ.filter λc=>decide (x<c)).length<=151:=by rw [List.length_cons];omega
  have hL0:(x::τ.filter λc=>decide (x<c))[0]?=some x:=rfl
  generalize x::τ.filter (λc=>decide (x<c))=L at hmL hLs hLx gls hLl hL0
  have hpc:∀ (i:Nat) (c:Int),L[i]?=some c->∀ z,c<=z->(∀ c',L[i+1]?=some c'->z<c')->atL v ps z=atL v ps c:=λi c hc z hz h=>by
   refine (atL_const hz λq hq hw=>?_).symm
   have hxc:=hLx c (List.mem_of_getElem? hc)
   obtain ⟨j,hj,ej⟩:=List.mem_iff_getElem.mp (hmL q (by omega) hq)
   obtain ⟨hi,ei⟩:=List.getElem?_eq_some_iff.mp hc
   have hlt:∀ a b (ha:a<L.length) (hb:b<L.length),a<b->L[a]<L[b]:=λa b ha hb hab=>List.pairwise_iff_getElem.mp hLs a b ha hb hab
   have hij:i<j:=by
    rcases Nat.lt_trichotomy i j with w|w|w
    ·exact w
    ·subst w;omega
    ·have:=hlt j i hj hi w;omega
   have hi1:i+1<L.length:=by omega
   have h4:=h L[i+1] (List.getElem?_eq_getElem hi1)
   by_cases e:i+1=j
   ·subst e;omega
   ·have:=hlt (i+1) j hi1 hj (by omega)
    omega
  have lenL:(L.map V.int).length=L.length:=List.length_map ..
  refine ⟨_,rfl,ls,_,rfl,.inl (SqL.of gls),_,rfl,by omega,by rw [lenL];omega,?_⟩
  rw [show (((L.map V.int).length:Nat):Int).toNat=L.length by rw [lenL];omega]
  refine for_range (λi σ H'=>H'=H5/\∃ (r:Option Int) (m:Option V),σ=[some (.ref t),some u,some (.int x),some (.int n),some (.ref ls),some (optV r),m]/\RoomSt (atL v ps) u n x L i r) ?_ ?_ ?_
  ·exact ⟨rfl,none,none,rfl,λy' h1 h2=>absurd (h2 x hL0) (by omega)⟩
  ·rintro i σ H' hi ⟨rfl,r,m,rfl,hR⟩
   have hc:L[i]?=some L[i]:=List.getElem?_eq_getElem hi
   generalize L[i]=c at hc
   have hxc:=hLx c (List.mem_of_getElem? hc)
   have hix:atI (L.map V.int) (0+(i:Int))=some (.int c):=atN (j:=i) (by omega) (by rw [List.getElem?_map,hc];rfl)
   refine ⟨_,rfl,_,rfl,_,rfl,ls,_,_,.int c,rfl,rfl,SqL.of gls,hix,t,c,v,ps,rfl,(hT.same s05).at,by omega,_,rfl,hh.at.scal hu,_,rfl,ite2 (λhw=>?_) (λhw=>?_)⟩
   ·have hne:atL v ps c≠u:=λe=>by rw [decide_eq_true e] at hw;cases hw
    exact ⟨_,rfl,false,rfl,iteF ⟨rfl,none,_,rfl,hR.miss hc hn (hpc i c hc) hne⟩⟩
   ·have heq:atL v ps c=u:=by
     by_cases e:atL v ps c=u
     ·exact e
     ·exact absurd (by rw [decide_eq_false e];rfl) hw
    have hit:=hR.hit hc hxc (hpc i c hc) heq
    cases r with
    |none=>
     obtain ⟨hxs,hsc,hall,hno⟩:x<=c/\c<=c/\_/\_:=hit
     refine ⟨_,rfl,true,rfl,iteT ⟨_,rfl,_,rfl,ls,_,_,.int c,rfl,rfl,SqL.of gls,hix,?_⟩⟩
     refine ⟨_,rfl,true,rfl,iteT ?_⟩
     cases e:L[i+1]? with
     |none=>
      have hi1:¬ i+1<L.length:=λz=>by rw [List.getElem?_eq_getElem z] at e;cases e
      have hlen:(0+(i:Int)+1)=(((L.map V.int).length:Nat):Int):=by rw [lenL];omega
      refine ⟨_,rfl,_,_,rfl,rfl,_,rfl,ls,_,rfl,.inl (SqL.of gls),rfl,_,rfl,iteP (decide_eq_true (congrArg V.int hlen)) (iteT ?_)⟩
      exact ⟨_,rfl,k (some c) H' s05 ⟨hxs,λz z1 _=>hall z z1 λc' e'=>(by rw [e] at e';cases e'),hno⟩⟩
     |some c'=>
      obtain ⟨a2,e2⟩:=List.getElem?_eq_some_iff.mp e
      have hlen:(0+(i:Int)+1)≠(((L.map V.int).length:Nat):Int):=by rw [lenL];omega
      have hix':atI (L.map V.int) (0+(i:Int)+1)=some (.int c'):=atN (j:=i+1) (by omega) (by rw [List.getElem?_map,e];rfl)
      refine ⟨_,rfl,_,_,rfl,rfl,_,rfl,ls,_,rfl,.inl (SqL.of gls),rfl,_,rfl,iteN (λz=>hlen (V.int.inj (of_decide_eq_true z))) ?_⟩
      refine ⟨_,rfl,_,rfl,_,_,rfl,rfl,ls,_,_,.int c',rfl,rfl,SqL.of gls,hix',_,rfl,_,_,rfl,rfl,_,rfl,_,_,rfl,rfl,_,rfl,ite2 (λhcs=>?_) (λhcs=>?_)⟩
      ·have hcs':n<=c'-c:=of_decide_eq_true hcs
       exact ⟨_,rfl,k (some c) H' s05 ⟨hxs,λz z1 z2=>hall z z1 λc'' e'=>(by rw [e] at e';cases e';omega),hno⟩⟩
      ·have hcs':¬ n<=c'-c:=λz=>hcs (decide_eq_true z)
       have hcc:c<c':=by
        obtain ⟨a1,e1⟩:=List.getElem?_eq_some_iff.mp hc
        have:=List.pairwise_iff_getElem.mp hLs i (i+1) a1 a2 (Nat.lt_succ_self _)
        omega
       exact ⟨rfl,some c,_,rfl,c',e,hxs,by omega,by omega,λz z1 z2=>hall z z1 λc'' e'=>(by rw [e] at e';cases e';exact z2),hno⟩
    |some s'=>
     obtain ⟨hxs,hsc,hall,hno⟩:x<=s'/\s'<=c/\_/\_:=hit
     refine ⟨_,rfl,false,rfl,iteF ?_⟩
     refine ⟨_,rfl,true,rfl,iteT ?_⟩
     cases e:L[i+1]? with
     |none=>
      have hi1:¬ i+1<L.length:=λz=>by rw [List.getElem?_eq_getElem z] at e;cases e
      have hlen:(0+(i:Int)+1)=(((L.map V.int).length:Nat):Int):=by rw [lenL];omega
      refine ⟨_,rfl,_,_,rfl,rfl,_,rfl,ls,_,rfl,.inl (SqL.of gls),rfl,_,rfl,iteP (decide_eq_true (congrArg V.int hlen)) (iteT ?_)⟩
      exact ⟨_,rfl,k (some s') H' s05 ⟨hxs,λz z1 _=>hall z z1 λc' e'=>(by rw [e] at e';cases e'),hno⟩⟩
     |some c'=>
      obtain ⟨a2,e2⟩:=List.getElem?_eq_some_iff.mp e
      have hlen:(0+(i:Int)+1)≠(((L.map V.int).length:Nat):Int):=by rw [lenL];omega
      have hix':atI (L.map V.int) (0+(i:Int)+1)=some (.int c'):=atN (j:=i+1) (by omega) (by rw [List.getElem?_map,e];rfl)
      refine ⟨_,rfl,_,_,rfl,rfl,_,rfl,ls,_,rfl,.inl (SqL.of gls),rfl,_,rfl,iteN (λz=>hlen (V.int.inj (of_decide_eq_true z))) ?_⟩
      refine ⟨_,rfl,_,rfl,_,_,rfl,rfl,ls,_,_,.int c',rfl,rfl,SqL.of gls,hix',_,rfl,_,_,rfl,rfl,_,rfl,_,_,rfl,rfl,_,rfl,ite2 (λhcs=>?_) (λhcs=>?_)⟩
      ·have hcs':n<=c'-s':=of_decide_eq_true hcs
       exact ⟨_,rfl,k (some s') H' s05 ⟨hxs,λz z1 z2=>hall z z1 λc'' e'=>(by rw [e] at e';cases e';omega),hno⟩⟩
      ·have hcs':¬ n<=c'-s':=λz=>hcs (decide_eq_true z)
       have hcc:c<c':=by
        obtain ⟨a1,e1⟩:=List.getElem?_eq_some_iff.mp hc
        have:=List.pairwise_iff_getElem.mp hLs i (i+1) a1 a2 (Nat.lt_succ_self _)
        omega
       exact ⟨rfl,some s',_,rfl,c',e,hxs,by omega,by omega,λz z1 z2=>hall z z1 λc'' e'=>(by rw [e] at e';cases e';exact z2),hno⟩
  ·rintro σ H' ⟨rfl,r,m,rfl,hR⟩
   cases r with
   |some s=>
    obtain ⟨c,hc,_⟩:=hR
    rw [List.getElem?_eq_none (Nat.le_refl _)] at hc
    cases hc
   |none=>exact k none H' s05 λy' h1=>hR y' h1 λc e=>by rw [List.getElem?_eq_none (Nat.le_refl _)] at e;cases e
end
section
variable {P:Program}{w:World}{K:PySem.W.Frag}{mg:Str->Option Value}{base:Heap}{C:Addr} [HoldKind]
abbrev LRow:=Addr×V×List (Int×V)
def LinesAt (K:PySem.W.Frag) (C:Addr) (H:Hp) (r:Addr) (ls:List LRow):Prop:=SqL K H r (ls.map λq=>V.ref q.1)/\∀ q∈ls,LineAt C H q.1 q.2.1 q.2.2
theorem LinesAt.same {H H':Hp}{r:Addr}{ls:List LRow} (h:LinesAt K C H r ls) (s:Same H H'):LinesAt K C H' r ls:=⟨s.seq h.1,λq hq=>(h.2 q hq).same s⟩
def allCuts (ls:List LRow):List Int:=ls.flatMap λq=>q.2.2.map (·.1)
def spAllCuts (K:PySem.W.Frag) (C:Addr):Sp:=λvs H Q _=>∃ (r:Addr) (ls:List LRow),vs=[.ref r]/\LinesAt K C H r ls/\(allCuts ls).length<=200/\
 ∀ (l:Addr) (H':Hp) (τ:List Int),Same H H'->H l=none->H' l=some (.lst (τ.map V.int))->τ.Pairwise (· < ·)->(∀ x,x∈τ ↔ x∈allCuts ls)->τ.length<=(allCuts ls).length->Q (.ref l) H'
theorem allCuts_take {ls:List LRow}{i:Nat}{q:LRow} (h:ls[i]?=some q):allCuts (ls.take (i+1))=allCuts (ls.take i)++q.2.2.map (·.1):=by
 unfold allCuts
 rw [List.take_add_one,h,List.flatMap_append]
 simp
theorem allCuts_le {ls:List LRow} (i:Nat):(allCuts (ls.take i)).length<=(allCuts ls).length:=by
 have e:allCuts ls=allCuts (ls.take i)++allCuts (ls.drop i):=by
  unfold allCuts
  rw [<-List.flatMap_append,List.take_append_drop]
 rw [e,List.length_append]
 omega
theorem ok_allcuts {f:Addr}{fd:FuncData} (F:Fun K "cuts_of_all" "cuts_of_all" s_cuts_of_all f fd) (T:Txt K mg C):FnOk P w K mg base CX0 1 f fd ["lines"] (spAllCuts K C):=by
 refine F.ok sc_cuts_of_all (λvs H Q E h=>?_) (λcdv A outer s H vs Q E hr h=>?_)
 ·obtain ⟨r,ls,rfl,_⟩:=h
  rfl
 ·obtain ⟨r,ls,rfl,hL,hlen,k⟩:=h
  refine' ⟨_,pss_cons (ps_set (i:=1) sc_cuts_of_all.nd rfl (Or.inl rfl) (pe_lst pa_nil))
   (pss_cons (ps_for PassesOwn.never rfl (pi_list (pv 0)) (pg_name (i:=2) sc_cuts_of_all.nd rfl (Or.inl rfl)) (pss_one (ps_expr ?a1)))
   (pss_one (ps_ret ?a2))),?rd⟩
  case a1=>exact pe_bm PySem.F.plainAttrs_list PySem.F.slot_list_extend PySem.F.type_list_extend mt_extend (pv 1) (pa_cons (pe_fld (pv 2) rfl) pa_nil)
  case a2=>exact pe_sortset rfl rfl T.sorted rfl T.set (pv 1)
  case rd=>
  refine ⟨Nat.zero_le _,λcu hcu=>?_⟩
  have s0:Same H (upd H cu (.lst [])):=Same.new hcu
  refine ⟨_,rfl,r,rfl,⟨_,s0.seq hL.1⟩,?_⟩
  refine for_list (K:=K) (a:=r) (xs:=ls.map λq=>V.ref q.1) (λi σ H'=>∃ x2:Option V,σ=[some (.ref r),some (.ref cu),x2]/\Same H H'/\H' cu=some (.lst ((allCuts (ls.take i)).map V.int))) ?_ (λi σ H' _ ⟨_,_,s1,_⟩=>s1.seq hL.1) ?_ ?_
  ·exact ⟨none,rfl,s0,upd_same⟩
  ·rintro i v σ H' hi ⟨x2,rfl,s1,gc⟩
   have hil:i<ls.length:=by
    have:=(List.getElem?_eq_some_iff.mp hi).1
    rw [List.length_map] at this
    exact this
   obtain ⟨q,hq⟩:∃ q,ls[i]?=some q:=⟨_,List.getElem?_eq_getElem hil⟩
   obtain rfl:V.ref q.1=v:=by
    rw [List.getElem?_map,hq] at hi
    exact Option.some.inj hi
   obtain ⟨dx,a,b,h1,h2,h3⟩:=(hL.same s1).2 q (List.mem_of_getElem? hq)
   have ecv:cutsV q.2.2=(q.2.2.map (·.1)).map V.int:=by rw [List.map_map];rfl
   have hz:((allCuts (ls.take i)).map V.int).length+(cutsV q.2.2).length<=2000:=by
    have h4:=allCuts_le (ls:=ls) (i+1)
    rw [allCuts_take hq,List.length_append,List.length_map] at h4
    rw [List.length_map,List.length_map]
    omega
   refine ⟨_,rfl,.inl ⟨rfl,_,SqL.of gc⟩,_,rfl,q.1,C,dx,_,_,rfl,h1,T.cl,T.nC,flds_cuts _ _,cu,a,_,_,rfl,rfl,gc,h2,smallL hz,?_⟩
   refine ⟨_,rfl,Same.upd s1 hcu,?_⟩
   rw [upd_same,allCuts_take hq,List.map_append,ecv]
  ·rintro σ H' ⟨x2,rfl,s1,gc⟩
   rw [List.take_of_length_le (by rw [List.length_map];exact Nat.le_refl _)] at gc
   have hdd:=ddup_le (allCuts ls)
   refine ⟨_,rfl,cu,allCuts ls,rfl,SqL.of gc,by omega,by omega,λl τ hl hτ hm hτl=>?_⟩
   exact k l _ τ (Same.upd s1 (s1.free hl)) (s1.free hl) upd_same hτ hm (by omega)
def spBetween (K:PySem.W.Frag) (C:Addr):Sp:=λvs H Q _=>∃ (p c:Addr) (v:V) (ps:List (Int×V)) (τ:List Int),vs=[.ref p,.ref c]/\LineAt C H p v ps/\Strict ps/\SqL K H c (τ.map V.int)/\τ.Pairwise (· < ·)/\(∀ q∈ps,q.1∈τ)/\ps.length<=900/\τ.length<=900/\
 ∀ (l:Addr) (H':Hp),Same H H'->H l=none->H' l=some (.lst (v::τ.map λe=>atL v ps e))->Q (.ref l) H'
def Passed (cs rest:List Int) (j:Nat):Prop:=(∀ i c,i<j->cs[i]?=some c->∀ e∈rest,c<e)/\(∀ i c,j<=i->cs[i]?=some c->c∈rest)/\j<=cs.length
theorem Passed.hit {cs rest:List Int}{z:Int}{j:Nat} (h:Passed cs (z::rest) j) (hs:(z::rest).Pairwise (· < ·)) (hc:cs.Pairwise (· < ·)) (he:cs[j]?=some z):Passed cs rest (j+1)/\UpTo cs z (j+1):=by
 obtain ⟨h1,h2,h3⟩:=h
 have hp:=List.pairwise_cons.mp hs
 have hjl:j<cs.length:=(List.getElem?_eq_some_iff.mp he).1
 have up:∀ i c,j+1<=i->cs[i]?=some c->c∈rest:=λi c hi hci=>by
  rcases List.mem_cons.mp (h2 i c (by omega) hci) with e|e
  ·exfalso
   have hil:i<cs.length:=(List.getElem?_eq_some_iff.mp hci).1
   have:=List.pairwise_iff_getElem.mp hc j i hjl hil (by omega)
   rw [(List.getElem?_eq_some_iff.mp he).2,(List.getElem?_eq_some_iff.mp hci).2] at this
   omega
  ·exact e
 have lo:∀ i c,i<j+1->cs[i]?=some c->c<=z:=λi c hi hci=>by
  by_cases e:i=j
  ·subst e
   rw [he] at hci
   cases hci
   exact Int.le_refl _
  ·exact Int.le_of_lt (h1 i c (by omega) hci z List.mem_cons_self)
 refine ⟨⟨λi c hi hci e hr=>?_,up,hjl⟩,hjl,lo,λi c hi hci=>hp.1 c (up i c hi hci)⟩
 have:=lo i c hi hci
 have:=hp.1 e hr
 omega
theorem Passed.miss {cs rest:List Int}{z:Int}{j:Nat} (h:Passed cs (z::rest) j) (hs:(z::rest).Pairwise (· < ·)) (hc:cs.Pairwise (· < ·)) (he:cs[j]?≠some z):Passed cs rest j/\UpTo cs z j:=by
 obtain ⟨h1,h2,h3⟩:=h
 have hp:=List.pairwise_cons.mp hs
 have up:∀ i c,j<=i->cs[i]?=some c->c∈rest:=λi c hi hci=>by
  rcases List.mem_cons.mp (h2 i c hi hci) with e|e
  ·exfalso
   subst e
   have hil:i<cs.length:=(List.getElem?_eq_some_iff.mp hci).1
   by_cases hij:i=j
   ·subst hij;exact he hci
   ·have hjl:j<cs.length:=by omega
    have hlt:=List.pairwise_iff_getElem.mp hc j i hjl hil (by omega)
    rw [(List.getElem?_eq_some_iff.mp hci).2] at hlt
    rcases List.mem_cons.mp (h2 j _ (Nat.le_refl _) (List.getElem?_eq_getElem hjl)) with e|e
    ·omega
    ·have:=hp.1 _ e
     omega
  ·exact e
 exact ⟨⟨λi c hi hci e hr=>h1 i c hi hci e (List.mem_cons_of_mem _ hr),up,h3⟩,h3,λi c hi hci=>Int.le_of_lt (h1 i c hi hci z List.mem_cons_self),λi c hi hci=>hp.1 c (up i c hi hci)⟩
theorem ok_between {f:Addr}{fd:FuncData} (F:Fun K "holds_between" "holds_between" s_holds_between f fd) (T:Txt K mg C):FnOk P w K mg base CX0 1 f fd ["line","cuts"] (spBetween K C):=by
 refine F.ok sc_holds_between (λvs H Q E h=>?_) (λcdv A outer s H vs Q E hr h=>?_)
 ·obtain ⟨p,c,v,ps,τ,rfl,_⟩:=h
  rfl
 ·obtain ⟨p,c,v,ps,τ,rfl,hL,hst,hc,hτ,hin,hlp,hlτ,k⟩:=h
  refine' ⟨_,pss_cons (ps_set (i:=2) sc_holds_between.nd rfl (Or.inl rfl) ?a1)
   (pss_cons (ps_set (i:=3) sc_holds_between.nd rfl (Or.inl rfl) pe_int)
   (pss_cons (ps_for PassesOwn.never rfl (pi_list (pv 1)) (pg_name (i:=4) sc_holds_between.nd rfl (Or.inl rfl))
    (pss_cons (ps_if ?b1 (pss_one (ps_aug (i:=3) sc_holds_between.nd rfl (Or.inl rfl) pe_int ip_add)) pss_nil) (pss_one (ps_expr ?b2))))
   (pss_one (ps_ret (pv 2))))),?rd⟩
  case a1=>exact pe_lst (pa_cons (pe_ix ix_list (pe_fld (pv 0) rfl) pe_int (λ_ _=>rfl)) pa_nil)
  case b1=>
   refine' PW.pt (pw_and ?x (pw_and1 ?y))
   case x=>exact pt_cmpR op_lt (pv 3) (pe_callB call_len_seq rfl T.len PySem.boot_len (pa_cons (pe_fld (pv 0) rfl) pa_nil)) (nomark _)
   case y=>exact pt_cmpR op_eq (pe_ix ix_list (pe_fld (pv 0) rfl) (pv 3) (λ_ _=>rfl)) (pv 4) (nomark _)
  case b2=>exact pe_bm PySem.F.plainAttrs_list PySem.F.slot_list_append PySem.F.type_list_append mt_append (pv 2) (pa_cons (pe_ix ix_list (pe_fld (pv 0) rfl) (pv 3) (λ_ _=>rfl)) pa_nil)
  case rd=>
  obtain ⟨dx,a,b,h1,h2,h3⟩:=id hL
  have hcs:(ps.map (·.1)).Pairwise (· < ·):=by rw [List.pairwise_map];exact hst
  refine ⟨_,rfl,p,C,dx,_,_,rfl,h1,T.cl,T.nH,flds_holds _ _,b,_,_,v,rfl,rfl,SqL.of h3,atN (j:=0) rfl rfl,smallL (by show 1<=2000;decide),λho hho=>?_⟩
  have s0:Same H (upd H ho (.lst [v])):=Same.new hho
  refine ⟨_,rfl,c,rfl,⟨_,s0.seq hc⟩,?_⟩
  refine for_list (K:=K) (a:=c) (xs:=τ.map V.int) (λi σ H'=>∃ (j:Nat) (x4:Option V),σ=[some (.ref p),some (.ref c),some (.ref ho),some (.int (j:Int)),x4]/\Same H H'/\
   H' ho=some (.lst (v::(τ.take i).map λe=>atL v ps e))/\Passed (ps.map (·.1)) (τ.drop i) j) ?_ (λi σ H' _ ⟨_,_,_,s1,_⟩=>s1.seq hc) ?_ ?_
  ·refine ⟨0,none,rfl,s0,by rw [upd_same];rfl,λi c hi=>absurd hi (Nat.not_lt_zero _),λi c _ hi=>?_,Nat.zero_le _⟩
   obtain ⟨q,hq,rfl⟩:=List.mem_map.mp (List.mem_of_getElem? hi)
   exact hin q hq
  ·rintro i y σ H' hi ⟨j,x4,rfl,s1,gh,hP⟩
   have hil:=(List.getElem?_eq_some_iff.mp hi).1
   rw [List.length_map] at hil
   obtain ⟨z,hz⟩:∃ z,τ[i]?=some z:=⟨_,List.getElem?_eq_getElem hil⟩
   obtain rfl:V.int z=y:=by
    rw [List.getElem?_map,hz] at hi
    exact Option.some.inj hi
   have hdrop:τ.drop i=z::τ.drop (i+1):=by
    rw [List.drop_eq_getElem_cons hil]
    congr 1
    have:=List.getElem?_eq_getElem hil
    rw [hz] at this
    exact (Option.some.inj this).symm
   have hsd:(z::τ.drop (i+1)).Pairwise (· < ·):=by rw [<-hdrop];exact hτ.sublist (List.drop_sublist _ _)
   rw [hdrop] at hP
   have hj:j<=ps.length:=by have:=hP.2.2;rw [List.length_map] at this;exact this
   have lenC:(cutsV ps).length=ps.length:=List.length_map ..
   have g1:=s1 _ _ h1
   have g2:=s1 _ _ h2
   have g3:=s1 _ _ h3
   have app:∀ (j':Nat),Passed (ps.map (·.1)) (τ.drop (i+1)) j'->UpTo (ps.map (·.1)) z j'->∀ x4:Option V,∃ (jj:Nat) (x4':Option V),([some (.ref p),some (.ref c),some (.ref ho),some (.int (j':Int)),x4]:L2.St)=[some (.ref p),some (.ref c),some (.ref ho),some (.int (jj:Int)),x4']/\Same H (upd H' ho (.lst ((v::(τ.take i).map λe=>atL v ps e)++[atL v ps z])))/\
     (upd H' ho (.lst ((v::(τ.take i).map λe=>atL v ps e)++[atL v ps z]))) ho=some (.lst (v::(τ.take (i+1)).map λe=>atL v ps e))/\Passed (ps.map (·.1)) (τ.drop (i+1)) jj:=λj' p' u' x4=>by
    refine ⟨j',x4,rfl,Same.upd s1 hho,?_,p'⟩
    rw [upd_same,List.take_add_one,hz]
    show _=some (HO.lst (v::(τ.take i++[z]).map λe=>atL v ps e))
    rw [List.map_append];rfl
   refine ⟨_,rfl,_,rfl,p,C,dx,_,_,rfl,g1,T.cl,T.nC,flds_cuts _ _,a,_,rfl,.inl (SqL.of g2),_,_,rfl,rfl,_,rfl,?_⟩
   refine andT (decide ((ps.map (·.1))[j]?=some z)) (λhlt Q' q'=>?_) ?_
   ·have hjl:j<ps.length:=by have:=of_decide_eq_true hlt;omega
    obtain ⟨q,hq⟩:∃ q,ps[j]?=some q:=⟨_,List.getElem?_eq_getElem hjl⟩
    refine ⟨_,rfl,p,C,dx,_,_,rfl,g1,T.cl,T.nC,flds_cuts _ _,_,rfl,a,_,_,.int q.1,rfl,rfl,SqL.of g2,atN (j:=j) rfl (by rw [List.getElem?_map,hq];rfl),_,rfl,rfl,_,rfl,?_⟩
    have e:decide (V.int q.1=V.int z)=decide ((ps.map (·.1))[j]?=some z):=by
     rw [List.getElem?_map,hq,Bool.eq_iff_iff]
     simp
    rw [e]
    exact q'
   ·refine ite2 (λhc2=>?_) (λhc2=>?_)
    ·have he:(ps.map (·.1))[j]?=some z:=of_decide_eq_true (Bool.and_eq_true_iff.mp hc2).2
     obtain ⟨p',u'⟩:=hP.hit hsd hcs he
     refine ⟨_,rfl,_,_,rfl,rfl,?_⟩
     refine ⟨_,rfl,.inl ⟨rfl,_,SqL.of gh⟩,_,rfl,p,C,dx,_,_,rfl,g1,T.cl,T.nH,flds_holds _ _,_,rfl,b,_,_,_,rfl,rfl,SqL.of g3,atN (j:=j+1) (by show (j:Int)+1=((j+1:Nat):Int);omega) u'.at,ho,_,_,rfl,rfl,gh,small (by show ((τ.take i).map _).length+1<=2000;rw [List.length_map,List.length_take];omega),?_⟩
     exact app (j+1) p' u' _
    ·have he:(ps.map (·.1))[j]?≠some z:=λe=>by
      refine hc2 ?_
      have hjl:j<ps.length:=by have:=(List.getElem?_eq_some_iff.mp e).1;rw [List.length_map] at this;exact this
      rw [decide_eq_true e,decide_eq_true (by rw [lenC];omega)]
      rfl
     obtain ⟨p',u'⟩:=hP.miss hsd hcs he
     refine ⟨_,rfl,.inl ⟨rfl,_,SqL.of gh⟩,_,rfl,p,C,dx,_,_,rfl,g1,T.cl,T.nH,flds_holds _ _,_,rfl,b,_,_,_,rfl,rfl,SqL.of g3,atN (j:=j) rfl u'.at,ho,_,_,rfl,rfl,gh,small (by show ((τ.take i).map _).length+1<=2000;rw [List.length_map,List.length_take];omega),?_⟩
     exact app j p' u' _
  ·rintro σ H' ⟨j,x4,rfl,s1,gh,hP⟩
   rw [List.take_of_length_le (by rw [List.length_map];exact Nat.le_refl _)] at gh
   exact ⟨_,rfl,k ho H' s1 hho gh⟩
end
section
variable {P:Program}{w:World}{K:PySem.W.Frag}{mg:Str->Option Value}{base:Heap}{C:Addr} [HoldKind]
def spWay (W:V->V->V):Sp:=λvs H Q _=>∃ a b,vs=[a,b]/\HV a/\HV b/\Q (W a b) H
def spJoined (P:Program) (w:World) (K:PySem.W.Frag) (mg:Str->Option Value) (base:Heap) (C:Addr):Sp:=λvs H Q _=>∃ (p q f:Addr) (v u:V) (ps qs:List (Int×V)) (W:V->V->V),vs=[.ref p,.ref q,.ref f]/\LineAt C H p v ps/\LineAt C H q u qs/\Form v ps/\Form u qs/\
 ps.length<=60/\qs.length<=60/\FnV P w K mg base 1 f (spWay W)/\(∀ a b,HV a->HV b->HV (W a b))/\
 ∀ (p':Addr) (H':Hp) (v':V) (ps':List (Int×V)),Same H H'->LineNew C H H' p' v' ps'->Form v' ps'->ps'.length<=150->(∀ x,atL v' ps' x=W (atL v ps x) (atL u qs x))->Q (.ref p') H'
theorem ok_joined {f:Addr}{fd:FuncData} (F:Fun K "joined" "joined" s_joined f fd) (zz:mg "zip"=none) (DA:Def P w K mg base "cuts_of_all" ["lines"] 1 (spAllCuts K C)) (DB:Def P w K mg base "holds_between" ["line","cuts"] 1 (spBetween K C))
  (DO:Def P w K mg base "own_copy" ["thing"] 1 spOwn) (DL:Def P w K mg base "line_of" ["cuts","holds"] 3 (spLineOf K C)):FnOk P w K mg base CX0 4 f fd ["one","other","way"] (spJoined P w K mg base C):=by
 refine F.ok sc_joined (λvs H Q E h=>?_) (λcdv A outer s H vs Q E hr h=>?_)
 ·obtain ⟨p,q,f,v,u,ps,qs,W,rfl,_⟩:=h
  rfl
 ·obtain ⟨p,q,g,v,u,ps,qs,W,rfl,hL1,hL2,hF1,hF2,hl1,hl2,hW,hWv,k⟩:=h
  have hr1:Room 1 _:=hr.mono (by decide)
  refine' ⟨_,pss_cons (ps_set (i:=3) sc_joined.nd rfl (Or.inl rfl) ?a1)
   (pss_cons (ps_set (i:=4) sc_joined.nd rfl (Or.inl rfl) (pe_lst pa_nil))
   (pss_cons (ps_for PassesOwn.never rfl ?b1 (pg_tup rfl (pgs_cons (pg_name (i:=5) sc_joined.nd rfl (Or.inl rfl)) (pgs_cons (pg_name (i:=6) sc_joined.nd rfl (Or.inl rfl)) pgs_nil))) (pss_one (ps_expr ?b2)))
   (pss_one (ps_ret ?c1)))),?rd⟩
  case a1=>exact pe_callD DA hr1 rfl (pa_cons (pe_lst (pa_cons (pv 0) (pa_cons (pv 1) pa_nil))) pa_nil)
  case b1=>exact pi_zip rfl zz (pa_cons (pe_callD DB hr1 rfl (pa_cons (pv 0) (pa_cons (pv 3) pa_nil))) (pa_cons (pe_callD DB hr1 rfl (pa_cons (pv 1) (pa_cons (pv 3) pa_nil))) pa_nil))
  case b2=>
   refine' pe_bm PySem.F.plainAttrs_list PySem.F.slot_list_append PySem.F.type_list_append mt_append (pv 4) (pa_cons ?x pa_nil)
   case x=>exact pe_callD DO hr1 rfl (pa_cons (pe_callL (i:=2) rfl (Or.inl rfl) hr1 (pa_cons (pe_callD DO hr1 rfl (pa_cons (pv 5) pa_nil)) (pa_cons (pe_callD DO hr1 rfl (pa_cons (pv 6) pa_nil)) pa_nil))) pa_nil)
  case c1=>exact pe_callD DL hr rfl (pa_cons (pv 3) (pa_cons (pv 4) pa_nil))
  case rd=>
  refine ⟨_,rfl,_,rfl,smallL (by show 2<=2000;decide),λr hr0=>?_⟩
  have s0:Same H (upd H r (.lst [.ref p,.ref q])):=Same.new hr0
  have eall:allCuts [(p,v,ps),(q,u,qs)]=ps.map (·.1)++qs.map (·.1):=by
   unfold allCuts
   simp
  have lall:(allCuts [(p,v,ps),(q,u,qs)]).length<=150:=by rw [eall,List.length_append,List.length_map,List.length_map];omega
  refine ⟨r,[(p,v,ps),(q,u,qs)],rfl,⟨SqL.of upd_same,λz hz=>?_⟩,by omega,λcl H2 τ s2 ncl gcl hτ hm hτl=>?_⟩
  ·rcases List.mem_cons.mp hz with e|hz
   ·rw [e];exact hL1.same s0
   ·rw [List.mem_singleton.mp hz];exact hL2.same s0
  have hτ60:τ.length<=150:=Nat.le_trans hτl lall
  have s02:Same H H2:=s0.trans s2
  rw [eall] at hm
  refine ⟨Nat.zero_le _,λhl hhl=>?_⟩
  have s3:Same H2 (upd H2 hl (.lst [])):=Same.new hhl
  have hhl0:H hl=none:=s02.free hhl
  have in1:∀ z∈ps,z.1∈τ:=λz hz=>(hm z.1).mpr (List.mem_append_left _ (List.mem_map.mpr ⟨z,hz,rfl⟩))
  have in2:∀ z∈qs,z.1∈τ:=λz hz=>(hm z.1).mpr (List.mem_append_right _ (List.mem_map.mpr ⟨z,hz,rfl⟩))
  have s03:Same H (upd H2 hl (.lst [])):=s02.trans s3
  have gcl3:(upd H2 hl (.lst [])) cl=some (.lst (τ.map V.int)):=s3 _ _ gcl
  have ghl3:(upd H2 hl (.lst [])) hl=some (.lst []):=upd_same
  generalize upd H2 hl (.lst [])=H3 at s3 s03 gcl3 ghl3 ⊢
  refine ⟨_,rfl,_,rfl,p,cl,v,ps,τ,rfl,hL1.same s03,hF1.st,SqL.of gcl3,hτ,in1,by omega,by omega,λx1 H4 s4 nx1 gx1=>?_⟩
  refine ⟨_,rfl,_,rfl,q,cl,u,qs,τ,rfl,hL2.same (s03.trans s4),hF2.st,SqL.of (s4 _ _ gcl3),hτ,in2,by omega,by omega,λx2 H5 s5 nx2 gx2=>?_⟩
  have s35:Same H3 H5:=s4.trans s5
  have gx1':=s5 _ _ gx1
  have gcl5:=s35 _ _ gcl3
  have ghl5:=s35 _ _ ghl3
  have s05:Same H H5:=s03.trans s35
  have h1v:∀ x,HV (atL v ps x):=λx=>hF1.hh.at
  have h2v:∀ x,HV (atL u qs x):=λx=>hF2.hh.at
  have nhx1:hl≠x1:=ne_of_none ghl3 nx1
  have nhx2:hl≠x2:=ne_of_none (s4 _ _ ghl3) nx2
  have nhcl:hl≠cl:=(ne_of_none gcl hhl).symm
  have hzs:∀ (i:Nat) (a b:V),(v::τ.map λe=>atL v ps e)[i]?=some a->(u::τ.map λe=>atL u qs e)[i]?=some b->HV a/\HV b/\(W v u::τ.map λe=>W (atL v ps e) (atL u qs e))[i]?=some (W a b):=λi a b ha hb=>by
   cases i with
   |zero=>
    cases ha;cases hb
    exact ⟨hF1.hh.h0,hF2.hh.h0,rfl⟩
   |succ i=>
    rw [List.getElem?_cons_succ,List.getElem?_map] at ha hb
    rw [List.getElem?_cons_succ,List.getElem?_map]
    cases e:τ[i]? with
    |none=>rw [e] at ha;cases ha
    |some z=>
     rw [e] at ha hb
     cases ha;cases hb
     exact ⟨h1v z,h2v z,rfl⟩
  generalize hz0:(W v u::τ.map λe=>W (atL v ps e) (atL u qs e))=zs at hzs
  have hzl:zs.length=τ.length+1:=by rw [<-hz0,List.length_cons,List.length_map]
  refine ⟨x1,x2,_,_,rfl,SqL.of gx1',SqL.of gx2,?_⟩
  refine for_zip (K:=K) (a:=x1) (b:=x2) (xs:=v::τ.map λe=>atL v ps e) (ys:=u::τ.map λe=>atL u qs e) (τ.length+1) (by rw [List.length_cons,List.length_cons,List.length_map,List.length_map,Nat.min_self])
   (λi σ H'=>∃ y5 y6:Option V,σ=[some (.ref p),some (.ref q),some (.ref g),some (.ref cl),some (.ref hl),y5,y6]/\Same H H'/\H' cl=some (.lst (τ.map V.int))/\H' hl=some (.lst (zs.take i))/\SqL K H' x1 (v::τ.map λe=>atL v ps e)/\SqL K H' x2 (u::τ.map λe=>atL u qs e)) ?_ (λi σ H' _ ⟨_,_,_,_,_,_,h5,h6⟩=>⟨h5,h6⟩) ?_ ?_
  ·exact ⟨none,none,rfl,s05,gcl5,ghl5,SqL.of gx1',SqL.of gx2⟩
  ·rintro i a b t σ H' hi hj ht ⟨y5,y6,rfl,s6,gc6,gh6,q1,q2⟩
   obtain ⟨hva,hvb,hzi⟩:=hzs i a b hi hj
   have il:i<zs.length:=(List.getElem?_eq_some_iff.mp hzi).1
   have s7:Same H' (upd H' t (.tup [a,b])):=Same.new ht
   have gt:(upd H' t (.tup [a,b])) t=some (.tup [a,b]):=upd_same
   refine ⟨t,_,rfl,SqT.of gt,rfl,_,_,rfl,_,_,rfl,rfl,?_⟩
   have gc7:=s7 _ _ gc6
   have gh7:=s7 _ _ gh6
   have q17:=s7.seq q1
   have q27:=s7.seq q2
   have s67:=s6.trans s7
   generalize upd H' t (.tup [a,b])=H7 at gc7 gh7 q17 q27 s67 ⊢
   refine ⟨_,rfl,.inl ⟨rfl,_,SqL.of gh7⟩,g,spWay W,rfl,hW,_,rfl,_,rfl,hva,_,rfl,_,rfl,hvb,a,b,rfl,hva,hvb,_,rfl,hWv a b hva hvb,hl,_,_,rfl,rfl,gh7,small (by rw [List.length_take];omega),?_⟩
   refine ⟨_,_,rfl,Same.upd s67 hhl0,by rw [upd_ne nhcl.symm];exact gc7,?_,?_,?_⟩
   ·rw [upd_same,List.take_add_one,hzi];rfl
   ·rcases q17 with (h|⟨o,h⟩)|h
    ·exact SqL.of (by rw [upd_ne nhx1.symm];exact h)
    ·exact .inl (.inr ⟨o,by rw [upd_ne nhx1.symm];exact h⟩)
    ·exact .inr h
   ·rcases q27 with (h|⟨o,h⟩)|h
    ·exact SqL.of (by rw [upd_ne nhx2.symm];exact h)
    ·exact .inl (.inr ⟨o,by rw [upd_ne nhx2.symm];exact h⟩)
    ·exact .inr h
  ·rintro σ H' ⟨y5,y6,rfl,s6,gc6,gh6,q1,q2⟩
   rw [List.take_of_length_le (by omega),<-hz0] at gh6
   have ec:τ.map V.int=cutsV (τ.map λe=>(e,W (atL v ps e) (atL u qs e))):=by
    show _=(τ.map λe=>(e,W (atL v ps e) (atL u qs e))).map (λq=>V.int q.1)
    rw [List.map_map];rfl
   have eh:(W v u::τ.map λe=>W (atL v ps e) (atL u qs e))=holdsV (W v u) (τ.map λe=>(e,W (atL v ps e) (atL u qs e))):=by
    show _=W v u::(τ.map λe=>(e,W (atL v ps e) (atL u qs e))).map (·.2)
    rw [List.map_map];rfl
   rw [ec] at gc6
   rw [eh] at gh6
   have hhW:Holds (W v u) (τ.map λe=>(e,W (atL v ps e) (atL u qs e))):=⟨hWv _ _ hF1.hh.h0 hF2.hh.h0,λz hz=>by
    obtain ⟨e,_,rfl⟩:=List.mem_map.mp hz
    exact hWv _ _ (h1v e) (h2v e)⟩
   have hrise:Rise (τ.map λe=>(e,W (atL v ps e) (atL u qs e))):=by
    unfold Rise
    rw [List.pairwise_map]
    exact hτ.imp λh=>Int.le_of_lt h
   refine ⟨_,rfl,_,rfl,cl,hl,W v u,_,rfl,SqL.of gc6,SqL.of gh6,hhW,by rw [List.length_map];omega,λp' H8 s8 ln=>?_⟩
   have hfl:(formP (W v u) (τ.map λe=>(e,W (atL v ps e) (atL u qs e)))).length<=150:=by
    refine Nat.le_trans form_len ?_
    rw [List.length_map]
    exact hτ60
   refine k p' H8 _ _ (s6.trans s8) (ln.from s6) (Form.of hrise hhW) hfl λx=>?_
   rw [atL_form hrise]
   refine atL_steps (f:=λx=>W (atL v ps x) (atL u qs x)) hτ (λhlow=>?_) (λe he hle hmax=>?_)
   ·rw [atL_low λz hz=>hlow z.1 (in1 z hz),atL_low λz hz=>hlow z.1 (in2 z hz)]
   ·have e1:atL v ps x=atL v ps e:=atL_congr λz hz=>⟨λh=>hmax z.1 (in1 z hz) h,λh=>by omega⟩
    have e2:atL u qs x=atL u qs e:=atL_congr λz hz=>⟨λh=>hmax z.1 (in2 z hz) h,λh=>by omega⟩
    show W (atL v ps x) (atL u qs x)=W (atL v ps e) (atL u qs e)
    rw [e1,e2]
end
section
variable {P:Program}{w:World}{K:PySem.W.Frag}{mg:Str->Option Value}{base:Heap}{C:Addr}
open KindB
def unW:V->V->V:=λa b=>.bl (!decide (a=b))
theorem ok_unlike {f:Addr}{fd:FuncData} (F:Fun K "unlike" "unlike" s_unlike f fd):FnOk P w K mg base CX0 1 f fd ["here","there"] (spWay unW):=by
 refine F.ok sc_unlike (λvs H Q E h=>?_) (λcdv A outer s H vs Q E hr h=>?_)
 ·obtain ⟨a,b,rfl,_⟩:=h
  rfl
 ·obtain ⟨a,b,rfl,ha,hb,k⟩:=h
  refine ⟨_,pss_one (ps_ret (pe_not (pe_cmpR op_eq (pv 0) (pv 1) (nomark _)))),?_⟩
  exact ⟨_,rfl,_,rfl,ha.scal hb,_,rfl,k⟩
def Apart (f g:Int->V) (x:Int):Option Int->Prop
 |some y=>x<=y/\f y≠g y/\∀ y',x<=y'->y'<y->f y'=g y'
 |none=>∀ y',x<=y'->f y'=g y'
theorem Apart.unique {f g:Int->V}{x:Int}:∀ {r r':Option Int},Apart f g x r->Apart f g x r'->r=r'
 |none,none,_,_=>rfl
 |none,some y,h,h'=>absurd (h y h'.1) h'.2.1
 |some y,none,h,h'=>absurd (h' y h.1) h.2.1
 |some y,some y',h,h'=>by
  by_cases h1:y<y'
  ·exact absurd (h'.2.2 y h.1 h1) h.2.1
  ·by_cases h2:y'<y
   ·exact absurd (h.2.2 y' h'.1 h2) h'.2.1
   ·rw [show y=y' by omega]
theorem apart_of {f g F:Int->V}{x:Int} (hF:∀ y,F y=unW (f y) (g y)):∀ {r:Option Int},Room' F (.bl true) 1 x r->Apart f g x r:=by
 have e1:∀ y,F y=.bl true->f y≠g y:=λy h e=>by
  rw [hF] at h
  unfold unW at h
  rw [decide_eq_true e] at h
  cases h
 have e2:∀ y,F y≠.bl true->f y=g y:=λy h=>by
  by_cases e:f y=g y
  ·exact e
  ·exact absurd (by rw [hF];unfold unW;rw [decide_eq_false e];rfl) h
 intro r h
 cases r with
 |none=>
  intro y' h1
  obtain ⟨z,z1,z2,z3⟩:=h y' h1
  obtain rfl:z=y':=by omega
  exact e2 z z3
 |some y=>
  refine ⟨h.1,e1 y (h.2.1 y (Int.le_refl _) (by omega)),λy' h1 h2=>?_⟩
  obtain ⟨z,z1,z2,z3⟩:=h.2.2 y' h1 h2
  obtain rfl:z=y':=by omega
  exact e2 z z3
def spParted (C:Addr):Sp:=λvs H Q _=>∃ (p q:Addr) (x:Int) (v u:V) (ps qs:List (Int×V)),vs=[.ref p,.ref q,.int x]/\LineAt C H p v ps/\LineAt C H q u qs/\Form v ps/\Form u qs/\ps.length<=60/\qs.length<=60/\
 ∀ (r:Option Int) (H':Hp),Same H H'->Apart (atL v ps) (atL u qs) x r->Q (optV r) H'
theorem ok_parted {f:Addr}{fd:FuncData} (F:Fun K "parted" "parted" s_parted f fd) (DJ:Def P w K mg base "joined" ["one","other","way"] 4 (spJoined P w K mg base C)) (DR:Def P w K mg base "first_room" ["line","value","place","size"] 2 (spRoom K C))
  (DU:Def P w K mg base "unlike" ["here","there"] 1 (spWay unW)):FnOk P w K mg base CX0 5 f fd ["one","other","place"] (spParted C):=by
 refine F.ok sc_parted (λvs H Q E h=>?_) (λcdv A outer s H vs Q E hr h=>?_)
 ·obtain ⟨p,q,x,v,u,ps,qs,rfl,_⟩:=h
  rfl
 ·obtain ⟨p,q,x,v,u,ps,qs,rfl,hL1,hL2,hF1,hF2,hl1,hl2,k⟩:=h
  obtain ⟨g,gd,g1,g2,g3,g4⟩:=DU.ex
  have hr2:Room 2 _:=hr.mono (by decide)
  refine' ⟨_,pss_one (ps_ret ?x),?rd⟩
  case x=>
   refine' pe_callD DR hr2 rfl (pa_cons ?y (pa_cons pe_bl (pa_cons (pv 2) (pa_cons pe_int pa_nil))))
   case y=>exact pe_callD DJ hr rfl (pa_cons (pv 0) (pa_cons (pv 1) (pa_cons (pe_glob rfl g1 (v:=.ref g) rfl) pa_nil)))
  case rd=>
  refine ⟨_,rfl,_,rfl,p,q,g,v,u,ps,qs,unW,rfl,hL1,hL2,hF1,hF2,hl1,hl2,⟨gd,_,g2,g3,g4⟩,λa b _ _=>HV.bl _,λp' H1 v' ps' s1 ln hF hl hx=>?_⟩
  refine ⟨_,rfl,p',.bl true,x,1,v',ps',rfl,ln.at,hF,HV.bl true,by decide,by omega,λr H2 s2 hR=>?_⟩
  exact k r H2 (s1.trans s2) (apart_of hx hR)
end
section
variable {P:Program}{w:World}{K:PySem.W.Frag}{mg:Str->Option Value}{base:Heap}{C:Addr} [HoldKind]
def spApart:Sp:=λvs H Q _=>∃ (t o:Addr) (x:Int) (v u:V) (ps qs:List (Int×V)),vs=[.ref t,.ref o,.int x]/\ToldH H t v ps/\ToldH H o u qs/\Holds v ps/\Holds u qs/\ps.length<=60/\qs.length<=60/\
 ∀ (r:Option Int) (H':Hp),Same H H'->Apart (atL v ps) (atL u qs) x r->Q (optV r) H'
abbrev scA1:Scope:={ kind:=.function,names:=[(".0",.local),("cut",.local),("place",.free)],isGenerator:=false,isCoroutine:=false,more:=[] }
theorem cs_a1:CScope (defScope s_law_apart) scA1 ["told","other","place","spot"] ["cut","place"] [2] "cut":=
 ⟨rfl,by decide +kernel,by decide +kernel,by decide +kernel,by decide +kernel,rfl,by decide +kernel,by decide +kernel,by decide +kernel,by decide +kernel⟩
theorem last_le {y:Int}:∀ (l:List Int) (x:Int),x∈l->x<=y->∃ e∈l,e<=y/\∀ e'∈l,e'<=y->e'<=e
 | [],x,h,_=>nomatch h
 |a::l,x,h,hx=>by
  by_cases hl:∃ z∈l,z<=y
  ·obtain ⟨z,hz,hzy⟩:=hl
   obtain ⟨e,he,hey,hmax⟩:=last_le l z hz hzy
   by_cases ha:a<=y/\e<a
   ·refine ⟨a,List.mem_cons_self,ha.1,λe' he' h'=>?_⟩
    rcases List.mem_cons.mp he' with w|w
    ·omega
    ·have:=hmax e' w h'
     omega
   ·refine ⟨e,List.mem_cons_of_mem _ he,hey,λe' he' h'=>?_⟩
    rcases List.mem_cons.mp he' with w|w
    ·omega
    ·exact hmax e' w h'
  ·rcases List.mem_cons.mp h with w|w
   ·refine ⟨a,List.mem_cons_self,by omega,λe' he' h'=>?_⟩
    rcases List.mem_cons.mp he' with z|z
    ·omega
    ·exact absurd ⟨e',z,h'⟩ hl
   ·exact absurd ⟨x,w,hx⟩ hl
theorem ok_apart {f:Addr}{fd:FuncData} (F:Fun K "_law_apart" "_law_apart" s_law_apart f fd) (T:Txt K mg C) (DA:Def P w K mg base "_law_at" ["told","place"] 1 (spAt K)):FnOk P w K mg base CX0 2 f fd ["told","other","place"] spApart:=by
 refine F.ok sc_law_apart (λvs H Q E h=>?_) (λcdv A outer s H vs Q E hr h=>?_)
 ·obtain ⟨t,o,x,v,u,ps,qs,rfl,_⟩:=h
  rfl
 ·obtain ⟨t,o,x,v,u,ps,qs,rfl,hT,hO,hh1,hh2,hl1,hl2,k⟩:=h
  refine' ⟨_,pss_cons (ps_for PassesOwn.never rfl (pi_list (pe_op op_cat ?a1 ?a2)) (pg_name (i:=3) sc_law_apart.nd rfl (Or.inl rfl)) (pss_one (ps_if ?b1 (pss_one (ps_ret (pv 3))) pss_nil)))
   (pss_one (ps_ret pe_non)),?rd⟩
  case a1=>exact pe_lst (pa_cons (pv 2) pa_nil)
  case a2=>
   refine' pe_comp cs_a1 rfl rfl rfl ?y1 ?y2 ?y3
   case y1=>
    refine' pi_list (pe_sortset rfl rfl T.sorted rfl T.set ?z)
    case z=>exact pe_op op_cat (pe_ix ix_tup (pv 0) pe_int (λ_ _=>rfl)) (pe_ix ix_tup (pv 1) pe_int (λ_ _=>rfl))
   case y2=>exact λ_ _ _ _ _=>pf_one (pt_cmpR op_gt (pv 0) (pv 1) (nomark _))
   case y3=>exact λ_ _ _ _ _=>pv 0
  case b1=>
   refine' pt_cmpR op_ne ?x ?y (nomark _)
   case x=>exact pe_callD DA hr rfl (pa_cons (pv 0) (pa_cons (pv 3) pa_nil))
   case y=>exact pe_callD DA hr rfl (pa_cons (pv 1) (pa_cons (pv 3) pa_nil))
  case rd=>
  obtain ⟨a1,b1,gt,ga,gb⟩:=id hT
  obtain ⟨a2,b2,go,gc,gd⟩:=id hO
  have ecv:∀ rs:List (Int×V),cutsV rs=(rs.map (·.1)).map V.int:=λrs=>by rw [List.map_map];rfl
  refine ⟨_,rfl,smallL (by show 1<=2000;decide),λl1 hl1'=>?_⟩
  have s1:Same H (upd H l1 (.lst [.int x])):=Same.new hl1'
  have gl1:(upd H l1 (.lst [.int x])) l1=some (.lst [.int x]):=upd_same
  generalize upd H l1 (.lst [.int x])=H1 at s1 gl1 ⊢
  refine ⟨_,rfl,t,_,_,.ref a1,rfl,rfl,SqT.of (s1 _ _ gt),atN (j:=0) rfl rfl,_,rfl,o,_,_,.ref a2,rfl,rfl,SqT.of (s1 _ _ go),atN (j:=0) rfl rfl,a1,a2,_,_,rfl,rfl,s1 _ _ ga,s1 _ _ gc,smallL (by rw [List.length_map,List.length_map];omega),λl2 hl2'=>?_⟩
  have s2:Same H1 (upd H1 l2 (.lst (cutsV ps++cutsV qs))):=Same.new hl2'
  have s02:=s1.trans s2
  have el:cutsV ps++cutsV qs=(ps.map (·.1)++qs.map (·.1)).map V.int:=by rw [ecv,ecv,List.map_append]
  have ll:(ps.map (·.1)++qs.map (·.1)).length<=150:=by rw [List.length_append,List.length_map,List.length_map];omega
  refine ⟨l2,ps.map (·.1)++qs.map (·.1),rfl,SqL.of (by rw [upd_same,el]),by omega,Nat.lt_of_le_of_lt (ddup_le _) (by omega),λl3 τ hl3 hτ hm hτl=>?_⟩
  have hτ60:τ.length<=150:=by have:=ddup_le (ps.map (·.1)++qs.map (·.1));omega
  have s3:Same H1 (upd (upd H1 l2 (.lst (cutsV ps++cutsV qs))) l3 (.lst (τ.map V.int))):=Same.upd s2 (s2.free hl3)
  have gl3:(upd (upd H1 l2 (.lst (cutsV ps++cutsV qs))) l3 (.lst (τ.map V.int))) l3=some (.lst (τ.map V.int)):=upd_same
  generalize upd (upd H1 l2 (.lst (cutsV ps++cutsV qs))) l3 (.lst (τ.map V.int))=H3 at s3 gl3 ⊢
  refine ⟨l3,rfl,⟨_,SqL.of gl3⟩,?_⟩
  refine comp_lst (K:=K) (js:=[2]) (λy=>match y with | .int c=>decide (x<c)|_=>false) (λy=>y) (SqL.of gl3) ?g1 ?g2 ?g3 ?g4
  case g1=>rw [List.length_map];omega
  case g2=>
   intro y H4 Q' hy s4 q'
   obtain ⟨c,_,rfl⟩:=List.mem_map.mp hy
   exact ⟨_,rfl,_,rfl,_,_,rfl,rfl,_,rfl,q'⟩
  case g3=>exact λy H4 Q' _ _ _ q'=>⟨_,rfl,q'⟩
  case g4=>
  intro lc hlc
  have ef:((τ.map V.int).filter λy=>match y with | .int c=>decide (x<c)|_=>false).map (λy=>y)=(τ.filter λc=>decide (x<c)).map V.int:=by
   rw [List.map_id',List.filter_map]
   rfl
  rw [ef]
  have s4:Same H3 (upd H3 lc (.lst ((τ.filter λc=>decide (x<c)).map V.int))):=Same.new hlc
  have glc:(upd H3 lc (.lst ((τ.filter λc=>decide (x<c)).map V.int))) lc=some (.lst ((τ.filter λc=>decide (x<c)).map V.int)):=upd_same
  generalize upd H3 lc (.lst ((τ.filter λc=>decide (x<c)).map V.int))=H4 at s4 glc ⊢
  have s14:Same H1 H4:=s3.trans s4
  have hfl:(τ.filter λc=>decide (x<c)).length<=150:=Nat.le_trans (List.length_filter_le _ _) hτ60
  refine ⟨l1,lc,_,_,rfl,rfl,s14 _ _ gl1,glc,smallL (by rw [List.length_map];show 1+_<=2000;omega),λls hls=>?_⟩
  have s5:Same H4 (upd H4 ls (.lst ([.int x]++(τ.filter λc=>decide (x<c)).map V.int))):=Same.new hls
  have gls:(upd H4 ls (.lst ([.int x]++(τ.filter λc=>decide (x<c)).map V.int))) ls=some (.lst ((x::τ.filter λc=>decide (x<c)).map V.int)):=upd_same
  generalize upd H4 ls (.lst ([.int x]++(τ.filter λc=>decide (x<c)).map V.int))=H5 at s5 gls ⊢
  have s05:Same H H5:=(s1.trans s14).trans s5
  have hmL:∀ c,x<c->(c∈ps.map (·.1)∨c∈qs.map (·.1))->c∈x::τ.filter λc=>decide (x<c):=λc hx hc=>by
   refine List.mem_cons_of_mem _ (List.mem_filter.mpr ⟨(hm c).mpr (List.mem_append.mpr hc),decide_eq_true hx⟩)
  have hL0:x∈x::τ.filter λc=>decide (x<c):=List.mem_cons_self
  have hLs:(x::τ.filter λc=>decide (x<c)).Pairwise (· < ·):=List.pairwise_cons.mpr ⟨λc hc=>of_decide_eq_true (List.mem_filter.mp hc).2,hτ.sublist (List.filter_sublist)⟩
  have hLx:∀ c∈x::τ.filter λc=>decide (x<c),x<=c:=λc hc=>by
   rcases List.mem_cons.mp hc with e|e
   ·omega
   ·exact Int.le_of_lt (of_decide_eq_true (List.mem_filter.mp e).2)
  generalize x::τ.filter (λc=>decide (x<c))=L at hmL hL0 hLs hLx gls
  have hspot:∀ y',x<=y'->∃ e∈L,e<=y'/\(∀ e'∈L,e'<=y'->e'<=e)/\atL v ps y'=atL v ps e/\atL u qs y'=atL u qs e:=λy' hy=>by
   obtain ⟨e,he,hey,hmax⟩:=last_le (y:=y') L x hL0 hy
   have key:∀ c,c∈ps.map (·.1)∨c∈qs.map (·.1)->¬ (e<c/\c<=y'):=λc hc z=>by
    have hxe:=hLx e he
    have:=hmax c (hmL c (by omega) hc) z.2
    omega
   exact ⟨e,he,hey,hmax,(atL_const hey λc hc=>key c (.inl hc)).symm,(atL_const hey λc hc=>key c (.inr hc)).symm⟩
  refine ⟨ls,rfl,⟨_,SqL.of gls⟩,?_⟩
  refine for_list (K:=K) (a:=ls) (xs:=L.map V.int) (λi σ H'=>H'=H5/\∃ x3:Option V,σ=[some (.ref t),some (.ref o),some (.int x),x3]/\∀ e∈L.take i,atL v ps e=atL u qs e) ?_ (λi σ H' _ ⟨e,_⟩=>by rw [e];exact SqL.of gls) ?_ ?_
  ·exact ⟨rfl,none,rfl,λe he=>by simp at he⟩
  ·rintro i y σ H' hi ⟨rfl,x3,rfl,hsame⟩
   have hil:=(List.getElem?_eq_some_iff.mp hi).1
   rw [List.length_map] at hil
   obtain ⟨z,hz⟩:∃ z,L[i]?=some z:=⟨_,List.getElem?_eq_getElem hil⟩
   obtain rfl:V.int z=y:=by
    rw [List.getElem?_map,hz] at hi
    exact Option.some.inj hi
   have hzL:z∈L:=List.mem_of_getElem? hz
   refine ⟨_,rfl,_,rfl,t,z,v,ps,rfl,(hT.same s05).at,by omega,_,rfl,_,rfl,o,z,u,qs,rfl,(hO.same s05).at,by omega,hh1.at.scal hh2.at,_,rfl,ite2 (λhc=>?_) (λhc=>?_)⟩
   ·have hne:atL v ps z≠atL u qs z:=λe=>by rw [decide_eq_true e] at hc;cases hc
    refine ⟨_,rfl,k (some z) H' s05 ⟨hLx z hzL,hne,λy' h1 h2=>?_⟩⟩
    obtain ⟨e,he,hey,_,e1,e2⟩:=hspot y' h1
    have hei:e∈L.take i:=by
     rw [<-List.take_append_drop i L] at he
     rcases List.mem_append.mp he with w|w
     ·exact w
     ·exfalso
      rw [List.drop_eq_getElem_cons hil] at w
      have ez:L[i]=z:=(List.getElem?_eq_some_iff.mp hz).2
      rcases List.mem_cons.mp w with w|w
      ·omega
      ·have hp:(L.drop i).Pairwise (· < ·):=hLs.sublist (List.drop_sublist _ _)
       rw [List.drop_eq_getElem_cons hil] at hp
       have:=(List.pairwise_cons.mp hp).1 e w
       omega
    rw [e1,e2]
    exact hsame e hei
   ·have heq:atL v ps z=atL u qs z:=by
     by_cases e:atL v ps z=atL u qs z
     ·exact e
     ·exact absurd (by rw [decide_eq_false e];rfl) hc
    refine ⟨rfl,_,rfl,λe he=>?_⟩
    rw [List.take_add_one,hz] at he
    rcases List.mem_append.mp he with w|w
    ·exact hsame e w
    ·rw [List.mem_singleton.mp (show e∈[z] from w)]
     exact heq
  ·rintro σ H' ⟨rfl,x3,rfl,hsame⟩
   refine k none H' s05 λy' h1=>?_
   obtain ⟨e,he,_,_,e1,e2⟩:=hspot y' h1
   rw [e1,e2]
   refine hsame e ?_
   rw [List.length_map,List.take_of_length_le (Nat.le_refl _)]
   exact he
end
section
variable {P:Program}{w:World}{K:PySem.W.Frag}{mg:Str->Option Value}{base:Heap}{C:Addr} [HoldKind]
theorem ok_cell_at {f:Addr}{fd:FuncData} (F:Fun K "_law_cell_at" "_law_cell_at" s_law_cell_at f fd) (T:Txt K mg C):FnOk P w K mg base CX0 1 f fd ["script","k"] (spCellAt K):=by
 refine F.ok sc_law_cell_at (λvs H Q E h=>?_) (λcdv A outer s H vs Q E hr h=>?_)
 ·obtain ⟨a,ns,k,rfl,_⟩:=h
  rfl
 ·obtain ⟨a,ns,k,rfl,hS,hlen,q⟩:=h
  refine ⟨_,pss_cons (ps_if (pt_cmpR op_lt (pv 1) (pe_callB call_len_seq rfl T.len PySem.boot_len (pa_cons (pv 0) pa_nil)) (nomark _)) (pss_one (ps_ret (pe_ix ix_list (pv 0) (pv 1) (λ_ _=>rfl)))) pss_nil) (pss_one (ps_ret pe_int)),?_⟩
  have lenC:(ns.map V.int).length=ns.length:=List.length_map ..
  refine ⟨_,rfl,_,rfl,a,_,rfl,.inl hS,_,_,rfl,rfl,_,rfl,ite2 (λhc=>?_) (λhc=>?_)⟩
  ·have hk:k<ns.length:=by
    have:=of_decide_eq_true hc
    omega
   refine ⟨_,rfl,_,rfl,a,_,_,.int (ns.getD k 0),rfl,rfl,hS,atI_nat ?_,q⟩
   rw [List.getElem?_map,List.getElem?_eq_getElem hk,List.getD_eq_getElem?_getD,List.getElem?_eq_getElem hk]
   rfl
  ·have hk:¬ k<ns.length:=by
    have:=of_decide_eq_false (Bool.eq_false_iff.mpr hc)
    omega
   have e:ns.getD k 0=0:=by
    rw [List.getD_eq_getElem?_getD,List.getElem?_eq_none (by omega)];rfl
   rw [e] at q
   exact q
def spWhole:Sp:=λvs H Q _=>∃ i:Int,vs=[.int i]/\Q (.bl true) H
theorem ok_whole {f:Addr}{fd:FuncData} (F:Fun K "_law_whole" "_law_whole" s_law_whole f fd) (T:Txt K mg C):FnOk P w K mg base CX0 1 f fd ["found"] spWhole:=by
 refine F.ok sc_law_whole (λvs H Q E h=>?_) (λcdv A outer s H vs Q E hr h=>?_)
 ·obtain ⟨i,rfl,_⟩:=h
  rfl
 ·obtain ⟨i,rfl,k⟩:=h
  refine ⟨_,pss_one (ps_ret (pe_and (pe_callB call_isinst rfl T.isinstance boot_isinstance (pa_cons (pv 0) (pa_cons (pe_bltn rfl T.int boot_int (v:=.ty "int") rfl) pa_nil)))
   (pe_one (pe_not (pe_callB call_isinst rfl T.isinstance boot_isinstance (pa_cons (pv 0) (pa_cons (pe_bltn rfl T.bool boot_bool (v:=.ty "bool") rfl) pa_nil))))))),?_⟩
  exact ⟨_,rfl,_,_,_,_,_,rfl,TyOf.int i,rfl,kit_II,true,rfl,iteT ⟨_,rfl,_,_,_,_,_,rfl,TyOf.int i,rfl,kit_IB,false,rfl,k⟩⟩
theorem ok_value_at {f:Addr}{fd:FuncData} (F:Fun K "value_at" "value_at" s_value_at f fd) (T:Txt K mg C) (DO:Def P w K mg base "own_copy" ["thing"] 1 spOwn) (DU:Def P w K mg base "cuts_up_to" ["line","place"] 1 (spUpTo C)) :
  FnOk P w K mg base CX0 2 f fd ["line","place"] (spValueAt C):=by
 refine F.ok sc_value_at (λvs H Q E h=>?_) (λcdv A outer s H vs Q E hr h=>?_)
 ·obtain ⟨p,x,v,ps,rfl,_⟩:=h
  rfl
 ·obtain ⟨p,x,v,ps,rfl,hL,hrise,hh,hlen,k⟩:=h
  obtain ⟨dx,a,b,h1,h2,h3⟩:=id hL
  refine ⟨_,pss_one (ps_ret (pe_callD DO hr rfl (pa_cons (pe_ix ix_list (pe_fld (pv 0) rfl) (pe_callD DU hr rfl (pa_cons (pv 0) (pa_cons (pv 1) pa_nil))) (λ_ _=>rfl)) pa_nil))),?_⟩
  exact ⟨_,rfl,p,C,dx,_,_,rfl,h1,T.cl,T.nH,flds_holds _ _,_,rfl,_,rfl,p,x,v,ps,rfl,hL,hrise,hlen,λn hn=>⟨b,_,_,atL v ps x,rfl,rfl,SqL.of h3,atI_nat hn.at,_,rfl,hh.at,k⟩⟩
theorem ok_empty {f:Addr}{fd:FuncData} (F:Fun K "empty_line" "empty_line" s_empty_line f fd) (DL:Def P w K mg base "line_of" ["cuts","holds"] 3 (spLineOf K C)):FnOk P w K mg base CX0 4 f fd [] (spEmpty C):=by
 refine F.ok sc_empty_line (λvs H Q E h=>?_) (λcdv A outer s H vs Q E hr h=>?_)
 ·obtain ⟨rfl,_⟩:=h
  rfl
 ·obtain ⟨rfl,k⟩:=h
  refine ⟨_,pss_one (ps_ret (pe_callD DL hr rfl (pa_cons (pe_lst pa_nil) (pa_cons (pe_lst (pa_cons pe_non pa_nil)) pa_nil)))),?_⟩
  refine ⟨Nat.zero_le _,λl1 h1=>⟨smallL (by show 1<=2000;decide),λl2 h2=>⟨l1,l2,.non,[],rfl,?_,SqL.of upd_same,⟨HV.non,λq hq=>nomatch hq⟩,Nat.zero_le _,λp H' s' ln=>?_⟩⟩⟩
  ·refine SqL.of ?_
   rw [upd_ne λe=>by rw [<-e,upd_same] at h2;cases h2]
   exact upd_same
  ·have s2:Same H (upd (upd H l1 (.lst [])) l2 (.lst [.non])):=Same.upd (Same.new h1) ((Same.new h1).free h2)
   exact k p H' (s2.trans s') (ln.from s2)
end
section
variable {P:Program}{w:World}{K:PySem.W.Frag}{mg:Str->Option Value}{base:Heap}{C:Addr} [HoldKind]
abbrev scN:Scope:={ kind:=.function,names:=[(".0",.local),("k",.local),("first",.free)],isGenerator:=false,isCoroutine:=false,more:=[] }
theorem cs_names:CScope (defScope s_law_names) scN ["cell","letters","first","size"] ["k","first"] [2] "k":=
 ⟨rfl,by decide +kernel,by decide +kernel,by decide +kernel,by decide +kernel,rfl,by decide +kernel,by decide +kernel,by decide +kernel,by decide +kernel⟩
theorem ok_names {f:Addr}{fd:FuncData} (F:Fun K "_law_names" "_law_names" s_law_names f fd) (T:Txt K mg C):FnOk P w K mg base CX0 1 f fd ["cell"] spNames:=by
 refine F.ok sc_law_names (λvs H Q E h=>?_) (λcdv A outer s H vs Q E hr h=>?_)
 ·obtain ⟨c,rfl,_⟩:=h
  rfl
 ·obtain ⟨c,rfl,k⟩:=h
  refine' ⟨_,pss_cons (ps_set (i:=1) sc_law_names.nd rfl (Or.inl rfl) pe_str)
   (pss_cons (ps_set (i:=2) sc_law_names.nd rfl (Or.inr rfl) ?u1)
   (pss_cons (ps_set (i:=3) sc_law_names.nd rfl (Or.inl rfl) (pe_op op_add pe_int (pe_op op_mod (pe_op op_fdiv (pv 0) pe_int) pe_int)))
   (pss_one (ps_ret (pe_lst (pa_cons pe_non (pa_cons (pv 2) (pa_cons ?u2 (pa_cons ?u3 pa_nil))))))))),?_⟩
  case u1=>
   refine' pe_ix ix_str ?v1 ?v2 (λ_ _=>rfl)
   case v1=>exact pv 1
   case v2=>exact pe_op op_mod (pv 0) pe_int
  case u2=>
   refine' pe_op op_add_str ?v1 ?v2
   case v2=>exact pe_str
   case v1=>
    refine' pe_bm PySem.F.plainAttrs_str PySem.F.slot_str_join PySem.F.type_str_join mt_join ?w1 ?w2
    case w1=>exact pe_str
    case w2=>
     refine' pa_cons ?z1 pa_nil
     case z1=>
      refine' pe_comp cs_names rfl rfl rfl ?y1 ?y2 ?y3
      case y1=>exact pi_range1 rfl T.range (pa_cons (pv 3) pa_nil)
      case y2=>exact λ_ _ _ _ _=>pf_nil
      case y3=>exact λ_ _ _ _ _=>pv 1
  case u3=>
   refine' pe_ix ix_str ?v1 ?v2 (λ_ _=>rfl)
   case v1=>exact pv 1
   case v2=>exact pe_op op_mod (pe_op op_add (pv 0) pe_int) pe_int
  obtain ⟨c1,e1⟩:=letter_at (Int.emod_nonneg c (by decide:(26:Int)≠0)) (Int.emod_lt_of_pos c (by decide))
  obtain ⟨c2,e2⟩:=letter_at (Int.emod_nonneg (c+5) (by decide:(26:Int)≠0)) (Int.emod_lt_of_pos (c+5) (by decide))
  have m0:=Int.emod_nonneg (c / 26) (by decide:(12:Int)≠0)
  have m1:=Int.emod_lt_of_pos (c / 26) (by decide:(0:Int)<12)
  refine ⟨_,rfl,_,rfl,_,_,rfl,rfl,(by show (0:Int)<26;decide),_,_,c1,rfl,rfl,letters_len,e1,?_⟩
  refine ⟨_,rfl,_,_,rfl,rfl,⟨by decide,by decide⟩,_,_,rfl,rfl,(by show (0:Int)<12;decide),_,_,rfl,rfl,?_⟩
  refine ⟨_,rfl,rfl,_,rfl,_,rfl,by omega,by omega,?_⟩
  refine comp_rng (js:=[2]) (tt:=tAll) (te:=tVar 1) (lo:=0) (n:=(1+c / 26 % 12).toNat) (λ_=>V.str ⟨#[c1]⟩) ?h1 ?h2 ?h3 ?h4
  case h1=>omega
  case h2=>exact λi H2 Q' _ _ q=>q
  case h3=>exact λi H2 Q' _ _ q=>⟨_,rfl,q⟩
  case h4=>
  intro l hl
  have hz:(((List.replicate (1+c / 26 % 12).toNat (⟨#[c1]⟩:Str))).map (·.length)).sum+(List.replicate (1+c / 26 % 12).toNat (⟨#[c1]⟩:Str)).length * ("":Str).length<=100:=by
   rw [List.map_replicate,List.length_replicate]
   have e:("":Str).length=0:=by decide +kernel
   have e3:(⟨#[c1]⟩:Str).length=1:=rfl
   rw [e,e3,Nat.mul_zero,List.sum_replicate_nat]
   omega
  have hj:=join_len "" (List.replicate (1+c / 26 % 12).toNat (⟨#[c1]⟩:Str))
  refine ⟨"",l,List.replicate (1+c / 26 % 12).toNat ⟨#[c1]⟩,rfl,rfl,SqL.of ?_,Nat.le_trans hz (by decide),_,_,rfl,rfl,?_,?_⟩
  ·rw [upd_same,List.map_replicate]
   congr 2
   rw [List.map_const']
   simp
  ·have e:("":Str).length=0:=by decide +kernel
   rw [e]
   exact smallL (by omega)
  ·refine ⟨_,rfl,_,rfl,_,_,rfl,rfl,_,_,rfl,rfl,(by show (0:Int)<26;decide),_,_,c2,rfl,rfl,letters_len,e2,smallL (by show 4<=2000;decide),λl' hl'=>?_⟩
   exact k l' _ _ _ _ (Same.upd (Same.new hl) ((Same.new hl).free hl')) ((Same.new hl).free hl') upd_same
end
section
variable {P:Program}{w:World}{K:PySem.W.Frag}{mg:Str->Option Value}{base:Heap}{C:Addr} [HoldKind]
def spHeldN:Sp:=λvs H Q _=>∃ v u,vs=[v,u]/\okN v/\okN u/\Q (.bl (decide (v=u))) H
theorem ok_heldN {f:Addr}{fd:FuncData} (F:Fun K "_law_held" "_law_held" s_law_held f fd) (T:Txt K mg C):FnOk P w K mg base CX0 1 f fd ["found","due"] spHeldN:=by
 refine F.ok sc_law_held (λvs H Q E h=>?_) (λcdv A outer s H vs Q E hr h=>?_)
 ·obtain ⟨v,u,rfl,_⟩:=h
  rfl
 ·obtain ⟨v,u,rfl,hv,hu,k⟩:=h
  obtain ⟨t,ty,_,_,_,k4⟩:=okN.ty (K:=K) (H:=H) hv
  refine ⟨_,pss_cons (ps_if (pt_cmp (pc_isN (pv 1))) (pss_one (ps_ret (pe_cmp (pc_isN (pv 0))))) pss_nil)
   (pss_one (ps_ret (pe_and (pe_callB call_isinst rfl T.isinstance boot_isinstance (pa_cons (pv 0) (pa_cons (pe_bltn rfl T.str boot_str (v:=.ty "str") rfl) pa_nil))) (pe_one (pe_cmpR op_eq (pv 0) (pv 1) (nomark _)))))),?_⟩
  refine ⟨_,rfl,_,rfl,ite2 (λhc=>?_) (λhc=>?_)⟩
  ·have e:u=.non:=of_decide_eq_true hc
   subst e
   exact ⟨_,rfl,k⟩
  ·have e:u≠.non:=of_decide_eq_false (Bool.eq_false_iff.mpr hc)
   refine ⟨_,rfl,_,_,_,_,_,rfl,ty,rfl,k4,_,rfl,andV (decide (v=u)) (λ_ Q' q'=>⟨_,rfl,_,rfl,hv.scal hu,q'⟩) ?_⟩
   have e2:(decide (v≠V.non) && decide (v=u))=decide (v=u):=by
    by_cases hvu:v=u
    ·subst hvu;simp [e]
    ·simp [hvu]
   rw [e2]
   exact k
def likeI (a b:V):V:=.int (if decide (a=b) then 1 else 0)
def spLikeI:Sp:=λvs H Q _=>∃ a b,vs=[a,b]/\okK .I a/\okK .I b/\Q (likeI a b) H
theorem ok_alikeby {f:Addr}{fd:FuncData} (F:Fun K "_law_alike_by" "_law_alike_by" s_law_alike_by f fd) (T:Txt K mg C):FnOk P w K mg base CX0 1 f fd ["one","other"] spLikeI:=by
 refine F.ok sc_law_alike_by (λvs H Q E h=>?_) (λcdv A outer s H vs Q E hr h=>?_)
 ·obtain ⟨a,b,rfl,_⟩:=h
  rfl
 ·obtain ⟨a,b,rfl,ha,hb,k⟩:=h
  refine ⟨_,pss_one (ps_ret (pe_callTy call_int1 rfl T.int boot_int (pa_cons (pe_cmpR op_eq (pv 0) (pv 1) (nomark _)) pa_nil))),?_⟩
  exact ⟨_,rfl,_,rfl,okK.scal ha hb,.inr ⟨_,rfl,k⟩⟩
def spPlaceT:Sp:=λvs H Q _=>∃ (t:Addr) (c:Int) (v:V) (ps:List (Int×V)),vs=[.ref t,.int c]/\ToldH H t v ps/\ps.length<=60/\∀ (x:Int) (H':Hp),Same H H'->Q (.int x) H'
theorem ok_placeT {f:Addr}{fd:FuncData} (F:Fun K "_law_place" "_law_place" s_law_place f fd) (T:Txt K mg C):FnOk P w K mg base CX0 1 f fd ["due","cell"] spPlaceT:=by
 refine F.ok sc_law_place (λvs H Q E h=>?_) (λcdv A outer s H vs Q E hr h=>?_)
 ·obtain ⟨t,c,v,ps,rfl,_⟩:=h
  rfl
 ·obtain ⟨t,one,v,ps,rfl,⟨ca,ho,gt,gca,gho⟩,hlen,k⟩:=h
  have hu:=hu16 hr
  refine' ⟨_,pss_cons (ps_imp (t':=λD σ H'=>(∀ (x:Int) (H2:Hp),Same H H2->D.rt (.int x) H2)/\∀ H2:Hp,Same H H2->D.nx [some (.ref t),some (.int one)] H2/\σ=[some (.ref t),some (.int one)]/\H'=H) (ps_if ?a1 (pss_one (ps_ret ?a2)) pss_nil) ?ai)
   (pss_one (ps_ret ?c1)),?rd⟩
  case a1=>exact PW.pt (pw_and (pt_cmpR op_eq (pe_op op_mod (pv 1) pe_int) pe_int (nomark _)) (pw_and1 (pt_cmpR (op_neD hu) (pe_ix ix_tup (pv 0) pe_int (λ_ _=>rfl)) (pe_lst pa_nil) (nomark _))))
  case a2=>
   refine' pe_op op_sub (pe_op op_add ?u1 ?u2) pe_int
   case u1=>exact pe_ix ix_list (pe_ix ix_tup (pv 0) pe_int (λ_ _=>rfl)) (pe_op op_mod (pe_op op_fdiv (pv 1) pe_int) (pe_callB call_len_seq rfl T.len PySem.boot_len (pa_cons (pe_ix ix_tup (pv 0) pe_int (λ_ _=>rfl)) pa_nil))) (λ_ _=>rfl)
   case u2=>exact pe_op op_mod (pe_op op_fdiv (pv 1) pe_int) pe_int
  case c1=>exact pe_op op_sub (pe_op op_mod (pe_op op_fdiv (pv 1) pe_int) pe_int) pe_int
  case ai=>
   rintro D σ H' ⟨kr,kn⟩
   obtain ⟨_,rfl,rfl⟩:=kn H Same.refl
   refine ⟨_,rfl,_,_,rfl,rfl,(by show (0:Int)<3;decide),rfl,_,rfl,ite2 (λ_=>?_) (λ_=>iteF (kn _ Same.refl).1)⟩
   refine ⟨_,rfl,t,_,_,.ref ca,rfl,rfl,SqT.of gt,atN (j:=0) rfl rfl,Nat.zero_le _,λem hem=>?_⟩
   have r1:Same H' (upd H' em (.lst [])):=Same.new hem
   have hE:=eqd_flat (K:=K) (SqL.of (r1 _ _ gca)) (SqL.of (upd_same (H:=H') (a:=em) (o:=.lst []))) cuts_flat (λy hy=>nomatch hy)
   generalize upd H' em (.lst [])=Hc at r1 hE ⊢
   cases e:ps with
   |nil=>
    subst e
    exact ⟨1,_,by decide,hE,false,rfl,iteF (kn Hc r1).1⟩
   |cons q r=>
    have e0:eqVs (cutsV ps) []=false:=by rw [e];simp [eqVs]
    rw [e0] at hE
    have lpos:(0:Int)<((cutsV ps).length:Int):=by rw [List.length_map,e,List.length_cons];omega
    obtain ⟨y,hy,ey⟩:=in_list (ts:=cutsV ps) (i:=one / 3 % ((cutsV ps).length:Int)) (Int.emod_nonneg _ (Int.ne_of_gt lpos)) (Int.emod_lt_of_pos _ lpos)
    obtain ⟨z,_,rfl⟩:=List.mem_map.mp hy
    refine ⟨1,_,by decide,hE,true,rfl,iteT ?_⟩
    exact ⟨_,rfl,t,_,_,.ref ca,rfl,rfl,SqT.of (r1 _ _ gt),atN (j:=0) rfl rfl,_,rfl,_,_,rfl,rfl,⟨by decide,by decide⟩,_,rfl,t,_,_,.ref ca,rfl,rfl,SqT.of (r1 _ _ gt),atN (j:=0) rfl rfl,ca,_,rfl,.inl (SqL.of (r1 _ _ gca)),_,_,rfl,rfl,lpos,ca,_,_,.int z.1,rfl,rfl,SqL.of (r1 _ _ gca),ey,_,rfl,_,_,rfl,rfl,⟨by decide,by decide⟩,_,_,rfl,rfl,(by show (0:Int)<5;decide),_,_,rfl,rfl,_,_,rfl,rfl,kr _ Hc r1⟩
  case rd=>
  refine ⟨λx H2 s2=>k x H2 s2,λH2 s2=>⟨?_,rfl,rfl⟩⟩
  exact ⟨_,rfl,_,_,rfl,rfl,⟨by decide,by decide⟩,_,_,rfl,rfl,(by show (0:Int)<121;decide),_,_,rfl,rfl,k _ H2 s2⟩
end
section
variable {P:Program}{w:World}{K:PySem.W.Frag}{mg:Str->Option Value}{base:Heap}{C:Addr} [HoldKind]
theorem kit_NBo {K:PySem.W.Frag}:PySem.W.kitOne K (.type "NoneType") (.type "bool")=some false:=kit_bb (by decide +kernel)
theorem kit_SBo {K:PySem.W.Frag}:PySem.W.kitOne K (.type "str") (.type "bool")=some false:=kit_bb (by decide +kernel)
theorem okI_ty {K:PySem.W.Frag}{H:Hp}{v:V} (h:okK .I v):∃ t,TyOf K H v t/\PySem.W.kitOne K t (.type "bool")=some false:=by
 rcases h with (e|⟨x,e⟩)|⟨n,e⟩
 ·subst e;exact ⟨_,.non,kit_NBo⟩
 ·subst e;exact ⟨_,.str x,kit_SBo⟩
 ·subst e;exact ⟨_,.int n,kit_IB⟩
theorem eqd_tupS {H:Hp}{p q:Addr}{xs:List V} (hp:H p=some (.tup xs)) (hq:H q=some (.tup xs)) (fx:∀ x∈xs,flatV x=true/\L2.eqV x x=true):EqD K H false 1 (.ref p) (.ref q) true:=by
 have e:true=(List.range xs.length).all λ_=>true:=by simp
 rw [e]
 refine .tups _ (SqT.of hp) (SqT.of hq) rfl λj x y h1 h2=>?_
 have exy:x=y:=Option.some.inj (h1.symm.trans h2)
 subst exy
 have hm:=fx x (List.mem_of_getElem? h1)
 have hf:=EqD.flat (K:=K) (H:=H) (n:=0) hm.1 hm.1
 rw [hm.2] at hf
 exact hf
theorem int_self (i:Int):flatV (.int i)=true/\L2.eqV (.int i) (.int i)=true:=⟨rfl,by simp [L2.eqV]⟩
theorem okI_self {v:V} (h:okK .I v):flatV v=true/\L2.eqV v v=true:=⟨okK.flat h,by rw [okK.eqV h h];simp⟩
def Both2 (H:Hp) (x y:V):Prop:=(x=.non/\y=.non)∨(∃ i:Int,x=.int i/\y=.int i)∨∃ (a b:Addr) (i j:Int),x=.ref a/\y=.ref b/\H a=some (.tup [.int i,.int j])/\H b=some (.tup [.int i,.int j])
def spToldS:Sp:=λvs H Q _=>∃ x y,vs=[x,y]/\Both2 H x y/\Q (.bl true) H
theorem ok_toldS {f:Addr}{fd:FuncData} (F:Fun K "_law_told" "_law_told" s_law_told f fd) (T:Txt K mg C) (DW:Def P w K mg base "_law_whole" ["found"] 1 spWhole):FnOk P w K mg base CX0 2 f fd ["found","due"] spToldS:=by
 refine F.ok sc_law_told (λvs H Q E h=>?_) (λcdv A outer s H vs Q E hr h=>?_)
 ·obtain ⟨v,u,rfl,_⟩:=h
  rfl
 ·obtain ⟨x,y,rfl,hxy,k⟩:=h
  have hu:=hu16 hr
  refine' ⟨_,pss_cons (ps_if (pt_cmp (pc_isN (pv 1))) (pss_one (ps_ret (pe_cmp (pc_isN (pv 0))))) pss_nil)
   (pss_cons (ps_if (pt_val ?a1) (pss_one (ps_ret (pe_and ?a2 (pe_and ?a3 (pe_and ?a4 (pe_one ?a5)))))) pss_nil)
   (pss_one (ps_ret (pe_and ?b1 (pe_one ?b2))))),?rd⟩
  case a1=>exact pe_callB call_isinst rfl T.isinstance boot_isinstance (pa_cons (pv 1) (pa_cons (pe_bltn rfl T.tuple boot_tuple (v:=.ty "tuple") rfl) pa_nil))
  case a2=>exact pe_callB call_isinst rfl T.isinstance boot_isinstance (pa_cons (pv 0) (pa_cons (pe_bltn rfl T.tuple boot_tuple (v:=.ty "tuple") rfl) pa_nil))
  case a3=>exact pe_cmpR (op_eqD hu) (pv 0) (pv 1) (nomark _)
  case a4=>exact pe_callD DW hr rfl (pa_cons (pe_ix ix_tup (pv 0) pe_int (λ_ _=>rfl)) pa_nil)
  case a5=>exact pe_callD DW hr rfl (pa_cons (pe_ix ix_tup (pv 0) pe_int (λ_ _=>rfl)) pa_nil)
  case b1=>exact pe_callD DW hr rfl (pa_cons (pv 0) pa_nil)
  case b2=>exact pe_cmpR op_eq (pv 0) (pv 1) (nomark _)
  case rd=>
  rcases hxy with ⟨rfl,rfl⟩|⟨i,rfl,rfl⟩|⟨a,b,i,j,rfl,rfl,ga,gb⟩
  ·exact ⟨_,rfl,true,rfl,iteT ⟨_,rfl,k⟩⟩
  ·refine ⟨_,rfl,false,rfl,iteF ?_⟩
   refine ⟨_,rfl,_,_,_,_,_,rfl,TyOf.int i,rfl,kit_IT,false,rfl,iteF ?_⟩
   refine ⟨_,rfl,_,rfl,true,rfl,iteT ?_⟩
   refine ⟨_,rfl,_,rfl,rfl,?_⟩
   simpa using k
  ·refine ⟨_,rfl,false,rfl,iteF ?_⟩
   refine ⟨_,rfl,_,_,_,_,_,rfl,TyOf.tup gb,rfl,kit_TT,true,rfl,iteT ?_⟩
   refine ⟨_,rfl,_,_,_,_,_,rfl,TyOf.tup ga,rfl,kit_TT,true,rfl,iteT ?_⟩
   refine ⟨_,rfl,_,rfl,1,_,by decide,eqd_tupS ga gb ?_,true,rfl,iteT ?_⟩
   ·intro x hx
    rcases List.mem_cons.mp hx with e|hx
    ·subst e;exact int_self _
    ·rcases List.mem_cons.mp hx with e|hx
     ·subst e;exact int_self _
     ·nomatch hx
   ·exact ⟨_,rfl,a,_,_,.int i,rfl,rfl,SqT.of ga,atN (j:=0) rfl rfl,_,rfl,true,rfl,iteT ⟨_,rfl,a,_,_,.int j,rfl,rfl,SqT.of ga,atN (j:=1) rfl rfl,_,rfl,k⟩⟩
end
section
variable {P:Program}{w:World}{K:PySem.W.Frag}{mg:Str->Option Value}{base:Heap}{C:Addr} [HoldKind]
def spParts:Sp:=λvs H Q _=>∃ (l1 l2:Addr) (rs:List Run),vs=[.ref l1,.ref l2]/\RunsAt H l1 rs/\RunsAt H l2 rs/\(∀ r∈rs,okK .I r.2.2)/\rs.length<=1000/\Q (.bl true) H
theorem ok_parts {f:Addr}{fd:FuncData} (F:Fun K "_law_parts" "_law_parts" s_law_parts f fd) (T:Txt K mg C) :
  FnOk P w K mg base CX0 1 f fd ["found","due"] spParts:=by
 refine F.ok sc_law_parts (λvs H Q E h=>?_) (λcdv A outer s H vs Q E hr h=>?_)
 ·obtain ⟨l1,l2,rs,rfl,_⟩:=h
  rfl
 ·obtain ⟨l1,l2,rs,rfl,⟨ts,g1,e1,h1⟩,⟨us,g2,e2,h2⟩,hv,hlen,k⟩:=h
  have hu:=hu16 hr
  refine' ⟨_,pss_cons (ps_if ?a1 (pss_one (ps_ret pe_bl)) pss_nil)
   (pss_cons (ps_for PassesOwn.never rfl ?b1 (pg_name (i:=2) sc_law_parts.nd rfl (Or.inl rfl))
    (pss_one (ps_if ?b2 (pss_one (ps_ret pe_bl)) pss_nil)))
   (pss_one (ps_ret pe_bl))),?rd⟩
  case a1=>
   refine' PW.pt (pw_or (pt_not (pt_val ?x)) (pw_or1 ?y))
   case x=>exact pe_callB call_isinst rfl T.isinstance boot_isinstance (pa_cons (pv 0) (pa_cons (pe_bltn rfl T.list boot_list (v:=.ty "list") rfl) pa_nil))
   case y=>exact pt_cmpR op_ne (pe_callB call_len_seq rfl T.len PySem.boot_len (pa_cons (pv 0) pa_nil)) (pe_callB call_len_seq rfl T.len PySem.boot_len (pa_cons (pv 1) pa_nil)) (nomark _)
  case b1=>exact pi_range1 rfl T.range (pa_cons (pe_callB call_len_seq rfl T.len PySem.boot_len (pa_cons (pv 1) pa_nil)) pa_nil)
  case b2=>
   refine' PW.pt (pw_or (pt_not (pt_val ?x)) (pw_or ?y (pw_or1 (pt_val ?z))))
   case x=>exact pe_callB call_isinst rfl T.isinstance boot_isinstance (pa_cons (pe_ix ix_list (pv 0) (pv 2) (λ_ _=>rfl)) (pa_cons (pe_bltn rfl T.tuple boot_tuple (v:=.ty "tuple") rfl) pa_nil))
   case y=>exact pt_cmpR (op_neD hu) (pe_ix ix_list (pv 0) (pv 2) (λ_ _=>rfl)) (pe_ix ix_list (pv 1) (pv 2) (λ_ _=>rfl)) (nomark _)
   case z=>exact pe_callB call_isinst rfl T.isinstance boot_isinstance (pa_cons (pe_ix ix_tup (pe_ix ix_list (pv 0) (pv 2) (λ_ _=>rfl)) pe_int (λ_ _=>rfl)) (pa_cons (pe_bltn rfl T.bool boot_bool (v:=.ty "bool") rfl) pa_nil))
  case rd=>
  have len1:(ts.map V.ref).length=rs.length:=by rw [List.length_map,e1]
  have len2:(us.map V.ref).length=rs.length:=by rw [List.length_map,e2]
  refine ⟨_,rfl,_,_,_,_,_,rfl,TyOf.lst g1,rfl,kit_LL,true,rfl,iteN (by decide) ?_⟩
  refine ⟨_,rfl,l1,_,rfl,.inl (SqL.of g1),_,rfl,l2,_,rfl,.inl (SqL.of g2),rfl,_,rfl,iteNS (by rw [len1,len2]) ?_⟩
  refine ⟨_,rfl,l2,_,rfl,.inl (SqL.of g2),_,rfl,by omega,by rw [len2];omega,?_⟩
  rw [show (((us.map V.ref).length:Nat):Int).toNat=rs.length by rw [len2];omega]
  refine for_range (λi σ H'=>H'=H/\∃ m,σ=[some (.ref l1),some (.ref l2),m]) ⟨rfl,none,rfl⟩ ?_ ?_
  ·rintro i σ H' hi ⟨rfl,m,rfl⟩
   have hr0:rs[i]?=some rs[i]:=List.getElem?_eq_getElem hi
   generalize rs[i]=r at hr0
   have ht0:ts[i]?=some (ts[i]'(by omega)):=List.getElem?_eq_getElem _
   generalize ts[i]'(by omega)=t at ht0
   have hu0:us[i]?=some (us[i]'(by omega)):=List.getElem?_eq_getElem _
   generalize us[i]'(by omega)=u at hu0
   have gt:=h1 i t r ht0 hr0
   have gu:=h2 i u r hu0 hr0
   have hrv:=hv r (List.mem_of_getElem? hr0)
   obtain ⟨ty,hty,kty⟩:=okI_ty (K:=K) (H:=H') hrv
   have ix1:atI (ts.map V.ref) (0+(i:Int))=some (.ref t):=atN (j:=i) (by omega) (by rw [List.getElem?_map,ht0];rfl)
   have ix2:atI (us.map V.ref) (0+(i:Int))=some (.ref u):=atN (j:=i) (by omega) (by rw [List.getElem?_map,hu0];rfl)
   refine ⟨_,rfl,_,rfl,l1,_,_,.ref t,rfl,rfl,SqL.of g1,ix1,_,_,_,_,_,rfl,TyOf.tup gt,rfl,kit_TT,true,rfl,iteN (by decide) ?_⟩
   refine ⟨_,rfl,_,rfl,l1,_,_,.ref t,rfl,rfl,SqL.of g1,ix1,_,rfl,_,rfl,l2,_,_,.ref u,rfl,rfl,SqL.of g2,ix2,1,_,by decide,eqd_tupS gt gu ?_,false,rfl,iteN (by decide) ?_⟩
   ·intro x hx
    rcases List.mem_cons.mp hx with e|hx
    ·subst e;exact int_self _
    ·rcases List.mem_cons.mp hx with e|hx
     ·subst e;exact int_self _
     ·rcases List.mem_cons.mp hx with e|hx
      ·subst e;exact okI_self hrv
      ·nomatch hx
   ·exact ⟨_,rfl,_,rfl,l1,_,_,.ref t,rfl,rfl,SqL.of g1,ix1,t,_,_,r.2.2,rfl,rfl,SqT.of gt,atN (j:=2) rfl rfl,_,_,_,_,_,rfl,hty,rfl,kty,false,rfl,iteN (by decide) ⟨rfl,_,rfl⟩⟩
  ·rintro σ H' ⟨rfl,m,rfl⟩
   exact k
end
section
variable {P:Program}{w:World}{K:PySem.W.Frag}{mg:Str->Option Value}{base:Heap}{C:Addr} [HoldKind]
def spLLong:Sp:=λvs H Q _=>∃ (l:Addr) (u:V) (rs:List Run),vs=[.ref l,u]/\RunsAt H l rs/\HV u/\(∀ r∈rs,HV r.2.2)/\rs.length<=1000/\∀ (x:V) (H':Hp),Same H H'->BestAt H' x (bestR u rs)->Q x H'
theorem ok_llong {f:Addr}{fd:FuncData} (F:Fun K "_law_longest" "_law_longest" s_law_longest f fd) (T:Txt K mg C):FnOk P w K mg base CX0 1 f fd ["due","value"] spLLong:=by
 refine F.ok sc_law_longest (λvs H Q E h=>?_) (λcdv A outer s H vs Q E hr h=>?_)
 ·obtain ⟨l,u,rs,rfl,_⟩:=h
  rfl
 ·obtain ⟨l,u,rs,rfl,⟨ts,gl,htl,hts⟩,hu,hhv,hlen,k⟩:=h
  refine' ⟨_,pss_cons (ps_set (i:=2) sc_law_longest.nd rfl (Or.inl rfl) pe_non)
   (pss_cons (ps_for PassesOwn.never rfl (pi_list (pv 0)) (pg_name (i:=3) sc_law_longest.nd rfl (Or.inl rfl))
    (pss_cons (ps_set (i:=4) sc_law_longest.nd rfl (Or.inl rfl) ?a1)
    (pss_one (ps_if ?b1 (pss_one (ps_set (i:=2) sc_law_longest.nd rfl (Or.inl rfl) ?b2)) pss_nil))))
   (pss_one (ps_ret (pv 2)))),?rd⟩
  case a1=>exact pe_op op_sub (pe_ix ix_tup (pv 3) pe_int (λ_ _=>rfl)) (pe_ix ix_tup (pv 3) pe_int (λ_ _=>rfl))
  case b1=>
   refine' PW.pt (pw_and ?x (pw_and1 (PW.pt (pw_or ?y (pw_or1 ?z)))))
   case x=>exact pt_cmpR op_eq (pe_ix ix_tup (pv 3) pe_int (λ_ _=>rfl)) (pv 1) (nomark _)
   case y=>exact pt_cmp (pc_isN (pv 2))
   case z=>exact pt_cmpR op_gt (pv 4) (pe_ix ix_tup (pv 2) pe_int (λ_ _=>rfl)) (nomark _)
  case b2=>exact pe_tup (pa_cons (pe_ix ix_tup (pv 3) pe_int (λ_ _=>rfl)) (pa_cons (pv 4) pa_nil))
  case rd=>
  refine ⟨_,rfl,l,rfl,⟨_,SqL.of gl⟩,?_⟩
  refine for_list (K:=K) (xs:=ts.map V.ref) (λi σ H'=>∃ (x:V) (y3 y4:Option V),σ=[some (.ref l),some u,some x,y3,y4]/\Same H H'/\BestAt H' x (bestR u (rs.take i))) ?_ (λi σ H' _ ⟨_,_,_,_,s2,_⟩=>s2.seq (SqL.of gl)) ?_ ?_
  ·exact ⟨.non,none,none,rfl,Same.refl,rfl⟩
  ·rintro i x σ H' hx ⟨y,y3,y4,rfl,s2,hB⟩
   rw [List.getElem?_map] at hx
   obtain ⟨t,ht,rfl⟩:=Option.map_eq_some_iff.mp hx
   have hil:i<rs.length:=by rw [<-htl];exact (List.getElem?_eq_some_iff.mp ht).1
   have hri:rs[i]?=some rs[i]:=List.getElem?_eq_getElem hil
   generalize rs[i]=r at hri
   have hv:=hhv r (List.mem_of_getElem? hri)
   have hnx:=bestR_take (u:=u) hri
   generalize bestR u (rs.take i)=o at hB hnx
   have gt:=s2 _ _ (hts i t r ht hri)
   refine ⟨_,rfl,t,_,_,.int r.2.1,rfl,rfl,SqT.of gt,atN (j:=1) rfl rfl,_,rfl,t,_,_,.int r.1,rfl,rfl,SqT.of gt,atN (j:=0) rfl rfl,_,_,rfl,rfl,?_⟩
   refine ⟨_,rfl,t,_,_,r.2.2,rfl,rfl,SqT.of gt,atN (j:=2) rfl rfl,_,rfl,hv.scal hu,_,rfl,andT (better o (r.2.1-r.1)) (λ_ Q' q'=>?_) ?_⟩
   ·cases o with
    |none=>
     cases hB
     exact ⟨_,rfl,true,rfl,iteT q'⟩
    |some bb=>
     obtain ⟨t2,rfl,gt2⟩:=hB
     exact ⟨_,rfl,false,rfl,iteF ⟨_,rfl,_,rfl,t2,_,_,.int bb.2,rfl,rfl,SqT.of gt2,atN (j:=1) rfl rfl,_,_,rfl,rfl,_,rfl,q'⟩⟩
   ·refine ite2 (λhc=>?_) (λhc=>?_)
    ·have e:bestStep u o r=some (r.1,r.2.1-r.1):=if_pos hc
     refine ⟨_,rfl,t,_,_,.int r.1,rfl,rfl,SqT.of gt,atN (j:=0) rfl rfl,_,rfl,smallL (by show 2<=2000;decide),λt3 ht3=>?_⟩
     refine ⟨.ref t3,_,_,rfl,s2.trans (Same.new ht3),?_⟩
     rw [hnx,e]
     exact ⟨t3,rfl,upd_same⟩
    ·have e:bestStep u o r=o:=if_neg hc
     refine ⟨y,_,_,rfl,s2,?_⟩
     rw [hnx,e]
     exact hB
  ·rintro σ H' ⟨x,y3,y4,rfl,s2,hB⟩
   rw [List.take_of_length_le (by rw [List.length_map];omega)] at hB
   exact ⟨_,rfl,k x H' s2 hB⟩
end
section
variable {P:Program}{w:World}{K:PySem.W.Frag}{mg:Str->Option Value}{base:Heap}{C:Addr} [HoldKind]
def spBoth:Sp:=λvs H Q _=>∃ (t1 t2:Addr) (v u:V) (ps qs:List (Int×V)),vs=[.ref t1,.ref t2]/\ToldH H t1 v ps/\ToldH H t2 u qs/\Holds v ps/\Holds u qs/\ps.length<=60/\qs.length<=60/\
 ∀ (t:Addr) (H':Hp) (τ:List Int),Same H H'->ToldH H' t (likeI v u) (τ.map λe=>(e,likeI (atL v ps e) (atL u qs e)))->τ.Pairwise (· < ·)->τ.length<=120->
  (∀ x,atL (likeI v u) (τ.map λe=>(e,likeI (atL v ps e) (atL u qs e))) x=likeI (atL v ps x) (atL u qs x))->Q (.ref t) H'
theorem ok_both {f:Addr}{fd:FuncData} (F:Fun K "_law_both" "_law_both" s_law_both f fd) (T:Txt K mg C) (DA:Def P w K mg base "_law_at" ["told","place"] 1 (spAt K)):FnOk P w K mg base CX0 2 f fd ["one","other"] spBoth:=by
 refine F.ok sc_law_both (λvs H Q E h=>?_) (λcdv A outer s H vs Q E hr h=>?_)
 ·obtain ⟨t1,t2,v,u,ps,qs,rfl,_⟩:=h
  rfl
 ·obtain ⟨t1,t2,v,u,ps,qs,rfl,hT1,hT2,hh1,hh2,hl1,hl2,k⟩:=h
  refine' ⟨_,pss_cons (ps_set (i:=2) sc_law_both.nd rfl (Or.inl rfl) ?a1)
   (pss_cons (ps_set (i:=3) sc_law_both.nd rfl (Or.inl rfl) (pe_lst (pa_cons ?a2 pa_nil)))
   (pss_cons (ps_for PassesOwn.never rfl (pi_list (pv 2)) (pg_name (i:=4) sc_law_both.nd rfl (Or.inl rfl)) (pss_one (ps_expr ?b1)))
   (pss_one (ps_ret (pe_tup (pa_cons (pv 2) (pa_cons (pv 3) pa_nil))))))),?rd⟩
  case a1=>exact pe_sortset rfl rfl T.sorted rfl T.set (pe_op op_cat (pe_ix ix_tup (pv 0) pe_int (λ_ _=>rfl)) (pe_ix ix_tup (pv 1) pe_int (λ_ _=>rfl)))
  case a2=>exact pe_callTy call_int1 rfl T.int boot_int (pa_cons (pe_cmpR op_eq (pe_ix ix_list (pe_ix ix_tup (pv 0) pe_int (λ_ _=>rfl)) pe_int (λ_ _=>rfl)) (pe_ix ix_list (pe_ix ix_tup (pv 1) pe_int (λ_ _=>rfl)) pe_int (λ_ _=>rfl)) (nomark _)) pa_nil)
  case b1=>
   refine' pe_bm PySem.F.plainAttrs_list PySem.F.slot_list_append PySem.F.type_list_append mt_append (pv 3) (pa_cons ?x pa_nil)
   case x=>exact pe_callTy call_int1 rfl T.int boot_int (pa_cons (pe_cmpR op_eq (pe_callD DA hr rfl (pa_cons (pv 0) (pa_cons (pv 4) pa_nil))) (pe_callD DA hr rfl (pa_cons (pv 1) (pa_cons (pv 4) pa_nil))) (nomark _)) pa_nil)
  case rd=>
  obtain ⟨c1,d1,g1,gc1,gd1⟩:=id hT1
  obtain ⟨c2,d2,g2,gc2,gd2⟩:=id hT2
  have ecv:cutsV ps++cutsV qs=(ps.map (·.1)++qs.map (·.1)).map V.int:=by rw [List.map_append,List.map_map,List.map_map];rfl
  have lc1:(cutsV ps).length=ps.length:=List.length_map ..
  have lc2:(cutsV qs).length=qs.length:=List.length_map ..
  have ll:(ps.map (·.1)++qs.map (·.1)).length<=120:=by rw [List.length_append,List.length_map,List.length_map];omega
  refine ⟨_,rfl,t1,_,_,.ref c1,rfl,rfl,SqT.of g1,atN (j:=0) rfl rfl,_,rfl,t2,_,_,.ref c2,rfl,rfl,SqT.of g2,atN (j:=0) rfl rfl,c1,c2,_,_,rfl,rfl,gc1,gc2,(have h:(cutsV ps).length+(cutsV qs).length<=2000:=(by rw [lc1,lc2];omega);smallL h),λz hz=>?_⟩
  have s1:Same H (upd H z (.lst (cutsV ps++cutsV qs))):=Same.new hz
  have gz:(upd H z (.lst (cutsV ps++cutsV qs))) z=some (.lst (cutsV ps++cutsV qs)):=upd_same
  generalize upd H z (.lst (cutsV ps++cutsV qs))=H1 at s1 gz ⊢
  refine ⟨z,ps.map (·.1)++qs.map (·.1),rfl,SqL.of (by rw [<-ecv];exact gz),by omega,Nat.lt_of_le_of_lt (ddup_le _) (by omega),λcl τ hcl hτ hm hτl=>?_⟩
  have hτ120:τ.length<=120:=by have:=ddup_le (ps.map (·.1)++qs.map (·.1));omega
  have s2:Same H1 (upd H1 cl (.lst (τ.map V.int))):=Same.new hcl
  have gcl:(upd H1 cl (.lst (τ.map V.int))) cl=some (.lst (τ.map V.int)):=upd_same
  have s02:=s1.trans s2
  generalize upd H1 cl (.lst (τ.map V.int))=H2 at s2 gcl s02 ⊢
  have in1:∀ z∈ps,z.1∈τ:=λz hz=>(hm z.1).mpr (List.mem_append_left _ (List.mem_map.mpr ⟨z,hz,rfl⟩))
  have in2:∀ z∈qs,z.1∈τ:=λz hz=>(hm z.1).mpr (List.mem_append_right _ (List.mem_map.mpr ⟨z,hz,rfl⟩))
  refine ⟨_,rfl,t1,_,_,.ref d1,rfl,rfl,SqT.of (s02 _ _ g1),atN (j:=1) rfl rfl,d1,_,_,v,rfl,rfl,SqL.of (s02 _ _ gd1),atN (j:=0) rfl rfl,_,rfl,t2,_,_,.ref d2,rfl,rfl,SqT.of (s02 _ _ g2),atN (j:=1) rfl rfl,d2,_,_,u,rfl,rfl,SqL.of (s02 _ _ gd2),atN (j:=0) rfl rfl,hh1.h0.scal hh2.h0,.inr ⟨_,rfl,smallL (by show 1<=2000;decide),λhl hhl=>?_⟩⟩
  have s3:Same H2 (upd H2 hl (.lst [likeI v u])):=Same.new hhl
  have hhl0:H hl=none:=s02.free hhl
  have ghl:(upd H2 hl (.lst [likeI v u])) hl=some (.lst [likeI v u]):=upd_same
  have gcl3:=s3 _ _ gcl
  have s03:=s02.trans s3
  have nhcl:hl≠cl:=(ne_of_none gcl hhl).symm
  refine ⟨_,rfl,cl,rfl,⟨_,SqL.of gcl3⟩,?_⟩
  refine for_list (K:=K) (xs:=τ.map V.int) (λi σ H'=>∃ y4:Option V,σ=[some (.ref t1),some (.ref t2),some (.ref cl),some (.ref hl),y4]/\Same H H'/\H' cl=some (.lst (τ.map V.int))/\H' hl=some (.lst (likeI v u::(τ.take i).map λe=>likeI (atL v ps e) (atL u qs e)))) ?_ (λi σ H' _ ⟨_,_,_,g,_⟩=>SqL.of g) ?_ ?_
  ·exact ⟨none,rfl,s03,gcl3,ghl⟩
  ·rintro i x σ H' hx ⟨y4,rfl,s6,gc6,gh6⟩
   rw [List.getElem?_map] at hx
   obtain ⟨e,he,rfl⟩:=Option.map_eq_some_iff.mp hx
   have il:i < τ.length:=(List.getElem?_eq_some_iff.mp he).1
   refine ⟨_,rfl,.inl ⟨rfl,_,SqL.of gh6⟩,_,rfl,_,rfl,t1,e,v,ps,rfl,(hT1.same s6).at,by omega,_,rfl,_,rfl,t2,e,u,qs,rfl,(hT2.same s6).at,by omega,hh1.at.scal hh2.at,.inr ⟨_,rfl,hl,_,_,rfl,rfl,gh6,small (by rw [List.length_cons,List.length_map,List.length_take];omega),?_⟩⟩
   refine ⟨_,rfl,Same.upd s6 hhl0,by rw [upd_ne nhcl.symm];exact gc6,?_⟩
   rw [upd_same,List.take_add_one,he,List.map_append]
   rfl
  ·rintro σ H' ⟨y4,rfl,s6,gc6,gh6⟩
   rw [List.take_of_length_le (by rw [List.length_map];exact Nat.le_refl _)] at gh6
   refine ⟨_,rfl,_,rfl,smallL (by show 2<=2000;decide),λt ht=>?_⟩
   have s7:Same H' (upd H' t (.tup [.ref cl,.ref hl])):=Same.new ht
   refine k t _ τ (s6.trans s7) ⟨cl,hl,upd_same,?_,?_⟩ hτ hτ120 λx=>?_
   ·rw [s7 _ _ gc6]
    show _=some (HO.lst ((τ.map λe=>(e,likeI (atL v ps e) (atL u qs e))).map (λq=>V.int q.1)))
    rw [List.map_map];rfl
   ·rw [s7 _ _ gh6]
    show _=some (HO.lst (likeI v u::(τ.map λe=>(e,likeI (atL v ps e) (atL u qs e))).map (·.2)))
    rw [List.map_map];rfl
   ·refine atL_steps (f:=λx=>likeI (atL v ps x) (atL u qs x)) hτ (λhlow=>?_) (λe he hle hmax=>?_)
    ·rw [atL_low λz hz=>hlow z.1 (in1 z hz),atL_low λz hz=>hlow z.1 (in2 z hz)]
    ·have e1:atL v ps x=atL v ps e:=atL_congr λz hz=>⟨λh=>hmax z.1 (in1 z hz) h,λh=>by omega⟩
     have e2:atL u qs x=atL u qs e:=atL_congr λz hz=>⟨λh=>hmax z.1 (in2 z hz) h,λh=>by omega⟩
     show likeI (atL v ps x) (atL u qs x)=likeI (atL v ps e) (atL u qs e)
     rw [e1,e2]
end
section
variable {P:Program}{w:World}{K:PySem.W.Frag}{mg:Str->Option Value}{base:Heap}{C:Addr} [HoldKind]
abbrev scAs:Scope:={ kind:=.function,names:=[(".0",.local),("part",.local),("value",.free)],isGenerator:=false,isCoroutine:=false,more:=[] }
theorem cs_as:CScope (defScope s_law_asked) scAs ["line","due","start","end","value","size","parts","many"] ["part","value"] [4] "part":=
 ⟨rfl,by decide +kernel,by decide +kernel,by decide +kernel,by decide +kernel,rfl,by decide +kernel,by decide +kernel,by decide +kernel,by decide +kernel⟩
theorem ix_tupA {X:Cx}{K':PySem.W.Frag} (h:X.K=K'):IxR X (rIxT K'):=h ▸ ix_tup
def spAsked (C:Addr):Sp:=λvs H Q _=>∃ (p t:Addr) (a b n:Int) (u v v':V) (ps qs:List (Int×V)),vs=[.ref p,.ref t,.int a,.int b,u,.int n]/\LineAt C H p v ps/\Form v ps/\ToldH H t v' qs/\Holds v' qs/\atL v ps=atL v' qs/\HV u/\1<=n/\ps.length<=900/\qs.length<=150/\
 ∀ H':Hp,Same H H'->Q (.bl true) H'
theorem both_best {H:Hp}{x y:V}:∀ {o:Option (Int×Int)},BestAt H x o->BestAt H y o->Both2 H x y
 |none,h1,h2=>.inl ⟨h1,h2⟩
 |some b,⟨t1,e1,g1⟩,⟨t2,e2,g2⟩=>.inr (.inr ⟨t1,t2,b.1,b.2,e1,e2,g1,g2⟩)
theorem both_opt {H:Hp}:∀ (o:Option Int),Both2 H (optV o) (optV o)
 |none=>.inl ⟨rfl,rfl⟩
 |some i=>.inr (.inl ⟨i,rfl,rfl⟩)
theorem ok_asked {f:Addr}{fd:FuncData} (hI:∀ x:V,HV x->okK .I x) (F:Fun K "_law_asked" "_law_asked" s_law_asked f fd) (T:Txt K mg C) (zs:mg "sum"=none)
  (DLR:Def P w K mg base "_law_runs" ["told","start","end"] 2 spLRuns) (DP:Def P w K mg base "_law_parts" ["found","due"] 1 spParts) (DR:Def P w K mg base "runs" ["line","start","end"] 2 (spRuns C)) (DT:Def P w K mg base "_law_told" ["found","due"] 2 spToldS)
  (DTa:Def P w K mg base "tally" ["line","value","start","end"] 3 (spTally C)) (DLo:Def P w K mg base "longest" ["line","value","start","end"] 3 (spLongest C)) (DLL:Def P w K mg base "_law_longest" ["due","value"] 1 spLLong)
  (DRo:Def P w K mg base "first_room" ["line","value","place","size"] 2 (spRoom K C)) (DLo2:Def P w K mg base "_law_room" ["told","value","place","size"] 2 spLawRoom) :
  FnOk P w K mg base CX0 4 f fd ["line","due","start","end","value","size"] (spAsked C):=by
 refine F.ok sc_law_asked (λvs H Q E h=>?_) (λcdv A outer s H vs Q E hr h=>?_)
 ·obtain ⟨p,t,a,b,n,u,v,v',ps,qs,rfl,_⟩:=h
  rfl
 ·obtain ⟨p,t,a,b,n,u,v,v',ps,qs,rfl,hL,hF,hT,hH,hE,huv,hn,hps,hqs,k⟩:=h
  have hr1:Room 1 _:=hr.mono (by decide)
  have hr2:Room 2 _:=hr.mono (by decide)
  have hr3:Room 3 _:=hr.mono (by decide)
  refine' ⟨_,pss_cons (ps_set (i:=6) sc_law_asked.nd rfl (Or.inl rfl) ?d1)
   (pss_cons (ps_if ?d2 (pss_one (ps_ret pe_bl)) pss_nil)
   (pss_cons (ps_set (i:=7) sc_law_asked.nd rfl (Or.inl rfl) ?d3)
   (pss_cons (ps_if ?d4 (pss_one (ps_ret pe_bl)) pss_nil)
   (pss_cons (ps_if ?d5 (pss_one (ps_ret pe_bl)) pss_nil)
   (pss_one (ps_ret ?d6)))))),?rd⟩
  case d1=>exact pe_callD DLR hr2 rfl (pa_cons (pv 1) (pa_cons (pv 2) (pa_cons (pv 3) pa_nil)))
  case d2=>exact pt_not (pt_val (pe_callD DP hr1 rfl (pa_cons (pe_callD DR hr2 rfl (pa_cons (pv 0) (pa_cons (pv 2) (pa_cons (pv 3) pa_nil)))) (pa_cons (pv 6) pa_nil))))
  case d3=>
   refine' pe_callB (call_sum rfl) rfl zs boot_sum (pa_cons ?x pa_nil)
   case x=>
    refine' pe_comp cs_as rfl rfl rfl (pi_list (pv 6)) ?y2 ?y3
    case y2=>exact λ_ _ _ _ _=>pf_one (pt_cmpR op_eq (pe_ix (ix_tupA (K':=K) rfl) (pv 0) pe_int (λ_ _=>rfl)) (pv 1) (nomark _))
    case y3=>exact λ_ _ _ _ _=>pe_op op_sub (pe_ix (ix_tupA (K':=K) rfl) (pv 0) pe_int (λ_ _=>rfl)) (pe_ix (ix_tupA (K':=K) rfl) (pv 0) pe_int (λ_ _=>rfl))
  case d4=>exact pt_not (pt_val (pe_callD DT hr2 rfl (pa_cons (pe_callD DTa hr3 rfl (pa_cons (pv 0) (pa_cons (pv 4) (pa_cons (pv 2) (pa_cons (pv 3) pa_nil))))) (pa_cons (pv 7) pa_nil))))
  case d5=>exact pt_not (pt_val (pe_callD DT hr2 rfl (pa_cons (pe_callD DLo hr3 rfl (pa_cons (pv 0) (pa_cons (pv 4) (pa_cons (pv 2) (pa_cons (pv 3) pa_nil))))) (pa_cons (pe_callD DLL hr1 rfl (pa_cons (pv 6) (pa_cons (pv 4) pa_nil))) pa_nil))))
  case d6=>exact pe_callD DT hr2 rfl (pa_cons (pe_callD DRo hr2 rfl (pa_cons (pv 0) (pa_cons (pv 4) (pa_cons (pv 2) (pa_cons (pv 5) pa_nil))))) (pa_cons (pe_callD DLo2 hr2 rfl (pa_cons (pv 1) (pa_cons (pv 4) (pa_cons (pv 2) (pa_cons (pv 5) pa_nil))))) pa_nil))
  case rd=>
  refine ⟨_,rfl,_,rfl,_,rfl,t,a,b,v',qs,rfl,hT,hH,by omega,λld rs H7 s7 _ hR7 hok hrl=>?_⟩
  have hhv:=hok.hv λz=>hH.at
  have hL7:=hL.same s7
  refine ⟨_,rfl,_,rfl,_,rfl,p,a,b,v,ps,rfl,hL7,hF,by omega,λlr rs1 H8 s78 _ hR8 hok1 _=>?_⟩
  rw [hE] at hok1
  obtain rfl:rs1=rs:=hok1.unique hok
  refine ⟨_,rfl,lr,ld,rs1,rfl,hR8,hR7.same s78,λr hr'=>hI _ (hhv r hr'),by omega,true,rfl,iteN (by decide) ?_⟩
  obtain ⟨ts,gd,htl,hts⟩:=hR7.same s78
  refine ⟨_,rfl,ld,rfl,⟨_,SqL.of gd⟩,?_⟩
  refine comp_ghN (K:=K) (js:=[4]) rs1 (λr=>decide (r.2.2=u)) (λr=>.int (r.2.1-r.1)) (SqL.of gd) ?q1 ?q2 ?q3 ?q4 ?q5
  case q1=>rw [List.length_map,htl]
  case q2=>rw [List.length_map];omega
  case q3=>
   intro j z r H11 Q' hz hr' sB q'
   rw [List.getElem?_map] at hz
   obtain ⟨tj,ht,rfl⟩:=Option.map_eq_some_iff.mp hz
   have gt:=sB _ _ (hts j tj r ht hr')
   exact ⟨_,rfl,tj,_,_,r.2.2,rfl,rfl,SqT.of gt,atN (j:=2) rfl rfl,_,rfl,(hhv r (List.mem_of_getElem? hr')).scal huv,_,rfl,q'⟩
  case q4=>
   intro j z r H11 Q' hz hr' _ sB q'
   rw [List.getElem?_map] at hz
   obtain ⟨tj,ht,rfl⟩:=Option.map_eq_some_iff.mp hz
   have gt:=sB _ _ (hts j tj r ht hr')
   exact ⟨_,rfl,tj,_,_,.int r.2.1,rfl,rfl,SqT.of gt,atN (j:=1) rfl rfl,_,rfl,tj,_,_,.int r.1,rfl,rfl,SqT.of gt,atN (j:=0) rfl rfl,_,_,rfl,rfl,q'⟩
  case q5=>
  intro lc hlc
  have sB:Same H8 (upd H8 lc (.lst ((rs1.filter λr=>decide (r.2.2=u)).map λr=>V.int (r.2.1-r.1)))):=Same.new hlc
  have glc:(upd H8 lc (.lst ((rs1.filter λr=>decide (r.2.2=u)).map λr=>V.int (r.2.1-r.1)))) lc=some (.lst (((rs1.filter λr=>decide (r.2.2=u)).map λr=>r.2.1-r.1).map V.int)):=by rw [upd_same,List.map_map];rfl
  generalize upd H8 lc (.lst ((rs1.filter λr=>decide (r.2.2=u)).map λr=>V.int (r.2.1-r.1)))=H9 at sB glc ⊢
  have s79:=s78.trans sB
  refine ⟨lc,_,rfl,SqL.of glc,?_⟩
  refine ⟨_,rfl,_,rfl,_,rfl,_,rfl,p,u,a,b,v,ps,rfl,hL7.same s79,hF,huv,by omega,λrs3 H10 sA hok3=>?_⟩
  rw [hE] at hok3
  obtain rfl:rs3=rs1:=hok3.unique hok
  have s7A:=s79.trans sA
  refine ⟨_,rfl,_,_,rfl,.inr (.inl ⟨_,rfl,rfl⟩),true,rfl,iteN (by decide) ?_⟩
  refine ⟨_,rfl,_,rfl,_,rfl,_,rfl,p,u,a,b,v,ps,rfl,hL7.same s7A,hF,huv,by omega,λfo rs4 H12 sC hok4 hB=>?_⟩
  rw [hE] at hok4
  obtain rfl:rs4=rs3:=hok4.unique hok
  have s7C:=s7A.trans sC
  refine ⟨_,rfl,_,rfl,ld,u,rs4,rfl,hR7.same s7C,huv,hhv,by omega,λbe H13 sD hB2=>?_⟩
  refine ⟨_,_,rfl,both_best (hB.same sD) hB2,true,rfl,iteN (by decide) ?_⟩
  have s7D:=s7C.trans sD
  refine ⟨_,rfl,_,rfl,_,rfl,_,rfl,p,u,a,n,v,ps,rfl,hL7.same s7D,hF,huv,hn,by omega,λr1 H14 sE hr1=>?_⟩
  rw [hE] at hr1
  refine ⟨_,rfl,_,rfl,_,rfl,_,rfl,t,u,a,n,v',qs,rfl,hT.same (s7.trans (s7D.trans sE)),hH,huv,hn,by omega,λr2 H15 sF hr2=>?_⟩
  obtain rfl:r1=r2:=hr1.unique hr2
  exact ⟨_,_,rfl,both_opt r1,k _ (s7.trans (s7D.trans (sE.trans sF)))⟩
end
section
variable {P:Program}{w:World}{K:PySem.W.Frag}{mg:Str->Option Value}{base:Heap}{C:Addr}
open KindN
theorem Form.toK {k:HoldKind}{v:V}{ps:List (Int×V)} (h:@Form kN v ps):@Form k v ps:=@Form.mk k v ps (@Form.st kN v ps h) (@Form.df kN v ps h) (Holds.ofN (@Form.hh kN v ps h))
theorem cut_but (xs:List V):cutV xs none (some (-1))=xs.take (xs.length - 1):=by
 have e:HT.sIx xs.length xs.length (some (-1))=xs.length - 1:=by
  have h:=HT.clip_eq (-1) xs.length xs.length
  rw [if_pos (by decide)] at h
  omega
 unfold cutV
 rw [e,HT.sIx_none,Nat.sub_zero,List.drop_zero]
theorem ok_law {f:Addr}{fd:FuncData} (F:Fun K "law" "law" s_law f fd) (T:Txt K mg C) (DC:Def P w K mg base "_law_cell_at" ["script","k"] 1 (spCellAt K)) (DN:Def P w K mg base "_law_names" ["cell"] 1 spNames)
  (DDs:Def P w K mg base "_law_deeds" ["cells","names"] 2 (spDeeds K)) (DE:Def P w K mg base "empty_line" [] 4 (spEmpty C)) (DDo:Def P w K mg base "done" ["line","deed"] 5 (spDone K C)) (DDu:Def P w K mg base "_law_due" ["deeds"] 3 (spDue K))
  (DPl:Def P w K mg base "_law_place" ["due","cell"] 1 spPlaceT) (DH:Def P w K mg base "_law_held" ["found","due"] 1 spHeldN) (DVa:Def P w K mg base "value_at" ["line","place"] 2 (spValueAt C)) (DA:Def P w K mg base "_law_at" ["told","place"] 1 (spAt K))
  (DAs:Def P w K mg base "_law_asked" ["line","due","start","end","value","size"] 4 (spAsked C)) (DAsI:Def P w K mg base "_law_asked" ["line","due","start","end","value","size"] 4 (@spAsked kI C))
  (DT:Def P w K mg base "_law_told" ["found","due"] 2 spToldS) (DP:Def P w K mg base "parted" ["one","other","place"] 5 (spParted C)) (DAp:Def P w K mg base "_law_apart" ["told","other","place"] 2 spApart)
  (DJ:Def P w K mg base "joined" ["one","other","way"] 4 (@spJoined kI P w K mg base C)) (DLk:Def P w K mg base "_law_alike_by" ["one","other"] 1 spLikeI) (DB:Def P w K mg base "_law_both" ["one","other"] 2 spBoth):FnOk P w K mg base CX0 6 f fd ["script"] (spLaw K):=by
 refine F.ok sc_law (λvs H Q E h=>?_) (λcdv A outer s H vs Q E hr h=>?_)
 ·obtain ⟨a,ns,rfl,_⟩:=h
  rfl
 ·obtain ⟨a,ns,rfl,hS,hlen,k⟩:=h
  obtain ⟨g,gd,g1,g2,g3,g4⟩:=DLk.ex
  have hr1:Room 1 _:=hr.mono (by decide)
  have hr2:Room 2 _:=hr.mono (by decide)
  have hr3:Room 3 _:=hr.mono (by decide)
  have hr4:Room 4 _:=hr.mono (by decide)
  refine' ⟨_,pss_cons (ps_set (i:=1) sc_law.nd rfl (Or.inl rfl) ?d1)
   (pss_cons (ps_set (i:=2) sc_law.nd rfl (Or.inl rfl) ?d2)
   (pss_cons (ps_set (i:=3) sc_law.nd rfl (Or.inl rfl) (pe_callD0 DE hr4 rfl))
   (pss_cons (ps_set (i:=4) sc_law.nd rfl (Or.inl rfl) (pv 3))
   (pss_cons (ps_for PassesOwn.never rfl (pi_list (pv 2)) (pg_name (i:=5) sc_law.nd rfl (Or.inl rfl)) (pss_cons (ps_set (i:=4) sc_law.nd rfl (Or.inl rfl) (pv 3)) (pss_one (ps_set (i:=3) sc_law.nd rfl (Or.inl rfl) ?d5))))
   (pss_cons (ps_set (i:=6) sc_law.nd rfl (Or.inl rfl) ?d6)
   (pss_cons (ps_set (i:=7) sc_law.nd rfl (Or.inl rfl) ?d7)
   (pss_cons (ps_set (i:=8) sc_law.nd rfl (Or.inl rfl) ?d8)
   (pss_cons (ps_set (i:=9) sc_law.nd rfl (Or.inl rfl) ?d9)
   (pss_cons (ps_set (i:=10) sc_law.nd rfl (Or.inl rfl) ?d10)
   (pss_cons (ps_set (i:=11) sc_law.nd rfl (Or.inl rfl) ?d11)
   (pss_cons (ps_if ?e1 (pss_one (ps_ret pe_bl)) pss_nil)
   (pss_cons (ps_if ?e2 (pss_one (ps_ret pe_bl)) pss_nil)
   (pss_cons (ps_if ?e3 (pss_one (ps_ret pe_bl)) pss_nil)
   (pss_cons (ps_set (i:=12) sc_law.nd rfl (Or.inl rfl) ?f1)
   (pss_one (ps_ret ?f2)))))))))))))))),?rd⟩
  case d1=>exact pe_callD DN hr1 rfl (pa_cons (pe_callD DC hr1 rfl (pa_cons (pv 0) (pa_cons pe_int pa_nil))) pa_nil)
  case d2=>exact pe_callD DDs hr2 rfl (pa_cons (pe_slice sl_list (pv 0) (po_some pe_int) po_none) (pa_cons (pv 1) pa_nil))
  case d5=>exact pe_callD DDo hr rfl (pa_cons (pv 3) (pa_cons (pv 5) pa_nil))
  case d6=>exact pe_callD DDu hr3 rfl (pa_cons (pv 2) pa_nil)
  case d7=>exact pe_callD DDu hr3 rfl (pa_cons (pe_slice sl_list (pv 2) po_none (po_some (pe_un un_neg pe_int))) pa_nil)
  case d8=>exact pe_callD DPl hr1 rfl (pa_cons (pv 6) (pa_cons (pe_callD DC hr1 rfl (pa_cons (pv 0) (pa_cons pe_int pa_nil))) pa_nil))
  case d9=>exact pe_callD DPl hr1 rfl (pa_cons (pv 6) (pa_cons (pe_callD DC hr1 rfl (pa_cons (pv 0) (pa_cons pe_int pa_nil))) pa_nil))
  case d10=>
   refine' pe_ix ?u1 ?u2 ?u3 ?u4
   case u1=>exact ix_list
   case u2=>exact pv 1
   case u3=>exact pe_op op_mod (pe_callD DC hr1 rfl (pa_cons (pv 0) (pa_cons pe_int pa_nil))) pe_int
   case u4=>exact λ_ _=>rfl
  case d11=>exact pe_op op_add pe_int (pe_op op_mod (pe_callD DC hr1 rfl (pa_cons (pv 0) (pa_cons pe_int pa_nil))) pe_int)
  case e1=>exact pt_not (pt_val (pe_callD DH hr1 rfl (pa_cons (pe_callD DVa hr2 rfl (pa_cons (pv 3) (pa_cons (pv 8) pa_nil))) (pa_cons (pe_callD DA hr1 rfl (pa_cons (pv 6) (pa_cons (pv 8) pa_nil))) pa_nil))))
  case e2=>exact pt_not (pt_val (pe_callD DAs hr4 rfl (pa_cons (pv 3) (pa_cons (pv 6) (pa_cons (pv 8) (pa_cons (pv 9) (pa_cons (pv 10) (pa_cons (pv 11) pa_nil))))))))
  case e3=>exact pt_not (pt_val (pe_callD DT hr2 rfl (pa_cons (pe_callD DP hr rfl (pa_cons (pv 3) (pa_cons (pv 4) (pa_cons (pv 8) pa_nil)))) (pa_cons (pe_callD DAp hr2 rfl (pa_cons (pv 6) (pa_cons (pv 7) (pa_cons (pv 8) pa_nil)))) pa_nil))))
  case f1=>exact pe_callD DJ hr4 rfl (pa_cons (pv 3) (pa_cons (pv 4) (pa_cons (pe_glob rfl g1 (v:=.ref g) rfl) pa_nil)))
  case f2=>
   refine' pe_callD DAsI hr4 rfl (pa_cons (pv 12) (pa_cons ?x (pa_cons (pv 8) (pa_cons (pv 9) (pa_cons ?y (pa_cons (pv 11) pa_nil))))))
   case x=>exact pe_callD DB hr2 rfl (pa_cons (pv 6) (pa_cons (pv 7) pa_nil))
   case y=>exact pe_op op_mod (pe_callD DC hr1 rfl (pa_cons (pv 0) (pa_cons pe_int pa_nil))) pe_int
  case rd=>
  have ecut:cutV (ns.map V.int) (some 6) none=(ns.drop 6).map V.int:=by
   rw [show (6:Int)=((6:Nat):Int) from rfl,cut_from,List.map_drop]
  refine ⟨_,rfl,a,ns,0,rfl,hS,hlen,_,rfl,λl H1 t1 t2 t3 s1 hl gl=>?_⟩
  have hNm:∀ {H':Hp},Same H1 H'->Names K H' l [.non,.str t1,.str t2,.str t3]:=λs'=>⟨SqL.of (s' _ _ gl),rfl,λt ht=>by
   rcases List.mem_cons.mp ht with e|ht
   ·rw [e];exact HV.non
   ·obtain ⟨x,_,e⟩:∃ x,x∈[t1,t2,t3]/\V.str x=t:=List.mem_map.mp (show t∈[t1,t2,t3].map V.str from ht)
    rw [<-e];exact HV.str x⟩
  refine ⟨_,rfl,_,rfl,a,_,rfl,s1.seq hS,λsl hsl=>?_⟩
  rw [ecut]
  have s2:Same H1 (upd H1 sl (.lst ((ns.drop 6).map V.int))):=Same.new hsl
  refine ⟨_,rfl,sl,l,ns.drop 6,_,rfl,SqL.of upd_same,by rw [List.length_drop];omega,hNm s2,λr H3 qs s3 nr gr hD hql=>?_⟩
  have hq28:qs.length<=28:=by rw [hql,List.length_drop];omega
  refine ⟨rfl,λp0 H4 s4 ln=>?_⟩
  have s14:Same H1 H4:=(s2.trans s3).trans s4
  clear s2 gr
  have hD4:=hD.same s4
  refine ⟨_,rfl,_,rfl,r,rfl,⟨_,hD4.1⟩,?_⟩
  refine for_list (K:=K) (a:=r) (xs:=qs.map λq=>V.ref q.1) (λi σ H'=>∃ (p e:Addr) (v u:V) (ps es:List (Int×V)) (x5:Option V),σ=[some (.ref a),some (.ref l),some (.ref r),some (.ref p),some (.ref e),x5,none,none,none,none,none,none,none]/\Same H4 H'/\LineAt C H' p v ps/\Form v ps/\ps.length<=2 * i/\(∀ x,atL v ps x=valD (qs.take i) x)/\LineAt C H' e u es/\Form u es/\es.length<=2 * i/\∀ x,atL u es x=valD (qs.take (i - 1)) x) ?_ (λi σ H' _ ⟨_,_,_,_,_,_,_,_,s5,_⟩=>s5.seq hD4.1) ?_ ?_
  ·exact ⟨p0,p0,.non,.non,[],[],none,rfl,Same.refl,ln.at,⟨List.Pairwise.nil,trivial,HV.non,λq hq=>nomatch hq⟩,Nat.le_refl _,λx=>rfl,ln.at,⟨List.Pairwise.nil,trivial,HV.non,λq hq=>nomatch hq⟩,Nat.le_refl _,λx=>rfl⟩
  ·rintro i y σ H' hi ⟨p,e,v,u,ps,es,x5,rfl,s5,hL,hF,hl5,hx,_,_,_,_⟩
   have hil:i<qs.length:=by
    have:=(List.getElem?_eq_some_iff.mp hi).1
    rw [List.length_map] at this
    exact this
   obtain ⟨q,hq⟩:∃ q,qs[i]?=some q:=⟨_,List.getElem?_eq_getElem hil⟩
   obtain rfl:V.ref q.1=y:=by
    rw [List.getElem?_map,hq] at hi
    exact Option.some.inj hi
   obtain ⟨hd,hok⟩:=(hD4.same s5).2 q (List.mem_of_getElem? hq)
   refine ⟨_,rfl,_,rfl,_,rfl,p,q.1,v,ps,q.2,rfl,hL,hF,by omega,hd,hok,λp' H6 v' ps' s6 ln' hF' hl' hx'=>?_⟩
   refine ⟨p',p,v',v,ps',ps,_,rfl,s5.trans s6,ln'.at,hF',by omega,λx=>?_,hL.same s6,hF,by omega,hx⟩
   rw [hx',List.take_add_one,hq]
   show _=valD (qs.take i++[q]) x
   rw [valD_snoc,show atL v ps=valD (qs.take i) from funext hx]
  ·rintro σ H5 ⟨p,e,v,u,ps,es,x5,rfl,s5,hL,hF,hl5,hx,hLe,hFe,hle,hxe⟩
   rw [List.length_map] at hl5 hle hxe
   rw [List.take_of_length_le (by rw [List.length_map];exact Nat.le_refl _)] at hx
   have hD5:=hD4.same s5
   refine ⟨_,rfl,r,qs,rfl,hD5,by omega,λdu H6 v' ps' s6 dn hF' hl' hx'=>?_⟩
   obtain ⟨ev,eq⟩:=hF.same hF' λx=>(hx x).trans (hx' x).symm
   subst ev eq
   have hD6:=hD5.same s6
   refine ⟨_,rfl,_,rfl,_,rfl,r,_,rfl,hD6.1,λsw hsw=>?_⟩
   rw [show -(1:Int)=-1 from rfl,cut_but,List.length_map,<-List.map_take]
   have s7:Same H6 (upd H6 sw (.lst ((qs.take (qs.length - 1)).map λq=>V.ref q.1))):=Same.new hsw
   have hDw:DeedsAt K (upd H6 sw (.lst ((qs.take (qs.length - 1)).map λq=>V.ref q.1))) sw (qs.take (qs.length - 1)):=⟨SqL.of upd_same,λq hq=>(hD6.same s7).2 q (List.mem_of_mem_take hq)⟩
   refine ⟨sw,qs.take (qs.length - 1),rfl,hDw,by rw [List.length_take];omega,λwa H7 u' es' s67 wn hFw hlw hxw=>?_⟩
   obtain ⟨ev,eq⟩:=hFe.same hFw λx=>(hxe x).trans (hxw x).symm
   subst ev eq
   generalize upd H6 sw (.lst ((qs.take (qs.length - 1)).map λq=>V.ref q.1))=Hs at s7 hDw s67 wn
   have s57:Same H5 H7:=s6.trans (s7.trans s67)
   have hT:ToldH H7 du v ps:=by
    obtain ⟨ca,ho,_,_,_,_,gt,gca,gho⟩:=dn
    exact ToldH.same ⟨ca,ho,gt,gca,gho⟩ (s7.trans s67)
   have hW:ToldH H7 wa u es:=by
    obtain ⟨ca,ho,_,_,_,_,gt,gca,gho⟩:=wn
    exact ⟨ca,ho,gt,gca,gho⟩
   have hL7:=hL.same s57
   have hE7:=hLe.same s57
   have s17:Same H1 H7:=s14.trans (s5.trans s57)
   have hpl:ps.length<=56:=by omega
   have hel:es.length<=56:=by omega
   clear hDw wn dn hD6 hD5 hL hLe s57 s67 s7 s6 s5 s14 hD4 ln s4 s3
   refine ⟨_,rfl,_,rfl,a,ns,1,rfl,(s1.trans s17).seq hS,hlen,du,_,v,ps,rfl,hT,by omega,λx H8 s78=>?_⟩
   refine ⟨_,rfl,_,rfl,a,ns,2,rfl,((s1.trans s17).trans s78).seq hS,hlen,du,_,v,ps,rfl,hT.same s78,by omega,λy H9 s89=>?_⟩
   have s79:=s78.trans s89
   have s19:=s17.trans s79
   obtain ⟨z,hz4,ez⟩:=in_list (ts:=[V.non,.str t1,.str t2,.str t3]) (i:=ns.getD 3 0 % 4) (Int.emod_nonneg _ (by decide:(4:Int)≠0)) (Int.emod_lt_of_pos _ (by decide:(0:Int)<4))
   have hzv:HV z:=(hNm Same.refl).2.2 z hz4
   refine ⟨_,rfl,_,rfl,a,ns,3,rfl,(s1.trans s19).seq hS,hlen,_,_,rfl,rfl,(by show (0:Int)<4;decide),l,_,_,z,rfl,rfl,(hNm s19).1,ez,?_⟩
   refine ⟨_,rfl,a,ns,4,rfl,(s1.trans s19).seq hS,hlen,_,_,rfl,rfl,(by show (0:Int)<12;decide),_,_,rfl,rfl,?_⟩
   have hn:1<=1+ns.getD 4 0 % 12:=by have:=Int.emod_nonneg (ns.getD 4 0) (by decide:(12:Int)≠0);omega
   have hT9:=hT.same s79
   refine ⟨_,rfl,_,rfl,p,x,v,ps,rfl,hL7.same s79,hF.st.rise,hF.hh,by omega,_,rfl,_,rfl,du,x,v,ps,rfl,hT9.at,by omega,_,_,rfl,hF.hh.at,hF.hh.at,_,rfl,iteN (by simp) ?_⟩
   refine ⟨_,rfl,_,rfl,_,rfl,_,rfl,_,rfl,_,rfl,p,du,x,y,_,z,v,v,ps,ps,rfl,hL7.same s79,hF,hT9,hF.hh,rfl,hzv,hn,by omega,by omega,λH10 sA=>⟨true,rfl,iteN (by decide) ?_⟩⟩
   have s7A:=s79.trans sA
   refine ⟨_,rfl,_,rfl,_,rfl,p,e,x,v,u,ps,es,rfl,hL7.same s7A,hE7.same s7A,hF.toK,hFe.toK,by omega,by omega,λr1 H11 sB hA1=>?_⟩
   have s7B:=s7A.trans sB
   refine ⟨_,rfl,_,rfl,_,rfl,du,wa,x,v,u,ps,es,rfl,hT.same s7B,hW.same s7B,hF.hh,hFe.hh,by omega,by omega,λr2 H12 sC hA2=>?_⟩
   have s7C:=s7B.trans sC
   obtain rfl:r1=r2:=hA1.unique hA2
   refine ⟨_,_,rfl,both_opt r1,true,rfl,iteN (by decide) ?_⟩
   refine ⟨_,rfl,_,rfl,p,e,g,v,u,ps,es,likeI,rfl,hL7.same s7C,hE7.same s7C,hF.toK,hFe.toK,by omega,by omega,⟨gd,_,g2,g3,g4⟩,λa b _ _=>HV.int _,λb H13 v' ps' sD lnb hFb hlb hxb=>?_⟩
   have s7D:=s7C.trans sD
   refine ⟨_,rfl,_,rfl,_,rfl,du,wa,v,u,ps,es,rfl,hT.same s7D,hW.same s7D,hF.hh,hFe.hh,by omega,by omega,λt H14 τ sE hTt hτ hτl hxt=>?_⟩
   refine ⟨_,rfl,_,rfl,_,rfl,a,ns,5,rfl,(s1.trans (s17.trans (s7D.trans sE))).seq hS,hlen,_,_,rfl,rfl,(by show (0:Int)<2;decide),_,rfl,b,t,x,y,_,_,v',likeI v u,ps',_,rfl,lnb.at.same sE,hFb,hTt,@Holds.mk kI _ _ (HV.int _) (λq hq=>?_),funext λx=>(hxb x).trans (hxt x).symm,HV.int _,hn,by omega,by rw [List.length_map];omega,λH' _=>k _⟩
   obtain ⟨c,_,rfl⟩:=List.mem_map.mp hq
   exact HV.int _
end
end Cut
namespace Cut
open PySem L2 PyProof.Rows
open KindN
noncomputable def fX (x y:Str) (st:Stmt) (m:Value) (c:Nat):FuncData:=PySem.W.fnOf x y (defArgs st) (defBody st) (defScope st) .none .none .none m none (.ref c) .none
noncomputable def fO (x y:Str) (st:Stmt) (m:Value) (c:Nat):Obj:=⟨.type "function",none,.func (fX x y st m c),#[]⟩
section
variable {l:PySem.W.OpenLaw}{w:World}{h:Heap}{mg:Str->Option Value}
theorem fO_mk {K:PySem.W.Frag}{x y:Str}{st:Stmt}{m:Value}{c f:Nat} (l:K.lookup f=some (fO x y st m c)) (i:PySem.W.codeIn K (.ref c) y=true) (k:PySem.W.keepIn K (.ref f)=true):Fun K x y st f (fX x y st m c):=fun_mk l i k
theorem dmk {P:Program}{K:PySem.W.Frag}{base:Heap}{x:Str}{st:Stmt}{m:Value}{c f k:Nat}{ps:List Str}{sp:Sp} (X:K.In h) (G:h.Ns mainGlobals mg) (F:Fun K x x st f (fX x x st m c)) (a:PySem.W.nsIn K mainGlobals x=some (some (.ref f)))
  (hb:∀ (kV doc pm:Value) (an:Option Addr) (cdv ct:Value) (us:List Value),us.length=ps.length->bindArgs (PySem.W.fnOf x x (defArgs st) (defBody st) (defScope st) .none kV doc pm an cdv ct) ⟨us,[]⟩=pure (ps.zip us)) (ok:FnOk P w K mg base CX0 k f (fX x x st m c) ps sp):Def P w K mg base x ps k sp:=⟨⟨f,_,PySem.W.mg_of X G a,F.kp,F.binds hb,ok⟩⟩
theorem len0 {p:List Value->Prop} (h:p []) (us:List Value) (e:us.length=0):p us:=by rw [List.eq_nil_of_length_eq_zero e];exact h
theorem len1 {p:List Value->Prop} (h:∀ a0,p [a0]) (us:List Value) (e:us.length=1):p us:=by obtain ⟨a0,r,rfl⟩:=List.exists_cons_of_length_eq_add_one e;exact len0 (p:=λus=>p (a0::us)) (h a0) r (by simpa using e)
theorem len2 {p:List Value->Prop} (h:∀ a0 a1,p [a0,a1]) (us:List Value) (e:us.length=2):p us:=by obtain ⟨a0,r,rfl⟩:=List.exists_cons_of_length_eq_add_one e;exact len1 (p:=λus=>p (a0::us)) (h a0) r (by simpa using e)
theorem len3 {p:List Value->Prop} (h:∀ a0 a1 a2,p [a0,a1,a2]) (us:List Value) (e:us.length=3):p us:=by obtain ⟨a0,r,rfl⟩:=List.exists_cons_of_length_eq_add_one e;exact len2 (p:=λus=>p (a0::us)) (h a0) r (by simpa using e)
theorem len4 {p:List Value->Prop} (h:∀ a0 a1 a2 a3,p [a0,a1,a2,a3]) (us:List Value) (e:us.length=4):p us:=by obtain ⟨a0,r,rfl⟩:=List.exists_cons_of_length_eq_add_one e;exact len3 (p:=λus=>p (a0::us)) (h a0) r (by simpa using e)
theorem len5 {p:List Value->Prop} (h:∀ a0 a1 a2 a3 a4,p [a0,a1,a2,a3,a4]) (us:List Value) (e:us.length=5):p us:=by obtain ⟨a0,r,rfl⟩:=List.exists_cons_of_length_eq_add_one e;exact len4 (p:=λus=>p (a0::us)) (h a0) r (by simpa using e)
theorem len6 {p:List Value->Prop} (h:∀ a0 a1 a2 a3 a4 a5,p [a0,a1,a2,a3,a4,a5]) (us:List Value) (e:us.length=6):p us:=by obtain ⟨a0,r,rfl⟩:=List.exists_cons_of_length_eq_add_one e;exact len5 (p:=λus=>p (a0::us)) (h a0) r (by simpa using e)
theorem F65:Fun (Kx w.params) "__init__" "Line.__init__" s_Line_init 65 (fX "__init__" "Line.__init__" s_Line_init m0 64):=fO_mk (by kernel_rfl) (by kernel_rfl) (by kernel_rfl)
theorem F77:Fun (Kx w.params) "own_copy" "own_copy" s_own_copy 77 (fX "own_copy" "own_copy" s_own_copy m0 76):=fO_mk (by kernel_rfl) (by kernel_rfl) (by kernel_rfl)
theorem F84:Fun (Kx w.params) "line_of" "line_of" s_line_of 84 (fX "line_of" "line_of" s_line_of m0 83):=fO_mk (by kernel_rfl) (by kernel_rfl) (by kernel_rfl)
theorem F91:Fun (Kx w.params) "empty_line" "empty_line" s_empty_line 91 (fX "empty_line" "empty_line" s_empty_line m0 90):=fO_mk (by kernel_rfl) (by kernel_rfl) (by kernel_rfl)
theorem F98:Fun (Kx w.params) "cuts_up_to" "cuts_up_to" s_cuts_up_to 98 (fX "cuts_up_to" "cuts_up_to" s_cuts_up_to m0 97):=fO_mk (by kernel_rfl) (by kernel_rfl) (by kernel_rfl)
theorem F105:Fun (Kx w.params) "value_at" "value_at" s_value_at 105 (fX "value_at" "value_at" s_value_at m0 104):=fO_mk (by kernel_rfl) (by kernel_rfl) (by kernel_rfl)
theorem F112:Fun (Kx w.params) "cuts_of_all" "cuts_of_all" s_cuts_of_all 112 (fX "cuts_of_all" "cuts_of_all" s_cuts_of_all m1 111):=fO_mk (by kernel_rfl) (by kernel_rfl) (by kernel_rfl)
theorem F119:Fun (Kx w.params) "holds_between" "holds_between" s_holds_between 119 (fX "holds_between" "holds_between" s_holds_between m1 118):=fO_mk (by kernel_rfl) (by kernel_rfl) (by kernel_rfl)
theorem F126:Fun (Kx w.params) "joined" "joined" s_joined 126 (fX "joined" "joined" s_joined m1 125):=fO_mk (by kernel_rfl) (by kernel_rfl) (by kernel_rfl)
theorem F131:Fun (Kx w.params) "runs" "runs" s_runs 131 (fX "runs" "runs" s_runs m2 130):=fO_mk (by kernel_rfl) (by kernel_rfl) (by kernel_rfl)
theorem F136:Fun (Kx w.params) "tally" "tally" s_tally 136 (fX "tally" "tally" s_tally m2 135):=fO_mk (by kernel_rfl) (by kernel_rfl) (by kernel_rfl)
theorem F143:Fun (Kx w.params) "longest" "longest" s_longest 143 (fX "longest" "longest" s_longest m2 142):=fO_mk (by kernel_rfl) (by kernel_rfl) (by kernel_rfl)
theorem F150:Fun (Kx w.params) "first_room" "first_room" s_first_room 150 (fX "first_room" "first_room" s_first_room m2 149):=fO_mk (by kernel_rfl) (by kernel_rfl) (by kernel_rfl)
theorem F157:Fun (Kx w.params) "unlike" "unlike" s_unlike 157 (fX "unlike" "unlike" s_unlike m2 156):=fO_mk (by kernel_rfl) (by kernel_rfl) (by kernel_rfl)
theorem F164:Fun (Kx w.params) "parted" "parted" s_parted 164 (fX "parted" "parted" s_parted m2 163):=fO_mk (by kernel_rfl) (by kernel_rfl) (by kernel_rfl)
theorem F171:Fun (Kx w.params) "check_size" "check_size" s_check_size 171 (fX "check_size" "check_size" s_check_size m3 170):=fO_mk (by kernel_rfl) (by kernel_rfl) (by kernel_rfl)
theorem F178:Fun (Kx w.params) "check_times" "check_times" s_check_times 178 (fX "check_times" "check_times" s_check_times m3 177):=fO_mk (by kernel_rfl) (by kernel_rfl) (by kernel_rfl)
theorem F185:Fun (Kx w.params) "has_no_places" "has_no_places" s_has_no_places 185 (fX "has_no_places" "has_no_places" s_has_no_places m3 184):=fO_mk (by kernel_rfl) (by kernel_rfl) (by kernel_rfl)
theorem F192:Fun (Kx w.params) "put" "put" s_put 192 (fX "put" "put" s_put m3 191):=fO_mk (by kernel_rfl) (by kernel_rfl) (by kernel_rfl)
theorem F197:Fun (Kx w.params) "opened" "opened" s_opened 197 (fX "opened" "opened" s_opened m3 196):=fO_mk (by kernel_rfl) (by kernel_rfl) (by kernel_rfl)
theorem F202:Fun (Kx w.params) "closed" "closed" s_closed 202 (fX "closed" "closed" s_closed m3 201):=fO_mk (by kernel_rfl) (by kernel_rfl) (by kernel_rfl)
theorem F207:Fun (Kx w.params) "stretched" "stretched" s_stretched 207 (fX "stretched" "stretched" s_stretched m3 206):=fO_mk (by kernel_rfl) (by kernel_rfl) (by kernel_rfl)
theorem F214:Fun (Kx w.params) "done" "done" s_done 214 (fX "done" "done" s_done m3 213):=fO_mk (by kernel_rfl) (by kernel_rfl) (by kernel_rfl)
theorem F221:Fun (Kx w.params) "_law_cell_at" "_law_cell_at" s_law_cell_at 221 (fX "_law_cell_at" "_law_cell_at" s_law_cell_at m4 220):=fO_mk (by kernel_rfl) (by kernel_rfl) (by kernel_rfl)
theorem F226:Fun (Kx w.params) "_law_names" "_law_names" s_law_names 226 (fX "_law_names" "_law_names" s_law_names m4 225):=fO_mk (by kernel_rfl) (by kernel_rfl) (by kernel_rfl)
theorem F233:Fun (Kx w.params) "_law_deed" "_law_deed" s_law_deed 233 (fX "_law_deed" "_law_deed" s_law_deed m4 232):=fO_mk (by kernel_rfl) (by kernel_rfl) (by kernel_rfl)
theorem F238:Fun (Kx w.params) "_law_deeds" "_law_deeds" s_law_deeds 238 (fX "_law_deeds" "_law_deeds" s_law_deeds m4 237):=fO_mk (by kernel_rfl) (by kernel_rfl) (by kernel_rfl)
theorem F245:Fun (Kx w.params) "_law_value" "_law_value" s_law_value 245 (fX "_law_value" "_law_value" s_law_value m4 244):=fO_mk (by kernel_rfl) (by kernel_rfl) (by kernel_rfl)
theorem F250:Fun (Kx w.params) "_law_edges_behind" "_law_edges_behind" s_law_edges_behind 250 (fX "_law_edges_behind" "_law_edges_behind" s_law_edges_behind m4 249):=fO_mk (by kernel_rfl) (by kernel_rfl) (by kernel_rfl)
theorem F257:Fun (Kx w.params) "_law_edges" "_law_edges" s_law_edges 257 (fX "_law_edges" "_law_edges" s_law_edges m4 256):=fO_mk (by kernel_rfl) (by kernel_rfl) (by kernel_rfl)
theorem F264:Fun (Kx w.params) "_law_due" "_law_due" s_law_due 264 (fX "_law_due" "_law_due" s_law_due m4 263):=fO_mk (by kernel_rfl) (by kernel_rfl) (by kernel_rfl)
theorem F271:Fun (Kx w.params) "_law_whole" "_law_whole" s_law_whole 271 (fX "_law_whole" "_law_whole" s_law_whole m4 270):=fO_mk (by kernel_rfl) (by kernel_rfl) (by kernel_rfl)
theorem F278:Fun (Kx w.params) "_law_held" "_law_held" s_law_held 278 (fX "_law_held" "_law_held" s_law_held m4 277):=fO_mk (by kernel_rfl) (by kernel_rfl) (by kernel_rfl)
theorem F285:Fun (Kx w.params) "_law_at" "_law_at" s_law_at 285 (fX "_law_at" "_law_at" s_law_at m4 284):=fO_mk (by kernel_rfl) (by kernel_rfl) (by kernel_rfl)
theorem F290:Fun (Kx w.params) "_law_runs" "_law_runs" s_law_runs 290 (fX "_law_runs" "_law_runs" s_law_runs m4 289):=fO_mk (by kernel_rfl) (by kernel_rfl) (by kernel_rfl)
theorem F297:Fun (Kx w.params) "_law_longest" "_law_longest" s_law_longest 297 (fX "_law_longest" "_law_longest" s_law_longest m4 296):=fO_mk (by kernel_rfl) (by kernel_rfl) (by kernel_rfl)
theorem F302:Fun (Kx w.params) "_law_room" "_law_room" s_law_room 302 (fX "_law_room" "_law_room" s_law_room m4 301):=fO_mk (by kernel_rfl) (by kernel_rfl) (by kernel_rfl)
theorem F307:Fun (Kx w.params) "_law_apart" "_law_apart" s_law_apart 307 (fX "_law_apart" "_law_apart" s_law_apart m4 306):=fO_mk (by kernel_rfl) (by kernel_rfl) (by kernel_rfl)
theorem F314:Fun (Kx w.params) "_law_place" "_law_place" s_law_place 314 (fX "_law_place" "_law_place" s_law_place m4 313):=fO_mk (by kernel_rfl) (by kernel_rfl) (by kernel_rfl)
theorem F321:Fun (Kx w.params) "_law_told" "_law_told" s_law_told 321 (fX "_law_told" "_law_told" s_law_told m4 320):=fO_mk (by kernel_rfl) (by kernel_rfl) (by kernel_rfl)
theorem F328:Fun (Kx w.params) "_law_parts" "_law_parts" s_law_parts 328 (fX "_law_parts" "_law_parts" s_law_parts m4 327):=fO_mk (by kernel_rfl) (by kernel_rfl) (by kernel_rfl)
theorem F333:Fun (Kx w.params) "_law_asked" "_law_asked" s_law_asked 333 (fX "_law_asked" "_law_asked" s_law_asked m4 332):=fO_mk (by kernel_rfl) (by kernel_rfl) (by kernel_rfl)
theorem F340:Fun (Kx w.params) "_law_alike_by" "_law_alike_by" s_law_alike_by 340 (fX "_law_alike_by" "_law_alike_by" s_law_alike_by m4 339):=fO_mk (by kernel_rfl) (by kernel_rfl) (by kernel_rfl)
theorem F347:Fun (Kx w.params) "_law_both" "_law_both" s_law_both 347 (fX "_law_both" "_law_both" s_law_both m4 346):=fO_mk (by kernel_rfl) (by kernel_rfl) (by kernel_rfl)
theorem F354:Fun (Kx w.params) "law" "law" s_law 354 (fX "law" "law" s_law m4 353):=fO_mk (by kernel_rfl) (by kernel_rfl) (by kernel_rfl)
theorem txt (X:(Kx w.params).In h) (G:h.Ns mainGlobals mg):Txt (Kx w.params) mg 68:=⟨⟨by kernel_rfl,by kernel_rfl,by kernel_rfl,by kernel_rfl⟩,by unfold NoAttr;kernel_rfl,by unfold NoAttr;kernel_rfl,PySem.W.mg_of X G (by kernel_rfl),PySem.W.mg_none_of X G (by kernel_rfl),PySem.W.mg_none_of X G (by kernel_rfl),PySem.W.mg_none_of X G (by kernel_rfl),PySem.W.mg_none_of X G (by kernel_rfl),PySem.W.mg_none_of X G (by kernel_rfl),PySem.W.mg_none_of X G (by kernel_rfl),PySem.W.mg_none_of X G (by kernel_rfl),PySem.W.mg_none_of X G (by kernel_rfl),PySem.W.mg_none_of X G (by kernel_rfl),PySem.W.mg_none_of X G (by kernel_rfl),PySem.W.mg_none_of X G (by kernel_rfl),PySem.W.mg_none_of X G (by kernel_rfl),PySem.W.mg_none_of X G (by kernel_rfl),PySem.W.mg_none_of X G (by kernel_rfl),PySem.W.mg_none_of X G (by kernel_rfl),by kernel_rfl,by kernel_rfl,by kernel_rfl,by kernel_rfl⟩
theorem all_mk {fa:Addr} (X:(Kx w.params).In h) (G:h.Ns mainGlobals mg) (hfa:mg "law"=some (.ref fa)) :
  ∃ fd:FuncData,(∀ (s:Shared) (v:Value),BindsTo s fd ⟨[v],[]⟩ [("script",v)])/\∀ base:Heap,(Kx w.params).In base->base.Ns mainGlobals mg->FnOk l.prog w (Kx w.params) mg base CX0 6 fa fd ["script"] (spLaw (Kx w.params)):=by
 have e:=hfa.symm.trans (PySem.W.mg_of (v:=.ref 354) X G (by kernel_rfl))
 cases e
 have T:=txt X G
 have e_zip:mg "zip"=none:=PySem.W.mg_none_of X G (by kernel_rfl)
 have e_sum:mg "sum"=none:=PySem.W.mg_none_of X G (by kernel_rfl)
 have M:Mk (Kx w.params) 68 65:=⟨by kernel_rfl,by kernel_rfl,by kernel_rfl,by kernel_rfl⟩
 have b0:=(F65 (w:=w)).binds (ps:=["self","cuts","holds"]) λ_ _ _ _ _ _=>len3 λ_ _ _=>rfl
 refine ⟨fX "law" "law" s_law m4 353,λs v=>.of_eq rfl,λbase _ _=>?_⟩
 have GI:FnOk l.prog w (Kx w.params) mg base CX0 1 65 _ ["self","cuts","holds"] (spInit 68):=ok_init F65 T
 have DO:Def l.prog w (Kx w.params) mg base "own_copy" ["thing"] 1 (spOwn):=dmk X G F77 (by kernel_rfl) (λ_ _ _ _ _ _=>len1 λ_=>rfl) (ok_own F77 T)
 have DOB:Def l.prog w (Kx w.params) mg base "own_copy" ["thing"] 1 (@spOwn kB):=dmk X G F77 (by kernel_rfl) (λ_ _ _ _ _ _=>len1 λ_=>rfl) ((letI:HoldKind:=kB;ok_own F77 T))
 have DOI:Def l.prog w (Kx w.params) mg base "own_copy" ["thing"] 1 (@spOwn kI):=dmk X G F77 (by kernel_rfl) (λ_ _ _ _ _ _=>len1 λ_=>rfl) ((letI:HoldKind:=kI;ok_own F77 T))
 have DL:Def l.prog w (Kx w.params) mg base "line_of" ["cuts","holds"] 3 (spLineOf (Kx w.params) 68):=dmk X G F84 (by kernel_rfl) (λ_ _ _ _ _ _=>len2 λ_ _=>rfl) (ok_line_of F84 T M GI b0 DO)
 have DLB:Def l.prog w (Kx w.params) mg base "line_of" ["cuts","holds"] 3 (@spLineOf kB (Kx w.params) 68):=dmk X G F84 (by kernel_rfl) (λ_ _ _ _ _ _=>len2 λ_ _=>rfl) ((letI:HoldKind:=kB;ok_line_of F84 T M GI b0 DOB))
 have DLI:Def l.prog w (Kx w.params) mg base "line_of" ["cuts","holds"] 3 (@spLineOf kI (Kx w.params) 68):=dmk X G F84 (by kernel_rfl) (λ_ _ _ _ _ _=>len2 λ_ _=>rfl) ((letI:HoldKind:=kI;ok_line_of F84 T M GI b0 DOI))
 have DEm:Def l.prog w (Kx w.params) mg base "empty_line" [] 4 (spEmpty 68):=dmk X G F91 (by kernel_rfl) (λ_ _ _ _ _ _=>len0 rfl) (ok_empty F91 DL)
 have DU:Def l.prog w (Kx w.params) mg base "cuts_up_to" ["line","place"] 1 (spUpTo 68):=dmk X G F98 (by kernel_rfl) (λ_ _ _ _ _ _=>len2 λ_ _=>rfl) (ok_upto F98 T)
 have DVa:Def l.prog w (Kx w.params) mg base "value_at" ["line","place"] 2 (spValueAt 68):=dmk X G F105 (by kernel_rfl) (λ_ _ _ _ _ _=>len2 λ_ _=>rfl) (ok_value_at F105 T DO DU)
 have DAl:Def l.prog w (Kx w.params) mg base "cuts_of_all" ["lines"] 1 (spAllCuts (Kx w.params) 68):=dmk X G F112 (by kernel_rfl) (λ_ _ _ _ _ _=>len1 λ_=>rfl) (ok_allcuts F112 T)
 have DBe:Def l.prog w (Kx w.params) mg base "holds_between" ["line","cuts"] 1 (spBetween (Kx w.params) 68):=dmk X G F119 (by kernel_rfl) (λ_ _ _ _ _ _=>len2 λ_ _=>rfl) (ok_between F119 T)
 have DJB:Def l.prog w (Kx w.params) mg base "joined" ["one","other","way"] 4 (@spJoined kB l.prog w (Kx w.params) mg base 68):=dmk X G F126 (by kernel_rfl) (λ_ _ _ _ _ _=>len3 λ_ _ _=>rfl) ((letI:HoldKind:=kB;ok_joined F126 e_zip DAl DBe DOB DLB))
 have DJI:Def l.prog w (Kx w.params) mg base "joined" ["one","other","way"] 4 (@spJoined kI l.prog w (Kx w.params) mg base 68):=dmk X G F126 (by kernel_rfl) (λ_ _ _ _ _ _=>len3 λ_ _ _=>rfl) ((letI:HoldKind:=kI;ok_joined F126 e_zip DAl DBe DOI DLI))
 have DR:Def l.prog w (Kx w.params) mg base "runs" ["line","start","end"] 2 (spRuns 68):=dmk X G F131 (by kernel_rfl) (λ_ _ _ _ _ _=>len3 λ_ _ _=>rfl) (ok_runs F131 T e_zip DO DU)
 have DRI:Def l.prog w (Kx w.params) mg base "runs" ["line","start","end"] 2 (@spRuns kI 68):=dmk X G F131 (by kernel_rfl) (λ_ _ _ _ _ _=>len3 λ_ _ _=>rfl) ((letI:HoldKind:=kI;ok_runs F131 T e_zip DOI DU))
 have DTa:Def l.prog w (Kx w.params) mg base "tally" ["line","value","start","end"] 3 (spTally 68):=dmk X G F136 (by kernel_rfl) (λ_ _ _ _ _ _=>len4 λ_ _ _ _=>rfl) (ok_tally F136 T e_sum DR)
 have DTaI:Def l.prog w (Kx w.params) mg base "tally" ["line","value","start","end"] 3 (@spTally kI 68):=dmk X G F136 (by kernel_rfl) (λ_ _ _ _ _ _=>len4 λ_ _ _ _=>rfl) ((letI:HoldKind:=kI;ok_tally F136 T e_sum DRI))
 have DLo:Def l.prog w (Kx w.params) mg base "longest" ["line","value","start","end"] 3 (spLongest 68):=dmk X G F143 (by kernel_rfl) (λ_ _ _ _ _ _=>len4 λ_ _ _ _=>rfl) (ok_longest F143 T DR)
 have DLoI:Def l.prog w (Kx w.params) mg base "longest" ["line","value","start","end"] 3 (@spLongest kI 68):=dmk X G F143 (by kernel_rfl) (λ_ _ _ _ _ _=>len4 λ_ _ _ _=>rfl) ((letI:HoldKind:=kI;ok_longest F143 T DRI))
 have DRo:Def l.prog w (Kx w.params) mg base "first_room" ["line","value","place","size"] 2 (spRoom (Kx w.params) 68):=dmk X G F150 (by kernel_rfl) (λ_ _ _ _ _ _=>len4 λ_ _ _ _=>rfl) (ok_room F150 T e_zip DU)
 have DRoB:Def l.prog w (Kx w.params) mg base "first_room" ["line","value","place","size"] 2 (@spRoom kB (Kx w.params) 68):=dmk X G F150 (by kernel_rfl) (λ_ _ _ _ _ _=>len4 λ_ _ _ _=>rfl) ((letI:HoldKind:=kB;ok_room F150 T e_zip DU))
 have DRoI:Def l.prog w (Kx w.params) mg base "first_room" ["line","value","place","size"] 2 (@spRoom kI (Kx w.params) 68):=dmk X G F150 (by kernel_rfl) (λ_ _ _ _ _ _=>len4 λ_ _ _ _=>rfl) ((letI:HoldKind:=kI;ok_room F150 T e_zip DU))
 have DUn:Def l.prog w (Kx w.params) mg base "unlike" ["here","there"] 1 (@spWay kB unW):=dmk X G F157 (by kernel_rfl) (λ_ _ _ _ _ _=>len2 λ_ _=>rfl) (ok_unlike F157 )
 have DPt:Def l.prog w (Kx w.params) mg base "parted" ["one","other","place"] 5 (spParted 68):=dmk X G F164 (by kernel_rfl) (λ_ _ _ _ _ _=>len3 λ_ _ _=>rfl) (ok_parted F164 DJB DRoB DUn)
 have DCS:Def l.prog w (Kx w.params) mg base "check_size" ["size"] 1 (spCheckS):=dmk X G F171 (by kernel_rfl) (λ_ _ _ _ _ _=>len1 λ_=>rfl) (ok_check_size F171 )
 have DCT:Def l.prog w (Kx w.params) mg base "check_times" ["times"] 1 (spCheckT):=dmk X G F178 (by kernel_rfl) (λ_ _ _ _ _ _=>len1 λ_=>rfl) (ok_check_times F178 )
 have DNP:Def l.prog w (Kx w.params) mg base "has_no_places" ["start","end"] 1 (spNoPl):=dmk X G F185 (by kernel_rfl) (λ_ _ _ _ _ _=>len2 λ_ _=>rfl) (ok_no_places F185 )
 have DPu:Def l.prog w (Kx w.params) mg base "put" ["line","start","end","value"] 4 (spPut 68):=dmk X G F192 (by kernel_rfl) (λ_ _ _ _ _ _=>len4 λ_ _ _ _=>rfl) (ok_put F192 T DNP DU DL)
 have DOp:Def l.prog w (Kx w.params) mg base "opened" ["line","place","size"] 4 (spOpened 68):=dmk X G F197 (by kernel_rfl) (λ_ _ _ _ _ _=>len3 λ_ _ _=>rfl) (ok_opened F197 T DCS DU DL)
 have DCl:Def l.prog w (Kx w.params) mg base "closed" ["line","place","size"] 4 (spClosed 68):=dmk X G F202 (by kernel_rfl) (λ_ _ _ _ _ _=>len3 λ_ _ _=>rfl) (ok_closed F202 T DCS DU DL)
 have DSt:Def l.prog w (Kx w.params) mg base "stretched" ["line","times"] 4 (spStretched 68):=dmk X G F207 (by kernel_rfl) (λ_ _ _ _ _ _=>len2 λ_ _=>rfl) (ok_stretched F207 T DCT DL)
 have DDo:Def l.prog w (Kx w.params) mg base "done" ["line","deed"] 5 (spDone (Kx w.params) 68):=dmk X G F214 (by kernel_rfl) (λ_ _ _ _ _ _=>len2 λ_ _=>rfl) (ok_done F214 DPu DOp DCl DSt)
 have DC:Def l.prog w (Kx w.params) mg base "_law_cell_at" ["script","k"] 1 (spCellAt (Kx w.params)):=dmk X G F221 (by kernel_rfl) (λ_ _ _ _ _ _=>len2 λ_ _=>rfl) (ok_cell_at F221 T)
 have DN:Def l.prog w (Kx w.params) mg base "_law_names" ["cell"] 1 (spNames):=dmk X G F226 (by kernel_rfl) (λ_ _ _ _ _ _=>len1 λ_=>rfl) (ok_names F226 T)
 have DD:Def l.prog w (Kx w.params) mg base "_law_deed" ["one","two","names"] 1 (spDeed (Kx w.params)):=dmk X G F233 (by kernel_rfl) (λ_ _ _ _ _ _=>len3 λ_ _ _=>rfl) (ok_deed F233 )
 have DDs:Def l.prog w (Kx w.params) mg base "_law_deeds" ["cells","names"] 2 (spDeeds (Kx w.params)):=dmk X G F238 (by kernel_rfl) (λ_ _ _ _ _ _=>len2 λ_ _=>rfl) (ok_deeds F238 T DD)
 have DV:Def l.prog w (Kx w.params) mg base "_law_value" ["deeds","place"] 1 (spValue (Kx w.params)):=dmk X G F245 (by kernel_rfl) (λ_ _ _ _ _ _=>len2 λ_ _=>rfl) (ok_value F245 T)
 have DE:Def l.prog w (Kx w.params) mg base "_law_edges_behind" ["edges","deed"] 1 (spEdges (Kx w.params)):=dmk X G F250 (by kernel_rfl) (λ_ _ _ _ _ _=>len2 λ_ _=>rfl) (ok_edges F250 T)
 have DEa:Def l.prog w (Kx w.params) mg base "_law_edges" ["deeds"] 2 (spEdgesAll (Kx w.params)):=dmk X G F257 (by kernel_rfl) (λ_ _ _ _ _ _=>len1 λ_=>rfl) (ok_alledges F257 T DE)
 have DDu:Def l.prog w (Kx w.params) mg base "_law_due" ["deeds"] 3 (spDue (Kx w.params)):=dmk X G F264 (by kernel_rfl) (λ_ _ _ _ _ _=>len1 λ_=>rfl) (ok_due F264 T DEa DV)
 have DW:Def l.prog w (Kx w.params) mg base "_law_whole" ["found"] 1 (spWhole):=dmk X G F271 (by kernel_rfl) (λ_ _ _ _ _ _=>len1 λ_=>rfl) (ok_whole F271 T)
 have DH:Def l.prog w (Kx w.params) mg base "_law_held" ["found","due"] 1 (spHeldN):=dmk X G F278 (by kernel_rfl) (λ_ _ _ _ _ _=>len2 λ_ _=>rfl) (ok_heldN F278 T)
 have DA:Def l.prog w (Kx w.params) mg base "_law_at" ["told","place"] 1 (spAt (Kx w.params)):=dmk X G F285 (by kernel_rfl) (λ_ _ _ _ _ _=>len2 λ_ _=>rfl) (ok_at F285 T)
 have DLR:Def l.prog w (Kx w.params) mg base "_law_runs" ["told","start","end"] 2 (spLRuns):=dmk X G F290 (by kernel_rfl) (λ_ _ _ _ _ _=>len3 λ_ _ _=>rfl) (ok_lruns F290 T DA)
 have DLRI:Def l.prog w (Kx w.params) mg base "_law_runs" ["told","start","end"] 2 (@spLRuns kI):=dmk X G F290 (by kernel_rfl) (λ_ _ _ _ _ _=>len3 λ_ _ _=>rfl) ((letI:HoldKind:=kI;ok_lruns F290 T DA))
 have DLL:Def l.prog w (Kx w.params) mg base "_law_longest" ["due","value"] 1 (spLLong):=dmk X G F297 (by kernel_rfl) (λ_ _ _ _ _ _=>len2 λ_ _=>rfl) (ok_llong F297 T)
 have DLLI:Def l.prog w (Kx w.params) mg base "_law_longest" ["due","value"] 1 (@spLLong kI):=dmk X G F297 (by kernel_rfl) (λ_ _ _ _ _ _=>len2 λ_ _=>rfl) ((letI:HoldKind:=kI;ok_llong F297 T))
 have DLr:Def l.prog w (Kx w.params) mg base "_law_room" ["told","value","place","size"] 2 (spLawRoom):=dmk X G F302 (by kernel_rfl) (λ_ _ _ _ _ _=>len4 λ_ _ _ _=>rfl) (ok_lawroom F302 T DA)
 have DLrI:Def l.prog w (Kx w.params) mg base "_law_room" ["told","value","place","size"] 2 (@spLawRoom kI):=dmk X G F302 (by kernel_rfl) (λ_ _ _ _ _ _=>len4 λ_ _ _ _=>rfl) ((letI:HoldKind:=kI;ok_lawroom F302 T DA))
 have DAp:Def l.prog w (Kx w.params) mg base "_law_apart" ["told","other","place"] 2 (spApart):=dmk X G F307 (by kernel_rfl) (λ_ _ _ _ _ _=>len3 λ_ _ _=>rfl) (ok_apart F307 T DA)
 have DPl:Def l.prog w (Kx w.params) mg base "_law_place" ["due","cell"] 1 (spPlaceT):=dmk X G F314 (by kernel_rfl) (λ_ _ _ _ _ _=>len2 λ_ _=>rfl) (ok_placeT F314 T)
 have DT:Def l.prog w (Kx w.params) mg base "_law_told" ["found","due"] 2 (spToldS):=dmk X G F321 (by kernel_rfl) (λ_ _ _ _ _ _=>len2 λ_ _=>rfl) (ok_toldS F321 T DW)
 have DPa:Def l.prog w (Kx w.params) mg base "_law_parts" ["found","due"] 1 (spParts):=dmk X G F328 (by kernel_rfl) (λ_ _ _ _ _ _=>len2 λ_ _=>rfl) (ok_parts F328 T)
 have DAs:Def l.prog w (Kx w.params) mg base "_law_asked" ["line","due","start","end","value","size"] 4 (spAsked 68):=dmk X G F333 (by kernel_rfl) (λ_ _ _ _ _ _=>len6 λ_ _ _ _ _ _=>rfl) (ok_asked (λ_ h=>okK.ofN h) F333 T e_sum DLR DPa DR DT DTa DLo DLL DRo DLr)
 have DAsI:Def l.prog w (Kx w.params) mg base "_law_asked" ["line","due","start","end","value","size"] 4 (@spAsked kI 68):=dmk X G F333 (by kernel_rfl) (λ_ _ _ _ _ _=>len6 λ_ _ _ _ _ _=>rfl) ((letI:HoldKind:=kI;ok_asked (λ_ h=>h) F333 T e_sum DLRI DPa DRI DT DTaI DLoI DLLI DRoI DLrI))
 have DLk:Def l.prog w (Kx w.params) mg base "_law_alike_by" ["one","other"] 1 (spLikeI):=dmk X G F340 (by kernel_rfl) (λ_ _ _ _ _ _=>len2 λ_ _=>rfl) (ok_alikeby F340 T)
 have DB:Def l.prog w (Kx w.params) mg base "_law_both" ["one","other"] 2 (spBoth):=dmk X G F347 (by kernel_rfl) (λ_ _ _ _ _ _=>len2 λ_ _=>rfl) (ok_both F347 T DA)
 exact ok_law F354 T DC DN DDs DEm DDo DDu DPl DH DVa DA DAs DAsI DT DPt DAp DJI DLk DB
end
theorem walk {l:PySem.W.OpenLaw}{q:Program}{loose:List Str}{XP:(Str->Option Value)->Heap->Prop}{YP:World->Heap->Prop}{d:DefRec} (hn:l.most=some 63) (hdf:d.params.defaults=[]) (hx:d.name="law")
  (hY:∀ (w:World) (h:Heap),YP w h->(Kx w.params).In h) :
  PySem.W.WalkO q loose XP YP l.row.toRowW d [] (λf vs=>PySem.call f vs):=
 L2.walk_of (n:=63) (k:=6) (x:="script") (CX:=λ_=>CX0) (sp:=λw=>spLaw (Kx w.params)) hn (by decide) hdf ⟨rfl,by decide,by decide⟩ hY (λ_ _ _ _ X G e=>all_mk X G (hx ▸ e)) (λ_ _ a ns hl _ hS=>⟨a,ns,rfl,hS,hl,λ_=>rfl⟩) λ_ _ _ _ _ z=>z
end Cut
theorem PySem.Challenge.cw_cutline_k15_whole_asked_behind_deeds_holds : PySem.Challenge.rw_cutline_k15_whole_asked_behind_deeds.Holds :=
 Cut.topH λa b c=>Cut.walk (l:=PySem.Challenge.rw_cutline_k15_whole_asked_behind_deeds) rfl a b c
