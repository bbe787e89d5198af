import PyProof.Rows.All
import KE.KDictOf
import KE.KFromBytes
import KE.KIntText
import KE.KIsAll
import KE.KItem
import KE.KRevIter
import KE.LcSums
import Lean
import PySem.Challenge.RW_stretchdeeds_k33_done_and_turned
set_option Elab.async false
set_option linter.all false
set_option maxRecDepth 100000
abbrev zD:=PySem.W.Frag
abbrev zS:=@List.length_map
abbrev zzA:=@List.mem_cons
abbrev zzB:=@List.mem_cons_of_mem
abbrev zzC:=@List.getElem?_eq_getElem
abbrev zzD:=@List.mem_cons_self
abbrev zzE:=@List.getElem?_eq_some_iff
abbrev zzF:=@List.size_toArray
abbrev zzG:=@List.getElem?_map
abbrev zzH:=@List.length_append
abbrev zzI:=@Nat.lt_of_lt_of_le
abbrev zzJ:=@List.mem_append_right
abbrev zzK:=@List.mem_append
abbrev zzL:=@Nat.le_refl
abbrev zzM:=@Nat.le_trans
abbrev zzN:=@List.mem_append_left
abbrev zzO:=@Nat.ne_of_lt
abbrev zzP:=@List.mem_singleton
abbrev zzQ:=@List.length_take
abbrev zzR:=@List.length_cons
abbrev zzS:=@List.length_set
abbrev zzT:=@Int.natCast_mul
abbrev zzU:=@List.nodup_cons
abbrev zzV:=@Option.map_eq_some_iff
abbrev zzW:=@List.getElem?_set_ne
abbrev zzX:=@Option.some.inj
abbrev zzY:=@List.mem_of_getElem?
abbrev zzZ:=@List.map_map
abbrev QzA:=@Bool.and_eq_true
abbrev QzB:=@Bool.or_true
abbrev QzC:=@List.append_nil
abbrev QzD:=@List.getD_eq_getElem?_getD
abbrev QzE:=@decide_eq_false
abbrev QzF:=@Int.emod_lt_of_pos
abbrev QzG:=@Int.toNat_natCast
abbrev QzH:=@List.nodup_nil
abbrev QzI:=@List.getElem?_set_self
abbrev QzJ:=@Option.bind_some
abbrev QzK:=@List.map_append
abbrev QzL:=@Int.emod_nonneg
abbrev QzM:=@decide_eq_true
abbrev QzN:=@List.getElem?_append_left
abbrev QzO:=@List.drop_eq_getElem_cons
abbrev QzP:=@List.getElem?_append_right
abbrev QzQ:=@List.map_cons
abbrev QzR:=@Array.length_toList
abbrev QzS:=@List.length_range
abbrev QzT:=@Bool.false_ne_true
abbrev QzU:=@Nat.le_succ
abbrev QzV:=@Nat.zero_add
abbrev QzW:=@Int.toNat_of_nonneg
abbrev QzX:=@List.getElem_mem
abbrev QzY:=@Nat.lt_succ_of_lt
abbrev QzZ:=@List.not_mem_nil
abbrev QyA:=@List.append_assoc
abbrev QyB:=@List.mem_map
abbrev QyC:=@List.nodup_append
abbrev QyD:=@PySem.wpAny_bind
abbrev QyE:=@PySem.wpAny_pure
abbrev QyF:=@PySem.Heap.get?_push_of_some
abbrev QyG:=@PySem.Heap.lt_size
abbrev QyH:=@PySem.Heap.get?_push_size
abbrev QyI:=@PySem.wpAny_newObj_type
abbrev QyJ:=@PySem.Around.under_plainId
abbrev QyK:=@PySem.wpAny_holding
abbrev QyL:=@PySem.codeAny_builtin
abbrev QyM:=@PySem.Heap.size_push
abbrev QyN:=@PySem.wpAny_mono
abbrev QyO:=@PySem.wpAny_call_entry
section
namespace L2
open PySem PySem.Spec PyProof.Rows
def inClass(s:Stmt)(j:Nat):Stmt:=match s with
 | .ClassDef _ _ _ body _ _ _ _ _ _ _=>body.getD j (.Pass ⟨0,0,0,0⟩)
 |_=>.Pass ⟨0,0,0,0⟩
def zgv(s:Stmt):Arguments:=match s with
 | .FunctionDef _ a _ _ _ _ _ _ _ _=>a
 |_=>{posonlyargs:=[],args:=[],vararg:=none,kwonlyargs:=[],kw_defaults:=[],kwarg:=none,defaults:=[]}
def W4(s:Stmt):List Stmt:=match s with
 | .FunctionDef _ _ b _ _ _ _ _ _ _=>b
 |_=>[]
def zr(s:Stmt):Scope:=match s with
 | .FunctionDef _ _ _ _ _ _ sc _ _ _=>sc
 |_=>{kind:=.function,names:=[],isGenerator:=false,isCoroutine:=false}
end L2
end
section
namespace G33
open PySem PySem.W PyProof.Rows L2
def top(i:Nat):Stmt:=PySem.Challenge.pw_stretchdeeds_k33_done_and_turned.main.body.getD i (.Pass ⟨0,0,0,0⟩)
abbrev Z7:Stmt:=inClass (top 2) 0
abbrev zcr:Stmt:=top 3
abbrev WN:Stmt:=inClass (top 32) 5
abbrev zcg:Stmt:=top 4
abbrev zci:Stmt:=top 5
abbrev zcl:Stmt:=top 6
abbrev Ys:Stmt:=inClass (top 32) 4
abbrev zaj:Stmt:=top 7
abbrev ZR:Stmt:=inClass (top 32) 9
abbrev XQ:Stmt:=top 8
abbrev WM:Stmt:=inClass (top 32) 10
abbrev zau:Stmt:=top 9
abbrev XM:Stmt:=top 10
abbrev zaB:Stmt:=top 11
abbrev zdL:Stmt:=top 12
abbrev zdM:Stmt:=top 13
abbrev zcd:Stmt:=top 14
abbrev YZ:Stmt:=top 15
abbrev Yx:Stmt:=top 16
abbrev zdH:Stmt:=top 17
abbrev Yj:Stmt:=top 18
abbrev WY:Stmt:=top 19
abbrev Z6:Stmt:=top 24
abbrev ZV:Stmt:=top 25
abbrev Y6:Stmt:=top 26
abbrev Xz:Stmt:=top 27
abbrev XR:Stmt:=top 28
abbrev Yl:Stmt:=top 29
abbrev zgA:Stmt:=top 31
abbrev Y5:Stmt:=top 34
abbrev W8:Stmt:=top 35
abbrev Yh:Stmt:=top 36
abbrev zbZ:Stmt:=top 37
abbrev V5:Stmt:=top 38
abbrev WW:Stmt:=top 39
abbrev zag:Stmt:=top 40
abbrev vg:Stmt:=top 41
abbrev zan:Stmt:=top 42
abbrev Wj:Stmt:=top 43
abbrev W0:Stmt:=top 44
abbrev zat:Stmt:=top 45
abbrev Y9:Stmt:=top 46
abbrev Vc:Stmt:=top 47
abbrev Yv:Stmt:=inClass (top 32) 8
abbrev WP:Stmt:=inClass (top 32) 7
abbrev YX:Stmt:=top 48
abbrev wW:Stmt:=inClass (top 32) 0
abbrev zlK:Stmt:=top 49
abbrev hpg:=PySem.Challenge.pw_stretchdeeds_k33_done_and_turned
abbrev hva:Value:=.str "__main__" 164
abbrev hvb:Value:=.str "stretchdeeds.trees" 194
abbrev hvc:Value:=.str "stretchdeeds.errors" 401
abbrev hvd:Value:=.str "stretchdeeds.algebras" 446
abbrev hve:Value:=.str "stretchdeeds.ways" 513
abbrev hvf:Value:=.str "law_stretchdeeds_k33_done_and_turned" 633
abbrev hem:List Value:=[(.type "ValueError"), (.type "Exception"), (.type "BaseException"), (.type "object")]
abbrev kF(n q:Str)(s:Stmt)(pm hcd:Value):Obj:=⟨.type "function",none,.func (fnOf n q (zgv s) (W4 s) (zr s) .none .none .none pm none hcd .none),#[]⟩
abbrev kD(es:List DictEntry)(n:Nat):Obj:=⟨.type "dict",none,.dict es.toArray n,#[]⟩
abbrev kE(P:Params)(x:Str)(t:Nat)(v:Value):DictEntry:=⟨PyData.keyHash P x,.str x t,v⟩
abbrev kR(P:Params)(x:Str)(t:Nat)(a:Addr):DictEntry:=kE P x t (.ref a)
abbrev hfl(c:Value)(l:List Value):Obj:=⟨c,none,.fields l.toArray,#[]⟩
abbrev hco(n q:Str)(t u:Nat)(l k g:Int)(b:Bool)(a:Nat)(r s v:Value):Obj:=hfl (.type "code") [.str n t,.str q (t+1),.str "/claim/cut.py" (t+2),.int l 0,.int k 0,.int 0 0,.int 0 0,.int g 0,.ref a,.bool b,.int 181 0,.ref (a+1),.none,r,s,v,.int u 0,.int l 0,.str "/claim/cut.py" (u+1)]
abbrev hc7(n q:Str)(t u:Nat)(l k:Int)(a:Nat):=hco n q t u l k 3 true a (.ref (a+2)) (.ref (a+3)) (.ref (a+4))
abbrev hc5(n q:Str)(t:Nat)(l k:Int)(a:Nat):=hco n q t (t+3) l k 3 true a .none .none (.ref (a+2))
abbrev hen(P:Params):List DictEntry:=[kE P "__doc__" 166 .none,kE P "__package__" 167 .none,kE P "__loader__" 168 (.builtin "__main__.__loader__#opaque"),kE P "__spec__" 169 .none,kR P "__annotations__" 170 6,kR P "__builtins__" 171 4,kE P "__file__" 173 (.str "/claim/cut.py" 172),kE P "__cached__" 174 .none,kR P "_wall" 193 21,kR P "Knot" 236 38,kR P "leaf_of" 243 49,kR P "knot_of" 252 56,kR P "tree_of" 261 63,kR P "size_of" 268 70,kR P "whole_of" 276 77,kR P "both_waits" 285 84,kR P "done_all" 296 91,kR P "turned_all" 304 98,kR P "parts_of" 314 105,kR P "gather" 329 112,kR P "row_of" 338 119,kR P "walk_of" 347 126,kR P "leaned_left" 358 133,kR P "leaned_right" 369 140,kR P "evened" 378 147,kR P "put_together" 388 154,kR P "parted_at" 400 161,kR P "StretchError" 420 171,kR P "NotLetBy" 445 191,kR P "nothing_fails" 457 200,kR P "parting_fails" 469 207,kR P "doing_fails" 485 214,kR P "deeds_fail" 496 221,kR P "what_fails" 504 228,kR P "check_let_by" 512 235,kR P "firm" 520 240,kR P "Ways" 632 323,kR P "_law_cell_at" 642 334,kR P "_law_mixed" 651 341,kR P "_law_names" 657 346,kR P "_law_two" 668 353,kR P "_law_one" 674 358,kR P "_law_order" 685 365,kR P "_law_rows" 700 372,kR P "_law_algebra" 706 377,kR P "_law_come" 716 384,kR P "_law_made" 722 389,kR P "_law_whole" 729 396,kR P "_law_gone" 740 403,kR P "_law_is_tree" 753 410,kR P "_law_drawn" 765 417,kR P "_law_changed" 780 424,kR P "law" 786 429]
def K(P:Params):Frag:=
 (nat_lit 3,kD (kE P "__name__" 165 hvf::hen P) 54)::
 (nat_lit 34,hc7 "__init__" "Knot.__init__" 208 218 7 7 29)::
 (nat_lit 35,kF "__init__" "Knot.__init__" Z7 hvb (.ref 34))::
 (nat_lit 37,kD [kE P "__module__" 203 hvb,kE P "__firstlineno__" 207 (.int (5) 206),kR P "__init__" 220 35,kR P "__static_attributes__" 229 36,kR P "__dict__" 231 39,kR P "__weakref__" 233 40,kE P "__doc__" 234 .none] 4)::
 (nat_lit 38,⟨(.type "type"),none,.cls {name:="Knot",bases:=[(.type "object")],mro:=[(.ref 38),(.type "object")],ns:=37,qualname:="Knot",hasDict:=true,slotNames:=[],subclasses:=[],abstract:=false,collection:=none,hasDel:=false},#[none,none,some (.str "Knot" 196),some (.str "Knot" 204),some (.builtin "object.__new__"),some (.bool true)]⟩)::
 (nat_lit 48,hc7 "leaf_of" "leaf_of" 237 241 16 1 43)::
 (nat_lit 49,kF "leaf_of" "leaf_of" zcr hvb (.ref 48))::
 (nat_lit 55,hc7 "knot_of" "knot_of" 244 250 18 3 50)::
 (nat_lit 56,kF "knot_of" "knot_of" zcg hvb (.ref 55))::
 (nat_lit 62,hc7 "tree_of" "tree_of" 253 259 20 2 57)::
 (nat_lit 63,kF "tree_of" "tree_of" zci hvb (.ref 62))::
 (nat_lit 69,hc7 "size_of" "size_of" 262 266 27 1 64)::
 (nat_lit 70,kF "size_of" "size_of" zcl hvb (.ref 69))::
 (nat_lit 76,hc7 "whole_of" "whole_of" 269 274 29 2 71)::
 (nat_lit 77,kF "whole_of" "whole_of" zaj hvb (.ref 76))::
 (nat_lit 83,hc7 "both_waits" "both_waits" 277 283 31 3 78)::
 (nat_lit 84,kF "both_waits" "both_waits" XQ hvb (.ref 83))::
 (nat_lit 90,hc7 "done_all" "done_all" 286 294 37 3 85)::
 (nat_lit 91,kF "done_all" "done_all" zau hvb (.ref 90))::
 (nat_lit 97,hc7 "turned_all" "turned_all" 297 302 45 2 92)::
 (nat_lit 98,kF "turned_all" "turned_all" XM hvb (.ref 97))::
 (nat_lit 104,hc7 "parts_of" "parts_of" 305 312 49 2 99)::
 (nat_lit 105,kF "parts_of" "parts_of" zaB hvb (.ref 104))::
 (nat_lit 111,hc7 "gather" "gather" 315 327 58 5 106)::
 (nat_lit 112,kF "gather" "gather" zdL hvb (.ref 111))::
 (nat_lit 118,hc7 "row_of" "row_of" 330 336 67 2 113)::
 (nat_lit 119,kF "row_of" "row_of" zdM hvb (.ref 118))::
 (nat_lit 125,hc7 "walk_of" "walk_of" 339 345 72 2 120)::
 (nat_lit 126,kF "walk_of" "walk_of" zcd hvb (.ref 125))::
 (nat_lit 132,hc7 "leaned_left" "leaned_left" 348 356 79 3 127)::
 (nat_lit 133,kF "leaned_left" "leaned_left" YZ hvb (.ref 132))::
 (nat_lit 139,hc7 "leaned_right" "leaned_right" 359 367 85 3 134)::
 (nat_lit 140,kF "leaned_right" "leaned_right" Yx hvb (.ref 139))::
 (nat_lit 146,hc7 "evened" "evened" 370 376 91 3 141)::
 (nat_lit 147,kF "evened" "evened" zdH hvb (.ref 146))::
 (nat_lit 153,hc7 "put_together" "put_together" 379 386 97 3 148)::
 (nat_lit 154,kF "put_together" "put_together" Yj hvb (.ref 153))::
 (nat_lit 160,hc7 "parted_at" "parted_at" 389 398 109 3 155)::
 (nat_lit 161,kF "parted_at" "parted_at" WY hvb (.ref 160))::
 (nat_lit 199,hc7 "nothing_fails" "nothing_fails" 448 455 130 1 194)::
 (nat_lit 200,kF "nothing_fails" "nothing_fails" Z6 hvd (.ref 199))::
 (nat_lit 206,hc7 "parting_fails" "parting_fails" 458 467 137 1 201)::
 (nat_lit 207,kF "parting_fails" "parting_fails" ZV hvd (.ref 206))::
 (nat_lit 213,hc7 "doing_fails" "doing_fails" 470 483 146 3 208)::
 (nat_lit 214,kF "doing_fails" "doing_fails" Y6 hvd (.ref 213))::
 (nat_lit 220,hc7 "deeds_fail" "deeds_fail" 486 494 157 1 215)::
 (nat_lit 221,kF "deeds_fail" "deeds_fail" Xz hvd (.ref 220))::
 (nat_lit 227,hc7 "what_fails" "what_fails" 497 502 166 1 222)::
 (nat_lit 228,kF "what_fails" "what_fails" XR hvd (.ref 227))::
 (nat_lit 234,hc7 "check_let_by" "check_let_by" 505 510 173 1 229)::
 (nat_lit 235,kF "check_let_by" "check_let_by" Yl hvd (.ref 234))::
 (nat_lit 239,hc5 "firm" "firm" 515 178 1 236)::
 (nat_lit 240,kF "firm" "firm" zgA hve (.ref 239))::
 (nat_lit 251,hc5 "__init__" "Ways.__init__" 533 182 2 248)::
 (nat_lit 252,kF "__init__" "Ways.__init__" wW hve (.ref 251))::
 (nat_lit 279,hc7 "nothing" "Ways.nothing" 563 567 200 1 274)::
 (nat_lit 280,kF "nothing" "Ways.nothing" Ys hve (.ref 279))::
 (nat_lit 286,hc7 "join" "Ways.join" 570 576 203 3 281)::
 (nat_lit 287,kF "join" "Ways.join" WN hve (.ref 286))::
 (nat_lit 300,hc7 "idle" "Ways.idle" 588 592 209 1 295)::
 (nat_lit 301,kF "idle" "Ways.idle" WP hve (.ref 300))::
 (nat_lit 307,hc7 "wait_of" "Ways.wait_of" 595 600 212 2 302)::
 (nat_lit 308,kF "wait_of" "Ways.wait_of" Yv hve (.ref 307))::
 (nat_lit 312,hc5 "behind" "Ways.behind" 603 215 3 309)::
 (nat_lit 313,kF "behind" "Ways.behind" ZR hve (.ref 312))::
 (nat_lit 319,hc7 "made" "Ways.made" 609 616 218 4 314)::
 (nat_lit 320,kF "made" "Ways.made" WM hve (.ref 319))::
 (nat_lit 322,kD [kE P "__module__" 528 hve,kE P "__firstlineno__" 532 (.int (180) 531),kR P "__init__" 538 252,kR P "is_value" 546 259,kR P "is_deed" 554 266,kR P "is_sign" 562 273,kR P "nothing" 569 280,kR P "join" 578 287,kR P "has_sign" 587 294,kR P "idle" 594 301,kR P "wait_of" 602 308,kR P "behind" 608 313,kR P "made" 618 320,kR P "__static_attributes__" 625 321,kR P "__dict__" 627 324,kR P "__weakref__" 629 325,kE P "__doc__" 630 .none] 4)::
 (nat_lit 323,⟨(.type "type"),none,.cls {name:="Ways",bases:=[(.type "object")],mro:=[(.ref 323),(.type "object")],ns:=322,qualname:="Ways",hasDict:=true,slotNames:=[],subclasses:=[],abstract:=false,collection:=none,hasDel:=false},#[none,none,some (.str "Ways" 521),some (.str "Ways" 529),some (.builtin "object.__new__"),some (.bool true)]⟩)::
 (nat_lit 333,hc7 "_law_cell_at" "_law_cell_at" 635 640 221 2 328)::
 (nat_lit 334,kF "_law_cell_at" "_law_cell_at" Y5 hvf (.ref 333))::
 (nat_lit 340,hc7 "_law_mixed" "_law_mixed" 643 649 225 2 335)::
 (nat_lit 341,kF "_law_mixed" "_law_mixed" W8 hvf (.ref 340))::
 (nat_lit 345,hc5 "_law_names" "_law_names" 652 231 2 342)::
 (nat_lit 346,kF "_law_names" "_law_names" Yh hvf (.ref 345))::
 (nat_lit 352,hc7 "_law_two" "_law_two" 658 666 244 4 347)::
 (nat_lit 353,kF "_law_two" "_law_two" zbZ hvf (.ref 352))::
 (nat_lit 357,hc5 "_law_one" "_law_one" 669 255 5 354)::
 (nat_lit 358,kF "_law_one" "_law_one" V5 hvf (.ref 357))::
 (nat_lit 364,hc7 "_law_order" "_law_order" 675 683 268 2 359)::
 (nat_lit 365,kF "_law_order" "_law_order" WW hvf (.ref 364))::
 (nat_lit 371,hc7 "_law_rows" "_law_rows" 686 698 274 5 366)::
 (nat_lit 372,kF "_law_rows" "_law_rows" zag hvf (.ref 371))::
 (nat_lit 376,hc5 "_law_algebra" "_law_algebra" 701 282 1 373)::
 (nat_lit 377,kF "_law_algebra" "_law_algebra" vg hvf (.ref 376))::
 (nat_lit 383,hc7 "_law_come" "_law_come" 707 714 298 2 378)::
 (nat_lit 384,kF "_law_come" "_law_come" zan hvf (.ref 383))::
 (nat_lit 388,hc5 "_law_made" "_law_made" 717 305 3 385)::
 (nat_lit 389,kF "_law_made" "_law_made" Wj hvf (.ref 388))::
 (nat_lit 395,hc7 "_law_whole" "_law_whole" 723 727 308 1 390)::
 (nat_lit 396,kF "_law_whole" "_law_whole" W0 hvf (.ref 395))::
 (nat_lit 402,hc7 "_law_gone" "_law_gone" 730 738 310 2 397)::
 (nat_lit 403,kF "_law_gone" "_law_gone" zat hvf (.ref 402))::
 (nat_lit 409,hc7 "_law_is_tree" "_law_is_tree" 741 751 323 4 404)::
 (nat_lit 410,kF "_law_is_tree" "_law_is_tree" Y9 hvf (.ref 409))::
 (nat_lit 416,hc7 "_law_drawn" "_law_drawn" 754 763 337 3 411)::
 (nat_lit 417,kF "_law_drawn" "_law_drawn" Vc hvf (.ref 416))::
 (nat_lit 423,hc7 "_law_changed" "_law_changed" 766 778 348 5 418)::
 (nat_lit 424,kF "_law_changed" "_law_changed" YX hvf (.ref 423))::
 (nat_lit 428,hc5 "law" "law" 781 360 1 425)::
 (nat_lit 429,kF "law" "law" zlK hvf (.ref 428))::
 []
def kA:List Addr:=[3,34,35,37,38,48,49,55,56,62,63,69,70,76,77,83,84,90,91,97,98,104,105,111,112,118,119,125,126,132,133,139,140,146,147,153,154,160,161,199,200,206,207,213,214,220,221,227,228,234,235,239,240,251,252,279,280,286,287,300,301,307,308,312,313,319,320,322,323,333,334,340,341,345,346,352,353,357,358,364,365,371,372,376,377,383,384,388,389,395,396,402,403,409,410,416,417,423,424,428,429]
def qv:Program:={hpg with main:={hpg.main with body:=[0,2,3,4,5,6,7,8,9,10,11,12,13,14,15,16,17,18,19,21,22,24,25,26,27,28,29,31,32,34,35,36,37,38,39,40,41,42,43,44,45,46,47,48,49].map top}}
theorem kAe(P:Params):kA=(K P).map (·.1):=by kernel_rfl
set_option maxRecDepth 100000
theorem ws:PySem.Challenge.rw_stretchdeeds_k33_done_and_turned.wellSaid=true:=by kernel_rfl
abbrev Xt(s:Shared):Bool:=xlAt qv [] s&&recOk (RowW.records (OpenRow.toRowW PySem.Challenge.rw_stretchdeeds_k33_done_and_turned.row)) s
abbrev hk:Hook:=kHook K kA kAe
def htp(l:List Value):Obj:=⟨.type "tuple",none,.seq l.toArray 0,#[]⟩
def htx:Nat->List Str->List Value
 |_,[]=>[]
 |t,x::l=>.str x t::htx (t+1) l
noncomputable def hfO(a t:Nat)(r:Str)(v:Value)(s:Stmt):List Obj:=match s with
 | .FunctionDef n p b _ _ _ c _ _ o=>
  let q:=r++n;let S:Obj:=⟨.none,none,.func {name:=n,qualname:=q,params:=p,body:=.stmts b,scope:=c,globals:=0,closure:=[],defaults:=.none,kwdefaults:=.none},#[]⟩
  match localNames p c (.stmts b) with
  |some (x,_)=>[htp [],hfl .none [],htp (htx (t+3) x),htp [],S,hc7 n q t (t+3+x.length) o.line p.args.length a,kF n q s v (.ref (a+5))]
  |none=>[htp [],hfl .none [],S,hc5 n q t o.line p.args.length a,kF n q s v (.ref (a+3))]
 |_=>[]
noncomputable def htk(s:Stmt):Nat:=match s with
 | .FunctionDef _ p b _ _ _ c _ _ _=>match localNames p c (.stmts b) with
  |some (x,_)=>6+x.length
  |none=>6
 |_=>0
noncomputable def hms(P:Params)(c:Str)(v:Value):Nat->Nat->List Stmt->List Obj×List DictEntry×List Value×Nat
 |_,t,[]=>([],[],[],t)
 |a,t,s::r=>match s with
  | .FunctionDef n _ _ _ _ _ _ _ _ o=>let f:=hfO a t (c++".") v s;let l:=a+f.length;let u:=t+htk s;let z:=hms P c v l u r;(f++z.1,kR P n (u-1) (l-1)::z.2.1,.int o.line 0:: .int 4 0:: .ref (l-2)::z.2.2.1,z.2.2.2)
  |_=>hms P c v a t r
def hfm(a b:Addr)(v:Value):Obj:=⟨.type "frame",none,.plain,#[some (.ref a),some (.ref 3),some (.ref b),none,some v,none,some (.ref 0)]⟩
def hbf(x:String)(v:Value):Obj:=hfl (.type "builtin_function_or_method") [.builtin x,v]
def hgd(x:Str)(t:Nat)(c:Addr)(g s:Value):Obj:=hfl (.type "getset_descriptor") [.str x t,.ref c,g,s]
noncomputable def hcO(P:Params)(a t:Nat)(v:Value)(bv mr sb:List Value)(nw:String)(d:Nat)(s:Stmt):List Obj:=match s with
 | .ClassDef n _ _ b _ _ _ _ _ sa o=>
  let m:=hms P n v (a+7) (t+12) b;let e:=a+7+m.1.length;let k:=m.2.2.2+sa.length;let z:=k+1;let C:=e+2
  let x:=kE P "__module__" (t+7) v;let f:=kE P "__firstlineno__" (t+11) (.int o.line (t+10));let y:=kR P "__static_attributes__" k e
  let W:=λt:Nat=>hgd "__weakref__" t C (.builtin "ExceptionGroup.__weakref__") .none
  let D:List DictEntry×List Obj:=match d with
   |0=>([],[])
   |1=>([kR P "__weakref__" (z+1) (C+1)],[W z])
   |_=>([kR P "__dict__" (z+1) (C+1),kR P "__weakref__" (z+3) (C+2)],[hgd "__dict__" z C (.builtin "function.__dict__") (.builtin "function.__dict__#set"),W (z+2)])
  [htp bv,hbf "type.__prepare__" (.type "type"),kD (x::kE P "__qualname__" (t+9) (.str n (t+8))::f::m.2.1++[y]) (4+m.2.1.length),htp [],hfl .none m.2.2.1,hco n n (t+2) (t+5) o.line 0 0 false (a+3) .none .none .none,hfm (a+5) (a+2) v]++m.1++[htp (htx m.2.2.2 sa),kD (x::f::m.2.1++y::D.1++[kE P "__doc__" (z+2*d) .none]) (2+d),⟨.type "type",none,.cls {name:=n,bases:=if bv.isEmpty then [.type "object"] else bv,mro:=.ref C::mr,ns:=e+1,qualname:=n,hasDict:=true,slotNames:=[],subclasses:=sb},#[if bv.isEmpty then none else some (.ref a),none,some (.str n t),some (.str n (t+8)),some (.builtin nw),some (.bool true)]⟩]++D.2++[hfl (.type "super") [.ref C,.ref C,.ref C],hbf "object.__init_subclass__" (.ref C)]
 |_=>[]
def hcs:List (Int×Addr):=[(1,20),(5,27),(16,48),(18,55),(20,62),(27,69),(29,76),(31,83),(37,90),(45,97),(49,104),(58,111),(67,118),(72,125),(79,132),(85,139),(91,146),(97,153),(109,160),(122,167),(124,180),(130,199),(137,206),(146,213),(157,220),(166,227),(173,234),(178,239),(180,246),(221,333),(225,340),(231,345),(244,352),(255,357),(268,364),(274,371),(282,376),(298,383),(305,388),(308,395),(310,402),(323,409),(337,416),(348,423),(360,428)]
noncomputable def hhp(P:Params)(v:Value)(g c:Nat)(l:List Obj):Heap:=⟨⟨boot_o_0 P::boot_o_1 P::boot_o_2 P::kD (kE P "__name__" 165 v::(hen P).take g) (g+1)::boot_o_4 P::boot_o_5 P::boot_o_6 P::boot_o_7 P::boot_o_8 P::boot_o_9 P::boot_o_10 P::htp []::hfl .none ((hcs.take c).flatMap λp=>[.int p.1 0,.int 0 0,.ref p.2])::hco "<module>" "<module>" 182 185 1 0 0 false 11 .none .none .none::hfm 13 3 (.str "__main__" 164)::l⟩,(boot_heap P).life⟩
abbrev hbd:=behindTheImports hpg
abbrev hev:Env:={scope:=hpg.main.scope,locals:=mainNs,globals:=mainNs,cells:=[],code:=.ref 13,frame:=some 14}
abbrev hcd:Code:=.body hbd hev
noncomputable abbrev hSh(t:Nat)(h:Heap)(o:OsState):Shared:=⟨h,⟨[]⟩,boot_drawn,t,o⟩
noncomputable def hl0(P:Params):List Obj:=hfO 15 187 "" hva (top 0)++hcO P 22 196 hvb [] [(.type "object")] [] "object.__new__" 2 (top 2)++hfO 43 237 "" hvb (top 3)++hfO 50 244 "" hvb (top 4)++hfO 57 253 "" hvb (top 5)++hfO 64 262 "" hvb (top 6)++hfO 71 269 "" hvb (top 7)++hfO 78 277 "" hvb (top 8)++hfO 85 286 "" hvb (top 9)++hfO 92 297 "" hvb (top 10)++hfO 99 305 "" hvb (top 11)++hfO 106 315 "" hvb (top 12)++hfO 113 330 "" hvb (top 13)++hfO 120 339 "" hvb (top 14)++hfO 127 348 "" hvb (top 15)++hfO 134 359 "" hvb (top 16)++hfO 141 370 "" hvb (top 17)++hfO 148 379 "" hvb (top 18)++hfO 155 389 "" hvb (top 19)++hcO P 162 403 hvc [(.type "ValueError")] hem [(.ref 191)] "ValueError.__new__" 1 (top 21)++hcO P 175 421 hvc [(.ref 171)] ((.ref 171)::hem) [] "ValueError.__new__" 0 (top 22)
noncomputable def hl1(P:Params):List Obj:=hl0 P++hfO 194 448 "" hvd (top 24)++hfO 201 458 "" hvd (top 25)++hfO 208 470 "" hvd (top 26)++hfO 215 486 "" hvd (top 27)++hfO 222 497 "" hvd (top 28)++hfO 229 505 "" hvd (top 29)++hfO 236 515 "" hve (top 31)++hcO P 241 521 hve [] [(.type "object")] [] "object.__new__" 2 (top 32)++hfO 328 635 "" hvf (top 34)++hfO 335 643 "" hvf (top 35)++hfO 342 652 "" hvf (top 36)++hfO 347 658 "" hvf (top 37)++hfO 354 669 "" hvf (top 38)++hfO 359 675 "" hvf (top 39)
noncomputable def hl2(P:Params):List Obj:=hl1 P++hfO 366 686 "" hvf (top 40)++hfO 373 701 "" hvf (top 41)++hfO 378 707 "" hvf (top 42)++hfO 385 717 "" hvf (top 43)++hfO 390 723 "" hvf (top 44)++hfO 397 730 "" hvf (top 45)++hfO 404 741 "" hvf (top 46)++hfO 411 754 "" hvf (top 47)++hfO 418 766 "" hvf (top 48)++hfO 425 781 "" hvf (top 49)
theorem hr0(w:World)(o:OsState):topGo treeTable hpg w 11 (some (.ref 6)) 12 (hSh boot_toks (boot_heap w.params) o) (topStub hpg)=some (hSh 187 (hhp w.params (.str "__main__" 164) 8 0 []) o,⟨denote treeTable hcd,hcd,⟨0,0,0,0⟩,[topFrame ⟨0,0,0,0⟩]⟩):=by kernel_rfl
theorem hr1(w:World)(o:OsState):segRun treeTable hpg w 11 (some (.ref 6)) 1 1 (hSh 187 (hhp w.params (.str "__main__" 164) 8 0 []) o) (blockOf hbd hev hcd ⟨0,0,0,0⟩ [topFrame ⟨0,0,0,0⟩])=some (.next,hSh 187 (hhp w.params (.str "__main__" 164) 8 0 []) o,hcd,⟨0,0,0,0⟩):=by kernel_rfl
theorem hs0(w:World)(o:OsState):segRun treeTable hpg w 11 (some (.ref 6)) 1 1251 (hSh 187 (hhp w.params (.str "__main__" 164) 8 0 []) o) (piecesOf (hbd.take 23) hev hcd ⟨0,0,0,0⟩ [topFrame ⟨0,0,0,0⟩])=some (.next,hSh 446 (hhp w.params hvc 29 21 (hl0 w.params)) o,hcd,⟨124,0,128,24⟩):=by kernel_rfl
abbrev hb0:=hbd.drop 23
theorem hs1(w:World)(o:OsState):segRun treeTable hpg w 11 (some (.ref 6)) 1 971 (hSh 446 (hhp w.params hvc 29 21 (hl0 w.params)) o) (piecesOf (hb0.take 17) hev hcd ⟨124,0,128,24⟩ [topFrame ⟨0,0,0,0⟩])=some (.next,hSh 686 (hhp w.params hvf 43 35 (hl1 w.params)) o,hcd,⟨268,0,273,26⟩):=by kernel_rfl
abbrev hb1:=hb0.drop 17
theorem hs2(w:World)(o:OsState):topRun treeTable hpg w 11 (some (.ref 6)) 318 (hSh 686 (hhp w.params hvf 43 35 (hl1 w.params)) o) (restOf hb1 hev hcd ⟨268,0,273,26⟩ [topFrame ⟨0,0,0,0⟩])=some (hSh 787 (hhp w.params hvf 53 45 (hl2 w.params)) o):=by kernel_rfl
theorem hpa{w:World}{n N t t':Nat}{h h':Heap}{o:OsState}{r:Shared}{b:List Stmt}(m:Nat){p p':Pos}(x:segRun treeTable hpg w 11 (some (.ref 6)) 1 n (hSh t h o) (piecesOf (b.take m) hev hcd p [topFrame ⟨0,0,0,0⟩])=some (.next,hSh t' h' o,hcd,p'))(y:topRun treeTable hpg w 11 (some (.ref 6)) N (hSh t' h' o) (restOf (b.drop m) hev hcd p' [topFrame ⟨0,0,0,0⟩])=some r):topRun treeTable hpg w 11 (some (.ref 6)) (n+N) (hSh t h o) (restOf b hev hcd p [topFrame ⟨0,0,0,0⟩])=some r:=by
 have z:=piece_app x y;rwa[List.take_append_drop] at z
theorem hhr(w:World)(o:OsState):topRun treeTable hpg w 11 (some (.ref 6)) (12+(1+(1251+(971+318)))) (hSh boot_toks (boot_heap w.params) o) (topStub hpg)=some (hSh 787 (hhp w.params hvf 53 45 (hl2 w.params)) o):=go_top (hr0 w o) (piece_block (hr1 w o) (hpa _ (hs0 w o) (hpa _ (hs1 w o) (hs2 w o))))
noncomputable def hhf(P:Params):Heap:=hhp P hvf 53 45 (hl2 P)
theorem hhq(w:World):(λo=>((staticsOk (importedModules hpg.main.body) (boot_heap w.params) (hhf w.params)&&namesBound hpg (hhf w.params)&&gensDone (hSh 787 (hhf w.params) o)&&laidKept (boot_heap w.params) (hhf w.params)),openSeen qv [] (importedModules hpg.main.body) Xt true (hSh 787 (hhf w.params) o),hk.obs (hSh 787 (hhf w.params) o)))=λ_=>(true,openGood qv [],hk.val w):=by kernel_rfl
theorem hl:LeftO PySem.Challenge.pw_stretchdeeds_k33_done_and_turned qv [] Xt hk.obs hk.val 6000:=LeftO.of_pieces (H₀:=boot_heap) (H₁:=hhf) (boot_open (by kernel_rfl) rfl λ_=>by kernel_rfl) (λ_=>by kernel_rfl) hhr rfl hhq
end G33
end
section
namespace L2
open PySem PySem.Spec PyProof.Rows
abbrev Key:=Sum Int Str
def zje:Key->Value->Bool
 | .inl k,v=>Value.isInt k v
 | .inr x,v=>Value.isStrOf x v
def zzk(w:World):Key->Int
 | .inl k=>hashInt k
 | .inr x=>hashStr w x
theorem wZ:∀{k:Key}{v:Value},zje k v=true->(∃i t,k=Sum.inl i/\v=Value.int i t)\/(∃x t,k=Sum.inr x/\v=Value.str x t)
 | .inl i,v,h=>by
  obtain⟨t,e⟩:=Value.isInt_shape (k:=i) (v:=v) h
  exact .inl ⟨i,t,rfl,e⟩
 | .inr x,v,h=>by
  obtain⟨t,e⟩:=Value.isStrOf_shape (x:=x) (v:=v) h
  exact .inr ⟨x,t,rfl,e⟩
theorem zpf(i:Int)(t:Tok):zje (.inl i) (.int i t)=true:=by simp[zje,Value.isInt]
theorem zpN(x:Str)(t:Tok):zje (.inr x) (.str x t)=true:=by simp[zje,Value.isStrOf]
theorem zwt(a b:Int):decide ((Sum.inl a:Key)=Sum.inl b)=(a==b):=by
 by_cases e:a=b
 · subst e;simp
 · have h:¬(Sum.inl a:Key)=Sum.inl b:=λq=>e (Sum.inl.inj q)
   rw[QzE h]
   exact(beq_eq_false_iff_ne.mpr e).symm
theorem zws(a b:Str):decide ((Sum.inr a:Key)=Sum.inr b)=decide (a=b):=by
 by_cases e:a=b
 · subst e;simp
 · have h:¬(Sum.inr a:Key)=Sum.inr b:=λq=>e (Sum.inr.inj q)
   rw[QzE h,QzE e]
theorem zwM(a:Int)(b:Str):decide ((Sum.inl a:Key)=Sum.inr b)=false:=QzE (λq=>nomatch q)
theorem zwm(a:Str)(b:Int):decide ((Sum.inr a:Key)=Sum.inl b)=false:=QzE (λq=>nomatch q)
def v9(prog:Program)(w:World):PySem.KeyKind prog w Key where
 is:=zje
 hash:=zzk w
 inj:=λv a b ha hb=>by
  rcases wZ ha with⟨i,t,rfl,rfl⟩|⟨x,t,rfl,rfl⟩
  · rcases wZ hb with⟨j,u,rfl,e⟩|⟨y,u,rfl,e⟩
    · injection e with e1 _;rw[e1]
    · exact nomatch e
  · rcases wZ hb with⟨j,u,rfl,e⟩|⟨y,u,rfl,e⟩
    · exact nomatch e
    · injection e with e1 _;rw[e1]
 byValue:=λk v h=>by
  rcases wZ h with⟨i,t,rfl,rfl⟩|⟨x,t,rfl,rfl⟩<;>rfl
 pyHash:=λhv h=>by
  rcases wZ hv with⟨i,t,rfl,rfl⟩|⟨x,t,rfl,rfl⟩
  · exact wpAny_pyHash_int h
  · exact wpAny_pyHash_str h
 eqBool:=λhu hv h=>by
  rcases wZ hu with⟨i,t,rfl,rfl⟩|⟨x,t,rfl,rfl⟩
  · rcases wZ hv with⟨j,u,rfl,rfl⟩|⟨y,u,rfl,rfl⟩
    · rw[zwt]at h;exact wpAny_eqBool_int h
    · rw[zwM]at h;exact SeqAt.EqAt.int_str i t y u _ _ _ _ h
  · rcases wZ hv with⟨j,u,rfl,rfl⟩|⟨y,u,rfl,rfl⟩
    · rw[zwm]at h;exact SeqAt.EqAt.str_int x t j u _ _ _ _ h
    · rw[zws]at h;exact wpAny_eqBool_str h
 «strs» := λk x t v h=>by
  rcases wZ h with⟨i,u,rfl,e⟩|⟨y,u,rfl,e⟩
  · exact nomatch e
  · injection e with e1 _
    subst e1
    cases v<;>rfl
theorem zlA(prog:Program)(w:World)(i:Int)(t:Tok):(v9 prog w).is (.inl i) (.int i t)=true:=zpf i t
theorem zbB(prog:Program)(w:World)(x:Str)(t:Tok):(v9 prog w).is (.inr x) (.str x t)=true:=zpN x t
end L2
namespace L2
open PySem PySem.Spec PyProof.Rows
inductive V where
 |non|bl (b:Bool)|int (i:Int)|str (x:Str)|byt (b:Array UInt8)|flt (b:UInt64)|ref (a:Addr)|ty (n:String)
 deriving DecidableEq
def RelV:V->Value->Prop
 | .non,u=>u=Value.none
 | .bl b,u=>u=Value.bool b
 | .int i,u=>∃t,u=Value.int i t
 | .str x,u=>∃t,u=Value.str x t
 | .byt b,u=>∃t,u=Value.bytes b t
 | .flt b,u=>∃t,u=Value.float b t
 | .ref a,u=>u=Value.ref a
 | .ty n,u=>u=Value.type n
abbrev Vals:List V->List Value->Prop:=Paired RelV
theorem Vals.length(r:Vals xs us):xs.length=us.length:=Paired.length r
theorem Vals.get:∀{xs:List V}{us:List Value}{i:Nat}{x:V},Vals xs us->xs[i]? = some x->∃u,us[i]? = some u/\RelV x u
 |_,_,_,_,.nil,e=>by simp at e
 |_,_,0,_,.cons r _,e=>by simp at e;subst e;exact⟨_,rfl,r⟩
 |_,_,i+1,x,.cons _ t,e=>by
  obtain⟨u,h1,h2⟩:=Vals.get (i:=i) (x:=x) t (by simpa using e)
  exact⟨u,by simpa using h1,h2⟩
theorem Vals.set(r:RelV x u):∀{xs:List V}{us:List Value}(i:Nat),Vals xs us->Vals (xs.set i x) (us.set i u)
 |_,_,_,.nil=>.nil
 |_,_,0,.cons _ t=>.cons r t
 |_,_,i+1,.cons q t=>.cons q (Vals.set r i t)
theorem Vals.append:∀{xs ys:List V}{us ws:List Value},Vals xs us->Vals ys ws->Vals (xs++ys) (us++ws)
 |_,_,_,_,.nil,s=>s
 |_,_,_,_,.cons r t,s=>.cons r (Vals.append t s)
theorem Vals.take:∀{xs:List V}{us:List Value}(n:Nat),Vals xs us->Vals (xs.take n) (us.take n)
 |_,_,0,_=>.nil
 |_,_,_+1,.nil=>.nil
 |_,_,n+1,.cons r t=>.cons r (Vals.take n t)
theorem Vals.drop:∀{xs:List V}{us:List Value}(n:Nat),Vals xs us->Vals (xs.drop n) (us.drop n)
 |_,_,0,r=>r
 |_,_,_+1,.nil=>.nil
 |_,_,n+1,.cons _ t=>Vals.drop n t
def zdI:Option V->Option Value->Prop
 |some v,some u=>RelV v u
 |none,none=>True
 |_,_=>False
def KV{κ:Type}:List (κ×V)->List (κ×Value)->Prop:=Paired λ(p:κ×V) (q:κ×Value)=>p.1=q.1/\RelV p.2 q.2
def kV:Key->V
 | .inl i=>.int i
 | .inr x=>.str x
inductive HO where
 |lst (xs:List V)
 |tup (xs:List V)
 |dK (kvs:List (Key×V))|dT (kvs:List (List Key×V))
 |set (S:Int->Bool) (n:Nat)
 |ins (C dx:Addr) (fs:List (Str×V))
 |own (x:Addr)
 |xd (fs:List (Str×V))
 |met (f x:Addr)
 |rng (lo hi:Int)
 |frz (o:Obj) (u:HO)
 |tbl (ps:Array Value)
 |ext (φ:Heap->Prop)
abbrev Hp:=Addr->Option HO
def upd(H:Hp)(a:Addr)(o:HO):Hp:=λb=>if b=a then some o else H b
theorem yH:upd H a o a=some o:=by unfold upd;rw[if_pos rfl]
theorem yg(h:b≠a):upd H a o b=H b:=by unfold upd;rw[if_neg h]
theorem yI{H:Hp}{a b:Addr}{o:HO}(h:H a=some o)(h':H b=none):a≠b:=by
 intro e;subst e;rw[h]at h';cases h'
section
variable(P:Program)(w:World)
def Zj(H:Hp)(h:Heap)(a:Addr):HO->Prop
 | .lst xs=>xs.length<=sizeLine/\∃(its:List Value) (n:Nat),Vals xs its/\h.get? a=some {cls:=.type "list",data:=.seq its.toArray n}
 | .tup xs=>xs.length<=sizeLine/\∃its:List Value,Vals xs its/\IsTup h a its.toArray
 | .dK kvs=>kvs.length<=sizeLine/\(a==sysModules)=false/\∃vs,KV kvs vs/\h.DictOf (v9 P w) a vs
 | .dT kvs=>kvs.length<=sizeLine/\(a==sysModules)=false/\∃xs:List (List Key×Addr×Value),
  Paired (λ(p:List Key×V) (q:List Key×Addr×Value)=>p.1=q.1/\H q.2.1=some (.tup (p.1.map kV))/\RelV p.2 q.2.2) kvs xs/\
  ∃o es ep,h.get? a=some o/\o.ExactDict/\o.data = .dict es ep/\es.toList=xs.map (entryOfKey (tupleKind (v9 P w)))/\(xs.map (·.1)).Nodup
 | .set S n=>h.SetOf (intKind P w) a S n
 | .ins C dx fs=>H dx=some (.own a)/\fs.length<=1000/\dx≠a/\h.get? a=some (PySem.W.instObj C dx)/\
  ∃mA,h.Ns1 dx mA/\(∀f,zdI (fs.lookup f) (mA f))/\PySem.Within mA (fs.map (·.1))
 | .own _=>∃o,h.get? a=some o
 | .xd fs=>∃mA,h.Ns1 a mA/\∀f,zdI (fs.lookup f) (mA f)
 | .rng lo hi=>∃t u v,h.get? a=some {cls:=.type "range",data:=.fields #[.int lo t,.int hi u,.int 1 v]}
 | .frz o u=>h.get? a=some o/\Zj H h a u
 | .tbl ps=>h.get? a=some {cls:=.none,data:=.fields ps}
 | .met f x=>h.get? a=some (PySem.W.methodObj (.ref f) (.ref x))
 | .ext φ=>φ h/\(∃o,h.get? a=some o)/\∀h1 h2:Heap,φ h1->(∀o,h1.get? a=some o->h2.get? a=some o)->φ h2
def HOk(H:Hp)(h:Heap):Prop:=∀a o,H a=some o->Zj P w H h a o
end
section
variable{P:Program}{w:World}{H H':Hp}{h h':Heap}{a:Addr}{o:HO}
theorem Zj.lt(x:Zj P w H h a o):a<h.objs.size:=by
 cases o with
 |lst xs=>obtain⟨_,_,_,_,e⟩:=x;exact QyG e
 |tup xs=>obtain⟨_,_,_,p⟩:=x;exact p.lt
 |dK kvs=>obtain⟨_,_,_,_,o,_,_,e,_⟩:=x;exact QyG e
 |dT kvs=>obtain⟨_,_,_,_,o,_,_,e,_⟩:=x;exact QyG e
 |set S n=>obtain⟨o,_,_,_,e,_⟩:=x;exact QyG e
 |ins C dx fs=>obtain⟨_,_,_,e,_⟩:=x;exact QyG e
 |own y=>obtain⟨_,e⟩:=x;exact QyG e
 |xd fs=>obtain⟨_,⟨_,_,_,e,_⟩,_⟩:=x;exact QyG e
 |rng lo hi=>obtain⟨_,_,_,e⟩:=x;exact QyG e
 |frz ob u=>obtain⟨e,_⟩:=x;exact QyG e
 |tbl ps=>exact QyG (show h.get? a=some _ from x)
 |met f y=>exact QyG (show h.get? a=some _ from x)
 |ext φ=>obtain⟨_,⟨_,e⟩,_⟩:=x;exact QyG e
theorem Paired.mapP:∀{l₁:List α}{l₂:List β},Paired F l₁ l₂->(∀a b,F a b->G a b)->Paired G l₁ l₂
 |_,_,.nil,_=>.nil
 |_,_,.cons r t,f=>.cons (f _ _ r) (Paired.mapP t f)
theorem Zj.stay(x:Zj P w H h a o)(k:∀b u,(b=a\/H b=some (.own a))->h.get? b=some u->h'.get? b=some u)
 (ho:∀b,H b=some (.own a)->H' b=some (.own a)) (ht:∀b xs,H b=some (.tup xs)->H' b=some (.tup xs)):Zj P w H' h' a o:=by
 induction o with
 |lst xs=>obtain⟨z,its,n,r,e⟩:=x;exact⟨z,its,n,r,k _ _ (.inl rfl) e⟩
 |tup xs=>obtain⟨z,its,r,ob,e,c⟩:=x;exact⟨z,its,r,ob,k _ _ (.inl rfl) e,c⟩
 |dK kvs=>obtain⟨z,y,vs,r,ob,es,ep,e,c⟩:=x;exact⟨z,y,vs,r,ob,es,ep,k _ _ (.inl rfl) e,c⟩
 |dT kvs=>
  obtain⟨z,y,xs,r,ob,es,ep,e,c⟩:=x
  exact⟨z,y,xs,Paired.mapP r λp q z=>⟨z.1,ht _ _ z.2.1,z.2.2⟩,ob,es,ep,k _ _ (.inl rfl) e,c⟩
 |set S n=>obtain⟨ob,es,ep,t,e,c⟩:=x;exact⟨ob,es,ep,t,k _ _ (.inl rfl) e,c⟩
 |ins C dx fs=>
  obtain⟨d,z,ne,e,mA,⟨od,es,ep,e2,c⟩,r⟩:=x
  exact⟨ho _ d,z,ne,k _ _ (.inl rfl) e,mA,⟨od,es,ep,k _ _ (.inr d) e2,c⟩,r⟩
 |own y=>obtain⟨ob,e⟩:=x;exact⟨ob,k _ _ (.inl rfl) e⟩
 |xd fs=>obtain⟨mA,⟨od,es,ep,e,c⟩,r⟩:=x;exact⟨mA,⟨od,es,ep,k _ _ (.inl rfl) e,c⟩,r⟩
 |rng lo hi=>obtain⟨t,u,v,e⟩:=x;exact⟨t,u,v,k _ _ (.inl rfl) e⟩
 |frz ob u ih=>obtain⟨e,q⟩:=x;exact⟨k _ _ (.inl rfl) e,ih q⟩
 |tbl ps=>
  have e:h.get? a=some {cls:=.none,data:=.fields ps}:=x
  show h'.get? a=some {cls:=.none,data:=.fields ps}
  exact k a _ (.inl rfl) e
 |met f y=>
  have e:h.get? a=some (PySem.W.methodObj (.ref f) (.ref y)):=x
  show h'.get? a=some (PySem.W.methodObj (.ref f) (.ref y))
  exact k a _ (.inl rfl) e
 |ext φ=>obtain⟨p,⟨o,e⟩,st⟩:=x;exact⟨st _ _ p λo q=>k _ _ (.inl rfl) q,⟨o,k _ _ (.inl rfl) e⟩,st⟩
theorem HOk.lt(x:HOk P w H h)(e:H a=some o):a<h.objs.size:=(x a o e).lt
theorem HOk.fresh(x:HOk P w H h)(e:h.objs.size<=a):H a=none:=by
 cases q:H a with
 |none=>rfl
 |some u=>exact absurd (zzI (x.lt q) e) (Nat.lt_irrefl _)
theorem HOk.kept(x:HOk P w H h)(k:∀b u,h.get? b=some u->h'.get? b=some u):HOk P w H h':=λa o e=>
 (x a o e).stay (λb u _ q=>k b u q) (λ_ q=>q) λ_ _ q=>q
theorem HOk.laid(x:HOk P w H h)(k:∀b u,h.get? b=some u->h'.get? b=some u)(hp:h.objs.size<=a)(new:Zj P w (upd H a o) h' a o):HOk P w (upd H a o) h':=λb u e=>by
 have hn:=x.fresh hp
 by_cases hb:b=a
 · subst hb;rw[yH]at e;cases e;exact new
 · rw[yg hb]at e
   exact(x b u e).stay (λc v _ q=>k c v q) (λc q=>by rw[yg (yI q hn)];exact q) λc xs q=>by rw[yg (yI q hn)];exact q
end
def Rd(H:Hp)(a:Addr)(u:HO):Prop:=H a=some u\/∃o,H a=some (.frz o u)
theorem Rd.ok(r:Rd H a u)(x:HOk P w H h):Zj P w H h a u:=by
 rcases r with r|⟨o,r⟩
 · exact x a u r
 · obtain⟨_,q⟩:=x a _ r
   exact q
def Mut:Option HO->Prop
 |some (.lst _)=>True
 |some (.dK _)=>True
 |some (.dT _)=>True
 |some (.set _ _)=>True
 |some (.ins _ _ _)=>True
 |some (.ext _)=>True
 |_=>False
section
variable{P:Program}{w:World}{H:Hp}{h h':Heap}{x e:Addr}{o':HO}
theorem HOk.write(ok:HOk P w H h)(mu:Mut (H x))(he:e=x\/H e=some (.own x))(k:∀b u,b≠e->h.get? b=some u->h'.get? b=some u)(heo:∃u,h'.get? e=some u)
 (new:Zj P w (upd H x o') h' x o'):HOk P w (upd H x o') h':=λb u q=>by
 have nown:∀c y,H c=some (.own y)->c≠x:=λc y r z=>by subst z;rw[r]at mu;exact mu
 have ntup:∀c xs,H c=some (.tup xs)->c≠x:=λc xs r z=>by subst z;rw[r]at mu;exact mu
 by_cases hb:b=x
 · subst hb;rw[yH]at q;cases q;exact new
 · rw[yg hb]at q
   by_cases hbe:b=e
   · have q':H b=some (.own x):=by
      rcases he with z|z
      · exact absurd (hbe.trans z) hb
      · rw[hbe];exact z
     rw[q]at q';cases q'
     obtain⟨v,hv⟩:=heo
     exact⟨v,by rw[hbe];exact hv⟩
   · refine(ok b u q).stay (λc v hc r=>k c v ?_ r) (λc r=>by rw[yg (nown c b r)];exact r) λc xs r=>by rw[yg (ntup c xs r)];exact r
     rcases hc with rfl|hc
     · exact hbe
     · rintro rfl
       rcases he with z|z
       · exact nown c b hc z
       · rw[hc]at z;cases z;exact hb rfl
end
structure Un(fs ex:List Addr)(H H':Hp)(h h':Heap):Prop where
 keep:∀b o,h.get? b=some o->H b=none->b ∉ fs->b ∉ ex->h'.get? b=some o
 slot:∀b o,h.get? b=some o->H b=none->b ∈ fs->b ∉ ex->∃sl,h'.get? b=some {o with slots:=sl}
 free:∀b o,h.get? b=some o->H b=none->b ∉ ex->H' b=none
 there:∀b o,h.get? b=some o->b ∉ ex->∃o',h'.get? b=some o'
 tups:∀b xs,H b=some (.tup xs)->H' b=some (.tup xs)
 frzs:∀b o u,H b=some (.frz o u)->H' b=some (.frz o u)
 tbls:∀b ps,H b=some (.tbl ps)->∃more,H' b=some (.tbl (ps++more))
section
variable{fs fs' ex ex':List Addr}{H H1 H2:Hp}{h h1 h2 h':Heap}{a x e:Addr}{o:HO}
theorem Un.any(u:Un fs ex H H1 h h1)(q:h.get? b=some ob)(n:H b=none)(hx:b ∉ ex):∃sl,h1.get? b=some {ob with slots:=sl}:=by
 by_cases hb:b ∈ fs
 · exact u.slot b ob q n hb hx
 · exact⟨ob.slots,u.keep b ob q n hb hx⟩
theorem Un.kept(k:∀b u,h.get? b=some u->h'.get? b=some u):Un fs ex H H h h':=
 ⟨λb ob q _ _ _=>k b ob q,λb ob q _ _ _=>⟨ob.slots,k b ob q⟩,λ_ _ _ n _=>n,λb ob q _=>⟨ob,k b ob q⟩,λ_ _ q=>q,λ_ _ _ q=>q,λ_ ps q=>⟨#[],by rw[q];simp⟩⟩
theorem Un.refl:Un fs ex H H h h:=Un.kept λ_ _ q=>q
theorem Un.laid(k:∀b u,h.get? b=some u->h'.get? b=some u)(hp:h.objs.size<=a)(hn:H a=none):Un fs ex H (upd H a o) h h' where
 keep:=λb u q _ _ _=>k b u q
 slot:=λb u q _ _ _=>⟨u.slots,k b u q⟩
 free:=λb u q n _=>by rw[yg (zzO (zzI (QyG q) hp))];exact n
 there:=λb u q _=>⟨u,k b u q⟩
 tups:=λb xs q=>by rw[yg (yI q hn)];exact q
 frzs:=λb u xs q=>by rw[yg (yI q hn)];exact q
 tbls:=λb ps q=>⟨#[],by rw[yg (yI q hn),q];simp⟩
theorem Un.write(mu:Mut (H x))(he:e=x\/H e=some (.own x))(k:∀b u,b≠e->h.get? b=some u->h'.get? b=some u)(heo:∃u,h'.get? e=some u):Un fs ex H (upd H x o) h h':=by
 have hx:∀b,H b=none->b≠x:=λb n z=>by subst z;rw[n]at mu;exact mu
 have hb:∀b,H b=none->b≠e:=λb n z=>by
  subst z
  rcases he with r|r
  · exact hx b n r
  · rw[n]at r;cases r
 have hm:∀b u,H b=some u->¬Mut (some u)->b≠x:=λb u q nm z=>by subst z;rw[q]at mu;exact nm mu
 refine⟨λb u q n _ _=>k b u (hb b n) q,λb u q n _ _=>⟨u.slots,k b u (hb b n) q⟩,λb u q n _=>by rw[yg (hx b n)];exact n,λb u q _=>?_,
  λb xs q=>by rw[yg (hm b _ q λz=>z)];exact q,λb u xs q=>by rw[yg (hm b _ q λz=>z)];exact q,λb ps q=>⟨#[],by rw[yg (hm b _ q λz=>z),q];simp⟩⟩
 by_cases hbe:b=e
 · subst hbe;exact heo
 · exact⟨u,k b u hbe q⟩
end
def trk(h:Heap)(H:Hp):List Addr:=(List.range h.objs.size).filter λa=>(H a).isSome
def zkI(h:Heap)(H:Hp):Heap:=PySem.W.hideAll h (trk h H)
theorem zpS(h:Heap)(H:Hp):(zkI h H).objs.size=h.objs.size:=PySem.W.hideAll_size _ _
theorem zrR(e:h.get? b=some o)(n:H b=none):(zkI h H).get? b=some o:=
 PySem.W.hideAll_get _ e λhm=>by
  have q:(H b).isSome=true:=(List.mem_filter.mp hm).2
  rw[n]at q;simp at q
theorem zuu(e:(zkI h H).get? b=some o):h.get? b=some o/\H b=none:=by
 have e':h.get? b=some o:=PySem.W.of_hideAll (trk h H) e
 refine⟨e', ?_⟩
 cases q:H b with
 |none=>rfl
 |some x=>
  have hm:b ∈ trk h H:=List.mem_filter.mpr ⟨List.mem_range.mpr (QyG e'),by simp[q]⟩
  have z:(zkI h H).get? b=none:=PySem.W.hideAll_none (trk h H) hm
  rw[z]at e;cases e
end L2
namespace L2
open PySem PySem.Spec PyProof.Rows
structure Mod(K:zD)(mg:Str->Option Value)(base:Heap):Prop where
 kin:K.In base
 glob:base.Ns mainGlobals mg
 blt:∃mb,base.Ns builtinsNs mb/\∀x:Str,x≠"__name__"->mb x=bootBuiltins x
 nolimit:base.NoLimit
structure Cx where
 prog:Program
 w:World
 K:zD
 mg:Str->Option Value
 base:Heap
 A:Around
 N:List Str
 s₀:Shared
 H₀:Hp
 env:Env
 outer:List Env
 stack:List Env
 ex:List Addr
 fn:Str->Bool
 calm:Bool
 pn:List (Addr×Obj)
 xe:Value->Shared->Prop
def frs(l:List Env):List Addr:=l.filterMap (·.frame)
abbrev Cx.fs(X:Cx):List Addr:=frs X.outer
def Vis(sc:Scope)(x:Str):Prop:=sc.names.lookup x=some .local\/sc.names.lookup x=some .cell\/sc.names.lookup x=some .free
def Loc(sc:Scope)(x:Str):Prop:=sc.names.lookup x=some .local\/sc.names.lookup x=some .cell
def Look(env:Env)(h:Heap)(m:Str->Option Value)(x:Str)(u:Value):Prop:=
 (env.kindOf x=some .local/\m x=some u)\/((env.kindOf x=some .cell\/env.kindOf x=some .free)/\∃c,env.cells.lookup x=some c/\h.IsCell c (some u))
structure Cx.Ok(X:Cx):Prop where
 mod:Mod X.K X.mg X.base
 kind:X.env.scope.kind = .function
 glob:X.env.globals=mainGlobals
 blt:X.env.builtins=builtinsNs
 above:X.s₀.heap.objs.size<=X.env.locals
 inj:∀x y c,X.env.cells.lookup x=some c->X.env.cells.lookup y=some c->x=y
 has:∀x,(X.env.kindOf x=some .cell\/X.env.kindOf x=some .free)->∃c,X.env.cells.lookup x=some c
 cab:∀x c,X.fn x=true->X.env.cells.lookup x=some c->X.s₀.heap.objs.size<=c
 hd:X.calm=true->X.A.handled=none
 frames:X.A.frames=some X.stack
 stk:X.stack=X.outer\/(X.stack=X.env::X.outer/\X.env.frame=some X.env.locals)
 exf:∀b ∈ X.ex,b≠X.env.locals/\∀x c,X.env.cells.lookup x=some c->c≠b
 bs:∀b o,X.base.get? b=some o->X.s₀.heap.get? b=some o/\X.H₀ b=none
 bsz:X.base.objs.size<=X.s₀.heap.objs.size
 noex:∀b o,X.base.get? b=some o->b ∉ X.ex
 exfs:∀b ∈ X.ex,b ∉ X.fs
 funs:X.s₀.heap.FunFrames X.base X.outer
 frf:∀b ∈ X.fs,X.H₀ b=none
structure Inv(X:Cx)(pins:List (Addr×Obj))(σ:List (Option V))(H:Hp)(s:Shared):Prop where
 ok:X.Ok
 os:s.os=X.s₀.os
 bare:AllBare s.gens
 base:Un X.fs X.ex X.H₀ H X.s₀.heap s.heap
 loc:∃m,s.heap.Ns X.env.locals m/\∀(i:Nat) (x:Str) (v:V),X.N[i]? = some x->σ[i]? = some (some v)->Vis X.env.scope x->∃u,RelV v u/\Look X.env s.heap m x u
 cell:∀x c,X.env.cells.lookup x=some c->∃v,s.heap.IsCell c v
 free:H X.env.locals=none
 freeC:∀x c,X.env.cells.lookup x=some c->H c=none
 pin:∀p ∈ X.pn++pins,s.heap.get? p.1=some p.2/\H p.1=none/\p.1≠X.env.locals/\p.1 ∉ X.fs/\∀v,p.2.data ≠ .cell v
 hok:HOk X.prog X.w H s.heap
 len:σ.length=X.N.length
section
variable{X:Cx}{pins:List (Addr×Obj)}{σ:List (Option V)}{H H':Hp}{s:Shared}{h':Heap}
theorem Cx.Ok.nofr(ok:X.Ok)(e:X.base.get? b=some o):b ∉ X.fs:=λhb=>by
 have:=(ok.funs.mem hb).1
 rw[e]at this;cases this
theorem Inv.bs(I:Inv X pins σ H s):∀b o,X.base.get? b=some o->s.heap.get? b=some o/\H b=none:=λb o e=>
 ⟨I.base.keep b o (I.ok.bs b o e).1 (I.ok.bs b o e).2 (I.ok.nofr e) (I.ok.noex b o e),I.base.free b o (I.ok.bs b o e).1 (I.ok.bs b o e).2 (I.ok.noex b o e)⟩
theorem Inv.bk(I:Inv X pins σ H s):∀b o,X.base.get? b=some o->s.heap.get? b=some o:=λb o e=>(I.bs b o e).1
theorem Inv.mod(I:Inv X pins σ H s):Mod X.K X.mg X.base:=I.ok.mod
theorem Inv.kIn(I:Inv X pins σ H s):X.K.In s.heap:=I.ok.mod.kin.keeps I.bk
theorem Inv.lt(I:Inv X pins σ H s):X.env.locals<s.heap.objs.size:=let⟨_,hn,_⟩:=I.loc;hn.lt
theorem Inv.sz(I:Inv X pins σ H s):X.s₀.heap.objs.size<=s.heap.objs.size:=zzM I.ok.above (Nat.le_of_lt I.lt)
theorem Inv.nofs(I:Inv X pins σ H s)(h:s.heap.objs.size<=a):a ∉ X.fs:=λhb=>by
 obtain⟨_,o,ho,_⟩:=I.ok.funs.mem hb
 exact absurd (zzI (QyG ho) (zzM I.sz h)) (Nat.lt_irrefl _)
theorem Inv.cne(I:Inv X pins σ H s):∀x c,X.env.cells.lookup x=some c->c≠X.env.locals:=λx c e z=>by
 obtain⟨v,o,ho,hd⟩:=I.cell x c e
 obtain⟨m,⟨o',es,ep,ho',hd',_⟩,_⟩:=I.loc
 rw[z,ho']at ho;cases ho;rw[hd']at hd;cases hd
theorem Inv.funs(I:Inv X pins σ H s):s.heap.FunFrames X.base X.outer:=by
 have all:∀(l:List Env),(∀b ∈ frs l,b ∈ X.fs)->X.s₀.heap.FunFrames X.base l->s.heap.FunFrames X.base l:=by
  intro l
  induction l with
  |nil=>intro _ _;trivial
  |cons env r ih=>
   intro hs hl
   obtain⟨hk,⟨L,o,hf,hn,ho,hd⟩,hr⟩:=hl
   have hL:L ∈ X.fs:=hs L (by unfold frs;rw[List.filterMap_cons,hf];exact zzD)
   obtain⟨sl,e⟩:=I.base.slot L o ho (I.ok.frf L hL) hL λz=>I.ok.exfs L z hL
   exact⟨hk,⟨L,_,hf,hn,e,hd⟩,ih (λb hb=>hs b (by unfold frs;rw[List.filterMap_cons,hf];exact zzB _ hb)) hr⟩
 exact all X.outer (λ_ hb=>hb) I.ok.funs
theorem Inv.stack(I:Inv X pins σ H s):s.heap.FunFrames X.base X.stack:=by
 rcases I.ok.stk with e|⟨e,hf⟩
 · rw[e];exact I.funs
 · rw[e]
   obtain⟨m,hn,_⟩:=I.loc
   refine .cons (by rw[I.ok.kind];decide) hf hn ?_ I.funs
   exact Heap.get?_none_of_le (zzM I.ok.bsz I.ok.above)
theorem Inv.stkSub(I:Inv X pins σ H s):∀b ∈ frs X.stack,b ∈ X.env.locals::X.fs:=λb hb=>by
 rcases I.ok.stk with e|⟨e,hf⟩
 · rw[e]at hb;exact zzB _ hb
 · rw[e]at hb
   unfold frs at hb
   rw[List.filterMap_cons,hf]at hb
   exact hb
theorem Inv.stkFree(I:Inv X pins σ H s):∀b ∈ frs X.stack,H b=none:=λb hb=>by
 rcases zzA.mp (I.stkSub b hb)with e|hb
 · rw[e];exact I.free
 · obtain⟨_,o,ho,_⟩:=I.ok.funs.mem hb
   exact I.base.free b o ho (I.ok.frf b hb) λz=>I.ok.exfs b z hb
theorem Inv.step{g':Array GenState}{t':Nat}{d':Drawn}{ch:List Addr}(I:Inv X pins σ H s)
 (hch:∀b ∈ ch,(b ∈ X.ex\/X.s₀.heap.objs.size<=b)/\b≠X.env.locals/\(∀x c,X.env.cells.lookup x=some c->c≠b)/\∀p ∈ X.pn++pins,p.1≠b)
 (keep:∀b o,b≠X.env.locals->b ∉ X.fs->b ∉ ch->s.heap.get? b=some o->H b=none->h'.get? b=some o)
 (slot:∀b o,b≠X.env.locals->b ∈ X.fs->b ∉ ch->s.heap.get? b=some o->H b=none->∃sl,h'.get? b=some {o with slots:=sl}) (free:∀b o,b ∉ ch->s.heap.get? b=some o->H b=none->H' b=none)
 (there:∀b o,b ∉ ch->s.heap.get? b=some o->∃o',h'.get? b=some o')
 (tups:∀b xs,H b=some (.tup xs)->H' b=some (.tup xs)) (frzs:∀b o u,H b=some (.frz o u)->H' b=some (.frz o u)) (tbls:∀b ps,H b=some (.tbl ps)->∃more,H' b=some (.tbl (ps++more)))
 (ns:∀m,s.heap.Ns X.env.locals m->h'.Ns X.env.locals m) (hok:HOk X.prog X.w H' h') (hg:AllBare g'):
 Inv X pins σ H' {s with heap:=h',gens:=g',drawn:=d',toks:=t'}:=by
 have neL:∀b o,X.s₀.heap.get? b=some o->b≠X.env.locals:=λb o e=>zzO (zzI (QyG e) I.ok.above)
 have neC:∀b o,X.s₀.heap.get? b=some o->b ∉ X.ex->b ∉ ch:=λb o e hx hb=>by
  rcases(hch b hb).1 with z|z
  · exact hx z
  · exact absurd (zzI (QyG e) z) (Nat.lt_irrefl _)
 have cellK:∀x c,X.env.cells.lookup x=some c->∀v,s.heap.IsCell c v->h'.IsCell c v:=λx c e v ⟨o,ho,hd⟩=>by
  have nch:c ∉ ch:=λz=>(hch c z).2.2.1 x c e rfl
  by_cases hc:c ∈ X.fs
  · obtain⟨sl,q⟩:=slot c o (I.cne x c e) hc nch ho (I.freeC x c e)
    exact⟨_,q,hd⟩
  · exact⟨o,keep c o (I.cne x c e) hc nch ho (I.freeC x c e),hd⟩
 refine⟨I.ok,I.os,hg,⟨λb o e n hb hx=>?_,λb o e n hb hx=>?_,λb o e n hx=>?_,λb o e hx=>?_,λb xs e=>tups b xs (I.base.tups b xs e),λb o xs e=>frzs b o xs (I.base.frzs b o xs e),λb ps e=>?_⟩, ?_,λx c e=>?_, ?_,λx c e=>?_,λp hp=>?_,hok,I.len⟩
 · exact keep b o (neL b o e) hb (neC b o e hx) (I.base.keep b o e n hb hx) (I.base.free b o e n hx)
 · obtain⟨sl,e1⟩:=I.base.slot b o e n hb hx
   obtain⟨sl',e2⟩:=slot b _ (neL b o e) hb (neC b o e hx) e1 (I.base.free b o e n hx)
   exact⟨sl',e2⟩
 · obtain⟨o',e1⟩:=I.base.there b o e hx
   exact free b o' (neC b o e hx) e1 (I.base.free b o e n hx)
 · obtain⟨o',e1⟩:=I.base.there b o e hx
   exact there b o' (neC b o e hx) e1
 · obtain⟨m1,e1⟩:=I.base.tbls b ps e
   obtain⟨m2,e2⟩:=tbls b _ e1
   exact⟨m1++m2,by rw[e2,Array.append_assoc]⟩
 · obtain⟨m,hn,hl⟩:=I.loc
   refine⟨m,ns m hn,λi x v e1 e2 e3=>?_⟩
   obtain⟨u,r,l⟩:=hl i x v e1 e2 e3
   refine⟨u,r, ?_⟩
   rcases l with l|⟨k,c,e,z⟩
   · exact .inl l
   · exact .inr ⟨k,c,e,cellK x c e _ z⟩
 · obtain⟨v,z⟩:=I.cell x c e
   exact⟨v,cellK x c e v z⟩
 · obtain⟨m,⟨o,_,_,ho,_⟩,_⟩:=I.loc
   exact free _ o (λz=>(hch _ z).2.1 rfl) ho I.free
 · obtain⟨v,o,ho,hd⟩:=I.cell x c e
   exact free c o (λz=>(hch c z).2.2.1 x c e rfl) ho (I.freeC x c e)
 · obtain⟨e,n,ne,nf,d⟩:=I.pin p hp
   have nch:p.1 ∉ ch:=λz=>(hch p.1 z).2.2.2 p hp rfl
   exact⟨keep p.1 p.2 ne nf nch e n,free p.1 p.2 nch e n,ne,nf,d⟩
theorem Inv.un{t':Nat}(I:Inv X pins σ H s)(u:Un X.fs [] H H' s.heap h')(hok:HOk X.prog X.w H' h'):Inv X pins σ H' {s with heap:=h',toks:=t'}:=by
 obtain⟨m,⟨o,es,ep,ho,r⟩,_⟩:=id I.loc
 obtain⟨sl,hL⟩:=u.any ho I.free (by simp)
 exact I.step (g':=s.gens) (d':=s.drawn) (ch:=[]) (λ_ z=>nomatch z) (λb o _ hb _ e n=>u.keep b o e n hb (by simp)) (λb o _ hb _ e n=>u.slot b o e n hb (by simp)) (λb o _ e n=>u.free b o e n (by simp)) (λb o _ e=>u.there b o e (by simp)) u.tups u.frzs u.tbls (λm' hm=>by
  obtain⟨o',es',ep',ho',r'⟩:=hm
  rw[ho]at ho';cases ho'
  exact⟨_,es',ep',hL,r'⟩) hok I.bare
theorem Inv.call{g':Array GenState}{t':Nat}{d':Drawn}{ch:List Addr}(I:Inv X pins σ H s)(u:Un (frs X.stack) ch H H' s.heap h')(hok:HOk X.prog X.w H' h')(hg:AllBare g')
 (hch:∀b ∈ ch,(b ∈ X.ex\/X.s₀.heap.objs.size<=b)/\b≠X.env.locals/\(∀x c,X.env.cells.lookup x=some c->c≠b)/\∀p ∈ X.pn++pins,p.1≠b):
 Inv X pins σ H' {s with heap:=h',gens:=g',drawn:=d',toks:=t'}:=by
 obtain⟨m,⟨o,es,ep,ho,r⟩,_⟩:=id I.loc
 obtain⟨sl,hL⟩:=u.any ho I.free λz=>(hch _ z).2.1 rfl
 exact I.step (ch:=ch) hch (λb o hL hb hc e n=>u.keep b o e n (λz=>(zzA.mp (I.stkSub b z)).elim hL hb) hc) (λb o _ _ hc e n=>u.any e n hc) (λb o hc e n=>u.free b o e n hc) (λb o hc e=>u.there b o e hc) u.tups u.frzs u.tbls (λm' hm=>by
  obtain⟨o',es',ep',ho',r'⟩:=hm
  rw[ho]at ho';cases ho'
  exact⟨_,es',ep',hL,r'⟩) hok hg
theorem Inv.turned{t':Nat}{it:Addr}(I:Inv X pins σ H s)(k:∀b o,b≠it->s.heap.get? b=some o->h'.get? b=some o)(hn:H it=none)(hL:it≠X.env.locals)
 (h1:it ∈ X.ex\/X.s₀.heap.objs.size<=it) (h2:∀x c,X.env.cells.lookup x=some c->c≠it) (h3:∀p ∈ X.pn++pins,p.1≠it):Inv X pins σ H {s with heap:=h',toks:=t'}:=by
 have nit:∀b u,H b=some u->b≠it:=λb u e z=>by rw[z,hn]at e;cases e
 refine I.step (g':=s.gens) (d':=s.drawn) (ch:=[it]) (λb hb=>?_) (λb o _ _ hc e _=>k b o (λz=>hc (by simp[z])) e) (λb o _ _ hc e _=>⟨o.slots,k b o (λz=>hc (by simp[z])) e⟩) (λ_ _ _ _ n=>n)
  (λb o hc e=>⟨o,k b o (λz=>hc (by simp[z])) e⟩) (λ_ _ e=>e) (λ_ _ _ e=>e) (λb ps e=>⟨#[],by rw[e];simp⟩) (λm hm=>?_) (λb u e=>?_) I.bare
 · have e:b=it:=by simpa using hb
   subst e
   exact⟨h1,hL,h2,h3⟩
 · obtain⟨o,es,ep,ho,r⟩:=hm
   exact⟨o,es,ep,k _ o (Ne.symm hL) ho,r⟩
 · refine(I.hok b u e).stay (λc v hc q=>k c v ?_ q) (λ_ q=>q) λ_ _ q=>q
   rcases hc with z|z
   · rw[z];exact nit b u e
   · exact nit c _ z
theorem Inv.tok(I:Inv X pins σ H s)(t:Nat):Inv X pins σ H {s with toks:=t}:=I.un (h':=s.heap) (t':=t) Un.refl I.hok
theorem Inv.kept(I:Inv X pins σ H s)(k:∀b u,s.heap.get? b=some u->h'.get? b=some u):Inv X pins σ H {s with heap:=h',toks:=t'}:=I.un (Un.kept k) (I.hok.kept k)
theorem Inv.laid(I:Inv X pins σ H s)(k:∀b u,s.heap.get? b=some u->h'.get? b=some u)(hp:s.heap.objs.size<=a)(new:Zj X.prog X.w (upd H a o) h' a o):
 Inv X pins σ (upd H a o) {s with heap:=h',toks:=t'}:=I.un (Un.laid k hp (I.hok.fresh hp)) (I.hok.laid k hp new)
theorem Inv.write(I:Inv X pins σ H s)(mu:Mut (H x))(he:e=x\/H e=some (.own x))(k:∀b u,b≠e->s.heap.get? b=some u->h'.get? b=some u)(heo:∃u,h'.get? e=some u)
 (new:Zj X.prog X.w (upd H x o) h' x o):Inv X pins σ (upd H x o) {s with heap:=h',toks:=t'}:=I.un (Un.write mu he k heo) (I.hok.write mu he k heo new)
theorem Inv.weak(I:Inv X pins σ H s)(hl:σ'.length=σ.length)(w:∀(i:Nat) v,σ'[i]? = some (some v)->σ[i]? = some (some v)):Inv X pins σ' H s:=
 ⟨I.ok,I.os,I.bare,I.base,let⟨m,hn,hl'⟩:=I.loc;⟨m,hn,λi x v e1 e2 e3=>hl' i x v e1 (w i v e2) e3⟩,I.cell,I.free,I.freeC,I.pin,I.hok,hl.trans I.len⟩
theorem Inv.pins_of(I:Inv X pins σ H s)(h:∀p ∈ pins',s.heap.get? p.1=some p.2/\H p.1=none/\p.1≠X.env.locals/\p.1 ∉ X.fs/\∀v,p.2.data ≠ .cell v):Inv X pins' σ H s:=
 ⟨I.ok,I.os,I.bare,I.base,I.loc,I.cell,I.free,I.freeC,λp hp=>(zzK.mp hp).elim (λz=>I.pin p (zzN _ z)) (h p),I.hok,I.len⟩
theorem zmc{N:List Str}(hN:N.Nodup){i j:Nat}{x:Str}(a:N[i]? = some x)(b:N[j]? = some x):i=j:=by
 obtain⟨h1,e1⟩:=zzE.mp a
 obtain⟨h2,e2⟩:=zzE.mp b
 exact(List.getElem_inj hN).mp (e1.trans e2.symm)
theorem zjz{M:Model}{A:Around}{E:Value->Shared->Prop}{i:Nat}{x:Str}{v:V}{u:Value}{Q:Unit->Shared->Prop}(I:Inv X pins σ H s)(hN:X.N.Nodup)(hi:X.N[i]? = some x)(hx:Loc X.env.scope x)(r:RelV v u)
 (h:∀s',Inv X pins (σ.set i (some v)) H s'->(∃a,Heap.SameBut a s.heap s'.heap/\(a=X.env.locals\/X.env.cells.lookup x=some a))->Q () s') (hf:X.fn x=true\/X.env.scope.names.lookup x=some .local:=by first|exact .inl rfl|exact .inr rfl|assumption):wpAny M A (storeName X.env x u) Q E s:=by
 obtain⟨m,hn,hl⟩:=id I.loc
 have hcls:(X.env.scope.kind == .class||(X.env.scope.kind == .module&&X.env.locals != X.env.globals))=false:=by rw[I.ok.kind];rfl
 have hiσ:i<σ.length:=by rw[I.len];exact(zzE.mp hi).1
 have cne:=I.cne
 have tracked:∀{a:Addr}{h':Heap},(∃o,s.heap.get? a=some o/\H a=none)->Heap.SameBut a s.heap h'->HOk X.prog X.w H h':=λ{a h'} ha hs b ob e=>by
  obtain⟨_,_,hfree⟩:=ha
  refine(I.hok b ob e).stay (λc w' hc q=>(hs.2 c ?_).trans q) (λ_ q=>q) λ_ _ q=>q
  rintro rfl
  rcases hc with rfl|hc
  · rw[hfree]at e;cases e
  · rw[hfree]at hc;cases hc
 rcases hx with hk|hk
 · refine wpAny_storeName_local hk hn (λh' hn' hs=>?_) hcls
   obtain⟨oL,_,_,hoL,_⟩:=id hn
   refine h _ ⟨I.ok,I.os,I.bare,⟨λb o e n hb hx=>?_,λb o e n hb hx=>?_,I.base.free,λb o e hx=>?_,I.base.tups,I.base.frzs,I.base.tbls⟩,⟨_,hn',λj y v' e1 e2 e3=>?_⟩,λy c e=>?_,I.free,I.freeC,λp hp=>?_,tracked ⟨oL,hoL,I.free⟩ hs,by simpa using I.len⟩ ⟨_,hs,.inl rfl⟩
   · exact(hs.2 b (zzO (zzI (QyG e) I.ok.above))).trans (I.base.keep b o e n hb hx)
   · obtain⟨sl,e1⟩:=I.base.slot b o e n hb hx
     exact⟨sl,(hs.2 b (zzO (zzI (QyG e) I.ok.above))).trans e1⟩
   · obtain⟨o',e1⟩:=I.base.there b o e hx
     exact⟨o',(hs.2 b (zzO (zzI (QyG e) I.ok.above))).trans e1⟩
   · by_cases hj:j=i
     · subst hj
       rw[hi]at e1;cases e1
       rw[QzI hiσ]at e2
       cases e2
       exact⟨u,r,.inl ⟨hk,by simp⟩⟩
     · rw[zzW (Ne.symm hj)]at e2
       obtain⟨u',r',q⟩:=hl j y v' e1 e2 e3
       refine⟨u',r', ?_⟩
       rcases q with⟨k,e⟩|⟨k,c,e,z⟩
       · refine .inl ⟨k, ?_⟩
         have:y≠x:=λe=>hj (zmc hN e1 (e ▸ hi))
         simp[this,e]
       · exact .inr ⟨k,c,e,z.sameBut hs (cne y c e)⟩
   · obtain⟨w',z⟩:=I.cell y c e
     exact⟨w',z.sameBut hs (cne y c e)⟩
   · obtain⟨e,n,ne,nf,d⟩:=I.pin p hp
     exact⟨(hs.2 p.1 ne).trans e,n,ne,nf,d⟩
 · have hfn:X.fn x=true:=by
    rcases hf with z|z
    · exact z
    · rw[z]at hk;cases hk
   obtain⟨c,hc⟩:=I.ok.has x (.inl hk)
   obtain⟨w',z⟩:=I.cell x c hc
   refine wpAny_storeName_cell I.ok.kind hk hc z (λh' hc' hs=>?_)
   obtain⟨oc,hoc,hocd⟩:=id z
   refine h {s with heap:=h'} ⟨I.ok,I.os,I.bare,⟨λb o e n hb hx=>?_,λb o e n hb hx=>?_,I.base.free,λb o e hx=>?_,I.base.tups,I.base.frzs,I.base.tbls⟩,⟨m,hn.sameBut hs (Ne.symm (cne x c hc)),λj y v' e1 e2 e3=>?_⟩,λy c' e=>?_,I.free,I.freeC,λp hp=>?_,tracked ⟨oc,hoc,I.freeC x c hc⟩ hs,by simpa using I.len⟩ ⟨c,hs,.inr hc⟩
   · exact(hs.2 b (zzO (zzI (QyG e) (I.ok.cab x c hfn hc)))).trans (I.base.keep b o e n hb hx)
   · obtain⟨sl,e1⟩:=I.base.slot b o e n hb hx
     exact⟨sl,(hs.2 b (zzO (zzI (QyG e) (I.ok.cab x c hfn hc)))).trans e1⟩
   · obtain⟨o',e1⟩:=I.base.there b o e hx
     exact⟨o',(hs.2 b (zzO (zzI (QyG e) (I.ok.cab x c hfn hc)))).trans e1⟩
   · by_cases hj:j=i
     · subst hj
       rw[hi]at e1;cases e1
       rw[QzI hiσ]at e2
       cases e2
       exact⟨u,r,.inr ⟨.inl hk,c,hc,hc'⟩⟩
     · rw[zzW (Ne.symm hj)]at e2
       obtain⟨u',r',q⟩:=hl j y v' e1 e2 e3
       refine⟨u',r', ?_⟩
       rcases q with q|⟨k,c',e,z'⟩
       · exact .inl q
       · refine .inr ⟨k,c',e,z'.sameBut hs ?_⟩
         rintro rfl
         exact hj (zmc hN e1 (I.ok.inj _ _ _ e hc ▸ hi))
   · by_cases hcc:c'=c
     · subst hcc;exact⟨_,hc'⟩
     · obtain⟨w2,z2⟩:=I.cell y c' e
       exact⟨w2,z2.sameBut hs hcc⟩
   · obtain⟨e,n,ne,nf,d⟩:=I.pin p hp
     refine⟨(hs.2 p.1 ?_).trans e,n,ne,nf,d⟩
     intro q
     rw[q,hoc]at e
     have q':oc=p.2:=zzX e
     exact d w' (by rw[<-q'];exact hocd)
theorem zlM(I:Inv X pins σ H s)(hN:X.N.Nodup)(hi:X.N[i]? = some x)(hx:Loc X.env.scope x)(r:RelV v u)
 (h:∀s',Inv X pins (σ.set i (some v)) H s'->Q () s') (hf:X.fn x=true\/X.env.scope.names.lookup x=some .local:=by first|exact .inl rfl|exact .inr rfl|assumption):wpAny M A (storeName X.env x u) Q E s:=
 zjz I hN hi hx r (λs' I' _=>h s' I') hf
theorem Inv.call'(I:Inv X pins σ H s)(ho:s'.os=s.os)(u:Un (frs X.stack) ch H H' s.heap s'.heap)(hok:HOk X.prog X.w H' s'.heap)(hg:AllBare s'.gens)
 (hch:∀b ∈ ch,(b ∈ X.ex\/X.s₀.heap.objs.size<=b)/\b≠X.env.locals/\(∀x c,X.env.cells.lookup x=some c->c≠b)/\∀p ∈ X.pn++pins,p.1≠b):Inv X pins σ H' s':=by
 obtain⟨h',g',d',t',o'⟩:=s'
 have e:o'=s.os:=ho
 subst e
 exact I.call (g':=g') (t':=t') (d':=d') u hok hg hch
end
abbrev XK:=Value->Option Addr->Hp->Prop
abbrev St:=List (Option V)
abbrev VK:=V->Hp->Prop
abbrev TE:=St->Hp->VK->Prop
abbrev TT:=St->Hp->(Bool->Hp->Prop)->Prop
abbrev TA:=St->Hp->(List V->Hp->Prop)->Prop
structure Ends where
 nx:St->Hp->Prop
 rt:VK
 bk:St->Hp->Prop:=λ_ _=>False
 ct:St->Hp->Prop:=λ_ _=>False
abbrev TS:=Ends->St->Hp->Prop
def EP(X:Cx)(pins:List (Addr×Obj))(σ:St)(Q:VK)(u:Value)(s':Shared):Prop:=∃v H',Inv X pins σ H' s'/\RelV v u/\Q v H'
def TP(X:Cx)(pins:List (Addr×Obj))(σ:St)(Q:Bool->Hp->Prop)(b:Bool)(s':Shared):Prop:=∃H',Inv X pins σ H' s'/\Q b H'
def AP(X:Cx)(pins:List (Addr×Obj))(σ:St)(Q:List V->Hp->Prop)(us:List Value)(s':Shared):Prop:=∃vs H',Inv X pins σ H' s'/\Vals vs us/\Q vs H'
def SP(X:Cx)(pins:List (Addr×Obj))(D:Ends)(f:Flow)(s':Shared):Prop:=
 match f with
 | .next=>∃σ' H',Inv X pins σ' H' s'/\D.nx σ' H'
 | .brk=>∃σ' H',Inv X pins σ' H' s'/\D.bk σ' H'
 | .cont=>∃σ' H',Inv X pins σ' H' s'/\D.ct σ' H'
 | .ret u=>∃v σ' H',Inv X pins σ' H' s'/\RelV v u/\D.rt v H'
def PE(X:Cx)(e:Expr)(t:TE):Prop:=
 ∀(pins:List (Addr×Obj)) (s:Shared) (σ:St) (H:Hp) (Q:VK),Inv X pins σ H s->t σ H Q->wpAny (model X.prog X.w) X.A (eval e X.env) (EP X pins σ Q) X.xe s
def PT(X:Cx)(e:Expr)(t:TT):Prop:=
 ∀(pins:List (Addr×Obj)) (s:Shared) (σ:St) (H:Hp) (Q:Bool->Hp->Prop),Inv X pins σ H s->t σ H Q->wpAny (model X.prog X.w) X.A (isTrue e X.env (eval e X.env)) (TP X pins σ Q) X.xe s
def PW(X:Cx)(e:Expr)(t:TT):Prop:=
 ∀(whole:Sem Value) (pins:List (Addr×Obj)) (s:Shared) (σ:St) (H:Hp) (Q:Bool->Hp->Prop),Inv X pins σ H s->t σ H Q->wpAny (model X.prog X.w) X.A (isTrue e X.env whole) (TP X pins σ Q) X.xe s
theorem PW.pt(h:PW X e t):PT X e t:=h _
def PA(X:Cx)(es:List Expr)(t:TA):Prop:=
 ∀(pos:Pos) (pins:List (Addr×Obj)) (s:Shared) (σ:St) (H:Hp) (Q:List V->Hp->Prop),Inv X pins σ H s->t σ H Q->wpAny (model X.prog X.w) X.A (spliced (backTo pos (starEach es X.env))) (AP X pins σ Q) X.xe s
def PS(X:Cx)(st:Stmt)(t:TS):Prop:=
 ∀(pins:List (Addr×Obj)) (s:Shared) (σ:St) (H:Hp) (D:Ends),Inv X pins σ H s->t D σ H->wpAny (model X.prog X.w) X.A (exec st X.env) (SP X pins D) X.xe s
def PSs(X:Cx)(st:List Stmt)(t:TS):Prop:=
 ∀(pins:List (Addr×Obj)) (s:Shared) (σ:St) (H:Hp) (D:Ends),Inv X pins σ H s->t D σ H->wpAny (model X.prog X.w) X.A (execs st X.env) (SP X pins D) X.xe s
theorem thn(h:wpAny M A t Q E s)(hQ:∀a s,Q a s->Q' a s):wpAny M A t Q' E s:=QyN h hQ λ_ _ x=>x
end L2
namespace L2
open PySem PySem.Spec PyProof.Rows
section
variable{X:Cx}
def ziA(i:Nat):TE:=λσ H Q=>∃v,σ[i]? = some (some v)/\Q v H
def tC(v:V):TE:=λ_ H Q=>Q v H
theorem zsb(hN:X.N[i]? = some x)(hv:Vis X.env.scope x)(hd:(x==("__debug__":Str))=false:=by decide)(hcd:(x==("__classdict__":Str))=false:=by decide):PE X (.Name x pos) (ziA i):=by
 intro pins s σ H Q I h
 obtain⟨v,e,h⟩:=h
 obtain⟨m,hn,hl⟩:=I.loc
 obtain⟨u,r,l⟩:=hl i x v hN e hv
 have fin:EP X pins σ Q u s:=⟨v,H,I,r,h⟩
 rcases l with⟨hk,hm⟩|⟨hk,c,hc,hcell⟩
 · exact wpAny_Name (wpAny_loadName_local I.ok.kind hk hn hm fin) hd
 · rcases hk with hk|hk
   · exact wpAny_Name (wpAny_loadName_cell I.ok.kind hk hc hcell fin) hd
   · exact wpAny_Name (wpAny_loadName_free I.ok.kind hk hc hcell fin hcd) hd
theorem zvf:PE X (.Constant (.int i) j pos) (tC (.int i)):=λ_ _ _ H _ I h=>wpAny_Constant_int ⟨.int i,H,I.tok _,⟨_,rfl⟩,h⟩
theorem zxR:PE X (.Constant (.bool b) j pos) (tC (.bl b)):=λ_ _ _ H _ I h=>Constant_bool ⟨.bl b,H,I,rfl,h⟩
theorem zvu:PE X (.Constant .none j pos) (tC .non):=λ_ _ _ H _ I h=>Constant_none ⟨.non,H,I,rfl,h⟩
theorem zwa:PE X (.Constant (.str x) j pos) (tC (.str x)):=λ_ _ _ H _ I h=>Calls.Constant_str ⟨.str x,H,I.tok _,⟨_,rfl⟩,h⟩
def Gl(X:Cx)(x:Str):Prop:=X.env.kindOf x=some .globalImplicit
theorem zoB(I:Inv X pins σ H s)(hg:Gl X x)(hm:X.mg x=some u)(h:Q u s)
 (hd:(x==("__debug__":Str))=false:=by decide):wpAny (model X.prog X.w) X.A (eval (.Name x pos) X.env) Q E s:=
 Calls.Name_function_global I.ok.kind hg (Calls.loadGlobal_global (by rw[I.ok.glob];exact I.mod.glob.keeps I.bk) hm h) hd
theorem zbO(I:Inv X pins σ H s)(hg:Gl X x)(hm:X.mg x=none)(hv:bootBuiltins x=some u)(h:Q u s)
 (hn:x≠"__name__":=by decide) (hd:(x==("__debug__":Str))=false:=by decide):wpAny (model X.prog X.w) X.A (eval (.Name x pos) X.env) Q E s:=by
 obtain⟨mb,h1,h2⟩:=I.mod.blt
 exact Calls.Name_function_global I.ok.kind hg (Calls.loadGlobal_builtin (by rw[I.ok.glob];exact I.mod.glob.keeps I.bk) hm (by rw[I.ok.blt];exact h1.keeps I.bk) ((h2 x hn).trans hv) h) hd
theorem zsA(hg:Gl X x)(hm:X.mg x=none)(hv:bootBuiltins x=some u)(r:RelV v u)(hn:x≠"__name__":=by decide)(hd:(x==("__debug__":Str))=false:=by decide):PE X (.Name x pos) (tC v):=
 λ_ _ _ H _ I h=>zbO I hg hm hv ⟨v,H,I,r,h⟩ hn hd
variable{a b:Expr}{ta tb:TE}{pos:Pos}
variable{tA tB':TT}{rest:List Expr}
def zyX(t u:TT):TT:=λσ H Q=>t σ H λc H1=>if c=true then u σ H1 Q else Q false H1
def tOr(t u:TT):TT:=λσ H Q=>t σ H λc H1=>if c=true then Q true H1 else u σ H1 Q
def zyH(t:TT):TT:=λσ H Q=>t σ H λc H1=>Q (!c) H1
theorem ztb(ha:PT X a tA):PW X (.BoolOp .And [a] pos) tA:=by
 intro wh pins s σ H Q I h
 refine isTrue_and (thn (ha pins s σ H Q I h) λc s1 e=>?_)
 cases c with
 |true=>exact isTrue_and_nil e
 |false=>exact e
theorem zwR(ha:PT X a tA):PW X (.BoolOp .Or [a] pos) tA:=by
 intro wh pins s σ H Q I h
 refine isTrue_or (thn (ha pins s σ H Q I h) λc s1 e=>?_)
 cases c with
 |false=>exact isTrue_or_nil e
 |true=>exact e
theorem zxa(ha:PT X a tA)(hb:PW X (.BoolOp .And (b::rest) pos) tB'):PW X (.BoolOp .And (a::b::rest) pos) (zyX tA tB'):=by
 intro wh pins s σ H Q I h
 refine isTrue_and (thn (ha pins s σ H _ I h) λc s1 ⟨H1,I1,q1⟩=>?_)
 cases c with
 |true=>exact hb wh pins s1 σ H1 Q I1 q1
 |false=>exact⟨H1,I1,q1⟩
theorem zyk(ha:PT X a tA)(hb:PW X (.BoolOp .Or (b::rest) pos) tB'):PW X (.BoolOp .Or (a::b::rest) pos) (tOr tA tB'):=by
 intro wh pins s σ H Q I h
 refine isTrue_or (thn (ha pins s σ H _ I h) λc s1 ⟨H1,I1,q1⟩=>?_)
 cases c with
 |true=>exact⟨H1,I1,q1⟩
 |false=>exact hb wh pins s1 σ H1 Q I1 q1
theorem zxc(ha:PT X a tA):PT X (.UnaryOp .Not a pos) (zyH tA):=by
 intro pins s σ H Q I h
 exact isTrue_not (ha pins s σ H (λc H1=>Q (!c) H1) I h)
def zyn(ta tb:TE):TE:=λσ H Q=>ta σ H λx H1=>∃c,x = .bl c/\if c=true then tb σ H1 Q else Q (.bl false) H1
def zxD(ta:TE):TE:=λσ H Q=>ta σ H λx H1=>∃c,x = .bl c/\Q (.bl (!c)) H1
theorem zve(h:PE X a t):PE X (.BoolOp op [a] pos) t:=λpins s σ H Q I hw=>BoolOp_one (h pins s σ H Q I hw)
theorem zwk(ha:PE X a ta)(hb:PE X (.BoolOp .And (b::rest) pos) tb):PE X (.BoolOp .And (a::b::rest) pos) (zyn ta tb):=by
 intro pins s σ H Q I h
 refine BoolOp_and (thn (ha pins s σ H _ I h) λv s1 ⟨x,H1,I1,r1,q1⟩=>?_)
 obtain⟨c,rfl,q1⟩:=q1
 cases r1
 refine wpAny_truthy_bool ?_
 cases c with
 |true=>exact hb pins s1 σ H1 Q I1 q1
 |false=>exact⟨.bl false,H1,I1,rfl,q1⟩
theorem zvw(ha:PE X a ta):PE X (.UnaryOp .Not a pos) (zxD ta):=by
 intro pins s σ H Q I h
 refine UnaryOp_ (thn (ha pins s σ H _ I h) λv s1 ⟨x,H1,I1,r1,q1⟩=>?_)
 obtain⟨c,rfl,q1⟩:=q1
 cases r1
 exact not_of (wpAny_truthy_bool ⟨.bl (!c),H1,I1,rfl,q1⟩)
def tIf(t:TT)(ta tb:TE):TE:=λσ H Q=>t σ H λc H1=>if c=true then ta σ H1 Q else tb σ H1 Q
theorem zrC(hc:PT X c tA)(ha:PE X a ta)(hb:PE X b tb):PE X (.IfExp c a b pos) (tIf tA ta tb):=by
 intro pins s σ H Q I h
 refine wpAny_IfExp (thn (hc pins s σ H _ I h) λd s1 ⟨H1,I1,q1⟩=>?_)
 cases d with
 |true=>exact ha pins s1 σ H1 Q I1 q1
 |false=>exact hb pins s1 σ H1 Q I1 q1
end
end L2
namespace L2
open PySem PySem.Spec PyProof.Rows
def SqL(K:zD)(H:Hp)(a:Addr)(xs:List V):Prop:=
 Rd H a (.lst xs) \/
  ∃(o:Obj) (its:Array Value) (n:Nat),K.lookup a=some o/\o.cls = .type "list"/\o.dict=none/\o.data = .seq its n/\its.size<=sizeLine/\Vals xs its.toList
def RdL(K:zD)(H:Hp)(a:Addr)(xs:List V):Prop:=
 Rd H a (.lst xs)\/∃(its:Array Value) (n:Nat),K.lookup a=some {cls:=.type "list",data:=.seq its n}/\its.size<=sizeLine/\Vals xs its.toList
def SqT(K:zD)(H:Hp)(a:Addr)(xs:List V):Prop:=
 Rd H a (.tup xs) \/
  ∃(o:Obj) (its:Array Value) (n:Nat),K.lookup a=some o/\o.cls = .type "tuple"/\o.data = .seq its n/\its.size<=sizeLine/\Vals xs its.toList
def zzi:Value->Option V
 | .none=>some .non
 | .bool b=>some (.bl b)
 | .int i _=>some (.int i)
 | .str x _=>some (.str x)
 | .bytes b _=>some (.byt b)
 | .float b _=>some (.flt b)
 | .ref a=>some (.ref a)
 | .type n=>some (.ty n)
 |_=>none
theorem RelV.abs(r:RelV x u):zzi u=some x:=by
 cases x with
 |non=>cases r;rfl
 |bl _=>cases r;rfl
 |int _=>obtain⟨t,rfl⟩:=r;rfl
 |str _=>obtain⟨t,rfl⟩:=r;rfl
 |byt _=>obtain⟨t,rfl⟩:=r;rfl
 |flt _=>obtain⟨t,rfl⟩:=r;rfl
 |ref _=>cases r;rfl
 |ty _=>cases r;rfl
theorem RelV.inj(r:RelV x u)(q:RelV y u):x=y:=zzX (r.abs.symm.trans q.abs)
theorem Vals.inj:∀{xs ys:List V}{us:List Value},Vals xs us->Vals ys us->xs=ys
 |_,_,_,.nil,.nil=>rfl
 |_,_,_,.cons r t,.cons r' t'=>by rw[r.inj r',Vals.inj t t']
section
variable{X:Cx}{pins:List (Addr×Obj)}{σ:St}{H:Hp}{s:Shared}{a:Addr}{xs ys:List V}
theorem Inv.list(I:Inv X pins σ H s)(h:SqL X.K H a xs):∃its:List Value,Vals xs its/\PlainL s.heap a its.toArray/\xs.length<=sizeLine:=by
 rcases h with h|⟨o,its,n,hk,hc,hd,hs,hz,r⟩
 · obtain⟨z,its,n,r,e⟩:=h.ok I.hok
   exact⟨its,r,⟨_,n,e,rfl,rfl,rfl⟩,z⟩
 · refine⟨its.toList,r,⟨o,n,I.kIn a o hk,hc,hd,by simpa using hs⟩, ?_⟩
   have e:=r.length
   simp only[QzR]at e
   omega
theorem Inv.tuple(I:Inv X pins σ H s)(h:SqT X.K H a xs):∃its:List Value,Vals xs its/\IsTup s.heap a its.toArray/\xs.length<=sizeLine:=by
 rcases h with h|⟨o,its,n,hk,hc,hs,hz,r⟩
 · obtain⟨z,its,r,p⟩:=h.ok I.hok
   exact⟨its,r,p,z⟩
 · refine⟨its.toList,r,⟨o,I.kIn a o hk,hc,n,by simpa using hs⟩, ?_⟩
   have e:=r.length
   simp only[QzR]at e
   omega
theorem Inv.list_inj(I:Inv X pins σ H s)(h:SqL X.K H a xs)(h':SqL X.K H a ys):xs=ys:=by
 obtain⟨its,r,⟨o,n,e,_,_,d⟩,_⟩:=I.list h
 obtain⟨its',r',⟨o',n',e',_,_,d'⟩,_⟩:=I.list h'
 rw[e]at e';cases e'
 rw[d]at d'
 injection d' with d1 _
 have:its=its':=by simpa using congrArg Array.toList d1
 subst this
 exact r.inj r'
theorem Inv.tuple_inj(I:Inv X pins σ H s)(h:SqT X.K H a xs)(h':SqT X.K H a ys):xs=ys:=by
 obtain⟨its,r,⟨o,e,_,n,d⟩,_⟩:=I.tuple h
 obtain⟨its',r',⟨o',e',_,n',d'⟩,_⟩:=I.tuple h'
 rw[e]at e';cases e'
 rw[d]at d'
 injection d' with d1 _
 have:its=its':=by simpa using congrArg Array.toList d1
 subst this
 exact r.inj r'
end
abbrev Cx.wish(X:Cx)(E:Value->Shared->Prop):Cx:={X with xe:=E}
abbrev Cx.nox(X:Cx):Cx:=X.wish λ_ _=>False
theorem Cx.Ok.wish{X:Cx}(ok:X.Ok)(E:Value->Shared->Prop):(X.wish E).Ok:=
 ⟨ok.mod,ok.kind,ok.glob,ok.blt,ok.above,ok.inj,ok.has,ok.cab,ok.hd,ok.frames,ok.stk,ok.exf,ok.bs,ok.bsz,ok.noex,ok.exfs,ok.funs,ok.frf⟩
theorem Cx.Ok.unwish{X:Cx}{E:Value->Shared->Prop}(ok:(X.wish E).Ok):X.Ok:=
 ⟨ok.mod,ok.kind,ok.glob,ok.blt,ok.above,ok.inj,ok.has,ok.cab,ok.hd,ok.frames,ok.stk,ok.exf,ok.bs,ok.bsz,ok.noex,ok.exfs,ok.funs,ok.frf⟩
section
variable{X:Cx}{pins:List (Addr×Obj)}{σ:St}{H:Hp}{s:Shared}{E:Value->Shared->Prop}
theorem Inv.wish(I:Inv X pins σ H s)(E:Value->Shared->Prop):Inv (X.wish E) pins σ H s:=⟨I.ok.wish E,I.os,I.bare,I.base,I.loc,I.cell,I.free,I.freeC,I.pin,I.hok,I.len⟩
theorem Inv.unwish(I:Inv (X.wish E) pins σ H s):Inv X pins σ H s:=⟨I.ok.unwish,I.os,I.bare,I.base,I.loc,I.cell,I.free,I.freeC,I.pin,I.hok,I.len⟩
theorem SP.unwish(h:SP (X.wish E) pins D f s'):SP X pins D f s':=by
 cases f with
 |next=>obtain⟨σ',H',I,q⟩:=h;exact⟨σ',H',I.unwish,q⟩
 |brk=>obtain⟨σ',H',I,q⟩:=h;exact⟨σ',H',I.unwish,q⟩
 |cont=>obtain⟨σ',H',I,q⟩:=h;exact⟨σ',H',I.unwish,q⟩
 |ret u=>obtain⟨v,σ',H',I,r,q⟩:=h;exact⟨v,σ',H',I.unwish,r,q⟩
theorem PSs.nox{st:List Stmt}{t:TS}(h:PSs X.nox st t):PSs X st t:=λpins s σ H D I hw=>
 QyN (h pins s σ H D (I.wish _) hw) (λ_ _ q=>q.unwish) λ_ _ z=>False.elim z
end
section
variable{X:Cx}{st:Stmt}{rest:List Stmt}{t u:TS}{e:Expr}{te:TE}{pos:Pos}
def zxU:TS:=λD σ H=>D.nx σ H
def zyG(t u:TS):TS:=λD σ H=>t {D with nx:=u D} σ H
theorem zoR:PSs X [] zxU:=λ_ _ σ H _ I h=>wpAny_execs_nil ⟨σ,H,I,h⟩
theorem zbL(h1:PS X st t)(h2:PSs X rest u):PSs X (st::rest) (zyG t u):=by
 intro pins s σ H D I h
 refine wpAny_execs_cons (thn (h1 pins s σ H {D with nx:=u D} I h) λf s1 q=>?_)
 cases f with
 |next=>
  obtain⟨σ',H',I',q⟩:=q
  exact h2 pins s1 σ' H' D I' q
 |ret v=>exact q
 |brk=>exact q
 |cont=>exact q
theorem zgo(h1:PS X st t):PSs X [st] t:=by
 intro pins s σ H D I h
 refine wpAny_execs_cons (thn (h1 pins s σ H D I h) λf s1 q=>?_)
 cases f with
 |next=>exact wpAny_execs_nil q
 |ret v=>exact q
 |brk=>exact q
 |cont=>exact q
theorem Inv.quiet(I:Inv X pins σ H s):interactive X.env=false:=by simp[interactive,I.ok.kind]
def zxs(te:TE):TS:=λD σ H=>te σ H λ_ H1=>D.nx σ H1
theorem zgm(he:PE X e te)(hs:swapsWith e none pos.line X.env=pure false:=by rfl):PS X (.Expr e pos) (zxs te):=by
 intro pins s σ H D I h
 exact wpAny_Expr_any (thn (he pins s σ H _ I h) λv s1 ⟨x,H1,I1,r1,q1⟩=>⟨σ,H1,I1,q1⟩) I.quiet hs
def zzg(te:TE):TS:=λD σ H=>te σ H D.rt
theorem zwr(he:PE X e te):PS X (.Return (some e) pos) (zzg te):=by
 intro pins s σ H D I h
 exact wpAny_Return_some (thn (he pins s σ H _ I h) λv s1 ⟨x,H1,I1,r1,q1⟩=>⟨x,σ,H1,I1,r1,q1⟩)
def zxO:TS:=λD _ H=>D.rt .non H
theorem ztT:PS X (.Return none pos) zxO:=λ_ _ σ H _ I h=>wpAny_Return_none ⟨.non,σ,H,I,rfl,h⟩
def zyA(c:TT)(t u:TS):TS:=λD σ H=>c σ H λb H1=>if b=true then t D σ H1 else u D σ H1
theorem zuW(hc:PT X c tc)(ha:PSs X a t)(hb:PSs X b u):PS X (.If c a b pos) (zyA tc t u):=by
 intro pins s σ H D I h
 refine wpAny_If (thn (hc pins s σ H _ I h) λd s1 ⟨H1,I1,q1⟩=>?_)
 cases d with
 |true=>exact ha pins s1 σ H1 D I1 q1
 |false=>exact hb pins s1 σ H1 D I1 q1
end
abbrev TG:=V->St->Hp->(St->Hp->Prop)->Prop
abbrev TGs:=List V->St->Hp->(St->Hp->Prop)->Prop
def PG(X:Cx)(target:Expr)(t:TG):Prop:=
 ∀(pins:List (Addr×Obj)) (s:Shared) (σ:St) (H:Hp) (v:V) (u:Value) (Q:St->Hp->Prop),Inv X pins σ H s->RelV v u->t v σ H Q->
  wpAny (model X.prog X.w) X.A (assign target X.env u) (λ_ s'=>∃σ' H',Inv X pins σ' H' s'/\Q σ' H') X.xe s
def PGs(X:Cx)(ts:List Expr)(t:TGs):Prop:=
 ∀(pins:List (Addr×Obj)) (s:Shared) (σ:St) (H:Hp) (vs:List V) (us:List Value) (Q:St->Hp->Prop),Inv X pins σ H s->Vals vs us->t vs σ H Q->
  wpAny (model X.prog X.w) X.A (assignInOrder ((assignEach ts X.env).map (·.2)) us) (λ_ s'=>∃σ' H',Inv X pins σ' H' s'/\Q σ' H') X.xe s
abbrev zyr:=V->V->V->Hp->(Hp->Prop)->Prop
def zyo(X:Cx)(t:zyr):Prop:=
 ∀(pins:List (Addr×Obj)) (s:Shared) (σ:St) (H:Hp) (o i v:V) (ov iv u:Value) (Q:Hp->Prop),Inv X pins σ H s->RelV o ov->RelV i iv->RelV v u->t o i v H Q->
  wpAny (model X.prog X.w) X.A (setItem ov iv u) (λ_ s'=>∃H',Inv X pins σ H' s'/\Q H') X.xe s
section
variable{X:Cx}{pos:Pos}
def zlF(i:Nat):TG:=λv σ H Q=>Q (σ.set i (some v)) H
theorem zsZ(hN:X.N.Nodup)(hi:X.N[i]? = some x)(hx:Loc X.env.scope x)(hf:X.fn x=true\/X.env.scope.names.lookup x=some .local:=by first|exact .inl rfl|exact .inr rfl|assumption):PG X (.Name x pos) (zlF i):=by
 intro pins s σ H v u Q I r h
 exact wpAny_assign_Name (zlM I hN hi hx r (λs' I'=>⟨_,H,I',h⟩) hf)
def zzm:TGs:=λvs σ H Q=>vs=[]/\Q σ H
def zxk(t:TG)(u:TGs):TGs:=λvs σ H Q=>∃v r,vs=v::r/\t v σ H λσ' H'=>u r σ' H' Q
theorem zsR:PGs X [] zzm:=by
 intro pins s σ H vs us Q I r h
 obtain⟨e,h⟩:=h
 subst e
 cases r
 exact assignInOrder_nil ⟨σ,H,I,h⟩
theorem zri(h1:PG X e t)(h2:PGs X es u)
 (hs:(assignEach (e::es) X.env).map (·.2)=assign e X.env::(assignEach es X.env).map (·.2):=by rfl):PGs X (e::es) (zxk t u):=by
 intro pins s σ H vs us Q I r h
 obtain⟨v,vr,e1,h⟩:=h
 subst e1
 cases r with
 |cons r rr=>
  rw[hs]
  refine assignInOrder_cons (thn (h1 pins s σ H _ _ _ I r h) λ_ s1 ⟨σ1,H1,I1,q1⟩=>?_)
  exact h2 pins s1 σ1 H1 _ _ Q I1 rr q1
def zzh(K:zD)(n:Nat)(t:TGs):TG:=λv σ H Q=>∃a xs,v = .ref a/\SqT K H a xs/\xs.length=n/\t xs σ H Q
theorem zwG(hc:X.calm=true)(h:PGs X es t)
 (hn:(assignEach es X.env).length=n:=by rfl) (hst:(assignEach es X.env).findIdx? (·.1)=none:=by rfl):PG X (.Tuple es k pos) (zzh X.K n t):=by
 intro pins s σ H v u Q I r hw
 obtain⟨a,xs,e1,hq,hl,hw⟩:=hw
 subst e1
 cases r
 obtain⟨its,rv,ht,hz⟩:=I.tuple hq
 refine assign_Tuple_tuple (I.ok.hd hc) ht (by simp[hn,<-hl,rv.length]) hst λh' hx=>?_
 have I1:Inv X pins σ H {s with heap:=h'}:=I.kept (t':=s.toks) λb o e=>hx b o (zzO (QyG e)) e
 exact h pins _ σ H xs _ Q I1 (by simpa using rv) hw
def zzn(to ti:TE)(t:zyr):TG:=λv σ H Q=>to σ H λo H1=>ti σ H1 λi H2=>t o i v H2 λH3=>Q σ H3
theorem zpV(ho:PE X o to)(hi:PE X i ti)(hs:zyo X t)
 (ha:∀v,assign (.Subscript o i pos) X.env v=(do
  let ov <-holding [v] (eval o X.env)
  let iv <-holding [v,ov] (eval i X.env)
  standAt pos
  holding [v,ov,iv] (setItem ov iv v)
  release [v,ov,iv] []):=by intro _;rfl):PG X (.Subscript o i pos) (zzn to ti t):=by
 intro pins s σ H v u Q I r h
 rw[ha]
 refine QyD (QyK (thn (ho pins s σ H _ I h) λov s1 ⟨x,H1,I1,r1,q1⟩=>?_))
 refine QyD (QyK (thn (hi pins s1 σ H1 _ I1 q1) λiv s2 ⟨y,H2,I2,r2,q2⟩=>?_))
 refine QyD (wpAny_standAt (QyD (QyK (thn (hs pins s2 σ H2 x y v ov iv u _ I2 r1 r2 r q2) λ_ s3 ⟨H3,I3,q3⟩=>?_))))
 exact wpAny_release ⟨σ,H3,I3,q3⟩
def zwb(te:TE)(g:TG):TS:=λD σ H=>te σ H λx H1=>g x σ H1 D.nx
theorem znM(he:PE X e te)(hg:PG X tg g)(hs:swapsWithSole [tg] e pos.line X.env=pure false:=by rfl)(hw:swappedStores [tg] e X.env=pure none:=by rfl)
 (h1:(assignEach [tg] X.env).map (·.2)=[assign tg X.env]:=by rfl):PS X (.Assign [tg] e pos) (zwb te g):=by
 intro pins s σ H D I h
 refine wpAny_Assign_stores (thn (he pins s σ H _ I h) λv s1 ⟨x,H1,I1,r1,q1⟩=>?_) hs hw
 rw[h1]
 exact thn (hg pins s1 σ H1 x v _ I1 r1 q1) λ_ s2 q=>q
theorem zrp(hN:X.N.Nodup)(hi:X.N[i]? = some x)(hx:Loc X.env.scope x)(he:PE X e te)(hs:swapsWith e (some (.Name x pos')) pos.line X.env=pure false:=by rfl)(hf:X.fn x=true\/X.env.scope.names.lookup x=some .local:=by first|exact .inl rfl|exact .inr rfl|assumption):
 PS X (.Assign [.Name x pos'] e pos) (zwb te (zlF i)):=by
 intro pins s σ H D I h
 refine wpAny_Assign_Name (thn (he pins s σ H _ I h) λv s1 ⟨y,H1,I1,r1,q1⟩=>?_) hs
 exact zlM I1 hN hi hx r1 (λs2 I2=>⟨_,H1,I2,q1⟩) hf
end
structure It where
 go:Nat->Hp->Prop
 yld:Nat->Hp->V->Hp->Prop
 stop:Nat->Hp->Prop
def zgk(X:Cx)(pins:List (Addr×Obj))(H:Hp)(b:Addr):Prop:=
 H b=none/\b≠X.env.locals/\b ∉ X.fs/\(b ∈ X.ex\/X.s₀.heap.objs.size<=b)/\(∀x c,X.env.cells.lookup x=some c->c≠b)/\∀p ∈ X.pn++pins,p.1≠b
theorem Inv.fpOk(I:Inv X pins σ H s)(hb:s.heap.objs.size<=b)(hn:H' b=none):zgk X pins H' b:=by
 refine⟨hn,Nat.ne_of_gt (zzI I.lt hb),I.nofs hb,.inr (zzM I.sz hb),λx c e z=>?_,λp hp z=>?_⟩
 · obtain⟨v,q⟩:=I.cell x c e
   exact absurd (zzI q.lt (by rw[z];exact hb)) (Nat.lt_irrefl _)
 · exact absurd (zzI (QyG (I.pin p hp).1) (by rw[z];exact hb)) (Nat.lt_irrefl _)
structure Turn(P:Program)(w:World)(K:zD)(tg:Expr)(J:It)(fp:List Addr)(it:Addr)(tn:Nat->Heap->Prop):Prop where
 mem:it ∈ fp
 obj:∀i h,tn i h->∀b ∈ fp,∃o,h.get? b=some o/\∀v,o.data ≠ .cell v
 keep:∀i h h',tn i h->(∀b ∈ fp,∀o,h.get? b=some o->h'.get? b=some o)->tn i h'
 item:∀(X:Cx),X.prog=P->X.w=w->X.K=K->X.calm=true->∀(i:Nat) (pins:List (Addr×Obj)) (s:Shared) (σ:St) (H:Hp) (E:Value->Shared->Prop),Inv X pins σ H s->(∀b ∈ fp,zgk X pins H b)->tn i s.heap->J.go i H->
  wpAny (model P w) X.A (pyNext (.ref it)) (λr s1=>∃u,r=some u/\
   wpAny (model P w) X.A (letOwnedTupleGo tg (.ref it) u) (λ_ s2=>∃x H',Inv X pins σ H' s2/\RelV x u/\J.yld i H x H'/\tn (i+1) s2.heap/\∀b ∈ fp,H' b=none) E s1) E s
 done:∀(X:Cx),X.prog=P->X.w=w->X.K=K->X.calm=true->∀(i:Nat) (pins:List (Addr×Obj)) (s:Shared) (σ:St) (H:Hp) (E:Value->Shared->Prop),Inv X pins σ H s->(∀b ∈ fp,zgk X pins H b)->tn i s.heap->J.stop i H->
  wpAny (model P w) X.A (pyNext (.ref it)) (λr s1=>r=none/\Inv X pins σ H s1) E s
 self:∀(A:Around) (i:Nat) (s:Shared) (Q:Value->Shared->Prop) (E:Value->Shared->Prop),tn i s.heap->Q (.ref it) s->wpAny (model P w) A (pyIter (.ref it)) Q E s
abbrev TI:=St->Hp->(It->Hp->Prop)->Prop
def PIE(X:Cx)(pins:List (Addr×Obj))(σ:St)(tg:Expr)(R:It->Hp->Prop)(itv:Value)(s2:Shared):Prop:=
 ∃(it:Addr) (fp:List Addr) (tn:Nat->Heap->Prop) (J:It) (H':Hp),itv = .ref it/\Inv X pins σ H' s2/\Turn X.prog X.w X.K tg J fp it tn/\tn 0 s2.heap/\(∀b ∈ fp,zgk X pins H' b)/\R J H'
def PI(X:Cx)(tg iter:Expr)(wi:TI):Prop:=
 ∀(pins:List (Addr×Obj)) (s:Shared) (σ:St) (H:Hp) (R:It->Hp->Prop),Inv X pins σ H s->wi σ H R->
  wpAny (model X.prog X.w) X.A (eval iter X.env) (λv s1=>wpAny (model X.prog X.w) X.A (pyIter v) (PIE X pins σ tg R) X.xe s1) X.xe s
theorem zrG(ho:s.heap.get? it=some o)(hc:o.cls = .type n)(hd:o.data = .fields vs)
 (hn : ["enumerate","zip","dict_itemiterator","dict_reverseitemiterator","odict_iterator","itertools.zip_longest","itertools.pairwise"].contains n=false) (hQ:Q () s):wpAny M A (letOwnedTupleGo tg (.ref it) u) Q E s:=by
 unfold letOwnedTupleGo
 cases tg<;>first
  |exact QyE hQ
  |(cases u<;>first
   |exact QyE hQ
   | (refine QyD (wpAny_load ho ?_)
      rw[hc,hd]
      show wpAny M A (if(["enumerate","zip","dict_itemiterator","dict_reverseitemiterator","odict_iterator","itertools.zip_longest","itertools.pairwise"].contains n&&vs[0]? == some (rawInt _))=true then _ else _) Q E s
      rw[if_neg (by intro h;rw[hn,Bool.false_and]at h;cases h)]
      exact QyE hQ))
def Itl(K:zD)(a:Addr):It:=
 ⟨λi H=>∃xs x,SqL K H a xs/\xs[i]? = some x,λi H x H'=>H'=H/\∀xs,SqL K H a xs->xs[i]? = some x,λi H=>∃xs,SqL K H a xs/\xs.length<=i⟩
def Itt(K:zD)(a:Addr):It:=
 ⟨λi H=>∃xs x,SqT K H a xs/\xs[i]? = some x,λi H x H'=>H'=H/\∀xs,SqT K H a xs->xs[i]? = some x,λi H=>∃xs,SqT K H a xs/\xs.length<=i⟩
def Itr(lo:Int)(n:Nat):It:=⟨λi _=>i<n,λi H x H'=>H'=H/\x = .int (lo+i),λi _=>n<=i⟩
theorem zpM{P:Program}{w:World}{K:zD}{tg:Expr}(a it:Addr):Turn P w K tg (Itl K a) [it] it (λi h=>h.IsListIter it a i)where
 mem:=by simp
 obj:=λi h st b hb=>by
  have e:b=it:=by simpa using hb
  subst e
  obtain⟨o,e,c,d⟩:=st
  exact⟨o,e,λv z=>by rw[d]at z;cases z⟩
 keep:=λi h h' st k=>st.at λo e=>k it (by simp) o e
 item:=by
  intro X hP hw hK hc i pins s σ H E I hf st hg
  subst hP hw hK
  obtain⟨xs,x,hq,hx⟩:=hg
  obtain⟨its,rv,p,hz⟩:=I.list hq
  obtain⟨u,hu,ru⟩:=rv.get hx
  obtain⟨f0,f1,f2,f3,f4,f5⟩:=hf it (by simp)
  refine wpAny_pyNext_list_item st p.isList (x:=u) (by simpa using hu) λh' st' sb=>?_
  have I1:Inv X pins σ H {s with heap:=h'}:=I.turned (t':=s.toks) (λb o hb e=>(sb.2 b hb).trans e) f0 f1 f3 f4 f5
  obtain⟨o,e,c,d⟩:=id st'
  exact⟨u,rfl,zrG (s:={s with heap:=h'}) e c d (by decide) ⟨x,H,I1,ru,⟨rfl,λys hy=>by rw[I.list_inj hy hq];exact hx⟩,st',λb hb=>(hf b hb).1⟩⟩
 done:=by
  intro X hP hw hK hc i pins s σ H E I hf st hg
  subst hP hw hK
  obtain⟨xs,hq,hx⟩:=hg
  obtain⟨its,rv,p,hz⟩:=I.list hq
  obtain⟨f0,f1,f2,f3,f4,f5⟩:=hf it (by simp)
  have hl:=rv.length
  exact wpAny_pyNext_list_end (I.ok.hd hc) st p.isList (by simp;omega) λh' eb=>⟨rfl,I.turned (t':=s.toks) (λb o hb e=>eb b o hb e) f0 f1 f3 f4 f5⟩
 self:=λ_ _ _ _ _ st h=>wpAny_pyIter_listiter st h
theorem zmM{P:Program}{w:World}{K:zD}{tg:Expr}(a it:Addr):Turn P w K tg (Itt K a) [it] it (λi h=>h.IsTupleIter it a i)where
 mem:=by simp
 obj:=λi h st b hb=>by
  have e:b=it:=by simpa using hb
  subst e
  obtain⟨o,e,c,d⟩:=st
  exact⟨o,e,λv z=>by rw[d]at z;cases z⟩
 keep:=λi h h' st k=>st.at λo e=>k it (by simp) o e
 item:=by
  intro X hP hw hK hc i pins s σ H E I hf st hg
  subst hP hw hK
  obtain⟨xs,x,hq,hx⟩:=hg
  obtain⟨its,rv,p,hz⟩:=I.tuple hq
  obtain⟨u,hu,ru⟩:=rv.get hx
  obtain⟨f0,f1,f2,f3,f4,f5⟩:=hf it (by simp)
  refine wpAny_pyNext_tuple_item st (show s.heap.IsTuple a its.toArray from p) (x:=u) (by simpa using hu) λh' st' sb=>?_
  have I1:Inv X pins σ H {s with heap:=h'}:=I.turned (t':=s.toks) (λb o hb e=>(sb.2 b hb).trans e) f0 f1 f3 f4 f5
  obtain⟨o,e,c,d⟩:=id st'
  exact⟨u,rfl,zrG (s:={s with heap:=h'}) e c d (by decide) ⟨x,H,I1,ru,⟨rfl,λys hy=>by rw[I.tuple_inj hy hq];exact hx⟩,st',λb hb=>(hf b hb).1⟩⟩
 done:=by
  intro X hP hw hK hc i pins s σ H E I hf st hg
  subst hP hw hK
  obtain⟨xs,hq,hx⟩:=hg
  obtain⟨its,rv,p,hz⟩:=I.tuple hq
  obtain⟨f0,f1,f2,f3,f4,f5⟩:=hf it (by simp)
  have hl:=rv.length
  exact wpAny_pyNext_tuple_end (I.ok.hd hc) st (show s.heap.IsTuple a its.toArray from p) (by simp;omega) λh' eb=>⟨rfl,I.turned (t':=s.toks) (λb o hb e=>eb b o hb e) f0 f1 f3 f4 f5⟩
 self:=λ_ _ _ _ _ st h=>wpAny_pyIter_tupleiter st h
theorem zno{P:Program}{w:World}{K:zD}{tg:Expr}(it:Addr)(lo:Int)(n:Nat):Turn P w K tg (Itr lo n) [it] it (λi h=>IsRangeIter h it (lo+(i:Nat)*1) ((n:Int)-(i:Nat)) 1)where
 mem:=by simp
 obj:=λi h st b hb=>by
  have e:b=it:=by simpa using hb
  subst e
  exact⟨_,st,λv z=>by
   have z':Data.fields _=Data.cell v:=z
   cases z'⟩
 keep:=λi h h' st k=>k it (by simp) _ st
 item:=by
  intro X hP hw hK hc i pins s σ H E I hf st hg
  subst hP hw hK
  obtain⟨f0,f1,f2,f3,f4,f5⟩:=hf it (by simp)
  have W:=Walks.range (prog:=X.prog) (w:=X.w) (I.ok.hd hc) it lo 1 n
  refine W.item i s _ _ hg st λv h' tk hv st' kk=>?_
  obtain⟨t,rfl⟩:=hv
  have I1:Inv X pins σ H {s with heap:=h',toks:=tk}:=I.turned (λb o hb e=>kk b o (by simpa using hb) e) f0 f1 f3 f4 f5
  refine⟨_,rfl,zrG (s:={s with heap:=h',toks:=tk}) (n:="range_iterator") st' rfl rfl (by decide) ⟨.int (lo+i),H,I1,⟨t, ?_⟩,⟨rfl,rfl⟩,st',λb hb=>(hf b hb).1⟩⟩
  rw[Int.mul_one]
 done:=by
  intro X hP hw hK hc i pins s σ H E I hf st hg
  subst hP hw hK
  obtain⟨f0,f1,f2,f3,f4,f5⟩:=hf it (by simp)
  exact wpAny_pyNext_range_end (I.ok.hd hc) st (by have:n<=i:=hg;omega) λh' eb=>⟨rfl,I.turned (t':=s.toks) (λb o hb e=>eb b o hb e) f0 f1 f3 f4 f5⟩
 self:=λ_ _ _ _ _ st h=>wpAny_pyIter_rangeiter st h
end L2
namespace L2
open PySem PySem.Spec PyProof.Rows
section
variable{X:Cx}{tg:Expr}
def zxp(K:zD)(tl:TE):TI:=λσ H R=>tl σ H λx H1=>∃a,x = .ref a/\(∃xs,SqL K H1 a xs)/\R (Itl K a) H1
def zyJ(K:zD)(tl:TE):TI:=λσ H R=>tl σ H λx H1=>∃a,x = .ref a/\(∃xs,SqT K H1 a xs)/\R (Itt K a) H1
theorem zkL{l:Expr}{tl:TE}(hl:PE X l tl):PI X tg l (zxp X.K tl):=by
 intro pins s σ H R I h
 refine thn (hl pins s σ H _ I h) λv s1 ⟨x,H1,I1,r1,q1⟩=>?_
 obtain⟨a,e,⟨xs,hq⟩,q⟩:=q1
 subst e
 cases r1
 obtain⟨its,rv,p,hz⟩:=I1.list hq
 refine wpAny_pyIter_list p.isList ?_
 refine⟨s1.heap.objs.size,[s1.heap.objs.size],_,_,H1,rfl,I1.kept (t':=s1.toks) λb o e=>QyF _ e,zpM a _,⟨_,QyH _ rfl,rfl,rfl⟩,λb hb=>?_,q⟩
 have e:b=s1.heap.objs.size:=by simpa using hb
 subst e
 exact I1.fpOk (zzL _) (I1.hok.fresh (zzL _))
theorem znw{l:Expr}{tl:TE}(hl:PE X l tl):PI X tg l (zyJ X.K tl):=by
 intro pins s σ H R I h
 refine thn (hl pins s σ H _ I h) λv s1 ⟨x,H1,I1,r1,q1⟩=>?_
 obtain⟨a,e,⟨xs,hq⟩,q⟩:=q1
 subst e
 cases r1
 obtain⟨its,rv,p,hz⟩:=I1.tuple hq
 refine wpAny_pyIter_tuple (show s1.heap.IsTuple a its.toArray from p) ?_
 refine⟨s1.heap.objs.size,[s1.heap.objs.size],_,_,H1,rfl,I1.kept (t':=s1.toks) λb o e=>QyF _ e,zmM a _,⟨_,QyH _ rfl,rfl,rfl⟩,λb hb=>?_,q⟩
 have e:b=s1.heap.objs.size:=by simpa using hb
 subst e
 exact I1.fpOk (zzL _) (I1.hok.fresh (zzL _))
theorem zsn{pins:List (Addr×Obj)}{σ:St}{H:Hp}{s:Shared}{R:It->Hp->Prop}{E:Value->Shared->Prop}{lo hi:Int}{t u v:Tok}{tk:Nat}(I:Inv X pins σ H s)(h1 : -(2 ^ 62)<=lo)(h2:lo<2 ^ 62)(h3 : -(2 ^ 62)<=hi)(h4:hi<2 ^ 62)
 (q:R (Itr lo (hi-lo).toNat) H):wpAny (model X.prog X.w) X.A (pyIter (.ref s.heap.objs.size)) (PIE X pins σ tg R) E {s with heap:=s.heap.push {cls:=.type "range",data:=.fields #[.int lo t,.int hi u,.int 1 v]},toks:=tk}:=by
 refine wpAny_pyIter_range (IsRange.new ..) (small_one h1 h2 h3 h4) ?_
 have I1:Inv X pins σ H {s with heap:=s.heap.push {cls:=.type "range",data:=.fields #[.int lo t,.int hi u,.int 1 v]},toks:=tk}:=I.kept λb o e=>QyF _ e
 refine⟨(s.heap.push {cls:=.type "range",data:=.fields #[.int lo t,.int hi u,.int 1 v]}).objs.size,[(s.heap.push {cls:=.type "range",data:=.fields #[.int lo t,.int hi u,.int 1 v]}).objs.size],_,_,H,rfl,
  I1.kept (t':=tk) λb o e=>QyF _ e,zno _ lo (hi-lo).toNat, ?_,λb hb=>?_,q⟩
 · have e1:lo+((0:Nat):Int)*1=lo:=by simp
   have e2:(((hi-lo).toNat:Nat):Int)-((0:Nat):Int)=Builtin.Range.rangeSize lo hi 1:=by rw[rangeSize_one];split<;>omega
   show IsRangeIter _ _ (lo+((0:Nat):Int)*1) ((((hi-lo).toNat:Nat):Int)-((0:Nat):Int)) 1
   rw[e1,e2]
   exact QyH _ rfl
 · have e:b=(s.heap.push {cls:=.type "range",data:=.fields #[.int lo t,.int hi u,.int 1 v]}).objs.size:=by simpa using hb
   subst e
   exact I1.fpOk (zzL _) (I1.hok.fresh (zzL _))
def zxT(ta:TA):TI:=λσ H R=>ta σ H λvs H1=>∃j:Int,vs=[.int j] /\ -(2 ^ 62)<=j/\j<2 ^ 62/\R (Itr 0 j.toNat) H1
theorem zjl{a:Expr}{ta:TA}{p pos:Pos}(hg:Gl X "range")(hm:X.mg "range"=none)(ha:PA X [a] ta)(hs:starEach [a] X.env=[(false,eval a X.env)]:=by rfl):PI X tg (.Call (.Name "range" p) [a] [] pos) (zxT ta):=by
 intro pins s σ H R I h
 refine Call_ (zbO I hg hm boot_range (PyProof.Rows.callWith_type1 (thn (ha pos pins s σ H _ I h) λus s1 ⟨vs,H1,I1,r1,q1⟩=>?_) hs rfl))
 obtain⟨j,e,q1,q2,q⟩:=q1
 subst e
 cases r1 with
 |cons r rr=>
  cases rr
  obtain⟨t,rfl⟩:=r
  exact call_range_1 (zsn I1 (by omega) (by omega) q1 q2 (by simpa using q))
def zzb(wi:TI)(g:TG)(tb:TS):TS:=λD σ H=>wi σ H λJ H1=>∃W:Nat->Nat->St->Hp->Prop,(∃m,W 0 m σ H1)/\∀i m σ H,W i m σ H->
 (J.stop i H/\D.nx σ H)\/(J.go i H/\∃N:St->Hp->Prop,(∀σ' H',N σ' H'->∃m',m'<m/\W (i+1) m' σ' H')/\∀x H',J.yld i H x H'->g x σ H' λσ2 H2=>tb {D with nx:=N,ct:=N,bk:=D.nx} σ2 H2)
def zii(fp:List Addr)(h:Heap):List (Addr×Obj):=fp.filterMap λb=>(h.get? b).map λo=>(b,o)
theorem V8(hb:b ∈ fp)(e:h.get? b=some o):(b,o) ∈ zii fp h:=List.mem_filterMap.mpr ⟨b,hb,by rw[e];rfl⟩
theorem zpL(hp:p ∈ zii fp h):p.1 ∈ fp/\h.get? p.1=some p.2:=by
 obtain⟨b,hb,e⟩:=List.mem_filterMap.mp hp
 cases q:h.get? b with
 |none=>rw[q]at e;cases e
 |some o=>
  rw[q]at e
  have e':(b,o)=p:=zzX e
  subst e'
  exact⟨hb,q⟩
theorem Inv.pinned(I:Inv X pins σ H s)(hf:∀b ∈ fp,zgk X pins H b)(ho:∀b ∈ fp,∃o,s.heap.get? b=some o/\∀v,o.data ≠ .cell v):Inv X (pins++zii fp s.heap) σ H s:=
 I.pins_of λp hp=>(zzK.mp hp).elim (λz=>I.pin p (zzJ _ z)) λz=>by
  obtain⟨hb,e⟩:=zpL z
  obtain⟨f0,f1,f2,_⟩:=hf p.1 hb
  obtain⟨o,e',d⟩:=ho p.1 hb
  rw[e]at e';cases e'
  exact⟨e,f0,f1,f2,d⟩
theorem Inv.unpinned(I:Inv X (pins++pl) σ H s):Inv X pins σ H s:=I.pins_of λp hp=>I.pin p (zzJ _ (zzN _ hp))
theorem zrz(hp:PassesOwn (model X.prog X.w) X.A X.env X.xe)(hc:X.calm=true)(hi:PI X tg iter wi)(hg:PG X tg g)(hb:PSs X body tb)
 (hs:∀x,foldedSetIterable iter X.env x=pure x:=by intro _;rfl):PS X (.For tg iter body [] pos) (zzb wi g tb):=by
 intro pins s σ H D I h
 refine wpAny_For (thn (hi pins s σ H _ I h) λv s1 h1=>thn h1 λitv s2 h2=>?_) hs
 obtain⟨it,fp,tn,J,H2,e,I2,T,st2,f2,W,⟨m0,w0⟩,turn⟩:=h2
 subst e
 have stat:∀{H':Hp},(∀b ∈ fp,H' b=none)->∀b ∈ fp,zgk X pins H' b:=λhn b hb=>⟨hn b hb,(f2 b hb).2⟩
 refine codeAny_forLoop_any (λn s'=>∃i σ' H',Inv X pins σ' H' s'/\tn i s'.heap/\(∀b ∈ fp,H' b=none)/\W i n σ' H') ?_ m0 ⟨0,σ,H2,I2,st2,λb hb=>(f2 b hb).1,w0⟩
 rintro n s3 ⟨i,σ3,H3,I3,st3,fr3,w3⟩
 rcases turn i n σ3 H3 w3 with⟨stop,qn⟩|⟨go,N,hN,step⟩
 · refine wpAny_passesOwn hp (thn (T.done X rfl rfl rfl hc i pins s3 σ3 H3 X.xe I3 (stat fr3) st3 stop) λr s4 ⟨hr,I4⟩=>?_)
   subst hr
   exact wpAny_execs_nil ⟨σ3,H3,I4,qn⟩
 · refine wpAny_passesOwn hp (thn (T.item X rfl rfl rfl hc i pins s3 σ3 H3 X.xe I3 (stat fr3) st3 go) λr s4 ⟨u,hr,h4⟩=>?_)
   subst hr
   refine wpAny_passesOwn hp (thn h4 λ_ s5 ⟨x,H5,I5,r5,y5,st5,fr5⟩=>?_)
   have I5':=I5.pinned (stat fr5) (T.obj _ _ st5)
   refine wpAny_passesOwn hp (thn (hg _ s5 σ3 H5 x u _ I5' r5 (step x H5 y5)) λ_ s6 ⟨σ6,H6,I6,q6⟩=>?_)
   refine wpAny_passesOwn hp (thn (hb _ s6 σ6 H6 _ I6 q6) λf s7 q7=>?_)
   have again:∀{σ7:St}{H7:Hp},Inv X (pins++zii fp s5.heap) σ7 H7 s7->N σ7 H7->∃m,m<n/\∃i σ' H',Inv X pins σ' H' s7/\tn i s7.heap/\(∀b ∈ fp,H' b=none)/\W i m σ' H':=λ{σ7 H7} I7 n7=>by
    obtain⟨m',hm,w7⟩:=hN σ7 H7 n7
    refine⟨m',hm,i+1,σ7,H7,I7.unpinned,T.keep _ _ _ st5 λb hb o e=>(I7.pin (b,o) (zzJ _ (zzJ _ (V8 hb e)))).1,λb hb=>?_,w7⟩
    obtain⟨o,e,d⟩:=T.obj _ _ st5 b hb
    exact(I7.pin (b,o) (zzJ _ (zzJ _ (V8 hb e)))).2.1
   cases f with
   |next=>obtain⟨σ7,H7,I7,n7⟩:=q7;exact again I7 n7
   |cont=>obtain⟨σ7,H7,I7,n7⟩:=q7;exact again I7 n7
   |brk=>obtain⟨σ7,H7,I7,q7⟩:=q7;exact⟨σ7,H7,I7.unpinned,q7⟩
   |ret v=>obtain⟨x7,σ7,H7,I7,r7,q7⟩:=q7;exact⟨x7,σ7,H7,I7.unpinned,r7,q7⟩
end
end L2
namespace L2
open PySem PySem.Spec PyProof.Rows
abbrev R2:=V->V->Hp->VK->Prop
def OpR(X:Cx)(f:Value->Value->Sem Value)(r:R2):Prop:=
 ∀(pins:List (Addr×Obj)) (s:Shared) (σ:St) (H:Hp) (x y:V) (v u:Value) (Q:VK),Inv X pins σ H s->RelV x v->RelV y u->r x y H Q->
  wpAny (model X.prog X.w) X.A (f v u) (EP X pins σ Q) X.xe s
def UnR(X:Cx)(f:Value->Sem Value)(r:V->Hp->VK->Prop):Prop:=
 ∀(pins:List (Addr×Obj)) (s:Shared) (σ:St) (H:Hp) (x:V) (v:Value) (Q:VK),Inv X pins σ H s->RelV x v->r x H Q->
  wpAny (model X.prog X.w) X.A (f v) (EP X pins σ Q) X.xe s
def zbu(X:Cx)(f:Value)(r:List V->Hp->VK->Prop):Prop:=
 ∀(pins:List (Addr×Obj)) (s:Shared) (σ:St) (H:Hp) (xs:List V) (us:List Value) (Q:VK),Inv X pins σ H s->Vals xs us->r xs H Q->
  wpAny (model X.prog X.w) X.A (call f us) (EP X pins σ Q) X.xe s
def zyY(X:Cx)(r:V->Hp->(Bool->Hp->Prop)->Prop):Prop:=
 ∀(pins:List (Addr×Obj)) (s:Shared) (σ:St) (H:Hp) (x:V) (v:Value) (Q:Bool->Hp->Prop),Inv X pins σ H s->RelV x v->r x H Q->
  wpAny (model X.prog X.w) X.A (truthy v) (TP X pins σ Q) X.xe s
def tOp(r:R2)(ta tb:TE):TE:=λσ H Q=>ta σ H λx H1=>tb σ H1 λy H2=>r x y H2 Q
def tUn(r:V->Hp->VK->Prop)(ta:TE):TE:=λσ H Q=>ta σ H λx H1=>r x H1 Q
def rI(C:Int->Int->Prop)(g:Int->Int->V):R2:=λx y H Q=>∃i j,x = .int i/\y = .int j/\C i j/\Q (g i j) H
def rI0(g:Int->Int->V):R2:=λx y H Q=>∃i j,x = .int i/\y = .int j/\Q (g i j) H
def rU(g:Int->V):V->Hp->VK->Prop:=λx H Q=>∃i,x = .int i/\Q (g i) H
section
variable{X:Cx}{a b c:Expr}{ta tb tc:TE}{pos:Pos}
theorem zwi(ha:PE X a ta)(hb:PE X b tb){pins:List (Addr×Obj)}{s:Shared}{σ:St}{H:Hp}{R:V->V->Hp->Prop}(I:Inv X pins σ H s)
 (h:ta σ H λx H1=>tb σ H1 λy H2=>R x y H2) {Q:Value->Shared->Prop}{f:Value->Value->Sem Value}
 (hf:∀v u s2 x y H2,Inv X pins σ H2 s2->RelV x v->RelV y u->R x y H2->wpAny (model X.prog X.w) X.A (f v u) Q X.xe s2):
 wpAny (model X.prog X.w) X.A (eval a X.env) (λv s₁=>wpAny (model X.prog X.w) X.A (eval b X.env) (λu s₂=>wpAny (model X.prog X.w) X.A (f v u) Q X.xe s₂) X.xe s₁) X.xe s:=by
 refine thn (ha pins s σ H _ I h) λv s1 ⟨x,H1,I1,r1,q1⟩=>?_
 refine thn (hb pins s1 σ H1 _ I1 q1) λu s2 ⟨y,H2,I2,r2,q2⟩=>?_
 exact hf v u s2 x y H2 I2 r1 r2 q2
theorem zyf{op:Operator}{r:R2}(ho:OpR X (binaryOp op) r)(ha:PE X a ta)(hb:PE X b tb):PE X (.BinOp a op b pos) (tOp r ta tb):=by
 intro pins s σ H Q I h
 exact wpAny_BinOp (zwi ha hb I h λv u s2 x y H2 I2 rx ry q=>ho pins s2 σ H2 x y v u Q I2 rx ry q)
theorem zxI(ho:UnR X (unaryOp op) r)(ha:PE X a ta):PE X (.UnaryOp op a pos) (tUn r ta):=by
 intro pins s σ H Q I h
 exact UnaryOp_ (thn (ha pins s σ H _ I h) λv s1 ⟨x,H1,I1,r1,q1⟩=>ho pins s1 σ H1 x v Q I1 r1 q1)
theorem opI{f:Value->Value->Sem Value}{C:Int->Int->Prop}{g:Int->Int->Int}
 (rule:∀(i j:Int) (t u:Tok) (s:Shared) (Q:Value->Shared->Prop) (E:Value->Shared->Prop),C i j->Q (.int (g i j) s.toks) {s with toks:=s.toks+1}->wpAny (model X.prog X.w) X.A (f (.int i t) (.int j u)) Q E s):
 OpR X f (rI C λi j=>.int (g i j)):=by
 intro pins s σ H x y v u Q I rx ry h
 obtain⟨i,j,rfl,rfl,hc,q⟩:=h
 obtain⟨t,rfl⟩:=rx
 obtain⟨t',rfl⟩:=ry
 exact rule i j t t' s _ _ hc ⟨.int (g i j),H,I.tok _,⟨_,rfl⟩,q⟩
theorem zxo{f:Value->Value->Sem Value}{g:Int->Int->Int}
 (rule:∀(i j:Int) (t u:Tok) (s:Shared) (Q:Value->Shared->Prop) (E:Value->Shared->Prop),Q (.int (g i j) s.toks) {s with toks:=s.toks+1}->wpAny (model X.prog X.w) X.A (f (.int i t) (.int j u)) Q E s):
 OpR X f (rI0 λi j=>.int (g i j)):=by
 intro pins s σ H x y v u Q I rx ry h
 obtain⟨i,j,rfl,rfl,q⟩:=h
 obtain⟨t,rfl⟩:=rx
 obtain⟨t',rfl⟩:=ry
 exact rule i j t t' s _ _ ⟨.int (g i j),H,I.tok _,⟨_,rfl⟩,q⟩
theorem zts{f:Value->Value->Sem Value}{g:Int->Int->Bool}
 (rule:∀(i j:Int) (t u:Tok) (s:Shared) (Q:Value->Shared->Prop) (E:Value->Shared->Prop),Q (.bool (g i j)) s->wpAny (model X.prog X.w) X.A (f (.int i t) (.int j u)) Q E s):
 OpR X f (rI0 λi j=>.bl (g i j)):=by
 intro pins s σ H x y v u Q I rx ry h
 obtain⟨i,j,rfl,rfl,q⟩:=h
 obtain⟨t,rfl⟩:=rx
 obtain⟨t',rfl⟩:=ry
 exact rule i j t t' s _ _ ⟨.bl (g i j),H,I,rfl,q⟩
def zyq(i j:Int):Prop:=0<=j/\j<=1000000/\i.natAbs<2 ^ 64
theorem zvH:OpR X (binaryOp .Add) (rI0 λi j=>.int (i+j)):=zxo λ_ _ _ _ _ _ _ q=>add_int q
theorem zwL:OpR X (binaryOp .Sub) (rI0 λi j=>.int (i-j)):=zxo λ_ _ _ _ _ _ _ q=>sub_int q
theorem zvP:OpR X (binaryOp .Mod) (rI (λ_ j=>0<j) λi j=>.int (i%j)):=opI λi j _ _ _ _ _ hc q=>by
 have h1:(0:Int)<j:=hc
 exact mod_int' (by omega) (by rw[Int.fmod_eq_emod_of_nonneg i (by omega)];exact q)
theorem zvQ:OpR X (binaryOp .Pow) (rI zyq λi j=>.int (i ^ j.toNat)):=opI λ_ _ _ _ _ _ _ hc q=>pow_int_small hc.1 hc.2.1 hc.2.2 q
theorem zvi:OpR X (binaryOp .LShift) (rI zyq λi j=>.int (i*2 ^ j.toNat)):=opI λ_ _ _ _ _ _ _ hc q=>lshift_int_small hc.1 hc.2.1 hc.2.2 q
theorem unI{f:Value->Sem Value}{g:Int->Int}
 (rule:∀(i:Int) (t:Tok) (s:Shared) (Q:Value->Shared->Prop) (E:Value->Shared->Prop),Q (.int (g i) s.toks) {s with toks:=s.toks+1}->wpAny (model X.prog X.w) X.A (f (.int i t)) Q E s):
 UnR X f (rU λi=>.int (g i)):=by
 intro pins s σ H x v Q I rx h
 obtain⟨i,rfl,q⟩:=h
 obtain⟨t,rfl⟩:=rx
 exact rule i t s _ _ ⟨.int (g i),H,I.tok _,⟨_,rfl⟩,q⟩
theorem zvk:UnR X (unaryOp .USub) (rU λi=>.int (-i)):=unI λ_ _ _ _ _ q=>neg_int q
end
section
variable{X:Cx}{a b c:Expr}{ta tb tc:TE}{pos:Pos}
theorem ZL(I:Inv X pins σ H s)(q:Q (.bl k) H)(e:k=k'):EP X pins σ Q (.bool k') s:=by
 subst e
 exact⟨.bl k,H,I,rfl,q⟩
theorem zxz:OpR X (compareOp .Lt) (rI0 λi j=>.bl (decide (i<j))):=zts λ_ _ _ _ _ _ _ q=>lt_int q
theorem zxu:OpR X (compareOp .LtE) (rI0 λi j=>.bl (decide (i<=j))):=zts λ_ _ _ _ _ _ _ q=>le_int q
theorem zxX:OpR X (compareOp .Gt) (rI0 λi j=>.bl (decide (j<i))):=zts λ_ _ _ _ _ _ _ q=>gt_int q
theorem zxP:OpR X (compareOp .GtE) (rI0 λi j=>.bl (decide (j<=i))):=zts λ_ _ _ _ _ _ _ q=>ge_int q
theorem zpu:OpR X (compareOp .In) (λx y H Q=>∃i j,x = .str i/\y = .str j/\Q (.bl (!(Builtin.Str.occurrences j i 0 j.length 1).isEmpty)) H):=by
 intro pins s σ H x y v u Q I rx ry h
 obtain⟨i,j,rfl,rfl,q⟩:=h
 obtain⟨t,rfl⟩:=rx
 obtain⟨t',rfl⟩:=ry
 exact in_str (ZL I q rfl)
theorem zwz:OpR X (compareOp .Is) (λx y H Q=>y = .non/\Q (.bl (decide (x = .non))) H):=by
 intro pins s σ H x y v u Q I rx ry h
 obtain⟨rfl,q⟩:=h
 cases ry
 refine is_none_gen (ZL I q ?_)
 cases x<;>first
  |(cases rx;rfl)
  |(obtain⟨t,rfl⟩:=rx;rfl)
theorem ztF:OpR X (compareOp .IsNot) (λx y H Q=>y = .non/\Q (.bl (!decide (x = .non))) H):=by
 intro pins s σ H x y v u Q I rx ry h
 obtain⟨rfl,q⟩:=h
 cases ry
 refine isnot_none_gen (ZL I q ?_)
 cases x<;>first
  |(cases rx;rfl)
  |(obtain⟨t,rfl⟩:=rx;rfl)
theorem zkV:OpR X (compareOp .NotIn) (λx y H Q=>∃i j,x = .str i/\y = .str j/\Q (.bl (!(!(Builtin.Str.occurrences j i 0 j.length 1).isEmpty))) H):=by
 intro pins s σ H x y v u Q I rx ry h
 obtain⟨i,j,rfl,rfl,q⟩:=h
 obtain⟨t,rfl⟩:=rx
 obtain⟨t',rfl⟩:=ry
 exact notIn_str (ZL I q rfl)
theorem zsd(b:Expr)(h:op ≠ .In:=by decide)(h2:op ≠ .NotIn:=by decide):behindInMarks op b=false:=by
 have e1:(op==CmpOp.In)=false:=by cases op<;>first|rfl|exact absurd rfl h
 have e2:(op==CmpOp.NotIn)=false:=by cases op<;>first|rfl|exact absurd rfl h2
 cases b<;>simp[behindInMarks,e1,e2]
theorem ztH{op:CmpOp}{r:R2}(ho:OpR X (compareOp op) r)(ha:PE X a ta)(hb:PE X b tb)(hm:behindInMarks op b=false):PE X (.Compare a [op] [b] pos) (tOp r ta tb):=by
 intro pins s σ H Q I h
 exact wpAny_Compare1 (zwi ha hb I h λv u s2 x y H2 I2 rx ry q=>ho pins s2 σ H2 x y v u Q I2 rx ry q) hm
def zxx(t:TE):TT:=λσ H Q=>t σ H λx H'=>∃k,x = .bl k/\Q k H'
theorem zsY(ho:OpR X (compareOp op) r)(ha:PE X a ta)(hb:PE X b tb)(hm:behindInMarks op b=false):PT X (.Compare a [op] [b] pos) (zxx (tOp r ta tb)):=by
 intro pins s σ H Q I h
 refine wpAny_isTrue_Compare1 (thn (ha pins s σ H _ I h) λv s1 ⟨x,H1,I1,r1,q1⟩=>thn (hb pins s1 σ H1 _ I1 q1) λu s2 ⟨y,H2,I2,r2,q2⟩=>
  thn (ho pins s2 σ H2 x y v u _ I2 r1 r2 q2) λc s3 ⟨z,H3,I3,r3,k,e,q3⟩=>?_) hm
 subst e
 cases r3
 exact wpAny_truthy_bool ⟨H3,I3,q3⟩
def zxh(K:zD)(x:V)(H:Hp)(k:Bool):Prop:=
 match x with
 | .non=>k=false
 | .bl b=>k=b
 | .int i=>k=(i != 0)
 | .str y=>y.length<=sizeLine/\k=((y.length:Int) != 0)
 | .byt y=>y.size<=sizeLine/\k=((y.size:Int) != 0)
 | .ref p=>(∃xs,SqL K H p xs/\k = !xs.isEmpty)\/(∃xs,SqT K H p xs/\k = !xs.isEmpty)\/∃kvs,H p=some (.dK kvs)/\k = !kvs.isEmpty
 |_=>False
theorem znk(r:KV kvs vs):(!vs.isEmpty) = !kvs.isEmpty:=by
 cases r<;>rfl
theorem zhO(r:Vals xs its):(!its.toArray.isEmpty) = !xs.isEmpty:=by
 cases r<;>simp
theorem zdq:(sizeLine:Nat)<2 ^ 63:=by rw[sizeLine_eq];decide
theorem zvy:zyY X (λx H Q=>∃k,zxh X.K x H k/\Q k H):=by
 intro pins s σ H x v Q I rx h
 obtain⟨k,e,q⟩:=h
 have hl:=zdq
 have hs:sizeLine=16777216:=sizeLine_eq
 cases x with
 |non=>
  cases rx
  have e':k=false:=e
  subst e'
  exact truthy_none ⟨H,I,q⟩
 |bl b=>
  cases rx
  have e':k=b:=e
  subst e'
  exact wpAny_truthy_bool ⟨H,I,q⟩
 |int i=>
  obtain⟨t,rfl⟩:=rx
  have e':k=(i != 0):=e
  subst e'
  exact PySem.P.truthy_int ⟨H,I,q⟩
 |str y=>
  obtain⟨t,rfl⟩:=rx
  obtain⟨hy,e'⟩:y.length<=sizeLine/\k=((y.length:Int) != 0):=e
  subst e'
  exact PySem.P.truthy_str (by omega) ⟨H,I.tok _,q⟩
 |byt y=>
  obtain⟨t,rfl⟩:=rx
  obtain⟨hy,e'⟩:y.size<=sizeLine/\k=((y.size:Int) != 0):=e
  subst e'
  exact PySem.W.truthy_bytes (by omega) ⟨H,I.tok _,q⟩
 |ref p=>
  cases rx
  have e':(∃xs,SqL X.K H p xs/\k = !xs.isEmpty)\/(∃xs,SqT X.K H p xs/\k = !xs.isEmpty)\/∃kvs,H p=some (.dK kvs)/\k = !kvs.isEmpty:=e
  rcases e' with⟨xs,hx,e'⟩|⟨xs,hx,e'⟩|⟨kvs,hx,e'⟩
  · subst e'
    obtain⟨its,r,pl,hz⟩:=I.list hx
    have hlen:=r.length
    exact wpAny_truthy_list pl.isList (by simp only[zzF];omega) ⟨H,I.tok _,by rw[zhO r];exact q⟩
  · subst e'
    obtain⟨its,r,pl,hz⟩:=I.tuple hx
    have hlen:=r.length
    exact truthy_tuple pl (by simp only[zzF];omega) ⟨H,I.tok _,by rw[zhO r];exact q⟩
  · subst e'
    obtain⟨hz,hS,vs,r,m⟩:kvs.length<=sizeLine/\(p==sysModules)=false/\∃vs,KV kvs vs/\s.heap.DictOf (v9 X.prog X.w) p vs:=I.hok p _ hx
    have hlen:kvs.length=vs.length:=Paired.length r
    exact wpAny_truthy_dict hS m (by omega) ⟨H,I.tok _,by rw[znk r];exact q⟩
 |_=>exact(show False from e).elim
theorem zqh(ha:PE X a ta)(he:∀whole,isTrue a X.env whole=(do let v <-whole;standAt a.pos;holding [v] (truthy v))):
 PT X a (λσ H Q=>ta σ H λx H'=>∃k,zxh X.K x H' k/\Q k H'):=by
 intro pins s σ H Q I h
 exact isTrue_plain (thn (ha pins s σ H _ I h) λv s1 ⟨x,H1,I1,r1,q1⟩=>zvy pins s1 σ H1 x v Q I1 r1 q1) (he _)
theorem znB:OpR X (binaryOp .Add) (λx y H Q=>∃i j,x = .str i/\y = .str j/\i.length+j.length<=sizeLine/\Q (.str (i++j)) H):=by
 intro pins s σ H x y v u Q I rx ry h
 obtain⟨i,j,rfl,rfl,hz,q⟩:=h
 obtain⟨t,rfl⟩:=rx
 obtain⟨t',rfl⟩:=ry
 exact add_str (λt' tk=>⟨.str (i++j),H,I.tok _,⟨_,rfl⟩,q⟩) hz
theorem vals1(r:Vals [x] us):∃u,us=[u]/\RelV x u:=by
 cases r with
 |cons r1 r2=>cases r2;exact⟨_,rfl,r1⟩
theorem vals2(r:Vals [x,y] us):∃u w',us=[u,w']/\RelV x u/\RelV y w':=by
 cases r with
 |cons r1 r2=>
  cases r2 with
  |cons r3 r4=>cases r4;exact⟨_,_,rfl,r1,r3⟩
theorem zqG:zbu X (.builtin "abs") (λxs H Q=>∃i,xs=[.int i]/\Q (.int (if i<0 then -i else i)) H):=by
 intro pins s σ H xs us Q I r h
 obtain⟨i,rfl,q⟩:=h
 obtain⟨u,rfl,t,rfl⟩:=vals1 r
 exact call_abs_int λu tk=>⟨.int (if i<0 then -i else i),H,I.tok _,⟨_,rfl⟩,q⟩
theorem zpi(hc:X.calm=true):zbu X (.builtin "max") (λxs H Q=>∃i j,xs=[.int i,.int j]/\Q (.int (if j > i then j else i)) H):=by
 intro pins s σ H xs us Q I r h
 obtain⟨i,j,rfl,q⟩:=h
 obtain⟨u,w',rfl,⟨t,rfl⟩,⟨t',rfl⟩⟩:=vals2 r
 refine max_two_ints (I.ok.hd hc) λh' tk k=>⟨_,H,I.kept k, ?_,q⟩
 by_cases hj:j > i
 · rw[if_pos hj,if_pos hj];exact⟨_,rfl⟩
 · rw[if_neg hj,if_neg hj];exact⟨_,rfl⟩
theorem ziT:zbu X (.type "int") (λxs H Q=>(∃i,xs=[.int i]/\Q (.int i) H)\/∃k,xs=[.bl k]/\Q (.int (if k then 1 else 0)) H):=by
 intro pins s σ H xs us Q I r h
 rcases h with⟨i,rfl,q⟩|⟨k,rfl,q⟩
 · obtain⟨u,rfl,t,rfl⟩:=vals1 r
   exact call_int_int ⟨.int i,H,I,⟨_,rfl⟩,q⟩
 · obtain⟨u,rfl,r1⟩:=vals1 r
   cases r1
   exact call_int_bool ⟨.int (if k then 1 else 0),H,I.tok _,⟨_,rfl⟩,q⟩
end
end L2
namespace L2
open PySem PySem.Spec PyProof.Rows
structure ObjM(h:Heap)(x dx C:Addr)(mA:Str->Option Value):Prop where
 obj:h.get? x=some (PySem.W.instObj C dx)
 ns:h.Ns1 dx mA
 ne:dx≠x
theorem zpJ{h:Heap}{dx:Addr}{mA:Str->Option Value}(n:h.Ns1 dx mA):∃od,h.get? dx=some od/\∀name,PySem.W.lookIn name od=some (mA name):=by
 obtain⟨o,es,ep,ho,hd,hk,_,hm⟩:=n
 refine⟨o,ho,λname=>?_⟩
 have e:=hm name
 unfold nsFind findBy at e
 rw[<-Array.find?_toList]at e
 unfold PySem.W.lookIn
 rw[hd]
 dsimp only
 split
 · rename_i y q
   rw[q]at e
   exact congrArg some e
 · rename_i q
   rw[q]at e
   have a:es.toList.any (·.refKey)=false:=by
    rw[List.any_eq_false]
    intro y hy
    obtain⟨z,t,hkey⟩:=hk y (Array.mem_toList_iff.mp hy)
    simp[DictEntry.refKey,hkey]
   have a':¬es.toList.any (·.refKey)=true:=by rw[a];exact QzT
   rw[if_neg a']
   exact congrArg some e
theorem ObjM.look(I:ObjM h x dx C mA):∃od,PySem.W.InstAt h x (PySem.W.instObj C dx) C (some od)/\∀name,PySem.W.lookIn name od=some (mA name):=
 let⟨od,ho,hl⟩:=zpJ I.ns
 ⟨od,⟨I.obj,rfl,rfl,ho⟩,hl⟩
section
variable{prog:Program}{w:World}{A:Around}{E:Value->Shared->Prop}{s:Shared}{K:zD}{x dx C f:Addr}{mA:Str->Option Value}{name:Str}{v:Value}
theorem zuv(X:K.In s.heap)(I:ObjM s.heap x dx C mA)(hg:PySem.W.plainGet K C name=true)(hh:PySem.W.hasDictIn K C=true)
 (ha:PySem.W.findIn K (.ref C) name=some none) (hv:mA name=some v) (hv':PySem.W.handedIn v=true) (h:Q v {s with toks:=s.toks+1}):
 wpAny (model prog w) A (getAttr (.ref x) name expr) Q E s:=by
 obtain⟨od,J,hl⟩:=I.look
 exact PySem.W.get_value X J (PySem.W.plainGet_of hg).1 (PySem.W.findObj_own hh ha rfl (by rw[hl,hv])) hv' h
theorem zrM(X:K.In s.heap)(I:ObjM s.heap x dx C mA)(hg:PySem.W.plainGet K C name=true)
 (hf:PySem.W.findIn K (.ref C) name=some (some (.ref f))) (ht:PySem.W.isFn K (.ref f)=true) (hv:mA name=none) (h:Q (.ref f,[.ref x]) s):
 wpAny (model prog w) A (getMethod (.ref x) name pl) Q E s:=by
 obtain⟨od,J,hl⟩:=I.look
 exact PySem.W.method_fn X J (PySem.W.plainGet_of hg).1 (PySem.W.plainGet_of hg).2 hf (beq_iff_eq.mp ht) (by show(PySem.W.lookIn name od).map (·.isSome)=some false;rw[hl,hv];rfl) h
theorem ztV(X:K.In s.heap)(I:ObjM s.heap x dx C mA)
 (hs:PySem.W.findIn K (.ref C) "__setattr__"=some (some (.builtin "object.__setattr__"))) (hp:PySem.W.plainOver K C=true) (ht:PySem.W.takerIn K C name=some none) (hh:PySem.W.hasDictIn K C=true)
 (hw:PySem.Within mA ns) (hsz:ns.length<=sizeLine)
 (h:∀h',ObjM h' x dx C (λy=>if y=name then some v else mA y)->Heap.SameBut dx s.heap h'->Q () {s with heap:=h',toks:=s.toks+2}):
 wpAny (model prog w) A (setAttr (.ref x) name v) Q E s:=by
 obtain⟨od,J,hl⟩:=I.look
 refine PySem.W.set_plain X J hs (PySem.W.osa_open (s:={s with toks:=s.toks+1}) (r:=none) X J hp ht λb=>?_)
 obtain⟨cd,hc,hd'⟩:=PySem.W.any_some hh
 have hx:s.heap.get? x=some ⟨.ref C,some dx,.plain,#[]⟩:=I.obj
 refine QyD (QyE (QyD (QyD (wpAny_loadPart hx (QyD (PySem.W.Looks.here (s:={s with toks:=s.toks+1}) (PySem.W.looks_clsIn X hc) ?_))))))
 rw[hd']
 refine QyE (a:=some dx) (QyD (QyE (QyD ?_)))
 refine wpAny_nsSet1 (s:={s with toks:=s.toks+1}) I.ns λh' hn2 hs2=>?_
 obtain⟨oD,esD,epD,hoD,hdD,hcD⟩:=hn2.count (PySem.Within.cons name v hw)
 refine QyD (wpAny_lookBehind hoD (by rw[hdD];exact pastItsLine_dict (zzM hcD (by rw[zzR];omega))) ?_)
 exact QyE (h _ ⟨(hs2.2 _ (Ne.symm I.ne)).trans I.obj,hn2,I.ne⟩ hs2)
theorem zrB(X:K.In s.heap)(hm:PySem.W.makesIn K C=true)
 (hi:PySem.W.findIn K (.ref C) "__init__"=some (some (.ref f))) (hf:PySem.W.typeIn K (.ref f)=some (.type "function"))
 (h:codeAny (model prog w) (A.under (.builtin "type.__call__" ⟨.ref C::vs,kw⟩)) (.call (.ref f) ⟨.ref (s.heap.objs.size+1)::vs,kw⟩) (PySem.W.InitBack (s.heap.objs.size+1) R)
  {s with heap:=(s.heap.push PySem.W.emptyDict).push (PySem.W.instObj C s.heap.objs.size)}):
 codeAny (model prog w) A (.call (.ref C) ⟨vs,kw⟩) R s:=by
 obtain⟨hh,g,d,t,os⟩:=s
 exact PySem.W.make_core (PySem.W.makes_of X hm) (PySem.W.looks_findIn X hi) (λself=>PySem.W.bind_fn X self hf) (.inl rfl) h
end
def zaQ(f:Str)(v:V):List (Str×V)->List (Str×V)
 | []=>[(f,v)]
 |(g,x)::r=>if g=f then(g,v)::r else(g,x)::zaQ f v r
theorem zfx(f g:Str)(v:V):∀fs:List (Str×V),(zaQ f v fs).lookup g=if g=f then some v else fs.lookup g
 | []=>by
  show List.lookup g [(f,v)]=_
  by_cases h:g=f
  · have hb:(g==f)=true:=beq_iff_eq.mpr h
    simp only[List.lookup,hb,if_pos h]
  · have hb:(g==f)=false:=beq_eq_false_iff_ne.mpr h
    simp only[List.lookup,hb,if_neg h]
 |(k,x)::r=>by
  have ih:=zfx f g v r
  rw[show zaQ f v ((k,x)::r)=(if k=f then(k,v)::r else(k,x)::zaQ f v r)from rfl]
  by_cases hk:k=f
  · rw[if_pos hk]
    by_cases h:g=k
    · have hb:(g==k)=true:=beq_iff_eq.mpr h
      simp only[List.lookup,hb,if_pos (h.trans hk)]
    · have hb:(g==k)=false:=beq_eq_false_iff_ne.mpr h
      simp only[List.lookup,hb,if_neg (λe:g=f=>h (e.trans hk.symm))]
  · rw[if_neg hk]
    by_cases h:g=k
    · have hb:(g==k)=true:=beq_iff_eq.mpr h
      simp only[List.lookup,hb,if_neg (λe:g=f=>hk (h.symm.trans e))]
    · have hb:(g==k)=false:=beq_eq_false_iff_ne.mpr h
      simp only[List.lookup,hb]
      exact ih
theorem zeM(f:Str)(v:V):∀fs:List (Str×V),f ∈ (zaQ f v fs).map (·.1)/\∀g,g ∈ fs.map (·.1)->g ∈ (zaQ f v fs).map (·.1)
 | []=>⟨by simp[zaQ],λg h=>by simp at h⟩
 |(k,x)::r=>by
  obtain⟨i1,i2⟩:=zeM f v r
  rw[show zaQ f v ((k,x)::r)=(if k=f then(k,v)::r else(k,x)::zaQ f v r)from rfl]
  by_cases hk:k=f
  · rw[if_pos hk]
    subst hk
    exact⟨by simp,λg h=>by simpa using h⟩
  · rw[if_neg hk]
    refine⟨?_,λg h=>?_⟩
    · rw[QzQ]
      exact zzB _ i1
    · rw[QzQ]at h ⊢
      rcases zzA.mp h with e|e
      · exact zzA.mpr (.inl e)
      · exact zzB _ (i2 g e)
theorem zfP(f:Str)(v:V):∀fs:List (Str×V),(zaQ f v fs).length<=fs.length+1
 | []=>by simp[zaQ]
 |(k,x)::r=>by
  have ih:=zfP f v r
  rw[show zaQ f v ((k,x)::r)=(if k=f then(k,v)::r else(k,x)::zaQ f v r)from rfl]
  by_cases hk:k=f
  · rw[if_pos hk,zzR,zzR];omega
  · rw[if_neg hk,zzR,zzR];omega
theorem zdI.some_of(r:zdI (some v) o):∃u,o=some u/\RelV v u:=by
 cases o with
 |none=>exact(show False from r).elim
 |some u=>exact⟨u,rfl,r⟩
theorem zdI.none_of(r:zdI none o):o=none:=by
 cases o with
 |none=>rfl
 |some u=>exact(show False from r).elim
theorem zpd(r:RelV v u):PySem.W.handedIn u=true:=by
 cases v with
 |non=>cases(show u=Value.none from r);rfl
 |bl b=>cases(show u=Value.bool b from r);rfl
 |int i=>obtain⟨t,e⟩:=(show ∃t,u=Value.int i t from r);cases e;rfl
 |str x=>obtain⟨t,e⟩:=(show ∃t,u=Value.str x t from r);cases e;rfl
 |byt b=>obtain⟨t,e⟩:=(show ∃t,u=Value.bytes b t from r);cases e;rfl
 |flt b=>obtain⟨t,e⟩:=(show ∃t,u=Value.float b t from r);cases e;rfl
 |ref a=>cases(show u=Value.ref a from r);rfl
 |ty n=>cases(show u=Value.type n from r);rfl
section
variable{P:Program}{w:World}{H H':Hp}{h h':Heap}{a C dx:Addr}{fs fs':List (Str×V)}
theorem zkt(hok:HOk P w H h)(e:H a=some (.ins C dx fs)):∃mA,ObjM h a dx C mA/\(∀f,zdI (fs.lookup f) (mA f))/\PySem.Within mA (fs.map (·.1))/\fs.length<=1000/\H dx=some (.own a):=by
 obtain⟨d,z,ne,ob,mA,n,r,q⟩:=(show Zj P w H h a (.ins C dx fs)from hok a _ e)
 exact⟨mA,⟨ob,n,ne⟩,r,q,z,d⟩
end
structure Cls(K:zD)(C:Addr):Prop where
 pg:PySem.W.plainGet K C Str.empty=true
 hd:PySem.W.hasDictIn K C=true
 po:PySem.W.plainOver K C=true
 sa:PySem.W.findIn K (.ref C) "__setattr__"=some (some (.builtin "object.__setattr__"))
theorem Cls.get{K:zD}{C:Addr}(c:Cls K C)(f:Str):PySem.W.plainGet K C f=true:=c.pg
def wU(K:zD)(C:Addr)(f:Str):Prop:=PySem.W.findIn K (.ref C) f=some none
theorem wU.taker{K:zD}{C:Addr}{f:Str}(n:wU K C f):PySem.W.takerIn K C f=some none:=by
 unfold PySem.W.takerIn
 rw[show PySem.W.findIn K (.ref C) f=some none from n]
 rfl
structure Con(K:zD)(C:Addr)(f:Str)(v:V)(u:Value):Prop where
 at_:PySem.W.findIn K (.ref C) f=some (some u)
 rel:RelV v u
 get:PySem.W.specialIn K u "__get__"=some none
 cp:PySem.W.copiedNames.contains f=false
structure Meth(K:zD)(C:Addr)(m:Str)(f:Addr):Prop where
 at_:PySem.W.findIn K (.ref C) m=some (some (.ref f))
 fn:PySem.W.isFn K (.ref f)=true
 kp:PySem.W.keepIn K (.ref f)=true
section
variable{X:Cx}{pins:List (Addr×Obj)}{σ:St}{H:Hp}{s:Shared}{a C dx:Addr}{fs:List (Str×V)}{f:Str}{v:V}{A:Around}{E:Value->Shared->Prop}
theorem zmN(I:Inv X pins σ H s)(e:H a=some (.ins C dx fs))(c:Cls X.K C)(n:wU X.K C f)(l:fs.lookup f=some v)
 (h:∀u s',Inv X pins σ H s'->RelV v u->Q u s'):wpAny (model X.prog X.w) A (getAttr (.ref a) f b) Q E s:=by
 obtain⟨mA,O,r,_,_,_⟩:=zkt I.hok e
 obtain⟨u,hu,ru⟩:=zdI.some_of (v:=v) (o:=mA f) (by rw[<-l];exact r f)
 exact zuv I.kIn O (c.get f) c.hd n hu (zpd ru) (h u _ (I.tok _) ru)
theorem zhP(I:Inv X pins σ H s)(e:H a=some (.ins C dx fs))(c:Cls X.K C)(k:Meth X.K C m g)(l:fs.lookup m=none)
 (h:Q (.ref g,[.ref a]) s):wpAny (model X.prog X.w) A (getMethod (.ref a) m pl) Q E s:=by
 obtain⟨mA,O,r,_,_,_⟩:=zkt I.hok e
 have hn:mA m=none:=zdI.none_of (by rw[<-l];exact r m)
 exact zrM I.kIn O (c.get m) k.at_ k.fn hn h
theorem znA(I:Inv X pins σ H s)(e:H a=some (.ins C dx fs))(c:Cls X.K C)(n:wU X.K C f)(hl:fs.length<1000)(ry:RelV y u)
 (h:∀s',Inv X pins σ (upd H a (.ins C dx (zaQ f y fs))) s'->Q () s'):wpAny (model X.prog X.w) A (setAttr (.ref a) f u) Q E s:=by
 obtain⟨mA,O,r,wi,_,ho⟩:=zkt I.hok e
 have hz:(fs.map (·.1)).length<=sizeLine:=by rw[zS,sizeLine_eq];omega
 refine ztV I.kIn O c.sa c.po n.taker c.hd wi hz λh' O' sb=>h _ ?_
 have hd:∃o,h'.get? dx=some o:=let⟨o,_,_,e',_⟩:=O'.ns;⟨o,e'⟩
 refine I.write (x:=a) (e:=dx) (by rw[e];exact True.intro) (.inr ho) (λb q hb z=>(sb.2 b hb).trans z) hd ?_
 refine⟨by rw[yg O.ne];exact ho, ?_,O.ne,O'.obj,_,O'.ns,λg=>?_,λg hg=>?_⟩
 · have:=zfP f y fs;omega
 · show zdI ((zaQ f y fs).lookup g) (if g=f then some u else mA g)
   rw[zfx]
   by_cases q:g=f
   · rw[if_pos q,if_pos q];exact ry
   · rw[if_neg q,if_neg q];exact r g
 · by_cases q:g=f
   · rw[q];exact(zeM f y fs).1
   · refine(zeM f y fs).2 g (wi g λz=>hg ?_)
     show(if g=f then some u else mA g)=none
     rw[if_neg q];exact z
theorem Inv.made(I:Inv X pins σ H s):Inv X pins σ (upd (upd H s.heap.objs.size (.own (s.heap.objs.size+1))) (s.heap.objs.size+1) (.ins C s.heap.objs.size []))
 {s with heap:=(s.heap.push PySem.W.emptyDict).push (PySem.W.instObj C s.heap.objs.size)}:=by
 have e1:(s.heap.push PySem.W.emptyDict).get? s.heap.objs.size=some PySem.W.emptyDict:=QyH s.heap rfl
 have e2:((s.heap.push PySem.W.emptyDict).push (PySem.W.instObj C s.heap.objs.size)).get? (s.heap.objs.size+1)=some (PySem.W.instObj C s.heap.objs.size):=by
  have:=QyH (s.heap.push PySem.W.emptyDict) (o:=PySem.W.instObj C s.heap.objs.size) rfl
  rwa [QyM]at this
 have e3:(s.heap.push PySem.W.emptyDict).Ns s.heap.objs.size (λ_=>none):=⟨PySem.W.emptyDict,#[],_,e1,rfl,(λe he=>absurd he (by simp)),λ_=>rfl⟩
 have I1:=I.laid (a:=s.heap.objs.size) (o:=.own (s.heap.objs.size+1)) (h':=s.heap.push PySem.W.emptyDict) (t':=s.toks) (λb u q=>QyF _ q) (zzL _) ⟨_,e1⟩
 refine I1.laid (a:=s.heap.objs.size+1) (o:=.ins C s.heap.objs.size []) (t':=s.toks) (λb u q=>QyF _ q) (Nat.le_of_eq (QyM _ _)) ?_
 have ne:s.heap.objs.size≠s.heap.objs.size+1:=zzO (Nat.lt_succ_self _)
 refine⟨by rw[yg ne,yH],Nat.zero_le _,ne,e2,λ_=>none,(Heap.Ns1.of_empty e3).at λo q=>QyF _ q,λ_=>True.intro,λy hy=>absurd rfl hy⟩
theorem zug(hb:attributeBase e f env (eval e env)=eval e env)
 (h:wpAny (model prog w) A (eval e env) (λo s₁=>wpAny (model prog w) A (getAttr o f true) Q E s₁) E s):wpAny (model prog w) A (eval (.Attribute e f pos) env) Q E s:=
 Attribute_any_ h (by rw[arm_eval_Attribute,hb])
end
def zzf(K:zD)(ta:TE)(f:Str):TE:=λσ H Q=>ta σ H λx H1=>∃a C dx fs v,x = .ref a/\H1 a=some (.ins C dx fs)/\Cls K C/\wU K C f/\fs.lookup f=some v/\Q v H1
def zyy(K:zD)(ta tv:TE)(f:Str):TS:=λD σ H=>tv σ H λy H1=>ta σ H1 λx H2=>∃a C dx fs,x = .ref a/\H2 a=some (.ins C dx fs)/\Cls K C/\wU K C f/\fs.length<1000/\
 D.nx σ (upd H2 a (.ins C dx (zaQ f y fs)))
section
variable{X:Cx}{o e value:Expr}{f:Str}{pos pos' tpos:Pos}{ta tv:TE}
theorem zvK(he:PE X e ta)(hb:attributeBase e f X.env (eval e X.env)=eval e X.env):PE X (.Attribute e f pos) (zzf X.K ta f):=by
 intro pins s σ H Q I h
 refine zug hb (thn (he pins s σ H _ I h) λu s1 ⟨x,H1,I1,rx,a,C,dx,fs,v,ex,ea,c,n,l,q⟩=>?_)
 subst ex
 obtain rfl:u=Value.ref a:=rx
 exact zmN I1 ea c n l λu' s2 I2 ru=>⟨v,H1,I2,ru,q⟩
theorem zvV(ha:PE X o ta)(hv:PE X value tv)(hs:swapsWith value (some (.Attribute o f pos')) pos.line X.env=pure false):PS X (.Assign [.Attribute o f pos'] value pos) (zyy X.K ta tv f):=by
 intro pins s σ H D I h
 refine plainObj_wpAny_Assign_Attribute (thn (hv pins s σ H _ I h) λu s1 ⟨y,H1,I1,ry,q⟩=>thn (ha pins s1 σ H1 _ I1 q) λov s2 ⟨x,H2,I2,rx,a,C,dx,fs,ex,ea,c,n,l,q2⟩=>?_) hs
 subst ex
 obtain rfl:ov=Value.ref a:=rx
 exact znA I2 ea c n l ry λs3 I3=>⟨σ,_,I3,q2⟩
end
section
variable{X:Cx}{pins:List (Addr×Obj)}{σ:St}{H:Hp}{s:Shared}{A:Around}{E:Value->Shared->Prop}{Q:Value->Shared->Prop}{c:Value}{b:Bool}
inductive TyOf(K:zD)(H:Hp):V->Value->Prop where
 |non:TyOf K H .non (.type "NoneType")
 |bl (x:Bool):TyOf K H (.bl x) (.type "bool")
 |int (i:Int):TyOf K H (.int i) (.type "int")
 |str (x:Str):TyOf K H (.str x) (.type "str")
 |flt (x:UInt64):TyOf K H (.flt x) (.type "float")
 |lst {a:Addr}{xs:List V}(e:H a=some (.lst xs)):TyOf K H (.ref a) (.type "list")
 |frz {a:Addr}{o:Obj}{xs:List V}(e:H a=some (.frz o (.lst xs))):TyOf K H (.ref a) (.type "list")
 |tup {a:Addr}{xs:List V}(e:H a=some (.tup xs)):TyOf K H (.ref a) (.type "tuple")
 |dK {a:Addr}{kvs:List (Key×V)}(e:H a=some (.dK kvs)):TyOf K H (.ref a) (.type "dict")
 |dT {a:Addr}{kvs:List (List Key×V)}(e:H a=some (.dT kvs)):TyOf K H (.ref a) (.type "dict")
 |ins {a C dx:Addr}{fs:List (Str×V)}(e:H a=some (.ins C dx fs)) (cl:Cls K C) (ha:PySem.W.findIn K (.ref C) "__class__"=some (some (.builtin "object.__class__")))
  (hn:PySem.W.specialIn K (.builtin "object.__class__") "__get__"=some (some (.builtin "getset_descriptor.__get__"))) (htk:PySem.W.takesIn K (.builtin "object.__class__")=some true)
  (hm:PySem.W.mroIn K C (.type "object")=some true):TyOf K H (.ref a) (.ref C)
end
end L2
namespace L2
open PySem PySem.Spec PyProof.Rows
structure Room(k:Nat)(A:Around):Prop where
 hd:A.handled=none
 dp:A.depth+3*k+5<recursionLimit
 un:A.units+16*k+200<cLine
 gd:A.guards=some []
theorem Room.mono(r:Room k A)(h:j<=k):Room j A:=⟨r.hd,by have:=r.dp;omega,by have:=r.un;omega,r.gd⟩
theorem Room.deeper(r:Room (k+1) A)(env:Env):Room k (A.deeper env):=
 ⟨r.hd,by have:=r.dp;show A.depth+1+3*k+5<_;omega,by have:=r.un;show A.units+3+16*k+200<_;omega,r.gd⟩
theorem zmJ{A:Around}{C:Addr}{us:List Value}{kw:List (Str×Value)}:(A.under (.builtin "type.__call__" ⟨.ref C::us,kw⟩)).depth=A.depth+1:=by
 first|rfl|simp[Around.under,Code.weight,Code.isCreation,Code.isGuard,Code.isCaller,Code.frames,Code.isFrame,guardIds]
theorem znn{A:Around}{C:Addr}{us:List Value}{kw:List (Str×Value)}:(A.under (.builtin "type.__call__" ⟨.ref C::us,kw⟩)).units=A.units+1:=by
 first|rfl|simp[Around.under,Code.cUnits,Code.frames,Code.isFrame]
theorem zmA{A:Around}{C:Addr}{us:List Value}{kw:List (Str×Value)}:(A.under (.builtin "type.__call__" ⟨.ref C::us,kw⟩)).guards=A.guards:=by
 first|rfl|simp[Around.under,Code.guards,Code.isGuard,guardIds,PySem.pushGuards]
theorem Room.make{k:Nat}{A:Around}(r:Room (k+1) A)(C:Addr)(us:List Value)(kw:List (Str×Value)):Room k (A.under (.builtin "type.__call__" ⟨.ref C::us,kw⟩)):=
 ⟨r.hd,by have:=r.dp;rw[zmJ];omega,by have:=r.un;rw[znn];omega,by rw[zmA];exact r.gd⟩
theorem Room.depth(r:Room k A):A.depth<recursionLimit:=by have:=r.dp;omega
def zus:TA:=λ_ H Q=>Q [] H
def zst(ta:TE)(tr:TA):TA:=λσ H Q=>ta σ H λx H1=>tr σ H1 λxs H2=>Q (x::xs) H2
section
variable{X:Cx}{e:Expr}{es:List Expr}{te:TE}{t:TA}{pos:Pos}
theorem zhB:PA X [] zus:=λ_ _ _ _ H Q I h=>Calls.spliced_nil ⟨[],H,I,.nil,h⟩
theorem zcp(ha:PE X e te)(hr:PA X es t)(hs:starEach (e::es) X.env=(false,eval e X.env)::starEach es X.env:=by rfl):PA X (e::es) (zst te t):=by
 intro pos pins s σ H Q I h
 rw[hs]
 show wpAny _ _ (spliced ((false,eval e X.env)::backTo pos (starEach es X.env))) _ _ s
 refine Calls.spliced_cons (thn (ha pins s σ H _ I h) λu s1 ⟨x,H1,I1,r1,q1⟩=>?_)
 exact thn (hr pos pins s1 σ H1 _ I1 q1) λus s2 ⟨xs,H2,I2,r2,q2⟩=>⟨x::xs,H2,I2,.cons r1 r2,q2⟩
def zyV(t:TA):TE:=λσ H Q=>t σ H λxs H1=>xs.length<=sizeLine/\∀p,H1 p=none->Q (.ref p) (upd H1 p (.tup xs))
def zyC(t:TA):TE:=λσ H Q=>t σ H λxs H1=>xs.length<=sizeLine/\∀p,H1 p=none->Q (.ref p) (upd H1 p (.lst xs))
theorem zxe(h:PA X es t):PE X (.Tuple es x1 pos) (zyV t):=by
 intro pins s σ H Q I hq
 refine wpAny_Tuple_spliced (thn (h pos pins s σ H _ I hq) λus s1 ⟨xs,H1,I1,r,z,q⟩=>⟨by rw[<-r.length];exact z, ?_⟩)
 have hf:H1 s1.heap.objs.size=none:=I1.hok.fresh (zzL _)
 refine⟨.ref s1.heap.objs.size,upd H1 s1.heap.objs.size (.tup xs),I1.laid (t':=s1.toks) (λb u e=>QyF _ e) (zzL _) ?_,rfl,q _ hf⟩
 exact⟨z,us,r,⟨_,QyH _ rfl,rfl,_,rfl⟩⟩
theorem zwq(h:PA X es t):PE X (.List es pos) (zyC t):=by
 intro pins s σ H Q I hq
 refine wpAny_List_spliced (thn (h pos pins s σ H _ I hq) λus s1 ⟨xs,H1,I1,r,z,q⟩=>⟨by rw[<-r.length];exact z, ?_⟩)
 have hf:H1 s1.heap.objs.size=none:=I1.hok.fresh (zzL _)
 refine⟨.ref s1.heap.objs.size,upd H1 s1.heap.objs.size (.lst xs),I1.laid (t':=s1.toks) (λb u e=>QyF _ e) (zzL _) ?_,rfl,q _ hf⟩
 exact⟨z,us,0,r,QyH _ rfl⟩
end
abbrev Sp:=List V->Hp->VK->XK->Prop
abbrev CXT:=List Env->Hp->Shared->XK->Value->Shared->Prop
structure Env0(P:Program)(w:World)(K:zD)(mg:Str->Option Value)(base:Heap)(A:Around)(outer:List Env)(s:Shared)(H:Hp):Prop where
 frames:A.frames=some outer
 mod:Mod K mg base
 bs:∀b o,base.get? b=some o->s.heap.get? b=some o/\H b=none
 bsz:base.objs.size<=s.heap.objs.size
 funs:s.heap.FunFrames base outer
 frf:∀b ∈ frs outer,H b=none
 hok:HOk P w H s.heap
 bare:AllBare s.gens
def CE(outer:List Env)(P:Program)(w:World)(H:Hp)(s:Shared)(Q:VK)(u:Value)(s':Shared):Prop:=
 ∃v H',s'.os=s.os/\AllBare s'.gens/\Un (frs outer) [] H H' s.heap s'.heap/\HOk P w H' s'.heap/\RelV v u/\Q v H'
def CR(CX:CXT)(outer:List Env)(P:Program)(w:World)(H:Hp)(s:Shared)(Q:VK)(E:XK)(r:Result)(s':Shared):Prop:=
 match r with
 | .ok (.ret u)=>CE outer P w H s Q u s'
 | .ok _=>False
 | .error e=>CX outer H s E e s'
structure FnOk(P:Program)(w:World)(K:zD)(mg:Str->Option Value)(base:Heap)(CX:CXT)(k:Nat)(f:Addr)(fd:FuncData)(ps:List Str)(sp:Sp):Prop where
 len:∀vs H Q E,sp vs H Q E->vs.length=ps.length
 run:∀(A:Around) (outer:List Env) (s:Shared) (H:Hp) (args:Args) (us:List Value) (vs:List V) (Q:VK) (E:XK),Room k A->Env0 P w K mg base A outer s H->BindsTo s fd args (ps.zip us)->Vals vs us->sp vs H Q E->
  codeAny (model P w) A (.call (.ref f) args) (CR CX outer P w H s Q E) s
theorem FnOk.imp{P:Program}{w:World}{K:zD}{mg:Str->Option Value}{base:Heap}{CX:CXT}{k:Nat}{f:Addr}{fd:FuncData}{ps:List Str}{sp sp':Sp}(F:FnOk P w K mg base CX k f fd ps sp)
 (h:∀vs H Q E,sp' vs H Q E->sp vs H Q E):FnOk P w K mg base CX k f fd ps sp':=
 ⟨λvs H Q E q=>F.len vs H Q E (h _ _ _ _ q),λA outer s H args us vs Q E hr he hb hv hs=>F.run A outer s H args us vs Q E hr he hb hv (h _ _ _ _ hs)⟩
theorem Env0.make{P:Program}{w:World}{K:zD}{mg:Str->Option Value}{base:Heap}{A:Around}{outer:List Env}{s:Shared}{H:Hp}(e:Env0 P w K mg base A outer s H)(C:Addr)(us:List Value)(kw:List (Str×Value)):
 Env0 P w K mg base (A.under (.builtin "type.__call__" ⟨.ref C::us,kw⟩)) outer s H:=⟨by first|exact e.frames|(simpa[Around.under,Code.envs,Code.isFrame,pushEnvs]using e.frames),e.mod,e.bs,e.bsz,e.funs,e.frf,e.hok,e.bare⟩
section
variable{X:Cx}{pins:List (Addr×Obj)}{σ:St}{H:Hp}{s s':Shared}
theorem Inv.env0(I:Inv X pins σ H s):Env0 X.prog X.w X.K X.mg X.base X.A X.stack s H:=
 ⟨I.ok.frames,I.ok.mod,I.bs,zzM I.ok.bsz I.sz,I.stack,I.stkFree,I.hok,I.bare⟩
theorem Inv.after(I:Inv X pins σ H s)(h:CE X.stack X.prog X.w H s Q u s'):EP X pins σ Q u s':=by
 obtain⟨v,H',os,bare,un,hok,r,q⟩:=h
 obtain⟨hh,g,d,t,os'⟩:=s'
 obtain rfl:os'=s.os:=os
 exact⟨v,H',I.call (h':=hh) (g':=g) (d':=d) (t':=t) (ch:=[]) un hok bare (λb z=>absurd z (by simp)),r,q⟩
end
def zuI(sp:Sp)(dvs:List V)(E:XK)(t:TA):TE:=λσ H Q=>t σ H λvs H1=>sp (vs++dvs) H1 Q E
def zuP(C:Addr)(sp:Sp)(dvs:List V)(E:XK)(t:TA):TE:=λσ H Q=>t σ H λvs H1=>∀x dx,H1 x=none->H1 dx=none->dx≠x->
 sp (.ref x::(vs++dvs)) (upd (upd H1 dx (.own x)) x (.ins C dx [])) (λv H2=>v = .non/\Q (.ref x) H2) E
def Binds(K:zD)(fd:FuncData)(ps:List Str)(ds:List Value):Prop:=
 ∀(s:Shared) (us:List Value),K.In s.heap->(us++ds).length=ps.length->BindsTo s fd ⟨us,[]⟩ (ps.zip (us++ds))
theorem Binds.all{K:zD}{fd:FuncData}{ps:List Str}(h:∀us:List Value,us.length=ps.length->bindArgs fd ⟨us,[]⟩=pure (ps.zip us)):Binds K fd ps []:=λs us _ hl=>by
 rw[QzC]at hl ⊢
 exact .of_eq (h us hl)
def YS(CX:CXT)(X:Cx)(E:XK):Prop:=∀(pins:List (Addr×Obj)) (σ:St) (H:Hp) (s:Shared) (e:Value) (s':Shared),Inv X pins σ H s->CX X.stack H s E e s'->X.xe e s'
section
variable{X:Cx}{CX:CXT}{k:Nat}{f C:Addr}{fd:FuncData}{ps:List Str}{sp:Sp}{dvs:List V}{ds:List Value}{E:XK}{x m:Str}{p pos apos:Pos}{e o:Expr}{es:List Expr}{ta:TE}{t:TA}
theorem znl(F:FnOk X.prog X.w X.K X.mg X.base CX k f fd ps sp)(hr:Room k X.A)(hb:Binds X.K fd ps ds)(hd:Vals dvs ds)(hx:YS CX X E)
 (I:Inv X pins σ H s) (r:Vals vs us) (h:sp (vs++dvs) H Q E):wpAny (model X.prog X.w) X.A (call (.ref f) us) (EP X pins σ Q) X.xe s:=by
 have r2:Vals (vs++dvs) (us++ds):=r.append hd
 have hl:(us++ds).length=ps.length:=by rw[<-r2.length];exact F.len _ _ _ _ h
 refine wpAny_call (codeAny_mono (F.run X.A X.stack s H ⟨us,[]⟩ (us++ds) (vs++dvs) Q E hr I.env0 (hb s us I.kIn hl) r2 h) λr s' hq=>?_)
 cases r with
 |error e=>exact hx pins σ H s e s' I hq
 |ok fl=>
  cases fl with
  |ret u=>exact I.after hq
  |next=>exact False.elim hq
  |brk=>exact False.elim hq
  |cont=>exact False.elim hq
theorem znW(F:FnOk X.prog X.w X.K X.mg X.base CX k f fd ps sp)(hr:Room k X.A)(hg:Gl X x)(hm:X.mg x=some (.ref f))(hk:PySem.W.keepIn X.K (.ref f)=true)(hb:Binds X.K fd ps ds)(hd:Vals dvs ds)(hx:YS CX X E)
 (ha:PA X (e::es) t) (hdb:(x==("__debug__":Str))=false:=by decide) (he:starEach (e::es) X.env=(false,eval e X.env)::starEach es X.env:=by rfl) (hpl:(backTo pos (starEach es X.env)).any (·.1)=false:=by rfl):
 PE X (.Call (.Name x p) (e::es) [] pos) (zuI sp dvs E t):=by
 intro pins s σ H Q I h
 refine wpAny_Call_Name_kw (zoB I hg hm ?_ hdb)
 refine PySem.W.callWith_K (h₀:=X.base) I.ok.mod.kin hk (thn (ha pos pins s σ H _ I h) λus s1 ⟨vs,H1,I1,r,q⟩=>⟨I1.kIn, ?_⟩) he hpl
 exact znl F hr hb hd hx I1 r q
structure Mk(K:zD)(C f:Addr):Prop where
 makes:PySem.W.makesIn K C=true
 init:PySem.W.findIn K (.ref C) "__init__"=some (some (.ref f))
 fn:PySem.W.isFn K (.ref f)=true
 kp:PySem.W.keepIn K (.ref C)=true
theorem zqe(M:Mk X.K C f)(F:FnOk X.prog X.w X.K X.mg X.base CX k f fd ps sp)(hr:Room (k+1) X.A)(hb:Binds X.K fd ps ds)(hd:Vals dvs ds)
 (hx:YS CX X E) (I:Inv X pins σ H s) (r:Vals vs us)
 (h:∀x dx,H x=none->H dx=none->dx≠x->sp (.ref x::(vs++dvs)) (upd (upd H dx (.own x)) x (.ins C dx [])) (λv H2=>v = .non/\Q (.ref x) H2) E):
 wpAny (model X.prog X.w) X.A (call (.ref C) us) (EP X pins σ Q) X.xe s:=by
 have hq:=h (s.heap.objs.size+1) s.heap.objs.size (I.hok.fresh (QzU _)) (I.hok.fresh (zzL _)) (zzO (Nat.lt_succ_self _))
 have I2:=Inv.made (C:=C) I
 have r2:Vals (V.ref (s.heap.objs.size+1)::(vs++dvs)) (Value.ref (s.heap.objs.size+1)::(us++ds)):=.cons rfl (r.append hd)
 have hl:(Value.ref (s.heap.objs.size+1)::us++ds).length=ps.length:=by
  have e:=r2.length
  rw[F.len _ _ _ _ hq]at e
  exact e.symm
 refine wpAny_call (zrB (f:=f) I.kIn M.makes M.init (beq_iff_eq.mp M.fn) (codeAny_mono (F.run _ X.stack _ _ ⟨Value.ref (s.heap.objs.size+1)::us,[]⟩ (Value.ref (s.heap.objs.size+1)::(us++ds)) _ _ E (hr.make C us [])
  (I2.env0.make C us []) (hb _ (Value.ref (s.heap.objs.size+1)::us) I2.kIn hl) r2 hq) λr s' hq'=>?_))
 cases r with
 |error e=>exact hx pins σ _ _ e s' I2 hq'
 |ok fl=>
  cases fl with
  |ret u=>
   obtain⟨v,H',I3,rv,ev,q3⟩:=I2.after hq'
   subst ev
   exact⟨rv,⟨V.ref (s.heap.objs.size+1),H',I3,rfl,q3⟩⟩
  |next=>exact False.elim hq'
  |brk=>exact False.elim hq'
  |cont=>exact False.elim hq'
theorem zul(M:Mk X.K C f)(F:FnOk X.prog X.w X.K X.mg X.base CX k f fd ps sp)(hr:Room (k+1) X.A)(hg:Gl X x)(hm:X.mg x=some (.ref C))(hb:Binds X.K fd ps ds)(hd:Vals dvs ds)(hx:YS CX X E)
 (ha:PA X (e::es) t) (hdb:(x==("__debug__":Str))=false:=by decide) (he:starEach (e::es) X.env=(false,eval e X.env)::starEach es X.env:=by rfl) (hpl:(backTo pos (starEach es X.env)).any (·.1)=false:=by rfl):
 PE X (.Call (.Name x p) (e::es) [] pos) (zuP C sp dvs E t):=by
 intro pins s σ H Q I h
 refine wpAny_Call_Name_kw (zoB I hg hm ?_ hdb)
 refine PySem.W.callWith_K (h₀:=X.base) I.ok.mod.kin M.kp (thn (ha pos pins s σ H _ I h) λus s1 ⟨vs,H1,I1,r,q⟩=>⟨I1.kIn, ?_⟩) he hpl
 exact zqe M F hr hb hd hx I1 r q
end
section
variable{X:Cx}{CX:CXT}{k:Nat}{f C:Addr}{fd:FuncData}{ps ks:List Str}{sp:Sp}{E:XK}{x m:Str}{p pos apos kpos:Pos}{e o:Expr}{es:List Expr}{kws:List Keyword}{te ta:TE}{t tk:TA}{nm:Option Str}
structure KBinds(K:zD)(fd:FuncData)(ps ks:List Str)(g:List Value->List Value->List Value)(gV:List V->List V->List V):Prop where
 to:∀(s:Shared) (us ws:List Value),K.In s.heap->(g us ws).length=ps.length->BindsTo s fd ⟨us,ks.zip ws⟩ (ps.zip (g us ws))
 rel:∀{vs:List V}{us:List Value}{zs:List V}{ws:List Value},Vals vs us->Vals zs ws->Vals (gV vs zs) (g us ws)
variable{g:List Value->List Value->List Value}{gV:List V->List V->List V}
end
structure FnScope(N P:List Str)(sc:Scope):Prop where
 kind:sc.kind = .function
 co:sc.isCoroutine=false
 gen:sc.isGenerator=false
 nd:N.Nodup
 pre:N.take P.length=P
 par:∀x ∈ P,sc.names.lookup x=some .local\/sc.names.lookup x=some .cell
 nofree:∀y ∈ sc.names,y.2 ≠ .free
theorem zjJ{kindOf:Str->Option NameKind}{x:Str}:∀{binds:List (Str×Value)}{m:Str->Option Value},(∀v,(x,v) ∉ binds)->bindL kindOf binds m x=m x
 | [],_,_=>rfl
 |(n,v)::r,m,h=>by
  unfold bindL
  rw[zjJ λw hw=>h w (zzB _ hw)]
  split
  · have:x≠n:=by rintro rfl;exact h v zzD
    simp[this]
  · rfl
theorem zjD{kindOf:Str->Option NameKind}{x:Str}:∀{binds:List (Str×Value)}{m:Str->Option Value},(∀v,(x,v) ∉ binds)->bindC kindOf binds m x=m x
 | [],_,_=>rfl
 |(n,v)::r,m,h=>by
  unfold bindC
  rw[zjD λw hw=>h w (zzB _ hw)]
  split
  · rfl
  · have:x≠n:=by rintro rfl;exact h v zzD
    simp[this]
theorem ziH{kindOf:Str->Option NameKind}{x:Str}{v:Value}:∀{P:List Str}{vs:List Value}{i:Nat}{m:Str->Option Value},P.Nodup->P[i]? = some x->vs[i]? = some v->kindOf x=some .local->
 bindL kindOf (P.zip vs) m x=some v
 | [],_,_,_,_,h,_,_=>by simp at h
 |_::_,[],_,_,_,_,h,_=>by simp at h
 |p::P,w::vs,0,m,nd,h1,h2,hk=>by
  simp at h1 h2;subst h1;subst h2
  show bindL kindOf ((p,w)::P.zip vs) m p=_
  unfold bindL
  rw[zjJ λv hv=>(zzU.mp nd).1 (List.of_mem_zip hv).1,if_pos hk]
  simp
 |p::P,w::vs,i+1,m,nd,h1,h2,hk=>by
  show bindL kindOf ((p,w)::P.zip vs) m x=_
  unfold bindL
  exact ziH (i:=i) (zzU.mp nd).2 (by simpa using h1) (by simpa using h2) hk
theorem zjs{kindOf:Str->Option NameKind}{x:Str}{v:Value}:∀{P:List Str}{vs:List Value}{i:Nat}{m:Str->Option Value},P.Nodup->P[i]? = some x->vs[i]? = some v->kindOf x≠some .local->
 bindC kindOf (P.zip vs) m x=some v
 | [],_,_,_,_,h,_,_=>by simp at h
 |_::_,[],_,_,_,_,h,_=>by simp at h
 |p::P,w::vs,0,m,nd,h1,h2,hk=>by
  simp at h1 h2;subst h1;subst h2
  show bindC kindOf ((p,w)::P.zip vs) m p=_
  unfold bindC
  rw[zjD λv hv=>(zzU.mp nd).1 (List.of_mem_zip hv).1,if_neg hk]
  simp
 |p::P,w::vs,i+1,m,nd,h1,h2,hk=>by
  show bindC kindOf ((p,w)::P.zip vs) m x=_
  unfold bindC
  exact zjs (i:=i) (zzU.mp nd).2 (by simpa using h1) (by simpa using h2) hk
def start(N:List Str)(vs:List V):St:=vs.map some++List.replicate (N.length-vs.length) none
def zla(CX:CXT)(P:Program)(w:World)(K:zD)(mg:Str->Option Value)(base:Heap)(N:List Str)(qual:Str)(scope:Scope)(f:Addr)(cd:Value)(A:Around)(outer:List Env)(s:Shared)(H:Hp)(E:XK):Cx where
 prog:=P
 w:=w
 K:=K
 mg:=mg
 base:=base
 A:=A.deeper (envOfC qual scope s.heap.objs.size f cd)
 N:=N
 s₀:=s
 H₀:=H
 env:=envOfC qual scope s.heap.objs.size f cd
 outer:=outer
 stack:=envOfC qual scope s.heap.objs.size f cd::outer
 ex:=[]
 calm:=true
 fn:=λ_=>true
 pn:=[]
 xe:=λe s'=>wpAny (model P w) (A.deeper (envOfC qual scope s.heap.objs.size f cd)) (leaving (envOfC qual scope s.heap.objs.size f cd) e) (λ_ s''=>CX outer H s E e s'') (λe' s''=>CX outer H s E e' s'') s'
theorem zlz{sc:Scope}{n:Nat}{x:Str}(h:sc.names.lookup x=some .cell):∃c,(cellsFrom n sc.names []).lookup x=some c:=by
 have q:=PySem.W.cellsFrom_some sc.names n [] (.inl h)
 exact Option.isSome_iff_exists.mp q
theorem zpg{CX:CXT}{P:Program}{w:World}{K:zD}{mg:Str->Option Value}{base:Heap}{N ps:List Str}{qual:Str}{scope:Scope}{f:Addr}{cd:Value}{A:Around}{outer:List Env}{s s1:Shared}{H:Hp}{E:XK}{us:List Value}{vs:List V}
 (S:FnScope N ps scope) (hd:A.handled=none) (e0:Env0 P w K mg base A outer s H) (hl:vs.length=ps.length) (r:Vals vs us)
 (x:InCallC s s.heap.objs.size (bindL (envOfC qual scope s.heap.objs.size f cd).kindOf (ps.zip us) λ_=>none) (cellsFrom (s.heap.objs.size+1) scope.names []) (bindC (envOfC qual scope s.heap.objs.size f cd).kindOf (ps.zip us) λ_=>none) s1):
 Inv (zla CX P w K mg base N qual scope f cd A outer s H E) [] (start N vs) H s1:=by
 have hpl:ps.length<=N.length:=by have:=congrArg List.length S.pre;rw[zzQ]at this;omega
 obtain⟨h1,tk,rfl,hk⟩:=x.done
 have noA:∀b:Addr,b ∉ (zla CX P w K mg base N qual scope f cd A outer s H E).ex:=λb z=>absurd (show b ∈ ([]:List Addr)from z) (by simp)
 refine⟨⟨e0.mod,S.kind,rfl,rfl,zzL _,λy z c h1 h2=>?_,λy hy=>?_,λy c _ h=>?_,λ_=>hd,Around.frames_deeper e0.frames,.inr ⟨rfl,rfl⟩,λb z=>absurd z (noA b),e0.bs,e0.bsz,λb _ _=>noA b,λb z=>absurd z (noA b),e0.funs,e0.frf⟩,
  rfl,e0.bare,Un.kept hk,⟨_,x.toInCall.ns,λi y v h1 h2 h3=>?_⟩,λy c h=>⟨_,x.cell y c h⟩,e0.hok.fresh (zzL _),λy c h=>?_,λp hp=>absurd (show p ∈ ([]:List (Addr×Obj))from hp) (by simp),e0.hok.kept hk, ?_⟩
 · exact name_of_addr x.apart (PySem.mem_of_lookup h1) (PySem.mem_of_lookup h2)
 · have hy:scope.names.lookup y=some .cell\/scope.names.lookup y=some .free:=hy
   rcases hy with hy|hy
   · exact zlz hy
   · exact absurd rfl (S.nofree _ (PySem.mem_of_lookup hy))
 · exact Nat.le_of_lt (x.above y c (PySem.mem_of_lookup h))
 · have hi:i<vs.length:=by
    unfold start at h2
    by_cases hi:i<vs.length
    · exact hi
    · rw[QzP (by simpa using hi)]at h2
      rw[List.getElem?_replicate]at h2
      split at h2<;>cases h2
   have ha:vs[i]? = some v:=by
    unfold start at h2
    rw[QzN (by simpa using hi),zzG]at h2
    cases e:vs[i]? with
    |none=>rw[e]at h2;cases h2
    |some a=>rw[e]at h2;cases h2;rfl
   obtain⟨u,hu,rv⟩:=r.get ha
   have hp:ps[i]? = some y:=by
    rw[<-S.pre,List.getElem?_take_of_lt (by omega)];exact h1
   have ndP:ps.Nodup:=by rw[<-S.pre];exact S.nd.sublist (List.take_sublist _ _)
   refine⟨u,rv, ?_⟩
   rcases S.par y (zzY hp)with k|k
   · exact .inl ⟨k,ziH ndP hp hu k⟩
   · obtain⟨c,e⟩:=zlz (n:=s.heap.objs.size+1) k
     refine .inr ⟨.inl k,c,e, ?_⟩
     have q:=x.cell y c e
     rw[zjs ndP hp hu (by show scope.names.lookup y≠_;rw[k];decide)]at q
     exact q
 · exact e0.hok.fresh (Nat.le_of_lt (x.above y c (PySem.mem_of_lookup h)))
 · unfold start
   show _=N.length
   rw[zzH,zS,List.length_replicate]
   omega
theorem zxq{CX:CXT}{P:Program}{w:World}{K:zD}{mg:Str->Option Value}{base:Heap}{k:Nat}{f:Addr}{name qual:Str}{params:Arguments}{body:List Stmt}{scope:Scope}{dV kV doc pm cdv ct oc:Value}{an od:Option Addr}
 {osl:Array (Option Value)}{N ps:List Str}{sp:Sp}(lk:K.lookup f=some ⟨oc,od,.func (PySem.W.fnOf name qual params body scope dV kV doc pm an cdv ct),osl⟩) (hcd:PySem.W.codeIn K cdv qual=true) (S:FnScope N ps scope)
 (len:∀vs H Q E,sp vs H Q E->vs.length=ps.length)
 (hbody:∀(A:Around) (outer:List Env) (s:Shared) (H:Hp) (vs:List V) (Q:VK) (E:XK),Room k (A.deeper (envOfC qual scope s.heap.objs.size f cdv))->sp vs H Q E->
  ∃t,PSs (zla CX P w K mg base N qual scope f cdv A outer s H E) body t/\t {nx:=λ_ H'=>Q .non H',rt:=Q} (start N vs) H):
 FnOk P w K mg base CX (k+1) f (PySem.W.fnOf name qual params body scope dV kV doc pm an cdv ct) ps sp:=by
 refine⟨len,λA outer s H args us vs Q E hr e0 hb r hsp=>?_⟩
 have hl:=len _ _ _ _ hsp
 have KX:K.In s.heap:=e0.mod.kin.keeps λb o e=>(e0.bs b o e).1
 have lim:s.heap.NoLimit:=e0.mod.nolimit.keeps λb o e=>(e0.bs b o e).1
 have hkind:∀y ∈ ps.zip us,scope.names.lookup y.1=some .local\/(scope.names.lookup y.1=some .cell/\((cellsFrom (s.heap.objs.size+1) scope.names []).lookup y.1).isSome=true):=λ⟨n,v⟩ hy=>by
  rcases S.par n (List.of_mem_zip hy).1 with q|q
  · exact .inl q
  · exact .inr ⟨q,PySem.W.cellsFrom_some _ _ _ (.inl q)⟩
 refine codeAny_call_function hr.depth (KX _ _ lk) rfl S.co S.gen rfl (PySem.W.codeRec_of KX hcd) (hb _ _ _ _ ?_)
 refine wpAny_newFunctionEnv_cells S.kind hkind λenv he s1 x=>?_
 subst he
 refine⟨lim.keeps x.toInCall.keep,codeAny_func ?_⟩
 obtain⟨t,ht,hq⟩:=hbody A outer s H vs Q E (hr.deeper _) hsp
 have I:Inv (zla CX P w K mg base N qual scope f cdv A outer s H E) [] (start N vs) H s1:=zpg S hr.hd e0 hl r x
 refine QyN (ht [] s1 (start N vs) H _ I hq) (λfl s' hs=>?_) λe s' hs=>hs
 have fin:∀{σ':St}{H':Hp}{v:V}{u:Value},Inv (zla CX P w K mg base N qual scope f cdv A outer s H E) [] σ' H' s'->RelV v u->Q v H'->CE outer P w H s Q u s':=
  λ{σ' H' v u} J rv q=>⟨v,H',J.os,J.bare,J.base,J.hok,rv,q⟩
 cases fl with
 |ret u=>
  obtain⟨v,σ',H',J,rv,q⟩:=hs
  exact fin J rv q
 |next=>
  obtain⟨σ',H',J,q⟩:=hs
  exact fin (v:=V.non) (u:=Value.none) J rfl q
 |brk=>
  obtain⟨_,_,_,q⟩:=hs
  exact False.elim q
 |cont=>
  obtain⟨_,_,_,q⟩:=hs
  exact False.elim q
end L2
namespace L2
open PySem PySem.Spec PyProof.Rows
section
variable{X:Cx}{x:Str}{p pos:Pos}{e:Expr}{es:List Expr}{t:TA}{id T:String}{r:List V->Hp->VK->Prop}
def tCB(r:List V->Hp->VK->Prop)(t:TA):TE:=λσ H Q=>t σ H λvs H1=>r vs H1 Q
theorem zlG(hc:zbu X (.builtin id) r)(hg:Gl X x)(hm:X.mg x=none)(hv:bootBuiltins x=some (.builtin id))(ha:PA X (e::es) t)(hn:x≠"__name__":=by decide)(hdb:(x==("__debug__":Str))=false:=by decide)
 (he:starEach (e::es) X.env=(false,eval e X.env)::starEach es X.env:=by rfl) (hpl:(backTo pos (starEach es X.env)).any (·.1)=false:=by rfl):PE X (.Call (.Name x p) (e::es) [] pos) (tCB r t):=by
 intro pins s σ H Q I h
 refine wpAny_Call_Name_kw (zbO I hg hm hv ?_ hn hdb)
 exact PyProof.Rows.callWith_builtin1 (thn (ha pos pins s σ H _ I h) λus s1 ⟨vs,H1,I1,r1,q1⟩=>hc pins s1 σ H1 vs us Q I1 r1 q1) he hpl
theorem zpD(hc:zbu X (.type T) r)(hg:Gl X x)(hm:X.mg x=none)(hv:bootBuiltins x=some (.type T))(ha:PA X (e::es) t)(hn:x≠"__name__":=by decide)(hdb:(x==("__debug__":Str))=false:=by decide)
 (he:starEach (e::es) X.env=(false,eval e X.env)::starEach es X.env:=by rfl) (hpl:(backTo pos (starEach es X.env)).any (·.1)=false:=by rfl):PE X (.Call (.Name x p) (e::es) [] pos) (tCB r t):=by
 intro pins s σ H Q I h
 refine wpAny_Call_Name_kw (zbO I hg hm hv ?_ hn hdb)
 exact PyProof.Rows.callWith_type1 (thn (ha pos pins s σ H _ I h) λus s1 ⟨vs,H1,I1,r1,q1⟩=>hc pins s1 σ H1 vs us Q I1 r1 q1) he hpl
end
end L2
namespace L2
open PySem PySem.Spec PyProof.Rows
section
variable{κ:Type}[DecidableEq κ]
def zeT(kvs:List (κ×V))(k:κ):Option V:=(kvs.find? λkv=>decide (kv.1=k)).map (·.2)
theorem zqW{p:κ×V}{r:List (κ×V)}{k:κ}(e:p.1=k):zeT (p::r) k=some p.2:=by simp[zeT,List.find?_cons,e]
theorem zsm{p:κ×V}{r:List (κ×V)}{k:κ}(e:¬p.1=k):zeT (p::r) k=zeT r k:=by simp[zeT,List.find?_cons,e]
theorem zdI.isSome_eq(r:zdI o u):o.isSome=u.isSome:=by
 cases o with
 |none=>cases u with
  |none=>rfl
  |some _=>exact(show False from r).elim
 |some _=>cases u with
  |none=>exact(show False from r).elim
  |some _=>rfl
theorem KV.val{kvs:List (κ×V)}{vs:List (κ×Value)}(r:KV kvs vs)(k:κ):zdI (zeT kvs k) (valueAt vs k):=by
 unfold KV at r
 induction r with
 |nil=>exact True.intro
 | @cons p q ps qs h t ih=>
  obtain⟨h1,h2⟩:=h
  by_cases e:p.1=k
  · have e':q.1=k:=h1.symm.trans e
    have b:valueAt (q::qs) k=some q.2:=by simp[valueAt,List.find?_cons,e']
    rw[zqW e,b];exact h2
  · have e':¬q.1=k:=λz=>e (h1.trans z)
    have b:valueAt (q::qs) k=valueAt qs k:=by simp[valueAt,List.find?_cons,e']
    rw[zsm e,b];exact ih
theorem KV.length(r:KV kvs vs):kvs.length=vs.length:=Paired.length r
end
theorem zoz(r:RelV (kV k) u):(v9 P w).is k u=true:=by
 cases k with
 |inl i=>obtain⟨t,e⟩:=(show ∃t,u=Value.int i t from r);subst e;exact zlA P w i t
 |inr x=>obtain⟨t,e⟩:=(show ∃t,u=Value.str x t from r);subst e;exact zbB P w x t
section
variable{P:Program}{w:World}{H:Hp}{h:Heap}{a:Addr}
theorem zxH(ok:HOk P w H h)(e:Rd H a u):Zj P w H h a u:=e.ok ok
theorem zxV(ok:HOk P w H h)(e:Rd H a (.dK kvs)):kvs.length<=sizeLine/\(a==sysModules)=false/\∃vs,KV kvs vs/\h.DictOf (v9 P w) a vs:=
 show Zj P w H h a (.dK kvs)from zxH ok e
end
section
variable{X:Cx}{pins:List (Addr×Obj)}{σ:St}{H:Hp}{s:Shared}{a:Addr}{y v:V}{u r:Value}{o:Option V}{A:Around}{E:Value->Shared->Prop}
theorem Inv.big(I:Inv X pins σ H s):sysModules<s.heap.objs.size:=by
 have h:mainGlobals<s.heap.objs.size:=(I.mod.glob.keeps I.bk).lt
 exact Nat.lt_trans (by decide) h
theorem zsi(z:kvs.length<=sizeLine)(hd:(a==sysModules)=false)(rel:KV kvs vs)(dd:h'.DictOf (v9 P w) a vs):
 Zj P w H' h' a (.dK kvs):=⟨z,hd,vs,rel,dd⟩
end
structure M1(X:Cx)(o:Expr)(m:Str)(apos:Pos)(e:Expr)(cpos:Pos):Prop where
 base:attributeBase o m X.env (eval o X.env)=eval o X.env
 few:((backTo cpos (starEach [e] X.env)).all (λx=>!x.1)&&(backToKw cpos (keywordEach [] X.env)).all (λx=>x.1.isSome)
  && decide (([e]:List Expr).length+([]:List Keyword).length+(if([]:List Keyword).isEmpty then 0 else 1)<30))=true
 line:(apos.endLine==cpos.line)=true
 trees:backTo cpos (starEach [e] X.env)=[(false,eval e X.env)]
structure M2(X:Cx)(o:Expr)(m:Str)(apos:Pos)(e f:Expr)(cpos:Pos):Prop where
 base:attributeBase o m X.env (eval o X.env)=eval o X.env
 few:((backTo cpos (starEach [e,f] X.env)).all (λx=>!x.1)&&(backToKw cpos (keywordEach [] X.env)).all (λx=>x.1.isSome)
  && decide (([e,f]:List Expr).length+([]:List Keyword).length+(if([]:List Keyword).isEmpty then 0 else 1)<30))=true
 line:(apos.endLine==cpos.line)=true
 trees:backTo cpos (starEach [e,f] X.env)=[(false,eval e X.env),(false,eval f X.env)]
end L2
namespace HT
open PySem PyProof.Rows
section
variable{prog:Program}{w:World}{A:Around}{E:Value->Shared->Prop}{s:Shared}
theorem zte(ht:IsTup s.heap t vs.toArray)(hb:IsTup s.heap b ws.toArray)(hv:vs≠[])
 (h1:ws=[]->Q (.ref t) s) (h2:ws≠[]->Q (.ref s.heap.objs.size) {s with heap:=s.heap.push {cls:=.type "tuple",data:=.seq (vs++ws).toArray}})
 (hsz:vs.length+ws.length<=sizeLine):wpAny (model prog w) A (binaryOp .Add (.ref t) (.ref b)) Q E s:=by
 obtain⟨⟨cls,dd,data,sl⟩,ho,hc,n,hd⟩:=id ht
 obtain⟨⟨cls2,dd2,data2,sl2⟩,ho2,hc2,n2,hd2⟩:=id hb
 simp only at hc hd hc2 hd2
 subst hc hd hc2 hd2
 have e:vs.toArray++ws.toArray=(vs++ws).toArray:=by simp
 by_cases hw:ws=[]
 · exact concat_meets ⟨_,ho,rfl⟩ ⟨_,ho2,rfl⟩ noFill_tuple_add seq_tuple_add PySem.F.slot_tuple_add PySem.F.entry_tuple_add (PySem.F.args_tuple_add_2 _ _)
    (tuple_addW1 t b vs.toArray ws.toArray n n2 dd dd2 sl sl2 (by simpa using hv) (by simp[hw])) ⟨ho,ho2,h1 hw⟩
 · refine concat_meets ⟨_,ho,rfl⟩ ⟨_,ho2,rfl⟩ noFill_tuple_add seq_tuple_add PySem.F.slot_tuple_add PySem.F.entry_tuple_add (PySem.F.args_tuple_add_2 _ _)
    (tuple_addW2 t b vs.toArray ws.toArray n n2 dd dd2 sl sl2 (by simpa using hv) (by simpa using hw) (by rw[zzF,zzF];exact hsz)) ⟨ho,ho2, ?_⟩
   rw[e]
   exact h2 hw
def sIx(n d:Nat):Option Int->Nat
 |none=>d
 |some v=>if v<0 then(v+(n:Int)).toNat else min v.toNat n
theorem zly(n d:Nat):sIx n d none=d:=rfl
theorem zoY(n d k:Nat):sIx n d (some (k:Int))=min k n:=by
 show(if(k:Int)<0 then((k:Int)+(n:Int)).toNat else min (k:Int).toNat n)=min k n
 rw[if_neg (by omega),QzG]
theorem zwS(n d:Nat)(hd:d<=n)(o:Option Int):sIx n d o<=n:=by
 cases o with
 |none=>exact hd
 |some v=>
  show(if v<0 then(v+(n:Int)).toNat else min v.toNat n)<=n
  by_cases hv:v<0
  · rw[if_pos hv];omega
  · rw[if_neg hv];exact Nat.min_le_right _ _
theorem zom(v:Int)(n d:Nat):(if v<0 then max (v+(n:Int)) 0 else min v (n:Int))=((sIx n d (some v):Nat):Int):=by
 show(if v<0 then max (v+(n:Int)) 0 else min v (n:Int))=(((if v<0 then(v+(n:Int)).toNat else min v.toNat n):Nat):Int)
 by_cases hv:v<0
 · simp only[if_pos hv];omega
 · simp only[if_neg hv];omega
theorem zmH(lo hi:Option Int)(n:Nat):Builtin.Slice.sliceAdjust lo hi 1 (n:Int)=(((sIx n 0 lo:Nat):Int),((sIx n n hi:Nat):Int)):=by
 have h1:¬((1:Int)<0):=by omega
 unfold Builtin.Slice.sliceAdjust
 simp only[h1,if_false]
 refine Prod.ext ?_ ?_
 · cases lo with
   |none=>rfl
   |some v=>exact zom v n 0
 · cases hi with
   |none=>rfl
   |some v=>exact zom v n n
theorem znf(i j:Nat):Builtin.Slice.slicePlaces (i:Int) (j:Int) 1=j-i:=by
 unfold Builtin.Slice.slicePlaces
 have h1:(1:Int) > 0:=by omega
 simp only[h1,if_true,Int.ediv_one]
 split<;>omega
theorem zgH(p:IsPart v o)(h:Q o s):wpAny (model prog w) A (Builtin.Slice.slicePartIndex v) Q E s:=by
 cases p with
 |none=>exact slicePart_none h
 |int i t=>exact slicePart_int h
theorem zek{sl:Addr}{vl vu:Value}{lo hi:Option Int}{n:Nat}{Q:Int×Int×Nat->Shared->Prop}(hs:s.heap.IsSliceOf sl vl vu .none)(pl:IsPart vl lo)(pu:IsPart vu hi)
 (h:Q (((sIx n 0 lo:Nat):Int),1,sIx n n hi-sIx n 0 lo) s):wpAny (model prog w) A (Builtin.Slice.sliceApplied (.ref sl) (pure (n:Int))) Q E s:=by
 obtain⟨os,hos,hcs,hds⟩:=id hs
 unfold Builtin.Slice.sliceApplied Builtin.Slice.sliceFields
 refine QyD (QyD (wpAny_field hos hds (x:=vl) rfl (QyD (wpAny_field hos hds (x:=vu) rfl (QyD (wpAny_field hos hds (x:=.none) rfl (QyE ?_)))))))
 refine QyD (slicePart_none ?_)
 show wpAny _ _ (if((1:Int)==0)=true then _ else _) _ _ s
 rw[if_neg (by decide)]
 refine QyD (zgH pl (QyD (zgH pu (QyD (QyE ?_)))))
 show wpAny _ _ (match Builtin.Slice.sliceAdjust lo hi 1 (n:Int)with|(lo,hi)=>pure (lo,(1:Int),Builtin.Slice.slicePlaces lo hi 1)) _ _ s
 rw[zmH lo hi n]
 show wpAny _ _ (pure (((sIx n 0 lo:Nat):Int),(1:Int),Builtin.Slice.slicePlaces ((sIx n 0 lo:Nat):Int) ((sIx n n hi:Nat):Int) 1)) _ _ s
 rw[znf]
 exact QyE h
theorem zpZ(xs:Array Value)(i k:Nat):((List.range k).filterMap λ(m:Nat)=>xs[((i:Int)+(m:Int)*1).toNat]?).toArray=((xs.toList.drop i).take k).toArray:=by
 have e:(λ(m:Nat)=>xs[((i:Int)+(m:Int)*1).toNat]?)=λm=>xs[i+m]? := by
  funext m
  have:((i:Int)+(m:Int)*1).toNat=i+m:=by omega
  rw[this]
 rw[e]
 have:=pick_run xs i k
 rw[List.filterMap_map]at this
 have e2:((λx=>xs[x]?)∘λx=>i+x)=λm=>xs[i+m]? := rfl
 rw[e2]at this
 rw[this]
theorem zdy{t sl:Addr}{items:Array Value}{vl vu:Value}{lo hi:Option Int}{Q:Value->Shared->Prop}(ht:IsTup s.heap t items)(hs:s.heap.IsSliceOf sl vl vu .none)(pl:IsPart vl lo)(pu:IsPart vu hi)
 (hw:¬(sIx items.size 0 lo=0/\sIx items.size items.size hi=items.size))
 (h:Q (.ref s.heap.objs.size) {s with heap:=s.heap.push {cls:=.type "tuple",data:=.seq ((items.toList.drop (sIx items.size 0 lo)).take (sIx items.size items.size hi-sIx items.size 0 lo)).toArray}})
 (hsz:items.size<=sizeLine):wpAny (model prog w) A (getItem (.ref t) (.ref sl)) Q E s:=by
 have htake:sizeOk (.seq ((items.toList.drop (sIx items.size 0 lo)).take (sIx items.size items.size hi-sIx items.size 0 lo)).toArray):=by
  show((items.toList.drop (sIx items.size 0 lo)).take (sIx items.size items.size hi-sIx items.size 0 lo)).toArray.size<=sizeLine
  rw[zzF,zzQ,List.length_drop,QzR]
  omega
 have hj:sIx items.size items.size hi<=items.size:=zwS _ _ (zzL _) hi
 obtain⟨os,hos,hcs,hds⟩:=id hs
 have hTs:s.TypeIs (.ref sl) "slice":=⟨os,hos,hcs⟩
 unfold getItem
 try with_reducible refine QyK ?_
 first|refine QyD (QyE ?_)|skip
 refine QyD (wpAny_sequenceKey ht.typeIs (by decide) ?_)
 refine QyD (wpAny_callSpecial?_slot (name:=Str.ofString "__getitem__") ht.typeIs PyProof.Rows.slot_tuple_getitem
  (QyO PyProof.Rows.slot_tuple_getitem ht.typeIs entry_tuple_getitem ?_ (args_tuple_getitem _ _)))
 show wpAny _ _ (Builtin.Tuple.tupleItemsOf (.ref t) >>= _) _ _ s
 refine QyD (tupleItemsOf_ ht ?_)
 refine QyD (wpAny_typeOf hTs ?_)
 rw[if_pos (by decide)]
 refine QyD (zek hs pl pu ?_)
 have hno:¬((((sIx items.size 0 lo:Nat):Int)==0&&(1:Int)==1&&(sIx items.size items.size hi-sIx items.size 0 lo)==items.size)=true):=by
  intro q
  rw[QzA,QzA]at q
  have q1:((sIx items.size 0 lo:Nat):Int)=0:=eq_of_beq q.1.1
  have q2:sIx items.size items.size hi-sIx items.size 0 lo=items.size:=eq_of_beq q.2
  exact hw ⟨by omega,by omega⟩
 show wpAny _ _ (if(((sIx items.size 0 lo:Nat):Int)==0&&(1:Int)==1&&(sIx items.size items.size hi-sIx items.size 0 lo)==items.size)=true then _ else _) _ _ s
 rw[if_neg hno,zpZ]
 first
  |exact QyD (m:=Builtin.Tuple.tupleExact _) (QyI (QyE ⟨_,rfl,QyE h⟩) htake)
  |exact QyD (m:=Builtin.Tuple.tupleExact _) (QyI (QyD (QyE (QyE ⟨_,rfl,QyE h⟩))) htake)
  |exact QyD (QyD (m:=Builtin.Tuple.tupleExact _) (QyI (QyE (QyE ⟨_,rfl,QyE h⟩)) htake))
  |exact QyD (QyD (m:=Builtin.Tuple.tupleExact _) (QyI (QyE ⟨_,rfl,QyE h⟩) htake))
end
end HT
namespace L2
open PySem PySem.Spec PyProof.Rows
abbrev TO:=St->Hp->(Option Int->Hp->Prop)->Prop
def PO(X:Cx)(e:Option Expr)(t:TO):Prop:=
 ∀(pins:List (Addr×Obj)) (s:Shared) (σ:St) (H:Hp) (Q:Option Int->Hp->Prop),Inv X pins σ H s->t σ H Q->
  wpAny (model X.prog X.w) X.A (evalPart e X.env) (λu s'=>∃o H',Inv X pins σ H' s'/\IsPart u o/\Q o H') X.xe s
def zoJ:TO:=λ_ H Q=>Q none H
def zyl(t:TE):TO:=λσ H Q=>t σ H λx H1=>∃i,x = .int i/\Q (some i) H1
theorem intsAre_of:∀{us:List Value},Vals (ns.map V.int) us->IntsAre us ns:=by
 induction ns with
 |nil=>intro us r;rw[List.map_nil]at r;cases r;exact .nil
 |cons n ns ih=>
  intro us r
  rw[QzQ]at r
  cases r with
  |cons r1 r2=>
   obtain⟨t,e⟩:=r1
   subst e
   exact .cons n t (ih r2)
section
variable{X:Cx}{e:Expr}{te:TE}{lo hi:Option Expr}{tl th:TO}{pos p2:Pos}
theorem zsE:PO X none zoJ:=by
 intro pins s σ H Q I h
 rw[evalPart_none]
 exact QyE ⟨none,H,I,.none,h⟩
theorem ztO(h:PE X e te):PO X (some e) (zyl te):=by
 intro pins s σ H Q I hw
 rw[evalPart_some]
 refine thn (h pins s σ H _ I hw) λu s1 ⟨x,H1,I1,r1,q1⟩=>?_
 obtain⟨i,rfl,q⟩:=q1
 obtain⟨t,rfl⟩:=r1
 exact⟨some i,H1,I1,.int i t,q⟩
def SlR(X:Cx)(r:V->Option Int->Option Int->Hp->VK->Prop):Prop:=
 ∀(pins:List (Addr×Obj)) (s:Shared) (σ:St) (H:Hp) (x:V) (v vl vu:Value) (lo hi:Option Int) (sl:Addr) (Q:VK),Inv X pins σ H s->RelV x v->s.heap.IsSliceOf sl vl vu .none->IsPart vl lo->IsPart vu hi->r x lo hi H Q->
  ∃T id,typeLookup (.type T) "__getitem__"=pure (some (.builtin id))/\s.TypeIs v T/\wpAny (model X.prog X.w) X.A (getItem v (.ref sl)) (EP X pins σ Q) X.xe s
def tSl(r:V->Option Int->Option Int->Hp->VK->Prop)(te:TE)(tl th:TO):TE:=λσ H Q=>te σ H λx H1=>tl σ H1 λl H2=>th σ H2 λu H3=>r x l u H3 Q
theorem zmm(hr:SlR X r)(he:PE X e te)(hl:PO X lo tl)(hu:PO X hi th):PE X (.Subscript e (.Slice lo hi none p2) pos) (tSl r te tl th):=by
 intro pins s σ H Q I h
 refine Subscript_ (thn (he pins s σ H _ I h) λv s1 ⟨x,H1,I1,r1,q1⟩=>?_)
 refine wpAny_Slice (thn (hl pins s1 σ H1 _ I1 q1) λvl s2 ⟨l,H2,I2,pl,q2⟩=>thn (hu pins s2 σ H2 _ I2 q2) λvu s3 ⟨u,H3,I3,pu,q3⟩=>?_)
 rw[evalPart_none]
 refine QyE ?_
 have I4:Inv X pins σ H3 {s3 with heap:=s3.heap.push {cls:=.type "slice",data:=.fields #[vl,vu,.none]}}:=I3.kept (t':=s3.toks) λb ob q=>QyF _ q
 obtain⟨T,id,hT,ht,hg⟩:=hr pins {s3 with heap:=s3.heap.push {cls:=.type "slice",data:=.fields #[vl,vu,.none]}} σ H3 x v vl vu l u s3.heap.objs.size Q I4 r1 (Heap.IsSliceOf.new ..) pl pu q3
 show wpAny (model X.prog X.w) X.A (subscriptTail e (.Slice lo hi none p2) v (.ref s3.heap.objs.size)) (EP X pins σ Q) X.xe {s3 with heap:=s3.heap.push {cls:=.type "slice",data:=.fields #[vl,vu,.none]}}
 exact tail_any (ops:=[.ref s3.heap.objs.size,v]) ht hT hg (by with_unfolding_all rfl)
def zmp(xs:List V)(lo hi:Option Int):List V:=(xs.drop (HT.sIx xs.length 0 lo)).take (HT.sIx xs.length xs.length hi-HT.sIx xs.length 0 lo)
theorem zfJ(xs:List V)(lo hi:Option Int):(zmp xs lo hi).length<=xs.length:=by
 unfold zmp
 rw[zzQ,List.length_drop]
 omega
def zyL(K:zD):V->Option Int->Option Int->Hp->VK->Prop:=λx lo hi H Q=>∃a xs,x = .ref a/\SqT K H a xs/\
 ¬(HT.sIx xs.length 0 lo=0/\HT.sIx xs.length xs.length hi=xs.length)/\∀p,H p=none->Q (.ref p) (upd H p (.tup (zmp xs lo hi)))
theorem zuZ:SlR X (zyL X.K):=by
 intro pins s σ H x v vl vu lo hi sl Q I rx hs pl pu h
 obtain⟨a,xs,rfl,hx,hw,q⟩:=h
 cases rx
 obtain⟨its,r,ht,hz⟩:=I.tuple hx
 have hlen:its.toArray.size=xs.length:=by rw[zzF];exact r.length.symm
 refine⟨"tuple",_,PyProof.Rows.slot_tuple_getitem.lookup,ht.typeIs, ?_⟩
 refine HT.zdy ht hs pl pu (by rw[hlen];exact hw) ?_ (by rw[hlen];exact hz)
 rw[hlen]
 refine⟨.ref s.heap.objs.size,_,I.laid (t':=s.toks) (o:=.tup (zmp xs lo hi)) (λb ob q=>QyF _ q) (zzL _) ?_,rfl,q _ (I.hok.fresh (zzL _))⟩
 exact⟨zzM (zfJ xs lo hi) hz,_,(r.drop (HT.sIx xs.length 0 lo)).take (HT.sIx xs.length xs.length hi-HT.sIx xs.length 0 lo),IsTup.new _ _⟩
def zya(K:zD):R2:=λx y H Q=>∃a b xs ys,x = .ref a/\y = .ref b/\SqT K H a xs/\SqT K H b ys/\xs≠[]/\xs.length+ys.length<=sizeLine/\
 (ys=[]->Q (.ref a) H)/\(ys≠[]->∀p,H p=none->Q (.ref p) (upd H p (.tup (xs++ys))))
theorem Vals.nil_iff(r:Vals xs us):us=[] ↔ xs=[]:=by
 cases r with
 |nil=>simp
 |cons _ _=>simp
theorem ztt:OpR X (binaryOp .Add) (zya X.K):=by
 intro pins s σ H x y v u Q I rx ry h
 obtain⟨a,b,xs,ys,rfl,rfl,ha,hb,hx,hz,q1,q2⟩:=h
 cases rx
 cases ry
 obtain⟨its,r1,p1,_⟩:=I.tuple ha
 obtain⟨its2,r2,p2,_⟩:=I.tuple hb
 refine HT.zte p1 p2 (λz=>hx (r1.nil_iff.mp z)) (λz=>⟨.ref a,H,I,rfl,q1 (r2.nil_iff.mp z)⟩) (λz=>?_) (by rw[<-r1.length,<-r2.length];exact hz)
 refine⟨.ref s.heap.objs.size,_,I.laid (t':=s.toks) (o:=.tup (xs++ys)) (λb ob q=>QyF _ q) (zzL _) ?_,rfl,q2 (λw=>z (r2.nil_iff.mpr w)) _ (I.hok.fresh (zzL _))⟩
 exact⟨by rw[zzH];exact hz,_,r1.append r2,IsTup.new _ _⟩
end
end L2
namespace L2
open PySem PySem.Spec PyProof.Rows
def ixN(n:Nat)(i:Int):Option Nat:=if 0<=i then(if i<n then some i.toNat else none)else if -(n:Int)<=i then some (i+n).toNat else none
def atI{α:Type}(xs:List α)(i:Int):Option α:=(ixN xs.length i).bind λj=>xs[j]?
theorem zoQ(h:ixN n i=some j):seqIndex? i n=some j/\j<n /\ -(n:Int)<=i/\i<n:=by
 unfold ixN at h
 by_cases h0:0<=i
 · rw[if_pos h0]at h
   by_cases h1:i<n
   · rw[if_pos h1]at h
     have e:i.toNat=j:=zzX h
     exact⟨by rw[seqIndex_of h0 h1,e],by omega,by omega,h1⟩
   · rw[if_neg h1]at h;cases h
 · rw[if_neg h0]at h
   by_cases h1 : -(n:Int)<=i
   · rw[if_pos h1]at h
     have e:(i+n).toNat=j:=zzX h
     exact⟨by rw[seqIndex_neg (by omega) h1,e],by omega,h1,by omega⟩
   · rw[if_neg h1]at h;cases h
theorem zkX(h:atI xs i=some v):∃j,seqIndex? i xs.length=some j/\xs[j]? = some v/\j<xs.length /\ -(xs.length:Int)<=i/\i<xs.length:=by
 unfold atI at h
 cases e:ixN xs.length i with
 |none=>rw[e]at h;cases h
 |some j=>
  rw[e]at h
  obtain⟨h1,h2,h3,h4⟩:=zoQ e
  exact⟨j,h1,h,h2,h3,h4⟩
theorem zcc{α:Type}{xs:List α}{j:Nat}{v:α}(h:xs[j]? = some v):atI xs (j:Int)=some v:=by
 have hj:j<xs.length:=(zzE.mp h).1
 have e:ixN xs.length (j:Int)=some j:=by
  unfold ixN
  rw[if_pos (by omega),if_pos (by omega)];simp
 unfold atI;rw[e];exact h
theorem zqz(xs:List α)(v:α):atI (xs++[v]) (-1)=some v:=by
 have hl:(xs++[v]).length=xs.length+1:=by simp
 have e:ixN (xs++[v]).length (-1)=some xs.length:=by
  unfold ixN
  rw[hl,if_neg (by decide),if_pos (by omega)]
  congr 1
  omega
 unfold atI
 rw[e]
 show(xs++[v])[xs.length]? = some v
 simp
def zdR(b:Expr):Prop:=∀o i,subscripted b false o i=operate [o,i] (getItem o i)
def IxR(X:Cx)(r:R2):Prop:=
 ∀(value slice:Expr) (pins:List (Addr×Obj)) (s:Shared) (σ:St) (H:Hp) (x y:V) (v u:Value) (Q:VK),Inv X pins σ H s->RelV x v->RelV y u->r x y H Q->
  subscripted slice false v u=operate [v,u] (getItem v u)->wpAny (model X.prog X.w) X.A (subscriptTail value slice v u) (EP X pins σ Q) X.xe s
def MtR(X:Cx)(id:String)(r:V->List V->Hp->VK->Prop):Prop:=
 ∀(pins:List (Addr×Obj)) (s:Shared) (σ:St) (H:Hp) (x:V) (xs:List V) (v:Value) (us:List Value) (Q:VK),Inv X pins σ H s->RelV x v->Vals xs us->r x xs H Q->
  wpAny (model X.prog X.w) X.A (call (.builtin id) (v::us)) (EP X pins σ Q) X.xe s
section
variable{X:Cx}{a b:Expr}{ta tb:TE}{pos:Pos}
theorem zrQ(hr:IxR X r)(ha:PE X a ta)(hb:PE X b tb)(hs:zdR b):PE X (.Subscript a b pos) (tOp r ta tb):=by
 intro pins s σ H Q I h
 exact Subscript_ (zwi ha hb I h λv u s2 x y H2 I2 rx ry q=>hr a b pins s2 σ H2 x y v u Q I2 rx ry q (hs _ _))
def zyP(K:zD):R2:=λx y H Q=>∃p xs i v,x = .ref p/\y = .int i/\SqL K H p xs/\atI xs i=some v/\Q v H
def zyQ(K:zD):R2:=λx y H Q=>∃p xs i v,x = .ref p/\y = .int i/\SqT K H p xs/\atI xs i=some v/\Q v H
def zyD:R2:=λx y H Q=>∃z i c,x = .str z/\y = .int i/\z.length<=sizeLine/\atI z.cps.toList i=some c/\Q (.str ⟨#[c]⟩) H
theorem zkM:IxR X (zyP X.K):=by
 intro value slice pins s σ H x y v u Q I rx ry h hs
 obtain⟨p,xs,i,z,rfl,rfl,hq,he,q⟩:=h
 cases rx
 obtain⟨t,rfl⟩:=ry
 obtain⟨its,r,pl,hz⟩:=I.list hq
 obtain⟨j,h1,h2,h3,h4,h5⟩:=zkX he
 obtain⟨w,ew,rw'⟩:=r.get h2
 have hl:=r.length
 have hn:=zdq
 have fin:EP X pins σ Q w s:=⟨z,H,I,rw',q⟩
 by_cases h0:0<=i
 · have hj:i.toNat=j:=by
    rw[seqIndex_of h0 h5]at h1
    exact zzX h1
   exact item_listR pl.isList h0 (by omega) (by rw[hj];simpa using ew) fin hs
 · have hj:(i+(its.toArray.size:Int)).toNat=j:=by
    rw[seqIndex_neg (by omega) h4]at h1
    rw[zzF,<-hl]
    exact zzX h1
   exact subscriptTail_builtinR (x:=w) pl.isList.typeIs slot_list_getitem.lookup
    (wpAny_getItem_list_neg (Q:=λr s'=>r=w/\EP X pins σ Q r s') pl.isList (by omega) (by rw[zzF]<;>omega) (by omega) (by rw[hj];simpa using ew) ⟨rfl,fin⟩) hs
theorem zwj:IxR X (zyQ X.K):=by
 intro value slice pins s σ H x y v u Q I rx ry h hs
 obtain⟨p,xs,i,z,rfl,rfl,hq,he,q⟩:=h
 cases rx
 obtain⟨t,rfl⟩:=ry
 obtain⟨its,r,pl,hz⟩:=I.tuple hq
 obtain⟨j,h1,h2,h3,h4,h5⟩:=zkX he
 obtain⟨w,ew,rw'⟩:=r.get h2
 have hl:=r.length
 have hn:=zdq
 have fin:EP X pins σ Q w s:=⟨z,H,I,rw',q⟩
 exact subscriptTail_builtinR (x:=w) pl.typeIs slot_tuple_getitem.lookup
  (getItem_tuple (j:=j) (Q:=λr s'=>r=w/\EP X pins σ Q r s') pl (by omega) (by omega) (by rw[zzF,<-hl];exact h1) (by simpa using ew) ⟨rfl,fin⟩) hs
theorem zxg:IxR X zyD:=by
 intro value slice pins s σ H x y v u Q I rx ry h hs
 obtain⟨z,i,c,rfl,rfl,hz,he,q⟩:=h
 obtain⟨t,rfl⟩:=rx
 obtain⟨t',rfl⟩:=ry
 obtain⟨j,h1,h2,h3,h4,h5⟩:=zkX he
 have hl:z.cps.toList.length=z.length:=by simp[Str.length]
 rw[hl]at h1 h4 h5
 have hn:=zdq
 exact tail_any (typeIs_str s z t) slot_str_getitem.lookup (getItem_str (c:=c) (by
  have e1:decide (i < -(2 ^ 63:Int))=false:=QzE (by omega)
  have e2:decide (i ≥ 2 ^ 63)=false:=QzE (by omega)
  rw[e1,e2,Bool.or_false]) (by rw[h1];simpa using h2) ⟨.str ⟨#[c]⟩,H,I.tok _,⟨_,rfl⟩,q⟩) hs
theorem zmV(its:List Value)(n j:Nat)(u:Value):Obj.mapSeq (·.setIfInBounds j u) {cls:=.type "list",data:=.seq its.toArray n}={cls:=.type "list",data:=.seq (its.set j u).toArray n}:=by
 simp[Obj.mapSeq]
theorem Inv.lst(I:Inv X pins σ H s)(h:H p=some (.lst xs)):
 ∃(its:List Value) (n:Nat),Vals xs its/\s.heap.get? p=some {cls:=.type "list",data:=.seq its.toArray n}/\xs.length<=sizeLine:=by
 obtain⟨z,its,n,r,e⟩:=I.hok p _ h
 exact⟨its,n,r,e,z⟩
theorem Inv.lstUpd{pins:List (Addr×Obj)}{σ:St}{H:Hp}{s:Shared}{p:Addr}{xs ys:List V}{its its':List Value}{n n':Nat}{f:Obj->Obj}(I:Inv X pins σ H s)(h:H p=some (.lst xs))
 (ho:s.heap.get? p=some {cls:=.type "list",data:=.seq its.toArray n}) (hf:f {cls:=.type "list",data:=.seq its.toArray n}={cls:=.type "list",data:=.seq its'.toArray n'}) (r:Vals ys its') (hz:ys.length<=sizeLine) (t:Nat):
 Inv X pins σ (upd H p (.lst ys)) {s with heap:=s.heap.update p f,toks:=t}:=by
 have e:(s.heap.update p f).get? p=some {cls:=.type "list",data:=.seq its'.toArray n'}:=by
  rw[Heap.get?_update_self f ho (by rw[hf]<;>rfl),hf]
 refine I.write (x:=p) (e:=p) (by rw[h];trivial) (.inl rfl) (λb u hb q=>(Heap.get?_update_other _ _ (Ne.symm hb)).trans q) ⟨_,e⟩ ?_
 exact⟨hz,its',n',r,e⟩
def zxN:V->V->V->Hp->(Hp->Prop)->Prop:=λo i v H Q=>∃p xs k j,o = .ref p/\i = .int k/\H p=some (.lst xs)/\ixN xs.length k=some j/\Q (upd H p (.lst (xs.set j v)))
theorem set_list:zyo X zxN:=by
 intro pins s σ H o i v ov iv u Q I ro ri rv h
 obtain⟨p,xs,k,j,rfl,rfl,hp,hj,q⟩:=h
 cases ro
 obtain⟨t,rfl⟩:=ri
 obtain⟨its,n,r,ho,hz⟩:=I.lst hp
 obtain⟨h1,h2,h3,h4⟩:=zoQ hj
 have hl:=r.length
 have hn:=zdq
 have I':Inv X pins σ (upd H p (.lst (xs.set j v))) {s with heap:=s.heap.update p (Obj.mapSeq (·.setIfInBounds j u))}:=
  I.lstUpd hp ho (zmV its n j u) (r.set rv j) (by rw[zzS];exact hz) s.toks
 by_cases h0:0<=k
 · have hk:k.toNat=j:=by
    rw[seqIndex_of h0 h4]at h1
    exact zzX h1
   exact PySem.W.ki_setAt ho h0 (by omega) (by rw[zzF,<-hl];exact h4) (by rw[hk];exact⟨_,I',q⟩)
 · have hk:(k+(its.toArray.size:Int)).toNat=j:=by
    rw[seqIndex_neg (by omega) h3]at h1
    rw[zzF,<-hl]
    exact zzX h1
   exact PySem.W.ki_setBack ho (by omega) (by rw[zzF,<-hl];exact h3) (by omega) (by rw[hk];exact⟨_,I',q⟩)
theorem zjW(lo hi:Option Int)(n:Nat):(sliceBounds lo hi none n).1=((HT.sIx n 0 lo:Nat):Int)/\(sliceBounds lo hi none n).2.1=((HT.sIx n n hi:Nat):Int)/\(sliceBounds lo hi none n).2.2=1:=by
 refine⟨?_, ?_,rfl⟩
 · cases lo with
   |none=>simp[sliceBounds,HT.sIx]
   |some i=>
    simp only[sliceBounds,HT.sIx,Option.getD_none,show(1:Int) > 0 by decide,if_true]
    by_cases h:i<0
    · simp only[h,if_true]<;>omega
    · simp only[h,if_false]<;>omega
 · cases hi with
   |none=>simp[sliceBounds,HT.sIx]
   |some i=>
    simp only[sliceBounds,HT.sIx,Option.getD_none,show(1:Int) > 0 by decide,if_true]
    by_cases h:i<0
    · simp only[h,if_true]<;>omega
    · simp only[h,if_false]<;>omega
theorem ziu(its:List Value)(lo hi:Option Int):slicePick its.toArray lo hi none=((its.drop (HT.sIx its.length 0 lo)).take (HT.sIx its.length its.length hi-HT.sIx its.length 0 lo)).toArray:=by
 obtain⟨h1,h2,h3⟩:=zjW lo hi its.toArray.size
 unfold slicePick
 rw[h1,h2,h3]
 simp only[sliceRange_one,pick_run,zzF]<;>rfl
def zyO(K:zD):V->Option Int->Option Int->Hp->VK->Prop:=λx lo hi H Q=>∃a xs,x = .ref a/\SqL K H a xs/\∀p,H p=none->Q (.ref p) (upd H p (.lst (zmp xs lo hi)))
theorem ztM:SlR X (zyO X.K):=by
 intro pins s σ H x v vl vu lo hi sl Q I rx hs pl pu h
 obtain⟨a,xs,rfl,hx,q⟩:=h
 cases rx
 obtain⟨its,r,ht,hz⟩:=I.list hx
 have hlen:=r.length
 refine⟨"list",_,slot_list_getitem.lookup,ht.isList.typeIs, ?_⟩
 refine wpAny_getItem_list_slice ht.isList hs pl pu .none (by simp) ?_ (by rw[zzF]<;>omega)
 rw[ziu,<-hlen]
 refine⟨.ref s.heap.objs.size,_,I.laid (t':=s.toks) (o:=.lst (zmp xs lo hi)) (λb ob q=>QyF _ q) (zzL _) ?_,rfl,q _ (I.hok.fresh (zzL _))⟩
 exact⟨zzM (zfJ xs lo hi) hz,_,0,(r.drop (HT.sIx xs.length 0 lo)).take (HT.sIx xs.length xs.length hi-HT.sIx xs.length 0 lo),QyH _ rfl⟩
theorem zee:zbu X (.builtin "len") (λxs H Q=>∃p ys,xs=[.ref p]/\(SqL X.K H p ys\/SqT X.K H p ys)/\Q (.int ys.length) H):=by
 intro pins s σ H xs us Q I r h
 obtain⟨p,ys,rfl,hq,q⟩:=h
 obtain⟨u,rfl,rx⟩:=vals1 r
 cases rx
 have hn:=zdq
 rcases hq with hq|hq
 · obtain⟨its,r',pl,hz⟩:=I.list hq
   have hlen:=r'.length
   exact Calls.call_len_list pl.isList (by simp only[zzF]<;>omega) ⟨.int ys.length,H,I.tok _,⟨s.toks+1,by rw[zzF,hlen]⟩,q⟩
 · obtain⟨its,r',pl,hz⟩:=I.tuple hq
   have hlen:=r'.length
   exact len_tuple pl (by simp only[zzF]<;>omega) ⟨.int ys.length,H,I.tok _,⟨s.toks+1,by rw[zzF,hlen]⟩,q⟩
theorem zkJ:zbu X (.builtin "len") (λxs H Q=>∃z,xs=[.str z]/\z.length<=sizeLine/\Q (.int z.length) H):=by
 intro pins s σ H xs us Q I r h
 obtain⟨z,rfl,hz,q⟩:=h
 obtain⟨u,rfl,t,rfl⟩:=vals1 r
 have hn:=zdq
 exact len_str (by omega) ⟨.int z.length,H,I.tok _,⟨_,rfl⟩,q⟩
theorem zdW:zbu X (.type "list") (λxs H Q=>∃p ys,xs=[.ref p]/\(SqL X.K H p ys\/SqT X.K H p ys)/\∀l,H l=none->Q (.ref l) (upd H l (.lst ys))):=by
 intro pins s σ H xs us Q I r h
 obtain⟨p,ys,rfl,hq,q⟩:=h
 obtain⟨u,rfl,rx⟩:=vals1 r
 cases rx
 have fin:∀(its:List Value),Vals ys its->ys.length<=sizeLine->∀(h':Heap) (c':Nat),(∀b o',s.heap.get? b=some o'->h'.get? b=some o')->
  h'.get? s.heap.objs.size=some {cls:=.type "list",dict:=none,data:=.seq its.toArray c',slots:=#[]}->EP X pins σ Q (.ref s.heap.objs.size) {s with heap:=h'}:=λits r' hz h' c' kp e=>
  ⟨.ref s.heap.objs.size,_,I.laid (t':=s.toks) kp (zzL _) (show Zj X.prog X.w _ h' _ (.lst ys)from⟨hz,its,c',r',e⟩),rfl,q _ (I.hok.fresh (zzL _))⟩
 rcases hq with hq|hq
 · obtain⟨its,r',pl,hz⟩:=I.list hq
   have hlen:=r'.length
   obtain⟨o,ho,hc,n,hd⟩:=pl.isList
   exact call_list_seq p (.inl rfl) ho hc hd (λh' c' kp e=>fin its r' hz h' c' kp e) (by simp only[zzF]<;>omega)
 · obtain⟨its,r',pl,hz⟩:=I.tuple hq
   have hlen:=r'.length
   obtain⟨o,ho,hc,n,hd⟩:=pl
   exact call_list_seq p (.inr rfl) ho hc hd (λh' c' kp e=>fin its r' hz h' c' kp e) (by simp only[zzF]<;>omega)
theorem zcD:zbu X (.type "tuple") (λxs H Q=>∃p ys,xs=[.ref p]/\((SqL X.K H p ys/\∀l,H l=none->Q (.ref l) (upd H l (.tup ys)))\/(SqT X.K H p ys/\Q (.ref p) H))):=by
 intro pins s σ H xs us Q I r h
 obtain⟨p,ys,rfl,h⟩:=h
 obtain⟨u,rfl,rx⟩:=vals1 r
 cases rx
 rcases h with⟨hq,q⟩|⟨hq,q⟩
 · obtain⟨its,r',pl,hz⟩:=I.list hq
   have hlen:=r'.length
   refine call_tuple_list pl.isList (λh' kp=>?_) (by simp only[zzF]<;>omega)
   have I1:Inv X pins σ H {s with heap:=h'}:=I.kept (t':=s.toks) kp
   have I2:Inv X pins σ (upd H h'.objs.size (.tup ys)) {s with heap:=h'.push {cls:=.type "tuple",data:=.seq its.toArray}}:=
    I1.laid (t':=s.toks) (λb o e=>QyF _ e) (zzL _) (show Zj X.prog X.w _ _ _ (.tup ys)from⟨hz,its,r',IsTup.new _ _⟩)
   exact⟨.ref h'.objs.size,_,I2,rfl,q _ (I1.hok.fresh (zzL _))⟩
 · obtain⟨its,r',pl,hz⟩:=I.tuple hq
   exact call_tuple_same pl ⟨.ref p,H,I,rfl,q⟩
def tyV(K:zD)(T:String)(x:V)(H:Hp):Prop:=match x with
 | .str _=>T="str"
 | .int _=>T="int"
 | .ref p=>(T="list"/\∃xs,SqL K H p xs)\/(T="tuple"/\∃o,K.lookup p=some o/\o.cls = .type "tuple"/\o.dict=none) \/
  (T="dict"/\((∃kvs,H p=some (.dK kvs))\/∃kvs,H p=some (.dT kvs)))\/(T="set"/\∃S n,H p=some (.set S n))
 |_=>False
theorem zwx(I:Inv X pins σ H s)(r:RelV x v)(ty:tyV X.K T x H):
 s.TypeIs v T/\∀a,v = .ref a->∃ob,s.heap.get? a=some ob/\ob.dict=none:=by
 cases x with
 |str z=>
  obtain⟨t,rfl⟩:=r
  cases(show T="str" from ty)
  exact⟨typeIs_str s z t,λ_ e=>nomatch e⟩
 |int i=>
  obtain⟨t,rfl⟩:=r
  cases(show T="int" from ty)
  exact⟨typeIs_int s i t,λ_ e=>nomatch e⟩
 |ref p=>
  cases r
  rcases ty with⟨rfl,xs,hq⟩|⟨rfl,o,hk,hc,hd⟩|⟨rfl,hk⟩|⟨rfl,S,n,hk⟩
  · obtain⟨its,_,pl,_⟩:=I.list hq
    refine⟨pl.isList.typeIs,λa e=>?_⟩
    cases e
    obtain⟨o,n,e,c,hd,_⟩:=pl
    exact⟨o,e,hd⟩
  · refine⟨⟨o,I.kIn p o hk,hc⟩,λa e=>?_⟩
    cases e
    exact⟨o,I.kIn _ o hk,hd⟩
  · have z:∃o,s.heap.get? p=some o/\o.ExactDict:=by
     rcases hk with⟨kvs,hk⟩|⟨kvs,hk⟩
     · obtain⟨_,_,_,_,o,_,_,e,ex,_⟩:=I.hok p _ hk
       exact⟨o,e,ex⟩
     · obtain⟨_,_,_,_,o,_,_,e,ex,_⟩:=I.hok p _ hk
       exact⟨o,e,ex⟩
    obtain⟨o,e,ex⟩:=z
    refine⟨⟨o,e,ex.1⟩,λa e2=>?_⟩
    cases e2
    exact⟨o,e,ex.2.1⟩
  · obtain⟨o,_,_,_,e,ex,_⟩:=I.hok p _ hk
    refine⟨⟨o,e,ex.1⟩,λa e2=>?_⟩
    cases e2
    exact⟨o,e,ex.2.1⟩
 |_=>exact False.elim ty
def tBM(K:zD)(T:String)(r:V->List V->Hp->VK->Prop)(to:TE)(t:TA):TE:=λσ H Q=>to σ H λx H1=>tyV K T x H1/\t σ H1 λxs H2=>r x xs H2 Q
variable{o e:Expr}{es:List Expr}{to:TE}{t:TA}{name:Str}{apos cpos:Pos}{T id:String}{r:V->List V->Hp->VK->Prop}
theorem zxl(pa:PlainAttrs T)(slot:Slot T name id)(hty:typeOf (.builtin id)=pure (.type "method_descriptor"))(hm:MtR X id r)(ho:PE X o to)(ha:PA X (e::es) t)
 (hbase:attributeBase o name X.env (eval o X.env)=eval o X.env:=by rfl)
 (hfew:((backTo cpos (starEach (e::es) X.env)).all (λx=>!x.1)&&(backToKw cpos (keywordEach [] X.env)).all (λx=>x.1.isSome)
  && decide ((e::es).length+([]:List Keyword).length+(if([]:List Keyword).isEmpty then 0 else 1)<30))=true:=by rfl)
 (hline:(apos.endLine==cpos.line)=true:=by rfl) (hs:starEach (e::es) X.env=(false,eval e X.env)::starEach es X.env:=by rfl) (hplain:(backTo cpos (starEach es X.env)).any (·.1)=false:=by rfl):
 PE X (.Call (.Attribute o name apos) (e::es) [] cpos) (tBM X.K T r to t):=by
 intro pins s σ H Q I h
 refine wpAny_Call_method_late hbase hfew hline rfl (thn (ho pins s σ H _ I h) λv s1 ⟨x,H1,I1,r1,ty,q1⟩=>?_)
 obtain⟨h1,h2⟩:=zwx I1 r1 ty
 refine⟨T,id,pa,slot,hty,h1,h2, ?_⟩
 have hA:=ha cpos pins s1 σ H1 _ I1 q1
 rw[hs]at hA ⊢
 refine Calls.callWith_builtin (by show(false||(backTo cpos (starEach es X.env)).any (·.1))=false;rw[hplain]<;>rfl) (Calls.evalArgs_plain ?_)
 exact thn hA λus s2 ⟨vs,H2,I2,r2,q2⟩=>hm pins s2 σ H2 x vs v us Q I2 r1 r2 q2
end
end L2
namespace L2
open PySem PySem.Spec PyProof.Rows
def MtM(X:Cx)(id:String)(r:V->List V->Hp->VK->Prop):Prop:=
 ∀(pins:List (Addr×Obj)) (s:Shared) (σ:St) (H:Hp) (x:V) (xs:List V) (v:Value) (us:List Value) (Q:VK),Inv X pins σ H s->RelV x v->Vals xs us->r x xs H Q->
  wpAny (model X.prog X.w) X.A (call (.builtin id) (v::us)) (EP X pins σ Q) X.xe s
theorem Vals.one:∀{x:V}{us:List Value},Vals [x] us->∃u,us=[u]/\RelV x u
 |_,_,.cons r .nil=>⟨_,rfl,r⟩
theorem Vals.eraseIdx:∀{xs:List V}{us:List Value}(i:Nat),Vals xs us->Vals (xs.eraseIdx i) (us.eraseIdx i)
 |_,_,_,.nil=>.nil
 |_,_,0,.cons _ t=>t
 |_,_,i+1,.cons r t=>.cons r (Vals.eraseIdx i t)
theorem Vals.reverse(h:Vals xs us):Vals xs.reverse us.reverse:=by
 induction h with
 |nil=>exact .nil
 |cons r t ih=>rw[List.reverse_cons,List.reverse_cons];exact Vals.append ih (.cons r .nil)
theorem Vals.rep(h:Vals xs us):∀k:Nat,Vals (List.replicate k xs).flatten (List.replicate k us).flatten
 |0=>.nil
 |k+1=>by
  rw[List.replicate_succ,List.replicate_succ,List.flatten_cons,List.flatten_cons]
  exact Vals.append h (Vals.rep h k)
theorem zja:∀(l:List α) (i:Nat),(l.eraseIdx i).length<=l.length
 | [],_=>zzL _
 |_::_,0=>QzU _
 |_::r,i+1=>Nat.succ_le_succ (zja r i)
theorem foldl_rep(its:List Value):∀(k:Nat) (acc:List Value),
 List.foldl (λx1 x2=>x1++x2) acc.toArray (List.replicate k its.toArray)=(acc++(List.replicate k its).flatten).toArray
 |0,acc=>by simp
 |k+1,acc=>by
  have e:acc.toArray++its.toArray=(acc++its).toArray:=by simp
  have e2:(acc++its)++(List.replicate k its).flatten=acc++(List.replicate (k+1) its).flatten:=by
   rw[List.replicate_succ,List.flatten_cons,QyA]
  rw[<-e2,<-foldl_rep its k (acc++its),<-e,List.replicate_succ,List.foldl_cons]
section
variable{X:Cx}{pins:List (Addr×Obj)}{σ:St}{H:Hp}{s:Shared}{l b:Addr}{xs ys zs:List V}
theorem Inv.lset{its its':List Value}{n:Nat}{f:Array Value->Array Value}{t':Nat}(I:Inv X pins σ H s)(hH:H l=some (.lst xs))
 (e:s.heap.get? l=some {cls:=.type "list",data:=.seq its.toArray n}) (hf:f its.toArray=its'.toArray) (hv:Vals ys its') (hz:ys.length<=sizeLine):
 Inv X pins σ (upd H l (.lst ys)) {s with heap:=s.heap.update l (Obj.mapSeq f),toks:=t'}:=by
 have q:=PySem.IsL.update e f
 rw[hf]at q
 refine I.write (x:=l) (e:=l) (by rw[hH];exact trivial) (.inl rfl) (λb' u hb hu=>(Heap.get?_update_other s.heap (Obj.mapSeq f) (Ne.symm hb)).trans hu) ⟨_,q⟩ ?_
 exact⟨hz,its',_,hv,q⟩
theorem Inv.lnew(I:Inv X pins σ H s)(hv:Vals ys its)(hz:ys.length<=sizeLine):
 Inv X pins σ (upd H s.heap.objs.size (.lst ys)) {s with heap:=s.heap.push {cls:=.type "list",data:=.seq its.toArray},toks:=t'}:=
 I.laid (λ_ _ q=>QyF _ q) (zzL _) ⟨hz,its,0,hv,QyH _ rfl⟩
theorem Inv.fresh(I:Inv X pins σ H s):H s.heap.objs.size=none:=I.hok.fresh (zzL _)
theorem Inv.lstM(I:Inv X pins σ H s)(hH:H l=some (.lst xs)):xs.length<=sizeLine/\∃(its:List Value) (n:Nat),Vals xs its/\xs.length=its.length/\s.heap.get? l=some {cls:=.type "list",data:=.seq its.toArray n}:=by
 obtain⟨z,its,n,r,e⟩:=I.hok l _ hH
 exact⟨z,its,n,r,r.length,e⟩
theorem zqV(h:n<=sizeLine):Builtin.List.listTooLong n=false:=by
 unfold Builtin.List.listTooLong
 exact QzE (by omega)
end
section
variable{X:Cx}
def znQ:V->List V->Hp->VK->Prop:=λx vs H Q=>∃l xs y,x = .ref l/\vs=[y]/\H l=some (.lst xs)/\xs.length<sizeLine/\Q .non (upd H l (.lst (xs++[y])))
theorem vQ:MtM X "list.append" znQ:=by
 intro pins s σ H x vs v us Q I rx rv h
 obtain⟨l,xs,y,rfl,rfl,hH,hz,q⟩:=h
 cases rx
 obtain⟨u,rfl,ru⟩:=rv.one
 obtain⟨z,its,n,r,hl,e⟩:=I.lstM hH
 refine call_meets F.slot_list_append ⟨_,e,rfl⟩ F.entry_list_append (F.args_list_append_2 _ _) (PySem.list_append l its.toArray n u (by rw[zzF];omega)) ⟨e, ?_⟩
 refine⟨.non,_,I.lset (its':=its++[u]) hH e (by simp) (r.append (.cons ru .nil)) ?_,rfl,q⟩
 rw[zzH,List.length_singleton]
 omega
def zrS:V->List V->Hp->VK->Prop:=λx vs H Q=>∃l xs i k y,x = .ref l/\vs=[.int i]/\H l=some (.lst xs) /\ -(2 ^ 63)<=i/\i<2 ^ 63/\seqIndex? i xs.length=some k/\xs[k]? = some y/\Q y (upd H l (.lst (xs.eraseIdx k)))
theorem zqB:MtM X "list.pop" zrS:=by
 intro pins s σ H x vs v us Q I rx rv h
 obtain⟨l,xs,i,k,y,rfl,rfl,hH,h1,h2,hk,hy,q⟩:=h
 cases rx
 obtain⟨u,rfl,ru⟩:=rv.one
 obtain⟨t,rfl⟩:=ru
 obtain⟨z,its,n,r,hl,e⟩:=I.lstM hH
 obtain⟨w,hw,rw'⟩:=r.get hy
 refine call_meets F.slot_list_pop ⟨_,e,rfl⟩ F.entry_list_pop (F.args_list_pop_2 _ _)
  (MeetsSeq.list_pop_at l its.toArray n i t k w (fitsIndex_both h1 h2) (by rw[zzF,<-hl];exact hk) (by rw[<-Array.getElem?_toList];exact hw) (by rw[zzF];omega)) ⟨e, ?_⟩
 refine⟨y,_,I.lset (its':=its.eraseIdx k) hH e ?_ (r.eraseIdx k) ?_,rw',q⟩
 · show its.toArray.eraseIdxIfInBounds k=(its.eraseIdx k).toArray
   rw[List.eraseIdxIfInBounds_toArray]
 · have:=zja xs k
   omega
theorem len_rep(xs:List α)(k:Nat):(List.replicate k xs).flatten.length=k*xs.length:=by
 induction k with
 |zero=>simp
 |succ k ih=>rw[List.replicate_succ,List.flatten_cons,zzH,ih,Nat.succ_mul,Nat.add_comm]
end
end L2
namespace Att
open PySem PySem.W PySem.Calls PyProof.Rows
theorem zgd:∀(ns:List Int) (vs:List Value),WellAll P h vs (ns.map WData.int)->IntsAre vs ns:=by
 intro ns
 induction ns with
 |nil=>
  intro vs w
  rw[List.map_nil]at w
  cases w
  exact .nil
 |cons n ns ih=>
  intro vs w
  rw[QzQ]at w
  cases w with
  |cons a b=>
   cases a
   exact .cons _ _ (ih _ b)
theorem zpQ{l:OpenLaw}{n:Nat}(hn:l.most=some n){P:Params}{h:Heap}{args:List WData}{vals:List Value}
 (hpre:l.row.toRowW.claim.pre args=true) (hwl:WellAll P h vals args):
 ∃a vs ns,vals=[Value.ref a]/\args=[WData.list (ns.map WData.int)]/\h.get? a=some {cls:=.type "list",data:=.seq vs.toArray}/\IntsAre vs ns/\ns.length<=n:=by
 have hsh:WShape.hasAll [] args [.list .int]=true:=(pre_splitW hpre).1
 have hc:l.pre.holds [] {args:=args}=true:=(pre_splitW hpre).2
 obtain⟨d,r,rfl,h1,h2⟩:=hasAllW_cons hsh
 obtain rfl:=hasAllW_nil h2
 obtain⟨xs,rfl,h3⟩:=hasW_list h1
 obtain⟨ns,rfl⟩:=items_int h3
 have hlen:ns.length<=n:=by
  unfold OpenLaw.pre at hc
  have h4:(WTm.not (.lt (.lit (.int (n:Int))) (.len (.arg 0)))).holds [] {args:=[.list (ns.map .int)]}=true:=by
   have h4:=(holds_andW hc).1
   rw[hn]at h4
   exact h4
  have h5:=condW_of h4 (w_not (w_lt w_lit (w_len_list (w_arg rfl))))
  rw[zS]at h5
  refine Nat.le_of_not_lt λq=>?_
  have q':(n:Int)<((ns.length:Nat):Int):=by omega
  first
   |(rw[QzM q']at h5;exact absurd h5 (by decide))
   |(simp at h5;omega)
 cases hwl with
 |cons w1 w2=>
  cases w2
  cases w1 with
  |list ho hall=>exact⟨_,_,ns,rfl,rfl,ho,zgd ns _ hall,hlen⟩
theorem zpy(l:OpenLaw)(args:List WData):l.row.toRowW.claim.post args (.bool true) args=true:=
 postW_of (r:=l.row.toRowW) (X:=(true==true))
  (show WShape.has [] (.bool true) .bool=true by first|rfl|decide|simp[WShape.has,WShape.arms,WShape.armsAll])
  (show(WTm.eq .res (.lit (.bool true))).value [] {args:=args,res:=some (.bool true),after:=args}=some (.bool (true==true))from w_eq_bool (w_res rfl) w_lit) rfl
theorem zmD{l:OpenLaw}{n:Nat}{q:Program}{loose:List Str}{XP:(Str->Option Value)->Heap->Prop}{YP:World->Heap->Prop}{d:DefRec}
 (hn:l.most=some n) (hdf:d.params.defaults=[])
 (call:∀(w:World) (s₀ s₁:Shared) (mg mb:Str->Option Value) (fa:Addr) (o:Obj) (pm cd doc:Value) (a:Addr) (vs:List Value) (ns:List Int),
  Ground q loose [] XP w s₀ mg mb s₁.heap->YP w s₁.heap->
  s₁.heap.get? fa=some o->o.data = .func (docDef d.name d.params d.body d.scope pm cd doc)->s₁.heap.CodeRec cd d.name->mg d.name=some (.ref fa)->
  s₁.heap.get? a=some {cls:=.type "list",data:=.seq vs.toArray}->IntsAre vs ns->ns.length<=n->s₁.gens = #[]->
  codeAny (model l.prog w) callerA (.call (.ref fa) ⟨[.ref a],[]⟩) (λr s'=>r = .ok (.ret (.bool true))/\OldK s₁.heap s'.heap/\s'.os=s₁.os/\AllBare s'.gens) s₁):
 WalkO q loose XP YP l.row.toRowW d [] (λf vs=>PySem.call f vs):=by
 intro w s₀ s₁ mg mb G Y fa o pm cd doc dV kV ho hd hcd hD hmg hg args vals as hpre hlay hrd hwl hlo
 obtain rfl:dV = .none:=Dflts.none hD hdf
 obtain rfl:kV = .none:=Dflts.noKw hD
 obtain⟨a,vs,ns,rfl,rfl,hobj,hints,hlen⟩:=zpQ hn hpre hwl
 refine enter_call (codeAny_mono (call w s₀ s₁ mg mb fa o pm cd doc a vs ns G Y ho (fd_plain hd) hcd hmg hobj hints hlen hg) λr s' hq=>?_)
 obtain⟨rfl,h2,h3,h4⟩:=hq
 exact⟨.inl ⟨.bool true,.bool true,[],rfl,λ_=>rfl,.bool true,zpy l _,λ_=>⟨List.Pairwise.nil,λ_ hm=>(nomatch hm)⟩⟩,h2,h3,h4⟩
end Att
namespace L2
open PySem PySem.Spec PyProof.Rows
theorem VR:∀{vs:List Value}{ns:List Int},IntsAre vs ns->Vals (ns.map V.int) vs
 |_,_,.nil=>.nil
 |_,_,.cons n t h=>.cons ⟨t,rfl⟩ (VR h)
def Only(H:Hp):Prop:=∀b,H b=none\/∃o xs,H b=some (.frz o (.lst xs))
theorem zsj{P:Program}{w:World}{K:zD}{mg mb:Str->Option Value}{CX:CXT}{k:Nat}{fa a:Addr}{fd:FuncData}{x:Str}{sp:Sp}{s₁:Shared}{vs:List Value}{ns:List Int}
 (KX:K.In s₁.heap) (hns:s₁.heap.Ns mainGlobals mg) (hb:s₁.heap.Ns builtinsNs mb) (hbb:∀x:Str,x≠"__name__"->mb x=bootBuiltins x) (hlim:s₁.heap.NoLimit) (hg:s₁.gens = #[])
 (ha:s₁.heap.get? a=some {cls:=.type "list",data:=.seq vs.toArray}) (hi:IntsAre vs ns) (hl:ns.length<=sizeLine) (hr:Room k callerA)
 (F:∀base:Heap,K.In base->base.Ns mainGlobals mg->FnOk P w K mg base CX k fa fd [x] sp) (hbind:∀(s:Shared) (u:Value),BindsTo s fd ⟨[u],[]⟩ [(x,u)])
 (hsp:∀H:Hp,Only H->RdL K H a (ns.map V.int)->sp [.ref a] H (λv _=>v = .bl true) λ_ _ _=>False)
 (hCX:∀H e s',CX [] H s₁ (λ_ _ _=>False) e s'->False):
 codeAny (model P w) callerA (.call (.ref fa) ⟨[.ref a],[]⟩) (λr s'=>r = .ok (.ret (.bool true))/\OldK s₁.heap s'.heap/\s'.os=s₁.os/\AllBare s'.gens) s₁:=by
 have rv:=VR hi
 have lenV:=hi.length
 have core:∀H:Hp,Only H->RdL K H a (ns.map V.int)->HOk P w H s₁.heap->(∀b,H b≠none->b=a)->(H a≠none->K.lookup a=none)->
  codeAny (model P w) callerA (.call (.ref fa) ⟨[.ref a],[]⟩) (λr s'=>r = .ok (.ret (.bool true))/\OldK s₁.heap s'.heap/\s'.os=s₁.os/\AllBare s'.gens) s₁:=by
  intro H hO hS hok hA hK
  have base_of:∀{b:Addr}{o:Obj},s₁.heap.get? b=some o->H b=none->(zkI s₁.heap H).get? b=some o:=λe n=>zrR e n
  have noA:∀{b:Addr}{o:Obj}{es:Array DictEntry}{ep:Nat},s₁.heap.get? b=some o->o.data = .dict es ep->H b=none:=λ{b o es ep} e d=>by
   cases q:H b with
   |none=>rfl
   |some u=>
    have e':b=a:=hA b (by rw[q];simp)
    subst e'
    rw[ha]at e;cases e
    have d':Data.seq vs.toArray _=Data.dict es ep:=d
    cases d'
  have nsK:∀{b:Addr}{m:Str->Option Value},s₁.heap.Ns b m->(zkI s₁.heap H).Ns b m:=λ{b m} ⟨o,es,ep,e,d,r⟩=>⟨o,es,ep,base_of e (noA e d),d,r⟩
  have hKb:K.In (zkI s₁.heap H):=λb o e=>base_of (KX b o e) (by
   cases q:H b with
   |none=>rfl
   |some u=>
    have e':b=a:=hA b (by rw[q];simp)
    subst e'
    rw[hK (by rw[q];simp)]at e;cases e)
  have hM:Mod K mg (zkI s₁.heap H):=⟨hKb,nsK hns,⟨mb,nsK hb,hbb⟩,let⟨mc,h1,h2⟩:=hlim;⟨mc,nsK h1,h2⟩⟩
  have e0:Env0 P w K mg (zkI s₁.heap H) callerA [] s₁ H:=⟨rfl,hM,λb o e=>zuu e,Nat.le_of_eq (zpS _ _),trivial,λb hb=>absurd (show b ∈ ([]:List Addr)from hb) (by simp),hok,.of_eq hg⟩
  refine codeAny_mono ((F _ hKb (nsK hns)).run callerA [] s₁ H ⟨[.ref a],[]⟩ [.ref a] [.ref a] _ _ hr e0 (hbind s₁ (.ref a)) (.cons rfl .nil) (hsp H hO hS)) λr s' h=>?_
  cases r with
  |error e=>exact(hCX H e s' h).elim
  |ok fl=>
   cases fl with
   |next=>exact False.elim h
   |brk=>exact False.elim h
   |cont=>exact False.elim h
   |ret u=>
    obtain⟨v,H',os,bare,un,hok',r',q⟩:=h
    have q':v = .bl true:=q
    subst q'
    obtain rfl:u=Value.bool true:=r'
    refine⟨rfl,OldK.of_keep λb o e=>?_,os,bare⟩
    cases q:H b with
    |none=>exact un.keep b o e q (by intro z;exact absurd (show b ∈ ([]:List Addr)from z) (by simp)) (by simp)
    |some u=>
     rcases hO b with z|⟨ob,xs,z⟩
     · rw[q]at z;cases z
     · have z2:=un.frzs b ob _ z
       obtain⟨e1,_⟩:=hok b _ z
       obtain⟨e2,_⟩:=hok' b _ z2
       rw[e]at e1;cases e1
       exact e2
 cases hk:K.lookup a with
 |some o=>
  have e:=KX a o hk
  rw[ha]at e
  cases e
  refine core (λ_=>none) (λ_=>.inl rfl) (.inr ⟨vs.toArray,_,hk,by rw[zzF,lenV];exact hl,by simpa using rv⟩) (λb u z=>by have z':(none:Option HO)=some u:=z;cases z') (λb z=>absurd rfl z) λz=>absurd rfl z
 |none=>
  refine core (λb=>if b=a then some (.frz {cls:=.type "list",data:=.seq vs.toArray} (.lst (ns.map V.int)))else none) (λb=>?_) (.inl (.inr ⟨{cls:=.type "list",data:=.seq vs.toArray},if_pos rfl⟩)) (λb u z=>?_) (λb z=>?_) λ_=>hk
  · by_cases hb:b=a
    · exact .inr ⟨_,_,if_pos hb⟩
    · exact .inl (if_neg hb)
  · by_cases hb:b=a
    · have z':=(if_pos hb).symm.trans z
      cases z'
      subst hb
      exact⟨ha,by rw[zS];exact hl,vs,_,rv,ha⟩
    · have z':=(if_neg hb).symm.trans z
      cases z'
  · by_cases hb:b=a
    · exact hb
    · exact absurd (if_neg hb) z
end L2
namespace L2
open PySem PySem.Spec PyProof.Rows
theorem walk_of{l:PySem.W.OpenLaw}{n k:Nat}{q:Program}{loose:List Str}{XP:(Str->Option Value)->Heap->Prop}{YP:World->Heap->Prop}{d:DefRec}{K:Params->zD}{CX:World->CXT}{sp:World->Sp}{x:Str}
 (hn:l.most=some n) (hn2:n<=sizeLine) (hdf:d.params.defaults=[]) (hr:Room k callerA)
 (hY:∀(w:World) (h:Heap),YP w h->(K w.params).In h)
 (F:∀(w:World) (mg:Str->Option Value) (fa:Addr) (h:Heap),(K w.params).In h->h.Ns mainGlobals mg->mg d.name=some (.ref fa)->
  ∃fd:FuncData,(∀(s:Shared) (u:Value),BindsTo s fd ⟨[u],[]⟩ [(x,u)])/\
   ∀base:Heap,(K w.params).In base->base.Ns mainGlobals mg->FnOk l.prog w (K w.params) mg base (CX w) k fa fd [x] (sp w))
 (hsp:∀(w:World) (H:Hp) (a:Addr) (ns:List Int),ns.length<=n->Only H->RdL (K w.params) H a (ns.map V.int)->sp w [.ref a] H (λv _=>v = .bl true) λ_ _ _=>False)
 (hCX:∀(w:World) (H:Hp) (s:Shared) (e:Value) (s':Shared),CX w [] H s (λ_ _ _=>False) e s'->False):
 PySem.W.WalkO q loose XP YP l.row.toRowW d [] (λf vs=>PySem.call f vs):=by
 refine Att.zmD hn hdf λw s₀ s₁ mg mb fa o pm cd doc a vs ns G Y ho hd hcd hmg hobj hints hlen hg=>?_
 have KX:=hY w _ Y
 obtain⟨fd,hb,hF⟩:=F w mg fa _ KX G.T.g hmg
 exact zsj KX G.T.g G.T.b G.T.builtins G.T.nolimit hg hobj hints (zzM hlen hn2) hr hF hb (λH hO hS=>hsp w H a ns hlen hO hS) λH e s'=>hCX w H s₁ e s'
end L2
namespace L2
open PySem PySem.Spec PyProof.Rows
abbrev CX0:CXT:=λ_ _ _ _ _ _=>False
abbrev E0:XK:=λ_ _ _=>False
theorem zjb:YS CX0 X E0:=λ_ _ _ _ _ _ _ h=>h.elim
structure Fun(K:zD)(x qual:Str)(st:Stmt)(f:Addr)(fd:FuncData):Prop where
 ex:∃(oc:Value) (od:Option Addr) (kV doc pm:Value) (an:Option Addr) (cdv ct:Value) (osl:Array (Option Value)),
  fd=PySem.W.fnOf x qual (zgv st) (W4 st) (zr st) .none kV doc pm an cdv ct/\K.lookup f=some ⟨oc,od,.func fd,osl⟩/\PySem.W.codeIn K cdv qual=true
 kp:PySem.W.keepIn K (.ref f)=true
section
variable{P:Program}{w:World}{K:zD}{mg:Str->Option Value}{base:Heap}
theorem Fun.ok{x qual:Str}{st:Stmt}{f:Addr}{fd:FuncData}{N ps:List Str}{k:Nat}{sp:Sp}(F:Fun K x qual st f fd)(S:FnScope N ps (zr st))(len:∀vs H Q E,sp vs H Q E->vs.length=ps.length)
 (hbody:∀(cdv:Value) (A:Around) (outer:List Env) (s:Shared) (H:Hp) (vs:List V) (Q:VK) (E:XK),Room k (A.deeper (envOfC qual (zr st) s.heap.objs.size f cdv))->sp vs H Q E->
  ∃t,PSs (zla CX0 P w K mg base N qual (zr st) f cdv A outer s H E).nox (W4 st) t/\t {nx:=λ_ H'=>Q .non H',rt:=Q} (start N vs) H):FnOk P w K mg base CX0 (k+1) f fd ps sp:=by
 obtain⟨oc,od,kV,doc,pm,an,cdv,ct,osl,rfl,lk,hcd⟩:=F.ex
 refine zxq lk hcd S len λA outer s H vs Q E hr hsp=>?_
 obtain⟨t,h,q⟩:=hbody cdv A outer s H vs Q E hr hsp
 exact⟨t,h.nox,q⟩
theorem Fun.binds{x qual:Str}{st:Stmt}{f:Addr}{fd:FuncData}{ps:List Str}(F:Fun K x qual st f fd)
 (h:∀(kV doc pm:Value) (an:Option Addr) (cdv ct:Value) (us:List Value),us.length=ps.length->bindArgs (PySem.W.fnOf x qual (zgv st) (W4 st) (zr st) .none kV doc pm an cdv ct) ⟨us,[]⟩=pure (ps.zip us)):Binds K fd ps []:=by
 obtain⟨oc,od,kV,doc,pm,an,cdv,ct,osl,rfl,lk,hcd⟩:=F.ex
 exact .all (h kV doc pm an cdv ct)
end
theorem zct(h:n<=1000):n<sizeLine:=Nat.lt_of_le_of_lt h (by decide)
section
variable{X:Cx}
theorem pv(i:Nat)(hN:X.N[i]? = some x:=by rfl)(hv:Vis X.env.scope x:=by first|exact Or.inl rfl|exact Or.inr (Or.inl rfl)|exact Or.inr (Or.inr rfl))(hd:(x==("__debug__":Str))=false:=by decide)
 (hcd:(x==("__classdict__":Str))=false:=by decide):PE X (.Name x pos) (ziA i):=zsb hN hv hd hcd
end
end L2
end
section
namespace PF
open PySem PySem.Spec PyProof.Rows L2
abbrev St:=L2.St
structure KD where
 d:Addr->List (Key×V)->Prop
 c:Str->Addr
instance:CoeFun KD (λ_=>Addr->List (Key×V)->Prop):=⟨KD.d⟩
inductive D where
 |non|bl (b:Bool)|int (i:Int)|str (x:Str)|tup (ds:List D)|lst (ds:List D)|dct (kvs:List (Key×D))|cl (c:Str)|ob (c:Str) (ns:List Str) (ds:List D)
mutual
inductive Rp(K:zD)(kd:KD)(O:Addr->Prop)(H:Hp):V->D->Prop
 |non:Rp K kd O H .non .non
 |bl (b:Bool):Rp K kd O H (.bl b) (.bl b)
 |int (i:Int):Rp K kd O H (.int i) (.int i)
 |str (x:Str):Rp K kd O H (.str x) (.str x)
 |tup {a:Addr}{vs:List V}{ds:List D}:¬O a->Rd H a (.tup vs)->RpL K kd O H vs ds->Rp K kd O H (.ref a) (.tup ds)
 |tupK {a:Addr}{o:Obj}{its:Array Value}{n:Nat}{vs:List V}{ds:List D}:K.lookup a=some o->o.cls = .type "tuple"->o.data = .seq its n->its.size<=sizeLine->Vals vs its.toList->RpL K kd O H vs ds->Rp K kd O H (.ref a) (.tup ds)
 |lst {a:Addr}{vs:List V}{ds:List D}:¬O a->Rd H a (.lst vs)->RpL K kd O H vs ds->Rp K kd O H (.ref a) (.lst ds)
 |lstK {a:Addr}{its:Array Value}{n:Nat}{vs:List V}{ds:List D}:K.lookup a=some {cls:=.type "list",data:=.seq its n}->its.size<=sizeLine->Vals vs its.toList->RpL K kd O H vs ds->Rp K kd O H (.ref a) (.lst ds)
 |dct {a:Addr}{kvs:List (Key×V)}{ds:List (Key×D)}:¬O a->Rd H a (.dK kvs)->RpM K kd O H kvs ds->Rp K kd O H (.ref a) (.dct ds)
 |dctK {a:Addr}{kvs:List (Key×V)}{ds:List (Key×D)}:kd a kvs->RpM K kd O H kvs ds->Rp K kd O H (.ref a) (.dct ds)
 |cl (c:Str):Rp K kd O H (.ref (kd.c c)) (.cl c)
 |ob {a dx:Addr}{c:Str}{ns:List Str}{vs:List V}{ds:List D}:¬O a->H a=some (.ins (kd.c c) dx (ns.zip vs))->ns.length=vs.length->RpL K kd O H vs ds->Rp K kd O H (.ref a) (.ob c ns ds)
inductive RpL(K:zD)(kd:KD)(O:Addr->Prop)(H:Hp):List V->List D->Prop
 |nil:RpL K kd O H [] []
 |cons {v:V}{d:D}{vs:List V}{ds:List D}:Rp K kd O H v d->RpL K kd O H vs ds->RpL K kd O H (v::vs) (d::ds)
inductive RpM(K:zD)(kd:KD)(O:Addr->Prop)(H:Hp):List (Key×V)->List (Key×D)->Prop
 |nil:RpM K kd O H [] []
 |cons {k:Key}{v:V}{d:D}{vs:List (Key×V)}{ds:List (Key×D)}:Rp K kd O H v d->RpM K kd O H vs ds->RpM K kd O H ((k,v)::vs) ((k,d)::ds)
end
structure Grow(W:Addr->Prop)(H:Hp)(W':Addr->Prop)(H':Hp):Prop where
 keep:∀b o,H b=some o->¬W b->H' b=some o
 own:∀b,W' b->W b\/H b=none
theorem Grow.refl:Grow W H W H:=⟨λ_ _ h _=>h,λ_ h=>.inl h⟩
theorem Grow.trans(a:Grow W H W1 H1)(b:Grow W1 H1 W2 H2):Grow W H W2 H2 where
 keep:=λx o h n=>b.keep x o (a.keep x o h n) λq=>(a.own x q).elim n λz=>by rw[z]at h;cases h
 own:=λx q=>by
  rcases b.own x q with h|h
  · exact a.own x h
  · cases e:H x with
    |none=>exact .inr rfl
    |some o=>
     refine .inl (Classical.byContradiction λn=>?_)
     rw[a.keep x o e n]at h
     cases h
theorem Grow.less(h:∀a,W' a->W a):Grow W H W' H:=⟨λ_ _ q _=>q,λb q=>.inl (h b q)⟩
abbrev Un2(F W:Addr->Prop):Addr->Prop:=λa=>F a\/W a
section
variable{K:zD}{kd:KD}{F W W':Addr->Prop}{H H':Hp}
theorem zcb(g:Grow W H W' H')(n:¬W a)(h:Rd H a u):Rd H' a u:=by
 rcases h with h|⟨o,h⟩
 · exact .inl (g.keep _ _ h n)
 · exact .inr ⟨o,g.keep _ _ h n⟩
theorem zsQ(h:Rd H a u):H a≠none:=by
 rcases h with h|⟨o,h⟩<;>(rw[h];simp)
theorem zdX(g:Grow W H W' H')(n:¬Un2 F W a)(h:Rd H a u):¬Un2 F W' a:=λq=>
 q.elim (λz=>n (.inl z)) λz=>(g.own a z).elim (λy=>n (.inr y)) λy=>zsQ h y
theorem Rp.grow(g:Grow W H W' H')(h:Rp K kd (Un2 F W) H v d):Rp K kd (Un2 F W') H' v d:=
 Rp.rec (motive_1:=λv d _=>Rp K kd (Un2 F W') H' v d) (motive_2:=λvs ds _=>RpL K kd (Un2 F W') H' vs ds) (motive_3:=λvs ds _=>RpM K kd (Un2 F W') H' vs ds) .non .bl .int .str (λn h _ r=>.tup (zdX g n h) (zcb g (λz=>n (.inr z)) h) r) (λa b c e f _ r=>.tupK a b c e f r) (λn h _ r=>.lst (zdX g n h) (zcb g (λz=>n (.inr z)) h) r) (λa e f _ r=>.lstK a e f r) (λn h _ r=>.dct (zdX g n h) (zcb g (λz=>n (.inr z)) h) r) (λh _ r=>.dctK h r) .cl (λn h l _ r=>.ob (zdX g n (.inl h)) (g.keep _ _ h λz=>n (.inr z)) l r) .nil (λ_ _ h r=>.cons h r) .nil (λ_ _ h r=>.cons h r) h
theorem RpL.ind{O:Addr->Prop}{P:List V->List D->Prop}(h0:P [] [])(h1:∀{v d vs ds},Rp K kd O H v d->RpL K kd O H vs ds->P vs ds->P (v::vs) (d::ds)){vs:List V}{ds:List D}(h:RpL K kd O H vs ds):P vs ds:=
 RpL.rec (motive_1:=λ_ _ _=>True) (motive_2:=λvs ds _=>P vs ds) (motive_3:=λ_ _ _=>True) ⟨⟩ (λ_=>⟨⟩) (λ_=>⟨⟩) (λ_=>⟨⟩) (λ_ _ _ _=>⟨⟩) (λ_ _ _ _ _ _ _=>⟨⟩) (λ_ _ _ _=>⟨⟩) (λ_ _ _ _ _=>⟨⟩) (λ_ _ _ _=>⟨⟩) (λ_ _ _=>⟨⟩) (λ_=>⟨⟩) (λ_ _ _ _ _=>⟨⟩) h0 (λa r _ ih=>h1 a r ih) ⟨⟩ (λ_ _ _ _=>⟨⟩) h
theorem RpM.ind{O:Addr->Prop}{P:List (Key×V)->List (Key×D)->Prop}(h0:P [] [])(h1:∀{k v d vs ds},Rp K kd O H v d->RpM K kd O H vs ds->P vs ds->P ((k,v)::vs) ((k,d)::ds)){vs:List (Key×V)}{ds:List (Key×D)}(h:RpM K kd O H vs ds):P vs ds:=
 RpM.rec (motive_1:=λ_ _ _=>True) (motive_2:=λ_ _ _=>True) (motive_3:=λvs ds _=>P vs ds) ⟨⟩ (λ_=>⟨⟩) (λ_=>⟨⟩) (λ_=>⟨⟩) (λ_ _ _ _=>⟨⟩) (λ_ _ _ _ _ _ _=>⟨⟩) (λ_ _ _ _=>⟨⟩) (λ_ _ _ _ _=>⟨⟩) (λ_ _ _ _=>⟨⟩) (λ_ _ _=>⟨⟩) (λ_=>⟨⟩) (λ_ _ _ _ _=>⟨⟩) ⟨⟩ (λ_ _ _ _=>⟨⟩) h0 (λa r _ ih=>h1 a r ih) h
theorem RpL.grow(g:Grow W H W' H'){vs:List V}{ds:List D}(h:RpL K kd (Un2 F W) H vs ds):RpL K kd (Un2 F W') H' vs ds:=RpL.ind .nil (λa _ r=>.cons (Rp.grow g a) r) h
theorem RpM.grow(g:Grow W H W' H'){vs:List (Key×V)}{ds:List (Key×D)}(h:RpM K kd (Un2 F W) H vs ds):RpM K kd (Un2 F W') H' vs ds:=RpM.ind .nil (λa _ r=>.cons (Rp.grow g a) r) h
theorem Rp.less(g:∀a,O' a->O a)(h:Rp K kd O H v d):Rp K kd O' H v d:=
 Rp.rec (motive_1:=λv d _=>Rp K kd O' H v d) (motive_2:=λvs ds _=>RpL K kd O' H vs ds) (motive_3:=λvs ds _=>RpM K kd O' H vs ds) .non .bl .int .str (λn h _ r=>.tup (λz=>n (g _ z)) h r) (λa b c e f _ r=>.tupK a b c e f r) (λn h _ r=>.lst (λz=>n (g _ z)) h r) (λa e f _ r=>.lstK a e f r) (λn h _ r=>.dct (λz=>n (g _ z)) h r) (λh _ r=>.dctK h r) .cl (λn h l _ r=>.ob (λz=>n (g _ z)) h l r) .nil (λ_ _ h r=>.cons h r) .nil (λ_ _ h r=>.cons h r) h
theorem RpL.less{O O':Addr->Prop}(g:∀a,O' a->O a){vs:List V}{ds:List D}(h:RpL K kd O H vs ds):RpL K kd O' H vs ds:=RpL.ind .nil (λa _ r=>.cons (Rp.less g a) r) h
theorem RpM.less{O O':Addr->Prop}(g:∀a,O' a->O a){vs:List (Key×V)}{ds:List (Key×D)}(h:RpM K kd O H vs ds):RpM K kd O' H vs ds:=RpM.ind .nil (λa _ r=>.cons (Rp.less g a) r) h
theorem RpL.length{O:Addr->Prop}{vs:List V}{ds:List D}(h:RpL K kd O H vs ds):vs.length=ds.length:=RpL.ind (P:=λvs ds=>vs.length=ds.length) rfl (λ_ _ r=>congrArg (· + 1) r) h
theorem RpM.length{O:Addr->Prop}{vs:List (Key×V)}{ds:List (Key×D)}(h:RpM K kd O H vs ds):vs.length=ds.length:=RpM.ind (P:=λvs ds=>vs.length=ds.length) rfl (λ_ _ r=>congrArg (· + 1) r) h
theorem RpL.get{O:Addr->Prop}{vs:List V}{ds:List D}{i:Nat}{d:D}(h:RpL K kd O H vs ds)(e:ds[i]? = some d):∃v,vs[i]? = some v/\Rp K kd O H v d:=
 RpL.ind (P:=λvs ds=>∀i,ds[i]? = some d->∃v,vs[i]? = some v/\Rp K kd O H v d) (λi e=>by rw[List.getElem?_nil]at e;cases e) (λa _ ih i e=>by
  cases i with
  |zero=>cases e;exact⟨_,rfl,a⟩
  |succ i=>exact ih i e) h i e
theorem RpL.append{O:Addr->Prop}{vs ws:List V}{ds es:List D}(h:RpL K kd O H vs ds)(r:RpL K kd O H ws es):RpL K kd O H (vs++ws) (ds++es):=RpL.ind (P:=λvs ds=>RpL K kd O H (vs++ws) (ds++es)) r (λa _ t=>.cons a t) h
theorem RpL.take{O:Addr->Prop}{vs:List V}{ds:List D}(n:Nat)(h:RpL K kd O H vs ds):RpL K kd O H (vs.take n) (ds.take n):=
 RpL.ind (P:=λvs ds=>∀n,RpL K kd O H (vs.take n) (ds.take n)) (λn=>by rw[List.take_nil,List.take_nil];exact .nil) (λa _ ih n=>by
  cases n with
  |zero=>exact .nil
  |succ n=>exact .cons a (ih n)) h n
theorem RpL.drop{O:Addr->Prop}{vs:List V}{ds:List D}(n:Nat)(h:RpL K kd O H vs ds):RpL K kd O H (vs.drop n) (ds.drop n):=
 RpL.ind (P:=λvs ds=>∀n,RpL K kd O H (vs.drop n) (ds.drop n)) (λn=>by rw[List.drop_nil,List.drop_nil];exact .nil) (λa b ih n=>by
  cases n with
  |zero=>exact .cons a b
  |succ n=>exact ih n) h n
theorem RpL.rep(h:RpL K kd O H vs ds):∀k:Nat,RpL K kd O H (List.replicate k vs).flatten (List.replicate k ds).flatten
 |0=>.nil
 |k+1=>by
  rw[List.replicate_succ,List.replicate_succ,List.flatten_cons,List.flatten_cons]
  exact h.append (RpL.rep h k)
end
inductive Vw(K:zD)(kd:KD)(O:Addr->Prop)(H:Hp):V->D->Prop
 |non:Vw K kd O H .non .non
 |bl (b:Bool):Vw K kd O H (.bl b) (.bl b)
 |int (i:Int):Vw K kd O H (.int i) (.int i)
 |str (x:Str):Vw K kd O H (.str x) (.str x)
 |tup {a:Addr}{vs:List V}{ds:List D}:Rp K kd O H (.ref a) (.tup ds)->SqT K H a vs->RpL K kd O H vs ds->Vw K kd O H (.ref a) (.tup ds)
 |lst {a:Addr}{vs:List V}{ds:List D}:RdL K H a vs->RpL K kd O H vs ds->Vw K kd O H (.ref a) (.lst ds)
 |dct {a:Addr}{kvs:List (Key×V)}{ds:List (Key×D)}:(Rd H a (.dK kvs)\/kd a kvs)->RpM K kd O H kvs ds->Vw K kd O H (.ref a) (.dct ds)
 |cl (c:Str):Vw K kd O H (.ref (kd.c c)) (.cl c)
 |ob {a dx:Addr}{c:Str}{ns:List Str}{vs:List V}{ds:List D}:H a=some (.ins (kd.c c) dx (ns.zip vs))->ns.length=vs.length->RpL K kd O H vs ds->Vw K kd O H (.ref a) (.ob c ns ds)
theorem Rp.vw{K:zD}{kd:KD}{O:Addr->Prop}{H:Hp}{v:V}{d:D}(h:Rp K kd O H v d):Vw K kd O H v d:=by
 cases h with
 |non=>exact .non
 |bl b=>exact .bl b
 |int i=>exact .int i
 |str x=>exact .str x
 |tup n h r=>exact .tup (.tup n h r) (.inl h) r
 |tupK a b c e f r=>exact .tup (.tupK a b c e f r) (.inr ⟨_,_,_,a,b,c,e,f⟩) r
 |lst n h r=>exact .lst (.inl h) r
 |lstK a e f r=>exact .lst (.inr ⟨_,_,a,e,f⟩) r
 |dct n h r=>exact .dct (.inl h) r
 |dctK h r=>exact .dct (.inr h) r
 |cl c=>exact .cl c
 |ob n h l r=>exact .ob h l r
theorem _root_.L2.RdL.sq{K:zD}{H:Hp}{a:Addr}{xs:List V}(h:RdL K H a xs):SqL K H a xs:=by
 rcases h with h|⟨its,n,k,z,r⟩
 · exact .inl h
 · exact .inr ⟨_,its,n,k,rfl,rfl,rfl,z,r⟩
theorem zmR(I:Inv X pins σ H s)(h:RdL X.K H a xs):
 xs.length<=sizeLine/\∃(its:List Value) (n:Nat),Vals xs its/\s.heap.get? a=some {cls:=.type "list",data:=.seq its.toArray n}:=by
 rcases h with h|⟨its,n,k,z,r⟩
 · exact h.ok I.hok
 · refine⟨by rw[r.length];simpa using z,its.toList,n,r,by simpa using I.kIn _ _ k⟩
theorem Rp.cl_eq{K:zD}{kd:KD}{O:Addr->Prop}{H:Hp}{C:Addr}{c:Str}(h:Rp K kd O H (.ref C) (.cl c)):C=kd.c c:=by
 cases h;rfl
def yd:D->Bool
 | .non=>true | .bl _=>true | .int _=>true | .str _=>true|_=>false
theorem Rp.flat{K:zD}{kd:KD}{O O':Addr->Prop}{H H':Hp}{v:V}{d:D}(h:Rp K kd O H v d)(e:yd d=true):Rp K kd O' H' v d:=by
 cases h with
 |non=>exact .non
 |bl b=>exact .bl b
 |int i=>exact .int i
 |str x=>exact .str x
 |_=>cases e
inductive Kind where
 |ls|tp|dc (ks:List Key)|ob (c:Str) (ns:List Str)
inductive O where
 |lf (st:Bool) (d:D)|nd (k:Kind) (os:List O)
abbrev lfs(st:Bool)(d:D):O:=.lf (yd d||st) d
mutual
inductive Ro(L:Bool->V->D->Prop)(N:Addr->Prop)(H:Hp):V->O->List Addr->Prop
 |lf {st:Bool}{v:V}{d:D}:L st v d->Ro L N H v (.lf st d) []
 |ls {a:Addr}{vs:List V}{os:List O}{fp:List Addr}:H a=some (.lst vs)->RoL L N H vs os fp->Ro L N H (.ref a) (.nd .ls os) (a::fp)
 |dc {a:Addr}{ks:List Key}{vs:List V}{os:List O}{fp:List Addr}:H a=some (.dK (ks.zip vs))->ks.length=vs.length->RoL L N H vs os fp->Ro L N H (.ref a) (.nd (.dc ks) os) (a::fp)
 |ob {a dx C:Addr}{c:Str}{ns:List Str}{vs:List V}{os:List O}{fp:List Addr}:L true (.ref C) (.cl c)->H a=some (.ins C dx (ns.zip vs))->ns.length=vs.length->RoL L N H vs os fp->Ro L N H (.ref a) (.nd (.ob c ns) os) (a::fp)
 |tp {a:Addr}{vs:List V}{os:List O}{fp:List Addr}:N a->H a=some (.tup vs)->RoL L N H vs os fp->Ro L N H (.ref a) (.nd .tp os) fp
inductive RoL(L:Bool->V->D->Prop)(N:Addr->Prop)(H:Hp):List V->List O->List Addr->Prop
 |nil:RoL L N H [] [] []
 |cons {v:V}{o:O}{vs:List V}{os:List O}{fp fq:List Addr}:Ro L N H v o fp->RoL L N H vs os fq->RoL L N H (v::vs) (o::os) (fp++fq)
end
mutual
def O.toD:O->D
 | .lf _ d=>d
 | .nd .ls os=>.lst (O.toDs os)
 | .nd .tp os=>.tup (O.toDs os)
 | .nd (.dc ks) os=>.dct (ks.zip (O.toDs os))
 | .nd (.ob c ns) os=>.ob c ns (O.toDs os)
def O.toDs:List O->List D
 | []=>[]
 |o::r=>o.toD::O.toDs r
end
mutual
def O.str:O->Bool
 | .lf st _=>st
 | .nd _ os=>O.strs os
def O.strs:List O->Bool
 | []=>true
 |o::r=>o.str&&O.strs r
end
section
variable{L L':Bool->V->D->Prop}{N N':Addr->Prop}{H H':Hp}{K:zD}{kd:KD}{Ob:Addr->Prop}
theorem Ro.mono(hL:∀st v d,L st v d->L' st v d)(hN:∀a vs,N a->H a=some (.tup vs)->N' a/\H' a=some (.tup vs))(k:∀a ∈ fp,∀u,H a=some u->H' a=some u)(h:Ro L N H v o fp):Ro L' N' H' v o fp:=
 Ro.rec (motive_1:=λv o fp _=>(∀a ∈ fp,∀u,H a=some u->H' a=some u)->Ro L' N' H' v o fp) (motive_2:=λvs os fp _=>(∀a ∈ fp,∀u,H a=some u->H' a=some u)->RoL L' N' H' vs os fp)
  (λh _=>.lf (hL _ _ _ h)) (λh _ r k=>.ls (k _ zzD _ h) (r λa m=>k a (zzB _ m))) (λh l _ r k=>.dc (k _ zzD _ h) l (r λa m=>k a (zzB _ m))) (λc h l _ r k=>.ob (hL _ _ _ c) (k _ zzD _ h) l (r λa m=>k a (zzB _ m))) (λn h _ r k=>.tp (hN _ _ n h).1 (hN _ _ n h).2 (r k))
  (λ_=>.nil) (λ_ _ h r k=>.cons (h λa m=>k a (zzN _ m)) (r λa m=>k a (zzJ _ m))) h k
theorem RoL.ind{P:List V->List O->List Addr->Prop}(h0:P [] [] [])(h1:∀{v o vs os fp fq},Ro L N H v o fp->RoL L N H vs os fq->P vs os fq->P (v::vs) (o::os) (fp++fq)){vs:List V}{os:List O}{fp:List Addr}(h:RoL L N H vs os fp):P vs os fp:=
 RoL.rec (motive_1:=λ_ _ _ _=>True) (motive_2:=λvs os fp _=>P vs os fp) (λ_=>⟨⟩) (λ_ _ _=>⟨⟩) (λ_ _ _ _=>⟨⟩) (λ_ _ _ _ _=>⟨⟩) (λ_ _ _ _=>⟨⟩) h0 (λa r _ ih=>h1 a r ih) h
theorem RoL.mono(hL:∀st v d,L st v d->L' st v d)(hN:∀a vs,N a->H a=some (.tup vs)->N' a/\H' a=some (.tup vs)){vs:List V}{os:List O}{fp:List Addr}(k:∀a ∈ fp,∀u,H a=some u->H' a=some u)(h:RoL L N H vs os fp):RoL L' N' H' vs os fp:=
 RoL.ind (P:=λvs os fp=>(∀a ∈ fp,∀u,H a=some u->H' a=some u)->RoL L' N' H' vs os fp) (λ_=>.nil) (λh _ r k=>.cons (Ro.mono hL hN (λa m=>k a (zzN _ m)) h) (r λa m=>k a (zzJ _ m))) h k
theorem zgn:∀{ks:List Key}{vs:List V}{ds:List D},RpL K kd Ob H vs ds->ks.length=vs.length->RpM K kd Ob H (ks.zip vs) (ks.zip ds)
 | [],_,_,_,_=>.nil
 |_::_,_,_,.nil,e=>by simp at e
 |_::_,_,_,.cons h r,e=>.cons h (zgn r (by simpa using e))
theorem Ro.rp(b:Bool)(hL:∀st v d,(b=true->st=true)->L st v d->Rp K kd Ob H v d)(hN:∀a,N a->¬Ob a){v:V}{o:O}{fp:List Addr}(s:b=true->o.str=true)(k:∀a ∈ fp,¬Ob a)(h:Ro L N H v o fp):Rp K kd Ob H v o.toD:=
 Ro.rec (motive_1:=λv o fp _=>(b=true->o.str=true)->(∀a ∈ fp,¬Ob a)->Rp K kd Ob H v o.toD) (motive_2:=λvs os fp _=>(b=true->O.strs os=true)->(∀a ∈ fp,¬Ob a)->RpL K kd Ob H vs (O.toDs os))
  (λh s _=>hL _ _ _ s h) (λh _ r s k=>.lst (k _ zzD) (.inl h) (r s λa m=>k a (zzB _ m))) (λh l _ r s k=>.dct (k _ zzD) (.inl h) (zgn (r s λa m=>k a (zzB _ m)) l)) (λc h l _ r s k=>by
   have e:=(hL _ _ _ (λ_=>rfl) c).cl_eq
   subst e
   exact .ob (k _ zzD) h l (r s λa m=>k a (zzB _ m))) (λn h _ r s k=>.tup (hN _ n) (.inl h) (r s k))
  (λ_ _=>.nil) (λ_ _ h r s k=>.cons (h (λz=>((QzA _ _).mp (s z)).1) λa m=>k a (zzN _ m)) (r (λz=>((QzA _ _).mp (s z)).2) λa m=>k a (zzJ _ m))) h s k
theorem RoL.rp(b:Bool)(hL:∀st v d,(b=true->st=true)->L st v d->Rp K kd Ob H v d)(hN:∀a,N a->¬Ob a){vs:List V}{os:List O}{fp:List Addr}(s:b=true->O.strs os=true)(k:∀a ∈ fp,¬Ob a)(h:RoL L N H vs os fp):RpL K kd Ob H vs (O.toDs os):=
 RoL.ind (P:=λvs os fp=>(b=true->O.strs os=true)->(∀a ∈ fp,¬Ob a)->RpL K kd Ob H vs (O.toDs os)) (λ_ _=>.nil) (λh _ r s k=>.cons (Ro.rp b hL hN (λz=>((QzA _ _).mp (s z)).1) (λa m=>k a (zzN _ m)) h) (r (λz=>((QzA _ _).mp (s z)).2) λa m=>k a (zzJ _ m))) h s k
theorem RoL.length{vs:List V}{os:List O}{fp:List Addr}(h:RoL L N H vs os fp):vs.length=os.length:=RoL.ind (P:=λvs os _=>vs.length=os.length) rfl (λ_ _ r=>congrArg (· + 1) r) h
theorem zfB:∀os:List O,(O.toDs os).length=os.length
 | []=>rfl
 |_::r=>congrArg (· + 1) (zfB r)
theorem RoL.append{vs ws:List V}{os ps:List O}{f g:List Addr}(h:RoL L N H vs os f)(r:RoL L N H ws ps g):RoL L N H (vs++ws) (os++ps) (f++g):=RoL.ind (P:=λvs os f=>RoL L N H (vs++ws) (os++ps) (f++g)) r (λh _ t=>by rw[QyA];exact .cons h t) h
theorem RoL.one(h:Ro L N H v o f):RoL L N H [v] [o] f:=by
 have:=RoL.cons h (RoL.nil (L:=L) (N:=N) (H:=H))
 rw[QzC]at this
 exact this
theorem RoL.at_:∀{vs:List V}{os:List O}{fp:List Addr},RoL L N H vs os fp->os[k]? = some o->∃v f fo g,vs[k]? = some v/\fp=f++(fo++g)/\Ro L N H v o fo/\RoL L N H (vs.take k) (os.take k) f/\RoL L N H (vs.drop (k+1)) (os.drop (k+1)) g:=by
 induction k with
 |zero=>
  intro vs os fp h e
  cases h with
  |nil=>cases e
  |cons h r=>
   rw[List.getElem?_cons_zero]at e
   cases e
   exact⟨_,[],_,_,rfl,rfl,h,.nil,r⟩
 |succ k ih=>
  intro vs os fp h e
  cases h with
  |nil=>cases e
  |cons h r=>
   rw[List.getElem?_cons_succ]at e
   obtain⟨v,f,fo,g,e1,e2,h1,h2,h3⟩:=ih r e
   subst e2
   exact⟨v,_,fo,g,by rw[List.getElem?_cons_succ];exact e1,(QyA _ _ _).symm,h1,.cons h h2,h3⟩
theorem zfL(l:List α)(k:Nat):l.eraseIdx k=l.take k++l.drop (k+1):=List.eraseIdx_eq_take_drop_succ l k
end
abbrev AS:=List (Option O)
abbrev Ad:=Nat->List Addr
def Gw(T:List Addr)(ad:Ad):Addr->Prop:=λa=>a ∈ T\/∃i,a ∈ ad i
abbrev Lv(F B G:Addr->Prop)(st:Bool):Addr->Prop:=Un2 (λa=>(st=true/\F a)\/B a) G
abbrev Lf(K:zD)(kd:KD)(F B G:Addr->Prop)(H:Hp):Bool->V->D->Prop:=λst v d=>Rp K kd (Lv F B G st) H v d
abbrev Nf(F B G:Addr->Prop):Addr->Prop:=λa=>¬Lv F B G true a
abbrev RoS(K:zD)(kd:KD)(F B G:Addr->Prop)(H:Hp):V->O->List Addr->Prop:=Ro (Lf K kd F B G H) (Nf F B G) H
abbrev YF(K:zD)(kd:KD)(F B G:Addr->Prop)(H:Hp):List V->List O->List Addr->Prop:=RoL (Lf K kd F B G H) (Nf F B G) H
def zig(K:zD)(kd:KD)(F B G:Addr->Prop)(H:Hp):Option O->Option (Option V)->List Addr->Prop
 |none,_,fp=>fp=[]
 |some o,s,fp=>∃v,s=some (some v)/\RoS K kd F B G H v o fp
structure Rel(K:zD)(kd:KD)(F B:Addr->Prop)(T:List Addr)(ad:Ad)(as:AS)(σ:St)(H:Hp):Prop where
 len:as.length=σ.length
 out:∀i,as.length<=i->ad i=[]
 nd:∀i,(ad i).Nodup
 inj:∀i j a,a ∈ ad i->a ∈ ad j->i=j
 tnd:T.Nodup
 dis:∀i a,a ∈ ad i->a ∉ T
 ftr:∀a,F a->H a≠none
 btr:∀a,B a->H a≠none/\¬F a/\¬Gw T ad a
 gtr:∀a,Gw T ad a->H a≠none/\¬F a
 sl:∀i s,as[i]? = some s->zig K kd F B (Gw T ad) H s σ[i]? (ad i)
inductive RV where
 |ow (o:O)|bo (i:Nat)
def vZ(K:zD)(kd:KD)(F B:Addr->Prop)(T:List Addr)(ad:Ad)(σ:St)(H:Hp)(v:V):RV->Prop
 | .ow o=>RoS K kd F B (Gw T ad) H v o T
 | .bo i=>T=[]/\σ[i]? = some (some v)
def O.frz(o:O):O:=.lf o.str o.toD
def RV.frz:RV->RV
 | .ow o=>.ow o.frz
 | .bo i=>.bo i
def O.isLf:O->Bool
 | .lf _ _=>true
 |_=>false
def O.kl:O->Option Bool
 | .lf st _=>some st
 | .nd _ os=>if os.all O.isLf=true then some (O.strs os)else none
def RV.view(as:AS):RV->Option (D×Option Bool)
 | .ow o=>some (o.toD,some o.str)
 | .bo i=>match as[i]? with
  |some (some o)=>some (o.toD,o.kl)
  |_=>none
def Obl(F B G:Addr->Prop):Option Bool->Addr->Prop
 |some st=>Lv F B G st
 |none=>λ_=>False
section
variable{K:zD}{kd:KD}{F B F' B':Addr->Prop}{G G':Addr->Prop}{T T':List Addr}{ad ad1:Ad}{as as1:AS}{σ:St}{H H1 H':Hp}{v:V}{r:RV}{o:O}{fp:List Addr}{vs:List V}{os:List O}
theorem RoS.grow(g:Grow G H G' H')(k:∀a ∈ fp,∀u,H a=some u->H' a=some u)(h:RoS K kd F B G H v o fp):RoS K kd F B G' H' v o fp:=
 Ro.mono (λst v d r=>Rp.grow g r) (λa vs n e=>⟨λz=>z.elim (λy=>n (.inl y)) λy=>(g.own a y).elim (λw=>n (.inr w)) λw=>(by rw[w]at e;cases e),g.keep a _ e (λw=>n (.inr w))⟩) k h
theorem YF.grow(g:Grow G H G' H')(k:∀a ∈ fp,∀u,H a=some u->H' a=some u)(h:YF K kd F B G H vs os fp):YF K kd F B G' H' vs os fp:=
 RoL.mono (λst v d r=>Rp.grow g r) (λa vs n e=>⟨λz=>z.elim (λy=>n (.inl y)) λy=>(g.own a y).elim (λw=>n (.inr w)) λw=>(by rw[w]at e;cases e),g.keep a _ e (λw=>n (.inr w))⟩) k h
theorem RoS.lv(g:∀st a,Lv F' B' G' st a->Lv F B G st a)(h:RoS K kd F B G H v o fp):RoS K kd F' B' G' H v o fp:=
 Ro.mono (λst v d r=>r.less (g st)) (λa vs n e=>⟨λz=>n (g true a z),e⟩) (λ_ _ _ e=>e) h
theorem YF.lv(g:∀st a,Lv F' B' G' st a->Lv F B G st a)(h:YF K kd F B G H vs os fp):YF K kd F' B' G' H vs os fp:=
 RoL.mono (λst v d r=>r.less (g st)) (λa vs n e=>⟨λz=>n (g true a z),e⟩) (λ_ _ _ e=>e) h
theorem RoS.less(g:∀a,G' a->G a)(h:RoS K kd F B G H v o fp):RoS K kd F B G' H v o fp:=RoS.lv (λ_ a z=>z.elim .inl λy=>.inr (g a y)) h
theorem Gw.drop:∀a,Gw [] ad a->Gw T ad a:=λ_ h=>h.elim (λz=>nomatch z) .inr
theorem Rel.trk(R:Rel K kd F B T ad as σ H)(st:Bool):∀a,Lv F B (Gw T ad) st a->H a≠none:=λa h=>by
 rcases h with(h|h)|h
 · exact R.ftr a h.2
 · exact(R.btr a h).1
 · exact(R.gtr a h).1
theorem Rel.tr(R:Rel K kd F B T ad as σ H)(lv:Option Bool):∀a,Obl F B (Gw T ad) lv a->H a≠none:=λa h=>by
 cases lv with
 |none=>exact h.elim
 |some st=>exact R.trk st a h
theorem zig.lv(g:∀st a,Lv F' B' G' st a->Lv F B G st a)(h:zig K kd F B G H s x fp):zig K kd F' B' G' H s x fp:=by
 cases s with
 |none=>exact h
 |some o=>obtain⟨v,e,r⟩:=h;exact⟨v,e,RoS.lv g r⟩
theorem zig.less(g:∀a,G' a->G a)(h:zig K kd F B G H s x fp):zig K kd F B G' H s x fp:=h.lv (λ_ a z=>z.elim .inl λy=>.inr (g a y))
theorem zig.grow(g:Grow G H G' H')(k:∀a ∈ fp,∀u,H a=some u->H' a=some u)(h:zig K kd F B G H s x fp):zig K kd F B G' H' s x fp:=by
 cases s with
 |none=>exact h
 |some o=>obtain⟨v,e,r⟩:=h;exact⟨v,e,RoS.grow g k r⟩
theorem Rel.drop(R:Rel K kd F B T ad as σ H):Rel K kd F B [] ad as σ H where
 len:=R.len
 out:=R.out
 nd:=R.nd
 inj:=R.inj
 tnd:=QzH
 dis:=λ_ _ _ z=>nomatch z
 ftr:=R.ftr
 btr:=λa h=>let⟨h1,h2,h3⟩:=R.btr a h;⟨h1,h2,λz=>h3 (Gw.drop a z)⟩
 gtr:=λa h=>R.gtr a (Gw.drop a h)
 sl:=λi s e=>(R.sl i s e).less Gw.drop
theorem zni(R:Rel K kd F B T ad as σ H)(h:RoS K kd F B (Gw T ad) H v o T):Rp K kd (Lv F B (Gw [] ad) o.str) H v o.toD:=
 Ro.rp o.str (λst v d hs r=>r.less λa z=>z.elim (λy=>.inl (y.elim (λx=>.inl ⟨hs x.1,x.2⟩) .inr)) λy=>.inr (Gw.drop a y))
  (λa n z=>n (z.elim (λy=>.inl (y.elim (λx=>.inl ⟨rfl,x.2⟩) .inr)) λy=>.inr (Gw.drop a y))) id
  (λa m z=>by
   rcases z with(z|z)|z|⟨i,z⟩
   · exact(R.gtr a (.inl m)).2 z.2
   · exact(R.btr a z).2.2 (.inl m)
   · cases z
   · exact R.dis i a z m) h
theorem vZ.drop(R:Rel K kd F B T ad as σ H)(h:vZ K kd F B T ad σ H v r):vZ K kd F B [] ad σ H v r.frz:=by
 cases r with
 |ow o=>exact .lf (zni R h)
 |bo i=>exact⟨rfl,h.2⟩
theorem vZ.grow(g:Grow (Gw [] ad) H (Gw [] ad1) H1)(h:vZ K kd F B [] ad σ H v r):vZ K kd F B [] ad1 σ H1 v r:=by
 cases r with
 |ow o=>exact RoS.grow g (λ_ m=>nomatch m) h
 |bo i=>exact h
theorem zsf(h:YF K kd F B G H vs os fp):os.all O.isLf=true->fp=[]:=
 RoL.ind (P:=λ_ os fp=>os.all O.isLf=true->fp=[]) (λ_=>rfl) (λh _ ih e=>by
  rw[List.all_cons,QzA]at e
  rw[ih e.2,QzC]
  cases h with
  |lf=>rfl
  |ls=>cases e.1
  |dc=>cases e.1
  |ob=>cases e.1
  |tp=>cases e.1) h
theorem zhh{st:Bool}{b:Bool}(hs:b=true->st=true):∀a,Lv F B G b a->Lv F B G st a:=λa z=>z.elim (λy=>.inl (y.elim (λx=>.inl ⟨hs x.1,x.2⟩) .inr)) .inr
theorem zhi(h:YF K kd F B G H vs os fp)(e:os.all O.isLf=true):RpL K kd (Lv F B G (O.strs os)) H vs (O.toDs os):=by
 have:=zsf h e
 subst this
 exact RoL.rp (O.strs os) (λst v d hs r=>r.less (zhh hs)) (λa n z=>n (zhh (λ_=>rfl) a z)) id (by intro a m;cases m) h
theorem zdT(h:YF K kd F B G H vs os fp):RpL K kd (λ_=>False) H vs (O.toDs os):=RoL.rp false (λst v d _ r=>r.less λ_ z=>z.elim) (λ_ _ z=>z) (λz=>Bool.noConfusion z) (λ_ _ z=>z) h
theorem zjX(h:RoS K kd F B G H v o fp):Rp K kd (λ_=>False) H v o.toD:=Ro.rp false (λst v d _ r=>r.less λ_ z=>z.elim) (λ_ _ z=>z) (λz=>Bool.noConfusion z) (λ_ _ z=>z) h
theorem zkk(h:RoS K kd F B G H v o []):Rp K kd (Lv F B G o.str) H v o.toD:=
 Ro.rp o.str (λst v d hs r=>r.less (zhh hs)) (λa n z=>n (zhh (λ_=>rfl) a z)) id (by intro a m;cases m) h
theorem RoS.vw(h:RoS K kd F B G H v o fp):Vw K kd (Obl F B G o.kl) H v o.toD:=by
 cases h with
 |lf h=>exact h.vw
 |ls hH r=>
  rename_i a vs' os' fp'
  show Vw K kd (Obl F B G (if os'.all O.isLf=true then some (O.strs os')else none)) H _ (.lst (O.toDs os'))
  by_cases e:os'.all O.isLf=true
  · rw[if_pos e];exact .lst (.inl (.inl hH)) (zhi r e)
  · rw[if_neg e];exact .lst (.inl (.inl hH)) (zdT r)
 |dc hH l r=>
  rename_i a ks vs' os' fp'
  show Vw K kd (Obl F B G (if os'.all O.isLf=true then some (O.strs os')else none)) H _ (.dct (ks.zip (O.toDs os')))
  by_cases e:os'.all O.isLf=true
  · rw[if_pos e];exact .dct (.inl (.inl hH)) (zgn (zhi r e) l)
  · rw[if_neg e];exact .dct (.inl (.inl hH)) (zgn (zdT r) l)
 |ob hc hH l r=>
  rename_i a dx C c ns vs' os' fp'
  have ec:C=kd.c c:=hc.cl_eq
  subst ec
  show Vw K kd (Obl F B G (if os'.all O.isLf=true then some (O.strs os')else none)) H _ (.ob c ns (O.toDs os'))
  by_cases e:os'.all O.isLf=true
  · rw[if_pos e];exact .ob hH l (zhi r e)
  · rw[if_neg e];exact .ob hH l (zdT r)
 |tp n hH r=>
  rename_i a vs' os'
  show Vw K kd (Obl F B G (if os'.all O.isLf=true then some (O.strs os')else none)) H _ (.tup (O.toDs os'))
  by_cases e:os'.all O.isLf=true
  · rw[if_pos e]
    have rl:=zhi r e
    exact .tup (.tup (λz=>n (zhh (λ_=>rfl) _ z)) (.inl hH) rl) (.inl (.inl hH)) rl
  · rw[if_neg e];exact .tup (.tup (λz=>z) (.inl hH) (zdT r)) (.inl (.inl hH)) (zdT r)
theorem vZ.vw(R:Rel K kd F B [] ad as σ H)(h:vZ K kd F B [] ad σ H v r)(e:r.view as=some (d,lv)):Vw K kd (Obl F B (Gw [] ad) lv) H v d:=by
 cases r with
 |ow o=>
  cases e
  exact(zkk h).vw
 |bo i=>
  have e:(match as[i]? with|some (some o)=>some (o.toD,o.kl)|_=>none)=some (d,lv):=e
  cases k:as[i]? with
  |none=>rw[k]at e;cases e
  |some s=>
   cases s with
   |none=>rw[k]at e;cases e
   |some o=>
    rw[k]at e
    cases e
    obtain⟨w,hw,ro⟩:=R.sl i _ k
    rw[h.2]at hw
    cases hw
    exact ro.vw
theorem Rel.add(R:Rel K kd F B T ad as σ H)(hn:N.Nodup)(hl:∀a ∈ N,H a=none)(k:∀b u,H b=some u->H' b=some u)(h1:∀a ∈ N,H' a≠none):Rel K kd F B (N++T) ad as σ H'/\Grow (Gw T ad) H (Gw (N++T) ad) H':=by
 have g:Grow (Gw T ad) H (Gw (N++T) ad) H':=⟨λb u h _=>k b u h,λb h=>by
  rcases h with h|h
  · rcases zzK.mp h with h|h
    · exact .inr (hl b h)
    · exact .inl (.inl h)
  · exact .inl (.inr h)⟩
 have kn:∀a,H a≠none->H' a≠none:=λa z=>by
  cases e:H a with
  |none=>exact absurd e z
  |some u=>rw[k a u e];simp
 refine⟨⟨R.len,R.out,R.nd,R.inj, ?_,λi a m z=>?_,λa z=>kn a (R.ftr a z),λa z=>?_,λa z=>?_,λi s e=>(R.sl i s e).grow g λa _ u h=>k a u h⟩,g⟩
 · refine QyC.mpr ⟨hn,R.tnd,λa m b m' e=>?_⟩
   subst e
   exact(R.gtr a (.inl m')).1 (hl a m)
 · rcases zzK.mp z with z|z
   · exact(R.gtr a (.inr ⟨i,m⟩)).1 (hl a z)
   · exact R.dis i a m z
 · obtain⟨b1,b2,b3⟩:=R.btr a z
   refine⟨kn a b1,b2,λy=>?_⟩
   rcases y with y|y
   · rcases zzK.mp y with y|y
     · exact b1 (hl a y)
     · exact b3 (.inl y)
   · exact b3 (.inr y)
 · rcases z with z|z
   · rcases zzK.mp z with z|z
     · exact⟨h1 a z,λf=>R.ftr a f (hl a z)⟩
     · exact⟨kn a (R.gtr a (.inl z)).1,(R.gtr a (.inl z)).2⟩
   · exact⟨kn a (R.gtr a (.inr z)).1,(R.gtr a (.inr z)).2⟩
theorem Rel.more(R:Rel K kd F B T ad as σ H)(k:∀b u,H b=some u->H' b=some u):Rel K kd F B T ad as σ H'/\Grow (Gw T ad) H (Gw T ad) H':=
 R.add (N:=[]) QzH (λ_ m=>nomatch m) k (λ_ m=>nomatch m)
theorem Rel.news(R:Rel K kd F B [] ad as σ H)(hn:T'.Nodup)(hl:∀a ∈ T',H a=none)(k:∀b u,H b=some u->H' b=some u)(h1:∀a ∈ T',H' a≠none):Rel K kd F B T' ad as σ H'/\Grow (Gw [] ad) H (Gw T' ad) H':=by
 have:=R.add hn hl k h1
 rw[QzC]at this
 exact this
end
inductive R0 where
 |im (d:D)|fl (ds:List D)|fd (kvs:List (Key×D))
def RQ(K:zD)(kd:KD)(O:Addr->Prop)(H:Hp)(Q:VK):R0->Prop
 | .im d=>∀v H',(∀b o,H b=some o->H' b=some o)->Rp K kd O H' v d->Q v H'
 | .fl ds=>∀l vs H',H l=none->(∀b o,H b=some o->H' b=some o)->H' l=some (.lst vs)->RpL K kd (Un2 O (· = l)) H' vs ds->Q (.ref l) H'
 | .fd ds=>∀l vs H',H l=none->(∀b o,H b=some o->H' b=some o)->H' l=some (.dK vs)->RpM K kd (Un2 O (· = l)) H' vs ds->Q (.ref l) H'
def wrap(lv:Option Bool):R0->Option RV
 | .im d=>if(yd d||lv.isSome)=true then some (.ow (lfs (lv.getD false) d))else none
 | .fl ds=>if(ds.all yd||lv.isSome)=true then some (.ow (.nd .ls (ds.map (lfs (lv.getD false)))))else none
 | .fd kvs=>if((kvs.map (·.2)).all yd||lv.isSome)=true then some (.ow (.nd (.dc (kvs.map (·.1))) ((kvs.map (·.2)).map (lfs (lv.getD false)))))else none
theorem bS_(h:o.bind f=some b):∃a,o=some a/\f a=some b:=by
 cases o with
 |none=>cases h
 |some a=>exact⟨a,rfl,h⟩
theorem ite_some'[Decidable c](h:(if c then a else none)=some b):c/\a=some b:=by
 by_cases hc:c
 · rw[if_pos hc]at h;exact⟨hc,h⟩
 · rw[if_neg hc]at h;cases h
theorem ye[Decidable c](h:(if c then some a else none)=some b):c/\a=b:=by
 by_cases hc:c
 · rw[if_pos hc]at h;cases h;exact⟨hc,rfl⟩
 · rw[if_neg hc]at h;cases h
section
variable{K:zD}{kd:KD}{F B:Addr->Prop}{G:Addr->Prop}{ad:Ad}{as:AS}{σ:St}{H H':Hp}{v:V}{r:R0}{rv:RV}{Q:VK}{lv:Option Bool}
theorem zuC(h:yd d=true\/lv.isSome=true)(hO:∀st,lv=some st->∀a,Lv F B G st a->Ob a)(rp:Rp K kd Ob H v d):Lf K kd F B G H (yd d||lv.getD false) v d:=by
 cases e:yd d with
 |true=>exact rp.flat e
 |false=>
  rw[e]at h
  cases lv with
  |none=>rcases h with h|h<;>cases h
  |some st=>exact rp.less (hO st rfl)
theorem zqA(hO:∀st,lv=some st->∀a,Lv F B G st a->Ob a)(e:(ds.all yd||lv.isSome)=true)(h:RpL K kd Ob H vs ds):RoL (Lf K kd F B G H) N H vs (ds.map (lfs (lv.getD false))) []:=
 RpL.ind (P:=λvs ds=>(ds.all yd||lv.isSome)=true->RoL (Lf K kd F B G H) N H vs (ds.map (lfs (lv.getD false))) []) (λ_=>.nil) (λ{v d vs ds} h _ ih e=>by
  rw[List.all_cons]at e
  have e1:yd d=true\/lv.isSome=true:=by
   cases h1:lv.isSome<;>cases h2:yd d<;>simp[h1,h2]at e ⊢
  have e2:(ds.all yd||lv.isSome)=true:=by
   cases h1:lv.isSome with
   |true=>simp
   |false=>
    rw[h1,Bool.or_false,QzA]at e
    rw[Bool.or_false];exact e.2
  exact RoL.cons (.lf (zuC e1 hO h)) (ih e2)) h e
theorem zpn{O:Addr->Prop}{vs:List (Key×V)}{ds:List (Key×D)}(h:RpM K kd O H vs ds):vs=(ds.map (·.1)).zip (vs.map (·.2))/\RpL K kd O H (vs.map (·.2)) (ds.map (·.2)):=
 RpM.ind (P:=λvs ds=>vs=(ds.map (·.1)).zip (vs.map (·.2))/\RpL K kd O H (vs.map (·.2)) (ds.map (·.2))) ⟨rfl,.nil⟩ (λh _ ih=>by
  obtain⟨h1,h2⟩:=ih
  refine⟨?_,.cons h h2⟩
  conv=>lhs;rw[h1]
  rfl) h
theorem Y0(R:Rel K kd F B [] ad as σ H)(e:wrap lv r=some rv)(q:∀v T' H',Rel K kd F B T' ad as σ H'->vZ K kd F B T' ad σ H' v rv->Grow (Gw [] ad) H (Gw T' ad) H'->Q v H'):RQ K kd (Obl F B (Gw [] ad) lv) H Q r:=by
 have hO:∀(l:List Addr) st,lv=some st->∀a,Lv F B (Gw l ad) st a->Un2 (Obl F B (Gw [] ad) lv) (· ∈ l) a:=by
  intro l st e a z
  subst e
  rcases z with z|z|z
  · exact .inl (.inl z)
  · exact .inr z
  · exact .inl (.inr (.inr z))
 cases r with
 |im d=>
  obtain⟨c,rfl⟩:=ye e
  intro v H' k rp
  obtain⟨R',g⟩:=R.more k
  refine q v [] H' R' (.lf (zuC ((Bool.or_eq_true _ _).mp c) (λst e a z=>?_) rp)) g
  exact(hO [] st e a z).elim id λm=>nomatch m
 |fl ds=>
  obtain⟨c,rfl⟩:=ye e
  intro l vs H' hl k hl' rp
  obtain⟨R',g⟩:=R.news (T':=[l]) (by simp) (λa m=>by rw[zzP.mp m];exact hl) k (λa m=>by rw[zzP.mp m,hl'];simp)
  exact q _ [l] H' R' (.ls hl' (zqA (λst e a z=>(hO [l] st e a z).elim .inl λm=>.inr (zzP.mp m)) c rp)) g
 |fd ds=>
  obtain⟨c,rfl⟩:=ye e
  intro l vs H' hl k hl' rp
  obtain⟨R',g⟩:=R.news (T':=[l]) (by simp) (λa m=>by rw[zzP.mp m];exact hl) k (λa m=>by rw[zzP.mp m,hl'];simp)
  obtain⟨e1,r1⟩:=zpn rp
  refine q _ [l] H' R' (.dc (vs:=vs.map (·.2)) (by rw[hl',<-e1]) (by rw[zS,zS,rp.length]) (zqA (λst e a z=>(hO [l] st e a z).elim .inl λm=>.inr (zzP.mp m)) c r1)) g
end
abbrev EF:=AS->Option (RV×AS)
def al(K:zD)(kd:KD)(f:EF):TE:=λσ H Q=>∃F B ad as r as',Rel K kd F B [] ad as σ H/\f as=some (r,as')/\
 ∀v T' ad' H',Rel K kd F B T' ad' as' σ H'->vZ K kd F B T' ad' σ H' v r->Grow (Gw [] ad) H (Gw T' ad') H'->Q v H'
@[irreducible] def AE(X:Cx)(kd:KD)(e:Expr)(f:EF):Prop:=PE X e (al X.K kd f)
theorem xr(h:PE X e t)(k:∀σ H Q,t' σ H Q->t σ H Q):PE X e t':=λpins s σ H Q I q=>h pins s σ H Q I (k σ H Q q)
section
variable{K:zD}{kd:KD}{F B:Addr->Prop}{ad:Ad}{as as1:AS}{σ:St}{H:Hp}{r:RV}{f:EF}{P:VK}
theorem YD(R:Rel K kd F B [] ad as σ H)(e:f as=some (r,as1))(k:∀v ad1 H1,Rel K kd F B [] ad1 as1 σ H1->vZ K kd F B [] ad1 σ H1 v r.frz->Grow (Gw [] ad) H (Gw [] ad1) H1->P v H1):al K kd f σ H P:=
 ⟨F,B,ad,as,r,as1,R,e,λv T' ad' H' R' rv g=>k v ad' H' R'.drop (vZ.drop R' rv) (g.trans (Grow.less Gw.drop))⟩
end
def OpD(X:Cx)(kd:KD)(f:Value->Value->Sem Value)(g:D->D->Option R0):Prop:=
 OpR X f (λx y H Q=>∃O d e r,(∀a,O a->H a≠none)/\Vw X.K kd O H x d/\Vw X.K kd O H y e/\g d e=some r/\RQ X.K kd O H Q r)
def UnD(X:Cx)(kd:KD)(f:Value->Sem Value)(g:D->Option R0):Prop:=
 UnR X f (λx H Q=>∃O d r,(∀a,O a->H a≠none)/\Vw X.K kd O H x d/\g d=some r/\RQ X.K kd O H Q r)
inductive VwL(K:zD)(kd:KD)(O:Addr->Prop)(H:Hp):List V->List D->Prop
 |nil:VwL K kd O H [] []
 |cons {v:V}{d:D}{vs:List V}{ds:List D}:Vw K kd O H v d->VwL K kd O H vs ds->VwL K kd O H (v::vs) (d::ds)
def CallD(X:Cx)(kd:KD)(f:Value)(g:List D->Option R0):Prop:=
 zbu X f (λxs H Q=>∃O ds r,(∀a,O a->H a≠none)/\VwL X.K kd O H xs ds/\g ds=some r/\RQ X.K kd O H Q r)
def IxD(X:Cx)(kd:KD)(g:D->D->Option R0):Prop:=
 IxR X (λx y H Q=>∃O d e r,(∀a,O a->H a≠none)/\Vw X.K kd O H x d/\Vw X.K kd O H y e/\g d e=some r/\RQ X.K kd O H Q r)
def meet:Option Bool->Option Bool->Option Bool
 |some a,some b=>some (a&&b)
 |_,_=>none
theorem Obl.meet1:∀x,Obl F B G (meet a b) x->Obl F B G a x:=λx h=>by
 cases a with
 |none=>cases b<;>exact h.elim
 |some p=>
  cases b with
  |none=>exact h.elim
  |some q=>exact zhh (λz=>((QzA _ _).mp z).1) x h
theorem Obl.meet2:∀x,Obl F B G (meet a b) x->Obl F B G b x:=λx h=>by
 cases a with
 |none=>cases b<;>exact h.elim
 |some p=>
  cases b with
  |none=>exact h.elim
  |some q=>exact zhh (λz=>((QzA _ _).mp z).2) x h
theorem Vw.less{K:zD}{kd:KD}{O O':Addr->Prop}{H:Hp}{v:V}{d:D}(g:∀a,O' a->O a)(h:Vw K kd O H v d):Vw K kd O' H v d:=by
 cases h with
 |non=>exact .non
 |bl b=>exact .bl b
 |int i=>exact .int i
 |str x=>exact .str x
 |tup r s l=>exact .tup (r.less g) s (l.less g)
 |lst h l=>exact .lst h (l.less g)
 |dct h l=>exact .dct h (l.less g)
 |cl c=>exact .cl c
 |ob h k l=>exact .ob h k (l.less g)
def f2(fa fb:EF)(g:D->D->Option R0):EF:=λas=>(fa as).bind λp=>(fb p.2).bind λq=>(p.1.frz.view q.2).bind λx=>(q.1.frz.view q.2).bind λy=>(g x.1 y.1).bind λr=>(wrap (meet x.2 y.2) r).bind λz=>some (z,q.2)
theorem znY(h:f2 fa fb g as=some (rv,as')):
 ∃p as1 q x y lx ly r,fa as=some (p,as1)/\fb as1=some (q,as')/\p.frz.view as'=some (x,lx)/\q.frz.view as'=some (y,ly)/\g x y=some r/\wrap (meet lx ly) r=some rv:=by
 unfold f2 at h
 obtain⟨⟨p,as1⟩,h1,h⟩:=bS_ h
 obtain⟨⟨q,as2⟩,h2,h⟩:=bS_ h
 obtain⟨⟨x,lx⟩,h3,h⟩:=bS_ h
 obtain⟨⟨y,ly⟩,h4,h⟩:=bS_ h
 obtain⟨r,h5,h⟩:=bS_ h
 obtain⟨z,h6,h⟩:=bS_ h
 cases h
 exact⟨p,as1,q,x,y,lx,ly,r,h1,h2,h3,h4,h5,h6⟩
section
variable{X:Cx}{kd:KD}{a b c:Expr}{fa fb fc:EF}{pos:Pos}
theorem al2(hr:∀x y H Q,(∃O d e r,(∀a,O a->H a≠none)/\Vw X.K kd O H x d/\Vw X.K kd O H y e/\g d e=some r/\RQ X.K kd O H Q r)->R2' x y H Q)
 (h:al X.K kd (f2 fa fb g) σ H Q):tOp R2' (al X.K kd fa) (al X.K kd fb) σ H Q:=by
 obtain⟨F,B,ad,as,r,as',R,e,q⟩:=h
 obtain⟨p,as1,z,x,y,lx,ly,r0,h1,h2,h3,h4,h5,h6⟩:=znY e
 refine YD R h1 λv ad1 H1 R1 rv1 g1=>YD R1 h2 λu ad2 H2 R2 rv2 g2=>hr _ _ _ _ ?_
 exact⟨_,x,y,r0,R2.tr _,(vZ.vw R2 (rv1.grow g2) h3).less Obl.meet1,(vZ.vw R2 rv2 h4).less Obl.meet2,h5,Y0 R2 h6 λw T' H' R' rv' g'=>q w T' ad2 H' R' rv' ((g1.trans g2).trans g')⟩
theorem zsk(ho:OpD X kd (binaryOp op) g)(ha:AE X kd a fa)(hb':AE X kd b fb):AE X kd (.BinOp a op b pos) (f2 fa fb g):=by with_unfolding_all exact(xr (zyf ho ha hb') λσ H Q h=>al2 (λ_ _ _ _ z=>z) h)
theorem zvs(ho:OpD X kd (compareOp op) g)(ha:AE X kd a fa)(hb':AE X kd b fb)(hm:behindInMarks op b=false):AE X kd (.Compare a [op] [b] pos) (f2 fa fb g):=by with_unfolding_all exact(xr (ztH ho ha hb' hm) λσ H Q h=>al2 (λ_ _ _ _ z=>z) h)
theorem zxE(ho:IxD X kd g)(ha:AE X kd a fa)(hb':AE X kd b fb)(hm:zdR b):AE X kd (.Subscript a b pos) (f2 fa fb g):=by with_unfolding_all exact(xr (zrQ ho ha hb' hm) λσ H Q h=>al2 (λ_ _ _ _ z=>z) h)
def fC(d:D):EF:=λas=>some (.ow (.lf true d),as)
def fV(i:Nat):EF:=λas=>match as[i]? with
 |some (some (.lf st d))=>some (.ow (.lf st d),as)
 |some (some (.nd _ _))=>some (.bo i,as)
 |_=>none
theorem zkA(h:PE X a (tC v))(hr:∀O H,Rp X.K kd O H v d):AE X kd a (fC d):=by with_unfolding_all exact(xr h λσ H Q h=>by
 obtain⟨F,B,ad,as,r,as',R,e,q⟩:=h
 cases e
 exact q v [] ad H R (.lf (hr _ _)) Grow.refl)
theorem zwZ(h:PE X a (ziA i)):AE X kd a (fV i):=by with_unfolding_all exact(xr h λσ H Q h=>by
 obtain⟨F,B,ad,as,r,as',R,e,q⟩:=h
 unfold fV at e
 cases k:as[i]? with
 |none=>rw[k]at e;cases e
 |some s=>
  rw[k]at e
  cases s with
  |none=>cases e
  |some o=>
   obtain⟨v,h1,h2⟩:=R.sl i _ k
   cases o with
   |lf st d=>
    cases e
    have e0:ad i=[]:=by
     generalize hfp:ad i=fp at h2
     cases h2
     rfl
    rw[e0]at h2
    exact⟨v,h1,q v [] ad H R h2 Grow.refl⟩
   |nd kk os=>
    cases e
    exact⟨_,h1,q _ [] ad H R ⟨rfl,h1⟩ Grow.refl⟩)
end
def YG(ad:Ad)(i:Nat)(x:List Addr):Ad:=λj=>if j=i then x else ad j
section
variable{K:zD}{kd:KD}{F B:Addr->Prop}{T T1 T2:List Addr}{ad ad1:Ad}{as as1:AS}{σ:St}{H H1:Hp}{v:V}{r:RV}{o:O}{i:Nat}
theorem yK:YG ad i x i=x:=if_pos rfl
theorem yP(h:j≠i):YG ad i x j=ad j:=if_neg h
theorem X3:∀a,Gw T (YG ad i []) a->Gw T ad a:=λa h=>by
 rcases h with h|⟨j,h⟩
 · exact .inl h
 · by_cases e:j=i
   · subst e;rw[yK]at h;cases h
   · rw[yP e]at h;exact .inr ⟨j,h⟩
theorem zae:∀a,Gw [] (YG ad i T) a->Gw T ad a:=λa h=>by
 rcases h with h|⟨j,h⟩
 · cases h
 · by_cases e:j=i
   · subst e;rw[yK]at h;exact .inl h
   · rw[yP e]at h;exact .inr ⟨j,h⟩
theorem zoT:∀st a,Lv F (λa=>B a\/a ∈ T) (Gw [] ad) st a->Lv F B (Gw T ad) st a:=λst a z=>by
 rcases z with(z|z|z)|z
 · exact .inl (.inl z)
 · exact .inl (.inr z)
 · exact .inr (.inl z)
 · exact .inr (Gw.drop a z)
theorem zer:∀st a,Lv F B (Gw (T1++T2) ad) st a->Lv F (λa=>B a\/a ∈ T1) (Gw T2 ad) st a:=λst a z=>by
 rcases z with(z|z)|z|z
 · exact .inl (.inl z)
 · exact .inl (.inr (.inl z))
 · rcases zzK.mp z with z|z
   · exact .inl (.inr (.inr z))
   · exact .inr (.inl z)
 · exact .inr (.inr z)
theorem Rel.hide(R:Rel K kd F B T ad as σ H):Rel K kd F (λa=>B a\/a ∈ T) [] ad as σ H where
 len:=R.len
 out:=R.out
 nd:=R.nd
 inj:=R.inj
 tnd:=QzH
 dis:=λ_ _ _ z=>nomatch z
 ftr:=R.ftr
 btr:=λa h=>by
  rcases h with h|h
  · obtain⟨h1,h2,h3⟩:=R.btr a h
    exact⟨h1,h2,λz=>h3 (Gw.drop a z)⟩
  · exact⟨(R.gtr a (.inl h)).1,(R.gtr a (.inl h)).2,λz=>z.elim (λm=>nomatch m) λ⟨j,y⟩=>R.dis j a y h⟩
 gtr:=λa h=>R.gtr a (Gw.drop a h)
 sl:=λi s e=>(R.sl i s e).lv zoT
theorem Rel.unhide(hn:T1.Nodup)(hb:∀a ∈ T1,¬B a)(R:Rel K kd F (λa=>B a\/a ∈ T1) T2 ad as σ H):Rel K kd F B (T1++T2) ad as σ H where
 len:=R.len
 out:=R.out
 nd:=R.nd
 inj:=R.inj
 tnd:=QyC.mpr ⟨hn,R.tnd,λa m b m' e=>by subst e;exact(R.btr a (.inr m)).2.2 (.inl m')⟩
 dis:=λi a m z=>by
  rcases zzK.mp z with z|z
  · exact(R.btr a (.inr z)).2.2 (.inr ⟨i,m⟩)
  · exact R.dis i a m z
 ftr:=R.ftr
 btr:=λa h=>by
  obtain⟨h1,h2,h3⟩:=R.btr a (.inl h)
  refine⟨h1,h2,λz=>?_⟩
  rcases z with z|z
  · rcases zzK.mp z with z|z
    · exact hb a z h
    · exact h3 (.inl z)
  · exact h3 (.inr z)
 gtr:=λa h=>by
  rcases h with h|h
  · rcases zzK.mp h with h|h
    · exact⟨(R.btr a (.inr h)).1,(R.btr a (.inr h)).2.1⟩
    · exact R.gtr a (.inl h)
  · exact R.gtr a (.inr h)
 sl:=λi s e=>(R.sl i s e).lv zer
theorem Rel.frz(R:Rel K kd F B T ad as σ H)(h:as[i]? = some (some o)):
 Rel K kd F B T (YG ad i []) (as.set i (some o.frz)) σ H/\∃v,σ[i]? = some (some v)/\Rp K kd (Lv F B (Gw T (YG ad i [])) o.str) H v o.toD:=by
 obtain⟨v,hv,ro⟩:=R.sl i _ h
 have rp:Rp K kd (Lv F B (Gw T (YG ad i [])) o.str) H v o.toD:=
  Ro.rp o.str (λst v d hs r=>r.less λa z=>z.elim (λy=>.inl (y.elim (λx=>.inl ⟨hs x.1,x.2⟩) .inr)) λy=>.inr (X3 a y))
   (λa n z=>n (z.elim (λy=>.inl (y.elim (λx=>.inl ⟨rfl,x.2⟩) .inr)) λy=>.inr (X3 a y))) id
   (λa m z=>by
    rcases z with(z|z)|z|⟨j,z⟩
    · exact(R.gtr a (.inr ⟨i,m⟩)).2 z.2
    · exact(R.btr a z).2.2 (.inr ⟨i,m⟩)
    · exact R.dis i a m z
    · by_cases e:j=i
      · subst e;rw[yK]at z;cases z
      · rw[yP e]at z;exact e (R.inj j i a z m)) ro
 have hi:i<as.length:=(zzE.mp h).1
 refine⟨⟨by rw[zzS];exact R.len,λj hj=>?_,λj=>?_,λj k a h1 h2=>?_,R.tnd,λj a h1=>?_,R.ftr,λa h1=>?_,λa h1=>R.gtr a (X3 a h1),λj s e=>?_⟩,v,hv,rp⟩
 · rw[zzS]at hj
   rw[yP (by omega)];exact R.out j hj
 · by_cases e:j=i
   · subst e;rw[yK];exact QzH
   · rw[yP e];exact R.nd j
 · by_cases e:j=i
   · subst e;rw[yK]at h1;cases h1
   · by_cases e':k=i
     · subst e';rw[yK]at h2;cases h2
     · rw[yP e]at h1;rw[yP e']at h2;exact R.inj j k a h1 h2
 · by_cases e:j=i
   · subst e;rw[yK]at h1;cases h1
   · rw[yP e]at h1;exact R.dis j a h1
 · obtain⟨b1,b2,b3⟩:=R.btr a h1
   exact⟨b1,b2,λz=>b3 (X3 a z)⟩
 · by_cases q:j=i
   · subst q
     rw[QzI hi]at e
     cases e
     rw[yK]
     exact⟨v,hv,.lf rp⟩
   · rw[zzW (Ne.symm q)]at e
     rw[yP q]
     exact(R.sl j s e).less X3
theorem Rel.put(R:Rel K kd F B T ad as σ H)(hi:i<as.length)(h:RoS K kd F B (Gw T ad) H v o T):Rel K kd F B [] (YG ad i T) (as.set i (some o)) (σ.set i (some v)) H:=by
 have hi':i<σ.length:=by rw[<-R.len];exact hi
 refine⟨by rw[zzS,zzS];exact R.len,λj hj=>?_,λj=>?_,λj k a h1 h2=>?_,QzH,(λ_ _ _ z=>nomatch z),R.ftr,λa h1=>?_,λa h1=>R.gtr a (zae a h1),λj s e=>?_⟩
 · rw[zzS]at hj
   rw[yP (by omega)];exact R.out j hj
 · by_cases e:j=i
   · subst e;rw[yK];exact R.tnd
   · rw[yP e];exact R.nd j
 · by_cases e:j=i
   · subst e
     rw[yK]at h1
     by_cases e':k=j
     · exact e'.symm
     · rw[yP e']at h2
       exact(R.dis k a h2 h1).elim
   · rw[yP e]at h1
     by_cases e':k=i
     · subst e'
       rw[yK]at h2
       exact(R.dis j a h1 h2).elim
     · rw[yP e']at h2
       exact R.inj j k a h1 h2
 · obtain⟨b1,b2,b3⟩:=R.btr a h1
   exact⟨b1,b2,λz=>b3 (zae a z)⟩
 · by_cases q:j=i
   · subst q
     rw[QzI hi]at e
     cases e
     rw[yK,QzI hi']
     exact⟨v,rfl,h.less zae⟩
   · rw[zzW (Ne.symm q)]at e
     rw[yP q,zzW (Ne.symm q)]
     exact(R.sl j s e).less zae
def toO(as:AS):RV->Option (O×AS)
 | .ow o=>some (o,as)
 | .bo i=>match as[i]? with
  |some (some o)=>some (o.frz,as.set i (some o.frz))
  |_=>none
theorem zgY(R:Rel K kd F B T ad as σ H)(h:vZ K kd F B T ad σ H v r)(e:toO as r=some (o,as')):∃ad',Rel K kd F B T ad' as' σ H/\RoS K kd F B (Gw T ad') H v o T/\∀a,Gw T ad' a->Gw T ad a:=by
 cases r with
 |ow o'=>cases e;exact⟨ad,R,h,λ_ z=>z⟩
 |bo i=>
  have e:(match as[i]? with|some (some o)=>some (o.frz,as.set i (some o.frz))|_=>none)=some (o,as'):=e
  cases k:as[i]? with
  |none=>rw[k]at e;cases e
  |some s=>
   cases s with
   |none=>rw[k]at e;cases e
   |some o1=>
    rw[k]at e
    cases e
    obtain⟨hT,hs⟩:=h
    subst hT
    obtain⟨R',w,hw,rp⟩:=R.frz k
    rw[hs]at hw
    cases hw
    exact⟨_,R',.lf rp,X3⟩
end
abbrev TF:=AS->Option (Bool×AS)
def alT(K:zD)(kd:KD)(f:TF):TT:=λσ H Q=>∃F B ad as b as',Rel K kd F B [] ad as σ H/\f as=some (b,as')/\
 ∀ad' H',Rel K kd F B [] ad' as' σ H'->Grow (Gw [] ad) H (Gw [] ad') H'->Q b H'
@[irreducible] def AT(X:Cx)(kd:KD)(e:Expr)(f:TF):Prop:=PT X e (alT X.K kd f)
@[irreducible] def AW(X:Cx)(kd:KD)(e:Expr)(f:TF):Prop:=PW X e (alT X.K kd f)
def truth:D->Option Bool
 | .non=>some false
 | .bl b=>some b
 | .int i=>some (i != 0)
 | .str x=>if x.length<=sizeLine then some ((x.length:Int) != 0)else none
 | .tup ds=>some (!ds.isEmpty)
 | .lst ds=>some (!ds.isEmpty)
 |_=>none
def fT(f:EF):TF:=λas=>(f as).bind λp=>(p.1.frz.view p.2).bind λx=>(truth x.1).bind λb=>some (b,p.2)
def zdU(f g:TF):TF:=λas=>(f as).bind λp=>if p.1=true then g p.2 else some (false,p.2)
def WF(f g:TF):TF:=λas=>(f as).bind λp=>if p.1=true then some (true,p.2)else g p.2
def Xf(f:TF):TF:=λas=>(f as).bind λp=>some (!p.1,p.2)
def fIf(c:TF)(f g:EF):EF:=λas=>(c as).bind λp=>if p.1=true then f p.2 else g p.2
def asI:D->Option Int
 | .int i=>some i
 |_=>none
def asS:D->Option Str
 | .str i=>some i
 |_=>none
def asL:D->Option (List D)
 | .lst i=>some i
 |_=>none
def asT:D->Option (List D)
 | .tup i=>some i
 |_=>none
theorem zgC(e:asL d=some i):d = .lst i:=by
 cases d with
 |lst j=>cases e;rfl
 |_=>cases e
theorem zpX(e:asT d=some i):d = .tup i:=by
 cases d with
 |tup j=>cases e;rfl
 |_=>cases e
theorem zky(h:asI d=some c):d = .int c:=by
 cases d with
 |int i=>cases h;rfl
 |_=>cases h
def asB:D->Option Bool
 | .bl i=>some i
 |_=>none
theorem zwX(h:asB d=some c):d = .bl c:=by
 cases d with
 |bl i=>cases h;rfl
 |_=>cases h
def rvD:RV->Option D
 | .ow (.lf _ d)=>some d
 |_=>none
theorem zrx(h:rvD r=some d):∃st,r = .ow (.lf st d):=by
 cases r with
 |bo i=>cases h
 |ow o=>
  cases o with
  |nd k os=>cases h
  |lf st d=>cases h;exact⟨st,rfl⟩
def rvB(r:RV):Option Bool:=(rvD r).bind asB
theorem zqU(h:rvB r=some c):∃st,r = .ow (.lf st (.bl c)):=by
 obtain⟨d,h1,h⟩:=bS_ h
 cases zwX h
 exact zrx h1
def rvI(r:RV):Option Int:=(rvD r).bind asI
theorem zmW(h:rvI r=some c):∃st,r = .ow (.lf st (.int c)):=by
 obtain⟨d,h1,h⟩:=bS_ h
 cases zky h
 exact zrx h1
def zvb{α:Type}:List α->Option (α×α)
 | [a,b]=>some (a,b)
 |_=>none
theorem zod{α:Type}{os:List α}{p:α×α}(h:zvb os=some p):os=[p.1,p.2]:=by
 cases os with
 |nil=>cases h
 |cons x r=>
  cases r with
  |nil=>cases h
  |cons y r=>
   cases r with
   |nil=>cases h;rfl
   |cons _ _=>cases h
def zpI(f g:EF):EF:=λas=>(f as).bind λp=>(rvB p.1).bind λc=>if c=true then g p.2 else some (.ow (.lf true (.bl false)),p.2)
def zqs(f:EF):EF:=λas=>(f as).bind λp=>(rvB p.1).bind λc=>some (.ow (.lf true (.bl (!c))),p.2)
def f1(fa:EF)(g:D->Option R0):EF:=λas=>(fa as).bind λp=>(p.1.frz.view p.2).bind λx=>(g x.1).bind λr=>(wrap x.2 r).bind λz=>some (z,p.2)
section
variable{X:Cx}{kd:KD}{a b c:Expr}{fa fb:EF}{ta tb:TF}{pos:Pos}{es rest:List Expr}
theorem znx(h:PT X e t)(k:∀σ H Q,t' σ H Q->t σ H Q):PT X e t':=λpins s σ H Q I q=>h pins s σ H Q I (k σ H Q q)
theorem zqT(h:PW X e t)(k:∀σ H Q,t' σ H Q->t σ H Q):PW X e t':=λw pins s σ H Q I q=>h w pins s σ H Q I (k σ H Q q)
theorem zvB{O:Addr->Prop}{H:Hp}{v:V}{d:D}{k:Bool}(h:Vw X.K kd O H v d)(e:truth d=some k):zxh X.K v H k:=by
 cases h with
 |non=>cases e;rfl
 |bl b=>cases e;rfl
 |int i=>cases e;rfl
 |str x=>
  have e:(if x.length<=sizeLine then some ((x.length:Int) != 0)else none)=some k:=e
  by_cases hl:x.length<=sizeLine
  · rw[if_pos hl]at e;cases e;exact⟨hl,rfl⟩
  · rw[if_neg hl]at e;cases e
 |tup r hs hr=>
  cases e
  refine .inr (.inl ⟨_,hs, ?_⟩)
  cases hr<;>rfl
 |lst hs hr=>
  cases e
  refine .inl ⟨_,hs.sq, ?_⟩
  cases hr<;>rfl
 |dct=>cases e
 |cl=>cases e
 |ob=>cases e
theorem zbE(ha:AE X kd a fa)(he:∀whole,isTrue a X.env whole=(do let v <-whole;standAt a.pos;holding [v] (truthy v))):AT X kd a (fT fa):=by with_unfolding_all exact(znx (zqh ha he) λσ H Q h=>by
 obtain⟨F,B,ad,as,bb,as',R,e,q⟩:=h
 obtain⟨⟨p,as1⟩,h1,e⟩:=bS_ (show(fa as).bind _=_ from e)
 obtain⟨⟨d,lv⟩,h2,e⟩:=bS_ e
 obtain⟨k,h3,e⟩:=bS_ e
 cases e
 exact YD R h1 λv ad1 H1 R1 rv1 g1=>⟨_,zvB (vZ.vw R1 rv1 h2) h3,q ad1 H1 R1 g1⟩)
theorem zwy(ho:OpD X kd (compareOp op) g)(hg:∀x y r,g x y=some r->∃k,r = .im (.bl k))(ha:AE X kd a fa)(hb:AE X kd b fb)(hm:behindInMarks op b=false):
 AT X kd (.Compare a [op] [b] pos) (fT (f2 fa fb g)):=by with_unfolding_all exact(znx (zsY ho ha hb hm) λσ H Q h=>by
 obtain⟨F,B,ad,as,bb,as',R,e,q⟩:=h
 obtain⟨⟨p,as1⟩,h1,e⟩:=bS_ (show(f2 fa fb g as).bind _=_ from e)
 obtain⟨⟨d,lv⟩,h2,e⟩:=bS_ e
 obtain⟨k,h3,e⟩:=bS_ e
 cases e
 obtain⟨_,_,_,x,y,_,_,r0,_,_,_,_,hp,hw⟩:=znY h1
 obtain⟨k',rfl⟩:=hg _ _ _ hp
 cases hw
 cases h2
 cases h3
 refine al2 (λ_ _ _ _ z=>z) ⟨F,B,ad,as,_,_,R,h1,λv T' ad' H' R' rv g'=>?_⟩
 generalize hT:T'=T2 at rv R' g'
 cases rv with
 |lf rp=>
  cases rp
  exact⟨_,rfl,q ad' H' R' g'⟩)
theorem zep(ha:AT X kd a ta):AT X kd (.UnaryOp .Not a pos) (Xf ta):=by with_unfolding_all exact(znx (zxc ha) λσ H Q h=>by
 obtain⟨F,B,ad,as,bb,as',R,e,q⟩:=h
 obtain⟨⟨p,as1⟩,h1,e⟩:=bS_ (show(ta as).bind _=_ from e)
 cases e
 exact⟨F,B,ad,as,p,_,R,h1,λad' H' R' g=>q ad' H' R' g⟩)
theorem zic(ha:AT X kd a ta):AW X kd (.BoolOp .And [a] pos) ta:=by with_unfolding_all exact(ztb ha)
theorem V1(ha:AT X kd a ta):AW X kd (.BoolOp .Or [a] pos) ta:=by with_unfolding_all exact(zwR ha)
theorem zrb(ha:AT X kd a ta)(hb:AW X kd (.BoolOp .And (b::rest) pos) tb):AW X kd (.BoolOp .And (a::b::rest) pos) (zdU ta tb):=by with_unfolding_all exact(zqT (zxa ha hb) λσ H Q h=>by
 obtain⟨F,B,ad,as,bb,as',R,e,q⟩:=h
 obtain⟨⟨p,as1⟩,h1,e⟩:=bS_ (show(ta as).bind _=_ from e)
 refine⟨F,B,ad,as,p,as1,R,h1,λad' H' R' g=>?_⟩
 cases p with
 |true=>exact⟨F,B,ad',as1,bb,as',R',e,λad2 H2 R2 g2=>q ad2 H2 R2 (g.trans g2)⟩
 |false=>cases e;exact q ad' H' R' g)
theorem zfI(ha:AT X kd a ta)(hb:AW X kd (.BoolOp .Or (b::rest) pos) tb):AW X kd (.BoolOp .Or (a::b::rest) pos) (WF ta tb):=by with_unfolding_all exact(zqT (zyk ha hb) λσ H Q h=>by
 obtain⟨F,B,ad,as,bb,as',R,e,q⟩:=h
 obtain⟨⟨p,as1⟩,h1,e⟩:=bS_ (show(ta as).bind _=_ from e)
 refine⟨F,B,ad,as,p,as1,R,h1,λad' H' R' g=>?_⟩
 cases p with
 |false=>exact⟨F,B,ad',as1,bb,as',R',e,λad2 H2 R2 g2=>q ad2 H2 R2 (g.trans g2)⟩
 |true=>cases e;exact q ad' H' R' g)
theorem AW.at_(h:AW X kd e ta):AT X kd e ta:=by with_unfolding_all exact(PW.pt h)
theorem ziY(hc:AT X kd c ta)(ha:AE X kd a fa)(hb:AE X kd b fb):AE X kd (.IfExp c a b pos) (fIf ta fa fb):=by with_unfolding_all exact(xr (zrC hc ha hb) λσ H Q h=>by
 obtain⟨F,B,ad,as,r,as',R,e,q⟩:=h
 obtain⟨⟨p,as1⟩,h1,e⟩:=bS_ (show(ta as).bind _=_ from e)
 refine⟨F,B,ad,as,p,as1,R,h1,λad' H' R' g=>?_⟩
 cases p with
 |true=>exact⟨F,B,ad',as1,r,as',R',e,λv T2 ad2 H2 R2 rv g2=>q v T2 ad2 H2 R2 rv (g.trans g2)⟩
 |false=>exact⟨F,B,ad',as1,r,as',R',e,λv T2 ad2 H2 R2 rv g2=>q v T2 ad2 H2 R2 rv (g.trans g2)⟩)
theorem zuA{K:zD}{F B:Addr->Prop}{T:List Addr}{ad:Ad}{σ:St}{H:Hp}{v:V}{st c:Bool}(h:vZ K kd F B T ad σ H v (.ow (.lf st (.bl c)))):T=[]/\v = .bl c:=by
 have h:RoS K kd F B (Gw T ad) H v (.lf st (.bl c)) T:=h
 generalize hT:Gw T ad=G at h
 cases h with
 |lf rp=>cases rp;exact⟨rfl,rfl⟩
theorem zrW(ha:AE X kd a fa):AE X kd (.BoolOp op [a] pos) fa:=by with_unfolding_all exact(zve ha)
theorem zrF(ha:AE X kd a fa)(hb:AE X kd (.BoolOp .And (b::rest) pos) fb):AE X kd (.BoolOp .And (a::b::rest) pos) (zpI fa fb):=by with_unfolding_all exact(xr (zwk ha hb) λσ H Q h=>by
 obtain⟨F,B,ad,as,r,as',R,e,q⟩:=h
 obtain⟨⟨p,as1⟩,h1,e⟩:=bS_ (show(fa as).bind _=_ from e)
 refine⟨F,B,ad,as,p,as1,R,h1,λv T' ad' H' R' rv g=>?_⟩
 obtain⟨k,e1,e⟩:=bS_ e
 obtain⟨st,rfl⟩:=zqU e1
 obtain⟨rfl,rfl⟩:=zuA rv
 cases k with
 |true=>exact⟨true,rfl,⟨F,B,ad',as1,r,as',R',e,λv T2 ad2 H2 R2 rv g2=>q v T2 ad2 H2 R2 rv (g.trans g2)⟩⟩
 |false=>
  cases e
  exact⟨false,rfl,q _ [] ad' H' R' (.lf (.bl false)) g⟩)
theorem zqw(ha:AE X kd a fa):AE X kd (.UnaryOp .Not a pos) (zqs fa):=by with_unfolding_all exact(xr (zvw ha) λσ H Q h=>by
 obtain⟨F,B,ad,as,r,as',R,e,q⟩:=h
 obtain⟨⟨p,as1⟩,h1,e⟩:=bS_ (show(fa as).bind _=_ from e)
 refine⟨F,B,ad,as,p,as1,R,h1,λv T' ad' H' R' rv g=>?_⟩
 obtain⟨k,e1,e⟩:=bS_ e
 obtain⟨st,rfl⟩:=zqU e1
 obtain⟨rfl,rfl⟩:=zuA rv
 cases e
 exact⟨k,rfl,q _ [] ad' H' R' (.lf (.bl _)) g⟩)
theorem znS(ho:UnD X kd (unaryOp op) g)(ha:AE X kd a fa):AE X kd (.UnaryOp op a pos) (f1 fa g):=by with_unfolding_all exact(xr (zxI ho ha) λσ H Q h=>by
 obtain⟨F,B,ad,as,r,as',R,e,q⟩:=h
 obtain⟨⟨p,as1⟩,h1,e⟩:=bS_ (show(fa as).bind _=_ from e)
 obtain⟨⟨x,lv⟩,h2,e⟩:=bS_ e
 obtain⟨z,h3,e⟩:=bS_ e
 obtain⟨y,h4,e⟩:=bS_ e
 cases e
 refine YD R h1 λv ad1 H1 R1 rv1 g1=>⟨_,x,z,R1.tr _,vZ.vw R1 rv1 h2,h3,Y0 R1 h4 λw T' H' R' rv' g'=>q w T' ad1 H' R' rv' (g1.trans g')⟩)
end
abbrev AF:=AS->Option (List RV×AS)
inductive RVs(K:zD)(kd:KD)(F B:Addr->Prop)(ad:Ad)(σ:St)(H:Hp):List V->List RV->Prop
 |nil:RVs K kd F B ad σ H [] []
 |cons {v:V}{r:RV}{vs:List V}{rs:List RV}:vZ K kd F B [] ad σ H v r->RVs K kd F B ad σ H vs rs->RVs K kd F B ad σ H (v::vs) (r::rs)
def alA(K:zD)(kd:KD)(f:AF):TA:=λσ H Q=>∃F B ad as rs as',Rel K kd F B [] ad as σ H/\f as=some (rs,as')/\
 ∀vs ad' H',Rel K kd F B [] ad' as' σ H'->RVs K kd F B ad' σ H' vs rs->Grow (Gw [] ad) H (Gw [] ad') H'->Q vs H'
@[irreducible] def AA(X:Cx)(kd:KD)(es:List Expr)(f:AF):Prop:=PA X es (alA X.K kd f)
def aN:AF:=λas=>some ([],as)
def aC(fa:EF)(fr:AF):AF:=λas=>(fa as).bind λp=>(fr p.2).bind λq=>some (p.1.frz::q.1,q.2)
theorem zkP(h:PA X e t)(k:∀σ H Q,t' σ H Q->t σ H Q):PA X e t':=λpos pins s σ H Q I q=>h pos pins s σ H Q I (k σ H Q q)
abbrev DF:=AS->Option (List O×AS)
def alD(K:zD)(kd:KD)(f:DF):TA:=λσ H Q=>∃F B ad as os as',Rel K kd F B [] ad as σ H/\f as=some (os,as')/\
 ∀vs T' ad' H',Rel K kd F B T' ad' as' σ H'->YF K kd F B (Gw T' ad') H' vs os T'->Grow (Gw [] ad) H (Gw T' ad') H'->Q vs H'
@[irreducible] def AD(X:Cx)(kd:KD)(es:List Expr)(f:DF):Prop:=PA X es (alD X.K kd f)
def dN:DF:=λas=>some ([],as)
def dC(fa:EF)(fr:DF):DF:=λas=>(fa as).bind λp=>(toO p.2 p.1).bind λx=>(fr x.2).bind λq=>some (x.1::q.1,q.2)
def views(as:AS):List RV->Option (List D×Option Bool)
 | []=>some ([],some true)
 |r::rs=>(r.view as).bind λx=>(views as rs).bind λy=>some (x.1::y.1,meet x.2 y.2)
def fP(fr:AF)(g:List D->Option R0):EF:=λas=>(fr as).bind λp=>(views p.2 p.1).bind λx=>(g x.1).bind λr=>(wrap x.2 r).bind λz=>some (z,p.2)
def zqL(as:AS):RV->Option (Bool×D)
 | .ow o=>some (yd o.toD||o.str,o.toD)
 | .bo i=>match as[i]? with
  |some (some o)=>some (false,o.toD)
  |_=>none
def Vi(as:AS):List RV->Option (List (Bool×D))
 | []=>some []
 |r::rs=>(zqL as r).bind λx=>(Vi as rs).bind λy=>some (x::y)
def zj(fr:AF)(g:List (Bool×D)->Option O):EF:=λas=>(fr as).bind λp=>(Vi p.2 p.1).bind λx=>(g x).bind λo=>some (.ow o,p.2)
def RQO(K:zD)(kd:KD)(F:Addr->Prop)(H:Hp)(Q:VK)(o:O):Prop:=
 ∀v T H',T.Nodup->(∀a ∈ T,H a=none)->(∀b u,H b=some u->H' b=some u)->(∀a ∈ T,H' a≠none)->Ro (λ_ v d=>Rp K kd (Un2 F (· ∈ T)) H' v d) (λa=>¬Un2 F (· ∈ T) a) H' v o T->Q v H'
inductive RpA(K:zD)(kd:KD)(F:Addr->Prop)(H:Hp):List V->List (Bool×D)->Prop
 |nil:RpA K kd F H [] []
 |cons {v:V}{st:Bool}{d:D}{vs:List V}{ds:List (Bool×D)}:Rp K kd (λa=>st=true/\F a) H v d->RpA K kd F H vs ds->RpA K kd F H (v::vs) ((st,d)::ds)
def spD(K:zD)(kd:KD)(g:List (Bool×D)->Option O):Sp:=λvs H Q _=>∃F ds o,(∀a,F a->H a≠none)/\RpA K kd F H vs ds/\g ds=some o/\RQO K kd F H Q o
def Wx(os:List O):O:=if os.all O.isLf=true then .lf (O.strs os) (.tup (O.toDs os))else .nd .tp os
def xm(fr:DF):EF:=λas=>(fr as).bind λp=>if p.1.length<=sizeLine then some (.ow (Wx p.1),p.2)else none
def vo(fr:DF):EF:=λas=>(fr as).bind λp=>if p.1.length<=sizeLine then some (.ow (.nd .ls p.1),p.2)else none
section
variable{X:Cx}{kd:KD}{a b c:Expr}{fa fb:EF}{ta tb:TF}{pos:Pos}{es rest:List Expr}{fr:AF}{fd:DF}
theorem RpA.length{K:zD}{F:Addr->Prop}{H:Hp}{vs:List V}{ds:List (Bool×D)}(h:RpA K kd F H vs ds):vs.length=ds.length:=by
 induction h with
 |nil=>rfl
 |cons _ _ ih=>exact congrArg (· + 1) ih
theorem zc:AA X kd [] aN:=by with_unfolding_all exact(zkP zhB λσ H Q h=>by
 obtain⟨F,B,ad,as,rs,as',R,e,q⟩:=h
 cases e
 exact q [] ad H R .nil Grow.refl)
theorem zsS(ha:AE X kd a fa)(hr:AA X kd es fr)(hs:starEach (a::es) X.env=(false,eval a X.env)::starEach es X.env):AA X kd (a::es) (aC fa fr):=by with_unfolding_all exact(zkP (zcp ha hr hs) λσ H Q h=>by
 obtain⟨F,B,ad,as,rs,as',R,e,q⟩:=h
 obtain⟨⟨p,as1⟩,h1,e⟩:=bS_ (show(fa as).bind _=_ from e)
 obtain⟨⟨z,as2⟩,h2,e⟩:=bS_ e
 cases e
 refine YD R h1 λv ad1 H1 R1 rv1 g1=>⟨F,B,ad1,as1,z,_,R1,h2,λvs ad2 H2 R2 rv2 g2=>?_⟩
 exact q _ ad2 H2 R2 (.cons (rv1.grow g2) rv2) (g1.trans g2))
theorem zW:AD X kd [] dN:=by with_unfolding_all exact(zkP zhB λσ H Q h=>by
 obtain⟨F,B,ad,as,rs,as',R,e,q⟩:=h
 cases e
 exact q [] [] ad H R .nil Grow.refl)
theorem ztA(ha:AE X kd a fa)(hr:AD X kd es fd)(hs:starEach (a::es) X.env=(false,eval a X.env)::starEach es X.env):AD X kd (a::es) (dC fa fd):=by with_unfolding_all exact(zkP (zcp ha hr hs) λσ H Q h=>by
 obtain⟨F,B,ad,as,rs,as',R,e,q⟩:=h
 obtain⟨⟨p,as1⟩,h1,e⟩:=bS_ (show(fa as).bind _=_ from e)
 obtain⟨⟨o,as2⟩,h2,e⟩:=bS_ e
 obtain⟨⟨os,as3⟩,h3,e⟩:=bS_ e
 cases e
 refine⟨F,B,ad,as,p,as1,R,h1,λv T1 ad1 H1 R1 rv1 g1=>?_⟩
 obtain⟨ad2,R2,ro2,le2⟩:=zgY R1 rv1 h2
 refine⟨F,_,ad2,as2,os,_,R2.hide,h3,λvs T3 ad3 H3 R3 ro3 g3=>?_⟩
 have kT:∀a ∈ T1,∀u,H1 a=some u->H3 a=some u:=λa m u e=>g3.keep a u e λz=>z.elim (λy=>nomatch y) λ⟨i,y⟩=>R2.dis i a y m
 have r1:RoS X.K kd F B (Gw (T1++T3) ad3) H3 v o T1:=RoS.lv zer (RoS.grow g3 kT (RoS.lv zoT ro2))
 have r3:YF X.K kd F B (Gw (T1++T3) ad3) H3 vs os T3:=YF.lv zer ro3
 refine q _ (T1++T3) ad3 H3 (R3.unhide R2.tnd λa m z=>(R2.btr a z).2.2 (.inl m)) (.cons r1 r3) ((g1.trans (Grow.less le2)).trans ⟨λb u e n=>g3.keep b u e λz=>n (Gw.drop b z),λb z=>?_⟩)
 rcases z with z|z
 · rcases zzK.mp z with z|z
   · exact .inl (.inl z)
   · exact(g3.own b (.inl z)).elim (λy=>.inl (Gw.drop b y)) .inr
 · exact(g3.own b (.inr z)).elim (λy=>.inl (Gw.drop b y)) .inr)
theorem xj(h:AD X kd es fd):AE X kd (.Tuple es x1 pos) (xm fd):=by with_unfolding_all exact(xr (zxe h) λσ H Q h=>by
 obtain⟨F,B,ad,as,r,as',R,e,q⟩:=h
 obtain⟨⟨os,as1⟩,h1,e⟩:=bS_ (show(fd as).bind _=_ from e)
 obtain⟨hz,e⟩:=ye e
 cases e
 refine⟨F,B,ad,as,os,_,R,h1,λvs T1 ad1 H1 R1 ro1 g1=>⟨by rw[ro1.length];exact hz,λp hp=>?_⟩⟩
 have k:∀b o,H1 b=some o->upd H1 p (.tup vs) b=some o:=λb o hb=>by rw[yg (yI hb hp)];exact hb
 obtain⟨R2,g2⟩:=R1.more k
 have ro2:=YF.grow g2 (λa _ u h=>k a u h) ro1
 have np:∀st,¬Lv F B (Gw T1 ad1) st p:=λst z=>R1.trk st p z hp
 refine q _ T1 ad1 _ R2 ?_ (g1.trans g2)
 show RoS X.K kd F B (Gw T1 ad1) _ _ (Wx os) T1
 unfold Wx
 by_cases hl:os.all O.isLf=true
 · rw[if_pos hl]
   have:=zsf ro2 hl
   subst this
   exact .lf (.tup (np _) (.inl yH) (zhi ro2 hl))
 · rw[if_neg hl]
   exact .tp (np _) yH ro2)
theorem vh(h:AD X kd es fd):AE X kd (.List es pos) (vo fd):=by with_unfolding_all exact(xr (zwq h) λσ H Q h=>by
 obtain⟨F,B,ad,as,r,as',R,e,q⟩:=h
 obtain⟨⟨os,as1⟩,h1,e⟩:=bS_ (show(fd as).bind _=_ from e)
 obtain⟨hz,e⟩:=ye e
 cases e
 refine⟨F,B,ad,as,os,_,R,h1,λvs T1 ad1 H1 R1 ro1 g1=>⟨by rw[ro1.length];exact hz,λp hp=>?_⟩⟩
 have k:∀b o,H1 b=some o->upd H1 p (.lst vs) b=some o:=λb o hb=>by rw[yg (yI hb hp)];exact hb
 obtain⟨R2,g2⟩:=R1.add (N:=[p]) (by simp) (λa m=>by rw[zzP.mp m];exact hp) k (λa m=>by rw[zzP.mp m,yH];simp)
 exact q _ _ ad1 _ R2 (.ls yH (YF.grow g2 (λa _ u h=>k a u h) ro1)) (g1.trans g2))
theorem VwL.less{K:zD}{O O':Addr->Prop}{H:Hp}(g:∀a,O' a->O a){vs:List V}{ds:List D}(h:VwL K kd O H vs ds):VwL K kd O' H vs ds:=by
 induction h with
 |nil=>exact .nil
 |cons h _ ih=>exact .cons (h.less g) ih
theorem zcs{K:zD}{F B:Addr->Prop}{ad:Ad}{as:AS}{σ:St}{H:Hp}(R:Rel K kd F B [] ad as σ H){vs:List V}{rs:List RV}{ds:List D}{lv:Option Bool}(h:RVs K kd F B ad σ H vs rs)(e:views as rs=some (ds,lv)):VwL K kd (Obl F B (Gw [] ad) lv) H vs ds:=by
 induction h generalizing ds lv with
 |nil=>cases e;exact .nil
 |cons h t ih=>
  obtain⟨⟨d,l⟩,h1,e⟩:=bS_ (show(RV.view as _).bind _=_ from e)
  obtain⟨⟨ds,l2⟩,h2,e⟩:=bS_ e
  cases e
  exact .cons ((vZ.vw R h h1).less Obl.meet1) ((ih h2).less Obl.meet2)
theorem alP{g:List D->Option R0}{σ:St}{H:Hp}{Q:VK}{R':List V->Hp->VK->Prop}(hr:∀vs H Q,(∃O ds r,(∀a,O a->H a≠none)/\VwL X.K kd O H vs ds/\g ds=some r/\RQ X.K kd O H Q r)->R' vs H Q)
 (h:al X.K kd (fP fr g) σ H Q):alA X.K kd fr σ H λvs H1=>R' vs H1 Q:=by
 obtain⟨F,B,ad,as,r,as',R,e,q⟩:=h
 obtain⟨⟨p,as1⟩,h1,e⟩:=bS_ (show(fr as).bind _=_ from e)
 obtain⟨⟨ds,lv⟩,h2,e⟩:=bS_ e
 obtain⟨z,h3,e⟩:=bS_ e
 obtain⟨y,h4,e⟩:=bS_ e
 cases e
 exact⟨F,B,ad,as,p,_,R,h1,λvs ad1 H1 R1 rv1 g1=>hr _ _ _ ⟨_,ds,z,R1.tr _,zcs R1 rv1 h2,h3,Y0 R1 h4 λw T' H' R' rv' g'=>q w T' ad1 H' R' rv' (g1.trans g')⟩⟩
theorem zki{K:zD}{F B:Addr->Prop}{ad:Ad}{as:AS}{σ:St}{H:Hp}(R:Rel K kd F B [] ad as σ H){vs:List V}{rs:List RV}{ds:List (Bool×D)}(h:RVs K kd F B ad σ H vs rs)(e:Vi as rs=some ds):RpA K kd (Lv F B (Gw [] ad) true) H vs ds:=by
 induction h generalizing ds with
 |nil=>cases e;exact .nil
 |cons h t ih=>
  rename_i v r vs rs
  obtain⟨⟨st,d⟩,h1,e⟩:=bS_ (show(zqL as r).bind _=_ from e)
  obtain⟨ds,h2,e⟩:=bS_ e
  cases e
  refine .cons ?_ (ih h2)
  cases r with
  |ow o=>
   cases h1
   cases hf:yd o.toD with
   |true=>exact(zjX h).flat hf
   |false=>
    refine(zkk h).less λa z=>?_
    have zs:o.str=true:=z.1
    rw[zs]
    exact z.2
  |bo i=>
   have e:(match as[i]? with|some (some o)=>some (false,o.toD)|_=>none)=some (st,d):=h1
   cases k:as[i]? with
   |none=>rw[k]at e;cases e
   |some s=>
    cases s with
    |none=>rw[k]at e;cases e
    |some o=>
     rw[k]at e
     cases e
     obtain⟨w,hw,ro⟩:=R.sl i _ k
     rw[h.2]at hw
     cases hw
     exact(zjX ro).less λa z=>nomatch z.1
theorem zmK{K:zD}{F B:Addr->Prop}{ad:Ad}{as:AS}{σ:St}{H:Hp}{Q:VK}{o:O}(R:Rel K kd F B [] ad as σ H)(q:∀v T' H',Rel K kd F B T' ad as σ H'->vZ K kd F B T' ad σ H' v (.ow o)->Grow (Gw [] ad) H (Gw T' ad) H'->Q v H'):
 RQO K kd (Lv F B (Gw [] ad) true) H Q o:=λv T H' hn hl k h1 ro=>by
 obtain⟨R',g⟩:=R.news hn hl k h1
 have le:∀st a,Lv F B (Gw T ad) st a->Un2 (Lv F B (Gw [] ad) true) (· ∈ T) a:=λst a z=>by
  rcases z with(z|z)|z|z
  · exact .inl (.inl (.inl ⟨rfl,z.2⟩))
  · exact .inl (.inl (.inr z))
  · exact .inr z
  · exact .inl (.inr (.inr z))
 exact q v T H' R' (Ro.mono (λst v d r=>r.less (le st)) (λa vs n e=>⟨λz=>n (le true a z),e⟩) (λ_ _ _ e=>e) ro) g
theorem zvL(h:al X.K kd (zj fr g) σ H Q):zuI (spD X.K kd g) [] E (alA X.K kd fr) σ H Q:=by
 obtain⟨F,B,ad,as,r,as',R,e,q⟩:=h
 obtain⟨⟨p,as1⟩,h1,e⟩:=bS_ (show(fr as).bind _=_ from e)
 obtain⟨ds,h2,e⟩:=bS_ e
 obtain⟨o,h3,e⟩:=bS_ e
 cases e
 refine⟨F,B,ad,as,p,_,R,h1,λvs ad1 H1 R1 rv1 g1=>?_⟩
 show spD X.K kd g (vs++[]) H1 Q E
 rw[QzC]
 exact⟨_,ds,o,R1.trk true,zki R1 rv1 h2,h3,zmK R1 λw T' H' R' rv' g'=>q w T' ad1 H' R' rv' (g1.trans g')⟩
end
inductive Out where
 |nx (as:AS)|rt (o:O)|bk (as:AS)|ct (as:AS)
abbrev SF:=AS->Option Out
structure RetOk(K:zD)(kd:KD)(F:Addr->Prop)(T:List Addr)(H:Hp)(v:V)(o:O):Prop where
 nd:T.Nodup
 tr:∀a ∈ T,H a≠none
 ro:Ro (λ_ v d=>Rp K kd (Un2 F (· ∈ T)) H v d) (λa=>¬Un2 F (· ∈ T) a) H v o T
def zoc(K:zD)(kd:KD)(F B:Addr->Prop)(ad:Ad)(H:Hp)(D:Ends):Out->Prop
 | .nx as'=>∀σ' ad' H',Rel K kd F B [] ad' as' σ' H'->Grow (Gw [] ad) H (Gw [] ad') H'->D.nx σ' H'
 | .bk as'=>∀σ' ad' H',Rel K kd F B [] ad' as' σ' H'->Grow (Gw [] ad) H (Gw [] ad') H'->D.bk σ' H'
 | .ct as'=>∀σ' ad' H',Rel K kd F B [] ad' as' σ' H'->Grow (Gw [] ad) H (Gw [] ad') H'->D.ct σ' H'
 | .rt o=>∀v T H',RetOk K kd F T H' v o->Grow (Gw [] ad) H (· ∈ T) H'->D.rt v H'
def be(K:zD)(kd:KD)(f:SF):TS:=λD σ H=>∃F B ad as o,Rel K kd F B [] ad as σ H/\f as=some o/\zoc K kd F B ad H D o
@[irreducible] def ASt(X:Cx)(kd:KD)(st:Stmt)(f:SF):Prop:=PS X st (be X.K kd f)
@[irreducible] def ASs(X:Cx)(kd:KD)(st:List Stmt)(f:SF):Prop:=PSs X st (be X.K kd f)
theorem ZG(h:PS X e t)(k:∀D σ H,t' D σ H->t D σ H):PS X e t':=λpins s σ H D I q=>h pins s σ H D I (k D σ H q)
theorem zec(h:PSs X e t)(k:∀D σ H,t' D σ H->t D σ H):PSs X e t':=λpins s σ H D I q=>h pins s σ H D I (k D σ H q)
theorem zoc.pre{K:zD}{kd:KD}{F B:Addr->Prop}{ad ad1:Ad}{H H1:Hp}{D:Ends}{o:Out}(g:Grow (Gw [] ad) H (Gw [] ad1) H1)(h:zoc K kd F B ad H D o):zoc K kd F B ad1 H1 D o:=by
 cases o with
 |nx as=>exact λσ' ad' H' R g'=>h σ' ad' H' R (g.trans g')
 |bk as=>exact λσ' ad' H' R g'=>h σ' ad' H' R (g.trans g')
 |ct as=>exact λσ' ad' H' R g'=>h σ' ad' H' R (g.trans g')
 |rt r=>exact λv T H' R g'=>h v T H' R (g.trans g')
def sNx:SF:=λas=>some (.nx as)
def zH(f g:SF):SF:=λas=>(f as).bind λo=>match o with | .nx as'=>g as'|o=>some o
def sIf(c:TF)(f g:SF):SF:=λas=>(c as).bind λp=>if p.1=true then f p.2 else g p.2
def wQ(f:EF):SF:=λas=>(f as).bind λp=>some (.nx p.2)
def zrd(as:AS):RV->Option O
 | .ow o=>if o.str=true then some o else none
 | .bo i=>match as[i]? with
  |some (some o)=>if o.str=true then some o else none
  |_=>none
def zT(f:EF):SF:=λas=>(f as).bind λp=>(zrd p.2 p.1).bind λo=>some (.rt o)
def zQ(z:Bool)(i:Nat)(f:EF):SF:=λas=>(f as).bind λp=>(toO p.2 (if z=true then p.1.frz else p.1)).bind λx=>if i<x.2.length then some (.nx (x.2.set i (some x.1)))else none
theorem Ro.strong(h:Ro L N H v o fp)(e:o.str=true):Ro (λst v d=>st=true/\L st v d) N H v o fp:=
 Ro.rec (motive_1:=λv o fp _=>o.str=true->Ro (λst v d=>st=true/\L st v d) N H v o fp) (motive_2:=λvs os fp _=>O.strs os=true->RoL (λst v d=>st=true/\L st v d) N H vs os fp)
  (λh e=>.lf ⟨e,h⟩) (λh _ r e=>.ls h (r e)) (λh l _ r e=>.dc h l (r e)) (λc h l _ r e=>.ob ⟨rfl,c⟩ h l (r e)) (λn h _ r e=>.tp n h (r e)) (λ_=>.nil) (λ_ _ h r e=>.cons (h ((QzA _ _).mp e).1) (r ((QzA _ _).mp e).2)) h e
section
variable{K:zD}{kd:KD}{F B:Addr->Prop}{T:List Addr}{ad ad1:Ad}{as as1:AS}{σ:St}{H H1:Hp}{v:V}{r:RV}{o:O}
theorem zkT(R:Rel K kd F B T ad as σ H)(hn:T'.Nodup)(hs:∀a ∈ T',Gw T ad a)(h:RoS K kd F B (Gw T ad) H v o T')(e:o.str=true):RetOk K kd F T' H v o:=by
 have le:∀a,Un2 F (· ∈ T') a->Lv F B (Gw T ad) true a:=λa z=>z.elim (λy=>.inl (.inl ⟨rfl,y⟩)) λy=>.inr (hs a y)
 exact⟨hn,λa m=>(R.gtr a (hs a m)).1,Ro.mono (λst v d r=>by obtain⟨rfl,r⟩:=r;exact r.less le) (λa vs n e=>⟨λz=>n (le a z),e⟩) (λ_ _ _ e=>e) (Ro.strong h e)⟩
theorem Rel.ret(R:Rel K kd F B T ad as σ H)(hr:vZ K kd F B T ad σ H v r)(e:zrd as r=some o):∃T',RetOk K kd F T' H v o/\∀b ∈ T',Gw T ad b:=by
 cases r with
 |ow o'=>
  obtain⟨hs,rfl⟩:=ye e
  exact⟨T,zkT R R.tnd (λa m=>.inl m) hr hs,λa m=>.inl m⟩
 |bo i=>
  have e:(match as[i]? with|some (some o)=>if o.str=true then some o else none|_=>none)=some o:=e
  cases k:as[i]? with
  |none=>rw[k]at e;cases e
  |some s=>
   cases s with
   |none=>rw[k]at e;cases e
   |some o1=>
    rw[k]at e
    obtain⟨hs,rfl⟩:=ye e
    obtain⟨w,hw,ro⟩:=R.sl i _ k
    rw[hr.2]at hw
    cases hw
    exact⟨ad i,zkT R (R.nd i) (λa m=>.inr ⟨i,m⟩) ro hs,λa m=>.inr ⟨i,m⟩⟩
end
section
variable{X:Cx}{kd:KD}{st:Stmt}{sts rest:List Stmt}{a b c e:Expr}{fa fb:EF}{ta:TF}{pos:Pos}{f g:SF}
theorem zP:ASs X kd [] sNx:=by with_unfolding_all exact(zec zoR λD σ H h=>by
 obtain⟨F,B,ad,as,o,R,e,q⟩:=h
 cases e
 exact q σ ad H R Grow.refl)
theorem zu(h1:ASt X kd st f)(h2:ASs X kd rest g):ASs X kd (st::rest) (zH f g):=by with_unfolding_all exact(zec (zbL h1 h2) λD σ H h=>by
 obtain⟨F,B,ad,as,o,R,e,q⟩:=h
 obtain⟨o1,e1,e⟩:=bS_ (show(f as).bind _=_ from e)
 refine⟨F,B,ad,as,o1,R,e1, ?_⟩
 cases o1 with
 |nx as1=>exact λσ' ad' H' R' g'=>⟨F,B,ad',as1,o,R',e,q.pre g'⟩
 |bk as1=>cases e;exact q
 |ct as1=>cases e;exact q
 |rt r=>cases e;exact q)
theorem zm(h1:ASt X kd st f):ASs X kd [st] f:=by with_unfolding_all exact(zgo h1)
def sNo:SF:=λ_=>none
theorem zxY:ASt X kd st sNo:=by with_unfolding_all exact(λpins s σ H D I h=>by obtain⟨F,B,ad,as,o,R,e,q⟩:=h;cases e)
theorem yx(hc:AT X kd c ta)(ha:ASs X kd sts f)(hb:ASs X kd rest g):ASt X kd (.If c sts rest pos) (sIf ta f g):=by with_unfolding_all exact(ZG (zuW hc ha hb) λD σ H h=>by
 obtain⟨F,B,ad,as,o,R,e,q⟩:=h
 obtain⟨⟨p,as1⟩,h1,e⟩:=bS_ (show(ta as).bind _=_ from e)
 refine⟨F,B,ad,as,p,as1,R,h1,λad' H' R' g=>?_⟩
 cases p with
 |true=>exact⟨F,B,ad',as1,o,R',e,q.pre g⟩
 |false=>exact⟨F,B,ad',as1,o,R',e,q.pre g⟩)
theorem XC(he:AE X kd e fa)(hs:swapsWith e none pos.line X.env=pure false):ASt X kd (.Expr e pos) (wQ fa):=by with_unfolding_all exact(ZG (zgm he hs) λD σ H h=>by
 obtain⟨F,B,ad,as,o,R,e,q⟩:=h
 obtain⟨⟨p,as1⟩,h1,e⟩:=bS_ (show(fa as).bind _=_ from e)
 cases e
 exact⟨F,B,ad,as,p,as1,R,h1,λv T' ad' H' R' rv g=>q σ ad' H' R'.drop (g.trans (Grow.less Gw.drop))⟩)
theorem zG(he:AE X kd e fa):ASt X kd (.Return (some e) pos) (zT fa):=by with_unfolding_all exact(ZG (zwr he) λD σ H h=>by
 obtain⟨F,B,ad,as,o,R,e,q⟩:=h
 obtain⟨⟨p,as1⟩,h1,e⟩:=bS_ (show(fa as).bind _=_ from e)
 obtain⟨r,h2,e⟩:=bS_ e
 cases e
 refine⟨F,B,ad,as,p,as1,R,h1,λv T' ad' H' R' rv g=>?_⟩
 obtain⟨T2,ro,le⟩:=R'.ret rv h2
 exact q v T2 H' ro (g.trans (Grow.less le)))
theorem zmY{K:zD}{F B:Addr->Prop}{T:List Addr}{ad:Ad}{as as2:AS}{σ:St}{H:Hp}{v:V}{r:RV}{z:Bool}{o:O}{i:Nat}(R:Rel K kd F B T ad as σ H)(rv:vZ K kd F B T ad σ H v r)
 (h2:toO as (if z=true then r.frz else r)=some (o,as2)) (hl:i<as2.length):∃ad',Rel K kd F B [] ad' (as2.set i (some o)) (σ.set i (some v)) H/\∀a,Gw [] ad' a->Gw T ad a:=by
 cases z with
 |true=>
  obtain⟨ad1,R1,ro,le⟩:=zgY R.drop (vZ.drop R rv) h2
  exact⟨_,R1.put hl ro,λa y=>Gw.drop a (le a (zae a y))⟩
 |false=>
  obtain⟨ad1,R1,ro,le⟩:=zgY R rv h2
  exact⟨_,R1.put hl ro,λa y=>le a (zae a y)⟩
theorem zss(hN:X.N.Nodup)(hi:X.N[i]? = some x)(hx:Loc X.env.scope x)(he:AE X kd e fa)(hs:swapsWith e (some (.Name x pos')) pos.line X.env=pure false)(hf:X.fn x=true\/X.env.scope.names.lookup x=some .local):
 ASt X kd (.Assign [.Name x pos'] e pos) (zQ z i fa):=by with_unfolding_all exact(ZG (zrp hN hi hx he hs hf) λD σ H h=>by
 obtain⟨F,B,ad,as,o,R,e,q⟩:=h
 obtain⟨⟨p,as1⟩,h1,e⟩:=bS_ (show(fa as).bind _=_ from e)
 obtain⟨⟨y,as2⟩,h2,e⟩:=bS_ e
 obtain⟨hl,e⟩:=ye e
 cases e
 refine⟨F,B,ad,as,p,as1,R,h1,λv T' ad' H' R' rv g=>?_⟩
 obtain⟨ad2,R2,le⟩:=zmY R' rv h2 hl
 exact q _ ad2 H' R2 (g.trans (Grow.less le)))
end
def Wy(n:Nat)(ds:List (Bool×D)):AS:=ds.map (λx=>some (.lf x.1 x.2))++List.replicate (n-ds.length) none
def zza:Out->Option O
 | .nx _=>some (.lf true .non)
 | .rt o=>some o
 |_=>none
def fnR(n m:Nat)(f:SF)(ds:List (Bool×D)):Option O:=if ds.length=m then(f (Wy n ds)).bind zza else none
theorem RpA.get{K:zD}{kd:KD}{F:Addr->Prop}{H:Hp}:∀{vs:List V}{ds:List (Bool×D)}{i:Nat}{x:Bool×D},RpA K kd F H vs ds->ds[i]? = some x->∃v,vs[i]? = some v/\Rp K kd (λa=>x.1=true/\F a) H v x.2
 |_,_,_,_,.nil,e=>by simp at e
 |_,_,0,_,.cons h _,e=>by simp at e;subst e;exact⟨_,rfl,h⟩
 |_,_,i+1,_,.cons _ r,e=>by
  obtain⟨v,h1,h2⟩:=RpA.get (i:=i) r (by simpa using e)
  exact⟨v,by simpa using h1,h2⟩
theorem zpB{K:zD}{kd:KD}{F:Addr->Prop}{H:Hp}{N:List Str}{vs:List V}{ds:List (Bool×D)}(ht:∀a,F a->H a≠none)(rp:RpA K kd F H vs ds):
 Rel K kd F (λ_=>False) [] (λ_=>[]) (Wy N.length ds) (L2.start N vs) H:=by
 have hl:=rp.length
 have no:∀a,¬Gw [] (λ_=>[]) a:=λa z=>z.elim (λy=>nomatch y) λ⟨_,y⟩=>nomatch y
 refine⟨by unfold Wy L2.start;simp[hl],λ_ _=>rfl,λ_=>QzH,(λ_ _ _ z=>nomatch z),QzH,(λ_ _ _ z=>nomatch z),ht,(λ_ z=>z.elim),λa z=>(no a z).elim,λi s e=>?_⟩
 unfold Wy at e
 unfold L2.start
 by_cases hi:i<ds.length
 · rw[QzN (by rw[zS];exact hi),zzG]at e
   obtain⟨d,hd,ea⟩:=zzV.mp e
   subst ea
   obtain⟨v,hv,rv⟩:=rp.get hd
   rw[QzN (by rw[zS,hl];exact hi),zzG,hv]
   refine⟨v,rfl,.lf (rv.less λa z=>?_)⟩
   rcases z with(z|z)|z
   · exact z
   · exact z.elim
   · exact(no a z).elim
 · rw[QzP (by rw[zS];omega)]at e
   have:=zzY e
   have ea:s=none:=(List.mem_replicate.mp this).2
   subst ea
   rfl
section
variable{P:Program}{w:World}{K:zD}{mg:Str->Option Value}{base:Heap}
theorem zqb(q:RQO K kd F H Q o)(ro:RetOk K kd F T H' v o)(g:Grow (Gw [] λ_=>[]) H (· ∈ T) H'):Q v H':=by
 have no:∀a,¬Gw [] (λ_=>[]) a:=λa z=>z.elim (λy=>nomatch y) λ⟨_,y⟩=>nomatch y
 exact q v T H' ro.nd (λa m=>(g.own a m).resolve_left (no a)) (λb u h=>g.keep b u h (no b)) ro.tr ro.ro
theorem yS{kd:KD}{x qual:Str}{st:Stmt}{f:Addr}{fd:FuncData}{N ps:List Str}{k:Nat}{c:SF}(Fn:Fun K x qual st f fd)(S:FnScope N ps (zr st))
 (hb:∀(cdv:Value) (A:Around) (outer:List Env) (s:Shared) (H:Hp) (E:XK),Room k (A.deeper (envOfC qual (zr st) s.heap.objs.size f cdv))->ASs (zla CX0 P w K mg base N qual (zr st) f cdv A outer s H E).nox kd (W4 st) c):
 FnOk P w K mg base CX0 (k+1) f fd ps (spD K kd (fnR N.length ps.length c)):=by
 with_unfolding_all (
 refine Fn.ok S (λvs H Q E h=>?_) (λcdv A outer s H vs Q E hr h=>⟨_,hb cdv A outer s H E hr, ?_⟩)
 · obtain⟨F,ds,r,_,rp,e,_⟩:=h
   unfold fnR at e
   by_cases hl:ds.length=ps.length
   · rw[rp.length,hl]
   · rw[if_neg hl]at e;cases e
 · obtain⟨F,ds,r,ht,rp,e,q⟩:=h
   unfold fnR at e
   by_cases hl:ds.length=ps.length
   · rw[if_pos hl]at e
     obtain⟨o,e1,e⟩:=bS_ e
     refine⟨F,λ_=>False,λ_=>[],Wy N.length ds,o,zpB ht rp,e1, ?_⟩
     cases o with
     |nx as=>cases e;exact λσ' ad' H' R g=>zqb q (T:=[]) ⟨QzH,(λ_ m=>nomatch m),.lf .non⟩ (g.trans (Grow.less (λ_ z=>nomatch z)))
     |rt o=>cases e;exact λv T H' ro g=>zqb q ro g
     |bk=>cases e
     |ct=>cases e
   · rw[if_neg hl]at e;cases e)
end
abbrev It1:=Bool×D
abbrev GF:=It1->AS->Option AS
abbrev GFs:=List It1->AS->Option AS
def kids(st:Bool)(ds:List D):List It1:=ds.map λd=>(yd d||st,d)
inductive RpI(K:zD)(kd:KD)(F B G:Addr->Prop)(H:Hp):List V->List It1->Prop
 |nil:RpI K kd F B G H [] []
 |cons {v:V}{x:It1}{vs:List V}{ds:List It1}:Rp K kd (Lv F B G x.1) H v x.2->RpI K kd F B G H vs ds->RpI K kd F B G H (v::vs) (x::ds)
def alG(K:zD)(kd:KD)(S:List Nat)(g:GF):TG:=λv σ H Q=>∃F B ad as x as',Rel K kd F B [] ad as σ H/\Rp K kd (Lv F B (Gw [] ad) x.1) H v x.2/\g x as=some as'/\
 ∀σ' ad' H',Rel K kd F B [] ad' as' σ' H'->Grow (Gw [] ad) H (Gw [] ad') H'->(∀j,j ∉ S->σ'[j]? = σ[j]?)->Q σ' H'
def zyw(K:zD)(kd:KD)(S:List Nat)(g:GFs):TGs:=λvs σ H Q=>∃F B ad as ds as',Rel K kd F B [] ad as σ H/\RpI K kd F B (Gw [] ad) H vs ds/\g ds as=some as'/\
 ∀σ' ad' H',Rel K kd F B [] ad' as' σ' H'->Grow (Gw [] ad) H (Gw [] ad') H'->(∀j,j ∉ S->σ'[j]? = σ[j]?)->Q σ' H'
@[irreducible] def AG(X:Cx)(kd:KD)(tg:Expr)(S:List Nat)(g:GF):Prop:=PG X tg (alG X.K kd S g)
@[irreducible] def AGs(X:Cx)(kd:KD)(tg:List Expr)(S:List Nat)(g:GFs):Prop:=PGs X tg (zyw X.K kd S g)
theorem zvq(h:PG X e t)(k:∀v σ H Q,t' v σ H Q->t v σ H Q):PG X e t':=λpins s σ H v u Q I r q=>h pins s σ H v u Q I r (k v σ H Q q)
theorem zou(h:PGs X e t)(k:∀v σ H Q,t' v σ H Q->t v σ H Q):PGs X e t':=λpins s σ H v u Q I r q=>h pins s σ H v u Q I r (k v σ H Q q)
def gN(i:Nat):GF:=λx as=>if i<as.length then some (as.set i (some (.lf x.1 x.2)))else none
def gsN:GFs:=λds as=>match ds with | []=>some as|_::_=>none
def gsC(g:GF)(gs:GFs):GFs:=λds as=>match ds with | []=>none|d::r=>(g d as).bind λas1=>gs r as1
def gT(n:Nat)(gs:GFs):GF:=λx as=>match x.2 with
 | .tup ds=>if ds.length=n then gs (kids x.1 ds) as else none
 | .lst ds=>if ds.length=n then gs (kids x.1 ds) as else none
 |_=>none
section
variable{K:zD}{kd:KD}{F B G G':Addr->Prop}{H H':Hp}
theorem RpI.length(h:RpI K kd F B G H vs ds):vs.length=ds.length:=by
 induction h with
 |nil=>rfl
 |cons _ _ ih=>exact congrArg (· + 1) ih
theorem RpI.grow(g:Grow G H G' H')(h:RpI K kd F B G H vs ds):RpI K kd F B G' H' vs ds:=by
 induction h with
 |nil=>exact .nil
 |cons h _ ih=>exact .cons (Rp.grow g h) ih
theorem RpI.get{vs:List V}{ds:List It1}{i:Nat}{x:It1}(h:RpI K kd F B G H vs ds)(e:ds[i]? = some x):∃v,vs[i]? = some v/\Rp K kd (Lv F B G x.1) H v x.2:=by
 induction h generalizing i with
 |nil=>simp at e
 |cons h r ih=>
  cases i with
  |zero=>simp at e;subst e;exact⟨_,rfl,h⟩
  |succ i=>
   obtain⟨v,h1,h2⟩:=ih (i:=i) (by simpa using e)
   exact⟨v,by simpa using h1,h2⟩
theorem zca{st:Bool}{vs:List V}{ds:List D}(h:RpL K kd (Lv F B G st) H vs ds):RpI K kd F B G H vs (kids st ds):=
 RpL.ind (P:=λvs ds=>RpI K kd F B G H vs (kids st ds)) .nil (λ{v d vs ds} h _ ih=>by
  refine .cons (x:=(yd d||st,d)) ?_ ih
  cases e:yd d with
  |true=>exact h.flat e
  |false=>exact h) h
end
section
variable{prog:Program}{w:World}{A:Around}{E:Value->Shared->Prop}{s:Shared}
theorem zjA(hne:l≠it):∀(n i:Nat) (s:Shared) (Q:List Value->Shared->Prop),s.heap.IsListIter it l i->s.heap.IsList l items->i+n<=items.size->
 (∀h',h'.IsListIter it l (i+n)->Heap.SameBut it s.heap h'->Q ((items.toList.drop i).take n) {s with heap:=h'})->wpAny (model prog w) A (draw (.ref it) n) Q E s
 |0,i,s,Q,hit,_,_,hQ=>by
  show wpAny _ _ (pure []) Q E s
  exact QyE (by simpa using hQ s.heap hit (Heap.SameBut.refl ..))
 |n+1,i,s,Q,hit,ht,hle,hQ=>by
  have hlt:i<items.size:=by omega
  show wpAny _ _ (pyNext (.ref it) >>= _) Q E s
  refine QyD (wpAny_pyNext_list_item hit ht (x:=items[i]) (by simp[hlt]) λh₁ hit₁ hs₁=>?_)
  refine QyD (QyK (zjA hne n (i+1) _ _ hit₁ (ht.extBut hs₁.extBut hne) (by omega) λh₂ hit₂ hs₂=>QyE ?_))
  have hd:items.toList.drop i=items[i]::items.toList.drop (i+1):=by simp[QzO,hlt]
  have:=hQ h₂ (by rw[show i+(n+1)=i+1+n by omega];exact hit₂) (hs₁.trans hs₂)
  rw[hd,List.take_succ_cons]at this
  exact this
theorem zmo(hh:A.handled=none)(ht:s.heap.IsList l items)
 (hn:targets.length=items.size) (hstar:targets.findIdx? (·.1)=none)
 (h:∀h',Heap.ExtBut s.heap.objs.size s.heap h'->wpAny (model prog w) A (assignInOrder (targets.map (·.2)) items.toList) Q E {s with heap:=h'}):
 wpAny (model prog w) A (unpack (.ref l) targets) Q E s:=by
 unfold unpack
 rw[hn,hstar]
 refine QyD (QyK ?_)
 have hlt:l≠s.heap.objs.size:=by obtain⟨o,ho,_⟩:=ht;exact zzO (QyG ho)
 unfold unpackItems
 refine QyD ?_
 unfold notIterableAtAll
 refine QyD (wpAny_specialOf ht.typeIs PySem.F.slot_list_iter.lookup ?_)
 refine QyE ?_
 simp only[Bool.false_eq_true,if_false]
 refine QyD (QyK (wpAny_pyIter_list ht ?_))
 refine QyD (QyK (zjA hlt items.size 0 _ _ ⟨_,QyH _ rfl,rfl,rfl⟩ (ht.push _) (by omega) λh₁ hit₁ hs₁=>?_))
 have hall:List.take items.size (List.drop 0 items.toList)=items.toList:=by
  rw[List.drop_zero];exact List.take_of_length_le (by simp)
 rw[hall]
 rw[if_neg (by simp)]
 have ht₁:h₁.IsList l items:=(ht.push _).extBut hs₁.extBut hlt
 refine QyD (QyK (wpAny_pyNext_list_end hh hit₁ ht₁ (by simp) λh₂ he₂=>?_))
 simp only[Option.isSome_none,Bool.false_eq_true,if_false]
 exact QyE (h h₂ λb o hb e=>he₂ b o hb (hs₁.extBut b o hb (QyF _ e)))
end
section
variable{X:Cx}{kd:KD}{a b c e tg iter:Expr}{es:List Expr}{body:List Stmt}{fa fb:EF}{pos:Pos}{g:GF}{gs:GFs}{f:SF}{ta:TF}{S S1 S2:List Nat}
def zyK(K:zD)(n:Nat)(t:TGs):TG:=λv σ H Q=>∃a xs,v = .ref a/\SqL K H a xs/\xs.length=n/\t xs σ H Q
theorem zqJ(hc:X.calm=true)(h:PGs X es t)(hn:(assignEach es X.env).length=n)(hst:(assignEach es X.env).findIdx? (·.1)=none):PG X (.Tuple es k pos) (zyK X.K n t):=by
 intro pins s σ H v u Q I r hw
 obtain⟨a,xs,e1,hq,hl,hw⟩:=hw
 subst e1
 cases r
 obtain⟨its,rv,ht,hz⟩:=I.list hq
 rw[assign_Tuple]
 refine QyD (wpAny_standAt (zmo (I.ok.hd hc) ht.isList (by simp[hn,<-hl,rv.length]) hst λh' hx=>?_))
 have I1:Inv X pins σ H {s with heap:=h'}:=I.kept (t':=s.toks) λb o e=>hx b o (zzO (QyG e)) e
 exact h pins _ σ H xs _ Q I1 (by simpa using rv) hw
theorem zto(hN:X.N.Nodup)(hi:X.N[i]? = some x)(hx:Loc X.env.scope x)(hf:X.fn x=true\/X.env.scope.names.lookup x=some .local):AG X kd (.Name x pos) [i] (gN i):=by with_unfolding_all exact(zvq (zsZ hN hi hx hf) λv σ H Q h=>by
 obtain⟨F,B,ad,as,y,as',R,rp,e,q⟩:=h
 obtain⟨hl,e⟩:=ye e
 cases e
 exact q _ _ H (R.put hl (o:=.lf y.1 y.2) (.lf rp)) (Grow.less zae) λj hj=>zzW (λz=>hj (by rw[z];simp)))
theorem Vb:AGs X kd [] [] gsN:=by with_unfolding_all exact(zou zsR λvs σ H Q h=>by
 obtain⟨F,B,ad,as,ds,as',R,rp,e,q⟩:=h
 cases rp with
 |nil=>cases e;exact⟨rfl,q σ ad H R Grow.refl λ_ _=>rfl⟩
 |cons=>cases e)
theorem wu(h1:AG X kd a S1 g)(h2:AGs X kd es S2 gs)(hs:(assignEach (a::es) X.env).map (·.2)=assign a X.env::(assignEach es X.env).map (·.2)):AGs X kd (a::es) (S1++S2) (gsC g gs):=by with_unfolding_all exact(zou (zri h1 h2 hs) λvs σ H Q h=>by
 obtain⟨F,B,ad,as,ds,as',R,rp,e,q⟩:=h
 cases rp with
 |nil=>cases e
 |cons r rr=>
  obtain⟨as1,e1,e⟩:=bS_ (show(g _ as).bind _=_ from e)
  refine⟨_,_,rfl,F,B,ad,as,_,as1,R,r,e1,λσ' ad' H' R' g' k'=>?_⟩
  exact⟨F,B,ad',as1,_,as',R',rr.grow g',e,λσ2 ad2 H2 R2 g2 k2=>q σ2 ad2 H2 R2 (g'.trans g2) λj hj=>(k2 j λz=>hj (zzJ _ z)).trans (k' j λz=>hj (zzN _ z))⟩)
theorem zbk{k n:Nat}(hc:X.calm=true)(h:AGs X kd es S gs)(hn:(assignEach es X.env).length=n)(hst:(assignEach es X.env).findIdx? (·.1)=none):AG X kd (.Tuple es k pos) S (gT n gs):=by
 with_unfolding_all (
 intro pins s σ H v u Q I r hw
 obtain⟨F,B,ad,as,⟨st,d⟩,as',R,rp,e,q⟩:=hw
 cases d with
 |tup ds=>
  have e:(if ds.length=n then gs (kids st ds) as else none)=some as':=e
  by_cases hl:ds.length=n
  · rw[if_pos hl]at e
    have go:∃a xs,v = .ref a/\SqT X.K H a xs/\RpL X.K kd (Lv F B (Gw [] ad) st) H xs ds:=by
     cases rp with
     |tup n h r=>exact⟨_,_,rfl,.inl h,r⟩
     |tupK a b c e f r=>exact⟨_,_,rfl,.inr ⟨_,_,_,a,b,c,e,f⟩,r⟩
    obtain⟨a,xs,rfl,hs,rl⟩:=go
    exact zwG hc h hn hst pins s σ H _ u Q I r ⟨a,xs,rfl,hs,by rw[rl.length,hl],F,B,ad,as,_,as',R,zca rl,e,q⟩
  · rw[if_neg hl]at e;cases e
 |lst ds=>
  have e:(if ds.length=n then gs (kids st ds) as else none)=some as':=e
  by_cases hl:ds.length=n
  · rw[if_pos hl]at e
    cases rp with
    |lstK a b c r'=>exact zqJ hc h hn hst pins s σ H _ u Q I r ⟨_,_,rfl,.inr ⟨_,_,_,a,rfl,rfl,rfl,b,c⟩,by rw[r'.length,hl],F,B,ad,as,_,as',R,zca r',e,q⟩
    |lst n h' r'=>exact zqJ hc h hn hst pins s σ H _ u Q I r ⟨_,_,rfl,.inl h',by rw[r'.length,hl],F,B,ad,as,_,as',R,zca r',e,q⟩
  · rw[if_neg hl]at e;cases e
 |_=>cases e)
def zbr(as:AS)(r:RV):Option (It1×AS):=(toO as r.frz).bind λx=>match x.1 with | .lf st d=>some ((st,d),x.2)|_=>none
theorem zcf{K:zD}{F B:Addr->Prop}{T:List Addr}{ad:Ad}{as as':AS}{σ:St}{H:Hp}{v:V}{r:RV}{x:It1}(R:Rel K kd F B T ad as σ H)(h:vZ K kd F B T ad σ H v r)(e:zbr as r=some (x,as')):
 ∃ad',Rel K kd F B [] ad' as' σ H/\Rp K kd (Lv F B (Gw [] ad') x.1) H v x.2/\∀a,Gw [] ad' a->Gw T ad a:=by
 obtain⟨⟨o,as1⟩,h1,e⟩:=bS_ e
 obtain⟨ad1,R1,ro,le⟩:=zgY R.drop (vZ.drop R h) h1
 cases o with
 |lf st d=>
  cases e
  refine⟨ad1,R1, ?_,λa y=>Gw.drop a (le a y)⟩
  have:=zkk ro
  exact this
 |nd k os=>cases e
def zmq(f:EF)(g:GF):SF:=λas=>(f as).bind λp=>(zbr p.2 p.1).bind λq=>(g q.1 q.2).bind λas'=>some (.nx as')
theorem znr(he:AE X kd e fa)(hg:AG X kd tg S g)(hs:swapsWithSole [tg] e pos.line X.env=pure false)(hw:swappedStores [tg] e X.env=pure none)(h1:(assignEach [tg] X.env).map (·.2)=[assign tg X.env]):
 ASt X kd (.Assign [tg] e pos) (zmq fa g):=by with_unfolding_all exact(ZG (znM he hg hs hw h1) λD σ H h=>by
 obtain⟨F,B,ad,as,o,R,e,q⟩:=h
 obtain⟨⟨p,as1⟩,h1,e⟩:=bS_ (show(fa as).bind _=_ from e)
 obtain⟨⟨x,as2⟩,h2,e⟩:=bS_ e
 obtain⟨as3,h3,e⟩:=bS_ e
 cases e
 refine⟨F,B,ad,as,p,as1,R,h1,λv T' ad' H' R' rv g1=>?_⟩
 obtain⟨ad2,R2,rp,le⟩:=zcf R' rv h2
 exact⟨F,B,ad2,as2,_,as3,R2,rp,h3,λσ' ad' H' R' g' _=>q σ' ad' H' R' ((g1.trans (Grow.less le)).trans g')⟩)
structure ItOk(K:zD)(kd:KD)(F B:Addr->Prop)(ad:Ad)(H:Hp)(J:It)(ds:List It1):Prop where
 all:∀(ad2:Ad) (H2:Hp),Grow (Gw [] ad) H (Gw [] ad2) H2->(∀st a,Lv F B (Gw [] ad2) st a->H2 a≠none)->∀i,(i<ds.length->J.go i H2)/\(ds.length<=i->J.stop i H2)/\
  ∀v H3,J.yld i H2 v H3->(∀b o,H2 b=some o->H3 b=some o)/\∀x,ds[i]? = some x->Rp K kd (Lv F B (Gw [] ad2) x.1) H3 v x.2
abbrev IF:=AS->Option (List It1×AS)
def alI(K:zD)(kd:KD)(f:IF):TI:=λσ H R=>∃F B ad as ds as',Rel K kd F B [] ad as σ H/\f as=some (ds,as')/\
 ∀J ad' H',Rel K kd F B [] ad' as' σ H'->Grow (Gw [] ad) H (Gw [] ad') H'->ItOk K kd F B ad' H' J ds->R J H'
@[irreducible] def AI(X:Cx)(kd:KD)(tg iter:Expr)(f:IF):Prop:=PI X tg iter (alI X.K kd f)
def forL(g:GF)(f:SF):List It1->AS->Option Out
 | [],as=>some (.nx as)
 |d::r,as=>(g d as).bind λas1=>(f as1).bind λo=>match o with
  | .nx as'=>forL g f r as'
  | .ct as'=>forL g f r as'
  | .bk as'=>some (.nx as')
  | .rt r=>some (.rt r)
def vI(fi:IF)(g:GF)(f:SF):SF:=λas=>(fi as).bind λp=>forL g f p.1 p.2
theorem vz(hp:PassesOwn (model X.prog X.w) X.A X.env X.xe)(hc:X.calm=true)(hi:AI X kd tg iter fi)(hg:AG X kd tg S g)(hb:ASs X kd body f)(hs:∀x,foldedSetIterable iter X.env x=pure x):
 ASt X kd (.For tg iter body [] pos) (vI fi g f):=by with_unfolding_all exact(ZG (zrz hp hc hi hg hb hs) λD σ H h=>by
 obtain⟨F,B,ad,as,o,R,e,q⟩:=h
 obtain⟨⟨ds,as1⟩,h1,e⟩:=bS_ (show(fi as).bind _=_ from e)
 refine⟨F,B,ad,as,ds,as1,R,h1,λJ ad1 H1 R1 g1 it=>?_⟩
 refine⟨λi m σ2 H2=>m+i=ds.length/\∃ad2 as2,Rel X.K kd F B [] ad2 as2 σ2 H2/\Grow (Gw [] ad1) H1 (Gw [] ad2) H2/\forL g f (ds.drop i) as2=some o,⟨ds.length,rfl,ad1,as1,R1,Grow.refl,e⟩, ?_⟩
 rintro i m σ2 H2 ⟨hm,ad2,as2,R2,g2,e2⟩
 obtain⟨k1,k2,k3⟩:=it.all ad2 H2 g2 R2.trk i
 by_cases hi:i<ds.length
 · refine .inr ⟨k1 hi,λσ3 H3=>∃ad3 as3,Rel X.K kd F B [] ad3 as3 σ3 H3/\Grow (Gw [] ad1) H1 (Gw [] ad3) H3/\forL g f (ds.drop (i+1)) as3=some o,λσ3 H3 ⟨ad3,as3,R3,g3,e3⟩=>⟨m-1,by omega,by omega,ad3,as3,R3,g3,e3⟩,λv H3 hy=>?_⟩
   obtain⟨kp,rp⟩:=k3 v H3 hy
   rw[QzO hi]at e2
   obtain⟨as3,e3,e2⟩:=bS_ (show(g _ as2).bind _=_ from e2)
   obtain⟨o3,e4,e2⟩:=bS_ e2
   obtain⟨R3,g3⟩:=R2.more kp
   refine⟨F,B,ad2,as2,_,as3,R3,rp _ (zzC hi),e3,λσ4 ad4 H4 R4 g4 _=>?_⟩
   refine⟨F,B,ad4,as3,o3,R4,e4, ?_⟩
   have gg:=(g2.trans g3).trans g4
   cases o3 with
   |nx as5=>exact λσ5 ad5 H5 R5 g5=>⟨ad5,as5,R5,gg.trans g5,e2⟩
   |ct as5=>exact λσ5 ad5 H5 R5 g5=>⟨ad5,as5,R5,gg.trans g5,e2⟩
   |bk as5=>
    cases e2
    exact λσ5 ad5 H5 R5 g5=>q σ5 ad5 H5 R5 (g1.trans (gg.trans g5))
   |rt r=>
    cases e2
    exact λv T H5 ro g5=>q v T H5 ro (g1.trans (gg.trans g5))
 · refine .inl ⟨k2 (by omega), ?_⟩
   rw[List.drop_eq_nil_of_le (by omega)]at e2
   cases e2
   exact q σ2 ad2 H2 R2 (g1.trans g2))
def zjC:It1->Option (List It1)
 |(st,.lst ds)=>some (kids st ds)
 |(st,.tup ds)=>some (kids st ds)
 |_=>none
def zeQ(f:EF):IF:=λas=>(f as).bind λp=>(zbr p.2 p.1).bind λq=>(zjC q.1).bind λds=>some (ds,q.2)
theorem zoV{K:zD}{F B:Addr->Prop}{ad:Ad}{H:Hp}{a:Addr}{vs:List V}{ds:List It1}(hs:∀(ad3:Ad) (H3:Hp),Grow (Gw [] ad) H (Gw [] ad3) H3->SqL K H3 a vs)(r:RpI K kd F B (Gw [] ad) H vs ds):ItOk K kd F B ad H (Itl K a) ds:=⟨λad3 H3 g3 _ i=>by
 have hr3:=hs ad3 H3 g3
 have rl3:=r.grow g3
 refine⟨λhi=>?_,λhi=>⟨_,hr3,by rw[r.length];exact hi⟩,λv H4 hy=>?_⟩
 · obtain⟨u,hu,_⟩:=r.get (zzC hi)
   exact⟨_,u,hr3,hu⟩
 · obtain⟨rfl,hv⟩:=hy
   refine⟨λ_ _ z=>z,λd hd=>?_⟩
   obtain⟨u,hu,ru⟩:=rl3.get hd
   have:=hv _ hr3
   rw[hu]at this
   cases this
   exact ru⟩
theorem zvd{K:zD}{F B:Addr->Prop}{ad:Ad}{H:Hp}{a:Addr}{vs:List V}{ds:List It1}(hs:∀(ad3:Ad) (H3:Hp),Grow (Gw [] ad) H (Gw [] ad3) H3->SqT K H3 a vs)(r:RpI K kd F B (Gw [] ad) H vs ds):ItOk K kd F B ad H (Itt K a) ds:=⟨λad3 H3 g3 _ i=>by
 have hr3:=hs ad3 H3 g3
 have rl3:=r.grow g3
 refine⟨λhi=>?_,λhi=>⟨_,hr3,by rw[r.length];exact hi⟩,λv H4 hy=>?_⟩
 · obtain⟨u,hu,_⟩:=r.get (zzC hi)
   exact⟨_,u,hr3,hu⟩
 · obtain⟨rfl,hv⟩:=hy
   refine⟨λ_ _ z=>z,λd hd=>?_⟩
   obtain⟨u,hu,ru⟩:=rl3.get hd
   have:=hv _ hr3
   rw[hu]at this
   cases this
   exact ru⟩
theorem zkl(he:AE X kd e fa):AI X kd tg e (zeQ fa):=by
 with_unfolding_all (
 intro pins s σ H R I h
 obtain⟨F,B,ad,as,ds,as',Rl,e,q⟩:=h
 obtain⟨⟨p,as1⟩,h1,e⟩:=bS_ (show(fa as).bind _=_ from e)
 obtain⟨⟨⟨st,x⟩,as2⟩,h2,e⟩:=bS_ e
 obtain⟨ys,h3,e⟩:=bS_ e
 cases e
 cases x with
 |lst xs=>
  cases h3
  refine zkL he pins s σ H R I ⟨F,B,ad,as,p,as1,Rl,h1,λv T1 ad1 H1 R1 rv1 g1=>?_⟩
  obtain⟨ad2,R2,rp,le⟩:=zcf R1 rv1 h2
  cases rp with
  |lst hn hr rl=>exact⟨_,rfl,⟨_,.inl hr⟩,q _ ad2 H1 R2 (g1.trans (Grow.less le)) (zoV (λad3 H3 g3=>.inl (zcb g3 (λz=>hn (.inr z)) hr)) (zca rl))⟩
  |lstK a b c rl=>exact⟨_,rfl,⟨_,.inr ⟨_,_,_,a,rfl,rfl,rfl,b,c⟩⟩,q _ ad2 H1 R2 (g1.trans (Grow.less le)) (zoV (λad3 H3 g3=>.inr ⟨_,_,_,a,rfl,rfl,rfl,b,c⟩) (zca rl))⟩
 |tup xs=>
  cases h3
  refine znw he pins s σ H R I ⟨F,B,ad,as,p,as1,Rl,h1,λv T1 ad1 H1 R1 rv1 g1=>?_⟩
  obtain⟨ad2,R2,rp,le⟩:=zcf R1 rv1 h2
  have go:∃a ys,v = .ref a/\(∀(ad3:Ad) (H3:Hp),Grow (Gw [] ad2) H1 (Gw [] ad3) H3->SqT X.K H3 a ys)/\RpL X.K kd (Lv F B (Gw [] ad2) st) H1 ys xs:=by
   cases rp with
   |tup n h r=>exact⟨_,_,rfl,λad3 H3 g3=>.inl (zcb g3 (λz=>n (.inr z)) h),r⟩
   |tupK a b c e f r=>exact⟨_,_,rfl,λad3 H3 g3=>.inr ⟨_,_,_,a,b,c,e,f⟩,r⟩
  obtain⟨a,ys,rfl,hs,rl⟩:=go
  exact⟨_,rfl,⟨_,hs ad2 H1 Grow.refl⟩,q _ ad2 H1 R2 (g1.trans (Grow.less le)) (zvd hs (zca rl))⟩
 |_=>cases h3)
def wR(lo:Int)(n:Nat):List It1:=(List.range n).map λ(i:Nat)=>(true,D.int (lo+(i:Int)))
theorem zuY{K:zD}{F B:Addr->Prop}{ad:Ad}{H:Hp}(lo:Int)(n:Nat):ItOk K kd F B ad H (Itr lo n) (wR lo n):=⟨λad2 H2 g _ i=>by
 have hl:(wR lo n).length=n:=by unfold wR;simp
 refine⟨λhi=>by rw[hl]at hi;exact hi,λhi=>by rw[hl]at hi;exact hi,λv H3 hy=>?_⟩
 obtain⟨rfl,rfl⟩:=hy
 refine⟨λ_ _ z=>z,λd hd=>?_⟩
 have hi:i<n:=by rw[<-hl];exact(zzE.mp hd).1
 unfold wR at hd
 rw[zzG,List.getElem?_range hi]at hd
 cases hd
 exact .int _⟩
def zye:List D->Option D
 | [x]=>some x
 |_=>none
theorem zsL(h:zye ds=some d):ds=[d]:=by
 cases ds with
 |nil=>cases h
 |cons x r=>
  cases r with
  |nil=>cases h;rfl
  |cons _ _=>cases h
def xW(ds:List D):Option (List It1):=((zye ds).bind asI).bind λj=>if -(2 ^ 62)<=j/\j<2 ^ 62 then some (wR 0 j.toNat)else none
theorem zpb(h:xW ds=some xs):∃j,ds=[.int j]/\(if -(2 ^ 62)<=j/\j<2 ^ 62 then some (wR 0 j.toNat)else none)=some xs:=by
 obtain⟨j,h1,h⟩:=bS_ h
 obtain⟨d,h2,h1⟩:=bS_ h1
 cases zky h1
 exact⟨j,zsL h2,h⟩
def xU(fr:AF)(h:List D->Option (List It1)):IF:=λas=>(fr as).bind λp=>(views p.2 p.1).bind λds=>(h ds.1).bind λxs=>some (xs,p.2)
theorem xq(hg:Gl X "range")(hm:X.mg "range"=none)(ha:AA X kd [a] fr)(hs:starEach [a] X.env=[(false,eval a X.env)]):AI X kd tg (.Call (.Name "range" p) [a] [] pos) (xU fr xW):=by
 with_unfolding_all (
 intro pins s σ H R I h
 obtain⟨F,B,ad,as,ds,as',Rl,e,q⟩:=h
 obtain⟨⟨ps,as1⟩,h1,e⟩:=bS_ (show(fr as).bind _=_ from e)
 obtain⟨⟨xs,lv⟩,h2,e⟩:=bS_ e
 obtain⟨ys,h3,e⟩:=bS_ e
 cases e
 obtain⟨j,rfl,h3⟩:=zpb h3
 · obtain⟨hj,e3⟩:=ye h3
   cases e3
   refine zjl hg hm ha hs pins s σ H R I ⟨F,B,ad,as,ps,_,Rl,h1,λvs ad1 H1 R1 rv1 g1=>?_⟩
   have vl:=zcs R1 rv1 h2
   cases vl with
   |cons v1 v2=>
    cases v2
    cases v1
    exact⟨j,rfl,hj.1,hj.2,q _ ad1 H1 R1 g1 (zuY 0 _)⟩)
theorem Rel.mut{K:zD}{F B:Addr->Prop}{T fo:List Addr}{ad:Ad}{as:AS}{σ:St}{H:Hp}{i:Nat}{l:Addr}{fp fp':List Addr}{n:O}{u:HO}(R:Rel K kd F B T ad as σ H)(hi:i<as.length)(hl:ad i=l::fp)(hs:σ[i]? = some (some (.ref l)))
 (hsub:∀a ∈ fp'++fo,a ∈ fp++T) (hnd:(fp'++fo).Nodup) (hu:H l≠none)
 (ro:∀(H':Hp) (G':Addr->Prop),H' l=some u->Grow (Gw T ad) H G' H'->(∀a ∈ fp',∀w,H a=some w->H' a=some w)->RoS K kd F B G' H' (.ref l) n (l::fp')):
 Rel K kd F B fo (YG ad i (l::fp')) (as.set i (some n)) σ (upd H l u)/\Grow (Gw T ad) H (Gw fo (YG ad i (l::fp'))) (upd H l u):=by
 have hli:l ∈ ad i:=by rw[hl];exact zzD
 have lT:l ∉ T:=R.dis i l hli
 have lfp:l ∉ fp:=by have:=R.nd i;rw[hl]at this;exact(zzU.mp this).1
 have lsub:∀a ∈ fp'++fo,a≠l:=λa m e=>by
  subst e
  rcases zzK.mp (hsub _ m)with z|z
  · exact lfp z
  · exact lT z
 have sub:∀a ∈ fp'++fo,Gw T ad a:=λa m=>by
  rcases zzK.mp (hsub a m)with z|z
  · exact .inr ⟨i,by rw[hl];exact zzB _ z⟩
  · exact .inl z
 have gsub:∀a,Gw fo (YG ad i (l::fp')) a->Gw T ad a:=λa z=>by
  rcases z with z|⟨j,z⟩
  · exact sub a (zzJ _ z)
  · by_cases e:j=i
    · subst e
      rw[yK]at z
      rcases zzA.mp z with z|z
      · subst z;exact .inr ⟨j,hli⟩
      · exact sub a (zzN _ z)
    · rw[yP e]at z;exact .inr ⟨j,z⟩
 have g:Grow (Gw T ad) H (Gw fo (YG ad i (l::fp'))) (upd H l u):=⟨λb w h n=>by rw[yg (λe=>n (by subst e;exact .inr ⟨i,hli⟩))];exact h,λb z=>.inl (gsub b z)⟩
 have kn:∀a,H a≠none->upd H l u a≠none:=λa z=>by
  by_cases e:a=l
  · subst e;rw[yH];simp
  · rw[yg e];exact z
 obtain⟨hnd1,hnd2,hnd3⟩:=QyC.mp hnd
 have inT:∀j a,j≠i->a ∈ ad j->a ∈ fp'++fo->False:=λj a hj m m'=>by
  rcases zzK.mp (hsub a m')with z|z
  · exact hj (R.inj j i a m (by rw[hl];exact zzB _ z))
  · exact R.dis j a m z
 refine⟨⟨by rw[zzS];exact R.len,λj hj=>?_,λj=>?_,λj k a h1 h2=>?_,hnd2,λj a h1 h2=>?_,λa z=>kn a (R.ftr a z),λa z=>?_,λa z=>⟨kn a (R.gtr a (gsub a z)).1,(R.gtr a (gsub a z)).2⟩,λj s e=>?_⟩,g⟩
 · rw[zzS]at hj
   rw[yP (by omega)];exact R.out j hj
 · by_cases e:j=i
   · subst e;rw[yK]
     exact zzU.mpr ⟨λm=>lsub l (zzN _ m) rfl,hnd1⟩
   · rw[yP e];exact R.nd j
 · by_cases e:j=i
   · subst e
     by_cases e':k=j
     · exact e'.symm
     · rw[yK]at h1
       rw[yP e']at h2
       rcases zzA.mp h1 with z|z
       · subst z;exact R.inj j k a hli h2
       · exact(inT k a e' h2 (zzN _ z)).elim
   · rw[yP e]at h1
     by_cases e':k=i
     · subst e'
       rw[yK]at h2
       rcases zzA.mp h2 with z|z
       · subst z;exact R.inj j k a h1 hli
       · exact(inT j a e h1 (zzN _ z)).elim
     · rw[yP e']at h2
       exact R.inj j k a h1 h2
 · by_cases e:j=i
   · subst e
     rw[yK]at h1
     rcases zzA.mp h1 with z|z
     · subst z;exact lsub a (zzJ _ h2) rfl
     · exact hnd3 a z a h2 rfl
   · rw[yP e]at h1
     exact inT j a e h1 (zzJ _ h2)
 · obtain⟨b1,b2,b3⟩:=R.btr a z
   exact⟨kn a b1,b2,λy=>b3 (gsub a y)⟩
 · by_cases q:j=i
   · subst q
     rw[QzI hi]at e
     cases e
     rw[yK]
     refine⟨_,hs,ro _ _ yH g λa m w h=>?_⟩
     rw[yg (lsub a (zzN _ m))];exact h
   · rw[zzW (Ne.symm q)]at e
     rw[yP q]
     refine(R.sl j s e).grow g λa m w h=>?_
     rw[yg (λz=>q (R.inj j i l (by rw[<-z];exact m) hli))];exact h
abbrev MG:=List O->List O->Option (List O×O)
def Zm(i:Nat)(fr:DF)(g:MG):EF:=λas=>match as[i]? with
 |some (some (.nd .ls _))=>(fr as).bind λp=>match p.2[i]? with
  |some (some (.nd .ls os))=>(g os p.1).bind λz=>some (.ow z.2,p.2.set i (some (.nd .ls z.1)))
  |_=>none
 |_=>none
def MuD(X:Cx)(kd:KD)(r:V->List V->Hp->VK->Prop)(g:MG):Prop:=
 ∀(F B G:Addr->Prop) (l:Addr) (vs ws:List V) (os es os':List O) (o:O) (fp fq:List Addr) (H:Hp) (Q:VK),H l=some (.lst vs)->YF X.K kd F B G H vs os fp->YF X.K kd F B G H ws es fq->(fp++fq).Nodup->g os es=some (os',o)->
  (∀v vs' fp' fo,YF X.K kd F B G H vs' os' fp'->RoS X.K kd F B G H v o fo->(∀a ∈ fp'++fo,a ∈ fp++fq)->(fp'++fo).Nodup->Q v (upd H l (.lst vs')))->r (.ref l) ws H Q
theorem zxG{i:Nat}{fr:DF}{g:MG}{r:V->List V->Hp->VK->Prop}(hr:MuD X kd r g)
 {σ:St}{H:Hp}{Q:VK}(h:al X.K kd (Zm i fr g) σ H Q):tBM X.K "list" r (ziA i) (alD X.K kd fr) σ H Q:=by
 obtain⟨F,B,ad,as,z,as',R,e,q⟩:=h
 unfold Zm at e
 cases k:as[i]? with
 |none=>rw[k]at e;cases e
 |some a0=>
  rw[k]at e
  match a0,e,k with
  |some (.nd .ls os0),e,k=>
   obtain⟨⟨es,as1⟩,h1,e⟩:=bS_ (show(fr as).bind _=_ from e)
   obtain⟨v0,hs0,ro0⟩:=R.sl i _ k
   generalize hfp0:ad i=fp0 at ro0
   cases ro0 with
   |ls hH0 rl0=>
   rename_i l vs0 fp00
   refine⟨_,hs0,.inl ⟨rfl,_,.inl (.inl hH0)⟩,F,B,ad,as,es,as1,R,h1,λws T1 ad1 H1 R1 ro1 g1=>?_⟩
   cases k2:as1[i]? with
   |none=>rw[k2]at e;cases e
   |some a2=>
    rw[k2]at e
    match a2,e,k2 with
    |some (.nd .ls os),e,k2=>
     obtain⟨⟨os',o⟩,h3,e⟩:=bS_ (show(g os es).bind _=_ from e)
     cases e
     obtain⟨v1,hs1,ro2⟩:=R1.sl i _ k2
     rw[hs0]at hs1
     cases hs1
     generalize hfp:ad1 i=fp1 at ro2
     cases ro2 with
     |ls hH rl=>
     rename_i vs fp
     have hnd:(fp++T1).Nodup:=QyC.mpr ⟨by have:=R1.nd i;rw[hfp]at this;exact(zzU.mp this).2,R1.tnd,λa m b m' e=>by
          subst e;exact R1.dis i a (by rw[hfp];exact zzB _ m) m'⟩
     refine hr F B (Gw T1 ad1) _ vs ws os es os' o fp T1 H1 Q hH rl ro1 hnd h3 λv vs' fp' fo rl' ro' hsub hnd'=>?_
     obtain⟨R3,g3⟩:=R1.mut (n:=.nd .ls os') (u:=.lst vs') (zzE.mp k2).1 hfp hs0 hsub hnd' (by rw[hH];simp) λH' G' hl' gr kp=>.ls hl' (YF.grow gr kp rl')
     have lno:∀a ∈ fo,∀w,H1 a=some w->upd H1 l (.lst vs') a=some w:=λa m w h=>by
          rw[yg (λe=>?_)]
          · exact h
          · subst e
            rcases zzK.mp (hsub _ (zzJ _ m))with z|z
            · have:=R1.nd i;rw[hfp]at this;exact(zzU.mp this).1 z
            · exact R1.dis i _ (by rw[hfp];exact zzD) z
     exact q v fo _ _ R3 (RoS.grow g3 lno ro') (g1.trans g3)
end
end PF
end
section
set_option exponentiation.threshold 5000
namespace PF
open PySem PySem.Spec PyProof.Rows L2
section
variable{K:zD}{kd:KD}{O:Addr->Prop}{H:Hp}{Q:VK}
theorem yO(q:RQ K kd O H Q (.im d))(r:Rp K kd O H v d):Q v H:=q v H (λ_ _ z=>z) r
theorem zos(hp:H p=none)(r:RpL K kd O H vs ds):RpL K kd (Un2 O (· = p)) (upd H p o) vs ds:=
 RpL.grow (F:=O) (W:=λ_=>False) ⟨λb u q _=>by rw[yg (yI q hp)];exact q,λb z=>.inr (by rw[z];exact hp)⟩ (r.less λa z=>z.elim id False.elim)
theorem zsW(hp:H p=none)(r:RpM K kd O H vs ds):RpM K kd (Un2 O (· = p)) (upd H p o) vs ds:=
 RpM.grow (F:=O) (W:=λ_=>False) ⟨λb u q _=>by rw[yg (yI q hp)];exact q,λb z=>.inr (by rw[z];exact hp)⟩ (r.less λa z=>z.elim id False.elim)
theorem YB(hp:H p=none):∀b u,H b=some u->upd H p o b=some u:=λb u q=>by rw[yg (yI q hp)];exact q
theorem zdp(q:RQ K kd O H Q (.fl ds))(r:RpL K kd O H vs ds):∀p,H p=none->Q (.ref p) (upd H p (.lst vs)):=λp hp=>
 q p vs _ hp (YB hp) yH (zos hp r)
theorem zrY(q:RQ K kd O H Q (.fd ds))(r:RpM K kd O H vs ds):∀p,H p=none->Q (.ref p) (upd H p (.dK vs)):=λp hp=>
 q p vs _ hp (YB hp) yH (zsW hp r)
theorem zka(ht:∀a,O a->H a≠none)(q:RQ K kd O H Q (.im (.tup ds)))(r:RpL K kd O H vs ds):∀p,H p=none->Q (.ref p) (upd H p (.tup vs)):=λp hp=>
 q _ _ (YB hp) (.tup (λz=>ht p z hp) (.inl yH) ((zos hp r).less λa z=>.inl z))
end
def big:Nat:=2 ^ 4000
theorem zmB(h:i.natAbs<big):Builtin.Int.intBits i<=2 ^ 20:=by
 unfold Builtin.Int.intBits
 split
 · exact Nat.zero_le _
 · have:i.natAbs.log2<4000:=by
    rcases Nat.eq_zero_or_pos i.natAbs with h0|hp
    · rw[h0];decide
    · exact(Nat.log2_lt (Nat.ne_of_gt hp)).mpr h
   have e:(2:Nat) ^ 20=1048576:=by decide
   omega
theorem ztp(h:i.natAbs<2 ^ 64):Builtin.Int.intBits i<=64:=by
 unfold Builtin.Int.intBits
 split
 · exact Nat.zero_le _
 · rcases Nat.eq_zero_or_pos i.natAbs with h0|hp
   · rw[h0];decide
   · exact(Nat.log2_lt (Nat.ne_of_gt hp)).mpr h
def onI(f:Int->Int->Option R0)(x y:D):Option R0:=(asI x).bind λi=>(asI y).bind λj=>f i j
def zyF(x y:D):Option R0:=match x with
 | .int i=>(asI y).bind λj=>some (.im (.int (i+j)))
 | .str x=>(asS y).bind λy=>if x.length+y.length<=sizeLine then some (.im (.str (x++y)))else none
 | .lst xs=>(asL y).bind λys=>if xs.length+ys.length<=sizeLine then some (.fl (xs++ys))else none
 | .tup xs=>(asT y).bind λys=>if xs.length+ys.length<=sizeLine then some (.im (.tup (xs++ys)))else none
 |_=>none
def zyT(x y:D):Option R0:=match x with
 | .int i=>(asI y).bind λj=>if(i.natAbs<big/\j.natAbs<big)\/j.natAbs<2 ^ 64 then some (.im (.int (i*j)))else none
 | .lst xs=>(asI y).bind λk=>if -(2 ^ 63)<=k/\k<2 ^ 63/\xs.length*k.toNat<=sizeLine then some (.fl (List.replicate k.toNat xs).flatten)else none
 | .tup xs=>(asI y).bind λk=>if 1<=k/\k<2 ^ 63/\xs.length≠0/\xs.length*k.toNat<=sizeLine then some (.im (.tup (List.replicate k.toNat xs).flatten))else none
 |_=>none
def V3(o:Operator)(x y:D):Option R0:=match o with
 | .Add=>zyF x y
 | .Sub=>onI (λi j=>some (.im (.int (i-j)))) x y
 | .Mult=>zyT x y
 | .FloorDiv=>onI (λi j=>if 0<j/\j.natAbs<big then some (.im (.int (i/j)))else none) x y
 | .Mod=>onI (λi j=>if 0<j then some (.im (.int (i%j)))else none) x y
 | .Pow=>onI (λi j=>if 0<=j/\j<=1000000/\i.natAbs<2 ^ 64 then some (.im (.int (i ^ j.toNat)))else none) x y
 |_=>none
theorem VL{K:zD}{kd:KD}{O:Addr->Prop}{H:Hp}{v:V}{d:D}{i:Int}(h:Vw K kd O H v d)(e:asI d=some i):d = .int i/\v = .int i:=by
 cases h with
 |int j=>cases e;exact⟨rfl,rfl⟩
 |_=>cases e
theorem zva{K:zD}{kd:KD}{O:Addr->Prop}{H:Hp}{v:V}{d:D}{i:Str}(h:Vw K kd O H v d)(e:asS d=some i):d = .str i/\v = .str i:=by
 cases h with
 |str j=>cases e;exact⟨rfl,rfl⟩
 |_=>cases e
theorem Vx{K:zD}{kd:KD}{O:Addr->Prop}{H:Hp}{v w:V}{d e:D}{f:Int->Int->Option R0}{r:R0}(vx:Vw K kd O H v d)(vy:Vw K kd O H w e)(h:onI f d e=some r):∃i j,v = .int i/\w = .int j/\f i j=some r:=by
 obtain⟨i,h1,h⟩:=bS_ (show(asI d).bind _=_ from h)
 obtain⟨j,h2,h⟩:=bS_ h
 exact⟨i,j,(VL vx h1).2,(VL vy h2).2,h⟩
section
variable{X:Cx}{kd:KD}
theorem ztj:OpR X (binaryOp .Add) (λx y H Q=>∃l b xs zs,x = .ref l/\y = .ref b/\RdL X.K H l xs/\RdL X.K H b zs/\xs.length+zs.length<=sizeLine/\∀p,H p=none->Q (.ref p) (upd H p (.lst (xs++zs)))):=by
 intro pins s σ H x y v u Q I rx ry h
 obtain⟨l,b,xs,zs,rfl,rfl,hH,hB,hz,q⟩:=h
 cases rx
 cases ry
 obtain⟨z,its,n,r,e⟩:=zmR I hH
 obtain⟨z2,its2,n2,r2,e2⟩:=zmR I hB
 have hl:=r.length
 have hl2:=r2.length
 refine PySem.P.add_list e e2 ?_ (by rw[zzF,zzF];omega)
 have ea:its.toArray++its2.toArray=(its++its2).toArray:=by simp
 rw[ea]
 exact⟨.ref _,_,I.lnew (t':=s.toks) (r.append r2) (by rw[zzH];omega),rfl,q _ I.fresh⟩
theorem zti:OpR X (binaryOp .Mult) (λx y H Q=>∃l k xs,x = .ref l/\y = .int k/\RdL X.K H l xs /\ -(2 ^ 63)<=k/\k<2 ^ 63/\xs.length*k.toNat<=sizeLine/\
 ∀p,H p=none->Q (.ref p) (upd H p (.lst (List.replicate k.toNat xs).flatten))):=by
 intro pins s σ H x y v u Q I rx ry h
 obtain⟨l,k,xs,rfl,rfl,hH,h1,h2,hz,q⟩:=h
 cases rx
 obtain⟨t,rfl⟩:=ry
 obtain⟨z,its,n,r,e⟩:=zmR I hH
 have hl:=r.length
 have hlen:its.toArray.size*k.toNat<=sizeLine:=by rw[zzF,<-hl];exact hz
 have hcap:¬its.toArray.size*k.toNat > (2 ^ 63-1)/8:=by
  have:(sizeLine:Nat)<=(2 ^ 63-1)/8:=by decide
  omega
 have hfit:¬(!Builtin.List.listFitsIndex k)=true:=by
  rw[fitsIndex_both h1 h2]
  exact QzT
 have hlong:¬Builtin.List.listTooLong (its.toArray.size*k.toNat)=true:=by
  rw[zqV hlen]
  exact QzT
 have hnew:List.foldl (λx1 x2=>x1++x2) #[] (List.replicate (if its.toArray.isEmpty=true then 0 else k.toNat) its.toArray)=(List.replicate k.toNat its).flatten.toArray:=by
  have f0:∀m:Nat,List.foldl (λx1 x2=>x1++x2) #[] (List.replicate m its.toArray)=(List.replicate m its).flatten.toArray:=λm=>by
   have:=foldl_rep its m []
   rw[List.nil_append]at this
   exact this
  rw[f0]
  cases its with
  |nil=>simp
  |cons a r'=>rw[if_neg (by simp)]
 refine wpAny_binaryOp_repeat_ref (T:="list") (U:="int") (by decide) ⟨_,e,rfl⟩ (λs'=>typeIs_int s' k t) noFill_list_mul F.fills_int_mul F.slot_int_rmul repeat_list F.slot_int_index.lookup
  (call_meets F.slot_int_rmul (typeIs_int s k t) F.entry_int_rmul (F.args_int_rmul_2 _ _) (int___rmul___int_list k t l its.toArray n)
   ⟨e,rfl,⟨_,e,rfl⟩,call_meets F.slot_list_mul ⟨_,e,rfl⟩ F.entry_list_mul (F.args_list_mul_2 _ _) (AutoListH.list___mul___list_int_3 l its.toArray n k t hfit hcap hlong) ⟨e, ?_⟩⟩)
 rw[hnew]
 refine⟨.ref _,_,I.lnew (t':=s.toks) (r.rep k.toNat) ?_,rfl,q _ I.fresh⟩
 rw[len_rep,Nat.mul_comm]
 exact hz
theorem tuple_addW0(l b:Addr)(items items2:Array Value)(n n2:Nat)(dd dd2:Option Addr)(sl sl2:Array (Option Value))(h0:items.isEmpty=true):
 Meets (Builtin.«tuple.__add__» {pos:=[.ref l,.ref b]}) (λ_ R s=>s.heap.get? l=some {cls:=.type "tuple",dict:=dd,data:=.seq items n,slots:=sl}/\s.heap.get? b=some {cls:=.type "tuple",dict:=dd2,data:=.seq items2 n2,slots:=sl2}/\R (.ok (.ret (.ref b))) s):=
 .of_wp λprog w A R s h=>by
  obtain⟨hp,g,d,tk,os⟩:=s;obtain⟨hl,hb,h⟩:=h
  have f2:=AutoSeq1.sub_tuple_tuple
  wp_walk using wpAny_loadPart' hl,wpAny_loadPart' hb
  exact⟨_,rfl,h⟩
theorem zlb(l:Addr)(items:Array Value)(n:Nat)(dd:Option Addr)(sl:Array (Option Value))(u:Tok):
 Meets (Builtin.«tuple.__mul__» {pos:=[.ref l,.int 1 u]}) (λ_ R s=>s.heap.get? l=some {cls:=.type "tuple",dict:=dd,data:=.seq items n,slots:=sl}/\R (.ok (.ret (.ref l))) s):=
 .of_wp λprog w A R s h=>by
  obtain⟨hp,g,d,tk,os⟩:=s;obtain⟨hl,h⟩:=h
  have f2:=AutoSeq1.sub_tuple_tuple
  wp_walk using wpAny_loadPart' hl
  exact⟨_,rfl,h⟩
theorem zlO(l:Addr)(items its2:Array Value)(n:Nat)(dd:Option Addr)(sl:Array (Option Value))(x:Int)(u:Tok)(c1:¬(decide (x < -2 ^ 63)||decide (x ≥ 2 ^ 63))=true)(c2:¬(items.isEmpty||x==1)=true)(c3:¬(decide (x<=0)||items.isEmpty)=true)
 (hcap:¬(items.size:Int)*x > (2 ^ 63-1)/8) (ht:¬Builtin.Tuple.tupleTooMany (items.size*x)=true) (hz:¬(List.foldl (λx1 x2=>x1++x2) #[] (List.replicate x.toNat items)).size > sizeLine):
 Meets (Builtin.«tuple.__mul__» {pos:=[.ref l,.int x u]}) (λ_ R s=>s.heap.get? l=some {cls:=.type "tuple",dict:=dd,data:=.seq items n,slots:=sl}/\R (.ok (.ret (.ref s.heap.objs.size))) {s with heap:=s.heap.push {cls:=.type "tuple",data:=.seq (List.foldl (λx1 x2=>x1++x2) #[] (List.replicate x.toNat items))}}):=
 .of_wp λprog w A R s h=>by
  obtain⟨hp,g,d,tk,os⟩:=s;obtain⟨hl,h⟩:=h
  have f2:=AutoSeq1.sub_tuple_tuple
  wp_walk using wpAny_loadPart' hl
  rw[if_neg c1]
  wp_walk using wpAny_loadPart' hl
  rw[if_neg hcap]
  wp_walk
  exact⟨_,rfl,h⟩
theorem zem:fillsNumberSlot (Value.type "tuple") "mul"=pure false:=PySem.fillsNumberSlot_seq rfl rfl rfl rfl
theorem zkw:seqRepeat? (Value.type "tuple")=pure (some (Value.builtin "tuple.__mul__")):=W.of_pureOf rfl
theorem zhk(a:Int)(t:Tok)(l:Addr)(items:Array Value)(n:Nat)(dd:Option Addr)(sl:Array (Option Value)):
 Meets (Builtin.«int.__rmul__» {pos:=[.int a t,.ref l]}) (λ_ R s=>s.heap.get? l=some {cls:=.type "tuple",dict:=dd,data:=.seq items n,slots:=sl}/\R (.ok (.ret .notImplemented)) s):=
 .of_wp λprog w A R s h=>by
  obtain⟨hp,g,d,tk,os⟩:=s;obtain⟨hl,h⟩:=h
  wp_walk using wpAny_load' hl,wpAny_loadPart' hl
  exact⟨_,rfl,h⟩
theorem zsI:OpR X (binaryOp .Add) (λx y H Q=>∃a b ys,x = .ref a/\y = .ref b/\SqT X.K H a []/\SqT X.K H b ys/\Q (.ref b) H):=by
 intro pins s σ H x y v u Q I rx ry h
 obtain⟨a,b,ys,rfl,rfl,ha,hb,q⟩:=h
 cases rx
 cases ry
 obtain⟨its,r1,p1,_⟩:=I.tuple ha
 obtain⟨its2,r2,p2,_⟩:=I.tuple hb
 cases r1
 obtain⟨⟨cls,dd,data,sl⟩,ho,hc,n,hd⟩:=id p1
 obtain⟨⟨cls2,dd2,data2,sl2⟩,ho2,hc2,n2,hd2⟩:=id p2
 simp only at hc hd hc2 hd2
 subst hc hd hc2 hd2
 exact concat_meets ⟨_,ho,rfl⟩ ⟨_,ho2,rfl⟩ noFill_tuple_add seq_tuple_add PySem.F.slot_tuple_add PySem.F.entry_tuple_add (PySem.F.args_tuple_add_2 _ _) (tuple_addW0 a b _ _ n n2 dd dd2 sl sl2 rfl) ⟨ho,ho2,⟨.ref b,H,I,rfl,q⟩⟩
theorem zue:OpR X (binaryOp .Mult) (λx y H Q=>∃l k xs,x = .ref l/\y = .int k/\SqT X.K H l xs/\xs≠[]/\1<=k/\k<2 ^ 63/\xs.length*k.toNat<=sizeLine/\(k=1->Q (.ref l) H)/\
 (2<=k->∀p,H p=none->Q (.ref p) (upd H p (.tup (List.replicate k.toNat xs).flatten)))):=by
 intro pins s σ H x y v u Q I rx ry h
 obtain⟨l,k,xs,rfl,rfl,hH,hne,h1,h2,hz,q1,q2⟩:=h
 cases rx
 obtain⟨t,rfl⟩:=ry
 obtain⟨its,r,p,_⟩:=I.tuple hH
 have hl:=r.length
 have hlen:its.toArray.size*k.toNat<=sizeLine:=by rw[zzF,<-hl];exact hz
 have hki:((its.toArray.size:Int)*k)=((its.toArray.size*k.toNat:Nat):Int):=by
  rw[zzT,QzW (by omega)]
 have he:its.toArray.isEmpty=false:=by
  cases its with
  |nil=>rw[List.length_nil]at hl;exact absurd (List.length_eq_zero_iff.mp hl) hne
  |cons a r'=>rfl
 have hnew:List.foldl (λx1 x2=>x1++x2) #[] (List.replicate k.toNat its.toArray)=(List.replicate k.toNat its).flatten.toArray:=by
  have:=foldl_rep its k.toNat []
  rw[List.nil_append]at this
  exact this
 obtain⟨⟨cls,dd,data,sl⟩,ho,hc,n,hd⟩:=id p
 simp only at hc hd
 subst hc hd
 refine wpAny_binaryOp_repeat_ref (T:="tuple") (U:="int") (by decide) ⟨_,ho,rfl⟩ (λs'=>typeIs_int s' k t) zem F.fills_int_mul F.slot_int_rmul zkw F.slot_int_index.lookup
  (call_meets F.slot_int_rmul (typeIs_int s k t) F.entry_int_rmul (F.args_int_rmul_2 _ _) (zhk k t l its.toArray n dd sl) ⟨ho,rfl,⟨_,ho,rfl⟩, ?_⟩)
 by_cases hk:k=1
 · subst hk
   exact call_meets F.slot_tuple_mul ⟨_,ho,rfl⟩ F.entry_tuple_mul (F.args_tuple_mul_2 _ _) (zlb l its.toArray n dd sl t) ⟨ho,⟨.ref l,H,I,rfl,q1 rfl⟩⟩
 · have hfl:(List.replicate k.toNat xs).flatten.length<=sizeLine:=by rw[len_rep,Nat.mul_comm];exact hz
   refine call_meets F.slot_tuple_mul ⟨_,ho,rfl⟩ F.entry_tuple_mul (F.args_tuple_mul_2 _ _) (zlO l its.toArray #[] n dd sl k t (by simp;omega) (by rw[he];simpa using hk) (by rw[he];simp;omega) ?_ ?_ ?_) ⟨ho, ?_⟩
   · rw[hki]
     have:((sizeLine:Nat):Int)<=(2 ^ 63-1)/8:=by decide
     omega
   · unfold Builtin.Tuple.tupleTooMany
     rw[hki]
     simp only[gt_iff_lt,decide_eq_true_eq]
     omega
   · rw[hnew,zzF,len_rep,Nat.mul_comm]
     rw[zzF]at hlen
     omega
   · rw[hnew]
     refine⟨.ref s.heap.objs.size,_,I.laid (t':=s.toks) (o:=.tup (List.replicate k.toNat xs).flatten) (λb ob q=>QyF _ q) (zzL _) ?_,rfl,q2 (by omega) _ (I.hok.fresh (zzL _))⟩
     exact⟨hfl,_,r.rep k.toNat,IsTup.new _ _⟩
theorem zwN(op:Operator):OpD X kd (binaryOp op) (V3 op):=by
 intro pins s σ H x y v u Q I rx ry h
 obtain⟨O,d,e,r,ht,vx,vy,he,q⟩:=h
 cases op with
 |Add=>
  cases vx with
  |int i=>
   obtain⟨j,h1,he⟩:=bS_ (show(asI e).bind _=_ from he)
   obtain⟨rfl,rfl⟩:=VL vy h1
   cases he
   exact zvH pins s σ H _ _ v u Q I rx ry ⟨_,_,rfl,rfl,yO q (.int _)⟩
  |str i=>
   obtain⟨j,h1,he⟩:=bS_ (show(asS e).bind _=_ from he)
   obtain⟨rfl,rfl⟩:=zva vy h1
   obtain⟨c,rfl⟩:=ye he
   exact znB pins s σ H _ _ v u Q I rx ry ⟨_,_,rfl,rfl,c,yO q (.str _)⟩
  |lst hx rx'=>
   obtain⟨j,h1,he⟩:=bS_ (show(asL e).bind _=_ from he)
   cases zgC h1
   obtain⟨c,rfl⟩:=ye he
   cases vy with
   |lst hy ry'=>exact ztj pins s σ H _ _ v u Q I rx ry ⟨_,_,_,_,rfl,rfl,hx,hy,by rw[rx'.length,ry'.length];exact c,zdp q (rx'.append ry')⟩
  | @tup a1 vs1 ds1 r1 hx rx'=>
   obtain⟨j,h1,he⟩:=bS_ (show(asT e).bind _=_ from he)
   cases zpX h1
   obtain⟨c,rfl⟩:=ye he
   cases vy with
   |tup r2 hy ry'=>
    by_cases h0:vs1=([]:List V)
    · subst h0
      cases rx'
      exact zsI pins s σ H _ _ v u Q I rx ry ⟨_,_,_,rfl,rfl,hx,hy,yO q r2⟩
    refine ztt pins s σ H _ _ v u Q I rx ry ⟨_,_,_,_,rfl,rfl,hx,hy,h0,by rw[rx'.length,ry'.length];exact c,λhn=>?_,λhn=>zka ht q (rx'.append ry')⟩
    · subst hn
      cases ry'
      rw[QzC]at q
      exact yO q r1
  |_=>cases he
 |Sub=>
  obtain⟨i,j,rfl,rfl,he⟩:=Vx vx vy he
  cases he
  exact zwL pins s σ H _ _ v u Q I rx ry ⟨_,_,rfl,rfl,yO q (.int _)⟩
 |Mult=>
  cases vx with
  |int i=>
   obtain⟨j,h1,he⟩:=bS_ (show(asI e).bind _=_ from he)
   obtain⟨rfl,rfl⟩:=VL vy h1
   obtain⟨c,rfl⟩:=ye he
   obtain⟨t,rfl⟩:=rx
   obtain⟨t',rfl⟩:=ry
   exact mul_int ⟨.int _,H,I.tok _,⟨_,rfl⟩,yO q (.int _)⟩ (c.elim (λc=>IntMulOk.of_bits (zmB c.1) (zmB c.2)) λc=>IntMulOk.of_right (ztp c))
  |lst hx rx'=>
   obtain⟨j,h1,he⟩:=bS_ (show(asI e).bind _=_ from he)
   obtain⟨rfl,rfl⟩:=VL vy h1
   obtain⟨c,rfl⟩:=ye he
   exact zti pins s σ H _ _ v u Q I rx ry ⟨_,_,_,rfl,rfl,hx,c.1,c.2.1,by rw[rx'.length];exact c.2.2,zdp q (rx'.rep _)⟩
  |tup r1 hx rx'=>
   obtain⟨j,h1,he⟩:=bS_ (show(asI e).bind _=_ from he)
   obtain⟨rfl,rfl⟩:=VL vy h1
   obtain⟨c,rfl⟩:=ye he
   refine zue pins s σ H _ _ v u Q I rx ry ⟨_,_,_,rfl,rfl,hx,λe=>?_,c.1,c.2.1,by rw[rx'.length];exact c.2.2.2,λe=>?_,λ_=>zka ht q (rx'.rep _)⟩
   · have:=rx'.length
     rw[e]at this
     exact c.2.2.1 this.symm
   · subst e
     refine yO q ?_
     rw[show(1:Int).toNat=1 from rfl,List.replicate_one,List.flatten_cons,List.flatten_nil,QzC]
     exact r1
  |_=>cases he
 |FloorDiv=>
  obtain⟨i,j,rfl,rfl,he⟩:=Vx vx vy he
  obtain⟨c,rfl⟩:=ye he
  obtain⟨t,rfl⟩:=rx
  obtain⟨t',rfl⟩:=ry
  refine floordiv_int (by omega) ?_ (.inl (PyProof.noPylong_of_log2 ?_))
  · rw[Int.fdiv_eq_ediv_of_nonneg _ (by omega)]
    exact⟨.int _,H,I.tok _,⟨_,rfl⟩,yO q (.int _)⟩
  · exact zzI ((Nat.log2_lt (by have:=c.1;omega)).mpr (show _<2 ^ 4000 from c.2)) (by decide)
 |Mod=>
  obtain⟨i,j,rfl,rfl,he⟩:=Vx vx vy he
  obtain⟨c,rfl⟩:=ye he
  exact zvP pins s σ H _ _ v u Q I rx ry ⟨_,_,rfl,rfl,c,yO q (.int _)⟩
 |Pow=>
  obtain⟨i,j,rfl,rfl,he⟩:=Vx vx vy he
  obtain⟨c,rfl⟩:=ye he
  exact zvQ pins s σ H _ _ v u Q I rx ry ⟨_,_,rfl,rfl,c,yO q (.int _)⟩
 |_=>cases he
end
def eqL(f:D->D->Option Bool):List D->List D->Option Bool
 | [],[]=>some true
 |x::r,y::t=>(f x y).bind λb=>(eqL f r t).bind λc=>some (b&&c)
 |_,_=>some false
def eqF:Nat->D->D->Option Bool
 |0,_,_=>none
 |_+1,.non,.non=>some true
 |_+1,.bl a,.bl b=>some (a==b)
 |_+1,.int a,.int b=>some (a==b)
 |_+1,.str a,.str b=>some (a==b)
 |_+1,.bl a,.int b=>some ((if a then 1 else 0)==b)
 |_+1,.int a,.bl b=>some (a==(if b then 1 else 0))
 |n+1,.lst xs,.lst ys=>eqL (eqF n) xs ys
 |n+1,.tup xs,.tup ys=>eqL (eqF n) xs ys
 |_+1,.dct _,_=>none
 |_+1,.cl _,_=>none
 |_+1,.ob _ _ _,_=>none
 |_+1,_,.dct _=>none
 |_+1,_,.cl _=>none
 |_+1,_,.ob _ _ _=>none
 |_+1,_,_=>some false
def eqJ(f:D->D->Option Bool)(xs ys:List D)(j:Nat):Bool:=match xs[j]?,ys[j]? with
 |some d,some e=>(f d e).getD false
 |_,_=>false
theorem zid:∀{xs ys:List D}{b:Bool},eqL f xs ys=some b->(∀(j:Nat) d e,xs[j]? = some d->ys[j]? = some e->∃c,f d e=some c)/\
 b=((List.range (min xs.length ys.length)).all (eqJ f xs ys)&&xs.length==ys.length)
 | [],[],b,h=>by cases h;exact⟨λj d e h=>by simp at h,by simp⟩
 | [],y::t,b,h=>by cases h;exact⟨λj d e h=>by simp at h,by simp⟩
 |x::r,[],b,h=>by cases h;exact⟨λj d e _ h=>by simp at h,by simp⟩
 |x::r,y::t,b,h=>by
  obtain⟨b1,h1,h⟩:=bS_ (show(f x y).bind _=_ from h)
  obtain⟨c1,h2,h⟩:=bS_ h
  cases h
  obtain⟨k1,k2⟩:=zid h2
  refine⟨λj d e hd he=>?_, ?_⟩
  · cases j with
    |zero=>simp at hd he;subst hd he;exact⟨b1,h1⟩
    |succ j=>exact k1 j d e (by simpa using hd) (by simpa using he)
  · have e0:min (x::r).length (y::t).length=min r.length t.length+1:=by simp only[zzR];omega
    rw[e0,List.range_succ_eq_map,List.all_cons,List.all_map,k2]
    have e1:eqJ f (x::r) (y::t) 0=b1:=by show(f x y).getD false=b1;rw[h1];rfl
    have e2:(eqJ f (x::r) (y::t)∘Nat.succ)=eqJ f r t:=by
     funext j
     show eqJ f (x::r) (y::t) (j+1)=_
     unfold eqJ
     simp
    have e3:((x::r).length==(y::t).length)=(r.length==t.length):=by
     by_cases hh:r.length=t.length<;>simp[hh]
    rw[e1,e2,e3,Bool.and_assoc]
structure EqAll(A:Around)(s:Shared)(u v:Value)(b:Bool):Prop where
 rc:SeqAt.RcAt A s u v b
 ne:SeqAt.RcNeAt A s u v (!b)
 eq:SeqAt.EqAt A s u v b
section
variable{X:Cx}{kd:KD}{pins:List (Addr×Obj)}{σ:St}{H:Hp}{s:Shared}{O:Addr->Prop}
theorem zol(I:Inv X pins σ H s)(h:SqT X.K H a xs)(h':SqL X.K H a ys):False:=by
 obtain⟨_,_,⟨o,e,c,_⟩,_⟩:=I.tuple h
 obtain⟨_,_,⟨o',n,e',c',_⟩,_⟩:=I.list h'
 rw[e]at e'
 cases e'
 rw[c]at c'
 exact absurd c' (by decide)
theorem zoI(I:Inv X pins σ H s):∀(n:Nat) (v:V) (d e:D) (b:Bool),Vw X.K kd O H v d->Vw X.K kd O H v e->eqF n d e=some b->b=true
 |0,_,_,_,_,_,_,h=>by cases h
 |n+1,v,d,e,b,h1,h2,h=>by
  have lst:∀(vs:List V) (ds es:List D) (b:Bool),RpL X.K kd O H vs ds->RpL X.K kd O H vs es->eqL (eqF n) ds es=some b->b=true:=by
   intro vs
   induction vs with
   |nil=>intro ds es b r1 r2 h;cases r1;cases r2;cases h;rfl
   |cons v vs ih=>
    intro ds es b r1 r2 h
    cases r1 with
    |cons a1 r1=>
     cases r2 with
     |cons a2 r2=>
      obtain⟨b1,k1,h⟩:=bS_ (show(eqF n _ _).bind _=_ from h)
      obtain⟨c1,k2,h⟩:=bS_ h
      cases h
      rw[zoI I n _ _ _ _ a1.vw a2.vw k1,ih _ _ _ r1 r2 k2]
      rfl
  cases h1 with
  |non=>cases h2;cases h;rfl
  |bl x=>cases h2;cases h;simp
  |int x=>cases h2;cases h;simp
  |str x=>cases h2;cases h;simp
  |tup r1 s1 l1=>
   cases h2 with
   |tup r2 s2 l2=>
    have:=I.tuple_inj s1 s2
    subst this
    exact lst _ _ _ _ l1 l2 h
   |lst s2 l2=>exact(zol I s1 s2.sq).elim
   |_=>cases h
  |lst s1 l1=>
   cases h2 with
   |tup r2 s2 l2=>exact(zol I s2 s1.sq).elim
   |lst s2 l2=>
    have:=I.list_inj s1.sq s2.sq
    subst this
    exact lst _ _ _ _ l1 l2 h
   |_=>cases h
  |_=>cases h
theorem zkN(I:Inv X pins σ H s):∀(n:Nat) (A:Around) (x y:V) (d e:D) (u v:Value) (b:Bool),A.units+n<cLine->Vw X.K kd O H x d->Vw X.K kd O H y e->RelV x u->RelV y v->eqF n d e=some b->EqAll A s u v b
 |0,_,_,_,_,_,_,_,_,_,_,_,_,_,h=>by cases h
 |n+1,A,x,y,d,e,u,v,b,hu,h1,h2,r1,r2,h=>by
  have hu0:A.units<cLine:=by omega
  have itm:∀{vs ws:List V}{its its2:List Value}{ds es:List D},RpL X.K kd O H vs ds->RpL X.K kd O H ws es->Vals vs its->Vals ws its2->(∀(j:Nat) d e,ds[j]? = some d->es[j]? = some e->∃c,eqF n d e=some c)->
   ∀j (h1:j<its.toArray.size) (h2:j<its2.toArray.size),SeqAt.EqAt A.in1 s its.toArray[j] its2.toArray[j] (eqJ (eqF n) ds es j):=by
   intro vs ws its its2 ds es l1 l2 v1 v2 hd j j1 j2
   have q1:j<ds.length:=by rw[<-l1.length,v1.length];simpa using j1
   have q2:j<es.length:=by rw[<-l2.length,v2.length];simpa using j2
   obtain⟨a1,ha1,ra1⟩:=l1.get (zzC q1)
   obtain⟨a2,ha2,ra2⟩:=l2.get (zzC q2)
   obtain⟨u1,hu1,ru1⟩:=v1.get ha1
   obtain⟨u2,hu2,ru2⟩:=v2.get ha2
   obtain⟨c,hc⟩:=hd j _ _ (zzC q1) (zzC q2)
   have e1:its.toArray[j]=u1:=by
    have:=(zzE.mp hu1).2
    simpa using this
   have e2:its2.toArray[j]=u2:=by
    have:=(zzE.mp hu2).2
    simpa using this
   rw[e1,e2]
   have e3:eqJ (eqF n) ds es j=c:=by
    unfold eqJ
    rw[zzC q1,zzC q2]
    show(eqF n _ _).getD false=c
    rw[hc];rfl
   rw[e3]
   exact(zkN I n A.in1 a1 a2 _ _ u1 u2 c (by show A.units+1+n<cLine;omega) ra1.vw ra2.vw ru1 ru2 hc).eq
  have same:∀{a a':Addr},x = .ref a->y = .ref a'->a=a'->b=true:=by
   intro a a' e1 e2 e3
   subst e1 e2 e3
   exact zoI I (n+1) _ _ _ _ h1 h2 h
  cases h1 with
  |non=>
   cases r1
   cases h2 with
   |non=>cases r2;cases h;exact⟨SeqAt.RcAt.none_none,SeqAt.RcNeAt.none_none,SeqAt.EqAt.same _⟩
   |bl=>cases r2;cases h;exact⟨SeqAt.RcAt.none_bool _,SeqAt.RcNeAt.none_bool _,SeqAt.EqAt.none_bool _⟩
   |int=>obtain⟨t,rfl⟩:=r2;cases h;exact⟨SeqAt.RcAt.none_int _ _,SeqAt.RcNeAt.none_int _ _,SeqAt.EqAt.none_int _ _⟩
   |str=>obtain⟨t,rfl⟩:=r2;cases h;exact⟨SeqAt.RcAt.none_str _ _,SeqAt.RcNeAt.none_str _ _,SeqAt.EqAt.none_str _ _⟩
   |tup r s2 l2=>
    cases r2;cases h
    obtain⟨its,rv,p,_⟩:=I.tuple s2
    exact⟨SeqAt.RcAt.none_tuple p hu0,SeqAt.RcNeAt.none_tuple p hu0,SeqAt.EqAt.none_tuple p hu0⟩
   |lst s2 l2=>
    cases r2;cases h
    obtain⟨its,rv,p,_⟩:=I.list s2.sq
    exact⟨SeqAt.RcAt.none_list p.isList hu0,SeqAt.RcNeAt.none_list p.isList hu0,SeqAt.EqAt.none_list p.isList hu0⟩
   |_=>cases h
  |bl c=>
   cases r1
   cases h2 with
   |non=>cases r2;cases h;exact⟨SeqAt.RcAt.bool_none _,SeqAt.RcNeAt.bool_none _,SeqAt.EqAt.bool_none _⟩
   |bl=>cases r2;cases h;exact⟨SeqAt.RcAt.bool_bool _ _,SeqAt.RcNeAt.bool_bool _ _,SeqAt.EqAt.bool_bool _ _⟩
   |int=>obtain⟨t,rfl⟩:=r2;cases h;exact⟨SeqAt.RcAt.bool_int _ _ _,SeqAt.RcNeAt.bool_int _ _ _,SeqAt.EqAt.bool_int _ _ _⟩
   |str=>obtain⟨t,rfl⟩:=r2;cases h;exact⟨SeqAt.RcAt.bool_str _ _ _,SeqAt.RcNeAt.bool_str _ _ _,SeqAt.EqAt.bool_str _ _ _⟩
   |tup r s2 l2=>
    cases r2;cases h
    obtain⟨its,rv,p,_⟩:=I.tuple s2
    exact⟨SeqAt.RcAt.bool_tuple _ p hu0,SeqAt.RcNeAt.bool_tuple _ p hu0,SeqAt.EqAt.bool_tuple _ p hu0⟩
   |lst s2 l2=>
    cases r2;cases h
    obtain⟨its,rv,p,_⟩:=I.list s2.sq
    exact⟨SeqAt.RcAt.bool_list _ p.isList hu0,SeqAt.RcNeAt.bool_list _ p.isList hu0,SeqAt.EqAt.bool_list _ p.isList hu0⟩
   |_=>cases h
  |int c=>
   obtain⟨t0,rfl⟩:=r1
   cases h2 with
   |non=>cases r2;cases h;exact⟨SeqAt.RcAt.int_none _ _,SeqAt.RcNeAt.int_none _ _,SeqAt.EqAt.int_none _ _⟩
   |bl=>cases r2;cases h;exact⟨SeqAt.RcAt.int_bool _ _ _,SeqAt.RcNeAt.int_bool _ _ _,SeqAt.EqAt.int_bool _ _ _⟩
   |int=>obtain⟨t,rfl⟩:=r2;cases h;exact⟨SeqAt.RcAt.int_int _ _ _ _,SeqAt.RcNeAt.int_int _ _ _ _,SeqAt.EqAt.int_int _ _ _ _⟩
   |str=>obtain⟨t,rfl⟩:=r2;cases h;exact⟨SeqAt.RcAt.int_str _ _ _ _,SeqAt.RcNeAt.int_str _ _ _ _,SeqAt.EqAt.int_str _ _ _ _⟩
   |tup r s2 l2=>
    cases r2;cases h
    obtain⟨its,rv,p,_⟩:=I.tuple s2
    exact⟨SeqAt.RcAt.int_tuple _ _ p hu0,SeqAt.RcNeAt.int_tuple _ _ p hu0,SeqAt.EqAt.int_tuple _ _ p hu0⟩
   |lst s2 l2=>
    cases r2;cases h
    obtain⟨its,rv,p,_⟩:=I.list s2.sq
    exact⟨SeqAt.RcAt.int_list _ _ p.isList hu0,SeqAt.RcNeAt.int_list _ _ p.isList hu0,SeqAt.EqAt.int_list _ _ p.isList hu0⟩
   |_=>cases h
  |str c=>
   obtain⟨t0,rfl⟩:=r1
   cases h2 with
   |non=>cases r2;cases h;exact⟨SeqAt.RcAt.str_none _ _,SeqAt.RcNeAt.str_none _ _,SeqAt.EqAt.str_none _ _⟩
   |bl=>cases r2;cases h;exact⟨SeqAt.RcAt.str_bool _ _ _,SeqAt.RcNeAt.str_bool _ _ _,SeqAt.EqAt.str_bool _ _ _⟩
   |int=>obtain⟨t,rfl⟩:=r2;cases h;exact⟨SeqAt.RcAt.str_int _ _ _ _,SeqAt.RcNeAt.str_int _ _ _ _,SeqAt.EqAt.str_int _ _ _ _⟩
   |str=>obtain⟨t,rfl⟩:=r2;cases h;exact⟨SeqAt.RcAt.str_str _ _ _ _,SeqAt.RcNeAt.str_str _ _ _ _,SeqAt.EqAt.str_str _ _ _ _⟩
   |tup r s2 l2=>
    cases r2;cases h
    obtain⟨its,rv,p,_⟩:=I.tuple s2
    exact⟨SeqAt.RcAt.str_tuple _ _ p hu0,SeqAt.RcNeAt.str_tuple _ _ p hu0,SeqAt.EqAt.str_tuple _ _ p hu0⟩
   |lst s2 l2=>
    cases r2;cases h
    obtain⟨its,rv,p,_⟩:=I.list s2.sq
    exact⟨SeqAt.RcAt.str_list _ _ p.isList hu0,SeqAt.RcNeAt.str_list _ _ p.isList hu0,SeqAt.EqAt.str_list _ _ p.isList hu0⟩
   |_=>cases h
  | @tup a1 vs1 ds1 r s1 l1=>
   cases r1
   obtain⟨its1,rv1,p1,_⟩:=I.tuple s1
   cases h2 with
   |non=>cases r2;cases h;exact⟨SeqAt.RcAt.tuple_none p1 hu0,SeqAt.RcNeAt.tuple_none p1 hu0,SeqAt.EqAt.tuple_none p1 hu0⟩
   |bl=>cases r2;cases h;exact⟨SeqAt.RcAt.tuple_bool _ p1 hu0,SeqAt.RcNeAt.tuple_bool _ p1 hu0,SeqAt.EqAt.tuple_bool _ p1 hu0⟩
   |int=>obtain⟨t,rfl⟩:=r2;cases h;exact⟨SeqAt.RcAt.tuple_int _ _ p1 hu0,SeqAt.RcNeAt.tuple_int _ _ p1 hu0,SeqAt.EqAt.tuple_int _ _ p1 hu0⟩
   |str=>obtain⟨t,rfl⟩:=r2;cases h;exact⟨SeqAt.RcAt.tuple_str _ _ p1 hu0,SeqAt.RcNeAt.tuple_str _ _ p1 hu0,SeqAt.EqAt.tuple_str _ _ p1 hu0⟩
   | @tup a2 vs2 ds2 r' s2 l2=>
    cases r2
    obtain⟨its2,rv2,p2,_⟩:=I.tuple s2
    obtain⟨k1,k2⟩:=zid h
    have he:=itm l1 l2 rv1 rv2 k1
    have eb:((List.range (min its1.toArray.size its2.toArray.size)).all (eqJ (eqF n) ds1 ds2)&&its1.toArray.size==its2.toArray.size)=b:=by
     rw[k2,zzF,zzF,<-rv1.length,<-rv2.length,l1.length,l2.length]
    have b1:=SeqAt.RcAt.tuples p1 p2 hu0 he
    have b2:=SeqAt.RcNeAt.tuples p1 p2 hu0 he
    rw[eb]at b1 b2
    refine⟨b1,b2, ?_⟩
    by_cases ha:a1=a2
    · have hb:=same rfl rfl ha
      subst ha
      rw[hb]
      exact SeqAt.EqAt.same _
    · exact SeqAt.EqAt.of_refs ha b1
   |lst s2 l2=>
    cases r2;cases h
    obtain⟨its,rv,p,_⟩:=I.list s2.sq
    exact⟨SeqAt.RcAt.tuple_list p1 p.isList hu0,SeqAt.RcNeAt.tuple_list p1 p.isList hu0,SeqAt.EqAt.tuple_list p1 p.isList hu0⟩
   |_=>cases h
  | @lst a1 vs1 ds1 s1 l1=>
   cases r1
   obtain⟨its1,rv1,p1,_⟩:=I.list s1.sq
   cases h2 with
   |non=>cases r2;cases h;exact⟨SeqAt.RcAt.list_none p1.isList hu0,SeqAt.RcNeAt.list_none p1.isList hu0,SeqAt.EqAt.list_none p1.isList hu0⟩
   |bl=>cases r2;cases h;exact⟨SeqAt.RcAt.list_bool _ p1.isList hu0,SeqAt.RcNeAt.list_bool _ p1.isList hu0,SeqAt.EqAt.list_bool _ p1.isList hu0⟩
   |int=>obtain⟨t,rfl⟩:=r2;cases h;exact⟨SeqAt.RcAt.list_int _ _ p1.isList hu0,SeqAt.RcNeAt.list_int _ _ p1.isList hu0,SeqAt.EqAt.list_int _ _ p1.isList hu0⟩
   |str=>obtain⟨t,rfl⟩:=r2;cases h;exact⟨SeqAt.RcAt.list_str _ _ p1.isList hu0,SeqAt.RcNeAt.list_str _ _ p1.isList hu0,SeqAt.EqAt.list_str _ _ p1.isList hu0⟩
   |tup r' s2 l2=>
    cases r2;cases h
    obtain⟨its2,rv2,p2,_⟩:=I.tuple s2
    exact⟨SeqAt.RcAt.list_tuple p1.isList p2 hu0,SeqAt.RcNeAt.list_tuple p1.isList p2 hu0,SeqAt.EqAt.list_tuple p1.isList p2 hu0⟩
   | @lst a2 vs2 ds2 s2 l2=>
    cases r2
    obtain⟨its2,rv2,p2,_⟩:=I.list s2.sq
    obtain⟨k1,k2⟩:=zid h
    have he:=itm l1 l2 rv1 rv2 k1
    have ez1:its1.toArray.size=_:=zzF.trans (rv1.length.symm.trans l1.length)
    have ez2:its2.toArray.size=_:=zzF.trans (rv2.length.symm.trans l2.length)
    have both:SeqAt.RcAt A s (.ref a1) (.ref a2) b/\SeqAt.RcNeAt A s (.ref a1) (.ref a2) (!b):=by
     by_cases hz:its1.toArray.size=its2.toArray.size
     · have b1:=SeqAt.RcAt.lists p1.isList p2.isList hz hu0 he
       have b2:=SeqAt.RcNeAt.lists p1.isList p2.isList hz hu0 he
       have eb:(List.range its1.toArray.size).all (eqJ (eqF n) ds1 ds2)=b:=by
        rw[k2,<-ez1,<-ez2,<-hz,Nat.min_self]
        simp
       rw[eb]at b1 b2
       exact⟨b1,b2⟩
     · have hz':(its1.toArray.size != its2.toArray.size)=true:=by simpa using hz
       have eb:b=false:=by
        rw[k2,<-ez1,<-ez2]
        have:(its1.toArray.size==its2.toArray.size)=false:=by simpa using hz
        rw[this,Bool.and_false]
       rw[eb]
       exact⟨SeqAt.RcAt.lists_lengths p1.isList p2.isList hz' hu0,SeqAt.RcNeAt.lists_lengths p1.isList p2.isList hz' hu0⟩
    refine⟨both.1,both.2, ?_⟩
    by_cases ha:a1=a2
    · have hb:=same rfl rfl ha
      subst ha
      rw[hb]
      exact SeqAt.EqAt.same _
    · exact SeqAt.EqAt.of_refs ha both.1
   |_=>cases h
  |_=>cases h
end
structure DkAt(P:Program)(w:World)(h:Heap)(a:Addr)(kvs:List (Key×V)):Prop where
 le:kvs.length<=sizeLine
 ns:(a==sysModules)=false
 ex:∃vs,KV kvs vs/\h.DictOf (v9 P w) a vs
structure KdOk(X:Cx)(kd:KD):Prop where
 inj:∀a k k',kd a k->kd a k'->k=k'
 inK:∀a k,kd a k->∃o,X.K.lookup a=some o
 at_:∀a k h,kd a k->X.K.In h->DkAt X.prog X.w h a k
section
variable{X:Cx}{kd:KD}{pins:List (Addr×Obj)}{σ:St}{H:Hp}{s:Shared}{O:Addr->Prop}
theorem zhn(I:Inv X pins σ H s)(hk:KdOk X kd)(h:Rd H a (.dK kvs)\/kd a kvs):DkAt X.prog X.w s.heap a kvs:=by
 rcases h with h|h
 · obtain⟨z,hd,vs,rel,dd⟩:=zxV I.hok h
   exact⟨z,hd,vs,rel,dd⟩
 · exact hk.at_ _ _ _ h I.kIn
theorem zqy(I:Inv X pins σ H s):∀(n:Nat) (v:V) (d e x:D) (b c:Bool),Vw X.K kd O H v d->Vw X.K kd O H v e->eqF n d x=some b->eqF n e x=some c->b=c
 |0,_,_,_,_,_,_,_,_,h,_=>by cases h
 |n+1,v,d,e,x,b,c,h1,h2,h,h'=>by
  have lst:∀(vs:List V) (ds es xs:List D) (b c:Bool),RpL X.K kd O H vs ds->RpL X.K kd O H vs es->eqL (eqF n) ds xs=some b->eqL (eqF n) es xs=some c->b=c:=by
   intro vs
   induction vs with
   |nil=>intro ds es xs b c r1 r2 h h';cases r1;cases r2;exact zzX (h.symm.trans h')
   |cons v vs ih=>
    intro ds es xs b c r1 r2 h h'
    cases r1 with
    |cons a1 r1=>
     cases r2 with
     |cons a2 r2=>
      cases xs with
      |nil=>cases h;cases h';rfl
      |cons x xs=>
       obtain⟨b1,k1,h⟩:=bS_ (show(eqF n _ _).bind _=_ from h)
       obtain⟨c1,k2,h⟩:=bS_ h
       obtain⟨b2,k3,h'⟩:=bS_ (show(eqF n _ _).bind _=_ from h')
       obtain⟨c2,k4,h'⟩:=bS_ h'
       cases h;cases h'
       rw[zqy I n _ _ _ _ _ _ a1.vw a2.vw k1 k3,ih _ _ _ _ _ r1 r2 k2 k4]
  cases h1 with
  |tup r1 s1 l1=>
   cases h2 with
   |tup r2 s2 l2=>
    have:=I.tuple_inj s1 s2
    subst this
    cases x with
    |tup xs=>exact lst _ _ _ _ _ _ l1 l2 h h'
    |_=>exact zzX (h.symm.trans h')
   |lst s2 l2=>exact(zol I s1 s2.sq).elim
   |_=>cases h'
  |lst s1 l1=>
   cases h2 with
   |tup r2 s2 l2=>exact(zol I s2 s1.sq).elim
   |lst s2 l2=>
    have:=I.list_inj s1.sq s2.sq
    subst this
    cases x with
    |lst xs=>exact lst _ _ _ _ _ _ l1 l2 h h'
    |_=>exact zzX (h.symm.trans h')
   |_=>cases h'
  |dct s1 l1=>cases h
  |cl=>cases h
  |ob=>cases h
  |_=>cases h2;exact zzX (h.symm.trans h')
end
def zsr:D->Option Key
 | .int i=>some (.inl i)
 | .str x=>some (.inr x)
 |_=>none
def zeY(kvs:List (Key×D))(k:Key):Option D:=(kvs.find? λkv=>decide (kv.1=k)).map (·.2)
theorem zkQ{K:zD}{kd:KD}{O:Addr->Prop}{H:Hp}(k:Key){vs:List (Key×V)}{ds:List (Key×D)}(h:RpM K kd O H vs ds):(∃v d,zeT vs k=some v/\zeY ds k=some d/\Rp K kd O H v d)\/(zeT vs k=none/\zeY ds k=none):=
 RpM.ind (P:=λvs ds=>(∃v d,zeT vs k=some v/\zeY ds k=some d/\Rp K kd O H v d)\/(zeT vs k=none/\zeY ds k=none)) (.inr ⟨rfl,rfl⟩) (λ{k' v d vs ds} a _ ih=>by
  by_cases e:k'=k
  · left
    refine⟨_,_, ?_, ?_,a⟩
    · unfold zeT;simp[e]
    · unfold zeY;simp[e]
  · rcases ih with⟨v,d,h1,h2,h3⟩|⟨h1,h2⟩
    · left
      refine⟨v,d, ?_, ?_,h3⟩
      · unfold zeT at h1 ⊢;simpa[e]using h1
      · unfold zeY at h2 ⊢;simpa[e]using h2
    · right
      refine⟨?_, ?_⟩
      · unfold zeT at h1 ⊢;simpa[e]using h1
      · unfold zeY at h2 ⊢;simpa[e]using h2) h
def anyF(f:D->Option Bool):List D->Option Bool
 | []=>some false
 |x::r=>(f x).bind λb=>(anyF f r).bind λc=>some (b||c)
def blR(b:Bool):R0:=.im (.bl b)
def inP(x:D):D->Option Bool
 | .lst ys=>anyF (λy=>eqF 50 y x) ys
 | .tup ys=>anyF (λy=>eqF 50 y x) ys
 | .str y=>match x with | .str i=>some (!(Builtin.Str.occurrences y i 0 y.length 1).isEmpty)|_=>none
 | .dct kvs=>(zsr x).bind λk=>some (zeY kvs k).isSome
 |_=>none
def isP:D->D->Option Bool
 |d,.non=>some (match d with | .non=>true|_=>false)
 |d,.bl b=>match d with | .bl c=>some (c==b)|_=>some false
 |_,_=>none
def zqP(f:Int->Int->Bool):D->D->Option R0:=onI λi j=>some (blR (f i j))
def zK(o:CmpOp)(d e:D):Option R0:=match o with
 | .Eq=>(eqF 60 d e).bind λb=>some (blR b)
 | .NotEq=>(eqF 60 d e).bind λb=>some (blR !b)
 | .Lt=>zqP (λi j=>decide (i<j)) d e
 | .LtE=>zqP (λi j=>decide (i<=j)) d e
 | .Gt=>zqP (λi j=>decide (j<i)) d e
 | .GtE=>zqP (λi j=>decide (j<=i)) d e
 | .In=>(inP d e).bind λb=>some (blR b)
 | .NotIn=>(inP d e).bind λb=>some (blR !b)
 | .Is=>(isP d e).bind λb=>some (blR b)
 | .IsNot=>(isP d e).bind λb=>some (blR !b)
theorem zce{o:Option Bool}{f:Bool->Bool}{r:R0}(h:(o.bind λb=>some (blR (f b)))=some r):∃k,r = .im (.bl k):=by
 obtain⟨b,_,h⟩:=bS_ h
 cases h
 exact⟨_,rfl⟩
theorem zgq(h:zqP f x y=some r):∃k,r = .im (.bl k):=by
 obtain⟨i,_,h⟩:=bS_ (show(asI x).bind _=_ from h)
 obtain⟨j,_,h⟩:=bS_ h
 cases h
 exact⟨_,rfl⟩
theorem zsP(op:CmpOp)(x y:D)(r:R0)(h:zK op x y=some r):∃k,r = .im (.bl k):=by
 cases op with
 |Eq=>exact zce (f:=id) h
 |NotEq=>exact zce (f:=not) h
 |Lt=>exact zgq h
 |LtE=>exact zgq h
 |Gt=>exact zgq h
 |GtE=>exact zgq h
 |In=>exact zce (f:=id) h
 |NotIn=>exact zce (f:=not) h
 |Is=>exact zce (f:=id) h
 |IsNot=>exact zce (f:=not) h
section
variable{X:Cx}{kd:KD}{pins:List (Addr×Obj)}{σ:St}{H:Hp}{s:Shared}{O:Addr->Prop}
noncomputable def eqW(K:zD)(kd:KD)(O:Addr->Prop)(H:Hp)(n:Nat)(x:D)(u:Value):Bool:=@decide (∃v d,RelV v u/\Rp K kd O H v d/\eqF n d x=some true) (Classical.propDecidable _)
theorem zrm(I:Inv X pins σ H s)(hk:KdOk X kd)(r:RelV v u)(p:Rp X.K kd O H v d)(e:eqF n d x=some b):eqW X.K kd O H n x u=b:=by
 unfold eqW
 cases b with
 |true=>exact @QzM _ (Classical.propDecidable _) ⟨v,d,r,p,e⟩
 |false=>
  refine @QzE _ (Classical.propDecidable _) λ⟨v',d',r',p',e'⟩=>?_
  have:=r.inj r'
  subst this
  exact Bool.noConfusion (zqy I n _ _ _ _ _ _ p.vw p'.vw e e')
theorem zgs(I:Inv X pins σ H s)(hk:KdOk X kd)(hv:Vals vs us)(h:RpL X.K kd O H vs ds)(e:anyF (λy=>eqF n y x) ds=some b):us.any (eqW X.K kd O H n x)=b:=
 RpL.ind (P:=λvs ds=>∀us b,Vals vs us->anyF (λy=>eqF n y x) ds=some b->us.any (eqW X.K kd O H n x)=b) (λus b hv e=>by cases e;cases hv;rfl) (λ{v d vs ds} a _ ih us b hv h=>by
  cases hv with
  |cons r t=>
   obtain⟨b1,h1,h⟩:=bS_ (show(eqF n _ x).bind _=_ from h)
   obtain⟨c1,h2,h⟩:=bS_ h
   cases h
   rw[List.any_cons,zrm I hk r a h1,ih _ _ t h2]) h us b hv e
theorem zbK:∀{ds:List D}{b:Bool},anyF f ds=some b->∀d ∈ ds,∃c,f d=some c
 | [],_,_,d,hd=>by simp at hd
 |x::r,b,h,d,hd=>by
  obtain⟨b1,h1,h⟩:=bS_ (show(f x).bind _=_ from h)
  obtain⟨c1,h2,h⟩:=bS_ h
  rcases zzA.mp hd with e|e
  · subst e;exact⟨b1,h1⟩
  · exact zbK h2 d e
theorem zgl(I:Inv X pins σ H s)(hk:KdOk X kd)(hu:A.units+n<cLine)(vx:Vw X.K kd O H x d)(rx:RelV x v)(hv:Vals vs us)(h:RpL X.K kd O H vs ds)(k:∀e ∈ ds,∃c,eqF n e d=some c):∀u ∈ us,SeqAt.EqAt A s u v (eqW X.K kd O H n d u):=
 RpL.ind (P:=λvs ds=>∀us,Vals vs us->(∀e ∈ ds,∃c,eqF n e d=some c)->∀u ∈ us,SeqAt.EqAt A s u v (eqW X.K kd O H n d u)) (λus hv _ u hu=>by cases hv;simp at hu) (λa q ih us hv h u hm=>by
  cases hv with
  |cons r t=>
   rcases zzA.mp hm with e|e
   · subst e
     obtain⟨c,hc⟩:=h _ zzD
     rw[zrm I hk r a hc]
     exact(zkN I n A _ _ _ _ _ _ _ hu a.vw vx r rx hc).eq
   · exact ih _ t (λe he=>h e (zzB _ he)) u e) h us hv k
theorem zhM(vx:Vw X.K kd O H x d)(rx:RelV x v)(e:isP d (.bl b)=some c)(h:Q c s):wpAny (model X.prog X.w) A (isSame v (.bool b)) Q E s:=by
 cases vx with
 |non=>cases rx;cases e;exact QyE h
 |bl k=>
  cases rx
  have e:some (k==b)=some c:=e
  cases e
  refine QyE ?_
  cases k<;>cases b<;>exact h
 |int=>obtain⟨t,rfl⟩:=rx;cases e;exact QyE h
 |str=>obtain⟨t,rfl⟩:=rx;cases e;exact QyE h
 |tup=>cases rx;cases e;exact QyE h
 |lst=>cases rx;cases e;exact QyE h
 |dct=>cases rx;cases e;exact QyE h
 |cl=>cases rx;cases e;exact QyE h
 |ob=>cases rx;cases e;exact QyE h
theorem zqS(hk:KdOk X kd)(hu:X.A.units+100<cLine)(op:CmpOp):OpD X kd (compareOp op) (zK op):=by
 intro pins s σ H x y v u Q I rx ry h
 obtain⟨O,d,e,r,ht,vx,vy,he,q⟩:=h
 cases op with
 |Eq=>
  obtain⟨b,h1,he⟩:=bS_ (show(eqF 60 d e).bind _=_ from he)
  cases he
  exact(zkN I 60 X.A x y d e v u b (by omega) vx vy rx ry h1).rc _ _ _ _ (ZL I (yO q (.bl _)) rfl)
 |NotEq=>
  obtain⟨b,h1,he⟩:=bS_ (show(eqF 60 d e).bind _=_ from he)
  cases he
  exact(zkN I 60 X.A x y d e v u b (by omega) vx vy rx ry h1).ne _ _ _ _ (ZL I (yO q (.bl _)) rfl)
 |Lt=>
  obtain⟨i,j,rfl,rfl,he⟩:=Vx vx vy he
  cases he
  exact zxz pins s σ H _ _ v u Q I rx ry ⟨_,_,rfl,rfl,yO q (.bl _)⟩
 |LtE=>
  obtain⟨i,j,rfl,rfl,he⟩:=Vx vx vy he
  cases he
  exact zxu pins s σ H _ _ v u Q I rx ry ⟨_,_,rfl,rfl,yO q (.bl _)⟩
 |Gt=>
  obtain⟨i,j,rfl,rfl,he⟩:=Vx vx vy he
  cases he
  exact zxX pins s σ H _ _ v u Q I rx ry ⟨_,_,rfl,rfl,yO q (.bl _)⟩
 |GtE=>
  obtain⟨i,j,rfl,rfl,he⟩:=Vx vx vy he
  cases he
  exact zxP pins s σ H _ _ v u Q I rx ry ⟨_,_,rfl,rfl,yO q (.bl _)⟩
 |In=>
  obtain⟨b,h1,he⟩:=bS_ (show(inP d e).bind _=_ from he)
  cases he
  cases vy with
  |lst hs rl=>
   cases ry
   obtain⟨its,rv,p,_⟩:=I.list hs.sq
   refine SeqAt.in_listAt (eqW X.K kd O H 50 d) p.isList (λw hw=>zgl I hk (by show X.A.units+1+50<cLine;omega) vx rx rv rl (zbK h1) w (by simpa using hw)) ?_
   have:=zgs I hk rv rl h1
   rw[show its.toArray.any (eqW X.K kd O H 50 d)=b by rw[<-this];simp]
   exact ZL (I) (yO q (.bl _)) rfl
  |tup rp hs rl=>
   cases ry
   obtain⟨its,rv,p,_⟩:=I.tuple hs
   refine SeqAt.in_tupleAt (eqW X.K kd O H 50 d) p (λw hw=>zgl I hk (by show X.A.units+1+50<cLine;omega) vx rx rv rl (zbK h1) w (by simpa using hw)) ?_
   have:=zgs I hk rv rl h1
   rw[show its.toArray.any (eqW X.K kd O H 50 d)=b by rw[<-this];simp]
   exact ZL (I) (yO q (.bl _)) rfl
  |str z=>
   cases vx with
   |str i=>cases h1;exact zpu pins s σ H _ _ v u Q I rx ry ⟨_,_,rfl,rfl,yO q (.bl _)⟩
   |_=>cases h1
  |dct hs rm=>
   cases ry
   obtain⟨k,k1,h1⟩:=bS_ h1
   cases h1
   obtain⟨z,hd,vs,rel,dd⟩:=zhn I hk hs
   have ek:x=kV k:=by
    cases vx with
    |int i=>cases k1;rfl
    |str i=>cases k1;rfl
    |_=>cases k1
   subst ek
   refine wpAny_in_of (zoz rx) hd dd.mapOf ?_
   rw[<-(rel.val k).isSome_eq]
   rcases zkQ k rm with⟨v1,d1,e1,e2,_⟩|⟨e1,e2⟩
   · rw[e1];rw[e2]at q;exact ZL (I.tok _) (yO q (.bl _)) rfl
   · rw[e1];rw[e2]at q;exact ZL (I.tok _) (yO q (.bl _)) rfl
  |_=>cases h1
 |NotIn=>
  obtain⟨b,h1,he⟩:=bS_ (show(inP d e).bind _=_ from he)
  cases he
  cases vy with
  |lst hs rl=>
   cases ry
   obtain⟨its,rv,p,_⟩:=I.list hs.sq
   refine SeqAt.notIn_listAt (eqW X.K kd O H 50 d) p.isList (λw hw=>zgl I hk (by show X.A.units+1+50<cLine;omega) vx rx rv rl (zbK h1) w (by simpa using hw)) ?_
   have:=zgs I hk rv rl h1
   rw[show its.toArray.any (eqW X.K kd O H 50 d)=b by rw[<-this];simp]
   exact ZL (I) (yO q (.bl _)) rfl
  |tup rp hs rl=>
   cases ry
   obtain⟨its,rv,p,_⟩:=I.tuple hs
   refine SeqAt.notIn_tupleAt (eqW X.K kd O H 50 d) p (λw hw=>zgl I hk (by show X.A.units+1+50<cLine;omega) vx rx rv rl (zbK h1) w (by simpa using hw)) ?_
   have:=zgs I hk rv rl h1
   rw[show its.toArray.any (eqW X.K kd O H 50 d)=b by rw[<-this];simp]
   exact ZL (I) (yO q (.bl _)) rfl
  |str z=>
   cases vx with
   |str i=>cases h1;exact zkV pins s σ H _ _ v u Q I rx ry ⟨_,_,rfl,rfl,yO q (.bl _)⟩
   |_=>cases h1
  |dct hs rm=>
   cases ry
   obtain⟨k,k1,h1⟩:=bS_ h1
   cases h1
   obtain⟨z,hd,vs,rel,dd⟩:=zhn I hk hs
   have ek:x=kV k:=by
    cases vx with
    |int i=>cases k1;rfl
    |str i=>cases k1;rfl
    |_=>cases k1
   subst ek
   refine wpAny_notIn_of (zoz rx) hd dd.mapOf ?_
   rw[<-(rel.val k).isSome_eq]
   rcases zkQ k rm with⟨v1,d1,e1,e2,_⟩|⟨e1,e2⟩
   · rw[e1];rw[e2]at q;exact ZL (I.tok _) (yO q (.bl _)) rfl
   · rw[e1];rw[e2]at q;exact ZL (I.tok _) (yO q (.bl _)) rfl
  |_=>cases h1
 |Is=>
  obtain⟨b,h1,he⟩:=bS_ (show(isP d e).bind _=_ from he)
  cases he
  cases vy with
  |non=>
   refine zwz pins s σ H _ _ v u Q I rx ry ⟨rfl, ?_⟩
   have:decide (x=V.non)=b:=by cases vx<;>(cases h1;rfl)
   rw[this]
   exact yO q (.bl b)
  |bl c=>
   cases ry
   exact QyD (zhM vx rx h1 (QyE (ZL I (yO q (.bl _)) rfl)))
  |_=>cases h1
 |IsNot=>
  obtain⟨b,h1,he⟩:=bS_ (show(isP d e).bind _=_ from he)
  cases he
  cases vy with
  |non=>
   refine ztF pins s σ H _ _ v u Q I rx ry ⟨rfl, ?_⟩
   have:decide (x=V.non)=b:=by cases vx<;>(cases h1;rfl)
   rw[this]
   exact yO q (.bl _)
  |bl c=>
   cases ry
   exact QyD (zhM vx rx h1 (QyE (ZL I (yO q (.bl _)) rfl)))
  |_=>cases h1
end
theorem znR{K:zD}{kd:KD}{O:Addr->Prop}{H:Hp}{vs:List V}{ds:List D}{i:Int}{d:D}(r:RpL K kd O H vs ds)(h:atI ds i=some d):∃v,atI vs i=some v/\Rp K kd O H v d:=by
 unfold atI at h ⊢
 obtain⟨j,h1,h2⟩:=bS_ h
 rw[r.length,h1]
 exact r.get h2
def imR(o:Option D):Option R0:=o.bind λd=>some (.im d)
def ixP(x y:D):Option R0:=match x with
 | .lst xs=>(asI y).bind λi=>imR (atI xs i)
 | .tup xs=>(asI y).bind λi=>imR (atI xs i)
 | .str x=>(asI y).bind λi=>if x.length<=sizeLine then(atI x.cps.toList i).bind λc=>some (.im (.str ⟨#[c]⟩))else none
 | .dct kvs=>(zsr y).bind λk=>imR (zeY kvs k)
 |_=>none
theorem zhW(h:imR o=some r):∃d,o=some d/\r = .im d:=by
 obtain⟨d,h1,h2⟩:=bS_ (show o.bind _=_ from h)
 cases h2
 exact⟨d,h1,rfl⟩
section
variable{X:Cx}{kd:KD}
theorem zqx{K:zD}{O:Addr->Prop}{H:Hp}{x:V}{d:D}{k:Key}(vx:Vw K kd O H x d)(e:zsr d=some k):x=kV k:=by
 cases vx with
 |int i=>cases e;rfl
 |str i=>cases e;rfl
 |_=>cases e
theorem zyR(hk:KdOk X kd):IxD X kd ixP:=by
 intro value slice pins s σ H x y v u Q I rx ry h hs
 obtain⟨O,d,e,r,ht,vx,vy,he,q⟩:=h
 cases vx with
 |lst hr rl=>
  obtain⟨i,h0,he⟩:=bS_ (show(asI e).bind _=_ from he)
  obtain⟨rfl,rfl⟩:=VL vy h0
  obtain⟨d,h1,rfl⟩:=zhW he
  obtain⟨w,hw,rw'⟩:=znR rl h1
  exact zkM value slice pins s σ H _ _ v u Q I rx ry ⟨_,_,_,w,rfl,rfl,hr.sq,hw,yO q rw'⟩ hs
 |tup rp hr rl=>
  obtain⟨i,h0,he⟩:=bS_ (show(asI e).bind _=_ from he)
  obtain⟨rfl,rfl⟩:=VL vy h0
  obtain⟨d,h1,rfl⟩:=zhW he
  obtain⟨w,hw,rw'⟩:=znR rl h1
  exact zwj value slice pins s σ H _ _ v u Q I rx ry ⟨_,_,_,w,rfl,rfl,hr,hw,yO q rw'⟩ hs
 |str z=>
  obtain⟨i,h0,he⟩:=bS_ (show(asI e).bind _=_ from he)
  obtain⟨rfl,rfl⟩:=VL vy h0
  obtain⟨hz,he⟩:=ite_some' he
  obtain⟨c,h1,he⟩:=bS_ he
  cases he
  exact zxg value slice pins s σ H _ _ v u Q I rx ry ⟨_,_,c,rfl,rfl,hz,h1,yO q (.str _)⟩ hs
 |dct hr rm=>
  obtain⟨k,h1,he⟩:=bS_ (show(zsr e).bind _=_ from he)
  obtain⟨d,h2,rfl⟩:=zhW he
  cases rx
  obtain⟨z,hd,vs,rel,dd⟩:=zhn I hk hr
  have:=zqx vy h1
  subst this
  rcases zkQ k rm with⟨v1,d1,e1,e2,rp⟩|⟨e1,e2⟩
  · rw[h2]at e2
    cases e2
    obtain⟨w',hw,rw'⟩:=zdI.some_of (v:=v1) (o:=valueAt vs k) (by rw[<-e1];exact rel.val k)
    exact tail_any dd.typeIs PySem.F.slot_dict_getitem.lookup (wpAny_getItem_of (zoz ry) dd.mapOf hw ⟨v1,H,I.tok _,rw',yO q rp⟩) hs
  · rw[h2]at e2;cases e2
 |_=>cases he
def cutD(xs:List D)(lo hi:Option Int):List D:=(xs.drop (HT.sIx xs.length 0 lo)).take (HT.sIx xs.length xs.length hi-HT.sIx xs.length 0 lo)
theorem znZ{K:zD}{O:Addr->Prop}{H:Hp}{vs:List V}{ds:List D}(r:RpL K kd O H vs ds)(lo hi:Option Int):RpL K kd O H (zmp vs lo hi) (cutD ds lo hi):=by
 unfold zmp cutD
 rw[r.length]
 exact(r.drop _).take _
def slP(x:D)(lo hi:Option Int):Option R0:=match x with
 | .lst xs=>some (.fl (cutD xs lo hi))
 | .tup xs=>if HT.sIx xs.length 0 lo=0/\HT.sIx xs.length xs.length hi=xs.length then none else some (.im (.tup (cutD xs lo hi)))
 |_=>none
abbrev OF:=AS->Option (Option Int×AS)
def oN:OF:=λas=>some (none,as)
def oS(f:EF):OF:=λas=>(f as).bind λp=>(rvI p.1).bind λi=>some (some i,p.2)
def fSl(fa:EF)(fl fh:OF)(g:D->Option Int->Option Int->Option R0):EF:=λas=>(fa as).bind λp=>(fl p.2).bind λl=>(fh l.2).bind λh=>(p.1.frz.view h.2).bind λx=>(g x.1 l.1 h.1).bind λr=>(wrap x.2 r).bind λz=>some (z,h.2)
def alO(K:zD)(kd:KD)(f:OF):TO:=λσ H Q=>∃F B ad as o as',Rel K kd F B [] ad as σ H/\f as=some (o,as')/\
 ∀ad' H',Rel K kd F B [] ad' as' σ H'->Grow (Gw [] ad) H (Gw [] ad') H'->Q o H'
@[irreducible] def AO(X:Cx)(kd:KD)(e:Option Expr)(f:OF):Prop:=PO X e (alO X.K kd f)
theorem zrl(h:PO X e t)(k:∀σ H Q,t' σ H Q->t σ H Q):PO X e t':=λpins s σ H Q I q=>h pins s σ H Q I (k σ H Q q)
theorem zak:AO X kd none oN:=by with_unfolding_all exact(zrl zsE λσ H Q h=>by
 obtain⟨F,B,ad,as,o,as',R,e,q⟩:=h
 cases e
 exact q ad H R Grow.refl)
theorem zwC{K:zD}{F B:Addr->Prop}{T:List Addr}{ad:Ad}{σ:St}{H:Hp}{v:V}{st:Bool}{c:Int}(h:vZ K kd F B T ad σ H v (.ow (.lf st (.int c)))):T=[]/\v = .int c:=by
 have h:RoS K kd F B (Gw T ad) H v (.lf st (.int c)) T:=h
 generalize hT:Gw T ad=G at h
 cases h with
 |lf rp=>cases rp;exact⟨rfl,rfl⟩
theorem Z8{a:Expr}{fa:EF}(ha:AE X kd a fa):AO X kd (some a) (oS fa):=by with_unfolding_all exact(zrl (ztO ha) λσ H Q h=>by
 obtain⟨F,B,ad,as,o,as',R,e,q⟩:=h
 obtain⟨⟨p,as1⟩,h1,e⟩:=bS_ (show(fa as).bind _=_ from e)
 obtain⟨i,e1,e⟩:=bS_ e
 obtain⟨st,rfl⟩:=zmW e1
 cases e
 refine⟨F,B,ad,as,_,_,R,h1,λv T' ad1 H1 R1 rv1 g1=>?_⟩
 obtain⟨rfl,rfl⟩:=zwC rv1
 exact⟨i,rfl,q ad1 H1 R1 g1⟩)
theorem zyx:SlR X (λx lo hi H Q=>∃O d r,(∀a,O a->H a≠none)/\Vw X.K kd O H x d/\slP d lo hi=some r/\RQ X.K kd O H Q r):=by
 intro pins s σ H x v vl vu lo hi sl Q I rx hs pl pu h
 obtain⟨O,d,r,ht,vx,he,q⟩:=h
 cases vx with
 |lst hr rl=>cases he;exact ztM pins s σ H _ v vl vu lo hi sl Q I rx hs pl pu ⟨_,_,rfl,hr.sq,zdp q (znZ rl lo hi)⟩
 |tup rp hr rl=>
  have he:(if _ then none else some _:Option R0)=_:=he
  split at he
  · cases he
  · rename_i hw
    cases he
    exact zuZ pins s σ H _ v vl vu lo hi sl Q I rx hs pl pu ⟨_,_,rfl,hr,by rw[rl.length];exact hw,zka ht q (znZ rl lo hi)⟩
 |_=>cases he
theorem V2{a:Expr}{lo hi:Option Expr}{fa:EF}{fl fh:OF}{pos p2:Pos}(ha:AE X kd a fa)(hl:AO X kd lo fl)(hh:AO X kd hi fh):AE X kd (.Subscript a (.Slice lo hi none p2) pos) (fSl fa fl fh slP):=by with_unfolding_all exact(xr (zmm zyx ha hl hh) λσ H Q h=>by
 obtain⟨F,B,ad,as,r,as',R,e,q⟩:=h
 obtain⟨⟨p,as1⟩,h1,e⟩:=bS_ (show(fa as).bind _=_ from e)
 obtain⟨⟨l,as2⟩,h2,e⟩:=bS_ e
 obtain⟨⟨u,as3⟩,h3,e⟩:=bS_ e
 obtain⟨⟨d,lv⟩,h4,e⟩:=bS_ e
 obtain⟨r',h5,e⟩:=bS_ e
 obtain⟨z,h6,e⟩:=bS_ e
 cases e
 refine YD R h1 λv ad1 H1 R1 rv1 g1=>⟨F,B,ad1,as1,l,as2,R1,h2,λad2 H2 R2 g2=>⟨F,B,ad2,as2,u,_,R2,h3,λad3 H3 R3 g3=>?_⟩⟩
 exact⟨_,d,r',R3.tr _,vZ.vw R3 ((rv1.grow g2).grow g3) h4,h5,Y0 R3 h6 λw T' H' R' rv' g'=>q w T' ad3 H' R' rv' (((g1.trans g2).trans g3).trans g')⟩)
def zfZ:D->Option R0
 | .int i=>some (.im (.int (-i)))
 |_=>none
theorem zsF:UnD X kd (unaryOp .USub) zfZ:=by
 intro pins s σ H x v Q I rx h
 obtain⟨O,d,r,ht,vx,he,q⟩:=h
 cases vx with
 |int i=>cases he;exact zvk pins s σ H _ v Q I rx ⟨i,rfl,yO q (.int _)⟩
 |_=>cases he
def tyD:D->String
 | .non=>"NoneType" | .bl _=>"bool" | .int _=>"int" | .str _=>"str" | .tup _=>"tuple" | .lst _=>"list" | .dct _=>"dict"|_=>""
def znq:D->Bool
 | .cl _=>false | .ob _ _ _=>false|_=>true
def zjw(t c:String):Bool:=t==c||(t=="bool"&&c=="int")
def zdZ(c:String):Bool:=c=="int"||c=="bool"||c=="str"||c=="list"||c=="tuple"||c=="dict"
theorem zvo(K:zD)(d:D)(c:String)(h:zdZ c=true)(ho:znq d=true):PySem.W.kitOne K (.type (tyD d)) (.type c)=some (zjw (tyD d) c):=by
 have:c="int"\/c="bool"\/c="str"\/c="list"\/c="tuple"\/c="dict":=by
  unfold zdZ at h
  simp only[Bool.or_eq_true,beq_iff_eq]at h
  rcases h with((((h|h)|h)|h)|h)|h<;>simp[h]
 rcases this with rfl|rfl|rfl|rfl|rfl|rfl<;>cases d<;>first|rfl|cases ho
theorem zvJ(hk:KdOk X kd){pins:List (Addr×Obj)}{σ:St}{H:Hp}{s:Shared}{O:Addr->Prop}{A:Around}{E:Value->Shared->Prop}{Q:Value->Shared->Prop}{c:String}{x:V}{u:Value}{d:D}(I:Inv X pins σ H s)(rx:RelV x u)(vx:Vw X.K kd O H x d)(hc:zdZ c=true)(ho:znq d=true)
 (h:∀tk,Q (.bool (zjw (tyD d) c)) {s with toks:=tk}):wpAny (model X.prog X.w) A (call (.builtin "isinstance") [u,.type c]) Q E s:=by
 have e:=zvo X.K d c hc ho
 cases vx with
 |non=>cases rx;exact PySem.W.kia_one PySem.W.kitx_none I.kIn True.intro e (λz=>nomatch z) h
 |bl y=>cases rx;exact PySem.W.kia_one PySem.W.kitx_bool I.kIn True.intro e (λz=>nomatch z) h
 |int i=>obtain⟨t,rfl⟩:=rx;exact PySem.W.kia_one PySem.W.kitx_int I.kIn True.intro e (λz=>nomatch z) h
 |str y=>obtain⟨t,rfl⟩:=rx;exact PySem.W.kia_one PySem.W.kitx_str I.kIn True.intro e (λz=>nomatch z) h
 |lst hr rl=>
  cases rx
  obtain⟨its,rv,⟨o,n,h1,h2,_⟩,_⟩:=I.list hr.sq
  exact PySem.W.kia_one PySem.W.kitx_list I.kIn ⟨o,h1,h2⟩ e (λz=>nomatch z) h
 |tup rp hr rl=>
  cases rx
  obtain⟨its,rv,⟨o,h1,h2,_⟩,_⟩:=I.tuple hr
  exact PySem.W.kia_one PySem.W.kitx_tuple I.kIn ⟨o,h1,h2⟩ e (λz=>nomatch z) h
 |dct hr rm=>
  cases rx
  obtain⟨z,hd,vs,rel,⟨o,es,ep,h1,h2,_⟩⟩:=zhn I hk hr
  exact PySem.W.kia_one PySem.W.kitx_dict I.kIn ⟨o,h1,h2.1⟩ e (λz=>nomatch z) h
 |cl=>cases ho
 |ob=>cases ho
end
def zaP:List D->Option (List Int)
 | []=>some []
 | .int i::r=>(zaP r).bind λs=>some (i::s)
 |_::_=>none
def zwc:List Int->Int
 | []=>0
 |x::r=>r.foldl (λa b=>if a<b then b else a) x
theorem ziM:∀(r:List Int) (x:Int),r.foldl (λa b=>if a<b then b else a) x ∈ x::r/\∀a ∈ x::r,a<=r.foldl (λa b=>if a<b then b else a) x
 | [],x=>⟨by simp,by simp⟩
 |y::r,x=>by
  rw[List.foldl_cons]
  obtain⟨h1,h2⟩:=ziM r (if x<y then y else x)
  refine⟨?_,λa ha=>?_⟩
  · rcases zzA.mp h1 with e|e
    · rw[e];split<;>simp
    · exact zzB _ (zzB _ e)
  · have h3:=h2 _ zzD
    rcases zzA.mp ha with e|e
    · subst e;exact Int.le_trans (by split<;>omega) h3
    · rcases zzA.mp e with e|e
      · subst e;exact Int.le_trans (by split<;>omega) h3
      · exact h2 a (zzB _ e)
theorem ztU(h1:M ∈ ns)(h2:∀a ∈ ns,a<=M):zwc ns=M:=by
 cases ns with
 |nil=>simp at h1
 |cons x r=>
  obtain⟨k1,k2⟩:=ziM r x
  have a1:=k2 M h1
  have a2:=h2 _ k1
  show r.foldl _ x=M
  omega
def on1(f:D->Option R0)(ds:List D):Option R0:=match ds with
 | [x]=>f x
 |_=>none
theorem zeH{K:zD}{kd:KD}{O:Addr->Prop}{H:Hp}{f:D->Option R0}{xs:List V}{ds:List D}{r:R0}(vl:VwL K kd O H xs ds)(h:on1 f ds=some r):∃x d,xs=[x]/\Vw K kd O H x d/\f d=some r:=by
 cases vl with
 |nil=>cases h
 |cons a b=>
  cases b with
  |nil=>exact⟨_,_,rfl,a,h⟩
  |cons _ _=>cases h
def zzc:D->Option R0
 | .lst ds=>some (.im (.int ds.length))
 | .tup ds=>some (.im (.int ds.length))
 | .str x=>if x.length<=sizeLine then some (.im (.int x.length))else none
 | .dct kvs=>some (.im (.int kvs.length))
 |_=>none
def vK:List D->Option R0:=on1 zzc
def zzl:D->Option R0
 | .int i=>some (.im (.int i))
 | .bl b=>some (.im (.int (if b then 1 else 0)))
 |_=>none
def tupP:List D->Option R0
 | [.lst ds]=>some (.im (.tup ds))
 | [.tup ds]=>some (.im (.tup ds))
 |_=>none
def zzj:D->Option R0
 | .lst ds=>some (.fl ds)
 | .tup ds=>some (.fl ds)
 |_=>none
def lstP:List D->Option R0:=on1 zzj
def dctP:List D->Option R0
 | [.dct kvs]=>some (.fd kvs)
 |_=>none
def zny(ds:List D):Option R0:=match ds with
 | [x,y]=>onI (λi j=>some (.im (.int (if j > i then j else i)))) x y
 | [x]=>(asL x).bind λds=>(zaP ds).bind λns=>if 0<ns.length then some (.im (.int (zwc ns)))else none
 |_=>none
def zqD:List D->Option R0
 | [.int i]=>some (.im (.int (if i<0 then -i else i)))
 |_=>none
theorem zdV{K:zD}{kd:KD}{O:Addr->Prop}{H:Hp}{xs:List V}{d:D}(h:VwL K kd O H xs [d]):∃x,xs=[x]/\Vw K kd O H x d:=by
 cases h with
 |cons a b=>cases b;exact⟨_,rfl,a⟩
theorem zru{K:zD}{kd:KD}{O:Addr->Prop}{H:Hp}{vs:List V}{ds:List D}{ns:List Int}(h:RpL K kd O H vs ds)(e:zaP ds=some ns):vs=ns.map V.int:=
 RpL.ind (P:=λvs ds=>∀ns,zaP ds=some ns->vs=ns.map V.int) (λns e=>by cases e;rfl) (λ{v d vs ds} a _ ih ns e=>by
  cases d with
  |int i=>
   obtain⟨s,h1,h2⟩:=bS_ (show(zaP _).bind _=_ from e)
   cases h2
   cases a
   rw[ih _ h1]
   rfl
  |_=>cases e) h ns e
section
variable{X:Cx}{kd:KD}
theorem wV(hk:KdOk X kd):CallD X kd (.builtin "len") vK:=by
 intro pins s σ H xs us Q I r h
 obtain⟨O,ds,z,ht,vl,he,q⟩:=h
 obtain⟨x,d,rfl,vx,he⟩:=zeH vl he
 cases vx with
 |lst hr rl=>cases he;exact zee pins s σ H _ us Q I r ⟨_,_,rfl,.inl hr.sq,by rw[rl.length];exact yO q (.int _)⟩
 |tup rp hr rl=>cases he;exact zee pins s σ H _ us Q I r ⟨_,_,rfl,.inr hr,by rw[rl.length];exact yO q (.int _)⟩
 |str y=>
  obtain⟨c,rfl⟩:=ye he
  exact zkJ pins s σ H _ us Q I r ⟨_,rfl,c,yO q (.int _)⟩
 |dct hr rm=>
  cases he
  obtain⟨u,rfl,ru⟩:=vals1 r
  cases ru
  obtain⟨z,hd,vs,rel,dd⟩:=zhn I hk hr
  refine call_len_dict hd dd (by rw[<-rel.length];rw[sizeLine_eq]at z;omega) ?_
  rw[<-rel.length,rm.length]
  exact⟨.int _,H,I.tok _,⟨_,rfl⟩,yO q (.int _)⟩
 |_=>cases he
theorem V0:CallD X kd (.type "tuple") tupP:=by
 intro pins s σ H xs us Q I r h
 obtain⟨O,ds,z,ht,vl,he,q⟩:=h
 unfold tupP at he
 split at he
 · cases he
   obtain⟨x,rfl,vx⟩:=zdV vl
   cases vx with
   |lst hr rl=>exact zcD pins s σ H _ us Q I r ⟨_,_,rfl,.inl ⟨hr.sq,zka ht q rl⟩⟩
 · cases he
   obtain⟨x,rfl,vx⟩:=zdV vl
   cases vx with
   |tup rp hr rl=>exact zcD pins s σ H _ us Q I r ⟨_,_,rfl,.inr ⟨hr,yO q rp⟩⟩
 · cases he
theorem zpo:CallD X kd (.type "list") lstP:=by
 intro pins s σ H xs us Q I r h
 obtain⟨O,ds,z,ht,vl,he,q⟩:=h
 obtain⟨x,d,rfl,vx,he⟩:=zeH vl he
 cases vx with
 |lst hr rl=>cases he;exact zdW pins s σ H _ us Q I r ⟨_,_,rfl,.inl hr.sq,zdp q rl⟩
 |tup rp hr rl=>cases he;exact zdW pins s σ H _ us Q I r ⟨_,_,rfl,.inr hr,zdp q rl⟩
 |_=>cases he
theorem zpj(hk:KdOk X kd):CallD X kd (.type "dict") dctP:=by
 intro pins s σ H xs us Q I r h
 obtain⟨O,ds,z,ht,vl,he,q⟩:=h
 unfold dctP at he
 split at he
 · cases he
   obtain⟨x,rfl,vx⟩:=zdV vl
   cases vx with
   |dct hr rm=>
    obtain⟨u,rfl,ru⟩:=vals1 r
    cases ru
    obtain⟨z,hd,vs,rel,dd⟩:=zhn I hk hr
    refine kt_call_dict hd dd (by rw[<-rel.length];exact z) λh' dd' hs=>?_
    refine⟨.ref _,_,(I.laid (a:=s.heap.objs.size) (o:=.dK _) (t':=s.toks) (λb q hq=>?_) (zzL _) (zsi z (beq_eq_false_iff_ne.mpr (Ne.symm (zzO I.big))) rel dd')),rfl,zrY q rm _ (I.hok.fresh (zzL _))⟩
    exact(hs.2 b (zzO (QyG hq))).trans (QyF _ hq)
 · cases he
theorem zpe:CallD X kd (.builtin "abs") zqD:=by
 intro pins s σ H xs us Q I r h
 obtain⟨O,ds,z,ht,vl,he,q⟩:=h
 unfold zqD at he
 split at he
 · cases he
   obtain⟨x,rfl,vx⟩:=zdV vl
   cases vx
   exact zqG pins s σ H _ us Q I r ⟨_,rfl,yO q (.int _)⟩
 · cases he
theorem zeB(hc:X.calm=true):CallD X kd (.builtin "max") zny:=by
 intro pins s σ H xs us Q I r h
 obtain⟨O,ds,z,ht,vl,he,q⟩:=h
 cases vl with
 |nil=>cases he
 |cons vx vl=>
  cases vl with
  |nil=>
   obtain⟨ds,h0,he⟩:=bS_ (show(asL _).bind _=_ from he)
   cases zgC h0
   obtain⟨ns,h1,he⟩:=bS_ he
   obtain⟨c,rfl⟩:=ye he
   cases vx with
   |lst hr rl=>
    obtain⟨u,rfl,ru⟩:=vals1 r
    cases ru
    obtain⟨its,rv,p,_⟩:=I.list hr.sq
    rw[zru rl h1]at rv
    have hi:=intsAre_of rv
    obtain⟨ys,e⟩:=hi.allInts.items
    have hns:ns=ys.toList.map (·.1):=by rw[<-hi.numsOf,<-nums_intItems,<-e]
    have hsz:0<ys.size:=by
     have h3:=c;rw[hns,zS,QzR]at h3;exact h3
    have hl:=p.isList
    rw[e]at hl
    refine max_intList (I.ok.hd hc) hl hsz λv h' tk hv kp=>?_
    obtain⟨t,rfl⟩:=intItems_at hv
    obtain⟨k1,k2⟩:=argBest_gt (numAt ys) (ys.size-1)
    refine⟨.int (zwc ns),H,I.kept kp,⟨t, ?_⟩,yO q (.int _)⟩
    congr 1
    refine(ztU ?_ λa ha=>?_).symm
    · rw[hns,numAt_eq]
      have hlt:argBest (λi j=>decide (numAt ys i > numAt ys j)) (ys.size-1)<(ys.toList.map (·.1)).length:=by rw[zS,QzR];omega
      rw[QzD,zzC hlt]
      exact QzX hlt
    · rw[hns]at ha
      obtain⟨j,hj,rfl⟩:=List.getElem_of_mem ha
      have hj':=hj
      rw[zS,QzR]at hj
      have:=k2 j (by omega)
      rw[numAt_eq ys j,QzD,zzC hj']at this
      exact this
  |cons vy vl=>
   cases vl with
   |nil=>
    obtain⟨i,j,rfl,rfl,he⟩:=Vx vx vy he
    cases he
    exact zpi hc pins s σ H _ us Q I r ⟨_,_,rfl,yO q (.int _)⟩
   |cons _ _=>cases he
end
def ZF(env:Env):List (Str×NameKind)->List (Str×Addr)->List (Str×Addr)
 | [],cs=>cs
 |(n,k)::r,cs=>ZF env r (if k == .free then((n,(env.cells.lookup n).getD 0)::cs)else cs)
theorem zcH(h:∀x ∈ scope.names,x.2 = .free->∃c,env.cells.lookup x.1=some c):closureFor scope env=pure (ZF env scope.names []):=by
 have go:∀(names:List (Str×NameKind)) (cs:List (Str×Addr)) (f:Str×NameKind->List (Str×Addr)->Sem (ForInStep (List (Str×Addr)))),
  (∀name kind cs,f (name,kind) cs=if kind == .free then(do let a <-cellOf env name;pure (.yield ((name,a)::cs)))else pure (.yield cs))->
  (∀x ∈ names,x.2 = .free->∃c,env.cells.lookup x.1=some c)->(forIn names cs f:Sem (List (Str×Addr)))=pure (ZF env names cs):=by
  intro names
  induction names with
  |nil=>intro cs f _ _;rfl
  |cons x r ih=>
   intro cs f hf hx
   obtain⟨n,k⟩:=x
   rw[List.forIn_cons,hf]
   unfold ZF
   by_cases hk:(k == .free)=true
   · obtain⟨c,hc⟩:=hx (n,k) zzD (by simpa using hk)
     rw[if_pos hk,if_pos hk]
     have e:cellOf env n=pure c:=by unfold cellOf;rw[hc]
     rw[e,hc]
     exact ih _ f hf λy hy=>hx y (zzB _ hy)
   · rw[if_neg hk,if_neg hk]
     exact ih _ f hf λy hy=>hx y (zzB _ hy)
 simp only[closureFor]
 rw[go scope.names [] _ (λname kind cs=>?_) h]
 · rfl
 · rfl
theorem zjt:∀(names:List (Str×NameKind)) (cs:List (Str×Addr)) (p:Str×Addr),p ∈ ZF env names cs->p ∈ cs\/((p.1,NameKind.free) ∈ names/\p.2=(env.cells.lookup p.1).getD 0)
 | [],_,_,h=>.inl h
 |(n,k)::r,cs,p,h=>by
  unfold ZF at h
  rcases zjt r _ p h with h|h
  · by_cases hk:(k == .free)=true
    · rw[if_pos hk]at h
      rcases zzA.mp h with e|h
      · subst e
        have:k = .free:=by simpa using hk
        subst this
        exact .inr ⟨zzD,rfl⟩
      · exact .inl h
    · rw[if_neg hk]at h;exact .inl h
  · exact .inr ⟨zzB _ h.1,h.2⟩
theorem zhQ:∀(names:List (Str×NameKind)) (cs:List (Str×Addr)) (p:Str×Addr),p ∈ cs->p ∈ ZF env names cs
 | [],_,_,h=>h
 |(n,k)::r,cs,p,h=>by
  unfold ZF
  refine zhQ r _ p ?_
  split
  · exact zzB _ h
  · exact h
theorem zjf:∀(names:List (Str×NameKind)) (cs:List (Str×Addr)) (x:Str),(x,NameKind.free) ∈ names->(x,(env.cells.lookup x).getD 0) ∈ ZF env names cs
 |(n,k)::r,cs,x,h=>by
  unfold ZF
  rcases zzA.mp h with e|h
  · cases e
    exact zhQ r _ _ (by simp)
  · exact zjf r _ x h
theorem Vr:∀{l:List (Str×α)},(∀p ∈ l,p.1=x->p.2=a)->(∃b,(x,b) ∈ l)->l.lookup x=some a
 | [],_,h=>by obtain⟨_,h⟩:=h;cases h
 |(k,v)::r,u,h=>by
  rw[List.lookup_cons]
  cases hb:x==k with
  |true=>
   have:=u (k,v) zzD (beq_iff_eq.mp hb).symm
   exact congrArg some this
  |false=>
   refine Vr (λp hp=>u p (zzB _ hp)) ?_
   obtain⟨b,h⟩:=h
   rcases zzA.mp h with e|h
   · cases e;simp at hb
   · exact⟨b,h⟩
theorem zeu:∀(names:List (Str×NameKind)) (h:Heap) (acc:List (Str×Addr)) (p:Str×Addr),p ∈ cellsFrom h.objs.size names acc->
 p ∈ acc\/((p.1,NameKind.cell) ∈ names/\(pushCells h names).IsCell p.2 none/\h.objs.size<=p.2)
 | [],_,_,_,m=>.inl m
 |(n,k)::r,h,acc,p,m=>by
  unfold cellsFrom at m
  unfold pushCells
  split at m
  · rename_i hk
    rw[if_pos hk]
    have e:(h.push {cls:=.type "cell",data:=.cell none}).objs.size=h.objs.size+1:=QyM ..
    rw[<-e]at m
    rcases zeu r _ _ p m with m|⟨m1,m2,m3⟩
    · rcases zzA.mp m with e2|m
      · subst e2
        have:k = .cell:=by simpa using hk
        subst this
        refine .inr ⟨zzD, ?_,zzL _⟩
        have z:(h.push {cls:=.type "cell",data:=.cell none}).IsCell h.objs.size none:=⟨_,QyH _ rfl,rfl⟩
        exact z.keeps (pushCells_keeps r _)
      · exact .inl m
    · exact .inr ⟨zzB _ m1,m2,by rw[e]at m3;omega⟩
  · rename_i hk
    rw[if_neg hk]
    rcases zeu r h acc p m with m|⟨m1,m2,m3⟩
    · exact .inl m
    · exact .inr ⟨zzB _ m1,m2,m3⟩
theorem zaa:∀(names:List (Str×NameKind)) (n:Nat) (acc:List (Str×Addr)) (p:Str×Addr),p ∈ acc->p ∈ cellsFrom n names acc
 | [],_,_,_,m=>m
 |(_,k)::r,n,acc,p,m=>by
  unfold cellsFrom
  split
  · exact zaa r _ _ p (zzB _ m)
  · exact zaa r _ _ p m
theorem zfi:∀(names:List (Str×NameKind)) (n:Nat) (acc:List (Str×Addr)) (x:Str),(x,NameKind.cell) ∈ names->∃c,(x,c) ∈ cellsFrom n names acc
 |(y,k)::r,n,acc,x,m=>by
  unfold cellsFrom
  rcases zzA.mp m with e|m
  · cases e
    rw[if_pos (by decide)]
    exact⟨n,zaa r _ _ _ zzD⟩
  · split
    · exact zfi r _ _ x m
    · exact zfi r _ _ x m
theorem zeP:∀(names:List (Str×NameKind)) (n:Nat) (acc:List (Str×Addr)),(∀p ∈ acc,p.2<n)->(∀p ∈ acc,∀q ∈ acc,p.2=q.2->p.1=q.1)->∀p ∈ cellsFrom n names acc,∀q ∈ cellsFrom n names acc,p.2=q.2->p.1=q.1
 | [],_,_,_,h=>h
 |(y,k)::r,n,acc,lt,h=>by
  unfold cellsFrom
  split
  · refine zeP r (n+1) _ (λp m=>?_) (λp m q m' e=>?_)
    · rcases zzA.mp m with z|m
      · subst z;exact Nat.lt_succ_self _
      · exact QzY (lt p m)
    · rcases zzA.mp m with z|m
      · rcases zzA.mp m' with z'|m'
        · rw[z,z']
        · subst z;have:=lt q m';rw[<-e]at this;exact absurd this (Nat.lt_irrefl _)
      · rcases zzA.mp m' with z'|m'
        · subst z';have:=lt p m;rw[e]at this;exact absurd this (Nat.lt_irrefl _)
        · exact h p m q m' e
  · exact zeP r n acc lt h
section
variable{M:Model}{A:Around}{E:Value->Shared->Prop}{s:Shared}
def zbG(scope:Scope)(env:Env)(cl:List (Str×Addr))(L:Addr):Env:=
 {scope:=relabel scope env,locals:=L,globals:=env.globals,cells:=cellsFrom (L+1) scope.names cl,qual:=env.qual,func:=none,code:=env.code,frame:=env.frame,builtins:=env.builtins}
theorem zkO
 (h:∀h' env',{env' with scope:=relabel scope env}=zbG scope env cl s.heap.objs.size->env'.locals=s.heap.objs.size->(∀b o,s.heap.get? b=some o->h'.get? b=some o)->h'.Ns s.heap.objs.size (λ_=>none)->
  (∀p ∈ cellsFrom (s.heap.objs.size+1) scope.names cl,p ∈ cl\/((p.1,NameKind.cell) ∈ scope.names/\h'.IsCell p.2 none/\s.heap.objs.size+1<=p.2))->Q env' {s with heap:=h'}):
 wpAny M A (newFunctionEnv scope env.globals cl [] env.qual none .none (some env)) Q E s:=by
 simp only[newFunctionEnv,Option.isSome_some,if_true]
 refine QyD (wpAny_alloc ?_)
 refine QyD (wpAny_layCells _ (λname kind cells=>by cases hkc:kind==NameKind.cell<;>simp[hkc]) _ _ _ _ ?_)
 have e:(s.heap.push {cls:=.type "dict",data:=.dict #[]}).objs.size=s.heap.objs.size+1:=QyM ..
 refine QyD (QyE (QyE (h _ _ ?_ rfl (λb o q=>pushCells_keeps _ _ b o (QyF _ q)) ((Heap.Ns.new s.heap (.type "dict")).keeps (pushCells_keeps _ _)) λp m=>?_)))
 · unfold zbG
   rw[<-e]
 · rw[<-e]at m
   rcases zeu _ _ _ p m with m|⟨m1,m2,m3⟩
   · exact .inl m
   · exact .inr ⟨m1,m2,by rw[e]at m3;exact m3⟩
end
abbrev Zi(X:Cx)(N:List Str)(scope:Scope)(cl:List (Str×Addr))(s:Shared)(H:Hp)(fp:List Addr):Cx:=
 {X with N:=N,s₀:=s,H₀:=H,env:=zbG scope X.env cl (s.heap.objs.size+1),outer:=X.stack,ex:=fp,fn:=λx=>scope.names.lookup x==some .cell,pn:=[],xe:=λ_ _=>False}
def zyi(σ:St):Option Nat->Option V
 |none=>none
 |some j=>(σ[j]?).getD none
def Yu(cap:List (Option Nat))(σ:St):St:=cap.map (zyi σ)
def YH(N XN:List Str)(names:List (Str×NameKind))(envNames:List (Str×NameKind))(cap:List (Option Nat)):Bool:=
 N.length==cap.length&&(N.zip cap).all (λp=>match p.2 with|none=>true|some j=>XN[j]? == some p.1&&names.contains (p.1,NameKind.free)) &&
 names.all (λp=>p.2 != .free||envNames.lookup p.1==some .cell||envNames.lookup p.1==some .free)&&decide (names.map (·.1)).Nodup
def PTs(X:Cx)(ifs:List Expr)(t:TT):Prop:=
 ∀(pins:List (Addr×Obj)) (s:Shared) (σ:St) (H:Hp) (Q:Bool->Hp->Prop),Inv X pins σ H s->t σ H Q->
  wpAny (model X.prog X.w) X.A (forIn ifs true λc r=>if r=true then do let ok <-isTrue c X.env (eval c X.env);pure (ForInStep.yield ok)else pure (ForInStep.yield r)) (TP X pins σ Q) X.xe s
theorem zsz:PTs X [] (λ_ H Q=>Q true H):=λpins s σ H Q I h=>wpAny_tests_nil ⟨H,I,h⟩
theorem zuk(h:PT X c t):PTs X [c] t:=λpins s σ H Q I q=>wpAny_tests_one (h pins s σ H Q I q)
def zrX(wi:TI)(cap:List (Option Nat))(g:TG)(tt:TT)(te:TE):TE:=λσ H Q=>wi σ H λJ H1=>∃W:Nat->Nat->List V->Hp->Prop,(∃m,W 0 m [] H1)/\∀i m ys H,W i m ys H->ys.length<=sizeLine/\
 ((J.stop i H/\∀p,H p=none->Q (.ref p) (upd H p (.lst ys)))\/(J.go i H/\∀x H',J.yld i H x H'->g x (Yu cap σ) H' λσ2 H2=>(∀(j:Nat) v,(Yu cap σ)[j]? = some (some v)->σ2[j]? = some (some v))/\
   tt σ2 H2 λb H3=>if b=true then ys.length<sizeLine/\te σ2 H3 λy H4=>∃m',m'<m/\W (i+1) m' (ys++[y]) H4 else ∃m',m'<m/\W (i+1) m' ys H3))
section
variable{prog:Program}{w:World}{A:Around}{E:Value->Shared->Prop}{R:Result->Shared->Prop}{s:Shared}
theorem zjS(I:Nat->Shared->Prop)
 (turn:∀n s (E:Value->Shared->Prop),I n s->wpAny (model prog w) A (pyNext it) (λr s₁=>match r with
  |none=>R (.ok .next) s₁
  |some v=>wpAny (model prog w) A (letOwnedTupleGo target it v) (λ_ s₁=>wpAny (model prog w) A (assign target env v) (λ_ s₂=>
   wpAny (model prog w) A (forIn ifs true λc r=>if r=true then do let ok <-isTrue c env (eval c env);pure (ForInStep.yield ok)else pure (ForInStep.yield r)) (λok s₃=>
    if ok=true then wpAny (model prog w) A (eval elt env) (λx s₄=>
     wpAny (model prog w) A (call (.builtin "list.append") [acc,x]) (λ_ s₅=>∃m,m<n/\I m s₅) E s₄) E s₃
    else ∃m,m<n/\I m s₃) E s₂) E s₁) E s₁) E s)
 (n:Nat) (h:I n s):
 codeAny (model prog w) A (.compLoop (.ListComp elt [⟨target,iter,ifs,0⟩] scope pos) 0 it acc env) R s:=by
 refine codeAny_loop rfl I (λn s hI=>?_) n h
 show wpAny _ A ((compTurn (.ListComp elt [⟨target,iter,ifs,0⟩] scope pos) 0 it acc env).onRaise (λx=>do noteFrame x env;theTreesLotGoes x)) _ _ s
 refine wpAny_noted ?_
 rw[compTurn_list]
 refine QyD (wpAny_standAt (QyD (QyN (turn n s _ hI) (λr s₁ h₁=>?_) λ_ _ h'=>h')))
 cases r with
 |none=>exact QyE h₁
 |some v=>
  refine QyD (QyN h₁ (λ_ s₁ h₁=>?_) λ_ _ h'=>h')
  refine QyD (QyN h₁ (λ_ s₂ h₂=>QyD (QyN h₂ (λok s₃ h₃=>?_) λ_ _ h'=>h')) λ_ _ h'=>h')
  cases ok with
  |false=>exact QyE ⟨rfl,h₃⟩
  |true=>
   exact QyD (QyD (QyN h₃ (λx s₄ h₄=>QyD (QyN h₄ (λ_ s₅ h₅=>QyE (QyE ⟨rfl,h₅⟩)) λ_ _ h'=>h')) λ_ _ h'=>h'))
end
structure CapOk(N XN:List Str)(names:List (Str×NameKind))(envNames:List (Str×NameKind))(cap:List (Option Nat)):Prop where
 len:N.length=cap.length
 at_:∀(i:Nat) x (j:Nat),N[i]? = some x->cap[i]? = some (some j)->XN[j]? = some x/\(x,NameKind.free) ∈ names
 fr:∀p ∈ names,p.2 = .free->envNames.lookup p.1=some .cell\/envNames.lookup p.1=some .free
 nd:(names.map (·.1)).Nodup
theorem zlY(h:YH N XN names envNames cap=true):CapOk N XN names envNames cap:=by
 unfold YH at h
 simp only[QzA,beq_iff_eq,List.all_eq_true,decide_eq_true_eq]at h
 obtain⟨⟨⟨h1,h2⟩,h3⟩,h4⟩:=h
 refine⟨h1,λi x j e1 e2=>?_,λp hp e=>?_,h4⟩
 · have m:(x,some j) ∈ N.zip cap:=zzY (i:=i) (by rw[List.getElem?_zip_eq_some];exact⟨e1,e2⟩)
   have:=h2 _ m
   simp only[QzA,beq_iff_eq]at this
   exact⟨this.1,by simpa using this.2⟩
 · have:=h3 p hp
   rw[e]at this
   simpa using this
theorem zkE{names:List (Str×NameKind)}(h:(names.map (·.1)).Nodup){x:Str}{k k':NameKind}(m:(x,k) ∈ names)(m':(x,k') ∈ names):k=k':=by
 induction names with
 |nil=>cases m
 |cons p r ih=>
  obtain⟨h1,h2⟩:=zzU.mp (show(p.1::r.map (·.1)).Nodup from h)
  rcases zzA.mp m with e|m
  · rcases zzA.mp m' with e'|m'
    · rw[<-e]at e';cases e';rfl
    · exact absurd (QyB.mpr ⟨_,m',by rw[<-e]⟩) h1
  · rcases zzA.mp m' with e'|m'
    · exact absurd (QyB.mpr ⟨_,m,by rw[<-e']⟩) h1
    · exact ih h2 m m'
theorem zeX{names:List (Str×NameKind)}(h:(names.map (·.1)).Nodup){x:Str}{k:NameKind}(m:(x,k) ∈ names):names.lookup x=some k:=
 Vr (λp hp e=>by obtain⟨y,k'⟩:=p;cases(show y=x from e);exact zkE h hp m) ⟨k,m⟩
theorem zbA(x:Str):(relabel scope env).names.lookup x=(scope.names.lookup x).map λk=>if(k == .free&&env.scope.kind == .function&&env.kindOf x==some .cell)=true then NameKind.cell else k:=by
 unfold relabel
 show(scope.names.map _).lookup x=_
 generalize scope.names=names
 induction names with
 |nil=>rfl
 |cons p r ih=>
  obtain⟨n,k⟩:=p
  rw[QzQ,List.lookup_cons (k:=n) (as:=r)]
  cases hb:x==n with
  |true=>
   have e:x=n:=beq_iff_eq.mp hb
   subst e
   show List.lookup x ((if(k==NameKind.free&&env.scope.kind == .function&&env.kindOf x==some .cell)=true then(x,NameKind.cell)else(x,k))::_)=_
   show _=some (if(k==NameKind.free&&env.scope.kind == .function&&env.kindOf x==some .cell)=true then NameKind.cell else k)
   split
   · rw[List.lookup_cons,hb]
   · rw[List.lookup_cons,hb]
  |false=>
   show List.lookup x ((if(k==NameKind.free&&env.scope.kind == .function&&env.kindOf n==some .cell)=true then(n,NameKind.cell)else(n,k))::_)=_
   split
   · rw[List.lookup_cons,hb];exact ih
   · rw[List.lookup_cons,hb];exact ih
theorem znj{X:Cx}{pins:List (Addr×Obj)}{σ:St}{H:Hp}{s:Shared}{N:List Str}{scope:Scope}{cap:List (Option Nat)}{fp:List Addr}{h':Heap}(I:Inv X pins σ H s)(C:CapOk N X.N scope.names X.env.scope.names cap)(hk:scope.kind = .function)
 (hf:∀b ∈ fp,zgk X pins H b) (ho:∀b ∈ fp,∃o,s.heap.get? b=some o)
 (old:∀b o,s.heap.get? b=some o->h'.get? b=some o) (ns:h'.Ns (s.heap.objs.size+1) (λ_=>none))
 (hc:∀p ∈ cellsFrom (s.heap.objs.size+1+1) scope.names (ZF X.env scope.names []),p ∈ ZF X.env scope.names []\/((p.1,NameKind.cell) ∈ scope.names/\h'.IsCell p.2 none/\s.heap.objs.size+1+1<=p.2)):
 Inv (Zi X N scope (ZF X.env scope.names []) s H fp) [] (Yu cap σ) H {s with heap:=h'}:=by
 have has:∀x,(x,NameKind.free) ∈ scope.names->∃c,X.env.cells.lookup x=some c:=λx m=>I.ok.has x (C.fr _ m rfl)
 have clo:∀p ∈ ZF X.env scope.names [],X.env.cells.lookup p.1=some p.2/\(p.1,NameKind.free) ∈ scope.names:=λp m=>by
  rcases zjt _ _ p m with z|⟨z1,z2⟩
  · cases z
  · obtain⟨c,e⟩:=has _ z1
    rw[e]at z2
    exact⟨by rw[e];exact congrArg some z2.symm,z1⟩
 have look:∀x c,(cellsFrom (s.heap.objs.size+1+1) scope.names (ZF X.env scope.names [])).lookup x=some c->(X.env.cells.lookup x=some c/\(x,NameKind.free) ∈ scope.names)\/((x,NameKind.cell) ∈ scope.names/\h'.IsCell c none/\s.heap.objs.size+1+1<=c):=λx c e=>by
  rcases hc _ (mem_of_lookup e)with m|m
  · exact .inl (clo _ m)
  · exact .inr m
 have lt:∀x c,X.env.cells.lookup x=some c->c<s.heap.objs.size:=λx c e=>by obtain⟨v,z⟩:=I.cell x c e;exact z.lt
 have lookF:∀x,(x,NameKind.free) ∈ scope.names->∃c,(cellsFrom (s.heap.objs.size+1+1) scope.names (ZF X.env scope.names [])).lookup x=some c/\X.env.cells.lookup x=some c:=λx m=>by
  obtain⟨c,e⟩:=has x m
  have m1:=zaa scope.names (s.heap.objs.size+1+1) _ _ (zjf (env:=X.env) scope.names [] x m)
  refine⟨c,Vr (λp hp ep=>?_) ⟨_,m1⟩,e⟩
  rcases hc p hp with z|z
  · have:=(clo p z).1
    rw[ep,e]at this
    exact(zzX this).symm
  · rw[ep]at z
    exact absurd (zkE C.nd z.1 m) (by decide)
 have kinds:∀x,((relabel scope X.env).names.lookup x=some .cell\/(relabel scope X.env).names.lookup x=some .free)->(x,NameKind.free) ∈ scope.names\/(x,NameKind.cell) ∈ scope.names:=λx h=>by
  rw[zbA]at h
  cases e:scope.names.lookup x with
  |none=>rw[e]at h;rcases h with h|h<;>cases h
  |some k=>
   have m:=mem_of_lookup e
   cases k with
   |free=>exact .inl m
   |cell=>exact .inr m
   |_=>rw[e]at h;rcases h with h|h<;>(simp at h)
 have lsz:s.heap.objs.size+1<h'.objs.size:=ns.lt
 refine⟨⟨I.ok.mod,hk,I.ok.glob,I.ok.blt,QzU _, ?_, ?_, ?_,I.ok.hd,I.ok.frames,.inl rfl, ?_,I.bs,zzM I.ok.bsz I.sz, ?_, ?_,I.stack,I.stkFree⟩,rfl,I.bare,(Un.kept old),⟨_,ns, ?_⟩, ?_,I.hok.fresh (QzU _), ?_,(λ_ z=>nomatch z),I.hok.kept old, ?_⟩
 · intro x y c e1 e2
   refine zeP scope.names (s.heap.objs.size+1+1) _ (λp m=>?_) (λp m q m' e=>?_) (x,c) (mem_of_lookup e1) (y,c) (mem_of_lookup e2) rfl
   · exact QzY (QzY (lt _ _ (clo p m).1))
   · refine I.ok.inj _ _ _ (clo p m).1 ?_
     rw[e];exact(clo q m').1
 · intro x h
   rcases kinds x h with m|m
   · obtain⟨c,e,_⟩:=lookF x m;exact⟨c,e⟩
   · obtain⟨c,e⟩:=zfi scope.names (s.heap.objs.size+1+1) (ZF X.env scope.names []) x m
     cases q:(cellsFrom (s.heap.objs.size+1+1) scope.names (ZF X.env scope.names [])).lookup x with
     |some c'=>exact⟨c',q⟩
     |none=>
      exfalso
      have:=List.lookup_eq_none_iff.mp q (x,c) e
      simp at this
 · intro x c hx e
   have hx:(scope.names.lookup x==some .cell)=true:=hx
   have m:=mem_of_lookup (beq_iff_eq.mp hx)
   rcases look x c e with z|z
   · exact absurd (zkE C.nd z.2 m) (by decide)
   · exact zzM (zzM (QzU _) (QzU _)) z.2.2
 · intro b hb
   obtain⟨o,e⟩:=ho b hb
   refine⟨zzO (QzY (QyG e)),λx c ec=>?_⟩
   rcases look x c ec with z|z
   · exact(hf b hb).2.2.2.2.1 x c z.1
   · have:=QyG e
     intro q;subst q
     exact absurd (zzI this (zzM (zzM (QzU _) (QzU _)) z.2.2)) (Nat.lt_irrefl _)
 · intro b o e hb
   rcases(hf b hb).2.2.2.1 with z|z
   · exact I.ok.noex b o e z
   · exact absurd (zzI (QyG e) (zzM I.ok.bsz z)) (Nat.lt_irrefl _)
 · intro b hb hm
   rcases zzA.mp (I.stkSub b hm)with z|z
   · exact(hf b hb).2.1 z
   · exact(hf b hb).2.2.1 z
 · intro i x v e1 e2 e3
   have e2:(Yu cap σ)[i]? = some (some v):=e2
   unfold Yu at e2
   rw[zzG]at e2
   cases ec:cap[i]? with
   |none=>rw[ec]at e2;cases e2
   |some c=>
    cases c with
    |none=>rw[ec]at e2;cases e2
    |some j=>
     rw[ec]at e2
     have e2:(σ[j]?).getD none=some v:=zzX e2
     obtain⟨xn,m⟩:=C.at_ i x j e1 ec
     have es:σ[j]? = some (some v):=by
      cases q:σ[j]? with
      |none=>rw[q]at e2;cases e2
      |some y=>rw[q]at e2;exact congrArg some e2
     have kf:=C.fr _ m rfl
     obtain⟨mm,hn,hl⟩:=I.loc
     obtain⟨u,r,l⟩:=hl j x v xn es (by rcases kf with k|k;exact .inr (.inl k);exact .inr (.inr k))
     refine⟨u,r,.inr ⟨?_, ?_⟩⟩
     · show(relabel scope X.env).names.lookup x=some .cell\/(relabel scope X.env).names.lookup x=some .free
       rw[zbA,zeX C.nd m]
       show some (if _ then _ else _)=_\/some (if _ then _ else _)=_
       split
       · exact .inl rfl
       · exact .inr rfl
     · obtain⟨c,ec,eo⟩:=lookF x m
       refine⟨c,ec, ?_⟩
       rcases l with⟨k1,_⟩|⟨_,c2,e4,z⟩
       · have k1:X.env.scope.names.lookup x=some .local:=k1
         rcases kf with k|k<;>(rw[k1]at k;cases k)
       · rw[eo]at e4;cases e4
         exact z.keeps old
 · intro x c e
   rcases look x c e with z|z
   · obtain⟨v,q⟩:=I.cell x c z.1;exact⟨v,q.keeps old⟩
   · exact⟨none,z.2.1⟩
 · intro x c e
   rcases look x c e with z|z
   · exact I.freeC x c z.1
   · exact I.hok.fresh (zzM (zzM (QzU _) (QzU _)) z.2.2)
 · show(Yu cap σ).length=N.length
   unfold Yu
   rw[zS,C.len]
abbrev lobj(its:List Value):Obj:={cls:=.type "list",data:=.seq its.toArray its.length}
section
variable{X:Cx}{pins:List (Addr×Obj)}{σ:St}{H2:Hp}{s2:Shared}{elt tg iter:Expr}{ifs:List Expr}{scope:Scope}{pos:Pos}{N:List Str}{cap:List (Option Nat)}{g:TG}{tt:TT}{te:TE}{wi:TI}
set_option maxHeartbeats 1000000
theorem zhw{J:It}{it:Addr}{fp:List Addr}{tn:Nat->Heap->Prop}{Q:VK}{R:Value->Addr->Result->Shared->Prop}{E:Value->Shared->Prop}
 (hc:X.calm=true) (C:CapOk N X.N scope.names X.env.scope.names cap) (hk:scope.kind = .function)
 (hg:∀cl s H fp,PG (Zi X N scope cl s H fp) tg g) (ht:∀cl s H fp,PTs (Zi X N scope cl s H fp) ifs tt) (he:∀cl s H fp,PE (Zi X N scope cl s H fp) elt te)
 (I2:Inv X pins σ H2 s2) (T:Turn X.prog X.w X.K tg J fp it tn) (st2:tn 0 s2.heap) (f2:∀b ∈ fp,zgk X pins H2 b)
 (W:Nat->Nat->List V->Hp->Prop) (m0:Nat) (w0:W 0 m0 [] H2)
 (turn:∀i m ys H,W i m ys H->ys.length<=sizeLine/\((J.stop i H/\∀p,H p=none->Q (.ref p) (upd H p (.lst ys)))\/(J.go i H/\∀x H',J.yld i H x H'->g x (Yu cap σ) H' λσ2 H2=>(∀(j:Nat) v,(Yu cap σ)[j]? = some (some v)->σ2[j]? = some (some v))/\
  tt σ2 H2 λb H3=>if b=true then ys.length<sizeLine/\te σ2 H3 λy H4=>∃m',m'<m/\W (i+1) m' (ys++[y]) H4 else ∃m',m'<m/\W (i+1) m' ys H3)))
 (fin:∀ys H3 s1 m,Inv X pins σ (upd H3 s2.heap.objs.size (.lst ys)) s1->s1.heap.Ns (s2.heap.objs.size+1) m->zgk X pins (upd H3 s2.heap.objs.size (.lst ys)) (s2.heap.objs.size+1)->
  Q (.ref s2.heap.objs.size) (upd H3 s2.heap.objs.size (.lst ys))->R (.ref s2.heap.objs.size) (s2.heap.objs.size+1) (.ok .next) s1):
 wpAny (model X.prog X.w) X.A (newList []) (λacc s₃=>wpAny (model X.prog X.w) X.A (newFunctionEnv scope X.env.globals (ZF X.env scope.names []) [] X.env.qual none .none (some X.env)) (λcenv s₄=>
  codeAny (model X.prog X.w) X.A (.compStart (.ListComp elt [⟨tg,iter,ifs,0⟩] scope pos) 0 (.ref it) acc {cenv with scope:=relabel scope X.env}) (R acc cenv.locals) s₄) E s₃) E s2:=by
 refine QyI (zkO λh' env' eE eL old hns hcells=>?_)
 have e1:(s2.heap.push {cls:=.type "list",dict:=none,data:=.seq ([]:List Value).toArray}).objs.size=s2.heap.objs.size+1:=QyM ..
 dsimp only at eE eL old hns hcells
 rw[e1]at eE eL hns hcells
 have hD0:(s2.heap.push {cls:=.type "list",dict:=none,data:=.seq ([]:List Value).toArray}).get? s2.heap.objs.size=some (lobj []):=QyH _ rfl
 have hD:h'.get? s2.heap.objs.size=some (lobj []):=old _ _ hD0
 have old':∀b o,s2.heap.get? b=some o->h'.get? b=some o:=λb o q=>old b o (QyF _ q)
 have fex:∀b ∈ fp,∃o,s2.heap.get? b=some o:=λb hb=>by obtain⟨o,e,_⟩:=T.obj _ _ st2 b hb;exact⟨o,e⟩
 have flt:∀b ∈ fp,b<s2.heap.objs.size:=λb hb=>by obtain⟨o,e⟩:=fex b hb;exact QyG e
 have I':=znj I2 C hk f2 fex old' hns hcells
 rw[eE,eL]
 generalize hX:Zi X N scope (ZF X.env scope.names []) s2 H2 fp=X' at I'
 have xP:X'.prog=X.prog:=by rw[<-hX]
 have xw:X'.w=X.w:=by rw[<-hX]
 have xK:X'.K=X.K:=by rw[<-hX]
 have xA:X'.A=X.A:=by rw[<-hX]
 have xe:X'.env=zbG scope X.env (ZF X.env scope.names []) (s2.heap.objs.size+1):=by rw[<-hX]
 have xL:X'.env.locals=s2.heap.objs.size+1:=by rw[xe];rfl
 have xfs:X'.fs=frs X.stack:=by rw[<-hX]
 have xex:X'.ex=fp:=by rw[<-hX]
 have xs:X'.s₀=s2:=by rw[<-hX]
 have xH:X'.H₀=H2:=by rw[<-hX]
 have xpn:X'.pn=[]:=by rw[<-hX]
 have xc:X'.calm=true:=by rw[<-hX];exact hc
 have xE:X'.xe=λ_ _=>False:=by rw[<-hX]
 have hg':PG X' tg g:=by rw[<-hX];exact hg _ _ _ _
 have ht':PTs X' ifs tt:=by rw[<-hX];exact ht _ _ _ _
 have he':PE X' elt te:=by rw[<-hX];exact he _ _ _ _
 have H2D:H2 s2.heap.objs.size=none:=I2.hok.fresh (zzL _)
 have Dfs:s2.heap.objs.size ∉ X'.fs:=by
  rw[xfs]
  intro hm
  rcases zzA.mp (I2.stkSub _ hm)with z|z
  · exact absurd I2.lt (by rw[<-z];exact Nat.lt_irrefl _)
  · exact I2.nofs (zzL _) z
 have DL:s2.heap.objs.size≠X'.env.locals:=by rw[xL];exact zzO (Nat.lt_succ_self _)
 have pinD:∀{σ':St}{H':Hp}{s':Shared}{its:List Value}{ps:List (Addr×Obj)},Inv X' ps σ' H' s'->s'.heap.get? s2.heap.objs.size=some (lobj its)->H' s2.heap.objs.size=none->Inv X' [(s2.heap.objs.size,lobj its)] σ' H' s':=λI e n=>
  I.pins_of λp hp=>by
   cases zzP.mp hp
   exact⟨e,n,DL,Dfs,λv z=>by cases z⟩
 have stat:∀{H':Hp}{its:List Value},(∀b ∈ fp,H' b=none)->∀b ∈ fp,zgk X' [(s2.heap.objs.size,lobj its)] H' b:=λhn b hb=>by
  refine⟨hn b hb, ?_, ?_,.inl (by rw[xex];exact hb),(I'.ok.exf b (by rw[xex];exact hb)).2,λp hp=>?_⟩
  · exact(I'.ok.exf b (by rw[xex];exact hb)).1
  · exact I'.ok.exfs b (by rw[xex];exact hb)
  · rw[xpn,List.nil_append]at hp
    cases zzP.mp hp
    exact Nat.ne_of_gt (flt b hb)
 have loop:∀(n:Nat) (s':Shared),(∃i ys its H3,Inv X' [(s2.heap.objs.size,lobj its)] (Yu cap σ) H3 s'/\tn i s'.heap/\(∀b ∈ fp,H3 b=none)/\Vals ys its/\W i n ys H3)->
  codeAny (model X.prog X.w) X.A (.compLoop (.ListComp elt [⟨tg,iter,ifs,0⟩] scope pos) 0 (.ref it) (.ref s2.heap.objs.size) (zbG scope X.env (ZF X.env scope.names []) (s2.heap.objs.size+1)))
   (R (.ref s2.heap.objs.size) (s2.heap.objs.size+1)) s':=by
  intro n s' h0
  refine zjS (λn s'=>∃i ys its H3,Inv X' [(s2.heap.objs.size,lobj its)] (Yu cap σ) H3 s'/\tn i s'.heap/\(∀b ∈ fp,H3 b=none)/\Vals ys its/\W i n ys H3) ?_ n h0
  clear h0 n s'
  rintro n s3 E' ⟨i,ys,its,H3,I3,st3,fr3,rv3,w3⟩
  obtain⟨hz,hstep⟩:=turn i n ys H3 w3
  rcases hstep with⟨stop,qn⟩|⟨go,step⟩
  · have:=T.done X' xP xw xK xc i _ s3 _ H3 E' I3 (stat fr3) st3 stop
    rw[xA]at this
    refine QyN this (λr s4 ⟨hr,I4⟩=>?_) λ_ _ z=>z
    subst hr
    obtain⟨gD,nD,_⟩:=I4.pin (s2.heap.objs.size,lobj its) (by rw[xpn];simp)
    obtain⟨m,hn,_⟩:=I4.loc
    rw[xL]at hn
    have b4:=I4.base
    rw[xfs,xex,xH,xs]at b4
    have nL:H3 (s2.heap.objs.size+1)=none:=by have:=I4.free;rw[xL]at this;exact this
    have neD:∀b o,s2.heap.get? b=some o->b≠s2.heap.objs.size:=λb o e=>zzO (QyG e)
    have neH:∀b u,H2 b=some u->b≠s2.heap.objs.size:=λb u e z=>by rw[z,H2D]at e;cases e
    have ne3:∀b u,H3 b=some u->b≠s2.heap.objs.size:=λb u e z=>by rw[z,nD]at e;cases e
    have hok4:=I4.hok
    rw[xP,xw]at hok4
    refine fin ys H3 s4 m (I2.call' (ch:=fp) ?_ ⟨b4.keep,b4.slot,λb o e n hx=>?_,b4.there,λb xs e=>?_,λb o u e=>?_,λb ps e=>?_⟩ ?_ I4.bare λb hb=>?_) hn (I2.fpOk (QzU _) (by rw[yg (Nat.ne_of_gt (Nat.lt_succ_self _))];exact nL)) (qn _ nD)
    · have:=I4.os;rw[xs]at this;exact this
    · rw[yg (neD b o e)];exact b4.free b o e n hx
    · rw[yg (neH b _ e)];exact b4.tups b xs e
    · rw[yg (neH b _ e)];exact b4.frzs b o u e
    · rw[yg (neH b _ e)];exact b4.tbls b ps e
    · intro b u e
      by_cases hb:b=s2.heap.objs.size
      · subst hb
        rw[yH]at e
        cases e
        exact⟨hz,its,its.length,rv3,gD⟩
      · rw[yg hb]at e
        exact(hok4 b u e).stay (λc v _ q=>q) (λc q=>by rw[yg (ne3 c _ q)];exact q) λc xs q=>by rw[yg (ne3 c _ q)];exact q
    · obtain⟨f0,f1,f3,f4,f5,f6⟩:=f2 b hb
      exact⟨f4,f1,f5,f6⟩
  · have:=T.item X' xP xw xK xc i _ s3 _ H3 E' I3 (stat fr3) st3 go
    rw[xA]at this
    refine QyN this (λr s4 ⟨u,hr,h4⟩=>?_) λ_ _ z=>z
    subst hr
    refine QyN h4 (λ_ s5 ⟨x,H5,I5,r5,y5,st5,fr5⟩=>?_) λ_ _ z=>z
    have I5':=I5.pinned (stat fr5) (T.obj _ _ st5)
    have h6:=hg' _ s5 _ H5 x u _ I5' r5 (step x H5 y5)
    rw[xP,xw,xA,xe,xE]at h6
    refine QyN h6 (λ_ s6 ⟨σ6,H6,I6,cap6,q6⟩=>?_) λ_ _ z=>z.elim
    have h7:=ht' _ s6 σ6 H6 _ I6 q6
    rw[xP,xw,xA,xe,xE]at h7
    refine QyN h7 (λb s7 ⟨H7,I7,q7⟩=>?_) λ_ _ z=>z.elim
    have keep:∀{H8:Hp}{s8:Shared},Inv X' ([(s2.heap.objs.size,lobj its)]++zii fp s5.heap) σ6 H8 s8->Inv X' [(s2.heap.objs.size,lobj its)] (Yu cap σ) H8 s8/\tn (i+1) s8.heap/\∀b ∈ fp,H8 b=none:=λ{H8 s8} I8=>by
     refine⟨I8.unpinned.weak ?_ cap6,T.keep _ _ _ st5 λb hb o e=>(I8.pin (b,o) (zzJ _ (zzJ _ (V8 hb e)))).1,λb hb=>?_⟩
     · rw[I3.len];exact I8.len.symm
     · obtain⟨o,e,d⟩:=T.obj _ _ st5 b hb
       exact(I8.pin (b,o) (zzJ _ (zzJ _ (V8 hb e)))).2.1
    cases b with
    |false=>
     obtain⟨m',hm,w7⟩:=q7
     obtain⟨k1,k2,k3⟩:=keep I7
     exact⟨m',hm,i+1,ys,its,H7,k1,k2,k3,rv3,w7⟩
    |true=>
     obtain⟨hz2,q7⟩:=q7
     have h8:=he' _ s7 σ6 H7 _ I7 q7
     rw[xP,xw,xA,xe,xE]at h8
     show wpAny _ _ _ _ _ _
     refine QyN h8 (λyv s8 ⟨y,H8,I8,ry,m',hm,w8⟩=>?_) λ_ _ z=>z.elim
     obtain⟨k1,k2,k3⟩:=keep I8
     obtain⟨gD,nD,_⟩:=k1.pin (s2.heap.objs.size,lobj its) (by rw[xpn];simp)
     have hl:=rv3.length
     refine append_at gD (λh9 sb gD9=>?_) (by rw[zzF];omega)
     have I9:Inv X' [] (Yu cap σ) H8 {s8 with heap:=h9}:=(k1.pins_of (pins':=[]) (λ_ z=>nomatch z)).turned (t':=s8.toks) (it:=s2.heap.objs.size) (λb o hb e=>(sb.2 b hb).trans e) nD DL (.inr (by rw[xs];exact zzL _)) (λx c ec z=>by
      obtain⟨v,o,ho,hd⟩:=k1.cell x c ec
      rw[z,gD]at ho
      cases ho
      cases hd) (λp hp=>by rw[xpn]at hp;cases hp)
     have gD9':h9.get? s2.heap.objs.size=some (lobj (its++[yv])):=by
      rw[gD9]
      congr 1
      show({cls:=.type "list",data:=.seq (its.toArray.push yv) (its.length+1)}:Obj)={cls:=.type "list",data:=.seq (its++[yv]).toArray (its++[yv]).length}
      rw[zzH,List.length_singleton,List.push_toArray]
     refine⟨m',hm,i+1,ys++[y],its++[yv],H8,pinD I9 gD9' nD,T.keep _ _ _ k2 λb hb o e=>(sb.2 b (zzO (flt b hb))).trans e,k3,rv3.append (.cons ry .nil),w8⟩
 have start:∃i ys its H3,Inv X' [(s2.heap.objs.size,lobj its)] (Yu cap σ) H3 {s2 with heap:=h'}/\tn i h'/\(∀b ∈ fp,H3 b=none)/\Vals ys its/\W i m0 ys H3:=
  ⟨0,[],[],H2,pinD I' hD H2D,T.keep _ _ _ st2 λb hb o e=>old' b o e,λb hb=>(f2 b hb).1,.nil,w0⟩
 exact codeAny_compStart_list (loop m0 _ start) (T.self _ 0 _ _ _ (T.keep _ _ _ st2 λb hb o e=>old' b o e) (loop m0 _ start))
theorem zuj(hc:X.calm=true)(hi:PI X tg iter wi)(hk:scope.kind = .function)(hcap:YH N X.N scope.names X.env.scope.names cap=true)
 (hg:∀cl s H fp,PG (Zi X N scope cl s H fp) tg g) (ht:∀cl s H fp,PTs (Zi X N scope cl s H fp) ifs tt) (he:∀cl s H fp,PE (Zi X N scope cl s H fp) elt te)
 (hs:∀x,foldedSetIterable iter X.env x=pure x):PE X (.ListComp elt [⟨tg,iter,ifs,0⟩] scope pos) (zrX wi cap g tt te):=by
 intro pins s σ H Q I h
 have C:=zlY hcap
 rw[eval_ListComp]
 refine wpAny_comprehension_free (use:=none) rfl hs (zcH λx m e=>I.ok.has x.1 (C.fr x m e)) hk (λy m e=>zeX C.nd (by rw[<-e];exact m)) ?_
 refine thn (hi pins s σ H _ I h) λv s1 h1=>thn h1 λitv s2 h2=>?_
 obtain⟨it,fp,tn,J,H2,e,I2,T,st2,f2,W,⟨m0,w0⟩,turn⟩:=h2
 subst e
 refine zhw (R:=λacc C r s'=>compPost (model X.prog X.w) X.A X.xe none (EP X pins σ Q) acc C r s') hc C hk hg ht he I2 T st2 f2 W m0 w0 turn λys H3 s3 m I3 hn fl q=>?_
 refine⟨m,hn,λh' sb=>?_⟩
 obtain⟨f0,f1,f3,f4,f5,f6⟩:=fl
 exact⟨.ref s2.heap.objs.size,_,I3.turned (t':=s3.toks) (λb o hb e=>(sb.2 b hb).trans e) f0 f1 f4 f5 f6,rfl,q⟩
theorem zth(hN:X.N.Nodup)(hiy:X.N[i]? = some y)(hy:Loc X.env.scope y)(hf:X.fn y=true\/X.env.scope.names.lookup y=some .local)
 (hsw:swapsWith (.ListComp elt [⟨tg,iter,ifs,0⟩] scope pos) (some (.Name y py)) spos.line X.env=pure true)
 (hc:X.calm=true) (hi:PI X tg iter wi) (hk:scope.kind = .function) (hcap:YH N X.N scope.names X.env.scope.names cap=true)
 (hg:∀cl s H fp,PG (Zi X N scope cl s H fp) tg g) (ht:∀cl s H fp,PTs (Zi X N scope cl s H fp) ifs tt) (he:∀cl s H fp,PE (Zi X N scope cl s H fp) elt te)
 (hs:∀x,foldedSetIterable iter X.env x=pure x):PS X (.Assign [.Name y py] (.ListComp elt [⟨tg,iter,ifs,0⟩] scope pos) spos) (zwb (zrX wi cap g tt te) (zlF i)):=by
 intro pins s σ H D I h
 have C:=zlY hcap
 rw[exec_Assign_Name_used _ _ _ _ hsw]
 refine QyD (wpAny_standAt (QyD ?_))
 show wpAny _ X.A (do let _ <-comprehension (.ListComp elt [⟨tg,iter,ifs,0⟩] scope pos) scope X.env _ (newList []) false (eval iter X.env) (some (assign (.Name y py) X.env))) _ _ s
 refine QyD (QyN (wpAny_comprehension_free (use:=some (assign (.Name y py) X.env)) (Q:=λ_ s'=>SP X pins D .next s') rfl hs (zcH λx m e=>I.ok.has x.1 (C.fr x m e)) hk (λy m e=>zeX C.nd (by rw[<-e];exact m)) ?_) (λ_ s' hq=>QyE (QyE hq)) λ_ _ e=>e)
 refine thn (hi pins s σ H _ I h) λv s1 h1=>thn h1 λitv s2 h2=>?_
 obtain⟨it,fp,tn,J,H2,e,I2,T,st2,f2,W,⟨m0,w0⟩,turn⟩:=h2
 subst e
 refine zhw (Q:=λx H1=>zlF i x σ H1 D.nx) (R:=λacc C r s'=>compPost (model X.prog X.w) X.A X.xe (some (assign (.Name y py) X.env)) (λ_ s'=>SP X pins D .next s') acc C r s') hc C hk hg ht he I2 T st2 f2 W m0 w0 turn λys H3 s3 m I3 hn fl q=>?_
 obtain⟨f0,f1,f3,f4,f5,f6⟩:=fl
 refine wpAny_assign_Name (zjz I3 hN hiy hy (v:=.ref s2.heap.objs.size) rfl (λs4 I4 ⟨a,sb,ha⟩=>?_) hf)
 refine⟨m,hn.sameBut sb (λz=>?_),λh' sb'=>?_⟩
 · rcases ha with ha|ha
   · exact f1 (z.trans ha)
   · exact f5 y a ha z.symm
 · exact⟨_,_,I4.turned (t':=s4.toks) (λb o hb e=>(sb'.2 b hb).trans e) f0 f1 f4 f5 f6,q⟩
end
structure ItC(K:zD)(kd:KD)(F:Addr->Prop)(H:Hp)(J:It)(ds:List It1):Prop where
 all:∀(H2:Hp) (T:Addr->Prop),(∀b u,H b=some u->H2 b=some u)->(∀a,T a->H a=none/\H2 a≠none)->∀i,(i<ds.length->J.go i H2)/\(ds.length<=i->J.stop i H2)/\
  ∀v H3,J.yld i H2 v H3->(∀b o,H2 b=some o->H3 b=some o)/\∀x,ds[i]? = some x->Rp K kd (λa=>x.1=true/\(F a\/T a)) H3 v x.2
def alC(K:zD)(kd:KD)(f:IF):TI:=λσ H R=>∃F B ad as ds as',Rel K kd F B [] ad as σ H/\f as=some (ds,as')/\
 ∀J ad' H',Rel K kd F B [] ad' as' σ H'->Grow (Gw [] ad) H (Gw [] ad') H'->ItC K kd (Lv F B (Gw [] ad') true) H' J ds->R J H'
@[irreducible] def AIc(X:Cx)(kd:KD)(tg iter:Expr)(f:IF):Prop:=PI X tg iter (alC X.K kd f)
def zeN(os:List O):List It1:=os.map λo=>match o with | .lf st d=>(st,d)|o=>(false,o.toD)
def zyv(as:AS):RV->Option (List It1)
 | .ow o=>zjC (o.str,o.toD)
 | .bo i=>match as[i]? with
  |some (some (.nd .ls os))=>some (zeN os)
  |some (some (.nd .tp os))=>some (zeN os)
  |_=>none
def zcu(f:EF):IF:=λas=>(f as).bind λp=>(zyv p.2 p.1).bind λds=>some (ds,p.2)
section
variable{K:zD}{kd:KD}{F B:Addr->Prop}{G:Addr->Prop}{T:List Addr}{ad:Ad}{as:AS}{σ:St}{H H':Hp}
inductive RpC(K:zD)(kd:KD)(F:Addr->Prop)(H:Hp):List V->List It1->Prop
 |nil:RpC K kd F H [] []
 |cons {v:V}{x:It1}{vs:List V}{ds:List It1}:Rp K kd (λa=>x.1=true/\F a) H v x.2->RpC K kd F H vs ds->RpC K kd F H (v::vs) (x::ds)
theorem RpC.length(h:RpC K kd F H vs ds):vs.length=ds.length:=by
 induction h with
 |nil=>rfl
 |cons _ _ ih=>exact congrArg (· + 1) ih
theorem RpC.get{vs:List V}{ds:List It1}{i:Nat}{x:It1}(h:RpC K kd F H vs ds)(e:ds[i]? = some x):∃v,vs[i]? = some v/\Rp K kd (λa=>x.1=true/\F a) H v x.2:=by
 induction h generalizing i with
 |nil=>simp at e
 |cons h r ih=>
  cases i with
  |zero=>simp at e;subst e;exact⟨_,rfl,h⟩
  |succ i=>
   obtain⟨v,h1,h2⟩:=ih (i:=i) (by simpa using e)
   exact⟨v,by simpa using h1,h2⟩
theorem Rp.since{Ob:Addr->Prop}{v:V}{d:D}{T:Addr->Prop}(k:∀b u,H b=some u->H' b=some u)(hT:∀a,T a->H a=none)(h:Rp K kd Ob H v d):Rp K kd (Un2 Ob T) H' v d:=
 Rp.grow (F:=Ob) (W:=λ_=>False) (W':=T) (H':=H') ⟨λb u q _=>k b u q,λb z=>.inr (hT b z)⟩ (h.less λa z=>z.elim id False.elim)
theorem zgT{st:Bool}{vs:List V}{ds:List D}(h:RpL K kd (Lv F B G st) H vs ds):RpC K kd (Lv F B G true) H vs (kids st ds):=
 RpL.ind (P:=λvs ds=>RpC K kd (Lv F B G true) H vs (kids st ds)) .nil (λ{v d vs ds} h _ ih=>by
  refine .cons (x:=(yd d||st,d)) ?_ ih
  cases e:yd d with
  |true=>exact h.flat e
  |false=>
   refine h.less λa z=>?_
   have zs:st=true:=z.1
   rw[zs];exact z.2) h
theorem zuV{vs:List V}{os:List O}{fp:List Addr}(h:YF K kd F B G H vs os fp):RpC K kd (Lv F B G true) H vs (zeN os):=
 RoL.ind (P:=λvs os _=>RpC K kd (Lv F B G true) H vs (zeN os)) .nil (λ{v o vs os fp fq} h _ ih=>by
  have ha:=zjX h
  refine .cons ?_ ih
  cases h with
  |lf rp=>exact rp.less λa z=>(by have zs:=z.1;dsimp only at zs;rw[zs];exact z.2)
  |ls=>exact ha.less λa z=>nomatch z.1
  |dc=>exact ha.less λa z=>nomatch z.1
  |ob=>exact ha.less λa z=>nomatch z.1
  |tp=>exact ha.less λa z=>nomatch z.1) h
theorem zgG{a:Addr}{vs:List V}{ds:List It1}(h:SqL K H a vs)(r:RpC K kd F H vs ds):ItC K kd F H (Itl K a) ds:=⟨λH3 T k hT i=>by
 have hr3:SqL K H3 a vs:=by
  rcases h with(h|⟨o,h⟩)|h
  · exact .inl (.inl (k _ _ h))
  · exact .inl (.inr ⟨o,k _ _ h⟩)
  · exact .inr h
 refine⟨λhi=>?_,λhi=>⟨_,hr3,by rw[r.length];exact hi⟩,λv H4 hy=>?_⟩
 · obtain⟨u,hu,_⟩:=r.get (zzC hi)
   exact⟨_,u,hr3,hu⟩
 · obtain⟨rfl,hv⟩:=hy
   refine⟨λ_ _ z=>z,λd hd=>?_⟩
   obtain⟨u,hu,ru⟩:=r.get hd
   have:=hv _ hr3
   rw[hu]at this
   cases this
   exact(ru.since k λa z=>(hT a z).1).less λa z=>z.2.elim (λy=>.inl ⟨z.1,y⟩) .inr⟩
theorem zoU{a:Addr}{vs:List V}{ds:List It1}(h:SqT K H a vs)(r:RpC K kd F H vs ds):ItC K kd F H (Itt K a) ds:=⟨λH3 T k hT i=>by
 have hr3:SqT K H3 a vs:=by
  rcases h with(h|⟨o,h⟩)|h
  · exact .inl (.inl (k _ _ h))
  · exact .inl (.inr ⟨o,k _ _ h⟩)
  · exact .inr h
 refine⟨λhi=>?_,λhi=>⟨_,hr3,by rw[r.length];exact hi⟩,λv H4 hy=>?_⟩
 · obtain⟨u,hu,_⟩:=r.get (zzC hi)
   exact⟨_,u,hr3,hu⟩
 · obtain⟨rfl,hv⟩:=hy
   refine⟨λ_ _ z=>z,λd hd=>?_⟩
   obtain⟨u,hu,ru⟩:=r.get hd
   have:=hv _ hr3
   rw[hu]at this
   cases this
   exact(ru.since k λa z=>(hT a z).1).less λa z=>z.2.elim (λy=>.inl ⟨z.1,y⟩) .inr⟩
theorem ztC(lo:Int)(n:Nat):ItC K kd F H (Itr lo n) (wR lo n):=⟨λH2 T k hT i=>by
 have hl:(wR lo n).length=n:=by unfold wR;simp
 refine⟨λhi=>by rw[hl]at hi;exact hi,λhi=>by rw[hl]at hi;exact hi,λv H3 hy=>?_⟩
 obtain⟨rfl,rfl⟩:=hy
 refine⟨λ_ _ z=>z,λd hd=>?_⟩
 have hi:i<n:=by rw[<-hl];exact(zzE.mp hd).1
 unfold wR at hd
 rw[zzG,List.getElem?_range hi]at hd
 cases hd
 exact .int _⟩
end
theorem zfe(he:AE X kd e fa):AIc X kd tg e (zcu fa):=by
 with_unfolding_all (
 intro pins s σ H R I h
 obtain⟨F,B,ad,as,ds,as',Rl,e,q⟩:=h
 obtain⟨⟨p,as1⟩,h1,e⟩:=bS_ (show(fa as).bind _=_ from e)
 obtain⟨ys,h2,e⟩:=bS_ e
 cases e
 cases p with
 |ow o=>
  have h2:zjC (o.str,o.toD)=some ds:=h2
  generalize hd:o.toD=d at h2
  cases d with
  |lst xs=>
   cases h2
   refine zkL he pins s σ H R I ⟨F,B,ad,as,_,as1,Rl,h1,λv T1 ad1 H1 R1 rv1 g1=>?_⟩
   have rp:=zni R1 rv1
   rw[hd]at rp
   cases rp with
   |lst hn hr rl=>exact⟨_,rfl,⟨_,.inl hr⟩,q _ ad1 H1 R1.drop (g1.trans (Grow.less Gw.drop)) (zgG (.inl hr) (zgT rl))⟩
   |lstK a b c rl=>exact⟨_,rfl,⟨_,.inr ⟨_,_,_,a,rfl,rfl,rfl,b,c⟩⟩,q _ ad1 H1 R1.drop (g1.trans (Grow.less Gw.drop)) (zgG (.inr ⟨_,_,_,a,rfl,rfl,rfl,b,c⟩) (zgT rl))⟩
  |tup xs=>
   cases h2
   refine znw he pins s σ H R I ⟨F,B,ad,as,_,as1,Rl,h1,λv T1 ad1 H1 R1 rv1 g1=>?_⟩
   have rp:=zni R1 rv1
   rw[hd]at rp
   have go:∃a ys,v = .ref a/\SqT X.K H1 a ys/\RpL X.K kd (Lv F B (Gw [] ad1) o.str) H1 ys xs:=by
    cases rp with
    |tup n h r=>exact⟨_,_,rfl,.inl h,r⟩
    |tupK a b c e f r=>exact⟨_,_,rfl,.inr ⟨_,_,_,a,b,c,e,f⟩,r⟩
   obtain⟨a,ys,rfl,hs,rl⟩:=go
   exact⟨_,rfl,⟨_,hs⟩,q _ ad1 H1 R1.drop (g1.trans (Grow.less Gw.drop)) (zoU hs (zgT rl))⟩
  |_=>cases h2
 |bo i=>
  have h2:(match as1[i]? with|some (some (.nd .ls os))=>some (zeN os)|some (some (.nd .tp os))=>some (zeN os)|_=>none)=some ds:=h2
  cases k:as1[i]? with
  |none=>rw[k]at h2;cases h2
  |some s0=>
   rw[k]at h2
   match s0,h2,k with
   |some (.nd .ls os),h2,k=>
    cases h2
    refine zkL he pins s σ H R I ⟨F,B,ad,as,_,as1,Rl,h1,λv T1 ad1 H1 R1 rv1 g1=>?_⟩
    obtain⟨rfl,hs⟩:=rv1
    obtain⟨w,hw,ro⟩:=R1.sl i _ k
    rw[hs]at hw
    cases hw
    generalize hfp:ad1 i=fp at ro
    cases ro with
    |ls hH rl=>exact⟨_,rfl,⟨_,.inl (.inl hH)⟩,q _ ad1 H1 R1 g1 (zgG (.inl (.inl hH)) (zuV rl))⟩
   |some (.nd .tp os),h2,k=>
    cases h2
    refine znw he pins s σ H R I ⟨F,B,ad,as,_,as1,Rl,h1,λv T1 ad1 H1 R1 rv1 g1=>?_⟩
    obtain⟨rfl,hs⟩:=rv1
    obtain⟨w,hw,ro⟩:=R1.sl i _ k
    rw[hs]at hw
    cases hw
    generalize hfp:ad1 i=fp at ro
    cases ro with
    |tp n hH rl=>exact⟨_,rfl,⟨_,.inl (.inl hH)⟩,q _ ad1 H1 R1 g1 (zoU (.inl (.inl hH)) (zuV rl))⟩)
theorem XX(hg:Gl X "range")(hm:X.mg "range"=none)(ha:AA X kd [a] fr)(hs:starEach [a] X.env=[(false,eval a X.env)]):AIc X kd tg (.Call (.Name "range" p) [a] [] pos) (xU fr xW):=by
 with_unfolding_all (
 intro pins s σ H R I h
 obtain⟨F,B,ad,as,ds,as',Rl,e,q⟩:=h
 obtain⟨⟨ps,as1⟩,h1,e⟩:=bS_ (show(fr as).bind _=_ from e)
 obtain⟨⟨xs,lv⟩,h2,e⟩:=bS_ e
 obtain⟨ys,h3,e⟩:=bS_ e
 cases e
 obtain⟨j,rfl,h3⟩:=zpb h3
 · obtain⟨hj,e3⟩:=ye h3
   cases e3
   refine zjl hg hm ha hs pins s σ H R I ⟨F,B,ad,as,ps,_,Rl,h1,λvs ad1 H1 R1 rv1 g1=>?_⟩
   have vl:=zcs R1 rv1 h2
   cases vl with
   |cons v1 v2=>
    cases v2
    cases v1
    exact⟨j,rfl,hj.1,hj.2,q _ ad1 H1 R1 g1 (ztC 0 _)⟩)
def zxb(as:AS):Option Nat->Option O
 |none=>none
 |some j=>match as[j]? with
  |some (some (.lf st d))=>some (.lf st d)
  |some (some o)=>some (.lf false o.toD)
  |_=>none
def zcw(cap:List (Option Nat))(as:AS):AS:=cap.map (zxb as)
def Zt(g:GF)(tt:TF)(fe:EF)(as0:AS):List It1->Option (List O)
 | []=>some []
 |x::r=>(g x as0).bind λas1=>(tt as1).bind λb=>if b.1=true then(fe b.2).bind λp=>(toO p.2 p.1).bind λq=>if q.1.str=true then(Zt g tt fe as0 r).bind λos=>some (q.1::os)else none
  else Zt g tt fe as0 r
def wG(fi:IF)(cap:List (Option Nat))(g:GF)(tt:TF)(fe:EF):EF:=λas=>(fi as).bind λp=>if p.1.length<=sizeLine then(Zt g tt fe (zcw cap p.2) p.1).bind λos=>some (.ow (.nd .ls os),p.2)else none
def YM:TF:=λas=>some (true,as)
section
variable{K:zD}{kd:KD}{F B:Addr->Prop}{T:List Addr}{ad:Ad}{as:AS}{σ:St}{H H':Hp}{cap:List (Option Nat)}
theorem zud(R:Rel K kd F B [] ad as σ H)(k:∀b u,H b=some u->H' b=some u)(hT:∀a ∈ T,H a=none)(hT':∀a ∈ T,H' a≠none):
 Rel K kd (Un2 (Lv F B (Gw [] ad) true) (· ∈ T)) (λ_=>False) [] (λ_=>[]) (zcw cap as) (Yu cap σ) H':=by
 have no:∀a,¬Gw [] (λ_=>[]) a:=λa z=>z.elim (λy=>nomatch y) λ⟨_,y⟩=>nomatch y
 have kn:∀a,H a≠none->H' a≠none:=λa z=>by
  cases e:H a with
  |none=>exact absurd e z
  |some u=>rw[k a u e];simp
 have up:∀{st:Bool}{v:V}{d:D},Rp K kd (λa=>st=true/\Lv F B (Gw [] ad) true a) H v d->Rp K kd (Lv (Un2 (Lv F B (Gw [] ad) true) (· ∈ T)) (λ_=>False) (Gw [] λ_=>[]) st) H' v d:=λ{st v d} h=>by
  have:=Rp.grow (F:=λa=>st=true/\Lv F B (Gw [] ad) true a) (W:=λ_=>False) (W':=(· ∈ T)) (H':=H') ⟨λb u q _=>k b u q,λb z=>.inr (hT b z)⟩ (h.less λa z=>z.elim id False.elim)
  refine this.less λa z=>?_
  rcases z with(⟨z1,z2⟩|z)|z
  · rcases z2 with z2|z2
    · exact .inl ⟨z1,z2⟩
    · exact .inr z2
  · exact z.elim
  · exact(no a z).elim
 refine⟨by unfold zcw Yu;rw[zS,zS],λ_ _=>rfl,λ_=>QzH,(λ_ _ _ z=>nomatch z),QzH,(λ_ _ _ z=>nomatch z),λa z=>z.elim (λy=>kn a (R.trk true a y)) (hT' a),(λ_ z=>z.elim),λa z=>(no a z).elim,λi s e=>?_⟩
 unfold zcw at e
 rw[zzG]at e
 obtain⟨c,hc,rfl⟩:=zzV.mp e
 have es:(Yu cap σ)[i]? = some (zyi σ c):=by
  unfold Yu
  rw[zzG,hc]
  rfl
 rw[es]
 cases c with
 |none=>rfl
 |some j=>
  show zig _ _ _ _ _ _ (match as[j]? with|some (some (.lf st d))=>some (.lf st d)|some (some o)=>some (.lf false o.toD)|_=>none) _ _
  cases k2:as[j]? with
  |none=>rfl
  |some s0=>
   cases s0 with
   |none=>rfl
   |some o=>
    obtain⟨v,hv,ro⟩:=R.sl j _ k2
    cases o with
    |lf st d=>
     have e0:ad j=[]:=by
      generalize hfp:ad j=fp at ro
      cases ro
      rfl
     rw[e0]at ro
     refine⟨v,by show some ((σ[j]?).getD none)=_;rw[hv];rfl,.lf (up ?_)⟩
     exact(zkk ro).less λa z=>by have zs:st=true:=z.1;show Lv F B (Gw [] ad) st a;rw[zs];exact z.2
    |nd kk os=>exact⟨v,by show some ((σ[j]?).getD none)=_;rw[hv];rfl,.lf (up ((zjX ro).less λa z=>nomatch z.1))⟩
theorem zrk{S:List Nat}{fi:IF}{g:GF}{tt:TF}{fe:EF}{Q:VK}(hS:∀i ∈ S,cap[i]? = some none)(h:al K kd (wG fi cap g tt fe) σ H Q):
 zrX (alC K kd fi) cap (alG K kd S g) (alT K kd tt) (al K kd fe) σ H Q:=by
 obtain⟨F,B,ad,as,r,as',R,e,q⟩:=h
 obtain⟨⟨ds,as1⟩,h1,e⟩:=bS_ (show(fi as).bind _=_ from e)
 by_cases hz:ds.length<=sizeLine
 · have e:(if ds.length<=sizeLine then(Zt g tt fe (zcw cap as1) ds).bind λos=>some (RV.ow (.nd .ls os),as1)else none)=some (r,as'):=e
   rw[if_pos hz]at e
   obtain⟨os,h2,e⟩:=bS_ e
   cases e
   refine⟨F,B,ad,as,ds,as',R,h1,λJ ad1 H1 R1 g1 it=>?_⟩
   refine⟨λi m ys H3=>m+i=ds.length/\∃T os1 os2,os=os1++os2/\Zt g tt fe (zcw cap as') (ds.drop i)=some os2/\os1.length<=i/\T.Nodup/\(∀a ∈ T,H1 a=none/\H3 a≠none)/\(∀b u,H1 b=some u->H3 b=some u)/\
    RoL (λ_ v d=>Rp K kd (Un2 (Lv F B (Gw [] ad1) true) (· ∈ T)) H3 v d) (λa=>¬Un2 (Lv F B (Gw [] ad1) true) (· ∈ T) a) H3 ys os1 T,⟨ds.length,rfl,[],[],os,rfl,h2,zzL _,QzH,(λ_ m=>nomatch m),(λ_ _ z=>z),.nil⟩, ?_⟩
   rintro i m ys H3 ⟨hm,T,os1,os2,eo,ec,hl,tnd,tf,k3,rl⟩
   obtain⟨i1,i2,i3⟩:=it.all H3 (· ∈ T) k3 tf i
   have yl:=rl.length
   refine⟨by omega, ?_⟩
   by_cases hi:i<ds.length
   · refine .inr ⟨i1 hi,λv H4 hy=>?_⟩
     obtain⟨k4,rp⟩:=i3 v H4 hy
     rw[QzO hi]at ec
     obtain⟨as2,e2,ec⟩:=bS_ (show(g _ _).bind _=_ from ec)
     obtain⟨⟨b,as3⟩,e3,ec⟩:=bS_ ec
     have k14:∀b u,H1 b=some u->H4 b=some u:=λb u h=>k4 b u (k3 b u h)
     have kn4:∀a,H3 a≠none->H4 a≠none:=λa z=>by
      cases e:H3 a with
      |none=>exact absurd e z
      |some u=>rw[k4 a u e];simp
     have R4:=zud (cap:=cap) (T:=T) R1 k14 (λa z=>(tf a z).1) (λa z=>kn4 a (tf a z).2)
     have no:∀a,¬Gw [] (λ_=>[]) a:=λa z=>z.elim (λy=>nomatch y) λ⟨_,y⟩=>nomatch y
     refine⟨_,_,_,_,ds[i],as2,R4,(rp _ (zzC hi)).less λa z=>?_,e2,λσ5 ad5 H5 R5 g5 keep5=>⟨λj w hw=>?_,_,_,ad5,as2,b,as3,R5,e3,λad6 H6 R6 g6=>?_⟩⟩
     · rcases z with(z|z)|z
       · exact z
       · exact z.elim
       · exact(no a z).elim
     · rw[keep5 j λz=>?_]
       · exact hw
       · have:=hS j z
         unfold Yu at hw
         rw[zzG,this]at hw
         cases hw
     · -- what stood is kept
       have g46:=g5.trans g6
       have k46:∀b u,H4 b=some u->H6 b=some u:=λb u h=>g46.keep b u h (no b)
       have k36:∀b u,H3 b=some u->H6 b=some u:=λb u h=>k46 b u (k4 b u h)
       have kn6:∀a,H3 a≠none->H6 a≠none:=λa z=>by
        cases e:H3 a with
        |none=>exact absurd e z
        |some u=>rw[k36 a u e];simp
       have up:∀{H7:Hp}{T2:List Addr},(∀b u,H3 b=some u->H7 b=some u)->(∀a ∈ T2,H3 a=none)->RoL (λ_ v d=>Rp K kd (Un2 (Lv F B (Gw [] ad1) true) (· ∈ T++T2)) H7 v d) (λa=>¬Un2 (Lv F B (Gw [] ad1) true) (· ∈ T++T2) a) H7 ys os1 T:=λ{H7 T2} k7 f7=>
        RoL.mono (λst v d r=>(r.since k7 f7).less λa z=>z.elim (λy=>.inl (.inl y)) λy=>(zzK.mp y).elim (λx=>.inl (.inr x)) .inr)
         (λa vs n e=>⟨λz=>z.elim (λy=>n (.inl y)) λy=>(zzK.mp y).elim (λx=>n (.inr x)) λx=>(by have:=f7 a x;rw[this]at e;cases e),k7 _ _ e⟩) (λa _ u h=>k7 a u h) rl
       cases b with
       |false=>
        have:=up (T2:=[]) k36 (λ_ m=>nomatch m)
        rw[QzC]at this
        exact⟨m-1,by omega,by omega,T,os1,os2,eo,ec,Nat.le_succ_of_le hl,tnd,λa z=>⟨(tf a z).1,kn6 a (tf a z).2⟩,λb u h=>k36 b u (k3 b u h),this⟩
       |true=>
        rw[if_pos rfl]at ec
        obtain⟨⟨p,as7⟩,e7,ec⟩:=bS_ ec
        obtain⟨⟨o,as8⟩,e8,ec⟩:=bS_ ec
        by_cases hs:o.str=true
        · have ec:(if o.str=true then(Zt g tt fe (zcw cap as') (ds.drop (i+1))).bind λos=>some (o::os)else none)=some os2:=ec
          rw[if_pos hs]at ec
          obtain⟨os3,e9,ec⟩:=bS_ ec
          cases ec
          refine⟨by omega,_,_,ad6,as3,p,as7,R6,e7,λy T2 ad7 H7 R7 rv7 g7=>?_⟩
          obtain⟨ad8,R8,ro8,le8⟩:=zgY R7 rv7 e8
          have g47:=g46.trans g7
          have k47:∀b u,H4 b=some u->H7 b=some u:=λb u h=>g47.keep b u h (no b)
          have k37:∀b u,H3 b=some u->H7 b=some u:=λb u h=>k47 b u (k4 b u h)
          have f42:∀a ∈ T2,H4 a=none:=λa z=>(g47.own a (.inl z)).resolve_left (no a)
          have f32:∀a ∈ T2,H3 a=none:=λa z=>by
             cases e:H3 a with
             |none=>rfl
             |some u=>have:=k4 a u e;rw[f42 a z]at this;cases this
          have rt:=zkT R8 R8.tnd (λa z=>.inl z) ro8 hs
          have ro9:Ro (λ_ v d=>Rp K kd (Un2 (Lv F B (Gw [] ad1) true) (· ∈ T++T2)) H7 v d) (λa=>¬Un2 (Lv F B (Gw [] ad1) true) (· ∈ T++T2) a) H7 y o T2:=
             Ro.mono (λst v d r=>r.less λa z=>z.elim (λy=>.inl (.inl y)) λy=>(zzK.mp y).elim (λx=>.inl (.inr x)) .inr)
              (λa vs n e=>⟨λz=>n (z.elim (λy=>.inl (.inl y)) λy=>(zzK.mp y).elim (λx=>.inl (.inr x)) .inr),e⟩) (λ_ _ _ h=>h) rt.ro
          refine⟨m-1,by omega,by omega,T++T2,os1++[o],os3,by rw[eo,QyA];rfl,e9,by rw[zzH,List.length_singleton];omega,QyC.mpr ⟨tnd,rt.nd,λa z b z' e=>?_⟩,λa z=>?_,λb u h=>k37 b u (k3 b u h),(up k37 f32).append (RoL.one ro9)⟩
          · subst e
            exact(tf a z).2 (f32 a z')
          · rcases zzK.mp z with z|z
            · refine⟨(tf a z).1, ?_⟩
              cases e:H3 a with
              |none=>exact absurd e (tf a z).2
              |some u=>rw[k37 a u e];simp
            · refine⟨?_,rt.tr a z⟩
              cases e:H1 a with
              |none=>rfl
              |some u=>have:=k3 a u e;rw[f32 a z]at this;cases this
        · have ec:(if o.str=true then(Zt g tt fe (zcw cap as') (ds.drop (i+1))).bind λos=>some (o::os)else none)=some os2:=ec
          rw[if_neg hs]at ec
          cases ec
   · refine .inl ⟨i2 (by omega),λp hp=>?_⟩
     rw[List.drop_eq_nil_of_le (by omega)]at ec
     cases ec
     rw[QzC]at eo
     subst eo
     have pT:p ∉ T:=λz=>(tf p z).2 hp
     have H1p:H1 p=none:=by
      cases e:H1 p with
      |none=>rfl
      |some u=>have:=k3 p u e;rw[hp]at this;cases this
     have kp:∀b u,H3 b=some u->upd H3 p (.lst ys) b=some u:=λb u h=>by rw[yg (yI h hp)];exact h
     obtain⟨R9,g9⟩:=R1.news (T':=p::T) (H':=upd H3 p (.lst ys)) (zzU.mpr ⟨pT,tnd⟩) (λa z=>(zzA.mp z).elim (λe=>by rw[e];exact H1p) λz=>(tf a z).1) (λb u h=>kp b u (k3 b u h)) (λa z=>by
      rcases zzA.mp z with e|z
      · rw[e,yH];simp
      · cases e:H3 a with
        |none=>exact absurd e (tf a z).2
        |some u=>rw[kp a u e];simp)
     refine q _ (p::T) ad1 _ R9 (.ls yH ?_) (g1.trans g9)
     have le:∀st a,Lv F B (Gw (p::T) ad1) st a->Un2 (Un2 (Lv F B (Gw [] ad1) true) (· ∈ T)) (· = p) a:=λst a z=>by
      rcases z with(z|z)|z|z
      · exact .inl (.inl (.inl (.inl ⟨rfl,z.2⟩)))
      · exact .inl (.inl (.inl (.inr z)))
      · exact(zzA.mp z).elim .inr λy=>.inl (.inr y)
      · exact .inl (.inl (.inr (.inr z)))
     exact RoL.mono (λst v d r=>(r.since kp (T:=(· = p)) λa z=>by rw[z];exact hp).less (le st)) (λa vs n e=>⟨λz=>(le true a z).elim n λy=>(by rw[y,hp]at e;cases e),kp _ _ e⟩) (λa _ u h=>kp a u h) rl
 · have e:(if ds.length<=sizeLine then(Zt g tt fe (zcw cap as1) ds).bind λos=>some (RV.ow (.nd .ls os),as1)else none)=some (r,as'):=e
   rw[if_neg hz]at e
   cases e
end
section
variable{X:Cx}{kd:KD}{elt tg iter e a b c:Expr}{es ifs:List Expr}{scope:Scope}{pos:Pos}{N:List Str}{cap:List (Option Nat)}{g:GF}{tt:TF}{fe fa fb:EF}{fi:IF}{S:List Nat}{fr:AF}{fd:DF}
theorem Z4:PTs X [] (alT X.K kd YM):=λpins s σ H Q I h=>by
 obtain⟨F,B,ad,as,b,as',R,e,q⟩:=h
 cases e
 exact zsz pins s σ H Q I (q ad H R Grow.refl)
theorem zua(h:AT X kd c tt):PTs X [c] (alT X.K kd tt):=by with_unfolding_all exact(zuk h)
theorem Y4(hc:X.calm=true)(hi:AIc X kd tg iter fi)(hk:scope.kind = .function)(hcap:YH N X.N scope.names X.env.scope.names cap=true)(hS:S.all (λi=>cap[i]? == some none)=true)
 (hg:∀cl s H fp,AG (Zi X N scope cl s H fp) kd tg S g) (ht:∀cl s H fp,PTs (Zi X N scope cl s H fp) ifs (alT X.K kd tt)) (he:∀cl s H fp,AE (Zi X N scope cl s H fp) kd elt fe)
 (hs:∀x,foldedSetIterable iter X.env x=pure x):AE X kd (.ListComp elt [⟨tg,iter,ifs,0⟩] scope pos) (wG fi cap g tt fe):=by with_unfolding_all exact(xr (zuj (g:=alG X.K kd S g) (te:=al X.K kd fe) hc hi hk hcap hg ht he hs) λσ H Q h=>zrk (λi m=>by simpa using List.all_eq_true.mp hS i m) h)
theorem zjT(hN:X.N.Nodup)(hiy:X.N[i]? = some y)(hy:Loc X.env.scope y)(hf:X.fn y=true\/X.env.scope.names.lookup y=some .local)
 (hsw:swapsWith (.ListComp elt [⟨tg,iter,ifs,0⟩] scope pos) (some (.Name y py)) spos.line X.env=pure true)
 (hc:X.calm=true) (hi:AIc X kd tg iter fi) (hk:scope.kind = .function) (hcap:YH N X.N scope.names X.env.scope.names cap=true) (hS:S.all (λi=>cap[i]? == some none)=true)
 (hg:∀cl s H fp,AG (Zi X N scope cl s H fp) kd tg S g) (ht:∀cl s H fp,PTs (Zi X N scope cl s H fp) ifs (alT X.K kd tt)) (he:∀cl s H fp,AE (Zi X N scope cl s H fp) kd elt fe)
 (hs:∀x,foldedSetIterable iter X.env x=pure x):ASt X kd (.Assign [.Name y py] (.ListComp elt [⟨tg,iter,ifs,0⟩] scope pos) spos) (zQ z i (wG fi cap g tt fe)):=by with_unfolding_all exact(ZG (zth (g:=alG X.K kd S g) (te:=al X.K kd fe) hN hiy hy hf hsw hc hi hk hcap hg ht he hs) λD σ H h=>by
 obtain⟨F,B,ad,as,o,R,e,q⟩:=h
 obtain⟨⟨p,as1⟩,h1,e⟩:=bS_ (show(wG fi cap g tt fe as).bind _=_ from e)
 obtain⟨⟨y,as2⟩,h2,e⟩:=bS_ e
 obtain⟨hl,e⟩:=ye e
 cases e
 refine zrk (Q:=λx H1=>zlF i x σ H1 D.nx) (λi m=>by simpa using List.all_eq_true.mp hS i m) ⟨F,B,ad,as,p,as1,R,h1,λv T' ad' H' R' rv g=>?_⟩
 obtain⟨ad2,R2,le⟩:=zmY R' rv h2 hl
 exact q _ ad2 H' R2 (g.trans (Grow.less le)))
theorem ztI(F:FnOk X.prog X.w X.K X.mg X.base CX0 k f fdt ps (spD X.K kd gg))(hr:Room k X.A)(hg:Gl X x)(hm:X.mg x=some (.ref f))(hk:PySem.W.keepIn X.K (.ref f)=true)
 (hb:Binds X.K fdt ps []) (hx:YS CX0 X (λ_ _ _=>False)) (ha:AA X kd (e::es) fr) (hdb:(x==("__debug__":Str))=false) (he:starEach (e::es) X.env=(false,eval e X.env)::starEach es X.env) (hpl:(backTo pos (starEach es X.env)).any (·.1)=false):
 AE X kd (.Call (.Name x p) (e::es) [] pos) (zj fr gg):=by with_unfolding_all exact(xr (znW F hr hg hm hk hb .nil hx ha hdb he hpl) λσ H Q h=>zvL h)
theorem zvT{id:String}{gg:List D->Option R0}{x:Str}{p:Pos}(hc:CallD X kd (.builtin id) gg)(hg:Gl X x)(hm:X.mg x=none)(hv:bootBuiltins x=some (.builtin id))(ha:AA X kd (e::es) fr)(hn:x≠"__name__")(hdb:(x==("__debug__":Str))=false)
 (he:starEach (e::es) X.env=(false,eval e X.env)::starEach es X.env) (hpl:(backTo pos (starEach es X.env)).any (·.1)=false):AE X kd (.Call (.Name x p) (e::es) [] pos) (fP fr gg):=by with_unfolding_all exact(xr (zlG hc hg hm hv ha hn hdb he hpl) λσ H Q h=>alP (λ_ _ _ z=>z) h)
theorem zwg(hc:CallD X kd (.type T) gg)(hg:Gl X x)(hm:X.mg x=none)(hv:bootBuiltins x=some (.type T))(ha:AA X kd (e::es) fr)(hn:x≠"__name__")(hdb:(x==("__debug__":Str))=false)
 (he:starEach (e::es) X.env=(false,eval e X.env)::starEach es X.env) (hpl:(backTo pos (starEach es X.env)).any (·.1)=false):AE X kd (.Call (.Name x p) (e::es) [] pos) (fP fr gg):=by with_unfolding_all exact(xr (zpD hc hg hm hv ha hn hdb he hpl) λσ H Q h=>alP (λ_ _ _ z=>z) h)
def zeU(fa:EF)(c:String):EF:=λas=>(fa as).bind λp=>(p.1.frz.view p.2).bind λx=>if znq x.1=true then some (.ow (.lf true (.bl (zjw (tyD x.1) c))),p.2)else none
theorem zrf(hk:KdOk X kd):zbu X (.builtin "isinstance") (λxs H Q=>∃x c O d,xs=[x,.ty c]/\zdZ c=true/\Vw X.K kd O H x d/\znq d=true/\Q (.bl (zjw (tyD d) c)) H):=by
 intro pins s σ H xs us Q I r h
 obtain⟨x,c,O,d,rfl,hc,vx,ho,q⟩:=h
 cases r with
 |cons r1 r2=>
  cases r2 with
  |cons r2 r3=>
   cases r3
   cases(show _=Value.type c from r2)
   exact zvJ hk I r1 vx hc ho λtk=>⟨.bl _,H,I.tok tk,rfl,q⟩
theorem zkh{c:String}{x y:Str}{p p2:Pos}(hkd:KdOk X kd)(hc:zdZ c=true)(hg:Gl X x)(hm:X.mg x=none)(hv:bootBuiltins x=some (.builtin "isinstance"))(hg2:Gl X y)(hm2:X.mg y=none)(hv2:bootBuiltins y=some (.type c))(ha:AE X kd a fa)
 (hn:x≠"__name__") (hdb:(x==("__debug__":Str))=false) (hn2:y≠"__name__") (hdb2:(y==("__debug__":Str))=false)
 (he:starEach [a,.Name y p2] X.env=(false,eval a X.env)::starEach [.Name y p2] X.env) (he2:starEach [.Name y p2] X.env=(false,eval (.Name y p2) X.env)::starEach [] X.env) (hpl:(backTo pos (starEach [.Name y p2] X.env)).any (·.1)=false):
 AE X kd (.Call (.Name x p) [a,.Name y p2] [] pos) (zeU fa c):=by with_unfolding_all exact(xr (zlG (zrf hkd) hg hm hv (zcp ha (zcp (zsA (v:=.ty c) hg2 hm2 hv2 rfl hn2 hdb2) zhB he2) he) hn hdb he hpl) λσ H Q h=>by
 obtain⟨F,B,ad,as,r,as',R,e,q⟩:=h
 obtain⟨⟨p,as1⟩,h1,e⟩:=bS_ (show(fa as).bind _=_ from e)
 obtain⟨⟨d,lv⟩,h2,e⟩:=bS_ e
 obtain⟨ho,e⟩:=ye e
 cases e
 exact YD R h1 λv ad1 H1 R1 rv1 g1=>⟨v,c,_,d,rfl,hc,vZ.vw R1 rv1 h2,ho,q _ [] ad1 H1 R1 (.lf (.bl _)) g1⟩)
def Za:MG:=λos es=>match es with | [o]=>if os.length<sizeLine then some (os++[o],.lf true .non)else none|_=>none
def zbc:MG:=λos es=>match es with | [.lf _ (.int i)]=>if -(2 ^ 63)<=i/\i<2 ^ 63 then(seqIndex? i os.length).bind λk=>(os[k]?).bind λo=>some (os.eraseIdx k,o)else none|_=>none
theorem zut{l f fo g:List Addr}(h:l.Nodup)(e:l=f++(fo++g)):((f++g)++fo).Nodup/\∀a ∈ (f++g)++fo,a ∈ l:=by
 subst e
 have p:(f++(fo++g)).Perm ((f++g)++fo):=by
  rw[QyA]
  exact(List.perm_append_comm).append_left f
 exact⟨p.nodup_iff.mp h,λa m=>p.mem_iff.mpr m⟩
theorem VB:MuD X kd znQ Za:=by
 intro F B G l vs ws os es os' o fp fq H Q hH rl rw' hn e k
 unfold Za at e
 split at e
 · obtain⟨hz,e⟩:=ye e
   cases e
   cases rw' with
   |cons h1 h2=>
    cases h2
    rw[QzC]at hn k
    exact⟨l,vs,_,rfl,rfl,hH,by rw[rl.length];exact hz,k _ _ _ [] (rl.append (RoL.one h1)) (.lf .non) (λa m=>by rwa [QzC]at m) (by rw[QzC];exact hn)⟩
 · cases e
theorem zrO:MuD X kd zrS zbc:=by
 intro F B G l vs ws os es os' o fp fq H Q hH rl rw' hn e k
 unfold zbc at e
 split at e
 · rename_i st i
   split at e
   · rename_i hi
     obtain⟨j,hj,e⟩:=bS_ e
     obtain⟨o1,ho,e⟩:=bS_ e
     cases e
     obtain⟨v,f,fo,gg,hv,hf,ro,r1,r2⟩:=rl.at_ ho
     cases rw' with
     |cons h1 h2=>
      cases h2
      cases h1 with
      |lf rp=>
       cases rp
       rw[QzC,QzC]at hn k
       obtain⟨n1,n2⟩:=zut hn hf
       refine⟨l,vs,i,j,v,rfl,rfl,hH,hi.1,hi.2,by rw[rl.length];exact hj,hv,k v _ (f++gg) fo ?_ ro n2 n1⟩
       rw[zfL,zfL]
       exact r1.append r2
   · cases e
 · cases e
theorem Wb{i:Nat}{x:Str}{gg:MG}{r:V->List V->Hp->VK->Prop}{name:Str}{id:String}{apos cpos p:Pos}(hm:MtM X id r)(hr:MuD X kd r gg)(slot:Slot "list" name id)(hty:typeOf (.builtin id)=pure (.type "method_descriptor"))(ho:PE X (.Name x p) (ziA i))(ha:AD X kd (e::es) fd)
 (hbase:attributeBase (.Name x p) name X.env (eval (.Name x p) X.env)=eval (.Name x p) X.env)
 (hfew:((backTo cpos (starEach (e::es) X.env)).all (λx=>!x.1)&&(backToKw cpos (keywordEach [] X.env)).all (λx=>x.1.isSome)
  && decide ((e::es).length+([]:List Keyword).length+(if([]:List Keyword).isEmpty then 0 else 1)<30))=true)
 (hline:(apos.endLine==cpos.line)=true) (hs:starEach (e::es) X.env=(false,eval e X.env)::starEach es X.env) (hplain:(backTo cpos (starEach es X.env)).any (·.1)=false):
 AE X kd (.Call (.Attribute (.Name x p) name apos) (e::es) [] cpos) (Zm i fd gg):=by with_unfolding_all exact(xr (zxl PySem.F.plainAttrs_list slot hty hm ho ha hbase hfew hline hs hplain) λσ H Q h=>zxG hr h)
end
inductive Ty where
 |str|lst|dct|int
def Ty.nm:Ty->String
 | .str=>"str" | .lst=>"list" | .dct=>"dict" | .int=>"int"
def ztq:Ty->D->Bool
 | .str,.str _=>true
 | .lst,.lst _=>true
 | .dct,.dct _=>true
 | .int,.int _=>true
 |_,_=>false
def tyS(X:Cx)(T:String)(x:V)(H:Hp):Prop:=∀(pins:List (Addr×Obj)) (σ:St) (s:Shared) (v:Value),Inv X pins σ H s->RelV x v->s.TypeIs v T/\∀a,v = .ref a->∃ob,s.heap.get? a=some ob/\ob.dict=none
def tMD(X:Cx)(T:String)(r:V->List V->Hp->VK->Prop)(to:TE)(t:TA):TE:=λσ H Q=>to σ H λx H1=>tyS X T x H1/\t σ H1 λxs H2=>r x xs H2 Q
section
variable{X:Cx}{kd:KD}{o e:Expr}{es:List Expr}{to:TE}{t:TA}{name:Str}{apos cpos:Pos}{T id:String}{r:V->List V->Hp->VK->Prop}
theorem zyj(pa:PlainAttrs T)(slot:Slot T name id)(hty:typeOf (.builtin id)=pure (.type "method_descriptor"))(hm:MtR X id r)(ho:PE X o to)(ha:PA X (e::es) t)
 (hbase:attributeBase o name X.env (eval o X.env)=eval o X.env)
 (hfew:((backTo cpos (starEach (e::es) X.env)).all (λx=>!x.1)&&(backToKw cpos (keywordEach [] X.env)).all (λx=>x.1.isSome)
  && decide ((e::es).length+([]:List Keyword).length+(if([]:List Keyword).isEmpty then 0 else 1)<30))=true)
 (hline:(apos.endLine==cpos.line)=true) (hs:starEach (e::es) X.env=(false,eval e X.env)::starEach es X.env) (hplain:(backTo cpos (starEach es X.env)).any (·.1)=false):
 PE X (.Call (.Attribute o name apos) (e::es) [] cpos) (tMD X T r to t):=by
 intro pins s σ H Q I h
 refine wpAny_Call_method_late hbase hfew hline rfl (thn (ho pins s σ H _ I h) λv s1 ⟨x,H1,I1,r1,ty,q1⟩=>?_)
 obtain⟨h1,h2⟩:=ty _ _ _ _ I1 r1
 refine⟨T,id,pa,slot,hty,h1,h2, ?_⟩
 have hA:=ha cpos pins s1 σ H1 _ I1 q1
 rw[hs]at hA ⊢
 refine Calls.callWith_builtin (by show(false||(backTo cpos (starEach es X.env)).any (·.1))=false;rw[hplain]<;>rfl) (Calls.evalArgs_plain ?_)
 exact thn hA λus s2 ⟨vs,H2,I2,r2,q2⟩=>hm pins s2 σ H2 x vs v us Q I2 r1 r2 q2
def MtD(X:Cx)(kd:KD)(id:String)(g:D->List D->Option R0):Prop:=
 MtR X id (λx xs H Q=>∃O d ds r,(∀a,O a->H a≠none)/\Vw X.K kd O H x d/\VwL X.K kd O H xs ds/\g d ds=some r/\RQ X.K kd O H Q r)
theorem zxB(hk:KdOk X kd){O:Addr->Prop}{H:Hp}{x:V}{d:D}{ty:Ty}(h:Vw X.K kd O H x d)(e:ztq ty d=true):tyS X ty.nm x H:=by
 intro pins σ s v I rx
 cases h with
 |str z=>
  obtain⟨t,rfl⟩:=rx
  cases ty<;>first|(cases e;done)|exact⟨typeIs_str s z t,λ_ e=>nomatch e⟩
 |int z=>
  obtain⟨t,rfl⟩:=rx
  cases ty<;>first|(cases e;done)|exact⟨typeIs_int s z t,λ_ e=>nomatch e⟩
 |lst hr rl=>
  cases rx
  obtain⟨its,_,pl,_⟩:=I.list hr.sq
  cases ty<;>first|(cases e;done)|skip
  refine⟨pl.isList.typeIs,λa e=>?_⟩
  cases e
  obtain⟨o,n,e,c,hd,_⟩:=pl
  exact⟨o,e,hd⟩
 |dct hr rm=>
  cases rx
  obtain⟨z,hd,vs,rel,dd⟩:=zhn I hk hr
  cases ty<;>first|(cases e;done)|skip
  refine⟨dd.typeIs,λb q=>?_⟩
  cases q
  obtain⟨ob,_,_,h1,h2,_⟩:=dd
  exact⟨ob,h1,h2.2.1⟩
 |non=>cases ty<;>cases e
 |bl=>cases ty<;>cases e
 |tup=>cases ty<;>cases e
 |cl=>cases ty<;>cases e
 |ob=>cases ty<;>cases e
def ziI(ty:Ty)(fa:EF)(fr:AF)(g:D->List D->Option R0):EF:=λas=>(fa as).bind λp=>(p.1.frz.view p.2).bind λw=>if ztq ty w.1=true then(fr p.2).bind λq=>(p.1.frz.view q.2).bind λx=>(views q.2 q.1).bind λy=>(g x.1 y.1).bind λr=>(wrap (meet x.2 y.2) r).bind λz=>some (z,q.2)else none
theorem zvM(hk:KdOk X kd)(h:al X.K kd (ziI ty fa fr g) σ H Q):
 tMD X ty.nm (λx xs H Q=>∃O d ds r,(∀a,O a->H a≠none)/\Vw X.K kd O H x d/\VwL X.K kd O H xs ds/\g d ds=some r/\RQ X.K kd O H Q r) (al X.K kd fa) (alA X.K kd fr) σ H Q:=by
 obtain⟨F,B,ad,as,r,as',R,e,q⟩:=h
 obtain⟨⟨p,as1⟩,h1,e⟩:=bS_ (show(fa as).bind _=_ from e)
 obtain⟨⟨d0,l0⟩,h0,e⟩:=bS_ e
 obtain⟨hty,e⟩:=ite_some' e
 obtain⟨⟨ps,as2⟩,h2,e⟩:=bS_ e
 obtain⟨⟨d,lv⟩,h3,e⟩:=bS_ e
 obtain⟨⟨ds,lv2⟩,h4,e⟩:=bS_ e
 obtain⟨r0,h5,e⟩:=bS_ e
 obtain⟨z,h6,e⟩:=bS_ e
 cases e
 refine YD R h1 λv ad1 H1 R1 rv1 g1=>⟨zxB hk (vZ.vw R1 rv1 h0) hty,F,B,ad1,as1,ps,_,R1,h2,λvs ad2 H2 R2 rv2 g2=>?_⟩
 exact⟨_,d,ds,r0,R2.tr _,(vZ.vw R2 (rv1.grow g2) h3).less Obl.meet1,(zcs R2 rv2 h4).less Obl.meet2,h5,Y0 R2 h6 λw T' H' R' rv' g'=>q w T' ad2 H' R' rv' ((g1.trans g2).trans g')⟩
theorem ztx(hk:KdOk X kd)(hm:MtD X kd id g)(pa:PlainAttrs ty.nm)(slot:Slot ty.nm name id)(hty:typeOf (.builtin id)=pure (.type "method_descriptor"))(ho:AE X kd a fa)(ha:AA X kd (e::es) fr)
 (hbase:attributeBase a name X.env (eval a X.env)=eval a X.env)
 (hfew:((backTo cpos (starEach (e::es) X.env)).all (λx=>!x.1)&&(backToKw cpos (keywordEach [] X.env)).all (λx=>x.1.isSome)
  && decide ((e::es).length+([]:List Keyword).length+(if([]:List Keyword).isEmpty then 0 else 1)<30))=true)
 (hline:(apos.endLine==cpos.line)=true) (hs:starEach (e::es) X.env=(false,eval e X.env)::starEach es X.env) (hplain:(backTo cpos (starEach es X.env)).any (·.1)=false):
 AE X kd (.Call (.Attribute a name apos) (e::es) [] cpos) (ziI ty fa fr g):=by with_unfolding_all exact(xr (zyj pa slot hty hm ho ha hbase hfew hline hs hplain) λσ H Q h=>zvM hk h)
end
section
variable{K:zD}{kd:KD}{F B G:Addr->Prop}{T:List Addr}{ad:Ad}{as:AS}{σ:St}{H H':Hp}
inductive RPs(K:zD)(kd:KD)(F B G:Addr->Prop)(H:Hp):List (V×V)->List (Key×O)->Prop
 |nil:RPs K kd F B G H [] []
 |cons {k:Key}{v:V}{o:O}{ps:List (V×V)}{kos:List (Key×O)}:RoS K kd F B G H v o []->RPs K kd F B G H ps kos->RPs K kd F B G H ((kV k,v)::ps) ((k,o)::kos)
end
abbrev Fn:=List (Bool×D)->Option O
section
variable{P:Program}{w:World}{K:zD}{mg:Str->Option Value}{base:Heap}{kd:KD}
theorem zdx:FnOk P w K mg base CX0 k f fd ps (spD K kd λ_=>none):=
 ⟨λvs H Q E h=>(by obtain⟨_,_,_,_,_,e,_⟩:=h;cases e),λA outer s H args us vs Q E _ _ _ _ h=>(by obtain⟨_,_,_,_,_,e,_⟩:=h;cases e)⟩
theorem zuw(hr:Room k A):A.units+100<cLine:=by have:=hr.un;omega
def KD1(P:Program)(w:World)(K:zD)(kd:KD):Prop:=∀X:Cx,X.prog=P->X.w=w->X.K=K->KdOk X kd
theorem zaW{O:Addr->Prop}{H:Hp}:∀ns:List Int,RpL K kd O H (ns.map V.int) (ns.map D.int)
 | []=>.nil
 |_::r=>.cons (.int _) (zaW r)
theorem zwI{H:Hp}{a:Addr}{ns:List Int}{g:Fn}{E:XK}(hg:g [(true,.lst (ns.map D.int))]=some (.lf true (.bl true)))(hS:RdL K H a (ns.map V.int)):spD K kd g [.ref a] H (λv _=>v = .bl true) E:=by
 refine⟨λ_=>False,[(true,.lst (ns.map D.int))],.lf true (.bl true),(λ_ z=>z.elim),.cons ?_ .nil,hg,λv T H' _ _ _ _ ro=>?_⟩
 · rcases hS with h|⟨its,n,k,z,r⟩
   · exact .lst (λz=>z.2) h (zaW ns)
   · exact .lstK k z r (zaW ns)
 · cases ro with
   |lf rp=>cases rp;rfl
end
namespace Bt
theorem len:bootBuiltins "len"=some (.builtin "len"):=by decide +kernel
theorem max:bootBuiltins "max"=some (.builtin "max"):=by decide +kernel
theorem abs:bootBuiltins "abs"=some (.builtin "abs"):=by decide +kernel
theorem sorted:bootBuiltins "sorted"=some (.builtin "sorted"):=by decide +kernel
theorem isinstance:bootBuiltins "isinstance"=some (.builtin "isinstance"):=by decide +kernel
theorem int:bootBuiltins "int"=some (.type "int"):=by decide +kernel
theorem bool:bootBuiltins "bool"=some (.type "bool"):=by decide +kernel
theorem list:bootBuiltins "list"=some (.type "list"):=by decide +kernel
theorem tuple:bootBuiltins "tuple"=some (.type "tuple"):=by decide +kernel
theorem dict:bootBuiltins "dict"=some (.type "dict"):=by decide +kernel
theorem n(x:Str)(h:(x==("__name__":Str))=false):x≠"__name__":=λe=>by subst e;simp at h
end Bt
def WD(f:EF)(as:AS)(st:Bool)(d:D):Prop:=f as=some (.ow (.lf st d),as)
def WT(f:TF)(as:AS)(b:Bool):Prop:=f as=some (b,as)
def WA(f:AF)(as:AS)(rs:List (Bool×D)):Prop:=f as=some (rs.map (λx=>.ow (.lf x.1 x.2)),as)
def WO(f:DF)(as:AS)(os:List O):Prop:=f as=some (os,as)
section
variable{as:AS}{f a b:EF}{s t:Bool}{x y z:D}{i j:Int}
theorem zb:WD (fC x) as true x:=rfl
theorem za{i:Nat}(h:as[i]? = some (some (.lf s x))):WD (fV i) as s x:=by unfold WD fV;rw[h]
theorem zuF(ha:WD a as s x)(hb:WD b as t y)(hg:g x y=some (.im z)):WD (f2 a b g) as (yd z||(s&&t)) z:=by
 unfold WD f2 at *
 rw[ha];show((b as).bind _)=_
 rw[hb];show((g x y).bind _)=_
 rw[hg]
 show(if(yd z||(meet (some s) (some t)).isSome)=true then _ else _:Option RV).bind _=_
 rw[if_pos (by unfold meet;simp)]
 rfl
theorem zyc(ha:a as=some (.ow oa,as))(hb:b as=some (.ow ob,as))(hg:g oa.toD ob.toD=some (.im z)):WD (f2 a b g) as (yd z||(oa.str&&ob.str)) z:=by
 unfold WD f2 at *
 rw[ha];show((b as).bind _)=_
 rw[hb];show((g oa.toD ob.toD).bind _)=_
 rw[hg]
 show(if(yd z||(meet (some oa.str) (some ob.str)).isSome)=true then _ else _:Option RV).bind _=_
 rw[if_pos (by unfold meet;simp)]
 rfl
theorem zV(ha:WD a as s x)(hb:WD b as t y)(hg:g x y=some (.im z))(e:yd z=true):WD (f2 a b g) as true z:=by
 have:=zuF ha hb hg;rw[e]at this;exact this
theorem yC(ha:WD a as s (.int i))(hb:WD b as t (.int j)):WD (f2 a b (V3 .Add)) as true (.int (i+j)):=zV ha hb rfl rfl
theorem zdd(ha:WD a as s (.int i))(hb:WD b as t (.int j)):WD (f2 a b (V3 .Sub)) as true (.int (i-j)):=zV ha hb rfl rfl
theorem zch(ha:WD a as s (.int i))(hb:WD b as t (.int j))(h:j.natAbs<2 ^ 64):WD (f2 a b (V3 .Mult)) as true (.int (i*j)):=zV ha hb (by show(if _ then _ else _)=_;rw[if_pos (.inr h)]) rfl
theorem Xj(ha:WD a as s (.int i))(hb:WD b as t (.int j))(h1:i.natAbs<big)(h2:j.natAbs<big):WD (f2 a b (V3 .Mult)) as true (.int (i*j)):=zV ha hb (by show(if _ then _ else _)=_;rw[if_pos (.inl ⟨h1,h2⟩)]) rfl
theorem X7(ha:WD a as s (.int i))(hb:WD b as t (.int j))(h1:0<j)(h2:j.natAbs<big):WD (f2 a b (V3 .FloorDiv)) as true (.int (i/j)):=zV ha hb (by show(if _ then _ else _)=_;rw[if_pos ⟨h1,h2⟩]) rfl
theorem yF(ha:WD a as s (.int i))(hb:WD b as t (.int j))(h1:0<j):WD (f2 a b (V3 .Mod)) as true (.int (i%j)):=zV ha hb (by show(if _ then _ else _)=_;rw[if_pos h1]) rfl
theorem YJ(ha:WD a as s x)(hb:WD b as t y)(h:eqF 60 x y=some c):WD (f2 a b (zK .Eq)) as true (.bl c):=zV ha hb (by show(eqF 60 x y).bind _=_;rw[h];rfl) rfl
theorem zjm(ha:WD a as s x)(hb:WD b as t y)(h:eqF 60 x y=some c):WD (f2 a b (zK .NotEq)) as true (.bl (!c)):=zV ha hb (by show(eqF 60 x y).bind _=_;rw[h];rfl) rfl
theorem zmt(ha:WD a as s (.int i))(hb:WD b as t (.int j)):WD (f2 a b (zK .Lt)) as true (.bl (decide (i<j))):=zV ha hb rfl rfl
theorem zuJ(ha:WD a as s (.int i))(hb:WD b as t (.int j)):WD (f2 a b (zK .Gt)) as true (.bl (decide (j<i))):=zV ha hb rfl rfl
theorem zxy(ha:WD a as s (.int i))(hb:WD b as t (.int j)):WD (f2 a b (zK .GtE)) as true (.bl (decide (j<=i))):=zV ha hb rfl rfl
theorem zqf(ha:WD a as s (.int i)):WD (f1 a zfZ) as true (.int (-i)):=by
 unfold WD f1 at *
 rw[ha]
 rfl
theorem yp(h:WD f as s x)(e:truth x=some c):WT (fT f) as c:=by
 unfold WT fT;unfold WD at h
 rw[h];show((truth x).bind _)=_
 rw[e];rfl
theorem zbj(h:WT c as k):WT (Xf c) as (!k):=by unfold WT Xf at *;rw[h];rfl
theorem znc(h:WT c as k)(h2:k=true->WT e as l)(h3:k=false->l=false):WT (zdU c e) as l:=by
 unfold WT zdU at *;rw[h]
 cases k with
 |true=>exact h2 rfl
 |false=>rw[h3 rfl];rfl
theorem zcM(h:WT c as k)(h2:k=false->WT e as l)(h3:k=true->l=true):WT (WF c e) as l:=by
 unfold WT WF at *;rw[h]
 cases k with
 |false=>exact h2 rfl
 |true=>rw[h3 rfl];rfl
theorem zwu(h:WT c as true)(ha:WD a as s x):WD (fIf c a b) as s x:=by unfold WD fIf;unfold WT at h;rw[h];exact ha
theorem zvR(h:WT c as false)(hb:WD b as s x):WD (fIf c a b) as s x:=by unfold WD fIf;unfold WT at h;rw[h];exact hb
theorem zrj(h:WD a as s (.bl k))(h2:k=true->WD b as true (.bl l))(h3:k=false->l=false):WD (zpI a b) as true (.bl l):=by
 unfold WD zpI at *;rw[h]
 cases k with
 |true=>exact h2 rfl
 |false=>rw[h3 rfl];rfl
theorem zY:WA aN as []:=rfl
theorem zM(ha:WD a as s x)(hr:WA fr as rs):WA (aC a fr) as ((s,x)::rs):=by
 unfold WA aC at *;unfold WD at ha
 rw[ha];show((fr as).bind _)=_
 rw[hr];rfl
theorem zck:∀rs:List (Bool×D),Vi as (rs.map (λx=>.ow (.lf x.1 x.2)))=some (rs.map λx=>(yd x.2||x.1,x.2))
 | []=>rfl
 |r::rs=>by
  show(zqL as (.ow (.lf r.1 r.2))).bind _=_
  show(Vi as (rs.map _)).bind _=_
  rw[zck rs];rfl
theorem V4:∀rs:List (Bool×D),views as (rs.map (λx=>.ow (.lf x.1 x.2)))=some (rs.map (·.2),some (rs.all (·.1)))
 | []=>rfl
 |r::rs=>by
  show(views as (rs.map _)).bind _=_
  rw[V4 rs];rfl
theorem zbY(ha:WA fr as rs)(hg:g (rs.map λx=>(yd x.2||x.1,x.2))=some (.lf s x)):WD (zj fr g) as s x:=by
 unfold WD zj;unfold WA at ha
 rw[ha];show(Vi as _).bind _=_
 rw[zck];show(g _).bind _=_
 rw[hg];rfl
theorem XF(ha:WA fr as rs)(hg:g (rs.map λx=>(yd x.2||x.1,x.2))=some o):zj fr g as=some (.ow o,as):=by
 unfold zj;unfold WA at ha
 rw[ha];show(Vi as _).bind _=_
 rw[zck];show(g _).bind _=_
 rw[hg];rfl
theorem znP(ha:WA fr as rs)(hg:g (rs.map (·.2))=some (.im x)):WD (fP fr g) as (yd x||rs.all (·.1)) x:=by
 unfold WD fP;unfold WA at ha
 rw[ha];show(views as _).bind _=_
 rw[V4];show(g _).bind _=_
 rw[hg]
 show(if(yd x||(some (rs.all (·.1))).isSome)=true then _ else _:Option RV).bind _=_
 rw[if_pos (by simp)];rfl
theorem xM(ha:WA fr as rs)(hg:g (rs.map (·.2))=some (.im x))(e:yd x=true):WD (fP fr g) as true x:=by
 have:=znP ha hg;rw[e]at this;exact this
theorem yV:WO dN as []:=rfl
theorem yq{fr:DF}{os:List O}(ha:WD a as s x)(hr:WO fr as os):WO (dC a fr) as (.lf s x::os):=by
 unfold WO dC at *;unfold WD at ha
 rw[ha];show((fr as).bind _)=_
 rw[hr];rfl
theorem V7{fr:DF}{os:List O}(h:WO fr as os)(hl:os.length<=sizeLine):vo fr as=some (.ow (.nd .ls os),as):=by
 unfold vo;unfold WO at h
 rw[h];show(if os.length<=sizeLine then _ else _)=_
 rw[if_pos hl]
theorem yw{f g:SF}{as1:AS}{o:Option Out}(h1:f as=some (.nx as1))(h2:g as1=o):zH f g as=o:=by unfold zH;rw[h1];exact h2
theorem zap{f g:SF}{o:O}(h1:f as=some (.rt o)):zH f g as=some (.rt o):=by unfold zH;rw[h1];rfl
theorem Yd{c:TF}{f g:SF}{o:Option Out}(h:WT c as true)(h1:f as=o):sIf c f g as=o:=by unfold sIf;unfold WT at h;rw[h];exact h1
theorem zL{c:TF}{f g:SF}{o:Option Out}(h:WT c as false)(h1:g as=o):sIf c f g as=o:=by unfold sIf;unfold WT at h;rw[h];exact h1
theorem yL{i:Nat}{st:Bool}(h:WD f as s x)(hi:i<as.length):zQ st i f as=some (.nx (as.set i (some (.lf s x)))):=by
 unfold zQ;unfold WD at h
 rw[h]
 cases st<;>exact if_pos hi
theorem ZX{i:Nat}{o:O}(h:f as=some (.ow o,as))(hi:i<as.length):zQ false i f as=some (.nx (as.set i (some o))):=by
 unfold zQ
 rw[h]
 exact if_pos hi
theorem zuf{i:Nat}{o:O}(h:f as=some (.ow o,as))(hi:i<as.length):zQ true i f as=some (.nx (as.set i (some o.frz))):=by
 unfold zQ
 rw[h]
 exact if_pos hi
theorem Vd(h:WD f as true x):zT f as=some (.rt (.lf true x)):=by unfold zT;unfold WD at h;rw[h];rfl
theorem Va(hl:ds.length=m)(h:c (Wy n ds)=some (.rt o)):fnR n m c ds=some o:=by unfold fnR;rw[if_pos hl,h];rfl
theorem Ze{g:GF}{f:SF}(I:Nat->AS->Prop):∀(xs:List It1) (k:Nat) (as:AS),(∀i x as,xs[i]? = some x->I (k+i) as->∃as1,g x as=some as1/\∃as2,f as1=some (.nx as2)/\I (k+i+1) as2)->I k as->∃as',forL g f xs as=some (.nx as')/\I (k+xs.length) as'
 | [],k,as,_,h=>⟨as,rfl,h⟩
 |x::r,k,as,st,h=>by
  obtain⟨as1,h1,as2,h2,h3⟩:=st 0 x as rfl h
  obtain⟨as',h4,h5⟩:=Ze I r (k+1) as2 (λi y as e q=>by
   obtain⟨u,k1,v,k2,k3⟩:=st (i+1) y as e (by rw[show k+(i+1)=k+1+i by omega];exact q)
   exact⟨u,k1,v,k2,by rw[show k+1+i+1=k+(i+1)+1 by omega];exact k3⟩) h3
  refine⟨as', ?_,by rw[zzR,show k+(r.length+1)=k+1+r.length by omega];exact h5⟩
  show(g x as).bind _=_
  rw[h1];show(f as1).bind _=_
  rw[h2];exact h4
theorem Yc{fi:IF}{g:GF}{f:SF}{xs:List It1}{as':AS}{o:Option Out}(h:fi as=some (xs,as'))(h2:forL g f xs as'=o):vI fi g f as=o:=by unfold vI;rw[h];exact h2
theorem Yr{lo:Int}{n i:Nat}{x:It1}(h:(wR lo n)[i]? = some x):x=(true,.int (lo+i))/\i<n:=by
 unfold wR at h
 rw[zzG]at h
 cases e:(List.range n)[i]? with
 |none=>rw[e]at h;cases h
 |some k=>
  rw[e]at h
  obtain⟨h1,h2⟩:=zzE.mp e
  rw[QzS]at h1
  rw[List.getElem_range]at h2
  subst h2
  exact⟨(zzX h).symm,h1⟩
theorem vq(h:WA fr as [(u,.int j)])(h0:0<=j)(h1:j<1000000):xU fr xW as=some (wR 0 j.toNat,as):=by
 unfold xU;unfold WA at h
 rw[h]
 simp only[QzJ,V4]
 show((if -(2 ^ 62)<=j/\j<2 ^ 62 then some (wR 0 j.toNat)else none).bind _)=_
 rw[if_pos ⟨by omega,by omega⟩];rfl
theorem zqE(ha:a as=some (.ow o,as))(hr:WA fr as rs):WA (aC a fr) as ((o.str,o.toD)::rs):=by
 unfold WA aC at *
 rw[ha];show((fr as).bind _)=_
 rw[hr];rfl
theorem zkR{i:Nat}{o:O}(h:as[i]? = some (some o)):RV.view as (.bo i)=some (o.toD,o.kl):=by simp only[RV.view,h]
theorem zqp{i:Nat}{o:O}(h:as[i]? = some (some o)):toO as (.bo i)=some (o.frz,as.set i (some o.frz)):=by simp only[toO,h]
theorem zsM{i:Nat}{o:O}(h:as[i]? = some (some o))(hs:o.str=true):zrd as (.bo i)=some o:=by simp only[zrd,h,hs,if_true]
theorem zjk{i:Nat}{k:Kind}{os:List O}(h:as[i]? = some (some (.nd k os))):fV i as=some (.bo i,as):=by unfold fV;rw[h]
theorem zyM{i:Nat}{os:List O}(h:as[i]? = some (some (.nd .ls os))):WD (fP (aC (fV i) aN) vK) as true (.int os.length):=by
 have e:views as [.bo i]=some ([.lst (O.toDs os)],meet (O.nd .ls os).kl (some true)):=by
  show(RV.view as (.bo i)).bind _=_
  rw[zkR h];rfl
 unfold WD fP aC
 rw[zjk h]
 simp only[QzJ,aN,RV.frz,e]
 rw[show vK [.lst (O.toDs os)]=some (.im (.int os.length)) by show some (R0.im (.int ((O.toDs os).length:Nat)))=_;rw[zfB]]
 rfl
theorem zur{i:Nat}{os:List O}(h:as[i]? = some (some (.nd .ls os))):zeQ (fV i) as=some (kids (O.strs os) (O.toDs os),as.set i (some (.lf (O.strs os) (.lst (O.toDs os))))):=by
 unfold zeQ;rw[zjk h];show(zbr as (.bo i)).bind _=_
 have e:zbr as (.bo i)=some ((O.strs os,.lst (O.toDs os)),as.set i (some (.lf (O.strs os) (.lst (O.toDs os))))):=by
  unfold zbr;show((toO as (.bo i)).bind _)=_
  rw[zqp h];rfl
 rw[e];rfl
theorem XS{g:GF}{f:SF}{d:It1}{r:List It1}{as1 as2:AS}{o:Option Out}(h1:g d as=some as1)(h2:f as1=some (.nx as2))(h3:forL g f r as2=o):forL g f (d::r) as=o:=by
 show(g d as).bind _=_
 rw[h1];show(f as1).bind _=_
 rw[h2];exact h3
theorem zrv{g:GF}{f:SF}{d:It1}{r:List It1}{as1:AS}{o:O}(h1:g d as=some as1)(h2:f as1=some (.rt o)):forL g f (d::r) as=some (.rt o):=by
 show(g d as).bind _=_
 rw[h1];show(f as1).bind _=_
 rw[h2];rfl
theorem zkz{i:Nat}{os:List O}(h:as[i]? = some (some (.nd .ls os)))(hl:os.length<sizeLine)(ha:WD a as s x):wQ (Zm i (dC a dN) Za) as=some (.nx (as.set i (some (.nd .ls (os++[.lf s x]))))):=by
 unfold wQ Zm;rw[h]
 have e:dC a dN as=some ([.lf s x],as):=yq ha yV
 show((dC a dN as).bind _).bind _=_
 rw[e];show(Option.bind (match as[i]? with|some (some (.nd .ls os))=>_|_=>none) _)=_
 rw[h];show((Za os [.lf s x]).bind _).bind _=_
 have e2:Za os [.lf s x]=some (os++[.lf s x],.lf true .non):=by unfold Za;exact if_pos hl
 rw[e2];rfl
theorem zqC{i:Nat}{os:List O}{k:Int}{o:O}(h:as[i]? = some (some (.nd .ls os)))(ha:WD a as s (.int k))(h0:0<=k)(h1:k<os.length)(hs:os.length<2 ^ 60)(ho:os[k.toNat]? = some o):Zm i (dC a dN) zbc as=some (.ow o,as.set i (some (.nd .ls (os.eraseIdx k.toNat)))):=by
 unfold Zm;rw[h]
 have e:dC a dN as=some ([.lf s (.int k)],as):=yq ha yV
 show((dC a dN as).bind _)=_
 rw[e];show(match as[i]? with|some (some (.nd .ls os))=>_|_=>none)=_
 rw[h];show((zbc os [.lf s (.int k)]).bind _)=_
 have e2:zbc os [.lf s (.int k)]=some (os.eraseIdx k.toNat,o):=by
  unfold zbc
  show(if -(2 ^ 63)<=k/\k<2 ^ 63 then _ else _)=_
  rw[if_pos ⟨by omega,by omega⟩]
  have e3:seqIndex? k os.length=some k.toNat:=by unfold seqIndex?;simp;omega
  rw[e3];show((os[k.toNat]?).bind _)=_
  rw[ho];rfl
 rw[e2];rfl
theorem zwY(h:f as=some (.ow o,as))(hg:g (o.str,o.toD) as=some as'):zmq f g as=some (.nx as'):=by
 unfold zmq;rw[h]
 show(g (o.str,o.toD) as).bind _=_
 rw[hg];rfl
theorem zcq{i:Nat}{o:O}(h:as[i]? = some (some o))(hs:o.str=true):zT (fV i) as=some (.rt o):=by
 cases o with
 |lf st d=>unfold zT fV;rw[h];have:st=true:=hs;subst this;rfl
 |nd k os=>
  unfold zT;rw[zjk h];show(zrd as (.bo i)).bind _=_
  rw[zsM h hs];rfl
theorem zvF{fr:DF}{os:List O}(h:WO fr as os)(hl:os.length<=sizeLine)(ha:os.all O.isLf=true):WD (xm fr) as (O.strs os) (.tup (O.toDs os)):=by
 unfold WD xm;unfold WO at h
 rw[h];show(if os.length<=sizeLine then some (RV.ow (Wx os),as)else _)=_
 rw[if_pos hl];unfold Wx;rw[if_pos ha]
theorem zwF(ha:a as=some (.ow oa,as1))(hb:b as1=some (.ow ob,as2))(hg:g oa.toD ob.toD=some (.fl zs)):f2 a b g as=some (.ow (.nd .ls (zs.map (lfs (oa.str&&ob.str)))),as2):=by
 unfold f2
 rw[ha];show((b as1).bind _)=_
 rw[hb];show((g oa.toD ob.toD).bind _)=_
 rw[hg]
 show(if(zs.all yd||(meet (some oa.str) (some ob.str)).isSome)=true then _ else _:Option RV).bind _=_
 rw[if_pos (by unfold meet;simp)]
 rfl
theorem wL(ha:WD a as true x)(hb:WD b as true y)(hg:g x y=some (.im z)):WD (f2 a b g) as true z:=by
 have:=zuF ha hb hg
 rw[show(yd z||(true&&true))=true by simp]at this
 exact this
theorem zdz:∀zs:List D,zs.map (lfs true)=zs.map (O.lf true)
 | []=>rfl
 |z::r=>by
  show lfs true z::r.map (lfs true)=_
  rw[zdz r];unfold lfs;rw[QzB];rfl
theorem ztP(ha:a as=some (.ow oa,as1))(hb:b as1=some (.ow ob,as2))(hg:g oa.toD ob.toD=some (.fl zs))(h1:oa.str=true)(h2:ob.str=true):f2 a b g as=some (.ow (.nd .ls (zs.map (O.lf true))),as2):=by
 have:=zwF ha hb hg
 rw[h1,h2,show(true&&true)=true from rfl,zdz]at this
 exact this
theorem VP{fr:DF}{o:O}{os:List O}{as1 as2:AS}(ha:a as=some (.ow o,as1))(hr:fr as1=some (os,as2)):dC a fr as=some (o::os,as2):=by
 unfold dC
 rw[ha];show((fr as1).bind _)=_
 rw[hr];rfl
theorem add_lists(h:xs.length+ys.length<=sizeLine):V3 .Add (.lst xs) (.lst ys)=some (.fl (xs++ys)):=if_pos h
theorem ziF(lo:Int)(n:Nat):wR lo (n+1)=(true,.int lo)::wR (lo+1) n:=by
 unfold wR
 rw[List.range_succ_eq_map,QzQ,zzZ]
 congr 1
 · simp
 · apply List.map_congr_left
   intro i _
   show(true,D.int _)=(true,D.int _)
   congr 2
   show lo+((i+1:Nat):Int)=_
   omega
theorem zra(ha:WA fr as rs)(hg:g (rs.map (·.2))=some (.im x))(e:rs.all (·.1)=true):WD (fP fr g) as true x:=by
 have:=znP ha hg;rw[e,QzB]at this;exact this
theorem zsO(ha:WD a as s y)(ht:ztq ty y=true)(hr:WA fr as rs)(hg:g y (rs.map (·.2))=some (.im x))(e:yd x=true):WD (ziI ty a fr g) as true x:=by
 unfold WD ziI;unfold WD at ha;unfold WA at hr
 rw[ha]
 show(if ztq ty y=true then _ else _:Option (RV×AS))=_
 rw[if_pos ht,hr]
 simp only[QzJ,V4]
 show((g y (rs.map (·.2))).bind _)=_
 rw[hg]
 show(if(yd x||_)=true then _ else _:Option RV).bind _=_
 rw[if_pos (by rw[e];rfl)]
 show some (RV.ow (.lf (yd x||_) x),as)=_
 rw[e];rfl
theorem zqQ{fl fh:OF}{lo hi:Option Int}{g:D->Option Int->Option Int->Option R0}(ha:WD a as s y)(hl:fl as=some (lo,as))(hh:fh as=some (hi,as))(hg:g y lo hi=some (.im x)):WD (fSl a fl fh g) as (yd x||s) x:=by
 unfold WD fSl;unfold WD at ha
 rw[ha];show((fl as).bind _)=_
 rw[hl];show((fh as).bind _)=_
 rw[hh];show((g y lo hi).bind _)=_
 rw[hg]
 show(if(yd x||(some s).isSome)=true then _ else _:Option RV).bind _=_
 rw[if_pos (by simp)];rfl
theorem zuq{fi:IF}{cap:List (Option Nat)}{g:GF}{tt:TF}{fe:EF}{xs:List It1}{os:List O}(h1:fi as=some (xs,as))(hl:xs.length<=sizeLine)(h2:Zt g tt fe (zcw cap as) xs=some os):wG fi cap g tt fe as=some (.ow (.nd .ls os),as):=by
 unfold wG
 rw[h1];show(if xs.length<=sizeLine then _ else _)=_
 rw[if_pos hl];show(Zt g tt fe (zcw cap as) xs).bind _=_
 rw[h2];rfl
end
theorem szl(h:Nat.ble n 1000=true):n<=sizeLine:=Nat.le_of_lt (zct (Nat.le_of_ble_eq_true h))
theorem zF(h:Nat.ble (a+1) b=true):a<b:=Nat.le_of_ble_eq_true h
theorem yW(h0 : -(10 ^ 200)<i)(h1:i<10 ^ 200):i.natAbs<big:=by
 have:(10:Nat) ^ 200<big:=by unfold big;decide +kernel
 have e:((10 ^ 200:Nat):Int)=(10:Int) ^ 200:=by norm_cast
 have:(i.natAbs:Int)<((10 ^ 200:Nat):Int):=by rw[e];omega
 omega
theorem zta{ns:List Int}{k:Int}(h0:0<=k)(h1:k<ns.length):∃x,ixP (.lst (ns.map D.int)) (.int k)=some (.im (.int x)):=by
 have hk:k.toNat<ns.length:=by omega
 refine⟨ns[k.toNat], ?_⟩
 have h:=zcc (xs:=ns.map D.int) (j:=k.toNat) (v:=D.int ns[k.toNat]) (by rw[zzG,zzC hk];rfl)
 rw[show((k.toNat:Nat):Int)=k by omega]at h
 show imR (atI _ _)=_
 rw[h];rfl
section
variable{X:Cx}{kd:KD}{K:zD}{mg:Str->Option Value}
def spL(K:zD)(g:Fn):Sp:=λvs H Q E=>∀kd:KD,spD K kd g vs H Q E
end
inductive Ents(w:World):List DictEntry->List (Key×V)->Prop
 |nil:Ents w [] []
 |str {x:Str}{t:Tok}{v:V}{u:Value}{r:List DictEntry}{s:List (Key×V)}:RelV v u->Ents w r s->Ents w (⟨PyData.keyHash w.params x,.str x t,u⟩::r) ((.inr x,v)::s)
theorem Ents.keys:∀{es:List DictEntry}{kvs:List (Key×V)},Ents w es kvs->∀e ∈ es,∃k,(v9 P w).is k e.key=true/\e.hash=(v9 P w).hash k
 |_,_,.nil,_,m=>nomatch m
 |_,_,.str (x:=x) (t:=t) _ r,e,m=>by
  rcases zzA.mp m with rfl|m
  · exact⟨.inr x,zbB P w x t,rfl⟩
  · exact r.keys e m
theorem Ents.pairs:∀{es:List DictEntry}{kvs:List (Key×V)},Ents w es kvs->∃vs,KV kvs vs/\Pairs (v9 P w) es vs/\vs.map (·.1)=kvs.map (·.1)
 |_,_,.nil=>⟨[],.nil,.nil,rfl⟩
 |_,_,.str (x:=x) (t:=t) (u:=u) h r=>by
  obtain⟨vs,h1,h2,h3⟩:=r.pairs (P:=P)
  exact⟨(.inr x,u)::vs,.cons ⟨rfl,h⟩ h1,.cons (zbB P w x t) rfl h2,by rw[QzQ,QzQ,h3]⟩
structure DctAt(w:World)(K:zD)(a:Addr)(kvs:List (Key×V)):Prop where
 ex:∃es ep,K.lookup a=some {cls:=.type "dict",data:=.dict es ep}/\Ents w es.toList kvs
 nd:(kvs.map (·.1)).Nodup
 le:kvs.length<=sizeLine
 ns:(a==sysModules)=false
def kdL(l:List (Addr×List (Key×V)))(c:Str->Addr:=λ_=>0):KD:=⟨λa k=>l.lookup a=some k,c⟩
theorem lookup_mem{l:List (Addr×List (Key×V))}{a:Addr}{k:List (Key×V)}(h:l.lookup a=some k):(a,k) ∈ l:=by
 induction l with
 |nil=>cases h
 |cons p r ih=>
  rw[List.lookup_cons]at h
  by_cases e:a=p.1
  · subst e
    rw[beq_self_eq_true]at h
    cases h
    exact zzD
  · rw[show(a==p.1)=false from beq_eq_false_iff_ne.mpr e]at h
    exact zzB _ (ih h)
theorem zvp{P:Program}{w:World}{K:zD}{l:List (Addr×List (Key×V))}{c:Str->Addr}(h:∀p ∈ l,DctAt w K p.1 p.2):KD1 P w K (kdL l c):=λX e1 e2 e3=>by
 subst e1;subst e2;subst e3
 refine⟨λa k k' h1 h2=>zzX (h1.symm.trans h2),λa k h1=>?_,λa k hp h1 hin=>?_⟩
 · obtain⟨es,ep,e,_⟩:=(h _ (lookup_mem h1)).ex
   exact⟨_,e⟩
 · have q:=h _ (lookup_mem h1)
   obtain⟨es,ep,e,en⟩:=q.ex
   obtain⟨vs,h2,h3,h4⟩:=en.pairs (P:=X.prog)
   refine⟨q.le,q.ns,vs,h2,_,es,ep,hin _ _ e,⟨rfl,rfl,rfl⟩,rfl,λx m=>en.keys x (by simpa using m),h3,by rw[h4];exact q.nd⟩
def isStar:Expr->Bool
 | .Starred .. => true
 |_=>false
theorem ziN(h:isStar a=false):starEach (a::es) env=(false,eval a env)::starEach es env:=by
 cases a<;>first|rfl|cases h
section
variable{as:AS}{f a b c:EF}{s t u:Bool}{x y z:D}{i j k:Int}
theorem zvY(h:WD f as s x)(ho:znq x=true:=by rfl):WD (zeU f cl) as true (.bl (zjw (tyD x) cl)):=by
 unfold WD zeU at *;rw[h];show(if znq x=true then _ else _)=_;rw[if_pos ho];rfl
theorem zjV(h:WD f as s x)(e:zjw (tyD x) cl=q)(ho:znq x=true:=by rfl):WD (zeU f cl) as true (.bl q):=by subst e;exact zvY h ho
theorem zeJ{fl fh:OF}{lo hi:Option Int}{g:D->Option Int->Option Int->Option R0}(ha:WD a as true y)(hl:fl as=some (lo,as))(hh:fh as=some (hi,as))(hg:g y lo hi=some (.im x)):WD (fSl a fl fh g) as true x:=by
 have:=zqQ ha hl hh hg;rw[QzB]at this;exact this
theorem znF(h:WD f as s (.bl q)):WD (zqs f) as true (.bl (!q)):=by
 unfold WD zqs at *;rw[h];rfl
theorem zpq(h1:g w as0=some as1)(h2:WT tt as1 false)(h3:Zt g tt fe as0 r=o):Zt g tt fe as0 (w::r)=o:=by
 unfold WT at h2
 show(g w as0).bind _=_
 rw[h1];show(tt as1).bind _=_
 rw[h2];exact h3
def WE(f:EF)(as:AS)(x:D):Prop:=∃o,f as=some (.ow o,as)/\o.str=true/\o.toD=x
def RE(r:Option O)(x:D):Prop:=∃o,r=some o/\o.str=true/\o.toD=x
theorem WD.e(h:WD f as true x):WE f as x:=⟨_,h,rfl,rfl⟩
theorem Zw{fr:DF}{os:List O}(h:WO fr as os)(hl:os.length<=sizeLine)(hs:O.strs os=true)(e:D.lst (O.toDs os)=x):WE (vo fr) as x:=⟨_,V7 h hl,hs,e⟩
theorem ZJ(h:WE a as x)(hr:WA fr as rs):WA (aC a fr) as ((true,x)::rs):=by
 obtain⟨o,h1,h2,rfl⟩:=h
 have:=zqE h1 hr
 rw[h2]at this
 exact this
theorem ZK(ha:WE a as x)(hg:RE (g [(true,x)]) z):WE (zj (aC a aN) g) as z:=by
 obtain⟨o,h1,h2,h3⟩:=hg
 exact⟨o,XF (ZJ ha zY) (by show g [(yd x||true,x)]=_;rw[QzB];exact h1),h2,h3⟩
theorem xY(ha:WE a as x)(hb:WE b as y)(hg:RE (g [(true,x),(true,y)]) z):WE (zj (aC a (aC b aN)) g) as z:=by
 obtain⟨o,h1,h2,h3⟩:=hg
 exact⟨o,XF (ZJ ha (ZJ hb zY)) (by show g [(yd x||true,x),(yd y||true,y)]=_;rw[QzB,QzB];exact h1),h2,h3⟩
theorem yN(ha:WE a as x)(hb:WE b as y)(hc:WE c as w)(hg:RE (g [(true,x),(true,y),(true,w)]) z):WE (zj (aC a (aC b (aC c aN))) g) as z:=by
 obtain⟨o,h1,h2,h3⟩:=hg
 exact⟨o,XF (ZJ ha (ZJ hb (ZJ hc zY))) (by show g [(yd x||true,x),(yd y||true,y),(yd w||true,w)]=_;rw[QzB,QzB,QzB];exact h1),h2,h3⟩
theorem f2E(ha:WE a as x)(hb:WE b as y)(hg:g x y=some (.im z)):WD (f2 a b g) as true z:=by
 obtain⟨o,h1,h2,rfl⟩:=ha
 obtain⟨p,h3,h4,rfl⟩:=hb
 have:=zyc h1 h3 hg
 rw[h2,h4,Bool.and_true,QzB]at this
 exact this
theorem f2L(ha:WE a as x)(hb:WE b as y)(hg:g x y=some (.fl zs)):f2 a b g as=some (.ow (.nd .ls (zs.map (O.lf true))),as):=by
 obtain⟨o,h1,h2,rfl⟩:=ha
 obtain⟨p,h3,h4,rfl⟩:=hb
 exact ztP h1 h3 hg h2 h4
theorem zjB:∀zs:List D,O.strs (zs.map (O.lf true))=true
 | []=>rfl
 |_::r=>zjB r
theorem zjL:∀zs:List D,O.toDs (zs.map (O.lf true))=zs
 | []=>rfl
 |z::r=>congrArg (z :: ·) (zjL r)
theorem zvx(ha:WE a as x)(hb:WE b as y)(hg:g x y=some (.fl zs)):WE (f2 a b g) as (.lst zs):=⟨_,f2L ha hb hg,zjB zs,congrArg D.lst (zjL zs)⟩
theorem Zb(h:WE f as x)(hi:p<as.length):zQ true p f as=some (.nx (as.set p (some (.lf true x)))):=by
 obtain⟨o,h1,h2,rfl⟩:=h
 have:=zuf h1 hi
 rw[show o.frz = .lf true o.toD by unfold O.frz;rw[h2]]at this
 exact this
theorem zwT(ha:WE a as x)(hg:g [x]=some (.im z)):WD (fP (aC a aN) g) as true z:=zra (ZJ ha zY) hg rfl
theorem zko{fr:DF}{o:O}{os:List O}(ha:a as=some (.ow o,as))(hr:WO fr as os):WO (dC a fr) as (o::os):=VP ha hr
theorem zhr{fr:DF}{os:List O}(h:WO fr as os)(hl:os.length<=sizeLine):xm fr as=some (.ow (Wx os),as):=by
 unfold xm;unfold WO at h
 rw[h];show(if os.length<=sizeLine then some (RV.ow (Wx os),as)else _)=_
 rw[if_pos hl]
theorem zoM{fl fh:OF}{lo hi:Option Int}{g:D->Option Int->Option Int->Option R0}{zs:List D}(ha:WE a as y)(hl:fl as=some (lo,as))(hh:fh as=some (hi,as))(hg:g y lo hi=some (.fl zs)):WE (fSl a fl fh g) as (.lst zs):=by
 obtain⟨o,h1,h2,rfl⟩:=ha
 refine⟨.nd .ls (zs.map (O.lf true)), ?_,zjB zs,congrArg D.lst (zjL zs)⟩
 unfold fSl
 rw[h1];show((fl as).bind _)=_
 rw[hl];show((fh as).bind _)=_
 rw[hh];show((g o.toD lo hi).bind _)=_
 rw[hg]
 show(if(zs.all yd||(some o.str).isSome)=true then some (RV.ow (.nd .ls (zs.map (lfs ((some o.str).getD false)))))else none:Option RV).bind _=_
 rw[if_pos (by simp),h2]
 show some (RV.ow (.nd .ls (zs.map (lfs true))),as)=_
 rw[zdz]
theorem zhU:slP (.lst (xs++ys)) (some (xs.length:Int)) none=some (.fl ys):=by
 show some (R0.fl (cutD (xs++ys) (some (xs.length:Int)) none))=_
 congr 2
 unfold cutD
 rw[HT.zoY,HT.zly,zzH,Nat.min_eq_left (by omega),List.drop_left,List.take_of_length_le (by omega)]
theorem zbl:∀ds:List D,kids true ds=ds.map λd=>(true,d)
 | []=>rfl
 |d::r=>by show(yd d||true,d)::kids true r=_;rw[zbl r,QzB];rfl
theorem zuH(h:WE f as (.lst ds)):zcu f as=some (ds.map λd=>(true,d),as):=by
 obtain⟨o,h1,h2,h3⟩:=h
 unfold zcu
 rw[h1];show(zjC (o.str,o.toD)).bind _=_
 rw[h2,h3];show some (kids true ds,as)=_
 rw[zbl]
theorem zxw(h:WD f as true (.lst ds)):zeQ f as=some (ds.map λd=>(true,d),as):=by
 unfold zeQ;unfold WD at h
 rw[h];show some (kids true ds,as)=_
 rw[zbl]
end
def zfs:List D->Option (List Str)
 | []=>some []
 | .str x::r=>(zfs r).bind λs=>some (x::s)
 |_::_=>none
theorem ztw{K:zD}{kd:KD}{O:Addr->Prop}{H:Hp}{vs:List V}{us:List Value}{ds:List D}{ns:List Str}(h:RpL K kd O H vs ds)(hv:Vals vs us)(e:zfs ds=some ns):StrsAre us ns:=
 RpL.ind (P:=λvs ds=>∀us ns,Vals vs us->zfs ds=some ns->StrsAre us ns) (λus ns hv e=>by cases e;cases hv;exact .nil) (λ{v d vs ds} a _ ih us ns hv e=>by
  cases hv with
  |cons b t=>
   cases a with
   |str x=>
    obtain⟨ys,h1,h2⟩:=bS_ (show(zfs _).bind _=_ from e)
    cases h2
    obtain⟨tk,rfl⟩:=b
    exact .cons _ _ (ih _ _ t h1)
   |_=>cases e) h us ns hv e
def zoy:D->List D->Option R0
 | .str sep,[.lst ds]=>(zfs ds).bind λys=>if(ys.map (·.length)).sum+ys.length*sep.length<=16777216 then some (.im (.str (Txt.join sep ys)))else none
 |_,_=>none
section
variable{X:Cx}{kd:KD}
theorem zsD:MtD X kd "str.join" zoy:=by
 intro pins s σ H x xs v us Q I rx r h
 obtain⟨O,d,ds,r0,ht,vx,vl,he,q⟩:=h
 unfold zoy at he
 split at he
 · rename_i sep es
   obtain⟨ys,h1,he⟩:=bS_ he
   obtain⟨hz,he⟩:=ye he
   cases he
   cases vx
   obtain⟨t,rfl⟩:=rx
   obtain⟨y,rfl,vy⟩:=zdV vl
   cases vy with
   |lst hr rl=>
    obtain⟨u,rfl,ru⟩:=vals1 r
    cases ru
    obtain⟨its,rv,pl,_⟩:=I.list hr.sq
    exact join_list pl.isList (ztw rl (by simpa using rv) h1) hz λt' k=>⟨.str _,H,I.tok _,⟨t',rfl⟩,yO q (.str _)⟩
 · cases he
def zyW:D->Option R0
 | .str x=>if x.length<=640 then(PySem.intText? x).bind λn=>some (.im (.int n))else none
 |d=>zzl d
def zaN:List D->Option R0:=on1 zyW
theorem Ww:CallD X kd (.type "int") zaN:=by
 intro pins s σ H xs us Q I r h
 obtain⟨O,ds,z,ht,vl,he,q⟩:=h
 obtain⟨x,d,rfl,vx,he⟩:=zeH vl he
 cases vx with
 |str y=>
  obtain⟨hl,he⟩:=ite_some' he
  obtain⟨n,hn,he⟩:=bS_ he
  cases he
  obtain⟨u,rfl,ru⟩:=vals1 r
  obtain⟨t,rfl⟩:=ru
  exact PySem.W.KIN.call_text hn hl ⟨.int _,H,I.tok _,⟨_,rfl⟩,yO q (.int _)⟩
 |int i=>cases he;exact ziT pins s σ H _ us Q I r (.inl ⟨_,rfl,yO q (.int _)⟩)
 |bl b=>cases he;exact ziT pins s σ H _ us Q I r (.inr ⟨_,rfl,yO q (.int _)⟩)
 |_=>cases he
end
section
variable{X:Cx}{pins:List (Addr×Obj)}{σ:List (Option V)}{H:Hp}{s:Shared}{h':Heap}
theorem zkH{t':Nat}{ch:List Addr}{T:Addr}{o:HO}(I:Inv X pins σ H s)(hf:∀b ∈ ch,zgk X pins H b)(k:∀b u,b ∉ ch->s.heap.get? b=some u->h'.get? b=some u)(hp:s.heap.objs.size<=T)
 (new:Zj X.prog X.w (upd H T o) h' T o):Inv X pins σ (upd H T o) {s with heap:=h',toks:=t'}:=by
 have hn:H T=none:=I.hok.fresh hp
 have nT:∀b u,s.heap.get? b=some u->b≠T:=λb u e z=>absurd (zzI (QyG e) (by rw[z];exact hp)) (Nat.lt_irrefl _)
 have nc:∀b u,H b=some u->b ∉ ch:=λb u e z=>by have:=(hf b z).1;rw[e]at this;cases this
 refine I.step (g':=s.gens) (d':=s.drawn) (ch:=ch) (λb hb=>?_) (λb o _ _ hc e _=>k b o hc e) (λb o _ _ hc e _=>⟨o.slots,k b o hc e⟩) (λb o _ e n=>by rw[yg (nT b o e)];exact n)
  (λb o hc e=>⟨o,k b o hc e⟩) (λb xs e=>by rw[yg (yI e hn)];exact e) (λb o u e=>by rw[yg (yI e hn)];exact e) (λb ps e=>⟨#[],by rw[yg (yI e hn),e];simp⟩) (λm hm=>?_) (λb u e=>?_) I.bare
 · obtain⟨f0,f1,f2,f3,f4,f5⟩:=hf b hb
   exact⟨f3,f1,f4,f5⟩
 · obtain⟨o,es,ep,ho,r⟩:=hm
   exact⟨o,es,ep,k _ o (λz=>(hf _ z).2.1 rfl) ho,r⟩
 · by_cases hb:b=T
   · subst hb;rw[yH]at e;cases e;exact new
   · rw[yg hb]at e
     refine(I.hok b u e).stay (λc v hc q=>k c v ?_ q) (λc q=>by rw[yg (yI q hn)];exact q) λc xs q=>by rw[yg (yI q hn)];exact q
     rcases hc with z|z
     · rw[z];exact nc b u e
     · exact nc c _ z
end
theorem zsg(sep:Str)(ys:List Str):Txt.join sep ys=Str.join sep ys:=StrLaws.glued_eq_join sep ys
section
variable{as:AS}{f a b:EF}{s t:Bool}{x y z:D}
theorem zwQ(h:WE f as (.tup ds)):zcu f as=some (ds.map λd=>(true,d),as):=by
 obtain⟨o,h1,h2,h3⟩:=h
 unfold zcu
 rw[h1];show(zjC (o.str,o.toD)).bind _=_
 rw[h2,h3];show some (kids true ds,as)=_
 rw[zbl]
theorem zqI:slP (.lst (xs++ys)) none (some (xs.length:Int))=some (.fl xs):=by
 show some (R0.fl (cutD (xs++ys) none (some (xs.length:Int))))=_
 congr 2
 unfold cutD
 rw[HT.zoY,HT.zly,zzH,Nat.min_eq_left (by omega),List.drop_zero,Nat.sub_zero,List.take_left]
end
theorem znE{X:Cx}{pins:List (Addr×Obj)}{σ:List (Option V)}{H:Hp}{s:Shared}{h':Heap}{t':Nat}{ch:List Addr}(I:Inv X pins σ H s)(hf:∀b ∈ ch,zgk X pins H b)(k:∀b u,b ∉ ch->s.heap.get? b=some u->h'.get? b=some u):Inv X pins σ H {s with heap:=h',toks:=t'}:=by
 have nc:∀b u,H b=some u->b ∉ ch:=λb u e z=>by have:=(hf b z).1;rw[e]at this;cases this
 refine I.step (g':=s.gens) (d':=s.drawn) (ch:=ch) (λb hb=>?_) (λb o _ _ hc e _=>k b o hc e) (λb o _ _ hc e _=>⟨o.slots,k b o hc e⟩) (λb o _ e n=>n)
  (λb o hc e=>⟨o,k b o hc e⟩) (λb xs e=>e) (λb o u e=>e) (λb ps e=>⟨#[],by rw[e];simp⟩) (λm hm=>?_) (λb u e=>?_) I.bare
 · obtain⟨f0,f1,f2,f3,f4,f5⟩:=hf b hb
   exact⟨f3,f1,f4,f5⟩
 · obtain⟨o,es,ep,ho,r⟩:=hm
   exact⟨o,es,ep,k _ o (λz=>(hf _ z).2.1 rfl) ho,r⟩
 · refine(I.hok b u e).stay (λc v hc q=>k c v ?_ q) (λc q=>q) λc xs q=>q
   rcases hc with z|z
   · rw[z];exact nc b u e
   · exact nc c _ z
section
variable{X:Cx}{tg:Expr}
theorem zpE(I l1 l2:Nat)(h1:l1<I)(h2:l2<I):ZipApart (I+4) (I+2) (I+3) I (I+1) l1 l2:=by
 constructor<;>(show(_:Nat)≠_;omega)
end
section
variable{X:Cx}{kd:KD}{tg e:Expr}{fa:EF}
def zeG(st:Bool):List D->List D->List It1
 |x::r,y::t=>(st,.tup [x,y])::zeG st r t
 |_,_=>[]
theorem zmf(st:Bool):∀(xs ys:List D),(zeG st xs ys).length=min xs.length ys.length
 | [],_=>by simp[zeG]
 |_::_,[]=>by simp[zeG]
 |_::r,_::t=>by simp only[zeG,zzR,zmf st r t];omega
theorem zlt{st:Bool}:∀{xs ys:List D}{i:Nat}{y:It1},(zeG st xs ys)[i]? = some y->∃d e,xs[i]? = some d/\ys[i]? = some e/\y=(st,.tup [d,e])
 | [],_,_,_,h=>by simp[zeG]at h
 |_::_,[],_,_,h=>by simp[zeG]at h
 |x::r,y::t,0,z,h=>by
  simp only[zeG,List.getElem?_cons_zero]at h
  cases h
  exact⟨x,y,rfl,rfl,rfl⟩
 |x::r,y::t,i+1,z,h=>by
  simp only[zeG,List.getElem?_cons_succ]at h
  obtain⟨d,e,h1,h2,h3⟩:=zlt h
  exact⟨d,e,by simpa using h1,by simpa using h2,h3⟩
theorem ztE{K:zD}{F B:Addr->Prop}{ad:Ad}{H:Hp}{v:V}{st q:Bool}{ds:List D}(rp:Rp K kd (Lv F B (Gw [] ad) st) H v (.lst ds))(hq:q=true->st=true):∃a vs,v = .ref a/\(∀(ad3:Ad) (H3:Hp),Grow (Gw [] ad) H (Gw [] ad3) H3->SqL K H3 a vs)/\RpL K kd (Lv F B (Gw [] ad) q) H vs ds:=by
 have le:∀a,Lv F B (Gw [] ad) q a->Lv F B (Gw [] ad) st a:=λa z=>z.imp (λy=>y.imp (λx=>⟨hq x.1,x.2⟩) id) id
 cases rp with
 |lst hn hr rl=>exact⟨_,_,rfl,λad3 H3 g3=>.inl (zcb g3 (λz=>hn (.inr z)) hr),rl.less le⟩
 |lstK a b c rl=>exact⟨_,_,rfl,λad3 H3 g3=>.inr ⟨_,_,_,a,rfl,rfl,rfl,b,c⟩,rl.less le⟩
end
def insI(x:Int):List Int->List Int
 | []=>[x]
 |y::r=>if x<=y then x::y::r else y::insI x r
def sortI:List Int->List Int
 | []=>[]
 |x::r=>insI x (sortI r)
theorem insI_perm(x:Int):∀l:List Int,(insI x l).Perm (x::l)
 | []=>List.Perm.refl _
 |y::r=>by
  unfold insI
  split
  · exact List.Perm.refl _
  · exact((insI_perm x r).cons y).trans (List.Perm.swap x y r)
theorem sortI_perm:∀l:List Int,(sortI l).Perm l
 | []=>List.Perm.refl _
 |x::r=>(insI_perm x (sortI r)).trans ((sortI_perm r).cons x)
theorem zfN(x:Int):∀l:List Int,l.Pairwise (· <= ·)->(insI x l).Pairwise (· <= ·)
 | [],_=>by simp[insI]
 |y::r,h=>by
  unfold insI
  rw[List.pairwise_cons]at h
  split
  · rename_i hxy
    rw[List.pairwise_cons,List.pairwise_cons]
    refine⟨λz hz=>?_,h⟩
    rcases zzA.mp hz with rfl|hz
    · exact hxy
    · exact Int.le_trans hxy (h.1 z hz)
  · rename_i hxy
    rw[List.pairwise_cons]
    refine⟨λz hz=>?_,zfN x r h.2⟩
    rcases zzA.mp ((insI_perm x r).mem_iff.mp hz)with rfl|hz
    · omega
    · exact h.1 z hz
theorem zas:∀l:List Int,(sortI l).Pairwise (· <= ·)
 | []=>List.Pairwise.nil
 |x::r=>zfN x _ (zas r)
theorem zjd:∀(a b:List Int),a.Perm b->a.Pairwise (· <= ·)->b.Pairwise (· <= ·)->a=b
 | [],b,p,_,_=>by rw[List.nil_perm]at p;exact p.symm
 |x::r,[],p,_,_=>by rw[List.perm_nil]at p;cases p
 |x::r,y::t,p,ha,hb=>by
  rw[List.pairwise_cons]at ha hb
  have hxy:x=y:=by
   have h1:x ∈ y::t:=p.mem_iff.mp (zzD ..)
   have h2:y ∈ x::r:=p.mem_iff.mpr (zzD ..)
   rcases zzA.mp h1 with e|e
   · exact e
   · rcases zzA.mp h2 with e'|e'
     · exact e'.symm
     · have:=hb.1 x e
       have:=ha.1 y e'
       omega
  subst hxy
  rw[zjd r t (List.Perm.cons_inv p) ha.2 hb.2]
theorem ints_of{K:zD}{kd:KD}{O:Addr->Prop}{H:Hp}{vs:List V}{us:List Value}{ds:List D}{ns:List Int}(h:RpL K kd O H vs ds)(hv:Vals vs us)(e:zaP ds=some ns):IntsAre us ns:=
 RpL.ind (P:=λvs ds=>∀us ns,Vals vs us->zaP ds=some ns->IntsAre us ns) (λus ns hv e=>by cases e;cases hv;exact .nil) (λ{v d vs ds} a _ ih us ns hv e=>by
  cases hv with
  |cons b t=>
   cases a with
   |int x=>
    obtain⟨ys,h1,h2⟩:=bS_ (show(zaP _).bind _=_ from e)
    cases h2
    obtain⟨tk,rfl⟩:=b
    exact .cons _ _ (ih _ _ t h1)
   |_=>cases e) h us ns hv e
theorem VR:∀{us:List Value}{ns:List Int},IntsAre us ns->Vals (ns.map V.int) us
 |_,_,.nil=>.nil
 |_,_,.cons n t r=>.cons ⟨t,rfl⟩ (VR r)
theorem zls{K:zD}{kd:KD}{O:Addr->Prop}{H:Hp}:∀ns:List Int,RpL K kd O H (ns.map V.int) (ns.map D.int)
 | []=>.nil
 |y::r=>.cons (.int y) (zls r)
def zoh:List D->Option R0:=on1 λx=>(asL x).bind λds=>(zaP ds).bind λns=>if ns.length<64 then some (.fl ((sortI ns).map .int))else none
section
variable{X:Cx}{kd:KD}
theorem zns:CallD X kd (.builtin "sorted") zoh:=by
 intro pins s σ H xs us Q I r h
 obtain⟨O,ds,z,ht,vl,he,q⟩:=h
 obtain⟨x,d,rfl,vx,he⟩:=zeH vl he
 obtain⟨ds,h0,he2⟩:=bS_ (show(asL d).bind _=_ from he)
 cases zgC h0
 · obtain⟨ns,h1,he⟩:=bS_ he2
   obtain⟨hz,he⟩:=ye he
   cases he
   cases vx with
   |lst hr rl=>
    obtain⟨u,rfl,ru⟩:=vals1 r
    cases ru
    obtain⟨its,rv,pl,_⟩:=I.list hr.sq
    have hI:=ints_of rl rv h1
    have hl:=hI.length
    refine sorted_ints pl.isList hI (by omega) λout ns' a1 a2 a3=>?_
    have e:ns'=sortI ns:=zjd _ _ (a2.trans (sortI_perm ns).symm) a3 (zas ns)
    subst e
    obtain⟨ee,hob⟩:=sortedAll_at s.heap its out
    have hn:H (s.heap.objs.size+1)=none:=I.hok.fresh (QzU _)
    refine⟨.ref (s.heap.objs.size+1),_,I.laid (t':=s.toks) (λb o e=>sortedAll_old e) (QzU _) (show Zj X.prog X.w _ _ _ (.lst ((sortI ns).map V.int))from⟨?_,out.toList,ee,VR a1,by simpa[seqObj]using hob⟩),rfl,zdp q (zls _) _ hn⟩
    rw[zS,(sortI_perm ns).length_eq]
    exact Nat.le_of_lt (zct (by omega))
end
theorem zbW:∀{vs:List V}{us:List Value},vs.length=us.length->(∀(i:Nat) v u,vs[i]? = some v->us[i]? = some u->RelV v u)->Vals vs us
 | [],[],_,_=>.nil
 | [],_::_,h,_=>by simp at h
 |_::_,[],h,_=>by simp at h
 |v::vs,u::us,h,k=>.cons (k 0 v u rfl rfl) (zbW (by simpa using h) λi a b x y=>k (i+1) a b (by simpa using x) (by simpa using y))
section
variable{X:Cx}{tg:Expr}
def zvA(ta:TA):TE:=λσ H Q=>ta σ H λvs H1=>∃j:Int,vs=[.int j] /\ -(2 ^ 62)<=j/\j<2 ^ 62/\∀r,H1 r=none->Q (.ref r) (upd H1 r (.rng 0 j))
theorem zlS(hg:Gl X "range")(hm:X.mg "range"=none)(ha:PA X [a] ta)(hs:starEach [a] X.env=[(false,eval a X.env)]):PE X (.Call (.Name "range" p) [a] [] pos) (zvA ta):=by
 intro pins s σ H Q I h
 refine Call_ (zbO I hg hm boot_range (PyProof.Rows.callWith_type1 (thn (ha pos pins s σ H _ I h) λus s1 ⟨vs,H1,I1,r1,q1⟩=>?_) hs rfl))
 obtain⟨j,e,b1,b2,q⟩:=q1
 subst e
 cases r1 with
 |cons r rr=>
  cases rr
  obtain⟨t,rfl⟩:=r
  exact call_range_1 ⟨.ref s1.heap.objs.size,_,I1.laid (λb o e=>QyF _ e) (zzL _) (show Zj X.prog X.w _ _ _ (.rng 0 j)from⟨_,_,_,QyH _ rfl⟩),rfl,q _ (I1.hok.fresh (zzL _))⟩
def tLR(ta:TA):TE:=λσ H Q=>zst (zvA ta) zus σ H λvs H2=>∃r H1,∃j:Int,vs=[.ref r]/\H1 r=none/\H2=upd H1 r (.rng 0 j)/\0<=j/\j<=100000/\∀l,H2 l=none->Q (.ref l) (upd H2 l (.lst ((List.range j.toNat).map λ(i:Nat)=>V.int i)))
theorem zpC(hc:X.calm=true)(hg:Gl X "range")(hm:X.mg "range"=none)(hgl:Gl X "list")(hml:X.mg "list"=none)(ha:PA X [a] ta)(hs:starEach [a] X.env=[(false,eval a X.env)])
 (hs':starEach [.Call (.Name "range" p) [a] [] pos] X.env=[(false,eval (.Call (.Name "range" p) [a] [] pos) X.env)]):PE X (.Call (.Name "list" p') [.Call (.Name "range" p) [a] [] pos] [] pos') (tLR ta):=by
 intro pins s σ H Q I h
 refine Call_ (zbO I hgl hml Bt.list (PyProof.Rows.callWith_type1 (thn ((zcp (zlS hg hm ha hs) zhB hs') pos' pins s σ H (λvs H2=>∃r H1,∃j:Int,vs=[.ref r]/\H1 r=none/\H2=upd H1 r (.rng 0 j)/\0<=j/\j<=100000/\∀l,H2 l=none->Q (.ref l) (upd H2 l (.lst ((List.range j.toNat).map λ(i:Nat)=>V.int i)))) I ?_) λus s1 ⟨vs,H2,I2,r1,q1⟩=>?_) hs' rfl))
 · exact h
 obtain⟨r,H1,j,rfl,hn,rfl,h0,h1,q⟩:=q1
 cases r1 with
 |cons rr rs=>
  cases rs
  cases rr
  obtain⟨t,u,v,ho⟩:=I2.hok r _ (yH ..)
  have hsz:Builtin.Range.rangeSize 0 j 1=(j.toNat:Nat):=by rw[rangeSize_one];split<;>omega
  refine call_list_range (I2.ok.hd hc) ho (small_one (by omega) (by omega) (by omega) (by omega)) (n:=j.toNat) (by exact_mod_cast hsz) (by omega) λh' tk acc c' hk hob hit=>?_
  refine⟨.ref s1.heap.objs.size,_,I2.laid hk (zzL _) (show Zj X.prog X.w _ _ _ (.lst ((List.range j.toNat).map λ(i:Nat)=>V.int i))from⟨?_,acc.toList,c', ?_,by simpa using hob⟩),rfl,q _ (I2.hok.fresh (zzL _))⟩
  · rw[zS,QzS];exact zzM (show j.toNat<=100000 by omega) (by decide)
  · refine zbW (by rw[zS,QzS];simpa using hit.1.symm) λi x y hx hy=>?_
    rw[zzG]at hx
    obtain⟨tk',e⟩:=hit.2 i y (by simpa using hy)
    cases hr:(List.range j.toNat)[i]? with
    |none=>rw[hr]at hx;cases hx
    |some k=>
     rw[hr]at hx
     obtain⟨_,hk'⟩:=zzE.mp hr
     rw[List.getElem_range]at hk'
     subst hk'
     cases hx
     exact⟨tk',by rw[e];simp⟩
end
section
variable{X:Cx}{kd:KD}
def lrP:List D->Option R0
 | [.int j]=>if 0<=j/\j<=100000 then some (.fl ((List.range j.toNat).map λ(i:Nat)=>.int i))else none
 |_=>none
theorem zkS{K:zD}{O:Addr->Prop}{H:Hp}:∀l:List Nat,RpL K kd O H (l.map λ(i:Nat)=>V.int i) (l.map λ(i:Nat)=>D.int i)
 | []=>.nil
 |y::r=>.cons (.int y) (zkS r)
theorem zpw(hc:X.calm=true)(hg:Gl X "range")(hm:X.mg "range"=none)(hgl:Gl X "list")(hml:X.mg "list"=none)(ha:AA X kd [a] fr)(hs:starEach [a] X.env=[(false,eval a X.env)])
 (hs':starEach [.Call (.Name "range" p) [a] [] pos] X.env=[(false,eval (.Call (.Name "range" p) [a] [] pos) X.env)]):AE X kd (.Call (.Name "list" p') [.Call (.Name "range" p) [a] [] pos] [] pos') (fP fr lrP):=by
 with_unfolding_all exact(xr (zpC hc hg hm hgl hml ha hs hs') λσ H Q h=>by
  obtain⟨F,B,ad,as,r,as',R,e,q⟩:=h
  obtain⟨⟨rs,as1⟩,h1,e⟩:=bS_ (show(fr as).bind _=_ from e)
  obtain⟨⟨ds,lv⟩,h2,e⟩:=bS_ e
  obtain⟨r0,h3,e⟩:=bS_ e
  obtain⟨z,h4,e⟩:=bS_ e
  cases e
  match ds,h3,h2 with
  | [.int j],h3,h2=>
   obtain⟨⟨b1,b2⟩,e3⟩:=ye (show(if 0<=j/\j<=100000 then some (R0.fl ((List.range j.toNat).map λ(i:Nat)=>.int i))else none)=some r0 from h3)
   cases e3
   refine(show alA X.K kd fr σ H _ from⟨F,B,ad,as,rs,as1,R,h1,λvs ad1 H1 R1 rv1 g1=>?_⟩)
   have vl:=zcs R1 rv1 h2
   have rq:=Y0 R1 h4 (Q:=Q) λw T' H' R' rv' g'=>q w T' ad1 H' R' rv' (g1.trans g')
   cases vl with
   |cons v1 v2=>
    cases v2
    cases v1
    refine⟨j,rfl,by omega,by omega,λr hr=>⟨r,H1,j,rfl,hr,rfl,b1,b2,λl hl=>?_⟩⟩
    have hlr:l≠r:=λe=>by rw[e,yH]at hl;cases hl
    have hl1:H1 l=none:=by rw[yg hlr]at hl;exact hl
    exact rq l _ _ hl1 (λb o q=>YB hl b o (YB hr b o q)) yH (zkS _))
end
def zcU(n:Nat)(os:List O):AS:=os.map some++List.replicate (n-os.length) none
theorem znV:∀(ls:List O) {vs:List V}{fp:List Addr},ls.all O.isLf=true->RoL L N H vs ls fp->fp=[]
 | [],_,_,_,r=>by cases r;rfl
 |o::ls,_,_,h,r=>by
  rw[List.all_cons,QzA]at h
  cases r with
  |cons a r=>
   cases a with
   |lf _=>rw[znV ls h.2 r];rfl
   |_=>exact absurd h.1 (by simp[O.isLf])
theorem zoG(h:RoL L N H vs ls fp):vs.length=ls.length:=RoL.length h
theorem zoo:∀(ls:List O) {vs:List V}{fp:List Addr}{i:Nat}{o:O},ls.all O.isLf=true->RoL L N H vs ls fp->ls[i]? = some o->∃v,vs[i]? = some v/\Ro L N H v o []
 | [],_,_,_,_,_,_,e=>by simp at e
 |o'::ls,_,_,i,o,h,r,e=>by
  rw[List.all_cons,QzA]at h
  cases r with
  |cons a r=>
   cases i with
   |zero=>
    simp at e
    subst e
    cases a with
    |lf z=>exact⟨_,rfl,.lf z⟩
    |_=>exact absurd h.1 (by simp[O.isLf])
   |succ i=>
    obtain⟨v,h1,h2⟩:=zoo ls (i:=i) h.2 r (by simpa using e)
    exact⟨v,by simpa using h1,h2⟩
theorem zmU{K:zD}{kd:KD}{F:Addr->Prop}{T:List Addr}{H:Hp}{N:List Str}{vs:List V}{o:O}{ls:List O}(ht:∀a,F a->H a≠none)(hn:T.Nodup)(hT:∀a ∈ T,H a≠none/\¬F a)(hl:ls.all O.isLf=true)(hN:(o::ls).length<=N.length)(ro:YF K kd F (λ_=>False) (· ∈ T) H vs (o::ls) T):
 Rel K kd F (λ_=>False) [] (λi=>if i=0 then T else[]) (zcU N.length (o::ls)) (L2.start N vs) H:=by
 have hlen:=zoG ro
 have gw:∀a,Gw [] (λi=>if i=0 then T else[]) a ↔ a ∈ T:=λa=>⟨λz=>z.elim (λy=>nomatch y) λ⟨i,y⟩=>by
  by_cases e:i=0
  · subst e;simpa using y
  · simp[e]at y,λz=>.inr ⟨0,by simpa using z⟩⟩
 have lv:∀st a,Lv F (λ_=>False) (Gw [] (λi=>if i=0 then T else[])) st a->Lv F (λ_=>False) (· ∈ T) st a:=λst a z=>z.imp id (gw a).mp
 refine⟨by unfold zcU L2.start;simp[hlen];omega,λi hi=>?_,λi=>?_,λi j a x y=>?_,QzH,(λ_ _ _ z=>nomatch z),ht,(λ_ z=>z.elim),λa z=>hT a ((gw a).mp z),λi s e=>?_⟩
 · have:i≠0:=λz=>by subst z;unfold zcU at hi;simp at hi
   simp[this]
 · by_cases e:i=0
   · subst e;simpa using hn
   · simp[e]
 · have h1:i=0:=by
    by_cases e:i=0
    · exact e
    · simp[e]at x
   have h2:j=0:=by
    by_cases e:j=0
    · exact e
    · simp[e]at y
   rw[h1,h2]
 · unfold zcU at e
   unfold L2.start
   by_cases hi:i<(o::ls).length
   · rw[QzN (by rw[zS];exact hi),zzG]at e
     obtain⟨d,hd,ea⟩:=zzV.mp e
     subst ea
     rw[QzN (by rw[zS,hlen];exact hi),zzG]
     cases ro with
     |cons a r=>
      rename_i v vs' fp fq
      have e0:fq=[]:=znV ls hl r
      subst e0
      cases i with
      |zero=>
       simp at hd
       subst hd
       exact⟨v,rfl,by simpa using RoS.lv lv a⟩
      |succ i=>
       obtain⟨w,h1,h2⟩:=zoo ls hl r (show ls[i]? = some d by simpa using hd)
       exact⟨w,by simp[h1],by simpa using RoS.lv lv h2⟩
   · rw[QzP (by rw[zS];omega)]at e
     have:=zzY e
     have ea:s=none:=(List.mem_replicate.mp this).2
     subst ea
     have hi0:i≠0:=λz=>by subst z;exact hi (by simp)
     show(if i=0 then T else[])=[]
     rw[if_neg hi0]
section
variable{K:zD}{kd:KD}{F B G:Addr->Prop}{H:Hp}
theorem zef(hp:G p):Grow G H G (upd H p u):=⟨λb w h n=>by rw[yg (λe=>n (by subst e;exact hp))];exact h,λb z=>.inl z⟩
theorem znX:∀(os:List O) {vs:List V}{fp:List Addr}{n:Nat}{o:O},YF K kd F B G H vs os fp->fp.Nodup->(∀a ∈ fp,G a)->os[n]? = some o->
 ∃v f,vs[n]? = some v/\RoS K kd F B G H v o f/\f.Nodup/\(∀a ∈ f,a ∈ fp)/\∀(p:Addr) (u:HO) (o':O),p ∈ f->RoS K kd F B G (upd H p u) v o' f->YF K kd F B G (upd H p u) vs (os.set n o') fp
 | [],_,_,_,_,_,_,_,e=>by simp at e
 |o1::os,_,_,n,o,r,hn,hG,e=>by
  cases r with
  |cons a r=>
   rename_i v vs fp fq
   obtain⟨n1,n2,n3⟩:=QyC.mp hn
   cases n with
   |zero=>
    simp at e
    subst e
    exact⟨v,fp,rfl,a,n1,λx m=>zzN _ m,λp u o' hp ro=>.cons ro (YF.grow (zef (hG p (zzN _ hp))) (λx m w h=>by rw[yg (λe=>n3 p hp x m e.symm)];exact h) r)⟩
   |succ n=>
    obtain⟨v',f,h1,h2,h3,h4,h5⟩:=znX os (n:=n) (o:=o) r n2 (λx m=>hG x (zzJ _ m)) (by simpa using e)
    exact⟨v',f,by simpa using h1,h2,h3,λx m=>zzJ _ (h4 x m),λp u o' hp ro=>.cons (RoS.grow (zef (hG p (zzJ _ (h4 p hp)))) (λx m w h=>by rw[yg (λe=>n3 x m p (h4 p hp) e)];exact h) a) (h5 p u o' hp ro)⟩
theorem ziZ(h:L st' v d'):∀(os:List O) {vs:List V}{fp:List Addr}{n:Nat}{st:Bool}{d:D},RoL L N H vs os fp->os[n]? = some (.lf st d)->RoL L N H (vs.set n v) (os.set n (.lf st' d')) fp
 | [],_,_,_,_,_,_,e=>by simp at e
 |o1::os,_,_,n,st,d,r,e=>by
  cases r with
  |cons a r=>
   cases n with
   |zero=>
    simp at e
    subst e
    cases a with
    |lf _=>exact .cons (.lf h) r
   |succ n=>exact .cons a (ziZ h os (n:=n) (st:=st) (d:=d) r (by simpa using e))
theorem zoO{v:V}{inner:List O}{fp:List Addr}{n:Nat}{st:Bool}{d:D}(c:Int)(r:RoS K kd F B G H v (.nd .ls inner) fp)(hn:fp.Nodup)(hG:∀a ∈ fp,G a)(e:inner[n]? = some (.lf st d)):
 ∃p ivs,v = .ref p/\p ∈ fp/\H p=some (.lst ivs)/\n<ivs.length/\RoS K kd F B G (upd H p (.lst (ivs.set n (.int c)))) v (.nd .ls (inner.set n (.lf true (.int c)))) fp:=by
 cases r with
 |ls hp ir=>
  rename_i p ivs ifp
  have hpfp:p ∉ ifp:=(zzU.mp hn).1
  refine⟨p,ivs,rfl,zzD ..,hp,by rw[zoG ir];exact(zzE.mp e).1,.ls yH (ziZ (.int c) inner (YF.grow (zef (hG p (zzD ..))) (λx m w h=>by rw[yg (λe=>hpfp (by subst e;exact m))];exact h) ir) e)⟩
theorem zvr{v:V}{os:List O}{fp:List Addr}{n:Nat}{o:O}(r:RoS K kd F B G H v (.nd .ls os) fp)(hn:fp.Nodup)(hG:∀a ∈ fp,G a)(e:os[n]? = some o):
 ∃l vs w f,v = .ref l/\H l=some (.lst vs)/\vs[n]? = some w/\RoS K kd F B G H w o f/\f.Nodup/\(∀a ∈ f,a ∈ fp)/\∀(p:Addr) (u:HO) (o':O),p ∈ f->RoS K kd F B G (upd H p u) w o' f->RoS K kd F B G (upd H p u) v (.nd .ls (os.set n o')) fp:=by
 cases r with
 |ls hp ir=>
  rename_i l vs ifp
  obtain⟨w,f,h1,h2,h3,h4,h5⟩:=znX os ir (zzU.mp hn).2 (λa m=>hG a (zzB _ m)) e
  exact⟨l,vs,w,f,rfl,hp,h1,h2,h3,λa m=>zzB _ (h4 a m),λp u o' hpf ro=>.ls (by rw[yg (λe=>(zzU.mp hn).1 (by rw[e];exact h4 p hpf))];exact hp) (h5 p u o' hpf ro)⟩
end
section
variable{K:zD}{kd:KD}{F B:Addr->Prop}{ad:Ad}{as:AS}{σ:St}{H:Hp}{i:Nat}{o:O}
theorem Rel.slotU(R:Rel K kd F B [] ad as σ H)(k:as[i]? = some (some o)):
 ∃v,σ[i]? = some (some v)/\RoS K kd F B (Gw [] ad) H v o (ad i)/\(ad i).Nodup/\(∀a ∈ ad i,Gw [] ad a)/\
  ∀(p:Addr) (u:HO) (o':O),p ∈ ad i->RoS K kd F B (Gw [] ad) (upd H p u) v o' (ad i)->Rel K kd F B [] ad (as.set i (some o')) σ (upd H p u)/\Grow (Gw [] ad) H (Gw [] ad) (upd H p u):=by
 obtain⟨v,hv,ro⟩:=R.sl i _ k
 have hi:i<as.length:=(zzE.mp k).1
 refine⟨v,hv,ro,R.nd i,λa m=>.inr ⟨i,m⟩,λp u o' hp ro'=>?_⟩
 have g:Grow (Gw [] ad) H (Gw [] ad) (upd H p u):=zef (.inr ⟨i,hp⟩)
 have kn:∀a,H a≠none->upd H p u a≠none:=λa z=>by
  by_cases e:a=p
  · subst e;rw[yH];simp
  · rw[yg e];exact z
 refine⟨⟨by rw[zzS];exact R.len,λj hj=>R.out j (by rw[zzS]at hj;exact hj),R.nd,R.inj,R.tnd,R.dis,λa z=>kn a (R.ftr a z),λa z=>⟨kn a (R.btr a z).1,(R.btr a z).2⟩,λa z=>⟨kn a (R.gtr a z).1,(R.gtr a z).2⟩,λj s e=>?_⟩,g⟩
 by_cases q:j=i
 · subst q
   rw[QzI hi]at e
   cases e
   exact⟨v,hv,ro'⟩
 · rw[zzW (Ne.symm q)]at e
   exact(R.sl j s e).grow g λa m u h=>by rw[yg (λe=>q (R.inj j i a m (by rw[e];exact hp)))];exact h
end
abbrev IXF:=AS->Option Int
def tSt(K:zD)(kd:KD)(f:IXF):TE:=λσ H Q=>∃F B ad as k,Rel K kd F B [] ad as σ H/\f as=some k/\Q (.int k) H
@[irreducible] def AK(X:Cx)(kd:KD)(e:Expr)(f:IXF):Prop:=PE X e (tSt X.K kd f)
def zgE:O->Option (List O)
 | .nd .ls os=>some os
 |_=>none
def zdm:O->Option D
 | .lf _ d=>some d
 |_=>none
def atO{α:Type}(f:O->Option α)(os:List O)(k:Nat):Option α:=os[k]?.bind f
def slO{α:Type}(f:O->Option α)(as:AS)(i:Nat):Option α:=as[i]?.bind λs=>s.bind f
theorem zor{o:O}{os:List O}(h:zgE o=some os):o = .nd .ls os:=by
 cases o with
 |lf s d=>cases h
 |nd k os=>cases k<;>cases h;rfl
theorem zpa(h:zdm o=some d):∃st,o = .lf st d:=by
 cases o with
 |lf s d=>cases h;exact⟨s,rfl⟩
 |nd k os=>cases h
theorem zrD{α:Type}{f:O->Option α}{os:List O}{k:Nat}{a:α}(h:atO f os k=some a):∃o,os[k]? = some o/\f o=some a:=bS_ h
theorem zqv(h:slO f as k=some a):∃o,as[k]? = some (some o)/\f o=some a:=by
 obtain⟨s,h1,h⟩:=bS_ h
 obtain⟨o,rfl,h⟩:=bS_ h
 exact⟨o,h1,h⟩
theorem zyN{os inner:List O}{k:Nat}(h:atO zgE os k=some inner):os[k]? = some (.nd .ls inner):=by
 obtain⟨o,h1,h⟩:=zrD h
 cases zor h
 exact h1
theorem zxK{os:List O}{d:D}{k:Nat}(h:atO zdm os k=some d):∃st,os[k]? = some (.lf st d):=by
 obtain⟨o,h1,h⟩:=zrD h
 obtain⟨st,rfl⟩:=zpa h
 exact⟨st,h1⟩
theorem zxZ{as:AS}{inner:List O}{k:Nat}(h:slO zgE as k=some inner):as[k]? = some (some (.nd .ls inner)):=by
 obtain⟨o,h1,h⟩:=zqv h
 cases zor h
 exact h1
theorem zxJ(h:slO zdm as k=some d):∃st,as[k]? = some (some (.lf st d)):=by
 obtain⟨o,h1,h⟩:=zqv h
 obtain⟨st,rfl⟩:=zpa h
 exact⟨st,h1⟩
theorem zku{α:Type}{f:O->Option α}{os:List O}{k:Nat}{o:O}{a:α}(h:os[k]? = some o)(e:f o=some a):atO f os k=some a:=by unfold atO;rw[h];exact e
theorem zkZ(h:as[k]? = some (some o))(e:f o=some a):slO f as k=some a:=by unfold slO;rw[h];exact e
def xV(i:Nat):IXF:=λas=>(slO zdm as i).bind asI
def xAt(i:Nat)(f:IXF):IXF:=λas=>(f as).bind λk=>if 0<=k then(slO zdm as i).bind λd=>(asL d).bind λds=>ds[k.toNat]?.bind asI else none
section
variable{X:Cx}{kd:KD}{f g:IXF}{a b:Expr}
theorem znv(hv:PE X (.Name x p) (ziA i)):AK X kd (.Name x p) (xV i):=by
 with_unfolding_all exact(xr hv λσ H Q h=>by
  obtain⟨F,B,ad,as,k,R,e,q⟩:=h
  obtain⟨d,e1,e⟩:=bS_ (show(slO zdm as i).bind _=_ from e)
  cases zky e
  obtain⟨st,k1⟩:=zxJ e1
  obtain⟨v,hv,ro⟩:=R.sl i _ k1
  generalize ad i=fp at ro
  cases ro with
  |lf rp=>cases rp;exact⟨_,hv,q⟩)
theorem zqk(hv:PE X (.Name x p) (ziA i))(hb:AK X kd b f)(hs:zdR b):AK X kd (.Subscript (.Name x p) b pos) (xAt i f):=by
 with_unfolding_all exact(xr (zrQ zkM hv hb hs) λσ H Q h=>by
  obtain⟨F,B,ad,as,c,R,e,q⟩:=h
  obtain⟨k,h1,e⟩:=bS_ (show(f as).bind _=_ from e)
  obtain⟨hk,e⟩:=ite_some' e
  obtain⟨d0,e1,e3⟩:=bS_ e
  obtain⟨ds,e2,e4⟩:=bS_ e3
  obtain⟨d,k2,e5⟩:=bS_ e4
  cases zgC e2
  cases zky e5
  obtain⟨st,k1⟩:=zxJ e1
  obtain⟨v,hv,ro⟩:=R.sl i _ k1
  generalize ad i=fp at ro
  cases ro with
  |lf rp=>
   obtain⟨l,vs,rfl,hq,rl⟩:=ztE (ad:=ad) (q:=st) rp (λz=>z)
   obtain⟨w,hw,rw'⟩:=rl.get k2
   cases rw'
   refine⟨_,hv,F,B,ad,as,k,R,h1,l,vs,k,_,rfl,rfl,hq ad H Grow.refl, ?_,q⟩
   have:=zcc hw
   rw[QzW hk]at this
   exact this)
end
def zox(i:Nat)(f1 f2 fv:IXF):SF:=λas=>(f1 as).bind λk1=>(f2 as).bind λk2=>(fv as).bind λc=>if 0<=k1/\0<=k2 then(slO zgE as i).bind λos=>(atO zgE os k1.toNat).bind λinner=>(atO zdm inner k2.toNat).bind λ_=>some (.nx (as.set i (some (.nd .ls (os.set k1.toNat (.nd .ls (inner.set k2.toNat (.lf true (.int c)))))))))else none
theorem ztK(h:j<n):ixN n (j:Int)=some j:=by
 unfold ixN
 rw[if_pos (by omega),if_pos (by omega)];simp
theorem zoW(h0:0<=k)(h:k.toNat<n):ixN n k=some k.toNat:=by
 have:=ztK h
 rw[show((k.toNat:Nat):Int)=k by omega]at this
 exact this
theorem zuo(h0:0<=k)(h:xs[k.toNat]? = some v):atI xs k=some v:=by
 have:=zcc h
 rw[show((k.toNat:Nat):Int)=k by omega]at this
 exact this
section
variable{X:Cx}{kd:KD}
theorem zwH:SlR X (λx lo hi H Q=>∃z,x = .str z/\z.length<=sizeLine/\Q (.str (Txt.slice z lo hi)) H):=by
 intro pins s σ H x v vl vu lo hi sl Q I rx hs pl pu h
 obtain⟨z,rfl,hz,q⟩:=h
 obtain⟨t,rfl⟩:=rx
 refine⟨"str",_,F.slot_str_getitem.lookup,typeIs_str _ _ _, ?_⟩
 cases pl with
 |none=>
  cases pu with
  |none=>exact wpAny_getItem_str_slice (l:=none) (u:=none) (st:=none) hs rfl (post_val_or_str ⟨zzM (Txt.slice_le z _ _) hz,λt' k=>⟨.str _,H,I.kept (λ_ _ e=>e),⟨_,rfl⟩,q⟩⟩)
  |int j uj=>exact wpAny_getItem_str_slice (l:=none) (u:=some (j,uj)) (st:=none) hs rfl (post_val_or_str ⟨zzM (Txt.slice_le z _ _) hz,λt' k=>⟨.str _,H,I.kept (λ_ _ e=>e),⟨_,rfl⟩,q⟩⟩)
 |int i ui=>
  cases pu with
  |none=>exact wpAny_getItem_str_slice (l:=some (i,ui)) (u:=none) (st:=none) hs rfl (post_val_or_str ⟨zzM (Txt.slice_le z _ _) hz,λt' k=>⟨.str _,H,I.kept (λ_ _ e=>e),⟨_,rfl⟩,q⟩⟩)
  |int j uj=>exact wpAny_getItem_str_slice (l:=some (i,ui)) (u:=some (j,uj)) (st:=none) hs rfl (post_val_or_str ⟨zzM (Txt.slice_le z _ _) hz,λt' k=>⟨.str _,H,I.kept (λ_ _ e=>e),⟨_,rfl⟩,q⟩⟩)
def slS:D->Option Int->Option Int->Option R0
 | .str z,lo,hi=>if z.length<=sizeLine then some (.im (.str (Txt.slice z lo hi)))else none
 |_,_,_=>none
theorem zxj:SlR X (λx lo hi H Q=>∃O d r,(∀a,O a->H a≠none)/\Vw X.K kd O H x d/\slS d lo hi=some r/\RQ X.K kd O H Q r):=by
 intro pins s σ H x v vl vu lo hi sl Q I rx hs pl pu h
 obtain⟨O,d,r,ht,vx,he,q⟩:=h
 unfold slS at he
 split at he
 · obtain⟨c,rfl⟩:=ye he
   cases vx
   exact zwH pins s σ H _ v vl vu lo hi sl Q I rx hs pl pu ⟨_,rfl,c,yO q (.str _)⟩
 · cases he
theorem zeo{a:Expr}{lo hi:Option Expr}{fa:EF}{fl fh:OF}{pos p2:Pos}(ha:AE X kd a fa)(hl:AO X kd lo fl)(hh:AO X kd hi fh):AE X kd (.Subscript a (.Slice lo hi none p2) pos) (fSl fa fl fh slS):=by with_unfolding_all exact(xr (zmm zxj ha hl hh) λσ H Q h=>by
 obtain⟨F,B,ad,as,r,as',R,e,q⟩:=h
 obtain⟨⟨p,as1⟩,h1,e⟩:=bS_ (show(fa as).bind _=_ from e)
 obtain⟨⟨l,as2⟩,h2,e⟩:=bS_ e
 obtain⟨⟨u,as3⟩,h3,e⟩:=bS_ e
 obtain⟨⟨d,lv⟩,h4,e⟩:=bS_ e
 obtain⟨r',h5,e⟩:=bS_ e
 obtain⟨z,h6,e⟩:=bS_ e
 cases e
 refine YD R h1 λv ad1 H1 R1 rv1 g1=>⟨F,B,ad1,as1,l,as2,R1,h2,λad2 H2 R2 g2=>⟨F,B,ad2,as2,u,_,R2,h3,λad3 H3 R3 g3=>?_⟩⟩
 exact⟨_,d,r',R3.tr _,vZ.vw R3 ((rv1.grow g2).grow g3) h4,h5,Y0 R3 h6 λw T' H' R' rv' g'=>q w T' ad3 H' R' rv' (((g1.trans g2).trans g3).trans g')⟩)
end
theorem zkc:typeLookup (.type "list") "keys"=pure none:=am_miss_of_fast (by decide +kernel)
theorem zmT
 (hx:s.heap.get? a=some o) (hc:o.cls = .type "list") (hdat:o.data = .seq xs k) (hd:o.dict=none) (hA:A.handled=none)
 (h:∀h' tk,(∀b o,s.heap.get? b=some o->h'.get? b=some o)->Q none {s with heap:=h',toks:=tk}):
 wpAny (model prog w) A (getAttr? (.ref a) "keys") Q E s:=by
 obtain⟨c,dct,dat,sl⟩:=o
 simp only at hc hdat hd
 subst hc hdat hd
 obtain⟨hp,g,d,tk,os⟩:=s
 have hT:∀tk',(⟨hp,g,d,tk',os⟩:Shared).TypeIs (.ref a) "list":=λ_=>⟨_,hx,rfl⟩
 have f1:=sub_AttributeError
 have f3:=F.slot_list_getattribute.lookup
 have f4:=F.slot_list_getattribute.bind (.ref a)
 have f5:=am_list_getattr_none
 unfold getAttr? getAttrBy? getAttrBy
 repeat (any_goals (first|assumption|exact hT _|((with_reducible show wpAny _ _ (call (Value.builtin "list.__getattribute__") _ _) _ _ _);refine call_meets F.slot_list_getattribute (hT _) am_entry_list_getattribute (F.args_list_getattribute_2 _ _) (meets_getattribute_miss_list a xs k sl "keys" _ zkc (by decide +kernel)) ⟨hx,hA,λh' tk' e hx'=>?_⟩)|wp_step))
 obtain⟨t',u',he⟩:=hx'.there
 show wpAny _ _ (getattributeRaised _ _ _ _ _ _ _) _ _ _
 unfold getattributeRaised
 repeat (any_goals (first|assumption|wp_step))
 exact h _ _ hx'.keeps
theorem Yw:plainId "dict.update.loop"=true:=by decide +kernel
theorem zbw:entryFor table "dict.update.loop"=some Builtin.«dict.update.loop» := entryFor_of_fast (by kernel_rfl)
section
variable{prog:Program}{w:World}{κ:Type}[DecidableEq κ]{knd:KeyKind prog w κ}{A:Around}{R:Result->Shared->Prop}{d I l:Addr}{items:Array Value}{N:Nat}
def putAll(kvs:List (κ×Value)):List (κ×Value)->List (κ×Value)
 | []=>kvs
 |p::r=>putAll (stored kvs p.1 p.2) r
theorem zmI(kvs:List (κ×Value))(k:κ)(v:Value):(stored kvs k v).length<=kvs.length+1:=by
 unfold stored
 split
 · rw[zS];omega
 · rw[zzH];exact zzL _
theorem zqY(hh:A.handled=none)(hdN:N<=d)(hIN:N<=I)(hdI:d≠I)(hlN:l<N):∀(rest:List (κ×Value)) (i:Nat) (s:Shared) (kvs:List (κ×Value)),s.heap.IsListIter I l i->s.heap.IsList l items->s.heap.DictOf knd d kvs->kvs.length+rest.length<=sizeLine->
 (∀j p,rest[j]? = some p->∃q key,items[i+j]? = some (.ref q)/\q<N/\IsTup s.heap q #[key,p.2]/\knd.is p.1 key=true)->items[i+rest.length]? = none->
 (∀h' tk,h'.DictOf knd d (putAll kvs rest)->(∀b o,b<N->s.heap.get? b=some o->h'.get? b=some o)->R (.ok (.ret .none)) {s with heap:=h',toks:=tk})->
 codeAny (model prog w) A (.builtin "dict.update.loop" ⟨[.ref d,.ref I,rawInt i,.none],[]⟩) R s:=by
 intro rest
 induction rest with
 |nil=>
  intro i s kvs hit hl hm hz hp he hR
  refine QyL zbw ?_
  rw[QyJ Yw _]
  show wpAny _ A.in1 (pyNext (.ref I) >>= _) _ _ s
  refine QyD (wpAny_pyNext_list_end hh hit hl he λh' hx=>?_)
  show wpAny _ _ (Builtin.Dict.addKeywords d [] >>= _) _ _ _
  refine QyD (QyE (QyE ?_))
  obtain⟨o,es,ep,ho,r⟩:=hm
  exact hR h' s.toks ⟨o,es,ep,hx d o hdI ho,r⟩ λb o hb e=>hx b o (zzO (zzI hb hIN)) e
 |cons p rest ih=>
  intro i s kvs hit hl hm hz hp he hR
  obtain⟨q,key,hq,hqN,ht,hkey⟩:=hp 0 p rfl
  refine QyL zbw ?_
  rw[QyJ Yw _]
  show wpAny _ A.in1 (pyNext (.ref I) >>= _) _ _ s
  refine QyD (wpAny_pyNext_list_item hit hl hq λh' hit' hs=>?_)
  have sm:∀b o,b≠I->s.heap.get? b=some o->h'.get? b=some o:=λb o hb e=>(hs.2 b hb).trans e
  obtain⟨oq,hoq,hcq,nq,hdq⟩:=ht
  have hoq':=sm q oq (zzO (zzI hqN hIN)) hoq
  have hm':h'.DictOf knd d kvs:=let⟨o,es,ep,ho,r⟩:=hm;⟨o,es,ep,sm d o hdI ho,r⟩
  have hl':h'.IsList l items:=let⟨o,ho,r⟩:=hl;⟨o,sm l o (zzO (zzI hlN hIN)) ho,r⟩
  have hT:({s with heap:=h'}:Shared).TypeIs (.ref q) "tuple":=⟨oq,hoq',hcq⟩
  show wpAny _ _ (holding [.ref q] _ >>= _) _ _ _
  refine QyD (QyK (QyD (wpAny_tryCatch ?_)))
  unfold Builtin.Dict.pairItems
  refine QyD (wpAny_typeOf hT ?_)
  show wpAny _ _ (if(Value.type "tuple"==Value.type "list"||Value.type "tuple"==Value.type "tuple")=true then _ else _) _ _ _
  rw[if_pos (by decide)]
  refine QyD (wpAny_seqItems hoq' hdq (QyE ?_))
  show wpAny _ _ (holding [key,p.2] (dictSet d key p.2)) _ _ _
  refine QyK (wpAny_dictSet_pairs (hsz:=by simp only[zzR]at hz;omega) hkey hm' λh'' hm'' hs''=>?_)
  have sm2:∀b o,b≠d->h'.get? b=some o->h''.get? b=some o:=λb o hb e=>(hs''.2 b hb).trans e
  refine QyE ⟨plainId_quiet Yw _, ?_⟩
  have hit'':h''.IsListIter I l (i+1):=let⟨o,ho,r⟩:=hit';⟨o,sm2 I o (Ne.symm hdI) ho,r⟩
  have hl'':h''.IsList l items:=let⟨o,ho,r⟩:=hl';⟨o,sm2 l o (zzO (zzI hlN hdN)) ho,r⟩
  have keep:∀b o,b<N->s.heap.get? b=some o->h''.get? b=some o:=λb o hb e=>sm2 b o (zzO (zzI hb hdN)) (sm b o (zzO (zzI hb hIN)) e)
  have:=ih (i+1) {s with heap:=h'',toks:=s.toks+1} (stored kvs p.1 p.2) hit'' hl'' hm'' (by have:=zmI kvs p.1 p.2;simp only[zzR]at hz;omega)
   (λj p' hj=>by
    obtain⟨q',key',a1,a2,⟨o',a3,a4⟩,a5⟩:=hp (j+1) p' (by simpa using hj)
    exact⟨q',key',by rw[show i+1+j=i+(j+1) by omega];exact a1,a2,⟨o',keep q' o' a2 a3,a4⟩,a5⟩)
   (by rw[show i+1+rest.length=i+(p::rest).length by simp only[zzR];omega];exact he)
   (λh3 tk hm3 k3=>hR h3 tk hm3 λb o hb e=>k3 b o hb (keep b o hb e))
  exact this
end
theorem zgz{prog:Program}{w:World}{κ:Type}[DecidableEq κ]{knd:KeyKind prog w κ}{A:Around}{E:Value->Shared->Prop}{s:Shared}{l:Addr}{o:Obj}{items:Array Value}{n:Nat}{ps:List (κ×Value)}{Q:Value->Shared->Prop}(hh:A.handled=none)
 (ho:s.heap.get? l=some o) (hc:o.cls = .type "list") (hd:o.data = .seq items n) (hn:o.dict=none) (hsz:ps.length<=sizeLine)
 (hp:∀(j:Nat) (p:κ×Value),ps[j]? = some p->∃(q:Addr) (key:Value),items[j]? = some (Value.ref q)/\IsTup s.heap q #[key,p.2]/\knd.is p.1 key=true) (he:items[ps.length]? = none)
 (h:∀h' tk,h'.DictOf knd s.heap.objs.size (putAll [] ps)->(∀b o,s.heap.get? b=some o->h'.get? b=some o)->Q (.ref s.heap.objs.size) {s with heap:=h',toks:=tk}):wpAny (model prog w) A (call (.type "dict") [.ref l]) Q E s:=by
 refine callType_codes (Q₁:=λobj s₁=>obj = .ref s.heap.objs.size/\s₁={s with heap:=s.heap.push {cls:=.type "dict",data:=.dict #[]}}) F.kt_called_dict (F.kt_typeCall_dict_1 _) F.entry_dict_init (kt_code_dict_new _ ⟨rfl,rfl⟩) ?_
 rintro obj s₁ ⟨rfl,rfl⟩
 have hnew:(s.heap.push {cls:=.type "dict",data:=.dict #[]}).DictOf knd s.heap.objs.size []:=Heap.DictOf.new s.heap
 have k1:∀b o,s.heap.get? b=some o->(s.heap.push {cls:=.type "dict",data:=.dict #[]}).get? b=some o:=λb o e=>QyF _ e
 have hT:({s with heap:=s.heap.push {cls:=.type "dict",data:=.dict #[]}}:Shared).TypeIs (.ref l) "list":=⟨o,k1 l o ho,hc⟩
 refine⟨hnew.typeIs,F.args_dict_init_2 _ _, ?_⟩
 unfold Builtin.«dict.__init__»
 refine QyD ?_
 unfold Builtin.Dict.selfAndRest
 refine QyD (wpAny_notOrdered_dict hnew.typeIs ?_)
 show wpAny _ _ (pure (s.heap.objs.size,[Value.ref l])) _ _ _
 refine QyE ?_
 show wpAny _ _ (Builtin.Dict.updateFrom "dict.__init__" s.heap.objs.size (.ref l) [] .none) _ _ _
 unfold Builtin.Dict.updateFrom
 refine QyD (wpAny_typeOf hT ?_)
 rw[if_pos (by decide)]
 refine QyD (zmT (k1 l o ho) hc hd hn hh λh2 tk2 k2=>?_)
 rw[if_pos (by decide)]
 refine QyD (wpAny_rule ?_)
 have ho2:=k2 l o (k1 l o ho)
 have hl2:h2.IsList l items:=⟨o,ho2,hc,n,hd⟩
 refine QyD (wpAny_pyIter_list hl2 ?_)
 have k3:∀b o,h2.get? b=some o->(h2.push {cls:=.type "list_iterator",data:=.fields #[.ref l,.int 0 0]}).get? b=some o:=λb o e=>QyF _ e
 have hd2:s.heap.objs.size<h2.objs.size:=by
  obtain⟨o',_,_,ho',_⟩:=hnew
  exact QyG (k2 _ _ ho')
 refine QyE ⟨plainId_quiet Yw _, ?_⟩
 refine zqY (A:=A.in1) (N:=s.heap.objs.size) (knd:=knd) (items:=items) hh (zzL _) (Nat.le_of_lt hd2) (zzO hd2) (QyG ho) ps 0 {s with heap:=h2.push {cls:=.type "list_iterator",data:=.fields #[.ref l,.int 0 0]},toks:=tk2} [] ⟨_,QyH _ rfl,rfl,rfl⟩ ⟨o,k3 l o ho2,hc,n,hd⟩ ?_ (by rw[List.length_nil];omega) (λj p hj=>?_) (by rw[QzV];exact he) (λh' tk dd kk=>?_)
 · obtain⟨o',es,ep,ho',r⟩:=hnew
   exact⟨o',es,ep,k3 _ _ (k2 _ _ ho'),r⟩
 · obtain⟨q,key,a1,⟨o',a3,a4⟩,a5⟩:=hp j p hj
   exact⟨q,key,by rw[QzV];exact a1,QyG a3,⟨o',k3 _ _ (k2 _ _ (k1 _ _ a3)),a4⟩,a5⟩
 · exact⟨rfl,h h' tk dd λb o e=>kk b o (QyG e) (k3 _ _ (k2 _ _ (k1 _ _ e)))⟩
def zcZ:List D->Option (List (Key×D))
 | []=>some []
 |d::r=>(asT d).bind λl=>(zvb l).bind λp=>(zsr p.1).bind λk=>(zcZ r).bind λt=>some ((k,p.2)::t)
def zyU:D->Option R0
 | .dct kvs=>some (.fd kvs)
 | .lst ds=>(zcZ ds).bind λkvs=>if(kvs.map (·.1)).Nodup then some (.fd kvs)else none
 |_=>none
def zfl:List D->Option R0:=on1 zyU
theorem zil[DecidableEq κ]:∀(ps acc:List (κ×Value)),((acc++ps).map (·.1)).Nodup->putAll acc ps=acc++ps
 | [],acc,_=>(QzC acc).symm
 |p::r,acc,h=>by
  have hs:stored acc p.1 p.2=acc++[p]:=by
   unfold stored
   rw[if_neg]
   rw[QzK,QzQ]at h
   obtain⟨_,_,n3⟩:=QyC.mp h
   intro z
   obtain⟨q,m,e⟩:=List.any_eq_true.mp z
   exact n3 q.1 (List.mem_map_of_mem m) p.1 (zzD ..) (of_decide_eq_true e)
  show putAll (stored acc p.1 p.2) r=_
  rw[hs,zil r (acc++[p]) (by rw[QyA];exact h),QyA];rfl
section
variable{X:Cx}{kd:KD}{O:Addr->Prop}{pins:List (Addr×Obj)}{σ:St}{H:Hp}{s:Shared}
theorem zgK(I:Inv X pins σ H s):∀{vs:List V}{us:List Value}{ds:List D}{dk:List (Key×D)},RpL X.K kd O H vs ds->Vals vs us->zcZ ds=some dk->
 ∃(kvs:List (Key×V)) (ps:List (Key×Value)),KV kvs ps/\RpM X.K kd O H kvs dk/\ps.length=us.length/\ps.map (·.1)=dk.map (·.1)/\kvs.length=ps.length/\
  ∀(j:Nat) (p:Key×Value),ps[j]? = some p->∃(q:Addr) (key:Value),us[j]? = some (Value.ref q)/\IsTup s.heap q #[key,p.2]/\(v9 X.prog X.w).is p.1 key=true
 |_,_,[],_,rl,r,e=>by
  cases rl
  cases r
  cases e
  exact⟨[],[],.nil,.nil,rfl,rfl,rfl,λj p h=>by simp at h⟩
 |_,_,d::ds,dk,rl,r,e=>by
  cases rl with
  |cons rp rl=>
   rename_i v vs
   cases r with
   |cons r0 r=>
    rename_i u us
    obtain⟨l0,e0,e2⟩:=bS_ (show(asT d).bind _=_ from e)
    obtain⟨⟨k,dv⟩,e1,e3⟩:=bS_ e2
    cases zpX e0
    cases zod e1
    · obtain⟨kk,h1,e⟩:=bS_ e3
      obtain⟨t,h2,e⟩:=bS_ e
      cases e
      obtain⟨kvs,ps,a1,a2,a3,a4,a5,a6⟩:=zgK I (ds:=ds) (dk:=t) rl r h2
      cases rp.vw with
      |tup rp' hq rl'=>
       rename_i q ws
       cases rl' with
       |cons k1 rl'=>
        cases rl' with
        |cons k2 rl'=>
         cases rl'
         rename_i kv' vv'
         have ek:=zqx k1.vw h1
         subst ek
         obtain⟨its,rv,ht,_⟩:=I.tuple hq
         obtain⟨u1,u2,rfl,r1,r2⟩:=vals2 rv
         cases r0
         refine⟨(kk,vv')::kvs,(kk,u2)::ps,.cons ⟨rfl,r2⟩ a1,.cons k2 a2,congrArg (· + 1) a3,congrArg (kk :: ·) a4,congrArg (· + 1) a5,λj p h=>?_⟩
         cases j with
         |zero=>
          simp at h
          subst h
          exact⟨q,u1,rfl,ht,zoz r1⟩
         |succ j=>simpa using a6 j p (by simpa using h)
theorem zhd(hc:X.calm=true)(hk:KdOk X kd):CallD X kd (.type "dict") zfl:=by
 intro pins s σ H xs us Q I r h
 obtain⟨O,ds,z,ht,vl,he,q⟩:=h
 obtain⟨x,d,rfl,vx,he⟩:=zeH vl he
 cases vx with
 |dct hr rm=>exact zpj hk pins s σ H _ us Q I r ⟨O,[.dct _],z,ht,.cons (.dct hr rm) .nil,he,q⟩
 |lst hr rl=>
  obtain⟨dk,h1,he⟩:=bS_ (show(zcZ _).bind _=_ from he)
  obtain⟨hn,he⟩:=ye he
  cases he
  obtain⟨u,rfl,ru⟩:=vals1 r
  cases ru
  obtain⟨its,rv,⟨o,n,ho,hcl,hdi,hda⟩,hz⟩:=I.list hr.sq
  obtain⟨kvs,ps,a1,a2,a3,a4,a5,a6⟩:=zgK I rl rv h1
  have hlen:=rv.length
  refine zgz (knd:=v9 X.prog X.w) (ps:=ps) (I.ok.hd hc) ho hcl hda hdi (by omega) (λj p hj=>?_) (by rw[a3];simp) λh' tk dd kp=>?_
  · obtain⟨q',key,b1,b2,b3⟩:=a6 j p hj
    exact⟨q',key,by simpa using b1,b2,b3⟩
  · rw[zil ps [] (by rw[List.nil_append,a4];exact hn),List.nil_append]at dd
    exact⟨.ref _,_,I.laid (a:=s.heap.objs.size) (o:=.dK kvs) (t':=tk) kp (zzL _) (zsi (by omega) (beq_eq_false_iff_ne.mpr (Ne.symm (zzO I.big))) a1 dd),rfl,zrY q a2 _ (I.hok.fresh (zzL _))⟩
 |_=>cases he
end
theorem l1_{α:Type}{P:List α->Prop}(h:∀a,P [a]):∀us:List α,us.length=1->P us
 | [a],_=>h a
theorem l2_{α:Type}{P:List α->Prop}(h:∀a b,P [a,b]):∀us:List α,us.length=2->P us
 | [a,b],_=>h a b
theorem l3_{α:Type}{P:List α->Prop}(h:∀a b c,P [a,b,c]):∀us:List α,us.length=3->P us
 | [a,b,c],_=>h a b c
theorem l4_{α:Type}{P:List α->Prop}(h:∀a b c d,P [a,b,c,d]):∀us:List α,us.length=4->P us
 | [a,b,c,d],_=>h a b c d
theorem l5_{α:Type}{P:List α->Prop}(h:∀a b c d e,P [a,b,c,d,e]):∀us:List α,us.length=5->P us
 | [a,b,c,d,e],_=>h a b c d e
section
variable{X:Cx}{kd:KD}
theorem aI:AE X kd (.Constant (.int c) j pos) (fC (.int c)):=zkA zvf λ_ _=>.int _
theorem aS:AE X kd (.Constant (.str c) j pos) (fC (.str c)):=zkA zwa λ_ _=>.str _
theorem aZ:AE X kd (.Constant .none j pos) (fC .non):=zkA zvu λ_ _=>.non
theorem aB:AE X kd (.Constant (.bool c) j pos) (fC (.bl c)):=zkA zxR λ_ _=>.bl _
theorem ax{P:Program}{w:World}{K:zD}{a b:Expr}{fa fb:EF}{pos:Pos}(hkd:KD1 P w K kd)(ha:AE X kd a fa)(hb:AE X kd b fb)(h1:X.prog=P:=by rfl)(h2:X.w=w:=by rfl)(h3:X.K=K:=by rfl)(hm:zdR b:=by exact λ_ _=>rfl):AE X kd (.Subscript a b pos) (f2 fa fb ixP):=zxE (zyR (hkd _ h1 h2 h3)) ha hb hm
theorem sv(z:Bool)(i:Nat)(hN:X.N.Nodup)(he:AE X kd e fa)(hi:X.N[i]? = some x:=by rfl)(hx:Loc X.env.scope x:=by first|exact Or.inl rfl|exact Or.inr rfl)(hs:swapsWith e (some (.Name x pos')) pos.line X.env=pure false:=by rfl)(hf:X.fn x=true\/X.env.scope.names.lookup x=some .local:=by first|exact Or.inl rfl|exact Or.inr rfl):
 ASt X kd (.Assign [.Name x pos'] e pos) (zQ z i fa):=zss hN hi hx he hs hf
theorem an(i:Nat)(hN:X.N.Nodup)(hi:X.N[i]? = some x:=by rfl)(hx:Loc X.env.scope x:=by first|exact Or.inl rfl|exact Or.inr rfl)(hf:X.fn x=true\/X.env.scope.names.lookup x=some .local:=by first|exact Or.inl rfl|exact Or.inr rfl):AG X kd (.Name x pos) [i] (gN i):=zto hN hi hx hf
theorem av(i:Nat)(hN:X.N[i]? = some x:=by rfl)(hv:Vis X.env.scope x:=by first|exact Or.inl rfl|exact Or.inr (Or.inl rfl)|exact Or.inr (Or.inr rfl))(hd:(x==("__debug__":Str))=false:=by decide)
 (hcd:(x==("__classdict__":Str))=false:=by decide):AE X kd (.Name x pos) (fV i):=zwZ (zsb hN hv hd hcd)
end
def lkp{α:Type}:List Str->List α->Str->Option α
 | [],_,_=>none
 |_,[],_=>none
 |n::ns,a::as,f=>if f=n then some a else lkp ns as f
theorem zcV(f:Str):∀(ns:List Str) (vs:List V),(ns.zip vs).lookup f=lkp ns vs f
 | [],_=>rfl
 |_::_,[]=>rfl
 |n::ns,v::vs=>by
  show List.lookup f ((n,v)::ns.zip vs)=if f=n then some v else lkp ns vs f
  rw[List.lookup_cons]
  by_cases h:f=n
  · rw[if_pos h,beq_iff_eq.mpr h]
  · rw[if_neg h,beq_eq_false_iff_ne.mpr h]
    exact zcV f ns vs
theorem zqc{K:zD}{kd:KD}{O:Addr->Prop}{H:Hp}{f:Str}{d:D}:∀{ns:List Str}{vs:List V}{ds:List D},RpL K kd O H vs ds->lkp ns ds f=some d->∃v,lkp ns vs f=some v/\Rp K kd O H v d
 | [],_,_,_,e=>by cases e
 |_::_,_,_,.nil,e=>by cases e
 |n::ns,_,_,.cons (v:=v) (d:=d') (vs:=vs) (ds:=ds) h r,e=>by
  have e:(if f=n then some d' else lkp ns ds f)=some d:=e
  show ∃w,(if f=n then some v else lkp ns vs f)=some w/\_
  by_cases q:f=n
  · rw[if_pos q]at e ⊢;cases e;exact⟨v,rfl,h⟩
  · rw[if_neg q]at e ⊢;exact zqc r e
theorem zlL:∀{ns:List Str}{vs:List α},f ∉ ns->lkp ns vs f=none
 | [],_,_=>rfl
 |_::_,[],_=>rfl
 |n::ns,v::vs,h=>by
  show(if f=n then some v else lkp ns vs f)=none
  rw[if_neg λe=>h (by rw[e];exact zzD)]
  exact zlL λm=>h (zzB _ m)
theorem zmi:∀{ns:List Str}{vs:List V},ns.length=vs.length->f ∉ ns->zaQ f v (ns.zip vs)=(ns++[f]).zip (vs++[v])
 | [],[],_,_=>rfl
 | [],_::_,h,_=>by cases h
 |_::_,[],h,_=>by cases h
 |n::ns,w::vs,h,hf=>by
  show(if n=f then(n,v)::ns.zip vs else(n,w)::zaQ f v (ns.zip vs))=(n,w)::(ns++[f]).zip (vs++[v])
  rw[if_neg λe=>hf (by rw[e];exact zzD),zmi (Nat.succ.inj h) λm=>hf (zzB _ m)]
def yu(cs:List Str)(f:Str):D->Option R0
 | .ob c ns ds=>if c ∈ cs then(lkp ns ds f).bind λd=>some (.im d)else none
 |_=>none
def CF(K:zD)(kd:KD)(cs:List Str)(f:Str):Prop:=∀c ∈ cs,Cls K (kd.c c)/\wU K (kd.c c) f
section
variable{X:Cx}{kd:KD}{a e o:Expr}{es:List Expr}{fa fo fe:EF}{fr:AF}{pos pos' apos:Pos}{m f:Str}{cs:List Str}
theorem zxi(hc:CF X.K kd cs f)(ha:AE X kd a fa)(hb:attributeBase a f X.env (eval a X.env)=eval a X.env):AE X kd (.Attribute a f pos) (f1 fa (yu cs f)):=by
 with_unfolding_all exact(xr (zvK ha hb) λσ H Q h=>by
  obtain⟨F,B,ad,as,r,as',R,e,q⟩:=h
  obtain⟨⟨p,as1⟩,h1,e⟩:=bS_ (show(fa as).bind _=_ from e)
  obtain⟨⟨x,lv⟩,h2,e⟩:=bS_ e
  obtain⟨z,h3,e⟩:=bS_ e
  obtain⟨y,h4,e⟩:=bS_ e
  cases e
  refine YD R h1 λv ad1 H1 R1 rv1 g1=>?_
  have vw:=vZ.vw R1 rv1 h2
  have rq:=Y0 R1 h4 λw T' H' R' rv' g'=>q w T' ad1 H' R' rv' (g1.trans g')
  cases vw with
  |ob hH hl rl=>
   obtain⟨hm,h3⟩:=ite_some' h3
   obtain⟨d,hd,h3⟩:=bS_ h3
   cases h3
   obtain⟨w,hw,rw'⟩:=zqc rl hd
   exact⟨_,_,_,_,w,rfl,hH,(hc _ hm).1,(hc _ hm).2,(zcV _ _ _).trans hw,rq w H1 (λ_ _ z=>z) rw'⟩
  |_=>cases h3)
def zwA(X:Cx)(m:Str)(ta:TE)(t:TA):TE:=λσ H Q=>ta σ H λx H1=>∃a C dx fs k f fd ps sp,x = .ref a/\H1 a=some (.ins C dx fs)/\Cls X.K C/\Meth X.K C m f/\fs.lookup m=none/\
 FnOk X.prog X.w X.K X.mg X.base CX0 k f fd ps sp/\Room k X.A/\Binds X.K fd ps []/\t σ H1 λvs H2=>sp (x::vs) H2 Q λ_ _ _=>False
theorem zwV(he:PE X o ta)(hx:YS CX0 X λ_ _ _=>False)(ha:PA X (e::es) t)
 (hst:starEach (e::es) X.env=(false,eval e X.env)::starEach es X.env) (hpl:(backTo pos (starEach es X.env)).any (·.1)=false)
 (ht:eval (.Call (.Attribute o m apos) (e::es) [] pos) X.env=(do
  let ov <-eval o X.env
  standAt apos.atName
  let(f,first) <-holding [ov] (getMethod ov m pl)
  callWith pos f first (backTo pos (starEach (e::es) X.env)) (backToKw pos (keywordEach [] X.env)))):
 PE X (.Call (.Attribute o m apos) (e::es) [] pos) (zwA X m ta t):=by
 intro pins s σ H Q I h
 refine PySem.W.methodCall_KW (pl:=pl) (thn (he pins s σ H _ I h) λu s1 ⟨x,H1,I1,rx,a,C,dx,fs,k,f,fd,ps,sp,ex,ea,c,hm,l,F,hr,hb,q⟩=>?_) ht
 subst ex
 obtain rfl:u=Value.ref a:=rx
 refine zhP I1 ea c hm l ?_
 refine PySem.W.callWith_K (first:=[.ref a]) (h₀:=X.base) I.ok.mod.kin hm.kp (thn (ha pos pins s1 σ H1 _ I1 q) λus s2 ⟨vs,H2,I2,r,q2⟩=>⟨I2.kIn, ?_⟩) hst hpl
 refine znl (us:=.ref a::us) (vs:=.ref a::vs) F hr hb .nil hx I2 (.cons rfl r) ?_
 rw[QzC]
 exact q2
theorem ztR(he:PE X o ta)(hx:YS CX0 X λ_ _ _=>False)
 (ht:eval (.Call (.Attribute o m apos) [] [] pos) X.env=(do
  let ov <-eval o X.env
  standAt apos.atName
  let(f,first) <-holding [ov] (getMethod ov m pl)
  callWith pos f first (backTo pos (starEach [] X.env)) (backToKw pos (keywordEach [] X.env)))):
 PE X (.Call (.Attribute o m apos) [] [] pos) (zwA X m ta zus):=by
 intro pins s σ H Q I h
 refine PySem.W.methodCall_KW (pl:=pl) (thn (he pins s σ H _ I h) λu s1 ⟨x,H1,I1,rx,a,C,dx,fs,k,f,fd,ps,sp,ex,ea,c,hm,l,F,hr,hb,q⟩=>?_) ht
 subst ex
 obtain rfl:u=Value.ref a:=rx
 refine zhP I1 ea c hm l ?_
 exact PySem.W.callWith_K0 (first:=[.ref a]) I1.kIn hm.kp (znl (us:=[.ref a]) (vs:=[.ref a]) F hr hb .nil hx I1 (.cons rfl .nil) q)
end
def lkT:List (Str×Fn)->Str->Option Fn
 | [],_=>none
 |p::r,c=>if c=p.1 then some p.2 else lkT r c
def MT(P:Program)(w:World)(K:zD)(mg:Str->Option Value)(base:Heap)(kd:KD)(m:Str)(k:Nat)(tbl:List (Str×Fn)):Prop:=
 ∀c g,lkT tbl c=some g->∃k' f fd ps,k'<=k/\Cls K (kd.c c)/\Meth K (kd.c c) m f/\FnOk P w K mg base CX0 k' f fd ps (spD K kd g)/\Binds K fd ps []
section
variable{P:Program}{w:World}{K:zD}{mg:Str->Option Value}{base:Heap}{kd:KD}{m:Str}{k:Nat}{tbl:List (Str×Fn)}
theorem zeS:MT P w K mg base kd m k []:=λc g h=>by cases h
theorem ztz(hk:k'<=k)(cl:Cls K (kd.c c))(me:Meth K (kd.c c) m f)(F:FnOk P w K mg base CX0 k' f fd ps (spD K kd g))(b:Binds K fd ps [])(h:MT P w K mg base kd m k tbl):MT P w K mg base kd m k ((c,g)::tbl):=λc' g' e=>by
 have e:(if c'=c then some g else lkT tbl c')=some g':=e
 by_cases q:c'=c
 · rw[if_pos q]at e;cases e;subst q;exact⟨k',f,fd,ps,hk,cl,me,F,b⟩
 · rw[if_neg q]at e;exact h c' g' e
end
def obC(m:Str):D->Option Str
 | .ob c ns _=>if m ∈ ns then none else some c
 |_=>none
def Z9(tbl:List (Str×Fn))(m:Str)(fo:EF)(fr:AF):EF:=λas=>(fo as).bind λp=>(p.1.frz.view p.2).bind λw=>(obC m w.1).bind λc=>(lkT tbl c).bind λg=>(fr p.2).bind λq=>(Vi q.2 (p.1.frz::q.1)).bind λx=>(g x).bind λo=>some (.ow o,q.2)
section
variable{X:Cx}{kd:KD}{a e o:Expr}{es:List Expr}{fa fo fe:EF}{fr:AF}{pos pos' apos:Pos}{m f:Str}{cs:List Str}{tbl:List (Str×Fn)}{k:Nat}
theorem zuM(hT:MT X.prog X.w X.K X.mg X.base kd m k tbl)(hr:Room k X.A)(ht:∀σ H Q,alA X.K kd fr σ H Q->t σ H Q)(h:al X.K kd (Z9 tbl m fo fr) σ H Q):zwA X m (al X.K kd fo) t σ H Q:=by
 obtain⟨F,B,ad,as,r,as',R,e,q⟩:=h
 obtain⟨⟨p,as1⟩,h1,e⟩:=bS_ (show(fo as).bind _=_ from e)
 obtain⟨⟨w,lv⟩,h2,e⟩:=bS_ e
 obtain⟨c,h3,e⟩:=bS_ e
 obtain⟨g,h4,e⟩:=bS_ e
 obtain⟨⟨rs,as2⟩,h5,e⟩:=bS_ e
 obtain⟨ds,h6,e⟩:=bS_ e
 obtain⟨o,h7,e⟩:=bS_ e
 cases e
 refine YD R h1 λv ad1 H1 R1 rv1 g1=>?_
 have vw:=vZ.vw R1 rv1 h2
 cases vw with
 | @ob a' dx c' ns vs0 ds0 hH hl rl=>
  have h3:(if m ∈ ns then none else some c')=some c:=h3
  by_cases hn:m ∈ ns
  · rw[if_pos hn]at h3;cases h3
  · rw[if_neg hn]at h3
    cases h3
    obtain⟨k',f,fd,ps,hk',cl,me,F1,b⟩:=hT _ _ h4
    refine⟨_,_,_,_,k',f,fd,ps,_,rfl,hH,cl,me,(zcV _ _ _).trans (zlL hn),F1,hr.mono hk',b,ht _ _ _ ⟨F,B,ad1,as1,rs,as2,R1,h5,λvs ad2 H2 R2 rv2 g2=>?_⟩⟩
    exact⟨_,ds,o,R2.trk true,zki R2 (.cons (rv1.grow g2) rv2) h6,h7,zmK R2 λw T' H' R' rv' g'=>q w T' ad2 H' R' rv' ((g1.trans g2).trans g')⟩
 |_=>cases h3
theorem zxd(hT:MT X.prog X.w X.K X.mg X.base kd m k tbl)(hr:Room k X.A)(hx:YS CX0 X λ_ _ _=>False)(ho:AE X kd o fo)(ha:AA X kd (e::es) fr)
 (hst:starEach (e::es) X.env=(false,eval e X.env)::starEach es X.env) (hpl:(backTo pos (starEach es X.env)).any (·.1)=false)
 (ht:eval (.Call (.Attribute o m apos) (e::es) [] pos) X.env=(do
  let ov <-eval o X.env
  standAt apos.atName
  let(f,first) <-holding [ov] (getMethod ov m pl)
  callWith pos f first (backTo pos (starEach (e::es) X.env)) (backToKw pos (keywordEach [] X.env)))):
 AE X kd (.Call (.Attribute o m apos) (e::es) [] pos) (Z9 tbl m fo fr):=by
 with_unfolding_all exact(xr (zwV ho hx ha hst hpl ht) λσ H Q h=>zuM hT hr (λ_ _ _ z=>z) h)
theorem zum(hT:MT X.prog X.w X.K X.mg X.base kd m k tbl)(hr:Room k X.A)(hx:YS CX0 X λ_ _ _=>False)(ho:AE X kd o fo)
 (ht:eval (.Call (.Attribute o m apos) [] [] pos) X.env=(do
  let ov <-eval o X.env
  standAt apos.atName
  let(f,first) <-holding [ov] (getMethod ov m pl)
  callWith pos f first (backTo pos (starEach [] X.env)) (backToKw pos (keywordEach [] X.env)))):
 AE X kd (.Call (.Attribute o m apos) [] [] pos) (Z9 tbl m fo aN):=by
 with_unfolding_all exact(xr (ztR ho hx ht) λσ H Q h=>zuM hT hr (λσ H Q z=>by
  obtain⟨F,B,ad,as,rs,as',R,e,q⟩:=z
  cases e
  exact q [] ad H R .nil Grow.refl) h)
end
abbrev IFn:=AS->Option AS
def bf(K:zD)(kd:KD)(f:IFn):TS:=λD σ H=>∃F B ad as as',Rel K kd F B [] ad as σ H/\f as=some as'/\∀ad' H',Rel K kd F B [] ad' as' σ H'->Grow (Gw [] ad) H (Gw [] ad') H'->D.nx σ H'
@[irreducible] def AFs(X:Cx)(kd:KD)(st:List Stmt)(f:IFn):Prop:=PSs X st (bf X.K kd f)
@[irreducible] def AFt(X:Cx)(kd:KD)(st:Stmt)(f:IFn):Prop:=PS X st (bf X.K kd f)
def zbg(i:Nat)(cs:List Str)(f:Str)(fe:EF):IFn:=λas=>(fe as).bind λp=>(zbr p.2 p.1).bind λx=>match x.2[i]? with
 |some (some (.nd (.ob c ns) os))=>if c ∈ cs/\f ∉ ns/\ns.length<1000 then some (x.2.set i (some (.nd (.ob c (ns++[f])) (os++[.lf x.1.1 x.1.2]))))else none
 |_=>none
def ztY(fe:EF):IFn:=λas=>(fe as).bind λp=>some p.2
def Xw(f g:IFn):IFn:=λas=>(f as).bind g
section
variable{X:Cx}{kd:KD}{e o:Expr}{st:Stmt}{rest:List Stmt}{fe:EF}{f g:IFn}{pos pos':Pos}{cs:List Str}{n:Str}
theorem zsy(he:AE X kd e fe)(hs:swapsWith e none pos.line X.env=pure false):AFt X kd (.Expr e pos) (ztY fe):=by
 with_unfolding_all exact(ZG (zgm he hs) λD σ H h=>by
  obtain⟨F,B,ad,as,o,R,e,q⟩:=h
  obtain⟨⟨p,as1⟩,h1,e⟩:=bS_ (show(fe as).bind _=_ from e)
  cases e
  exact⟨F,B,ad,as,p,as1,R,h1,λv T' ad' H' R' rv g=>q ad' H' R'.drop (g.trans (Grow.less Gw.drop))⟩)
theorem v8(hc:CF X.K kd cs n)(ho:PE X o (ziA j))(he:AE X kd e fe)(hs:swapsWith e (some (.Attribute o n pos')) pos.line X.env=pure false):AFt X kd (.Assign [.Attribute o n pos'] e pos) (zbg j cs n fe):=by
 with_unfolding_all exact(ZG (zvV ho he hs) λD σ H h=>by
  obtain⟨F,B,ad,as,o,R,e,q⟩:=h
  obtain⟨⟨p,as1⟩,h1,e⟩:=bS_ (show(fe as).bind _=_ from e)
  obtain⟨⟨⟨st,d⟩,as2⟩,h2,e⟩:=bS_ e
  cases k1:as2[j]? with
  |none=>rw[k1]at e;cases e
  |some a0=>
   rw[k1]at e
   match a0,e,k1 with
   |some (.nd (.ob c ns) os),e,k1=>
    obtain⟨⟨hm,hf,hz⟩,e⟩:=ye e
    cases e
    refine⟨F,B,ad,as,p,as1,R,h1,λv T1 ad1 H1 R1 rv1 g1=>?_⟩
    obtain⟨ad2,R2,rp,le⟩:=zcf R1 rv1 h2
    obtain⟨v0,hs0,ro0⟩:=R2.sl j _ k1
    refine⟨v0,hs0, ?_⟩
    generalize hfp:ad2 j=fp1 at ro0
    cases ro0 with
    |ob hC hH hl rl=>
     rename_i l dx C vs fp
     have ec:C=kd.c c:=hC.cl_eq
     subst ec
     have hnd:=R2.nd j
     rw[hfp]at hnd
     have rl':YF X.K kd F B (Gw [] ad2) H1 (vs++[v]) (os++[.lf st d]) fp:=by
            have:=rl.append (RoL.one (Ro.lf (N:=Nf F B (Gw [] ad2)) (H:=H1) rp))
            rw[QzC]at this
            exact this
     refine⟨l,_,dx,_,rfl,hH,(hc _ hm).1,(hc _ hm).2,by rw[List.length_zip,hl,Nat.min_self,<-hl];exact hz, ?_⟩
     rw[zmi hl hf]
     obtain ⟨R4,g4⟩:=R2.mut (fo:=[]) (n:=.nd (.ob c (ns++[n])) (os++[.lf st d])) (u:=.ins (kd.c c) dx ((ns++[n]).zip (vs++[v]))) (zzE.mp k1).1 hfp hs0 (fp':=fp) (λa m=>by
            rw[QzC]at m ⊢;exact m) (by rw[QzC];exact(zzU.mp hnd).2) (by rw[hH];simp) λH' G' hl' gr kp=>.ob (.cl c) hl' (by rw[zzH,zzH,hl];rfl) (YF.grow gr kp rl')
     exact q _ _ R4 ((g1.trans (Grow.less le)).trans g4))
theorem zot(h:AFt X kd st f):AFs X kd [st] f:=by
 with_unfolding_all exact(zgo h)
theorem vH(h1:AFt X kd st f)(h2:AFs X kd rest g):AFs X kd (st::rest) (Xw f g):=by
 with_unfolding_all exact(zec (zbL h1 h2) λD σ H h=>by
  obtain⟨F,B,ad,as,o,R,e,q⟩:=h
  obtain⟨o1,e1,e⟩:=bS_ (show(f as).bind _=_ from e)
  exact⟨F,B,ad,as,o1,R,e1,λad' H' R' g'=>⟨F,B,ad',o1,o,R',e,λad2 H2 R2 g2=>q ad2 H2 R2 (g'.trans g2)⟩⟩)
end
def ob0(c:Str):O:=.nd (.ob c []) []
def lfD(x:Bool×D):O:=.lf x.1 x.2
def slot0:AS->Option O
 |some o::_=>if o.str=true then some o else none
 |_=>none
def fnI(c:Str)(n m:Nat)(f:IFn)(ds:List (Bool×D)):Option O:=if ds.length+1=m then(f (zcU n (ob0 c::ds.map lfD))).bind slot0 else none
def spI(K:zD)(kd:KD)(c:Str)(g:Fn):Sp:=λvs H Q _=>∃F x dx vs' ds o,vs = .ref x::vs'/\H x=some (.ins (kd.c c) dx [])/\(∀a,F a->H a≠none)/\¬F x/\RpI K kd F (λ_=>False) (· = x) H vs' ds/\g ds=some o/\
 ∀T H',T.Nodup->(∀a ∈ T,a=x\/H a=none)->(∀b u,H b=some u->b≠x->H' b=some u)->(∀a ∈ T,H' a≠none)->Ro (λ_ v d=>Rp K kd (Un2 F (· ∈ T)) H' v d) (λa=>¬Un2 F (· ∈ T) a) H' (.ref x) o T->Q .non H'
theorem zwv{K:zD}{kd:KD}{F B G:Addr->Prop}{H:Hp}{vs:List V}{ds:List (Bool×D)}(h:RpI K kd F B G H vs ds):YF K kd F B G H vs (ds.map lfD) []:=by
 induction h with
 |nil=>exact .nil
 |cons a _ ih=>exact RoL.cons (Ro.lf a) ih
theorem zsB(ds:List (Bool×D)):(ds.map lfD).all O.isLf=true:=by
 induction ds with
 |nil=>rfl
 |cons x r ih=>exact ih
section
variable{P:Program}{w:World}{K:zD}{mg:Str->Option Value}{base:Heap}
theorem zrt{kd:KD}{x qual:Str}{st:Stmt}{f:Addr}{fd:FuncData}{N ps:List Str}{k:Nat}{c:Str}{b:IFn}(Fn:Fun K x qual st f fd)(S:FnScope N ps (zr st))(hps:ps.length<=N.length)
 (hb:∀(cdv:Value) (A:Around) (outer:List Env) (s:Shared) (H:Hp) (E:XK),Room k (A.deeper (envOfC qual (zr st) s.heap.objs.size f cdv))->AFs (zla CX0 P w K mg base N qual (zr st) f cdv A outer s H E).nox kd (W4 st) b):
 FnOk P w K mg base CX0 (k+1) f fd ps (spI K kd c (fnI c N.length ps.length b)):=by
 with_unfolding_all (
 refine Fn.ok S (λvs H Q E h=>?_) (λcdv A outer s H vs Q E hr h=>⟨_,hb cdv A outer s H E hr, ?_⟩)
 · obtain⟨F,x,dx,vs',ds,o,rfl,_,_,_,rp,e,_⟩:=h
   obtain⟨hl,_⟩:=ite_some' (show(if ds.length+1=ps.length then _ else none)=_ from e)
   rw[zzR,rp.length,hl]
 · obtain⟨F,x,dx,vs',ds,o,rfl,hx,ht,hF,rp,e,q⟩:=h
   obtain⟨hl,e⟩:=ite_some' (show(if ds.length+1=ps.length then _ else none)=_ from e)
   obtain⟨as',e1,e2⟩:=bS_ e
   have ro:YF K kd F (λ_=>False) (· ∈ [x]) H (V.ref x::vs') (ob0 c::ds.map lfD) [x]:=by
    have e0:(λa=>a ∈ [x])=(λa=>a=x):=by funext a;exact propext zzP
    rw[e0]
    exact RoL.cons (fq:=[]) (Ro.ob (C:=kd.c c) (vs:=[]) (.cl c) hx rfl .nil) (zwv rp)
   have R0:=zmU (N:=N) ht (T:=[x]) (by simp) (λa m=>by rw[zzP.mp m,hx];exact⟨by simp,hF⟩) (zsB ds) (by rw[zzR,zS];omega) ro
   have gw:∀a,Gw [] (λi=>if i=0 then[x]else[]) a->a=x:=λa z=>z.elim (λy=>nomatch y) λ⟨i,y⟩=>by
    by_cases e:i=0
    · subst e;simpa using y
    · simp[e]at y
   refine⟨F,λ_=>False,_,_,as',R0,e1,λad' H' R' g'=>?_⟩
   match as',e2,R' with
   |some o'::r,e2,R'=>
    obtain⟨hs,e2⟩:=ye (show(if o'.str=true then some o' else none)=some o from e2)
    subst e2
    obtain⟨v,hv,ro'⟩:=R'.sl 0 (some o') rfl
    have hv0:(L2.start N (V.ref x::vs'))[0]? = some (some (V.ref x)):=rfl
    rw[hv0]at hv
    cases hv
    have rt:=zkT R' (R'.nd 0) (λa m=>.inr ⟨0,m⟩) ro' hs
    exact q (ad' 0) H' rt.nd (λa m=>(g'.own a (.inr ⟨0,m⟩)).imp (gw a) id) (λb u h hb=>g'.keep b u h λz=>hb (gw b z)) rt.tr rt.ro)
end
section
variable{X:Cx}{kd:KD}{e:Expr}{es:List Expr}{fr:AF}{pos p:Pos}{g:Fn}
theorem zvC(h:al X.K kd (zj fr g) σ H Q):zuP (kd.c c) (spI X.K kd c g) [] E (alA X.K kd fr) σ H Q:=by
 obtain⟨F,B,ad,as,r,as',R,e,q⟩:=h
 obtain⟨⟨p,as1⟩,h1,e⟩:=bS_ (show(fr as).bind _=_ from e)
 obtain⟨ds,h2,e⟩:=bS_ e
 obtain⟨o,h3,e⟩:=bS_ e
 cases e
 refine⟨F,B,ad,as,p,_,R,h1,λvs ad1 H1 R1 rv1 g1 x dx hx hdx hne=>?_⟩
 rw[QzC]
 have k:∀b u,H1 b=some u->upd (upd H1 dx (.own x)) x (.ins (kd.c c) dx []) b=some u:=λb u h=>by rw[yg (yI h hx),yg (yI h hdx)];exact h
 have kn:∀b,upd (upd H1 dx (.own x)) x (.ins (kd.c c) dx []) b=none->H1 b=none:=λb h=>by
  cases e:H1 b with
  |none=>rfl
  |some u=>rw[k b u e]at h;cases h
 refine⟨Lv F B (Gw [] ad1) true,x,dx,vs,ds,o,rfl,yH,λa z y=>R1.trk true a z (kn a y),λz=>R1.trk true x z hx, ?_,h3,λT H' hn hl kp ht ro=>⟨rfl, ?_⟩⟩
 · have ra:=zki R1 rv1 h2
   clear e h3 h2 rv1
   induction ra with
   |nil=>exact .nil
   |cons h _ ih=>
    refine .cons ?_ ih
    exact Rp.grow (W:=λ_=>False) (W':=(· = x)) ⟨λb u h _=>k b u h,λb e=>.inr (by rw[e];exact hx)⟩ (h.less λa z=>z.elim (λy=>y.elim id λy=>y.elim) λy=>y.elim)
 · exact zmK R1 (λw T' H' R' rv' g'=>q w T' ad1 H' R' rv' (g1.trans g')) (.ref x) T H' hn (λa m=>(hl a m).elim (λe=>by rw[e];exact hx) (kn a)) (λb u h=>kp b u (k b u h) (yI h hx)) ht ro
theorem ztk(hC:kd.c c=C)(M:Mk X.K C f)(F:FnOk X.prog X.w X.K X.mg X.base CX0 k f fdt ps (spI X.K kd c g))(hr:Room (k+1) X.A)(hg:Gl X x)(hm:X.mg x=some (.ref C))(hb:Binds X.K fdt ps [])(hx:YS CX0 X λ_ _ _=>False)
 (ha:AA X kd (e::es) fr) (hdb:(x==("__debug__":Str))=false) (he:starEach (e::es) X.env=(false,eval e X.env)::starEach es X.env) (hpl:(backTo pos (starEach es X.env)).any (·.1)=false):
 AE X kd (.Call (.Name x p) (e::es) [] pos) (zj fr g):=by
 subst hC
 with_unfolding_all exact(xr (zul M F hr hg hm hb .nil hx ha hdb he hpl) λσ H Q h=>zvC h)
end
def ztl(mg:Str->Option Value):Str->Addr:=λx=>match mg x with
 |some (.ref a)=>a
 |_=>0
theorem zoq(h:mg x=some (.ref a)):ztl mg x=a:=by
 unfold ztl;rw[h]
structure CI(K:zD)(kd:KD)(mg:Str->Option Value)(c:Str)(C:Addr):Prop where
 eq:kd.c c=C
 cl:Cls K C
 mks:PySem.W.makesIn K C=true
 kp:PySem.W.keepIn K (.ref C)=true
 mg:mg c=some (.ref C)
section
variable{P:Program}{w:World}{K:zD}{mg:Str->Option Value}{base:Heap}{kd:KD}{m f:Str}{k:Nat}{tbl:List (Str×Fn)}{cs:List Str}{c:Str}{C:Addr}
theorem zel{g:Fn}{k':Nat}{f:Addr}{fd:FuncData}{ps:List Str}(ci:CI K kd mg c C)(me:Meth K C m f)(F:FnOk P w K mg base CX0 k' f fd ps (spD K kd g))(hk:k'<=k)(b:Binds K fd ps [])(h:MT P w K mg base kd m k tbl):MT P w K mg base kd m k ((c,g)::tbl):=by
 have e:=ci.eq
 subst e
 exact ztz hk ci.cl me F b h
theorem YL:CF K kd [] f:=λc h=>nomatch h
theorem Yq(ci:CI K kd mg c C)(n:wU K C f)(h:CF K kd cs f):CF K kd (c::cs) f:=λc' hm=>by
 have e:=ci.eq
 subst e
 rcases zzA.mp hm with rfl|hm
 · exact⟨ci.cl,n⟩
 · exact h c' hm
theorem CI.mk'{f:Addr}(ci:CI K kd mg c C)(me:Meth K C "__init__" f):Mk K C f:=⟨ci.mks,me.at_,me.fn,ci.kp⟩
end
theorem zdF(hit:s.heap.IsTupleIter it l i)(hl:s.heap.IsTuple l items)(hx:items[i]? = some x)
 (h:∀h':Heap,h'.IsTupleIter it l (i+1)->Heap.SameBut it s.heap h'->Q x {s with heap:=h'}):wpAny (model prog w) A (Builtin.SmallTypes.nextOf (.ref it)) Q E s:=by
 obtain⟨o,ho,hc,hd⟩:=id hit
 obtain⟨ol,hol,hcl,nl,hdl⟩:=hl
 refine QyD (wpAny_callSpecial?_slot hit.typeIs F.slot_tuple_iterator_next (QyO F.slot_tuple_iterator_next hit.typeIs F.entry_tuple_iterator_next ?_))
 unfold Builtin.«tuple_iterator.__next__»
 wp_walk using wpAny_field ho hd rfl,wpAny_seqItems hol hdl
 rw[hdl]
 wp_walk
 rw[QzG,hx]
 refine QyD (wpAny_setField ho hd (by simp) ?_)
 refine QyE ⟨x,rfl,QyE (h _ ⟨_,Heap.get?_update_self _ ho (Obj.isFreed_of_fields (Obj.data_mapFields hd _)),(Obj.cls_mapFields o _).trans hc,(Obj.data_mapFields hd _).trans (by simp[rawInt])⟩ (Heap.SameBut.update _ _ _))⟩
theorem zeZ(hh:A.handled=none)(hit:s.heap.IsTupleIter it l i)(hl:s.heap.IsTuple l items)(hx:items[i]? = none)
 (h:∀(h':Heap) (e:Addr),Heap.ExtBut it s.heap h'->(∃o,h'.get? e=some o/\o.cls = .type "StopIteration")->E (.ref e) {s with heap:=h'}):wpAny (model prog w) A (Builtin.SmallTypes.nextOf (.ref it)) Q E s:=by
 obtain⟨o,ho,hc,hd⟩:=id hit
 obtain⟨ol,hol,hcl,nl,hdl⟩:=hl
 refine QyD (wpAny_callSpecial?_slot hit.typeIs F.slot_tuple_iterator_next (QyO F.slot_tuple_iterator_next hit.typeIs F.entry_tuple_iterator_next ?_))
 unfold Builtin.«tuple_iterator.__next__»
 wp_walk using wpAny_field ho hd rfl,wpAny_seqItems hol hdl
 rw[hdl]
 wp_walk
 rw[QzG,hx]
 refine QyD (wpAny_rule (QyD (wpAny_setField ho hd (by simp) ?_)))
 wp_walk
 refine wpAny_raiseNew_none hh (h _ _ (((Heap.SameBut.update _ _ _).extBut.push _).push _) ⟨_,QyH _ rfl,rfl⟩)
def SIt(b:Bool)(h:Heap)(it l:Addr)(k:Nat):Prop:=if b=true then h.IsTupleIter it l k else h.IsListIter it l k
def SSq(b:Bool)(h:Heap)(l:Addr)(xs:Array Value):Prop:=if b=true then h.IsTuple l xs else h.IsList l xs
theorem Yi:∀{b:Bool},SIt b s.heap it l i->SSq b s.heap l items->items[i]? = some x->
 (∀h':Heap,SIt b h' it l (i+1)->Heap.SameBut it s.heap h'->Q x {s with heap:=h'})->wpAny (model prog w) A (Builtin.SmallTypes.nextOf (.ref it)) Q E s
 |true,h1,h2,h3,h4=>zdF h1 h2 h3 h4
 |false,h1,h2,h3,h4=>wpAny_nextOf_list_item h1 h2 h3 h4
theorem zar(hh:A.handled=none):∀{b:Bool},SIt b s.heap it l i->SSq b s.heap l items->items[i]? = none->
 (∀(h':Heap) (e:Addr),Heap.ExtBut it s.heap h'->(∃o,h'.get? e=some o/\o.cls = .type "StopIteration")->E (.ref e) {s with heap:=h'})->wpAny (model prog w) A (Builtin.SmallTypes.nextOf (.ref it)) Q E s
 |true,h1,h2,h3,h4=>zeZ hh h1 h2 h3 h4
 |false,h1,h2,h3,h4=>wpAny_nextOf_list_end hh h1 h2 h3 h4
theorem SIt.ext:∀{b:Bool},SIt b h it l k->Heap.ExtBut a h h'->it≠a->SIt b h' it l k
 |true,x,e,n=>Heap.IsTupleIter.extBut x e n
 |false,x,e,n=>Heap.IsListIter.extBut x e n
theorem SSq.ext:∀{b:Bool},SSq b h l xs->Heap.ExtBut a h h'->l≠a->SSq b h' l xs
 |true,x,e,n=>Heap.IsTuple.extBut x e n
 |false,x,e,n=>Heap.IsList.extBut x e n
theorem SIt.at(k':∀o,h.get? it=some o->h'.get? it=some o):∀{b:Bool},SIt b h it l k->SIt b h' it l k
 |true,⟨o,e,c⟩=>⟨o,k' o e,c⟩
 |false,⟨o,e,c⟩=>⟨o,k' o e,c⟩
theorem SIt.push(x:SIt b h it l k):SIt b (h.push o) it l k:=x.at λ_ e=>QyF _ e
theorem ziz(h:Q (s.heap.get? a) s):wpAny M A (loadIfAlive a) Q E s:=λΓ p hΓ=>by
 unfold loadIfAlive
 rw[Sem.wp_loadIfAlive]
 exact QyE (M:=M) (A:=A) (E:=E) h Γ p hΓ
def IsZ(h:Heap)(z TI TO:Addr)(f0:Value)(f1:Bool):Prop:=h.get? z=some {cls:=.type "zip",data:=.fields #[f0,.bool f1,.bool false,.ref TI,.ref TO]}
def Zf(f0:Value):Prop:=f0 = .none\/∃n:Int,f0=rawInt n
theorem zoC{prog:Program}{w:World}{A:Around}{E:Value->Shared->Prop}{s:Shared}{z TI TO:Addr}{f0:Value}{f1:Bool}{Q:Bool->Shared->Prop}(hz:IsZ s.heap z TI TO f0 f1)(hf:Zf f0)(h1:Q true s)(h2:∀h' f1',IsZ h' z TI TO f0 f1'->Heap.SameBut z s.heap h'->Q false {s with heap:=h'}):
 wpAny (model prog w) A (Builtin.SmallTypes.ownedTupleIsFree (.ref z)) Q E s:=by
 rcases hf with rfl|⟨n,rfl⟩
 · exact QyD (wpAny_field hz rfl rfl (QyE h1))
 · refine QyD (wpAny_field hz rfl rfl ?_)
   change wpAny (model prog w) A (bind (loadIfAlive n.toNat) _) Q E s
   refine QyD (ziz ?_)
   cases e:s.heap.get? n.toNat with
   |none=>exact QyE h1
   |some o=>
    rw[if_neg (by simp)]
    refine QyD (wpAny_field hz rfl rfl ?_)
    cases f1 with
    |true=>exact QyE (h2 s.heap true hz (Heap.SameBut.refl _ _))
    |false=>exact QyD (wpAny_setField_rec hz (by simp) λh' hz' hs=>QyE (h2 h' true hz' hs))
theorem zrU{b1 b2:Bool}{prog:Program}{w:World}{A:Around}{E:Value->Shared->Prop}{s:Shared}{z TI TO i1 i2 l1 l2:Addr}{k1 k2:Nat}{xs ys:Array Value}{x y a b f0:Value}{f1:Bool}{Q:Value->Shared->Prop}(D:ZipApart z TI TO i1 i2 l1 l2)
 (hz:IsZ s.heap z TI TO f0 f1) (hf:Zf f0) (hTI:IsPair s.heap TI (.ref i1) (.ref i2)) (hTO:IsPair s.heap TO a b) (h1:SIt b1 s.heap i1 l1 k1) (h2:SIt b2 s.heap i2 l2 k2) (q1:SSq b1 s.heap l1 xs) (q2:SSq b2 s.heap l2 ys) (hx:xs[k1]? = some x) (hy:ys[k2]? = some y)
 (h:∀(h':Heap) (g0:Value) (g1:Bool),IsZ h' z TI TO g0 g1->Zf g0->(∃p q,IsPair h' TO p q)->SIt b1 h' i1 l1 (k1+1)->SIt b2 h' i2 l2 (k2+1)->IsPair h' s.heap.objs.size x y->(∀c o,c≠z->c≠TO->c≠i1->c≠i2->s.heap.get? c=some o->h'.get? c=some o)->Q (.ref s.heap.objs.size) {s with heap:=h'}):
 wpAny (model prog w) A (Builtin.«zip.__next__» {pos:=[.ref z]}) (λfin s'=>∃v,fin=Fin.done (Flow.ret v)/\Q v s') E s:=by
 change wpAny (model prog w) A (bind (field (.ref z) 2) _) _ E s
 refine QyD (wpAny_field hz rfl rfl ?_)
 change wpAny (model prog w) A (bind (field (.ref z) 3) _) _ E s
 refine QyD (wpAny_field hz rfl rfl (QyD (wpAny_seqItems hTI rfl ?_)))
 change wpAny (model prog w) A (bind (Builtin.SmallTypes.ownedTupleIsFree (.ref z)) _) _ E s
 refine QyD (zoC hz hf ?_ λh₁ g1 z1 hs₁=>?_)
 · rw[if_pos rfl]
   refine QyD (wpAny_rule (QyD (wpAny_field hz rfl rfl ?_)))
   refine QyD (wpAny_setField_rec hz (by simp) λh₁ hz₁ hs₁=>?_)
   refine QyD ?_
   rw[show(#[Value.ref i1,Value.ref i2].toList.zipIdx)=[(Value.ref i1,0),(Value.ref i2,1)]from rfl,List.forIn_cons]
   have x1:=h1.ext hs₁.extBut D.i1z
   have y1:=q1.ext hs₁.extBut D.l1z
   refine QyD (QyD (wpAny_onRaise ?_))
   change wpAny (model prog w) A (bind (Builtin.SmallTypes.nextOf (.ref i1)) _) _ _ _
   refine QyD (Yi x1 y1 hx λh₂ x2 hs₂=>QyE ?_)
   have t2:IsPair h₂ TO a b:=hs₂.extBut TO _ D.TOi1 (hs₁.extBut TO _ D.TOz hTO)
   refine QyD (wpAny_seqItems t2 rfl (QyD (wpAny_updateSeq_pair t2 λh₃ t3 hs₃=>?_)))
   refine QyD (wpAny_letGo (QyE ?_))
   have x3:=((h2.ext hs₁.extBut D.i2z).ext hs₂.extBut D.i12.symm).ext hs₃.extBut D.TOi2.symm
   have y3:=((q2.ext hs₁.extBut D.l2z).ext hs₂.extBut D.l2i1).ext hs₃.extBut D.l2TO
   change wpAny (model prog w) A (forIn [(Value.ref i2,1)] _ _) _ E _
   rw[List.forIn_cons]
   refine QyD (QyD (wpAny_onRaise ?_))
   change wpAny (model prog w) A (bind (Builtin.SmallTypes.nextOf (.ref i2)) _) _ _ _
   refine QyD (Yi x3 y3 hy λh₄ x4 hs₄=>QyE ?_)
   have t4:IsPair h₄ TO x b:=hs₄.extBut TO _ D.TOi2 t3
   refine QyD (wpAny_seqItems t4 rfl (QyD (wpAny_updateSeq_pair t4 λh₅ t5 hs₅=>?_)))
   refine QyD (wpAny_letGo (QyE ?_))
   change wpAny (model prog w) A (forIn [] _ _) _ E _
   rw[List.forIn_nil]
   refine QyE ?_
   have t5:IsPair h₅ TO x y:=t5
   refine QyD (wpAny_seqItems t5 rfl (QyD (wpAny_newTuple ?_)))
   have e5:h₅.objs.size=s.heap.objs.size:=hs₅.1.trans (hs₄.1.trans (hs₃.1.trans (hs₂.1.trans hs₁.1)))
   have z1:IsZ h₁ z TI TO .ellipsis f1:=hz₁
   have z5:IsZ h₅ z TI TO .ellipsis f1:=hs₅.extBut z _ D.TOz.symm (hs₄.extBut z _ D.i2z.symm (hs₃.extBut z _ D.TOz.symm (hs₂.extBut z _ D.i1z.symm z1)))
   refine QyD ?_
   change wpAny (model prog w) A (bind (setField (.ref z) 0 (rawInt (h₅.objs.size:Int))) λ_=>setField (.ref z) 1 (.bool false)) _ E {s with heap:=h₅.push {cls:=.type "tuple",data:=.seq #[x,y]}}
   refine QyD (wpAny_setField_rec (s:={s with heap:=h₅.push {cls:=.type "tuple",data:=.seq #[x,y]}}) (QyF _ z5) (by simp) λh₇ z7 hs₇=>?_)
   refine wpAny_setField_rec z7 (by simp) λh₆ z6 hs₆'=>QyE ⟨_,rfl, ?_⟩
   have hs₆:=hs₇.trans hs₆'
   have lt:∀c o,h₅.get? c=some o->c≠z->h₆.get? c=some o:=λc o q n=>hs₆.extBut c o n (QyF _ q)
   have nz:h₅.objs.size≠z:=λe=>by
    have:=QyG z5
    rw[<-e]at this
    exact Nat.lt_irrefl _ this
   show Q (.ref h₅.objs.size) {s with heap:=h₆}
   rw[e5]
   refine h h₆ (rawInt (h₅.objs.size:Int)) false z6 (.inr ⟨_,rfl⟩) ⟨_,_,lt TO _ t5 D.TOz⟩ ?_ ?_ ?_ λc o c1 c2 c3 c4 q=>?_
   · have:=((x2.ext hs₃.extBut D.TOi1.symm).ext hs₄.extBut D.i12).ext hs₅.extBut D.TOi1.symm
     exact(SIt.push this).ext hs₆.extBut D.i1z
   · exact(SIt.push (x4.ext hs₅.extBut D.TOi2.symm)).ext hs₆.extBut D.i2z
   · rw[<-e5]
     exact hs₆.extBut _ _ nz (QyH _ rfl)
   · exact lt c o (hs₅.extBut c o c2 (hs₄.extBut c o c4 (hs₃.extBut c o c2 (hs₂.extBut c o c3 (hs₁.extBut c o c1 q))))) c1
 · rw[if_neg (by simp)]
   change wpAny (model prog w) A (bind (forIn #[Value.ref i1,Value.ref i2] _ _) _) _ E _
   rw[<-Array.forIn_toList,show #[Value.ref i1,Value.ref i2].toList=[Value.ref i1,Value.ref i2]from rfl,List.forIn_cons]
   have x1:=h1.ext hs₁.extBut D.i1z
   have y1:=q1.ext hs₁.extBut D.l1z
   refine QyD (QyD (QyD (QyK ?_)))
   change wpAny (model prog w) A (bind (Builtin.SmallTypes.nextOf (.ref i1)) _) _ _ _
   refine QyD (Yi x1 y1 hx λh₂ x2 hs₂=>QyE (QyE ?_))
   change wpAny (model prog w) A (forIn [Value.ref i2] _ _) _ E _
   rw[List.forIn_cons]
   have x3:=(h2.ext hs₁.extBut D.i2z).ext hs₂.extBut D.i12.symm
   have y3:=(q2.ext hs₁.extBut D.l2z).ext hs₂.extBut D.l2i1
   refine QyD (QyD (QyK ?_))
   change wpAny (model prog w) A (bind (Builtin.SmallTypes.nextOf (.ref i2)) _) _ _ _
   refine QyD (Yi x3 y3 hy λh₄ x4 hs₄=>QyE (QyE ?_))
   change wpAny (model prog w) A (forIn [] _ _) _ E _
   rw[List.forIn_nil]
   refine QyE (QyD (wpAny_newTuple ?_ (show 2<=sizeLine by decide)))
   refine QyE ⟨_,rfl, ?_⟩
   have e4:h₄.objs.size=s.heap.objs.size:=hs₄.1.trans (hs₂.1.trans hs₁.1)
   show Q (.ref h₄.objs.size) {s with heap:=h₄.push {cls:=.type "tuple",data:=.seq #[x,y]}}
   have z4:IsZ h₄ z TI TO f0 g1:=hs₄.extBut z _ D.i2z.symm (hs₂.extBut z _ D.i1z.symm z1)
   have t4:IsPair h₄ TO a b:=hs₄.extBut TO _ D.TOi2 (hs₂.extBut TO _ D.TOi1 (hs₁.extBut TO _ D.TOz hTO))
   rw[e4]
   refine h _ f0 g1 (QyF _ z4) hf ⟨_,_,QyF _ t4⟩ (SIt.push (x2.ext hs₄.extBut D.i12)) (SIt.push x4) ?_ λc o c1 c2 c3 c4 q=>QyF _ (hs₄.extBut c o c4 (hs₂.extBut c o c3 (hs₁.extBut c o c1 q)))
   rw[<-e4]
   exact QyH _ rfl
theorem ztd{b1 b2:Bool}{prog:Program}{w:World}{A:Around}{E:Value->Shared->Prop}{s:Shared}{z TI TO i1 i2 l1 l2:Addr}{k1 k2:Nat}{xs ys:Array Value}{a b f0:Value}{f1:Bool}{Q:PySem.Fin->Shared->Prop}(hh:A.handled=none)(D:ZipApart z TI TO i1 i2 l1 l2)
 (hz:IsZ s.heap z TI TO f0 f1) (hf:Zf f0) (hTI:IsPair s.heap TI (.ref i1) (.ref i2)) (hTO:IsPair s.heap TO a b) (h1:SIt b1 s.heap i1 l1 k1) (h2:SIt b2 s.heap i2 l2 k2) (q1:SSq b1 s.heap l1 xs) (q2:SSq b2 s.heap l2 ys) (hx:xs[k1]? = none\/ys[k2]? = none)
 (h:∀(h':Heap) (e:Addr),(∀c o,c≠z->c≠TO->c≠i1->c≠i2->s.heap.get? c=some o->h'.get? c=some o)->(∃o,h'.get? e=some o/\o.cls = .type "StopIteration")->E (.ref e) {s with heap:=h'}):
 wpAny (model prog w) A (Builtin.«zip.__next__» {pos:=[.ref z]}) Q E s:=by
 have fin:∀(h':Heap) (e:Addr),(∃f g,IsZ h' z TI TO f g)->(∀c o,c≠z->c≠TO->c≠i1->c≠i2->s.heap.get? c=some o->h'.get? c=some o)->(∃o,h'.get? e=some o/\o.cls = .type "StopIteration")->
  wpAny (model prog w) A (setField (.ref z) 0 Value.none) (λ_ s''=>E (.ref e) s'') E {s with heap:=h'}:=λh' e ⟨f,g,hf⟩ kk ⟨o,ho,hc⟩=>by
  refine wpAny_setField_rec (s:={s with heap:=h'}) hf (by simp) λh'' z'' hs=>?_
  have ne:e≠z:=λe'=>by
   subst e'
   have:=(show h'.get? e=some _ from hf).symm.trans ho
   cases this
   exact absurd (show Value.type "zip"=Value.type "StopIteration" from hc) (by decide)
  exact h h'' e (λc o c1 c2 c3 c4 q=>hs.extBut c o c1 (kk c o c1 c2 c3 c4 q)) ⟨o,hs.extBut e o ne ho,hc⟩
 change wpAny (model prog w) A (bind (field (.ref z) 2) _) _ E s
 refine QyD (wpAny_field hz rfl rfl ?_)
 change wpAny (model prog w) A (bind (field (.ref z) 3) _) _ E s
 refine QyD (wpAny_field hz rfl rfl (QyD (wpAny_seqItems hTI rfl ?_)))
 change wpAny (model prog w) A (bind (Builtin.SmallTypes.ownedTupleIsFree (.ref z)) _) _ E s
 refine QyD (zoC hz hf ?_ λh₁ g1 z1 hs₁=>?_)
 · rw[if_pos rfl]
   refine QyD (wpAny_rule (QyD (wpAny_field hz rfl rfl ?_)))
   refine QyD (wpAny_setField_rec hz (by simp) λh₁ hz₁ hs₁=>?_)
   refine QyD ?_
   rw[show(#[Value.ref i1,Value.ref i2].toList.zipIdx)=[(Value.ref i1,0),(Value.ref i2,1)]from rfl,List.forIn_cons]
   have z1:IsZ h₁ z TI TO .ellipsis f1:=hz₁
   have x1:=h1.ext hs₁.extBut D.i1z
   have y1:=q1.ext hs₁.extBut D.l1z
   refine QyD (QyD (wpAny_onRaise ?_))
   change wpAny (model prog w) A (bind (Builtin.SmallTypes.nextOf (.ref i1)) _) _ _ _
   cases e1:xs[k1]? with
   |none=>exact QyD (zar hh x1 y1 e1 λh' e ex ho=>fin h' e ⟨_,_,ex z _ D.i1z.symm z1⟩ (λc o c1 c2 c3 c4 q=>ex c o c3 (hs₁.extBut c o c1 q)) ho)
   |some x=>
    have hy:ys[k2]? = none:=hx.resolve_left (by rw[e1];simp)
    refine QyD (Yi x1 y1 e1 λh₂ x2 hs₂=>QyE ?_)
    have t2:IsPair h₂ TO a b:=hs₂.extBut TO _ D.TOi1 (hs₁.extBut TO _ D.TOz hTO)
    refine QyD (wpAny_seqItems t2 rfl (QyD (wpAny_updateSeq_pair t2 λh₃ t3 hs₃=>?_)))
    refine QyD (wpAny_letGo (QyE ?_))
    have x3:=((h2.ext hs₁.extBut D.i2z).ext hs₂.extBut D.i12.symm).ext hs₃.extBut D.TOi2.symm
    have y3:=((q2.ext hs₁.extBut D.l2z).ext hs₂.extBut D.l2i1).ext hs₃.extBut D.l2TO
    change wpAny (model prog w) A (forIn [(Value.ref i2,1)] _ _) _ E _
    rw[List.forIn_cons]
    refine QyD (QyD (wpAny_onRaise ?_))
    change wpAny (model prog w) A (bind (Builtin.SmallTypes.nextOf (.ref i2)) _) _ _ _
    exact QyD (zar hh x3 y3 hy λh' e ex ho=>fin h' e ⟨_,_,ex z _ D.i2z.symm (hs₃.extBut z _ D.TOz.symm (hs₂.extBut z _ D.i1z.symm z1))⟩
     (λc o c1 c2 c3 c4 q=>ex c o c4 (hs₃.extBut c o c2 (hs₂.extBut c o c3 (hs₁.extBut c o c1 q)))) ho)
 · rw[if_neg (by simp)]
   change wpAny (model prog w) A (bind (forIn #[Value.ref i1,Value.ref i2] _ _) _) _ E _
   rw[<-Array.forIn_toList,show #[Value.ref i1,Value.ref i2].toList=[Value.ref i1,Value.ref i2]from rfl,List.forIn_cons]
   have x1:=h1.ext hs₁.extBut D.i1z
   have y1:=q1.ext hs₁.extBut D.l1z
   refine QyD (QyD (QyD (QyK ?_)))
   change wpAny (model prog w) A (bind (Builtin.SmallTypes.nextOf (.ref i1)) _) _ _ _
   cases e1:xs[k1]? with
   |none=>exact QyD (zar hh x1 y1 e1 λh' e ex ho=>h h' e (λc o c1 c2 c3 c4 q=>ex c o c3 (hs₁.extBut c o c1 q)) ho)
   |some x=>
    have hy:ys[k2]? = none:=hx.resolve_left (by rw[e1];simp)
    refine QyD (Yi x1 y1 e1 λh₂ x2 hs₂=>QyE (QyE ?_))
    change wpAny (model prog w) A (forIn [Value.ref i2] _ _) _ E _
    rw[List.forIn_cons]
    have x3:=(h2.ext hs₁.extBut D.i2z).ext hs₂.extBut D.i12.symm
    have y3:=(q2.ext hs₁.extBut D.l2z).ext hs₂.extBut D.l2i1
    refine QyD (QyD (QyK ?_))
    change wpAny (model prog w) A (bind (Builtin.SmallTypes.nextOf (.ref i2)) _) _ _ _
    exact QyD (zar hh x3 y3 hy λh' e ex ho=>h h' e (λc o c1 c2 c3 c4 q=>ex c o c4 (hs₂.extBut c o c3 (hs₁.extBut c o c1 q))) ho)
theorem zlj{b1 b2:Bool}{prog:Program}{w:World}{A:Around}{E:Value->Shared->Prop}{s:Shared}{z TI TO i1 i2 l1 l2:Addr}{k1 k2:Nat}{xs ys:Array Value}{x y a b f0:Value}{f1:Bool}{Q:Option Value->Shared->Prop}(D:ZipApart z TI TO i1 i2 l1 l2)
 (hz:IsZ s.heap z TI TO f0 f1) (hf:Zf f0) (hTI:IsPair s.heap TI (.ref i1) (.ref i2)) (hTO:IsPair s.heap TO a b) (h1:SIt b1 s.heap i1 l1 k1) (h2:SIt b2 s.heap i2 l2 k2) (q1:SSq b1 s.heap l1 xs) (q2:SSq b2 s.heap l2 ys) (hx:xs[k1]? = some x) (hy:ys[k2]? = some y)
 (h:∀(h':Heap) (g0:Value) (g1:Bool),IsZ h' z TI TO g0 g1->Zf g0->(∃p q,IsPair h' TO p q)->SIt b1 h' i1 l1 (k1+1)->SIt b2 h' i2 l2 (k2+1)->IsPair h' s.heap.objs.size x y->(∀c o,c≠z->c≠TO->c≠i1->c≠i2->s.heap.get? c=some o->h'.get? c=some o)->Q (some (.ref s.heap.objs.size)) {s with heap:=h'}):
 wpAny (model prog w) A (pyNext (.ref z)) Q E s:=by
 have hT:s.TypeIs (.ref z) "zip":=⟨_,hz,rfl⟩
 exact QyD (wpAny_attempt (wpAny_callSpecial?_slot hT F.slot_zip_next (QyO F.slot_zip_next hT F.entry_zip_next (zrU D hz hf hTI hTO h1 h2 q1 q2 hx hy λh' g0 g1 a1 a2 a3 a4 a5 a6 a7=>QyE (h h' g0 g1 a1 a2 a3 a4 a5 a6 a7)) (F.args_zip_next_1 _))))
theorem zlW{b1 b2:Bool}{prog:Program}{w:World}{A:Around}{E:Value->Shared->Prop}{s:Shared}{z TI TO i1 i2 l1 l2:Addr}{k1 k2:Nat}{xs ys:Array Value}{a b f0:Value}{f1:Bool}{Q:Option Value->Shared->Prop}(hh:A.handled=none)(D:ZipApart z TI TO i1 i2 l1 l2)
 (hz:IsZ s.heap z TI TO f0 f1) (hf:Zf f0) (hTI:IsPair s.heap TI (.ref i1) (.ref i2)) (hTO:IsPair s.heap TO a b) (h1:SIt b1 s.heap i1 l1 k1) (h2:SIt b2 s.heap i2 l2 k2) (q1:SSq b1 s.heap l1 xs) (q2:SSq b2 s.heap l2 ys) (hx:xs[k1]? = none\/ys[k2]? = none)
 (h:∀h':Heap,(∀c o,c≠z->c≠TO->c≠i1->c≠i2->s.heap.get? c=some o->h'.get? c=some o)->Q none {s with heap:=h'}):wpAny (model prog w) A (pyNext (.ref z)) Q E s:=by
 have hT:s.TypeIs (.ref z) "zip":=⟨_,hz,rfl⟩
 exact QyD (wpAny_attempt (wpAny_callSpecial?_slot hT F.slot_zip_next (QyO F.slot_zip_next hT F.entry_zip_next (ztd hh D hz hf hTI hTO h1 h2 q1 q2 hx λh' e hk ⟨o,ho,hc⟩=>QyD (wpAny_isInstance ⟨o,ho,hc⟩ isSubtype_stop (QyE (h h' hk)))) (F.args_zip_next_1 _))))
theorem zpp{prog:Program}{w:World}{A:Around}{E:Value->Shared->Prop}{s:Shared}{z TI TO T:Addr}{f0:Value}{f1:Bool}{Q:Unit->Shared->Prop}(tg:Expr)(hz:IsZ s.heap z TI TO f0 f1)(hf:Zf f0)
 (h:∀(h':Heap) (g0:Value),IsZ h' z TI TO g0 f1->Zf g0->Heap.SameBut z s.heap h'->Q () {s with heap:=h'}):wpAny (model prog w) A (letOwnedTupleGo tg (.ref z) (.ref T)) Q E s:=by
 have no:wpAny (model prog w) A (pure ()) Q E s:=QyE (h s.heap f0 hz hf (Heap.SameBut.refl _ _))
 have go:wpAny (model prog w) A (bind (load z) λo=>match o.cls,o.data with
  |Value.type n,Data.fields vs=>if(["enumerate","zip","dict_itemiterator","dict_reverseitemiterator","odict_iterator","itertools.zip_longest","itertools.pairwise"].contains n&&vs[0]? == some (rawInt (T:Int)))=true then(do rule "for.unpacks-the-owned-tuple";updateField z 0 Value.none)else pure ()
  |_,_=>pure ()) Q E s:=by
  refine QyD (wpAny_load hz ?_)
  show wpAny (model prog w) A (if _ then _ else _) Q E s
  split
  · refine QyD (wpAny_rule ?_)
    exact wpAny_setField_rec hz (by simp) λh' z' hs=>h h' .none z' (.inl rfl) hs
  · exact no
 cases tg with
 |Tuple elts k pos=>exact go
 |List elts pos=>exact go
 |_=>exact no
def W7(b:Bool)(l:Addr):Obj:={cls:=.type (if b=true then "tuple_iterator" else "list_iterator"),data:=.fields #[.ref l,.int 0 0]}
theorem zlX:∀{b:Bool},SSq b s.heap l xs->Q (.ref s.heap.objs.size) {s with heap:=s.heap.push (W7 b l)}->wpAny (model prog w) A (pyIter (.ref l)) Q E s
 |true,h1,h2=>wpAny_pyIter_tuple h1 h2
 |false,h1,h2=>wpAny_pyIter_list h1 h2
theorem SSq.at(k:∀o,h.get? l=some o->h'.get? l=some o):∀{b:Bool},SSq b h l xs->SSq b h' l xs
 |true,⟨o,e,c⟩=>⟨o,k o e,c⟩
 |false,⟨o,e,c⟩=>⟨o,k o e,c⟩
theorem zqq(l1 l2:Addr)(xs ys:Array Value):Meets (Builtin.«zip.__new__» {pos:=[.type "zip",.ref l1,.ref l2]}) λ_ R s=>SSq b1 s.heap l1 xs/\SSq b2 s.heap l2 ys/\
 ∀h':Heap,IsZ h' (s.heap.objs.size+4) (s.heap.objs.size+2) (s.heap.objs.size+3) .none false->IsPair h' (s.heap.objs.size+2) (.ref s.heap.objs.size) (.ref (s.heap.objs.size+1))->IsPair h' (s.heap.objs.size+3) .none .none->SIt b1 h' s.heap.objs.size l1 0->SIt b2 h' (s.heap.objs.size+1) l2 0->
  (∀c o,s.heap.get? c=some o->h'.get? c=some o)->R (.ok (.ret (.ref (s.heap.objs.size+4)))) {s with heap:=h'}:=
 .of_wp λprog w A R s h=>by
  obtain⟨hp,g,d,tk,os⟩:=s;obtain⟨hl1,hl2,h⟩:=h
  have hsub:=sub_zip
  have p1:∀{Q:Value->Shared->Prop}{E:Value->Shared->Prop}{A:Around},Q (.ref hp.objs.size) ⟨hp.push (W7 b1 l1),g,d,tk,os⟩->wpAny (model prog w) A (pyIter (.ref l1)) Q E ⟨hp,g,d,tk,os⟩:=λh=>zlX hl1 h
  have p2:∀{Q:Value->Shared->Prop}{E:Value->Shared->Prop}{A:Around},Q (.ref (hp.push (W7 b1 l1)).objs.size) ⟨(hp.push (W7 b1 l1)).push (W7 b2 l2),g,d,tk,os⟩->wpAny (model prog w) A (pyIter (.ref l2)) Q E ⟨hp.push (W7 b1 l1),g,d,tk,os⟩:=λh=>zlX (s:=⟨hp.push (W7 b1 l1),g,d,tk,os⟩) (hl2.at λo e=>QyF _ e) h
  wp_walk using p1,p2
  refine⟨_,rfl, ?_⟩
  have s1:(hp.push (W7 b1 l1)).objs.size=hp.objs.size+1:=QyM _ _
  have s2:((hp.push (W7 b1 l1)).push (W7 b2 l2)).objs.size=hp.objs.size+2:=(QyM _ _).trans (congrArg (· + 1) s1)
  generalize hh2:(hp.push (W7 b1 l1)).push (W7 b2 l2)=h2 at s2 ⊢
  have i1:SIt b1 h2 hp.objs.size l1 0:=by
   have:h2.get? hp.objs.size=some (W7 b1 l1):=by rw[<-hh2];exact QyF _ (QyH _ rfl)
   cases b1<;>exact⟨_,this,rfl,rfl⟩
  have i2:SIt b2 h2 (hp.objs.size+1) l2 0:=by
   have:h2.get? (hp.objs.size+1)=some (W7 b2 l2):=by rw[<-hh2,<-s1];exact QyH _ rfl
   cases b2<;>exact⟨_,this,rfl,rfl⟩
  have kp:∀c o,hp.get? c=some o->h2.get? c=some o:=λc o q=>by rw[<-hh2];exact QyF _ (QyF _ q)
  rw[s1]
  change R (.ok (.ret (.ref ((h2.push {cls:=.type "tuple",data:=.seq #[.ref hp.objs.size,.ref (hp.objs.size+1)]}).push {cls:=.type "tuple",data:=.seq #[.none,.none]}).objs.size)))
   ⟨((h2.push {cls:=.type "tuple",data:=.seq #[.ref hp.objs.size,.ref (hp.objs.size+1)]}).push {cls:=.type "tuple",data:=.seq #[.none,.none]}).push {cls:=.type "zip",data:=.fields #[.none,.bool false,.bool false,.ref h2.objs.size,.ref (h2.push {cls:=.type "tuple",data:=.seq #[.ref hp.objs.size,.ref (hp.objs.size+1)]}).objs.size]},g,d,tk,os⟩
  have g3:=QyH h2 (o:={cls:=.type "tuple",data:=.seq #[.ref hp.objs.size,.ref (hp.objs.size+1)]}) rfl
  have s3:(h2.push {cls:=.type "tuple",data:=.seq #[.ref hp.objs.size,.ref (hp.objs.size+1)]}).objs.size=hp.objs.size+3:=(QyM _ _).trans (congrArg (· + 1) s2)
  rw[s2]at g3
  rw[s2,s3]
  have k3:∀c o,h2.get? c=some o->(h2.push {cls:=.type "tuple",data:=.seq #[.ref hp.objs.size,.ref (hp.objs.size+1)]}).get? c=some o:=λc o q=>QyF _ q
  generalize (h2.push {cls:=.type "tuple",data:=.seq #[.ref hp.objs.size,.ref (hp.objs.size+1)]})=h3 at *
  have g4:=QyH h3 (o:={cls:=.type "tuple",data:=.seq #[.none,.none]}) rfl
  have s4:(h3.push {cls:=.type "tuple",data:=.seq #[.none,.none]}).objs.size=hp.objs.size+4:=(QyM _ _).trans (congrArg (· + 1) s3)
  have k4:∀c o,h3.get? c=some o->(h3.push {cls:=.type "tuple",data:=.seq #[.none,.none]}).get? c=some o:=λc o q=>QyF _ q
  rw[s3]at g4
  rw[s4]
  generalize (h3.push {cls:=.type "tuple",data:=.seq #[.none,.none]})=h4 at *
  have g5:=QyH h4 (o:={cls:=.type "zip",data:=.fields #[.none,.bool false,.bool false,.ref (hp.objs.size+2),.ref (hp.objs.size+3)]}) rfl
  rw[s4]at g5
  exact h _ g5 (QyF _ (k4 _ _ g3)) (QyF _ g4) (i1.at λo e=>QyF _ (k4 _ _ (k3 _ _ e))) (i2.at λo e=>QyF _ (k4 _ _ (k3 _ _ e))) λc o q=>QyF _ (k4 _ _ (k3 _ _ (kp c o q)))
theorem zph(hl1:SSq b1 s.heap l1 xs)(hl2:SSq b2 s.heap l2 ys)
 (h:∀h':Heap,IsZ h' (s.heap.objs.size+4) (s.heap.objs.size+2) (s.heap.objs.size+3) .none false->IsPair h' (s.heap.objs.size+2) (.ref s.heap.objs.size) (.ref (s.heap.objs.size+1))->IsPair h' (s.heap.objs.size+3) .none .none->SIt b1 h' s.heap.objs.size l1 0->SIt b2 h' (s.heap.objs.size+1) l2 0->
  (∀c o,s.heap.get? c=some o->h'.get? c=some o)->Q (.ref (s.heap.objs.size+4)) {s with heap:=h'}):wpAny (model prog w) A (call (.type "zip") [.ref l1,.ref l2]) Q E s:=
 callType_new F.called_zip (by decide) (F.typeCall_zip_2 _ _) (F.newCall_zip_2 _ _) (λobj=>F.args_object_init_3 obj _ _) F.entry_zip_new (zqq (b1:=b1) (b2:=b2) l1 l2 xs ys)
  ⟨hl1,hl2,λh' a1 a2 a3 a4 a5 a6=>⟨⟨_,a1,rfl⟩,h h' a1 a2 a3 a4 a5 a6⟩⟩
theorem zfH{prog:Program}{w:World}{A:Around}{E:Value->Shared->Prop}{s:Shared}{z TI TO:Addr}{f0:Value}{f1:Bool}{Q:Value->Shared->Prop}(hz:IsZ s.heap z TI TO f0 f1)(h:Q (.ref z) s):wpAny (model prog w) A (pyIter (.ref z)) Q E s:=by
 have hT:s.TypeIs (.ref z) "zip":=⟨_,hz,rfl⟩
 exact wpAny_pyIter_slot hT F.slot_zip_iter (QyO F.slot_zip_iter hT F.entry_zip_iter (QyE ⟨.ref z,rfl,"zip",.builtin "zip.__next__",hT,F.slot_zip_next.lookup,h⟩) (F.args_zip_iter_1 _))
def SqB(K:zD)(H:Hp):Bool->Addr->List V->Prop
 |true,a,xs=>SqT K H a xs
 |false,a,xs=>SqL K H a xs
theorem SqB.ok(I:Inv X pins σ H s):∀{b:Bool}{a:Addr}{xs:List V},SqB X.K H b a xs->∃its:List Value,Vals xs its/\SSq b s.heap a its.toArray
 |true,a,xs,h=>by obtain⟨its,rv,p,_⟩:=I.tuple h;exact⟨its,rv,p⟩
 |false,a,xs,h=>by obtain⟨its,rv,p,_⟩:=I.list h;exact⟨its,rv,p.isList⟩
theorem SqB.inj(I:Inv X pins σ H s):∀{b:Bool}{a:Addr}{xs ys:List V},SqB X.K H b a xs->SqB X.K H b a ys->xs=ys
 |true,_,_,_,h,h'=>I.tuple_inj h h'
 |false,_,_,_,h,h'=>I.list_inj h h'
theorem SSq.ex:∀{b:Bool},SSq b h l xs->∃o,h.get? l=some o
 |true,⟨o,e,_⟩=>⟨o,e⟩
 |false,⟨o,e,_⟩=>⟨o,e⟩
theorem SIt.ex:∀{b:Bool},SIt b h it l k->∃o,h.get? it=some o/\∀v,o.data ≠ .cell v
 |true,⟨o,e,_,d⟩=>⟨o,e,λv z=>by rw[d]at z;cases z⟩
 |false,⟨o,e,_,d⟩=>⟨o,e,λv z=>by rw[d]at z;cases z⟩
def zvG(K:zD)(b1 b2:Bool)(a b:Addr):It:=
 ⟨λi H=>∃xs ys x y,SqB K H b1 a xs/\SqB K H b2 b ys/\xs[i]? = some x/\ys[i]? = some y,
  λi H v H'=>∃T x y,H T=none/\v = .ref T/\H'=upd H T (.tup [x,y])/\(∀xs,SqB K H b1 a xs->xs[i]? = some x)/\∀ys,SqB K H b2 b ys->ys[i]? = some y,
  λi H=>∃xs ys,SqB K H b1 a xs/\SqB K H b2 b ys/\(xs.length<=i\/ys.length<=i)⟩
theorem zpc{P:Program}{w:World}{K:zD}{tg:Expr}{b1 b2:Bool}(a b z TI TO i1 i2:Addr)(D:ZipApart z TI TO i1 i2 a b):Turn P w K tg (zvG K b1 b2 a b) [z,TI,TO,i1,i2] z
 (λi h=>(∃f0 f1,IsZ h z TI TO f0 f1/\Zf f0)/\IsPair h TI (.ref i1) (.ref i2)/\(∃p q,IsPair h TO p q)/\SIt b1 h i1 a i/\SIt b2 h i2 b i)where
 mem:=by simp
 obj:=λi h st c hc=>by
  obtain⟨⟨f0,f1,hz,_⟩,hTI,⟨p,q,hTO⟩,h1,h2⟩:=st
  simp only[zzA,QzZ,or_false]at hc
  rcases hc with rfl|rfl|rfl|rfl|rfl
  · exact⟨_,hz,λv z=>by cases z⟩
  · exact⟨_,hTI,λv z=>by cases z⟩
  · exact⟨_,hTO,λv z=>by cases z⟩
  · exact h1.ex
  · exact h2.ex
 keep:=λi h h' st kk=>by
  obtain⟨⟨f0,f1,hz,hf⟩,hTI,⟨p,q,hTO⟩,h1,h2⟩:=st
  exact⟨⟨f0,f1,kk z (by simp) _ hz,hf⟩,kk TI (by simp) _ hTI,⟨p,q,kk TO (by simp) _ hTO⟩,h1.at λo e=>kk i1 (by simp) o e,h2.at λo e=>kk i2 (by simp) o e⟩
 item:=by
  intro X hP hw hK hc i pins s σ H E I hf st hg
  subst hP hw hK
  obtain⟨xs,ys,x,y,hq,hr,hx,hy⟩:=hg
  obtain⟨its,rv,p⟩:=hq.ok I
  obtain⟨jts,rw',p'⟩:=hr.ok I
  obtain⟨u,hu,ru⟩:=rv.get hx
  obtain⟨u',hu',ru'⟩:=rw'.get hy
  obtain⟨⟨f0,f1,hz,zf⟩,hTI,⟨pp,qq,hTO⟩,h1,h2⟩:=st
  refine zlj D hz zf hTI hTO h1 h2 p p' (x:=u) (y:=u') (by simpa using hu) (by simpa using hu') λh' g0 g1 z' zf' to' i1' i2' pr kk=>⟨_,rfl,zpp tg z' zf' λh9 e0 z2 zf2 hs=>?_⟩
  have hn:H s.heap.objs.size=none:=I.hok.fresh (zzL _)
  have fr:∀c o,s.heap.get? c=some o->c≠s.heap.objs.size:=λc o e z=>by
   have:=QyG e
   rw[z]at this
   exact Nat.lt_irrefl _ this
  have nz:s.heap.objs.size≠z:=(fr z _ hz).symm
  have k2:∀c o,c ∉ [z,TI,TO,i1,i2]->s.heap.get? c=some o->h9.get? c=some o:=λc o hb q=>by
   simp only[zzA,QzZ,or_false,not_or]at hb
   exact hs.extBut c o hb.1 (kk c o hb.1 hb.2.2.1 hb.2.2.2.1 hb.2.2.2.2 q)
  have hTI2:IsPair h9 TI (.ref i1) (.ref i2):=hs.extBut TI _ D.TIz (kk TI _ D.TIz D.TITO D.TIi1 D.TIi2 hTI)
  obtain⟨p1,q1,to1⟩:=to'
  refine⟨.ref s.heap.objs.size,upd H s.heap.objs.size (.tup [x,y]),zkH (s:=s) (t':=s.toks) (ch:=[z,TI,TO,i1,i2]) I hf k2 (zzL _) ⟨by show 2<=sizeLine;decide,[u,u'],.cons ru (.cons ru' .nil),⟨_,hs.extBut _ _ nz pr,rfl,_,rfl⟩⟩,rfl,
   ⟨_,x,y,hn,rfl,rfl,λq hq'=>by rw[SqB.inj I hq' hq];exact hx,λq hq'=>by rw[SqB.inj I hq' hr];exact hy⟩,⟨⟨e0,g1,z2,zf2⟩,hTI2,⟨p1,q1,hs.extBut TO _ D.TOz to1⟩,i1'.ext hs.extBut D.i1z,i2'.ext hs.extBut D.i2z⟩,λc hc=>?_⟩
  have hcT:c≠s.heap.objs.size:=by
   simp only[zzA,QzZ,or_false]at hc
   rcases hc with rfl|rfl|rfl|rfl|rfl
   · exact fr _ _ hz
   · exact fr _ _ hTI
   · exact fr _ _ hTO
   · obtain⟨o,e,_⟩:=h1.ex;exact fr _ _ e
   · obtain⟨o,e,_⟩:=h2.ex;exact fr _ _ e
  rw[yg hcT]
  exact(hf c hc).1
 done:=by
  intro X hP hw hK hc i pins s σ H E I hf st hg
  subst hP hw hK
  obtain⟨xs,ys,hq,hr,hx⟩:=hg
  obtain⟨its,rv,p⟩:=hq.ok I
  obtain⟨jts,rw',p'⟩:=hr.ok I
  have hl:=rv.length
  have hl':=rw'.length
  obtain⟨⟨f0,f1,hz,zf⟩,hTI,⟨pp,qq,hTO⟩,h1,h2⟩:=st
  refine zlW (I.ok.hd hc) D hz zf hTI hTO h1 h2 p p' (hx.imp (λh=>by simp;omega) (λh=>by simp;omega)) λh' eb=>⟨rfl,znE (t':=s.toks) (ch:=[z,TI,TO,i1,i2]) I hf λc o hc q=>?_⟩
  simp only[zzA,QzZ,or_false,not_or]at hc
  exact eb c o hc.1 hc.2.2.1 hc.2.2.2.1 hc.2.2.2.2 q
 self:=λ_ _ _ _ _ st h=>let⟨⟨_,_,hz,_⟩,_⟩:=st;zfH hz h
section
variable{X:Cx}{tg:Expr}
def zwP(K:zD)(ta:TA):TI:=λσ H R=>ta σ H λvs H1=>∃a b b1 b2,vs=[.ref a,.ref b]/\(∃xs,SqB K H1 b1 a xs)/\(∃ys,SqB K H1 b2 b ys)/\R (zvG K b1 b2 a b) H1
theorem zty{l l':Expr}{ta:TA}{p pos:Pos}(hg:Gl X "zip")(hm:X.mg "zip"=none)(ha:PA X [l,l'] ta)(hs:starEach [l,l'] X.env=[(false,eval l X.env),(false,eval l' X.env)])(hs2:starEach [l'] X.env=[(false,eval l' X.env)]):
 PI X tg (.Call (.Name "zip" p) [l,l'] [] pos) (zwP X.K ta):=by
 intro pins s σ H R I h
 refine Call_ (zbO I hg hm boot_zip (PyProof.Rows.callWith_type1 (thn (ha pos pins s σ H _ I h) λus s1 ⟨vs,H1,I1,r1,q1⟩=>?_) (by rw[hs,hs2]) (by rw[hs2];rfl)))
 obtain⟨a,b,b1,b2,rfl,⟨xs,hq⟩,⟨ys,hr⟩,q⟩:=q1
 cases r1 with
 |cons r rr=>
  cases rr with
  |cons r' rr=>
   cases rr
   cases r
   cases r'
   obtain⟨its,rv,pl⟩:=hq.ok I1
   obtain⟨jts,rw',pl'⟩:=hr.ok I1
   obtain⟨o1,ho1⟩:=pl.ex
   obtain⟨o2,ho2⟩:=pl'.ex
   refine zph pl pl' λh' hZ hTI hTO hi1 hi2 hk=>?_
   refine zfH hZ ⟨s1.heap.objs.size+4,[s1.heap.objs.size+4,s1.heap.objs.size+2,s1.heap.objs.size+3,s1.heap.objs.size,s1.heap.objs.size+1],_,_,H1,rfl,I1.kept (t':=s1.toks) hk,zpc a b _ _ _ _ _ (zpE _ _ _ (QyG ho1) (QyG ho2)),⟨⟨_,_,hZ,.inl rfl⟩,hTI,⟨_,_,hTO⟩,hi1,hi2⟩,λc hc=>?_,q⟩
   have hb':s1.heap.objs.size<=c:=by
    simp only[zzA,QzZ,or_false]at hc
    rcases hc with rfl|rfl|rfl|rfl|rfl<;>first|exact zzL _|exact Nat.le_add_right _ _
   exact I1.fpOk hb' (I1.hok.fresh hb')
end
section
variable{X:Cx}{kd:KD}{tg e:Expr}{fa:EF}
theorem ztZ{K:zD}{F:Addr->Prop}{H:Hp}{a b:Addr}{b1 b2:Bool}{vs ws:List V}{st:Bool}{ds es:List D}(ft:∀a,F a->H a≠none)(hs:∀H3:Hp,(∀b u,H b=some u->H3 b=some u)->SqB K H3 b1 a vs)(hs':∀H3:Hp,(∀b u,H b=some u->H3 b=some u)->SqB K H3 b2 b ws)
 (r:RpL K kd (λa=>st=true/\F a) H vs ds) (r':RpL K kd (λa=>st=true/\F a) H ws es):ItC K kd F H (zvG K b1 b2 a b) (zeG st ds es):=⟨λH3 T k hT i=>by
 have hr3:=hs H3 k
 have hr4:=hs' H3 k
 have hlen:=zmf st ds es
 have l1:vs.length=ds.length:=r.length
 have l2:ws.length=es.length:=r'.length
 refine⟨λhi=>?_,λhi=>⟨_,_,hr3,hr4,by omega⟩,λv H4 hy=>?_⟩
 · obtain⟨u,hu,_⟩:=r.get (zzC (show i<ds.length by omega))
   obtain⟨u',hu',_⟩:=r'.get (zzC (show i<es.length by omega))
   exact⟨_,_,u,u',hr3,hr4,hu,hu'⟩
 · obtain⟨A,x,y,hn,rfl,rfl,hv,hv'⟩:=hy
   have hnH:H A=none:=by
    cases e:H A with
    |none=>rfl
    |some u=>rw[k A u e]at hn;cases hn
   refine⟨YB hn,λq hq=>?_⟩
   obtain⟨d,e,hd,he,rfl⟩:=zlt hq
   obtain⟨u,hu,ru⟩:=r.get hd
   obtain⟨u',hu',ru'⟩:=r'.get he
   have:=hv _ hr3
   rw[hu]at this
   cases this
   have:=hv' _ hr4
   rw[hu']at this
   cases this
   have up:∀{v:V}{d:D},Rp K kd (λa=>st=true/\F a) H v d->Rp K kd (λa=>st=true/\(F a\/T a)) (upd H3 A (.tup [x,y])) v d:=λrp=>
    (rp.since (λb o q=>YB hn b o (k b o q)) λa z=>(hT a z).1).less λa z=>z.2.elim (λy=>.inl ⟨z.1,y⟩) .inr
   exact .tup (λz=>z.2.elim (λy=>ft A y hnH) λy=>(hT A y).2 hn) (.inl yH) (.cons (up ru) (.cons (up ru') .nil))⟩
def zvD:RV->Option (Bool×Bool×List D)
 | .ow (.lf s (.lst l))=>some (s,false,l)
 | .ow (.lf s (.tup l))=>some (s,true,l)
 |_=>none
def zjy(fr:AF):IF:=λas=>(fr as).bind λp=>(zvb p.1).bind λo=>(zvD o.1).bind λa=>(zvD o.2).bind λb=>some (zeG (a.1&&b.1) a.2.2 b.2.2,p.2)
theorem zoE{K:zD}{F B:Addr->Prop}{ad:Ad}{σ:St}{H:Hp}{v:V}{r:RV}{x:Bool×Bool×List D}(e:zvD r=some x)(rv:vZ K kd F B [] ad σ H v r):∃a vs,v = .ref a/\SqB K H x.2.1 a vs/\(∀H3:Hp,(∀b u,¬Gw [] ad b->H b=some u->H3 b=some u)->SqB K H3 x.2.1 a vs)/\RpL K kd (Lv F B (Gw [] ad) x.1) H vs x.2.2:=by
 cases r with
 |bo i=>cases e
 |ow o=>
  cases o with
  |nd k os=>cases e
  |lf s d=>
   cases rv with
   |lf rp=>
    cases rp with
    |lst hn hr rl=>
     cases e
     refine⟨_,_,rfl,.inl hr,λH3 k=>?_,rl⟩
     rcases hr with hr|⟨o,hr⟩
     · exact .inl (.inl (k _ _ (λz=>hn (.inr z)) hr))
     · exact .inl (.inr ⟨o,k _ _ (λz=>hn (.inr z)) hr⟩)
    |lstK a b c rl=>cases e;exact⟨_,_,rfl,.inr ⟨_,_,_,a,rfl,rfl,rfl,b,c⟩,λH3 k=>.inr ⟨_,_,_,a,rfl,rfl,rfl,b,c⟩,rl⟩
    |tup hn hr rl=>
     cases e
     refine⟨_,_,rfl,.inl hr,λH3 k=>?_,rl⟩
     rcases hr with hr|⟨o,hr⟩
     · exact .inl (.inl (k _ _ (λz=>hn (.inr z)) hr))
     · exact .inl (.inr ⟨o,k _ _ (λz=>hn (.inr z)) hr⟩)
    |tupK a b c e' f rl=>cases e;exact⟨_,_,rfl,.inr ⟨_,_,_,a,b,c,e',f⟩,λH3 k=>.inr ⟨_,_,_,a,b,c,e',f⟩,rl⟩
    |_=>cases e
theorem ztn{l l':Expr}{fr:AF}{p pos:Pos}(hg:Gl X "zip")(hm:X.mg "zip"=none)(ha:AA X kd [l,l'] fr)(hs:starEach [l,l'] X.env=[(false,eval l X.env),(false,eval l' X.env)])(hs2:starEach [l'] X.env=[(false,eval l' X.env)]):
 AIc X kd tg (.Call (.Name "zip" p) [l,l'] [] pos) (zjy fr):=by
 with_unfolding_all (
 intro pins s σ H R I h
 obtain⟨F,B,ad,as,ds,as',Rl,e',q⟩:=h
 obtain⟨⟨rs,as1⟩,h1,e'⟩:=bS_ (show(fr as).bind _=_ from e')
 obtain⟨⟨o1,o2⟩,e1,e'⟩:=bS_ e'
 obtain⟨x1,e2,e'⟩:=bS_ e'
 obtain⟨x2,e3,e'⟩:=bS_ e'
 cases zod e1
 cases e'
 refine zty hg hm ha hs hs2 pins s σ H R I ⟨F,B,ad,as,_,as1,Rl,h1,λvs ad1 H1 R1 rv1 g1=>?_⟩
 cases rv1 with
 |cons r1 rr=>
  cases rr with
  |cons r2 rr=>
   cases rr
   obtain⟨a,vs,rfl,sa,ka,ra⟩:=zoE e2 r1
   obtain⟨b,ws,rfl,sb,kb,rb⟩:=zoE e3 r2
   refine⟨a,b,_,_,rfl,⟨_,sa⟩,⟨_,sb⟩,q _ ad1 H1 R1 g1 (ztZ (R1.trk true) (λH3 k=>ka H3 λb u n h=>k b u h) (λH3 k=>kb H3 λb u n h=>k b u h) (ra.less λa z=>?_) (rb.less λa z=>?_))⟩
   · have z1:=(Bool.and_eq_true_iff.mp z.1).1
     rw[z1];exact z.2
   · have z1:=(Bool.and_eq_true_iff.mp z.1).2
     rw[z1];exact z.2)
end
theorem szs(h:n<=1000000):n<=sizeLine:=zzM h (by decide)
section
variable{as:AS}{f fo a b:EF}{fr:AF}{s t:Bool}{x y z d:D}{c m:Str}{ns cs:List Str}{ds:List D}{tbl:List (Str×Fn)}{g:Fn}{o:O}
theorem zob(h:WD fo as s (.ob c ns ds))(hc:c ∈ cs)(hl:lkp ns ds n=some d):WD (f1 fo (yu cs n)) as (yd d||s) d:=by
 unfold WD f1 at *
 rw[h]
 show(if c ∈ cs then(lkp ns ds n).bind λd=>some (R0.im d)else none:Option R0).bind _=_
 rw[if_pos hc,hl]
 show(if(yd d||(some s).isSome)=true then _ else _:Option RV).bind _=_
 rw[if_pos (by simp)];rfl
theorem zgp(ho:WD fo as s (.ob c ns ds))(hm:m ∉ ns)(ht:lkT tbl c=some g)(hr:WA fr as rs)(hg:g ((s,.ob c ns ds)::rs.map λx=>(yd x.2||x.1,x.2))=some o):Z9 tbl m fo fr as=some (.ow o,as):=by
 unfold Z9;unfold WD at ho;unfold WA at hr
 rw[ho]
 show(if m ∈ ns then none else some c:Option Str).bind _=_
 rw[if_neg hm]
 show(lkT tbl c).bind _=_
 rw[ht]
 show(fr as).bind _=_
 rw[hr]
 show(Vi as (.ow (.lf s (.ob c ns ds))::rs.map _)).bind _=_
 show((Vi as (rs.map _)).bind _:Option (List (Bool×D))).bind _=_
 rw[zck]
 show(g ((s,.ob c ns ds)::_)).bind _=_
 rw[hg];rfl
theorem zuX(ho:WD fo as true (.ob c ns ds))(hm:m ∉ ns)(ht:lkT tbl c=some g)(hg:RE (g [(true,.ob c ns ds)]) z):WE (Z9 tbl m fo aN) as z:=by
 obtain⟨o,h1,h2,h3⟩:=hg
 exact⟨o,zgp ho hm ht zY h1,h2,h3⟩
theorem zyt(ho:WD fo as true (.ob c ns ds))(hm:m ∉ ns)(ht:lkT tbl c=some g)(ha:WE a as x)(hg:RE (g [(true,.ob c ns ds),(true,x)]) z):WE (Z9 tbl m fo (aC a aN)) as z:=by
 obtain⟨o,h1,h2,h3⟩:=hg
 exact⟨o,zgp ho hm ht (ZJ ha zY) (by show g [_,(yd x||true,x)]=_;rw[QzB];exact h1),h2,h3⟩
theorem zlD(ho:WD fo as true (.ob c ns ds))(hm:m ∉ ns)(ht:lkT tbl c=some g)(ha:WE a as x)(hb:WE b as y)(hg:RE (g [(true,.ob c ns ds),(true,x),(true,y)]) z):WE (Z9 tbl m fo (aC a (aC b aN))) as z:=by
 obtain⟨o,h1,h2,h3⟩:=hg
 exact⟨o,zgp ho hm ht (ZJ ha (ZJ hb zY)) (by show g [_,(yd x||true,x),(yd y||true,y)]=_;rw[QzB,QzB];exact h1),h2,h3⟩
theorem zuR(ho:WD fo as true (.ob c ns ds))(hm:m ∉ ns)(ht:lkT tbl c=some g)(ha:WE a as x)(hb:WE b as y)(he:WE e as w)(hg:RE (g [(true,.ob c ns ds),(true,x),(true,y),(true,w)]) z):WE (Z9 tbl m fo (aC a (aC b (aC e aN)))) as z:=by
 obtain⟨o,h1,h2,h3⟩:=hg
 exact⟨o,zgp ho hm ht (ZJ ha (ZJ hb (ZJ he zY))) (by show g [_,(yd x||true,x),(yd y||true,y),(yd w||true,w)]=_;rw[QzB,QzB,QzB];exact h1),h2,h3⟩
inductive SqD:D->List D->Prop
 |l (ds:List D):SqD (.lst ds) ds
 |t (ds:List D):SqD (.tup ds) ds
theorem zlC(st:Bool):∀(xs ys:List D),zeG st xs ys=(xs.zip ys).map λq=>(st,.tup [q.1,q.2])
 | [],_=>rfl
 |_::_,[]=>rfl
 |x::r,y::t=>congrArg (_ :: ·) (zlC st r t)
theorem zqF(ha:WE a as x)(hb:WE b as y)(hx:SqD x xs)(hy:SqD y ys):zjy (aC a (aC b aN)) as=some ((xs.zip ys).map λq=>(true,.tup [q.1,q.2]),as):=by
 have h:WA (aC a (aC b aN)) as [(true,x),(true,y)]:=ZJ ha (ZJ hb zY)
 unfold WA at h
 unfold zjy
 rw[h,<-zlC]
 cases hx<;>cases hy<;>rfl
theorem zjg:∀(l:List α),(∀q ∈ l,∃as1,gg (it q) as0=some as1/\WE fe as1 (h q))->∃os,Zt gg YM fe as0 (l.map it)=some os/\O.strs os=true/\O.toDs os=l.map h
 | [],_=>⟨[],rfl,rfl,rfl⟩
 |q::l,H=>by
  obtain⟨os,e1,e2,e3⟩:=zjg l λp m=>H p (zzB _ m)
  obtain⟨as1,h1,o,h2,h3,h4⟩:=H q zzD
  refine⟨o::os, ?_,by show(o.str&&O.strs os)=true;rw[h3,e2];rfl,by show o.toD::O.toDs os=_;rw[h4,e3];rfl⟩
  show Zt gg YM fe as0 (it q::l.map it)=_
  unfold Zt
  rw[h1];show((fe as1).bind _)=_
  rw[h2];show(if o.str=true then _ else _)=_
  rw[if_pos h3,e1];rfl
theorem zjc:∀(l:List α),(∀q ∈ l,∃as1,gg (it q) as0=some as1/\WT tt as1 (p q)/\(p q=true->WE fe as1 (h q)))->∃os,Zt gg tt fe as0 (l.map it)=some os/\O.strs os=true/\O.toDs os=(l.filter p).map h
 | [],_=>⟨[],rfl,rfl,rfl⟩
 |q::l,H=>by
  obtain⟨os,e1,e2,e3⟩:=zjc l λp m=>H p (zzB _ m)
  obtain⟨as1,h1,h2,h3⟩:=H q zzD
  cases hp:p q with
  |false=>
   rw[hp]at h2
   refine⟨os,zpq h1 h2 e1,e2, ?_⟩
   rw[List.filter_cons_of_neg (by simp[hp])];exact e3
  |true=>
   rw[hp]at h2
   obtain⟨o,k1,k2,k3⟩:=h3 hp
   refine⟨o::os, ?_,by show(o.str&&O.strs os)=true;rw[k2,e2];rfl, ?_⟩
   · unfold WT at h2
     show Zt gg tt fe as0 (it q::l.map it)=_
     unfold Zt
     rw[h1];show(tt as1).bind _=_
     rw[h2];show((fe as1).bind _)=_
     rw[k1];show(if o.str=true then _ else _)=_
     rw[if_pos k2,e1];rfl
   · rw[List.filter_cons_of_pos hp]
     show o.toD::O.toDs os=_
     rw[k3,e3];rfl
theorem zmr{fi:IF}{cap:List (Option Nat)}{gg:GF}{tt:TF}{fe:EF}{xs:List It1}{os:List O}{zs:List D}(h1:fi as=some (xs,as))(hl:xs.length<=1000000)(h2:Zt gg tt fe (zcw cap as) xs=some os)(hs:O.strs os=true)(e:O.toDs os=zs):WE (wG fi cap gg tt fe) as (.lst zs):=by
 refine⟨.nd .ls os, ?_,hs,congrArg D.lst e⟩
 unfold wG
 rw[h1];show(if xs.length<=sizeLine then _ else _)=_
 rw[if_pos (szs hl),h2];rfl
theorem Wd(l:List α)(h1:fi as=some (l.map it,as))(hl:l.length<=1000000)(H:∀q ∈ l,∃as1,gg (it q) (zcw cap as)=some as1/\WE fe as1 (h q)):WE (wG fi cap gg YM fe) as (.lst (l.map h)):=by
 obtain⟨os,e1,e2,e3⟩:=zjg l H
 exact zmr h1 (by rw[zS];exact hl) e1 e2 e3
theorem zvg(l:List α)(h1:fi as=some (l.map it,as))(hl:l.length<=1000000)(H:∀q ∈ l,∃as1,gg (it q) (zcw cap as)=some as1/\WT tt as1 (p q)/\(p q=true->WE fe as1 (h q))):WE (wG fi cap gg tt fe) as (.lst ((l.filter p).map h)):=by
 obtain⟨os,e1,e2,e3⟩:=zjc l H
 exact zmr h1 (by rw[zS];exact hl) e1 e2 e3
def Rt(r:Option Out)(x:D):Prop:=∃o,r=some (.rt o)/\o.str=true/\o.toD=x
theorem yr{n m:Nat}{c:SF}{ds:List (Bool×D)}{x:D}(hl:ds.length=m)(h:Rt (c (Wy n ds)) x):RE (fnR n m c ds) x:=by
 obtain⟨o,h1,h2,h3⟩:=h
 exact⟨o,Va hl h1,h2,h3⟩
theorem zp{f g:SF}{as as1:AS}{x:D}(h1:f as=some (.nx as1))(h2:Rt (g as1) x):Rt (zH f g as) x:=by
 obtain⟨o,e,h⟩:=h2
 exact⟨o,yw h1 e,h⟩
theorem yD{f g:SF}{as:AS}{x:D}(h1:Rt (f as) x):Rt (zH f g as) x:=by
 obtain⟨o,e,h⟩:=h1
 exact⟨o,zap e,h⟩
theorem yU{c:TF}{f g:SF}{as:AS}{x:D}(h:WT c as true)(h1:Rt (f as) x):Rt (sIf c f g as) x:=by
 obtain⟨o,e,h2⟩:=h1
 exact⟨o,Yd h e,h2⟩
theorem zR(h:WE f as x):Rt (zT f as) x:=by
 obtain⟨o,h1,h2,h3⟩:=h
 refine⟨o, ?_,h2,h3⟩
 unfold zT;rw[h1]
 show((if o.str=true then some o else none).bind _)=_
 rw[if_pos h2];rfl
theorem RE.lf(h:r=some (.lf true x)):RE r x:=⟨_,h,rfl,rfl⟩
theorem zhf{c:TF}(h:WT c as true)(ha:WE a as x):WE (fIf c a b) as x:=by
 obtain⟨o,h1,h2,h3⟩:=ha
 exact⟨o,by unfold fIf;unfold WT at h;rw[h];exact h1,h2,h3⟩
theorem zhl{c:TF}(h:WT c as false)(hb:WE b as x):WE (fIf c a b) as x:=by
 obtain⟨o,h1,h2,h3⟩:=hb
 exact⟨o,by unfold fIf;unfold WT at h;rw[h];exact h1,h2,h3⟩
theorem zco{g:List D->Option R0}(ha:WE a as x)(hg:g [x]=some (.im z)):WE (fP (aC a aN) g) as z:=WD.e (zwT ha hg)
theorem zqj{fd:DF}{os:List O}{zs:List D}(h:WO fd as os)(hl:os.length<=1000000)(hs:O.strs os=true)(e:O.toDs os=zs):WE (xm fd) as (.tup zs):=by
 refine⟨Wx os,zhr h (szs hl), ?_, ?_⟩
 · unfold Wx;split
   · exact hs
   · exact hs
 · subst e
   unfold Wx;split
   · rfl
   · rfl
theorem zvS{fd:DF}{os:List O}(h:WE a as x)(hr:WO fd as os):∃o,o.str=true/\o.toD=x/\WO (dC a fd) as (o::os):=by
 obtain⟨o,h1,h2,h3⟩:=h
 exact⟨o,h2,h3,zko h1 hr⟩
theorem zov(ha:WE a as x):WE (xm (dC a dN)) as (.tup [x]):=by
 obtain⟨o,h1,rfl,h3⟩:=zvS ha yV
 exact zqj h3 (by show 1<=_;omega) (by show(o.str&&true)=true;rw[h1];rfl) rfl
theorem wB(ha:WE a as x)(hb:WE b as y):WE (xm (dC a (dC b dN))) as (.tup [x,y]):=by
 obtain⟨p,k1,rfl,k3⟩:=zvS hb yV
 obtain⟨o,h1,rfl,h3⟩:=zvS ha k3
 exact zqj h3 (by show 2<=_;omega) (by show(o.str&&(p.str&&true))=true;rw[h1,k1];rfl) rfl
theorem zbv{g:D->D->Option R0}(ha:WE a as x)(hb:WE b as y)(hg:g x y=some (.im z)):WE (f2 a b g) as z:=WD.e (f2E ha hb hg)
end
open AutoSeq1 (wpAny_loadPart')
section
variable{X:Cx}{kd:KD}
def zwW(x y:D):Option R0:=onI (λi j=>if 0<=j/\j<=1000000/\i.natAbs<2 ^ 64 then some (.im (.int (i*2 ^ j.toNat)))else none) x y
theorem ztN:OpD X kd (binaryOp .LShift) zwW:=by
 intro pins s σ H x y v u Q I rx ry h
 obtain⟨O,d,e,r,ht,vx,vy,he,q⟩:=h
 obtain⟨i,j,rfl,rfl,he⟩:=Vx vx vy he
 obtain⟨c,rfl⟩:=ye he
 exact zvi pins s σ H _ _ v u Q I rx ry ⟨_,_,rfl,rfl,c,yO q (.int _)⟩
end
def zys(s:Shared)(n:Nat)(a c:Int)(s':Shared):Prop:=∃h' tk acc c',s'={s with heap:=h',toks:=tk}/\(∀b o,s.heap.get? b=some o->h'.get? b=some o)/\h'.get? s.heap.objs.size=some {cls:=.type "list",dict:=none,data:=.seq acc c',slots:=#[]}/\ItemsOf (λi v=>∃t,v = .int (a+i*c) t) acc n
section
variable{prog:Program}{w:World}{A:Around}{E:Value->Shared->Prop}{s:Shared}
theorem ziC{Q:List Value->Shared->Prop}{r:Addr}{a b c:Int}{t u v:Tok}{n:Nat}(hh:A.handled=none)(hr:IsRange s.heap r a b c t u v)(hsmall:Builtin.Range.small a b c=true)
 (hn:Builtin.Range.rangeSize a b c=n) (hlen:n<=2 ^ 24)
 (hQ:∀h' tk (acc':Array Value),(∀b o,s.heap.get? b=some o->h'.get? b=some o)->ItemsOf (λi v=>∃t,v = .int (a+i*c) t) acc' n->Q acc'.toList {s with heap:=h',toks:=tk}):
 wpAny (model prog w) A (collect (.ref r)) Q E s:=by
 unfold collect
 refine QyD (wpAny_runValue (QyL F.entry_proto_collect ?_))
 rw[QyJ F.plain_proto_collect _]
 show wpAny _ A.in1 (newList [] >>= λl=>again (.builtin "list.__iadd__" ⟨[l,.ref r],[]⟩)) _ _ s
 refine QyD (QyI ?_)
 refine QyE ⟨plainId_quiet F.plain_list_iadd _,QyL F.entry_list_iadd ?_⟩
 rw[QyJ F.plain_list_iadd _]
 show wpAny _ A.in1 (Builtin.List.listExtendWith (.ref s.heap.objs.size) (.ref r) (.ref s.heap.objs.size)) _ _ _
 have hS:(s.heap.push {cls:=.type "list",data:=.seq ([]:List Value).toArray}).get? s.heap.objs.size=some {cls:=.type "list",data:=.seq #[] 0}:=QyH _ rfl
 have fin':∀s',zys s n a c s'->wpAny (model prog w) A (match Value.ref s.heap.objs.size with
  |Value.ref a=>do
   match(<-load a).data with
    |Data.seq xs _=>pure xs.toList
    |_=>unsupported "internal:collect"
  |_=>unsupported "internal:collect") Q E s':=by
  intro s' h
  obtain⟨h',tk,acc,c',rfl,hk,hS',hacc⟩:=h
  show wpAny _ A (load s.heap.objs.size >>= _) _ _ _
  refine QyD (wpAny_load hS' ?_)
  exact QyE (hQ h' tk acc hk hacc)
 refine QyN (wpAny_extend_range (A:=A) (s:={s with heap:=s.heap.push {cls:=.type "list",data:=.seq ([]:List Value).toArray}}) (R:=λr s'=>r = .ok (.ret (.ref s.heap.objs.size))/\zys s n a c s') hh (QyF _ hr) hsmall hn hlen _ _ 0 hS ?_) (λfin s' h=>?_) (λe s' h=>?_)
 · intro h' tk acc c' hk hS' hacc
   exact⟨rfl,h',tk,acc,c',rfl,λb o e=>hk b o (zzO (QyG e)) (QyF _ e),hS',hacc⟩
 · cases fin with
   |done f=>
    obtain⟨e,h⟩:=h
    cases e
    exact fin' _ h
   |again c'=>exact⟨h.1,codeAny_mono h.2 λr s'' hr=>by obtain⟨rfl,hr⟩:=hr;exact fin' _ hr⟩
 · exact absurd h.1 (by simp)
end
theorem zgb(r:Addr){b:Int}{t u v:Tok}{n:Nat}(hsmall:Builtin.Range.small 0 b 1=true)(hn:Builtin.Range.rangeSize 0 b 1=n)(hlen:n<=2 ^ 24):
 Meets (Builtin.«tuple.__new__» ⟨[.type "tuple",.ref r],[]⟩) (λA R s=>A.handled=none/\IsRange s.heap r 0 b 1 t u v/\∀(h':Heap) (tk:Nat) (acc':Array Value),(∀b o,s.heap.get? b=some o->h'.get? b=some o)->ItemsOf (λi v=>∃t,v = .int (0+i*1) t) acc' n->R (.ok (.ret (.ref h'.objs.size))) {s with heap:=h'.push {cls:=.type "tuple",data:=.seq acc'},toks:=tk}):=
 .of_wp λprog w A R s h=>by
  obtain⟨hp,g,d,tk,os⟩:=s;obtain⟨hh,hr,h⟩:=h
  have hsub:=sub_tuple_self
  have hinit:=init_tuple_lookup
  have hmh:=madeHere_tuple
  have hT:Shared.TypeIs ⟨hp,g,d,tk,os⟩ (.ref r) "range":=⟨_,hr,rfl⟩
  wp_walk using wpAny_loadPart' hr,wpAny_typeOf hT,ziC (A:=A.in1) hh hr hsmall hn hlen
  intro h' tk' acc hk hacc
  show wpAny _ _ (Builtin.Tuple.tupleExact acc.toList.toArray >>= λv=>ret v) _ _ _
  unfold Builtin.Tuple.tupleExact
  refine QyD (QyI ?_ (by show acc.toList.toArray.size<=sizeLine;simp only[Array.toArray_toList];rw[hacc.1];exact hlen))
  refine QyE ⟨_,rfl, ?_⟩
  have e:acc.toList.toArray=acc:=by simp
  rw[e]
  exact h h' tk' acc hk hacc
section
variable{prog:Program}{w:World}{A:Around}{E:Value->Shared->Prop}{s:Shared}
theorem zgQ{r:Addr}{b:Int}{t u v:Tok}{n:Nat}{Q:Value->Shared->Prop}(hh:A.handled=none)(hr:IsRange s.heap r 0 b 1 t u v)(hsmall:Builtin.Range.small 0 b 1=true)(hn:Builtin.Range.rangeSize 0 b 1=n)(hlen:n<=2 ^ 24)
 (h:∀(h':Heap) (tk:Nat) (acc':Array Value),(∀b o,s.heap.get? b=some o->h'.get? b=some o)->ItemsOf (λi v=>∃t,v = .int (0+i*1) t) acc' n->Q (.ref h'.objs.size) {s with heap:=h'.push {cls:=.type "tuple",data:=.seq acc'},toks:=tk}):
 wpAny (model prog w) A (call (.type "tuple") [.ref r]) Q E s:=
 callType_new F.called_tuple (by decide) (F.typeCall_tuple_1 _) (F.newCall_tuple_1 _) (λobj=>F.args_object_init_2 obj _) F.entry_tuple_new
  (zgb r hsmall hn hlen) ⟨hh,hr,λh' tk acc hk hacc=>⟨⟨_,QyH _ rfl,rfl⟩,h h' tk acc hk hacc⟩⟩
end
section
variable{X:Cx}{tg:Expr}
def tTR(ta:TA):TE:=λσ H Q=>zst (zvA ta) zus σ H λvs H2=>∃r H1,∃j:Int,vs=[.ref r]/\H1 r=none/\H2=upd H1 r (.rng 0 j)/\0<=j/\j<=100000/\∀l,H2 l=none->Q (.ref l) (upd H2 l (.tup ((List.range j.toNat).map λ(i:Nat)=>V.int i)))
theorem zpG(hc:X.calm=true)(hg:Gl X "range")(hm:X.mg "range"=none)(hgl:Gl X "tuple")(hml:X.mg "tuple"=none)(ha:PA X [a] ta)(hs:starEach [a] X.env=[(false,eval a X.env)])
 (hs':starEach [.Call (.Name "range" p) [a] [] pos] X.env=[(false,eval (.Call (.Name "range" p) [a] [] pos) X.env)]):PE X (.Call (.Name "tuple" p') [.Call (.Name "range" p) [a] [] pos] [] pos') (tTR ta):=by
 intro pins s σ H Q I h
 refine Call_ (zbO I hgl hml Bt.tuple (PyProof.Rows.callWith_type1 (thn ((zcp (zlS hg hm ha hs) zhB hs') pos' pins s σ H (λvs H2=>∃r H1,∃j:Int,vs=[.ref r]/\H1 r=none/\H2=upd H1 r (.rng 0 j)/\0<=j/\j<=100000/\∀l,H2 l=none->Q (.ref l) (upd H2 l (.tup ((List.range j.toNat).map λ(i:Nat)=>V.int i)))) I ?_) λus s1 ⟨vs,H2,I2,r1,q1⟩=>?_) hs' rfl))
 · exact h
 obtain⟨r,H1,j,rfl,hn,rfl,h0,h1,q⟩:=q1
 cases r1 with
 |cons rr rs=>
  cases rs
  cases rr
  obtain⟨t,u,v,ho⟩:=I2.hok r _ (yH ..)
  have hsz:Builtin.Range.rangeSize 0 j 1=(j.toNat:Nat):=by rw[rangeSize_one];split<;>omega
  refine zgQ (I2.ok.hd hc) ho (small_one (by omega) (by omega) (by omega) (by omega)) (n:=j.toNat) (by exact_mod_cast hsz) (by omega) λh' tk acc hk hit=>?_
  have I3:=I2.kept (t':=tk) hk
  refine⟨.ref h'.objs.size,_,I3.laid (t':=tk) (λb o e=>QyF _ e) (zzL _) (show Zj X.prog X.w _ _ _ (.tup ((List.range j.toNat).map λ(i:Nat)=>V.int i))from⟨?_,acc.toList, ?_, ?_⟩),rfl,q _ (I3.hok.fresh (zzL _))⟩
  · rw[zS,QzS];exact zzM (show j.toNat<=100000 by omega) (by decide)
  · refine zbW (by rw[zS,QzS];simpa using hit.1.symm) λi x y hx hy=>?_
    rw[zzG]at hx
    obtain⟨tk',e⟩:=hit.2 i y (by simpa using hy)
    cases hr:(List.range j.toNat)[i]? with
    |none=>rw[hr]at hx;cases hx
    |some k=>
     rw[hr]at hx
     obtain⟨_,hk'⟩:=zzE.mp hr
     rw[List.getElem_range]at hk'
     subst hk'
     cases hx
     exact⟨tk',by rw[e];simp⟩
  · have e:acc.toList.toArray=acc:=by simp
    rw[e]
    exact IsTup.new _ _
end
section
variable{X:Cx}{kd:KD}
def trP:List D->Option R0:=on1 λd=>(asI d).bind λj=>if 0<=j/\j<=100000 then some (.im (.tup ((List.range j.toNat).map λ(i:Nat)=>.int i)))else none
theorem zpr(hc:X.calm=true)(hg:Gl X "range")(hm:X.mg "range"=none)(hgl:Gl X "tuple")(hml:X.mg "tuple"=none)(ha:AA X kd [a] fr)(hs:starEach [a] X.env=[(false,eval a X.env)])
 (hs':starEach [.Call (.Name "range" p) [a] [] pos] X.env=[(false,eval (.Call (.Name "range" p) [a] [] pos) X.env)]):AE X kd (.Call (.Name "tuple" p') [.Call (.Name "range" p) [a] [] pos] [] pos') (fP fr trP):=by
 with_unfolding_all exact(xr (zpG hc hg hm hgl hml ha hs hs') λσ H Q h=>by
  obtain⟨F,B,ad,as,r,as',R,e,q⟩:=h
  obtain⟨⟨rs,as1⟩,h1,e⟩:=bS_ (show(fr as).bind _=_ from e)
  obtain⟨⟨ds,lv⟩,h2,e⟩:=bS_ e
  obtain⟨r0,h3,e⟩:=bS_ e
  obtain⟨z,h4,e⟩:=bS_ e
  cases e
  refine(show alA X.K kd fr σ H _ from⟨F,B,ad,as,rs,as1,R,h1,λvs ad1 H1 R1 rv1 g1=>?_⟩)
  have vl:=zcs R1 rv1 h2
  have rq:=Y0 R1 h4 (Q:=Q) λw T' H' R' rv' g'=>q w T' ad1 H' R' rv' (g1.trans g')
  obtain⟨x,d,rfl,v1,h3⟩:=zeH vl h3
  obtain⟨j,h6,h3⟩:=bS_ h3
  obtain⟨⟨b1,b2⟩,e3⟩:=ye h3
  cases e3
  obtain⟨rfl,rfl⟩:=VL v1 h6
  refine⟨j,rfl,by omega,by omega,λr hr=>⟨r,H1,j,rfl,hr,rfl,b1,b2,λl hl=>?_⟩⟩
  have hlr:l≠r:=λe=>by rw[e,yH]at hl;cases hl
  have hl1:H1 l=none:=by rw[yg hlr]at hl;exact hl
  exact rq (.ref l) _ (λb o q=>YB hl b o (YB hr b o q)) (.tup (λz=>R1.tr _ l z hl1) (.inl yH) (zkS _)))
def rvP(x:D)(lo hi:Option Int):Option R0:=(asL x).bind λxs=>if lo=none/\hi=some (-1)then some (.fl xs.reverse)else none
theorem zlx:∀r:List Value,(List.range r.length).filterMap (λk=>r[k]?)=r
 | []=>rfl
 |a::r=>by
  rw[zzR,List.range_succ_eq_map,List.filterMap_cons,List.filterMap_map]
  show a::(List.range r.length).filterMap (λk=>r[k]?)=_
  rw[zlx r]
theorem zaT:∀{l:List α},(∀a ∈ l,f a=g a)->l.filterMap f=l.filterMap g
 | [],_=>rfl
 |a::l,h=>by rw[List.filterMap_cons,List.filterMap_cons,h a zzD,zaT λb hb=>h b (zzB _ hb)]
theorem zrZ(l:List Value):slicePick l.toArray none none (some (-1))=l.reverse.toArray:=by
 have e:sliceBounds none none (some (-1)) l.toArray.size=((l.length:Int)-1, -1, -1):=by
  rw[zzF]
  rfl
 unfold slicePick
 rw[e]
 have e2:(sliceRange ((l.length:Int)-1) (-1) (-1))=(List.range l.length).map λk=>l.length-1-k:=by
  unfold sliceRange
  rw[if_neg (by decide)]
  rcases Nat.eq_zero_or_pos l.length with h|h
  · rw[h];rfl
  · rw[if_pos (by omega),Int.neg_neg,Int.ediv_one]
    have:((l.length:Int)-1 - -1 - -1-1).toNat=l.length:=by omega
    show List.map _ (List.range ((l.length:Int)-1 - -1 - -1-1).toNat)=_
    rw[this]
    refine List.map_congr_left λk hk=>?_
    have:=List.mem_range.mp hk
    omega
 show((sliceRange ((l.length:Int)-1) (-1) (-1)).filterMap (l.toArray[·]?)).toArray=_
 rw[e2]
 congr 1
 rw[List.filterMap_map]
 have e3:(List.range l.length).filterMap (λk=>l.toArray[l.length-1-k]?)=(List.range l.reverse.length).filterMap (λk=>l.reverse[k]?):=by
  rw[List.length_reverse]
  refine zaT λk hk=>?_
  rw[List.getElem?_reverse (List.mem_range.mp hk)]
  simp
 exact e3.trans (zlx _)
theorem zsG{K:zD}{O:Addr->Prop}{H:Hp}{vs:List V}{ds:List D}(r:RpL K kd O H vs ds):RpL K kd O H vs.reverse ds.reverse:=RpL.ind (P:=λvs ds=>RpL K kd O H vs.reverse ds.reverse) .nil (λa _ ih=>by
 rw[List.reverse_cons,List.reverse_cons]
 exact ih.append (.cons a .nil)) r
theorem zwd{e st:Expr}{te:TE}{th:TO}{p2 pos:Pos}(he:PE X e te)(hst:PO X (some st) th):PE X (.Subscript e (.Slice none none (some st) p2) pos)
 (tSl (λx lo u H Q=>∃a xs,x = .ref a/\SqL X.K H a xs/\u=some (-1)/\∀p,H p=none->Q (.ref p) (upd H p (.lst xs.reverse))) te zoJ th):=by
 intro pins s σ H Q I h
 refine Subscript_ (thn (he pins s σ H _ I h) λv s1 ⟨x,H1,I1,r1,q1⟩=>?_)
 refine wpAny_Slice ?_
 rw[evalPart_none]
 refine QyE (QyE (thn (hst pins s1 σ H1 _ I1 q1) λvu s3 ⟨u,H3,I3,pu,q3⟩=>?_))
 have I4:Inv X pins σ H3 {s3 with heap:=s3.heap.push {cls:=.type "slice",data:=.fields #[.none,.none,vu]}}:=I3.kept (t':=s3.toks) λb ob q=>QyF _ q
 obtain⟨a,xs,rfl,hx,rfl,q⟩:=q3
 cases r1
 obtain⟨its,r',pl,hz⟩:=I4.list hx
 have hlen:=r'.length
 show wpAny (model X.prog X.w) X.A (subscriptTail e (.Slice none none (some st) p2) (.ref a) (.ref s3.heap.objs.size)) (EP X pins σ Q) X.xe {s3 with heap:=s3.heap.push {cls:=.type "slice",data:=.fields #[.none,.none,vu]}}
 refine tail_any (ops:=[.ref a,.ref s3.heap.objs.size]) pl.isList.typeIs slot_list_getitem.lookup (wpAny_getItem_list_slice pl.isList (Heap.IsSliceOf.new ..) .none .none pu (by decide) ?_ (by rw[zzF];omega)) (by with_unfolding_all rfl)
 rw[zrZ]
 exact⟨.ref _,_,I4.lnew (t':=s3.toks) r'.reverse (by rw[List.length_reverse];exact hz),rfl,q _ I4.fresh⟩
theorem zvc{a st:Expr}{fa fs:EF}{pos p2:Pos}(ha:AE X kd a fa)(hs:AE X kd st fs):AE X kd (.Subscript a (.Slice none none (some st) p2) pos) (fSl fa oN (oS fs) rvP):=by with_unfolding_all exact(xr (zwd ha (Z8 hs)) λσ H Q h=>by
 obtain⟨F,B,ad,as,r,as',R,e,q⟩:=h
 obtain⟨⟨p,as1⟩,h1,e⟩:=bS_ (show(fa as).bind _=_ from e)
 obtain⟨⟨l,as2⟩,h2,e⟩:=bS_ e
 cases h2
 obtain⟨⟨u,as3⟩,h3,e⟩:=bS_ e
 obtain⟨⟨d,lv⟩,h4,e⟩:=bS_ e
 obtain⟨r',h5,e⟩:=bS_ e
 obtain⟨z,h6,e⟩:=bS_ e
 cases e
 obtain⟨xs,h7,h5⟩:=bS_ (show(asL d).bind _=_ from h5)
 obtain⟨c,e5⟩:=ye h5
 cases e5
 refine YD R h1 λv ad1 H1 R1 rv1 g1=>⟨F,B,ad1,as1,u,_,R1,h3,λad3 H3 R3 g3=>?_⟩
 have vx:=vZ.vw R3 (rv1.grow g3) h4
 have rq:=Y0 R3 h6 (Q:=Q) λw T' H' R' rv' g'=>q w T' ad3 H' R' rv' ((g1.trans g3).trans g')
 cases zgC h7
 cases vx with
 |lst hr rl=>exact⟨_,_,rfl,hr.sq,c.2,zdp rq (zsG rl)⟩)
end
def ztm(n:Nat)(K:zD)(kd:KD)(F B:Addr->Prop)(ad:Ad)(σ:St)(H:Hp)(D:Ends):Out->Prop
 | .nx as'=>∀σ' ad' H',(∀i,i<n->σ'[i]? = σ[i]?)->Rel K kd F B [] ad' as' σ' H'->Grow (Gw [] ad) H (Gw [] ad') H'->D.nx σ' H'
 | .bk as'=>∀σ' ad' H',(∀i,i<n->σ'[i]? = σ[i]?)->Rel K kd F B [] ad' as' σ' H'->Grow (Gw [] ad) H (Gw [] ad') H'->D.bk σ' H'
 | .ct as'=>∀σ' ad' H',(∀i,i<n->σ'[i]? = σ[i]?)->Rel K kd F B [] ad' as' σ' H'->Grow (Gw [] ad) H (Gw [] ad') H'->D.ct σ' H'
 | .rt _=>False
def bp(n:Nat)(K:zD)(kd:KD)(f:SF):TS:=λD σ H=>∃F B ad as o,Rel K kd F B [] ad as σ H/\f as=some o/\ztm n K kd F B ad σ H D o
@[irreducible] def AP(X:Cx)(kd:KD)(n:Nat)(st:Stmt)(f:SF):Prop:=PS X st (bp n X.K kd f)
@[irreducible] def APs(X:Cx)(kd:KD)(n:Nat)(st:List Stmt)(f:SF):Prop:=PSs X st (bp n X.K kd f)
theorem ztm.pre{n:Nat}{K:zD}{kd:KD}{F B:Addr->Prop}{ad ad1:Ad}{σ σ1:St}{H H1:Hp}{D:Ends}{o:Out}(s:∀i,i<n->σ1[i]? = σ[i]?)(g:Grow (Gw [] ad) H (Gw [] ad1) H1)(h:ztm n K kd F B ad σ H D o):ztm n K kd F B ad1 σ1 H1 D o:=by
 cases o with
 |nx as=>exact λσ' ad' H' s' R g'=>h σ' ad' H' (λi hi=>(s' i hi).trans (s i hi)) R (g.trans g')
 |bk as=>exact λσ' ad' H' s' R g'=>h σ' ad' H' (λi hi=>(s' i hi).trans (s i hi)) R (g.trans g')
 |ct as=>exact λσ' ad' H' s' R g'=>h σ' ad' H' (λi hi=>(s' i hi).trans (s i hi)) R (g.trans g')
 |rt _=>exact h
section
variable{X:Cx}{kd:KD}{n:Nat}{e c tg iter:Expr}{st:Stmt}{rest sts body:List Stmt}{fa:EF}{ta:TF}{f g:SF}{pos pos':Pos}
theorem zgO(h1:AP X kd n st f)(h2:APs X kd n rest g):APs X kd n (st::rest) (zH f g):=by with_unfolding_all exact(zec (zbL h1 h2) λD σ H h=>by
 obtain⟨F,B,ad,as,o,R,e,q⟩:=h
 obtain⟨o1,e1,e⟩:=bS_ (show(f as).bind _=_ from e)
 refine⟨F,B,ad,as,o1,R,e1, ?_⟩
 cases o1 with
 |nx as1=>exact λσ' ad' H' s' R' g'=>⟨F,B,ad',as1,o,R',e,q.pre s' g'⟩
 |bk as1=>cases e;exact q
 |ct as1=>cases e;exact q
 |rt r=>cases e;exact q)
theorem zoe(h1:AP X kd n st f):APs X kd n [st] f:=by with_unfolding_all exact(zgo h1)
theorem ztg(he:AE X kd e fa)(hs:swapsWith e none pos.line X.env=pure false):AP X kd n (.Expr e pos) (wQ fa):=by with_unfolding_all exact(ZG (zgm he hs) λD σ H h=>by
 obtain⟨F,B,ad,as,o,R,e,q⟩:=h
 obtain⟨⟨p,as1⟩,h1,e⟩:=bS_ (show(fa as).bind _=_ from e)
 cases e
 exact⟨F,B,ad,as,p,as1,R,h1,λv T' ad' H' R' rv g=>q σ ad' H' (λ_ _=>rfl) R'.drop (g.trans (Grow.less Gw.drop))⟩)
theorem zwe(hn:n<=i)(hN:X.N.Nodup)(hi:X.N[i]? = some x)(hx:Loc X.env.scope x)(he:AE X kd e fa)(hs:swapsWith e (some (.Name x pos')) pos.line X.env=pure false)(hf:X.fn x=true\/X.env.scope.names.lookup x=some .local):
 AP X kd n (.Assign [.Name x pos'] e pos) (zQ z i fa):=by with_unfolding_all exact(ZG (zrp hN hi hx he hs hf) λD σ H h=>by
 obtain⟨F,B,ad,as,o,R,e,q⟩:=h
 obtain⟨⟨p,as1⟩,h1,e⟩:=bS_ (show(fa as).bind _=_ from e)
 obtain⟨⟨y,as2⟩,h2,e⟩:=bS_ e
 obtain⟨hl,e⟩:=ye e
 cases e
 refine⟨F,B,ad,as,p,as1,R,h1,λv T' ad' H' R' rv g=>?_⟩
 obtain⟨ad2,R2,le⟩:=zmY R' rv h2 hl
 exact q _ ad2 H' (λk hk=>zzW (by omega)) R2 (g.trans (Grow.less le)))
theorem zvW(hS:∀i,i<n->i ∉ S)(hp:PassesOwn (model X.prog X.w) X.A X.env X.xe)(hc:X.calm=true)(hi:AI X kd tg iter fi)(hg:AG X kd tg S gt)(hb:APs X kd n body f)(hs:∀x,foldedSetIterable iter X.env x=pure x):
 AP X kd n (.For tg iter body [] pos) (vI fi gt f):=by with_unfolding_all exact(ZG (zrz hp hc hi hg hb hs) λD σ H h=>by
 obtain⟨F,B,ad,as,o,R,e,q⟩:=h
 obtain⟨⟨ds,as1⟩,h1,e⟩:=bS_ (show(fi as).bind _=_ from e)
 refine⟨F,B,ad,as,ds,as1,R,h1,λJ ad1 H1 R1 g1 it=>?_⟩
 refine⟨λi m σ2 H2=>m+i=ds.length/\∃ad2 as2,(∀k,k<n->σ2[k]? = σ[k]?)/\Rel X.K kd F B [] ad2 as2 σ2 H2/\Grow (Gw [] ad1) H1 (Gw [] ad2) H2/\forL gt f (ds.drop i) as2=some o,⟨ds.length,rfl,ad1,as1,λ_ _=>rfl,R1,Grow.refl,e⟩, ?_⟩
 rintro i m σ2 H2 ⟨hm,ad2,as2,s2,R2,g2,e2⟩
 obtain⟨k1,k2,k3⟩:=it.all ad2 H2 g2 R2.trk i
 by_cases hi:i<ds.length
 · refine .inr ⟨k1 hi,λσ3 H3=>∃ad3 as3,(∀k,k<n->σ3[k]? = σ[k]?)/\Rel X.K kd F B [] ad3 as3 σ3 H3/\Grow (Gw [] ad1) H1 (Gw [] ad3) H3/\forL gt f (ds.drop (i+1)) as3=some o,λσ3 H3 ⟨ad3,as3,s3,R3,g3,e3⟩=>⟨m-1,by omega,by omega,ad3,as3,s3,R3,g3,e3⟩,λv H3 hy=>?_⟩
   obtain⟨kp,rp⟩:=k3 v H3 hy
   rw[QzO hi]at e2
   obtain⟨as3,e3,e2⟩:=bS_ (show(gt _ as2).bind _=_ from e2)
   obtain⟨o3,e4,e2⟩:=bS_ e2
   obtain⟨R3,g3⟩:=R2.more kp
   refine⟨F,B,ad2,as2,_,as3,R3,rp _ (zzC hi),e3,λσ4 ad4 H4 R4 g4 s4=>?_⟩
   refine⟨F,B,ad4,as3,o3,R4,e4, ?_⟩
   have gg:=(g2.trans g3).trans g4
   have s4':∀k,k<n->σ4[k]? = σ[k]? := λk hk=>(s4 k (hS k hk)).trans (s2 k hk)
   cases o3 with
   |nx as5=>exact λσ5 ad5 H5 s5 R5 g5=>⟨ad5,as5,λk hk=>(s5 k hk).trans (s4' k hk),R5,gg.trans g5,e2⟩
   |ct as5=>exact λσ5 ad5 H5 s5 R5 g5=>⟨ad5,as5,λk hk=>(s5 k hk).trans (s4' k hk),R5,gg.trans g5,e2⟩
   |bk as5=>
    cases e2
    exact λσ5 ad5 H5 s5 R5 g5=>q σ5 ad5 H5 (λk hk=>(s5 k hk).trans (s4' k hk)) R5 (g1.trans (gg.trans g5))
   |rt r=>cases e2;exact q.elim
 · refine .inl ⟨k2 (by omega), ?_⟩
   rw[List.drop_eq_nil_of_le (by omega)]at e2
   cases e2
   exact q σ2 ad2 H2 s2 R2 (g1.trans g2))
end
section
variable{K:zD}{kd:KD}{F B:Addr->Prop}{ad:Ad}{as:AS}{σ:St}{H H':Hp}
def G1(G:Addr->Prop)(T T':List Addr):Addr->Prop:=λa=>(G a/\a ∉ T)\/a ∈ T'
theorem Rel.chg1(R:Rel K kd F B [] ad as σ H)(hi:i<as.length)(s0:σ[i]? = some (some v0))(nd:T0.Nodup)
 (sub:∀a ∈ T0,a ∈ ad i\/H a=none) (kp:∀c u,H c=some u->c ∉ ad i->H' c=some u) (al:∀a ∈ T0,H' a≠none)
 (r0:RoS K kd F B (G1 (Gw [] ad) (ad i) T0) H' v0 o0 T0):
 Rel K kd F B [] (YG ad i T0) (as.set i (some o0)) σ H'/\Grow (Gw [] ad) H (Gw [] (YG ad i T0)) H':=by
 have ai:YG ad i T0 i=T0:=yK
 have ak:∀k,k≠i->YG ad i T0 k=ad k:=λk h=>yP h
 have off:∀k a,k≠i->a ∈ ad k->a ∉ ad i:=λk a h m z=>h (R.inj k i a m z)
 have gw:∀a,Gw [] (YG ad i T0) a->G1 (Gw [] ad) (ad i) T0 a:=λa z=>by
  rcases z with z|⟨k,z⟩
  · exact nomatch z
  · by_cases e:k=i
    · subst e;rw[ai]at z;exact .inr z
    · rw[ak k e]at z;exact .inl ⟨.inr ⟨k,z⟩,off k a e z⟩
 have nin:∀k a,k≠i->a ∈ ad k->a ∉ T0:=λk a h m z=>(sub a z).elim (off k a h m) λy=>(R.gtr a (.inr ⟨k,m⟩)).1 y
 have g:Grow (Gw [] ad) H (Gw [] (YG ad i T0)) H':=⟨λb o h n=>kp b o h λz=>n (.inr ⟨i,z⟩),λb z=>(gw b z).elim (λy=>.inl y.1) λy=>(sub b y).elim (λx=>.inl (.inr ⟨i,x⟩)) .inr⟩
 have kn:∀a,H a≠none->a ∉ ad i->H' a≠none:=λa h n=>by
  cases e:H a with
  |none=>exact absurd e h
  |some u=>rw[kp a u e n];simp
 have own:∀a,a ∈ ad i->Gw [] ad a:=λa z=>.inr ⟨i,z⟩
 refine⟨⟨by rw[zzS];exact R.len,λk hk=>?_,λk=>?_,λk l a h1 h2=>?_,QzH,(λ_ _ _ z=>nomatch z),λa z=>kn a (R.ftr a z) λy=>(R.gtr a (own a y)).2 z,λa z=>?_,λa z=>?_,λk s e=>?_⟩,g⟩
 · rw[zzS]at hk
   rw[ak k (by omega)];exact R.out k hk
 · by_cases e:k=i
   · subst e;rw[ai];exact nd
   · rw[ak k e];exact R.nd k
 · by_cases e:k=i
   · subst e;rw[ai]at h1
     by_cases e':l=k
     · exact e'.symm
     · rw[ak l e']at h2;exact absurd h1 (nin l a e' h2)
   · rw[ak k e]at h1
     by_cases e2:l=i
     · subst e2;rw[ai]at h2;exact absurd h2 (nin k a e h1)
     · rw[ak l e2]at h2;exact R.inj k l a h1 h2
 · obtain⟨h1,h2,h3⟩:=R.btr a z
   refine⟨kn a h1 λy=>h3 (own a y),h2,λy=>(gw a y).elim (λx=>h3 x.1) λx=>(sub a x).elim (λw=>h3 (own a w)) h1⟩
 · rcases gw a z with⟨y,n⟩|y
   · exact⟨kn a (R.gtr a y).1 n,(R.gtr a y).2⟩
   · exact⟨al a y,(sub a y).elim (λw=>(R.gtr a (own a w)).2) λw f=>R.ftr a f w⟩
 · by_cases e2:k=i
   · subst e2
     rw[QzI hi]at e
     cases e
     rw[ai]
     exact⟨v0,s0,RoS.lv (λst a z=>z.imp id (gw a)) r0⟩
   · rw[zzW (λz=>e2 z.symm)]at e
     rw[ak k e2]
     exact(R.sl k s e).grow g λa m u h=>kp a u h (off k a e2 m)
end
def zpP(K:zD)(kd:KD)(g:List It1->O->Option O):Sp:=λvs H Q _=>∃(F B G:Addr->Prop) (T:List Addr) (ws:List V) (v:V) (xs:List It1) (o r:O),vs=ws++[v]/\(∀a,F a->H a≠none)/\(∀a,B a->H a≠none/\¬F a/\¬G a)/\(∀a,G a->H a≠none/\¬F a)/\
 T.Nodup/\(∀a ∈ T,G a)/\RpI K kd F B G H ws xs/\RoS K kd F B G H v o T/\g xs o=some r/\
 ∀(H':Hp) (T':List Addr),(∀c u,H c=some u->c ∉ T->H' c=some u)->T'.Nodup->(∀a ∈ T',a ∈ T\/H a=none)->(∀a ∈ T',H' a≠none)->RoS K kd F B (G1 G T T') H' v r T'->Q .non H'
def ziV(i:Nat):List RV->Option (List It1)
 | []=>none
 |r::rs=>match r with
  | .bo j=>if j=i/\rs.isEmpty=true then some []else none
  | .ow (.lf st d)=>(ziV i rs).bind λxs=>some ((st,d)::xs)
  | .ow (.nd _ _)=>none
theorem zms{K:zD}{kd:KD}{F B:Addr->Prop}{ad:Ad}{σ:St}{H:Hp}{i:Nat}:∀{rs:List RV}{vs:List V}{xs:List It1},RVs K kd F B ad σ H vs rs->ziV i rs=some xs->∃ws v,vs=ws++[v]/\RpI K kd F B (Gw [] ad) H ws xs/\σ[i]? = some (some v)
 | [],_,_,_,e=>by cases e
 |r::rs,_,xs,h,e=>by
  cases h with
  |cons hv hr=>
   rename_i v vs
   cases r with
   |bo j=>
    have e:(if j=i/\rs.isEmpty=true then some ([]:List It1)else none)=some xs:=e
    obtain⟨⟨e1,e2⟩,e3⟩:=ye e
    cases e3
    rw[List.isEmpty_iff]at e2
    subst e1 e2
    cases hr
    exact⟨[],v,rfl,.nil,hv.2⟩
   |ow o=>
    cases o with
    |lf st d=>
     obtain⟨ys,e1,e⟩:=bS_ (show(ziV i rs).bind _=_ from e)
     cases e
     obtain⟨ws,w,rfl,h1,h2⟩:=zms hr e1
     have hv:RoS K kd F B (Gw [] ad) H v (.lf st d) []:=hv
     cases hv with
     |lf rp=>exact⟨v::ws,w,rfl,.cons rp h1,h2⟩
    |nd k os=>cases e
def V9(i:Nat)(fr:AF)(g:List It1->O->Option O):SF:=λas=>(fr as).bind λp=>(ziV i p.1).bind λxs=>(p.2[i]?).bind λa=>a.bind λo=>(g xs o).bind λr=>some (.nx (p.2.set i (some r)))
section
variable{X:Cx}{kd:KD}{e:Expr}{es:List Expr}{fr:AF}{pos pos':Pos}
theorem zma{n i k:Nat}{f:Addr}{fdt:FuncData}{ps:List Str}{g:List It1->O->Option O}{x:Str}{p:Pos}(F:FnOk X.prog X.w X.K X.mg X.base CX0 k f fdt ps (zpP X.K kd g))(hr:Room k X.A)(hg:Gl X x)(hm:X.mg x=some (.ref f))(hk:PySem.W.keepIn X.K (.ref f)=true)
 (hb:Binds X.K fdt ps []) (hx:YS CX0 X (λ_ _ _=>False)) (ha:AA X kd (e::es) fr) (hdb:(x==("__debug__":Str))=false) (he:starEach (e::es) X.env=(false,eval e X.env)::starEach es X.env) (hpl:(backTo pos (starEach es X.env)).any (·.1)=false)
 (hs:swapsWith (.Call (.Name x p) (e::es) [] pos) none pos'.line X.env=pure false):
 AP X kd n (.Expr (.Call (.Name x p) (e::es) [] pos) pos') (V9 i fr g):=by
 with_unfolding_all exact(ZG (zgm (znW F hr hg hm hk hb .nil hx ha hdb he hpl) hs) λD σ H h=>by
  obtain⟨F,B,ad,as,o,R,e,q⟩:=h
  obtain⟨⟨rs,as1⟩,h1,e1⟩:=bS_ (show(fr as).bind _=_ from e)
  obtain⟨xs,h2,e2⟩:=bS_ e1
  obtain⟨a,ka,e3⟩:=bS_ e2
  obtain⟨o0,qa,e4⟩:=bS_ e3
  obtain⟨r,hgr,e5⟩:=bS_ e4
  subst qa
  have e12:=zzX e5
  refine(show alA X.K kd fr σ H _ from⟨F,B,ad,as,rs,as1,R,h1,λvs ad1 H1 R1 rvs g1=>?_⟩)
  obtain⟨ws,v,rfl,rpi,s0⟩:=zms rvs h2
  obtain⟨w0,t0,ro0⟩:=R1.sl i _ ka
  rw[s0]at t0
  cases t0
  show zpP X.K kd g ((ws++[v])++[]) H1 _ _
  rw[QzC]
  refine⟨F,B,Gw [] ad1,ad1 i,ws,v,xs,o0,r,rfl,R1.ftr,R1.btr,R1.gtr,R1.nd i,λa m=>.inr ⟨i,m⟩,rpi,ro0,hgr,λH' T' kp nd sub al r0=>?_⟩
  obtain⟨R3,g3⟩:=R1.chg1 (zzE.mp ka).1 s0 nd sub kp al r0
  subst e12
  exact q σ _ _ (λ_ _=>rfl) R3 (g1.trans g3))
theorem zrJ(F:FnOk X.prog X.w X.K X.mg X.base CX0 k f fdt ps (zpP X.K kd g))(hr:Room k X.A)(hg:Gl X x)(hm:X.mg x=some (.ref f))(hk:PySem.W.keepIn X.K (.ref f)=true)
 (hb:Binds X.K fdt ps []) (hx:YS CX0 X (λ_ _ _=>False)) (ha:AA X kd (e::es) fr) (hdb:(x==("__debug__":Str))=false) (he:starEach (e::es) X.env=(false,eval e X.env)::starEach es X.env) (hpl:(backTo pos (starEach es X.env)).any (·.1)=false)
 (hs:swapsWith (.Call (.Name x p) (e::es) [] pos) none pos'.line X.env=pure false):
 ASt X kd (.Expr (.Call (.Name x p) (e::es) [] pos) pos') (V9 i fr g):=by
 have h:=zma (n:=0) (i:=i) F hr hg hm hk hb hx ha hdb he hpl hs
 with_unfolding_all exact(ZG h λD σ H h=>by
  obtain⟨F,B,ad,as,o,R,e,q⟩:=h
  refine⟨F,B,ad,as,o,R,e, ?_⟩
  cases o with
  |nx as'=>exact λσ' ad' H' _ R' g'=>q σ' ad' H' R' g'
  |bk as'=>exact λσ' ad' H' _ R' g'=>q σ' ad' H' R' g'
  |ct as'=>exact λσ' ad' H' _ R' g'=>q σ' ad' H' R' g'
  |rt r=>
   obtain⟨⟨rs,as1⟩,h1,e1⟩:=bS_ (show(fr as).bind _=_ from e)
   obtain⟨xs,h2,e2⟩:=bS_ e1
   obtain⟨a,ka,e3⟩:=bS_ e2
   obtain⟨o0,qa,e4⟩:=bS_ e3
   obtain⟨r,hgr,e5⟩:=bS_ e4
   cases e5)
end
def br(n:Nat)(K:zD)(kd:KD)(f:SF):TS:=λD σ H=>∃F B ad as as',Rel K kd F B [] ad as σ H/\f as=some (.nx as')/\∀σ' ad' H',(∀i,i<n->σ'[i]? = σ[i]?)->Rel K kd F B [] ad' as' σ' H'->Grow (Gw [] ad) H (Gw [] ad') H'->D.nx σ' H'/\D.rt .non H'
@[irreducible] def ARs(X:Cx)(kd:KD)(n:Nat)(st:List Stmt)(f:SF):Prop:=PSs X st (br n X.K kd f)
section
variable{X:Cx}{kd:KD}{n:Nat}{c:Expr}{st:Stmt}{rest:List Stmt}{ta:TF}{f g:SF}{pos pos':Pos}
theorem zpx(hc:AT X kd c ta)(ha:AP X kd n st f)(hb:APs X kd n rest g):ARs X kd n (.If c [st,.Return none pos'] [] pos::rest) (sIf ta f g):=by
 with_unfolding_all exact(zec (zbL (zuW hc (zbL ha (zgo ztT)) zoR) hb) λD σ H h=>by
  obtain⟨F,B,ad,as,as',R,e,q⟩:=h
  obtain⟨⟨p,as1⟩,h1,e⟩:=bS_ (show(ta as).bind _=_ from e)
  refine⟨F,B,ad,as,p,as1,R,h1,λad' H' R' g1=>?_⟩
  cases p with
  |true=>exact⟨F,B,ad',as1,_,R',e,λσ2 ad2 H2 s2 R2 g2=>(q σ2 ad2 H2 s2 R2 (g1.trans g2)).2⟩
  |false=>exact⟨F,B,ad',as1,_,R',e,λσ2 ad2 H2 s2 R2 g2=>(q σ2 ad2 H2 s2 R2 (g1.trans g2)).1⟩)
end
def zcY(n:Nat)(xs:List It1)(o:O):AS:=(xs.map λx=>some (O.lf x.1 x.2))++some o::List.replicate (n-(xs.length+1)) none
def gL(n m:Nat)(c:SF)(xs:List It1)(o:O):Option O:=if xs.length+1=m then(c (zcY n xs o)).bind λout=>match out with
 | .nx as=>(as[xs.length]?).bind id
 |_=>none
 else none
def adL(k:Nat)(T:List Addr):Ad:=λi=>if i=k then T else[]
theorem zeR:Gw [] (adL k T) a ↔ a ∈ T:=by
 constructor
 · rintro(z|⟨i,z⟩)
   · exact nomatch z
   · unfold adL at z
     by_cases e:i=k
     · rw[if_pos e]at z;exact z
     · rw[if_neg e]at z;exact nomatch z
 · intro z
   exact .inr ⟨k,by unfold adL;rw[if_pos rfl];exact z⟩
theorem zgr{K:zD}{kd:KD}{F B G:Addr->Prop}{H:Hp}:∀{vs:List V}{xs:List It1},RpI K kd F B G H vs xs->vs.length=xs.length
 |_,_,.nil=>rfl
 |_,_,.cons _ h=>congrArg Nat.succ (zgr h)
theorem znU{K:zD}{kd:KD}{F B G:Addr->Prop}{H:Hp}:∀{vs:List V}{xs:List It1}{i:Nat}{x:It1},RpI K kd F B G H vs xs->xs[i]? = some x->∃v,vs[i]? = some v/\Rp K kd (Lv F B G x.1) H v x.2
 |_,_,i,x,.nil,e=>by cases e
 |_,_,0,x,.cons r h,e=>by cases e;exact⟨_,rfl,r⟩
 |_,_,i+1,x,.cons r h,e=>znU (i:=i) h e
theorem znI{K:zD}{kd:KD}{F B G:Addr->Prop}{T:List Addr}{H:Hp}{N:List Str}{ws:List V}{v:V}{xs:List It1}{o:O}(hN:xs.length+1<=N.length)(ht:∀a,F a->H a≠none)(hB:∀a,B a->H a≠none/\¬F a/\¬G a)(hG:∀a,G a->H a≠none/\¬F a)(nd:T.Nodup)(hT:∀a ∈ T,G a)
 (rpi:RpI K kd F B G H ws xs) (r0:RoS K kd F B G H v o T):Rel K kd F (λa=>B a\/(G a/\a ∉ T)) [] (adL xs.length T) (zcY N.length xs o) (L2.start N (ws++[v])) H:=by
 have wl:=zgr rpi
 have lv:∀st a,Lv F (λa=>B a\/(G a/\a ∉ T)) (Gw [] (adL xs.length T)) st a->Lv F B G st a:=λst a z=>by
  rcases z with(z|z|z)|z
  · exact .inl (.inl z)
  · exact .inl (.inr z)
  · exact .inr z.1
  · exact .inr (hT a (zeR.mp z))
 have ad0:∀i,i≠xs.length->adL xs.length T i=[]:=λi h=>if_neg h
 have ad1:adL xs.length T xs.length=T:=if_pos rfl
 have sl:(zcY N.length xs o).length=N.length:=by unfold zcY;simp;omega
 have st:L2.start N (ws++[v])=ws.map some++some v::List.replicate (N.length-(xs.length+1)) none:=by
  unfold L2.start
  simp[wl]
 refine⟨by rw[sl,st];simp[wl];omega,λi hi=>ad0 i (by omega),λi=>?_,λi j a x y=>?_,QzH,(λ_ _ _ z=>nomatch z),ht,λa z=>?_,λa z=>hG a (hT a (zeR.mp z)),λi s e=>?_⟩
 · by_cases h:i=xs.length
   · subst h;rw[ad1];exact nd
   · rw[ad0 i h];exact QzH
 · by_cases h:i=xs.length
   · by_cases h':j=xs.length
     · rw[h,h']
     · rw[ad0 j h']at y;exact nomatch y
   · rw[ad0 i h]at x;exact nomatch x
 · rcases z with z|z
   · exact⟨(hB a z).1,(hB a z).2.1,λy=>(hB a z).2.2 (hT a (zeR.mp y))⟩
   · exact⟨(hG a z.1).1,(hG a z.1).2,λy=>z.2 (zeR.mp y)⟩
 · rw[st]
   unfold zcY at e
   by_cases h:i<xs.length
   · rw[QzN (by rw[zS];exact h),zzG]at e
     obtain⟨x,hx,rfl⟩:=zzV.mp e
     obtain⟨u,hu,rp⟩:=znU rpi hx
     rw[ad0 i (by omega),QzN (by rw[zS,wl];exact h),zzG,hu]
     exact⟨u,rfl,.lf (rp.less (lv x.1))⟩
   · rw[QzP (by rw[zS];omega),zS]at e
     rw[QzP (by rw[zS,wl];omega),zS,wl]
     by_cases h':i=xs.length
     · subst h'
       rw[Nat.sub_self]at e ⊢
       cases e
       rw[ad1]
       exact⟨v,rfl,RoS.lv lv r0⟩
     · rw[ad0 i h']
       obtain⟨j,hj⟩:∃j,i-xs.length=j+1:=⟨i-xs.length-1,by omega⟩
       rw[hj]at e
       have e:(List.replicate (N.length-(xs.length+1)) (none:Option O))[j]? = some s:=e
       have ea:s=none:=(List.mem_replicate.mp (zzY e)).2
       subst ea
       rfl
section
variable{P:Program}{w:World}{K:zD}{mg:Str->Option Value}{base:Heap}
theorem zvm{kd:KD}{x qual:Str}{st:Stmt}{f:Addr}{fd:FuncData}{N ps:List Str}{k:Nat}{c:SF}(Fn:Fun K x qual st f fd)(S:FnScope N ps (zr st))(hN:ps.length<=N.length)
 (hb:∀(cdv:Value) (A:Around) (outer:List Env) (s:Shared) (H:Hp) (E:XK),Room k (A.deeper (envOfC qual (zr st) s.heap.objs.size f cdv))->ARs (zla CX0 P w K mg base N qual (zr st) f cdv A outer s H E).nox kd ps.length (W4 st) c):
 FnOk P w K mg base CX0 (k+1) f fd ps (zpP K kd (gL N.length ps.length c)):=by
 with_unfolding_all (
 refine Fn.ok S (λvs H Q E h=>?_) (λcdv A outer s H vs Q E hr h=>⟨_,hb cdv A outer s H E hr, ?_⟩)
 · obtain⟨F,B,G,T,ws,v,xs,o,r,rfl,ht,hB,hG,nd,hT,rpi,r0,e,q⟩:=h
   unfold gL at e
   by_cases hl:xs.length+1=ps.length
   · rw[zzH,zgr rpi];exact hl
   · rw[if_neg hl]at e;cases e
 · obtain⟨F,B,G,T,ws,v,xs,o,r,rfl,ht,hB,hG,nd,hT,rpi,r0,e,q⟩:=h
   unfold gL at e
   by_cases hl:xs.length+1=ps.length
   · rw[if_pos hl]at e
     obtain⟨out,e1,e2⟩:=bS_ e
     cases out with
     |nx as=>
      obtain⟨a,k0,e3⟩:=bS_ e2
      have e4:a=some r:=e3
      subst e4
      refine⟨F,_,_,zcY N.length xs o,as,znI (by omega) ht hB hG nd hT rpi r0,e1,λσ' ad' H' sp R g=>?_⟩
      obtain⟨u0,s0,t0⟩:=R.sl xs.length _ k0
      rw[sp xs.length (by omega)]at s0
      have sv:(L2.start N (ws++[v]))[xs.length]? = some (some v):=by
       have wl:=zgr rpi
       unfold L2.start
       rw[<-wl]
       simp
      cases(show some (some v)=some (some u0)from sv.symm.trans s0)
      have own:∀a,a ∈ ad' xs.length->Gw [] ad' a:=λa z=>.inr ⟨_,z⟩
      have lv:∀st a,Lv F B (G1 G T (ad' xs.length)) st a->Lv F (λa=>B a\/(G a/\a ∉ T)) (Gw [] ad') st a:=λst a z=>by
       rcases z with(z|z)|z|z
       · exact .inl (.inl z)
       · exact .inl (.inr (.inl z))
       · exact .inl (.inr (.inr z))
       · exact .inr (own a z)
      have fin:=q H' (ad' xs.length) (λc u h n=>g.keep c u h λz=>n (zeR.mp z)) (R.nd _) (λa m=>(g.own a (own a m)).imp zeR.mp id) (λa m=>(R.gtr a (own a m)).1) (RoS.lv lv t0)
      exact⟨fin,fin⟩
     |_=>cases e2
   · rw[if_neg hl]at e;cases e)
end
def zie(i:Nat)(f:IXF)(fv:EF):SF:=λas=>(fv as).bind λp=>(rvI p.1).bind λc=>(f p.2).bind λk=>if 0<=k then(slO zgE p.2 i).bind λos=>(atO zdm os k.toNat).bind λ_=>some (.nx (p.2.set i (some (.nd .ls (os.set k.toNat (.lf true (.int c)))))))else none
def zdo(i:Nat)(f1 f2:IXF)(fv:EF):SF:=λas=>(fv as).bind λp=>(rvI p.1).bind λc=>(f1 p.2).bind λk1=>(f2 p.2).bind λk2=>if 0<=k1/\0<=k2 then(slO zgE p.2 i).bind λos=>(atO zgE os k1.toNat).bind λinner=>(atO zdm inner k2.toNat).bind λ_=>some (.nx (p.2.set i (some (.nd .ls (os.set k1.toNat (.nd .ls (inner.set k2.toNat (.lf true (.int c)))))))))else none
section
variable{X:Cx}{kd:KD}{f f1 f2:IXF}{fv:EF}{e1 e2 ev:Expr}{i:Nat}
theorem zup(ho:PE X (.Name x p) (ziA i))(h1:AK X kd e1 f)(hv:AE X kd ev fv)
 (ha:∀v,assign (.Subscript (.Name x p) e1 tpos) X.env v=(do
  let ov <-holding [v] (eval (.Name x p) X.env)
  let iv <-holding [v,ov] (eval e1 X.env)
  standAt tpos
  holding [v,ov,iv] (setItem ov iv v)
  release [v,ov,iv] []))
 (hs:swapsWithSole [.Subscript (.Name x p) e1 tpos] ev pos.line X.env=pure false) (hw:swappedStores [.Subscript (.Name x p) e1 tpos] ev X.env=pure none)
 (hm:(assignEach [.Subscript (.Name x p) e1 tpos] X.env).map (·.2)=[assign (.Subscript (.Name x p) e1 tpos) X.env]):
 ASt X kd (.Assign [.Subscript (.Name x p) e1 tpos] ev pos) (zie i f fv):=by
 with_unfolding_all exact(ZG (znM hv (zpV ho h1 set_list ha) hs hw hm) λD σ H h=>by
  obtain⟨F,B,ad,as,o,R,e,q⟩:=h
  obtain⟨⟨pv,as1⟩,h1,e1⟩:=bS_ (show(fv as).bind _=_ from e)
  obtain⟨c,j2,e2⟩:=bS_ e1
  obtain⟨k,j1,e3⟩:=bS_ e2
  obtain⟨hk,e4⟩:=ite_some' e3
  obtain⟨os,e5,e6⟩:=bS_ e4
  obtain⟨d,e7,e8⟩:=bS_ e6
  have k1:=zxZ e5
  obtain⟨st,k2⟩:=zxK e7
  cases e8
  obtain⟨st',rfl⟩:=zmW j2
  refine YD R h1 λu ad1 H1 R1 rv1 g1=>?_
  have hv:RoS X.K kd F B (Gw [] ad1) H1 u (.lf st' (.int c)) []:=rv1
  cases hv with
  |lf rp=>
   cases rp
   obtain⟨v,sv,ro,hn,hG,up⟩:=R1.slotU k1
   obtain⟨p,ivs,rfl,hp,hH,hl,ro'⟩:=zoO c ro hn hG k2
   obtain⟨R2,g2⟩:=up p _ _ hp ro'
   exact⟨_,sv,F,B,ad1,as1,k,R1,j1,p,ivs,k,k.toNat,rfl,rfl,hH,zoW hk hl,q σ ad1 _ R2 (g1.trans g2)⟩)
theorem zrP(ho:PE X (.Name x p) (ziA i))(h1:AK X kd e1 f1)(hp1:zdR e1)(h2:AK X kd e2 f2)(hv:AE X kd ev fv)
 (ha:∀v,assign (.Subscript (.Subscript (.Name x p) e1 p1) e2 tpos) X.env v=(do
  let ov <-holding [v] (eval (.Subscript (.Name x p) e1 p1) X.env)
  let iv <-holding [v,ov] (eval e2 X.env)
  standAt tpos
  holding [v,ov,iv] (setItem ov iv v)
  release [v,ov,iv] []))
 (hs:swapsWithSole [.Subscript (.Subscript (.Name x p) e1 p1) e2 tpos] ev pos.line X.env=pure false) (hw:swappedStores [.Subscript (.Subscript (.Name x p) e1 p1) e2 tpos] ev X.env=pure none)
 (hm:(assignEach [.Subscript (.Subscript (.Name x p) e1 p1) e2 tpos] X.env).map (·.2)=[assign (.Subscript (.Subscript (.Name x p) e1 p1) e2 tpos) X.env]):
 ASt X kd (.Assign [.Subscript (.Subscript (.Name x p) e1 p1) e2 tpos] ev pos) (zdo i f1 f2 fv):=by
 with_unfolding_all exact(ZG (znM hv (zpV (zrQ zkM ho h1 hp1) h2 set_list ha) hs hw hm) λD σ H h=>by
  obtain⟨F,B,ad,as,o,R,e,q⟩:=h
  obtain⟨⟨pv,as1⟩,h1,e1⟩:=bS_ (show(fv as).bind _=_ from e)
  obtain⟨c,j3,e2⟩:=bS_ e1
  obtain⟨n1,j1,e3⟩:=bS_ e2
  obtain⟨n2,j2,e4⟩:=bS_ e3
  obtain⟨⟨hk1,hk2⟩,e5⟩:=ite_some' e4
  obtain⟨os,e6,e7⟩:=bS_ e5
  obtain⟨inner,e8,e9⟩:=bS_ e7
  obtain⟨d,e10,e11⟩:=bS_ e9
  have k1:=zxZ e6
  have k2:=zyN e8
  obtain⟨st,k3⟩:=zxK e10
  cases e11
  obtain⟨st',rfl⟩:=zmW j3
  refine YD R h1 λu ad1 H1 R1 rv1 g1=>?_
  have hv:RoS X.K kd F B (Gw [] ad1) H1 u (.lf st' (.int c)) []:=rv1
  cases hv with
  |lf rp=>
   cases rp
   obtain⟨v,sv,ro,hn,hG,up⟩:=R1.slotU k1
   obtain⟨l,vs,w,fw,rfl,hH,hvs,rw1,fn,fs,up1⟩:=zvr ro hn hG k2
   obtain⟨p,ivs,rfl,hp,hHp,hl,ro'⟩:=zoO c rw1 fn (λa m=>hG a (fs a m)) k3
   obtain⟨R2,g2⟩:=up p _ _ (fs p hp) (up1 p _ _ hp ro')
   exact⟨_,sv,F,B,ad1,as1,n1,R1,j1,l,vs,n1,_,rfl,rfl,.inl (.inl hH),zuo hk1 hvs,F,B,ad1,as1,n2,R1,j2,p,ivs,n2,n2.toNat,rfl,rfl,hHp,zoW hk2 hl,q σ ad1 _ R2 (g1.trans g2)⟩)
end
section
variable{X:Cx}{kd:KD}{n:Nat}
theorem svP(z:Bool)(i:Nat)(hn:n<=i)(hN:X.N.Nodup)(he:AE X kd e fa)(hi:X.N[i]? = some x:=by rfl)(hx:Loc X.env.scope x:=by first|exact Or.inl rfl|exact Or.inr rfl)(hs:swapsWith e (some (.Name x pos')) pos.line X.env=pure false:=by rfl)(hf:X.fn x=true\/X.env.scope.names.lookup x=some .local:=by first|exact Or.inl rfl|exact Or.inr rfl):
 AP X kd n (.Assign [.Name x pos'] e pos) (zQ z i fa):=zwe hn hN hi hx he hs hf
end
section
variable{P:Program}{w:World}{K:zD}{mg:Str->Option Value}{base:Heap}{kd:KD}
theorem zrE:FnOk P w K mg base CX0 k f fd ps (zpP K kd λ_ _=>none):=
 ⟨λvs H Q E h=>(by obtain⟨_,_,_,_,_,_,_,_,_,_,_,_,_,_,_,_,_,e,_⟩:=h;cases e),λA outer s H args us vs Q E _ _ _ _ h=>(by obtain⟨_,_,_,_,_,_,_,_,_,_,_,_,_,_,_,_,_,e,_⟩:=h;cases e)⟩
end
def fFz(f:EF):EF:=λas=>(f as).bind λp=>some (p.1.frz,p.2)
theorem zso(h:AE X kd e fa):AE X kd e (fFz fa):=by with_unfolding_all exact(xr h λσ H Q q=>by
 obtain⟨F,B,ad,as,r,as',R,e,k⟩:=q
 obtain⟨⟨p,as1⟩,h1,e⟩:=bS_ (show(fa as).bind _=_ from e)
 cases e
 exact⟨F,B,ad,as,p,as1,R,h1,λv T' ad' H' R' rv g=>k v [] ad' H' R'.drop (vZ.drop R' rv) (g.trans (Grow.less Gw.drop))⟩)
theorem fzW(h:WE f as x):WD (fFz f) as true x:=by
 obtain⟨o,h,h1,h2⟩:=h
 unfold WD fFz
 rw[h,<-h1,<-h2];rfl
section
variable{X:Cx}{kd:KD}{P:Program}{w:World}{K:zD}{a b e o:Expr}{es:List Expr}{fa fb fo:EF}{fr:AF}{fd_:DF}{pos p apos:Pos}{k n:Nat}
theorem fsc(h1:sc.kind = .function:=by rfl)(h2:sc.isCoroutine=false:=by rfl)(h3:sc.isGenerator=false:=by rfl)(h4:N.Nodup:=by decide +kernel)(h5:N.take Ps.length=Ps:=by rfl)(h6:∀x ∈ Ps,sc.names.lookup x=some .local\/sc.names.lookup x=some .cell:=by decide +kernel)(h7:∀y ∈ sc.names,y.2 ≠ .free:=by decide +kernel):FnScope N Ps sc:=⟨h1,h2,h3,h4,h5,h6,h7⟩
theorem bs{x qual:Str}{st:Stmt}{f:Addr}{fd:FuncData}{ps:List Str}(F:Fun K x qual st f fd)
 (h:∀(kV doc pm:Value) (an:Option Addr) (cdv ct:Value) (us:List Value),us.length=ps.length->bindArgs (PySem.W.fnOf x qual (zgv st) (W4 st) (zr st) .none kV doc pm an cdv ct) ⟨us,[]⟩=pure (ps.zip us):=by first|exact λ_ _ _ _ _ _=>l1_ λ_=>rfl|exact λ_ _ _ _ _ _=>l2_ λ_ _=>rfl|exact λ_ _ _ _ _ _=>l3_ λ_ _ _=>rfl|exact λ_ _ _ _ _ _=>l4_ λ_ _ _ _=>rfl|exact λ_ _ _ _ _ _=>l5_ λ_ _ _ _ _=>rfl|exact λ_ _ _ _ _ _=>l6_ λ_ _ _ _ _ _=>rfl):Binds K fd ps []:=F.binds h
theorem bc(ha:AE X kd a fa)(hr:AA X kd es fr)(hs:isStar a=false:=by rfl):AA X kd (a::es) (aC fa fr):=zsS ha hr (ziN hs)
theorem bd(ha:AE X kd a fa)(hr:AD X kd es fd_)(hs:isStar a=false:=by rfl):AD X kd (a::es) (dC fa fd_):=ztA ha hr (ziN hs)
theorem bn{op:Operator}(ha:AE X kd a fa)(hb:AE X kd b fb):AE X kd (.BinOp a op b pos) (f2 fa fb (V3 op)):=zsk (zwN op) ha hb
theorem tc{op:CmpOp}(hkd:KD1 P w K kd)(hr:Room k X.A)(ha:AE X kd a fa)(hb:AE X kd b fb)(h1:X.prog=P:=by rfl)(h2:X.w=w:=by rfl)(h3:X.K=K:=by rfl)(hm:behindInMarks op b=false:=by exact zsd _):AT X kd (.Compare a [op] [b] pos) (fT (f2 fa fb (zK op))):=zwy (zqS (hkd _ h1 h2 h3) (zuw hr) op) (zsP op) ha hb hm
theorem ec{op:CmpOp}(hkd:KD1 P w K kd)(hr:Room k X.A)(ha:AE X kd a fa)(hb:AE X kd b fb)(h1:X.prog=P:=by rfl)(h2:X.w=w:=by rfl)(h3:X.K=K:=by rfl)(hm:behindInMarks op b=false:=by exact zsd _):AE X kd (.Compare a [op] [b] pos) (f2 fa fb (zK op)):=zvs (zqS (hkd _ h1 h2 h3) (zuw hr) op) ha hb hm
theorem fd(hc:CF X.K kd cs f)(ha:AE X kd a fa)(hb:attributeBase a f X.env (eval a X.env)=eval a X.env:=by rfl):AE X kd (.Attribute a f pos) (f1 fa (yu cs f)):=zxi hc ha hb
theorem ck(F:FnOk X.prog X.w X.K X.mg X.base CX0 k f fdt ps (spD X.K kd gg))(hr:Room n X.A)(hm:X.mg x=some (.ref f))(hk:PySem.W.keepIn X.K (.ref f)=true)
 (hb:Binds X.K fdt ps []) (ha:AA X kd (e::es) fr) (hn:k<=n:=by omega) (hg:Gl X x:=by rfl) (hdb:(x==("__debug__":Str))=false:=by decide) (he:starEach (e::es) X.env=(false,eval e X.env)::starEach es X.env:=by rfl) (hpl:(backTo pos (starEach es X.env)).any (·.1)=false:=by rfl):
 AE X kd (.Call (.Name x p) (e::es) [] pos) (zj fr gg):=ztI F (hr.mono hn) hg hm hk hb zjb ha hdb he hpl
theorem bi{id:String}{gg:List D->Option R0}{x:Str}(hc:CallD X kd (.builtin id) gg)(hm:X.mg x=none)(hv:bootBuiltins x=some (.builtin id))(ha:AA X kd (e::es) fr)(hg:Gl X x:=by rfl)(hn:x≠"__name__":=by exact Bt.n _ rfl)(hdb:(x==("__debug__":Str))=false:=by decide)
 (he:starEach (e::es) X.env=(false,eval e X.env)::starEach es X.env:=by rfl) (hpl:(backTo pos (starEach es X.env)).any (·.1)=false:=by rfl):AE X kd (.Call (.Name x p) (e::es) [] pos) (fP fr gg):=zvT hc hg hm hv ha hn hdb he hpl
theorem by_(hc:CallD X kd (.type T) gg)(hm:X.mg x=none)(hv:bootBuiltins x=some (.type T))(ha:AA X kd (e::es) fr)(hg:Gl X x:=by rfl)(hn:x≠"__name__":=by exact Bt.n _ rfl)(hdb:(x==("__debug__":Str))=false:=by decide)
 (he:starEach (e::es) X.env=(false,eval e X.env)::starEach es X.env:=by rfl) (hpl:(backTo pos (starEach es X.env)).any (·.1)=false:=by rfl):AE X kd (.Call (.Name x p) (e::es) [] pos) (fP fr gg):=zwg hc hg hm hv ha hn hdb he hpl
theorem mq(hC:kd.c c=C)(M:Mk X.K C f)(F:FnOk X.prog X.w X.K X.mg X.base CX0 k f fdt ps (spI X.K kd c g))(hr:Room n X.A)(hm:X.mg x=some (.ref C))(hb:Binds X.K fdt ps [])
 (ha:AA X kd (e::es) fr) (hn:k+1<=n:=by omega) (hg:Gl X x:=by rfl) (hdb:(x==("__debug__":Str))=false:=by decide) (he:starEach (e::es) X.env=(false,eval e X.env)::starEach es X.env:=by rfl) (hpl:(backTo pos (starEach es X.env)).any (·.1)=false:=by rfl):
 AE X kd (.Call (.Name x p) (e::es) [] pos) (zj fr g):=ztk hC M F (hr.mono hn) hg hm hb zjb ha hdb he hpl
theorem sj(i:Nat){z:Bool}{x:Str}{pos':Pos}{rest:List Stmt}{g:SF}(hN:X.N.Nodup)(he:AE X kd e fa)(h2:ASs X kd rest g)(hi:X.N[i]? = some x:=by rfl)(hx:Loc X.env.scope x:=by first|exact Or.inl rfl|exact Or.inr rfl)(hs:swapsWith e (some (.Name x pos')) pos.line X.env=pure false:=by rfl)(hf:X.fn x=true\/X.env.scope.names.lookup x=some .local:=by first|exact Or.inl rfl|exact Or.inr rfl):
 ASs X kd (.Assign [.Name x pos'] e pos::rest) (zH (zQ z i fa) g):=zu (zss hN hi hx he hs hf) h2
theorem mt(hT:MT X.prog X.w X.K X.mg X.base kd m k tbl)(hr:Room n X.A)(ho:AE X kd o fo)(ha:AA X kd (e::es) fr)
 (ht:eval (.Call (.Attribute o m apos) (e::es) [] pos) X.env=(do
  let ov <-eval o X.env
  standAt apos.atName
  let(f,first) <-holding [ov] (getMethod ov m pl)
  callWith pos f first (backTo pos (starEach (e::es) X.env)) (backToKw pos (keywordEach [] X.env))))
 (hn:k<=n:=by omega) (hst:starEach (e::es) X.env=(false,eval e X.env)::starEach es X.env:=by rfl) (hpl:(backTo pos (starEach es X.env)).any (·.1)=false:=by rfl):
 AE X kd (.Call (.Attribute o m apos) (e::es) [] pos) (Z9 tbl m fo fr):=zxd hT (hr.mono hn) zjb ho ha hst hpl ht
theorem mt0(hT:MT X.prog X.w X.K X.mg X.base kd m k tbl)(hr:Room n X.A)(ho:AE X kd o fo)
 (ht:eval (.Call (.Attribute o m apos) [] [] pos) X.env=(do
  let ov <-eval o X.env
  standAt apos.atName
  let(f,first) <-holding [ov] (getMethod ov m pl)
  callWith pos f first (backTo pos (starEach [] X.env)) (backToKw pos (keywordEach [] X.env))))
 (hn:k<=n:=by omega):AE X kd (.Call (.Attribute o m apos) [] [] pos) (Z9 tbl m fo aN):=zum hT (hr.mono hn) zjb ho ht
end
abbrev InR(n:Nat)(x:Int):Prop:=0<=x/\x<(n:Int)
structure LJ(n:Nat)(j:Int->Int->Int)(e:Int):Prop where
 cl:∀a b,InR n a->InR n b->InR n (j a b)
 ce:InR n e
 ul:∀a,InR n a->j e a=a
 ur:∀a,InR n a->j a e=a
 as:∀a b c,InR n a->InR n b->InR n c->j (j a b) c=j a (j b c)
structure LD(n m:Nat)(j:Int->Int->Int)(e:Int)(d:Int->Int->Int):Prop where
 cl:∀c a,InR m c->InR n a->InR n (d c a)
 em:d 0 e=e
 dn:∀a i b k,InR n a->InR m i->InR n b->InR m k->d ((i+k)%m) (j a b)=j (d i a) (d k b)
theorem zcx(hn:0<n):InR n (x%n):=⟨QzL _ (by omega),QzF _ (by omega)⟩
theorem LD.congr(hm:0<m)(hj:LJ n j e)(h:LD n m j e d)(q:∀a b,InR n a->InR n b->j' a b=j a b)(p:∀c a,InR m c->InR n a->d' c a=d c a):LD n m j' e d':=by
 refine⟨λc a hc ha=>by rw[p c a hc ha];exact h.cl c a hc ha,by rw[p 0 e ⟨by omega,by omega⟩ hj.ce];exact h.em,λa i b k ha hi hb hk=>?_⟩
 rw[q a b ha hb,p _ _ (zcx hm) (hj.cl a b ha hb),p i a hi ha,p k b hk hb,q _ _ (h.cl i a hi ha) (h.cl k b hk hb)]
 exact h.dn a i b k ha hi hb hk
def jS(n:Nat)(a b:Int):Int:=(a+b)%n
def jM(a b:Int):Int:=if b > a then b else a
def jL(a b:Int):Int:=if b=0 then a else b
theorem ljS(hn:0<n):LJ n (jS n) 0:=by
 refine⟨λa b _ _=>zcx hn,⟨by omega,by omega⟩,λa ha=>?_,λa ha=>?_,λa b c _ _ _=>?_⟩
 · unfold jS;rw[Int.zero_add,Int.emod_eq_of_lt ha.1 ha.2]
 · unfold jS;rw[Int.add_zero,Int.emod_eq_of_lt ha.1 ha.2]
 · unfold jS;rw[Int.emod_add_emod,Int.add_emod_emod,Int.add_assoc]
theorem ljM(hn:0<n):LJ n jM 0:=by
 refine⟨λa b ha hb=>?_,⟨by omega,by omega⟩,λa ha=>?_,λa ha=>?_,λa b c _ _ _=>?_⟩<;>unfold jM<;>(try unfold jM)<;>grind
theorem ljL(hn:0<n):LJ n jL 0:=by
 refine⟨λa b ha hb=>?_,⟨by omega,by omega⟩,λa ha=>?_,λa ha=>?_,λa b c _ _ _=>?_⟩<;>unfold jL<;>grind
theorem four{P:Int->Prop}(h0:P 0)(h1:P 1)(h2:P 2)(h3:P 3){a:Int}(h:InR 4 a):P a:=by
 rcases(show a=0\/a=1\/a=2\/a=3 by have:=h.1;have:=h.2;omega)with rfl|rfl|rfl|rfl<;>assumption
theorem f4{P:Int->Prop}(h:∀a ∈ ([0,1,2,3]:List Int),P a){a:Int}(ha:InR 4 a):P a:=four (h 0 (by decide)) (h 1 (by decide)) (h 2 (by decide)) (h 3 (by decide)) ha
theorem ldS{n m:Nat}{g x0 x1:Int}(hn:0<n)(hm:0<m)(g0:0<g)(gn:g ∣ n)(gm:g ∣ m):LD n m (jS n) 0 (λc a=>(a*x0+c*((n:Int)/g)*x1)%n):=by
 refine⟨λc a _ _=>zcx hn,by simp,λa i b k _ _ _ _=>?_⟩
 obtain⟨t,ht⟩:=gm
 have h:(m:Int)*((n:Int)/g)=n*t:=by
  obtain⟨s,hs⟩:=gn
  rw[hs,Int.mul_ediv_cancel_left _ (by omega),ht];grind
 show(_:Int)=jS n _ _
 unfold jS
 rw[<-Int.add_emod]
 generalize (n:Int)/g=st at h
 rw[Int.emod_def (i+k) m,Int.emod_def (a+b) n]
 generalize (i+k)/(m:Int)=q
 generalize (a+b)/(n:Int)=p
 rw[show((a+b)-(n:Int)*p)*x0+((i+k)-(m:Int)*q)*st*x1=(a*x0+i*st*x1+(b*x0+k*st*x1))+(n:Int)*(-(p*x0)-t*q*x1) by grind,Int.add_mul_emod_self_left]
theorem ldM{n m:Nat}{r:Int->Int}(hm:0<m)(h0:r 0=0)(hc:∀a,InR n a->InR n (r a))(hr:∀a b,InR n a->InR n b->a<=b->r a<=r b):LD n m jM 0 (λ_ a=>r a):=by
 refine⟨λc a _ ha=>hc a ha,h0,λa i b k ha _ hb _=>?_⟩
 show r (jM a b)=jM (r a) (r b)
 unfold jM
 have h1:=hr a b ha hb
 have h2:=hr b a hb ha
 split<;>split<;>grind
theorem ldL{n m:Nat}{r:Int->Int}(h0:r 0=0)(hc:∀a,InR n a->InR n (r a))(hr:∀a,InR n a->a≠0->r a≠0):LD n m jL 0 (λ_ a=>r a):=by
 refine⟨λc a _ ha=>hc a ha,h0,λa i b k ha _ hb _=>?_⟩
 show r (jL a b)=jL (r a) (r b)
 unfold jL
 have h2:=hr b hb
 split<;>split<;>grind
theorem zvj(hx:InR n1 x)(hy:InR n2 y):InR (n1*n2) (x*n2+y):=by
 have h1:0<=x*n2:=Int.mul_nonneg hx.1 (by omega)
 have h2:x*n2<=((n1:Int)-1)*n2:=Int.mul_le_mul_of_nonneg_right (by have:=hx.2;omega) (by omega)
 rw[Int.sub_mul,Int.one_mul]at h2
 refine⟨by have:=hy.1;omega, ?_⟩
 rw[zzT]
 have:=hy.2
 omega
theorem yQ(h2:0<n2)(h:InR (n1*n2) p):InR n1 (p/n2)/\InR n2 (p%n2):=
 ⟨⟨Int.ediv_nonneg h.1 (by omega),Int.ediv_lt_of_lt_mul (by omega) (by have:=h.2;rw[zzT]at this;exact this)⟩,zcx h2⟩
theorem zcv(hy:InR n2 y):(x*n2+y)/n2=x/\(x*n2+y)%n2=y:=by
 have h0:(n2:Int)≠0:=by have:=hy.1;have:=hy.2;omega
 constructor
 · rw[Int.add_comm,Int.add_mul_ediv_right _ _ h0,Int.ediv_eq_zero_of_lt hy.1 hy.2,Int.zero_add]
 · rw[Int.add_comm,Int.add_mul_emod_self_right,Int.emod_eq_of_lt hy.1 hy.2]
theorem zyh{n2:Nat}{p:Int}:(p/n2)*n2+p%n2=p:=by rw[Int.mul_comm];exact Int.mul_ediv_add_emod p n2
def jB(n2:Nat)(j1 j2:Int->Int->Int)(p q:Int):Int:=j1 (p/n2) (q/n2)*n2+j2 (p%n2) (q%n2)
def dB(n2:Nat)(d1 d2:Int->Int->Int)(c p:Int):Int:=d1 c (p/n2)*n2+d2 c (p%n2)
theorem leN(h:n<=8)(hk:8<=k:=by decide):n<=k:=zzM h hk
theorem np1{n:Nat}(h:1<=n):(0:Int)<n:=Int.natCast_pos.mpr h
theorem tS{a:Int}{n:Nat}(h0:0<=a)(h1:a<n):a.toNat<n:=Int.ofNat_lt.mp (by rw[QzW h0];exact h1)
theorem mU{n:Nat}{k:Int}(h:n<=8)(hk:8<k:=by decide):(n:Int)<k:=Int.lt_of_le_of_lt (Int.ofNat_le.mpr h) hk
theorem iT(h:InR n x):x.toNat<n:=Int.ofNat_lt.mp (by rw[QzW h.1];exact h.2)
theorem iC(h:InR n x):((x.toNat:Nat):Int)=x:=QzW h.1
def rAt(r:List Int)(v:Int):Int:=(r[v.toNat]?).getD 0
def jAt(J:List (List Int))(w v:Int):Int:=rAt ((J[w.toNat]?).getD []) v
def jnA(J:List (List Int))(e:Int):List Int->Int
 | []=>e
 |x::t=>t.foldl (jAt J) x
section
variable{n m:Nat}{J T:List (List Int)}{e:Int}
theorem zmx(h:LJ n (jAt J) e):∀(t:List Int) (w:Int),InR n w->(∀x ∈ t,InR n x)->InR n (t.foldl (jAt J) w)
 | [],w,hw,_=>hw
 |v::t,w,hw,k=>zmx h t (jAt J w v) (h.cl w v hw (k v (zzD ..))) λx m=>k x (zzB _ m)
theorem Vf(h:LJ n (jAt J) e)(k:∀x ∈ r,InR n x):InR n (jnA J e r):=by
 cases r with
 |nil=>exact h.ce
 |cons x t=>exact zmx h t x (k x (zzD ..)) λy m=>k y (zzB _ m)
theorem zdC(h:LJ n (jAt J) e):∀(t:List Int) (w:Int),InR n w->(∀x ∈ t,InR n x)->t.foldl (jAt J) w=jAt J w (jnA J e t)
 | [],w,hw,_=>(h.ur w hw).symm
 |x::t,w,hw,k=>by
  have hx:=k x (zzD ..)
  have ht:∀y ∈ t,InR n y:=λy m=>k y (zzB _ m)
  show t.foldl (jAt J) (jAt J w x)=jAt J w (t.foldl (jAt J) x)
  rw[zdC h t _ (h.cl w x hw hx) ht,zdC h t x hx ht,h.as _ _ _ hw hx (Vf h ht)]
theorem zqH(h:LJ n (jAt J) e)(k:∀x ∈ l,InR n x)(k':∀x ∈ l',InR n x):jnA J e (l++l')=jAt J (jnA J e l) (jnA J e l'):=by
 cases l with
 |nil=>exact(h.ul _ (Vf h k')).symm
 |cons x t=>
  show(t++l').foldl (jAt J) x=_
  rw[List.foldl_append]
  exact zdC h l' _ (Vf h k) k'
theorem zjY(hm:0<m)(h:LJ n (jAt J) e)(d:LD n m (jAt J) e (jAt T)):∀r:List Int,(∀x ∈ r,InR n x)->jnA J e (r.map (jAt T (1%(m:Int))))=jAt T ((r.length:Int)%m) (jnA J e r)
 | [],_=>by
  show e=jAt T ((0:Int)%m) e
  rw[Int.zero_emod,d.em]
 |x::t,k=>by
  have hx:=k x (zzD ..)
  have ht:∀y ∈ t,InR n y:=λy m=>k y (zzB _ m)
  have i1:InR m (1%(m:Int)):=zcx hm
  have hd:∀y ∈ t.map (jAt T (1%(m:Int))),InR n y:=λy my=>by
   obtain⟨z,mz,rfl⟩:=QyB.mp my
   exact d.cl _ _ i1 (ht z mz)
  have e1:jnA J e (x::t)=jAt J x (jnA J e t):=zdC h t x hx ht
  have e2:jnA J e ((x::t).map (jAt T (1%(m:Int))))=jAt J (jAt T (1%(m:Int)) x) (jnA J e (t.map (jAt T (1%(m:Int))))):=zdC h _ _ (d.cl _ _ i1 hx) hd
  rw[e2,zjY hm h d t ht,e1,<-d.dn _ _ _ _ hx i1 (Vf h ht) (zcx hm),<-Int.add_emod,zzR,Int.natCast_add,Int.add_comm (t.length:Int)]
  rfl
end
local macro_rules | `(tactic| trivial)=>`(tactic| first|with_reducible first|assumption|exact Int.natCast_nonneg _|exact Nat.le_refl _|exact Int.le_refl _|exact rfl|exact leN (by assumption)|exact np1 (by assumption)|exact np2 (by assumption)|exact nq1 (by assumption)|exact nq2 (by assumption)|exact Int.natCast_pos.mpr (by assumption)|exact Nat.le_trans (by assumption) (by decide)|exact bgL _|exact bgU (by assumption)|exact mU (by assumption)|exact zI _|exact bL0 (by assumption)|exact bU0 (by assumption) (by assumption)|exact iL (by assumption)|exact iU (by assumption) (by assumption)|exact iC (by assumption)|exact iT (by assumption)|exact stL (by assumption)|exact stU (by assumption)|exact lnK (by assumption) (by assumption) (by assumption)|exact zi1 _|exact lnE (by assumption)|exact ltL (by assumption)|exact Int.toNat_of_nonneg (by assumption)|exact tS (by assumption) (by assumption)|exact b6 (by assumption)|exact Int.emod_nonneg _ (by decide)|exact Int.emod_lt_of_pos _ (by decide)|decide|omega)
abbrev lfI(x:Int):O:=.lf true (.int x)
abbrev sI(x:Int):Option O:=some (lfI x)
abbrev sT(d:D):Option O:=some (.lf true d)
abbrev sN(os:List O):Option O:=some (.nd .ls os)
abbrev TZ:Type:=List (List Int)
abbrev DD:Type:=List (Str×TZ)
abbrev SS:Type:=List (Str×List Int)
theorem zoA(h:f as=some (.ow o,as1))(hs:o.str=true):zT f as=some (.rt o):=by
 unfold zT;rw[h]
 show((if o.str=true then some o else none).bind _)=_
 rw[if_pos hs];rfl
theorem Yp:∀xs:List Int,(xs.map lfI).all O.isLf=true/\O.strs (xs.map lfI)=true/\O.toDs (xs.map lfI)=xs.map D.int
 | []=>⟨rfl,rfl,rfl⟩
 |x::r=>⟨(Yp r).1,(Yp r).2.1,congrArg (D.int x :: ·) (Yp r).2.2⟩
theorem zok(xs:List Int):(xs.map D.int).map (O.lf true)=xs.map lfI:=by rw[zzZ];rfl
theorem zsa(ys:List Int)(w:Int):(ys++[w]).map lfI=ys.map lfI++[O.lf true (.int w)]:=by rw[QzK];rfl
theorem Wv(xs:List Int):(O.nd .ls (xs.map lfI)).str=true/\(O.nd .ls (xs.map lfI)).toD = .lst (xs.map D.int):=⟨(Yp xs).2.1,congrArg D.lst (Yp xs).2.2⟩
abbrev xJ(r:List Int):O:=.nd .ls (r.map lfI)
abbrev zO(r:List Int):D:=.lst (r.map D.int)
theorem zgu:∀T:TZ,O.strs (T.map xJ)=true/\O.toDs (T.map xJ)=T.map zO
 | []=>⟨rfl,rfl⟩
 |r::T=>⟨by show(O.strs (r.map lfI)&&O.strs (T.map xJ))=true;rw[(Yp r).2.1,(zgu T).1];rfl,by
  show D.lst (O.toDs (r.map lfI))::O.toDs (T.map xJ)=_
  rw[(Yp r).2.2,(zgu T).2];rfl⟩
theorem zrV{g:GF}{fe:EF}{as0 as1:AS}{y:It1}{r:List It1}{o:O}{os:List O}(h1:g y as0=some as1)(h2:fe as1=some (.ow o,as1))(hs:o.str=true)(h3:Zt g YM fe as0 r=some os):Zt g YM fe as0 (y::r)=some (o::os):=by
 unfold Zt
 rw[h1];show((fe as1).bind _)=_
 rw[h2];show(if o.str=true then _ else _)=_
 rw[if_pos hs,h3];rfl
theorem ZS:∀(n:Nat) (k:Int),(wR k n).length=n
 |0,_=>rfl
 |n+1,k=>by rw[ziF];exact congrArg (· + 1) (ZS n (k+1))
theorem zqK(h:WE f as x):∃o,zT f as=some (.rt o)/\o.str=true/\o.toD=x:=by
 obtain⟨o,h1,h2,h3⟩:=h
 exact⟨o,zoA h1 h2,h2,h3⟩
theorem zgt:∀{n:Nat}{k:Int}{y:It1},y ∈ wR k n->∃b:Int,y=(true,.int b)/\k<=b/\b<k+n
 |0,_,_,h=>nomatch h
 |n+1,k,y,h=>by
  rw[ziF]at h
  rcases zzA.mp h with rfl|h
  · exact⟨k,rfl,by trivial,by trivial⟩
  · obtain⟨b,e,h1,h2⟩:=zgt h
    exact⟨b,e,by trivial,by trivial⟩
def Row(n:Nat)(r:List Int):Prop:=r.length=n/\∀x ∈ r,0<=x/\x<(n:Int)
def Tab(k n:Nat)(T:TZ):Prop:=T.length=k/\∀r ∈ T,Row n r
abbrev vp(T:TZ):D:=.lst (T.map zO)
theorem zes{α:Type}{f:α->D}{l:List α}{i:Nat}{p:α}(h:l[i]? = some p):ixP (.lst (l.map f)) (.int (i:Int))=some (.im (f p)):=by
 have h:=zcc (xs:=l.map f) (j:=i) (v:=f p) (by rw[zzG,h];rfl)
 show imR (atI _ _)=_
 rw[h];rfl
theorem zwE{n k:Nat}{r:List Int}{v:Int}(hl:r.length=k)(hr:∀x ∈ r,InR n x)(hv:InR k v):ixP (zO r) (.int v)=some (.im (.int (rAt r v)))/\InR n (rAt r v):=by
 have hk:v.toNat<r.length:=by rw[hl];have:=hv.1;have:=hv.2;trivial
 have g:=zzC hk
 have e:rAt r v=r[v.toNat]:=by unfold rAt;rw[g];rfl
 rw[e]
 refine⟨?_,hr _ (QzX hk)⟩
 have:=zes (f:=D.int) g
 rw[show((v.toNat:Nat):Int)=v by have:=hv.1;trivial]at this
 exact this
abbrev zav(T:TZ)(w:Int):List Int:=(T[w.toNat]?).getD []
theorem Yk{k n:Nat}{T:TZ}{w:Int}(hT:Tab k n T)(hw:InR k w):ixP (vp T) (.int w)=some (.im (zO (zav T w)))/\Row n (zav T w):=by
 have hk:w.toNat<T.length:=by rw[hT.1];have:=hw.1;have:=hw.2;trivial
 have g:=zzC hk
 unfold zav
 rw[g]
 refine⟨?_,hT.2 _ (QzX hk)⟩
 have:=zes (f:=zO) g
 rw[show((w.toNat:Nat):Int)=w by have:=hw.1;trivial]at this
 exact this
theorem rowAt(hr:Row n r)(hv:InR n v):ixP (zO r) (.int v)=some (.im (.int (rAt r v)))/\InR n (rAt r v):=zwE hr.1 hr.2 hv
theorem strs_snoc:∀(os:List O) (o:O),O.strs os=true->o.str=true->O.strs (os++[o])=true
 | [],o,_,h=>by show(o.str&&true)=true;rw[h];rfl
 |p::r,o,h,h'=>by
  have h:=(QzA _ _).mp (show(p.str&&O.strs r)=true from h)
  show(p.str&&O.strs (r++[o]))=true
  rw[h.1,strs_snoc r o h.2 h'];rfl
theorem ziL:∀(os:List O) (o:O),O.toDs (os++[o])=O.toDs os++[o.toD]
 | [],o=>rfl
 |p::r,o=>congrArg (p.toD :: ·) (ziL r o)
structure Ows{α:Type}(toD:α->D)(Q:α->Prop)(os:List O)(l:List α):Prop where
 st:O.strs os=true
 ds:O.toDs os=l.map toD
 al:∀a ∈ l,Q a
 ln:os.length=l.length
theorem Ows.nil:Ows toD Q [] []:=⟨rfl,rfl,(λ_ m=>nomatch m),rfl⟩
theorem Ows.snoc{α:Type}{toD:α->D}{Q:α->Prop}{os:List O}{l:List α}{o:O}{a:α}(h:Ows toD Q os l)(h1:o.str=true)(h2:o.toD=toD a)(h3:Q a):Ows toD Q (os++[o]) (l++[a]):=
 ⟨strs_snoc os o h.st h1,(by rw[ziL,h.ds,h2,QzK];rfl),(λb m=>(zzK.mp m).elim (h.al b) λm=>(by rw[zzP.mp m];exact h3)),(by rw[zzH,zzH,h.ln];rfl)⟩
theorem zoj{as as1:AS}{a:EF}{i:Nat}{os0 os:List O}{o:O}(h:as[i]? = some (sN os0))(ha:a as=some (.ow o,as1))(h1:as1[i]? = some (sN os))(hl:os.length<sizeLine):wQ (Zm i (dC a dN) Za) as=some (.nx (as1.set i (sN (os++[o])))):=by
 unfold wQ Zm;rw[h]
 have e:dC a dN as=some ([o],as1):=VP ha rfl
 show((dC a dN as).bind _).bind _=_
 rw[e];show(Option.bind (match as1[i]? with|some (some (.nd .ls os))=>_|_=>none) _)=_
 rw[h1];show((Za os [o]).bind _).bind _=_
 have e2:Za os [o]=some (os++[o],.lf true .non):=by unfold Za;exact if_pos hl
 rw[e2];rfl
theorem zxt{α:Type}{toD:α->D}{Q:α->Prop}{as:AS}{a:EF}{i:Nat}{os:List O}{l:List α}{x:α}(h:as[i]? = some (sN os))(ho:Ows toD Q os l)(hl:l.length<1000)(ha:WE a as (toD x))(hx:Q x):
 ∃os',Ows toD Q os' (l++[x])/\wQ (Zm i (dC a dN) Za) as=some (.nx (as.set i (sN os'))):=by
 obtain⟨o,h1,h2,h3⟩:=ha
 exact⟨os++[o],ho.snoc h2 h3 hx,zoj h h1 h (by rw[ho.ln];exact zct (by trivial))⟩
theorem Ows.retB{α:Type}{toD:α->D}{Q:α->Prop}{as:AS}{i:Nat}{os:List O}{l:List α}(h:as[i]? = some (sN os))(ho:Ows toD Q os l):Rt (zT (fV i) as) (.lst (l.map toD)):=
 ⟨_,zcq h ho.st,ho.st,congrArg D.lst ho.ds⟩
structure OwsX{α:Type}(toD:α->D)(Q:Nat->α->Prop)(os:List O)(l:List α):Prop where
 st:O.strs os=true
 ds:O.toDs os=l.map toD
 al:∀i a,l[i]? = some a->Q i a
 ln:os.length=l.length
theorem zux(ha:WA fr as rs)(hg:g (rs.map (·.2))=some (.fl zs)):fP fr g as=some (.ow (.nd .ls (zs.map (lfs (rs.all (·.1))))),as):=by
 unfold fP;unfold WA at ha
 rw[ha];show(views as _).bind _=_
 rw[V4];show(g _).bind _=_
 rw[hg]
 show(if(zs.all yd||(some (rs.all (·.1))).isSome)=true then _ else _:Option RV).bind _=_
 rw[if_pos (by simp)];rfl
theorem zsv(ha:WE a as x)(hg:g [x]=some (.fl zs)):fP (aC a aN) g as=some (.ow (.nd .ls (zs.map (O.lf true))),as):=by
 have:=zux (g:=g) (ZJ ha (zY (as:=as))) hg
 rw[show([(true,x)].all (·.1))=true from rfl,zdz]at this
 exact this
theorem zxm(h:WD a as s (zO r)):fP (aC a aN) lstP as=some (.ow (xJ r),as):=by
 have:=zux (g:=lstP) (zM h (zY (as:=as))) rfl
 rw[zzZ]at this
 exact this
theorem zwn(h:WD a as s (zO r)):WE (fP (aC a aN) lstP) as (zO r):=⟨_,zxm h,(Wv r).1,(Wv r).2⟩
theorem zsl(ha:WE a as x)(hb:WE b as y)(hc:WE c as z)(hd:WE d as u)(hg:RE (g [(true,x),(true,y),(true,z),(true,u)]) w):WE (zj (aC a (aC b (aC c (aC d aN)))) g) as w:=by
 obtain⟨o,h1,h2⟩:=hg
 exact⟨o,XF (ZJ ha (ZJ hb (ZJ hc (ZJ hd zY)))) (by show g [(yd x||true,x),(yd y||true,y),(yd z||true,z),(yd u||true,u)]=_;rw[QzB,QzB,QzB,QzB];exact h1),h2⟩
theorem zwh{fr:DF}{as:AS}{os:List O}{x:D}(h:WO fr as os)(hl:os.length<=sizeLine)(hs:O.strs os=true)(e:D.tup (O.toDs os)=x):WE (xm fr) as x:=by
 refine⟨_,zhr h hl, ?_, ?_⟩
 · unfold Wx
   split
   · exact hs
   · exact hs
 · unfold Wx
   split
   · exact e
   · exact e
theorem zpK{l:List Int}(h:l.Pairwise (· <= ·)){i j:Nat}(hij:i<j)(hj:j<l.length):l[i]<=l[j]:=List.pairwise_iff_getElem.mp h i j (by trivial) hj hij
theorem Y8(h:a.toNat<r.length):rAt r a=r[a.toNat]:=by unfold rAt;rw[zzC h];rfl
theorem zlH:∀l:List Int,zaP (l.map D.int)=some l
 | []=>rfl
 |x::r=>by
  show(zaP (r.map D.int)).bind _=_
  rw[zlH r];rfl
theorem Ows.frz{α:Type}{toD:α->D}{Q:α->Prop}{os:List O}{l:List α}(h:Ows toD Q os l):(O.nd .ls os).frz = .lf true (.lst (l.map toD)):=by
 show O.lf (O.strs os) (.lst (O.toDs os))=_
 rw[h.st,h.ds]
theorem znd{as as2:AS}{j:Nat}{ps:List O}{fr:DF}{os:List O}(hj:as[j]? = some (sN ps))(hr:fr (as.set j (some (O.nd .ls ps).frz))=some (os,as2)):dC (fV j) fr as=some ((O.nd .ls ps).frz::os,as2):=by
 unfold dC
 rw[zjk hj]
 show((toO as (.bo j)).bind _)=_
 rw[zqp hj]
 show(fr (as.set j (some (O.nd .ls ps).frz))).bind _=_
 rw[hr];rfl
theorem zun{as as1:AS}{fr:DF}{os:List O}(h:fr as=some (os,as1))(hl:os.length<=sizeLine):xm fr as=some (.ow (Wx os),as1):=by
 unfold xm
 rw[h];show(if os.length<=sizeLine then _ else _)=_
 rw[if_pos hl]
theorem zhT:∀(l:List Int) (k:Nat) (h:k<l.length),(l[k]::l.eraseIdx k).Perm l
 |x::r,0,_=>List.Perm.refl _
 |x::r,k+1,h=>(List.Perm.swap _ _ _).trans ((zhT r k (by simpa using h)).cons x)
abbrev Vk(n:Nat):List Int:=(List.range n).map λ(i:Nat)=>(i:Int)
abbrev zgD(p:Str×List Int):D:=.tup [.str p.1,zO p.2]
theorem zof:ixP (.lst [.int x,.int y]) (.int (if c=true then 1 else 0))=some (.im (.int (if c=true then y else x))):=by cases c<;>rfl
abbrev abc:Str:="abcdefghijklmnopqrstuvwxyz"
theorem ztr:∀k,k<26->abc.cps.toList[k]? = some (97+k):=by decide +kernel
theorem zrc(h0:0<=i)(h1:i<26):ixP (.str abc) (.int i)=some (.im (.str ⟨#[97+i.toNat]⟩)):=by
 show(if abc.length<=sizeLine then(atI abc.cps.toList i).bind (λc=>some (R0.im (.str ⟨#[c]⟩)))else none)=_
 rw[if_pos (show abc.length<=sizeLine by decide +kernel)]
 have:=zcc (ztr i.toNat (by trivial))
 rw[show((i.toNat:Nat):Int)=i by trivial]at this
 rw[this];rfl
theorem zlk:∀l:List Str,zfs (l.map D.str)=some l
 | []=>rfl
 |x::r=>by
  show(zfs (r.map D.str)).bind _=_
  rw[zlk r];rfl
theorem zyu:∀l:List Str,(∀s ∈ l,s.length=1)->(l.map (·.length)).sum=l.length
 | [],_=>rfl
 |x::r,h=>by
  show x.length+(r.map (·.length)).sum=r.length+1
  rw[h x (zzD ..),zyu r λs m=>h s (zzB _ m)];trivial
theorem zrr(a b:Str):(a++b).length=a.length+b.length:=by
 show(a++b).cps.size=a.cps.size+b.cps.size
 rw[Str.cps_append,Array.size_append]
theorem zhG(h:F.Perm (Vk n)):Row n F/\∀b:Int,0<=b->b<n->b ∈ F:=by
 refine⟨⟨by rw[h.length_eq,zS,QzS],λx m=>?_⟩,λb b0 b1=>h.mem_iff.mpr ?_⟩
 · obtain⟨i,hi,rfl⟩:=QyB.mp (h.mem_iff.mp m)
   have:=List.mem_range.mp hi
   trivial
 · exact QyB.mpr ⟨b.toNat,List.mem_range.mpr (by trivial),by trivial⟩
theorem zlh(h:F.Perm (Vk n))(hv:InR n v)(hw:InR n w)(e:rAt F v=rAt F w):v=w:=by
 have hl:=(zhG h).1.1
 have v0:=hv.1
 have v1:=hv.2
 have w0:=hw.1
 have w1:=hw.2
 have nd:F.Nodup:=by
  refine h.nodup_iff.mpr (List.pairwise_map.mpr (List.nodup_range.imp λz q=>z (by trivial)))
 rw[Y8 (by trivial),Y8 (by trivial)]at e
 have:=(List.getElem_inj nd).mp e
 trivial
abbrev zaL(p:Str×TZ):D:=.tup [.str p.1,vp p.2]
structure Alg(n m:Nat)(J:TZ)(e:Int)(Ds:DD):Prop where
 n1:1<=n
 n8:n<=8
 m1:1<=m
 m6:m<=6
 j:Tab n n J
 e0:0<=e
 en:e<n
 dl:Ds.length<=6
 ds:∀p ∈ Ds,Tab m n p.2
 nd:(Ds.map (·.1)).Nodup
structure LawA(n m:Nat)(J:TZ)(e:Int)(Ds:DD):Prop where
 lj:LJ n (jAt J) e
 ld:∀p ∈ Ds,LD n m (jAt J) e (jAt p.2)
abbrev wO(n m:Nat)(J:TZ)(e:Int)(Ds:DD)(S:SS):D:=.tup [.int n,.int m,vp J,.int e,.lst (Ds.map zaL),.lst (S.map zgD)]
abbrev XJ(T:TZ):O:=.nd .ls (T.map xJ)
theorem znL(h:as[i]? = some (some (.lf s (.int k)))):xV i as=some k:=by
 unfold xV;rw[zkZ (f:=zdm) h rfl];rfl
theorem zvh{r:List Int}{k:Int}(h:k.toNat<r.length):(r.map lfI)[k.toNat]? = sT (.int r[k.toNat]):=by
 rw[zzG,zzC h];rfl
theorem zpR{as:AS}{i:Nat}{f1 f2 fv:IXF}{k1 k2 c:Int}{T:TZ}{r:List Int}(h1:f1 as=some k1)(h2:f2 as=some k2)(hv:fv as=some c)(p1:0<=k1)(p2:0<=k2)(hi:as[i]? = some (some (XJ T)))(hr:T[k1.toNat]? = some r)(hk:k2.toNat<r.length):
 zox i f1 f2 fv as=some (.nx (as.set i (some (XJ (T.set k1.toNat (r.set k2.toNat c)))))):=by
 have e1:(T.map xJ)[k1.toNat]? = sN (r.map lfI):=by rw[zzG,hr];rfl
 have e2:=zvh hk
 have e3:(T.map xJ).set k1.toNat (.nd .ls ((r.map lfI).set k2.toNat (.lf true (.int c))))=(T.set k1.toNat (r.set k2.toNat c)).map xJ:=by
  rw[List.map_set]
  show _=(T.map xJ).set k1.toNat (.nd .ls ((r.set k2.toNat c).map lfI))
  rw[List.map_set]
 unfold zox
 simp only[h1,h2,hv,QzJ,if_pos (show 0<=k1/\0<=k2 from⟨p1,p2⟩),(zkZ hi rfl:slO zgE as i=some (T.map xJ)),(zku e1 rfl:atO zgE _ _=some (r.map lfI)),(zku e2 rfl:atO zdm _ _=some (.int r[k2.toNat])),e3]
theorem ztX(hr:Row n r)(hc:InR n c):Row n (r.set i c):=by
 refine⟨by rw[zzS];exact hr.1,λx m=>?_⟩
 rcases List.mem_or_eq_of_mem_set m with m|rfl
 · exact hr.2 x m
 · exact hc
theorem ztB(hT:Tab k n T)(hr:Row n r):Tab k n (T.set i r):=by
 refine⟨by rw[zzS];exact hT.1,λx m=>?_⟩
 rcases List.mem_or_eq_of_mem_set m with m|rfl
 · exact hT.2 x m
 · exact hr
theorem zkD(hJ:Tab n n J)(hw:InR n w)(hv:InR n v):InR n (jAt J w v):=(rowAt (Yk hJ hw).2 hv).2
theorem zam(hJ:Tab n n J)(hw:InR n w)(hv:InR n v)(ha:WD a as true (vp J))(hb:WD b as true (.int w))(hc:WD c as true (.int v)):WD (f2 (f2 a b ixP) c ixP) as true (.int (jAt J w v)):=
 zV (wL ha hb (Yk hJ hw).1) hc (rowAt (Yk hJ hw).2 hv).1 rfl
theorem zyb(ha:WA fr as rs)(hg:g (rs.map (·.2))=some (.fd kvs)):fP fr g as=some (.ow (.nd (.dc (kvs.map (·.1))) ((kvs.map (·.2)).map (lfs (rs.all (·.1))))),as):=by
 unfold fP;unfold WA at ha
 rw[ha];show(views as _).bind _=_
 rw[V4];show(g _).bind _=_
 rw[hg]
 show(if((kvs.map (·.2)).all yd||(some (rs.all (·.1))).isSome)=true then _ else _:Option RV).bind _=_
 rw[if_pos (by simp)];rfl
abbrev RT(o:O):Prop:=o.str=true/\∃ds,o.toD = .tup ds
theorem zoF{g:GF}{f:SF}(I:AS->Prop)(P:It1->Prop):∀(xs:List It1) (as:AS),(∀x ∈ xs,∀as,I as->∃as1,g x as=some as1/\((∃as2,f as1=some (.nx as2)/\I as2/\P x)\/∃o,f as1=some (.rt o)/\RT o/\¬P x))->I as->
 (∃as',forL g f xs as=some (.nx as')/\I as'/\∀x ∈ xs,P x)\/∃o,forL g f xs as=some (.rt o)/\RT o/\¬ ∀x ∈ xs,P x
 | [],as,_,h=>.inl ⟨as,rfl,h,λ_ m=>nomatch m⟩
 |x::r,as,H,h=>by
  obtain⟨as1,h1,h2⟩:=H x (zzD ..) as h
  rcases h2 with⟨as2,h2,h3,h4⟩|⟨o,h2,h3,h4⟩
  · rcases zoF I P r as2 (λy m=>H y (zzB _ m)) h3 with⟨as',k1,k2,k3⟩|⟨o,k1,k2,k3⟩
    · refine .inl ⟨as',XS h1 h2 k1,k2,λy m=>?_⟩
      rcases zzA.mp m with rfl|m
      · exact h4
      · exact k3 y m
    · exact .inr ⟨o,XS h1 h2 k1,k2,λz=>k3 λy m=>z y (zzB _ m)⟩
  · exact .inr ⟨o,zrv h1 h2,h3,λz=>h4 (z x (zzD ..))⟩
abbrev zfV(r:Option Out)(I:AS->Prop)(P:Prop):Prop:=(∃as',r=some (.nx as')/\I as'/\P)\/∃o,r=some (.rt o)/\RT o/\¬P
theorem zfV.imp{r:Option Out}{I:AS->Prop}{P Q:Prop}(h:zfV r I P)(k:P ↔ Q):zfV r I Q:=by
 rcases h with⟨a,b,c,d⟩|⟨a,b,c,d⟩
 · exact .inl ⟨a,b,c,k.mp d⟩
 · exact .inr ⟨a,b,c,λz=>d (k.mpr z)⟩
theorem zbf{v n:Nat}{f fr:SF}(I:AS->Prop)(P:Int->Prop)(H:∀b,InR n b->∀as,I as->∃as1,gN v (true,.int b) as=some as1/\zfV (f as1) I (P b)){as:AS}(h:I as):zfV (forL (gN v) f (wR 0 n) as) I (∀b,InR n b->P b):=by
 have k:=zoF (g:=gN v) (f:=f) I (λx=>∀b,x=(true,.int b)->P b) (wR 0 n) as (λx m as hI=>by
  obtain⟨b,rfl,b0,b1⟩:=zgt m
  obtain⟨as1,h1,h2⟩:=H b ⟨b0,by trivial⟩ as hI
  exact⟨as1,h1,h2.imp ⟨λp c e=>by cases e;exact p,λp=>p b rfl⟩⟩) h
 refine zfV.imp k ⟨λp b hb=>p (true,.int b) ?_ b rfl,λp x m b e=>?_⟩
 · have hb0:=hb.1
   have hb1:=hb.2
   refine zzY (i:=b.toNat) ?_
   unfold wR
   rw[zzG,List.getElem?_range (by trivial)]
   show some (true,D.int (0+(b.toNat:Int)))=_
   rw[show(0:Int)+(b.toNat:Int)=b by trivial]
 · subst e
   obtain⟨c,e,c0,c1⟩:=zgt m
   cases e
   exact p b ⟨c0,by trivial⟩
theorem WR{v n:Nat}{g:GF}{f:SF}{as:AS}{s:Bool}(h:as[v]? = some (some (.lf s (.int n))))(hn:n<=1000):vI (xU (aC (fV v) aN) xW) g f as=forL g f (wR 0 n) as:=
 Yc (vq (zM (za h) zY) (by trivial) (by trivial)) (by rw[QzG])
theorem znO{c:TF}{f:EF}{as:AS}{P:Prop}{q:Bool}{ds:List D}{I:AS->Prop}(ht:WT c as q)(hq:q=true ↔ ¬P)(hf:WE f as (.tup ds))(hI:I as):zfV (sIf c (zT f) sNx as) I P:=by
 cases q with
 |false=>exact .inl ⟨as,zL ht rfl,hI,Classical.byContradiction λz=>nomatch hq.mpr z⟩
 |true=>
  obtain⟨o,h1,h2,h3⟩:=zqK hf
  exact .inr ⟨o,Yd ht h1,⟨h2,ds,h3⟩,hq.mp rfl⟩
theorem zln{a b:EF}{as:AS}{x y:Int}{s t:Bool}(ha:WD a as s (.int x))(hb:WD b as t (.int y)):WT (fT (f2 a b (zK .NotEq))) as (!(x==y)):=yp (zjm (c:=x==y) ha hb rfl) rfl
theorem zoN{x y:Int}:(!(x==y))=true ↔ ¬x=y:=by simp
abbrev UnA(n:Nat)(J:TZ)(e:Int):Prop:=∀a,InR n a->jAt J e a=a/\jAt J a e=a
abbrev As(n:Nat)(J:TZ):Prop:=∀a,InR n a->∀b,InR n b->∀c,InR n c->jAt J (jAt J a b) c=jAt J a (jAt J b c)
section
variable{S:Option O->Option O->Option O->AS}{vj vn ve:Nat}{J:TZ}{n:Nat}{e:Int}
theorem zvE{x y z:Option O}(hJ:Tab n n J)(he:InR n e)(hj:∀x y z,(S x y z)[vj]? = some (sT (vp J)))(hv:∀x y z,(S x y z)[ve]? = some (sI e))(h3:∀x y z,(S x y z)[3]? = some x)(g3:∀d x y z,gN 3 (true,d) (S x y z)=some (S (sT d) y z)):
 zfV (forL (gN 3) (sIf (WF (fT (f2 (f2 (f2 (fV vj) (fV ve) ixP) (fV 3) ixP) (fV 3) (zK .NotEq))) (fT (f2 (f2 (f2 (fV vj) (fV 3) ixP) (fV ve) ixP) (fV 3) (zK .NotEq)))) (zT (xm (dC (fC (.str "nothing")) (dC (fV 3) dN)))) sNx) (wR 0 n) (S x y z)) (λas=>∃x,as=S x y z) (UnA n J e):=by
 refine zbf (fr:=sNx) (λas=>∃x,as=S x y z) (λa=>jAt J e a=a/\jAt J a e=a) (λa ha as hI=>?_) ⟨x,rfl⟩
 obtain⟨x,rfl⟩:=hI
 have w3:WD (fV 3) (S (sI a) y z) true (.int a):=za (h3 _ _ _)
 have t1:=zln (zam hJ he ha (za (hj (sI a) y z)) (za (hv (sI a) y z)) w3) w3
 have t2:=zln (zam hJ ha he (za (hj (sI a) y z)) w3 (za (hv (sI a) y z))) w3
 refine⟨S (sI a) y z,g3 _ _ _ _,znO (q:=!(jAt J e a==a) || !(jAt J a e==a)) (ds:=[.str "nothing",.int a]) (zcM t1 (λh=>by rw[h,Bool.false_or];exact t2) (λh=>by rw[h];rfl)) (by simp;grind) (zwh (os:=[.lf true (.str "nothing"),lfI a]) (yq zb (yq w3 yV)) (szl rfl) rfl rfl) ⟨_,rfl⟩⟩
abbrev zvI(vj vn:Nat):SF:=vI (xU (aC (fV vn) aN) xW) (gN 4) (vI (xU (aC (fV vn) aN) xW) (gN 5) (sIf (fT (f2 (f2 (f2 (fV vj) (f2 (f2 (fV vj) (fV 3) ixP) (fV 4) ixP) ixP) (fV 5) ixP) (f2 (f2 (fV vj) (fV 3) ixP) (f2 (f2 (fV vj) (fV 4) ixP) (fV 5) ixP) ixP) (zK .NotEq))) (zT (xm (dC (fC (.str "parting")) (dC (fV 3) (dC (fV 4) (dC (fV 5) dN)))))) sNx))
theorem ztQ{x y z:Option O}(n8:n<=8)(hJ:Tab n n J)(hj:∀x y z,(S x y z)[vj]? = some (sT (vp J)))(hn:∀x y z,(S x y z)[vn]? = some (sI n))(h3:∀x y z,(S x y z)[3]? = some x)(h4:∀x y z,(S x y z)[4]? = some y)(h5:∀x y z,(S x y z)[5]? = some z)
 (g3:∀d x y z,gN 3 (true,d) (S x y z)=some (S (sT d) y z)) (g4:∀d x y z,gN 4 (true,d) (S x y z)=some (S x (sT d) z)) (g5:∀d x y z,gN 5 (true,d) (S x y z)=some (S x y (sT d))):
 zfV (forL (gN 3) (zvI vj vn) (wR 0 n) (S x y z)) (λas=>∃x y z,as=S x y z) (As n J):=by
 refine zbf (fr:=sNx) (λas=>∃x y z,as=S x y z) (λa=>∀b,InR n b->∀c,InR n c->jAt J (jAt J a b) c=jAt J a (jAt J b c)) (λa ha as hI=>?_) ⟨x,y,z,rfl⟩
 obtain⟨x,y,z,rfl⟩:=hI
 refine⟨_,g3 _ _ _ _, ?_⟩
 unfold zvI
 rw[WR (hn _ _ _) (by trivial)]
 have k:=zbf (v:=4) (n:=n) (fr:=sNx) (f:=vI (xU (aC (fV vn) aN) xW) (gN 5) (sIf (fT (f2 (f2 (f2 (fV vj) (f2 (f2 (fV vj) (fV 3) ixP) (fV 4) ixP) ixP) (fV 5) ixP) (f2 (f2 (fV vj) (fV 3) ixP) (f2 (f2 (fV vj) (fV 4) ixP) (fV 5) ixP) ixP) (zK .NotEq))) (zT (xm (dC (fC (.str "parting")) (dC (fV 3) (dC (fV 4) (dC (fV 5) dN)))))) sNx)) (λas=>∃y z,as=S (sI a) y z) (λb=>∀c,InR n c->jAt J (jAt J a b) c=jAt J a (jAt J b c)) (λb hb as hI=>by
  obtain⟨y,z,rfl⟩:=hI
  refine⟨_,g4 _ _ _ _, ?_⟩
  rw[WR (hn _ _ _) (by trivial)]
  have k:=zbf (v:=5) (n:=n) (fr:=sNx) (f:=sIf (fT (f2 (f2 (f2 (fV vj) (f2 (f2 (fV vj) (fV 3) ixP) (fV 4) ixP) ixP) (fV 5) ixP) (f2 (f2 (fV vj) (fV 3) ixP) (f2 (f2 (fV vj) (fV 4) ixP) (fV 5) ixP) ixP) (zK .NotEq))) (zT (xm (dC (fC (.str "parting")) (dC (fV 3) (dC (fV 4) (dC (fV 5) dN)))))) sNx) (λas=>∃z,as=S (sI a) (sI b) z) (λc=>jAt J (jAt J a b) c=jAt J a (jAt J b c)) (λc hc as hI=>by
   obtain⟨z,rfl⟩:=hI
   have w3:WD (fV 3) (S (sI a) (sI b) (sI c)) true (.int a):=za (h3 _ _ _)
   have w4:WD (fV 4) (S (sI a) (sI b) (sI c)) true (.int b):=za (h4 _ _ _)
   have w5:WD (fV 5) (S (sI a) (sI b) (sI c)) true (.int c):=za (h5 _ _ _)
   have wj:WD (fV vj) (S (sI a) (sI b) (sI c)) true (vp J):=za (hj _ _ _)
   have ab:=zkD hJ ha hb
   have bc:=zkD hJ hb hc
   exact⟨_,g5 _ _ _ _,znO (ds:=[.str "parting",.int a,.int b,.int c]) (zln (zam hJ ab hc wj (zam hJ ha hb wj w3 w4) w5) (zam hJ ha bc wj w3 (zam hJ hb hc wj w4 w5))) zoN (zwh (os:=[.lf true (.str "parting"),lfI a,lfI b,lfI c]) (yq zb (yq w3 (yq w4 (yq w5 yV)))) (szl rfl) rfl rfl) ⟨_,rfl⟩⟩) ⟨z,rfl⟩
  rcases k with⟨as',k1,⟨z',rfl⟩,k3⟩|k
  · exact .inl ⟨_,k1,⟨_,_,rfl⟩,k3⟩
  · exact .inr k) ⟨y,z,rfl⟩
 rcases k with⟨as',k1,⟨y',z',rfl⟩,k3⟩|k
 · exact .inl ⟨_,k1,⟨_,_,_,rfl⟩,k3⟩
 · exact .inr k
end
abbrev Flt(r:Option O)(P:Prop):Prop:=(RE r .non/\P)\/((∃ds,RE r (.tup ds))/\¬P)
theorem znJ{n m:Nat}{c:SF}{ds:List (Bool×D)}{P:Prop}(hl:ds.length=m)(h:(Rt (c (Wy n ds)) .non/\P)\/((∃es,Rt (c (Wy n ds)) (.tup es))/\¬P)):Flt (fnR n m c ds) P:=by
 rcases h with⟨h,p⟩|⟨⟨es,h⟩,p⟩
 · exact .inl ⟨yr hl h,p⟩
 · exact .inr ⟨⟨es,yr hl h⟩,p⟩
theorem zjP{f g:SF}{as:AS}{I:AS->Prop}{P Q:Prop}(h:zfV (f as) I P)(k:∀as',I as'->P->(Rt (g as') .non/\Q)\/((∃es,Rt (g as') (.tup es))/\¬Q)):(Rt (zH f g as) .non/\P/\Q)\/((∃es,Rt (zH f g as) (.tup es))/\¬(P/\Q)):=by
 rcases h with⟨as',h1,h2,p⟩|⟨o,h1,⟨h2,es,h3⟩,p⟩
 · rcases k as' h2 p with⟨k1,q⟩|⟨⟨es,k1⟩,q⟩
   · exact .inl ⟨zp h1 k1,p,q⟩
   · exact .inr ⟨⟨es,zp h1 k1⟩,λz=>q z.2⟩
 · exact .inr ⟨⟨es,o,zap h1,h2,h3⟩,λz=>p z.1⟩
theorem zkB{as:AS}:(Rt (zT (fC .non) as) .non/\True)\/((∃es,Rt (zT (fC .non) as) (.tup es))/\¬True):=.inl ⟨zR (WD.e zb),trivial⟩
theorem Flt.imp{r:Option O}{P Q:Prop}(h:Flt r P)(k:P ↔ Q):Flt r Q:=by
 rcases h with⟨h,p⟩|⟨h,p⟩
 · exact .inl ⟨h,k.mp p⟩
 · exact .inr ⟨h,λz=>p (k.mpr z)⟩
section
variable{n m:Nat}{J T:TZ}{e:Int}{Ds:DD}{S:SS}
abbrev Dn(n m:Nat)(J T:TZ):Prop:=∀a,InR n a->∀i,InR m i->∀b,InR n b->∀k,InR m k->jAt T ((i+k)%m) (jAt J a b)=jAt J (jAt T i a) (jAt T k b)
theorem zkU{a b c:EF}{as:AS}{w v:Int}(hT:Tab m n T)(hw:InR m w)(hv:InR n v)(ha:WD a as true (vp T))(hb:WD b as true (.int w))(hc:WD c as true (.int v)):WD (f2 (f2 a b ixP) c ixP) as true (.int (jAt T w v))/\InR n (jAt T w v):=
 ⟨zV (wL ha hb (Yk hT hw).1) hc (rowAt (Yk hT hw).2 hv).1 rfl,(rowAt (Yk hT hw).2 hv).2⟩
abbrev dfI:SF:=(sIf (fT (f2 (f2 (f2 (fV 2) (f2 (f2 (fV 7) (fV 9) (V3 .Add)) (fV 4) (V3 .Mod)) ixP) (f2 (f2 (fV 5) (fV 6) ixP) (fV 8) ixP) ixP) (f2 (f2 (fV 5) (f2 (f2 (fV 2) (fV 7) ixP) (fV 6) ixP) ixP) (f2 (f2 (fV 2) (fV 9) ixP) (fV 8) ixP) ixP) (zK .NotEq))) (zT (xm (dC (fC (.str "doing")) (dC (fV 1) (dC (fV 6) (dC (fV 7) (dC (fV 8) (dC (fV 9) dN)))))))) sNx)
abbrev D10(n m:Nat)(J T:TZ)(e:Int)(Ds:DD)(S:SS)(s:Str)(x y z w:Option O):AS:=[sT (wO n m J e Ds S),sT (.str s),sT (vp T),sI n,sI m,sT (vp J),x,y,z,w]
theorem df4{s:Str}{a i b:Int}{w:Option O}(hJ:Tab n n J)(hT:Tab m n T)(m1:1<=m)(ha:InR n a)(hi:InR m i)(hb:InR n b):zfV (forL (gN 9) dfI (wR 0 m) (D10 n m J T e Ds S s (sI a) (sI i) (sI b) w)) (λas=>∃w,as=D10 n m J T e Ds S s (sI a) (sI i) (sI b) w) (∀k,InR m k->jAt T ((i+k)%m) (jAt J a b)=jAt J (jAt T i a) (jAt T k b)):=by
 refine zbf (fr:=sNx) (λas=>∃w,as=D10 n m J T e Ds S s (sI a) (sI i) (sI b) w) (λk=>jAt T ((i+k)%m) (jAt J a b)=jAt J (jAt T i a) (jAt T k b)) (λk hk as hI=>?_) ⟨w,rfl⟩
 obtain⟨w,rfl⟩:=hI
 have w2:WD (fV 2) (D10 n m J T e Ds S s (sI a) (sI i) (sI b) (sI k)) true (vp T):=za rfl
 have w5:WD (fV 5) (D10 n m J T e Ds S s (sI a) (sI i) (sI b) (sI k)) true (vp J):=za rfl
 have w6:WD (fV 6) (D10 n m J T e Ds S s (sI a) (sI i) (sI b) (sI k)) true (.int a):=za rfl
 have w7:WD (fV 7) (D10 n m J T e Ds S s (sI a) (sI i) (sI b) (sI k)) true (.int i):=za rfl
 have w8:WD (fV 8) (D10 n m J T e Ds S s (sI a) (sI i) (sI b) (sI k)) true (.int b):=za rfl
 have w9:WD (fV 9) (D10 n m J T e Ds S s (sI a) (sI i) (sI b) (sI k)) true (.int k):=za rfl
 obtain⟨q1,q2⟩:=zkU hT hi ha w2 w7 w6
 obtain⟨q3,q4⟩:=zkU hT hk hb w2 w9 w8
 have ab:=zkD hJ ha hb
 obtain⟨q5,q6⟩:=zkU hT (w:=(i+k)%m) (zcx m1) ab w2 (yF (yC w7 w9) (za (i:=4) (x:=.int m) (s:=true) rfl) (by trivial)) (zam hJ ha hb w5 w6 w8)
 exact⟨_,rfl,znO (ds:=[.str "doing",.str s,.int a,.int i,.int b,.int k]) (zln q5 (zam hJ q2 q4 w5 q1 q3)) zoN (zwh (os:=[.lf true (.str "doing"),.lf true (.str s),lfI a,lfI i,lfI b,lfI k]) (yq zb (yq (za (i:=1) rfl) (yq w6 (yq w7 (yq w8 (yq w9 yV)))))) (szl rfl) rfl rfl) ⟨_,rfl⟩⟩
theorem Flt.none{r:Option O}{P:Prop}(h:Flt r P)(p:P):RE r .non:=by
 rcases h with⟨h,_⟩|⟨_,h⟩
 · exact h
 · exact absurd p h
theorem LawA.un(L:LawA n m J e Ds):UnA n J e:=λa ha=>⟨L.lj.ul a ha,L.lj.ur a ha⟩
theorem LawA.as(L:LawA n m J e Ds):As n J:=λa ha b hb c hc=>L.lj.as a b c ha hb hc
theorem LawA.dn(L:LawA n m J e Ds){p:Str×TZ}(hp:p ∈ Ds):Dn n m J p.2:=λa ha i hi b hb k hk=>(L.ld p hp).dn a i b k ha hi hb hk
end
def iP(b k:Int):Int:=if k=0 then b/2 else b%2
def jP(a b:Int):Int:=2*iP b (a/2)+iP b (a%2)
def sP(a:Int):Int:=2*(1-a%2)+1-a/2
theorem ljP:LJ 4 jP 1:=by
 refine⟨λa b ha hb=>?_,⟨by decide,by decide⟩,λa ha=>?_,λa ha=>?_,λa b c ha hb hc=>?_⟩
 · revert b;refine f4 (P:=λa=>∀b,InR 4 b->InR 4 (jP a b)) ?_ ha
   have:∀a ∈ ([0,1,2,3]:List Int),∀b ∈ ([0,1,2,3]:List Int),InR 4 (jP a b):=by decide
   exact λa m b hb=>f4 (P:=λb=>InR 4 (jP a b)) (this a m) hb
 · exact f4 (P:=λa=>jP 1 a=a) (by decide) ha
 · exact f4 (P:=λa=>jP a 1=a) (by decide) ha
 · have:∀a ∈ ([0,1,2,3]:List Int),∀b ∈ ([0,1,2,3]:List Int),∀c ∈ ([0,1,2,3]:List Int),jP (jP a b) c=jP a (jP b c):=by decide
   refine f4 (P:=λa=>jP (jP a b) c=jP a (jP b c)) (λa m=>f4 (P:=λb=>jP (jP a b) c=jP a (jP b c)) (λb m'=>f4 (P:=λc=>jP (jP a b) c=jP a (jP b c)) (this a m b m') hc) hb) ha
theorem ldP{m:Nat}{r:Int->Int}(h:(∀a,InR 4 a->r a=a)\/(∀a,InR 4 a->r a=sP a)):LD 4 m jP 1 (λ_ a=>r a):=by
 rcases h with h|h
 · refine⟨λc a _ ha=>by show InR 4 (r a);rw[h a ha];exact ha,h 1 ⟨by decide,by decide⟩,λa i b k ha _ hb _=>?_⟩
   show r (jP a b)=jP (r a) (r b)
   rw[h a ha,h b hb,h _ (ljP.cl a b ha hb)]
 · refine⟨λc a _ ha=>by show InR 4 (r a);rw[h a ha];exact f4 (P:=λa=>InR 4 (sP a)) (by decide) ha,h 1 ⟨by decide,by decide⟩,λa i b k ha _ hb _=>?_⟩
   show r (jP a b)=jP (r a) (r b)
   rw[h a ha,h b hb,h _ (ljP.cl a b ha hb)]
   have:∀a ∈ ([0,1,2,3]:List Int),∀b ∈ ([0,1,2,3]:List Int),sP (jP a b)=jP (sP a) (sP b):=by decide
   exact f4 (P:=λa=>sP (jP a b)=jP (sP a) (sP b)) (λa m=>f4 (P:=λb=>sP (jP a b)=jP (sP a) (sP b)) (this a m) hb) ha
theorem ljB(h1:LJ n1 j1 e1)(h2:LJ n2 j2 e2)(p2:0<n2):LJ (n1*n2) (jB n2 j1 j2) (e1*n2+e2):=by
 refine⟨λa b ha hb=>?_,zvj h1.ce h2.ce,λa ha=>?_,λa ha=>?_,λa b c ha hb hc=>?_⟩
 · exact zvj (h1.cl _ _ (yQ p2 ha).1 (yQ p2 hb).1) (h2.cl _ _ (yQ p2 ha).2 (yQ p2 hb).2)
 · unfold jB
   rw[(zcv h2.ce).1,(zcv h2.ce).2,h1.ul _ (yQ p2 ha).1,h2.ul _ (yQ p2 ha).2,zyh]
 · unfold jB
   rw[(zcv h2.ce).1,(zcv h2.ce).2,h1.ur _ (yQ p2 ha).1,h2.ur _ (yQ p2 ha).2,zyh]
 · unfold jB
   rw[(zcv (h2.cl _ _ (yQ p2 ha).2 (yQ p2 hb).2)).1,(zcv (h2.cl _ _ (yQ p2 ha).2 (yQ p2 hb).2)).2,(zcv (h2.cl _ _ (yQ p2 hb).2 (yQ p2 hc).2)).1,(zcv (h2.cl _ _ (yQ p2 hb).2 (yQ p2 hc).2)).2,h1.as _ _ _ (yQ p2 ha).1 (yQ p2 hb).1 (yQ p2 hc).1,h2.as _ _ _ (yQ p2 ha).2 (yQ p2 hb).2 (yQ p2 hc).2]
theorem ldB(h1:LJ n1 j1 u1)(h2:LJ n2 j2 u2)(p2:0<n2)(e1:LD n1 m j1 u1 d1)(e2:LD n2 m j2 u2 d2):LD (n1*n2) m (jB n2 j1 j2) (u1*n2+u2) (dB n2 d1 d2):=by
 refine⟨λc a hc ha=>zvj (e1.cl _ _ hc (yQ p2 ha).1) (e2.cl _ _ hc (yQ p2 ha).2), ?_,λa i b k ha hi hb hk=>?_⟩
 · unfold dB
   rw[(zcv h2.ce).1,(zcv h2.ce).2,e1.em,e2.em]
 · unfold jB dB
   rw[(zcv (h2.cl _ _ (yQ p2 ha).2 (yQ p2 hb).2)).1,(zcv (h2.cl _ _ (yQ p2 ha).2 (yQ p2 hb).2)).2,(zcv (e2.cl i _ hi (yQ p2 ha).2)).1,(zcv (e2.cl i _ hi (yQ p2 ha).2)).2,(zcv (e2.cl k _ hk (yQ p2 hb).2)).1,(zcv (e2.cl k _ hk (yQ p2 hb).2)).2,e1.dn _ _ _ _ (yQ p2 ha).1 hi (yQ p2 hb).1 hk,e2.dn _ _ _ _ (yQ p2 ha).2 hi (yQ p2 hb).2 hk]
theorem ljT{n:Nat}{j j':Int->Int->Int}{e:Int}{F B:Int->Int}(h:LJ n j e)(hF:∀a,InR n a->InR n (F a))(hB:∀a,InR n a->InR n (B a))(hFB:∀a,InR n a->F (B a)=a)(q:∀a b,InR n a->InR n b->j' (F a) (F b)=F (j a b)):LJ n j' (F e):=by
 have q':∀a b,InR n a->InR n b->j' a b=F (j (B a) (B b)):=λa b ha hb=>by
  have:=q (B a) (B b) (hB a ha) (hB b hb)
  rw[hFB a ha,hFB b hb]at this
  exact this
 refine⟨λa b ha hb=>by rw[q' a b ha hb];exact hF _ (h.cl _ _ (hB a ha) (hB b hb)),hF e h.ce,λa ha=>?_,λa ha=>?_,λa b c ha hb hc=>?_⟩
 · have:=q e (B a) h.ce (hB a ha)
   rw[hFB a ha,h.ul _ (hB a ha),hFB a ha]at this
   exact this
 · have:=q (B a) e (hB a ha) h.ce
   rw[hFB a ha,h.ur _ (hB a ha),hFB a ha]at this
   exact this
 · have a':=hB a ha
   have b':=hB b hb
   have c':=hB c hc
   rw[q' a b ha hb,q' b c hb hc]
   have x:=q (j (B a) (B b)) (B c) (h.cl _ _ a' b') c'
   have y:=q (B a) (j (B b) (B c)) a' (h.cl _ _ b' c')
   rw[hFB c hc]at x
   rw[hFB a ha]at y
   rw[x,y,h.as _ _ _ a' b' c']
theorem ldT{n m:Nat}{j j' d d':Int->Int->Int}{e:Int}{F B:Int->Int}(hm:0<m)(h:LJ n j e)(k:LD n m j e d)(hF:∀a,InR n a->InR n (F a))(hB:∀a,InR n a->InR n (B a))(hFB:∀a,InR n a->F (B a)=a)
 (q:∀a b,InR n a->InR n b->j' (F a) (F b)=F (j a b)) (p:∀c a,InR m c->InR n a->d' c (F a)=F (d c a)):LD n m j' (F e) d':=by
 refine⟨λc a hc ha=>?_, ?_,λa i b l ha hi hb hl=>?_⟩
 · have:=p c (B a) hc (hB a ha)
   rw[hFB a ha]at this
   rw[this];exact hF _ (k.cl _ _ hc (hB a ha))
 · rw[p 0 e ⟨by omega,by omega⟩ h.ce,k.em]
 · have a':=hB a ha
   have b':=hB b hb
   have x:=q (B a) (B b) a' b'
   have y:=p i (B a) hi a'
   have z:=p l (B b) hl b'
   rw[hFB a ha]at x y
   rw[hFB b hb]at x z
   rw[x,y,z,p _ _ (zcx hm) (h.cl _ _ a' b'),q _ _ (k.cl _ _ hi a') (k.cl _ _ hl b'),k.dn _ _ _ _ a' hi b' hl]
def jK(k:Int)(n:Nat):Int->Int->Int:=if k=0 then jS n else if k=1 then jM else if k=2 then jL else jP
def put(T:TZ)(p q c:Int):TZ:=T.set p.toNat ((zav T p).set q.toNat c)
theorem zub(hT:Tab k n T)(hp:InR k p)(hc:InR n c):Tab k n (put T p q c):=ztB hT (ztX (Yk hT hp).2 hc)
theorem znT(hT:Tab k n T)(hp:InR k p)(hq:InR n q)(ha:InR k a)(hb:InR n b):jAt (put T p q c) a b=if a=p/\b=q then c else jAt T a b:=by
 have hp':=iT hp
 have ha':=iT ha
 have hq':=iT hq
 have hb':=iT hb
 have hl:=(Yk hT hp).2.1
 unfold jAt put
 by_cases e:a=p
 · subst e
   rw[QzI (by rw[hT.1];exact hp')]
   show rAt ((zav T a).set q.toNat c) b=_
   unfold rAt
   by_cases e2:b=q
   · subst e2
     rw[QzI (by rw[hl];exact hq'),if_pos ⟨rfl,rfl⟩];rfl
   · rw[zzW (λz=>e2 (by have:=hb.1;have:=hq.1;omega)),if_neg (λz=>e2 z.2)]
 · rw[zzW (λz=>e (by have:=ha.1;have:=hp.1;omega)),if_neg (λz=>e z.1)]
theorem zwD{v K n L:Nat}{f:SF}{S:TZ->Option O->Option O->AS}{p:Int}{g w:Int->Int}(hp:InR K p)(hg:∀b,InR L b->InR n (g b))(gi:∀b b',InR L b->InR L b'->g b=g b'->b=b')(hw:∀b,InR L b->InR n (w b))
 (h1:∀T d x y,gN v (true,d) (S T x y)=some (S T (sT d) y)) (h2:∀T b y,Tab K n T->InR L b->∃y',f (S T (sI b) y)=some (.nx (S (put T p (g b) (w b)) (sI b) y'))) {T0:TZ}{x0 y0:Option O}(hT:Tab K n T0):
 ∃T' x y,forL (gN v) f (wR 0 L) (S T0 x0 y0)=some (.nx (S T' x y))/\Tab K n T'/\(∀b,InR L b->jAt T' p (g b)=w b)/\(∀a b,InR K a->InR n b->a≠p->jAt T' a b=jAt T0 a b):=by
 obtain⟨as',hf,T',x,y,rfl,t1,t2,t3⟩:=Ze (g:=gN v) (f:=f)
  (λi as=>∃(T:TZ) (x y:Option O),as=S T x y/\Tab K n T/\(∀b,InR L b->b<i->jAt T p (g b)=w b)/\(∀a b,InR K a->InR n b->a≠p->jAt T a b=jAt T0 a b))
  (wR 0 L) 0 (S T0 x0 y0) (λi y as hx hI=>by
   obtain⟨T,x,z,rfl,t1,t2,t3⟩:=hI
   obtain⟨rfl,hi⟩:=Yr hx
   have hb:InR L (0+(i:Int)):=⟨by omega,by omega⟩
   obtain⟨y',h⟩:=h2 T (0+i) z t1 hb
   refine⟨_,h1 _ _ _ _,_,h,_,_,_,rfl,zub t1 hp (hw _ hb),λb hb' hlt=>?_,λa b ha hb' hne=>?_⟩
   · rw[znT t1 hp (hg _ hb) hp (hg _ hb')]
     by_cases e:g b=g (0+i)
     · have:=gi _ _ hb' hb e
       subst this
       rw[if_pos ⟨rfl,rfl⟩]
     · rw[if_neg (λz=>e z.2)]
       refine t2 b hb' ?_
       have:b≠0+i:=λz=>e (by rw[z])
       omega
   · rw[znT t1 hp (hg _ hb) ha hb',if_neg (λz=>hne z.1)]
     exact t3 a b ha hb' hne)
  ⟨T0,x0,y0,rfl,hT,λb hb h=>absurd h (by have:=hb.1;omega),λ_ _ _ _ _=>rfl⟩
 rw[ZS]at t2
 exact⟨T',x,y,hf,t1,λb hb=>t2 b hb (by have:=hb.2;omega),t3⟩
theorem zsX{v K n L M:Nat}{F:SF}{S:TZ->Option O->Option O->Option O->AS}{f g:Int->Int}{w:Int->Int->Int}(hf':∀a,InR M a->InR K (f a))(fi:∀a a',InR M a->InR M a'->f a=f a'->a=a')(hg:∀b,InR L b->InR n (g b))
 (h1:∀T d x y z,gN v (true,d) (S T x y z)=some (S T (sT d) y z)) (h2:∀T a y z,Tab K n T->InR M a->∃T' y' z',F (S T (sI a) y z)=some (.nx (S T' (sI a) y' z'))/\Tab K n T'/\(∀b,InR L b->jAt T' (f a) (g b)=w a b)/\(∀a' b,InR K a'->InR n b->a'≠f a->jAt T' a' b=jAt T a' b)) {T0:TZ}{x0 y0 z0:Option O}(hT:Tab K n T0):
 ∃T' x y z,forL (gN v) F (wR 0 M) (S T0 x0 y0 z0)=some (.nx (S T' x y z))/\Tab K n T'/\∀a b,InR M a->InR L b->jAt T' (f a) (g b)=w a b:=by
 obtain⟨as',hf,T',x,y,z,rfl,t1,t2⟩:=Ze (g:=gN v) (f:=F)
  (λi as=>∃(T:TZ) (x y z:Option O),as=S T x y z/\Tab K n T/\∀a b,InR M a->a<i->InR L b->jAt T (f a) (g b)=w a b)
  (wR 0 M) 0 (S T0 x0 y0 z0) (λi y as hx hI=>by
   obtain⟨T,x,y,z,rfl,t1,t2⟩:=hI
   obtain⟨rfl,hi⟩:=Yr hx
   have ha:InR M (0+(i:Int)):=⟨by omega,by omega⟩
   obtain⟨T',y',z',h,q1,q2,q3⟩:=h2 T (0+i) y z t1 ha
   refine⟨_,h1 _ _ _ _ _,_,h,_,_,_,_,rfl,q1,λa b ha' hlt hb=>?_⟩
   by_cases e:a=0+i
   · subst e;exact q2 b hb
   · rw[q3 (f a) (g b) (hf' a ha') (hg b hb) (λz=>e (fi _ _ ha' ha z))]
     exact t2 a b ha' (by omega) hb)
  ⟨T0,x0,y0,z0,rfl,hT,λa b ha h=>absurd h (by have:=ha.1;omega)⟩
 rw[ZS]at t2
 exact⟨T',x,y,z,hf,t1,λa b ha hb=>t2 a b ha (by have:=ha.2;omega) hb⟩
theorem zvt(h:as[i]? = some (some (.lf s (zO r))))(hf:f as=some k)(hr:Row n r)(hk:InR n k):xAt i f as=some (rAt r k):=by
 have e:=(rowAt hr hk).1
 unfold xAt
 rw[hf]
 show(if 0<=k then(slO zdm as i).bind λd=>(asL d).bind λds=>ds[k.toNat]?.bind asI else none)=_
 rw[if_pos hk.1]
 have e1:slO zdm as i=some (zO r):=by unfold slO;rw[h];rfl
 rw[e1]
 show((r.map D.int)[k.toNat]?).bind asI=_
 have hl:=iT hk
 rw[zzG,zzC (by rw[hr.1];exact hl),Y8 (by rw[hr.1];exact hl)]
 rfl
theorem ztc{as:AS}{i k n:Nat}{f1 f2 fv:IXF}{p q c:Int}{T:TZ}(hT:Tab k n T)(hp:InR k p)(hq:InR n q)(h1:f1 as=some p)(h2:f2 as=some q)(hv:fv as=some c)(hi:as[i]? = some (some (XJ T))):zox i f1 f2 fv as=some (.nx (as.set i (some (XJ (put T p q c))))):=by
 have hl:=iT hp
 have hq':=iT hq
 refine zpR h1 h2 hv hp.1 hq.1 hi (r:=zav T p) ?_ (by rw[(Yk hT hp).2.1];exact hq')
 unfold zav
 rw[zzC (by rw[hT.1];exact hl)];rfl
theorem zlu:∀(xs:List It1),(∀y ∈ xs,∃as1,g y as0=some as1/\fe as1=some (.ow (xJ r),as1))->Zt g YM fe as0 xs=some ((List.replicate xs.length r).map xJ)
 | [],_=>rfl
 |y::xs,H=>by
  obtain⟨as1,h1,h2⟩:=H y (zzD ..)
  exact zrV h1 h2 (Wv r).1 (zlu xs λz m=>H z (zzB _ m))
theorem zrT(hn:1<=n):Tab k n (List.replicate k (List.replicate n (0:Int))):=
 ⟨List.length_replicate ..,λr m=>by rw[List.eq_of_mem_replicate m];exact⟨List.length_replicate ..,λx m=>by rw[List.eq_of_mem_replicate m];omega⟩⟩
abbrev YK(r:List Int):D:=.tup (r.map D.int)
abbrev vG(T:TZ):D:=.tup (T.map YK)
theorem zoX{α:Type}{f:α->D}{l:List α}{i:Nat}{p:α}(h:l[i]? = some p):ixP (.tup (l.map f)) (.int (i:Int))=some (.im (f p)):=by
 have h:=zcc (xs:=l.map f) (j:=i) (v:=f p) (by rw[zzG,h];rfl)
 show imR (atI _ _)=_
 rw[h];rfl
theorem zyB{k n:Nat}{T:TZ}{w:Int}(hT:Tab k n T)(hw:InR k w):ixP (vG T) (.int w)=some (.im (YK (zav T w))):=by
 have hk:w.toNat<T.length:=by rw[hT.1];exact iT hw
 have g:=zzC hk
 unfold zav
 rw[g]
 have:=zoX (f:=YK) g
 rw[iC hw]at this
 exact this
theorem zxr{n:Nat}{r:List Int}{v:Int}(hr:Row n r)(hv:InR n v):ixP (YK r) (.int v)=some (.im (.int (rAt r v))):=by
 have hk:v.toNat<r.length:=by rw[hr.1];exact iT hv
 have g:=zzC hk
 rw[Y8 hk]
 have:=zoX (f:=D.int) g
 rw[iC hv]at this
 exact this
theorem zro(hT:Tab m n T)(hw:InR m w)(hv:InR n v)(ha:WD a as true (vG T))(hb:WD b as true (.int w))(hc:WD c as true (.int v)):WD (f2 (f2 a b ixP) c ixP) as true (.int (jAt T w v)):=
 zV (wL ha hb (zyB hT hw)) hc (zxr (Yk hT hw).2 hv) rfl
section
variable{α:Type}{kf:α->Str}{vf:α->D}
theorem zjp:∀l:List α,zcZ (l.map λp=>.tup [.str (kf p),vf p])=some (l.map λp=>(.inr (kf p),vf p))
 | []=>rfl
 |p::l=>by
  show(zcZ (l.map λp=>.tup [.str (kf p),vf p])).bind _=_
  rw[zjp l];rfl
theorem zoL:∀{l:List α},p ∈ l->(l.map kf).Nodup->zeY (l.map λp=>(.inr (kf p),vf p)) (.inr (kf p))=some (vf p)
 | [],h,_=>nomatch h
 |q::l,h,nd=>by
  have nd':=zzU.mp (show(kf q::l.map kf).Nodup from nd)
  rcases zzA.mp h with rfl|h
  · unfold zeY
    simp
  · have e:kf q≠kf p:=λe=>nd'.1 (e ▸ List.mem_map_of_mem h)
    have ih:=zoL h nd'.2
    unfold zeY at ih ⊢
    rw[QzQ,List.find?_cons_of_neg (by simp[e])]
    exact ih
theorem zqd:∀(kvs:List (Key×D)),(kvs.map (·.1)).zip (kvs.map (·.2))=kvs
 | []=>rfl
 |p::r=>congrArg (p :: ·) (zqd r)
theorem zxL{a:EF}{as:AS}{l:List α}(nd:(l.map kf).Nodup)(h:WE a as (.lst (l.map λp=>.tup [.str (kf p),vf p]))):WE (fP (aC a aN) zfl) as (.dct (l.map λp=>(.inr (kf p),vf p))):=by
 have hg:zfl [.lst (l.map λp=>.tup [.str (kf p),vf p])]=some (.fd (l.map λp=>(.inr (kf p),vf p))):=by
  show(zcZ (l.map λp=>.tup [.str (kf p),vf p])).bind _=_
  rw[zjp]
  refine if_pos ?_
  rw[zzZ]
  exact List.pairwise_map.mpr ((List.pairwise_map.mp nd).imp λh e=>h (Sum.inr.inj e))
 have k:=zyb (g:=zfl) (ZJ h (zY (as:=as))) hg
 rw[show([(true,D.lst (l.map λp=>.tup [.str (kf p),vf p]))].all (·.1))=true from rfl,zdz]at k
 generalize (l.map λp=>((.inr (kf p),vf p):Key×D))=kvs at k
 refine⟨_,k,zjB _, ?_⟩
 show D.dct ((kvs.map (·.1)).zip (O.toDs ((kvs.map (·.2)).map (O.lf true))))=_
 rw[zjL,zqd]
end
theorem wX{as:AS}{i:Nat}{cs:List Str}{f c:Str}{fe:EF}{d:D}{ns:List Str}{os:List O}(h:WE fe as d)(hi:as[i]? = some (some (.nd (.ob c ns) os)))(hc:c ∈ cs)(hn:f ∉ ns)(hl:ns.length<1000):zbg i cs f fe as=some (as.set i (some (.nd (.ob c (ns++[f])) (os++[.lf true d])))):=by
 obtain⟨o,h1,h2,h3⟩:=h
 unfold zbg
 have e:zbr as (.ow o)=some ((o.str,o.toD),as):=rfl
 simp only[h1,QzJ,e,hi,if_pos (⟨hc,hn,hl⟩:c ∈ cs/\f ∉ ns/\ns.length<1000),h2,h3]
theorem wJ(h:f as=some as1)(h2:g as1=o):Xw f g as=o:=by
 unfold Xw
 rw[h];exact h2
theorem zqR(h:WE fe as d):ztY fe as=some as:=by
 obtain⟨o,h1,_,_⟩:=h
 unfold ztY
 rw[h1];rfl
theorem zpU(h:as[i]? = some (sT (.ob c ns ds)))(hc:c ∈ cs)(hl:lkp ns ds f=some d):WD (f1 (fV i) (yu cs f)) as true d:=by
 have:=zob (za h) hc hl
 rw[QzB]at this
 exact this
def idT(n m:Nat):TZ:=List.replicate m (Vk n)
def bh(A B:TZ):TZ:=(A.zip B).map λp=>p.1.map (rAt p.2)
theorem zvU(h:InR n a):rAt (Vk n) a=a:=by
 have hk:=iT h
 rw[Y8 (by rw[zS,QzS];exact hk),List.getElem_map,List.getElem_range]
 exact iC h
theorem ztW(n:Nat):Row n (Vk n):=⟨by rw[zS,QzS],λx m=>by
 obtain⟨i,hi,rfl⟩:=QyB.mp m
 have:=List.mem_range.mp hi
 exact⟨Int.natCast_nonneg _,by omega⟩⟩
theorem zwl(n m:Nat):Tab m n (idT n m):=⟨List.length_replicate ..,λr h=>by rw[List.eq_of_mem_replicate h];exact ztW n⟩
theorem zjh(hc:InR m c)(ha:InR n a):jAt (idT n m) c a=a:=by
 have hk:=iT hc
 unfold jAt idT
 rw[List.getElem?_replicate,if_pos hk]
 exact zvU ha
theorem zvv(hA:Tab m n A)(hB:Tab m n B)(hi:i<m):(bh A B)[i]? = some ((zav A i).map (rAt (zav B i))):=by
 have h1:=zzC (l:=A) (i:=i) (by rw[hA.1];exact hi)
 have h2:=zzC (l:=B) (i:=i) (by rw[hB.1];exact hi)
 unfold bh zav
 rw[zzG,QzG,h1,h2]
 have:(A.zip B)[i]? = some (A[i]'(by rw[hA.1];exact hi),B[i]'(by rw[hB.1];exact hi)):=List.getElem?_zip_eq_some.mpr ⟨h1,h2⟩
 rw[this];rfl
theorem zqa(hA:Tab m n A)(hB:Tab m n B):Tab m n (bh A B):=by
 refine⟨by unfold bh;rw[zS,List.length_zip,hA.1,hB.1,Nat.min_self],λr h=>?_⟩
 obtain⟨p,hp,rfl⟩:=QyB.mp h
 obtain⟨h1,h2⟩:=List.of_mem_zip hp
 have r1:=hA.2 _ h1
 have r2:=hB.2 _ h2
 exact⟨by rw[zS];exact r1.1,λx mx=>by
  obtain⟨y,my,rfl⟩:=QyB.mp mx
  exact(rowAt r2 (r1.2 y my)).2⟩
theorem zxS(hA:Tab m n A)(hB:Tab m n B)(hc:InR m c)(ha:InR n a):jAt (bh A B) c a=jAt B c (jAt A c a):=by
 have hk:=iT hc
 have g:=zvv hA hB hk
 have e:((c.toNat:Nat):Int)=c:=iC hc
 rw[e]at g
 have r1:=(Yk hA hc).2
 have r2:=(Yk hB hc).2
 show rAt (((bh A B)[c.toNat]?).getD []) a=rAt (zav B c) (rAt (zav A c) a)
 rw[g]
 show rAt ((zav A c).map (rAt (zav B c))) a=_
 have hl:a.toNat<(zav A c).length:=by rw[r1.1];exact iT ha
 rw[Y8 (by rw[zS];exact hl),List.getElem_map,Y8 hl]
end PF
end
section
namespace G33
open PySem PySem.Spec PyProof.Rows L2 PF
abbrev zy:EF:=fV 1
abbrev yc:EF:=fC (.int 0)
abbrev zq:EF:=fV 0
abbrev yM:EF:=fC (.int 2)
abbrev zX:EF:=fC (.int 1)
abbrev zU:EF:=fV 2
abbrev XD:EF:=fC (.int 4)
abbrev zxC:GF:=gN 4
abbrev yt:EF:=fV 4
abbrev ym:EF:=fV 3
abbrev Wu:GF:=gN 0
abbrev zE:=V3 .Add
abbrev xf:EF:=fV 5
abbrev zdO:EF:=fC (.int 5)
abbrev wM:EF:=fV 6
abbrev WL:EF:=fV 7
abbrev zqu:EF:=fV 11
abbrev zx:=V3 .Mod
abbrev zZ:=V3 .Mult
abbrev zgi:EF:=fC (.int 8)
abbrev zN:=V3 .FloorDiv
abbrev xR:EF:=fC (.int 3)
abbrev Zn:=V3 .Sub
abbrev zps:EF:=fC (.int 6)
abbrev Xc:AF:=aC (fV 3) aN
abbrev zpT:AF:=aC (fV 0) aN
abbrev vY:AF:=aC (fV 1) aN
abbrev wA:AF:=aC (fV 2) aN
abbrev zsH:AF:=aC (fV 5) aN
abbrev zrn:AF:=aC (fV 7) aN
def wY:List Str:=["Knot"]
def zad:List Str:=["Knot"]
def Zx:List Str:=["Knot"]
def W6:List Str:=["Knot"]
def zaA:List Str:=["Knot"]
def Yz:List Str:=["Knot"]
def yR:List Str:=["Knot"]
def vd:List Str:=["Knot","Ways"]
def zhp:List Str:=["Ways"]
def zdg:List Str:=["Ways"]
def X4:List Str:=["Ways"]
def zeg:List Str:=["Ways"]
def zhe:List Str:=["Ways"]
abbrev zaI:List Str:=["self","whole","back","wait","turn","one","other"]
theorem zeq:FnScope zaI ["self","whole","back","wait","turn","one","other"] (zr Z7):=fsc
def Xr:IFn:=
 (Xw (zbg 0 wY "whole" zy)
  (Xw (zbg 0 zad "back" zU)
  (Xw (zbg 0 Zx "wait" ym)
  (Xw (zbg 0 W6 "turn" yt)
  (Xw (zbg 0 zaA "one" xf)
  (Xw (zbg 0 Yz "other" wM)
  (Xw (zbg 0 yR "deep" (fIf (fT (f2 xf (fC .non) (zK .Is))) yc (f2 zX (fP (aC (f1 xf (yu yR "deep")) (aC (f1 wM (yu yR "deep")) aN)) zny) zE)))
  (zbg 0 vd "size" (fIf (fT (f2 xf (fC .non) (zK .Is))) zX (f2 (f1 xf (yu vd "size")) (f1 wM (yu vd "size")) zE))))))))))
def xg(c:Str):Fn:=fnI c 7 7 Xr
abbrev zjK:List Str:=["value"]
theorem znb:FnScope zjK ["value"] (zr zcr):=fsc
def ziU:SF:=
 (zT (zj (aC zq (aC zq (aC (fC .non) (aC (fC (.bl false)) (aC (fC .non) (aC (fC .non) aN)))))) (xg "Knot")))
def YQ:Fn:=fnR 1 1 ziU
abbrev zfO:List Str:=["self","one","other"]
theorem zks:FnScope zfO ["self","one","other"] (zr WN):=fsc
def zfv:SF:=
 (zT (f2 (f2 (f1 zq (yu zhp "table")) zy ixP) zU ixP))
def zbN:Fn:=fnR 3 3 zfv
def zeb:List (Str×Fn):=[("Ways",zbN)]
abbrev ziS:List Str:=["way","one","other"]
theorem zne:FnScope ziS ["way","one","other"] (zr zcg):=fsc
def ziX:SF:=
 (zT (zj (aC (Z9 zeb "join" zq (aC (f1 zy (yu wY "whole")) (aC (f1 zU (yu wY "whole")) aN))) (aC (Z9 zeb "join" zq (aC (f1 zU (yu zad "back")) (aC (f1 zy (yu zad "back")) aN))) (aC (fC .non) (aC (fC (.bl false)) (aC zy wA))))) (xg "Knot")))
def yo:Fn:=fnR 3 3 ziX
abbrev zjM:List Str:=["way","row","half"]
theorem zgB:FnScope zjM ["way","row"] (zr zci):=fsc
def zjr(self:Fn):SF:=
 (zH (sIf (fT (f2 (fP vY vK) yc (zK .Eq))) (zT (fC .non)) sNx)
  (zH (sIf (fT (f2 (fP vY vK) zX (zK .Eq))) (zT (zj (aC (f2 zy yc ixP) aN) YQ)) sNx)
  (zH (zQ true 2 (f2 (fP vY vK) yM zN))
  (zT (zj (aC zq (aC (zj (aC zq (aC (fSl zy oN (oS zU) slP) aN)) self) (aC (zj (aC zq (aC (fSl zy (oS zU) oN slP) aN)) self) aN))) yo)))))
def vV:Nat->Fn
 |0=>λ_=>none
 |n+1=>fnR 3 2 (zjr (vV n))
abbrev zjF:List Str:=["tree"]
theorem znt:FnScope zjF ["tree"] (zr zcl):=fsc
def ziQ:SF:=
 (zT (fIf (fT (f2 zq (fC .non) (zK .Is))) yc (f1 zq (yu vd "size"))))
def vP:Fn:=fnR 1 1 ziQ
abbrev zbo:List Str:=["self"]
theorem zge:FnScope zbo ["self"] (zr Ys):=fsc
def zbP:SF:=
 (zT (f1 zq (yu zdg "neutral")))
def Wl:Fn:=fnR 1 1 zbP
def zhg:List (Str×Fn):=[("Ways",Wl)]
abbrev zhK:List Str:=["way","tree"]
theorem zlp:FnScope zhK ["way","tree"] (zr zaj):=fsc
def zhA:SF:=
 (zT (fIf (fT (f2 zy (fC .non) (zK .Is))) (Z9 zhg "nothing" zq aN) (f1 zy (yu wY "whole"))))
def Ye:Fn:=fnR 2 2 zhA
abbrev Vn:List Str:=["self","one","other"]
theorem zhZ:FnScope Vn ["self","one","other"] (zr ZR):=fsc
theorem VN:(["row","then"]:List Str).Nodup:=by decide +kernel
theorem zeC:(["a","then"]:List Str).Nodup:=by decide +kernel
def zcL:SF:=
 (zT (fP (aC (wG (zjy (aC zy wA)) [none,none] (gT 2 (gsC Wu (gsC (gN 1) gsN))) YM (fP (aC (wG (zcu zq) [none,some 1] Wu YM (f2 zy zq ixP)) aN) tupP)) aN) tupP))
def Vm:Fn:=fnR 3 3 zcL
def VM:List (Str×Fn):=[("Ways",Vm)]
abbrev zdY:List Str:=["way","one","other"]
theorem ziw:FnScope zdY ["way","one","other"] (zr XQ):=fsc
def zea:SF:=
 (zH (sIf (fT (f2 zy (fC .non) (zK .Is))) (zT zU) sNx)
  (zH (sIf (fT (f2 zU (fC .non) (zK .Is))) (zT zy) sNx)
  (zT (Z9 VM "behind" zq (aC zy wA)))))
def wD:Fn:=fnR 3 3 zea
abbrev zfn:List Str:=["self","wait","value","many"]
theorem zkb:FnScope zfn ["self","wait","value","many"] (zr WM):=fsc
def zft:SF:=
 (zT (f2 (f2 zy (f2 ym (f1 zq (yu X4 "around")) zx) ixP) zU ixP))
def zbV:Fn:=fnR 4 4 zft
def zcn:List (Str×Fn):=[("Ways",zbV)]
abbrev zib:List Str:=["way","tree","wait","whole","back"]
theorem zbQ:FnScope zib ["way","tree","wait"] (zr zau):=fsc
def zhx:SF:=
 (zH (sIf (fT (f2 zy (fC .non) (zK .Is))) (zT (fC .non)) sNx)
  (zH (zQ true 3 (Z9 zcn "made" zq (aC zU (aC (f1 zy (yu wY "whole")) (aC (f1 zy (yu vd "size")) aN)))))
  (zH (sIf (fT (f2 (f1 zy (yu yR "deep")) yc (zK .Eq))) (zT (zj Xc YQ)) sNx)
  (zH (zQ true 4 (Z9 zcn "made" zq (aC zU (aC (f1 zy (yu zad "back")) (aC (f1 zy (yu vd "size")) aN)))))
  (zT (zj (aC ym (aC yt (aC (zj (aC zq (aC (f1 zy (yu Zx "wait")) wA)) wD) (aC (f1 zy (yu W6 "turn")) (aC (f1 zy (yu zaA "one")) (aC (f1 zy (yu Yz "other")) aN)))))) (xg "Knot")))))))
def yE:Fn:=fnR 5 3 zhx
abbrev zdN:List Str:=["way","tree"]
theorem zit:FnScope zdN ["way","tree"] (zr XM):=fsc
def zdA:SF:=
 (zH (sIf (fT (f2 zy (fC .non) (zK .Is))) (zT (fC .non)) sNx)
  (zT (zj (aC (f1 zy (yu zad "back")) (aC (f1 zy (yu wY "whole")) (aC (f1 zy (yu Zx "wait")) (aC (zqs (f1 zy (yu W6 "turn"))) (aC (f1 zy (yu zaA "one")) (aC (f1 zy (yu Yz "other")) aN)))))) (xg "Knot"))))
def xG:Fn:=fnR 2 2 zdA
abbrev zif:List Str:=["way","knot","one","other"]
theorem Xe:FnScope zif ["way","knot"] (zr zaB):=fsc
def zhY:SF:=
 (zH (zQ true 2 (f1 zy (yu zaA "one")))
  (zH (zQ true 3 (f1 zy (yu Yz "other")))
  (zH (sIf (fT (f2 (f1 zy (yu Zx "wait")) (fC .non) (zK .IsNot))) (zH (zQ true 2 (zj (aC zq (aC zU (aC (f1 zy (yu Zx "wait")) aN))) yE))
  (zQ true 3 (zj (aC zq (aC ym (aC (f1 zy (yu Zx "wait")) aN))) yE))) sNx)
  (zH (sIf (fT (f1 zy (yu W6 "turn"))) (zT (xm (dC (zj (aC zq Xc) xG) (dC (zj (aC zq wA) xG) dN)))) sNx)
  (zT (xm (dC zU (dC ym dN))))))))
def yJ:Fn:=fnR 4 2 zhY
abbrev zlf:List Str:=["way","tree","wait","turn","row","owed","contrary","parts","part"]
theorem VV:FnScope zlf ["way","tree","wait","turn","row"] (zr zdL):=fsc
def zdB(self:List It1->O->Option O):SF:=
 (sIf (fT (f2 (f1 zy (yu yR "deep")) yc (zK .Eq))) (wQ (Zm 4 (dC (fIf (fT (f2 zU (fC .non) (zK .Is))) (f1 zy (yu wY "whole")) (Z9 zcn "made" zq (aC zU (aC (f1 zy (yu wY "whole")) (aC zX aN))))) dN) Za))
  (zH (zQ true 5 (zj (aC zq (aC (f1 zy (yu Zx "wait")) wA)) wD))
  (zH (zQ true 6 (f2 (f1 zy (yu W6 "turn")) ym (zK .NotEq)))
  (zH (zQ true 7 (fIf (fT wM) (xm (dC (f1 zy (yu Yz "other")) (dC (f1 zy (yu zaA "one")) dN))) (xm (dC (f1 zy (yu zaA "one")) (dC (f1 zy (yu Yz "other")) dN)))))
  (vI (zeQ WL) (gN 8) (V9 4 (aC zq (aC (fV 8) (aC xf (aC wM (aC yt aN))))) self))))))
def vB:Nat->List It1->O->Option O
 |0=>λ_ _=>none
 |n+1=>gL 9 5 (zdB (vB n))
abbrev zlc:List Str:=["way","tree","row"]
theorem zjo:FnScope zlc ["way","tree"] (zr zdM):=fsc
def zlZ:SF:=
 (zH (zQ false 2 (vo dN))
  (zH (sIf (fT (f2 zy (fC .non) (zK .IsNot))) (V9 2 (aC zq (aC zy (aC (fC .non) (aC (fC (.bl false)) wA)))) (vB 20)) sNx)
  (zT zU)))
def vM:Fn:=fnR 3 2 zlZ
abbrev zjq:List Str:=["way","tree","parts"]
theorem zia:FnScope zjq ["way","tree"] (zr zcd):=fsc
def ziK(self:Fn):SF:=
 (zH (sIf (fT (f2 zy (fC .non) (zK .Is))) (zT (xm dN)) sNx)
  (zH (sIf (fT (f2 (f1 zy (yu yR "deep")) yc (zK .Eq))) (zT (xm (dC (f1 zy (yu wY "whole")) dN))) sNx)
  (zH (zQ true 2 (zj (aC zq vY) yJ))
  (zT (xm (dC (f1 zy (yu wY "whole")) (dC (zj (aC zq (aC (f2 zU yc ixP) aN)) self) (dC (zj (aC zq (aC (f2 zU zX ixP) aN)) self) dN))))))))
def vO:Nat->Fn
 |0=>λ_=>none
 |n+1=>fnR 3 2 (ziK (vO n))
abbrev zcO:List Str:=["way","one","other","parts","inner"]
theorem X5:FnScope zcO ["way","one","other"] (zr YZ):=fsc
def zcI:SF:=
 (zH (zQ true 3 (zj (aC zq vY) yJ))
  (zH (sIf (fT (f2 (f1 (f2 ym yc ixP) (yu yR "deep")) (f1 (f2 ym zX ixP) (yu yR "deep")) (zK .GtE))) (zT (zj (aC zq (aC (f2 ym yc ixP) (aC (zj (aC zq (aC (f2 ym zX ixP) wA)) yo) aN))) yo)) sNx)
  (zH (zQ true 4 (zj (aC zq (aC (f2 ym zX ixP) aN)) yJ))
  (zT (zj (aC zq (aC (zj (aC zq (aC (f2 ym yc ixP) (aC (f2 yt yc ixP) aN))) yo) (aC (zj (aC zq (aC (f2 yt zX ixP) wA)) yo) aN))) yo)))))
def ZQ:Fn:=fnR 5 3 zcI
abbrev zbb:List Str:=["way","one","other","parts","inner"]
theorem Xg:FnScope zbb ["way","one","other"] (zr Yx):=fsc
def zaX:SF:=
 (zH (zQ true 3 (zj (aC zq wA) yJ))
  (zH (sIf (fT (f2 (f1 (f2 ym zX ixP) (yu yR "deep")) (f1 (f2 ym yc ixP) (yu yR "deep")) (zK .GtE))) (zT (zj (aC zq (aC (zj (aC zq (aC zy (aC (f2 ym yc ixP) aN))) yo) (aC (f2 ym zX ixP) aN))) yo)) sNx)
  (zH (zQ true 4 (zj (aC zq (aC (f2 ym yc ixP) aN)) yJ))
  (zT (zj (aC zq (aC (zj (aC zq (aC zy (aC (f2 yt yc ixP) aN))) yo) (aC (zj (aC zq (aC (f2 yt zX ixP) (aC (f2 ym zX ixP) aN))) yo) aN))) yo)))))
def Zc:Fn:=fnR 5 3 zaX
abbrev zme:List Str:=["way","one","other"]
theorem zpz:FnScope zme ["way","one","other"] (zr zdH):=fsc
def zmu:SF:=
 (zH (sIf (fT (f2 (f1 zy (yu yR "deep")) (f2 (f1 zU (yu yR "deep")) zX zE) (zK .Gt))) (zT (zj (aC zq (aC zy wA)) ZQ)) sNx)
  (zH (sIf (fT (f2 (f1 zU (yu yR "deep")) (f2 (f1 zy (yu yR "deep")) zX zE) (zK .Gt))) (zT (zj (aC zq (aC zy wA)) Zc)) sNx)
  (zT (zj (aC zq (aC zy wA)) yo))))
def Wc:Fn:=fnR 3 3 zmu
abbrev zaU:List Str:=["way","one","other","parts"]
theorem Xl:FnScope zaU ["way","one","other"] (zr Yj):=fsc
def zbd(self:Fn):SF:=
 (zH (sIf (fT (f2 zy (fC .non) (zK .Is))) (zT zU) sNx)
  (zH (sIf (fT (f2 zU (fC .non) (zK .Is))) (zT zy) sNx)
  (zH (sIf (fT (f2 (f1 zy (yu yR "deep")) (f2 (f1 zU (yu yR "deep")) zX zE) (zK .Gt))) (zH (zQ true 3 (zj (aC zq vY) yJ))
  (zT (zj (aC zq (aC (f2 ym yc ixP) (aC (zj (aC zq (aC (f2 ym zX ixP) wA)) self) aN))) Wc))) sNx)
  (zH (sIf (fT (f2 (f1 zU (yu yR "deep")) (f2 (f1 zy (yu yR "deep")) zX zE) (zK .Gt))) (zH (zQ true 3 (zj (aC zq wA) yJ))
  (zT (zj (aC zq (aC (zj (aC zq (aC zy (aC (f2 ym yc ixP) aN))) self) (aC (f2 ym zX ixP) aN))) Wc))) sNx)
  (zT (zj (aC zq (aC zy wA)) yo))))))
def yz:Nat->Fn
 |0=>λ_=>none
 |n+1=>fnR 4 3 (zbd (yz n))
abbrev zfy:List Str:=["way","tree","place","parts","ahead","pair"]
theorem Yn:FnScope zfy ["way","tree","place"] (zr WY):=fsc
def zfo(self:Fn):SF:=
 (zH (sIf (fT (f2 zU yc (zK .Eq))) (zT (xm (dC (fC .non) (dC zy dN)))) sNx)
  (zH (sIf (fT (f2 zU (f1 zy (yu vd "size")) (zK .Eq))) (zT (xm (dC zy (dC (fC .non) dN)))) sNx)
  (zH (zQ true 3 (zj (aC zq vY) yJ))
  (zH (zQ true 4 (f1 (f2 ym yc ixP) (yu vd "size")))
  (zH (sIf (fT (f2 zU yt (zK .Lt))) (zH (zQ true 5 (zj (aC zq (aC (f2 ym yc ixP) wA)) self))
  (zT (xm (dC (f2 xf yc ixP) (dC (zj (aC zq (aC (f2 xf zX ixP) (aC (f2 ym zX ixP) aN))) (yz 20)) dN))))) sNx)
  (zH (zQ true 5 (zj (aC zq (aC (f2 ym zX ixP) (aC (f2 zU yt Zn) aN))) self))
  (zT (xm (dC (zj (aC zq (aC (f2 ym yc ixP) (aC (f2 xf yc ixP) aN))) (yz 20)) (dC (f2 xf zX ixP) dN))))))))))
def wF:Nat->Fn
 |0=>λ_=>none
 |n+1=>fnR 6 3 (zfo (wF n))
abbrev zaK:List Str:=["algebra","join","nothing","a"]
theorem ZC:FnScope zaK ["algebra"] (zr Z6):=fsc
def ZZ:SF:=
 (zH (zQ true 1 (f2 zq yM ixP))
  (zH (zQ true 2 (f2 zq xR ixP))
  (zH (vI (xU (aC (f2 zq yc ixP) aN) xW) (gN 3) (sIf (WF (fT (f2 (f2 (f2 zy zU ixP) ym ixP) ym (zK .NotEq))) (fT (f2 (f2 (f2 zy ym ixP) zU ixP) ym (zK .NotEq)))) (zT (xm (dC (fC (.str "nothing")) (dC ym dN)))) sNx))
  (zT (fC .non)))))
def vL:Fn:=fnR 4 1 ZZ
abbrev zaG:List Str:=["algebra","n","join","a","b","c"]
theorem wK:FnScope zaG ["algebra"] (zr ZV):=fsc
def Xq:SF:=
 (zH (zQ true 1 (f2 zq yc ixP))
  (zH (zQ true 2 (f2 zq yM ixP))
  (zH (vI (xU vY xW) (gN 3) (vI (xU vY xW) zxC (vI (xU vY xW) (gN 5) (sIf (fT (f2 (f2 (f2 zU (f2 (f2 zU ym ixP) yt ixP) ixP) xf ixP) (f2 (f2 zU ym ixP) (f2 (f2 zU yt ixP) xf ixP) ixP) (zK .NotEq))) (zT (xm (dC (fC (.str "parting")) (dC ym (dC yt (dC xf dN)))))) sNx))))
  (zT (fC .non)))))
def vN:Fn:=fnR 6 1 Xq
abbrev zcB:List Str:=["algebra","name","rows","n","m","join","a","i","b","j"]
theorem xT:FnScope zcB ["algebra","name","rows"] (zr Y6):=fsc
def Ve:SF:=
 (zH (zQ true 3 (f2 zq yc ixP))
  (zH (zQ true 4 (f2 zq zX ixP))
  (zH (zQ true 5 (f2 zq yM ixP))
  (zH (vI (xU Xc xW) (gN 6) (vI (xU (aC yt aN) xW) (gN 7) (vI (xU Xc xW) (gN 8) (vI (xU (aC yt aN) xW) (gN 9) (sIf (fT (f2 (f2 (f2 zU (f2 (f2 WL (fV 9) zE) yt zx) ixP) (f2 (f2 xf wM ixP) (fV 8) ixP) ixP) (f2 (f2 xf (f2 (f2 zU WL ixP) wM ixP) ixP) (f2 (f2 zU (fV 9) ixP) (fV 8) ixP) ixP) (zK .NotEq))) (zT (xm (dC (fC (.str "doing")) (dC zy (dC wM (dC WL (dC (fV 8) (dC (fV 9) dN)))))))) sNx)))))
  (zT (fC .non))))))
def vR:Fn:=fnR 10 3 Ve
abbrev zdE:List Str:=["algebra","nothing","name","rows","fault"]
theorem ZM:FnScope zdE ["algebra"] (zr Xz):=fsc
def zdP:SF:=
 (zH (zQ true 1 (f2 zq xR ixP))
  (zH (vI (zeQ (f2 zq XD ixP)) (gT 2 (gsC (gN 2) (gsC (gN 3) gsN))) (zH (sIf (fT (f2 (f2 (f2 ym yc ixP) zy ixP) zy (zK .NotEq))) (zT (xm (dC (fC (.str "empty")) (dC zU dN)))) sNx)
  (zH (zQ true 4 (zj (aC zq (aC zU Xc)) vR))
  (sIf (fT (f2 yt (fC .non) (zK .IsNot))) (zT yt) sNx))))
  (zT (fC .non))))
def Ym:Fn:=fnR 5 1 zdP
abbrev zed:List Str:=["algebra","fault"]
theorem Xa:FnScope zed ["algebra"] (zr XR):=fsc
def zdG:SF:=
 (zH (zQ true 1 (zj zpT vL))
  (zH (sIf (fT (f2 zy (fC .non) (zK .Is))) (zQ true 1 (zj zpT vN)) sNx)
  (zH (sIf (fT (f2 zy (fC .non) (zK .Is))) (zQ true 1 (zj zpT Ym)) sNx)
  (zT zy))))
def Yt:Fn:=fnR 2 1 zdG
abbrev zbs:List Str:=["algebra","fault"]
theorem zaM:FnScope zbs ["algebra"] (zr Yl):=fsc
def Wr:SF:=
 (zH (zQ true 1 (zj zpT Yt))
  (sIf (fT (f2 zy (fC .non) (zK .IsNot))) sNo sNx))
def vA:Fn:=fnR 2 1 Wr
abbrev znp:List Str:=["rows"]
theorem zsK:FnScope znp ["rows"] (zr zgA):=fsc
theorem zpH:(["row"]:List Str).Nodup:=by decide +kernel
def zqi:SF:=
 (zT (fP (aC (wG (zcu zq) [none] Wu YM (fP zpT tupP)) aN) tupP))
def zbp:Fn:=fnR 1 1 zqi
abbrev zcE:List Str:=["_law_script","_law_k"]
theorem zhJ:FnScope zcE ["_law_script","_law_k"] (zr Y5):=fsc
def zcP:SF:=
 (zH (sIf (fT (f2 zy (fP zpT vK) (zK .Lt))) (zT (f2 zq zy ixP)) sNx)
  (zT yc))
def zJ:Fn:=fnR 2 2 zcP
abbrev zfp:List Str:=["_law_cell","_law_k","_law_number"]
theorem zaE:FnScope zfp ["_law_cell","_law_k"] (zr W8):=fsc
def zfQ:SF:=
 (zH (sIf (fT (f2 (f2 zq yM zx) yc (zK .Eq))) (zT (f2 zq (f2 yM (f2 zgi zy zZ) zwW) zN)) sNx)
  (zH (zQ true 2 (f2 (f2 (f2 (f2 (f2 zq (fC (.int 2147483647)) zx) (f2 (fC (.int 69621)) zy zZ) zE) (fC (.int 7919)) zE) (fC (.int 48271)) zZ) (fC (.int 2147483647)) zx))
  (zH (zQ true 2 (f2 (f2 zU zU zZ) (fC (.int 2147483629)) zx))
  (zT (f2 (f2 (f2 zU zU zZ) (f2 (fC (.int 16807)) zy zZ) zE) (fC (.int 2147483587)) zx)))))
def zg:Fn:=fnR 3 2 zfQ
abbrev WQ:List Str:=["_law_cell","_law_many","_law_letters","_law_word","_law_long","_law_at","_law_step","_law_names_here","_law_k","_law_turn"]
theorem wC:FnScope WQ ["_law_cell","_law_many"] (zr Yh):=fsc
theorem zhS:(["_law_j","_law_letters","_law_cell"]:List Str).Nodup:=by decide +kernel
theorem zhm:(["_law_k","_law_word","_law_cell"]:List Str).Nodup:=by decide +kernel
def zfR:SF:=
 (zH (zQ true 2 (fC (.str "abcdefghijklmnopqrstuvwxyz")))
  (zH (zQ true 3 (ziI .str (fC (.str "")) (aC (wG (xU (aC zgi aN) xW) [none,some 2,some 0] Wu YM (f2 zy (f2 (zj (aC zU (aC (f2 (fC (.int 200)) zq zE) aN)) zg) (fC (.int 26)) zx) ixP)) aN) zoy))
  (zH (sIf (fT (f2 (f2 zq xR zx) yc (zK .Eq))) (zT (wG (xU vY xW) [none,some 3,some 0] Wu YM (fSl zy oN (oS (f2 zX (f2 (f2 zq (f2 zU xR zN) zE) zgi zx) zE)) slS))) sNx)
  (zH (zQ true 4 (f2 zX (f2 (f2 zq xR zN) zgi zx) zE))
  (zH (zQ true 5 (f2 (f2 zq (fC (.int 24)) zN) yt zx))
  (zH (zQ true 6 (f2 zX (f2 (f2 zq (fC (.int 192)) zN) zdO zx) zE))
  (zH (zQ false 7 (vo dN))
  (zH (vI (xU vY xW) (gN 8) (zH (zQ true 9 (f2 zU (f2 (f2 (zj (aC zq (aC (f2 (fC (.int 200)) xf zE) aN)) zg) (f2 wM (fV 8) zZ) zE) (fC (.int 26)) zx) ixP))
  (wQ (Zm 7 (dC (f2 (f2 (fSl ym oN (oS xf) slS) (fV 9) zE) (fSl ym (oS (f2 xf zX zE)) (oS yt) slS) zE) dN) Za))))
  (zT WL)))))))))
def Zr:Fn:=fnR 10 2 zfR
abbrev zjI:List Str:=["_law_kind","_law_n","_law_a","_law_b","_law_images"]
theorem zij:FnScope zjI ["_law_kind","_law_n","_law_a","_law_b"] (zr zbZ):=fsc
def ziG:SF:=
 (zH (sIf (fT (f2 zq yc (zK .Eq))) (zT (f2 (f2 zU ym zE) zy zx)) sNx)
  (zH (sIf (fT (f2 zq zX (zK .Eq))) (zT (fP (aC zU Xc) zny)) sNx)
  (zH (sIf (fT (f2 zq yM (zK .Eq))) (zT (f2 (vo (dC ym (dC zU dN))) (fP (aC (f2 ym yc (zK .Eq)) aN) zaN) ixP)) sNx)
  (zH (sIf (fT (f2 zq xR (zK .Eq))) (zH (zQ true 4 (vo (dC (f2 ym yM zN) (dC (f2 ym yM zx) dN))))
  (zT (f2 (f2 yM (f2 yt (f2 zU yM zN) ixP) zZ) (f2 yt (f2 zU yM zx) ixP) zE))) sNx)
  (zT (f2 (f2 xR (f2 (f2 (f2 zU xR zN) (f2 ym xR zN) zE) yM zx) zZ) (f2 (vo (dC (f2 ym xR zx) (dC (f2 zU xR zx) dN))) (fP (aC (f2 (f2 ym xR zx) yc (zK .Eq)) aN) zaN) ixP) zE))))))
def xN:Fn:=fnR 5 4 ziG
abbrev zeV:List Str:=["_law_kind","_law_n","_law_cell","_law_c","_law_a","_law_k","_law_t","_law_images"]
theorem zaF:FnScope zeV ["_law_kind","_law_n","_law_cell","_law_c","_law_a"] (zr V5):=fsc
theorem zkg:(["_law_j","_law_n","_law_cell"]:List Str).Nodup:=by decide +kernel
def zjH:SF:=
 (zH (zQ true 5 (zj (aC zU (aC (fC (.int 40)) aN)) zg))
  (zH (zQ true 6 (zj (aC zU (aC (fC (.int 41)) aN)) zg))
  (zH (sIf (fT (f2 zq yc (zK .Eq))) (zT (f2 (f2 (f2 xf yt zZ) (f2 wM ym zZ) zE) zy zx)) sNx)
  (zH (sIf (fT (f2 zq zX (zK .Eq))) (zH (zQ true 7 (fP (aC (wG (xU (aC (f2 zy zX Zn) aN) xW) [none,some 1,some 2] Wu YM (f2 (zj (aC zU (aC (f2 (fC (.int 42)) zq zE) aN)) zg) zy zx)) aN) zoh))
  (zT (f2 (f2 (vo (dC yc dN)) WL zE) yt ixP))) sNx)
  (zH (sIf (fT (f2 zq yM (zK .Eq))) (zT (f2 (vo (dC (f2 zX (f2 (zj (aC zU (aC (f2 (fC (.int 42)) yt zE) aN)) zg) (f2 zy zX Zn) zx) zE) (dC yc dN))) (fP (aC (f2 yt yc (zK .Eq)) aN) zaN) ixP)) sNx)
  (zH (sIf (fT (f2 zq xR (zK .Eq))) (zT (f2 (vo (dC yt (dC (f2 (f2 (f2 yM (f2 zX (f2 yt yM zx) Zn) zZ) zX zE) (f2 yt yM zN) Zn) dN))) (f2 xf yM zx) ixP)) sNx)
  (zT (f2 (f2 xR (f2 (f2 (f2 xf (f2 yt xR zN) zZ) (f2 wM ym zZ) zE) yM zx) zZ) (f2 (vo (dC (f2 zX (f2 (zj (aC zU (aC (f2 (fC (.int 42)) (f2 yt xR zx) zE) aN)) zg) yM zx) zE) (dC yc dN))) (fP (aC (f2 (f2 yt xR zx) yc (zK .Eq)) aN) zaN) ixP) zE))))))))
def Zy:Fn:=fnR 8 5 zjH
abbrev zfu:List Str:=["_law_cell","_law_n","_law_left","_law_order_here","_law_k"]
theorem Xy:FnScope zfu ["_law_cell","_law_n"] (zr WW):=fsc
def zfA:SF:=
 (zH (zQ false 2 (fP vY lrP))
  (zH (zQ false 3 (vo dN))
  (zH (vI (xU vY xW) zxC (wQ (Zm 3 (dC (Zm 2 (dC (f2 (zj (aC zq (aC (f2 (fC (.int 30)) yt zE) aN)) zg) (fP wA vK) zx) dN) zbc) dN) Za)))
  (zT ym))))
def Yg:Fn:=fnR 5 2 zfA
abbrev zik:List Str:=["_law_kind","_law_n","_law_m","_law_cell","_law_order_here","_law_rows_here","_law_c","_law_row","_law_a"]
theorem Xd:FnScope zik ["_law_kind","_law_n","_law_m","_law_cell","_law_order_here"] (zr zag):=fsc
def zgw:SF:=
 (zH (zQ false 5 (vo dN))
  (zH (vI (xU wA xW) (gN 6) (zH (zQ false 7 (f2 (vo (dC yc dN)) zy zZ))
  (zH (vI (xU vY xW) (gN 8) (zie 7 (xAt 4 (xV 8)) (f2 yt (zj (aC zq (aC zy (aC ym (aC wM (aC (fV 8) aN))))) Zy) ixP)))
  (wQ (Zm 5 (dC WL dN) Za)))))
  (zT xf)))
def Zu:Fn:=fnR 9 5 zgw
abbrev ZP:List Str:=["_law_cell","_law_kind","_law_n","_law_m","_law_order_here","_law_join","_law_a","_law_b","_law_many","_law_names_here","_law_deeds","_law_signs","_law_k"]
theorem yG:FnScope ZP ["_law_cell"] (zr vg):=fsc
theorem zff:(["_law_a","_law_n"]:List Str).Nodup:=by decide +kernel
theorem zez:(["_law_k","_law_names_here","_law_kind","_law_n","_law_m","_law_order_here","_law_cell"]:List Str).Nodup:=by decide +kernel
theorem zfk:(["_law_v","_law_cell","_law_k"]:List Str).Nodup:=by decide +kernel
def zcK:SF:=
 (zH (zQ true 1 (f2 (zj (aC zq (aC yc aN)) zg) zdO zx))
  (zH (zQ true 2 (f2 (vo (dC (f2 yM (f2 (zj (aC zq (aC zX aN)) zg) zdO zx) zE) (dC (f2 yM (f2 (zj (aC zq (aC zX aN)) zg) (fC (.int 7)) zx) zE) (dC (f2 yM (f2 (zj (aC zq (aC zX aN)) zg) XD zx) zE) (dC XD (dC zps dN)))))) zy ixP))
  (zH (zQ true 3 (f2 (vo (dC zU (dC (f2 zX (f2 (zj (aC zq (aC yM aN)) zg) zps zx) zE) (dC (f2 zX (f2 (zj (aC zq (aC yM aN)) zg) XD zx) zE) (dC (f2 zX (f2 (zj (aC zq (aC yM aN)) zg) xR zx) zE) (dC yM dN)))))) zy ixP))
  (zH (zQ true 4 (zj (aC zq wA) Yg))
  (zH (zQ false 5 (wG (xU wA xW) [none,some 2] Wu YM (f2 (vo (dC yc dN)) zy zZ)))
  (zH (vI (xU wA xW) (gN 6) (vI (xU wA xW) (gN 7) (zdo 5 (xAt 4 (xV 6)) (xAt 4 (xV 7)) (f2 yt (zj (aC zy (aC zU (aC wM zrn))) xN) ixP))))
  (zH (zQ true 8 (f2 zX (f2 (zj (aC zq (aC xR aN)) zg) xR zx) zE))
  (zH (zQ true 9 (zj (aC (f2 zq (fC (.int 2147483647)) zx) (aC xR aN)) Zr))
  (zH (zQ true 10 (wG (xU (aC (fV 8) aN) xW) [none,some 9,some 1,some 2,some 3,some 4,some 0] Wu YM (xm (dC (f2 zy zq ixP) (dC (zj (aC zU (aC ym (aC yt (aC (f2 wM (f2 (fC (.int 7)) zq zZ) zE) zsH)))) Zu) dN)))))
  (zH (zQ false 11 (vo dN))
  (zH (vI (xU (aC (f2 zX (f2 (zj (aC zq (aC XD aN)) zg) yM zx) zE) aN) xW) (gN 12) (wQ (Zm 11 (dC (xm (dC (f2 (fV 9) (f2 yM (fV 12) Zn) ixP) (dC (wG (xU wA xW) [none,some 0,some 12] Wu (fT (f2 (f2 (zj (aC zy (aC (f2 (f2 (fC (.int 80)) (f2 (fC (.int 9)) zU zZ) zE) zq zE) aN)) zg) xR zx) zX (zK .Eq))) zq) dN))) dN) Za)))
  (zT (xm (dC zU (dC ym (dC xf (dC (f2 yt (fP (aC (f2 zy xR (zK .Eq)) aN) zaN) ixP) (dC (fV 10) (dC zqu dN)))))))))))))))))))
def vU:Fn:=fnR 13 1 zcK
abbrev zhH:List Str:=["_law_algebra_here","_law_row","_law_value","_law_other"]
theorem WX:FnScope zhH ["_law_algebra_here","_law_row"] (zr zan):=fsc
def zhI:SF:=
 (zH (sIf (fT (f2 zy (vo dN) (zK .Eq))) (zT (f2 zq xR ixP)) sNx)
  (zH (zQ true 2 (f2 zy yc ixP))
  (zH (vI (zeQ (fSl zy (oS zX) oN slP)) (gN 3) (zQ true 2 (f2 (f2 (f2 zq yM ixP) zU ixP) ym ixP)))
  (zT zU))))
def xZ:Fn:=fnR 4 2 zhI
abbrev zdv:List Str:=["_law_algebra_here","_law_k","_law_row","_law_images"]
theorem zfM:FnScope zdv ["_law_algebra_here","_law_k","_law_row"] (zr Wj):=fsc
theorem ziq:(["_law_value","_law_images"]:List Str).Nodup:=by decide +kernel
def zgW:SF:=
 (zH (zQ true 3 (f2 (f2 (f2 (f2 zq XD ixP) zy ixP) zX ixP) (f2 zX (f2 zq zX ixP) zx) ixP))
  (zT (wG (zcu zU) [none,some 3] Wu YM (f2 zy zq ixP))))
def wg:Fn:=fnR 4 3 zgW
abbrev zfD:List Str:=["_law_found"]
theorem zke:FnScope zfD ["_law_found"] (zr W0):=fsc
def zfF:SF:=
 (zT (zpI (zeU zq "int") (zqs (zeU zq "bool"))))
def xQ:Fn:=fnR 1 1 zfF
abbrev zgL:List Str:=["_law_algebra_here","_law_found","_law_one_here","_law_other","_law_row"]
theorem W3:FnScope zgL ["_law_algebra_here","_law_found"] (zr zat):=fsc
def zhD(self:Fn):SF:=
 (zH (sIf (WF (Xf (fT (zeU zy "tuple"))) (WF (zdU (fT (f2 (fP vY vK) zX (zK .NotEq))) (fT (f2 (fP vY vK) xR (zK .NotEq)))) (Xf (fT (zj (aC (f2 zy yc ixP) aN) xQ))))) (zT (fC .non)) sNx)
  (zH (sIf (fT (f2 (fP vY vK) zX (zK .Eq))) (zT (xm (dC yc (dC (vo (dC (f2 zy yc ixP) dN)) dN)))) sNx)
  (zH (zQ true 2 (zj (aC zq (aC (f2 zy zX ixP) aN)) self))
  (zH (zQ true 3 (zj (aC zq (aC (f2 zy yM ixP) aN)) self))
  (zH (sIf (WF (fT (f2 zU (fC .non) (zK .Is))) (WF (fT (f2 ym (fC .non) (zK .Is))) (fT (f2 (fP (aC (f2 (f2 zU yc ixP) (f2 ym yc ixP) Zn) aN) zqD) zX (zK .Gt))))) (zT (fC .non)) sNx)
  (zH (zQ true 4 (f2 (f2 zU zX ixP) (f2 ym zX ixP) zE))
  (zH (sIf (fT (f2 (f2 zy yc ixP) (zj (aC zq (aC yt aN)) xZ) (zK .NotEq))) (zT (fC .non)) sNx)
  (zT (xm (dC (f2 zX (fP (aC (f2 zU yc ixP) (aC (f2 ym yc ixP) aN)) zny) zE) (dC yt dN)))))))))))
def vm:Nat->Fn
 |0=>λ_=>none
 |n+1=>fnR 5 2 (zhD (vm n))
abbrev zcy:List Str:=["_law_way","_law_algebra_here","_law_tree","_law_row","_law_found","_law_walk","_law_gone_here"]
theorem Yy:FnScope zcy ["_law_way","_law_algebra_here","_law_tree","_law_row"] (zr Y9):=fsc
def zcS:SF:=
 (zH (sIf (WF (fT (f2 (zj wA vP) (fP Xc vK) (zK .NotEq))) (Xf (fT (zj (aC (zj wA vP) aN) xQ)))) (zT (fC (.bl false))) sNx)
  (zH (zQ false 4 (zj (aC zq wA) vM))
  (zH (sIf (WF (Xf (fT (zeU yt "list"))) (WF (fT (f2 yt ym (zK .NotEq))) (fT (f2 (zj (aC zq wA) Ye) (zj (aC zy Xc) xZ) (zK .NotEq))))) (zT (fC (.bl false))) sNx)
  (zH (wQ (Zm 4 (dC yc dN) Za))
  (zH (sIf (fT (f2 (zj (aC zq wA) vM) ym (zK .NotEq))) (zT (fC (.bl false))) sNx)
  (zH (zQ true 5 (zj (aC zq wA) (vO 20)))
  (zH (sIf (fT (f2 ym (vo dN) (zK .Eq))) (zT (f2 xf (xm dN) (zK .Eq))) sNx)
  (zH (zQ true 6 (zj (aC zy zsH) (vm 20)))
  (zT (zpI (f2 wM (fC .non) (zK .IsNot)) (f2 (f2 wM zX ixP) ym (zK .Eq))))))))))))
def xF:Fn:=fnR 7 4 zcS
abbrev zfq:List Str:=["_law_cell","_law_many","_law_n","_law_row","_law_number","_law_k"]
theorem ZD:FnScope zfq ["_law_cell","_law_many","_law_n"] (zr Vc):=fsc
def zfS:SF:=
 (zH (zQ false 3 (vo dN))
  (zH (zQ true 4 (zj (aC zq (aC yc aN)) zg))
  (zH (vI (xU vY xW) (gN 5) (sIf (zdU (fT (f2 (f2 zq yM zx) yc (zK .Eq))) (fT (f2 xf (fC (.int 60)) (zK .Lt)))) (zH (wQ (Zm 3 (dC (f2 yt zU zx) dN) Za))
  (zQ true 4 (f2 yt zU zN))) (zH (zQ true 4 (f2 (f2 (f2 (f2 (f2 yt (fC (.int 2147483647)) zx) (fC (.int 48271)) zZ) (f2 xf xf zZ) zE) (fC (.int 7919)) zE) (fC (.int 2147483629)) zx))
  (wQ (Zm 3 (dC (f2 (f2 (f2 (f2 yt yt zZ) (fC (.int 2147483647)) zx) (fC (.int 64)) zN) zU zx) dN) Za)))))
  (zT ym))))
def Zk:Fn:=fnR 6 3 zfS
abbrev zby:List Str:=["self","deed"]
theorem zgg:FnScope zby ["self","deed"] (zr Yv):=fsc
def zbM:SF:=
 (zT (f2 (f1 zq (yu zeg "waits")) zy ixP))
def Wa:Fn:=fnR 2 2 zbM
abbrev zfr:List Str:=["self"]
theorem zkG:FnScope zfr ["self"] (zr WP):=fsc
def zfm:SF:=
 (zT (f2 (xm (dC (fP (aC (f1 zq (yu vd "size")) aN) trP) dN)) (f1 zq (yu X4 "around")) zZ))
def zbq:Fn:=fnR 1 1 zfm
def Zo:List (Str×Fn):=[("Ways",Wa)]
def zkq:List (Str×Fn):=[("Ways",zbq)]
abbrev zcz:List Str:=["_law_way","_law_algebra_here","_law_tree","_law_row","_law_cell","_law_kind","_law_one_here","_law_other","_law_wait"]
theorem Zd:FnScope zcz ["_law_way","_law_algebra_here","_law_tree","_law_row","_law_cell"] (zr YX):=fsc
def zcN:SF:=
 (zH (zQ true 5 (f2 (zj (aC yt (aC (fC (.int 50)) aN)) zg) zdO zx))
  (zH (zQ true 6 (f2 (zj (aC yt (aC (fC (.int 51)) aN)) zg) (fP (aC (f2 zy XD ixP) aN) vK) zx))
  (zH (zQ true 7 (f2 (zj (aC yt (aC (fC (.int 52)) aN)) zg) (fP (aC (f2 zy XD ixP) aN) vK) zx))
  (zH (sIf (fT (f2 xf yM (zK .Lt))) (zT (xm (dC (zj (aC zq (aC zU (aC (Z9 Zo "wait_of" zq (aC (f2 (f2 (f2 zy XD ixP) wM ixP) yc ixP) aN)) aN))) yE) (dC (zj (aC zy (aC wM Xc)) wg) dN)))) sNx)
  (zH (sIf (fT (f2 xf yM (zK .Eq))) (zT (xm (dC (zj (aC zq wA) xG) (dC (fSl ym oN (oS (f1 zX zfZ)) rvP) dN)))) sNx)
  (zH (sIf (fT (f2 xf xR (zK .Eq))) (zH (zQ true 8 (Z9 VM "behind" zq (aC (Z9 Zo "wait_of" zq (aC (f2 (f2 (f2 zy XD ixP) wM ixP) yc ixP) aN)) (aC (Z9 Zo "wait_of" zq (aC (f2 (f2 (f2 zy XD ixP) WL ixP) yc ixP) aN)) aN))))
  (zT (xm (dC (zj (aC zq (aC zU (aC (fV 8) aN))) yE) (dC (zj (aC zy (aC WL (aC (zj (aC zy (aC wM Xc)) wg) aN))) wg) dN))))) sNx)
  (zT (xm (dC (zj (aC zq (aC zU (aC (Z9 zkq "idle" zq aN) aN))) yE) (dC (fP Xc lstP) dN))))))))))
def xO:Fn:=fnR 9 5 zcN
abbrev Z2:List Str:=["self","algebra"]
theorem zfa:FnScope Z2 ["self","algebra"] (zr wW):=fsc
theorem Wz:(["name","rows"]:List Str).Nodup:=by decide +kernel
theorem Wm:(["name","values"]:List Str).Nodup:=by decide +kernel
def Xh:IFn:=
 (Xw (ztY (zj vY vA))
  (Xw (zbg 0 vd "size" (f2 zy yc ixP))
  (Xw (zbg 0 X4 "around" (f2 zy zX ixP))
  (Xw (zbg 0 zhp "table" (zj (aC (f2 zy yM ixP) aN) zbp))
  (Xw (zbg 0 zdg "neutral" (f2 zy xR ixP))
  (Xw (zbg 0 zeg "waits" (fP (aC (wG (zcu (f2 zy XD ixP)) [none,none] (gT 2 (gsC Wu (gsC (gN 1) gsN))) YM (xm (dC zq (dC (zj vY zbp) dN)))) aN) zfl))
  (zbg 0 zhe "holders" (fP (aC (wG (zcu (f2 zy zdO ixP)) [none,none] (gT 2 (gsC Wu (gsC (gN 1) gsN))) YM (xm (dC zq (dC (fP vY tupP) dN)))) aN) zfl))))))))
def Z0(c:Str):Fn:=fnI c 2 2 Xh
abbrev zsp:List Str:=["_law_script","_law_algebra_here","_law_way","_law_row","_law_many","_law_kept","_law_k","_law_tree","_law_place","_law_one_here","_law_other","_law_some"]
theorem vX:FnScope zsp ["_law_script"] (zr zlK):=fsc
theorem zry:(["_law_cell","_law_algebra_here"]:List Str).Nodup:=by decide +kernel
def zuS:SF:=
 (zH (zQ true 1 (zj (aC (zj (aC zq (aC yc aN)) zJ) aN) vU))
  (zH (zQ true 2 (zj vY (Z0 "Ways")))
  (zH (zQ true 3 (wG (zcu (fSl zq (oS zgi) (oS (fC (.int 63))) slP)) [none,some 1] Wu YM (f2 zq (f2 zy yc ixP) zx)))
  (zH (sIf (fT (f2 (f2 (zj (aC zq (aC zX aN)) zJ) yM zx) yc (zK .Eq))) (zH (zQ true 4 (f2 (f2 (zj (aC zq (aC zX aN)) zJ) (fC (.int 16)) zN) (fC (.int 301)) zx))
  (zH (sIf (fT (f2 (f2 (f2 (zj (aC zq (aC zX aN)) zJ) yM zN) zgi zx) zdO (zK .NotEq))) (zQ true 4 (f2 (f2 (zj (aC zq (aC zX aN)) zJ) yM zN) (fC (.int 101)) zx)) sNx)
  (zQ true 3 (zj (aC (zj (aC zq (aC yM aN)) zJ) (aC yt (aC (f2 zy yc ixP) aN))) Zk)))) sNx)
  (zH (zQ false 5 (vo (dC (xm (dC (fFz (zj (aC zU Xc) (vV 20))) (dC ym dN))) dN)))
  (zH (vI (xU (aC (f2 zX (f2 (zj (aC zq (aC xR aN)) zJ) zps zx) zE) aN) xW) (gN 6) (zH (zmq (zj (aC zU (aC zy (aC (f2 (f2 xf (f1 zX zfZ) ixP) yc ixP) (aC (f2 (f2 xf (f1 zX zfZ) ixP) zX ixP) (aC (zj (aC (zj (aC zq (aC XD aN)) zJ) (aC (f2 (fC (.int 60)) wM zE) aN)) zg) aN))))) xO) (gT 2 (gsC (gN 7) (gsC (gN 3) gsN))))
  (zH (sIf (Xf (fT (zj (aC zU (aC zy (aC WL Xc))) xF))) (zT (fC (.bl false))) sNx)
  (wQ (Zm 5 (dC (xm (dC WL (dC ym dN))) dN) Za)))))
  (zH (zQ true 8 (f2 (zj (aC zq (aC zdO aN)) zJ) (f2 (fP Xc vK) zX zE) zx))
  (zH (zmq (zj (aC zU (aC (f2 (f2 xf (f1 zX zfZ) ixP) yc ixP) (aC (fV 8) aN))) (wF 20)) (gT 2 (gsC (gN 9) (gsC (gN 10) gsN))))
  (zH (zmq (zj (aC zU (aC zy (aC (fV 9) (aC (fSl ym oN (oS (fV 8)) slP) (aC (zj (aC zq (aC zps aN)) zJ) aN))))) xO) (gT 2 (gsC (gN 7) (gsC (gN 11) gsN))))
  (zH (wQ (Zm 5 (dC (xm (dC (fFz (zj (aC zU (aC WL (aC (fV 10) aN))) (yz 20))) (dC (fFz (f2 zqu (fSl ym (oS (fV 8)) oN slP) zE)) dN))) dN) Za))
  (zH (vI (zeQ xf) (gT 2 (gsC (gN 7) (gsC (gN 3) gsN))) (sIf (Xf (fT (zj (aC zU (aC zy (aC WL Xc))) xF))) (zT (fC (.bl false))) sNx))
  (zT (fC (.bl true))))))))))))))
def zhu:Fn:=fnR 12 1 zuS
set_option genInjectivity false in
set_option genSizeOf false in
structure Adr where
 Xk:Addr
 Xi:FuncData
 zei:Addr
 zeO:FuncData
 zbi:Addr
 zbF:FuncData
 zen:Addr
 zew:FuncData
 zfg:Addr
 zeK:FuncData
 zeI:Addr
 zex:FuncData
 X6:Addr
 Wn:FuncData
 zds:Addr
 zdj:FuncData
 Vg:Addr
 VF:FuncData
 zaf:Addr
 zaz:FuncData
 zbJ:Addr
 zbH:FuncData
 zdb:Addr
 zdr:FuncData
 zaD:Addr
 zaw:FuncData
 zdi:Addr
 zdn:FuncData
 zhc:Addr
 zhs:FuncData
 zih:Addr
 zhV:FuncData
 zfb:Addr
 zfj:FuncData
 Vh:Addr
 Vp:FuncData
 Wo:Addr
 Wk:FuncData
 zht:Addr
 zgM:FuncData
 Ws:Addr
 Wf:FuncData
 zbm:Addr
 zbz:FuncData
 Xv:Addr
 Xm:FuncData
 Xu:Addr
 Xn:FuncData
 Vq:Addr
 Vy:FuncData
 zax:Addr
 zaC:FuncData
 zao:Addr
 zab:FuncData
 We:Addr
 Wh:FuncData
 zmO:Addr
 znG:FuncData
 Vl:Addr
 Vu:FuncData
 zaS:Addr
 zbR:FuncData
 zaV:Addr
 zaY:FuncData
 zeE:Addr
 zeW:FuncData
 zeL:Addr
 zet:FuncData
 zbI:Addr
 zbT:FuncData
 zdl:Addr
 zda:FuncData
 Vs:Addr
 VG:FuncData
 zdc:Addr
 zdf:FuncData
 zcW:Addr
 zdk:FuncData
 zbe:Addr
 zbC:FuncData
 zdu:Addr
 zdw:FuncData
 Vt:Addr
 Vo:FuncData
 zaR:Addr
 zbD:FuncData
 Wt:Addr
 Wi:FuncData
 zbt:Addr
 zba:FuncData
 Vj:Addr
 Vv:FuncData
 Xo:Addr
 Xp:FuncData
 zrA:Addr
 zse:FuncData
 VD:Addr
 Yo:Addr
structure Txt(K:zD)(kd:KD)(mg:Str->Option Value)(t:Adr):Prop where
 zga:Fun K "__init__" "Knot.__init__" Z7 t.Xk t.Xi
 ZW:Binds K t.Xi ["self","whole","back","wait","turn","one","other"] []
 zfh:Fun K "leaf_of" "leaf_of" zcr t.zei t.zeO
 zjE:Binds K t.zeO ["value"] []
 YQ:mg "leaf_of"=some (.ref t.zei)
 zll:Fun K "join" "Ways.join" WN t.zbi t.zbF
 zlg:Binds K t.zbF ["self","one","other"] []
 xX:Fun K "knot_of" "knot_of" zcg t.zen t.zew
 wI:Binds K t.zew ["way","one","other"] []
 yo:mg "knot_of"=some (.ref t.zen)
 zcm:Fun K "tree_of" "tree_of" zci t.zfg t.zeK
 zej:Binds K t.zeK ["way","row"] []
 vV:mg "tree_of"=some (.ref t.zfg)
 zey:Fun K "size_of" "size_of" zcl t.zeI t.zex
 zji:Binds K t.zex ["tree"] []
 vP:mg "size_of"=some (.ref t.zeI)
 zhR:Fun K "nothing" "Ways.nothing" Ys t.X6 t.Wn
 zho:Binds K t.Wn ["self"] []
 zhN:Fun K "whole_of" "whole_of" zaj t.zds t.zdj
 zmL:Binds K t.zdj ["way","tree"] []
 Ye:mg "whole_of"=some (.ref t.zds)
 zir:Fun K "behind" "Ways.behind" ZR t.Vg t.VF
 zim:Binds K t.VF ["self","one","other"] []
 V6:Fun K "both_waits" "both_waits" XQ t.zaf t.zaz
 zeh:Binds K t.zaz ["way","one","other"] []
 wD:mg "both_waits"=some (.ref t.zaf)
 zlP:Fun K "made" "Ways.made" WM t.zbJ t.zbH
 zlo:Binds K t.zbH ["self","wait","value","many"] []
 YT:Fun K "done_all" "done_all" zau t.zdb t.zdr
 X8:Binds K t.zdr ["way","tree","wait"] []
 yE:mg "done_all"=some (.ref t.zdb)
 Xx:Fun K "turned_all" "turned_all" XM t.zaD t.zaw
 zay:Binds K t.zaw ["way","tree"] []
 xG:mg "turned_all"=some (.ref t.zaD)
 vJ:Fun K "parts_of" "parts_of" zaB t.zdi t.zdn
 Zh:Binds K t.zdn ["way","knot"] []
 yJ:mg "parts_of"=some (.ref t.zdi)
 zgV:Fun K "gather" "gather" zdL t.zhc t.zhs
 zmC:Binds K t.zhs ["way","tree","wait","turn","row"] []
 vB:mg "gather"=some (.ref t.zhc)
 zhX:Fun K "row_of" "row_of" zdM t.zih t.zhV
 zli:Binds K t.zhV ["way","tree"] []
 vM:mg "row_of"=some (.ref t.zih)
 zbX:Fun K "walk_of" "walk_of" zcd t.zfb t.zfj
 zeF:Binds K t.zfj ["way","tree"] []
 vO:mg "walk_of"=some (.ref t.zfb)
 zcQ:Fun K "leaned_left" "leaned_left" YZ t.Vh t.Vp
 zio:Binds K t.Vp ["way","one","other"] []
 ZQ:mg "leaned_left"=some (.ref t.Vh)
 zbx:Fun K "leaned_right" "leaned_right" Yx t.Wo t.Wk
 zhj:Binds K t.Wk ["way","one","other"] []
 Zc:mg "leaned_right"=some (.ref t.Wo)
 zhz:Fun K "evened" "evened" zdH t.zht t.zgM
 zmj:Binds K t.zgM ["way","one","other"] []
 Wc:mg "evened"=some (.ref t.zht)
 vD:Fun K "put_together" "put_together" Yj t.Ws t.Wf
 Zq:Binds K t.Wf ["way","one","other"] []
 yz:mg "put_together"=some (.ref t.Ws)
 W5:Fun K "parted_at" "parted_at" WY t.zbm t.zbz
 zbn:Binds K t.zbz ["way","tree","place"] []
 wF:mg "parted_at"=some (.ref t.zbm)
 zaH:Fun K "nothing_fails" "nothing_fails" Z6 t.Xv t.Xm
 zfW:Binds K t.Xm ["algebra"] []
 vL:mg "nothing_fails"=some (.ref t.Xv)
 zaJ:Fun K "parting_fails" "parting_fails" ZV t.Xu t.Xn
 zgh:Binds K t.Xn ["algebra"] []
 vN:mg "parting_fails"=some (.ref t.Xu)
 zcR:Fun K "doing_fails" "doing_fails" Y6 t.Vq t.Vy
 zix:Binds K t.Vy ["algebra","name","rows"] []
 vR:mg "doing_fails"=some (.ref t.Vq)
 zdD:Fun K "deeds_fail" "deeds_fail" Xz t.zax t.zaC
 zjR:Binds K t.zaC ["algebra"] []
 Ym:mg "deeds_fail"=some (.ref t.zax)
 zdS:Fun K "what_fails" "what_fails" XR t.zao t.zab
 zkC:Binds K t.zab ["algebra"] []
 Yt:mg "what_fails"=some (.ref t.zao)
 zbU:Fun K "check_let_by" "check_let_by" Yl t.We t.Wh
 zhv:Binds K t.Wh ["algebra"] []
 vA:mg "check_let_by"=some (.ref t.We)
 znD:Fun K "firm" "firm" zgA t.zmO t.znG
 zsu:Binds K t.znG ["rows"] []
 zbp:mg "firm"=some (.ref t.zmO)
 yX:Fun K "_law_cell_at" "_law_cell_at" Y5 t.Vl t.Vu
 xu:Binds K t.Vu ["_law_script","_law_k"] []
 zJ:mg "_law_cell_at"=some (.ref t.Vl)
 yf:Fun K "_law_mixed" "_law_mixed" W8 t.zaS t.zbR
 yh:Binds K t.zbR ["_law_cell","_law_k"] []
 zg:mg "_law_mixed"=some (.ref t.zaS)
 zfG:Fun K "_law_names" "_law_names" Yh t.zaV t.zaY
 zlJ:Binds K t.zaY ["_law_cell","_law_many"] []
 Zr:mg "_law_names"=some (.ref t.zaV)
 zjj:Fun K "_law_two" "_law_two" zbZ t.zeE t.zeW
 zpl:Binds K t.zeW ["_law_kind","_law_n","_law_a","_law_b"] []
 xN:mg "_law_two"=some (.ref t.zeE)
 ziO:Fun K "_law_one" "_law_one" V5 t.zeL t.zet
 zpk:Binds K t.zet ["_law_kind","_law_n","_law_cell","_law_c","_law_a"] []
 Zy:mg "_law_one"=some (.ref t.zeL)
 zfw:Fun K "_law_order" "_law_order" WW t.zbI t.zbT
 zmg:Binds K t.zbT ["_law_cell","_law_n"] []
 Yg:mg "_law_order"=some (.ref t.zbI)
 zgF:Fun K "_law_rows" "_law_rows" zag t.zdl t.zda
 zmE:Binds K t.zda ["_law_kind","_law_n","_law_m","_law_cell","_law_order_here"] []
 Zu:mg "_law_rows"=some (.ref t.zdl)
 zcC:Fun K "_law_algebra" "_law_algebra" vg t.Vs t.VG
 ziv:Binds K t.VG ["_law_cell"] []
 vU:mg "_law_algebra"=some (.ref t.Vs)
 zdh:Fun K "_law_come" "_law_come" zan t.zdc t.zdf
 zhF:Binds K t.zdf ["_law_algebra_here","_law_row"] []
 xZ:mg "_law_come"=some (.ref t.zdc)
 zal:Fun K "_law_made" "_law_made" Wj t.zcW t.zdk
 zde:Binds K t.zdk ["_law_algebra_here","_law_k","_law_row"] []
 wg:mg "_law_made"=some (.ref t.zcW)
 zbS:Fun K "_law_whole" "_law_whole" W0 t.zbe t.zbC
 zfK:Binds K t.zbC ["_law_found"] []
 xQ:mg "_law_whole"=some (.ref t.zbe)
 zai:Fun K "_law_gone" "_law_gone" zat t.zdu t.zdw
 zdt:Binds K t.zdw ["_law_algebra_here","_law_found"] []
 vm:mg "_law_gone"=some (.ref t.zdu)
 VH:Fun K "_law_is_tree" "_law_is_tree" Y9 t.Vt t.Vo
 zcA:Binds K t.Vo ["_law_way","_law_algebra_here","_law_tree","_law_row"] []
 xF:mg "_law_is_tree"=some (.ref t.Vt)
 zfC:Fun K "_law_drawn" "_law_drawn" Vc t.zaR t.zbD
 zlq:Binds K t.zbD ["_law_cell","_law_many","_law_n"] []
 Zk:mg "_law_drawn"=some (.ref t.zaR)
 zgI:Fun K "wait_of" "Ways.wait_of" Yv t.Wt t.Wi
 zhE:Binds K t.Wi ["self","deed"] []
 zlv:Fun K "idle" "Ways.idle" WP t.zbt t.zba
 zlm:Binds K t.zba ["self"] []
 Vz:Fun K "_law_changed" "_law_changed" YX t.Vj t.Vv
 zcF:Binds K t.Vv ["_law_way","_law_algebra_here","_law_tree","_law_row","_law_cell"] []
 xO:mg "_law_changed"=some (.ref t.Vj)
 zgc:Fun K "__init__" "Ways.__init__" wW t.Xo t.Xp
 zfX:Binds K t.Xp ["self","algebra"] []
 zxF:Fun K "law" "law" zlK t.zrA t.zse
 zzo:Binds K t.zse ["_law_script"] []
 zhu:mg "law"=some (.ref t.zrA)
 vC:CI K kd mg "Knot" t.VD
 Yb:CI K kd mg "Ways" t.Yo
 Z5:Meth K t.VD "__init__" t.Xk
 zfY:Meth K t.Yo "__init__" t.Xo
 zlE:Meth K t.Yo "join" t.zbi
 zgX:Meth K t.Yo "nothing" t.X6
 zin:Meth K t.Yo "behind" t.Vg
 zmk:Meth K t.Yo "made" t.zbJ
 zgR:Meth K t.Yo "wait_of" t.Wt
 zlT:Meth K t.Yo "idle" t.zbt
 zkd:wU K t.VD "whole"
 zlI:wU K t.VD "back"
 zmy:wU K t.VD "wait"
 zmh:wU K t.VD "turn"
 znK:wU K t.VD "one"
 zkm:wU K t.VD "other"
 zlN:wU K t.VD "deep"
 zlB:wU K t.VD "size"
 zlV:wU K t.Yo "size"
 zjQ:wU K t.Yo "table"
 zgP:wU K t.Yo "neutral"
 ziE:wU K t.Yo "around"
 zkp:wU K t.Yo "waits"
 zgJ:wU K t.Yo "holders"
 zyg:mg "abs"=none
 zwJ:mg "bool"=none
 zpY:mg "dict"=none
 zjN:mg "int"=none
 XH:mg "isinstance"=none
 zaO:mg "len"=none
 zmX:mg "list"=none
 zql:mg "max"=none
 yZ:mg "range"=none
 zrH:mg "sorted"=none
 zaq:mg "tuple"=none
 zyp:mg "zip"=none
set_option maxHeartbeats 8000000
section
variable{P:Program}{w:World}{K:zD}{mg:Str->Option Value}{base:Heap}{kd:KD}{t:Adr}
theorem Y7(T:Txt K kd mg t):CF K kd wY "whole":=(Yq T.vC T.zkd YL)
theorem zgy(T:Txt K kd mg t):CF K kd zad "back":=(Yq T.vC T.zlI YL)
theorem zcT(T:Txt K kd mg t):CF K kd Zx "wait":=(Yq T.vC T.zmy YL)
theorem zgx(T:Txt K kd mg t):CF K kd W6 "turn":=(Yq T.vC T.zmh YL)
theorem zjn(T:Txt K kd mg t):CF K kd zaA "one":=(Yq T.vC T.znK YL)
theorem zcj(T:Txt K kd mg t):CF K kd Yz "other":=(Yq T.vC T.zkm YL)
theorem vW(T:Txt K kd mg t):CF K kd yR "deep":=(Yq T.vC T.zlN YL)
theorem VJ(T:Txt K kd mg t):CF K kd vd "size":=(Yq T.vC T.zlB (Yq T.Yb T.zlV YL))
theorem zoi(T:Txt K kd mg t):CF K kd zhp "table":=(Yq T.Yb T.zjQ YL)
theorem ziJ(T:Txt K kd mg t):CF K kd zdg "neutral":=(Yq T.Yb T.zgP YL)
theorem zha(T:Txt K kd mg t):CF K kd X4 "around":=(Yq T.Yb T.ziE YL)
theorem zoH(T:Txt K kd mg t):CF K kd zeg "waits":=(Yq T.Yb T.zkp YL)
theorem zpO(T:Txt K kd mg t):CF K kd zhe "holders":=(Yq T.Yb T.zgJ YL)
theorem Z1(T:Txt K kd mg t)(hkd:KD1 P w K kd)(c:Str):FnOk P w K mg base CX0 1 t.Xk t.Xi ["self","whole","back","wait","turn","one","other"] (spI K kd c (xg c)):=by
 refine zrt (N:=zaI) (k:=0) (b:=Xr) T.zga zeq (by decide) λcdv A outer s H E hr=>?_
 exact(vH (v8 (Y7 T) (pv 0) (av 1) rfl) (vH (v8 (zgy T) (pv 0) (av 2) rfl) (vH (v8 (zcT T) (pv 0) (av 3) rfl) (vH (v8 (zgx T) (pv 0) (av 4) rfl) (vH (v8 (zjn T) (pv 0) (av 5) rfl) (vH (v8 (zcj T) (pv 0) (av 6) rfl) (vH (v8 (vW T) (pv 0) (ziY (tc hkd hr (av 5) aZ) aI (bn aI (bi (zeB rfl) T.zql Bt.max (bc (fd (vW T) (av 5)) (bc (fd (vW T) (av 6)) zc))))) rfl) (zot (v8 (VJ T) (pv 0) (ziY (tc hkd hr (av 5) aZ) aI (bn (fd (VJ T) (av 5)) (fd (VJ T) (av 6)))) rfl)))))))))
theorem zju(T:Txt K kd mg t)(hkd:KD1 P w K kd):FnOk P w K mg base CX0 3 t.zei t.zeO ["value"] (spD K kd YQ):=by
 refine yS (N:=zjK) (k:=2) (c:=ziU) T.zfh znb λcdv A outer s H E hr=>?_
 exact(zm (zG (mq T.vC.eq (T.vC.mk' T.Z5) (Z1 T hkd "Knot") hr T.vC.mg T.ZW (bc (av 0) (bc (av 0) (bc aZ (bc aB (bc aZ (bc aZ zc)))))))))
theorem zmv(T:Txt K kd mg t)(hkd:KD1 P w K kd):FnOk P w K mg base CX0 1 t.zbi t.zbF ["self","one","other"] (spD K kd zbN):=by
 refine yS (N:=zfO) (k:=0) (c:=zfv) T.zll zks λcdv A outer s H E hr=>?_
 exact(zm (zG (ax hkd (ax hkd (fd (zoi T) (av 0)) (av 1)) (av 2))))
theorem zrq(T:Txt K kd mg t)(hkd:KD1 P w K kd):MT P w K mg base kd "join" 1 zeb:=(zel T.Yb T.zlE (zmv T hkd) (by decide) T.zlg zeS)
theorem wH(T:Txt K kd mg t)(hkd:KD1 P w K kd):FnOk P w K mg base CX0 3 t.zen t.zew ["way","one","other"] (spD K kd yo):=by
 refine yS (N:=ziS) (k:=2) (c:=ziX) T.xX zne λcdv A outer s H E hr=>?_
 exact(zm (zG (mq T.vC.eq (T.vC.mk' T.Z5) (Z1 T hkd "Knot") hr T.vC.mg T.ZW (bc (mt (zrq T hkd) hr (av 0) (bc (fd (Y7 T) (av 1)) (bc (fd (Y7 T) (av 2)) zc)) rfl) (bc (mt (zrq T hkd) hr (av 0) (bc (fd (zgy T) (av 2)) (bc (fd (zgy T) (av 1)) zc)) rfl) (bc aZ (bc aB (bc (av 1) (bc (av 2) zc)))))))))
theorem zjx(T:Txt K kd mg t)(hkd:KD1 P w K kd):∀n:Nat,FnOk P w K mg base CX0 (3+n) t.zfg t.zeK ["way","row"] (spD K kd (vV n))
 |0=>zdx
 |n+1=>by
  have G:=zjx T hkd n
  refine yS (N:=zjM) (k:=3+n) (c:=zjr (vV n)) T.zcm zgB λcdv A outer s H E hr=>?_
  exact(by
  refine zu ?_ ?_;exact(yx (tc hkd hr (bi (wV (hkd _ rfl rfl rfl)) T.zaO Bt.len (bc (av 1) zc)) aI) (zm (zG aZ)) zP)
  refine zu ?_ ?_;exact(yx (tc hkd hr (bi (wV (hkd _ rfl rfl rfl)) T.zaO Bt.len (bc (av 1) zc)) aI) (zm (zG (ck (zju T hkd) hr T.YQ T.zfh.kp T.zjE (bc (ax hkd (av 1) aI) zc)))) zP)
  refine sj 2 zgB.nd ?_ ?_;exact(bn (bi (wV (hkd _ rfl rfl rfl)) T.zaO Bt.len (bc (av 1) zc)) aI)
  exact zm (zG (ck (wH T hkd) hr T.yo T.xX.kp T.wI (bc (av 0) (bc (ck G hr T.vV T.zcm.kp T.zej (bc (av 0) (bc (V2 (av 1) zak (Z8 (av 2))) zc))) (bc (ck G hr T.vV T.zcm.kp T.zej (bc (av 0) (bc (V2 (av 1) (Z8 (av 2)) zak) zc))) zc))))))
theorem zjG(T:Txt K kd mg t)(hkd:KD1 P w K kd):FnOk P w K mg base CX0 1 t.zeI t.zex ["tree"] (spD K kd vP):=by
 refine yS (N:=zjF) (k:=0) (c:=ziQ) T.zey znt λcdv A outer s H E hr=>?_
 exact(zm (zG (ziY (tc hkd hr (av 0) aZ) aI (fd (VJ T) (av 0)))))
theorem zhq(T:Txt K kd mg t)(hkd:KD1 P w K kd):FnOk P w K mg base CX0 1 t.X6 t.Wn ["self"] (spD K kd Wl):=by
 refine yS (N:=zbo) (k:=0) (c:=zbP) T.zhR zge λcdv A outer s H E hr=>?_
 exact(zm (zG (fd (ziJ T) (av 0))))
theorem zpm(T:Txt K kd mg t)(hkd:KD1 P w K kd):MT P w K mg base kd "nothing" 1 zhg:=(zel T.Yb T.zgX (zhq T hkd) (by decide) T.zho zeS)
theorem zmZ(T:Txt K kd mg t)(hkd:KD1 P w K kd):FnOk P w K mg base CX0 2 t.zds t.zdj ["way","tree"] (spD K kd Ye):=by
 refine yS (N:=zhK) (k:=1) (c:=zhA) T.zhN zlp λcdv A outer s H E hr=>?_
 exact(zm (zG (ziY (tc hkd hr (av 1) aZ) (mt0 (zpm T hkd) hr (av 0) rfl) (fd (Y7 T) (av 1)))))
theorem ziD(T:Txt K kd mg t)(hkd:KD1 P w K kd):FnOk P w K mg base CX0 1 t.Vg t.VF ["self","one","other"] (spD K kd Vm):=by
 refine yS (N:=Vn) (k:=0) (c:=zcL) T.zir zhZ λcdv A outer s H E hr=>?_
 exact(zm (zG (by_ V0 T.zaq Bt.tuple (bc (Y4 (N:=["row","then"]) (cap:=[none,none]) (S:=[0,1]) rfl (ztn rfl T.zyp (bc (av 1) (bc (av 2) zc)) rfl rfl) rfl (by change YH _ Vn _ (zr ZR).names _=true;decide +kernel) (by decide) (λcl s H fp=>(zbk rfl (wu (an 0 VN) (wu (an 1 VN) Vb rfl) rfl) rfl rfl)) (λcl s H fp=>Z4) (λcl s H fp=>(by_ V0 T.zaq Bt.tuple (bc (Y4 (N:=["a","then"]) (cap:=[none,some 1]) (S:=[0]) rfl (zfe (av 0)) rfl (by with_unfolding_all rfl) (by decide) (λcl s H fp=>(an 0 zeC)) (λcl s H fp=>Z4) (λcl s H fp=>(ax hkd (av 1) (av 0))) (λ_=>rfl)) zc))) (λ_=>rfl)) zc))))
theorem zlw(T:Txt K kd mg t)(hkd:KD1 P w K kd):MT P w K mg base kd "behind" 1 VM:=(zel T.Yb T.zin (ziD T hkd) (by decide) T.zim zeS)
theorem zdK(T:Txt K kd mg t)(hkd:KD1 P w K kd):FnOk P w K mg base CX0 2 t.zaf t.zaz ["way","one","other"] (spD K kd wD):=by
 refine yS (N:=zdY) (k:=1) (c:=zea) T.V6 ziw λcdv A outer s H E hr=>?_
 exact(by
  refine zu ?_ ?_;exact(yx (tc hkd hr (av 1) aZ) (zm (zG (av 2))) zP)
  refine zu ?_ ?_;exact(yx (tc hkd hr (av 2) aZ) (zm (zG (av 1))) zP)
  exact zm (zG (mt (zlw T hkd) hr (av 0) (bc (av 1) (bc (av 2) zc)) rfl)))
theorem zmd(T:Txt K kd mg t)(hkd:KD1 P w K kd):FnOk P w K mg base CX0 1 t.zbJ t.zbH ["self","wait","value","many"] (spD K kd zbV):=by
 refine yS (N:=zfn) (k:=0) (c:=zft) T.zlP zkb λcdv A outer s H E hr=>?_
 exact(zm (zG (ax hkd (ax hkd (av 1) (bn (av 3) (fd (zha T) (av 0)))) (av 2))))
theorem znH(T:Txt K kd mg t)(hkd:KD1 P w K kd):MT P w K mg base kd "made" 1 zcn:=(zel T.Yb T.zmk (zmd T hkd) (by decide) T.zlo zeS)
theorem Wg(T:Txt K kd mg t)(hkd:KD1 P w K kd):FnOk P w K mg base CX0 4 t.zdb t.zdr ["way","tree","wait"] (spD K kd yE):=by
 refine yS (N:=zib) (k:=3) (c:=zhx) T.YT zbQ λcdv A outer s H E hr=>?_
 exact(by
  refine zu ?_ ?_;exact(yx (tc hkd hr (av 1) aZ) (zm (zG aZ)) zP)
  refine sj 3 zbQ.nd ?_ ?_;exact(mt (znH T hkd) hr (av 0) (bc (av 2) (bc (fd (Y7 T) (av 1)) (bc (fd (VJ T) (av 1)) zc))) rfl)
  refine zu ?_ ?_;exact(yx (tc hkd hr (fd (vW T) (av 1)) aI) (zm (zG (ck (zju T hkd) hr T.YQ T.zfh.kp T.zjE (bc (av 3) zc)))) zP)
  refine sj 4 zbQ.nd ?_ ?_;exact(mt (znH T hkd) hr (av 0) (bc (av 2) (bc (fd (zgy T) (av 1)) (bc (fd (VJ T) (av 1)) zc))) rfl)
  exact zm (zG (mq T.vC.eq (T.vC.mk' T.Z5) (Z1 T hkd "Knot") hr T.vC.mg T.ZW (bc (av 3) (bc (av 4) (bc (ck (zdK T hkd) hr T.wD T.V6.kp T.zeh (bc (av 0) (bc (fd (zcT T) (av 1)) (bc (av 2) zc)))) (bc (fd (zgx T) (av 1)) (bc (fd (zjn T) (av 1)) (bc (fd (zcj T) (av 1)) zc)))))))))
theorem zah(T:Txt K kd mg t)(hkd:KD1 P w K kd):FnOk P w K mg base CX0 3 t.zaD t.zaw ["way","tree"] (spD K kd xG):=by
 refine yS (N:=zdN) (k:=2) (c:=zdA) T.Xx zit λcdv A outer s H E hr=>?_
 exact(by
  refine zu ?_ ?_;exact(yx (tc hkd hr (av 1) aZ) (zm (zG aZ)) zP)
  exact zm (zG (mq T.vC.eq (T.vC.mk' T.Z5) (Z1 T hkd "Knot") hr T.vC.mg T.ZW (bc (fd (zgy T) (av 1)) (bc (fd (Y7 T) (av 1)) (bc (fd (zcT T) (av 1)) (bc (zqw (fd (zgx T) (av 1))) (bc (fd (zjn T) (av 1)) (bc (fd (zcj T) (av 1)) zc)))))))))
theorem Zg(T:Txt K kd mg t)(hkd:KD1 P w K kd):FnOk P w K mg base CX0 5 t.zdi t.zdn ["way","knot"] (spD K kd yJ):=by
 refine yS (N:=zif) (k:=4) (c:=zhY) T.vJ Xe λcdv A outer s H E hr=>?_
 exact(by
  refine sj 2 Xe.nd ?_ ?_;exact(fd (zjn T) (av 1))
  refine sj 3 Xe.nd ?_ ?_;exact(fd (zcj T) (av 1))
  refine zu ?_ ?_;exact(yx (tc hkd hr (fd (zcT T) (av 1)) aZ) (by
  refine sj 2 Xe.nd ?_ ?_;exact(ck (Wg T hkd) hr T.yE T.YT.kp T.X8 (bc (av 0) (bc (av 2) (bc (fd (zcT T) (av 1)) zc))))
  exact zm (by refine sv true 3 Xe.nd ?_;exact(ck (Wg T hkd) hr T.yE T.YT.kp T.X8 (bc (av 0) (bc (av 3) (bc (fd (zcT T) (av 1)) zc)))))) zP)
  refine zu ?_ ?_;exact(yx (zbE (fd (zgx T) (av 1)) (λ_=>rfl)) (zm (zG (xj (bd (ck (zah T hkd) hr T.xG T.Xx.kp T.zay (bc (av 0) (bc (av 3) zc))) (bd (ck (zah T hkd) hr T.xG T.Xx.kp T.zay (bc (av 0) (bc (av 2) zc))) zW))))) zP)
  exact zm (zG (xj (bd (av 2) (bd (av 3) zW)))))
theorem zle(T:Txt K kd mg t)(hkd:KD1 P w K kd):∀n:Nat,FnOk P w K mg base CX0 (2+n) t.zhc t.zhs ["way","tree","wait","turn","row"] (zpP K kd (vB n))
 |0=>zrE
 |n+1=>by
  have G:=zle T hkd n
  refine zvm (N:=zlf) (k:=2+n) (c:=zdB (vB n)) T.zgV VV (by decide) λcdv A outer s H E hr=>?_
  exact(zpx (tc hkd hr (fd (vW T) (av 1)) aI) (ztg (Wb vQ VB PySem.F.slot_list_append PySem.F.type_list_append (pv 4) (bd (ziY (tc hkd hr (av 2) aZ) (fd (Y7 T) (av 1)) (mt (znH T hkd) hr (av 0) (bc (av 2) (bc (fd (Y7 T) (av 1)) (bc aI zc))) rfl)) zW) rfl rfl rfl rfl rfl) rfl) (by
  refine zgO ?_ ?_;exact(by refine svP true 5 (by decide) VV.nd ?_;exact(ck (zdK T hkd) hr T.wD T.V6.kp T.zeh (bc (av 0) (bc (fd (zcT T) (av 1)) (bc (av 2) zc)))))
  refine zgO ?_ ?_;exact(by refine svP true 6 (by decide) VV.nd ?_;exact(ec hkd hr (fd (zgx T) (av 1)) (av 3)))
  refine zgO ?_ ?_;exact(by refine svP true 7 (by decide) VV.nd ?_;exact(ziY (zbE (av 6) (λ_=>rfl)) (xj (bd (fd (zcj T) (av 1)) (bd (fd (zjn T) (av 1)) zW))) (xj (bd (fd (zjn T) (av 1)) (bd (fd (zcj T) (av 1)) zW)))))
  exact zoe (zvW (by decide) PassesOwn.never rfl (zkl (av 7)) (an 8 VV.nd) (zoe (zma (i:=4) G (hr.mono (by omega)) rfl T.vB T.zgV.kp T.zmC zjb (bc (av 0) (bc (av 8) (bc (av 5) (bc (av 6) (bc (av 4) zc))))) (by decide) rfl rfl rfl)) (λ_=>rfl))))
theorem zlQ(T:Txt K kd mg t)(hkd:KD1 P w K kd):FnOk P w K mg base CX0 23 t.zih t.zhV ["way","tree"] (spD K kd vM):=by
 refine yS (N:=zlc) (k:=22) (c:=zlZ) T.zhX zjo λcdv A outer s H E hr=>?_
 exact(by
  refine sj 2 zjo.nd ?_ ?_;exact(vh zW)
  refine zu ?_ ?_;exact(yx (tc hkd hr (av 1) aZ) (zm (zrJ (i:=2) (zle T hkd 20) (hr.mono (by omega)) rfl T.vB T.zgV.kp T.zmC zjb (bc (av 0) (bc (av 1) (bc aZ (bc aB (bc (av 2) zc))))) (by decide) rfl rfl rfl)) zP)
  exact zm (zG (av 2)))
theorem zjv(T:Txt K kd mg t)(hkd:KD1 P w K kd):∀n:Nat,FnOk P w K mg base CX0 (5+n) t.zfb t.zfj ["way","tree"] (spD K kd (vO n))
 |0=>zdx
 |n+1=>by
  have G:=zjv T hkd n
  refine yS (N:=zjq) (k:=5+n) (c:=ziK (vO n)) T.zbX zia λcdv A outer s H E hr=>?_
  exact(by
  refine zu ?_ ?_;exact(yx (tc hkd hr (av 1) aZ) (zm (zG (xj zW))) zP)
  refine zu ?_ ?_;exact(yx (tc hkd hr (fd (vW T) (av 1)) aI) (zm (zG (xj (bd (fd (Y7 T) (av 1)) zW)))) zP)
  refine sj 2 zia.nd ?_ ?_;exact(ck (Zg T hkd) hr T.yJ T.vJ.kp T.Zh (bc (av 0) (bc (av 1) zc)))
  exact zm (zG (xj (bd (fd (Y7 T) (av 1)) (bd (ck G hr T.vO T.zbX.kp T.zeF (bc (av 0) (bc (ax hkd (av 2) aI) zc))) (bd (ck G hr T.vO T.zbX.kp T.zeF (bc (av 0) (bc (ax hkd (av 2) aI) zc))) zW))))))
theorem ziB(T:Txt K kd mg t)(hkd:KD1 P w K kd):FnOk P w K mg base CX0 6 t.Vh t.Vp ["way","one","other"] (spD K kd ZQ):=by
 refine yS (N:=zcO) (k:=5) (c:=zcI) T.zcQ X5 λcdv A outer s H E hr=>?_
 exact(by
  refine sj 3 X5.nd ?_ ?_;exact(ck (Zg T hkd) hr T.yJ T.vJ.kp T.Zh (bc (av 0) (bc (av 1) zc)))
  refine zu ?_ ?_;exact(yx (tc hkd hr (fd (vW T) (ax hkd (av 3) aI)) (fd (vW T) (ax hkd (av 3) aI))) (zm (zG (ck (wH T hkd) hr T.yo T.xX.kp T.wI (bc (av 0) (bc (ax hkd (av 3) aI) (bc (ck (wH T hkd) hr T.yo T.xX.kp T.wI (bc (av 0) (bc (ax hkd (av 3) aI) (bc (av 2) zc)))) zc)))))) zP)
  refine sj 4 X5.nd ?_ ?_;exact(ck (Zg T hkd) hr T.yJ T.vJ.kp T.Zh (bc (av 0) (bc (ax hkd (av 3) aI) zc)))
  exact zm (zG (ck (wH T hkd) hr T.yo T.xX.kp T.wI (bc (av 0) (bc (ck (wH T hkd) hr T.yo T.xX.kp T.wI (bc (av 0) (bc (ax hkd (av 3) aI) (bc (ax hkd (av 4) aI) zc)))) (bc (ck (wH T hkd) hr T.yo T.xX.kp T.wI (bc (av 0) (bc (ax hkd (av 4) aI) (bc (av 2) zc)))) zc))))))
theorem zhC(T:Txt K kd mg t)(hkd:KD1 P w K kd):FnOk P w K mg base CX0 6 t.Wo t.Wk ["way","one","other"] (spD K kd Zc):=by
 refine yS (N:=zbb) (k:=5) (c:=zaX) T.zbx Xg λcdv A outer s H E hr=>?_
 exact(by
  refine sj 3 Xg.nd ?_ ?_;exact(ck (Zg T hkd) hr T.yJ T.vJ.kp T.Zh (bc (av 0) (bc (av 2) zc)))
  refine zu ?_ ?_;exact(yx (tc hkd hr (fd (vW T) (ax hkd (av 3) aI)) (fd (vW T) (ax hkd (av 3) aI))) (zm (zG (ck (wH T hkd) hr T.yo T.xX.kp T.wI (bc (av 0) (bc (ck (wH T hkd) hr T.yo T.xX.kp T.wI (bc (av 0) (bc (av 1) (bc (ax hkd (av 3) aI) zc)))) (bc (ax hkd (av 3) aI) zc)))))) zP)
  refine sj 4 Xg.nd ?_ ?_;exact(ck (Zg T hkd) hr T.yJ T.vJ.kp T.Zh (bc (av 0) (bc (ax hkd (av 3) aI) zc)))
  exact zm (zG (ck (wH T hkd) hr T.yo T.xX.kp T.wI (bc (av 0) (bc (ck (wH T hkd) hr T.yo T.xX.kp T.wI (bc (av 0) (bc (av 1) (bc (ax hkd (av 4) aI) zc)))) (bc (ck (wH T hkd) hr T.yo T.xX.kp T.wI (bc (av 0) (bc (ax hkd (av 4) aI) (bc (ax hkd (av 3) aI) zc)))) zc))))))
theorem zml(T:Txt K kd mg t)(hkd:KD1 P w K kd):FnOk P w K mg base CX0 7 t.zht t.zgM ["way","one","other"] (spD K kd Wc):=by
 refine yS (N:=zme) (k:=6) (c:=zmu) T.zhz zpz λcdv A outer s H E hr=>?_
 exact(by
  refine zu ?_ ?_;exact(yx (tc hkd hr (fd (vW T) (av 1)) (bn (fd (vW T) (av 2)) aI)) (zm (zG (ck (ziB T hkd) hr T.ZQ T.zcQ.kp T.zio (bc (av 0) (bc (av 1) (bc (av 2) zc)))))) zP)
  refine zu ?_ ?_;exact(yx (tc hkd hr (fd (vW T) (av 2)) (bn (fd (vW T) (av 1)) aI)) (zm (zG (ck (zhC T hkd) hr T.Zc T.zbx.kp T.zhj (bc (av 0) (bc (av 1) (bc (av 2) zc)))))) zP)
  exact zm (zG (ck (wH T hkd) hr T.yo T.xX.kp T.wI (bc (av 0) (bc (av 1) (bc (av 2) zc))))))
theorem YC(T:Txt K kd mg t)(hkd:KD1 P w K kd):∀n:Nat,FnOk P w K mg base CX0 (7+n) t.Ws t.Wf ["way","one","other"] (spD K kd (yz n))
 |0=>zdx
 |n+1=>by
  have G:=YC T hkd n
  refine yS (N:=zaU) (k:=7+n) (c:=zbd (yz n)) T.vD Xl λcdv A outer s H E hr=>?_
  exact(by
  refine zu ?_ ?_;exact(yx (tc hkd hr (av 1) aZ) (zm (zG (av 2))) zP)
  refine zu ?_ ?_;exact(yx (tc hkd hr (av 2) aZ) (zm (zG (av 1))) zP)
  refine zu ?_ ?_;exact(yx (tc hkd hr (fd (vW T) (av 1)) (bn (fd (vW T) (av 2)) aI)) (by
  refine sj 3 Xl.nd ?_ ?_;exact(ck (Zg T hkd) hr T.yJ T.vJ.kp T.Zh (bc (av 0) (bc (av 1) zc)))
  exact zm (zG (ck (zml T hkd) hr T.Wc T.zhz.kp T.zmj (bc (av 0) (bc (ax hkd (av 3) aI) (bc (ck G hr T.yz T.vD.kp T.Zq (bc (av 0) (bc (ax hkd (av 3) aI) (bc (av 2) zc)))) zc)))))) zP)
  refine zu ?_ ?_;exact(yx (tc hkd hr (fd (vW T) (av 2)) (bn (fd (vW T) (av 1)) aI)) (by
  refine sj 3 Xl.nd ?_ ?_;exact(ck (Zg T hkd) hr T.yJ T.vJ.kp T.Zh (bc (av 0) (bc (av 2) zc)))
  exact zm (zG (ck (zml T hkd) hr T.Wc T.zhz.kp T.zmj (bc (av 0) (bc (ck G hr T.yz T.vD.kp T.Zq (bc (av 0) (bc (av 1) (bc (ax hkd (av 3) aI) zc)))) (bc (ax hkd (av 3) aI) zc)))))) zP)
  exact zm (zG (ck (wH T hkd) hr T.yo T.xX.kp T.wI (bc (av 0) (bc (av 1) (bc (av 2) zc))))))
theorem zfz(T:Txt K kd mg t)(hkd:KD1 P w K kd):∀n:Nat,FnOk P w K mg base CX0 (27+n) t.zbm t.zbz ["way","tree","place"] (spD K kd (wF n))
 |0=>zdx
 |n+1=>by
  have G:=zfz T hkd n
  refine yS (N:=zfy) (k:=27+n) (c:=zfo (wF n)) T.W5 Yn λcdv A outer s H E hr=>?_
  exact(by
  refine zu ?_ ?_;exact(yx (tc hkd hr (av 2) aI) (zm (zG (xj (bd aZ (bd (av 1) zW))))) zP)
  refine zu ?_ ?_;exact(yx (tc hkd hr (av 2) (fd (VJ T) (av 1))) (zm (zG (xj (bd (av 1) (bd aZ zW))))) zP)
  refine sj 3 Yn.nd ?_ ?_;exact(ck (Zg T hkd) hr T.yJ T.vJ.kp T.Zh (bc (av 0) (bc (av 1) zc)))
  refine sj 4 Yn.nd ?_ ?_;exact(fd (VJ T) (ax hkd (av 3) aI))
  refine zu ?_ ?_;exact(yx (tc hkd hr (av 2) (av 4)) (by
  refine sj 5 Yn.nd ?_ ?_;exact(ck G hr T.wF T.W5.kp T.zbn (bc (av 0) (bc (ax hkd (av 3) aI) (bc (av 2) zc))))
  exact zm (zG (xj (bd (ax hkd (av 5) aI) (bd (ck (YC T hkd 20) hr T.yz T.vD.kp T.Zq (bc (av 0) (bc (ax hkd (av 5) aI) (bc (ax hkd (av 3) aI) zc)))) zW))))) zP)
  refine sj 5 Yn.nd ?_ ?_;exact(ck G hr T.wF T.W5.kp T.zbn (bc (av 0) (bc (ax hkd (av 3) aI) (bc (bn (av 2) (av 4)) zc))))
  exact zm (zG (xj (bd (ck (YC T hkd 20) hr T.yz T.vD.kp T.Zq (bc (av 0) (bc (ax hkd (av 3) aI) (bc (ax hkd (av 5) aI) zc)))) (bd (ax hkd (av 5) aI) zW)))))
theorem zfT(T:Txt K kd mg t)(hkd:KD1 P w K kd):FnOk P w K mg base CX0 1 t.Xv t.Xm ["algebra"] (spD K kd vL):=by
 refine yS (N:=zaK) (k:=0) (c:=ZZ) T.zaH ZC λcdv A outer s H E hr=>?_
 exact(by
  refine sj 1 ZC.nd ?_ ?_;exact(ax hkd (av 0) aI)
  refine sj 2 ZC.nd ?_ ?_;exact(ax hkd (av 0) aI)
  refine zu ?_ ?_;exact(vz PassesOwn.never rfl (xq rfl T.yZ (bc (ax hkd (av 0) aI) zc) rfl) (an 3 ZC.nd) (zm (yx (AW.at_ (zfI (tc hkd hr (ax hkd (ax hkd (av 1) (av 2)) (av 3)) (av 3)) (V1 (tc hkd hr (ax hkd (ax hkd (av 1) (av 3)) (av 2)) (av 3))))) (zm (zG (xj (bd aS (bd (av 3) zW))))) zP)) (λ_=>rfl))
  exact zm (zG aZ))
theorem zfU(T:Txt K kd mg t)(hkd:KD1 P w K kd):FnOk P w K mg base CX0 1 t.Xu t.Xn ["algebra"] (spD K kd vN):=by
 refine yS (N:=zaG) (k:=0) (c:=Xq) T.zaJ wK λcdv A outer s H E hr=>?_
 exact(by
  refine sj 1 wK.nd ?_ ?_;exact(ax hkd (av 0) aI)
  refine sj 2 wK.nd ?_ ?_;exact(ax hkd (av 0) aI)
  refine zu ?_ ?_;exact(vz PassesOwn.never rfl (xq rfl T.yZ (bc (av 1) zc) rfl) (an 3 wK.nd) (zm (vz PassesOwn.never rfl (xq rfl T.yZ (bc (av 1) zc) rfl) (an 4 wK.nd) (zm (vz PassesOwn.never rfl (xq rfl T.yZ (bc (av 1) zc) rfl) (an 5 wK.nd) (zm (yx (tc hkd hr (ax hkd (ax hkd (av 2) (ax hkd (ax hkd (av 2) (av 3)) (av 4))) (av 5)) (ax hkd (ax hkd (av 2) (av 3)) (ax hkd (ax hkd (av 2) (av 4)) (av 5)))) (zm (zG (xj (bd aS (bd (av 3) (bd (av 4) (bd (av 5) zW))))))) zP)) (λ_=>rfl))) (λ_=>rfl))) (λ_=>rfl))
  exact zm (zG aZ))
theorem zis(T:Txt K kd mg t)(hkd:KD1 P w K kd):FnOk P w K mg base CX0 1 t.Vq t.Vy ["algebra","name","rows"] (spD K kd vR):=by
 refine yS (N:=zcB) (k:=0) (c:=Ve) T.zcR xT λcdv A outer s H E hr=>?_
 exact(by
  refine sj 3 xT.nd ?_ ?_;exact(ax hkd (av 0) aI)
  refine sj 4 xT.nd ?_ ?_;exact(ax hkd (av 0) aI)
  refine sj 5 xT.nd ?_ ?_;exact(ax hkd (av 0) aI)
  refine zu ?_ ?_;exact(vz PassesOwn.never rfl (xq rfl T.yZ (bc (av 3) zc) rfl) (an 6 xT.nd) (zm (vz PassesOwn.never rfl (xq rfl T.yZ (bc (av 4) zc) rfl) (an 7 xT.nd) (zm (vz PassesOwn.never rfl (xq rfl T.yZ (bc (av 3) zc) rfl) (an 8 xT.nd) (zm (vz PassesOwn.never rfl (xq rfl T.yZ (bc (av 4) zc) rfl) (an 9 xT.nd) (zm (yx (tc hkd hr (ax hkd (ax hkd (av 2) (bn (bn (av 7) (av 9)) (av 4))) (ax hkd (ax hkd (av 5) (av 6)) (av 8))) (ax hkd (ax hkd (av 5) (ax hkd (ax hkd (av 2) (av 7)) (av 6))) (ax hkd (ax hkd (av 2) (av 9)) (av 8)))) (zm (zG (xj (bd aS (bd (av 1) (bd (av 6) (bd (av 7) (bd (av 8) (bd (av 9) zW))))))))) zP)) (λ_=>rfl))) (λ_=>rfl))) (λ_=>rfl))) (λ_=>rfl))
  exact zm (zG aZ))
theorem zjZ(T:Txt K kd mg t)(hkd:KD1 P w K kd):FnOk P w K mg base CX0 2 t.zax t.zaC ["algebra"] (spD K kd Ym):=by
 refine yS (N:=zdE) (k:=1) (c:=zdP) T.zdD ZM λcdv A outer s H E hr=>?_
 exact(by
  refine sj 1 ZM.nd ?_ ?_;exact(ax hkd (av 0) aI)
  refine zu ?_ ?_;exact(vz PassesOwn.never rfl (zkl (ax hkd (av 0) aI)) (zbk rfl (wu (an 2 ZM.nd) (wu (an 3 ZM.nd) Vb rfl) rfl) rfl rfl) (by
  refine zu ?_ ?_;exact(yx (tc hkd hr (ax hkd (ax hkd (av 3) aI) (av 1)) (av 1)) (zm (zG (xj (bd aS (bd (av 2) zW))))) zP)
  refine sj 4 ZM.nd ?_ ?_;exact(ck (zis T hkd) hr T.vR T.zcR.kp T.zix (bc (av 0) (bc (av 2) (bc (av 3) zc))))
  exact zm (yx (tc hkd hr (av 4) aZ) (zm (zG (av 4))) zP)) (λ_=>rfl))
  exact zm (zG aZ))
theorem zkf(T:Txt K kd mg t)(hkd:KD1 P w K kd):FnOk P w K mg base CX0 3 t.zao t.zab ["algebra"] (spD K kd Yt):=by
 refine yS (N:=zed) (k:=2) (c:=zdG) T.zdS Xa λcdv A outer s H E hr=>?_
 exact(by
  refine sj 1 Xa.nd ?_ ?_;exact(ck (zfT T hkd) hr T.vL T.zaH.kp T.zfW (bc (av 0) zc))
  refine zu ?_ ?_;exact(yx (tc hkd hr (av 1) aZ) (zm (by refine sv true 1 Xa.nd ?_;exact(ck (zfU T hkd) hr T.vN T.zaJ.kp T.zgh (bc (av 0) zc)))) zP)
  refine zu ?_ ?_;exact(yx (tc hkd hr (av 1) aZ) (zm (by refine sv true 1 Xa.nd ?_;exact(ck (zjZ T hkd) hr T.Ym T.zdD.kp T.zjR (bc (av 0) zc)))) zP)
  exact zm (zG (av 1)))
theorem zhy(T:Txt K kd mg t)(hkd:KD1 P w K kd):FnOk P w K mg base CX0 4 t.We t.Wh ["algebra"] (spD K kd vA):=by
 refine yS (N:=zbs) (k:=3) (c:=Wr) T.zbU zaM λcdv A outer s H E hr=>?_
 exact(by
  refine sj 1 zaM.nd ?_ ?_;exact(ck (zkf T hkd) hr T.Yt T.zdS.kp T.zkC (bc (av 0) zc))
  exact zm (yx (tc hkd hr (av 1) aZ) (zm zxY) zP))
theorem zqm(T:Txt K kd mg t)(hkd:KD1 P w K kd):FnOk P w K mg base CX0 1 t.zmO t.znG ["rows"] (spD K kd zbp):=by
 refine yS (N:=znp) (k:=0) (c:=zqi) T.znD zsK λcdv A outer s H E hr=>?_
 exact(zm (zG (by_ V0 T.zaq Bt.tuple (bc (Y4 (N:=["row"]) (cap:=[none]) (S:=[0]) rfl (zfe (av 0)) rfl (by change YH _ znp _ (zr zgA).names _=true;decide +kernel) (by decide) (λcl s H fp=>(an 0 zpH)) (λcl s H fp=>Z4) (λcl s H fp=>(by_ V0 T.zaq Bt.tuple (bc (av 0) zc))) (λ_=>rfl)) zc))))
theorem xx(T:Txt K kd mg t)(hkd:KD1 P w K kd):FnOk P w K mg base CX0 1 t.Vl t.Vu ["_law_script","_law_k"] (spD K kd zJ):=by
 refine yS (N:=zcE) (k:=0) (c:=zcP) T.yX zhJ λcdv A outer s H E hr=>?_
 exact(by
  refine zu ?_ ?_;exact(yx (tc hkd hr (av 1) (bi (wV (hkd _ rfl rfl rfl)) T.zaO Bt.len (bc (av 0) zc))) (zm (zG (ax hkd (av 0) (av 1)))) zP)
  exact zm (zG aI))
theorem yj(T:Txt K kd mg t)(hkd:KD1 P w K kd):FnOk P w K mg base CX0 1 t.zaS t.zbR ["_law_cell","_law_k"] (spD K kd zg):=by
 refine yS (N:=zfp) (k:=0) (c:=zfQ) T.yf zaE λcdv A outer s H E hr=>?_
 exact(by
  refine zu ?_ ?_;exact(yx (tc hkd hr (bn (av 0) aI) aI) (zm (zG (bn (av 0) (zsk ztN aI (bn aI (av 1)))))) zP)
  refine sj 2 zaE.nd ?_ ?_;exact(bn (bn (bn (bn (bn (av 0) aI) (bn aI (av 1))) aI) aI) aI)
  refine sj 2 zaE.nd ?_ ?_;exact(bn (bn (av 2) (av 2)) aI)
  exact zm (zG (bn (bn (bn (av 2) (av 2)) (bn aI (av 1))) aI)))
theorem zmw(T:Txt K kd mg t)(hkd:KD1 P w K kd):FnOk P w K mg base CX0 2 t.zaV t.zaY ["_law_cell","_law_many"] (spD K kd Zr):=by
 refine yS (N:=WQ) (k:=1) (c:=zfR) T.zfG wC λcdv A outer s H E hr=>?_
 exact(by
  refine sj 2 wC.nd ?_ ?_;exact aS
  refine sj 3 wC.nd ?_ ?_;exact(ztx (ty:=.str) (hkd _ rfl rfl rfl) zsD PySem.F.plainAttrs_str PySem.F.slot_str_join PySem.F.type_str_join aS (bc (Y4 (N:=["_law_j","_law_letters","_law_cell"]) (cap:=[none,some 2,some 0]) (S:=[0]) rfl (XX rfl T.yZ (bc aI zc) rfl) rfl (by change YH _ WQ _ (zr Yh).names _=true;decide +kernel) (by decide) (λcl s H fp=>(an 0 zhS)) (λcl s H fp=>Z4) (λcl s H fp=>(ax hkd (av 1) (bn (ck (yj T hkd) hr T.zg T.yf.kp T.yh (bc (av 2) (bc (bn aI (av 0)) zc))) aI))) (λ_=>rfl)) zc) rfl rfl rfl rfl rfl)
  refine zu ?_ ?_;exact(yx (tc hkd hr (bn (av 0) aI) aI) (zm (zG (Y4 (N:=["_law_k","_law_word","_law_cell"]) (cap:=[none,some 3,some 0]) (S:=[0]) rfl (XX rfl T.yZ (bc (av 1) zc) rfl) rfl (by change YH _ WQ _ (zr Yh).names _=true;decide +kernel) (by decide) (λcl s H fp=>(an 0 zhm)) (λcl s H fp=>Z4) (λcl s H fp=>(zeo (av 1) zak (Z8 (bn aI (bn (bn (av 0) (bn (av 2) aI)) aI))))) (λ_=>rfl)))) zP)
  refine sj 4 wC.nd ?_ ?_;exact(bn aI (bn (bn (av 0) aI) aI))
  refine sj 5 wC.nd ?_ ?_;exact(bn (bn (av 0) aI) (av 4))
  refine sj 6 wC.nd ?_ ?_;exact(bn aI (bn (bn (av 0) aI) aI))
  refine sj 7 wC.nd ?_ ?_;exact(vh zW)
  refine zu ?_ ?_;exact(vz PassesOwn.never rfl (xq rfl T.yZ (bc (av 1) zc) rfl) (an 8 wC.nd) (by
  refine sj 9 wC.nd ?_ ?_;exact(ax hkd (av 2) (bn (bn (ck (yj T hkd) hr T.zg T.yf.kp T.yh (bc (av 0) (bc (bn aI (av 5)) zc))) (bn (av 6) (av 8))) aI))
  exact zm (XC (Wb vQ VB PySem.F.slot_list_append PySem.F.type_list_append (pv 7) (bd (bn (bn (zeo (av 3) zak (Z8 (av 5))) (av 9)) (zeo (av 3) (Z8 (bn (av 5) aI)) (Z8 (av 4)))) zW) rfl rfl rfl rfl rfl) rfl)) (λ_=>rfl))
  exact zm (zG (av 7)))
theorem zpt(T:Txt K kd mg t)(hkd:KD1 P w K kd):FnOk P w K mg base CX0 1 t.zeE t.zeW ["_law_kind","_law_n","_law_a","_law_b"] (spD K kd xN):=by
 refine yS (N:=zjI) (k:=0) (c:=ziG) T.zjj zij λcdv A outer s H E hr=>?_
 exact(by
  refine zu ?_ ?_;exact(yx (tc hkd hr (av 0) aI) (zm (zG (bn (bn (av 2) (av 3)) (av 1)))) zP)
  refine zu ?_ ?_;exact(yx (tc hkd hr (av 0) aI) (zm (zG (bi (zeB rfl) T.zql Bt.max (bc (av 2) (bc (av 3) zc))))) zP)
  refine zu ?_ ?_;exact(yx (tc hkd hr (av 0) aI) (zm (zG (ax hkd (vh (bd (av 3) (bd (av 2) zW))) (by_ Ww T.zjN Bt.int (bc (ec hkd hr (av 3) aI) zc))))) zP)
  refine zu ?_ ?_;exact(yx (tc hkd hr (av 0) aI) (by
  refine sj 4 zij.nd ?_ ?_;exact(vh (bd (bn (av 3) aI) (bd (bn (av 3) aI) zW)))
  exact zm (zG (bn (bn aI (ax hkd (av 4) (bn (av 2) aI))) (ax hkd (av 4) (bn (av 2) aI))))) zP)
  exact zm (zG (bn (bn aI (bn (bn (bn (av 2) aI) (bn (av 3) aI)) aI)) (ax hkd (vh (bd (bn (av 3) aI) (bd (bn (av 2) aI) zW))) (by_ Ww T.zjN Bt.int (bc (ec hkd hr (bn (av 3) aI) aI) zc))))))
theorem zpA(T:Txt K kd mg t)(hkd:KD1 P w K kd):FnOk P w K mg base CX0 2 t.zeL t.zet ["_law_kind","_law_n","_law_cell","_law_c","_law_a"] (spD K kd Zy):=by
 refine yS (N:=zeV) (k:=1) (c:=zjH) T.ziO zaF λcdv A outer s H E hr=>?_
 exact(by
  refine sj 5 zaF.nd ?_ ?_;exact(ck (yj T hkd) hr T.zg T.yf.kp T.yh (bc (av 2) (bc aI zc)))
  refine sj 6 zaF.nd ?_ ?_;exact(ck (yj T hkd) hr T.zg T.yf.kp T.yh (bc (av 2) (bc aI zc)))
  refine zu ?_ ?_;exact(yx (tc hkd hr (av 0) aI) (zm (zG (bn (bn (bn (av 5) (av 4)) (bn (av 6) (av 3))) (av 1)))) zP)
  refine zu ?_ ?_;exact(yx (tc hkd hr (av 0) aI) (by
  refine sj 7 zaF.nd ?_ ?_;exact(bi zns T.zrH Bt.sorted (bc (Y4 (N:=["_law_j","_law_n","_law_cell"]) (cap:=[none,some 1,some 2]) (S:=[0]) rfl (XX rfl T.yZ (bc (bn (av 1) aI) zc) rfl) rfl (by change YH _ zeV _ (zr V5).names _=true;decide +kernel) (by decide) (λcl s H fp=>(an 0 zkg)) (λcl s H fp=>Z4) (λcl s H fp=>(bn (ck (yj T hkd) hr T.zg T.yf.kp T.yh (bc (av 2) (bc (bn aI (av 0)) zc))) (av 1))) (λ_=>rfl)) zc))
  exact zm (zG (ax hkd (bn (vh (bd aI zW)) (av 7)) (av 4)))) zP)
  refine zu ?_ ?_;exact(yx (tc hkd hr (av 0) aI) (zm (zG (ax hkd (vh (bd (bn aI (bn (ck (yj T hkd) hr T.zg T.yf.kp T.yh (bc (av 2) (bc (bn aI (av 4)) zc))) (bn (av 1) aI))) (bd aI zW))) (by_ Ww T.zjN Bt.int (bc (ec hkd hr (av 4) aI) zc))))) zP)
  refine zu ?_ ?_;exact(yx (tc hkd hr (av 0) aI) (zm (zG (ax hkd (vh (bd (av 4) (bd (bn (bn (bn aI (bn aI (bn (av 4) aI))) aI) (bn (av 4) aI)) zW))) (bn (av 5) aI)))) zP)
  exact zm (zG (bn (bn aI (bn (bn (bn (av 5) (bn (av 4) aI)) (bn (av 6) (av 3))) aI)) (ax hkd (vh (bd (bn aI (bn (ck (yj T hkd) hr T.zg T.yf.kp T.yh (bc (av 2) (bc (bn aI (bn (av 4) aI)) zc))) aI)) (bd aI zW))) (by_ Ww T.zjN Bt.int (bc (ec hkd hr (bn (av 4) aI) aI) zc))))))
theorem zld(T:Txt K kd mg t)(hkd:KD1 P w K kd):FnOk P w K mg base CX0 2 t.zbI t.zbT ["_law_cell","_law_n"] (spD K kd Yg):=by
 refine yS (N:=zfu) (k:=1) (c:=zfA) T.zfw Xy λcdv A outer s H E hr=>?_
 exact(by
  refine sj 2 Xy.nd ?_ ?_;exact(zpw rfl rfl T.yZ rfl T.zmX (bc (av 1) zc) rfl rfl)
  refine sj 3 Xy.nd ?_ ?_;exact(vh zW)
  refine zu ?_ ?_;exact(vz PassesOwn.never rfl (xq rfl T.yZ (bc (av 1) zc) rfl) (an 4 Xy.nd) (zm (XC (Wb vQ VB PySem.F.slot_list_append PySem.F.type_list_append (pv 3) (bd (Wb zqB zrO PySem.F.slot_list_pop PySem.F.type_list_pop (pv 2) (bd (bn (ck (yj T hkd) hr T.zg T.yf.kp T.yh (bc (av 0) (bc (bn aI (av 4)) zc))) (bi (wV (hkd _ rfl rfl rfl)) T.zaO Bt.len (bc (av 2) zc))) zW) rfl rfl rfl rfl rfl) zW) rfl rfl rfl rfl rfl) rfl)) (λ_=>rfl))
  exact zm (zG (av 3)))
theorem znh(T:Txt K kd mg t)(hkd:KD1 P w K kd):FnOk P w K mg base CX0 3 t.zdl t.zda ["_law_kind","_law_n","_law_m","_law_cell","_law_order_here"] (spD K kd Zu):=by
 refine yS (N:=zik) (k:=2) (c:=zgw) T.zgF Xd λcdv A outer s H E hr=>?_
 exact(by
  refine sj 5 Xd.nd ?_ ?_;exact(vh zW)
  refine zu ?_ ?_;exact(vz PassesOwn.never rfl (xq rfl T.yZ (bc (av 2) zc) rfl) (an 6 Xd.nd) (by
  refine sj 7 Xd.nd ?_ ?_;exact(bn (vh (bd aI zW)) (av 1))
  refine zu ?_ ?_;exact(vz PassesOwn.never rfl (xq rfl T.yZ (bc (av 1) zc) rfl) (an 8 Xd.nd) (zm (zup (pv 7) (zqk (pv 4) (znv (pv 8)) (λ_ _=>rfl)) (ax hkd (av 4) (ck (zpA T hkd) hr T.Zy T.ziO.kp T.zpk (bc (av 0) (bc (av 1) (bc (av 3) (bc (av 6) (bc (av 8) zc))))))) (λ_=>rfl) rfl rfl rfl)) (λ_=>rfl))
  exact zm (XC (Wb vQ VB PySem.F.slot_list_append PySem.F.type_list_append (pv 5) (bd (av 7) zW) rfl rfl rfl rfl rfl) rfl)) (λ_=>rfl))
  exact zm (zG (av 5)))
theorem ziy(T:Txt K kd mg t)(hkd:KD1 P w K kd):FnOk P w K mg base CX0 4 t.Vs t.VG ["_law_cell"] (spD K kd vU):=by
 refine yS (N:=ZP) (k:=3) (c:=zcK) T.zcC yG λcdv A outer s H E hr=>?_
 exact(by
  refine sj 1 yG.nd ?_ ?_;exact(bn (ck (yj T hkd) hr T.zg T.yf.kp T.yh (bc (av 0) (bc aI zc))) aI)
  refine sj 2 yG.nd ?_ ?_;exact(ax hkd (vh (bd (bn aI (bn (ck (yj T hkd) hr T.zg T.yf.kp T.yh (bc (av 0) (bc aI zc))) aI)) (bd (bn aI (bn (ck (yj T hkd) hr T.zg T.yf.kp T.yh (bc (av 0) (bc aI zc))) aI)) (bd (bn aI (bn (ck (yj T hkd) hr T.zg T.yf.kp T.yh (bc (av 0) (bc aI zc))) aI)) (bd aI (bd aI zW)))))) (av 1))
  refine sj 3 yG.nd ?_ ?_;exact(ax hkd (vh (bd (av 2) (bd (bn aI (bn (ck (yj T hkd) hr T.zg T.yf.kp T.yh (bc (av 0) (bc aI zc))) aI)) (bd (bn aI (bn (ck (yj T hkd) hr T.zg T.yf.kp T.yh (bc (av 0) (bc aI zc))) aI)) (bd (bn aI (bn (ck (yj T hkd) hr T.zg T.yf.kp T.yh (bc (av 0) (bc aI zc))) aI)) (bd aI zW)))))) (av 1))
  refine sj 4 yG.nd ?_ ?_;exact(ck (zld T hkd) hr T.Yg T.zfw.kp T.zmg (bc (av 0) (bc (av 2) zc)))
  refine zu ?_ ?_;exact(zjT (z:=false) (i:=5) (N:=["_law_a","_law_n"]) (cap:=[none,some 2]) (S:=[0]) yG.nd rfl (by exact Or.inl rfl) (by exact Or.inr rfl) rfl rfl (XX rfl T.yZ (bc (av 2) zc) rfl) rfl (by change YH _ ZP _ (zr vg).names _=true;decide +kernel) (by decide) (λcl s H fp=>(an 0 zff)) (λcl s H fp=>Z4) (λcl s H fp=>(bn (vh (bd aI zW)) (av 1))) (λ_=>rfl))
  refine zu ?_ ?_;exact(vz PassesOwn.never rfl (xq rfl T.yZ (bc (av 2) zc) rfl) (an 6 yG.nd) (zm (vz PassesOwn.never rfl (xq rfl T.yZ (bc (av 2) zc) rfl) (an 7 yG.nd) (zm (zrP (pv 5) (zqk (pv 4) (znv (pv 6)) (λ_ _=>rfl)) (λ_ _=>rfl) (zqk (pv 4) (znv (pv 7)) (λ_ _=>rfl)) (ax hkd (av 4) (ck (zpt T hkd) hr T.xN T.zjj.kp T.zpl (bc (av 1) (bc (av 2) (bc (av 6) (bc (av 7) zc)))))) (λ_=>rfl) rfl rfl rfl)) (λ_=>rfl))) (λ_=>rfl))
  refine sj 8 yG.nd ?_ ?_;exact(bn aI (bn (ck (yj T hkd) hr T.zg T.yf.kp T.yh (bc (av 0) (bc aI zc))) aI))
  refine sj 9 yG.nd ?_ ?_;exact(ck (zmw T hkd) hr T.Zr T.zfG.kp T.zlJ (bc (bn (av 0) aI) (bc aI zc)))
  refine zu ?_ ?_;exact(zjT (z:=true) (i:=10) (N:=["_law_k","_law_names_here","_law_kind","_law_n","_law_m","_law_order_here","_law_cell"]) (cap:=[none,some 9,some 1,some 2,some 3,some 4,some 0]) (S:=[0]) yG.nd rfl (by exact Or.inl rfl) (by exact Or.inr rfl) rfl rfl (XX rfl T.yZ (bc (av 8) zc) rfl) rfl (by change YH _ ZP _ (zr vg).names _=true;decide +kernel) (by decide) (λcl s H fp=>(an 0 zez)) (λcl s H fp=>Z4) (λcl s H fp=>(xj (bd (ax hkd (av 1) (av 0)) (bd (ck (znh T hkd) hr T.Zu T.zgF.kp T.zmE (bc (av 2) (bc (av 3) (bc (av 4) (bc (bn (av 6) (bn aI (av 0))) (bc (av 5) zc)))))) zW)))) (λ_=>rfl))
  refine sj 11 yG.nd ?_ ?_;exact(vh zW)
  refine zu ?_ ?_;exact(vz PassesOwn.never rfl (xq rfl T.yZ (bc (bn aI (bn (ck (yj T hkd) hr T.zg T.yf.kp T.yh (bc (av 0) (bc aI zc))) aI)) zc) rfl) (an 12 yG.nd) (zm (XC (Wb vQ VB PySem.F.slot_list_append PySem.F.type_list_append (pv 11) (bd (xj (bd (ax hkd (av 9) (bn aI (av 12))) (bd (Y4 (N:=["_law_v","_law_cell","_law_k"]) (cap:=[none,some 0,some 12]) (S:=[0]) rfl (XX rfl T.yZ (bc (av 2) zc) rfl) rfl (by change YH _ ZP _ (zr vg).names _=true;decide +kernel) (by decide) (λcl s H fp=>(an 0 zfk)) (λcl s H fp=>(zua (tc hkd hr (bn (ck (yj T hkd) hr T.zg T.yf.kp T.yh (bc (av 1) (bc (bn (bn aI (bn aI (av 2))) (av 0)) zc))) aI) aI))) (λcl s H fp=>(av 0)) (λ_=>rfl)) zW))) zW) rfl rfl rfl rfl rfl) rfl)) (λ_=>rfl))
  exact zm (zG (xj (bd (av 2) (bd (av 3) (bd (av 5) (bd (ax hkd (av 4) (by_ Ww T.zjN Bt.int (bc (ec hkd hr (av 1) aI) zc))) (bd (av 10) (bd (av 11) zW)))))))))
theorem zhb(T:Txt K kd mg t)(hkd:KD1 P w K kd):FnOk P w K mg base CX0 1 t.zdc t.zdf ["_law_algebra_here","_law_row"] (spD K kd xZ):=by
 refine yS (N:=zhH) (k:=0) (c:=zhI) T.zdh WX λcdv A outer s H E hr=>?_
 exact(by
  refine zu ?_ ?_;exact(yx (tc hkd hr (av 1) (vh zW)) (zm (zG (ax hkd (av 0) aI))) zP)
  refine sj 2 WX.nd ?_ ?_;exact(ax hkd (av 1) aI)
  refine zu ?_ ?_;exact(vz PassesOwn.never rfl (zkl (V2 (av 1) (Z8 aI) zak)) (an 3 WX.nd) (zm (by refine sv true 2 WX.nd ?_;exact(ax hkd (ax hkd (ax hkd (av 0) aI) (av 2)) (av 3)))) (λ_=>rfl))
  exact zm (zG (av 2)))
theorem zcX(T:Txt K kd mg t)(hkd:KD1 P w K kd):FnOk P w K mg base CX0 1 t.zcW t.zdk ["_law_algebra_here","_law_k","_law_row"] (spD K kd wg):=by
 refine yS (N:=zdv) (k:=0) (c:=zgW) T.zal zfM λcdv A outer s H E hr=>?_
 exact(by
  refine sj 3 zfM.nd ?_ ?_;exact(ax hkd (ax hkd (ax hkd (ax hkd (av 0) aI) (av 1)) aI) (bn aI (ax hkd (av 0) aI)))
  exact zm (zG (Y4 (N:=["_law_value","_law_images"]) (cap:=[none,some 3]) (S:=[0]) rfl (zfe (av 2)) rfl (by change YH _ zdv _ (zr Wj).names _=true;decide +kernel) (by decide) (λcl s H fp=>(an 0 ziq)) (λcl s H fp=>Z4) (λcl s H fp=>(ax hkd (av 1) (av 0))) (λ_=>rfl))))
theorem zfE(T:Txt K kd mg t)(hkd:KD1 P w K kd):FnOk P w K mg base CX0 1 t.zbe t.zbC ["_law_found"] (spD K kd xQ):=by
 refine yS (N:=zfD) (k:=0) (c:=zfF) T.zbS zke λcdv A outer s H E hr=>?_
 exact(zm (zG (zrF (zkh (hkd _ rfl rfl rfl) rfl rfl T.XH Bt.isinstance rfl T.zjN Bt.int (av 0) (Bt.n _ rfl) (by decide) (Bt.n _ rfl) (by decide) rfl rfl rfl) (zrW (zqw (zkh (hkd _ rfl rfl rfl) rfl rfl T.XH Bt.isinstance rfl T.zwJ Bt.bool (av 0) (Bt.n _ rfl) (by decide) (Bt.n _ rfl) (by decide) rfl rfl rfl))))))
theorem zgZ(T:Txt K kd mg t)(hkd:KD1 P w K kd):∀n:Nat,FnOk P w K mg base CX0 (1+n) t.zdu t.zdw ["_law_algebra_here","_law_found"] (spD K kd (vm n))
 |0=>zdx
 |n+1=>by
  have G:=zgZ T hkd n
  refine yS (N:=zgL) (k:=1+n) (c:=zhD (vm n)) T.zai W3 λcdv A outer s H E hr=>?_
  exact(by
  refine zu ?_ ?_;exact(yx (AW.at_ (zfI (zep (zbE (zkh (hkd _ rfl rfl rfl) rfl rfl T.XH Bt.isinstance rfl T.zaq Bt.tuple (av 1) (Bt.n _ rfl) (by decide) (Bt.n _ rfl) (by decide) rfl rfl rfl) (λ_=>rfl))) (zfI (AW.at_ (zrb (tc hkd hr (bi (wV (hkd _ rfl rfl rfl)) T.zaO Bt.len (bc (av 1) zc)) aI) (zic (tc hkd hr (bi (wV (hkd _ rfl rfl rfl)) T.zaO Bt.len (bc (av 1) zc)) aI)))) (V1 (zep (zbE (ck (zfE T hkd) hr T.xQ T.zbS.kp T.zfK (bc (ax hkd (av 1) aI) zc)) (λ_=>rfl))))))) (zm (zG aZ)) zP)
  refine zu ?_ ?_;exact(yx (tc hkd hr (bi (wV (hkd _ rfl rfl rfl)) T.zaO Bt.len (bc (av 1) zc)) aI) (zm (zG (xj (bd aI (bd (vh (bd (ax hkd (av 1) aI) zW)) zW))))) zP)
  refine sj 2 W3.nd ?_ ?_;exact(ck G hr T.vm T.zai.kp T.zdt (bc (av 0) (bc (ax hkd (av 1) aI) zc)))
  refine sj 3 W3.nd ?_ ?_;exact(ck G hr T.vm T.zai.kp T.zdt (bc (av 0) (bc (ax hkd (av 1) aI) zc)))
  refine zu ?_ ?_;exact(yx (AW.at_ (zfI (tc hkd hr (av 2) aZ) (zfI (tc hkd hr (av 3) aZ) (V1 (tc hkd hr (bi zpe T.zyg Bt.abs (bc (bn (ax hkd (av 2) aI) (ax hkd (av 3) aI)) zc)) aI))))) (zm (zG aZ)) zP)
  refine sj 4 W3.nd ?_ ?_;exact(bn (ax hkd (av 2) aI) (ax hkd (av 3) aI))
  refine zu ?_ ?_;exact(yx (tc hkd hr (ax hkd (av 1) aI) (ck (zhb T hkd) hr T.xZ T.zdh.kp T.zhF (bc (av 0) (bc (av 4) zc)))) (zm (zG aZ)) zP)
  exact zm (zG (xj (bd (bn aI (bi (zeB rfl) T.zql Bt.max (bc (ax hkd (av 2) aI) (bc (ax hkd (av 3) aI) zc)))) (bd (av 4) zW)))))
theorem zcJ(T:Txt K kd mg t)(hkd:KD1 P w K kd):FnOk P w K mg base CX0 26 t.Vt t.Vo ["_law_way","_law_algebra_here","_law_tree","_law_row"] (spD K kd xF):=by
 refine yS (N:=zcy) (k:=25) (c:=zcS) T.VH Yy λcdv A outer s H E hr=>?_
 exact(by
  refine zu ?_ ?_;exact(yx (AW.at_ (zfI (tc hkd hr (ck (zjG T hkd) hr T.vP T.zey.kp T.zji (bc (av 2) zc)) (bi (wV (hkd _ rfl rfl rfl)) T.zaO Bt.len (bc (av 3) zc))) (V1 (zep (zbE (ck (zfE T hkd) hr T.xQ T.zbS.kp T.zfK (bc (ck (zjG T hkd) hr T.vP T.zey.kp T.zji (bc (av 2) zc)) zc)) (λ_=>rfl)))))) (zm (zG aB)) zP)
  refine sj 4 Yy.nd ?_ ?_;exact(ck (zlQ T hkd) hr T.vM T.zhX.kp T.zli (bc (av 0) (bc (av 2) zc)))
  refine zu ?_ ?_;exact(yx (AW.at_ (zfI (zep (zbE (zkh (hkd _ rfl rfl rfl) rfl rfl T.XH Bt.isinstance rfl T.zmX Bt.list (av 4) (Bt.n _ rfl) (by decide) (Bt.n _ rfl) (by decide) rfl rfl rfl) (λ_=>rfl))) (zfI (tc hkd hr (av 4) (av 3)) (V1 (tc hkd hr (ck (zmZ T hkd) hr T.Ye T.zhN.kp T.zmL (bc (av 0) (bc (av 2) zc))) (ck (zhb T hkd) hr T.xZ T.zdh.kp T.zhF (bc (av 1) (bc (av 3) zc)))))))) (zm (zG aB)) zP)
  refine zu ?_ ?_;exact(XC (Wb vQ VB PySem.F.slot_list_append PySem.F.type_list_append (pv 4) (bd aI zW) rfl rfl rfl rfl rfl) rfl)
  refine zu ?_ ?_;exact(yx (tc hkd hr (ck (zlQ T hkd) hr T.vM T.zhX.kp T.zli (bc (av 0) (bc (av 2) zc))) (av 3)) (zm (zG aB)) zP)
  refine sj 5 Yy.nd ?_ ?_;exact(ck (zjv T hkd 20) hr T.vO T.zbX.kp T.zeF (bc (av 0) (bc (av 2) zc)))
  refine zu ?_ ?_;exact(yx (tc hkd hr (av 3) (vh zW)) (zm (zG (ec hkd hr (av 5) (xj zW)))) zP)
  refine sj 6 Yy.nd ?_ ?_;exact(ck (zgZ T hkd 20) hr T.vm T.zai.kp T.zdt (bc (av 1) (bc (av 5) zc)))
  exact zm (zG (zrF (ec hkd hr (av 6) aZ) (zrW (ec hkd hr (ax hkd (av 6) aI) (av 3))))))
theorem zlr(T:Txt K kd mg t)(hkd:KD1 P w K kd):FnOk P w K mg base CX0 2 t.zaR t.zbD ["_law_cell","_law_many","_law_n"] (spD K kd Zk):=by
 refine yS (N:=zfq) (k:=1) (c:=zfS) T.zfC ZD λcdv A outer s H E hr=>?_
 exact(by
  refine sj 3 ZD.nd ?_ ?_;exact(vh zW)
  refine sj 4 ZD.nd ?_ ?_;exact(ck (yj T hkd) hr T.zg T.yf.kp T.yh (bc (av 0) (bc aI zc)))
  refine zu ?_ ?_;exact(vz PassesOwn.never rfl (xq rfl T.yZ (bc (av 1) zc) rfl) (an 5 ZD.nd) (zm (yx (AW.at_ (zrb (tc hkd hr (bn (av 0) aI) aI) (zic (tc hkd hr (av 5) aI)))) (by
  refine zu ?_ ?_;exact(XC (Wb vQ VB PySem.F.slot_list_append PySem.F.type_list_append (pv 3) (bd (bn (av 4) (av 2)) zW) rfl rfl rfl rfl rfl) rfl)
  exact zm (by refine sv true 4 ZD.nd ?_;exact(bn (av 4) (av 2)))) (by
  refine sj 4 ZD.nd ?_ ?_;exact(bn (bn (bn (bn (bn (av 4) aI) aI) (bn (av 5) (av 5))) aI) aI)
  exact zm (XC (Wb vQ VB PySem.F.slot_list_append PySem.F.type_list_append (pv 3) (bd (bn (bn (bn (bn (av 4) (av 4)) aI) aI) (av 2)) zW) rfl rfl rfl rfl rfl) rfl)))) (λ_=>rfl))
  exact zm (zG (av 3)))
theorem zhL(T:Txt K kd mg t)(hkd:KD1 P w K kd):FnOk P w K mg base CX0 1 t.Wt t.Wi ["self","deed"] (spD K kd Wa):=by
 refine yS (N:=zby) (k:=0) (c:=zbM) T.zgI zgg λcdv A outer s H E hr=>?_
 exact(zm (zG (ax hkd (fd (zoH T) (av 0)) (av 1))))
theorem zmz(T:Txt K kd mg t)(hkd:KD1 P w K kd):FnOk P w K mg base CX0 1 t.zbt t.zba ["self"] (spD K kd zbq):=by
 refine yS (N:=zfr) (k:=0) (c:=zfm) T.zlv zkG λcdv A outer s H E hr=>?_
 exact(zm (zG (bn (xj (bd (zpr rfl rfl T.yZ rfl T.zaq (bc (fd (VJ T) (av 0)) zc) rfl rfl) zW)) (fd (zha T) (av 0)))))
theorem zeD(T:Txt K kd mg t)(hkd:KD1 P w K kd):MT P w K mg base kd "wait_of" 1 Zo:=(zel T.Yb T.zgR (zhL T hkd) (by decide) T.zhE zeS)
theorem zwB(T:Txt K kd mg t)(hkd:KD1 P w K kd):MT P w K mg base kd "idle" 1 zkq:=(zel T.Yb T.zlT (zmz T hkd) (by decide) T.zlm zeS)
theorem zcG(T:Txt K kd mg t)(hkd:KD1 P w K kd):FnOk P w K mg base CX0 5 t.Vj t.Vv ["_law_way","_law_algebra_here","_law_tree","_law_row","_law_cell"] (spD K kd xO):=by
 refine yS (N:=zcz) (k:=4) (c:=zcN) T.Vz Zd λcdv A outer s H E hr=>?_
 exact(by
  refine sj 5 Zd.nd ?_ ?_;exact(bn (ck (yj T hkd) hr T.zg T.yf.kp T.yh (bc (av 4) (bc aI zc))) aI)
  refine sj 6 Zd.nd ?_ ?_;exact(bn (ck (yj T hkd) hr T.zg T.yf.kp T.yh (bc (av 4) (bc aI zc))) (bi (wV (hkd _ rfl rfl rfl)) T.zaO Bt.len (bc (ax hkd (av 1) aI) zc)))
  refine sj 7 Zd.nd ?_ ?_;exact(bn (ck (yj T hkd) hr T.zg T.yf.kp T.yh (bc (av 4) (bc aI zc))) (bi (wV (hkd _ rfl rfl rfl)) T.zaO Bt.len (bc (ax hkd (av 1) aI) zc)))
  refine zu ?_ ?_;exact(yx (tc hkd hr (av 5) aI) (zm (zG (xj (bd (ck (Wg T hkd) hr T.yE T.YT.kp T.X8 (bc (av 0) (bc (av 2) (bc (mt (zeD T hkd) hr (av 0) (bc (ax hkd (ax hkd (ax hkd (av 1) aI) (av 6)) aI) zc) rfl) zc)))) (bd (ck (zcX T hkd) hr T.wg T.zal.kp T.zde (bc (av 1) (bc (av 6) (bc (av 3) zc)))) zW))))) zP)
  refine zu ?_ ?_;exact(yx (tc hkd hr (av 5) aI) (zm (zG (xj (bd (ck (zah T hkd) hr T.xG T.Xx.kp T.zay (bc (av 0) (bc (av 2) zc))) (bd (zvc (av 3) (znS zsF aI)) zW))))) zP)
  refine zu ?_ ?_;exact(yx (tc hkd hr (av 5) aI) (by
  refine sj 8 Zd.nd ?_ ?_;exact(mt (zlw T hkd) hr (av 0) (bc (mt (zeD T hkd) hr (av 0) (bc (ax hkd (ax hkd (ax hkd (av 1) aI) (av 6)) aI) zc) rfl) (bc (mt (zeD T hkd) hr (av 0) (bc (ax hkd (ax hkd (ax hkd (av 1) aI) (av 7)) aI) zc) rfl) zc)) rfl)
  exact zm (zG (xj (bd (ck (Wg T hkd) hr T.yE T.YT.kp T.X8 (bc (av 0) (bc (av 2) (bc (av 8) zc)))) (bd (ck (zcX T hkd) hr T.wg T.zal.kp T.zde (bc (av 1) (bc (av 7) (bc (ck (zcX T hkd) hr T.wg T.zal.kp T.zde (bc (av 1) (bc (av 6) (bc (av 3) zc)))) zc)))) zW))))) zP)
  exact zm (zG (xj (bd (ck (Wg T hkd) hr T.yE T.YT.kp T.X8 (bc (av 0) (bc (av 2) (bc (mt0 (zwB T hkd) hr (av 0) rfl) zc)))) (bd (by_ zpo T.zmX Bt.list (bc (av 3) zc)) zW)))))
theorem zgj(T:Txt K kd mg t)(hkd:KD1 P w K kd)(c:Str):FnOk P w K mg base CX0 5 t.Xo t.Xp ["self","algebra"] (spI K kd c (Z0 c)):=by
 refine zrt (N:=Z2) (k:=4) (b:=Xh) T.zgc zfa (by decide) λcdv A outer s H E hr=>?_
 exact(vH (zsy (ck (zhy T hkd) hr T.vA T.zbU.kp T.zhv (bc (av 1) zc)) rfl) (vH (v8 (VJ T) (pv 0) (ax hkd (av 1) aI) rfl) (vH (v8 (zha T) (pv 0) (ax hkd (av 1) aI) rfl) (vH (v8 (zoi T) (pv 0) (ck (zqm T hkd) hr T.zbp T.znD.kp T.zsu (bc (ax hkd (av 1) aI) zc)) rfl) (vH (v8 (ziJ T) (pv 0) (ax hkd (av 1) aI) rfl) (vH (v8 (zoH T) (pv 0) (by_ (zhd rfl (hkd _ rfl rfl rfl)) T.zpY Bt.dict (bc (Y4 (N:=["name","rows"]) (cap:=[none,none]) (S:=[0,1]) rfl (zfe (ax hkd (av 1) aI)) rfl (by change YH _ Z2 _ (zr wW).names _=true;decide +kernel) (by decide) (λcl s H fp=>(zbk rfl (wu (an 0 Wz) (wu (an 1 Wz) Vb rfl) rfl) rfl rfl)) (λcl s H fp=>Z4) (λcl s H fp=>(xj (bd (av 0) (bd (ck (zqm T hkd) hr T.zbp T.znD.kp T.zsu (bc (av 1) zc)) zW)))) (λ_=>rfl)) zc)) rfl) (zot (v8 (zpO T) (pv 0) (by_ (zhd rfl (hkd _ rfl rfl rfl)) T.zpY Bt.dict (bc (Y4 (N:=["name","values"]) (cap:=[none,none]) (S:=[0,1]) rfl (zfe (ax hkd (av 1) aI)) rfl (by change YH _ Z2 _ (zr wW).names _=true;decide +kernel) (by decide) (λcl s H fp=>(zbk rfl (wu (an 0 Wm) (wu (an 1 Wm) Vb rfl) rfl) rfl rfl)) (λcl s H fp=>Z4) (λcl s H fp=>(xj (bd (av 0) (bd (by_ V0 T.zaq Bt.tuple (bc (av 1) zc)) zW)))) (λ_=>rfl)) zc)) rfl))))))))
theorem o_law(T:Txt K kd mg t)(hkd:KD1 P w K kd):FnOk P w K mg base CX0 48 t.zrA t.zse ["_law_script"] (spD K kd zhu):=by
 refine yS (N:=zsp) (k:=47) (c:=zuS) T.zxF vX λcdv A outer s H E hr=>?_
 exact(by
  refine sj 1 vX.nd ?_ ?_;exact(ck (ziy T hkd) hr T.vU T.zcC.kp T.ziv (bc (ck (xx T hkd) hr T.zJ T.yX.kp T.xu (bc (av 0) (bc aI zc))) zc))
  refine sj 2 vX.nd ?_ ?_;exact(mq T.Yb.eq (T.Yb.mk' T.zfY) (zgj T hkd "Ways") hr T.Yb.mg T.zfX (bc (av 1) zc))
  refine zu ?_ ?_;exact(zjT (z:=true) (i:=3) (N:=["_law_cell","_law_algebra_here"]) (cap:=[none,some 1]) (S:=[0]) vX.nd rfl (by exact Or.inl rfl) (by exact Or.inr rfl) rfl rfl (zfe (V2 (av 0) (Z8 aI) (Z8 aI))) rfl (by change YH _ zsp _ (zr zlK).names _=true;decide +kernel) (by decide) (λcl s H fp=>(an 0 zry)) (λcl s H fp=>Z4) (λcl s H fp=>(bn (av 0) (ax hkd (av 1) aI))) (λ_=>rfl))
  refine zu ?_ ?_;exact(yx (tc hkd hr (bn (ck (xx T hkd) hr T.zJ T.yX.kp T.xu (bc (av 0) (bc aI zc))) aI) aI) (by
  refine sj 4 vX.nd ?_ ?_;exact(bn (bn (ck (xx T hkd) hr T.zJ T.yX.kp T.xu (bc (av 0) (bc aI zc))) aI) aI)
  refine zu ?_ ?_;exact(yx (tc hkd hr (bn (bn (ck (xx T hkd) hr T.zJ T.yX.kp T.xu (bc (av 0) (bc aI zc))) aI) aI) aI) (zm (by refine sv true 4 vX.nd ?_;exact(bn (bn (ck (xx T hkd) hr T.zJ T.yX.kp T.xu (bc (av 0) (bc aI zc))) aI) aI))) zP)
  exact zm (by refine sv true 3 vX.nd ?_;exact(ck (zlr T hkd) hr T.Zk T.zfC.kp T.zlq (bc (ck (xx T hkd) hr T.zJ T.yX.kp T.xu (bc (av 0) (bc aI zc))) (bc (av 4) (bc (ax hkd (av 1) aI) zc)))))) zP)
  refine sj 5 vX.nd ?_ ?_;exact(vh (bd (xj (bd (zso (ck (zjx T hkd 20) hr T.vV T.zcm.kp T.zej (bc (av 2) (bc (av 3) zc)))) (bd (av 3) zW))) zW))
  refine zu ?_ ?_;exact(vz PassesOwn.never rfl (xq rfl T.yZ (bc (bn aI (bn (ck (xx T hkd) hr T.zJ T.yX.kp T.xu (bc (av 0) (bc aI zc))) aI)) zc) rfl) (an 6 vX.nd) (by
  refine zu ?_ ?_;exact(znr (ck (zcG T hkd) hr T.xO T.Vz.kp T.zcF (bc (av 2) (bc (av 1) (bc (ax hkd (ax hkd (av 5) (znS zsF aI)) aI) (bc (ax hkd (ax hkd (av 5) (znS zsF aI)) aI) (bc (ck (yj T hkd) hr T.zg T.yf.kp T.yh (bc (ck (xx T hkd) hr T.zJ T.yX.kp T.xu (bc (av 0) (bc aI zc))) (bc (bn aI (av 6)) zc))) zc)))))) (zbk rfl (wu (an 7 vX.nd) (wu (an 3 vX.nd) Vb rfl) rfl) rfl rfl) rfl rfl rfl)
  refine zu ?_ ?_;exact(yx (zep (zbE (ck (zcJ T hkd) hr T.xF T.VH.kp T.zcA (bc (av 2) (bc (av 1) (bc (av 7) (bc (av 3) zc))))) (λ_=>rfl))) (zm (zG aB)) zP)
  exact zm (XC (Wb vQ VB PySem.F.slot_list_append PySem.F.type_list_append (pv 5) (bd (xj (bd (av 7) (bd (av 3) zW))) zW) rfl rfl rfl rfl rfl) rfl)) (λ_=>rfl))
  refine sj 8 vX.nd ?_ ?_;exact(bn (ck (xx T hkd) hr T.zJ T.yX.kp T.xu (bc (av 0) (bc aI zc))) (bn (bi (wV (hkd _ rfl rfl rfl)) T.zaO Bt.len (bc (av 3) zc)) aI))
  refine zu ?_ ?_;exact(znr (ck (zfz T hkd 20) hr T.wF T.W5.kp T.zbn (bc (av 2) (bc (ax hkd (ax hkd (av 5) (znS zsF aI)) aI) (bc (av 8) zc)))) (zbk rfl (wu (an 9 vX.nd) (wu (an 10 vX.nd) Vb rfl) rfl) rfl rfl) rfl rfl rfl)
  refine zu ?_ ?_;exact(znr (ck (zcG T hkd) hr T.xO T.Vz.kp T.zcF (bc (av 2) (bc (av 1) (bc (av 9) (bc (V2 (av 3) zak (Z8 (av 8))) (bc (ck (xx T hkd) hr T.zJ T.yX.kp T.xu (bc (av 0) (bc aI zc))) zc)))))) (zbk rfl (wu (an 7 vX.nd) (wu (an 11 vX.nd) Vb rfl) rfl) rfl rfl) rfl rfl rfl)
  refine zu ?_ ?_;exact(XC (Wb vQ VB PySem.F.slot_list_append PySem.F.type_list_append (pv 5) (bd (xj (bd (zso (ck (YC T hkd 20) hr T.yz T.vD.kp T.Zq (bc (av 2) (bc (av 7) (bc (av 10) zc))))) (bd (zso (bn (av 11) (V2 (av 3) (Z8 (av 8)) zak))) zW))) zW) rfl rfl rfl rfl rfl) rfl)
  refine zu ?_ ?_;exact(vz PassesOwn.never rfl (zkl (av 5)) (zbk rfl (wu (an 7 vX.nd) (wu (an 3 vX.nd) Vb rfl) rfl) rfl rfl) (zm (yx (zep (zbE (ck (zcJ T hkd) hr T.xF T.VH.kp T.zcA (bc (av 2) (bc (av 1) (bc (av 7) (bc (av 3) zc))))) (λ_=>rfl))) (zm (zG aB)) zP)) (λ_=>rfl))
  exact zm (zG aB))
end
abbrev NsR(K:zD)(x:Str)(f:Addr):Prop:=PySem.W.nsIn K mainGlobals x=some (some (.ref f))
abbrev FnAt(K:zD)(x q:Str)(s:Stmt)(f:Addr):Prop:=∃d,Fun K x q s f d
theorem zvz{l:PySem.W.OpenLaw}{w:World}{K:zD}{h:Heap}{mg:Str->Option Value}{fa:Addr}(X:K.In h)(G:h.Ns mainGlobals mg)(hfa:mg "law"=some (.ref fa))
 {f0 f1 f2 f3 f4 f5 f6 f7 f8 f9 f10 f11 f12 f13 f14 f15 f16 f17 f18 f19 f20 f21 f22 f23 f24 f25 f26 f27 f28 f29 f30 f31 f32 f33 f34 f35 f36 f37 f38 f39 f40 f41 f42 f43 f44 f45 f46 f47 C0 C1:Addr}
 (aC0:PySem.W.nsIn K mainGlobals "Knot"=some (some (.ref C0)))
 (aC1:PySem.W.nsIn K mainGlobals "Ways"=some (some (.ref C1)))
 (e0:PySem.W.findIn K (.ref C0) "__init__"=some (some (.ref f0))) (ei0:PySem.W.isFn K (.ref f0)=true) (ek0:PySem.W.keepIn K (.ref f0)=true)
 (e1:PySem.W.findIn K (.ref C1) "__init__"=some (some (.ref f46))) (ei1:PySem.W.isFn K (.ref f46)=true) (ek1:PySem.W.keepIn K (.ref f46)=true)
 (e2:PySem.W.findIn K (.ref C1) "join"=some (some (.ref f2))) (ei2:PySem.W.isFn K (.ref f2)=true) (ek2:PySem.W.keepIn K (.ref f2)=true)
 (e3:PySem.W.findIn K (.ref C1) "nothing"=some (some (.ref f6))) (ei3:PySem.W.isFn K (.ref f6)=true) (ek3:PySem.W.keepIn K (.ref f6)=true)
 (e4:PySem.W.findIn K (.ref C1) "behind"=some (some (.ref f8))) (ei4:PySem.W.isFn K (.ref f8)=true) (ek4:PySem.W.keepIn K (.ref f8)=true)
 (e5:PySem.W.findIn K (.ref C1) "made"=some (some (.ref f10))) (ei5:PySem.W.isFn K (.ref f10)=true) (ek5:PySem.W.keepIn K (.ref f10)=true)
 (e6:PySem.W.findIn K (.ref C1) "wait_of"=some (some (.ref f43))) (ei6:PySem.W.isFn K (.ref f43)=true) (ek6:PySem.W.keepIn K (.ref f43)=true)
 (e7:PySem.W.findIn K (.ref C1) "idle"=some (some (.ref f44))) (ei7:PySem.W.isFn K (.ref f44)=true) (ek7:PySem.W.keepIn K (.ref f44)=true)
 (pg0:PySem.W.plainGet K C0 Str.empty=true) (hd0:PySem.W.hasDictIn K C0=true) (po0:PySem.W.plainOver K C0=true) (sa0:PySem.W.findIn K (.ref C0) "__setattr__"=some (some (.builtin "object.__setattr__"))) (mk0:PySem.W.makesIn K C0=true) (kc0:PySem.W.keepIn K (.ref C0)=true)
 (pg1:PySem.W.plainGet K C1 Str.empty=true) (hd1:PySem.W.hasDictIn K C1=true) (po1:PySem.W.plainOver K C1=true) (sa1:PySem.W.findIn K (.ref C1) "__setattr__"=some (some (.builtin "object.__setattr__"))) (mk1:PySem.W.makesIn K C1=true) (kc1:PySem.W.keepIn K (.ref C1)=true)
 (na0:PySem.W.findIn K (.ref C0) "whole"=some none)
 (na1:PySem.W.findIn K (.ref C0) "back"=some none)
 (na2:PySem.W.findIn K (.ref C0) "wait"=some none)
 (na3:PySem.W.findIn K (.ref C0) "turn"=some none)
 (na4:PySem.W.findIn K (.ref C0) "one"=some none)
 (na5:PySem.W.findIn K (.ref C0) "other"=some none)
 (na6:PySem.W.findIn K (.ref C0) "deep"=some none)
 (na7:PySem.W.findIn K (.ref C0) "size"=some none)
 (na8:PySem.W.findIn K (.ref C1) "size"=some none)
 (na9:PySem.W.findIn K (.ref C1) "table"=some none)
 (na10:PySem.W.findIn K (.ref C1) "neutral"=some none)
 (na11:PySem.W.findIn K (.ref C1) "around"=some none)
 (na12:PySem.W.findIn K (.ref C1) "waits"=some none)
 (na13:PySem.W.findIn K (.ref C1) "holders"=some none)
 (l0:FnAt K "__init__" "Knot.__init__" Z7 f0)
 (a1:NsR K "leaf_of" f1) (l1:FnAt K "leaf_of" "leaf_of" zcr f1)
 (l2:FnAt K "join" "Ways.join" WN f2)
 (a3:NsR K "knot_of" f3) (l3:FnAt K "knot_of" "knot_of" zcg f3)
 (a4:NsR K "tree_of" f4) (l4:FnAt K "tree_of" "tree_of" zci f4)
 (a5:NsR K "size_of" f5) (l5:FnAt K "size_of" "size_of" zcl f5)
 (l6:FnAt K "nothing" "Ways.nothing" Ys f6)
 (a7:NsR K "whole_of" f7) (l7:FnAt K "whole_of" "whole_of" zaj f7)
 (l8:FnAt K "behind" "Ways.behind" ZR f8)
 (a9:NsR K "both_waits" f9) (l9:FnAt K "both_waits" "both_waits" XQ f9)
 (l10:FnAt K "made" "Ways.made" WM f10)
 (a11:NsR K "done_all" f11) (l11:FnAt K "done_all" "done_all" zau f11)
 (a12:NsR K "turned_all" f12) (l12:FnAt K "turned_all" "turned_all" XM f12)
 (a13:NsR K "parts_of" f13) (l13:FnAt K "parts_of" "parts_of" zaB f13)
 (a14:NsR K "gather" f14) (l14:FnAt K "gather" "gather" zdL f14)
 (a15:NsR K "row_of" f15) (l15:FnAt K "row_of" "row_of" zdM f15)
 (a16:NsR K "walk_of" f16) (l16:FnAt K "walk_of" "walk_of" zcd f16)
 (a17:NsR K "leaned_left" f17) (l17:FnAt K "leaned_left" "leaned_left" YZ f17)
 (a18:NsR K "leaned_right" f18) (l18:FnAt K "leaned_right" "leaned_right" Yx f18)
 (a19:NsR K "evened" f19) (l19:FnAt K "evened" "evened" zdH f19)
 (a20:NsR K "put_together" f20) (l20:FnAt K "put_together" "put_together" Yj f20)
 (a21:NsR K "parted_at" f21) (l21:FnAt K "parted_at" "parted_at" WY f21)
 (a22:NsR K "nothing_fails" f22) (l22:FnAt K "nothing_fails" "nothing_fails" Z6 f22)
 (a23:NsR K "parting_fails" f23) (l23:FnAt K "parting_fails" "parting_fails" ZV f23)
 (a24:NsR K "doing_fails" f24) (l24:FnAt K "doing_fails" "doing_fails" Y6 f24)
 (a25:NsR K "deeds_fail" f25) (l25:FnAt K "deeds_fail" "deeds_fail" Xz f25)
 (a26:NsR K "what_fails" f26) (l26:FnAt K "what_fails" "what_fails" XR f26)
 (a27:NsR K "check_let_by" f27) (l27:FnAt K "check_let_by" "check_let_by" Yl f27)
 (a28:NsR K "firm" f28) (l28:FnAt K "firm" "firm" zgA f28)
 (a29:NsR K "_law_cell_at" f29) (l29:FnAt K "_law_cell_at" "_law_cell_at" Y5 f29)
 (a30:NsR K "_law_mixed" f30) (l30:FnAt K "_law_mixed" "_law_mixed" W8 f30)
 (a31:NsR K "_law_names" f31) (l31:FnAt K "_law_names" "_law_names" Yh f31)
 (a32:NsR K "_law_two" f32) (l32:FnAt K "_law_two" "_law_two" zbZ f32)
 (a33:NsR K "_law_one" f33) (l33:FnAt K "_law_one" "_law_one" V5 f33)
 (a34:NsR K "_law_order" f34) (l34:FnAt K "_law_order" "_law_order" WW f34)
 (a35:NsR K "_law_rows" f35) (l35:FnAt K "_law_rows" "_law_rows" zag f35)
 (a36:NsR K "_law_algebra" f36) (l36:FnAt K "_law_algebra" "_law_algebra" vg f36)
 (a37:NsR K "_law_come" f37) (l37:FnAt K "_law_come" "_law_come" zan f37)
 (a38:NsR K "_law_made" f38) (l38:FnAt K "_law_made" "_law_made" Wj f38)
 (a39:NsR K "_law_whole" f39) (l39:FnAt K "_law_whole" "_law_whole" W0 f39)
 (a40:NsR K "_law_gone" f40) (l40:FnAt K "_law_gone" "_law_gone" zat f40)
 (a41:NsR K "_law_is_tree" f41) (l41:FnAt K "_law_is_tree" "_law_is_tree" Y9 f41)
 (a42:NsR K "_law_drawn" f42) (l42:FnAt K "_law_drawn" "_law_drawn" Vc f42)
 (l43:FnAt K "wait_of" "Ways.wait_of" Yv f43)
 (l44:FnAt K "idle" "Ways.idle" WP f44)
 (a45:NsR K "_law_changed" f45) (l45:FnAt K "_law_changed" "_law_changed" YX f45)
 (l46:FnAt K "__init__" "Ways.__init__" wW f46)
 (a47:NsR K "law" f47) (l47:FnAt K "law" "law" zlK f47)
 (z0:PySem.W.nsIn K mainGlobals "abs"=some none) (z1:PySem.W.nsIn K mainGlobals "bool"=some none) (z2:PySem.W.nsIn K mainGlobals "dict"=some none) (z3:PySem.W.nsIn K mainGlobals "int"=some none) (z4:PySem.W.nsIn K mainGlobals "isinstance"=some none) (z5:PySem.W.nsIn K mainGlobals "len"=some none) (z6:PySem.W.nsIn K mainGlobals "list"=some none) (z7:PySem.W.nsIn K mainGlobals "max"=some none) (z8:PySem.W.nsIn K mainGlobals "range"=some none) (z9:PySem.W.nsIn K mainGlobals "sorted"=some none) (z10:PySem.W.nsIn K mainGlobals "tuple"=some none) (z11:PySem.W.nsIn K mainGlobals "zip"=some none):
 ∃fd:FuncData,(∀(s:Shared) (v:Value),BindsTo s fd ⟨[v],[]⟩ [("_law_script",v)])/\∀base:Heap,K.In base->base.Ns mainGlobals mg->FnOk l.prog w K mg base CX0 48 fa fd ["_law_script"] (spL K zhu):=by
 have e:=hfa.symm.trans (PySem.W.mg_of X G a47)
 cases e
 obtain⟨_,F0⟩:=l0
 have b0:=F0.binds (ps:=["self","whole","back","wait","turn","one","other"]) λ_ _ _ _ _ _ us hl=>match us,hl with | [_,_,_,_,_,_,_],_=>rfl
 obtain⟨_,F1⟩:=l1
 obtain⟨_,F2⟩:=l2
 obtain⟨_,F3⟩:=l3
 obtain⟨_,F4⟩:=l4
 obtain⟨_,F5⟩:=l5
 obtain⟨_,F6⟩:=l6
 obtain⟨_,F7⟩:=l7
 obtain⟨_,F8⟩:=l8
 obtain⟨_,F9⟩:=l9
 obtain⟨_,F10⟩:=l10
 obtain⟨_,F11⟩:=l11
 obtain⟨_,F12⟩:=l12
 obtain⟨_,F13⟩:=l13
 obtain⟨_,F14⟩:=l14
 obtain⟨_,F15⟩:=l15
 obtain⟨_,F16⟩:=l16
 obtain⟨_,F17⟩:=l17
 obtain⟨_,F18⟩:=l18
 obtain⟨_,F19⟩:=l19
 obtain⟨_,F20⟩:=l20
 obtain⟨_,F21⟩:=l21
 obtain⟨_,F22⟩:=l22
 obtain⟨_,F23⟩:=l23
 obtain⟨_,F24⟩:=l24
 obtain⟨_,F25⟩:=l25
 obtain⟨_,F26⟩:=l26
 obtain⟨_,F27⟩:=l27
 obtain⟨_,F28⟩:=l28
 obtain⟨_,F29⟩:=l29
 obtain⟨_,F30⟩:=l30
 obtain⟨_,F31⟩:=l31
 obtain⟨_,F32⟩:=l32
 obtain⟨_,F33⟩:=l33
 obtain⟨_,F34⟩:=l34
 obtain⟨_,F35⟩:=l35
 obtain⟨_,F36⟩:=l36
 obtain⟨_,F37⟩:=l37
 obtain⟨_,F38⟩:=l38
 obtain⟨_,F39⟩:=l39
 obtain⟨_,F40⟩:=l40
 obtain⟨_,F41⟩:=l41
 obtain⟨_,F42⟩:=l42
 obtain⟨_,F43⟩:=l43
 obtain⟨_,F44⟩:=l44
 obtain⟨_,F45⟩:=l45
 obtain⟨_,F46⟩:=l46
 obtain⟨_,F47⟩:=l47
 obtain⟨_,_,_,_,_,_,_,_,_,rfl,_,_⟩:=F47.ex
 let KL:List (Addr×List (Key×V)):=[]
 have hkd:KD1 l.prog w K (kdL KL (ztl mg)):=zvp λp m=>by
  exact absurd (show p ∈ ([]:List (Addr×List (Key×V)))from m) QzZ
 have T:Txt K (kdL KL (ztl mg)) mg ⟨_,_,_,_,_,_,_,_,_,_,_,_,_,_,_,_,_,_,_,_,_,_,_,_,_,_,_,_,_,_,_,_,_,_,_,_,_,_,_,_,_,_,_,_,_,_,_,_,_,_,_,_,_,_,_,_,_,_,_,_,_,_,_,_,_,_,_,_,_,_,_,_,_,_,_,_,_,_,_,_,_,_,_,_,_,_,_,_,_,_,_,_,_,_,_,_,_,_⟩:=⟨F0,b0,F1,bs F1,PySem.W.mg_of X G a1,F2,bs F2,F3,bs F3,PySem.W.mg_of X G a3,F4,bs F4,PySem.W.mg_of X G a4,F5,bs F5,PySem.W.mg_of X G a5,F6,bs F6,F7,bs F7,PySem.W.mg_of X G a7,F8,bs F8,F9,bs F9,PySem.W.mg_of X G a9,F10,bs F10,F11,bs F11,PySem.W.mg_of X G a11,F12,bs F12,PySem.W.mg_of X G a12,F13,bs F13,PySem.W.mg_of X G a13,F14,bs F14,PySem.W.mg_of X G a14,F15,bs F15,PySem.W.mg_of X G a15,F16,bs F16,PySem.W.mg_of X G a16,F17,bs F17,PySem.W.mg_of X G a17,F18,bs F18,PySem.W.mg_of X G a18,F19,bs F19,PySem.W.mg_of X G a19,F20,bs F20,PySem.W.mg_of X G a20,F21,bs F21,PySem.W.mg_of X G a21,F22,bs F22,PySem.W.mg_of X G a22,F23,bs F23,PySem.W.mg_of X G a23,F24,bs F24,PySem.W.mg_of X G a24,F25,bs F25,PySem.W.mg_of X G a25,F26,bs F26,PySem.W.mg_of X G a26,F27,bs F27,PySem.W.mg_of X G a27,F28,bs F28,PySem.W.mg_of X G a28,F29,bs F29,PySem.W.mg_of X G a29,F30,bs F30,PySem.W.mg_of X G a30,F31,bs F31,PySem.W.mg_of X G a31,F32,bs F32,PySem.W.mg_of X G a32,F33,bs F33,PySem.W.mg_of X G a33,F34,bs F34,PySem.W.mg_of X G a34,F35,bs F35,PySem.W.mg_of X G a35,F36,bs F36,PySem.W.mg_of X G a36,F37,bs F37,PySem.W.mg_of X G a37,F38,bs F38,PySem.W.mg_of X G a38,F39,bs F39,PySem.W.mg_of X G a39,F40,bs F40,PySem.W.mg_of X G a40,F41,bs F41,PySem.W.mg_of X G a41,F42,bs F42,PySem.W.mg_of X G a42,F43,bs F43,F44,bs F44,F45,bs F45,PySem.W.mg_of X G a45,F46,bs F46,F47,bs F47,PySem.W.mg_of X G a47,⟨zoq (PySem.W.mg_of X G aC0),⟨pg0,hd0,po0,sa0⟩,mk0,kc0,PySem.W.mg_of X G aC0⟩,⟨zoq (PySem.W.mg_of X G aC1),⟨pg1,hd1,po1,sa1⟩,mk1,kc1,PySem.W.mg_of X G aC1⟩,⟨e0,ei0,ek0⟩,⟨e1,ei1,ek1⟩,⟨e2,ei2,ek2⟩,⟨e3,ei3,ek3⟩,⟨e4,ei4,ek4⟩,⟨e5,ei5,ek5⟩,⟨e6,ei6,ek6⟩,⟨e7,ei7,ek7⟩,na0,na1,na2,na3,na4,na5,na6,na7,na8,na9,na10,na11,na12,na13,PySem.W.mg_none_of X G z0,PySem.W.mg_none_of X G z1,PySem.W.mg_none_of X G z2,PySem.W.mg_none_of X G z3,PySem.W.mg_none_of X G z4,PySem.W.mg_none_of X G z5,PySem.W.mg_none_of X G z6,PySem.W.mg_none_of X G z7,PySem.W.mg_none_of X G z8,PySem.W.mg_none_of X G z9,PySem.W.mg_none_of X G z10,PySem.W.mg_none_of X G z11⟩
 exact⟨_,λs v=>.of_eq rfl,λbase _ _=>(o_law T hkd).imp λvs H Q E h=>h _⟩
theorem walk{l:PySem.W.OpenLaw}{q:Program}{loose:List Str}{XP:(Str->Option Value)->Heap->Prop}{YP:World->Heap->Prop}{d:DefRec}{K:Params->zD}(hn:l.most=some 63)(hdf:d.params.defaults=[])
 (hY:∀(w:World) (h:Heap),YP w h->(K w.params).In h) (hm:∀ns:List Int,ns.length<=63->zhu [(true,.lst (ns.map D.int))]=some (.lf true (.bl true)))
 (F:∀(w:World) (mg:Str->Option Value) (fa:Addr) (h:Heap),(K w.params).In h->h.Ns mainGlobals mg->mg d.name=some (.ref fa)->
  ∃fd:FuncData,(∀(s:Shared) (u:Value),BindsTo s fd ⟨[u],[]⟩ [("_law_script",u)])/\∀base:Heap,(K w.params).In base->base.Ns mainGlobals mg->FnOk l.prog w (K w.params) mg base CX0 48 fa fd ["_law_script"] (spL (K w.params) zhu)):
 PySem.W.WalkO q loose XP YP l.row.toRowW d [] (λf vs=>PySem.call f vs):=
 L2.walk_of (n:=63) (k:=48) (x:="_law_script") (CX:=λ_=>CX0) (sp:=λw=>spL (K w.params) zhu) hn (by decide) hdf ⟨rfl,by decide,by decide,rfl⟩ hY F (λ_ _ a ns hl _ hS kd=>zwI (hm ns hl) hS) λ_ _ _ _ _ z=>z
local macro_rules | `(tactic| trivial)=>`(tactic| first|with_reducible first|assumption|exact Int.natCast_nonneg _|exact Nat.le_refl _|exact Int.le_refl _|exact rfl|exact leN (by assumption)|exact np1 (by assumption)|exact np2 (by assumption)|exact nq1 (by assumption)|exact nq2 (by assumption)|exact Int.natCast_pos.mpr (by assumption)|exact Nat.le_trans (by assumption) (by decide)|exact bgL _|exact bgU (by assumption)|exact mU (by assumption)|exact zI _|exact bL0 (by assumption)|exact bU0 (by assumption) (by assumption)|exact iL (by assumption)|exact iU (by assumption) (by assumption)|exact iC (by assumption)|exact iT (by assumption)|exact stL (by assumption)|exact stU (by assumption)|exact lnK (by assumption) (by assumption) (by assumption)|exact zi1 _|exact lnE (by assumption)|exact ltL (by assumption)|exact Int.toNat_of_nonneg (by assumption)|exact tS (by assumption) (by assumption)|exact b6 (by assumption)|exact Int.emod_nonneg _ (by decide)|exact Int.emod_lt_of_pos _ (by decide)|decide|omega)
section
variable{n m:Nat}{J T:TZ}{e:Int}{Ds:DD}{S:SS}
theorem znC(n8:n<=8)(hJ:Tab n n J)(he:InR n e):Flt (vL [(true,wO n m J e Ds S)]) (UnA n J e):=by
 refine Flt.imp (P:=UnA n J e/\True) (znJ (n:=4) (m:=1) (c:=ZZ) rfl ?_) ⟨λz=>z.1,λz=>⟨z,trivial⟩⟩
 have s1:zQ true 1 (f2 zq yM ixP) [sT (wO n m J e Ds S),none,none,none]=some (.nx [sT (wO n m J e Ds S),sT (vp J),none,none]):=yL (i:=1) (wL (za (i:=0) rfl) zb rfl) (zF rfl)
 have s2:zQ true 2 (f2 zq xR ixP) [sT (wO n m J e Ds S),sT (vp J),none,none]=some (.nx [sT (wO n m J e Ds S),sT (vp J),sI e,none]):=yL (i:=2) (wL (za (i:=0) rfl) zb rfl) (zF rfl)
 have k:=zjP (as:=[sT (wO n m J e Ds S),sT (vp J),sI e,none]) (g:=zT (fC .non)) (Q:=True) (zvE (S:=λx y z=>[sT (wO n m J e Ds S),sT (vp J),sI e,x]) (x:=none) (y:=none) (z:=none) (vj:=1) (ve:=2) hJ he (λ_ _ _=>rfl) (λ_ _ _=>rfl) (λ_ _ _=>rfl) (λ_ _ _ _=>rfl)) λ_ _ _=>zkB
 have hf:∀f:SF,vI (xU (aC (f2 zq yc ixP) aN) xW) (gN 3) f [sT (wO n m J e Ds S),sT (vp J),sI e,none]=forL (gN 3) f (wR 0 n) [sT (wO n m J e Ds S),sT (vp J),sI e,none]:=λf=>Yc (vq (j:=(n:Int)) (zM (zV (za (i:=0) rfl) zb rfl rfl) zY) (by trivial) (by trivial)) (by rw[QzG])
 have fin:∀x,Rt (zH (λas=>forL (gN 3) (sIf (WF (fT (f2 (f2 (f2 zy zU ixP) ym ixP) ym (zK .NotEq))) (fT (f2 (f2 (f2 zy ym ixP) zU ixP) ym (zK .NotEq)))) (zT (xm (dC (fC (.str "nothing")) (dC ym dN)))) sNx) (wR 0 n) as) (zT (fC .non)) [sT (wO n m J e Ds S),sT (vp J),sI e,none]) x->Rt (ZZ (Wy 4 [(true,wO n m J e Ds S)])) x:=λx h=>by
  refine zp s1 (zp s2 ?_)
  obtain⟨o,a,b⟩:=h
  refine⟨o, ?_,b⟩
  unfold zH at a ⊢
  rw[hf]
  exact a
 rcases k with⟨k,p⟩|⟨⟨es,k⟩,p⟩
 · exact .inl ⟨fin _ k,p⟩
 · exact .inr ⟨⟨es,fin _ k⟩,p⟩
theorem zmQ(n8:n<=8)(hJ:Tab n n J):Flt (vN [(true,wO n m J e Ds S)]) (As n J):=by
 have s1:zQ true 1 (f2 zq yc ixP) [sT (wO n m J e Ds S),none,none,none,none,none]=some (.nx [sT (wO n m J e Ds S),sI n,none,none,none,none]):=yL (i:=1) (wL (za (i:=0) rfl) zb rfl) (zF rfl)
 have s2:zQ true 2 (f2 zq yM ixP) [sT (wO n m J e Ds S),sI n,none,none,none,none]=some (.nx [sT (wO n m J e Ds S),sI n,sT (vp J),none,none,none]):=yL (i:=2) (wL (za (i:=0) rfl) zb rfl) (zF rfl)
 have k:=ztQ (S:=λx y z=>[sT (wO n m J e Ds S),sI n,sT (vp J),x,y,z]) (x:=none) (y:=none) (z:=none) (vj:=2) (vn:=1) n8 hJ (λ_ _ _=>rfl) (λ_ _ _=>rfl) (λ_ _ _=>rfl) (λ_ _ _=>rfl) (λ_ _ _=>rfl) (λ_ _ _ _=>rfl) (λ_ _ _ _=>rfl) (λ_ _ _ _=>rfl)
 rw[<-WR (v:=1) (n:=n) (g:=gN 3) (f:=zvI 2 1) (as:=[sT (wO n m J e Ds S),sI n,sT (vp J),none,none,none]) rfl (by trivial)]at k
 refine Flt.imp (P:=As n J/\True) (znJ (n:=6) (m:=1) (c:=Xq) rfl ?_) ⟨λz=>z.1,λz=>⟨z,trivial⟩⟩
 rcases zjP (g:=zT (fC .non)) (Q:=True) k λ_ _ _=>zkB with⟨k,p⟩|⟨⟨es,k⟩,p⟩
 · exact .inl ⟨zp s1 (zp s2 k),p⟩
 · exact .inr ⟨⟨es,zp s1 (zp s2 k)⟩,p⟩
theorem zrh{s:Str}(n8:n<=8)(m1:1<=m)(m6:m<=6)(hJ:Tab n n J)(hT:Tab m n T):Flt (vR [(true,wO n m J e Ds S),(true,.str s),(true,vp T)]) (Dn n m J T):=by
 have k:zfV (forL (gN 6) (vI (xU (aC yt aN) xW) (gN 7) (vI (xU Xc xW) (gN 8) (vI (xU (aC yt aN) xW) (gN 9) dfI))) (wR 0 n) (D10 n m J T e Ds S s none none none none)) (λas=>∃x y z w,as=D10 n m J T e Ds S s x y z w) (Dn n m J T):=by
  refine zbf (fr:=sNx) (λas=>∃x y z w,as=D10 n m J T e Ds S s x y z w) _ (λa ha as hI=>?_) ⟨_,_,_,_,rfl⟩
  obtain⟨x,y,z,w,rfl⟩:=hI
  refine⟨D10 n m J T e Ds S s (sI a) y z w,rfl, ?_⟩
  rw[WR (v:=4) (n:=m) rfl (by trivial)]
  have k:=zbf (v:=7) (n:=m) (fr:=sNx) (f:=vI (xU Xc xW) (gN 8) (vI (xU (aC yt aN) xW) (gN 9) dfI)) (as:=D10 n m J T e Ds S s (sI a) y z w) (λas=>∃y z w,as=D10 n m J T e Ds S s (sI a) y z w) (λi=>∀b,InR n b->∀k,InR m k->jAt T ((i+k)%m) (jAt J a b)=jAt J (jAt T i a) (jAt T k b)) (λi hi as hI=>by
   obtain⟨y,z,w,rfl⟩:=hI
   refine⟨D10 n m J T e Ds S s (sI a) (sI i) z w,rfl, ?_⟩
   rw[WR (v:=3) (n:=n) rfl (by trivial)]
   have k:=zbf (v:=8) (n:=n) (fr:=sNx) (f:=vI (xU (aC yt aN) xW) (gN 9) dfI) (as:=D10 n m J T e Ds S s (sI a) (sI i) z w) (λas=>∃z w,as=D10 n m J T e Ds S s (sI a) (sI i) z w) (λb=>∀k,InR m k->jAt T ((i+k)%m) (jAt J a b)=jAt J (jAt T i a) (jAt T k b)) (λb hb as hI=>by
    obtain⟨z,w,rfl⟩:=hI
    refine⟨D10 n m J T e Ds S s (sI a) (sI i) (sI b) w,rfl, ?_⟩
    rw[WR (v:=4) (n:=m) rfl (by trivial)]
    rcases df4 (s:=s) (w:=w) (e:=e) (Ds:=Ds) (S:=S) hJ hT m1 ha hi hb with⟨as',k1,⟨w',rfl⟩,k3⟩|k
    · exact .inl ⟨_,k1,⟨_,_,rfl⟩,k3⟩
    · exact .inr k) ⟨_,_,rfl⟩
   rcases k with⟨as',k1,⟨z',w',rfl⟩,k3⟩|k
   · exact .inl ⟨_,k1,⟨_,_,_,rfl⟩,k3⟩
   · exact .inr k) ⟨_,_,_,rfl⟩
  rcases k with⟨as',k1,⟨y',z',w',rfl⟩,k3⟩|k
  · exact .inl ⟨_,k1,⟨_,_,_,_,rfl⟩,k3⟩
  · exact .inr k
 rw[<-WR (v:=3) (n:=n) (as:=D10 n m J T e Ds S s none none none none) rfl (by trivial)]at k
 have s3:zQ true 3 (f2 zq yc ixP) [sT (wO n m J e Ds S),sT (.str s),sT (vp T),none,none,none,none,none,none,none]=some (.nx [sT (wO n m J e Ds S),sT (.str s),sT (vp T),sI n,none,none,none,none,none,none]):=yL (i:=3) (wL (za (i:=0) rfl) zb rfl) (zF rfl)
 have s4:zQ true 4 (f2 zq zX ixP) [sT (wO n m J e Ds S),sT (.str s),sT (vp T),sI n,none,none,none,none,none,none]=some (.nx [sT (wO n m J e Ds S),sT (.str s),sT (vp T),sI n,sI m,none,none,none,none,none]):=yL (i:=4) (wL (za (i:=0) rfl) zb rfl) (zF rfl)
 have s5:zQ true 5 (f2 zq yM ixP) [sT (wO n m J e Ds S),sT (.str s),sT (vp T),sI n,sI m,none,none,none,none,none]=some (.nx (D10 n m J T e Ds S s none none none none)):=yL (i:=5) (wL (za (i:=0) rfl) zb rfl) (zF rfl)
 refine Flt.imp (P:=Dn n m J T/\True) (znJ (n:=10) (m:=3) (c:=Ve) rfl ?_) ⟨λz=>z.1,λz=>⟨z,trivial⟩⟩
 rcases zjP (g:=zT (fC .non)) (Q:=True) k λ_ _ _=>zkB with⟨k,p⟩|⟨⟨es,k⟩,p⟩
 · exact .inl ⟨zp s3 (zp s4 (zp s5 k)),p⟩
 · exact .inr ⟨⟨es,zp s3 (zp s4 (zp s5 k))⟩,p⟩
theorem znm(A:Alg n m J e Ds)(L:LawA n m J e Ds):RE (Ym [(true,wO n m J e Ds S)]) .non:=by
 have n8:=A.n8
 have m1:=A.m1
 have s1:zQ true 1 (f2 zq xR ixP) [sT (wO n m J e Ds S),none,none,none,none]=some (.nx [sT (wO n m J e Ds S),sI e,none,none,none]):=yL (i:=1) (wL (za (i:=0) rfl) zb rfl) (zF rfl)
 obtain⟨as',hf,x,y,z,rfl⟩:=Ze (g:=gT 2 (gsC (gN 2) (gsC (gN 3) gsN))) (f:=(zH (sIf (fT (f2 (f2 (f2 ym yc ixP) zy ixP) zy (zK .NotEq))) (zT (xm (dC (fC (.str "empty")) (dC zU dN)))) sNx)
  (zH (zQ true 4 (zj (aC zq (aC zU Xc)) vR))
  (sIf (fT (f2 yt (fC .non) (zK .IsNot))) (zT yt) sNx))))
  (λi as=>∃(x y z:Option O),as=[sT (wO n m J e Ds S),sI e,x,y,z])
  ((Ds.map zaL).map λd=>(true,d)) 0 [sT (wO n m J e Ds S),sI e,none,none,none] (λi x as hx' hI=>by
    obtain⟨x,y,z,rfl⟩:=hI
    rw[zzZ,zzG]at hx'
    obtain⟨p,hp,rfl⟩:=zzV.mp hx'
    have mp:=zzY hp
    have hT:=A.ds p mp
    obtain⟨q1,_⟩:=zkU (as:=[sT (wO n m J e Ds S),sI e,sT (.str p.1),sT (vp p.2),z]) hT (w:=0) (v:=e) ⟨by trivial,by trivial⟩ ⟨A.e0,A.en⟩ (za (i:=3) rfl) (zb (x:=.int 0)) (za (i:=1) rfl)
    have t1:=zln q1 (za (i:=1) (x:=.int e) (s:=true) rfl)
    rw[(L.ld p mp).em,show(!(e==e))=false by simp]at t1
    have d:=(zrh (s:=p.1) (e:=e) (Ds:=Ds) (S:=S) n8 m1 A.m6 A.j hT).none (L.dn mp)
    exact⟨[sT (wO n m J e Ds S),sI e,sT (.str p.1),sT (vp p.2),z],rfl,_,yw (zL t1 rfl) (yw (Zb (p:=4) (yN (WD.e (za (i:=0) rfl)) (WD.e (za (i:=2) rfl)) (WD.e (za (i:=3) rfl)) d) (zF rfl)) (zL (yp (zV (za (i:=4) rfl) zb rfl rfl) rfl) rfl)),_,_,_,rfl⟩)
  ⟨_,_,_,rfl⟩
 exact yr rfl (zp s1 (zp (Yc (zxw (wL (za (i:=0) rfl) zb rfl)) hf) (zR (WD.e zb))))
theorem zpF(A:Alg n m J e Ds)(L:LawA n m J e Ds):RE (Yt [(true,wO n m J e Ds S)]) .non:=by
 have r1:=(znC (m:=m) (Ds:=Ds) (S:=S) A.n8 A.j ⟨A.e0,A.en⟩).none L.un
 have r2:=(zmQ (m:=m) (e:=e) (Ds:=Ds) (S:=S) A.n8 A.j).none L.as
 have r3:=znm (S:=S) A L
 have tt:WT (fT (f2 zy (fC .non) (zK .Is))) [sT (wO n m J e Ds S),sT .non] true:=yp (zV (za (i:=1) rfl) zb rfl rfl) rfl
 exact yr rfl (zp (Zb (p:=1) (ZK (WD.e (za (i:=0) rfl)) r1) (zF rfl)) (zp (Yd tt (Zb (p:=1) (ZK (WD.e (za (i:=0) rfl)) r2) (zF rfl))) (zp (Yd tt (Zb (p:=1) (ZK (WD.e (za (i:=0) rfl)) r3) (zF rfl))) (zR (WD.e (za (i:=1) rfl))))))
end
open L2 (zct)
abbrev kvW(p:Str×TZ):L2.Key×D:=(Sum.inr p.1,vG p.2)
abbrev kvS(p:Str×List Int):L2.Key×D:=(Sum.inr p.1,YK p.2)
abbrev zkr:List Str:=["size","around","table","neutral","waits","holders"]
abbrev zgf(n m:Nat)(J:TZ)(e:Int)(Ds:DD)(S:SS):D:=.ob "Ways" zkr [.int n,.int m,vG J,.int e,.dct (Ds.map kvW),.dct (S.map kvS)]
theorem zoK{α:Type}{f:EF}{as:AS}{g:α->D}{l:List α}(h:WE f as (.lst (l.map g))):zcu f as=some (l.map λa=>(true,g a),as):=by
 have:=zuH h
 rw[zzZ]at this
 exact this
theorem zoZ{T:TZ}(hl:T.length<=1000):RE (zbp [(true,vp T)]) (vG T):=
 yr rfl (zR (zco (Wd (h:=YK) (it:=λr=>(true,zO r)) T (zoK (WD.e (za (i:=0) rfl))) (by omega) λr _=>⟨[sT (zO r)],rfl,zco (WD.e (za (i:=0) rfl)) rfl⟩) rfl))
section
variable{n m:Nat}{J:TZ}{e:Int}{Ds:DD}{S:SS}
theorem zre(A:Alg n m J e Ds)(L:LawA n m J e Ds):RE (vA [(true,wO n m J e Ds S)]) .non:=by
 have h:Wr (Wy 2 [(true,wO n m J e Ds S)])=some (.nx [sT (wO n m J e Ds S),sT .non]):=yw (Zb (p:=1) (ZK (WD.e (za (i:=0) rfl)) (zpF A L)) (zF rfl)) (zL (yp (zV (za (i:=1) rfl) zb rfl rfl) rfl) rfl)
 refine⟨.lf true .non, ?_,rfl,rfl⟩
 unfold vA fnR
 rw[if_pos (by rfl),h];rfl
theorem ztL(A:Alg n m J e Ds)(L:LawA n m J e Ds)(sl:S.length<=3)(sn:(S.map (·.1)).Nodup):RE (Z0 "Ways" [(true,wO n m J e Ds S)]) (zgf n m J e Ds S):=by
 have dl:=A.dl
 have n8:=A.n8
 have m6:=A.m6
 have w1:∀o,WD zy [o,sT (wO n m J e Ds S)] true (wO n m J e Ds S):=λo=>za (i:=1) rfl
 have h4:∀o,WE (fP (aC (wG (zcu (f2 zy XD ixP)) [none,none] (gT 2 (gsC Wu (gsC (gN 1) gsN))) YM (xm (dC zq (dC (zj vY zbp) dN)))) aN) zfl) [o,sT (wO n m J e Ds S)] (.dct (Ds.map kvW)):=λo=>
  zxL (kf:=λp:Str×TZ=>p.1) (vf:=λp=>vG p.2) A.nd (Wd (h:=λp:Str×TZ=>.tup [.str p.1,vG p.2]) (it:=λp=>(true,zaL p)) Ds (zoK (g:=zaL) (zbv (WD.e (w1 o)) (WD.e zb) rfl)) (by omega) λp mp=>⟨[sT (.str p.1),sT (vp p.2)],rfl,wB (WD.e (za (i:=0) rfl)) (ZK (WD.e (za (i:=1) rfl)) (zoZ (by rw[(A.ds p mp).1];omega)))⟩)
 have h5:∀o,WE (fP (aC (wG (zcu (f2 zy zdO ixP)) [none,none] (gT 2 (gsC Wu (gsC (gN 1) gsN))) YM (xm (dC zq (dC (fP vY tupP) dN)))) aN) zfl) [o,sT (wO n m J e Ds S)] (.dct (S.map kvS)):=λo=>
  zxL (kf:=λp:Str×List Int=>p.1) (vf:=λp=>YK p.2) sn (Wd (h:=λp:Str×List Int=>.tup [.str p.1,YK p.2]) (it:=λp=>(true,zgD p)) S (zoK (g:=zgD) (zbv (WD.e (w1 o)) (WD.e zb) rfl)) (by omega) λp mp=>⟨[sT (.str p.1),sT (zO p.2)],rfl,wB (WD.e (za (i:=0) rfl)) (zco (WD.e (za (i:=1) rfl)) rfl)⟩)
 have h:Xh (zcU 2 (ob0 "Ways"::[(true,wO n m J e Ds S)].map lfD))=some [some (.nd (.ob "Ways" zkr) [.lf true (.int n),.lf true (.int m),.lf true (vG J),.lf true (.int e),.lf true (.dct (Ds.map kvW)),.lf true (.dct (S.map kvS))]),sT (wO n m J e Ds S)]:=
  wJ (zqR (ZK (WD.e (w1 _)) (zre A L))) (wJ (wX (c:="Ways") (i:=0) (ns:=[]) (os:=[]) (zbv (WD.e (w1 _)) (WD.e zb) rfl) rfl (by decide +kernel) (by decide +kernel) (by decide)) (wJ (wX (c:="Ways") (i:=0) (zbv (WD.e (w1 _)) (WD.e zb) rfl) rfl (by decide +kernel) (by decide +kernel) (by decide)) (wJ (wX (c:="Ways") (i:=0) (ZK (zbv (WD.e (w1 _)) (WD.e zb) rfl) (zoZ (by rw[A.j.1];omega))) rfl (by decide +kernel) (by decide +kernel) (by decide)) (wJ (wX (c:="Ways") (i:=0) (zbv (WD.e (w1 _)) (WD.e zb) rfl) rfl (by decide +kernel) (by decide +kernel) (by decide)) (wJ (wX (c:="Ways") (i:=0) (h4 _) rfl (by decide +kernel) (by decide +kernel) (by decide)) (wX (c:="Ways") (i:=0) (h5 _) rfl (by decide +kernel) (by decide +kernel) (by decide)))))))
 refine⟨.nd (.ob "Ways" zkr) [.lf true (.int n),.lf true (.int m),.lf true (vG J),.lf true (.int e),.lf true (.dct (Ds.map kvW)),.lf true (.dct (S.map kvS))], ?_,rfl,rfl⟩
 unfold Z0 fnI
 rw[if_pos (by rfl),h];rfl
theorem zpv:RE (Wl [(true,zgf n m J e Ds S)]) (.int e):=yr rfl (zR (WD.e (zpU (c:="Ways") (ns:=zkr) rfl (by decide +kernel) rfl)))
theorem zrN{a b:Int}(hJ:Tab n n J)(ha:InR n a)(hb:InR n b):RE (zbN [(true,zgf n m J e Ds S),(true,.int a),(true,.int b)]) (.int (jAt J a b)):=
 yr rfl (zR (WD.e (zro hJ ha hb (zpU (c:="Ways") (ns:=zkr) rfl (by decide +kernel) rfl) (za (i:=1) rfl) (za (i:=2) rfl))))
end
structure Cx where
 n:Nat
 m:Nat
 J:TZ
 e:Int
 Ds:DD
 S:SS
abbrev Cx.w(c:Cx):D:=zgf c.n c.m c.J c.e c.Ds c.S
abbrev Cx.g(c:Cx):D:=wO c.n c.m c.J c.e c.Ds c.S
abbrev Cx.h(c:Cx):List Int->Int:=jnA c.J c.e
abbrev Cx.In(c:Cx)(r:List Int):Prop:=∀x ∈ r,InR c.n x
structure Cx.Ok(c:Cx):Prop where
 A:Alg c.n c.m c.J c.e c.Ds
 L:LawA c.n c.m c.J c.e c.Ds
structure Cx.W(c:Cx)(T:TZ):Prop where
 t:Tab c.m c.n T
 l:LD c.n c.m (jAt c.J) c.e (jAt T)
def wtD:Option TZ->D
 |none=>.non
 |some T=>vG T
def Cx.wok(c:Cx):Option TZ->Prop
 |none=>True
 |some T=>c.W T
def Cx.ap(c:Cx):Option TZ->List Int->List Int
 |none,r=>r
 |some T,r=>r.map (jAt T (1%(c.m:Int)))
def tn:Bool->List Int->List Int
 |false,r=>r
 |true,r=>r.reverse
abbrev knN:List Str:=["whole","back","wait","turn","one","other","deep","size"]
abbrev kn(w b:Int)(q:D)(t:Bool)(x y:D)(p s:Int):D:=.ob "Knot" knN [.int w,.int b,q,.bl t,x,y,.int p,.int s]
inductive TK(c:Cx):D->List Int->Nat->Prop
 |lf (v:Int) (t:Bool):InR c.n v->TK c (kn v v .non t .non .non 0 1) [v] 0
 |nd (w:Option TZ) (t:Bool) {x y:D}{r s:List Int}{p q:Nat}{R:List Int}:TK c x r p->TK c y s q->p<=q+1->q<=p+1->c.wok w->R=tn t (c.ap w (r++s))->TK c (kn (c.h R) (c.h R.reverse) (wtD w) t x y ((1+max p q:Nat):Int) (R.length:Int)) R (1+max p q)
section
variable{c:Cx}{d:D}{R:List Int}{p:Nat}
theorem zbh(w:Option TZ)(r:List Int):(c.ap w r).length=r.length:=by cases w with
 |none=>rfl
 |some T=>exact zS ..
theorem zkK(t:Bool)(r:List Int):(tn t r).length=r.length:=by cases t with
 |false=>rfl
 |true=>exact List.length_reverse ..
theorem zng(w:Option TZ)(r s:List Int):c.ap w (r++s)=c.ap w r++c.ap w s:=by cases w with
 |none=>rfl
 |some T=>exact QzK ..
theorem zuG(w:Option TZ)(t:Bool)(r:List Int):c.ap w (tn t r)=tn t (c.ap w r):=by cases w with
 |none=>rfl
 |some T=>cases t with
  |false=>rfl
  |true=>exact List.map_reverse ..
theorem zxM(t u:Bool)(r:List Int):tn t (tn u r)=tn (u != t) r:=by cases t<;>cases u<;>first|rfl|exact List.reverse_reverse r
theorem Cx.Ok.m1(h:c.Ok):InR c.m (1%(c.m:Int)):=zcx h.A.m1
theorem zuK(h:c.Ok){w:Option TZ}(hw:c.wok w){r:List Int}(k:c.In r):c.In (c.ap w r):=by cases w with
 |none=>exact k
 |some T=>
  intro x mx
  obtain⟨z,mz,rfl⟩:=QyB.mp mx
  exact hw.l.cl _ _ h.m1 (k z mz)
theorem zuQ{t:Bool}{r:List Int}(k:c.In r):c.In (tn t r):=by cases t with
 |false=>exact k
 |true=>exact λx mx=>k x (List.mem_reverse.mp mx)
theorem zkv{r s:List Int}(k:c.In r)(l:c.In s):c.In (r++s):=λx mx=>(zzK.mp mx).elim (k x) (l x)
theorem TK.in(h:c.Ok):TK c d R p->c.In R:=λk=>by
 induction k with
 |lf v t hv=>exact λx mx=>by rcases zzA.mp mx with rfl|mx;exact hv;exact nomatch mx
 |nd w t a b _ _ hw e i j=>subst e;exact zuQ (zuK h hw (zkv i j))
theorem TK.rev(h:c.Ok)(k:TK c d R p):c.In R.reverse:=zuQ (t:=true) (k.in h)
def fb:Nat->Nat
 |0=>1
 |1=>2
 |k+2=>fb (k+1)+fb k
theorem zxn:∀k,fb k<=fb (k+1)
 |0=>by decide
 |k+1=>by show _<=fb (k+1)+fb k;omega
theorem zuz{a b:Nat}(h:a<=b):fb a<=fb b:=by
 induction h with
 |refl=>exact zzL _
 |step _ i=>exact zzM i (zxn _)
theorem TK.fb(k:TK c d R p):fb p<=R.length:=by
 induction k with
 |lf=>exact zzL _
 | @nd w t x y r s p q R a b h1 h2 hw e i j=>
  subst e
  rw[zkK,zbh,zzH]
  by_cases h:q<=p
  · rw[Nat.max_eq_left h,Nat.add_comm 1 p]
    cases p with
    |zero=>rw[show q=0 by omega]at j;exact Nat.add_le_add i j
    |succ p=>
     have:G33.fb p<=G33.fb q:=zuz (by omega)
     show G33.fb (p+1)+G33.fb p<=_
     omega
  · rw[Nat.max_eq_right (by omega),Nat.add_comm 1 q,show q=p+1 by omega]
    rw[show q=p+1 by omega]at j
    show G33.fb (p+1)+G33.fb p<=_
    omega
theorem TK.lt(k:TK c d R p)(hl:R.length<=1000):p<20:=by
 refine Nat.lt_of_not_le λh=>?_
 have h1:=k.fb
 have h2:=zuz h
 have:G33.fb 20=17711:=by decide
 omega
theorem TK.gt(k:TK c d R p):∃q t x y,d=kn (c.h R) (c.h R.reverse) q t x y p R.length:=by
 cases k with
 |lf v t _=>exact⟨_,_,_,_,rfl⟩
 |nd w t=>exact⟨_,_,_,_,rfl⟩
theorem zac{a:EF}{as:AS}{w b:Int}{q x y:D}{t:Bool}{p s:Int}{cs:List Str}{f:Str}{v:D}(h:WD a as true (kn w b q t x y p s))(hc:("Knot":Str) ∈ cs)(hl:lkp knN [.int w,.int b,q,.bl t,x,y,.int p,.int s] f=some v):WD (f1 a (yu cs f)) as true v:=by
 have:=zob h hc hl
 rw[QzB]at this;exact this
variable{a:EF}{as:AS}
theorem TK.whole(k:TK c d R p)(ha:WD a as true d):WD (f1 a (yu wY "whole")) as true (.int (c.h R)):=by
 obtain⟨q,t,x,y,rfl⟩:=k.gt
 exact zac ha (by decide +kernel) rfl
theorem TK.back(k:TK c d R p)(ha:WD a as true d):WD (f1 a (yu zad "back")) as true (.int (c.h R.reverse)):=by
 obtain⟨q,t,x,y,rfl⟩:=k.gt
 exact zac ha (by decide +kernel) rfl
theorem TK.deep(k:TK c d R p)(ha:WD a as true d):WD (f1 a (yu yR "deep")) as true (.int p):=by
 obtain⟨q,t,x,y,rfl⟩:=k.gt
 exact zac ha (by decide +kernel) rfl
theorem TK.size(k:TK c d R p)(ha:WD a as true d):WD (f1 a (yu vd "size")) as true (.int R.length):=by
 obtain⟨q,t,x,y,rfl⟩:=k.gt
 exact zac ha (by decide +kernel) rfl
theorem TK.isN(k:TK c d R p)(ha:WD a as true d):WT (fT (f2 a (fC .non) (zK .Is))) as false:=by
 obtain⟨q,t,x,y,rfl⟩:=k.gt
 exact yp (zV (z:=.bl false) ha zb rfl rfl) rfl
theorem TK.isS(k:TK c d R p)(ha:WD a as true d):WT (fT (f2 a (fC .non) (zK .IsNot))) as true:=by
 obtain⟨q,t,x,y,rfl⟩:=k.gt
 exact yp (zV (z:=.bl true) ha zb rfl rfl) rfl
theorem TK.zero(k:TK c d R p)(ha:WD a as true d):WT (fT (f2 (f1 a (yu yR "deep")) yc (zK .Eq))) as (decide (p=0)):=yp (YJ (c:=decide (p=0)) (k.deep ha) zb (by
 show some ((p:Int)==0)=_
 by_cases h:p=0
 · subst h;rfl
 · rw[QzE h,beq_eq_false_iff_ne.mpr (by omega)])) rfl
end
section
variable{n m:Nat}{J:TZ}{e:Int}{Ds:DD}{S:SS}
theorem zfd{W1 W2:TZ}{x:D}(h1:Tab m n W1)(h2:Tab m n W2)(m6:m<=6)(n8:n<=8):RE (Vm [(true,x),(true,vG W1),(true,vG W2)]) (vG (bh W1 W2)):=by
 have hz:zjy (aC zy wA) [sT x,sT (vG W1),sT (vG W2)]=some ((W1.zip W2).map λq=>(true,.tup [YK q.1,YK q.2]),[sT x,sT (vG W1),sT (vG W2)]):=by
  have:=zqF (as:=[sT x,sT (vG W1),sT (vG W2)]) (WD.e (za (i:=1) rfl)) (WD.e (za (i:=2) rfl)) (xs:=W1.map YK) (ys:=W2.map YK) (.t _) (.t _)
  rw[this,List.zip_map,zzZ];rfl
 have:=Wd (as:=[sT x,sT (vG W1),sT (vG W2)]) (h:=λq:List Int×List Int=>YK (q.1.map (rAt q.2))) (it:=λq=>(true,.tup [YK q.1,YK q.2])) (fi:=zjy (aC zy wA)) (cap:=[none,none]) (gg:=gT 2 (gsC Wu (gsC (gN 1) gsN))) (fe:=fP (aC (wG (zcu zq) [none,some 1] Wu YM (f2 zy zq ixP)) aN) tupP) (W1.zip W2) hz (by rw[List.length_zip,h1.1];omega) (λq mq=>by
  obtain⟨q1,q2⟩:=List.of_mem_zip mq
  have r1:=h1.2 _ q1
  have r2:=h2.2 _ q2
  refine⟨[sT (YK q.1),sT (YK q.2)],rfl,zco (Wd (h:=λa=>D.int (rAt q.2 a)) (it:=λa=>(true,D.int a)) q.1 ?_ (by rw[r1.1];omega) λa ma=>⟨[sI a,sT (YK q.2)],rfl,WD.e (zV (za (i:=1) rfl) (za (i:=0) rfl) (zxr r2 (r1.2 a ma)) rfl)⟩) ?_⟩
  · have:=zwQ (as:=[sT (YK q.1),sT (YK q.2)]) (WD.e (za (i:=0) rfl)) (ds:=q.1.map D.int)
    rw[zzZ]at this
    exact this
  · show some (R0.im (.tup (q.1.map λa=>D.int (rAt q.2 a))))=some (R0.im (.tup ((q.1.map (rAt q.2)).map D.int)))
    rw[zzZ];rfl)
 refine yr rfl (zR (zco this ?_))
 show some (R0.im (.tup ((W1.zip W2).map λq:List Int×List Int=>YK (q.1.map (rAt q.2)))))=some (R0.im (.tup (((W1.zip W2).map λp=>p.1.map (rAt p.2)).map YK)))
 rw[zzZ];rfl
theorem zon{W:TZ}{v k:Int}(m1:1<=m)(h1:Tab m n W)(hv:InR n v):zbV [(true,zgf n m J e Ds S),(true,vG W),(true,.int v),(true,.int k)]=sI (jAt W (k%m) v):=by
 have wa:WD (f1 zq (yu X4 "around")) [sT (zgf n m J e Ds S),sT (vG W),sI v,sI k] true (.int m):=zpU (c:="Ways") (ns:=zkr) rfl (by decide +kernel) rfl
 exact Va rfl (Vd (zro h1 (zcx m1) hv (za (i:=1) rfl) (yF (za (i:=3) rfl) wa (by omega)) (za (i:=2) rfl)))
end
theorem zgU{a b c d e f:EF}{as:AS}{x y z u v w o:D}{g:List (Bool×D)->Option O}(ha:WE a as x)(hb:WE b as y)(hc:WE c as z)(hd:WE d as u)(he:WE e as v)(hf:WE f as w)(hg:RE (g [(true,x),(true,y),(true,z),(true,u),(true,v),(true,w)]) o):WE (zj (aC a (aC b (aC c (aC d (aC e (aC f aN)))))) g) as o:=by
 obtain⟨o,h1,h2⟩:=hg
 exact⟨o,XF (ZJ ha (ZJ hb (ZJ hc (ZJ hd (ZJ he (ZJ hf zY)))))) (by show g [(yd x||true,x),(yd y||true,y),(yd z||true,z),(yd u||true,u),(yd v||true,v),(yd w||true,w)]=_;simp only[QzB];exact h1),h2⟩
abbrev k7(ns:List Str)(os:List O)(w b:Int)(a:D)(t:Bool)(x y:D):AS:=[some (.nd (.ob "Knot" ns) os),sI w,sI b,sT a,sT (.bl t),sT x,sT y]
theorem zuN{w b:Int}{a x y:D}{t:Bool}{p s:Int}(hd:∀ns os,WE (fIf (fT (f2 xf (fC .non) (zK .Is))) yc (f2 zX (fP (aC (f1 xf (yu yR "deep")) (aC (f1 wM (yu yR "deep")) aN)) zny) zE)) (k7 ns os w b a t x y) (.int p))
 (hz:∀ns os,WE (fIf (fT (f2 xf (fC .non) (zK .Is))) zX (f2 (f1 xf (yu vd "size")) (f1 wM (yu vd "size")) zE)) (k7 ns os w b a t x y) (.int s)):
 RE (xg "Knot" [(true,.int w),(true,.int b),(true,a),(true,.bl t),(true,x),(true,y)]) (kn w b a t x y p s):=by
 have v:∀(i:Nat) (d:D) ns os,(k7 ns os w b a t x y)[i]? = some (sT d)->WE (fV i) (k7 ns os w b a t x y) d:=λi d ns os h=>WD.e (za h)
 have h:Xr (zcU 7 (ob0 "Knot"::[(true,.int w),(true,.int b),(true,a),(true,.bl t),(true,x),(true,y)].map lfD))=some (k7 knN [.lf true (.int w),.lf true (.int b),.lf true a,.lf true (.bl t),.lf true x,.lf true y,.lf true (.int p),.lf true (.int s)] w b a t x y):=
  wJ (wX (c:="Knot") (i:=0) (ns:=[]) (os:=[]) (v 1 _ _ _ rfl) rfl (by decide +kernel) (by decide +kernel) (by decide))
  (wJ (wX (c:="Knot") (i:=0) (v 2 _ _ _ rfl) rfl (by decide +kernel) (by decide +kernel) (by decide))
  (wJ (wX (c:="Knot") (i:=0) (v 3 _ _ _ rfl) rfl (by decide +kernel) (by decide +kernel) (by decide))
  (wJ (wX (c:="Knot") (i:=0) (v 4 _ _ _ rfl) rfl (by decide +kernel) (by decide +kernel) (by decide))
  (wJ (wX (c:="Knot") (i:=0) (v 5 _ _ _ rfl) rfl (by decide +kernel) (by decide +kernel) (by decide))
  (wJ (wX (c:="Knot") (i:=0) (v 6 _ _ _ rfl) rfl (by decide +kernel) (by decide +kernel) (by decide))
  (wJ (wX (c:="Knot") (i:=0) (hd _ _) rfl (by decide +kernel) (by decide +kernel) (by decide))
  (wX (c:="Knot") (i:=0) (hz _ _) rfl (by decide +kernel) (by decide +kernel) (by decide))))))))
 refine⟨.nd (.ob "Knot" knN) [.lf true (.int w),.lf true (.int b),.lf true a,.lf true (.bl t),.lf true x,.lf true y,.lf true (.int p),.lf true (.int s)], ?_,rfl,rfl⟩
 unfold xg fnI
 rw[if_pos (by rfl),h];rfl
theorem zlU{w b:Int}{a:D}{t:Bool}:RE (xg "Knot" [(true,.int w),(true,.int b),(true,a),(true,.bl t),(true,.non),(true,.non)]) (kn w b a t .non .non 0 1):=
 zuN (λ_ _=>zhf (yp (zV (za (i:=5) rfl) zb rfl rfl) rfl) (WD.e zb)) λ_ _=>zhf (yp (zV (za (i:=5) rfl) zb rfl rfl) rfl) (WD.e zb)
section
variable{c:Cx}{x y d:D}{r s R:List Int}{p q:Nat}
theorem zgN{w b:Int}{a:D}{t:Bool}(k:TK c x r p)(l:TK c y s q):RE (xg "Knot" [(true,.int w),(true,.int b),(true,a),(true,.bl t),(true,x),(true,y)]) (kn w b a t x y ((1+max p q:Nat):Int) ((r.length+s.length:Nat):Int)):=by
 have v5:∀ns os,WD xf (k7 ns os w b a t x y) true x:=λ_ _=>za (i:=5) rfl
 have v6:∀ns os,WD wM (k7 ns os w b a t x y) true y:=λ_ _=>za (i:=6) rfl
 refine zuN (λns os=>zhl (k.isN (v5 _ _)) ?_) λns os=>zhl (k.isN (v5 _ _)) ?_
 · have h:=yC (zb (x:=.int 1)) (xM (x:=.int (if(q:Int) > p then(q:Int)else p)) (g:=zny) (zM (k.deep (v5 ns os)) (zM (l.deep (v6 ns os)) zY)) rfl rfl)
   rw[show((1+max p q:Nat):Int)=1+(if(q:Int) > p then(q:Int)else p) by split<;>omega]
   exact WD.e h
 · have h:=yC (k.size (v5 ns os)) (l.size (v6 ns os))
   rw[show((r.length+s.length:Nat):Int)=(r.length:Int)+s.length by omega]
   exact WD.e h
theorem zoP{v:Int}:RE (YQ [(true,.int v)]) (kn v v .non false .non .non 0 1):=
 yr rfl (zR (zgU (WD.e (za (i:=0) rfl)) (WD.e (za (i:=0) rfl)) (WD.e zb) (WD.e zb) (WD.e zb) (WD.e zb) zlU))
theorem TK.mk(h:c.Ok)(w:Option TZ)(t:Bool)(hw:c.wok w)(k:TK c x r p)(l:TK c y s q)(h1:p<=q+1)(h2:q<=p+1){u v:Int}(hu:u=c.h (tn t (c.ap w (r++s))))(hv:v=c.h (tn t (c.ap w (r++s))).reverse):TK c (kn u v (wtD w) t x y ((1+max p q:Nat):Int) ((r.length+s.length:Nat):Int)) (tn t (c.ap w (r++s))) (1+max p q):=by
 have:=TK.nd w t k l h1 h2 hw rfl
 rw[zkK,zbh,zzH]at this
 rw[hu,hv];exact this
theorem Zv(h:c.Ok)(k:TK c x r p)(l:TK c y s q)(h1:p<=q+1)(h2:q<=p+1):∃d,RE (yo [(true,c.w),(true,x),(true,y)]) d/\TK c d (r++s) (1+max p q):=by
 have v1:WD zy [sT c.w,sT x,sT y] true x:=za (i:=1) rfl
 have v2:WD zU [sT c.w,sT x,sT y] true y:=za (i:=2) rfl
 have wy:WD zq [sT c.w,sT x,sT y] true c.w:=za (i:=0) rfl
 have w1:=zlD (tbl:=zeb) (m:="join") wy (by decide +kernel) rfl (WD.e (k.whole v1)) (WD.e (l.whole v2)) (zrN (m:=c.m) (e:=c.e) (Ds:=c.Ds) (S:=c.S) h.A.j (Vf h.L.lj (k.in h)) (Vf h.L.lj (l.in h)))
 have w2:=zlD (tbl:=zeb) (m:="join") wy (by decide +kernel) rfl (WD.e (l.back v2)) (WD.e (k.back v1)) (zrN (m:=c.m) (e:=c.e) (Ds:=c.Ds) (S:=c.S) h.A.j (Vf h.L.lj (l.rev h)) (Vf h.L.lj (k.rev h)))
 refine⟨_,yr rfl (zR (zgU w1 w2 (WD.e zb) (WD.e zb) (WD.e v1) (WD.e v2) (zgN k l))),TK.mk h none false trivial k l h1 h2 ?_ ?_⟩
 · exact(zqH h.L.lj (k.in h) (l.in h)).symm
 · show _=c.h (r++s).reverse
   rw[List.reverse_append]
   exact(zqH h.L.lj (l.rev h) (k.rev h)).symm
theorem zkx(h:c.Ok){w u:Option TZ}(hw:c.wok w)(hu:c.wok u):∃v,RE (wD [(true,c.w),(true,wtD w),(true,wtD u)]) (wtD v)/\c.wok v/\∀r,c.In r->c.ap v r=c.ap u (c.ap w r):=by
 cases w with
 |none=>exact⟨u,yr rfl (yD (yU (yp (zV (za (i:=1) rfl) zb rfl rfl) rfl) (zR (WD.e (za (i:=2) rfl))))),hu,λ_ _=>rfl⟩
 |some A=>
  have t1:∀z,WT (fT (f2 zy (fC .non) (zK .Is))) [sT c.w,sT (vG A),z] false:=λz=>yp (zV (z:=.bl false) (za (i:=1) rfl) zb rfl rfl) rfl
  cases u with
  |none=>exact⟨some A,yr rfl (zp (zL (t1 _) rfl) (yD (yU (yp (zV (za (i:=2) rfl) zb rfl rfl) rfl) (zR (WD.e (za (i:=1) rfl)))))),hw,λ_ _=>rfl⟩
  |some B=>
   have m1:=h.m1
   have at':∀{i a:Int},InR c.m i->InR c.n a->jAt (bh A B) i a=jAt B i (jAt A i a):=λhi ha=>zxS hw.t hu.t hi ha
   refine⟨some (bh A B),yr rfl (zp (zL (t1 _) rfl) (zp (zL (yp (zV (z:=.bl false) (za (i:=2) rfl) zb rfl rfl) rfl) rfl) (zR (zlD (za (i:=0) rfl) (by decide +kernel) rfl (WD.e (za (i:=1) rfl)) (WD.e (za (i:=2) rfl)) (zfd hw.t hu.t h.A.m6 h.A.n8))))),⟨zqa hw.t hu.t, ?_⟩,λr hr=>?_⟩
   · have he:=h.L.lj.ce
     have h0:InR c.m 0:=⟨Int.le_refl _,Int.natCast_pos.mpr h.A.m1⟩
     refine⟨λi a hi ha=>?_, ?_,λa i b k ha hi hb hk=>?_⟩
     · rw[at' hi ha];exact hu.l.cl _ _ hi (hw.l.cl _ _ hi ha)
     · rw[at' h0 he,hw.l.em,hu.l.em]
     · rw[at' (zcx h.A.m1) (h.L.lj.cl _ _ ha hb),at' hi ha,at' hk hb,hw.l.dn a i b k ha hi hb hk,hu.l.dn _ i _ k (hw.l.cl _ _ hi ha) hi (hw.l.cl _ _ hk hb) hk]
   · show r.map _=(r.map _).map _
     rw[zzZ]
     exact List.map_congr_left λa ma=>at' m1 (hr a ma)
theorem zkF(h:c.Ok){T:TZ}(hT:c.W T)(k:TK c d R p):∃d',RE (yE [(true,c.w),(true,d),(true,vG T)]) d'/\TK c d' (c.ap (some T) R) p:=by
 have v1:∀a b,WD zy [sT c.w,sT d,sT (vG T),a,b] true d:=λ_ _=>za (i:=1) rfl
 have mk:∀{v:Int}{j:EF}{a b:Option O},InR c.n v->WE j [sT c.w,sT d,sT (vG T),a,b] (.int v)->WE (Z9 zcn "made" zq (aC zU (aC j (aC (f1 zy (yu vd "size")) aN)))) [sT c.w,sT d,sT (vG T),a,b] (.int (jAt T ((R.length:Int)%c.m) v)):=λhv hj=>
  zuR (za (i:=0) rfl) (by decide +kernel) rfl (WD.e (za (i:=2) rfl)) hj (WD.e (k.size (v1 _ _))) (RE.lf (zon h.A.m1 hT.t hv))
 have e1:=zjY (T:=T) h.A.m1 h.L.lj hT.l R (k.in h)
 have e2:=zjY (T:=T) h.A.m1 h.L.lj hT.l R.reverse (k.rev h)
 rw[List.length_reverse]at e2
 have s3:=Zb (p:=3) (mk (a:=none) (b:=none) (Vf h.L.lj (k.in h)) (WD.e (k.whole (v1 _ _)))) (zF rfl)
 rw[<-e1]at s3
 have s4:=Zb (p:=4) (mk (a:=sI (jnA c.J c.e (R.map (jAt T (1%(c.m:Int)))))) (b:=none) (Vf h.L.lj (k.rev h)) (WD.e (k.back (v1 _ _)))) (zF rfl)
 rw[<-e2]at s4
 have t0:=k.zero (v1 (sI (jnA c.J c.e (R.map (jAt T (1%(c.m:Int)))))) none)
 cases k with
 |lf v t hv=>
  exact⟨_,yr rfl (zp (zL ((TK.lf v t hv).isN (za (i:=1) rfl)) rfl) (zp s3 (yD (yU t0 (zR (ZK (WD.e (za (i:=3) rfl)) zoP)))))),TK.lf _ false (hT.l.cl _ _ h.m1 hv)⟩
 | @nd w t x y r s p q R k l h1 h2 hw e=>
  obtain⟨v,b1,b2,b3⟩:=zkx h hw (show c.wok (some T)from hT)
  have kk:=TK.nd w t k l h1 h2 hw e
  rw[QzE (by omega)]at t0
  have f:∀{cs:List Str}{n:Str}{z:D}(a b:Option O),("Knot":Str) ∈ cs->lkp knN [.int (c.h R),.int (c.h R.reverse),wtD w,.bl t,x,y,.int ((1+max p q:Nat):Int),.int (R.length:Int)] n=some z->WE (f1 zy (yu cs n)) [sT c.w,sT (kn (c.h R) (c.h R.reverse) (wtD w) t x y ((1+max p q:Nat):Int) (R.length:Int)),sT (vG T),a,b] z:=λa b hc hl=>WD.e (zac (v1 a b) hc hl)
  have eR:c.ap (some T) R=tn t (c.ap v (r++s)):=by rw[e,zuG,b3 _ (zkv (k.in h) (l.in h))]
  refine⟨_,yr rfl (zp (zL (kk.isN (za (i:=1) rfl)) rfl) (zp s3 (zp (zL t0 rfl) (zp s4 (zR (zgU (WD.e (za (i:=3) rfl)) (WD.e (za (i:=4) rfl)) (yN (WD.e (za (i:=0) rfl)) (f _ _ (by decide +kernel) rfl) (WD.e (za (i:=2) rfl)) b1) (f _ _ (by decide +kernel) rfl) (f _ _ (by decide +kernel) rfl) (f _ _ (by decide +kernel) rfl) (zgN k l))))))), ?_⟩
  have:=TK.mk h v t b2 k l h1 h2 (u:=jnA c.J c.e (R.map (jAt T (1%(c.m:Int))))) (v:=jnA c.J c.e (R.reverse.map (jAt T (1%(c.m:Int))))) (by rw[<-eR];rfl) (by rw[<-eR,List.map_reverse];rfl)
  rw[<-eR]at this
  exact this
theorem zfc(h:c.Ok)(k:TK c d R p):∃d',RE (xG [(true,c.w),(true,d)]) d'/\TK c d' R.reverse p:=by
 have v1:WD zy [sT c.w,sT d] true d:=za (i:=1) rfl
 have w1:=WD.e (k.back v1)
 have w2:=WD.e (k.whole v1)
 have n0:=k.isN v1
 cases k with
 |lf v t hv=>
  exact⟨_,yr rfl (zp (zL n0 rfl) (zR (zgU w1 w2 (WD.e (zac v1 (by decide +kernel) rfl)) (WD.e (znF (zac v1 (by decide +kernel) rfl))) (WD.e (zac v1 (by decide +kernel) rfl)) (WD.e (zac v1 (by decide +kernel) rfl)) zlU))),TK.lf _ _ hv⟩
 | @nd w t x y r s p q R k l h1 h2 hw e=>
  refine⟨_,yr rfl (zp (zL n0 rfl) (zR (zgU w1 w2 (WD.e (zac v1 (by decide +kernel) rfl)) (WD.e (znF (zac v1 (by decide +kernel) rfl))) (WD.e (zac v1 (by decide +kernel) rfl)) (WD.e (zac v1 (by decide +kernel) rfl)) (zgN k l)))), ?_⟩
  have eR:R.reverse=tn (!t) (c.ap w (r++s)):=by
   rw[e]
   cases t with
   |false=>rfl
   |true=>exact List.reverse_reverse _
  have:=TK.mk h w (!t) hw k l h1 h2 (u:=c.h R.reverse) (v:=c.h R) (by rw[<-eR]) (by rw[<-eR,List.reverse_reverse])
  rw[<-eR]at this
  exact this
theorem Xb(h:c.Ok)(k:TK c d R p)(hp:p≠0):∃x y r s u v,RE (yJ [(true,c.w),(true,d)]) (.tup [x,y])/\TK c x r u/\TK c y s v/\u<=v+1/\v<=u+1/\p=1+max u v/\R=r++s:=by
 cases k with
 |lf=>exact absurd rfl hp
 | @nd w t x y r s p q R k l h1 h2 hw e=>
  have v1:∀a b,WD zy [sT c.w,sT (kn (c.h R) (c.h R.reverse) (wtD w) t x y ((1+max p q:Nat):Int) (R.length:Int)),a,b] true (kn (c.h R) (c.h R.reverse) (wtD w) t x y ((1+max p q:Nat):Int) (R.length:Int)):=λ_ _=>za (i:=1) rfl
  have s2:=yL (i:=2) (st:=true) (zac (cs:=zaA) (f:="one") (v1 none none) (by decide +kernel) rfl) (zF rfl)
  have s3:=yL (i:=3) (st:=true) (zac (cs:=Yz) (f:="other") (v1 (sT x) none) (by decide +kernel) rfl) (zF rfl)
  obtain⟨x',y',q1,q2,q3⟩:∃x' y',sIf (fT (f2 (f1 zy (yu Zx "wait")) (fC .non) (zK .IsNot))) (zH (zQ true 2 (zj (aC zq (aC zU (aC (f1 zy (yu Zx "wait")) aN))) yE)) (zQ true 3 (zj (aC zq (aC ym (aC (f1 zy (yu Zx "wait")) aN))) yE))) sNx [sT c.w,sT (kn (c.h R) (c.h R.reverse) (wtD w) t x y ((1+max p q:Nat):Int) (R.length:Int)),sT x,sT y]=some (.nx [sT c.w,sT (kn (c.h R) (c.h R.reverse) (wtD w) t x y ((1+max p q:Nat):Int) (R.length:Int)),sT x',sT y'])/\TK c x' (c.ap w r) p/\TK c y' (c.ap w s) q:=by
   cases w with
   |none=>exact⟨x,y,zL (yp (zV (x:=.non) (z:=.bl false) (zac (v1 _ _) (by decide +kernel) rfl) zb rfl rfl) rfl) rfl,k,l⟩
   |some T=>
    obtain⟨x',a1,a2⟩:=zkF h hw k
    obtain⟨y',b1,b2⟩:=zkF h hw l
    have wt:∀a b,WE (f1 zy (yu Zx "wait")) [sT c.w,sT (kn (c.h R) (c.h R.reverse) (wtD (some T)) t x y ((1+max p q:Nat):Int) (R.length:Int)),a,b] (vG T):=λa b=>WD.e (zac (v1 a b) (by decide +kernel) rfl)
    exact⟨x',y',Yd (yp (x:=.bl true) (f2E (wt _ _) (WD.e zb) rfl) rfl) (yw (Zb (p:=2) (yN (WD.e (za (i:=0) rfl)) (WD.e (za (i:=2) rfl)) (wt _ _) a1) (zF rfl)) (Zb (p:=3) (yN (WD.e (za (i:=0) rfl)) (WD.e (za (i:=3) rfl)) (wt _ _) b1) (zF rfl))),a2,b2⟩
  have tt:WT (fT (f1 zy (yu W6 "turn"))) [sT c.w,sT (kn (c.h R) (c.h R.reverse) (wtD w) t x y ((1+max p q:Nat):Int) (R.length:Int)),sT x',sT y'] t:=yp (x:=.bl t) (zac (v1 _ _) (by decide +kernel) rfl) rfl
  cases t with
  |false=>exact⟨x',y',_,_,p,q,yr rfl (zp s2 (zp s3 (zp q1 (zp (zL tt rfl) (zR (wB (WD.e (za (i:=2) rfl)) (WD.e (za (i:=3) rfl)))))))),q2,q3,h1,h2,rfl,by rw[e,zng];rfl⟩
  |true=>
   obtain⟨x'',a1,a2⟩:=zfc h q2
   obtain⟨y'',b1,b2⟩:=zfc h q3
   exact⟨y'',x'',_,_,q,p,yr rfl (zp s2 (zp s3 (zp q1 (yD (yU tt (zR (wB (xY (WD.e (za (i:=0) rfl)) (WD.e (za (i:=3) rfl)) b1) (xY (WD.e (za (i:=0) rfl)) (WD.e (za (i:=2) rfl)) a1)))))))),b2,a2,h2,h1,by rw[Nat.max_comm],by rw[e,zng];exact List.reverse_append⟩
end
theorem zuD{f:EF}{as:AS}{ds:List D}(h:WD f as true (.tup ds)):zeQ f as=some (ds.map λd=>(true,d),as):=by
 unfold zeQ
 unfold WD at h
 rw[h]
 show some (kids true ds,as)=_
 rw[zbl]
theorem ziP{as:AS}{i:Nat}{fr:AF}{g:List It1->O->Option O}{rs:List RV}{xs:List It1}{o r:O}(h1:fr as=some (rs,as))(h2:ziV i rs=some xs)(h3:as[i]? = some (some o))(h4:g xs o=some r):V9 i fr g as=some (.nx (as.set i (some r))):=by
 unfold V9
 rw[h1];show(ziV i rs).bind _=_
 rw[h2];show(as[i]?).bind _=_
 rw[h3];show(g xs o).bind _=_
 rw[h4];rfl
theorem weF{f:EF}{as:AS}{d:D}(hd:yd d=true)(h:WE f as d):WD f as true d:=by
 obtain⟨o,h,h1,h2⟩:=h
 cases o with
 |lf s x=>subst h2;rw[show s=true from h1]at h;exact h
 |nd k os=>subst h2;cases k<;>cases hd
theorem wtE{f:EF}{as:AS}{k:Bool}(h:WE f as (.bl k)):WT (fT f) as k:=yp (weF rfl h) rfl
theorem zsJ{a b c:EF}{as:AS}{x y z:D}(ha:WE a as x)(hb:WE b as y)(hc:WE c as z):WE (xm (dC a (dC b (dC c dN)))) as (.tup [x,y,z]):=by
 obtain⟨o1,a1,a2,a3⟩:=ha
 obtain⟨o2,b1,b2,b3⟩:=hb
 obtain⟨o3,c1,c2,c3⟩:=hc
 have h:=zhr (os:=[o1,o2,o3]) (zko a1 (zko b1 (zko c1 yV))) (szl rfl)
 have hs:O.strs [o1,o2,o3]=true:=by show(o1.str&&(o2.str&&(o3.str&&true)))=true;rw[a2,b2,c2];rfl
 refine⟨_,h, ?_, ?_⟩
 · unfold Wx
   split
   · exact hs
   · exact hs
 · unfold Wx
   split
   · show D.tup [o1.toD,o2.toD,o3.toD]=_;rw[a3,b3,c3]
   · show D.tup [o1.toD,o2.toD,o3.toD]=_;rw[a3,b3,c3]
section
variable{c:Cx}{x y d:D}{r s R:List Int}{p q:Nat}
abbrev g9(c:Cx)(d:D)(w:Option TZ)(t:Bool)(acc:List Int)(a b e f:Option O):AS:=[sT c.w,sT d,sT (wtD w),sT (.bl t),some (xJ acc),a,b,e,f]
theorem zxA(acc:List Int)(v:Int):acc.map lfI++[lfI v]=(acc++[v]).map lfI:=by rw[QzK];rfl
theorem ziR(h:c.Ok):∀(k:Nat) {d:D}{R:List Int}{p:Nat}(w:Option TZ) (t:Bool) (acc:List Int),TK c d R p->c.wok w->p<k->acc.length+R.length<=1000->vB k [(true,c.w),(true,d),(true,wtD w),(true,.bl t)] (xJ acc)=some (xJ (acc++tn t (c.ap w R)))
 |0,_,_,_,_,_,_,_,_,h,_=>absurd h (Nat.not_lt_zero _)
 |n+1,d,R,p,w,t,acc,k,hw,hp,hl=>by
  obtain⟨a',b',e',f',run⟩:∃a b e f,zdB (vB n) (g9 c d w t acc none none none none)=some (.nx (g9 c d w t (acc++tn t (c.ap w R)) a b e f)):=by
   have v1:∀a b e f,WD zy (g9 c d w t acc a b e f) true d:=λ_ _ _ _=>za (i:=1) rfl
   have t0:=k.zero (v1 none none none none)
   have wh:=k.whole (v1 none none none none)
   have al:acc.length<1001:=by omega
   cases k with
   |lf v b hv=>
    have wv:∃u,[u]=tn t (c.ap w [v])/\WD (fIf (fT (f2 zU (fC .non) (zK .Is))) (f1 zy (yu wY "whole")) (Z9 zcn "made" zq (aC zU (aC (f1 zy (yu wY "whole")) (aC zX aN))))) (g9 c (kn v v .non b .non .non 0 1) w t acc none none none none) true (.int u):=by
     cases w with
     |none=>exact⟨v,by cases t<;>rfl,zwu (yp (zV (a:=fV 2) (b:=fC .non) (g:=zK .Is) (z:=.bl true) (za (i:=2) rfl) zb rfl rfl) rfl) wh⟩
     |some T=>exact⟨jAt T (1%(c.m:Int)) v,by cases t<;>rfl,zvR (yp (zV (a:=fV 2) (b:=fC .non) (g:=zK .Is) (z:=.bl false) (za (i:=2) rfl) zb rfl rfl) rfl) (weF rfl (zuR (za (i:=0) rfl) (by decide +kernel) rfl (WD.e (za (i:=2) rfl)) (WD.e wh) (WD.e zb) (RE.lf (zon (k:=1) h.A.m1 hw.t hv))))⟩
    obtain⟨u,e,wv⟩:=wv
    refine⟨none,none,none,none,Yd t0 ?_⟩
    rw[zkz (i:=4) (os:=acc.map lfI) rfl (by rw[zS];exact zzI al (szs (by decide))) wv,<-e]
    show some (Out.nx [_,_,_,_,some (O.nd .ls (acc.map lfI++[lfI u])),_,_,_,_])=_
    rw[zxA]
   | @nd u b x y r s p q R k l h1 h2 hu e=>
    rw[QzE (by omega)]at t0
    obtain⟨v,b1,b2,b3⟩:=zkx h hu hw
    have hR:R.length=r.length+s.length:=by rw[e,zkK,zbh,zzH]
    have eR:tn t (c.ap w R)=tn (b != t) (c.ap v r++c.ap v s):=by rw[e,zuG,zxM,<-b3 _ (zkv (k.in h) (l.in h)),zng]
    rw[eR]
    have f:∀{cs:List Str}{n:Str}{z:D}(a b' e f:Option O),("Knot":Str) ∈ cs->lkp knN [.int (c.h R),.int (c.h R.reverse),wtD u,.bl b,x,y,.int ((1+max p q:Nat):Int),.int (R.length:Int)] n=some z->WD (f1 zy (yu cs n)) (g9 c (kn (c.h R) (c.h R.reverse) (wtD u) b x y ((1+max p q:Nat):Int) (R.length:Int)) w t acc a b' e f) true z:=λa b e f hc hl=>zac (v1 a b e f) hc hl
    have s5:=Zb (p:=5) (yN (WD.e (za (i:=0) rfl)) (WD.e (f (cs:=Zx) (n:="wait") none none none none (by decide +kernel) rfl)) (WD.e (za (i:=2) rfl)) b1) (zF rfl)
    have s6:=yL (i:=6) (st:=true) (zjm (c:=b==t) (f (cs:=W6) (n:="turn") (sT (wtD v)) none none none (by decide +kernel) rfl) (za (i:=3) rfl) (by cases b<;>cases t<;>rfl)) (zF rfl)
    rw[show(!(b==t))=(b != t)from rfl]at s6
    have fx:=WD.e (f (cs:=zaA) (n:="one") (sT (wtD v)) (sT (.bl (b != t))) none none (by decide +kernel) rfl)
    have fy:=WD.e (f (cs:=Yz) (n:="other") (sT (wtD v)) (sT (.bl (b != t))) none none (by decide +kernel) rfl)
    have w6:WT (fT wM) (g9 c (kn (c.h R) (c.h R.reverse) (wtD u) b x y ((1+max p q:Nat):Int) (R.length:Int)) w t acc (sT (wtD v)) (sT (.bl (b != t))) none none) (b != t):=yp (za (i:=6) rfl) rfl
    have cl:∀{z:D}{r':List Int}{p':Nat}(a:List Int) (o f:Option O),TK c z r' p'->p'<n->a.length+r'.length<=1000->V9 4 (aC zq (aC (fV 8) (aC xf (aC wM (aC yt aN))))) (vB n) [sT c.w,f,sT (wtD w),sT (.bl t),some (xJ a),sT (wtD v),sT (.bl (b != t)),o,sT z]=some (.nx [sT c.w,f,sT (wtD w),sT (.bl t),some (xJ (a++tn (b != t) (c.ap v r'))),sT (wtD v),sT (.bl (b != t)),o,sT z]):=λ{z r' p'} a o f k' hp' ha=>ziP (rs:=[.ow (.lf true c.w),.ow (.lf true z),.ow (.lf true (wtD v)),.ow (.lf true (.bl (b != t))),.bo 4]) (xs:=[(true,c.w),(true,z),(true,wtD v),(true,.bl (b != t))]) rfl rfl rfl (ziR h n v (b != t) a k' b2 hp' ha)
    have lp:∀{z z':D}{r1 r2:List Int}{p1 p2:Nat}(o:Option O),TK c z r1 p1->TK c z' r2 p2->p1<n->p2<n->acc.length+r1.length+r2.length<=1000->forL (gN 8) (V9 4 (aC zq (aC (fV 8) (aC xf (aC wM (aC yt aN))))) (vB n)) [(true,z),(true,z')] (g9 c (kn (c.h R) (c.h R.reverse) (wtD u) b x y ((1+max p q:Nat):Int) (R.length:Int)) w t acc (sT (wtD v)) (sT (.bl (b != t))) o none)=some (.nx (g9 c (kn (c.h R) (c.h R.reverse) (wtD u) b x y ((1+max p q:Nat):Int) (R.length:Int)) w t (acc++tn (b != t) (c.ap v r1)++tn (b != t) (c.ap v r2)) (sT (wtD v)) (sT (.bl (b != t))) o (sT z'))):=λ{z z' r1 r2 p1 p2} o k1 k2 l1 l2 hl=>XS (as1:=g9 c _ w t acc (sT (wtD v)) (sT (.bl (b != t))) o (sT z)) rfl (cl acc o _ k1 l1 (by omega)) (XS (as1:=g9 c _ w t (acc++tn (b != t) (c.ap v r1)) (sT (wtD v)) (sT (.bl (b != t))) o (sT z')) rfl (cl (acc++tn (b != t) (c.ap v r1)) o _ k2 l2 (by rw[zzH,zkK,zbh];exact hl)) rfl)
    cases hc:(b != t)with
    |false=>
     rw[hc]at w6 s6 lp fx fy
     have:=lp (sT (.tup [x,y])) k l (by omega) (by omega) (by omega)
     rw[QyA]at this
     exact⟨_,_,_,_,zL t0 (yw s5 (yw s6 (yw (Zb (p:=7) (zhl w6 (wB fx fy)) (zF rfl)) (Yc (zuD (za (i:=7) rfl)) this))))⟩
    |true=>
     rw[hc]at w6 s6 lp fx fy
     have:=lp (sT (.tup [y,x])) l k (by omega) (by omega) (by omega)
     rw[QyA,show tn true (c.ap v s)++tn true (c.ap v r)=tn true (c.ap v r++c.ap v s)from List.reverse_append.symm]at this
     exact⟨_,_,_,_,zL t0 (yw s5 (yw s6 (yw (Zb (p:=7) (zhf w6 (wB fy fx)) (zF rfl)) (Yc (zuD (za (i:=7) rfl)) this))))⟩
  show gL 9 5 (zdB (vB n)) [(true,c.w),(true,d),(true,wtD w),(true,.bl t)] (xJ acc)=_
  unfold gL
  rw[if_pos (by rfl),show zcY 9 [(true,c.w),(true,d),(true,wtD w),(true,.bl t)] (xJ acc)=g9 c d w t acc none none none none from rfl,run]
  rfl
theorem zvl(h:c.Ok)(k:TK c d R p)(hl:R.length<=1000):vM [(true,c.w),(true,d)]=some (xJ R):=by
 have g:=ziR h 20 none false [] k trivial (k.lt hl) (by show 0+_<=_;omega)
 have cl:V9 2 (aC zq (aC zy (aC (fC .non) (aC (fC (.bl false)) wA)))) (vB 20) [sT c.w,sT d,some (xJ [])]=some (.nx [sT c.w,sT d,some (xJ R)]):=ziP (rs:=[.ow (.lf true c.w),.ow (.lf true d),.ow (.lf true .non),.ow (.lf true (.bl false)),.bo 2]) (xs:=[(true,c.w),(true,d),(true,.non),(true,.bl false)]) rfl rfl rfl g
 exact Va rfl (yw (ZX (i:=2) (V7 yV (szl rfl)) (zF rfl)) (yw (Yd (k.isS (za (i:=1) rfl)) cl) (zcq (i:=2) rfl (Wv R).1)))
theorem ztJ:vM [(true,c.w),(true,.non)]=some (xJ []):=
 Va rfl (yw (ZX (i:=2) (V7 yV (szl rfl)) (zF rfl)) (yw (zL (yp (zV (z:=.bl false) (za (i:=1) rfl) zb rfl rfl) rfl) rfl) (zcq (i:=2) rfl (Wv []).1)))
def OT(c:Cx)(d:D)(R:List Int):Prop:=(d = .non/\R=[])\/∃p,TK c d R p
theorem TK.o(k:TK c d R p):OT c d R:=.inr ⟨p,k⟩
theorem OT.n:OT c .non []:=.inl ⟨rfl,rfl⟩
theorem OT.in(h:c.Ok)(k:OT c d R):c.In R:=by
 rcases k with⟨_,rfl⟩|⟨p,k⟩
 · exact λ_ m=>nomatch m
 · exact k.in h
theorem zoa(k:OT c d R):RE (vP [(true,d)]) (.int R.length):=by
 rcases k with⟨rfl,rfl⟩|⟨p,k⟩
 · exact yr rfl (zR (zhf (yp (zV (z:=.bl true) (za (i:=0) rfl) zb rfl rfl) rfl) (WD.e zb)))
 · exact yr rfl (zR (zhl (k.isN (za (i:=0) rfl)) (WD.e (k.size (za (i:=0) rfl)))))
theorem zog(k:OT c d R):RE (Ye [(true,c.w),(true,d)]) (.int (c.h R)):=by
 rcases k with⟨rfl,rfl⟩|⟨p,k⟩
 · exact yr rfl (zR (zhf (yp (zV (z:=.bl true) (za (i:=1) rfl) zb rfl rfl) rfl) (zuX (za (i:=0) rfl) (by decide +kernel) rfl zpv)))
 · exact yr rfl (zR (zhl (k.isN (za (i:=1) rfl)) (WD.e (k.whole (za (i:=1) rfl)))))
inductive WK(c:Cx):D->List Int->Nat->Prop
 |lf (v:Int):InR c.n v->WK c (.tup [.int v]) [v] 0
 |nd {x y:D}{r s:List Int}{p q:Nat}:WK c x r p->WK c y s q->p<=q+1->q<=p+1->WK c (.tup [.int (c.h (r++s)),x,y]) (r++s) (1+max p q)
theorem YW{as:AS}{j:Nat}{i:Int}{ds:List D}{z:D}(h:as[j]? = some (sT (.tup ds)))(hz:ixP (.tup ds) (.int i)=some (.im z)):WD (f2 (fV j) (fC (.int i)) ixP) as true z:=wL (za h) zb hz
theorem zkY(h:c.Ok):∀(k:Nat) {d:D}{R:List Int}{p:Nat},TK c d R p->p<k->∃w,RE (vO k [(true,c.w),(true,d)]) w/\WK c w R p
 |0,_,_,_,_,h=>absurd h (Nat.not_lt_zero _)
 |n+1,d,R,p,k,hp=>by
  have v1:∀a,WD zy [sT c.w,sT d,a] true d:=λ_=>za (i:=1) rfl
  have t0:=k.zero (v1 none)
  by_cases h0:p=0
  · rw[QzM h0]at t0
    have wv:=k.whole (v1 none)
    have n0:=k.isN (v1 none)
    cases k with
    |lf v t hv=>exact⟨_,yr rfl (zp (zL n0 rfl) (yD (yU t0 (zR (zov (WD.e wv)))))),.lf v hv⟩
    |nd=>exact absurd h0 (by omega)
  · rw[QzE h0]at t0
    obtain⟨x,y,r,s,u,v,q1,q2,q3,q4,q5,rfl,rfl⟩:=Xb h k h0
    obtain⟨a,a1,a2⟩:=zkY h n q2 (by omega)
    obtain⟨b,b1,b2⟩:=zkY h n q3 (by omega)
    exact⟨_,yr rfl (zp (zL (k.isN (v1 _)) rfl) (zp (zL t0 rfl) (zp (Zb (p:=2) (xY (WD.e (za (i:=0) rfl)) (WD.e (v1 _)) q1) (zF rfl)) (zR (zsJ (WD.e (k.whole (v1 _))) (xY (WD.e (za (i:=0) rfl)) (WD.e (YW (j:=2) rfl rfl)) a1) (xY (WD.e (za (i:=0) rfl)) (WD.e (YW (j:=2) rfl rfl)) b1)))))),.nd a2 b2 q4 q5⟩
end
section
theorem zgS{f:EF}{as:AS}{s:Bool}{y:D}{fl fh:OF}{lo hi:Option Int}{r:List Int}(ha:WD f as s y)(hl:fl as=some (lo,as))(hh:fh as=some (hi,as))(hg:slP y lo hi=some (.fl (r.map D.int))):WE (fSl f fl fh slP) as (zO r):=by
 refine⟨xJ r, ?_,Wv r⟩
 unfold WD at ha
 unfold fSl
 rw[ha];show((fl as).bind _)=_
 rw[hl];show((fh as).bind _)=_
 rw[hh];show((slP y lo hi).bind _)=_
 rw[hg]
 show(if((r.map D.int).all yd||(some s).isSome)=true then some (RV.ow (.nd .ls ((r.map D.int).map (lfs s))))else none:Option RV).bind _=_
 rw[if_pos (by simp),zzZ];rfl
variable{c:Cx}
theorem zui{r:List Int}(hJ:Tab c.n c.n c.J)(h:∀x ∈ r,InR c.n x)(hr:r≠[]):RE (xZ [(true,c.g),(true,zO r)]) (.int (c.h r)):=by
 match r,hr with
 |v::q,_=>
  have t0:WT (fT (f2 zy (vo dN) (zK .Eq))) [sT (c.g),sT (zO (v::q)),none,none] false:=yp (f2E (g:=zK .Eq) (z:=.bl false) (WD.e (za (i:=1) rfl)) (Zw yV (szl rfl) rfl rfl) rfl) rfl
  have s2:zQ true 2 (f2 zy yc ixP) [sT (c.g),sT (zO (v::q)),none,none]=some (.nx [sT (c.g),sT (zO (v::q)),sI v,none]):=yL (i:=2) (zV (z:=.int v) (za (i:=1) rfl) zb (zes (f:=D.int) (l:=v::q) (i:=0) rfl) rfl) (zF rfl)
  have c1:=zhU (xs:=[D.int v]) (ys:=q.map D.int)
  have w1:WE (fSl zy (oS zX) oN slP) [sT (c.g),sT (zO (v::q)),sI v,none] (zO q):=zgS (za (i:=1) rfl) rfl rfl c1
  have it:zeQ (fSl zy (oS zX) oN slP) [sT (c.g),sT (zO (v::q)),sI v,none]=some (q.map λx=>(true,D.int x),[sT (c.g),sT (zO (v::q)),sI v,none]):=by
   obtain⟨o,a1,a2,a3⟩:=w1
   unfold zeQ
   rw[a1]
   show(zjC (o.str,o.toD)).bind _=_
   rw[a2,a3]
   show some (kids true (q.map D.int),_)=_
   rw[zbl,zzZ];rfl
  have lp:∀(q':List Int) (u:Int) (z:Option O),InR c.n u->(∀x ∈ q',InR c.n x)->∃z',forL (gN 3) (zQ true 2 (f2 (f2 (f2 zq yM ixP) zU ixP) ym ixP)) (q'.map λx=>(true,D.int x)) [sT (c.g),sT (zO (v::q)),sI u,z]=some (.nx [sT (c.g),sT (zO (v::q)),sI (q'.foldl (jAt c.J) u),z']):=λq'=>by
   induction q' with
   |nil=>exact λu z _ _=>⟨z,rfl⟩
   |cons x q' ih=>
    intro u z hu hq
    have hx:=hq x zzD
    obtain⟨z',hz⟩:=ih (jAt c.J u x) (sI x) (zkD hJ hu hx) λy my=>hq y (zzB _ my)
    exact⟨z',XS (as1:=[sT (c.g),sT (zO (v::q)),sI u,sI x]) rfl (yL (i:=2) (zam hJ hu hx (wL (z:=vp c.J) (za (i:=0) rfl) zb rfl) (za (i:=2) rfl) (za (i:=3) rfl)) (zF rfl)) hz⟩
  obtain⟨z',hz⟩:=lp q v none (h v zzD) λy my=>h y (zzB _ my)
  exact yr rfl (zp (zL t0 rfl) (zp s2 (zp (Yc it hz) (zR (WD.e (za (i:=2) rfl))))))
theorem zlR:RE (xZ [(true,c.g),(true,zO [])]) (.int (c.h [])):=
 yr rfl (yD (yU (yp (f2E (g:=zK .Eq) (z:=.bl true) (WD.e (za (i:=1) rfl)) (Zw yV (szl rfl) rfl rfl) rfl) rfl) (zR (WD.e (zV (z:=.int c.e) (za (i:=0) rfl) zb rfl rfl)))))
theorem zrs{s:Bool}{x:Int}:xQ [(s,.int x)]=sT (.bl true):=
 Va rfl (Vd (zrj (k:=true) (zjV (za rfl) rfl) (λ_=>znF (zjV (q:=false) (za rfl) rfl)) (λh=>nomatch h)))
theorem zkW{x:Int}:RE (xQ [(true,.int x)]) (.bl true):=⟨_,zrs,rfl,rfl⟩
theorem ne0{x y:Int}(h:x=y):(!(x==y))=false:=by subst h;simp
theorem zxv{f:D->D->Option Bool}:∀xs:List D,(∀x ∈ xs,f x x=some true)->eqL f xs xs=some true
 | [],_=>rfl
 |x::r,h=>by
  show((f x x).bind λb=>(eqL f r r).bind λc=>some (b&&c))=_
  rw[h x zzD,zxv r λy my=>h y (zzB _ my)];rfl
theorem znz{k:Nat}(r:List Int):eqF (k+2) (zO r) (zO r)=some true:=zxv _ λx mx=>by
 obtain⟨i,_,rfl⟩:=QyB.mp mx
 show some (i==i)=_
 rw[beq_self_eq_true]
theorem zop{r:List Int}(h:c.Ok)(k:c.In r):RE (xZ [(true,c.g),(true,zO r)]) (.int (c.h r)):=by
 by_cases e:r=[]
 · subst e;exact zlR
 · exact zui h.A.j k e
abbrev gnD(p:Nat)(r:List Int):D:=.tup [.int p,zO r]
theorem WK.in{w:D}{R:List Int}{p:Nat}(k:WK c w R p):c.In R:=by
 induction k with
 |lf v hv=>exact λx mx=>by rcases zzA.mp mx with rfl|mx;exact hv;exact nomatch mx
 |nd _ _ _ _ i j=>exact zkv i j
theorem WK.ne{w:D}{R:List Int}{p:Nat}(k:WK c w R p):R≠[]:=by
 induction k with
 |lf v hv=>exact List.cons_ne_nil _ _
 |nd _ _ _ _ i j=>exact λz=>i (List.append_eq_nil_iff.mp z).1
theorem zjO(h:c.Ok):∀(n:Nat) {w:D}{R:List Int}{p:Nat},WK c w R p->p<n->R.length<=1000->RE (vm n [(true,c.g),(true,w)]) (gnD p R)
 |0,_,_,_,_,h,_=>absurd h (Nat.not_lt_zero _)
 |n+1,w,R,p,k,hp,hl=>by
  cases k with
  |lf v hv=>
   have t1:WT (WF (Xf (fT (zeU zy "tuple"))) (WF (zdU (fT (f2 (fP vY vK) zX (zK .NotEq))) (fT (f2 (fP vY vK) xR (zK .NotEq)))) (Xf (fT (zj (aC (f2 zy yc ixP) aN) xQ))))) [sT c.g,sT (.tup [.int v]),none,none,none] false:=
    zcM (k:=false) (zbj (k:=true) (yp (zjV (q:=true) (za (i:=1) rfl) rfl) rfl)) (λ_=>zcM (k:=false) (znc (k:=false) (yp (zjm (c:=true) (xM (x:=.int 1) (g:=vK) (zM (za (i:=1) rfl) zY) rfl rfl) zb rfl) rfl) (λq=>nomatch q) (λ_=>rfl)) (λ_=>zbj (k:=true) (wtE (ZK (WD.e (zV (z:=.int v) (za (i:=1) rfl) zb rfl rfl)) zkW))) (λq=>nomatch q)) (λq=>nomatch q)
   exact yr rfl (zp (zL t1 rfl) (yD (yU (yp (YJ (c:=true) (xM (x:=.int 1) (g:=vK) (zM (za (i:=1) rfl) zY) rfl rfl) zb rfl) rfl) (zR (wB (WD.e zb) (Zw (os:=[lfI v]) (yq (zV (z:=.int v) (za (i:=1) rfl) zb rfl rfl) yV) (szl rfl) rfl rfl))))))
  | @nd x y r s p q k l b1 b2=>
   have hR:=WK.nd k l b1 b2
   rw[zzH]at hl
   have i1:=zjO h n k (by omega) (by omega)
   have i2:=zjO h n l (by omega) (by omega)
   generalize hw:D.tup [.int (c.h (r++s)),x,y]=w
   have w0:∀a b e,WD (f2 zy yc ixP) [sT c.g,sT w,a,b,e] true (.int (c.h (r++s))):=λa b e=>by subst hw;exact zV (za (i:=1) rfl) zb rfl rfl
   have wl:WD (fP vY vK) [sT c.g,sT w,none,none,none] true (.int 3):=by subst hw;exact xM (x:=.int 3) (g:=vK) (zM (za (i:=1) rfl) zY) rfl rfl
   have t1:WT (WF (Xf (fT (zeU zy "tuple"))) (WF (zdU (fT (f2 (fP vY vK) zX (zK .NotEq))) (fT (f2 (fP vY vK) xR (zK .NotEq)))) (Xf (fT (zj (aC (f2 zy yc ixP) aN) xQ))))) [sT c.g,sT w,none,none,none] false:=
    zcM (k:=false) (zbj (k:=true) (yp (by subst hw;exact zjV (q:=true) (za (i:=1) rfl) rfl) rfl)) (λ_=>zcM (k:=false) (znc (k:=true) (yp (zjm (c:=false) wl zb rfl) rfl) (λ_=>yp (zjm (c:=true) wl zb rfl) rfl) (λq=>nomatch q)) (λ_=>zbj (k:=true) (wtE (ZK (WD.e (w0 _ _ _)) zkW))) (λq=>nomatch q)) (λq=>nomatch q)
   have t2:WT (fT (f2 (fP vY vK) zX (zK .Eq))) [sT c.g,sT w,none,none,none] false:=yp (YJ (c:=false) wl zb rfl) rfl
   have s2:=Zb (p:=2) (as:=[sT c.g,sT w,none,none,none]) (xY (WD.e (za (i:=0) rfl)) (by subst hw;exact WD.e (YW (j:=1) (i:=1) rfl rfl)) i1) (zF rfl)
   have s3:=Zb (p:=3) (as:=[sT c.g,sT w,sT (gnD p r),none,none]) (xY (WD.e (za (i:=0) rfl)) (by subst hw;exact WD.e (YW (j:=1) (i:=2) rfl rfl)) i2) (zF rfl)
   have w20:∀z,WD (f2 zU yc ixP) [sT c.g,sT w,sT (gnD p r),sT (gnD q s),z] true (.int p):=λz=>YW (j:=2) rfl rfl
   have w30:∀z,WD (f2 ym yc ixP) [sT c.g,sT w,sT (gnD p r),sT (gnD q s),z] true (.int q):=λz=>YW (j:=3) rfl rfl
   have t4:WT (WF (fT (f2 zU (fC .non) (zK .Is))) (WF (fT (f2 ym (fC .non) (zK .Is))) (fT (f2 (fP (aC (f2 (f2 zU yc ixP) (f2 ym yc ixP) Zn) aN) zqD) zX (zK .Gt))))) [sT c.g,sT w,sT (gnD p r),sT (gnD q s),none] false:=
    zcM (k:=false) (yp (zV (z:=.bl false) (za (i:=2) rfl) zb rfl rfl) rfl) (λ_=>zcM (k:=false) (yp (zV (z:=.bl false) (za (i:=3) rfl) zb rfl rfl) rfl) (λ_=>by
     have:=zuJ (xM (x:=.int (if(p:Int)-q<0 then -((p:Int)-q)else(p:Int)-q)) (g:=zqD) (zM (zdd (w20 none) (w30 none)) zY) rfl rfl) (zb (x:=.int 1))
     rw[QzE (by split<;>omega)]at this
     exact yp this rfl) (λq=>nomatch q)) (λq=>nomatch q)
   have w5:WE (f2 (f2 zU zX ixP) (f2 ym zX ixP) zE) [sT c.g,sT w,sT (gnD p r),sT (gnD q s),none] (zO (r++s)):=by
    have:=zvx (as:=[sT c.g,sT w,sT (gnD p r),sT (gnD q s),none]) (WD.e (YW (j:=2) (i:=1) (z:=zO r) rfl rfl)) (WD.e (YW (j:=3) (i:=1) (z:=zO s) rfl rfl)) (add_lists (xs:=r.map D.int) (ys:=s.map D.int) (by rw[zS,zS];exact szs (by omega)))
    rw[<-QzK]at this;exact this
   have s5:=Zb (p:=4) w5 (zF rfl)
   have t6:WT (fT (f2 (f2 zy yc ixP) (zj (aC zq (aC yt aN)) xZ) (zK .NotEq))) [sT c.g,sT w,sT (gnD p r),sT (gnD q s),sT (zO (r++s))] false:=
    yp (zjm (c:=true) (w0 _ _ _) (weF rfl (xY (WD.e (za (i:=0) rfl)) (WD.e (za (i:=4) rfl)) (zop h hR.in))) (congrArg some (beq_self_eq_true (c.h (r++s))))) rfl
   have w7:=yC (as:=[sT c.g,sT w,sT (gnD p r),sT (gnD q s),sT (zO (r++s))]) (zb (x:=.int 1)) (xM (x:=.int (if(q:Int) > p then(q:Int)else p)) (g:=zny) (zM (w20 _) (zM (w30 _) zY)) rfl rfl)
   rw[show 1+(if(q:Int) > p then(q:Int)else p)=((1+max p q:Nat):Int) by split<;>omega]at w7
   exact yr rfl (zp (zL t1 rfl) (zp (zL t2 rfl) (zp s2 (zp s3 (zp (zL t4 rfl) (zp s5 (zp (zL t6 rfl) (zR (wB (WD.e w7) (WD.e (za (i:=4) rfl)))))))))))
theorem zxW{as:AS}{i:Nat}{r:List Int}(h:as[i]? = some (some (xJ r))):fV i as=some (.bo i,as)/\RV.view as (.bo i)=some (zO r,some true):=
 ⟨zjk h,by
  rw[zkR h,(Wv r).2]
  show some (zO r,if(r.map lfI).all O.isLf=true then some (O.strs (r.map lfI))else none)=_
  rw[if_pos (Yp r).1,(Yp r).2.1]⟩
theorem zyE{as:AS}{i:Nat}{r:List Int}(h:as[i]? = some (some (xJ r))):WD (zeU (fV i) "list") as true (.bl true):=by
 obtain⟨h1,h2⟩:=zxW h
 unfold WD zeU
 rw[h1];show(RV.view as (.bo i)).bind _=_
 rw[h2];rfl
theorem neR{as:AS}{i:Nat}{r:List Int}{b:EF}(h:as[i]? = some (some (xJ r)))(hb:WD b as true (zO r)):WT (fT (f2 (fV i) b (zK .NotEq))) as false:=by
 obtain⟨h1,h2⟩:=zxW h
 refine yp (s:=true) (x:=.bl false) ?_ rfl
 unfold WD at hb ⊢
 unfold f2
 rw[h1];show(b as).bind _=_
 rw[hb];show(RV.view as (.bo i)).bind _=_
 rw[h2]
 show((eqF 60 (zO r) (zO r)).bind _ |>.bind _)=_
 rw[znz r];rfl
theorem zvN{f:EF}{as:AS}{r:List Int}(h:f as=some (.ow (xJ r),as)):WE f as (zO r):=⟨_,h,Wv r⟩
abbrev T7(c:Cx)(t:D)(r:List Int)(a b e:Option O):AS:=[sT (c.w),sT (c.g),sT t,sT (zO r),a,b,e]
theorem zze{t:D}{r:List Int}{a b e:Option O}:WD (fP Xc vK) (T7 c t r a b e) true (.int r.length):=by
 have:=xM (as:=T7 c t r a b e) (g:=vK) (x:=.int ((r.map D.int).length:Nat)) (zM (za (i:=3) (x:=zO r) (s:=true) rfl) zY) rfl rfl
 rw[zS]at this;exact this
theorem zmn{t w:D}{r:List Int}{v:Int}(hl:r.length<=900)(h1:RE (vP [(true,t)]) (.int r.length))(h2:vM [(true,c.w),(true,t)]=some (xJ r))
 (h3:RE (Ye [(true,c.w),(true,t)]) (.int v)) (h4:RE (xZ [(true,c.g),(true,zO r)]) (.int v)) (h5:RE (vO 20 [(true,c.w),(true,t)]) w)
 (h6:Rt ((zH (sIf (fT (f2 ym (vo dN) (zK .Eq))) (zT (f2 xf (xm dN) (zK .Eq))) sNx)
 (zH (zQ true 6 (zj (aC zy zsH) (vm 20)))
 (zT (zpI (f2 wM (fC .non) (zK .IsNot)) (f2 (f2 wM zX ixP) ym (zK .Eq)))))) (T7 c t r (some (xJ (r++[0]))) (sT w) none)) (.bl true)):
 RE (xF [(true,c.w),(true,c.g),(true,t),(true,zO r)]) (.bl true):=by
 have wt:∀a b e,WE zU (T7 c t r a b e) t:=λ_ _ _=>WD.e (za (i:=2) rfl)
 have wy:∀a b e,WE zq (T7 c t r a b e) (c.w):=λ_ _ _=>WD.e (za (i:=0) rfl)
 have t1:WT (WF (fT (f2 (zj wA vP) (fP Xc vK) (zK .NotEq))) (Xf (fT (zj (aC (zj wA vP) aN) xQ)))) (T7 c t r none none none) false:=
  zcM (k:=false) (by have:=zln (weF rfl (ZK (wt none none none) h1)) (zze (t:=t) (r:=r) (a:=none) (b:=none) (e:=none));rw[ne0 rfl]at this;exact this) (λ_=>zbj (k:=true) (wtE (ZK (ZK (wt _ _ _) h1) zkW))) (λq=>nomatch q)
 have rr:∀a b e,zj (aC zq wA) vM (T7 c t r a b e)=some (.ow (xJ r),T7 c t r a b e):=λa b e=>XF (zM (za (i:=0) rfl) (zM (za (i:=2) rfl) zY)) (by show vM [(true,c.w),(yd t||true,t)]=_;rw[QzB];exact h2)
 have s4:=ZX (i:=4) (rr none none none) (zF rfl)
 have w3:∀a b e,WD ym (T7 c t r a b e) true (zO r):=λ_ _ _=>za (i:=3) rfl
 have t2:WT (WF (Xf (fT (zeU yt "list"))) (WF (fT (f2 yt ym (zK .NotEq))) (fT (f2 (zj (aC zq wA) Ye) (zj (aC zy Xc) xZ) (zK .NotEq))))) (T7 c t r (some (xJ r)) none none) false:=
  zcM (k:=false) (zbj (k:=true) (yp (zyE (i:=4) (r:=r) rfl) rfl)) (λ_=>zcM (k:=false) (neR (i:=4) rfl (w3 _ _ _)) (λ_=>by have:=zln (weF rfl (xY (wy (some (xJ r)) none none) (wt _ _ _) h3)) (weF rfl (xY (WD.e (za (i:=1) rfl)) (WD.e (w3 _ _ _)) h4));rw[ne0 rfl]at this;exact this) (λq=>nomatch q)) (λq=>nomatch q)
 have s5:wQ (Zm 4 (dC yc dN) Za) (T7 c t r (some (xJ r)) none none)=some (.nx (T7 c t r (some (xJ (r++[0]))) none none)):=by
  have:=zkz (as:=T7 c t r (some (xJ r)) none none) (i:=4) (os:=r.map lfI) rfl (by rw[zS];exact zzI (show r.length<1000 by omega) (szs (by decide))) (zb (x:=.int 0))
  rw[this]
  show some (Out.nx [_,_,_,_,some (O.nd .ls (r.map lfI++[lfI 0])),_,_])=_
  rw[show r.map lfI++[lfI 0]=(r++[0]).map lfI by rw[QzK];rfl]
 have t3:WT (fT (f2 (zj (aC zq wA) vM) ym (zK .NotEq))) (T7 c t r (some (xJ (r++[0]))) none none) false:=yp (f2E (g:=zK .NotEq) (z:=.bl false) (zvN (rr _ _ _)) (WD.e (w3 _ _ _)) (by show(eqF 60 (zO r) (zO r)).bind _=_;rw[znz r];rfl)) rfl
 have s6:=Zb (p:=5) (xY (wy (some (xJ (r++[0]))) none none) (wt _ _ _) h5) (zF rfl)
 exact yr rfl (zp (zL t1 rfl) (zp s4 (zp (zL t2 rfl) (zp s5 (zp (zL t3 rfl) (zp s6 h6))))))
theorem zoD(h:c.Ok){d:D}{R:List Int}(k:OT c d R)(hl:R.length<=900):RE (xF [(true,c.w),(true,c.g),(true,d),(true,zO R)]) (.bl true):=by
 rcases k with⟨rfl,rfl⟩|⟨p,k⟩
 · refine zmn (w:=.tup []) (by decide) (zoa (c:=c) .n) ztJ (zog .n) zlR (yr rfl (yD (yU (yp (zV (z:=.bl true) (za (i:=1) rfl) zb rfl rfl) rfl) (zR ⟨_,zhr yV (szl rfl),rfl,rfl⟩)))) ?_
   exact yD (yU (yp (f2E (g:=zK .Eq) (z:=.bl true) (WD.e (za (i:=3) rfl)) (Zw yV (szl rfl) rfl rfl) rfl) rfl) (zR (WD.e (f2E (g:=zK .Eq) (z:=.bl true) (WD.e (za (i:=5) rfl)) ⟨_,zhr yV (szl rfl),rfl,rfl⟩ rfl))))
 · have hd:=k.lt (by omega)
   obtain⟨w,w1,w2⟩:=zkY h 20 k hd
   refine zmn hl (zoa k.o) (zvl h k (by omega)) (zog k.o) (zop h (k.in h)) w1 ?_
   have t4:WT (fT (f2 ym (vo dN) (zK .Eq))) (T7 c d R (some (xJ (R++[0]))) (sT w) none) false:=yp (f2E (g:=zK .Eq) (z:=.bl false) (WD.e (za (i:=3) rfl)) (Zw yV (szl rfl) rfl rfl) (by
    obtain⟨v,r,e⟩:=List.exists_cons_of_ne_nil w2.ne
    rw[e];rfl)) rfl
   have s7:=Zb (p:=6) (as:=T7 c d R (some (xJ (R++[0]))) (sT w) none) (xY (WD.e (za (i:=1) rfl)) (WD.e (za (i:=5) rfl)) (zjO h 20 w2 hd (by omega))) (zF rfl)
   exact zp (zL t4 rfl) (zp s7 (zR (WD.e (zrj (k:=true) (zV (z:=.bl true) (za (i:=6) rfl) zb rfl rfl) (λ_=>YJ (c:=true) (YW (j:=6) (i:=1) (z:=zO R) rfl rfl) (za (i:=3) rfl) (znz R)) (λq=>nomatch q)))))
end
def Lg(p n:Nat):Prop:=n<=2 ^ p/\(p=0\/2 ^ (p-1)<n)
theorem zwK{p q a b:Nat}(ha:1<=a)(h1:a<=b)(h2:b<=a+1)(hp:Lg p a)(hq:Lg q b):p<=q/\q<=p+1/\Lg (1+max p q) (a+b):=by
 obtain⟨p1,p2⟩:=hp
 obtain⟨q1,q2⟩:=hq
 have e1:p<=q:=by
  rcases p2 with p2|p2
  · omega
  · refine Nat.le_of_not_lt λh=>?_
    have:=Nat.pow_le_pow_right (n:=2) (by decide) (show q<=p-1 by omega)
    omega
 have e2:q<=p+1:=by
  rcases q2 with q2|q2
  · omega
  · refine Nat.le_of_not_lt λh=>?_
    have:=Nat.pow_le_pow_right (n:=2) (by decide) (show p+1<=q-1 by omega)
    rw[Nat.pow_succ]at this
    omega
 refine⟨e1,e2, ?_⟩
 rw[Nat.max_eq_right e1]
 refine⟨?_,.inr ?_⟩
 · rw[Nat.add_comm 1 q,Nat.pow_succ];omega
 · rw[show 1+q-1=q by omega]
   rcases q2 with q2|q2
   · subst q2
     show 1<a+b
     omega
   · obtain⟨r,rfl⟩:∃r,q=r+1:=⟨q-1,by
      have:q≠0:=λz=>by subst z;have:(2:Nat) ^ (0-1)=1:=rfl;have z1:b<=1:=q1;omega
      omega⟩
     rw[Nat.add_sub_cancel]at q2
     rw[Nat.pow_succ];omega
section
variable{c:Cx}{x y d:D}{r s R:List Int}{p q:Nat}
theorem zjU(h:c.Ok):∀(k:Nat) (r:List Int),1<=r.length->r.length<=2 ^ k->r.length<=1000->c.In r->∀s:Bool,∃d p,RE (vV (k+1) [(true,c.w),(s,zO r)]) d/\TK c d r p/\Lg p r.length
 |k,r,h1,h2,hk,hv,s=>by
  have wl:∀z,WD (fP vY vK) [sT c.w,some (.lf s (zO r)),z] true (.int r.length):=λz=>by
   have:=xM (as:=[sT c.w,some (.lf s (zO r)),z]) (g:=vK) (x:=.int ((r.map D.int).length:Nat)) (zM (za (i:=1) (x:=zO r) (s:=s) rfl) zY) rfl rfl
   rw[zS]at this;exact this
  have t0:WT (fT (f2 (fP vY vK) yc (zK .Eq))) [sT c.w,some (.lf s (zO r)),none] false:=yp (YJ (c:=false) (wl _) zb (by show some ((r.length:Int)==0)=_;rw[beq_eq_false_iff_ne.mpr (by omega)])) rfl
  have t1:WT (fT (f2 (fP vY vK) zX (zK .Eq))) [sT c.w,some (.lf s (zO r)),none] (decide (r.length=1)):=yp (YJ (c:=decide (r.length=1)) (wl _) zb (by
   show some ((r.length:Int)==1)=_
   by_cases h:r.length=1
   · rw[h];rfl
   · rw[beq_eq_false_iff_ne.mpr (by omega),QzE h])) rfl
  by_cases hr:r.length=1
  · rw[QzM hr]at t1
    match r,hr with
    | [v],_=>
     exact⟨_,0,yr rfl (zp (zL t0 rfl) (yD (yU t1 (zR (ZK (WD.e (zV (z:=.int v) (za (i:=1) rfl) zb rfl rfl)) zoP))))),.lf v false (hv v zzD),⟨zzL _,.inl rfl⟩⟩
  · rw[QzE hr]at t1
    cases k with
    |zero=>exact absurd (show r.length<=1 from h2) (by omega)
    |succ k=>
     rw[Nat.pow_succ]at h2
     have s3:zQ true 2 (f2 (fP vY vK) yM zN) [sT c.w,some (.lf s (zO r)),none]=some (.nx [sT c.w,some (.lf s (zO r)),sI ((r.length/2:Nat):Int)]):=yL (i:=2) (X7 (wl none) (zb (x:=.int 2)) (by decide) (yW (by decide) (by decide))) (zF rfl)
     have l1:(r.take (r.length/2)).length=r.length/2:=by rw[zzQ];omega
     have l2:(r.drop (r.length/2)).length=r.length-r.length/2:=List.length_drop
     obtain⟨x,p,a1,a2,a3⟩:=zjU h k (r.take (r.length/2)) (by omega) (by omega) (by omega) (λv mv=>hv v (List.mem_of_mem_take mv)) true
     obtain⟨y,q,b1,b2,b3⟩:=zjU h k (r.drop (r.length/2)) (by omega) (by omega) (by omega) (λv mv=>hv v (List.mem_of_mem_drop mv)) true
     rw[l1]at a3
     rw[l2]at b3
     obtain⟨q1,q2,q3⟩:=zwK (by omega) (by omega) (by omega) a3 b3
     obtain⟨d,d1,d2⟩:=Zv h a2 b2 (by omega) (by omega)
     have sp:(r.map D.int)=(r.take (r.length/2)).map D.int++(r.drop (r.length/2)).map D.int:=by rw[<-QzK,List.take_append_drop]
     have c1:=zqI (xs:=(r.take (r.length/2)).map D.int) (ys:=(r.drop (r.length/2)).map D.int)
     have c2:=zhU (xs:=(r.take (r.length/2)).map D.int) (ys:=(r.drop (r.length/2)).map D.int)
     rw[<-sp,zS,l1]at c1 c2
     have w1:WE (fSl zy oN (oS zU) slP) [sT c.w,some (.lf s (zO r)),sI ((r.length/2:Nat):Int)] (zO (r.take (r.length/2))):=zgS (za (i:=1) rfl) rfl rfl c1
     have w2:WE (fSl zy (oS zU) oN slP) [sT c.w,some (.lf s (zO r)),sI ((r.length/2:Nat):Int)] (zO (r.drop (r.length/2))):=zgS (za (i:=1) rfl) rfl rfl c2
     have wy:WE zq [sT c.w,some (.lf s (zO r)),sI ((r.length/2:Nat):Int)] c.w:=WD.e (za (i:=0) rfl)
     rw[List.take_append_drop]at d2
     exact⟨d,_,yr rfl (zp (zL t0 rfl) (zp (zL t1 rfl) (zp s3 (zR (yN wy (xY wy w1 a1) (xY wy w2 b1) d1))))),d2,by rw[show r.length/2+(r.length-r.length/2)=r.length by omega]at q3;exact q3⟩
theorem zwU(h:c.Ok)(hl:r.length<=1000)(hv:c.In r)(s:Bool):∃d,RE (vV 20 [(true,c.w),(s,zO r)]) d/\OT c d r:=by
 by_cases e:r=[]
 · subst e
   exact⟨.non,yr rfl (yD (yU (yp (YJ (c:=true) (xM (x:=.int 0) (g:=vK) (zM (za (i:=1) rfl) zY) rfl rfl) zb rfl) rfl) (zR (WD.e zb)))),.n⟩
 · obtain⟨d,p,a,b,_⟩:=zjU h 19 r (List.length_pos_iff.mpr e) (zzM hl (by decide)) hl hv s
   exact⟨d,a,b.o⟩
theorem gtD{a b:EF}{as:AS}(k:TK c x r p)(l:TK c y s q)(ha:WD a as true x)(hb:WD b as true y):WT (fT (f2 (f1 a (yu yR "deep")) (f2 (f1 b (yu yR "deep")) zX zE) (zK .Gt))) as (decide (q+1<p)):=by
 have:=yp (zuJ (k.deep ha) (yC (l.deep hb) (zb (x:=.int 1)))) rfl
 rw[show decide ((q:Int)+1<p)=decide (q+1<p)from decide_eq_decide.mpr (by omega)]at this
 exact this
theorem geD{a b:EF}{as:AS}(k:TK c x r p)(l:TK c y s q)(ha:WD a as true x)(hb:WD b as true y):WT (fT (f2 (f1 a (yu yR "deep")) (f1 b (yu yR "deep")) (zK .GtE))) as (decide (q<=p)):=by
 have:=yp (zxy (k.deep ha) (l.deep hb)) rfl
 rw[show decide ((q:Int)<=p)=decide (q<=p)from decide_eq_decide.mpr (by omega)]at this
 exact this
theorem zuh(h:c.Ok)(k:TK c x r p)(l:TK c y s q)(e:p=q+2):∃d u,RE (ZQ [(true,c.w),(true,x),(true,y)]) d/\TK c d (r++s) u/\p<=u/\u<=p+1:=by
 obtain⟨x1,x2,r1,r2,p1,p2,k0,k1,k2,k3,k4,k5,rfl⟩:=Xb h k (by omega)
 have wy:∀a b,WE zq [sT c.w,sT x,sT y,a,b] c.w:=λ_ _=>WD.e (za (i:=0) rfl)
 have v2:∀a b,WE zU [sT c.w,sT x,sT y,a,b] y:=λ_ _=>WD.e (za (i:=2) rfl)
 have s3:=Zb (p:=3) (xY (wy none none) (WD.e (za (i:=1) rfl)) k0) (zF rfl)
 have u0:∀b,WD (f2 ym yc ixP) [sT c.w,sT x,sT y,sT (.tup [x1,x2]),b] true x1:=λ_=>YW (j:=3) rfl rfl
 have u1:∀b,WD (f2 ym zX ixP) [sT c.w,sT x,sT y,sT (.tup [x1,x2]),b] true x2:=λ_=>YW (j:=3) rfl rfl
 have t:=geD k1 k2 (u0 none) (u1 none)
 by_cases g:p2<=p1
 · rw[QzM g]at t
   obtain⟨d1,a1,a2⟩:=Zv h k2 l (by omega) (by omega)
   obtain⟨d2,b1,b2⟩:=Zv h k1 a2 (by omega) (by omega)
   rw[<-QyA]at b2
   exact⟨d2,_,yr rfl (zp s3 (yD (yU t (zR (yN (wy _ _) (WD.e (u0 _)) (yN (wy _ _) (WD.e (u1 _)) (v2 _ _) a1) b1))))),b2,by omega,by omega⟩
 · rw[QzE g]at t
   obtain⟨z1,z2,s1,s2,q1,q2,l0,l1,l2,l3,l4,l5,rfl⟩:=Xb h k2 (by omega)
   obtain⟨d1,a1,a2⟩:=Zv h k1 l1 (by omega) (by omega)
   obtain⟨d2,b1,b2⟩:=Zv h l2 l (by omega) (by omega)
   obtain⟨d3,c1,c2⟩:=Zv h a2 b2 (by omega) (by omega)
   have s4:=Zb (p:=4) (xY (wy _ _) (WD.e (u1 none)) l0) (zF rfl)
   rw[show r1++s1++(s2++s)=r1++(s1++s2)++s by simp only[QyA]]at c2
   exact⟨d3,_,yr rfl (zp s3 (zp (zL t rfl) (zp s4 (zR (yN (wy _ _) (yN (wy _ _) (WD.e (u0 _)) (WD.e (YW (j:=4) rfl rfl)) a1) (yN (wy _ _) (WD.e (YW (j:=4) rfl rfl)) (v2 _ _) b1) c1))))),c2,by omega,by omega⟩
theorem zqn(h:c.Ok)(k:TK c x r p)(l:TK c y s q)(e:q=p+2):∃d u,RE (Zc [(true,c.w),(true,x),(true,y)]) d/\TK c d (r++s) u/\q<=u/\u<=q+1:=by
 obtain⟨x1,x2,r1,r2,p1,p2,k0,k1,k2,k3,k4,k5,rfl⟩:=Xb h l (by omega)
 have wy:∀a b,WE zq [sT c.w,sT x,sT y,a,b] c.w:=λ_ _=>WD.e (za (i:=0) rfl)
 have v1:∀a b,WE zy [sT c.w,sT x,sT y,a,b] x:=λ_ _=>WD.e (za (i:=1) rfl)
 have s3:=Zb (p:=3) (xY (wy none none) (WD.e (za (i:=2) rfl)) k0) (zF rfl)
 have u0:∀b,WD (f2 ym yc ixP) [sT c.w,sT x,sT y,sT (.tup [x1,x2]),b] true x1:=λ_=>YW (j:=3) rfl rfl
 have u1:∀b,WD (f2 ym zX ixP) [sT c.w,sT x,sT y,sT (.tup [x1,x2]),b] true x2:=λ_=>YW (j:=3) rfl rfl
 have t:=geD k2 k1 (u1 none) (u0 none)
 by_cases g:p1<=p2
 · rw[QzM g]at t
   obtain⟨d1,a1,a2⟩:=Zv h k k1 (by omega) (by omega)
   obtain⟨d2,b1,b2⟩:=Zv h a2 k2 (by omega) (by omega)
   rw[QyA]at b2
   exact⟨d2,_,yr rfl (zp s3 (yD (yU t (zR (yN (wy _ _) (yN (wy _ _) (v1 _ _) (WD.e (u0 _)) a1) (WD.e (u1 _)) b1))))),b2,by omega,by omega⟩
 · rw[QzE g]at t
   obtain⟨z1,z2,s1,s2,q1,q2,l0,l1,l2,l3,l4,l5,rfl⟩:=Xb h k1 (by omega)
   obtain⟨d1,a1,a2⟩:=Zv h k l1 (by omega) (by omega)
   obtain⟨d2,b1,b2⟩:=Zv h l2 k2 (by omega) (by omega)
   obtain⟨d3,c1,c2⟩:=Zv h a2 b2 (by omega) (by omega)
   have s4:=Zb (p:=4) (xY (wy _ _) (WD.e (u0 none)) l0) (zF rfl)
   rw[show r++s1++(s2++r2)=r++(s1++s2++r2) by simp only[QyA]]at c2
   exact⟨d3,_,yr rfl (zp s3 (zp (zL t rfl) (zp s4 (zR (yN (wy _ _) (yN (wy _ _) (v1 _ _) (WD.e (YW (j:=4) rfl rfl)) a1) (yN (wy _ _) (WD.e (YW (j:=4) rfl rfl)) (WD.e (u1 _)) b1) c1))))),c2,by omega,by omega⟩
theorem zow(h:c.Ok)(k:TK c x r p)(l:TK c y s q)(h1:p<=q+2)(h2:q<=p+2):∃d u,RE (Wc [(true,c.w),(true,x),(true,y)]) d/\TK c d (r++s) u/\max p q<=u/\u<=1+max p q/\(p<=q+1->q<=p+1->u=1+max p q):=by
 have v1:WD zy [sT c.w,sT x,sT y] true x:=za (i:=1) rfl
 have v2:WD zU [sT c.w,sT x,sT y] true y:=za (i:=2) rfl
 have wy:WE zq [sT c.w,sT x,sT y] c.w:=WD.e (za (i:=0) rfl)
 have t1:=gtD k l v1 v2
 have t2:=gtD l k v2 v1
 by_cases g:q+1<p
 · rw[QzM g]at t1
   obtain⟨d,u,a,b,b1,b2⟩:=zuh h k l (by omega)
   exact⟨d,u,yr rfl (yD (yU t1 (zR (yN wy (WD.e v1) (WD.e v2) a)))),b,by omega,by omega,by omega⟩
 · rw[QzE g]at t1
   by_cases g2:p+1<q
   · rw[QzM g2]at t2
     obtain⟨d,u,a,b,b1,b2⟩:=zqn h k l (by omega)
     exact⟨d,u,yr rfl (zp (zL t1 rfl) (yD (yU t2 (zR (yN wy (WD.e v1) (WD.e v2) a))))),b,by omega,by omega,by omega⟩
   · rw[QzE g2]at t2
     obtain⟨d,a,b⟩:=Zv h k l (by omega) (by omega)
     exact⟨d,_,yr rfl (zp (zL t1 rfl) (zp (zL t2 rfl) (zR (yN wy (WD.e v1) (WD.e v2) a)))),b,by omega,by omega,λ_ _=>rfl⟩
theorem znu(h:c.Ok):∀(n:Nat) {x y:D}{r s:List Int}{p q:Nat},TK c x r p->TK c y s q->p<n->q<n->∃d u,RE (yz n [(true,c.w),(true,x),(true,y)]) d/\TK c d (r++s) u/\max p q<=u/\u<=1+max p q
 |0,_,_,_,_,_,_,_,_,h,_=>absurd h (Nat.not_lt_zero _)
 |n+1,x,y,r,s,p,q,k,l,hp,hq=>by
  have v1:∀a,WD zy [sT c.w,sT x,sT y,a] true x:=λ_=>za (i:=1) rfl
  have v2:∀a,WD zU [sT c.w,sT x,sT y,a] true y:=λ_=>za (i:=2) rfl
  have wy:∀a,WE zq [sT c.w,sT x,sT y,a] c.w:=λ_=>WD.e (za (i:=0) rfl)
  have t1:=gtD k l (v1 none) (v2 none)
  have t2:=gtD l k (v2 none) (v1 none)
  have n1:=k.isN (v1 none)
  have n2:=l.isN (v2 none)
  by_cases g:q+1<p
  · rw[QzM g]at t1
    obtain⟨x1,x2,r1,r2,p1,p2,k0,k1,k2,k3,k4,k5,rfl⟩:=Xb h k (by omega)
    obtain⟨d,u,a1,a2,a3,a4⟩:=znu h n k2 l (by omega) (by omega)
    obtain⟨d',u',b1,b2,b3,b4,b5⟩:=zow h k1 a2 (by omega) (by omega)
    have s3:=Zb (p:=3) (xY (wy none) (WD.e (v1 _)) k0) (zF rfl)
    rw[<-QyA]at b2
    exact⟨d',u',yr rfl (zp (zL n1 rfl) (zp (zL n2 rfl) (yD (yU t1 (zp s3 (zR (yN (wy _) (WD.e (YW (j:=3) rfl rfl)) (yN (wy _) (WD.e (YW (j:=3) rfl rfl)) (WD.e (v2 _)) a1) b1))))))),b2,by omega,by omega⟩
  · rw[QzE g]at t1
    by_cases g2:p+1<q
    · rw[QzM g2]at t2
      obtain⟨x1,x2,r1,r2,p1,p2,k0,k1,k2,k3,k4,k5,rfl⟩:=Xb h l (by omega)
      obtain⟨d,u,a1,a2,a3,a4⟩:=znu h n k k1 (by omega) (by omega)
      obtain⟨d',u',b1,b2,b3,b4,b5⟩:=zow h a2 k2 (by omega) (by omega)
      have s3:=Zb (p:=3) (xY (wy none) (WD.e (v2 _)) k0) (zF rfl)
      rw[QyA]at b2
      exact⟨d',u',yr rfl (zp (zL n1 rfl) (zp (zL n2 rfl) (zp (zL t1 rfl) (yD (yU t2 (zp s3 (zR (yN (wy _) (yN (wy _) (WD.e (v1 _)) (WD.e (YW (j:=3) rfl rfl)) a1) (WD.e (YW (j:=3) rfl rfl)) b1)))))))),b2,by omega,by omega⟩
    · rw[QzE g2]at t2
      obtain⟨d,a,b⟩:=Zv h k l (by omega) (by omega)
      exact⟨d,_,yr rfl (zp (zL n1 rfl) (zp (zL n2 rfl) (zp (zL t1 rfl) (zp (zL t2 rfl) (zR (yN (wy _) (WD.e (v1 _)) (WD.e (v2 _)) a)))))),b,by omega,by omega⟩
theorem zsq(h:c.Ok)(k:OT c x r)(l:OT c y s)(h1:r.length<=1000)(h2:s.length<=1000):∃d,RE (yz 20 [(true,c.w),(true,x),(true,y)]) d/\OT c d (r++s):=by
 have wN:WT (fT (f2 zy (fC .non) (zK .Is))) [sT c.w,sT .non,sT y,none] true:=yp (zV (za (i:=1) rfl) zb rfl rfl) rfl
 rcases k with⟨rfl,rfl⟩|⟨p,k⟩
 · exact⟨y,yr rfl (yD (yU wN (zR (WD.e (za (i:=2) rfl))))),l⟩
 rcases l with⟨rfl,rfl⟩|⟨q,l⟩
 · refine⟨x,yr rfl (zp (zL (k.isN (za (i:=1) rfl)) rfl) (yD (yU (yp (zV (za (i:=2) rfl) zb rfl rfl) rfl) (zR (WD.e (za (i:=1) rfl)))))), ?_⟩
   rw[QzC];exact k.o
 · obtain⟨d,u,a,b,_⟩:=znu h 20 k l (k.lt h1) (l.lt h2)
   exact⟨d,a,b.o⟩
end
theorem zsC{k:Int}(k0:0<=k)(k1:k<=300):(0:Int)<2*2 ^ (8*k).toNat/\(2*2 ^ (8*k).toNat:Int).natAbs<big:=by
 have p:(0:Int)<2 ^ (8*k).toNat:=Int.pow_pos (by decide)
 refine⟨by omega, ?_⟩
 have e:(2*2 ^ (8*k).toNat:Int).natAbs=2 ^ ((8*k).toNat+1):=by
  rw[Int.natAbs_mul,Int.natAbs_pow,Nat.pow_succ,Nat.mul_comm];rfl
 rw[e]
 unfold big
 exact Nat.pow_lt_pow_right (by decide) (by omega)
def mx(c k:Int):Int:=if c%2=0 then c/(2*2 ^ (8*k).toNat)else
 let x:=(c%2147483647+69621*k+7919)*48271%2147483647
 let y:=x*x%2147483629
 (y*y+16807*k)%2147483587
theorem zdQ{c k:Int}{s t:Bool}(k0:0<=k)(k1:k<=300):zg [(s,.int c),(t,.int k)]=sI (mx c k):=by
 have b8:(8:Int).natAbs<big:=yW (by decide) (by decide)
 have bk:k.natAbs<big:=yW (by omega) (by omega)
 have t0:WT (fT (f2 (f2 zq yM zx) yc (zK .Eq))) [some (.lf s (.int c)),some (.lf t (.int k)),none] (c%2==0):=yp (YJ (c:=c%2==0) (yF (za (i:=0) rfl) zb (by decide)) zb rfl) rfl
 by_cases h:c%2=0
 · rw[show(c%2==0)=true by simp[h]]at t0
   obtain⟨p0,p1⟩:=zsC k0 k1
   have w:=zV (as:=[some (.lf s (.int c)),some (.lf t (.int k)),none]) (g:=zwW) (z:=.int (2*2 ^ (8*k).toNat)) (zb (x:=.int 2)) (Xj (zb (x:=.int 8)) (za (i:=1) (x:=.int k) (s:=t) rfl) b8 bk) (by
    show(if(0:Int)<=8*k/\8*k<=1000000/\(2:Int).natAbs<2 ^ 64 then _ else _)=_
    rw[if_pos ⟨by omega,by omega,by decide⟩]) rfl
   unfold mx
   rw[if_pos h]
   exact Va rfl (zap (Yd t0 (Vd (X7 (za (i:=0) rfl) w p0 p1))))
 · rw[show(c%2==0)=false by simp[h]]at t0
   unfold mx
   rw[if_neg h]
   have c0:=QzL c (show(2147483647:Int)≠0 by decide)
   have c1:=QzF c (show(0:Int)<2147483647 by decide)
   have w1:=yF (as:=[some (.lf s (.int c)),some (.lf t (.int k)),none]) (Xj (yC (yC (yF (za (i:=0) (x:=.int c) (s:=s) rfl) (zb (x:=.int 2147483647)) (by decide)) (Xj (zb (x:=.int 69621)) (za (i:=1) (x:=.int k) (s:=t) rfl) (yW (by decide) (by decide)) bk)) (zb (x:=.int 7919))) (zb (x:=.int 48271)) (yW (by omega) (by omega)) (yW (by decide) (by decide))) (zb (x:=.int 2147483647)) (by decide)
   have u0:=QzL ((c%2147483647+69621*k+7919)*48271) (show(2147483647:Int)≠0 by decide)
   have u1:=QzF ((c%2147483647+69621*k+7919)*48271) (show(0:Int)<2147483647 by decide)
   generalize (c%2147483647+69621*k+7919)*48271%2147483647=x at w1 u0 u1
   have w2:=yF (as:=[some (.lf s (.int c)),some (.lf t (.int k)),sI x]) (Xj (za (i:=2) (x:=.int x) (s:=true) rfl) (za (i:=2) (x:=.int x) (s:=true) rfl) (yW (by omega) (by omega)) (yW (by omega) (by omega))) (zb (x:=.int 2147483629)) (by decide)
   have v0:=QzL (x*x) (show(2147483629:Int)≠0 by decide)
   have v1:=QzF (x*x) (show(0:Int)<2147483629 by decide)
   show _=sI ((x*x%2147483629*(x*x%2147483629)+16807*k)%2147483587)
   generalize x*x%2147483629=y at w2 v0 v1
   have w3:=yF (as:=[some (.lf s (.int c)),some (.lf t (.int k)),sI y]) (yC (Xj (za (i:=2) (x:=.int y) (s:=true) rfl) (za (i:=2) (x:=.int y) (s:=true) rfl) (yW (by omega) (by omega)) (yW (by omega) (by omega))) (Xj (zb (x:=.int 16807)) (za (i:=1) (x:=.int k) (s:=t) rfl) (yW (by decide) (by decide)) bk)) (zb (x:=.int 2147483587)) (by decide)
   exact Va rfl (yw (zL t0 rfl) (yw (yL (i:=2) w1 (zF rfl)) (yw (yL (i:=2) w2 (zF rfl)) (Vd w3))))
abbrev d6(c:Int)(w n:Nat)(r:List Int)(x:Int)(z:Option O):AS:=[sI c,sI w,sI n,some (xJ r),sI x,z]
abbrev drB:SF:=(sIf (zdU (fT (f2 (f2 zq yM zx) yc (zK .Eq))) (fT (f2 xf (fC (.int 60)) (zK .Lt)))) (zH (wQ (Zm 3 (dC (f2 yt zU zx) dN) Za))
 (zQ true 4 (f2 yt zU zN))) (zH (zQ true 4 (f2 (f2 (f2 (f2 (f2 yt (fC (.int 2147483647)) zx) (fC (.int 48271)) zZ) (f2 xf xf zZ) zE) (fC (.int 7919)) zE) (fC (.int 2147483629)) zx))
 (wQ (Zm 3 (dC (f2 (f2 (f2 (f2 yt yt zZ) (fC (.int 2147483647)) zx) (fC (.int 64)) zN) zU zx) dN) Za))))
theorem zuy{c:Int}{w n:Nat}{r:List Int}{x:Int}{z:Option O}{a:EF}{v:Int}(hl:r.length<=900)(h:WD a (d6 c w n r x z) true (.int v)):wQ (Zm 3 (dC a dN) Za) (d6 c w n r x z)=some (.nx (d6 c w n (r++[v]) x z)):=by
 rw[zkz (i:=3) (os:=r.map lfI) rfl (by rw[zS];exact zzI (show r.length<1000 by omega) (szs (by decide))) h]
 show some (Out.nx [_,_,_,some (O.nd .ls (r.map lfI++[lfI v])),_,_])=_
 rw[show r.map lfI++[lfI v]=(r++[v]).map lfI by rw[QzK];rfl]
theorem zwp{c:Int}{w n:Nat}{r:List Int}{x:Int}{k:Nat}(hn:1<=n)(n8:n<=8)(hk:k<=300)(hl:r.length<=900):∃v x',InR n v/\drB (d6 c w n r x (sI k))=some (.nx (d6 c w n (r++[v]) x' (sI k))):=by
 have nb:((n:Int)).natAbs<big:=yW (by omega) (by omega)
 have t0:WT (zdU (fT (f2 (f2 zq yM zx) yc (zK .Eq))) (fT (f2 xf (fC (.int 60)) (zK .Lt)))) (d6 c w n r x (sI k)) ((c%2==0)&&decide ((k:Int)<60)):=znc (k:=c%2==0) (yp (YJ (c:=c%2==0) (yF (za (i:=0) rfl) zb (by decide)) zb rfl) rfl) (λq=>by rw[q,Bool.true_and];exact yp (zmt (za (i:=5) rfl) zb) rfl) (λq=>by rw[q];rfl)
 cases hq:((c%2==0)&&decide ((k:Int)<60))with
 |true=>
  rw[hq]at t0
  refine⟨x%n,x/n,zcx hn,Yd t0 (yw (zuy hl (yF (za (i:=4) rfl) (za (i:=2) (x:=.int n) (s:=true) rfl) (by omega))) (yL (i:=4) (X7 (za (i:=4) rfl) (za (i:=2) (x:=.int n) (s:=true) rfl) (by omega) nb) (zF rfl)))⟩
 |false=>
  rw[hq]at t0
  have c0:=QzL x (show(2147483647:Int)≠0 by decide)
  have c1:=QzF x (show(0:Int)<2147483647 by decide)
  have w1:=yF (as:=d6 c w n r x (sI k)) (yC (yC (Xj (yF (za (i:=4) (x:=.int x) (s:=true) rfl) (zb (x:=.int 2147483647)) (by decide)) (zb (x:=.int 48271)) (yW (by omega) (by omega)) (yW (by decide) (by decide))) (Xj (za (i:=5) (x:=.int k) (s:=true) rfl) (za (i:=5) (x:=.int k) (s:=true) rfl) (yW (by omega) (by omega)) (yW (by omega) (by omega)))) (zb (x:=.int 7919))) (zb (x:=.int 2147483629)) (by decide)
  have u0:=QzL (x%2147483647*48271+(k:Int)*k+7919) (show(2147483629:Int)≠0 by decide)
  have u1:=QzF (x%2147483647*48271+(k:Int)*k+7919) (show(0:Int)<2147483629 by decide)
  generalize (x%2147483647*48271+(k:Int)*k+7919)%2147483629=y at w1 u0 u1
  have w2:=yF (as:=d6 c w n r y (sI k)) (X7 (yF (Xj (za (i:=4) (x:=.int y) (s:=true) rfl) (za (i:=4) (x:=.int y) (s:=true) rfl) (yW (by omega) (by omega)) (yW (by omega) (by omega))) (zb (x:=.int 2147483647)) (by decide)) (zb (x:=.int 64)) (by decide) (yW (by decide) (by decide))) (za (i:=2) (x:=.int n) (s:=true) rfl) (by omega)
  exact⟨_,y,zcx hn,zL t0 (yw (yL (i:=4) w1 (zF rfl)) (zuy hl w2))⟩
theorem zsc{c:Int}{w n:Nat}(hn:1<=n)(n8:n<=8)(hw:w<=300):∃r,r.length=w/\(∀v ∈ r,InR n v)/\Zk [(true,.int c),(true,.int w),(true,.int n)]=some (xJ r):=by
 have s3:zQ false 3 (vo dN) [sI c,sI w,sI n,none,none,none]=some (.nx [sI c,sI w,sI n,some (xJ []),none,none]):=ZX (i:=3) (V7 yV (szl rfl)) (zF rfl)
 have s4:zQ true 4 (zj (aC zq (aC yc aN)) zg) [sI c,sI w,sI n,some (xJ []),none,none]=some (.nx (d6 c w n [] (mx c 0) none)):=yL (i:=4) (zbY (zM (za (i:=0) rfl) (zM zb zY)) (zdQ (by decide) (by decide))) (zF rfl)
 obtain⟨as',hf,r,x,z,rfl,h1,h2⟩:=Ze (g:=gN 5) (f:=drB) (λi as=>∃r x z,as=d6 c w n r x z/\r.length=i/\∀v ∈ r,InR n v) (wR 0 w) 0 (d6 c w n [] (mx c 0) none) (λi y as hy hI=>by
  obtain⟨r,x,z,rfl,h1,h2⟩:=hI
  obtain⟨rfl,hi⟩:=Yr hy
  rw[QzV]at h1 ⊢
  obtain⟨v,x',hv,hb⟩:=zwp (c:=c) (w:=w) (n:=n) (r:=r) (x:=x) (k:=i) hn n8 (by omega) (by omega)
  refine⟨d6 c w n r x (sI i),by rw[Int.zero_add];rfl,_,hb,r++[v],x',_,rfl,by rw[zzH,h1];rfl,λu mu=>?_⟩
  rcases zzK.mp mu with m|m
  · exact h2 u m
  · rcases zzA.mp m with rfl|m
    · exact hv
    · exact nomatch m) ⟨[],_,_,rfl,rfl,λ_ m=>nomatch m⟩
 rw[ZS,QzV]at h1
 refine⟨r,h1,h2, ?_⟩
 have hr:=vq (as:=d6 c w n [] (mx c 0) none) (zM (za (i:=1) (x:=.int w) (s:=true) rfl) zY) (by omega) (by omega)
 rw[QzG]at hr
 exact Va rfl (yw s3 (yw s4 (yw (Yc hr hf) (zcq (i:=3) rfl (Wv r).1))))
theorem zsU{ns:List Int}{k:Int}{s t:Bool}(hk:0<=k):∃x,zJ [(s,.lst (ns.map .int)),(t,.int k)]=sT (.int x):=by
 by_cases h:k<((ns.map D.int).length:Int)
 · obtain⟨x,hx⟩:=zta (ns:=ns) hk (by rw[zS]at h;exact h)
   exact⟨x,Va rfl (zap (Yd (yp (zmt (za rfl) (xM (zM (za rfl) zY) rfl rfl)) (congrArg some (QzM h))) (Vd (zV (za rfl) (za rfl) hx rfl))))⟩
 · exact⟨0,Va rfl (yw (zL (yp (zmt (za rfl) (xM (zM (za rfl) zY) rfl rfl)) (congrArg some (QzE h))) rfl) (Vd zb))⟩
abbrev Nx(r:Option Out)(I:AS->Prop):Prop:=∃as',r=some (.nx as')/\I as'
theorem zxQ{α:Type}{g:GF}{f:SF}{it:α->It1}(I:AS->Prop):∀(l:List α),(∀x ∈ l,∀as,I as->∃as1,g (it x) as=some as1/\Nx (f as1) I)->∀as,I as->Nx (forL g f (l.map it) as) I
 | [],_,as,h=>⟨as,rfl,h⟩
 |x::l,H,as,h=>by
  obtain⟨as1,h1,as2,h2,h3⟩:=H x zzD as h
  obtain⟨as3,h4,h5⟩:=zxQ I l (λy my=>H y (zzB _ my)) as2 h3
  exact⟨as3,XS h1 h2 h4,h5⟩
theorem zuc{α:Type}(f:α->D)(l:List α)(lo hi:Option Int):∃l':List α,l'.length<=l.length/\PF.cutD (l.map f) lo hi=l'.map f:=by
 unfold PF.cutD
 rw[zS,<-List.map_drop,<-List.map_take]
 exact⟨_,by rw[zzQ,List.length_drop];omega,rfl⟩
theorem oS1{f:EF}{as:AS}{k:Int}(h:WD f as true (.int k)):oS f as=some (some k,as):=by
 unfold oS
 unfold WD at h
 rw[h];rfl
theorem zyI{a b:EF}{as:AS}{s:Bool}{r:List Int}{k:Nat}(ha:WD a as s (zO r))(hb:WD b as true (.int k))(hk:k<=r.length):WE (fSl a oN (oS b) slP) as (zO (r.take k)):=by
 have c1:=zqI (xs:=(r.take k).map D.int) (ys:=(r.drop k).map D.int)
 rw[<-QzK,List.take_append_drop,zS,zzQ,Nat.min_eq_left hk]at c1
 exact zgS ha rfl (oS1 hb) c1
theorem zvZ{a b:EF}{as:AS}{s:Bool}{r:List Int}{k:Nat}(ha:WD a as s (zO r))(hb:WD b as true (.int k))(hk:k<=r.length):WE (fSl a (oS b) oN slP) as (zO (r.drop k)):=by
 have c1:=zhU (xs:=(r.take k).map D.int) (ys:=(r.drop k).map D.int)
 rw[<-QzK,List.take_append_drop,zS,zzQ,Nat.min_eq_left hk]at c1
 exact zgS ha (oS1 hb) rfl c1
theorem zvX{a b:EF}{as:AS}{r s:List Int}(ha:WE a as (zO r))(hb:WE b as (zO s))(hl:r.length+s.length<=1000):WE (f2 a b zE) as (zO (r++s)):=by
 have:=zvx ha hb (add_lists (xs:=r.map D.int) (ys:=s.map D.int) (by rw[zS,zS];exact szs (by omega)))
 rw[<-QzK]at this;exact this
theorem zyz{a:EF}{as:AS}{s:Bool}{r:List Int}(ha:WD a as s (zO r)):WD (fP (aC a aN) vK) as true (.int r.length):=by
 have:=xM (g:=vK) (x:=.int ((r.map D.int).length:Nat)) (zM ha zY) rfl rfl
 rw[zS]at this;exact this
theorem zmS(ns:List Int){k:Int}(hk:0<=k):∃x,∀as:AS,as[0]? = some (sT (.lst (ns.map .int)))->WD (zj (aC zq (aC (fC (.int k)) aN)) zJ) as true (.int x):=by
 obtain⟨x,e⟩:=zsU (ns:=ns) (s:=true) (t:=true) hk
 exact⟨x,λas h=>zbY (zM (za h) (zM zb zY)) e⟩
theorem eqT{a b:EF}{as:AS}{x y:Int}{s t q:Bool}(ha:WD a as s (.int x))(hb:WD b as t (.int y))(e:(x==y)=q):WT (fT (f2 a b (zK .Eq))) as q:=yp (YJ (c:=q) ha hb (congrArg some e)) rfl
def KT(k:Int)(n:Nat):Prop:=(k=0/\2<=n)\/(k=1/\2<=n)\/(k=2/\2<=n)\/(k=3/\n=4)\/(k=4/\n=6)
def jT(k:Int)(n:Nat):Int->Int->Int:=if k=4 then jB 3 (jS 2) jL else jK k n
def eT(k:Int):Int:=if k=3 then 1 else 0
theorem f6{P:Int->Prop}(h:∀a ∈ ([0,1,2,3,4,5]:List Int),P a){a:Int}(ha:InR 6 a):P a:=by
 obtain⟨h0,h1⟩:=ha
 have:a=0\/a=1\/a=2\/a=3\/a=4\/a=5:=by omega
 rcases this with rfl|rfl|rfl|rfl|rfl|rfl
 · exact h 0 (by decide)
 · exact h 1 (by decide)
 · exact h 2 (by decide)
 · exact h 3 (by decide)
 · exact h 4 (by decide)
 · exact h 5 (by decide)
theorem ztf{k:Int}{n:Nat}(h:KT k n):LJ n (jT k n) (eT k):=by
 rcases h with⟨rfl,h⟩|⟨rfl,h⟩|⟨rfl,h⟩|⟨rfl,rfl⟩|⟨rfl,rfl⟩
 · exact ljS (by omega)
 · exact ljM (by omega)
 · exact ljL (by omega)
 · exact ljP
 · have:=ljB (n1:=2) (n2:=3) (ljS (n:=2) (by decide)) (ljL (n:=3) (by decide)) (by decide)
   exact this
theorem zwf{k:Int}{n:Nat}{a b:Int}(h:KT k n)(ha:InR n a)(hb:InR n b):xN [(true,.int k),(true,.int n),(true,.int a),(true,.int b)]=sI (jT k n a b):=by
 rcases h with⟨rfl,hn⟩|⟨rfl,hn⟩|⟨rfl,hn⟩|⟨rfl,rfl⟩|⟨rfl,rfl⟩
 · exact Va rfl (zap (Yd (eqT (za (i:=0) rfl) zb rfl) (Vd (yF (yC (za (i:=2) rfl) (za (i:=3) rfl)) (za (i:=1) rfl) (by omega)))))
 · exact Va rfl (yw (zL (eqT (za (i:=0) rfl) zb rfl) rfl) (zap (Yd (eqT (za (i:=0) rfl) zb rfl) (Vd (xM (zM (za (i:=2) rfl) (zM (za (i:=3) rfl) zY)) rfl rfl)))))
 · exact Va rfl (yw (zL (eqT (za (i:=0) rfl) zb rfl) rfl) (yw (zL (eqT (za (i:=0) rfl) zb rfl) rfl) (zap (Yd (eqT (za (i:=0) rfl) zb rfl) (Vd (f2E (Zw (os:=[lfI b,lfI a]) (yq (za (i:=3) rfl) (yq (za (i:=2) rfl) yV)) (szl rfl) rfl rfl) (WD.e (xM (zM (YJ (za (i:=3) rfl) zb rfl) zY) rfl rfl)) (zof.trans (by show _=some (R0.im (.int (jL a b)));unfold jL;by_cases h:b=0<;>simp[h]))))))))
 · have P:∀a ∈ ([0,1,2,3]:List Int),∀b ∈ ([0,1,2,3]:List Int),xN [(true,.int 3),(true,.int (4:Nat)),(true,.int a),(true,.int b)]=sI (jT 3 4 a b):=by
    intro a ma b mb
    simp only[zzA,QzZ,or_false]at ma mb
    rcases ma with rfl|rfl|rfl|rfl<;>rcases mb with rfl|rfl|rfl|rfl<;>rfl
   exact f4 (P:=λa=>xN [(true,.int 3),(true,.int (4:Nat)),(true,.int a),(true,.int b)]=sI (jT 3 4 a b)) (λa m=>f4 (P:=λb=>xN [(true,.int 3),(true,.int (4:Nat)),(true,.int a),(true,.int b)]=sI (jT 3 4 a b)) (P a m) hb) ha
 · have P:∀a ∈ ([0,1,2,3,4,5]:List Int),∀b ∈ ([0,1,2,3,4,5]:List Int),xN [(true,.int 4),(true,.int (6:Nat)),(true,.int a),(true,.int b)]=sI (jT 4 6 a b):=by
    intro a ma b mb
    simp only[zzA,QzZ,or_false]at ma mb
    rcases ma with rfl|rfl|rfl|rfl|rfl|rfl<;>rcases mb with rfl|rfl|rfl|rfl|rfl|rfl<;>rfl
   exact f6 (P:=λa=>xN [(true,.int 4),(true,.int (6:Nat)),(true,.int a),(true,.int b)]=sI (jT 4 6 a b)) (λa m=>f6 (P:=λb=>xN [(true,.int 4),(true,.int (6:Nat)),(true,.int a),(true,.int b)]=sI (jT 4 6 a b)) (P a m) hb) ha
def KM(k:Int)(n m:Nat):Prop:=1<=m/\m<=6/\(k=0->m=n)/\(k=4->m=2)
def nzr(cell:Int)(n:Nat)(a:Int):Int:=if a=0 then 0 else 1+mx cell (42+a)%((n:Int)-1)
theorem zrL{cell:Int}{n:Nat}(hn:2<=n)(a:Int):InR n (nzr cell n a)/\(a≠0->nzr cell n a≠0):=by
 have h0:=QzL (mx cell (42+a)) (show((n:Int)-1)≠0 by omega)
 have h1:=QzF (mx cell (42+a)) (show(0:Int)<(n:Int)-1 by omega)
 unfold nzr
 by_cases h:a=0
 · rw[if_pos h];exact⟨⟨by omega,by omega⟩,λz=>absurd h z⟩
 · rw[if_neg h];exact⟨⟨by omega,by omega⟩,λ_=>by omega⟩
theorem ldN{cell:Int}{n m:Nat}(hn:2<=n):LD n m jL 0 (λ_ a=>nzr cell n a):=ldL (if_pos rfl) (λa _=>(zrL hn a).1) λa _ h=>(zrL hn a).2 h
theorem ldZ{n:Nat}{x y:Int}(hn:1<=n):LD n n (jS n) 0 (λc a=>(x*a+y*c)%n):=
 LD.congr (j:=jS n) (by omega) (ljS (by omega)) (ldS (n:=n) (m:=n) (g:=(n:Int)) (x0:=x) (x1:=y) (by omega) (by omega) (by omega) (Int.dvd_refl _) (Int.dvd_refl _)) (λ_ _ _ _=>rfl) λc a _ _=>by
  rw[Int.ediv_self (by omega),Int.mul_one,Int.mul_comm x,Int.mul_comm y]
theorem znN{a:Int}{n:Nat}(h:InR n a)(hn:n<=8):a.natAbs<2 ^ 64:=by
 obtain⟨h0,h1⟩:=h
 have:a.natAbs<8:=by omega
 exact zzI this (by decide)
abbrev O8(k:Int)(n:Nat)(cell c a x y:Int)(z:Option O):AS:=[sI k,sI n,sI cell,sI c,sI a,sI x,sI y,z]
theorem zdJ{k:Int}{n:Nat}{cell c a v:Int}(h:∀x y,x=mx cell 40->y=mx cell 41->Rt ((zH (sIf (fT (f2 zq yc (zK .Eq))) (zT (f2 (f2 (f2 xf yt zZ) (f2 wM ym zZ) zE) zy zx)) sNx)
 (zH (sIf (fT (f2 zq zX (zK .Eq))) (zH (zQ true 7 (fP (aC (wG (xU (aC (f2 zy zX Zn) aN) xW) [none,some 1,some 2] Wu YM (f2 (zj (aC zU (aC (f2 (fC (.int 42)) zq zE) aN)) zg) zy zx)) aN) zoh))
 (zT (f2 (f2 (vo (dC yc dN)) WL zE) yt ixP))) sNx)
 (zH (sIf (fT (f2 zq yM (zK .Eq))) (zT (f2 (vo (dC (f2 zX (f2 (zj (aC zU (aC (f2 (fC (.int 42)) yt zE) aN)) zg) (f2 zy zX Zn) zx) zE) (dC yc dN))) (fP (aC (f2 yt yc (zK .Eq)) aN) zaN) ixP)) sNx)
 (zH (sIf (fT (f2 zq xR (zK .Eq))) (zT (f2 (vo (dC yt (dC (f2 (f2 (f2 yM (f2 zX (f2 yt yM zx) Zn) zZ) zX zE) (f2 yt yM zN) Zn) dN))) (f2 xf yM zx) ixP)) sNx)
 (zT (f2 (f2 xR (f2 (f2 (f2 xf (f2 yt xR zN) zZ) (f2 wM ym zZ) zE) yM zx) zZ) (f2 (vo (dC (f2 zX (f2 (zj (aC zU (aC (f2 (fC (.int 42)) (f2 yt xR zx) zE) aN)) zg) yM zx) zE) (dC yc dN))) (fP (aC (f2 (f2 yt xR zx) yc (zK .Eq)) aN) zaN) ixP) zE)))))) (O8 k n cell c a x y none)) (.int v)):RE (Zy [(true,.int k),(true,.int n),(true,.int cell),(true,.int c),(true,.int a)]) (.int v):=by
 have s5:zQ true 5 (zj (aC zU (aC (fC (.int 40)) aN)) zg) [sI k,sI n,sI cell,sI c,sI a,none,none,none]=some (.nx [sI k,sI n,sI cell,sI c,sI a,sI (mx cell 40),none,none]):=yL (i:=5) (zbY (zM (za (i:=2) rfl) (zM zb zY)) (zdQ (by decide) (by decide))) (zF rfl)
 have s6:zQ true 6 (zj (aC zU (aC (fC (.int 41)) aN)) zg) [sI k,sI n,sI cell,sI c,sI a,sI (mx cell 40),none,none]=some (.nx (O8 k n cell c a (mx cell 40) (mx cell 41) none)):=yL (i:=6) (zbY (zM (za (i:=2) rfl) (zM zb zY)) (zdQ (by decide) (by decide))) (zF rfl)
 exact yr rfl (zp s5 (zp s6 (h _ _ rfl rfl)))
theorem zeA{as:AS}{f g:EF}{c k:Int}{s t:Bool}(hf:WD f as s (.int c))(hg:WD g as t (.int k))(k0:0<=k)(k1:k<=300):WD (zj (aC f (aC g aN)) zg) as true (.int (mx c k)):=zbY (zM hf (zM hg zY)) (zdQ k0 k1)
theorem zvn{k:Int}{n m:Nat}(cell:Int)(h:KT k n)(n8:n<=8)(hm:KM k n m):∃d:Int->Int->Int,LD n m (jT k n) (eT k) d/\∀c a,InR m c->InR n a->RE (Zy [(true,.int k),(true,.int n),(true,.int cell),(true,.int c),(true,.int a)]) (.int (d c a)):=by
 obtain⟨m1,m6,hm0,hm4⟩:=hm
 rcases h with⟨rfl,hn⟩|⟨rfl,hn⟩|⟨rfl,hn⟩|⟨rfl,rfl⟩|⟨rfl,rfl⟩
 · have e:=hm0 rfl
   subst e
   refine⟨λc a=>(mx cell 40*a+mx cell 41*c)%m,ldZ (by omega),λc a hc ha=>zdJ λx y hx hy=>?_⟩
   subst hx hy
   exact yD (yU (eqT (za (i:=0) rfl) zb rfl) (zR (WD.e (yF (yC (zch (za (i:=5) rfl) (za (i:=4) rfl) (znN ha n8)) (zch (za (i:=6) rfl) (za (i:=3) rfl) (znN hc n8))) (za (i:=1) rfl) (by omega)))))
 · -- a rising row
   let ys:List Int:=(List.range (n-1)).map λi:Nat=>mx cell (42+(i:Int))%n
   have ly:ys.length=n-1:=by rw[zS,QzS]
   have iy:∀y ∈ ys,InR n y:=λy my=>by
    obtain⟨i,_,rfl⟩:=QyB.mp my
    exact zcx (by omega)
   have hp:=sortI_perm ys
   have hlen:(sortI ys).length=n-1:=by rw[hp.length_eq,ly]
   have hr:Row n (0::sortI ys):=⟨by rw[zzR,hlen];omega,λy m=>by
    rcases zzA.mp m with rfl|m
    · omega
    · exact iy y (hp.mem_iff.mp m)⟩
   refine⟨λ_ a=>rAt (0::sortI ys) a,ldM (by omega) rfl (λa ha=>(rowAt hr ha).2) λa b ha hb hab=>?_,λc a hc ha=>zdJ λx y hx hy=>?_⟩
   · by_cases he:a=b
     · rw[he];exact Int.le_refl _
     have a0:=ha.1
     have b1:=hb.2
     have hs:(0::sortI ys).Pairwise (· <= ·):=List.pairwise_cons.mpr ⟨λy m=>(iy y (hp.mem_iff.mp m)).1,zas ys⟩
     rw[Y8 (by rw[hr.1];omega),Y8 (by rw[hr.1];omega)]
     exact zpK hs (by omega) (by rw[hr.1];omega)
   · have hrg:=vq (as:=O8 1 n cell c a x y none) (zM (zdd (za (i:=1) (x:=.int n) (s:=true) rfl) (zb (x:=.int 1))) zY) (by omega) (by omega)
     rw[show((n:Int)-1).toNat=n-1 by omega]at hrg
     have wm:=Wd (as:=O8 1 n cell c a x y none) (h:=λi:Nat=>D.int (mx cell (42+(i:Int))%n)) (it:=λi:Nat=>(true,D.int (0+(i:Int)))) (fi:=xU (aC (f2 zy zX Zn) aN) xW) (cap:=[none,some 1,some 2]) (gg:=gN 0) (fe:=f2 (zj (aC zU (aC (f2 (fC (.int 42)) zq zE) aN)) zg) zy zx) (List.range (n-1)) hrg (by rw[QzS];omega) (λi mi=>by
      have hi:=List.mem_range.mp mi
      rw[Int.zero_add]
      exact⟨[sI i,sI n,sI cell],rfl,WD.e (yF (zeA (za (i:=2) rfl) (yC (zb (x:=.int 42)) (za (i:=0) (x:=.int i) (s:=true) rfl)) (by omega) (by omega)) (za (i:=1) (x:=.int n) (s:=true) rfl) (by omega))⟩)
     have e1:(List.range (n-1)).map (λi:Nat=>D.int (mx cell (42+(i:Int))%n))=ys.map D.int:=by rw[zzZ];rfl
     rw[e1]at wm
     have wsr:=zsv (g:=zoh) (zs:=(sortI ys).map D.int) wm (by
      show(zaP (ys.map D.int)).bind _=_
      rw[zlH]
      show(if ys.length<64 then _ else _)=_
      rw[if_pos (by omega)])
     have s7:=Zb (p:=7) (⟨_,wsr,zjB _,congrArg D.lst (zjL _)⟩:WE _ _ (.lst ((sortI ys).map D.int))) (zF rfl)
     have wl:=zvx (as:=O8 1 n cell c a x y (sT (.lst ((sortI ys).map D.int)))) (Zw (os:=[lfI 0]) (yq zb yV) (szl rfl) rfl rfl) (WD.e (za (i:=7) rfl)) (add_lists (xs:=[.int 0]) (ys:=(sortI ys).map D.int) (by rw[zS,hlen];exact szs (by show 1+_<=_;omega)))
     exact zp (zL (eqT (za (i:=0) rfl) zb rfl) rfl) (yD (yU (eqT (za (i:=0) rfl) zb rfl) (zp s7 (zR (zbv wl (WD.e (za (i:=4) rfl)) (rowAt hr ha).1)))))
 · refine⟨λ_ a=>nzr cell n a,ldN hn,λc a hc ha=>zdJ λx y hx hy=>?_⟩
   have a0:=ha.1
   have a1:=ha.2
   exact zp (zL (eqT (za (i:=0) rfl) zb rfl) rfl) (zp (zL (eqT (za (i:=0) rfl) zb rfl) rfl) (yD (yU (eqT (za (i:=0) rfl) zb rfl) (zR (zbv (Zw (os:=[lfI (1+mx cell (42+a)%((n:Int)-1)),lfI 0]) (yq (yC zb (yF (zeA (za (i:=2) rfl) (yC (zb (x:=.int 42)) (za (i:=4) rfl)) (by omega) (by omega)) (zdd (za (i:=1) (x:=.int n) (s:=true) rfl) zb) (by omega))) (yq zb yV)) (szl rfl) rfl rfl) (WD.e (xM (zM (YJ (za (i:=4) rfl) zb rfl) zY) rfl rfl)) (zof.trans (by show _=some (R0.im (.int (nzr cell n a)));unfold nzr;by_cases h:a=0<;>simp[h])))))))
 · let r:Int->Int:=λa=>if(mx cell 40%2==1)=true then sP a else a
   have hr:(∀a,InR 4 a->r a=a)\/(∀a,InR 4 a->r a=sP a):=by
    by_cases h:(mx cell 40%2==1)=true
    · exact .inr λa _=>if_pos h
    · exact .inl λa _=>if_neg h
   refine⟨λ_ a=>r a,ldP hr,λc a hc ha=>zdJ λx y hx hy=>?_⟩
   subst hx
   have a0:=QzL a (show(2:Int)≠0 by decide)
   have a1:=QzF a (show(0:Int)<2 by decide)
   have x0:=QzL (mx cell 40) (show(2:Int)≠0 by decide)
   have x1:=QzF (mx cell 40) (show(0:Int)<2 by decide)
   have wi:=yF (as:=O8 3 4 cell c a (mx cell 40) y none) (za (i:=5) (x:=.int (mx cell 40)) (s:=true) rfl) (zb (x:=.int 2)) (by decide)
   have ex:mx cell 40%2=if(mx cell 40%2==1)=true then 1 else 0:=by
    rcases(show mx cell 40%2=0\/mx cell 40%2=1 by omega)with h|h<;>rw[h]<;>rfl
   have pk:=zof (x:=a) (y:=sP a) (c:=mx cell 40%2==1)
   rw[<-ex]at pk
   have wsp:WD (f2 (f2 (f2 yM (f2 zX (f2 yt yM zx) Zn) zZ) zX zE) (f2 yt yM zN) Zn) (O8 3 4 cell c a (mx cell 40) y none) true (.int (sP a)):=zdd (yC (zch zb (zdd (zb (x:=.int 1)) (yF (za (i:=4) (x:=.int a) (s:=true) rfl) zb (by decide))) (zzI (show(1-a%2).natAbs<8 by omega) (by decide))) zb) (X7 (za (i:=4) rfl) zb (by decide) (yW (by decide) (by decide)))
   exact zp (zL (eqT (za (i:=0) rfl) zb rfl) rfl) (zp (zL (eqT (za (i:=0) rfl) zb rfl) rfl) (zp (zL (eqT (za (i:=0) rfl) zb rfl) rfl) (yD (yU (eqT (za (i:=0) rfl) zb rfl) (zR (zbv (Zw (os:=[lfI a,lfI (sP a)]) (yq (za (i:=4) rfl) (yq wsp yV)) (szl rfl) rfl rfl) (WD.e wi) pk))))))
 · have e:=hm4 rfl
   subst e
   have ld:=ldB (m:=2) (ljS (n:=2) (by decide)) (ljL (n:=3) (by decide)) (by decide) (ldZ (n:=2) (x:=mx cell 40) (y:=mx cell 41) (by decide)) (ldN (cell:=cell) (n:=3) (m:=2) (by decide))
   refine⟨_,ld,λc a hc ha=>zdJ λx y hx hy=>?_⟩
   subst hx hy
   have a0:=QzL a (show(3:Int)≠0 by decide)
   have a1:=QzF a (show(0:Int)<3 by decide)
   have b0:=ha.1
   have b1:=ha.2
   have d0:0<=a/3/\a/3<2:=by omega
   have wa3:WD (f2 yt xR zx) (O8 4 6 cell c a (mx cell 40) (mx cell 41) none) true (.int (a%3)):=yF (za (i:=4) rfl) zb (by decide)
   have w1:WD (f2 (f2 (f2 xf (f2 yt xR zN) zZ) (f2 wM ym zZ) zE) yM zx) (O8 4 6 cell c a (mx cell 40) (mx cell 41) none) true (.int ((mx cell 40*(a/3)+mx cell 41*c)%2)):=yF (yC (zch (za (i:=5) rfl) (X7 (za (i:=4) rfl) zb (by decide) (yW (by decide) (by decide))) (zzI (show(a/3).natAbs<8 by omega) (by decide))) (zch (za (i:=6) rfl) (za (i:=3) rfl) (znN hc (by decide)))) zb (by decide)
   have u0:=QzL (mx cell 40*(a/3)+mx cell 41*c) (show(2:Int)≠0 by decide)
   have u1:=QzF (mx cell 40*(a/3)+mx cell 41*c) (show(0:Int)<2 by decide)
   have w2:WD (f2 (vo (dC (f2 zX (f2 (zj (aC zU (aC (f2 (fC (.int 42)) (f2 yt xR zx) zE) aN)) zg) yM zx) zE) (dC yc dN))) (fP (aC (f2 (f2 yt xR zx) yc (zK .Eq)) aN) zaN) ixP) (O8 4 6 cell c a (mx cell 40) (mx cell 41) none) true (.int (nzr cell 3 (a%3))):=
    f2E (Zw (os:=[lfI (1+mx cell (42+a%3)%2),lfI 0]) (yq (yC zb (yF (zeA (za (i:=2) rfl) (yC (zb (x:=.int 42)) wa3) (by omega) (by omega)) zb (by decide))) (yq zb yV)) (szl rfl) rfl rfl) (WD.e (xM (zM (YJ wa3 zb rfl) zY) rfl rfl)) (zof.trans (by show _=some (R0.im (.int (nzr cell 3 (a%3))));unfold nzr;by_cases h:a%3=0<;>simp[h]))
   have w3:=yC (zch (zb (x:=.int 3)) w1 (zzI (show((mx cell 40*(a/3)+mx cell 41*c)%2).natAbs<8 by omega) (by decide))) w2
   rw[Int.mul_comm 3]at w3
   exact zp (zL (eqT (za (i:=0) rfl) zb rfl) rfl) (zp (zL (eqT (za (i:=0) rfl) zb rfl) rfl) (zp (zL (eqT (za (i:=0) rfl) zb rfl) rfl) (zp (zL (eqT (za (i:=0) rfl) zb rfl) rfl) (zR (WD.e w3)))))
abbrev R5(cell:Int)(n:Nat)(l f k:Option O):AS:=[sI cell,sI n,l,f,k]
abbrev orB:SF:=wQ (Zm 3 (dC (Zm 2 (dC (f2 (zj (aC zq (aC (f2 (fC (.int 30)) yt zE) aN)) zg) (fP wA vK) zx) dN) zbc) dN) Za)
theorem zqt{cell:Int}{n:Nat}(n8:n<=8):∃F,F.Perm (Vk n)/\RE (Yg [(true,.int cell),(true,.int n)]) (zO F):=by
 obtain⟨as',hf,L,F,e13,rfl,hp,hlen⟩:=Ze (g:=gN 4) (f:=orB)
  (λi as=>∃(L F:List Int) (e13:Option O),as=R5 cell n (sN (L.map lfI)) (sN (F.map lfI)) e13/\(L++F).Perm (Vk n)/\L.length+i=n)
  (wR 0 n) 0 (R5 cell n (sN ((Vk n).map lfI)) (sN []) none) (λi x as hx' hI=>by
   obtain⟨L,F,e13,rfl,hp,hlen⟩:=hI
   obtain⟨rfl,hi⟩:=Yr hx'
   have hL0:0<L.length:=by omega
   have hL8:L.length<=8:=by omega
   have l0:(0:Int)<((L.map lfI).length:Int):=by rw[zS];omega
   have wy:=zeA (as:=R5 cell n (sN (L.map lfI)) (sN (F.map lfI)) (sI (0+i))) (za (i:=0) (x:=.int cell) (s:=true) rfl) (yC (zb (x:=.int 30)) (za (i:=4) (x:=.int (0+i)) (s:=true) rfl)) (by omega) (by omega)
   generalize mx cell (30+(0+(i:Int)))=y at wy
   have z0:=QzL y (show((L.map lfI).length:Int)≠0 by omega)
   have z1:=QzF y l0
   have hk:(y%((L.map lfI).length:Int)).toNat<L.length:=by rw[zS]at z0 z1 ⊢;omega
   generalize hkk:(y%((L.map lfI).length:Int)).toNat=k at hk
   have pop:=zqC (as:=R5 cell n (sN (L.map lfI)) (sN (F.map lfI)) (sI (0+i))) (i:=2) (os:=L.map lfI) (o:=lfI L[k]) rfl (yF wy (zyM (i:=2) rfl) l0) z0 z1 (by rw[zS];exact Nat.lt_of_le_of_lt hL8 (by decide)) (by rw[hkk,zzG,zzC hk];rfl)
   rw[hkk,show(L.map lfI).eraseIdx k=(L.eraseIdx k).map lfI by rw[List.eraseIdx_eq_take_drop_succ,List.eraseIdx_eq_take_drop_succ,QzK,List.map_take,List.map_drop]]at pop
   have hF:F.length<=8:=by
    have e:=hp.length_eq
    rw[zzH,zS,QzS]at e
    omega
   have ap:=zoj (i:=3) (os:=F.map lfI) (as:=R5 cell n (sN (L.map lfI)) (sN (F.map lfI)) (sI (0+i))) rfl pop rfl (by rw[zS];exact zzI (show F.length<1000 by omega) (szs (by decide)))
   rw[<-zsa]at ap
   refine⟨R5 cell n (sN (L.map lfI)) (sN (F.map lfI)) (sI (0+i)),rfl,_,ap,L.eraseIdx k,F++[L[k]],_,rfl, ?_,by rw[List.length_eraseIdx_of_lt hk];omega⟩
   rw[<-QyA]
   refine(List.perm_append_singleton _ _).trans ?_
   rw[<-List.cons_append]
   exact((zhT L k hk).append_right F).trans hp)
  ⟨Vk n,[],none,rfl,by rw[QzC],by rw[zS,QzS];rfl⟩
 rw[ZS]at hlen
 have hL:L=[]:=List.eq_nil_of_length_eq_zero (by omega)
 subst hL
 have s2:=ZX (i:=2) (as:=R5 cell n none none none) (zsv (a:=fV 1) (x:=.int n) (g:=lrP) (zs:=(Vk n).map D.int) (WD.e (za (i:=1) rfl)) (by
  show(if(0:Int)<=n/\(n:Int)<=100000 then _ else _)=_
  rw[if_pos ⟨by omega,by omega⟩,zzZ];rfl)) (zF rfl)
 rw[zok]at s2
 refine⟨F,hp,yr rfl (zp s2 (zp (ZX (i:=3) (V7 yV (szl rfl)) (zF rfl)) (zp (Yc (vq (zM (za (i:=1) rfl) zY) (by omega) (by omega)) (by rw[QzG];exact hf)) ⟨_,zcq (i:=3) rfl (Wv F).1,Wv F⟩)))⟩
theorem zrg{r:List Int}{p v:Int}(h:p.toNat<r.length):rAt (r.set p.toNat v) p=v:=by
 unfold rAt
 rw[QzI h];rfl
theorem zqr{r:List Int}{p q v:Int}(hp:0<=p)(hq:0<=q)(h:p≠q):rAt (r.set p.toNat v) q=rAt r q:=by
 unfold rAt
 rw[zzW (by omega)]
theorem zsw{n:Nat}{r:List Int}{p v:Int}(hr:Row n r)(hv:InR n v):Row n (r.set p.toNat v):=⟨by rw[zzS];exact hr.1,λx mx=>by
 rcases List.mem_or_eq_of_mem_set mx with m|rfl
 · exact hr.2 x m
 · exact hv⟩
theorem zqZ{as:AS}{i n:Nat}{f:IXF}{fv:EF}{p c:Int}{r:List Int}(hr:Row n r)(hp:InR n p)(hv:WD fv as true (.int c))(h1:f as=some p)(hi:as[i]? = some (some (xJ r))):zie i f fv as=some (.nx (as.set i (some (xJ (r.set p.toNat c))))):=by
 unfold zie
 unfold WD at hv
 rw[hv]
 show((f as).bind _)=_
 rw[h1]
 show(if 0<=p then _ else _)=_
 have hl:p.toNat<r.length:=by rw[hr.1];exact iT hp
 rw[if_pos hp.1,zkZ hi (show zgE (xJ r)=some (r.map lfI)from rfl)]
 show(atO zdm (r.map lfI) p.toNat).bind _=_
 rw[(zku (f:=zdm) (a:=.int r[p.toNat]) (show(r.map lfI)[p.toNat]? = some (lfI r[p.toNat]) by rw[zzG,zzC hl];rfl) rfl)]
 show some (Out.nx (as.set i (sN ((r.map lfI).set p.toNat (lfI c)))))=_
 rw[<-List.map_set]
theorem zpW{v n i:Nat}{f:IXF}{fv:EF}{S:List Int->Option O->AS}{g w:Int->Int}(hg:∀b,InR n b->InR n (g b))(gi:∀b b',InR n b->InR n b'->g b=g b'->b=b')(hw:∀b,InR n b->InR n (w b))
 (hs:∀r z b,gN v (true,.int b) (S r z)=some (S r (sI b))) (hx:∀r z,(S r z)[i]? = some (some (xJ r))) (hset:∀r z r',(S r z).set i (some (xJ r'))=S r' z)
 (hf:∀r b,InR n b->f (S r (sI b))=some (g b)) (hv:∀r b,InR n b->WD fv (S r (sI b)) true (.int (w b))) {r:List Int}{z:Option O}(hr:Row n r):
 ∃r' z',Row n r'/\(∀b,InR n b->rAt r' (g b)=w b)/\forL (gN v) (zie i f fv) (wR 0 n) (S r z)=some (.nx (S r' z')):=by
 obtain⟨as',h1,r',z',rfl,h2,h3⟩:=Ze (g:=gN v) (f:=zie i f fv) (λk as=>∃r z,as=S r z/\Row n r/\∀b:Int,0<=b->b<(k:Int)->b<(n:Int)->rAt r (g b)=w b) (wR 0 n) 0 (S r z) (λk x as hx' hI=>by
  obtain⟨r,z,rfl,h1,h2⟩:=hI
  obtain⟨rfl,hk⟩:=Yr hx'
  rw[QzV]at h2 ⊢
  rw[Int.zero_add]
  have hb:InR n ((k:Nat):Int):=⟨by omega,by omega⟩
  refine⟨S r (sI k),hs _ _ _,_,zqZ h1 (hg _ hb) (hv r _ hb) (hf r _ hb) (hx _ _),r.set (g k).toNat (w k),sI k,hset _ _ _,zsw h1 (hw _ hb),λb b0 b1 b2=>?_⟩
  by_cases e:b=(k:Int)
  · subst e
    exact zrg (by rw[h1.1];exact iT (hg _ hb))
  · have hb':InR n b:=⟨b0,b2⟩
    rw[zqr (hg _ hb).1 (hg _ hb').1 (λz=>e (gi _ _ hb' hb z.symm))]
    exact h2 b b0 (by omega) b2) ⟨r,z,rfl,hr,λb b0 b1 _=>by omega⟩
 rw[ZS,QzV]at h3
 exact⟨r',z',h2,λb hb=>h3 b hb.1 hb.2 hb.2,h1⟩
theorem ztD{xs:List D}{k:Int}(h : -(2 ^ 63)<=k/\k<2 ^ 63/\xs.length*k.toNat<=sizeLine):V3 .Mult (.lst xs) (.int k)=some (.fl (List.replicate k.toNat xs).flatten):=if_pos h
theorem zA{n:Nat}(n8:n<=8) : -(2 ^ 63)<=(n:Int)/\(n:Int)<2 ^ 63:=⟨by omega,by omega⟩
theorem zB{n:Nat}(n8:n<=8) : [D.int 0].length*(n:Int).toNat<=sizeLine:=szs (by rw[List.length_singleton];omega)
theorem zC{n:Nat}:(List.replicate (n:Int).toNat [D.int 0]).flatten=(List.replicate n (0:Int)).map D.int:=by rw[QzG,List.flatten_replicate_singleton,List.map_replicate]
theorem zeros{n:Nat}(n8:n<=8){as:AS}{g:EF}(hg:WE g as (.int n)):f2 (vo (dC yc dN)) g zZ as=some (.ow (xJ (List.replicate n 0)),as):=by
 have:=f2L (g:=V3 .Mult) (zs:=(List.replicate n (0:Int)).map D.int) (Zw (as:=as) (os:=[lfI 0]) (yq (zb (x:=.int 0)) yV) (szl rfl) rfl rfl) hg (by show V3 .Mult (.lst [D.int 0]) (.int n)=_;rw[ztD (xs:=[D.int 0]) ⟨(zA n8).1,(zA n8).2,zB n8⟩,zC])
 rw[zok]at this
 exact this
theorem zyS{as:AS}{i j:Nat}{os ps:List O}(h:as[i]? = some (sN os))(hj:as[j]? = some (sN ps))(hij:j≠i)(hl:os.length<1000):wQ (Zm i (dC (fV j) dN) Za) as=some (.nx ((as.set j (some (O.nd .ls ps).frz)).set i (sN (os++[(O.nd .ls ps).frz])))):=by
 unfold wQ Zm;rw[h]
 have e:dC (fV j) dN as=some ([(O.nd .ls ps).frz],as.set j (some (O.nd .ls ps).frz)):=znd hj rfl
 have h1:(as.set j (some (O.nd .ls ps).frz))[i]? = some (sN os):=by rw[zzW hij];exact h
 show((dC (fV j) dN as).bind _).bind _=_
 rw[e];show(Option.bind (match(as.set j (some (O.nd .ls ps).frz))[i]? with|some (some (.nd .ls os))=>_|_=>none) _)=_
 rw[h1];show((Za os [(O.nd .ls ps).frz]).bind _).bind _=_
 have e2:Za os [(O.nd .ls ps).frz]=some (os++[(O.nd .ls ps).frz],.lf true .non):=by unfold Za;exact if_pos (zzI hl (szs (by decide)))
 rw[e2];rfl
abbrev W9(k:Int)(n m:Nat)(cell:Int)(F:List Int)(os:List O)(c r a:Option O):AS:=[sI k,sI n,sI m,sI cell,sT (zO F),sN os,c,r,a]
theorem zkj{F:List Int}{n:Nat}(hF:F.Perm (Vk n)):Row n F:=(zhG hF).1
theorem ztu{k cell:Int}{n m:Nat}{F:List Int}{d:Int->Int->Int}(hF:F.Perm (Vk n))(n1:1<=n)(n8:n<=8)(m6:m<=6)(dc:∀c a,InR m c->InR n a->InR n (d c a))
 (hd:∀c a,InR m c->InR n a->RE (Zy [(true,.int k),(true,.int n),(true,.int cell),(true,.int c),(true,.int a)]) (.int (d c a))):∃T,Tab m n T/\(∀c a,InR m c->InR n a->jAt T c (rAt F a)=rAt F (d c a))/\RE (Zu [(true,.int k),(true,.int n),(true,.int m),(true,.int cell),(true,zO F)]) (vp T):=by
 have hR:=zkj hF
 have pN:∀a,InR n a->InR n (rAt F a):=λa ha=>(rowAt hR ha).2
 have pi:∀a a',InR n a->InR n a'->rAt F a=rAt F a'->a=a':=λa a' ha ha' e=>zlh hF ha ha' e
 obtain⟨as',hf,T,c',r',a',rfl,h1,h2,h3⟩:=Ze (g:=gN 6) (f:=(zH (zQ false 7 (f2 (vo (dC yc dN)) zy zZ))
  (zH (vI (xU vY xW) (gN 8) (zie 7 (xAt 4 (xV 8)) (f2 yt (zj (aC zq (aC zy (aC ym (aC wM (aC (fV 8) aN))))) Zy) ixP)))
  (wQ (Zm 5 (dC WL dN) Za)))))
  (λi as=>∃(T:TZ) (c r a:Option O),as=W9 k n m cell F (T.map λr=>O.lf true (zO r)) c r a/\T.length=i/\(∀r ∈ T,Row n r)/\∀j:Nat,j<i->∀a,InR n a->rAt ((T[j]?).getD []) (rAt F a)=rAt F (d j a))
  (wR 0 m) 0 (W9 k n m cell F [] none none none) (λi x as hx hI=>by
   obtain⟨T,c,r,a,rfl,h1,h2,h3⟩:=hI
   obtain⟨rfl,hi⟩:=Yr hx
   rw[QzV]at h1 h3 ⊢
   rw[Int.zero_add]
   have hc:InR m ((i:Nat):Int):=⟨by omega,by omega⟩
   have s7:zQ false 7 (f2 (vo (dC yc dN)) zy zZ) (W9 k n m cell F (T.map λr=>O.lf true (zO r)) (sI i) r a)=some (.nx (W9 k n m cell F (T.map λr=>O.lf true (zO r)) (sI i) (some (xJ (List.replicate n 0))) a)):=ZX (i:=7) (zeros n8 (WD.e (za (i:=1) rfl))) (zF rfl)
   obtain⟨q,z,q1,q2,q3⟩:=zpW (v:=8) (n:=n) (i:=7) (f:=xAt 4 (xV 8)) (fv:=f2 yt (zj (aC zq (aC zy (aC ym (aC wM (aC (fV 8) aN))))) Zy) ixP) (S:=λr z=>W9 k n m cell F (T.map λr=>O.lf true (zO r)) (sI i) (some (xJ r)) z) (g:=rAt F) (w:=λa=>rAt F (d i a)) pN pi (λb hb=>pN _ (dc _ _ hc hb)) (λ_ _ _=>rfl) (λ_ _=>rfl) (λ_ _ _=>rfl) (λr b hb=>zvt (i:=4) rfl (znL (i:=8) rfl) hR hb) (λr b hb=>by
    obtain⟨o,g1,g2,g3⟩:=hd i b hc hb
    exact zV (za (i:=4) (x:=zO F) (s:=true) rfl) (weF rfl ⟨o,XF (zM (za (i:=0) rfl) (zM (za (i:=1) rfl) (zM (za (i:=3) rfl) (zM (za (i:=6) rfl) (zM (za (i:=8) rfl) zY))))) g1,g2,g3⟩) (rowAt hR (dc _ _ hc hb)).1 rfl) (r:=List.replicate n 0) (z:=a) ⟨List.length_replicate ..,λx mx=>by rw[List.eq_of_mem_replicate mx];omega⟩
   have hfz:(O.nd .ls (q.map lfI)).frz = .lf true (zO q):=by
    show O.lf (O.nd .ls (q.map lfI)).str (O.nd .ls (q.map lfI)).toD=_
    rw[(Wv q).1,(Wv q).2]
   have ap:=zyS (as:=W9 k n m cell F (T.map λr=>O.lf true (zO r)) (sI i) (some (xJ q)) z) (i:=5) (j:=7) (os:=T.map λr=>O.lf true (zO r)) (ps:=q.map lfI) rfl rfl (by decide) (by rw[zS];omega)
   rw[hfz]at ap
   have ap:wQ (Zm 5 (dC WL dN) Za) (W9 k n m cell F (T.map λr=>O.lf true (zO r)) (sI i) (some (xJ q)) z)=some (.nx (W9 k n m cell F ((T++[q]).map λr=>O.lf true (zO r)) (sI i) (sT (zO q)) z)):=by
    rw[QzK];exact ap
   refine⟨W9 k n m cell F (T.map λr=>O.lf true (zO r)) (sI i) r a,rfl,_,yw s7 (yw (Yc (vq (zM (za (i:=1) (x:=.int n) (s:=true) rfl) zY) (by omega) (by omega)) (by rw[QzG];exact q3)) ap),T++[q],_,_,_,rfl,by rw[zzH,h1];rfl,λx mx=>?_,λj hj a ha=>?_⟩
   · rcases zzK.mp mx with mm|mm
     · exact h2 x mm
     · rw[zzP.mp mm];exact q1
   · by_cases e:j=i
     · subst e
       rw[QzP (by omega),h1,Nat.sub_self]
       exact q2 a ha
     · rw[QzN (by omega)]
       exact h3 j (by omega) a ha) ⟨[],none,none,none,rfl,rfl,(λ_ z=>nomatch z),λ_ h=>absurd h (Nat.not_lt_zero _)⟩
 rw[ZS,QzV]at h1 h3
 have ts:O.strs (T.map λr=>O.lf true (zO r))=true/\O.toDs (T.map λr=>O.lf true (zO r))=T.map zO:=by
  rw[show(T.map λr=>O.lf true (zO r))=(T.map zO).map (O.lf true) by rw[zzZ];rfl]
  exact⟨zjB _,zjL _⟩
 refine⟨T,⟨h1,h2⟩,λc a hc ha=>?_,yr rfl (zp (ZX (i:=5) (V7 yV (szl rfl)) (zF rfl)) (zp (Yc (vq (zM (za (i:=2) (x:=.int m) (s:=true) rfl) zY) (by omega) (by omega)) (by rw[QzG];exact hf)) ⟨.nd .ls (T.map λr=>O.lf true (zO r)),zcq (i:=5) rfl (show(O.nd .ls (T.map λr=>O.lf true (zO r))).str=true from ts.1),ts.1,congrArg D.lst ts.2⟩))⟩
 have:=h3 c.toNat (iT hc) a ha
 rw[iC hc]at this
 exact this
theorem zuB{a0 a1 a2 a3 a4 k:Int}(h:k=0\/k=1\/k=2\/k=3\/k=4):ixP (.lst [.int a0,.int a1,.int a2,.int a3,.int a4]) (.int k)=some (.im (.int (if k=0 then a0 else if k=1 then a1 else if k=2 then a2 else if k=3 then a3 else a4))):=by
 rcases h with rfl|rfl|rfl|rfl|rfl<;>rfl
abbrev Z3(c:Int)(x y z:Option O):AS:=[sI c,x,y,z,none,none,none,none,none,none,none,none,none]
theorem zsT(c:Int):∃(k:Int) (n m:Nat),KT k n/\n<=8/\KM k n m/\
 zQ true 1 (f2 (zj (aC zq (aC yc aN)) zg) zdO zx) (Z3 c none none none)=some (.nx (Z3 c (sI k) none none))/\
 zQ true 2 (f2 (vo (dC (f2 yM (f2 (zj (aC zq (aC zX aN)) zg) zdO zx) zE) (dC (f2 yM (f2 (zj (aC zq (aC zX aN)) zg) (fC (.int 7)) zx) zE) (dC (f2 yM (f2 (zj (aC zq (aC zX aN)) zg) XD zx) zE) (dC XD (dC zps dN)))))) zy ixP) (Z3 c (sI k) none none)=some (.nx (Z3 c (sI k) (sI n) none))/\
 zQ true 3 (f2 (vo (dC zU (dC (f2 zX (f2 (zj (aC zq (aC yM aN)) zg) zps zx) zE) (dC (f2 zX (f2 (zj (aC zq (aC yM aN)) zg) XD zx) zE) (dC (f2 zX (f2 (zj (aC zq (aC yM aN)) zg) xR zx) zE) (dC yM dN)))))) zy ixP) (Z3 c (sI k) (sI n) none)=some (.nx (Z3 c (sI k) (sI n) (sI m))):=by
 have k0:=QzL (mx c 0) (show(5:Int)≠0 by decide)
 have k1:=QzF (mx c 0) (show(0:Int)<5 by decide)
 have hk:mx c 0%5=0\/mx c 0%5=1\/mx c 0%5=2\/mx c 0%5=3\/mx c 0%5=4:=by omega
 have s1:zQ true 1 (f2 (zj (aC zq (aC yc aN)) zg) zdO zx) (Z3 c none none none)=some (.nx (Z3 c (sI (mx c 0%5)) none none)):=yL (i:=1) (yF (zeA (za (i:=0) rfl) zb (by decide) (by decide)) zb (by decide)) (zF rfl)
 generalize mx c 0%5=k at hk s1
 have mv:∀(y z:Option O) (j q:Int),0<=j->j<=300->0<q->WD (f2 (zj (aC zq (aC (fC (.int j)) aN)) zg) (fC (.int q)) zx) (Z3 c (sI k) y z) true (.int (mx c j%q)):=λy z j q h1 h2 h3=>yF (zeA (za (i:=0) rfl) zb h1 h2) zb h3
 have a5:=QzL (mx c 1) (show(5:Int)≠0 by decide)
 have b5:=QzF (mx c 1) (show(0:Int)<5 by decide)
 have a7:=QzL (mx c 1) (show(7:Int)≠0 by decide)
 have b7:=QzF (mx c 1) (show(0:Int)<7 by decide)
 have a4:=QzL (mx c 1) (show(4:Int)≠0 by decide)
 have b4:=QzF (mx c 1) (show(0:Int)<4 by decide)
 have c6:=QzL (mx c 2) (show(6:Int)≠0 by decide)
 have d6:=QzF (mx c 2) (show(0:Int)<6 by decide)
 have c4:=QzL (mx c 2) (show(4:Int)≠0 by decide)
 have d4:=QzF (mx c 2) (show(0:Int)<4 by decide)
 have c3:=QzL (mx c 2) (show(3:Int)≠0 by decide)
 have d3:=QzF (mx c 2) (show(0:Int)<3 by decide)
 have wn:=f2E (as:=Z3 c (sI k) none none) (Zw (os:=[lfI (2+mx c 1%5),lfI (2+mx c 1%7),lfI (2+mx c 1%4),lfI 4,lfI 6]) (yq (yC zb (mv none none 1 5 (by decide) (by decide) (by decide))) (yq (yC zb (mv none none 1 7 (by decide) (by decide) (by decide))) (yq (yC zb (mv none none 1 4 (by decide) (by decide) (by decide))) (yq zb (yq zb yV))))) (szl rfl) rfl rfl) (WD.e (za (i:=1) (x:=.int k) rfl)) (zuB hk)
 obtain⟨n,en⟩:∃n:Nat,(n:Int)=(if k=0 then 2+mx c 1%5 else if k=1 then 2+mx c 1%7 else if k=2 then 2+mx c 1%4 else if k=3 then 4 else 6):=⟨(if k=0 then 2+mx c 1%5 else if k=1 then 2+mx c 1%7 else if k=2 then 2+mx c 1%4 else if k=3 then 4 else 6:Int).toNat,by
  rcases hk with rfl|rfl|rfl|rfl|rfl<;>simp<;>omega⟩
 rw[<-en]at wn
 have wm:=f2E (as:=Z3 c (sI k) (sI n) none) (Zw (os:=[lfI n,lfI (1+mx c 2%6),lfI (1+mx c 2%4),lfI (1+mx c 2%3),lfI 2]) (yq (za (i:=2) rfl) (yq (yC zb (mv (sI n) none 2 6 (by decide) (by decide) (by decide))) (yq (yC zb (mv (sI n) none 2 4 (by decide) (by decide) (by decide))) (yq (yC zb (mv (sI n) none 2 3 (by decide) (by decide) (by decide))) (yq zb yV))))) (szl rfl) rfl rfl) (WD.e (za (i:=1) (x:=.int k) rfl)) (zuB hk)
 obtain⟨m,em⟩:∃m:Nat,(m:Int)=(if k=0 then(n:Int)else if k=1 then 1+mx c 2%6 else if k=2 then 1+mx c 2%4 else if k=3 then 1+mx c 2%3 else 2):=⟨(if k=0 then(n:Int)else if k=1 then 1+mx c 2%6 else if k=2 then 1+mx c 2%4 else if k=3 then 1+mx c 2%3 else 2:Int).toNat,by
  rcases hk with rfl|rfl|rfl|rfl|rfl<;>simp<;>omega⟩
 rw[<-em]at wm
 refine⟨k,n,m, ?_, ?_, ?_,s1,yL (i:=2) wn (zF rfl),yL (i:=3) wm (zF rfl)⟩
 · rcases hk with rfl|rfl|rfl|rfl|rfl<;>simp at en
   · exact .inl ⟨rfl,by omega⟩
   · exact .inr (.inl ⟨rfl,by omega⟩)
   · exact .inr (.inr (.inl ⟨rfl,by omega⟩))
   · exact .inr (.inr (.inr (.inl ⟨rfl,by omega⟩)))
   · exact .inr (.inr (.inr (.inr ⟨rfl,by omega⟩)))
 · rcases hk with rfl|rfl|rfl|rfl|rfl<;>simp at en<;>omega
 · rcases hk with rfl|rfl|rfl|rfl|rfl<;>simp at en em
   · exact⟨by omega,by omega,λ_=>by omega,λh=>by omega⟩
   · exact⟨by omega,by omega,λh=>by omega,λh=>by omega⟩
   · exact⟨by omega,by omega,λh=>by omega,λh=>by omega⟩
   · exact⟨by omega,by omega,λh=>by omega,λh=>by omega⟩
   · exact⟨by omega,by omega,λh=>by omega,λ_=>by omega⟩
theorem zqN{as:AS}{i k n:Nat}{f1 f2:IXF}{fv:EF}{p q c:Int}{T:TZ}(hT:Tab k n T)(hp:InR k p)(hq:InR n q)(h1:f1 as=some p)(h2:f2 as=some q)(hv:WD fv as true (.int c))(hi:as[i]? = some (some (XJ T))):zdo i f1 f2 fv as=some (.nx (as.set i (some (XJ (put T p q c))))):=by
 have e:=ztc (fv:=λ_=>some c) hT hp hq h1 h2 rfl hi
 unfold zdo
 unfold WD at hv
 rw[hv]
 unfold zox at e
 rw[h1,h2]at e
 show((f1 as).bind _)=_
 rw[h1]
 show((f2 as).bind _)=_
 rw[h2]
 exact e
abbrev Z13(c k:Int)(n m:Nat)(F:List Int)(j a b w s d g x:Option O):AS:=[sI c,sI k,sI n,sI m,sT (zO F),j,a,b,w,s,d,g,x]
theorem ztG{c k:Int}{n m:Nat}{F:List Int}(h:KT k n)(n1:1<=n)(n8:n<=8)(hF:F.Perm (Vk n)):∃J a b,Tab n n J/\(∀a b,InR n a->InR n b->jAt J (rAt F a) (rAt F b)=rAt F (jT k n a b))/\
 zQ false 5 (wG (xU wA xW) [none,some 2] Wu YM (f2 (vo (dC yc dN)) zy zZ)) (Z13 c k n m F none none none none none none none none)=some (.nx (Z13 c k n m F (some (XJ (List.replicate n (List.replicate n 0)))) none none none none none none none))/\
 vI (xU wA xW) (gN 6) (vI (xU wA xW) (gN 7) (zdo 5 (xAt 4 (xV 6)) (xAt 4 (xV 7)) (f2 yt (zj (aC zy (aC zU (aC wM zrn))) xN) ixP))) (Z13 c k n m F (some (XJ (List.replicate n (List.replicate n 0)))) none none none none none none none)=some (.nx (Z13 c k n m F (some (XJ J)) a b none none none none none)):=by
 have hR:=zkj hF
 have lj:=ztf h
 have pN:∀a,InR n a->InR n (rAt F a):=λa ha=>(rowAt hR ha).2
 have pi:∀a a',InR n a->InR n a'->rAt F a=rAt F a'->a=a':=λa a' ha ha' e=>zlh hF ha ha' e
 have hz:wG (xU wA xW) [none,some 2] Wu YM (f2 (vo (dC yc dN)) zy zZ) (Z13 c k n m F none none none none none none none none)=some (.ow (XJ (List.replicate n (List.replicate n (0:Int)))),Z13 c k n m F none none none none none none none none):=by
  have hr:=vq (as:=Z13 c k n m F none none none none none none none none) (zM (za (i:=2) (x:=.int n) (s:=true) rfl) zY) (by omega) (by omega)
  rw[QzG]at hr
  have ow:=zlu (g:=gN 0) (fe:=f2 (vo (dC yc dN)) zy zZ) (as0:=zcw [none,some 2] (Z13 c k n m F none none none none none none none none)) (r:=List.replicate n 0) (wR 0 n) (λy my=>by
   obtain⟨b,rfl,_,_⟩:=zgt my
   exact⟨[sI b,sI n],rfl,zeros n8 (WD.e (za (i:=1) rfl))⟩)
  rw[show(wR 0 n).length=n by unfold wR;rw[zS,QzS]]at ow
  exact zuq hr (by unfold wR;rw[zS,QzS];exact szs (by omega)) ow
 obtain⟨J,e15,e16,e17,hf,t1,t2⟩:=zsX (v:=6) (K:=n) (n:=n) (L:=n) (M:=n) (S:=λT x y _=>Z13 c k n m F (some (XJ T)) x y none none none none none) (f:=rAt F) (g:=rAt F) (w:=λa b=>rAt F (jT k n a b)) (F:=vI (xU wA xW) (gN 7) (zdo 5 (xAt 4 (xV 6)) (xAt 4 (xV 7)) (f2 yt (zj (aC zy (aC zU (aC wM zrn))) xN) ixP))) (x0:=none) (y0:=none) (z0:=none) pN pi pN (λ_ _ _ _ _=>rfl) (λT a y z hT ha=>by
  obtain⟨T',y',z',k1,k2,k3,k4⟩:=zwD (v:=7) (K:=n) (n:=n) (L:=n) (S:=λT y _=>Z13 c k n m F (some (XJ T)) (sI a) y none none none none none) (p:=rAt F a) (g:=rAt F) (w:=λb=>rAt F (jT k n a b)) (f:=zdo 5 (xAt 4 (xV 6)) (xAt 4 (xV 7)) (f2 yt (zj (aC zy (aC zU (aC wM zrn))) xN) ixP)) (x0:=y) (y0:=z) (pN a ha) pN pi (λb hb=>pN _ (lj.cl a b ha hb)) (λ_ _ _ _=>rfl) (λT b z hT hb=>by
   have w2:WD (zj (aC zy (aC zU (aC wM zrn))) xN) (Z13 c k n m F (some (XJ T)) (sI a) (sI b) none none none none none) true (.int (jT k n a b)):=zbY (zM (za (i:=1) rfl) (zM (za (i:=2) rfl) (zM (za (i:=6) rfl) (zM (za (i:=7) rfl) zY)))) (zwf h ha hb)
   exact⟨z,zqN (i:=5) (T:=T) hT (pN a ha) (pN b hb) (zvt (i:=4) rfl (znL (i:=6) rfl) hR ha) (zvt (i:=4) rfl (znL (i:=7) rfl) hR hb) (zV (za (i:=4) (x:=zO F) (s:=true) rfl) w2 (rowAt hR (lj.cl a b ha hb)).1 rfl) rfl⟩) hT
  refine⟨T',y',z', ?_,k2,k3,k4⟩
  rw[WR (v:=2) (n:=n) rfl (by omega)]
  exact k1) (zrT n1)
 exact⟨J,e15,e16,t1,t2,ZX (i:=5) hz (zF rfl),Yc (vq (zM (za (i:=2) (x:=.int n) (s:=true) rfl) zY) (by omega) (by omega)) (by rw[QzG];exact hf)⟩
theorem perm_back{F:List Int}{n:Nat}(h:F.Perm (Vk n)):∃B:Int->Int,(∀a,InR n a->InR n (B a))/\∀a,InR n a->rAt F (B a)=a:=by
 obtain⟨hR,hm⟩:=zhG h
 refine⟨λa=>(F.idxOf a:Nat),λa ha=>?_,λa ha=>?_⟩
 · have:=List.idxOf_lt_length_of_mem (hm a ha.1 ha.2)
   rw[hR.1]at this
   exact⟨Int.natCast_nonneg _,Int.ofNat_lt.mpr this⟩
 · have hl:=List.idxOf_lt_length_of_mem (hm a ha.1 ha.2)
   rw[Y8 (by rw[QzG];exact hl)]
   simp only[QzG]
   exact List.getElem_idxOf hl
theorem zrw{ss:List Str}(nd:ss.Nodup){i j:Nat}(hi:i<ss.length)(hj:j<ss.length)(e:ss[i]=ss[j]):i=j:=by
 have p:=List.pairwise_iff_getElem.mp nd
 rcases Nat.lt_trichotomy i j with h|h|h
 · exact absurd e (p i j hi hj h)
 · exact h
 · exact absurd e.symm (p j i hj hi h)
theorem zrK{c k:Int}{n m:Nat}{F:List Int}{J:TZ}(h:KT k n)(n1:1<=n)(n8:n<=8)(hm:KM k n m)(hF:F.Perm (Vk n))(hJ:∀a b,InR n a->InR n b->jAt J (rAt F a) (rAt F b)=rAt F (jT k n a b)):∃f:Nat->TZ,∀i:Nat,Tab m n (f i)/\LD n m (jAt J) (rAt F (eT k)) (jAt (f i))/\RE (Zu [(true,.int k),(true,.int n),(true,.int m),(true,.int (c+7*i)),(true,zO F)]) (vp (f i)):=by
 have hR:=zkj hF
 obtain⟨B,b1,b2⟩:=perm_back hF
 refine Classical.axiomOfChoice (r:=λ(i:Nat) (T:TZ)=>Tab m n T/\LD n m (jAt J) (rAt F (eT k)) (jAt T)/\RE (Zu [(true,.int k),(true,.int n),(true,.int m),(true,.int (c+7*i)),(true,zO F)]) (vp T)) λi=>?_
 obtain⟨d,d1,d2⟩:=zvn (c+7*i) h n8 hm
 obtain⟨T,t1,t2,t3⟩:=ztu (k:=k) (cell:=c+7*i) (m:=m) hF n1 n8 hm.2.1 (λc a hc ha=>d1.cl c a hc ha) d2
 exact⟨T,t1,ldT (by have:=hm.1;omega) (ztf h) d1 (λa ha=>(rowAt hR ha).2) b1 b2 hJ t2,t3⟩
theorem zmG(hnm:∀c:Int,0<=c->∃ss:List Str,ss.length=3/\ss.Nodup/\RE (Zr [(true,.int c),(true,.int (3:Nat))]) (.lst (ss.map D.str)))(c:Int):∃n m J e Ds,∃S:SS,Alg n m J e Ds/\LawA n m J e Ds/\1<=Ds.length/\S.length<=3/\(S.map (·.1)).Nodup/\RE (vU [(true,.int c)]) (wO n m J e Ds S):=by
 obtain⟨k,n,m,hk,n8,hm,s1,s2,s3⟩:=zsT c
 have n1:1<=n:=by rcases hk with⟨_,h⟩|⟨_,h⟩|⟨_,h⟩|⟨_,h⟩|⟨_,h⟩<;>omega
 have n2:2<=n:=by rcases hk with⟨_,h⟩|⟨_,h⟩|⟨_,h⟩|⟨_,h⟩|⟨_,h⟩<;>omega
 have m1:=hm.1
 have m6:=hm.2.1
 obtain⟨F,hF,hor⟩:=zqt (cell:=c) (n:=n) n8
 have hR:=zkj hF
 have s4:zQ true 4 (zj (aC zq wA) Yg) (Z3 c (sI k) (sI n) (sI m))=some (.nx (Z13 c k n m F none none none none none none none none)):=Zb (p:=4) (xY (WD.e (za (i:=0) rfl)) (WD.e (za (i:=2) rfl)) hor) (zF rfl)
 obtain⟨J,a6,b7,tJ,hJ,s5,s6⟩:=ztG (c:=c) (m:=m) hk n1 n8 hF
 obtain⟨f,hf⟩:=zrK (c:=c) hk n1 n8 hm hF hJ
 have w0:=QzL (mx c 3) (show(3:Int)≠0 by decide)
 have w1:=QzF (mx c 3) (show(0:Int)<3 by decide)
 obtain⟨w,ew⟩:∃w:Nat,(w:Int)=1+mx c 3%3:=⟨(1+mx c 3%3).toNat,by omega⟩
 have s8:zQ true 8 (f2 zX (f2 (zj (aC zq (aC xR aN)) zg) xR zx) zE) (Z13 c k n m F (some (XJ J)) a6 b7 none none none none none)=some (.nx (Z13 c k n m F (some (XJ J)) a6 b7 (sI w) none none none none)):=by
  rw[ew]
  exact yL (i:=8) (yC zb (yF (zeA (za (i:=0) rfl) zb (by decide) (by decide)) zb (by decide))) (zF rfl)
 obtain⟨ss,l3,nd,hs⟩:=hnm (c%2147483647) (QzL _ (by decide))
 have s9:zQ true 9 (zj (aC (f2 zq (fC (.int 2147483647)) zx) (aC xR aN)) Zr) (Z13 c k n m F (some (XJ J)) a6 b7 (sI w) none none none none)=some (.nx (Z13 c k n m F (some (XJ J)) a6 b7 (sI w) (sT (.lst (ss.map D.str))) none none none)):=Zb (p:=9) (xY (WD.e (yF (za (i:=0) rfl) zb (by decide))) (WD.e zb) hs) (zF rfl)
 have hw:w<=3:=by omega
 have wl:=vq (as:=Z13 c k n m F (some (XJ J)) a6 b7 (sI w) (sT (.lst (ss.map D.str))) none none none) (zM (za (i:=8) (x:=.int w) (s:=true) rfl) zY) (by omega) (by omega)
 rw[QzG]at wl
 have sg:∀i:Nat,i<3->ss[i]? = some ((ss[i]?).getD ("":Str)):=λi hi=>by rw[zzC (by omega)];rfl
 have wd:=Wd (as:=Z13 c k n m F (some (XJ J)) a6 b7 (sI w) (sT (.lst (ss.map D.str))) none none none) (h:=λi:Nat=>zaL ((ss[i]?).getD ("":Str),f i)) (it:=λi:Nat=>(true,D.int (0+(i:Int)))) (fi:=xU (aC (fV 8) aN) xW) (cap:=[none,some 9,some 1,some 2,some 3,some 4,some 0]) (gg:=gN 0) (fe:=xm (dC (f2 zy zq ixP) (dC (zj (aC zU (aC ym (aC yt (aC (f2 wM (f2 (fC (.int 7)) zq zZ) zE) zsH)))) Zu) dN))) (List.range w) wl (by rw[QzS];omega) (λi mi=>by
  have hi:=List.mem_range.mp mi
  rw[Int.zero_add]
  obtain⟨o,g1,g2,g3⟩:=(hf i).2.2
  have wc:WD (f2 wM (f2 (fC (.int 7)) zq zZ) zE) [sI i,sT (.lst (ss.map D.str)),sI k,sI n,sI m,sT (zO F),sI c] true (.int (c+7*i)):=yC (za (i:=6) rfl) (Xj (zb (x:=.int 7)) (za (i:=0) (x:=.int i) (s:=true) rfl) (yW (by decide) (by decide)) (yW (by omega) (by omega)))
  exact⟨[sI i,sT (.lst (ss.map D.str)),sI k,sI n,sI m,sT (zO F),sI c],rfl,wB (WD.e (zV (za (i:=1) rfl) (za (i:=0) rfl) (zes (sg i (by omega))) rfl)) ⟨o,XF (zM (za (i:=2) rfl) (zM (za (i:=3) rfl) (zM (za (i:=4) rfl) (zM wc (zM (za (i:=5) rfl) zY))))) g1,g2,g3⟩⟩)
 have s10:=Zb (p:=10) wd (zF rfl)
 have g0:=QzL (mx c 4) (show(2:Int)≠0 by decide)
 have g1:=QzF (mx c 4) (show(0:Int)<2 by decide)
 obtain⟨g,eg⟩:∃g:Nat,(g:Int)=1+mx c 4%2:=⟨(1+mx c 4%2).toNat,by omega⟩
 let DL:D:=.lst ((List.range w).map λi:Nat=>zaL ((ss[i]?).getD ("":Str),f i))
 let Zs:List O->Option O->AS:=λos x=>Z13 c k n m F (some (XJ J)) a6 b7 (sI w) (sT (.lst (ss.map D.str))) (sT DL) (sN os) x
 have s11:zQ false 11 (vo dN) (Z13 c k n m F (some (XJ J)) a6 b7 (sI w) (sT (.lst (ss.map D.str))) (sT DL) none none)=some (.nx (Zs [] none)):=ZX (i:=11) (V7 yV (szl rfl)) (zF rfl)
 obtain⟨as',hl,os,S,x,rfl,hO,hN⟩:=Ze (g:=gN 12) (f:=wQ (Zm 11 (dC (xm (dC (f2 (fV 9) (f2 yM (fV 12) Zn) ixP) (dC (wG (xU wA xW) [none,some 0,some 12] Wu (fT (f2 (f2 (zj (aC zy (aC (f2 (f2 (fC (.int 80)) (f2 (fC (.int 9)) zU zZ) zE) zq zE) aN)) zg) xR zx) zX (zK .Eq))) zq) dN))) dN) Za))
  (λi as=>∃(os:List O) (S:SS) (x:Option O),as=Zs os x/\Ows zgD (λ_=>True) os S/\S.map (·.1)=(List.range i).map λj=>(ss[2-j]?).getD ("":Str)) (wR 0 g) 0 (Zs [] none) (λi y as hy hI=>by
   obtain⟨os,S,x,rfl,hO,hN⟩:=hI
   obtain⟨rfl,hi⟩:=Yr hy
   rw[QzV]at hN ⊢
   rw[Int.zero_add]
   have hi2:i<2:=by omega
   have hrg:=vq (as:=Zs os (sI i)) (zM (za (i:=2) (x:=.int n) (s:=true) rfl) zY) (by omega) (by omega)
   rw[QzG]at hrg
   have wf:=zvg (as:=Zs os (sI i)) (h:=λ(q:Nat)=>D.int q) (p:=λq:Nat=>mx c (80+9*i+q)%3==1) (it:=λ(q:Nat)=>(true,D.int (0+(q:Int)))) (fi:=xU wA xW) (cap:=[none,some 0,some 12]) (gg:=gN 0) (tt:=fT (f2 (f2 (zj (aC zy (aC (f2 (f2 (fC (.int 80)) (f2 (fC (.int 9)) zU zZ) zE) zq zE) aN)) zg) xR zx) zX (zK .Eq))) (fe:=fV 0) (List.range n) hrg (by rw[QzS];omega) (λq mq=>by
    have hq:=List.mem_range.mp mq
    rw[Int.zero_add]
    exact⟨[sI q,sI c,sI i],rfl,eqT (yF (zeA (za (i:=1) rfl) (yC (yC (zb (x:=.int 80)) (Xj (zb (x:=.int 9)) (za (i:=2) (x:=.int i) (s:=true) rfl) (yW (by decide) (by decide)) (yW (by omega) (by omega)))) (za (i:=0) (x:=.int q) (s:=true) rfl)) (by omega) (by omega)) zb (by decide)) zb rfl,λ_=>WD.e (za (i:=0) rfl)⟩)
   rw[show D.lst (((List.range n).filter λq:Nat=>mx c (80+9*i+q)%3==1).map λ(q:Nat)=>D.int q)=zO (((List.range n).filter λq:Nat=>mx c (80+9*i+q)%3==1).map λ(q:Nat)=>(q:Int)) by show _=D.lst _;rw[zzZ];rfl]at wf
   have wn:WD (f2 (fV 9) (f2 yM (fV 12) Zn) ixP) (Zs os (sI i)) true (.str ((ss[2-i]?).getD ("":Str))):=by
    have w:=zdd (as:=Zs os (sI i)) (zb (x:=.int 2)) (za (i:=12) (x:=.int i) (s:=true) rfl)
    rw[show(2:Int)-i=((2-i:Nat):Int) by omega]at w
    exact zV (za (i:=9) (x:=.lst (ss.map D.str)) (s:=true) rfl) w (zes (sg (2-i) (by omega))) rfl
   have hS:S.length<=2:=by
    have:=congrArg List.length hN
    rw[zS,zS,QzS]at this
    omega
   obtain⟨os',o1,o2⟩:=zxt (as:=Zs os (sI i)) (i:=11) (os:=os) (l:=S) (x:=((ss[2-i]?).getD ("":Str),((List.range n).filter λq:Nat=>mx c (80+9*i+q)%3==1).map λ(q:Nat)=>(q:Int))) rfl hO (by omega) (wB (WD.e wn) wf) True.intro
   exact⟨Zs os (sI i),rfl,_,o2,os',_,_,rfl,o1,by rw[QzK,hN,List.range_succ,QzK];rfl⟩)
  ⟨[],[],none,rfl,Ows.nil,rfl⟩
 rw[ZS,QzV]at hN
 have hr12:=vq (as:=Zs [] none) (zM (yC (zb (x:=.int 1)) (yF (zeA (za (i:=0) (x:=.int c) (s:=true) rfl) (zb (x:=.int 4)) (by decide) (by decide)) (zb (x:=.int 2)) (by decide))) zY) (by omega) (by omega)
 rw[<-eg,QzG]at hr12
 have sl:S.length=g:=by
  have:=congrArg List.length hN
  rw[zS,zS,QzS]at this
  exact this
 have e0:InR n (eT k):=(ztf hk).ce
 have wE:WD (f2 yt (fP (aC (f2 zy xR (zK .Eq)) aN) zaN) ixP) ((Zs os x).set 5 (some (XJ J).frz)) true (.int (rAt F (eT k))):=by
  have w:=xM (as:=(Zs os x).set 5 (some (XJ J).frz)) (x:=.int (if(k==3)=true then 1 else 0)) (g:=zaN) (zM (YJ (c:=k==3) (za (i:=1) (x:=.int k) (s:=true) rfl) (zb (x:=.int 3)) rfl) zY) rfl rfl
  rw[show(if(k==3)=true then(1:Int)else 0)=eT k by unfold eT;by_cases h:k=3<;>simp[h]]at w
  exact zV (za (i:=4) (x:=zO F) (s:=true) rfl) w (rowAt hR e0).1 rfl
 have hfJ:(XJ J).frz = .lf true (vp J):=by
  show O.lf (O.strs (J.map xJ)) (.lst (O.toDs (J.map xJ)))=_
  rw[(zgu J).1,(zgu J).2]
 have hfS:=hO.frz
 have wr:(dC zU (dC ym (dC xf (dC (f2 yt (fP (aC (f2 zy xR (zK .Eq)) aN) zaN) ixP) (dC (fV 10) (dC zqu dN)))))) (Zs os x)=some (_,_):=
  VP (za (i:=2) rfl) (VP (za (i:=3) rfl) (znd (j:=5) (ps:=J.map xJ) rfl (VP wE (VP (za (i:=10) rfl) (znd (j:=11) (ps:=os) rfl rfl)))))
 have hfin:=zun wr (szl rfl)
 rw[hfJ,hfS]at hfin
 have rt:=zoA hfin rfl
 have nd2:(S.map (·.1)).Nodup:=by
  rw[hN]
  have g2:g=1\/g=2:=by omega
  have ne:(ss[2]?).getD ("":Str)≠(ss[1]?).getD ("":Str):=λz=>by
   rw[zzC (show 2<ss.length by omega),zzC (show 1<ss.length by omega)]at z
   exact absurd (zrw nd (show 2<ss.length by omega) (show 1<ss.length by omega) z) (by decide)
  rcases g2 with rfl|rfl
  · exact zzU.mpr ⟨QzZ,QzH⟩
  · exact zzU.mpr ⟨λz=>ne (zzP.mp z),zzU.mpr ⟨QzZ,QzH⟩⟩
 have Bk:=perm_back hF
 obtain⟨B,b1,b2⟩:=Bk
 refine⟨n,m,J,rAt F (eT k),(List.range w).map λi:Nat=>((ss[i]?).getD ("":Str),f i),S,⟨n1,n8,m1,m6,tJ,(rowAt hR e0).2.1,(rowAt hR e0).2.2,by rw[zS,QzS];omega,λp mp=>?_, ?_⟩,⟨ljT (ztf hk) (λa ha=>(rowAt hR ha).2) b1 b2 hJ,λp mp=>?_⟩,by rw[zS,QzS];omega,by omega,nd2,yr rfl (zp s1 (zp s2 (zp s3 (zp s4 (zp s5 (zp s6 (zp s8 (zp s9 (zp s10 (zp s11 (zp (Yc hr12 hl) ⟨_,rt,rfl, ?_⟩)))))))))))⟩
 · obtain⟨i,_,rfl⟩:=QyB.mp mp
   exact(hf i).1
 · rw[zzZ]
   refine List.pairwise_map.mpr ((List.nodup_range (n:=w)).imp_of_mem λ{a b} ma mb hne he=>hne ?_)
   have ha:=List.mem_range.mp ma
   have hb:=List.mem_range.mp mb
   have he:(ss[a]?).getD ("":Str)=(ss[b]?).getD ("":Str):=he
   rw[zzC (show a<ss.length by omega),zzC (show b<ss.length by omega)]at he
   exact zrw nd _ _ he
 · obtain⟨i,_,rfl⟩:=QyB.mp mp
   exact(hf i).2.1
 · show D.tup [.int n,.int m,vp J,.int (rAt F (eT k)),DL,.lst (S.map zgD)]=_
   show D.tup [.int n,.int m,vp J,.int (rAt F (eT k)),.lst ((List.range w).map λi:Nat=>zaL ((ss[i]?).getD ("":Str),f i)),.lst (S.map zgD)]=D.tup [.int n,.int m,vp J,.int (rAt F (eT k)),.lst (((List.range w).map λi:Nat=>((ss[i]?).getD ("":Str),f i)).map zaL),.lst (S.map zgD)]
   rw[zzZ];rfl
abbrev ch(c:Nat):Str:=⟨#[c]⟩
theorem zoS:∀cs:List Nat,(Str.join "" (cs.map ch)).cps.toList=cs
 | []=>rfl
 | [x]=>rfl
 |x::y::r=>by
  show(ch x++""++Str.join "" ((y::r).map ch)).cps.toList=_
  rw[Str.cps_append,Str.cps_append,Array.toList_append,Array.toList_append,zoS (y::r)]
  rfl
abbrev nmS(A B:Str)(x st:Int)(k:Nat):Str:=A++⟨#[97+((x+st*(k:Int))%26).toNat]⟩++B
theorem zsN{A B:Str}{x st:Int}{k j:Nat}(s1:1<=st)(s5:st<=5)(hk:k<3)(hj:j<3)(h:nmS A B x st k=nmS A B x st j):k=j:=by
 have h:=congrArg (λs:Str=>s.cps.toList) h
 simp only[Str.cps_append,Array.toList_append,QyA,List.append_cancel_left_eq]at h
 have h:=(List.append_cancel_right h)
 injection h with h
 have e:st=1\/st=2\/st=3\/st=4\/st=5:=by omega
 rcases e with rfl|rfl|rfl|rfl|rfl<;>omega
def l8(c:Int)(i:Nat):Nat:=97+(mx c (200+(i:Int))%26).toNat
@[irreducible] def wd8(c:Int):Str:=Str.join "" (((List.range 8).map (l8 c)).map ch)
theorem zsV(c:Int):(wd8 c).length=8:=by
 have e:=zoS ((List.range 8).map (l8 c))
 show(wd8 c).cps.size=8
 rw[<-QzR]
 unfold wd8
 rw[e];rfl
theorem ztv{c:Int}{as:AS}(h0:as[0]? = some (sI c))(h2:∀d:D,gN 0 (true,d) (zcw [none,some 2,some 0] as)=some [sT d,sT (.str abc),sI c]):WD (ziI .str (fC (.str "")) (aC (wG (xU (aC zgi aN) xW) [none,some 2,some 0] Wu YM (f2 zy (f2 (zj (aC zU (aC (f2 (fC (.int 200)) zq zE) aN)) zg) (fC (.int 26)) zx) ixP)) aN) zoy) as true (.str (wd8 c)):=by
 have hr:=vq (as:=as) (zM (zb (x:=.int 8)) zY) (by decide) (by decide)
 have wm:=Wd (as:=as) (h:=λi:Nat=>D.str (ch (l8 c i))) (it:=λi:Nat=>(true,D.int (0+(i:Int)))) (fi:=xU (aC zgi aN) xW) (cap:=[none,some 2,some 0]) (gg:=gN 0) (fe:=f2 zy (f2 (zj (aC zU (aC (f2 (fC (.int 200)) zq zE) aN)) zg) (fC (.int 26)) zx) ixP) (List.range 8) hr (by rw[QzS];decide) (λi mi=>by
  have hi:=List.mem_range.mp mi
  rw[Int.zero_add]
  have q0:=QzL (mx c (200+(i:Int))) (show(26:Int)≠0 by decide)
  have q1:=QzF (mx c (200+(i:Int))) (show(0:Int)<26 by decide)
  exact⟨[sI i,sT (.str abc),sI c],h2 _,WD.e (zV (za (i:=1) rfl) (yF (zeA (za (i:=2) rfl) (yC (zb (x:=.int 200)) (za (i:=0) (x:=.int i) (s:=true) rfl)) (by omega) (by omega)) zb (by decide)) (zrc q0 q1) rfl)⟩)
 have e1:(List.range 8).map (λi:Nat=>D.str (ch (l8 c i)))=(((List.range 8).map (l8 c)).map ch).map D.str:=by rw[zzZ,zzZ];rfl
 rw[e1]at wm
 have e2:=zyu (((List.range 8).map (l8 c)).map ch) λs m=>by
  obtain⟨a,_,rfl⟩:=QyB.mp m
  rfl
 have e3:(((List.range 8).map (l8 c)).map ch).length=8:=by rw[zS,zS,QzS]
 unfold wd8
 generalize ((List.range 8).map (l8 c)).map ch=L at wm e2 e3
 refine zsO zb rfl (ZJ wm zY) ?_ rfl
 show(zfs (L.map D.str)).bind _=_
 rw[zlk]
 show(if(L.map (·.length)).sum+L.length*0<=16777216 then some (R0.im (.str (Txt.join "" L)))else none)=_
 rw[if_pos (by rw[e2,e3];decide),zsg]
theorem zqX{x:Str}(hx:x.length=8){j:Int}(h1:1<=j)(h8:j<=8):((PySem.Txt.slice x none (some j)).length:Int)=j:=by
 obtain⟨⟨l⟩⟩:=x
 have hl:l.length=8:=hx
 match l,hl with
 | [a0,a1,a2,a3,a4,a5,a6,a7],_=>
  have e:j=1\/j=2\/j=3\/j=4\/j=5\/j=6\/j=7\/j=8:=by omega
  rcases e with rfl|rfl|rfl|rfl|rfl|rfl|rfl|rfl<;>rfl
abbrev N10(c:Int)(x4 x5 x6 x7 x8 x9:Option O):AS:=[sI c,sI (3:Nat),sT (.str abc),sT (.str (wd8 c)),x4,x5,x6,x7,x8,x9]
theorem zqM{x y:Str}(h:x.length+y.length<=sizeLine):V3 .Add (.str x) (.str y)=some (.im (.str (x++y))):=if_pos h
theorem zqO(c:Int)(hc:0<=c):∃ss:List Str,ss.length=3/\ss.Nodup/\RE (Zr [(true,.int c),(true,.int (3:Nat))]) (.lst (ss.map D.str)):=by
 have wl:=zsV c
 have lz:(wd8 c).length<=sizeLine:=szs (by omega)
 have s2:zQ true 2 (fC (.str "abcdefghijklmnopqrstuvwxyz")) [sI c,sI (3:Nat),none,none,none,none,none,none,none,none]=some (.nx [sI c,sI (3:Nat),sT (.str abc),none,none,none,none,none,none,none]):=yL (i:=2) zb (zF rfl)
 have s3:=yL (st:=true) (i:=3) (as:=[sI c,sI (3:Nat),sT (.str abc),none,none,none,none,none,none,none]) (ztv (c:=c) rfl (λ_=>rfl)) (zF rfl)
 have t0:WT (fT (f2 (f2 zq xR zx) yc (zK .Eq))) (N10 c none none none none none none) (c%3==0):=eqT (yF (za (i:=0) rfl) zb (by decide)) zb rfl
 cases hq:(c%3==0)with
 |true=>
  rw[hq]at t0
  have hr:=vq (as:=N10 c none none none none none none) (zM (za (i:=1) (x:=.int (3:Nat)) (s:=true) rfl) zY) (by decide) (by decide)
  have wm:=Wd (as:=N10 c none none none none none none) (h:=λi:Nat=>D.str (PySem.Txt.slice (wd8 c) none (some (1+((i:Int)+c/3)%8)))) (it:=λi:Nat=>(true,D.int (0+(i:Int)))) (fi:=xU vY xW) (cap:=[none,some 3,some 0]) (gg:=gN 0) (fe:=fSl zy oN (oS (f2 zX (f2 (f2 zq (f2 zU xR zN) zE) zgi zx) zE)) slS) (List.range 3) hr (by rw[QzS];decide) (λi mi=>by
   rw[Int.zero_add]
   exact⟨[sI i,sT (.str (wd8 c)),sI c],rfl,WD.e (zeJ (za (i:=1) rfl) rfl (oS1 (yC (zb (x:=.int 1)) (yF (yC (za (i:=0) rfl) (X7 (za (i:=2) rfl) zb (by decide) (yW (by decide) (by decide)))) zb (by decide)))) (show slS (.str (wd8 c)) none (some (1+((i:Int)+c/3)%8))=_ from if_pos lz))⟩)
  refine⟨(List.range 3).map λi:Nat=>PySem.Txt.slice (wd8 c) none (some (1+((i:Int)+c/3)%8)),by rw[zS,QzS], ?_,yr rfl (zp s2 (zp s3 (yD (yU t0 (zR ?_)))))⟩
  · refine List.pairwise_map.mpr ((List.nodup_range (n:=3)).imp_of_mem λ{a b} ma mb hne he=>hne ?_)
    have ha:=List.mem_range.mp ma
    have hb:=List.mem_range.mp mb
    have e1:=zqX wl (j:=1+((a:Int)+c/3)%8) (by omega) (by omega)
    have e2:=zqX wl (j:=1+((b:Int)+c/3)%8) (by omega) (by omega)
    have he:PySem.Txt.slice (wd8 c) none (some (1+((a:Int)+c/3)%8))=PySem.Txt.slice (wd8 c) none (some (1+((b:Int)+c/3)%8)):=he
    rw[he,e2]at e1
    omega
  · rw[zzZ];exact wm
 |false=>
  rw[hq]at t0
  have g0:=QzL (c/3) (show(8:Int)≠0 by decide)
  have g1:=QzF (c/3) (show(0:Int)<8 by decide)
  have s4:zQ true 4 (f2 zX (f2 (f2 zq xR zN) zgi zx) zE) (N10 c none none none none none none)=some (.nx (N10 c (sI (1+c/3%8)) none none none none none)):=yL (i:=4) (yC zb (yF (X7 (za (i:=0) rfl) zb (by decide) (yW (by decide) (by decide))) zb (by decide))) (zF rfl)
  generalize hlg:1+c/3%8=lg at s4
  have a0:=QzL (c/24) (show lg≠0 by omega)
  have a1:=QzF (c/24) (show(0:Int)<lg by omega)
  have s5:zQ true 5 (f2 (f2 zq (fC (.int 24)) zN) yt zx) (N10 c (sI lg) none none none none none)=some (.nx (N10 c (sI lg) (sI (c/24%lg)) none none none none)):=yL (i:=5) (yF (X7 (za (i:=0) rfl) zb (by decide) (yW (by decide) (by decide))) (za (i:=4) (x:=.int lg) (s:=true) rfl) (by omega)) (zF rfl)
  generalize c/24%lg=at_ at s5 a0 a1
  have e0:=QzL (c/192) (show(5:Int)≠0 by decide)
  have e1:=QzF (c/192) (show(0:Int)<5 by decide)
  have s6:zQ true 6 (f2 zX (f2 (f2 zq (fC (.int 192)) zN) zdO zx) zE) (N10 c (sI lg) (sI at_) none none none none)=some (.nx (N10 c (sI lg) (sI at_) (sI (1+c/192%5)) none none none)):=yL (i:=6) (yC zb (yF (X7 (za (i:=0) rfl) zb (by decide) (yW (by decide) (by decide))) zb (by decide))) (zF rfl)
  generalize hst:1+c/192%5=st at s6
  have lA:=Txt.slice_le (wd8 c) none (some at_)
  have lB:=Txt.slice_le (wd8 c) (some (at_+1)) (some lg)
  have eA:slS (.str (wd8 c)) none (some at_)=some (.im (.str (Txt.slice (wd8 c) none (some at_)))):=if_pos lz
  have eB:slS (.str (wd8 c)) (some (at_+1)) (some lg)=some (.im (.str (Txt.slice (wd8 c) (some (at_+1)) (some lg)))):=if_pos lz
  generalize Txt.slice (wd8 c) none (some at_)=A at lA eA
  generalize Txt.slice (wd8 c) (some (at_+1)) (some lg)=B at lB eB
  rw[wl]at lA lB
  obtain⟨as',hf,os,x8,x9,rfl,ho⟩:=Ze (g:=gN 8) (f:=(zH (zQ true 9 (f2 zU (f2 (f2 (zj (aC zq (aC (f2 (fC (.int 200)) xf zE) aN)) zg) (f2 wM (fV 8) zZ) zE) (fC (.int 26)) zx) ixP))
  (wQ (Zm 7 (dC (f2 (f2 (fSl ym oN (oS xf) slS) (fV 9) zE) (fSl ym (oS (f2 xf zX zE)) (oS yt) slS) zE) dN) Za))))
   (λi as=>∃(os:List O) (x8 x9:Option O),as=N10 c (sI lg) (sI at_) (sI st) (sN os) x8 x9/\Ows D.str (λ_=>True) os ((List.range i).map (nmS A B (mx c (200+at_)) st)))
   (wR 0 3) 0 (N10 c (sI lg) (sI at_) (sI st) (sN []) none none) (λi x as hx hI=>by
    obtain⟨os,x8,x9,rfl,ho⟩:=hI
    obtain⟨rfl,hi⟩:=Yr hx
    rw[QzV]at ho ⊢
    rw[Int.zero_add]
    have q0:=QzL (mx c (200+at_)+st*(i:Int)) (show(26:Int)≠0 by decide)
    have q1:=QzF (mx c (200+at_)+st*(i:Int)) (show(0:Int)<26 by decide)
    have s9:=yL (st:=true) (i:=9) (as:=N10 c (sI lg) (sI at_) (sI st) (sN os) (sI i) x9) (zV (za (i:=2) (x:=.str abc) (s:=true) rfl) (yF (yC (zeA (za (i:=0) rfl) (yC (zb (x:=.int 200)) (za (i:=5) (x:=.int at_) (s:=true) rfl)) (by omega) (by omega)) (Xj (za (i:=6) (x:=.int st) (s:=true) rfl) (za (i:=8) (x:=.int i) (s:=true) rfl) (yW (by omega) (by omega)) (yW (by omega) (by omega)))) (zb (x:=.int 26)) (by decide)) (zrc q0 q1) rfl) (zF rfl)
    obtain⟨os',o1,o2⟩:=zxt (as:=N10 c (sI lg) (sI at_) (sI st) (sN os) (sI i) (sT (.str ⟨#[97+((mx c (200+at_)+st*(i:Int))%26).toNat]⟩))) (x:=nmS A B (mx c (200+at_)) st i) (i:=7) (toD:=D.str) (Q:=λ_=>True) (a:=f2 (f2 (fSl ym oN (oS xf) slS) (fV 9) zE) (fSl ym (oS (f2 xf zX zE)) (oS yt) slS) zE) rfl ho (by rw[zS,QzS];omega)
     (WD.e (zV (zV (zeJ (za (i:=3) rfl) rfl (oS1 (za (i:=5) rfl)) eA) (za (i:=9) rfl) (zqM (szs (by show A.length+1<=_;omega))) rfl) (zeJ (za (i:=3) rfl) (oS1 (yC (za (i:=5) rfl) zb)) (oS1 (za (i:=4) rfl)) eB) (zqM (szs (by rw[zrr];show A.length+1+B.length<=_;omega))) rfl)) True.intro
    exact⟨N10 c (sI lg) (sI at_) (sI st) (sN os) (sI i) x9,rfl,_,yw s9 o2,os',_,_,rfl,by rw[List.range_succ,QzK];exact o1⟩)
   ⟨[],none,none,rfl,Ows.nil⟩
  rw[ZS,QzV]at ho
  refine⟨(List.range 3).map (nmS A B (mx c (200+at_)) st),by rw[zS,QzS], ?_,yr rfl (zp s2 (zp s3 (zp (zL t0 rfl) (zp s4 (zp s5 (zp s6 (zp (ZX (i:=7) (V7 yV (szl rfl)) (zF rfl)) (zp (Yc (vq (zM (za (i:=1) (x:=.int (3:Nat)) (s:=true) rfl) zY) (by decide) (by decide)) hf) (Ows.retB (i:=7) rfl ho)))))))))⟩
  exact List.pairwise_map.mpr ((List.nodup_range (n:=3)).imp_of_mem λha hb hne he=>hne (zsN (by omega) (by omega) (List.mem_range.mp ha) (List.mem_range.mp hb) he))
theorem zwo(x:Int):∃c:Cx,c.Ok/\1<=c.Ds.length/\c.S.length<=3/\(c.S.map (·.1)).Nodup/\RE (vU [(true,.int x)]) c.g:=by
 obtain⟨n,m,J,e,Ds,S,A,L,dl,sl,sn,h⟩:=zmG zqO x
 exact⟨⟨n,m,J,e,Ds,S⟩,⟨A,L⟩,dl,sl,sn,h⟩
theorem zxf{x:Int}{w n:Nat}(hn:1<=n)(n8:n<=8)(hw:w<=300):∃r:List Int,r.length=w/\(∀v ∈ r,InR n v)/\RE (Zk [(true,.int x),(true,.int w),(true,.int n)]) (zO r):=by
 obtain⟨r,a,b,d⟩:=zsc (c:=x) (w:=w) hn n8 hw
 exact⟨r,a,b,_,d,(Wv r).1,(Wv r).2⟩
theorem zzd(x:Int)(k:Nat)(hk:0<k):∃w:Nat,x%(k:Int)=w/\w<k:=by
 have h0:=QzL x (show(k:Int)≠0 by omega)
 have h1:=QzF x (show(0:Int)<k by omega)
 exact⟨(x%(k:Int)).toNat,by omega,by omega⟩
theorem zqg{c:Cx}(h:c.Ok){ns:List Int}(hns:ns.length<=63){as:AS}{a b:Int}(h0:as[0]? = some (sT (.lst (ns.map .int))))(h1:as[1]? = some (sT c.g)):∃r:List Int,r.length<=63/\c.In r/\WE (wG (zcu (fSl zq (oS (fC (.int a))) (oS (fC (.int b))) slP)) [none,some 1] Wu YM (f2 zq (f2 zy yc ixP) zx)) as (zO r):=by
 obtain⟨xs,xl,ex⟩:=zuc D.int ns (some a) (some b)
 have ib:=zuH (zoM (WD.e (za h0)) (oS1 (zb (x:=.int a))) (oS1 (zb (x:=.int b))) (g:=slP) (zs:=xs.map D.int) (by rw[<-ex];rfl))
 rw[zzZ]at ib
 have n1:=h.A.n1
 have wm:=Wd (as:=as) (h:=λx:Int=>D.int (x%c.n)) (it:=λx=>(true,D.int x)) (cap:=[none,some 1]) (gg:=gN 0) (fe:=f2 zq (f2 zy yc ixP) zx) xs ib (by omega) (λx _=>⟨[sI x,sT c.g],by show some [_,zxb as (some 1)]=_;unfold zxb;simp only[h1],WD.e (yF (za (i:=0) rfl) (zV (z:=.int c.n) (za (i:=1) rfl) zb rfl rfl) (by omega))⟩)
 refine⟨xs.map (· % (c.n:Int)),by rw[zS];omega,λv mv=>?_, ?_⟩
 · obtain⟨x,_,rfl⟩:=QyB.mp mv
   exact zcx n1
 · show WE _ _ (.lst ((xs.map (· % (c.n:Int))).map D.int))
   rw[zzZ];exact wm
theorem gT2{as:AS}{a b:D}{i j:Nat}(hi:i<as.length)(hj:j<as.length):gT 2 (gsC (gN i) (gsC (gN j) gsN)) (true,.tup [a,b]) as=some ((as.set i (sT a)).set j (sT b)):=by
 show gsC (gN i) (gsC (gN j) gsN) (kids true [a,b]) as=_
 rw[zbl]
 show(gN i (true,a) as).bind _=_
 unfold gN
 rw[if_pos hi]
 show((if j<(as.set i (sT a)).length then _ else _:Option AS)).bind _=_
 rw[if_pos (by rw[zzS];exact hj)]
 rfl
theorem zvO{as:AS}{f:EF}{a b:D}{i j:Nat}(h:WE f as (.tup [a,b]))(hi:i<as.length)(hj:j<as.length):zmq f (gT 2 (gsC (gN i) (gsC (gN j) gsN))) as=some (.nx ((as.set i (sT a)).set j (sT b))):=by
 obtain⟨o,h,h1,h2⟩:=h
 exact zwY h (by rw[h1,h2];exact gT2 hi hj)
section
variable{c:Cx}{x y d:D}{r s R:List Int}{p q:Nat}
theorem TK.one(k:TK c d R 0):R.length=1:=by
 generalize e:(0:Nat)=p at k
 cases k with
 |lf=>rfl
 |nd=>omega
theorem zkn(h:c.Ok):∀(n:Nat) {d:D}{R:List Int}{p:Nat}(i:Nat),TK c d R p->p<n->R.length<=1000->i<=R.length->∃a b,RE (wF n [(true,c.w),(true,d),(true,.int i)]) (.tup [a,b])/\OT c a (R.take i)/\OT c b (R.drop i)
 |0,_,_,_,_,_,h,_,_=>absurd h (Nat.not_lt_zero _)
 |n+1,d,R,p,i,k,hp,hl,hi=>by
  have v1:∀a b e,WD zy [sT c.w,sT d,sI i,a,b,e] true d:=λ_ _ _=>za (i:=1) rfl
  have v2:∀a b e,WD zU [sT c.w,sT d,sI i,a,b,e] true (.int i):=λ_ _ _=>za (i:=2) rfl
  have wy:∀a b e,WE zq [sT c.w,sT d,sI i,a,b,e] c.w:=λ_ _ _=>WD.e (za (i:=0) rfl)
  have eqN:∀{f g:EF}{as:AS}{a b:Nat},WD f as true (.int a)->WD g as true (.int b)->WT (fT (f2 f g (zK .Eq))) as (decide (a=b)):=λ{f g as a b} h1 h2=>yp (YJ (c:=decide (a=b)) h1 h2 (by
   show some ((a:Int)==b)=_
   by_cases z:a=b
   · subst z;rw[QzM rfl,beq_self_eq_true]
   · rw[QzE z,beq_eq_false_iff_ne.mpr (by omega)])) rfl
  have t1:=eqN (v2 none none none) (zb (x:=.int (0:Nat)))
  have t2:=eqN (v2 none none none) (k.size (v1 none none none))
  by_cases e0:i=0
  · rw[QzM e0]at t1
    subst e0
    exact⟨.non,d,yr rfl (yD (yU t1 (zR (wB (WD.e zb) (WD.e (v1 _ _ _)))))),.n,k.o⟩
  rw[QzE e0]at t1
  by_cases e1:i=R.length
  · rw[QzM e1]at t2
    refine⟨d,.non,yr rfl (zp (zL t1 rfl) (yD (yU t2 (zR (wB (WD.e (v1 _ _ _)) (WD.e zb)))))), ?_, ?_⟩
    · rw[e1,List.take_length];exact k.o
    · rw[e1,List.drop_length];exact .n
  rw[QzE e1]at t2
  have p0:p≠0:=λz=>by subst z;have:=k.one;omega
  obtain⟨x,y,r,s,u,v,k0,k1,k2,_,_,rfl,rfl⟩:=Xb h k p0
  rw[zzH]at hl hi e1
  have s3:=Zb (p:=3) (xY (wy none none none) (WD.e (v1 _ _ _)) k0) (zF rfl)
  have u0:∀b e,WD (f2 ym yc ixP) [sT c.w,sT d,sI i,sT (.tup [x,y]),b,e] true x:=λ_ _=>YW (j:=3) rfl rfl
  have u1:∀b e,WD (f2 ym zX ixP) [sT c.w,sT d,sI i,sT (.tup [x,y]),b,e] true y:=λ_ _=>YW (j:=3) rfl rfl
  have s4:=yL (i:=4) (st:=true) (k1.size (u0 none none)) (zF rfl)
  have v4:∀e,WD yt [sT c.w,sT d,sI i,sT (.tup [x,y]),sI r.length,e] true (.int r.length):=λ_=>za (i:=4) rfl
  have t5:=yp (zmt (v2 (sT (.tup [x,y])) (sI r.length) none) (v4 none)) rfl
  by_cases g:i<r.length
  · rw[QzM (by omega)]at t5
    obtain⟨a,b,a1,a2,a3⟩:=zkn h n i k1 (by omega) (by omega) (by omega)
    obtain⟨f,f1,f2⟩:=zsq h a3 k2.o (by rw[List.length_drop];omega) (by omega)
    have s5:=Zb (p:=5) (yN (wy _ _ _) (WD.e (u0 (sI r.length) none)) (WD.e (v2 _ _ _)) a1) (zF rfl)
    refine⟨a,f,yr rfl (zp (zL t1 rfl) (zp (zL t2 rfl) (zp s3 (zp s4 (yD (yU t5 (zp s5 (zR (wB (WD.e (YW (j:=5) rfl rfl)) (yN (wy _ _ _) (WD.e (YW (j:=5) rfl rfl)) (WD.e (u1 _ _)) f1)))))))))), ?_, ?_⟩
    · rw[List.take_append_of_le_length (by omega)];exact a2
    · rw[List.drop_append_of_le_length (by omega)];exact f2
  · rw[QzE (by omega)]at t5
    obtain⟨a,b,a1,a2,a3⟩:=zkn h n (i-r.length) k2 (by omega) (by omega) (by omega)
    obtain⟨f,f1,f2⟩:=zsq h k1.o a2 (by omega) (by rw[zzQ];omega)
    have ws:=zdd (v2 (sT (.tup [x,y])) (sI r.length) none) (v4 none)
    rw[show(i:Int)-r.length=((i-r.length:Nat):Int) by omega]at ws
    have s5:=Zb (p:=5) (yN (wy _ _ _) (WD.e (u1 _ _)) (WD.e ws) a1) (zF rfl)
    refine⟨f,b,yr rfl (zp (zL t1 rfl) (zp (zL t2 rfl) (zp s3 (zp s4 (zp (zL t5 rfl) (zp s5 (zR (wB (yN (wy _ _ _) (WD.e (u0 _ _)) (WD.e (YW (j:=5) rfl rfl)) f1) (WD.e (YW (j:=5) rfl rfl)))))))))), ?_, ?_⟩
    · rw[List.take_append,List.take_of_length_le (by omega)];exact f2
    · rw[List.drop_append,List.drop_of_length_le (by omega),List.nil_append];exact a3
theorem zwO(h:c.Ok)(k:OT c d R)(i:Nat)(hl:R.length<=1000)(hi:i<=R.length):∃a b,RE (wF 20 [(true,c.w),(true,d),(true,.int i)]) (.tup [a,b])/\OT c a (R.take i)/\OT c b (R.drop i):=by
 rcases k with⟨rfl,rfl⟩|⟨p,k⟩
 · cases Nat.le_zero.mp hi
   exact⟨.non,.non,yr rfl (yD (yU (yp (YJ (c:=true) (za (i:=2) rfl) zb rfl) rfl) (zR (wB (WD.e zb) (WD.e (za (i:=1) rfl)))))),.n,.n⟩
 · exact zkn h 20 i k (k.lt hl) hl hi
end
section
variable{n m:Nat}{J:TZ}{e:Int}{Ds:DD}{S:SS}
theorem zna{p:Str×TZ}(nd:(Ds.map (·.1)).Nodup)(hp:p ∈ Ds):RE (Wa [(true,zgf n m J e Ds S),(true,.str p.1)]) (vG p.2):=by
 have ww:WD (f1 zq (yu zeg "waits")) [sT (zgf n m J e Ds S),sT (.str p.1)] true (.dct (Ds.map kvW)):=zpU (c:="Ways") (ns:=zkr) rfl (by decide +kernel) rfl
 refine yr rfl (zR (zbv (WD.e ww) (WD.e (za (i:=1) rfl)) ?_))
 show imR (zeY (Ds.map kvW) (.inr p.1))=_
 rw[zoL (kf:=λp:Str×TZ=>p.1) (vf:=λp=>vG p.2) hp nd];rfl
theorem ztS(m1:1<=m)(m6:m<=6)(n8:n<=8):RE (zbq [(true,zgf n m J e Ds S)]) (vG (idT n m)):=by
 have ws:WD (f1 zq (yu vd "size")) [sT (zgf n m J e Ds S)] true (.int n):=zpU (c:="Ways") (ns:=zkr) rfl (by decide +kernel) rfl
 have wa:WD (f1 zq (yu X4 "around")) [sT (zgf n m J e Ds S)] true (.int m):=zpU (c:="Ways") (ns:=zkr) rfl (by decide +kernel) rfl
 have wt:WE (xm (dC (fP (aC (f1 zq (yu vd "size")) aN) trP) dN)) [sT (zgf n m J e Ds S)] (.tup [YK (Vk n)]):=zov (zco (WD.e ws) (by
  show(if(0:Int)<=n/\(n:Int)<=100000 then some (R0.im (.tup ((List.range (n:Int).toNat).map λ(i:Nat)=>.int i)))else none)=_
  rw[if_pos ⟨by omega,by omega⟩,QzG]
  show _=some (R0.im (.tup ((Vk n).map D.int)))
  rw[zzZ];rfl))
 refine yr rfl (zR (zbv wt (WD.e wa) ?_))
 show(if 1<=(m:Int)/\(m:Int)<2 ^ 63/\([YK (Vk n)]:List D).length≠0/\([YK (Vk n)]:List D).length*(m:Int).toNat<=sizeLine then some (R0.im (.tup (List.replicate (m:Int).toNat [YK (Vk n)]).flatten))else none)=_
 rw[if_pos ⟨by omega,by omega,Nat.one_ne_zero,by show 1*_<=_;exact szs (by omega)⟩,QzG,List.flatten_replicate_singleton]
 show _=some (R0.im (.tup ((List.replicate m (Vk n)).map YK)))
 rw[List.map_replicate]
end
theorem zww{f:EF}{as:AS}{r:List Int}(h:WD f as true (zO r)):WE (fSl f oN (oS (f1 zX zfZ)) rvP) as (zO r.reverse):=by
 refine zoM (lo:=none) (hi:=some (-1)) (WD.e h) rfl (oS1 (zqf zb)) ?_
 show(if(none:Option Int)=none/\some (-1:Int)=some (-1)then some (R0.fl (r.map D.int).reverse)else none)=_
 rw[if_pos ⟨rfl,rfl⟩,List.map_reverse]
section
variable{c:Cx}{x y d:D}{r s R:List Int}{p q:Nat}
theorem Cx.Ok.deed(h:c.Ok){k:Nat}{p:Str×TZ}(hp:c.Ds[k]? = some p):c.W p.2:=⟨h.A.ds p (zzY hp),h.L.ld p (zzY hp)⟩
theorem zmP(h:c.Ok){T:TZ}(hT:c.W T)(k:OT c d R):∃d',RE (yE [(true,c.w),(true,d),(true,vG T)]) d'/\OT c d' (c.ap (some T) R):=by
 rcases k with⟨rfl,rfl⟩|⟨p,k⟩
 · exact⟨.non,yr rfl (yD (yU (yp (zV (za (i:=1) rfl) zb rfl rfl) rfl) (zR (WD.e zb)))),.n⟩
 · obtain⟨d',a,b⟩:=zkF h hT k
   exact⟨d',a,b.o⟩
theorem zqo(h:c.Ok)(k:OT c d R):∃d',RE (xG [(true,c.w),(true,d)]) d'/\OT c d' R.reverse:=by
 rcases k with⟨rfl,rfl⟩|⟨p,k⟩
 · exact⟨.non,yr rfl (yD (yU (yp (zV (za (i:=1) rfl) zb rfl rfl) rfl) (zR (WD.e zb)))),.n⟩
 · obtain⟨d',a,b⟩:=zfc h k
   exact⟨d',a,b.o⟩
theorem zuE{a b:EF}{as:AS}{k:Nat}{p:Str×TZ}(ha:WD a as true c.g)(hb:WD b as true (.int k))(hp:c.Ds[k]? = some p):WD (f2 (f2 a XD ixP) b ixP) as true (zaL p):=wL (wL (z:=.lst (c.Ds.map zaL)) ha zb rfl) hb (zes hp)
theorem zuU{a:EF}{as:AS}(ha:WD a as true c.g):WD (fP (aC (f2 a XD ixP) aN) vK) as true (.int (c.Ds.length:Nat)):=by
 have:=xM (g:=vK) (x:=.int ((c.Ds.map zaL).length:Nat)) (zM (wL (g:=ixP) (z:=.lst (c.Ds.map zaL)) ha (zb (x:=.int 4)) rfl) zY) rfl rfl
 rw[zS]at this;exact this
theorem zmb(h:c.Ok){k:Nat}{p:Str×TZ}(hp:c.Ds[k]? = some p)(hr:c.In r)(hl:r.length<=1000):RE (wg [(true,c.g),(true,.int k),(true,zO r)]) (zO (c.ap (some p.2) r)):=by
 have W:=h.deed hp
 have m1:=h.A.m1
 have wm:=yF (zb (x:=.int 1)) (zV (g:=ixP) (z:=.int c.m) (as:=[sT c.g,sI k,sT (zO r),none]) (za (i:=0) rfl) (zb (x:=.int 1)) rfl rfl) (by omega)
 have w3:=wL (g:=ixP) (wL (g:=ixP) (z:=vp p.2) (zuE (za (i:=0) rfl) (za (i:=1) rfl) hp) (zb (x:=.int 1)) rfl) wm (Yk W.t h.m1).1
 have s3:=yL (st:=true) (i:=3) w3 (zF rfl)
 have ib:=zoK (g:=D.int) (l:=r) (as:=[sT c.g,sI k,sT (zO r),sT (zO (zav p.2 (1%(c.m:Int))))]) (WD.e (za (i:=2) rfl))
 have wm:=Wd (h:=λv:Int=>D.int (jAt p.2 (1%(c.m:Int)) v)) (it:=λv=>(true,D.int v)) (cap:=[none,some 3]) (gg:=gN 0) (fe:=f2 zy zq ixP) r ib (by omega) (λv mv=>⟨[sI v,sT (zO (zav p.2 (1%(c.m:Int))))],rfl,WD.e (zV (za (i:=1) rfl) (za (i:=0) rfl) (rowAt (Yk W.t h.m1).2 (hr v mv)).1 rfl)⟩)
 refine yr rfl (zp s3 (zR ?_))
 show WE _ _ (.lst ((r.map (jAt p.2 (1%(c.m:Int)))).map D.int))
 rw[zzZ];exact wm
theorem zuO(h:c.Ok){a b i:EF}{as:AS}{k:Nat}{p:Str×TZ}(hw:WD a as true c.w)(hg:WD b as true c.g)(hi:WD i as true (.int k))(hp:c.Ds[k]? = some p):WE (Z9 Zo "wait_of" a (aC (f2 (f2 (f2 b XD ixP) i ixP) yc ixP) aN)) as (vG p.2):=
 zyt hw (by decide +kernel) rfl (WD.e (wL (z:=.str p.1) (zuE hg hi hp) zb rfl)) (zna h.A.nd (zzY hp))
theorem zmF{a:EF}{as:AS}{x:Int}{k:Nat}(ha:WD a as true (.int x))(hk:1<=k){b:EF}(hb:WD b as true (.int k)):∃w:Nat,w<k/\x%(k:Int)=w/\WD (f2 a b zx) as true (.int w):=by
 obtain⟨w,e,l⟩:=zzd x k hk
 have:=yF ha hb (by omega)
 rw[e]at this
 exact⟨w,l,e,this⟩
theorem zuT{k:Nat}(hk:k<c.Ds.length):∃p,c.Ds[k]? = some p:=⟨_,zzC hk⟩
theorem zyZ(h:c.Ok):c.W (idT c.n c.m):=by
 have m1:=h.A.m1
 refine⟨zwl _ _,λi a hi ha=>?_,zjh ⟨Int.le_refl _,by omega⟩ h.L.lj.ce,λa i b k ha hi hb hk=>?_⟩
 · rw[zjh hi ha];exact ha
 · rw[zjh (zcx m1) (h.L.lj.cl _ _ ha hb),zjh hi ha,zjh hk hb]
theorem zym(h:c.Ok)(k:c.In r):c.ap (some (idT c.n c.m)) r=r:=by
 show r.map _=r
 refine(List.map_congr_left λa ma=>?_).trans (List.map_id r)
 exact zjh h.m1 (k a ma)
theorem ziW(h:c.Ok)(dl:1<=c.Ds.length)(k:OT c d r)(hl:r.length<=1000)(z:Int):∃d' r',RE (xO [(true,c.w),(true,c.g),(true,d),(true,zO r),(true,.int z)]) (.tup [d',zO r'])/\OT c d' r'/\r'.length=r.length:=by
 have kin:=k.in h
 let A:Option O->Option O->Option O->Option O->AS:=λa b e f=>[sT c.w,sT c.g,sT d,sT (zO r),sI z,a,b,e,f]
 have v0:∀a b e f,WD zq (A a b e f) true c.w:=λ_ _ _ _=>za (i:=0) rfl
 have v1:∀a b e f,WD zy (A a b e f) true c.g:=λ_ _ _ _=>za (i:=1) rfl
 have v2:∀a b e f,WE zU (A a b e f) d:=λ_ _ _ _=>WD.e (za (i:=2) rfl)
 have v3:∀a b e f,WD ym (A a b e f) true (zO r):=λ_ _ _ _=>za (i:=3) rfl
 have mz:∀(a b e f:Option O) (j:Int),0<=j->j<=300->WD (zj (aC yt (aC (fC (.int j)) aN)) zg) (A a b e f) true (.int (mx z j)):=λa b e f j h0 h1=>zeA (za (i:=4) (x:=.int z) (s:=true) rfl) zb h0 h1
 obtain⟨t,lt,_,s5⟩:=zmF (mz none none none none 50 (by decide) (by decide)) (k:=5) (by decide) (zb (x:=.int (5:Nat)))
 obtain⟨i,li,_,s6⟩:=zmF (mz (sI t) none none none 51 (by decide) (by decide)) dl (zuU (v1 _ _ _ _))
 obtain⟨j,lj,_,s7⟩:=zmF (mz (sI t) (sI i) none none 52 (by decide) (by decide)) dl (zuU (v1 _ _ _ _))
 obtain⟨p,hp⟩:=zuT li
 obtain⟨q,hq⟩:=zuT lj
 have s5:=yL (st:=true) (i:=5) s5 (zF rfl)
 have s6:=yL (st:=true) (i:=6) s6 (zF rfl)
 have s7:=yL (st:=true) (i:=7) s7 (zF rfl)
 have v5:∀f,WD xf (A (sI t) (sI i) (sI j) f) true (.int t):=λ_=>za (i:=5) rfl
 have v6:∀f,WD wM (A (sI t) (sI i) (sI j) f) true (.int i):=λ_=>za (i:=6) rfl
 have v7:∀f,WD WL (A (sI t) (sI i) (sI j) f) true (.int j):=λ_=>za (i:=7) rfl
 have t1:=yp (zmt (v5 none) (zb (x:=.int 2))) rfl
 have te:∀u:Nat,WT (fT (f2 xf (fC (.int u)) (zK .Eq))) (A (sI t) (sI i) (sI j) none) (decide (t=u)):=λu=>yp (YJ (c:=decide (t=u)) (v5 none) (zb (x:=.int u)) (by
  show some ((t:Int)==u)=_
  by_cases z:t=u
  · rw[z,QzM rfl,beq_self_eq_true]
  · rw[QzE z,beq_eq_false_iff_ne.mpr (by omega)])) rfl
 have fin:∀{d' r'},Rt ((zH (sIf (fT (f2 xf yM (zK .Lt))) (zT (xm (dC (zj (aC zq (aC zU (aC (Z9 Zo "wait_of" zq (aC (f2 (f2 (f2 zy XD ixP) wM ixP) yc ixP) aN)) aN))) yE) (dC (zj (aC zy (aC wM Xc)) wg) dN)))) sNx)
  (zH (sIf (fT (f2 xf yM (zK .Eq))) (zT (xm (dC (zj (aC zq wA) xG) (dC (fSl ym oN (oS (f1 zX zfZ)) rvP) dN)))) sNx)
  (zH (sIf (fT (f2 xf xR (zK .Eq))) (zH (zQ true 8 (Z9 VM "behind" zq (aC (Z9 Zo "wait_of" zq (aC (f2 (f2 (f2 zy XD ixP) wM ixP) yc ixP) aN)) (aC (Z9 Zo "wait_of" zq (aC (f2 (f2 (f2 zy XD ixP) WL ixP) yc ixP) aN)) aN))))
  (zT (xm (dC (zj (aC zq (aC zU (aC (fV 8) aN))) yE) (dC (zj (aC zy (aC WL (aC (zj (aC zy (aC wM Xc)) wg) aN))) wg) dN))))) sNx)
  (zT (xm (dC (zj (aC zq (aC zU (aC (Z9 zkq "idle" zq aN) aN))) yE) (dC (fP Xc lstP) dN))))))) (A (sI t) (sI i) (sI j) none)) (.tup [d',zO r'])->RE (xO [(true,c.w),(true,c.g),(true,d),(true,zO r),(true,.int z)]) (.tup [d',zO r']):=λhh=>yr rfl (zp s5 (zp s6 (zp s7 hh)))
 have wi:=zuO h (v0 (sI t) (sI i) (sI j) none) (v1 _ _ _ _) (v6 _) hp
 have wj:=zuO h (v0 (sI t) (sI i) (sI j) none) (v1 _ _ _ _) (v7 _) hq
 have Wp:=h.deed hp
 have Wq:=h.deed hq
 have mi:=zmb h hp kin hl
 by_cases g1:t<2
 · rw[QzM (by omega)]at t1
   obtain⟨d',a,b⟩:=zmP h Wp k
   exact⟨d',_,fin (yD (yU t1 (zR (wB (yN (WD.e (v0 _ _ _ _)) (v2 _ _ _ _) wi a) (yN (WD.e (v1 _ _ _ _)) (WD.e (v6 _)) (WD.e (v3 _ _ _ _)) mi))))),b,zbh _ _⟩
 rw[QzE (by omega)]at t1
 have t2:=te 2
 by_cases g2:t=2
 · rw[QzM g2]at t2
   obtain⟨d',a,b⟩:=zqo h k
   exact⟨d',_,fin (zp (zL t1 rfl) (yD (yU t2 (zR (wB (xY (WD.e (v0 _ _ _ _)) (v2 _ _ _ _) a) (zww (v3 _ _ _ _))))))),b,List.length_reverse⟩
 rw[QzE g2]at t2
 have t3:=te 3
 by_cases g3:t=3
 · rw[QzM g3]at t3
   obtain⟨v,b1,b2,b3⟩:=zkx h (w:=some p.2) (u:=some q.2) Wp Wq
   have W:=zqa Wp.t Wq.t
   obtain⟨d',a,b⟩:∃d',RE (yE [(true,c.w),(true,d),(true,vG (bh p.2 q.2))]) d'/\OT c d' (c.ap (some q.2) (c.ap (some p.2) r)):=by
    obtain⟨o,e1,_,e2⟩:=b1
    obtain⟨o',e1',_,e2'⟩:RE (wD [(true,c.w),(true,vG p.2),(true,vG q.2)]) (vG (bh p.2 q.2)):=yr rfl (zp (zL (yp (zV (z:=.bl false) (za (i:=1) rfl) zb rfl rfl) rfl) rfl) (zp (zL (yp (zV (z:=.bl false) (za (i:=2) rfl) zb rfl rfl) rfl) rfl) (zR (zlD (za (i:=0) rfl) (by decide +kernel) rfl (WD.e (za (i:=1) rfl)) (WD.e (za (i:=2) rfl)) (zfd Wp.t Wq.t h.A.m6 h.A.n8)))))
    have e1':wD [(true,c.w),(true,wtD (some p.2)),(true,wtD (some q.2))]=some o':=e1'
    rw[e1]at e1'
    cases e1'
    rw[e2]at e2'
    cases v with
    |none=>cases e2'
    |some V=>
     obtain⟨d',a,b⟩:=zmP h (show c.W V from b2) k
     rw[show vG V=vG (bh p.2 q.2)from e2']at a
     rw[b3 r kin]at b
     exact⟨d',a,b⟩
   have s8:=Zb (p:=8) (zlD (tbl:=VM) (m:="behind") (v0 (sI t) (sI i) (sI j) none) (by decide +kernel) rfl wi wj (zfd (x:=c.w) Wp.t Wq.t h.A.m6 h.A.n8)) (zF rfl)
   exact⟨d',_,fin (zp (zL t1 rfl) (zp (zL t2 rfl) (yD (yU t3 (zp s8 (zR (wB (yN (WD.e (v0 _ _ _ _)) (v2 _ _ _ _) (WD.e (za (i:=8) rfl)) a) (yN (WD.e (v1 _ _ _ _)) (WD.e (v7 _)) (yN (WD.e (v1 _ _ _ _)) (WD.e (v6 _)) (WD.e (v3 _ _ _ _)) mi) (zmb h hq (zuK h (w:=some p.2) Wp kin) (by rw[zbh];exact hl)))))))))),b,by rw[zbh,zbh]⟩
 rw[QzE g3]at t3
 obtain⟨d',a,b⟩:=zmP h (zyZ h) k
 rw[zym h kin]at b
 exact⟨d',r,fin (zp (zL t1 rfl) (zp (zL t2 rfl) (zp (zL t3 rfl) (zR (wB (yN (WD.e (v0 _ _ _ _)) (v2 _ _ _ _) (zuX (v0 _ _ _ _) (by decide +kernel) rfl (ztS h.A.m1 h.A.m6 h.A.n8)) a) (zwn (v3 _ _ _ _))))))),b,rfl⟩
end
theorem zsx{a b c d e:EF}{as:AS}{x y z u v w:D}{g:List (Bool×D)->Option O}(ha:WE a as x)(hb:WE b as y)(hc:WE c as z)(hd:WE d as u)(he:WE e as v)(hg:RE (g [(true,x),(true,y),(true,z),(true,u),(true,v)]) w):WE (zj (aC a (aC b (aC c (aC d (aC e aN))))) g) as w:=by
 obtain⟨o,h1,h2⟩:=hg
 exact⟨o,XF (ZJ ha (ZJ hb (ZJ hc (ZJ hd (ZJ he zY))))) (by show g [(yd x||true,x),(yd y||true,y),(yd z||true,z),(yd u||true,u),(yd v||true,v)]=_;rw[QzB,QzB,QzB,QzB,QzB];exact h1),h2⟩
abbrev kQ(q:D×List Int):D:=.tup [q.1,zO q.2]
abbrev kO(q:D×List Int):O:=.lf true (kQ q)
theorem zaZ:∀l:List (D×List Int),(l.map kO).all O.isLf=true/\O.strs (l.map kO)=true/\O.toDs (l.map kO)=l.map kQ
 | []=>⟨rfl,rfl,rfl⟩
 |q::l=>⟨(zaZ l).1,(zaZ l).2.1,congrArg (kQ q :: ·) (zaZ l).2.2⟩
theorem zyd{as:AS}{i:Nat}{l:List (D×List Int)}{b:EF}{k:Int}{q:D×List Int}(h:as[i]? = some (sN (l.map kO)))(hb:WD b as true (.int k))(hq:L2.atI (l.map kQ) k=some (kQ q)):WD (f2 (fV i) b ixP) as true (kQ q):=by
 unfold WD at hb ⊢
 unfold f2
 rw[zjk h]
 show(b as).bind _=_
 rw[hb]
 show(RV.view as (.bo i)).bind _=_
 rw[zkR h]
 show(some (D.lst (O.toDs (l.map kO)),if(l.map kO).all O.isLf=true then some (O.strs (l.map kO))else none)).bind _=_
 rw[(zaZ l).2.2,if_pos (zaZ l).1,(zaZ l).2.1]
 show(imR (L2.atI (l.map kQ) k)).bind _=_
 rw[hq];rfl
theorem zuL{as:AS}{i:Nat}{l:List (D×List Int)}{q:D×List Int}(h:as[i]? = some (sN ((l++[q]).map kO))):WD (f2 (fV i) (f1 zX zfZ) ixP) as true (kQ q):=
 zyd h (zqf zb) (by rw[QzK];exact L2.zqz _ _)
theorem zrI{a b:EF}{as:AS}{x y:D}(ha:WD a as true x)(hb:WD b as true y):WD (xm (dC a (dC b dN))) as true (.tup [x,y]):=zvF (yq ha (yq hb yV)) (szl rfl) rfl
theorem keepR{as:AS}{i:Nat}{l:List (D×List Int)}{a:EF}{q:D×List Int}(h:as[i]? = some (sN (l.map kO)))(hl:l.length<1000)(ha:WD a as true (kQ q)):wQ (Zm i (dC a dN) Za) as=some (.nx (as.set i (sN ((l++[q]).map kO)))):=by
 rw[zkz h (by rw[zS];exact zzI hl (szs (by decide))) ha,QzK];rfl
abbrev L12(ns:List Int)(c:Cx)(x3 x4 x5 x6 x7 x8 x9 x10 x11:Option O):AS:=[sT (.lst (ns.map .int)),sT c.g,sT c.w,x3,x4,x5,x6,x7,x8,x9,x10,x11]
theorem zsh(ns:List Int)(hns:ns.length<=63):zhu [(true,.lst (ns.map .int))]=sT (.bl true):=by
 obtain⟨c0,h0⟩:=zmS ns (k:=0) (by decide)
 obtain⟨c1,h1⟩:=zmS ns (k:=1) (by decide)
 obtain⟨c2,h2⟩:=zmS ns (k:=2) (by decide)
 obtain⟨c3,h3⟩:=zmS ns (k:=3) (by decide)
 obtain⟨c4,h4⟩:=zmS ns (k:=4) (by decide)
 obtain⟨c5,h5⟩:=zmS ns (k:=5) (by decide)
 obtain⟨c6,h6⟩:=zmS ns (k:=6) (by decide)
 obtain⟨c,h,dl,sl,sn,ha⟩:=zwo c0
 have s1:=Zb (p:=1) (as:=[sT (.lst (ns.map .int)),none,none,none,none,none,none,none,none,none,none,none]) (ZK (WD.e (h0 _ rfl)) ha) (zF rfl)
 have s2:=Zb (p:=2) (as:=[sT (.lst (ns.map .int)),sT c.g,none,none,none,none,none,none,none,none,none,none]) (ZK (WD.e (za (i:=1) rfl)) (ztL h.A h.L sl sn)) (zF rfl)
 obtain⟨R0,R1,R2,R3⟩:=zqg h hns (a:=8) (b:=63) (as:=L12 ns c none none none none none none none none none) rfl rfl
 have s3:=Zb (p:=3) R3 (zF rfl)
 have eqT:∀{a:EF}{as:AS}{x y:Int},WD a as true (.int x)->WT (fT (f2 a (fC (.int y)) (zK .Eq))) as (x==y):=λ{a as x y} ha=>yp (YJ (c:=x==y) ha (zb (x:=.int y)) rfl) rfl
 have bg:∀k:Nat,0<k->k<1000->(0:Int)<k/\((k:Int)).natAbs<big:=λk h0 h1=>⟨by omega,yW (by omega) (by omega)⟩
 have dv:∀{as:AS}(k:Nat),0<k->k<1000->as[0]? = some (sT (.lst (ns.map .int)))->WD (f2 (zj (aC zq (aC zX aN)) zJ) (fC (.int (k:Nat))) zN) as true (.int (c1/k)):=λk a b hz=>X7 (h1 _ hz) zb (bg k a b).1 (bg k a b).2
 obtain⟨R,m4,l1,l2,s4⟩:∃(R:List Int) (m4:Option O),R.length<=300/\c.In R/\sIf (fT (f2 (f2 (zj (aC zq (aC zX aN)) zJ) yM zx) yc (zK .Eq))) (zH (zQ true 4 (f2 (f2 (zj (aC zq (aC zX aN)) zJ) (fC (.int 16)) zN) (fC (.int 301)) zx))
  (zH (sIf (fT (f2 (f2 (f2 (zj (aC zq (aC zX aN)) zJ) yM zN) zgi zx) zdO (zK .NotEq))) (zQ true 4 (f2 (f2 (zj (aC zq (aC zX aN)) zJ) yM zN) (fC (.int 101)) zx)) sNx)
  (zQ true 3 (zj (aC (zj (aC zq (aC yM aN)) zJ) (aC yt (aC (f2 zy yc ixP) aN))) Zk)))) sNx (L12 ns c (sT (zO R0)) none none none none none none none none)=some (.nx (L12 ns c (sT (zO R)) m4 none none none none none none none)):=by
  have t:=eqT (y:=0) (yF (h1 (L12 ns c (sT (zO R0)) none none none none none none none none) rfl) (zb (x:=.int 2)) (by decide))
  cases q:(c1%2==0)with
  |true=>
   rw[q]at t
   obtain⟨w,lw,_,w1⟩:=zmF (dv (as:=L12 ns c (sT (zO R0)) none none none none none none none none) 16 (by decide) (by decide) rfl) (k:=301) (by decide) (zb (x:=.int (301:Nat)))
   obtain⟨v,lv,_,v1⟩:=zmF (dv (as:=L12 ns c (sT (zO R0)) (sI w) none none none none none none none) 2 (by decide) (by decide) rfl) (k:=101) (by decide) (zb (x:=.int (101:Nat)))
   have t2:=zln (yF (dv (as:=L12 ns c (sT (zO R0)) (sI w) none none none none none none none) 2 (by decide) (by decide) rfl) (zb (x:=.int 8)) (by decide)) (zb (x:=.int 5))
   obtain⟨u,lu,su⟩:∃u:Nat,u<=300/\sIf (fT (f2 (f2 (f2 (zj (aC zq (aC zX aN)) zJ) yM zN) zgi zx) zdO (zK .NotEq))) (zQ true 4 (f2 (f2 (zj (aC zq (aC zX aN)) zJ) yM zN) (fC (.int 101)) zx)) sNx (L12 ns c (sT (zO R0)) (sI w) none none none none none none none)=some (.nx (L12 ns c (sT (zO R0)) (sI u) none none none none none none none)):=by
    cases q2:(!(c1/(2:Nat)%8==5))with
    |true=>rw[q2]at t2;exact⟨v,by omega,Yd t2 (yL (i:=4) v1 (zF rfl))⟩
    |false=>rw[q2]at t2;exact⟨w,by omega,zL t2 rfl⟩
   obtain⟨r,r1,r2,r3⟩:=zxf (x:=c2) (w:=u) h.A.n1 h.A.n8 lu
   exact⟨r,sI u,by omega,r2,Yd t (yw (yL (i:=4) w1 (zF rfl)) (yw su (Zb (p:=3) (yN (WD.e (h2 _ rfl)) (WD.e (za (i:=4) rfl)) (WD.e (zV (z:=.int c.n) (za (i:=1) rfl) zb rfl rfl)) r3) (zF rfl))))⟩
  |false=>
   rw[q]at t
   exact⟨R0,none,by omega,R2,zL t rfl⟩
 obtain⟨d,d1,d2⟩:=zwU h (r:=R) (by omega) l2 true
 have s5:=ZX (i:=5) (V7 (yq (zrI (fzW (xY (as:=L12 ns c (sT (zO R)) m4 none none none none none none none) (WD.e (za (i:=2) rfl)) (WD.e (za (i:=3) rfl)) d1)) (za (i:=3) rfl)) yV) (szl rfl)) (zF rfl)
 have w2:∀x3 x5 x6 x7 x8 x9 x10 x11,WE zU (L12 ns c x3 m4 x5 x6 x7 x8 x9 x10 x11) c.w:=λ_ _ _ _ _ _ _ _=>WD.e (za (i:=2) rfl)
 have w1:∀x3 x5 x6 x7 x8 x9 x10 x11,WE zy (L12 ns c x3 m4 x5 x6 x7 x8 x9 x10 x11) c.g:=λ_ _ _ _ _ _ _ _=>WD.e (za (i:=1) rfl)
 obtain⟨b,lb,eb,wb⟩:=zmF (h3 (L12 ns c (sT (zO R)) m4 (sN ([(d,R)].map kO)) none none none none none none) rfl) (k:=6) (by decide) (zb (x:=.int (6:Nat)))
 obtain⟨as',hf,l,d',R',x6,x7,rfl,hl,lr,hk⟩:=Ze (g:=gN 6) (f:=(zH (zmq (zj (aC zU (aC zy (aC (f2 (f2 xf (f1 zX zfZ) ixP) yc ixP) (aC (f2 (f2 xf (f1 zX zfZ) ixP) zX ixP) (aC (zj (aC (zj (aC zq (aC XD aN)) zJ) (aC (f2 (fC (.int 60)) wM zE) aN)) zg) aN))))) xO) (gT 2 (gsC (gN 7) (gsC (gN 3) gsN))))
  (zH (sIf (Xf (fT (zj (aC zU (aC zy (aC WL Xc))) xF))) (zT (fC (.bl false))) sNx)
  (wQ (Zm 5 (dC (xm (dC WL (dC ym dN))) dN) Za)))))
  (λi as=>∃(l:List (D×List Int)) (d':D) (R':List Int) (x6 x7:Option O),as=L12 ns c (sT (zO R')) m4 (sN ((l++[(d',R')]).map kO)) x6 x7 none none none none/\l.length=i/\R'.length<=300/\∀q ∈ l++[(d',R')],OT c q.1 q.2/\q.2.length<=300) (wR 0 (1+b)) 0 (L12 ns c (sT (zO R)) m4 (sN (([]++[(d,R)]).map kO)) none none none none none none) (λi x as hx hI=>by
   obtain⟨l,d',R',x6,x7,rfl,hl,lr,hk⟩:=hI
   obtain⟨rfl,hi⟩:=Yr hx
   rw[QzV]at hl ⊢
   rw[Int.zero_add]
   have ot:OT c d' R':=(hk (d',R') (zzJ _ zzD)).1
   have lw:∀x7,WD (f2 xf (f1 zX zfZ) ixP) (L12 ns c (sT (zO R')) m4 (sN ((l++[(d',R')]).map kO)) (sI i) x7 none none none none) true (kQ (d',R')):=λ_=>zuL (i:=5) rfl
   have wz:=zeA (h4 (L12 ns c (sT (zO R')) m4 (sN ((l++[(d',R')]).map kO)) (sI i) x7 none none none none) rfl) (yC (zb (x:=.int 60)) (za (i:=6) (x:=.int i) (s:=true) rfl)) (by omega) (by omega)
   obtain⟨e,S,e1,e2,e3⟩:=ziW h dl ot (by omega) (mx c4 (60+i))
   have a1:=zvO (i:=7) (j:=3) ((zsx (w2 _ _ _ _ _ _ _ _) (w1 _ _ _ _ _ _ _ _) (WD.e (wL (g:=ixP) (z:=d') (lw x7) (zb (x:=.int 0)) rfl)) (WD.e (wL (g:=ixP) (z:=zO R') (lw x7) (zb (x:=.int 1)) rfl)) (WD.e wz) e1)) (zF rfl) (zF rfl)
   have t1:=zbj (wtE (zsl (w2 (sT (zO S)) (sN ((l++[(d',R')]).map kO)) (sI i) (sT e) none none none none) (w1 _ _ _ _ _ _ _ _) (WD.e (za (i:=7) rfl)) (WD.e (za (i:=3) rfl)) (zoD h e2 (by omega))))
   have kp:=keepR (i:=5) (as:=L12 ns c (sT (zO S)) m4 (sN ((l++[(d',R')]).map kO)) (sI i) (sT e) none none none none) (q:=(e,S)) rfl (by rw[zzH];show l.length+1<_;omega) (zrI (za (i:=7) rfl) (za (i:=3) rfl))
   refine⟨_,rfl,_,yw a1 (yw (zL t1 rfl) kp),l++[(d',R')],e,S,_,_,rfl,by rw[zzH,hl];rfl,by omega,λq mq=>?_⟩
   rcases zzK.mp mq with mq|mq
   · exact hk q mq
   · rcases zzA.mp mq with rfl|mq
     · exact⟨e2,by show S.length<=_;omega⟩
     · exact nomatch mq) ⟨[],d,R,none,none,rfl,rfl,l1,λq mq=>by
       rcases zzA.mp mq with rfl|mq
       · exact⟨d2,l1⟩
       · exact nomatch mq⟩
 rw[ZS,QzV]at hl
 have rg:=vq (as:=L12 ns c (sT (zO R)) m4 (sN ([(d,R)].map kO)) none none none none none none) (zM (yC (zb (x:=.int 1)) wb) zY) (by omega) (by omega)
 rw[show(1+(b:Int)).toNat=1+b by omega]at rg
 have ot:OT c d' R':=(hk (d',R') (zzJ _ zzD)).1
 obtain⟨k,lk,ek,wk⟩:=zmF (h5 (L12 ns c (sT (zO R')) m4 (sN ((l++[(d',R')]).map kO)) x6 x7 none none none none) rfl) (k:=R'.length+1) (by omega) (yC (zyz (za (i:=3) (s:=true) rfl)) (zb (x:=.int 1)))
 have s8:=yL (st:=true) (i:=8) wk (zF rfl)
 have w8:∀x7 x9 x10 x11,WD (fV 8) (L12 ns c (sT (zO R')) m4 (sN ((l++[(d',R')]).map kO)) x6 x7 (sI k) x9 x10 x11) true (.int k):=λ_ _ _ _=>za (i:=8) rfl
 have w3:∀x7 x9 x10 x11,WD ym (L12 ns c (sT (zO R')) m4 (sN ((l++[(d',R')]).map kO)) x6 x7 (sI k) x9 x10 x11) true (zO R'):=λ_ _ _ _=>za (i:=3) rfl
 obtain⟨a,e,p1,p2,p3⟩:=zwO h ot k (by omega) (by omega)
 have s9:=zvO (i:=9) (j:=10) ((yN (w2 _ _ _ x7 _ none none none) (WD.e (wL (g:=ixP) (z:=d') (zuL (i:=5) (l:=l) (q:=(d',R')) rfl) (zb (x:=.int 0)) rfl)) (WD.e (w8 _ _ _ _)) p1)) (zF rfl) (zF rfl)
 have lt:(R'.take k).length<=300:=by rw[zzQ];omega
 have ld:(R'.drop k).length<=300:=by rw[List.length_drop];omega
 obtain⟨f,T,f1,f2,f3⟩:=ziW h dl p2 (by omega) c6
 have s10:=zvO (i:=7) (j:=11) ((zsx (w2 _ _ _ x7 _ (sT a) (sT e) none) (w1 _ _ _ _ _ _ _ _) (WD.e (za (i:=9) rfl)) (zyI (w3 _ _ _ _) (w8 _ _ _ _) (by omega)) (WD.e (h6 _ rfl)) f1)) (zF rfl) (zF rfl)
 have lT:T.length+(R'.drop k).length<=300:=by rw[f3,zzQ,List.length_drop];omega
 obtain⟨g,g1,g2⟩:=zsq h f2 p3 (by omega) (by omega)
 have kp:=keepR (i:=5) (as:=L12 ns c (sT (zO R')) m4 (sN ((l++[(d',R')]).map kO)) x6 (sT f) (sI k) (sT a) (sT e) (sT (zO T))) (q:=(g,T++R'.drop k)) rfl (by rw[zzH];show l.length+1<_;omega) (zrI (fzW (yN (w2 _ _ _ _ _ _ _ _) (WD.e (za (i:=7) rfl)) (WD.e (za (i:=10) rfl)) g1)) (fzW (zvX (WD.e (za (i:=11) rfl)) (zvZ (w3 _ _ _ _) (w8 _ _ _ _) (by omega)) (by omega))))
 have it:=zur (as:=L12 ns c (sT (zO R')) m4 (sN ((l++[(d',R')]++[(g,T++R'.drop k)]).map kO)) x6 (sT f) (sI k) (sT a) (sT e) (sT (zO T))) (i:=5) rfl
 rw[(zaZ _).2.1,(zaZ _).2.2,zbl,zzZ]at it
 obtain⟨as2,q1,_⟩:=zxQ (g:=gT 2 (gsC (gN 7) (gsC (gN 3) gsN))) (f:=sIf (Xf (fT (zj (aC zU (aC zy (aC WL Xc))) xF))) (zT (fC (.bl false))) sNx) (it:=(λd=>(true,d))∘kQ) (λas=>∃x3 x7,as=L12 ns c x3 m4 (sT (.lst ((l++[(d',R')]++[(g,T++R'.drop k)]).map kQ))) x6 x7 (sI k) (sT a) (sT e) (sT (zO T))) (l++[(d',R')]++[(g,T++R'.drop k)]) (λq mq as hI=>by
  obtain⟨x3,x7,rfl⟩:=hI
  have hq:OT c q.1 q.2/\q.2.length<=300:=by
   rcases zzK.mp mq with mq|mq
   · exact hk q mq
   · rcases zzA.mp mq with rfl|mq
     · exact⟨g2,by show(T++R'.drop k).length<=_;rw[zzH];exact lT⟩
     · exact nomatch mq
  refine⟨L12 ns c (sT (zO q.2)) m4 (sT (.lst ((l++[(d',R')]++[(g,T++R'.drop k)]).map kQ))) x6 (sT q.1) (sI k) (sT a) (sT e) (sT (zO T)),gT2 (zF rfl) (zF rfl),_,zL (zbj (wtE (zsl (w2 _ _ _ _ _ _ _ _) (w1 _ _ _ _ _ _ _ _) (WD.e (za (i:=7) rfl)) (WD.e (za (i:=3) rfl)) (zoD h hq.1 (by omega))))) rfl,_,_,rfl⟩) (L12 ns c (sT (zO R')) m4 (sT (.lst ((l++[(d',R')]++[(g,T++R'.drop k)]).map kQ))) x6 (sT f) (sI k) (sT a) (sT e) (sT (zO T))) ⟨_,_,rfl⟩
 exact Va rfl (yw s1 (yw s2 (yw s3 (yw s4 (yw s5 (yw (Yc rg hf) (yw s8 (yw s9 (yw s10 (yw kp (yw (Yc it q1) (Vd zb))))))))))))
end G33
end
open PySem PySem.W PyProof.Rows
set_option maxRecDepth 100000 in
set_option maxHeartbeats 0 in
theorem PySem.Challenge.cw_stretchdeeds_k33_done_and_turned_holds : PySem.Challenge.rw_stretchdeeds_k33_done_and_turned.Holds := by
 w_on;refine holds_law G33.ws λsaid=>?_
 refine holds_open (q:=G33.qv) (loose:=[]) (Xt:=G33.Xt) (XP:=XL G33.qv []) (Yf:=Hook.obs (kHook G33.K G33.kA G33.kAe)) (Ya:=Hook.val (kHook G33.K G33.kA G33.kAe)) (YP:=Hook.says (kHook G33.K G33.kA G33.kAe)) (N:=6000) G33.hl (Hook.of (kHook G33.K G33.kA G33.kAe)) (Hook.keeps (kHook G33.K G33.kA G33.kAe)) (λs e=>xl_of s (Bool.and_eq_true_iff.mp e).1) XL.keeps (by rfl) (by rfl) (by rfl) (λs e=>recFacts_of (Bool.and_eq_true_iff.mp e).2) (by rfl) (by first|assumption|decide +kernel) (by decide +kernel) ⟨rfl,rfl,rfl,rfl,rfl,by decide +kernel⟩ ?hw ?hc
 (case hw=>w_witness2)
 k_fill
 refine G33.walk (l:=PySem.Challenge.rw_stretchdeeds_k33_done_and_turned) rfl rfl (λw h Y=>PySem.W.kIn_of Y) G33.zsh ?F
 case F=>
  intro w mg fa h KX G hmg
  refine' G33.zvz KX G hmg ?_ ?_ ?_ ?_ ?_ ?_ ?_ ?_ ?_ ?_ ?_ ?_ ?_ ?_ ?_ ?_ ?_ ?_ ?_ ?_ ?_ ?_ ?_ ?_ ?_ ?_ ?_ ?_ ?_ ?_ ?_ ?_ ?_ ?_ ?_ ?_ ?_ ?_ ?_ ?_ ?_ ?_ ?_ ?_ ?_ ?_ ?_ ?_ ?_ ?_ ?_ ?_ ?_ ?_ ?_ ?_ ?_ ?_ ?_ ?_ ?_ ?_ ?_ ?_ ?_ ?_ ?_ ?_ ?_ ?_ ?_ ?_ ?_ ?_ ?_ ?_ ?_ ?_ ?_ ?_ ?_ ?_ ?_ ?_ ?_ ?_ ?_ ?_ ?_ ?_ ?_ ?_ ?_ ?_ ?_ ?_ ?_ ?_ ?_ ?_ ?_ ?_ ?_ ?_ ?_ ?_ ?_ ?_ ?_ ?_ ?_ ?_ ?_ ?_ ?_ ?_ ?_ ?_ ?_ ?_ ?_ ?_ ?_ ?_ ?_ ?_ ?_ ?_ ?_ ?_ ?_ ?_ ?_ ?_ ?_ ?_ ?_ ?_ ?_ ?_ ?_ ?_ ?_ ?_ ?_ ?_ ?_ ?_ ?_ ?_ ?_ ?_
  all_goals try first|k_is|(change _=_;k_is)|exact⟨_,⟨_,_,_,_,_,_,_,_,_,rfl,by k_is,by k_is⟩,by k_is⟩|rfl
#print axioms PySem.Challenge.cw_stretchdeeds_k33_done_and_turned_holds
