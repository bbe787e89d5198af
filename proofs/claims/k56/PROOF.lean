import PyProof.Rows.All
import Wide.All
import OpenK.AllK
import Wide.FinOn
import PyProof.EqAt
import PyProof.EqKinds
import PyProof.TupleCall
import PyProof.NeKinds
import PyProof.AutoSeq1
import KE.LcSums
import PyProof.Rows.StrWeight2
import PyProof.StrBlockG
import KE.KIntText
import PyProof.CallStr
import PyProof.WalksEnum
import PyProof.Rows.EnumRows
import PyProof.Rows.FactsT2
import KE.KRevIter
import PyProof.StrWalks
import PyProof.ReprRoads
import PyProof.StrLawsTight
import PyProof.Rows.StrItems
import PyProof.Rows.ReprOcc
import PyProof.Rows.StrJoinMade
import PyProof.ReprLen
import PyProof.ZipIter
import PyProof.Rows.SortWalk
import PyProof.ListRange
import PyProof.AttrMissHeap
import PyProof.Rows.SumAny
import PyProof.Rows.TupDisplay
import PyProof.DictRoadsH
import KE.KDictLaws
import PyProof.Rows.SetFrom
import Lean
import PySem.Challenge.RW_stretchdeeds_k56_whole_least_by_rows
set_option Elab.async false
set_option linter.all false
set_option maxRecDepth 100000
abbrev zC:=PySem.W.Frag
abbrev zD:=@List.length_map
abbrev zzA:=@List.mem_cons
abbrev zzB:=@List.mem_cons_of_mem
abbrev zzC:=@List.getElem?_eq_getElem
abbrev zzD:=@List.mem_cons_self
abbrev zzE:=@List.getElem?_eq_some_iff
abbrev zzF:=@List.size_toArray
abbrev zzG:=@List.getElem?_map
abbrev zzH:=@List.length_append
abbrev zzI:=@Nat.lt_of_lt_of_le
abbrev zzJ:=@List.mem_append_right
abbrev zzK:=@List.mem_append
abbrev zzL:=@Nat.le_refl
abbrev zzM:=@Nat.le_trans
abbrev zzN:=@List.mem_append_left
abbrev zzO:=@Nat.ne_of_lt
abbrev zzP:=@List.mem_singleton
abbrev zzQ:=@List.length_take
abbrev zzR:=@List.length_cons
abbrev zzS:=@List.length_set
abbrev zzT:=@Int.natCast_mul
abbrev zzU:=@List.nodup_cons
abbrev zzV:=@Option.map_eq_some_iff
abbrev zzW:=@List.getElem?_set_ne
abbrev zzX:=@Option.some.inj
abbrev zzY:=@List.mem_of_getElem?
abbrev zzZ:=@List.map_map
abbrev zyA:=@Bool.and_eq_true
abbrev zyB:=@Bool.or_true
abbrev zyC:=@List.append_nil
abbrev zyD:=@List.getD_eq_getElem?_getD
abbrev zyE:=@decide_eq_false
abbrev zyF:=@Int.emod_lt_of_pos
abbrev zyG:=@Int.toNat_natCast
abbrev zyH:=@List.nodup_nil
abbrev zyI:=@List.getElem?_set_self
abbrev zyJ:=@Option.bind_some
abbrev zyK:=@List.map_append
abbrev zyL:=@Int.emod_nonneg
abbrev zyM:=@decide_eq_true
abbrev zyN:=@List.getElem?_append_left
abbrev zyO:=@List.drop_eq_getElem_cons
abbrev zyP:=@List.getElem?_append_right
abbrev zyQ:=@List.map_cons
abbrev zyR:=@Array.length_toList
abbrev zyS:=@List.length_range
abbrev zyT:=@List.getElem?_of_mem
abbrev zyU:=@Bool.false_ne_true
abbrev zyV:=@Nat.le_succ
abbrev zyW:=@Nat.zero_add
abbrev zyX:=@Int.toNat_of_nonneg
abbrev zyY:=@List.getElem_mem
abbrev zyZ:=@Nat.lt_succ_of_lt
abbrev zxA:=@List.not_mem_nil
abbrev zxB:=@List.append_assoc
abbrev zxC:=@List.mem_map
abbrev zxD:=@List.nodup_append
abbrev zxE:=@PySem.wpAny_bind
abbrev zxF:=@PySem.wpAny_pure
abbrev zxG:=@PySem.Heap.get?_push_of_some
abbrev zxH:=@PySem.Heap.lt_size
abbrev zxI:=@PySem.Heap.get?_push_size
abbrev zxJ:=@PySem.wpAny_newObj_type
abbrev zxK:=@PySem.wpAny_holding
abbrev zxL:=@PySem.Heap.size_push
abbrev zxM:=@PySem.wpAny_mono
section
namespace L2
open PySem PySem.Spec PyProof.Rows
abbrev Key:=Sum Int Str
def zeC:Key->Value->Bool
 | .inl k,.bool b=>(if b then 1 else 0)==k
 | .inl k,v=>Value.isInt k v
 | .inr x,v=>Value.isStrOf x v
def zvT(w:World):Key->Int
 | .inl k=>hashInt k
 | .inr x=>hashStr w x
theorem wH:∀{k:Key}{v:Value},zeC k v=true->(∃i t,k=Sum.inl i/\v=Value.int i t)\/(∃x t,k=Sum.inr x/\v=Value.str x t)\/(∃b,k=Sum.inl (if b=true then 1 else 0)/\v=Value.bool b)
 | .inl i,v,h=>by
  by_cases hb:∃b,v=Value.bool b
  · obtain⟨b,rfl⟩:=hb
    have h:((if b=true then 1 else 0)==i)=true:=h
    exact .inr (.inr ⟨b,by rw[eq_of_beq h],rfl⟩)
  · have h':Value.isInt i v=true:=by
     cases v<;>first|exact h|exact(hb ⟨_,rfl⟩).elim
    obtain⟨t,e⟩:=Value.isInt_shape (k:=i) (v:=v) h'
    exact .inl ⟨i,t,rfl,e⟩
 | .inr x,v,h=>by
  obtain⟨t,e⟩:=Value.isStrOf_shape (x:=x) (v:=v) h
  exact .inr (.inl ⟨x,t,rfl,e⟩)
theorem zqu(b:Bool):zeC (.inl (if b=true then 1 else 0)) (.bool b)=true:=by simp[zeC]
theorem znP(i:Int)(t:Tok):zeC (.inl i) (.int i t)=true:=by simp[zeC,Value.isInt]
theorem zob(x:Str)(t:Tok):zeC (.inr x) (.str x t)=true:=by simp[zeC,Value.isStrOf]
theorem zjx(a b:Int):decide ((Sum.inl a:Key)=Sum.inl b)=(a==b):=by
 by_cases e:a=b
 · subst e;simp
 · have h:¬(Sum.inl a:Key)=Sum.inl b:=λq=>e (Sum.inl.inj q)
   rw[zyE h]
   exact(beq_eq_false_iff_ne.mpr e).symm
theorem zsO(a b:Str):decide ((Sum.inr a:Key)=Sum.inr b)=decide (a=b):=by
 by_cases e:a=b
 · subst e;simp
 · have h:¬(Sum.inr a:Key)=Sum.inr b:=λq=>e (Sum.inr.inj q)
   rw[zyE h,zyE e]
theorem zpP(a:Int)(b:Str):decide ((Sum.inl a:Key)=Sum.inr b)=false:=zyE (λq=>nomatch q)
theorem zpb(a:Str)(b:Int):decide ((Sum.inr a:Key)=Sum.inl b)=false:=zyE (λq=>nomatch q)
theorem zrU{prog:Program}{w:World}{A:Around}{E:Value->Shared->Prop}{s:Shared}{b:Bool}{Q:Int->Shared->Prop}(h:Q (hashInt (if b=true then 1 else 0)) {s with toks:=s.toks+1}):wpAny (model prog w) A (PySem.pyHash (.bool b)) Q E s:=by
 refine PySem.W.pyHash_slot (B:=_) (v:=.bool b) rfl PySem.F.slot_bool_hash entry_int_hash (args_int_hash _) (beq_builtin_none _) (.inl rfl) ?_
 have one:∀n:Int,Q (PySem.reduceHash n) {s with toks:=s.toks+1}->wpAny (model prog w) A.in1 (do ret (<-mkInt n)) (λfin s'=>∃n t,fin = .done (.ret (.int n t))/\Q (PySem.reduceHash n) s') E s:=λn z=>zxE (wpAny_mkInt (zxF ⟨_,_,rfl,z⟩))
 cases b with
 |false=>exact one 0 h
 |true=>exact one 1 h
def wB(prog:Program)(w:World):PySem.KeyKind prog w Key where
 is:=zeC
 hash:=zvT w
 inj:=λv a b ha hb=>by
  rcases wH ha with⟨i,t,rfl,rfl⟩|⟨x,t,rfl,rfl⟩|⟨c,rfl,rfl⟩
  · rcases wH hb with⟨j,u,rfl,e⟩|⟨y,u,rfl,e⟩|⟨d,rfl,e⟩
    · injection e with e1 _;rw[e1]
    · exact nomatch e
    · exact nomatch e
  · rcases wH hb with⟨j,u,rfl,e⟩|⟨y,u,rfl,e⟩|⟨d,rfl,e⟩
    · exact nomatch e
    · injection e with e1 _;rw[e1]
    · exact nomatch e
  · rcases wH hb with⟨j,u,rfl,e⟩|⟨y,u,rfl,e⟩|⟨d,rfl,e⟩
    · exact nomatch e
    · exact nomatch e
    · injection e with e1;rw[e1]
 byValue:=λk v h=>by
  rcases wH h with⟨i,t,rfl,rfl⟩|⟨x,t,rfl,rfl⟩|⟨c,rfl,rfl⟩<;>rfl
 pyHash:=λhv h=>by
  rcases wH hv with⟨i,t,rfl,rfl⟩|⟨x,t,rfl,rfl⟩|⟨c,rfl,rfl⟩
  · exact wpAny_pyHash_int h
  · exact wpAny_pyHash_str h
  · exact zrU h
 eqBool:=λhu hv h=>by
  rcases wH hu with⟨i,t,rfl,rfl⟩|⟨x,t,rfl,rfl⟩|⟨c,rfl,rfl⟩
  · rcases wH hv with⟨j,u,rfl,rfl⟩|⟨y,u,rfl,rfl⟩|⟨d,rfl,rfl⟩
    · rw[zjx]at h;exact wpAny_eqBool_int h
    · rw[zpP]at h;exact SeqAt.EqAt.int_str i t y u _ _ _ _ h
    · rw[zjx]at h;exact SeqAt.EqAt.int_bool i t d _ _ _ _ h
  · rcases wH hv with⟨j,u,rfl,rfl⟩|⟨y,u,rfl,rfl⟩|⟨d,rfl,rfl⟩
    · rw[zpb]at h;exact SeqAt.EqAt.str_int x t j u _ _ _ _ h
    · rw[zsO]at h;exact wpAny_eqBool_str h
    · rw[zpb]at h;exact SeqAt.EqAt.str_bool x t d _ _ _ _ h
  · rcases wH hv with⟨j,u,rfl,rfl⟩|⟨y,u,rfl,rfl⟩|⟨d,rfl,rfl⟩
    · rw[zjx]at h;exact SeqAt.EqAt.bool_int c j u _ _ _ _ h
    · rw[zpP]at h;exact SeqAt.EqAt.bool_str c y u _ _ _ _ h
    · rw[zjx]at h;exact SeqAt.EqAt.bool_bool c d _ _ _ _ (by
       have e:(((if c=true then 1 else 0:Int))==(if d=true then 1 else 0))=(c==d):=by cases c<;>cases d<;>rfl
       rw[e]at h;exact h)
 «strs» := λk x t v h=>by
  rcases wH h with⟨i,u,rfl,e⟩|⟨y,u,rfl,e⟩|⟨d,rfl,e⟩
  · exact nomatch e
  · injection e with e1 _
    subst e1
    cases v<;>rfl
  · exact nomatch e
theorem zkr(prog:Program)(w:World)(i:Int)(t:Tok):(wB prog w).is (.inl i) (.int i t)=true:=znP i t
theorem zap(prog:Program)(w:World)(x:Str)(t:Tok):(wB prog w).is (.inr x) (.str x t)=true:=zob x t
end L2
namespace L2
open PySem PySem.Spec PyProof.Rows
inductive V where
 |non|bl (b:Bool)|int (i:Int)|str (x:Str)|byt (b:Array UInt8)|flt (b:UInt64)|ref (a:Addr)|ty (n:String)
 deriving DecidableEq
def RelV:V->Value->Prop
 | .non,u=>u=Value.none
 | .bl b,u=>u=Value.bool b
 | .int i,u=>∃t,u=Value.int i t
 | .str x,u=>∃t,u=Value.str x t
 | .byt b,u=>∃t,u=Value.bytes b t
 | .flt b,u=>∃t,u=Value.float b t
 | .ref a,u=>u=Value.ref a
 | .ty n,u=>u=Value.type n
abbrev Vals:List V->List Value->Prop:=Paired RelV
theorem Vals.length(r:Vals xs us):xs.length=us.length:=Paired.length r
theorem Vals.get:∀{xs:List V}{us:List Value}{i:Nat}{x:V},Vals xs us->xs[i]? = some x->∃u,us[i]? = some u/\RelV x u
 |_,_,_,_,.nil,e=>by simp at e
 |_,_,0,_,.cons r _,e=>by simp at e;subst e;exact⟨_,rfl,r⟩
 |_,_,i+1,x,.cons _ t,e=>by
  obtain⟨u,h1,h2⟩:=Vals.get (i:=i) (x:=x) t (by simpa using e)
  exact⟨u,by simpa using h1,h2⟩
theorem Vals.set(r:RelV x u):∀{xs:List V}{us:List Value}(i:Nat),Vals xs us->Vals (xs.set i x) (us.set i u)
 |_,_,_,.nil=>.nil
 |_,_,0,.cons _ t=>.cons r t
 |_,_,i+1,.cons q t=>.cons q (Vals.set r i t)
theorem Vals.append:∀{xs ys:List V}{us ws:List Value},Vals xs us->Vals ys ws->Vals (xs++ys) (us++ws)
 |_,_,_,_,.nil,s=>s
 |_,_,_,_,.cons r t,s=>.cons r (Vals.append t s)
theorem Vals.take:∀{xs:List V}{us:List Value}(n:Nat),Vals xs us->Vals (xs.take n) (us.take n)
 |_,_,0,_=>.nil
 |_,_,_+1,.nil=>.nil
 |_,_,n+1,.cons r t=>.cons r (Vals.take n t)
theorem Vals.drop:∀{xs:List V}{us:List Value}(n:Nat),Vals xs us->Vals (xs.drop n) (us.drop n)
 |_,_,0,r=>r
 |_,_,_+1,.nil=>.nil
 |_,_,n+1,.cons _ t=>Vals.drop n t
def zgc:Option V->Option Value->Prop
 |some v,some u=>RelV v u
 |none,none=>True
 |_,_=>False
def KV{κ:Type}:List (κ×V)->List (κ×Value)->Prop:=Paired λ(p:κ×V) (q:κ×Value)=>p.1=q.1/\RelV p.2 q.2
def kV:Key->V
 | .inl i=>.int i
 | .inr x=>.str x
inductive HO where
 |lst (xs:List V)
 |tup (xs:List V)
 |dK (kvs:List (Key×V))|dT (kvs:List (List Key×V))
 |set (S:Int->Bool) (n:Nat)
 |ins (C dx:Addr) (fs:List (Str×V))
 |own (x:Addr)
 |xd (fs:List (Str×V))
 |met (f x:Addr)
 |rng (lo hi:Int)
 |frz (o:Obj) (u:HO)
 |tbl (ps:Array Value)
 |ext (φ:Heap->Prop)
abbrev Hp:=Addr->Option HO
def upd(H:Hp)(a:Addr)(o:HO):Hp:=λb=>if b=a then some o else H b
theorem yZ:upd H a o a=some o:=by unfold upd;rw[if_pos rfl]
theorem yo(h:b≠a):upd H a o b=H b:=by unfold upd;rw[if_neg h]
theorem zuT{H:Hp}{a b:Addr}{o u:HO}(h:H a=some o)(h':H b=some u)(d:o≠u):a≠b:=by
 intro e;subst e;rw[h]at h';exact d (zzX h')
theorem xg{H:Hp}{a b:Addr}{o:HO}(h:H a=some o)(h':H b=none):a≠b:=by
 intro e;subst e;rw[h]at h';cases h'
def kO:V->Option Key
 | .int i=>some (.inl i) | .str x=>some (.inr x) | .bl b=>some (.inl (if b=true then 1 else 0))|_=>none
def KC(H:Hp)(b:Addr)(k:List Key):Prop:=∃vs,H b=some (.tup vs)/\vs.map kO=k.map some
theorem KC.mono{H H':Hp}{b:Addr}{k:List Key}(h:KC H b k)(ht:∀ys,H b=some (.tup ys)->H' b=some (.tup ys)):KC H' b k:=let⟨vs,h1,h2⟩:=h;⟨vs,ht _ h1,h2⟩
section
variable(P:Program)(w:World)
def vY(H:Hp)(h:Heap)(a:Addr):HO->Prop
 | .lst xs=>xs.length<=sizeLine/\∃(its:List Value) (n:Nat),Vals xs its/\h.get? a=some {cls:=.type "list",data:=.seq its.toArray n}
 | .tup xs=>xs.length<=sizeLine/\∃its:List Value,Vals xs its/\IsTup h a its.toArray
 | .dK kvs=>kvs.length<=sizeLine/\(a==sysModules)=false/\∃vs,KV kvs vs/\h.DictOf (wB P w) a vs
 | .dT kvs=>kvs.length<=sizeLine/\(a==sysModules)=false/\∃xs:List (List Key×Addr×Value),
  Paired (λ(p:List Key×V) (q:List Key×Addr×Value)=>p.1=q.1/\KC H q.2.1 p.1/\RelV p.2 q.2.2) kvs xs/\
  ∃o es ep,h.get? a=some o/\o.ExactDict/\o.data = .dict es ep/\es.toList=xs.map (entryOfKey (tupleKind (wB P w)))/\(xs.map (·.1)).Nodup
 | .set S n=>h.SetOf (intKind P w) a S n
 | .ins C dx fs=>H dx=some (.own a)/\fs.length<=1000/\dx≠a/\h.get? a=some (PySem.W.instObj C dx)/\
  ∃mA,h.Ns1 dx mA/\(∀f,zgc (fs.lookup f) (mA f))/\PySem.Within mA (fs.map (·.1))
 | .own _=>∃o,h.get? a=some o
 | .xd fs=>∃mA,h.Ns1 a mA/\∀f,zgc (fs.lookup f) (mA f)
 | .rng lo hi=>∃t u v,h.get? a=some {cls:=.type "range",data:=.fields #[.int lo t,.int hi u,.int 1 v]}
 | .frz o u=>h.get? a=some o/\vY H h a u
 | .tbl ps=>h.get? a=some {cls:=.none,data:=.fields ps}
 | .met f x=>h.get? a=some (PySem.W.methodObj (.ref f) (.ref x))
 | .ext φ=>φ h/\(∃o,h.get? a=some o)/\∀h1 h2:Heap,φ h1->(∀o,h1.get? a=some o->h2.get? a=some o)->φ h2
def HOk(H:Hp)(h:Heap):Prop:=∀a o,H a=some o->vY P w H h a o
end
section
variable{P:Program}{w:World}{H H':Hp}{h h':Heap}{a:Addr}{o:HO}
theorem vY.lt(x:vY P w H h a o):a<h.objs.size:=by
 cases o with
 |lst xs=>obtain⟨_,_,_,_,e⟩:=x;exact zxH e
 |tup xs=>obtain⟨_,_,_,p⟩:=x;exact p.lt
 |dK kvs=>obtain⟨_,_,_,_,o,_,_,e,_⟩:=x;exact zxH e
 |dT kvs=>obtain⟨_,_,_,_,o,_,_,e,_⟩:=x;exact zxH e
 |set S n=>obtain⟨o,_,_,_,e,_⟩:=x;exact zxH e
 |ins C dx fs=>obtain⟨_,_,_,e,_⟩:=x;exact zxH e
 |own y=>obtain⟨_,e⟩:=x;exact zxH e
 |xd fs=>obtain⟨_,⟨_,_,_,e,_⟩,_⟩:=x;exact zxH e
 |rng lo hi=>obtain⟨_,_,_,e⟩:=x;exact zxH e
 |frz ob u=>obtain⟨e,_⟩:=x;exact zxH e
 |tbl ps=>exact zxH (show h.get? a=some _ from x)
 |met f y=>exact zxH (show h.get? a=some _ from x)
 |ext φ=>obtain⟨_,⟨_,e⟩,_⟩:=x;exact zxH e
theorem Paired.mapP:∀{l₁:List α}{l₂:List β},Paired F l₁ l₂->(∀a b,F a b->G a b)->Paired G l₁ l₂
 |_,_,.nil,_=>.nil
 |_,_,.cons r t,f=>.cons (f _ _ r) (Paired.mapP t f)
theorem vY.stay(x:vY P w H h a o)(k:∀b u,(b=a\/H b=some (.own a))->h.get? b=some u->h'.get? b=some u)
 (ho:∀b,H b=some (.own a)->H' b=some (.own a)) (ht:∀b xs,H b=some (.tup xs)->H' b=some (.tup xs)):vY P w H' h' a o:=by
 induction o with
 |lst xs=>obtain⟨z,its,n,r,e⟩:=x;exact⟨z,its,n,r,k _ _ (.inl rfl) e⟩
 |tup xs=>obtain⟨z,its,r,ob,e,c⟩:=x;exact⟨z,its,r,ob,k _ _ (.inl rfl) e,c⟩
 |dK kvs=>obtain⟨z,y,vs,r,ob,es,ep,e,c⟩:=x;exact⟨z,y,vs,r,ob,es,ep,k _ _ (.inl rfl) e,c⟩
 |dT kvs=>
  obtain⟨z,y,xs,r,ob,es,ep,e,c⟩:=x
  exact⟨z,y,xs,Paired.mapP r λp q z=>⟨z.1,z.2.1.mono λys=>ht _ ys,z.2.2⟩,ob,es,ep,k _ _ (.inl rfl) e,c⟩
 |set S n=>obtain⟨ob,es,ep,t,e,c⟩:=x;exact⟨ob,es,ep,t,k _ _ (.inl rfl) e,c⟩
 |ins C dx fs=>
  obtain⟨d,z,ne,e,mA,⟨od,es,ep,e2,c⟩,r⟩:=x
  exact⟨ho _ d,z,ne,k _ _ (.inl rfl) e,mA,⟨od,es,ep,k _ _ (.inr d) e2,c⟩,r⟩
 |own y=>obtain⟨ob,e⟩:=x;exact⟨ob,k _ _ (.inl rfl) e⟩
 |xd fs=>obtain⟨mA,⟨od,es,ep,e,c⟩,r⟩:=x;exact⟨mA,⟨od,es,ep,k _ _ (.inl rfl) e,c⟩,r⟩
 |rng lo hi=>obtain⟨t,u,v,e⟩:=x;exact⟨t,u,v,k _ _ (.inl rfl) e⟩
 |frz ob u ih=>obtain⟨e,q⟩:=x;exact⟨k _ _ (.inl rfl) e,ih q⟩
 |tbl ps=>
  have e:h.get? a=some {cls:=.none,data:=.fields ps}:=x
  show h'.get? a=some {cls:=.none,data:=.fields ps}
  exact k a _ (.inl rfl) e
 |met f y=>
  have e:h.get? a=some (PySem.W.methodObj (.ref f) (.ref y)):=x
  show h'.get? a=some (PySem.W.methodObj (.ref f) (.ref y))
  exact k a _ (.inl rfl) e
 |ext φ=>obtain⟨p,⟨o,e⟩,st⟩:=x;exact⟨st _ _ p λo q=>k _ _ (.inl rfl) q,⟨o,k _ _ (.inl rfl) e⟩,st⟩
theorem HOk.lt(x:HOk P w H h)(e:H a=some o):a<h.objs.size:=(x a o e).lt
theorem HOk.fresh(x:HOk P w H h)(e:h.objs.size<=a):H a=none:=by
 cases q:H a with
 |none=>rfl
 |some u=>exact absurd (zzI (x.lt q) e) (Nat.lt_irrefl _)
theorem HOk.kept(x:HOk P w H h)(k:∀b u,h.get? b=some u->h'.get? b=some u):HOk P w H h':=λa o e=>
 (x a o e).stay (λb u _ q=>k b u q) (λ_ q=>q) λ_ _ q=>q
theorem HOk.laid(x:HOk P w H h)(k:∀b u,h.get? b=some u->h'.get? b=some u)(hp:h.objs.size<=a)(new:vY P w (upd H a o) h' a o):HOk P w (upd H a o) h':=λb u e=>by
 have hn:=x.fresh hp
 by_cases hb:b=a
 · subst hb;rw[yZ]at e;cases e;exact new
 · rw[yo hb]at e
   exact(x b u e).stay (λc v _ q=>k c v q) (λc q=>by rw[yo (xg q hn)];exact q) λc xs q=>by rw[yo (xg q hn)];exact q
end
def Rd(H:Hp)(a:Addr)(u:HO):Prop:=H a=some u\/∃o,H a=some (.frz o u)
theorem Rd.ok(r:Rd H a u)(x:HOk P w H h):vY P w H h a u:=by
 rcases r with r|⟨o,r⟩
 · exact x a u r
 · obtain⟨_,q⟩:=x a _ r
   exact q
def Mut:Option HO->Prop
 |some (.lst _)=>True
 |some (.dK _)=>True
 |some (.dT _)=>True
 |some (.set _ _)=>True
 |some (.ins _ _ _)=>True
 |some (.ext _)=>True
 |_=>False
section
variable{P:Program}{w:World}{H:Hp}{h h':Heap}{x e:Addr}{o':HO}
theorem HOk.write(ok:HOk P w H h)(mu:Mut (H x))(he:e=x\/H e=some (.own x))(k:∀b u,b≠e->h.get? b=some u->h'.get? b=some u)(heo:∃u,h'.get? e=some u)
 (new:vY P w (upd H x o') h' x o'):HOk P w (upd H x o') h':=λb u q=>by
 have nown:∀c y,H c=some (.own y)->c≠x:=λc y r z=>by subst z;rw[r]at mu;exact mu
 have ntup:∀c xs,H c=some (.tup xs)->c≠x:=λc xs r z=>by subst z;rw[r]at mu;exact mu
 by_cases hb:b=x
 · subst hb;rw[yZ]at q;cases q;exact new
 · rw[yo hb]at q
   by_cases hbe:b=e
   · have q':H b=some (.own x):=by
      rcases he with z|z
      · exact absurd (hbe.trans z) hb
      · rw[hbe];exact z
     rw[q]at q';cases q'
     obtain⟨v,hv⟩:=heo
     exact⟨v,by rw[hbe];exact hv⟩
   · refine(ok b u q).stay (λc v hc r=>k c v ?_ r) (λc r=>by rw[yo (nown c b r)];exact r) λc xs r=>by rw[yo (ntup c xs r)];exact r
     rcases hc with rfl|hc
     · exact hbe
     · rintro rfl
       rcases he with z|z
       · exact nown c b hc z
       · rw[hc]at z;cases z;exact hb rfl
end
structure Un(fs ex:List Addr)(H H':Hp)(h h':Heap):Prop where
 keep:∀b o,h.get? b=some o->H b=none->b ∉ fs->b ∉ ex->h'.get? b=some o
 slot:∀b o,h.get? b=some o->H b=none->b ∈ fs->b ∉ ex->∃sl,h'.get? b=some {o with slots:=sl}
 free:∀b o,h.get? b=some o->H b=none->b ∉ ex->H' b=none
 there:∀b o,h.get? b=some o->b ∉ ex->∃o',h'.get? b=some o'
 tups:∀b xs,H b=some (.tup xs)->H' b=some (.tup xs)
 frzs:∀b o u,H b=some (.frz o u)->H' b=some (.frz o u)
 tbls:∀b ps,H b=some (.tbl ps)->∃more,H' b=some (.tbl (ps++more))
section
variable{fs fs' ex ex':List Addr}{H H1 H2:Hp}{h h1 h2 h':Heap}{a x e:Addr}{o:HO}
theorem Un.any(u:Un fs ex H H1 h h1)(q:h.get? b=some ob)(n:H b=none)(hx:b ∉ ex):∃sl,h1.get? b=some {ob with slots:=sl}:=by
 by_cases hb:b ∈ fs
 · exact u.slot b ob q n hb hx
 · exact⟨ob.slots,u.keep b ob q n hb hx⟩
theorem Un.kept(k:∀b u,h.get? b=some u->h'.get? b=some u):Un fs ex H H h h':=
 ⟨λb ob q _ _ _=>k b ob q,λb ob q _ _ _=>⟨ob.slots,k b ob q⟩,λ_ _ _ n _=>n,λb ob q _=>⟨ob,k b ob q⟩,λ_ _ q=>q,λ_ _ _ q=>q,λ_ ps q=>⟨#[],by rw[q];simp⟩⟩
theorem Un.refl:Un fs ex H H h h:=Un.kept λ_ _ q=>q
theorem Un.laid(k:∀b u,h.get? b=some u->h'.get? b=some u)(hp:h.objs.size<=a)(hn:H a=none):Un fs ex H (upd H a o) h h' where
 keep:=λb u q _ _ _=>k b u q
 slot:=λb u q _ _ _=>⟨u.slots,k b u q⟩
 free:=λb u q n _=>by rw[yo (zzO (zzI (zxH q) hp))];exact n
 there:=λb u q _=>⟨u,k b u q⟩
 tups:=λb xs q=>by rw[yo (xg q hn)];exact q
 frzs:=λb u xs q=>by rw[yo (xg q hn)];exact q
 tbls:=λb ps q=>⟨#[],by rw[yo (xg q hn),q];simp⟩
theorem Un.write(mu:Mut (H x))(he:e=x\/H e=some (.own x))(k:∀b u,b≠e->h.get? b=some u->h'.get? b=some u)(heo:∃u,h'.get? e=some u):Un fs ex H (upd H x o) h h':=by
 have hx:∀b,H b=none->b≠x:=λb n z=>by subst z;rw[n]at mu;exact mu
 have hb:∀b,H b=none->b≠e:=λb n z=>by
  subst z
  rcases he with r|r
  · exact hx b n r
  · rw[n]at r;cases r
 have hm:∀b u,H b=some u->¬Mut (some u)->b≠x:=λb u q nm z=>by subst z;rw[q]at mu;exact nm mu
 refine⟨λb u q n _ _=>k b u (hb b n) q,λb u q n _ _=>⟨u.slots,k b u (hb b n) q⟩,λb u q n _=>by rw[yo (hx b n)];exact n,λb u q _=>?_,
  λb xs q=>by rw[yo (hm b _ q λz=>z)];exact q,λb u xs q=>by rw[yo (hm b _ q λz=>z)];exact q,λb ps q=>⟨#[],by rw[yo (hm b _ q λz=>z),q];simp⟩⟩
 by_cases hbe:b=e
 · subst hbe;exact heo
 · exact⟨u,k b u hbe q⟩
end
def trk(h:Heap)(H:Hp):List Addr:=(List.range h.objs.size).filter λa=>(H a).isSome
def zjN(h:Heap)(H:Hp):Heap:=PySem.W.hideAll h (trk h H)
theorem znA(h:Heap)(H:Hp):(zjN h H).objs.size=h.objs.size:=PySem.W.hideAll_size _ _
theorem zpA(e:h.get? b=some o)(n:H b=none):(zjN h H).get? b=some o:=
 PySem.W.hideAll_get _ e λhm=>by
  have q:(H b).isSome=true:=(List.mem_filter.mp hm).2
  rw[n]at q;simp at q
theorem zrm(e:(zjN h H).get? b=some o):h.get? b=some o/\H b=none:=by
 have e':h.get? b=some o:=PySem.W.of_hideAll (trk h H) e
 refine⟨e', ?_⟩
 cases q:H b with
 |none=>rfl
 |some x=>
  have hm:b ∈ trk h H:=List.mem_filter.mpr ⟨List.mem_range.mpr (zxH e'),by simp[q]⟩
  have z:(zjN h H).get? b=none:=PySem.W.hideAll_none (trk h H) hm
  rw[z]at e;cases e
end L2
namespace L2
open PySem PySem.Spec PyProof.Rows
structure Mod(K:zC)(mg:Str->Option Value)(base:Heap):Prop where
 kin:K.In base
 glob:base.Ns mainGlobals mg
 blt:∃mb,base.Ns builtinsNs mb/\∀x:Str,x≠"__name__"->mb x=bootBuiltins x
 nolimit:base.NoLimit
structure Cx where
 prog:Program
 w:World
 K:zC
 mg:Str->Option Value
 base:Heap
 A:Around
 N:List Str
 s₀:Shared
 H₀:Hp
 env:Env
 outer:List Env
 stack:List Env
 ex:List Addr
 fn:Str->Bool
 calm:Bool
 pn:List (Addr×Obj)
 xe:Value->Shared->Prop
def frs(l:List Env):List Addr:=l.filterMap (·.frame)
abbrev Cx.fs(X:Cx):List Addr:=frs X.outer
def Vis(sc:Scope)(x:Str):Prop:=sc.names.lookup x=some .local\/sc.names.lookup x=some .cell\/sc.names.lookup x=some .free
def Loc(sc:Scope)(x:Str):Prop:=sc.names.lookup x=some .local\/sc.names.lookup x=some .cell
def Look(env:Env)(h:Heap)(m:Str->Option Value)(x:Str)(u:Value):Prop:=
 (env.kindOf x=some .local/\m x=some u)\/((env.kindOf x=some .cell\/env.kindOf x=some .free)/\∃c,env.cells.lookup x=some c/\h.IsCell c (some u))
structure Cx.Ok(X:Cx):Prop where
 mod:Mod X.K X.mg X.base
 kind:X.env.scope.kind = .function
 glob:X.env.globals=mainGlobals
 blt:X.env.builtins=builtinsNs
 above:X.s₀.heap.objs.size<=X.env.locals
 inj:∀x y c,X.env.cells.lookup x=some c->X.env.cells.lookup y=some c->x=y
 has:∀x,(X.env.kindOf x=some .cell\/X.env.kindOf x=some .free)->∃c,X.env.cells.lookup x=some c
 cab:∀x c,X.fn x=true->X.env.cells.lookup x=some c->X.s₀.heap.objs.size<=c
 hd:X.calm=true->X.A.handled=none
 frames:X.A.frames=some X.stack
 stk:X.stack=X.outer\/(X.stack=X.env::X.outer/\X.env.frame=some X.env.locals)
 exf:∀b ∈ X.ex,b≠X.env.locals/\∀x c,X.env.cells.lookup x=some c->c≠b
 bs:∀b o,X.base.get? b=some o->X.s₀.heap.get? b=some o/\X.H₀ b=none
 bsz:X.base.objs.size<=X.s₀.heap.objs.size
 noex:∀b o,X.base.get? b=some o->b ∉ X.ex
 exfs:∀b ∈ X.ex,b ∉ X.fs
 funs:X.s₀.heap.FunFrames X.base X.outer
 frf:∀b ∈ X.fs,X.H₀ b=none
structure Inv(X:Cx)(pins:List (Addr×Obj))(σ:List (Option V))(H:Hp)(s:Shared):Prop where
 ok:X.Ok
 os:s.os=X.s₀.os
 bare:AllBare s.gens
 base:Un X.fs X.ex X.H₀ H X.s₀.heap s.heap
 loc:∃m,s.heap.Ns X.env.locals m/\∀(i:Nat) (x:Str) (v:V),X.N[i]? = some x->σ[i]? = some (some v)->Vis X.env.scope x->∃u,RelV v u/\Look X.env s.heap m x u
 cell:∀x c,X.env.cells.lookup x=some c->∃v,s.heap.IsCell c v
 free:H X.env.locals=none
 freeC:∀x c,X.env.cells.lookup x=some c->H c=none
 pin:∀p ∈ X.pn++pins,s.heap.get? p.1=some p.2/\H p.1=none/\p.1≠X.env.locals/\p.1 ∉ X.fs/\∀v,p.2.data ≠ .cell v
 hok:HOk X.prog X.w H s.heap
 len:σ.length=X.N.length
section
variable{X:Cx}{pins:List (Addr×Obj)}{σ:List (Option V)}{H H':Hp}{s:Shared}{h':Heap}
theorem Cx.Ok.nofr(ok:X.Ok)(e:X.base.get? b=some o):b ∉ X.fs:=λhb=>by
 have:=(ok.funs.mem hb).1
 rw[e]at this;cases this
theorem Inv.bs(I:Inv X pins σ H s):∀b o,X.base.get? b=some o->s.heap.get? b=some o/\H b=none:=λb o e=>
 ⟨I.base.keep b o (I.ok.bs b o e).1 (I.ok.bs b o e).2 (I.ok.nofr e) (I.ok.noex b o e),I.base.free b o (I.ok.bs b o e).1 (I.ok.bs b o e).2 (I.ok.noex b o e)⟩
theorem Inv.bk(I:Inv X pins σ H s):∀b o,X.base.get? b=some o->s.heap.get? b=some o:=λb o e=>(I.bs b o e).1
theorem Inv.mod(I:Inv X pins σ H s):Mod X.K X.mg X.base:=I.ok.mod
theorem Inv.kIn(I:Inv X pins σ H s):X.K.In s.heap:=I.ok.mod.kin.keeps I.bk
theorem Inv.lt(I:Inv X pins σ H s):X.env.locals<s.heap.objs.size:=let⟨_,hn,_⟩:=I.loc;hn.lt
theorem Inv.sz(I:Inv X pins σ H s):X.s₀.heap.objs.size<=s.heap.objs.size:=zzM I.ok.above (Nat.le_of_lt I.lt)
theorem Inv.nofs(I:Inv X pins σ H s)(h:s.heap.objs.size<=a):a ∉ X.fs:=λhb=>by
 obtain⟨_,o,ho,_⟩:=I.ok.funs.mem hb
 exact absurd (zzI (zxH ho) (zzM I.sz h)) (Nat.lt_irrefl _)
theorem Inv.cne(I:Inv X pins σ H s):∀x c,X.env.cells.lookup x=some c->c≠X.env.locals:=λx c e z=>by
 obtain⟨v,o,ho,hd⟩:=I.cell x c e
 obtain⟨m,⟨o',es,ep,ho',hd',_⟩,_⟩:=I.loc
 rw[z,ho']at ho;cases ho;rw[hd']at hd;cases hd
theorem Inv.funs(I:Inv X pins σ H s):s.heap.FunFrames X.base X.outer:=by
 have all:∀(l:List Env),(∀b ∈ frs l,b ∈ X.fs)->X.s₀.heap.FunFrames X.base l->s.heap.FunFrames X.base l:=by
  intro l
  induction l with
  |nil=>intro _ _;trivial
  |cons env r ih=>
   intro hs hl
   obtain⟨hk,⟨L,o,hf,hn,ho,hd⟩,hr⟩:=hl
   have hL:L ∈ X.fs:=hs L (by unfold frs;rw[List.filterMap_cons,hf];exact zzD)
   obtain⟨sl,e⟩:=I.base.slot L o ho (I.ok.frf L hL) hL λz=>I.ok.exfs L z hL
   exact⟨hk,⟨L,_,hf,hn,e,hd⟩,ih (λb hb=>hs b (by unfold frs;rw[List.filterMap_cons,hf];exact zzB _ hb)) hr⟩
 exact all X.outer (λ_ hb=>hb) I.ok.funs
theorem Inv.stack(I:Inv X pins σ H s):s.heap.FunFrames X.base X.stack:=by
 rcases I.ok.stk with e|⟨e,hf⟩
 · rw[e];exact I.funs
 · rw[e]
   obtain⟨m,hn,_⟩:=I.loc
   refine .cons (by rw[I.ok.kind];decide) hf hn ?_ I.funs
   exact Heap.get?_none_of_le (zzM I.ok.bsz I.ok.above)
theorem Inv.stkSub(I:Inv X pins σ H s):∀b ∈ frs X.stack,b ∈ X.env.locals::X.fs:=λb hb=>by
 rcases I.ok.stk with e|⟨e,hf⟩
 · rw[e]at hb;exact zzB _ hb
 · rw[e]at hb
   unfold frs at hb
   rw[List.filterMap_cons,hf]at hb
   exact hb
theorem Inv.stkFree(I:Inv X pins σ H s):∀b ∈ frs X.stack,H b=none:=λb hb=>by
 rcases zzA.mp (I.stkSub b hb)with e|hb
 · rw[e];exact I.free
 · obtain⟨_,o,ho,_⟩:=I.ok.funs.mem hb
   exact I.base.free b o ho (I.ok.frf b hb) λz=>I.ok.exfs b z hb
theorem Inv.step{g':Array GenState}{t':Nat}{d':Drawn}{ch:List Addr}(I:Inv X pins σ H s)
 (hch:∀b ∈ ch,(b ∈ X.ex\/X.s₀.heap.objs.size<=b)/\b≠X.env.locals/\(∀x c,X.env.cells.lookup x=some c->c≠b)/\∀p ∈ X.pn++pins,p.1≠b)
 (keep:∀b o,b≠X.env.locals->b ∉ X.fs->b ∉ ch->s.heap.get? b=some o->H b=none->h'.get? b=some o)
 (slot:∀b o,b≠X.env.locals->b ∈ X.fs->b ∉ ch->s.heap.get? b=some o->H b=none->∃sl,h'.get? b=some {o with slots:=sl}) (free:∀b o,b ∉ ch->s.heap.get? b=some o->H b=none->H' b=none)
 (there:∀b o,b ∉ ch->s.heap.get? b=some o->∃o',h'.get? b=some o')
 (tups:∀b xs,H b=some (.tup xs)->H' b=some (.tup xs)) (frzs:∀b o u,H b=some (.frz o u)->H' b=some (.frz o u)) (tbls:∀b ps,H b=some (.tbl ps)->∃more,H' b=some (.tbl (ps++more)))
 (ns:∀m,s.heap.Ns X.env.locals m->h'.Ns X.env.locals m) (hok:HOk X.prog X.w H' h') (hg:AllBare g'):
 Inv X pins σ H' {s with heap:=h',gens:=g',drawn:=d',toks:=t'}:=by
 have neL:∀b o,X.s₀.heap.get? b=some o->b≠X.env.locals:=λb o e=>zzO (zzI (zxH e) I.ok.above)
 have neC:∀b o,X.s₀.heap.get? b=some o->b ∉ X.ex->b ∉ ch:=λb o e hx hb=>by
  rcases(hch b hb).1 with z|z
  · exact hx z
  · exact absurd (zzI (zxH e) z) (Nat.lt_irrefl _)
 have cellK:∀x c,X.env.cells.lookup x=some c->∀v,s.heap.IsCell c v->h'.IsCell c v:=λx c e v ⟨o,ho,hd⟩=>by
  have nch:c ∉ ch:=λz=>(hch c z).2.2.1 x c e rfl
  by_cases hc:c ∈ X.fs
  · obtain⟨sl,q⟩:=slot c o (I.cne x c e) hc nch ho (I.freeC x c e)
    exact⟨_,q,hd⟩
  · exact⟨o,keep c o (I.cne x c e) hc nch ho (I.freeC x c e),hd⟩
 refine⟨I.ok,I.os,hg,⟨λb o e n hb hx=>?_,λb o e n hb hx=>?_,λb o e n hx=>?_,λb o e hx=>?_,λb xs e=>tups b xs (I.base.tups b xs e),λb o xs e=>frzs b o xs (I.base.frzs b o xs e),λb ps e=>?_⟩, ?_,λx c e=>?_, ?_,λx c e=>?_,λp hp=>?_,hok,I.len⟩
 · exact keep b o (neL b o e) hb (neC b o e hx) (I.base.keep b o e n hb hx) (I.base.free b o e n hx)
 · obtain⟨sl,e1⟩:=I.base.slot b o e n hb hx
   obtain⟨sl',e2⟩:=slot b _ (neL b o e) hb (neC b o e hx) e1 (I.base.free b o e n hx)
   exact⟨sl',e2⟩
 · obtain⟨o',e1⟩:=I.base.there b o e hx
   exact free b o' (neC b o e hx) e1 (I.base.free b o e n hx)
 · obtain⟨o',e1⟩:=I.base.there b o e hx
   exact there b o' (neC b o e hx) e1
 · obtain⟨m1,e1⟩:=I.base.tbls b ps e
   obtain⟨m2,e2⟩:=tbls b _ e1
   exact⟨m1++m2,by rw[e2,Array.append_assoc]⟩
 · obtain⟨m,hn,hl⟩:=I.loc
   refine⟨m,ns m hn,λi x v e1 e2 e3=>?_⟩
   obtain⟨u,r,l⟩:=hl i x v e1 e2 e3
   refine⟨u,r, ?_⟩
   rcases l with l|⟨k,c,e,z⟩
   · exact .inl l
   · exact .inr ⟨k,c,e,cellK x c e _ z⟩
 · obtain⟨v,z⟩:=I.cell x c e
   exact⟨v,cellK x c e v z⟩
 · obtain⟨m,⟨o,_,_,ho,_⟩,_⟩:=I.loc
   exact free _ o (λz=>(hch _ z).2.1 rfl) ho I.free
 · obtain⟨v,o,ho,hd⟩:=I.cell x c e
   exact free c o (λz=>(hch c z).2.2.1 x c e rfl) ho (I.freeC x c e)
 · obtain⟨e,n,ne,nf,d⟩:=I.pin p hp
   have nch:p.1 ∉ ch:=λz=>(hch p.1 z).2.2.2 p hp rfl
   exact⟨keep p.1 p.2 ne nf nch e n,free p.1 p.2 nch e n,ne,nf,d⟩
theorem Inv.un{t':Nat}(I:Inv X pins σ H s)(u:Un X.fs [] H H' s.heap h')(hok:HOk X.prog X.w H' h'):Inv X pins σ H' {s with heap:=h',toks:=t'}:=by
 obtain⟨m,⟨o,es,ep,ho,r⟩,_⟩:=id I.loc
 obtain⟨sl,hL⟩:=u.any ho I.free (by simp)
 exact I.step (g':=s.gens) (d':=s.drawn) (ch:=[]) (λ_ z=>nomatch z) (λb o _ hb _ e n=>u.keep b o e n hb (by simp)) (λb o _ hb _ e n=>u.slot b o e n hb (by simp)) (λb o _ e n=>u.free b o e n (by simp)) (λb o _ e=>u.there b o e (by simp)) u.tups u.frzs u.tbls (λm' hm=>by
  obtain⟨o',es',ep',ho',r'⟩:=hm
  rw[ho]at ho';cases ho'
  exact⟨_,es',ep',hL,r'⟩) hok I.bare
theorem Inv.call{g':Array GenState}{t':Nat}{d':Drawn}{ch:List Addr}(I:Inv X pins σ H s)(u:Un (frs X.stack) ch H H' s.heap h')(hok:HOk X.prog X.w H' h')(hg:AllBare g')
 (hch:∀b ∈ ch,(b ∈ X.ex\/X.s₀.heap.objs.size<=b)/\b≠X.env.locals/\(∀x c,X.env.cells.lookup x=some c->c≠b)/\∀p ∈ X.pn++pins,p.1≠b):
 Inv X pins σ H' {s with heap:=h',gens:=g',drawn:=d',toks:=t'}:=by
 obtain⟨m,⟨o,es,ep,ho,r⟩,_⟩:=id I.loc
 obtain⟨sl,hL⟩:=u.any ho I.free λz=>(hch _ z).2.1 rfl
 exact I.step (ch:=ch) hch (λb o hL hb hc e n=>u.keep b o e n (λz=>(zzA.mp (I.stkSub b z)).elim hL hb) hc) (λb o _ _ hc e n=>u.any e n hc) (λb o hc e n=>u.free b o e n hc) (λb o hc e=>u.there b o e hc) u.tups u.frzs u.tbls (λm' hm=>by
  obtain⟨o',es',ep',ho',r'⟩:=hm
  rw[ho]at ho';cases ho'
  exact⟨_,es',ep',hL,r'⟩) hok hg
theorem Inv.turned{t':Nat}{it:Addr}(I:Inv X pins σ H s)(k:∀b o,b≠it->s.heap.get? b=some o->h'.get? b=some o)(hn:H it=none)(hL:it≠X.env.locals)
 (h1:it ∈ X.ex\/X.s₀.heap.objs.size<=it) (h2:∀x c,X.env.cells.lookup x=some c->c≠it) (h3:∀p ∈ X.pn++pins,p.1≠it):Inv X pins σ H {s with heap:=h',toks:=t'}:=by
 have nit:∀b u,H b=some u->b≠it:=λb u e z=>by rw[z,hn]at e;cases e
 refine I.step (g':=s.gens) (d':=s.drawn) (ch:=[it]) (λb hb=>?_) (λb o _ _ hc e _=>k b o (λz=>hc (by simp[z])) e) (λb o _ _ hc e _=>⟨o.slots,k b o (λz=>hc (by simp[z])) e⟩) (λ_ _ _ _ n=>n)
  (λb o hc e=>⟨o,k b o (λz=>hc (by simp[z])) e⟩) (λ_ _ e=>e) (λ_ _ _ e=>e) (λb ps e=>⟨#[],by rw[e];simp⟩) (λm hm=>?_) (λb u e=>?_) I.bare
 · have e:b=it:=by simpa using hb
   subst e
   exact⟨h1,hL,h2,h3⟩
 · obtain⟨o,es,ep,ho,r⟩:=hm
   exact⟨o,es,ep,k _ o (Ne.symm hL) ho,r⟩
 · refine(I.hok b u e).stay (λc v hc q=>k c v ?_ q) (λ_ q=>q) λ_ _ q=>q
   rcases hc with z|z
   · rw[z];exact nit b u e
   · exact nit c _ z
theorem Inv.tok(I:Inv X pins σ H s)(t:Nat):Inv X pins σ H {s with toks:=t}:=I.un (h':=s.heap) (t':=t) Un.refl I.hok
theorem Inv.kept(I:Inv X pins σ H s)(k:∀b u,s.heap.get? b=some u->h'.get? b=some u):Inv X pins σ H {s with heap:=h',toks:=t'}:=I.un (Un.kept k) (I.hok.kept k)
theorem Inv.laid(I:Inv X pins σ H s)(k:∀b u,s.heap.get? b=some u->h'.get? b=some u)(hp:s.heap.objs.size<=a)(new:vY X.prog X.w (upd H a o) h' a o):
 Inv X pins σ (upd H a o) {s with heap:=h',toks:=t'}:=I.un (Un.laid k hp (I.hok.fresh hp)) (I.hok.laid k hp new)
theorem Inv.write(I:Inv X pins σ H s)(mu:Mut (H x))(he:e=x\/H e=some (.own x))(k:∀b u,b≠e->s.heap.get? b=some u->h'.get? b=some u)(heo:∃u,h'.get? e=some u)
 (new:vY X.prog X.w (upd H x o) h' x o):Inv X pins σ (upd H x o) {s with heap:=h',toks:=t'}:=I.un (Un.write mu he k heo) (I.hok.write mu he k heo new)
theorem Inv.weak(I:Inv X pins σ H s)(hl:σ'.length=σ.length)(w:∀(i:Nat) v,σ'[i]? = some (some v)->σ[i]? = some (some v)):Inv X pins σ' H s:=
 ⟨I.ok,I.os,I.bare,I.base,let⟨m,hn,hl'⟩:=I.loc;⟨m,hn,λi x v e1 e2 e3=>hl' i x v e1 (w i v e2) e3⟩,I.cell,I.free,I.freeC,I.pin,I.hok,hl.trans I.len⟩
theorem Inv.pins_of(I:Inv X pins σ H s)(h:∀p ∈ pins',s.heap.get? p.1=some p.2/\H p.1=none/\p.1≠X.env.locals/\p.1 ∉ X.fs/\∀v,p.2.data ≠ .cell v):Inv X pins' σ H s:=
 ⟨I.ok,I.os,I.bare,I.base,I.loc,I.cell,I.free,I.freeC,λp hp=>(zzK.mp hp).elim (λz=>I.pin p (zzN _ z)) (h p),I.hok,I.len⟩
theorem zkL{N:List Str}(hN:N.Nodup){i j:Nat}{x:Str}(a:N[i]? = some x)(b:N[j]? = some x):i=j:=by
 obtain⟨h1,e1⟩:=zzE.mp a
 obtain⟨h2,e2⟩:=zzE.mp b
 exact(List.getElem_inj hN).mp (e1.trans e2.symm)
theorem zin{M:Model}{A:Around}{E:Value->Shared->Prop}{i:Nat}{x:Str}{v:V}{u:Value}{Q:Unit->Shared->Prop}(I:Inv X pins σ H s)(hN:X.N.Nodup)(hi:X.N[i]? = some x)(hx:Loc X.env.scope x)(r:RelV v u)
 (h:∀s',Inv X pins (σ.set i (some v)) H s'->(∃a,Heap.SameBut a s.heap s'.heap/\(a=X.env.locals\/X.env.cells.lookup x=some a))->Q () s') (hf:X.fn x=true\/X.env.scope.names.lookup x=some .local:=by first|exact .inl rfl|exact .inr rfl|assumption):wpAny M A (storeName X.env x u) Q E s:=by
 obtain⟨m,hn,hl⟩:=id I.loc
 have hcls:(X.env.scope.kind == .class||(X.env.scope.kind == .module&&X.env.locals != X.env.globals))=false:=by rw[I.ok.kind];rfl
 have hiσ:i<σ.length:=by rw[I.len];exact(zzE.mp hi).1
 have cne:=I.cne
 have tracked:∀{a:Addr}{h':Heap},(∃o,s.heap.get? a=some o/\H a=none)->Heap.SameBut a s.heap h'->HOk X.prog X.w H h':=λ{a h'} ha hs b ob e=>by
  obtain⟨_,_,hfree⟩:=ha
  refine(I.hok b ob e).stay (λc w' hc q=>(hs.2 c ?_).trans q) (λ_ q=>q) λ_ _ q=>q
  rintro rfl
  rcases hc with rfl|hc
  · rw[hfree]at e;cases e
  · rw[hfree]at hc;cases hc
 rcases hx with hk|hk
 · refine wpAny_storeName_local hk hn (λh' hn' hs=>?_) hcls
   obtain⟨oL,_,_,hoL,_⟩:=id hn
   refine h _ ⟨I.ok,I.os,I.bare,⟨λb o e n hb hx=>?_,λb o e n hb hx=>?_,I.base.free,λb o e hx=>?_,I.base.tups,I.base.frzs,I.base.tbls⟩,⟨_,hn',λj y v' e1 e2 e3=>?_⟩,λy c e=>?_,I.free,I.freeC,λp hp=>?_,tracked ⟨oL,hoL,I.free⟩ hs,by simpa using I.len⟩ ⟨_,hs,.inl rfl⟩
   · exact(hs.2 b (zzO (zzI (zxH e) I.ok.above))).trans (I.base.keep b o e n hb hx)
   · obtain⟨sl,e1⟩:=I.base.slot b o e n hb hx
     exact⟨sl,(hs.2 b (zzO (zzI (zxH e) I.ok.above))).trans e1⟩
   · obtain⟨o',e1⟩:=I.base.there b o e hx
     exact⟨o',(hs.2 b (zzO (zzI (zxH e) I.ok.above))).trans e1⟩
   · by_cases hj:j=i
     · subst hj
       rw[hi]at e1;cases e1
       rw[zyI hiσ]at e2
       cases e2
       exact⟨u,r,.inl ⟨hk,by simp⟩⟩
     · rw[zzW (Ne.symm hj)]at e2
       obtain⟨u',r',q⟩:=hl j y v' e1 e2 e3
       refine⟨u',r', ?_⟩
       rcases q with⟨k,e⟩|⟨k,c,e,z⟩
       · refine .inl ⟨k, ?_⟩
         have:y≠x:=λe=>hj (zkL hN e1 (e ▸ hi))
         simp[this,e]
       · exact .inr ⟨k,c,e,z.sameBut hs (cne y c e)⟩
   · obtain⟨w',z⟩:=I.cell y c e
     exact⟨w',z.sameBut hs (cne y c e)⟩
   · obtain⟨e,n,ne,nf,d⟩:=I.pin p hp
     exact⟨(hs.2 p.1 ne).trans e,n,ne,nf,d⟩
 · have hfn:X.fn x=true:=by
    rcases hf with z|z
    · exact z
    · rw[z]at hk;cases hk
   obtain⟨c,hc⟩:=I.ok.has x (.inl hk)
   obtain⟨w',z⟩:=I.cell x c hc
   refine wpAny_storeName_cell I.ok.kind hk hc z (λh' hc' hs=>?_)
   obtain⟨oc,hoc,hocd⟩:=id z
   refine h {s with heap:=h'} ⟨I.ok,I.os,I.bare,⟨λb o e n hb hx=>?_,λb o e n hb hx=>?_,I.base.free,λb o e hx=>?_,I.base.tups,I.base.frzs,I.base.tbls⟩,⟨m,hn.sameBut hs (Ne.symm (cne x c hc)),λj y v' e1 e2 e3=>?_⟩,λy c' e=>?_,I.free,I.freeC,λp hp=>?_,tracked ⟨oc,hoc,I.freeC x c hc⟩ hs,by simpa using I.len⟩ ⟨c,hs,.inr hc⟩
   · exact(hs.2 b (zzO (zzI (zxH e) (I.ok.cab x c hfn hc)))).trans (I.base.keep b o e n hb hx)
   · obtain⟨sl,e1⟩:=I.base.slot b o e n hb hx
     exact⟨sl,(hs.2 b (zzO (zzI (zxH e) (I.ok.cab x c hfn hc)))).trans e1⟩
   · obtain⟨o',e1⟩:=I.base.there b o e hx
     exact⟨o',(hs.2 b (zzO (zzI (zxH e) (I.ok.cab x c hfn hc)))).trans e1⟩
   · by_cases hj:j=i
     · subst hj
       rw[hi]at e1;cases e1
       rw[zyI hiσ]at e2
       cases e2
       exact⟨u,r,.inr ⟨.inl hk,c,hc,hc'⟩⟩
     · rw[zzW (Ne.symm hj)]at e2
       obtain⟨u',r',q⟩:=hl j y v' e1 e2 e3
       refine⟨u',r', ?_⟩
       rcases q with q|⟨k,c',e,z'⟩
       · exact .inl q
       · refine .inr ⟨k,c',e,z'.sameBut hs ?_⟩
         rintro rfl
         exact hj (zkL hN e1 (I.ok.inj _ _ _ e hc ▸ hi))
   · by_cases hcc:c'=c
     · subst hcc;exact⟨_,hc'⟩
     · obtain⟨w2,z2⟩:=I.cell y c' e
       exact⟨w2,z2.sameBut hs hcc⟩
   · obtain⟨e,n,ne,nf,d⟩:=I.pin p hp
     refine⟨(hs.2 p.1 ?_).trans e,n,ne,nf,d⟩
     intro q
     rw[q,hoc]at e
     have q':oc=p.2:=zzX e
     exact d w' (by rw[<-q'];exact hocd)
theorem zdu(I:Inv X pins σ H s)(hN:X.N.Nodup)(hi:X.N[i]? = some x)(hx:Loc X.env.scope x)(r:RelV v u)
 (h:∀s',Inv X pins (σ.set i (some v)) H s'->Q () s') (hf:X.fn x=true\/X.env.scope.names.lookup x=some .local:=by first|exact .inl rfl|exact .inr rfl|assumption):wpAny M A (storeName X.env x u) Q E s:=
 zin I hN hi hx r (λs' I' _=>h s' I') hf
theorem Inv.call'(I:Inv X pins σ H s)(ho:s'.os=s.os)(u:Un (frs X.stack) ch H H' s.heap s'.heap)(hok:HOk X.prog X.w H' s'.heap)(hg:AllBare s'.gens)
 (hch:∀b ∈ ch,(b ∈ X.ex\/X.s₀.heap.objs.size<=b)/\b≠X.env.locals/\(∀x c,X.env.cells.lookup x=some c->c≠b)/\∀p ∈ X.pn++pins,p.1≠b):Inv X pins σ H' s':=by
 obtain⟨h',g',d',t',o'⟩:=s'
 have e:o'=s.os:=ho
 subst e
 exact I.call (g':=g') (t':=t') (d':=d') u hok hg hch
end
abbrev XK:=Value->Option Addr->Hp->Prop
abbrev St:=List (Option V)
abbrev VK:=V->Hp->Prop
abbrev TE:=St->Hp->VK->Prop
abbrev TT:=St->Hp->(Bool->Hp->Prop)->Prop
abbrev TA:=St->Hp->(List V->Hp->Prop)->Prop
structure Ends where
 nx:St->Hp->Prop
 rt:VK
 bk:St->Hp->Prop:=λ_ _=>False
 ct:St->Hp->Prop:=λ_ _=>False
abbrev TS:=Ends->St->Hp->Prop
def EP(X:Cx)(pins:List (Addr×Obj))(σ:St)(Q:VK)(u:Value)(s':Shared):Prop:=∃v H',Inv X pins σ H' s'/\RelV v u/\Q v H'
def TP(X:Cx)(pins:List (Addr×Obj))(σ:St)(Q:Bool->Hp->Prop)(b:Bool)(s':Shared):Prop:=∃H',Inv X pins σ H' s'/\Q b H'
def AP(X:Cx)(pins:List (Addr×Obj))(σ:St)(Q:List V->Hp->Prop)(us:List Value)(s':Shared):Prop:=∃vs H',Inv X pins σ H' s'/\Vals vs us/\Q vs H'
def SP(X:Cx)(pins:List (Addr×Obj))(D:Ends)(f:Flow)(s':Shared):Prop:=
 match f with
 | .next=>∃σ' H',Inv X pins σ' H' s'/\D.nx σ' H'
 | .brk=>∃σ' H',Inv X pins σ' H' s'/\D.bk σ' H'
 | .cont=>∃σ' H',Inv X pins σ' H' s'/\D.ct σ' H'
 | .ret u=>∃v σ' H',Inv X pins σ' H' s'/\RelV v u/\D.rt v H'
def PE(X:Cx)(e:Expr)(t:TE):Prop:=
 ∀(pins:List (Addr×Obj)) (s:Shared) (σ:St) (H:Hp) (Q:VK),Inv X pins σ H s->t σ H Q->wpAny (model X.prog X.w) X.A (eval e X.env) (EP X pins σ Q) X.xe s
def PT(X:Cx)(e:Expr)(t:TT):Prop:=
 ∀(pins:List (Addr×Obj)) (s:Shared) (σ:St) (H:Hp) (Q:Bool->Hp->Prop),Inv X pins σ H s->t σ H Q->wpAny (model X.prog X.w) X.A (isTrue e X.env (eval e X.env)) (TP X pins σ Q) X.xe s
def PW(X:Cx)(e:Expr)(t:TT):Prop:=
 ∀(whole:Sem Value) (pins:List (Addr×Obj)) (s:Shared) (σ:St) (H:Hp) (Q:Bool->Hp->Prop),Inv X pins σ H s->t σ H Q->wpAny (model X.prog X.w) X.A (isTrue e X.env whole) (TP X pins σ Q) X.xe s
theorem PW.pt(h:PW X e t):PT X e t:=h _
def PA(X:Cx)(es:List Expr)(t:TA):Prop:=
 ∀(pos:Pos) (pins:List (Addr×Obj)) (s:Shared) (σ:St) (H:Hp) (Q:List V->Hp->Prop),Inv X pins σ H s->t σ H Q->wpAny (model X.prog X.w) X.A (spliced (backTo pos (starEach es X.env))) (AP X pins σ Q) X.xe s
def PS(X:Cx)(st:Stmt)(t:TS):Prop:=
 ∀(pins:List (Addr×Obj)) (s:Shared) (σ:St) (H:Hp) (D:Ends),Inv X pins σ H s->t D σ H->wpAny (model X.prog X.w) X.A (exec st X.env) (SP X pins D) X.xe s
def PSs(X:Cx)(st:List Stmt)(t:TS):Prop:=
 ∀(pins:List (Addr×Obj)) (s:Shared) (σ:St) (H:Hp) (D:Ends),Inv X pins σ H s->t D σ H->wpAny (model X.prog X.w) X.A (execs st X.env) (SP X pins D) X.xe s
theorem thn(h:wpAny M A t Q E s)(hQ:∀a s,Q a s->Q' a s):wpAny M A t Q' E s:=zxM h hQ λ_ _ x=>x
end L2
namespace L2
open PySem PySem.Spec PyProof.Rows
section
variable{X:Cx}
def zdK(i:Nat):TE:=λσ H Q=>∃v,σ[i]? = some (some v)/\Q v H
def tC(v:V):TE:=λ_ H Q=>Q v H
theorem zqe(hN:X.N[i]? = some x)(hv:Vis X.env.scope x)(hd:(x==("__debug__":Str))=false:=by decide)(hcd:(x==("__classdict__":Str))=false:=by decide):PE X (.Name x pos) (zdK i):=by
 intro pins s σ H Q I h
 obtain⟨v,e,h⟩:=h
 obtain⟨m,hn,hl⟩:=I.loc
 obtain⟨u,r,l⟩:=hl i x v hN e hv
 have fin:EP X pins σ Q u s:=⟨v,H,I,r,h⟩
 rcases l with⟨hk,hm⟩|⟨hk,c,hc,hcell⟩
 · exact wpAny_Name (wpAny_loadName_local I.ok.kind hk hn hm fin) hd
 · rcases hk with hk|hk
   · exact wpAny_Name (wpAny_loadName_cell I.ok.kind hk hc hcell fin) hd
   · exact wpAny_Name (wpAny_loadName_free I.ok.kind hk hc hcell fin hcd) hd
theorem zlA:PE X (.Constant (.int i) j pos) (tC (.int i)):=λ_ _ _ H _ I h=>wpAny_Constant_int ⟨.int i,H,I.tok _,⟨_,rfl⟩,h⟩
theorem zvs:PE X (.Constant (.bool b) j pos) (tC (.bl b)):=λ_ _ _ H _ I h=>Constant_bool ⟨.bl b,H,I,rfl,h⟩
theorem ztJ:PE X (.Constant .none j pos) (tC .non):=λ_ _ _ H _ I h=>Constant_none ⟨.non,H,I,rfl,h⟩
theorem zuz:PE X (.Constant (.str x) j pos) (tC (.str x)):=λ_ _ _ H _ I h=>Calls.Constant_str ⟨.str x,H,I.tok _,⟨_,rfl⟩,h⟩
def Gl(X:Cx)(x:Str):Prop:=X.env.kindOf x=some .globalImplicit
theorem zqR(I:Inv X pins σ H s)(hg:Gl X x)(hm:X.mg x=some u)(h:Q u s)
 (hd:(x==("__debug__":Str))=false:=by decide):wpAny (model X.prog X.w) X.A (eval (.Name x pos) X.env) Q E s:=
 Calls.Name_function_global I.ok.kind hg (Calls.loadGlobal_global (by rw[I.ok.glob];exact I.mod.glob.keeps I.bk) hm h) hd
theorem W0(I:Inv X pins σ H s)(hg:Gl X x)(hm:X.mg x=none)(hv:bootBuiltins x=some u)(h:Q u s)
 (hn:x≠"__name__":=by decide) (hd:(x==("__debug__":Str))=false:=by decide):wpAny (model X.prog X.w) X.A (eval (.Name x pos) X.env) Q E s:=by
 obtain⟨mb,h1,h2⟩:=I.mod.blt
 exact Calls.Name_function_global I.ok.kind hg (Calls.loadGlobal_builtin (by rw[I.ok.glob];exact I.mod.glob.keeps I.bk) hm (by rw[I.ok.blt];exact h1.keeps I.bk) ((h2 x hn).trans hv) h) hd
variable{a b:Expr}{ta tb:TE}{pos:Pos}
variable{tA tB':TT}{rest:List Expr}
def zwe(t u:TT):TT:=λσ H Q=>t σ H λc H1=>if c=true then u σ H1 Q else Q false H1
def tOr(t u:TT):TT:=λσ H Q=>t σ H λc H1=>if c=true then Q true H1 else u σ H1 Q
def zwt(t:TT):TT:=λσ H Q=>t σ H λc H1=>Q (!c) H1
theorem zqY(ha:PT X a tA):PW X (.BoolOp .And [a] pos) tA:=by
 intro wh pins s σ H Q I h
 refine isTrue_and (thn (ha pins s σ H Q I h) λc s1 e=>?_)
 cases c with
 |true=>exact isTrue_and_nil e
 |false=>exact e
theorem zuo(ha:PT X a tA):PW X (.BoolOp .Or [a] pos) tA:=by
 intro wh pins s σ H Q I h
 refine isTrue_or (thn (ha pins s σ H Q I h) λc s1 e=>?_)
 cases c with
 |false=>exact isTrue_or_nil e
 |true=>exact e
theorem zuv(ha:PT X a tA)(hb:PW X (.BoolOp .And (b::rest) pos) tB'):PW X (.BoolOp .And (a::b::rest) pos) (zwe tA tB'):=by
 intro wh pins s σ H Q I h
 refine isTrue_and (thn (ha pins s σ H _ I h) λc s1 ⟨H1,I1,q1⟩=>?_)
 cases c with
 |true=>exact hb wh pins s1 σ H1 Q I1 q1
 |false=>exact⟨H1,I1,q1⟩
theorem zvm(ha:PT X a tA)(hb:PW X (.BoolOp .Or (b::rest) pos) tB'):PW X (.BoolOp .Or (a::b::rest) pos) (tOr tA tB'):=by
 intro wh pins s σ H Q I h
 refine isTrue_or (thn (ha pins s σ H _ I h) λc s1 ⟨H1,I1,q1⟩=>?_)
 cases c with
 |true=>exact⟨H1,I1,q1⟩
 |false=>exact hb wh pins s1 σ H1 Q I1 q1
theorem zsC(ha:PT X a tA):PT X (.UnaryOp .Not a pos) (zwt tA):=by
 intro pins s σ H Q I h
 exact isTrue_not (ha pins s σ H (λc H1=>Q (!c) H1) I h)
def zvA(ta tb:TE):TE:=λσ H Q=>ta σ H λx H1=>∃c,x = .bl c/\if c=true then tb σ H1 Q else Q (.bl false) H1
theorem ztt(h:PE X a t):PE X (.BoolOp op [a] pos) t:=λpins s σ H Q I hw=>BoolOp_one (h pins s σ H Q I hw)
theorem zsK(ha:PE X a ta)(hb:PE X (.BoolOp .And (b::rest) pos) tb):PE X (.BoolOp .And (a::b::rest) pos) (zvA ta tb):=by
 intro pins s σ H Q I h
 refine BoolOp_and (thn (ha pins s σ H _ I h) λv s1 ⟨x,H1,I1,r1,q1⟩=>?_)
 obtain⟨c,rfl,q1⟩:=q1
 cases r1
 refine wpAny_truthy_bool ?_
 cases c with
 |true=>exact hb pins s1 σ H1 Q I1 q1
 |false=>exact⟨.bl false,H1,I1,rfl,q1⟩
end
end L2
namespace L2
open PySem PySem.Spec PyProof.Rows
def SqL(K:zC)(H:Hp)(a:Addr)(xs:List V):Prop:=
 Rd H a (.lst xs) \/
  ∃(o:Obj) (its:Array Value) (n:Nat),K.lookup a=some o/\o.cls = .type "list"/\o.dict=none/\o.data = .seq its n/\its.size<=sizeLine/\Vals xs its.toList
def RdL(K:zC)(H:Hp)(a:Addr)(xs:List V):Prop:=
 Rd H a (.lst xs)\/∃(its:Array Value) (n:Nat),K.lookup a=some {cls:=.type "list",data:=.seq its n}/\its.size<=sizeLine/\Vals xs its.toList
def SqT(K:zC)(H:Hp)(a:Addr)(xs:List V):Prop:=
 Rd H a (.tup xs) \/
  ∃(o:Obj) (its:Array Value) (n:Nat),K.lookup a=some o/\o.cls = .type "tuple"/\o.data = .seq its n/\its.size<=sizeLine/\Vals xs its.toList
def zwA:Value->Option V
 | .none=>some .non
 | .bool b=>some (.bl b)
 | .int i _=>some (.int i)
 | .str x _=>some (.str x)
 | .bytes b _=>some (.byt b)
 | .float b _=>some (.flt b)
 | .ref a=>some (.ref a)
 | .type n=>some (.ty n)
 |_=>none
theorem RelV.abs(r:RelV x u):zwA u=some x:=by
 cases x with
 |non=>cases r;rfl
 |bl _=>cases r;rfl
 |int _=>obtain⟨t,rfl⟩:=r;rfl
 |str _=>obtain⟨t,rfl⟩:=r;rfl
 |byt _=>obtain⟨t,rfl⟩:=r;rfl
 |flt _=>obtain⟨t,rfl⟩:=r;rfl
 |ref _=>cases r;rfl
 |ty _=>cases r;rfl
theorem RelV.inj(r:RelV x u)(q:RelV y u):x=y:=zzX (r.abs.symm.trans q.abs)
theorem Vals.inj:∀{xs ys:List V}{us:List Value},Vals xs us->Vals ys us->xs=ys
 |_,_,_,.nil,.nil=>rfl
 |_,_,_,.cons r t,.cons r' t'=>by rw[r.inj r',Vals.inj t t']
section
variable{X:Cx}{pins:List (Addr×Obj)}{σ:St}{H:Hp}{s:Shared}{a:Addr}{xs ys:List V}
theorem Inv.list(I:Inv X pins σ H s)(h:SqL X.K H a xs):∃its:List Value,Vals xs its/\PlainL s.heap a its.toArray/\xs.length<=sizeLine:=by
 rcases h with h|⟨o,its,n,hk,hc,hd,hs,hz,r⟩
 · obtain⟨z,its,n,r,e⟩:=h.ok I.hok
   exact⟨its,r,⟨_,n,e,rfl,rfl,rfl⟩,z⟩
 · refine⟨its.toList,r,⟨o,n,I.kIn a o hk,hc,hd,by simpa using hs⟩, ?_⟩
   have e:=r.length
   simp only[zyR]at e
   omega
theorem Inv.tuple(I:Inv X pins σ H s)(h:SqT X.K H a xs):∃its:List Value,Vals xs its/\IsTup s.heap a its.toArray/\xs.length<=sizeLine:=by
 rcases h with h|⟨o,its,n,hk,hc,hs,hz,r⟩
 · obtain⟨z,its,r,p⟩:=h.ok I.hok
   exact⟨its,r,p,z⟩
 · refine⟨its.toList,r,⟨o,I.kIn a o hk,hc,n,by simpa using hs⟩, ?_⟩
   have e:=r.length
   simp only[zyR]at e
   omega
theorem Inv.list_inj(I:Inv X pins σ H s)(h:SqL X.K H a xs)(h':SqL X.K H a ys):xs=ys:=by
 obtain⟨its,r,⟨o,n,e,_,_,d⟩,_⟩:=I.list h
 obtain⟨its',r',⟨o',n',e',_,_,d'⟩,_⟩:=I.list h'
 rw[e]at e';cases e'
 rw[d]at d'
 injection d' with d1 _
 have:its=its':=by simpa using congrArg Array.toList d1
 subst this
 exact r.inj r'
theorem Inv.tuple_inj(I:Inv X pins σ H s)(h:SqT X.K H a xs)(h':SqT X.K H a ys):xs=ys:=by
 obtain⟨its,r,⟨o,e,_,n,d⟩,_⟩:=I.tuple h
 obtain⟨its',r',⟨o',e',_,n',d'⟩,_⟩:=I.tuple h'
 rw[e]at e';cases e'
 rw[d]at d'
 injection d' with d1 _
 have:its=its':=by simpa using congrArg Array.toList d1
 subst this
 exact r.inj r'
end
abbrev Cx.wish(X:Cx)(E:Value->Shared->Prop):Cx:={X with xe:=E}
abbrev Cx.nox(X:Cx):Cx:=X.wish λ_ _=>False
theorem Cx.Ok.wish{X:Cx}(ok:X.Ok)(E:Value->Shared->Prop):(X.wish E).Ok:=
 ⟨ok.mod,ok.kind,ok.glob,ok.blt,ok.above,ok.inj,ok.has,ok.cab,ok.hd,ok.frames,ok.stk,ok.exf,ok.bs,ok.bsz,ok.noex,ok.exfs,ok.funs,ok.frf⟩
theorem Cx.Ok.unwish{X:Cx}{E:Value->Shared->Prop}(ok:(X.wish E).Ok):X.Ok:=
 ⟨ok.mod,ok.kind,ok.glob,ok.blt,ok.above,ok.inj,ok.has,ok.cab,ok.hd,ok.frames,ok.stk,ok.exf,ok.bs,ok.bsz,ok.noex,ok.exfs,ok.funs,ok.frf⟩
section
variable{X:Cx}{pins:List (Addr×Obj)}{σ:St}{H:Hp}{s:Shared}{E:Value->Shared->Prop}
theorem Inv.wish(I:Inv X pins σ H s)(E:Value->Shared->Prop):Inv (X.wish E) pins σ H s:=⟨I.ok.wish E,I.os,I.bare,I.base,I.loc,I.cell,I.free,I.freeC,I.pin,I.hok,I.len⟩
theorem Inv.unwish(I:Inv (X.wish E) pins σ H s):Inv X pins σ H s:=⟨I.ok.unwish,I.os,I.bare,I.base,I.loc,I.cell,I.free,I.freeC,I.pin,I.hok,I.len⟩
theorem SP.unwish(h:SP (X.wish E) pins D f s'):SP X pins D f s':=by
 cases f with
 |next=>obtain⟨σ',H',I,q⟩:=h;exact⟨σ',H',I.unwish,q⟩
 |brk=>obtain⟨σ',H',I,q⟩:=h;exact⟨σ',H',I.unwish,q⟩
 |cont=>obtain⟨σ',H',I,q⟩:=h;exact⟨σ',H',I.unwish,q⟩
 |ret u=>obtain⟨v,σ',H',I,r,q⟩:=h;exact⟨v,σ',H',I.unwish,r,q⟩
theorem PSs.nox{st:List Stmt}{t:TS}(h:PSs X.nox st t):PSs X st t:=λpins s σ H D I hw=>
 zxM (h pins s σ H D (I.wish _) hw) (λ_ _ q=>q.unwish) λ_ _ z=>False.elim z
end
section
variable{X:Cx}{st:Stmt}{rest:List Stmt}{t u:TS}{e:Expr}{te:TE}{pos:Pos}
def zuD:TS:=λD σ H=>D.nx σ H
def zwS(t u:TS):TS:=λD σ H=>t {D with nx:=u D} σ H
theorem zrT:PSs X [] zuD:=λ_ _ σ H _ I h=>wpAny_execs_nil ⟨σ,H,I,h⟩
theorem zkw(h1:PS X st t)(h2:PSs X rest u):PSs X (st::rest) (zwS t u):=by
 intro pins s σ H D I h
 refine wpAny_execs_cons (thn (h1 pins s σ H {D with nx:=u D} I h) λf s1 q=>?_)
 cases f with
 |next=>
  obtain⟨σ',H',I',q⟩:=q
  exact h2 pins s1 σ' H' D I' q
 |ret v=>exact q
 |brk=>exact q
 |cont=>exact q
theorem zne(h1:PS X st t):PSs X [st] t:=by
 intro pins s σ H D I h
 refine wpAny_execs_cons (thn (h1 pins s σ H D I h) λf s1 q=>?_)
 cases f with
 |next=>exact wpAny_execs_nil q
 |ret v=>exact q
 |brk=>exact q
 |cont=>exact q
theorem Inv.quiet(I:Inv X pins σ H s):interactive X.env=false:=by simp[interactive,I.ok.kind]
def zuU(te:TE):TS:=λD σ H=>te σ H λ_ H1=>D.nx σ H1
theorem zmQ(he:PE X e te)(hs:swapsWith e none pos.line X.env=pure false:=by rfl):PS X (.Expr e pos) (zuU te):=by
 intro pins s σ H D I h
 exact wpAny_Expr_any (thn (he pins s σ H _ I h) λv s1 ⟨x,H1,I1,r1,q1⟩=>⟨σ,H1,I1,q1⟩) I.quiet hs
def zwF(te:TE):TS:=λD σ H=>te σ H D.rt
theorem ztb(he:PE X e te):PS X (.Return (some e) pos) (zwF te):=by
 intro pins s σ H D I h
 exact wpAny_Return_some (thn (he pins s σ H _ I h) λv s1 ⟨x,H1,I1,r1,q1⟩=>⟨x,σ,H1,I1,r1,q1⟩)
def zvR(c:TT)(t u:TS):TS:=λD σ H=>c σ H λb H1=>if b=true then t D σ H1 else u D σ H1
theorem zuJ(hc:PT X c tc)(ha:PSs X a t)(hb:PSs X b u):PS X (.If c a b pos) (zvR tc t u):=by
 intro pins s σ H D I h
 refine wpAny_If (thn (hc pins s σ H _ I h) λd s1 ⟨H1,I1,q1⟩=>?_)
 cases d with
 |true=>exact ha pins s1 σ H1 D I1 q1
 |false=>exact hb pins s1 σ H1 D I1 q1
end
abbrev TG:=V->St->Hp->(St->Hp->Prop)->Prop
abbrev TGs:=List V->St->Hp->(St->Hp->Prop)->Prop
def PG(X:Cx)(target:Expr)(t:TG):Prop:=
 ∀(pins:List (Addr×Obj)) (s:Shared) (σ:St) (H:Hp) (v:V) (u:Value) (Q:St->Hp->Prop),Inv X pins σ H s->RelV v u->t v σ H Q->
  wpAny (model X.prog X.w) X.A (assign target X.env u) (λ_ s'=>∃σ' H',Inv X pins σ' H' s'/\Q σ' H') X.xe s
def PGs(X:Cx)(ts:List Expr)(t:TGs):Prop:=
 ∀(pins:List (Addr×Obj)) (s:Shared) (σ:St) (H:Hp) (vs:List V) (us:List Value) (Q:St->Hp->Prop),Inv X pins σ H s->Vals vs us->t vs σ H Q->
  wpAny (model X.prog X.w) X.A (assignInOrder ((assignEach ts X.env).map (·.2)) us) (λ_ s'=>∃σ' H',Inv X pins σ' H' s'/\Q σ' H') X.xe s
abbrev zvJ:=V->V->V->Hp->(Hp->Prop)->Prop
def zuN(X:Cx)(t:zvJ):Prop:=
 ∀(pins:List (Addr×Obj)) (s:Shared) (σ:St) (H:Hp) (o i v:V) (ov iv u:Value) (Q:Hp->Prop),Inv X pins σ H s->RelV o ov->RelV i iv->RelV v u->t o i v H Q->
  wpAny (model X.prog X.w) X.A (setItem ov iv u) (λ_ s'=>∃H',Inv X pins σ H' s'/\Q H') X.xe s
section
variable{X:Cx}{pos:Pos}
def zkI(i:Nat):TG:=λv σ H Q=>Q (σ.set i (some v)) H
theorem zqL(hN:X.N.Nodup)(hi:X.N[i]? = some x)(hx:Loc X.env.scope x)(hf:X.fn x=true\/X.env.scope.names.lookup x=some .local:=by first|exact .inl rfl|exact .inr rfl|assumption):PG X (.Name x pos) (zkI i):=by
 intro pins s σ H v u Q I r h
 exact wpAny_assign_Name (zdu I hN hi hx r (λs' I'=>⟨_,H,I',h⟩) hf)
def zwR:TGs:=λvs σ H Q=>vs=[]/\Q σ H
def zvp(t:TG)(u:TGs):TGs:=λvs σ H Q=>∃v r,vs=v::r/\t v σ H λσ' H'=>u r σ' H' Q
theorem zrJ:PGs X [] zwR:=by
 intro pins s σ H vs us Q I r h
 obtain⟨e,h⟩:=h
 subst e
 cases r
 exact assignInOrder_nil ⟨σ,H,I,h⟩
theorem zqx(h1:PG X e t)(h2:PGs X es u)
 (hs:(assignEach (e::es) X.env).map (·.2)=assign e X.env::(assignEach es X.env).map (·.2):=by rfl):PGs X (e::es) (zvp t u):=by
 intro pins s σ H vs us Q I r h
 obtain⟨v,vr,e1,h⟩:=h
 subst e1
 cases r with
 |cons r rr=>
  rw[hs]
  refine assignInOrder_cons (thn (h1 pins s σ H _ _ _ I r h) λ_ s1 ⟨σ1,H1,I1,q1⟩=>?_)
  exact h2 pins s1 σ1 H1 _ _ Q I1 rr q1
def zwO(K:zC)(n:Nat)(t:TGs):TG:=λv σ H Q=>∃a xs,v = .ref a/\SqT K H a xs/\xs.length=n/\t xs σ H Q
theorem ztn(hc:X.calm=true)(h:PGs X es t)
 (hn:(assignEach es X.env).length=n:=by rfl) (hst:(assignEach es X.env).findIdx? (·.1)=none:=by rfl):PG X (.Tuple es k pos) (zwO X.K n t):=by
 intro pins s σ H v u Q I r hw
 obtain⟨a,xs,e1,hq,hl,hw⟩:=hw
 subst e1
 cases r
 obtain⟨its,rv,ht,hz⟩:=I.tuple hq
 refine assign_Tuple_tuple (I.ok.hd hc) ht (by simp[hn,<-hl,rv.length]) hst λh' hx=>?_
 have I1:Inv X pins σ H {s with heap:=h'}:=I.kept (t':=s.toks) λb o e=>hx b o (zzO (zxH e)) e
 exact h pins _ σ H xs _ Q I1 (by simpa using rv) hw
def zwj(to ti:TE)(t:zvJ):TG:=λv σ H Q=>to σ H λo H1=>ti σ H1 λi H2=>t o i v H2 λH3=>Q σ H3
theorem zmc(ho:PE X o to)(hi:PE X i ti)(hs:zuN X t)
 (ha:∀v,assign (.Subscript o i pos) X.env v=(do
  let ov <-holding [v] (eval o X.env)
  let iv <-holding [v,ov] (eval i X.env)
  standAt pos
  holding [v,ov,iv] (setItem ov iv v)
  release [v,ov,iv] []):=by intro _;rfl):PG X (.Subscript o i pos) (zwj to ti t):=by
 intro pins s σ H v u Q I r h
 rw[ha]
 refine zxE (zxK (thn (ho pins s σ H _ I h) λov s1 ⟨x,H1,I1,r1,q1⟩=>?_))
 refine zxE (zxK (thn (hi pins s1 σ H1 _ I1 q1) λiv s2 ⟨y,H2,I2,r2,q2⟩=>?_))
 refine zxE (wpAny_standAt (zxE (zxK (thn (hs pins s2 σ H2 x y v ov iv u _ I2 r1 r2 r q2) λ_ s3 ⟨H3,I3,q3⟩=>?_))))
 exact wpAny_release ⟨σ,H3,I3,q3⟩
def ztd(te:TE)(g:TG):TS:=λD σ H=>te σ H λx H1=>g x σ H1 D.nx
theorem zjc(he:PE X e te)(hg:PG X tg g)(hs:swapsWithSole [tg] e pos.line X.env=pure false:=by rfl)(hw:swappedStores [tg] e X.env=pure none:=by rfl)
 (h1:(assignEach [tg] X.env).map (·.2)=[assign tg X.env]:=by rfl):PS X (.Assign [tg] e pos) (ztd te g):=by
 intro pins s σ H D I h
 refine wpAny_Assign_stores (thn (he pins s σ H _ I h) λv s1 ⟨x,H1,I1,r1,q1⟩=>?_) hs hw
 rw[h1]
 exact thn (hg pins s1 σ H1 x v _ I1 r1 q1) λ_ s2 q=>q
theorem zpL(hN:X.N.Nodup)(hi:X.N[i]? = some x)(hx:Loc X.env.scope x)(he:PE X e te)(hs:swapsWith e (some (.Name x pos')) pos.line X.env=pure false:=by rfl)(hf:X.fn x=true\/X.env.scope.names.lookup x=some .local:=by first|exact .inl rfl|exact .inr rfl|assumption):
 PS X (.Assign [.Name x pos'] e pos) (ztd te (zkI i)):=by
 intro pins s σ H D I h
 refine wpAny_Assign_Name (thn (he pins s σ H _ I h) λv s1 ⟨y,H1,I1,r1,q1⟩=>?_) hs
 exact zdu I1 hN hi hx r1 (λs2 I2=>⟨_,H1,I2,q1⟩) hf
def zwN(i j:Nat)(ta:TA):TS:=λD σ H=>ta σ H λvs H1=>∃v w,vs=[v,w]/\D.nx ((σ.set i (some v)).set j (some w)) H1
theorem ztR(hc:X.calm=true)(hN:X.N.Nodup)(hi:X.N[i]? = some x)(hj:X.N[j]? = some y)(hij:i≠j)
 (hx:X.env.scope.names.lookup x=some .local) (hy:X.env.scope.names.lookup y=some .local) (ha:PA X [a,b] ta)
 (hw:swappedStores [.Tuple [.Name x px,.Name y py] kt pt] (.Tuple [a,b] k2 pt2) X.env=pure (some [x,y]))
 (hs:swapsWithSole [.Tuple [.Name x px,.Name y py] kt pt] (.Tuple [a,b] k2 pt2) pos.line X.env=pure false:=by rfl):
 PS X (.Assign [.Tuple [.Name x px,.Name y py] kt pt] (.Tuple [a,b] k2 pt2) pos) (zwN i j ta):=by
 intro pins s σ H D I h
 rw[exec_Assign_arm]
 refine zxE (wpAny_standAt ?_)
 rw[hs]
 refine zxE (zxF ?_)
 rw[if_neg (by decide)]
 refine zxE (Tuple_ (thn (ha _ pins s σ H _ I h) λus s1 ⟨vs,H1,I1,r1,q1⟩=>?_))
 obtain⟨v,w,e1,q1⟩:=q1
 subst e1
 obtain⟨u1,u2,rfl,rv,rw'⟩:∃u1 u2,us=[u1,u2]/\RelV v u1/\RelV w u2:=by
  cases r1 with
  |cons p q=>
   cases q with
   |cons p' q'=>
    cases q'
    exact⟨_,_,rfl,p,p'⟩
 refine zxJ ?_ (by show 2<=sizeLine;decide)
 have I2:Inv X pins σ H1 {s1 with heap:=s1.heap.push {cls:=.type "tuple",data:=.seq [u1,u2].toArray}}:=I1.kept (t':=s1.toks) λb o e=>zxG _ e
 rw[hw]
 refine zxE (zxF ?_)
 show wpAny (model X.prog X.w) X.A (do rule "assign.swapped-stores";let items <-unpackItems (.ref s1.heap.objs.size) 2 none;assignInOrder [λv=>bindName X.env y v,λv=>bindName X.env x v] items.reverse;pure Flow.next) _ _ _
 refine zxE (wpAny_rule (zxE (unpackItems_tuple (items:=#[u1,u2]) (I.ok.hd hc) (IsTup.new s1.heap _) λh' hx'=>?_)))
 have I3:=I2.kept (h':=h') (t':=s1.toks) λb o e=>hx' b o (zzO (zxH e)) e
 show wpAny _ _ (assignInOrder [λv=>bindName X.env y v,λv=>bindName X.env x v] [u2,u1] >>= λ_=>pure Flow.next) _ _ _
 refine zxE (assignInOrder_cons (wpAny_bindName (zdu I3 hN hj (.inl hy) rw' (λs2 I4=>?_) (.inr hy))))
 refine assignInOrder_cons (wpAny_bindName (zdu I4 hN hi (.inl hx) rv (λs3 I5=>assignInOrder_nil (zxF ?_)) (.inr hx)))
 rw[List.set_comm _ _ (Ne.symm hij)]at I5
 exact⟨_,H1,I5,q1⟩
end
section
variable{X:Cx}{pos:Pos}
def zuw(c:TT)(tb:TS):TS:=λD σ H=>∃W:Nat->St->Hp->Prop,(∃m,W m σ H)/\∀m σ H,W m σ H->
 c σ H λb H1=>if b=true then ∃N:St->Hp->Prop,(∀σ' H',N σ' H'->∃m',m'<m/\W m' σ' H')/\tb {D with nx:=N,ct:=N,bk:=D.nx} σ H1 else D.nx σ H1
theorem zoA(hp:PassesOwn (model X.prog X.w) X.A X.env X.xe)(hc:PT X c tc)(hb:PSs X body tb):PS X (.While c body [] pos) (zuw tc tb):=by
 intro pins s σ H D I h
 obtain⟨W,⟨m0,w0⟩,turn⟩:=h
 refine wpAny_While (codeAny_whileLoop (λn s'=>∃σ' H',Inv X pins σ' H' s'/\W n σ' H') ?_ m0 ⟨σ,H,I,w0⟩)
 rintro n s1 ⟨σ1,H1,I1,w1⟩
 refine wpAny_passesOwn hp (thn (hc pins s1 σ1 H1 _ I1 (turn n σ1 H1 w1)) λb s2 ⟨H2,I2,q2⟩=>?_)
 cases b with
 |true=>
  obtain⟨N,hN,q2⟩:=q2
  rw[if_pos rfl]
  refine wpAny_passesOwn hp (thn (hb pins s2 σ1 H2 _ I2 q2) λf s3 q3=>?_)
  cases f with
  |next=>
   obtain⟨σ3,H3,I3,n3⟩:=q3
   obtain⟨m',hm,w3⟩:=hN σ3 H3 n3
   exact⟨m',hm,σ3,H3,I3,w3⟩
  |cont=>
   obtain⟨σ3,H3,I3,n3⟩:=q3
   obtain⟨m',hm,w3⟩:=hN σ3 H3 n3
   exact⟨m',hm,σ3,H3,I3,w3⟩
  |brk=>exact q3
  |ret v=>exact q3
 |false=>
  rw[if_neg zyU]
  exact wpAny_execs_nil ⟨σ1,H2,I2,q2⟩
end
structure It where
 go:Nat->Hp->Prop
 yld:Nat->Hp->V->Hp->Prop
 stop:Nat->Hp->Prop
def zfi(X:Cx)(pins:List (Addr×Obj))(H:Hp)(b:Addr):Prop:=
 H b=none/\b≠X.env.locals/\b ∉ X.fs/\(b ∈ X.ex\/X.s₀.heap.objs.size<=b)/\(∀x c,X.env.cells.lookup x=some c->c≠b)/\∀p ∈ X.pn++pins,p.1≠b
theorem Inv.fpOk(I:Inv X pins σ H s)(hb:s.heap.objs.size<=b)(hn:H' b=none):zfi X pins H' b:=by
 refine⟨hn,Nat.ne_of_gt (zzI I.lt hb),I.nofs hb,.inr (zzM I.sz hb),λx c e z=>?_,λp hp z=>?_⟩
 · obtain⟨v,q⟩:=I.cell x c e
   exact absurd (zzI q.lt (by rw[z];exact hb)) (Nat.lt_irrefl _)
 · exact absurd (zzI (zxH (I.pin p hp).1) (by rw[z];exact hb)) (Nat.lt_irrefl _)
structure Turn(P:Program)(w:World)(K:zC)(tg:Expr)(J:It)(fp:List Addr)(it:Addr)(tn:Nat->Heap->Prop):Prop where
 mem:it ∈ fp
 obj:∀i h,tn i h->∀b ∈ fp,∃o,h.get? b=some o/\∀v,o.data ≠ .cell v
 keep:∀i h h',tn i h->(∀b ∈ fp,∀o,h.get? b=some o->h'.get? b=some o)->tn i h'
 item:∀(X:Cx),X.prog=P->X.w=w->X.K=K->X.calm=true->∀(i:Nat) (pins:List (Addr×Obj)) (s:Shared) (σ:St) (H:Hp) (E:Value->Shared->Prop),Inv X pins σ H s->(∀b ∈ fp,zfi X pins H b)->tn i s.heap->J.go i H->
  wpAny (model P w) X.A (pyNext (.ref it)) (λr s1=>∃u,r=some u/\
   wpAny (model P w) X.A (letOwnedTupleGo tg (.ref it) u) (λ_ s2=>∃x H',Inv X pins σ H' s2/\RelV x u/\J.yld i H x H'/\tn (i+1) s2.heap/\∀b ∈ fp,H' b=none) E s1) E s
 done:∀(X:Cx),X.prog=P->X.w=w->X.K=K->X.calm=true->∀(i:Nat) (pins:List (Addr×Obj)) (s:Shared) (σ:St) (H:Hp) (E:Value->Shared->Prop),Inv X pins σ H s->(∀b ∈ fp,zfi X pins H b)->tn i s.heap->J.stop i H->
  wpAny (model P w) X.A (pyNext (.ref it)) (λr s1=>r=none/\Inv X pins σ H s1) E s
 self:∀(A:Around) (i:Nat) (s:Shared) (Q:Value->Shared->Prop) (E:Value->Shared->Prop),tn i s.heap->Q (.ref it) s->wpAny (model P w) A (pyIter (.ref it)) Q E s
abbrev TI:=St->Hp->(It->Hp->Prop)->Prop
def PIE(X:Cx)(pins:List (Addr×Obj))(σ:St)(tg:Expr)(R:It->Hp->Prop)(itv:Value)(s2:Shared):Prop:=
 ∃(it:Addr) (fp:List Addr) (tn:Nat->Heap->Prop) (J:It) (H':Hp),itv = .ref it/\Inv X pins σ H' s2/\Turn X.prog X.w X.K tg J fp it tn/\tn 0 s2.heap/\(∀b ∈ fp,zfi X pins H' b)/\R J H'
def PI(X:Cx)(tg iter:Expr)(wi:TI):Prop:=
 ∀(pins:List (Addr×Obj)) (s:Shared) (σ:St) (H:Hp) (R:It->Hp->Prop),Inv X pins σ H s->wi σ H R->
  wpAny (model X.prog X.w) X.A (eval iter X.env) (λv s1=>wpAny (model X.prog X.w) X.A (pyIter v) (PIE X pins σ tg R) X.xe s1) X.xe s
theorem zqs(ho:s.heap.get? it=some o)(hc:o.cls = .type n)(hd:o.data = .fields vs)
 (hn : ["enumerate","zip","dict_itemiterator","dict_reverseitemiterator","odict_iterator","itertools.zip_longest","itertools.pairwise"].contains n=false) (hQ:Q () s):wpAny M A (letOwnedTupleGo tg (.ref it) u) Q E s:=by
 unfold letOwnedTupleGo
 cases tg<;>first
  |exact zxF hQ
  |(cases u<;>first
   |exact zxF hQ
   | (refine zxE (wpAny_load ho ?_)
      rw[hc,hd]
      show wpAny M A (if(["enumerate","zip","dict_itemiterator","dict_reverseitemiterator","odict_iterator","itertools.zip_longest","itertools.pairwise"].contains n&&vs[0]? == some (rawInt _))=true then _ else _) Q E s
      rw[if_neg (by intro h;rw[hn,Bool.false_and]at h;cases h)]
      exact zxF hQ))
def Itl(K:zC)(a:Addr):It:=
 ⟨λi H=>∃xs x,SqL K H a xs/\xs[i]? = some x,λi H x H'=>H'=H/\∀xs,SqL K H a xs->xs[i]? = some x,λi H=>∃xs,SqL K H a xs/\xs.length<=i⟩
def Itt(K:zC)(a:Addr):It:=
 ⟨λi H=>∃xs x,SqT K H a xs/\xs[i]? = some x,λi H x H'=>H'=H/\∀xs,SqT K H a xs->xs[i]? = some x,λi H=>∃xs,SqT K H a xs/\xs.length<=i⟩
def Itr(lo:Int)(n:Nat):It:=⟨λi _=>i<n,λi H x H'=>H'=H/\x = .int (lo+i),λi _=>n<=i⟩
theorem znq{P:Program}{w:World}{K:zC}{tg:Expr}(a it:Addr):Turn P w K tg (Itl K a) [it] it (λi h=>h.IsListIter it a i)where
 mem:=by simp
 obj:=λi h st b hb=>by
  have e:b=it:=by simpa using hb
  subst e
  obtain⟨o,e,c,d⟩:=st
  exact⟨o,e,λv z=>by rw[d]at z;cases z⟩
 keep:=λi h h' st k=>st.at λo e=>k it (by simp) o e
 item:=by
  intro X hP hw hK hc i pins s σ H E I hf st hg
  subst hP hw hK
  obtain⟨xs,x,hq,hx⟩:=hg
  obtain⟨its,rv,p,hz⟩:=I.list hq
  obtain⟨u,hu,ru⟩:=rv.get hx
  obtain⟨f0,f1,f2,f3,f4,f5⟩:=hf it (by simp)
  refine wpAny_pyNext_list_item st p.isList (x:=u) (by simpa using hu) λh' st' sb=>?_
  have I1:Inv X pins σ H {s with heap:=h'}:=I.turned (t':=s.toks) (λb o hb e=>(sb.2 b hb).trans e) f0 f1 f3 f4 f5
  obtain⟨o,e,c,d⟩:=id st'
  exact⟨u,rfl,zqs (s:={s with heap:=h'}) e c d (by decide) ⟨x,H,I1,ru,⟨rfl,λys hy=>by rw[I.list_inj hy hq];exact hx⟩,st',λb hb=>(hf b hb).1⟩⟩
 done:=by
  intro X hP hw hK hc i pins s σ H E I hf st hg
  subst hP hw hK
  obtain⟨xs,hq,hx⟩:=hg
  obtain⟨its,rv,p,hz⟩:=I.list hq
  obtain⟨f0,f1,f2,f3,f4,f5⟩:=hf it (by simp)
  have hl:=rv.length
  exact wpAny_pyNext_list_end (I.ok.hd hc) st p.isList (by simp;omega) λh' eb=>⟨rfl,I.turned (t':=s.toks) (λb o hb e=>eb b o hb e) f0 f1 f3 f4 f5⟩
 self:=λ_ _ _ _ _ st h=>wpAny_pyIter_listiter st h
theorem zlO{P:Program}{w:World}{K:zC}{tg:Expr}(a it:Addr):Turn P w K tg (Itt K a) [it] it (λi h=>h.IsTupleIter it a i)where
 mem:=by simp
 obj:=λi h st b hb=>by
  have e:b=it:=by simpa using hb
  subst e
  obtain⟨o,e,c,d⟩:=st
  exact⟨o,e,λv z=>by rw[d]at z;cases z⟩
 keep:=λi h h' st k=>st.at λo e=>k it (by simp) o e
 item:=by
  intro X hP hw hK hc i pins s σ H E I hf st hg
  subst hP hw hK
  obtain⟨xs,x,hq,hx⟩:=hg
  obtain⟨its,rv,p,hz⟩:=I.tuple hq
  obtain⟨u,hu,ru⟩:=rv.get hx
  obtain⟨f0,f1,f2,f3,f4,f5⟩:=hf it (by simp)
  refine wpAny_pyNext_tuple_item st (show s.heap.IsTuple a its.toArray from p) (x:=u) (by simpa using hu) λh' st' sb=>?_
  have I1:Inv X pins σ H {s with heap:=h'}:=I.turned (t':=s.toks) (λb o hb e=>(sb.2 b hb).trans e) f0 f1 f3 f4 f5
  obtain⟨o,e,c,d⟩:=id st'
  exact⟨u,rfl,zqs (s:={s with heap:=h'}) e c d (by decide) ⟨x,H,I1,ru,⟨rfl,λys hy=>by rw[I.tuple_inj hy hq];exact hx⟩,st',λb hb=>(hf b hb).1⟩⟩
 done:=by
  intro X hP hw hK hc i pins s σ H E I hf st hg
  subst hP hw hK
  obtain⟨xs,hq,hx⟩:=hg
  obtain⟨its,rv,p,hz⟩:=I.tuple hq
  obtain⟨f0,f1,f2,f3,f4,f5⟩:=hf it (by simp)
  have hl:=rv.length
  exact wpAny_pyNext_tuple_end (I.ok.hd hc) st (show s.heap.IsTuple a its.toArray from p) (by simp;omega) λh' eb=>⟨rfl,I.turned (t':=s.toks) (λb o hb e=>eb b o hb e) f0 f1 f3 f4 f5⟩
 self:=λ_ _ _ _ _ st h=>wpAny_pyIter_tupleiter st h
theorem zmm{P:Program}{w:World}{K:zC}{tg:Expr}(it:Addr)(lo:Int)(n:Nat):Turn P w K tg (Itr lo n) [it] it (λi h=>IsRangeIter h it (lo+(i:Nat)*1) ((n:Int)-(i:Nat)) 1)where
 mem:=by simp
 obj:=λi h st b hb=>by
  have e:b=it:=by simpa using hb
  subst e
  exact⟨_,st,λv z=>by
   have z':Data.fields _=Data.cell v:=z
   cases z'⟩
 keep:=λi h h' st k=>k it (by simp) _ st
 item:=by
  intro X hP hw hK hc i pins s σ H E I hf st hg
  subst hP hw hK
  obtain⟨f0,f1,f2,f3,f4,f5⟩:=hf it (by simp)
  have W:=Walks.range (prog:=X.prog) (w:=X.w) (I.ok.hd hc) it lo 1 n
  refine W.item i s _ _ hg st λv h' tk hv st' kk=>?_
  obtain⟨t,rfl⟩:=hv
  have I1:Inv X pins σ H {s with heap:=h',toks:=tk}:=I.turned (λb o hb e=>kk b o (by simpa using hb) e) f0 f1 f3 f4 f5
  refine⟨_,rfl,zqs (s:={s with heap:=h',toks:=tk}) (n:="range_iterator") st' rfl rfl (by decide) ⟨.int (lo+i),H,I1,⟨t, ?_⟩,⟨rfl,rfl⟩,st',λb hb=>(hf b hb).1⟩⟩
  rw[Int.mul_one]
 done:=by
  intro X hP hw hK hc i pins s σ H E I hf st hg
  subst hP hw hK
  obtain⟨f0,f1,f2,f3,f4,f5⟩:=hf it (by simp)
  exact wpAny_pyNext_range_end (I.ok.hd hc) st (by have:n<=i:=hg;omega) λh' eb=>⟨rfl,I.turned (t':=s.toks) (λb o hb e=>eb b o hb e) f0 f1 f3 f4 f5⟩
 self:=λ_ _ _ _ _ st h=>wpAny_pyIter_rangeiter st h
end L2
namespace L2
open PySem PySem.Spec PyProof.Rows
section
variable{X:Cx}{tg:Expr}
def zuG(K:zC)(tl:TE):TI:=λσ H R=>tl σ H λx H1=>∃a,x = .ref a/\(∃xs,SqL K H1 a xs)/\R (Itl K a) H1
def zvS(K:zC)(tl:TE):TI:=λσ H R=>tl σ H λx H1=>∃a,x = .ref a/\(∃xs,SqT K H1 a xs)/\R (Itt K a) H1
theorem zjt{l:Expr}{tl:TE}(hl:PE X l tl):PI X tg l (zuG X.K tl):=by
 intro pins s σ H R I h
 refine thn (hl pins s σ H _ I h) λv s1 ⟨x,H1,I1,r1,q1⟩=>?_
 obtain⟨a,e,⟨xs,hq⟩,q⟩:=q1
 subst e
 cases r1
 obtain⟨its,rv,p,hz⟩:=I1.list hq
 refine wpAny_pyIter_list p.isList ?_
 refine⟨s1.heap.objs.size,[s1.heap.objs.size],_,_,H1,rfl,I1.kept (t':=s1.toks) λb o e=>zxG _ e,znq a _,⟨_,zxI _ rfl,rfl,rfl⟩,λb hb=>?_,q⟩
 have e:b=s1.heap.objs.size:=by simpa using hb
 subst e
 exact I1.fpOk (zzL _) (I1.hok.fresh (zzL _))
theorem zlz{l:Expr}{tl:TE}(hl:PE X l tl):PI X tg l (zvS X.K tl):=by
 intro pins s σ H R I h
 refine thn (hl pins s σ H _ I h) λv s1 ⟨x,H1,I1,r1,q1⟩=>?_
 obtain⟨a,e,⟨xs,hq⟩,q⟩:=q1
 subst e
 cases r1
 obtain⟨its,rv,p,hz⟩:=I1.tuple hq
 refine wpAny_pyIter_tuple (show s1.heap.IsTuple a its.toArray from p) ?_
 refine⟨s1.heap.objs.size,[s1.heap.objs.size],_,_,H1,rfl,I1.kept (t':=s1.toks) λb o e=>zxG _ e,zlO a _,⟨_,zxI _ rfl,rfl,rfl⟩,λb hb=>?_,q⟩
 have e:b=s1.heap.objs.size:=by simpa using hb
 subst e
 exact I1.fpOk (zzL _) (I1.hok.fresh (zzL _))
theorem zph{pins:List (Addr×Obj)}{σ:St}{H:Hp}{s:Shared}{R:It->Hp->Prop}{E:Value->Shared->Prop}{lo hi:Int}{t u v:Tok}{tk:Nat}(I:Inv X pins σ H s)(h1 : -(2 ^ 62)<=lo)(h2:lo<2 ^ 62)(h3 : -(2 ^ 62)<=hi)(h4:hi<2 ^ 62)
 (q:R (Itr lo (hi-lo).toNat) H):wpAny (model X.prog X.w) X.A (pyIter (.ref s.heap.objs.size)) (PIE X pins σ tg R) E {s with heap:=s.heap.push {cls:=.type "range",data:=.fields #[.int lo t,.int hi u,.int 1 v]},toks:=tk}:=by
 refine wpAny_pyIter_range (IsRange.new ..) (small_one h1 h2 h3 h4) ?_
 have I1:Inv X pins σ H {s with heap:=s.heap.push {cls:=.type "range",data:=.fields #[.int lo t,.int hi u,.int 1 v]},toks:=tk}:=I.kept λb o e=>zxG _ e
 refine⟨(s.heap.push {cls:=.type "range",data:=.fields #[.int lo t,.int hi u,.int 1 v]}).objs.size,[(s.heap.push {cls:=.type "range",data:=.fields #[.int lo t,.int hi u,.int 1 v]}).objs.size],_,_,H,rfl,
  I1.kept (t':=tk) λb o e=>zxG _ e,zmm _ lo (hi-lo).toNat, ?_,λb hb=>?_,q⟩
 · have e1:lo+((0:Nat):Int)*1=lo:=by simp
   have e2:(((hi-lo).toNat:Nat):Int)-((0:Nat):Int)=Builtin.Range.rangeSize lo hi 1:=by rw[rangeSize_one];split<;>omega
   show IsRangeIter _ _ (lo+((0:Nat):Int)*1) ((((hi-lo).toNat:Nat):Int)-((0:Nat):Int)) 1
   rw[e1,e2]
   exact zxI _ rfl
 · have e:b=(s.heap.push {cls:=.type "range",data:=.fields #[.int lo t,.int hi u,.int 1 v]}).objs.size:=by simpa using hb
   subst e
   exact I1.fpOk (zzL _) (I1.hok.fresh (zzL _))
def zvK(ta:TA):TI:=λσ H R=>ta σ H λvs H1=>∃j:Int,vs=[.int j] /\ -(2 ^ 62)<=j/\j<2 ^ 62/\R (Itr 0 j.toNat) H1
theorem ziI{a:Expr}{ta:TA}{p pos:Pos}(hg:Gl X "range")(hm:X.mg "range"=none)(ha:PA X [a] ta)(hs:starEach [a] X.env=[(false,eval a X.env)]:=by rfl):PI X tg (.Call (.Name "range" p) [a] [] pos) (zvK ta):=by
 intro pins s σ H R I h
 refine Call_ (W0 I hg hm boot_range (PyProof.Rows.callWith_type1 (thn (ha pos pins s σ H _ I h) λus s1 ⟨vs,H1,I1,r1,q1⟩=>?_) hs rfl))
 obtain⟨j,e,q1,q2,q⟩:=q1
 subst e
 cases r1 with
 |cons r rr=>
  cases rr
  obtain⟨t,rfl⟩:=r
  exact call_range_1 (zph I1 (by omega) (by omega) q1 q2 (by simpa using q))
def zww(wi:TI)(g:TG)(tb:TS):TS:=λD σ H=>wi σ H λJ H1=>∃W:Nat->Nat->St->Hp->Prop,(∃m,W 0 m σ H1)/\∀i m σ H,W i m σ H->
 (J.stop i H/\D.nx σ H)\/(J.go i H/\∃N:St->Hp->Prop,(∀σ' H',N σ' H'->∃m',m'<m/\W (i+1) m' σ' H')/\∀x H',J.yld i H x H'->g x σ H' λσ2 H2=>tb {D with nx:=N,ct:=N,bk:=D.nx} σ2 H2)
def zfT(fp:List Addr)(h:Heap):List (Addr×Obj):=fp.filterMap λb=>(h.get? b).map λo=>(b,o)
theorem WR(hb:b ∈ fp)(e:h.get? b=some o):(b,o) ∈ zfT fp h:=List.mem_filterMap.mpr ⟨b,hb,by rw[e];rfl⟩
theorem znO(hp:p ∈ zfT fp h):p.1 ∈ fp/\h.get? p.1=some p.2:=by
 obtain⟨b,hb,e⟩:=List.mem_filterMap.mp hp
 cases q:h.get? b with
 |none=>rw[q]at e;cases e
 |some o=>
  rw[q]at e
  have e':(b,o)=p:=zzX e
  subst e'
  exact⟨hb,q⟩
theorem Inv.pinned(I:Inv X pins σ H s)(hf:∀b ∈ fp,zfi X pins H b)(ho:∀b ∈ fp,∃o,s.heap.get? b=some o/\∀v,o.data ≠ .cell v):Inv X (pins++zfT fp s.heap) σ H s:=
 I.pins_of λp hp=>(zzK.mp hp).elim (λz=>I.pin p (zzJ _ z)) λz=>by
  obtain⟨hb,e⟩:=znO z
  obtain⟨f0,f1,f2,_⟩:=hf p.1 hb
  obtain⟨o,e',d⟩:=ho p.1 hb
  rw[e]at e';cases e'
  exact⟨e,f0,f1,f2,d⟩
theorem Inv.unpinned(I:Inv X (pins++pl) σ H s):Inv X pins σ H s:=I.pins_of λp hp=>I.pin p (zzJ _ (zzN _ hp))
theorem ztO(hp:PassesOwn (model X.prog X.w) X.A X.env X.xe)(hc:X.calm=true)(hi:PI X tg iter wi)(hg:PG X tg g)(hb:PSs X body tb)
 (hs:∀x,foldedSetIterable iter X.env x=pure x:=by intro _;rfl):PS X (.For tg iter body [] pos) (zww wi g tb):=by
 intro pins s σ H D I h
 refine wpAny_For (thn (hi pins s σ H _ I h) λv s1 h1=>thn h1 λitv s2 h2=>?_) hs
 obtain⟨it,fp,tn,J,H2,e,I2,T,st2,f2,W,⟨m0,w0⟩,turn⟩:=h2
 subst e
 have stat:∀{H':Hp},(∀b ∈ fp,H' b=none)->∀b ∈ fp,zfi X pins H' b:=λhn b hb=>⟨hn b hb,(f2 b hb).2⟩
 refine codeAny_forLoop_any (λn s'=>∃i σ' H',Inv X pins σ' H' s'/\tn i s'.heap/\(∀b ∈ fp,H' b=none)/\W i n σ' H') ?_ m0 ⟨0,σ,H2,I2,st2,λb hb=>(f2 b hb).1,w0⟩
 rintro n s3 ⟨i,σ3,H3,I3,st3,fr3,w3⟩
 rcases turn i n σ3 H3 w3 with⟨stop,qn⟩|⟨go,N,hN,step⟩
 · refine wpAny_passesOwn hp (thn (T.done X rfl rfl rfl hc i pins s3 σ3 H3 X.xe I3 (stat fr3) st3 stop) λr s4 ⟨hr,I4⟩=>?_)
   subst hr
   exact wpAny_execs_nil ⟨σ3,H3,I4,qn⟩
 · refine wpAny_passesOwn hp (thn (T.item X rfl rfl rfl hc i pins s3 σ3 H3 X.xe I3 (stat fr3) st3 go) λr s4 ⟨u,hr,h4⟩=>?_)
   subst hr
   refine wpAny_passesOwn hp (thn h4 λ_ s5 ⟨x,H5,I5,r5,y5,st5,fr5⟩=>?_)
   have I5':=I5.pinned (stat fr5) (T.obj _ _ st5)
   refine wpAny_passesOwn hp (thn (hg _ s5 σ3 H5 x u _ I5' r5 (step x H5 y5)) λ_ s6 ⟨σ6,H6,I6,q6⟩=>?_)
   refine wpAny_passesOwn hp (thn (hb _ s6 σ6 H6 _ I6 q6) λf s7 q7=>?_)
   have again:∀{σ7:St}{H7:Hp},Inv X (pins++zfT fp s5.heap) σ7 H7 s7->N σ7 H7->∃m,m<n/\∃i σ' H',Inv X pins σ' H' s7/\tn i s7.heap/\(∀b ∈ fp,H' b=none)/\W i m σ' H':=λ{σ7 H7} I7 n7=>by
    obtain⟨m',hm,w7⟩:=hN σ7 H7 n7
    refine⟨m',hm,i+1,σ7,H7,I7.unpinned,T.keep _ _ _ st5 λb hb o e=>(I7.pin (b,o) (zzJ _ (zzJ _ (WR hb e)))).1,λb hb=>?_,w7⟩
    obtain⟨o,e,d⟩:=T.obj _ _ st5 b hb
    exact(I7.pin (b,o) (zzJ _ (zzJ _ (WR hb e)))).2.1
   cases f with
   |next=>obtain⟨σ7,H7,I7,n7⟩:=q7;exact again I7 n7
   |cont=>obtain⟨σ7,H7,I7,n7⟩:=q7;exact again I7 n7
   |brk=>obtain⟨σ7,H7,I7,q7⟩:=q7;exact⟨σ7,H7,I7.unpinned,q7⟩
   |ret v=>obtain⟨x7,σ7,H7,I7,r7,q7⟩:=q7;exact⟨x7,σ7,H7,I7.unpinned,r7,q7⟩
end
end L2
namespace L2
open PySem PySem.Spec PyProof.Rows
abbrev R2:=V->V->Hp->VK->Prop
def OpR(X:Cx)(f:Value->Value->Sem Value)(r:R2):Prop:=
 ∀(pins:List (Addr×Obj)) (s:Shared) (σ:St) (H:Hp) (x y:V) (v u:Value) (Q:VK),Inv X pins σ H s->RelV x v->RelV y u->r x y H Q->
  wpAny (model X.prog X.w) X.A (f v u) (EP X pins σ Q) X.xe s
def zbw(X:Cx)(f:Value)(r:List V->Hp->VK->Prop):Prop:=
 ∀(pins:List (Addr×Obj)) (s:Shared) (σ:St) (H:Hp) (xs:List V) (us:List Value) (Q:VK),Inv X pins σ H s->Vals xs us->r xs H Q->
  wpAny (model X.prog X.w) X.A (call f us) (EP X pins σ Q) X.xe s
def zwp(X:Cx)(r:V->Hp->(Bool->Hp->Prop)->Prop):Prop:=
 ∀(pins:List (Addr×Obj)) (s:Shared) (σ:St) (H:Hp) (x:V) (v:Value) (Q:Bool->Hp->Prop),Inv X pins σ H s->RelV x v->r x H Q->
  wpAny (model X.prog X.w) X.A (truthy v) (TP X pins σ Q) X.xe s
def tOp(r:R2)(ta tb:TE):TE:=λσ H Q=>ta σ H λx H1=>tb σ H1 λy H2=>r x y H2 Q
def rI(C:Int->Int->Prop)(g:Int->Int->V):R2:=λx y H Q=>∃i j,x = .int i/\y = .int j/\C i j/\Q (g i j) H
def rI0(g:Int->Int->V):R2:=λx y H Q=>∃i j,x = .int i/\y = .int j/\Q (g i j) H
section
variable{X:Cx}{a b c:Expr}{ta tb tc:TE}{pos:Pos}
theorem zud(ha:PE X a ta)(hb:PE X b tb){pins:List (Addr×Obj)}{s:Shared}{σ:St}{H:Hp}{R:V->V->Hp->Prop}(I:Inv X pins σ H s)
 (h:ta σ H λx H1=>tb σ H1 λy H2=>R x y H2) {Q:Value->Shared->Prop}{f:Value->Value->Sem Value}
 (hf:∀v u s2 x y H2,Inv X pins σ H2 s2->RelV x v->RelV y u->R x y H2->wpAny (model X.prog X.w) X.A (f v u) Q X.xe s2):
 wpAny (model X.prog X.w) X.A (eval a X.env) (λv s₁=>wpAny (model X.prog X.w) X.A (eval b X.env) (λu s₂=>wpAny (model X.prog X.w) X.A (f v u) Q X.xe s₂) X.xe s₁) X.xe s:=by
 refine thn (ha pins s σ H _ I h) λv s1 ⟨x,H1,I1,r1,q1⟩=>?_
 refine thn (hb pins s1 σ H1 _ I1 q1) λu s2 ⟨y,H2,I2,r2,q2⟩=>?_
 exact hf v u s2 x y H2 I2 r1 r2 q2
theorem zsv{op:Operator}{r:R2}(ho:OpR X (binaryOp op) r)(ha:PE X a ta)(hb:PE X b tb):PE X (.BinOp a op b pos) (tOp r ta tb):=by
 intro pins s σ H Q I h
 exact wpAny_BinOp (zud ha hb I h λv u s2 x y H2 I2 rx ry q=>ho pins s2 σ H2 x y v u Q I2 rx ry q)
theorem opI{f:Value->Value->Sem Value}{C:Int->Int->Prop}{g:Int->Int->Int}
 (rule:∀(i j:Int) (t u:Tok) (s:Shared) (Q:Value->Shared->Prop) (E:Value->Shared->Prop),C i j->Q (.int (g i j) s.toks) {s with toks:=s.toks+1}->wpAny (model X.prog X.w) X.A (f (.int i t) (.int j u)) Q E s):
 OpR X f (rI C λi j=>.int (g i j)):=by
 intro pins s σ H x y v u Q I rx ry h
 obtain⟨i,j,rfl,rfl,hc,q⟩:=h
 obtain⟨t,rfl⟩:=rx
 obtain⟨t',rfl⟩:=ry
 exact rule i j t t' s _ _ hc ⟨.int (g i j),H,I.tok _,⟨_,rfl⟩,q⟩
theorem zuV{f:Value->Value->Sem Value}{g:Int->Int->Int}
 (rule:∀(i j:Int) (t u:Tok) (s:Shared) (Q:Value->Shared->Prop) (E:Value->Shared->Prop),Q (.int (g i j) s.toks) {s with toks:=s.toks+1}->wpAny (model X.prog X.w) X.A (f (.int i t) (.int j u)) Q E s):
 OpR X f (rI0 λi j=>.int (g i j)):=by
 intro pins s σ H x y v u Q I rx ry h
 obtain⟨i,j,rfl,rfl,q⟩:=h
 obtain⟨t,rfl⟩:=rx
 obtain⟨t',rfl⟩:=ry
 exact rule i j t t' s _ _ ⟨.int (g i j),H,I.tok _,⟨_,rfl⟩,q⟩
theorem zrM{f:Value->Value->Sem Value}{g:Int->Int->Bool}
 (rule:∀(i j:Int) (t u:Tok) (s:Shared) (Q:Value->Shared->Prop) (E:Value->Shared->Prop),Q (.bool (g i j)) s->wpAny (model X.prog X.w) X.A (f (.int i t) (.int j u)) Q E s):
 OpR X f (rI0 λi j=>.bl (g i j)):=by
 intro pins s σ H x y v u Q I rx ry h
 obtain⟨i,j,rfl,rfl,q⟩:=h
 obtain⟨t,rfl⟩:=rx
 obtain⟨t',rfl⟩:=ry
 exact rule i j t t' s _ _ ⟨.bl (g i j),H,I,rfl,q⟩
def zwg(i j:Int):Prop:=0<j/\j<1073741824
def zwb(i j:Int):Prop:=0<=j/\j<=1000000/\i.natAbs<2 ^ 64
theorem zuu:OpR X (binaryOp .Add) (rI0 λi j=>.int (i+j)):=zuV λ_ _ _ _ _ _ _ q=>add_int q
theorem zth:OpR X (binaryOp .Sub) (rI0 λi j=>.int (i-j)):=zuV λ_ _ _ _ _ _ _ q=>sub_int q
theorem zoj:OpR X (binaryOp .Mod) (rI (λ_ j=>0<j) λi j=>.int (i%j)):=opI λi j _ _ _ _ _ hc q=>by
 have h1:(0:Int)<j:=hc
 exact mod_int' (by omega) (by rw[Int.fmod_eq_emod_of_nonneg i (by omega)];exact q)
theorem zsH:OpR X (binaryOp .Pow) (rI zwb λi j=>.int (i ^ j.toNat)):=opI λ_ _ _ _ _ _ _ hc q=>pow_int_small hc.1 hc.2.1 hc.2.2 q
end
section
variable{X:Cx}{a b c:Expr}{ta tb tc:TE}{pos:Pos}
theorem vQ(I:Inv X pins σ H s)(q:Q (.bl k) H)(e:k=k'):EP X pins σ Q (.bool k') s:=by
 subst e
 exact⟨.bl k,H,I,rfl,q⟩
theorem zvb:OpR X (compareOp .Lt) (rI0 λi j=>.bl (decide (i<j))):=zrM λ_ _ _ _ _ _ _ q=>lt_int q
theorem zuI:OpR X (compareOp .LtE) (rI0 λi j=>.bl (decide (i<=j))):=zrM λ_ _ _ _ _ _ _ q=>le_int q
theorem zvF:OpR X (compareOp .Gt) (rI0 λi j=>.bl (decide (j<i))):=zrM λ_ _ _ _ _ _ _ q=>gt_int q
theorem zuY:OpR X (compareOp .GtE) (rI0 λi j=>.bl (decide (j<=i))):=zrM λ_ _ _ _ _ _ _ q=>ge_int q
theorem znE:OpR X (compareOp .In) (λx y H Q=>∃i j,x = .str i/\y = .str j/\Q (.bl (!(Builtin.Str.occurrences j i 0 j.length 1).isEmpty)) H):=by
 intro pins s σ H x y v u Q I rx ry h
 obtain⟨i,j,rfl,rfl,q⟩:=h
 obtain⟨t,rfl⟩:=rx
 obtain⟨t',rfl⟩:=ry
 exact in_str (vQ I q rfl)
theorem zsW:OpR X (compareOp .Is) (λx y H Q=>y = .non/\Q (.bl (decide (x = .non))) H):=by
 intro pins s σ H x y v u Q I rx ry h
 obtain⟨rfl,q⟩:=h
 cases ry
 refine is_none_gen (vQ I q ?_)
 cases x<;>first
  |(cases rx;rfl)
  |(obtain⟨t,rfl⟩:=rx;rfl)
theorem zrc:OpR X (compareOp .IsNot) (λx y H Q=>y = .non/\Q (.bl (!decide (x = .non))) H):=by
 intro pins s σ H x y v u Q I rx ry h
 obtain⟨rfl,q⟩:=h
 cases ry
 refine isnot_none_gen (vQ I q ?_)
 cases x<;>first
  |(cases rx;rfl)
  |(obtain⟨t,rfl⟩:=rx;rfl)
theorem zjV:OpR X (compareOp .NotIn) (λx y H Q=>∃i j,x = .str i/\y = .str j/\Q (.bl (!(!(Builtin.Str.occurrences j i 0 j.length 1).isEmpty))) H):=by
 intro pins s σ H x y v u Q I rx ry h
 obtain⟨i,j,rfl,rfl,q⟩:=h
 obtain⟨t,rfl⟩:=rx
 obtain⟨t',rfl⟩:=ry
 exact notIn_str (vQ I q rfl)
theorem zoN(b:Expr)(h:op ≠ .In:=by decide)(h2:op ≠ .NotIn:=by decide):behindInMarks op b=false:=by
 have e1:(op==CmpOp.In)=false:=by cases op<;>first|rfl|exact absurd rfl h
 have e2:(op==CmpOp.NotIn)=false:=by cases op<;>first|rfl|exact absurd rfl h2
 cases b<;>simp[behindInMarks,e1,e2]
theorem zqD{op:CmpOp}{r:R2}(ho:OpR X (compareOp op) r)(ha:PE X a ta)(hb:PE X b tb)(hm:behindInMarks op b=false):PE X (.Compare a [op] [b] pos) (tOp r ta tb):=by
 intro pins s σ H Q I h
 exact wpAny_Compare1 (zud ha hb I h λv u s2 x y H2 I2 rx ry q=>ho pins s2 σ H2 x y v u Q I2 rx ry q) hm
def zuE(t:TE):TT:=λσ H Q=>t σ H λx H'=>∃k,x = .bl k/\Q k H'
theorem zqN(ho:OpR X (compareOp op) r)(ha:PE X a ta)(hb:PE X b tb)(hm:behindInMarks op b=false):PT X (.Compare a [op] [b] pos) (zuE (tOp r ta tb)):=by
 intro pins s σ H Q I h
 refine wpAny_isTrue_Compare1 (thn (ha pins s σ H _ I h) λv s1 ⟨x,H1,I1,r1,q1⟩=>thn (hb pins s1 σ H1 _ I1 q1) λu s2 ⟨y,H2,I2,r2,q2⟩=>
  thn (ho pins s2 σ H2 x y v u _ I2 r1 r2 q2) λc s3 ⟨z,H3,I3,r3,k,e,q3⟩=>?_) hm
 subst e
 cases r3
 exact wpAny_truthy_bool ⟨H3,I3,q3⟩
def ztC(K:zC)(x:V)(H:Hp)(k:Bool):Prop:=
 match x with
 | .non=>k=false
 | .bl b=>k=b
 | .int i=>k=(i != 0)
 | .str y=>y.length<=sizeLine/\k=((y.length:Int) != 0)
 | .byt y=>y.size<=sizeLine/\k=((y.size:Int) != 0)
 | .ref p=>(∃xs,SqL K H p xs/\k = !xs.isEmpty)\/(∃xs,SqT K H p xs/\k = !xs.isEmpty)\/∃kvs,H p=some (.dK kvs)/\k = !kvs.isEmpty
 |_=>False
theorem zlI(r:KV kvs vs):(!vs.isEmpty) = !kvs.isEmpty:=by
 cases r<;>rfl
theorem zfM(r:Vals xs its):(!its.toArray.isEmpty) = !xs.isEmpty:=by
 cases r<;>simp
theorem zcm:(sizeLine:Nat)<2 ^ 63:=by rw[sizeLine_eq];decide
theorem zuh:zwp X (λx H Q=>∃k,ztC X.K x H k/\Q k H):=by
 intro pins s σ H x v Q I rx h
 obtain⟨k,e,q⟩:=h
 have hl:=zcm
 have hs:sizeLine=16777216:=sizeLine_eq
 cases x with
 |non=>
  cases rx
  have e':k=false:=e
  subst e'
  exact truthy_none ⟨H,I,q⟩
 |bl b=>
  cases rx
  have e':k=b:=e
  subst e'
  exact wpAny_truthy_bool ⟨H,I,q⟩
 |int i=>
  obtain⟨t,rfl⟩:=rx
  have e':k=(i != 0):=e
  subst e'
  exact PySem.P.truthy_int ⟨H,I,q⟩
 |str y=>
  obtain⟨t,rfl⟩:=rx
  obtain⟨hy,e'⟩:y.length<=sizeLine/\k=((y.length:Int) != 0):=e
  subst e'
  exact PySem.P.truthy_str (by omega) ⟨H,I.tok _,q⟩
 |byt y=>
  obtain⟨t,rfl⟩:=rx
  obtain⟨hy,e'⟩:y.size<=sizeLine/\k=((y.size:Int) != 0):=e
  subst e'
  exact PySem.W.truthy_bytes (by omega) ⟨H,I.tok _,q⟩
 |ref p=>
  cases rx
  have e':(∃xs,SqL X.K H p xs/\k = !xs.isEmpty)\/(∃xs,SqT X.K H p xs/\k = !xs.isEmpty)\/∃kvs,H p=some (.dK kvs)/\k = !kvs.isEmpty:=e
  rcases e' with⟨xs,hx,e'⟩|⟨xs,hx,e'⟩|⟨kvs,hx,e'⟩
  · subst e'
    obtain⟨its,r,pl,hz⟩:=I.list hx
    have hlen:=r.length
    exact wpAny_truthy_list pl.isList (by simp only[zzF];omega) ⟨H,I.tok _,by rw[zfM r];exact q⟩
  · subst e'
    obtain⟨its,r,pl,hz⟩:=I.tuple hx
    have hlen:=r.length
    exact truthy_tuple pl (by simp only[zzF];omega) ⟨H,I.tok _,by rw[zfM r];exact q⟩
  · subst e'
    obtain⟨hz,hS,vs,r,m⟩:kvs.length<=sizeLine/\(p==sysModules)=false/\∃vs,KV kvs vs/\s.heap.DictOf (wB X.prog X.w) p vs:=I.hok p _ hx
    have hlen:kvs.length=vs.length:=Paired.length r
    exact wpAny_truthy_dict hS m (by omega) ⟨H,I.tok _,by rw[zlI r];exact q⟩
 |_=>exact(show False from e).elim
theorem zoF(ha:PE X a ta)(he:∀whole,isTrue a X.env whole=(do let v <-whole;standAt a.pos;holding [v] (truthy v))):
 PT X a (λσ H Q=>ta σ H λx H'=>∃k,ztC X.K x H' k/\Q k H'):=by
 intro pins s σ H Q I h
 exact isTrue_plain (thn (ha pins s σ H _ I h) λv s1 ⟨x,H1,I1,r1,q1⟩=>zuh pins s1 σ H1 x v Q I1 r1 q1) (he _)
theorem zlP:OpR X (binaryOp .Add) (λx y H Q=>∃i j,x = .str i/\y = .str j/\i.length+j.length<=sizeLine/\Q (.str (i++j)) H):=by
 intro pins s σ H x y v u Q I rx ry h
 obtain⟨i,j,rfl,rfl,hz,q⟩:=h
 obtain⟨t,rfl⟩:=rx
 obtain⟨t',rfl⟩:=ry
 exact add_str (λt' tk=>⟨.str (i++j),H,I.tok _,⟨_,rfl⟩,q⟩) hz
theorem vals1(r:Vals [x] us):∃u,us=[u]/\RelV x u:=by
 cases r with
 |cons r1 r2=>cases r2;exact⟨_,rfl,r1⟩
theorem vals2(r:Vals [x,y] us):∃u w',us=[u,w']/\RelV x u/\RelV y w':=by
 cases r with
 |cons r1 r2=>
  cases r2 with
  |cons r3 r4=>cases r4;exact⟨_,_,rfl,r1,r3⟩
theorem znw(hc:X.calm=true):zbw X (.builtin "max") (λxs H Q=>∃i j,xs=[.int i,.int j]/\Q (.int (if j > i then j else i)) H):=by
 intro pins s σ H xs us Q I r h
 obtain⟨i,j,rfl,q⟩:=h
 obtain⟨u,w',rfl,⟨t,rfl⟩,⟨t',rfl⟩⟩:=vals2 r
 refine max_two_ints (I.ok.hd hc) λh' tk k=>⟨_,H,I.kept k, ?_,q⟩
 by_cases hj:j > i
 · rw[if_pos hj,if_pos hj];exact⟨_,rfl⟩
 · rw[if_neg hj,if_neg hj];exact⟨_,rfl⟩
theorem zix:zbw X (.type "int") (λxs H Q=>(∃i,xs=[.int i]/\Q (.int i) H)\/∃k,xs=[.bl k]/\Q (.int (if k then 1 else 0)) H):=by
 intro pins s σ H xs us Q I r h
 rcases h with⟨i,rfl,q⟩|⟨k,rfl,q⟩
 · obtain⟨u,rfl,t,rfl⟩:=vals1 r
   exact call_int_int ⟨.int i,H,I,⟨_,rfl⟩,q⟩
 · obtain⟨u,rfl,r1⟩:=vals1 r
   cases r1
   exact call_int_bool ⟨.int (if k then 1 else 0),H,I.tok _,⟨_,rfl⟩,q⟩
theorem zkF:zbw X (.builtin "divmod") (λxs H Q=>∃i j,xs=[.int i,.int j]/\zwg i j/\∀p,H p=none->Q (.ref p) (upd H p (.tup [.int (i/j),.int (i%j)]))):=by
 intro pins s σ H xs us Q I r h
 obtain⟨i,j,rfl,⟨h1,h2⟩,q⟩:=h
 obtain⟨u,w',rfl,⟨t,rfl⟩,⟨t',rfl⟩⟩:=vals2 r
 refine divmod_int (by omega) ?_ (.inl (PyProof.noPylong_small (by omega)))
 rw[Int.fdiv_eq_ediv_of_nonneg i (by omega),Int.fmod_eq_emod_of_nonneg i (by omega)]
 have hn:H s.heap.objs.size=none:=I.hok.fresh (zzL _)
 refine⟨.ref s.heap.objs.size,_, ?_,rfl,q _ hn⟩
 refine I.laid (λb o e=>zxG _ e) (zzL _) ⟨by simp only[zzR,List.length_nil];rw[sizeLine_eq];decide,[.int (i/j) s.toks,.int (i%j) (s.toks+1)],.cons ⟨_,rfl⟩ (.cons ⟨_,rfl⟩ .nil), ?_⟩
 exact⟨_,zxI s.heap rfl,rfl,0,rfl⟩
end
end L2
namespace L2
open PySem PySem.Spec PyProof.Rows
structure ObjM(h:Heap)(x dx C:Addr)(mA:Str->Option Value):Prop where
 obj:h.get? x=some (PySem.W.instObj C dx)
 ns:h.Ns1 dx mA
 ne:dx≠x
theorem zgc.some_of(r:zgc (some v) o):∃u,o=some u/\RelV v u:=by
 cases o with
 |none=>exact(show False from r).elim
 |some u=>exact⟨u,rfl,r⟩
structure Cls(K:zC)(C:Addr):Prop where
 pg:PySem.W.plainGet K C Str.empty=true
 hd:PySem.W.hasDictIn K C=true
 po:PySem.W.plainOver K C=true
 sa:PySem.W.findIn K (.ref C) "__setattr__"=some (some (.builtin "object.__setattr__"))
structure Con(K:zC)(C:Addr)(f:Str)(v:V)(u:Value):Prop where
 at_:PySem.W.findIn K (.ref C) f=some (some u)
 rel:RelV v u
 get:PySem.W.specialIn K u "__get__"=some none
 cp:PySem.W.copiedNames.contains f=false
structure Meth(K:zC)(C:Addr)(m:Str)(f:Addr):Prop where
 at_:PySem.W.findIn K (.ref C) m=some (some (.ref f))
 fn:PySem.W.isFn K (.ref f)=true
 kp:PySem.W.keepIn K (.ref f)=true
section
variable{X:Cx}{pins:List (Addr×Obj)}{σ:St}{H:Hp}{s:Shared}{A:Around}{E:Value->Shared->Prop}{Q:Value->Shared->Prop}{c:Value}{b:Bool}
inductive TyOf(K:zC)(H:Hp):V->Value->Prop where
 |non:TyOf K H .non (.type "NoneType")
 |bl (x:Bool):TyOf K H (.bl x) (.type "bool")
 |int (i:Int):TyOf K H (.int i) (.type "int")
 |str (x:Str):TyOf K H (.str x) (.type "str")
 |flt (x:UInt64):TyOf K H (.flt x) (.type "float")
 |lst {a:Addr}{xs:List V}(e:H a=some (.lst xs)):TyOf K H (.ref a) (.type "list")
 |frz {a:Addr}{o:Obj}{xs:List V}(e:H a=some (.frz o (.lst xs))):TyOf K H (.ref a) (.type "list")
 |tup {a:Addr}{xs:List V}(e:H a=some (.tup xs)):TyOf K H (.ref a) (.type "tuple")
 |dK {a:Addr}{kvs:List (Key×V)}(e:H a=some (.dK kvs)):TyOf K H (.ref a) (.type "dict")
 |dT {a:Addr}{kvs:List (List Key×V)}(e:H a=some (.dT kvs)):TyOf K H (.ref a) (.type "dict")
 |ins {a C dx:Addr}{fs:List (Str×V)}(e:H a=some (.ins C dx fs)) (cl:Cls K C) (ha:PySem.W.findIn K (.ref C) "__class__"=some (some (.builtin "object.__class__")))
  (hn:PySem.W.specialIn K (.builtin "object.__class__") "__get__"=some (some (.builtin "getset_descriptor.__get__"))) (htk:PySem.W.takesIn K (.builtin "object.__class__")=some true)
  (hm:PySem.W.mroIn K C (.type "object")=some true):TyOf K H (.ref a) (.ref C)
end
end L2
namespace L2
open PySem PySem.Spec PyProof.Rows
structure Room(k:Nat)(A:Around):Prop where
 hd:A.handled=none
 dp:A.depth+3*k+5<recursionLimit
 un:A.units+16*k+200<cLine
 gd:A.guards=some []
theorem Room.mono(r:Room k A)(h:j<=k):Room j A:=⟨r.hd,by have:=r.dp;omega,by have:=r.un;omega,r.gd⟩
theorem Room.deeper(r:Room (k+1) A)(env:Env):Room k (A.deeper env):=
 ⟨r.hd,by have:=r.dp;show A.depth+1+3*k+5<_;omega,by have:=r.un;show A.units+3+16*k+200<_;omega,r.gd⟩
theorem Room.depth(r:Room k A):A.depth<recursionLimit:=by have:=r.dp;omega
theorem Room.units(r:Room k A):A.units+64<cLine:=by have:=r.un;omega
def zuQ:TA:=λ_ H Q=>Q [] H
def zsp(ta:TE)(tr:TA):TA:=λσ H Q=>ta σ H λx H1=>tr σ H1 λxs H2=>Q (x::xs) H2
section
variable{X:Cx}{e:Expr}{es:List Expr}{te:TE}{t:TA}{pos:Pos}
theorem zgJ:PA X [] zuQ:=λ_ _ _ _ H Q I h=>Calls.spliced_nil ⟨[],H,I,.nil,h⟩
theorem zdc(ha:PE X e te)(hr:PA X es t)(hs:starEach (e::es) X.env=(false,eval e X.env)::starEach es X.env:=by rfl):PA X (e::es) (zsp te t):=by
 intro pos pins s σ H Q I h
 rw[hs]
 show wpAny _ _ (spliced ((false,eval e X.env)::backTo pos (starEach es X.env))) _ _ s
 refine Calls.spliced_cons (thn (ha pins s σ H _ I h) λu s1 ⟨x,H1,I1,r1,q1⟩=>?_)
 exact thn (hr pos pins s1 σ H1 _ I1 q1) λus s2 ⟨xs,H2,I2,r2,q2⟩=>⟨x::xs,H2,I2,.cons r1 r2,q2⟩
def zvQ(t:TA):TE:=λσ H Q=>t σ H λxs H1=>xs.length<=sizeLine/\∀p,H1 p=none->Q (.ref p) (upd H1 p (.tup xs))
def zwH(t:TA):TE:=λσ H Q=>t σ H λxs H1=>xs.length<=sizeLine/\∀p,H1 p=none->Q (.ref p) (upd H1 p (.lst xs))
theorem ztI(h:PA X es t):PE X (.Tuple es x1 pos) (zvQ t):=by
 intro pins s σ H Q I hq
 refine wpAny_Tuple_spliced (thn (h pos pins s σ H _ I hq) λus s1 ⟨xs,H1,I1,r,z,q⟩=>⟨by rw[<-r.length];exact z, ?_⟩)
 have hf:H1 s1.heap.objs.size=none:=I1.hok.fresh (zzL _)
 refine⟨.ref s1.heap.objs.size,upd H1 s1.heap.objs.size (.tup xs),I1.laid (t':=s1.toks) (λb u e=>zxG _ e) (zzL _) ?_,rfl,q _ hf⟩
 exact⟨z,us,r,⟨_,zxI _ rfl,rfl,_,rfl⟩⟩
theorem zsR(h:PA X es t):PE X (.List es pos) (zwH t):=by
 intro pins s σ H Q I hq
 refine wpAny_List_spliced (thn (h pos pins s σ H _ I hq) λus s1 ⟨xs,H1,I1,r,z,q⟩=>⟨by rw[<-r.length];exact z, ?_⟩)
 have hf:H1 s1.heap.objs.size=none:=I1.hok.fresh (zzL _)
 refine⟨.ref s1.heap.objs.size,upd H1 s1.heap.objs.size (.lst xs),I1.laid (t':=s1.toks) (λb u e=>zxG _ e) (zzL _) ?_,rfl,q _ hf⟩
 exact⟨z,us,0,r,zxI _ rfl⟩
end
abbrev Sp:=List V->Hp->VK->XK->Prop
abbrev CXT:=List Env->Hp->Shared->XK->Value->Shared->Prop
structure Env0(P:Program)(w:World)(K:zC)(mg:Str->Option Value)(base:Heap)(A:Around)(outer:List Env)(s:Shared)(H:Hp):Prop where
 frames:A.frames=some outer
 mod:Mod K mg base
 bs:∀b o,base.get? b=some o->s.heap.get? b=some o/\H b=none
 bsz:base.objs.size<=s.heap.objs.size
 funs:s.heap.FunFrames base outer
 frf:∀b ∈ frs outer,H b=none
 hok:HOk P w H s.heap
 bare:AllBare s.gens
def CE(outer:List Env)(P:Program)(w:World)(H:Hp)(s:Shared)(Q:VK)(u:Value)(s':Shared):Prop:=
 ∃v H',s'.os=s.os/\AllBare s'.gens/\Un (frs outer) [] H H' s.heap s'.heap/\HOk P w H' s'.heap/\RelV v u/\Q v H'
def CR(CX:CXT)(outer:List Env)(P:Program)(w:World)(H:Hp)(s:Shared)(Q:VK)(E:XK)(r:Result)(s':Shared):Prop:=
 match r with
 | .ok (.ret u)=>CE outer P w H s Q u s'
 | .ok _=>False
 | .error e=>CX outer H s E e s'
structure FnOk(P:Program)(w:World)(K:zC)(mg:Str->Option Value)(base:Heap)(CX:CXT)(k:Nat)(f:Addr)(fd:FuncData)(ps:List Str)(sp:Sp):Prop where
 len:∀vs H Q E,sp vs H Q E->vs.length=ps.length
 run:∀(A:Around) (outer:List Env) (s:Shared) (H:Hp) (args:Args) (us:List Value) (vs:List V) (Q:VK) (E:XK),Room k A->Env0 P w K mg base A outer s H->BindsTo s fd args (ps.zip us)->Vals vs us->sp vs H Q E->
  codeAny (model P w) A (.call (.ref f) args) (CR CX outer P w H s Q E) s
theorem FnOk.imp{P:Program}{w:World}{K:zC}{mg:Str->Option Value}{base:Heap}{CX:CXT}{k:Nat}{f:Addr}{fd:FuncData}{ps:List Str}{sp sp':Sp}(F:FnOk P w K mg base CX k f fd ps sp)
 (h:∀vs H Q E,sp' vs H Q E->sp vs H Q E):FnOk P w K mg base CX k f fd ps sp':=
 ⟨λvs H Q E q=>F.len vs H Q E (h _ _ _ _ q),λA outer s H args us vs Q E hr he hb hv hs=>F.run A outer s H args us vs Q E hr he hb hv (h _ _ _ _ hs)⟩
section
variable{X:Cx}{pins:List (Addr×Obj)}{σ:St}{H:Hp}{s s':Shared}
theorem Inv.env0(I:Inv X pins σ H s):Env0 X.prog X.w X.K X.mg X.base X.A X.stack s H:=
 ⟨I.ok.frames,I.ok.mod,I.bs,zzM I.ok.bsz I.sz,I.stack,I.stkFree,I.hok,I.bare⟩
theorem Inv.after(I:Inv X pins σ H s)(h:CE X.stack X.prog X.w H s Q u s'):EP X pins σ Q u s':=by
 obtain⟨v,H',os,bare,un,hok,r,q⟩:=h
 obtain⟨hh,g,d,t,os'⟩:=s'
 obtain rfl:os'=s.os:=os
 exact⟨v,H',I.call (h':=hh) (g':=g) (d':=d) (t':=t) (ch:=[]) un hok bare (λb z=>absurd z (by simp)),r,q⟩
end
def zsk(sp:Sp)(dvs:List V)(E:XK)(t:TA):TE:=λσ H Q=>t σ H λvs H1=>sp (vs++dvs) H1 Q E
def Binds(K:zC)(fd:FuncData)(ps:List Str)(ds:List Value):Prop:=
 ∀(s:Shared) (us:List Value),K.In s.heap->(us++ds).length=ps.length->BindsTo s fd ⟨us,[]⟩ (ps.zip (us++ds))
theorem Binds.all{K:zC}{fd:FuncData}{ps:List Str}(h:∀us:List Value,us.length=ps.length->bindArgs fd ⟨us,[]⟩=pure (ps.zip us)):Binds K fd ps []:=λs us _ hl=>by
 rw[zyC]at hl ⊢
 exact .of_eq (h us hl)
def zjS(CX:CXT)(X:Cx)(E:XK):Prop:=∀(pins:List (Addr×Obj)) (σ:St) (H:Hp) (s:Shared) (e:Value) (s':Shared),Inv X pins σ H s->CX X.stack H s E e s'->X.xe e s'
section
variable{X:Cx}{CX:CXT}{k:Nat}{f C:Addr}{fd:FuncData}{ps:List Str}{sp:Sp}{dvs:List V}{ds:List Value}{E:XK}{x m:Str}{p pos apos:Pos}{e o:Expr}{es:List Expr}{ta:TE}{t:TA}
theorem zto(F:FnOk X.prog X.w X.K X.mg X.base CX k f fd ps sp)(hr:Room k X.A)(hb:Binds X.K fd ps ds)(hd:Vals dvs ds)(hx:zjS CX X E)
 (I:Inv X pins σ H s) (r:Vals vs us) (h:sp (vs++dvs) H Q E):wpAny (model X.prog X.w) X.A (call (.ref f) us) (EP X pins σ Q) X.xe s:=by
 have r2:Vals (vs++dvs) (us++ds):=r.append hd
 have hl:(us++ds).length=ps.length:=by rw[<-r2.length];exact F.len _ _ _ _ h
 refine wpAny_call (codeAny_mono (F.run X.A X.stack s H ⟨us,[]⟩ (us++ds) (vs++dvs) Q E hr I.env0 (hb s us I.kIn hl) r2 h) λr s' hq=>?_)
 cases r with
 |error e=>exact hx pins σ H s e s' I hq
 |ok fl=>
  cases fl with
  |ret u=>exact I.after hq
  |next=>exact False.elim hq
  |brk=>exact False.elim hq
  |cont=>exact False.elim hq
theorem zrD(F:FnOk X.prog X.w X.K X.mg X.base CX k f fd ps sp)(hr:Room k X.A)(hg:Gl X x)(hm:X.mg x=some (.ref f))(hk:PySem.W.keepIn X.K (.ref f)=true)(hb:Binds X.K fd ps ds)(hd:Vals dvs ds)(hx:zjS CX X E)
 (ha:PA X (e::es) t) (hdb:(x==("__debug__":Str))=false:=by decide) (he:starEach (e::es) X.env=(false,eval e X.env)::starEach es X.env:=by rfl) (hpl:(backTo pos (starEach es X.env)).any (·.1)=false:=by rfl):
 PE X (.Call (.Name x p) (e::es) [] pos) (zsk sp dvs E t):=by
 intro pins s σ H Q I h
 refine wpAny_Call_Name_kw (zqR I hg hm ?_ hdb)
 refine PySem.W.callWith_K (h₀:=X.base) I.ok.mod.kin hk (thn (ha pos pins s σ H _ I h) λus s1 ⟨vs,H1,I1,r,q⟩=>⟨I1.kIn, ?_⟩) he hpl
 exact zto F hr hb hd hx I1 r q
structure Mk(K:zC)(C f:Addr):Prop where
 makes:PySem.W.makesIn K C=true
 init:PySem.W.findIn K (.ref C) "__init__"=some (some (.ref f))
 fn:PySem.W.isFn K (.ref f)=true
 kp:PySem.W.keepIn K (.ref C)=true
end
section
variable{X:Cx}{CX:CXT}{k:Nat}{f C:Addr}{fd:FuncData}{ps ks:List Str}{sp:Sp}{E:XK}{x m:Str}{p pos apos kpos:Pos}{e o:Expr}{es:List Expr}{kws:List Keyword}{te ta:TE}{t tk:TA}{nm:Option Str}
structure KBinds(K:zC)(fd:FuncData)(ps ks:List Str)(g:List Value->List Value->List Value)(gV:List V->List V->List V):Prop where
 to:∀(s:Shared) (us ws:List Value),K.In s.heap->(g us ws).length=ps.length->BindsTo s fd ⟨us,ks.zip ws⟩ (ps.zip (g us ws))
 rel:∀{vs:List V}{us:List Value}{zs:List V}{ws:List Value},Vals vs us->Vals zs ws->Vals (gV vs zs) (g us ws)
variable{g:List Value->List Value->List Value}{gV:List V->List V->List V}
end
structure FnScope(N P:List Str)(sc:Scope):Prop where
 kind:sc.kind = .function
 co:sc.isCoroutine=false
 gen:sc.isGenerator=false
 nd:N.Nodup
 pre:N.take P.length=P
 par:∀x ∈ P,sc.names.lookup x=some .local\/sc.names.lookup x=some .cell
 nofree:∀y ∈ sc.names,y.2 ≠ .free
theorem zhV{kindOf:Str->Option NameKind}{x:Str}:∀{binds:List (Str×Value)}{m:Str->Option Value},(∀v,(x,v) ∉ binds)->bindL kindOf binds m x=m x
 | [],_,_=>rfl
 |(n,v)::r,m,h=>by
  unfold bindL
  rw[zhV λw hw=>h w (zzB _ hw)]
  split
  · have:x≠n:=by rintro rfl;exact h v zzD
    simp[this]
  · rfl
theorem zib{kindOf:Str->Option NameKind}{x:Str}:∀{binds:List (Str×Value)}{m:Str->Option Value},(∀v,(x,v) ∉ binds)->bindC kindOf binds m x=m x
 | [],_,_=>rfl
 |(n,v)::r,m,h=>by
  unfold bindC
  rw[zib λw hw=>h w (zzB _ hw)]
  split
  · rfl
  · have:x≠n:=by rintro rfl;exact h v zzD
    simp[this]
theorem zir{kindOf:Str->Option NameKind}{x:Str}{v:Value}:∀{P:List Str}{vs:List Value}{i:Nat}{m:Str->Option Value},P.Nodup->P[i]? = some x->vs[i]? = some v->kindOf x=some .local->
 bindL kindOf (P.zip vs) m x=some v
 | [],_,_,_,_,h,_,_=>by simp at h
 |_::_,[],_,_,_,_,h,_=>by simp at h
 |p::P,w::vs,0,m,nd,h1,h2,hk=>by
  simp at h1 h2;subst h1;subst h2
  show bindL kindOf ((p,w)::P.zip vs) m p=_
  unfold bindL
  rw[zhV λv hv=>(zzU.mp nd).1 (List.of_mem_zip hv).1,if_pos hk]
  simp
 |p::P,w::vs,i+1,m,nd,h1,h2,hk=>by
  show bindL kindOf ((p,w)::P.zip vs) m x=_
  unfold bindL
  exact zir (i:=i) (zzU.mp nd).2 (by simpa using h1) (by simpa using h2) hk
theorem ziC{kindOf:Str->Option NameKind}{x:Str}{v:Value}:∀{P:List Str}{vs:List Value}{i:Nat}{m:Str->Option Value},P.Nodup->P[i]? = some x->vs[i]? = some v->kindOf x≠some .local->
 bindC kindOf (P.zip vs) m x=some v
 | [],_,_,_,_,h,_,_=>by simp at h
 |_::_,[],_,_,_,_,h,_=>by simp at h
 |p::P,w::vs,0,m,nd,h1,h2,hk=>by
  simp at h1 h2;subst h1;subst h2
  show bindC kindOf ((p,w)::P.zip vs) m p=_
  unfold bindC
  rw[zib λv hv=>(zzU.mp nd).1 (List.of_mem_zip hv).1,if_neg hk]
  simp
 |p::P,w::vs,i+1,m,nd,h1,h2,hk=>by
  show bindC kindOf ((p,w)::P.zip vs) m x=_
  unfold bindC
  exact ziC (i:=i) (zzU.mp nd).2 (by simpa using h1) (by simpa using h2) hk
def start(N:List Str)(vs:List V):St:=vs.map some++List.replicate (N.length-vs.length) none
def zlL(CX:CXT)(P:Program)(w:World)(K:zC)(mg:Str->Option Value)(base:Heap)(N:List Str)(qual:Str)(scope:Scope)(f:Addr)(cd:Value)(A:Around)(outer:List Env)(s:Shared)(H:Hp)(E:XK):Cx where
 prog:=P
 w:=w
 K:=K
 mg:=mg
 base:=base
 A:=A.deeper (envOfC qual scope s.heap.objs.size f cd)
 N:=N
 s₀:=s
 H₀:=H
 env:=envOfC qual scope s.heap.objs.size f cd
 outer:=outer
 stack:=envOfC qual scope s.heap.objs.size f cd::outer
 ex:=[]
 calm:=true
 fn:=λ_=>true
 pn:=[]
 xe:=λe s'=>wpAny (model P w) (A.deeper (envOfC qual scope s.heap.objs.size f cd)) (leaving (envOfC qual scope s.heap.objs.size f cd) e) (λ_ s''=>CX outer H s E e s'') (λe' s''=>CX outer H s E e' s'') s'
theorem zkd{sc:Scope}{n:Nat}{x:Str}(h:sc.names.lookup x=some .cell):∃c,(cellsFrom n sc.names []).lookup x=some c:=by
 have q:=PySem.W.cellsFrom_some sc.names n [] (.inl h)
 exact Option.isSome_iff_exists.mp q
theorem znJ{CX:CXT}{P:Program}{w:World}{K:zC}{mg:Str->Option Value}{base:Heap}{N ps:List Str}{qual:Str}{scope:Scope}{f:Addr}{cd:Value}{A:Around}{outer:List Env}{s s1:Shared}{H:Hp}{E:XK}{us:List Value}{vs:List V}
 (S:FnScope N ps scope) (hd:A.handled=none) (e0:Env0 P w K mg base A outer s H) (hl:vs.length=ps.length) (r:Vals vs us)
 (x:InCallC s s.heap.objs.size (bindL (envOfC qual scope s.heap.objs.size f cd).kindOf (ps.zip us) λ_=>none) (cellsFrom (s.heap.objs.size+1) scope.names []) (bindC (envOfC qual scope s.heap.objs.size f cd).kindOf (ps.zip us) λ_=>none) s1):
 Inv (zlL CX P w K mg base N qual scope f cd A outer s H E) [] (start N vs) H s1:=by
 have hpl:ps.length<=N.length:=by have:=congrArg List.length S.pre;rw[zzQ]at this;omega
 obtain⟨h1,tk,rfl,hk⟩:=x.done
 have noA:∀b:Addr,b ∉ (zlL CX P w K mg base N qual scope f cd A outer s H E).ex:=λb z=>absurd (show b ∈ ([]:List Addr)from z) (by simp)
 refine⟨⟨e0.mod,S.kind,rfl,rfl,zzL _,λy z c h1 h2=>?_,λy hy=>?_,λy c _ h=>?_,λ_=>hd,Around.frames_deeper e0.frames,.inr ⟨rfl,rfl⟩,λb z=>absurd z (noA b),e0.bs,e0.bsz,λb _ _=>noA b,λb z=>absurd z (noA b),e0.funs,e0.frf⟩,
  rfl,e0.bare,Un.kept hk,⟨_,x.toInCall.ns,λi y v h1 h2 h3=>?_⟩,λy c h=>⟨_,x.cell y c h⟩,e0.hok.fresh (zzL _),λy c h=>?_,λp hp=>absurd (show p ∈ ([]:List (Addr×Obj))from hp) (by simp),e0.hok.kept hk, ?_⟩
 · exact name_of_addr x.apart (PySem.mem_of_lookup h1) (PySem.mem_of_lookup h2)
 · have hy:scope.names.lookup y=some .cell\/scope.names.lookup y=some .free:=hy
   rcases hy with hy|hy
   · exact zkd hy
   · exact absurd rfl (S.nofree _ (PySem.mem_of_lookup hy))
 · exact Nat.le_of_lt (x.above y c (PySem.mem_of_lookup h))
 · have hi:i<vs.length:=by
    unfold start at h2
    by_cases hi:i<vs.length
    · exact hi
    · rw[zyP (by simpa using hi)]at h2
      rw[List.getElem?_replicate]at h2
      split at h2<;>cases h2
   have ha:vs[i]? = some v:=by
    unfold start at h2
    rw[zyN (by simpa using hi),zzG]at h2
    cases e:vs[i]? with
    |none=>rw[e]at h2;cases h2
    |some a=>rw[e]at h2;cases h2;rfl
   obtain⟨u,hu,rv⟩:=r.get ha
   have hp:ps[i]? = some y:=by
    rw[<-S.pre,List.getElem?_take_of_lt (by omega)];exact h1
   have ndP:ps.Nodup:=by rw[<-S.pre];exact S.nd.sublist (List.take_sublist _ _)
   refine⟨u,rv, ?_⟩
   rcases S.par y (zzY hp)with k|k
   · exact .inl ⟨k,zir ndP hp hu k⟩
   · obtain⟨c,e⟩:=zkd (n:=s.heap.objs.size+1) k
     refine .inr ⟨.inl k,c,e, ?_⟩
     have q:=x.cell y c e
     rw[ziC ndP hp hu (by show scope.names.lookup y≠_;rw[k];decide)]at q
     exact q
 · exact e0.hok.fresh (Nat.le_of_lt (x.above y c (PySem.mem_of_lookup h)))
 · unfold start
   show _=N.length
   rw[zzH,zD,List.length_replicate]
   omega
theorem zvh{CX:CXT}{P:Program}{w:World}{K:zC}{mg:Str->Option Value}{base:Heap}{k:Nat}{f:Addr}{name qual:Str}{params:Arguments}{body:List Stmt}{scope:Scope}{dV kV doc pm cdv ct oc:Value}{an od:Option Addr}
 {osl:Array (Option Value)}{N ps:List Str}{sp:Sp}(lk:K.lookup f=some ⟨oc,od,.func (PySem.W.fnOf name qual params body scope dV kV doc pm an cdv ct),osl⟩) (hcd:PySem.W.codeIn K cdv qual=true) (S:FnScope N ps scope)
 (len:∀vs H Q E,sp vs H Q E->vs.length=ps.length)
 (hbody:∀(A:Around) (outer:List Env) (s:Shared) (H:Hp) (vs:List V) (Q:VK) (E:XK),Room k (A.deeper (envOfC qual scope s.heap.objs.size f cdv))->sp vs H Q E->
  ∃t,PSs (zlL CX P w K mg base N qual scope f cdv A outer s H E) body t/\t {nx:=λ_ H'=>Q .non H',rt:=Q} (start N vs) H):
 FnOk P w K mg base CX (k+1) f (PySem.W.fnOf name qual params body scope dV kV doc pm an cdv ct) ps sp:=by
 refine⟨len,λA outer s H args us vs Q E hr e0 hb r hsp=>?_⟩
 have hl:=len _ _ _ _ hsp
 have KX:K.In s.heap:=e0.mod.kin.keeps λb o e=>(e0.bs b o e).1
 have lim:s.heap.NoLimit:=e0.mod.nolimit.keeps λb o e=>(e0.bs b o e).1
 have hkind:∀y ∈ ps.zip us,scope.names.lookup y.1=some .local\/(scope.names.lookup y.1=some .cell/\((cellsFrom (s.heap.objs.size+1) scope.names []).lookup y.1).isSome=true):=λ⟨n,v⟩ hy=>by
  rcases S.par n (List.of_mem_zip hy).1 with q|q
  · exact .inl q
  · exact .inr ⟨q,PySem.W.cellsFrom_some _ _ _ (.inl q)⟩
 refine codeAny_call_function hr.depth (KX _ _ lk) rfl S.co S.gen rfl (PySem.W.codeRec_of KX hcd) (hb _ _ _ _ ?_)
 refine wpAny_newFunctionEnv_cells S.kind hkind λenv he s1 x=>?_
 subst he
 refine⟨lim.keeps x.toInCall.keep,codeAny_func ?_⟩
 obtain⟨t,ht,hq⟩:=hbody A outer s H vs Q E (hr.deeper _) hsp
 have I:Inv (zlL CX P w K mg base N qual scope f cdv A outer s H E) [] (start N vs) H s1:=znJ S hr.hd e0 hl r x
 refine zxM (ht [] s1 (start N vs) H _ I hq) (λfl s' hs=>?_) λe s' hs=>hs
 have fin:∀{σ':St}{H':Hp}{v:V}{u:Value},Inv (zlL CX P w K mg base N qual scope f cdv A outer s H E) [] σ' H' s'->RelV v u->Q v H'->CE outer P w H s Q u s':=
  λ{σ' H' v u} J rv q=>⟨v,H',J.os,J.bare,J.base,J.hok,rv,q⟩
 cases fl with
 |ret u=>
  obtain⟨v,σ',H',J,rv,q⟩:=hs
  exact fin J rv q
 |next=>
  obtain⟨σ',H',J,q⟩:=hs
  exact fin (v:=V.non) (u:=Value.none) J rfl q
 |brk=>
  obtain⟨_,_,_,q⟩:=hs
  exact False.elim q
 |cont=>
  obtain⟨_,_,_,q⟩:=hs
  exact False.elim q
end L2
namespace L2
open PySem PySem.Spec PyProof.Rows
section
variable{X:Cx}{x:Str}{p pos:Pos}{e:Expr}{es:List Expr}{t:TA}{id T:String}{r:List V->Hp->VK->Prop}
def tCB(r:List V->Hp->VK->Prop)(t:TA):TE:=λσ H Q=>t σ H λvs H1=>r vs H1 Q
theorem zkE(hc:zbw X (.builtin id) r)(hg:Gl X x)(hm:X.mg x=none)(hv:bootBuiltins x=some (.builtin id))(ha:PA X (e::es) t)(hn:x≠"__name__":=by decide)(hdb:(x==("__debug__":Str))=false:=by decide)
 (he:starEach (e::es) X.env=(false,eval e X.env)::starEach es X.env:=by rfl) (hpl:(backTo pos (starEach es X.env)).any (·.1)=false:=by rfl):PE X (.Call (.Name x p) (e::es) [] pos) (tCB r t):=by
 intro pins s σ H Q I h
 refine wpAny_Call_Name_kw (W0 I hg hm hv ?_ hn hdb)
 exact PyProof.Rows.callWith_builtin1 (thn (ha pos pins s σ H _ I h) λus s1 ⟨vs,H1,I1,r1,q1⟩=>hc pins s1 σ H1 vs us Q I1 r1 q1) he hpl
theorem znD(hc:zbw X (.type T) r)(hg:Gl X x)(hm:X.mg x=none)(hv:bootBuiltins x=some (.type T))(ha:PA X (e::es) t)(hn:x≠"__name__":=by decide)(hdb:(x==("__debug__":Str))=false:=by decide)
 (he:starEach (e::es) X.env=(false,eval e X.env)::starEach es X.env:=by rfl) (hpl:(backTo pos (starEach es X.env)).any (·.1)=false:=by rfl):PE X (.Call (.Name x p) (e::es) [] pos) (tCB r t):=by
 intro pins s σ H Q I h
 refine wpAny_Call_Name_kw (W0 I hg hm hv ?_ hn hdb)
 exact PyProof.Rows.callWith_type1 (thn (ha pos pins s σ H _ I h) λus s1 ⟨vs,H1,I1,r1,q1⟩=>hc pins s1 σ H1 vs us Q I1 r1 q1) he hpl
end
end L2
namespace L2
open PySem PySem.Spec PyProof.Rows
section
variable{κ:Type}[DecidableEq κ]
def Z4(kvs:List (κ×V))(k:κ):Option V:=(kvs.find? λkv=>decide (kv.1=k)).map (·.2)
def putK(kvs:List (κ×V))(k:κ)(v:V):List (κ×V):=
 if(kvs.any λkv=>decide (kv.1=k))=true then kvs.map (λkv=>if kv.1=k then(kv.1,v)else kv)else kvs++[(k,v)]
theorem zgI{p:κ×V}{r:List (κ×V)}{k:κ}(e:p.1=k):Z4 (p::r) k=some p.2:=by simp[Z4,List.find?_cons,e]
theorem zgn{p:κ×V}{r:List (κ×V)}{k:κ}(e:¬p.1=k):Z4 (p::r) k=Z4 r k:=by simp[Z4,List.find?_cons,e]
theorem zgV(k:κ):∀kvs:List (κ×V),(kvs.any λkv=>decide (kv.1=k))=(Z4 kvs k).isSome
 | []=>rfl
 |p::r=>by
  rw[List.any_cons]
  by_cases e:p.1=k
  · simp only[zgI e,zyM e,Bool.true_or,Option.isSome_some]
  · rw[zgn e,zyE e,Bool.false_or];exact zgV k r
theorem zgc.isSome_eq(r:zgc o u):o.isSome=u.isSome:=by
 cases o with
 |none=>cases u with
  |none=>rfl
  |some _=>exact(show False from r).elim
 |some _=>cases u with
  |none=>exact(show False from r).elim
  |some _=>rfl
theorem KV.val{kvs:List (κ×V)}{vs:List (κ×Value)}(r:KV kvs vs)(k:κ):zgc (Z4 kvs k) (valueAt vs k):=by
 unfold KV at r
 induction r with
 |nil=>exact True.intro
 | @cons p q ps qs h t ih=>
  obtain⟨h1,h2⟩:=h
  by_cases e:p.1=k
  · have e':q.1=k:=h1.symm.trans e
    have b:valueAt (q::qs) k=some q.2:=by simp[valueAt,List.find?_cons,e']
    rw[zgI e,b];exact h2
  · have e':¬q.1=k:=λz=>e (h1.trans z)
    have b:valueAt (q::qs) k=valueAt qs k:=by simp[valueAt,List.find?_cons,e']
    rw[zgn e,b];exact ih
theorem KV.length(r:KV kvs vs):kvs.length=vs.length:=Paired.length r
end
theorem zdi(r:RelV (kV k) u):(wB P w).is k u=true:=by
 cases k with
 |inl i=>obtain⟨t,e⟩:=(show ∃t,u=Value.int i t from r);subst e;exact zkr P w i t
 |inr x=>obtain⟨t,e⟩:=(show ∃t,u=Value.str x t from r);subst e;exact zap P w x t
theorem zvN(e:kO v=some k)(r:RelV v u):(wB P w).is k u=true:=by
 cases v with
 |int i=>cases e;exact zdi (k:=.inl i) r
 |str x=>cases e;exact zdi (k:=.inr x) r
 |bl b=>cases e;rw[show u=Value.bool b from r];exact zqu b
 |_=>cases e
theorem zio:∀{ks:List Key}{vs:List V}{us:List Value},vs.map kO=ks.map some->Vals vs us->ItemsAre (wB P w) ks us
 | [],[],_,_,r=>by cases r;exact .nil
 | [],_::_,_,e,_=>by simp at e
 |_::_,[],_,e,_=>by simp at e
 |k::ks,v::vs,_,e,r=>by
  rw[zyQ,zyQ]at e
  injection e with e1 e2
  cases r with
  |cons h t=>exact .cons (zvN e1 h) (zio e2 t)
abbrev KT(H:Hp):List (List Key×V)->List (List Key×Addr×Value)->Prop:=Paired λp q=>p.1=q.1/\KC H q.2.1 p.1/\RelV p.2 q.2.2
theorem KT.val{H:Hp}{kvs:List (List Key×V)}{xs:List (List Key×Addr×Value)}(r:KT H kvs xs)(k:List Key):zgc (Z4 kvs k) ((atKey xs k).map (·.2)):=by
 induction r with
 |nil=>exact True.intro
 | @cons p q ps qs h t ih=>
  obtain⟨h1,_,h2⟩:=h
  by_cases e:p.1=k
  · have e':q.1=k:=h1.symm.trans e
    have b:atKey (q::qs) k=some q.2:=by simp[atKey,List.find?_cons,e']
    rw[zgI e,b];exact h2
  · have e':¬q.1=k:=λz=>e (h1.trans z)
    have b:atKey (q::qs) k=atKey qs k:=by simp[atKey,List.find?_cons,e']
    rw[zgn e,b];exact ih
theorem KT.repl(r:KT H kvs xs)(k:List Key)(ry:RelV y u):
 KT H (kvs.map λkv=>if kv.1=k then(kv.1,y)else kv) (xs.map (putAt k u)):=by
 induction r with
 |nil=>exact .nil
 | @cons p q ps qs h t ih=>
  rw[zyQ,zyQ]
  refine .cons ?_ ih
  obtain⟨h1,h2,h3⟩:=h
  unfold putAt
  by_cases e:p.1=k
  · rw[if_pos e,if_pos (h1.symm.trans e)];exact⟨h1,h2,ry⟩
  · rw[if_neg e,if_neg (λz=>e (h1.trans z))];exact⟨h1,h2,h3⟩
theorem KT.put(r:KT H kvs xs)(k:List Key)(hb:KC H b k)(ry:RelV y u):
 KT H (putK kvs k y) (storedH xs k b u):=by
 have e:(kvs.any λkv=>decide (kv.1=k))=(atKey xs k).isSome:=by
  rw[zgV,(r.val k).isSome_eq,Option.isSome_map]
 unfold putK storedH
 rw[e]
 by_cases q:(atKey xs k).isSome=true
 · rw[if_pos q,if_pos q];exact r.repl k ry
 · rw[if_neg q,if_neg q];exact Paired.snoc r ⟨rfl,hb,ry⟩
theorem KT.keeps(r:KT H kvs xs)(ht:∀b ys,H b=some (.tup ys)->H' b=some (.tup ys)):KT H' kvs xs:=
 Paired.mapP r λ_ _ z=>⟨z.1,z.2.1.mono λys=>ht _ ys,z.2.2⟩
section
variable{P:Program}{w:World}{H:Hp}{h:Heap}{a:Addr}
theorem zsm(ok:HOk P w H h)(e:Rd H a u):vY P w H h a u:=e.ok ok
theorem zmU(ok:HOk P w H h)(e:Rd H a (.dK kvs)):kvs.length<=sizeLine/\(a==sysModules)=false/\∃vs,KV kvs vs/\h.DictOf (wB P w) a vs:=
 show vY P w H h a (.dK kvs)from zsm ok e
theorem zfU(ok:HOk P w H h)(e:KC H a ks):(tupleKind (wB P w)).is h ks a:=by
 obtain⟨vs,e,ek⟩:=e
 obtain⟨_,its,r,o,h1,h2,n,h3⟩:=(show vY P w H h a (.tup vs)from ok a _ e)
 exact⟨o,its.toArray,n,h1,h2,h3,by simpa using zio ek r⟩
theorem zkB(ok:HOk P w H h)(e:Rd H a (.dT kvs)):kvs.length<=sizeLine/\(a==sysModules)=false/\
 ∃xs,KT H kvs xs/\h.DictOfH (tupleKind (wB P w)) a xs:=by
 obtain⟨z,y,xs,r,o,es,ep,h1,h2,h3,h4,h5⟩:=(show vY P w H h a (.dT kvs)from zsm ok e)
 refine⟨z,y,xs,r,o,es,ep,h1,h2,h3,h4,λx hx=>?_,h5⟩
 have all:∀{l:List (List Key×V)}{m:List (List Key×Addr×Value)},KT H l m->∀x ∈ m,(tupleKind (wB P w)).is h x.1 x.2.1:=by
  intro l m q
  induction q with
  |nil=>intro x hx;exact nomatch hx
  | @cons p q ps qs hq t ih=>
   intro x hx
   rcases zzA.mp hx with e|hx
   · subst e
     exact zfU ok (by rw[<-hq.1];exact hq.2.1)
   · exact ih x hx
 exact all r x hx
theorem zsi(ok:HOk P w H h)(e:H a=some (.dT kvs)):kvs.length<=sizeLine/\(a==sysModules)=false/\
 ∃xs,KT H kvs xs/\h.DictOfH (tupleKind (wB P w)) a xs:=zkB ok (.inl e)
end
def zlc(H:Hp)(a:Addr)(y:V)(r:Option V):Prop:=
 (∃kvs k,Rd H a (.dK kvs)/\y=kV k/\r=Z4 kvs k)\/∃kvs k b,Rd H a (.dT kvs)/\y = .ref b/\KC H b k/\r=Z4 kvs k
theorem zlc.t{H:Hp}{a b:Addr}{kvs:List (List Key×V)}{k:List Key}(e:H a=some (.dT kvs))(eb:KC H b k):zlc H a (.ref b) (Z4 kvs k):=.inr ⟨kvs,k,b,.inl e,rfl,eb,rfl⟩
section
variable{X:Cx}{pins:List (Addr×Obj)}{σ:St}{H:Hp}{s:Shared}{a:Addr}{y v:V}{u r:Value}{o:Option V}{A:Around}{E:Value->Shared->Prop}
theorem Inv.big(I:Inv X pins σ H s):sysModules<s.heap.objs.size:=by
 have h:mainGlobals<s.heap.objs.size:=(I.mod.glob.keeps I.bk).lt
 exact Nat.lt_trans (by decide) h
theorem znS(hu:A.units+1<cLine)(I:Inv X pins σ H s)(g:zlc H a y (some v))(ry:RelV y u)(h:∀w' s',Inv X pins σ H s'->RelV v w'->Q w' s'):
 wpAny (model X.prog X.w) A (getItem (.ref a) u) Q E s:=by
 rcases g with⟨kvs,k,e,ey,l⟩|⟨kvs,k,b,e,ey,eb,l⟩
 · subst ey
   obtain⟨z,hd,vs,rel,dd⟩:=zmU I.hok e
   obtain⟨w',hw,rw'⟩:=zgc.some_of (v:=v) (o:=valueAt vs k) (by rw[l];exact rel.val k)
   exact wpAny_getItem_of (zdi ry) dd.mapOf hw (h w' _ (I.tok _) rw')
 · subst ey
   cases(show u=Value.ref b from ry)
   obtain⟨z,hd,xs,rel,dd⟩:=zkB I.hok e
   obtain⟨w',hw,rw'⟩:=zgc.some_of (v:=v) (o:=(atKey xs k).map (·.2)) (by rw[l];exact rel.val k)
   obtain⟨p,hp,hp2⟩:=zzV.mp hw
   refine wpAny_getItem_heap (tupleKind_room_in1 hu) (zfU I.hok eb) dd hp ?_
   rw[hp2]
   exact h w' _ (I.tok _) rw'
theorem zvW(hu:A.units+1<cLine)(I:Inv X pins σ H s)(g:zlc H a y o)(ry:RelV y u)(h:∀s',Inv X pins σ H s'->Q (.bool o.isSome) s'):
 wpAny (model X.prog X.w) A (compareOp .In u (.ref a)) Q E s:=by
 rcases g with⟨kvs,k,e,ey,l⟩|⟨kvs,k,b,e,ey,eb,l⟩
 · subst ey
   obtain⟨z,hd,vs,rel,dd⟩:=zmU I.hok e
   refine wpAny_in_of (zdi ry) hd dd.mapOf ?_
   rw[<-(rel.val k).isSome_eq,<-l]
   exact h _ (I.tok _)
 · subst ey
   cases(show u=Value.ref b from ry)
   obtain⟨z,hd,xs,rel,dd⟩:=zkB I.hok e
   refine wpAny_in_heap (tupleKind_room_in1 hu) (zfU I.hok eb) hd dd ?_
   have q:=(rel.val k).isSome_eq
   rw[Option.isSome_map]at q
   rw[<-q,<-l]
   exact h _ (I.tok _)
theorem zri(hu:A.units+1<cLine)(I:Inv X pins σ H s)(g:zlc H a y o)(ry:RelV y u)(h:∀s',Inv X pins σ H s'->Q (.bool (!o.isSome)) s'):
 wpAny (model X.prog X.w) A (compareOp .NotIn u (.ref a)) Q E s:=by
 rcases g with⟨kvs,k,e,ey,l⟩|⟨kvs,k,b,e,ey,eb,l⟩
 · subst ey
   obtain⟨z,hd,vs,rel,dd⟩:=zmU I.hok e
   refine wpAny_notIn_of (zdi ry) hd dd.mapOf ?_
   rw[<-(rel.val k).isSome_eq,<-l]
   exact h _ (I.tok _)
 · subst ey
   cases(show u=Value.ref b from ry)
   obtain⟨z,hd,xs,rel,dd⟩:=zkB I.hok e
   refine wpAny_notIn_heap (tupleKind_room_in1 hu) (zfU I.hok eb) hd dd ?_
   have q:=(rel.val k).isSome_eq
   rw[Option.isSome_map]at q
   rw[<-q,<-l]
   exact h _ (I.tok _)
theorem zqU(I:Inv X pins σ H s)(mu:Mut (H a))(hs:Heap.SameBut a s.heap h')(he:∃q,h'.get? a=some q)(new:vY X.prog X.w (upd H a ob) h' a ob):
 Inv X pins σ (upd H a ob) {s with heap:=h',toks:=t'}:=
 I.write (x:=a) (e:=a) mu (.inl rfl) (λb q hb z=>(hs.2 b hb).trans z) he new
theorem zpu(z:kvs.length<=sizeLine)(hd:(a==sysModules)=false)(rel:KV kvs vs)(dd:h'.DictOf (wB P w) a vs):
 vY P w H' h' a (.dK kvs):=⟨z,hd,vs,rel,dd⟩
end
theorem zoh(h:Heap)(hb:sysModules<h.objs.size):vY P w H (h.push {cls:=.type "dict",data:=.dict #[]}) h.objs.size (.dT []):=
 ⟨Nat.zero_le _,beq_eq_false_iff_ne.mpr (Ne.symm (zzO hb)),[],.nil,_,#[],0,zxI _ rfl,⟨rfl,rfl,rfl⟩,rfl,rfl,zyH⟩
def ztV:TE:=λ_ H Q=>∀p,H p=none->Q (.ref p) (upd H p (.dT []))
section
variable{X:Cx}{pos:Pos}
theorem zoG:PE X (.Dict [] [] pos) ztV:=λpins s σ H Q I h=>
 wpAny_Dict_empty ⟨.ref s.heap.objs.size,_,I.laid (a:=s.heap.objs.size) (o:=.dT []) (t':=s.toks) (λ_ _ q=>zxG _ q) (zzL _) (zoh s.heap I.big),rfl,h _ (I.hok.fresh (zzL _))⟩
end
structure M1(X:Cx)(o:Expr)(m:Str)(apos:Pos)(e:Expr)(cpos:Pos):Prop where
 base:attributeBase o m X.env (eval o X.env)=eval o X.env
 few:((backTo cpos (starEach [e] X.env)).all (λx=>!x.1)&&(backToKw cpos (keywordEach [] X.env)).all (λx=>x.1.isSome)
  && decide (([e]:List Expr).length+([]:List Keyword).length+(if([]:List Keyword).isEmpty then 0 else 1)<30))=true
 line:(apos.endLine==cpos.line)=true
 trees:backTo cpos (starEach [e] X.env)=[(false,eval e X.env)]
structure M2(X:Cx)(o:Expr)(m:Str)(apos:Pos)(e f:Expr)(cpos:Pos):Prop where
 base:attributeBase o m X.env (eval o X.env)=eval o X.env
 few:((backTo cpos (starEach [e,f] X.env)).all (λx=>!x.1)&&(backToKw cpos (keywordEach [] X.env)).all (λx=>x.1.isSome)
  && decide (([e,f]:List Expr).length+([]:List Keyword).length+(if([]:List Keyword).isEmpty then 0 else 1)<30))=true
 line:(apos.endLine==cpos.line)=true
 trees:backTo cpos (starEach [e,f] X.env)=[(false,eval e X.env),(false,eval f X.env)]
end L2
namespace HT
open PySem PyProof.Rows
section
variable{prog:Program}{w:World}{A:Around}{E:Value->Shared->Prop}{s:Shared}
theorem zrP(ht:IsTup s.heap t vs.toArray)(hb:IsTup s.heap b ws.toArray)(hv:vs≠[])
 (h1:ws=[]->Q (.ref t) s) (h2:ws≠[]->Q (.ref s.heap.objs.size) {s with heap:=s.heap.push {cls:=.type "tuple",data:=.seq (vs++ws).toArray}})
 (hsz:vs.length+ws.length<=sizeLine):wpAny (model prog w) A (binaryOp .Add (.ref t) (.ref b)) Q E s:=by
 obtain⟨⟨cls,dd,data,sl⟩,ho,hc,n,hd⟩:=id ht
 obtain⟨⟨cls2,dd2,data2,sl2⟩,ho2,hc2,n2,hd2⟩:=id hb
 simp only at hc hd hc2 hd2
 subst hc hd hc2 hd2
 have e:vs.toArray++ws.toArray=(vs++ws).toArray:=by simp
 by_cases hw:ws=[]
 · exact concat_meets ⟨_,ho,rfl⟩ ⟨_,ho2,rfl⟩ noFill_tuple_add seq_tuple_add PySem.F.slot_tuple_add PySem.F.entry_tuple_add (PySem.F.args_tuple_add_2 _ _)
    (tuple_addW1 t b vs.toArray ws.toArray n n2 dd dd2 sl sl2 (by simpa using hv) (by simp[hw])) ⟨ho,ho2,h1 hw⟩
 · refine concat_meets ⟨_,ho,rfl⟩ ⟨_,ho2,rfl⟩ noFill_tuple_add seq_tuple_add PySem.F.slot_tuple_add PySem.F.entry_tuple_add (PySem.F.args_tuple_add_2 _ _)
    (tuple_addW2 t b vs.toArray ws.toArray n n2 dd dd2 sl sl2 (by simpa using hv) (by simpa using hw) (by rw[zzF,zzF];exact hsz)) ⟨ho,ho2, ?_⟩
   rw[e]
   exact h2 hw
def sIx(n d:Nat):Option Int->Nat
 |none=>d
 |some v=>if v<0 then(v+(n:Int)).toNat else min v.toNat n
theorem zkY(n d:Nat):sIx n d none=d:=rfl
theorem zfC(n d k:Nat):sIx n d (some (k:Int))=min k n:=by
 show(if(k:Int)<0 then((k:Int)+(n:Int)).toNat else min (k:Int).toNat n)=min k n
 rw[if_neg (by omega),zyG]
theorem zur(n d:Nat)(hd:d<=n)(o:Option Int):sIx n d o<=n:=by
 cases o with
 |none=>exact hd
 |some v=>
  show(if v<0 then(v+(n:Int)).toNat else min v.toNat n)<=n
  by_cases hv:v<0
  · rw[if_pos hv];omega
  · rw[if_neg hv];exact Nat.min_le_right _ _
theorem zmp(v:Int)(n d:Nat):(if v<0 then max (v+(n:Int)) 0 else min v (n:Int))=((sIx n d (some v):Nat):Int):=by
 show(if v<0 then max (v+(n:Int)) 0 else min v (n:Int))=(((if v<0 then(v+(n:Int)).toNat else min v.toNat n):Nat):Int)
 by_cases hv:v<0
 · simp only[if_pos hv];omega
 · simp only[if_neg hv];omega
theorem zlx(lo hi:Option Int)(n:Nat):Builtin.Slice.sliceAdjust lo hi 1 (n:Int)=(((sIx n 0 lo:Nat):Int),((sIx n n hi:Nat):Int)):=by
 have h1:¬((1:Int)<0):=by omega
 unfold Builtin.Slice.sliceAdjust
 simp only[h1,if_false]
 refine Prod.ext ?_ ?_
 · cases lo with
   |none=>rfl
   |some v=>exact zmp v n 0
 · cases hi with
   |none=>rfl
   |some v=>exact zmp v n n
theorem zlW(i j:Nat):Builtin.Slice.slicePlaces (i:Int) (j:Int) 1=j-i:=by
 unfold Builtin.Slice.slicePlaces
 have h1:(1:Int) > 0:=by omega
 simp only[h1,if_true,Int.ediv_one]
 split<;>omega
theorem zgP(p:IsPart v o)(h:Q o s):wpAny (model prog w) A (Builtin.Slice.slicePartIndex v) Q E s:=by
 cases p with
 |none=>exact slicePart_none h
 |int i t=>exact slicePart_int h
theorem zdV{sl:Addr}{vl vu:Value}{lo hi:Option Int}{n:Nat}{Q:Int×Int×Nat->Shared->Prop}(hs:s.heap.IsSliceOf sl vl vu .none)(pl:IsPart vl lo)(pu:IsPart vu hi)
 (h:Q (((sIx n 0 lo:Nat):Int),1,sIx n n hi-sIx n 0 lo) s):wpAny (model prog w) A (Builtin.Slice.sliceApplied (.ref sl) (pure (n:Int))) Q E s:=by
 obtain⟨os,hos,hcs,hds⟩:=id hs
 unfold Builtin.Slice.sliceApplied Builtin.Slice.sliceFields
 refine zxE (zxE (wpAny_field hos hds (x:=vl) rfl (zxE (wpAny_field hos hds (x:=vu) rfl (zxE (wpAny_field hos hds (x:=.none) rfl (zxF ?_)))))))
 refine zxE (slicePart_none ?_)
 show wpAny _ _ (if((1:Int)==0)=true then _ else _) _ _ s
 rw[if_neg (by decide)]
 refine zxE (zgP pl (zxE (zgP pu (zxE (zxF ?_)))))
 show wpAny _ _ (match Builtin.Slice.sliceAdjust lo hi 1 (n:Int)with|(lo,hi)=>pure (lo,(1:Int),Builtin.Slice.slicePlaces lo hi 1)) _ _ s
 rw[zlx lo hi n]
 show wpAny _ _ (pure (((sIx n 0 lo:Nat):Int),(1:Int),Builtin.Slice.slicePlaces ((sIx n 0 lo:Nat):Int) ((sIx n n hi:Nat):Int) 1)) _ _ s
 rw[zlW]
 exact zxF h
theorem zpC(xs:Array Value)(i k:Nat):((List.range k).filterMap λ(m:Nat)=>xs[((i:Int)+(m:Int)*1).toNat]?).toArray=((xs.toList.drop i).take k).toArray:=by
 have e:(λ(m:Nat)=>xs[((i:Int)+(m:Int)*1).toNat]?)=λm=>xs[i+m]? := by
  funext m
  have:((i:Int)+(m:Int)*1).toNat=i+m:=by omega
  rw[this]
 rw[e]
 have:=pick_run xs i k
 rw[List.filterMap_map]at this
 have e2:((λx=>xs[x]?)∘λx=>i+x)=λm=>xs[i+m]? := rfl
 rw[e2]at this
 rw[this]
theorem zdm{t sl:Addr}{items:Array Value}{vl vu:Value}{lo hi:Option Int}{Q:Value->Shared->Prop}(ht:IsTup s.heap t items)(hs:s.heap.IsSliceOf sl vl vu .none)(pl:IsPart vl lo)(pu:IsPart vu hi)
 (hw:¬(sIx items.size 0 lo=0/\sIx items.size items.size hi=items.size))
 (h:Q (.ref s.heap.objs.size) {s with heap:=s.heap.push {cls:=.type "tuple",data:=.seq ((items.toList.drop (sIx items.size 0 lo)).take (sIx items.size items.size hi-sIx items.size 0 lo)).toArray}})
 (hsz:items.size<=sizeLine):wpAny (model prog w) A (getItem (.ref t) (.ref sl)) Q E s:=by
 have htake:sizeOk (.seq ((items.toList.drop (sIx items.size 0 lo)).take (sIx items.size items.size hi-sIx items.size 0 lo)).toArray):=by
  show((items.toList.drop (sIx items.size 0 lo)).take (sIx items.size items.size hi-sIx items.size 0 lo)).toArray.size<=sizeLine
  rw[zzF,zzQ,List.length_drop,zyR]
  omega
 have hj:sIx items.size items.size hi<=items.size:=zur _ _ (zzL _) hi
 obtain⟨os,hos,hcs,hds⟩:=id hs
 have hTs:s.TypeIs (.ref sl) "slice":=⟨os,hos,hcs⟩
 unfold getItem
 try with_reducible refine zxK ?_
 first|refine zxE (zxF ?_)|skip
 refine zxE (wpAny_sequenceKey ht.typeIs (by decide) ?_)
 refine zxE (wpAny_callSpecial?_slot (name:=Str.ofString "__getitem__") ht.typeIs PyProof.Rows.slot_tuple_getitem
  (wpAny_call_entry PyProof.Rows.slot_tuple_getitem ht.typeIs entry_tuple_getitem ?_ (args_tuple_getitem _ _)))
 show wpAny _ _ (Builtin.Tuple.tupleItemsOf (.ref t) >>= _) _ _ s
 refine zxE (tupleItemsOf_ ht ?_)
 refine zxE (wpAny_typeOf hTs ?_)
 rw[if_pos (by decide)]
 refine zxE (zdV hs pl pu ?_)
 have hno:¬((((sIx items.size 0 lo:Nat):Int)==0&&(1:Int)==1&&(sIx items.size items.size hi-sIx items.size 0 lo)==items.size)=true):=by
  intro q
  rw[zyA,zyA]at q
  have q1:((sIx items.size 0 lo:Nat):Int)=0:=eq_of_beq q.1.1
  have q2:sIx items.size items.size hi-sIx items.size 0 lo=items.size:=eq_of_beq q.2
  exact hw ⟨by omega,by omega⟩
 show wpAny _ _ (if(((sIx items.size 0 lo:Nat):Int)==0&&(1:Int)==1&&(sIx items.size items.size hi-sIx items.size 0 lo)==items.size)=true then _ else _) _ _ s
 rw[if_neg hno,zpC]
 first
  |exact zxE (m:=Builtin.Tuple.tupleExact _) (zxJ (zxF ⟨_,rfl,zxF h⟩) htake)
  |exact zxE (m:=Builtin.Tuple.tupleExact _) (zxJ (zxE (zxF (zxF ⟨_,rfl,zxF h⟩))) htake)
  |exact zxE (zxE (m:=Builtin.Tuple.tupleExact _) (zxJ (zxF (zxF ⟨_,rfl,zxF h⟩)) htake))
  |exact zxE (zxE (m:=Builtin.Tuple.tupleExact _) (zxJ (zxF ⟨_,rfl,zxF h⟩) htake))
end
end HT
namespace L2
open PySem PySem.Spec PyProof.Rows
abbrev TO:=St->Hp->(Option Int->Hp->Prop)->Prop
def PO(X:Cx)(e:Option Expr)(t:TO):Prop:=
 ∀(pins:List (Addr×Obj)) (s:Shared) (σ:St) (H:Hp) (Q:Option Int->Hp->Prop),Inv X pins σ H s->t σ H Q->
  wpAny (model X.prog X.w) X.A (evalPart e X.env) (λu s'=>∃o H',Inv X pins σ H' s'/\IsPart u o/\Q o H') X.xe s
def zrF:TO:=λ_ H Q=>Q none H
def zvC(t:TE):TO:=λσ H Q=>t σ H λx H1=>∃i,x = .int i/\Q (some i) H1
theorem intsAre_of:∀{us:List Value},Vals (ns.map V.int) us->IntsAre us ns:=by
 induction ns with
 |nil=>intro us r;rw[List.map_nil]at r;cases r;exact .nil
 |cons n ns ih=>
  intro us r
  rw[zyQ]at r
  cases r with
  |cons r1 r2=>
   obtain⟨t,e⟩:=r1
   subst e
   exact .cons n t (ih r2)
section
variable{X:Cx}{e:Expr}{te:TE}{lo hi:Option Expr}{tl th:TO}{pos p2:Pos}
theorem zrE:PO X none zrF:=by
 intro pins s σ H Q I h
 rw[evalPart_none]
 exact zxF ⟨none,H,I,.none,h⟩
theorem zrK(h:PE X e te):PO X (some e) (zvC te):=by
 intro pins s σ H Q I hw
 rw[evalPart_some]
 refine thn (h pins s σ H _ I hw) λu s1 ⟨x,H1,I1,r1,q1⟩=>?_
 obtain⟨i,rfl,q⟩:=q1
 obtain⟨t,rfl⟩:=r1
 exact⟨some i,H1,I1,.int i t,q⟩
def SlR(X:Cx)(r:V->Option Int->Option Int->Hp->VK->Prop):Prop:=
 ∀(pins:List (Addr×Obj)) (s:Shared) (σ:St) (H:Hp) (x:V) (v vl vu:Value) (lo hi:Option Int) (sl:Addr) (Q:VK),Inv X pins σ H s->RelV x v->s.heap.IsSliceOf sl vl vu .none->IsPart vl lo->IsPart vu hi->r x lo hi H Q->
  ∃T id,typeLookup (.type T) "__getitem__"=pure (some (.builtin id))/\s.TypeIs v T/\wpAny (model X.prog X.w) X.A (getItem v (.ref sl)) (EP X pins σ Q) X.xe s
def tSl(r:V->Option Int->Option Int->Hp->VK->Prop)(te:TE)(tl th:TO):TE:=λσ H Q=>te σ H λx H1=>tl σ H1 λl H2=>th σ H2 λu H3=>r x l u H3 Q
theorem zks(hr:SlR X r)(he:PE X e te)(hl:PO X lo tl)(hu:PO X hi th):PE X (.Subscript e (.Slice lo hi none p2) pos) (tSl r te tl th):=by
 intro pins s σ H Q I h
 refine Subscript_ (thn (he pins s σ H _ I h) λv s1 ⟨x,H1,I1,r1,q1⟩=>?_)
 refine wpAny_Slice (thn (hl pins s1 σ H1 _ I1 q1) λvl s2 ⟨l,H2,I2,pl,q2⟩=>thn (hu pins s2 σ H2 _ I2 q2) λvu s3 ⟨u,H3,I3,pu,q3⟩=>?_)
 rw[evalPart_none]
 refine zxF ?_
 have I4:Inv X pins σ H3 {s3 with heap:=s3.heap.push {cls:=.type "slice",data:=.fields #[vl,vu,.none]}}:=I3.kept (t':=s3.toks) λb ob q=>zxG _ q
 obtain⟨T,id,hT,ht,hg⟩:=hr pins {s3 with heap:=s3.heap.push {cls:=.type "slice",data:=.fields #[vl,vu,.none]}} σ H3 x v vl vu l u s3.heap.objs.size Q I4 r1 (Heap.IsSliceOf.new ..) pl pu q3
 show wpAny (model X.prog X.w) X.A (subscriptTail e (.Slice lo hi none p2) v (.ref s3.heap.objs.size)) (EP X pins σ Q) X.xe {s3 with heap:=s3.heap.push {cls:=.type "slice",data:=.fields #[vl,vu,.none]}}
 exact tail_any (ops:=[.ref s3.heap.objs.size,v]) ht hT hg (by with_unfolding_all rfl)
def zkN(xs:List V)(lo hi:Option Int):List V:=(xs.drop (HT.sIx xs.length 0 lo)).take (HT.sIx xs.length xs.length hi-HT.sIx xs.length 0 lo)
theorem zeY(xs:List V)(lo hi:Option Int):(zkN xs lo hi).length<=xs.length:=by
 unfold zkN
 rw[zzQ,List.length_drop]
 omega
def zwq(K:zC):V->Option Int->Option Int->Hp->VK->Prop:=λx lo hi H Q=>∃a xs,x = .ref a/\SqT K H a xs/\
 ¬(HT.sIx xs.length 0 lo=0/\HT.sIx xs.length xs.length hi=xs.length)/\∀p,H p=none->Q (.ref p) (upd H p (.tup (zkN xs lo hi)))
theorem zux:SlR X (zwq X.K):=by
 intro pins s σ H x v vl vu lo hi sl Q I rx hs pl pu h
 obtain⟨a,xs,rfl,hx,hw,q⟩:=h
 cases rx
 obtain⟨its,r,ht,hz⟩:=I.tuple hx
 have hlen:its.toArray.size=xs.length:=by rw[zzF];exact r.length.symm
 refine⟨"tuple",_,PyProof.Rows.slot_tuple_getitem.lookup,ht.typeIs, ?_⟩
 refine HT.zdm ht hs pl pu (by rw[hlen];exact hw) ?_ (by rw[hlen];exact hz)
 rw[hlen]
 refine⟨.ref s.heap.objs.size,_,I.laid (t':=s.toks) (o:=.tup (zkN xs lo hi)) (λb ob q=>zxG _ q) (zzL _) ?_,rfl,q _ (I.hok.fresh (zzL _))⟩
 exact⟨zzM (zeY xs lo hi) hz,_,(r.drop (HT.sIx xs.length 0 lo)).take (HT.sIx xs.length xs.length hi-HT.sIx xs.length 0 lo),IsTup.new _ _⟩
def zvH(K:zC):R2:=λx y H Q=>∃a b xs ys,x = .ref a/\y = .ref b/\SqT K H a xs/\SqT K H b ys/\xs≠[]/\xs.length+ys.length<=sizeLine/\
 (ys=[]->Q (.ref a) H)/\(ys≠[]->∀p,H p=none->Q (.ref p) (upd H p (.tup (xs++ys))))
theorem Vals.nil_iff(r:Vals xs us):us=[] ↔ xs=[]:=by
 cases r with
 |nil=>simp
 |cons _ _=>simp
theorem zqZ:OpR X (binaryOp .Add) (zvH X.K):=by
 intro pins s σ H x y v u Q I rx ry h
 obtain⟨a,b,xs,ys,rfl,rfl,ha,hb,hx,hz,q1,q2⟩:=h
 cases rx
 cases ry
 obtain⟨its,r1,p1,_⟩:=I.tuple ha
 obtain⟨its2,r2,p2,_⟩:=I.tuple hb
 refine HT.zrP p1 p2 (λz=>hx (r1.nil_iff.mp z)) (λz=>⟨.ref a,H,I,rfl,q1 (r2.nil_iff.mp z)⟩) (λz=>?_) (by rw[<-r1.length,<-r2.length];exact hz)
 refine⟨.ref s.heap.objs.size,_,I.laid (t':=s.toks) (o:=.tup (xs++ys)) (λb ob q=>zxG _ q) (zzL _) ?_,rfl,q2 (λw=>z (r2.nil_iff.mpr w)) _ (I.hok.fresh (zzL _))⟩
 exact⟨by rw[zzH];exact hz,_,r1.append r2,IsTup.new _ _⟩
end
end L2
namespace L2
open PySem PySem.Spec PyProof.Rows
def ixN(n:Nat)(i:Int):Option Nat:=if 0<=i then(if i<n then some i.toNat else none)else if -(n:Int)<=i then some (i+n).toNat else none
def atI{α:Type}(xs:List α)(i:Int):Option α:=(ixN xs.length i).bind λj=>xs[j]?
theorem zna(h:ixN n i=some j):seqIndex? i n=some j/\j<n /\ -(n:Int)<=i/\i<n:=by
 unfold ixN at h
 by_cases h0:0<=i
 · rw[if_pos h0]at h
   by_cases h1:i<n
   · rw[if_pos h1]at h
     have e:i.toNat=j:=zzX h
     exact⟨by rw[seqIndex_of h0 h1,e],by omega,by omega,h1⟩
   · rw[if_neg h1]at h;cases h
 · rw[if_neg h0]at h
   by_cases h1 : -(n:Int)<=i
   · rw[if_pos h1]at h
     have e:(i+n).toNat=j:=zzX h
     exact⟨by rw[seqIndex_neg (by omega) h1,e],by omega,h1,by omega⟩
   · rw[if_neg h1]at h;cases h
theorem ziX(h:atI xs i=some v):∃j,seqIndex? i xs.length=some j/\xs[j]? = some v/\j<xs.length /\ -(xs.length:Int)<=i/\i<xs.length:=by
 unfold atI at h
 cases e:ixN xs.length i with
 |none=>rw[e]at h;cases h
 |some j=>
  rw[e]at h
  obtain⟨h1,h2,h3,h4⟩:=zna e
  exact⟨j,h1,h,h2,h3,h4⟩
theorem Xj{α:Type}{xs:List α}{j:Nat}{v:α}(h:xs[j]? = some v):atI xs (j:Int)=some v:=by
 have hj:j<xs.length:=(zzE.mp h).1
 have e:ixN xs.length (j:Int)=some j:=by
  unfold ixN
  rw[if_pos (by omega),if_pos (by omega)];simp
 unfold atI;rw[e];exact h
def Wb(b:Expr):Prop:=∀o i,subscripted b false o i=operate [o,i] (getItem o i)
def IxR(X:Cx)(r:R2):Prop:=
 ∀(value slice:Expr) (pins:List (Addr×Obj)) (s:Shared) (σ:St) (H:Hp) (x y:V) (v u:Value) (Q:VK),Inv X pins σ H s->RelV x v->RelV y u->r x y H Q->
  subscripted slice false v u=operate [v,u] (getItem v u)->wpAny (model X.prog X.w) X.A (subscriptTail value slice v u) (EP X pins σ Q) X.xe s
def MtR(X:Cx)(id:String)(r:V->List V->Hp->VK->Prop):Prop:=
 ∀(pins:List (Addr×Obj)) (s:Shared) (σ:St) (H:Hp) (x:V) (xs:List V) (v:Value) (us:List Value) (Q:VK),Inv X pins σ H s->RelV x v->Vals xs us->r x xs H Q->
  wpAny (model X.prog X.w) X.A (call (.builtin id) (v::us)) (EP X pins σ Q) X.xe s
section
variable{X:Cx}{a b:Expr}{ta tb:TE}{pos:Pos}
theorem zik(hr:IxR X r)(ha:PE X a ta)(hb:PE X b tb)(hs:Wb b):PE X (.Subscript a b pos) (tOp r ta tb):=by
 intro pins s σ H Q I h
 exact Subscript_ (zud ha hb I h λv u s2 x y H2 I2 rx ry q=>hr a b pins s2 σ H2 x y v u Q I2 rx ry q (hs _ _))
def zwI(K:zC):R2:=λx y H Q=>∃p xs i v,x = .ref p/\y = .int i/\SqL K H p xs/\atI xs i=some v/\Q v H
def zwa(K:zC):R2:=λx y H Q=>∃p xs i v,x = .ref p/\y = .int i/\SqT K H p xs/\atI xs i=some v/\Q v H
def zwu:R2:=λx y H Q=>∃z i c,x = .str z/\y = .int i/\z.length<=sizeLine/\atI z.cps.toList i=some c/\Q (.str ⟨#[c]⟩) H
theorem zdq:IxR X (zwI X.K):=by
 intro value slice pins s σ H x y v u Q I rx ry h hs
 obtain⟨p,xs,i,z,rfl,rfl,hq,he,q⟩:=h
 cases rx
 obtain⟨t,rfl⟩:=ry
 obtain⟨its,r,pl,hz⟩:=I.list hq
 obtain⟨j,h1,h2,h3,h4,h5⟩:=ziX he
 obtain⟨w,ew,rw'⟩:=r.get h2
 have hl:=r.length
 have hn:=zcm
 have fin:EP X pins σ Q w s:=⟨z,H,I,rw',q⟩
 by_cases h0:0<=i
 · have hj:i.toNat=j:=by
    rw[seqIndex_of h0 h5]at h1
    exact zzX h1
   exact item_listR pl.isList h0 (by omega) (by rw[hj];simpa using ew) fin hs
 · have hj:(i+(its.toArray.size:Int)).toNat=j:=by
    rw[seqIndex_neg (by omega) h4]at h1
    rw[zzF,<-hl]
    exact zzX h1
   exact subscriptTail_builtinR (x:=w) pl.isList.typeIs slot_list_getitem.lookup
    (wpAny_getItem_list_neg (Q:=λr s'=>r=w/\EP X pins σ Q r s') pl.isList (by omega) (by rw[zzF]<;>omega) (by omega) (by rw[hj];simpa using ew) ⟨rfl,fin⟩) hs
theorem zqd:IxR X (zwa X.K):=by
 intro value slice pins s σ H x y v u Q I rx ry h hs
 obtain⟨p,xs,i,z,rfl,rfl,hq,he,q⟩:=h
 cases rx
 obtain⟨t,rfl⟩:=ry
 obtain⟨its,r,pl,hz⟩:=I.tuple hq
 obtain⟨j,h1,h2,h3,h4,h5⟩:=ziX he
 obtain⟨w,ew,rw'⟩:=r.get h2
 have hl:=r.length
 have hn:=zcm
 have fin:EP X pins σ Q w s:=⟨z,H,I,rw',q⟩
 exact subscriptTail_builtinR (x:=w) pl.typeIs slot_tuple_getitem.lookup
  (getItem_tuple (j:=j) (Q:=λr s'=>r=w/\EP X pins σ Q r s') pl (by omega) (by omega) (by rw[zzF,<-hl];exact h1) (by simpa using ew) ⟨rfl,fin⟩) hs
theorem zsQ:IxR X zwu:=by
 intro value slice pins s σ H x y v u Q I rx ry h hs
 obtain⟨z,i,c,rfl,rfl,hz,he,q⟩:=h
 obtain⟨t,rfl⟩:=rx
 obtain⟨t',rfl⟩:=ry
 obtain⟨j,h1,h2,h3,h4,h5⟩:=ziX he
 have hl:z.cps.toList.length=z.length:=by simp[Str.length]
 rw[hl]at h1 h4 h5
 have hn:=zcm
 exact tail_any (typeIs_str s z t) slot_str_getitem.lookup (getItem_str (c:=c) (by
  have e1:decide (i < -(2 ^ 63:Int))=false:=zyE (by omega)
  have e2:decide (i ≥ 2 ^ 63)=false:=zyE (by omega)
  rw[e1,e2,Bool.or_false]) (by rw[h1];simpa using h2) ⟨.str ⟨#[c]⟩,H,I.tok _,⟨_,rfl⟩,q⟩) hs
theorem zlR(its:List Value)(n j:Nat)(u:Value):Obj.mapSeq (·.setIfInBounds j u) {cls:=.type "list",data:=.seq its.toArray n}={cls:=.type "list",data:=.seq (its.set j u).toArray n}:=by
 simp[Obj.mapSeq]
theorem Inv.lst(I:Inv X pins σ H s)(h:H p=some (.lst xs)):
 ∃(its:List Value) (n:Nat),Vals xs its/\s.heap.get? p=some {cls:=.type "list",data:=.seq its.toArray n}/\xs.length<=sizeLine:=by
 obtain⟨z,its,n,r,e⟩:=I.hok p _ h
 exact⟨its,n,r,e,z⟩
theorem Inv.lstUpd{pins:List (Addr×Obj)}{σ:St}{H:Hp}{s:Shared}{p:Addr}{xs ys:List V}{its its':List Value}{n n':Nat}{f:Obj->Obj}(I:Inv X pins σ H s)(h:H p=some (.lst xs))
 (ho:s.heap.get? p=some {cls:=.type "list",data:=.seq its.toArray n}) (hf:f {cls:=.type "list",data:=.seq its.toArray n}={cls:=.type "list",data:=.seq its'.toArray n'}) (r:Vals ys its') (hz:ys.length<=sizeLine) (t:Nat):
 Inv X pins σ (upd H p (.lst ys)) {s with heap:=s.heap.update p f,toks:=t}:=by
 have e:(s.heap.update p f).get? p=some {cls:=.type "list",data:=.seq its'.toArray n'}:=by
  rw[Heap.get?_update_self f ho (by rw[hf]<;>rfl),hf]
 refine I.write (x:=p) (e:=p) (by rw[h];trivial) (.inl rfl) (λb u hb q=>(Heap.get?_update_other _ _ (Ne.symm hb)).trans q) ⟨_,e⟩ ?_
 exact⟨hz,its',n',r,e⟩
def zuK:V->V->V->Hp->(Hp->Prop)->Prop:=λo i v H Q=>∃p xs k j,o = .ref p/\i = .int k/\H p=some (.lst xs)/\ixN xs.length k=some j/\Q (upd H p (.lst (xs.set j v)))
theorem set_list:zuN X zuK:=by
 intro pins s σ H o i v ov iv u Q I ro ri rv h
 obtain⟨p,xs,k,j,rfl,rfl,hp,hj,q⟩:=h
 cases ro
 obtain⟨t,rfl⟩:=ri
 obtain⟨its,n,r,ho,hz⟩:=I.lst hp
 obtain⟨h1,h2,h3,h4⟩:=zna hj
 have hl:=r.length
 have hn:=zcm
 have I':Inv X pins σ (upd H p (.lst (xs.set j v))) {s with heap:=s.heap.update p (Obj.mapSeq (·.setIfInBounds j u))}:=
  I.lstUpd hp ho (zlR its n j u) (r.set rv j) (by rw[zzS];exact hz) s.toks
 by_cases h0:0<=k
 · have hk:k.toNat=j:=by
    rw[seqIndex_of h0 h4]at h1
    exact zzX h1
   exact PySem.W.ki_setAt ho h0 (by omega) (by rw[zzF,<-hl];exact h4) (by rw[hk];exact⟨_,I',q⟩)
 · have hk:(k+(its.toArray.size:Int)).toNat=j:=by
    rw[seqIndex_neg (by omega) h3]at h1
    rw[zzF,<-hl]
    exact zzX h1
   exact PySem.W.ki_setBack ho (by omega) (by rw[zzF,<-hl];exact h3) (by omega) (by rw[hk];exact⟨_,I',q⟩)
theorem zjO(lo hi:Option Int)(n:Nat):(sliceBounds lo hi none n).1=((HT.sIx n 0 lo:Nat):Int)/\(sliceBounds lo hi none n).2.1=((HT.sIx n n hi:Nat):Int)/\(sliceBounds lo hi none n).2.2=1:=by
 refine⟨?_, ?_,rfl⟩
 · cases lo with
   |none=>simp[sliceBounds,HT.sIx]
   |some i=>
    simp only[sliceBounds,HT.sIx,Option.getD_none,show(1:Int) > 0 by decide,if_true]
    by_cases h:i<0
    · simp only[h,if_true]<;>omega
    · simp only[h,if_false]<;>omega
 · cases hi with
   |none=>simp[sliceBounds,HT.sIx]
   |some i=>
    simp only[sliceBounds,HT.sIx,Option.getD_none,show(1:Int) > 0 by decide,if_true]
    by_cases h:i<0
    · simp only[h,if_true]<;>omega
    · simp only[h,if_false]<;>omega
theorem zhG(its:List Value)(lo hi:Option Int):slicePick its.toArray lo hi none=((its.drop (HT.sIx its.length 0 lo)).take (HT.sIx its.length its.length hi-HT.sIx its.length 0 lo)).toArray:=by
 obtain⟨h1,h2,h3⟩:=zjO lo hi its.toArray.size
 unfold slicePick
 rw[h1,h2,h3]
 simp only[sliceRange_one,pick_run,zzF]<;>rfl
def zwB(K:zC):V->Option Int->Option Int->Hp->VK->Prop:=λx lo hi H Q=>∃a xs,x = .ref a/\SqL K H a xs/\∀p,H p=none->Q (.ref p) (upd H p (.lst (zkN xs lo hi)))
theorem zrW:SlR X (zwB X.K):=by
 intro pins s σ H x v vl vu lo hi sl Q I rx hs pl pu h
 obtain⟨a,xs,rfl,hx,q⟩:=h
 cases rx
 obtain⟨its,r,ht,hz⟩:=I.list hx
 have hlen:=r.length
 refine⟨"list",_,slot_list_getitem.lookup,ht.isList.typeIs, ?_⟩
 refine wpAny_getItem_list_slice ht.isList hs pl pu .none (by simp) ?_ (by rw[zzF]<;>omega)
 rw[zhG,<-hlen]
 refine⟨.ref s.heap.objs.size,_,I.laid (t':=s.toks) (o:=.lst (zkN xs lo hi)) (λb ob q=>zxG _ q) (zzL _) ?_,rfl,q _ (I.hok.fresh (zzL _))⟩
 exact⟨zzM (zeY xs lo hi) hz,_,0,(r.drop (HT.sIx xs.length 0 lo)).take (HT.sIx xs.length xs.length hi-HT.sIx xs.length 0 lo),zxI _ rfl⟩
theorem Va:zbw X (.builtin "len") (λxs H Q=>∃p ys,xs=[.ref p]/\(SqL X.K H p ys\/SqT X.K H p ys)/\Q (.int ys.length) H):=by
 intro pins s σ H xs us Q I r h
 obtain⟨p,ys,rfl,hq,q⟩:=h
 obtain⟨u,rfl,rx⟩:=vals1 r
 cases rx
 have hn:=zcm
 rcases hq with hq|hq
 · obtain⟨its,r',pl,hz⟩:=I.list hq
   have hlen:=r'.length
   exact Calls.call_len_list pl.isList (by simp only[zzF]<;>omega) ⟨.int ys.length,H,I.tok _,⟨s.toks+1,by rw[zzF,hlen]⟩,q⟩
 · obtain⟨its,r',pl,hz⟩:=I.tuple hq
   have hlen:=r'.length
   exact len_tuple pl (by simp only[zzF]<;>omega) ⟨.int ys.length,H,I.tok _,⟨s.toks+1,by rw[zzF,hlen]⟩,q⟩
theorem zjd:zbw X (.builtin "len") (λxs H Q=>∃z,xs=[.str z]/\z.length<=sizeLine/\Q (.int z.length) H):=by
 intro pins s σ H xs us Q I r h
 obtain⟨z,rfl,hz,q⟩:=h
 obtain⟨u,rfl,t,rfl⟩:=vals1 r
 have hn:=zcm
 exact len_str (by omega) ⟨.int z.length,H,I.tok _,⟨_,rfl⟩,q⟩
theorem zcL:zbw X (.type "list") (λxs H Q=>∃p ys,xs=[.ref p]/\(SqL X.K H p ys\/SqT X.K H p ys)/\∀l,H l=none->Q (.ref l) (upd H l (.lst ys))):=by
 intro pins s σ H xs us Q I r h
 obtain⟨p,ys,rfl,hq,q⟩:=h
 obtain⟨u,rfl,rx⟩:=vals1 r
 cases rx
 have fin:∀(its:List Value),Vals ys its->ys.length<=sizeLine->∀(h':Heap) (c':Nat),(∀b o',s.heap.get? b=some o'->h'.get? b=some o')->
  h'.get? s.heap.objs.size=some {cls:=.type "list",dict:=none,data:=.seq its.toArray c',slots:=#[]}->EP X pins σ Q (.ref s.heap.objs.size) {s with heap:=h'}:=λits r' hz h' c' kp e=>
  ⟨.ref s.heap.objs.size,_,I.laid (t':=s.toks) kp (zzL _) (show vY X.prog X.w _ h' _ (.lst ys)from⟨hz,its,c',r',e⟩),rfl,q _ (I.hok.fresh (zzL _))⟩
 rcases hq with hq|hq
 · obtain⟨its,r',pl,hz⟩:=I.list hq
   have hlen:=r'.length
   obtain⟨o,ho,hc,n,hd⟩:=pl.isList
   exact call_list_seq p (.inl rfl) ho hc hd (λh' c' kp e=>fin its r' hz h' c' kp e) (by simp only[zzF]<;>omega)
 · obtain⟨its,r',pl,hz⟩:=I.tuple hq
   have hlen:=r'.length
   obtain⟨o,ho,hc,n,hd⟩:=pl
   exact call_list_seq p (.inr rfl) ho hc hd (λh' c' kp e=>fin its r' hz h' c' kp e) (by simp only[zzF]<;>omega)
theorem zbz:zbw X (.type "tuple") (λxs H Q=>∃p ys,xs=[.ref p]/\((SqL X.K H p ys/\∀l,H l=none->Q (.ref l) (upd H l (.tup ys)))\/(SqT X.K H p ys/\Q (.ref p) H))):=by
 intro pins s σ H xs us Q I r h
 obtain⟨p,ys,rfl,h⟩:=h
 obtain⟨u,rfl,rx⟩:=vals1 r
 cases rx
 rcases h with⟨hq,q⟩|⟨hq,q⟩
 · obtain⟨its,r',pl,hz⟩:=I.list hq
   have hlen:=r'.length
   refine call_tuple_list pl.isList (λh' kp=>?_) (by simp only[zzF]<;>omega)
   have I1:Inv X pins σ H {s with heap:=h'}:=I.kept (t':=s.toks) kp
   have I2:Inv X pins σ (upd H h'.objs.size (.tup ys)) {s with heap:=h'.push {cls:=.type "tuple",data:=.seq its.toArray}}:=
    I1.laid (t':=s.toks) (λb o e=>zxG _ e) (zzL _) (show vY X.prog X.w _ _ _ (.tup ys)from⟨hz,its,r',IsTup.new _ _⟩)
   exact⟨.ref h'.objs.size,_,I2,rfl,q _ (I1.hok.fresh (zzL _))⟩
 · obtain⟨its,r',pl,hz⟩:=I.tuple hq
   exact call_tuple_same pl ⟨.ref p,H,I,rfl,q⟩
def tyV(K:zC)(T:String)(x:V)(H:Hp):Prop:=match x with
 | .str _=>T="str"
 | .int _=>T="int"
 | .ref p=>(T="list"/\∃xs,SqL K H p xs)\/(T="tuple"/\∃o,K.lookup p=some o/\o.cls = .type "tuple"/\o.dict=none) \/
  (T="dict"/\((∃kvs,H p=some (.dK kvs))\/∃kvs,H p=some (.dT kvs)))\/(T="set"/\∃S n,H p=some (.set S n))
 |_=>False
theorem zsL(I:Inv X pins σ H s)(r:RelV x v)(ty:tyV X.K T x H):
 s.TypeIs v T/\∀a,v = .ref a->∃ob,s.heap.get? a=some ob/\ob.dict=none:=by
 cases x with
 |str z=>
  obtain⟨t,rfl⟩:=r
  cases(show T="str" from ty)
  exact⟨typeIs_str s z t,λ_ e=>nomatch e⟩
 |int i=>
  obtain⟨t,rfl⟩:=r
  cases(show T="int" from ty)
  exact⟨typeIs_int s i t,λ_ e=>nomatch e⟩
 |ref p=>
  cases r
  rcases ty with⟨rfl,xs,hq⟩|⟨rfl,o,hk,hc,hd⟩|⟨rfl,hk⟩|⟨rfl,S,n,hk⟩
  · obtain⟨its,_,pl,_⟩:=I.list hq
    refine⟨pl.isList.typeIs,λa e=>?_⟩
    cases e
    obtain⟨o,n,e,c,hd,_⟩:=pl
    exact⟨o,e,hd⟩
  · refine⟨⟨o,I.kIn p o hk,hc⟩,λa e=>?_⟩
    cases e
    exact⟨o,I.kIn _ o hk,hd⟩
  · have z:∃o,s.heap.get? p=some o/\o.ExactDict:=by
     rcases hk with⟨kvs,hk⟩|⟨kvs,hk⟩
     · obtain⟨_,_,_,_,o,_,_,e,ex,_⟩:=I.hok p _ hk
       exact⟨o,e,ex⟩
     · obtain⟨_,_,_,_,o,_,_,e,ex,_⟩:=I.hok p _ hk
       exact⟨o,e,ex⟩
    obtain⟨o,e,ex⟩:=z
    refine⟨⟨o,e,ex.1⟩,λa e2=>?_⟩
    cases e2
    exact⟨o,e,ex.2.1⟩
  · obtain⟨o,_,_,_,e,ex,_⟩:=I.hok p _ hk
    refine⟨⟨o,e,ex.1⟩,λa e2=>?_⟩
    cases e2
    exact⟨o,e,ex.2.1⟩
 |_=>exact False.elim ty
def tBM(K:zC)(T:String)(r:V->List V->Hp->VK->Prop)(to:TE)(t:TA):TE:=λσ H Q=>to σ H λx H1=>tyV K T x H1/\t σ H1 λxs H2=>r x xs H2 Q
variable{o e:Expr}{es:List Expr}{to:TE}{t:TA}{name:Str}{apos cpos:Pos}{T id:String}{r:V->List V->Hp->VK->Prop}
theorem zsq(pa:PlainAttrs T)(slot:Slot T name id)(hty:typeOf (.builtin id)=pure (.type "method_descriptor"))(hm:MtR X id r)(ho:PE X o to)(ha:PA X (e::es) t)
 (hbase:attributeBase o name X.env (eval o X.env)=eval o X.env:=by rfl)
 (hfew:((backTo cpos (starEach (e::es) X.env)).all (λx=>!x.1)&&(backToKw cpos (keywordEach [] X.env)).all (λx=>x.1.isSome)
  && decide ((e::es).length+([]:List Keyword).length+(if([]:List Keyword).isEmpty then 0 else 1)<30))=true:=by rfl)
 (hline:(apos.endLine==cpos.line)=true:=by rfl) (hs:starEach (e::es) X.env=(false,eval e X.env)::starEach es X.env:=by rfl) (hplain:(backTo cpos (starEach es X.env)).any (·.1)=false:=by rfl):
 PE X (.Call (.Attribute o name apos) (e::es) [] cpos) (tBM X.K T r to t):=by
 intro pins s σ H Q I h
 refine wpAny_Call_method_late hbase hfew hline rfl (thn (ho pins s σ H _ I h) λv s1 ⟨x,H1,I1,r1,ty,q1⟩=>?_)
 obtain⟨h1,h2⟩:=zsL I1 r1 ty
 refine⟨T,id,pa,slot,hty,h1,h2, ?_⟩
 have hA:=ha cpos pins s1 σ H1 _ I1 q1
 rw[hs]at hA ⊢
 refine Calls.callWith_builtin (by show(false||(backTo cpos (starEach es X.env)).any (·.1))=false;rw[hplain]<;>rfl) (Calls.evalArgs_plain ?_)
 exact thn hA λus s2 ⟨vs,H2,I2,r2,q2⟩=>hm pins s2 σ H2 x vs v us Q I2 r1 r2 q2
end
end L2
namespace L2
open PySem PySem.Spec PyProof.Rows
def MtM(X:Cx)(id:String)(r:V->List V->Hp->VK->Prop):Prop:=
 ∀(pins:List (Addr×Obj)) (s:Shared) (σ:St) (H:Hp) (x:V) (xs:List V) (v:Value) (us:List Value) (Q:VK),Inv X pins σ H s->RelV x v->Vals xs us->r x xs H Q->
  wpAny (model X.prog X.w) X.A (call (.builtin id) (v::us)) (EP X pins σ Q) X.xe s
theorem Vals.one:∀{x:V}{us:List Value},Vals [x] us->∃u,us=[u]/\RelV x u
 |_,_,.cons r .nil=>⟨_,rfl,r⟩
theorem Vals.two:∀{x y:V}{us:List Value},Vals [x,y] us->∃u v,us=[u,v]/\RelV x u/\RelV y v
 |_,_,_,.cons r (.cons q .nil)=>⟨_,_,rfl,r,q⟩
theorem Vals.eraseIdx:∀{xs:List V}{us:List Value}(i:Nat),Vals xs us->Vals (xs.eraseIdx i) (us.eraseIdx i)
 |_,_,_,.nil=>.nil
 |_,_,0,.cons _ t=>t
 |_,_,i+1,.cons r t=>.cons r (Vals.eraseIdx i t)
theorem Vals.rep(h:Vals xs us):∀k:Nat,Vals (List.replicate k xs).flatten (List.replicate k us).flatten
 |0=>.nil
 |k+1=>by
  rw[List.replicate_succ,List.replicate_succ,List.flatten_cons,List.flatten_cons]
  exact Vals.append h (Vals.rep h k)
theorem zic:∀(l:List α) (i:Nat),(l.eraseIdx i).length<=l.length
 | [],_=>zzL _
 |_::_,0=>zyV _
 |_::r,i+1=>Nat.succ_le_succ (zic r i)
theorem foldl_rep(its:List Value):∀(k:Nat) (acc:List Value),
 List.foldl (λx1 x2=>x1++x2) acc.toArray (List.replicate k its.toArray)=(acc++(List.replicate k its).flatten).toArray
 |0,acc=>by simp
 |k+1,acc=>by
  have e:acc.toArray++its.toArray=(acc++its).toArray:=by simp
  have e2:(acc++its)++(List.replicate k its).flatten=acc++(List.replicate (k+1) its).flatten:=by
   rw[List.replicate_succ,List.flatten_cons,zxB]
  rw[<-e2,<-foldl_rep its k (acc++its),<-e,List.replicate_succ,List.foldl_cons]
section
variable{X:Cx}{pins:List (Addr×Obj)}{σ:St}{H:Hp}{s:Shared}{l b:Addr}{xs ys zs:List V}
theorem Inv.lset{its its':List Value}{n:Nat}{f:Array Value->Array Value}{t':Nat}(I:Inv X pins σ H s)(hH:H l=some (.lst xs))
 (e:s.heap.get? l=some {cls:=.type "list",data:=.seq its.toArray n}) (hf:f its.toArray=its'.toArray) (hv:Vals ys its') (hz:ys.length<=sizeLine):
 Inv X pins σ (upd H l (.lst ys)) {s with heap:=s.heap.update l (Obj.mapSeq f),toks:=t'}:=by
 have q:=PySem.IsL.update e f
 rw[hf]at q
 refine I.write (x:=l) (e:=l) (by rw[hH];exact trivial) (.inl rfl) (λb' u hb hu=>(Heap.get?_update_other s.heap (Obj.mapSeq f) (Ne.symm hb)).trans hu) ⟨_,q⟩ ?_
 exact⟨hz,its',_,hv,q⟩
theorem Inv.lnew(I:Inv X pins σ H s)(hv:Vals ys its)(hz:ys.length<=sizeLine):
 Inv X pins σ (upd H s.heap.objs.size (.lst ys)) {s with heap:=s.heap.push {cls:=.type "list",data:=.seq its.toArray},toks:=t'}:=
 I.laid (λ_ _ q=>zxG _ q) (zzL _) ⟨hz,its,0,hv,zxI _ rfl⟩
theorem Inv.fresh(I:Inv X pins σ H s):H s.heap.objs.size=none:=I.hok.fresh (zzL _)
theorem Inv.lstM(I:Inv X pins σ H s)(hH:H l=some (.lst xs)):xs.length<=sizeLine/\∃(its:List Value) (n:Nat),Vals xs its/\xs.length=its.length/\s.heap.get? l=some {cls:=.type "list",data:=.seq its.toArray n}:=by
 obtain⟨z,its,n,r,e⟩:=I.hok l _ hH
 exact⟨z,its,n,r,r.length,e⟩
theorem zkj(h:n<=sizeLine):Builtin.List.listTooLong n=false:=by
 unfold Builtin.List.listTooLong
 exact zyE (by omega)
end
section
variable{X:Cx}
def zmT:V->List V->Hp->VK->Prop:=λx vs H Q=>∃l xs y,x = .ref l/\vs=[y]/\H l=some (.lst xs)/\xs.length<sizeLine/\Q .non (upd H l (.lst (xs++[y])))
theorem vg:MtM X "list.append" zmT:=by
 intro pins s σ H x vs v us Q I rx rv h
 obtain⟨l,xs,y,rfl,rfl,hH,hz,q⟩:=h
 cases rx
 obtain⟨u,rfl,ru⟩:=rv.one
 obtain⟨z,its,n,r,hl,e⟩:=I.lstM hH
 refine call_meets F.slot_list_append ⟨_,e,rfl⟩ F.entry_list_append (F.args_list_append_2 _ _) (PySem.list_append l its.toArray n u (by rw[zzF];omega)) ⟨e, ?_⟩
 refine⟨.non,_,I.lset (its':=its++[u]) hH e (by simp) (r.append (.cons ru .nil)) ?_,rfl,q⟩
 rw[zzH,List.length_singleton]
 omega
def zmF:V->List V->Hp->VK->Prop:=λx vs H Q=>∃l b xs zs,x = .ref l/\vs=[.ref b]/\H l=some (.lst xs)/\H b=some (.lst zs)/\xs.length+zs.length<=sizeLine/\Q .non (upd H l (.lst (xs++zs)))
theorem znv:MtM X "list.extend" zmF:=by
 intro pins s σ H x vs v us Q I rx rv h
 obtain⟨l,b,xs,zs,rfl,rfl,hH,hB,hz,q⟩:=h
 cases rx
 obtain⟨u,rfl,ru⟩:=rv.one
 cases ru
 obtain⟨z,its,n,r,hl,e⟩:=I.lstM hH
 obtain⟨z2,its2,n2,r2,hl2,e2⟩:=I.lstM hB
 have hsz:its.toArray.size+its2.toArray.size<=sizeLine:=by rw[zzF,zzF];omega
 have hlong:¬(!its.toArray.isEmpty&&Builtin.List.listTooLong (its.toArray.size+its2.toArray.size))=true:=by
  rw[zkj hsz,Bool.and_false]
  exact zyU
 refine call_meets F.slot_list_extend ⟨_,e,rfl⟩ F.entry_list_extend (F.args_list_extend_2 _ _)
  (AutoSeq1.list_extend_list_list_0 l its.toArray n b its2.toArray n2 hlong (by rw[zzF];omega) (by omega)) ⟨e,e2, ?_⟩
 refine⟨.non,_,I.lset (its':=its++its2) hH e (by simp) (r.append r2) ?_,rfl,q⟩
 rw[zzH]
 omega
def zpW:V->List V->Hp->VK->Prop:=λx vs H Q=>∃l xs i k y,x = .ref l/\vs=[.int i]/\H l=some (.lst xs) /\ -(2 ^ 63)<=i/\i<2 ^ 63/\seqIndex? i xs.length=some k/\xs[k]? = some y/\Q y (upd H l (.lst (xs.eraseIdx k)))
theorem zpj:MtM X "list.pop" zpW:=by
 intro pins s σ H x vs v us Q I rx rv h
 obtain⟨l,xs,i,k,y,rfl,rfl,hH,h1,h2,hk,hy,q⟩:=h
 cases rx
 obtain⟨u,rfl,ru⟩:=rv.one
 obtain⟨t,rfl⟩:=ru
 obtain⟨z,its,n,r,hl,e⟩:=I.lstM hH
 obtain⟨w,hw,rw'⟩:=r.get hy
 refine call_meets F.slot_list_pop ⟨_,e,rfl⟩ F.entry_list_pop (F.args_list_pop_2 _ _)
  (MeetsSeq.list_pop_at l its.toArray n i t k w (fitsIndex_both h1 h2) (by rw[zzF,<-hl];exact hk) (by rw[<-Array.getElem?_toList];exact hw) (by rw[zzF];omega)) ⟨e, ?_⟩
 refine⟨y,_,I.lset (its':=its.eraseIdx k) hH e ?_ (r.eraseIdx k) ?_,rw',q⟩
 · show its.toArray.eraseIdxIfInBounds k=(its.eraseIdx k).toArray
   rw[List.eraseIdxIfInBounds_toArray]
 · have:=zic xs k
   omega
theorem len_rep(xs:List α)(k:Nat):(List.replicate k xs).flatten.length=k*xs.length:=by
 induction k with
 |zero=>simp
 |succ k ih=>rw[List.replicate_succ,List.flatten_cons,zzH,ih,Nat.succ_mul,Nat.add_comm]
end
end L2
namespace Att
open PySem PySem.W PySem.Calls PyProof.Rows
theorem zfn:∀(ns:List Int) (vs:List Value),WellAll P h vs (ns.map WData.int)->IntsAre vs ns:=by
 intro ns
 induction ns with
 |nil=>
  intro vs w
  rw[List.map_nil]at w
  cases w
  exact .nil
 |cons n ns ih=>
  intro vs w
  rw[zyQ]at w
  cases w with
  |cons a b=>
   cases a
   exact .cons _ _ (ih _ b)
theorem znx{l:OpenLaw}{n:Nat}(hn:l.most=some n){P:Params}{h:Heap}{args:List WData}{vals:List Value}
 (hpre:l.row.toRowW.claim.pre args=true) (hwl:WellAll P h vals args):
 ∃a vs ns,vals=[Value.ref a]/\args=[WData.list (ns.map WData.int)]/\h.get? a=some {cls:=.type "list",data:=.seq vs.toArray}/\IntsAre vs ns/\ns.length<=n:=by
 have hsh:WShape.hasAll [] args [.list .int]=true:=(pre_splitW hpre).1
 have hc:l.pre.holds [] {args:=args}=true:=(pre_splitW hpre).2
 obtain⟨d,r,rfl,h1,h2⟩:=hasAllW_cons hsh
 obtain rfl:=hasAllW_nil h2
 obtain⟨xs,rfl,h3⟩:=hasW_list h1
 obtain⟨ns,rfl⟩:=items_int h3
 have hlen:ns.length<=n:=by
  unfold OpenLaw.pre at hc
  have h4:(WTm.not (.lt (.lit (.int (n:Int))) (.len (.arg 0)))).holds [] {args:=[.list (ns.map .int)]}=true:=by
   have h4:=(holds_andW hc).1
   rw[hn]at h4
   exact h4
  have h5:=condW_of h4 (w_not (w_lt w_lit (w_len_list (w_arg rfl))))
  rw[zD]at h5
  refine Nat.le_of_not_lt λq=>?_
  have q':(n:Int)<((ns.length:Nat):Int):=by omega
  first
   |(rw[zyM q']at h5;exact absurd h5 (by decide))
   |(simp at h5;omega)
 cases hwl with
 |cons w1 w2=>
  cases w2
  cases w1 with
  |list ho hall=>exact⟨_,_,ns,rfl,rfl,ho,zfn ns _ hall,hlen⟩
theorem znX(l:OpenLaw)(args:List WData):l.row.toRowW.claim.post args (.bool true) args=true:=
 postW_of (r:=l.row.toRowW) (X:=(true==true))
  (show WShape.has [] (.bool true) .bool=true by first|rfl|decide|simp[WShape.has,WShape.arms,WShape.armsAll])
  (show(WTm.eq .res (.lit (.bool true))).value [] {args:=args,res:=some (.bool true),after:=args}=some (.bool (true==true))from w_eq_bool (w_res rfl) w_lit) rfl
theorem zkG{l:OpenLaw}{n:Nat}{q:Program}{loose:List Str}{XP:(Str->Option Value)->Heap->Prop}{YP:World->Heap->Prop}{d:DefRec}
 (hn:l.most=some n) (hdf:d.params.defaults=[])
 (call:∀(w:World) (s₀ s₁:Shared) (mg mb:Str->Option Value) (fa:Addr) (o:Obj) (pm cd doc:Value) (a:Addr) (vs:List Value) (ns:List Int),
  Ground q loose [] XP w s₀ mg mb s₁.heap->YP w s₁.heap->
  s₁.heap.get? fa=some o->o.data = .func (docDef d.name d.params d.body d.scope pm cd doc)->s₁.heap.CodeRec cd d.name->mg d.name=some (.ref fa)->
  s₁.heap.get? a=some {cls:=.type "list",data:=.seq vs.toArray}->IntsAre vs ns->ns.length<=n->s₁.gens = #[]->
  codeAny (model l.prog w) callerA (.call (.ref fa) ⟨[.ref a],[]⟩) (λr s'=>r = .ok (.ret (.bool true))/\OldK s₁.heap s'.heap/\s'.os=s₁.os/\AllBare s'.gens) s₁):
 WalkO q loose XP YP l.row.toRowW d [] (λf vs=>PySem.call f vs):=by
 intro w s₀ s₁ mg mb G Y fa o pm cd doc dV kV ho hd hcd hD hmg hg args vals as hpre hlay hrd hwl hlo
 obtain rfl:dV = .none:=Dflts.none hD hdf
 obtain rfl:kV = .none:=Dflts.noKw hD
 obtain⟨a,vs,ns,rfl,rfl,hobj,hints,hlen⟩:=znx hn hpre hwl
 refine enter_call (codeAny_mono (call w s₀ s₁ mg mb fa o pm cd doc a vs ns G Y ho (fd_plain hd) hcd hmg hobj hints hlen hg) λr s' hq=>?_)
 obtain⟨rfl,h2,h3,h4⟩:=hq
 exact⟨.inl ⟨.bool true,.bool true,[],rfl,λ_=>rfl,.bool true,znX l _,λ_=>⟨List.Pairwise.nil,λ_ hm=>(nomatch hm)⟩⟩,h2,h3,h4⟩
end Att
namespace L2
open PySem PySem.Spec PyProof.Rows
theorem WM:∀{vs:List Value}{ns:List Int},IntsAre vs ns->Vals (ns.map V.int) vs
 |_,_,.nil=>.nil
 |_,_,.cons n t h=>.cons ⟨t,rfl⟩ (WM h)
def Only(H:Hp):Prop:=∀b,H b=none\/∃o xs,H b=some (.frz o (.lst xs))
theorem zpz{P:Program}{w:World}{K:zC}{mg mb:Str->Option Value}{CX:CXT}{k:Nat}{fa a:Addr}{fd:FuncData}{x:Str}{sp:Sp}{s₁:Shared}{vs:List Value}{ns:List Int}
 (KX:K.In s₁.heap) (hns:s₁.heap.Ns mainGlobals mg) (hb:s₁.heap.Ns builtinsNs mb) (hbb:∀x:Str,x≠"__name__"->mb x=bootBuiltins x) (hlim:s₁.heap.NoLimit) (hg:s₁.gens = #[])
 (ha:s₁.heap.get? a=some {cls:=.type "list",data:=.seq vs.toArray}) (hi:IntsAre vs ns) (hl:ns.length<=sizeLine) (hr:Room k callerA)
 (F:∀base:Heap,K.In base->base.Ns mainGlobals mg->FnOk P w K mg base CX k fa fd [x] sp) (hbind:∀(s:Shared) (u:Value),BindsTo s fd ⟨[u],[]⟩ [(x,u)])
 (hsp:∀H:Hp,Only H->RdL K H a (ns.map V.int)->sp [.ref a] H (λv _=>v = .bl true) λ_ _ _=>False)
 (hCX:∀H e s',CX [] H s₁ (λ_ _ _=>False) e s'->False):
 codeAny (model P w) callerA (.call (.ref fa) ⟨[.ref a],[]⟩) (λr s'=>r = .ok (.ret (.bool true))/\OldK s₁.heap s'.heap/\s'.os=s₁.os/\AllBare s'.gens) s₁:=by
 have rv:=WM hi
 have lenV:=hi.length
 have core:∀H:Hp,Only H->RdL K H a (ns.map V.int)->HOk P w H s₁.heap->(∀b,H b≠none->b=a)->(H a≠none->K.lookup a=none)->
  codeAny (model P w) callerA (.call (.ref fa) ⟨[.ref a],[]⟩) (λr s'=>r = .ok (.ret (.bool true))/\OldK s₁.heap s'.heap/\s'.os=s₁.os/\AllBare s'.gens) s₁:=by
  intro H hO hS hok hA hK
  have base_of:∀{b:Addr}{o:Obj},s₁.heap.get? b=some o->H b=none->(zjN s₁.heap H).get? b=some o:=λe n=>zpA e n
  have noA:∀{b:Addr}{o:Obj}{es:Array DictEntry}{ep:Nat},s₁.heap.get? b=some o->o.data = .dict es ep->H b=none:=λ{b o es ep} e d=>by
   cases q:H b with
   |none=>rfl
   |some u=>
    have e':b=a:=hA b (by rw[q];simp)
    subst e'
    rw[ha]at e;cases e
    have d':Data.seq vs.toArray _=Data.dict es ep:=d
    cases d'
  have nsK:∀{b:Addr}{m:Str->Option Value},s₁.heap.Ns b m->(zjN s₁.heap H).Ns b m:=λ{b m} ⟨o,es,ep,e,d,r⟩=>⟨o,es,ep,base_of e (noA e d),d,r⟩
  have hKb:K.In (zjN s₁.heap H):=λb o e=>base_of (KX b o e) (by
   cases q:H b with
   |none=>rfl
   |some u=>
    have e':b=a:=hA b (by rw[q];simp)
    subst e'
    rw[hK (by rw[q];simp)]at e;cases e)
  have hM:Mod K mg (zjN s₁.heap H):=⟨hKb,nsK hns,⟨mb,nsK hb,hbb⟩,let⟨mc,h1,h2⟩:=hlim;⟨mc,nsK h1,h2⟩⟩
  have e0:Env0 P w K mg (zjN s₁.heap H) callerA [] s₁ H:=⟨rfl,hM,λb o e=>zrm e,Nat.le_of_eq (znA _ _),trivial,λb hb=>absurd (show b ∈ ([]:List Addr)from hb) (by simp),hok,.of_eq hg⟩
  refine codeAny_mono ((F _ hKb (nsK hns)).run callerA [] s₁ H ⟨[.ref a],[]⟩ [.ref a] [.ref a] _ _ hr e0 (hbind s₁ (.ref a)) (.cons rfl .nil) (hsp H hO hS)) λr s' h=>?_
  cases r with
  |error e=>exact(hCX H e s' h).elim
  |ok fl=>
   cases fl with
   |next=>exact False.elim h
   |brk=>exact False.elim h
   |cont=>exact False.elim h
   |ret u=>
    obtain⟨v,H',os,bare,un,hok',r',q⟩:=h
    have q':v = .bl true:=q
    subst q'
    obtain rfl:u=Value.bool true:=r'
    refine⟨rfl,OldK.of_keep λb o e=>?_,os,bare⟩
    cases q:H b with
    |none=>exact un.keep b o e q (by intro z;exact absurd (show b ∈ ([]:List Addr)from z) (by simp)) (by simp)
    |some u=>
     rcases hO b with z|⟨ob,xs,z⟩
     · rw[q]at z;cases z
     · have z2:=un.frzs b ob _ z
       obtain⟨e1,_⟩:=hok b _ z
       obtain⟨e2,_⟩:=hok' b _ z2
       rw[e]at e1;cases e1
       exact e2
 cases hk:K.lookup a with
 |some o=>
  have e:=KX a o hk
  rw[ha]at e
  cases e
  refine core (λ_=>none) (λ_=>.inl rfl) (.inr ⟨vs.toArray,_,hk,by rw[zzF,lenV];exact hl,by simpa using rv⟩) (λb u z=>by have z':(none:Option HO)=some u:=z;cases z') (λb z=>absurd rfl z) λz=>absurd rfl z
 |none=>
  refine core (λb=>if b=a then some (.frz {cls:=.type "list",data:=.seq vs.toArray} (.lst (ns.map V.int)))else none) (λb=>?_) (.inl (.inr ⟨{cls:=.type "list",data:=.seq vs.toArray},if_pos rfl⟩)) (λb u z=>?_) (λb z=>?_) λ_=>hk
  · by_cases hb:b=a
    · exact .inr ⟨_,_,if_pos hb⟩
    · exact .inl (if_neg hb)
  · by_cases hb:b=a
    · have z':=(if_pos hb).symm.trans z
      cases z'
      subst hb
      exact⟨ha,by rw[zD];exact hl,vs,_,rv,ha⟩
    · have z':=(if_neg hb).symm.trans z
      cases z'
  · by_cases hb:b=a
    · exact hb
    · exact absurd (if_neg hb) z
end L2
namespace L2
open PySem PySem.Spec PyProof.Rows
theorem walk_of{l:PySem.W.OpenLaw}{n k:Nat}{q:Program}{loose:List Str}{XP:(Str->Option Value)->Heap->Prop}{YP:World->Heap->Prop}{d:DefRec}{K:Params->zC}{CX:World->CXT}{sp:World->Sp}{x:Str}
 (hn:l.most=some n) (hn2:n<=sizeLine) (hdf:d.params.defaults=[]) (hr:Room k callerA)
 (hY:∀(w:World) (h:Heap),YP w h->(K w.params).In h)
 (F:∀(w:World) (mg:Str->Option Value) (fa:Addr) (h:Heap),(K w.params).In h->h.Ns mainGlobals mg->mg d.name=some (.ref fa)->
  ∃fd:FuncData,(∀(s:Shared) (u:Value),BindsTo s fd ⟨[u],[]⟩ [(x,u)])/\
   ∀base:Heap,(K w.params).In base->base.Ns mainGlobals mg->FnOk l.prog w (K w.params) mg base (CX w) k fa fd [x] (sp w))
 (hsp:∀(w:World) (H:Hp) (a:Addr) (ns:List Int),ns.length<=n->Only H->RdL (K w.params) H a (ns.map V.int)->sp w [.ref a] H (λv _=>v = .bl true) λ_ _ _=>False)
 (hCX:∀(w:World) (H:Hp) (s:Shared) (e:Value) (s':Shared),CX w [] H s (λ_ _ _=>False) e s'->False):
 PySem.W.WalkO q loose XP YP l.row.toRowW d [] (λf vs=>PySem.call f vs):=by
 refine Att.zkG hn hdf λw s₀ s₁ mg mb fa o pm cd doc a vs ns G Y ho hd hcd hmg hobj hints hlen hg=>?_
 have KX:=hY w _ Y
 obtain⟨fd,hb,hF⟩:=F w mg fa _ KX G.T.g hmg
 exact zpz KX G.T.g G.T.b G.T.builtins G.T.nolimit hg hobj hints (zzM hlen hn2) hr hF hb (λH hO hS=>hsp w H a ns hlen hO hS) λH e s'=>hCX w H s₁ e s'
end L2
namespace L2
open PySem PySem.Spec PyProof.Rows
def zfB(s:Stmt):Arguments:=match s with
 | .FunctionDef _ a _ _ _ _ _ _ _ _=>a
 |_=>{posonlyargs:=[],args:=[],vararg:=none,kwonlyargs:=[],kw_defaults:=[],kwarg:=none,defaults:=[]}
def zaZ(s:Stmt):List Stmt:=match s with
 | .FunctionDef _ _ b _ _ _ _ _ _ _=>b
 |_=>[]
def zm(s:Stmt):Scope:=match s with
 | .FunctionDef _ _ _ _ _ _ sc _ _ _=>sc
 |_=>{kind:=.function,names:=[],isGenerator:=false,isCoroutine:=false}
abbrev CX0:CXT:=λ_ _ _ _ _ _=>False
abbrev E0:XK:=λ_ _ _=>False
theorem zvd:zjS CX0 X E0:=λ_ _ _ _ _ _ _ h=>h.elim
structure Fun(K:zC)(x qual:Str)(st:Stmt)(f:Addr)(fd:FuncData):Prop where
 ex:∃(oc:Value) (od:Option Addr) (kV doc pm:Value) (an:Option Addr) (cdv ct:Value) (osl:Array (Option Value)),
  fd=PySem.W.fnOf x qual (zfB st) (zaZ st) (zm st) .none kV doc pm an cdv ct/\K.lookup f=some ⟨oc,od,.func fd,osl⟩/\PySem.W.codeIn K cdv qual=true
 kp:PySem.W.keepIn K (.ref f)=true
section
variable{P:Program}{w:World}{K:zC}{mg:Str->Option Value}{base:Heap}
theorem Fun.ok{x qual:Str}{st:Stmt}{f:Addr}{fd:FuncData}{N ps:List Str}{k:Nat}{sp:Sp}(F:Fun K x qual st f fd)(S:FnScope N ps (zm st))(len:∀vs H Q E,sp vs H Q E->vs.length=ps.length)
 (hbody:∀(cdv:Value) (A:Around) (outer:List Env) (s:Shared) (H:Hp) (vs:List V) (Q:VK) (E:XK),Room k (A.deeper (envOfC qual (zm st) s.heap.objs.size f cdv))->sp vs H Q E->
  ∃t,PSs (zlL CX0 P w K mg base N qual (zm st) f cdv A outer s H E).nox (zaZ st) t/\t {nx:=λ_ H'=>Q .non H',rt:=Q} (start N vs) H):FnOk P w K mg base CX0 (k+1) f fd ps sp:=by
 obtain⟨oc,od,kV,doc,pm,an,cdv,ct,osl,rfl,lk,hcd⟩:=F.ex
 refine zvh lk hcd S len λA outer s H vs Q E hr hsp=>?_
 obtain⟨t,h,q⟩:=hbody cdv A outer s H vs Q E hr hsp
 exact⟨t,h.nox,q⟩
theorem Fun.binds{x qual:Str}{st:Stmt}{f:Addr}{fd:FuncData}{ps:List Str}(F:Fun K x qual st f fd)
 (h:∀(kV doc pm:Value) (an:Option Addr) (cdv ct:Value) (us:List Value),us.length=ps.length->bindArgs (PySem.W.fnOf x qual (zfB st) (zaZ st) (zm st) .none kV doc pm an cdv ct) ⟨us,[]⟩=pure (ps.zip us)):Binds K fd ps []:=by
 obtain⟨oc,od,kV,doc,pm,an,cdv,ct,osl,rfl,lk,hcd⟩:=F.ex
 exact .all (h kV doc pm an cdv ct)
end
theorem zst(hr:Room k A):A.units+1<cLine:=Nat.lt_of_le_of_lt (Nat.add_le_add_left (by decide:1<=64) _) hr.units
theorem ZW(h:n<=1000):n<sizeLine:=Nat.lt_of_le_of_lt h (by decide)
section
variable{X:Cx}
theorem pv(i:Nat)(hN:X.N[i]? = some x:=by rfl)(hv:Vis X.env.scope x:=by first|exact Or.inl rfl|exact Or.inr (Or.inl rfl)|exact Or.inr (Or.inr rfl))(hd:(x==("__debug__":Str))=false:=by decide)
 (hcd:(x==("__classdict__":Str))=false:=by decide):PE X (.Name x pos) (zdK i):=zqe hN hv hd hcd
end
end L2
end
section
namespace G56
open PySem PySem.W PyProof.Rows L2
def top(i:Nat):Stmt:=PySem.Challenge.pw_stretchdeeds_k56_whole_least_by_rows.main.body.getD i (.Pass ⟨0,0,0,0⟩)
abbrev ZP:Stmt:=top 4
abbrev ZL:Stmt:=top 5
abbrev Yr:Stmt:=top 6
abbrev Xh:Stmt:=top 7
abbrev Xd:Stmt:=top 8
abbrev Yg:Stmt:=top 9
abbrev zda:Stmt:=top 10
abbrev Wz:Stmt:=top 11
abbrev Ze:Stmt:=top 13
abbrev X4:Stmt:=top 15
abbrev XR:Stmt:=top 16
abbrev xX:Stmt:=top 17
abbrev xW:Stmt:=top 18
abbrev Yp:Stmt:=top 20
abbrev zaC:Stmt:=top 21
abbrev Xm:Stmt:=top 22
abbrev YC:Stmt:=top 23
abbrev Yt:Stmt:=top 24
abbrev XS:Stmt:=top 25
abbrev Zo:Stmt:=top 26
abbrev Yi:Stmt:=top 27
abbrev vz:Stmt:=top 28
abbrev XM:Stmt:=top 29
abbrev Yy:Stmt:=top 30
abbrev Z5:Stmt:=top 31
abbrev WX:Stmt:=top 32
abbrev Wi:Stmt:=top 33
abbrev Yx:Stmt:=top 34
abbrev vL:Stmt:=top 35
abbrev Yn:Stmt:=top 36
abbrev Xk:Stmt:=top 43
abbrev vp:Stmt:=top 37
abbrev zaX:Stmt:=top 38
abbrev Yo:Stmt:=top 39
abbrev Wc:Stmt:=top 40
abbrev X7:Stmt:=top 41
abbrev WY:Stmt:=top 42
abbrev WK:Stmt:=top 44
abbrev Xn:Stmt:=top 45
abbrev Zh:Stmt:=top 46
abbrev YF:Stmt:=top 47
abbrev zle:Stmt:=top 48
abbrev kF(n q:Str)(s:Stmt)(pm cd:Value):Obj:=⟨.type "function",none,.func (fnOf n q (zfB s) (zaZ s) (zm s) .none .none .none pm none cd .none),#[]⟩
abbrev kC(n:Str)(a:Nat)(q:Str)(b c:Nat)(i3 i4 i5 i6 i7:Int)(r8:Addr)(b9:Bool)(i10:Int)(r11 r13 r14 r15:Addr)(i16 i17:Int)(d:Nat):Obj:=⟨.type "code",none,.fields #[.str n a,.str q b,.str "/claim/cut.py" c,.int i3 0,.int i4 0,.int i5 0,.int i6 0,.int i7 0,.ref r8,.bool b9,.int i10 0,.ref r11,.none,.ref r13,.ref r14,.ref r15,.int i16 0,.int i17 0,.str "/claim/cut.py" d],#[]⟩
abbrev kD(es:List DictEntry)(n:Nat):Obj:=⟨.type "dict",none,.dict es.toArray n,#[]⟩
abbrev kE(P:Params)(x:Str)(t:Nat)(v:Value):DictEntry:=⟨PyData.keyHash P x,.str x t,v⟩
abbrev kR(P:Params)(x:Str)(t:Nat)(a:Addr):DictEntry:=kE P x t (.ref a)
def K(P:Params):Frag:=
 (nat_lit 3,kD [kE P "__name__" 165 (.str "law_stretchdeeds_k56_whole_least_by_rows" 349),kE P "__doc__" 166 .none,kE P "__package__" 167 .none,kE P "__loader__" 168 (.builtin "__main__.__loader__#opaque"),kE P "__spec__" 169 .none,kR P "__annotations__" 170 6,kR P "__builtins__" 171 4,kE P "__file__" 173 (.str "/claim/cut.py" 172),kE P "__cached__" 174 .none,kR P "StretchError" 206 24,kR P "NotLetBy" 231 44,kR P "nothing_fails" 243 53,kR P "parting_fails" 255 60,kR P "doing_fails" 271 67,kR P "deeds_fail" 282 74,kR P "what_fails" 290 81,kR P "check_let_by" 298 88,kR P "joined" 308 95,kR P "done_to" 314 100,kR P "all_steps" 322 105,kR P "numbered" 330 110,kR P "signs_of" 336 115,kR P "class_numbers" 342 120,kR P "least_algebra" 348 125,kR P "_law_cell_at" 358 132,kR P "_law_whole" 365 139,kR P "_law_stream" 376 146,kR P "_law_names" 382 151,kR P "_law_divisor" 390 158,kR P "_law_sums" 396 163,kR P "_law_rising" 402 168,kR P "_law_kept" 408 173,kR P "_law_joins" 414 178,kR P "_law_rows" 420 183,kR P "_law_plain" 426 188,kR P "_law_beside" 432 193,kR P "_law_made" 446 200,kR P "_law_order" 457 207,kR P "_law_signs" 463 212,kR P "_law_algebra" 469 217,kR P "_law_bent" 475 222,kR P "_law_by_digits" 481 227,kR P "_law_any" 490 234,kR P "_law_parting" 502 241,kR P "_law_doing" 520 248,kR P "_law_fails" 536 255,kR P "_law_good" 544 262,kR P "_law_digits" 555 269,kR P "_law_few" 561 274,kR P "_law_row" 567 279,kR P "_law_signs_of" 573 284,kR P "_law_along" 579 289,kR P "law" 585 294] 53) ::
 (nat_lit 52,kC "nothing_fails" 234 "nothing_fails" 235 236 10 1 0 0 3 47 true 181 48 49 50 51 241 10 242) ::
 (nat_lit 53,kF "nothing_fails" "nothing_fails" ZP (.str "stretchdeeds.algebras" 232) (.ref 52)) ::
 (nat_lit 59,kC "parting_fails" 244 "parting_fails" 245 246 17 1 0 0 3 54 true 181 55 56 57 58 253 17 254) ::
 (nat_lit 60,kF "parting_fails" "parting_fails" ZL (.str "stretchdeeds.algebras" 232) (.ref 59)) ::
 (nat_lit 66,kC "doing_fails" 256 "doing_fails" 257 258 26 3 0 0 3 61 true 181 62 63 64 65 269 26 270) ::
 (nat_lit 67,kF "doing_fails" "doing_fails" Yr (.str "stretchdeeds.algebras" 232) (.ref 66)) ::
 (nat_lit 73,kC "deeds_fail" 272 "deeds_fail" 273 274 37 1 0 0 3 68 true 181 69 70 71 72 280 37 281) ::
 (nat_lit 74,kF "deeds_fail" "deeds_fail" Xh (.str "stretchdeeds.algebras" 232) (.ref 73)) ::
 (nat_lit 80,kC "what_fails" 283 "what_fails" 284 285 46 1 0 0 3 75 true 181 76 77 78 79 288 46 289) ::
 (nat_lit 81,kF "what_fails" "what_fails" Xd (.str "stretchdeeds.algebras" 232) (.ref 80)) ::
 (nat_lit 87,kC "check_let_by" 291 "check_let_by" 292 293 53 1 0 0 3 82 true 181 83 84 85 86 296 53 297) ::
 (nat_lit 88,kF "check_let_by" "check_let_by" Yg (.str "stretchdeeds.algebras" 232) (.ref 87)) ::
 (nat_lit 94,kC "joined" 299 "joined" 300 301 57 2 0 0 3 89 true 181 90 91 92 93 306 57 307) ::
 (nat_lit 95,kF "joined" "joined" zda (.str "stretchdeeds.algebras" 232) (.ref 94)) ::
 (nat_lit 99,⟨.type "code",none,.fields #[(.str "done_to" 309),(.str "done_to" 310),(.str "/claim/cut.py" 311),(.int (64) 0),(.int (3) 0),(.int (0) 0),(.int (0) 0),(.int (3) 0),(.ref 96),(.bool true),(.int (181) 0),(.ref 97),.none,.none,.none,(.ref 98),(.int (312) 0),(.int (64) 0),(.str "/claim/cut.py" 313)],#[]⟩) ::
 (nat_lit 100,kF "done_to" "done_to" Wz (.str "stretchdeeds.algebras" 232) (.ref 99)) ::
 (nat_lit 104,⟨.type "code",none,.fields #[(.str "all_steps" 317),(.str "all_steps" 318),(.str "/claim/cut.py" 319),(.int (69) 0),(.int (1) 0),(.int (0) 0),(.int (0) 0),(.int (3) 0),(.ref 101),(.bool true),(.int (181) 0),(.ref 102),.none,.none,.none,(.ref 103),(.int (320) 0),(.int (69) 0),(.str "/claim/cut.py" 321)],#[]⟩) ::
 (nat_lit 105,kF "all_steps" "all_steps" Ze (.str "stretchdeeds.alikes" 315) (.ref 104)) ::
 (nat_lit 109,⟨.type "code",none,.fields #[(.str "numbered" 325),(.str "numbered" 326),(.str "/claim/cut.py" 327),(.int (77) 0),(.int (1) 0),(.int (0) 0),(.int (0) 0),(.int (3) 0),(.ref 106),(.bool true),(.int (181) 0),(.ref 107),.none,.none,.none,(.ref 108),(.int (328) 0),(.int (77) 0),(.str "/claim/cut.py" 329)],#[]⟩) ::
 (nat_lit 110,kF "numbered" "numbered" X4 (.str "stretchdeeds.leasts" 323) (.ref 109)) ::
 (nat_lit 114,⟨.type "code",none,.fields #[(.str "signs_of" 331),(.str "signs_of" 332),(.str "/claim/cut.py" 333),(.int (82) 0),(.int (2) 0),(.int (0) 0),(.int (0) 0),(.int (3) 0),(.ref 111),(.bool true),(.int (181) 0),(.ref 112),.none,.none,.none,(.ref 113),(.int (334) 0),(.int (82) 0),(.str "/claim/cut.py" 335)],#[]⟩) ::
 (nat_lit 115,kF "signs_of" "signs_of" XR (.str "stretchdeeds.leasts" 323) (.ref 114)) ::
 (nat_lit 119,⟨.type "code",none,.fields #[(.str "class_numbers" 337),(.str "class_numbers" 338),(.str "/claim/cut.py" 339),(.int (84) 0),(.int (1) 0),(.int (0) 0),(.int (0) 0),(.int (3) 0),(.ref 116),(.bool true),(.int (181) 0),(.ref 117),.none,.none,.none,(.ref 118),(.int (340) 0),(.int (84) 0),(.str "/claim/cut.py" 341)],#[]⟩) ::
 (nat_lit 120,kF "class_numbers" "class_numbers" xX (.str "stretchdeeds.leasts" 323) (.ref 119)) ::
 (nat_lit 124,⟨.type "code",none,.fields #[(.str "least_algebra" 343),(.str "least_algebra" 344),(.str "/claim/cut.py" 345),(.int (93) 0),(.int (1) 0),(.int (0) 0),(.int (0) 0),(.int (3) 0),(.ref 121),(.bool true),(.int (181) 0),(.ref 122),.none,.none,.none,(.ref 123),(.int (346) 0),(.int (93) 0),(.str "/claim/cut.py" 347)],#[]⟩) ::
 (nat_lit 125,kF "least_algebra" "least_algebra" xW (.str "stretchdeeds.leasts" 323) (.ref 124)) ::
 (nat_lit 131,kC "_law_cell_at" 351 "_law_cell_at" 352 353 102 2 0 0 3 126 true 181 127 128 129 130 356 102 357) ::
 (nat_lit 132,kF "_law_cell_at" "_law_cell_at" Yp (.str "law_stretchdeeds_k56_whole_least_by_rows" 349) (.ref 131)) ::
 (nat_lit 138,kC "_law_whole" 359 "_law_whole" 360 361 106 1 0 0 3 133 true 181 134 135 136 137 363 106 364) ::
 (nat_lit 139,kF "_law_whole" "_law_whole" zaC (.str "law_stretchdeeds_k56_whole_least_by_rows" 349) (.ref 138)) ::
 (nat_lit 145,kC "_law_stream" 366 "_law_stream" 367 368 108 2 0 0 3 140 true 181 141 142 143 144 374 108 375) ::
 (nat_lit 146,kF "_law_stream" "_law_stream" Xm (.str "law_stretchdeeds_k56_whole_least_by_rows" 349) (.ref 145)) ::
 (nat_lit 150,⟨.type "code",none,.fields #[(.str "_law_names" 377),(.str "_law_names" 378),(.str "/claim/cut.py" 379),(.int (115) 0),(.int (2) 0),(.int (0) 0),(.int (0) 0),(.int (3) 0),(.ref 147),(.bool true),(.int (181) 0),(.ref 148),.none,.none,.none,(.ref 149),(.int (380) 0),(.int (115) 0),(.str "/claim/cut.py" 381)],#[]⟩) ::
 (nat_lit 151,kF "_law_names" "_law_names" YC (.str "law_stretchdeeds_k56_whole_least_by_rows" 349) (.ref 150)) ::
 (nat_lit 157,kC "_law_divisor" 383 "_law_divisor" 384 385 124 2 0 0 3 152 true 181 153 154 155 156 388 124 389) ::
 (nat_lit 158,kF "_law_divisor" "_law_divisor" Yt (.str "law_stretchdeeds_k56_whole_least_by_rows" 349) (.ref 157)) ::
 (nat_lit 162,⟨.type "code",none,.fields #[(.str "_law_sums" 391),(.str "_law_sums" 392),(.str "/claim/cut.py" 393),(.int (128) 0),(.int (3) 0),(.int (0) 0),(.int (0) 0),(.int (3) 0),(.ref 159),(.bool true),(.int (181) 0),(.ref 160),.none,.none,.none,(.ref 161),(.int (394) 0),(.int (128) 0),(.str "/claim/cut.py" 395)],#[]⟩) ::
 (nat_lit 163,kF "_law_sums" "_law_sums" XS (.str "law_stretchdeeds_k56_whole_least_by_rows" 349) (.ref 162)) ::
 (nat_lit 167,⟨.type "code",none,.fields #[(.str "_law_rising" 397),(.str "_law_rising" 398),(.str "/claim/cut.py" 399),(.int (134) 0),(.int (3) 0),(.int (0) 0),(.int (0) 0),(.int (3) 0),(.ref 164),(.bool true),(.int (181) 0),(.ref 165),.none,.none,.none,(.ref 166),(.int (400) 0),(.int (134) 0),(.str "/claim/cut.py" 401)],#[]⟩) ::
 (nat_lit 168,kF "_law_rising" "_law_rising" Zo (.str "law_stretchdeeds_k56_whole_least_by_rows" 349) (.ref 167)) ::
 (nat_lit 172,⟨.type "code",none,.fields #[(.str "_law_kept" 403),(.str "_law_kept" 404),(.str "/claim/cut.py" 405),(.int (138) 0),(.int (3) 0),(.int (0) 0),(.int (0) 0),(.int (3) 0),(.ref 169),(.bool true),(.int (181) 0),(.ref 170),.none,.none,.none,(.ref 171),(.int (406) 0),(.int (138) 0),(.str "/claim/cut.py" 407)],#[]⟩) ::
 (nat_lit 173,kF "_law_kept" "_law_kept" Yi (.str "law_stretchdeeds_k56_whole_least_by_rows" 349) (.ref 172)) ::
 (nat_lit 177,⟨.type "code",none,.fields #[(.str "_law_joins" 409),(.str "_law_joins" 410),(.str "/claim/cut.py" 411),(.int (141) 0),(.int (2) 0),(.int (0) 0),(.int (0) 0),(.int (3) 0),(.ref 174),(.bool true),(.int (181) 0),(.ref 175),.none,.none,.none,(.ref 176),(.int (412) 0),(.int (141) 0),(.str "/claim/cut.py" 413)],#[]⟩) ::
 (nat_lit 178,kF "_law_joins" "_law_joins" vz (.str "law_stretchdeeds_k56_whole_least_by_rows" 349) (.ref 177)) ::
 (nat_lit 182,⟨.type "code",none,.fields #[(.str "_law_rows" 415),(.str "_law_rows" 416),(.str "/claim/cut.py" 417),(.int (152) 0),(.int (4) 0),(.int (0) 0),(.int (0) 0),(.int (3) 0),(.ref 179),(.bool true),(.int (181) 0),(.ref 180),.none,.none,.none,(.ref 181),(.int (418) 0),(.int (152) 0),(.str "/claim/cut.py" 419)],#[]⟩) ::
 (nat_lit 183,kF "_law_rows" "_law_rows" XM (.str "law_stretchdeeds_k56_whole_least_by_rows" 349) (.ref 182)) ::
 (nat_lit 187,⟨.type "code",none,.fields #[(.str "_law_plain" 421),(.str "_law_plain" 422),(.str "/claim/cut.py" 423),(.int (160) 0),(.int (5) 0),(.int (0) 0),(.int (0) 0),(.int (3) 0),(.ref 184),(.bool true),(.int (181) 0),(.ref 185),.none,.none,.none,(.ref 186),(.int (424) 0),(.int (160) 0),(.str "/claim/cut.py" 425)],#[]⟩) ::
 (nat_lit 188,kF "_law_plain" "_law_plain" Yy (.str "law_stretchdeeds_k56_whole_least_by_rows" 349) (.ref 187)) ::
 (nat_lit 192,⟨.type "code",none,.fields #[(.str "_law_beside" 427),(.str "_law_beside" 428),(.str "/claim/cut.py" 429),(.int (163) 0),(.int (3) 0),(.int (0) 0),(.int (0) 0),(.int (3) 0),(.ref 189),(.bool true),(.int (181) 0),(.ref 190),.none,.none,.none,(.ref 191),(.int (430) 0),(.int (163) 0),(.str "/claim/cut.py" 431)],#[]⟩) ::
 (nat_lit 193,kF "_law_beside" "_law_beside" Z5 (.str "law_stretchdeeds_k56_whole_least_by_rows" 349) (.ref 192)) ::
 (nat_lit 199,kC "_law_made" 433 "_law_made" 434 435 182 3 0 0 3 194 true 181 195 196 197 198 444 182 445) ::
 (nat_lit 200,kF "_law_made" "_law_made" WX (.str "law_stretchdeeds_k56_whole_least_by_rows" 349) (.ref 199)) ::
 (nat_lit 206,kC "_law_order" 447 "_law_order" 448 449 195 2 0 0 3 201 true 181 202 203 204 205 455 195 456) ::
 (nat_lit 207,kF "_law_order" "_law_order" Wi (.str "law_stretchdeeds_k56_whole_least_by_rows" 349) (.ref 206)) ::
 (nat_lit 211,⟨.type "code",none,.fields #[(.str "_law_signs" 458),(.str "_law_signs" 459),(.str "/claim/cut.py" 460),(.int (201) 0),(.int (3) 0),(.int (0) 0),(.int (0) 0),(.int (3) 0),(.ref 208),(.bool true),(.int (181) 0),(.ref 209),.none,.none,.none,(.ref 210),(.int (461) 0),(.int (201) 0),(.str "/claim/cut.py" 462)],#[]⟩) ::
 (nat_lit 212,kF "_law_signs" "_law_signs" Yx (.str "law_stretchdeeds_k56_whole_least_by_rows" 349) (.ref 211)) ::
 (nat_lit 216,⟨.type "code",none,.fields #[(.str "_law_algebra" 464),(.str "_law_algebra" 465),(.str "/claim/cut.py" 466),(.int (206) 0),(.int (2) 0),(.int (0) 0),(.int (0) 0),(.int (3) 0),(.ref 213),(.bool true),(.int (181) 0),(.ref 214),.none,.none,.none,(.ref 215),(.int (467) 0),(.int (206) 0),(.str "/claim/cut.py" 468)],#[]⟩) ::
 (nat_lit 217,kF "_law_algebra" "_law_algebra" vL (.str "law_stretchdeeds_k56_whole_least_by_rows" 349) (.ref 216)) ::
 (nat_lit 221,⟨.type "code",none,.fields #[(.str "_law_bent" 470),(.str "_law_bent" 471),(.str "/claim/cut.py" 472),(.int (224) 0),(.int (2) 0),(.int (0) 0),(.int (0) 0),(.int (3) 0),(.ref 218),(.bool true),(.int (181) 0),(.ref 219),.none,.none,.none,(.ref 220),(.int (473) 0),(.int (224) 0),(.str "/claim/cut.py" 474)],#[]⟩) ::
 (nat_lit 222,kF "_law_bent" "_law_bent" Yn (.str "law_stretchdeeds_k56_whole_least_by_rows" 349) (.ref 221)) ::
 (nat_lit 226,⟨.type "code",none,.fields #[(.str "_law_by_digits" 476),(.str "_law_by_digits" 477),(.str "/claim/cut.py" 478),(.int (238) 0),(.int (2) 0),(.int (0) 0),(.int (0) 0),(.int (3) 0),(.ref 223),(.bool true),(.int (181) 0),(.ref 224),.none,.none,.none,(.ref 225),(.int (479) 0),(.int (238) 0),(.str "/claim/cut.py" 480)],#[]⟩) ::
 (nat_lit 227,kF "_law_by_digits" "_law_by_digits" vp (.str "law_stretchdeeds_k56_whole_least_by_rows" 349) (.ref 226)) ::
 (nat_lit 233,kC "_law_any" 482 "_law_any" 483 484 247 1 0 0 3 228 true 181 229 230 231 232 488 247 489) ::
 (nat_lit 234,kF "_law_any" "_law_any" zaX (.str "law_stretchdeeds_k56_whole_least_by_rows" 349) (.ref 233)) ::
 (nat_lit 240,kC "_law_parting" 491 "_law_parting" 492 493 253 3 0 0 3 235 true 181 236 237 238 239 500 253 501) ::
 (nat_lit 241,kF "_law_parting" "_law_parting" Yo (.str "law_stretchdeeds_k56_whole_least_by_rows" 349) (.ref 240)) ::
 (nat_lit 247,kC "_law_doing" 503 "_law_doing" 504 505 263 5 0 0 3 242 true 181 243 244 245 246 518 263 519) ::
 (nat_lit 248,kF "_law_doing" "_law_doing" Wc (.str "law_stretchdeeds_k56_whole_least_by_rows" 349) (.ref 247)) ::
 (nat_lit 254,kC "_law_fails" 521 "_law_fails" 522 523 272 1 0 0 3 249 true 181 250 251 252 253 534 272 535) ::
 (nat_lit 255,kF "_law_fails" "_law_fails" X7 (.str "law_stretchdeeds_k56_whole_least_by_rows" 349) (.ref 254)) ::
 (nat_lit 261,kC "_law_good" 537 "_law_good" 538 539 281 1 0 0 3 256 true 181 257 258 259 260 542 281 543) ::
 (nat_lit 262,kF "_law_good" "_law_good" WY (.str "law_stretchdeeds_k56_whole_least_by_rows" 349) (.ref 261)) ::
 (nat_lit 268,kC "_law_digits" 545 "_law_digits" 546 547 286 3 0 0 3 263 true 181 264 265 266 267 553 286 554) ::
 (nat_lit 269,kF "_law_digits" "_law_digits" Xk (.str "law_stretchdeeds_k56_whole_least_by_rows" 349) (.ref 268)) ::
 (nat_lit 273,⟨.type "code",none,.fields #[(.str "_law_few" 556),(.str "_law_few" 557),(.str "/claim/cut.py" 558),(.int (292) 0),(.int (2) 0),(.int (0) 0),(.int (0) 0),(.int (3) 0),(.ref 270),(.bool true),(.int (181) 0),(.ref 271),.none,.none,.none,(.ref 272),(.int (559) 0),(.int (292) 0),(.str "/claim/cut.py" 560)],#[]⟩) ::
 (nat_lit 274,kF "_law_few" "_law_few" WK (.str "law_stretchdeeds_k56_whole_least_by_rows" 349) (.ref 273)) ::
 (nat_lit 278,⟨.type "code",none,.fields #[(.str "_law_row" 562),(.str "_law_row" 563),(.str "/claim/cut.py" 564),(.int (299) 0),(.int (2) 0),(.int (0) 0),(.int (0) 0),(.int (3) 0),(.ref 275),(.bool true),(.int (181) 0),(.ref 276),.none,.none,.none,(.ref 277),(.int (565) 0),(.int (299) 0),(.str "/claim/cut.py" 566)],#[]⟩) ::
 (nat_lit 279,kF "_law_row" "_law_row" Xn (.str "law_stretchdeeds_k56_whole_least_by_rows" 349) (.ref 278)) ::
 (nat_lit 283,⟨.type "code",none,.fields #[(.str "_law_signs_of" 568),(.str "_law_signs_of" 569),(.str "/claim/cut.py" 570),(.int (306) 0),(.int (2) 0),(.int (0) 0),(.int (0) 0),(.int (3) 0),(.ref 280),(.bool true),(.int (181) 0),(.ref 281),.none,.none,.none,(.ref 282),(.int (571) 0),(.int (306) 0),(.str "/claim/cut.py" 572)],#[]⟩) ::
 (nat_lit 284,kF "_law_signs_of" "_law_signs_of" Zh (.str "law_stretchdeeds_k56_whole_least_by_rows" 349) (.ref 283)) ::
 (nat_lit 288,⟨.type "code",none,.fields #[(.str "_law_along" 574),(.str "_law_along" 575),(.str "/claim/cut.py" 576),(.int (308) 0),(.int (5) 0),(.int (0) 0),(.int (0) 0),(.int (3) 0),(.ref 285),(.bool true),(.int (181) 0),(.ref 286),.none,.none,.none,(.ref 287),(.int (577) 0),(.int (308) 0),(.str "/claim/cut.py" 578)],#[]⟩) ::
 (nat_lit 289,kF "_law_along" "_law_along" YF (.str "law_stretchdeeds_k56_whole_least_by_rows" 349) (.ref 288)) ::
 (nat_lit 293,⟨.type "code",none,.fields #[(.str "law" 580),(.str "law" 581),(.str "/claim/cut.py" 582),(.int (314) 0),(.int (1) 0),(.int (0) 0),(.int (0) 0),(.int (3) 0),(.ref 290),(.bool true),(.int (181) 0),(.ref 291),.none,.none,.none,(.ref 292),(.int (583) 0),(.int (314) 0),(.str "/claim/cut.py" 584)],#[]⟩) ::
 (nat_lit 294,kF "law" "law" zle (.str "law_stretchdeeds_k56_whole_least_by_rows" 349) (.ref 293)) ::
 []
def kA:List Addr:=[3,52,53,59,60,66,67,73,74,80,81,87,88,94,95,99,100,104,105,109,110,114,115,119,120,124,125,131,132,138,139,145,146,150,151,157,158,162,163,167,168,172,173,177,178,182,183,187,188,192,193,199,200,206,207,211,212,216,217,221,222,226,227,233,234,240,241,247,248,254,255,261,262,268,269,273,274,278,279,283,284,288,289,293,294]
def qv:Program:={PySem.Challenge.pw_stretchdeeds_k56_whole_least_by_rows with main:={PySem.Challenge.pw_stretchdeeds_k56_whole_least_by_rows.main with body:=[1,2,4,5,6,7,8,9,10,11,13,15,16,17,18,20,21,22,23,24,25,26,27,28,29,30,31,32,33,34,35,36,37,38,39,40,41,42,43,44,45,46,47,48].map top}}
theorem kAe(P:Params):kA=(K P).map (·.1):=by kernel_rfl
set_option maxRecDepth 100000
theorem ws:PySem.Challenge.rw_stretchdeeds_k56_whole_least_by_rows.wellSaid=true:=by kernel_rfl
abbrev Xt(s:Shared):Bool:=xlAt qv [] s&&recOk (RowW.records (OpenRow.toRowW PySem.Challenge.rw_stretchdeeds_k56_whole_least_by_rows.row)) s
abbrev hk:Hook:=kHook K kA kAe
theorem hl:LeftO PySem.Challenge.pw_stretchdeeds_k56_whole_least_by_rows qv [] Xt hk.obs hk.val 6000:=λw=>by kernel_rfl
end G56
end
section
namespace PF
open PySem PySem.Spec PyProof.Rows L2
abbrev St:=L2.St
structure KD where
 d:Addr->List (Key×V)->Prop
 c:Str->Addr
instance:CoeFun KD (λ_=>Addr->List (Key×V)->Prop):=⟨KD.d⟩
inductive D where
 |non|bl (b:Bool)|int (i:Int)|str (x:Str)|tup (ds:List D)|lst (ds:List D)|dct (kvs:List (Key×D))|cl (c:Str)|ob (c:Str) (ns:List Str) (ds:List D)|dt (ks:List (List Key)) (ds:List D)
mutual
inductive Rp(K:zC)(kd:KD)(O:Addr->Prop)(H:Hp):V->D->Prop
 |non:Rp K kd O H .non .non
 |bl (b:Bool):Rp K kd O H (.bl b) (.bl b)
 |int (i:Int):Rp K kd O H (.int i) (.int i)
 |str (x:Str):Rp K kd O H (.str x) (.str x)
 |tup {a:Addr}{vs:List V}{ds:List D}:¬O a->H a=some (.tup vs)->RpL K kd O H vs ds->Rp K kd O H (.ref a) (.tup ds)
 |lst {a:Addr}{vs:List V}{ds:List D}:¬O a->Rd H a (.lst vs)->RpL K kd O H vs ds->Rp K kd O H (.ref a) (.lst ds)
 |lstK {a:Addr}{its:Array Value}{n:Nat}{vs:List V}{ds:List D}:K.lookup a=some {cls:=.type "list",data:=.seq its n}->its.size<=sizeLine->Vals vs its.toList->RpL K kd O H vs ds->Rp K kd O H (.ref a) (.lst ds)
 |dct {a:Addr}{kvs:List (Key×V)}{ds:List (Key×D)}:¬O a->Rd H a (.dK kvs)->RpM K kd O H kvs ds->Rp K kd O H (.ref a) (.dct ds)
 |dctK {a:Addr}{kvs:List (Key×V)}{ds:List (Key×D)}:kd a kvs->RpM K kd O H kvs ds->Rp K kd O H (.ref a) (.dct ds)
 |cl (c:Str):Rp K kd O H (.ref (kd.c c)) (.cl c)
 |ob {a dx:Addr}{c:Str}{ns:List Str}{vs:List V}{ds:List D}:¬O a->H a=some (.ins (kd.c c) dx (ns.zip vs))->ns.length=vs.length->RpL K kd O H vs ds->Rp K kd O H (.ref a) (.ob c ns ds)
 |dt {a:Addr}{ks:List (List Key)}{vs:List V}{ds:List D}:¬O a->H a=some (.dT (ks.zip vs))->ks.length=vs.length->RpL K kd O H vs ds->Rp K kd O H (.ref a) (.dt ks ds)
inductive RpL(K:zC)(kd:KD)(O:Addr->Prop)(H:Hp):List V->List D->Prop
 |nil:RpL K kd O H [] []
 |cons {v:V}{d:D}{vs:List V}{ds:List D}:Rp K kd O H v d->RpL K kd O H vs ds->RpL K kd O H (v::vs) (d::ds)
inductive RpM(K:zC)(kd:KD)(O:Addr->Prop)(H:Hp):List (Key×V)->List (Key×D)->Prop
 |nil:RpM K kd O H [] []
 |cons {k:Key}{v:V}{d:D}{vs:List (Key×V)}{ds:List (Key×D)}:Rp K kd O H v d->RpM K kd O H vs ds->RpM K kd O H ((k,v)::vs) ((k,d)::ds)
end
structure Grow(W:Addr->Prop)(H:Hp)(W':Addr->Prop)(H':Hp):Prop where
 keep:∀b o,H b=some o->¬W b->H' b=some o
 own:∀b,W' b->W b\/H b=none
theorem Grow.refl{W:Addr->Prop}{H:Hp}:Grow W H W H:=⟨λ_ _ h _=>h,λ_ h=>.inl h⟩
theorem Grow.trans{W W1 W2:Addr->Prop}{H H1 H2:Hp}(a:Grow W H W1 H1)(b:Grow W1 H1 W2 H2):Grow W H W2 H2 where
 keep:=λx o h n=>b.keep x o (a.keep x o h n) λq=>(a.own x q).elim n λz=>by rw[z]at h;cases h
 own:=λx q=>by
  rcases b.own x q with h|h
  · exact a.own x h
  · cases e:H x with
    |none=>exact .inr rfl
    |some o=>
     refine .inl (Classical.byContradiction λn=>?_)
     rw[a.keep x o e n]at h
     cases h
theorem Grow.less{W W':Addr->Prop}{H:Hp}(h:∀a,W' a->W a):Grow W H W' H:=⟨λ_ _ q _=>q,λb q=>.inl (h b q)⟩
abbrev Un2(F W:Addr->Prop):Addr->Prop:=λa=>F a\/W a
section
variable{K:zC}{kd:KD}{F W W':Addr->Prop}{H H':Hp}
theorem zdt{a:Addr}{u:HO}(g:Grow W H W' H')(n:¬W a)(h:Rd H a u):Rd H' a u:=by
 rcases h with h|⟨o,h⟩
 · exact .inl (g.keep _ _ h n)
 · exact .inr ⟨o,g.keep _ _ h n⟩
theorem zqB{a:Addr}{u:HO}(h:Rd H a u):H a≠none:=by
 rcases h with h|⟨o,h⟩<;>(rw[h];simp)
theorem zau{a:Addr}{u:HO}(g:Grow W H W' H')(n:¬Un2 F W a)(h:Rd H a u):¬Un2 F W' a:=λq=>
 q.elim (λz=>n (.inl z)) λz=>(g.own a z).elim (λy=>n (.inr y)) λy=>zqB h y
theorem Rp.grow(g:Grow W H W' H'){v:V}{d:D}(h:Rp K kd (Un2 F W) H v d):Rp K kd (Un2 F W') H' v d:=
 Rp.rec (motive_1:=λv d _=>Rp K kd (Un2 F W') H' v d) (motive_2:=λvs ds _=>RpL K kd (Un2 F W') H' vs ds) (motive_3:=λvs ds _=>RpM K kd (Un2 F W') H' vs ds) .non .bl .int .str (λn h _ r=>.tup (zau g n (.inl h)) (g.keep _ _ h λz=>n (.inr z)) r) (λn h _ r=>.lst (zau g n h) (zdt g (λz=>n (.inr z)) h) r) (λa e f _ r=>.lstK a e f r) (λn h _ r=>.dct (zau g n h) (zdt g (λz=>n (.inr z)) h) r) (λh _ r=>.dctK h r) .cl (λn h l _ r=>.ob (zau g n (.inl h)) (g.keep _ _ h λz=>n (.inr z)) l r) (λn h l _ r=>.dt (zau g n (.inl h)) (g.keep _ _ h λz=>n (.inr z)) l r) .nil (λ_ _ h r=>.cons h r) .nil (λ_ _ h r=>.cons h r) h
theorem RpL.ind{O:Addr->Prop}{P:List V->List D->Prop}(h0:P [] [])(h1:∀{v d vs ds},Rp K kd O H v d->RpL K kd O H vs ds->P vs ds->P (v::vs) (d::ds)){vs:List V}{ds:List D}(h:RpL K kd O H vs ds):P vs ds:=
 RpL.rec (motive_1:=λ_ _ _=>True) (motive_2:=λvs ds _=>P vs ds) (motive_3:=λ_ _ _=>True) ⟨⟩ (λ_=>⟨⟩) (λ_=>⟨⟩) (λ_=>⟨⟩) (λ_ _ _ _=>⟨⟩) (λ_ _ _ _=>⟨⟩) (λ_ _ _ _ _=>⟨⟩) (λ_ _ _ _=>⟨⟩) (λ_ _ _=>⟨⟩) (λ_=>⟨⟩) (λ_ _ _ _ _=>⟨⟩) (λ_ _ _ _ _=>⟨⟩) h0 (λa r _ ih=>h1 a r ih) ⟨⟩ (λ_ _ _ _=>⟨⟩) h
theorem RpM.ind{O:Addr->Prop}{P:List (Key×V)->List (Key×D)->Prop}(h0:P [] [])(h1:∀{k v d vs ds},Rp K kd O H v d->RpM K kd O H vs ds->P vs ds->P ((k,v)::vs) ((k,d)::ds)){vs:List (Key×V)}{ds:List (Key×D)}(h:RpM K kd O H vs ds):P vs ds:=
 RpM.rec (motive_1:=λ_ _ _=>True) (motive_2:=λ_ _ _=>True) (motive_3:=λvs ds _=>P vs ds) ⟨⟩ (λ_=>⟨⟩) (λ_=>⟨⟩) (λ_=>⟨⟩) (λ_ _ _ _=>⟨⟩) (λ_ _ _ _=>⟨⟩) (λ_ _ _ _ _=>⟨⟩) (λ_ _ _ _=>⟨⟩) (λ_ _ _=>⟨⟩) (λ_=>⟨⟩) (λ_ _ _ _ _=>⟨⟩) (λ_ _ _ _ _=>⟨⟩) ⟨⟩ (λ_ _ _ _=>⟨⟩) h0 (λa r _ ih=>h1 a r ih) h
theorem RpL.grow(g:Grow W H W' H'){vs:List V}{ds:List D}(h:RpL K kd (Un2 F W) H vs ds):RpL K kd (Un2 F W') H' vs ds:=RpL.ind .nil (λa _ r=>.cons (Rp.grow g a) r) h
theorem RpM.grow(g:Grow W H W' H'){vs:List (Key×V)}{ds:List (Key×D)}(h:RpM K kd (Un2 F W) H vs ds):RpM K kd (Un2 F W') H' vs ds:=RpM.ind .nil (λa _ r=>.cons (Rp.grow g a) r) h
theorem Rp.less{O O':Addr->Prop}(g:∀a,O' a->O a){v:V}{d:D}(h:Rp K kd O H v d):Rp K kd O' H v d:=
 Rp.rec (motive_1:=λv d _=>Rp K kd O' H v d) (motive_2:=λvs ds _=>RpL K kd O' H vs ds) (motive_3:=λvs ds _=>RpM K kd O' H vs ds) .non .bl .int .str (λn h _ r=>.tup (λz=>n (g _ z)) h r) (λn h _ r=>.lst (λz=>n (g _ z)) h r) (λa e f _ r=>.lstK a e f r) (λn h _ r=>.dct (λz=>n (g _ z)) h r) (λh _ r=>.dctK h r) .cl (λn h l _ r=>.ob (λz=>n (g _ z)) h l r) (λn h l _ r=>.dt (λz=>n (g _ z)) h l r) .nil (λ_ _ h r=>.cons h r) .nil (λ_ _ h r=>.cons h r) h
theorem RpL.less{O O':Addr->Prop}(g:∀a,O' a->O a){vs:List V}{ds:List D}(h:RpL K kd O H vs ds):RpL K kd O' H vs ds:=RpL.ind .nil (λa _ r=>.cons (Rp.less g a) r) h
theorem RpM.less{O O':Addr->Prop}(g:∀a,O' a->O a){vs:List (Key×V)}{ds:List (Key×D)}(h:RpM K kd O H vs ds):RpM K kd O' H vs ds:=RpM.ind .nil (λa _ r=>.cons (Rp.less g a) r) h
theorem RpL.length{O:Addr->Prop}{vs:List V}{ds:List D}(h:RpL K kd O H vs ds):vs.length=ds.length:=RpL.ind (P:=λvs ds=>vs.length=ds.length) rfl (λ_ _ r=>congrArg (· + 1) r) h
theorem RpM.length{O:Addr->Prop}{vs:List (Key×V)}{ds:List (Key×D)}(h:RpM K kd O H vs ds):vs.length=ds.length:=RpM.ind (P:=λvs ds=>vs.length=ds.length) rfl (λ_ _ r=>congrArg (· + 1) r) h
theorem RpL.get{O:Addr->Prop}{vs:List V}{ds:List D}{i:Nat}{d:D}(h:RpL K kd O H vs ds)(e:ds[i]? = some d):∃v,vs[i]? = some v/\Rp K kd O H v d:=
 RpL.ind (P:=λvs ds=>∀i,ds[i]? = some d->∃v,vs[i]? = some v/\Rp K kd O H v d) (λi e=>by rw[List.getElem?_nil]at e;cases e) (λa _ ih i e=>by
  cases i with
  |zero=>cases e;exact⟨_,rfl,a⟩
  |succ i=>exact ih i e) h i e
theorem RpL.append{O:Addr->Prop}{vs ws:List V}{ds es:List D}(h:RpL K kd O H vs ds)(r:RpL K kd O H ws es):RpL K kd O H (vs++ws) (ds++es):=RpL.ind (P:=λvs ds=>RpL K kd O H (vs++ws) (ds++es)) r (λa _ t=>.cons a t) h
theorem RpL.take{O:Addr->Prop}{vs:List V}{ds:List D}(n:Nat)(h:RpL K kd O H vs ds):RpL K kd O H (vs.take n) (ds.take n):=
 RpL.ind (P:=λvs ds=>∀n,RpL K kd O H (vs.take n) (ds.take n)) (λn=>by rw[List.take_nil,List.take_nil];exact .nil) (λa _ ih n=>by
  cases n with
  |zero=>exact .nil
  |succ n=>exact .cons a (ih n)) h n
theorem RpL.drop{O:Addr->Prop}{vs:List V}{ds:List D}(n:Nat)(h:RpL K kd O H vs ds):RpL K kd O H (vs.drop n) (ds.drop n):=
 RpL.ind (P:=λvs ds=>∀n,RpL K kd O H (vs.drop n) (ds.drop n)) (λn=>by rw[List.drop_nil,List.drop_nil];exact .nil) (λa b ih n=>by
  cases n with
  |zero=>exact .cons a b
  |succ n=>exact ih n) h n
theorem RpL.rep{O:Addr->Prop}{vs:List V}{ds:List D}(h:RpL K kd O H vs ds):∀k:Nat,RpL K kd O H (List.replicate k vs).flatten (List.replicate k ds).flatten
 |0=>.nil
 |k+1=>by
  rw[List.replicate_succ,List.replicate_succ,List.flatten_cons,List.flatten_cons]
  exact h.append (RpL.rep h k)
end
inductive Vw(K:zC)(kd:KD)(O:Addr->Prop)(H:Hp):V->D->Prop
 |non:Vw K kd O H .non .non
 |bl (b:Bool):Vw K kd O H (.bl b) (.bl b)
 |int (i:Int):Vw K kd O H (.int i) (.int i)
 |str (x:Str):Vw K kd O H (.str x) (.str x)
 |tup {a:Addr}{vs:List V}{ds:List D}:Rp K kd O H (.ref a) (.tup ds)->SqT K H a vs->RpL K kd O H vs ds->Vw K kd O H (.ref a) (.tup ds)
 |lst {a:Addr}{vs:List V}{ds:List D}:RdL K H a vs->RpL K kd O H vs ds->Vw K kd O H (.ref a) (.lst ds)
 |dct {a:Addr}{kvs:List (Key×V)}{ds:List (Key×D)}:(Rd H a (.dK kvs)\/kd a kvs)->RpM K kd O H kvs ds->Vw K kd O H (.ref a) (.dct ds)
 |cl (c:Str):Vw K kd O H (.ref (kd.c c)) (.cl c)
 |ob {a dx:Addr}{c:Str}{ns:List Str}{vs:List V}{ds:List D}:H a=some (.ins (kd.c c) dx (ns.zip vs))->ns.length=vs.length->RpL K kd O H vs ds->Vw K kd O H (.ref a) (.ob c ns ds)
 |dt {a:Addr}{ks:List (List Key)}{vs:List V}{ds:List D}:H a=some (.dT (ks.zip vs))->ks.length=vs.length->RpL K kd O H vs ds->Vw K kd O H (.ref a) (.dt ks ds)
theorem Rp.vw{K:zC}{kd:KD}{O:Addr->Prop}{H:Hp}{v:V}{d:D}(h:Rp K kd O H v d):Vw K kd O H v d:=by
 cases h with
 |non=>exact .non
 |bl b=>exact .bl b
 |int i=>exact .int i
 |str x=>exact .str x
 |tup n h r=>exact .tup (.tup n h r) (.inl (.inl h)) r
 |lst n h r=>exact .lst (.inl h) r
 |lstK a e f r=>exact .lst (.inr ⟨_,_,a,e,f⟩) r
 |dct n h r=>exact .dct (.inl h) r
 |dctK h r=>exact .dct (.inr h) r
 |cl c=>exact .cl c
 |ob n h l r=>exact .ob h l r
 |dt n h l r=>exact .dt h l r
theorem _root_.L2.RdL.sq{K:zC}{H:Hp}{a:Addr}{xs:List V}(h:RdL K H a xs):SqL K H a xs:=by
 rcases h with h|⟨its,n,k,z,r⟩
 · exact .inl h
 · exact .inr ⟨_,its,n,k,rfl,rfl,rfl,z,r⟩
theorem zlT{X:Cx}{pins:List (Addr×Obj)}{σ:St}{H:Hp}{s:Shared}{a:Addr}{xs:List V}(I:Inv X pins σ H s)(h:RdL X.K H a xs):
 xs.length<=sizeLine/\∃(its:List Value) (n:Nat),Vals xs its/\s.heap.get? a=some {cls:=.type "list",data:=.seq its.toArray n}:=by
 rcases h with h|⟨its,n,k,z,r⟩
 · exact h.ok I.hok
 · refine⟨by rw[r.length];simpa using z,its.toList,n,r,by simpa using I.kIn _ _ k⟩
theorem Rp.cl_eq{K:zC}{kd:KD}{O:Addr->Prop}{H:Hp}{C:Addr}{c:Str}(h:Rp K kd O H (.ref C) (.cl c)):C=kd.c c:=by
 cases h;rfl
def yu:D->Bool
 | .non=>true | .bl _=>true | .int _=>true | .str _=>true|_=>false
theorem Rp.flat{K:zC}{kd:KD}{O O':Addr->Prop}{H H':Hp}{v:V}{d:D}(h:Rp K kd O H v d)(e:yu d=true):Rp K kd O' H' v d:=by
 cases h with
 |non=>exact .non
 |bl b=>exact .bl b
 |int i=>exact .int i
 |str x=>exact .str x
 |_=>cases e
inductive Kind where
 |ls|tp|dc (ks:List Key)|ob (c:Str) (ns:List Str)|dt (ks:List (List Key))
inductive O where
 |lf (st:Bool) (d:D)|nd (k:Kind) (os:List O)
abbrev lfs(st:Bool)(d:D):O:=.lf (yu d||st) d
mutual
inductive Ro(L:Bool->V->D->Prop)(N:Addr->Prop)(H:Hp):V->O->List Addr->Prop
 |lf {st:Bool}{v:V}{d:D}:L st v d->Ro L N H v (.lf st d) []
 |ls {a:Addr}{vs:List V}{os:List O}{fp:List Addr}:H a=some (.lst vs)->RoL L N H vs os fp->Ro L N H (.ref a) (.nd .ls os) (a::fp)
 |dc {a:Addr}{ks:List Key}{vs:List V}{os:List O}{fp:List Addr}:H a=some (.dK (ks.zip vs))->ks.length=vs.length->RoL L N H vs os fp->Ro L N H (.ref a) (.nd (.dc ks) os) (a::fp)
 |ob {a dx C:Addr}{c:Str}{ns:List Str}{vs:List V}{os:List O}{fp:List Addr}:L true (.ref C) (.cl c)->H a=some (.ins C dx (ns.zip vs))->ns.length=vs.length->RoL L N H vs os fp->Ro L N H (.ref a) (.nd (.ob c ns) os) (a::fp)
 |dt {a:Addr}{ks:List (List Key)}{vs:List V}{os:List O}{fp:List Addr}:H a=some (.dT (ks.zip vs))->ks.length=vs.length->RoL L N H vs os fp->Ro L N H (.ref a) (.nd (.dt ks) os) (a::fp)
 |tp {a:Addr}{vs:List V}{os:List O}{fp:List Addr}:N a->H a=some (.tup vs)->RoL L N H vs os fp->Ro L N H (.ref a) (.nd .tp os) fp
inductive RoL(L:Bool->V->D->Prop)(N:Addr->Prop)(H:Hp):List V->List O->List Addr->Prop
 |nil:RoL L N H [] [] []
 |cons {v:V}{o:O}{vs:List V}{os:List O}{fp fq:List Addr}:Ro L N H v o fp->RoL L N H vs os fq->RoL L N H (v::vs) (o::os) (fp++fq)
end
mutual
def O.toD:O->D
 | .lf _ d=>d
 | .nd .ls os=>.lst (O.toDs os)
 | .nd .tp os=>.tup (O.toDs os)
 | .nd (.dc ks) os=>.dct (ks.zip (O.toDs os))
 | .nd (.ob c ns) os=>.ob c ns (O.toDs os)
 | .nd (.dt ks) os=>.dt ks (O.toDs os)
def O.toDs:List O->List D
 | []=>[]
 |o::r=>o.toD::O.toDs r
end
mutual
def O.str:O->Bool
 | .lf st _=>st
 | .nd _ os=>O.strs os
def O.strs:List O->Bool
 | []=>true
 |o::r=>o.str&&O.strs r
end
section
variable{L L':Bool->V->D->Prop}{N N':Addr->Prop}{H H':Hp}{K:zC}{kd:KD}{Ob:Addr->Prop}
theorem Ro.mono(hL:∀st v d,L st v d->L' st v d)(hN:∀a vs,N a->H a=some (.tup vs)->N' a/\H' a=some (.tup vs)){v:V}{o:O}{fp:List Addr}(k:∀a ∈ fp,∀u,H a=some u->H' a=some u)(h:Ro L N H v o fp):Ro L' N' H' v o fp:=
 Ro.rec (motive_1:=λv o fp _=>(∀a ∈ fp,∀u,H a=some u->H' a=some u)->Ro L' N' H' v o fp) (motive_2:=λvs os fp _=>(∀a ∈ fp,∀u,H a=some u->H' a=some u)->RoL L' N' H' vs os fp)
  (λh _=>.lf (hL _ _ _ h)) (λh _ r k=>.ls (k _ zzD _ h) (r λa m=>k a (zzB _ m))) (λh l _ r k=>.dc (k _ zzD _ h) l (r λa m=>k a (zzB _ m))) (λc h l _ r k=>.ob (hL _ _ _ c) (k _ zzD _ h) l (r λa m=>k a (zzB _ m))) (λh l _ r k=>.dt (k _ zzD _ h) l (r λa m=>k a (zzB _ m))) (λn h _ r k=>.tp (hN _ _ n h).1 (hN _ _ n h).2 (r k))
  (λ_=>.nil) (λ_ _ h r k=>.cons (h λa m=>k a (zzN _ m)) (r λa m=>k a (zzJ _ m))) h k
theorem RoL.ind{P:List V->List O->List Addr->Prop}(h0:P [] [] [])(h1:∀{v o vs os fp fq},Ro L N H v o fp->RoL L N H vs os fq->P vs os fq->P (v::vs) (o::os) (fp++fq)){vs:List V}{os:List O}{fp:List Addr}(h:RoL L N H vs os fp):P vs os fp:=
 RoL.rec (motive_1:=λ_ _ _ _=>True) (motive_2:=λvs os fp _=>P vs os fp) (λ_=>⟨⟩) (λ_ _ _=>⟨⟩) (λ_ _ _ _=>⟨⟩) (λ_ _ _ _ _=>⟨⟩) (λ_ _ _ _=>⟨⟩) (λ_ _ _ _=>⟨⟩) h0 (λa r _ ih=>h1 a r ih) h
theorem RoL.mono(hL:∀st v d,L st v d->L' st v d)(hN:∀a vs,N a->H a=some (.tup vs)->N' a/\H' a=some (.tup vs)){vs:List V}{os:List O}{fp:List Addr}(k:∀a ∈ fp,∀u,H a=some u->H' a=some u)(h:RoL L N H vs os fp):RoL L' N' H' vs os fp:=
 RoL.ind (P:=λvs os fp=>(∀a ∈ fp,∀u,H a=some u->H' a=some u)->RoL L' N' H' vs os fp) (λ_=>.nil) (λh _ r k=>.cons (Ro.mono hL hN (λa m=>k a (zzN _ m)) h) (r λa m=>k a (zzJ _ m))) h k
theorem zfJ:∀{ks:List Key}{vs:List V}{ds:List D},RpL K kd Ob H vs ds->ks.length=vs.length->RpM K kd Ob H (ks.zip vs) (ks.zip ds)
 | [],_,_,_,_=>.nil
 |_::_,_,_,.nil,e=>by simp at e
 |_::_,_,_,.cons h r,e=>.cons h (zfJ r (by simpa using e))
theorem Ro.rp(b:Bool)(hL:∀st v d,(b=true->st=true)->L st v d->Rp K kd Ob H v d)(hN:∀a,N a->¬Ob a){v:V}{o:O}{fp:List Addr}(s:b=true->o.str=true)(k:∀a ∈ fp,¬Ob a)(h:Ro L N H v o fp):Rp K kd Ob H v o.toD:=
 Ro.rec (motive_1:=λv o fp _=>(b=true->o.str=true)->(∀a ∈ fp,¬Ob a)->Rp K kd Ob H v o.toD) (motive_2:=λvs os fp _=>(b=true->O.strs os=true)->(∀a ∈ fp,¬Ob a)->RpL K kd Ob H vs (O.toDs os))
  (λh s _=>hL _ _ _ s h) (λh _ r s k=>.lst (k _ zzD) (.inl h) (r s λa m=>k a (zzB _ m))) (λh l _ r s k=>.dct (k _ zzD) (.inl h) (zfJ (r s λa m=>k a (zzB _ m)) l)) (λc h l _ r s k=>by
   have e:=(hL _ _ _ (λ_=>rfl) c).cl_eq
   subst e
   exact .ob (k _ zzD) h l (r s λa m=>k a (zzB _ m))) (λh l _ r s k=>.dt (k _ zzD) h l (r s λa m=>k a (zzB _ m))) (λn h _ r s k=>.tup (hN _ n) h (r s k))
  (λ_ _=>.nil) (λ_ _ h r s k=>.cons (h (λz=>((zyA _ _).mp (s z)).1) λa m=>k a (zzN _ m)) (r (λz=>((zyA _ _).mp (s z)).2) λa m=>k a (zzJ _ m))) h s k
theorem RoL.rp(b:Bool)(hL:∀st v d,(b=true->st=true)->L st v d->Rp K kd Ob H v d)(hN:∀a,N a->¬Ob a){vs:List V}{os:List O}{fp:List Addr}(s:b=true->O.strs os=true)(k:∀a ∈ fp,¬Ob a)(h:RoL L N H vs os fp):RpL K kd Ob H vs (O.toDs os):=
 RoL.ind (P:=λvs os fp=>(b=true->O.strs os=true)->(∀a ∈ fp,¬Ob a)->RpL K kd Ob H vs (O.toDs os)) (λ_ _=>.nil) (λh _ r s k=>.cons (Ro.rp b hL hN (λz=>((zyA _ _).mp (s z)).1) (λa m=>k a (zzN _ m)) h) (r (λz=>((zyA _ _).mp (s z)).2) λa m=>k a (zzJ _ m))) h s k
theorem RoL.length{vs:List V}{os:List O}{fp:List Addr}(h:RoL L N H vs os fp):vs.length=os.length:=RoL.ind (P:=λvs os _=>vs.length=os.length) rfl (λ_ _ r=>congrArg (· + 1) r) h
theorem zaE:∀os:List O,(O.toDs os).length=os.length
 | []=>rfl
 |_::r=>congrArg (· + 1) (zaE r)
theorem RoL.append{vs ws:List V}{os ps:List O}{f g:List Addr}(h:RoL L N H vs os f)(r:RoL L N H ws ps g):RoL L N H (vs++ws) (os++ps) (f++g):=RoL.ind (P:=λvs os f=>RoL L N H (vs++ws) (os++ps) (f++g)) r (λh _ t=>by rw[zxB];exact .cons h t) h
theorem RoL.one{v:V}{o:O}{f:List Addr}(h:Ro L N H v o f):RoL L N H [v] [o] f:=by
 have:=RoL.cons h (RoL.nil (L:=L) (N:=N) (H:=H))
 rw[zyC]at this
 exact this
theorem RoL.at_{k:Nat}{o:O}:∀{vs:List V}{os:List O}{fp:List Addr},RoL L N H vs os fp->os[k]? = some o->∃v f fo g,vs[k]? = some v/\fp=f++(fo++g)/\Ro L N H v o fo/\RoL L N H (vs.take k) (os.take k) f/\RoL L N H (vs.drop (k+1)) (os.drop (k+1)) g:=by
 induction k with
 |zero=>
  intro vs os fp h e
  cases h with
  |nil=>cases e
  |cons h r=>
   rw[List.getElem?_cons_zero]at e
   cases e
   exact⟨_,[],_,_,rfl,rfl,h,.nil,r⟩
 |succ k ih=>
  intro vs os fp h e
  cases h with
  |nil=>cases e
  |cons h r=>
   rw[List.getElem?_cons_succ]at e
   obtain⟨v,f,fo,g,e1,e2,h1,h2,h3⟩:=ih r e
   subst e2
   exact⟨v,_,fo,g,by rw[List.getElem?_cons_succ];exact e1,(zxB _ _ _).symm,h1,.cons h h2,h3⟩
theorem zeJ{α:Type}(l:List α)(k:Nat):l.eraseIdx k=l.take k++l.drop (k+1):=List.eraseIdx_eq_take_drop_succ l k
end
abbrev AS:=List (Option O)
abbrev Ad:=Nat->List Addr
def Gw(T:List Addr)(ad:Ad):Addr->Prop:=λa=>a ∈ T\/∃i,a ∈ ad i
abbrev Lv(F B G:Addr->Prop)(st:Bool):Addr->Prop:=Un2 (λa=>(st=true/\F a)\/B a) G
abbrev Lf(K:zC)(kd:KD)(F B G:Addr->Prop)(H:Hp):Bool->V->D->Prop:=λst v d=>Rp K kd (Lv F B G st) H v d
abbrev Nf(F B G:Addr->Prop):Addr->Prop:=λa=>¬Lv F B G true a
abbrev RoS(K:zC)(kd:KD)(F B G:Addr->Prop)(H:Hp):V->O->List Addr->Prop:=Ro (Lf K kd F B G H) (Nf F B G) H
abbrev YL(K:zC)(kd:KD)(F B G:Addr->Prop)(H:Hp):List V->List O->List Addr->Prop:=RoL (Lf K kd F B G H) (Nf F B G) H
def zhn(K:zC)(kd:KD)(F B G:Addr->Prop)(H:Hp):Option O->Option (Option V)->List Addr->Prop
 |none,_,fp=>fp=[]
 |some o,s,fp=>∃v,s=some (some v)/\RoS K kd F B G H v o fp
structure Rel(K:zC)(kd:KD)(F B:Addr->Prop)(T:List Addr)(ad:Ad)(as:AS)(σ:St)(H:Hp):Prop where
 len:as.length=σ.length
 out:∀i,as.length<=i->ad i=[]
 nd:∀i,(ad i).Nodup
 inj:∀i j a,a ∈ ad i->a ∈ ad j->i=j
 tnd:T.Nodup
 dis:∀i a,a ∈ ad i->a ∉ T
 ftr:∀a,F a->H a≠none
 btr:∀a,B a->H a≠none/\¬F a/\¬Gw T ad a
 gtr:∀a,Gw T ad a->H a≠none/\¬F a
 sl:∀i s,as[i]? = some s->zhn K kd F B (Gw T ad) H s σ[i]? (ad i)
inductive RV where
 |ow (o:O)|bo (i:Nat)
def Z2(K:zC)(kd:KD)(F B:Addr->Prop)(T:List Addr)(ad:Ad)(σ:St)(H:Hp)(v:V):RV->Prop
 | .ow o=>RoS K kd F B (Gw T ad) H v o T
 | .bo i=>T=[]/\σ[i]? = some (some v)
def O.frz(o:O):O:=.lf o.str o.toD
def RV.frz:RV->RV
 | .ow o=>.ow o.frz
 | .bo i=>.bo i
def O.isLf:O->Bool
 | .lf _ _=>true
 |_=>false
def O.kl:O->Option Bool
 | .lf st _=>some st
 | .nd _ os=>if os.all O.isLf=true then some (O.strs os)else none
def RV.view(as:AS):RV->Option (D×Option Bool)
 | .ow o=>some (o.toD,some o.str)
 | .bo i=>match as[i]? with
  |some (some o)=>some (o.toD,o.kl)
  |_=>none
def Obl(F B G:Addr->Prop):Option Bool->Addr->Prop
 |some st=>Lv F B G st
 |none=>λ_=>False
section
variable{K:zC}{kd:KD}{F B F' B':Addr->Prop}{G G':Addr->Prop}{T T':List Addr}{ad ad1:Ad}{as as1:AS}{σ:St}{H H1 H':Hp}{v:V}{r:RV}{o:O}{fp:List Addr}{vs:List V}{os:List O}
theorem RoS.grow(g:Grow G H G' H')(k:∀a ∈ fp,∀u,H a=some u->H' a=some u)(h:RoS K kd F B G H v o fp):RoS K kd F B G' H' v o fp:=
 Ro.mono (λst v d r=>Rp.grow g r) (λa vs n e=>⟨λz=>z.elim (λy=>n (.inl y)) λy=>(g.own a y).elim (λw=>n (.inr w)) λw=>(by rw[w]at e;cases e),g.keep a _ e (λw=>n (.inr w))⟩) k h
theorem YL.grow(g:Grow G H G' H')(k:∀a ∈ fp,∀u,H a=some u->H' a=some u)(h:YL K kd F B G H vs os fp):YL K kd F B G' H' vs os fp:=
 RoL.mono (λst v d r=>Rp.grow g r) (λa vs n e=>⟨λz=>z.elim (λy=>n (.inl y)) λy=>(g.own a y).elim (λw=>n (.inr w)) λw=>(by rw[w]at e;cases e),g.keep a _ e (λw=>n (.inr w))⟩) k h
theorem RoS.lv(g:∀st a,Lv F' B' G' st a->Lv F B G st a)(h:RoS K kd F B G H v o fp):RoS K kd F' B' G' H v o fp:=
 Ro.mono (λst v d r=>r.less (g st)) (λa vs n e=>⟨λz=>n (g true a z),e⟩) (λ_ _ _ e=>e) h
theorem YL.lv(g:∀st a,Lv F' B' G' st a->Lv F B G st a)(h:YL K kd F B G H vs os fp):YL K kd F' B' G' H vs os fp:=
 RoL.mono (λst v d r=>r.less (g st)) (λa vs n e=>⟨λz=>n (g true a z),e⟩) (λ_ _ _ e=>e) h
theorem RoS.less(g:∀a,G' a->G a)(h:RoS K kd F B G H v o fp):RoS K kd F B G' H v o fp:=RoS.lv (λ_ a z=>z.elim .inl λy=>.inr (g a y)) h
theorem Gw.drop:∀a,Gw [] ad a->Gw T ad a:=λ_ h=>h.elim (λz=>nomatch z) .inr
theorem Rel.trk(R:Rel K kd F B T ad as σ H)(st:Bool):∀a,Lv F B (Gw T ad) st a->H a≠none:=λa h=>by
 rcases h with(h|h)|h
 · exact R.ftr a h.2
 · exact(R.btr a h).1
 · exact(R.gtr a h).1
theorem Rel.tr(R:Rel K kd F B T ad as σ H)(lv:Option Bool):∀a,Obl F B (Gw T ad) lv a->H a≠none:=λa h=>by
 cases lv with
 |none=>exact h.elim
 |some st=>exact R.trk st a h
theorem zhn.lv{s:Option O}{x:Option (Option V)}(g:∀st a,Lv F' B' G' st a->Lv F B G st a)(h:zhn K kd F B G H s x fp):zhn K kd F' B' G' H s x fp:=by
 cases s with
 |none=>exact h
 |some o=>obtain⟨v,e,r⟩:=h;exact⟨v,e,RoS.lv g r⟩
theorem zhn.less{s:Option O}{x:Option (Option V)}(g:∀a,G' a->G a)(h:zhn K kd F B G H s x fp):zhn K kd F B G' H s x fp:=h.lv (λ_ a z=>z.elim .inl λy=>.inr (g a y))
theorem zhn.grow{s:Option O}{x:Option (Option V)}(g:Grow G H G' H')(k:∀a ∈ fp,∀u,H a=some u->H' a=some u)(h:zhn K kd F B G H s x fp):zhn K kd F B G' H' s x fp:=by
 cases s with
 |none=>exact h
 |some o=>obtain⟨v,e,r⟩:=h;exact⟨v,e,RoS.grow g k r⟩
theorem Rel.drop(R:Rel K kd F B T ad as σ H):Rel K kd F B [] ad as σ H where
 len:=R.len
 out:=R.out
 nd:=R.nd
 inj:=R.inj
 tnd:=zyH
 dis:=λ_ _ _ z=>nomatch z
 ftr:=R.ftr
 btr:=λa h=>let⟨h1,h2,h3⟩:=R.btr a h;⟨h1,h2,λz=>h3 (Gw.drop a z)⟩
 gtr:=λa h=>R.gtr a (Gw.drop a h)
 sl:=λi s e=>(R.sl i s e).less Gw.drop
theorem zmh(R:Rel K kd F B T ad as σ H)(h:RoS K kd F B (Gw T ad) H v o T):Rp K kd (Lv F B (Gw [] ad) o.str) H v o.toD:=
 Ro.rp o.str (λst v d hs r=>r.less λa z=>z.elim (λy=>.inl (y.elim (λx=>.inl ⟨hs x.1,x.2⟩) .inr)) λy=>.inr (Gw.drop a y))
  (λa n z=>n (z.elim (λy=>.inl (y.elim (λx=>.inl ⟨rfl,x.2⟩) .inr)) λy=>.inr (Gw.drop a y))) id
  (λa m z=>by
   rcases z with(z|z)|z|⟨i,z⟩
   · exact(R.gtr a (.inl m)).2 z.2
   · exact(R.btr a z).2.2 (.inl m)
   · cases z
   · exact R.dis i a z m) h
theorem Z2.drop(R:Rel K kd F B T ad as σ H)(h:Z2 K kd F B T ad σ H v r):Z2 K kd F B [] ad σ H v r.frz:=by
 cases r with
 |ow o=>exact .lf (zmh R h)
 |bo i=>exact⟨rfl,h.2⟩
theorem Z2.grow(g:Grow (Gw [] ad) H (Gw [] ad1) H1)(h:Z2 K kd F B [] ad σ H v r):Z2 K kd F B [] ad1 σ H1 v r:=by
 cases r with
 |ow o=>exact RoS.grow g (λ_ m=>nomatch m) h
 |bo i=>exact h
theorem zpv{vs:List V}{os:List O}{fp:List Addr}(h:YL K kd F B G H vs os fp):os.all O.isLf=true->fp=[]:=
 RoL.ind (P:=λ_ os fp=>os.all O.isLf=true->fp=[]) (λ_=>rfl) (λh _ ih e=>by
  rw[List.all_cons,zyA]at e
  rw[ih e.2,zyC]
  cases h with
  |lf=>rfl
  |ls=>cases e.1
  |dc=>cases e.1
  |ob=>cases e.1
  |dt=>cases e.1
  |tp=>cases e.1) h
theorem zgU{st:Bool}{b:Bool}(hs:b=true->st=true):∀a,Lv F B G b a->Lv F B G st a:=λa z=>z.elim (λy=>.inl (y.elim (λx=>.inl ⟨hs x.1,x.2⟩) .inr)) .inr
theorem zdL(h:YL K kd F B G H vs os fp)(e:os.all O.isLf=true):RpL K kd (Lv F B G (O.strs os)) H vs (O.toDs os):=by
 have:=zpv h e
 subst this
 exact RoL.rp (O.strs os) (λst v d hs r=>r.less (zgU hs)) (λa n z=>n (zgU (λ_=>rfl) a z)) id (by intro a m;cases m) h
theorem zbe(h:YL K kd F B G H vs os fp):RpL K kd (λ_=>False) H vs (O.toDs os):=RoL.rp false (λst v d _ r=>r.less λ_ z=>z.elim) (λ_ _ z=>z) (λz=>Bool.noConfusion z) (λ_ _ z=>z) h
theorem zjh(h:RoS K kd F B G H v o fp):Rp K kd (λ_=>False) H v o.toD:=Ro.rp false (λst v d _ r=>r.less λ_ z=>z.elim) (λ_ _ z=>z) (λz=>Bool.noConfusion z) (λ_ _ z=>z) h
theorem zjT(h:RoS K kd F B G H v o []):Rp K kd (Lv F B G o.str) H v o.toD:=
 Ro.rp o.str (λst v d hs r=>r.less (zgU hs)) (λa n z=>n (zgU (λ_=>rfl) a z)) id (by intro a m;cases m) h
theorem RoS.vw(h:RoS K kd F B G H v o fp):Vw K kd (Obl F B G o.kl) H v o.toD:=by
 cases h with
 |lf h=>exact h.vw
 |ls hH r=>
  rename_i a vs' os' fp'
  show Vw K kd (Obl F B G (if os'.all O.isLf=true then some (O.strs os')else none)) H _ (.lst (O.toDs os'))
  by_cases e:os'.all O.isLf=true
  · rw[if_pos e];exact .lst (.inl (.inl hH)) (zdL r e)
  · rw[if_neg e];exact .lst (.inl (.inl hH)) (zbe r)
 |dc hH l r=>
  rename_i a ks vs' os' fp'
  show Vw K kd (Obl F B G (if os'.all O.isLf=true then some (O.strs os')else none)) H _ (.dct (ks.zip (O.toDs os')))
  by_cases e:os'.all O.isLf=true
  · rw[if_pos e];exact .dct (.inl (.inl hH)) (zfJ (zdL r e) l)
  · rw[if_neg e];exact .dct (.inl (.inl hH)) (zfJ (zbe r) l)
 |ob hc hH l r=>
  rename_i a dx C c ns vs' os' fp'
  have ec:C=kd.c c:=hc.cl_eq
  subst ec
  show Vw K kd (Obl F B G (if os'.all O.isLf=true then some (O.strs os')else none)) H _ (.ob c ns (O.toDs os'))
  by_cases e:os'.all O.isLf=true
  · rw[if_pos e];exact .ob hH l (zdL r e)
  · rw[if_neg e];exact .ob hH l (zbe r)
 |dt hH l r=>
  rename_i a ks vs' os' fp'
  show Vw K kd (Obl F B G (if os'.all O.isLf=true then some (O.strs os')else none)) H _ (.dt ks (O.toDs os'))
  by_cases e:os'.all O.isLf=true
  · rw[if_pos e];exact .dt hH l (zdL r e)
  · rw[if_neg e];exact .dt hH l (zbe r)
 |tp n hH r=>
  rename_i a vs' os'
  show Vw K kd (Obl F B G (if os'.all O.isLf=true then some (O.strs os')else none)) H _ (.tup (O.toDs os'))
  by_cases e:os'.all O.isLf=true
  · rw[if_pos e]
    have rl:=zdL r e
    exact .tup (.tup (λz=>n (zgU (λ_=>rfl) _ z)) hH rl) (.inl (.inl hH)) rl
  · rw[if_neg e];exact .tup (.tup (λz=>z) hH (zbe r)) (.inl (.inl hH)) (zbe r)
theorem Z2.vw(R:Rel K kd F B [] ad as σ H)(h:Z2 K kd F B [] ad σ H v r){d:D}{lv:Option Bool}(e:r.view as=some (d,lv)):Vw K kd (Obl F B (Gw [] ad) lv) H v d:=by
 cases r with
 |ow o=>
  cases e
  exact(zjT h).vw
 |bo i=>
  have e:(match as[i]? with|some (some o)=>some (o.toD,o.kl)|_=>none)=some (d,lv):=e
  cases k:as[i]? with
  |none=>rw[k]at e;cases e
  |some s=>
   cases s with
   |none=>rw[k]at e;cases e
   |some o=>
    rw[k]at e
    cases e
    obtain⟨w,hw,ro⟩:=R.sl i _ k
    rw[h.2]at hw
    cases hw
    exact ro.vw
theorem Rel.add{N:List Addr}(R:Rel K kd F B T ad as σ H)(hn:N.Nodup)(hl:∀a ∈ N,H a=none)(k:∀b u,H b=some u->H' b=some u)(h1:∀a ∈ N,H' a≠none):Rel K kd F B (N++T) ad as σ H'/\Grow (Gw T ad) H (Gw (N++T) ad) H':=by
 have g:Grow (Gw T ad) H (Gw (N++T) ad) H':=⟨λb u h _=>k b u h,λb h=>by
  rcases h with h|h
  · rcases zzK.mp h with h|h
    · exact .inr (hl b h)
    · exact .inl (.inl h)
  · exact .inl (.inr h)⟩
 have kn:∀a,H a≠none->H' a≠none:=λa z=>by
  cases e:H a with
  |none=>exact absurd e z
  |some u=>rw[k a u e];simp
 refine⟨⟨R.len,R.out,R.nd,R.inj, ?_,λi a m z=>?_,λa z=>kn a (R.ftr a z),λa z=>?_,λa z=>?_,λi s e=>(R.sl i s e).grow g λa _ u h=>k a u h⟩,g⟩
 · refine zxD.mpr ⟨hn,R.tnd,λa m b m' e=>?_⟩
   subst e
   exact(R.gtr a (.inl m')).1 (hl a m)
 · rcases zzK.mp z with z|z
   · exact(R.gtr a (.inr ⟨i,m⟩)).1 (hl a z)
   · exact R.dis i a m z
 · obtain⟨b1,b2,b3⟩:=R.btr a z
   refine⟨kn a b1,b2,λy=>?_⟩
   rcases y with y|y
   · rcases zzK.mp y with y|y
     · exact b1 (hl a y)
     · exact b3 (.inl y)
   · exact b3 (.inr y)
 · rcases z with z|z
   · rcases zzK.mp z with z|z
     · exact⟨h1 a z,λf=>R.ftr a f (hl a z)⟩
     · exact⟨kn a (R.gtr a (.inl z)).1,(R.gtr a (.inl z)).2⟩
   · exact⟨kn a (R.gtr a (.inr z)).1,(R.gtr a (.inr z)).2⟩
theorem Rel.more(R:Rel K kd F B T ad as σ H)(k:∀b u,H b=some u->H' b=some u):Rel K kd F B T ad as σ H'/\Grow (Gw T ad) H (Gw T ad) H':=
 R.add (N:=[]) zyH (λ_ m=>nomatch m) k (λ_ m=>nomatch m)
theorem Rel.news(R:Rel K kd F B [] ad as σ H)(hn:T'.Nodup)(hl:∀a ∈ T',H a=none)(k:∀b u,H b=some u->H' b=some u)(h1:∀a ∈ T',H' a≠none):Rel K kd F B T' ad as σ H'/\Grow (Gw [] ad) H (Gw T' ad) H':=by
 have:=R.add hn hl k h1
 rw[zyC]at this
 exact this
end
inductive R0 where
 |im (d:D)|fl (ds:List D)|fd (kvs:List (Key×D))
def RQ(K:zC)(kd:KD)(O:Addr->Prop)(H:Hp)(Q:VK):R0->Prop
 | .im d=>∀v H',(∀b o,H b=some o->H' b=some o)->Rp K kd O H' v d->Q v H'
 | .fl ds=>∀l vs H',H l=none->(∀b o,H b=some o->H' b=some o)->H' l=some (.lst vs)->RpL K kd (Un2 O (· = l)) H' vs ds->Q (.ref l) H'
 | .fd ds=>∀l vs H',H l=none->(∀b o,H b=some o->H' b=some o)->H' l=some (.dK vs)->RpM K kd (Un2 O (· = l)) H' vs ds->Q (.ref l) H'
def wrap(lv:Option Bool):R0->Option RV
 | .im d=>if(yu d||lv.isSome)=true then some (.ow (lfs (lv.getD false) d))else none
 | .fl ds=>if(ds.all yu||lv.isSome)=true then some (.ow (.nd .ls (ds.map (lfs (lv.getD false)))))else none
 | .fd kvs=>if((kvs.map (·.2)).all yu||lv.isSome)=true then some (.ow (.nd (.dc (kvs.map (·.1))) ((kvs.map (·.2)).map (lfs (lv.getD false)))))else none
theorem bS_{α β:Type}{o:Option α}{f:α->Option β}{b:β}(h:o.bind f=some b):∃a,o=some a/\f a=some b:=by
 cases o with
 |none=>cases h
 |some a=>exact⟨a,rfl,h⟩
theorem ite_some'{α:Type}{c:Prop}[Decidable c]{a:Option α}{b:α}(h:(if c then a else none)=some b):c/\a=some b:=by
 by_cases hc:c
 · rw[if_pos hc]at h;exact⟨hc,h⟩
 · rw[if_neg hc]at h;cases h
theorem yj{α:Type}{c:Prop}[Decidable c]{a b:α}(h:(if c then some a else none)=some b):c/\a=b:=by
 by_cases hc:c
 · rw[if_pos hc]at h;cases h;exact⟨hc,rfl⟩
 · rw[if_neg hc]at h;cases h
section
variable{K:zC}{kd:KD}{F B:Addr->Prop}{G:Addr->Prop}{ad:Ad}{as:AS}{σ:St}{H H':Hp}{v:V}{r:R0}{rv:RV}{Q:VK}{lv:Option Bool}
theorem zsd{Ob:Addr->Prop}{d:D}(h:yu d=true\/lv.isSome=true)(hO:∀st,lv=some st->∀a,Lv F B G st a->Ob a)(rp:Rp K kd Ob H v d):Lf K kd F B G H (yu d||lv.getD false) v d:=by
 cases e:yu d with
 |true=>exact rp.flat e
 |false=>
  rw[e]at h
  cases lv with
  |none=>rcases h with h|h<;>cases h
  |some st=>exact rp.less (hO st rfl)
theorem zpF{Ob:Addr->Prop}{N:Addr->Prop}(hO:∀st,lv=some st->∀a,Lv F B G st a->Ob a){vs:List V}{ds:List D}(e:(ds.all yu||lv.isSome)=true)(h:RpL K kd Ob H vs ds):RoL (Lf K kd F B G H) N H vs (ds.map (lfs (lv.getD false))) []:=
 RpL.ind (P:=λvs ds=>(ds.all yu||lv.isSome)=true->RoL (Lf K kd F B G H) N H vs (ds.map (lfs (lv.getD false))) []) (λ_=>.nil) (λ{v d vs ds} h _ ih e=>by
  rw[List.all_cons]at e
  have e1:yu d=true\/lv.isSome=true:=by
   cases h1:lv.isSome<;>cases h2:yu d<;>simp[h1,h2]at e ⊢
  have e2:(ds.all yu||lv.isSome)=true:=by
   cases h1:lv.isSome with
   |true=>simp
   |false=>
    rw[h1,Bool.or_false,zyA]at e
    rw[Bool.or_false];exact e.2
  exact RoL.cons (.lf (zsd e1 hO h)) (ih e2)) h e
theorem znM{O:Addr->Prop}{vs:List (Key×V)}{ds:List (Key×D)}(h:RpM K kd O H vs ds):vs=(ds.map (·.1)).zip (vs.map (·.2))/\RpL K kd O H (vs.map (·.2)) (ds.map (·.2)):=
 RpM.ind (P:=λvs ds=>vs=(ds.map (·.1)).zip (vs.map (·.2))/\RpL K kd O H (vs.map (·.2)) (ds.map (·.2))) ⟨rfl,.nil⟩ (λh _ ih=>by
  obtain⟨h1,h2⟩:=ih
  refine⟨?_,.cons h h2⟩
  conv=>lhs;rw[h1]
  rfl) h
theorem Vb(R:Rel K kd F B [] ad as σ H)(e:wrap lv r=some rv)(q:∀v T' H',Rel K kd F B T' ad as σ H'->Z2 K kd F B T' ad σ H' v rv->Grow (Gw [] ad) H (Gw T' ad) H'->Q v H'):RQ K kd (Obl F B (Gw [] ad) lv) H Q r:=by
 have hO:∀(l:List Addr) st,lv=some st->∀a,Lv F B (Gw l ad) st a->Un2 (Obl F B (Gw [] ad) lv) (· ∈ l) a:=by
  intro l st e a z
  subst e
  rcases z with z|z|z
  · exact .inl (.inl z)
  · exact .inr z
  · exact .inl (.inr (.inr z))
 cases r with
 |im d=>
  obtain⟨c,rfl⟩:=yj e
  intro v H' k rp
  obtain⟨R',g⟩:=R.more k
  refine q v [] H' R' (.lf (zsd ((Bool.or_eq_true _ _).mp c) (λst e a z=>?_) rp)) g
  exact(hO [] st e a z).elim id λm=>nomatch m
 |fl ds=>
  obtain⟨c,rfl⟩:=yj e
  intro l vs H' hl k hl' rp
  obtain⟨R',g⟩:=R.news (T':=[l]) (by simp) (λa m=>by rw[zzP.mp m];exact hl) k (λa m=>by rw[zzP.mp m,hl'];simp)
  exact q _ [l] H' R' (.ls hl' (zpF (λst e a z=>(hO [l] st e a z).elim .inl λm=>.inr (zzP.mp m)) c rp)) g
 |fd ds=>
  obtain⟨c,rfl⟩:=yj e
  intro l vs H' hl k hl' rp
  obtain⟨R',g⟩:=R.news (T':=[l]) (by simp) (λa m=>by rw[zzP.mp m];exact hl) k (λa m=>by rw[zzP.mp m,hl'];simp)
  obtain⟨e1,r1⟩:=znM rp
  refine q _ [l] H' R' (.dc (vs:=vs.map (·.2)) (by rw[hl',<-e1]) (by rw[zD,zD,rp.length]) (zpF (λst e a z=>(hO [l] st e a z).elim .inl λm=>.inr (zzP.mp m)) c r1)) g
end
abbrev EF:=AS->Option (RV×AS)
def al(K:zC)(kd:KD)(f:EF):TE:=λσ H Q=>∃F B ad as r as',Rel K kd F B [] ad as σ H/\f as=some (r,as')/\
 ∀v T' ad' H',Rel K kd F B T' ad' as' σ H'->Z2 K kd F B T' ad' σ H' v r->Grow (Gw [] ad) H (Gw T' ad') H'->Q v H'
@[irreducible] def AE(X:Cx)(kd:KD)(e:Expr)(f:EF):Prop:=PE X e (al X.K kd f)
theorem wL{X:Cx}{e:Expr}{t t':TE}(h:PE X e t)(k:∀σ H Q,t' σ H Q->t σ H Q):PE X e t':=λpins s σ H Q I q=>h pins s σ H Q I (k σ H Q q)
section
variable{K:zC}{kd:KD}{F B:Addr->Prop}{ad:Ad}{as as1:AS}{σ:St}{H:Hp}{r:RV}{f:EF}{P:VK}
theorem zca(R:Rel K kd F B [] ad as σ H)(e:f as=some (r,as1))(k:∀v ad1 H1,Rel K kd F B [] ad1 as1 σ H1->Z2 K kd F B [] ad1 σ H1 v r.frz->Grow (Gw [] ad) H (Gw [] ad1) H1->P v H1):al K kd f σ H P:=
 ⟨F,B,ad,as,r,as1,R,e,λv T' ad' H' R' rv g=>k v ad' H' R'.drop (Z2.drop R' rv) (g.trans (Grow.less Gw.drop))⟩
end
def OpD(X:Cx)(kd:KD)(f:Value->Value->Sem Value)(g:D->D->Option R0):Prop:=
 OpR X f (λx y H Q=>∃O d e r,(∀a,O a->H a≠none)/\Vw X.K kd O H x d/\Vw X.K kd O H y e/\g d e=some r/\RQ X.K kd O H Q r)
inductive VwL(K:zC)(kd:KD)(O:Addr->Prop)(H:Hp):List V->List D->Prop
 |nil:VwL K kd O H [] []
 |cons {v:V}{d:D}{vs:List V}{ds:List D}:Vw K kd O H v d->VwL K kd O H vs ds->VwL K kd O H (v::vs) (d::ds)
def CallD(X:Cx)(kd:KD)(f:Value)(g:List D->Option R0):Prop:=
 zbw X f (λxs H Q=>∃O ds r,(∀a,O a->H a≠none)/\VwL X.K kd O H xs ds/\g ds=some r/\RQ X.K kd O H Q r)
def IxD(X:Cx)(kd:KD)(g:D->D->Option R0):Prop:=
 IxR X (λx y H Q=>∃O d e r,(∀a,O a->H a≠none)/\Vw X.K kd O H x d/\Vw X.K kd O H y e/\g d e=some r/\RQ X.K kd O H Q r)
def meet:Option Bool->Option Bool->Option Bool
 |some a,some b=>some (a&&b)
 |_,_=>none
theorem Obl.meet1{F B G:Addr->Prop}{a b:Option Bool}:∀x,Obl F B G (meet a b) x->Obl F B G a x:=λx h=>by
 cases a with
 |none=>cases b<;>exact h.elim
 |some p=>
  cases b with
  |none=>exact h.elim
  |some q=>exact zgU (λz=>((zyA _ _).mp z).1) x h
theorem Obl.meet2{F B G:Addr->Prop}{a b:Option Bool}:∀x,Obl F B G (meet a b) x->Obl F B G b x:=λx h=>by
 cases a with
 |none=>cases b<;>exact h.elim
 |some p=>
  cases b with
  |none=>exact h.elim
  |some q=>exact zgU (λz=>((zyA _ _).mp z).2) x h
theorem Vw.less{K:zC}{kd:KD}{O O':Addr->Prop}{H:Hp}{v:V}{d:D}(g:∀a,O' a->O a)(h:Vw K kd O H v d):Vw K kd O' H v d:=by
 cases h with
 |non=>exact .non
 |bl b=>exact .bl b
 |int i=>exact .int i
 |str x=>exact .str x
 |tup r s l=>exact .tup (r.less g) s (l.less g)
 |lst h l=>exact .lst h (l.less g)
 |dct h l=>exact .dct h (l.less g)
 |cl c=>exact .cl c
 |ob h k l=>exact .ob h k (l.less g)
 |dt h k l=>exact .dt h k (l.less g)
def f2(fa fb:EF)(g:D->D->Option R0):EF:=λas=>(fa as).bind λp=>(fb p.2).bind λq=>(p.1.frz.view q.2).bind λx=>(q.1.frz.view q.2).bind λy=>(g x.1 y.1).bind λr=>(wrap (meet x.2 y.2) r).bind λz=>some (z,q.2)
theorem zmq{fa fb:EF}{g:D->D->Option R0}{as as':AS}{rv:RV}(h:f2 fa fb g as=some (rv,as')):
 ∃p as1 q x y lx ly r,fa as=some (p,as1)/\fb as1=some (q,as')/\p.frz.view as'=some (x,lx)/\q.frz.view as'=some (y,ly)/\g x y=some r/\wrap (meet lx ly) r=some rv:=by
 unfold f2 at h
 obtain⟨⟨p,as1⟩,h1,h⟩:=bS_ h
 obtain⟨⟨q,as2⟩,h2,h⟩:=bS_ h
 obtain⟨⟨x,lx⟩,h3,h⟩:=bS_ h
 obtain⟨⟨y,ly⟩,h4,h⟩:=bS_ h
 obtain⟨r,h5,h⟩:=bS_ h
 obtain⟨z,h6,h⟩:=bS_ h
 cases h
 exact⟨p,as1,q,x,y,lx,ly,r,h1,h2,h3,h4,h5,h6⟩
section
variable{X:Cx}{kd:KD}{a b c:Expr}{fa fb fc:EF}{pos:Pos}
theorem al2{g:D->D->Option R0}{R2':R2}(hr:∀x y H Q,(∃O d e r,(∀a,O a->H a≠none)/\Vw X.K kd O H x d/\Vw X.K kd O H y e/\g d e=some r/\RQ X.K kd O H Q r)->R2' x y H Q)
 {σ:St}{H:Hp}{Q:VK}(h:al X.K kd (f2 fa fb g) σ H Q):tOp R2' (al X.K kd fa) (al X.K kd fb) σ H Q:=by
 obtain⟨F,B,ad,as,r,as',R,e,q⟩:=h
 obtain⟨p,as1,z,x,y,lx,ly,r0,h1,h2,h3,h4,h5,h6⟩:=zmq e
 refine zca R h1 λv ad1 H1 R1 rv1 g1=>zca R1 h2 λu ad2 H2 R2 rv2 g2=>hr _ _ _ _ ?_
 exact⟨_,x,y,r0,R2.tr _,(Z2.vw R2 (rv1.grow g2) h3).less Obl.meet1,(Z2.vw R2 rv2 h4).less Obl.meet2,h5,Vb R2 h6 λw T' H' R' rv' g'=>q w T' ad2 H' R' rv' ((g1.trans g2).trans g')⟩
theorem zts{op:Operator}{g:D->D->Option R0}(ho:OpD X kd (binaryOp op) g)(ha:AE X kd a fa)(hb':AE X kd b fb):AE X kd (.BinOp a op b pos) (f2 fa fb g):=by with_unfolding_all exact(wL (zsv ho ha hb') λσ H Q h=>al2 (λ_ _ _ _ z=>z) h)
theorem zlV{op:CmpOp}{g:D->D->Option R0}(ho:OpD X kd (compareOp op) g)(ha:AE X kd a fa)(hb':AE X kd b fb)(hm:behindInMarks op b=false):AE X kd (.Compare a [op] [b] pos) (f2 fa fb g):=by with_unfolding_all exact(wL (zqD ho ha hb' hm) λσ H Q h=>al2 (λ_ _ _ _ z=>z) h)
theorem zsB{g:D->D->Option R0}(ho:IxD X kd g)(ha:AE X kd a fa)(hb':AE X kd b fb)(hm:Wb b):AE X kd (.Subscript a b pos) (f2 fa fb g):=by with_unfolding_all exact(wL (zik ho ha hb' hm) λσ H Q h=>al2 (λ_ _ _ _ z=>z) h)
def fC(d:D):EF:=λas=>some (.ow (.lf true d),as)
def fV(i:Nat):EF:=λas=>match as[i]? with
 |some (some (.lf st d))=>some (.ow (.lf st d),as)
 |some (some (.nd _ _))=>some (.bo i,as)
 |_=>none
theorem zjw{v:V}{d:D}(h:PE X a (tC v))(hr:∀O H,Rp X.K kd O H v d):AE X kd a (fC d):=by with_unfolding_all exact(wL h λσ H Q h=>by
 obtain⟨F,B,ad,as,r,as',R,e,q⟩:=h
 cases e
 exact q v [] ad H R (.lf (hr _ _)) Grow.refl)
theorem zut{i:Nat}(h:PE X a (zdK i)):AE X kd a (fV i):=by with_unfolding_all exact(wL h λσ H Q h=>by
 obtain⟨F,B,ad,as,r,as',R,e,q⟩:=h
 unfold fV at e
 cases k:as[i]? with
 |none=>rw[k]at e;cases e
 |some s=>
  rw[k]at e
  cases s with
  |none=>cases e
  |some o=>
   obtain⟨v,h1,h2⟩:=R.sl i _ k
   cases o with
   |lf st d=>
    cases e
    have e0:ad i=[]:=by
     generalize hfp:ad i=fp at h2
     cases h2
     rfl
    rw[e0]at h2
    exact⟨v,h1,q v [] ad H R h2 Grow.refl⟩
   |nd kk os=>
    cases e
    exact⟨_,h1,q _ [] ad H R ⟨rfl,h1⟩ Grow.refl⟩)
end
def V0(ad:Ad)(i:Nat)(x:List Addr):Ad:=λj=>if j=i then x else ad j
section
variable{K:zC}{kd:KD}{F B:Addr->Prop}{T T1 T2:List Addr}{ad ad1:Ad}{as as1:AS}{σ:St}{H H1:Hp}{v:V}{r:RV}{o:O}{i:Nat}
theorem yX{x:List Addr}:V0 ad i x i=x:=if_pos rfl
theorem xj{j:Nat}{x:List Addr}(h:j≠i):V0 ad i x j=ad j:=if_neg h
theorem Zq:∀a,Gw T (V0 ad i []) a->Gw T ad a:=λa h=>by
 rcases h with h|⟨j,h⟩
 · exact .inl h
 · by_cases e:j=i
   · subst e;rw[yX]at h;cases h
   · rw[xj e]at h;exact .inr ⟨j,h⟩
theorem Vc:∀a,Gw [] (V0 ad i T) a->Gw T ad a:=λa h=>by
 rcases h with h|⟨j,h⟩
 · cases h
 · by_cases e:j=i
   · subst e;rw[yX]at h;exact .inl h
   · rw[xj e]at h;exact .inr ⟨j,h⟩
theorem zmO:∀st a,Lv F (λa=>B a\/a ∈ T) (Gw [] ad) st a->Lv F B (Gw T ad) st a:=λst a z=>by
 rcases z with(z|z|z)|z
 · exact .inl (.inl z)
 · exact .inl (.inr z)
 · exact .inr (.inl z)
 · exact .inr (Gw.drop a z)
theorem zdC:∀st a,Lv F B (Gw (T1++T2) ad) st a->Lv F (λa=>B a\/a ∈ T1) (Gw T2 ad) st a:=λst a z=>by
 rcases z with(z|z)|z|z
 · exact .inl (.inl z)
 · exact .inl (.inr (.inl z))
 · rcases zzK.mp z with z|z
   · exact .inl (.inr (.inr z))
   · exact .inr (.inl z)
 · exact .inr (.inr z)
theorem Rel.hide(R:Rel K kd F B T ad as σ H):Rel K kd F (λa=>B a\/a ∈ T) [] ad as σ H where
 len:=R.len
 out:=R.out
 nd:=R.nd
 inj:=R.inj
 tnd:=zyH
 dis:=λ_ _ _ z=>nomatch z
 ftr:=R.ftr
 btr:=λa h=>by
  rcases h with h|h
  · obtain⟨h1,h2,h3⟩:=R.btr a h
    exact⟨h1,h2,λz=>h3 (Gw.drop a z)⟩
  · exact⟨(R.gtr a (.inl h)).1,(R.gtr a (.inl h)).2,λz=>z.elim (λm=>nomatch m) λ⟨j,y⟩=>R.dis j a y h⟩
 gtr:=λa h=>R.gtr a (Gw.drop a h)
 sl:=λi s e=>(R.sl i s e).lv zmO
theorem Rel.unhide(hn:T1.Nodup)(hb:∀a ∈ T1,¬B a)(R:Rel K kd F (λa=>B a\/a ∈ T1) T2 ad as σ H):Rel K kd F B (T1++T2) ad as σ H where
 len:=R.len
 out:=R.out
 nd:=R.nd
 inj:=R.inj
 tnd:=zxD.mpr ⟨hn,R.tnd,λa m b m' e=>by subst e;exact(R.btr a (.inr m)).2.2 (.inl m')⟩
 dis:=λi a m z=>by
  rcases zzK.mp z with z|z
  · exact(R.btr a (.inr z)).2.2 (.inr ⟨i,m⟩)
  · exact R.dis i a m z
 ftr:=R.ftr
 btr:=λa h=>by
  obtain⟨h1,h2,h3⟩:=R.btr a (.inl h)
  refine⟨h1,h2,λz=>?_⟩
  rcases z with z|z
  · rcases zzK.mp z with z|z
    · exact hb a z h
    · exact h3 (.inl z)
  · exact h3 (.inr z)
 gtr:=λa h=>by
  rcases h with h|h
  · rcases zzK.mp h with h|h
    · exact⟨(R.btr a (.inr h)).1,(R.btr a (.inr h)).2.1⟩
    · exact R.gtr a (.inl h)
  · exact R.gtr a (.inr h)
 sl:=λi s e=>(R.sl i s e).lv zdC
theorem Rel.frz(R:Rel K kd F B T ad as σ H)(h:as[i]? = some (some o)):
 Rel K kd F B T (V0 ad i []) (as.set i (some o.frz)) σ H/\∃v,σ[i]? = some (some v)/\Rp K kd (Lv F B (Gw T (V0 ad i [])) o.str) H v o.toD:=by
 obtain⟨v,hv,ro⟩:=R.sl i _ h
 have rp:Rp K kd (Lv F B (Gw T (V0 ad i [])) o.str) H v o.toD:=
  Ro.rp o.str (λst v d hs r=>r.less λa z=>z.elim (λy=>.inl (y.elim (λx=>.inl ⟨hs x.1,x.2⟩) .inr)) λy=>.inr (Zq a y))
   (λa n z=>n (z.elim (λy=>.inl (y.elim (λx=>.inl ⟨rfl,x.2⟩) .inr)) λy=>.inr (Zq a y))) id
   (λa m z=>by
    rcases z with(z|z)|z|⟨j,z⟩
    · exact(R.gtr a (.inr ⟨i,m⟩)).2 z.2
    · exact(R.btr a z).2.2 (.inr ⟨i,m⟩)
    · exact R.dis i a m z
    · by_cases e:j=i
      · subst e;rw[yX]at z;cases z
      · rw[xj e]at z;exact e (R.inj j i a z m)) ro
 have hi:i<as.length:=(zzE.mp h).1
 refine⟨⟨by rw[zzS];exact R.len,λj hj=>?_,λj=>?_,λj k a h1 h2=>?_,R.tnd,λj a h1=>?_,R.ftr,λa h1=>?_,λa h1=>R.gtr a (Zq a h1),λj s e=>?_⟩,v,hv,rp⟩
 · rw[zzS]at hj
   rw[xj (by omega)];exact R.out j hj
 · by_cases e:j=i
   · subst e;rw[yX];exact zyH
   · rw[xj e];exact R.nd j
 · by_cases e:j=i
   · subst e;rw[yX]at h1;cases h1
   · by_cases e':k=i
     · subst e';rw[yX]at h2;cases h2
     · rw[xj e]at h1;rw[xj e']at h2;exact R.inj j k a h1 h2
 · by_cases e:j=i
   · subst e;rw[yX]at h1;cases h1
   · rw[xj e]at h1;exact R.dis j a h1
 · obtain⟨b1,b2,b3⟩:=R.btr a h1
   exact⟨b1,b2,λz=>b3 (Zq a z)⟩
 · by_cases q:j=i
   · subst q
     rw[zyI hi]at e
     cases e
     rw[yX]
     exact⟨v,hv,.lf rp⟩
   · rw[zzW (Ne.symm q)]at e
     rw[xj q]
     exact(R.sl j s e).less Zq
theorem Rel.put(R:Rel K kd F B T ad as σ H)(hi:i<as.length)(h:RoS K kd F B (Gw T ad) H v o T):Rel K kd F B [] (V0 ad i T) (as.set i (some o)) (σ.set i (some v)) H:=by
 have hi':i<σ.length:=by rw[<-R.len];exact hi
 refine⟨by rw[zzS,zzS];exact R.len,λj hj=>?_,λj=>?_,λj k a h1 h2=>?_,zyH,(λ_ _ _ z=>nomatch z),R.ftr,λa h1=>?_,λa h1=>R.gtr a (Vc a h1),λj s e=>?_⟩
 · rw[zzS]at hj
   rw[xj (by omega)];exact R.out j hj
 · by_cases e:j=i
   · subst e;rw[yX];exact R.tnd
   · rw[xj e];exact R.nd j
 · by_cases e:j=i
   · subst e
     rw[yX]at h1
     by_cases e':k=j
     · exact e'.symm
     · rw[xj e']at h2
       exact(R.dis k a h2 h1).elim
   · rw[xj e]at h1
     by_cases e':k=i
     · subst e'
       rw[yX]at h2
       exact(R.dis j a h1 h2).elim
     · rw[xj e']at h2
       exact R.inj j k a h1 h2
 · obtain⟨b1,b2,b3⟩:=R.btr a h1
   exact⟨b1,b2,λz=>b3 (Vc a z)⟩
 · by_cases q:j=i
   · subst q
     rw[zyI hi]at e
     cases e
     rw[yX,zyI hi']
     exact⟨v,rfl,h.less Vc⟩
   · rw[zzW (Ne.symm q)]at e
     rw[xj q,zzW (Ne.symm q)]
     exact(R.sl j s e).less Vc
def toO(as:AS):RV->Option (O×AS)
 | .ow o=>some (o,as)
 | .bo i=>match as[i]? with
  |some (some o)=>some (o.frz,as.set i (some o.frz))
  |_=>none
theorem zgK{as':AS}(R:Rel K kd F B T ad as σ H)(h:Z2 K kd F B T ad σ H v r)(e:toO as r=some (o,as')):∃ad',Rel K kd F B T ad' as' σ H/\RoS K kd F B (Gw T ad') H v o T/\∀a,Gw T ad' a->Gw T ad a:=by
 cases r with
 |ow o'=>cases e;exact⟨ad,R,h,λ_ z=>z⟩
 |bo i=>
  have e:(match as[i]? with|some (some o)=>some (o.frz,as.set i (some o.frz))|_=>none)=some (o,as'):=e
  cases k:as[i]? with
  |none=>rw[k]at e;cases e
  |some s=>
   cases s with
   |none=>rw[k]at e;cases e
   |some o1=>
    rw[k]at e
    cases e
    obtain⟨hT,hs⟩:=h
    subst hT
    obtain⟨R',w,hw,rp⟩:=R.frz k
    rw[hs]at hw
    cases hw
    exact⟨_,R',.lf rp,Zq⟩
end
abbrev TF:=AS->Option (Bool×AS)
def alT(K:zC)(kd:KD)(f:TF):TT:=λσ H Q=>∃F B ad as b as',Rel K kd F B [] ad as σ H/\f as=some (b,as')/\
 ∀ad' H',Rel K kd F B [] ad' as' σ H'->Grow (Gw [] ad) H (Gw [] ad') H'->Q b H'
@[irreducible] def AT(X:Cx)(kd:KD)(e:Expr)(f:TF):Prop:=PT X e (alT X.K kd f)
@[irreducible] def AW(X:Cx)(kd:KD)(e:Expr)(f:TF):Prop:=PW X e (alT X.K kd f)
def truth:D->Option Bool
 | .non=>some false
 | .bl b=>some b
 | .int i=>some (i != 0)
 | .str x=>if x.length<=sizeLine then some ((x.length:Int) != 0)else none
 | .tup ds=>some (!ds.isEmpty)
 | .lst ds=>some (!ds.isEmpty)
 |_=>none
def fT(f:EF):TF:=λas=>(f as).bind λp=>(p.1.frz.view p.2).bind λx=>(truth x.1).bind λb=>some (b,p.2)
def zbm(f g:TF):TF:=λas=>(f as).bind λp=>if p.1=true then g p.2 else some (false,p.2)
def zgR(f g:TF):TF:=λas=>(f as).bind λp=>if p.1=true then some (true,p.2)else g p.2
def zgy(f:TF):TF:=λas=>(f as).bind λp=>some (!p.1,p.2)
def asI:D->Option Int
 | .int i=>some i
 |_=>none
def asS:D->Option Str
 | .str i=>some i
 |_=>none
def asL:D->Option (List D)
 | .lst i=>some i
 |_=>none
def asT:D->Option (List D)
 | .tup i=>some i
 |_=>none
theorem zcw{d:D}{i:List D}(e:asL d=some i):d = .lst i:=by
 cases d with
 |lst j=>cases e;rfl
 |_=>cases e
theorem zol{d:D}{i:List D}(e:asT d=some i):d = .tup i:=by
 cases d with
 |tup j=>cases e;rfl
 |_=>cases e
theorem zjB{d:D}{c:Int}(h:asI d=some c):d = .int c:=by
 cases d with
 |int i=>cases h;rfl
 |_=>cases h
def asB:D->Option Bool
 | .bl i=>some i
 |_=>none
theorem zsF{d:D}{c:Bool}(h:asB d=some c):d = .bl c:=by
 cases d with
 |bl i=>cases h;rfl
 |_=>cases h
def rvD:RV->Option D
 | .ow (.lf _ d)=>some d
 |_=>none
theorem zps{r:RV}{d:D}(h:rvD r=some d):∃st,r = .ow (.lf st d):=by
 cases r with
 |bo i=>cases h
 |ow o=>
  cases o with
  |nd k os=>cases h
  |lf st d=>cases h;exact⟨st,rfl⟩
def rvB(r:RV):Option Bool:=(rvD r).bind asB
theorem ztE{r:RV}{c:Bool}(h:rvB r=some c):∃st,r = .ow (.lf st (.bl c)):=by
 obtain⟨d,h1,h⟩:=bS_ h
 cases zsF h
 exact zps h1
def rvI(r:RV):Option Int:=(rvD r).bind asI
theorem ztm{r:RV}{c:Int}(h:rvI r=some c):∃st,r = .ow (.lf st (.int c)):=by
 obtain⟨d,h1,h⟩:=bS_ h
 cases zjB h
 exact zps h1
def zrw{α:Type}:List α->Option (α×α)
 | [a,b]=>some (a,b)
 |_=>none
theorem zka{α:Type}{os:List α}{p:α×α}(h:zrw os=some p):os=[p.1,p.2]:=by
 cases os with
 |nil=>cases h
 |cons x r=>
  cases r with
  |nil=>cases h
  |cons y r=>
   cases r with
   |nil=>cases h;rfl
   |cons _ _=>cases h
def rvL(r:RV):Option (Bool×List D):=match r with
 | .ow (.lf s d)=>(asL d).bind λl=>some (s,l)
 |_=>none
theorem zpB{r:RV}{p:Bool×List D}(h:rvL r=some p):r = .ow (.lf p.1 (.lst p.2)):=by
 cases r with
 |bo i=>cases h
 |ow o=>
  cases o with
  |nd k os=>cases h
  |lf st d=>
   obtain⟨l,h1,h⟩:=bS_ (show(asL d).bind _=_ from h)
   cases h
   cases zcw h1
   rfl
def zsa(f g:EF):EF:=λas=>(f as).bind λp=>(rvB p.1).bind λc=>if c=true then g p.2 else some (.ow (.lf true (.bl false)),p.2)
section
variable{X:Cx}{kd:KD}{a b c:Expr}{fa fb:EF}{ta tb:TF}{pos:Pos}{es rest:List Expr}
theorem zme{e:Expr}{t t':TT}(h:PT X e t)(k:∀σ H Q,t' σ H Q->t σ H Q):PT X e t':=λpins s σ H Q I q=>h pins s σ H Q I (k σ H Q q)
theorem zqo{e:Expr}{t t':TT}(h:PW X e t)(k:∀σ H Q,t' σ H Q->t σ H Q):PW X e t':=λw pins s σ H Q I q=>h w pins s σ H Q I (k σ H Q q)
theorem zuq{O:Addr->Prop}{H:Hp}{v:V}{d:D}{k:Bool}(h:Vw X.K kd O H v d)(e:truth d=some k):ztC X.K v H k:=by
 cases h with
 |non=>cases e;rfl
 |bl b=>cases e;rfl
 |int i=>cases e;rfl
 |str x=>
  have e:(if x.length<=sizeLine then some ((x.length:Int) != 0)else none)=some k:=e
  by_cases hl:x.length<=sizeLine
  · rw[if_pos hl]at e;cases e;exact⟨hl,rfl⟩
  · rw[if_neg hl]at e;cases e
 |tup r hs hr=>
  cases e
  refine .inr (.inl ⟨_,hs, ?_⟩)
  cases hr<;>rfl
 |lst hs hr=>
  cases e
  refine .inl ⟨_,hs.sq, ?_⟩
  cases hr<;>rfl
 |dct=>cases e
 |cl=>cases e
 |ob=>cases e
 |dt=>cases e
theorem zpf(ha:AE X kd a fa)(he:∀whole,isTrue a X.env whole=(do let v <-whole;standAt a.pos;holding [v] (truthy v))):AT X kd a (fT fa):=by with_unfolding_all exact(zme (zoF ha he) λσ H Q h=>by
 obtain⟨F,B,ad,as,bb,as',R,e,q⟩:=h
 obtain⟨⟨p,as1⟩,h1,e⟩:=bS_ (show(fa as).bind _=_ from e)
 obtain⟨⟨d,lv⟩,h2,e⟩:=bS_ e
 obtain⟨k,h3,e⟩:=bS_ e
 cases e
 exact zca R h1 λv ad1 H1 R1 rv1 g1=>⟨_,zuq (Z2.vw R1 rv1 h2) h3,q ad1 H1 R1 g1⟩)
theorem zpX{op:CmpOp}{g:D->D->Option R0}(ho:OpD X kd (compareOp op) g)(hg:∀x y r,g x y=some r->∃k,r = .im (.bl k))(ha:AE X kd a fa)(hb:AE X kd b fb)(hm:behindInMarks op b=false):
 AT X kd (.Compare a [op] [b] pos) (fT (f2 fa fb g)):=by with_unfolding_all exact(zme (zqN ho ha hb hm) λσ H Q h=>by
 obtain⟨F,B,ad,as,bb,as',R,e,q⟩:=h
 obtain⟨⟨p,as1⟩,h1,e⟩:=bS_ (show(f2 fa fb g as).bind _=_ from e)
 obtain⟨⟨d,lv⟩,h2,e⟩:=bS_ e
 obtain⟨k,h3,e⟩:=bS_ e
 cases e
 obtain⟨_,_,_,x,y,_,_,r0,_,_,_,_,hp,hw⟩:=zmq h1
 obtain⟨k',rfl⟩:=hg _ _ _ hp
 cases hw
 cases h2
 cases h3
 refine al2 (λ_ _ _ _ z=>z) ⟨F,B,ad,as,_,_,R,h1,λv T' ad' H' R' rv g'=>?_⟩
 generalize hT:T'=T2 at rv R' g'
 cases rv with
 |lf rp=>
  cases rp
  exact⟨_,rfl,q ad' H' R' g'⟩)
theorem zpG(ha:AT X kd a ta):AT X kd (.UnaryOp .Not a pos) (zgy ta):=by with_unfolding_all exact(zme (zsC ha) λσ H Q h=>by
 obtain⟨F,B,ad,as,bb,as',R,e,q⟩:=h
 obtain⟨⟨p,as1⟩,h1,e⟩:=bS_ (show(ta as).bind _=_ from e)
 cases e
 exact⟨F,B,ad,as,p,_,R,h1,λad' H' R' g=>q ad' H' R' g⟩)
theorem Vd(ha:AT X kd a ta):AW X kd (.BoolOp .And [a] pos) ta:=by with_unfolding_all exact(zqY ha)
theorem zba(ha:AT X kd a ta):AW X kd (.BoolOp .Or [a] pos) ta:=by with_unfolding_all exact(zuo ha)
theorem zjk(ha:AT X kd a ta)(hb:AW X kd (.BoolOp .And (b::rest) pos) tb):AW X kd (.BoolOp .And (a::b::rest) pos) (zbm ta tb):=by with_unfolding_all exact(zqo (zuv ha hb) λσ H Q h=>by
 obtain⟨F,B,ad,as,bb,as',R,e,q⟩:=h
 obtain⟨⟨p,as1⟩,h1,e⟩:=bS_ (show(ta as).bind _=_ from e)
 refine⟨F,B,ad,as,p,as1,R,h1,λad' H' R' g=>?_⟩
 cases p with
 |true=>exact⟨F,B,ad',as1,bb,as',R',e,λad2 H2 R2 g2=>q ad2 H2 R2 (g.trans g2)⟩
 |false=>cases e;exact q ad' H' R' g)
theorem zmD(ha:AT X kd a ta)(hb:AW X kd (.BoolOp .Or (b::rest) pos) tb):AW X kd (.BoolOp .Or (a::b::rest) pos) (zgR ta tb):=by with_unfolding_all exact(zqo (zvm ha hb) λσ H Q h=>by
 obtain⟨F,B,ad,as,bb,as',R,e,q⟩:=h
 obtain⟨⟨p,as1⟩,h1,e⟩:=bS_ (show(ta as).bind _=_ from e)
 refine⟨F,B,ad,as,p,as1,R,h1,λad' H' R' g=>?_⟩
 cases p with
 |false=>exact⟨F,B,ad',as1,bb,as',R',e,λad2 H2 R2 g2=>q ad2 H2 R2 (g.trans g2)⟩
 |true=>cases e;exact q ad' H' R' g)
theorem AW.at_{e:Expr}(h:AW X kd e ta):AT X kd e ta:=by with_unfolding_all exact(PW.pt h)
theorem zvy{K:zC}{F B:Addr->Prop}{T:List Addr}{ad:Ad}{σ:St}{H:Hp}{v:V}{st c:Bool}(h:Z2 K kd F B T ad σ H v (.ow (.lf st (.bl c)))):T=[]/\v = .bl c:=by
 have h:RoS K kd F B (Gw T ad) H v (.lf st (.bl c)) T:=h
 generalize hT:Gw T ad=G at h
 cases h with
 |lf rp=>cases rp;exact⟨rfl,rfl⟩
theorem zsT{op}(ha:AE X kd a fa):AE X kd (.BoolOp op [a] pos) fa:=by with_unfolding_all exact(ztt ha)
theorem ztD(ha:AE X kd a fa)(hb:AE X kd (.BoolOp .And (b::rest) pos) fb):AE X kd (.BoolOp .And (a::b::rest) pos) (zsa fa fb):=by with_unfolding_all exact(wL (zsK ha hb) λσ H Q h=>by
 obtain⟨F,B,ad,as,r,as',R,e,q⟩:=h
 obtain⟨⟨p,as1⟩,h1,e⟩:=bS_ (show(fa as).bind _=_ from e)
 refine⟨F,B,ad,as,p,as1,R,h1,λv T' ad' H' R' rv g=>?_⟩
 obtain⟨k,e1,e⟩:=bS_ e
 obtain⟨st,rfl⟩:=ztE e1
 obtain⟨rfl,rfl⟩:=zvy rv
 cases k with
 |true=>exact⟨true,rfl,⟨F,B,ad',as1,r,as',R',e,λv T2 ad2 H2 R2 rv g2=>q v T2 ad2 H2 R2 rv (g.trans g2)⟩⟩
 |false=>
  cases e
  exact⟨false,rfl,q _ [] ad' H' R' (.lf (.bl false)) g⟩)
end
abbrev AF:=AS->Option (List RV×AS)
inductive RVs(K:zC)(kd:KD)(F B:Addr->Prop)(ad:Ad)(σ:St)(H:Hp):List V->List RV->Prop
 |nil:RVs K kd F B ad σ H [] []
 |cons {v:V}{r:RV}{vs:List V}{rs:List RV}:Z2 K kd F B [] ad σ H v r->RVs K kd F B ad σ H vs rs->RVs K kd F B ad σ H (v::vs) (r::rs)
def alA(K:zC)(kd:KD)(f:AF):TA:=λσ H Q=>∃F B ad as rs as',Rel K kd F B [] ad as σ H/\f as=some (rs,as')/\
 ∀vs ad' H',Rel K kd F B [] ad' as' σ H'->RVs K kd F B ad' σ H' vs rs->Grow (Gw [] ad) H (Gw [] ad') H'->Q vs H'
@[irreducible] def AA(X:Cx)(kd:KD)(es:List Expr)(f:AF):Prop:=PA X es (alA X.K kd f)
def aN:AF:=λas=>some ([],as)
def aC(fa:EF)(fr:AF):AF:=λas=>(fa as).bind λp=>(fr p.2).bind λq=>some (p.1.frz::q.1,q.2)
theorem zjr{X:Cx}{e:List Expr}{t t':TA}(h:PA X e t)(k:∀σ H Q,t' σ H Q->t σ H Q):PA X e t':=λpos pins s σ H Q I q=>h pos pins s σ H Q I (k σ H Q q)
abbrev DF:=AS->Option (List O×AS)
def alD(K:zC)(kd:KD)(f:DF):TA:=λσ H Q=>∃F B ad as os as',Rel K kd F B [] ad as σ H/\f as=some (os,as')/\
 ∀vs T' ad' H',Rel K kd F B T' ad' as' σ H'->YL K kd F B (Gw T' ad') H' vs os T'->Grow (Gw [] ad) H (Gw T' ad') H'->Q vs H'
@[irreducible] def AD(X:Cx)(kd:KD)(es:List Expr)(f:DF):Prop:=PA X es (alD X.K kd f)
def dN:DF:=λas=>some ([],as)
def dC(fa:EF)(fr:DF):DF:=λas=>(fa as).bind λp=>(toO p.2 p.1).bind λx=>(fr x.2).bind λq=>some (x.1::q.1,q.2)
def views(as:AS):List RV->Option (List D×Option Bool)
 | []=>some ([],some true)
 |r::rs=>(r.view as).bind λx=>(views as rs).bind λy=>some (x.1::y.1,meet x.2 y.2)
def fP(fr:AF)(g:List D->Option R0):EF:=λas=>(fr as).bind λp=>(views p.2 p.1).bind λx=>(g x.1).bind λr=>(wrap x.2 r).bind λz=>some (z,p.2)
def zqp(as:AS):RV->Option (Bool×D)
 | .ow o=>some (yu o.toD||o.str,o.toD)
 | .bo i=>match as[i]? with
  |some (some o)=>some (false,o.toD)
  |_=>none
def zcu(as:AS):List RV->Option (List (Bool×D))
 | []=>some []
 |r::rs=>(zqp as r).bind λx=>(zcu as rs).bind λy=>some (x::y)
def zN(fr:AF)(g:List (Bool×D)->Option O):EF:=λas=>(fr as).bind λp=>(zcu p.2 p.1).bind λx=>(g x).bind λo=>some (.ow o,p.2)
def RQO(K:zC)(kd:KD)(F:Addr->Prop)(H:Hp)(Q:VK)(o:O):Prop:=
 ∀v T H',T.Nodup->(∀a ∈ T,H a=none)->(∀b u,H b=some u->H' b=some u)->(∀a ∈ T,H' a≠none)->Ro (λ_ v d=>Rp K kd (Un2 F (· ∈ T)) H' v d) (λa=>¬Un2 F (· ∈ T) a) H' v o T->Q v H'
inductive RpA(K:zC)(kd:KD)(F:Addr->Prop)(H:Hp):List V->List (Bool×D)->Prop
 |nil:RpA K kd F H [] []
 |cons {v:V}{st:Bool}{d:D}{vs:List V}{ds:List (Bool×D)}:Rp K kd (λa=>st=true/\F a) H v d->RpA K kd F H vs ds->RpA K kd F H (v::vs) ((st,d)::ds)
def spD(K:zC)(kd:KD)(g:List (Bool×D)->Option O):Sp:=λvs H Q _=>∃F ds o,(∀a,F a->H a≠none)/\RpA K kd F H vs ds/\g ds=some o/\RQO K kd F H Q o
def WP(os:List O):O:=if os.all O.isLf=true then .lf (O.strs os) (.tup (O.toDs os))else .nd .tp os
def yL(fr:DF):EF:=λas=>(fr as).bind λp=>if p.1.length<=sizeLine then some (.ow (WP p.1),p.2)else none
def xU(fr:DF):EF:=λas=>(fr as).bind λp=>if p.1.length<=sizeLine then some (.ow (.nd .ls p.1),p.2)else none
section
variable{X:Cx}{kd:KD}{a b c:Expr}{fa fb:EF}{ta tb:TF}{pos:Pos}{es rest:List Expr}{fr:AF}{fd:DF}
theorem RpA.length{K:zC}{F:Addr->Prop}{H:Hp}{vs:List V}{ds:List (Bool×D)}(h:RpA K kd F H vs ds):vs.length=ds.length:=by
 induction h with
 |nil=>rfl
 |cons _ _ ih=>exact congrArg (· + 1) ih
theorem zf:AA X kd [] aN:=by with_unfolding_all exact(zjr zgJ λσ H Q h=>by
 obtain⟨F,B,ad,as,rs,as',R,e,q⟩:=h
 cases e
 exact q [] ad H R .nil Grow.refl)
theorem zrH(ha:AE X kd a fa)(hr:AA X kd es fr)(hs:starEach (a::es) X.env=(false,eval a X.env)::starEach es X.env):AA X kd (a::es) (aC fa fr):=by with_unfolding_all exact(zjr (zdc ha hr hs) λσ H Q h=>by
 obtain⟨F,B,ad,as,rs,as',R,e,q⟩:=h
 obtain⟨⟨p,as1⟩,h1,e⟩:=bS_ (show(fa as).bind _=_ from e)
 obtain⟨⟨z,as2⟩,h2,e⟩:=bS_ e
 cases e
 refine zca R h1 λv ad1 H1 R1 rv1 g1=>⟨F,B,ad1,as1,z,_,R1,h2,λvs ad2 H2 R2 rv2 g2=>?_⟩
 exact q _ ad2 H2 R2 (.cons (rv1.grow g2) rv2) (g1.trans g2))
theorem zM:AD X kd [] dN:=by with_unfolding_all exact(zjr zgJ λσ H Q h=>by
 obtain⟨F,B,ad,as,rs,as',R,e,q⟩:=h
 cases e
 exact q [] [] ad H R .nil Grow.refl)
theorem zrA(ha:AE X kd a fa)(hr:AD X kd es fd)(hs:starEach (a::es) X.env=(false,eval a X.env)::starEach es X.env):AD X kd (a::es) (dC fa fd):=by with_unfolding_all exact(zjr (zdc ha hr hs) λσ H Q h=>by
 obtain⟨F,B,ad,as,rs,as',R,e,q⟩:=h
 obtain⟨⟨p,as1⟩,h1,e⟩:=bS_ (show(fa as).bind _=_ from e)
 obtain⟨⟨o,as2⟩,h2,e⟩:=bS_ e
 obtain⟨⟨os,as3⟩,h3,e⟩:=bS_ e
 cases e
 refine⟨F,B,ad,as,p,as1,R,h1,λv T1 ad1 H1 R1 rv1 g1=>?_⟩
 obtain⟨ad2,R2,ro2,le2⟩:=zgK R1 rv1 h2
 refine⟨F,_,ad2,as2,os,_,R2.hide,h3,λvs T3 ad3 H3 R3 ro3 g3=>?_⟩
 have kT:∀a ∈ T1,∀u,H1 a=some u->H3 a=some u:=λa m u e=>g3.keep a u e λz=>z.elim (λy=>nomatch y) λ⟨i,y⟩=>R2.dis i a y m
 have r1:RoS X.K kd F B (Gw (T1++T3) ad3) H3 v o T1:=RoS.lv zdC (RoS.grow g3 kT (RoS.lv zmO ro2))
 have r3:YL X.K kd F B (Gw (T1++T3) ad3) H3 vs os T3:=YL.lv zdC ro3
 refine q _ (T1++T3) ad3 H3 (R3.unhide R2.tnd λa m z=>(R2.btr a z).2.2 (.inl m)) (.cons r1 r3) ((g1.trans (Grow.less le2)).trans ⟨λb u e n=>g3.keep b u e λz=>n (Gw.drop b z),λb z=>?_⟩)
 rcases z with z|z
 · rcases zzK.mp z with z|z
   · exact .inl (.inl z)
   · exact(g3.own b (.inl z)).elim (λy=>.inl (Gw.drop b y)) .inr
 · exact(g3.own b (.inr z)).elim (λy=>.inl (Gw.drop b y)) .inr)
theorem yO{x1}(h:AD X kd es fd):AE X kd (.Tuple es x1 pos) (yL fd):=by with_unfolding_all exact(wL (ztI h) λσ H Q h=>by
 obtain⟨F,B,ad,as,r,as',R,e,q⟩:=h
 obtain⟨⟨os,as1⟩,h1,e⟩:=bS_ (show(fd as).bind _=_ from e)
 obtain⟨hz,e⟩:=yj e
 cases e
 refine⟨F,B,ad,as,os,_,R,h1,λvs T1 ad1 H1 R1 ro1 g1=>⟨by rw[ro1.length];exact hz,λp hp=>?_⟩⟩
 have k:∀b o,H1 b=some o->upd H1 p (.tup vs) b=some o:=λb o hb=>by rw[yo (xg hb hp)];exact hb
 obtain⟨R2,g2⟩:=R1.more k
 have ro2:=YL.grow g2 (λa _ u h=>k a u h) ro1
 have np:∀st,¬Lv F B (Gw T1 ad1) st p:=λst z=>R1.trk st p z hp
 refine q _ T1 ad1 _ R2 ?_ (g1.trans g2)
 show RoS X.K kd F B (Gw T1 ad1) _ _ (WP os) T1
 unfold WP
 by_cases hl:os.all O.isLf=true
 · rw[if_pos hl]
   have:=zpv ro2 hl
   subst this
   exact .lf (.tup (np _) yZ (zdL ro2 hl))
 · rw[if_neg hl]
   exact .tp (np _) yZ ro2)
theorem xN(h:AD X kd es fd):AE X kd (.List es pos) (xU fd):=by with_unfolding_all exact(wL (zsR h) λσ H Q h=>by
 obtain⟨F,B,ad,as,r,as',R,e,q⟩:=h
 obtain⟨⟨os,as1⟩,h1,e⟩:=bS_ (show(fd as).bind _=_ from e)
 obtain⟨hz,e⟩:=yj e
 cases e
 refine⟨F,B,ad,as,os,_,R,h1,λvs T1 ad1 H1 R1 ro1 g1=>⟨by rw[ro1.length];exact hz,λp hp=>?_⟩⟩
 have k:∀b o,H1 b=some o->upd H1 p (.lst vs) b=some o:=λb o hb=>by rw[yo (xg hb hp)];exact hb
 obtain⟨R2,g2⟩:=R1.add (N:=[p]) (by simp) (λa m=>by rw[zzP.mp m];exact hp) k (λa m=>by rw[zzP.mp m,yZ];simp)
 exact q _ _ ad1 _ R2 (.ls yZ (YL.grow g2 (λa _ u h=>k a u h) ro1)) (g1.trans g2))
theorem VwL.less{K:zC}{O O':Addr->Prop}{H:Hp}(g:∀a,O' a->O a){vs:List V}{ds:List D}(h:VwL K kd O H vs ds):VwL K kd O' H vs ds:=by
 induction h with
 |nil=>exact .nil
 |cons h _ ih=>exact .cons (h.less g) ih
theorem zbh{K:zC}{F B:Addr->Prop}{ad:Ad}{as:AS}{σ:St}{H:Hp}(R:Rel K kd F B [] ad as σ H){vs:List V}{rs:List RV}{ds:List D}{lv:Option Bool}(h:RVs K kd F B ad σ H vs rs)(e:views as rs=some (ds,lv)):VwL K kd (Obl F B (Gw [] ad) lv) H vs ds:=by
 induction h generalizing ds lv with
 |nil=>cases e;exact .nil
 |cons h t ih=>
  obtain⟨⟨d,l⟩,h1,e⟩:=bS_ (show(RV.view as _).bind _=_ from e)
  obtain⟨⟨ds,l2⟩,h2,e⟩:=bS_ e
  cases e
  exact .cons ((Z2.vw R h h1).less Obl.meet1) ((ih h2).less Obl.meet2)
theorem alP{g:List D->Option R0}{σ:St}{H:Hp}{Q:VK}{R':List V->Hp->VK->Prop}(hr:∀vs H Q,(∃O ds r,(∀a,O a->H a≠none)/\VwL X.K kd O H vs ds/\g ds=some r/\RQ X.K kd O H Q r)->R' vs H Q)
 (h:al X.K kd (fP fr g) σ H Q):alA X.K kd fr σ H λvs H1=>R' vs H1 Q:=by
 obtain⟨F,B,ad,as,r,as',R,e,q⟩:=h
 obtain⟨⟨p,as1⟩,h1,e⟩:=bS_ (show(fr as).bind _=_ from e)
 obtain⟨⟨ds,lv⟩,h2,e⟩:=bS_ e
 obtain⟨z,h3,e⟩:=bS_ e
 obtain⟨y,h4,e⟩:=bS_ e
 cases e
 exact⟨F,B,ad,as,p,_,R,h1,λvs ad1 H1 R1 rv1 g1=>hr _ _ _ ⟨_,ds,z,R1.tr _,zbh R1 rv1 h2,h3,Vb R1 h4 λw T' H' R' rv' g'=>q w T' ad1 H' R' rv' (g1.trans g')⟩⟩
theorem zqW{K:zC}{F B:Addr->Prop}{ad:Ad}{as:AS}{σ:St}{H:Hp}(R:Rel K kd F B [] ad as σ H){vs:List V}{rs:List RV}{ds:List (Bool×D)}(h:RVs K kd F B ad σ H vs rs)(e:zcu as rs=some ds):RpA K kd (Lv F B (Gw [] ad) true) H vs ds:=by
 induction h generalizing ds with
 |nil=>cases e;exact .nil
 |cons h t ih=>
  rename_i v r vs rs
  obtain⟨⟨st,d⟩,h1,e⟩:=bS_ (show(zqp as r).bind _=_ from e)
  obtain⟨ds,h2,e⟩:=bS_ e
  cases e
  refine .cons ?_ (ih h2)
  cases r with
  |ow o=>
   cases h1
   cases hf:yu o.toD with
   |true=>exact(zjh h).flat hf
   |false=>
    refine(zjT h).less λa z=>?_
    have zs:o.str=true:=z.1
    rw[zs]
    exact z.2
  |bo i=>
   have e:(match as[i]? with|some (some o)=>some (false,o.toD)|_=>none)=some (st,d):=h1
   cases k:as[i]? with
   |none=>rw[k]at e;cases e
   |some s=>
    cases s with
    |none=>rw[k]at e;cases e
    |some o=>
     rw[k]at e
     cases e
     obtain⟨w,hw,ro⟩:=R.sl i _ k
     rw[h.2]at hw
     cases hw
     exact(zjh ro).less λa z=>nomatch z.1
theorem ztG{K:zC}{F B:Addr->Prop}{ad:Ad}{as:AS}{σ:St}{H:Hp}{Q:VK}{o:O}(R:Rel K kd F B [] ad as σ H)(q:∀v T' H',Rel K kd F B T' ad as σ H'->Z2 K kd F B T' ad σ H' v (.ow o)->Grow (Gw [] ad) H (Gw T' ad) H'->Q v H'):
 RQO K kd (Lv F B (Gw [] ad) true) H Q o:=λv T H' hn hl k h1 ro=>by
 obtain⟨R',g⟩:=R.news hn hl k h1
 have le:∀st a,Lv F B (Gw T ad) st a->Un2 (Lv F B (Gw [] ad) true) (· ∈ T) a:=λst a z=>by
  rcases z with(z|z)|z|z
  · exact .inl (.inl (.inl ⟨rfl,z.2⟩))
  · exact .inl (.inl (.inr z))
  · exact .inr z
  · exact .inl (.inr (.inr z))
 exact q v T H' R' (Ro.mono (λst v d r=>r.less (le st)) (λa vs n e=>⟨λz=>n (le true a z),e⟩) (λ_ _ _ e=>e) ro) g
theorem zun{g:List (Bool×D)->Option O}{σ:St}{H:Hp}{Q:VK}{E:XK}(h:al X.K kd (zN fr g) σ H Q):zsk (spD X.K kd g) [] E (alA X.K kd fr) σ H Q:=by
 obtain⟨F,B,ad,as,r,as',R,e,q⟩:=h
 obtain⟨⟨p,as1⟩,h1,e⟩:=bS_ (show(fr as).bind _=_ from e)
 obtain⟨ds,h2,e⟩:=bS_ e
 obtain⟨o,h3,e⟩:=bS_ e
 cases e
 refine⟨F,B,ad,as,p,_,R,h1,λvs ad1 H1 R1 rv1 g1=>?_⟩
 show spD X.K kd g (vs++[]) H1 Q E
 rw[zyC]
 exact⟨_,ds,o,R1.trk true,zqW R1 rv1 h2,h3,ztG R1 λw T' H' R' rv' g'=>q w T' ad1 H' R' rv' (g1.trans g')⟩
end
inductive Out where
 |nx (as:AS)|rt (o:O)|bk (as:AS)|ct (as:AS)
abbrev SF:=AS->Option Out
structure RetOk(K:zC)(kd:KD)(F:Addr->Prop)(T:List Addr)(H:Hp)(v:V)(o:O):Prop where
 nd:T.Nodup
 tr:∀a ∈ T,H a≠none
 ro:Ro (λ_ v d=>Rp K kd (Un2 F (· ∈ T)) H v d) (λa=>¬Un2 F (· ∈ T) a) H v o T
def znc(K:zC)(kd:KD)(F B:Addr->Prop)(ad:Ad)(H:Hp)(D:Ends):Out->Prop
 | .nx as'=>∀σ' ad' H',Rel K kd F B [] ad' as' σ' H'->Grow (Gw [] ad) H (Gw [] ad') H'->D.nx σ' H'
 | .bk as'=>∀σ' ad' H',Rel K kd F B [] ad' as' σ' H'->Grow (Gw [] ad) H (Gw [] ad') H'->D.bk σ' H'
 | .ct as'=>∀σ' ad' H',Rel K kd F B [] ad' as' σ' H'->Grow (Gw [] ad) H (Gw [] ad') H'->D.ct σ' H'
 | .rt o=>∀v T H',RetOk K kd F T H' v o->Grow (Gw [] ad) H (· ∈ T) H'->D.rt v H'
def be(K:zC)(kd:KD)(f:SF):TS:=λD σ H=>∃F B ad as o,Rel K kd F B [] ad as σ H/\f as=some o/\znc K kd F B ad H D o
@[irreducible] def ASt(X:Cx)(kd:KD)(st:Stmt)(f:SF):Prop:=PS X st (be X.K kd f)
@[irreducible] def ASs(X:Cx)(kd:KD)(st:List Stmt)(f:SF):Prop:=PSs X st (be X.K kd f)
theorem YJ{X:Cx}{e:Stmt}{t t':TS}(h:PS X e t)(k:∀D σ H,t' D σ H->t D σ H):PS X e t':=λpins s σ H D I q=>h pins s σ H D I (k D σ H q)
theorem zjE{X:Cx}{e:List Stmt}{t t':TS}(h:PSs X e t)(k:∀D σ H,t' D σ H->t D σ H):PSs X e t':=λpins s σ H D I q=>h pins s σ H D I (k D σ H q)
theorem znc.pre{K:zC}{kd:KD}{F B:Addr->Prop}{ad ad1:Ad}{H H1:Hp}{D:Ends}{o:Out}(g:Grow (Gw [] ad) H (Gw [] ad1) H1)(h:znc K kd F B ad H D o):znc K kd F B ad1 H1 D o:=by
 cases o with
 |nx as=>exact λσ' ad' H' R g'=>h σ' ad' H' R (g.trans g')
 |bk as=>exact λσ' ad' H' R g'=>h σ' ad' H' R (g.trans g')
 |ct as=>exact λσ' ad' H' R g'=>h σ' ad' H' R (g.trans g')
 |rt r=>exact λv T H' R g'=>h v T H' R (g.trans g')
def sNx:SF:=λas=>some (.nx as)
def zB(f g:SF):SF:=λas=>(f as).bind λo=>match o with | .nx as'=>g as'|o=>some o
def sIf(c:TF)(f g:SF):SF:=λas=>(c as).bind λp=>if p.1=true then f p.2 else g p.2
def xx(f:EF):SF:=λas=>(f as).bind λp=>some (.nx p.2)
def zpD(as:AS):RV->Option O
 | .ow o=>if o.str=true then some o else none
 | .bo i=>match as[i]? with
  |some (some o)=>if o.str=true then some o else none
  |_=>none
def yE(f:EF):SF:=λas=>(f as).bind λp=>(zpD p.2 p.1).bind λo=>some (.rt o)
def zO(z:Bool)(i:Nat)(f:EF):SF:=λas=>(f as).bind λp=>(toO p.2 (if z=true then p.1.frz else p.1)).bind λx=>if i<x.2.length then some (.nx (x.2.set i (some x.1)))else none
theorem Ro.strong{L:Bool->V->D->Prop}{N:Addr->Prop}{H:Hp}{v:V}{o:O}{fp:List Addr}(h:Ro L N H v o fp)(e:o.str=true):Ro (λst v d=>st=true/\L st v d) N H v o fp:=
 Ro.rec (motive_1:=λv o fp _=>o.str=true->Ro (λst v d=>st=true/\L st v d) N H v o fp) (motive_2:=λvs os fp _=>O.strs os=true->RoL (λst v d=>st=true/\L st v d) N H vs os fp)
  (λh e=>.lf ⟨e,h⟩) (λh _ r e=>.ls h (r e)) (λh l _ r e=>.dc h l (r e)) (λc h l _ r e=>.ob ⟨rfl,c⟩ h l (r e)) (λh l _ r e=>.dt h l (r e)) (λn h _ r e=>.tp n h (r e)) (λ_=>.nil) (λ_ _ h r e=>.cons (h ((zyA _ _).mp e).1) (r ((zyA _ _).mp e).2)) h e
section
variable{K:zC}{kd:KD}{F B:Addr->Prop}{T:List Addr}{ad ad1:Ad}{as as1:AS}{σ:St}{H H1:Hp}{v:V}{r:RV}{o:O}
theorem zmd{T':List Addr}(R:Rel K kd F B T ad as σ H)(hn:T'.Nodup)(hs:∀a ∈ T',Gw T ad a)(h:RoS K kd F B (Gw T ad) H v o T')(e:o.str=true):RetOk K kd F T' H v o:=by
 have le:∀a,Un2 F (· ∈ T') a->Lv F B (Gw T ad) true a:=λa z=>z.elim (λy=>.inl (.inl ⟨rfl,y⟩)) λy=>.inr (hs a y)
 exact⟨hn,λa m=>(R.gtr a (hs a m)).1,Ro.mono (λst v d r=>by obtain⟨rfl,r⟩:=r;exact r.less le) (λa vs n e=>⟨λz=>n (le a z),e⟩) (λ_ _ _ e=>e) (Ro.strong h e)⟩
theorem Rel.ret(R:Rel K kd F B T ad as σ H)(hr:Z2 K kd F B T ad σ H v r)(e:zpD as r=some o):∃T',RetOk K kd F T' H v o/\∀b ∈ T',Gw T ad b:=by
 cases r with
 |ow o'=>
  obtain⟨hs,rfl⟩:=yj e
  exact⟨T,zmd R R.tnd (λa m=>.inl m) hr hs,λa m=>.inl m⟩
 |bo i=>
  have e:(match as[i]? with|some (some o)=>if o.str=true then some o else none|_=>none)=some o:=e
  cases k:as[i]? with
  |none=>rw[k]at e;cases e
  |some s=>
   cases s with
   |none=>rw[k]at e;cases e
   |some o1=>
    rw[k]at e
    obtain⟨hs,rfl⟩:=yj e
    obtain⟨w,hw,ro⟩:=R.sl i _ k
    rw[hr.2]at hw
    cases hw
    exact⟨ad i,zmd R (R.nd i) (λa m=>.inr ⟨i,m⟩) ro hs,λa m=>.inr ⟨i,m⟩⟩
end
section
variable{X:Cx}{kd:KD}{st:Stmt}{sts rest:List Stmt}{a b c e:Expr}{fa fb:EF}{ta:TF}{pos:Pos}{f g:SF}
theorem yx:ASs X kd [] sNx:=by with_unfolding_all exact(zjE zrT λD σ H h=>by
 obtain⟨F,B,ad,as,o,R,e,q⟩:=h
 cases e
 exact q σ ad H R Grow.refl)
theorem zu(h1:ASt X kd st f)(h2:ASs X kd rest g):ASs X kd (st::rest) (zB f g):=by with_unfolding_all exact(zjE (zkw h1 h2) λD σ H h=>by
 obtain⟨F,B,ad,as,o,R,e,q⟩:=h
 obtain⟨o1,e1,e⟩:=bS_ (show(f as).bind _=_ from e)
 refine⟨F,B,ad,as,o1,R,e1, ?_⟩
 cases o1 with
 |nx as1=>exact λσ' ad' H' R' g'=>⟨F,B,ad',as1,o,R',e,q.pre g'⟩
 |bk as1=>cases e;exact q
 |ct as1=>cases e;exact q
 |rt r=>cases e;exact q)
theorem zj(h1:ASt X kd st f):ASs X kd [st] f:=by with_unfolding_all exact(zne h1)
def sNo:SF:=λ_=>none
theorem zuL:ASt X kd st sNo:=by with_unfolding_all exact(λpins s σ H D I h=>by obtain⟨F,B,ad,as,o,R,e,q⟩:=h;cases e)
theorem xQ(hc:AT X kd c ta)(ha:ASs X kd sts f)(hb:ASs X kd rest g):ASt X kd (.If c sts rest pos) (sIf ta f g):=by with_unfolding_all exact(YJ (zuJ hc ha hb) λD σ H h=>by
 obtain⟨F,B,ad,as,o,R,e,q⟩:=h
 obtain⟨⟨p,as1⟩,h1,e⟩:=bS_ (show(ta as).bind _=_ from e)
 refine⟨F,B,ad,as,p,as1,R,h1,λad' H' R' g=>?_⟩
 cases p with
 |true=>exact⟨F,B,ad',as1,o,R',e,q.pre g⟩
 |false=>exact⟨F,B,ad',as1,o,R',e,q.pre g⟩)
theorem Zb(he:AE X kd e fa)(hs:swapsWith e none pos.line X.env=pure false):ASt X kd (.Expr e pos) (xx fa):=by with_unfolding_all exact(YJ (zmQ he hs) λD σ H h=>by
 obtain⟨F,B,ad,as,o,R,e,q⟩:=h
 obtain⟨⟨p,as1⟩,h1,e⟩:=bS_ (show(fa as).bind _=_ from e)
 cases e
 exact⟨F,B,ad,as,p,as1,R,h1,λv T' ad' H' R' rv g=>q σ ad' H' R'.drop (g.trans (Grow.less Gw.drop))⟩)
theorem zX(he:AE X kd e fa):ASt X kd (.Return (some e) pos) (yE fa):=by with_unfolding_all exact(YJ (ztb he) λD σ H h=>by
 obtain⟨F,B,ad,as,o,R,e,q⟩:=h
 obtain⟨⟨p,as1⟩,h1,e⟩:=bS_ (show(fa as).bind _=_ from e)
 obtain⟨r,h2,e⟩:=bS_ e
 cases e
 refine⟨F,B,ad,as,p,as1,R,h1,λv T' ad' H' R' rv g=>?_⟩
 obtain⟨T2,ro,le⟩:=R'.ret rv h2
 exact q v T2 H' ro (g.trans (Grow.less le)))
theorem zqk{K:zC}{F B:Addr->Prop}{T:List Addr}{ad:Ad}{as as2:AS}{σ:St}{H:Hp}{v:V}{r:RV}{z:Bool}{o:O}{i:Nat}(R:Rel K kd F B T ad as σ H)(rv:Z2 K kd F B T ad σ H v r)
 (h2:toO as (if z=true then r.frz else r)=some (o,as2)) (hl:i<as2.length):∃ad',Rel K kd F B [] ad' (as2.set i (some o)) (σ.set i (some v)) H/\∀a,Gw [] ad' a->Gw T ad a:=by
 cases z with
 |true=>
  obtain⟨ad1,R1,ro,le⟩:=zgK R.drop (Z2.drop R rv) h2
  exact⟨_,R1.put hl ro,λa y=>Gw.drop a (le a (Vc a y))⟩
 |false=>
  obtain⟨ad1,R1,ro,le⟩:=zgK R rv h2
  exact⟨_,R1.put hl ro,λa y=>le a (Vc a y)⟩
theorem zqc{z:Bool}{i:Nat}{x:Str}{pos':Pos}(hN:X.N.Nodup)(hi:X.N[i]? = some x)(hx:Loc X.env.scope x)(he:AE X kd e fa)(hs:swapsWith e (some (.Name x pos')) pos.line X.env=pure false)(hf:X.fn x=true\/X.env.scope.names.lookup x=some .local):
 ASt X kd (.Assign [.Name x pos'] e pos) (zO z i fa):=by with_unfolding_all exact(YJ (zpL hN hi hx he hs hf) λD σ H h=>by
 obtain⟨F,B,ad,as,o,R,e,q⟩:=h
 obtain⟨⟨p,as1⟩,h1,e⟩:=bS_ (show(fa as).bind _=_ from e)
 obtain⟨⟨y,as2⟩,h2,e⟩:=bS_ e
 obtain⟨hl,e⟩:=yj e
 cases e
 refine⟨F,B,ad,as,p,as1,R,h1,λv T' ad' H' R' rv g=>?_⟩
 obtain⟨ad2,R2,le⟩:=zqk R' rv h2 hl
 exact q _ ad2 H' R2 (g.trans (Grow.less le)))
end
def W8(n:Nat)(ds:List (Bool×D)):AS:=ds.map (λx=>some (.lf x.1 x.2))++List.replicate (n-ds.length) none
def zvX:Out->Option O
 | .nx _=>some (.lf true .non)
 | .rt o=>some o
 |_=>none
def fnR(n m:Nat)(f:SF)(ds:List (Bool×D)):Option O:=if ds.length=m then(f (W8 n ds)).bind zvX else none
theorem RpA.get{K:zC}{kd:KD}{F:Addr->Prop}{H:Hp}:∀{vs:List V}{ds:List (Bool×D)}{i:Nat}{x:Bool×D},RpA K kd F H vs ds->ds[i]? = some x->∃v,vs[i]? = some v/\Rp K kd (λa=>x.1=true/\F a) H v x.2
 |_,_,_,_,.nil,e=>by simp at e
 |_,_,0,_,.cons h _,e=>by simp at e;subst e;exact⟨_,rfl,h⟩
 |_,_,i+1,_,.cons _ r,e=>by
  obtain⟨v,h1,h2⟩:=RpA.get (i:=i) r (by simpa using e)
  exact⟨v,by simpa using h1,h2⟩
theorem znB{K:zC}{kd:KD}{F:Addr->Prop}{H:Hp}{N:List Str}{vs:List V}{ds:List (Bool×D)}(ht:∀a,F a->H a≠none)(rp:RpA K kd F H vs ds):
 Rel K kd F (λ_=>False) [] (λ_=>[]) (W8 N.length ds) (L2.start N vs) H:=by
 have hl:=rp.length
 have no:∀a,¬Gw [] (λ_=>[]) a:=λa z=>z.elim (λy=>nomatch y) λ⟨_,y⟩=>nomatch y
 refine⟨by unfold W8 L2.start;simp[hl],λ_ _=>rfl,λ_=>zyH,(λ_ _ _ z=>nomatch z),zyH,(λ_ _ _ z=>nomatch z),ht,(λ_ z=>z.elim),λa z=>(no a z).elim,λi s e=>?_⟩
 unfold W8 at e
 unfold L2.start
 by_cases hi:i<ds.length
 · rw[zyN (by rw[zD];exact hi),zzG]at e
   obtain⟨d,hd,ea⟩:=zzV.mp e
   subst ea
   obtain⟨v,hv,rv⟩:=rp.get hd
   rw[zyN (by rw[zD,hl];exact hi),zzG,hv]
   refine⟨v,rfl,.lf (rv.less λa z=>?_)⟩
   rcases z with(z|z)|z
   · exact z
   · exact z.elim
   · exact(no a z).elim
 · rw[zyP (by rw[zD];omega)]at e
   have:=zzY e
   have ea:s=none:=(List.mem_replicate.mp this).2
   subst ea
   rfl
section
variable{P:Program}{w:World}{K:zC}{mg:Str->Option Value}{base:Heap}
theorem zpw{kd:KD}{F:Addr->Prop}{H H':Hp}{Q:VK}{o:O}{v:V}{T:List Addr}(q:RQO K kd F H Q o)(ro:RetOk K kd F T H' v o)(g:Grow (Gw [] λ_=>[]) H (· ∈ T) H'):Q v H':=by
 have no:∀a,¬Gw [] (λ_=>[]) a:=λa z=>z.elim (λy=>nomatch y) λ⟨_,y⟩=>nomatch y
 exact q v T H' ro.nd (λa m=>(g.own a m).resolve_left (no a)) (λb u h=>g.keep b u h (no b)) ro.tr ro.ro
theorem xG{kd:KD}{x qual:Str}{st:Stmt}{f:Addr}{fd:FuncData}{N ps:List Str}{k:Nat}{c:SF}(Fn:Fun K x qual st f fd)(S:FnScope N ps (zm st))
 (hb:∀(cdv:Value) (A:Around) (outer:List Env) (s:Shared) (H:Hp) (E:XK),Room k (A.deeper (envOfC qual (zm st) s.heap.objs.size f cdv))->ASs (zlL CX0 P w K mg base N qual (zm st) f cdv A outer s H E).nox kd (zaZ st) c):
 FnOk P w K mg base CX0 (k+1) f fd ps (spD K kd (fnR N.length ps.length c)):=by
 with_unfolding_all (
 refine Fn.ok S (λvs H Q E h=>?_) (λcdv A outer s H vs Q E hr h=>⟨_,hb cdv A outer s H E hr, ?_⟩)
 · obtain⟨F,ds,r,_,rp,e,_⟩:=h
   unfold fnR at e
   by_cases hl:ds.length=ps.length
   · rw[rp.length,hl]
   · rw[if_neg hl]at e;cases e
 · obtain⟨F,ds,r,ht,rp,e,q⟩:=h
   unfold fnR at e
   by_cases hl:ds.length=ps.length
   · rw[if_pos hl]at e
     obtain⟨o,e1,e⟩:=bS_ e
     refine⟨F,λ_=>False,λ_=>[],W8 N.length ds,o,znB ht rp,e1, ?_⟩
     cases o with
     |nx as=>cases e;exact λσ' ad' H' R g=>zpw q (T:=[]) ⟨zyH,(λ_ m=>nomatch m),.lf .non⟩ (g.trans (Grow.less (λ_ z=>nomatch z)))
     |rt o=>cases e;exact λv T H' ro g=>zpw q ro g
     |bk=>cases e
     |ct=>cases e
   · rw[if_neg hl]at e;cases e)
end
abbrev It1:=Bool×D
abbrev GF:=It1->AS->Option AS
abbrev GFs:=List It1->AS->Option AS
def kids(st:Bool)(ds:List D):List It1:=ds.map λd=>(yu d||st,d)
inductive RpI(K:zC)(kd:KD)(F B G:Addr->Prop)(H:Hp):List V->List It1->Prop
 |nil:RpI K kd F B G H [] []
 |cons {v:V}{x:It1}{vs:List V}{ds:List It1}:Rp K kd (Lv F B G x.1) H v x.2->RpI K kd F B G H vs ds->RpI K kd F B G H (v::vs) (x::ds)
def alG(K:zC)(kd:KD)(S:List Nat)(g:GF):TG:=λv σ H Q=>∃F B ad as x as',Rel K kd F B [] ad as σ H/\Rp K kd (Lv F B (Gw [] ad) x.1) H v x.2/\g x as=some as'/\
 ∀σ' ad' H',Rel K kd F B [] ad' as' σ' H'->Grow (Gw [] ad) H (Gw [] ad') H'->(∀j,j ∉ S->σ'[j]? = σ[j]?)->Q σ' H'
def zwM(K:zC)(kd:KD)(S:List Nat)(g:GFs):TGs:=λvs σ H Q=>∃F B ad as ds as',Rel K kd F B [] ad as σ H/\RpI K kd F B (Gw [] ad) H vs ds/\g ds as=some as'/\
 ∀σ' ad' H',Rel K kd F B [] ad' as' σ' H'->Grow (Gw [] ad) H (Gw [] ad') H'->(∀j,j ∉ S->σ'[j]? = σ[j]?)->Q σ' H'
@[irreducible] def AG(X:Cx)(kd:KD)(tg:Expr)(S:List Nat)(g:GF):Prop:=PG X tg (alG X.K kd S g)
@[irreducible] def AGs(X:Cx)(kd:KD)(tg:List Expr)(S:List Nat)(g:GFs):Prop:=PGs X tg (zwM X.K kd S g)
theorem ztL{X:Cx}{e:Expr}{t t':TG}(h:PG X e t)(k:∀v σ H Q,t' v σ H Q->t v σ H Q):PG X e t':=λpins s σ H v u Q I r q=>h pins s σ H v u Q I r (k v σ H Q q)
theorem zmX{X:Cx}{e:List Expr}{t t':TGs}(h:PGs X e t)(k:∀v σ H Q,t' v σ H Q->t v σ H Q):PGs X e t':=λpins s σ H v u Q I r q=>h pins s σ H v u Q I r (k v σ H Q q)
def gN(i:Nat):GF:=λx as=>if i<as.length then some (as.set i (some (.lf x.1 x.2)))else none
def gsN:GFs:=λds as=>match ds with | []=>some as|_::_=>none
def gsC(g:GF)(gs:GFs):GFs:=λds as=>match ds with | []=>none|d::r=>(g d as).bind λas1=>gs r as1
def gT(n:Nat)(gs:GFs):GF:=λx as=>match x.2 with
 | .tup ds=>if ds.length=n then gs (kids x.1 ds) as else none
 | .lst ds=>if ds.length=n then gs (kids x.1 ds) as else none
 |_=>none
section
variable{K:zC}{kd:KD}{F B G G':Addr->Prop}{H H':Hp}
theorem RpI.length{vs:List V}{ds:List It1}(h:RpI K kd F B G H vs ds):vs.length=ds.length:=by
 induction h with
 |nil=>rfl
 |cons _ _ ih=>exact congrArg (· + 1) ih
theorem RpI.grow(g:Grow G H G' H'){vs:List V}{ds:List It1}(h:RpI K kd F B G H vs ds):RpI K kd F B G' H' vs ds:=by
 induction h with
 |nil=>exact .nil
 |cons h _ ih=>exact .cons (Rp.grow g h) ih
theorem RpI.get{vs:List V}{ds:List It1}{i:Nat}{x:It1}(h:RpI K kd F B G H vs ds)(e:ds[i]? = some x):∃v,vs[i]? = some v/\Rp K kd (Lv F B G x.1) H v x.2:=by
 induction h generalizing i with
 |nil=>simp at e
 |cons h r ih=>
  cases i with
  |zero=>simp at e;subst e;exact⟨_,rfl,h⟩
  |succ i=>
   obtain⟨v,h1,h2⟩:=ih (i:=i) (by simpa using e)
   exact⟨v,by simpa using h1,h2⟩
theorem zaV{st:Bool}{vs:List V}{ds:List D}(h:RpL K kd (Lv F B G st) H vs ds):RpI K kd F B G H vs (kids st ds):=
 RpL.ind (P:=λvs ds=>RpI K kd F B G H vs (kids st ds)) .nil (λ{v d vs ds} h _ ih=>by
  refine .cons (x:=(yu d||st,d)) ?_ ih
  cases e:yu d with
  |true=>exact h.flat e
  |false=>exact h) h
end
section
variable{prog:Program}{w:World}{A:Around}{E:Value->Shared->Prop}{s:Shared}
theorem zie{it l:Addr}{items:Array Value}(hne:l≠it):∀(n i:Nat) (s:Shared) (Q:List Value->Shared->Prop),s.heap.IsListIter it l i->s.heap.IsList l items->i+n<=items.size->
 (∀h',h'.IsListIter it l (i+n)->Heap.SameBut it s.heap h'->Q ((items.toList.drop i).take n) {s with heap:=h'})->wpAny (model prog w) A (draw (.ref it) n) Q E s
 |0,i,s,Q,hit,_,_,hQ=>by
  show wpAny _ _ (pure []) Q E s
  exact zxF (by simpa using hQ s.heap hit (Heap.SameBut.refl ..))
 |n+1,i,s,Q,hit,ht,hle,hQ=>by
  have hlt:i<items.size:=by omega
  show wpAny _ _ (pyNext (.ref it) >>= _) Q E s
  refine zxE (wpAny_pyNext_list_item hit ht (x:=items[i]) (by simp[hlt]) λh₁ hit₁ hs₁=>?_)
  refine zxE (zxK (zie hne n (i+1) _ _ hit₁ (ht.extBut hs₁.extBut hne) (by omega) λh₂ hit₂ hs₂=>zxF ?_))
  have hd:items.toList.drop i=items[i]::items.toList.drop (i+1):=by simp[zyO,hlt]
  have:=hQ h₂ (by rw[show i+(n+1)=i+1+n by omega];exact hit₂) (hs₁.trans hs₂)
  rw[hd,List.take_succ_cons]at this
  exact this
theorem zkZ{l:Addr}{items:Array Value}{targets:List (Bool×(Value->Sem Unit))}{Q:Unit->Shared->Prop}(hh:A.handled=none)(ht:s.heap.IsList l items)
 (hn:targets.length=items.size) (hstar:targets.findIdx? (·.1)=none)
 (h:∀h',Heap.ExtBut s.heap.objs.size s.heap h'->wpAny (model prog w) A (assignInOrder (targets.map (·.2)) items.toList) Q E {s with heap:=h'}):
 wpAny (model prog w) A (unpack (.ref l) targets) Q E s:=by
 unfold unpack
 rw[hn,hstar]
 refine zxE (zxK ?_)
 have hlt:l≠s.heap.objs.size:=by obtain⟨o,ho,_⟩:=ht;exact zzO (zxH ho)
 unfold unpackItems
 refine zxE ?_
 unfold notIterableAtAll
 refine zxE (wpAny_specialOf ht.typeIs PySem.F.slot_list_iter.lookup ?_)
 refine zxF ?_
 simp only[Bool.false_eq_true,if_false]
 refine zxE (zxK (wpAny_pyIter_list ht ?_))
 refine zxE (zxK (zie hlt items.size 0 _ _ ⟨_,zxI _ rfl,rfl,rfl⟩ (ht.push _) (by omega) λh₁ hit₁ hs₁=>?_))
 have hall:List.take items.size (List.drop 0 items.toList)=items.toList:=by
  rw[List.drop_zero];exact List.take_of_length_le (by simp)
 rw[hall]
 rw[if_neg (by simp)]
 have ht₁:h₁.IsList l items:=(ht.push _).extBut hs₁.extBut hlt
 refine zxE (zxK (wpAny_pyNext_list_end hh hit₁ ht₁ (by simp) λh₂ he₂=>?_))
 simp only[Option.isSome_none,Bool.false_eq_true,if_false]
 exact zxF (h h₂ λb o hb e=>he₂ b o hb (hs₁.extBut b o hb (zxG _ e)))
end
section
variable{X:Cx}{kd:KD}{a b c e tg iter:Expr}{es:List Expr}{body:List Stmt}{fa fb:EF}{pos:Pos}{g:GF}{gs:GFs}{f:SF}{ta:TF}{S S1 S2:List Nat}
def zvY(K:zC)(n:Nat)(t:TGs):TG:=λv σ H Q=>∃a xs,v = .ref a/\SqL K H a xs/\xs.length=n/\t xs σ H Q
theorem zou{es:List Expr}{k:Nat}{t:TGs}{n:Nat}(hc:X.calm=true)(h:PGs X es t)(hn:(assignEach es X.env).length=n)(hst:(assignEach es X.env).findIdx? (·.1)=none):PG X (.Tuple es k pos) (zvY X.K n t):=by
 intro pins s σ H v u Q I r hw
 obtain⟨a,xs,e1,hq,hl,hw⟩:=hw
 subst e1
 cases r
 obtain⟨its,rv,ht,hz⟩:=I.list hq
 rw[assign_Tuple]
 refine zxE (wpAny_standAt (zkZ (I.ok.hd hc) ht.isList (by simp[hn,<-hl,rv.length]) hst λh' hx=>?_))
 have I1:Inv X pins σ H {s with heap:=h'}:=I.kept (t':=s.toks) λb o e=>hx b o (zzO (zxH e)) e
 exact h pins _ σ H xs _ Q I1 (by simpa using rv) hw
theorem zqC{i:Nat}{x:Str}(hN:X.N.Nodup)(hi:X.N[i]? = some x)(hx:Loc X.env.scope x)(hf:X.fn x=true\/X.env.scope.names.lookup x=some .local):AG X kd (.Name x pos) [i] (gN i):=by with_unfolding_all exact(ztL (zqL hN hi hx hf) λv σ H Q h=>by
 obtain⟨F,B,ad,as,y,as',R,rp,e,q⟩:=h
 obtain⟨hl,e⟩:=yj e
 cases e
 exact q _ _ H (R.put hl (o:=.lf y.1 y.2) (.lf rp)) (Grow.less Vc) λj hj=>zzW (λz=>hj (by rw[z];simp)))
theorem wz:AGs X kd [] [] gsN:=by with_unfolding_all exact(zmX zrJ λvs σ H Q h=>by
 obtain⟨F,B,ad,as,ds,as',R,rp,e,q⟩:=h
 cases rp with
 |nil=>cases e;exact⟨rfl,q σ ad H R Grow.refl λ_ _=>rfl⟩
 |cons=>cases e)
theorem zK(h1:AG X kd a S1 g)(h2:AGs X kd es S2 gs)(hs:(assignEach (a::es) X.env).map (·.2)=assign a X.env::(assignEach es X.env).map (·.2)):AGs X kd (a::es) (S1++S2) (gsC g gs):=by with_unfolding_all exact(zmX (zqx h1 h2 hs) λvs σ H Q h=>by
 obtain⟨F,B,ad,as,ds,as',R,rp,e,q⟩:=h
 cases rp with
 |nil=>cases e
 |cons r rr=>
  obtain⟨as1,e1,e⟩:=bS_ (show(g _ as).bind _=_ from e)
  refine⟨_,_,rfl,F,B,ad,as,_,as1,R,r,e1,λσ' ad' H' R' g' k'=>?_⟩
  exact⟨F,B,ad',as1,_,as',R',rr.grow g',e,λσ2 ad2 H2 R2 g2 k2=>q σ2 ad2 H2 R2 (g'.trans g2) λj hj=>(k2 j λz=>hj (zzJ _ z)).trans (k' j λz=>hj (zzN _ z))⟩)
theorem vJ{k n:Nat}(hc:X.calm=true)(h:AGs X kd es S gs)(hn:(assignEach es X.env).length=n)(hst:(assignEach es X.env).findIdx? (·.1)=none):AG X kd (.Tuple es k pos) S (gT n gs):=by
 with_unfolding_all (
 intro pins s σ H v u Q I r hw
 obtain⟨F,B,ad,as,⟨st,d⟩,as',R,rp,e,q⟩:=hw
 cases d with
 |tup ds=>
  have e:(if ds.length=n then gs (kids st ds) as else none)=some as':=e
  by_cases hl:ds.length=n
  · rw[if_pos hl]at e
    have go:∃a xs,v = .ref a/\SqT X.K H a xs/\RpL X.K kd (Lv F B (Gw [] ad) st) H xs ds:=by
     cases rp with
     |tup n h r=>exact⟨_,_,rfl,.inl (.inl h),r⟩
    obtain⟨a,xs,rfl,hs,rl⟩:=go
    exact ztn hc h hn hst pins s σ H _ u Q I r ⟨a,xs,rfl,hs,by rw[rl.length,hl],F,B,ad,as,_,as',R,zaV rl,e,q⟩
  · rw[if_neg hl]at e;cases e
 |lst ds=>
  have e:(if ds.length=n then gs (kids st ds) as else none)=some as':=e
  by_cases hl:ds.length=n
  · rw[if_pos hl]at e
    cases rp with
    |lstK a b c r'=>exact zou hc h hn hst pins s σ H _ u Q I r ⟨_,_,rfl,.inr ⟨_,_,_,a,rfl,rfl,rfl,b,c⟩,by rw[r'.length,hl],F,B,ad,as,_,as',R,zaV r',e,q⟩
    |lst n h' r'=>exact zou hc h hn hst pins s σ H _ u Q I r ⟨_,_,rfl,.inl h',by rw[r'.length,hl],F,B,ad,as,_,as',R,zaV r',e,q⟩
  · rw[if_neg hl]at e;cases e
 |_=>cases e)
def zdB(as:AS)(r:RV):Option (It1×AS):=(toO as r.frz).bind λx=>match x.1 with | .lf st d=>some ((st,d),x.2)|_=>none
theorem zaW{K:zC}{F B:Addr->Prop}{T:List Addr}{ad:Ad}{as as':AS}{σ:St}{H:Hp}{v:V}{r:RV}{x:It1}(R:Rel K kd F B T ad as σ H)(h:Z2 K kd F B T ad σ H v r)(e:zdB as r=some (x,as')):
 ∃ad',Rel K kd F B [] ad' as' σ H/\Rp K kd (Lv F B (Gw [] ad') x.1) H v x.2/\∀a,Gw [] ad' a->Gw T ad a:=by
 obtain⟨⟨o,as1⟩,h1,e⟩:=bS_ e
 obtain⟨ad1,R1,ro,le⟩:=zgK R.drop (Z2.drop R h) h1
 cases o with
 |lf st d=>
  cases e
  refine⟨ad1,R1, ?_,λa y=>Gw.drop a (le a y)⟩
  have:=zjT ro
  exact this
 |nd k os=>cases e
def zbk(f:EF)(g:GF):SF:=λas=>(f as).bind λp=>(zdB p.2 p.1).bind λq=>(g q.1 q.2).bind λas'=>some (.nx as')
theorem zam(he:AE X kd e fa)(hg:AG X kd tg S g)(hs:swapsWithSole [tg] e pos.line X.env=pure false)(hw:swappedStores [tg] e X.env=pure none)(h1:(assignEach [tg] X.env).map (·.2)=[assign tg X.env]):
 ASt X kd (.Assign [tg] e pos) (zbk fa g):=by with_unfolding_all exact(YJ (zjc he hg hs hw h1) λD σ H h=>by
 obtain⟨F,B,ad,as,o,R,e,q⟩:=h
 obtain⟨⟨p,as1⟩,h1,e⟩:=bS_ (show(fa as).bind _=_ from e)
 obtain⟨⟨x,as2⟩,h2,e⟩:=bS_ e
 obtain⟨as3,h3,e⟩:=bS_ e
 cases e
 refine⟨F,B,ad,as,p,as1,R,h1,λv T' ad' H' R' rv g1=>?_⟩
 obtain⟨ad2,R2,rp,le⟩:=zaW R' rv h2
 exact⟨F,B,ad2,as2,_,as3,R2,rp,h3,λσ' ad' H' R' g' _=>q σ' ad' H' R' ((g1.trans (Grow.less le)).trans g')⟩)
structure ItOk(K:zC)(kd:KD)(F B:Addr->Prop)(ad:Ad)(H:Hp)(J:It)(ds:List It1):Prop where
 all:∀(ad2:Ad) (H2:Hp),Grow (Gw [] ad) H (Gw [] ad2) H2->(∀st a,Lv F B (Gw [] ad2) st a->H2 a≠none)->∀i,(i<ds.length->J.go i H2)/\(ds.length<=i->J.stop i H2)/\
  ∀v H3,J.yld i H2 v H3->(∀b o,H2 b=some o->H3 b=some o)/\∀x,ds[i]? = some x->Rp K kd (Lv F B (Gw [] ad2) x.1) H3 v x.2
abbrev IF:=AS->Option (List It1×AS)
def alI(K:zC)(kd:KD)(f:IF):TI:=λσ H R=>∃F B ad as ds as',Rel K kd F B [] ad as σ H/\f as=some (ds,as')/\
 ∀J ad' H',Rel K kd F B [] ad' as' σ H'->Grow (Gw [] ad) H (Gw [] ad') H'->ItOk K kd F B ad' H' J ds->R J H'
@[irreducible] def AI(X:Cx)(kd:KD)(tg iter:Expr)(f:IF):Prop:=PI X tg iter (alI X.K kd f)
def forL(g:GF)(f:SF):List It1->AS->Option Out
 | [],as=>some (.nx as)
 |d::r,as=>(g d as).bind λas1=>(f as1).bind λo=>match o with
  | .nx as'=>forL g f r as'
  | .ct as'=>forL g f r as'
  | .bk as'=>some (.nx as')
  | .rt r=>some (.rt r)
def vd(fi:IF)(g:GF)(f:SF):SF:=λas=>(fi as).bind λp=>forL g f p.1 p.2
theorem xm{fi:IF}(hp:PassesOwn (model X.prog X.w) X.A X.env X.xe)(hc:X.calm=true)(hi:AI X kd tg iter fi)(hg:AG X kd tg S g)(hb:ASs X kd body f)(hs:∀x,foldedSetIterable iter X.env x=pure x):
 ASt X kd (.For tg iter body [] pos) (vd fi g f):=by with_unfolding_all exact(YJ (ztO hp hc hi hg hb hs) λD σ H h=>by
 obtain⟨F,B,ad,as,o,R,e,q⟩:=h
 obtain⟨⟨ds,as1⟩,h1,e⟩:=bS_ (show(fi as).bind _=_ from e)
 refine⟨F,B,ad,as,ds,as1,R,h1,λJ ad1 H1 R1 g1 it=>?_⟩
 refine⟨λi m σ2 H2=>m+i=ds.length/\∃ad2 as2,Rel X.K kd F B [] ad2 as2 σ2 H2/\Grow (Gw [] ad1) H1 (Gw [] ad2) H2/\forL g f (ds.drop i) as2=some o,⟨ds.length,rfl,ad1,as1,R1,Grow.refl,e⟩, ?_⟩
 rintro i m σ2 H2 ⟨hm,ad2,as2,R2,g2,e2⟩
 obtain⟨k1,k2,k3⟩:=it.all ad2 H2 g2 R2.trk i
 by_cases hi:i<ds.length
 · refine .inr ⟨k1 hi,λσ3 H3=>∃ad3 as3,Rel X.K kd F B [] ad3 as3 σ3 H3/\Grow (Gw [] ad1) H1 (Gw [] ad3) H3/\forL g f (ds.drop (i+1)) as3=some o,λσ3 H3 ⟨ad3,as3,R3,g3,e3⟩=>⟨m-1,by omega,by omega,ad3,as3,R3,g3,e3⟩,λv H3 hy=>?_⟩
   obtain⟨kp,rp⟩:=k3 v H3 hy
   rw[zyO hi]at e2
   obtain⟨as3,e3,e2⟩:=bS_ (show(g _ as2).bind _=_ from e2)
   obtain⟨o3,e4,e2⟩:=bS_ e2
   obtain⟨R3,g3⟩:=R2.more kp
   refine⟨F,B,ad2,as2,_,as3,R3,rp _ (zzC hi),e3,λσ4 ad4 H4 R4 g4 _=>?_⟩
   refine⟨F,B,ad4,as3,o3,R4,e4, ?_⟩
   have gg:=(g2.trans g3).trans g4
   cases o3 with
   |nx as5=>exact λσ5 ad5 H5 R5 g5=>⟨ad5,as5,R5,gg.trans g5,e2⟩
   |ct as5=>exact λσ5 ad5 H5 R5 g5=>⟨ad5,as5,R5,gg.trans g5,e2⟩
   |bk as5=>
    cases e2
    exact λσ5 ad5 H5 R5 g5=>q σ5 ad5 H5 R5 (g1.trans (gg.trans g5))
   |rt r=>
    cases e2
    exact λv T H5 ro g5=>q v T H5 ro (g1.trans (gg.trans g5))
 · refine .inl ⟨k2 (by omega), ?_⟩
   rw[List.drop_eq_nil_of_le (by omega)]at e2
   cases e2
   exact q σ2 ad2 H2 R2 (g1.trans g2))
def whL(c:TF)(f:SF):Nat->AS->Option Out
 |0,_=>none
 |n+1,as=>(c as).bind λp=>if p.1=true then(f p.2).bind λo=>match o with
  | .nx as'=>whL c f n as'
  | .ct as'=>whL c f n as'
  | .bk as'=>some (.nx as')
  | .rt r=>some (.rt r)else some (.nx p.2)
theorem zli{n:Nat}(hp:PassesOwn (model X.prog X.w) X.A X.env X.xe)(hc:AT X kd c ta)(hb:ASs X kd body f):ASt X kd (.While c body [] pos) (whL ta f n):=by with_unfolding_all exact(YJ (zoA hp hc hb) λD σ H h=>by
 obtain⟨F,B,ad,as,o,R,e,q⟩:=h
 refine⟨λm σ2 H2=>∃ad2 as2,Rel X.K kd F B [] ad2 as2 σ2 H2/\Grow (Gw [] ad) H (Gw [] ad2) H2/\whL ta f m as2=some o,⟨n,ad,as,R,Grow.refl,e⟩, ?_⟩
 rintro m σ2 H2 ⟨ad2,as2,R2,g2,e2⟩
 cases m with
 |zero=>cases e2
 |succ m=>
  obtain⟨⟨p,as3⟩,e3,e2⟩:=bS_ (show(ta as2).bind _=_ from e2)
  refine⟨F,B,ad2,as2,p,as3,R2,e3,λad3 H3 R3 g3=>?_⟩
  cases p with
  |true=>
   rw[if_pos rfl]at e2 ⊢
   obtain⟨o3,e4,e2⟩:=bS_ e2
   refine⟨λσ3 H3=>∃ad3 as3,Rel X.K kd F B [] ad3 as3 σ3 H3/\Grow (Gw [] ad) H (Gw [] ad3) H3/\whL ta f m as3=some o,λσ3 H3 h=>⟨m,by omega,h⟩,F,B,ad3,as3,o3,R3,e4, ?_⟩
   have gg:=g2.trans g3
   cases o3 with
   |nx as5=>exact λσ5 ad5 H5 R5 g5=>⟨ad5,as5,R5,gg.trans g5,e2⟩
   |ct as5=>exact λσ5 ad5 H5 R5 g5=>⟨ad5,as5,R5,gg.trans g5,e2⟩
   |bk as5=>
    cases e2
    exact λσ5 ad5 H5 R5 g5=>q σ5 ad5 H5 R5 (gg.trans g5)
   |rt r=>
    cases e2
    exact λv T H5 ro g5=>q v T H5 ro (gg.trans g5)
  |false=>
   rw[if_neg zyU]at e2 ⊢
   cases e2
   exact q σ2 ad3 H3 R3 (g2.trans g3))
def zkp:It1->Option (List It1)
 |(st,.lst ds)=>some (kids st ds)
 |(st,.tup ds)=>some (kids st ds)
 |_=>none
def zeq(f:EF):IF:=λas=>(f as).bind λp=>(zdB p.2 p.1).bind λq=>(zkp q.1).bind λds=>some (ds,q.2)
theorem zmC{K:zC}{F B:Addr->Prop}{ad:Ad}{H:Hp}{a:Addr}{vs:List V}{ds:List It1}(hs:∀(ad3:Ad) (H3:Hp),Grow (Gw [] ad) H (Gw [] ad3) H3->SqL K H3 a vs)(r:RpI K kd F B (Gw [] ad) H vs ds):ItOk K kd F B ad H (Itl K a) ds:=⟨λad3 H3 g3 _ i=>by
 have hr3:=hs ad3 H3 g3
 have rl3:=r.grow g3
 refine⟨λhi=>?_,λhi=>⟨_,hr3,by rw[r.length];exact hi⟩,λv H4 hy=>?_⟩
 · obtain⟨u,hu,_⟩:=r.get (zzC hi)
   exact⟨_,u,hr3,hu⟩
 · obtain⟨rfl,hv⟩:=hy
   refine⟨λ_ _ z=>z,λd hd=>?_⟩
   obtain⟨u,hu,ru⟩:=rl3.get hd
   have:=hv _ hr3
   rw[hu]at this
   cases this
   exact ru⟩
theorem ztH{K:zC}{F B:Addr->Prop}{ad:Ad}{H:Hp}{a:Addr}{vs:List V}{ds:List It1}(hs:∀(ad3:Ad) (H3:Hp),Grow (Gw [] ad) H (Gw [] ad3) H3->SqT K H3 a vs)(r:RpI K kd F B (Gw [] ad) H vs ds):ItOk K kd F B ad H (Itt K a) ds:=⟨λad3 H3 g3 _ i=>by
 have hr3:=hs ad3 H3 g3
 have rl3:=r.grow g3
 refine⟨λhi=>?_,λhi=>⟨_,hr3,by rw[r.length];exact hi⟩,λv H4 hy=>?_⟩
 · obtain⟨u,hu,_⟩:=r.get (zzC hi)
   exact⟨_,u,hr3,hu⟩
 · obtain⟨rfl,hv⟩:=hy
   refine⟨λ_ _ z=>z,λd hd=>?_⟩
   obtain⟨u,hu,ru⟩:=rl3.get hd
   have:=hv _ hr3
   rw[hu]at this
   cases this
   exact ru⟩
theorem zbU(he:AE X kd e fa):AI X kd tg e (zeq fa):=by
 with_unfolding_all (
 intro pins s σ H R I h
 obtain⟨F,B,ad,as,ds,as',Rl,e,q⟩:=h
 obtain⟨⟨p,as1⟩,h1,e⟩:=bS_ (show(fa as).bind _=_ from e)
 obtain⟨⟨⟨st,x⟩,as2⟩,h2,e⟩:=bS_ e
 obtain⟨ys,h3,e⟩:=bS_ e
 cases e
 cases x with
 |lst xs=>
  cases h3
  refine zjt he pins s σ H R I ⟨F,B,ad,as,p,as1,Rl,h1,λv T1 ad1 H1 R1 rv1 g1=>?_⟩
  obtain⟨ad2,R2,rp,le⟩:=zaW R1 rv1 h2
  cases rp with
  |lst hn hr rl=>exact⟨_,rfl,⟨_,.inl hr⟩,q _ ad2 H1 R2 (g1.trans (Grow.less le)) (zmC (λad3 H3 g3=>.inl (zdt g3 (λz=>hn (.inr z)) hr)) (zaV rl))⟩
  |lstK a b c rl=>exact⟨_,rfl,⟨_,.inr ⟨_,_,_,a,rfl,rfl,rfl,b,c⟩⟩,q _ ad2 H1 R2 (g1.trans (Grow.less le)) (zmC (λad3 H3 g3=>.inr ⟨_,_,_,a,rfl,rfl,rfl,b,c⟩) (zaV rl))⟩
 |tup xs=>
  cases h3
  refine zlz he pins s σ H R I ⟨F,B,ad,as,p,as1,Rl,h1,λv T1 ad1 H1 R1 rv1 g1=>?_⟩
  obtain⟨ad2,R2,rp,le⟩:=zaW R1 rv1 h2
  have go:∃a ys,v = .ref a/\(∀(ad3:Ad) (H3:Hp),Grow (Gw [] ad2) H1 (Gw [] ad3) H3->SqT X.K H3 a ys)/\RpL X.K kd (Lv F B (Gw [] ad2) st) H1 ys xs:=by
   cases rp with
   |tup n h r=>exact⟨_,_,rfl,λad3 H3 g3=>.inl (zdt g3 (λz=>n (.inr z)) (.inl h)),r⟩
  obtain⟨a,ys,rfl,hs,rl⟩:=go
  exact⟨_,rfl,⟨_,hs ad2 H1 Grow.refl⟩,q _ ad2 H1 R2 (g1.trans (Grow.less le)) (ztH hs (zaV rl))⟩
 |_=>cases h3)
def vN(lo:Int)(n:Nat):List It1:=(List.range n).map λ(i:Nat)=>(true,D.int (lo+(i:Int)))
theorem zuy{K:zC}{F B:Addr->Prop}{ad:Ad}{H:Hp}(lo:Int)(n:Nat):ItOk K kd F B ad H (Itr lo n) (vN lo n):=⟨λad2 H2 g _ i=>by
 have hl:(vN lo n).length=n:=by unfold vN;simp
 refine⟨λhi=>by rw[hl]at hi;exact hi,λhi=>by rw[hl]at hi;exact hi,λv H3 hy=>?_⟩
 obtain⟨rfl,rfl⟩:=hy
 refine⟨λ_ _ z=>z,λd hd=>?_⟩
 have hi:i<n:=by rw[<-hl];exact(zzE.mp hd).1
 unfold vN at hd
 rw[zzG,List.getElem?_range hi]at hd
 cases hd
 exact .int _⟩
def zuO:List D->Option D
 | [x]=>some x
 |_=>none
theorem zry{ds:List D}{d:D}(h:zuO ds=some d):ds=[d]:=by
 cases ds with
 |nil=>cases h
 |cons x r=>
  cases r with
  |nil=>cases h;rfl
  |cons _ _=>cases h
def yK(ds:List D):Option (List It1):=((zuO ds).bind asI).bind λj=>if -(2 ^ 62)<=j/\j<2 ^ 62 then some (vN 0 j.toNat)else none
theorem znh{ds:List D}{xs:List It1}(h:yK ds=some xs):∃j,ds=[.int j]/\(if -(2 ^ 62)<=j/\j<2 ^ 62 then some (vN 0 j.toNat)else none)=some xs:=by
 obtain⟨j,h1,h⟩:=bS_ h
 obtain⟨d,h2,h1⟩:=bS_ h1
 cases zjB h1
 exact⟨j,zry h2,h⟩
def yJ(fr:AF)(h:List D->Option (List It1)):IF:=λas=>(fr as).bind λp=>(views p.2 p.1).bind λds=>(h ds.1).bind λxs=>some (xs,p.2)
theorem yS{fr:AF}{p:Pos}(hg:Gl X "range")(hm:X.mg "range"=none)(ha:AA X kd [a] fr)(hs:starEach [a] X.env=[(false,eval a X.env)]):AI X kd tg (.Call (.Name "range" p) [a] [] pos) (yJ fr yK):=by
 with_unfolding_all (
 intro pins s σ H R I h
 obtain⟨F,B,ad,as,ds,as',Rl,e,q⟩:=h
 obtain⟨⟨ps,as1⟩,h1,e⟩:=bS_ (show(fr as).bind _=_ from e)
 obtain⟨⟨xs,lv⟩,h2,e⟩:=bS_ e
 obtain⟨ys,h3,e⟩:=bS_ e
 cases e
 obtain⟨j,rfl,h3⟩:=znh h3
 · obtain⟨hj,e3⟩:=yj h3
   cases e3
   refine ziI hg hm ha hs pins s σ H R I ⟨F,B,ad,as,ps,_,Rl,h1,λvs ad1 H1 R1 rv1 g1=>?_⟩
   have vl:=zbh R1 rv1 h2
   cases vl with
   |cons v1 v2=>
    cases v2
    cases v1
    exact⟨j,rfl,hj.1,hj.2,q _ ad1 H1 R1 g1 (zuy 0 _)⟩)
theorem Rel.mut{K:zC}{F B:Addr->Prop}{T fo:List Addr}{ad:Ad}{as:AS}{σ:St}{H:Hp}{i:Nat}{l:Addr}{fp fp':List Addr}{n:O}{u:HO}(R:Rel K kd F B T ad as σ H)(hi:i<as.length)(hl:ad i=l::fp)(hs:σ[i]? = some (some (.ref l)))
 (hsub:∀a ∈ fp'++fo,a ∈ fp++T) (hnd:(fp'++fo).Nodup) (hu:H l≠none)
 (ro:∀(H':Hp) (G':Addr->Prop),H' l=some u->Grow (Gw T ad) H G' H'->(∀a ∈ fp',∀w,H a=some w->H' a=some w)->RoS K kd F B G' H' (.ref l) n (l::fp')):
 Rel K kd F B fo (V0 ad i (l::fp')) (as.set i (some n)) σ (upd H l u)/\Grow (Gw T ad) H (Gw fo (V0 ad i (l::fp'))) (upd H l u):=by
 have hli:l ∈ ad i:=by rw[hl];exact zzD
 have lT:l ∉ T:=R.dis i l hli
 have lfp:l ∉ fp:=by have:=R.nd i;rw[hl]at this;exact(zzU.mp this).1
 have lsub:∀a ∈ fp'++fo,a≠l:=λa m e=>by
  subst e
  rcases zzK.mp (hsub _ m)with z|z
  · exact lfp z
  · exact lT z
 have sub:∀a ∈ fp'++fo,Gw T ad a:=λa m=>by
  rcases zzK.mp (hsub a m)with z|z
  · exact .inr ⟨i,by rw[hl];exact zzB _ z⟩
  · exact .inl z
 have gsub:∀a,Gw fo (V0 ad i (l::fp')) a->Gw T ad a:=λa z=>by
  rcases z with z|⟨j,z⟩
  · exact sub a (zzJ _ z)
  · by_cases e:j=i
    · subst e
      rw[yX]at z
      rcases zzA.mp z with z|z
      · subst z;exact .inr ⟨j,hli⟩
      · exact sub a (zzN _ z)
    · rw[xj e]at z;exact .inr ⟨j,z⟩
 have g:Grow (Gw T ad) H (Gw fo (V0 ad i (l::fp'))) (upd H l u):=⟨λb w h n=>by rw[yo (λe=>n (by subst e;exact .inr ⟨i,hli⟩))];exact h,λb z=>.inl (gsub b z)⟩
 have kn:∀a,H a≠none->upd H l u a≠none:=λa z=>by
  by_cases e:a=l
  · subst e;rw[yZ];simp
  · rw[yo e];exact z
 obtain⟨hnd1,hnd2,hnd3⟩:=zxD.mp hnd
 have inT:∀j a,j≠i->a ∈ ad j->a ∈ fp'++fo->False:=λj a hj m m'=>by
  rcases zzK.mp (hsub a m')with z|z
  · exact hj (R.inj j i a m (by rw[hl];exact zzB _ z))
  · exact R.dis j a m z
 refine⟨⟨by rw[zzS];exact R.len,λj hj=>?_,λj=>?_,λj k a h1 h2=>?_,hnd2,λj a h1 h2=>?_,λa z=>kn a (R.ftr a z),λa z=>?_,λa z=>⟨kn a (R.gtr a (gsub a z)).1,(R.gtr a (gsub a z)).2⟩,λj s e=>?_⟩,g⟩
 · rw[zzS]at hj
   rw[xj (by omega)];exact R.out j hj
 · by_cases e:j=i
   · subst e;rw[yX]
     exact zzU.mpr ⟨λm=>lsub l (zzN _ m) rfl,hnd1⟩
   · rw[xj e];exact R.nd j
 · by_cases e:j=i
   · subst e
     by_cases e':k=j
     · exact e'.symm
     · rw[yX]at h1
       rw[xj e']at h2
       rcases zzA.mp h1 with z|z
       · subst z;exact R.inj j k a hli h2
       · exact(inT k a e' h2 (zzN _ z)).elim
   · rw[xj e]at h1
     by_cases e':k=i
     · subst e'
       rw[yX]at h2
       rcases zzA.mp h2 with z|z
       · subst z;exact R.inj j k a h1 hli
       · exact(inT j a e h1 (zzN _ z)).elim
     · rw[xj e']at h2
       exact R.inj j k a h1 h2
 · by_cases e:j=i
   · subst e
     rw[yX]at h1
     rcases zzA.mp h1 with z|z
     · subst z;exact lsub a (zzJ _ h2) rfl
     · exact hnd3 a z a h2 rfl
   · rw[xj e]at h1
     exact inT j a e h1 (zzJ _ h2)
 · obtain⟨b1,b2,b3⟩:=R.btr a z
   exact⟨kn a b1,b2,λy=>b3 (gsub a y)⟩
 · by_cases q:j=i
   · subst q
     rw[zyI hi]at e
     cases e
     rw[yX]
     refine⟨_,hs,ro _ _ yZ g λa m w h=>?_⟩
     rw[yo (lsub a (zzN _ m))];exact h
   · rw[zzW (Ne.symm q)]at e
     rw[xj q]
     refine(R.sl j s e).grow g λa m w h=>?_
     rw[yo (λz=>q (R.inj j i l (by rw[<-z];exact m) hli))];exact h
abbrev MG:=List O->List O->Option (List O×O)
def vf(i:Nat)(fr:DF)(g:MG):EF:=λas=>match as[i]? with
 |some (some (.nd .ls _))=>(fr as).bind λp=>match p.2[i]? with
  |some (some (.nd .ls os))=>(g os p.1).bind λz=>some (.ow z.2,p.2.set i (some (.nd .ls z.1)))
  |_=>none
 |_=>none
def MuD(X:Cx)(kd:KD)(r:V->List V->Hp->VK->Prop)(g:MG):Prop:=
 ∀(F B G:Addr->Prop) (l:Addr) (vs ws:List V) (os es os':List O) (o:O) (fp fq:List Addr) (H:Hp) (Q:VK),H l=some (.lst vs)->YL X.K kd F B G H vs os fp->YL X.K kd F B G H ws es fq->(fp++fq).Nodup->g os es=some (os',o)->
  (∀v vs' fp' fo,YL X.K kd F B G H vs' os' fp'->RoS X.K kd F B G H v o fo->(∀a ∈ fp'++fo,a ∈ fp++fq)->(fp'++fo).Nodup->Q v (upd H l (.lst vs')))->r (.ref l) ws H Q
theorem zvr{i:Nat}{fr:DF}{g:MG}{r:V->List V->Hp->VK->Prop}(hr:MuD X kd r g)
 {σ:St}{H:Hp}{Q:VK}(h:al X.K kd (vf i fr g) σ H Q):tBM X.K "list" r (zdK i) (alD X.K kd fr) σ H Q:=by
 obtain⟨F,B,ad,as,z,as',R,e,q⟩:=h
 unfold vf at e
 cases k:as[i]? with
 |none=>rw[k]at e;cases e
 |some a0=>
  rw[k]at e
  match a0,e,k with
  |some (.nd .ls os0),e,k=>
   obtain⟨⟨es,as1⟩,h1,e⟩:=bS_ (show(fr as).bind _=_ from e)
   obtain⟨v0,hs0,ro0⟩:=R.sl i _ k
   generalize hfp0:ad i=fp0 at ro0
   cases ro0 with
   |ls hH0 rl0=>
   rename_i l vs0 fp00
   refine⟨_,hs0,.inl ⟨rfl,_,.inl (.inl hH0)⟩,F,B,ad,as,es,as1,R,h1,λws T1 ad1 H1 R1 ro1 g1=>?_⟩
   cases k2:as1[i]? with
   |none=>rw[k2]at e;cases e
   |some a2=>
    rw[k2]at e
    match a2,e,k2 with
    |some (.nd .ls os),e,k2=>
     obtain⟨⟨os',o⟩,h3,e⟩:=bS_ (show(g os es).bind _=_ from e)
     cases e
     obtain⟨v1,hs1,ro2⟩:=R1.sl i _ k2
     rw[hs0]at hs1
     cases hs1
     generalize hfp:ad1 i=fp1 at ro2
     cases ro2 with
     |ls hH rl=>
     rename_i vs fp
     have hnd:(fp++T1).Nodup:=zxD.mpr ⟨by have:=R1.nd i;rw[hfp]at this;exact(zzU.mp this).2,R1.tnd,λa m b m' e=>by
          subst e;exact R1.dis i a (by rw[hfp];exact zzB _ m) m'⟩
     refine hr F B (Gw T1 ad1) _ vs ws os es os' o fp T1 H1 Q hH rl ro1 hnd h3 λv vs' fp' fo rl' ro' hsub hnd'=>?_
     obtain⟨R3,g3⟩:=R1.mut (n:=.nd .ls os') (u:=.lst vs') (zzE.mp k2).1 hfp hs0 hsub hnd' (by rw[hH];simp) λH' G' hl' gr kp=>.ls hl' (YL.grow gr kp rl')
     have lno:∀a ∈ fo,∀w,H1 a=some w->upd H1 l (.lst vs') a=some w:=λa m w h=>by
          rw[yo (λe=>?_)]
          · exact h
          · subst e
            rcases zzK.mp (hsub _ (zzJ _ m))with z|z
            · have:=R1.nd i;rw[hfp]at this;exact(zzU.mp this).1 z
            · exact R1.dis i _ (by rw[hfp];exact zzD) z
     exact q v fo _ _ R3 (RoS.grow g3 lno ro') (g1.trans g3)
end
end PF
end
section
set_option exponentiation.threshold 5000
namespace PF
open PySem PySem.Spec PyProof.Rows L2
section
variable{K:zC}{kd:KD}{O:Addr->Prop}{H:Hp}{Q:VK}
theorem yQ{d:D}{v:V}(q:RQ K kd O H Q (.im d))(r:Rp K kd O H v d):Q v H:=q v H (λ_ _ z=>z) r
theorem zmA{vs:List V}{ds:List D}{p:Addr}{o:HO}(hp:H p=none)(r:RpL K kd O H vs ds):RpL K kd (Un2 O (· = p)) (upd H p o) vs ds:=
 RpL.grow (F:=O) (W:=λ_=>False) ⟨λb u q _=>by rw[yo (xg q hp)];exact q,λb z=>.inr (by rw[z];exact hp)⟩ (r.less λa z=>z.elim id False.elim)
theorem zqJ{vs:List (Key×V)}{ds:List (Key×D)}{p:Addr}{o:HO}(hp:H p=none)(r:RpM K kd O H vs ds):RpM K kd (Un2 O (· = p)) (upd H p o) vs ds:=
 RpM.grow (F:=O) (W:=λ_=>False) ⟨λb u q _=>by rw[yo (xg q hp)];exact q,λb z=>.inr (by rw[z];exact hp)⟩ (r.less λa z=>z.elim id False.elim)
theorem ZG{p:Addr}{o:HO}(hp:H p=none):∀b u,H b=some u->upd H p o b=some u:=λb u q=>by rw[yo (xg q hp)];exact q
theorem zdN{vs:List V}{ds:List D}(q:RQ K kd O H Q (.fl ds))(r:RpL K kd O H vs ds):∀p,H p=none->Q (.ref p) (upd H p (.lst vs)):=λp hp=>
 q p vs _ hp (ZG hp) yZ (zmA hp r)
theorem zpJ{vs:List (Key×V)}{ds:List (Key×D)}(q:RQ K kd O H Q (.fd ds))(r:RpM K kd O H vs ds):∀p,H p=none->Q (.ref p) (upd H p (.dK vs)):=λp hp=>
 q p vs _ hp (ZG hp) yZ (zqJ hp r)
theorem zfP{vs:List V}{ds:List D}(ht:∀a,O a->H a≠none)(q:RQ K kd O H Q (.im (.tup ds)))(r:RpL K kd O H vs ds):∀p,H p=none->Q (.ref p) (upd H p (.tup vs)):=λp hp=>
 q _ _ (ZG hp) (.tup (λz=>ht p z hp) yZ ((zmA hp r).less λa z=>.inl z))
end
def big:Nat:=2 ^ 4000
theorem zky{i:Int}(h:i.natAbs<big):Builtin.Int.intBits i<=2 ^ 20:=by
 unfold Builtin.Int.intBits
 split
 · exact Nat.zero_le _
 · have:i.natAbs.log2<4000:=by
    rcases Nat.eq_zero_or_pos i.natAbs with h0|hp
    · rw[h0];decide
    · exact(Nat.log2_lt (Nat.ne_of_gt hp)).mpr h
   have e:(2:Nat) ^ 20=1048576:=by decide
   omega
def onI(f:Int->Int->Option R0)(x y:D):Option R0:=(asI x).bind λi=>(asI y).bind λj=>f i j
def zwh(x y:D):Option R0:=match x with
 | .int i=>(asI y).bind λj=>some (.im (.int (i+j)))
 | .str x=>(asS y).bind λy=>if x.length+y.length<=sizeLine then some (.im (.str (x++y)))else none
 | .lst xs=>(asL y).bind λys=>if xs.length+ys.length<=sizeLine then some (.fl (xs++ys))else none
 | .tup xs=>(asT y).bind λys=>if xs.length+ys.length<=sizeLine then some (.im (.tup (xs++ys)))else none
 |_=>none
def zwx(x y:D):Option R0:=match x with
 | .int i=>(asI y).bind λj=>if i.natAbs<big/\j.natAbs<big then some (.im (.int (i*j)))else none
 | .lst xs=>(asI y).bind λk=>if -(2 ^ 63)<=k/\k<2 ^ 63/\xs.length*k.toNat<=sizeLine then some (.fl (List.replicate k.toNat xs).flatten)else none
 | .tup xs=>(asI y).bind λk=>if 1<=k/\k<2 ^ 63/\xs.length≠0/\xs.length*k.toNat<=sizeLine then some (.im (.tup (List.replicate k.toNat xs).flatten))else none
 |_=>none
def W3(o:Operator)(x y:D):Option R0:=match o with
 | .Add=>zwh x y
 | .Sub=>onI (λi j=>some (.im (.int (i-j)))) x y
 | .Mult=>zwx x y
 | .FloorDiv=>onI (λi j=>if 0<j/\j.natAbs<big then some (.im (.int (i/j)))else none) x y
 | .Mod=>onI (λi j=>if 0<j then some (.im (.int (i%j)))else none) x y
 | .Pow=>onI (λi j=>if 0<=j/\j<=1000000/\i.natAbs<2 ^ 64 then some (.im (.int (i ^ j.toNat)))else none) x y
 |_=>none
theorem Vf{K:zC}{kd:KD}{O:Addr->Prop}{H:Hp}{v:V}{d:D}{i:Int}(h:Vw K kd O H v d)(e:asI d=some i):d = .int i/\v = .int i:=by
 cases h with
 |int j=>cases e;exact⟨rfl,rfl⟩
 |_=>cases e
theorem zuk{K:zC}{kd:KD}{O:Addr->Prop}{H:Hp}{v:V}{d:D}{i:Str}(h:Vw K kd O H v d)(e:asS d=some i):d = .str i/\v = .str i:=by
 cases h with
 |str j=>cases e;exact⟨rfl,rfl⟩
 |_=>cases e
theorem W9{K:zC}{kd:KD}{O:Addr->Prop}{H:Hp}{v w:V}{d e:D}{f:Int->Int->Option R0}{r:R0}(vx:Vw K kd O H v d)(vy:Vw K kd O H w e)(h:onI f d e=some r):∃i j,v = .int i/\w = .int j/\f i j=some r:=by
 obtain⟨i,h1,h⟩:=bS_ (show(asI d).bind _=_ from h)
 obtain⟨j,h2,h⟩:=bS_ h
 exact⟨i,j,(Vf vx h1).2,(Vf vy h2).2,h⟩
section
variable{X:Cx}{kd:KD}
theorem zrR:OpR X (binaryOp .Add) (λx y H Q=>∃l b xs zs,x = .ref l/\y = .ref b/\RdL X.K H l xs/\RdL X.K H b zs/\xs.length+zs.length<=sizeLine/\∀p,H p=none->Q (.ref p) (upd H p (.lst (xs++zs)))):=by
 intro pins s σ H x y v u Q I rx ry h
 obtain⟨l,b,xs,zs,rfl,rfl,hH,hB,hz,q⟩:=h
 cases rx
 cases ry
 obtain⟨z,its,n,r,e⟩:=zlT I hH
 obtain⟨z2,its2,n2,r2,e2⟩:=zlT I hB
 have hl:=r.length
 have hl2:=r2.length
 refine PySem.P.add_list e e2 ?_ (by rw[zzF,zzF];omega)
 have ea:its.toArray++its2.toArray=(its++its2).toArray:=by simp
 rw[ea]
 exact⟨.ref _,_,I.lnew (t':=s.toks) (r.append r2) (by rw[zzH];omega),rfl,q _ I.fresh⟩
theorem zrv:OpR X (binaryOp .Mult) (λx y H Q=>∃l k xs,x = .ref l/\y = .int k/\RdL X.K H l xs /\ -(2 ^ 63)<=k/\k<2 ^ 63/\xs.length*k.toNat<=sizeLine/\
 ∀p,H p=none->Q (.ref p) (upd H p (.lst (List.replicate k.toNat xs).flatten))):=by
 intro pins s σ H x y v u Q I rx ry h
 obtain⟨l,k,xs,rfl,rfl,hH,h1,h2,hz,q⟩:=h
 cases rx
 obtain⟨t,rfl⟩:=ry
 obtain⟨z,its,n,r,e⟩:=zlT I hH
 have hl:=r.length
 have hlen:its.toArray.size*k.toNat<=sizeLine:=by rw[zzF,<-hl];exact hz
 have hcap:¬its.toArray.size*k.toNat > (2 ^ 63-1)/8:=by
  have:(sizeLine:Nat)<=(2 ^ 63-1)/8:=by decide
  omega
 have hfit:¬(!Builtin.List.listFitsIndex k)=true:=by
  rw[fitsIndex_both h1 h2]
  exact zyU
 have hlong:¬Builtin.List.listTooLong (its.toArray.size*k.toNat)=true:=by
  rw[zkj hlen]
  exact zyU
 have hnew:List.foldl (λx1 x2=>x1++x2) #[] (List.replicate (if its.toArray.isEmpty=true then 0 else k.toNat) its.toArray)=(List.replicate k.toNat its).flatten.toArray:=by
  have f0:∀m:Nat,List.foldl (λx1 x2=>x1++x2) #[] (List.replicate m its.toArray)=(List.replicate m its).flatten.toArray:=λm=>by
   have:=foldl_rep its m []
   rw[List.nil_append]at this
   exact this
  rw[f0]
  cases its with
  |nil=>simp
  |cons a r'=>rw[if_neg (by simp)]
 refine wpAny_binaryOp_repeat_ref (T:="list") (U:="int") (by decide) ⟨_,e,rfl⟩ (λs'=>typeIs_int s' k t) noFill_list_mul F.fills_int_mul F.slot_int_rmul repeat_list F.slot_int_index.lookup
  (call_meets F.slot_int_rmul (typeIs_int s k t) F.entry_int_rmul (F.args_int_rmul_2 _ _) (int___rmul___int_list k t l its.toArray n)
   ⟨e,rfl,⟨_,e,rfl⟩,call_meets F.slot_list_mul ⟨_,e,rfl⟩ F.entry_list_mul (F.args_list_mul_2 _ _) (AutoListH.list___mul___list_int_3 l its.toArray n k t hfit hcap hlong) ⟨e, ?_⟩⟩)
 rw[hnew]
 refine⟨.ref _,_,I.lnew (t':=s.toks) (r.rep k.toNat) ?_,rfl,q _ I.fresh⟩
 rw[len_rep,Nat.mul_comm]
 exact hz
theorem tuple_addW0(l b:Addr)(items items2:Array Value)(n n2:Nat)(dd dd2:Option Addr)(sl sl2:Array (Option Value))(h0:items.isEmpty=true):
 Meets (Builtin.«tuple.__add__» {pos:=[.ref l,.ref b]}) (λ_ R s=>s.heap.get? l=some {cls:=.type "tuple",dict:=dd,data:=.seq items n,slots:=sl}/\s.heap.get? b=some {cls:=.type "tuple",dict:=dd2,data:=.seq items2 n2,slots:=sl2}/\R (.ok (.ret (.ref b))) s):=
 .of_wp λprog w A R s h=>by
  obtain⟨hp,g,d,tk,os⟩:=s;obtain⟨hl,hb,h⟩:=h
  have f2:=AutoSeq1.sub_tuple_tuple
  wp_walk using wpAny_loadPart' hl,wpAny_loadPart' hb
  exact⟨_,rfl,h⟩
theorem zko(l:Addr)(items:Array Value)(n:Nat)(dd:Option Addr)(sl:Array (Option Value))(u:Tok):
 Meets (Builtin.«tuple.__mul__» {pos:=[.ref l,.int 1 u]}) (λ_ R s=>s.heap.get? l=some {cls:=.type "tuple",dict:=dd,data:=.seq items n,slots:=sl}/\R (.ok (.ret (.ref l))) s):=
 .of_wp λprog w A R s h=>by
  obtain⟨hp,g,d,tk,os⟩:=s;obtain⟨hl,h⟩:=h
  have f2:=AutoSeq1.sub_tuple_tuple
  wp_walk using wpAny_loadPart' hl
  exact⟨_,rfl,h⟩
theorem zkD(l:Addr)(items its2:Array Value)(n:Nat)(dd:Option Addr)(sl:Array (Option Value))(x:Int)(u:Tok)(c1:¬(decide (x < -2 ^ 63)||decide (x ≥ 2 ^ 63))=true)(c2:¬(items.isEmpty||x==1)=true)(c3:¬(decide (x<=0)||items.isEmpty)=true)
 (hcap:¬(items.size:Int)*x > (2 ^ 63-1)/8) (ht:¬Builtin.Tuple.tupleTooMany (items.size*x)=true) (hz:¬(List.foldl (λx1 x2=>x1++x2) #[] (List.replicate x.toNat items)).size > sizeLine):
 Meets (Builtin.«tuple.__mul__» {pos:=[.ref l,.int x u]}) (λ_ R s=>s.heap.get? l=some {cls:=.type "tuple",dict:=dd,data:=.seq items n,slots:=sl}/\R (.ok (.ret (.ref s.heap.objs.size))) {s with heap:=s.heap.push {cls:=.type "tuple",data:=.seq (List.foldl (λx1 x2=>x1++x2) #[] (List.replicate x.toNat items))}}):=
 .of_wp λprog w A R s h=>by
  obtain⟨hp,g,d,tk,os⟩:=s;obtain⟨hl,h⟩:=h
  have f2:=AutoSeq1.sub_tuple_tuple
  wp_walk using wpAny_loadPart' hl
  rw[if_neg c1]
  wp_walk using wpAny_loadPart' hl
  rw[if_neg hcap]
  wp_walk
  exact⟨_,rfl,h⟩
theorem zdG:fillsNumberSlot (Value.type "tuple") "mul"=pure false:=PySem.fillsNumberSlot_seq rfl rfl rfl rfl
theorem zjP:seqRepeat? (Value.type "tuple")=pure (some (Value.builtin "tuple.__mul__")):=W.of_pureOf rfl
theorem zha(a:Int)(t:Tok)(l:Addr)(items:Array Value)(n:Nat)(dd:Option Addr)(sl:Array (Option Value)):
 Meets (Builtin.«int.__rmul__» {pos:=[.int a t,.ref l]}) (λ_ R s=>s.heap.get? l=some {cls:=.type "tuple",dict:=dd,data:=.seq items n,slots:=sl}/\R (.ok (.ret .notImplemented)) s):=
 .of_wp λprog w A R s h=>by
  obtain⟨hp,g,d,tk,os⟩:=s;obtain⟨hl,h⟩:=h
  wp_walk using wpAny_load' hl,wpAny_loadPart' hl
  exact⟨_,rfl,h⟩
theorem zru:OpR X (binaryOp .Add) (λx y H Q=>∃a b ys,x = .ref a/\y = .ref b/\SqT X.K H a []/\SqT X.K H b ys/\Q (.ref b) H):=by
 intro pins s σ H x y v u Q I rx ry h
 obtain⟨a,b,ys,rfl,rfl,ha,hb,q⟩:=h
 cases rx
 cases ry
 obtain⟨its,r1,p1,_⟩:=I.tuple ha
 obtain⟨its2,r2,p2,_⟩:=I.tuple hb
 cases r1
 obtain⟨⟨cls,dd,data,sl⟩,ho,hc,n,hd⟩:=id p1
 obtain⟨⟨cls2,dd2,data2,sl2⟩,ho2,hc2,n2,hd2⟩:=id p2
 simp only at hc hd hc2 hd2
 subst hc hd hc2 hd2
 exact concat_meets ⟨_,ho,rfl⟩ ⟨_,ho2,rfl⟩ noFill_tuple_add seq_tuple_add PySem.F.slot_tuple_add PySem.F.entry_tuple_add (PySem.F.args_tuple_add_2 _ _) (tuple_addW0 a b _ _ n n2 dd dd2 sl sl2 rfl) ⟨ho,ho2,⟨.ref b,H,I,rfl,q⟩⟩
theorem zrY:OpR X (binaryOp .Mult) (λx y H Q=>∃l k xs,x = .ref l/\y = .int k/\SqT X.K H l xs/\xs≠[]/\1<=k/\k<2 ^ 63/\xs.length*k.toNat<=sizeLine/\(k=1->Q (.ref l) H)/\
 (2<=k->∀p,H p=none->Q (.ref p) (upd H p (.tup (List.replicate k.toNat xs).flatten)))):=by
 intro pins s σ H x y v u Q I rx ry h
 obtain⟨l,k,xs,rfl,rfl,hH,hne,h1,h2,hz,q1,q2⟩:=h
 cases rx
 obtain⟨t,rfl⟩:=ry
 obtain⟨its,r,p,_⟩:=I.tuple hH
 have hl:=r.length
 have hlen:its.toArray.size*k.toNat<=sizeLine:=by rw[zzF,<-hl];exact hz
 have hki:((its.toArray.size:Int)*k)=((its.toArray.size*k.toNat:Nat):Int):=by
  rw[zzT,zyX (by omega)]
 have he:its.toArray.isEmpty=false:=by
  cases its with
  |nil=>rw[List.length_nil]at hl;exact absurd (List.length_eq_zero_iff.mp hl) hne
  |cons a r'=>rfl
 have hnew:List.foldl (λx1 x2=>x1++x2) #[] (List.replicate k.toNat its.toArray)=(List.replicate k.toNat its).flatten.toArray:=by
  have:=foldl_rep its k.toNat []
  rw[List.nil_append]at this
  exact this
 obtain⟨⟨cls,dd,data,sl⟩,ho,hc,n,hd⟩:=id p
 simp only at hc hd
 subst hc hd
 refine wpAny_binaryOp_repeat_ref (T:="tuple") (U:="int") (by decide) ⟨_,ho,rfl⟩ (λs'=>typeIs_int s' k t) zdG F.fills_int_mul F.slot_int_rmul zjP F.slot_int_index.lookup
  (call_meets F.slot_int_rmul (typeIs_int s k t) F.entry_int_rmul (F.args_int_rmul_2 _ _) (zha k t l its.toArray n dd sl) ⟨ho,rfl,⟨_,ho,rfl⟩, ?_⟩)
 by_cases hk:k=1
 · subst hk
   exact call_meets F.slot_tuple_mul ⟨_,ho,rfl⟩ F.entry_tuple_mul (F.args_tuple_mul_2 _ _) (zko l its.toArray n dd sl t) ⟨ho,⟨.ref l,H,I,rfl,q1 rfl⟩⟩
 · have hfl:(List.replicate k.toNat xs).flatten.length<=sizeLine:=by rw[len_rep,Nat.mul_comm];exact hz
   refine call_meets F.slot_tuple_mul ⟨_,ho,rfl⟩ F.entry_tuple_mul (F.args_tuple_mul_2 _ _) (zkD l its.toArray #[] n dd sl k t (by simp;omega) (by rw[he];simpa using hk) (by rw[he];simp;omega) ?_ ?_ ?_) ⟨ho, ?_⟩
   · rw[hki]
     have:((sizeLine:Nat):Int)<=(2 ^ 63-1)/8:=by decide
     omega
   · unfold Builtin.Tuple.tupleTooMany
     rw[hki]
     simp only[gt_iff_lt,decide_eq_true_eq]
     omega
   · rw[hnew,zzF,len_rep,Nat.mul_comm]
     rw[zzF]at hlen
     omega
   · rw[hnew]
     refine⟨.ref s.heap.objs.size,_,I.laid (t':=s.toks) (o:=.tup (List.replicate k.toNat xs).flatten) (λb ob q=>zxG _ q) (zzL _) ?_,rfl,q2 (by omega) _ (I.hok.fresh (zzL _))⟩
     exact⟨hfl,_,r.rep k.toNat,IsTup.new _ _⟩
theorem ztf(op:Operator):OpD X kd (binaryOp op) (W3 op):=by
 intro pins s σ H x y v u Q I rx ry h
 obtain⟨O,d,e,r,ht,vx,vy,he,q⟩:=h
 cases op with
 |Add=>
  cases vx with
  |int i=>
   obtain⟨j,h1,he⟩:=bS_ (show(asI e).bind _=_ from he)
   obtain⟨rfl,rfl⟩:=Vf vy h1
   cases he
   exact zuu pins s σ H _ _ v u Q I rx ry ⟨_,_,rfl,rfl,yQ q (.int _)⟩
  |str i=>
   obtain⟨j,h1,he⟩:=bS_ (show(asS e).bind _=_ from he)
   obtain⟨rfl,rfl⟩:=zuk vy h1
   obtain⟨c,rfl⟩:=yj he
   exact zlP pins s σ H _ _ v u Q I rx ry ⟨_,_,rfl,rfl,c,yQ q (.str _)⟩
  |lst hx rx'=>
   obtain⟨j,h1,he⟩:=bS_ (show(asL e).bind _=_ from he)
   cases zcw h1
   obtain⟨c,rfl⟩:=yj he
   cases vy with
   |lst hy ry'=>exact zrR pins s σ H _ _ v u Q I rx ry ⟨_,_,_,_,rfl,rfl,hx,hy,by rw[rx'.length,ry'.length];exact c,zdN q (rx'.append ry')⟩
  | @tup a1 vs1 ds1 r1 hx rx'=>
   obtain⟨j,h1,he⟩:=bS_ (show(asT e).bind _=_ from he)
   cases zol h1
   obtain⟨c,rfl⟩:=yj he
   cases vy with
   |tup r2 hy ry'=>
    by_cases h0:vs1=([]:List V)
    · subst h0
      cases rx'
      exact zru pins s σ H _ _ v u Q I rx ry ⟨_,_,_,rfl,rfl,hx,hy,yQ q r2⟩
    refine zqZ pins s σ H _ _ v u Q I rx ry ⟨_,_,_,_,rfl,rfl,hx,hy,h0,by rw[rx'.length,ry'.length];exact c,λhn=>?_,λhn=>zfP ht q (rx'.append ry')⟩
    · subst hn
      cases ry'
      rw[zyC]at q
      exact yQ q r1
  |_=>cases he
 |Sub=>
  obtain⟨i,j,rfl,rfl,he⟩:=W9 vx vy he
  cases he
  exact zth pins s σ H _ _ v u Q I rx ry ⟨_,_,rfl,rfl,yQ q (.int _)⟩
 |Mult=>
  cases vx with
  |int i=>
   obtain⟨j,h1,he⟩:=bS_ (show(asI e).bind _=_ from he)
   obtain⟨rfl,rfl⟩:=Vf vy h1
   obtain⟨c,rfl⟩:=yj he
   obtain⟨t,rfl⟩:=rx
   obtain⟨t',rfl⟩:=ry
   exact mul_int ⟨.int _,H,I.tok _,⟨_,rfl⟩,yQ q (.int _)⟩ (IntMulOk.of_bits (zky c.1) (zky c.2))
  |lst hx rx'=>
   obtain⟨j,h1,he⟩:=bS_ (show(asI e).bind _=_ from he)
   obtain⟨rfl,rfl⟩:=Vf vy h1
   obtain⟨c,rfl⟩:=yj he
   exact zrv pins s σ H _ _ v u Q I rx ry ⟨_,_,_,rfl,rfl,hx,c.1,c.2.1,by rw[rx'.length];exact c.2.2,zdN q (rx'.rep _)⟩
  |tup r1 hx rx'=>
   obtain⟨j,h1,he⟩:=bS_ (show(asI e).bind _=_ from he)
   obtain⟨rfl,rfl⟩:=Vf vy h1
   obtain⟨c,rfl⟩:=yj he
   refine zrY pins s σ H _ _ v u Q I rx ry ⟨_,_,_,rfl,rfl,hx,λe=>?_,c.1,c.2.1,by rw[rx'.length];exact c.2.2.2,λe=>?_,λ_=>zfP ht q (rx'.rep _)⟩
   · have:=rx'.length
     rw[e]at this
     exact c.2.2.1 this.symm
   · subst e
     refine yQ q ?_
     rw[show(1:Int).toNat=1 from rfl,List.replicate_one,List.flatten_cons,List.flatten_nil,zyC]
     exact r1
  |_=>cases he
 |FloorDiv=>
  obtain⟨i,j,rfl,rfl,he⟩:=W9 vx vy he
  obtain⟨c,rfl⟩:=yj he
  obtain⟨t,rfl⟩:=rx
  obtain⟨t',rfl⟩:=ry
  refine floordiv_int (by omega) ?_ (.inl (PyProof.noPylong_of_log2 ?_))
  · rw[Int.fdiv_eq_ediv_of_nonneg _ (by omega)]
    exact⟨.int _,H,I.tok _,⟨_,rfl⟩,yQ q (.int _)⟩
  · exact zzI ((Nat.log2_lt (by have:=c.1;omega)).mpr (show _<2 ^ 4000 from c.2)) (by decide)
 |Mod=>
  obtain⟨i,j,rfl,rfl,he⟩:=W9 vx vy he
  obtain⟨c,rfl⟩:=yj he
  exact zoj pins s σ H _ _ v u Q I rx ry ⟨_,_,rfl,rfl,c,yQ q (.int _)⟩
 |Pow=>
  obtain⟨i,j,rfl,rfl,he⟩:=W9 vx vy he
  obtain⟨c,rfl⟩:=yj he
  exact zsH pins s σ H _ _ v u Q I rx ry ⟨_,_,rfl,rfl,c,yQ q (.int _)⟩
 |_=>cases he
end
def eqL(f:D->D->Option Bool):List D->List D->Option Bool
 | [],[]=>some true
 |x::r,y::t=>(f x y).bind λb=>(eqL f r t).bind λc=>some (b&&c)
 |_,_=>some false
def eqF:Nat->D->D->Option Bool
 |0,_,_=>none
 |_+1,.non,.non=>some true
 |_+1,.bl a,.bl b=>some (a==b)
 |_+1,.int a,.int b=>some (a==b)
 |_+1,.str a,.str b=>some (a==b)
 |_+1,.bl a,.int b=>some ((if a then 1 else 0)==b)
 |_+1,.int a,.bl b=>some (a==(if b then 1 else 0))
 |n+1,.lst xs,.lst ys=>eqL (eqF n) xs ys
 |n+1,.tup xs,.tup ys=>eqL (eqF n) xs ys
 |_+1,.dct _,_=>none
 |_+1,.cl _,_=>none
 |_+1,.ob _ _ _,_=>none
 |_+1,.dt _ _,_=>none
 |_+1,_,.dct _=>none
 |_+1,_,.cl _=>none
 |_+1,_,.ob _ _ _=>none
 |_+1,_,.dt _ _=>none
 |_+1,_,_=>some false
def eqJ(f:D->D->Option Bool)(xs ys:List D)(j:Nat):Bool:=match xs[j]?,ys[j]? with
 |some d,some e=>(f d e).getD false
 |_,_=>false
theorem zgG{f:D->D->Option Bool}:∀{xs ys:List D}{b:Bool},eqL f xs ys=some b->(∀(j:Nat) d e,xs[j]? = some d->ys[j]? = some e->∃c,f d e=some c)/\
 b=((List.range (min xs.length ys.length)).all (eqJ f xs ys)&&xs.length==ys.length)
 | [],[],b,h=>by cases h;exact⟨λj d e h=>by simp at h,by simp⟩
 | [],y::t,b,h=>by cases h;exact⟨λj d e h=>by simp at h,by simp⟩
 |x::r,[],b,h=>by cases h;exact⟨λj d e _ h=>by simp at h,by simp⟩
 |x::r,y::t,b,h=>by
  obtain⟨b1,h1,h⟩:=bS_ (show(f x y).bind _=_ from h)
  obtain⟨c1,h2,h⟩:=bS_ h
  cases h
  obtain⟨k1,k2⟩:=zgG h2
  refine⟨λj d e hd he=>?_, ?_⟩
  · cases j with
    |zero=>simp at hd he;subst hd he;exact⟨b1,h1⟩
    |succ j=>exact k1 j d e (by simpa using hd) (by simpa using he)
  · have e0:min (x::r).length (y::t).length=min r.length t.length+1:=by simp only[zzR];omega
    rw[e0,List.range_succ_eq_map,List.all_cons,List.all_map,k2]
    have e1:eqJ f (x::r) (y::t) 0=b1:=by show(f x y).getD false=b1;rw[h1];rfl
    have e2:(eqJ f (x::r) (y::t)∘Nat.succ)=eqJ f r t:=by
     funext j
     show eqJ f (x::r) (y::t) (j+1)=_
     unfold eqJ
     simp
    have e3:((x::r).length==(y::t).length)=(r.length==t.length):=by
     by_cases hh:r.length=t.length<;>simp[hh]
    rw[e1,e2,e3,Bool.and_assoc]
structure EqAll(A:Around)(s:Shared)(u v:Value)(b:Bool):Prop where
 rc:SeqAt.RcAt A s u v b
 ne:SeqAt.RcNeAt A s u v (!b)
 eq:SeqAt.EqAt A s u v b
section
variable{X:Cx}{kd:KD}{pins:List (Addr×Obj)}{σ:St}{H:Hp}{s:Shared}{O:Addr->Prop}
theorem zmG(I:Inv X pins σ H s){a:Addr}{xs ys:List V}(h:SqT X.K H a xs)(h':SqL X.K H a ys):False:=by
 obtain⟨_,_,⟨o,e,c,_⟩,_⟩:=I.tuple h
 obtain⟨_,_,⟨o',n,e',c',_⟩,_⟩:=I.list h'
 rw[e]at e'
 cases e'
 rw[c]at c'
 exact absurd c' (by decide)
theorem zmy(I:Inv X pins σ H s):∀(n:Nat) (v:V) (d e:D) (b:Bool),Vw X.K kd O H v d->Vw X.K kd O H v e->eqF n d e=some b->b=true
 |0,_,_,_,_,_,_,h=>by cases h
 |n+1,v,d,e,b,h1,h2,h=>by
  have lst:∀(vs:List V) (ds es:List D) (b:Bool),RpL X.K kd O H vs ds->RpL X.K kd O H vs es->eqL (eqF n) ds es=some b->b=true:=by
   intro vs
   induction vs with
   |nil=>intro ds es b r1 r2 h;cases r1;cases r2;cases h;rfl
   |cons v vs ih=>
    intro ds es b r1 r2 h
    cases r1 with
    |cons a1 r1=>
     cases r2 with
     |cons a2 r2=>
      obtain⟨b1,k1,h⟩:=bS_ (show(eqF n _ _).bind _=_ from h)
      obtain⟨c1,k2,h⟩:=bS_ h
      cases h
      rw[zmy I n _ _ _ _ a1.vw a2.vw k1,ih _ _ _ r1 r2 k2]
      rfl
  cases h1 with
  |non=>cases h2;cases h;rfl
  |bl x=>cases h2;cases h;simp
  |int x=>cases h2;cases h;simp
  |str x=>cases h2;cases h;simp
  |tup r1 s1 l1=>
   cases h2 with
   |tup r2 s2 l2=>
    have:=I.tuple_inj s1 s2
    subst this
    exact lst _ _ _ _ l1 l2 h
   |lst s2 l2=>exact(zmG I s1 s2.sq).elim
   |_=>cases h
  |lst s1 l1=>
   cases h2 with
   |tup r2 s2 l2=>exact(zmG I s2 s1.sq).elim
   |lst s2 l2=>
    have:=I.list_inj s1.sq s2.sq
    subst this
    exact lst _ _ _ _ l1 l2 h
   |_=>cases h
  |_=>cases h
theorem zjp(I:Inv X pins σ H s):∀(n:Nat) (A:Around) (x y:V) (d e:D) (u v:Value) (b:Bool),A.units+n<cLine->Vw X.K kd O H x d->Vw X.K kd O H y e->RelV x u->RelV y v->eqF n d e=some b->EqAll A s u v b
 |0,_,_,_,_,_,_,_,_,_,_,_,_,_,h=>by cases h
 |n+1,A,x,y,d,e,u,v,b,hu,h1,h2,r1,r2,h=>by
  have hu0:A.units<cLine:=by omega
  have itm:∀{vs ws:List V}{its its2:List Value}{ds es:List D},RpL X.K kd O H vs ds->RpL X.K kd O H ws es->Vals vs its->Vals ws its2->(∀(j:Nat) d e,ds[j]? = some d->es[j]? = some e->∃c,eqF n d e=some c)->
   ∀j (h1:j<its.toArray.size) (h2:j<its2.toArray.size),SeqAt.EqAt A.in1 s its.toArray[j] its2.toArray[j] (eqJ (eqF n) ds es j):=by
   intro vs ws its its2 ds es l1 l2 v1 v2 hd j j1 j2
   have q1:j<ds.length:=by rw[<-l1.length,v1.length];simpa using j1
   have q2:j<es.length:=by rw[<-l2.length,v2.length];simpa using j2
   obtain⟨a1,ha1,ra1⟩:=l1.get (zzC q1)
   obtain⟨a2,ha2,ra2⟩:=l2.get (zzC q2)
   obtain⟨u1,hu1,ru1⟩:=v1.get ha1
   obtain⟨u2,hu2,ru2⟩:=v2.get ha2
   obtain⟨c,hc⟩:=hd j _ _ (zzC q1) (zzC q2)
   have e1:its.toArray[j]=u1:=by
    have:=(zzE.mp hu1).2
    simpa using this
   have e2:its2.toArray[j]=u2:=by
    have:=(zzE.mp hu2).2
    simpa using this
   rw[e1,e2]
   have e3:eqJ (eqF n) ds es j=c:=by
    unfold eqJ
    rw[zzC q1,zzC q2]
    show(eqF n _ _).getD false=c
    rw[hc];rfl
   rw[e3]
   exact(zjp I n A.in1 a1 a2 _ _ u1 u2 c (by show A.units+1+n<cLine;omega) ra1.vw ra2.vw ru1 ru2 hc).eq
  have same:∀{a a':Addr},x = .ref a->y = .ref a'->a=a'->b=true:=by
   intro a a' e1 e2 e3
   subst e1 e2 e3
   exact zmy I (n+1) _ _ _ _ h1 h2 h
  cases h1 with
  |non=>
   cases r1
   cases h2 with
   |non=>cases r2;cases h;exact⟨SeqAt.RcAt.none_none,SeqAt.RcNeAt.none_none,SeqAt.EqAt.same _⟩
   |bl=>cases r2;cases h;exact⟨SeqAt.RcAt.none_bool _,SeqAt.RcNeAt.none_bool _,SeqAt.EqAt.none_bool _⟩
   |int=>obtain⟨t,rfl⟩:=r2;cases h;exact⟨SeqAt.RcAt.none_int _ _,SeqAt.RcNeAt.none_int _ _,SeqAt.EqAt.none_int _ _⟩
   |str=>obtain⟨t,rfl⟩:=r2;cases h;exact⟨SeqAt.RcAt.none_str _ _,SeqAt.RcNeAt.none_str _ _,SeqAt.EqAt.none_str _ _⟩
   |tup r s2 l2=>
    cases r2;cases h
    obtain⟨its,rv,p,_⟩:=I.tuple s2
    exact⟨SeqAt.RcAt.none_tuple p hu0,SeqAt.RcNeAt.none_tuple p hu0,SeqAt.EqAt.none_tuple p hu0⟩
   |lst s2 l2=>
    cases r2;cases h
    obtain⟨its,rv,p,_⟩:=I.list s2.sq
    exact⟨SeqAt.RcAt.none_list p.isList hu0,SeqAt.RcNeAt.none_list p.isList hu0,SeqAt.EqAt.none_list p.isList hu0⟩
   |_=>cases h
  |bl c=>
   cases r1
   cases h2 with
   |non=>cases r2;cases h;exact⟨SeqAt.RcAt.bool_none _,SeqAt.RcNeAt.bool_none _,SeqAt.EqAt.bool_none _⟩
   |bl=>cases r2;cases h;exact⟨SeqAt.RcAt.bool_bool _ _,SeqAt.RcNeAt.bool_bool _ _,SeqAt.EqAt.bool_bool _ _⟩
   |int=>obtain⟨t,rfl⟩:=r2;cases h;exact⟨SeqAt.RcAt.bool_int _ _ _,SeqAt.RcNeAt.bool_int _ _ _,SeqAt.EqAt.bool_int _ _ _⟩
   |str=>obtain⟨t,rfl⟩:=r2;cases h;exact⟨SeqAt.RcAt.bool_str _ _ _,SeqAt.RcNeAt.bool_str _ _ _,SeqAt.EqAt.bool_str _ _ _⟩
   |tup r s2 l2=>
    cases r2;cases h
    obtain⟨its,rv,p,_⟩:=I.tuple s2
    exact⟨SeqAt.RcAt.bool_tuple _ p hu0,SeqAt.RcNeAt.bool_tuple _ p hu0,SeqAt.EqAt.bool_tuple _ p hu0⟩
   |lst s2 l2=>
    cases r2;cases h
    obtain⟨its,rv,p,_⟩:=I.list s2.sq
    exact⟨SeqAt.RcAt.bool_list _ p.isList hu0,SeqAt.RcNeAt.bool_list _ p.isList hu0,SeqAt.EqAt.bool_list _ p.isList hu0⟩
   |_=>cases h
  |int c=>
   obtain⟨t0,rfl⟩:=r1
   cases h2 with
   |non=>cases r2;cases h;exact⟨SeqAt.RcAt.int_none _ _,SeqAt.RcNeAt.int_none _ _,SeqAt.EqAt.int_none _ _⟩
   |bl=>cases r2;cases h;exact⟨SeqAt.RcAt.int_bool _ _ _,SeqAt.RcNeAt.int_bool _ _ _,SeqAt.EqAt.int_bool _ _ _⟩
   |int=>obtain⟨t,rfl⟩:=r2;cases h;exact⟨SeqAt.RcAt.int_int _ _ _ _,SeqAt.RcNeAt.int_int _ _ _ _,SeqAt.EqAt.int_int _ _ _ _⟩
   |str=>obtain⟨t,rfl⟩:=r2;cases h;exact⟨SeqAt.RcAt.int_str _ _ _ _,SeqAt.RcNeAt.int_str _ _ _ _,SeqAt.EqAt.int_str _ _ _ _⟩
   |tup r s2 l2=>
    cases r2;cases h
    obtain⟨its,rv,p,_⟩:=I.tuple s2
    exact⟨SeqAt.RcAt.int_tuple _ _ p hu0,SeqAt.RcNeAt.int_tuple _ _ p hu0,SeqAt.EqAt.int_tuple _ _ p hu0⟩
   |lst s2 l2=>
    cases r2;cases h
    obtain⟨its,rv,p,_⟩:=I.list s2.sq
    exact⟨SeqAt.RcAt.int_list _ _ p.isList hu0,SeqAt.RcNeAt.int_list _ _ p.isList hu0,SeqAt.EqAt.int_list _ _ p.isList hu0⟩
   |_=>cases h
  |str c=>
   obtain⟨t0,rfl⟩:=r1
   cases h2 with
   |non=>cases r2;cases h;exact⟨SeqAt.RcAt.str_none _ _,SeqAt.RcNeAt.str_none _ _,SeqAt.EqAt.str_none _ _⟩
   |bl=>cases r2;cases h;exact⟨SeqAt.RcAt.str_bool _ _ _,SeqAt.RcNeAt.str_bool _ _ _,SeqAt.EqAt.str_bool _ _ _⟩
   |int=>obtain⟨t,rfl⟩:=r2;cases h;exact⟨SeqAt.RcAt.str_int _ _ _ _,SeqAt.RcNeAt.str_int _ _ _ _,SeqAt.EqAt.str_int _ _ _ _⟩
   |str=>obtain⟨t,rfl⟩:=r2;cases h;exact⟨SeqAt.RcAt.str_str _ _ _ _,SeqAt.RcNeAt.str_str _ _ _ _,SeqAt.EqAt.str_str _ _ _ _⟩
   |tup r s2 l2=>
    cases r2;cases h
    obtain⟨its,rv,p,_⟩:=I.tuple s2
    exact⟨SeqAt.RcAt.str_tuple _ _ p hu0,SeqAt.RcNeAt.str_tuple _ _ p hu0,SeqAt.EqAt.str_tuple _ _ p hu0⟩
   |lst s2 l2=>
    cases r2;cases h
    obtain⟨its,rv,p,_⟩:=I.list s2.sq
    exact⟨SeqAt.RcAt.str_list _ _ p.isList hu0,SeqAt.RcNeAt.str_list _ _ p.isList hu0,SeqAt.EqAt.str_list _ _ p.isList hu0⟩
   |_=>cases h
  | @tup a1 vs1 ds1 r s1 l1=>
   cases r1
   obtain⟨its1,rv1,p1,_⟩:=I.tuple s1
   cases h2 with
   |non=>cases r2;cases h;exact⟨SeqAt.RcAt.tuple_none p1 hu0,SeqAt.RcNeAt.tuple_none p1 hu0,SeqAt.EqAt.tuple_none p1 hu0⟩
   |bl=>cases r2;cases h;exact⟨SeqAt.RcAt.tuple_bool _ p1 hu0,SeqAt.RcNeAt.tuple_bool _ p1 hu0,SeqAt.EqAt.tuple_bool _ p1 hu0⟩
   |int=>obtain⟨t,rfl⟩:=r2;cases h;exact⟨SeqAt.RcAt.tuple_int _ _ p1 hu0,SeqAt.RcNeAt.tuple_int _ _ p1 hu0,SeqAt.EqAt.tuple_int _ _ p1 hu0⟩
   |str=>obtain⟨t,rfl⟩:=r2;cases h;exact⟨SeqAt.RcAt.tuple_str _ _ p1 hu0,SeqAt.RcNeAt.tuple_str _ _ p1 hu0,SeqAt.EqAt.tuple_str _ _ p1 hu0⟩
   | @tup a2 vs2 ds2 r' s2 l2=>
    cases r2
    obtain⟨its2,rv2,p2,_⟩:=I.tuple s2
    obtain⟨k1,k2⟩:=zgG h
    have he:=itm l1 l2 rv1 rv2 k1
    have eb:((List.range (min its1.toArray.size its2.toArray.size)).all (eqJ (eqF n) ds1 ds2)&&its1.toArray.size==its2.toArray.size)=b:=by
     rw[k2,zzF,zzF,<-rv1.length,<-rv2.length,l1.length,l2.length]
    have b1:=SeqAt.RcAt.tuples p1 p2 hu0 he
    have b2:=SeqAt.RcNeAt.tuples p1 p2 hu0 he
    rw[eb]at b1 b2
    refine⟨b1,b2, ?_⟩
    by_cases ha:a1=a2
    · have hb:=same rfl rfl ha
      subst ha
      rw[hb]
      exact SeqAt.EqAt.same _
    · exact SeqAt.EqAt.of_refs ha b1
   |lst s2 l2=>
    cases r2;cases h
    obtain⟨its,rv,p,_⟩:=I.list s2.sq
    exact⟨SeqAt.RcAt.tuple_list p1 p.isList hu0,SeqAt.RcNeAt.tuple_list p1 p.isList hu0,SeqAt.EqAt.tuple_list p1 p.isList hu0⟩
   |_=>cases h
  | @lst a1 vs1 ds1 s1 l1=>
   cases r1
   obtain⟨its1,rv1,p1,_⟩:=I.list s1.sq
   cases h2 with
   |non=>cases r2;cases h;exact⟨SeqAt.RcAt.list_none p1.isList hu0,SeqAt.RcNeAt.list_none p1.isList hu0,SeqAt.EqAt.list_none p1.isList hu0⟩
   |bl=>cases r2;cases h;exact⟨SeqAt.RcAt.list_bool _ p1.isList hu0,SeqAt.RcNeAt.list_bool _ p1.isList hu0,SeqAt.EqAt.list_bool _ p1.isList hu0⟩
   |int=>obtain⟨t,rfl⟩:=r2;cases h;exact⟨SeqAt.RcAt.list_int _ _ p1.isList hu0,SeqAt.RcNeAt.list_int _ _ p1.isList hu0,SeqAt.EqAt.list_int _ _ p1.isList hu0⟩
   |str=>obtain⟨t,rfl⟩:=r2;cases h;exact⟨SeqAt.RcAt.list_str _ _ p1.isList hu0,SeqAt.RcNeAt.list_str _ _ p1.isList hu0,SeqAt.EqAt.list_str _ _ p1.isList hu0⟩
   |tup r' s2 l2=>
    cases r2;cases h
    obtain⟨its2,rv2,p2,_⟩:=I.tuple s2
    exact⟨SeqAt.RcAt.list_tuple p1.isList p2 hu0,SeqAt.RcNeAt.list_tuple p1.isList p2 hu0,SeqAt.EqAt.list_tuple p1.isList p2 hu0⟩
   | @lst a2 vs2 ds2 s2 l2=>
    cases r2
    obtain⟨its2,rv2,p2,_⟩:=I.list s2.sq
    obtain⟨k1,k2⟩:=zgG h
    have he:=itm l1 l2 rv1 rv2 k1
    have ez1:its1.toArray.size=_:=zzF.trans (rv1.length.symm.trans l1.length)
    have ez2:its2.toArray.size=_:=zzF.trans (rv2.length.symm.trans l2.length)
    have both:SeqAt.RcAt A s (.ref a1) (.ref a2) b/\SeqAt.RcNeAt A s (.ref a1) (.ref a2) (!b):=by
     by_cases hz:its1.toArray.size=its2.toArray.size
     · have b1:=SeqAt.RcAt.lists p1.isList p2.isList hz hu0 he
       have b2:=SeqAt.RcNeAt.lists p1.isList p2.isList hz hu0 he
       have eb:(List.range its1.toArray.size).all (eqJ (eqF n) ds1 ds2)=b:=by
        rw[k2,<-ez1,<-ez2,<-hz,Nat.min_self]
        simp
       rw[eb]at b1 b2
       exact⟨b1,b2⟩
     · have hz':(its1.toArray.size != its2.toArray.size)=true:=by simpa using hz
       have eb:b=false:=by
        rw[k2,<-ez1,<-ez2]
        have:(its1.toArray.size==its2.toArray.size)=false:=by simpa using hz
        rw[this,Bool.and_false]
       rw[eb]
       exact⟨SeqAt.RcAt.lists_lengths p1.isList p2.isList hz' hu0,SeqAt.RcNeAt.lists_lengths p1.isList p2.isList hz' hu0⟩
    refine⟨both.1,both.2, ?_⟩
    by_cases ha:a1=a2
    · have hb:=same rfl rfl ha
      subst ha
      rw[hb]
      exact SeqAt.EqAt.same _
    · exact SeqAt.EqAt.of_refs ha both.1
   |_=>cases h
  |_=>cases h
end
structure DkAt(P:Program)(w:World)(h:Heap)(a:Addr)(kvs:List (Key×V)):Prop where
 le:kvs.length<=sizeLine
 ns:(a==sysModules)=false
 ex:∃vs,KV kvs vs/\h.DictOf (wB P w) a vs
structure KdOk(X:Cx)(kd:KD):Prop where
 inj:∀a k k',kd a k->kd a k'->k=k'
 inK:∀a k,kd a k->∃o,X.K.lookup a=some o
 at_:∀a k h,kd a k->X.K.In h->DkAt X.prog X.w h a k
section
variable{X:Cx}{kd:KD}{pins:List (Addr×Obj)}{σ:St}{H:Hp}{s:Shared}{O:Addr->Prop}
theorem ziz(I:Inv X pins σ H s)(hk:KdOk X kd){a:Addr}{kvs:List (Key×V)}(h:Rd H a (.dK kvs)\/kd a kvs):DkAt X.prog X.w s.heap a kvs:=by
 rcases h with h|h
 · obtain⟨z,hd,vs,rel,dd⟩:=zmU I.hok h
   exact⟨z,hd,vs,rel,dd⟩
 · exact hk.at_ _ _ _ h I.kIn
theorem zos(I:Inv X pins σ H s):∀(n:Nat) (v:V) (d e x:D) (b c:Bool),Vw X.K kd O H v d->Vw X.K kd O H v e->eqF n d x=some b->eqF n e x=some c->b=c
 |0,_,_,_,_,_,_,_,_,h,_=>by cases h
 |n+1,v,d,e,x,b,c,h1,h2,h,h'=>by
  have lst:∀(vs:List V) (ds es xs:List D) (b c:Bool),RpL X.K kd O H vs ds->RpL X.K kd O H vs es->eqL (eqF n) ds xs=some b->eqL (eqF n) es xs=some c->b=c:=by
   intro vs
   induction vs with
   |nil=>intro ds es xs b c r1 r2 h h';cases r1;cases r2;exact zzX (h.symm.trans h')
   |cons v vs ih=>
    intro ds es xs b c r1 r2 h h'
    cases r1 with
    |cons a1 r1=>
     cases r2 with
     |cons a2 r2=>
      cases xs with
      |nil=>cases h;cases h';rfl
      |cons x xs=>
       obtain⟨b1,k1,h⟩:=bS_ (show(eqF n _ _).bind _=_ from h)
       obtain⟨c1,k2,h⟩:=bS_ h
       obtain⟨b2,k3,h'⟩:=bS_ (show(eqF n _ _).bind _=_ from h')
       obtain⟨c2,k4,h'⟩:=bS_ h'
       cases h;cases h'
       rw[zos I n _ _ _ _ _ _ a1.vw a2.vw k1 k3,ih _ _ _ _ _ r1 r2 k2 k4]
  cases h1 with
  |tup r1 s1 l1=>
   cases h2 with
   |tup r2 s2 l2=>
    have:=I.tuple_inj s1 s2
    subst this
    cases x with
    |tup xs=>exact lst _ _ _ _ _ _ l1 l2 h h'
    |_=>exact zzX (h.symm.trans h')
   |lst s2 l2=>exact(zmG I s1 s2.sq).elim
   |_=>cases h'
  |lst s1 l1=>
   cases h2 with
   |tup r2 s2 l2=>exact(zmG I s2 s1.sq).elim
   |lst s2 l2=>
    have:=I.list_inj s1.sq s2.sq
    subst this
    cases x with
    |lst xs=>exact lst _ _ _ _ _ _ l1 l2 h h'
    |_=>exact zzX (h.symm.trans h')
   |_=>cases h'
  |dct s1 l1=>cases h
  |cl=>cases h
  |ob=>cases h
  |dt=>cases h
  |_=>cases h2;exact zzX (h.symm.trans h')
end
def znp:D->Option Key
 | .int i=>some (.inl i)
 | .str x=>some (.inr x)
 |_=>none
def zek(kvs:List (Key×D))(k:Key):Option D:=(kvs.find? λkv=>decide (kv.1=k)).map (·.2)
theorem zjW{K:zC}{kd:KD}{O:Addr->Prop}{H:Hp}(k:Key){vs:List (Key×V)}{ds:List (Key×D)}(h:RpM K kd O H vs ds):(∃v d,Z4 vs k=some v/\zek ds k=some d/\Rp K kd O H v d)\/(Z4 vs k=none/\zek ds k=none):=
 RpM.ind (P:=λvs ds=>(∃v d,Z4 vs k=some v/\zek ds k=some d/\Rp K kd O H v d)\/(Z4 vs k=none/\zek ds k=none)) (.inr ⟨rfl,rfl⟩) (λ{k' v d vs ds} a _ ih=>by
  by_cases e:k'=k
  · left
    refine⟨_,_, ?_, ?_,a⟩
    · unfold Z4;simp[e]
    · unfold zek;simp[e]
  · rcases ih with⟨v,d,h1,h2,h3⟩|⟨h1,h2⟩
    · left
      refine⟨v,d, ?_, ?_,h3⟩
      · unfold Z4 at h1 ⊢;simpa[e]using h1
      · unfold zek at h2 ⊢;simpa[e]using h2
    · right
      refine⟨?_, ?_⟩
      · unfold Z4 at h1 ⊢;simpa[e]using h1
      · unfold zek at h2 ⊢;simpa[e]using h2) h
def keyB:D->Option Key
 | .bl b=>some (.inl (if b=true then 1 else 0))
 |d=>znp d
def zeM:List D->Option (List Key)
 | []=>some []
 |d::r=>(keyB d).bind λk=>(zeM r).bind λks=>some (k::ks)
def zdJ:D->Option (List Key)
 | .tup ds=>zeM ds
 |_=>none
def zgo(ks:List (List Key))(ds:List D)(k:List Key):Option D:=((ks.zip ds).find? λkv=>decide (kv.1=k)).map (·.2)
theorem zoC{K:zC}{kd:KD}{O:Addr->Prop}{H:Hp}{vs:List V}{ds:List D}(h:RpL K kd O H vs ds):∀{k:List Key},zeM ds=some k->vs.map kO=k.map some:=
 RpL.ind (P:=λvs ds=>∀{k:List Key},zeM ds=some k->vs.map kO=k.map some) (λe=>by cases e;rfl) (λ{v d vs ds} a _ ih k e=>by
  obtain⟨k1,h1,e⟩:=bS_ (show(keyB d).bind _=_ from e)
  obtain⟨k2,h2,e⟩:=bS_ e
  cases e
  have hv:kO v=some k1:=by
   cases a with
   |int i=>cases h1;rfl
   |str i=>cases h1;rfl
   |bl b=>cases h1;rfl
   |_=>cases h1
  rw[zyQ,zyQ,hv,ih h2]) h
theorem zfE{K:zC}{kd:KD}{O:Addr->Prop}{H:Hp}{v:V}{d:D}{k:List Key}(h:Vw K kd O H v d)(e:zdJ d=some k):∃b,v = .ref b/\KC H b k:=by
 cases h with
 |tup rp hs rl=>
  cases rp with
  |tup n h r=>exact⟨_,rfl,_,h,zoC r e⟩
 |_=>cases e
theorem zfY{K:zC}{kd:KD}{O:Addr->Prop}{H:Hp}(k:List Key){vs:List V}{ds:List D}(h:RpL K kd O H vs ds):∀{ks:List (List Key)},ks.length=vs.length->(∃v d,Z4 (ks.zip vs) k=some v/\zgo ks ds k=some d/\Rp K kd O H v d)\/(Z4 (ks.zip vs) k=none/\zgo ks ds k=none):=
 RpL.ind (P:=λvs ds=>∀{ks:List (List Key)},ks.length=vs.length->(∃v d,Z4 (ks.zip vs) k=some v/\zgo ks ds k=some d/\Rp K kd O H v d)\/(Z4 (ks.zip vs) k=none/\zgo ks ds k=none)) (λ{ks} e=>by
  cases ks with
  |nil=>exact .inr ⟨rfl,rfl⟩
  |cons=>simp at e) (λ{v d vs ds} a _ ih ks e=>by
  cases ks with
  |nil=>simp at e
  |cons k1 ks=>
   have e':ks.length=vs.length:=by simpa using e
   unfold Z4 zgo
   rw[List.zip_cons_cons,List.zip_cons_cons]
   by_cases hk:k1=k
   · rw[List.find?_cons_of_pos (by simpa using hk),List.find?_cons_of_pos (by simpa using hk)]
     exact .inl ⟨_,_,rfl,rfl,a⟩
   · rw[List.find?_cons_of_neg (by simpa using hk),List.find?_cons_of_neg (by simpa using hk)]
     exact ih e') h
def anyF(f:D->Option Bool):List D->Option Bool
 | []=>some false
 |x::r=>(f x).bind λb=>(anyF f r).bind λc=>some (b||c)
def blR(b:Bool):R0:=.im (.bl b)
def inP(x:D):D->Option Bool
 | .lst ys=>anyF (λy=>eqF 50 y x) ys
 | .tup ys=>anyF (λy=>eqF 50 y x) ys
 | .str y=>match x with | .str i=>some (!(Builtin.Str.occurrences y i 0 y.length 1).isEmpty)|_=>none
 | .dct kvs=>(znp x).bind λk=>some (zek kvs k).isSome
 | .dt ks ds=>(zdJ x).bind λk=>some (zgo ks ds k).isSome
 |_=>none
def isP:D->D->Option Bool
 |d,.non=>some (match d with | .non=>true|_=>false)
 |d,.bl b=>match d with | .bl c=>some (c==b)|_=>some false
 |_,_=>none
def zpT(f:Int->Int->Bool):D->D->Option R0:=onI λi j=>some (blR (f i j))
def zY(o:CmpOp)(d e:D):Option R0:=match o with
 | .Eq=>(eqF 60 d e).bind λb=>some (blR b)
 | .NotEq=>(eqF 60 d e).bind λb=>some (blR !b)
 | .Lt=>zpT (λi j=>decide (i<j)) d e
 | .LtE=>zpT (λi j=>decide (i<=j)) d e
 | .Gt=>zpT (λi j=>decide (j<i)) d e
 | .GtE=>zpT (λi j=>decide (j<=i)) d e
 | .In=>(inP d e).bind λb=>some (blR b)
 | .NotIn=>(inP d e).bind λb=>some (blR !b)
 | .Is=>(isP d e).bind λb=>some (blR b)
 | .IsNot=>(isP d e).bind λb=>some (blR !b)
theorem zbf{o:Option Bool}{f:Bool->Bool}{r:R0}(h:(o.bind λb=>some (blR (f b)))=some r):∃k,r = .im (.bl k):=by
 obtain⟨b,_,h⟩:=bS_ h
 cases h
 exact⟨_,rfl⟩
theorem zfD{x y:D}{f:Int->Int->Bool}{r:R0}(h:zpT f x y=some r):∃k,r = .im (.bl k):=by
 obtain⟨i,_,h⟩:=bS_ (show(asI x).bind _=_ from h)
 obtain⟨j,_,h⟩:=bS_ h
 cases h
 exact⟨_,rfl⟩
theorem zni(op:CmpOp)(x y:D)(r:R0)(h:zY op x y=some r):∃k,r = .im (.bl k):=by
 cases op with
 |Eq=>exact zbf (f:=id) h
 |NotEq=>exact zbf (f:=not) h
 |Lt=>exact zfD h
 |LtE=>exact zfD h
 |Gt=>exact zfD h
 |GtE=>exact zfD h
 |In=>exact zbf (f:=id) h
 |NotIn=>exact zbf (f:=not) h
 |Is=>exact zbf (f:=id) h
 |IsNot=>exact zbf (f:=not) h
section
variable{X:Cx}{kd:KD}{pins:List (Addr×Obj)}{σ:St}{H:Hp}{s:Shared}{O:Addr->Prop}
noncomputable def eqW(K:zC)(kd:KD)(O:Addr->Prop)(H:Hp)(n:Nat)(x:D)(u:Value):Bool:=@decide (∃v d,RelV v u/\Rp K kd O H v d/\eqF n d x=some true) (Classical.propDecidable _)
theorem ziN(I:Inv X pins σ H s)(hk:KdOk X kd){n:Nat}{x d:D}{v:V}{u:Value}{b:Bool}(r:RelV v u)(p:Rp X.K kd O H v d)(e:eqF n d x=some b):eqW X.K kd O H n x u=b:=by
 unfold eqW
 cases b with
 |true=>exact @zyM _ (Classical.propDecidable _) ⟨v,d,r,p,e⟩
 |false=>
  refine @zyE _ (Classical.propDecidable _) λ⟨v',d',r',p',e'⟩=>?_
  have:=r.inj r'
  subst this
  exact Bool.noConfusion (zos I n _ _ _ _ _ _ p.vw p'.vw e e')
theorem zfI(I:Inv X pins σ H s)(hk:KdOk X kd){n:Nat}{x:D}{vs:List V}{us:List Value}{ds:List D}{b:Bool}(hv:Vals vs us)(h:RpL X.K kd O H vs ds)(e:anyF (λy=>eqF n y x) ds=some b):us.any (eqW X.K kd O H n x)=b:=
 RpL.ind (P:=λvs ds=>∀us b,Vals vs us->anyF (λy=>eqF n y x) ds=some b->us.any (eqW X.K kd O H n x)=b) (λus b hv e=>by cases e;cases hv;rfl) (λ{v d vs ds} a _ ih us b hv h=>by
  cases hv with
  |cons r t=>
   obtain⟨b1,h1,h⟩:=bS_ (show(eqF n _ x).bind _=_ from h)
   obtain⟨c1,h2,h⟩:=bS_ h
   cases h
   rw[List.any_cons,ziN I hk r a h1,ih _ _ t h2]) h us b hv e
theorem WF{f:D->Option Bool}:∀{ds:List D}{b:Bool},anyF f ds=some b->∀d ∈ ds,∃c,f d=some c
 | [],_,_,d,hd=>by simp at hd
 |x::r,b,h,d,hd=>by
  obtain⟨b1,h1,h⟩:=bS_ (show(f x).bind _=_ from h)
  obtain⟨c1,h2,h⟩:=bS_ h
  rcases zzA.mp hd with e|e
  · subst e;exact⟨b1,h1⟩
  · exact WF h2 d e
theorem zdl(I:Inv X pins σ H s)(hk:KdOk X kd){n:Nat}{A:Around}(hu:A.units+n<cLine){x:V}{v:Value}{d:D}(vx:Vw X.K kd O H x d)(rx:RelV x v){vs:List V}{us:List Value}{ds:List D}(hv:Vals vs us)(h:RpL X.K kd O H vs ds)(k:∀e ∈ ds,∃c,eqF n e d=some c):∀u ∈ us,SeqAt.EqAt A s u v (eqW X.K kd O H n d u):=
 RpL.ind (P:=λvs ds=>∀us,Vals vs us->(∀e ∈ ds,∃c,eqF n e d=some c)->∀u ∈ us,SeqAt.EqAt A s u v (eqW X.K kd O H n d u)) (λus hv _ u hu=>by cases hv;simp at hu) (λa q ih us hv h u hm=>by
  cases hv with
  |cons r t=>
   rcases zzA.mp hm with e|e
   · subst e
     obtain⟨c,hc⟩:=h _ zzD
     rw[ziN I hk r a hc]
     exact(zjp I n A _ _ _ _ _ _ _ hu a.vw vx r rx hc).eq
   · exact ih _ t (λe he=>h e (zzB _ he)) u e) h us hv k
theorem zgC{A:Around}{E:Value->Shared->Prop}{x:V}{v:Value}{b c:Bool}{d:D}{Q:Bool->Shared->Prop}(vx:Vw X.K kd O H x d)(rx:RelV x v)(e:isP d (.bl b)=some c)(h:Q c s):wpAny (model X.prog X.w) A (isSame v (.bool b)) Q E s:=by
 cases vx with
 |non=>cases rx;cases e;exact zxF h
 |bl k=>
  cases rx
  have e:some (k==b)=some c:=e
  cases e
  refine zxF ?_
  cases k<;>cases b<;>exact h
 |int=>obtain⟨t,rfl⟩:=rx;cases e;exact zxF h
 |str=>obtain⟨t,rfl⟩:=rx;cases e;exact zxF h
 |tup=>cases rx;cases e;exact zxF h
 |lst=>cases rx;cases e;exact zxF h
 |dct=>cases rx;cases e;exact zxF h
 |cl=>cases rx;cases e;exact zxF h
 |ob=>cases rx;cases e;exact zxF h
 |dt=>cases rx;cases e;exact zxF h
theorem zhj(hk:KdOk X kd)(hu:X.A.units+100<cLine)(op:CmpOp):OpD X kd (compareOp op) (zY op):=by
 intro pins s σ H x y v u Q I rx ry h
 obtain⟨O,d,e,r,ht,vx,vy,he,q⟩:=h
 cases op with
 |Eq=>
  obtain⟨b,h1,he⟩:=bS_ (show(eqF 60 d e).bind _=_ from he)
  cases he
  exact(zjp I 60 X.A x y d e v u b (by omega) vx vy rx ry h1).rc _ _ _ _ (vQ I (yQ q (.bl _)) rfl)
 |NotEq=>
  obtain⟨b,h1,he⟩:=bS_ (show(eqF 60 d e).bind _=_ from he)
  cases he
  exact(zjp I 60 X.A x y d e v u b (by omega) vx vy rx ry h1).ne _ _ _ _ (vQ I (yQ q (.bl _)) rfl)
 |Lt=>
  obtain⟨i,j,rfl,rfl,he⟩:=W9 vx vy he
  cases he
  exact zvb pins s σ H _ _ v u Q I rx ry ⟨_,_,rfl,rfl,yQ q (.bl _)⟩
 |LtE=>
  obtain⟨i,j,rfl,rfl,he⟩:=W9 vx vy he
  cases he
  exact zuI pins s σ H _ _ v u Q I rx ry ⟨_,_,rfl,rfl,yQ q (.bl _)⟩
 |Gt=>
  obtain⟨i,j,rfl,rfl,he⟩:=W9 vx vy he
  cases he
  exact zvF pins s σ H _ _ v u Q I rx ry ⟨_,_,rfl,rfl,yQ q (.bl _)⟩
 |GtE=>
  obtain⟨i,j,rfl,rfl,he⟩:=W9 vx vy he
  cases he
  exact zuY pins s σ H _ _ v u Q I rx ry ⟨_,_,rfl,rfl,yQ q (.bl _)⟩
 |In=>
  obtain⟨b,h1,he⟩:=bS_ (show(inP d e).bind _=_ from he)
  cases he
  cases vy with
  |lst hs rl=>
   cases ry
   obtain⟨its,rv,p,_⟩:=I.list hs.sq
   refine SeqAt.in_listAt (eqW X.K kd O H 50 d) p.isList (λw hw=>zdl I hk (by show X.A.units+1+50<cLine;omega) vx rx rv rl (WF h1) w (by simpa using hw)) ?_
   have:=zfI I hk rv rl h1
   rw[show its.toArray.any (eqW X.K kd O H 50 d)=b by rw[<-this];simp]
   exact vQ (I) (yQ q (.bl _)) rfl
  |tup rp hs rl=>
   cases ry
   obtain⟨its,rv,p,_⟩:=I.tuple hs
   refine SeqAt.in_tupleAt (eqW X.K kd O H 50 d) p (λw hw=>zdl I hk (by show X.A.units+1+50<cLine;omega) vx rx rv rl (WF h1) w (by simpa using hw)) ?_
   have:=zfI I hk rv rl h1
   rw[show its.toArray.any (eqW X.K kd O H 50 d)=b by rw[<-this];simp]
   exact vQ (I) (yQ q (.bl _)) rfl
  |str z=>
   cases vx with
   |str i=>cases h1;exact znE pins s σ H _ _ v u Q I rx ry ⟨_,_,rfl,rfl,yQ q (.bl _)⟩
   |_=>cases h1
  |dct hs rm=>
   cases ry
   obtain⟨k,k1,h1⟩:=bS_ h1
   cases h1
   obtain⟨z,hd,vs,rel,dd⟩:=ziz I hk hs
   have ek:x=kV k:=by
    cases vx with
    |int i=>cases k1;rfl
    |str i=>cases k1;rfl
    |_=>cases k1
   subst ek
   refine wpAny_in_of (zdi rx) hd dd.mapOf ?_
   rw[<-(rel.val k).isSome_eq]
   rcases zjW k rm with⟨v1,d1,e1,e2,_⟩|⟨e1,e2⟩
   · rw[e1];rw[e2]at q;exact vQ (I.tok _) (yQ q (.bl _)) rfl
   · rw[e1];rw[e2]at q;exact vQ (I.tok _) (yQ q (.bl _)) rfl
  |dt hH l rl=>
   cases ry
   obtain⟨k,k1,h1⟩:=bS_ h1
   cases h1
   obtain⟨b,rfl,hb⟩:=zfE vx k1
   refine zvW (by show X.A.units+1<cLine;omega) I (zlc.t hH hb) rx λs' I'=>?_
   rcases zfY k rl l with⟨v1,d1,e1,e2,_⟩|⟨e1,e2⟩
   · rw[e1];rw[e2]at q;exact vQ I' (yQ q (.bl _)) rfl
   · rw[e1];rw[e2]at q;exact vQ I' (yQ q (.bl _)) rfl
  |_=>cases h1
 |NotIn=>
  obtain⟨b,h1,he⟩:=bS_ (show(inP d e).bind _=_ from he)
  cases he
  cases vy with
  |lst hs rl=>
   cases ry
   obtain⟨its,rv,p,_⟩:=I.list hs.sq
   refine SeqAt.notIn_listAt (eqW X.K kd O H 50 d) p.isList (λw hw=>zdl I hk (by show X.A.units+1+50<cLine;omega) vx rx rv rl (WF h1) w (by simpa using hw)) ?_
   have:=zfI I hk rv rl h1
   rw[show its.toArray.any (eqW X.K kd O H 50 d)=b by rw[<-this];simp]
   exact vQ (I) (yQ q (.bl _)) rfl
  |tup rp hs rl=>
   cases ry
   obtain⟨its,rv,p,_⟩:=I.tuple hs
   refine SeqAt.notIn_tupleAt (eqW X.K kd O H 50 d) p (λw hw=>zdl I hk (by show X.A.units+1+50<cLine;omega) vx rx rv rl (WF h1) w (by simpa using hw)) ?_
   have:=zfI I hk rv rl h1
   rw[show its.toArray.any (eqW X.K kd O H 50 d)=b by rw[<-this];simp]
   exact vQ (I) (yQ q (.bl _)) rfl
  |str z=>
   cases vx with
   |str i=>cases h1;exact zjV pins s σ H _ _ v u Q I rx ry ⟨_,_,rfl,rfl,yQ q (.bl _)⟩
   |_=>cases h1
  |dct hs rm=>
   cases ry
   obtain⟨k,k1,h1⟩:=bS_ h1
   cases h1
   obtain⟨z,hd,vs,rel,dd⟩:=ziz I hk hs
   have ek:x=kV k:=by
    cases vx with
    |int i=>cases k1;rfl
    |str i=>cases k1;rfl
    |_=>cases k1
   subst ek
   refine wpAny_notIn_of (zdi rx) hd dd.mapOf ?_
   rw[<-(rel.val k).isSome_eq]
   rcases zjW k rm with⟨v1,d1,e1,e2,_⟩|⟨e1,e2⟩
   · rw[e1];rw[e2]at q;exact vQ (I.tok _) (yQ q (.bl _)) rfl
   · rw[e1];rw[e2]at q;exact vQ (I.tok _) (yQ q (.bl _)) rfl
  |dt hH l rl=>
   cases ry
   obtain⟨k,k1,h1⟩:=bS_ h1
   cases h1
   obtain⟨b,rfl,hb⟩:=zfE vx k1
   refine zri (by show X.A.units+1<cLine;omega) I (zlc.t hH hb) rx λs' I'=>?_
   rcases zfY k rl l with⟨v1,d1,e1,e2,_⟩|⟨e1,e2⟩
   · rw[e1];rw[e2]at q;exact vQ I' (yQ q (.bl _)) rfl
   · rw[e1];rw[e2]at q;exact vQ I' (yQ q (.bl _)) rfl
  |_=>cases h1
 |Is=>
  obtain⟨b,h1,he⟩:=bS_ (show(isP d e).bind _=_ from he)
  cases he
  cases vy with
  |non=>
   refine zsW pins s σ H _ _ v u Q I rx ry ⟨rfl, ?_⟩
   have:decide (x=V.non)=b:=by cases vx<;>(cases h1;rfl)
   rw[this]
   exact yQ q (.bl b)
  |bl c=>
   cases ry
   exact zxE (zgC vx rx h1 (zxF (vQ I (yQ q (.bl _)) rfl)))
  |_=>cases h1
 |IsNot=>
  obtain⟨b,h1,he⟩:=bS_ (show(isP d e).bind _=_ from he)
  cases he
  cases vy with
  |non=>
   refine zrc pins s σ H _ _ v u Q I rx ry ⟨rfl, ?_⟩
   have:decide (x=V.non)=b:=by cases vx<;>(cases h1;rfl)
   rw[this]
   exact yQ q (.bl _)
  |bl c=>
   cases ry
   exact zxE (zgC vx rx h1 (zxF (vQ I (yQ q (.bl _)) rfl)))
  |_=>cases h1
end
theorem zms{K:zC}{kd:KD}{O:Addr->Prop}{H:Hp}{vs:List V}{ds:List D}{i:Int}{d:D}(r:RpL K kd O H vs ds)(h:atI ds i=some d):∃v,atI vs i=some v/\Rp K kd O H v d:=by
 unfold atI at h ⊢
 obtain⟨j,h1,h2⟩:=bS_ h
 rw[r.length,h1]
 exact r.get h2
def imR(o:Option D):Option R0:=o.bind λd=>some (.im d)
def ixP(x y:D):Option R0:=match x with
 | .lst xs=>(asI y).bind λi=>imR (atI xs i)
 | .tup xs=>(asI y).bind λi=>imR (atI xs i)
 | .str x=>(asI y).bind λi=>if x.length<=sizeLine then(atI x.cps.toList i).bind λc=>some (.im (.str ⟨#[c]⟩))else none
 | .dct kvs=>(znp y).bind λk=>imR (zek kvs k)
 |_=>none
theorem zde{o:Option D}{r:R0}(h:imR o=some r):∃d,o=some d/\r = .im d:=by
 obtain⟨d,h1,h2⟩:=bS_ (show o.bind _=_ from h)
 cases h2
 exact⟨d,h1,rfl⟩
section
variable{X:Cx}{kd:KD}
theorem zpx{K:zC}{O:Addr->Prop}{H:Hp}{x:V}{d:D}{k:Key}(vx:Vw K kd O H x d)(e:znp d=some k):x=kV k:=by
 cases vx with
 |int i=>cases e;rfl
 |str i=>cases e;rfl
 |_=>cases e
theorem zwc(hk:KdOk X kd):IxD X kd ixP:=by
 intro value slice pins s σ H x y v u Q I rx ry h hs
 obtain⟨O,d,e,r,ht,vx,vy,he,q⟩:=h
 cases vx with
 |lst hr rl=>
  obtain⟨i,h0,he⟩:=bS_ (show(asI e).bind _=_ from he)
  obtain⟨rfl,rfl⟩:=Vf vy h0
  obtain⟨d,h1,rfl⟩:=zde he
  obtain⟨w,hw,rw'⟩:=zms rl h1
  exact zdq value slice pins s σ H _ _ v u Q I rx ry ⟨_,_,_,w,rfl,rfl,hr.sq,hw,yQ q rw'⟩ hs
 |tup rp hr rl=>
  obtain⟨i,h0,he⟩:=bS_ (show(asI e).bind _=_ from he)
  obtain⟨rfl,rfl⟩:=Vf vy h0
  obtain⟨d,h1,rfl⟩:=zde he
  obtain⟨w,hw,rw'⟩:=zms rl h1
  exact zqd value slice pins s σ H _ _ v u Q I rx ry ⟨_,_,_,w,rfl,rfl,hr,hw,yQ q rw'⟩ hs
 |str z=>
  obtain⟨i,h0,he⟩:=bS_ (show(asI e).bind _=_ from he)
  obtain⟨rfl,rfl⟩:=Vf vy h0
  obtain⟨hz,he⟩:=ite_some' he
  obtain⟨c,h1,he⟩:=bS_ he
  cases he
  exact zsQ value slice pins s σ H _ _ v u Q I rx ry ⟨_,_,c,rfl,rfl,hz,h1,yQ q (.str _)⟩ hs
 |dct hr rm=>
  obtain⟨k,h1,he⟩:=bS_ (show(znp e).bind _=_ from he)
  obtain⟨d,h2,rfl⟩:=zde he
  cases rx
  obtain⟨z,hd,vs,rel,dd⟩:=ziz I hk hr
  have:=zpx vy h1
  subst this
  rcases zjW k rm with⟨v1,d1,e1,e2,rp⟩|⟨e1,e2⟩
  · rw[h2]at e2
    cases e2
    obtain⟨w',hw,rw'⟩:=zgc.some_of (v:=v1) (o:=valueAt vs k) (by rw[<-e1];exact rel.val k)
    exact tail_any dd.typeIs PySem.F.slot_dict_getitem.lookup (wpAny_getItem_of (zdi ry) dd.mapOf hw ⟨v1,H,I.tok _,rw',yQ q rp⟩) hs
  · rw[h2]at e2;cases e2
 |_=>cases he
def cutD(xs:List D)(lo hi:Option Int):List D:=(xs.drop (HT.sIx xs.length 0 lo)).take (HT.sIx xs.length xs.length hi-HT.sIx xs.length 0 lo)
theorem zmJ{K:zC}{O:Addr->Prop}{H:Hp}{vs:List V}{ds:List D}(r:RpL K kd O H vs ds)(lo hi:Option Int):RpL K kd O H (zkN vs lo hi) (cutD ds lo hi):=by
 unfold zkN cutD
 rw[r.length]
 exact(r.drop _).take _
def slP(x:D)(lo hi:Option Int):Option R0:=match x with
 | .lst xs=>some (.fl (cutD xs lo hi))
 | .tup xs=>if HT.sIx xs.length 0 lo=0/\HT.sIx xs.length xs.length hi=xs.length then none else some (.im (.tup (cutD xs lo hi)))
 |_=>none
abbrev OF:=AS->Option (Option Int×AS)
def oN:OF:=λas=>some (none,as)
def oS(f:EF):OF:=λas=>(f as).bind λp=>(rvI p.1).bind λi=>some (some i,p.2)
def fSl(fa:EF)(fl fh:OF)(g:D->Option Int->Option Int->Option R0):EF:=λas=>(fa as).bind λp=>(fl p.2).bind λl=>(fh l.2).bind λh=>(p.1.frz.view h.2).bind λx=>(g x.1 l.1 h.1).bind λr=>(wrap x.2 r).bind λz=>some (z,h.2)
def alO(K:zC)(kd:KD)(f:OF):TO:=λσ H Q=>∃F B ad as o as',Rel K kd F B [] ad as σ H/\f as=some (o,as')/\
 ∀ad' H',Rel K kd F B [] ad' as' σ H'->Grow (Gw [] ad) H (Gw [] ad') H'->Q o H'
@[irreducible] def AO(X:Cx)(kd:KD)(e:Option Expr)(f:OF):Prop:=PO X e (alO X.K kd f)
theorem zpK{e:Option Expr}{t t':TO}(h:PO X e t)(k:∀σ H Q,t' σ H Q->t σ H Q):PO X e t':=λpins s σ H Q I q=>h pins s σ H Q I (k σ H Q q)
theorem Ys:AO X kd none oN:=by with_unfolding_all exact(zpK zrE λσ H Q h=>by
 obtain⟨F,B,ad,as,o,as',R,e,q⟩:=h
 cases e
 exact q ad H R Grow.refl)
theorem ztu{K:zC}{F B:Addr->Prop}{T:List Addr}{ad:Ad}{σ:St}{H:Hp}{v:V}{st:Bool}{c:Int}(h:Z2 K kd F B T ad σ H v (.ow (.lf st (.int c)))):T=[]/\v = .int c:=by
 have h:RoS K kd F B (Gw T ad) H v (.lf st (.int c)) T:=h
 generalize hT:Gw T ad=G at h
 cases h with
 |lf rp=>cases rp;exact⟨rfl,rfl⟩
theorem xM{a:Expr}{fa:EF}(ha:AE X kd a fa):AO X kd (some a) (oS fa):=by with_unfolding_all exact(zpK (zrK ha) λσ H Q h=>by
 obtain⟨F,B,ad,as,o,as',R,e,q⟩:=h
 obtain⟨⟨p,as1⟩,h1,e⟩:=bS_ (show(fa as).bind _=_ from e)
 obtain⟨i,e1,e⟩:=bS_ e
 obtain⟨st,rfl⟩:=ztm e1
 cases e
 refine⟨F,B,ad,as,_,_,R,h1,λv T' ad1 H1 R1 rv1 g1=>?_⟩
 obtain⟨rfl,rfl⟩:=ztu rv1
 exact⟨i,rfl,q ad1 H1 R1 g1⟩)
theorem zwz:SlR X (λx lo hi H Q=>∃O d r,(∀a,O a->H a≠none)/\Vw X.K kd O H x d/\slP d lo hi=some r/\RQ X.K kd O H Q r):=by
 intro pins s σ H x v vl vu lo hi sl Q I rx hs pl pu h
 obtain⟨O,d,r,ht,vx,he,q⟩:=h
 cases vx with
 |lst hr rl=>cases he;exact zrW pins s σ H _ v vl vu lo hi sl Q I rx hs pl pu ⟨_,_,rfl,hr.sq,zdN q (zmJ rl lo hi)⟩
 |tup rp hr rl=>
  have he:(if _ then none else some _:Option R0)=_:=he
  split at he
  · cases he
  · rename_i hw
    cases he
    exact zux pins s σ H _ v vl vu lo hi sl Q I rx hs pl pu ⟨_,_,rfl,hr,by rw[rl.length];exact hw,zfP ht q (zmJ rl lo hi)⟩
 |_=>cases he
theorem wW{a:Expr}{lo hi:Option Expr}{fa:EF}{fl fh:OF}{pos p2:Pos}(ha:AE X kd a fa)(hl:AO X kd lo fl)(hh:AO X kd hi fh):AE X kd (.Subscript a (.Slice lo hi none p2) pos) (fSl fa fl fh slP):=by with_unfolding_all exact(wL (zks zwz ha hl hh) λσ H Q h=>by
 obtain⟨F,B,ad,as,r,as',R,e,q⟩:=h
 obtain⟨⟨p,as1⟩,h1,e⟩:=bS_ (show(fa as).bind _=_ from e)
 obtain⟨⟨l,as2⟩,h2,e⟩:=bS_ e
 obtain⟨⟨u,as3⟩,h3,e⟩:=bS_ e
 obtain⟨⟨d,lv⟩,h4,e⟩:=bS_ e
 obtain⟨r',h5,e⟩:=bS_ e
 obtain⟨z,h6,e⟩:=bS_ e
 cases e
 refine zca R h1 λv ad1 H1 R1 rv1 g1=>⟨F,B,ad1,as1,l,as2,R1,h2,λad2 H2 R2 g2=>⟨F,B,ad2,as2,u,_,R2,h3,λad3 H3 R3 g3=>?_⟩⟩
 exact⟨_,d,r',R3.tr _,Z2.vw R3 ((rv1.grow g2).grow g3) h4,h5,Vb R3 h6 λw T' H' R' rv' g'=>q w T' ad3 H' R' rv' (((g1.trans g2).trans g3).trans g')⟩)
end
def Xb:List D->Option (List Int)
 | []=>some []
 | .int i::r=>(Xb r).bind λs=>some (i::s)
 |_::_=>none
def ztv:List Int->Int
 | []=>0
 |x::r=>r.foldl (λa b=>if a<b then b else a) x
theorem ziG:∀(r:List Int) (x:Int),r.foldl (λa b=>if a<b then b else a) x ∈ x::r/\∀a ∈ x::r,a<=r.foldl (λa b=>if a<b then b else a) x
 | [],x=>⟨by simp,by simp⟩
 |y::r,x=>by
  rw[List.foldl_cons]
  obtain⟨h1,h2⟩:=ziG r (if x<y then y else x)
  refine⟨?_,λa ha=>?_⟩
  · rcases zzA.mp h1 with e|e
    · rw[e];split<;>simp
    · exact zzB _ (zzB _ e)
  · have h3:=h2 _ zzD
    rcases zzA.mp ha with e|e
    · subst e;exact Int.le_trans (by split<;>omega) h3
    · rcases zzA.mp e with e|e
      · subst e;exact Int.le_trans (by split<;>omega) h3
      · exact h2 a (zzB _ e)
theorem zre{ns:List Int}{M:Int}(h1:M ∈ ns)(h2:∀a ∈ ns,a<=M):ztv ns=M:=by
 cases ns with
 |nil=>simp at h1
 |cons x r=>
  obtain⟨k1,k2⟩:=ziG r x
  have a1:=k2 M h1
  have a2:=h2 _ k1
  show r.foldl _ x=M
  omega
def on1(f:D->Option R0)(ds:List D):Option R0:=match ds with
 | [x]=>f x
 |_=>none
theorem zcz{K:zC}{kd:KD}{O:Addr->Prop}{H:Hp}{f:D->Option R0}{xs:List V}{ds:List D}{r:R0}(vl:VwL K kd O H xs ds)(h:on1 f ds=some r):∃x d,xs=[x]/\Vw K kd O H x d/\f d=some r:=by
 cases vl with
 |nil=>cases h
 |cons a b=>
  cases b with
  |nil=>exact⟨_,_,rfl,a,h⟩
  |cons _ _=>cases h
def zwf:D->Option R0
 | .lst ds=>some (.im (.int ds.length))
 | .tup ds=>some (.im (.int ds.length))
 | .str x=>if x.length<=sizeLine then some (.im (.int x.length))else none
 | .dct kvs=>some (.im (.int kvs.length))
 | .dt _ ds=>some (.im (.int ds.length))
 |_=>none
def Zr:List D->Option R0:=on1 zwf
def zwJ:D->Option R0
 | .int i=>some (.im (.int i))
 | .bl b=>some (.im (.int (if b then 1 else 0)))
 |_=>none
def tupP:List D->Option R0
 | [.lst ds]=>some (.im (.tup ds))
 | [.tup ds]=>some (.im (.tup ds))
 |_=>none
def zwy:D->Option R0
 | .lst ds=>some (.fl ds)
 | .tup ds=>some (.fl ds)
 |_=>none
def lstP:List D->Option R0:=on1 zwy
def dctP:List D->Option R0
 | [.dct kvs]=>some (.fd kvs)
 |_=>none
def zum(ds:List D):Option R0:=match ds with
 | [x,y]=>onI (λi j=>some (.im (.int (if j > i then j else i)))) x y
 | [x]=>(asL x).bind λds=>(Xb ds).bind λns=>if 0<ns.length then some (.im (.int (ztv ns)))else none
 |_=>none
theorem zfv{K:zC}{kd:KD}{O:Addr->Prop}{H:Hp}{xs:List V}{d:D}(h:VwL K kd O H xs [d]):∃x,xs=[x]/\Vw K kd O H x d:=by
 cases h with
 |cons a b=>cases b;exact⟨_,rfl,a⟩
theorem zrq{K:zC}{kd:KD}{O:Addr->Prop}{H:Hp}{xs:List V}{d e:D}(h:VwL K kd O H xs [d,e]):∃x y,xs=[x,y]/\Vw K kd O H x d/\Vw K kd O H y e:=by
 cases h with
 |cons a b=>
  cases b with
  |cons b c=>cases c;exact⟨_,_,rfl,a,b⟩
theorem zoE{K:zC}{kd:KD}{O:Addr->Prop}{H:Hp}{vs:List V}{ds:List D}{ns:List Int}(h:RpL K kd O H vs ds)(e:Xb ds=some ns):vs=ns.map V.int:=
 RpL.ind (P:=λvs ds=>∀ns,Xb ds=some ns->vs=ns.map V.int) (λns e=>by cases e;rfl) (λ{v d vs ds} a _ ih ns e=>by
  cases d with
  |int i=>
   obtain⟨s,h1,h2⟩:=bS_ (show(Xb _).bind _=_ from e)
   cases h2
   cases a
   rw[ih _ h1]
   rfl
  |_=>cases e) h ns e
section
variable{X:Cx}{kd:KD}
theorem ztB{X:Cx}{pins:List (Addr×Obj)}{σ:St}{H:Hp}{s:Shared}{a:Addr}{kvs:List (List Key×V)}{A:Around}{E:Value->Shared->Prop}{Q:Value->Shared->Prop}(I:Inv X pins σ H s)(hH:H a=some (.dT kvs))(q:∀t s',Inv X pins σ H s'->Q (.int kvs.length t) s'):wpAny (model X.prog X.w) A (call (.builtin "len") [.ref a]) Q E s:=by
 obtain⟨hz,hd,xs,rel,dd⟩:=zsi I.hok hH
 have ty:=dd.typeIs
 obtain⟨o,es,ep,ho,_,hdat,h4,_,_⟩:=dd
 have sz:es.size=kvs.length:=by rw[show kvs.length=xs.length from Paired.length rel,<-zyR,h4,zD]
 have body:MeetsIn X.prog X.w (Builtin.«dict.__len__» ⟨[.ref a],[]⟩) (λ_ R s'=>s'=s/\R (.ok (.ret (.int kvs.length s.toks))) {s with toks:=s.toks+1}):=.of_wp λA' R s' z=>by
  obtain⟨rfl,z⟩:=z
  show wpAny _ _ (dictSize a >>= _) _ _ s'
  unfold dictSize
  exact zxE (zxE (wpAny_dictEntries ho hdat (zxF (show wpAny _ _ (Builtin.Dict.pendingCount a >>= _) _ _ s' from zxE (wpAny_pendingCount_other hd (wpAny_ret_mkInt (by rw[Nat.add_zero,sz];exact z)))))))
 refine Calls.call_function_entry kind_len plain_len entry_len (args_len1 _) ?_
 unfold Builtin.«len»
 exact zxE (m:=oneArg "len" _) (zxF (zxE (m:=callSpecial? (.ref a) (Str.ofString "__len__")) (wpAny_callSpecial?_slot (name:=Str.ofString "__len__") ty PySem.F.slot_dict_len (call_meetsIn PySem.F.slot_dict_len ty PySem.F.entry_dict_len (PySem.F.args_dict_len_1 _) body ⟨rfl,show wpAny _ _ _ _ _ {s with toks:=s.toks+1}from zxE (zxK (zxF (zxE (wpAny_letGo (show wpAny _ _ (if((kvs.length:Nat):Int)<0 then _ else _) _ _ _ from by
  rw[if_neg (by omega)]
  show wpAny _ _ (if((kvs.length:Nat):Int) ≥ 2 ^ 63 then _ else _) _ _ _
  rw[if_neg (by rw[sizeLine_eq]at hz;omega)]
  exact zxE (wpAny_mkInt (zxF ⟨_,rfl,q _ _ ((I.tok _).tok _)⟩)))))))⟩))))
theorem vo(hk:KdOk X kd):CallD X kd (.builtin "len") Zr:=by
 intro pins s σ H xs us Q I r h
 obtain⟨O,ds,z,ht,vl,he,q⟩:=h
 obtain⟨x,d,rfl,vx,he⟩:=zcz vl he
 cases vx with
 |lst hr rl=>cases he;exact Va pins s σ H _ us Q I r ⟨_,_,rfl,.inl hr.sq,by rw[rl.length];exact yQ q (.int _)⟩
 |tup rp hr rl=>cases he;exact Va pins s σ H _ us Q I r ⟨_,_,rfl,.inr hr,by rw[rl.length];exact yQ q (.int _)⟩
 |str y=>
  obtain⟨c,rfl⟩:=yj he
  exact zjd pins s σ H _ us Q I r ⟨_,rfl,c,yQ q (.int _)⟩
 |dct hr rm=>
  cases he
  obtain⟨u,rfl,ru⟩:=vals1 r
  cases ru
  obtain⟨z,hd,vs,rel,dd⟩:=ziz I hk hr
  refine call_len_dict hd dd (by rw[<-rel.length];rw[sizeLine_eq]at z;omega) ?_
  rw[<-rel.length,rm.length]
  exact⟨.int _,H,I.tok _,⟨_,rfl⟩,yQ q (.int _)⟩
 |dt hH l rl=>
  cases he
  obtain⟨u,rfl,ru⟩:=vals1 r
  cases ru
  refine ztB I hH λt s' I'=>⟨.int _,H,I',⟨_,rfl⟩, ?_⟩
  rw[List.length_zip,l,Nat.min_self,rl.length]
  exact yQ q (.int _)
 |_=>cases he
theorem zdW:CallD X kd (.type "tuple") tupP:=by
 intro pins s σ H xs us Q I r h
 obtain⟨O,ds,z,ht,vl,he,q⟩:=h
 unfold tupP at he
 split at he
 · cases he
   obtain⟨x,rfl,vx⟩:=zfv vl
   cases vx with
   |lst hr rl=>exact zbz pins s σ H _ us Q I r ⟨_,_,rfl,.inl ⟨hr.sq,zfP ht q rl⟩⟩
 · cases he
   obtain⟨x,rfl,vx⟩:=zfv vl
   cases vx with
   |tup rp hr rl=>exact zbz pins s σ H _ us Q I r ⟨_,_,rfl,.inr ⟨hr,yQ q rp⟩⟩
 · cases he
theorem zbc:CallD X kd (.type "list") lstP:=by
 intro pins s σ H xs us Q I r h
 obtain⟨O,ds,z,ht,vl,he,q⟩:=h
 obtain⟨x,d,rfl,vx,he⟩:=zcz vl he
 cases vx with
 |lst hr rl=>cases he;exact zcL pins s σ H _ us Q I r ⟨_,_,rfl,.inl hr.sq,zdN q rl⟩
 |tup rp hr rl=>cases he;exact zcL pins s σ H _ us Q I r ⟨_,_,rfl,.inr hr,zdN q rl⟩
 |_=>cases he
theorem znT(hk:KdOk X kd):CallD X kd (.type "dict") dctP:=by
 intro pins s σ H xs us Q I r h
 obtain⟨O,ds,z,ht,vl,he,q⟩:=h
 unfold dctP at he
 split at he
 · cases he
   obtain⟨x,rfl,vx⟩:=zfv vl
   cases vx with
   |dct hr rm=>
    obtain⟨u,rfl,ru⟩:=vals1 r
    cases ru
    obtain⟨z,hd,vs,rel,dd⟩:=ziz I hk hr
    refine kt_call_dict hd dd (by rw[<-rel.length];exact z) λh' dd' hs=>?_
    refine⟨.ref _,_,(I.laid (a:=s.heap.objs.size) (o:=.dK _) (t':=s.toks) (λb q hq=>?_) (zzL _) (zpu z (beq_eq_false_iff_ne.mpr (Ne.symm (zzO I.big))) rel dd')),rfl,zpJ q rm _ (I.hok.fresh (zzL _))⟩
    exact(hs.2 b (zzO (zxH hq))).trans (zxG _ hq)
 · cases he
theorem zny(hc:X.calm=true):CallD X kd (.builtin "max") zum:=by
 intro pins s σ H xs us Q I r h
 obtain⟨O,ds,z,ht,vl,he,q⟩:=h
 cases vl with
 |nil=>cases he
 |cons vx vl=>
  cases vl with
  |nil=>
   obtain⟨ds,h0,he⟩:=bS_ (show(asL _).bind _=_ from he)
   cases zcw h0
   obtain⟨ns,h1,he⟩:=bS_ he
   obtain⟨c,rfl⟩:=yj he
   cases vx with
   |lst hr rl=>
    obtain⟨u,rfl,ru⟩:=vals1 r
    cases ru
    obtain⟨its,rv,p,_⟩:=I.list hr.sq
    rw[zoE rl h1]at rv
    have hi:=intsAre_of rv
    obtain⟨ys,e⟩:=hi.allInts.items
    have hns:ns=ys.toList.map (·.1):=by rw[<-hi.numsOf,<-nums_intItems,<-e]
    have hsz:0<ys.size:=by
     have h3:=c;rw[hns,zD,zyR]at h3;exact h3
    have hl:=p.isList
    rw[e]at hl
    refine max_intList (I.ok.hd hc) hl hsz λv h' tk hv kp=>?_
    obtain⟨t,rfl⟩:=intItems_at hv
    obtain⟨k1,k2⟩:=argBest_gt (numAt ys) (ys.size-1)
    refine⟨.int (ztv ns),H,I.kept kp,⟨t, ?_⟩,yQ q (.int _)⟩
    congr 1
    refine(zre ?_ λa ha=>?_).symm
    · rw[hns,numAt_eq]
      have hlt:argBest (λi j=>decide (numAt ys i > numAt ys j)) (ys.size-1)<(ys.toList.map (·.1)).length:=by rw[zD,zyR];omega
      rw[zyD,zzC hlt]
      exact zyY hlt
    · rw[hns]at ha
      obtain⟨j,hj,rfl⟩:=List.getElem_of_mem ha
      have hj':=hj
      rw[zD,zyR]at hj
      have:=k2 j (by omega)
      rw[numAt_eq ys j,zyD,zzC hj']at this
      exact this
  |cons vy vl=>
   cases vl with
   |nil=>
    obtain⟨i,j,rfl,rfl,he⟩:=W9 vx vy he
    cases he
    exact znw hc pins s σ H _ us Q I r ⟨_,_,rfl,yQ q (.int _)⟩
   |cons _ _=>cases he
end
def Zw(env:Env):List (Str×NameKind)->List (Str×Addr)->List (Str×Addr)
 | [],cs=>cs
 |(n,k)::r,cs=>Zw env r (if k == .free then((n,(env.cells.lookup n).getD 0)::cs)else cs)
theorem zbx{scope:Scope}{env:Env}(h:∀x ∈ scope.names,x.2 = .free->∃c,env.cells.lookup x.1=some c):closureFor scope env=pure (Zw env scope.names []):=by
 have go:∀(names:List (Str×NameKind)) (cs:List (Str×Addr)) (f:Str×NameKind->List (Str×Addr)->Sem (ForInStep (List (Str×Addr)))),
  (∀name kind cs,f (name,kind) cs=if kind == .free then(do let a <-cellOf env name;pure (.yield ((name,a)::cs)))else pure (.yield cs))->
  (∀x ∈ names,x.2 = .free->∃c,env.cells.lookup x.1=some c)->(forIn names cs f:Sem (List (Str×Addr)))=pure (Zw env names cs):=by
  intro names
  induction names with
  |nil=>intro cs f _ _;rfl
  |cons x r ih=>
   intro cs f hf hx
   obtain⟨n,k⟩:=x
   rw[List.forIn_cons,hf]
   unfold Zw
   by_cases hk:(k == .free)=true
   · obtain⟨c,hc⟩:=hx (n,k) zzD (by simpa using hk)
     rw[if_pos hk,if_pos hk]
     have e:cellOf env n=pure c:=by unfold cellOf;rw[hc]
     rw[e,hc]
     exact ih _ f hf λy hy=>hx y (zzB _ hy)
   · rw[if_neg hk,if_neg hk]
     exact ih _ f hf λy hy=>hx y (zzB _ hy)
 simp only[closureFor]
 rw[go scope.names [] _ (λname kind cs=>?_) h]
 · rfl
 · rfl
theorem zij{env:Env}:∀(names:List (Str×NameKind)) (cs:List (Str×Addr)) (p:Str×Addr),p ∈ Zw env names cs->p ∈ cs\/((p.1,NameKind.free) ∈ names/\p.2=(env.cells.lookup p.1).getD 0)
 | [],_,_,h=>.inl h
 |(n,k)::r,cs,p,h=>by
  unfold Zw at h
  rcases zij r _ p h with h|h
  · by_cases hk:(k == .free)=true
    · rw[if_pos hk]at h
      rcases zzA.mp h with e|h
      · subst e
        have:k = .free:=by simpa using hk
        subst this
        exact .inr ⟨zzD,rfl⟩
      · exact .inl h
    · rw[if_neg hk]at h;exact .inl h
  · exact .inr ⟨zzB _ h.1,h.2⟩
theorem zhl{env:Env}:∀(names:List (Str×NameKind)) (cs:List (Str×Addr)) (p:Str×Addr),p ∈ cs->p ∈ Zw env names cs
 | [],_,_,h=>h
 |(n,k)::r,cs,p,h=>by
  unfold Zw
  refine zhl r _ p ?_
  split
  · exact zzB _ h
  · exact h
theorem zid{env:Env}:∀(names:List (Str×NameKind)) (cs:List (Str×Addr)) (x:Str),(x,NameKind.free) ∈ names->(x,(env.cells.lookup x).getD 0) ∈ Zw env names cs
 |(n,k)::r,cs,x,h=>by
  unfold Zw
  rcases zzA.mp h with e|h
  · cases e
    exact zhl r _ _ (by simp)
  · exact zid r _ x h
theorem Ww{α:Type}{x:Str}{a:α}:∀{l:List (Str×α)},(∀p ∈ l,p.1=x->p.2=a)->(∃b,(x,b) ∈ l)->l.lookup x=some a
 | [],_,h=>by obtain⟨_,h⟩:=h;cases h
 |(k,v)::r,u,h=>by
  rw[List.lookup_cons]
  cases hb:x==k with
  |true=>
   have:=u (k,v) zzD (beq_iff_eq.mp hb).symm
   exact congrArg some this
  |false=>
   refine Ww (λp hp=>u p (zzB _ hp)) ?_
   obtain⟨b,h⟩:=h
   rcases zzA.mp h with e|h
   · cases e;simp at hb
   · exact⟨b,h⟩
theorem zen:∀(names:List (Str×NameKind)) (h:Heap) (acc:List (Str×Addr)) (p:Str×Addr),p ∈ cellsFrom h.objs.size names acc->
 p ∈ acc\/((p.1,NameKind.cell) ∈ names/\(pushCells h names).IsCell p.2 none/\h.objs.size<=p.2)
 | [],_,_,_,m=>.inl m
 |(n,k)::r,h,acc,p,m=>by
  unfold cellsFrom at m
  unfold pushCells
  split at m
  · rename_i hk
    rw[if_pos hk]
    have e:(h.push {cls:=.type "cell",data:=.cell none}).objs.size=h.objs.size+1:=zxL ..
    rw[<-e]at m
    rcases zen r _ _ p m with m|⟨m1,m2,m3⟩
    · rcases zzA.mp m with e2|m
      · subst e2
        have:k = .cell:=by simpa using hk
        subst this
        refine .inr ⟨zzD, ?_,zzL _⟩
        have z:(h.push {cls:=.type "cell",data:=.cell none}).IsCell h.objs.size none:=⟨_,zxI _ rfl,rfl⟩
        exact z.keeps (pushCells_keeps r _)
      · exact .inl m
    · exact .inr ⟨zzB _ m1,m2,by rw[e]at m3;omega⟩
  · rename_i hk
    rw[if_neg hk]
    rcases zen r h acc p m with m|⟨m1,m2,m3⟩
    · exact .inl m
    · exact .inr ⟨zzB _ m1,m2,m3⟩
theorem VF:∀(names:List (Str×NameKind)) (n:Nat) (acc:List (Str×Addr)) (p:Str×Addr),p ∈ acc->p ∈ cellsFrom n names acc
 | [],_,_,_,m=>m
 |(_,k)::r,n,acc,p,m=>by
  unfold cellsFrom
  split
  · exact VF r _ _ p (zzB _ m)
  · exact VF r _ _ p m
theorem zea:∀(names:List (Str×NameKind)) (n:Nat) (acc:List (Str×Addr)) (x:Str),(x,NameKind.cell) ∈ names->∃c,(x,c) ∈ cellsFrom n names acc
 |(y,k)::r,n,acc,x,m=>by
  unfold cellsFrom
  rcases zzA.mp m with e|m
  · cases e
    rw[if_pos (by decide)]
    exact⟨n,VF r _ _ _ zzD⟩
  · split
    · exact zea r _ _ x m
    · exact zea r _ _ x m
theorem zej:∀(names:List (Str×NameKind)) (n:Nat) (acc:List (Str×Addr)),(∀p ∈ acc,p.2<n)->(∀p ∈ acc,∀q ∈ acc,p.2=q.2->p.1=q.1)->∀p ∈ cellsFrom n names acc,∀q ∈ cellsFrom n names acc,p.2=q.2->p.1=q.1
 | [],_,_,_,h=>h
 |(y,k)::r,n,acc,lt,h=>by
  unfold cellsFrom
  split
  · refine zej r (n+1) _ (λp m=>?_) (λp m q m' e=>?_)
    · rcases zzA.mp m with z|m
      · subst z;exact Nat.lt_succ_self _
      · exact zyZ (lt p m)
    · rcases zzA.mp m with z|m
      · rcases zzA.mp m' with z'|m'
        · rw[z,z']
        · subst z;have:=lt q m';rw[<-e]at this;exact absurd this (Nat.lt_irrefl _)
      · rcases zzA.mp m' with z'|m'
        · subst z';have:=lt p m;rw[e]at this;exact absurd this (Nat.lt_irrefl _)
        · exact h p m q m' e
  · exact zej r n acc lt h
section
variable{M:Model}{A:Around}{E:Value->Shared->Prop}{s:Shared}
def zaD(scope:Scope)(env:Env)(cl:List (Str×Addr))(L:Addr):Env:=
 {scope:=relabel scope env,locals:=L,globals:=env.globals,cells:=cellsFrom (L+1) scope.names cl,qual:=env.qual,func:=none,code:=env.code,frame:=env.frame,builtins:=env.builtins}
theorem zje{scope:Scope}{env:Env}{cl:List (Str×Addr)}{Q:Env->Shared->Prop}
 (h:∀h' env',{env' with scope:=relabel scope env}=zaD scope env cl s.heap.objs.size->env'.locals=s.heap.objs.size->(∀b o,s.heap.get? b=some o->h'.get? b=some o)->h'.Ns s.heap.objs.size (λ_=>none)->
  (∀p ∈ cellsFrom (s.heap.objs.size+1) scope.names cl,p ∈ cl\/((p.1,NameKind.cell) ∈ scope.names/\h'.IsCell p.2 none/\s.heap.objs.size+1<=p.2))->Q env' {s with heap:=h'}):
 wpAny M A (newFunctionEnv scope env.globals cl [] env.qual none .none (some env)) Q E s:=by
 simp only[newFunctionEnv,Option.isSome_some,if_true]
 refine zxE (wpAny_alloc ?_)
 refine zxE (wpAny_layCells _ (λname kind cells=>by cases hkc:kind==NameKind.cell<;>simp[hkc]) _ _ _ _ ?_)
 have e:(s.heap.push {cls:=.type "dict",data:=.dict #[]}).objs.size=s.heap.objs.size+1:=zxL ..
 refine zxE (zxF (zxF (h _ _ ?_ rfl (λb o q=>pushCells_keeps _ _ b o (zxG _ q)) ((Heap.Ns.new s.heap (.type "dict")).keeps (pushCells_keeps _ _)) λp m=>?_)))
 · unfold zaD
   rw[<-e]
 · rw[<-e]at m
   rcases zen _ _ _ p m with m|⟨m1,m2,m3⟩
   · exact .inl m
   · exact .inr ⟨m1,m2,by rw[e]at m3;exact m3⟩
end
abbrev Zf(X:Cx)(N:List Str)(scope:Scope)(cl:List (Str×Addr))(s:Shared)(H:Hp)(fp:List Addr):Cx:=
 {X with N:=N,s₀:=s,H₀:=H,env:=zaD scope X.env cl (s.heap.objs.size+1),outer:=X.stack,ex:=fp,fn:=λx=>scope.names.lookup x==some .cell,pn:=[],xe:=λ_ _=>False}
def zuR(σ:St):Option Nat->Option V
 |none=>none
 |some j=>(σ[j]?).getD none
def Z8(cap:List (Option Nat))(σ:St):St:=cap.map (zuR σ)
def xf(N XN:List Str)(names:List (Str×NameKind))(envNames:List (Str×NameKind))(cap:List (Option Nat)):Bool:=
 N.length==cap.length&&(N.zip cap).all (λp=>match p.2 with|none=>true|some j=>XN[j]? == some p.1&&names.contains (p.1,NameKind.free)) &&
 names.all (λp=>p.2 != .free||envNames.lookup p.1==some .cell||envNames.lookup p.1==some .free)&&decide (names.map (·.1)).Nodup
def PTs(X:Cx)(ifs:List Expr)(t:TT):Prop:=
 ∀(pins:List (Addr×Obj)) (s:Shared) (σ:St) (H:Hp) (Q:Bool->Hp->Prop),Inv X pins σ H s->t σ H Q->
  wpAny (model X.prog X.w) X.A (forIn ifs true λc r=>if r=true then do let ok <-isTrue c X.env (eval c X.env);pure (ForInStep.yield ok)else pure (ForInStep.yield r)) (TP X pins σ Q) X.xe s
theorem zrx{X:Cx}:PTs X [] (λ_ H Q=>Q true H):=λpins s σ H Q I h=>wpAny_tests_nil ⟨H,I,h⟩
theorem zrI{X:Cx}{c:Expr}{t:TT}(h:PT X c t):PTs X [c] t:=λpins s σ H Q I q=>wpAny_tests_one (h pins s σ H Q I q)
def zoU(wi:TI)(cap:List (Option Nat))(g:TG)(tt:TT)(te:TE):TE:=λσ H Q=>wi σ H λJ H1=>∃W:Nat->Nat->List V->Hp->Prop,(∃m,W 0 m [] H1)/\∀i m ys H,W i m ys H->ys.length<=sizeLine/\
 ((J.stop i H/\∀p,H p=none->Q (.ref p) (upd H p (.lst ys)))\/(J.go i H/\∀x H',J.yld i H x H'->g x (Z8 cap σ) H' λσ2 H2=>(∀(j:Nat) v,(Z8 cap σ)[j]? = some (some v)->σ2[j]? = some (some v))/\
   tt σ2 H2 λb H3=>if b=true then ys.length<sizeLine/\te σ2 H3 λy H4=>∃m',m'<m/\W (i+1) m' (ys++[y]) H4 else ∃m',m'<m/\W (i+1) m' ys H3))
section
variable{prog:Program}{w:World}{A:Around}{E:Value->Shared->Prop}{R:Result->Shared->Prop}{s:Shared}
theorem zji{elt target iter:Expr}{ifs:List Expr}{scope:Scope}{pos:Pos}{it acc:Value}{env:Env}(I:Nat->Shared->Prop)
 (turn:∀n s (E:Value->Shared->Prop),I n s->wpAny (model prog w) A (pyNext it) (λr s₁=>match r with
  |none=>R (.ok .next) s₁
  |some v=>wpAny (model prog w) A (letOwnedTupleGo target it v) (λ_ s₁=>wpAny (model prog w) A (assign target env v) (λ_ s₂=>
   wpAny (model prog w) A (forIn ifs true λc r=>if r=true then do let ok <-isTrue c env (eval c env);pure (ForInStep.yield ok)else pure (ForInStep.yield r)) (λok s₃=>
    if ok=true then wpAny (model prog w) A (eval elt env) (λx s₄=>
     wpAny (model prog w) A (call (.builtin "list.append") [acc,x]) (λ_ s₅=>∃m,m<n/\I m s₅) E s₄) E s₃
    else ∃m,m<n/\I m s₃) E s₂) E s₁) E s₁) E s)
 (n:Nat) (h:I n s):
 codeAny (model prog w) A (.compLoop (.ListComp elt [⟨target,iter,ifs,0⟩] scope pos) 0 it acc env) R s:=by
 refine codeAny_loop rfl I (λn s hI=>?_) n h
 show wpAny _ A ((compTurn (.ListComp elt [⟨target,iter,ifs,0⟩] scope pos) 0 it acc env).onRaise (λx=>do noteFrame x env;theTreesLotGoes x)) _ _ s
 refine wpAny_noted ?_
 rw[compTurn_list]
 refine zxE (wpAny_standAt (zxE (zxM (turn n s _ hI) (λr s₁ h₁=>?_) λ_ _ h'=>h')))
 cases r with
 |none=>exact zxF h₁
 |some v=>
  refine zxE (zxM h₁ (λ_ s₁ h₁=>?_) λ_ _ h'=>h')
  refine zxE (zxM h₁ (λ_ s₂ h₂=>zxE (zxM h₂ (λok s₃ h₃=>?_) λ_ _ h'=>h')) λ_ _ h'=>h')
  cases ok with
  |false=>exact zxF ⟨rfl,h₃⟩
  |true=>
   exact zxE (zxE (zxM h₃ (λx s₄ h₄=>zxE (zxM h₄ (λ_ s₅ h₅=>zxF (zxF ⟨rfl,h₅⟩)) λ_ _ h'=>h')) λ_ _ h'=>h'))
end
structure CapOk(N XN:List Str)(names:List (Str×NameKind))(envNames:List (Str×NameKind))(cap:List (Option Nat)):Prop where
 len:N.length=cap.length
 at_:∀(i:Nat) x (j:Nat),N[i]? = some x->cap[i]? = some (some j)->XN[j]? = some x/\(x,NameKind.free) ∈ names
 fr:∀p ∈ names,p.2 = .free->envNames.lookup p.1=some .cell\/envNames.lookup p.1=some .free
 nd:(names.map (·.1)).Nodup
theorem zlp{N XN:List Str}{names envNames:List (Str×NameKind)}{cap:List (Option Nat)}(h:xf N XN names envNames cap=true):CapOk N XN names envNames cap:=by
 unfold xf at h
 simp only[zyA,beq_iff_eq,List.all_eq_true,decide_eq_true_eq]at h
 obtain⟨⟨⟨h1,h2⟩,h3⟩,h4⟩:=h
 refine⟨h1,λi x j e1 e2=>?_,λp hp e=>?_,h4⟩
 · have m:(x,some j) ∈ N.zip cap:=zzY (i:=i) (by rw[List.getElem?_zip_eq_some];exact⟨e1,e2⟩)
   have:=h2 _ m
   simp only[zyA,beq_iff_eq]at this
   exact⟨this.1,by simpa using this.2⟩
 · have:=h3 p hp
   rw[e]at this
   simpa using this
theorem zjf{names:List (Str×NameKind)}(h:(names.map (·.1)).Nodup){x:Str}{k k':NameKind}(m:(x,k) ∈ names)(m':(x,k') ∈ names):k=k':=by
 induction names with
 |nil=>cases m
 |cons p r ih=>
  obtain⟨h1,h2⟩:=zzU.mp (show(p.1::r.map (·.1)).Nodup from h)
  rcases zzA.mp m with e|m
  · rcases zzA.mp m' with e'|m'
    · rw[<-e]at e';cases e';rfl
    · exact absurd (zxC.mpr ⟨_,m',by rw[<-e]⟩) h1
  · rcases zzA.mp m' with e'|m'
    · exact absurd (zxC.mpr ⟨_,m,by rw[<-e']⟩) h1
    · exact ih h2 m m'
theorem zdZ{names:List (Str×NameKind)}(h:(names.map (·.1)).Nodup){x:Str}{k:NameKind}(m:(x,k) ∈ names):names.lookup x=some k:=
 Ww (λp hp e=>by obtain⟨y,k'⟩:=p;cases(show y=x from e);exact zjf h hp m) ⟨k,m⟩
theorem zaH{env:Env}{scope:Scope}(x:Str):(relabel scope env).names.lookup x=(scope.names.lookup x).map λk=>if(k == .free&&env.scope.kind == .function&&env.kindOf x==some .cell)=true then NameKind.cell else k:=by
 unfold relabel
 show(scope.names.map _).lookup x=_
 generalize scope.names=names
 induction names with
 |nil=>rfl
 |cons p r ih=>
  obtain⟨n,k⟩:=p
  rw[zyQ,List.lookup_cons (k:=n) (as:=r)]
  cases hb:x==n with
  |true=>
   have e:x=n:=beq_iff_eq.mp hb
   subst e
   show List.lookup x ((if(k==NameKind.free&&env.scope.kind == .function&&env.kindOf x==some .cell)=true then(x,NameKind.cell)else(x,k))::_)=_
   show _=some (if(k==NameKind.free&&env.scope.kind == .function&&env.kindOf x==some .cell)=true then NameKind.cell else k)
   split
   · rw[List.lookup_cons,hb]
   · rw[List.lookup_cons,hb]
  |false=>
   show List.lookup x ((if(k==NameKind.free&&env.scope.kind == .function&&env.kindOf n==some .cell)=true then(n,NameKind.cell)else(n,k))::_)=_
   split
   · rw[List.lookup_cons,hb];exact ih
   · rw[List.lookup_cons,hb];exact ih
theorem zmi{X:Cx}{pins:List (Addr×Obj)}{σ:St}{H:Hp}{s:Shared}{N:List Str}{scope:Scope}{cap:List (Option Nat)}{fp:List Addr}{h':Heap}(I:Inv X pins σ H s)(C:CapOk N X.N scope.names X.env.scope.names cap)(hk:scope.kind = .function)
 (hf:∀b ∈ fp,zfi X pins H b) (ho:∀b ∈ fp,∃o,s.heap.get? b=some o)
 (old:∀b o,s.heap.get? b=some o->h'.get? b=some o) (ns:h'.Ns (s.heap.objs.size+1) (λ_=>none))
 (hc:∀p ∈ cellsFrom (s.heap.objs.size+1+1) scope.names (Zw X.env scope.names []),p ∈ Zw X.env scope.names []\/((p.1,NameKind.cell) ∈ scope.names/\h'.IsCell p.2 none/\s.heap.objs.size+1+1<=p.2)):
 Inv (Zf X N scope (Zw X.env scope.names []) s H fp) [] (Z8 cap σ) H {s with heap:=h'}:=by
 have has:∀x,(x,NameKind.free) ∈ scope.names->∃c,X.env.cells.lookup x=some c:=λx m=>I.ok.has x (C.fr _ m rfl)
 have clo:∀p ∈ Zw X.env scope.names [],X.env.cells.lookup p.1=some p.2/\(p.1,NameKind.free) ∈ scope.names:=λp m=>by
  rcases zij _ _ p m with z|⟨z1,z2⟩
  · cases z
  · obtain⟨c,e⟩:=has _ z1
    rw[e]at z2
    exact⟨by rw[e];exact congrArg some z2.symm,z1⟩
 have look:∀x c,(cellsFrom (s.heap.objs.size+1+1) scope.names (Zw X.env scope.names [])).lookup x=some c->(X.env.cells.lookup x=some c/\(x,NameKind.free) ∈ scope.names)\/((x,NameKind.cell) ∈ scope.names/\h'.IsCell c none/\s.heap.objs.size+1+1<=c):=λx c e=>by
  rcases hc _ (mem_of_lookup e)with m|m
  · exact .inl (clo _ m)
  · exact .inr m
 have lt:∀x c,X.env.cells.lookup x=some c->c<s.heap.objs.size:=λx c e=>by obtain⟨v,z⟩:=I.cell x c e;exact z.lt
 have lookF:∀x,(x,NameKind.free) ∈ scope.names->∃c,(cellsFrom (s.heap.objs.size+1+1) scope.names (Zw X.env scope.names [])).lookup x=some c/\X.env.cells.lookup x=some c:=λx m=>by
  obtain⟨c,e⟩:=has x m
  have m1:=VF scope.names (s.heap.objs.size+1+1) _ _ (zid (env:=X.env) scope.names [] x m)
  refine⟨c,Ww (λp hp ep=>?_) ⟨_,m1⟩,e⟩
  rcases hc p hp with z|z
  · have:=(clo p z).1
    rw[ep,e]at this
    exact(zzX this).symm
  · rw[ep]at z
    exact absurd (zjf C.nd z.1 m) (by decide)
 have kinds:∀x,((relabel scope X.env).names.lookup x=some .cell\/(relabel scope X.env).names.lookup x=some .free)->(x,NameKind.free) ∈ scope.names\/(x,NameKind.cell) ∈ scope.names:=λx h=>by
  rw[zaH]at h
  cases e:scope.names.lookup x with
  |none=>rw[e]at h;rcases h with h|h<;>cases h
  |some k=>
   have m:=mem_of_lookup e
   cases k with
   |free=>exact .inl m
   |cell=>exact .inr m
   |_=>rw[e]at h;rcases h with h|h<;>(simp at h)
 have lsz:s.heap.objs.size+1<h'.objs.size:=ns.lt
 refine⟨⟨I.ok.mod,hk,I.ok.glob,I.ok.blt,zyV _, ?_, ?_, ?_,I.ok.hd,I.ok.frames,.inl rfl, ?_,I.bs,zzM I.ok.bsz I.sz, ?_, ?_,I.stack,I.stkFree⟩,rfl,I.bare,(Un.kept old),⟨_,ns, ?_⟩, ?_,I.hok.fresh (zyV _), ?_,(λ_ z=>nomatch z),I.hok.kept old, ?_⟩
 · intro x y c e1 e2
   refine zej scope.names (s.heap.objs.size+1+1) _ (λp m=>?_) (λp m q m' e=>?_) (x,c) (mem_of_lookup e1) (y,c) (mem_of_lookup e2) rfl
   · exact zyZ (zyZ (lt _ _ (clo p m).1))
   · refine I.ok.inj _ _ _ (clo p m).1 ?_
     rw[e];exact(clo q m').1
 · intro x h
   rcases kinds x h with m|m
   · obtain⟨c,e,_⟩:=lookF x m;exact⟨c,e⟩
   · obtain⟨c,e⟩:=zea scope.names (s.heap.objs.size+1+1) (Zw X.env scope.names []) x m
     cases q:(cellsFrom (s.heap.objs.size+1+1) scope.names (Zw X.env scope.names [])).lookup x with
     |some c'=>exact⟨c',q⟩
     |none=>
      exfalso
      have:=List.lookup_eq_none_iff.mp q (x,c) e
      simp at this
 · intro x c hx e
   have hx:(scope.names.lookup x==some .cell)=true:=hx
   have m:=mem_of_lookup (beq_iff_eq.mp hx)
   rcases look x c e with z|z
   · exact absurd (zjf C.nd z.2 m) (by decide)
   · exact zzM (zzM (zyV _) (zyV _)) z.2.2
 · intro b hb
   obtain⟨o,e⟩:=ho b hb
   refine⟨zzO (zyZ (zxH e)),λx c ec=>?_⟩
   rcases look x c ec with z|z
   · exact(hf b hb).2.2.2.2.1 x c z.1
   · have:=zxH e
     intro q;subst q
     exact absurd (zzI this (zzM (zzM (zyV _) (zyV _)) z.2.2)) (Nat.lt_irrefl _)
 · intro b o e hb
   rcases(hf b hb).2.2.2.1 with z|z
   · exact I.ok.noex b o e z
   · exact absurd (zzI (zxH e) (zzM I.ok.bsz z)) (Nat.lt_irrefl _)
 · intro b hb hm
   rcases zzA.mp (I.stkSub b hm)with z|z
   · exact(hf b hb).2.1 z
   · exact(hf b hb).2.2.1 z
 · intro i x v e1 e2 e3
   have e2:(Z8 cap σ)[i]? = some (some v):=e2
   unfold Z8 at e2
   rw[zzG]at e2
   cases ec:cap[i]? with
   |none=>rw[ec]at e2;cases e2
   |some c=>
    cases c with
    |none=>rw[ec]at e2;cases e2
    |some j=>
     rw[ec]at e2
     have e2:(σ[j]?).getD none=some v:=zzX e2
     obtain⟨xn,m⟩:=C.at_ i x j e1 ec
     have es:σ[j]? = some (some v):=by
      cases q:σ[j]? with
      |none=>rw[q]at e2;cases e2
      |some y=>rw[q]at e2;exact congrArg some e2
     have kf:=C.fr _ m rfl
     obtain⟨mm,hn,hl⟩:=I.loc
     obtain⟨u,r,l⟩:=hl j x v xn es (by rcases kf with k|k;exact .inr (.inl k);exact .inr (.inr k))
     refine⟨u,r,.inr ⟨?_, ?_⟩⟩
     · show(relabel scope X.env).names.lookup x=some .cell\/(relabel scope X.env).names.lookup x=some .free
       rw[zaH,zdZ C.nd m]
       show some (if _ then _ else _)=_\/some (if _ then _ else _)=_
       split
       · exact .inl rfl
       · exact .inr rfl
     · obtain⟨c,ec,eo⟩:=lookF x m
       refine⟨c,ec, ?_⟩
       rcases l with⟨k1,_⟩|⟨_,c2,e4,z⟩
       · have k1:X.env.scope.names.lookup x=some .local:=k1
         rcases kf with k|k<;>(rw[k1]at k;cases k)
       · rw[eo]at e4;cases e4
         exact z.keeps old
 · intro x c e
   rcases look x c e with z|z
   · obtain⟨v,q⟩:=I.cell x c z.1;exact⟨v,q.keeps old⟩
   · exact⟨none,z.2.1⟩
 · intro x c e
   rcases look x c e with z|z
   · exact I.freeC x c z.1
   · exact I.hok.fresh (zzM (zzM (zyV _) (zyV _)) z.2.2)
 · show(Z8 cap σ).length=N.length
   unfold Z8
   rw[zD,C.len]
abbrev lobj(its:List Value):Obj:={cls:=.type "list",data:=.seq its.toArray its.length}
section
variable{X:Cx}{pins:List (Addr×Obj)}{σ:St}{H2:Hp}{s2:Shared}{elt tg iter:Expr}{ifs:List Expr}{scope:Scope}{pos:Pos}{N:List Str}{cap:List (Option Nat)}{g:TG}{tt:TT}{te:TE}{wi:TI}
set_option maxHeartbeats 1000000
theorem zhb{J:It}{it:Addr}{fp:List Addr}{tn:Nat->Heap->Prop}{Q:VK}{R:Value->Addr->Result->Shared->Prop}{E:Value->Shared->Prop}
 (hc:X.calm=true) (C:CapOk N X.N scope.names X.env.scope.names cap) (hk:scope.kind = .function)
 (hg:∀cl s H fp,PG (Zf X N scope cl s H fp) tg g) (ht:∀cl s H fp,PTs (Zf X N scope cl s H fp) ifs tt) (he:∀cl s H fp,PE (Zf X N scope cl s H fp) elt te)
 (I2:Inv X pins σ H2 s2) (T:Turn X.prog X.w X.K tg J fp it tn) (st2:tn 0 s2.heap) (f2:∀b ∈ fp,zfi X pins H2 b)
 (W:Nat->Nat->List V->Hp->Prop) (m0:Nat) (w0:W 0 m0 [] H2)
 (turn:∀i m ys H,W i m ys H->ys.length<=sizeLine/\((J.stop i H/\∀p,H p=none->Q (.ref p) (upd H p (.lst ys)))\/(J.go i H/\∀x H',J.yld i H x H'->g x (Z8 cap σ) H' λσ2 H2=>(∀(j:Nat) v,(Z8 cap σ)[j]? = some (some v)->σ2[j]? = some (some v))/\
  tt σ2 H2 λb H3=>if b=true then ys.length<sizeLine/\te σ2 H3 λy H4=>∃m',m'<m/\W (i+1) m' (ys++[y]) H4 else ∃m',m'<m/\W (i+1) m' ys H3)))
 (fin:∀ys H3 s1 m,Inv X pins σ (upd H3 s2.heap.objs.size (.lst ys)) s1->s1.heap.Ns (s2.heap.objs.size+1) m->zfi X pins (upd H3 s2.heap.objs.size (.lst ys)) (s2.heap.objs.size+1)->
  Q (.ref s2.heap.objs.size) (upd H3 s2.heap.objs.size (.lst ys))->R (.ref s2.heap.objs.size) (s2.heap.objs.size+1) (.ok .next) s1):
 wpAny (model X.prog X.w) X.A (newList []) (λacc s₃=>wpAny (model X.prog X.w) X.A (newFunctionEnv scope X.env.globals (Zw X.env scope.names []) [] X.env.qual none .none (some X.env)) (λcenv s₄=>
  codeAny (model X.prog X.w) X.A (.compStart (.ListComp elt [⟨tg,iter,ifs,0⟩] scope pos) 0 (.ref it) acc {cenv with scope:=relabel scope X.env}) (R acc cenv.locals) s₄) E s₃) E s2:=by
 refine zxJ (zje λh' env' eE eL old hns hcells=>?_)
 have e1:(s2.heap.push {cls:=.type "list",dict:=none,data:=.seq ([]:List Value).toArray}).objs.size=s2.heap.objs.size+1:=zxL ..
 dsimp only at eE eL old hns hcells
 rw[e1]at eE eL hns hcells
 have hD0:(s2.heap.push {cls:=.type "list",dict:=none,data:=.seq ([]:List Value).toArray}).get? s2.heap.objs.size=some (lobj []):=zxI _ rfl
 have hD:h'.get? s2.heap.objs.size=some (lobj []):=old _ _ hD0
 have old':∀b o,s2.heap.get? b=some o->h'.get? b=some o:=λb o q=>old b o (zxG _ q)
 have fex:∀b ∈ fp,∃o,s2.heap.get? b=some o:=λb hb=>by obtain⟨o,e,_⟩:=T.obj _ _ st2 b hb;exact⟨o,e⟩
 have flt:∀b ∈ fp,b<s2.heap.objs.size:=λb hb=>by obtain⟨o,e⟩:=fex b hb;exact zxH e
 have I':=zmi I2 C hk f2 fex old' hns hcells
 rw[eE,eL]
 generalize hX:Zf X N scope (Zw X.env scope.names []) s2 H2 fp=X' at I'
 have xP:X'.prog=X.prog:=by rw[<-hX]
 have xw:X'.w=X.w:=by rw[<-hX]
 have xK:X'.K=X.K:=by rw[<-hX]
 have xA:X'.A=X.A:=by rw[<-hX]
 have xe:X'.env=zaD scope X.env (Zw X.env scope.names []) (s2.heap.objs.size+1):=by rw[<-hX]
 have xL:X'.env.locals=s2.heap.objs.size+1:=by rw[xe];rfl
 have xfs:X'.fs=frs X.stack:=by rw[<-hX]
 have xex:X'.ex=fp:=by rw[<-hX]
 have xs:X'.s₀=s2:=by rw[<-hX]
 have xH:X'.H₀=H2:=by rw[<-hX]
 have xpn:X'.pn=[]:=by rw[<-hX]
 have xc:X'.calm=true:=by rw[<-hX];exact hc
 have xE:X'.xe=λ_ _=>False:=by rw[<-hX]
 have hg':PG X' tg g:=by rw[<-hX];exact hg _ _ _ _
 have ht':PTs X' ifs tt:=by rw[<-hX];exact ht _ _ _ _
 have he':PE X' elt te:=by rw[<-hX];exact he _ _ _ _
 have H2D:H2 s2.heap.objs.size=none:=I2.hok.fresh (zzL _)
 have Dfs:s2.heap.objs.size ∉ X'.fs:=by
  rw[xfs]
  intro hm
  rcases zzA.mp (I2.stkSub _ hm)with z|z
  · exact absurd I2.lt (by rw[<-z];exact Nat.lt_irrefl _)
  · exact I2.nofs (zzL _) z
 have DL:s2.heap.objs.size≠X'.env.locals:=by rw[xL];exact zzO (Nat.lt_succ_self _)
 have pinD:∀{σ':St}{H':Hp}{s':Shared}{its:List Value}{ps:List (Addr×Obj)},Inv X' ps σ' H' s'->s'.heap.get? s2.heap.objs.size=some (lobj its)->H' s2.heap.objs.size=none->Inv X' [(s2.heap.objs.size,lobj its)] σ' H' s':=λI e n=>
  I.pins_of λp hp=>by
   cases zzP.mp hp
   exact⟨e,n,DL,Dfs,λv z=>by cases z⟩
 have stat:∀{H':Hp}{its:List Value},(∀b ∈ fp,H' b=none)->∀b ∈ fp,zfi X' [(s2.heap.objs.size,lobj its)] H' b:=λhn b hb=>by
  refine⟨hn b hb, ?_, ?_,.inl (by rw[xex];exact hb),(I'.ok.exf b (by rw[xex];exact hb)).2,λp hp=>?_⟩
  · exact(I'.ok.exf b (by rw[xex];exact hb)).1
  · exact I'.ok.exfs b (by rw[xex];exact hb)
  · rw[xpn,List.nil_append]at hp
    cases zzP.mp hp
    exact Nat.ne_of_gt (flt b hb)
 have loop:∀(n:Nat) (s':Shared),(∃i ys its H3,Inv X' [(s2.heap.objs.size,lobj its)] (Z8 cap σ) H3 s'/\tn i s'.heap/\(∀b ∈ fp,H3 b=none)/\Vals ys its/\W i n ys H3)->
  codeAny (model X.prog X.w) X.A (.compLoop (.ListComp elt [⟨tg,iter,ifs,0⟩] scope pos) 0 (.ref it) (.ref s2.heap.objs.size) (zaD scope X.env (Zw X.env scope.names []) (s2.heap.objs.size+1)))
   (R (.ref s2.heap.objs.size) (s2.heap.objs.size+1)) s':=by
  intro n s' h0
  refine zji (λn s'=>∃i ys its H3,Inv X' [(s2.heap.objs.size,lobj its)] (Z8 cap σ) H3 s'/\tn i s'.heap/\(∀b ∈ fp,H3 b=none)/\Vals ys its/\W i n ys H3) ?_ n h0
  clear h0 n s'
  rintro n s3 E' ⟨i,ys,its,H3,I3,st3,fr3,rv3,w3⟩
  obtain⟨hz,hstep⟩:=turn i n ys H3 w3
  rcases hstep with⟨stop,qn⟩|⟨go,step⟩
  · have:=T.done X' xP xw xK xc i _ s3 _ H3 E' I3 (stat fr3) st3 stop
    rw[xA]at this
    refine zxM this (λr s4 ⟨hr,I4⟩=>?_) λ_ _ z=>z
    subst hr
    obtain⟨gD,nD,_⟩:=I4.pin (s2.heap.objs.size,lobj its) (by rw[xpn];simp)
    obtain⟨m,hn,_⟩:=I4.loc
    rw[xL]at hn
    have b4:=I4.base
    rw[xfs,xex,xH,xs]at b4
    have nL:H3 (s2.heap.objs.size+1)=none:=by have:=I4.free;rw[xL]at this;exact this
    have neD:∀b o,s2.heap.get? b=some o->b≠s2.heap.objs.size:=λb o e=>zzO (zxH e)
    have neH:∀b u,H2 b=some u->b≠s2.heap.objs.size:=λb u e z=>by rw[z,H2D]at e;cases e
    have ne3:∀b u,H3 b=some u->b≠s2.heap.objs.size:=λb u e z=>by rw[z,nD]at e;cases e
    have hok4:=I4.hok
    rw[xP,xw]at hok4
    refine fin ys H3 s4 m (I2.call' (ch:=fp) ?_ ⟨b4.keep,b4.slot,λb o e n hx=>?_,b4.there,λb xs e=>?_,λb o u e=>?_,λb ps e=>?_⟩ ?_ I4.bare λb hb=>?_) hn (I2.fpOk (zyV _) (by rw[yo (Nat.ne_of_gt (Nat.lt_succ_self _))];exact nL)) (qn _ nD)
    · have:=I4.os;rw[xs]at this;exact this
    · rw[yo (neD b o e)];exact b4.free b o e n hx
    · rw[yo (neH b _ e)];exact b4.tups b xs e
    · rw[yo (neH b _ e)];exact b4.frzs b o u e
    · rw[yo (neH b _ e)];exact b4.tbls b ps e
    · intro b u e
      by_cases hb:b=s2.heap.objs.size
      · subst hb
        rw[yZ]at e
        cases e
        exact⟨hz,its,its.length,rv3,gD⟩
      · rw[yo hb]at e
        exact(hok4 b u e).stay (λc v _ q=>q) (λc q=>by rw[yo (ne3 c _ q)];exact q) λc xs q=>by rw[yo (ne3 c _ q)];exact q
    · obtain⟨f0,f1,f3,f4,f5,f6⟩:=f2 b hb
      exact⟨f4,f1,f5,f6⟩
  · have:=T.item X' xP xw xK xc i _ s3 _ H3 E' I3 (stat fr3) st3 go
    rw[xA]at this
    refine zxM this (λr s4 ⟨u,hr,h4⟩=>?_) λ_ _ z=>z
    subst hr
    refine zxM h4 (λ_ s5 ⟨x,H5,I5,r5,y5,st5,fr5⟩=>?_) λ_ _ z=>z
    have I5':=I5.pinned (stat fr5) (T.obj _ _ st5)
    have h6:=hg' _ s5 _ H5 x u _ I5' r5 (step x H5 y5)
    rw[xP,xw,xA,xe,xE]at h6
    refine zxM h6 (λ_ s6 ⟨σ6,H6,I6,cap6,q6⟩=>?_) λ_ _ z=>z.elim
    have h7:=ht' _ s6 σ6 H6 _ I6 q6
    rw[xP,xw,xA,xe,xE]at h7
    refine zxM h7 (λb s7 ⟨H7,I7,q7⟩=>?_) λ_ _ z=>z.elim
    have keep:∀{H8:Hp}{s8:Shared},Inv X' ([(s2.heap.objs.size,lobj its)]++zfT fp s5.heap) σ6 H8 s8->Inv X' [(s2.heap.objs.size,lobj its)] (Z8 cap σ) H8 s8/\tn (i+1) s8.heap/\∀b ∈ fp,H8 b=none:=λ{H8 s8} I8=>by
     refine⟨I8.unpinned.weak ?_ cap6,T.keep _ _ _ st5 λb hb o e=>(I8.pin (b,o) (zzJ _ (zzJ _ (WR hb e)))).1,λb hb=>?_⟩
     · rw[I3.len];exact I8.len.symm
     · obtain⟨o,e,d⟩:=T.obj _ _ st5 b hb
       exact(I8.pin (b,o) (zzJ _ (zzJ _ (WR hb e)))).2.1
    cases b with
    |false=>
     obtain⟨m',hm,w7⟩:=q7
     obtain⟨k1,k2,k3⟩:=keep I7
     exact⟨m',hm,i+1,ys,its,H7,k1,k2,k3,rv3,w7⟩
    |true=>
     obtain⟨hz2,q7⟩:=q7
     have h8:=he' _ s7 σ6 H7 _ I7 q7
     rw[xP,xw,xA,xe,xE]at h8
     show wpAny _ _ _ _ _ _
     refine zxM h8 (λyv s8 ⟨y,H8,I8,ry,m',hm,w8⟩=>?_) λ_ _ z=>z.elim
     obtain⟨k1,k2,k3⟩:=keep I8
     obtain⟨gD,nD,_⟩:=k1.pin (s2.heap.objs.size,lobj its) (by rw[xpn];simp)
     have hl:=rv3.length
     refine append_at gD (λh9 sb gD9=>?_) (by rw[zzF];omega)
     have I9:Inv X' [] (Z8 cap σ) H8 {s8 with heap:=h9}:=(k1.pins_of (pins':=[]) (λ_ z=>nomatch z)).turned (t':=s8.toks) (it:=s2.heap.objs.size) (λb o hb e=>(sb.2 b hb).trans e) nD DL (.inr (by rw[xs];exact zzL _)) (λx c ec z=>by
      obtain⟨v,o,ho,hd⟩:=k1.cell x c ec
      rw[z,gD]at ho
      cases ho
      cases hd) (λp hp=>by rw[xpn]at hp;cases hp)
     have gD9':h9.get? s2.heap.objs.size=some (lobj (its++[yv])):=by
      rw[gD9]
      congr 1
      show({cls:=.type "list",data:=.seq (its.toArray.push yv) (its.length+1)}:Obj)={cls:=.type "list",data:=.seq (its++[yv]).toArray (its++[yv]).length}
      rw[zzH,List.length_singleton,List.push_toArray]
     refine⟨m',hm,i+1,ys++[y],its++[yv],H8,pinD I9 gD9' nD,T.keep _ _ _ k2 λb hb o e=>(sb.2 b (zzO (flt b hb))).trans e,k3,rv3.append (.cons ry .nil),w8⟩
 have start:∃i ys its H3,Inv X' [(s2.heap.objs.size,lobj its)] (Z8 cap σ) H3 {s2 with heap:=h'}/\tn i h'/\(∀b ∈ fp,H3 b=none)/\Vals ys its/\W i m0 ys H3:=
  ⟨0,[],[],H2,pinD I' hD H2D,T.keep _ _ _ st2 λb hb o e=>old' b o e,λb hb=>(f2 b hb).1,.nil,w0⟩
 exact codeAny_compStart_list (loop m0 _ start) (T.self _ 0 _ _ _ (T.keep _ _ _ st2 λb hb o e=>old' b o e) (loop m0 _ start))
theorem zqG(hc:X.calm=true)(hi:PI X tg iter wi)(hk:scope.kind = .function)(hcap:xf N X.N scope.names X.env.scope.names cap=true)
 (hg:∀cl s H fp,PG (Zf X N scope cl s H fp) tg g) (ht:∀cl s H fp,PTs (Zf X N scope cl s H fp) ifs tt) (he:∀cl s H fp,PE (Zf X N scope cl s H fp) elt te)
 (hs:∀x,foldedSetIterable iter X.env x=pure x):PE X (.ListComp elt [⟨tg,iter,ifs,0⟩] scope pos) (zoU wi cap g tt te):=by
 intro pins s σ H Q I h
 have C:=zlp hcap
 rw[eval_ListComp]
 refine wpAny_comprehension_free (use:=none) rfl hs (zbx λx m e=>I.ok.has x.1 (C.fr x m e)) hk (λy m e=>zdZ C.nd (by rw[<-e];exact m)) ?_
 refine thn (hi pins s σ H _ I h) λv s1 h1=>thn h1 λitv s2 h2=>?_
 obtain⟨it,fp,tn,J,H2,e,I2,T,st2,f2,W,⟨m0,w0⟩,turn⟩:=h2
 subst e
 refine zhb (R:=λacc C r s'=>compPost (model X.prog X.w) X.A X.xe none (EP X pins σ Q) acc C r s') hc C hk hg ht he I2 T st2 f2 W m0 w0 turn λys H3 s3 m I3 hn fl q=>?_
 refine⟨m,hn,λh' sb=>?_⟩
 obtain⟨f0,f1,f3,f4,f5,f6⟩:=fl
 exact⟨.ref s2.heap.objs.size,_,I3.turned (t':=s3.toks) (λb o hb e=>(sb.2 b hb).trans e) f0 f1 f4 f5 f6,rfl,q⟩
theorem zqQ{i:Nat}{y:Str}{py spos:Pos}(hN:X.N.Nodup)(hiy:X.N[i]? = some y)(hy:Loc X.env.scope y)(hf:X.fn y=true\/X.env.scope.names.lookup y=some .local)
 (hsw:swapsWith (.ListComp elt [⟨tg,iter,ifs,0⟩] scope pos) (some (.Name y py)) spos.line X.env=pure true)
 (hc:X.calm=true) (hi:PI X tg iter wi) (hk:scope.kind = .function) (hcap:xf N X.N scope.names X.env.scope.names cap=true)
 (hg:∀cl s H fp,PG (Zf X N scope cl s H fp) tg g) (ht:∀cl s H fp,PTs (Zf X N scope cl s H fp) ifs tt) (he:∀cl s H fp,PE (Zf X N scope cl s H fp) elt te)
 (hs:∀x,foldedSetIterable iter X.env x=pure x):PS X (.Assign [.Name y py] (.ListComp elt [⟨tg,iter,ifs,0⟩] scope pos) spos) (ztd (zoU wi cap g tt te) (zkI i)):=by
 intro pins s σ H D I h
 have C:=zlp hcap
 rw[exec_Assign_Name_used _ _ _ _ hsw]
 refine zxE (wpAny_standAt (zxE ?_))
 show wpAny _ X.A (do let _ <-comprehension (.ListComp elt [⟨tg,iter,ifs,0⟩] scope pos) scope X.env _ (newList []) false (eval iter X.env) (some (assign (.Name y py) X.env))) _ _ s
 refine zxE (zxM (wpAny_comprehension_free (use:=some (assign (.Name y py) X.env)) (Q:=λ_ s'=>SP X pins D .next s') rfl hs (zbx λx m e=>I.ok.has x.1 (C.fr x m e)) hk (λy m e=>zdZ C.nd (by rw[<-e];exact m)) ?_) (λ_ s' hq=>zxF (zxF hq)) λ_ _ e=>e)
 refine thn (hi pins s σ H _ I h) λv s1 h1=>thn h1 λitv s2 h2=>?_
 obtain⟨it,fp,tn,J,H2,e,I2,T,st2,f2,W,⟨m0,w0⟩,turn⟩:=h2
 subst e
 refine zhb (Q:=λx H1=>zkI i x σ H1 D.nx) (R:=λacc C r s'=>compPost (model X.prog X.w) X.A X.xe (some (assign (.Name y py) X.env)) (λ_ s'=>SP X pins D .next s') acc C r s') hc C hk hg ht he I2 T st2 f2 W m0 w0 turn λys H3 s3 m I3 hn fl q=>?_
 obtain⟨f0,f1,f3,f4,f5,f6⟩:=fl
 refine wpAny_assign_Name (zin I3 hN hiy hy (v:=.ref s2.heap.objs.size) rfl (λs4 I4 ⟨a,sb,ha⟩=>?_) hf)
 refine⟨m,hn.sameBut sb (λz=>?_),λh' sb'=>?_⟩
 · rcases ha with ha|ha
   · exact f1 (z.trans ha)
   · exact f5 y a ha z.symm
 · exact⟨_,_,I4.turned (t':=s4.toks) (λb o hb e=>(sb'.2 b hb).trans e) f0 f1 f4 f5 f6,q⟩
end
structure ItC(K:zC)(kd:KD)(F:Addr->Prop)(H:Hp)(J:It)(ds:List It1):Prop where
 all:∀(H2:Hp) (T:Addr->Prop),(∀b u,H b=some u->H2 b=some u)->(∀a,T a->H a=none/\H2 a≠none)->∀i,(i<ds.length->J.go i H2)/\(ds.length<=i->J.stop i H2)/\
  ∀v H3,J.yld i H2 v H3->(∀b o,H2 b=some o->H3 b=some o)/\∀x,ds[i]? = some x->Rp K kd (λa=>x.1=true/\(F a\/T a)) H3 v x.2
def alC(K:zC)(kd:KD)(f:IF):TI:=λσ H R=>∃F B ad as ds as',Rel K kd F B [] ad as σ H/\f as=some (ds,as')/\
 ∀J ad' H',Rel K kd F B [] ad' as' σ H'->Grow (Gw [] ad) H (Gw [] ad') H'->ItC K kd (Lv F B (Gw [] ad') true) H' J ds->R J H'
@[irreducible] def AIc(X:Cx)(kd:KD)(tg iter:Expr)(f:IF):Prop:=PI X tg iter (alC X.K kd f)
def zdA(os:List O):List It1:=os.map λo=>match o with | .lf st d=>(st,d)|o=>(false,o.toD)
def zvV(as:AS):RV->Option (List It1)
 | .ow o=>zkp (o.str,o.toD)
 | .bo i=>match as[i]? with
  |some (some (.nd .ls os))=>some (zdA os)
  |some (some (.nd .tp os))=>some (zdA os)
  |_=>none
def xq(f:EF):IF:=λas=>(f as).bind λp=>(zvV p.2 p.1).bind λds=>some (ds,p.2)
section
variable{K:zC}{kd:KD}{F B:Addr->Prop}{G:Addr->Prop}{T:List Addr}{ad:Ad}{as:AS}{σ:St}{H H':Hp}
inductive RpC(K:zC)(kd:KD)(F:Addr->Prop)(H:Hp):List V->List It1->Prop
 |nil:RpC K kd F H [] []
 |cons {v:V}{x:It1}{vs:List V}{ds:List It1}:Rp K kd (λa=>x.1=true/\F a) H v x.2->RpC K kd F H vs ds->RpC K kd F H (v::vs) (x::ds)
theorem RpC.length{vs:List V}{ds:List It1}(h:RpC K kd F H vs ds):vs.length=ds.length:=by
 induction h with
 |nil=>rfl
 |cons _ _ ih=>exact congrArg (· + 1) ih
theorem RpC.get{vs:List V}{ds:List It1}{i:Nat}{x:It1}(h:RpC K kd F H vs ds)(e:ds[i]? = some x):∃v,vs[i]? = some v/\Rp K kd (λa=>x.1=true/\F a) H v x.2:=by
 induction h generalizing i with
 |nil=>simp at e
 |cons h r ih=>
  cases i with
  |zero=>simp at e;subst e;exact⟨_,rfl,h⟩
  |succ i=>
   obtain⟨v,h1,h2⟩:=ih (i:=i) (by simpa using e)
   exact⟨v,by simpa using h1,h2⟩
theorem Rp.since{Ob:Addr->Prop}{v:V}{d:D}{T:Addr->Prop}(k:∀b u,H b=some u->H' b=some u)(hT:∀a,T a->H a=none)(h:Rp K kd Ob H v d):Rp K kd (Un2 Ob T) H' v d:=
 Rp.grow (F:=Ob) (W:=λ_=>False) (W':=T) (H':=H') ⟨λb u q _=>k b u q,λb z=>.inr (hT b z)⟩ (h.less λa z=>z.elim id False.elim)
theorem zgp{st:Bool}{vs:List V}{ds:List D}(h:RpL K kd (Lv F B G st) H vs ds):RpC K kd (Lv F B G true) H vs (kids st ds):=
 RpL.ind (P:=λvs ds=>RpC K kd (Lv F B G true) H vs (kids st ds)) .nil (λ{v d vs ds} h _ ih=>by
  refine .cons (x:=(yu d||st,d)) ?_ ih
  cases e:yu d with
  |true=>exact h.flat e
  |false=>
   refine h.less λa z=>?_
   have zs:st=true:=z.1
   rw[zs];exact z.2) h
theorem zsn{vs:List V}{os:List O}{fp:List Addr}(h:YL K kd F B G H vs os fp):RpC K kd (Lv F B G true) H vs (zdA os):=
 RoL.ind (P:=λvs os _=>RpC K kd (Lv F B G true) H vs (zdA os)) .nil (λ{v o vs os fp fq} h _ ih=>by
  have ha:=zjh h
  refine .cons ?_ ih
  cases h with
  |lf rp=>exact rp.less λa z=>(by have zs:=z.1;dsimp only at zs;rw[zs];exact z.2)
  |ls=>exact ha.less λa z=>nomatch z.1
  |dc=>exact ha.less λa z=>nomatch z.1
  |ob=>exact ha.less λa z=>nomatch z.1
  |dt=>exact ha.less λa z=>nomatch z.1
  |tp=>exact ha.less λa z=>nomatch z.1) h
theorem zgM{a:Addr}{vs:List V}{ds:List It1}(h:SqL K H a vs)(r:RpC K kd F H vs ds):ItC K kd F H (Itl K a) ds:=⟨λH3 T k hT i=>by
 have hr3:SqL K H3 a vs:=by
  rcases h with(h|⟨o,h⟩)|h
  · exact .inl (.inl (k _ _ h))
  · exact .inl (.inr ⟨o,k _ _ h⟩)
  · exact .inr h
 refine⟨λhi=>?_,λhi=>⟨_,hr3,by rw[r.length];exact hi⟩,λv H4 hy=>?_⟩
 · obtain⟨u,hu,_⟩:=r.get (zzC hi)
   exact⟨_,u,hr3,hu⟩
 · obtain⟨rfl,hv⟩:=hy
   refine⟨λ_ _ z=>z,λd hd=>?_⟩
   obtain⟨u,hu,ru⟩:=r.get hd
   have:=hv _ hr3
   rw[hu]at this
   cases this
   exact(ru.since k λa z=>(hT a z).1).less λa z=>z.2.elim (λy=>.inl ⟨z.1,y⟩) .inr⟩
theorem zmr{a:Addr}{vs:List V}{ds:List It1}(h:SqT K H a vs)(r:RpC K kd F H vs ds):ItC K kd F H (Itt K a) ds:=⟨λH3 T k hT i=>by
 have hr3:SqT K H3 a vs:=by
  rcases h with(h|⟨o,h⟩)|h
  · exact .inl (.inl (k _ _ h))
  · exact .inl (.inr ⟨o,k _ _ h⟩)
  · exact .inr h
 refine⟨λhi=>?_,λhi=>⟨_,hr3,by rw[r.length];exact hi⟩,λv H4 hy=>?_⟩
 · obtain⟨u,hu,_⟩:=r.get (zzC hi)
   exact⟨_,u,hr3,hu⟩
 · obtain⟨rfl,hv⟩:=hy
   refine⟨λ_ _ z=>z,λd hd=>?_⟩
   obtain⟨u,hu,ru⟩:=r.get hd
   have:=hv _ hr3
   rw[hu]at this
   cases this
   exact(ru.since k λa z=>(hT a z).1).less λa z=>z.2.elim (λy=>.inl ⟨z.1,y⟩) .inr⟩
theorem zrZ(lo:Int)(n:Nat):ItC K kd F H (Itr lo n) (vN lo n):=⟨λH2 T k hT i=>by
 have hl:(vN lo n).length=n:=by unfold vN;simp
 refine⟨λhi=>by rw[hl]at hi;exact hi,λhi=>by rw[hl]at hi;exact hi,λv H3 hy=>?_⟩
 obtain⟨rfl,rfl⟩:=hy
 refine⟨λ_ _ z=>z,λd hd=>?_⟩
 have hi:i<n:=by rw[<-hl];exact(zzE.mp hd).1
 unfold vN at hd
 rw[zzG,List.getElem?_range hi]at hd
 cases hd
 exact .int _⟩
end
theorem xF{X:Cx}{kd:KD}{tg e:Expr}{fa:EF}(he:AE X kd e fa):AIc X kd tg e (xq fa):=by
 with_unfolding_all (
 intro pins s σ H R I h
 obtain⟨F,B,ad,as,ds,as',Rl,e,q⟩:=h
 obtain⟨⟨p,as1⟩,h1,e⟩:=bS_ (show(fa as).bind _=_ from e)
 obtain⟨ys,h2,e⟩:=bS_ e
 cases e
 cases p with
 |ow o=>
  have h2:zkp (o.str,o.toD)=some ds:=h2
  generalize hd:o.toD=d at h2
  cases d with
  |lst xs=>
   cases h2
   refine zjt he pins s σ H R I ⟨F,B,ad,as,_,as1,Rl,h1,λv T1 ad1 H1 R1 rv1 g1=>?_⟩
   have rp:=zmh R1 rv1
   rw[hd]at rp
   cases rp with
   |lst hn hr rl=>exact⟨_,rfl,⟨_,.inl hr⟩,q _ ad1 H1 R1.drop (g1.trans (Grow.less Gw.drop)) (zgM (.inl hr) (zgp rl))⟩
   |lstK a b c rl=>exact⟨_,rfl,⟨_,.inr ⟨_,_,_,a,rfl,rfl,rfl,b,c⟩⟩,q _ ad1 H1 R1.drop (g1.trans (Grow.less Gw.drop)) (zgM (.inr ⟨_,_,_,a,rfl,rfl,rfl,b,c⟩) (zgp rl))⟩
  |tup xs=>
   cases h2
   refine zlz he pins s σ H R I ⟨F,B,ad,as,_,as1,Rl,h1,λv T1 ad1 H1 R1 rv1 g1=>?_⟩
   have rp:=zmh R1 rv1
   rw[hd]at rp
   have go:∃a ys,v = .ref a/\SqT X.K H1 a ys/\RpL X.K kd (Lv F B (Gw [] ad1) o.str) H1 ys xs:=by
    cases rp with
    |tup n h r=>exact⟨_,_,rfl,.inl (.inl h),r⟩
   obtain⟨a,ys,rfl,hs,rl⟩:=go
   exact⟨_,rfl,⟨_,hs⟩,q _ ad1 H1 R1.drop (g1.trans (Grow.less Gw.drop)) (zmr hs (zgp rl))⟩
  |_=>cases h2
 |bo i=>
  have h2:(match as1[i]? with|some (some (.nd .ls os))=>some (zdA os)|some (some (.nd .tp os))=>some (zdA os)|_=>none)=some ds:=h2
  cases k:as1[i]? with
  |none=>rw[k]at h2;cases h2
  |some s0=>
   rw[k]at h2
   match s0,h2,k with
   |some (.nd .ls os),h2,k=>
    cases h2
    refine zjt he pins s σ H R I ⟨F,B,ad,as,_,as1,Rl,h1,λv T1 ad1 H1 R1 rv1 g1=>?_⟩
    obtain⟨rfl,hs⟩:=rv1
    obtain⟨w,hw,ro⟩:=R1.sl i _ k
    rw[hs]at hw
    cases hw
    generalize hfp:ad1 i=fp at ro
    cases ro with
    |ls hH rl=>exact⟨_,rfl,⟨_,.inl (.inl hH)⟩,q _ ad1 H1 R1 g1 (zgM (.inl (.inl hH)) (zsn rl))⟩
   |some (.nd .tp os),h2,k=>
    cases h2
    refine zlz he pins s σ H R I ⟨F,B,ad,as,_,as1,Rl,h1,λv T1 ad1 H1 R1 rv1 g1=>?_⟩
    obtain⟨rfl,hs⟩:=rv1
    obtain⟨w,hw,ro⟩:=R1.sl i _ k
    rw[hs]at hw
    cases hw
    generalize hfp:ad1 i=fp at ro
    cases ro with
    |tp n hH rl=>exact⟨_,rfl,⟨_,.inl (.inl hH)⟩,q _ ad1 H1 R1 g1 (zmr (.inl (.inl hH)) (zsn rl))⟩)
theorem yG{X:Cx}{kd:KD}{tg a:Expr}{pos:Pos}{fr:AF}{p:Pos}(hg:Gl X "range")(hm:X.mg "range"=none)(ha:AA X kd [a] fr)(hs:starEach [a] X.env=[(false,eval a X.env)]):AIc X kd tg (.Call (.Name "range" p) [a] [] pos) (yJ fr yK):=by
 with_unfolding_all (
 intro pins s σ H R I h
 obtain⟨F,B,ad,as,ds,as',Rl,e,q⟩:=h
 obtain⟨⟨ps,as1⟩,h1,e⟩:=bS_ (show(fr as).bind _=_ from e)
 obtain⟨⟨xs,lv⟩,h2,e⟩:=bS_ e
 obtain⟨ys,h3,e⟩:=bS_ e
 cases e
 obtain⟨j,rfl,h3⟩:=znh h3
 · obtain⟨hj,e3⟩:=yj h3
   cases e3
   refine ziI hg hm ha hs pins s σ H R I ⟨F,B,ad,as,ps,_,Rl,h1,λvs ad1 H1 R1 rv1 g1=>?_⟩
   have vl:=zbh R1 rv1 h2
   cases vl with
   |cons v1 v2=>
    cases v2
    cases v1
    exact⟨j,rfl,hj.1,hj.2,q _ ad1 H1 R1 g1 (zrZ 0 _)⟩)
def zwo(as:AS):Option Nat->Option O
 |none=>none
 |some j=>match as[j]? with
  |some (some (.lf st d))=>some (.lf st d)
  |some (some o)=>some (.lf false o.toD)
  |_=>none
def ZQ(cap:List (Option Nat))(as:AS):AS:=cap.map (zwo as)
def wD(g:GF)(tt:TF)(fe:EF)(as0:AS):List It1->Option (List O)
 | []=>some []
 |x::r=>(g x as0).bind λas1=>(tt as1).bind λb=>if b.1=true then(fe b.2).bind λp=>(toO p.2 p.1).bind λq=>if q.1.str=true then(wD g tt fe as0 r).bind λos=>some (q.1::os)else none
  else wD g tt fe as0 r
def zL(fi:IF)(cap:List (Option Nat))(g:GF)(tt:TF)(fe:EF):EF:=λas=>(fi as).bind λp=>if p.1.length<=sizeLine then(wD g tt fe (ZQ cap p.2) p.1).bind λos=>some (.ow (.nd .ls os),p.2)else none
def yf:TF:=λas=>some (true,as)
section
variable{K:zC}{kd:KD}{F B:Addr->Prop}{T:List Addr}{ad:Ad}{as:AS}{σ:St}{H H':Hp}{cap:List (Option Nat)}
theorem zqT(R:Rel K kd F B [] ad as σ H)(k:∀b u,H b=some u->H' b=some u)(hT:∀a ∈ T,H a=none)(hT':∀a ∈ T,H' a≠none):
 Rel K kd (Un2 (Lv F B (Gw [] ad) true) (· ∈ T)) (λ_=>False) [] (λ_=>[]) (ZQ cap as) (Z8 cap σ) H':=by
 have no:∀a,¬Gw [] (λ_=>[]) a:=λa z=>z.elim (λy=>nomatch y) λ⟨_,y⟩=>nomatch y
 have kn:∀a,H a≠none->H' a≠none:=λa z=>by
  cases e:H a with
  |none=>exact absurd e z
  |some u=>rw[k a u e];simp
 have up:∀{st:Bool}{v:V}{d:D},Rp K kd (λa=>st=true/\Lv F B (Gw [] ad) true a) H v d->Rp K kd (Lv (Un2 (Lv F B (Gw [] ad) true) (· ∈ T)) (λ_=>False) (Gw [] λ_=>[]) st) H' v d:=λ{st v d} h=>by
  have:=Rp.grow (F:=λa=>st=true/\Lv F B (Gw [] ad) true a) (W:=λ_=>False) (W':=(· ∈ T)) (H':=H') ⟨λb u q _=>k b u q,λb z=>.inr (hT b z)⟩ (h.less λa z=>z.elim id False.elim)
  refine this.less λa z=>?_
  rcases z with(⟨z1,z2⟩|z)|z
  · rcases z2 with z2|z2
    · exact .inl ⟨z1,z2⟩
    · exact .inr z2
  · exact z.elim
  · exact(no a z).elim
 refine⟨by unfold ZQ Z8;rw[zD,zD],λ_ _=>rfl,λ_=>zyH,(λ_ _ _ z=>nomatch z),zyH,(λ_ _ _ z=>nomatch z),λa z=>z.elim (λy=>kn a (R.trk true a y)) (hT' a),(λ_ z=>z.elim),λa z=>(no a z).elim,λi s e=>?_⟩
 unfold ZQ at e
 rw[zzG]at e
 obtain⟨c,hc,rfl⟩:=zzV.mp e
 have es:(Z8 cap σ)[i]? = some (zuR σ c):=by
  unfold Z8
  rw[zzG,hc]
  rfl
 rw[es]
 cases c with
 |none=>rfl
 |some j=>
  show zhn _ _ _ _ _ _ (match as[j]? with|some (some (.lf st d))=>some (.lf st d)|some (some o)=>some (.lf false o.toD)|_=>none) _ _
  cases k2:as[j]? with
  |none=>rfl
  |some s0=>
   cases s0 with
   |none=>rfl
   |some o=>
    obtain⟨v,hv,ro⟩:=R.sl j _ k2
    cases o with
    |lf st d=>
     have e0:ad j=[]:=by
      generalize hfp:ad j=fp at ro
      cases ro
      rfl
     rw[e0]at ro
     refine⟨v,by show some ((σ[j]?).getD none)=_;rw[hv];rfl,.lf (up ?_)⟩
     exact(zjT ro).less λa z=>by have zs:st=true:=z.1;show Lv F B (Gw [] ad) st a;rw[zs];exact z.2
    |nd kk os=>exact⟨v,by show some ((σ[j]?).getD none)=_;rw[hv];rfl,.lf (up ((zjh ro).less λa z=>nomatch z.1))⟩
theorem zof{S:List Nat}{fi:IF}{g:GF}{tt:TF}{fe:EF}{Q:VK}(hS:∀i ∈ S,cap[i]? = some none)(h:al K kd (zL fi cap g tt fe) σ H Q):
 zoU (alC K kd fi) cap (alG K kd S g) (alT K kd tt) (al K kd fe) σ H Q:=by
 obtain⟨F,B,ad,as,r,as',R,e,q⟩:=h
 obtain⟨⟨ds,as1⟩,h1,e⟩:=bS_ (show(fi as).bind _=_ from e)
 by_cases hz:ds.length<=sizeLine
 · have e:(if ds.length<=sizeLine then(wD g tt fe (ZQ cap as1) ds).bind λos=>some (RV.ow (.nd .ls os),as1)else none)=some (r,as'):=e
   rw[if_pos hz]at e
   obtain⟨os,h2,e⟩:=bS_ e
   cases e
   refine⟨F,B,ad,as,ds,as',R,h1,λJ ad1 H1 R1 g1 it=>?_⟩
   refine⟨λi m ys H3=>m+i=ds.length/\∃T os1 os2,os=os1++os2/\wD g tt fe (ZQ cap as') (ds.drop i)=some os2/\os1.length<=i/\T.Nodup/\(∀a ∈ T,H1 a=none/\H3 a≠none)/\(∀b u,H1 b=some u->H3 b=some u)/\
    RoL (λ_ v d=>Rp K kd (Un2 (Lv F B (Gw [] ad1) true) (· ∈ T)) H3 v d) (λa=>¬Un2 (Lv F B (Gw [] ad1) true) (· ∈ T) a) H3 ys os1 T,⟨ds.length,rfl,[],[],os,rfl,h2,zzL _,zyH,(λ_ m=>nomatch m),(λ_ _ z=>z),.nil⟩, ?_⟩
   rintro i m ys H3 ⟨hm,T,os1,os2,eo,ec,hl,tnd,tf,k3,rl⟩
   obtain⟨i1,i2,i3⟩:=it.all H3 (· ∈ T) k3 tf i
   have yl:=rl.length
   refine⟨by omega, ?_⟩
   by_cases hi:i<ds.length
   · refine .inr ⟨i1 hi,λv H4 hy=>?_⟩
     obtain⟨k4,rp⟩:=i3 v H4 hy
     rw[zyO hi]at ec
     obtain⟨as2,e2,ec⟩:=bS_ (show(g _ _).bind _=_ from ec)
     obtain⟨⟨b,as3⟩,e3,ec⟩:=bS_ ec
     have k14:∀b u,H1 b=some u->H4 b=some u:=λb u h=>k4 b u (k3 b u h)
     have kn4:∀a,H3 a≠none->H4 a≠none:=λa z=>by
      cases e:H3 a with
      |none=>exact absurd e z
      |some u=>rw[k4 a u e];simp
     have R4:=zqT (cap:=cap) (T:=T) R1 k14 (λa z=>(tf a z).1) (λa z=>kn4 a (tf a z).2)
     have no:∀a,¬Gw [] (λ_=>[]) a:=λa z=>z.elim (λy=>nomatch y) λ⟨_,y⟩=>nomatch y
     refine⟨_,_,_,_,ds[i],as2,R4,(rp _ (zzC hi)).less λa z=>?_,e2,λσ5 ad5 H5 R5 g5 keep5=>⟨λj w hw=>?_,_,_,ad5,as2,b,as3,R5,e3,λad6 H6 R6 g6=>?_⟩⟩
     · rcases z with(z|z)|z
       · exact z
       · exact z.elim
       · exact(no a z).elim
     · rw[keep5 j λz=>?_]
       · exact hw
       · have:=hS j z
         unfold Z8 at hw
         rw[zzG,this]at hw
         cases hw
     · -- what stood is kept
       have g46:=g5.trans g6
       have k46:∀b u,H4 b=some u->H6 b=some u:=λb u h=>g46.keep b u h (no b)
       have k36:∀b u,H3 b=some u->H6 b=some u:=λb u h=>k46 b u (k4 b u h)
       have kn6:∀a,H3 a≠none->H6 a≠none:=λa z=>by
        cases e:H3 a with
        |none=>exact absurd e z
        |some u=>rw[k36 a u e];simp
       have up:∀{H7:Hp}{T2:List Addr},(∀b u,H3 b=some u->H7 b=some u)->(∀a ∈ T2,H3 a=none)->RoL (λ_ v d=>Rp K kd (Un2 (Lv F B (Gw [] ad1) true) (· ∈ T++T2)) H7 v d) (λa=>¬Un2 (Lv F B (Gw [] ad1) true) (· ∈ T++T2) a) H7 ys os1 T:=λ{H7 T2} k7 f7=>
        RoL.mono (λst v d r=>(r.since k7 f7).less λa z=>z.elim (λy=>.inl (.inl y)) λy=>(zzK.mp y).elim (λx=>.inl (.inr x)) .inr)
         (λa vs n e=>⟨λz=>z.elim (λy=>n (.inl y)) λy=>(zzK.mp y).elim (λx=>n (.inr x)) λx=>(by have:=f7 a x;rw[this]at e;cases e),k7 _ _ e⟩) (λa _ u h=>k7 a u h) rl
       cases b with
       |false=>
        have:=up (T2:=[]) k36 (λ_ m=>nomatch m)
        rw[zyC]at this
        exact⟨m-1,by omega,by omega,T,os1,os2,eo,ec,Nat.le_succ_of_le hl,tnd,λa z=>⟨(tf a z).1,kn6 a (tf a z).2⟩,λb u h=>k36 b u (k3 b u h),this⟩
       |true=>
        rw[if_pos rfl]at ec
        obtain⟨⟨p,as7⟩,e7,ec⟩:=bS_ ec
        obtain⟨⟨o,as8⟩,e8,ec⟩:=bS_ ec
        by_cases hs:o.str=true
        · have ec:(if o.str=true then(wD g tt fe (ZQ cap as') (ds.drop (i+1))).bind λos=>some (o::os)else none)=some os2:=ec
          rw[if_pos hs]at ec
          obtain⟨os3,e9,ec⟩:=bS_ ec
          cases ec
          refine⟨by omega,_,_,ad6,as3,p,as7,R6,e7,λy T2 ad7 H7 R7 rv7 g7=>?_⟩
          obtain⟨ad8,R8,ro8,le8⟩:=zgK R7 rv7 e8
          have g47:=g46.trans g7
          have k47:∀b u,H4 b=some u->H7 b=some u:=λb u h=>g47.keep b u h (no b)
          have k37:∀b u,H3 b=some u->H7 b=some u:=λb u h=>k47 b u (k4 b u h)
          have f42:∀a ∈ T2,H4 a=none:=λa z=>(g47.own a (.inl z)).resolve_left (no a)
          have f32:∀a ∈ T2,H3 a=none:=λa z=>by
             cases e:H3 a with
             |none=>rfl
             |some u=>have:=k4 a u e;rw[f42 a z]at this;cases this
          have rt:=zmd R8 R8.tnd (λa z=>.inl z) ro8 hs
          have ro9:Ro (λ_ v d=>Rp K kd (Un2 (Lv F B (Gw [] ad1) true) (· ∈ T++T2)) H7 v d) (λa=>¬Un2 (Lv F B (Gw [] ad1) true) (· ∈ T++T2) a) H7 y o T2:=
             Ro.mono (λst v d r=>r.less λa z=>z.elim (λy=>.inl (.inl y)) λy=>(zzK.mp y).elim (λx=>.inl (.inr x)) .inr)
              (λa vs n e=>⟨λz=>n (z.elim (λy=>.inl (.inl y)) λy=>(zzK.mp y).elim (λx=>.inl (.inr x)) .inr),e⟩) (λ_ _ _ h=>h) rt.ro
          refine⟨m-1,by omega,by omega,T++T2,os1++[o],os3,by rw[eo,zxB];rfl,e9,by rw[zzH,List.length_singleton];omega,zxD.mpr ⟨tnd,rt.nd,λa z b z' e=>?_⟩,λa z=>?_,λb u h=>k37 b u (k3 b u h),(up k37 f32).append (RoL.one ro9)⟩
          · subst e
            exact(tf a z).2 (f32 a z')
          · rcases zzK.mp z with z|z
            · refine⟨(tf a z).1, ?_⟩
              cases e:H3 a with
              |none=>exact absurd e (tf a z).2
              |some u=>rw[k37 a u e];simp
            · refine⟨?_,rt.tr a z⟩
              cases e:H1 a with
              |none=>rfl
              |some u=>have:=k3 a u e;rw[f32 a z]at this;cases this
        · have ec:(if o.str=true then(wD g tt fe (ZQ cap as') (ds.drop (i+1))).bind λos=>some (o::os)else none)=some os2:=ec
          rw[if_neg hs]at ec
          cases ec
   · refine .inl ⟨i2 (by omega),λp hp=>?_⟩
     rw[List.drop_eq_nil_of_le (by omega)]at ec
     cases ec
     rw[zyC]at eo
     subst eo
     have pT:p ∉ T:=λz=>(tf p z).2 hp
     have H1p:H1 p=none:=by
      cases e:H1 p with
      |none=>rfl
      |some u=>have:=k3 p u e;rw[hp]at this;cases this
     have kp:∀b u,H3 b=some u->upd H3 p (.lst ys) b=some u:=λb u h=>by rw[yo (xg h hp)];exact h
     obtain⟨R9,g9⟩:=R1.news (T':=p::T) (H':=upd H3 p (.lst ys)) (zzU.mpr ⟨pT,tnd⟩) (λa z=>(zzA.mp z).elim (λe=>by rw[e];exact H1p) λz=>(tf a z).1) (λb u h=>kp b u (k3 b u h)) (λa z=>by
      rcases zzA.mp z with e|z
      · rw[e,yZ];simp
      · cases e:H3 a with
        |none=>exact absurd e (tf a z).2
        |some u=>rw[kp a u e];simp)
     refine q _ (p::T) ad1 _ R9 (.ls yZ ?_) (g1.trans g9)
     have le:∀st a,Lv F B (Gw (p::T) ad1) st a->Un2 (Un2 (Lv F B (Gw [] ad1) true) (· ∈ T)) (· = p) a:=λst a z=>by
      rcases z with(z|z)|z|z
      · exact .inl (.inl (.inl (.inl ⟨rfl,z.2⟩)))
      · exact .inl (.inl (.inl (.inr z)))
      · exact(zzA.mp z).elim .inr λy=>.inl (.inr y)
      · exact .inl (.inl (.inr (.inr z)))
     exact RoL.mono (λst v d r=>(r.since kp (T:=(· = p)) λa z=>by rw[z];exact hp).less (le st)) (λa vs n e=>⟨λz=>(le true a z).elim n λy=>(by rw[y,hp]at e;cases e),kp _ _ e⟩) (λa _ u h=>kp a u h) rl
 · have e:(if ds.length<=sizeLine then(wD g tt fe (ZQ cap as1) ds).bind λos=>some (RV.ow (.nd .ls os),as1)else none)=some (r,as'):=e
   rw[if_neg hz]at e
   cases e
end
section
variable{X:Cx}{kd:KD}{elt tg iter e a b c:Expr}{es ifs:List Expr}{scope:Scope}{pos:Pos}{N:List Str}{cap:List (Option Nat)}{g:GF}{tt:TF}{fe fa fb:EF}{fi:IF}{S:List Nat}{fr:AF}{fd:DF}
theorem zW:PTs X [] (alT X.K kd yf):=λpins s σ H Q I h=>by
 obtain⟨F,B,ad,as,b,as',R,e,q⟩:=h
 cases e
 exact zrx pins s σ H Q I (q ad H R Grow.refl)
theorem zjq(h:AT X kd c tt):PTs X [c] (alT X.K kd tt):=by with_unfolding_all exact(zrI h)
theorem yd(hc:X.calm=true)(hi:AIc X kd tg iter fi)(hk:scope.kind = .function)(hcap:xf N X.N scope.names X.env.scope.names cap=true)(hS:S.all (λi=>cap[i]? == some none)=true)
 (hg:∀cl s H fp,AG (Zf X N scope cl s H fp) kd tg S g) (ht:∀cl s H fp,PTs (Zf X N scope cl s H fp) ifs (alT X.K kd tt)) (he:∀cl s H fp,AE (Zf X N scope cl s H fp) kd elt fe)
 (hs:∀x,foldedSetIterable iter X.env x=pure x):AE X kd (.ListComp elt [⟨tg,iter,ifs,0⟩] scope pos) (zL fi cap g tt fe):=by with_unfolding_all exact(wL (zqG (g:=alG X.K kd S g) (te:=al X.K kd fe) hc hi hk hcap hg ht he hs) λσ H Q h=>zof (λi m=>by simpa using List.all_eq_true.mp hS i m) h)
theorem Yu{z:Bool}{i:Nat}{y:Str}{py spos:Pos}(hN:X.N.Nodup)(hiy:X.N[i]? = some y)(hy:Loc X.env.scope y)(hf:X.fn y=true\/X.env.scope.names.lookup y=some .local)
 (hsw:swapsWith (.ListComp elt [⟨tg,iter,ifs,0⟩] scope pos) (some (.Name y py)) spos.line X.env=pure true)
 (hc:X.calm=true) (hi:AIc X kd tg iter fi) (hk:scope.kind = .function) (hcap:xf N X.N scope.names X.env.scope.names cap=true) (hS:S.all (λi=>cap[i]? == some none)=true)
 (hg:∀cl s H fp,AG (Zf X N scope cl s H fp) kd tg S g) (ht:∀cl s H fp,PTs (Zf X N scope cl s H fp) ifs (alT X.K kd tt)) (he:∀cl s H fp,AE (Zf X N scope cl s H fp) kd elt fe)
 (hs:∀x,foldedSetIterable iter X.env x=pure x):ASt X kd (.Assign [.Name y py] (.ListComp elt [⟨tg,iter,ifs,0⟩] scope pos) spos) (zO z i (zL fi cap g tt fe)):=by with_unfolding_all exact(YJ (zqQ (g:=alG X.K kd S g) (te:=al X.K kd fe) hN hiy hy hf hsw hc hi hk hcap hg ht he hs) λD σ H h=>by
 obtain⟨F,B,ad,as,o,R,e,q⟩:=h
 obtain⟨⟨p,as1⟩,h1,e⟩:=bS_ (show(zL fi cap g tt fe as).bind _=_ from e)
 obtain⟨⟨y,as2⟩,h2,e⟩:=bS_ e
 obtain⟨hl,e⟩:=yj e
 cases e
 refine zof (Q:=λx H1=>zkI i x σ H1 D.nx) (λi m=>by simpa using List.all_eq_true.mp hS i m) ⟨F,B,ad,as,p,as1,R,h1,λv T' ad' H' R' rv g=>?_⟩
 obtain⟨ad2,R2,le⟩:=zqk R' rv h2 hl
 exact q _ ad2 H' R2 (g.trans (Grow.less le)))
theorem zrO{k:Nat}{f:Addr}{fdt:FuncData}{ps:List Str}{gg:List (Bool×D)->Option O}{x:Str}{p:Pos}(F:FnOk X.prog X.w X.K X.mg X.base CX0 k f fdt ps (spD X.K kd gg))(hr:Room k X.A)(hg:Gl X x)(hm:X.mg x=some (.ref f))(hk:PySem.W.keepIn X.K (.ref f)=true)
 (hb:Binds X.K fdt ps []) (hx:zjS CX0 X (λ_ _ _=>False)) (ha:AA X kd (e::es) fr) (hdb:(x==("__debug__":Str))=false) (he:starEach (e::es) X.env=(false,eval e X.env)::starEach es X.env) (hpl:(backTo pos (starEach es X.env)).any (·.1)=false):
 AE X kd (.Call (.Name x p) (e::es) [] pos) (zN fr gg):=by with_unfolding_all exact(wL (zrD F hr hg hm hk hb .nil hx ha hdb he hpl) λσ H Q h=>zun h)
theorem zsJ{id:String}{gg:List D->Option R0}{x:Str}{p:Pos}(hc:CallD X kd (.builtin id) gg)(hg:Gl X x)(hm:X.mg x=none)(hv:bootBuiltins x=some (.builtin id))(ha:AA X kd (e::es) fr)(hn:x≠"__name__")(hdb:(x==("__debug__":Str))=false)
 (he:starEach (e::es) X.env=(false,eval e X.env)::starEach es X.env) (hpl:(backTo pos (starEach es X.env)).any (·.1)=false):AE X kd (.Call (.Name x p) (e::es) [] pos) (fP fr gg):=by with_unfolding_all exact(wL (zkE hc hg hm hv ha hn hdb he hpl) λσ H Q h=>alP (λ_ _ _ z=>z) h)
theorem zui{T:String}{gg:List D->Option R0}{x:Str}{p:Pos}(hc:CallD X kd (.type T) gg)(hg:Gl X x)(hm:X.mg x=none)(hv:bootBuiltins x=some (.type T))(ha:AA X kd (e::es) fr)(hn:x≠"__name__")(hdb:(x==("__debug__":Str))=false)
 (he:starEach (e::es) X.env=(false,eval e X.env)::starEach es X.env) (hpl:(backTo pos (starEach es X.env)).any (·.1)=false):AE X kd (.Call (.Name x p) (e::es) [] pos) (fP fr gg):=by with_unfolding_all exact(wL (znD hc hg hm hv ha hn hdb he hpl) λσ H Q h=>alP (λ_ _ _ z=>z) h)
def vM:MG:=λos es=>match es with | [o]=>if os.length<sizeLine then some (os++[o],.lf true .non)else none|_=>none
def zaI:MG:=λos es=>match es with | [.lf _ (.int i)]=>if -(2 ^ 63)<=i/\i<2 ^ 63 then(seqIndex? i os.length).bind λk=>(os[k]?).bind λo=>some (os.eraseIdx k,o)else none|_=>none
def zns:MG:=λos es=>match es with | [.nd .ls ps]=>if os.length+ps.length<=sizeLine then some (os++ps,.lf true .non)else none|_=>none
theorem zqK{l f fo g:List Addr}(h:l.Nodup)(e:l=f++(fo++g)):((f++g)++fo).Nodup/\∀a ∈ (f++g)++fo,a ∈ l:=by
 subst e
 have p:(f++(fo++g)).Perm ((f++g)++fo):=by
  rw[zxB]
  exact(List.perm_append_comm).append_left f
 exact⟨p.nodup_iff.mp h,λa m=>p.mem_iff.mpr m⟩
theorem Y7:MuD X kd zmT vM:=by
 intro F B G l vs ws os es os' o fp fq H Q hH rl rw' hn e k
 unfold vM at e
 split at e
 · obtain⟨hz,e⟩:=yj e
   cases e
   cases rw' with
   |cons h1 h2=>
    cases h2
    rw[zyC]at hn k
    exact⟨l,vs,_,rfl,rfl,hH,by rw[rl.length];exact hz,k _ _ _ [] (rl.append (RoL.one h1)) (.lf .non) (λa m=>by rwa [zyC]at m) (by rw[zyC];exact hn)⟩
 · cases e
theorem zql:MuD X kd zpW zaI:=by
 intro F B G l vs ws os es os' o fp fq H Q hH rl rw' hn e k
 unfold zaI at e
 split at e
 · rename_i st i
   split at e
   · rename_i hi
     obtain⟨j,hj,e⟩:=bS_ e
     obtain⟨o1,ho,e⟩:=bS_ e
     cases e
     obtain⟨v,f,fo,gg,hv,hf,ro,r1,r2⟩:=rl.at_ ho
     cases rw' with
     |cons h1 h2=>
      cases h2
      cases h1 with
      |lf rp=>
       cases rp
       rw[zyC,zyC]at hn k
       obtain⟨n1,n2⟩:=zqK hn hf
       refine⟨l,vs,i,j,v,rfl,rfl,hH,hi.1,hi.2,by rw[rl.length];exact hj,hv,k v _ (f++gg) fo ?_ ro n2 n1⟩
       rw[zeJ,zeJ]
       exact r1.append r2
   · cases e
 · cases e
theorem zsV:MuD X kd zmF zns:=by
 intro F B G l vs ws os es os' o fp fq H Q hH rl rw' hn e k
 unfold zns at e
 split at e
 · rename_i ps
   obtain⟨hz,e⟩:=yj e
   cases e
   cases rw' with
   |cons h1 h2=>
    cases h2
    cases h1 with
    |ls hb rb=>
     rename_i b zs fz
     rw[zyC]at hn k
     obtain⟨n1,n2,n3⟩:=zxD.mp hn
     obtain⟨n4,n5⟩:=zzU.mp n2
     refine⟨l,b,vs,zs,rfl,rfl,hH,hb,by rw[rl.length,rb.length];exact hz,k .non _ _ [] (rl.append rb) (.lf .non) (λa m=>?_) ?_⟩
     · rw[zyC]at m
       rcases zzK.mp m with m|m
       · exact zzN _ m
       · exact zzJ _ (zzB _ m)
     · rw[zyC]
       exact zxD.mpr ⟨n1,n5,λa m b m'=>n3 a m b (zzB _ m')⟩
 · cases e
theorem Yb{i:Nat}{x:Str}{gg:MG}{r:V->List V->Hp->VK->Prop}{name:Str}{id:String}{apos cpos p:Pos}(hm:MtM X id r)(hr:MuD X kd r gg)(slot:Slot "list" name id)(hty:typeOf (.builtin id)=pure (.type "method_descriptor"))(ho:PE X (.Name x p) (zdK i))(ha:AD X kd (e::es) fd)
 (hbase:attributeBase (.Name x p) name X.env (eval (.Name x p) X.env)=eval (.Name x p) X.env)
 (hfew:((backTo cpos (starEach (e::es) X.env)).all (λx=>!x.1)&&(backToKw cpos (keywordEach [] X.env)).all (λx=>x.1.isSome)
  && decide ((e::es).length+([]:List Keyword).length+(if([]:List Keyword).isEmpty then 0 else 1)<30))=true)
 (hline:(apos.endLine==cpos.line)=true) (hs:starEach (e::es) X.env=(false,eval e X.env)::starEach es X.env) (hplain:(backTo cpos (starEach es X.env)).any (·.1)=false):
 AE X kd (.Call (.Attribute (.Name x p) name apos) (e::es) [] cpos) (vf i fd gg):=by with_unfolding_all exact(wL (zsq PySem.F.plainAttrs_list slot hty hm ho ha hbase hfew hline hs hplain) λσ H Q h=>zvr hr h)
end
inductive Ty where
 |str|lst|dct|int
def Ty.nm:Ty->String
 | .str=>"str" | .lst=>"list" | .dct=>"dict" | .int=>"int"
def zrp:Ty->D->Bool
 | .str,.str _=>true
 | .lst,.lst _=>true
 | .dct,.dct _=>true
 | .int,.int _=>true
 |_,_=>false
def tyS(X:Cx)(T:String)(x:V)(H:Hp):Prop:=∀(pins:List (Addr×Obj)) (σ:St) (s:Shared) (v:Value),Inv X pins σ H s->RelV x v->s.TypeIs v T/\∀a,v = .ref a->∃ob,s.heap.get? a=some ob/\ob.dict=none
def tMD(X:Cx)(T:String)(r:V->List V->Hp->VK->Prop)(to:TE)(t:TA):TE:=λσ H Q=>to σ H λx H1=>tyS X T x H1/\t σ H1 λxs H2=>r x xs H2 Q
section
variable{X:Cx}{kd:KD}{o e:Expr}{es:List Expr}{to:TE}{t:TA}{name:Str}{apos cpos:Pos}{T id:String}{r:V->List V->Hp->VK->Prop}
theorem zuB(pa:PlainAttrs T)(slot:Slot T name id)(hty:typeOf (.builtin id)=pure (.type "method_descriptor"))(hm:MtR X id r)(ho:PE X o to)(ha:PA X (e::es) t)
 (hbase:attributeBase o name X.env (eval o X.env)=eval o X.env)
 (hfew:((backTo cpos (starEach (e::es) X.env)).all (λx=>!x.1)&&(backToKw cpos (keywordEach [] X.env)).all (λx=>x.1.isSome)
  && decide ((e::es).length+([]:List Keyword).length+(if([]:List Keyword).isEmpty then 0 else 1)<30))=true)
 (hline:(apos.endLine==cpos.line)=true) (hs:starEach (e::es) X.env=(false,eval e X.env)::starEach es X.env) (hplain:(backTo cpos (starEach es X.env)).any (·.1)=false):
 PE X (.Call (.Attribute o name apos) (e::es) [] cpos) (tMD X T r to t):=by
 intro pins s σ H Q I h
 refine wpAny_Call_method_late hbase hfew hline rfl (thn (ho pins s σ H _ I h) λv s1 ⟨x,H1,I1,r1,ty,q1⟩=>?_)
 obtain⟨h1,h2⟩:=ty _ _ _ _ I1 r1
 refine⟨T,id,pa,slot,hty,h1,h2, ?_⟩
 have hA:=ha cpos pins s1 σ H1 _ I1 q1
 rw[hs]at hA ⊢
 refine Calls.callWith_builtin (by show(false||(backTo cpos (starEach es X.env)).any (·.1))=false;rw[hplain]<;>rfl) (Calls.evalArgs_plain ?_)
 exact thn hA λus s2 ⟨vs,H2,I2,r2,q2⟩=>hm pins s2 σ H2 x vs v us Q I2 r1 r2 q2
def MtD(X:Cx)(kd:KD)(id:String)(g:D->List D->Option R0):Prop:=
 MtR X id (λx xs H Q=>∃O d ds r,(∀a,O a->H a≠none)/\Vw X.K kd O H x d/\VwL X.K kd O H xs ds/\g d ds=some r/\RQ X.K kd O H Q r)
theorem zvt(hk:KdOk X kd){O:Addr->Prop}{H:Hp}{x:V}{d:D}{ty:Ty}(h:Vw X.K kd O H x d)(e:zrp ty d=true):tyS X ty.nm x H:=by
 intro pins σ s v I rx
 cases h with
 |str z=>
  obtain⟨t,rfl⟩:=rx
  cases ty<;>first|(cases e;done)|exact⟨typeIs_str s z t,λ_ e=>nomatch e⟩
 |int z=>
  obtain⟨t,rfl⟩:=rx
  cases ty<;>first|(cases e;done)|exact⟨typeIs_int s z t,λ_ e=>nomatch e⟩
 |lst hr rl=>
  cases rx
  obtain⟨its,_,pl,_⟩:=I.list hr.sq
  cases ty<;>first|(cases e;done)|skip
  refine⟨pl.isList.typeIs,λa e=>?_⟩
  cases e
  obtain⟨o,n,e,c,hd,_⟩:=pl
  exact⟨o,e,hd⟩
 |dct hr rm=>
  cases rx
  obtain⟨z,hd,vs,rel,dd⟩:=ziz I hk hr
  cases ty<;>first|(cases e;done)|skip
  refine⟨dd.typeIs,λb q=>?_⟩
  cases q
  obtain⟨ob,_,_,h1,h2,_⟩:=dd
  exact⟨ob,h1,h2.2.1⟩
 |non=>cases ty<;>cases e
 |bl=>cases ty<;>cases e
 |tup=>cases ty<;>cases e
 |cl=>cases ty<;>cases e
 |ob=>cases ty<;>cases e
 |dt=>cases ty<;>cases e
def XH(ty:Ty)(fa:EF)(fr:AF)(g:D->List D->Option R0):EF:=λas=>(fa as).bind λp=>(p.1.frz.view p.2).bind λw=>if zrp ty w.1=true then(fr p.2).bind λq=>(p.1.frz.view q.2).bind λx=>(views q.2 q.1).bind λy=>(g x.1 y.1).bind λr=>(wrap (meet x.2 y.2) r).bind λz=>some (z,q.2)else none
theorem ztU(hk:KdOk X kd){ty:Ty}{fa:EF}{fr:AF}{g:D->List D->Option R0}{σ:St}{H:Hp}{Q:VK}(h:al X.K kd (XH ty fa fr g) σ H Q):
 tMD X ty.nm (λx xs H Q=>∃O d ds r,(∀a,O a->H a≠none)/\Vw X.K kd O H x d/\VwL X.K kd O H xs ds/\g d ds=some r/\RQ X.K kd O H Q r) (al X.K kd fa) (alA X.K kd fr) σ H Q:=by
 obtain⟨F,B,ad,as,r,as',R,e,q⟩:=h
 obtain⟨⟨p,as1⟩,h1,e⟩:=bS_ (show(fa as).bind _=_ from e)
 obtain⟨⟨d0,l0⟩,h0,e⟩:=bS_ e
 obtain⟨hty,e⟩:=ite_some' e
 obtain⟨⟨ps,as2⟩,h2,e⟩:=bS_ e
 obtain⟨⟨d,lv⟩,h3,e⟩:=bS_ e
 obtain⟨⟨ds,lv2⟩,h4,e⟩:=bS_ e
 obtain⟨r0,h5,e⟩:=bS_ e
 obtain⟨z,h6,e⟩:=bS_ e
 cases e
 refine zca R h1 λv ad1 H1 R1 rv1 g1=>⟨zvt hk (Z2.vw R1 rv1 h0) hty,F,B,ad1,as1,ps,_,R1,h2,λvs ad2 H2 R2 rv2 g2=>?_⟩
 exact⟨_,d,ds,r0,R2.tr _,(Z2.vw R2 (rv1.grow g2) h3).less Obl.meet1,(zbh R2 rv2 h4).less Obl.meet2,h5,Vb R2 h6 λw T' H' R' rv' g'=>q w T' ad2 H' R' rv' ((g1.trans g2).trans g')⟩
theorem zfA{ty:Ty}{a:Expr}{fa:EF}{fr:AF}{g:D->List D->Option R0}(hk:KdOk X kd)(hm:MtD X kd id g)(pa:PlainAttrs ty.nm)(slot:Slot ty.nm name id)(hty:typeOf (.builtin id)=pure (.type "method_descriptor"))(ho:AE X kd a fa)(ha:AA X kd (e::es) fr)
 (hbase:attributeBase a name X.env (eval a X.env)=eval a X.env)
 (hfew:((backTo cpos (starEach (e::es) X.env)).all (λx=>!x.1)&&(backToKw cpos (keywordEach [] X.env)).all (λx=>x.1.isSome)
  && decide ((e::es).length+([]:List Keyword).length+(if([]:List Keyword).isEmpty then 0 else 1)<30))=true)
 (hline:(apos.endLine==cpos.line)=true) (hs:starEach (e::es) X.env=(false,eval e X.env)::starEach es X.env) (hplain:(backTo cpos (starEach es X.env)).any (·.1)=false):
 AE X kd (.Call (.Attribute a name apos) (e::es) [] cpos) (XH ty fa fr g):=by with_unfolding_all exact(wL (zuB pa slot hty hm ho ha hbase hfew hline hs hplain) λσ H Q h=>ztU hk h)
end
section
variable{K:zC}{kd:KD}{F B G:Addr->Prop}{T:List Addr}{ad:Ad}{as:AS}{σ:St}{H H':Hp}
inductive RPs(K:zC)(kd:KD)(F B G:Addr->Prop)(H:Hp):List (V×V)->List (Key×O)->Prop
 |nil:RPs K kd F B G H [] []
 |cons {k:Key}{v:V}{o:O}{ps:List (V×V)}{kos:List (Key×O)}:RoS K kd F B G H v o []->RPs K kd F B G H ps kos->RPs K kd F B G H ((kV k,v)::ps) ((k,o)::kos)
end
section
variable{X:Cx}{kd:KD}{e a b c o i:Expr}{pos pos':Pos}{fa fb fk fv:EF}
def zhq{κ:Type}[DecidableEq κ](ks:List κ)(k:κ):Bool:=ks.any λx=>decide (x=k)
def znd{κ:Type}[DecidableEq κ](ks:List κ)(k:κ):List κ:=if zhq ks k=true then ks else ks++[k]
def zmz{κ α:Type}[DecidableEq κ](ks:List κ)(os:List α)(k:κ)(o:α):List α:=if zhq ks k=true then(ks.zip os).map (λp=>if p.1=k then o else p.2)else os++[o]
theorem zjZ{κ α:Type}[DecidableEq κ](k:κ):∀(ks:List κ) (vs:List α),ks.length=vs.length->((ks.zip vs).any λkv=>decide (kv.1=k))=zhq ks k
 | [],_,_=>rfl
 |x::r,[],h=>by simp at h
 |x::r,v::vs,h=>by
  show(decide (x=k)||(r.zip vs).any _)=(decide (x=k)||_)
  rw[zjZ k r vs (by simpa using h)]
  rfl
theorem zmt{κ:Type}[DecidableEq κ]{v:V}{k:κ}:∀(ks:List κ) (vs:List V),ks.length=vs.length->(ks.zip vs).map (λkv=>if kv.1=k then(kv.1,v)else kv)=ks.zip ((ks.zip vs).map λp=>if p.1=k then v else p.2)
 | [],_,_=>rfl
 |x::r,[],h=>by simp at h
 |x::r,w::vs,h=>by
  show _::(r.zip vs).map _=(x,_)::r.zip ((r.zip vs).map _)
  rw[zmt r vs (by simpa using h)]
  congr 1
  by_cases e:x=k
  · simp[e]
  · simp[e]
theorem zpp{κ:Type}[DecidableEq κ]{ks:List κ}{vs:List V}{k:κ}{v:V}(h:ks.length=vs.length):putK (ks.zip vs) k v=(znd ks k).zip (zmz ks vs k v):=by
 unfold putK znd zmz
 rw[zjZ k ks vs h]
 split
 · exact zmt ks vs h
 · rw[List.zip_append h]
   rfl
end
abbrev Fn:=List (Bool×D)->Option O
section
variable{P:Program}{w:World}{K:zC}{mg:Str->Option Value}{base:Heap}{kd:KD}
theorem zet{A:Around}{k:Nat}(hr:Room k A):A.units+100<cLine:=by have:=hr.un;omega
def KD1(P:Program)(w:World)(K:zC)(kd:KD):Prop:=∀X:Cx,X.prog=P->X.w=w->X.K=K->KdOk X kd
theorem zad{O:Addr->Prop}{H:Hp}:∀ns:List Int,RpL K kd O H (ns.map V.int) (ns.map D.int)
 | []=>.nil
 |_::r=>.cons (.int _) (zad r)
theorem ztj{H:Hp}{a:Addr}{ns:List Int}{g:Fn}{E:XK}(hg:g [(true,.lst (ns.map D.int))]=some (.lf true (.bl true)))(hS:RdL K H a (ns.map V.int)):spD K kd g [.ref a] H (λv _=>v = .bl true) E:=by
 refine⟨λ_=>False,[(true,.lst (ns.map D.int))],.lf true (.bl true),(λ_ z=>z.elim),.cons ?_ .nil,hg,λv T H' _ _ _ _ ro=>?_⟩
 · rcases hS with h|⟨its,n,k,z,r⟩
   · exact .lst (λz=>z.2) h (zad ns)
   · exact .lstK k z r (zad ns)
 · cases ro with
   |lf rp=>cases rp;rfl
end
namespace Bt
theorem len:bootBuiltins "len"=some (.builtin "len"):=by decide +kernel
theorem max:bootBuiltins "max"=some (.builtin "max"):=by decide +kernel
theorem sorted:bootBuiltins "sorted"=some (.builtin "sorted"):=by decide +kernel
theorem divmod:bootBuiltins "divmod"=some (.builtin "divmod"):=by decide +kernel
theorem int:bootBuiltins "int"=some (.type "int"):=by decide +kernel
theorem list:bootBuiltins "list"=some (.type "list"):=by decide +kernel
theorem tuple:bootBuiltins "tuple"=some (.type "tuple"):=by decide +kernel
theorem dict:bootBuiltins "dict"=some (.type "dict"):=by decide +kernel
theorem n(x:Str)(h:(x==("__name__":Str))=false):x≠"__name__":=λe=>by subst e;simp at h
end Bt
def WD(f:EF)(as:AS)(st:Bool)(d:D):Prop:=f as=some (.ow (.lf st d),as)
def WT(f:TF)(as:AS)(b:Bool):Prop:=f as=some (b,as)
def WA(f:AF)(as:AS)(rs:List (Bool×D)):Prop:=f as=some (rs.map (λx=>.ow (.lf x.1 x.2)),as)
def WO(f:DF)(as:AS)(os:List O):Prop:=f as=some (os,as)
section
variable{as:AS}{f a b:EF}{s t:Bool}{x y z:D}{i j:Int}
theorem zb:WD (fC x) as true x:=rfl
theorem za{i:Nat}(h:as[i]? = some (some (.lf s x))):WD (fV i) as s x:=by unfold WD fV;rw[h]
theorem zsh{g:D->D->Option R0}(ha:WD a as s x)(hb:WD b as t y)(hg:g x y=some (.im z)):WD (f2 a b g) as (yu z||(s&&t)) z:=by
 unfold WD f2 at *
 rw[ha];show((b as).bind _)=_
 rw[hb];show((g x y).bind _)=_
 rw[hg]
 show(if(yu z||(meet (some s) (some t)).isSome)=true then _ else _:Option RV).bind _=_
 rw[if_pos (by unfold meet;simp)]
 rfl
theorem zvo{g:D->D->Option R0}{oa ob:O}(ha:a as=some (.ow oa,as))(hb:b as=some (.ow ob,as))(hg:g oa.toD ob.toD=some (.im z)):WD (f2 a b g) as (yu z||(oa.str&&ob.str)) z:=by
 unfold WD f2 at *
 rw[ha];show((b as).bind _)=_
 rw[hb];show((g oa.toD ob.toD).bind _)=_
 rw[hg]
 show(if(yu z||(meet (some oa.str) (some ob.str)).isSome)=true then _ else _:Option RV).bind _=_
 rw[if_pos (by unfold meet;simp)]
 rfl
theorem zH{g:D->D->Option R0}(ha:WD a as s x)(hb:WD b as t y)(hg:g x y=some (.im z))(e:yu z=true):WD (f2 a b g) as true z:=by
 have:=zsh ha hb hg;rw[e]at this;exact this
theorem xr(ha:WD a as s (.int i))(hb:WD b as t (.int j)):WD (f2 a b (W3 .Add)) as true (.int (i+j)):=zH ha hb rfl rfl
theorem ziZ(ha:WD a as s (.int i))(hb:WD b as t (.int j)):WD (f2 a b (W3 .Sub)) as true (.int (i-j)):=zH ha hb rfl rfl
theorem vK(ha:WD a as s (.int i))(hb:WD b as t (.int j))(h1:i.natAbs<big)(h2:j.natAbs<big):WD (f2 a b (W3 .Mult)) as true (.int (i*j)):=zH ha hb (by show(if _ then _ else _)=_;rw[if_pos ⟨h1,h2⟩]) rfl
theorem v9(ha:WD a as s (.int i))(hb:WD b as t (.int j))(h1:0<j)(h2:j.natAbs<big):WD (f2 a b (W3 .FloorDiv)) as true (.int (i/j)):=zH ha hb (by show(if _ then _ else _)=_;rw[if_pos ⟨h1,h2⟩]) rfl
theorem yg(ha:WD a as s (.int i))(hb:WD b as t (.int j))(h1:0<j):WD (f2 a b (W3 .Mod)) as true (.int (i%j)):=zH ha hb (by show(if _ then _ else _)=_;rw[if_pos h1]) rfl
theorem zsP(ha:WD a as s (.int i))(hb:WD b as t (.int j))(h1:0<=j/\j<=1000000/\i.natAbs<2 ^ 64):WD (f2 a b (W3 .Pow)) as true (.int (i ^ j.toNat)):=zH ha hb (by show(if _ then _ else _)=_;rw[if_pos h1]) rfl
theorem yV{c:Bool}(ha:WD a as s x)(hb:WD b as t y)(h:eqF 60 x y=some c):WD (f2 a b (zY .Eq)) as true (.bl c):=zH ha hb (by show(eqF 60 x y).bind _=_;rw[h];rfl) rfl
theorem zpm{c:Bool}(ha:WD a as s x)(hb:WD b as t y)(h:eqF 60 x y=some c):WD (f2 a b (zY .NotEq)) as true (.bl (!c)):=zH ha hb (by show(eqF 60 x y).bind _=_;rw[h];rfl) rfl
theorem zkQ(ha:WD a as s (.int i))(hb:WD b as t (.int j)):WD (f2 a b (zY .Lt)) as true (.bl (decide (i<j))):=zH ha hb rfl rfl
theorem zdh(ha:WD a as s (.int i))(hb:WD b as t (.int j)):WD (f2 a b (zY .Gt)) as true (.bl (decide (j<i))):=zH ha hb rfl rfl
theorem yc{c:Bool}(h:WD f as s x)(e:truth x=some c):WT (fT f) as c:=by
 unfold WT fT;unfold WD at h
 rw[h];show((truth x).bind _)=_
 rw[e];rfl
theorem zqy{c:TF}{k:Bool}(h:WT c as k):WT (zgy c) as (!k):=by unfold WT zgy at *;rw[h];rfl
theorem Vv{c e:TF}{k l:Bool}(h:WT c as k)(h2:k=true->WT e as l)(h3:k=false->l=false):WT (zbm c e) as l:=by
 unfold WT zbm at *;rw[h]
 cases k with
 |true=>exact h2 rfl
 |false=>rw[h3 rfl];rfl
theorem zlk{c e:TF}{k l:Bool}(h:WT c as k)(h2:k=false->WT e as l)(h3:k=true->l=true):WT (zgR c e) as l:=by
 unfold WT zgR at *;rw[h]
 cases k with
 |false=>exact h2 rfl
 |true=>rw[h3 rfl];rfl
theorem ztA{k l:Bool}(h:WD a as s (.bl k))(h2:k=true->WD b as true (.bl l))(h3:k=false->l=false):WD (zsa a b) as true (.bl l):=by
 unfold WD zsa at *;rw[h]
 cases k with
 |true=>exact h2 rfl
 |false=>rw[h3 rfl];rfl
theorem zR:WA aN as []:=rfl
theorem zx{fr:AF}{rs:List (Bool×D)}(ha:WD a as s x)(hr:WA fr as rs):WA (aC a fr) as ((s,x)::rs):=by
 unfold WA aC at *;unfold WD at ha
 rw[ha];show((fr as).bind _)=_
 rw[hr];rfl
theorem zdT:∀rs:List (Bool×D),zcu as (rs.map (λx=>.ow (.lf x.1 x.2)))=some (rs.map λx=>(yu x.2||x.1,x.2))
 | []=>rfl
 |r::rs=>by
  show(zqp as (.ow (.lf r.1 r.2))).bind _=_
  show(zcu as (rs.map _)).bind _=_
  rw[zdT rs];rfl
theorem WN:∀rs:List (Bool×D),views as (rs.map (λx=>.ow (.lf x.1 x.2)))=some (rs.map (·.2),some (rs.all (·.1)))
 | []=>rfl
 |r::rs=>by
  show(views as (rs.map _)).bind _=_
  rw[WN rs];rfl
theorem Z7{fr:AF}{rs:List (Bool×D)}{g:List (Bool×D)->Option O}(ha:WA fr as rs)(hg:g (rs.map λx=>(yu x.2||x.1,x.2))=some (.lf s x)):WD (zN fr g) as s x:=by
 unfold WD zN;unfold WA at ha
 rw[ha];show(zcu as _).bind _=_
 rw[zdT];show(g _).bind _=_
 rw[hg];rfl
theorem Wh{fr:AF}{rs:List (Bool×D)}{o:O}{g:List (Bool×D)->Option O}(ha:WA fr as rs)(hg:g (rs.map λx=>(yu x.2||x.1,x.2))=some o):zN fr g as=some (.ow o,as):=by
 unfold zN;unfold WA at ha
 rw[ha];show(zcu as _).bind _=_
 rw[zdT];show(g _).bind _=_
 rw[hg];rfl
theorem zmN{fr:AF}{rs:List (Bool×D)}{g:List D->Option R0}(ha:WA fr as rs)(hg:g (rs.map (·.2))=some (.im x)):WD (fP fr g) as (yu x||rs.all (·.1)) x:=by
 unfold WD fP;unfold WA at ha
 rw[ha];show(views as _).bind _=_
 rw[WN];show(g _).bind _=_
 rw[hg]
 show(if(yu x||(some (rs.all (·.1))).isSome)=true then _ else _:Option RV).bind _=_
 rw[if_pos (by simp)];rfl
theorem wU{fr:AF}{rs:List (Bool×D)}{g:List D->Option R0}(ha:WA fr as rs)(hg:g (rs.map (·.2))=some (.im x))(e:yu x=true):WD (fP fr g) as true x:=by
 have:=zmN ha hg;rw[e]at this;exact this
theorem ym:WO dN as []:=rfl
theorem zp{fr:DF}{os:List O}(ha:WD a as s x)(hr:WO fr as os):WO (dC a fr) as (.lf s x::os):=by
 unfold WO dC at *;unfold WD at ha
 rw[ha];show((fr as).bind _)=_
 rw[hr];rfl
theorem Zx{fr:DF}{os:List O}(h:WO fr as os)(hl:os.length<=sizeLine):xU fr as=some (.ow (.nd .ls os),as):=by
 unfold xU;unfold WO at h
 rw[h];show(if os.length<=sizeLine then _ else _)=_
 rw[if_pos hl]
theorem yC{f g:SF}{as1:AS}{o:Option Out}(h1:f as=some (.nx as1))(h2:g as1=o):zB f g as=o:=by unfold zB;rw[h1];exact h2
theorem zcN{f g:SF}{o:O}(h1:f as=some (.rt o)):zB f g as=some (.rt o):=by unfold zB;rw[h1];rfl
theorem Yh{c:TF}{f g:SF}{o:Option Out}(h:WT c as true)(h1:f as=o):sIf c f g as=o:=by unfold sIf;unfold WT at h;rw[h];exact h1
theorem yw{c:TF}{f g:SF}{o:Option Out}(h:WT c as false)(h1:g as=o):sIf c f g as=o:=by unfold sIf;unfold WT at h;rw[h];exact h1
theorem yz{i:Nat}{st:Bool}(h:WD f as s x)(hi:i<as.length):zO st i f as=some (.nx (as.set i (some (.lf s x)))):=by
 unfold zO;unfold WD at h
 rw[h]
 cases st<;>exact if_pos hi
theorem wY{i:Nat}{o:O}(h:f as=some (.ow o,as))(hi:i<as.length):zO false i f as=some (.nx (as.set i (some o))):=by
 unfold zO
 rw[h]
 exact if_pos hi
theorem zrs{i:Nat}{o:O}(h:f as=some (.ow o,as))(hi:i<as.length):zO true i f as=some (.nx (as.set i (some o.frz))):=by
 unfold zO
 rw[h]
 exact if_pos hi
theorem zcd(h:WD f as true x):yE f as=some (.rt (.lf true x)):=by unfold yE;unfold WD at h;rw[h];rfl
theorem zbC{n m:Nat}{c:SF}{ds:List (Bool×D)}{o:O}(hl:ds.length=m)(h:c (W8 n ds)=some (.rt o)):fnR n m c ds=some o:=by unfold fnR;rw[if_pos hl,h];rfl
theorem vD{g:GF}{f:SF}(I:Nat->AS->Prop):∀(xs:List It1) (k:Nat) (as:AS),(∀i x as,xs[i]? = some x->I (k+i) as->∃as1,g x as=some as1/\∃as2,f as1=some (.nx as2)/\I (k+i+1) as2)->I k as->∃as',forL g f xs as=some (.nx as')/\I (k+xs.length) as'
 | [],k,as,_,h=>⟨as,rfl,h⟩
 |x::r,k,as,st,h=>by
  obtain⟨as1,h1,as2,h2,h3⟩:=st 0 x as rfl h
  obtain⟨as',h4,h5⟩:=vD I r (k+1) as2 (λi y as e q=>by
   obtain⟨u,k1,v,k2,k3⟩:=st (i+1) y as e (by rw[show k+(i+1)=k+1+i by omega];exact q)
   exact⟨u,k1,v,k2,by rw[show k+1+i+1=k+(i+1)+1 by omega];exact k3⟩) h3
  refine⟨as', ?_,by rw[zzR,show k+(r.length+1)=k+1+r.length by omega];exact h5⟩
  show(g x as).bind _=_
  rw[h1];show(f as1).bind _=_
  rw[h2];exact h4
theorem wV{fi:IF}{g:GF}{f:SF}{xs:List It1}{as':AS}{o:Option Out}(h:fi as=some (xs,as'))(h2:forL g f xs as'=o):vd fi g f as=o:=by unfold vd;rw[h];exact h2
theorem ZF{lo:Int}{n i:Nat}{x:It1}(h:(vN lo n)[i]? = some x):x=(true,.int (lo+i))/\i<n:=by
 unfold vN at h
 rw[zzG]at h
 cases e:(List.range n)[i]? with
 |none=>rw[e]at h;cases h
 |some k=>
  rw[e]at h
  obtain⟨h1,h2⟩:=zzE.mp e
  rw[zyS]at h1
  rw[List.getElem_range]at h2
  subst h2
  exact⟨(zzX h).symm,h1⟩
theorem wZ{fr:AF}{j:Int}{u:Bool}(h:WA fr as [(u,.int j)])(h0:0<=j)(h1:j<1000000):yJ fr yK as=some (vN 0 j.toNat,as):=by
 unfold yJ;unfold WA at h
 rw[h]
 simp only[zyJ,WN]
 show((if -(2 ^ 62)<=j/\j<2 ^ 62 then some (vN 0 j.toNat)else none).bind _)=_
 rw[if_pos ⟨by omega,by omega⟩];rfl
theorem zor{fr:AF}{rs:List (Bool×D)}{o:O}(ha:a as=some (.ow o,as))(hr:WA fr as rs):WA (aC a fr) as ((o.str,o.toD)::rs):=by
 unfold WA aC at *
 rw[ha];show((fr as).bind _)=_
 rw[hr];rfl
theorem zfw{i:Nat}{o:O}(h:as[i]? = some (some o)):RV.view as (.bo i)=some (o.toD,o.kl):=by simp only[RV.view,h]
theorem zot{i:Nat}{o:O}(h:as[i]? = some (some o)):toO as (.bo i)=some (o.frz,as.set i (some o.frz)):=by simp only[toO,h]
theorem zrn{i:Nat}{o:O}(h:as[i]? = some (some o))(hs:o.str=true):zpD as (.bo i)=some o:=by simp only[zpD,h,hs,if_true]
theorem zgS{i:Nat}{k:Kind}{os:List O}(h:as[i]? = some (some (.nd k os))):fV i as=some (.bo i,as):=by unfold fV;rw[h]
theorem zwU{i:Nat}{os:List O}(h:as[i]? = some (some (.nd .ls os))):WD (fP (aC (fV i) aN) Zr) as true (.int os.length):=by
 have e:views as [.bo i]=some ([.lst (O.toDs os)],meet (O.nd .ls os).kl (some true)):=by
  show(RV.view as (.bo i)).bind _=_
  rw[zfw h];rfl
 unfold WD fP aC
 rw[zgS h]
 simp only[zyJ,aN,RV.frz,e]
 rw[show Zr [.lst (O.toDs os)]=some (.im (.int os.length)) by show some (R0.im (.int ((O.toDs os).length:Nat)))=_;rw[zaE]]
 rfl
theorem Yk{g:GF}{f:SF}{d:It1}{r:List It1}{as1 as2:AS}{o:Option Out}(h1:g d as=some as1)(h2:f as1=some (.nx as2))(h3:forL g f r as2=o):forL g f (d::r) as=o:=by
 show(g d as).bind _=_
 rw[h1];show(f as1).bind _=_
 rw[h2];exact h3
theorem zkl{g:GF}{f:SF}{d:It1}{r:List It1}{as1:AS}{o:O}(h1:g d as=some as1)(h2:f as1=some (.rt o)):forL g f (d::r) as=some (.rt o):=by
 show(g d as).bind _=_
 rw[h1];show(f as1).bind _=_
 rw[h2];rfl
theorem zub{i:Nat}{os:List O}(h:as[i]? = some (some (.nd .ls os)))(hl:os.length<sizeLine)(ha:WD a as s x):xx (vf i (dC a dN) vM) as=some (.nx (as.set i (some (.nd .ls (os++[.lf s x]))))):=by
 unfold xx vf;rw[h]
 have e:dC a dN as=some ([.lf s x],as):=zp ha ym
 show((dC a dN as).bind _).bind _=_
 rw[e];show(Option.bind (match as[i]? with|some (some (.nd .ls os))=>_|_=>none) _)=_
 rw[h];show((vM os [.lf s x]).bind _).bind _=_
 have e2:vM os [.lf s x]=some (os++[.lf s x],.lf true .non):=by unfold vM;exact if_pos hl
 rw[e2];rfl
theorem zpH{i:Nat}{os:List O}{k:Int}{o:O}(h:as[i]? = some (some (.nd .ls os)))(ha:WD a as s (.int k))(h0:0<=k)(h1:k<os.length)(hs:os.length<2 ^ 60)(ho:os[k.toNat]? = some o):vf i (dC a dN) zaI as=some (.ow o,as.set i (some (.nd .ls (os.eraseIdx k.toNat)))):=by
 unfold vf;rw[h]
 have e:dC a dN as=some ([.lf s (.int k)],as):=zp ha ym
 show((dC a dN as).bind _)=_
 rw[e];show(match as[i]? with|some (some (.nd .ls os))=>_|_=>none)=_
 rw[h];show((zaI os [.lf s (.int k)]).bind _)=_
 have e2:zaI os [.lf s (.int k)]=some (os.eraseIdx k.toNat,o):=by
  unfold zaI
  show(if -(2 ^ 63)<=k/\k<2 ^ 63 then _ else _)=_
  rw[if_pos ⟨by omega,by omega⟩]
  have e3:seqIndex? k os.length=some k.toNat:=by unfold seqIndex?;simp;omega
  rw[e3];show((os[k.toNat]?).bind _)=_
  rw[ho];rfl
 rw[e2];rfl
theorem zte{g:GF}{o:O}{as':AS}(h:f as=some (.ow o,as))(hg:g (o.str,o.toD) as=some as'):zbk f g as=some (.nx as'):=by
 unfold zbk;rw[h]
 show(g (o.str,o.toD) as).bind _=_
 rw[hg];rfl
theorem zmV{i:Nat}{o:O}(h:as[i]? = some (some o))(hs:o.str=true):yE (fV i) as=some (.rt o):=by
 cases o with
 |lf st d=>unfold yE fV;rw[h];have:st=true:=hs;subst this;rfl
 |nd k os=>
  unfold yE;rw[zgS h];show(zpD as (.bo i)).bind _=_
  rw[zrn h hs];rfl
theorem zei{fr:DF}{os:List O}(h:WO fr as os)(hl:os.length<=sizeLine)(ha:os.all O.isLf=true):WD (yL fr) as (O.strs os) (.tup (O.toDs os)):=by
 unfold WD yL;unfold WO at h
 rw[h];show(if os.length<=sizeLine then some (RV.ow (WP os),as)else _)=_
 rw[if_pos hl];unfold WP;rw[if_pos ha]
theorem ztz{g:D->D->Option R0}{oa ob:O}{zs:List D}{as1 as2:AS}(ha:a as=some (.ow oa,as1))(hb:b as1=some (.ow ob,as2))(hg:g oa.toD ob.toD=some (.fl zs)):f2 a b g as=some (.ow (.nd .ls (zs.map (lfs (oa.str&&ob.str)))),as2):=by
 unfold f2
 rw[ha];show((b as1).bind _)=_
 rw[hb];show((g oa.toD ob.toD).bind _)=_
 rw[hg]
 show(if(zs.all yu||(meet (some oa.str) (some ob.str)).isSome)=true then _ else _:Option RV).bind _=_
 rw[if_pos (by unfold meet;simp)]
 rfl
theorem yM{g:D->D->Option R0}(ha:WD a as true x)(hb:WD b as true y)(hg:g x y=some (.im z)):WD (f2 a b g) as true z:=by
 have:=zsh ha hb hg
 rw[show(yu z||(true&&true))=true by simp]at this
 exact this
theorem Vs:∀zs:List D,zs.map (lfs true)=zs.map (O.lf true)
 | []=>rfl
 |z::r=>by
  show lfs true z::r.map (lfs true)=_
  rw[Vs r];unfold lfs;rw[zyB];rfl
theorem zrb{g:D->D->Option R0}{oa ob:O}{zs:List D}{as1 as2:AS}(ha:a as=some (.ow oa,as1))(hb:b as1=some (.ow ob,as2))(hg:g oa.toD ob.toD=some (.fl zs))(h1:oa.str=true)(h2:ob.str=true):f2 a b g as=some (.ow (.nd .ls (zs.map (O.lf true))),as2):=by
 have:=ztz ha hb hg
 rw[h1,h2,show(true&&true)=true from rfl,Vs]at this
 exact this
theorem xT{fr:DF}{o:O}{os:List O}{as1 as2:AS}(ha:a as=some (.ow o,as1))(hr:fr as1=some (os,as2)):dC a fr as=some (o::os,as2):=by
 unfold dC
 rw[ha];show((fr as1).bind _)=_
 rw[hr];rfl
theorem add_lists{xs ys:List D}(h:xs.length+ys.length<=sizeLine):W3 .Add (.lst xs) (.lst ys)=some (.fl (xs++ys)):=if_pos h
theorem zdP(lo:Int)(n:Nat):vN lo (n+1)=(true,.int lo)::vN (lo+1) n:=by
 unfold vN
 rw[List.range_succ_eq_map,zyQ,zzZ]
 congr 1
 · simp
 · apply List.map_congr_left
   intro i _
   show(true,D.int _)=(true,D.int _)
   congr 2
   show lo+((i+1:Nat):Int)=_
   omega
theorem zla{fr:AF}{rs:List (Bool×D)}{g:List D->Option R0}(ha:WA fr as rs)(hg:g (rs.map (·.2))=some (.im x))(e:rs.all (·.1)=true):WD (fP fr g) as true x:=by
 have:=zmN ha hg;rw[e,zyB]at this;exact this
theorem zfu{ty:Ty}{fr:AF}{rs:List (Bool×D)}{g:D->List D->Option R0}(ha:WD a as s y)(ht:zrp ty y=true)(hr:WA fr as rs)(hg:g y (rs.map (·.2))=some (.im x))(e:yu x=true):WD (XH ty a fr g) as true x:=by
 unfold WD XH;unfold WD at ha;unfold WA at hr
 rw[ha]
 show(if zrp ty y=true then _ else _:Option (RV×AS))=_
 rw[if_pos ht,hr]
 simp only[zyJ,WN]
 show((g y (rs.map (·.2))).bind _)=_
 rw[hg]
 show(if(yu x||_)=true then _ else _:Option RV).bind _=_
 rw[if_pos (by rw[e];rfl)]
 show some (RV.ow (.lf (yu x||_) x),as)=_
 rw[e];rfl
theorem zqg{fl fh:OF}{lo hi:Option Int}{g:D->Option Int->Option Int->Option R0}(ha:WD a as s y)(hl:fl as=some (lo,as))(hh:fh as=some (hi,as))(hg:g y lo hi=some (.im x)):WD (fSl a fl fh g) as (yu x||s) x:=by
 unfold WD fSl;unfold WD at ha
 rw[ha];show((fl as).bind _)=_
 rw[hl];show((fh as).bind _)=_
 rw[hh];show((g y lo hi).bind _)=_
 rw[hg]
 show(if(yu x||(some s).isSome)=true then _ else _:Option RV).bind _=_
 rw[if_pos (by simp)];rfl
theorem znn{g:GF}{fe:EF}{as0 as1:AS}{y:It1}{r:List It1}{os:List O}(h1:g y as0=some as1)(h2:WD fe as1 true x)(h3:wD g yf fe as0 r=some os):wD g yf fe as0 (y::r)=some (.lf true x::os):=by
 show(g y as0).bind _=_
 rw[h1];show(fe as1).bind _=_
 unfold WD at h2
 rw[h2];show(wD g yf fe as0 r).bind _=_
 rw[h3];rfl
theorem Wj{fi:IF}{cap:List (Option Nat)}{g:GF}{tt:TF}{fe:EF}{xs:List It1}{os:List O}(h1:fi as=some (xs,as))(hl:xs.length<=sizeLine)(h2:wD g tt fe (ZQ cap as) xs=some os):zL fi cap g tt fe as=some (.ow (.nd .ls os),as):=by
 unfold zL
 rw[h1];show(if xs.length<=sizeLine then _ else _)=_
 rw[if_pos hl];show(wD g tt fe (ZQ cap as) xs).bind _=_
 rw[h2];rfl
end
theorem szl{n:Nat}(h:Nat.ble n 1000=true):n<=sizeLine:=Nat.le_of_lt (ZW (Nat.le_of_ble_eq_true h))
theorem zy{a b:Nat}(h:Nat.ble (a+1) b=true):a<b:=Nat.le_of_ble_eq_true h
theorem ye{i:Int}(h0 : -(10 ^ 200)<i)(h1:i<10 ^ 200):i.natAbs<big:=by
 have:(10:Nat) ^ 200<big:=by unfold big;decide +kernel
 have e:((10 ^ 200:Nat):Int)=(10:Int) ^ 200:=by norm_cast
 have:(i.natAbs:Int)<((10 ^ 200:Nat):Int):=by rw[e];omega
 omega
theorem zqF{ns:List Int}{k:Int}(h0:0<=k)(h1:k<ns.length):∃x,ixP (.lst (ns.map D.int)) (.int k)=some (.im (.int x)):=by
 have hk:k.toNat<ns.length:=by omega
 refine⟨ns[k.toNat], ?_⟩
 have h:=Xj (xs:=ns.map D.int) (j:=k.toNat) (v:=D.int ns[k.toNat]) (by rw[zzG,zzC hk];rfl)
 rw[show((k.toNat:Nat):Int)=k by omega]at h
 show imR (atI _ _)=_
 rw[h];rfl
section
variable{X:Cx}{kd:KD}{K:zC}{mg:Str->Option Value}
def spL(K:zC)(g:Fn):Sp:=λvs H Q E=>∀kd:KD,spD K kd g vs H Q E
end
def lfO:O->Option (Bool×D)
 | .lf s d=>some (s,d)
 |_=>none
theorem zpV{o:O}{p:Bool×D}(h:lfO o=some p):o = .lf p.1 p.2:=by
 cases o with
 |lf s d=>cases h;rfl
 |nd k os=>cases h
def zoI(i j:Nat)(fd:DF):SF:=λas=>(fd as).bind λp=>(zrw p.1).bind λo=>(lfO o.1).bind λa=>(lfO o.2).bind λb=>if i<p.2.length/\j<p.2.length then some (.nx ((p.2.set i (some (.lf a.1 a.2))).set j (some (.lf b.1 b.2))))else none
section
variable{X:Cx}{kd:KD}{a b:Expr}{fd:DF}{pos:Pos}
theorem zty{i j:Nat}{x y:Str}{px py pt:Pos}{kt k2 pt2}(hc:X.calm=true)(hN:X.N.Nodup)(hi:X.N[i]? = some x)(hj:X.N[j]? = some y)(hij:i≠j)
 (hx:X.env.scope.names.lookup x=some .local) (hy:X.env.scope.names.lookup y=some .local) (ha:AD X kd [a,b] fd)
 (hw:swappedStores [.Tuple [.Name x px,.Name y py] kt pt] (.Tuple [a,b] k2 pt2) X.env=pure (some [x,y]))
 (hs:swapsWithSole [.Tuple [.Name x px,.Name y py] kt pt] (.Tuple [a,b] k2 pt2) pos.line X.env=pure false):
 ASt X kd (.Assign [.Tuple [.Name x px,.Name y py] kt pt] (.Tuple [a,b] k2 pt2) pos) (zoI i j fd):=by with_unfolding_all exact(YJ (ztR hc hN hi hj hij hx hy ha hw hs) λD σ H h=>by
 obtain⟨F,B,ad,as,o,R,e,q⟩:=h
 obtain⟨⟨os,as1⟩,h1,e⟩:=bS_ (show(fd as).bind _=_ from e)
 obtain⟨⟨o1,o2⟩,e1,e⟩:=bS_ e
 obtain⟨⟨s1,d1⟩,e2,e⟩:=bS_ e
 obtain⟨⟨s2,d2⟩,e3,e⟩:=bS_ e
 cases zka e1
 cases zpV e2
 cases zpV e3
 · obtain⟨⟨l1,l2⟩,e⟩:=yj e
   cases e
   refine⟨F,B,ad,as,_,as1,R,h1,λvs T' ad' H' R' rl g=>?_⟩
   cases rl with
   |cons ra rb=>
    cases rb with
    |cons rb rn=>
     cases rn
     cases ra with
     |lf ra=>
      cases rb with
      |lf rb=>
       refine⟨_,_,rfl, ?_⟩
       have R2:=R'.put (T:=[]) (i:=i) (o:=.lf s1 d1) l1 (.lf ra)
       have R3:=R2.put (T:=[]) (i:=j) (o:=.lf s2 d2) (by rw[zzS];exact l2) (RoS.less Zq (.lf rb))
       exact q _ _ _ R3 (g.trans (Grow.less λa z=>Zq a (Zq a z))))
end
inductive Ents(w:World):List DictEntry->List (Key×V)->Prop
 |nil:Ents w [] []
 |str {x:Str}{t:Tok}{v:V}{u:Value}{r:List DictEntry}{s:List (Key×V)}:RelV v u->Ents w r s->Ents w (⟨PyData.keyHash w.params x,.str x t,u⟩::r) ((.inr x,v)::s)
theorem Ents.keys{P:Program}{w:World}:∀{es:List DictEntry}{kvs:List (Key×V)},Ents w es kvs->∀e ∈ es,∃k,(wB P w).is k e.key=true/\e.hash=(wB P w).hash k
 |_,_,.nil,_,m=>nomatch m
 |_,_,.str (x:=x) (t:=t) _ r,e,m=>by
  rcases zzA.mp m with rfl|m
  · exact⟨.inr x,zap P w x t,rfl⟩
  · exact r.keys e m
theorem Ents.pairs{P:Program}{w:World}:∀{es:List DictEntry}{kvs:List (Key×V)},Ents w es kvs->∃vs,KV kvs vs/\Pairs (wB P w) es vs/\vs.map (·.1)=kvs.map (·.1)
 |_,_,.nil=>⟨[],.nil,.nil,rfl⟩
 |_,_,.str (x:=x) (t:=t) (u:=u) h r=>by
  obtain⟨vs,h1,h2,h3⟩:=r.pairs (P:=P)
  exact⟨(.inr x,u)::vs,.cons ⟨rfl,h⟩ h1,.cons (zap P w x t) rfl h2,by rw[zyQ,zyQ,h3]⟩
structure DctAt(w:World)(K:zC)(a:Addr)(kvs:List (Key×V)):Prop where
 ex:∃es ep,K.lookup a=some {cls:=.type "dict",data:=.dict es ep}/\Ents w es.toList kvs
 nd:(kvs.map (·.1)).Nodup
 le:kvs.length<=sizeLine
 ns:(a==sysModules)=false
def kdL(l:List (Addr×List (Key×V)))(c:Str->Addr:=λ_=>0):KD:=⟨λa k=>l.lookup a=some k,c⟩
theorem lookup_mem{l:List (Addr×List (Key×V))}{a:Addr}{k:List (Key×V)}(h:l.lookup a=some k):(a,k) ∈ l:=by
 induction l with
 |nil=>cases h
 |cons p r ih=>
  rw[List.lookup_cons]at h
  by_cases e:a=p.1
  · subst e
    rw[beq_self_eq_true]at h
    cases h
    exact zzD
  · rw[show(a==p.1)=false from beq_eq_false_iff_ne.mpr e]at h
    exact zzB _ (ih h)
theorem ztW{P:Program}{w:World}{K:zC}{l:List (Addr×List (Key×V))}{c:Str->Addr}(h:∀p ∈ l,DctAt w K p.1 p.2):KD1 P w K (kdL l c):=λX e1 e2 e3=>by
 subst e1;subst e2;subst e3
 refine⟨λa k k' h1 h2=>zzX (h1.symm.trans h2),λa k h1=>?_,λa k hp h1 hin=>?_⟩
 · obtain⟨es,ep,e,_⟩:=(h _ (lookup_mem h1)).ex
   exact⟨_,e⟩
 · have q:=h _ (lookup_mem h1)
   obtain⟨es,ep,e,en⟩:=q.ex
   obtain⟨vs,h2,h3,h4⟩:=en.pairs (P:=X.prog)
   refine⟨q.le,q.ns,vs,h2,_,es,ep,hin _ _ e,⟨rfl,rfl,rfl⟩,rfl,λx m=>en.keys x (by simpa using m),h3,by rw[h4];exact q.nd⟩
def isStar:Expr->Bool
 | .Starred .. => true
 |_=>false
theorem zig{a:Expr}{es:List Expr}{env:Env}(h:isStar a=false):starEach (a::es) env=(false,eval a env)::starEach es env:=by
 cases a<;>first|rfl|cases h
section
variable{as:AS}{f a b c:EF}{s t u:Bool}{x y z:D}{i j k:Int}
theorem zhY{fl fh:OF}{lo hi:Option Int}{g:D->Option Int->Option Int->Option R0}(ha:WD a as true y)(hl:fl as=some (lo,as))(hh:fh as=some (hi,as))(hg:g y lo hi=some (.im x)):WD (fSl a fl fh g) as true x:=by
 have:=zqg ha hl hh hg;rw[zyB]at this;exact this
theorem zoJ{cc:TF}{g:SF}{n:Nat}{as1:AS}{o:Option Out}(h:WT cc as true)(h1:g as=some (.nx as1))(h2:whL cc g n as1=o):whL cc g (n+1) as=o:=by
 unfold WT at h
 show(cc as).bind _=_
 rw[h];show(g as).bind _=_
 rw[h1];exact h2
theorem zlt{cc:TF}{g:SF}{n:Nat}(h:WT cc as false):whL cc g (n+1) as=some (.nx as):=by
 unfold WT at h
 show(cc as).bind _=_
 rw[h];rfl
theorem ztT{p q:Nat}{fd:DF}(h:WO fd as [.lf s x,.lf t y])(hi:p<as.length)(hj:q<as.length):zoI p q fd as=some (.nx ((as.set p (some (.lf s x))).set q (some (.lf t y)))):=by
 unfold zoI;unfold WO at h
 rw[h];show(if _ then _ else _)=_
 rw[if_pos ⟨hi,hj⟩]
theorem zil{g:GF}{tt:TF}{fe:EF}{as0 as1:AS}{w:It1}{r:List It1}{o:Option (List O)}(h1:g w as0=some as1)(h2:WT tt as1 false)(h3:wD g tt fe as0 r=o):wD g tt fe as0 (w::r)=o:=by
 unfold WT at h2
 show(g w as0).bind _=_
 rw[h1];show(tt as1).bind _=_
 rw[h2];exact h3
theorem znQ{g:GF}{tt:TF}{fe:EF}{as0 as1:AS}{w:It1}{r:List It1}{os:List O}(h1:g w as0=some as1)(h2:WT tt as1 true)(h3:WD fe as1 true x)(h4:wD g tt fe as0 r=some os):wD g tt fe as0 (w::r)=some (.lf true x::os):=by
 unfold WT at h2;unfold WD at h3
 show(g w as0).bind _=_
 rw[h1];show(tt as1).bind _=_
 rw[h2];show(fe as1).bind _=_
 rw[h3];show(wD g tt fe as0 r).bind _=_
 rw[h4];rfl
def WE(f:EF)(as:AS)(x:D):Prop:=∃o,f as=some (.ow o,as)/\o.str=true/\o.toD=x
def RE(r:Option O)(x:D):Prop:=∃o,r=some o/\o.str=true/\o.toD=x
theorem WD.e(h:WD f as true x):WE f as x:=⟨_,h,rfl,rfl⟩
theorem vU{fr:DF}{os:List O}(h:WO fr as os)(hl:os.length<=sizeLine)(hs:O.strs os=true)(e:D.lst (O.toDs os)=x):WE (xU fr) as x:=⟨_,Zx h hl,hs,e⟩
theorem XJ{fr:AF}{rs:List (Bool×D)}(h:WE a as x)(hr:WA fr as rs):WA (aC a fr) as ((true,x)::rs):=by
 obtain⟨o,h1,h2,rfl⟩:=h
 have:=zor h1 hr
 rw[h2]at this
 exact this
theorem Xq{g:List (Bool×D)->Option O}(ha:WE a as x)(hg:RE (g [(true,x)]) z):WE (zN (aC a aN) g) as z:=by
 obtain⟨o,h1,h2,h3⟩:=hg
 exact⟨o,Wh (XJ ha zR) (by show g [(yu x||true,x)]=_;rw[zyB];exact h1),h2,h3⟩
theorem Y6{g:List (Bool×D)->Option O}(ha:WE a as x)(hb:WE b as y)(hg:RE (g [(true,x),(true,y)]) z):WE (zN (aC a (aC b aN)) g) as z:=by
 obtain⟨o,h1,h2,h3⟩:=hg
 exact⟨o,Wh (XJ ha (XJ hb zR)) (by show g [(yu x||true,x),(yu y||true,y)]=_;rw[zyB,zyB];exact h1),h2,h3⟩
theorem YM{w:D}{g:List (Bool×D)->Option O}(ha:WE a as x)(hb:WE b as y)(hc:WE c as w)(hg:RE (g [(true,x),(true,y),(true,w)]) z):WE (zN (aC a (aC b (aC c aN))) g) as z:=by
 obtain⟨o,h1,h2,h3⟩:=hg
 exact⟨o,Wh (XJ ha (XJ hb (XJ hc zR))) (by show g [(yu x||true,x),(yu y||true,y),(yu w||true,w)]=_;rw[zyB,zyB,zyB];exact h1),h2,h3⟩
theorem zow{g:List (Bool×D)->Option O}(ha:WE a as x)(hb:WE b as y)(hg:g [(true,x),(true,y)]=some (.lf s z)):WD (zN (aC a (aC b aN)) g) as s z:=Wh (XJ ha (XJ hb zR)) (by show g [(yu x||true,x),(yu y||true,y)]=_;rw[zyB,zyB];exact hg)
theorem f2E{g:D->D->Option R0}(ha:WE a as x)(hb:WE b as y)(hg:g x y=some (.im z)):WD (f2 a b g) as true z:=by
 obtain⟨o,h1,h2,rfl⟩:=ha
 obtain⟨p,h3,h4,rfl⟩:=hb
 have:=zvo h1 h3 hg
 rw[h2,h4,Bool.and_true,zyB]at this
 exact this
theorem f2L{g:D->D->Option R0}{zs:List D}(ha:WE a as x)(hb:WE b as y)(hg:g x y=some (.fl zs)):f2 a b g as=some (.ow (.nd .ls (zs.map (O.lf true))),as):=by
 obtain⟨o,h1,h2,rfl⟩:=ha
 obtain⟨p,h3,h4,rfl⟩:=hb
 exact zrb h1 h3 hg h2 h4
theorem zhu:∀zs:List D,O.strs (zs.map (O.lf true))=true
 | []=>rfl
 |_::r=>zhu r
theorem zgu:∀zs:List D,O.toDs (zs.map (O.lf true))=zs
 | []=>rfl
 |z::r=>congrArg (z :: ·) (zgu r)
theorem zpS{g:D->D->Option R0}{zs:List D}(ha:WE a as x)(hb:WE b as y)(hg:g x y=some (.fl zs)):WE (f2 a b g) as (.lst zs):=⟨_,f2L ha hb hg,zhu zs,congrArg D.lst (zgu zs)⟩
theorem vH{p:Nat}(h:WE f as x)(hi:p<as.length):zO true p f as=some (.nx (as.set p (some (.lf true x)))):=by
 obtain⟨o,h1,h2,rfl⟩:=h
 have:=zrs h1 hi
 rw[show o.frz = .lf true o.toD by unfold O.frz;rw[h2]]at this
 exact this
theorem zjQ{q:Bool}(ha:WE a as x)(hb:WE b as y)(h:eqF 60 x y=some q):WD (f2 a b (zY .Eq)) as true (.bl q):=f2E ha hb (by show(eqF 60 x y).bind _=_;rw[h];rfl)
theorem ztP{q:Bool}(ha:WE a as x)(hb:WE b as y)(h:eqF 60 x y=some q):WD (f2 a b (zY .NotEq)) as true (.bl (!q)):=f2E ha hb (by show(eqF 60 x y).bind _=_;rw[h];rfl)
theorem ztK{g:List D->Option R0}(ha:WE a as x)(hg:g [x]=some (.im z)):WD (fP (aC a aN) g) as true z:=zla (XJ ha zR) hg rfl
theorem Wu{fr:DF}{o:O}{os:List O}(ha:a as=some (.ow o,as))(hr:WO fr as os):WO (dC a fr) as (o::os):=xT ha hr
theorem zmg{fr:DF}{os:List O}(h:WO fr as os)(hl:os.length<=sizeLine):yL fr as=some (.ow (WP os),as):=by
 unfold yL;unfold WO at h
 rw[h];show(if os.length<=sizeLine then some (RV.ow (WP os),as)else _)=_
 rw[if_pos hl]
theorem Xc{fl fh:OF}{lo hi:Option Int}{g:D->Option Int->Option Int->Option R0}{zs:List D}(ha:WE a as y)(hl:fl as=some (lo,as))(hh:fh as=some (hi,as))(hg:g y lo hi=some (.fl zs)):WE (fSl a fl fh g) as (.lst zs):=by
 obtain⟨o,h1,h2,rfl⟩:=ha
 refine⟨.nd .ls (zs.map (O.lf true)), ?_,zhu zs,congrArg D.lst (zgu zs)⟩
 unfold fSl
 rw[h1];show((fl as).bind _)=_
 rw[hl];show((fh as).bind _)=_
 rw[hh];show((g o.toD lo hi).bind _)=_
 rw[hg]
 show(if(zs.all yu||(some o.str).isSome)=true then some (RV.ow (.nd .ls (zs.map (lfs ((some o.str).getD false)))))else none:Option RV).bind _=_
 rw[if_pos (by simp),h2]
 show some (RV.ow (.nd .ls (zs.map (lfs true))),as)=_
 rw[Vs]
theorem zfQ{xs ys:List D}:slP (.lst (xs++ys)) (some (xs.length:Int)) none=some (.fl ys):=by
 show some (R0.fl (cutD (xs++ys) (some (xs.length:Int)) none))=_
 congr 2
 unfold cutD
 rw[HT.zfC,HT.zkY,zzH,Nat.min_eq_left (by omega),List.drop_left,List.take_of_length_le (by omega)]
theorem zjH:∀ds:List D,kids true ds=ds.map λd=>(true,d)
 | []=>rfl
 |d::r=>by show(yu d||true,d)::kids true r=_;rw[zjH r,zyB];rfl
theorem zbI{ds:List D}(h:WE f as (.lst ds)):xq f as=some (ds.map λd=>(true,d),as):=by
 obtain⟨o,h1,h2,h3⟩:=h
 unfold xq
 rw[h1];show(zkp (o.str,o.toD)).bind _=_
 rw[h2,h3];show some (kids true ds,as)=_
 rw[zjH]
theorem zpd{ds:List D}(h:WD f as true (.lst ds)):zeq f as=some (ds.map λd=>(true,d),as):=by
 unfold zeq;unfold WD at h
 rw[h];show some (kids true ds,as)=_
 rw[zjH]
end
def zez:List D->Option (List Str)
 | []=>some []
 | .str x::r=>(zez r).bind λs=>some (x::s)
 |_::_=>none
theorem zrG{K:zC}{kd:KD}{O:Addr->Prop}{H:Hp}{vs:List V}{us:List Value}{ds:List D}{ns:List Str}(h:RpL K kd O H vs ds)(hv:Vals vs us)(e:zez ds=some ns):StrsAre us ns:=
 RpL.ind (P:=λvs ds=>∀us ns,Vals vs us->zez ds=some ns->StrsAre us ns) (λus ns hv e=>by cases e;cases hv;exact .nil) (λ{v d vs ds} a _ ih us ns hv e=>by
  cases hv with
  |cons b t=>
   cases a with
   |str x=>
    obtain⟨ys,h1,h2⟩:=bS_ (show(zez _).bind _=_ from e)
    cases h2
    obtain⟨tk,rfl⟩:=b
    exact .cons _ _ (ih _ _ t h1)
   |_=>cases e) h us ns hv e
def znj:D->List D->Option R0
 | .str sep,[.lst ds]=>(zez ds).bind λys=>if(ys.map (·.length)).sum+ys.length*sep.length<=16777216 then some (.im (.str (Txt.join sep ys)))else none
 |_,_=>none
section
variable{X:Cx}{kd:KD}
theorem zrN:MtD X kd "str.join" znj:=by
 intro pins s σ H x xs v us Q I rx r h
 obtain⟨O,d,ds,r0,ht,vx,vl,he,q⟩:=h
 unfold znj at he
 split at he
 · rename_i sep es
   obtain⟨ys,h1,he⟩:=bS_ he
   obtain⟨hz,he⟩:=yj he
   cases he
   cases vx
   obtain⟨t,rfl⟩:=rx
   obtain⟨y,rfl,vy⟩:=zfv vl
   cases vy with
   |lst hr rl=>
    obtain⟨u,rfl,ru⟩:=vals1 r
    cases ru
    obtain⟨its,rv,pl,_⟩:=I.list hr.sq
    exact join_list pl.isList (zrG rl (by simpa using rv) h1) hz λt' k=>⟨.str _,H,I.tok _,⟨t',rfl⟩,yQ q (.str _)⟩
 · cases he
def zwm:D->Option R0
 | .str x=>if x.length<=640 then(PySem.intText? x).bind λn=>some (.im (.int n))else none
 |d=>zwJ d
def zkP:List D->Option R0:=on1 zwm
theorem zfZ:CallD X kd (.type "int") zkP:=by
 intro pins s σ H xs us Q I r h
 obtain⟨O,ds,z,ht,vl,he,q⟩:=h
 obtain⟨x,d,rfl,vx,he⟩:=zcz vl he
 cases vx with
 |str y=>
  obtain⟨hl,he⟩:=ite_some' he
  obtain⟨n,hn,he⟩:=bS_ he
  cases he
  obtain⟨u,rfl,ru⟩:=vals1 r
  obtain⟨t,rfl⟩:=ru
  exact PySem.W.KIN.call_text hn hl ⟨.int _,H,I.tok _,⟨_,rfl⟩,yQ q (.int _)⟩
 |int i=>cases he;exact zix pins s σ H _ us Q I r (.inl ⟨_,rfl,yQ q (.int _)⟩)
 |bl b=>cases he;exact zix pins s σ H _ us Q I r (.inr ⟨_,rfl,yQ q (.int _)⟩)
 |_=>cases he
end
section
variable{X:Cx}{pins:List (Addr×Obj)}{σ:List (Option V)}{H:Hp}{s:Shared}{h':Heap}
theorem zcI{t':Nat}{ch:List Addr}{T:Addr}{o:HO}(I:Inv X pins σ H s)(hf:∀b ∈ ch,zfi X pins H b)(k:∀b u,b ∉ ch->s.heap.get? b=some u->h'.get? b=some u)(hp:s.heap.objs.size<=T)
 (new:vY X.prog X.w (upd H T o) h' T o):Inv X pins σ (upd H T o) {s with heap:=h',toks:=t'}:=by
 have hn:H T=none:=I.hok.fresh hp
 have nT:∀b u,s.heap.get? b=some u->b≠T:=λb u e z=>absurd (zzI (zxH e) (by rw[z];exact hp)) (Nat.lt_irrefl _)
 have nc:∀b u,H b=some u->b ∉ ch:=λb u e z=>by have:=(hf b z).1;rw[e]at this;cases this
 refine I.step (g':=s.gens) (d':=s.drawn) (ch:=ch) (λb hb=>?_) (λb o _ _ hc e _=>k b o hc e) (λb o _ _ hc e _=>⟨o.slots,k b o hc e⟩) (λb o _ e n=>by rw[yo (nT b o e)];exact n)
  (λb o hc e=>⟨o,k b o hc e⟩) (λb xs e=>by rw[yo (xg e hn)];exact e) (λb o u e=>by rw[yo (xg e hn)];exact e) (λb ps e=>⟨#[],by rw[yo (xg e hn),e];simp⟩) (λm hm=>?_) (λb u e=>?_) I.bare
 · obtain⟨f0,f1,f2,f3,f4,f5⟩:=hf b hb
   exact⟨f3,f1,f4,f5⟩
 · obtain⟨o,es,ep,ho,r⟩:=hm
   exact⟨o,es,ep,k _ o (λz=>(hf _ z).2.1 rfl) ho,r⟩
 · by_cases hb:b=T
   · subst hb;rw[yZ]at e;cases e;exact new
   · rw[yo hb]at e
     refine(I.hok b u e).stay (λc v hc q=>k c v ?_ q) (λc q=>by rw[yo (xg q hn)];exact q) λc xs q=>by rw[yo (xg q hn)];exact q
     rcases hc with z|z
     · rw[z];exact nc b u e
     · exact nc c _ z
end
def Ite(K:zC)(a:Addr):It:=
 ⟨λi H=>∃xs x,SqL K H a xs/\xs[i]? = some x,λi H v H'=>∃T x,H T=none/\v = .ref T/\H'=upd H T (.tup [.int i,x])/\∀xs,SqL K H a xs->xs[i]? = some x,λi H=>∃xs,SqL K H a xs/\xs.length<=i⟩
theorem znY{P:Program}{w:World}{K:zC}{elts:List Expr}{k:Nat}{pos:Pos}(a e it:Addr)(hei:e≠it):Turn P w K (.Tuple elts k pos) (Ite K a) [e,it] e (λi h=>(∃old,IsEnum h e it i old)/\h.IsListIter it a i)where
 mem:=by simp
 obj:=λi h st b hb=>by
  obtain⟨⟨old,he⟩,⟨o,e1,c,d⟩⟩:=st
  rcases zzA.mp hb with rfl|hb
  · exact⟨_,he,λv z=>by cases z⟩
  · rw[zzP.mp hb]
    exact⟨o,e1,λv z=>by rw[d]at z;cases z⟩
 keep:=λi h h' st kk=>⟨st.1.imp λold he=>kk e (by simp) _ he,st.2.at λo q=>kk it (by simp) o q⟩
 item:=by
  intro X hP hw hK hc i pins s σ H E I hf st hg
  subst hP hw hK
  obtain⟨xs,x,hq,hx⟩:=hg
  obtain⟨its,rv,p,hz⟩:=I.list hq
  obtain⟨u,hu,ru⟩:=rv.get hx
  have hil:i<its.toArray.size:=by have:=(zzE.mp hu).1;simpa using this
  obtain⟨ol,hol,hcl,_⟩:=p.isList
  have hae:a≠e:=λz=>by
   obtain⟨⟨old,he⟩,_⟩:=st
   rw[z]at hol;rw[show s.heap.get? e=_ from he]at hol;cases hol
   injection hcl with q;exact absurd q (by decide)
  have hai:a≠it:=λz=>by
   obtain⟨_,⟨o,e1,c,d⟩⟩:=st
   rw[z,e1]at hol;cases hol;rw[c]at hcl
   injection hcl with q;exact absurd q (by decide)
  have W:=WalksT.enumerate (prog:=X.prog) (w:=X.w) (A:=X.A) (I.ok.hd hc) e it a hei hae hai its.toArray
  refine W.item i s _ _ hil ⟨st.1,st.2,p.isList⟩ λT vals h1 tk hP hT hTup hMid kk=>?_
  obtain⟨t,v,hv,rfl⟩:=hP
  have:v=u:=by rw[show its.toArray[i]? = its[i]? by simp,hu]at hv;cases hv;rfl
  subst this
  refine⟨_,rfl,W.go elts k pos i T {s with heap:=h1,toks:=tk} _ _ hMid λh2 hSt kk2=>?_⟩
  have hn:H T=none:=I.hok.fresh hT
  have hTw:=W.apart i T h1 hMid
  have k2:∀b o,b ∉ [e,it]->s.heap.get? b=some o->h2.get? b=some o:=λb o hb q=>kk2 b o hb (kk b o hb q)
  have hT2:IsTup h2 T #[.int i t,v]:=by
   obtain⟨o,q1,q2⟩:=hTup
   exact⟨o,kk2 T o hTw q1,q2⟩
  refine⟨.ref T,upd H T (.tup [.int i,x]),zcI (s:=s) (t':=tk) (ch:=[e,it]) I hf k2 hT ⟨by show 2<=sizeLine;decide,[.int i t,v],.cons ⟨t,rfl⟩ (.cons ru .nil),hT2⟩,rfl,⟨T,x,hn,rfl,rfl,λys hy=>by rw[I.list_inj hy hq];exact hx⟩,⟨hSt.1,hSt.2.1⟩,λb hb=>?_⟩
  have hbT:b≠T:=λz=>hTw (by rw[<-z];exact hb)
  rw[yo hbT]
  exact(hf b hb).1
 done:=by
  intro X hP hw hK hc i pins s σ H E I hf st hg
  subst hP hw hK
  obtain⟨xs,hq,hx⟩:=hg
  obtain⟨its,rv,p,hz⟩:=I.list hq
  have hl:=rv.length
  obtain⟨⟨old,he⟩,hit⟩:=st
  obtain⟨f0,f1,f2,f3,f4,f5⟩:=hf it (by simp)
  exact wpAny_pyNext_enum_end (I.ok.hd hc) he hit p.isList (by simp;omega) λh' eb=>⟨rfl,I.turned (t':=s.toks) (λb o hb e=>eb b o hb e) f0 f1 f3 f4 f5⟩
 self:=λ_ _ _ _ _ st h=>by
  obtain⟨⟨old,he⟩,_⟩:=st
  exact wpAny_pyIter_enum he h
section
variable{X:Cx}{tg:Expr}
def zuf(K:zC)(ta:TA):TI:=λσ H R=>ta σ H λvs H1=>∃a,vs=[.ref a]/\(∃xs,SqL K H1 a xs)/\R (Ite K a) H1
theorem zrr{l:Expr}{ta:TA}{p pos pos':Pos}{elts:List Expr}{k:Nat}(hg:Gl X "enumerate")(hm:X.mg "enumerate"=none)(ha:PA X [l] ta)(hs:starEach [l] X.env=[(false,eval l X.env)]):
 PI X (.Tuple elts k pos') (.Call (.Name "enumerate" p) [l] [] pos) (zuf X.K ta):=by
 intro pins s σ H R I h
 refine Call_ (W0 I hg hm boot_enumerate (PyProof.Rows.callWith_type1 (thn (ha pos pins s σ H _ I h) λus s1 ⟨vs,H1,I1,r1,q1⟩=>?_) hs rfl))
 obtain⟨a,rfl,⟨xs,hq⟩,q⟩:=q1
 cases r1 with
 |cons r rr=>
  cases rr
  cases r
  obtain⟨its,rv,pl,hz⟩:=I1.list hq
  refine call_enumerate_list pl.isList λh' he hit hsz hk=>?_
  refine wpAny_pyIter_enum he ⟨s1.heap.objs.size+1,[s1.heap.objs.size+1,s1.heap.objs.size],_,_,H1,rfl,I1.kept (t':=s1.toks) hk,znY a _ _ (Nat.succ_ne_self _),⟨⟨_,he⟩,hit⟩,λb hb=>?_,q⟩
  have hb':s1.heap.objs.size<=b:=by
   rcases zzA.mp hb with rfl|hb
   · exact zyV _
   · rw[zzP.mp hb];exact zzL _
  exact I1.fpOk hb' (I1.hok.fresh hb')
end
section
variable{X:Cx}{kd:KD}{tg e:Expr}{fa:EF}
def zbr(st:Bool):Nat->List D->List It1
 |_,[]=>[]
 |i,d::r=>(st,.tup [.int i,d])::zbr st (i+1) r
theorem zim(st:Bool):∀(i:Nat) (ds:List D),(zbr st i ds).length=ds.length
 |_,[]=>rfl
 |i,_::r=>congrArg (· + 1) (zim st (i+1) r)
theorem ziB{st:Bool}:∀{j:Nat}{ds:List D}{i:Nat}{y:It1},(zbr st j ds)[i]? = some y->∃d,ds[i]? = some d/\y=(st,.tup [.int ((j+i:Nat):Int),d])
 |_,[],_,_,h=>by simp[zbr]at h
 |j,d::r,0,y,h=>by
  simp only[zbr,List.getElem?_cons_zero]at h
  cases h
  exact⟨d,rfl,rfl⟩
 |j,d::r,i+1,y,h=>by
  simp only[zbr,List.getElem?_cons_succ]at h
  obtain⟨d',h1,h2⟩:=ziB h
  exact⟨d',by simpa using h1,by rw[h2,show j+1+i=j+(i+1) by omega]⟩
def zqM(f:EF):IF:=λas=>(f as).bind λp=>(zdB p.2 p.1).bind λq=>match q.1 with
 |(st,.lst ds)=>some (zbr st 0 ds,q.2)
 |_=>none
end
theorem zpO(sep:Str)(ys:List Str):Txt.join sep ys=Str.join sep ys:=StrLaws.glued_eq_join sep ys
section
variable{as:AS}{f a b:EF}{s t:Bool}{x y z:D}
theorem zlJ{xs ys:List D}:slP (.lst (xs++ys)) none (some (xs.length:Int))=some (.fl xs):=by
 show some (R0.fl (cutD (xs++ys) none (some (xs.length:Int))))=_
 congr 2
 unfold cutD
 rw[HT.zfC,HT.zkY,zzH,Nat.min_eq_left (by omega),List.drop_zero,Nat.sub_zero,List.take_left]
end
def Itz(K:zC)(a b:Addr):It:=
 ⟨λi H=>∃xs ys x y,SqL K H a xs/\SqL K H b ys/\xs[i]? = some x/\ys[i]? = some y,
  λi H v H'=>∃T x y,H T=none/\v = .ref T/\H'=upd H T (.tup [x,y])/\(∀xs,SqL K H a xs->xs[i]? = some x)/\∀ys,SqL K H b ys->ys[i]? = some y,
  λi H=>∃xs ys,SqL K H a xs/\SqL K H b ys/\(xs.length<=i\/ys.length<=i)⟩
theorem zlS{X:Cx}{pins:List (Addr×Obj)}{σ:List (Option V)}{H:Hp}{s:Shared}{h':Heap}{t':Nat}{ch:List Addr}(I:Inv X pins σ H s)(hf:∀b ∈ ch,zfi X pins H b)(k:∀b u,b ∉ ch->s.heap.get? b=some u->h'.get? b=some u):Inv X pins σ H {s with heap:=h',toks:=t'}:=by
 have nc:∀b u,H b=some u->b ∉ ch:=λb u e z=>by have:=(hf b z).1;rw[e]at this;cases this
 refine I.step (g':=s.gens) (d':=s.drawn) (ch:=ch) (λb hb=>?_) (λb o _ _ hc e _=>k b o hc e) (λb o _ _ hc e _=>⟨o.slots,k b o hc e⟩) (λb o _ e n=>n)
  (λb o hc e=>⟨o,k b o hc e⟩) (λb xs e=>e) (λb o u e=>e) (λb ps e=>⟨#[],by rw[e];simp⟩) (λm hm=>?_) (λb u e=>?_) I.bare
 · obtain⟨f0,f1,f2,f3,f4,f5⟩:=hf b hb
   exact⟨f3,f1,f4,f5⟩
 · obtain⟨o,es,ep,ho,r⟩:=hm
   exact⟨o,es,ep,k _ o (λz=>(hf _ z).2.1 rfl) ho,r⟩
 · refine(I.hok b u e).stay (λc v hc q=>k c v ?_ q) (λc q=>q) λc xs q=>q
   rcases hc with z|z
   · rw[z];exact nc b u e
   · exact nc c _ z
theorem zon{P:Program}{w:World}{K:zC}{elts:List Expr}{k:Nat}{pos:Pos}(a b z TI TO i1 i2:Addr)(D:ZipApart z TI TO i1 i2 a b):Turn P w K (.Tuple elts k pos) (Itz K a b) [z,TI,TO,i1,i2] z
 (λi h=>IsZip h z TI TO .none/\IsPair h TI (.ref i1) (.ref i2)/\(∃p q,IsPair h TO p q)/\h.IsListIter i1 a i/\h.IsListIter i2 b i)where
 mem:=by simp
 obj:=λi h st c hc=>by
  obtain⟨hz,hTI,⟨p,q,hTO⟩,⟨o1,e1,c1,d1⟩,⟨o2,e2,c2,d2⟩⟩:=st
  simp only[zzA,zxA,or_false]at hc
  rcases hc with rfl|rfl|rfl|rfl|rfl
  · exact⟨_,hz,λv z=>by cases z⟩
  · exact⟨_,hTI,λv z=>by cases z⟩
  · exact⟨_,hTO,λv z=>by cases z⟩
  · exact⟨o1,e1,λv z=>by rw[d1]at z;cases z⟩
  · exact⟨o2,e2,λv z=>by rw[d2]at z;cases z⟩
 keep:=λi h h' st kk=>by
  obtain⟨hz,hTI,⟨p,q,hTO⟩,h1,h2⟩:=st
  exact⟨kk z (by simp) _ hz,kk TI (by simp) _ hTI,⟨p,q,kk TO (by simp) _ hTO⟩,h1.at λo e=>kk i1 (by simp) o e,h2.at λo e=>kk i2 (by simp) o e⟩
 item:=by
  intro X hP hw hK hc i pins s σ H E I hf st hg
  subst hP hw hK
  obtain⟨xs,ys,x,y,hq,hr,hx,hy⟩:=hg
  obtain⟨its,rv,p,hz⟩:=I.list hq
  obtain⟨jts,rw',p',hz'⟩:=I.list hr
  obtain⟨u,hu,ru⟩:=rv.get hx
  obtain⟨u',hu',ru'⟩:=rw'.get hy
  have W:=WalksT.zip2 (prog:=X.prog) (w:=X.w) (A:=X.A) (I.ok.hd hc) z TI TO i1 i2 a b D its.toArray jts.toArray
  obtain⟨s1,s2,s3,s4,s5⟩:=st
  have hil:i<min its.toArray.size jts.toArray.size:=by
   have:=(zzE.mp hu).1
   have:=(zzE.mp hu').1
   simp only[zzF];omega
  refine W.item i s _ _ hil ⟨s1,s2,s3,s4,s5,p.isList,p'.isList⟩ λT vals h1 tk hP hT hTup hMid kk=>?_
  obtain⟨v,v',hv,hv',rfl⟩:=hP
  have e1:v=u:=by rw[show its.toArray[i]? = its[i]? by simp,hu]at hv;cases hv;rfl
  have e2:v'=u':=by rw[show jts.toArray[i]? = jts[i]? by simp,hu']at hv';cases hv';rfl
  subst e1 e2
  refine⟨_,rfl,W.go elts k pos i T {s with heap:=h1,toks:=tk} _ _ hMid λh2 hSt kk2=>?_⟩
  have hn:H T=none:=I.hok.fresh hT
  have hTw:=W.apart i T h1 hMid
  have sub:∀c,c ∉ [z,TI,TO,i1,i2]->c ∉ [z,TO,i1,i2]:=λc hc m=>hc (by simp only[zzA,zxA,or_false]at m ⊢;rcases m with rfl|rfl|rfl|rfl<;>simp)
  have k2:∀c o,c ∉ [z,TI,TO,i1,i2]->s.heap.get? c=some o->h2.get? c=some o:=λc o hb q=>kk2 c o (sub c hb) (kk c o (sub c hb) q)
  have hT2:IsTup h2 T #[v,v']:=by
   obtain⟨o,q1,q2⟩:=hTup
   exact⟨o,kk2 T o hTw q1,q2⟩
  obtain⟨t1,t2,t3,t4,t5,_,_⟩:=hSt
  refine⟨.ref T,upd H T (.tup [x,y]),zcI (s:=s) (t':=tk) (ch:=[z,TI,TO,i1,i2]) I hf k2 hT ⟨by show 2<=sizeLine;decide,[v,v'],.cons ru (.cons ru' .nil),hT2⟩,rfl,⟨T,x,y,hn,rfl,rfl,λq hq'=>by rw[I.list_inj hq' hq];exact hx,λq hq'=>by rw[I.list_inj hq' hr];exact hy⟩,⟨t1,t2,t3,t4,t5⟩,λc hc=>?_⟩
  have hcT:c≠T:=λe=>by
   have:c<s.heap.objs.size:=by
    have hob:∀d ∈ [z,TI,TO,i1,i2],∃o,s.heap.get? d=some o:=λd hd=>by
     obtain⟨pp,qq,hTO⟩:=s3
     obtain⟨o1,e1,_⟩:=s4
     obtain⟨o2,e2,_⟩:=s5
     simp only[zzA,zxA,or_false]at hd
     rcases hd with rfl|rfl|rfl|rfl|rfl
     · exact⟨_,s1⟩
     · exact⟨_,s2⟩
     · exact⟨_,hTO⟩
     · exact⟨_,e1⟩
     · exact⟨_,e2⟩
    obtain⟨o,ho⟩:=hob c hc
    exact zxH ho
   rw[e]at this
   exact absurd (zzI this hT) (Nat.lt_irrefl _)
  rw[yo hcT]
  exact(hf c hc).1
 done:=by
  intro X hP hw hK hc i pins s σ H E I hf st hg
  subst hP hw hK
  obtain⟨xs,ys,hq,hr,hx⟩:=hg
  obtain⟨its,rv,p,hz⟩:=I.list hq
  obtain⟨jts,rw',p',hz'⟩:=I.list hr
  have hl:=rv.length
  have hl':=rw'.length
  obtain⟨s1,s2,⟨pp,qq,s3⟩,s4,s5⟩:=st
  refine wpAny_pyNext_zip_end (I.ok.hd hc) D s1 s2 s3 s4 s5 p.isList p'.isList (hx.imp (λh=>by simp;omega) (λh=>by simp;omega)) λh' eb=>⟨rfl,zlS (t':=s.toks) (ch:=[z,TI,TO,i1,i2]) I hf λc o hc q=>eb c o ?_ ?_ ?_ ?_ q⟩<;>(intro e;exact hc (by simp[e]))
 self:=λ_ _ _ _ _ st h=>wpAny_pyIter_zip st.1 h
section
variable{X:Cx}{tg:Expr}
def zvv(K:zC)(ta:TA):TI:=λσ H R=>ta σ H λvs H1=>∃a b,vs=[.ref a,.ref b]/\(∃xs,SqL K H1 a xs)/\(∃ys,SqL K H1 b ys)/\R (Itz K a b) H1
theorem zoa(I l1 l2:Nat)(h1:l1<I)(h2:l2<I):ZipApart (I+4) (I+2) (I+3) I (I+1) l1 l2:=by
 constructor<;>(show(_:Nat)≠_;omega)
theorem zue{l l':Expr}{ta:TA}{p pos pos':Pos}{elts:List Expr}{k:Nat}(hg:Gl X "zip")(hm:X.mg "zip"=none)(ha:PA X [l,l'] ta)(hs:starEach [l,l'] X.env=[(false,eval l X.env),(false,eval l' X.env)])(hs2:starEach [l'] X.env=[(false,eval l' X.env)]):
 PI X (.Tuple elts k pos') (.Call (.Name "zip" p) [l,l'] [] pos) (zvv X.K ta):=by
 intro pins s σ H R I h
 refine Call_ (W0 I hg hm boot_zip (PyProof.Rows.callWith_type1 (thn (ha pos pins s σ H _ I h) λus s1 ⟨vs,H1,I1,r1,q1⟩=>?_) (by rw[hs,hs2]) (by rw[hs2];rfl)))
 obtain⟨a,b,rfl,⟨xs,hq⟩,⟨ys,hr⟩,q⟩:=q1
 cases r1 with
 |cons r rr=>
  cases rr with
  |cons r' rr=>
   cases rr
   cases r
   cases r'
   obtain⟨its,rv,pl,hz⟩:=I1.list hq
   obtain⟨jts,rw',pl',hz'⟩:=I1.list hr
   obtain⟨o1,ho1,_⟩:=pl.isList
   obtain⟨o2,ho2,_⟩:=pl'.isList
   refine call_zip_2 pl.isList pl'.isList λh' hZ hTI hTO hi1 hi2 hsz hk=>?_
   refine wpAny_pyIter_zip hZ ⟨s1.heap.objs.size+4,[s1.heap.objs.size+4,s1.heap.objs.size+2,s1.heap.objs.size+3,s1.heap.objs.size,s1.heap.objs.size+1],_,_,H1,rfl,I1.kept (t':=s1.toks) hk,zon a b _ _ _ _ _ (zoa _ _ _ (zxH ho1) (zxH ho2)),⟨hZ,hTI,⟨_,_,hTO⟩,hi1,hi2⟩,λc hc=>?_,q⟩
   have hb':s1.heap.objs.size<=c:=by
    simp only[zzA,zxA,or_false]at hc
    rcases hc with rfl|rfl|rfl|rfl|rfl<;>first|exact zzL _|exact Nat.le_add_right _ _
   exact I1.fpOk hb' (I1.hok.fresh hb')
end
section
variable{X:Cx}{kd:KD}{tg e:Expr}{fa:EF}
def W7(st:Bool):List D->List D->List It1
 |x::r,y::t=>(st,.tup [x,y])::W7 st r t
 |_,_=>[]
theorem zdd(st:Bool):∀(xs ys:List D),(W7 st xs ys).length=min xs.length ys.length
 | [],_=>by simp[W7]
 |_::_,[]=>by simp[W7]
 |_::r,_::t=>by simp only[W7,zzR,zdd st r t];omega
theorem zaL{st:Bool}:∀{xs ys:List D}{i:Nat}{y:It1},(W7 st xs ys)[i]? = some y->∃d e,xs[i]? = some d/\ys[i]? = some e/\y=(st,.tup [d,e])
 | [],_,_,_,h=>by simp[W7]at h
 |_::_,[],_,_,h=>by simp[W7]at h
 |x::r,y::t,0,z,h=>by
  simp only[W7,List.getElem?_cons_zero]at h
  cases h
  exact⟨x,y,rfl,rfl,rfl⟩
 |x::r,y::t,i+1,z,h=>by
  simp only[W7,List.getElem?_cons_succ]at h
  obtain⟨d,e,h1,h2,h3⟩:=zaL h
  exact⟨d,e,by simpa using h1,by simpa using h2,h3⟩
theorem zsM{K:zC}{F B:Addr->Prop}{ad:Ad}{H:Hp}{a b:Addr}{vs ws:List V}{st:Bool}{ds es:List D}(hs:∀(ad3:Ad) (H3:Hp),Grow (Gw [] ad) H (Gw [] ad3) H3->SqL K H3 a vs)(hs':∀(ad3:Ad) (H3:Hp),Grow (Gw [] ad) H (Gw [] ad3) H3->SqL K H3 b ws)
 (r:RpL K kd (Lv F B (Gw [] ad) st) H vs ds) (r':RpL K kd (Lv F B (Gw [] ad) st) H ws es):ItOk K kd F B ad H (Itz K a b) (W7 st ds es):=⟨λad3 H3 g3 tr i=>by
 have hr3:=hs ad3 H3 g3
 have hr4:=hs' ad3 H3 g3
 have rl3:RpL K kd (Lv F B (Gw [] ad3) st) H3 vs ds:=RpL.grow g3 r
 have rl4:RpL K kd (Lv F B (Gw [] ad3) st) H3 ws es:=RpL.grow g3 r'
 have hlen:=zdd st ds es
 have l1:vs.length=ds.length:=r.length
 have l2:ws.length=es.length:=r'.length
 refine⟨λhi=>?_,λhi=>⟨_,_,hr3,hr4,by omega⟩,λv H4 hy=>?_⟩
 · obtain⟨u,hu,_⟩:=r.get (zzC (show i<ds.length by omega))
   obtain⟨u',hu',_⟩:=r'.get (zzC (show i<es.length by omega))
   exact⟨_,_,u,u',hr3,hr4,hu,hu'⟩
 · obtain⟨T,x,y,hn,rfl,rfl,hv,hv'⟩:=hy
   refine⟨ZG hn,λq hq=>?_⟩
   obtain⟨d,e,hd,he,rfl⟩:=zaL hq
   obtain⟨u,hu,ru⟩:=rl3.get hd
   obtain⟨u',hu',ru'⟩:=rl4.get he
   have:=hv _ hr3
   rw[hu]at this
   cases this
   have:=hv' _ hr4
   rw[hu']at this
   cases this
   exact .tup (λz=>tr _ _ z hn) yZ (.cons (Rp.grow ⟨λb o q _=>ZG hn b o q,λb z=>.inl z⟩ ru) (.cons (Rp.grow ⟨λb o q _=>ZG hn b o q,λb z=>.inl z⟩ ru') .nil))⟩
def zno(fr:AF):IF:=λas=>(fr as).bind λp=>(zrw p.1).bind λo=>(rvL o.1).bind λa=>(rvL o.2).bind λb=>some (W7 (a.1&&b.1) a.2 b.2,p.2)
theorem ziQ{K:zC}{F B:Addr->Prop}{ad:Ad}{H:Hp}{v:V}{st q:Bool}{ds:List D}(rp:Rp K kd (Lv F B (Gw [] ad) st) H v (.lst ds))(hq:q=true->st=true):∃a vs,v = .ref a/\(∀(ad3:Ad) (H3:Hp),Grow (Gw [] ad) H (Gw [] ad3) H3->SqL K H3 a vs)/\RpL K kd (Lv F B (Gw [] ad) q) H vs ds:=by
 have le:∀a,Lv F B (Gw [] ad) q a->Lv F B (Gw [] ad) st a:=λa z=>z.imp (λy=>y.imp (λx=>⟨hq x.1,x.2⟩) id) id
 cases rp with
 |lst hn hr rl=>exact⟨_,_,rfl,λad3 H3 g3=>.inl (zdt g3 (λz=>hn (.inr z)) hr),rl.less le⟩
 |lstK a b c rl=>exact⟨_,_,rfl,λad3 H3 g3=>.inr ⟨_,_,_,a,rfl,rfl,rfl,b,c⟩,rl.less le⟩
theorem zlq{l l':Expr}{fr:AF}{p pos pos':Pos}{elts:List Expr}{k:Nat}(hg:Gl X "zip")(hm:X.mg "zip"=none)(ha:AA X kd [l,l'] fr)(hs:starEach [l,l'] X.env=[(false,eval l X.env),(false,eval l' X.env)])(hs2:starEach [l'] X.env=[(false,eval l' X.env)]):
 AI X kd (.Tuple elts k pos') (.Call (.Name "zip" p) [l,l'] [] pos) (zno fr):=by
 with_unfolding_all (
 intro pins s σ H R I h
 obtain⟨F,B,ad,as,ds,as',Rl,e',q⟩:=h
 obtain⟨⟨rs,as1⟩,h1,e'⟩:=bS_ (show(fr as).bind _=_ from e')
 obtain⟨⟨o1,o2⟩,e1,e'⟩:=bS_ e'
 obtain⟨⟨s1,d1⟩,e2,e'⟩:=bS_ e'
 obtain⟨⟨s2,d2⟩,e3,e'⟩:=bS_ e'
 cases zka e1
 cases zpB e2
 cases zpB e3
 · cases e'
   refine zue hg hm ha hs hs2 pins s σ H R I ⟨F,B,ad,as,_,as1,Rl,h1,λvs ad1 H1 R1 rv1 g1=>?_⟩
   cases rv1 with
   |cons r1 rr=>
    cases rr with
    |cons r2 rr=>
     cases rr
     cases r1 with
     |lf rp1=>
      cases r2 with
      |lf rp2=>
       obtain⟨a,vs,rfl,ha,ra⟩:=ziQ (q:=s1&&s2) rp1 (λz=>(Bool.and_eq_true_iff.mp z).1)
       obtain⟨b,ws,rfl,hb,rb⟩:=ziQ (q:=s1&&s2) rp2 (λz=>(Bool.and_eq_true_iff.mp z).2)
       exact⟨a,b,rfl,⟨_,ha _ _ Grow.refl⟩,⟨_,hb _ _ Grow.refl⟩,q _ ad1 H1 R1 g1 (zsM ha hb ra rb)⟩)
end
def insI(x:Int):List Int->List Int
 | []=>[x]
 |y::r=>if x<=y then x::y::r else y::insI x r
def sortI:List Int->List Int
 | []=>[]
 |x::r=>insI x (sortI r)
theorem insI_perm(x:Int):∀l:List Int,(insI x l).Perm (x::l)
 | []=>List.Perm.refl _
 |y::r=>by
  unfold insI
  split
  · exact List.Perm.refl _
  · exact((insI_perm x r).cons y).trans (List.Perm.swap x y r)
theorem sortI_perm:∀l:List Int,(sortI l).Perm l
 | []=>List.Perm.refl _
 |x::r=>(insI_perm x (sortI r)).trans ((sortI_perm r).cons x)
theorem zeP(x:Int):∀l:List Int,l.Pairwise (· <= ·)->(insI x l).Pairwise (· <= ·)
 | [],_=>by simp[insI]
 |y::r,h=>by
  unfold insI
  rw[List.pairwise_cons]at h
  split
  · rename_i hxy
    rw[List.pairwise_cons,List.pairwise_cons]
    refine⟨λz hz=>?_,h⟩
    rcases zzA.mp hz with rfl|hz
    · exact hxy
    · exact Int.le_trans hxy (h.1 z hz)
  · rename_i hxy
    rw[List.pairwise_cons]
    refine⟨λz hz=>?_,zeP x r h.2⟩
    rcases zzA.mp ((insI_perm x r).mem_iff.mp hz)with rfl|hz
    · omega
    · exact h.1 z hz
theorem Vp:∀l:List Int,(sortI l).Pairwise (· <= ·)
 | []=>List.Pairwise.nil
 |x::r=>zeP x _ (Vp r)
theorem zii:∀(a b:List Int),a.Perm b->a.Pairwise (· <= ·)->b.Pairwise (· <= ·)->a=b
 | [],b,p,_,_=>by rw[List.nil_perm]at p;exact p.symm
 |x::r,[],p,_,_=>by rw[List.perm_nil]at p;cases p
 |x::r,y::t,p,ha,hb=>by
  rw[List.pairwise_cons]at ha hb
  have hxy:x=y:=by
   have h1:x ∈ y::t:=p.mem_iff.mp (zzD ..)
   have h2:y ∈ x::r:=p.mem_iff.mpr (zzD ..)
   rcases zzA.mp h1 with e|e
   · exact e
   · rcases zzA.mp h2 with e'|e'
     · exact e'.symm
     · have:=hb.1 x e
       have:=ha.1 y e'
       omega
  subst hxy
  rw[zii r t (List.Perm.cons_inv p) ha.2 hb.2]
theorem ints_of{K:zC}{kd:KD}{O:Addr->Prop}{H:Hp}{vs:List V}{us:List Value}{ds:List D}{ns:List Int}(h:RpL K kd O H vs ds)(hv:Vals vs us)(e:Xb ds=some ns):IntsAre us ns:=
 RpL.ind (P:=λvs ds=>∀us ns,Vals vs us->Xb ds=some ns->IntsAre us ns) (λus ns hv e=>by cases e;cases hv;exact .nil) (λ{v d vs ds} a _ ih us ns hv e=>by
  cases hv with
  |cons b t=>
   cases a with
   |int x=>
    obtain⟨ys,h1,h2⟩:=bS_ (show(Xb _).bind _=_ from e)
    cases h2
    obtain⟨tk,rfl⟩:=b
    exact .cons _ _ (ih _ _ t h1)
   |_=>cases e) h us ns hv e
theorem WM:∀{us:List Value}{ns:List Int},IntsAre us ns->Vals (ns.map V.int) us
 |_,_,.nil=>.nil
 |_,_,.cons n t r=>.cons ⟨t,rfl⟩ (WM r)
theorem zkt{K:zC}{kd:KD}{O:Addr->Prop}{H:Hp}:∀ns:List Int,RpL K kd O H (ns.map V.int) (ns.map D.int)
 | []=>.nil
 |y::r=>.cons (.int y) (zkt r)
def zqf:List D->Option R0:=on1 λx=>(asL x).bind λds=>(Xb ds).bind λns=>if ns.length<64 then some (.fl ((sortI ns).map .int))else none
section
variable{X:Cx}{kd:KD}
theorem zlD:CallD X kd (.builtin "sorted") zqf:=by
 intro pins s σ H xs us Q I r h
 obtain⟨O,ds,z,ht,vl,he,q⟩:=h
 obtain⟨x,d,rfl,vx,he⟩:=zcz vl he
 obtain⟨ds,h0,he2⟩:=bS_ (show(asL d).bind _=_ from he)
 cases zcw h0
 · obtain⟨ns,h1,he⟩:=bS_ he2
   obtain⟨hz,he⟩:=yj he
   cases he
   cases vx with
   |lst hr rl=>
    obtain⟨u,rfl,ru⟩:=vals1 r
    cases ru
    obtain⟨its,rv,pl,_⟩:=I.list hr.sq
    have hI:=ints_of rl rv h1
    have hl:=hI.length
    refine sorted_ints pl.isList hI (by omega) λout ns' a1 a2 a3=>?_
    have e:ns'=sortI ns:=zii _ _ (a2.trans (sortI_perm ns).symm) a3 (Vp ns)
    subst e
    obtain⟨ee,hob⟩:=sortedAll_at s.heap its out
    have hn:H (s.heap.objs.size+1)=none:=I.hok.fresh (zyV _)
    refine⟨.ref (s.heap.objs.size+1),_,I.laid (t':=s.toks) (λb o e=>sortedAll_old e) (zyV _) (show vY X.prog X.w _ _ _ (.lst ((sortI ns).map V.int))from⟨?_,out.toList,ee,WM a1,by simpa[seqObj]using hob⟩),rfl,zdN q (zkt _) _ hn⟩
    rw[zD,(sortI_perm ns).length_eq]
    exact Nat.le_of_lt (ZW (by omega))
end
def zdU(f:D->Option Bool):List D->Option Nat
 | []=>none
 |x::r=>(f x).bind λb=>if b=true then(anyF f r).bind λ_=>some 0 else(zdU f r).bind λj=>some (j+1)
def Xw(d:D):List D->Option R0:=on1 λx=>(asL d).bind λds=>(zdU (λy=>eqF 50 y x) ds).bind λj=>if ds.length<=1000 then some (.im (.int j))else none
theorem zkS{f:D->Option Bool}:∀{ds:List D}{j:Nat},zdU f ds=some j->∀d ∈ ds,∃c,f d=some c
 | [],_,h,_,m=>nomatch m
 |x::r,j,h,d,m=>by
  obtain⟨b,h1,h⟩:=bS_ (show(f x).bind _=_ from h)
  rcases zzA.mp m with rfl|m
  · exact⟨b,h1⟩
  · cases b with
    |true=>
     obtain⟨c,h2,_⟩:=bS_ (show(anyF f r).bind _=_ from h)
     exact WF h2 d m
    |false=>
     obtain⟨k,h2,_⟩:=bS_ (show(zdU f r).bind _=_ from h)
     exact zkS h2 d m
section
variable{X:Cx}{kd:KD}{pins:List (Addr×Obj)}{σ:St}{H:Hp}{s:Shared}{O:Addr->Prop}
theorem zqI(I:Inv X pins σ H s)(hk:KdOk X kd){n:Nat}{x:D}{vs:List V}{us:List Value}{ds:List D}{j:Nat}(hv:Vals vs us)(h:RpL X.K kd O H vs ds)(e:zdU (λy=>eqF n y x) ds=some j):∃h:j<us.length,eqW X.K kd O H n x us[j]=true/\∀m (hm:m<us.length),m<j->eqW X.K kd O H n x us[m]=false:=
 RpL.ind (P:=λvs ds=>∀us j,Vals vs us->zdU (λy=>eqF n y x) ds=some j->∃h:j<us.length,eqW X.K kd O H n x us[j]=true/\∀m (hm:m<us.length),m<j->eqW X.K kd O H n x us[m]=false) (λus j hv e=>by cases e) (λ{v d vs ds} a _ ih us j hv h=>by
  cases hv with
  |cons r t=>
   obtain⟨b,h1,h⟩:=bS_ (show(eqF n _ x).bind _=_ from h)
   cases b with
   |true=>
    obtain⟨c,h2,h3⟩:=bS_ (show(anyF _ _).bind _=_ from h)
    cases h3
    exact⟨by simp,ziN I hk r a h1,λm hm hlt=>by omega⟩
   |false=>
    obtain⟨k,h2,h3⟩:=bS_ (show(zdU _ _).bind _=_ from h)
    cases h3
    obtain⟨hk',e1,e2⟩:=ih _ _ t h2
    refine⟨by simpa using hk',by simpa using e1,λm hm hlt=>?_⟩
    cases m with
    |zero=>exact ziN I hk r a h1
    |succ m=>simpa using e2 m (by simpa using hm) (by omega)) h us j hv e
theorem zfL(hk:KdOk X kd)(hu:X.A.units+100<cLine):MtD X kd "list.index" Xw:=by
 intro pins s σ H x xs v us Q I rx r h
 obtain⟨O,d,ds,r0,ht,vx,vl,he,q⟩:=h
 obtain⟨y',y,rfl,vy,he⟩:=zcz vl he
 obtain⟨es,h0,he2⟩:=bS_ (show(asL d).bind _=_ from he)
 cases zcw h0
 · obtain⟨j,h1,he⟩:=bS_ he2
   obtain⟨hz,he⟩:=yj he
   cases he
   obtain⟨u,rfl,ru⟩:=vals1 r
   cases vx with
   |lst hr rl=>
    cases rx
    obtain⟨its,rv,pl,_⟩:=I.list hr.sq
    obtain⟨⟨cls,dd,data,sl⟩,ho,hc,n,hd⟩:=pl.isList
    simp only at hc hd
    subst hc hd
    obtain⟨hj,e1,e2⟩:=zqI I hk rv rl h1
    have hlen:=rv.length
    have hlen2:=rl.length
    refine call_meets PySem.F.slot_list_index ⟨_,ho,rfl⟩ PySem.F.entry_list_index (PySem.F.args_list_index_2 _ _)
     (SeqAt.list_indexAt _ its.toArray n dd sl _ (eqW X.K kd O H 50 y) j (by simpa using hj) (by omega) (by simpa using e1) (λm hm hlt=>by simpa using e2 m (by simpa using hm) hlt))
     ⟨ho,λw hw=>zdl I hk (by show X.A.units+1+50<cLine;omega) vy ru rv rl (zkS h1) w (by simpa using hw),⟨.int j,H,I.tok _,⟨_,rfl⟩,yQ q (.int _)⟩⟩
end
theorem zeV:∀{vs:List V}{us:List Value},vs.length=us.length->(∀(i:Nat) v u,vs[i]? = some v->us[i]? = some u->RelV v u)->Vals vs us
 | [],[],_,_=>.nil
 | [],_::_,h,_=>by simp at h
 |_::_,[],h,_=>by simp at h
 |v::vs,u::us,h,k=>.cons (k 0 v u rfl rfl) (zeV (by simpa using h) λi a b x y=>k (i+1) a b (by simpa using x) (by simpa using y))
section
variable{X:Cx}{tg:Expr}
def zvc(ta:TA):TE:=λσ H Q=>ta σ H λvs H1=>∃j:Int,vs=[.int j] /\ -(2 ^ 62)<=j/\j<2 ^ 62/\∀r,H1 r=none->Q (.ref r) (upd H1 r (.rng 0 j))
theorem zoi{a:Expr}{ta:TA}{p pos:Pos}(hg:Gl X "range")(hm:X.mg "range"=none)(ha:PA X [a] ta)(hs:starEach [a] X.env=[(false,eval a X.env)]):PE X (.Call (.Name "range" p) [a] [] pos) (zvc ta):=by
 intro pins s σ H Q I h
 refine Call_ (W0 I hg hm boot_range (PyProof.Rows.callWith_type1 (thn (ha pos pins s σ H _ I h) λus s1 ⟨vs,H1,I1,r1,q1⟩=>?_) hs rfl))
 obtain⟨j,e,b1,b2,q⟩:=q1
 subst e
 cases r1 with
 |cons r rr=>
  cases rr
  obtain⟨t,rfl⟩:=r
  exact call_range_1 ⟨.ref s1.heap.objs.size,_,I1.laid (λb o e=>zxG _ e) (zzL _) (show vY X.prog X.w _ _ _ (.rng 0 j)from⟨_,_,_,zxI _ rfl⟩),rfl,q _ (I1.hok.fresh (zzL _))⟩
def tLR(ta:TA):TE:=λσ H Q=>zsp (zvc ta) zuQ σ H λvs H2=>∃r H1,∃j:Int,vs=[.ref r]/\H1 r=none/\H2=upd H1 r (.rng 0 j)/\0<=j/\j<=100000/\∀l,H2 l=none->Q (.ref l) (upd H2 l (.lst ((List.range j.toNat).map λ(i:Nat)=>V.int i)))
theorem znH{a:Expr}{ta:TA}{p p' pos pos':Pos}(hc:X.calm=true)(hg:Gl X "range")(hm:X.mg "range"=none)(hgl:Gl X "list")(hml:X.mg "list"=none)(ha:PA X [a] ta)(hs:starEach [a] X.env=[(false,eval a X.env)])
 (hs':starEach [.Call (.Name "range" p) [a] [] pos] X.env=[(false,eval (.Call (.Name "range" p) [a] [] pos) X.env)]):PE X (.Call (.Name "list" p') [.Call (.Name "range" p) [a] [] pos] [] pos') (tLR ta):=by
 intro pins s σ H Q I h
 refine Call_ (W0 I hgl hml Bt.list (PyProof.Rows.callWith_type1 (thn ((zdc (zoi hg hm ha hs) zgJ hs') pos' pins s σ H (λvs H2=>∃r H1,∃j:Int,vs=[.ref r]/\H1 r=none/\H2=upd H1 r (.rng 0 j)/\0<=j/\j<=100000/\∀l,H2 l=none->Q (.ref l) (upd H2 l (.lst ((List.range j.toNat).map λ(i:Nat)=>V.int i)))) I ?_) λus s1 ⟨vs,H2,I2,r1,q1⟩=>?_) hs' rfl))
 · exact h
 obtain⟨r,H1,j,rfl,hn,rfl,h0,h1,q⟩:=q1
 cases r1 with
 |cons rr rs=>
  cases rs
  cases rr
  obtain⟨t,u,v,ho⟩:=I2.hok r _ (yZ ..)
  have hsz:Builtin.Range.rangeSize 0 j 1=(j.toNat:Nat):=by rw[rangeSize_one];split<;>omega
  refine call_list_range (I2.ok.hd hc) ho (small_one (by omega) (by omega) (by omega) (by omega)) (n:=j.toNat) (by exact_mod_cast hsz) (by omega) λh' tk acc c' hk hob hit=>?_
  refine⟨.ref s1.heap.objs.size,_,I2.laid hk (zzL _) (show vY X.prog X.w _ _ _ (.lst ((List.range j.toNat).map λ(i:Nat)=>V.int i))from⟨?_,acc.toList,c', ?_,by simpa using hob⟩),rfl,q _ (I2.hok.fresh (zzL _))⟩
  · rw[zD,zyS];exact zzM (show j.toNat<=100000 by omega) (by decide)
  · refine zeV (by rw[zD,zyS];simpa using hit.1.symm) λi x y hx hy=>?_
    rw[zzG]at hx
    obtain⟨tk',e⟩:=hit.2 i y (by simpa using hy)
    cases hr:(List.range j.toNat)[i]? with
    |none=>rw[hr]at hx;cases hx
    |some k=>
     rw[hr]at hx
     obtain⟨_,hk'⟩:=zzE.mp hr
     rw[List.getElem_range]at hk'
     subst hk'
     cases hx
     exact⟨tk',by rw[e];simp⟩
end
section
variable{X:Cx}{kd:KD}
def lrP:List D->Option R0
 | [.int j]=>if 0<=j/\j<=100000 then some (.fl ((List.range j.toNat).map λ(i:Nat)=>.int i))else none
 |_=>none
theorem znl{K:zC}{O:Addr->Prop}{H:Hp}:∀l:List Nat,RpL K kd O H (l.map λ(i:Nat)=>V.int i) (l.map λ(i:Nat)=>D.int i)
 | []=>.nil
 |y::r=>.cons (.int y) (znl r)
theorem zec{a:Expr}{fr:AF}{p p' pos pos':Pos}(hc:X.calm=true)(hg:Gl X "range")(hm:X.mg "range"=none)(hgl:Gl X "list")(hml:X.mg "list"=none)(ha:AA X kd [a] fr)(hs:starEach [a] X.env=[(false,eval a X.env)])
 (hs':starEach [.Call (.Name "range" p) [a] [] pos] X.env=[(false,eval (.Call (.Name "range" p) [a] [] pos) X.env)]):AE X kd (.Call (.Name "list" p') [.Call (.Name "range" p) [a] [] pos] [] pos') (fP fr lrP):=by
 with_unfolding_all exact(wL (znH hc hg hm hgl hml ha hs hs') λσ H Q h=>by
  obtain⟨F,B,ad,as,r,as',R,e,q⟩:=h
  obtain⟨⟨rs,as1⟩,h1,e⟩:=bS_ (show(fr as).bind _=_ from e)
  obtain⟨⟨ds,lv⟩,h2,e⟩:=bS_ e
  obtain⟨r0,h3,e⟩:=bS_ e
  obtain⟨z,h4,e⟩:=bS_ e
  cases e
  match ds,h3,h2 with
  | [.int j],h3,h2=>
   obtain⟨⟨b1,b2⟩,e3⟩:=yj (show(if 0<=j/\j<=100000 then some (R0.fl ((List.range j.toNat).map λ(i:Nat)=>.int i))else none)=some r0 from h3)
   cases e3
   refine(show alA X.K kd fr σ H _ from⟨F,B,ad,as,rs,as1,R,h1,λvs ad1 H1 R1 rv1 g1=>?_⟩)
   have vl:=zbh R1 rv1 h2
   have rq:=Vb R1 h4 (Q:=Q) λw T' H' R' rv' g'=>q w T' ad1 H' R' rv' (g1.trans g')
   cases vl with
   |cons v1 v2=>
    cases v2
    cases v1
    refine⟨j,rfl,by omega,by omega,λr hr=>⟨r,H1,j,rfl,hr,rfl,b1,b2,λl hl=>?_⟩⟩
    have hlr:l≠r:=λe=>by rw[e,yZ]at hl;cases hl
    have hl1:H1 l=none:=by rw[yo hlr]at hl;exact hl
    exact rq l _ _ hl1 (λb o q=>ZG hl b o (ZG hr b o q)) yZ (znl _))
end
theorem zmP{L:Bool->V->D->Prop}{N:Addr->Prop}{H:Hp}{vs:List V}{ls:List O}{fp:List Addr}(h:RoL L N H vs ls fp):vs.length=ls.length:=RoL.length h
section
variable{K:zC}{kd:KD}{F B G:Addr->Prop}{H:Hp}
theorem zcR{p:Addr}{u:HO}(hp:G p):Grow G H G (upd H p u):=⟨λb w h n=>by rw[yo (λe=>n (by subst e;exact hp))];exact h,λb z=>.inl z⟩
theorem ziM:∀(os:List O) {vs:List V}{fp:List Addr}{n:Nat}{o:O},YL K kd F B G H vs os fp->fp.Nodup->(∀a ∈ fp,G a)->os[n]? = some o->
 ∃v f,vs[n]? = some v/\RoS K kd F B G H v o f/\f.Nodup/\(∀a ∈ f,a ∈ fp)/\∀(p:Addr) (u:HO) (o':O),p ∈ f->RoS K kd F B G (upd H p u) v o' f->YL K kd F B G (upd H p u) vs (os.set n o') fp
 | [],_,_,_,_,_,_,_,e=>by simp at e
 |o1::os,_,_,n,o,r,hn,hG,e=>by
  cases r with
  |cons a r=>
   rename_i v vs fp fq
   obtain⟨n1,n2,n3⟩:=zxD.mp hn
   cases n with
   |zero=>
    simp at e
    subst e
    exact⟨v,fp,rfl,a,n1,λx m=>zzN _ m,λp u o' hp ro=>.cons ro (YL.grow (zcR (hG p (zzN _ hp))) (λx m w h=>by rw[yo (λe=>n3 p hp x m e.symm)];exact h) r)⟩
   |succ n=>
    obtain⟨v',f,h1,h2,h3,h4,h5⟩:=ziM os (n:=n) (o:=o) r n2 (λx m=>hG x (zzJ _ m)) (by simpa using e)
    exact⟨v',f,by simpa using h1,h2,h3,λx m=>zzJ _ (h4 x m),λp u o' hp ro=>.cons (RoS.grow (zcR (hG p (zzJ _ (h4 p hp)))) (λx m w h=>by rw[yo (λe=>n3 x m p (h4 p hp) e)];exact h) a) (h5 p u o' hp ro)⟩
theorem zhQ{L:Bool->V->D->Prop}{N:Addr->Prop}{v:V}{st':Bool}{d':D}(h:L st' v d'):∀(os:List O) {vs:List V}{fp:List Addr}{n:Nat}{st:Bool}{d:D},RoL L N H vs os fp->os[n]? = some (.lf st d)->RoL L N H (vs.set n v) (os.set n (.lf st' d')) fp
 | [],_,_,_,_,_,_,e=>by simp at e
 |o1::os,_,_,n,st,d,r,e=>by
  cases r with
  |cons a r=>
   cases n with
   |zero=>
    simp at e
    subst e
    cases a with
    |lf _=>exact .cons (.lf h) r
   |succ n=>exact .cons a (zhQ h os (n:=n) (st:=st) (d:=d) r (by simpa using e))
theorem zjX{v:V}{inner:List O}{fp:List Addr}{n:Nat}{st:Bool}{d:D}(c:Int)(r:RoS K kd F B G H v (.nd .ls inner) fp)(hn:fp.Nodup)(hG:∀a ∈ fp,G a)(e:inner[n]? = some (.lf st d)):
 ∃p ivs,v = .ref p/\p ∈ fp/\H p=some (.lst ivs)/\n<ivs.length/\RoS K kd F B G (upd H p (.lst (ivs.set n (.int c)))) v (.nd .ls (inner.set n (.lf true (.int c)))) fp:=by
 cases r with
 |ls hp ir=>
  rename_i p ivs ifp
  have hpfp:p ∉ ifp:=(zzU.mp hn).1
  refine⟨p,ivs,rfl,zzD ..,hp,by rw[zmP ir];exact(zzE.mp e).1,.ls yZ (zhQ (.int c) inner (YL.grow (zcR (hG p (zzD ..))) (λx m w h=>by rw[yo (λe=>hpfp (by subst e;exact m))];exact h) ir) e)⟩
theorem zlu{v:V}{os:List O}{fp:List Addr}{n:Nat}{o:O}(r:RoS K kd F B G H v (.nd .ls os) fp)(hn:fp.Nodup)(hG:∀a ∈ fp,G a)(e:os[n]? = some o):
 ∃l vs w f,v = .ref l/\H l=some (.lst vs)/\vs[n]? = some w/\RoS K kd F B G H w o f/\f.Nodup/\(∀a ∈ f,a ∈ fp)/\∀(p:Addr) (u:HO) (o':O),p ∈ f->RoS K kd F B G (upd H p u) w o' f->RoS K kd F B G (upd H p u) v (.nd .ls (os.set n o')) fp:=by
 cases r with
 |ls hp ir=>
  rename_i l vs ifp
  obtain⟨w,f,h1,h2,h3,h4,h5⟩:=ziM os ir (zzU.mp hn).2 (λa m=>hG a (zzB _ m)) e
  exact⟨l,vs,w,f,rfl,hp,h1,h2,h3,λa m=>zzB _ (h4 a m),λp u o' hpf ro=>.ls (by rw[yo (λe=>(zzU.mp hn).1 (by rw[e];exact h4 p hpf))];exact hp) (h5 p u o' hpf ro)⟩
theorem zsZ{v:V}{os:List O}{fp:List Addr}{n:Nat}{o:O}(r:RoS K kd F B G H v (.nd .tp os) fp)(hn:fp.Nodup)(hG:∀a ∈ fp,G a)(e:os[n]? = some o):
 ∃l vs w f,v = .ref l/\H l=some (.tup vs)/\vs[n]? = some w/\RoS K kd F B G H w o f/\f.Nodup/\(∀a ∈ f,a ∈ fp)/\∀(p:Addr) (u:HO) (o':O),p ∈ f->RoS K kd F B G (upd H p u) w o' f->RoS K kd F B G (upd H p u) v (.nd .tp (os.set n o')) fp:=by
 cases r with
 |tp hN hp ir=>
  rename_i l vs
  obtain⟨w,f,h1,h2,h3,h4,h5⟩:=ziM os ir hn hG e
  exact⟨l,vs,w,f,rfl,hp,h1,h2,h3,h4,λp u o' hpf ro=>.tp hN (by rw[yo (λe=>hN (.inr (by rw[e];exact hG p (h4 p hpf))))];exact hp) (h5 p u o' hpf ro)⟩
end
section
variable{K:zC}{kd:KD}{F B:Addr->Prop}{ad:Ad}{as:AS}{σ:St}{H:Hp}{i:Nat}{o:O}
theorem Rel.slotU(R:Rel K kd F B [] ad as σ H)(k:as[i]? = some (some o)):
 ∃v,σ[i]? = some (some v)/\RoS K kd F B (Gw [] ad) H v o (ad i)/\(ad i).Nodup/\(∀a ∈ ad i,Gw [] ad a)/\
  ∀(p:Addr) (u:HO) (o':O),p ∈ ad i->RoS K kd F B (Gw [] ad) (upd H p u) v o' (ad i)->Rel K kd F B [] ad (as.set i (some o')) σ (upd H p u)/\Grow (Gw [] ad) H (Gw [] ad) (upd H p u):=by
 obtain⟨v,hv,ro⟩:=R.sl i _ k
 have hi:i<as.length:=(zzE.mp k).1
 refine⟨v,hv,ro,R.nd i,λa m=>.inr ⟨i,m⟩,λp u o' hp ro'=>?_⟩
 have g:Grow (Gw [] ad) H (Gw [] ad) (upd H p u):=zcR (.inr ⟨i,hp⟩)
 have kn:∀a,H a≠none->upd H p u a≠none:=λa z=>by
  by_cases e:a=p
  · subst e;rw[yZ];simp
  · rw[yo e];exact z
 refine⟨⟨by rw[zzS];exact R.len,λj hj=>R.out j (by rw[zzS]at hj;exact hj),R.nd,R.inj,R.tnd,R.dis,λa z=>kn a (R.ftr a z),λa z=>⟨kn a (R.btr a z).1,(R.btr a z).2⟩,λa z=>⟨kn a (R.gtr a z).1,(R.gtr a z).2⟩,λj s e=>?_⟩,g⟩
 by_cases q:j=i
 · subst q
   rw[zyI hi]at e
   cases e
   exact⟨v,hv,ro'⟩
 · rw[zzW (Ne.symm q)]at e
   exact(R.sl j s e).grow g λa m u h=>by rw[yo (λe=>q (R.inj j i a m (by rw[e];exact hp)))];exact h
theorem Rel.any{y:Nat}{v:Option V}(R:Rel K kd F B [] ad as σ H)(hy:as[y]? = some none):Rel K kd F B [] ad as (σ.set y v) H:=by
 refine⟨by rw[zzS];exact R.len,R.out,R.nd,R.inj,R.tnd,R.dis,R.ftr,R.btr,R.gtr,λj s e=>?_⟩
 by_cases q:j=y
 · subst q
   rw[hy]at e
   cases e
   exact R.sl j none hy
 · rw[zzW (Ne.symm q)]
   exact R.sl j s e
end
abbrev IXF:=AS->Option Int
def tSt(K:zC)(kd:KD)(f:IXF):TE:=λσ H Q=>∃F B ad as k,Rel K kd F B [] ad as σ H/\f as=some k/\Q (.int k) H
@[irreducible] def AK(X:Cx)(kd:KD)(e:Expr)(f:IXF):Prop:=PE X e (tSt X.K kd f)
def xC(c:Int):IXF:=λ_=>some c
def zaR:O->Option (List O)
 | .nd .ls os=>some os
 |_=>none
def zqH:O->Option (List O)
 | .nd .tp os=>some os
 |_=>none
def zdz:O->Option D
 | .lf _ d=>some d
 |_=>none
def atO{α:Type}(f:O->Option α)(os:List O)(k:Nat):Option α:=os[k]?.bind f
def slO{α:Type}(f:O->Option α)(as:AS)(i:Nat):Option α:=as[i]?.bind λs=>s.bind f
theorem zmx{o:O}{os:List O}(h:zaR o=some os):o = .nd .ls os:=by
 cases o with
 |lf s d=>cases h
 |nd k os=>cases k<;>cases h;rfl
theorem zrX{o:O}{os:List O}(h:zqH o=some os):o = .nd .tp os:=by
 cases o with
 |lf s d=>cases h
 |nd k os=>cases k<;>cases h;rfl
theorem zng{o:O}{d:D}(h:zdz o=some d):∃st,o = .lf st d:=by
 cases o with
 |lf s d=>cases h;exact⟨s,rfl⟩
 |nd k os=>cases h
theorem zlZ{α:Type}{f:O->Option α}{os:List O}{k:Nat}{a:α}(h:atO f os k=some a):∃o,os[k]? = some o/\f o=some a:=bS_ h
theorem zoB{α:Type}{f:O->Option α}{as:AS}{k:Nat}{a:α}(h:slO f as k=some a):∃o,as[k]? = some (some o)/\f o=some a:=by
 obtain⟨s,h1,h⟩:=bS_ h
 obtain⟨o,rfl,h⟩:=bS_ h
 exact⟨o,h1,h⟩
theorem ztF{os inner:List O}{k:Nat}(h:atO zaR os k=some inner):os[k]? = some (.nd .ls inner):=by
 obtain⟨o,h1,h⟩:=zlZ h
 cases zmx h
 exact h1
theorem zwQ{os inner:List O}{k:Nat}(h:atO zqH os k=some inner):os[k]? = some (.nd .tp inner):=by
 obtain⟨o,h1,h⟩:=zlZ h
 cases zrX h
 exact h1
theorem zsX{os:List O}{d:D}{k:Nat}(h:atO zdz os k=some d):∃st,os[k]? = some (.lf st d):=by
 obtain⟨o,h1,h⟩:=zlZ h
 obtain⟨st,rfl⟩:=zng h
 exact⟨st,h1⟩
theorem zrQ{as:AS}{inner:List O}{k:Nat}(h:slO zaR as k=some inner):as[k]? = some (some (.nd .ls inner)):=by
 obtain⟨o,h1,h⟩:=zoB h
 cases zmx h
 exact h1
theorem zvG{as:AS}{d:D}{k:Nat}(h:slO zdz as k=some d):∃st,as[k]? = some (some (.lf st d)):=by
 obtain⟨o,h1,h⟩:=zoB h
 obtain⟨st,rfl⟩:=zng h
 exact⟨st,h1⟩
theorem zbg{α:Type}{f:O->Option α}{os:List O}{k:Nat}{o:O}{a:α}(h:os[k]? = some o)(e:f o=some a):atO f os k=some a:=by unfold atO;rw[h];exact e
theorem zcJ{α:Type}{f:O->Option α}{as:AS}{k:Nat}{o:O}{a:α}(h:as[k]? = some (some o))(e:f o=some a):slO f as k=some a:=by unfold slO;rw[h];exact e
def xV(i:Nat):IXF:=λas=>(slO zdz as i).bind asI
def xAt(i:Nat)(f:IXF):IXF:=λas=>(f as).bind λk=>if 0<=k then(slO zdz as i).bind λd=>(asL d).bind λds=>ds[k.toNat]?.bind asI else none
def zae(f g:IXF):IXF:=λas=>(f as).bind λa=>(g as).bind λb=>if 0<b then some (a%b)else none
def zpe(i:Nat):IXF:=λas=>(slO zaR as i).bind λos=>some (os.length:Int)
section
variable{X:Cx}{kd:KD}{f g:IXF}{a b:Expr}
theorem VB{c:Int}{j pos}:AK X kd (.Constant (.int c) j pos) (xC c):=by
 with_unfolding_all exact(wL zlA λσ H Q h=>by
  obtain⟨F,B,ad,as,k,R,e,q⟩:=h
  cases e
  exact q)
theorem zel{i:Nat}{x:Str}{p:Pos}(hv:PE X (.Name x p) (zdK i)):AK X kd (.Name x p) (xV i):=by
 with_unfolding_all exact(wL hv λσ H Q h=>by
  obtain⟨F,B,ad,as,k,R,e,q⟩:=h
  obtain⟨d,e1,e⟩:=bS_ (show(slO zdz as i).bind _=_ from e)
  cases zjB e
  obtain⟨st,k1⟩:=zvG e1
  obtain⟨v,hv,ro⟩:=R.sl i _ k1
  generalize ad i=fp at ro
  cases ro with
  |lf rp=>cases rp;exact⟨_,hv,q⟩)
theorem zfN{i:Nat}{x:Str}{p pos:Pos}(hv:PE X (.Name x p) (zdK i))(hb:AK X kd b f)(hs:Wb b):AK X kd (.Subscript (.Name x p) b pos) (xAt i f):=by
 with_unfolding_all exact(wL (zik zdq hv hb hs) λσ H Q h=>by
  obtain⟨F,B,ad,as,c,R,e,q⟩:=h
  obtain⟨k,h1,e⟩:=bS_ (show(f as).bind _=_ from e)
  obtain⟨hk,e⟩:=ite_some' e
  obtain⟨d0,e1,e3⟩:=bS_ e
  obtain⟨ds,e2,e4⟩:=bS_ e3
  obtain⟨d,k2,e5⟩:=bS_ e4
  cases zcw e2
  cases zjB e5
  obtain⟨st,k1⟩:=zvG e1
  obtain⟨v,hv,ro⟩:=R.sl i _ k1
  generalize ad i=fp at ro
  cases ro with
  |lf rp=>
   obtain⟨l,vs,rfl,hq,rl⟩:=ziQ (ad:=ad) (q:=st) rp (λz=>z)
   obtain⟨w,hw,rw'⟩:=rl.get k2
   cases rw'
   refine⟨_,hv,F,B,ad,as,k,R,h1,l,vs,k,_,rfl,rfl,hq ad H Grow.refl, ?_,q⟩
   have:=Xj hw
   rw[zyX hk]at this
   exact this)
theorem zcC{pos:Pos}(ha:AK X kd a f)(hb:AK X kd b g):AK X kd (.BinOp a .Mod b pos) (zae f g):=by
 with_unfolding_all exact(wL (zsv zoj ha hb) λσ H Q h=>by
  obtain⟨F,B,ad,as,c,R,e,q⟩:=h
  obtain⟨m,h1,e⟩:=bS_ (show(f as).bind _=_ from e)
  obtain⟨n,h2,e⟩:=bS_ e
  obtain⟨hn,e⟩:=yj e
  cases e
  exact⟨F,B,ad,as,m,R,h1,F,B,ad,as,n,R,h2,m,n,rfl,rfl,hn,q⟩)
theorem ztq{i:Nat}{x:Str}{p p0 pos:Pos}(hg:Gl X "len")(hm:X.mg "len"=none)(hb:bootBuiltins "len"=some (.builtin "len"))(hv:PE X (.Name x p) (zdK i))(hst:starEach [.Name x p] X.env=(false,eval (.Name x p) X.env)::starEach [] X.env)(hpl:(backTo pos (starEach [] X.env)).any (·.1)=false):AK X kd (.Call (.Name "len" p0) [.Name x p] [] pos) (zpe i):=by
 with_unfolding_all exact(wL (zkE Va hg hm hb (zdc hv zgJ hst) (by decide) (by decide) hst hpl) λσ H Q h=>by
  obtain⟨F,B,ad,as,c,R,e,q⟩:=h
  obtain⟨os,e1,e⟩:=bS_ (show(slO zaR as i).bind _=_ from e)
  cases e
  obtain⟨v,hv,ro⟩:=R.sl i _ (zrQ e1)
  generalize ad i=fp at ro
  cases ro with
  |ls hH rl=>
   rename_i l vs fp
   refine⟨_,hv,l,vs,rfl,.inl (.inl (.inl hH)), ?_⟩
   rw[zmP rl]
   exact q)
end
def zoH(i:Nat)(f fv:IXF):SF:=λas=>(f as).bind λk=>(fv as).bind λc=>if 0<=k then(slO zaR as i).bind λos=>(atO zdz os k.toNat).bind λ_=>some (.nx (as.set i (some (.nd .ls (os.set k.toNat (.lf true (.int c)))))))else none
def zlm(i:Nat)(f1 f2 fv:IXF):SF:=λas=>(f1 as).bind λk1=>(f2 as).bind λk2=>(fv as).bind λc=>if 0<=k1/\0<=k2 then(slO zaR as i).bind λos=>(atO zaR os k1.toNat).bind λinner=>(atO zdz inner k2.toNat).bind λ_=>some (.nx (as.set i (some (.nd .ls (os.set k1.toNat (.nd .ls (inner.set k2.toNat (.lf true (.int c)))))))))else none
def noS(as:AS)(y:Nat):Bool:=match as[y]? with
 |some none=>true
 |_=>false
theorem zsU{as:AS}{y:Nat}(h:noS as y=true):as[y]? = some none:=by
 unfold noS at h
 cases k:as[y]? with
 |none=>rw[k]at h;cases h
 |some s=>
  cases s with
  |none=>rfl
  |some _=>rw[k]at h;cases h
def zoT(y i:Nat)(f1:IXF)(n:Nat)(f2 f3 fv:IXF):SF:=λas=>(f1 as).bind λk1=>(f2 as).bind λk2=>(f3 as).bind λk3=>(fv as).bind λc=>if 0<=k1/\0<=k2/\0<=k3/\noS as y=true then
 (slO zaR as i).bind λos=>(atO zqH os k1.toNat).bind λps=>(atO zaR ps n).bind λrows=>(atO zaR rows k2.toNat).bind λinner=>(atO zdz inner k3.toNat).bind λ_=>some (.nx (as.set i (some (.nd .ls (os.set k1.toNat (.nd .tp (ps.set n (.nd .ls (rows.set k2.toNat (.nd .ls (inner.set k3.toNat (.lf true (.int c)))))))))))))else none
theorem zrd{n j:Nat}(h:j<n):ixN n (j:Int)=some j:=by
 unfold ixN
 rw[if_pos (by omega),if_pos (by omega)];simp
theorem zju{n:Nat}{k:Int}(h0:0<=k)(h:k.toNat<n):ixN n k=some k.toNat:=by
 have:=zrd h
 rw[show((k.toNat:Nat):Int)=k by omega]at this
 exact this
theorem zjR{α:Type}{xs:List α}{k:Int}{v:α}(h0:0<=k)(h:xs[k.toNat]? = some v):atI xs k=some v:=by
 have:=Xj h
 rw[show((k.toNat:Nat):Int)=k by omega]at this
 exact this
section
variable{X:Cx}{kd:KD}{f f1 f2 f3 fv:IXF}{e1 e2 e3 ev:Expr}{i y:Nat}
theorem zqP{x:Str}{p tpos pos:Pos}(ho:PE X (.Name x p) (zdK i))(h1:AK X kd e1 f)(hv:AK X kd ev fv)
 (ha:∀v,assign (.Subscript (.Name x p) e1 tpos) X.env v=(do
  let ov <-holding [v] (eval (.Name x p) X.env)
  let iv <-holding [v,ov] (eval e1 X.env)
  standAt tpos
  holding [v,ov,iv] (setItem ov iv v)
  release [v,ov,iv] []))
 (hs:swapsWithSole [.Subscript (.Name x p) e1 tpos] ev pos.line X.env=pure false) (hw:swappedStores [.Subscript (.Name x p) e1 tpos] ev X.env=pure none)
 (hm:(assignEach [.Subscript (.Name x p) e1 tpos] X.env).map (·.2)=[assign (.Subscript (.Name x p) e1 tpos) X.env]):
 ASt X kd (.Assign [.Subscript (.Name x p) e1 tpos] ev pos) (zoH i f fv):=by
 with_unfolding_all exact(YJ (zjc hv (zmc ho h1 set_list ha) hs hw hm) λD σ H h=>by
  obtain⟨F,B,ad,as,o,R,e,q⟩:=h
  obtain⟨k,j1,e⟩:=bS_ (show(f as).bind _=_ from e)
  obtain⟨c,j2,e⟩:=bS_ e
  obtain⟨hk,e⟩:=ite_some' e
  obtain⟨os,e1,e⟩:=bS_ e
  obtain⟨d,e2,e⟩:=bS_ e
  have k1:=zrQ e1
  obtain⟨st,k2⟩:=zsX e2
  cases e
  obtain⟨v,sv,ro,hn,hG,up⟩:=R.slotU k1
  obtain⟨p,ivs,rfl,hp,hH,hl,ro'⟩:=zjX c ro hn hG k2
  obtain⟨R2,g2⟩:=up p _ _ hp ro'
  exact⟨F,B,ad,as,c,R,j2,_,sv,F,B,ad,as,k,R,j1,p,ivs,k,k.toNat,rfl,rfl,hH,zju hk hl,q σ ad _ R2 g2⟩)
theorem zro{x:Str}{p p1 tpos pos:Pos}(ho:PE X (.Name x p) (zdK i))(h1:AK X kd e1 f1)(hp1:Wb e1)(h2:AK X kd e2 f2)(hv:AK X kd ev fv)
 (ha:∀v,assign (.Subscript (.Subscript (.Name x p) e1 p1) e2 tpos) X.env v=(do
  let ov <-holding [v] (eval (.Subscript (.Name x p) e1 p1) X.env)
  let iv <-holding [v,ov] (eval e2 X.env)
  standAt tpos
  holding [v,ov,iv] (setItem ov iv v)
  release [v,ov,iv] []))
 (hs:swapsWithSole [.Subscript (.Subscript (.Name x p) e1 p1) e2 tpos] ev pos.line X.env=pure false) (hw:swappedStores [.Subscript (.Subscript (.Name x p) e1 p1) e2 tpos] ev X.env=pure none)
 (hm:(assignEach [.Subscript (.Subscript (.Name x p) e1 p1) e2 tpos] X.env).map (·.2)=[assign (.Subscript (.Subscript (.Name x p) e1 p1) e2 tpos) X.env]):
 ASt X kd (.Assign [.Subscript (.Subscript (.Name x p) e1 p1) e2 tpos] ev pos) (zlm i f1 f2 fv):=by
 with_unfolding_all exact(YJ (zjc hv (zmc (zik zdq ho h1 hp1) h2 set_list ha) hs hw hm) λD σ H h=>by
  obtain⟨F,B,ad,as,o,R,e,q⟩:=h
  obtain⟨n1,j1,e⟩:=bS_ (show(f1 as).bind _=_ from e)
  obtain⟨n2,j2,e⟩:=bS_ e
  obtain⟨c,j3,e⟩:=bS_ e
  obtain⟨⟨hk1,hk2⟩,e⟩:=ite_some' e
  obtain⟨os,e1,e⟩:=bS_ e
  obtain⟨inner,e2,e⟩:=bS_ e
  obtain⟨d,e3,e⟩:=bS_ e
  have k1:=zrQ e1
  have k2:=ztF e2
  obtain⟨st,k3⟩:=zsX e3
  cases e
  obtain⟨v,sv,ro,hn,hG,up⟩:=R.slotU k1
  obtain⟨l,vs,w,fw,rfl,hH,hvs,rw1,fn,fs,up1⟩:=zlu ro hn hG k2
  obtain⟨p,ivs,rfl,hp,hHp,hl,ro'⟩:=zjX c rw1 fn (λa m=>hG a (fs a m)) k3
  obtain⟨R2,g2⟩:=up p _ _ (fs p hp) (up1 p _ _ hp ro')
  exact⟨F,B,ad,as,c,R,j3,_,sv,F,B,ad,as,n1,R,j1,l,vs,n1,_,rfl,rfl,.inl (.inl hH),zjR hk1 hvs,F,B,ad,as,n2,R,j2,p,ivs,n2,n2.toNat,rfl,rfl,hHp,zju hk2 hl,q σ ad _ R2 g2⟩)
theorem zqO{x z:Str}{n:Nat}{ec:Expr}{p p1 p2 py pos0 q0 q1 tpos pos:Pos}(hN:X.N.Nodup)(hyi:X.N[y]? = some z)(hyl:Loc X.env.scope z)(hyf:X.fn z=true\/X.env.scope.names.lookup z=some .local)
 (ho:PE X (.Name x p) (zdK i)) (h1:AK X kd e1 f1) (hp1:Wb e1) (hc:PE X ec (tC (.int n))) (hpc:Wb ec) (hsw:swapsWith (.Subscript (.Subscript (.Name x p) e1 p1) ec p2) (some (.Name z py)) pos0.line X.env=pure false)
 (ho2:PE X (.Name z q0) (zdK y)) (h2:AK X kd e2 f2) (hp2:Wb e2) (h3:AK X kd e3 f3) (hv:AK X kd ev fv)
 (ha:∀v,assign (.Subscript (.Subscript (.Name z q0) e2 q1) e3 tpos) X.env v=(do
  let ov <-holding [v] (eval (.Subscript (.Name z q0) e2 q1) X.env)
  let iv <-holding [v,ov] (eval e3 X.env)
  standAt tpos
  holding [v,ov,iv] (setItem ov iv v)
  release [v,ov,iv] []))
 (hs:swapsWithSole [.Subscript (.Subscript (.Name z q0) e2 q1) e3 tpos] ev pos.line X.env=pure false) (hw:swappedStores [.Subscript (.Subscript (.Name z q0) e2 q1) e3 tpos] ev X.env=pure none)
 (hm:(assignEach [.Subscript (.Subscript (.Name z q0) e2 q1) e3 tpos] X.env).map (·.2)=[assign (.Subscript (.Subscript (.Name z q0) e2 q1) e3 tpos) X.env]):
 ASs X kd [.Assign [.Name z py] (.Subscript (.Subscript (.Name x p) e1 p1) ec p2) pos0,.Assign [.Subscript (.Subscript (.Name z q0) e2 q1) e3 tpos] ev pos] (zoT y i f1 n f2 f3 fv):=by
 with_unfolding_all exact(zjE (zkw (zpL hN hyi hyl (zik zqd (zik zdq ho h1 hp1) hc hpc) hsw hyf) (zne (zjc hv (zmc (zik zdq ho2 h2 hp2) h3 set_list ha) hs hw hm))) λD σ H h=>by
  obtain⟨F,B,ad,as,o,R,e,q⟩:=h
  obtain⟨n1,j1,e⟩:=bS_ (show(f1 as).bind _=_ from e)
  obtain⟨n2,j2,e⟩:=bS_ e
  obtain⟨n3,j3,e⟩:=bS_ e
  obtain⟨c,j4,e⟩:=bS_ e
  obtain⟨⟨hk1,hk2,hk3,hy⟩,e⟩:=ite_some' e
  have hy:=zsU hy
  obtain⟨os,e1,e⟩:=bS_ e
  obtain⟨ps,e2,e⟩:=bS_ e
  obtain⟨rows,e3,e⟩:=bS_ e
  obtain⟨inner,e4,e⟩:=bS_ e
  obtain⟨d,e5,e⟩:=bS_ e
  have k1:=zrQ e1
  have k2:=zwQ e2
  have k3:=ztF e3
  have k4:=ztF e4
  obtain⟨st,k5⟩:=zsX e5
  cases e
  obtain⟨v,sv,ro,hn,hG,up⟩:=R.slotU k1
  obtain⟨l,vs,w,fw,rfl,hH,hvs,rw1,fn,fs,up1⟩:=zlu ro hn hG k2
  obtain⟨l2,vs2,w2,fw2,rfl,hH2,hvs2,rw2,fn2,fs2,up2⟩:=zsZ rw1 fn (λa m=>hG a (fs a m)) k3
  obtain⟨l3,vs3,w3,fw3,rfl,hH3,hvs3,rw3,fn3,fs3,up3⟩:=zlu rw2 fn2 (λa m=>hG a (fs a (fs2 a m))) k4
  obtain⟨p,ivs,rfl,hp,hHp,hl,ro'⟩:=zjX c rw3 fn3 (λa m=>hG a (fs a (fs2 a (fs3 a m)))) k5
  have m3:=fs3 p hp
  have m2:=fs2 p m3
  have m1:=fs p m2
  obtain⟨R2,g2⟩:=up p _ _ m1 (up1 p _ _ m2 (up2 p _ _ m3 (up3 p _ _ hp ro')))
  have yl:y<σ.length:=by rw[<-R.len];exact(zzE.mp hy).1
  have R':=R.any (y:=y) (v:=some (.ref l3)) hy
  have niy:i≠y:=λe=>by subst e;rw[hy]at k1;cases k1
  have R2':=R2.any (y:=y) (v:=some (.ref l3)) (by rw[zzW niy];exact hy)
  refine⟨_,sv,F,B,ad,as,n1,R,j1,l,vs,n1,_,rfl,rfl,.inl (.inl hH),zjR hk1 hvs,l2,vs2,(n:Int),_,rfl,rfl,.inl (.inl hH2),Xj hvs2, ?_⟩
  exact⟨F,B,ad,as,c,R',j4,_,zyI yl,F,B,ad,as,n2,R',j2,l3,vs3,n2,_,rfl,rfl,.inl (.inl hH3),zjR hk2 hvs3,F,B,ad,as,n3,R',j3,p,ivs,n3,n3.toNat,rfl,rfl,hHp,zju hk3 hl,q _ ad _ R2' g2⟩)
end
section
variable{X:Cx}{kd:KD}
theorem zti:SlR X (λx lo hi H Q=>∃z,x = .str z/\z.length<=sizeLine/\Q (.str (Txt.slice z lo hi)) H):=by
 intro pins s σ H x v vl vu lo hi sl Q I rx hs pl pu h
 obtain⟨z,rfl,hz,q⟩:=h
 obtain⟨t,rfl⟩:=rx
 refine⟨"str",_,F.slot_str_getitem.lookup,typeIs_str _ _ _, ?_⟩
 cases pl with
 |none=>
  cases pu with
  |none=>exact wpAny_getItem_str_slice (l:=none) (u:=none) (st:=none) hs rfl (post_val_or_str ⟨zzM (Txt.slice_le z _ _) hz,λt' k=>⟨.str _,H,I.kept (λ_ _ e=>e),⟨_,rfl⟩,q⟩⟩)
  |int j uj=>exact wpAny_getItem_str_slice (l:=none) (u:=some (j,uj)) (st:=none) hs rfl (post_val_or_str ⟨zzM (Txt.slice_le z _ _) hz,λt' k=>⟨.str _,H,I.kept (λ_ _ e=>e),⟨_,rfl⟩,q⟩⟩)
 |int i ui=>
  cases pu with
  |none=>exact wpAny_getItem_str_slice (l:=some (i,ui)) (u:=none) (st:=none) hs rfl (post_val_or_str ⟨zzM (Txt.slice_le z _ _) hz,λt' k=>⟨.str _,H,I.kept (λ_ _ e=>e),⟨_,rfl⟩,q⟩⟩)
  |int j uj=>exact wpAny_getItem_str_slice (l:=some (i,ui)) (u:=some (j,uj)) (st:=none) hs rfl (post_val_or_str ⟨zzM (Txt.slice_le z _ _) hz,λt' k=>⟨.str _,H,I.kept (λ_ _ e=>e),⟨_,rfl⟩,q⟩⟩)
def slS:D->Option Int->Option Int->Option R0
 | .str z,lo,hi=>if z.length<=sizeLine then some (.im (.str (Txt.slice z lo hi)))else none
 |_,_,_=>none
theorem zvj:SlR X (λx lo hi H Q=>∃O d r,(∀a,O a->H a≠none)/\Vw X.K kd O H x d/\slS d lo hi=some r/\RQ X.K kd O H Q r):=by
 intro pins s σ H x v vl vu lo hi sl Q I rx hs pl pu h
 obtain⟨O,d,r,ht,vx,he,q⟩:=h
 unfold slS at he
 split at he
 · obtain⟨c,rfl⟩:=yj he
   cases vx
   exact zti pins s σ H _ v vl vu lo hi sl Q I rx hs pl pu ⟨_,rfl,c,yQ q (.str _)⟩
 · cases he
theorem zhP{a:Expr}{lo hi:Option Expr}{fa:EF}{fl fh:OF}{pos p2:Pos}(ha:AE X kd a fa)(hl:AO X kd lo fl)(hh:AO X kd hi fh):AE X kd (.Subscript a (.Slice lo hi none p2) pos) (fSl fa fl fh slS):=by with_unfolding_all exact(wL (zks zvj ha hl hh) λσ H Q h=>by
 obtain⟨F,B,ad,as,r,as',R,e,q⟩:=h
 obtain⟨⟨p,as1⟩,h1,e⟩:=bS_ (show(fa as).bind _=_ from e)
 obtain⟨⟨l,as2⟩,h2,e⟩:=bS_ e
 obtain⟨⟨u,as3⟩,h3,e⟩:=bS_ e
 obtain⟨⟨d,lv⟩,h4,e⟩:=bS_ e
 obtain⟨r',h5,e⟩:=bS_ e
 obtain⟨z,h6,e⟩:=bS_ e
 cases e
 refine zca R h1 λv ad1 H1 R1 rv1 g1=>⟨F,B,ad1,as1,l,as2,R1,h2,λad2 H2 R2 g2=>⟨F,B,ad2,as2,u,_,R2,h3,λad3 H3 R3 g3=>?_⟩⟩
 exact⟨_,d,r',R3.tr _,Z2.vw R3 ((rv1.grow g2).grow g3) h4,h5,Vb R3 h6 λw T' H' R' rv' g'=>q w T' ad3 H' R' rv' (((g1.trans g2).trans g3).trans g')⟩)
end
theorem ziW:typeLookup (.type "list") "keys"=pure none:=am_miss_of_fast (by decide +kernel)
theorem zlv{prog:Program}{w:World}{A:Around}{E:Value->Shared->Prop}{s:Shared}{a:Addr}{o:Obj}{xs:Array Value}{k:Nat}{Q:Option Value->Shared->Prop}
 (hx:s.heap.get? a=some o) (hc:o.cls = .type "list") (hdat:o.data = .seq xs k) (hd:o.dict=none) (hA:A.handled=none)
 (h:∀h' tk,(∀b o,s.heap.get? b=some o->h'.get? b=some o)->Q none {s with heap:=h',toks:=tk}):
 wpAny (model prog w) A (getAttr? (.ref a) "keys") Q E s:=by
 obtain⟨c,dct,dat,sl⟩:=o
 simp only at hc hdat hd
 subst hc hdat hd
 obtain⟨hp,g,d,tk,os⟩:=s
 have hT:∀tk',(⟨hp,g,d,tk',os⟩:Shared).TypeIs (.ref a) "list":=λ_=>⟨_,hx,rfl⟩
 have f1:=sub_AttributeError
 have f3:=F.slot_list_getattribute.lookup
 have f4:=F.slot_list_getattribute.bind (.ref a)
 have f5:=am_list_getattr_none
 unfold getAttr? getAttrBy? getAttrBy
 repeat (any_goals (first|assumption|exact hT _|((with_reducible show wpAny _ _ (call (Value.builtin "list.__getattribute__") _ _) _ _ _);refine call_meets F.slot_list_getattribute (hT _) am_entry_list_getattribute (F.args_list_getattribute_2 _ _) (meets_getattribute_miss_list a xs k sl "keys" _ ziW (by decide +kernel)) ⟨hx,hA,λh' tk' e hx'=>?_⟩)|wp_step))
 obtain⟨t',u',he⟩:=hx'.there
 show wpAny _ _ (getattributeRaised _ _ _ _ _ _ _) _ _ _
 unfold getattributeRaised
 repeat (any_goals (first|assumption|wp_step))
 exact h _ _ hx'.keeps
theorem Z6:plainId "dict.update.loop"=true:=by decide +kernel
theorem zat:entryFor table "dict.update.loop"=some Builtin.«dict.update.loop» := entryFor_of_fast (by kernel_rfl)
section
variable{prog:Program}{w:World}{κ:Type}[DecidableEq κ]{knd:KeyKind prog w κ}{A:Around}{R:Result->Shared->Prop}{d I l:Addr}{items:Array Value}{N:Nat}
def putAll(kvs:List (κ×Value)):List (κ×Value)->List (κ×Value)
 | []=>kvs
 |p::r=>putAll (stored kvs p.1 p.2) r
theorem zmo(kvs:List (κ×Value))(k:κ)(v:Value):(stored kvs k v).length<=kvs.length+1:=by
 unfold stored
 split
 · rw[zD];omega
 · rw[zzH];exact zzL _
theorem zoe(hh:A.handled=none)(hdN:N<=d)(hIN:N<=I)(hdI:d≠I)(hlN:l<N):∀(rest:List (κ×Value)) (i:Nat) (s:Shared) (kvs:List (κ×Value)),s.heap.IsListIter I l i->s.heap.IsList l items->s.heap.DictOf knd d kvs->kvs.length+rest.length<=sizeLine->
 (∀j p,rest[j]? = some p->∃q key,items[i+j]? = some (.ref q)/\q<N/\IsTup s.heap q #[key,p.2]/\knd.is p.1 key=true)->items[i+rest.length]? = none->
 (∀h' tk,h'.DictOf knd d (putAll kvs rest)->(∀b o,b<N->s.heap.get? b=some o->h'.get? b=some o)->R (.ok (.ret .none)) {s with heap:=h',toks:=tk})->
 codeAny (model prog w) A (.builtin "dict.update.loop" ⟨[.ref d,.ref I,rawInt i,.none],[]⟩) R s:=by
 intro rest
 induction rest with
 |nil=>
  intro i s kvs hit hl hm hz hp he hR
  refine codeAny_builtin zat ?_
  rw[Around.under_plainId Z6 _]
  show wpAny _ A.in1 (pyNext (.ref I) >>= _) _ _ s
  refine zxE (wpAny_pyNext_list_end hh hit hl he λh' hx=>?_)
  show wpAny _ _ (Builtin.Dict.addKeywords d [] >>= _) _ _ _
  refine zxE (zxF (zxF ?_))
  obtain⟨o,es,ep,ho,r⟩:=hm
  exact hR h' s.toks ⟨o,es,ep,hx d o hdI ho,r⟩ λb o hb e=>hx b o (zzO (zzI hb hIN)) e
 |cons p rest ih=>
  intro i s kvs hit hl hm hz hp he hR
  obtain⟨q,key,hq,hqN,ht,hkey⟩:=hp 0 p rfl
  refine codeAny_builtin zat ?_
  rw[Around.under_plainId Z6 _]
  show wpAny _ A.in1 (pyNext (.ref I) >>= _) _ _ s
  refine zxE (wpAny_pyNext_list_item hit hl hq λh' hit' hs=>?_)
  have sm:∀b o,b≠I->s.heap.get? b=some o->h'.get? b=some o:=λb o hb e=>(hs.2 b hb).trans e
  obtain⟨oq,hoq,hcq,nq,hdq⟩:=ht
  have hoq':=sm q oq (zzO (zzI hqN hIN)) hoq
  have hm':h'.DictOf knd d kvs:=let⟨o,es,ep,ho,r⟩:=hm;⟨o,es,ep,sm d o hdI ho,r⟩
  have hl':h'.IsList l items:=let⟨o,ho,r⟩:=hl;⟨o,sm l o (zzO (zzI hlN hIN)) ho,r⟩
  have hT:({s with heap:=h'}:Shared).TypeIs (.ref q) "tuple":=⟨oq,hoq',hcq⟩
  show wpAny _ _ (holding [.ref q] _ >>= _) _ _ _
  refine zxE (zxK (zxE (wpAny_tryCatch ?_)))
  unfold Builtin.Dict.pairItems
  refine zxE (wpAny_typeOf hT ?_)
  show wpAny _ _ (if(Value.type "tuple"==Value.type "list"||Value.type "tuple"==Value.type "tuple")=true then _ else _) _ _ _
  rw[if_pos (by decide)]
  refine zxE (wpAny_seqItems hoq' hdq (zxF ?_))
  show wpAny _ _ (holding [key,p.2] (dictSet d key p.2)) _ _ _
  refine zxK (wpAny_dictSet_pairs (hsz:=by simp only[zzR]at hz;omega) hkey hm' λh'' hm'' hs''=>?_)
  have sm2:∀b o,b≠d->h'.get? b=some o->h''.get? b=some o:=λb o hb e=>(hs''.2 b hb).trans e
  refine zxF ⟨plainId_quiet Z6 _, ?_⟩
  have hit'':h''.IsListIter I l (i+1):=let⟨o,ho,r⟩:=hit';⟨o,sm2 I o (Ne.symm hdI) ho,r⟩
  have hl'':h''.IsList l items:=let⟨o,ho,r⟩:=hl';⟨o,sm2 l o (zzO (zzI hlN hdN)) ho,r⟩
  have keep:∀b o,b<N->s.heap.get? b=some o->h''.get? b=some o:=λb o hb e=>sm2 b o (zzO (zzI hb hdN)) (sm b o (zzO (zzI hb hIN)) e)
  have:=ih (i+1) {s with heap:=h'',toks:=s.toks+1} (stored kvs p.1 p.2) hit'' hl'' hm'' (by have:=zmo kvs p.1 p.2;simp only[zzR]at hz;omega)
   (λj p' hj=>by
    obtain⟨q',key',a1,a2,⟨o',a3,a4⟩,a5⟩:=hp (j+1) p' (by simpa using hj)
    exact⟨q',key',by rw[show i+1+j=i+(j+1) by omega];exact a1,a2,⟨o',keep q' o' a2 a3,a4⟩,a5⟩)
   (by rw[show i+1+rest.length=i+(p::rest).length by simp only[zzR];omega];exact he)
   (λh3 tk hm3 k3=>hR h3 tk hm3 λb o hb e=>k3 b o hb (keep b o hb e))
  exact this
end
theorem zfV{prog:Program}{w:World}{κ:Type}[DecidableEq κ]{knd:KeyKind prog w κ}{A:Around}{E:Value->Shared->Prop}{s:Shared}{l:Addr}{o:Obj}{items:Array Value}{n:Nat}{ps:List (κ×Value)}{Q:Value->Shared->Prop}(hh:A.handled=none)
 (ho:s.heap.get? l=some o) (hc:o.cls = .type "list") (hd:o.data = .seq items n) (hn:o.dict=none) (hsz:ps.length<=sizeLine)
 (hp:∀(j:Nat) (p:κ×Value),ps[j]? = some p->∃(q:Addr) (key:Value),items[j]? = some (Value.ref q)/\IsTup s.heap q #[key,p.2]/\knd.is p.1 key=true) (he:items[ps.length]? = none)
 (h:∀h' tk,h'.DictOf knd s.heap.objs.size (putAll [] ps)->(∀b o,s.heap.get? b=some o->h'.get? b=some o)->Q (.ref s.heap.objs.size) {s with heap:=h',toks:=tk}):wpAny (model prog w) A (call (.type "dict") [.ref l]) Q E s:=by
 refine callType_codes (Q₁:=λobj s₁=>obj = .ref s.heap.objs.size/\s₁={s with heap:=s.heap.push {cls:=.type "dict",data:=.dict #[]}}) F.kt_called_dict (F.kt_typeCall_dict_1 _) F.entry_dict_init (kt_code_dict_new _ ⟨rfl,rfl⟩) ?_
 rintro obj s₁ ⟨rfl,rfl⟩
 have hnew:(s.heap.push {cls:=.type "dict",data:=.dict #[]}).DictOf knd s.heap.objs.size []:=Heap.DictOf.new s.heap
 have k1:∀b o,s.heap.get? b=some o->(s.heap.push {cls:=.type "dict",data:=.dict #[]}).get? b=some o:=λb o e=>zxG _ e
 have hT:({s with heap:=s.heap.push {cls:=.type "dict",data:=.dict #[]}}:Shared).TypeIs (.ref l) "list":=⟨o,k1 l o ho,hc⟩
 refine⟨hnew.typeIs,F.args_dict_init_2 _ _, ?_⟩
 unfold Builtin.«dict.__init__»
 refine zxE ?_
 unfold Builtin.Dict.selfAndRest
 refine zxE (wpAny_notOrdered_dict hnew.typeIs ?_)
 show wpAny _ _ (pure (s.heap.objs.size,[Value.ref l])) _ _ _
 refine zxF ?_
 show wpAny _ _ (Builtin.Dict.updateFrom "dict.__init__" s.heap.objs.size (.ref l) [] .none) _ _ _
 unfold Builtin.Dict.updateFrom
 refine zxE (wpAny_typeOf hT ?_)
 rw[if_pos (by decide)]
 refine zxE (zlv (k1 l o ho) hc hd hn hh λh2 tk2 k2=>?_)
 rw[if_pos (by decide)]
 refine zxE (wpAny_rule ?_)
 have ho2:=k2 l o (k1 l o ho)
 have hl2:h2.IsList l items:=⟨o,ho2,hc,n,hd⟩
 refine zxE (wpAny_pyIter_list hl2 ?_)
 have k3:∀b o,h2.get? b=some o->(h2.push {cls:=.type "list_iterator",data:=.fields #[.ref l,.int 0 0]}).get? b=some o:=λb o e=>zxG _ e
 have hd2:s.heap.objs.size<h2.objs.size:=by
  obtain⟨o',_,_,ho',_⟩:=hnew
  exact zxH (k2 _ _ ho')
 refine zxF ⟨plainId_quiet Z6 _, ?_⟩
 refine zoe (A:=A.in1) (N:=s.heap.objs.size) (knd:=knd) (items:=items) hh (zzL _) (Nat.le_of_lt hd2) (zzO hd2) (zxH ho) ps 0 {s with heap:=h2.push {cls:=.type "list_iterator",data:=.fields #[.ref l,.int 0 0]},toks:=tk2} [] ⟨_,zxI _ rfl,rfl,rfl⟩ ⟨o,k3 l o ho2,hc,n,hd⟩ ?_ (by rw[List.length_nil];omega) (λj p hj=>?_) (by rw[zyW];exact he) (λh' tk dd kk=>?_)
 · obtain⟨o',es,ep,ho',r⟩:=hnew
   exact⟨o',es,ep,k3 _ _ (k2 _ _ ho'),r⟩
 · obtain⟨q,key,a1,⟨o',a3,a4⟩,a5⟩:=hp j p hj
   exact⟨q,key,by rw[zyW];exact a1,zxH a3,⟨o',k3 _ _ (k2 _ _ (k1 _ _ a3)),a4⟩,a5⟩
 · exact⟨rfl,h h' tk dd λb o e=>kk b o (zxH e) (k3 _ _ (k2 _ _ (k1 _ _ e)))⟩
def zbP:List D->Option (List (Key×D))
 | []=>some []
 |d::r=>(asT d).bind λl=>(zrw l).bind λp=>(znp p.1).bind λk=>(zbP r).bind λt=>some ((k,p.2)::t)
def zwv:D->Option R0
 | .dct kvs=>some (.fd kvs)
 | .lst ds=>(zbP ds).bind λkvs=>if(kvs.map (·.1)).Nodup then some (.fd kvs)else none
 |_=>none
def ziE:List D->Option R0:=on1 zwv
theorem zhi{κ:Type}[DecidableEq κ]:∀(ps acc:List (κ×Value)),((acc++ps).map (·.1)).Nodup->putAll acc ps=acc++ps
 | [],acc,_=>(zyC acc).symm
 |p::r,acc,h=>by
  have hs:stored acc p.1 p.2=acc++[p]:=by
   unfold stored
   rw[if_neg]
   rw[zyK,zyQ]at h
   obtain⟨_,_,n3⟩:=zxD.mp h
   intro z
   obtain⟨q,m,e⟩:=List.any_eq_true.mp z
   exact n3 q.1 (List.mem_map_of_mem m) p.1 (zzD ..) (of_decide_eq_true e)
  show putAll (stored acc p.1 p.2) r=_
  rw[hs,zhi r (acc++[p]) (by rw[zxB];exact h),zxB];rfl
section
variable{X:Cx}{kd:KD}{O:Addr->Prop}{pins:List (Addr×Obj)}{σ:St}{H:Hp}{s:Shared}
theorem zfR(I:Inv X pins σ H s):∀{vs:List V}{us:List Value}{ds:List D}{dk:List (Key×D)},RpL X.K kd O H vs ds->Vals vs us->zbP ds=some dk->
 ∃(kvs:List (Key×V)) (ps:List (Key×Value)),KV kvs ps/\RpM X.K kd O H kvs dk/\ps.length=us.length/\ps.map (·.1)=dk.map (·.1)/\kvs.length=ps.length/\
  ∀(j:Nat) (p:Key×Value),ps[j]? = some p->∃(q:Addr) (key:Value),us[j]? = some (Value.ref q)/\IsTup s.heap q #[key,p.2]/\(wB X.prog X.w).is p.1 key=true
 |_,_,[],_,rl,r,e=>by
  cases rl
  cases r
  cases e
  exact⟨[],[],.nil,.nil,rfl,rfl,rfl,λj p h=>by simp at h⟩
 |_,_,d::ds,dk,rl,r,e=>by
  cases rl with
  |cons rp rl=>
   rename_i v vs
   cases r with
   |cons r0 r=>
    rename_i u us
    obtain⟨l0,e0,e2⟩:=bS_ (show(asT d).bind _=_ from e)
    obtain⟨⟨k,dv⟩,e1,e3⟩:=bS_ e2
    cases zol e0
    cases zka e1
    · obtain⟨kk,h1,e⟩:=bS_ e3
      obtain⟨t,h2,e⟩:=bS_ e
      cases e
      obtain⟨kvs,ps,a1,a2,a3,a4,a5,a6⟩:=zfR I (ds:=ds) (dk:=t) rl r h2
      cases rp.vw with
      |tup rp' hq rl'=>
       rename_i q ws
       cases rl' with
       |cons k1 rl'=>
        cases rl' with
        |cons k2 rl'=>
         cases rl'
         rename_i kv' vv'
         have ek:=zpx k1.vw h1
         subst ek
         obtain⟨its,rv,ht,_⟩:=I.tuple hq
         obtain⟨u1,u2,rfl,r1,r2⟩:=vals2 rv
         cases r0
         refine⟨(kk,vv')::kvs,(kk,u2)::ps,.cons ⟨rfl,r2⟩ a1,.cons k2 a2,congrArg (· + 1) a3,congrArg (kk :: ·) a4,congrArg (· + 1) a5,λj p h=>?_⟩
         cases j with
         |zero=>
          simp at h
          subst h
          exact⟨q,u1,rfl,ht,zdi r1⟩
         |succ j=>simpa using a6 j p (by simpa using h)
theorem zlK(hc:X.calm=true)(hk:KdOk X kd):CallD X kd (.type "dict") ziE:=by
 intro pins s σ H xs us Q I r h
 obtain⟨O,ds,z,ht,vl,he,q⟩:=h
 obtain⟨x,d,rfl,vx,he⟩:=zcz vl he
 cases vx with
 |dct hr rm=>exact znT hk pins s σ H _ us Q I r ⟨O,[.dct _],z,ht,.cons (.dct hr rm) .nil,he,q⟩
 |lst hr rl=>
  obtain⟨dk,h1,he⟩:=bS_ (show(zbP _).bind _=_ from he)
  obtain⟨hn,he⟩:=yj he
  cases he
  obtain⟨u,rfl,ru⟩:=vals1 r
  cases ru
  obtain⟨its,rv,⟨o,n,ho,hcl,hdi,hda⟩,hz⟩:=I.list hr.sq
  obtain⟨kvs,ps,a1,a2,a3,a4,a5,a6⟩:=zfR I rl rv h1
  have hlen:=rv.length
  refine zfV (knd:=wB X.prog X.w) (ps:=ps) (I.ok.hd hc) ho hcl hda hdi (by omega) (λj p hj=>?_) (by rw[a3];simp) λh' tk dd kp=>?_
  · obtain⟨q',key,b1,b2,b3⟩:=a6 j p hj
    exact⟨q',key,by simpa using b1,b2,b3⟩
  · rw[zhi ps [] (by rw[List.nil_append,a4];exact hn),List.nil_append]at dd
    exact⟨.ref _,_,I.laid (a:=s.heap.objs.size) (o:=.dK kvs) (t':=tk) kp (zzL _) (zpu (by omega) (beq_eq_false_iff_ne.mpr (Ne.symm (zzO I.big))) a1 dd),rfl,zpJ q a2 _ (I.hok.fresh (zzL _))⟩
 |_=>cases he
end
def zls:List D->Option R0
 | [.int i,.int j]=>if 0<j/\j<1073741824 then some (.im (.tup [.int (i/j),.int (i%j)]))else none
 |_=>none
theorem l1_{α:Type}{P:List α->Prop}(h:∀a,P [a]):∀us:List α,us.length=1->P us
 | [a],_=>h a
theorem l2_{α:Type}{P:List α->Prop}(h:∀a b,P [a,b]):∀us:List α,us.length=2->P us
 | [a,b],_=>h a b
theorem l3_{α:Type}{P:List α->Prop}(h:∀a b c,P [a,b,c]):∀us:List α,us.length=3->P us
 | [a,b,c],_=>h a b c
theorem l4_{α:Type}{P:List α->Prop}(h:∀a b c d,P [a,b,c,d]):∀us:List α,us.length=4->P us
 | [a,b,c,d],_=>h a b c d
theorem l5_{α:Type}{P:List α->Prop}(h:∀a b c d e,P [a,b,c,d,e]):∀us:List α,us.length=5->P us
 | [a,b,c,d,e],_=>h a b c d e
section
variable{X:Cx}{kd:KD}
theorem ziy:CallD X kd (.builtin "divmod") zls:=by
 intro pins s σ H xs us Q I r h
 obtain⟨O,ds,z,ht,vl,he,q⟩:=h
 unfold zls at he
 split at he
 · obtain⟨hc,rfl⟩:=yj he
   obtain⟨x,y,rfl,vx,vy⟩:=zrq vl
   cases vx;cases vy
   exact zkF pins s σ H _ us Q I r ⟨_,_,rfl,hc,zfP ht q (.cons (.int _) (.cons (.int _) .nil))⟩
 · cases he
theorem aI{c:Int}{j pos}:AE X kd (.Constant (.int c) j pos) (fC (.int c)):=zjw zlA λ_ _=>.int _
theorem aS{c:Str}{j pos}:AE X kd (.Constant (.str c) j pos) (fC (.str c)):=zjw zuz λ_ _=>.str _
theorem aZ{j pos}:AE X kd (.Constant .none j pos) (fC .non):=zjw ztJ λ_ _=>.non
theorem aB{c:Bool}{j pos}:AE X kd (.Constant (.bool c) j pos) (fC (.bl c)):=zjw zvs λ_ _=>.bl _
theorem ax{P:Program}{w:World}{K:zC}{a b:Expr}{fa fb:EF}{pos:Pos}(hkd:KD1 P w K kd)(ha:AE X kd a fa)(hb:AE X kd b fb)(h1:X.prog=P:=by rfl)(h2:X.w=w:=by rfl)(h3:X.K=K:=by rfl)(hm:Wb b:=by exact λ_ _=>rfl):AE X kd (.Subscript a b pos) (f2 fa fb ixP):=zsB (zwc (hkd _ h1 h2 h3)) ha hb hm
theorem sv(z:Bool)(i:Nat){x:Str}{pos pos':Pos}{e:Expr}{fa:EF}(hN:X.N.Nodup)(he:AE X kd e fa)(hi:X.N[i]? = some x:=by rfl)(hx:Loc X.env.scope x:=by first|exact Or.inl rfl|exact Or.inr rfl)(hs:swapsWith e (some (.Name x pos')) pos.line X.env=pure false:=by rfl)(hf:X.fn x=true\/X.env.scope.names.lookup x=some .local:=by first|exact Or.inl rfl|exact Or.inr rfl):
 ASt X kd (.Assign [.Name x pos'] e pos) (zO z i fa):=zqc hN hi hx he hs hf
theorem an(i:Nat){x:Str}{pos:Pos}(hN:X.N.Nodup)(hi:X.N[i]? = some x:=by rfl)(hx:Loc X.env.scope x:=by first|exact Or.inl rfl|exact Or.inr rfl)(hf:X.fn x=true\/X.env.scope.names.lookup x=some .local:=by first|exact Or.inl rfl|exact Or.inr rfl):AG X kd (.Name x pos) [i] (gN i):=zqC hN hi hx hf
theorem av(i:Nat){x:Str}{pos:Pos}(hN:X.N[i]? = some x:=by rfl)(hv:Vis X.env.scope x:=by first|exact Or.inl rfl|exact Or.inr (Or.inl rfl)|exact Or.inr (Or.inr rfl))(hd:(x==("__debug__":Str))=false:=by decide)
 (hcd:(x==("__classdict__":Str))=false:=by decide):AE X kd (.Name x pos) (fV i):=zut (zqe hN hv hd hcd)
end
structure CI(K:zC)(kd:KD)(mg:Str->Option Value)(c:Str)(C:Addr):Prop where
 eq:kd.c c=C
 cl:Cls K C
 mks:PySem.W.makesIn K C=true
 kp:PySem.W.keepIn K (.ref C)=true
 mg:mg c=some (.ref C)
theorem szs{n:Nat}(h:n<=1000000):n<=sizeLine:=zzM h (by decide)
section
variable{as:AS}{f fo a b:EF}{fr:AF}{s t:Bool}{x y z d:D}{c m:Str}{ns cs:List Str}{ds:List D}{tbl:List (Str×Fn)}{g:Fn}{o:O}
inductive SqD:D->List D->Prop
 |l (ds:List D):SqD (.lst ds) ds
 |t (ds:List D):SqD (.tup ds) ds
theorem zdM{α:Type}{h:α->D}{it:α->It1}{gg:GF}{fe:EF}{as0:AS}:∀(l:List α),(∀q ∈ l,∃as1,gg (it q) as0=some as1/\WE fe as1 (h q))->∃os,wD gg yf fe as0 (l.map it)=some os/\O.strs os=true/\O.toDs os=l.map h
 | [],_=>⟨[],rfl,rfl,rfl⟩
 |q::l,H=>by
  obtain⟨os,e1,e2,e3⟩:=zdM l λp m=>H p (zzB _ m)
  obtain⟨as1,h1,o,h2,h3,h4⟩:=H q zzD
  refine⟨o::os, ?_,by show(o.str&&O.strs os)=true;rw[h3,e2];rfl,by show o.toD::O.toDs os=_;rw[h4,e3];rfl⟩
  show wD gg yf fe as0 (it q::l.map it)=_
  unfold wD
  rw[h1];show((fe as1).bind _)=_
  rw[h2];show(if o.str=true then _ else _)=_
  rw[if_pos h3,e1];rfl
theorem ziJ{α:Type}{h:α->D}{p:α->Bool}{it:α->It1}{gg:GF}{tt:TF}{fe:EF}{as0:AS}:∀(l:List α),(∀q ∈ l,∃as1,gg (it q) as0=some as1/\WT tt as1 (p q)/\(p q=true->WE fe as1 (h q)))->∃os,wD gg tt fe as0 (l.map it)=some os/\O.strs os=true/\O.toDs os=(l.filter p).map h
 | [],_=>⟨[],rfl,rfl,rfl⟩
 |q::l,H=>by
  obtain⟨os,e1,e2,e3⟩:=ziJ l λp m=>H p (zzB _ m)
  obtain⟨as1,h1,h2,h3⟩:=H q zzD
  cases hp:p q with
  |false=>
   rw[hp]at h2
   refine⟨os,zil h1 h2 e1,e2, ?_⟩
   rw[List.filter_cons_of_neg (by simp[hp])];exact e3
  |true=>
   rw[hp]at h2
   obtain⟨o,k1,k2,k3⟩:=h3 hp
   refine⟨o::os, ?_,by show(o.str&&O.strs os)=true;rw[k2,e2];rfl, ?_⟩
   · unfold WT at h2
     show wD gg tt fe as0 (it q::l.map it)=_
     unfold wD
     rw[h1];show(tt as1).bind _=_
     rw[h2];show((fe as1).bind _)=_
     rw[k1];show(if o.str=true then _ else _)=_
     rw[if_pos k2,e1];rfl
   · rw[List.filter_cons_of_pos hp]
     show o.toD::O.toDs os=_
     rw[k3,e3];rfl
theorem zll{fi:IF}{cap:List (Option Nat)}{gg:GF}{tt:TF}{fe:EF}{xs:List It1}{os:List O}{zs:List D}(h1:fi as=some (xs,as))(hl:xs.length<=1000000)(h2:wD gg tt fe (ZQ cap as) xs=some os)(hs:O.strs os=true)(e:O.toDs os=zs):WE (zL fi cap gg tt fe) as (.lst zs):=by
 refine⟨.nd .ls os, ?_,hs,congrArg D.lst e⟩
 unfold zL
 rw[h1];show(if xs.length<=sizeLine then _ else _)=_
 rw[if_pos (szs hl),h2];rfl
theorem v8{α:Type}{h:α->D}{it:α->It1}{fi:IF}{cap:List (Option Nat)}{gg:GF}{fe:EF}(l:List α)(h1:fi as=some (l.map it,as))(hl:l.length<=1000000)(H:∀q ∈ l,∃as1,gg (it q) (ZQ cap as)=some as1/\WE fe as1 (h q)):WE (zL fi cap gg yf fe) as (.lst (l.map h)):=by
 obtain⟨os,e1,e2,e3⟩:=zdM l H
 exact zll h1 (by rw[zD];exact hl) e1 e2 e3
theorem ztp{α:Type}{h:α->D}{p:α->Bool}{it:α->It1}{fi:IF}{cap:List (Option Nat)}{gg:GF}{tt:TF}{fe:EF}(l:List α)(h1:fi as=some (l.map it,as))(hl:l.length<=1000000)(H:∀q ∈ l,∃as1,gg (it q) (ZQ cap as)=some as1/\WT tt as1 (p q)/\(p q=true->WE fe as1 (h q))):WE (zL fi cap gg tt fe) as (.lst ((l.filter p).map h)):=by
 obtain⟨os,e1,e2,e3⟩:=ziJ l H
 exact zll h1 (by rw[zD];exact hl) e1 e2 e3
theorem zmZ{g:List D->Option R0}(ha:WE a as x)(hg:g [x]=some (.im z)):WE (fP (aC a aN) g) as z:=WD.e (ztK ha hg)
theorem ztM{fd:DF}{os:List O}{zs:List D}(h:WO fd as os)(hl:os.length<=1000000)(hs:O.strs os=true)(e:O.toDs os=zs):WE (yL fd) as (.tup zs):=by
 refine⟨WP os,zmg h (szs hl), ?_, ?_⟩
 · unfold WP;split
   · exact hs
   · exact hs
 · subst e
   unfold WP;split
   · rfl
   · rfl
theorem zvl{fd:DF}{os:List O}(h:WE a as x)(hr:WO fd as os):∃o,o.str=true/\o.toD=x/\WO (dC a fd) as (o::os):=by
 obtain⟨o,h1,h2,h3⟩:=h
 exact⟨o,h2,h3,Wu h1 hr⟩
theorem Yw(ha:WE a as x)(hb:WE b as y):WE (yL (dC a (dC b dN))) as (.tup [x,y]):=by
 obtain⟨p,k1,rfl,k3⟩:=zvl hb ym
 obtain⟨o,h1,rfl,h3⟩:=zvl ha k3
 exact ztM h3 (by show 2<=_;omega) (by show(o.str&&(p.str&&true))=true;rw[h1,k1];rfl) rfl
theorem zvn{g:D->D->Option R0}(ha:WE a as x)(hb:WE b as y)(hg:g x y=some (.im z)):WE (f2 a b g) as z:=WD.e (f2E ha hb hg)
end
open AutoSeq1 (wpAny_loadPart')
def ixT(x y:D):Option R0:=match x with
 | .dt ks ds=>(zdJ y).bind λk=>imR (zgo ks ds k)
 |_=>none
section
variable{X:Cx}{kd:KD}{e a b c o i:Expr}{pos pos':Pos}{fa fb fk fv:EF}
theorem zuH(hu:X.A.units+1<cLine):IxD X kd ixT:=by
 intro value slice pins s σ H x y v u Q I rx ry h hs
 obtain⟨O,d,e,r,ht,vx,vy,he,q⟩:=h
 cases vx with
 |dt hH l rl=>
  obtain⟨k,h1,he⟩:=bS_ (show(zdJ e).bind _=_ from he)
  obtain⟨d,h2,rfl⟩:=zde he
  cases rx
  obtain⟨b,rfl,hb⟩:=zfE vy h1
  rcases zfY k rl l with⟨v1,d1,e1,e2,rp⟩|⟨e1,e2⟩
  · rw[h2]at e2
    cases e2
    obtain⟨_,_,_,_,dd⟩:=zkB I.hok (.inl hH)
    have g:=zlc.t hH hb
    rw[e1]at g
    exact tail_any dd.typeIs PySem.F.slot_dict_getitem.lookup (znS hu I g ry λw' s' I' rw'=>⟨v1,H,I',rw',yQ q rp⟩) hs
  · rw[h2]at e2;cases e2
 |_=>cases he
end
theorem zkR{K:zC}{kd:KD}{F:Addr->Prop}{H:Hp}{a:Addr}{vs:List V}{st:Bool}{ds:List D}(ft:∀a,F a->H a≠none)(hs:∀H3:Hp,(∀b u,H b=some u->H3 b=some u)->SqL K H3 a vs)(r:RpL K kd (λa=>st=true/\F a) H vs ds):ItC K kd F H (Ite K a) (zbr st 0 ds):=⟨λH3 T k hT i=>by
 have hr3:=hs H3 k
 have hlen:=zim st 0 ds
 refine⟨λhi=>?_,λhi=>⟨_,hr3,by rw[r.length];omega⟩,λv H4 hy=>?_⟩
 · obtain⟨u,hu,_⟩:=r.get (zzC (by rw[<-hlen];exact hi))
   exact⟨_,u,hr3,hu⟩
 · obtain⟨A,x,hn,rfl,rfl,hv⟩:=hy
   have hnH:H A=none:=by
    cases e:H A with
    |none=>rfl
    |some u=>rw[k A u e]at hn;cases hn
   refine⟨ZG hn,λy hy=>?_⟩
   obtain⟨d,hd,rfl⟩:=ziB hy
   obtain⟨u,hu,ru⟩:=r.get hd
   have:=hv _ hr3
   rw[hu]at this
   cases this
   rw[zyW]
   exact .tup (λz=>z.2.elim (λy=>ft A y hnH) λy=>(hT A y).2 hn) yZ (.cons (.int _) (.cons ((ru.since (λb o q=>ZG hn b o (k b o q)) λa z=>(hT a z).1).less λa z=>z.2.elim (λy=>.inl ⟨z.1,y⟩) .inr) .nil))⟩
section
variable{X:Cx}{kd:KD}{e:Expr}{fa:EF}{pos pos':Pos}
theorem zrf{p:Pos}{elts:List Expr}{k:Nat}(hg:Gl X "enumerate")(hm:X.mg "enumerate"=none)(he:AE X kd e fa)(hs:starEach [e] X.env=[(false,eval e X.env)]):
 AIc X kd (.Tuple elts k pos') (.Call (.Name "enumerate" p) [e] [] pos) (zqM fa):=by
 with_unfolding_all (
 intro pins s σ H R I h
 obtain⟨F,B,ad,as,ds,as',Rl,e',q⟩:=h
 obtain⟨⟨p,as1⟩,h1,e'⟩:=bS_ (show(fa as).bind _=_ from e')
 obtain⟨⟨⟨st,x⟩,as2⟩,h2,e'⟩:=bS_ e'
 match x,e',h2 with
 | .lst xs,e',h2=>
  cases e'
  refine zrr hg hm (zdc he zgJ hs) hs pins s σ H R I (show al X.K kd fa σ H _ from⟨F,B,ad,as,p,as1,Rl,h1,λv T1 ad1 H1 R1 rv1 g1=>?_⟩)
  obtain⟨ad2,R2,rp,le⟩:=zaW R1 rv1 h2
  cases rp with
  |lst hn hr rl=>exact⟨_,rfl,⟨_,.inl hr⟩,q _ ad2 H1 R2 (g1.trans (Grow.less le)) (zkR (R2.trk true) (λH3 k=>.inl (hr.elim (λh=>.inl (k _ _ h)) λ⟨o,h⟩=>.inr ⟨o,k _ _ h⟩)) (rl.less λa z=>by have z1:=z.1;rw[z1];exact z.2))⟩
  |lstK a b c rl=>exact⟨_,rfl,⟨_,.inr ⟨_,_,_,a,rfl,rfl,rfl,b,c⟩⟩,q _ ad2 H1 R2 (g1.trans (Grow.less le)) (zkR (R2.trk true) (λH3 k=>.inr ⟨_,_,_,a,rfl,rfl,rfl,b,c⟩) (rl.less λa z=>by have z1:=z.1;rw[z1];exact z.2))⟩)
end
section
variable{X:Cx}{kd:KD}{P:Program}{w:World}{K:zC}{a b e o:Expr}{es:List Expr}{fa fb fo:EF}{fr:AF}{fd_:DF}{pos p apos:Pos}{k n:Nat}
theorem fsc{N Ps:List Str}{sc:Scope}(h1:sc.kind = .function:=by rfl)(h2:sc.isCoroutine=false:=by rfl)(h3:sc.isGenerator=false:=by rfl)(h4:N.Nodup:=by decide +kernel)(h5:N.take Ps.length=Ps:=by rfl)(h6:∀x ∈ Ps,sc.names.lookup x=some .local\/sc.names.lookup x=some .cell:=by decide +kernel)(h7:∀y ∈ sc.names,y.2 ≠ .free:=by decide +kernel):FnScope N Ps sc:=⟨h1,h2,h3,h4,h5,h6,h7⟩
theorem bs{x qual:Str}{st:Stmt}{f:Addr}{fd:FuncData}{ps:List Str}(F:Fun K x qual st f fd)
 (h:∀(kV doc pm:Value) (an:Option Addr) (cdv ct:Value) (us:List Value),us.length=ps.length->bindArgs (PySem.W.fnOf x qual (zfB st) (zaZ st) (zm st) .none kV doc pm an cdv ct) ⟨us,[]⟩=pure (ps.zip us):=by first|exact λ_ _ _ _ _ _=>l1_ λ_=>rfl|exact λ_ _ _ _ _ _=>l2_ λ_ _=>rfl|exact λ_ _ _ _ _ _=>l3_ λ_ _ _=>rfl|exact λ_ _ _ _ _ _=>l4_ λ_ _ _ _=>rfl|exact λ_ _ _ _ _ _=>l5_ λ_ _ _ _ _=>rfl|exact λ_ _ _ _ _ _=>l6_ λ_ _ _ _ _ _=>rfl):Binds K fd ps []:=F.binds h
theorem bc(ha:AE X kd a fa)(hr:AA X kd es fr)(hs:isStar a=false:=by rfl):AA X kd (a::es) (aC fa fr):=zrH ha hr (zig hs)
theorem bd(ha:AE X kd a fa)(hr:AD X kd es fd_)(hs:isStar a=false:=by rfl):AD X kd (a::es) (dC fa fd_):=zrA ha hr (zig hs)
theorem bn{op:Operator}(ha:AE X kd a fa)(hb:AE X kd b fb):AE X kd (.BinOp a op b pos) (f2 fa fb (W3 op)):=zts (ztf op) ha hb
theorem tc{op:CmpOp}(hkd:KD1 P w K kd)(hr:Room k X.A)(ha:AE X kd a fa)(hb:AE X kd b fb)(h1:X.prog=P:=by rfl)(h2:X.w=w:=by rfl)(h3:X.K=K:=by rfl)(hm:behindInMarks op b=false:=by exact zoN _):AT X kd (.Compare a [op] [b] pos) (fT (f2 fa fb (zY op))):=zpX (zhj (hkd _ h1 h2 h3) (zet hr) op) (zni op) ha hb hm
theorem ec{op:CmpOp}(hkd:KD1 P w K kd)(hr:Room k X.A)(ha:AE X kd a fa)(hb:AE X kd b fb)(h1:X.prog=P:=by rfl)(h2:X.w=w:=by rfl)(h3:X.K=K:=by rfl)(hm:behindInMarks op b=false:=by exact zoN _):AE X kd (.Compare a [op] [b] pos) (f2 fa fb (zY op)):=zlV (zhj (hkd _ h1 h2 h3) (zet hr) op) ha hb hm
theorem ck{f:Addr}{fdt:FuncData}{ps:List Str}{gg:List (Bool×D)->Option O}{x:Str}(F:FnOk X.prog X.w X.K X.mg X.base CX0 k f fdt ps (spD X.K kd gg))(hr:Room n X.A)(hm:X.mg x=some (.ref f))(hk:PySem.W.keepIn X.K (.ref f)=true)
 (hb:Binds X.K fdt ps []) (ha:AA X kd (e::es) fr) (hn:k<=n:=by omega) (hg:Gl X x:=by rfl) (hdb:(x==("__debug__":Str))=false:=by decide) (he:starEach (e::es) X.env=(false,eval e X.env)::starEach es X.env:=by rfl) (hpl:(backTo pos (starEach es X.env)).any (·.1)=false:=by rfl):
 AE X kd (.Call (.Name x p) (e::es) [] pos) (zN fr gg):=zrO F (hr.mono hn) hg hm hk hb zvd ha hdb he hpl
theorem bi{id:String}{gg:List D->Option R0}{x:Str}(hc:CallD X kd (.builtin id) gg)(hm:X.mg x=none)(hv:bootBuiltins x=some (.builtin id))(ha:AA X kd (e::es) fr)(hg:Gl X x:=by rfl)(hn:x≠"__name__":=by exact Bt.n _ rfl)(hdb:(x==("__debug__":Str))=false:=by decide)
 (he:starEach (e::es) X.env=(false,eval e X.env)::starEach es X.env:=by rfl) (hpl:(backTo pos (starEach es X.env)).any (·.1)=false:=by rfl):AE X kd (.Call (.Name x p) (e::es) [] pos) (fP fr gg):=zsJ hc hg hm hv ha hn hdb he hpl
theorem by_{T:String}{gg:List D->Option R0}{x:Str}(hc:CallD X kd (.type T) gg)(hm:X.mg x=none)(hv:bootBuiltins x=some (.type T))(ha:AA X kd (e::es) fr)(hg:Gl X x:=by rfl)(hn:x≠"__name__":=by exact Bt.n _ rfl)(hdb:(x==("__debug__":Str))=false:=by decide)
 (he:starEach (e::es) X.env=(false,eval e X.env)::starEach es X.env:=by rfl) (hpl:(backTo pos (starEach es X.env)).any (·.1)=false:=by rfl):AE X kd (.Call (.Name x p) (e::es) [] pos) (fP fr gg):=zui hc hg hm hv ha hn hdb he hpl
theorem sj(i:Nat){z:Bool}{x:Str}{pos':Pos}{rest:List Stmt}{g:SF}(hN:X.N.Nodup)(he:AE X kd e fa)(h2:ASs X kd rest g)(hi:X.N[i]? = some x:=by rfl)(hx:Loc X.env.scope x:=by first|exact Or.inl rfl|exact Or.inr rfl)(hs:swapsWith e (some (.Name x pos')) pos.line X.env=pure false:=by rfl)(hf:X.fn x=true\/X.env.scope.names.lookup x=some .local:=by first|exact Or.inl rfl|exact Or.inr rfl):
 ASs X kd (.Assign [.Name x pos'] e pos::rest) (zB (zO z i fa) g):=zu (zqc hN hi hx he hs hf) h2
end
end PF
end
section
namespace PySem
section
variable{prog:Program}{w:World}{K:Type}[DecidableEq K]{knd:HeapKind prog w K}{A:Around}{E:Value->Shared->Prop}{s:Shared}
theorem zpY{d a:Addr}{xs:List (K×Addr×Value)}{k:K}{v:Value}{Q:Value->Shared->Prop}(hu:knd.room A)(hkey:knd.is s.heap k a)(hm:s.heap.DictOfH knd d xs)
 (h1:∀u,(atKey xs k).map (·.2)=some u->Q u {s with toks:=s.toks+knd.draws k})
 (hQ:atKey xs k=none->∀h',h'.DictOfH knd d (storedH xs k a v)->Heap.SameBut d s.heap h'->Q v {s with heap:=h',toks:=s.toks+knd.draws k})
 (hsz:xs.length<=sizeLine):wpAny (model prog w) A (dictSetDefault d (.ref a) v) Q E s:=by
 obtain⟨o,es,ep,ho,hc,hd,he,his,hn⟩:=hm
 unfold dictSetDefault
 try with_reducible refine zxK ?_
 refine zxE (knd.pyHash hu hkey (zxE (wpAny_dictFind_heap (s:={s with toks:=s.toks+knd.draws k}) hu hkey ho hd he his hn ?_ ?_)))
 · intro hno
   have hnot:k ∉ xs.map (·.1):=not_mem_keys_of_get hno
   refine zxE (wpAny_rule (zxE (wpAny_updateDictKeys (hz:=by have e:=size_of_entries he;omega) (s:={s with toks:=s.toks+knd.draws k}) ho hd (zxF (hQ (atKey_none_of_get hno) _ ⟨_,_,ep+1,Heap.get?_update_self _ ho (Obj.isFreed_of_dict (Obj.data_mapDictKeys hd _)),
    hc.mapDictKeys _,Obj.data_mapDictKeys hd _, ?_, ?_, ?_⟩ (Heap.SameBut.update ..))))))
   · rw[storedH_new (atKey_none_of_get hno)]
     simp[he,entryOfKey]
   · rw[storedH_new (atKey_none_of_get hno)]
     intro x hx
     rcases zzK.mp hx with hx|hx
     · exact knd.keeps (his x hx) ho hd (Heap.SameBut.update ..)
     · simp only[zzP]at hx
       subst hx
       exact knd.keeps hkey ho hd (Heap.SameBut.update ..)
   · rw[storedH_new (atKey_none_of_get hno),zyK,zxD]
     refine⟨hn,by simp, ?_⟩
     intro x hx y hy
     simp only[zyQ,List.map_nil,zzP]at hy
     subst hy
     exact λe=>hnot (e ▸ hx)
 · intro j p hj
   refine zxE (wpAny_dictEntries (s:={s with toks:=s.toks+knd.draws k}) ho hd ?_)
   rw[entry_at he j,hj]
   exact zxE (wpAny_rule (zxF (h1 _ (by rw[atKey_of_get hn hj];rfl))))
theorem zlM(knd:HeapKind prog w K)(d a:Addr)(hd:(d==sysModules)=false)(dflt:Value):
 MeetsIn prog w (Builtin.«dict.setdefault» ⟨[.ref d,.ref a,dflt],[]⟩) (λA R s=>knd.room A.in1/\∃k xs,knd.is s.heap k a/\s.heap.DictOfH knd d xs/\xs.length<=sizeLine/\
  (∀u,(atKey xs k).map (·.2)=some u->R (.ok (.ret u)) {s with toks:=s.toks+knd.draws k})/\
  (atKey xs k=none->∀h',h'.DictOfH knd d (storedH xs k a dflt)->Heap.SameBut d s.heap h'->R (.ok (.ret dflt)) {s with heap:=h',toks:=s.toks+knd.draws k})):=
 .of_wp λA R s ⟨hu,k,xs,hkey,hm,hz,h1,h2⟩=>by
  unfold Builtin.«dict.setdefault»
  refine zxE ?_
  unfold Builtin.Dict.keyAndDefault
  refine zxE (wpAny_notOrdered_dict hm.typeIs ?_)
  show wpAny _ _ (pure (d,Value.ref a,some dflt)) _ _ s
  refine zxF ?_
  show wpAny _ _ (if(d==sysModules)=true then _ else(dictSetDefault d (.ref a) dflt >>= _)) _ _ s
  rw[if_neg (by rw[hd];exact zyU)]
  exact zxE (zpY hu hkey hm (λv hv=>zxF ⟨v,rfl,h1 v hv⟩) (λhn h' hm' hs'=>zxF ⟨dflt,rfl,h2 hn h' hm' hs'⟩) hz)
end
end PySem
namespace PF
open PySem PySem.Spec PyProof.Rows L2
def zwr(x:V)(xs:List V)(H:Hp)(Q:VK):Prop:=∃a kvs k b y,x = .ref a/\xs=[.ref b,y]/\H a=some (.dT kvs)/\KC H b k/\kvs.length<sizeLine/\
 (∀v,Z4 kvs k=some v->Q v H)/\(Z4 kvs k=none->Q y (upd H a (.dT (putK kvs k y))))
section
variable{X:Cx}{kd:KD}
theorem zsY(hu:X.A.units+1<cLine):MtM X "dict.setdefault" zwr:=by
 intro pins s σ H x xs v us Q I rx rv h
 obtain⟨a,kvs,k,b,y,rfl,rfl,hH,hb,hz,q1,q2⟩:=h
 cases rx
 obtain⟨u1,u2,rfl,r1,r2⟩:=rv.two
 cases r1
 obtain⟨z,hd,ys,rel,dd⟩:=zsi I.hok hH
 have hyl:ys.length<=sizeLine:=by rw[<-rel.length];exact z
 refine call_meetsIn PySem.F.slot_dict_setdefault dd.typeIs PySem.F.entry_dict_setdefault (PySem.F.args_dict_setdefault_3 _ _ _) (zlM (tupleKind (wB X.prog X.w)) a b hd u2) ⟨tupleKind_room_in1 hu,k,ys,zfU I.hok hb,dd,hyl,λu hu'=>?_,λhn h' dd' hs=>?_⟩
 · have:=rel.val k
   rw[hu']at this
   cases hv:Z4 kvs k with
   |none=>rw[hv]at this;exact absurd this (by intro z;cases z)
   |some w=>
    rw[hv]at this
    exact⟨w,H,I.tok _,this,q1 w hv⟩
 · have hv:Z4 kvs k=none:=by
    have:=rel.val k
    rw[hn]at this
    cases hv:Z4 kvs k with
    |none=>rfl
    |some w=>rw[hv]at this;exact absurd this (by intro z;cases z)
   refine⟨y,_, ?_,r2,q2 hv⟩
   obtain⟨q,es,ep,hq,h2,h3,h4,_,h5⟩:=dd'
   refine zqU I (by rw[hH];exact True.intro) hs ⟨q,hq⟩ ⟨?_,hd,_,(rel.put k hb r2).keeps λc ys' ec=>?_,q,es,ep,hq,h2,h3,h4,h5⟩
   · have:(putK kvs k y).length<=kvs.length+1:=by
      unfold putK
      split
      · rw[zD];omega
      · rw[zzH];exact zzL _
     omega
   · rw[yo (zuT ec hH (λz=>nomatch z))]
     exact ec
def kvO:List O->Option (O×Bool×D)
 | [ok,.lf st d]=>some (ok,st,d)
 |_=>none
def znK(i:Nat)(fr:DF):SF:=λas=>match as[i]? with
 |some (some (.nd (.dt _) _))=>(fr as).bind λp=>(kvO p.1).bind λz=>match p.2[i]? with
  |some (some (.nd (.dt ks) os))=>(zdJ z.1.toD).bind λk=>if ks.length<sizeLine then some (.nx (if zhq ks k=true then p.2 else p.2.set i (some (.nd (.dt (ks++[k])) (os++[.lf z.2.1 z.2.2])))))else none
  |_=>none
 |_=>none
theorem zsE{os:List O}{z:O×Bool×D}(h:kvO os=some z):os=[z.1,.lf z.2.1 z.2.2]:=by
 match os,h with
 | [ok,.lf st d],h=>cases h;rfl
theorem zsN{i:Nat}{x:Str}{p apos cpos pos':Pos}{e:Expr}{es:List Expr}{fr:DF}(hu:X.A.units+1<cLine)(ho:PE X (.Name x p) (zdK i))(ha:AD X kd (e::es) fr)
 (hbase:attributeBase (.Name x p) "setdefault" X.env (eval (.Name x p) X.env)=eval (.Name x p) X.env)
 (hfew:((backTo cpos (starEach (e::es) X.env)).all (λx=>!x.1)&&(backToKw cpos (keywordEach [] X.env)).all (λx=>x.1.isSome)
  && decide ((e::es).length+([]:List Keyword).length+(if([]:List Keyword).isEmpty then 0 else 1)<30))=true)
 (hline:(apos.endLine==cpos.line)=true) (hs:starEach (e::es) X.env=(false,eval e X.env)::starEach es X.env) (hplain:(backTo cpos (starEach es X.env)).any (·.1)=false)
 (hsw:swapsWith (.Call (.Attribute (.Name x p) "setdefault" apos) (e::es) [] cpos) none pos'.line X.env=pure false):
 ASt X kd (.Expr (.Call (.Attribute (.Name x p) "setdefault" apos) (e::es) [] cpos) pos') (znK i fr):=by
 with_unfolding_all exact(YJ (zmQ (zsq PySem.F.plainAttrs_dict PySem.F.slot_dict_setdefault PySem.F.type_dict_setdefault (zsY hu) ho ha hbase hfew hline hs hplain) hsw) λD σ H h=>by
  obtain⟨F,B,ad,as,o,R,e,q⟩:=h
  cases k1:as[i]? with
  |none=>unfold znK at e;rw[k1]at e;cases e
  |some a0=>
   unfold znK at e
   rw[k1]at e
   match a0,e,k1 with
   |some (.nd (.dt ks0) os0),e,k1=>
    obtain⟨⟨os1,as1⟩,h1,e⟩:=bS_ (show(fr as).bind _=_ from e)
    obtain⟨v0,hs0,ro0⟩:=R.sl i _ k1
    generalize hfp0:ad i=fp0 at ro0
    cases ro0 with
    |dt hH0 hl0 rl0=>
     rename_i l vs0 fp00
     refine⟨_,hs0,.inr (.inr (.inl ⟨rfl,.inr ⟨_,hH0⟩⟩)),F,B,ad,as,os1,as1,R,h1,λws T1 ad1 H1 R1 ro1 g1=>?_⟩
     obtain⟨⟨ok,st,d⟩,h2,e⟩:=bS_ e
     cases zsE h2
     cases k2:as1[i]? with
     |none=>rw[k2]at e;cases e
     |some a2=>
      rw[k2]at e
      match a2,e,k2 with
      |some (.nd (.dt ks) os),e,k2=>
           obtain⟨k,hk,e⟩:=bS_ (show(zdJ ok.toD).bind _=_ from e)
           obtain⟨hz,e⟩:=yj e
           cases e
           have R2:=R1.drop
           obtain⟨v1,hs1,ro2⟩:=R2.sl i _ k2
           rw[hs0]at hs1
           cases hs1
           cases ro1 with
           |cons ra rb=>
            rename_i va wb fa fb
            cases rb with
            |cons rc rd=>
             rename_i vc we fc fe
             cases rd
             cases rc with
             |lf rp=>
              have rk:Rp X.K kd (λ_=>False) H1 va ok.toD:=Ro.rp false (λst v d _ r=>Rp.less (λa z=>z.elim) r) (λ_ _ z=>z) (λz=>nomatch z) (λ_ _ z=>z) ra
              obtain⟨bk,rfl,hbk⟩:=zfE rk.vw hk
              generalize hfp:ad1 i=fp1 at ro2
              cases ro2 with
              |dt hH hl rl=>
               rename_i vs fp
               have hv:zhq ks k=(Z4 (ks.zip vs) k).isSome:=by rw[<-zgV,zjZ k ks vs hl]
               have gd:=g1.trans (Grow.less (H:=H1) (Gw.drop (T:=fa++([]++[])) (ad:=ad1)))
               refine⟨_,ks.zip vs,k,bk,vc,rfl,rfl,hH,hbk,by rw[List.length_zip,hl,Nat.min_self,<-hl];exact hz,λv ev=>?_,λev=>?_⟩
               · rw[ev]at hv
                 rw[show zhq ks k=true from hv,if_pos rfl]at q
                 exact q σ ad1 H1 R2 gd
               · rw[ev]at hv
                 have hv:zhq ks k=false:=hv
                 rw[hv,if_neg zyU]at q
                 have rp2:RoS X.K kd F B (Gw [] ad1) H1 vc (.lf st d) []:=.lf (Rp.less (λa z=>z.imp id λy=>Gw.drop a y) rp)
                 have rl':YL X.K kd F B (Gw [] ad1) H1 (vs++[vc]) (os++[.lf st d]) fp:=by have:=rl.append (RoL.one rp2);rw[zyC]at this;exact this
                 have hnd:=R2.nd i
                 rw[hfp]at hnd
                 rw[zpp hl,show znd ks k=ks++[k] by unfold znd;rw[hv];rfl,show zmz ks vs k vc=vs++[vc] by unfold zmz;rw[hv];rfl]
                 obtain⟨R4,g4⟩:=R2.mut (fo:=[]) (n:=.nd (.dt (ks++[k])) (os++[.lf st d])) (u:=.dT ((ks++[k]).zip (vs++[vc]))) (zzE.mp k2).1 hfp hs0 (fp':=fp) (λa m=>m) (by rw[zyC];exact(zzU.mp hnd).2) (by rw[hH];simp) λH' G' hl' gr kp=>.dt hl' (by rw[zzH,zzH,hl];rfl) (YL.grow gr kp rl')
                 exact q σ _ _ R4 (gd.trans g4))
end
def zew(ss:List Int):Nat:=(ss.foldl step_dedup []).length
theorem zpt(ss:List Int):(List.range ss.length).map (λi=>ss.getD i 0)=ss:=by
 refine List.ext_getElem? λi=>?_
 rw[zzG]
 by_cases h:i<ss.length
 · rw[zzC (by rw[zyS];exact h),List.getElem_range,zzC h]
   show some (ss.getD i 0)=_
   rw[zyD,zzC h];rfl
 · rw[List.getElem?_eq_none (by rw[zyS];omega),List.getElem?_eq_none (by omega)];rfl
theorem ztw:bootBuiltins "set"=some (.type "set"):=by decide +kernel
theorem ziv:∀{us:List Value}{ss:List Int},IntsAre us ss->us.length=ss.length
 |_,_,.nil=>rfl
 |_,_,.cons _ _ r=>congrArg (· + 1) (ziv r)
section
variable{X:Cx}{kd:KD}
def tLS(K:zC)(ta:TA):TE:=λσ H Q=>ta σ H λvs H1=>∃r ys ss,vs=[.ref r]/\SqL K H1 r ys/\(∀us,Vals ys us->IntsAre us ss)/\ss.length<=1000/\Q (.int (zew ss)) H1
theorem znm{a:Expr}{ta:TA}{p p' pos pos':Pos}(hc:X.calm=true)(hg:Gl X "set")(hm:X.mg "set"=none)(hgl:Gl X "len")(hml:X.mg "len"=none)(ha:PA X [a] ta)(hs:starEach [a] X.env=[(false,eval a X.env)])
 (hs':starEach [.Call (.Name "set" p) [a] [] pos] X.env=[(false,eval (.Call (.Name "set" p) [a] [] pos) X.env)]):PE X (.Call (.Name "len" p') [.Call (.Name "set" p) [a] [] pos] [] pos') (tLS X.K ta):=by
 intro pins s σ H Q I h
 refine wpAny_Call_Name_kw (W0 I hgl hml Bt.len (PyProof.Rows.callWith_builtin1 ?_ hs' rfl))
 rw[hs']
 show wpAny _ _ (spliced ((false,eval _ X.env)::backTo pos' [])) _ _ s
 refine Calls.spliced_cons ?_
 refine wpAny_Call_Name_kw (W0 I hg hm ztw (PyProof.Rows.callWith_type1 (thn (ha pos pins s σ H _ I h) λus s1 ⟨vs,H1,I1,r1,q1⟩=>?_) hs rfl))
 obtain⟨r,ys,ss,rfl,sq,hss,hz,q⟩:=q1
 cases r1 with
 |cons rr rs=>
  cases rs
  cases rr
  obtain⟨its,rv,pl,_⟩:=I1.list sq
  have hS:=hss its rv
  have hl:=ziv hS
  refine call_set_list (ns:=ss) (I1.ok.hd hc) pl.isList (by simpa using hS) (by simp only[zzF];unfold scanBound;omega) λh' tk hSet hk=>?_
  refine Calls.spliced_nil ?_
  obtain⟨o,es,ep,t,ho,hex,hd,_,_,hb,hf,hn⟩:=hSet
  refine call_len_set ho hex hd hf (by unfold scanBound at hb;omega) ?_
  have e:es.size=zew ss:=by
   rw[hn,zzF,hl]
   unfold PyProof.Rows.firstMet zew
   rw[zpt]
  refine⟨.int (zew ss),H1,I1.kept λb u e=>hk b u (zxH e) e,⟨_,by rw[e]⟩,q⟩
def lsP:List D->Option R0:=on1 λx=>(asL x).bind λds=>(Xb ds).bind λss=>if ss.length<=1000 then some (.im (.int (zew ss)))else none
theorem znZ{a:Expr}{fr:AF}{p p' pos pos':Pos}(hc:X.calm=true)(hg:Gl X "set")(hm:X.mg "set"=none)(hgl:Gl X "len")(hml:X.mg "len"=none)(ha:AA X kd [a] fr)(hs:starEach [a] X.env=[(false,eval a X.env)])
 (hs':starEach [.Call (.Name "set" p) [a] [] pos] X.env=[(false,eval (.Call (.Name "set" p) [a] [] pos) X.env)]):AE X kd (.Call (.Name "len" p') [.Call (.Name "set" p) [a] [] pos] [] pos') (fP fr lsP):=by
 with_unfolding_all exact(wL (znm hc hg hm hgl hml ha hs hs') λσ H Q h=>by
  obtain⟨F,B,ad,as,r,as',R,e,q⟩:=h
  obtain⟨⟨rs,as1⟩,h1,e⟩:=bS_ (show(fr as).bind _=_ from e)
  obtain⟨⟨ds,lv⟩,h2,e⟩:=bS_ e
  obtain⟨r0,h3,e⟩:=bS_ e
  obtain⟨z,h4,e⟩:=bS_ e
  cases e
  refine(show alA X.K kd fr σ H _ from⟨F,B,ad,as,rs,as1,R,h1,λvs ad1 H1 R1 rv1 g1=>?_⟩)
  have vl:=zbh R1 rv1 h2
  have rq:=Vb R1 h4 (Q:=Q) λw T' H' R' rv' g'=>q w T' ad1 H' R' rv' (g1.trans g')
  obtain⟨x,d,rfl,vx,he⟩:=zcz vl h3
  obtain⟨ds',h0,he2⟩:=bS_ (show(asL d).bind _=_ from he)
  cases zcw h0
  obtain⟨ss,k1,he3⟩:=bS_ he2
  obtain⟨hz,he4⟩:=yj he3
  cases he4
  cases vx with
  |lst hr rl=>exact⟨_,_,ss,rfl,hr.sq,λus hv=>ints_of rl hv k1,hz,yQ rq (.int _)⟩)
end
def zvu:EF:=λas=>some (.ow (.nd (.dt []) []),as)
section
variable{X:Cx}{kd:KD}{n:Nat}
theorem ztk{pos:Pos}:AE X kd (.Dict [] [] pos) zvu:=by with_unfolding_all exact(wL zoG λσ H Q h=>by
 obtain⟨F,B,ad,as,r,as',R,e,q⟩:=h
 cases e
 intro p hp
 have k:∀b o,H b=some o->upd H p (.dT []) b=some o:=λb o hb=>by rw[yo (xg hb hp)];exact hb
 obtain⟨R2,g2⟩:=R.news (T':=[p]) (by simp) (λa m=>by rw[zzP.mp m];exact hp) k (λa m=>by rw[zzP.mp m,yZ];simp)
 exact q _ [p] ad _ R2 (.dt (ks:=[]) (vs:=[]) yZ rfl .nil) g2)
end
end PF
end
section
namespace G56
open PySem PySem.Spec PyProof.Rows L2 PF
abbrev zr:EF:=fV 1
abbrev yF:EF:=fC (.int 0)
abbrev zq:EF:=fV 0
abbrev yN:EF:=fC (.int 2)
abbrev yp:EF:=fC (.int 1)
abbrev zG:EF:=fV 2
abbrev wK:EF:=fC (.int 4)
abbrev V8:GF:=gN 4
abbrev yD:EF:=fV 4
abbrev zV:EF:=fV 3
abbrev yh:GF:=gN 0
abbrev zE:=W3 .Add
abbrev wR:EF:=fV 5
abbrev zcK:EF:=fC (.int 5)
abbrev vX:EF:=fV 6
abbrev v4:EF:=fV 7
abbrev xY:EF:=fV 11
abbrev zA:=W3 .Mod
abbrev zU:=W3 .Mult
abbrev Yz:EF:=fC (.int 8)
abbrev zP:=W3 .FloorDiv
abbrev Zc:EF:=fC (.int 3)
abbrev YT:=W3 .Sub
abbrev zct:EF:=fC (.int 6)
abbrev Xg:AF:=aC (fV 3) aN
abbrev Zd:AF:=aC (fV 0) aN
abbrev wN:AF:=aC (fV 1) aN
abbrev Wy:AF:=aC (fV 2) aN
abbrev zrk:AF:=aC (fV 5) aN
abbrev zwD:AF:=aC (fV 7) aN
abbrev VL:List Str:=["algebra","join","nothing","a"]
theorem Zn:FnScope VL ["algebra"] (zm ZP):=fsc
def VJ:SF:=
 (zB (zO true 1 (f2 zq yN ixP))
  (zB (zO true 2 (f2 zq Zc ixP))
  (zB (vd (yJ (aC (f2 zq yF ixP) aN) yK) (gN 3) (sIf (zgR (fT (f2 (f2 (f2 zr zG ixP) zV ixP) zV (zY .NotEq))) (fT (f2 (f2 (f2 zr zV ixP) zG ixP) zV (zY .NotEq)))) (yE (yL (dC (fC (.str "nothing")) (dC zV dN)))) sNx))
  (yE (fC .non)))))
def v6:Fn:=fnR 4 1 VJ
abbrev VV:List Str:=["algebra","n","join","a","b","c"]
theorem wO:FnScope VV ["algebra"] (zm ZL):=fsc
def V4:SF:=
 (zB (zO true 1 (f2 zq yF ixP))
  (zB (zO true 2 (f2 zq yN ixP))
  (zB (vd (yJ wN yK) (gN 3) (vd (yJ wN yK) V8 (vd (yJ wN yK) (gN 5) (sIf (fT (f2 (f2 (f2 zG (f2 (f2 zG zV ixP) yD ixP) ixP) wR ixP) (f2 (f2 zG zV ixP) (f2 (f2 zG yD ixP) wR ixP) ixP) (zY .NotEq))) (yE (yL (dC (fC (.str "parting")) (dC zV (dC yD (dC wR dN)))))) sNx))))
  (yE (fC .non)))))
def vZ:Fn:=fnR 6 1 V4
abbrev zbt:List Str:=["algebra","name","rows","n","m","join","a","i","b","j"]
theorem wG:FnScope zbt ["algebra","name","rows"] (zm Yr):=fsc
def zbu:SF:=
 (zB (zO true 3 (f2 zq yF ixP))
  (zB (zO true 4 (f2 zq yp ixP))
  (zB (zO true 5 (f2 zq yN ixP))
  (zB (vd (yJ Xg yK) (gN 6) (vd (yJ (aC yD aN) yK) (gN 7) (vd (yJ Xg yK) (gN 8) (vd (yJ (aC yD aN) yK) (gN 9) (sIf (fT (f2 (f2 (f2 zG (f2 (f2 v4 (fV 9) zE) yD zA) ixP) (f2 (f2 wR vX ixP) (fV 8) ixP) ixP) (f2 (f2 wR (f2 (f2 zG v4 ixP) vX ixP) ixP) (f2 (f2 zG (fV 9) ixP) (fV 8) ixP) ixP) (zY .NotEq))) (yE (yL (dC (fC (.str "doing")) (dC zr (dC vX (dC v4 (dC (fV 8) (dC (fV 9) dN)))))))) sNx)))))
  (yE (fC .non))))))
def v7:Fn:=fnR 10 3 zbu
abbrev zcS:List Str:=["algebra","nothing","name","rows","fault"]
theorem ZD:FnScope zcS ["algebra"] (zm Xh):=fsc
def zcX:SF:=
 (zB (zO true 1 (f2 zq Zc ixP))
  (zB (vd (zeq (f2 zq wK ixP)) (gT 2 (gsC (gN 2) (gsC (gN 3) gsN))) (zB (sIf (fT (f2 (f2 (f2 zV yF ixP) zr ixP) zr (zY .NotEq))) (yE (yL (dC (fC (.str "empty")) (dC zG dN)))) sNx)
  (zB (zO true 4 (zN (aC zq (aC zG Xg)) v7))
  (sIf (fT (f2 yD (fC .non) (zY .IsNot))) (yE yD) sNx))))
  (yE (fC .non))))
def Z9:Fn:=fnR 5 1 zcX
abbrev zdb:List Str:=["algebra","fault"]
theorem Yq:FnScope zdb ["algebra"] (zm Xd):=fsc
def zcO:SF:=
 (zB (zO true 1 (zN Zd v6))
  (zB (sIf (fT (f2 zr (fC .non) (zY .Is))) (zO true 1 (zN Zd vZ)) sNx)
  (zB (sIf (fT (f2 zr (fC .non) (zY .Is))) (zO true 1 (zN Zd Z9)) sNx)
  (yE zr))))
def Yc:Fn:=fnR 2 1 zcO
abbrev zaG:List Str:=["algebra","fault"]
theorem VR:FnScope zaG ["algebra"] (zm Yg):=fsc
def X5:SF:=
 (zB (zO true 1 (zN Zd Yc))
  (sIf (fT (f2 zr (fC .non) (zY .IsNot))) sNo sNx))
def wI:Fn:=fnR 2 1 X5
abbrev zku:List Str:=["algebra","row","whole","value"]
theorem zbd:FnScope zku ["algebra","row"] (zm zda):=fsc
def zkg:SF:=
 (zB (sIf (fT (f2 (fP wN Zr) yF (zY .Eq))) (yE (f2 zq Zc ixP)) sNx)
  (zB (zO true 2 (f2 zr yF ixP))
  (zB (vd (zeq (fSl zr (oS yp) oN slP)) (gN 3) (zO true 2 (f2 (f2 (f2 zq yN ixP) zG ixP) zV ixP)))
  (yE zG))))
def XQ:Fn:=fnR 4 2 zkg
abbrev zdx:List Str:=["algebra","name","row","rows","made"]
theorem zcf:FnScope zdx ["algebra","name","row"] (zm Wz):=fsc
theorem zjv:(["value","made"]:List Str).Nodup:=by decide +kernel
def zhZ:SF:=
 (zB (zO true 3 (f2 (fP (aC (f2 zq wK ixP) aN) ziE) zr ixP))
  (zB (zO true 4 (f2 zV (f2 yp (f2 zq yp ixP) zA) ixP))
  (yE (zL (xq zG) [none,some 4] yh yf (f2 zr zq ixP)))))
def Zt:Fn:=fnR 5 3 zhZ
abbrev YB:List Str:=["algebra","join","places","found","name","rows"]
theorem Zu:FnScope YB ["algebra"] (zm Ze):=fsc
theorem zhy:(["x","join"]:List Str).Nodup:=by decide +kernel
theorem zgi:(["x","join"]:List Str).Nodup:=by decide +kernel
theorem zgx:(["row","x"]:List Str).Nodup:=by decide +kernel
theorem zay:(["c","row","name"]:List Str).Nodup:=by decide +kernel
def zeA:SF:=
 (zB (zO true 1 (f2 zq yN ixP))
  (zB (zO true 2 (fP (aC (f2 zq yF ixP) aN) lrP))
  (zB (zO false 3 (f2 (zL (xq zG) [none,some 1] yh yf (yL (dC (yL (dC (fC (.str "left")) (dC zq dN))) (dC (f2 zr zq ixP) dN)))) (zL (xq zG) [none,some 1] yh yf (yL (dC (yL (dC (fC (.str "right")) (dC zq dN))) (dC (zL (xq zr) [none,some 0] yh yf (f2 zq zr ixP)) dN)))) zE))
  (zB (vd (zeq (f2 zq wK ixP)) (gT 2 (gsC V8 (gsC (gN 5) gsN))) (xx (vf 3 (dC (zL (zqM wR) [none,none,some 4] (gT 2 (gsC yh (gsC (gN 1) gsN))) yf (yL (dC (yL (dC (fC (.str "deed")) (dC zG (dC zq dN)))) (dC zr dN)))) dN) zns)))
  (yE zV)))))
def Z1:Fn:=fnR 6 1 zeA
abbrev zbT:List Str:=["keys","numbers","key"]
theorem zaJ:FnScope zbT ["keys"] (zm X4):=fsc
theorem zhK:(["key","numbers"]:List Str).Nodup:=by decide +kernel
def zgs:SF:=
 (zB (zO false 1 zvu)
  (zB (vd (zeq zq) (gN 2) (znK 1 (dC zG (dC (fP wN Zr) dN))))
  (yE (zL (xq zq) [none,some 1] yh yf (f2 zr zq ixT)))))
def vI:Fn:=fnR 3 1 zgs
abbrev zbM:List Str:=["algebra","value"]
theorem zkf:FnScope zbM ["algebra","value"] (zm XR):=fsc
theorem zbn:(["name","values","value"]:List Str).Nodup:=by decide +kernel
def zgf:SF:=
 (yE (fP (aC (zL (xq (f2 zq zcK ixP)) [none,none,some 1] (gT 2 (gsC yh (gsC (gN 1) gsN))) yf (f2 zG zr (zY .In))) aN) tupP))
def Ym:Fn:=fnR 2 2 zgf
abbrev vm:List Str:=["algebra","places","rows","numbers","finer"]
theorem wg:FnScope vm ["algebra"] (zm xX):=fsc
theorem Xr:(["step","row"]:List Str).Nodup:=by decide +kernel
theorem zcA:(["a","algebra"]:List Str).Nodup:=by decide +kernel
theorem zbX:(["a","numbers","rows"]:List Str).Nodup:=by decide +kernel
theorem zcp:(["row","numbers","a"]:List Str).Nodup:=by decide +kernel
theorem zbO:(["a","numbers","rows"]:List Str).Nodup:=by decide +kernel
theorem zcx:(["row","numbers","a"]:List Str).Nodup:=by decide +kernel
def V1:SF:=
 (zB (zO true 1 (fP (aC (f2 zq yF ixP) aN) lrP))
  (zB (zO true 2 (f2 (xU (dC zr dN)) (zL (xq (zN Zd Z1)) [none,none] (gT 2 (gsC yh (gsC (gN 1) gsN))) yf zr) zE))
  (zB (zO true 3 (zN (aC (zL (xq zr) [none,some 0] yh yf (zN (aC zr Zd) Ym)) aN) vI))
  (zB (zO true 4 (zN (aC (zL (xq zr) [none,some 3,some 2] yh yf (fP (aC (zL (xq zG) [none,some 1,some 0] yh yf (f2 zr (f2 zq zG ixP) ixP)) aN) tupP)) aN) vI))
  (zB (whL (fT (f2 yD zV (zY .NotEq))) (zB (zO true 3 yD)
  (zO true 4 (zN (aC (zL (xq zr) [none,some 3,some 2] yh yf (fP (aC (zL (xq zG) [none,some 1,some 0] yh yf (f2 zr (f2 zq zG ixP) ixP)) aN) tupP)) aN) vI))) 10000)
  (yE zV))))))
def vq:Fn:=fnR 5 1 V1
abbrev vh:List Str:=["algebra","numbers","chosen","join","deeds","signs"]
theorem wQ:FnScope vh ["algebra"] (zm xW):=fsc
theorem zcB:(["k","numbers"]:List Str).Nodup:=by decide +kernel
theorem zcj:(["a","numbers","chosen","algebra"]:List Str).Nodup:=by decide +kernel
theorem zco:(["b","numbers","a","algebra"]:List Str).Nodup:=by decide +kernel
theorem Xx:(["name","rows","numbers","chosen"]:List Str).Nodup:=by decide +kernel
theorem zcD:(["row","numbers","chosen"]:List Str).Nodup:=by decide +kernel
theorem zbS:(["a","numbers","row"]:List Str).Nodup:=by decide +kernel
theorem XC:(["name","values","numbers","chosen"]:List Str).Nodup:=by decide +kernel
theorem zce:(["a","numbers","values"]:List Str).Nodup:=by decide +kernel
def VN:SF:=
 (zB (xx (zN Zd wI))
  (zB (zO true 1 (zN Zd vq))
  (zB (zO true 2 (zL (yJ (aC (fP wN lsP) aN) yK) [none,some 1] yh yf (XH .lst zr Zd Xw)))
  (zB (zO true 3 (zL (xq zG) [none,some 1,some 2,some 0] yh yf (zL (xq zG) [none,some 1,some 0,some 3] yh yf (f2 zr (f2 (f2 (f2 zV yN ixP) zG ixP) zq ixP) ixP))))
  (zB (zO true 4 (zL (xq (f2 zq wK ixP)) [none,none,some 1,some 2] (gT 2 (gsC yh (gsC (gN 1) gsN))) yf (yL (dC zq (dC (zL (xq zr) [none,some 2,some 3] yh yf (zL (xq zG) [none,some 1,some 0] yh yf (f2 zr (f2 zG zq ixP) ixP))) dN)))))
  (zB (zO true 5 (zL (xq (f2 zq zcK ixP)) [none,none,some 1,some 2] (gT 2 (gsC yh (gsC (gN 1) gsN))) yf (yL (dC zq (dC (zL (xq zV) [none,some 2,some 1] yh (fT (f2 zq zG (zY .In))) (f2 zr zq ixP)) dN)))))
  (yE (yL (dC (yL (dC (fP Wy Zr) (dC (f2 zq yp ixP) (dC zV (dC (f2 zr (f2 zq Zc ixP) ixP) (dC yD (dC wR dN))))))) (dC zr dN))))))))))
def wJ:Fn:=fnR 6 1 VN
abbrev zbq:List Str:=["_law_script","_law_k"]
theorem zfS:FnScope zbq ["_law_script","_law_k"] (zm Yp):=fsc
def zby:SF:=
 (zB (sIf (fT (f2 zr (fP Zd Zr) (zY .Lt))) (yE (f2 zq zr ixP)) sNx)
  (yE yF))
def zQ:Fn:=fnR 2 2 zby
abbrev zdk:List Str:=["_law_cell","_law_many","_law_found","_law_number","_law_k"]
theorem ZJ:FnScope zdk ["_law_cell","_law_many"] (zm Xm):=fsc
def zcV:SF:=
 (zB (zO false 2 (xU dN))
  (zB (zO true 3 (f2 (f2 zq (fC (.int 2147483647)) zA) (fC (.int 48271)) zE))
  (zB (vd (yJ (aC (f2 zr yp zE) aN) yK) V8 (zB (zO true 3 (f2 (f2 (f2 (f2 zV zV zU) (f2 (fC (.int 48271)) zV zU) zE) yD zE) (fC (.int 2147483647)) zA))
  (xx (vf 2 (dC (f2 (f2 (f2 zV (fC (.int 40692)) zU) (f2 (fC (.int 7)) yD zU) zE) (fC (.int 2147483399)) zA) dN) vM))))
  (yE (fSl zG (oS yp) oN slP)))))
def zT:Fn:=fnR 5 2 zcV
abbrev zas:List Str:=["_law_cell","_law_many","_law_letters","_law_xs","_law_base","_law_at","_law_found","_law_k"]
theorem vV:FnScope zas ["_law_cell","_law_many"] (zm YC):=fsc
theorem zht:(["_law_x","_law_letters"]:List Str).Nodup:=by decide +kernel
def zeG:SF:=
 (zB (zO true 2 (fC (.str "abcdefghijklmnopqrstuvwxyz")))
  (zB (zO true 3 (zN (aC zq (aC (fC (.int 9)) aN)) zT))
  (zB (zO true 4 (XH .str (fC (.str "")) (aC (zL (xq (fSl zV oN (oS (f2 yp (f2 zq Yz zA) zE)) slP)) [none,some 2] yh yf (f2 zr (f2 zq (fC (.int 26)) zA) ixP)) aN) znj))
  (zB (zO true 5 (f2 (f2 zq Yz zP) (fP (aC yD aN) Zr) zA))
  (zB (zO false 6 (xU dN))
  (zB (vd (yJ wN yK) (gN 7) (xx (vf 6 (dC (f2 (f2 (fSl yD oN (oS wR) slS) (f2 zG (f2 (f2 (f2 zV Yz ixP) (f2 Zc v4 zU) zE) (fC (.int 26)) zA) ixP) zE) (fSl yD (oS (f2 wR yp zE)) oN slS) zE) dN) vM)))
  (yE vX)))))))
def YH:Fn:=fnR 8 2 zeG
abbrev zbs:List Str:=["_law_one","_law_other"]
theorem zaf:FnScope zbs ["_law_one","_law_other"] (zm Yt):=fsc
def zbD:SF:=
 (zB (whL (fT (f2 zr yF (zY .Gt))) (zoI 0 1 (dC zr (dC (f2 zq zr zA) dN))) 10000)
  (yE zq))
def Zy:Fn:=fnR 2 2 zbD
abbrev zcs:List Str:=["_law_n","_law_m","_law_xs","_law_step","_law_rows_here","_law_c"]
theorem Wa:FnScope zcs ["_law_n","_law_m","_law_xs"] (zm XS):=fsc
theorem zhO:(["_law_a","_law_n","_law_xs","_law_c","_law_step"]:List Str).Nodup:=by decide +kernel
def zgr:SF:=
 (zB (zO true 3 (f2 zq (zN (aC zq wN) Zy) zP))
  (zB (zO false 4 (xU dN))
  (zB (vd (yJ wN yK) (gN 5) (xx (vf 4 (dC (zL (yJ Zd yK) [none,some 0,some 2,some 5,some 3] yh yf (f2 (f2 (f2 zq (f2 zG yF ixP) zU) (f2 (f2 zV yD zU) (f2 zG yp ixP) zU) zE) zr zA)) dN) vM)))
  (yE yD))))
def Xp:Fn:=fnR 6 3 zgr
abbrev Xi:List Str:=["_law_n","_law_m","_law_xs","_law_row_here"]
theorem zbo:FnScope Xi ["_law_n","_law_m","_law_xs"] (zm Zo):=fsc
theorem zfh:(["_law_k","_law_n","_law_xs"]:List Str).Nodup:=by decide +kernel
theorem zfg:(["_law_c","_law_row_here"]:List Str).Nodup:=by decide +kernel
def zdo:SF:=
 (zB (zO false 3 (fP (aC (f2 (xU (dC yF dN)) (zL (yJ (aC (f2 zq yp YT) aN) yK) [none,some 0,some 2] yh yf (f2 (f2 zG zq ixP) zr zA)) zE) aN) zqf))
  (zB (zoH 3 (xC 0) (xC 0))
  (yE (zL (yJ wN yK) [none,some 3] yh yf (fP wN lstP)))))
def Z3:Fn:=fnR 4 3 zdo
abbrev WW:List Str:=["_law_n","_law_m","_law_xs","_law_row_here"]
theorem zeF:FnScope WW ["_law_n","_law_m","_law_xs"] (zm Yi):=fsc
theorem zhL:(["_law_k","_law_xs","_law_n"]:List Str).Nodup:=by decide +kernel
theorem zhH:(["_law_c","_law_row_here"]:List Str).Nodup:=by decide +kernel
def zgw:SF:=
 (zB (zO true 3 (f2 (xU (dC yF dN)) (zL (yJ (aC (f2 zq yp YT) aN) yK) [none,some 2,some 0] yh yf (f2 yp (f2 (f2 zr zq ixP) (f2 zG yp YT) zA) zE)) zE))
  (yE (zL (yJ wN yK) [none,some 3] yh yf (fP wN lstP))))
def XD:Fn:=fnR 4 3 zgw
abbrev Zk:List Str:=["_law_kind","_law_n","_law_maps"]
theorem zcQ:FnScope Zk ["_law_kind","_law_n"] (zm vz):=fsc
theorem zgE:(["_law_a","_law_n"]:List Str).Nodup:=by decide +kernel
theorem zhc:(["_law_b","_law_n","_law_a"]:List Str).Nodup:=by decide +kernel
theorem zgO:(["_law_a","_law_n"]:List Str).Nodup:=by decide +kernel
theorem zgX:(["_law_b","_law_a"]:List Str).Nodup:=by decide +kernel
theorem zgQ:(["_law_a","_law_n"]:List Str).Nodup:=by decide +kernel
theorem zgL:(["_law_b","_law_a"]:List Str).Nodup:=by decide +kernel
theorem zhg:(["_law_a","_law_n"]:List Str).Nodup:=by decide +kernel
theorem zge:(["_law_b","_law_a"]:List Str).Nodup:=by decide +kernel
theorem zhs:(["_law_one","_law_maps"]:List Str).Nodup:=by decide +kernel
theorem zfs:(["_law_two","_law_maps","_law_one"]:List Str).Nodup:=by decide +kernel
def zeu:SF:=
 (zB (sIf (fT (f2 zq yF (zY .Eq))) (yE (zL (yJ wN yK) [none,some 1] yh yf (zL (yJ wN yK) [none,some 1,some 0] yh yf (f2 (f2 zG zq zE) zr zA)))) sNx)
  (zB (sIf (fT (f2 zq yp (zY .Eq))) (yE (zL (yJ wN yK) [none,some 1] yh yf (zL (yJ wN yK) [none,some 0] yh yf (fP (aC zr Zd) zum)))) sNx)
  (zB (sIf (fT (f2 zq yN (zY .Eq))) (yE (zL (yJ wN yK) [none,some 1] yh yf (zL (yJ wN yK) [none,some 0] yh yf (f2 (xU (dC zq (dC zr dN))) (fP (aC (f2 zq yF (zY .Eq)) aN) zkP) ixP)))) sNx)
  (zB (sIf (fT (f2 zq Zc (zY .Eq))) (yE (zL (yJ wN yK) [none,some 1] yh yf (zL (yJ wN yK) [none,some 0] yh yf (f2 (xU (dC zr (dC zq dN))) (fP (aC (f2 zr yF (zY .Eq)) aN) zkP) ixP)))) sNx)
  (zB (zO true 2 (xU (dC (yL (dC yF (dC yp dN))) (dC (yL (dC yp (dC yF dN))) (dC (yL (dC yF (dC yF dN))) (dC (yL (dC yp (dC yp dN))) dN))))))
  (yE (zL (xq zG) [none,some 2] yh yf (zL (xq zr) [none,some 1,some 0] yh yf (XH .lst zr (aC (yL (dC (f2 zq (f2 zG yF ixP) ixP) (dC (f2 zq (f2 zG yp ixP) ixP) dN))) aN) Xw)))))))))
def ZV:Fn:=fnR 3 2 zeu
abbrev zci:List Str:=["_law_kind","_law_n","_law_m","_law_xs"]
theorem zkH:FnScope zci ["_law_kind","_law_n","_law_m","_law_xs"] (zm XM):=fsc
theorem zhN:(["_law_c","_law_xs"]:List Str).Nodup:=by decide +kernel
def zgj:SF:=
 (zB (sIf (fT (f2 zq yF (zY .Eq))) (yE (zN (aC zr (aC zG Xg)) Xp)) sNx)
  (zB (sIf (fT (f2 zq yp (zY .Eq))) (yE (zN (aC zr (aC zG Xg)) Z3)) sNx)
  (zB (sIf (fT (f2 zq wK (zY .Lt))) (yE (zN (aC zr (aC zG Xg)) XD)) sNx)
  (yE (zL (yJ Wy yK) [none,some 3] yh yf (f2 (xU (dC (xU (dC yF (dC yp (dC yN (dC Zc dN))))) (dC (xU (dC yF (dC yp (dC Zc (dC yN dN))))) dN))) (f2 (f2 zr yF ixP) yN zA) ixP))))))
def Yj:Fn:=fnR 4 4 zgj
abbrev zaa:List Str:=["_law_kind","_law_n","_law_m","_law_many","_law_cell","_law_rows_here"]
theorem zdf:FnScope zaa ["_law_kind","_law_n","_law_m","_law_many","_law_cell"] (zm Yy):=fsc
theorem zgB:(["_law_k","_law_kind","_law_n","_law_m","_law_cell"]:List Str).Nodup:=by decide +kernel
def zex:SF:=
 (zB (zO true 5 (zL (yJ Xg yK) [none,some 0,some 1,some 2,some 4] yh yf (zN (aC zr (aC zG (aC zV (aC (zN (aC (f2 yD (f2 (fC (.int 31)) zq zU) zE) (aC (fC (.int 9)) aN)) zT) aN)))) Yj)))
  (yE (yL (dC zr (dC (zN (aC zq wN) ZV) (dC wR dN))))))
def wM:Fn:=fnR 6 5 zex
abbrev W6:List Str:=["_law_one","_law_other","_law_m","_law_n","_law_by","_law_join","_law_p","_law_here","_law_there","_law_deeds","_law_rows_here","_law_c","_law_made_here","_law_ahead"]
theorem yI:FnScope W6 ["_law_one","_law_other","_law_m"] (zm Z5):=fsc
theorem zfd:(["_law_q","_law_by","_law_there","_law_here"]:List Str).Nodup:=by decide +kernel
def zcZ:SF:=
 (zB (zO true 3 (f2 (f2 zq yF ixP) (f2 zr yF ixP) zU))
  (zB (zO true 4 (f2 zr yF ixP))
  (zB (zO false 5 (xU dN))
  (zB (vd (yJ Xg yK) (gN 6) (zB (zO true 7 (f2 (f2 zq yp ixP) (f2 vX yD zP) ixP))
  (zB (zO true 8 (f2 (f2 zr yp ixP) (f2 vX yD zA) ixP))
  (xx (vf 5 (dC (zL (yJ Xg yK) [none,some 4,some 8,some 7] yh yf (f2 (f2 (f2 zV (f2 zq zr zP) ixP) zr zU) (f2 zG (f2 zq zr zA) ixP) zE)) dN) vM)))))
  (zB (zO false 9 (xU dN))
  (zB (vd (zno (aC (f2 zq yN ixP) (aC (f2 zr yN ixP) aN))) (gT 2 (gsC (gN 7) (gsC (gN 8) gsN))) (zB (zO false 10 (xU dN))
  (zB (vd (yJ Wy yK) (gN 11) (zB (zO false 12 (xU dN))
  (zB (vd (yJ Xg yK) (gN 6) (zB (zO true 13 (f2 (f2 (f2 v4 xY ixP) (f2 vX yD zP) ixP) yD zU))
  (xx (vf 12 (dC (f2 (fV 13) (f2 (f2 (fV 8) xY ixP) (f2 vX yD zA) ixP) zE) dN) vM))))
  (xx (vf 10 (dC (fV 12) dN) vM)))))
  (xx (vf 9 (dC (fV 10) dN) vM)))))
  (yE (yL (dC zV (dC wR (dC (fV 9) dN)))))))))))
def Yd:Fn:=fnR 14 3 zcZ
abbrev zhm:List Str:=["_law_cell","_law_m","_law_many","_law_xs","_law_kind","_law_sizes","_law_one","_law_n"]
theorem vR:FnScope zhm ["_law_cell","_law_m","_law_many"] (zm WX):=fsc
def zgl:SF:=
 (zB (zO true 3 (zN (aC zq (aC zcK aN)) zT))
  (zB (zO true 4 (f2 (f2 zV yF ixP) (fC (.int 7)) zA))
  (zB (sIf (fT (f2 yD wK (zY .Gt))) (zB (zO true 5 (f2 (xU (dC (yL (dC yN (dC yN dN))) (dC (yL (dC Zc (dC yN dN))) (dC (yL (dC yN (dC Zc dN))) (dC (yL (dC wK (dC yN dN))) (dC (yL (dC yN (dC wK dN))) (dC (yL (dC yN (dC yN dN))) dN))))))) (f2 (f2 zV yp ixP) zct zA) ixP))
  (zB (zO true 6 (zN (aC (f2 (f2 zV yN ixP) wK zA) (aC (f2 wR yF ixP) (aC zr (aC zG (aC (f2 zV Zc ixP) aN))))) wM))
  (yE (zN (aC vX (aC (zN (aC (f2 (f2 zV wK ixP) wK zA) (aC (f2 wR yp ixP) (aC zr (aC zG (aC (f2 (f2 zV Zc ixP) (fC (.int 7)) zE) aN))))) wM) wN)) Yd)))) sNx)
  (zB (zO true 7 (f2 (xU (dC yN (dC Zc (dC wK (dC zcK (dC Zc (dC wK (dC zct (dC Yz dN))))))))) (f2 (f2 zV yp ixP) Yz zA) ixP))
  (zB (sIf (zbm (fT (f2 yD yF (zY .Eq))) (fT (f2 (f2 (f2 zV yN ixP) (fC (.int 9)) zA) yF (zY .Eq)))) (zO true 7 yp) sNx)
  (zB (sIf (fT (f2 yD wK (zY .Eq))) (zO true 7 wK) sNx)
  (yE (zN (aC yD (aC v4 (aC zr (aC zG (aC (f2 zV Zc ixP) aN))))) wM))))))))
def XF:Fn:=fnR 8 3 zgl
abbrev zeZ:List Str:=["_law_cell","_law_n","_law_left","_law_found","_law_x"]
theorem Xf:FnScope zeZ ["_law_cell","_law_n"] (zm Wi):=fsc
def zeE:SF:=
 (zB (zO false 2 (fP wN lrP))
  (zB (zO false 3 (xU dN))
  (zB (vd (zeq (zN (aC zq wN) zT)) V8 (xx (vf 3 (dC (vf 2 (dC (f2 yD (fP Wy Zr) zA) dN) zaI) dN) vM)))
  (yE zV))))
def YG:Fn:=fnR 5 2 zeE
abbrev zaq:List Str:=["_law_cell","_law_n","_law_names_here","_law_signs_here","_law_x","_law_name"]
theorem Xe:FnScope zaq ["_law_cell","_law_n","_law_names_here"] (zm Yx):=fsc
theorem zgv:(["_law_v","_law_x"]:List Str).Nodup:=by decide +kernel
def zfc:SF:=
 (zB (zO false 3 (xU dN))
  (zB (vd (zno (aC (zN (aC zq (aC (fP Wy Zr) aN)) zT) Wy)) (gT 2 (gsC V8 (gsC (gN 5) gsN))) (xx (vf 3 (dC (yL (dC wR (dC (zL (yJ wN yK) [none,some 4] yh (fT (f2 (f2 (f2 zr (f2 (xU (dC yp (dC yN (dC wK (dC Yz (dC (fC (.int 16)) (dC (fC (.int 32)) (dC (fC (.int 64)) (dC (fC (.int 128)) dN))))))))) zq ixP) zP) yN zA) yp (zY .Eq))) zq) dN))) dN) vM)))
  (yE zV)))
def Z0:Fn:=fnR 6 3 zfc
abbrev ZC:List Str:=["_law_cell","_law_other","_law_ys","_law_m","_law_many","_law_n","_law_join","_law_deeds","_law_order_here","_law_back","_law_joins_here","_law_names_here","_law_told","_law_name","_law_rows_here","_law_signs_here"]
theorem yq:FnScope ZC ["_law_cell","_law_other"] (zm vL):=fsc
theorem zdE:(["_law_v","_law_order_here"]:List Str).Nodup:=by decide +kernel
theorem zef:(["_law_a","_law_order_here","_law_n","_law_join","_law_back"]:List Str).Nodup:=by decide +kernel
theorem zee:(["_law_b","_law_order_here","_law_join","_law_back","_law_a"]:List Str).Nodup:=by decide +kernel
theorem zeo:(["_law_row_here","_law_order_here","_law_n","_law_back"]:List Str).Nodup:=by decide +kernel
theorem zdy:(["_law_a","_law_order_here","_law_row_here","_law_back"]:List Str).Nodup:=by decide +kernel
def zbE:SF:=
 (zB (zO true 2 (zN (aC zr (aC zct aN)) zT))
  (zB (zO true 3 (f2 yp (f2 (f2 zG yF ixP) zct zA) zE))
  (zB (sIf (fT (f2 (f2 (f2 (f2 zG yF ixP) zct zP) yN zA) yF (zY .Eq))) (zO true 3 (f2 yp (f2 (f2 (f2 zG yF ixP) (fC (.int 12)) zP) Zc zA) zE)) sNx)
  (zB (zO true 4 (f2 (xU (dC yp (dC yN (dC yF (dC wK (dC Zc (dC yN (dC zct (dC zcK dN))))))))) (f2 (f2 zG yp ixP) Yz zA) ixP))
  (zB (sIf (fT (f2 yD Zc (zY .Gt))) (zO true 3 (f2 yp (f2 zV yN zA) zE)) sNx)
  (zB (zbk (zN (aC zq (aC zV (aC yD aN))) XF) (gT 3 (gsC (gN 5) (gsC (gN 6) (gsC (gN 7) gsN)))))
  (zB (zO true 8 (zN (aC (f2 zG yN ixP) zrk) YG))
  (zB (zO true 9 (zL (yJ zrk yK) [none,some 8] yh yf (XH .lst zr Zd Xw)))
  (zB (zO true 10 (zL (yJ zrk yK) [none,some 8,some 5,some 6,some 9] yh yf (zL (yJ Wy yK) [none,some 1,some 3,some 4,some 0] yh yf (f2 zr (f2 (f2 zG (f2 zV yD ixP) ixP) (f2 zV zq ixP) ixP) ixP))))
  (zB (zO true 11 (zN (aC (f2 zG Zc ixP) (aC (fC (.int 10)) aN)) YH))
  (zB (zO false 12 (xU dN))
  (zB (vd (zno (aC (fSl xY oN (oS zct) slP) zwD)) (gT 2 (gsC (gN 13) (gsC (gN 14) gsN))) (xx (vf 12 (dC (yL (dC (fV 13) (dC (zL (xq (fV 14)) [none,some 8,some 5,some 9] yh yf (zL (yJ Wy yK) [none,some 1,some 0,some 3] yh yf (f2 zr (f2 zG (f2 zV zq ixP) ixP) ixP))) dN))) dN) vM)))
  (zB (zO true 15 (zN (aC (f2 zG wK ixP) (aC wR (aC (fSl xY (oS zct) (oS (f2 zct (f2 (xU (dC yp (dC yN (dC yp (dC wK (dC yF (dC yN (dC Zc (dC yp dN))))))))) (f2 (f2 zG zcK ixP) Yz zA) ixP) zE)) slP) aN))) Z0))
  (yE (yL (dC wR (dC zV (dC (fV 10) (dC (f2 (fV 8) yF ixP) (dC (fV 12) (dC (fV 15) dN)))))))))))))))))))))
def wA:Fn:=fnR 16 2 zbE
abbrev VD:List Str:=["_law_algebra_here","_law_cell","_law_n","_law_m","_law_join","_law_nothing","_law_deeds","_law_signs_here","_law_xs","_law_joins_here","_law_told","_law_way","_law_rows_here"]
theorem xJ:FnScope VD ["_law_algebra_here","_law_cell"] (zm Yn):=fsc
theorem zhM:(["_law_row_here"]:List Str).Nodup:=by decide +kernel
theorem zbv:(["_law_name","_law_rows_here"]:List Str).Nodup:=by decide +kernel
theorem zhD:(["_law_row_here"]:List Str).Nodup:=by decide +kernel
def zhf:SF:=
 (zB (zbk zq (gT 6 (gsC (gN 2) (gsC (gN 3) (gsC V8 (gsC (gN 5) (gsC (gN 6) (gsC (gN 7) gsN))))))))
  (zB (zO true 8 (zN (aC zr (aC Yz aN)) zT))
  (zB (zO false 9 (zL (xq yD) [none] yh yf (fP Zd lstP)))
  (zB (zO false 10 (zL (xq vX) [none,none] (gT 2 (gsC yh (gsC (gN 1) gsN))) yf (yL (dC zq (dC (zL (xq zr) [none] yh yf (fP Zd lstP)) dN)))))
  (zB (zO true 11 (f2 (f2 (fV 8) yF ixP) zct zA))
  (zB (sIf (fT (f2 xY yF (zY .Eq))) (zO true 5 (f2 (f2 (fV 8) yp ixP) zG zA)) sNx)
  (zB (sIf (zgR (fT (f2 xY yp (zY .Eq))) (fT (f2 xY yN (zY .Eq)))) (zlm 9 (zae (xAt 8 (xC 2)) (xV 2)) (zae (xAt 8 (xC 3)) (xV 2)) (zae (xAt 8 (xC 4)) (xV 2))) sNx)
  (zB (sIf (zbm (fT (f2 xY yN (zY .Gt))) (fT (f2 (fV 10) (xU dN) (zY .NotEq)))) (zoT 12 10 (zae (xAt 8 (xC 5)) (zpe 10)) 1 (zae (xAt 8 (xC 6)) (xV 3)) (zae (xAt 8 (xC 7)) (xV 2)) (zae (xAt 8 (xC 4)) (xV 2))) sNx)
  (yE (yL (dC zG (dC zV (dC (fV 9) (dC wR (dC (fV 10) (dC v4 dN))))))))))))))))
def Xu:Fn:=fnR 13 2 zhf
abbrev zcW:List Str:=["_law_cell","_law_base","_law_many","_law_found","_law_k"]
theorem Yv:FnScope zcW ["_law_cell","_law_base","_law_many"] (zm Xk):=fsc
def zdj:SF:=
 (zB (zO false 3 (xU dN))
  (zB (vd (yJ Wy yK) V8 (zB (xx (vf 3 (dC (f2 zq zr zA) dN) vM))
  (zO true 0 (f2 zq zr zP))))
  (yE zV)))
def vC:Fn:=fnR 5 3 zdj
abbrev ZM:List Str:=["_law_algebra_here","_law_cell","_law_n","_law_m","_law_join","_law_nothing","_law_deeds","_law_signs_here","_law_digits_here","_law_joins_here","_law_told","_law_k","_law_at"]
theorem yH:FnScope ZM ["_law_algebra_here","_law_cell"] (zm vp):=fsc
theorem zbR:(["_law_a","_law_digits_here","_law_n"]:List Str).Nodup:=by decide +kernel
theorem zcy:(["_law_c","_law_digits_here","_law_at","_law_n"]:List Str).Nodup:=by decide +kernel
def V7:SF:=
 (zB (zbk zq (gT 6 (gsC (gN 2) (gsC (gN 3) (gsC V8 (gsC (gN 5) (gsC (gN 6) (gsC (gN 7) gsN))))))))
  (zB (zO true 8 (zN (aC zr (aC zG (aC (f2 (f2 yp (f2 zG zG zU) zE) (f2 (f2 zG zV zU) (fP (aC vX aN) Zr) zU) zE) aN))) vC))
  (zB (zO true 9 (zL (yJ Wy yK) [none,some 8,some 2] yh yf (fSl zr (oS (f2 yp (f2 zG zq zU) zE)) (oS (f2 (f2 yp (f2 zG zq zU) zE) zG zE)) slP)))
  (zB (zO false 10 (xU dN))
  (zB (vd (yJ (aC (fP (aC vX aN) Zr) aN) yK) (gN 11) (zB (zO true 12 (f2 (f2 yp (f2 zG zG zU) zE) (f2 (f2 zG zV zU) xY zU) zE))
  (xx (vf 10 (dC (yL (dC (f2 (f2 vX xY ixP) yF ixP) (dC (zL (yJ Xg yK) [none,some 8,some 12,some 2] yh yf (fSl zr (oS (f2 zG (f2 zV zq zU) zE)) (oS (f2 (f2 zG (f2 zV zq zU) zE) zV zE)) slP)) dN))) dN) vM))))
  (yE (yL (dC zG (dC zV (dC (fV 9) (dC (f2 (fV 8) yF ixP) (dC (fV 10) (dC v4 dN)))))))))))))
def v5:Fn:=fnR 13 2 V7
abbrev zif:List Str:=["_law_script","_law_cell","_law_algebra_here"]
theorem zck:FnScope zif ["_law_script"] (zm zaX):=fsc
def zhW:SF:=
 (zB (zO true 1 (zN (aC zq (aC yN aN)) zQ))
  (zB (zO true 2 (zN (aC (zN (aC zq (aC yF aN)) zQ) (aC (zN (aC zq (aC yp aN)) zQ) aN)) wA))
  (zB (sIf (fT (f2 (f2 zr yN zA) yp (zY .Eq))) (yE (zN (aC zG (aC (f2 zr yN zP) aN)) v5)) sNx)
  (yE (zN (aC zG (aC (f2 zr yN zP) aN)) Xu)))))
def WQ:Fn:=fnR 3 1 zhW
abbrev zbl:List Str:=["_law_n","_law_join","_law_nothing","_law_a","_law_b","_law_c"]
theorem Zg:FnScope zbl ["_law_n","_law_join","_law_nothing"] (zm Yo):=fsc
def zbJ:SF:=
 (zB (vd (yJ Zd yK) (gN 3) (sIf (zgR (fT (f2 (f2 (f2 zr zG ixP) zV ixP) zV (zY .NotEq))) (fT (f2 (f2 (f2 zr zV ixP) zG ixP) zV (zY .NotEq)))) (yE (yL (dC (fC (.str "nothing")) (dC zV dN)))) sNx))
  (zB (vd (yJ Zd yK) (gN 3) (vd (yJ Zd yK) V8 (vd (yJ Zd yK) (gN 5) (sIf (fT (f2 (f2 (f2 zr (f2 (f2 zr zV ixP) yD ixP) ixP) wR ixP) (f2 (f2 zr zV ixP) (f2 (f2 zr yD ixP) wR ixP) ixP) (zY .NotEq))) (yE (yL (dC (fC (.str "parting")) (dC zV (dC yD (dC wR dN)))))) sNx))))
  (yE (fC .non))))
def ZK:Fn:=fnR 6 3 zbJ
abbrev zeR:List Str:=["_law_n","_law_m","_law_join","_law_name","_law_rows_here","_law_p","_law_q","_law_a","_law_i","_law_b","_law_j","_law_made_here"]
theorem vG:FnScope zeR ["_law_n","_law_m","_law_join","_law_name","_law_rows_here"] (zm Wc):=fsc
def zeT:SF:=
 (zB (vd (yJ (aC (f2 zq zr zU) aN) yK) (gN 5) (vd (yJ (aC (f2 zq zr zU) aN) yK) (gN 6) (zB (zbk (fP (aC wR wN) zls) (gT 2 (gsC (gN 7) (gsC (gN 8) gsN))))
  (zB (zbk (fP (aC vX wN) zls) (gT 2 (gsC (gN 9) (gsC (gN 10) gsN))))
  (zB (zO true 11 (f2 (f2 zG (f2 (f2 yD (fV 8) ixP) v4 ixP) ixP) (f2 (f2 yD (fV 10) ixP) (fV 9) ixP) ixP))
  (sIf (fT (f2 (f2 (f2 yD (f2 (f2 (fV 8) (fV 10) zE) zr zA) ixP) (f2 (f2 zG v4 ixP) (fV 9) ixP) ixP) xY (zY .NotEq))) (yE (yL (dC (fC (.str "doing")) (dC zV (dC v4 (dC (fV 8) (dC (fV 9) (dC (fV 10) dN)))))))) sNx))))))
  (yE (fC .non)))
def ZX:Fn:=fnR 12 5 zeT
abbrev zey:List Str:=["_law_algebra_here","_law_n","_law_m","_law_join","_law_nothing","_law_deeds","_law_signs_here","_law_found","_law_name","_law_rows_here"]
theorem xu:FnScope zey ["_law_algebra_here"] (zm X7):=fsc
def zeS:SF:=
 (zB (zbk zq (gT 6 (gsC (gN 1) (gsC (gN 2) (gsC (gN 3) (gsC V8 (gsC (gN 5) (gsC (gN 6) gsN))))))))
  (zB (zO true 7 (zN (aC zr (aC zV (aC yD aN))) ZK))
  (zB (vd (zeq wR) (gT 2 (gsC (gN 8) (gsC (gN 9) gsN))) (zB (sIf (zbm (fT (f2 v4 (fC .non) (zY .Is))) (fT (f2 (f2 (f2 (fV 9) yF ixP) yD ixP) yD (zY .NotEq)))) (zO true 7 (yL (dC (fC (.str "empty")) (dC (fV 8) dN)))) sNx)
  (sIf (fT (f2 v4 (fC .non) (zY .Is))) (zO true 7 (zN (aC zr (aC zG (aC zV (aC (fV 8) (aC (fV 9) aN))))) ZX)) sNx)))
  (yE v4))))
def ZZ:Fn:=fnR 10 1 zeS
abbrev zgm:List Str:=["_law_script","_law_some"]
theorem zeW:FnScope zgm ["_law_script"] (zm WY):=fsc
def zhd:SF:=
 (zB (zO true 1 (zN Zd WQ))
  (zB (sIf (zbm (fT (f2 (f2 (zN (aC zq (aC yN aN)) zQ) yN zA) yp (zY .Eq))) (fT (f2 (zN wN ZZ) (fC .non) (zY .Is)))) (yE zr) sNx)
  (yE (zN (aC (zN (aC zq (aC yF aN)) zQ) (aC (zN (aC zq (aC yp aN)) zQ) aN)) wA))))
def Zi:Fn:=fnR 2 1 zhd
abbrev zdO:List Str:=["_law_algebra_here","_law_cell","_law_n","_law_m","_law_join","_law_nothing","_law_deeds","_law_signs_here","_law_x","_law_values"]
theorem vW:FnScope zdO ["_law_algebra_here","_law_cell"] (zm WK):=fsc
theorem zja:(["_law_v","_law_n","_law_join","_law_x"]:List Str).Nodup:=by decide +kernel
def zis:SF:=
 (zB (zbk zq (gT 6 (gsC (gN 2) (gsC (gN 3) (gsC V8 (gsC (gN 5) (gsC (gN 6) (gsC (gN 7) gsN))))))))
  (zB (sIf (zgR (fT (f2 (f2 zr yN zA) yF (zY .Eq))) (fT (f2 v4 (xU dN) (zY .Eq)))) (yE zq) sNx)
  (zB (zO true 8 (f2 (zN (aC zr (aC yp aN)) zT) yF ixP))
  (zB (zO true 9 (zL (yJ Wy yK) [none,some 2,some 4,some 8] yh (fT (f2 (f2 (f2 zG zq ixP) (f2 zV zr zA) ixP) (f2 (f2 zV Yz zP) zr zA) (zY .Eq))) zq))
  (yE (yL (dC zG (dC zV (dC yD (dC wR (dC vX (dC (xU (dC (yL (dC (f2 (f2 v4 yF ixP) yF ixP) (dC (fV 9) dN))) dN)) dN))))))))))))
def ZS:Fn:=fnR 10 2 zis
abbrev zaY:List Str:=["_law_script","_law_n","_law_cell"]
theorem zgW:FnScope zaY ["_law_script","_law_n"] (zm Xn):=fsc
theorem zjL:(["_law_x","_law_n"]:List Str).Nodup:=by decide +kernel
theorem zjm:(["_law_cell","_law_n"]:List Str).Nodup:=by decide +kernel
def ziF:SF:=
 (zB (zO true 2 (zN (aC zq (aC Zc aN)) zQ))
  (zB (sIf (fT (f2 (f2 zG yN zA) yp (zY .Eq))) (yE (zN (aC (f2 zG (fC (.int 128)) zP) (aC zr (aC (f2 (f2 (f2 zG yN zP) (fC (.int 64)) zA) (fC (.int 61)) zA) aN))) vC)) sNx)
  (zB (sIf (fT (f2 (f2 zG Yz zA) wK (zY .Eq))) (yE (zL (xq (zN (aC (f2 zG Yz zP) (aC (fC (.int 60)) aN)) zT)) [none,some 1] yh yf (f2 zq zr zA))) sNx)
  (yE (zL (xq (fSl zq (oS wK) (oS (fC (.int 63))) slP)) [none,some 1] yh yf (f2 (f2 (zN (aC zq (aC yp aN)) zT) yF ixP) zr zA))))))
def WL:Fn:=fnR 3 2 ziF
abbrev X6:List Str:=["_law_algebra_here","_law_value"]
theorem zff:FnScope X6 ["_law_algebra_here","_law_value"] (zm Zh):=fsc
theorem Wg:(["_law_name","_law_values","_law_value"]:List Str).Nodup:=by decide +kernel
def zaw:SF:=
 (yE (zL (xq (f2 zq zcK ixP)) [none,none,some 1] (gT 2 (gsC yh (gsC (gN 1) gsN))) yf (yL (dC zq (dC (f2 zG zr (zY .In)) dN)))))
def wX:Fn:=fnR 2 2 zaw
abbrev zaT:List Str:=["_law_algebra_here","_law_least","_law_numbers","_law_row_here","_law_other","_law_value","_law_there"]
theorem Vg:FnScope zaT ["_law_algebra_here","_law_least","_law_numbers","_law_row_here","_law_other"] (zm YF):=fsc
theorem zgg:(["_law_value","_law_numbers"]:List Str).Nodup:=by decide +kernel
def zfb:SF:=
 (zB (sIf (fT (f2 yD (zL (xq zV) [none,some 2] yh yf (f2 zr zq ixP)) (zY .NotEq))) (yE (fC (.bl false))) sNx)
  (zB (zO true 5 (zN (aC zq Xg) XQ))
  (zB (zO true 6 (zN (aC zr (aC yD aN)) XQ))
  (yE (zsa (f2 vX (f2 zG wR ixP) (zY .Eq)) (f2 (zN (aC zq zrk) wX) (zN (aC zr (aC vX aN)) wX) (zY .Eq)))))))
def vA:Fn:=fnR 7 5 zfb
abbrev zoc:List Str:=["_law_script","_law_algebra_here","_law_kept_here","_law_row_here","_law_least","_law_numbers","_law_other","_law_cell","_law_x","_law_name","_law_i","_law_j"]
theorem Ye:FnScope zoc ["_law_script"] (zm zle):=fsc
theorem zpk:(["_law_value","_law_numbers"]:List Str).Nodup:=by decide +kernel
def zse:SF:=
 (zB (zO true 1 (zN (aC (zN Zd Zi) (aC (zN (aC zq (aC wK aN)) zQ) aN)) ZS))
  (zB (zO true 2 (zN (aC (zN Zd Zi) (aC (zN (aC zq (aC wK aN)) zQ) aN)) ZS))
  (zB (zO true 3 (zN (aC zq (aC (f2 zr yF ixP) aN)) WL))
  (zB (zbk (zN wN wJ) (gT 2 (gsC V8 (gsC (gN 5) gsN))))
  (zB (zO true 6 (zL (xq zV) [none,some 5] yh yf (f2 zr zq ixP)))
  (zB (sIf (zgy (fT (zN (aC zr (aC yD (aC wR (aC zV (aC vX aN))))) vA))) (yE (fC (.bl false))) sNx)
  (zB (vd (zeq (fSl zq (oS wK) (oS (fC (.int 24))) slP)) (gN 7) (zB (sIf (fT (f2 (f2 zr wK ixP) (xU dN) (zY .Eq))) (yE (f2 zr zG (zY .Eq))) sNx)
  (zB (zO true 8 (f2 v4 (f2 (fC (.int 10)) (fC (.int 40)) (W3 .Pow)) zA))
  (zB (zO true 9 (f2 (f2 (f2 zr wK ixP) (f2 (fV 8) (fP (aC (f2 zr wK ixP) aN) Zr) zA) ixP) yF ixP))
  (zB (zO true 10 (f2 (f2 (fV 8) Yz zP) (f2 (fP Xg Zr) yp zE) zA))
  (zB (zO true 11 (f2 (fV 10) (f2 (f2 (fV 8) (fC (.int 512)) zP) (f2 (f2 (fP Xg Zr) yp zE) (fV 10) YT) zA) zE))
  (zB (zO true 3 (f2 (f2 (fSl zV oN (oS (fV 10)) slP) (zN (aC zr (aC (fV 9) (aC (fSl zV (oS (fV 10)) (oS xY) slP) aN))) Zt) zE) (fSl zV (oS xY) oN slP) zE))
  (zB (zO true 6 (f2 (f2 (fSl vX oN (oS (fV 10)) slP) (zN (aC yD (aC (fV 9) (aC (fSl vX (oS (fV 10)) (oS xY) slP) aN))) Zt) zE) (fSl vX (oS xY) oN slP) zE))
  (sIf (zgy (fT (zN (aC zr (aC yD (aC wR (aC zV (aC vX aN))))) vA))) (yE (fC (.bl false))) sNx)))))))))
  (yE (f2 zr zG (zY .Eq))))))))))
def zgA:Fn:=fnR 12 1 zse
set_option genInjectivity false in
set_option genSizeOf false in
structure Adr where
 Y4:Addr
 YQ:FuncData
 YK:Addr
 YW:FuncData
 Wq:Addr
 Wm:FuncData
 Vy:Addr
 Vq:FuncData
 Vu:Addr
 Vz:FuncData
 X3:Addr
 Xz:FuncData
 zgt:Addr
 zhk:FuncData
 zdF:Addr
 zdI:FuncData
 zaQ:Addr
 zaj:FuncData
 zcc:Addr
 zcn:FuncData
 zbZ:Addr
 zcl:FuncData
 YZ:Addr
 YS:FuncData
 YX:Addr
 Y9:FuncData
 Wk:Addr
 Wr:FuncData
 zeO:Addr
 zeL:FuncData
 Vm:Addr
 Vo:FuncData
 zah:Addr
 zaF:FuncData
 Wn:Addr
 Wo:FuncData
 zbK:Addr
 zcF:FuncData
 Vr:Addr
 Vn:FuncData
 zcq:Addr
 zbN:FuncData
 zal:Addr
 zaS:FuncData
 zcH:Addr
 zcG:FuncData
 zaA:Addr
 zaM:FuncData
 Vh:Addr
 Ve:FuncData
 zbQ:Addr
 zbW:FuncData
 zag:Addr
 zaB:FuncData
 zac:Addr
 zaz:FuncData
 Ws:Addr
 Wx:FuncData
 zcv:Addr
 zbV:FuncData
 Vx:Addr
 Vl:FuncData
 Y8:Addr
 Y5:FuncData
 zdX:Addr
 zdD:FuncData
 Wl:Addr
 Wv:FuncData
 zaN:Addr
 V9:FuncData
 zaO:Addr
 zak:FuncData
 zcr:Addr
 zbL:FuncData
 zdH:Addr
 zed:FuncData
 zeg:Addr
 zdR:FuncData
 XX:Addr
 Xv:FuncData
 zab:Addr
 zar:FuncData
 zoX:Addr
 zoO:FuncData
structure Txt(K:zC)(kd:KD)(mg:Str->Option Value)(t:Adr):Prop where
 V5:Fun K "nothing_fails" "nothing_fails" ZP t.Y4 t.YQ
 zfr:Binds K t.YQ ["algebra"] []
 v6:mg "nothing_fails"=some (.ref t.Y4)
 V2:Fun K "parting_fails" "parting_fails" ZL t.YK t.YW
 zfl:Binds K t.YW ["algebra"] []
 vZ:mg "parting_fails"=some (.ref t.YK)
 zbH:Fun K "doing_fails" "doing_fails" Yr t.Wq t.Wm
 zhE:Binds K t.Wm ["algebra","name","rows"] []
 v7:mg "doing_fails"=some (.ref t.Wq)
 zcP:Fun K "deeds_fail" "deeds_fail" Xh t.Vy t.Vq
 ziS:Binds K t.Vq ["algebra"] []
 Z9:mg "deeds_fail"=some (.ref t.Vy)
 zcY:Fun K "what_fails" "what_fails" Xd t.Vu t.Vz
 zjC:Binds K t.Vz ["algebra"] []
 Yc:mg "what_fails"=some (.ref t.Vu)
 zai:Fun K "check_let_by" "check_let_by" Yg t.X3 t.Xz
 zgN:Binds K t.Xz ["algebra"] []
 wI:mg "check_let_by"=some (.ref t.X3)
 zhw:Fun K "joined" "joined" zda t.zgt t.zhk
 zkk:Binds K t.zhk ["algebra","row"] []
 XQ:mg "joined"=some (.ref t.zgt)
 zdQ:Fun K "done_to" "done_to" Wz t.zdF t.zdI
 ziu:Binds K t.zdI ["algebra","name","row"] []
 Zt:mg "done_to"=some (.ref t.zdF)
 zeK:Fun K "all_steps" "all_steps" Ze t.zaQ t.zaj
 zlf:Binds K t.zaj ["algebra"] []
 Z1:mg "all_steps"=some (.ref t.zaQ)
 Vk:Fun K "numbered" "numbered" X4 t.zcc t.zcn
 zch:Binds K t.zcn ["keys"] []
 vI:mg "numbered"=some (.ref t.zcc)
 zgT:Fun K "signs_of" "signs_of" XR t.zbZ t.zcl
 zlY:Binds K t.zcl ["algebra","value"] []
 Ym:mg "signs_of"=some (.ref t.zbZ)
 V6:Fun K "class_numbers" "class_numbers" xX t.YZ t.YS
 zfe:Binds K t.YS ["algebra"] []
 vq:mg "class_numbers"=some (.ref t.YZ)
 V3:Fun K "least_algebra" "least_algebra" xW t.YX t.Y9
 zfq:Binds K t.Y9 ["algebra"] []
 wJ:mg "least_algebra"=some (.ref t.YX)
 xO:Fun K "_law_cell_at" "_law_cell_at" Yp t.Wk t.Wr
 ww:Binds K t.Wr ["_law_script","_law_k"] []
 zQ:mg "_law_cell_at"=some (.ref t.Wk)
 zsw:Fun K "_law_whole" "_law_whole" zaC t.zeO t.zeL
 zsz:Binds K t.zeL ["_law_found"] []
 zsj:mg "_law_whole"=some (.ref t.zeO)
 xR:Fun K "_law_stream" "_law_stream" Xm t.Vm t.Vo
 wC:Binds K t.Vo ["_law_cell","_law_many"] []
 zT:mg "_law_stream"=some (.ref t.Vm)
 zeN:Fun K "_law_names" "_law_names" YC t.zah t.zaF
 zkc:Binds K t.zaF ["_law_cell","_law_many"] []
 YH:mg "_law_names"=some (.ref t.zah)
 zbF:Fun K "_law_divisor" "_law_divisor" Yt t.Wn t.Wo
 zhJ:Binds K t.Wo ["_law_one","_law_other"] []
 Zy:mg "_law_divisor"=some (.ref t.Wn)
 zhp:Fun K "_law_sums" "_law_sums" XS t.zbK t.zcF
 zly:Binds K t.zcF ["_law_n","_law_m","_law_xs"] []
 Xp:mg "_law_sums"=some (.ref t.zbK)
 zds:Fun K "_law_rising" "_law_rising" Zo t.Vr t.Vn
 zjy:Binds K t.Vn ["_law_n","_law_m","_law_xs"] []
 Z3:mg "_law_rising"=some (.ref t.Vr)
 zhh:Fun K "_law_kept" "_law_kept" Yi t.zcq t.zbN
 zlF:Binds K t.zbN ["_law_n","_law_m","_law_xs"] []
 XD:mg "_law_kept"=some (.ref t.zcq)
 zeQ:Fun K "_law_joins" "_law_joins" vz t.zal t.zaS
 zld:Binds K t.zaS ["_law_kind","_law_n"] []
 ZV:mg "_law_joins"=some (.ref t.zal)
 zfX:Fun K "_law_rows" "_law_rows" XM t.zcH t.zcG
 zmk:Binds K t.zcG ["_law_kind","_law_n","_law_m","_law_xs"] []
 Yj:mg "_law_rows"=some (.ref t.zcH)
 We:Fun K "_law_plain" "_law_plain" Yy t.zaA t.zaM
 zaK:Binds K t.zaM ["_law_kind","_law_n","_law_m","_law_many","_law_cell"] []
 wM:mg "_law_plain"=some (.ref t.zaA)
 zcM:Fun K "_law_beside" "_law_beside" Z5 t.Vh t.Ve
 zjl:Binds K t.Ve ["_law_one","_law_other","_law_m"] []
 Yd:mg "_law_beside"=some (.ref t.Vh)
 zhe:Fun K "_law_made" "_law_made" WX t.zbQ t.zbW
 zmn:Binds K t.zbW ["_law_cell","_law_m","_law_many"] []
 XF:mg "_law_made"=some (.ref t.zbQ)
 zeB:Fun K "_law_order" "_law_order" Wi t.zag t.zaB
 zkM:Binds K t.zaB ["_law_cell","_law_n"] []
 YG:mg "_law_order"=some (.ref t.zag)
 zeU:Fun K "_law_signs" "_law_signs" Yx t.zac t.zaz
 zkO:Binds K t.zaz ["_law_cell","_law_n","_law_names_here"] []
 Z0:mg "_law_signs"=some (.ref t.zac)
 Wt:Fun K "_law_algebra" "_law_algebra" vL t.Ws t.Wx
 zbB:Binds K t.Wx ["_law_cell","_law_other"] []
 wA:mg "_law_algebra"=some (.ref t.Ws)
 zgz:Fun K "_law_bent" "_law_bent" Yn t.zcv t.zbV
 zlN:Binds K t.zbV ["_law_algebra_here","_law_cell"] []
 Xu:mg "_law_bent"=some (.ref t.zcv)
 Vi:Fun K "_law_digits" "_law_digits" Xk t.Vx t.Vl
 zdr:Binds K t.Vl ["_law_cell","_law_base","_law_many"] []
 vC:mg "_law_digits"=some (.ref t.Vx)
 VM:Fun K "_law_by_digits" "_law_by_digits" vp t.Y8 t.Y5
 zfk:Binds K t.Y5 ["_law_algebra_here","_law_cell"] []
 v5:mg "_law_by_digits"=some (.ref t.Y8)
 zhU:Fun K "_law_any" "_law_any" zaX t.zdX t.zdD
 znI:Binds K t.zdD ["_law_script"] []
 WQ:mg "_law_any"=some (.ref t.zdX)
 zbG:Fun K "_law_parting" "_law_parting" Yo t.Wl t.Wv
 zhB:Binds K t.Wv ["_law_n","_law_join","_law_nothing"] []
 ZK:mg "_law_parting"=some (.ref t.Wl)
 zeH:Fun K "_law_doing" "_law_doing" Wc t.zaN t.V9
 zkK:Binds K t.V9 ["_law_n","_law_m","_law_join","_law_name","_law_rows_here"] []
 ZX:mg "_law_doing"=some (.ref t.zaN)
 zes:Fun K "_law_fails" "_law_fails" X7 t.zaO t.zak
 zlh:Binds K t.zak ["_law_algebra_here"] []
 ZZ:mg "_law_fails"=some (.ref t.zaO)
 zcE:Fun K "_law_good" "_law_good" WY t.zcr t.zbL
 zfO:Binds K t.zbL ["_law_script"] []
 Zi:mg "_law_good"=some (.ref t.zcr)
 zdY:Fun K "_law_few" "_law_few" WK t.zdH t.zed
 ziH:Binds K t.zed ["_law_algebra_here","_law_cell"] []
 ZS:mg "_law_few"=some (.ref t.zdH)
 zhX:Fun K "_law_row" "_law_row" Xn t.zeg t.zdR
 znL:Binds K t.zdR ["_law_script","_law_n"] []
 WL:mg "_law_row"=some (.ref t.zeg)
 Xy:Fun K "_law_signs_of" "_law_signs_of" Zh t.XX t.Xv
 zav:Binds K t.Xv ["_law_algebra_here","_law_value"] []
 wX:mg "_law_signs_of"=some (.ref t.XX)
 zax:Fun K "_law_along" "_law_along" YF t.zab t.zar
 zfa:Binds K t.zar ["_law_algebra_here","_law_least","_law_numbers","_law_row_here","_law_other"] []
 vA:mg "_law_along"=some (.ref t.zab)
 zvg:Fun K "law" "law" zle t.zoX t.zoO
 zwV:Binds K t.zoO ["_law_script"] []
 zgA:mg "law"=some (.ref t.zoX)
 zws:mg "bool"=none
 ztY:mg "dict"=none
 zkW:mg "divmod"=none
 zkT:mg "enumerate"=none
 zsg:mg "int"=none
 zrt:mg "isinstance"=none
 Wd:mg "len"=none
 zbY:mg "list"=none
 zuX:mg "max"=none
 zZ:mg "range"=none
 zuC:mg "set"=none
 zoq:mg "sorted"=none
 zjK:mg "tuple"=none
 zqr:mg "zip"=none
set_option maxHeartbeats 8000000
section
variable{P:Program}{w:World}{K:zC}{mg:Str->Option Value}{base:Heap}{kd:KD}{t:Adr}
theorem zft(T:Txt K kd mg t)(hkd:KD1 P w K kd):FnOk P w K mg base CX0 1 t.Y4 t.YQ ["algebra"] (spD K kd v6):=by
 refine xG (N:=VL) (k:=0) (c:=VJ) T.V5 Zn λcdv A outer s H E hr=>?_
 exact(by
  refine sj 1 Zn.nd ?_ ?_;exact(ax hkd (av 0) aI)
  refine sj 2 Zn.nd ?_ ?_;exact(ax hkd (av 0) aI)
  refine zu ?_ ?_;exact(xm PassesOwn.never rfl (yS rfl T.zZ (bc (ax hkd (av 0) aI) zf) rfl) (an 3 Zn.nd) (zj (xQ (AW.at_ (zmD (tc hkd hr (ax hkd (ax hkd (av 1) (av 2)) (av 3)) (av 3)) (zba (tc hkd hr (ax hkd (ax hkd (av 1) (av 3)) (av 2)) (av 3))))) (zj (zX (yO (bd aS (bd (av 3) zM))))) yx)) (λ_=>rfl))
  exact zj (zX aZ))
theorem zfj(T:Txt K kd mg t)(hkd:KD1 P w K kd):FnOk P w K mg base CX0 1 t.YK t.YW ["algebra"] (spD K kd vZ):=by
 refine xG (N:=VV) (k:=0) (c:=V4) T.V2 wO λcdv A outer s H E hr=>?_
 exact(by
  refine sj 1 wO.nd ?_ ?_;exact(ax hkd (av 0) aI)
  refine sj 2 wO.nd ?_ ?_;exact(ax hkd (av 0) aI)
  refine zu ?_ ?_;exact(xm PassesOwn.never rfl (yS rfl T.zZ (bc (av 1) zf) rfl) (an 3 wO.nd) (zj (xm PassesOwn.never rfl (yS rfl T.zZ (bc (av 1) zf) rfl) (an 4 wO.nd) (zj (xm PassesOwn.never rfl (yS rfl T.zZ (bc (av 1) zf) rfl) (an 5 wO.nd) (zj (xQ (tc hkd hr (ax hkd (ax hkd (av 2) (ax hkd (ax hkd (av 2) (av 3)) (av 4))) (av 5)) (ax hkd (ax hkd (av 2) (av 3)) (ax hkd (ax hkd (av 2) (av 4)) (av 5)))) (zj (zX (yO (bd aS (bd (av 3) (bd (av 4) (bd (av 5) zM))))))) yx)) (λ_=>rfl))) (λ_=>rfl))) (λ_=>rfl))
  exact zj (zX aZ))
theorem zhF(T:Txt K kd mg t)(hkd:KD1 P w K kd):FnOk P w K mg base CX0 1 t.Wq t.Wm ["algebra","name","rows"] (spD K kd v7):=by
 refine xG (N:=zbt) (k:=0) (c:=zbu) T.zbH wG λcdv A outer s H E hr=>?_
 exact(by
  refine sj 3 wG.nd ?_ ?_;exact(ax hkd (av 0) aI)
  refine sj 4 wG.nd ?_ ?_;exact(ax hkd (av 0) aI)
  refine sj 5 wG.nd ?_ ?_;exact(ax hkd (av 0) aI)
  refine zu ?_ ?_;exact(xm PassesOwn.never rfl (yS rfl T.zZ (bc (av 3) zf) rfl) (an 6 wG.nd) (zj (xm PassesOwn.never rfl (yS rfl T.zZ (bc (av 4) zf) rfl) (an 7 wG.nd) (zj (xm PassesOwn.never rfl (yS rfl T.zZ (bc (av 3) zf) rfl) (an 8 wG.nd) (zj (xm PassesOwn.never rfl (yS rfl T.zZ (bc (av 4) zf) rfl) (an 9 wG.nd) (zj (xQ (tc hkd hr (ax hkd (ax hkd (av 2) (bn (bn (av 7) (av 9)) (av 4))) (ax hkd (ax hkd (av 5) (av 6)) (av 8))) (ax hkd (ax hkd (av 5) (ax hkd (ax hkd (av 2) (av 7)) (av 6))) (ax hkd (ax hkd (av 2) (av 9)) (av 8)))) (zj (zX (yO (bd aS (bd (av 1) (bd (av 6) (bd (av 7) (bd (av 8) (bd (av 9) zM))))))))) yx)) (λ_=>rfl))) (λ_=>rfl))) (λ_=>rfl))) (λ_=>rfl))
  exact zj (zX aZ))
theorem zjU(T:Txt K kd mg t)(hkd:KD1 P w K kd):FnOk P w K mg base CX0 2 t.Vy t.Vq ["algebra"] (spD K kd Z9):=by
 refine xG (N:=zcS) (k:=1) (c:=zcX) T.zcP ZD λcdv A outer s H E hr=>?_
 exact(by
  refine sj 1 ZD.nd ?_ ?_;exact(ax hkd (av 0) aI)
  refine zu ?_ ?_;exact(xm PassesOwn.never rfl (zbU (ax hkd (av 0) aI)) (vJ rfl (zK (an 2 ZD.nd) (zK (an 3 ZD.nd) wz rfl) rfl) rfl rfl) (by
  refine zu ?_ ?_;exact(xQ (tc hkd hr (ax hkd (ax hkd (av 3) aI) (av 1)) (av 1)) (zj (zX (yO (bd aS (bd (av 2) zM))))) yx)
  refine sj 4 ZD.nd ?_ ?_;exact(ck (zhF T hkd) hr T.v7 T.zbH.kp T.zhE (bc (av 0) (bc (av 2) (bc (av 3) zf))))
  exact zj (xQ (tc hkd hr (av 4) aZ) (zj (zX (av 4))) yx)) (λ_=>rfl))
  exact zj (zX aZ))
theorem zjz(T:Txt K kd mg t)(hkd:KD1 P w K kd):FnOk P w K mg base CX0 3 t.Vu t.Vz ["algebra"] (spD K kd Yc):=by
 refine xG (N:=zdb) (k:=2) (c:=zcO) T.zcY Yq λcdv A outer s H E hr=>?_
 exact(by
  refine sj 1 Yq.nd ?_ ?_;exact(ck (zft T hkd) hr T.v6 T.V5.kp T.zfr (bc (av 0) zf))
  refine zu ?_ ?_;exact(xQ (tc hkd hr (av 1) aZ) (zj (by refine sv true 1 Yq.nd ?_;exact(ck (zfj T hkd) hr T.vZ T.V2.kp T.zfl (bc (av 0) zf)))) yx)
  refine zu ?_ ?_;exact(xQ (tc hkd hr (av 1) aZ) (zj (by refine sv true 1 Yq.nd ?_;exact(ck (zjU T hkd) hr T.Z9 T.zcP.kp T.ziS (bc (av 0) zf)))) yx)
  exact zj (zX (av 1)))
theorem zgk(T:Txt K kd mg t)(hkd:KD1 P w K kd):FnOk P w K mg base CX0 4 t.X3 t.Xz ["algebra"] (spD K kd wI):=by
 refine xG (N:=zaG) (k:=3) (c:=X5) T.zai VR λcdv A outer s H E hr=>?_
 exact(by
  refine sj 1 VR.nd ?_ ?_;exact(ck (zjz T hkd) hr T.Yc T.zcY.kp T.zjC (bc (av 0) zf))
  exact zj (xQ (tc hkd hr (av 1) aZ) (zj zuL) yx))
theorem zkC(T:Txt K kd mg t)(hkd:KD1 P w K kd):FnOk P w K mg base CX0 1 t.zgt t.zhk ["algebra","row"] (spD K kd XQ):=by
 refine xG (N:=zku) (k:=0) (c:=zkg) T.zhw zbd λcdv A outer s H E hr=>?_
 exact(by
  refine zu ?_ ?_;exact(xQ (tc hkd hr (bi (vo (hkd _ rfl rfl rfl)) T.Wd Bt.len (bc (av 1) zf)) aI) (zj (zX (ax hkd (av 0) aI))) yx)
  refine sj 2 zbd.nd ?_ ?_;exact(ax hkd (av 1) aI)
  refine zu ?_ ?_;exact(xm PassesOwn.never rfl (zbU (wW (av 1) (xM aI) Ys)) (an 3 zbd.nd) (zj (by refine sv true 2 zbd.nd ?_;exact(ax hkd (ax hkd (ax hkd (av 0) aI) (av 2)) (av 3)))) (λ_=>rfl))
  exact zj (zX (av 2)))
theorem zhR(T:Txt K kd mg t)(hkd:KD1 P w K kd):FnOk P w K mg base CX0 1 t.zdF t.zdI ["algebra","name","row"] (spD K kd Zt):=by
 refine xG (N:=zdx) (k:=0) (c:=zhZ) T.zdQ zcf λcdv A outer s H E hr=>?_
 exact(by
  refine sj 3 zcf.nd ?_ ?_;exact(ax hkd (by_ (zlK rfl (hkd _ rfl rfl rfl)) T.ztY Bt.dict (bc (ax hkd (av 0) aI) zf)) (av 1))
  refine sj 4 zcf.nd ?_ ?_;exact(ax hkd (av 3) (bn aI (ax hkd (av 0) aI)))
  exact zj (zX (yd (N:=["value","made"]) (cap:=[none,some 4]) (S:=[0]) rfl (xF (av 2)) rfl (by change xf _ zdx _ (zm Wz).names _=true;decide +kernel) (by decide) (λcl s H fp=>(an 0 zjv)) (λcl s H fp=>zW) (λcl s H fp=>(ax hkd (av 1) (av 0))) (λ_=>rfl))))
theorem zlj(T:Txt K kd mg t)(hkd:KD1 P w K kd):FnOk P w K mg base CX0 1 t.zaQ t.zaj ["algebra"] (spD K kd Z1):=by
 refine xG (N:=YB) (k:=0) (c:=zeA) T.zeK Zu λcdv A outer s H E hr=>?_
 exact(by
  refine sj 1 Zu.nd ?_ ?_;exact(ax hkd (av 0) aI)
  refine sj 2 Zu.nd ?_ ?_;exact(zec rfl rfl T.zZ rfl T.zbY (bc (ax hkd (av 0) aI) zf) rfl rfl)
  refine sj 3 Zu.nd ?_ ?_;exact(bn (yd (N:=["x","join"]) (cap:=[none,some 1]) (S:=[0]) rfl (xF (av 2)) rfl (by change xf _ YB _ (zm Ze).names _=true;decide +kernel) (by decide) (λcl s H fp=>(an 0 zhy)) (λcl s H fp=>zW) (λcl s H fp=>(yO (bd (yO (bd aS (bd (av 0) zM))) (bd (ax hkd (av 1) (av 0)) zM)))) (λ_=>rfl)) (yd (N:=["x","join"]) (cap:=[none,some 1]) (S:=[0]) rfl (xF (av 2)) rfl (by change xf _ YB _ (zm Ze).names _=true;decide +kernel) (by decide) (λcl s H fp=>(an 0 zgi)) (λcl s H fp=>zW) (λcl s H fp=>(yO (bd (yO (bd aS (bd (av 0) zM))) (bd (yd (N:=["row","x"]) (cap:=[none,some 0]) (S:=[0]) rfl (xF (av 1)) rfl (by with_unfolding_all rfl) (by decide) (λcl s H fp=>(an 0 zgx)) (λcl s H fp=>zW) (λcl s H fp=>(ax hkd (av 0) (av 1))) (λ_=>rfl)) zM)))) (λ_=>rfl)))
  refine zu ?_ ?_;exact(xm PassesOwn.never rfl (zbU (ax hkd (av 0) aI)) (vJ rfl (zK (an 4 Zu.nd) (zK (an 5 Zu.nd) wz rfl) rfl) rfl rfl) (zj (Zb (Yb znv zsV PySem.F.slot_list_extend PySem.F.type_list_extend (pv 3) (bd (yd (N:=["c","row","name"]) (cap:=[none,none,some 4]) (S:=[0,1]) rfl (zrf rfl T.zkT (av 5) rfl) rfl (by change xf _ YB _ (zm Ze).names _=true;decide +kernel) (by decide) (λcl s H fp=>(vJ rfl (zK (an 0 zay) (zK (an 1 zay) wz rfl) rfl) rfl rfl)) (λcl s H fp=>zW) (λcl s H fp=>(yO (bd (yO (bd aS (bd (av 2) (bd (av 0) zM)))) (bd (av 1) zM)))) (λ_=>rfl)) zM) rfl rfl rfl rfl rfl) rfl)) (λ_=>rfl))
  exact zj (zX (av 3)))
theorem zcb(T:Txt K kd mg t)(hkd:KD1 P w K kd):FnOk P w K mg base CX0 1 t.zcc t.zcn ["keys"] (spD K kd vI):=by
 refine xG (N:=zbT) (k:=0) (c:=zgs) T.Vk zaJ λcdv A outer s H E hr=>?_
 exact(by
  refine sj 1 zaJ.nd ?_ ?_;exact ztk
  refine zu ?_ ?_;exact(xm PassesOwn.never rfl (zbU (av 0)) (an 2 zaJ.nd) (zj (zsN (zst hr) (pv 1) (bd (av 2) (bd (bi (vo (hkd _ rfl rfl rfl)) T.Wd Bt.len (bc (av 1) zf)) zM)) rfl rfl rfl rfl rfl rfl)) (λ_=>rfl))
  exact zj (zX (yd (N:=["key","numbers"]) (cap:=[none,some 1]) (S:=[0]) rfl (xF (av 0)) rfl (by change xf _ zbT _ (zm X4).names _=true;decide +kernel) (by decide) (λcl s H fp=>(an 0 zhK)) (λcl s H fp=>zW) (λcl s H fp=>(zsB (zuH (zst hr)) (av 1) (av 0) (λ_ _=>rfl))) (λ_=>rfl))))
theorem zlw(T:Txt K kd mg t)(hkd:KD1 P w K kd):FnOk P w K mg base CX0 1 t.zbZ t.zcl ["algebra","value"] (spD K kd Ym):=by
 refine xG (N:=zbM) (k:=0) (c:=zgf) T.zgT zkf λcdv A outer s H E hr=>?_
 exact(zj (zX (by_ zdW T.zjK Bt.tuple (bc (yd (N:=["name","values","value"]) (cap:=[none,none,some 1]) (S:=[0,1]) rfl (xF (ax hkd (av 0) aI)) rfl (by change xf _ zbM _ (zm XR).names _=true;decide +kernel) (by decide) (λcl s H fp=>(vJ rfl (zK (an 0 zbn) (zK (an 1 zbn) wz rfl) rfl) rfl rfl)) (λcl s H fp=>zW) (λcl s H fp=>(zlV (zhj (hkd _ rfl rfl rfl) (zet hr) .In) (av 2) (av 1) rfl)) (λ_=>rfl)) zf))))
theorem zfo(T:Txt K kd mg t)(hkd:KD1 P w K kd):FnOk P w K mg base CX0 2 t.YZ t.YS ["algebra"] (spD K kd vq):=by
 refine xG (N:=vm) (k:=1) (c:=V1) T.V6 wg λcdv A outer s H E hr=>?_
 exact(by
  refine sj 1 wg.nd ?_ ?_;exact(zec rfl rfl T.zZ rfl T.zbY (bc (ax hkd (av 0) aI) zf) rfl rfl)
  refine sj 2 wg.nd ?_ ?_;exact(bn (xN (bd (av 1) zM)) (yd (N:=["step","row"]) (cap:=[none,none]) (S:=[0,1]) rfl (xF (ck (zlj T hkd) hr T.Z1 T.zeK.kp T.zlf (bc (av 0) zf))) rfl (by change xf _ vm _ (zm xX).names _=true;decide +kernel) (by decide) (λcl s H fp=>(vJ rfl (zK (an 0 Xr) (zK (an 1 Xr) wz rfl) rfl) rfl rfl)) (λcl s H fp=>zW) (λcl s H fp=>(av 1)) (λ_=>rfl)))
  refine sj 3 wg.nd ?_ ?_;exact(ck (zcb T hkd) hr T.vI T.Vk.kp T.zch (bc (yd (N:=["a","algebra"]) (cap:=[none,some 0]) (S:=[0]) rfl (xF (av 1)) rfl (by change xf _ vm _ (zm xX).names _=true;decide +kernel) (by decide) (λcl s H fp=>(an 0 zcA)) (λcl s H fp=>zW) (λcl s H fp=>(ck (zlw T hkd) hr T.Ym T.zgT.kp T.zlY (bc (av 1) (bc (av 0) zf)))) (λ_=>rfl)) zf))
  refine sj 4 wg.nd ?_ ?_;exact(ck (zcb T hkd) hr T.vI T.Vk.kp T.zch (bc (yd (N:=["a","numbers","rows"]) (cap:=[none,some 3,some 2]) (S:=[0]) rfl (xF (av 1)) rfl (by change xf _ vm _ (zm xX).names _=true;decide +kernel) (by decide) (λcl s H fp=>(an 0 zbX)) (λcl s H fp=>zW) (λcl s H fp=>(by_ zdW T.zjK Bt.tuple (bc (yd (N:=["row","numbers","a"]) (cap:=[none,some 1,some 0]) (S:=[0]) rfl (xF (av 2)) rfl (by with_unfolding_all rfl) (by decide) (λcl s H fp=>(an 0 zcp)) (λcl s H fp=>zW) (λcl s H fp=>(ax hkd (av 1) (ax hkd (av 0) (av 2)))) (λ_=>rfl)) zf))) (λ_=>rfl)) zf))
  refine zu ?_ ?_;exact(zli (n:=10000) PassesOwn.never (tc hkd hr (av 4) (av 3)) (by
  refine sj 3 wg.nd ?_ ?_;exact(av 4)
  exact zj (by refine sv true 4 wg.nd ?_;exact(ck (zcb T hkd) hr T.vI T.Vk.kp T.zch (bc (yd (N:=["a","numbers","rows"]) (cap:=[none,some 3,some 2]) (S:=[0]) rfl (xF (av 1)) rfl (by change xf _ vm _ (zm xX).names _=true;decide +kernel) (by decide) (λcl s H fp=>(an 0 zbO)) (λcl s H fp=>zW) (λcl s H fp=>(by_ zdW T.zjK Bt.tuple (bc (yd (N:=["row","numbers","a"]) (cap:=[none,some 1,some 0]) (S:=[0]) rfl (xF (av 2)) rfl (by with_unfolding_all rfl) (by decide) (λcl s H fp=>(an 0 zcx)) (λcl s H fp=>zW) (λcl s H fp=>(ax hkd (av 1) (ax hkd (av 0) (av 2)))) (λ_=>rfl)) zf))) (λ_=>rfl)) zf)))))
  exact zj (zX (av 3)))
theorem zfp(T:Txt K kd mg t)(hkd:KD1 P w K kd):FnOk P w K mg base CX0 5 t.YX t.Y9 ["algebra"] (spD K kd wJ):=by
 refine xG (N:=vh) (k:=4) (c:=VN) T.V3 wQ λcdv A outer s H E hr=>?_
 exact(by
  refine zu ?_ ?_;exact(Zb (ck (zgk T hkd) hr T.wI T.zai.kp T.zgN (bc (av 0) zf)) rfl)
  refine sj 1 wQ.nd ?_ ?_;exact(ck (zfo T hkd) hr T.vq T.V6.kp T.zfe (bc (av 0) zf))
  refine sj 2 wQ.nd ?_ ?_;exact(yd (N:=["k","numbers"]) (cap:=[none,some 1]) (S:=[0]) rfl (yG rfl T.zZ (bc (znZ rfl rfl T.zuC rfl T.Wd (bc (av 1) zf) rfl rfl) zf) rfl) rfl (by change xf _ vh _ (zm xW).names _=true;decide +kernel) (by decide) (λcl s H fp=>(an 0 zcB)) (λcl s H fp=>zW) (λcl s H fp=>(zfA (ty:=.lst) (hkd _ rfl rfl rfl) (zfL (hkd _ rfl rfl rfl) (zet hr)) PySem.F.plainAttrs_list PySem.F.slot_list_index PySem.F.type_list_index (av 1) (bc (av 0) zf) rfl rfl rfl rfl rfl)) (λ_=>rfl))
  refine zu ?_ ?_;exact(Yu (z:=true) (i:=3) (N:=["a","numbers","chosen","algebra"]) (cap:=[none,some 1,some 2,some 0]) (S:=[0]) wQ.nd rfl (by exact Or.inl rfl) (by exact Or.inr rfl) rfl rfl (xF (av 2)) rfl (by change xf _ vh _ (zm xW).names _=true;decide +kernel) (by decide) (λcl s H fp=>(an 0 zcj)) (λcl s H fp=>zW) (λcl s H fp=>(yd (N:=["b","numbers","a","algebra"]) (cap:=[none,some 1,some 0,some 3]) (S:=[0]) rfl (xF (av 2)) rfl (by with_unfolding_all rfl) (by decide) (λcl s H fp=>(an 0 zco)) (λcl s H fp=>zW) (λcl s H fp=>(ax hkd (av 1) (ax hkd (ax hkd (ax hkd (av 3) aI) (av 2)) (av 0)))) (λ_=>rfl))) (λ_=>rfl))
  refine zu ?_ ?_;exact(Yu (z:=true) (i:=4) (N:=["name","rows","numbers","chosen"]) (cap:=[none,none,some 1,some 2]) (S:=[0,1]) wQ.nd rfl (by exact Or.inl rfl) (by exact Or.inr rfl) rfl rfl (xF (ax hkd (av 0) aI)) rfl (by change xf _ vh _ (zm xW).names _=true;decide +kernel) (by decide) (λcl s H fp=>(vJ rfl (zK (an 0 Xx) (zK (an 1 Xx) wz rfl) rfl) rfl rfl)) (λcl s H fp=>zW) (λcl s H fp=>(yO (bd (av 0) (bd (yd (N:=["row","numbers","chosen"]) (cap:=[none,some 2,some 3]) (S:=[0]) rfl (xF (av 1)) rfl (by with_unfolding_all rfl) (by decide) (λcl s H fp=>(an 0 zcD)) (λcl s H fp=>zW) (λcl s H fp=>(yd (N:=["a","numbers","row"]) (cap:=[none,some 1,some 0]) (S:=[0]) rfl (xF (av 2)) rfl (by with_unfolding_all rfl) (by decide) (λcl s H fp=>(an 0 zbS)) (λcl s H fp=>zW) (λcl s H fp=>(ax hkd (av 1) (ax hkd (av 2) (av 0)))) (λ_=>rfl))) (λ_=>rfl)) zM)))) (λ_=>rfl))
  refine zu ?_ ?_;exact(Yu (z:=true) (i:=5) (N:=["name","values","numbers","chosen"]) (cap:=[none,none,some 1,some 2]) (S:=[0,1]) wQ.nd rfl (by exact Or.inl rfl) (by exact Or.inr rfl) rfl rfl (xF (ax hkd (av 0) aI)) rfl (by change xf _ vh _ (zm xW).names _=true;decide +kernel) (by decide) (λcl s H fp=>(vJ rfl (zK (an 0 XC) (zK (an 1 XC) wz rfl) rfl) rfl rfl)) (λcl s H fp=>zW) (λcl s H fp=>(yO (bd (av 0) (bd (yd (N:=["a","numbers","values"]) (cap:=[none,some 2,some 1]) (S:=[0]) rfl (xF (av 3)) rfl (by with_unfolding_all rfl) (by decide) (λcl s H fp=>(an 0 zce)) (λcl s H fp=>(zjq (zpX (zhj (hkd _ rfl rfl rfl) (zet hr) .In) (zni .In) (av 0) (av 2) rfl))) (λcl s H fp=>(ax hkd (av 1) (av 0))) (λ_=>rfl)) zM)))) (λ_=>rfl))
  exact zj (zX (yO (bd (yO (bd (bi (vo (hkd _ rfl rfl rfl)) T.Wd Bt.len (bc (av 2) zf)) (bd (ax hkd (av 0) aI) (bd (av 3) (bd (ax hkd (av 1) (ax hkd (av 0) aI)) (bd (av 4) (bd (av 5) zM))))))) (bd (av 1) zM)))))
theorem wu(T:Txt K kd mg t)(hkd:KD1 P w K kd):FnOk P w K mg base CX0 1 t.Wk t.Wr ["_law_script","_law_k"] (spD K kd zQ):=by
 refine xG (N:=zbq) (k:=0) (c:=zby) T.xO zfS λcdv A outer s H E hr=>?_
 exact(by
  refine zu ?_ ?_;exact(xQ (tc hkd hr (av 1) (bi (vo (hkd _ rfl rfl rfl)) T.Wd Bt.len (bc (av 0) zf))) (zj (zX (ax hkd (av 0) (av 1)))) yx)
  exact zj (zX aI))
theorem wy(T:Txt K kd mg t)(hkd:KD1 P w K kd):FnOk P w K mg base CX0 1 t.Vm t.Vo ["_law_cell","_law_many"] (spD K kd zT):=by
 refine xG (N:=zdk) (k:=0) (c:=zcV) T.xR ZJ λcdv A outer s H E hr=>?_
 exact(by
  refine sj 2 ZJ.nd ?_ ?_;exact(xN zM)
  refine sj 3 ZJ.nd ?_ ?_;exact(bn (bn (av 0) aI) aI)
  refine zu ?_ ?_;exact(xm PassesOwn.never rfl (yS rfl T.zZ (bc (bn (av 1) aI) zf) rfl) (an 4 ZJ.nd) (by
  refine sj 3 ZJ.nd ?_ ?_;exact(bn (bn (bn (bn (av 3) (av 3)) (bn aI (av 3))) (av 4)) aI)
  exact zj (Zb (Yb vg Y7 PySem.F.slot_list_append PySem.F.type_list_append (pv 2) (bd (bn (bn (bn (av 3) aI) (bn aI (av 4))) aI) zM) rfl rfl rfl rfl rfl) rfl)) (λ_=>rfl))
  exact zj (zX (wW (av 2) (xM aI) Ys)))
theorem zkv(T:Txt K kd mg t)(hkd:KD1 P w K kd):FnOk P w K mg base CX0 2 t.zah t.zaF ["_law_cell","_law_many"] (spD K kd YH):=by
 refine xG (N:=zas) (k:=1) (c:=zeG) T.zeN vV λcdv A outer s H E hr=>?_
 exact(by
  refine sj 2 vV.nd ?_ ?_;exact aS
  refine sj 3 vV.nd ?_ ?_;exact(ck (wy T hkd) hr T.zT T.xR.kp T.wC (bc (av 0) (bc aI zf)))
  refine sj 4 vV.nd ?_ ?_;exact(zfA (ty:=.str) (hkd _ rfl rfl rfl) zrN PySem.F.plainAttrs_str PySem.F.slot_str_join PySem.F.type_str_join aS (bc (yd (N:=["_law_x","_law_letters"]) (cap:=[none,some 2]) (S:=[0]) rfl (xF (wW (av 3) Ys (xM (bn aI (bn (av 0) aI))))) rfl (by change xf _ zas _ (zm YC).names _=true;decide +kernel) (by decide) (λcl s H fp=>(an 0 zht)) (λcl s H fp=>zW) (λcl s H fp=>(ax hkd (av 1) (bn (av 0) aI))) (λ_=>rfl)) zf) rfl rfl rfl rfl rfl)
  refine sj 5 vV.nd ?_ ?_;exact(bn (bn (av 0) aI) (bi (vo (hkd _ rfl rfl rfl)) T.Wd Bt.len (bc (av 4) zf)))
  refine sj 6 vV.nd ?_ ?_;exact(xN zM)
  refine zu ?_ ?_;exact(xm PassesOwn.never rfl (yS rfl T.zZ (bc (av 1) zf) rfl) (an 7 vV.nd) (zj (Zb (Yb vg Y7 PySem.F.slot_list_append PySem.F.type_list_append (pv 6) (bd (bn (bn (zhP (av 4) Ys (xM (av 5))) (ax hkd (av 2) (bn (bn (ax hkd (av 3) aI) (bn aI (av 7))) aI))) (zhP (av 4) (xM (bn (av 5) aI)) Ys)) zM) rfl rfl rfl rfl rfl) rfl)) (λ_=>rfl))
  exact zj (zX (av 6)))
theorem zhI(T:Txt K kd mg t)(hkd:KD1 P w K kd):FnOk P w K mg base CX0 1 t.Wn t.Wo ["_law_one","_law_other"] (spD K kd Zy):=by
 refine xG (N:=zbs) (k:=0) (c:=zbD) T.zbF zaf λcdv A outer s H E hr=>?_
 exact(by
  refine zu ?_ ?_;exact(zli (n:=10000) PassesOwn.never (tc hkd hr (av 1) aI) (zj (zty (i:=0) (j:=1) rfl zaf.nd rfl rfl (by decide) rfl rfl (bd (av 1) (bd (bn (av 0) (av 1)) zM)) rfl rfl)))
  exact zj (zX (av 0)))
theorem zml(T:Txt K kd mg t)(hkd:KD1 P w K kd):FnOk P w K mg base CX0 2 t.zbK t.zcF ["_law_n","_law_m","_law_xs"] (spD K kd Xp):=by
 refine xG (N:=zcs) (k:=1) (c:=zgr) T.zhp Wa λcdv A outer s H E hr=>?_
 exact(by
  refine sj 3 Wa.nd ?_ ?_;exact(bn (av 0) (ck (zhI T hkd) hr T.Zy T.zbF.kp T.zhJ (bc (av 0) (bc (av 1) zf))))
  refine sj 4 Wa.nd ?_ ?_;exact(xN zM)
  refine zu ?_ ?_;exact(xm PassesOwn.never rfl (yS rfl T.zZ (bc (av 1) zf) rfl) (an 5 Wa.nd) (zj (Zb (Yb vg Y7 PySem.F.slot_list_append PySem.F.type_list_append (pv 4) (bd (yd (N:=["_law_a","_law_n","_law_xs","_law_c","_law_step"]) (cap:=[none,some 0,some 2,some 5,some 3]) (S:=[0]) rfl (yG rfl T.zZ (bc (av 0) zf) rfl) rfl (by change xf _ zcs _ (zm XS).names _=true;decide +kernel) (by decide) (λcl s H fp=>(an 0 zhO)) (λcl s H fp=>zW) (λcl s H fp=>(bn (bn (bn (av 0) (ax hkd (av 2) aI)) (bn (bn (av 3) (av 4)) (ax hkd (av 2) aI))) (av 1))) (λ_=>rfl)) zM) rfl rfl rfl rfl rfl) rfl)) (λ_=>rfl))
  exact zj (zX (av 4)))
theorem ziY(T:Txt K kd mg t)(hkd:KD1 P w K kd):FnOk P w K mg base CX0 1 t.Vr t.Vn ["_law_n","_law_m","_law_xs"] (spD K kd Z3):=by
 refine xG (N:=Xi) (k:=0) (c:=zdo) T.zds zbo λcdv A outer s H E hr=>?_
 exact(by
  refine sj 3 zbo.nd ?_ ?_;exact(bi zlD T.zoq Bt.sorted (bc (bn (xN (bd aI zM)) (yd (N:=["_law_k","_law_n","_law_xs"]) (cap:=[none,some 0,some 2]) (S:=[0]) rfl (yG rfl T.zZ (bc (bn (av 0) aI) zf) rfl) rfl (by change xf _ Xi _ (zm Zo).names _=true;decide +kernel) (by decide) (λcl s H fp=>(an 0 zfh)) (λcl s H fp=>zW) (λcl s H fp=>(bn (ax hkd (av 2) (av 0)) (av 1))) (λ_=>rfl))) zf))
  refine zu ?_ ?_;exact(zqP (pv 3) VB VB (λ_=>rfl) rfl rfl rfl)
  exact zj (zX (yd (N:=["_law_c","_law_row_here"]) (cap:=[none,some 3]) (S:=[0]) rfl (yG rfl T.zZ (bc (av 1) zf) rfl) rfl (by change xf _ Xi _ (zm Zo).names _=true;decide +kernel) (by decide) (λcl s H fp=>(an 0 zfg)) (λcl s H fp=>zW) (λcl s H fp=>(by_ zbc T.zbY Bt.list (bc (av 1) zf))) (λ_=>rfl))))
theorem zlH(T:Txt K kd mg t)(hkd:KD1 P w K kd):FnOk P w K mg base CX0 1 t.zcq t.zbN ["_law_n","_law_m","_law_xs"] (spD K kd XD):=by
 refine xG (N:=WW) (k:=0) (c:=zgw) T.zhh zeF λcdv A outer s H E hr=>?_
 exact(by
  refine sj 3 zeF.nd ?_ ?_;exact(bn (xN (bd aI zM)) (yd (N:=["_law_k","_law_xs","_law_n"]) (cap:=[none,some 2,some 0]) (S:=[0]) rfl (yG rfl T.zZ (bc (bn (av 0) aI) zf) rfl) rfl (by change xf _ WW _ (zm Yi).names _=true;decide +kernel) (by decide) (λcl s H fp=>(an 0 zhL)) (λcl s H fp=>zW) (λcl s H fp=>(bn aI (bn (ax hkd (av 1) (av 0)) (bn (av 2) aI)))) (λ_=>rfl)))
  exact zj (zX (yd (N:=["_law_c","_law_row_here"]) (cap:=[none,some 3]) (S:=[0]) rfl (yG rfl T.zZ (bc (av 1) zf) rfl) rfl (by change xf _ WW _ (zm Yi).names _=true;decide +kernel) (by decide) (λcl s H fp=>(an 0 zhH)) (λcl s H fp=>zW) (λcl s H fp=>(by_ zbc T.zbY Bt.list (bc (av 1) zf))) (λ_=>rfl))))
theorem zlo(T:Txt K kd mg t)(hkd:KD1 P w K kd):FnOk P w K mg base CX0 1 t.zal t.zaS ["_law_kind","_law_n"] (spD K kd ZV):=by
 refine xG (N:=Zk) (k:=0) (c:=zeu) T.zeQ zcQ λcdv A outer s H E hr=>?_
 exact(by
  refine zu ?_ ?_;exact(xQ (tc hkd hr (av 0) aI) (zj (zX (yd (N:=["_law_a","_law_n"]) (cap:=[none,some 1]) (S:=[0]) rfl (yG rfl T.zZ (bc (av 1) zf) rfl) rfl (by change xf _ Zk _ (zm vz).names _=true;decide +kernel) (by decide) (λcl s H fp=>(an 0 zgE)) (λcl s H fp=>zW) (λcl s H fp=>(yd (N:=["_law_b","_law_n","_law_a"]) (cap:=[none,some 1,some 0]) (S:=[0]) rfl (yG rfl T.zZ (bc (av 1) zf) rfl) rfl (by with_unfolding_all rfl) (by decide) (λcl s H fp=>(an 0 zhc)) (λcl s H fp=>zW) (λcl s H fp=>(bn (bn (av 2) (av 0)) (av 1))) (λ_=>rfl))) (λ_=>rfl)))) yx)
  refine zu ?_ ?_;exact(xQ (tc hkd hr (av 0) aI) (zj (zX (yd (N:=["_law_a","_law_n"]) (cap:=[none,some 1]) (S:=[0]) rfl (yG rfl T.zZ (bc (av 1) zf) rfl) rfl (by change xf _ Zk _ (zm vz).names _=true;decide +kernel) (by decide) (λcl s H fp=>(an 0 zgO)) (λcl s H fp=>zW) (λcl s H fp=>(yd (N:=["_law_b","_law_a"]) (cap:=[none,some 0]) (S:=[0]) rfl (yG rfl T.zZ (bc (av 1) zf) rfl) rfl (by with_unfolding_all rfl) (by decide) (λcl s H fp=>(an 0 zgX)) (λcl s H fp=>zW) (λcl s H fp=>(bi (zny rfl) T.zuX Bt.max (bc (av 1) (bc (av 0) zf)))) (λ_=>rfl))) (λ_=>rfl)))) yx)
  refine zu ?_ ?_;exact(xQ (tc hkd hr (av 0) aI) (zj (zX (yd (N:=["_law_a","_law_n"]) (cap:=[none,some 1]) (S:=[0]) rfl (yG rfl T.zZ (bc (av 1) zf) rfl) rfl (by change xf _ Zk _ (zm vz).names _=true;decide +kernel) (by decide) (λcl s H fp=>(an 0 zgQ)) (λcl s H fp=>zW) (λcl s H fp=>(yd (N:=["_law_b","_law_a"]) (cap:=[none,some 0]) (S:=[0]) rfl (yG rfl T.zZ (bc (av 1) zf) rfl) rfl (by with_unfolding_all rfl) (by decide) (λcl s H fp=>(an 0 zgL)) (λcl s H fp=>zW) (λcl s H fp=>(ax hkd (xN (bd (av 0) (bd (av 1) zM))) (by_ zfZ T.zsg Bt.int (bc (ec hkd hr (av 0) aI) zf)))) (λ_=>rfl))) (λ_=>rfl)))) yx)
  refine zu ?_ ?_;exact(xQ (tc hkd hr (av 0) aI) (zj (zX (yd (N:=["_law_a","_law_n"]) (cap:=[none,some 1]) (S:=[0]) rfl (yG rfl T.zZ (bc (av 1) zf) rfl) rfl (by change xf _ Zk _ (zm vz).names _=true;decide +kernel) (by decide) (λcl s H fp=>(an 0 zhg)) (λcl s H fp=>zW) (λcl s H fp=>(yd (N:=["_law_b","_law_a"]) (cap:=[none,some 0]) (S:=[0]) rfl (yG rfl T.zZ (bc (av 1) zf) rfl) rfl (by with_unfolding_all rfl) (by decide) (λcl s H fp=>(an 0 zge)) (λcl s H fp=>zW) (λcl s H fp=>(ax hkd (xN (bd (av 1) (bd (av 0) zM))) (by_ zfZ T.zsg Bt.int (bc (ec hkd hr (av 1) aI) zf)))) (λ_=>rfl))) (λ_=>rfl)))) yx)
  refine sj 2 zcQ.nd ?_ ?_;exact(xN (bd (yO (bd aI (bd aI zM))) (bd (yO (bd aI (bd aI zM))) (bd (yO (bd aI (bd aI zM))) (bd (yO (bd aI (bd aI zM))) zM)))))
  exact zj (zX (yd (N:=["_law_one","_law_maps"]) (cap:=[none,some 2]) (S:=[0]) rfl (xF (av 2)) rfl (by change xf _ Zk _ (zm vz).names _=true;decide +kernel) (by decide) (λcl s H fp=>(an 0 zhs)) (λcl s H fp=>zW) (λcl s H fp=>(yd (N:=["_law_two","_law_maps","_law_one"]) (cap:=[none,some 1,some 0]) (S:=[0]) rfl (xF (av 1)) rfl (by with_unfolding_all rfl) (by decide) (λcl s H fp=>(an 0 zfs)) (λcl s H fp=>zW) (λcl s H fp=>(zfA (ty:=.lst) (hkd _ rfl rfl rfl) (zfL (hkd _ rfl rfl rfl) (zet hr)) PySem.F.plainAttrs_list PySem.F.slot_list_index PySem.F.type_list_index (av 1) (bc (yO (bd (ax hkd (av 0) (ax hkd (av 2) aI)) (bd (ax hkd (av 0) (ax hkd (av 2) aI)) zM))) zf) rfl rfl rfl rfl rfl)) (λ_=>rfl))) (λ_=>rfl))))
theorem zmb(T:Txt K kd mg t)(hkd:KD1 P w K kd):FnOk P w K mg base CX0 3 t.zcH t.zcG ["_law_kind","_law_n","_law_m","_law_xs"] (spD K kd Yj):=by
 refine xG (N:=zci) (k:=2) (c:=zgj) T.zfX zkH λcdv A outer s H E hr=>?_
 exact(by
  refine zu ?_ ?_;exact(xQ (tc hkd hr (av 0) aI) (zj (zX (ck (zml T hkd) hr T.Xp T.zhp.kp T.zly (bc (av 1) (bc (av 2) (bc (av 3) zf)))))) yx)
  refine zu ?_ ?_;exact(xQ (tc hkd hr (av 0) aI) (zj (zX (ck (ziY T hkd) hr T.Z3 T.zds.kp T.zjy (bc (av 1) (bc (av 2) (bc (av 3) zf)))))) yx)
  refine zu ?_ ?_;exact(xQ (tc hkd hr (av 0) aI) (zj (zX (ck (zlH T hkd) hr T.XD T.zhh.kp T.zlF (bc (av 1) (bc (av 2) (bc (av 3) zf)))))) yx)
  exact zj (zX (yd (N:=["_law_c","_law_xs"]) (cap:=[none,some 3]) (S:=[0]) rfl (yG rfl T.zZ (bc (av 2) zf) rfl) rfl (by change xf _ zci _ (zm XM).names _=true;decide +kernel) (by decide) (λcl s H fp=>(an 0 zhN)) (λcl s H fp=>zW) (λcl s H fp=>(ax hkd (xN (bd (xN (bd aI (bd aI (bd aI (bd aI zM))))) (bd (xN (bd aI (bd aI (bd aI (bd aI zM))))) zM))) (bn (ax hkd (av 1) aI) aI))) (λ_=>rfl))))
theorem zaP(T:Txt K kd mg t)(hkd:KD1 P w K kd):FnOk P w K mg base CX0 4 t.zaA t.zaM ["_law_kind","_law_n","_law_m","_law_many","_law_cell"] (spD K kd wM):=by
 refine xG (N:=zaa) (k:=3) (c:=zex) T.We zdf λcdv A outer s H E hr=>?_
 exact(by
  refine zu ?_ ?_;exact(Yu (z:=true) (i:=5) (N:=["_law_k","_law_kind","_law_n","_law_m","_law_cell"]) (cap:=[none,some 0,some 1,some 2,some 4]) (S:=[0]) zdf.nd rfl (by exact Or.inl rfl) (by exact Or.inr rfl) rfl rfl (yG rfl T.zZ (bc (av 3) zf) rfl) rfl (by change xf _ zaa _ (zm Yy).names _=true;decide +kernel) (by decide) (λcl s H fp=>(an 0 zgB)) (λcl s H fp=>zW) (λcl s H fp=>(ck (zmb T hkd) hr T.Yj T.zfX.kp T.zmk (bc (av 1) (bc (av 2) (bc (av 3) (bc (ck (wy T hkd) hr T.zT T.xR.kp T.wC (bc (bn (av 4) (bn aI (av 0))) (bc aI zf))) zf)))))) (λ_=>rfl))
  exact zj (zX (yO (bd (av 1) (bd (ck (zlo T hkd) hr T.ZV T.zeQ.kp T.zld (bc (av 0) (bc (av 1) zf))) (bd (av 5) zM))))))
theorem zjg(T:Txt K kd mg t)(hkd:KD1 P w K kd):FnOk P w K mg base CX0 1 t.Vh t.Ve ["_law_one","_law_other","_law_m"] (spD K kd Yd):=by
 refine xG (N:=W6) (k:=0) (c:=zcZ) T.zcM yI λcdv A outer s H E hr=>?_
 exact(by
  refine sj 3 yI.nd ?_ ?_;exact(bn (ax hkd (av 0) aI) (ax hkd (av 1) aI))
  refine sj 4 yI.nd ?_ ?_;exact(ax hkd (av 1) aI)
  refine sj 5 yI.nd ?_ ?_;exact(xN zM)
  refine zu ?_ ?_;exact(xm PassesOwn.never rfl (yS rfl T.zZ (bc (av 3) zf) rfl) (an 6 yI.nd) (by
  refine sj 7 yI.nd ?_ ?_;exact(ax hkd (ax hkd (av 0) aI) (bn (av 6) (av 4)))
  refine sj 8 yI.nd ?_ ?_;exact(ax hkd (ax hkd (av 1) aI) (bn (av 6) (av 4)))
  exact zj (Zb (Yb vg Y7 PySem.F.slot_list_append PySem.F.type_list_append (pv 5) (bd (yd (N:=["_law_q","_law_by","_law_there","_law_here"]) (cap:=[none,some 4,some 8,some 7]) (S:=[0]) rfl (yG rfl T.zZ (bc (av 3) zf) rfl) rfl (by change xf _ W6 _ (zm Z5).names _=true;decide +kernel) (by decide) (λcl s H fp=>(an 0 zfd)) (λcl s H fp=>zW) (λcl s H fp=>(bn (bn (ax hkd (av 3) (bn (av 0) (av 1))) (av 1)) (ax hkd (av 2) (bn (av 0) (av 1))))) (λ_=>rfl)) zM) rfl rfl rfl rfl rfl) rfl)) (λ_=>rfl))
  refine sj 9 yI.nd ?_ ?_;exact(xN zM)
  refine zu ?_ ?_;exact(xm PassesOwn.never rfl (zlq rfl T.zqr (bc (ax hkd (av 0) aI) (bc (ax hkd (av 1) aI) zf)) rfl rfl) (vJ rfl (zK (an 7 yI.nd) (zK (an 8 yI.nd) wz rfl) rfl) rfl rfl) (by
  refine sj 10 yI.nd ?_ ?_;exact(xN zM)
  refine zu ?_ ?_;exact(xm PassesOwn.never rfl (yS rfl T.zZ (bc (av 2) zf) rfl) (an 11 yI.nd) (by
  refine sj 12 yI.nd ?_ ?_;exact(xN zM)
  refine zu ?_ ?_;exact(xm PassesOwn.never rfl (yS rfl T.zZ (bc (av 3) zf) rfl) (an 6 yI.nd) (by
  refine sj 13 yI.nd ?_ ?_;exact(bn (ax hkd (ax hkd (av 7) (av 11)) (bn (av 6) (av 4))) (av 4))
  exact zj (Zb (Yb vg Y7 PySem.F.slot_list_append PySem.F.type_list_append (pv 12) (bd (bn (av 13) (ax hkd (ax hkd (av 8) (av 11)) (bn (av 6) (av 4)))) zM) rfl rfl rfl rfl rfl) rfl)) (λ_=>rfl))
  exact zj (Zb (Yb vg Y7 PySem.F.slot_list_append PySem.F.type_list_append (pv 10) (bd (av 12) zM) rfl rfl rfl rfl rfl) rfl)) (λ_=>rfl))
  exact zj (Zb (Yb vg Y7 PySem.F.slot_list_append PySem.F.type_list_append (pv 9) (bd (av 10) zM) rfl rfl rfl rfl rfl) rfl)) (λ_=>rfl))
  exact zj (zX (yO (bd (av 3) (bd (av 5) (bd (av 9) zM))))))
theorem zlB(T:Txt K kd mg t)(hkd:KD1 P w K kd):FnOk P w K mg base CX0 5 t.zbQ t.zbW ["_law_cell","_law_m","_law_many"] (spD K kd XF):=by
 refine xG (N:=zhm) (k:=4) (c:=zgl) T.zhe vR λcdv A outer s H E hr=>?_
 exact(by
  refine sj 3 vR.nd ?_ ?_;exact(ck (wy T hkd) hr T.zT T.xR.kp T.wC (bc (av 0) (bc aI zf)))
  refine sj 4 vR.nd ?_ ?_;exact(bn (ax hkd (av 3) aI) aI)
  refine zu ?_ ?_;exact(xQ (tc hkd hr (av 4) aI) (by
  refine sj 5 vR.nd ?_ ?_;exact(ax hkd (xN (bd (yO (bd aI (bd aI zM))) (bd (yO (bd aI (bd aI zM))) (bd (yO (bd aI (bd aI zM))) (bd (yO (bd aI (bd aI zM))) (bd (yO (bd aI (bd aI zM))) (bd (yO (bd aI (bd aI zM))) zM))))))) (bn (ax hkd (av 3) aI) aI))
  refine sj 6 vR.nd ?_ ?_;exact(ck (zaP T hkd) hr T.wM T.We.kp T.zaK (bc (bn (ax hkd (av 3) aI) aI) (bc (ax hkd (av 5) aI) (bc (av 1) (bc (av 2) (bc (ax hkd (av 3) aI) zf))))))
  exact zj (zX (ck (zjg T hkd) hr T.Yd T.zcM.kp T.zjl (bc (av 6) (bc (ck (zaP T hkd) hr T.wM T.We.kp T.zaK (bc (bn (ax hkd (av 3) aI) aI) (bc (ax hkd (av 5) aI) (bc (av 1) (bc (av 2) (bc (bn (ax hkd (av 3) aI) aI) zf)))))) (bc (av 1) zf)))))) yx)
  refine sj 7 vR.nd ?_ ?_;exact(ax hkd (xN (bd aI (bd aI (bd aI (bd aI (bd aI (bd aI (bd aI (bd aI zM))))))))) (bn (ax hkd (av 3) aI) aI))
  refine zu ?_ ?_;exact(xQ (AW.at_ (zjk (tc hkd hr (av 4) aI) (Vd (tc hkd hr (bn (ax hkd (av 3) aI) aI) aI)))) (zj (by refine sv true 7 vR.nd ?_;exact aI)) yx)
  refine zu ?_ ?_;exact(xQ (tc hkd hr (av 4) aI) (zj (by refine sv true 7 vR.nd ?_;exact aI)) yx)
  exact zj (zX (ck (zaP T hkd) hr T.wM T.We.kp T.zaK (bc (av 4) (bc (av 7) (bc (av 1) (bc (av 2) (bc (ax hkd (av 3) aI) zf))))))))
theorem zln(T:Txt K kd mg t)(hkd:KD1 P w K kd):FnOk P w K mg base CX0 2 t.zag t.zaB ["_law_cell","_law_n"] (spD K kd YG):=by
 refine xG (N:=zeZ) (k:=1) (c:=zeE) T.zeB Xf λcdv A outer s H E hr=>?_
 exact(by
  refine sj 2 Xf.nd ?_ ?_;exact(zec rfl rfl T.zZ rfl T.zbY (bc (av 1) zf) rfl rfl)
  refine sj 3 Xf.nd ?_ ?_;exact(xN zM)
  refine zu ?_ ?_;exact(xm PassesOwn.never rfl (zbU (ck (wy T hkd) hr T.zT T.xR.kp T.wC (bc (av 0) (bc (av 1) zf)))) (an 4 Xf.nd) (zj (Zb (Yb vg Y7 PySem.F.slot_list_append PySem.F.type_list_append (pv 3) (bd (Yb zpj zql PySem.F.slot_list_pop PySem.F.type_list_pop (pv 2) (bd (bn (av 4) (bi (vo (hkd _ rfl rfl rfl)) T.Wd Bt.len (bc (av 2) zf))) zM) rfl rfl rfl rfl rfl) zM) rfl rfl rfl rfl rfl) rfl)) (λ_=>rfl))
  exact zj (zX (av 3)))
theorem zkx(T:Txt K kd mg t)(hkd:KD1 P w K kd):FnOk P w K mg base CX0 2 t.zac t.zaz ["_law_cell","_law_n","_law_names_here"] (spD K kd Z0):=by
 refine xG (N:=zaq) (k:=1) (c:=zfc) T.zeU Xe λcdv A outer s H E hr=>?_
 exact(by
  refine sj 3 Xe.nd ?_ ?_;exact(xN zM)
  refine zu ?_ ?_;exact(xm PassesOwn.never rfl (zlq rfl T.zqr (bc (ck (wy T hkd) hr T.zT T.xR.kp T.wC (bc (av 0) (bc (bi (vo (hkd _ rfl rfl rfl)) T.Wd Bt.len (bc (av 2) zf)) zf))) (bc (av 2) zf)) rfl rfl) (vJ rfl (zK (an 4 Xe.nd) (zK (an 5 Xe.nd) wz rfl) rfl) rfl rfl) (zj (Zb (Yb vg Y7 PySem.F.slot_list_append PySem.F.type_list_append (pv 3) (bd (yO (bd (av 5) (bd (yd (N:=["_law_v","_law_x"]) (cap:=[none,some 4]) (S:=[0]) rfl (yG rfl T.zZ (bc (av 1) zf) rfl) rfl (by change xf _ zaq _ (zm Yx).names _=true;decide +kernel) (by decide) (λcl s H fp=>(an 0 zgv)) (λcl s H fp=>(zjq (tc hkd hr (bn (bn (av 1) (ax hkd (xN (bd aI (bd aI (bd aI (bd aI (bd aI (bd aI (bd aI (bd aI zM))))))))) (av 0))) aI) aI))) (λcl s H fp=>(av 0)) (λ_=>rfl)) zM))) zM) rfl rfl rfl rfl rfl) rfl)) (λ_=>rfl))
  exact zj (zX (av 3)))
theorem zbp(T:Txt K kd mg t)(hkd:KD1 P w K kd):FnOk P w K mg base CX0 6 t.Ws t.Wx ["_law_cell","_law_other"] (spD K kd wA):=by
 refine xG (N:=ZC) (k:=5) (c:=zbE) T.Wt yq λcdv A outer s H E hr=>?_
 exact(by
  refine sj 2 yq.nd ?_ ?_;exact(ck (wy T hkd) hr T.zT T.xR.kp T.wC (bc (av 1) (bc aI zf)))
  refine sj 3 yq.nd ?_ ?_;exact(bn aI (bn (ax hkd (av 2) aI) aI))
  refine zu ?_ ?_;exact(xQ (tc hkd hr (bn (bn (ax hkd (av 2) aI) aI) aI) aI) (zj (by refine sv true 3 yq.nd ?_;exact(bn aI (bn (bn (ax hkd (av 2) aI) aI) aI)))) yx)
  refine sj 4 yq.nd ?_ ?_;exact(ax hkd (xN (bd aI (bd aI (bd aI (bd aI (bd aI (bd aI (bd aI (bd aI zM))))))))) (bn (ax hkd (av 2) aI) aI))
  refine zu ?_ ?_;exact(xQ (tc hkd hr (av 4) aI) (zj (by refine sv true 3 yq.nd ?_;exact(bn aI (bn (av 3) aI)))) yx)
  refine zu ?_ ?_;exact(zam (ck (zlB T hkd) hr T.XF T.zhe.kp T.zmn (bc (av 0) (bc (av 3) (bc (av 4) zf)))) (vJ rfl (zK (an 5 yq.nd) (zK (an 6 yq.nd) (zK (an 7 yq.nd) wz rfl) rfl) rfl) rfl rfl) rfl rfl rfl)
  refine sj 8 yq.nd ?_ ?_;exact(ck (zln T hkd) hr T.YG T.zeB.kp T.zkM (bc (ax hkd (av 2) aI) (bc (av 5) zf)))
  refine sj 9 yq.nd ?_ ?_;exact(yd (N:=["_law_v","_law_order_here"]) (cap:=[none,some 8]) (S:=[0]) rfl (yG rfl T.zZ (bc (av 5) zf) rfl) rfl (by change xf _ ZC _ (zm vL).names _=true;decide +kernel) (by decide) (λcl s H fp=>(an 0 zdE)) (λcl s H fp=>zW) (λcl s H fp=>(zfA (ty:=.lst) (hkd _ rfl rfl rfl) (zfL (hkd _ rfl rfl rfl) (zet hr)) PySem.F.plainAttrs_list PySem.F.slot_list_index PySem.F.type_list_index (av 1) (bc (av 0) zf) rfl rfl rfl rfl rfl)) (λ_=>rfl))
  refine zu ?_ ?_;exact(Yu (z:=true) (i:=10) (N:=["_law_a","_law_order_here","_law_n","_law_join","_law_back"]) (cap:=[none,some 8,some 5,some 6,some 9]) (S:=[0]) yq.nd rfl (by exact Or.inl rfl) (by exact Or.inr rfl) rfl rfl (yG rfl T.zZ (bc (av 5) zf) rfl) rfl (by change xf _ ZC _ (zm vL).names _=true;decide +kernel) (by decide) (λcl s H fp=>(an 0 zef)) (λcl s H fp=>zW) (λcl s H fp=>(yd (N:=["_law_b","_law_order_here","_law_join","_law_back","_law_a"]) (cap:=[none,some 1,some 3,some 4,some 0]) (S:=[0]) rfl (yG rfl T.zZ (bc (av 2) zf) rfl) rfl (by with_unfolding_all rfl) (by decide) (λcl s H fp=>(an 0 zee)) (λcl s H fp=>zW) (λcl s H fp=>(ax hkd (av 1) (ax hkd (ax hkd (av 2) (ax hkd (av 3) (av 4))) (ax hkd (av 3) (av 0))))) (λ_=>rfl))) (λ_=>rfl))
  refine sj 11 yq.nd ?_ ?_;exact(ck (zkv T hkd) hr T.YH T.zeN.kp T.zkc (bc (ax hkd (av 2) aI) (bc aI zf)))
  refine sj 12 yq.nd ?_ ?_;exact(xN zM)
  refine zu ?_ ?_;exact(xm PassesOwn.never rfl (zlq rfl T.zqr (bc (wW (av 11) Ys (xM aI)) (bc (av 7) zf)) rfl rfl) (vJ rfl (zK (an 13 yq.nd) (zK (an 14 yq.nd) wz rfl) rfl) rfl rfl) (zj (Zb (Yb vg Y7 PySem.F.slot_list_append PySem.F.type_list_append (pv 12) (bd (yO (bd (av 13) (bd (yd (N:=["_law_row_here","_law_order_here","_law_n","_law_back"]) (cap:=[none,some 8,some 5,some 9]) (S:=[0]) rfl (xF (av 14)) rfl (by change xf _ ZC _ (zm vL).names _=true;decide +kernel) (by decide) (λcl s H fp=>(an 0 zeo)) (λcl s H fp=>zW) (λcl s H fp=>(yd (N:=["_law_a","_law_order_here","_law_row_here","_law_back"]) (cap:=[none,some 1,some 0,some 3]) (S:=[0]) rfl (yG rfl T.zZ (bc (av 2) zf) rfl) rfl (by with_unfolding_all rfl) (by decide) (λcl s H fp=>(an 0 zdy)) (λcl s H fp=>zW) (λcl s H fp=>(ax hkd (av 1) (ax hkd (av 2) (ax hkd (av 3) (av 0))))) (λ_=>rfl))) (λ_=>rfl)) zM))) zM) rfl rfl rfl rfl rfl) rfl)) (λ_=>rfl))
  refine sj 15 yq.nd ?_ ?_;exact(ck (zkx T hkd) hr T.Z0 T.zeU.kp T.zkO (bc (ax hkd (av 2) aI) (bc (av 5) (bc (wW (av 11) (xM aI) (xM (bn aI (ax hkd (xN (bd aI (bd aI (bd aI (bd aI (bd aI (bd aI (bd aI (bd aI zM))))))))) (bn (ax hkd (av 2) aI) aI))))) zf))))
  exact zj (zX (yO (bd (av 5) (bd (av 3) (bd (av 10) (bd (ax hkd (av 8) aI) (bd (av 12) (bd (av 15) zM)))))))))
theorem zmf(T:Txt K kd mg t)(hkd:KD1 P w K kd):FnOk P w K mg base CX0 2 t.zcv t.zbV ["_law_algebra_here","_law_cell"] (spD K kd Xu):=by
 refine xG (N:=VD) (k:=1) (c:=zhf) T.zgz xJ λcdv A outer s H E hr=>?_
 exact(by
  refine zu ?_ ?_;exact(zam (av 0) (vJ rfl (zK (an 2 xJ.nd) (zK (an 3 xJ.nd) (zK (an 4 xJ.nd) (zK (an 5 xJ.nd) (zK (an 6 xJ.nd) (zK (an 7 xJ.nd) wz rfl) rfl) rfl) rfl) rfl) rfl) rfl rfl) rfl rfl rfl)
  refine sj 8 xJ.nd ?_ ?_;exact(ck (wy T hkd) hr T.zT T.xR.kp T.wC (bc (av 1) (bc aI zf)))
  refine zu ?_ ?_;exact(Yu (z:=false) (i:=9) (N:=["_law_row_here"]) (cap:=[none]) (S:=[0]) xJ.nd rfl (by exact Or.inl rfl) (by exact Or.inr rfl) rfl rfl (xF (av 4)) rfl (by change xf _ VD _ (zm Yn).names _=true;decide +kernel) (by decide) (λcl s H fp=>(an 0 zhM)) (λcl s H fp=>zW) (λcl s H fp=>(by_ zbc T.zbY Bt.list (bc (av 0) zf))) (λ_=>rfl))
  refine zu ?_ ?_;exact(Yu (z:=false) (i:=10) (N:=["_law_name","_law_rows_here"]) (cap:=[none,none]) (S:=[0,1]) xJ.nd rfl (by exact Or.inl rfl) (by exact Or.inr rfl) rfl rfl (xF (av 6)) rfl (by change xf _ VD _ (zm Yn).names _=true;decide +kernel) (by decide) (λcl s H fp=>(vJ rfl (zK (an 0 zbv) (zK (an 1 zbv) wz rfl) rfl) rfl rfl)) (λcl s H fp=>zW) (λcl s H fp=>(yO (bd (av 0) (bd (yd (N:=["_law_row_here"]) (cap:=[none]) (S:=[0]) rfl (xF (av 1)) rfl (by with_unfolding_all rfl) (by decide) (λcl s H fp=>(an 0 zhD)) (λcl s H fp=>zW) (λcl s H fp=>(by_ zbc T.zbY Bt.list (bc (av 0) zf))) (λ_=>rfl)) zM)))) (λ_=>rfl))
  refine sj 11 xJ.nd ?_ ?_;exact(bn (ax hkd (av 8) aI) aI)
  refine zu ?_ ?_;exact(xQ (tc hkd hr (av 11) aI) (zj (by refine sv true 5 xJ.nd ?_;exact(bn (ax hkd (av 8) aI) (av 2)))) yx)
  refine zu ?_ ?_;exact(xQ (AW.at_ (zmD (tc hkd hr (av 11) aI) (zba (tc hkd hr (av 11) aI)))) (zj (zro (pv 9) (zcC (zfN (pv 8) VB (λ_ _=>rfl)) (zel (pv 2))) (λ_ _=>rfl) (zcC (zfN (pv 8) VB (λ_ _=>rfl)) (zel (pv 2))) (zcC (zfN (pv 8) VB (λ_ _=>rfl)) (zel (pv 2))) (λ_=>rfl) rfl rfl rfl)) yx)
  refine zu ?_ ?_;exact(xQ (AW.at_ (zjk (tc hkd hr (av 11) aI) (Vd (tc hkd hr (av 10) (xN zM))))) (zqO (y:=12) (n:=1) xJ.nd rfl (by exact Or.inl rfl) (by exact Or.inr rfl) (pv 10) (zcC (zfN (pv 8) VB (λ_ _=>rfl)) (ztq rfl T.Wd Bt.len (pv 10) rfl rfl)) (λ_ _=>rfl) zlA (λ_ _=>rfl) rfl (pv 12) (zcC (zfN (pv 8) VB (λ_ _=>rfl)) (zel (pv 3))) (λ_ _=>rfl) (zcC (zfN (pv 8) VB (λ_ _=>rfl)) (zel (pv 2))) (zcC (zfN (pv 8) VB (λ_ _=>rfl)) (zel (pv 2))) (λ_=>rfl) rfl rfl rfl) yx)
  exact zj (zX (yO (bd (av 2) (bd (av 3) (bd (av 9) (bd (av 5) (bd (av 10) (bd (av 7) zM)))))))))
theorem zdp(T:Txt K kd mg t)(hkd:KD1 P w K kd):FnOk P w K mg base CX0 1 t.Vx t.Vl ["_law_cell","_law_base","_law_many"] (spD K kd vC):=by
 refine xG (N:=zcW) (k:=0) (c:=zdj) T.Vi Yv λcdv A outer s H E hr=>?_
 exact(by
  refine sj 3 Yv.nd ?_ ?_;exact(xN zM)
  refine zu ?_ ?_;exact(xm PassesOwn.never rfl (yS rfl T.zZ (bc (av 2) zf) rfl) (an 4 Yv.nd) (by
  refine zu ?_ ?_;exact(Zb (Yb vg Y7 PySem.F.slot_list_append PySem.F.type_list_append (pv 3) (bd (bn (av 0) (av 1)) zM) rfl rfl rfl rfl rfl) rfl)
  exact zj (by refine sv true 0 Yv.nd ?_;exact(bn (av 0) (av 1)))) (λ_=>rfl))
  exact zj (zX (av 3)))
theorem zfm(T:Txt K kd mg t)(hkd:KD1 P w K kd):FnOk P w K mg base CX0 2 t.Y8 t.Y5 ["_law_algebra_here","_law_cell"] (spD K kd v5):=by
 refine xG (N:=ZM) (k:=1) (c:=V7) T.VM yH λcdv A outer s H E hr=>?_
 exact(by
  refine zu ?_ ?_;exact(zam (av 0) (vJ rfl (zK (an 2 yH.nd) (zK (an 3 yH.nd) (zK (an 4 yH.nd) (zK (an 5 yH.nd) (zK (an 6 yH.nd) (zK (an 7 yH.nd) wz rfl) rfl) rfl) rfl) rfl) rfl) rfl rfl) rfl rfl rfl)
  refine sj 8 yH.nd ?_ ?_;exact(ck (zdp T hkd) hr T.vC T.Vi.kp T.zdr (bc (av 1) (bc (av 2) (bc (bn (bn aI (bn (av 2) (av 2))) (bn (bn (av 2) (av 3)) (bi (vo (hkd _ rfl rfl rfl)) T.Wd Bt.len (bc (av 6) zf)))) zf))))
  refine zu ?_ ?_;exact(Yu (z:=true) (i:=9) (N:=["_law_a","_law_digits_here","_law_n"]) (cap:=[none,some 8,some 2]) (S:=[0]) yH.nd rfl (by exact Or.inl rfl) (by exact Or.inr rfl) rfl rfl (yG rfl T.zZ (bc (av 2) zf) rfl) rfl (by change xf _ ZM _ (zm vp).names _=true;decide +kernel) (by decide) (λcl s H fp=>(an 0 zbR)) (λcl s H fp=>zW) (λcl s H fp=>(wW (av 1) (xM (bn aI (bn (av 2) (av 0)))) (xM (bn (bn aI (bn (av 2) (av 0))) (av 2))))) (λ_=>rfl))
  refine sj 10 yH.nd ?_ ?_;exact(xN zM)
  refine zu ?_ ?_;exact(xm PassesOwn.never rfl (yS rfl T.zZ (bc (bi (vo (hkd _ rfl rfl rfl)) T.Wd Bt.len (bc (av 6) zf)) zf) rfl) (an 11 yH.nd) (by
  refine sj 12 yH.nd ?_ ?_;exact(bn (bn aI (bn (av 2) (av 2))) (bn (bn (av 2) (av 3)) (av 11)))
  exact zj (Zb (Yb vg Y7 PySem.F.slot_list_append PySem.F.type_list_append (pv 10) (bd (yO (bd (ax hkd (ax hkd (av 6) (av 11)) aI) (bd (yd (N:=["_law_c","_law_digits_here","_law_at","_law_n"]) (cap:=[none,some 8,some 12,some 2]) (S:=[0]) rfl (yG rfl T.zZ (bc (av 3) zf) rfl) rfl (by change xf _ ZM _ (zm vp).names _=true;decide +kernel) (by decide) (λcl s H fp=>(an 0 zcy)) (λcl s H fp=>zW) (λcl s H fp=>(wW (av 1) (xM (bn (av 2) (bn (av 3) (av 0)))) (xM (bn (bn (av 2) (bn (av 3) (av 0))) (av 3))))) (λ_=>rfl)) zM))) zM) rfl rfl rfl rfl rfl) rfl)) (λ_=>rfl))
  exact zj (zX (yO (bd (av 2) (bd (av 3) (bd (av 9) (bd (ax hkd (av 8) aI) (bd (av 10) (bd (av 7) zM)))))))))
theorem znz(T:Txt K kd mg t)(hkd:KD1 P w K kd):FnOk P w K mg base CX0 7 t.zdX t.zdD ["_law_script"] (spD K kd WQ):=by
 refine xG (N:=zif) (k:=6) (c:=zhW) T.zhU zck λcdv A outer s H E hr=>?_
 exact(by
  refine sj 1 zck.nd ?_ ?_;exact(ck (wu T hkd) hr T.zQ T.xO.kp T.ww (bc (av 0) (bc aI zf)))
  refine sj 2 zck.nd ?_ ?_;exact(ck (zbp T hkd) hr T.wA T.Wt.kp T.zbB (bc (ck (wu T hkd) hr T.zQ T.xO.kp T.ww (bc (av 0) (bc aI zf))) (bc (ck (wu T hkd) hr T.zQ T.xO.kp T.ww (bc (av 0) (bc aI zf))) zf)))
  refine zu ?_ ?_;exact(xQ (tc hkd hr (bn (av 1) aI) aI) (zj (zX (ck (zfm T hkd) hr T.v5 T.VM.kp T.zfk (bc (av 2) (bc (bn (av 1) aI) zf))))) yx)
  exact zj (zX (ck (zmf T hkd) hr T.Xu T.zgz.kp T.zlN (bc (av 2) (bc (bn (av 1) aI) zf)))))
theorem zhC(T:Txt K kd mg t)(hkd:KD1 P w K kd):FnOk P w K mg base CX0 1 t.Wl t.Wv ["_law_n","_law_join","_law_nothing"] (spD K kd ZK):=by
 refine xG (N:=zbl) (k:=0) (c:=zbJ) T.zbG Zg λcdv A outer s H E hr=>?_
 exact(by
  refine zu ?_ ?_;exact(xm PassesOwn.never rfl (yS rfl T.zZ (bc (av 0) zf) rfl) (an 3 Zg.nd) (zj (xQ (AW.at_ (zmD (tc hkd hr (ax hkd (ax hkd (av 1) (av 2)) (av 3)) (av 3)) (zba (tc hkd hr (ax hkd (ax hkd (av 1) (av 3)) (av 2)) (av 3))))) (zj (zX (yO (bd aS (bd (av 3) zM))))) yx)) (λ_=>rfl))
  refine zu ?_ ?_;exact(xm PassesOwn.never rfl (yS rfl T.zZ (bc (av 0) zf) rfl) (an 3 Zg.nd) (zj (xm PassesOwn.never rfl (yS rfl T.zZ (bc (av 0) zf) rfl) (an 4 Zg.nd) (zj (xm PassesOwn.never rfl (yS rfl T.zZ (bc (av 0) zf) rfl) (an 5 Zg.nd) (zj (xQ (tc hkd hr (ax hkd (ax hkd (av 1) (ax hkd (ax hkd (av 1) (av 3)) (av 4))) (av 5)) (ax hkd (ax hkd (av 1) (av 3)) (ax hkd (ax hkd (av 1) (av 4)) (av 5)))) (zj (zX (yO (bd aS (bd (av 3) (bd (av 4) (bd (av 5) zM))))))) yx)) (λ_=>rfl))) (λ_=>rfl))) (λ_=>rfl))
  exact zj (zX aZ))
theorem zke(T:Txt K kd mg t)(hkd:KD1 P w K kd):FnOk P w K mg base CX0 1 t.zaN t.V9 ["_law_n","_law_m","_law_join","_law_name","_law_rows_here"] (spD K kd ZX):=by
 refine xG (N:=zeR) (k:=0) (c:=zeT) T.zeH vG λcdv A outer s H E hr=>?_
 exact(by
  refine zu ?_ ?_;exact(xm PassesOwn.never rfl (yS rfl T.zZ (bc (bn (av 0) (av 1)) zf) rfl) (an 5 vG.nd) (zj (xm PassesOwn.never rfl (yS rfl T.zZ (bc (bn (av 0) (av 1)) zf) rfl) (an 6 vG.nd) (by
  refine zu ?_ ?_;exact(zam (bi ziy T.zkW Bt.divmod (bc (av 5) (bc (av 1) zf))) (vJ rfl (zK (an 7 vG.nd) (zK (an 8 vG.nd) wz rfl) rfl) rfl rfl) rfl rfl rfl)
  refine zu ?_ ?_;exact(zam (bi ziy T.zkW Bt.divmod (bc (av 6) (bc (av 1) zf))) (vJ rfl (zK (an 9 vG.nd) (zK (an 10 vG.nd) wz rfl) rfl) rfl rfl) rfl rfl rfl)
  refine sj 11 vG.nd ?_ ?_;exact(ax hkd (ax hkd (av 2) (ax hkd (ax hkd (av 4) (av 8)) (av 7))) (ax hkd (ax hkd (av 4) (av 10)) (av 9)))
  exact zj (xQ (tc hkd hr (ax hkd (ax hkd (av 4) (bn (bn (av 8) (av 10)) (av 1))) (ax hkd (ax hkd (av 2) (av 7)) (av 9))) (av 11)) (zj (zX (yO (bd aS (bd (av 3) (bd (av 7) (bd (av 8) (bd (av 9) (bd (av 10) zM))))))))) yx)) (λ_=>rfl))) (λ_=>rfl))
  exact zj (zX aZ))
theorem zkm(T:Txt K kd mg t)(hkd:KD1 P w K kd):FnOk P w K mg base CX0 2 t.zaO t.zak ["_law_algebra_here"] (spD K kd ZZ):=by
 refine xG (N:=zey) (k:=1) (c:=zeS) T.zes xu λcdv A outer s H E hr=>?_
 exact(by
  refine zu ?_ ?_;exact(zam (av 0) (vJ rfl (zK (an 1 xu.nd) (zK (an 2 xu.nd) (zK (an 3 xu.nd) (zK (an 4 xu.nd) (zK (an 5 xu.nd) (zK (an 6 xu.nd) wz rfl) rfl) rfl) rfl) rfl) rfl) rfl rfl) rfl rfl rfl)
  refine sj 7 xu.nd ?_ ?_;exact(ck (zhC T hkd) hr T.ZK T.zbG.kp T.zhB (bc (av 1) (bc (av 3) (bc (av 4) zf))))
  refine zu ?_ ?_;exact(xm PassesOwn.never rfl (zbU (av 5)) (vJ rfl (zK (an 8 xu.nd) (zK (an 9 xu.nd) wz rfl) rfl) rfl rfl) (by
  refine zu ?_ ?_;exact(xQ (AW.at_ (zjk (tc hkd hr (av 7) aZ) (Vd (tc hkd hr (ax hkd (ax hkd (av 9) aI) (av 4)) (av 4))))) (zj (by refine sv true 7 xu.nd ?_;exact(yO (bd aS (bd (av 8) zM))))) yx)
  exact zj (xQ (tc hkd hr (av 7) aZ) (zj (by refine sv true 7 xu.nd ?_;exact(ck (zke T hkd) hr T.ZX T.zeH.kp T.zkK (bc (av 1) (bc (av 2) (bc (av 3) (bc (av 8) (bc (av 9) zf)))))))) yx)) (λ_=>rfl))
  exact zj (zX (av 7)))
theorem zhr(T:Txt K kd mg t)(hkd:KD1 P w K kd):FnOk P w K mg base CX0 8 t.zcr t.zbL ["_law_script"] (spD K kd Zi):=by
 refine xG (N:=zgm) (k:=7) (c:=zhd) T.zcE zeW λcdv A outer s H E hr=>?_
 exact(by
  refine sj 1 zeW.nd ?_ ?_;exact(ck (znz T hkd) hr T.WQ T.zhU.kp T.znI (bc (av 0) zf))
  refine zu ?_ ?_;exact(xQ (AW.at_ (zjk (tc hkd hr (bn (ck (wu T hkd) hr T.zQ T.xO.kp T.ww (bc (av 0) (bc aI zf))) aI) aI) (Vd (tc hkd hr (ck (zkm T hkd) hr T.ZZ T.zes.kp T.zlh (bc (av 1) zf)) aZ)))) (zj (zX (av 1))) yx)
  exact zj (zX (ck (zbp T hkd) hr T.wA T.Wt.kp T.zbB (bc (ck (wu T hkd) hr T.zQ T.xO.kp T.ww (bc (av 0) (bc aI zf))) (bc (ck (wu T hkd) hr T.zQ T.xO.kp T.ww (bc (av 0) (bc aI zf))) zf)))))
theorem ziA(T:Txt K kd mg t)(hkd:KD1 P w K kd):FnOk P w K mg base CX0 2 t.zdH t.zed ["_law_algebra_here","_law_cell"] (spD K kd ZS):=by
 refine xG (N:=zdO) (k:=1) (c:=zis) T.zdY vW λcdv A outer s H E hr=>?_
 exact(by
  refine zu ?_ ?_;exact(zam (av 0) (vJ rfl (zK (an 2 vW.nd) (zK (an 3 vW.nd) (zK (an 4 vW.nd) (zK (an 5 vW.nd) (zK (an 6 vW.nd) (zK (an 7 vW.nd) wz rfl) rfl) rfl) rfl) rfl) rfl) rfl rfl) rfl rfl rfl)
  refine zu ?_ ?_;exact(xQ (AW.at_ (zmD (tc hkd hr (bn (av 1) aI) aI) (zba (tc hkd hr (av 7) (xN zM))))) (zj (zX (av 0))) yx)
  refine sj 8 vW.nd ?_ ?_;exact(ax hkd (ck (wy T hkd) hr T.zT T.xR.kp T.wC (bc (av 1) (bc aI zf))) aI)
  refine zu ?_ ?_;exact(Yu (z:=true) (i:=9) (N:=["_law_v","_law_n","_law_join","_law_x"]) (cap:=[none,some 2,some 4,some 8]) (S:=[0]) vW.nd rfl (by exact Or.inl rfl) (by exact Or.inr rfl) rfl rfl (yG rfl T.zZ (bc (av 2) zf) rfl) rfl (by change xf _ zdO _ (zm WK).names _=true;decide +kernel) (by decide) (λcl s H fp=>(an 0 zja)) (λcl s H fp=>(zjq (tc hkd hr (ax hkd (ax hkd (av 2) (av 0)) (bn (av 3) (av 1))) (bn (bn (av 3) aI) (av 1))))) (λcl s H fp=>(av 0)) (λ_=>rfl))
  exact zj (zX (yO (bd (av 2) (bd (av 3) (bd (av 4) (bd (av 5) (bd (av 6) (bd (xN (bd (yO (bd (ax hkd (ax hkd (av 7) aI) aI) (bd (av 9) zM))) zM)) zM)))))))))
theorem znC(T:Txt K kd mg t)(hkd:KD1 P w K kd):FnOk P w K mg base CX0 2 t.zeg t.zdR ["_law_script","_law_n"] (spD K kd WL):=by
 refine xG (N:=zaY) (k:=1) (c:=ziF) T.zhX zgW λcdv A outer s H E hr=>?_
 exact(by
  refine sj 2 zgW.nd ?_ ?_;exact(ck (wu T hkd) hr T.zQ T.xO.kp T.ww (bc (av 0) (bc aI zf)))
  refine zu ?_ ?_;exact(xQ (tc hkd hr (bn (av 2) aI) aI) (zj (zX (ck (zdp T hkd) hr T.vC T.Vi.kp T.zdr (bc (bn (av 2) aI) (bc (av 1) (bc (bn (bn (bn (av 2) aI) aI) aI) zf)))))) yx)
  refine zu ?_ ?_;exact(xQ (tc hkd hr (bn (av 2) aI) aI) (zj (zX (yd (N:=["_law_x","_law_n"]) (cap:=[none,some 1]) (S:=[0]) rfl (xF (ck (wy T hkd) hr T.zT T.xR.kp T.wC (bc (bn (av 2) aI) (bc aI zf)))) rfl (by change xf _ zaY _ (zm Xn).names _=true;decide +kernel) (by decide) (λcl s H fp=>(an 0 zjL)) (λcl s H fp=>zW) (λcl s H fp=>(bn (av 0) (av 1))) (λ_=>rfl)))) yx)
  exact zj (zX (yd (N:=["_law_cell","_law_n"]) (cap:=[none,some 1]) (S:=[0]) rfl (xF (wW (av 0) (xM aI) (xM aI))) rfl (by change xf _ zaY _ (zm Xn).names _=true;decide +kernel) (by decide) (λcl s H fp=>(an 0 zjm)) (λcl s H fp=>zW) (λcl s H fp=>(bn (ax hkd (ck (wy T hkd) hr T.zT T.xR.kp T.wC (bc (av 0) (bc aI zf))) aI) (av 1))) (λ_=>rfl))))
theorem zan(T:Txt K kd mg t)(hkd:KD1 P w K kd):FnOk P w K mg base CX0 1 t.XX t.Xv ["_law_algebra_here","_law_value"] (spD K kd wX):=by
 refine xG (N:=X6) (k:=0) (c:=zaw) T.Xy zff λcdv A outer s H E hr=>?_
 exact(zj (zX (yd (N:=["_law_name","_law_values","_law_value"]) (cap:=[none,none,some 1]) (S:=[0,1]) rfl (xF (ax hkd (av 0) aI)) rfl (by change xf _ X6 _ (zm Zh).names _=true;decide +kernel) (by decide) (λcl s H fp=>(vJ rfl (zK (an 0 Wg) (zK (an 1 Wg) wz rfl) rfl) rfl rfl)) (λcl s H fp=>zW) (λcl s H fp=>(yO (bd (av 0) (bd (zlV (zhj (hkd _ rfl rfl rfl) (zet hr) .In) (av 2) (av 1) rfl) zM)))) (λ_=>rfl))))
theorem zer(T:Txt K kd mg t)(hkd:KD1 P w K kd):FnOk P w K mg base CX0 2 t.zab t.zar ["_law_algebra_here","_law_least","_law_numbers","_law_row_here","_law_other"] (spD K kd vA):=by
 refine xG (N:=zaT) (k:=1) (c:=zfb) T.zax Vg λcdv A outer s H E hr=>?_
 exact(by
  refine zu ?_ ?_;exact(xQ (tc hkd hr (av 4) (yd (N:=["_law_value","_law_numbers"]) (cap:=[none,some 2]) (S:=[0]) rfl (xF (av 3)) rfl (by change xf _ zaT _ (zm YF).names _=true;decide +kernel) (by decide) (λcl s H fp=>(an 0 zgg)) (λcl s H fp=>zW) (λcl s H fp=>(ax hkd (av 1) (av 0))) (λ_=>rfl))) (zj (zX aB)) yx)
  refine sj 5 Vg.nd ?_ ?_;exact(ck (zkC T hkd) hr T.XQ T.zhw.kp T.zkk (bc (av 0) (bc (av 3) zf)))
  refine sj 6 Vg.nd ?_ ?_;exact(ck (zkC T hkd) hr T.XQ T.zhw.kp T.zkk (bc (av 1) (bc (av 4) zf)))
  exact zj (zX (ztD (ec hkd hr (av 6) (ax hkd (av 2) (av 5))) (zsT (ec hkd hr (ck (zan T hkd) hr T.wX T.Xy.kp T.zav (bc (av 0) (bc (av 5) zf))) (ck (zan T hkd) hr T.wX T.Xy.kp T.zav (bc (av 1) (bc (av 6) zf))))))))
theorem o_law(T:Txt K kd mg t)(hkd:KD1 P w K kd):FnOk P w K mg base CX0 9 t.zoX t.zoO ["_law_script"] (spD K kd zgA):=by
 refine xG (N:=zoc) (k:=8) (c:=zse) T.zvg Ye λcdv A outer s H E hr=>?_
 exact(by
  refine sj 1 Ye.nd ?_ ?_;exact(ck (ziA T hkd) hr T.ZS T.zdY.kp T.ziH (bc (ck (zhr T hkd) hr T.Zi T.zcE.kp T.zfO (bc (av 0) zf)) (bc (ck (wu T hkd) hr T.zQ T.xO.kp T.ww (bc (av 0) (bc aI zf))) zf)))
  refine sj 2 Ye.nd ?_ ?_;exact(ck (ziA T hkd) hr T.ZS T.zdY.kp T.ziH (bc (ck (zhr T hkd) hr T.Zi T.zcE.kp T.zfO (bc (av 0) zf)) (bc (ck (wu T hkd) hr T.zQ T.xO.kp T.ww (bc (av 0) (bc aI zf))) zf)))
  refine sj 3 Ye.nd ?_ ?_;exact(ck (znC T hkd) hr T.WL T.zhX.kp T.znL (bc (av 0) (bc (ax hkd (av 1) aI) zf)))
  refine zu ?_ ?_;exact(zam (ck (zfp T hkd) hr T.wJ T.V3.kp T.zfq (bc (av 1) zf)) (vJ rfl (zK (an 4 Ye.nd) (zK (an 5 Ye.nd) wz rfl) rfl) rfl rfl) rfl rfl rfl)
  refine zu ?_ ?_;exact(Yu (z:=true) (i:=6) (N:=["_law_value","_law_numbers"]) (cap:=[none,some 5]) (S:=[0]) Ye.nd rfl (by exact Or.inl rfl) (by exact Or.inr rfl) rfl rfl (xF (av 3)) rfl (by change xf _ zoc _ (zm zle).names _=true;decide +kernel) (by decide) (λcl s H fp=>(an 0 zpk)) (λcl s H fp=>zW) (λcl s H fp=>(ax hkd (av 1) (av 0))) (λ_=>rfl))
  refine zu ?_ ?_;exact(xQ (zpG (zpf (ck (zer T hkd) hr T.vA T.zax.kp T.zfa (bc (av 1) (bc (av 4) (bc (av 5) (bc (av 3) (bc (av 6) zf)))))) (λ_=>rfl))) (zj (zX aB)) yx)
  refine zu ?_ ?_;exact(xm PassesOwn.never rfl (zbU (wW (av 0) (xM aI) (xM aI))) (an 7 Ye.nd) (by
  refine zu ?_ ?_;exact(xQ (tc hkd hr (ax hkd (av 1) aI) (xN zM)) (zj (zX (ec hkd hr (av 1) (av 2)))) yx)
  refine sj 8 Ye.nd ?_ ?_;exact(bn (av 7) (bn aI aI))
  refine sj 9 Ye.nd ?_ ?_;exact(ax hkd (ax hkd (ax hkd (av 1) aI) (bn (av 8) (bi (vo (hkd _ rfl rfl rfl)) T.Wd Bt.len (bc (ax hkd (av 1) aI) zf)))) aI)
  refine sj 10 Ye.nd ?_ ?_;exact(bn (bn (av 8) aI) (bn (bi (vo (hkd _ rfl rfl rfl)) T.Wd Bt.len (bc (av 3) zf)) aI))
  refine sj 11 Ye.nd ?_ ?_;exact(bn (av 10) (bn (bn (av 8) aI) (bn (bn (bi (vo (hkd _ rfl rfl rfl)) T.Wd Bt.len (bc (av 3) zf)) aI) (av 10))))
  refine sj 3 Ye.nd ?_ ?_;exact(bn (bn (wW (av 3) Ys (xM (av 10))) (ck (zhR T hkd) hr T.Zt T.zdQ.kp T.ziu (bc (av 1) (bc (av 9) (bc (wW (av 3) (xM (av 10)) (xM (av 11))) zf))))) (wW (av 3) (xM (av 11)) Ys))
  refine sj 6 Ye.nd ?_ ?_;exact(bn (bn (wW (av 6) Ys (xM (av 10))) (ck (zhR T hkd) hr T.Zt T.zdQ.kp T.ziu (bc (av 4) (bc (av 9) (bc (wW (av 6) (xM (av 10)) (xM (av 11))) zf))))) (wW (av 6) (xM (av 11)) Ys))
  exact zj (xQ (zpG (zpf (ck (zer T hkd) hr T.vA T.zax.kp T.zfa (bc (av 1) (bc (av 4) (bc (av 5) (bc (av 3) (bc (av 6) zf)))))) (λ_=>rfl))) (zj (zX aB)) yx)) (λ_=>rfl))
  exact zj (zX (ec hkd hr (av 1) (av 2))))
end
abbrev NsR(K:zC)(x:Str)(f:Addr):Prop:=PySem.W.nsIn K mainGlobals x=some (some (.ref f))
abbrev FnAt(K:zC)(x q:Str)(s:Stmt)(f:Addr):Prop:=∃d,Fun K x q s f d
theorem ztZ{l:PySem.W.OpenLaw}{w:World}{K:zC}{h:Heap}{mg:Str->Option Value}{fa:Addr}(X:K.In h)(G:h.Ns mainGlobals mg)(hfa:mg "law"=some (.ref fa))
 {f0 f1 f2 f3 f4 f5 f6 f7 f8 f9 f10 f11 f12 f13 f14 f15 f16 f17 f18 f19 f20 f21 f22 f23 f24 f25 f26 f27 f28 f29 f30 f31 f32 f33 f34 f35 f36 f37 f38 f39 f40 f41:Addr}
 (a0:NsR K "nothing_fails" f0) (l0:FnAt K "nothing_fails" "nothing_fails" ZP f0)
 (a1:NsR K "parting_fails" f1) (l1:FnAt K "parting_fails" "parting_fails" ZL f1)
 (a2:NsR K "doing_fails" f2) (l2:FnAt K "doing_fails" "doing_fails" Yr f2)
 (a3:NsR K "deeds_fail" f3) (l3:FnAt K "deeds_fail" "deeds_fail" Xh f3)
 (a4:NsR K "what_fails" f4) (l4:FnAt K "what_fails" "what_fails" Xd f4)
 (a5:NsR K "check_let_by" f5) (l5:FnAt K "check_let_by" "check_let_by" Yg f5)
 (a6:NsR K "joined" f6) (l6:FnAt K "joined" "joined" zda f6)
 (a7:NsR K "done_to" f7) (l7:FnAt K "done_to" "done_to" Wz f7)
 (a8:NsR K "all_steps" f8) (l8:FnAt K "all_steps" "all_steps" Ze f8)
 (a9:NsR K "numbered" f9) (l9:FnAt K "numbered" "numbered" X4 f9)
 (a10:NsR K "signs_of" f10) (l10:FnAt K "signs_of" "signs_of" XR f10)
 (a11:NsR K "class_numbers" f11) (l11:FnAt K "class_numbers" "class_numbers" xX f11)
 (a12:NsR K "least_algebra" f12) (l12:FnAt K "least_algebra" "least_algebra" xW f12)
 (a13:NsR K "_law_cell_at" f13) (l13:FnAt K "_law_cell_at" "_law_cell_at" Yp f13)
 (a14:NsR K "_law_whole" f14) (l14:FnAt K "_law_whole" "_law_whole" zaC f14)
 (a15:NsR K "_law_stream" f15) (l15:FnAt K "_law_stream" "_law_stream" Xm f15)
 (a16:NsR K "_law_names" f16) (l16:FnAt K "_law_names" "_law_names" YC f16)
 (a17:NsR K "_law_divisor" f17) (l17:FnAt K "_law_divisor" "_law_divisor" Yt f17)
 (a18:NsR K "_law_sums" f18) (l18:FnAt K "_law_sums" "_law_sums" XS f18)
 (a19:NsR K "_law_rising" f19) (l19:FnAt K "_law_rising" "_law_rising" Zo f19)
 (a20:NsR K "_law_kept" f20) (l20:FnAt K "_law_kept" "_law_kept" Yi f20)
 (a21:NsR K "_law_joins" f21) (l21:FnAt K "_law_joins" "_law_joins" vz f21)
 (a22:NsR K "_law_rows" f22) (l22:FnAt K "_law_rows" "_law_rows" XM f22)
 (a23:NsR K "_law_plain" f23) (l23:FnAt K "_law_plain" "_law_plain" Yy f23)
 (a24:NsR K "_law_beside" f24) (l24:FnAt K "_law_beside" "_law_beside" Z5 f24)
 (a25:NsR K "_law_made" f25) (l25:FnAt K "_law_made" "_law_made" WX f25)
 (a26:NsR K "_law_order" f26) (l26:FnAt K "_law_order" "_law_order" Wi f26)
 (a27:NsR K "_law_signs" f27) (l27:FnAt K "_law_signs" "_law_signs" Yx f27)
 (a28:NsR K "_law_algebra" f28) (l28:FnAt K "_law_algebra" "_law_algebra" vL f28)
 (a29:NsR K "_law_bent" f29) (l29:FnAt K "_law_bent" "_law_bent" Yn f29)
 (a30:NsR K "_law_digits" f30) (l30:FnAt K "_law_digits" "_law_digits" Xk f30)
 (a31:NsR K "_law_by_digits" f31) (l31:FnAt K "_law_by_digits" "_law_by_digits" vp f31)
 (a32:NsR K "_law_any" f32) (l32:FnAt K "_law_any" "_law_any" zaX f32)
 (a33:NsR K "_law_parting" f33) (l33:FnAt K "_law_parting" "_law_parting" Yo f33)
 (a34:NsR K "_law_doing" f34) (l34:FnAt K "_law_doing" "_law_doing" Wc f34)
 (a35:NsR K "_law_fails" f35) (l35:FnAt K "_law_fails" "_law_fails" X7 f35)
 (a36:NsR K "_law_good" f36) (l36:FnAt K "_law_good" "_law_good" WY f36)
 (a37:NsR K "_law_few" f37) (l37:FnAt K "_law_few" "_law_few" WK f37)
 (a38:NsR K "_law_row" f38) (l38:FnAt K "_law_row" "_law_row" Xn f38)
 (a39:NsR K "_law_signs_of" f39) (l39:FnAt K "_law_signs_of" "_law_signs_of" Zh f39)
 (a40:NsR K "_law_along" f40) (l40:FnAt K "_law_along" "_law_along" YF f40)
 (a41:NsR K "law" f41) (l41:FnAt K "law" "law" zle f41)
 (z0:PySem.W.nsIn K mainGlobals "bool"=some none) (z1:PySem.W.nsIn K mainGlobals "dict"=some none) (z2:PySem.W.nsIn K mainGlobals "divmod"=some none) (z3:PySem.W.nsIn K mainGlobals "enumerate"=some none) (z4:PySem.W.nsIn K mainGlobals "int"=some none) (z5:PySem.W.nsIn K mainGlobals "isinstance"=some none) (z6:PySem.W.nsIn K mainGlobals "len"=some none) (z7:PySem.W.nsIn K mainGlobals "list"=some none) (z8:PySem.W.nsIn K mainGlobals "max"=some none) (z9:PySem.W.nsIn K mainGlobals "range"=some none) (z10:PySem.W.nsIn K mainGlobals "set"=some none) (z11:PySem.W.nsIn K mainGlobals "sorted"=some none) (z12:PySem.W.nsIn K mainGlobals "tuple"=some none) (z13:PySem.W.nsIn K mainGlobals "zip"=some none):
 ∃fd:FuncData,(∀(s:Shared) (v:Value),BindsTo s fd ⟨[v],[]⟩ [("_law_script",v)])/\∀base:Heap,K.In base->base.Ns mainGlobals mg->FnOk l.prog w K mg base CX0 9 fa fd ["_law_script"] (spL K zgA):=by
 have e:=hfa.symm.trans (PySem.W.mg_of X G a41)
 cases e
 obtain⟨_,F0⟩:=l0
 obtain⟨_,F1⟩:=l1
 obtain⟨_,F2⟩:=l2
 obtain⟨_,F3⟩:=l3
 obtain⟨_,F4⟩:=l4
 obtain⟨_,F5⟩:=l5
 obtain⟨_,F6⟩:=l6
 obtain⟨_,F7⟩:=l7
 obtain⟨_,F8⟩:=l8
 obtain⟨_,F9⟩:=l9
 obtain⟨_,F10⟩:=l10
 obtain⟨_,F11⟩:=l11
 obtain⟨_,F12⟩:=l12
 obtain⟨_,F13⟩:=l13
 obtain⟨_,F14⟩:=l14
 obtain⟨_,F15⟩:=l15
 obtain⟨_,F16⟩:=l16
 obtain⟨_,F17⟩:=l17
 obtain⟨_,F18⟩:=l18
 obtain⟨_,F19⟩:=l19
 obtain⟨_,F20⟩:=l20
 obtain⟨_,F21⟩:=l21
 obtain⟨_,F22⟩:=l22
 obtain⟨_,F23⟩:=l23
 obtain⟨_,F24⟩:=l24
 obtain⟨_,F25⟩:=l25
 obtain⟨_,F26⟩:=l26
 obtain⟨_,F27⟩:=l27
 obtain⟨_,F28⟩:=l28
 obtain⟨_,F29⟩:=l29
 obtain⟨_,F30⟩:=l30
 obtain⟨_,F31⟩:=l31
 obtain⟨_,F32⟩:=l32
 obtain⟨_,F33⟩:=l33
 obtain⟨_,F34⟩:=l34
 obtain⟨_,F35⟩:=l35
 obtain⟨_,F36⟩:=l36
 obtain⟨_,F37⟩:=l37
 obtain⟨_,F38⟩:=l38
 obtain⟨_,F39⟩:=l39
 obtain⟨_,F40⟩:=l40
 obtain⟨_,F41⟩:=l41
 obtain⟨_,_,_,_,_,_,_,_,_,rfl,_,_⟩:=F41.ex
 let KL:List (Addr×List (Key×V)):=[]
 have hkd:KD1 l.prog w K (kdL KL):=ztW λp m=>by
  exact absurd (show p ∈ ([]:List (Addr×List (Key×V)))from m) zxA
 have T:Txt K (kdL KL) mg ⟨_,_,_,_,_,_,_,_,_,_,_,_,_,_,_,_,_,_,_,_,_,_,_,_,_,_,_,_,_,_,_,_,_,_,_,_,_,_,_,_,_,_,_,_,_,_,_,_,_,_,_,_,_,_,_,_,_,_,_,_,_,_,_,_,_,_,_,_,_,_,_,_,_,_,_,_,_,_,_,_,_,_,_,_⟩:=⟨F0,bs F0,PySem.W.mg_of X G a0,F1,bs F1,PySem.W.mg_of X G a1,F2,bs F2,PySem.W.mg_of X G a2,F3,bs F3,PySem.W.mg_of X G a3,F4,bs F4,PySem.W.mg_of X G a4,F5,bs F5,PySem.W.mg_of X G a5,F6,bs F6,PySem.W.mg_of X G a6,F7,bs F7,PySem.W.mg_of X G a7,F8,bs F8,PySem.W.mg_of X G a8,F9,bs F9,PySem.W.mg_of X G a9,F10,bs F10,PySem.W.mg_of X G a10,F11,bs F11,PySem.W.mg_of X G a11,F12,bs F12,PySem.W.mg_of X G a12,F13,bs F13,PySem.W.mg_of X G a13,F14,bs F14,PySem.W.mg_of X G a14,F15,bs F15,PySem.W.mg_of X G a15,F16,bs F16,PySem.W.mg_of X G a16,F17,bs F17,PySem.W.mg_of X G a17,F18,bs F18,PySem.W.mg_of X G a18,F19,bs F19,PySem.W.mg_of X G a19,F20,bs F20,PySem.W.mg_of X G a20,F21,bs F21,PySem.W.mg_of X G a21,F22,bs F22,PySem.W.mg_of X G a22,F23,bs F23,PySem.W.mg_of X G a23,F24,bs F24,PySem.W.mg_of X G a24,F25,bs F25,PySem.W.mg_of X G a25,F26,bs F26,PySem.W.mg_of X G a26,F27,bs F27,PySem.W.mg_of X G a27,F28,bs F28,PySem.W.mg_of X G a28,F29,bs F29,PySem.W.mg_of X G a29,F30,bs F30,PySem.W.mg_of X G a30,F31,bs F31,PySem.W.mg_of X G a31,F32,bs F32,PySem.W.mg_of X G a32,F33,bs F33,PySem.W.mg_of X G a33,F34,bs F34,PySem.W.mg_of X G a34,F35,bs F35,PySem.W.mg_of X G a35,F36,bs F36,PySem.W.mg_of X G a36,F37,bs F37,PySem.W.mg_of X G a37,F38,bs F38,PySem.W.mg_of X G a38,F39,bs F39,PySem.W.mg_of X G a39,F40,bs F40,PySem.W.mg_of X G a40,F41,bs F41,PySem.W.mg_of X G a41,PySem.W.mg_none_of X G z0,PySem.W.mg_none_of X G z1,PySem.W.mg_none_of X G z2,PySem.W.mg_none_of X G z3,PySem.W.mg_none_of X G z4,PySem.W.mg_none_of X G z5,PySem.W.mg_none_of X G z6,PySem.W.mg_none_of X G z7,PySem.W.mg_none_of X G z8,PySem.W.mg_none_of X G z9,PySem.W.mg_none_of X G z10,PySem.W.mg_none_of X G z11,PySem.W.mg_none_of X G z12,PySem.W.mg_none_of X G z13⟩
 exact⟨_,λs v=>.of_eq rfl,λbase _ _=>(o_law T hkd).imp λvs H Q E h=>h _⟩
theorem walk{l:PySem.W.OpenLaw}{q:Program}{loose:List Str}{XP:(Str->Option Value)->Heap->Prop}{YP:World->Heap->Prop}{d:DefRec}{K:Params->zC}(hn:l.most=some 63)(hdf:d.params.defaults=[])
 (hY:∀(w:World) (h:Heap),YP w h->(K w.params).In h) (hm:∀ns:List Int,ns.length<=63->zgA [(true,.lst (ns.map D.int))]=some (.lf true (.bl true)))
 (F:∀(w:World) (mg:Str->Option Value) (fa:Addr) (h:Heap),(K w.params).In h->h.Ns mainGlobals mg->mg d.name=some (.ref fa)->
  ∃fd:FuncData,(∀(s:Shared) (u:Value),BindsTo s fd ⟨[u],[]⟩ [("_law_script",u)])/\∀base:Heap,(K w.params).In base->base.Ns mainGlobals mg->FnOk l.prog w (K w.params) mg base CX0 9 fa fd ["_law_script"] (spL (K w.params) zgA)):
 PySem.W.WalkO q loose XP YP l.row.toRowW d [] (λf vs=>PySem.call f vs):=
 L2.walk_of (n:=63) (k:=9) (x:="_law_script") (CX:=λ_=>CX0) (sp:=λw=>spL (K w.params) zgA) hn (by decide) hdf ⟨rfl,by decide,by decide,rfl⟩ hY F (λ_ _ a ns hl _ hS kd=>ztj (hm ns hl) hS) λ_ _ _ _ _ z=>z
end G56
end
section
namespace PP
theorem least{P:Nat->Prop}:∀(x:Nat),P x->∃y,P y/\y<=x/\∀z,z<y->¬P z:=λx=>by
 induction x using Nat.strongRecOn with
 |_ x ih=>
  intro h
  by_cases e:∃z,z<x/\P z
  · obtain⟨z,hz,pz⟩:=e
    obtain⟨y,h1,h2,h3⟩:=ih z hz pz
    exact⟨y,h1,by omega,h3⟩
  · exact⟨x,h,zzL _,λz hz pz=>e ⟨z,hz,pz⟩⟩
noncomputable def cnt(P:Nat->Prop):Nat->Nat
 |0=>0
 |n+1=>cnt P n + @ite Nat (P n) (Classical.propDecidable _) 1 0
theorem zso(P:Nat->Prop):∀n,cnt P n<=n
 |0=>zzL _
 |n+1=>by
  have:=zso P n
  unfold cnt
  split<;>omega
theorem zlX{P Q:Nat->Prop}:∀n,(∀v,v<n->P v->Q v)->cnt P n<=cnt Q n
 |0,_=>zzL _
 |n+1,h=>by
  have ih:=zlX n λv hv=>h v (by omega)
  unfold cnt
  by_cases p:P n
  · rw[if_pos p,if_pos (h n (by omega) p)];omega
  · rw[if_neg p];omega
theorem zop{P Q:Nat->Prop}{v:Nat}:∀n,(∀v,v<n->P v->Q v)->v<n->Q v->¬P v->cnt P n<cnt Q n
 |0,_,hv,_,_=>absurd hv (Nat.not_lt_zero _)
 |n+1,h,hv,q,np=>by
  unfold cnt
  by_cases e:v=n
  · subst e
    have ih:=zlX v λw hw=>h w (by omega)
    rw[if_neg np,if_pos q];omega
  · have ih:=zop n (λw hw=>h w (by omega)) (by omega) q np
    by_cases p:P n
    · rw[if_pos p,if_pos (h n (by omega) p)];omega
    · rw[if_neg p];omega
section
variable{β δ:Type}{H:Int->β}{f:δ->Int->Int}{P:δ->Prop}{n:Nat}
def fr(f:δ->Int->Int)(r:List δ)(v:Int):Int:=r.foldl (λw d=>f d w) v
def Ek(H:Int->β)(f:δ->Int->Int)(P:δ->Prop)(k:Nat)(u v:Int):Prop:=∀r:List δ,(∀d ∈ r,P d)->r.length<=k->H (fr f r u)=H (fr f r v)
theorem Ek.symm{k:Nat}{u v:Int}(h:Ek H f P k u v):Ek H f P k v u:=λr hr hl=>(h r hr hl).symm
theorem Ek.trans{k:Nat}{u v w:Int}(h:Ek H f P k u v)(g:Ek H f P k v w):Ek H f P k u w:=λr hr hl=>(h r hr hl).trans (g r hr hl)
theorem Ek.refl{k:Nat}{u:Int}:Ek H f P k u u:=λ_ _ _=>rfl
theorem Ek.mono{j k:Nat}{u v:Int}(h:Ek H f P k u v)(g:j<=k):Ek H f P j u v:=λr hr hl=>h r hr (zzM hl g)
theorem Ek.succ{k:Nat}{u v:Int}:Ek H f P (k+1) u v ↔ Ek H f P k u v/\∀d,P d->Ek H f P k (f d u) (f d v):=
 ⟨λh=>⟨h.mono (zyV _),λd hd r hr hl=>h (d::r) (λx mx=>(zzA.mp mx).elim (λz=>z ▸ hd) (hr x)) (Nat.succ_le_succ hl)⟩,λ⟨h,g⟩ r hr hl=>by
  cases r with
  |nil=>exact h [] hr (Nat.zero_le _)
  |cons d r=>exact g d (hr d (zzD ..)) r (λx mx=>hr x (zzB _ mx)) (Nat.le_of_succ_le_succ hl)⟩
theorem Ek.zero{u v:Int}:Ek H f P 0 u v ↔ H u=H v:=⟨λh=>h [] (λ_ m=>nomatch m) (zzL _),λh r _ hl=>by
 cases r with
 |nil=>exact h
 |cons=>exact absurd hl (Nat.not_succ_le_zero _)⟩
abbrev St(H:Int->β)(f:δ->Int->Int)(P:δ->Prop)(n k:Nat):Prop:=∀u v:Nat,u<n->v<n->Ek H f P k u v->Ek H f P (k+1) u v
abbrev Rep(H:Int->β)(f:δ->Int->Int)(P:δ->Prop)(k v:Nat):Prop:=∀u:Nat,u<v->¬Ek H f P k (u:Int) (v:Int)
theorem zqv{k:Nat}(h:¬St H f P n k):cnt (Rep H f P k) n<cnt (Rep H f P (k+1)) n:=by
 have mo:∀v,v<n->Rep H f P k v->Rep H f P (k+1) v:=λv _ hv u hu z=>hv u hu (z.mono (zyV _))
 have⟨u,v,hu,hv,e,ne⟩:∃u v:Nat,u<n/\v<n/\Ek H f P k u v/\¬Ek H f P (k+1) u v:=Classical.byContradiction λz=>h λu v hu hv e=>Classical.byContradiction λne=>z ⟨u,v,hu,hv,e,ne⟩
 obtain⟨m0,h1,h2,h3⟩:=least (P:=λw=>Ek H f P k (u:Int) (w:Int)) u .refl
 have⟨x,hx,ex,nx⟩:∃x:Nat,x<n/\Ek H f P k (u:Int) (x:Int)/\¬Ek H f P (k+1) (x:Int) (m0:Int):=by
  by_cases z:Ek H f P (k+1) (u:Int) (m0:Int)
  · exact⟨v,hv,e,λy=>ne (z.trans y.symm)⟩
  · exact⟨u,hu,.refl,z⟩
 obtain⟨w,g1,g2,g3⟩:=least (P:=λw=>Ek H f P (k+1) (x:Int) (w:Int)) x .refl
 have kw:Ek H f P k (u:Int) (w:Int):=ex.trans (g1.mono (zyV _))
 have mw:m0<w:=by
  have:m0<=w:=Nat.le_of_not_lt λz=>h3 w z kw
  rcases Nat.lt_or_eq_of_le this with z|z
  · exact z
  · exact absurd (z ▸ g1) nx
 exact zop (v:=w) n mo (by omega) (λy hy z=>g3 y hy (g1.trans z.symm)) λz=>z m0 mw (h1.symm.trans kw)
theorem stable(n1:1<=n):∃k,k<n/\St H f P n k:=Classical.byContradiction λz=>by
 have gr:∀k,k<=n->k+1<=cnt (Rep H f P k) n:=λk=>by
  induction k with
  |zero=>
   intro _
   obtain⟨m,rfl⟩:∃m,n=m+1:=⟨n-1,by omega⟩
   have h0:cnt (λv=>v=0) (m+1)<=cnt (Rep H f P 0) (m+1):=zlX _ λv _ hv u hu=>by subst hv;exact absurd hu (Nat.not_lt_zero _)
   have h1:∀j,1<=cnt (λv=>v=0) (j+1):=λj=>by
    induction j with
    |zero=>unfold cnt;rw[if_pos rfl];omega
    |succ j ih=>unfold cnt;omega
   have:=h1 m
   omega
  |succ k ih=>
   intro hk
   have:=ih (by omega)
   have:=zqv (n:=n) λh=>z ⟨k,by omega,h⟩
   omega
 have:=gr n (zzL _)
 have:=zso (Rep H f P n) n
 omega
end
end PP
end
section
namespace G56
abbrev InR(n:Nat)(x:Int):Prop:=0<=x/\x<(n:Int)
structure LJ(n:Nat)(j:Int->Int->Int)(e:Int):Prop where
 cl:∀a b,InR n a->InR n b->InR n (j a b)
 ce:InR n e
 ul:∀a,InR n a->j e a=a
 ur:∀a,InR n a->j a e=a
 as:∀a b c,InR n a->InR n b->InR n c->j (j a b) c=j a (j b c)
structure LD(n m:Nat)(j:Int->Int->Int)(e:Int)(d:Int->Int->Int):Prop where
 cl:∀c a,InR m c->InR n a->InR n (d c a)
 em:d 0 e=e
 dn:∀a i b k,InR n a->InR m i->InR n b->InR m k->d ((i+k)%m) (j a b)=j (d i a) (d k b)
theorem ziT{x:Int}{n:Nat}(hn:0<n):InR n (x%n):=⟨zyL _ (by omega),zyF _ (by omega)⟩
theorem LJ.congr{n:Nat}{j j':Int->Int->Int}{e:Int}(h:LJ n j e)(q:∀a b,InR n a->InR n b->j' a b=j a b):LJ n j' e:=by
 refine⟨λa b ha hb=>by rw[q a b ha hb];exact h.cl a b ha hb,h.ce,λa ha=>by rw[q _ _ h.ce ha];exact h.ul a ha,λa ha=>by rw[q _ _ ha h.ce];exact h.ur a ha,λa b c ha hb hc=>?_⟩
 rw[q a b ha hb,q b c hb hc,q _ _ (h.cl a b ha hb) hc,q _ _ ha (h.cl b c hb hc)]
 exact h.as a b c ha hb hc
theorem LD.congr{n m:Nat}{j j':Int->Int->Int}{e:Int}{d d':Int->Int->Int}(hm:0<m)(hj:LJ n j e)(h:LD n m j e d)(q:∀a b,InR n a->InR n b->j' a b=j a b)(p:∀c a,InR m c->InR n a->d' c a=d c a):LD n m j' e d':=by
 refine⟨λc a hc ha=>by rw[p c a hc ha];exact h.cl c a hc ha,by rw[p 0 e ⟨by omega,by omega⟩ hj.ce];exact h.em,λa i b k ha hi hb hk=>?_⟩
 rw[q a b ha hb,p _ _ (ziT hm) (hj.cl a b ha hb),p i a hi ha,p k b hk hb,q _ _ (h.cl i a hi ha) (h.cl k b hk hb)]
 exact h.dn a i b k ha hi hb hk
def jS(n:Nat)(a b:Int):Int:=(a+b)%n
def jM(a b:Int):Int:=if b > a then b else a
def jL(a b:Int):Int:=if b=0 then a else b
def jF(a b:Int):Int:=if a=0 then b else a
def p1(a:Int):Int:=if a=1\/a=3 then 1 else 0
def p2(a:Int):Int:=if a=0\/a=3 then 1 else 0
def ixM(u v:Int):Int:=if u=0 then(if v=0 then 2 else 0)else(if v=0 then 1 else 3)
def pk(u v k:Int):Int:=if k=0 then u else v
def j4(a b:Int):Int:=ixM (pk (p1 b) (p2 b) (p1 a)) (pk (p1 b) (p2 b) (p2 a))
theorem ljS{n:Nat}(hn:0<n):LJ n (jS n) 0:=by
 refine⟨λa b _ _=>ziT hn,⟨by omega,by omega⟩,λa ha=>?_,λa ha=>?_,λa b c _ _ _=>?_⟩
 · unfold jS;rw[Int.zero_add,Int.emod_eq_of_lt ha.1 ha.2]
 · unfold jS;rw[Int.add_zero,Int.emod_eq_of_lt ha.1 ha.2]
 · unfold jS;rw[Int.emod_add_emod,Int.add_emod_emod,Int.add_assoc]
theorem ljM{n:Nat}(hn:0<n):LJ n jM 0:=by
 refine⟨λa b ha hb=>?_,⟨by omega,by omega⟩,λa ha=>?_,λa ha=>?_,λa b c _ _ _=>?_⟩<;>unfold jM<;>(try unfold jM)<;>grind
theorem ljL{n:Nat}(hn:0<n):LJ n jL 0:=by
 refine⟨λa b ha hb=>?_,⟨by omega,by omega⟩,λa ha=>?_,λa ha=>?_,λa b c _ _ _=>?_⟩<;>unfold jL<;>grind
theorem ljF{n:Nat}(hn:0<n):LJ n jF 0:=by
 refine⟨λa b ha hb=>?_,⟨by omega,by omega⟩,λa ha=>?_,λa ha=>?_,λa b c _ _ _=>?_⟩<;>unfold jF<;>grind
theorem four{P:Int->Prop}(h0:P 0)(h1:P 1)(h2:P 2)(h3:P 3){a:Int}(h:InR 4 a):P a:=by
 rcases(show a=0\/a=1\/a=2\/a=3 by have:=h.1;have:=h.2;omega)with rfl|rfl|rfl|rfl<;>assumption
theorem f4{P:Int->Prop}(h:∀a ∈ ([0,1,2,3]:List Int),P a){a:Int}(ha:InR 4 a):P a:=four (h 0 (by decide)) (h 1 (by decide)) (h 2 (by decide)) (h 3 (by decide)) ha
theorem lj4:LJ 4 j4 0:=by
 refine⟨λa b ha hb=>?_,⟨by decide,by decide⟩,λa ha=>?_,λa ha=>?_,λa b c ha hb hc=>?_⟩
 · revert b;refine f4 (P:=λa=>∀b,InR 4 b->InR 4 (j4 a b)) ?_ ha
   have:∀a ∈ ([0,1,2,3]:List Int),∀b ∈ ([0,1,2,3]:List Int),InR 4 (j4 a b):=by decide
   exact λa m b hb=>f4 (P:=λb=>InR 4 (j4 a b)) (this a m) hb
 · exact f4 (P:=λa=>j4 0 a=a) (by decide) ha
 · exact f4 (P:=λa=>j4 a 0=a) (by decide) ha
 · have:∀a ∈ ([0,1,2,3]:List Int),∀b ∈ ([0,1,2,3]:List Int),∀c ∈ ([0,1,2,3]:List Int),j4 (j4 a b) c=j4 a (j4 b c):=by decide
   refine f4 (P:=λa=>j4 (j4 a b) c=j4 a (j4 b c)) (λa m=>f4 (P:=λb=>j4 (j4 a b) c=j4 a (j4 b c)) (λb m'=>f4 (P:=λc=>j4 (j4 a b) c=j4 a (j4 b c)) (this a m b m') hc) hb) ha
theorem ldS{n m:Nat}{g x0 x1:Int}(hn:0<n)(hm:0<m)(g0:0<g)(gn:g ∣ n)(gm:g ∣ m):LD n m (jS n) 0 (λc a=>(a*x0+c*((n:Int)/g)*x1)%n):=by
 refine⟨λc a _ _=>ziT hn,by simp,λa i b k _ _ _ _=>?_⟩
 obtain⟨t,ht⟩:=gm
 have h:(m:Int)*((n:Int)/g)=n*t:=by
  obtain⟨s,hs⟩:=gn
  rw[hs,Int.mul_ediv_cancel_left _ (by omega),ht];grind
 show(_:Int)=jS n _ _
 unfold jS
 rw[<-Int.add_emod]
 generalize (n:Int)/g=st at h
 rw[Int.emod_def (i+k) m,Int.emod_def (a+b) n]
 generalize (i+k)/(m:Int)=q
 generalize (a+b)/(n:Int)=p
 rw[show((a+b)-(n:Int)*p)*x0+((i+k)-(m:Int)*q)*st*x1=(a*x0+i*st*x1+(b*x0+k*st*x1))+(n:Int)*(-(p*x0)-t*q*x1) by grind,Int.add_mul_emod_self_left]
theorem ldM{n m:Nat}{r:Int->Int}(hm:0<m)(h0:r 0=0)(hc:∀a,InR n a->InR n (r a))(hr:∀a b,InR n a->InR n b->a<=b->r a<=r b):LD n m jM 0 (λ_ a=>r a):=by
 refine⟨λc a _ ha=>hc a ha,h0,λa i b k ha _ hb _=>?_⟩
 show r (jM a b)=jM (r a) (r b)
 unfold jM
 have h1:=hr a b ha hb
 have h2:=hr b a hb ha
 split<;>split<;>grind
theorem ldL{n m:Nat}{r:Int->Int}(h0:r 0=0)(hc:∀a,InR n a->InR n (r a))(hr:∀a,InR n a->a≠0->r a≠0):LD n m jL 0 (λ_ a=>r a):=by
 refine⟨λc a _ ha=>hc a ha,h0,λa i b k ha _ hb _=>?_⟩
 show r (jL a b)=jL (r a) (r b)
 unfold jL
 have h2:=hr b hb
 split<;>split<;>grind
theorem ldF{n m:Nat}{r:Int->Int}(h0:r 0=0)(hc:∀a,InR n a->InR n (r a))(hr:∀a,InR n a->a≠0->r a≠0):LD n m jF 0 (λ_ a=>r a):=by
 refine⟨λc a _ ha=>hc a ha,h0,λa i b k ha _ hb _=>?_⟩
 show r (jF a b)=jF (r a) (r b)
 unfold jF
 have h2:=hr a ha
 split<;>split<;>grind
theorem ld4{m:Nat}{r:Int->Int}(h:(∀a,InR 4 a->r a=a)\/(∀a,InR 4 a->r a=(if a=2 then 3 else if a=3 then 2 else a))):LD 4 m j4 0 (λ_ a=>r a):=by
 rcases h with h|h
 · refine⟨λc a _ ha=>by show InR 4 (r a);rw[h a ha];exact ha,h 0 ⟨by decide,by decide⟩,λa i b k ha _ hb _=>?_⟩
   show r (j4 a b)=j4 (r a) (r b)
   rw[h a ha,h b hb,h _ (lj4.cl a b ha hb)]
 · refine⟨λc a _ ha=>by show InR 4 (r a);rw[h a ha];exact f4 (P:=λa=>InR 4 (if a=2 then 3 else if a=3 then 2 else a)) (by decide) ha,h 0 ⟨by decide,by decide⟩,λa i b k ha _ hb _=>?_⟩
   show r (j4 a b)=j4 (r a) (r b)
   rw[h a ha,h b hb,h _ (lj4.cl a b ha hb)]
   have:∀a ∈ ([0,1,2,3]:List Int),∀b ∈ ([0,1,2,3]:List Int),(if j4 a b=2 then 3 else if j4 a b=3 then 2 else j4 a b)=j4 (if a=2 then 3 else if a=3 then 2 else a) (if b=2 then 3 else if b=3 then 2 else b):=by decide
   exact f4 (P:=λa=>(if j4 a b=2 then 3 else if j4 a b=3 then 2 else j4 a b)=j4 (if a=2 then 3 else if a=3 then 2 else a) (if b=2 then 3 else if b=3 then 2 else b)) (λa m=>f4 (P:=λb=>(if j4 a b=2 then 3 else if j4 a b=3 then 2 else j4 a b)=j4 (if a=2 then 3 else if a=3 then 2 else a) (if b=2 then 3 else if b=3 then 2 else b)) (this a m) hb) ha
theorem zog{n1 n2:Nat}{x y:Int}(hx:InR n1 x)(hy:InR n2 y):InR (n1*n2) (x*n2+y):=by
 have h1:0<=x*n2:=Int.mul_nonneg hx.1 (by omega)
 have h2:x*n2<=((n1:Int)-1)*n2:=Int.mul_le_mul_of_nonneg_right (by have:=hx.2;omega) (by omega)
 rw[Int.sub_mul,Int.one_mul]at h2
 refine⟨by have:=hy.1;omega, ?_⟩
 rw[zzT]
 have:=hy.2
 omega
theorem yP{n1 n2:Nat}{p:Int}(h2:0<n2)(h:InR (n1*n2) p):InR n1 (p/n2)/\InR n2 (p%n2):=
 ⟨⟨Int.ediv_nonneg h.1 (by omega),Int.ediv_lt_of_lt_mul (by omega) (by have:=h.2;rw[zzT]at this;exact this)⟩,ziT h2⟩
theorem zhA{n2:Nat}{x y:Int}(hy:InR n2 y):(x*n2+y)/n2=x/\(x*n2+y)%n2=y:=by
 have h0:(n2:Int)≠0:=by have:=hy.1;have:=hy.2;omega
 constructor
 · rw[Int.add_comm,Int.add_mul_ediv_right _ _ h0,Int.ediv_eq_zero_of_lt hy.1 hy.2,Int.zero_add]
 · rw[Int.add_comm,Int.add_mul_emod_self_right,Int.emod_eq_of_lt hy.1 hy.2]
theorem zvM{n2:Nat}{p:Int}:(p/n2)*n2+p%n2=p:=by rw[Int.mul_comm];exact Int.mul_ediv_add_emod p n2
def jB(n2:Nat)(j1 j2:Int->Int->Int)(p q:Int):Int:=j1 (p/n2) (q/n2)*n2+j2 (p%n2) (q%n2)
def dB(n2:Nat)(d1 d2:Int->Int->Int)(c p:Int):Int:=d1 c (p/n2)*n2+d2 c (p%n2)
theorem ljB{n1 n2:Nat}{j1 j2:Int->Int->Int}(h1:LJ n1 j1 0)(h2:LJ n2 j2 0)(p2:0<n2):LJ (n1*n2) (jB n2 j1 j2) 0:=by
 refine⟨λa b ha hb=>?_, ?_,λa ha=>?_,λa ha=>?_,λa b c ha hb hc=>?_⟩
 · exact zog (h1.cl _ _ (yP p2 ha).1 (yP p2 hb).1) (h2.cl _ _ (yP p2 ha).2 (yP p2 hb).2)
 · have:=zog h1.ce h2.ce
   simpa using this
 · unfold jB
   rw[Int.zero_ediv,Int.zero_emod,h1.ul _ (yP p2 ha).1,h2.ul _ (yP p2 ha).2,zvM]
 · unfold jB
   rw[Int.zero_ediv,Int.zero_emod,h1.ur _ (yP p2 ha).1,h2.ur _ (yP p2 ha).2,zvM]
 · unfold jB
   rw[(zhA (h2.cl _ _ (yP p2 ha).2 (yP p2 hb).2)).1,(zhA (h2.cl _ _ (yP p2 ha).2 (yP p2 hb).2)).2,(zhA (h2.cl _ _ (yP p2 hb).2 (yP p2 hc).2)).1,(zhA (h2.cl _ _ (yP p2 hb).2 (yP p2 hc).2)).2,h1.as _ _ _ (yP p2 ha).1 (yP p2 hb).1 (yP p2 hc).1,h2.as _ _ _ (yP p2 ha).2 (yP p2 hb).2 (yP p2 hc).2]
theorem ldB{n1 n2 m:Nat}{j1 j2 d1 d2:Int->Int->Int}(h1:LJ n1 j1 0)(h2:LJ n2 j2 0)(p2:0<n2)(e1:LD n1 m j1 0 d1)(e2:LD n2 m j2 0 d2):LD (n1*n2) m (jB n2 j1 j2) 0 (dB n2 d1 d2):=by
 refine⟨λc a hc ha=>zog (e1.cl _ _ hc (yP p2 ha).1) (e2.cl _ _ hc (yP p2 ha).2), ?_,λa i b k ha hi hb hk=>?_⟩
 · unfold dB
   rw[Int.zero_ediv,Int.zero_emod,e1.em,e2.em,Int.zero_mul,Int.add_zero]
 · unfold jB dB
   rw[(zhA (h2.cl _ _ (yP p2 ha).2 (yP p2 hb).2)).1,(zhA (h2.cl _ _ (yP p2 ha).2 (yP p2 hb).2)).2,(zhA (e2.cl i _ hi (yP p2 ha).2)).1,(zhA (e2.cl i _ hi (yP p2 ha).2)).2,(zhA (e2.cl k _ hk (yP p2 hb).2)).1,(zhA (e2.cl k _ hk (yP p2 hb).2)).2,e1.dn _ _ _ _ (yP p2 ha).1 hi (yP p2 hb).1 hk,e2.dn _ _ _ _ (yP p2 ha).2 hi (yP p2 hb).2 hk]
theorem ljT{n:Nat}{j:Int->Int->Int}{F B:Int->Int}(h:LJ n j 0)(hF:∀a,InR n a->InR n (F a))(hB:∀a,InR n a->InR n (B a))(hFB:∀a,InR n a->F (B a)=a)(hBF:∀a,InR n a->B (F a)=a):LJ n (λa b=>F (j (B a) (B b))) (F 0):=by
 refine⟨λa b ha hb=>hF _ (h.cl _ _ (hB a ha) (hB b hb)),hF 0 h.ce,λa ha=>?_,λa ha=>?_,λa b c ha hb hc=>?_⟩
 · show F (j (B (F 0)) (B a))=a
   rw[hBF 0 h.ce,h.ul _ (hB a ha),hFB a ha]
 · show F (j (B a) (B (F 0)))=a
   rw[hBF 0 h.ce,h.ur _ (hB a ha),hFB a ha]
 · show F (j (B (F (j (B a) (B b)))) (B c))=F (j (B a) (B (F (j (B b) (B c)))))
   rw[hBF _ (h.cl _ _ (hB a ha) (hB b hb)),hBF _ (h.cl _ _ (hB b hb) (hB c hc)),h.as _ _ _ (hB a ha) (hB b hb) (hB c hc)]
theorem ldT{n m:Nat}{j d:Int->Int->Int}{F B:Int->Int}(hm:0<m)(h:LJ n j 0)(e:LD n m j 0 d)(hF:∀a,InR n a->InR n (F a))(hB:∀a,InR n a->InR n (B a))(hFB:∀a,InR n a->F (B a)=a)(hBF:∀a,InR n a->B (F a)=a):LD n m (λa b=>F (j (B a) (B b))) (F 0) (λc a=>F (d c (B a))):=by
 refine⟨λc a hc ha=>hF _ (e.cl _ _ hc (hB a ha)), ?_,λa i b k ha hi hb hk=>?_⟩
 · show F (d 0 (B (F 0)))=F 0
   rw[hBF 0 h.ce,e.em]
 · show F (d ((i+k)%m) (B (F (j (B a) (B b)))))=F (j (B (F (d i (B a)))) (B (F (d k (B b)))))
   rw[hBF _ (h.cl _ _ (hB a ha) (hB b hb)),hBF _ (e.cl _ _ hi (hB a ha)),hBF _ (e.cl _ _ hk (hB b hb)),e.dn _ _ _ _ (hB a ha) hi (hB b hb) hk]
theorem leN{n k:Nat}(h:n<=8)(hk:8<=k:=by decide):n<=k:=zzM h hk
theorem np1{n:Nat}(h:1<=n):(0:Int)<n:=Int.natCast_pos.mpr h
theorem nq1{n:Nat}(h:1<=n):0<n:=h
theorem nq2{n:Nat}(h:2<=n):0<n:=zzM (by decide) h
theorem stL{x k:Int}(h:0<=x/\x<k) : -(10 ^ 200:Int)<x:=Int.lt_of_lt_of_le (by decide) h.1
theorem stU{x:Int}(h:0<=x/\x<2147483399):x<10 ^ 200:=Int.lt_trans h.2 (by decide)
theorem lnK{l i m:Nat}(h:m<=8)(e:l=0+i)(hi:i<m):l<1000:=by rw[e,zyW];exact zzI hi (zzM h (by decide))
theorem zi1(i:Nat):0+i+1=i+1:=by rw[zyW]
theorem lnE{l m:Nat}(h:l=0+m):l=m:=by rw[h,zyW]
theorem ltL{l k:Nat}{a:Int}(h:l=k)(hk:a<(k:Int):=by decide):a<(l:Int):=h ▸ hk
theorem tS{a:Int}{n:Nat}(h0:0<=a)(h1:a<n):a.toNat<n:=Int.ofNat_lt.mp (by rw[zyX h0];exact h1)
theorem b6{n:Nat}(h:n<=6):(n:Int)<10 ^ 200:=Int.lt_of_le_of_lt (Int.ofNat_le.mpr h) (by decide)
theorem bgU{n:Nat}(h:n<=8):(n:Int)<10 ^ 200:=Int.lt_of_le_of_lt (Int.ofNat_le.mpr h) (by decide)
theorem bgL(n:Nat) : -(10 ^ 200:Int)<n:=Int.lt_of_lt_of_le (by decide) (Int.natCast_nonneg n)
theorem mU{n:Nat}{k:Int}(h:n<=8)(hk:8<k:=by decide):(n:Int)<k:=Int.lt_of_le_of_lt (Int.ofNat_le.mpr h) hk
theorem iT{n:Nat}{x:Int}(h:InR n x):x.toNat<n:=Int.ofNat_lt.mp (by rw[zyX h.1];exact h.2)
theorem iC{n:Nat}{x:Int}(h:InR n x):((x.toNat:Nat):Int)=x:=zyX h.1
theorem zI(i:Nat):(0:Int)<=0+i:=by rw[Int.zero_add];exact Int.natCast_nonneg i
theorem bL0{x:Int}(h:0<=x) : -(10 ^ 200:Int)<x:=Int.lt_of_lt_of_le (by decide) h
theorem bU0{x:Int}{n:Nat}(h:x<(n:Int))(hn:n<=8):x<10 ^ 200:=Int.lt_trans h (bgU hn)
def rAt(r:List Int)(v:Int):Int:=(r[v.toNat]?).getD 0
def jAt(J:List (List Int))(w v:Int):Int:=rAt ((J[w.toNat]?).getD []) v
def jn(J:List (List Int))(e:Int):List Int->Int
 | []=>e
 |x::t=>t.foldl (jAt J) x
open PySem PySem.Spec PyProof.Rows L2 PF
local macro_rules | `(tactic| trivial)=>`(tactic| first|with_reducible first|assumption|exact Int.natCast_nonneg _|exact Nat.le_refl _|exact Int.le_refl _|exact rfl|exact leN (by assumption)|exact np1 (by assumption)|exact np2 (by assumption)|exact nq1 (by assumption)|exact nq2 (by assumption)|exact Int.natCast_pos.mpr (by assumption)|exact Nat.le_trans (by assumption) (by decide)|exact bgL _|exact bgU (by assumption)|exact mU (by assumption)|exact zI _|exact bL0 (by assumption)|exact bU0 (by assumption) (by assumption)|exact iL (by assumption)|exact iU (by assumption) (by assumption)|exact iC (by assumption)|exact iT (by assumption)|exact stL (by assumption)|exact stU (by assumption)|exact lnK (by assumption) (by assumption) (by assumption)|exact zi1 _|exact lnE (by assumption)|exact ltL (by assumption)|exact Int.toNat_of_nonneg (by assumption)|exact tS (by assumption) (by assumption)|exact b6 (by assumption)|exact Int.emod_nonneg _ (by decide)|exact Int.emod_lt_of_pos _ (by decide)|decide|omega)
abbrev lfI(x:Int):O:=.lf true (.int x)
abbrev sI(x:Int):Option O:=some (lfI x)
abbrev sT(d:D):Option O:=some (.lf true d)
abbrev sN(os:List O):Option O:=some (.nd .ls os)
abbrev TZ:Type:=List (List Int)
abbrev DZ:Type:=List (Str×TZ)
abbrev SS:Type:=List (Str×List Int)
theorem W4{f:EF}{as as1:AS}{o:O}(h:f as=some (.ow o,as1))(hs:o.str=true):yE f as=some (.rt o):=by
 unfold yE;rw[h]
 show((if o.str=true then some o else none).bind _)=_
 rw[if_pos hs];rfl
theorem szs{n:Nat}(h:n<=1000000):n<=sizeLine:=zzM h (by decide)
theorem vO:∀xs:List Int,(xs.map lfI).all O.isLf=true/\O.strs (xs.map lfI)=true/\O.toDs (xs.map lfI)=xs.map D.int
 | []=>⟨rfl,rfl,rfl⟩
 |x::r=>⟨(vO r).1,(vO r).2.1,congrArg (D.int x :: ·) (vO r).2.2⟩
theorem ziU(xs:List Int):(xs.map D.int).map (O.lf true)=xs.map lfI:=by rw[zzZ];rfl
theorem zuc{as:AS}{i:Nat}{os:List O}{fl fh:OF}{lo hi:Option Int}(h:as[i]? = some (sN os))(hl:os.all O.isLf=true)(hs:O.strs os=true)(h1:fl as=some (lo,as))(h2:fh as=some (hi,as)):
 fSl (fV i) fl fh slP as=some (.ow (.nd .ls ((cutD (O.toDs os) lo hi).map (O.lf true))),as):=by
 unfold fSl
 rw[zgS h];show((fl as).bind _)=_
 rw[h1];show((fh as).bind _)=_
 rw[h2];show((RV.view as (.bo i)).bind _)=_
 rw[zfw h]
 have e:(O.nd .ls os).kl=some true:=by simp only[O.kl,hl,if_true,hs]
 rw[e]
 show(wrap (some true) (.fl (cutD (O.toDs os) lo hi))).bind _=_
 show(if((cutD (O.toDs os) lo hi).all yu||true)=true then some (RV.ow (.nd .ls ((cutD (O.toDs os) lo hi).map (lfs true))))else none:Option RV).bind _=_
 rw[if_pos (by simp),Vs];rfl
theorem znR{x:D}{xs:List D}:cutD (x::xs) (some 1) none=xs:=by
 have:=zfQ (xs:=[x]) (ys:=xs)
 have e:slP (.lst ([x]++xs)) (some (([x]:List D).length:Int)) none=some (.fl (cutD (x::xs) (some 1) none)):=rfl
 rw[e]at this
 injection this with this
 injection this
abbrev stB:SF:=(zB (zO true 3 (f2 (f2 (f2 (f2 zV zV zU) (f2 (fC (.int 48271)) zV zU) zE) yD zE) (fC (.int 2147483647)) zA))
 (xx (vf 2 (dC (f2 (f2 (f2 zV (fC (.int 40692)) zU) (f2 (fC (.int 7)) yD zU) zE) (fC (.int 2147483399)) zA) dN) vM)))
theorem zlb(ys:List Int)(w:Int):(ys++[w]).map lfI=ys.map lfI++[O.lf true (.int w)]:=by rw[zyK];rfl
theorem zfK{A B:Option O}:∀(n:Nat) (k x:Int) (ys:List Int) (e4:Option O),0<=k->k+n<=1000->0<=x->x<2 ^ 40->ys.length+n<=1000->(∀y ∈ ys,0<=y/\y<2147483399)->∃(x':Int) (zs:List Int) (e4':Option O),zs.length=ys.length+n/\(∀z ∈ zs,0<=z/\z<2147483399)/\
 forL V8 stB (vN k n) [A,B,sN (ys.map lfI),sI x,e4]=some (.nx [A,B,sN (zs.map lfI),sI x',e4'])
 |0,k,x,ys,e4,_,_,_,_,_,h=>⟨x,ys,e4,rfl,h,rfl⟩
 |n+1,k,x,ys,e4,hk,hkn,hx0,hx1,hl,h=>by
  have y0:=zyL (x*x+48271*x+k) (show(2147483647:Int)≠0 by decide)
  have y1:=zyF (x*x+48271*x+k) (show(0:Int)<2147483647 by decide)
  have w0:=zyL ((x*x+48271*x+k)%2147483647*40692+7*k) (show(2147483399:Int)≠0 by decide)
  have w1:=zyF ((x*x+48271*x+k)%2147483647*40692+7*k) (show(0:Int)<2147483399 by decide)
  obtain⟨x',zs,e4',h1,h2,h3⟩:=zfK (A:=A) (B:=B) n (k+1) ((x*x+48271*x+k)%2147483647) (ys++[((x*x+48271*x+k)%2147483647*40692+7*k)%2147483399]) (sI k) (by trivial) (by trivial) y0 (Int.lt_trans y1 (by decide)) (by rw[zzH];show ys.length+1+n<=_;trivial) (λz m=>by
   rcases zzK.mp m with m|m
   · exact h z m
   · rw[zzP.mp m];exact⟨w0,w1⟩)
  refine⟨x',zs,e4',by rw[h1,zzH];show ys.length+1+n=_;trivial,h2, ?_⟩
  rw[zlb]at h3
  rw[zdP]
  have bx:x.natAbs<big:=ye (Int.lt_of_lt_of_le (by decide) hx0) (Int.lt_trans hx1 (by decide))
  have bk:k.natAbs<big:=ye (by trivial) (by trivial)
  exact Yk (as1:=[A,B,sN (ys.map lfI),sI x,sI k]) rfl (yC (yz (i:=3) (yg (xr (xr (vK (za rfl) (za rfl) bx bx) (vK zb (za rfl) (ye (by decide) (by decide)) bx)) (za rfl)) zb (by decide)) (zy rfl))
   (zub (i:=2) rfl (by rw[zD];exact ZW (by trivial)) (yg (xr (vK (za rfl) zb (ye (Int.lt_of_lt_of_le (by decide) y0) (Int.lt_trans y1 (by decide))) (ye (by decide) (by decide))) (vK zb (za rfl) (ye (by decide) (by decide)) bk)) zb (by decide)))) h3
theorem znN{s:Bool}{c m:Int}(h0:0<=m)(h1:m<=900):∃xs:List Int,(xs.length:Int)=m/\(∀x ∈ xs,0<=x/\x<2147483399)/\zT [(true,.int c),(true,.int m)]=sN (xs.map lfI):=by
 have y0:=zyL c (show(2147483647:Int)≠0 by decide)
 have y1:=zyF c (show(0:Int)<2147483647 by decide)
 obtain⟨x',zs,e4,z1,z2,hf⟩:=zfK (A:=sI c) (B:=sI m) (m+1).toNat 0 (c%2147483647+48271) [] none (by trivial) (by trivial) (by trivial) (by trivial) (by show 0+_<=_;trivial) (λ_ m=>nomatch m)
 cases zs with
 |nil=>rw[List.length_nil]at z1;simp at z1;trivial
 |cons z r=>
  refine⟨r,by rw[zzR]at z1;simp at z1;trivial,λx hx=>z2 x (zzB _ hx), ?_⟩
  obtain⟨i1,i2,i3⟩:=vO (z::r)
  have hs:=zuc (as:=[sI c,sI m,sN ((z::r).map lfI),sI x',e4]) (i:=2) (fl:=oS yp) (fh:=oN) (lo:=some 1) (hi:=none) rfl i1 i2 rfl rfl
  rw[i3]at hs
  have hc:cutD ((z::r).map D.int) (some 1) none=r.map D.int:=znR
  rw[hc,ziU]at hs
  refine zbC rfl (yC (wY (i:=2) (Zx ym (szl rfl)) (zy rfl)) (yC (yz (i:=3) (xr (yg (za rfl) zb (by decide)) zb) (zy rfl)) (yC (wV (wZ (zx (xr (za rfl) zb) zR) (by trivial) (by trivial)) hf) ?_)))
  exact W4 hs (vO r).2.1
theorem VP(xs:List Int):(O.nd .ls (xs.map lfI)).str=true/\(O.nd .ls (xs.map lfI)).toD = .lst (xs.map D.int):=⟨(vO xs).2.1,congrArg D.lst (vO xs).2.2⟩
abbrev YD(r:List Int):O:=.nd .ls (r.map lfI)
abbrev zc(r:List Int):D:=.lst (r.map D.int)
theorem zbb:∀T:TZ,O.strs (T.map YD)=true/\O.toDs (T.map YD)=T.map zc
 | []=>⟨rfl,rfl⟩
 |r::T=>⟨by show(O.strs (r.map lfI)&&O.strs (T.map YD))=true;rw[(vO r).2.1,(zbb T).1];rfl,by
  show D.lst (O.toDs (r.map lfI))::O.toDs (T.map YD)=_
  rw[(vO r).2.2,(zbb T).2];rfl⟩
theorem zcT{g:GF}{fe:EF}{as0 as1:AS}{y:It1}{r:List It1}{o:O}{os:List O}(h1:g y as0=some as1)(h2:fe as1=some (.ow o,as1))(hs:o.str=true)(h3:wD g yf fe as0 r=some os):wD g yf fe as0 (y::r)=some (o::os):=by
 unfold wD
 rw[h1];show((fe as1).bind _)=_
 rw[h2];show(if o.str=true then _ else _)=_
 rw[if_pos hs,h3];rfl
theorem xZ:∀(n:Nat) (k:Int),(vN k n).length=n
 |0,_=>rfl
 |n+1,k=>by rw[zdP];exact congrArg (· + 1) (xZ n (k+1))
theorem Zj{f:D->D->Option Bool}:∀{xs:List D},(∀x ∈ xs,f x x=some true)->eqL f xs xs=some true
 | [],_=>rfl
 |x::r,h=>by
  show(f x x).bind _=_
  rw[h x (zzD),zyJ,Zj (xs:=r) λy m=>h y (zzB _ m)];rfl
theorem ztX{r:List Int}:eqF 60 (zc r) (zc r)=some true:=by
 show eqL (eqF 59) (r.map D.int) (r.map D.int)=_
 refine Zj λx m=>?_
 obtain⟨i,_,rfl⟩:=zxC.mp m
 show some (i==i)=_
 simp
theorem zfx:∀{n:Nat}{k:Int}{y:It1},y ∈ vN k n->∃b:Int,y=(true,.int b)/\k<=b/\b<k+n
 |0,_,_,h=>nomatch h
 |n+1,k,y,h=>by
  rw[zdP]at h
  rcases zzA.mp h with rfl|h
  · exact⟨k,rfl,by trivial,by trivial⟩
  · obtain⟨b,e,h1,h2⟩:=zfx h
    exact⟨b,e,by trivial,by trivial⟩
theorem zhT{α:Type}(toD:α->D){Q:α->Prop}{g:GF}{fe:EF}{as0:AS}:∀{xs:List It1},(∀y ∈ xs,∃as1 a,g y as0=some as1/\WE fe as1 (toD a)/\Q a)->∃(os:List O) (l:List α),wD g yf fe as0 xs=some os/\O.strs os=true/\O.toDs os=l.map toD/\l.length=xs.length/\∀a ∈ l,Q a
 | [],_=>⟨[],[],rfl,rfl,rfl,rfl,λ_ m=>nomatch m⟩
 |y::xs,H=>by
  obtain⟨as1,a,h1,⟨o,h2,h3,h4⟩,h5⟩:=H y (zzD ..)
  obtain⟨os,l,a1,a2,a3,a4,a5⟩:=zhT toD (Q:=Q) (g:=g) (fe:=fe) (as0:=as0) (xs:=xs) λz m=>H z (zzB _ m)
  refine⟨o::os,a::l,zcT h1 h2 h3 a1,by show(o.str&&O.strs os)=true;rw[h3,a2];rfl,by show o.toD::O.toDs os=_;rw[h4,a3];rfl,congrArg (· + 1) a4,λb m=>?_⟩
  rcases zzA.mp m with rfl|m
  · exact h5
  · exact a5 b m
theorem zfz{α:Type}(toD:α->D){Q:α->Prop}{fi:IF}{cap:List (Option Nat)}{g:GF}{fe:EF}{as:AS}{xs:List It1}(h1:fi as=some (xs,as))(hl:xs.length<=1000)(H:∀y ∈ xs,∃as1 a,g y (ZQ cap as)=some as1/\WE fe as1 (toD a)/\Q a):
 ∃l:List α,l.length=xs.length/\(∀a ∈ l,Q a)/\WE (zL fi cap g yf fe) as (.lst (l.map toD)):=by
 obtain⟨os,l,a1,a2,a3,a4,a5⟩:=zhT toD H
 exact⟨l,a4,a5,_,Wj h1 (szs (by trivial)) a1,a2,congrArg D.lst a3⟩
theorem zgH{α:Type}(toD:α->D){Q:α->Prop}{fr:AF}{cap:List (Option Nat)}{fe:EF}{as:AS}{n:Nat}{u:Bool}(h1:WA fr as [(u,.int n)])(hl:n<=1000)(H:∀b:Int,0<=b->b<n->∃as1 a,gN 0 (true,.int b) (ZQ cap as)=some as1/\WE fe as1 (toD a)/\Q a):
 ∃l:List α,l.length=n/\(∀a ∈ l,Q a)/\WE (zL (yJ fr yK) cap yh yf fe) as (.lst (l.map toD)):=by
 obtain⟨l,a1,a2,a3⟩:=zfz toD (Q:=Q) (cap:=cap) (g:=gN 0) (fe:=fe) (wZ h1 (by trivial) (by trivial)) (by rw[xZ];trivial) (λy m=>by
  obtain⟨b,rfl,h0,h2⟩:=zfx m
  exact H b h0 (by trivial))
 rw[xZ]at a1
 exact⟨l,by trivial,a2,a3⟩
theorem zqb{f:EF}{as:AS}{x:D}(h:WE f as x):∃o,yE f as=some (.rt o)/\o.str=true/\o.toD=x:=by
 obtain⟨o,h1,h2,h3⟩:=h
 exact⟨o,W4 h1 h2,h2,h3⟩
theorem yW{n m:Nat}{c:SF}{ds:List (Bool×D)}{x:D}(hl:ds.length=m)(h:∃o,c (W8 n ds)=some (.rt o)/\o.str=true/\o.toD=x):RE (fnR n m c ds) x:=by
 obtain⟨o,h1,h2,h3⟩:=h
 exact⟨o,zbC hl h1,h2,h3⟩
abbrev Rt(r:Option Out)(x:D):Prop:=∃o,r=some (.rt o)/\o.str=true/\o.toD=x
theorem zg{f g:SF}{as as1:AS}{x:D}(h1:f as=some (.nx as1))(h2:Rt (g as1) x):Rt (zB f g as) x:=by
 obtain⟨o,a,b,c⟩:=h2
 exact⟨o,yC h1 a,b,c⟩
theorem vB{f g:SF}{as:AS}{x:D}(h1:Rt (f as) x):Rt (zB f g as) x:=by
 obtain⟨o,a,b,c⟩:=h1
 exact⟨o,zcN a,b,c⟩
theorem Zm{c:TF}{f g:SF}{as:AS}{x:D}(h:WT c as true)(h1:Rt (f as) x):Rt (sIf c f g as) x:=by
 obtain⟨o,a,b,d⟩:=h1
 exact⟨o,Yh h a,b,d⟩
theorem yR{f:EF}{as:AS}{x:D}(h:WE f as x):Rt (yE f as) x:=zqb h
def Row(n:Nat)(r:List Int):Prop:=r.length=n/\∀x ∈ r,0<=x/\x<(n:Int)
def Tab(k n:Nat)(T:TZ):Prop:=T.length=k/\∀r ∈ T,Row n r
abbrev zF(T:TZ):D:=.lst (T.map zc)
theorem zfW{r:List Int}{P:Int->Prop}{k:Int}(h0:0<=k)(h1:k<r.length)(hp:∀x ∈ r,P x):∃x,ixP (zc r) (.int k)=some (.im (.int x))/\P x:=by
 have hk:k.toNat<r.length:=by trivial
 refine⟨r[k.toNat], ?_,hp _ (zyY hk)⟩
 have h:=Xj (xs:=r.map D.int) (j:=k.toNat) (v:=D.int r[k.toNat]) (by rw[zzG,zzC hk];rfl)
 rw[show((k.toNat:Nat):Int)=k by trivial]at h
 show imR (atI _ _)=_
 rw[h];rfl
theorem zua{α:Type}(toD:α->D){T:List α}{P:α->Prop}{k:Int}(h0:0<=k)(h1:k<T.length)(hp:∀r ∈ T,P r):∃r,ixP (.lst (T.map toD)) (.int k)=some (.im (toD r))/\P r:=by
 have hk:k.toNat<T.length:=by trivial
 refine⟨T[k.toNat], ?_,hp _ (zyY hk)⟩
 have h:=Xj (xs:=T.map toD) (j:=k.toNat) (v:=toD T[k.toNat]) (by rw[zzG,zzC hk];rfl)
 rw[show((k.toNat:Nat):Int)=k by trivial]at h
 show imR (atI _ _)=_
 rw[h];rfl
abbrev St(x:Int):Prop:=0<=x/\x<2147483399
theorem stE{a b:EF}{as:AS}{c:Int}{m:Nat}(hm:m<=900)(ha:WE a as (.int c))(hb:WE b as (.int m)):∃xs:List Int,xs.length=m/\(∀x ∈ xs,St x)/\WE (zN (aC a (aC b aN)) zT) as (zc xs):=by
 obtain⟨xs,h1,h2,h3⟩:=znN (s:=true) (c:=c) (m:=m) (by trivial) (by trivial)
 exact⟨xs,by trivial,h2,Y6 ha hb ⟨_,h3,(VP xs).1,(VP xs).2⟩⟩
theorem zeh{α:Type}{f:α->D}{l:List α}{i:Nat}{p:α}(h:l[i]? = some p):ixP (.lst (l.map f)) (.int (i:Int))=some (.im (f p)):=by
 have h:=Xj (xs:=l.map f) (j:=i) (v:=f p) (by rw[zzG,h];rfl)
 show imR (atI _ _)=_
 rw[h];rfl
theorem zul{n k:Nat}{r:List Int}{v:Int}(hl:r.length=k)(hr:∀x ∈ r,InR n x)(hv:InR k v):ixP (zc r) (.int v)=some (.im (.int (rAt r v)))/\InR n (rAt r v):=by
 have hk:v.toNat<r.length:=by rw[hl];have:=hv.1;have:=hv.2;trivial
 have g:=zzC hk
 have e:rAt r v=r[v.toNat]:=by unfold rAt;rw[g];rfl
 rw[e]
 refine⟨?_,hr _ (zyY hk)⟩
 have:=zeh (f:=D.int) g
 rw[show((v.toNat:Nat):Int)=v by have:=hv.1;trivial]at this
 exact this
abbrev zgh(T:TZ)(w:Int):List Int:=(T[w.toNat]?).getD []
theorem ZR{k n:Nat}{T:TZ}{w:Int}(hT:Tab k n T)(hw:InR k w):ixP (zF T) (.int w)=some (.im (zc (zgh T w)))/\Row n (zgh T w):=by
 have hk:w.toNat<T.length:=by rw[hT.1];have:=hw.1;have:=hw.2;trivial
 have g:=zzC hk
 unfold zgh
 rw[g]
 refine⟨?_,hT.2 _ (zyY hk)⟩
 have:=zeh (f:=zc) g
 rw[show((w.toNat:Nat):Int)=w by have:=hw.1;trivial]at this
 exact this
theorem rowAt{n:Nat}{r:List Int}{v:Int}(hr:Row n r)(hv:InR n v):ixP (zc r) (.int v)=some (.im (.int (rAt r v)))/\InR n (rAt r v):=zul hr.1 hr.2 hv
theorem zmL{α:Type}(toD:α->D){Q:Nat->α->Prop}{g:GF}{fe:EF}{as0:AS}:∀{xs:List It1}(k:Nat),(∀i y,xs[i]? = some y->∃as1 a,g y as0=some as1/\WE fe as1 (toD a)/\Q (k+i) a)->∃(os:List O) (l:List α),wD g yf fe as0 xs=some os/\O.strs os=true/\O.toDs os=l.map toD/\l.length=xs.length/\∀i a,l[i]? = some a->Q (k+i) a
 | [],k,_=>⟨[],[],rfl,rfl,rfl,rfl,λi a h=>by simp at h⟩
 |y::xs,k,H=>by
  obtain⟨as1,a,h1,⟨o,h2,h3,h4⟩,h5⟩:=H 0 y rfl
  obtain⟨os,l,a1,a2,a3,a4,a5⟩:=zmL toD (Q:=Q) (g:=g) (fe:=fe) (as0:=as0) (xs:=xs) (k+1) λi z m=>by
   have:=H (i+1) z (by simpa using m)
   rwa [show k+(i+1)=k+1+i by trivial]at this
  refine⟨o::os,a::l,zcT h1 h2 h3 a1,by show(o.str&&O.strs os)=true;rw[h3,a2];rfl,by show o.toD::O.toDs os=_;rw[h4,a3];rfl,congrArg (· + 1) a4,λi b m=>?_⟩
  cases i with
  |zero=>simp at m;subst m;exact h5
  |succ i=>
   have:=a5 i b (by simpa using m)
   rwa [show k+1+i=k+(i+1) by trivial]at this
theorem zhS{α:Type}(toD:α->D){Q:Nat->α->Prop}{fi:IF}{cap:List (Option Nat)}{g:GF}{fe:EF}{as:AS}{xs:List It1}(h1:fi as=some (xs,as))(hl:xs.length<=1000)(H:∀i y,xs[i]? = some y->∃as1 a,g y (ZQ cap as)=some as1/\WE fe as1 (toD a)/\Q i a):
 ∃l:List α,l.length=xs.length/\(∀i a,l[i]? = some a->Q i a)/\WE (zL fi cap g yf fe) as (.lst (l.map toD)):=by
 obtain⟨os,l,a1,a2,a3,a4,a5⟩:=zmL toD (Q:=Q) (g:=g) (fe:=fe) (as0:=ZQ cap as) 0 (λi y h=>by rw[zyW];exact H i y h)
 exact⟨l,a4,(λi a h=>by have:=a5 i a h;rwa [zyW]at this),_,Wj h1 (szs (by trivial)) a1,a2,congrArg D.lst a3⟩
abbrev zbj(N n:Nat)(f:Int->Int)(r:List Int):Prop:=r.length=n/\(∀x ∈ r,InR N x)/\∀b,InR n b->rAt r b=f b
abbrev zdn(k n:Nat)(f:Int->Int->Int)(T:TZ):Prop:=Tab k n T/\∀a b,InR k a->InR n b->jAt T a b=f a b
theorem ziO{N n:Nat}{f:Int->Int}{l:List Int}(hl:l.length=n)(h:∀(i:Nat) a,l[i]? = some a->a=f i/\InR N a):zbj N n f l:=by
 refine⟨hl,λx m=>?_,λb hb=>?_⟩
 · obtain⟨i,hi⟩:=zyT m
   exact(h i x hi).2
 · have hk:b.toNat<l.length:=by rw[hl];have:=hb.1;have:=hb.2;trivial
   have g:=zzC hk
   unfold rAt
   rw[g]
   show l[b.toNat]=_
   rw[(h _ _ g).1,show((b.toNat:Nat):Int)=b by have:=hb.1;trivial]
theorem zbi{k n:Nat}{f:Int->Int->Int}{l:TZ}(hl:l.length=k)(h:∀(i:Nat) r,l[i]? = some r->zbj n n (f i) r):zdn k n f l:=by
 refine⟨⟨hl,λx m=>?_⟩,λa b ha hb=>?_⟩
 · obtain⟨i,hi⟩:=zyT m
   exact⟨(h i x hi).1,(h i x hi).2.1⟩
 · have hk:a.toNat<l.length:=by rw[hl];have:=ha.1;have:=ha.2;trivial
   have g:=zzC hk
   unfold jAt
   rw[g]
   show rAt l[a.toNat] b=_
   have:=(h _ _ g).2.2 b hb
   rw[show((a.toNat:Nat):Int)=a by have:=ha.1;trivial]at this
   exact this
theorem zcU{f:Int->Int}{N:Nat}{fr:AF}{cap:List (Option Nat)}{fe:EF}{as:AS}{n:Nat}{u:Bool}(h1:WA fr as [(u,.int n)])(hl:n<=1000)(H:∀b:Int,InR n b->∃as1,gN 0 (true,.int b) (ZQ cap as)=some as1/\WE fe as1 (.int (f b))/\InR N (f b)):
 ∃r:List Int,zbj N n f r/\WE (zL (yJ fr yK) cap yh yf fe) as (zc r):=by
 obtain⟨l,a1,a2,a3⟩:=zhS D.int (Q:=λi a=>a=f i/\InR N a) (cap:=cap) (g:=gN 0) (fe:=fe) (wZ h1 (by trivial) (by trivial)) (by rw[xZ];trivial) (λi y m=>by
  obtain⟨rfl,hi⟩:=ZF m
  obtain⟨as1,b1,b2,b3⟩:=H (0+i) ⟨by trivial,by trivial⟩
  exact⟨as1,f (0+i),b1,b2,by rw[Int.zero_add],b3⟩)
 rw[xZ]at a1
 exact⟨l,ziO (by trivial) a2,a3⟩
theorem zfy{f:Int->Int->Int}{n:Nat}{fr:AF}{cap:List (Option Nat)}{fe:EF}{as:AS}{k:Nat}{u:Bool}(h1:WA fr as [(u,.int k)])(hl:k<=1000)(H:∀b:Int,InR k b->∃as1 r,gN 0 (true,.int b) (ZQ cap as)=some as1/\WE fe as1 (zc r)/\zbj n n (f b) r):
 ∃T:TZ,zdn k n f T/\WE (zL (yJ fr yK) cap yh yf fe) as (zF T):=by
 obtain⟨l,a1,a2,a3⟩:=zhS zc (Q:=λi r=>zbj n n (f i) r) (cap:=cap) (g:=gN 0) (fe:=fe) (wZ h1 (by trivial) (by trivial)) (by rw[xZ];trivial) (λi y m=>by
  obtain⟨rfl,hi⟩:=ZF m
  obtain⟨as1,r,b1,b2,b3⟩:=H (0+i) ⟨by trivial,by trivial⟩
  rw[Int.zero_add]at b3
  exact⟨as1,r,b1,b2,b3⟩)
 rw[xZ]at a1
 exact⟨l,zbi (by trivial) a2,a3⟩
theorem zlQ:∀(b:Nat) (a:Int) (f:Nat),b<f->0<a->a<1000->b<1000->∃g e,0<g/\g<1000/\g ∣ a/\g ∣ (b:Int)/\whL (fT (f2 zr yF (zY .Gt))) (zoI 0 1 (dC zr (dC (f2 zq zr zA) dN))) f [sI a,sI b]=some (.nx [sI g,e]):=by
 intro b
 induction b using Nat.strongRecOn with
 |ind b ih=>
  intro a f hf ha ha2 hb2
  cases f with
  |zero=>trivial
  |succ f=>
   by_cases hb:b=0
   · subst hb
     exact⟨a,_,ha,ha2,Int.dvd_refl a,Int.dvd_zero a,zlt (yc (zdh (za rfl) zb) rfl)⟩
   · have m0:=zyL a (show(b:Int)≠0 by trivial)
     have m1:=zyF a (show(0:Int)<b by trivial)
     obtain⟨g,e,g0,g1,d1,d2,hg⟩:=ih (a%b).toNat (by trivial) b f (by trivial) (by trivial) (by trivial) (by trivial)
     rw[show(((a%b).toNat:Nat):Int)=a%b by trivial]at hg d2
     refine⟨g,e,g0,g1, ?_,d1,zoJ (yc (zdh (za rfl) zb) (congrArg some (zyM (show(0:Int)<b by trivial)))) (ztT (zp (za rfl) (zp (yg (za rfl) (za rfl) (by trivial)) ym)) (zy rfl) (zy rfl)) hg⟩
     rw[<-Int.mul_ediv_add_emod a b]
     exact Int.dvd_add (Int.dvd_trans d1 (Int.dvd_mul_right _ _)) d2
theorem zlU{n m:Nat}{s t:Bool}(hn:0<n)(hn2:n<=8)(hm:m<=8):∃g:Int,0<g/\g<1000/\g ∣ (n:Int)/\g ∣ (m:Int)/\Zy [(true,.int n),(true,.int m)]=sI g:=by
 obtain⟨g,e,g0,g1,d1,d2,hg⟩:=zlQ m n 10000 (by trivial) (by trivial) (by trivial) (by trivial)
 exact⟨g,g0,g1,d1,d2,zbC rfl (yC hg (zcd (za rfl)))⟩
theorem strs_snoc:∀(os:List O) (o:O),O.strs os=true->o.str=true->O.strs (os++[o])=true
 | [],o,_,h=>by show(o.str&&true)=true;rw[h];rfl
 |p::r,o,h,h'=>by
  have h:=(zyA _ _).mp (show(p.str&&O.strs r)=true from h)
  show(p.str&&O.strs (r++[o]))=true
  rw[h.1,strs_snoc r o h.2 h'];rfl
theorem zem:∀(os:List O) (o:O),O.toDs (os++[o])=O.toDs os++[o.toD]
 | [],o=>rfl
 |p::r,o=>congrArg (p.toD :: ·) (zem r o)
structure Ows{α:Type}(toD:α->D)(Q:α->Prop)(os:List O)(l:List α):Prop where
 st:O.strs os=true
 ds:O.toDs os=l.map toD
 al:∀a ∈ l,Q a
 ln:os.length=l.length
theorem Ows.nil{α:Type}{toD:α->D}{Q:α->Prop}:Ows toD Q [] []:=⟨rfl,rfl,(λ_ m=>nomatch m),rfl⟩
theorem Ows.snoc{α:Type}{toD:α->D}{Q:α->Prop}{os:List O}{l:List α}{o:O}{a:α}(h:Ows toD Q os l)(h1:o.str=true)(h2:o.toD=toD a)(h3:Q a):Ows toD Q (os++[o]) (l++[a]):=
 ⟨strs_snoc os o h.st h1,(by rw[zem,h.ds,h2,zyK];rfl),(λb m=>(zzK.mp m).elim (h.al b) λm=>(by rw[zzP.mp m];exact h3)),(by rw[zzH,zzH,h.ln];rfl)⟩
theorem zjs{as as1:AS}{a:EF}{i:Nat}{os0 os:List O}{o:O}(h:as[i]? = some (sN os0))(ha:a as=some (.ow o,as1))(h1:as1[i]? = some (sN os))(hl:os.length<sizeLine):xx (vf i (dC a dN) vM) as=some (.nx (as1.set i (sN (os++[o])))):=by
 unfold xx vf;rw[h]
 have e:dC a dN as=some ([o],as1):=xT ha rfl
 show((dC a dN as).bind _).bind _=_
 rw[e];show(Option.bind (match as1[i]? with|some (some (.nd .ls os))=>_|_=>none) _)=_
 rw[h1];show((vM os [o]).bind _).bind _=_
 have e2:vM os [o]=some (os++[o],.lf true .non):=by unfold vM;exact if_pos hl
 rw[e2];rfl
theorem zoz{α:Type}{toD:α->D}{Q:α->Prop}{as:AS}{a:EF}{i:Nat}{os:List O}{l:List α}{x:α}(h:as[i]? = some (sN os))(ho:Ows toD Q os l)(hl:l.length<1000)(ha:WE a as (toD x))(hx:Q x):
 ∃os',Ows toD Q os' (l++[x])/\xx (vf i (dC a dN) vM) as=some (.nx (as.set i (sN os'))):=by
 obtain⟨o,h1,h2,h3⟩:=ha
 exact⟨os++[o],ho.snoc h2 h3 hx,zjs h h1 h (by rw[ho.ln];exact ZW (by trivial))⟩
theorem Ows.retB{α:Type}{toD:α->D}{Q:α->Prop}{as:AS}{i:Nat}{os:List O}{l:List α}(h:as[i]? = some (sN os))(ho:Ows toD Q os l):Rt (yE (fV i) as) (.lst (l.map toD)):=
 ⟨_,zmV h ho.st,ho.st,congrArg D.lst ho.ds⟩
theorem at2{xs:List Int}(h:∀x ∈ xs,St x){k:Int}(h0:0<=k)(h1:k<xs.length):∃x,ixP (zc xs) (.int k)=some (.im (.int x))/\St x:=zfW h0 h1 h
theorem Za{x:Int}{n:Nat}(hn:0<n):0<=x%n/\x%n<(n:Int):=⟨zyL _ (by trivial),zyF _ (by trivial)⟩
structure OwsX{α:Type}(toD:α->D)(Q:Nat->α->Prop)(os:List O)(l:List α):Prop where
 st:O.strs os=true
 ds:O.toDs os=l.map toD
 al:∀i a,l[i]? = some a->Q i a
 ln:os.length=l.length
theorem OwsX.nil{α:Type}{toD:α->D}{Q:Nat->α->Prop}:OwsX toD Q [] []:=⟨rfl,rfl,(λi a h=>by simp at h),rfl⟩
theorem OwsX.snoc{α:Type}{toD:α->D}{Q:Nat->α->Prop}{os:List O}{l:List α}{o:O}{a:α}(h:OwsX toD Q os l)(h1:o.str=true)(h2:o.toD=toD a)(h3:Q l.length a):OwsX toD Q (os++[o]) (l++[a]):=by
 refine⟨strs_snoc os o h.st h1,(by rw[zem,h.ds,h2,zyK];rfl),(λi b m=>?_),(by rw[zzH,zzH,h.ln];rfl)⟩
 by_cases hi:i<l.length
 · rw[zyN hi]at m
   exact h.al i b m
 · have hl:=(zzE.mp m).1
   rw[zzH]at hl
   have e:i=l.length:=by have:i<l.length+1:=hl;trivial
   subst e
   rw[zyP (zzL _),Nat.sub_self]at m
   cases m
   exact h3
theorem OwsX.ows{α:Type}{toD:α->D}{Q:Nat->α->Prop}{os:List O}{l:List α}(h:OwsX toD Q os l):Ows toD (λ_=>True) os l:=⟨h.st,h.ds,(λ_ _=>trivial),h.ln⟩
theorem ztS{α:Type}{toD:α->D}{Q:Nat->α->Prop}{as:AS}{a:EF}{i:Nat}{os:List O}{l:List α}{x:α}(h:as[i]? = some (sN os))(ho:OwsX toD Q os l)(hl:l.length<1000)(ha:WE a as (toD x))(hx:Q l.length x):
 ∃os',OwsX toD Q os' (l++[x])/\xx (vf i (dC a dN) vM) as=some (.nx (as.set i (sN os'))):=by
 obtain⟨o,h1,h2,h3⟩:=ha
 exact⟨os++[o],ho.snoc h2 h3 hx,zjs h h1 h (by rw[ho.ln];exact ZW (by trivial))⟩
theorem zqE{n m:Nat}{xs:List Int}(hn:0<n)(hn2:n<=8)(hm0:0<m)(hm:m<=8)(hl:xs.length=9)(hx:∀x ∈ xs,St x):∃T,(Tab m n T/\LD n m (jS n) 0 (jAt T))/\RE (Xp [(true,.int n),(true,.int m),(true,zc xs)]) (zF T):=by
 obtain⟨g,g0,g1,gn,gm,hg⟩:=zlU (s:=true) (t:=true) (n:=n) (m:=m) hn hn2 hm
 obtain⟨x0,a0,b0⟩:=at2 hx (k:=0) (by trivial) (by trivial)
 obtain⟨x1,a1,b1⟩:=at2 hx (k:=1) (by trivial) (by trivial)
 have q0:0<=(n:Int)/g:=Int.ediv_nonneg (by trivial) (by trivial)
 have q1:(n:Int)/g<=n:=Int.ediv_le_self _ (by trivial)
 have hLD:=ldS (x0:=x0) (x1:=x1) hn hm0 g0 gn gm
 generalize hst:(n:Int)/g=st at q0 q1 hLD
 have st4:∀(os:List O) (c:Int),0<=c->c<8->∃l:List Int,zbj n n (λa=>(a*x0+c*st*x1)%n) l/\WE (zL (yJ Zd yK) [none,some 0,some 2,some 5,some 3] yh yf (f2 (f2 (f2 zq (f2 zG yF ixP) zU) (f2 (f2 zV yD zU) (f2 zG yp ixP) zU) zE) zr zA))
  [sI n,sI m,sT (zc xs),sI st,sN os,sI c] (zc l):=λos c c0 c1=>
  zcU (N:=n) (n:=n) (zx (za rfl) zR) (by trivial) λb ⟨h0,h1⟩=>by
   have cs:0<=c*st/\c*st<=64:=⟨Int.mul_nonneg c0 q0,by have:=Int.mul_le_mul (show c<=8 by trivial) (show st<=8 by trivial) q0 (by trivial);trivial⟩
   exact⟨[sI b,sI n,sT (zc xs),sI c,sI st],rfl,WD.e (yg (xr (vK (za rfl) (zH (za rfl) zb a0 rfl) (ye (by trivial) (by trivial)) (ye (by trivial) (by trivial))) (vK (vK (za rfl) (za rfl) (ye (by trivial) (by trivial)) (ye (by trivial) (by trivial))) (zH (za rfl) zb a1 rfl) (ye (by trivial) (by trivial)) (ye (by trivial) (by trivial)))) (za rfl) (by trivial)),Za hn⟩
 obtain⟨as',hf,os,l,e5,rfl,ho,hlen⟩:=vD (g:=gN 5) (f:=xx (vf 4 (dC (zL (yJ Zd yK) [none,some 0,some 2,some 5,some 3] yh yf (f2 (f2 (f2 zq (f2 zG yF ixP) zU) (f2 (f2 zV yD zU) (f2 zG yp ixP) zU) zE) zr zA)) dN) vM))
  (λi as=>∃(os:List O) (l:TZ) (e5:Option O),as=[sI n,sI m,sT (zc xs),sI st,sN os,e5]/\OwsX zc (λ(i:Nat) r=>zbj n n (λa=>(a*x0+(i:Int)*st*x1)%n) r) os l/\l.length=i)
  (vN 0 m) 0 [sI n,sI m,sT (zc xs),sI st,sN [],none] (λi x as hx' hI=>by
   obtain⟨os,l,e5,rfl,ho,hlen⟩:=hI
   obtain⟨rfl,hi⟩:=ZF hx'
   obtain⟨r,r1,r3⟩:=st4 os (0+i) (by trivial) (by trivial)
   obtain⟨os',o1,o2⟩:=ztS (x:=r) (i:=4) (toD:=zc) (Q:=λ(i:Nat) r=>zbj n n (λa=>(a*x0+(i:Int)*st*x1)%n) r) rfl ho (by trivial) r3 (by rw[hlen,zyW];rw[Int.zero_add]at r1;exact r1)
   exact⟨[sI n,sI m,sT (zc xs),sI st,sN os,sI (0+i)],rfl,_,o2,os',l++[r],_,rfl,o1,by rw[zzH,hlen];rfl⟩)
  ⟨[],[],none,rfl,OwsX.nil,rfl⟩
 rw[xZ]at hlen
 have hT:zdn m n (λc a=>(a*x0+c*st*x1)%n) l:=zbi (by trivial) ho.al
 refine⟨l,⟨hT.1,hLD.congr hm0 (ljS hn) (λ_ _ _ _=>rfl) hT.2⟩,yW rfl (zg (as1:=[sI n,sI m,sT (zc xs),sI st,none,none]) ?_ (zg (wY (i:=4) (Zx ym (szl rfl)) (zy rfl)) (zg (wV (wZ (zx (za rfl) zR) (by trivial) (by trivial)) hf) (Ows.retB (i:=4) rfl ho.ows))))⟩
 have:=yz (st:=true) (i:=3) (as:=[sI n,sI m,sT (zc xs),none,none,none]) (v9 (za (i:=0) rfl) (Z7 (zx (za (i:=0) rfl) (zx (za (i:=1) rfl) zR)) hg) g0 (ye (by trivial) (by trivial))) (zy rfl)
 rw[hst]at this
 exact this
theorem zsc{fr:AF}{as:AS}{rs:List (Bool×D)}{g:List D->Option R0}{zs:List D}(ha:WA fr as rs)(hg:g (rs.map (·.2))=some (.fl zs)):fP fr g as=some (.ow (.nd .ls (zs.map (lfs (rs.all (·.1))))),as):=by
 unfold fP;unfold WA at ha
 rw[ha];show(views as _).bind _=_
 rw[WN];show(g _).bind _=_
 rw[hg]
 show(if(zs.all yu||(some (rs.all (·.1))).isSome)=true then _ else _:Option RV).bind _=_
 rw[if_pos (by simp)];rfl
theorem zjb{a:EF}{as:AS}{x:D}{g:List D->Option R0}{zs:List D}(ha:WE a as x)(hg:g [x]=some (.fl zs)):fP (aC a aN) g as=some (.ow (.nd .ls (zs.map (O.lf true))),as):=by
 have:=zsc (g:=g) (XJ ha (zR (as:=as))) hg
 rw[show([(true,x)].all (·.1))=true from rfl,Vs]at this
 exact this
theorem zss{a:EF}{as:AS}{s:Bool}{r:List Int}(h:WD a as s (zc r)):fP (aC a aN) lstP as=some (.ow (YD r),as):=by
 have:=zsc (g:=lstP) (zx h (zR (as:=as))) rfl
 rw[zzZ]at this
 exact this
theorem ztc{a:EF}{as:AS}{s:Bool}{r:List Int}(h:WD a as s (zc r)):WE (fP (aC a aN) lstP) as (zc r):=⟨_,zss h,(VP r).1,(VP r).2⟩
theorem ztx{a b c d:EF}{as:AS}{x y z u w:D}{g:List (Bool×D)->Option O}(ha:WE a as x)(hb:WE b as y)(hc:WE c as z)(hd:WE d as u)(hg:RE (g [(true,x),(true,y),(true,z),(true,u)]) w):WE (zN (aC a (aC b (aC c (aC d aN)))) g) as w:=by
 obtain⟨o,h1,h2⟩:=hg
 exact⟨o,Wh (XJ ha (XJ hb (XJ hc (XJ hd zR)))) (by show g [(yu x||true,x),(yu y||true,y),(yu z||true,z),(yu u||true,u)]=_;rw[zyB,zyB,zyB,zyB];exact h1),h2⟩
theorem ziR{a b c d e:EF}{as:AS}{x y z u v w:D}{g:List (Bool×D)->Option O}(ha:WE a as x)(hb:WE b as y)(hc:WE c as z)(hd:WE d as u)(he:WE e as v)(hg:RE (g [(true,x),(true,y),(true,z),(true,u),(true,v)]) w):WE (zN (aC a (aC b (aC c (aC d (aC e aN))))) g) as w:=by
 obtain⟨o,h1,h2⟩:=hg
 exact⟨o,Wh (XJ ha (XJ hb (XJ hc (XJ hd (XJ he zR))))) (by show g [(yu x||true,x),(yu y||true,y),(yu z||true,z),(yu u||true,u),(yu v||true,v)]=_;rw[zyB,zyB,zyB,zyB,zyB];exact h1),h2⟩
theorem zeb{fr:DF}{as:AS}{os:List O}{x:D}(h:WO fr as os)(hl:os.length<=sizeLine)(hs:O.strs os=true)(e:D.tup (O.toDs os)=x):WE (yL fr) as x:=by
 refine⟨_,zmg h hl, ?_, ?_⟩
 · unfold WP
   split
   · exact hs
   · exact hs
 · unfold WP
   split
   · exact e
   · exact e
theorem ints_of:∀l:List Int,Xb (l.map D.int)=some l
 | []=>rfl
 |x::r=>by
  show(Xb (r.map D.int)).bind _=_
  rw[ints_of r];rfl
theorem copies{n m:Nat}{fr:AF}{cap:List (Option Nat)}{as:AS}{u s:Bool}{r:List Int}(hr:Row n r)(hm:m<=8)(h1:WA fr as [(u,.int m)])(h2:∀b:Int,∃as1,gN 0 (true,.int b) (ZQ cap as)=some as1/\WD zr as1 s (zc r)):
 ∃T,zdn m n (λ_ a=>rAt r a) T/\WE (zL (yJ fr yK) cap yh yf (fP wN lstP)) as (zF T):=
 zfy (f:=λ_ a=>rAt r a) (n:=n) (k:=m) (cap:=cap) (fe:=fP wN lstP) h1 (by trivial) λb _=>by
  obtain⟨as1,g1,g2⟩:=h2 b
  exact⟨as1,r,g1,ztc g2,hr.1,hr.2,λ_ _=>rfl⟩
theorem znG{l:List Int}(h:l.Pairwise (· <= ·)){i j:Nat}(hij:i<j)(hj:j<l.length):l[i]<=l[j]:=List.pairwise_iff_getElem.mp h i j (by trivial) hj hij
theorem Vj{r:List Int}{a:Int}(h:a.toNat<r.length):rAt r a=r[a.toNat]:=by unfold rAt;rw[zzC h];rfl
theorem znV{n m:Nat}{xs:List Int}(hn:0<n)(hn2:n<=8)(hm0:0<m)(hm:m<=8)(hl:xs.length=9)(hx:∀x ∈ xs,St x):∃T,(Tab m n T/\LD n m jM 0 (jAt T))/\RE (Z3 [(true,.int n),(true,.int m),(true,zc xs)]) (zF T):=by
 obtain⟨l,l1,l2,l3⟩:=zgH (as:=[sI n,sI m,sT (zc xs),none]) (u:=true) D.int (Q:=λx=>0<=x/\x<(n:Int)) (n:=n-1) (cap:=[none,some 0,some 2]) (fr:=aC (f2 zq yp YT) aN) (fe:=f2 (f2 zG zq ixP) zr zA)
  (by rw[show(((n-1:Nat):Nat):Int)=(n:Int)-1 by trivial];exact zx (ziZ (za rfl) zb) zR) (by trivial) (λb h0 h1=>by
   obtain⟨x,hx1,hx2⟩:=at2 hx (k:=b) h0 (by trivial)
   exact⟨[sI b,sI n,sT (zc xs)],_,rfl,WD.e (yg (zH (za rfl) (za rfl) hx1 rfl) (za rfl) (by trivial)),Za hn⟩)
 have w0:WE (f2 (xU (dC yF dN)) (zL (yJ (aC (f2 zq yp YT) aN) yK) [none,some 0,some 2] yh yf (f2 (f2 zG zq ixP) zr zA)) zE) [sI n,sI m,sT (zc xs),none] (.lst ((0::l).map D.int)):=
  zpS (vU (os:=[lfI 0]) (zp zb ym) (szl rfl) rfl rfl) l3 (add_lists (by rw[zD];exact szs (by show 1+_<=_;trivial)))
 have hp:=sortI_perm (0::l)
 have hlen:(sortI (0::l)).length=n:=by rw[hp.length_eq,zzR];trivial
 have hr:Row n ((sortI (0::l)).set 0 0):=by
  refine⟨by rw[zzS];exact hlen,λx m=>?_⟩
  rcases List.mem_or_eq_of_mem_set m with m|rfl
  · rcases zzA.mp (hp.mem_iff.mp m)with rfl|m
    · trivial
    · exact l2 x m
  · trivial
 have s3:=wY (i:=3) (zjb (g:=zqf) w0 (by
  show(Xb ((0::l).map D.int)).bind _=_
  rw[ints_of]
  show(if(0::l).length<64 then _ else _)=_
  rw[if_pos (by rw[zzR];trivial)])) (zy rfl)
 rw[ziU]at s3
 have s4:zoH 3 (xC 0) (xC 0) [sI n,sI m,sT (zc xs),sN ((sortI (0::l)).map lfI)]=some (.nx [sI n,sI m,sT (zc xs),sN (((sortI (0::l)).set 0 0).map lfI)]):=by
  cases hs:sortI (0::l)with
  |nil=>rw[hs]at hlen;simp at hlen;trivial
  |cons y t=>rfl
 obtain⟨T,t1,t2⟩:=copies (n:=n) (m:=m) (s:=false) (u:=true) (cap:=[none,some 3]) (as:=[sI n,sI m,sT (zc xs),sN (((sortI (0::l)).set 0 0).map lfI)]) (fr:=aC zr aN) hr hm (zx (za rfl) zR) (λb=>⟨[sI b,some (.lf false (.lst (O.toDs (((sortI (0::l)).set 0 0).map lfI))))],rfl,by rw[(vO _).2.2];exact za rfl⟩)
 have hz:rAt ((sortI (0::l)).set 0 0) 0=0:=by
  rw[Vj (by rw[hr.1];exact hn)]
  exact List.getElem_set_self (by rw[zzS,hlen];exact hn)
 have hLD:LD n m jM 0 (λ_ a=>rAt ((sortI (0::l)).set 0 0) a):=by
  refine ldM hm0 hz (λa ha=>(rowAt hr ha).2) λa b ha hb hab=>?_
  by_cases h0:a=0
  · rw[h0,hz];exact(rowAt hr hb).2.1
  by_cases he:a=b
  · rw[he];exact Int.le_refl _
  have a0:=ha.1
  have b1:=hb.2
  rw[Vj (by rw[hr.1];trivial),Vj (by rw[hr.1];trivial),List.getElem_set_ne (by trivial),List.getElem_set_ne (by trivial)]
  exact znG (Vp (0::l)) (by trivial) (by rw[hlen];trivial)
 exact⟨T,⟨t1.1,hLD.congr hm0 (ljM hn) (λ_ _ _ _=>rfl) t1.2⟩,yW rfl (zg s3 (zg s4 (yR t2)))⟩
theorem zmu{n m:Nat}{xs:List Int}(hn:2<=n)(hn2:n<=8)(hm0:0<m)(hm:m<=8)(hl:xs.length=9)(hx:∀x ∈ xs,St x):∃T,(Tab m n T/\LD n m jL 0 (jAt T)/\LD n m jF 0 (jAt T))/\RE (XD [(true,.int n),(true,.int m),(true,zc xs)]) (zF T):=by
 obtain⟨l,l1,l2,l3⟩:=zgH (as:=[sI n,sI m,sT (zc xs),none]) (u:=true) D.int (Q:=λx=>1<=x/\x<(n:Int)) (n:=n-1) (cap:=[none,some 2,some 0]) (fr:=aC (f2 zq yp YT) aN) (fe:=f2 yp (f2 (f2 zr zq ixP) (f2 zG yp YT) zA) zE)
  (by rw[show(((n-1:Nat):Nat):Int)=(n:Int)-1 by trivial];exact zx (ziZ (za rfl) zb) zR) (by trivial) (λb h0 h1=>by
   obtain⟨x,hx1,hx2⟩:=at2 hx (k:=b) h0 (by trivial)
   have m0:=zyL x (show(n:Int)-1≠0 by trivial)
   have m1:=zyF x (show(0:Int)<(n:Int)-1 by trivial)
   exact⟨[sI b,sT (zc xs),sI n],_,rfl,WD.e (xr zb (yg (zH (za rfl) (za rfl) hx1 rfl) (ziZ (za rfl) zb) (by trivial))),by trivial,by trivial⟩)
 have w0:WE (f2 (xU (dC yF dN)) (zL (yJ (aC (f2 zq yp YT) aN) yK) [none,some 2,some 0] yh yf (f2 yp (f2 (f2 zr zq ixP) (f2 zG yp YT) zA) zE)) zE) [sI n,sI m,sT (zc xs),none] (.lst ((0::l).map D.int)):=
  zpS (vU (os:=[lfI 0]) (zp zb ym) (szl rfl) rfl rfl) l3 (add_lists (by rw[zD];exact szs (by show 1+_<=_;trivial)))
 have hr:Row n (0::l):=⟨by rw[zzR];trivial,λx m=>by
  rcases zzA.mp m with rfl|m
  · trivial
  · have:=l2 x m;trivial⟩
 obtain⟨T,t1,t2⟩:=copies (n:=n) (m:=m) (s:=true) (u:=true) (cap:=[none,some 3]) (as:=[sI n,sI m,sT (zc xs),sT (.lst ((0::l).map D.int))]) (fr:=aC zr aN) hr hm (zx (za rfl) zR) (λb=>⟨[sI b,sT (.lst ((0::l).map D.int))],rfl,za rfl⟩)
 have hz:rAt (0::l) 0=0:=rfl
 have hp:∀a,InR n a->a≠0->rAt (0::l) a≠0:=λa ha h0=>by
  have a0:=ha.1
  have a1:=ha.2
  have hk:a.toNat<(0::l).length:=by rw[hr.1];trivial
  rw[Vj hk]
  have hm:=zyY hk
  obtain⟨k,ek⟩:∃k,a.toNat=k+1:=⟨a.toNat-1,by trivial⟩
  have:(0::l)[a.toNat]=l[k]'(by rw[zzR]at hk;trivial):=by simp only[ek,List.getElem_cons_succ]
  rw[this]
  have:=l2 _ (zyY (show k<l.length by rw[zzR]at hk;trivial))
  trivial
 have hc:∀a,InR n a->InR n (rAt (0::l) a):=λa ha=>(rowAt hr ha).2
 have n0:0<n:=by trivial
 exact⟨T,⟨t1.1,(ldL (m:=m) hz hc hp).congr hm0 (ljL n0) (λ_ _ _ _=>rfl) t1.2,(ldF (m:=m) hz hc hp).congr hm0 (ljF n0) (λ_ _ _ _=>rfl) t1.2⟩,yW rfl (zg (vH (p:=3) w0 (zy rfl)) (yR t2))⟩
def KN(k:Int)(n:Nat):Prop:=(k=0/\1<=n)\/(k=1/\1<=n)\/(k=2/\2<=n)\/(k=3/\2<=n)\/(k=4/\n=4)
theorem zsf{x y:Int}{c:Bool}:ixP (.lst [.int x,.int y]) (.int (if c=true then 1 else 0))=some (.im (.int (if c=true then y else x))):=by cases c<;>rfl
def jK(k:Int)(n:Nat):Int->Int->Int:=if k=0 then jS n else if k=1 then jM else if k=2 then jL else if k=3 then jF else j4
theorem ljK{k:Int}{n:Nat}(h:KN k n):LJ n (jK k n) 0:=by
 rcases h with⟨rfl,hn⟩|⟨rfl,hn⟩|⟨rfl,hn⟩|⟨rfl,hn⟩|⟨rfl,rfl⟩
 · exact ljS hn
 · exact ljM hn
 · exact ljL (by trivial)
 · exact ljF (by trivial)
 · exact lj4
theorem zrC{as:AS}{n:Nat}{cap cap2:List (Option Nat)}{fr:AF}{u:Bool}{fe:EF}{f:Int->Int->Int}(hn2:n<=8)(h1:WA fr as [(true,.int n)])(H:∀a:Int,InR n a->∃as1,gN 0 (true,.int a) (ZQ cap as)=some as1/\WA wN as1 [(true,.int n)]/\∀b:Int,InR n b->∃as2,gN 0 (true,.int b) (ZQ cap2 as1)=some as2/\WD fe as2 true (.int (f a b))/\InR n (f a b)):
 ∃T,zdn n n f T/\WE (zL (yJ fr yK) cap yh yf (zL (yJ wN yK) cap2 yh yf fe)) as (zF T):=
 zfy (n:=n) (k:=n) (cap:=cap) (fe:=zL (yJ wN yK) cap2 yh yf fe) h1 (by trivial) λa ha=>by
  obtain⟨as1,g1,g2,g3⟩:=H a ha
  obtain⟨r,b1,b3⟩:=zcU (f:=f a) (N:=n) (n:=n) (cap:=cap2) (fe:=fe) g2 (by trivial) λb hb=>by
   obtain⟨as2,c1,c2,c3⟩:=g3 b hb
   exact⟨as2,c1,WD.e c2,c3⟩
  exact⟨as1,r,g1,b3,b1⟩
abbrev zeI:List D:=[.tup [.int 0,.int 1],.tup [.int 1,.int 0],.tup [.int 0,.int 0],.tup [.int 1,.int 1]]
theorem znb{i:Nat}{y:It1}(m:(zeI.map λd=>(true,d))[i]? = some y):y=(true,.tup [.int (p1 i),.int (p2 i)])/\i<4:=by
 match i,m with
 |0,m=>cases m;exact⟨rfl,by decide⟩
 |1,m=>cases m;exact⟨rfl,by decide⟩
 |2,m=>cases m;exact⟨rfl,by decide⟩
 |3,m=>cases m;exact⟨rfl,by decide⟩
theorem zqm(i:Int):p1 i=0\/p1 i=1:=by unfold p1;split<;>simp
theorem zpg(i:Int):p2 i=0\/p2 i=1:=by unfold p2;split<;>simp
theorem zsr{u v k:Int}(hu:u=0\/u=1)(hv:v=0\/v=1):pk u v k=0\/pk u v k=1:=by unfold pk;split<;>assumption
theorem zoS{u v:Int}(hu:u=0\/u=1)(hv:v=0\/v=1):InR 4 (ixM u v)/\Xw (.lst zeI) [.tup [.int u,.int v]]=some (.im (.int (ixM u v))):=by
 rcases hu with rfl|rfl<;>rcases hv with rfl|rfl
 · exact⟨by decide,rfl⟩
 · exact⟨by decide,rfl⟩
 · exact⟨by decide,rfl⟩
 · exact⟨by decide,rfl⟩
theorem zmK{p q k:Int}(hk:k=0\/k=1):ixP (.tup [.int p,.int q]) (.int k)=some (.im (.int (pk p q k))):=by
 rcases hk with rfl|rfl
 · rfl
 · rfl
theorem zus:∃T,zdn 4 4 j4 T/\RE (ZV [(true,.int 4),(true,.int (4:Nat))]) (zF T):=by
 obtain⟨T,t1,t2,t3⟩:=zhS (as:=[sI 4,sI (4:Nat),sT (.lst zeI)]) zc (Q:=λi r=>zbj 4 4 (j4 i) r) (cap:=[none,some 2]) (g:=gN 0) (fe:=zL (xq zr) [none,some 1,some 0] yh yf (XH .lst zr (aC (yL (dC (f2 zq (f2 zG yF ixP) ixP) (dC (f2 zq (f2 zG yp ixP) ixP) dN))) aN) Xw)) (zbI (f:=fV 2) (WD.e (za rfl))) (by rw[zD];show 4<=1000;decide) λi y m=>by
  obtain⟨rfl,hi⟩:=znb m
  obtain⟨r,r1,r2,r3⟩:=zhS (as:=[sT (.tup [.int (p1 i),.int (p2 i)]),sT (.lst zeI)]) D.int (Q:=λk x=>x=j4 i k/\InR 4 x) (cap:=[none,some 1,some 0]) (g:=gN 0) (fe:=XH .lst zr (aC (yL (dC (f2 zq (f2 zG yF ixP) ixP) (dC (f2 zq (f2 zG yp ixP) ixP) dN))) aN) Xw) (zbI (f:=fV 1) (WD.e (za rfl))) (by rw[zD];show 4<=1000;decide) λk y m=>by
   obtain⟨rfl,hk⟩:=znb m
   obtain⟨j1,ej⟩:=zoS (zsr (k:=p1 i) (zqm k) (zpg k)) (zsr (k:=p2 i) (zqm k) (zpg k))
   exact⟨[sT (.tup [.int (p1 k),.int (p2 k)]),sT (.lst zeI),sT (.tup [.int (p1 i),.int (p2 i)])],j4 i k,rfl,WD.e (zfu (za rfl) rfl (zx (zei (os:=[lfI (pk (p1 k) (p2 k) (p1 i)),lfI (pk (p1 k) (p2 k) (p2 i))]) (zp (zH (za rfl) (zH (za rfl) zb rfl rfl) (zmK (zqm i)) rfl) (zp (zH (za rfl) (zH (za rfl) zb rfl rfl) (zmK (zpg i)) rfl) ym)) (szl rfl) rfl) zR) ej rfl),rfl,j1⟩
  rw[zD]at r1
  exact⟨[sT (.tup [.int (p1 i),.int (p2 i)]),sT (.lst zeI)],r,rfl,r3,ziO r1 r2⟩
 rw[zD]at t1
 refine⟨T,zbi t1 t2,yW rfl (zg (yw (yc (yV (za rfl) zb rfl) rfl) rfl) (zg (yw (yc (yV (za rfl) zb rfl) rfl) rfl) (zg (yw (yc (yV (za rfl) zb rfl) rfl) rfl) (zg (yw (yc (yV (za rfl) zb rfl) rfl) rfl) (zg (vH (p:=2) (x:=.lst zeI) (vU (os:=zeI.map (O.lf true)) ?_ (szl rfl) rfl rfl) (zy rfl)) (yR t3))))))⟩
 exact zp (zei (os:=[lfI 0,lfI 1]) (zp zb (zp zb ym)) (szl rfl) rfl) (zp (zei (os:=[lfI 1,lfI 0]) (zp zb (zp zb ym)) (szl rfl) rfl) (zp (zei (os:=[lfI 0,lfI 0]) (zp zb (zp zb ym)) (szl rfl) rfl) (zp (zei (os:=[lfI 1,lfI 1]) (zp zb (zp zb ym)) (szl rfl) rfl) ym)))
theorem zqt{k:Int}{n:Nat}(h:KN k n)(hn2:n<=8):∃T,zdn n n (jK k n) T/\RE (ZV [(true,.int k),(true,.int n)]) (zF T):=by
 rcases h with⟨rfl,hn⟩|⟨rfl,hn⟩|⟨rfl,hn⟩|⟨rfl,hn⟩|⟨rfl,rfl⟩
 · obtain⟨T,t1,t2⟩:=zrC (f:=jS n) (as:=[sI 0,sI n,none]) (n:=n) (u:=true) (cap:=[none,some 1]) (cap2:=[none,some 1,some 0]) (fr:=aC zr aN) (fe:=f2 (f2 zG zq zE) zr zA) hn2 (zx (za rfl) zR) λa ha=>⟨[sI a,sI n],rfl,zx (za rfl) zR,λb hb=>⟨[sI b,sI n,sI a],rfl,yg (xr (za rfl) (za rfl)) (za rfl) (by trivial),ziT hn⟩⟩
   exact⟨T,t1,yW rfl (vB (Zm (yc (yV (za rfl) zb rfl) rfl) (yR t2)))⟩
 · obtain⟨T,t1,t2⟩:=zrC (f:=jM) (as:=[sI 1,sI n,none]) (n:=n) (u:=true) (cap:=[none,some 1]) (cap2:=[none,some 0]) (fr:=aC zr aN) (fe:=fP (aC zr Zd) zum) hn2 (zx (za rfl) zR) λa ha=>⟨[sI a,sI n],rfl,zx (za rfl) zR,λb hb=>⟨[sI b,sI a],rfl,wU (zx (za rfl) (zx (za rfl) zR)) rfl rfl,(ljM hn).cl a b ha hb⟩⟩
   exact⟨T,t1,yW rfl (zg (yw (yc (yV (za rfl) zb rfl) rfl) rfl) (vB (Zm (yc (yV (za rfl) zb rfl) rfl) (yR t2))))⟩
 · obtain⟨T,t1,t2⟩:=zrC (f:=jL) (as:=[sI 2,sI n,none]) (n:=n) (u:=true) (cap:=[none,some 1]) (cap2:=[none,some 0]) (fr:=aC zr aN) (fe:=f2 (xU (dC zq (dC zr dN))) (fP (aC (f2 zq yF (zY .Eq)) aN) zkP) ixP) hn2 (zx (za rfl) zR) λa ha=>⟨[sI a,sI n],rfl,zx (za rfl) zR,λb hb=>⟨[sI b,sI a],rfl,f2E (vU (os:=[lfI b,lfI a]) (zp (za rfl) (zp (za rfl) ym)) (szl rfl) rfl rfl) (WD.e (wU (zx (yV (za rfl) zb rfl) zR) rfl rfl)) (zsf.trans (by unfold jL;by_cases h:b=0<;>simp[h])),(ljL (by trivial)).cl a b ha hb⟩⟩
   exact⟨T,t1,yW rfl (zg (yw (yc (yV (za rfl) zb rfl) rfl) rfl) (zg (yw (yc (yV (za rfl) zb rfl) rfl) rfl) (vB (Zm (yc (yV (za rfl) zb rfl) rfl) (yR t2)))))⟩
 · obtain⟨T,t1,t2⟩:=zrC (f:=jF) (as:=[sI 3,sI n,none]) (n:=n) (u:=true) (cap:=[none,some 1]) (cap2:=[none,some 0]) (fr:=aC zr aN) (fe:=f2 (xU (dC zr (dC zq dN))) (fP (aC (f2 zr yF (zY .Eq)) aN) zkP) ixP) hn2 (zx (za rfl) zR) λa ha=>⟨[sI a,sI n],rfl,zx (za rfl) zR,λb hb=>⟨[sI b,sI a],rfl,f2E (vU (os:=[lfI a,lfI b]) (zp (za rfl) (zp (za rfl) ym)) (szl rfl) rfl rfl) (WD.e (wU (zx (yV (za rfl) zb rfl) zR) rfl rfl)) (zsf.trans (by unfold jF;by_cases h:a=0<;>simp[h])),(ljF (by trivial)).cl a b ha hb⟩⟩
   exact⟨T,t1,yW rfl (zg (yw (yc (yV (za rfl) zb rfl) rfl) rfl) (zg (yw (yc (yV (za rfl) zb rfl) rfl) rfl) (zg (yw (yc (yV (za rfl) zb rfl) rfl) rfl) (vB (Zm (yc (yV (za rfl) zb rfl) rfl) (yR t2))))))⟩
 · exact zus
theorem zrV{k:Int}{n m:Nat}{xs:List Int}(h:KN k n)(hn2:n<=8)(hm0:0<m)(hm:m<=8)(hl:xs.length=9)(hx:∀x ∈ xs,St x):∃T,(Tab m n T/\LD n m (jK k n) 0 (jAt T))/\RE (Yj [(true,.int k),(true,.int n),(true,.int m),(true,zc xs)]) (zF T):=by
 rcases h with⟨rfl,hn⟩|⟨rfl,hn⟩|⟨rfl,hn⟩|⟨rfl,hn⟩|⟨rfl,rfl⟩
 · obtain⟨T,t1,t2⟩:=zqE (m:=m) (xs:=xs) hn hn2 hm0 hm hl hx
   exact⟨T,t1,yW rfl (vB (Zm (yc (yV (za rfl) zb rfl) rfl) (yR (YM (WD.e (za rfl)) (WD.e (za rfl)) (WD.e (za rfl)) t2))))⟩
 · obtain⟨T,t1,t2⟩:=znV (m:=m) (xs:=xs) hn hn2 hm0 hm hl hx
   exact⟨T,t1,yW rfl (zg (yw (yc (yV (za rfl) zb rfl) rfl) rfl) (vB (Zm (yc (yV (za rfl) zb rfl) rfl) (yR (YM (WD.e (za rfl)) (WD.e (za rfl)) (WD.e (za rfl)) t2)))))⟩
 · obtain⟨T,t1,t2⟩:=zmu (m:=m) (xs:=xs) hn hn2 hm0 hm hl hx
   exact⟨T,⟨t1.1,t1.2.1⟩,yW rfl (zg (yw (yc (yV (za rfl) zb rfl) rfl) rfl) (zg (yw (yc (yV (za rfl) zb rfl) rfl) rfl) (vB (Zm (yc (zkQ (za rfl) zb) rfl) (yR (YM (WD.e (za rfl)) (WD.e (za rfl)) (WD.e (za rfl)) t2))))))⟩
 · obtain⟨T,t1,t2⟩:=zmu (m:=m) (xs:=xs) hn hn2 hm0 hm hl hx
   exact⟨T,⟨t1.1,t1.2.2⟩,yW rfl (zg (yw (yc (yV (za rfl) zb rfl) rfl) rfl) (zg (yw (yc (yV (za rfl) zb rfl) rfl) rfl) (vB (Zm (yc (zkQ (za rfl) zb) rfl) (yR (YM (WD.e (za rfl)) (WD.e (za rfl)) (WD.e (za rfl)) t2))))))⟩
 · obtain⟨x0,a0,b0⟩:=at2 hx (k:=0) (by trivial) (by trivial)
   have hp:∃r:List Int,(Row 4 r/\LD 4 m j4 0 (λ_ a=>rAt r a))/\ixP (.lst [zc [0,1,2,3],zc [0,1,3,2]]) (.int (x0%2))=some (.im (zc r)):=by
    rcases(show x0%2=0\/x0%2=1 by trivial)with e|e<;>rw[e]
    · exact⟨[0,1,2,3],⟨⟨rfl,by decide⟩,ld4 (.inl λa ha=>f4 (P:=λa=>rAt [0,1,2,3] a=a) (by decide) ha)⟩,rfl⟩
    · exact⟨[0,1,3,2],⟨⟨rfl,by decide⟩,ld4 (.inr λa ha=>f4 (P:=λa=>rAt [0,1,3,2] a=(if a=2 then 3 else if a=3 then 2 else a)) (by decide) ha)⟩,rfl⟩
   obtain⟨r,r1,r2⟩:=hp
   obtain⟨T,c1,c3⟩:=zfy (as:=[sI 4,sI (4:Nat),sI m,sT (zc xs)]) (u:=true) (f:=λ_ a=>rAt r a) (n:=4) (k:=m) (cap:=[none,some 3]) (fr:=aC zG aN) (fe:=f2 (xU (dC (xU (dC yF (dC yp (dC yN (dC Zc dN))))) (dC (xU (dC yF (dC yp (dC Zc (dC yN dN))))) dN))) (f2 (f2 zr yF ixP) yN zA) ixP) (zx (za rfl) zR) (by trivial) λb _=>
    ⟨[sI b,sT (zc xs)],r,rfl,WD.e (f2E (vU (Wu (Zx (zp zb (zp zb (zp zb (zp zb ym)))) (szl rfl)) (Wu (Zx (zp zb (zp zb (zp zb (zp zb ym)))) (szl rfl)) ym)) (szl rfl) rfl rfl) (WD.e (yg (zH (za rfl) zb a0 rfl) zb (by decide))) r2),r1.1.1,r1.1.2,λ_ _=>rfl⟩
   exact⟨T,⟨c1.1,r1.2.congr hm0 lj4 (λ_ _ _ _=>rfl) c1.2⟩,yW rfl (zg (yw (yc (yV (za rfl) zb rfl) rfl) rfl) (zg (yw (yc (yV (za rfl) zb rfl) rfl) rfl) (zg (yw (yc (zkQ (za rfl) zb) rfl) rfl) (yR c3))))⟩
structure LawP(n m:Nat)(J:TZ)(Ds:List TZ):Prop where
 tj:Tab n n J
 lj:LJ n (jAt J) 0
 td:∀T ∈ Ds,Tab m n T
 ld:∀T ∈ Ds,LD n m (jAt J) 0 (jAt T)
abbrev plD(n:Nat)(J:TZ)(Ds:List TZ):D:=.tup [.int n,zF J,.lst (Ds.map zF)]
theorem zhz{k c:Int}{n m w:Nat}(h:KN k n)(hn2:n<=8)(hm0:0<m)(hm:m<=8)(hw:w<=8):∃J Ds,LawP n m J Ds/\Ds.length=w/\RE (wM [(true,.int k),(true,.int n),(true,.int m),(true,.int w),(true,.int c)]) (plD n J Ds):=by
 obtain⟨J,j1,oj,j2,j3,j4⟩:=zqt h hn2
 obtain⟨Ds,d1,d2,d3⟩:=zgH (as:=[sI k,sI n,sI m,sI w,sI c,none]) (u:=true) zF (Q:=λT=>Tab m n T/\LD n m (jK k n) 0 (jAt T)) (n:=w) (cap:=[none,some 0,some 1,some 2,some 4]) (fr:=aC zV aN) (fe:=zN (aC zr (aC zG (aC zV (aC (zN (aC (f2 yD (f2 (fC (.int 31)) zq zU) zE) (aC (fC (.int 9)) aN)) zT) aN)))) Yj) (zx (za rfl) zR) (by trivial) λb b0 b1=>by
  obtain⟨xs,x1,x2,x3⟩:=stE (as:=[sI b,sI k,sI n,sI m,sI c]) (a:=f2 yD (f2 (fC (.int 31)) zq zU) zE) (b:=fC (.int 9)) (m:=9) (by trivial) (WD.e (xr (za rfl) (vK zb (za rfl) (ye (by decide) (by decide)) (ye (by trivial) (by trivial))))) (WD.e zb)
  obtain⟨T,t1,t2⟩:=zrV h hn2 hm0 hm x1 x2
  exact⟨[sI b,sI k,sI n,sI m,sI c],T,rfl,ztx (WD.e (za rfl)) (WD.e (za rfl)) (WD.e (za rfl)) x3 t2,t1⟩
 have lj:=(ljK h).congr j1.2
 refine⟨J,Ds,⟨j1.1,lj,λT mT=>(d2 T mT).1,λT mT=>(d2 T mT).2.congr hm0 (ljK h) j1.2 (λ_ _ _ _=>rfl)⟩,d1,yW rfl (zg (vH (p:=5) d3 (zy rfl)) (yR (zeb (os:=[lfI n,oj,.lf true (.lst (Ds.map zF))]) (zp (za rfl) (Wu (Wh (zx (za rfl) (zx (za rfl) zR)) j2) (zp (za rfl) ym))) (szl rfl) ?_ ?_)))⟩
 · show(true&&(oj.str&&(true&&true)))=true
   rw[j3];rfl
 · show D.tup [.int n,oj.toD,.lst (Ds.map zF)]=_
   rw[j4]
theorem zmR{as:AS}{i j:Nat}{os ps:List O}(hij:i≠j)(h:as[i]? = some (sN os))(hj:as[j]? = some (sN ps))(hl:os.length<sizeLine):
 xx (vf i (dC (fV j) dN) vM) as=some (.nx ((as.set j (some (O.nd .ls ps).frz)).set i (sN (os++[(O.nd .ls ps).frz])))):=by
 have e:dC (fV j) dN as=some ([(O.nd .ls ps).frz],as.set j (some (O.nd .ls ps).frz)):=by
  unfold dC
  rw[zgS hj]
  show((toO as (.bo j)).bind _)=_
  rw[zot hj];rfl
 unfold xx vf;rw[h]
 show((dC (fV j) dN as).bind _).bind _=_
 rw[e];show(Option.bind (match(as.set j (some (O.nd .ls ps).frz))[i]? with|some (some (.nd .ls os))=>_|_=>none) _)=_
 rw[zzW (Ne.symm hij),h];show((vM os [(O.nd .ls ps).frz]).bind _).bind _=_
 have e2:vM os [(O.nd .ls ps).frz]=some (os++[(O.nd .ls ps).frz],.lf true .non):=by unfold vM;exact if_pos hl
 rw[e2];rfl
theorem Ows.frz{α:Type}{toD:α->D}{Q:α->Prop}{os:List O}{l:List α}(h:Ows toD Q os l):(O.nd .ls os).frz = .lf true (.lst (l.map toD)):=by
 show O.lf (O.strs os) (.lst (O.toDs os))=_
 rw[h.st,h.ds]
section
variable{n1 n2 m:Nat}{J1 J2:TZ}{D1 D2:List TZ}
theorem zoK(h1:0<n1)(h2:0<n2)(hn:n1*n2<=8)(j1:Tab n1 n1 J1)(j2:Tab n2 n2 J2):
 ∃os l e6 e7 e8,OwsX zc (λ(i:Nat) r=>zbj (n1*n2) (n1*n2) (jB n2 (jAt J1) (jAt J2) i) r) os l/\l.length=n1*n2/\forL (gN 6) (zB (zO true 7 (f2 (f2 zq yp ixP) (f2 vX yD zP) ixP))
 (zB (zO true 8 (f2 (f2 zr yp ixP) (f2 vX yD zA) ixP))
 (xx (vf 5 (dC (zL (yJ Xg yK) [none,some 4,some 8,some 7] yh yf (f2 (f2 (f2 zV (f2 zq zr zP) ixP) zr zU) (f2 zG (f2 zq zr zA) ixP) zE)) dN) vM))))
  (vN 0 (n1*n2)) [sT (plD n1 J1 D1),sT (plD n2 J2 D2),sI m,sI ((n1*n2:Nat):Int),sI n2,sN [],none,none,none,none,none,none,none,none]
  = some (.nx [sT (plD n1 J1 D1),sT (plD n2 J2 D2),sI m,sI ((n1*n2:Nat):Int),sI n2,sN os,e6,e7,e8,none,none,none,none,none]):=by
 have hn2:n2<=8:=zzM (Nat.le_mul_of_pos_left n2 h1) hn
 obtain⟨as',hf,os,l,e6,e7,e8,rfl,ho,hlen⟩:=vD (g:=gN 6) (f:=(zB (zO true 7 (f2 (f2 zq yp ixP) (f2 vX yD zP) ixP))
  (zB (zO true 8 (f2 (f2 zr yp ixP) (f2 vX yD zA) ixP))
  (xx (vf 5 (dC (zL (yJ Xg yK) [none,some 4,some 8,some 7] yh yf (f2 (f2 (f2 zV (f2 zq zr zP) ixP) zr zU) (f2 zG (f2 zq zr zA) ixP) zE)) dN) vM)))))
  (λi as=>∃(os:List O) (l:TZ) (e6 e7 e8:Option O),as=[sT (plD n1 J1 D1),sT (plD n2 J2 D2),sI m,sI ((n1*n2:Nat):Int),sI n2,sN os,e6,e7,e8,none,none,none,none,none]/\OwsX zc (λ(i:Nat) r=>zbj (n1*n2) (n1*n2) (jB n2 (jAt J1) (jAt J2) i) r) os l/\l.length=i)
  (vN 0 (n1*n2)) 0 [sT (plD n1 J1 D1),sT (plD n2 J2 D2),sI m,sI ((n1*n2:Nat):Int),sI n2,sN [],none,none,none,none,none,none,none,none] (λi x as hx' hI=>by
   obtain⟨os,l,e6,e7,e8,rfl,ho,hlen⟩:=hI
   obtain⟨rfl,hi⟩:=ZF hx'
   obtain⟨u1,u2⟩:=yP (n1:=n1) (n2:=n2) (p:=0+i) h2 ⟨by trivial,by trivial⟩
   obtain⟨a1,b1⟩:=ZR j1 u1
   obtain⟨a2,b2⟩:=ZR j2 u2
   have n18:n1<=8:=zzM (Nat.le_mul_of_pos_right n1 h2) hn
   obtain⟨r,c1,c3⟩:=zcU (f:=jB n2 (jAt J1) (jAt J2) (0+i)) (N:=n1*n2) (as:=[sT (plD n1 J1 D1),sT (plD n2 J2 D2),sI m,sI ((n1*n2:Nat):Int),sI n2,sN os,sI (0+i),sT (zc (zgh J1 ((0+i)/n2))),sT (zc (zgh J2 ((0+i)%n2))),none,none,none,none,none]) (u:=true) (n:=n1*n2) (cap:=[none,some 4,some 8,some 7]) (fr:=aC zV aN) (fe:=f2 (f2 (f2 zV (f2 zq zr zP) ixP) zr zU) (f2 zG (f2 zq zr zA) ixP) zE) (zx (za rfl) zR) (by trivial) λb hb=>by
    obtain⟨v1,v2⟩:=yP h2 hb
    obtain⟨x1,x2⟩:=rowAt b1 v1
    obtain⟨y1,y2⟩:=rowAt b2 v2
    have x3:0<=jAt J1 ((0+i)/n2) (b/n2):=x2.1
    have x4:jAt J1 ((0+i)/n2) (b/n2)<n1:=x2.2
    exact⟨[sI b,sI n2,sT (zc (zgh J2 ((0+i)%n2))),sT (zc (zgh J1 ((0+i)/n2)))],rfl,WD.e (xr (vK (zH (za rfl) (v9 (za rfl) (za rfl) (by trivial) (ye (by trivial) (by trivial))) x1 rfl) (za rfl) (ye (by trivial) (by trivial)) (ye (by trivial) (by trivial))) (zH (za rfl) (yg (za rfl) (za rfl) (by trivial)) y1 rfl)),zog x2 y2⟩
   rw[Int.zero_add]at c1
   obtain⟨os',o1,o2⟩:=ztS (x:=r) (i:=5) (toD:=zc) (Q:=λ(i:Nat) r=>zbj (n1*n2) (n1*n2) (jB n2 (jAt J1) (jAt J2) i) r) rfl ho (by trivial) c3 (by rw[hlen,zyW];exact c1)
   refine⟨[sT (plD n1 J1 D1),sT (plD n2 J2 D2),sI m,sI ((n1*n2:Nat):Int),sI n2,sN os,sI (0+i),e7,e8,none,none,none,none,none],rfl,_,yC (yz (i:=7) (yM (yM (za (i:=0) rfl) zb rfl) (v9 (za (i:=6) rfl) (za (i:=4) rfl) (by trivial) (ye (by trivial) (by trivial))) a1) (zy rfl)) (yC (yz (i:=8) (yM (yM (za (i:=1) rfl) zb rfl) (yg (za (i:=6) rfl) (za (i:=4) rfl) (by trivial)) a2) (zy rfl)) o2),os',l++[r],_,_,_,rfl,o1,by rw[zzH,hlen];rfl⟩)
  ⟨[],[],none,none,none,rfl,OwsX.nil,rfl⟩
 rw[xZ]at hlen
 exact⟨os,l,e6,e7,e8,ho,by trivial,hf⟩
end
abbrev B14(n1 n2 m:Nat)(J1 J2:TZ)(D1 D2:List TZ)(os5:List O)(e6 e7 e8 e9 e10 e11 e12 e13:Option O):AS:=
 [sT (plD n1 J1 D1),sT (plD n2 J2 D2),sI m,sI ((n1*n2:Nat):Int),sI n2,sN os5,e6,e7,e8,e9,e10,e11,e12,e13]
abbrev bs1:SF:=(zB (zO true 13 (f2 (f2 (f2 v4 xY ixP) (f2 vX yD zP) ixP) yD zU))
 (xx (vf 12 (dC (f2 (fV 13) (f2 (f2 (fV 8) xY ixP) (f2 vX yD zA) ixP) zE) dN) vM)))
abbrev bs2:SF:=(zB (zO false 12 (xU dN))
 (zB (vd (yJ Xg yK) (gN 6) bs1)
 (xx (vf 10 (dC (fV 12) dN) vM))))
abbrev bs3:SF:=(zB (zO false 10 (xU dN))
 (zB (vd (yJ Wy yK) (gN 11) bs2)
 (xx (vf 9 (dC (fV 10) dN) vM))))
section
variable{n1 n2 m:Nat}{J1 J2:TZ}{D1 D2:List TZ}{os5:List O}
theorem zwn{T1 T2:TZ}{c:Int}{e6 e9 e10 e13:Option O}(h1:0<n1)(h2:0<n2)(hn:n1*n2<=8)(t1:Tab m n1 T1)(t2:Tab m n2 T2)(c0:0<=c)(c1:c<m):
 ∃os r f6 f13,OwsX D.int (λ(i:Nat) x=>x=dB n2 (jAt T1) (jAt T2) c i/\InR (n1*n2) x) os r/\r.length=n1*n2/\forL (gN 6) bs1 (vN 0 (n1*n2)) (B14 n1 n2 m J1 J2 D1 D2 os5 e6 (sT (zF T1)) (sT (zF T2)) e9 e10 (sI c) (sN []) e13)
  = some (.nx (B14 n1 n2 m J1 J2 D1 D2 os5 f6 (sT (zF T1)) (sT (zF T2)) e9 e10 (sI c) (sN os) f13)):=by
 have n28:n2<=8:=zzM (Nat.le_mul_of_pos_left n2 h1) hn
 have n18:n1<=8:=zzM (Nat.le_mul_of_pos_right n1 h2) hn
 obtain⟨a1,b1⟩:=ZR t1 ⟨c0,c1⟩
 obtain⟨a2,b2⟩:=ZR t2 ⟨c0,c1⟩
 obtain⟨as',hf,os,l,f6,f13,rfl,ho,hlen⟩:=vD (g:=gN 6) (f:=bs1)
  (λi as=>∃(os:List O) (l:List Int) (f6 f13:Option O),as=B14 n1 n2 m J1 J2 D1 D2 os5 f6 (sT (zF T1)) (sT (zF T2)) e9 e10 (sI c) (sN os) f13/\OwsX D.int (λ(i:Nat) x=>x=dB n2 (jAt T1) (jAt T2) c i/\InR (n1*n2) x) os l/\l.length=i)
  (vN 0 (n1*n2)) 0 (B14 n1 n2 m J1 J2 D1 D2 os5 e6 (sT (zF T1)) (sT (zF T2)) e9 e10 (sI c) (sN []) e13) (λi x as hx' hI=>by
   obtain⟨os,l,f6,f13,rfl,ho,hlen⟩:=hI
   obtain⟨rfl,hi⟩:=ZF hx'
   obtain⟨u1,u2⟩:=yP (n1:=n1) (n2:=n2) (p:=0+i) h2 ⟨by trivial,by trivial⟩
   obtain⟨x1,x2⟩:=rowAt b1 u1
   obtain⟨y1,y2⟩:=rowAt b2 u2
   have q:=zog x2 y2
   have ev:rAt (zgh T1 c) ((0+i)/n2)*n2+rAt (zgh T2 c) ((0+i)%n2)=dB n2 (jAt T1) (jAt T2) c i:=by rw[Int.zero_add];rfl
   generalize rAt (zgh T1 c) ((0+i)/n2)=x at x1 x2 q ev
   generalize rAt (zgh T2 c) ((0+i)%n2)=y at y1 y2 q ev
   have x3:=x2.1
   have x4:=x2.2
   obtain⟨os',o1,o2⟩:=ztS (as:=B14 n1 n2 m J1 J2 D1 D2 os5 (sI (0+i)) (sT (zF T1)) (sT (zF T2)) e9 e10 (sI c) (sN os) (sI (x*n2))) (x:=x*n2+y) (i:=12) (toD:=D.int) (Q:=λ(i:Nat) x=>x=dB n2 (jAt T1) (jAt T2) c i/\InR (n1*n2) x) (a:=f2 (fV 13) (f2 (f2 (fV 8) xY ixP) (f2 vX yD zA) ixP) zE) rfl ho (by trivial)
    (WD.e (xr (za rfl) (zH (yM (za rfl) (za rfl) a2) (yg (za rfl) (za rfl) (by trivial)) y1 rfl))) ⟨by rw[hlen,zyW];exact ev,q⟩
   exact⟨B14 n1 n2 m J1 J2 D1 D2 os5 (sI (0+i)) (sT (zF T1)) (sT (zF T2)) e9 e10 (sI c) (sN os) f13,rfl,_,yC (yz (i:=13) (vK (zH (yM (za (i:=7) rfl) (za (i:=11) rfl) a1) (v9 (za (i:=6) rfl) (za (i:=4) rfl) (by trivial) (ye (by trivial) (by trivial))) x1 rfl) (za (i:=4) rfl) (ye (by trivial) (by trivial)) (ye (by trivial) (by trivial))) (zy rfl)) o2,os',l++[x*n2+y],_,_,rfl,o1,by rw[zzH,hlen];rfl⟩)
  ⟨[],[],_,_,rfl,OwsX.nil,rfl⟩
 rw[xZ]at hlen
 exact⟨os,l,f6,f13,ho,by trivial,hf⟩
theorem zvU{T1 T2:TZ}{e6 e9 e11 e12 e13:Option O}(h1:0<n1)(h2:0<n2)(hn:n1*n2<=8)(hm:m<=8)(t1:Tab m n1 T1)(t2:Tab m n2 T2):
 ∃os T f6 f11 f12 f13,OwsX zc (λ(c:Nat) r=>zbj (n1*n2) (n1*n2) (dB n2 (jAt T1) (jAt T2) c) r) os T/\T.length=m/\forL (gN 11) bs2 (vN 0 m) (B14 n1 n2 m J1 J2 D1 D2 os5 e6 (sT (zF T1)) (sT (zF T2)) e9 (sN []) e11 e12 e13)
  = some (.nx (B14 n1 n2 m J1 J2 D1 D2 os5 f6 (sT (zF T1)) (sT (zF T2)) e9 (sN os) f11 f12 f13)):=by
 obtain⟨as',hf,os,l,f6,f11,f12,f13,rfl,ho,hlen⟩:=vD (g:=gN 11) (f:=bs2)
  (λi as=>∃(os:List O) (l:TZ) (f6 f11 f12 f13:Option O),as=B14 n1 n2 m J1 J2 D1 D2 os5 f6 (sT (zF T1)) (sT (zF T2)) e9 (sN os) f11 f12 f13/\OwsX zc (λ(c:Nat) r=>zbj (n1*n2) (n1*n2) (dB n2 (jAt T1) (jAt T2) c) r) os l/\l.length=i)
  (vN 0 m) 0 (B14 n1 n2 m J1 J2 D1 D2 os5 e6 (sT (zF T1)) (sT (zF T2)) e9 (sN []) e11 e12 e13) (λi x as hx' hI=>by
   obtain⟨os,l,f6,f11,f12,f13,rfl,ho,hlen⟩:=hI
   obtain⟨rfl,hi⟩:=ZF hx'
   obtain⟨ps,r,g6,g13,p1,p2,p3⟩:=zwn (J1:=J1) (J2:=J2) (D1:=D1) (D2:=D2) (os5:=os5) (e6:=f6) (e9:=e9) (e10:=sN os) (e13:=f13) h1 h2 hn t1 t2 (c:=0+i) (by trivial) (by trivial)
   have ap:=zmR (as:=B14 n1 n2 m J1 J2 D1 D2 os5 g6 (sT (zF T1)) (sT (zF T2)) e9 (sN os) (sI (0+i)) (sN ps) g13) (i:=10) (j:=12) (by decide) rfl rfl (by rw[ho.ln];exact ZW (by trivial))
   rw[p1.ows.frz]at ap
   have pr:zbj (n1*n2) (n1*n2) (dB n2 (jAt T1) (jAt T2) i) r:=by
    have:=ziO p2 p1.al
    rw[Int.zero_add]at this
    exact this
   exact⟨B14 n1 n2 m J1 J2 D1 D2 os5 f6 (sT (zF T1)) (sT (zF T2)) e9 (sN os) (sI (0+i)) f12 f13,rfl,_,yC (wY (i:=12) (Zx ym (szl rfl)) (zy rfl)) (yC (wV (wZ (zx (za (i:=3) rfl) zR) (by trivial) (by trivial)) p3) ap),_,l++[r],_,_,_,_,rfl,ho.snoc (o:=.lf true (zc r)) (a:=r) rfl rfl (by rw[hlen,zyW];exact pr),by rw[zzH,hlen];rfl⟩)
  ⟨[],[],_,_,_,_,rfl,OwsX.nil,rfl⟩
 rw[xZ]at hlen
 exact⟨os,l,f6,f11,f12,f13,ho,by trivial,hf⟩
theorem zfH{α:Type}{f:α->D}{l:List α}{i:Nat}{d:D}(h:(l.map f)[i]? = some d):∃a ∈ l,d=f a:=by
 rw[zzG]at h
 obtain⟨a,h1,h2⟩:=zzV.mp h
 exact⟨a,zzY h1,h2.symm⟩
theorem zwP{w:Nat}{e6 e7 e8 e10 e11 e12 e13:Option O}(h1:0<n1)(h2:0<n2)(hn:n1*n2<=8)(hm:m<=8)(hw:w<=8)(l1:D1.length=w)(l2:D2.length=w)(hm0:0<m)(L1:LawP n1 m J1 D1)(L2:LawP n2 m J2 D2):
 ∃os Ds f6 f7 f8 f10 f11 f12 f13,Ows zF (λT=>Tab m (n1*n2) T/\LD (n1*n2) m (jB n2 (jAt J1) (jAt J2)) 0 (jAt T)) os Ds/\Ds.length=w/\forL (gT 2 (gsC (gN 7) (gsC (gN 8) gsN))) bs3 (W7 true (D1.map zF) (D2.map zF)) (B14 n1 n2 m J1 J2 D1 D2 os5 e6 e7 e8 (sN []) e10 e11 e12 e13)
  = some (.nx (B14 n1 n2 m J1 J2 D1 D2 os5 f6 f7 f8 (sN os) f10 f11 f12 f13)):=by
 obtain⟨as',hf,os,l,f6,f7,f8,f10,f11,f12,f13,rfl,ho,hlen⟩:=vD (g:=gT 2 (gsC (gN 7) (gsC (gN 8) gsN))) (f:=bs3)
  (λi as=>∃(os:List O) (l:List TZ) (f6 f7 f8 f10 f11 f12 f13:Option O),as=B14 n1 n2 m J1 J2 D1 D2 os5 f6 f7 f8 (sN os) f10 f11 f12 f13/\Ows zF (λT=>Tab m (n1*n2) T/\LD (n1*n2) m (jB n2 (jAt J1) (jAt J2)) 0 (jAt T)) os l/\l.length=i)
  (W7 true (D1.map zF) (D2.map zF)) 0 (B14 n1 n2 m J1 J2 D1 D2 os5 e6 e7 e8 (sN []) e10 e11 e12 e13) (λi x as hx' hI=>by
   obtain⟨os,l,f6,f7,f8,f10,f11,f12,f13,rfl,ho,hlen⟩:=hI
   obtain⟨d,e,z1,z2,rfl⟩:=zaL hx'
   have hil:i<D1.length:=by have:=(zzE.mp z1).1;rw[zD]at this;exact this
   obtain⟨T1,m1,rfl⟩:=zfH z1
   obtain⟨T2,m2,rfl⟩:=zfH z2
   obtain⟨ps,T,g6,g11,g12,g13,p1,p2,p3⟩:=zvU (J1:=J1) (J2:=J2) (D1:=D1) (D2:=D2) (os5:=os5) (e6:=f6) (e9:=sN os) (e11:=f11) (e12:=f12) (e13:=f13) h1 h2 hn hm (L1.td T1 m1) (L2.td T2 m2)
   have ap:=zmR (as:=B14 n1 n2 m J1 J2 D1 D2 os5 g6 (sT (zF T1)) (sT (zF T2)) (sN os) (sN ps) g11 g12 g13) (i:=9) (j:=10) (by decide) rfl rfl (by rw[ho.ln];exact ZW (by trivial))
   rw[p1.ows.frz]at ap
   have pt:zdn m (n1*n2) (dB n2 (jAt T1) (jAt T2)) T:=zbi p2 p1.al
   exact⟨B14 n1 n2 m J1 J2 D1 D2 os5 f6 (sT (zF T1)) (sT (zF T2)) (sN os) f10 f11 f12 f13,rfl,_,yC (wY (i:=10) (Zx ym (szl rfl)) (zy rfl)) (yC (wV (wZ (zx (za (i:=2) rfl) zR) (by trivial) (by trivial)) p3) ap),_,l++[T],_,_,_,_,_,_,_,rfl,ho.snoc (o:=.lf true (zF T)) (a:=T) rfl rfl ⟨pt.1,(ldB L1.lj L2.lj h2 (L1.ld T1 m1) (L2.ld T2 m2)).congr hm0 (ljB L1.lj L2.lj h2) (λ_ _ _ _=>rfl) pt.2⟩,by rw[zzH,hlen];rfl⟩)
  ⟨[],[],_,_,_,_,_,_,_,rfl,Ows.nil,rfl⟩
 rw[zdd,zD,zD,l1,l2,Nat.min_self]at hlen
 exact⟨os,l,f6,f7,f8,f10,f11,f12,f13,ho,by trivial,hf⟩
theorem zdv{as as2:AS}{j:Nat}{ps:List O}{fr:DF}{os:List O}(hj:as[j]? = some (sN ps))(hr:fr (as.set j (some (O.nd .ls ps).frz))=some (os,as2)):dC (fV j) fr as=some ((O.nd .ls ps).frz::os,as2):=by
 unfold dC
 rw[zgS hj]
 show((toO as (.bo j)).bind _)=_
 rw[zot hj]
 show(fr (as.set j (some (O.nd .ls ps).frz))).bind _=_
 rw[hr];rfl
theorem zfG{as as1:AS}{fr:DF}{os:List O}(h:fr as=some (os,as1))(hl:os.length<=sizeLine):yL fr as=some (.ow (WP os),as1):=by
 unfold yL
 rw[h];show(if os.length<=sizeLine then _ else _)=_
 rw[if_pos hl]
theorem znt{w:Nat}(h1:0<n1)(h2:0<n2)(hn:n1*n2<=8)(hm:m<=8)(hw:w<=8)(l1:D1.length=w)(l2:D2.length=w)(hm0:0<m)(L1:LawP n1 m J1 D1)(L2:LawP n2 m J2 D2):
 ∃J Ds,LawP (n1*n2) m J Ds/\Ds.length=w/\RE (Yd [(true,plD n1 J1 D1),(true,plD n2 J2 D2),(true,.int m)]) (plD (n1*n2) J Ds):=by
 have n28:n2<=8:=zzM (Nat.le_mul_of_pos_left n2 h1) hn
 have n18:n1<=8:=zzM (Nat.le_mul_of_pos_right n1 h2) hn
 obtain⟨os,J,e6,e7,e8,ho,hl,hf⟩:=zoK (m:=m) (D1:=D1) (D2:=D2) h1 h2 hn L1.tj L2.tj
 obtain⟨ps,Ds,f6,f7,f8,f10,f11,f12,f13,po,pl,pf⟩:=zwP (J1:=J1) (J2:=J2) (os5:=os) (e6:=e6) (e7:=e7) (e8:=e8) (e10:=none) (e11:=none) (e12:=none) (e13:=none) h1 h2 hn hm hw l1 l2 hm0 L1 L2
 have hJ:zdn (n1*n2) (n1*n2) (jB n2 (jAt J1) (jAt J2)) J:=zbi hl ho.al
 have ljb:=ljB L1.lj L2.lj h2
 refine⟨J,Ds,⟨hJ.1,ljb.congr hJ.2,λT mT=>(po.al T mT).1,λT mT=>(po.al T mT).2.congr hm0 ljb hJ.2 (λ_ _ _ _=>rfl)⟩,pl,yW rfl (zg (as1:=[sT (plD n1 J1 D1),sT (plD n2 J2 D2),sI m,sI ((n1*n2:Nat):Int),none,none,none,none,none,none,none,none,none,none]) ?_ (zg (yz (i:=4) (zH (za rfl) zb rfl rfl) (zy rfl)) (zg (wY (i:=5) (Zx ym (szl rfl)) (zy rfl)) (zg (wV (wZ (zx (za rfl) zR) (by trivial) (by trivial)) hf) (zg (wY (i:=9) (Zx ym (szl rfl)) (zy rfl)) (zg (wV ?_ pf) ?_))))))⟩
 · have:=yz (st:=true) (i:=3) (as:=[sT (plD n1 J1 D1),sT (plD n2 J2 D2),sI m,none,none,none,none,none,none,none,none,none,none,none]) (vK (zH (g:=ixP) (za (i:=0) rfl) (zb (x:=.int 0)) rfl rfl) (zH (g:=ixP) (za (i:=1) rfl) (zb (x:=.int 0)) rfl rfl) (ye (i:=(n1:Int)) (by trivial) (by trivial)) (ye (i:=(n2:Int)) (by trivial) (by trivial))) (zy rfl)
   rw[zzT]
   exact this
 · rfl
 · have e:=xT (as:=B14 n1 n2 m J1 J2 D1 D2 os f6 f7 f8 (sN ps) f10 f11 f12 f13) (a:=fV 3) (za rfl) (zdv (j:=5) (fr:=dC (fV 9) dN) rfl (zdv (j:=9) (fr:=dN) rfl rfl))
   rw[ho.ows.frz,po.frz]at e
   exact⟨_,W4 (zfG e (szl rfl)) rfl,rfl,rfl⟩
end
abbrev zlE:List D:=[.tup [.int 2,.int 2],.tup [.int 3,.int 2],.tup [.int 2,.int 3],.tup [.int 4,.int 2],.tup [.int 2,.int 4],.tup [.int 2,.int 2]]
theorem zoL(x:Int):∃a b:Nat,2<=a/\2<=b/\a*b<=8/\ixP (.lst zlE) (.int (x%6))=some (.im (.tup [.int a,.int b])):=by
 rcases(show x%6=0\/x%6=1\/x%6=2\/x%6=3\/x%6=4\/x%6=5 by trivial)with e|e|e|e|e|e<;>rw[e]
 · exact⟨2,2,by decide,by decide,by decide,rfl⟩
 · exact⟨3,2,by decide,by decide,by decide,rfl⟩
 · exact⟨2,3,by decide,by decide,by decide,rfl⟩
 · exact⟨4,2,by decide,by decide,by decide,rfl⟩
 · exact⟨2,4,by decide,by decide,by decide,rfl⟩
 · exact⟨2,2,by decide,by decide,by decide,rfl⟩
theorem zuP(x:Int):∃n:Nat,2<=n/\n<=8/\ixP (.lst [.int 2,.int 3,.int 4,.int 5,.int 3,.int 4,.int 6,.int 8]) (.int (x%8))=some (.im (.int n)):=by
 rcases(show x%8=0\/x%8=1\/x%8=2\/x%8=3\/x%8=4\/x%8=5\/x%8=6\/x%8=7 by trivial)with e|e|e|e|e|e|e|e<;>rw[e]
 · exact⟨2,by decide,by decide,rfl⟩
 · exact⟨3,by decide,by decide,rfl⟩
 · exact⟨4,by decide,by decide,rfl⟩
 · exact⟨5,by decide,by decide,rfl⟩
 · exact⟨3,by decide,by decide,rfl⟩
 · exact⟨4,by decide,by decide,rfl⟩
 · exact⟨6,by decide,by decide,rfl⟩
 · exact⟨8,by decide,by decide,rfl⟩
theorem KN4{x:Int}{n:Nat}(h:2<=n):KN (x%4) n:=by
 rcases(show x%4=0\/x%4=1\/x%4=2\/x%4=3 by trivial)with e|e|e|e<;>rw[e]
 · exact .inl ⟨rfl,by trivial⟩
 · exact .inr (.inl ⟨rfl,by trivial⟩)
 · exact .inr (.inr (.inl ⟨rfl,h⟩))
 · exact .inr (.inr (.inr (.inl ⟨rfl,h⟩)))
theorem zuj{as:AS}:WE (xU (dC (yL (dC yN (dC yN dN))) (dC (yL (dC Zc (dC yN dN))) (dC (yL (dC yN (dC Zc dN))) (dC (yL (dC wK (dC yN dN))) (dC (yL (dC yN (dC wK dN))) (dC (yL (dC yN (dC yN dN))) dN))))))) as (.lst zlE):=by
 have t:∀a b:Int,WD (yL (dC (fC (.int a)) (dC (fC (.int b)) dN))) as true (.tup [.int a,.int b]):=λa b=>zei (os:=[lfI a,lfI b]) (zp zb (zp zb ym)) (szl rfl) rfl
 exact vU (os:=zlE.map (O.lf true)) (zp (t 2 2) (zp (t 3 2) (zp (t 2 3) (zp (t 4 2) (zp (t 2 4) (zp (t 2 2) ym)))))) (szl rfl) rfl rfl
theorem zrj{c:Int}{m w:Nat}(hm0:0<m)(hm:m<=8)(hw:w<=8):∃(n:Nat) (J:TZ) (Ds:List TZ),1<=n/\n<=8/\LawP n m J Ds/\Ds.length=w/\RE (XF [(true,.int c),(true,.int m),(true,.int w)]) (plD n J Ds):=by
 obtain⟨xs,hl,hx,ws⟩:=stE (as:=[sI c,sI m,sI w,none,none,none,none,none]) (a:=fV 0) (b:=fC (.int 5)) (c:=c) (m:=5) (by trivial) (WD.e (za rfl)) (WD.e zb)
 obtain⟨x0,a0,_⟩:=at2 hx (k:=0) (by trivial) (by trivial)
 obtain⟨x1,a1,_⟩:=at2 hx (k:=1) (by trivial) (by trivial)
 obtain⟨x2,a2,_⟩:=at2 hx (k:=2) (by trivial) (by trivial)
 obtain⟨x3,a3,_⟩:=at2 hx (k:=3) (by trivial) (by trivial)
 obtain⟨x4,a4,_⟩:=at2 hx (k:=4) (by trivial) (by trivial)
 have y0:0<=x0%7/\x0%7<7:=⟨by trivial,by trivial⟩
 have start:∀(C:SF) (x:D),Rt (C [sI c,sI m,sI w,sT (zc xs),sI (x0%7),none,none,none]) x->Rt (zB (zO true 3 (zN (aC zq (aC zcK aN)) zT)) (zB (zO true 4 (f2 (f2 zV yF ixP) (fC (.int 7)) zA)) C) [sI c,sI m,sI w,none,none,none,none,none]) x:=λC x h=>
  zg (vH (p:=3) ws (zy rfl)) (zg (yz (i:=4) (yg (zH (za rfl) zb a0 rfl) zb (by decide)) (zy rfl)) h)
 generalize x0%7=k at y0 start
 by_cases hk:4<k
 · obtain⟨a,b,ha,hb,hab,es⟩:=zoL x1
   obtain⟨J1,D1,L1,l1,p1⟩:=zhz (k:=x2%4) (c:=x3) (m:=m) (w:=w) (KN4 ha) (zzM (Nat.le_mul_of_pos_right a (by trivial)) hab) hm0 hm hw
   obtain⟨J2,D2,L2,l2,p2⟩:=zhz (k:=x4%4) (c:=x3+7) (m:=m) (w:=w) (KN4 hb) (zzM (Nat.le_mul_of_pos_left b (by trivial)) hab) hm0 hm hw
   obtain⟨J,Ds,q1,q2,q4⟩:=znt (n1:=a) (n2:=b) (m:=m) (w:=w) (by trivial) (by trivial) hab hm hw l1 l2 hm0 L1 L2
   refine⟨a*b,J,Ds,Nat.mul_pos (by trivial) (by trivial),hab,q1,q2,yW rfl (start _ _ (vB (Zm (yc (zdh (za rfl) zb) (congrArg some (zyM hk))) (zg (yz (i:=5) (f2E zuj (WD.e (yg (zH (za rfl) zb a1 rfl) zb (by decide))) es) (zy rfl)) (zg (vH (p:=6) (ziR (WD.e (yg (zH (za rfl) zb a2 rfl) zb (by decide))) (WD.e (zH (za rfl) zb rfl rfl)) (WD.e (za rfl)) (WD.e (za rfl)) (WD.e (zH (za rfl) zb a3 rfl)) p1) (zy rfl)) (yR (YM (WD.e (za rfl)) (ziR (WD.e (yg (zH (za rfl) zb a4 rfl) zb (by decide))) (WD.e (zH (za rfl) zb rfl rfl)) (WD.e (za rfl)) (WD.e (za rfl)) (WD.e (xr (zH (za rfl) zb a3 rfl) zb)) p2) (WD.e (za rfl)) q4)))))))⟩
 · obtain⟨n,n2,n8,en⟩:=zuP x1
   have fin:∀n':Nat,KN k n'->n'<=8->∃(n:Nat) (J:TZ) (Ds:List TZ),1<=n/\n<=8/\LawP n m J Ds/\Ds.length=w/\Rt (yE (zN (aC yD (aC v4 (aC zr (aC zG (aC (f2 zV Zc ixP) aN))))) wM) [sI c,sI m,sI w,sT (zc xs),sI k,none,none,sI n']) (plD n J Ds):=λn' hK h8=>by
    obtain⟨J,Ds,L1,l1,p1⟩:=zhz (k:=k) (c:=x3) (m:=m) (w:=w) hK h8 hm0 hm hw
    refine⟨n',J,Ds, ?_,h8,L1,l1,yR (ziR (WD.e (za rfl)) (WD.e (za rfl)) (WD.e (za rfl)) (WD.e (za rfl)) (WD.e (zH (za rfl) zb a3 rfl)) p1)⟩
    unfold KN at hK
    trivial
   have hk':=congrArg some (zyE hk)
   have set7:zO true 7 (f2 (xU (dC yN (dC Zc (dC wK (dC zcK (dC Zc (dC wK (dC zct (dC Yz dN))))))))) (f2 (f2 zV yp ixP) Yz zA) ixP) [sI c,sI m,sI w,sT (zc xs),sI k,none,none,none]=some (.nx [sI c,sI m,sI w,sT (zc xs),sI k,none,none,sI n]):=
    yz (i:=7) (f2E (vU (os:=([2,3,4,5,3,4,6,8]:List Int).map lfI) (zp zb (zp zb (zp zb (zp zb (zp zb (zp zb (zp zb (zp zb ym)))))))) (szl rfl) rfl rfl) (WD.e (yg (zH (za rfl) zb a1 rfl) zb (by decide))) en) (zy rfl)
   by_cases h4:k=4
   · subst h4
     obtain⟨n',J,Ds,r1,r2,r3,r4,r6⟩:=fin 4 (.inr (.inr (.inr (.inr ⟨rfl,rfl⟩)))) (by decide)
     exact⟨n',J,Ds,r1,r2,r3,r4,yW rfl (start _ _ (zg (yw (yc (zdh (za rfl) zb) hk') rfl) (zg set7 (zg (yw (Vv (k:=false) (yc (yV (za rfl) zb rfl) rfl) (λh=>nomatch h) (λ_=>rfl)) rfl) (zg (Yh (yc (yV (za rfl) zb rfl) rfl) (yz (i:=7) zb (zy rfl))) r6)))))⟩
   · have f4:∀e:Option O,WT (fT (f2 yD wK (zY .Eq))) [sI c,sI m,sI w,sT (zc xs),sI k,none,none,e] false:=λe=>yc (yV (za rfl) zb rfl) (by show some (k==4)=_;simp[h4])
     by_cases h0:k=0/\x2%9=0
     · obtain⟨rfl,h9⟩:=h0
       obtain⟨n',J,Ds,r1,r2,r3,r4,r6⟩:=fin 1 (.inl ⟨rfl,zzL _⟩) (by decide)
       exact⟨n',J,Ds,r1,r2,r3,r4,yW rfl (start _ _ (zg (yw (yc (zdh (za rfl) zb) hk') rfl) (zg set7 (zg (Yh (Vv (k:=true) (yc (yV (za rfl) zb rfl) rfl) (λ_=>yc (yV (yg (zH (za rfl) zb a2 rfl) zb (by decide)) zb rfl) (by show some (x2%9==0)=_;simp[h9])) (λh=>nomatch h)) (yz (i:=7) zb (zy rfl))) (zg (yw (f4 _) rfl) r6)))))⟩
     · have hK:KN k n:=by unfold KN;trivial
       obtain⟨n',J,Ds,r1,r2,r3,r4,r6⟩:=fin n hK n8
       refine⟨n',J,Ds,r1,r2,r3,r4,yW rfl (start _ _ (zg (yw (yc (zdh (za rfl) zb) hk') rfl) (zg set7 (zg (yw (Vv (k:=k==0) (yc (yV (za rfl) zb rfl) rfl) (λh=>yc (yV (yg (zH (za rfl) zb a2 rfl) zb (by decide)) zb rfl) ?_) (λ_=>rfl)) rfl) (zg (yw (f4 _) rfl) r6)))))⟩
       have hk0:k=0:=by simpa using h
       show some (x2%9==0)=some false
       have:¬x2%9=0:=λz=>h0 ⟨hk0,z⟩
       simp[this]
theorem zho{f:EF}{as:AS}{ds:List D}(h:WE f as (.lst ds)):zeq f as=some (ds.map λd=>(true,d),as):=by
 obtain⟨o,h1,h2,h3⟩:=h
 unfold zeq
 rw[h1]
 have e:zdB as (.ow o)=some ((o.str,o.toD),as):=rfl
 show(zdB as (RV.ow o)).bind (λq=>(zkp q.1).bind λds=>some (ds,q.2))=_
 rw[e,h2,h3]
 show some (kids true ds,as)=_
 rw[zjH]
theorem zga:∀(l:List Int) (k:Nat) (h:k<l.length),(l[k]::l.eraseIdx k).Perm l
 |x::r,0,_=>List.Perm.refl _
 |x::r,k+1,h=>(List.Perm.swap _ _ _).trans ((zga r k (by simpa using h)).cons x)
abbrev yr(n:Nat):List Int:=(List.range n).map λ(i:Nat)=>(i:Int)
theorem zpR{c:Int}{n:Nat}(hn:0<n)(hn8:n<=8):∃F:List Int,F.Perm (yr n)/\RE (YG [(true,.int c),(true,.int n)]) (zc F):=by
 obtain⟨xs,hl,hx,ws⟩:=stE (as:=[sI c,sI n,sN ((yr n).map lfI),sN [],none]) (a:=fV 0) (b:=fV 1) (c:=c) (m:=n) (by trivial) (WD.e (za rfl)) (WD.e (za rfl))
 obtain⟨as',hf,L,F,e4,rfl,hp,hlen⟩:=vD (g:=gN 4) (f:=xx (vf 3 (dC (vf 2 (dC (f2 yD (fP Wy Zr) zA) dN) zaI) dN) vM))
  (λi as=>∃(L F:List Int) (e4:Option O),as=[sI c,sI n,sN (L.map lfI),sN (F.map lfI),e4]/\(L++F).Perm (yr n)/\L.length+i=n)
  ((xs.map D.int).map λd=>(true,d)) 0 [sI c,sI n,sN ((yr n).map lfI),sN [],none] (λi x as hx' hI=>by
    obtain⟨L,F,e4,rfl,hp,hlen⟩:=hI
    have hi:i<n:=by
     have:=(zzE.mp hx').1
     rw[zD,zD,hl]at this
     exact this
    obtain⟨y,rfl⟩:∃y:Int,x=(true,.int y):=by
     rw[zzZ,zzG]at hx'
     obtain⟨a,_,h2⟩:=zzV.mp hx'
     exact⟨a,h2.symm⟩
    have l0:(0:Int)<((L.map lfI).length:Int):=by rw[zD];trivial
    have z0:=zyL y (show((L.map lfI).length:Int)≠0 by trivial)
    have z1:=zyF y l0
    have hk:(y%((L.map lfI).length:Int)).toNat<L.length:=by rw[zD]at z0 z1 ⊢;trivial
    generalize hkk:(y%((L.map lfI).length:Int)).toNat=k at hk
    have pop:=zpH (as:=[sI c,sI n,sN (L.map lfI),sN (F.map lfI),sI y]) (i:=2) (os:=L.map lfI) (o:=lfI L[k]) rfl (yg (za (i:=4) rfl) (zwU (i:=2) rfl) l0) z0 z1 (by rw[zD];trivial) (by rw[hkk,zzG,zzC hk];rfl)
    rw[hkk,show(L.map lfI).eraseIdx k=(L.eraseIdx k).map lfI by rw[List.eraseIdx_eq_take_drop_succ,List.eraseIdx_eq_take_drop_succ,zyK,List.map_take,List.map_drop]]at pop
    have ap:=zjs (i:=3) (os:=F.map lfI) (as:=[sI c,sI n,sN (L.map lfI),sN (F.map lfI),sI y]) rfl pop rfl (by rw[zD];have:=hp.length_eq;rw[zzH,zD,zyS]at this;exact ZW (by trivial))
    rw[<-zlb]at ap
    refine⟨[sI c,sI n,sN (L.map lfI),sN (F.map lfI),sI y],rfl,_,ap,L.eraseIdx k,F++[L[k]],_,rfl, ?_,by rw[List.length_eraseIdx_of_lt hk];trivial⟩
    rw[<-zxB]
    refine(List.perm_append_singleton _ _).trans ?_
    rw[<-List.cons_append]
    exact((zga L k hk).append_right F).trans hp)
  ⟨yr n,[],none,rfl,by rw[zyC],by rw[zD,zyS];rfl⟩
 rw[zD,zD,hl]at hlen
 have hL:L=[]:=List.eq_nil_of_length_eq_zero (by trivial)
 subst hL
 have s2:=wY (i:=2) (as:=[sI c,sI n,none,none,none]) (zjb (a:=fV 1) (x:=.int n) (g:=lrP) (zs:=(yr n).map D.int) (WD.e (za rfl)) (by
  show(if(0:Int)<=n/\(n:Int)<=100000 then _ else _)=_
  rw[if_pos ⟨by trivial,by trivial⟩,zzZ];rfl)) (zy rfl)
 rw[ziU]at s2
 exact⟨F,hp,yW rfl (zg s2 (zg (wY (i:=3) (Zx ym (szl rfl)) (zy rfl)) (zg (wV (zho ws) hf) ⟨_,zmV (i:=3) rfl (vO F).2.1,(VP F).1,(VP F).2⟩)))⟩
abbrev abc:Str:="abcdefghijklmnopqrstuvwxyz"
theorem zrh:∀k,k<26->abc.cps.toList[k]? = some (97+k):=by decide +kernel
theorem zov{i:Int}(h0:0<=i)(h1:i<26):ixP (.str abc) (.int i)=some (.im (.str ⟨#[97+i.toNat]⟩)):=by
 show(if abc.length<=sizeLine then(atI abc.cps.toList i).bind (λc=>some (R0.im (.str ⟨#[c]⟩)))else none)=_
 rw[if_pos (show abc.length<=sizeLine by decide +kernel)]
 have:=Xj (zrh i.toNat (by trivial))
 rw[show((i.toNat:Nat):Int)=i by trivial]at this
 rw[this];rfl
theorem zki:∀l:List Str,zez (l.map D.str)=some l
 | []=>rfl
 |x::r=>by
  show(zez (r.map D.str)).bind _=_
  rw[zki r];rfl
theorem zvL:∀l:List Str,(∀s ∈ l,s.length=1)->(l.map (·.length)).sum=l.length
 | [],_=>rfl
 |x::r,h=>by
  show x.length+(r.map (·.length)).sum=r.length+1
  rw[h x (zzD ..),zvL r λs m=>h s (zzB _ m)];trivial
theorem len_app(a b:Str):(a++b).length=a.length+b.length:=by
 show(a++b).cps.size=a.cps.size+b.cps.size
 rw[Str.cps_append,Array.size_append]
theorem zlg:∀l:List Str,(∀s ∈ l,s.length=1)->(Str.join "" l).length=l.length
 | [],_=>rfl
 | [x],h=>h x (zzD ..)
 |x::y::r,h=>by
  show(x++""++Str.join "" (y::r)).length=_
  rw[len_app,len_app,h x (zzD ..),zlg (y::r) λs m=>h s (zzB _ m)]
  show 1+0+(r.length+1)=r.length+1+1
  trivial
theorem add_str{a b:Str}(h:a.length+b.length<=1000):W3 .Add (.str a) (.str b)=some (.im (.str (a++b))):=if_pos (szs (by trivial))
abbrev nm(A B:Str)(x:Int)(k:Nat):Str:=A++⟨#[97+((x+3*(k:Int))%26).toNat]⟩++B
theorem ztN{A B:Str}{x:Int}{k j:Nat}(hk:k<10)(hj:j<10)(h:nm A B x k=nm A B x j):k=j:=by
 have h:=congrArg (λs:Str=>s.cps.toList) h
 simp only[Str.cps_append,Array.toList_append,zxB,List.append_cancel_left_eq]at h
 have h:=(List.append_cancel_right h)
 injection h with h
 trivial
theorem zoD{c:Int}:∃ss:List Str,ss.length=10/\ss.Nodup/\RE (YH [(true,.int c),(true,.int (10:Nat))]) (.lst (ss.map D.str)):=by
 obtain⟨xs,hl,hx,ws⟩:=stE (as:=[sI c,sI (10:Nat),sT (.str abc),none,none,none,none,none]) (a:=fV 0) (b:=fC (.int 9)) (c:=c) (m:=9) (by trivial) (WD.e (za rfl)) (WD.e zb)
 obtain⟨x8,a8,_⟩:=at2 hx (k:=8) (by trivial) (by trivial)
 have hk:(1+c%8).toNat<=9:=by trivial
 have sl:WE (fSl zV oN (oS (f2 yp (f2 zq Yz zA) zE)) slP) [sI c,sI (10:Nat),sT (.str abc),sT (zc xs),none,none,none,none] (.lst ((xs.take (1+c%8).toNat).map D.int)):=by
  refine Xc (lo:=none) (hi:=some (1+c%8)) (WD.e (za rfl)) rfl ?_ ?_
  · have:=xr (as:=[sI c,sI (10:Nat),sT (.str abc),sT (zc xs),none,none,none,none]) (zb (x:=.int 1)) (yg (za (i:=0) rfl) (zb (x:=.int 8)) (by decide))
    unfold oS
    unfold WD at this
    rw[this];rfl
  · have:=zlJ (xs:=(xs.take (1+c%8).toNat).map D.int) (ys:=(xs.drop (1+c%8).toNat).map D.int)
    rw[<-zyK,List.take_append_drop,zD,zzQ,Nat.min_eq_left (by trivial),show(((1+c%8).toNat:Nat):Int)=1+c%8 by trivial]at this
    exact this
 obtain⟨l,l1,l2,l3⟩:=zfz D.str (Q:=λs=>s.length=1) (cap:=[none,some 2]) (g:=gN 0) (fe:=f2 zr (f2 zq (fC (.int 26)) zA) ixP) (zbI sl) (by rw[zD,zD,zzQ];trivial) λy m=>by
  rw[zzZ]at m
  obtain⟨z,_,rfl⟩:=zxC.mp m
  exact⟨[sI z,sT (.str abc)],⟨#[97+(z%26).toNat]⟩,rfl,WD.e (zH (za rfl) (yg (za rfl) zb (by decide)) (zov (by trivial) (by trivial)) rfl),rfl⟩
 rw[zD,zD,zzQ]at l1
 have hb:(Str.join "" l).length=l.length:=zlg l l2
 have hm:WD (XH .str (fC (.str "")) (aC (zL (xq (fSl zV oN (oS (f2 yp (f2 zq Yz zA) zE)) slP)) [none,some 2] yh yf (f2 zr (f2 zq (fC (.int 26)) zA) ixP)) aN) znj) [sI c,sI (10:Nat),sT (.str abc),sT (zc xs),none,none,none,none] true (.str (Str.join "" l)):=
  zfu zb rfl (XJ l3 zR) (by
   show(zez (l.map D.str)).bind _=_
   rw[zki]
   show(if(l.map (·.length)).sum+l.length*0<=16777216 then some (R0.im (.str (Txt.join "" l)))else none)=_
   rw[if_pos (by rw[zvL l l2];trivial),zpO]) rfl
 generalize Str.join "" l=base at hb hm
 have lb:(0:Int)<(base.length:Int):=by trivial
 have lz:base.length<=sizeLine:=szs (by trivial)
 have z0:=zyL (c/8) (show(base.length:Int)≠0 by trivial)
 have z1:=zyF (c/8) lb
 generalize hat:c/8%(base.length:Int)=at_ at z0 z1
 have lA:=Txt.slice_le base none (some at_)
 have lB:=Txt.slice_le base (some (at_+1)) none
 have eA:slS (.str base) none (some at_)=some (.im (.str (Txt.slice base none (some at_)))):=if_pos lz
 have eB:slS (.str base) (some (at_+1)) none=some (.im (.str (Txt.slice base (some (at_+1)) none))):=if_pos lz
 generalize Txt.slice base none (some at_)=A at lA eA
 generalize Txt.slice base (some (at_+1)) none=B at lB eB
 have lo1:∀(f:EF) (as:AS) (k:Int),WD f as true (.int k)->oS f as=some (some k,as):=λf as k h=>by
  unfold oS
  unfold WD at h
  rw[h];rfl
 obtain⟨as',hf,os,e7,rfl,ho⟩:=vD (g:=gN 7) (f:=xx (vf 6 (dC (f2 (f2 (fSl yD oN (oS wR) slS) (f2 zG (f2 (f2 (f2 zV Yz ixP) (f2 Zc v4 zU) zE) (fC (.int 26)) zA) ixP) zE) (fSl yD (oS (f2 wR yp zE)) oN slS) zE) dN) vM))
  (λi as=>∃(os:List O) (e7:Option O),as=[sI c,sI (10:Nat),sT (.str abc),sT (zc xs),sT (.str base),sI at_,sN os,e7]/\Ows D.str (λ_=>True) os ((List.range i).map (nm A B x8)))
  (vN 0 10) 0 [sI c,sI (10:Nat),sT (.str abc),sT (zc xs),sT (.str base),sI at_,sN [],none] (λi x as hx' hI=>by
   obtain⟨os,e7,rfl,ho⟩:=hI
   obtain⟨rfl,hi⟩:=ZF hx'
   rw[zyW]at ho
   have d1:=zov (i:=(x8+3*((0:Int)+i))%26) (by trivial) (by trivial)
   have e0:(x8+3*((0:Int)+i))%26=(x8+3*(i:Int))%26:=by rw[Int.zero_add]
   obtain⟨os',o1,o2⟩:=zoz (as:=[sI c,sI (10:Nat),sT (.str abc),sT (zc xs),sT (.str base),sI at_,sN os,sI (0+i)]) (x:=nm A B x8 i) (i:=6) (toD:=D.str) (Q:=λ_=>True) (a:=f2 (f2 (fSl yD oN (oS wR) slS) (f2 zG (f2 (f2 (f2 zV Yz ixP) (f2 Zc v4 zU) zE) (fC (.int 26)) zA) ixP) zE) (fSl yD (oS (f2 wR yp zE)) oN slS) zE) rfl ho (by rw[zD,zyS];trivial)
    (WD.e (yM (yM (zhY (za (i:=4) rfl) rfl (lo1 _ _ _ (za (i:=5) rfl)) eA) (zH (za (i:=2) rfl) (yg (xr (zH (za (i:=3) rfl) zb a8 rfl) (vK zb (za (i:=7) rfl) (ye (by decide) (by decide)) (ye (by trivial) (by trivial)))) zb (by decide)) d1 rfl) (add_str (by show A.length+1<=_;trivial))) (zhY (za (i:=4) rfl) (lo1 _ _ _ (xr (za (i:=5) rfl) zb)) rfl eB) (by
     rw[e0]
     exact add_str (by rw[len_app];show A.length+1+B.length<=_;trivial)))) trivial
   refine⟨[sI c,sI (10:Nat),sT (.str abc),sT (zc xs),sT (.str base),sI at_,sN os,sI (0+i)],rfl,_,o2,os',_,rfl, ?_⟩
   rw[show 0+i+1=i+1 by trivial,List.range_succ,zyK]
   exact o1)
  ⟨[],none,rfl,Ows.nil⟩
 rw[xZ,zyW]at ho
 have s5:=yz (st:=true) (i:=5) (as:=[sI c,sI (10:Nat),sT (.str abc),sT (zc xs),sT (.str base),none,none,none]) (yg (v9 (za (i:=0) rfl) (zb (x:=.int 8)) (by decide) (ye (by decide) (by decide))) (wU (g:=Zr) (x:=.int base.length) (zx (za (i:=4) rfl) zR) (if_pos lz) rfl) lb) (zy rfl)
 rw[hat]at s5
 refine⟨(List.range 10).map (nm A B x8),by rw[zD,zyS], ?_,yW rfl (zg (yz (i:=2) zb (zy rfl)) (zg (vH (p:=3) ws (zy rfl)) (zg (yz (i:=4) hm (zy rfl)) (zg s5 (zg (wY (i:=6) (Zx ym (szl rfl)) (zy rfl)) (zg (wV (wZ (zx (za rfl) zR) (by decide) (by decide)) hf) (Ows.retB (i:=6) rfl ho)))))))⟩
 exact List.pairwise_map.mpr ((List.nodup_range (n:=10)).imp_of_mem λha hb hne he=>hne (ztN (List.mem_range.mp ha) (List.mem_range.mp hb) he))
theorem zvx{a b:EF}{as:AS}{d1 d2:List D}(ha:WE a as (.lst d1))(hb:WE b as (.lst d2)):zno (aC a (aC b aN)) as=some (W7 true d1 d2,as):=by
 have h:=XJ ha (XJ hb (zR (as:=as)))
 unfold WA at h
 unfold zno
 rw[h];rfl
theorem zdw{g:GF}{tt:TF}{fe:EF}{as0:AS}:∀{xs:List It1},(∀y ∈ xs,∃as1 b x,g y as0=some as1/\WT tt as1 b/\WD fe as1 true (.int x))->∃l:List Int,wD g tt fe as0 xs=some (l.map lfI)
 | [],_=>⟨[],rfl⟩
 |y::xs,H=>by
  obtain⟨as1,b,x,h1,h2,h3⟩:=H y (zzD ..)
  obtain⟨l,hl⟩:=zdw (g:=g) (tt:=tt) (fe:=fe) (as0:=as0) (xs:=xs) λz m=>H z (zzB _ m)
  cases b with
  |true=>exact⟨x::l,znQ h1 h2 h3 hl⟩
  |false=>exact⟨l,zil h1 h2 hl⟩
abbrev yU(p:Str×List Int):D:=.tup [.str p.1,zc p.2]
abbrev Sg(S:SS):Prop:=S.length<=10/\(S.map (·.1)).Nodup
abbrev zsx:List Int:=[1,2,4,8,16,32,64,128]
theorem zmI(st:Bool):∀(a b:List D),(W7 st a b).length<=b.length
 | [],b=>Nat.zero_le _
 |_::_,[]=>zzL _
 |_::a,_::b=>Nat.succ_le_succ (zmI st a b)
theorem zpn{c:Int}{n:Nat}{ns:List Str}(hn:n<=8)(hl:ns.length<=10)(nd:ns.Nodup):∃ss:SS,Sg ss/\RE (Z0 [(true,.int c),(true,.int n),(true,.lst (ns.map D.str))]) (.lst (ss.map yU)):=by
 obtain⟨xs,xl,hx,ws⟩:=stE (as:=[sI c,sI n,sT (.lst (ns.map D.str)),sN [],none,none]) (a:=fV 0) (b:=fP Wy Zr) (c:=c) (m:=ns.length) (by omega) (WD.e (za rfl)) (WD.e (wU (zx (za rfl) zR) (by show some (R0.im (.int ((ns.map D.str).length:Int)))=_;rw[zD]) rfl))
 obtain⟨as',hf,os,l,e4,e5,rfl,ho,hll,hnm⟩:=vD (g:=gT 2 (gsC V8 (gsC (gN 5) gsN))) (f:=xx (vf 3 (dC (yL (dC wR (dC (zL (yJ wN yK) [none,some 4] yh (fT (f2 (f2 (f2 zr (f2 (xU (dC yp (dC yN (dC wK (dC Yz (dC (fC (.int 16)) (dC (fC (.int 32)) (dC (fC (.int 64)) (dC (fC (.int 128)) dN))))))))) zq ixP) zP) yN zA) yp (zY .Eq))) zq) dN))) dN) vM))
  (λi as=>∃(os:List O) (l:SS) (e4 e5:Option O),as=[sI c,sI n,sT (.lst (ns.map D.str)),sN os,e4,e5]/\Ows yU (λ_=>True) os l/\l.length=i/\l.map (·.1)=ns.take i)
  (W7 true (xs.map D.int) (ns.map D.str)) 0 [sI c,sI n,sT (.lst (ns.map D.str)),sN [],none,none] (λi x as hx' hI=>by
   obtain⟨os,l,e4,e5,rfl,ho,hlen,hnm⟩:=hI
   obtain⟨d,e,z1,z2,rfl⟩:=zaL hx'
   have hil:i<ns.length:=by have:=(zzE.mp z2).1;rw[zD]at this;exact this
   obtain⟨y,m1,rfl⟩:=zfH z1
   rw[zzG]at z2
   obtain⟨s,m2,rfl⟩:=zzV.mp z2
   obtain⟨r,hr⟩:=zdw (g:=gN 0) (as0:=[none,sI y]) (tt:=fT (f2 (f2 (f2 zr (f2 (xU (dC yp (dC yN (dC wK (dC Yz (dC (fC (.int 16)) (dC (fC (.int 32)) (dC (fC (.int 64)) (dC (fC (.int 128)) dN))))))))) zq ixP) zP) yN zA) yp (zY .Eq))) (fe:=fV 0) (xs:=vN 0 n) λw m=>by
    obtain⟨b,rfl,b0,b1⟩:=zfx m
    obtain⟨q,q1,q2⟩:=zfW (r:=zsx) (P:=λx=>0<x/\x<1000) (k:=b) b0 (by show b<8;omega) (by decide)
    exact⟨[sI b,sI y],_,b,rfl,yc (yV (yg (v9 (za rfl) (f2E (vU (os:=zsx.map lfI) (zp zb (zp zb (zp zb (zp zb (zp zb (zp zb (zp zb (zp zb ym)))))))) (szl rfl) rfl rfl) (WD.e (za rfl)) q1) q2.1 (ye (by omega) (by omega))) zb (by decide)) zb rfl) rfl,za rfl⟩
   have hc:=Wj (as:=[sI c,sI n,sT (.lst (ns.map D.str)),sN os,sI y,sT (.str s)]) (cap:=[none,some 4]) (wZ (zx (za (i:=1) rfl) zR) (by omega) (by omega)) (by rw[xZ];exact szs (by omega)) hr
   obtain⟨os',o1,o2⟩:=zoz (as:=[sI c,sI n,sT (.lst (ns.map D.str)),sN os,sI y,sT (.str s)]) (x:=(s,r)) (i:=3) (toD:=yU) (Q:=λ_=>True) rfl ho (by omega) (zeb (zp (za (i:=5) rfl) (Wu hc ym)) (szl rfl) (by show(true&&((O.nd .ls (r.map lfI)).str&&true))=true;rw[(VP r).1];rfl) (by show D.tup [.str s,(O.nd .ls (r.map lfI)).toD]=_;rw[(VP r).2])) trivial
   exact⟨[sI c,sI n,sT (.lst (ns.map D.str)),sN os,sI y,sT (.str s)],rfl,_,o2,os',l++[(s,r)],_,_,rfl,o1,by rw[zzH,hlen];show 0+i+1=_;omega,by rw[zyK,hnm,zyW,List.take_succ,m2];rfl⟩)
  ⟨[],[],none,none,rfl,Ows.nil,rfl,rfl⟩
 have hz:l.length<=10:=zzM (Nat.le_of_eq (hll.trans (zyW _))) (zzM (zmI _ _ _) (zzM (Nat.le_of_eq (zD ..)) hl))
 exact⟨l,⟨hz,by rw[hnm];exact nd.sublist (List.take_sublist _ _)⟩,yW rfl (zg (wY (i:=3) (Zx ym (szl rfl)) (zy rfl)) (zg (wV (zvx ws (WD.e (za rfl))) hf) (Ows.retB (i:=3) rfl ho)))⟩
theorem any_ints(b:Int):∀r:List Int,∃t,anyF (λy=>eqF 50 y (.int b)) (r.map D.int)=some t
 | []=>⟨_,rfl⟩
 |x::r=>by
  obtain⟨t,h⟩:=any_ints b r
  refine⟨(x==b)||t, ?_⟩
  show(some (x==b)).bind _=_
  rw[zyJ,h];rfl
theorem zhv{b:Int}:∀{r:List Int},b ∈ r->∃j:Nat,j<r.length/\r[j]? = some b/\zdU (λy=>eqF 50 y (.int b)) (r.map D.int)=some j
 |x::r,m=>by
  by_cases e:x=b
  · obtain⟨t,h⟩:=any_ints b r
    refine⟨0,Nat.succ_pos _,by rw[e];rfl, ?_⟩
    show(some (x==b)).bind _=_
    rw[zyJ,show(x==b)=true by simp[e]]
    show(anyF _ (r.map D.int)).bind _=_
    rw[h];rfl
  · obtain⟨j,h1,h3,h2⟩:=zhv (r:=r) ((zzA.mp m).resolve_left λz=>e z.symm)
    refine⟨j+1,Nat.succ_lt_succ h1,by simpa using h3, ?_⟩
    show(some (x==b)).bind _=_
    rw[zyJ,show(x==b)=false by simp[e]]
    show(zdU _ (r.map D.int)).bind _=_
    rw[h2];rfl
theorem zgD{F:List Int}{n:Nat}(h:F.Perm (yr n)):Row n F/\∀b:Int,0<=b->b<n->b ∈ F:=by
 refine⟨⟨by rw[h.length_eq,zD,zyS],λx m=>?_⟩,λb b0 b1=>h.mem_iff.mpr ?_⟩
 · obtain⟨i,hi,rfl⟩:=zxC.mp (h.mem_iff.mp m)
   have:=List.mem_range.mp hi
   trivial
 · exact zxC.mpr ⟨b.toNat,List.mem_range.mpr (by trivial),by trivial⟩
theorem zqV{α:Type}(toD:α->D){Q:Nat->α->Prop}{fr:AF}{cap:List (Option Nat)}{fe:EF}{as:AS}{n:Nat}{u:Bool}(h1:WA fr as [(u,.int n)])(hl:n<=1000)(H:∀i:Nat,i<n->∃as1 a,gN 0 (true,.int (i:Int)) (ZQ cap as)=some as1/\WE fe as1 (toD a)/\Q i a):
 ∃l:List α,l.length=n/\(∀i a,l[i]? = some a->Q i a)/\WE (zL (yJ fr yK) cap yh yf fe) as (.lst (l.map toD)):=by
 obtain⟨l,a1,a2,a3⟩:=zhS toD (Q:=Q) (cap:=cap) (g:=gN 0) (fe:=fe) (wZ h1 (by trivial) (by trivial)) (by rw[xZ];trivial) (λi y m=>by
  obtain⟨rfl,hi⟩:=ZF m
  rw[Int.zero_add]
  exact H i (by trivial))
 rw[xZ]at a1
 exact⟨l,by trivial,a2,a3⟩
theorem zoQ{F:List Int}{n:Nat}(h:F.Perm (yr n)){v w:Int}(hv:InR n v)(hw:InR n w)(e:rAt F v=rAt F w):v=w:=by
 have hl:=(zgD h).1.1
 have v0:=hv.1
 have v1:=hv.2
 have w0:=hw.1
 have w1:=hw.2
 have nd:F.Nodup:=by
  refine h.nodup_iff.mpr (List.pairwise_map.mpr (List.nodup_range.imp λz q=>z (by trivial)))
 rw[Vj (by trivial),Vj (by trivial)]at e
 have:=(List.getElem_inj nd).mp e
 trivial
theorem zvw{as:AS}{F:List Int}{n:Nat}{cap:List (Option Nat)}{fr:AF}(hF:F.Perm (yr n))(hn:n<=8)(h1:WA fr as [(true,.int n)])(h2:∀b:Int,gN 0 (true,.int b) (ZQ cap as)=some [sI b,sT (zc F)]):
 ∃B,(Row n B/\(∀v,InR n v->rAt F (rAt B v)=v)/\∀v,InR n v->rAt B (rAt F v)=v)/\WE (zL (yJ fr yK) cap yh yf (XH .lst zr Zd Xw)) as (zc B):=by
 obtain⟨r1,r2⟩:=zgD hF
 obtain⟨B,b1,b2,b3⟩:=zqV D.int (Q:=λi x=>rAt F x=i/\InR n x) (n:=n) (cap:=cap) (fe:=XH .lst zr Zd Xw) h1 (by trivial) λb hb=>by
  obtain⟨j,j1,j3,j2⟩:=zhv (r2 b (by trivial) (by trivial))
  refine⟨_,(j:Int),h2 b,WD.e (zfu (za rfl) rfl (zx (za rfl) zR) ?_ rfl), ?_,by trivial,by rw[r1.1]at j1;trivial⟩
  · show(zdU _ (F.map D.int)).bind _=_
    rw[j2]
    show(if(F.map D.int).length<=1000 then some (R0.im (.int j))else none)=_
    rw[if_pos (by rw[zD,r1.1];trivial)]
  · unfold rAt
    rw[zyG,j3];rfl
 have rB:Row n B:=⟨b1,λx m=>by
  obtain⟨i,hi⟩:=zyT m
  exact(b2 i x hi).2⟩
 have fb:∀v,InR n v->rAt F (rAt B v)=v:=λv hv=>by
  have v0:=hv.1
  have v1:=hv.2
  have hk:v.toNat<B.length:=by trivial
  rw[Vj hk,(b2 _ _ (zzC hk)).1]
  trivial
 exact⟨B,⟨rB,fb,λv hv=>zoQ hF (rowAt rB (rowAt r1 hv).2).2 hv (fb _ (rowAt r1 hv).2)⟩,b3⟩
theorem zkJ{f:EF}{g:GF}{as as':AS}{x:D}(h:WE f as x)(hg:g (true,x) as=some as'):zbk f g as=some (.nx as'):=by
 obtain⟨o,h1,h2,h3⟩:=h
 exact zte h1 (by rw[h2,h3];exact hg)
theorem zuF{as:AS}{F B:List Int}{J:TZ}{n:Nat}{fr:AF}{cap:List (Option Nat)}(hn:n<=8)(hF:Row n F)(hB:Row n B)(hJ:Tab n n J)(h1:WA fr as [(true,.int n)])(h2:∀a:Int,gN 0 (true,.int a) (ZQ cap as)=some [sI a,sT (zc F),sI n,sT (zF J),sT (zc B)]):
 ∃T,zdn n n (λa b=>rAt F (jAt J (rAt B a) (rAt B b))) T/\WE (zL (yJ fr yK) cap yh yf (zL (yJ Wy yK) [none,some 1,some 3,some 4,some 0] yh yf (f2 zr (f2 (f2 zG (f2 zV yD ixP) ixP) (f2 zV zq ixP) ixP) ixP))) as (zF T):=
 zfy (f:=λa b=>rAt F (jAt J (rAt B a) (rAt B b))) (n:=n) (k:=n) (cap:=cap) (fe:=zL (yJ Wy yK) [none,some 1,some 3,some 4,some 0] yh yf (f2 zr (f2 (f2 zG (f2 zV yD ixP) ixP) (f2 zV zq ixP) ixP) ixP)) h1 (by trivial) λa ha=>by
  obtain⟨r,r1,r3⟩:=zcU (f:=λb=>rAt F (jAt J (rAt B a) (rAt B b))) (N:=n) (as:=[sI a,sT (zc F),sI n,sT (zF J),sT (zc B)]) (u:=true) (n:=n) (fr:=aC zG aN) (cap:=[none,some 1,some 3,some 4,some 0]) (fe:=f2 zr (f2 (f2 zG (f2 zV yD ixP) ixP) (f2 zV zq ixP) ixP) ixP) (zx (za rfl) zR) (by trivial) λb hb=>by
   obtain⟨p1,p2⟩:=rowAt hB ha
   obtain⟨q1,q2⟩:=rowAt hB hb
   obtain⟨t1,t2⟩:=ZR hJ p2
   obtain⟨v1,v2⟩:=rowAt t2 q2
   obtain⟨w1,w2⟩:=rowAt hF v2
   exact⟨[sI b,sT (zc F),sT (zF J),sT (zc B),sI a],rfl,WD.e (zH (za rfl) (zH (yM (za rfl) (zH (za rfl) (za rfl) p1 rfl) t1) (zH (za rfl) (za rfl) q1 rfl) v1 rfl) w1 rfl),w2⟩
  exact⟨_,r,h2 a,r3,r1⟩
abbrev yt(p:Str×TZ):D:=.tup [.str p.1,zF p.2]
abbrev zpi:EF:=zL (xq (fV 14)) [none,some 8,some 5,some 9] yh yf (zL (yJ Wy yK) [none,some 1,some 0,some 3] yh yf (f2 zr (f2 zG (f2 zV zq ixP) ixP) ixP))
theorem zuM{as:AS}{F B:List Int}{T:TZ}{m n:Nat}(hn:n<=8)(hm:m<=8)(hF:Row n F)(hB:Row n B)(hT:Tab m n T)(h1:as[14]? = some (sT (zF T)))(h2:∀d:D,gN 0 (true,d) (ZQ [none,some 8,some 5,some 9] as)=some [sT d,sT (zc F),sI n,sT (zc B)]):
 ∃T',zdn m n (λc a=>rAt F (jAt T c (rAt B a))) T'/\WE zpi as (zF T'):=by
 obtain⟨T',t1,t2,t3⟩:=zhS zc (Q:=λ(c:Nat) r=>zbj n n (λa=>rAt F (jAt T c (rAt B a))) r) (cap:=[none,some 8,some 5,some 9]) (g:=gN 0) (fe:=zL (yJ Wy yK) [none,some 1,some 0,some 3] yh yf (f2 zr (f2 zG (f2 zV zq ixP) ixP) ixP)) (zbI (f:=fV 14) (as:=as) (WD.e (za h1))) (by rw[zD,zD,hT.1];trivial) λc y my=>by
  rw[zzZ,zzG]at my
  obtain⟨r,mr,rfl⟩:=zzV.mp my
  have hr:=hT.2 r (zzY mr)
  have hj:∀v,jAt T c v=rAt r v:=λv=>by unfold jAt;rw[zyG,mr];rfl
  obtain⟨l,l1,l3⟩:=zcU (f:=λa=>rAt F (jAt T c (rAt B a))) (N:=n) (as:=[sT (zc r),sT (zc F),sI n,sT (zc B)]) (u:=true) (n:=n) (fr:=aC zG aN) (cap:=[none,some 1,some 0,some 3]) (fe:=f2 zr (f2 zG (f2 zV zq ixP) ixP) ixP) (zx (za rfl) zR) (by trivial) λa ha=>by
   obtain⟨p1,p2⟩:=rowAt hB ha
   obtain⟨v1,v2⟩:=rowAt hr p2
   obtain⟨w1,w2⟩:=rowAt hF v2
   rw[hj]
   exact⟨[sI a,sT (zc F),sT (zc r),sT (zc B)],rfl,WD.e (zH (za rfl) (zH (za rfl) (zH (za rfl) (za rfl) p1 rfl) v1 rfl) w1 rfl),w2⟩
  exact⟨_,l,h2 _,l3,l1⟩
 rw[zD,zD]at t1
 exact⟨T',zbi (by rw[t1,hT.1]) t2,t3⟩
structure Alg(n m:Nat)(J:TZ)(e:Int)(Ds:DZ):Prop where
 n1:1<=n
 n8:n<=8
 m1:1<=m
 m6:m<=6
 j:Tab n n J
 e0:0<=e
 en:e<n
 dl:Ds.length<=6
 ds:∀p ∈ Ds,Tab m n p.2
 nd:(Ds.map (·.1)).Nodup
structure LawA(n m:Nat)(J:TZ)(e:Int)(Ds:DZ):Prop where
 lj:LJ n (jAt J) e
 ld:∀p ∈ Ds,LD n m (jAt J) e (jAt p.2)
abbrev zJ(n m:Nat)(J:TZ)(e:Int)(Ds:DZ)(S:SS):D:=.tup [.int n,.int m,zF J,.int e,.lst (Ds.map yt),.lst (S.map yU)]
theorem zqz{A0 A1 A2 A3 A4 A6 A7 A10 A11 A15:Option O}{F B:List Int}{Ds:List TZ}{ns:List Str}{m n:Nat}(hn:n<=8)(hm:m<=8)(hF:Row n F)(hB:Row n B)(hD:∀T ∈ Ds,Tab m n T)(hl:Ds.length<=ns.length)(hl8:Ds.length<=8):
 ∃os l e13 e14,Ows yt (λp=>∃T ∈ Ds,zdn m n (λc a=>rAt F (jAt T c (rAt B a))) p.2) os l/\l.map (·.1)=ns.take Ds.length/\l.length=Ds.length/\forL (gT 2 (gsC (gN 13) (gsC (gN 14) gsN))) (xx (vf 12 (dC (yL (dC (fV 13) (dC zpi dN))) dN) vM)) (W7 true (ns.map D.str) (Ds.map zF))
  [A0,A1,A2,A3,A4,sI n,A6,A7,sT (zc F),sT (zc B),A10,A11,sN [],none,none,A15]
  = some (.nx [A0,A1,A2,A3,A4,sI n,A6,A7,sT (zc F),sT (zc B),A10,A11,sN os,e13,e14,A15]):=by
 obtain⟨as',hf,os,l,e13,e14,rfl,ho,hlm,hlen⟩:=vD (g:=gT 2 (gsC (gN 13) (gsC (gN 14) gsN))) (f:=xx (vf 12 (dC (yL (dC (fV 13) (dC zpi dN))) dN) vM))
  (λi as=>∃(os:List O) (l:DZ) (e13 e14:Option O),as=[A0,A1,A2,A3,A4,sI n,A6,A7,sT (zc F),sT (zc B),A10,A11,sN os,e13,e14,A15]/\Ows yt (λp=>∃T ∈ Ds,zdn m n (λc a=>rAt F (jAt T c (rAt B a))) p.2) os l/\l.map (·.1)=ns.take i/\l.length=i)
  (W7 true (ns.map D.str) (Ds.map zF)) 0 [A0,A1,A2,A3,A4,sI n,A6,A7,sT (zc F),sT (zc B),A10,A11,sN [],none,none,A15] (λi x as hx' hI=>by
   obtain⟨os,l,e13,e14,rfl,ho,hlm,hlen⟩:=hI
   obtain⟨d,e,z1,z2,rfl⟩:=zaL hx'
   have hil:i<Ds.length:=by have:=(zzE.mp z2).1;rw[zD]at this;exact this
   obtain⟨T,mT,rfl⟩:=zfH z2
   rw[zzG]at z1
   obtain⟨s,s1,rfl⟩:=zzV.mp z1
   obtain⟨T',t1,o,t2,t3,t4⟩:=zuM (as:=[A0,A1,A2,A3,A4,sI n,A6,A7,sT (zc F),sT (zc B),A10,A11,sN os,sT (.str s),sT (zF T),A15]) hn hm hF hB (hD T mT) rfl (λ_=>rfl)
   obtain⟨os',o1,o2⟩:=zoz (as:=[A0,A1,A2,A3,A4,sI n,A6,A7,sT (zc F),sT (zc B),A10,A11,sN os,sT (.str s),sT (zF T),A15]) (x:=(s,T')) (i:=12) (toD:=yt) (Q:=λp=>∃T ∈ Ds,zdn m n (λc a=>rAt F (jAt T c (rAt B a))) p.2) rfl ho (by trivial) (zeb (zp (za (i:=13) rfl) (Wu t2 ym)) (szl rfl) (by show(true&&(o.str&&true))=true;rw[t3];rfl) (by show D.tup [.str s,o.toD]=_;rw[t4])) ⟨T,mT,t1⟩
   refine⟨[A0,A1,A2,A3,A4,sI n,A6,A7,sT (zc F),sT (zc B),A10,A11,sN os,sT (.str s),sT (zF T),A15],rfl,_,o2,os',l++[(s,T')],_,_,rfl,o1, ?_,by rw[zzH,hlen];rfl⟩
   rw[zyK,hlm,show 0+i+1=i+1 by trivial,zyW,List.take_succ,s1];rfl)
  ⟨[],[],none,none,rfl,Ows.nil,rfl,rfl⟩
 rw[zdd,zD,zD,Nat.min_eq_right hl,zyW]at hlm hlen
 exact⟨os,l,e13,e14,ho,hlm,hlen,hf⟩
theorem zqA(x:Int):∃n:Nat,n<=6/\ixP (.lst (([1,2,0,4,3,2,6,5]:List Int).map D.int)) (.int (x%8))=some (.im (.int n)):=by
 obtain⟨v,h1,h2⟩:=zfW (r:=[1,2,0,4,3,2,6,5]) (P:=λx=>0<=x/\x<=6) (k:=x%8) (by trivial) (by show x%8<8;trivial) (by decide)
 exact⟨v.toNat,by trivial,by rw[show((v.toNat:Nat):Int)=v by trivial];exact h1⟩
theorem ztr(x:Int):∃n:Nat,n<=4/\ixP (.lst (([1,2,1,4,0,2,3,1]:List Int).map D.int)) (.int (x%8))=some (.im (.int n)):=by
 obtain⟨v,h1,h2⟩:=zfW (r:=[1,2,1,4,0,2,3,1]) (P:=λx=>0<=x/\x<=4) (k:=x%8) (by trivial) (by show x%8<8;trivial) (by decide)
 exact⟨v.toNat,by trivial,by rw[show((v.toNat:Nat):Int)=v by trivial];exact h1⟩
theorem Y0{f:EF}{as:AS}{k:Int}(h:WD f as true (.int k)):oS f as=some (some k,as):=by
 unfold oS
 unfold WD at h
 rw[h];rfl
theorem ziL{α:Type}(f:α->D)(l:List α)(lo hi:Option Int):∃l':List α,l'.Sublist l/\PF.cutD (l.map f) lo hi=l'.map f:=by
 unfold PF.cutD
 rw[zD,<-List.map_drop,<-List.map_take]
 exact⟨_,(List.take_sublist _ _).trans (List.drop_sublist _ _),rfl⟩
theorem zsy{as:AS}{a b c d e f g h:Int}:WE (xU (dC (fC (.int a)) (dC (fC (.int b)) (dC (fC (.int c)) (dC (fC (.int d)) (dC (fC (.int e)) (dC (fC (.int f)) (dC (fC (.int g)) (dC (fC (.int h)) dN))))))))) as (.lst (([a,b,c,d,e,f,g,h]:List Int).map D.int)):=
 vU (os:=([a,b,c,d,e,f,g,h]:List Int).map lfI) (zp zb (zp zb (zp zb (zp zb (zp zb (zp zb (zp zb (zp zb ym)))))))) (szl rfl) rfl rfl
theorem zgd{c c':Int}:∃n m J e Ds S,(Alg n m J e Ds/\LawA n m J e Ds)/\Sg S/\RE (wA [(true,.int c),(true,.int c')]) (zJ n m J e Ds S):=by
 obtain⟨ys,hl,hy,ws⟩:=stE (as:=[sI c,sI c',none,none,none,none,none,none,none,none,none,none,none,none,none,none]) (a:=fV 1) (b:=fC (.int 6)) (c:=c') (m:=6) (by trivial) (WD.e (za rfl)) (WD.e zb)
 obtain⟨y0,a0,_⟩:=at2 hy (k:=0) (by trivial) (by trivial)
 obtain⟨y1,a1,_⟩:=at2 hy (k:=1) (by trivial) (by trivial)
 obtain⟨y2,a2,_⟩:=at2 hy (k:=2) (by trivial) (by trivial)
 obtain⟨y3,a3,_⟩:=at2 hy (k:=3) (by trivial) (by trivial)
 obtain⟨y4,a4,_⟩:=at2 hy (k:=4) (by trivial) (by trivial)
 obtain⟨y5,a5,_⟩:=at2 hy (k:=5) (by trivial) (by trivial)
 obtain⟨w,w6,ew⟩:=zqA y1
 obtain⟨k,k4,ek⟩:=ztr y5
 have b3:(2:Int).natAbs<big:=ye (by decide) (by decide)
 obtain⟨m1,m11,m16,hC⟩:∃m1:Int,1<=m1/\m1<=6/\sIf (fT (f2 (f2 (f2 (f2 zG yF ixP) zct zP) yN zA) yF (zY .Eq))) (zO true 3 (f2 yp (f2 (f2 (f2 zG yF ixP) (fC (.int 12)) zP) Zc zA) zE)) sNx
  [sI c,sI c',sT (zc ys),sI (1+y0%6),none,none,none,none,none,none,none,none,none,none,none,none]=some (.nx [sI c,sI c',sT (zc ys),sI m1,none,none,none,none,none,none,none,none,none,none,none,none]):=by
  by_cases h:y0/6%2=0
  · exact⟨1+y0/12%3,by trivial,by trivial,Yh (yc (yV (yg (v9 (zH (za rfl) zb a0 rfl) zb (by decide) (ye (by decide) (by decide))) zb (by decide)) zb rfl) (by show some (y0/6%2==0)=_;simp[h])) (yz (i:=3) (xr zb (yg (v9 (zH (za rfl) zb a0 rfl) zb (by decide) (ye (by decide) (by decide))) zb (by decide))) (zy rfl))⟩
  · exact⟨1+y0%6,by trivial,by trivial,yw (yc (yV (yg (v9 (zH (za rfl) zb a0 rfl) zb (by decide) (ye (by decide) (by decide))) zb (by decide)) zb rfl) (by show some (y0/6%2==0)=_;simp[h])) rfl⟩
 obtain⟨m,mm1,mm6,hE⟩:∃m:Nat,1<=m/\m<=6/\sIf (fT (f2 yD Zc (zY .Gt))) (zO true 3 (f2 yp (f2 zV yN zA) zE)) sNx
  [sI c,sI c',sT (zc ys),sI m1,sI w,none,none,none,none,none,none,none,none,none,none,none]=some (.nx [sI c,sI c',sT (zc ys),sI m,sI w,none,none,none,none,none,none,none,none,none,none,none]):=by
  by_cases h:(3:Int)<w
  · refine⟨(1+m1%2).toNat,by trivial,by trivial, ?_⟩
    rw[show(((1+m1%2).toNat:Nat):Int)=1+m1%2 by trivial]
    exact Yh (yc (zdh (za rfl) zb) (congrArg some (zyM h))) (yz (i:=3) (xr zb (yg (za rfl) zb (by decide))) (zy rfl))
  · refine⟨m1.toNat,by trivial,by trivial, ?_⟩
    rw[show((m1.toNat:Nat):Int)=m1 by trivial]
    exact yw (yc (zdh (za rfl) zb) (congrArg some (zyE h))) rfl
 obtain⟨n,J,Ds,n1,n8,LP,dl,hmade⟩:=zrj (c:=c) (m:=m) (w:=w) (by trivial) (by trivial) (by trivial)
 have hJ:=LP.tj
 have hD:=LP.td
 obtain⟨F,hF,hord⟩:=zpR (c:=y2) n1 n8
 obtain⟨rF,_⟩:=zgD hF
 obtain⟨B,⟨rB,fb,bf⟩,hback⟩:=zvw (as:=[sI c,sI c',sT (zc ys),sI m,sI w,sI n,sT (zF J),sT (.lst (Ds.map zF)),sT (zc F),none,none,none,none,none,none,none]) (cap:=[none,some 8]) (fr:=aC wR aN) hF n8 (zx (za rfl) zR) (λb=>rfl)
 obtain⟨J',hJ',hjoin⟩:=zuF (as:=[sI c,sI c',sT (zc ys),sI m,sI w,sI n,sT (zF J),sT (.lst (Ds.map zF)),sT (zc F),sT (zc B),none,none,none,none,none,none]) (cap:=[none,some 8,some 5,some 6,some 9]) (fr:=aC wR aN) n8 rF rB hJ (zx (za rfl) zR) (λa=>rfl)
 obtain⟨ns,nl,nnd,hnames⟩:=zoD (c:=y3)
 obtain⟨os,l,e13,e14,ho,hlm,hlen,hf⟩:=zqz (A0:=sI c) (A1:=sI c') (A2:=sT (zc ys)) (A3:=sI m) (A4:=sI w) (A6:=sT (zF J)) (A7:=sT (.lst (Ds.map zF))) (A10:=sT (zF J')) (A11:=sT (.lst (ns.map D.str))) (A15:=none) (ns:=ns.take 6) n8 (by trivial) rF rB hD (by rw[zzQ,nl];trivial) (by trivial)
 obtain⟨ef,ff⟩:=rowAt rF (v:=0) ⟨by trivial,by trivial⟩
 obtain⟨ks,kl,ck⟩:=ziL D.str ns (some 6) (some (6+(k:Int)))
 obtain⟨S,hSg,hS⟩:=zpn (c:=y4) (n:=n) (ns:=ks) n8 (by have:=kl.length_le;omega) (nnd.sublist kl)
 have cF:∀a,InR n a->InR n (rAt F a):=λa ha=>(rowAt rF ha).2
 have cB:∀a,InR n a->InR n (rAt B a):=λa ha=>(rowAt rB ha).2
 have lj:=ljT LP.lj cF cB fb bf
 refine⟨n,m,J',rAt F 0,l,S,⟨⟨n1,n8,mm1,mm6,hJ'.1,ff.1,ff.2,by trivial,λp mp=>?_, ?_⟩,⟨lj.congr hJ'.2,λp mp=>?_⟩⟩,hSg, ?_⟩
 · obtain⟨T,_,hT⟩:=ho.al p mp
   exact hT.1
 · rw[hlm]
   exact(nnd.sublist (List.take_sublist _ _)).sublist (List.take_sublist _ _)
 · obtain⟨T,mT,hT⟩:=ho.al p mp
   exact(ldT (by trivial) LP.lj (LP.ld T mT) cF cB fb bf).congr (by trivial) lj hJ'.2 hT.2
 have z6:WE (fSl xY oN (oS zct) slP) [sI c,sI c',sT (zc ys),sI m,sI w,sI n,sT (zF J),sT (.lst (Ds.map zF)),sT (zc F),sT (zc B),sT (zF J'),sT (.lst (ns.map D.str)),sN [],none,none,none] (.lst ((ns.take 6).map D.str)):=by
  refine Xc (lo:=none) (hi:=some 6) (WD.e (za rfl)) rfl (Y0 zb) ?_
  have:=zlJ (xs:=(ns.take 6).map D.str) (ys:=(ns.drop 6).map D.str)
  rw[<-zyK,List.take_append_drop,zD,zzQ,nl]at this
  exact this
 have zS:WE (zN (aC (f2 zG wK ixP) (aC wR (aC (fSl xY (oS zct) (oS (f2 zct (f2 (xU (dC yp (dC yN (dC yp (dC wK (dC yF (dC yN (dC Zc (dC yp dN))))))))) (f2 (f2 zG zcK ixP) Yz zA) ixP) zE)) slP) aN))) Z0) [sI c,sI c',sT (zc ys),sI m,sI w,sI n,sT (zF J),sT (.lst (Ds.map zF)),sT (zc F),sT (zc B),sT (zF J'),sT (.lst (ns.map D.str)),sN os,e13,e14,none] (.lst (S.map yU)):=
  YM (WD.e (zH (za rfl) zb a4 rfl)) (WD.e (za rfl)) (Xc (lo:=some 6) (hi:=some (6+(k:Int))) (WD.e (za rfl)) (Y0 zb) (Y0 (xr zb (f2E zsy (WD.e (yg (zH (za rfl) zb a5 rfl) zb (by decide))) ek))) (by show some (R0.fl (PF.cutD (ns.map D.str) (some 6) (some (6+(k:Int)))))=_;rw[ck])) hS
 refine yW rfl (zg (vH (p:=2) ws (zy rfl)) (zg (yz (i:=3) (xr zb (yg (zH (za rfl) zb a0 rfl) zb (by decide))) (zy rfl)) (zg hC (zg (yz (i:=4) (f2E zsy (WD.e (yg (zH (za rfl) zb a1 rfl) zb (by decide))) ew) (zy rfl)) (zg hE
  (zg (as1:=[sI c,sI c',sT (zc ys),sI m,sI w,sI n,sT (zF J),sT (.lst (Ds.map zF)),none,none,none,none,none,none,none,none]) (zkJ (YM (WD.e (za rfl)) (WD.e (za rfl)) (WD.e (za rfl)) hmade) rfl)
  (zg (vH (p:=8) (Y6 (WD.e (zH (za rfl) zb a2 rfl)) (WD.e (za rfl)) hord) (zy rfl)) (zg (vH (p:=9) hback (zy rfl)) (zg (vH (p:=10) hjoin (zy rfl)) (zg (vH (p:=11) (Y6 (WD.e (zH (za rfl) zb a3 rfl)) (WD.e zb) hnames) (zy rfl)) (zg (wY (i:=12) (Zx ym (szl rfl)) (zy rfl)) (zg (wV (zvx z6 (WD.e (za rfl))) hf) (zg (vH (p:=15) zS (zy rfl)) ?_)))))))))))))
 have e:=xT (as:=[sI c,sI c',sT (zc ys),sI m,sI w,sI n,sT (zF J),sT (.lst (Ds.map zF)),sT (zc F),sT (zc B),sT (zF J'),sT (.lst (ns.map D.str)),sN os,e13,e14,sT (.lst (S.map yU))]) (a:=fV 5) (za rfl) (xT (a:=fV 3) (za rfl) (xT (a:=fV 10) (za rfl) (xT (a:=f2 (fV 8) yF ixP) (zH (za rfl) zb ef rfl) (zdv (j:=12) (fr:=dC (fV 15) dN) rfl (xT (a:=fV 15) (za rfl) rfl)))))
 rw[ho.frz]at e
 exact⟨_,W4 (zfG e (szl rfl)) rfl,rfl,rfl⟩
theorem ziq{c:Int}{n k:Nat}(hn:0<n)(hn8:n<=8)(hk:k<=900):∃ds:List Int,ds.length=k/\(∀x ∈ ds,InR n x)/\RE (vC [(true,.int c),(true,.int n),(true,.int k)]) (zc ds):=by
 obtain⟨as',hf,x,os,l,e4,rfl,ho,hlen⟩:=vD (g:=gN 4) (f:=zB (xx (vf 3 (dC (f2 zq zr zA) dN) vM)) (zO true 0 (f2 zq zr zP)))
  (λi as=>∃(x:Int) (os:List O) (l:List Int) (e4:Option O),as=[sI x,sI n,sI k,sN os,e4]/\Ows D.int (InR n) os l/\l.length=i)
  (vN 0 k) 0 [sI c,sI n,sI k,sN [],none] (λi y as hx' hI=>by
   obtain⟨x,os,l,e4,rfl,ho,hlen⟩:=hI
   obtain⟨rfl,hi⟩:=ZF hx'
   obtain⟨os',o1,o2⟩:=zoz (as:=[sI x,sI n,sI k,sN os,sI (0+i)]) (x:=x%n) (i:=3) (toD:=D.int) (Q:=InR n) (a:=f2 zq zr zA) rfl ho (by trivial) (WD.e (yg (za rfl) (za rfl) (by trivial))) (Za hn)
   exact⟨[sI x,sI n,sI k,sN os,sI (0+i)],rfl,_,yC o2 (yz (i:=0) (v9 (za rfl) (za rfl) (by trivial) (ye (by trivial) (by trivial))) (zy rfl)),x/n,os',l++[x%n],_,rfl,o1,by rw[zzH,hlen];rfl⟩)
  ⟨c,[],[],none,rfl,Ows.nil,rfl⟩
 rw[xZ]at hlen
 exact⟨l,by trivial,ho.al,yW rfl (zg (wY (i:=3) (Zx ym (szl rfl)) (zy rfl)) (zg (wV (wZ (zx (za rfl) zR) (by trivial) (by trivial)) hf) (Ows.retB (i:=3) rfl ho)))⟩
theorem X8{ns:List Int}{k:Int}{s t:Bool}(hk:0<=k):∃x,zQ [(s,.lst (ns.map .int)),(t,.int k)]=sT (.int x):=by
 by_cases h:k<((ns.map D.int).length:Int)
 · obtain⟨x,hx⟩:=zqF (ns:=ns) hk (by rw[zD]at h;exact h)
   exact⟨x,zbC rfl (zcN (Yh (yc (zkQ (za rfl) (wU (zx (za rfl) zR) rfl rfl)) (congrArg some (zyM h))) (zcd (zH (za rfl) (za rfl) hx rfl))))⟩
 · exact⟨0,zbC rfl (yC (yw (yc (zkQ (za rfl) (wU (zx (za rfl) zR) rfl rfl)) (congrArg some (zyE h))) rfl) (zcd zb))⟩
theorem zrl{ds:List Int}{a n:Nat}(h:a+n<=ds.length):slP (zc ds) (some (a:Int)) (some ((a+n:Nat):Int))=some (.fl (((ds.drop a).take n).map D.int)):=by
 show some (R0.fl (PF.cutD (ds.map D.int) (some (a:Int)) (some ((a+n:Nat):Int))))=_
 congr 2
 unfold PF.cutD
 rw[HT.zfC,HT.zfC,zD,Nat.min_eq_left h,Nat.min_eq_left (show a<=ds.length by trivial),<-List.map_drop,<-List.map_take,Nat.add_sub_cancel_left]
theorem zmw{ds:List Int}{a n N:Nat}(h:a+n<=ds.length)(hd:∀x ∈ ds,InR N x)(e:n=N):Row N ((ds.drop a).take n):=by
 refine⟨by rw[zzQ,List.length_drop];trivial,λx m=>hd x (List.mem_of_mem_drop (List.mem_of_mem_take m))⟩
theorem cutE{f fl fh:EF}{as:AS}{ds:List Int}{a n:Nat}{lo hi:Int}(h:a+n<=ds.length)(hf:WD f as true (zc ds))(h1:WD fl as true (.int lo))(h2:WD fh as true (.int hi))(e1:lo=(a:Int))(e2:hi=((a+n:Nat):Int)):WE (fSl f (oS fl) (oS fh) slP) as (zc ((ds.drop a).take n)):=by
 subst e1 e2
 exact Xc (lo:=some (a:Int)) (hi:=some ((a+n:Nat):Int)) (WD.e hf) (Y0 h1) (Y0 h2) (zrl h)
abbrev bdC:EF:=zL (yJ Xg yK) [none,some 8,some 12,some 2] yh yf (fSl zr (oS (f2 zG (f2 zV zq zU) zE)) (oS (f2 (f2 zG (f2 zV zq zU) zE) zV zE)) slP)
abbrev bdB:SF:=(zB (zO true 12 (f2 (f2 yp (f2 zG zG zU) zE) (f2 (f2 zG zV zU) xY zU) zE))
 (xx (vf 10 (dC (yL (dC (f2 (f2 vX xY ixP) yF ixP) (dC bdC dN))) dN) vM)))
abbrev Y13(n m:Nat)(a0 a1 a4 a5 a7 a9:Option O)(Ds:DZ)(ds:List Int)(e10 e11 e12:Option O):AS:=
 [a0,a1,sI n,sI m,a4,a5,sT (.lst (Ds.map yt)),a7,sT (zc ds),a9,e10,e11,e12]
theorem zup{n m:Nat}{a0 a1 a4 a5 a7 a9:Option O}{Ds:DZ}{ds:List Int}(n1:1<=n)(n8:n<=8)(m6:m<=6)(dl:Ds.length<=6)(d1:ds.length=1+n*n+n*m*Ds.length)(d2:∀x ∈ ds,InR n x):
 ∃os l e11 e12,Ows yt (λp=>Tab m n p.2) os l/\l.map (·.1)=Ds.map (·.1)/\l.length=Ds.length/\forL (gN 11) bdB (vN 0 Ds.length) (Y13 n m a0 a1 a4 a5 a7 a9 Ds ds (sN []) none none)=some (.nx (Y13 n m a0 a1 a4 a5 a7 a9 Ds ds (sN os) e11 e12)):=by
 have nn:n*n<=64:=Nat.mul_le_mul n8 n8
 have nm:n*m<=48:=Nat.mul_le_mul n8 m6
 obtain⟨as',hf,os,l,e11,e12,rfl,ho,hlm,hlen⟩:=vD (g:=gN 11) (f:=bdB)
  (λi as=>∃(os:List O) (l:DZ) (e11 e12:Option O),as=Y13 n m a0 a1 a4 a5 a7 a9 Ds ds (sN os) e11 e12/\Ows yt (λp=>Tab m n p.2) os l/\l.map (·.1)=(Ds.map (·.1)).take i/\l.length=i)
  (vN 0 Ds.length) 0 (Y13 n m a0 a1 a4 a5 a7 a9 Ds ds (sN []) none none) (λi x as hx' hI=>by
   obtain⟨os,l,e11,e12,rfl,ho,hlm,hlen⟩:=hI
   obtain⟨rfl,hi⟩:=ZF hx'
   rw[Int.zero_add]at hx' ⊢
   have g0:=zzC hi
   generalize Ds[i]=p at g0
   have hk:n*m*i+n*m<=n*m*Ds.length:=by rw[<-Nat.mul_succ];exact Nat.mul_le_mul_left _ hi
   have hk2:n*m*i<=288:=zzM (zzM (Nat.le_add_right _ _) hk) (Nat.mul_le_mul nm dl)
   have eat:((1+n*n+n*m*i:Nat):Int)=1+n*n+n*m*i:=by rw[Int.natCast_add,Int.natCast_add,zzT,zzT,zzT];rfl
   have enm:((n*m:Nat):Int)=n*m:=zzT n m
   obtain⟨T,t1,t2,o,t3,t4,t5⟩:=zgH (as:=Y13 n m a0 a1 a4 a5 a7 a9 Ds ds (sN os) (sI i) (sI ((1+n*n+n*m*i:Nat):Int))) (u:=true) zc (Q:=Row n) (n:=m) (fr:=aC zV aN) (cap:=[none,some 8,some 12,some 2]) (fe:=fSl zr (oS (f2 zG (f2 zV zq zU) zE)) (oS (f2 (f2 zG (f2 zV zq zU) zE) zV zE)) slP) (zx (za rfl) zR) (by trivial) λc c0 c1=>by
    have ha:n*c.toNat+n<=n*m:=by rw[<-Nat.mul_succ];exact Nat.mul_le_mul_left n (by trivial)
    have ec:(c.toNat:Int)=c:=by trivial
    have w:WD (f2 zG (f2 zV zq zU) zE) [sI c,sT (zc ds),sI ((1+n*n+n*m*i:Nat):Int),sI n] true (.int (((1+n*n+n*m*i:Nat):Int)+n*c)):=xr (za rfl) (vK (za rfl) (za rfl) (ye (by trivial) (by trivial)) (ye (by trivial) (by trivial)))
    exact⟨[sI c,sT (zc ds),sI ((1+n*n+n*m*i:Nat):Int),sI n],_,rfl,cutE (a:=(1+n*n+n*m*i)+n*c.toNat) (n:=n) (by trivial) (za rfl) w (xr w (za rfl)) (by rw[Int.natCast_add (1+n*n+n*m*i),zzT n c.toNat,ec]) (by rw[Int.natCast_add (1+n*n+n*m*i+n*c.toNat),Int.natCast_add (1+n*n+n*m*i),zzT n c.toNat,ec]),zmw (by trivial) d2 rfl⟩
   obtain⟨os',o1,o2⟩:=zoz (as:=Y13 n m a0 a1 a4 a5 a7 a9 Ds ds (sN os) (sI i) (sI ((1+n*n+n*m*i:Nat):Int))) (a:=yL (dC (f2 (f2 vX xY ixP) yF ixP) (dC bdC dN))) (x:=(p.1,T)) (i:=10) (toD:=yt) (Q:=λp=>Tab m n p.2) rfl ho (by trivial) (zeb (zp (zH (yM (za (i:=6) rfl) (za (i:=11) rfl) (zeh g0)) zb rfl rfl) (Wu t3 ym)) (szl rfl) (by show(true&&(o.str&&true))=true;rw[t4];rfl) (by show D.tup [.str p.1,o.toD]=_;rw[t5])) ⟨t1,t2⟩
   refine⟨Y13 n m a0 a1 a4 a5 a7 a9 Ds ds (sN os) (sI i) e12,rfl,_,yC (as1:=Y13 n m a0 a1 a4 a5 a7 a9 Ds ds (sN os) (sI i) (sI ((1+n*n+n*m*i:Nat):Int))) ?_ o2,os',l++[(p.1,T)],_,_,rfl,o1, ?_,by rw[zzH,hlen];rfl⟩
   · rw[eat]
     exact yz (i:=12) (xr (xr zb (vK (za (i:=2) rfl) (za (i:=2) rfl) (ye (by trivial) (by trivial)) (ye (by trivial) (by trivial)))) (vK (vK (za (i:=2) rfl) (za (i:=3) rfl) (ye (by trivial) (by trivial)) (ye (by trivial) (by trivial))) (za (i:=11) rfl) (by rw[<-enm];exact ye (by trivial) (by trivial)) (ye (by trivial) (by trivial)))) (zy rfl)
   · rw[zyK,hlm,show 0+i+1=i+1 by trivial,zyW,List.take_succ,zzG,g0];rfl)
  ⟨[],[],none,none,rfl,Ows.nil,rfl,rfl⟩
 rw[xZ,zyW]at hlm hlen
 exact⟨os,l,e11,e12,ho,by rw[hlm,<-zD (f:=λp:Str×TZ=>p.1),List.take_length],hlen,hf⟩
abbrev zkn(T:TZ):O:=.nd .ls (T.map YD)
abbrev Zv(p:Str×TZ):O:=.nd .tp [.lf true (.str p.1),zkn p.2]
abbrev zsG:EF:=fP Zd lstP
theorem zih:∀T:TZ,wD yh yf zsG [none] ((T.map zc).map λd=>(true,d))=some (T.map YD)
 | []=>rfl
 |r::T=>zcT (as1:=[sT (zc r)]) rfl (zss (za rfl)) (vO r).2.1 (zih T)
theorem zpI{f:EF}{as:AS}{T:TZ}(hl:T.length<=1000)(h:WE f as (zF T)):zL (xq f) [none] yh yf zsG as=some (.ow (zkn T),as):=
 Wj (zbI h) (by rw[zD,zD];exact szs (by trivial)) (zih T)
theorem zdS(p:Str×TZ):(Zv p).str=true/\(Zv p).toD=yt p:=by
 constructor
 · show(true&&(O.strs (p.2.map YD)&&true))=true
   rw[(zbb p.2).1];rfl
 · show D.tup [.str p.1,.lst (O.toDs (p.2.map YD))]=_
   rw[(zbb p.2).2]
theorem zaU:∀Ds:DZ,O.strs (Ds.map Zv)=true/\O.toDs (Ds.map Zv)=Ds.map yt
 | []=>⟨rfl,rfl⟩
 |p::Ds=>⟨by show((Zv p).str&&O.strs (Ds.map Zv))=true;rw[(zdS p).1,(zaU Ds).1];rfl,by
  show(Zv p).toD::O.toDs (Ds.map Zv)=_
  rw[(zdS p).2,(zaU Ds).2];rfl⟩
abbrev zvD:EF:=yL (dC zq (dC (zL (xq zr) [none] yh yf zsG) dN))
theorem zoM{p:Str×TZ}(hl:p.2.length<=1000):zvD [sT (.str p.1),sT (zF p.2)]=some (.ow (Zv p),[sT (.str p.1),sT (zF p.2)]):=
 zmg (os:=[.lf true (.str p.1),zkn p.2]) (zp (za (i:=0) rfl) (Wu (zpI hl (WD.e (za (i:=1) rfl))) ym)) (szl rfl)
theorem zgq:∀Ds:DZ,(∀p ∈ Ds,p.2.length<=1000)->wD (gT 2 (gsC yh (gsC (gN 1) gsN))) yf zvD [none,none] ((Ds.map yt).map λd=>(true,d))=some (Ds.map Zv)
 | [],_=>rfl
 |p::Ds,h=>zcT (as1:=[sT (.str p.1),sT (zF p.2)]) rfl (zoM (h p (zzD ..))) (zdS p).1 (zgq Ds λq m=>h q (zzB _ m))
theorem VH{as:AS}{i:Nat}{xs:List Int}{k x:Int}{s:Bool}(h:as[i]? = some (some (.lf s (zc xs))))(hk:0<=k)(hx:xs[k.toNat]? = some x):xAt i (xC k) as=some x:=by
 have e:(xs.map D.int)[k.toNat]? = some (.int x):=by rw[zzG,hx];rfl
 unfold xAt xC
 show(if 0<=k then _ else none:Option Int)=_
 rw[if_pos hk,zcJ (f:=zdz) h rfl]
 show((xs.map D.int)[k.toNat]?).bind asI=_
 rw[e];rfl
theorem zep{as:AS}{i:Nat}{k:Int}{s:Bool}(h:as[i]? = some (some (.lf s (.int k)))):xV i as=some k:=by
 unfold xV;rw[zcJ (f:=zdz) h rfl];rfl
theorem zqh{as:AS}{i:Nat}{os:List O}(h:as[i]? = some (sN os)):zpe i as=some (os.length:Int):=by
 unfold zpe;rw[zcJ (f:=zaR) h rfl];rfl
theorem Xo{as:AS}{f g:IXF}{a b:Int}(h1:f as=some a)(h2:g as=some b)(hb:0<b):zae f g as=some (a%b):=by
 unfold zae;simp only[h1,h2,zyJ,if_pos hb]
theorem zpl{r:List Int}{k:Int}(h:k.toNat<r.length):(r.map lfI)[k.toNat]? = sT (.int r[k.toNat]):=by
 rw[zzG,zzC h];rfl
theorem znF{as:AS}{i:Nat}{f1 f2 fv:IXF}{k1 k2 c:Int}{T:TZ}{r:List Int}(h1:f1 as=some k1)(h2:f2 as=some k2)(hv:fv as=some c)(p1:0<=k1)(p2:0<=k2)(hi:as[i]? = some (some (zkn T)))(hr:T[k1.toNat]? = some r)(hk:k2.toNat<r.length):
 zlm i f1 f2 fv as=some (.nx (as.set i (some (zkn (T.set k1.toNat (r.set k2.toNat c)))))):=by
 have e1:(T.map YD)[k1.toNat]? = sN (r.map lfI):=by rw[zzG,hr];rfl
 have e2:=zpl hk
 have e3:(T.map YD).set k1.toNat (.nd .ls ((r.map lfI).set k2.toNat (.lf true (.int c))))=(T.set k1.toNat (r.set k2.toNat c)).map YD:=by
  rw[List.map_set]
  show _=(T.map YD).set k1.toNat (.nd .ls ((r.set k2.toNat c).map lfI))
  rw[List.map_set]
 unfold zlm
 simp only[h1,h2,hv,zyJ,if_pos (show 0<=k1/\0<=k2 from⟨p1,p2⟩),(zcJ hi rfl:slO zaR as i=some (T.map YD)),(zbg e1 rfl:atO zaR _ _=some (r.map lfI)),(zbg e2 rfl:atO zdz _ _=some (.int r[k2.toNat])),e3]
theorem zpc{as:AS}{y i:Nat}{f1 f2 f3 fv:IXF}{k1 k2 k3 c:Int}{Ds:DZ}{p:Str×TZ}{r:List Int}(h1:f1 as=some k1)(h2:f2 as=some k2)(h3:f3 as=some k3)(hv:fv as=some c)(p1:0<=k1)(p2:0<=k2)(p3:0<=k3)(hy:noS as y=true)(hi:as[i]? = some (sN (Ds.map Zv)))(hp:Ds[k1.toNat]? = some p)(hr:p.2[k2.toNat]? = some r)(hk:k3.toNat<r.length):
 zoT y i f1 1 f2 f3 fv as=some (.nx (as.set i (sN ((Ds.set k1.toNat (p.1,p.2.set k2.toNat (r.set k3.toNat c))).map Zv)))):=by
 have e1:(Ds.map Zv)[k1.toNat]? = some (.nd .tp [.lf true (.str p.1),.nd .ls (p.2.map YD)]):=by rw[zzG,hp];rfl
 have e2:([.lf true (.str p.1),.nd .ls (p.2.map YD)]:List O)[1]? = sN (p.2.map YD):=rfl
 have e3:(p.2.map YD)[k2.toNat]? = sN (r.map lfI):=by rw[zzG,hr];rfl
 have e4:=zpl hk
 have e6:(p.2.map YD).set k2.toNat (.nd .ls ((r.map lfI).set k3.toNat (.lf true (.int c))))=(p.2.set k2.toNat (r.set k3.toNat c)).map YD:=by
  rw[List.map_set]
  show _=(p.2.map YD).set k2.toNat (.nd .ls ((r.set k3.toNat c).map lfI))
  rw[List.map_set]
 have e5:(Ds.map Zv).set k1.toNat (.nd .tp ([.lf true (.str p.1),.nd .ls (p.2.map YD)].set 1 (.nd .ls ((p.2.set k2.toNat (r.set k3.toNat c)).map YD))))=(Ds.set k1.toNat (p.1,p.2.set k2.toNat (r.set k3.toNat c))).map Zv:=by
  symm;rw[List.map_set];rfl
 unfold zoT
 simp only[h1,h2,h3,hv,zyJ,if_pos (show 0<=k1/\0<=k2/\0<=k3/\noS as y=true from⟨p1,p2,p3,hy⟩),(zcJ hi rfl:slO zaR as i=some (Ds.map Zv)),(zbg e1 rfl:atO zqH _ _=some [.lf true (.str p.1),.nd .ls (p.2.map YD)]),(zbg e2 rfl:atO zaR _ _=some (p.2.map YD)),(zbg e3 rfl:atO zaR _ _=some (r.map lfI)),(zbg e4 rfl:atO zdz _ _=some (.int r[k3.toNat])),e6,e5]
theorem zwk{as:AS}{i:Nat}{os:List O}{b:EF}(h:as[i]? = some (sN os))(hb:b as=some (.ow (.nd .ls []),as)):WD (f2 (fV i) b (zY .NotEq)) as true (.bl (!os.isEmpty)):=by
 have hc:zY .NotEq (O.nd .ls os).toD (.lst [])=some (.im (.bl (!os.isEmpty))):=by
  cases os with
  |nil=>rfl
  |cons o r=>rfl
 have hv:RV.view as (RV.ow (O.nd .ls [])).frz=some (.lst [],some true):=rfl
 have hi:RV.view as (RV.bo i).frz=some ((O.nd .ls os).toD,(O.nd .ls os).kl):=zfw h
 have hw:wrap (meet (O.nd .ls os).kl (some true)) (.im (.bl (!os.isEmpty)))=some (.ow (.lf true (.bl (!os.isEmpty)))):=by
  simp[wrap,yu,lfs]
 unfold WD f2
 rw[zgS h]
 simp only[zyJ,hb,hi,hv,hc,hw]
theorem neB{as:AS}{i:Nat}{os:List O}(h:as[i]? = some (sN os)):WD (f2 (fV i) (xU dN) (zY .NotEq)) as true (.bl (!os.isEmpty)):=zwk h (Zx ym (szl rfl))
theorem zmv{n i:Nat}{r:List Int}{c:Int}(hr:Row n r)(hc:InR n c):Row n (r.set i c):=by
 refine⟨by rw[zzS];exact hr.1,λx m=>?_⟩
 rcases List.mem_or_eq_of_mem_set m with m|rfl
 · exact hr.2 x m
 · exact hc
theorem zmW{k n i:Nat}{T:TZ}{r:List Int}(hT:Tab k n T)(hr:Row n r):Tab k n (T.set i r):=by
 refine⟨by rw[zzS];exact hT.1,λx m=>?_⟩
 rcases List.mem_or_eq_of_mem_set m with m|rfl
 · exact hT.2 x m
 · exact hr
theorem set_same{α:Type}:∀{l:List α}{i:Nat}{a:α},l[i]? = some a->l.set i a=l
 | [],_,_,h=>by simp at h
 |x::l,0,a,h=>by
  simp at h
  rw[h];rfl
 |x::l,i+1,a,h=>congrArg (x :: ·) (set_same (l:=l) (i:=i) (by simpa using h))
abbrev B13(n m:Nat)(a0 a1 a4 a6 a7:Option O)(xs:List Int)(w:Int)(e:Int)(J:TZ)(Ds:DZ):AS:=
 [a0,a1,sI n,sI m,a4,sI e,a6,a7,sT (zc xs),some (zkn J),sN (Ds.map Zv),sI w,none]
section
variable{n m:Nat}{a0 a1 a4 a6 a7:Option O}{xs:List Int}{w e:Int}{J:TZ}{Ds:DZ}
theorem W5(hl:xs.length=8)(k:Nat)(hk:k<8):∃x,xs[k]? = some x/\ixP (zc xs) (.int (k:Int))=some (.im (.int x)):=by
 have g:=zzC (l:=xs) (i:=k) (by trivial)
 exact⟨_,g,zeh g⟩
theorem zuW(hl:xs.length=8)(n1:1<=n)(he:InR n e):∃e',InR n e'/\sIf (fT (f2 xY yF (zY .Eq))) (zO true 5 (f2 (f2 (fV 8) yp ixP) zG zA)) sNx (B13 n m a0 a1 a4 a6 a7 xs w e J Ds)=some (.nx (B13 n m a0 a1 a4 a6 a7 xs w e' J Ds)):=by
 obtain⟨x,_,hx⟩:=W5 hl 1 (by trivial)
 by_cases h:w=0
 · exact⟨x%n,Za n1,Yh (yc (yV (za (i:=11) rfl) zb rfl) (by show some (w==0)=_;simp[h])) (yz (i:=5) (yg (zH (za (i:=8) rfl) zb hx rfl) (za (i:=2) rfl) (by trivial)) (zy rfl))⟩
 · exact⟨e,he,yw (yc (yV (za (i:=11) rfl) zb rfl) (by show some (w==0)=_;simp[h])) rfl⟩
theorem zve(hl:xs.length=8)(n1:1<=n)(hJ:Tab n n J):∃J',Tab n n J'/\sIf (zgR (fT (f2 xY yp (zY .Eq))) (fT (f2 xY yN (zY .Eq)))) (zlm 9 (zae (xAt 8 (xC 2)) (xV 2)) (zae (xAt 8 (xC 3)) (xV 2)) (zae (xAt 8 (xC 4)) (xV 2))) sNx (B13 n m a0 a1 a4 a6 a7 xs w e J Ds)=some (.nx (B13 n m a0 a1 a4 a6 a7 xs w e J' Ds)):=by
 obtain⟨x2,g2,_⟩:=W5 hl 2 (by trivial)
 obtain⟨x3,g3,_⟩:=W5 hl 3 (by trivial)
 obtain⟨x4,g4,_⟩:=W5 hl 4 (by trivial)
 have t1:WT (fT (f2 xY yp (zY .Eq))) (B13 n m a0 a1 a4 a6 a7 xs w e J Ds) (w==1):=yc (yV (za (i:=11) rfl) zb rfl) rfl
 have t2:WT (fT (f2 xY yN (zY .Eq))) (B13 n m a0 a1 a4 a6 a7 xs w e J Ds) (w==2):=yc (yV (za (i:=11) rfl) zb rfl) rfl
 have t:WT (zgR (fT (f2 xY yp (zY .Eq))) (fT (f2 xY yN (zY .Eq)))) (B13 n m a0 a1 a4 a6 a7 xs w e J Ds) (w==1||w==2):=zlk t1 (λh=>by rw[h,Bool.false_or];exact t2) (λh=>by rw[h];rfl)
 cases hw:(w==1||w==2)with
 |false=>rw[hw]at t;exact⟨J,hJ,yw t rfl⟩
 |true=>
  rw[hw]at t
  have m2:=Za (x:=x2) n1
  have m3:=Za (x:=x3) n1
  have m4:=Za (x:=x4) n1
  have hk:(x2%(n:Int)).toNat<J.length:=by rw[hJ.1];trivial
  have hr:=zzC hk
  have hR:=hJ.2 _ (zyY hk)
  generalize J[(x2%(n:Int)).toNat]=r at hr hR
  have hn:(0:Int)<n:=by trivial
  exact⟨_,zmW hJ (zmv hR m4),Yh t (znF (Xo (VH (i:=8) rfl (by decide) g2) (zep (i:=2) rfl) hn) (Xo (VH (i:=8) rfl (by decide) g3) (zep (i:=2) rfl) hn) (Xo (VH (i:=8) rfl (by decide) g4) (zep (i:=2) rfl) hn) m2.1 m3.1 rfl hr (by rw[hR.1];trivial))⟩
theorem zuS(hl:xs.length=8)(n1:1<=n)(m1:1<=m)(hD:∀p ∈ Ds,Tab m n p.2):∃Ds',Ds'.map (·.1)=Ds.map (·.1)/\(∀p ∈ Ds',Tab m n p.2)/\sIf (zbm (fT (f2 xY yN (zY .Gt))) (fT (f2 (fV 10) (xU dN) (zY .NotEq)))) (zoT 12 10 (zae (xAt 8 (xC 5)) (zpe 10)) 1 (zae (xAt 8 (xC 6)) (xV 3)) (zae (xAt 8 (xC 7)) (xV 2)) (zae (xAt 8 (xC 4)) (xV 2))) sNx (B13 n m a0 a1 a4 a6 a7 xs w e J Ds)=some (.nx (B13 n m a0 a1 a4 a6 a7 xs w e J Ds')):=by
 obtain⟨x4,g4,_⟩:=W5 hl 4 (by trivial)
 obtain⟨x5,g5,_⟩:=W5 hl 5 (by trivial)
 obtain⟨x6,g6,_⟩:=W5 hl 6 (by trivial)
 obtain⟨x7,g7,_⟩:=W5 hl 7 (by trivial)
 have t1:WT (fT (f2 xY yN (zY .Gt))) (B13 n m a0 a1 a4 a6 a7 xs w e J Ds) (decide (2<w)):=yc (zdh (za (i:=11) rfl) zb) rfl
 have t2:WT (fT (f2 (fV 10) (xU dN) (zY .NotEq))) (B13 n m a0 a1 a4 a6 a7 xs w e J Ds) (!(Ds.map Zv).isEmpty):=yc (neB (i:=10) rfl) rfl
 have t:WT (zbm (fT (f2 xY yN (zY .Gt))) (fT (f2 (fV 10) (xU dN) (zY .NotEq)))) (B13 n m a0 a1 a4 a6 a7 xs w e J Ds) (decide (2<w) && !(Ds.map Zv).isEmpty):=Vv t1 (λh=>by rw[h,Bool.true_and];exact t2) (λh=>by rw[h];rfl)
 cases hw:(decide (2<w) && !(Ds.map Zv).isEmpty)with
 |false=>rw[hw]at t;exact⟨Ds,rfl,hD,yw t rfl⟩
 |true=>
  rw[hw]at t
  have hne:0<Ds.length:=by
   cases Ds with
   |nil=>simp at hw
   |cons p r=>exact Nat.zero_lt_succ _
  have hlen:((Ds.map Zv).length:Int)=Ds.length:=by rw[zD]
  have m4:=Za (x:=x4) n1
  have m5:=Za (x:=x5) hne
  have m6:=Za (x:=x6) m1
  have m7:=Za (x:=x7) n1
  have hk:(x5%(Ds.length:Int)).toNat<Ds.length:=by trivial
  have hp:=zzC hk
  have hP:=hD _ (zyY hk)
  generalize Ds[(x5%(Ds.length:Int)).toNat]=p at hp hP
  have hk2:(x6%(m:Int)).toNat<p.2.length:=by rw[hP.1];trivial
  have hr:=zzC hk2
  have hR:=hP.2 _ (zyY hk2)
  generalize p.2[(x6%(m:Int)).toNat]=r at hr hR
  have hn:(0:Int)<n:=by trivial
  have hm:(0:Int)<m:=by trivial
  refine⟨Ds.set (x5%(Ds.length:Int)).toNat (p.1,p.2.set (x6%(m:Int)).toNat (r.set (x7%(n:Int)).toNat (x4%n))), ?_,λq mq=>?_,Yh t (zpc (Xo (VH (i:=8) rfl (by decide) g5) (by rw[<-hlen];exact zqh (i:=10) rfl) (by trivial)) (Xo (VH (i:=8) rfl (by decide) g6) (zep (i:=3) rfl) hm) (Xo (VH (i:=8) rfl (by decide) g7) (zep (i:=2) rfl) hn) (Xo (VH (i:=8) rfl (by decide) g4) (zep (i:=2) rfl) hn) m5.1 m6.1 m7.1 rfl rfl hp hr (by rw[hR.1];trivial))⟩
  · rw[List.map_set]
    exact set_same (by rw[zzG,hp];rfl)
  · rcases List.mem_or_eq_of_mem_set mq with mq|rfl
    · exact hD q mq
    · exact zmW hP (zmv hR m4)
end
theorem zrg(T:TZ):(zkn T).frz = .lf true (zF T):=by
 show O.lf (O.strs _) (.lst (O.toDs _))=_
 rw[(zbb T).1,(zbb T).2]
theorem znu(Ds:DZ):(O.nd .ls (Ds.map Zv)).frz = .lf true (.lst (Ds.map yt)):=by
 show O.lf (O.strs _) (.lst (O.toDs _))=_
 rw[(zaU Ds).1,(zaU Ds).2]
theorem zrB{n m:Nat}{J:TZ}{e c:Int}{Ds:DZ}{S:SS}(A:Alg n m J e Ds):∃J' e' Ds',Alg n m J' e' Ds'/\RE (Xu [(true,zJ n m J e Ds S),(true,.int c)]) (zJ n m J' e' Ds' S):=by
 have n8:=A.n8
 have m6:=A.m6
 have dl:=A.dl
 obtain⟨xs,xl,hx,ws⟩:=stE (as:=[sT (zJ n m J e Ds S),sI c,sI n,sI m,sT (zF J),sI e,sT (.lst (Ds.map yt)),sT (.lst (S.map yU)),none,none,none,none,none]) (a:=fV 1) (b:=fC (.int 8)) (c:=c) (m:=8) (by trivial) (WD.e (za rfl)) (WD.e zb)
 obtain⟨x0,_,a0⟩:=W5 xl 0 (by trivial)
 obtain⟨e',he,s1⟩:=zuW (m:=m) (a0:=sT (zJ n m J e Ds S)) (a1:=sI c) (a4:=sT (zF J)) (a6:=sT (.lst (Ds.map yt))) (a7:=sT (.lst (S.map yU))) (w:=x0%6) (J:=J) (Ds:=Ds) xl A.n1 ⟨A.e0,A.en⟩
 obtain⟨J',hJ,s2⟩:=zve (m:=m) (a0:=sT (zJ n m J e Ds S)) (a1:=sI c) (a4:=sT (zF J)) (a6:=sT (.lst (Ds.map yt))) (a7:=sT (.lst (S.map yU))) (w:=x0%6) (e:=e') (Ds:=Ds) xl A.n1 A.j
 obtain⟨Ds',hn,hD,s3⟩:=zuS (a0:=sT (zJ n m J e Ds S)) (a1:=sI c) (a4:=sT (zF J)) (a6:=sT (.lst (Ds.map yt))) (a7:=sT (.lst (S.map yU))) (w:=x0%6) (e:=e') (J:=J') xl A.n1 A.m1 A.ds
 have hlen:Ds'.length=Ds.length:=by rw[<-zD (f:=λp:Str×TZ=>p.1),hn,zD]
 refine⟨J',e',Ds',⟨A.n1,n8,A.m1,m6,hJ,he.1,he.2,by trivial,hD,by rw[hn];exact A.nd⟩, ?_⟩
 have c9:=wY (i:=9) (zpI (T:=J) (f:=fV 4) (as:=[sT (zJ n m J e Ds S),sI c,sI n,sI m,sT (zF J),sI e,sT (.lst (Ds.map yt)),sT (.lst (S.map yU)),sT (zc xs),none,none,none,none]) (by rw[A.j.1];trivial) (WD.e (za rfl))) (zy rfl)
 have c10:=wY (i:=10) (Wj (cap:=[none,none]) (zbI (f:=fV 6) (as:=[sT (zJ n m J e Ds S),sI c,sI n,sI m,sT (zF J),sI e,sT (.lst (Ds.map yt)),sT (.lst (S.map yU)),sT (zc xs),some (zkn J),none,none,none]) (WD.e (za rfl))) (by rw[zD,zD];exact szs (by trivial)) (zgq Ds λp mp=>by rw[(A.ds p mp).1];trivial)) (zy rfl)
 refine yW rfl (zg (as1:=[sT (zJ n m J e Ds S),sI c,sI n,sI m,sT (zF J),sI e,sT (.lst (Ds.map yt)),sT (.lst (S.map yU)),none,none,none,none,none]) (zkJ (WD.e (za rfl)) rfl) (zg (vH (p:=8) ws (zy rfl)) (zg c9 (zg c10 (zg (yz (i:=11) (yg (zH (za rfl) zb a0 rfl) zb (by decide)) (zy rfl)) (zg s1 (zg s2 (zg s3 ?_))))))))
 have q:=xT (as:=B13 n m (sT (zJ n m J e Ds S)) (sI c) (sT (zF J)) (sT (.lst (Ds.map yt))) (sT (.lst (S.map yU))) xs (x0%6) e' J' Ds') (a:=fV 2) (za rfl) (xT (a:=fV 3) (za rfl) (zdv (j:=9) (fr:=dC wR (dC (fV 10) (dC v4 dN))) rfl (xT (a:=fV 5) (za rfl) (zdv (j:=10) (fr:=dC v4 dN) rfl (xT (a:=fV 7) (za rfl) rfl)))))
 rw[zrg,znu]at q
 exact⟨_,W4 (zfG q (szl rfl)) rfl,rfl,rfl⟩
theorem VG{n:Nat}{J:TZ}{w v:Int}(hJ:Tab n n J)(hw:InR n w)(hv:InR n v):InR n (jAt J w v):=(rowAt (ZR hJ hw).2 hv).2
theorem Yl{a b c:EF}{as:AS}{n:Nat}{J:TZ}{w v:Int}(hJ:Tab n n J)(hw:InR n w)(hv:InR n v)(ha:WD a as true (zF J))(hb:WD b as true (.int w))(hc:WD c as true (.int v)):WD (f2 (f2 a b ixP) c ixP) as true (.int (jAt J w v)):=
 zH (yM ha hb (ZR hJ hw).1) hc (rowAt (ZR hJ hw).2 hv).1 rfl
theorem zao{a b c:EF}{as:AS}{m n:Nat}{T:TZ}{w v:Int}(hT:Tab m n T)(hw:InR m w)(hv:InR n v)(ha:WD a as true (zF T))(hb:WD b as true (.int w))(hc:WD c as true (.int v)):WD (f2 (f2 a b ixP) c ixP) as true (.int (jAt T w v))/\InR n (jAt T w v):=
 ⟨zH (yM ha hb (ZR hT hw).1) hc (rowAt (ZR hT hw).2 hv).1 rfl,(rowAt (ZR hT hw).2 hv).2⟩
theorem Xl{v n:Nat}{g:GF}{f:SF}{as:AS}{s:Bool}(h:as[v]? = some (some (.lf s (.int n))))(hn:n<=1000):vd (yJ (aC (fV v) aN) yK) g f as=forL g f (vN 0 n) as:=
 wV (wZ (zx (za h) zR) (by trivial) (by trivial)) (by rw[zyG])
theorem zlr{a b:EF}{as:AS}{x y:Int}{s t:Bool}(ha:WD a as s (.int x))(hb:WD b as t (.int y)):WT (fT (f2 a b (zY .NotEq))) as (!(x==y)):=yc (zpm (c:=x==y) ha hb rfl) rfl
abbrev FT:=Option (List D)
def oD:FT->D
 |none=>.non
 |some ds=>.tup ds
def fs(n:Nat)(t:Int->FT):FT:=(List.range n).findSome? λi:Nat=>t (i:Int)
abbrev R4(r:Option Out)(I:AS->Prop)(t:FT):Prop:=(t=none/\∃as',r=some (.nx as')/\I as')\/∃ds,t=some ds/\Rt r (.tup ds)
theorem zra{g:GF}{f:SF}{d:It1}{r:List It1}{as as1:AS}{x:D}(h1:g d as=some as1)(h2:Rt (f as1) x):Rt (forL g f (d::r) as) x:=by
 obtain⟨o,e1,e2⟩:=h2
 exact⟨o,zkl h1 e1,e2⟩
theorem l_F{α:Type}{g:GF}{f:SF}{it:α->It1}(I:AS->Prop)(t:α->FT):∀(l:List α),(∀x ∈ l,∀as,I as->∃as1,g (it x) as=some as1/\R4 (f as1) I (t x))->∀as,I as->R4 (forL g f (l.map it) as) I (l.findSome? t)
 | [],_,as,h=>.inl ⟨rfl,as,rfl,h⟩
 |x::l,H,as,h=>by
  obtain⟨as1,h1,h2⟩:=H x zzD as h
  rcases h2 with⟨e,as2,h2,h3⟩|⟨ds,e,h2⟩
  · have k:=l_F I t l (λy my=>H y (zzB _ my)) as2 h3
    rw[List.findSome?_cons,e]
    rcases k with⟨e',as3,k1,k2⟩|⟨ds,e',o,k1,k2⟩
    · exact .inl ⟨e',as3,Yk h1 h2 k1,k2⟩
    · exact .inr ⟨ds,e',o,Yk h1 h2 k1,k2⟩
  · rw[List.findSome?_cons,e]
    exact .inr ⟨ds,rfl,zra h1 h2⟩
theorem zbA{v n:Nat}{f:SF}(I:AS->Prop)(t:Int->FT)(H:∀b,InR n b->∀as,I as->∃as1,gN v (true,.int b) as=some as1/\R4 (f as1) I (t b)){as:AS}(h:I as):R4 (forL (gN v) f (vN 0 n) as) I (fs n t):=by
 refine l_F (it:=λi:Nat=>(true,D.int (0+(i:Int)))) I (λi:Nat=>t (i:Int)) (List.range n) (λi mi as hI=>?_) as h
 have:=List.mem_range.mp mi
 rw[Int.zero_add]
 exact H i ⟨by omega,by omega⟩ as hI
theorem zoP{c:TF}{f:EF}{as:AS}{q:Bool}{ds:List D}{I:AS->Prop}(ht:WT c as q)(hf:WE f as (.tup ds))(hI:I as):R4 (sIf c (yE f) sNx as) I (if q=true then some ds else none):=by
 cases q with
 |true=>exact .inr ⟨ds,rfl,Zm ht (yR hf)⟩
 |false=>exact .inl ⟨rfl,as,yw ht rfl,hI⟩
theorem R4.seq{f g:SF}{as as1:AS}{I:AS->Prop}{t:FT}(h:f as=some (.nx as1))(k:R4 (g as1) I t):R4 (zB f g as) I t:=by
 rcases k with⟨e,a,b,c⟩|⟨ds,e,b⟩
 · exact .inl ⟨e,a,yC h b,c⟩
 · exact .inr ⟨ds,e,zg h b⟩
theorem R4.imp{r:Option Out}{I I':AS->Prop}{t:FT}(h:R4 r I t)(k:∀as,I as->I' as):R4 r I' t:=Or.imp (λ⟨e,a,b,c⟩=>⟨e,a,b,k a c⟩) id h
theorem R4.rt{f g:SF}{as:AS}{I:AS->Prop}{t t':FT}(h:R4 (f as) I t)(k:∀as',I as'->Rt (g as') (oD t')):Rt (zB f g as) (oD (t.or t')):=by
 rcases h with⟨rfl,as',h1,h2⟩|⟨ds,rfl,h1⟩
 · exact zg h1 (k as' h2)
 · exact vB h1
theorem or_none{t:FT}:t.or none=t:=by cases t<;>rfl
theorem zkV{n:Nat}{t t':Int->FT}(h:∀b,InR n b->t b=t' b):fs n t=fs n t':=by
 unfold fs
 have:∀l:List Nat,(∀i ∈ l,i<n)->l.findSome? (λi:Nat=>t (i:Int))=l.findSome? λi:Nat=>t' (i:Int):=λl=>by
  induction l with
  |nil=>exact λ_=>rfl
  |cons i l ih=>
   intro hl
   have:=hl i zzD
   rw[List.findSome?_cons,List.findSome?_cons,h i ⟨by omega,by omega⟩,ih λj mj=>hl j (zzB _ mj)]
 exact this _ λi mi=>List.mem_range.mp mi
theorem zmj{m:Nat}(m1:1<=m)(t:Int->Int->FT):∀n:Nat,fs (n*m) (λp=>t (p/m) (p%m))=fs n λa=>fs m λi=>t a i
 |0=>by rw[Nat.zero_mul];unfold fs;rfl
 |n+1=>by
  have ih:=zmj m1 t n
  unfold fs at ih ⊢
  rw[Nat.succ_mul,List.range_add,List.findSome?_append,ih,List.range_succ,List.findSome?_append]
  congr 1
  rw[List.findSome?_map]
  have e:∀l:List Nat,(∀j ∈ l,j<m)->l.findSome? ((λp:Nat=>t ((p:Int)/m) ((p:Int)%m))∘λx=>n*m+x)=l.findSome? λi:Nat=>t (n:Int) (i:Int):=λl=>by
   induction l with
   |nil=>exact λ_=>rfl
   |cons j l ih=>
    intro hl
    have hj:=hl j zzD
    have e1:(((n*m+j:Nat):Int))/m=n:=by
     rw[<-Int.natCast_ediv,Nat.mul_comm,Nat.mul_add_div (by omega),Nat.div_eq_of_lt hj,Nat.add_zero]
    have e2:(((n*m+j:Nat):Int))%m=j:=by
     rw[<-Int.natCast_emod,Nat.mul_comm,Nat.mul_add_mod,Nat.mod_eq_of_lt hj]
    rw[List.findSome?_cons,List.findSome?_cons,ih λi mi=>hl i (zzB _ mi)]
    have e3:((λp:Nat=>t ((p:Int)/m) ((p:Int)%m))∘λx=>n*m+x) j=t (n:Int) (j:Int):=by
     show t (((n*m+j:Nat):Int)/m) (((n*m+j:Nat):Int)%m)=_
     rw[e1,e2]
    rw[e3]
  rw[e _ λj mj=>List.mem_range.mp mj]
  simp only[List.findSome?_cons,List.findSome?_nil]
  cases(List.range m).findSome? λi:Nat=>t (n:Int) (i:Int)<;>rfl
section
variable{S:Option O->Option O->Option O->AS}{vj vn ve:Nat}{J T:TZ}{n m:Nat}{e:Int}{Ds:DZ}{SS':SS}
def tU(n:Nat)(J:TZ)(e:Int):FT:=fs n λa=>if(!(jAt J e a==a) || !(jAt J a e==a))=true then some [.str "nothing",.int a]else none
def tA(n:Nat)(J:TZ):FT:=fs n λa=>fs n λb=>fs n λc=>if(!(jAt J (jAt J a b) c==jAt J a (jAt J b c)))=true then some [.str "parting",.int a,.int b,.int c]else none
def tD(n m:Nat)(J T:TZ)(s:Str):FT:=fs n λa=>fs m λi=>fs n λb=>fs m λk=>if(!(jAt T ((i+k)%m) (jAt J a b)==jAt J (jAt T i a) (jAt T k b)))=true then some [.str "doing",.str s,.int a,.int i,.int b,.int k]else none
theorem zqa{x y z:Option O}(hJ:Tab n n J)(he:InR n e)(hj:∀x y z,(S x y z)[vj]? = some (sT (zF J)))(hv:∀x y z,(S x y z)[ve]? = some (sI e))(h3:∀x y z,(S x y z)[3]? = some x)(g3:∀d x y z,gN 3 (true,d) (S x y z)=some (S (sT d) y z)):
 R4 (forL (gN 3) (sIf (zgR (fT (f2 (f2 (f2 (fV vj) (fV ve) ixP) zV ixP) zV (zY .NotEq))) (fT (f2 (f2 (f2 (fV vj) zV ixP) (fV ve) ixP) zV (zY .NotEq)))) (yE (yL (dC (fC (.str "nothing")) (dC zV dN)))) sNx) (vN 0 n) (S x y z)) (λas=>∃x,as=S x y z) (tU n J e):=by
 refine zbA (λas=>∃x,as=S x y z) _ (λa ha as hI=>?_) ⟨x,rfl⟩
 obtain⟨x,rfl⟩:=hI
 have w3:WD zV (S (sI a) y z) true (.int a):=za (h3 _ _ _)
 have t1:=zlr (Yl hJ he ha (za (hj (sI a) y z)) (za (hv (sI a) y z)) w3) w3
 have t2:=zlr (Yl hJ ha he (za (hj (sI a) y z)) w3 (za (hv (sI a) y z))) w3
 exact⟨S (sI a) y z,g3 _ _ _ _,zoP (q:=!(jAt J e a==a) || !(jAt J a e==a)) (zlk t1 (λh=>by rw[h,Bool.false_or];exact t2) (λh=>by rw[h];rfl)) (zeb (os:=[.lf true (.str "nothing"),lfI a]) (zp zb (zp w3 ym)) (szl rfl) rfl rfl) ⟨_,rfl⟩⟩
abbrev zwi(vj:Nat):SF:=sIf (fT (f2 (f2 (f2 (fV vj) (f2 (f2 (fV vj) zV ixP) yD ixP) ixP) wR ixP) (f2 (f2 (fV vj) zV ixP) (f2 (f2 (fV vj) yD ixP) wR ixP) ixP) (zY .NotEq))) (yE (yL (dC (fC (.str "parting")) (dC zV (dC yD (dC wR dN)))))) sNx
abbrev asB(vj vn:Nat):SF:=vd (yJ (aC (fV vn) aN) yK) V8 (vd (yJ (aC (fV vn) aN) yK) (gN 5) (zwi vj))
theorem xm{x y z:Option O}(n8:n<=8)(hJ:Tab n n J)(hj:∀x y z,(S x y z)[vj]? = some (sT (zF J)))(hn:∀x y z,(S x y z)[vn]? = some (sI n))(h3:∀x y z,(S x y z)[3]? = some x)(h4:∀x y z,(S x y z)[4]? = some y)(h5:∀x y z,(S x y z)[5]? = some z)
 (g3:∀d x y z,gN 3 (true,d) (S x y z)=some (S (sT d) y z)) (g4:∀d x y z,gN 4 (true,d) (S x y z)=some (S x (sT d) z)) (g5:∀d x y z,gN 5 (true,d) (S x y z)=some (S x y (sT d))):
 R4 (forL (gN 3) (asB vj vn) (vN 0 n) (S x y z)) (λas=>∃x y z,as=S x y z) (tA n J):=by
 refine zbA (λas=>∃x y z,as=S x y z) _ (λa ha as hI=>?_) ⟨x,y,z,rfl⟩
 obtain⟨x,y,z,rfl⟩:=hI
 refine⟨_,g3 _ _ _ _, ?_⟩
 unfold asB
 rw[Xl (hn _ _ _) (by trivial)]
 refine(zbA (v:=4) (n:=n) (λas=>∃y z,as=S (sI a) y z) _ (λb hb as hI=>?_) ⟨y,z,rfl⟩).imp λas ⟨y,z,e⟩=>⟨_,y,z,e⟩
 obtain⟨y,z,rfl⟩:=hI
 refine⟨_,g4 _ _ _ _, ?_⟩
 rw[Xl (hn _ _ _) (by trivial)]
 refine(zbA (v:=5) (n:=n) (λas=>∃z,as=S (sI a) (sI b) z) _ (λc hc as hI=>?_) ⟨z,rfl⟩).imp λas ⟨z,e⟩=>⟨_,z,e⟩
 obtain⟨z,rfl⟩:=hI
 have w3:WD zV (S (sI a) (sI b) (sI c)) true (.int a):=za (h3 _ _ _)
 have w4:WD yD (S (sI a) (sI b) (sI c)) true (.int b):=za (h4 _ _ _)
 have w5:WD wR (S (sI a) (sI b) (sI c)) true (.int c):=za (h5 _ _ _)
 have wj:WD (fV vj) (S (sI a) (sI b) (sI c)) true (zF J):=za (hj _ _ _)
 have ab:=VG hJ ha hb
 have bc:=VG hJ hb hc
 exact⟨_,g5 _ _ _ _,zoP (zlr (Yl hJ ab hc wj (Yl hJ ha hb wj w3 w4) w5) (Yl hJ ha bc wj w3 (Yl hJ hb hc wj w4 w5))) (zeb (os:=[.lf true (.str "parting"),lfI a,lfI b,lfI c]) (zp zb (zp w3 (zp w4 (zp w5 ym)))) (szl rfl) rfl rfl) ⟨_,rfl⟩⟩
end
section
variable{n m:Nat}{J T:TZ}{e:Int}{Ds:DZ}{S:SS}
theorem zhx(n8:n<=8)(hJ:Tab n n J)(he:InR n e):RE (ZK [(true,.int n),(true,zF J),(true,.int e)]) (oD ((tU n J e).or (tA n J))):=by
 have k1:=zqa (S:=λx y z=>[sI n,sT (zF J),sI e,x,y,z]) (x:=none) (y:=none) (z:=none) (vj:=1) (ve:=2) hJ he (λ_ _ _=>rfl) (λ_ _ _=>rfl) (λ_ _ _=>rfl) (λ_ _ _ _=>rfl)
 rw[<-Xl (v:=0) (n:=n) (as:=[sI n,sT (zF J),sI e,none,none,none]) rfl (by trivial)]at k1
 refine yW rfl (k1.rt λas' hI=>?_)
 obtain⟨x,rfl⟩:=hI
 have k2:=xm (S:=λx y z=>[sI n,sT (zF J),sI e,x,y,z]) (x:=x) (y:=none) (z:=none) (vj:=1) (vn:=0) n8 hJ (λ_ _ _=>rfl) (λ_ _ _=>rfl) (λ_ _ _=>rfl) (λ_ _ _=>rfl) (λ_ _ _=>rfl) (λ_ _ _ _=>rfl) (λ_ _ _ _=>rfl) (λ_ _ _ _=>rfl)
 rw[<-Xl (v:=0) (n:=n) (g:=gN 3) (f:=asB 1 0) (as:=[sI n,sT (zF J),sI e,x,none,none]) rfl (by trivial)]at k2
 rw[<-or_none (t:=tA n J)]
 exact k2.rt λ_ _=>yR (WD.e zb)
theorem zlG(n8:n<=8)(hJ:Tab n n J)(he:InR n e):RE (v6 [(true,zJ n m J e Ds S)]) (oD (tU n J e)):=by
 have s1:zO true 1 (f2 zq yN ixP) [sT (zJ n m J e Ds S),none,none,none]=some (.nx [sT (zJ n m J e Ds S),sT (zF J),none,none]):=yz (i:=1) (yM (za (i:=0) rfl) zb rfl) (zy rfl)
 have s2:zO true 2 (f2 zq Zc ixP) [sT (zJ n m J e Ds S),sT (zF J),none,none]=some (.nx [sT (zJ n m J e Ds S),sT (zF J),sI e,none]):=yz (i:=2) (yM (za (i:=0) rfl) zb rfl) (zy rfl)
 have k:=zqa (S:=λx _ _=>[sT (zJ n m J e Ds S),sT (zF J),sI e,x]) (x:=none) (y:=none) (z:=none) (vj:=1) (ve:=2) hJ he (λ_ _ _=>rfl) (λ_ _ _=>rfl) (λ_ _ _=>rfl) (λ_ _ _ _=>rfl)
 have hr:=wZ (as:=[sT (zJ n m J e Ds S),sT (zF J),sI e,none]) (zx (yM (a:=fV 0) (b:=fC (.int 0)) (g:=ixP) (z:=.int n) (za (i:=0) rfl) (zb (x:=.int 0)) rfl) zR) (by trivial) (by trivial)
 rw[zyG]at hr
 refine yW rfl (zg s1 (zg s2 ?_))
 rw[<-or_none (t:=tU n J e)]
 refine R4.rt (I:=λas=>∃x,as=[sT (zJ n m J e Ds S),sT (zF J),sI e,x]) ?_ λ_ _=>yR (WD.e zb)
 rw[wV hr rfl];exact k
theorem zlC(n8:n<=8)(hJ:Tab n n J):RE (vZ [(true,zJ n m J e Ds S)]) (oD (tA n J)):=by
 have s1:zO true 1 (f2 zq yF ixP) [sT (zJ n m J e Ds S),none,none,none,none,none]=some (.nx [sT (zJ n m J e Ds S),sI n,none,none,none,none]):=yz (i:=1) (yM (za (i:=0) rfl) zb rfl) (zy rfl)
 have s2:zO true 2 (f2 zq yN ixP) [sT (zJ n m J e Ds S),sI n,none,none,none,none]=some (.nx [sT (zJ n m J e Ds S),sI n,sT (zF J),none,none,none]):=yz (i:=2) (yM (za (i:=0) rfl) zb rfl) (zy rfl)
 have k:=xm (S:=λx y z=>[sT (zJ n m J e Ds S),sI n,sT (zF J),x,y,z]) (x:=none) (y:=none) (z:=none) (vj:=2) (vn:=1) n8 hJ (λ_ _ _=>rfl) (λ_ _ _=>rfl) (λ_ _ _=>rfl) (λ_ _ _=>rfl) (λ_ _ _=>rfl) (λ_ _ _ _=>rfl) (λ_ _ _ _=>rfl) (λ_ _ _ _=>rfl)
 rw[<-Xl (v:=1) (n:=n) (g:=gN 3) (f:=asB 2 1) (as:=[sT (zJ n m J e Ds S),sI n,sT (zF J),none,none,none]) rfl (by trivial)]at k
 refine yW rfl (zg s1 (zg s2 ?_))
 rw[<-or_none (t:=tA n J)]
 exact k.rt λ_ _=>yR (WD.e zb)
end
section
variable{n m:Nat}{J T:TZ}{e:Int}{Ds:DZ}{S:SS}
abbrev dfI:SF:=(sIf (fT (f2 (f2 (f2 zG (f2 (f2 v4 (fV 9) zE) yD zA) ixP) (f2 (f2 wR vX ixP) (fV 8) ixP) ixP) (f2 (f2 wR (f2 (f2 zG v4 ixP) vX ixP) ixP) (f2 (f2 zG (fV 9) ixP) (fV 8) ixP) ixP) (zY .NotEq))) (yE (yL (dC (fC (.str "doing")) (dC zr (dC vX (dC v4 (dC (fV 8) (dC (fV 9) dN)))))))) sNx)
abbrev D10(n m:Nat)(J T:TZ)(e:Int)(Ds:DZ)(S:SS)(s:Str)(x y z w:Option O):AS:=[sT (zJ n m J e Ds S),sT (.str s),sT (zF T),sI n,sI m,sT (zF J),x,y,z,w]
theorem df4{s:Str}{a i b k:Int}(hJ:Tab n n J)(hT:Tab m n T)(m1:1<=m)(ha:InR n a)(hi:InR m i)(hb:InR n b)(hk:InR m k):R4 (dfI (D10 n m J T e Ds S s (sI a) (sI i) (sI b) (sI k))) (λas=>∃w,as=D10 n m J T e Ds S s (sI a) (sI i) (sI b) w) (if(!(jAt T ((i+k)%m) (jAt J a b)==jAt J (jAt T i a) (jAt T k b)))=true then some [.str "doing",.str s,.int a,.int i,.int b,.int k]else none):=by
 have w2:WD zG (D10 n m J T e Ds S s (sI a) (sI i) (sI b) (sI k)) true (zF T):=za rfl
 have w5:WD wR (D10 n m J T e Ds S s (sI a) (sI i) (sI b) (sI k)) true (zF J):=za rfl
 have w6:WD vX (D10 n m J T e Ds S s (sI a) (sI i) (sI b) (sI k)) true (.int a):=za rfl
 have w7:WD v4 (D10 n m J T e Ds S s (sI a) (sI i) (sI b) (sI k)) true (.int i):=za rfl
 have w8:WD (fV 8) (D10 n m J T e Ds S s (sI a) (sI i) (sI b) (sI k)) true (.int b):=za rfl
 have w9:WD (fV 9) (D10 n m J T e Ds S s (sI a) (sI i) (sI b) (sI k)) true (.int k):=za rfl
 obtain⟨q1,q2⟩:=zao hT hi ha w2 w7 w6
 obtain⟨q3,q4⟩:=zao hT hk hb w2 w9 w8
 obtain⟨q5,q6⟩:=zao hT (w:=(i+k)%m) (ziT m1) (VG hJ ha hb) w2 (yg (xr w7 w9) (za (i:=4) (x:=.int m) (s:=true) rfl) (by trivial)) (Yl hJ ha hb w5 w6 w8)
 exact zoP (zlr q5 (Yl hJ q2 q4 w5 q1 q3)) (zeb (os:=[.lf true (.str "doing"),.lf true (.str s),lfI a,lfI i,lfI b,lfI k]) (zp zb (zp (za (i:=1) rfl) (zp w6 (zp w7 (zp w8 (zp w9 ym)))))) (szl rfl) rfl rfl) ⟨_,rfl⟩
theorem zqw{s:Str}(n8:n<=8)(m1:1<=m)(m6:m<=6)(hJ:Tab n n J)(hT:Tab m n T):RE (v7 [(true,zJ n m J e Ds S),(true,.str s),(true,zF T)]) (oD (tD n m J T s)):=by
 have k:R4 (forL (gN 6) (vd (yJ (aC yD aN) yK) (gN 7) (vd (yJ Xg yK) (gN 8) (vd (yJ (aC yD aN) yK) (gN 9) dfI))) (vN 0 n) (D10 n m J T e Ds S s none none none none)) (λas=>∃x y z w,as=D10 n m J T e Ds S s x y z w) (tD n m J T s):=by
  refine zbA (λas=>∃x y z w,as=D10 n m J T e Ds S s x y z w) _ (λa ha as hI=>?_) ⟨_,_,_,_,rfl⟩
  obtain⟨x,y,z,w,rfl⟩:=hI
  refine⟨D10 n m J T e Ds S s (sI a) y z w,rfl, ?_⟩
  rw[Xl (v:=4) (n:=m) rfl (by trivial)]
  refine(zbA (v:=7) (n:=m) (λas=>∃y z w,as=D10 n m J T e Ds S s (sI a) y z w) _ (λi hi as hI=>?_) ⟨_,_,_,rfl⟩).imp λas ⟨y,z,w,e⟩=>⟨_,y,z,w,e⟩
  obtain⟨y,z,w,rfl⟩:=hI
  refine⟨D10 n m J T e Ds S s (sI a) (sI i) z w,rfl, ?_⟩
  rw[Xl (v:=3) (n:=n) rfl (by trivial)]
  refine(zbA (v:=8) (n:=n) (λas=>∃z w,as=D10 n m J T e Ds S s (sI a) (sI i) z w) _ (λb hb as hI=>?_) ⟨_,_,rfl⟩).imp λas ⟨z,w,e⟩=>⟨_,z,w,e⟩
  obtain⟨z,w,rfl⟩:=hI
  refine⟨D10 n m J T e Ds S s (sI a) (sI i) (sI b) w,rfl, ?_⟩
  rw[Xl (v:=4) (n:=m) rfl (by trivial)]
  refine(zbA (v:=9) (n:=m) (λas=>∃w,as=D10 n m J T e Ds S s (sI a) (sI i) (sI b) w) _ (λk hk as hI=>?_) ⟨_,rfl⟩).imp λas ⟨w,e⟩=>⟨_,w,e⟩
  obtain⟨w,rfl⟩:=hI
  exact⟨_,rfl,df4 hJ hT m1 ha hi hb hk⟩
 rw[<-Xl (v:=3) (n:=n) (as:=D10 n m J T e Ds S s none none none none) rfl (by trivial)]at k
 have s3:zO true 3 (f2 zq yF ixP) [sT (zJ n m J e Ds S),sT (.str s),sT (zF T),none,none,none,none,none,none,none]=some (.nx [sT (zJ n m J e Ds S),sT (.str s),sT (zF T),sI n,none,none,none,none,none,none]):=yz (i:=3) (yM (za (i:=0) rfl) zb rfl) (zy rfl)
 have s4:zO true 4 (f2 zq yp ixP) [sT (zJ n m J e Ds S),sT (.str s),sT (zF T),sI n,none,none,none,none,none,none]=some (.nx [sT (zJ n m J e Ds S),sT (.str s),sT (zF T),sI n,sI m,none,none,none,none,none]):=yz (i:=4) (yM (za (i:=0) rfl) zb rfl) (zy rfl)
 have s5:zO true 5 (f2 zq yN ixP) [sT (zJ n m J e Ds S),sT (.str s),sT (zF T),sI n,sI m,none,none,none,none,none]=some (.nx (D10 n m J T e Ds S s none none none none)):=yz (i:=5) (yM (za (i:=0) rfl) zb rfl) (zy rfl)
 refine yW rfl (zg s3 (zg s4 (zg s5 ?_)))
 rw[<-or_none (t:=tD n m J T s)]
 exact k.rt λ_ _=>yR (WD.e zb)
abbrev W12(n m:Nat)(J T:TZ)(s:Str)(p q a i b k v:Option O):AS:=[sI n,sI m,sT (zF J),sT (.str s),sT (zF T),p,q,a,i,b,k,v]
abbrev ldI:SF:=(zB (zbk (fP (aC wR wN) zls) (gT 2 (gsC (gN 7) (gsC (gN 8) gsN))))
 (zB (zbk (fP (aC vX wN) zls) (gT 2 (gsC (gN 9) (gsC (gN 10) gsN))))
 (zB (zO true 11 (f2 (f2 zG (f2 (f2 yD (fV 8) ixP) v4 ixP) ixP) (f2 (f2 yD (fV 10) ixP) (fV 9) ixP) ixP))
 (sIf (fT (f2 (f2 (f2 yD (f2 (f2 (fV 8) (fV 10) zE) zr zA) ixP) (f2 (f2 zG v4 ixP) (fV 9) ixP) ixP) xY (zY .NotEq))) (yE (yL (dC (fC (.str "doing")) (dC zV (dC v4 (dC (fV 8) (dC (fV 9) (dC (fV 10) dN)))))))) sNx))))
theorem zvP{a b:EF}{as:AS}{x y:Int}(ha:WD a as true (.int x))(hb:WD b as true (.int y))(h0:0<y)(h1:y<1000):WD (fP (aC a (aC b aN)) zls) as true (.tup [.int (x/y),.int (x%y)]):=
 zla (zx ha (zx hb zR)) (by show(if 0<y/\y<1073741824 then _ else _)=_;rw[if_pos ⟨h0,by trivial⟩]) rfl
theorem zvB{s:Str}{p q:Int}{a i b k v:Option O}(hJ:Tab n n J)(hT:Tab m n T)(m1:1<=m)(m6:m<=6)(hp:InR (n*m) p)(hq:InR (n*m) q):R4 (ldI (W12 n m J T s (sI p) (sI q) a i b k v)) (λas=>∃y a i b k v,as=W12 n m J T s (sI p) y a i b k v) (if(!(jAt T ((p%m+q%m)%m) (jAt J (p/m) (q/m))==jAt J (jAt T (p%m) (p/m)) (jAt T (q%m) (q/m))))=true then some [.str "doing",.str s,.int (p/m),.int (p%m),.int (q/m),.int (q%m)]else none):=by
 obtain⟨ha,hi⟩:=yP m1 hp
 obtain⟨hb,hk⟩:=yP m1 hq
 refine R4.seq (as1:=W12 n m J T s (sI p) (sI q) (sI (p/m)) (sI (p%m)) b k v) (zkJ (WD.e (zvP (za (i:=5) rfl) (za (i:=1) rfl) (by trivial) (by trivial))) rfl) ?_
 refine R4.seq (as1:=W12 n m J T s (sI p) (sI q) (sI (p/m)) (sI (p%m)) (sI (q/m)) (sI (q%m)) v) (zkJ (WD.e (zvP (za (i:=6) rfl) (za (i:=1) rfl) (by trivial) (by trivial))) rfl) ?_
 generalize p/(m:Int)=a' at *
 generalize p%(m:Int)=i' at *
 generalize q/(m:Int)=b' at *
 generalize q%(m:Int)=k' at *
 obtain⟨q1,q2⟩:=zao (as:=W12 n m J T s (sI p) (sI q) (sI a') (sI i') (sI b') (sI k') v) hT hi ha (za (i:=4) rfl) (za (i:=8) rfl) (za (i:=7) rfl)
 obtain⟨q3,q4⟩:=zao (as:=W12 n m J T s (sI p) (sI q) (sI a') (sI i') (sI b') (sI k') v) hT hk hb (za (i:=4) rfl) (za (i:=10) rfl) (za (i:=9) rfl)
 refine R4.seq (as1:=W12 n m J T s (sI p) (sI q) (sI a') (sI i') (sI b') (sI k') (sI (jAt J (jAt T i' a') (jAt T k' b')))) (yz (i:=11) (Yl hJ q2 q4 (za (i:=2) rfl) q1 q3) (zy rfl)) ?_
 obtain⟨q5,_⟩:=zao (as:=W12 n m J T s (sI p) (sI q) (sI a') (sI i') (sI b') (sI k') (sI (jAt J (jAt T i' a') (jAt T k' b')))) hT (w:=(i'+k')%m) (ziT m1) (VG hJ ha hb) (za (i:=4) rfl) (yg (xr (za (i:=8) rfl) (za (i:=10) rfl)) (za (i:=1) (x:=.int m) (s:=true) rfl) (by trivial)) (Yl hJ ha hb (za (i:=2) rfl) (za (i:=7) rfl) (za (i:=9) rfl))
 exact zoP (zlr q5 (za (i:=11) (s:=true) rfl)) (zeb (os:=[.lf true (.str "doing"),.lf true (.str s),lfI a',lfI i',lfI b',lfI k']) (zp zb (zp (za (i:=3) rfl) (zp (za (i:=7) rfl) (zp (za (i:=8) rfl) (zp (za (i:=9) rfl) (zp (za (i:=10) rfl) ym)))))) (szl rfl) rfl rfl) ⟨_,_,_,_,_,_,rfl⟩
theorem zkz{g:GF}{f:SF}{as:AS}(h0:as[0]? = some (sI n))(h1:as[1]? = some (sI m))(n8:n<=8)(m6:m<=6):vd (yJ (aC (f2 zq zr zU) aN) yK) g f as=forL g f (vN 0 (n*m)) as:=by
 have nm:n*m<=48:=Nat.mul_le_mul n8 m6
 have w:=vK (za h0) (za h1) (ye (by trivial) (by trivial)) (ye (by trivial) (by trivial))
 rw[<-zzT]at w
 exact wV (wZ (zx w zR) (by trivial) (by trivial)) (by rw[zyG])
theorem zjD{s:Str}(n8:n<=8)(m1:1<=m)(m6:m<=6)(hJ:Tab n n J)(hT:Tab m n T):RE (ZX [(true,.int n),(true,.int m),(true,zF J),(true,.str s),(true,zF T)]) (oD (tD n m J T s)):=by
 have k:R4 (forL (gN 5) (vd (yJ (aC (f2 zq zr zU) aN) yK) (gN 6) ldI) (vN 0 (n*m)) (W12 n m J T s none none none none none none none)) (λas=>∃x y a i b k v,as=W12 n m J T s x y a i b k v) (fs (n*m) λp=>fs (n*m) λq=>if(!(jAt T ((p%m+q%m)%m) (jAt J (p/m) (q/m))==jAt J (jAt T (p%m) (p/m)) (jAt T (q%m) (q/m))))=true then some [.str "doing",.str s,.int (p/m),.int (p%m),.int (q/m),.int (q%m)]else none):=by
  refine zbA (λas=>∃x y a i b k v,as=W12 n m J T s x y a i b k v) _ (λp hp as hI=>?_) ⟨_,_,_,_,_,_,_,rfl⟩
  obtain⟨x,y,a,i,b,k,v,rfl⟩:=hI
  refine⟨W12 n m J T s (sI p) y a i b k v,rfl, ?_⟩
  rw[zkz (n:=n) (m:=m) rfl rfl n8 m6]
  refine(zbA (v:=6) (n:=n*m) (λas=>∃y a i b k v,as=W12 n m J T s (sI p) y a i b k v) _ (λq hq as hI=>?_) ⟨_,_,_,_,_,_,rfl⟩).imp λas ⟨y,a,i,b,k,v,e⟩=>⟨_,y,a,i,b,k,v,e⟩
  obtain⟨y,a,i,b,k,v,rfl⟩:=hI
  exact⟨W12 n m J T s (sI p) (sI q) a i b k v,rfl,zvB hJ hT m1 m6 hp hq⟩
 have e1:=zmj m1 (λa i=>fs (n*m) λq=>if(!(jAt T ((i+q%m)%m) (jAt J a (q/m))==jAt J (jAt T i a) (jAt T (q%m) (q/m))))=true then some [.str "doing",.str s,.int a,.int i,.int (q/m),.int (q%m)]else none) n
 rw[e1]at k
 have e2:(fs n λa=>fs m λi=>fs (n*m) λq=>if(!(jAt T ((i+q%m)%m) (jAt J a (q/m))==jAt J (jAt T i a) (jAt T (q%m) (q/m))))=true then some [.str "doing",.str s,.int a,.int i,.int (q/m),.int (q%m)]else none)=tD n m J T s:=by
  unfold tD
  refine zkV λa _=>zkV λi _=>?_
  exact zmj m1 (λb k=>if(!(jAt T ((i+k)%m) (jAt J a b)==jAt J (jAt T i a) (jAt T k b)))=true then some [.str "doing",.str s,.int a,.int i,.int b,.int k]else none) n
 rw[e2]at k
 rw[<-zkz (n:=n) (m:=m) (as:=W12 n m J T s none none none none none none none) rfl rfl n8 m6]at k
 refine yW rfl ?_
 rw[<-or_none (t:=tD n m J T s)]
 exact k.rt λ_ _=>yR (WD.e zb)
end
section
variable{n m:Nat}{J T:TZ}{e:Int}{Ds:DZ}{S:SS}
theorem R4.thn{f g:SF}{as:AS}{I I':AS->Prop}{t t':FT}(h:R4 (f as) I t)(k:∀as',I as'->R4 (g as') I' t'):R4 (zB f g as) I' (t.or t'):=by
 rcases h with⟨rfl,as',h1,h2⟩|⟨ds,rfl,h1⟩
 · rcases k as' h2 with⟨e,a,b,c⟩|⟨ds,e,b⟩
   · exact .inl ⟨e,a,yC h1 b,c⟩
   · exact .inr ⟨ds,e,zg h1 b⟩
 · exact .inr ⟨ds,rfl,vB h1⟩
def tE(n m:Nat)(J:TZ)(e:Int)(p:Str×TZ):FT:=(if(!(jAt p.2 0 e==e))=true then some [.str "empty",.str p.1]else none).or (tD n m J p.2 p.1)
def tW(n m:Nat)(J:TZ)(e:Int)(Ds:DZ):FT:=((tU n J e).or (tA n J)).or (Ds.findSome? (tE n m J e))
theorem zok{t:FT}:zY .Is (oD t) .non=some (.im (.bl t.isNone)):=by cases t<;>rfl
theorem zsb{t:FT}:zY .IsNot (oD t) .non=some (.im (.bl t.isSome)):=by cases t<;>rfl
theorem isT{as:AS}{i:Nat}{t:FT}(h:as[i]? = some (sT (oD t))):WT (fT (f2 (fV i) (fC .non) (zY .Is))) as t.isNone:=yc (zH (za h) (zb (x:=.non)) zok rfl) rfl
theorem zwd{as:AS}{i:Nat}{t:FT}(h:as[i]? = some (sT (oD t))):WT (fT (f2 (fV i) (fC .non) (zY .IsNot))) as t.isSome:=yc (zH (za h) (zb (x:=.non)) zsb rfl) rfl
theorem zoo(A:Alg n m J e Ds):RE (Z9 [(true,zJ n m J e Ds S)]) (oD (Ds.findSome? (tE n m J e))):=by
 have n8:=A.n8
 have m1:=A.m1
 have s1:zO true 1 (f2 zq Zc ixP) [sT (zJ n m J e Ds S),none,none,none,none]=some (.nx [sT (zJ n m J e Ds S),sI e,none,none,none]):=yz (i:=1) (yM (za (i:=0) rfl) zb rfl) (zy rfl)
 have k:=l_F (g:=gT 2 (gsC (gN 2) (gsC (gN 3) gsN))) (f:=(zB (sIf (fT (f2 (f2 (f2 zV yF ixP) zr ixP) zr (zY .NotEq))) (yE (yL (dC (fC (.str "empty")) (dC zG dN)))) sNx)
  (zB (zO true 4 (zN (aC zq (aC zG Xg)) v7))
  (sIf (fT (f2 yD (fC .non) (zY .IsNot))) (yE yD) sNx)))) (it:=λp:Str×TZ=>(true,yt p)) (λas=>∃(x y z:Option O),as=[sT (zJ n m J e Ds S),sI e,x,y,z]) (tE n m J e) Ds (λp mp as hI=>by
   obtain⟨x,y,z,rfl⟩:=hI
   have hT:=A.ds p mp
   obtain⟨q1,_⟩:=zao (as:=[sT (zJ n m J e Ds S),sI e,sT (.str p.1),sT (zF p.2),z]) hT (w:=0) (v:=e) ⟨by trivial,by trivial⟩ ⟨A.e0,A.en⟩ (za (i:=3) rfl) (zb (x:=.int 0)) (za (i:=1) rfl)
   have t1:=zlr q1 (za (i:=1) (x:=.int e) (s:=true) rfl)
   refine⟨[sT (zJ n m J e Ds S),sI e,sT (.str p.1),sT (zF p.2),z],rfl, ?_⟩
   refine(zoP (I:=λas=>as=[sT (zJ n m J e Ds S),sI e,sT (.str p.1),sT (zF p.2),z]) t1 (zeb (os:=[.lf true (.str "empty"),.lf true (.str p.1)]) (zp zb (zp (za (i:=2) rfl) ym)) (szl rfl) rfl rfl) rfl).thn λas' hI=>?_
   subst hI
   refine R4.seq (vH (p:=4) (YM (WD.e (za (i:=0) rfl)) (WD.e (za (i:=2) rfl)) (WD.e (za (i:=3) rfl)) (zqw (s:=p.1) n8 m1 A.m6 A.j hT)) (zy rfl)) ?_
   have tt:=zwd (as:=[sT (zJ n m J e Ds S),sI e,sT (.str p.1),sT (zF p.2),sT (oD (tD n m J p.2 p.1))]) (i:=4) (t:=tD n m J p.2 p.1) rfl
   generalize tD n m J p.2 p.1=t at tt
   cases t with
   |none=>exact .inl ⟨rfl,_,yw tt rfl,_,_,_,rfl⟩
   |some ds=>exact .inr ⟨ds,rfl,Zm tt (yR (WD.e (za (i:=4) rfl)))⟩) [sT (zJ n m J e Ds S),sI e,none,none,none] ⟨_,_,_,rfl⟩
 refine yW rfl (zg s1 ?_)
 rw[<-or_none (t:=Ds.findSome? (tE n m J e))]
 refine R4.rt (I:=λas=>∃(x y z:Option O),as=[sT (zJ n m J e Ds S),sI e,x,y,z]) ?_ λ_ _=>yR (WD.e zb)
 have hi:=zpd (as:=[sT (zJ n m J e Ds S),sI e,none,none,none]) (f:=f2 zq wK ixP) (ds:=Ds.map yt) (yM (za (i:=0) rfl) zb rfl)
 rw[zzZ]at hi
 rw[wV hi rfl]
 exact k
theorem zrL(A:Alg n m J e Ds):RE (Yc [(true,zJ n m J e Ds S)]) (oD (tW n m J e Ds)):=by
 have r1:=zlG (m:=m) (Ds:=Ds) (S:=S) A.n8 A.j ⟨A.e0,A.en⟩
 have r2:=zlC (m:=m) (e:=e) (Ds:=Ds) (S:=S) A.n8 A.j
 have r3:=zoo (S:=S) A
 have s1:=vH (as:=W8 2 [(true,zJ n m J e Ds S)]) (p:=1) (Xq (WD.e (za (i:=0) rfl)) r1) (zy rfl)
 have st:∀(t t':FT) (g:Fn),RE (g [(true,zJ n m J e Ds S)]) (oD t')->sIf (fT (f2 zr (fC .non) (zY .Is))) (zO true 1 (zN Zd g)) sNx [sT (zJ n m J e Ds S),sT (oD t)]=some (.nx [sT (zJ n m J e Ds S),sT (oD (t.or t'))]):=λt t' g hg=>by
  have tt:=isT (as:=[sT (zJ n m J e Ds S),sT (oD t)]) (i:=1) rfl
  cases t with
  |none=>exact Yh tt (vH (p:=1) (Xq (WD.e (za (i:=0) rfl)) hg) (zy rfl))
  |some ds=>exact yw tt rfl
 exact yW rfl (zg s1 (zg (st _ _ _ r2) (zg (st _ _ _ r3) (yR (WD.e (za (i:=1) rfl))))))
abbrev F10(n m:Nat)(J:TZ)(e:Int)(Ds:DZ)(S:SS)(d:D)(x y:Option O):AS:=[sT (zJ n m J e Ds S),sI n,sI m,sT (zF J),sI e,sT (.lst (Ds.map yt)),sT (.lst (S.map yU)),sT d,x,y]
abbrev faB:SF:=(zB (sIf (zbm (fT (f2 v4 (fC .non) (zY .Is))) (fT (f2 (f2 (f2 (fV 9) yF ixP) yD ixP) yD (zY .NotEq)))) (zO true 7 (yL (dC (fC (.str "empty")) (dC (fV 8) dN)))) sNx)
 (sIf (fT (f2 v4 (fC .non) (zY .Is))) (zO true 7 (zN (aC zr (aC zG (aC zV (aC (fV 8) (aC (fV 9) aN))))) ZX)) sNx))
theorem zjJ(A:Alg n m J e Ds):RE (ZZ [(true,zJ n m J e Ds S)]) (oD (tW n m J e Ds)):=by
 have n8:=A.n8
 have m1:=A.m1
 have he:InR n e:=⟨A.e0,A.en⟩
 have h0:=zhx (e:=e) n8 A.j he
 obtain⟨as',hf,x,y,rfl⟩:=vD (g:=gT 2 (gsC (gN 8) (gsC (gN 9) gsN))) (f:=faB)
  (λi as=>∃(x y:Option O),as=F10 n m J e Ds S (oD (((tU n J e).or (tA n J)).or ((Ds.take i).findSome? (tE n m J e)))) x y)
  ((Ds.map yt).map λd=>(true,d)) 0 (F10 n m J e Ds S (oD ((tU n J e).or (tA n J))) none none) (λi x as hx' hI=>by
    obtain⟨x,y,rfl⟩:=hI
    rw[zzZ,zzG]at hx'
    obtain⟨p,hp,rfl⟩:=zzV.mp hx'
    have hT:=A.ds p (zzY hp)
    have es:((tU n J e).or (tA n J)).or ((Ds.take (0+i+1)).findSome? (tE n m J e))=(((tU n J e).or (tA n J)).or ((Ds.take (0+i)).findSome? (tE n m J e))).or (tE n m J e p):=by
     have e2:List.findSome? (tE n m J e) (Option.toList (some p))=tE n m J e p:=by
      rw[Option.toList_some,List.findSome?_cons,List.findSome?_nil]
      cases tE n m J e p<;>rfl
     generalize (tU n J e).or (tA n J)=X
     rw[zyW,List.take_succ,hp,List.findSome?_append,e2,Option.or_assoc]
    rw[es]
    generalize ((tU n J e).or (tA n J)).or ((Ds.take (0+i)).findSome? (tE n m J e))=t
    refine⟨F10 n m J e Ds S (oD t) (sT (.str p.1)) (sT (zF p.2)),rfl, ?_⟩
    have tn:=isT (as:=F10 n m J e Ds S (oD t) (sT (.str p.1)) (sT (zF p.2))) (i:=7) rfl
    cases t with
    |some ds=>exact⟨_,yC (yw (Vv tn (λh=>nomatch h) (λ_=>rfl)) rfl) (yw tn rfl),_,_,rfl⟩
    |none=>
     obtain⟨q1,_⟩:=zao (as:=F10 n m J e Ds S (oD none) (sT (.str p.1)) (sT (zF p.2))) hT (w:=0) (v:=e) ⟨by trivial,by trivial⟩ he (za (i:=9) rfl) (zb (x:=.int 0)) (za (i:=4) rfl)
     have t1:=zlr q1 (za (i:=4) (x:=.int e) (s:=true) rfl)
     have t2:=Vv (l:=!(jAt p.2 0 e==e)) tn (λ_=>t1) (λh=>nomatch h)
     have ed:tE n m J e p=(if(!(jAt p.2 0 e==e))=true then some [.str "empty",.str p.1]else none).or (tD n m J p.2 p.1):=rfl
     rw[show(none:FT).or (tE n m J e p)=tE n m J e p from rfl,ed]
     generalize (!(jAt p.2 0 e==e))=q at t2
     cases q with
     |true=>exact⟨_,yC (as1:=F10 n m J e Ds S (.tup [.str "empty",.str p.1]) (sT (.str p.1)) (sT (zF p.2))) (Yh t2 (vH (p:=7) (zeb (os:=[.lf true (.str "empty"),.lf true (.str p.1)]) (zp zb (zp (za (i:=8) rfl) ym)) (szl rfl) rfl rfl) (zy rfl))) (yw (yc (zH (za (i:=7) rfl) zb rfl rfl) rfl) rfl),_,_,rfl⟩
     |false=>exact⟨_,yC (yw t2 rfl) (Yh tn (vH (p:=7) (ziR (WD.e (za (i:=1) rfl)) (WD.e (za (i:=2) rfl)) (WD.e (za (i:=3) rfl)) (WD.e (za (i:=8) rfl)) (WD.e (za (i:=9) rfl)) (zjD (s:=p.1) n8 m1 A.m6 A.j hT)) (zy rfl))),_,_,rfl⟩)
  ⟨none,none,by rw[List.take_zero,List.findSome?_nil,or_none]⟩
 rw[zD,zD,zyW,List.take_length]at hf
 exact yW rfl (zg (as1:=[sT (zJ n m J e Ds S),sI n,sI m,sT (zF J),sI e,sT (.lst (Ds.map yt)),sT (.lst (S.map yU)),none,none,none]) (zkJ (WD.e (za (i:=0) rfl)) rfl) (zg (vH (p:=7) (YM (WD.e (za (i:=1) rfl)) (WD.e (za (i:=3) rfl)) (WD.e (za (i:=4) rfl)) h0) (zy rfl)) (zg (wV (zpd (za (i:=5) rfl)) hf) (yR (WD.e (za (i:=7) rfl))))))
end
theorem zjo{n m:Nat}{J:TZ}{e c:Int}{Ds:DZ}{S:SS}(A:Alg n m J e Ds):∃J' e' Ds',Alg n m J' e' Ds'/\RE (v5 [(true,zJ n m J e Ds S),(true,.int c)]) (zJ n m J' e' Ds' S):=by
 have n1:=A.n1
 have n8:=A.n8
 have m6:=A.m6
 have dl:=A.dl
 have nn:n*n<=64:=Nat.mul_le_mul n8 n8
 have nm:n*m<=48:=Nat.mul_le_mul n8 m6
 have nmd:n*m*Ds.length<=288:=Nat.mul_le_mul nm dl
 obtain⟨ds,d1,d2,d3⟩:=ziq (c:=c) (n:=n) (k:=1+n*n+n*m*Ds.length) n1 n8 (by omega)
 obtain⟨e',e1,e2⟩:=zfW (r:=ds) (P:=InR n) (k:=0) (by omega) (by omega) d2
 obtain⟨J',j1,j2,j3⟩:=zgH (as:=[sT (zJ n m J e Ds S),sI c,sI n,sI m,sT (zF J),sI e,sT (.lst (Ds.map yt)),sT (.lst (S.map yU)),sT (.lst (ds.map D.int)),none,none,none,none]) (u:=true) zc (Q:=Row n) (n:=n) (fr:=aC zG aN) (cap:=[none,some 8,some 2]) (fe:=fSl zr (oS (f2 yp (f2 zG zq zU) zE)) (oS (f2 (f2 yp (f2 zG zq zU) zE) zG zE)) slP) (zx (za rfl) zR) (by omega) λa a0 a1=>by
  have ha:n*a.toNat+n<=n*n:=by rw[<-Nat.mul_succ];exact Nat.mul_le_mul_left n (by omega)
  have ea:(a.toNat:Int)=a:=by omega
  have w:WD (f2 yp (f2 zG zq zU) zE) [sI a,sT (.lst (ds.map D.int)),sI n] true (.int (1+n*a)):=xr zb (vK (za rfl) (za rfl) (ye (by omega) (by omega)) (ye (by omega) (by omega)))
  exact⟨[sI a,sT (.lst (ds.map D.int)),sI n],_,rfl,cutE (a:=1+n*a.toNat) (n:=n) (by omega) (za rfl) w (xr w (za rfl)) (by rw[Int.natCast_add,zzT,ea];rfl) (by rw[Int.natCast_add,Int.natCast_add,zzT,ea];rfl),zmw (by omega) d2 rfl⟩
 obtain⟨os,l,e11,e12,ho,hlm,hlen,hf⟩:=zup (a0:=sT (zJ n m J e Ds S)) (a1:=sI c) (a4:=sT (zF J)) (a5:=sI e) (a7:=sT (.lst (S.map yU))) (a9:=sT (zF J')) n1 n8 m6 dl d1 d2
 refine⟨J',e',l,⟨n1,n8,A.m1,m6,⟨j1,j2⟩,e2.1,e2.2,by omega,ho.al,by rw[hlm];exact A.nd⟩, ?_⟩
 have ek:((1+n*n+n*m*Ds.length:Nat):Int)=1+n*n+n*m*((Ds.map yt).length:Int):=by rw[Int.natCast_add,Int.natCast_add,zzT,zzT,zzT,zD];rfl
 have enm:((n*m:Nat):Int)=n*m:=zzT n m
 rw[ek]at d3
 refine yW rfl (zg (as1:=[sT (zJ n m J e Ds S),sI c,sI n,sI m,sT (zF J),sI e,sT (.lst (Ds.map yt)),sT (.lst (S.map yU)),none,none,none,none,none]) (zkJ (WD.e (za rfl)) rfl) (zg (vH (p:=8) (YM (WD.e (za rfl)) (WD.e (za rfl)) (WD.e (xr (xr zb (vK (za rfl) (za rfl) (ye (by omega) (by omega)) (ye (by omega) (by omega)))) (vK (vK (za rfl) (za rfl) (ye (by omega) (by omega)) (ye (by omega) (by omega))) (wU (zx (za rfl) zR) rfl rfl) (by rw[<-enm];exact ye (by omega) (by omega)) (ye (by rw[zD];omega) (by rw[zD];omega))))) d3) (zy rfl)) (zg (vH (p:=9) j3 (zy rfl)) (zg (wY (i:=10) (Zx ym (szl rfl)) (zy rfl)) (zg (wV (wZ (j:=((Ds.map yt).length:Int)) (zx (wU (zx (za rfl) zR) rfl rfl) zR) (by omega) (by rw[zD];omega)) (by rw[zD];exact hf)) ?_)))))
 have q:=xT (as:=Y13 n m (sT (zJ n m J e Ds S)) (sI c) (sT (zF J)) (sI e) (sT (.lst (S.map yU))) (sT (zF J')) Ds ds (sN os) e11 e12) (a:=fV 2) (za rfl) (xT (a:=fV 3) (za rfl) (xT (a:=fV 9) (za rfl) (xT (a:=f2 (fV 8) yF ixP) (zH (za rfl) zb e1 rfl) (zdv (j:=10) (fr:=dC v4 dN) rfl (xT (a:=fV 7) (za rfl) rfl)))))
 rw[ho.frz]at q
 exact⟨_,W4 (zfG q (szl rfl)) rfl,rfl,rfl⟩
theorem zta{ns:List Int}:∃n m J e Ds S,Alg n m J e Ds/\Sg S/\RE (WQ [(true,.lst (ns.map .int))]) (zJ n m J e Ds S):=by
 obtain⟨c,hc⟩:=X8 (ns:=ns) (k:=2) (s:=true) (t:=true) (by omega)
 obtain⟨c0,hc0⟩:=X8 (ns:=ns) (k:=0) (s:=true) (t:=true) (by omega)
 obtain⟨c1,hc1⟩:=X8 (ns:=ns) (k:=1) (s:=true) (t:=true) (by omega)
 obtain⟨n,m,J,e,Ds,S,⟨A,_⟩,hSl,hA⟩:=zgd (c:=c0) (c':=c1)
 have s1:zO true 1 (zN (aC zq (aC yN aN)) zQ) [sT (.lst (ns.map .int)),none,none]=some (.nx [sT (.lst (ns.map .int)),sI c,none]):=yz (i:=1) (Z7 (zx (za rfl) (zx zb zR)) hc) (zy rfl)
 have s2:zO true 2 (zN (aC (zN (aC zq (aC yF aN)) zQ) (aC (zN (aC zq (aC yp aN)) zQ) aN)) wA) [sT (.lst (ns.map .int)),sI c,none]=some (.nx [sT (.lst (ns.map .int)),sI c,sT (zJ n m J e Ds S)]):=
  vH (p:=2) (Y6 (WD.e (Z7 (zx (za rfl) (zx zb zR)) hc0)) (WD.e (Z7 (zx (za rfl) (zx zb zR)) hc1)) hA) (zy rfl)
 by_cases h:c%2=1
 · obtain⟨J',e',Ds',A',h'⟩:=zjo (c:=c/2) (S:=S) A
   exact⟨n,m,J',e',Ds',S,A',hSl,yW rfl (zg s1 (zg s2 (vB (Zm (yc (yV (yg (za rfl) zb (by decide)) zb rfl) (by show some (c%2==1)=_;simp[h])) (yR (Y6 (WD.e (za rfl)) (WD.e (v9 (za rfl) zb (by decide) (ye (by decide) (by decide)))) h'))))))⟩
 · obtain⟨J',e',Ds',A',h'⟩:=zrB (c:=c/2) (S:=S) A
   exact⟨n,m,J',e',Ds',S,A',hSl,yW rfl (zg s1 (zg s2 (zg (yw (yc (yV (yg (za rfl) zb (by decide)) zb rfl) (by show some (c%2==1)=_;simp[h])) rfl) (yR (Y6 (WD.e (za rfl)) (WD.e (v9 (za rfl) zb (by decide) (ye (by decide) (by decide)))) h')))))⟩
theorem Wf{n:Nat}{t:Int->FT}(h:fs n t=none){b:Int}(hb:InR n b):t b=none:=by
 unfold fs at h
 have:=List.findSome?_eq_none_iff.mp h b.toNat (List.mem_range.mpr (by have:=hb.1;have:=hb.2;omega))
 rw[show((b.toNat:Nat):Int)=b by have:=hb.1;omega]at this
 exact this
theorem zpZ{t t':FT}(h:t.or t'=none):t=none/\t'=none:=by cases t with
 |none=>exact⟨rfl,h⟩
 |some d=>cases h
theorem zmE{q:Bool}{ds:List D}(h:(if q=true then some ds else none)=none):q=false:=by cases q with
 |false=>rfl
 |true=>cases h
theorem zgb{a b:Int}(h:(!(a==b))=false):a=b:=by simpa using h
theorem zoW{n m:Nat}{J:TZ}{e:Int}{Ds:DZ}(A:Alg n m J e Ds)(h:tW n m J e Ds=none):LawA n m J e Ds:=by
 obtain⟨h1,h3⟩:=zpZ h
 obtain⟨h1,h2⟩:=zpZ h1
 have un:∀a,InR n a->jAt J e a=a/\jAt J a e=a:=λa ha=>by
  have:=zmE (Wf h1 ha)
  rw[Bool.or_eq_false_iff]at this
  exact⟨zgb this.1,zgb this.2⟩
 have m0:InR m (0:Int):=⟨Int.le_refl _,by have:=A.m1;omega⟩
 have cl:∀{k:Nat}{T:TZ}(c a:Int),Tab k n T->InR k c->InR n a->InR n (jAt T c a):=λc a hT hc ha=>(rowAt (ZR hT hc).2 ha).2
 have he:InR n e:=⟨A.e0,A.en⟩
 refine⟨⟨λa b ha hb=>cl a b A.j ha hb,he,λa ha=>(un a ha).1,λa ha=>(un a ha).2,λa b c ha hb hc=>zgb (zmE (Wf (Wf (Wf h2 ha) hb) hc))⟩,λp mp=>?_⟩
 obtain⟨g1,g2⟩:=zpZ (List.findSome?_eq_none_iff.mp h3 p mp)
 exact⟨λc a hc ha=>cl c a (A.ds p mp) hc ha,zgb (zmE g1),λa i b k ha hi hb hk=>zgb (zmE (Wf (Wf (Wf (Wf g2 ha) hi) hb) hk))⟩
theorem zpo{n m:Nat}{J:TZ}{e:Int}{Ds:DZ}(A:Alg n m J e Ds)(L:LawA n m J e Ds):tW n m J e Ds=none:=by
 have fn:∀{k:Nat}{t:Int->FT},(∀b,InR k b->t b=none)->fs k t=none:=λ{k t} H=>by
  unfold fs
  exact List.findSome?_eq_none_iff.mpr λi mi=>H _ ⟨by omega,by have:=List.mem_range.mp mi;omega⟩
 have bn:∀{a b:Int},a=b->(!(a==b))=false:=λh=>by simp[h]
 have ino:∀{q:Bool}{ds:List D},q=false->(if q=true then some ds else none)=none:=λh=>by rw[h];rfl
 have h1:tU n J e=none:=fn λa ha=>ino (by rw[bn (L.lj.ul a ha),bn (L.lj.ur a ha)];rfl)
 have h2:tA n J=none:=fn λa ha=>fn λb hb=>fn λc hc=>ino (bn (L.lj.as a b c ha hb hc))
 have h3:Ds.findSome? (tE n m J e)=none:=List.findSome?_eq_none_iff.mpr λp mp=>by
  have ld:=L.ld p mp
  have g1:(if(!(jAt p.2 0 e==e))=true then some [D.str "empty",D.str p.1]else none)=none:=ino (bn ld.em)
  have g2:tD n m J p.2 p.1=none:=fn λa ha=>fn λi hi=>fn λb hb=>fn λk hk=>ino (bn (ld.dn a i b k ha hi hb hk))
  unfold tE
  rw[g1,g2];rfl
 unfold tW
 rw[h1,h2,h3];rfl
theorem zpr{n m:Nat}{J:TZ}{e:Int}{Ds:DZ}{S:SS}(A:Alg n m J e Ds)(L:LawA n m J e Ds):wI [(true,zJ n m J e Ds S)]=sT .non:=by
 have w:=zrL (S:=S) A
 rw[zpo A L]at w
 have h:X5 (W8 2 [(true,zJ n m J e Ds S)])=some (.nx [sT (zJ n m J e Ds S),sT .non]):=yC (vH (p:=1) (Xq (WD.e (za (i:=0) rfl)) w) (zy rfl)) (yw (yc (zH (za (i:=1) rfl) zb rfl rfl) rfl) rfl)
 unfold wI fnR
 rw[if_pos (show[(true,zJ n m J e Ds S)].length=1 from rfl),h];rfl
theorem zrz{ns:List Int}:∃n m J e Ds S,Alg n m J e Ds/\LawA n m J e Ds/\Sg S/\RE (Zi [(true,.lst (ns.map .int))]) (zJ n m J e Ds S):=by
 obtain⟨c,hc⟩:=X8 (ns:=ns) (k:=2) (s:=true) (t:=true) (by omega)
 obtain⟨c0,hc0⟩:=X8 (ns:=ns) (k:=0) (s:=true) (t:=true) (by omega)
 obtain⟨c1,hc1⟩:=X8 (ns:=ns) (k:=1) (s:=true) (t:=true) (by omega)
 obtain⟨n,m,J,e,Ds,S,⟨A,L⟩,hS,hA⟩:=zgd (c:=c0) (c':=c1)
 obtain⟨n',m',J',e',Ds',S',A',hS',hA'⟩:=zta (ns:=ns)
 have s1:=vH (p:=1) (as:=[sT (.lst (ns.map .int)),none]) (Xq (WD.e (za (i:=0) rfl)) hA') (zy rfl)
 have ra:Rt (yE (zN (aC (zN (aC zq (aC yF aN)) zQ) (aC (zN (aC zq (aC yp aN)) zQ) aN)) wA) [sT (.lst (ns.map .int)),sT (zJ n' m' J' e' Ds' S')]) (zJ n m J e Ds S):=yR (Y6 (WD.e (Z7 (zx (za rfl) (zx zb zR)) hc0)) (WD.e (Z7 (zx (za rfl) (zx zb zR)) hc1)) hA)
 have t1:WT (fT (f2 (f2 (zN (aC zq (aC yN aN)) zQ) yN zA) yp (zY .Eq))) [sT (.lst (ns.map .int)),sT (zJ n' m' J' e' Ds' S')] (c%2==1):=yc (yV (yg (Z7 (zx (za rfl) (zx zb zR)) hc) zb (by decide)) zb rfl) rfl
 have t2:WT (fT (f2 (zN wN ZZ) (fC .non) (zY .Is))) [sT (.lst (ns.map .int)),sT (zJ n' m' J' e' Ds' S')] (tW n' m' J' e' Ds').isNone:=yc (f2E (Xq (WD.e (za (i:=1) rfl)) (zjJ A')) (WD.e (zb (x:=.non))) zok) rfl
 by_cases h:(c%2==1)=true
 · cases hw:tW n' m' J' e' Ds' with
   |none=>
    rw[hw]at t2
    exact⟨n',m',J',e',Ds',S',A',zoW A' hw,hS',yW rfl (zg s1 (vB (Zm (Vv (l:=true) t1 (λ_=>t2) (λz=>by rw[h]at z;cases z)) (yR (WD.e (za (i:=1) rfl))))))⟩
   |some d=>
    rw[hw]at t2
    exact⟨n,m,J,e,Ds,S,A,L,hS,yW rfl (zg s1 (zg (yw (Vv (l:=false) t1 (λ_=>t2) (λ_=>rfl)) rfl) ra))⟩
 · exact⟨n,m,J,e,Ds,S,A,L,hS,yW rfl (zg s1 (zg (yw (Vv (l:=false) t1 (λz=>absurd z h) (λ_=>rfl)) rfl) ra))⟩
abbrev sL(x:Int):D:=.tup [.str "left",.int x]
abbrev sR(x:Int):D:=.tup [.str "right",.int x]
abbrev sD(s:Str)(c:Int):D:=.tup [.str "deed",.str s,.int c]
theorem Xa{α:Type}{f:EF}{as:AS}{g:α->D}{l:List α}(h:WE f as (.lst (l.map g))):xq f as=some (l.map λa=>(true,g a),as):=by
 have:=zbI h
 rw[zzZ]at this
 exact this
theorem vP{n:Nat}{x:Int}(h:x ∈ yr n):InR n x:=by
 obtain⟨i,hi,rfl⟩:=zxC.mp h
 have:=List.mem_range.mp hi
 exact⟨by omega,by omega⟩
theorem Vt{n:Nat}{x:Int}(h:InR n x):x ∈ yr n:=zxC.mpr ⟨x.toNat,List.mem_range.mpr (by have:=h.1;have:=h.2;omega),by have:=h.1;omega⟩
theorem zqn{as:AS}{fr:AF}{n:Nat}{u:Bool}(h:WA fr as [(u,.int n)])(hn:n<=1000):yJ fr yK as=some ((yr n).map λx=>(true,D.int x),as):=by
 rw[wZ h (by omega) (by omega),zyG,zzZ]
 unfold vN
 simp only[Int.zero_add];rfl
abbrev stD(q:D×List Int):D:=.tup [q.1,zc q.2]
theorem zwK{a b:EF}{as:AS}{ds es:List D}(ha:WE a as (.lst ds))(hb:WE b as (.lst es))(hl:ds.length+es.length<=sizeLine):f2 a b zE as=some (.ow (.nd .ls ((ds++es).map (O.lf true))),as):=by
 obtain⟨o,h1,h2,h3⟩:=ha
 obtain⟨p,k1,k2,k3⟩:=hb
 have e1:RV.view as (.ow o.frz)=some (.lst ds,some true):=by
  show some (o.toD,some o.str)=_
  rw[h2,h3]
 have e2:RV.view as (.ow p.frz)=some (.lst es,some true):=by
  show some (p.toD,some p.str)=_
  rw[k2,k3]
 unfold f2
 simp only[h1,k1,zyJ,RV.frz,e1,e2]
 show((W3 .Add (.lst ds) (.lst es)).bind _)=_
 rw[add_lists hl]
 show(if((ds++es).all yu||true)=true then some (RV.ow (.nd .ls ((ds++es).map (lfs true))))else none:Option RV).bind _=_
 rw[if_pos (by simp),Vs];rfl
theorem zkU:∀(a b:List O),O.toDs (a++b)=O.toDs a++O.toDs b
 | [],_=>rfl
 |x::a,b=>congrArg (x.toD :: ·) (zkU a b)
theorem zkb:∀{a b:List O},O.strs a=true->O.strs b=true->O.strs (a++b)=true
 | [],_,_,h=>h
 |x::a,b,h,h'=>by
  have h:=(zyA _ _).mp (show(x.str&&O.strs a)=true from h)
  show(x.str&&O.strs (a++b))=true
  rw[h.1,zkb h.2 h'];rfl
theorem zvZ{α:Type}{toD:α->D}{Q:α->Prop}{as:AS}{fi:IF}{cap:List (Option Nat)}{g:GF}{fe:EF}{i:Nat}{os ps:List O}{l k:List α}{xs:List It1}(h:as[i]? = some (sN os))(ho:Ows toD Q os l)(hi:fi as=some (xs,as))(hx:xs.length<=1000)(hc:wD g yf fe (ZQ cap as) xs=some ps)(hs:O.strs ps=true)(hd:O.toDs ps=k.map toD)(hk:∀a ∈ k,Q a)(hl:l.length+k.length<=1000):
 xx (vf i (dC (zL fi cap g yf fe) dN) zns) as=some (.nx (as.set i (sN (os++ps))))/\Ows toD Q (os++ps) (l++k):=by
 have hlp:ps.length=k.length:=by have:=congrArg List.length hd;rw[zaE,zD]at this;exact this
 refine⟨?_,zkb ho.st hs,by rw[zkU,ho.ds,hd,zyK],λa m=>(zzK.mp m).elim (ho.al a) (hk a),by rw[zzH,zzH,ho.ln,hlp]⟩
 have e1:zL fi cap g yf fe as=some (.ow (.nd .ls ps),as):=Wj hi (szs (by omega)) hc
 unfold xx vf
 rw[h]
 show(((dC (zL fi cap g yf fe) dN as).bind _).bind _)=_
 unfold dC
 rw[e1]
 show((match as[i]? with|some (some (.nd .ls os))=>(zns os [.nd .ls ps]).bind λz=>some (RV.ow z.2,as.set i (sN z.1))|_=>none).bind _)=_
 rw[h]
 show(((if os.length+ps.length<=sizeLine then some (os++ps,O.lf true .non)else none:Option (List O×O)).bind _).bind _)=_
 rw[if_pos (szs (by rw[ho.ln,hlp];omega))];rfl
section
variable{n m:Nat}{J:TZ}{e:Int}{Ds:DZ}{S:SS}{v:Int}
abbrev Gd(n:Nat)(q:D×List Int):Prop:=Row n q.2
abbrev tR(T:TZ)(x:Int):List Int:=(T[x.toNat]?).getD []
abbrev col(J:TZ)(x:Int):List Int:=J.map λr=>rAt r x
theorem zwl{x:Int}(A:Alg n m J e Ds)(h:InR n x):Row n (col J x):=by
 refine⟨by rw[zD];exact A.j.1,λy my=>?_⟩
 obtain⟨r,mr,rfl⟩:=zxC.mp my
 exact(rowAt (A.j.2 r mr) h).2
abbrev alB:SF:=(xx (vf 3 (dC (zL (zqM wR) [none,none,some 4] (gT 2 (gsC yh (gsC (gN 1) gsN))) yf (yL (dC (yL (dC (fC (.str "deed")) (dC zG (dC zq dN)))) (dC zr dN)))) dN) zns))
theorem znk:∀(T:TZ) (k:Nat),zbr true k (T.map zc)=((List.range' k T.length).zip T).map λq=>(true,D.tup [.int (q.1:Int),zc q.2])
 | [],_=>rfl
 |r::T,k=>by
  show(true,D.tup [.int (k:Int),zc r])::zbr true (k+1) (T.map zc)=_
  rw[znk T (k+1)];rfl
theorem zoR(A:Alg n m J e Ds){p:Str×TZ}(hp:p ∈ Ds){B C L:Option O}{os:List O}{l:List (D×List Int)}(ho:Ows stD (Gd n) os l)(hl:l.length+6<=1000):
 ∃ps k,alB [B,C,L,sN os,sT (.str p.1),sT (zF p.2)]=some (.nx [B,C,L,sN (os++ps),sT (.str p.1),sT (zF p.2)])/\Ows stD (Gd n) (os++ps) (l++k)/\k.length=m/\∀c,InR m c->(sD p.1 c,tR p.2 c) ∈ k:=by
 have hT:=A.ds p hp
 have m6:=A.m6
 have hz:∀q ∈ (List.range' 0 p.2.length).zip p.2,p.2[q.1]? = some q.2:=λq hq=>by
  obtain⟨i,hi⟩:=List.mem_iff_getElem?.mp hq
  obtain⟨h1,h2⟩:=List.getElem?_zip_eq_some.mp hi
  have:=(zzE.mp h1)
  obtain⟨h3,h4⟩:=this
  rw[List.getElem_range']at h4
  rw[<-h4];simpa using h2
 obtain⟨ps,c1,c2,c3⟩:=zdM (gg:=gT 2 (gsC yh (gsC (gN 1) gsN))) (fe:=yL (dC (yL (dC (fC (.str "deed")) (dC zG (dC zq dN)))) (dC zr dN))) (it:=λq:Nat×List Int=>(true,D.tup [.int (q.1:Int),zc q.2])) (h:=λq=>stD (sD p.1 (q.1:Int),q.2)) (as0:=[none,none,sT (.str p.1)]) ((List.range' 0 p.2.length).zip p.2) λq hq=>⟨[sI q.1,sT (zc q.2),sT (.str p.1)],rfl,Yw (zeb (os:=[.lf true (.str "deed"),.lf true (.str p.1),lfI q.1]) (zp zb (zp (za (i:=2) rfl) (zp (za (i:=0) rfl) ym))) (szl rfl) rfl rfl) (WD.e (za (i:=1) rfl))⟩
 have hi:zqM wR [B,C,L,sN os,sT (.str p.1),sT (zF p.2)]=some (((List.range' 0 p.2.length).zip p.2).map λq=>(true,D.tup [.int (q.1:Int),zc q.2]),[B,C,L,sN os,sT (.str p.1),sT (zF p.2)]):=by
  rw[<-znk];rfl
 have zl:((List.range' 0 p.2.length).zip p.2).length=m:=by rw[List.length_zip,List.length_range',Nat.min_self];exact hT.1
 obtain⟨x1,x2⟩:=zvZ (i:=3) (cap:=[none,none,some 4]) (k:=((List.range' 0 p.2.length).zip p.2).map λq=>(sD p.1 (q.1:Int),q.2)) rfl ho hi (by rw[zD,zl];omega) c1 c2 (by rw[c3,zzZ];rfl) (λa ma=>by
  obtain⟨q,mq,rfl⟩:=zxC.mp ma
  exact hT.2 _ (zzY (hz q mq))) (by rw[zD,zl];omega)
 refine⟨ps,_,x1,x2,by rw[zD,zl],λc hc=>?_⟩
 have hk:c.toNat<p.2.length:=by have:=hc.1;have:=hc.2;have:=hT.1;omega
 rw[show tR p.2 c=p.2[c.toNat] by show(p.2[c.toNat]?).getD []=_;rw[zzC hk];rfl]
 refine zxC.mpr ⟨(c.toNat,p.2[c.toNat]), ?_,by rw[show((c.toNat:Nat):Int)=c by have:=hc.1;omega]⟩
 refine List.mem_iff_getElem?.mpr ⟨c.toNat,List.getElem?_zip_eq_some.mpr ⟨?_,zzC hk⟩⟩
 rw[List.getElem?_range' hk];simp
theorem zkX:(yr n).length=n:=by rw[zD,zyS]
theorem zjG(A:Alg n m J e Ds):∃sts:List (D×List Int),sts.length<=60/\(∀q ∈ sts,Gd n q)/\(∀x,InR n x->(sL x,tR J x) ∈ sts/\(sR x,col J x) ∈ sts)/\(∀p ∈ Ds,∀c,InR m c->(sD p.1 c,tR p.2 c) ∈ sts)/\RE (Z1 [(true,zJ n m J e Ds S)]) (.lst (sts.map stD)):=by
 have n8:=A.n8
 have m6:=A.m6
 have dl:=A.dl
 have s1:zO true 1 (f2 zq yN ixP) [sT (zJ n m J e Ds S),none,none,none,none,none]=some (.nx [sT (zJ n m J e Ds S),sT (zF J),none,none,none,none]):=yz (i:=1) (yM (za (i:=0) rfl) zb rfl) (zy rfl)
 have w2:WE (fP (aC (f2 zq yF ixP) aN) lrP) [sT (zJ n m J e Ds S),sT (zF J),none,none,none,none] (zc (yr n)):=⟨_,zjb (x:=.int n) (g:=lrP) (zs:=(yr n).map D.int) (WD.e (yM (za (i:=0) rfl) zb rfl)) (by
  show(if(0:Int)<=n/\(n:Int)<=100000 then _ else _)=_
  rw[if_pos ⟨by omega,by omega⟩,zzZ];rfl),zhu _,congrArg D.lst (zgu _)⟩
 have s2:=vH (p:=2) w2 (zy rfl)
 have ib:∀e3 e4 e5,xq zG [sT (zJ n m J e Ds S),sT (zF J),sT (zc (yr n)),e3,e4,e5]=some ((yr n).map λx=>(true,D.int x),[sT (zJ n m J e Ds S),sT (zF J),sT (zc (yr n)),e3,e4,e5]):=λ_ _ _=>Xa (g:=D.int) (WD.e (za (i:=2) rfl))
 have wl:=v8 (as:=[sT (zJ n m J e Ds S),sT (zF J),sT (zc (yr n)),none,none,none]) (h:=λx=>stD (sL x,tR J x)) (it:=λx:Int=>(true,D.int x)) (cap:=[none,some 1]) (gg:=gN 0) (fe:=yL (dC (yL (dC (fC (.str "left")) (dC zq dN))) (dC (f2 zr zq ixP) dN))) (yr n) (ib none none none) (by rw[zkX];omega) λx mx=>⟨[sI x,sT (zF J)],rfl,Yw (Yw (WD.e zb) (WD.e (za (i:=0) rfl))) (WD.e (yM (za (i:=1) rfl) (za (i:=0) rfl) (ZR A.j (vP mx)).1))⟩
 have wr:=v8 (as:=[sT (zJ n m J e Ds S),sT (zF J),sT (zc (yr n)),none,none,none]) (h:=λx=>stD (sR x,col J x)) (it:=λx:Int=>(true,D.int x)) (cap:=[none,some 1]) (gg:=gN 0) (fe:=yL (dC (yL (dC (fC (.str "right")) (dC zq dN))) (dC (zL (xq zr) [none,some 0] yh yf (f2 zq zr ixP)) dN))) (yr n) (ib none none none) (by rw[zkX];omega) λx mx=>⟨[sI x,sT (zF J)],rfl,by
  have wc:=v8 (as:=[sI x,sT (zF J)]) (h:=λr=>D.int (rAt r x)) (it:=λr:List Int=>(true,zc r)) (cap:=[none,some 0]) (gg:=gN 0) (fe:=f2 zq zr ixP) (fi:=xq zr) J (Xa (g:=zc) (WD.e (za (i:=1) rfl))) (by rw[A.j.1];omega) λr mr=>⟨[sT (zc r),sI x],rfl,WD.e (zH (za (i:=0) rfl) (za (i:=1) rfl) (rowAt (A.j.2 r mr) (vP mx)).1 rfl)⟩
  have ec:(J.map λr=>D.int (rAt r x))=(col J x).map D.int:=by rw[zzZ];rfl
  rw[ec]at wc
  exact Yw (Yw (WD.e zb) (WD.e (za (i:=0) rfl))) wc⟩
 have s3:=wY (i:=3) (zwK wl wr (szs (by simp only[zD,zyS];omega))) (zy rfl)
 have l0:Ows stD (Gd n) ((((yr n).map λx=>stD (sL x,tR J x))++((yr n).map λx=>stD (sR x,col J x))).map (O.lf true)) (((yr n).map λx=>(sL x,tR J x))++((yr n).map λx=>(sR x,col J x))):=by
  refine⟨zhu _, ?_,λq mq=>?_, ?_⟩
  · rw[zgu]
    simp only[zyK,zzZ]
    rfl
  · rcases zzK.mp mq with h|h
    · obtain⟨x,mx,rfl⟩:=zxC.mp h
      exact(ZR A.j (vP mx)).2
    · obtain⟨x,mx,rfl⟩:=zxC.mp h
      exact zwl A (vP mx)
  · simp only[zD,zzH]
 obtain⟨as',hf,os,l,e4,e5,rfl,ho,hl,hx,hd⟩:=vD (g:=gT 2 (gsC V8 (gsC (gN 5) gsN))) (f:=alB)
  (λi as=>∃(os:List O) (l:List (D×List Int)) (e4 e5:Option O),as=[sT (zJ n m J e Ds S),sT (zF J),sT (zc (yr n)),sN os,e4,e5]/\Ows stD (Gd n) os l/\l.length<=16+6*i/\(∀x,InR n x->(sL x,tR J x) ∈ l/\(sR x,col J x) ∈ l)/\∀p ∈ Ds.take i,∀c,InR m c->(sD p.1 c,tR p.2 c) ∈ l)
  ((Ds.map yt).map λd=>(true,d)) 0 [sT (zJ n m J e Ds S),sT (zF J),sT (zc (yr n)),sN ((((yr n).map λx=>stD (sL x,tR J x))++((yr n).map λx=>stD (sR x,col J x))).map (O.lf true)),none,none] (λi x as hx' hI=>by
    obtain⟨os,l,e4,e5,rfl,ho,hl,hx,hd⟩:=hI
    rw[zzZ,zzG]at hx'
    obtain⟨p,hp,rfl⟩:=zzV.mp hx'
    have hi:i<Ds.length:=(zzE.mp hp).1
    have mp:=zzY hp
    rw[zyW]at hl hd ⊢
    obtain⟨ps,k,x1,x2,x3,x4⟩:=zoR A mp (B:=sT (zJ n m J e Ds S)) (C:=sT (zF J)) (L:=sT (zc (yr n))) ho (by omega)
    refine⟨[sT (zJ n m J e Ds S),sT (zF J),sT (zc (yr n)),sN os,sT (.str p.1),sT (zF p.2)],rfl,_,x1,_,_,_,_,rfl,x2,by rw[zzH,x3];omega,λx hxx=>?_,λq mq c hc=>?_⟩
    · exact⟨zzN _ (hx x hxx).1,zzN _ (hx x hxx).2⟩
    · rw[List.take_succ,hp]at mq
      rcases zzK.mp mq with h|h
      · exact zzN _ (hd q h c hc)
      · have:q=p:=by simpa using h
        subst this
        exact zzJ _ (x4 c hc))
  ⟨_,_,none,none,rfl,l0,by simp only[zD,zzH,zyS];omega,λx hx=>⟨zzN _ (zxC.mpr ⟨x,Vt hx,rfl⟩),zzJ _ (zxC.mpr ⟨x,Vt hx,rfl⟩)⟩,λp hp=>by simp at hp⟩
 rw[zD,zD,zyW]at hl hd
 rw[List.take_length]at hd
 exact⟨l,by omega,ho.al,hx,hd,yW rfl (zg s1 (zg s2 (zg s3 (zg (wV (zpd (yM (za (i:=0) rfl) zb rfl)) hf) (Ows.retB (i:=3) rfl ho)))))⟩
end
section
variable{α:Type}[DecidableEq α]{toK:α->D}
def pos:List α->α->Nat
 | [],_=>0
 |x::K,a=>if x=a then 0 else pos K a+1
theorem zmB{a b:α}:∀{K:List α},a ∈ K->b ∈ K->pos K a=pos K b->a=b
 | [],h,_,_=>nomatch h
 |x::K,ha,hb,e=>by
  unfold pos at e
  by_cases h1:x=a
  · rw[if_pos h1]at e
    by_cases h2:x=b
    · rw[<-h1,<-h2]
    · rw[if_neg h2]at e;omega
  · rw[if_neg h1]at e
    by_cases h2:x=b
    · rw[if_pos h2]at e;omega
    · rw[if_neg h2]at e
      exact zmB ((zzA.mp ha).resolve_left λz=>h1 z.symm) ((zzA.mp hb).resolve_left λz=>h2 z.symm) (by omega)
theorem zpN(hf:∀a,yu (toK a)=false)(u:Bool)(l:List α):kids u (l.map toK)=l.map λa=>(u,toK a):=by
 unfold kids
 rw[zzZ]
 refine List.map_congr_left λa _=>?_
 show(yu (toK a)||u,toK a)=_
 rw[hf];rfl
def ded(K:List α):List α->List α
 | []=>K
 |a::l=>if a ∈ K then ded K l else ded (K++[a]) l
theorem zmM{a:α}:∀(l K:List α),a ∈ K->a ∈ ded K l
 | [],_,h=>h
 |b::l,K,h=>by
  unfold ded
  by_cases e:b ∈ K
  · rw[if_pos e];exact zmM l K h
  · rw[if_neg e];exact zmM l _ (zzN _ h)
theorem zgF{a:α}:∀(l K:List α),a ∈ l->a ∈ ded K l
 | [],_,h=>nomatch h
 |b::l,K,h=>by
  unfold ded
  by_cases e:b ∈ K
  · rw[if_pos e]
    rcases zzA.mp h with rfl|h
    · exact zmM l K e
    · exact zgF l K h
  · rw[if_neg e]
    rcases zzA.mp h with rfl|h
    · exact zmM l _ (zzJ _ (zzP.mpr rfl))
    · exact zgF l _ h
theorem ziP:∀(l K:List α),(ded K l).length<=K.length+l.length
 | [],K=>zzL _
 |b::l,K=>by
  unfold ded
  show _<=K.length+(l.length+1)
  by_cases e:b ∈ K
  · rw[if_pos e];have:=ziP l K;omega
  · rw[if_neg e];have:=ziP l (K++[b]);rw[zzH]at this;have:(ded (K++[b]) l).length<=K.length+1+l.length:=this;omega
variable{kk:α->List Key}
theorem ztl(hk:∀a b,kk a=kk b->a=b)(a:α)(K:List α):zhq (K.map kk) (kk a)=decide (a ∈ K):=by
 unfold zhq
 rw[List.any_map]
 by_cases h:a ∈ K
 · rw[zyM h,List.any_eq_true];exact⟨a,h,by simp⟩
 · rw[zyE h,List.any_eq_false]
   intro b mb z
   exact h (hk b a (by simpa using z) ▸ mb)
theorem zqj(hk:∀a b,kk a=kk b->a=b){a:α}:∀(K:List α) (s:Nat),a ∈ K->zgo (K.map kk) ((List.range' s K.length).map λi:Nat=>D.int (i:Int)) (kk a)=some (.int ((s+pos K a:Nat):Int))
 | [],_,h=>nomatch h
 |x::K,s,h=>by
  unfold zgo pos
  rw[zzR,List.range'_succ,zyQ,zyQ,List.zip_cons_cons]
  by_cases e:x=a
  · rw[if_pos e,List.find?_cons_of_pos (by simp[e])];rfl
  · rw[if_neg e,List.find?_cons_of_neg (by simpa using λz:kk x=kk a=>e (hk x a z))]
    have:=zqj hk K (s+1) ((zzA.mp h).resolve_left λz=>e z.symm)
    unfold zgo at this
    rw[this,show s+1+pos K a=s+(pos K a+1) by omega]
abbrev nD(kk:α->List Key)(K:List α):Option O:=some (.nd (.dt (K.map kk)) ((List.range' 0 K.length).map λi:Nat=>lfI (i:Int)))
theorem zjM:∀(k s:Nat),O.toDs ((List.range' s k).map λi:Nat=>lfI (i:Int))=(List.range' s k).map λi:Nat=>D.int (i:Int)
 |0,_=>rfl
 |k+1,s=>by
  rw[List.range'_succ,zyQ,zyQ]
  exact congrArg (D.int (s:Int) :: ·) (zjM k (s+1))
abbrev nuB:SF:=znK 1 (dC zG (dC (fP wN Zr) dN))
theorem zqX(hk:∀a b,kk a=kk b->a=b)(ht:∀a,zdJ (toK a)=some (kk a)){s0:Option O}{u:Bool}{K:List α}{a:α}(hl:K.length<=1000):nuB [s0,nD kk K,some (.lf u (toK a))]=some (.nx [s0,if a ∈ K then nD kk K else nD kk (K++[a]),some (.lf u (toK a))]):=by
 have ln:fP wN Zr [s0,nD kk K,some (.lf u (toK a))]=some (.ow (lfI (K.length:Nat)),[s0,nD kk K,some (.lf u (toK a))]):=by
  have h1:([s0,nD kk K,some (.lf u (toK a))]:AS)[1]? = some (some (.nd (.dt (K.map kk)) ((List.range' 0 K.length).map λi:Nat=>lfI (i:Int)))):=rfl
  have e2:(O.nd (.dt (K.map kk)) ((List.range' 0 K.length).map λi:Nat=>lfI (i:Int))).toD = .dt (K.map kk) ((List.range' 0 K.length).map λi:Nat=>D.int (i:Int)):=congrArg (D.dt (K.map kk)) (zjM _ _)
  have e:views [s0,nD kk K,some (.lf u (toK a))] [.bo 1]=some ([.dt (K.map kk) ((List.range' 0 K.length).map λi:Nat=>D.int (i:Int))],meet (O.nd (.dt (K.map kk)) ((List.range' 0 K.length).map λi:Nat=>lfI (i:Int))).kl (some true)):=by
   show(RV.view _ (.bo 1)).bind _=_
   rw[zfw h1,e2];rfl
  unfold fP wN aC
  rw[zgS h1]
  simp only[zyJ,aN,RV.frz,e]
  show(some (R0.im (.int (((List.range' 0 K.length).map λi:Nat=>D.int (i:Int)).length:Nat)))).bind _=_
  rw[zD,List.length_range'];rfl
 have fr:dC zG (dC (fP wN Zr) dN) [s0,nD kk K,some (.lf u (toK a))]=some ([.lf u (toK a),lfI (K.length:Nat)],[s0,nD kk K,some (.lf u (toK a))]):=xT (za (i:=2) rfl) (xT ln rfl)
 unfold nuB znK
 show((dC zG (dC (fP wN Zr) dN) [s0,nD kk K,some (.lf u (toK a))]).bind _)=_
 rw[fr]
 show((zdJ (toK a)).bind λk=>if(K.map kk).length<sizeLine then some (Out.nx (if zhq (K.map kk) k=true then[s0,nD kk K,some (.lf u (toK a))]else[s0,some (.nd (.dt (K.map kk++[k])) (((List.range' 0 K.length).map λi:Nat=>lfI (i:Int))++[lfI (K.length:Nat)])),some (.lf u (toK a))]))else none)=_
 rw[ht]
 show(if(K.map kk).length<sizeLine then some (Out.nx (if zhq (K.map kk) (kk a)=true then[s0,nD kk K,some (.lf u (toK a))]else[s0,some (.nd (.dt (K.map kk++[kk a])) (((List.range' 0 K.length).map λi:Nat=>lfI (i:Int))++[lfI (K.length:Nat)])),some (.lf u (toK a))]))else none)=_
 rw[if_pos (by rw[zD];exact Nat.lt_of_le_of_lt hl (by decide)),ztl hk]
 by_cases h:a ∈ K
 · rw[zyM h,if_pos rfl,if_pos h]
 · rw[zyE h,if_neg (by decide),if_neg h]
   unfold nD
   rw[zyK,zzH]
   show _=some (Out.nx [s0,some (.nd (.dt (K.map kk++[kk a])) ((List.range' 0 (K.length+1)).map λi:Nat=>lfI (i:Int))),some (.lf u (toK a))])
   rw[List.range'_concat,zyK]
   simp
theorem zjj(hk:∀a b,kk a=kk b->a=b)(ht:∀a,zdJ (toK a)=some (kk a)){s0:Option O}{u:Bool}:∀(l K:List α) (e2:Option O),K.length+l.length<=1000->∃e2',forL (gN 2) nuB (l.map λa=>(u,toK a)) [s0,nD kk K,e2]=some (.nx [s0,nD kk (ded K l),e2'])
 | [],K,e2,_=>⟨e2,rfl⟩
 |a::l,K,e2,hl=>by
  have hl:K.length+(l.length+1)<=1000:=hl
  have h1:=zqX (toK:=toK) hk ht (s0:=s0) (u:=u) (K:=K) (a:=a) (by omega)
  unfold ded
  by_cases e:a ∈ K
  · rw[if_pos e]at h1 ⊢
    obtain⟨e2',hf⟩:=zjj hk ht (s0:=s0) (u:=u) l K (some (.lf u (toK a))) (by omega)
    exact⟨e2',Yk (as1:=[s0,nD kk K,some (.lf u (toK a))]) rfl h1 hf⟩
  · rw[if_neg e]at h1 ⊢
    obtain⟨e2',hf⟩:=zjj hk ht (s0:=s0) (u:=u) l (K++[a]) (some (.lf u (toK a))) (by rw[zzH];show K.length+1+_<=_;omega)
    exact⟨e2',Yk (as1:=[s0,nD kk K,some (.lf u (toK a))]) rfl h1 hf⟩
end
section
variable{α:Type}[DecidableEq α]{toK:α->D}{kk:α->List Key}
theorem zeD(hf:∀a,yu (toK a)=false)(hk:∀a b,kk a=kk b->a=b)(ht:∀a,zdJ (toK a)=some (kk a))(u:Bool)(l:List α)(hl:l.length<=100):RE (vI [(u,.lst (l.map toK))]) (zc (l.map λa=>((pos (ded [] l) a:Nat):Int))):=by
 obtain⟨e2,hfor⟩:=zjj (toK:=toK) hk ht (s0:=some (.lf u (.lst (l.map toK)))) (u:=u) l [] none (by show 0+_<=_;omega)
 have it1:zeq zq [some (.lf u (.lst (l.map toK))),nD kk ([]:List α),none]=some (l.map λa=>(u,toK a),[some (.lf u (.lst (l.map toK))),nD kk ([]:List α),none]):=by
  show some (kids u (l.map toK),_)=_
  rw[zpN hf]
 have it2:xq zq [some (.lf u (.lst (l.map toK))),nD kk (ded [] l),e2]=some (l.map λa=>(u,toK a),[some (.lf u (.lst (l.map toK))),nD kk (ded [] l),e2]):=by
  show some (kids u (l.map toK),_)=_
  rw[zpN hf]
 have w:=v8 (as:=[some (.lf u (.lst (l.map toK))),nD kk (ded [] l),e2]) (h:=λa=>D.int (pos (ded [] l) a:Nat)) (it:=λa=>(u,toK a)) (cap:=[none,some 1]) (gg:=gN 0) (fe:=f2 zr zq ixT) l it2 (by omega) λa ma=>by
  have ec:ZQ [none,some 1] [some (.lf u (.lst (l.map toK))),nD kk (ded [] l),e2]=[none,some (.lf false (.dt ((ded [] l).map kk) ((List.range' 0 (ded [] l).length).map λi:Nat=>D.int (i:Int))))]:=by
   show[none,some (O.lf false (.dt ((ded [] l).map kk) (O.toDs ((List.range' 0 (ded [] l).length).map λi:Nat=>lfI (i:Int)))))]=_
   rw[zjM]
  rw[ec]
  refine⟨[some (.lf u (toK a)),some (.lf false (.dt ((ded [] l).map kk) ((List.range' 0 (ded [] l).length).map λi:Nat=>D.int (i:Int))))],rfl,WD.e (zH (za (i:=1) rfl) (za (i:=0) rfl) ?_ rfl)⟩
  show(zdJ (toK a)).bind _=_
  rw[ht]
  show imR (zgo ((ded [] l).map kk) ((List.range' 0 (ded [] l).length).map λi:Nat=>D.int (i:Int)) (kk a))=_
  rw[zqj hk _ 0 (zgF l [] ma),zyW];rfl
 rw[show(l.map λa=>D.int (pos (ded [] l) a:Nat))=(l.map λa=>((pos (ded [] l) a:Nat):Int)).map D.int by rw[zzZ];rfl]at w
 exact yW rfl (zg (as1:=[some (.lf u (.lst (l.map toK))),nD kk ([]:List α),none]) (wY (i:=1) rfl (zy rfl)) (zg (wV it1 hfor) (yR w)))
end
section
variable{ι α β:Type}[DecidableEq α][DecidableEq β]{g:ι->α}{h:ι->β}
def zjI(e:ι->ι->Bool)(R:List ι):List ι->List ι
 | []=>R
 |i::is=>if(R.any λr=>e r i)=true then zjI e R is else zjI e (R++[i]) is
def znU(e:ι->ι->Bool):List ι->ι->Nat
 | [],_=>0
 |r::R,i=>if e r i=true then 0 else znU e R i+1
theorem zsA(R:List ι)(i:ι):(R.any λr=>decide (g r=g i))=true ↔ g i ∈ R.map g:=by
 rw[List.any_eq_true,zxC]
 exact⟨λ⟨r,mr,z⟩=>⟨r,mr,by simpa using z⟩,λ⟨r,mr,z⟩=>⟨r,mr,by simpa using z⟩⟩
theorem zfF:∀(is R:List ι),ded (R.map g) (is.map g)=(zjI (λr i=>decide (g r=g i)) R is).map g
 | [],_=>rfl
 |i::is,R=>by
  rw[zyQ]
  unfold ded zjI
  by_cases q:g i ∈ R.map g
  · rw[if_pos q,if_pos ((zsA R i).mpr q)];exact zfF is R
  · rw[if_neg q,if_neg λz=>q ((zsA R i).mp z)]
    have:=zfF is (R++[i])
    rw[zyK]at this
    exact this
theorem zjA(i:ι):∀R:List ι,pos (R.map g) (g i)=znU (λr i=>decide (g r=g i)) R i
 | []=>rfl
 |r::R=>by
  rw[zyQ]
  unfold pos znU
  by_cases q:g r=g i
  · rw[if_pos q,if_pos (by simpa using q)]
  · rw[if_neg q,if_neg (by simpa using q),zjA i R]
theorem ziK{e:ι->ι->Bool}{i:ι}:∀(is R:List ι),i ∈ zjI e R is->i ∈ R\/i ∈ is
 | [],_,m=>.inl m
 |j::is,R,m=>by
  unfold zjI at m
  split at m
  · exact(ziK is R m).imp id λz=>zzB _ z
  · rcases ziK is _ m with z|z
    · rcases zzK.mp z with z|z
      · exact .inl z
      · rw[zzP.mp z];exact .inr (zzD ..)
    · exact .inr (zzB _ z)
theorem zoY{e e':ι->ι->Bool}{i:ι}:∀{R:List ι},(∀r ∈ R,e r i=e' r i)->(R.any λr=>e r i)=R.any λr=>e' r i
 | [],_=>rfl
 |r::R,H=>by rw[List.any_cons,List.any_cons,H r (zzD ..),zoY λx mx=>H x (zzB _ mx)]
theorem zjY{e e':ι->ι->Bool}{P:ι->Prop}(H:∀r i,P r->P i->e r i=e' r i):∀(is R:List ι),(∀i ∈ is,P i)->(∀r ∈ R,P r)->zjI e R is=zjI e' R is
 | [],_,_,_=>rfl
 |i::is,R,hi,hR=>by
  have pi:=hi i (zzD ..)
  have hi':∀j ∈ is,P j:=λj mj=>hi j (zzB _ mj)
  unfold zjI
  rw[zoY λr mr=>H r i (hR r mr) pi,zjY H is R hi' hR,zjY H is (R++[i]) hi' λr mr=>(zzK.mp mr).elim (hR r) λz=>zzP.mp z ▸ pi]
theorem zmS{e e':ι->ι->Bool}{i:ι}:∀{R:List ι},(∀r ∈ R,e r i=e' r i)->znU e R i=znU e' R i
 | [],_=>rfl
 |r::R,H=>by
  unfold znU
  rw[H r (zzD ..),zmS λx mx=>H x (zzB _ mx)]
theorem zox{is:List ι}(H:∀i ∈ is,∀j ∈ is,g i=g j ↔ h i=h j){i:ι}(hi:i ∈ is):pos (ded [] (is.map g)) (g i)=pos (ded [] (is.map h)) (h i):=by
 have e1:=zfF (g:=g) is []
 have e2:=zfF (g:=h) is []
 rw[List.map_nil]at e1 e2
 have He:∀r i,r ∈ is->i ∈ is->decide (g r=g i)=decide (h r=h i):=λr i mr mi=>decide_eq_decide.mpr (H r mr i mi)
 rw[e1,e2,zjA,zjA,zjY (P:=λi=>i ∈ is) He is [] (λ_ m=>m) (λ_ m=>nomatch m)]
 exact zmS λr mr=>He r i ((ziK is [] mr).elim (λz=>nomatch z) id) hi
end
def hld(S:SS)(v:Int):List Bool:=S.map λp=>decide (v ∈ p.2)
theorem zqq(v:Int):∀xs:List Int,inP (.int v) (zc xs)=some (decide (v ∈ xs))
 | []=>rfl
 |x::xs=>by
  have ih:anyF (λy=>eqF 50 y (.int v)) (xs.map D.int)=some (decide (v ∈ xs)):=zqq v xs
  show(some (x==v)).bind (λb=>(anyF (λy=>eqF 50 y (.int v)) (xs.map D.int)).bind λc=>some (b||c))=_
  rw[ih]
  show some ((x==v)||decide (v ∈ xs))=_
  by_cases h:x=v
  · subst h;simp
  · have h':¬v=x:=λz=>h z.symm
    simp[h,h']
theorem zoV{a b:EF}{as:AS}{v:Int}{xs:List Int}(ha:WD a as true (.int v))(hb:WD b as true (zc xs)):WD (f2 a b (zY .In)) as true (.bl (decide (v ∈ xs))):=
 zH ha hb (by show(inP (.int v) (zc xs)).bind _=_;rw[zqq];rfl) rfl
theorem zdg{n:Nat}{g:Int->Int}{v:Int}(hv:InR n v):rAt ((yr n).map g) v=g v:=by
 unfold rAt
 have h0:=hv.1
 have h1:=hv.2
 rw[zzG,zzG,List.getElem?_range (show v.toNat<n by omega)]
 show g ((v.toNat:Nat):Int)=g v
 rw[show((v.toNat:Nat):Int)=v by omega]
section
variable{n m:Nat}{J:TZ}{e:Int}{Ds:DZ}{S:SS}{v:Int}{Rs:TZ}
theorem zkh(sl:S.length<=10):RE (Ym [(true,zJ n m J e Ds S),(true,.int v)]) (.tup ((hld S v).map D.bl)):=by
 have w:=v8 (as:=[sT (zJ n m J e Ds S),sI v]) (h:=λp:Str×List Int=>D.bl (decide (v ∈ p.2))) (it:=λp=>(true,yU p)) (cap:=[none,none,some 1]) (gg:=gT 2 (gsC yh (gsC (gN 1) gsN))) (fe:=f2 zG zr (zY .In)) (fi:=xq (f2 zq zcK ixP)) S (Xa (g:=yU) (WD.e (yM (za (i:=0) rfl) zb rfl))) (by omega) λp mp=>⟨[sT (.str p.1),sT (zc p.2),sI v],rfl,WD.e (zoV (za (i:=2) rfl) (za (i:=1) rfl))⟩
 refine yW rfl (yR (zmZ w ?_))
 show some (R0.im (.tup (S.map λp=>D.bl (decide (v ∈ p.2)))))=some (R0.im (.tup ((S.map λp=>decide (v ∈ p.2)).map D.bl)))
 rw[zzZ];rfl
abbrev Ee(S:SS)(Rs:TZ)(k:Nat)(u v:Int):Prop:=PP.Ek (hld S) rAt (λr=>r ∈ Rs) k u v
structure Nb(n:Nat)(S:SS)(Rs:TZ)(k:Nat)(r:List Int):Prop where
 ln:r.length=n
 eq:∀u v,InR n u->InR n v->(rAt r u=rAt r v ↔ Ee S Rs k u v)
 cn:∀{β:Type}[DecidableEq β] (h:Int->β),(∀i ∈ yr n,∀j ∈ yr n,h i=h j ↔ Ee S Rs k i j)->r=(yr n).map λa=>((pos (ded [] ((yr n).map h)) (h a):Nat):Int)
theorem Nb.mk'{k:Nat}{α:Type}[DecidableEq α]{g:Int->α}(H:∀i ∈ yr n,∀j ∈ yr n,g i=g j ↔ Ee S Rs k i j):Nb n S Rs k ((yr n).map λa=>((pos (ded [] ((yr n).map g)) (g a):Nat):Int)):=by
 refine⟨by simp,λu v hu hv=>?_,λ{β} _ h hh=>?_⟩
 · rw[zdg hu,zdg hv]
   rw[<-H u (Vt hu) v (Vt hv)]
   exact⟨λz=>zmB (zgF _ _ (List.mem_map_of_mem (Vt hu))) (zgF _ _ (List.mem_map_of_mem (Vt hv))) (Int.ofNat_inj.mp z),λz=>by rw[z]⟩
 · refine List.map_congr_left λa ma=>?_
   rw[zox (g:=g) (h:=h) (λi mi j mj=>(H i mi j mj).trans (hh i mi j mj).symm) ma]
theorem Nb.same{k:Nat}{r r':List Int}(h:Nb n S Rs k r)(h':Nb n S Rs (k+1) r')(s:PP.St (hld S) rAt (λr=>r ∈ Rs) n k):r'=r:=by
 have hk:∀i ∈ yr n,∀j ∈ yr n,rAt r i=rAt r j ↔ Ee S Rs k i j:=λi mi j mj=>h.eq i j (vP mi) (vP mj)
 have hk':∀i ∈ yr n,∀j ∈ yr n,rAt r i=rAt r j ↔ Ee S Rs (k+1) i j:=λi mi j mj=>(hk i mi j mj).trans ⟨λz=>by
  have a:=vP mi
  have b:=vP mj
  have:=s i.toNat j.toNat (by have:=a.1;have:=a.2;omega) (by have:=b.1;have:=b.2;omega)
  rw[show((i.toNat:Nat):Int)=i by have:=a.1;omega,show((j.toNat:Nat):Int)=j by have:=b.1;omega]at this
  exact this z,λz=>z.mono (zyV _)⟩
 exact(h'.cn _ hk').trans (h.cn _ hk).symm
theorem Nb.st{k:Nat}{r:List Int}(h:Nb n S Rs k r)(h':Nb n S Rs (k+1) r):PP.St (hld S) rAt (λr=>r ∈ Rs) n k:=λu v hu hv z=>(h'.eq u v ⟨by omega,by omega⟩ ⟨by omega,by omega⟩).mp ((h.eq u v ⟨by omega,by omega⟩ ⟨by omega,by omega⟩).mpr z)
abbrev key(Rs:TZ)(r:List Int)(v:Int):List Int:=Rs.map λq=>rAt r (rAt q v)
theorem zsD{k:Nat}{r:List Int}(hR:∀q ∈ Rs,Row n q)(h:Nb n S Rs k r):∀i ∈ yr n,∀j ∈ yr n,key (yr n::Rs) r i=key (yr n::Rs) r j ↔ Ee S Rs (k+1) i j:=λi mi j mj=>by
 have hi:=vP mi
 have hj:=vP mj
 have ei:∀{x:Int},InR n x->rAt (yr n) x=x:=λ{x} hx=>by
  have:=zdg (g:=λa=>a) hx
  rwa [List.map_id']at this
 unfold Ee
 rw[PP.Ek.succ]
 constructor
 · intro z
   obtain⟨z1,z2⟩:=List.cons.inj z
   have z1:rAt r (rAt (yr n) i)=rAt r (rAt (yr n) j):=z1
   rw[ei hi,ei hj]at z1
   refine⟨(h.eq i j hi hj).mp z1,λq hq=>?_⟩
   exact(h.eq _ _ (rowAt (hR q hq) hi).2 (rowAt (hR q hq) hj).2).mp (List.map_inj_left.mp z2 q hq)
 · intro⟨z1,z2⟩
   show rAt r (rAt (yr n) i)::_=rAt r (rAt (yr n) j)::_
   rw[ei hi,ei hj,(h.eq i j hi hj).mpr z1]
   exact congrArg _ (List.map_congr_left λq hq=>(h.eq _ _ (rowAt (hR q hq) hi).2 (rowAt (hR q hq) hj).2).mpr (z2 q hq))
end
abbrev bK(l:List Bool):D:=.tup (l.map D.bl)
abbrev iK(l:List Int):D:=.tup (l.map D.int)
abbrev kB(l:List Bool):List Key:=l.map λb=>.inl (if b=true then 1 else 0)
abbrev kI(l:List Int):List Key:=l.map Sum.inl
theorem zpU:∀a b:List Bool,kB a=kB b->a=b
 | [],[],_=>rfl
 | [],_::_,h=>by simp at h
 |_::_,[],h=>by simp at h
 |x::a,y::b,h=>by
  obtain⟨h1,h2⟩:=List.cons.inj (show Sum.inl _::kB a=Sum.inl _::kB b from h)
  have h1:=Sum.inl.inj h1
  rw[zpU a b h2]
  cases x<;>cases y<;>first|rfl|simp at h1
theorem zpa:∀a b:List Int,kI a=kI b->a=b
 | [],[],_=>rfl
 | [],_::_,h=>by simp at h
 |_::_,[],h=>by simp at h
 |x::a,y::b,h=>by
  obtain⟨h1,h2⟩:=List.cons.inj (show Sum.inl x::kI a=Sum.inl y::kI b from h)
  rw[zpa a b h2,Sum.inl.inj h1]
theorem zoZ:∀l:List Bool,zdJ (bK l)=some (kB l)
 | []=>rfl
 |b::l=>by
  have ih:zeM (l.map D.bl)=some (kB l):=zoZ l
  show(zeM (l.map D.bl)).bind _=_
  rw[ih];rfl
theorem zqi:∀l:List Int,zdJ (iK l)=some (kI l)
 | []=>rfl
 |b::l=>by
  have ih:zeM (l.map D.int)=some (kI l):=zqi l
  show(zeM (l.map D.int)).bind _=_
  rw[ih];rfl
theorem zcg{n:Nat}{r:List Int}{v:Int}(hr:r.length=n)(hv:InR n v):ixP (zc r) (.int v)=some (.im (.int (rAt r v))):=by
 have hk:v.toNat<r.length:=by rw[hr];have:=hv.1;have:=hv.2;omega
 have g:=zzC hk
 have e:rAt r v=r[v.toNat]:=by unfold rAt;rw[g];rfl
 rw[e]
 have:=Xj (xs:=r.map D.int) (j:=v.toNat) (v:=D.int r[v.toNat]) (by rw[zzG,g];rfl)
 rw[show((v.toNat:Nat):Int)=v by have:=hv.1;omega]at this
 show imR (atI _ _)=_
 rw[this];rfl
section
variable{n m:Nat}{J:TZ}{e:Int}{Ds:DZ}{S:SS}{Rs:TZ}
abbrev C5(A:D)(n:Nat)(Rs:TZ)(e3 e4:Option O):AS:=[sT A,sT (zc (yr n)),sT (zF (yr n::Rs)),e3,e4]
abbrev fnF:EF:=zN (aC (zL (xq zr) [none,some 3,some 2] yh yf (fP (aC (zL (xq zG) [none,some 1,some 0] yh yf (f2 zr (f2 zq zG ixP) ixP)) aN) tupP)) aN) vI
theorem zom{A:D}{k:Nat}{r:List Int}{e4:Option O}(n8:n<=8)(hl:Rs.length<=60)(hR:∀q ∈ Rs,Row n q)(h:Nb n S Rs k r):∃r',Nb n S Rs (k+1) r'/\WE fnF (C5 A n Rs (sT (zc r)) e4) (zc r'):=by
 refine⟨_,Nb.mk' (zsD hR h), ?_⟩
 have w:=v8 (as:=C5 A n Rs (sT (zc r)) e4) (h:=λa=>iK (key (yr n::Rs) r a)) (it:=λx:Int=>(true,D.int x)) (cap:=[none,some 3,some 2]) (gg:=gN 0) (fe:=fP (aC (zL (xq zG) [none,some 1,some 0] yh yf (f2 zr (f2 zq zG ixP) ixP)) aN) tupP) (yr n) (Xa (g:=D.int) (f:=fV 1) (WD.e (za (i:=1) rfl))) (by rw[zD,zyS];omega) λa ma=>by
  have ha:=vP ma
  have wi:=v8 (as:=[sI a,sT (zc r),sT (zF (yr n::Rs))]) (h:=λq=>D.int (rAt r (rAt q a))) (it:=λq:List Int=>(true,zc q)) (cap:=[none,some 1,some 0]) (gg:=gN 0) (fe:=f2 zr (f2 zq zG ixP) ixP) (yr n::Rs) (Xa (g:=zc) (f:=fV 2) (WD.e (za (i:=2) rfl))) (by rw[zzR];omega) λq mq=>by
   have hq:Row n q:=by
    rcases zzA.mp mq with rfl|mq
    · exact⟨by rw[zD,zyS],λx mx=>vP mx⟩
    · exact hR q mq
   exact⟨[sT (zc q),sT (zc r),sI a],rfl,WD.e (zH (za (i:=1) rfl) (zH (za (i:=0) rfl) (za (i:=2) rfl) (rowAt hq ha).1 rfl) (zcg h.ln (rowAt hq ha).2) rfl)⟩
  refine⟨[sI a,sT (zc r),sT (zF (yr n::Rs))],rfl, ?_⟩
  have:=zmZ (g:=tupP) (z:=.tup ((yr n::Rs).map λq=>D.int (rAt r (rAt q a)))) wi rfl
  rw[show iK (key (yr n::Rs) r a) = .tup ((yr n::Rs).map λq=>D.int (rAt r (rAt q a))) by show D.tup (((yr n::Rs).map λq=>rAt r (rAt q a)).map D.int)=_;rw[zzZ];rfl]
  exact this
 rw[show((yr n).map λa=>iK (key (yr n::Rs) r a))=((yr n).map (key (yr n::Rs) r)).map iK from(zzZ (f:=key (yr n::Rs) r) (g:=iK)).symm]at w
 have nm:=zeD (toK:=iK) (kk:=kI) (λ_=>rfl) zpa zqi true ((yr n).map (key (yr n::Rs) r)) (by simp only[zD,zyS];omega)
 rw[zzZ (f:=key (yr n::Rs) r) (g:=λa=>((pos (ded [] ((yr n).map (key (yr n::Rs) r))) a:Nat):Int))]at nm
 exact Xq w nm
end
theorem zjn:∀a b:List Int,eqF 60 (zc a) (zc b)=some (decide (a=b))
 | [],[]=>rfl
 | [],_::_=>rfl
 |_::_,[]=>rfl
 |x::a,y::b=>by
  have ih:eqL (eqF 59) (a.map D.int) (b.map D.int)=some (decide (a=b)):=zjn a b
  show(some (x==y)).bind (λc=>(eqL (eqF 59) (a.map D.int) (b.map D.int)).bind λd=>some (c&&d))=_
  rw[ih]
  show some ((x==y)&&decide (a=b))=_
  by_cases h1:x=y<;>by_cases h2:a=b<;>simp[h1,h2]
section
variable{n m:Nat}{J:TZ}{e:Int}{Ds:DZ}{S:SS}{Rs:TZ}
abbrev cnT:TF:=fT (f2 yD zV (zY .NotEq))
abbrev cnB:SF:=(zB (zO true 3 yD) (zO true 4 fnF))
theorem zuZ{A:D}(n8:n<=8)(hl:Rs.length<=60)(hR:∀q ∈ Rs,Row n q){k0:Nat}(s0:PP.St (hld S) rAt (λr=>r ∈ Rs) n k0):∀(d k f:Nat) (r r':List Int),k+d=k0->d<f->Nb n S Rs k r->Nb n S Rs (k+1) r'->∃k1 r1 e4,whL cnT cnB f (C5 A n Rs (sT (zc r)) (sT (zc r')))=some (.nx (C5 A n Rs (sT (zc r1)) e4))/\Nb n S Rs k1 r1/\PP.St (hld S) rAt (λr=>r ∈ Rs) n k1:=by
 intro d
 induction d with
 |zero=>
  intro k f r r' hk hf h h'
  have hk:k=k0:=hk
  subst hk
  have e:=h.same h' s0
  subst e
  obtain⟨f,rfl⟩:∃g,f=g+1:=⟨f-1,by omega⟩
  have t:WT cnT (C5 A n Rs (sT (zc r')) (sT (zc r'))) false:=yc (zpm (c:=true) (za (i:=4) rfl) (za (i:=3) rfl) (by rw[zjn,zyM rfl])) rfl
  exact⟨k,r',_,zlt t,h,s0⟩
 |succ d ih=>
  intro k f r r' hk hf h h'
  obtain⟨f,rfl⟩:∃g,f=g+1:=⟨f-1,by omega⟩
  have tw:=zpm (as:=C5 A n Rs (sT (zc r)) (sT (zc r'))) (za (i:=4) rfl) (za (i:=3) rfl) (zjn r' r)
  by_cases q:r'=r
  · subst q
    rw[zyM rfl]at tw
    exact⟨k,r',_,zlt (yc tw rfl),h,h.st h'⟩
  · rw[zyE q]at tw
    obtain⟨r2,h2,w2⟩:=zom (A:=A) (e4:=sT (zc r')) n8 hl hR h'
    obtain⟨k1,r1,e4,hw,n1,n2⟩:=ih (k+1) f r' r2 (by omega) (by omega) h' h2
    exact⟨k1,r1,e4,zoJ (yc tw rfl) (yC (yz (i:=3) (za (i:=4) rfl) (zy rfl)) (vH (p:=4) w2 (zy rfl))) hw,n1,n2⟩
theorem zpy(A:Alg n m J e Ds)(hS:Sg S):∃(Rs:TZ) (k:Nat) (r:List Int),(∀q ∈ Rs,Row n q)/\(∀x,InR n x->tR J x ∈ Rs/\col J x ∈ Rs)/\(∀p ∈ Ds,∀c,InR m c->tR p.2 c ∈ Rs)/\Nb n S Rs k r/\PP.St (hld S) rAt (λr=>r ∈ Rs) n k/\RE (vq [(true,zJ n m J e Ds S)]) (zc r):=by
 have n1:=A.n1
 have n8:=A.n8
 obtain⟨sts,sl,hg,hx,hd,hst⟩:=zjG (S:=S) A
 have hR:∀q ∈ sts.map (·.2),Row n q:=λq mq=>by
  obtain⟨p,mp,rfl⟩:=zxC.mp mq
  exact hg p mp
 obtain⟨k0,hk0,st0⟩:=PP.stable (H:=hld S) (f:=rAt) (P:=λr=>r ∈ sts.map (·.2)) n1
 have w1:WE (fP (aC (f2 zq yF ixP) aN) lrP) [sT (zJ n m J e Ds S),none,none,none,none] (zc (yr n)):=⟨_,zjb (x:=.int n) (g:=lrP) (zs:=(yr n).map D.int) (WD.e (yM (za (i:=0) rfl) zb rfl)) (by
  show(if(0:Int)<=n/\(n:Int)<=100000 then _ else _)=_
  rw[if_pos ⟨by omega,by omega⟩,zzZ];rfl),zhu _,congrArg D.lst (zgu _)⟩
 have s1:=vH (p:=1) w1 (zy rfl)
 have wr:=v8 (as:=[sT (zJ n m J e Ds S),sT (zc (yr n)),none,none,none]) (h:=λq:D×List Int=>zc q.2) (it:=λq=>(true,stD q)) (cap:=[none,none]) (gg:=gT 2 (gsC yh (gsC (gN 1) gsN))) (fe:=fV 1) (fi:=xq (zN Zd Z1)) sts (Xa (g:=stD) (Xq (WD.e (za (i:=0) rfl)) hst)) (by omega) λq _=>⟨[sT q.1,sT (zc q.2)],by
  have k:kids true [q.1,zc q.2]=[(true,q.1),(true,zc q.2)]:=by
   show[(yu q.1||true,q.1),(yu (zc q.2)||true,zc q.2)]=_
   rw[zyB,zyB]
  unfold gT
  simp only[stD,k]
  rfl,WD.e (za (i:=1) rfl)⟩
 have s2:=vH (p:=2) (zpS (vU (x:=.lst [zc (yr n)]) (os:=[.lf true (zc (yr n))]) (zp (za (as:=[sT (zJ n m J e Ds S),sT (zc (yr n)),none,none,none]) (i:=1) rfl) ym) (szl rfl) rfl rfl) wr (add_lists (szs (by rw[zD];show 1+_<=_;omega)))) (zy rfl)
 rw[show[zc (yr n)]++sts.map (λq:D×List Int=>zc q.2)=(yr n::sts.map (·.2)).map zc by rw[zyQ,zzZ];rfl]at s2
 have wk:=v8 (as:=C5 (zJ n m J e Ds S) n (sts.map (·.2)) none none) (h:=λv=>bK (hld S v)) (it:=λx:Int=>(true,D.int x)) (cap:=[none,some 0]) (gg:=gN 0) (fe:=zN (aC zr Zd) Ym) (fi:=xq zr) (yr n) (Xa (g:=D.int) (f:=fV 1) (WD.e (za (i:=1) rfl))) (by rw[zD,zyS];omega) λv _=>⟨[sI v,sT (zJ n m J e Ds S)],rfl,Y6 (WD.e (za (i:=1) rfl)) (WD.e (za (i:=0) rfl)) (zkh hS.1)⟩
 rw[show((yr n).map λv=>bK (hld S v))=((yr n).map (hld S)).map bK from(zzZ (f:=hld S) (g:=bK)).symm]at wk
 have nm:=zeD (toK:=bK) (kk:=kB) (λ_=>rfl) zpU zoZ true ((yr n).map (hld S)) (by simp only[zD,zyS];omega)
 rw[zzZ (f:=hld S) (g:=λa=>((pos (ded [] ((yr n).map (hld S))) a:Nat):Int))]at nm
 have N0:Nb n S (sts.map (·.2)) 0 ((yr n).map λa=>((pos (ded [] ((yr n).map (hld S))) (hld S a):Nat):Int)):=Nb.mk' (g:=hld S) λi _ j _=>(PP.Ek.zero (H:=hld S) (f:=rAt) (P:=λr=>r ∈ sts.map (·.2))).symm
 have s3:=vH (p:=3) (Xq wk nm) (zy rfl)
 obtain⟨r1,h1,w4⟩:=zom (A:=zJ n m J e Ds S) (e4:=none) n8 (by rw[zD];exact sl) hR N0
 have s4:=vH (p:=4) w4 (zy rfl)
 obtain⟨k1,r,e4,hw,hb,hs⟩:=zuZ (A:=zJ n m J e Ds S) n8 (by rw[zD];exact sl) hR st0 k0 0 10000 _ r1 (zyW _) (by omega) N0 h1
 refine⟨sts.map (·.2),k1,r,hR,λx hxx=>⟨zxC.mpr ⟨_,(hx x hxx).1,rfl⟩,zxC.mpr ⟨_,(hx x hxx).2,rfl⟩⟩,λp mp c hc=>zxC.mpr ⟨_,hd p mp c hc,rfl⟩,hb,hs,yW rfl (zg s1 (zg s2 (zg s3 (zg s4 (zg hw (yR (WD.e (za (i:=3) rfl))))))))⟩
end
section
variable{α:Type}[DecidableEq α]
theorem ziV:∀(l K:List α),K.Nodup->(ded K l).Nodup
 | [],_,h=>h
 |a::l,K,h=>by
  unfold ded
  by_cases e:a ∈ K
  · rw[if_pos e];exact ziV l K h
  · rw[if_neg e]
    exact ziV l _ (zxD.mpr ⟨h,by simp,λx mx y my=>by rw[zzP.mp my];exact λz=>e (z ▸ mx)⟩)
theorem zjF{b:α}:∀(l K:List α),b ∈ ded K l->b ∈ K\/b ∈ l
 | [],_,h=>.inl h
 |a::l,K,h=>by
  unfold ded at h
  split at h
  · exact(zjF l K h).imp id λz=>zzB _ z
  · rcases zjF l _ h with z|z
    · rcases zzK.mp z with z|z
      · exact .inl z
      · rw[zzP.mp z];exact .inr (zzD ..)
    · exact .inr (zzB _ z)
theorem zpq{a:α}:∀{K:List α},a ∈ K->pos K a<K.length
 | [],h=>nomatch h
 |x::K,h=>by
  unfold pos
  by_cases e:x=a
  · rw[if_pos e];exact Nat.succ_pos _
  · rw[if_neg e];exact Nat.succ_lt_succ (zpq ((zzA.mp h).resolve_left λz=>e z.symm))
theorem zpE:∀{K:List α}{k:Nat}{a:α},K.Nodup->K[k]? = some a->pos K a=k
 | [],_,_,_,h=>by simp at h
 |x::K,0,a,_,h=>by
  have:x=a:=zzX h
  unfold pos;rw[if_pos this]
 |x::K,k+1,a,nd,h=>by
  have h1:K[k]? = some a:=h
  have:x≠a:=λz=>(zzU.mp nd).1 (z ▸ zzY h1)
  unfold pos
  rw[if_neg this,zpE (zzU.mp nd).2 h1]
end
section
variable{n:Nat}{S:SS}{Rs:TZ}{k:Nat}{r:List Int}
theorem Nb.cnt(h:Nb n S Rs k r):∃c:Nat,c<=n/\(∀v,InR n v->InR c (rAt r v))/\∀x,InR c x->∃v,InR n v/\rAt r v=x:=by
 have e:=h.cn (rAt r) λi mi j mj=>h.eq i j (vP mi) (vP mj)
 have at_:∀v,InR n v->rAt r v=((pos (ded [] ((yr n).map (rAt r))) (rAt r v):Nat):Int):=λv hv=>by
  conv=>lhs;rw[e]
  rw[zdg hv]
 refine⟨(ded [] ((yr n).map (rAt r))).length, ?_,λv hv=>?_,λx hx=>?_⟩
 · have:=ziP ((yr n).map (rAt r)) []
   rw[zD,zD,zyS]at this
   simpa using this
 · have:=zpq (zgF ((yr n).map (rAt r)) [] (List.mem_map_of_mem (f:=rAt r) (Vt hv)))
   rw[at_ v hv]
   exact⟨by omega,by omega⟩
 · have h0:=hx.1
   have h1:=hx.2
   have g:=zzC (l:=ded [] ((yr n).map (rAt r))) (i:=x.toNat) (by omega)
   have p:=zpE (ziV ((yr n).map (rAt r)) [] zyH) g
   rcases zjF _ _ (zzY g)with z|z
   · exact nomatch z
   · obtain⟨v,mv,ev⟩:=zxC.mp z
     refine⟨v,vP mv, ?_⟩
     rw[at_ v (vP mv),ev,p];omega
theorem Nb.row(h:Nb n S Rs k r)(s:PP.St (hld S) rAt (λr=>r ∈ Rs) n k)(hR:∀q ∈ Rs,Row n q){q:List Int}(hq:q ∈ Rs){u v:Int}(hu:InR n u)(hv:InR n v)(e:rAt r u=rAt r v):rAt r (rAt q u)=rAt r (rAt q v):=by
 have z:=(h.eq u v hu hv).mp e
 have z1:Ee S Rs (k+1) u v:=by
  have:=s u.toNat v.toNat (by have:=hu.1;have:=hu.2;omega) (by have:=hv.1;have:=hv.2;omega)
  rw[show((u.toNat:Nat):Int)=u by have:=hu.1;omega,show((v.toNat:Nat):Int)=v by have:=hv.1;omega]at this
  exact this z
 exact(h.eq _ _ (rowAt (hR q hq) hu).2 (rowAt (hR q hq) hv).2).mpr ((PP.Ek.succ.mp z1).2 q hq)
theorem Nb.sgn(h:Nb n S Rs k r){u v:Int}(hu:InR n u)(hv:InR n v)(e:rAt r u=rAt r v):hld S u=hld S v:=PP.Ek.zero.mp (((h.eq u v hu hv).mp e).mono (Nat.zero_le _))
end
theorem zkA:∀(l K:List Int),l.foldl step_dedup K=ded K l
 | [],_=>rfl
 |a::l,K=>by
  show l.foldl step_dedup (step_dedup K a)=ded K (a::l)
  unfold ded
  rw[zkA l]
  unfold step_dedup
  have e:(K.any (· == a))=decide (a ∈ K):=by
   by_cases h:a ∈ K
   · rw[zyM h,List.any_eq_true];exact⟨a,h,by simp⟩
   · rw[zyE h,List.any_eq_false];exact λx mx z=>h (by rw[<-eq_of_beq z];exact mx)
  rw[e]
  by_cases h:a ∈ K
  · rw[zyM h,if_pos rfl,if_pos h]
  · rw[zyE h,if_neg (by decide),if_neg h]
theorem zsI{r:List Int}{c:Nat}(h1:∀x ∈ r,InR c x)(h2:∀x,InR c x->x ∈ r):zew r=c:=by
 unfold zew
 rw[zkA]
 have nd:=ziV r [] zyH
 have s1:ded [] r ⊆ yr c:=λx mx=>Vt (h1 x ((zjF r [] mx).elim (λz=>nomatch z) id))
 have s2:yr c ⊆ ded [] r:=λx mx=>zgF r [] (h2 x (vP mx))
 have nr:(yr c).Nodup:=List.Pairwise.map _ (λa b h z=>h (Int.ofNat_inj.mp z)) List.nodup_range
 have l1:=nd.length_le_of_subset s1
 have l2:=nr.length_le_of_subset s2
 rw[zD,zyS]at l1 l2
 omega
def ixF(r:List Int)(b:Int):Int:=(((zdU (λy=>eqF 50 y (.int b)) (r.map D.int)).getD 0:Nat):Int)
theorem zgZ{n:Nat}{r:List Int}{b:Int}(hl:r.length=n)(hb:b ∈ r):InR n (ixF r b)/\rAt r (ixF r b)=b/\zdU (λy=>eqF 50 y (.int b)) (r.map D.int)=some (ixF r b).toNat:=by
 obtain⟨j,j1,j2,j3⟩:=zhv hb
 have e:ixF r b=(j:Int):=by unfold ixF;rw[j3];rfl
 rw[e,zyG]
 refine⟨⟨by omega,by omega⟩, ?_,j3⟩
 unfold rAt
 rw[zyG,j2];rfl
section
variable{n:Nat}{S:SS}{Rs:TZ}{k c:Nat}{r:List Int}
theorem znr{as:AS}(n8:n<=8)(hl:r.length=n)(h1:∀v,InR n v->InR c (rAt r v))(h2:∀x,InR c x->∃v,InR n v/\rAt r v=x)(cn:c<=n)(hs:as[1]? = some (sT (zc r)))(hc:ZQ [none,some 1] as=[none,sT (zc r)]):
 WE (zL (yJ (aC (fP wN lsP) aN) yK) [none,some 1] yh yf (XH .lst zr Zd Xw)) as (zc ((yr c).map (ixF r)))/\∀x,InR c x->InR n (ixF r x)/\rAt r (ixF r x)=x:=by
 have mem:∀x,InR c x->x ∈ r:=λx hx=>by
  obtain⟨v,hv,e⟩:=h2 x hx
  have hk:v.toNat<r.length:=by have:=hv.1;have:=hv.2;omega
  have:rAt r v=r[v.toNat]:=by unfold rAt;rw[zzC hk];rfl
  rw[<-e,this];exact zyY hk
 have inn:∀x ∈ r,InR c x:=λx mx=>by
  obtain⟨i,hi⟩:=List.mem_iff_getElem?.mp mx
  have hk:=(zzE.mp hi).1
  have:=h1 (i:Int) ⟨by omega,by omega⟩
  unfold rAt at this
  rw[zyG,hi]at this
  exact this
 have dc:=zsI inn mem
 have ls:WD (fP wN lsP) as true (.int (c:Nat)):=by
  refine wU (zx (za (i:=1) hs) zR) ?_ rfl
  show((Xb (r.map D.int)).bind λss=>if ss.length<=1000 then some (R0.im (.int (zew ss)))else none)=_
  have:Xb (r.map D.int)=some r:=by
   clear dc inn mem h1 h2 hl hs hc
   induction r with
   |nil=>rfl
   |cons x r ih=>show(Xb (r.map D.int)).bind _=_;rw[ih];rfl
  rw[this]
  show(if r.length<=1000 then _ else _)=_
  rw[if_pos (by omega),dc]
 have w:=v8 (as:=as) (h:=λx=>D.int (ixF r x)) (it:=λx:Int=>(true,D.int x)) (cap:=[none,some 1]) (gg:=gN 0) (fe:=XH .lst zr Zd Xw) (fi:=yJ (aC (fP wN lsP) aN) yK) (yr c) (zqn (zx ls zR) (by omega)) (by rw[zD,zyS];omega) λx mx=>by
  rw[hc]
  obtain⟨a1,a2,a3⟩:=zgZ hl (mem x (vP mx))
  refine⟨[sI x,sT (zc r)],rfl,WD.e (zfu (za (i:=1) rfl) rfl (zx (za (i:=0) rfl) zR) ?_ rfl)⟩
  show(zdU _ (r.map D.int)).bind _=_
  rw[a3]
  show(if(r.map D.int).length<=1000 then some (R0.im (.int ((ixF r x).toNat:Nat)))else none)=_
  rw[if_pos (by rw[zD];omega),show(((ixF r x).toNat:Nat):Int)=ixF r x by have:=a1.1;omega]
 rw[show((yr c).map λx=>D.int (ixF r x))=((yr c).map (ixF r)).map D.int from(zzZ (f:=ixF r) (g:=D.int)).symm]at w
 exact⟨w,λx hx=>⟨(zgZ hl (mem x hx)).1,(zgZ hl (mem x hx)).2.1⟩⟩
end
section
variable{n m c:Nat}{J:TZ}{e:Int}{Ds:DZ}{S:SS}{r:List Int}
abbrev cH(r:List Int)(c:Nat):List Int:=(yr c).map (ixF r)
abbrev lJ(J:TZ)(r:List Int)(c:Nat):TZ:=(cH r c).map λa=>(cH r c).map λb=>rAt r (jAt J a b)
abbrev lD(Ds:DZ)(r:List Int)(c:Nat):DZ:=Ds.map λp=>(p.1,p.2.map λq=>(cH r c).map λa=>rAt r (rAt q a))
abbrev lS(S:SS)(r:List Int)(c:Nat):SS:=S.map λp=>(p.1,((cH r c).filter λa=>decide (a ∈ p.2)).map (rAt r))
theorem znW(A:Alg n m J e Ds)(L:LawA n m J e Ds)(hS:Sg S)(hn:RE (vq [(true,zJ n m J e Ds S)]) (zc r))(hl:r.length=n)(h1:∀v,InR n v->InR c (rAt r v))(h2:∀x,InR c x->∃v,InR n v/\rAt r v=x)(cn:c<=n):RE (wJ [(true,zJ n m J e Ds S)]) (.tup [zJ c m (lJ J r c) (rAt r e) (lD Ds r c) (lS S r c),zc r]):=by
 have n8:=A.n8
 have m6:=A.m6
 have dl:=A.dl
 have s0:xx (zN Zd wI) [sT (zJ n m J e Ds S),none,none,none,none,none]=some (.nx [sT (zJ n m J e Ds S),none,none,none,none,none]):=by
  have:zN Zd wI [sT (zJ n m J e Ds S),none,none,none,none,none]=some (.ow (.lf true .non),[sT (zJ n m J e Ds S),none,none,none,none,none]):=Wh (zx (za (i:=0) rfl) zR) (zpr A L)
  unfold xx
  rw[this];rfl
 have s1:=vH (p:=1) (as:=[sT (zJ n m J e Ds S),none,none,none,none,none]) (Xq (WD.e (za (i:=0) rfl)) hn) (zy rfl)
 obtain⟨w2,hc⟩:=znr (as:=[sT (zJ n m J e Ds S),sT (zc r),none,none,none,none]) n8 hl h1 h2 cn rfl rfl
 have s2:=vH (p:=2) w2 (zy rfl)
 have cl:(cH r c).length=c:=by rw[zD,zD,zyS]
 have ci:∀a ∈ cH r c,InR n a:=λa ma=>by
  obtain⟨x,mx,rfl⟩:=zxC.mp ma
  exact(hc x (vP mx)).1
 have he:InR n e:=⟨A.e0,A.en⟩
 have w3:WE (zL (xq zG) [none,some 1,some 2,some 0] yh yf (zL (xq zG) [none,some 1,some 0,some 3] yh yf (f2 zr (f2 (f2 (f2 zV yN ixP) zG ixP) zq ixP) ixP))) [sT (zJ n m J e Ds S),sT (zc r),sT (zc (cH r c)),none,none,none] (zF (lJ J r c)):=by
  have w:=v8 (as:=[sT (zJ n m J e Ds S),sT (zc r),sT (zc (cH r c)),none,none,none]) (h:=λa=>zc ((cH r c).map λb=>rAt r (jAt J a b))) (it:=λx:Int=>(true,D.int x)) (cap:=[none,some 1,some 2,some 0]) (gg:=gN 0) (fe:=zL (xq zG) [none,some 1,some 0,some 3] yh yf (f2 zr (f2 (f2 (f2 zV yN ixP) zG ixP) zq ixP) ixP)) (cH r c) (Xa (g:=D.int) (f:=fV 2) (WD.e (za (i:=2) rfl))) (by rw[cl];omega) λa ma=>by
   have wi:=v8 (as:=[sI a,sT (zc r),sT (zc (cH r c)),sT (zJ n m J e Ds S)]) (h:=λb=>D.int (rAt r (jAt J a b))) (it:=λx:Int=>(true,D.int x)) (cap:=[none,some 1,some 0,some 3]) (gg:=gN 0) (fe:=f2 zr (f2 (f2 (f2 zV yN ixP) zG ixP) zq ixP) ixP) (cH r c) (Xa (g:=D.int) (f:=fV 2) (WD.e (za (i:=2) rfl))) (by rw[cl];omega) λb mb=>
    ⟨[sI b,sT (zc r),sI a,sT (zJ n m J e Ds S)],rfl,WD.e (zH (za (i:=1) rfl) (Yl A.j (ci a ma) (ci b mb) (yM (za (i:=3) rfl) zb rfl) (za (i:=2) rfl) (za (i:=0) rfl)) (zcg hl (VG A.j (ci a ma) (ci b mb))) rfl)⟩
   rw[show((cH r c).map λb=>D.int (rAt r (jAt J a b)))=((cH r c).map λb=>rAt r (jAt J a b)).map D.int from(zzZ (f:=λb=>rAt r (jAt J a b)) (g:=D.int)).symm]at wi
   exact⟨[sI a,sT (zc r),sT (zc (cH r c)),sT (zJ n m J e Ds S)],rfl,wi⟩
  rw[show((cH r c).map λa=>zc ((cH r c).map λb=>rAt r (jAt J a b)))=(lJ J r c).map zc from(zzZ (f:=λa=>(cH r c).map λb=>rAt r (jAt J a b)) (g:=zc)).symm]at w
  exact w
 have s3:=vH (p:=3) w3 (zy rfl)
 have w4:WE (zL (xq (f2 zq wK ixP)) [none,none,some 1,some 2] (gT 2 (gsC yh (gsC (gN 1) gsN))) yf (yL (dC zq (dC (zL (xq zr) [none,some 2,some 3] yh yf (zL (xq zG) [none,some 1,some 0] yh yf (f2 zr (f2 zG zq ixP) ixP))) dN)))) [sT (zJ n m J e Ds S),sT (zc r),sT (zc (cH r c)),sT (zF (lJ J r c)),none,none] (.lst ((lD Ds r c).map yt)):=by
  have w:=v8 (as:=[sT (zJ n m J e Ds S),sT (zc r),sT (zc (cH r c)),sT (zF (lJ J r c)),none,none]) (h:=λp=>yt (p.1,p.2.map λq=>(cH r c).map λa=>rAt r (rAt q a))) (it:=λp:Str×TZ=>(true,yt p)) (cap:=[none,none,some 1,some 2]) (gg:=gT 2 (gsC yh (gsC (gN 1) gsN))) (fe:=yL (dC zq (dC (zL (xq zr) [none,some 2,some 3] yh yf (zL (xq zG) [none,some 1,some 0] yh yf (f2 zr (f2 zG zq ixP) ixP))) dN))) (fi:=xq (f2 zq wK ixP)) Ds (Xa (g:=yt) (WD.e (yM (za (i:=0) rfl) zb rfl))) (by omega) λp mp=>by
   have hT:=A.ds p mp
   have wi:=v8 (as:=[sT (.str p.1),sT (zF p.2),sT (zc r),sT (zc (cH r c))]) (h:=λq=>zc ((cH r c).map λa=>rAt r (rAt q a))) (it:=λq:List Int=>(true,zc q)) (cap:=[none,some 2,some 3]) (gg:=gN 0) (fe:=zL (xq zG) [none,some 1,some 0] yh yf (f2 zr (f2 zG zq ixP) ixP)) p.2 (Xa (g:=zc) (f:=fV 1) (WD.e (za (i:=1) rfl))) (by rw[hT.1];omega) λq mq=>by
    have wj:=v8 (as:=[sT (zc q),sT (zc r),sT (zc (cH r c))]) (h:=λa=>D.int (rAt r (rAt q a))) (it:=λx:Int=>(true,D.int x)) (cap:=[none,some 1,some 0]) (gg:=gN 0) (fe:=f2 zr (f2 zG zq ixP) ixP) (cH r c) (Xa (g:=D.int) (f:=fV 2) (WD.e (za (i:=2) rfl))) (by rw[cl];omega) λa ma=>
     ⟨[sI a,sT (zc r),sT (zc q)],rfl,WD.e (zH (za (i:=1) rfl) (zH (za (i:=2) rfl) (za (i:=0) rfl) (rowAt (hT.2 q mq) (ci a ma)).1 rfl) (zcg hl (rowAt (hT.2 q mq) (ci a ma)).2) rfl)⟩
    rw[show((cH r c).map λa=>D.int (rAt r (rAt q a)))=((cH r c).map λa=>rAt r (rAt q a)).map D.int from(zzZ (f:=λa=>rAt r (rAt q a)) (g:=D.int)).symm]at wj
    exact⟨[sT (zc q),sT (zc r),sT (zc (cH r c))],rfl,wj⟩
   rw[show(p.2.map λq=>zc ((cH r c).map λa=>rAt r (rAt q a)))=(p.2.map λq=>(cH r c).map λa=>rAt r (rAt q a)).map zc from(zzZ (f:=λq=>(cH r c).map λa=>rAt r (rAt q a)) (g:=zc)).symm]at wi
   exact⟨[sT (.str p.1),sT (zF p.2),sT (zc r),sT (zc (cH r c))],rfl,Yw (WD.e (za (i:=0) rfl)) wi⟩
  rw[show(Ds.map λp=>yt (p.1,p.2.map λq=>(cH r c).map λa=>rAt r (rAt q a)))=(lD Ds r c).map yt from(zzZ (f:=λp:Str×TZ=>(p.1,p.2.map λq=>(cH r c).map λa=>rAt r (rAt q a))) (g:=yt)).symm]at w
  exact w
 have s4:=vH (p:=4) w4 (zy rfl)
 have w5:WE (zL (xq (f2 zq zcK ixP)) [none,none,some 1,some 2] (gT 2 (gsC yh (gsC (gN 1) gsN))) yf (yL (dC zq (dC (zL (xq zV) [none,some 2,some 1] yh (fT (f2 zq zG (zY .In))) (f2 zr zq ixP)) dN)))) [sT (zJ n m J e Ds S),sT (zc r),sT (zc (cH r c)),sT (zF (lJ J r c)),sT (.lst ((lD Ds r c).map yt)),none] (.lst ((lS S r c).map yU)):=by
  have w:=v8 (as:=[sT (zJ n m J e Ds S),sT (zc r),sT (zc (cH r c)),sT (zF (lJ J r c)),sT (.lst ((lD Ds r c).map yt)),none]) (h:=λp=>yU (p.1,((cH r c).filter λa=>decide (a ∈ p.2)).map (rAt r))) (it:=λp:Str×List Int=>(true,yU p)) (cap:=[none,none,some 1,some 2]) (gg:=gT 2 (gsC yh (gsC (gN 1) gsN))) (fe:=yL (dC zq (dC (zL (xq zV) [none,some 2,some 1] yh (fT (f2 zq zG (zY .In))) (f2 zr zq ixP)) dN))) (fi:=xq (f2 zq zcK ixP)) S (Xa (g:=yU) (WD.e (yM (za (i:=0) rfl) zb rfl))) (by have:=hS.1;omega) λp mp=>by
   have wj:=ztp (as:=[sT (.str p.1),sT (zc p.2),sT (zc r),sT (zc (cH r c))]) (h:=λa=>D.int (rAt r a)) (p:=λa=>decide (a ∈ p.2)) (it:=λx:Int=>(true,D.int x)) (cap:=[none,some 2,some 1]) (gg:=gN 0) (tt:=fT (f2 zq zG (zY .In))) (fe:=f2 zr zq ixP) (cH r c) (Xa (g:=D.int) (f:=fV 3) (WD.e (za (i:=3) rfl))) (by rw[cl];omega) λa ma=>
    ⟨[sI a,sT (zc r),sT (zc p.2)],rfl,yc (zoV (za (i:=0) rfl) (za (i:=2) rfl)) rfl,λ_=>WD.e (zH (za (i:=1) rfl) (za (i:=0) rfl) (zcg hl (ci a ma)) rfl)⟩
   rw[show(((cH r c).filter λa=>decide (a ∈ p.2)).map λa=>D.int (rAt r a))=(((cH r c).filter λa=>decide (a ∈ p.2)).map (rAt r)).map D.int from(zzZ (f:=rAt r) (g:=D.int)).symm]at wj
   exact⟨[sT (.str p.1),sT (zc p.2),sT (zc r),sT (zc (cH r c))],rfl,Yw (WD.e (za (i:=0) rfl)) wj⟩
  rw[show(S.map λp=>yU (p.1,((cH r c).filter λa=>decide (a ∈ p.2)).map (rAt r)))=(lS S r c).map yU from(zzZ (f:=λp:Str×List Int=>(p.1,((cH r c).filter λa=>decide (a ∈ p.2)).map (rAt r))) (g:=yU)).symm]at w
  exact w
 have s5:=vH (p:=5) w5 (zy rfl)
 have wl:WD (fP Wy Zr) [sT (zJ n m J e Ds S),sT (zc r),sT (zc (cH r c)),sT (zF (lJ J r c)),sT (.lst ((lD Ds r c).map yt)),sT (.lst ((lS S r c).map yU))] true (.int (c:Nat)):=by
  have:=wU (g:=Zr) (x:=.int (((cH r c).map D.int).length:Nat)) (zx (za (as:=[sT (zJ n m J e Ds S),sT (zc r),sT (zc (cH r c)),sT (zF (lJ J r c)),sT (.lst ((lD Ds r c).map yt)),sT (.lst ((lS S r c).map yU))]) (i:=2) rfl) zR) rfl rfl
  rw[zD,cl]at this
  exact this
 exact yW rfl (zg s0 (zg s1 (zg s2 (zg s3 (zg s4 (zg s5 (yR (Yw (zeb (os:=[lfI c,lfI m,.lf true (zF (lJ J r c)),lfI (rAt r e),.lf true (.lst ((lD Ds r c).map yt)),.lf true (.lst ((lS S r c).map yU))]) (zp wl (zp (zH (za (i:=0) rfl) zb rfl rfl) (zp (za (i:=3) rfl) (zp (zH (za (i:=1) rfl) (zH (za (i:=0) rfl) zb rfl rfl) (zcg hl he) rfl) (zp (za (i:=4) rfl) (zp (za (i:=5) rfl) ym)))))) (szl rfl) rfl rfl) (WD.e (za (i:=1) rfl))))))))))
end
section
variable{n m c:Nat}{J:TZ}{e:Int}{Ds:DZ}{S:SS}{r:List Int}
theorem zmY{a b:Int}(hJ:Tab n n J)(ha:InR n a):rAt (col J b) a=jAt J a b:=by
 have h0:=ha.1
 have h1:=ha.2
 have hk:a.toNat<J.length:=by rw[hJ.1];omega
 show((J.map λr=>rAt r b)[a.toNat]?).getD 0=rAt ((J[a.toNat]?).getD []) b
 rw[zzG,zzC hk];rfl
theorem zsu{g:Int->Int}{x:Int}(hx:InR c x):rAt ((cH r c).map g) x=g (ixF r x):=by
 rw[zzZ]
 exact zdg (g:=λx=>g (ixF r x)) hx
theorem zvi{x y:Int}(hx:InR c x)(hy:InR c y):jAt (lJ J r c) x y=rAt r (jAt J (ixF r x) (ixF r y)):=by
 have h0:=hx.1
 have h1:=hx.2
 have e1:(lJ J r c)[x.toNat]? = some ((cH r c).map λb=>rAt r (jAt J (ixF r x) b)):=by
  rw[zzG,zzG,zzG,List.getElem?_range (show x.toNat<c by omega)]
  show some ((cH r c).map λb=>rAt r (jAt J (ixF r ((x.toNat:Nat):Int)) b))=_
  rw[show((x.toNat:Nat):Int)=x by omega]
 show rAt (((lJ J r c)[x.toNat]?).getD []) y=_
 rw[e1]
 exact zsu hy
abbrev lT(T:TZ)(r:List Int)(c:Nat):TZ:=T.map λq=>(cH r c).map λa=>rAt r (rAt q a)
theorem zvE{T:TZ}{i x:Int}(hT:Tab m n T)(hi:InR m i)(hx:InR c x):jAt (lT T r c) i x=rAt r (jAt T i (ixF r x)):=by
 have h0:=hi.1
 have h1:=hi.2
 have hk:i.toNat<T.length:=by rw[hT.1];omega
 show rAt (((T.map λq=>(cH r c).map λa=>rAt r (rAt q a))[i.toNat]?).getD []) x=rAt r (rAt ((T[i.toNat]?).getD []) (ixF r x))
 rw[zzG,zzC hk]
 exact zsu (g:=λa=>rAt r (rAt T[i.toNat] a)) hx
abbrev lV(V:List Int)(r:List Int)(c:Nat):List Int:=((cH r c).filter λa=>decide (a ∈ V)).map (rAt r)
structure Ct(n m c:Nat)(J:TZ)(e:Int)(Ds:DZ)(S:SS)(r:List Int):Prop where
 al:Alg c m (lJ J r c) (rAt r e) (lD Ds r c)
 cn:c<=n
 ln:r.length=n
 i1:∀v,InR n v->InR c (rAt r v)
 ix:∀x,InR c x->InR n (ixF r x)/\rAt r (ixF r x)=x
 jc:∀a b,InR n a->InR n b->jAt (lJ J r c) (rAt r a) (rAt r b)=rAt r (jAt J a b)
 dc:∀p ∈ Ds,∀i a,InR m i->InR n a->jAt (lT p.2 r c) i (rAt r a)=rAt r (jAt p.2 i a)
 sc:∀p ∈ S,∀a,InR n a->(rAt r a ∈ lV p.2 r c ↔ a ∈ p.2)
theorem zpQ(A:Alg n m J e Ds)(L:LawA n m J e Ds)(hS:Sg S):∃(c:Nat) (r:List Int),Ct n m c J e Ds S r/\RE (wJ [(true,zJ n m J e Ds S)]) (.tup [zJ c m (lJ J r c) (rAt r e) (lD Ds r c) (lS S r c),zc r]):=by
 obtain⟨Rs,k,r,hR,hx,hd,nb,st,hn⟩:=zpy A hS
 obtain⟨c,cn,h1,h2⟩:=nb.cnt
 have n1:=A.n1
 have n8:=A.n8
 have he:InR n e:=⟨A.e0,A.en⟩
 have hl:=nb.ln
 have ix:∀x,InR c x->InR n (ixF r x)/\rAt r (ixF r x)=x:=λx hx=>by
  obtain⟨v,hv,ev⟩:=h2 x hx
  have hk:v.toNat<r.length:=by have:=hv.1;have:=hv.2;omega
  have e1:rAt r v=r[v.toNat]:=by unfold rAt;rw[zzC hk];rfl
  have mx:x ∈ r:=by rw[<-ev,e1];exact zyY hk
  exact⟨(zgZ hl mx).1,(zgZ hl mx).2.1⟩
 have cl:(cH r c).length=c:=by rw[zD,zD,zyS]
 have ci:∀a ∈ cH r c,InR n a:=λa ma=>by
  obtain⟨x,mx,rfl⟩:=zxC.mp ma
  exact(ix x (vP mx)).1
 have rw_:∀g:Int->Int,(∀a,InR n a->InR n (g a))->Row c ((cH r c).map λa=>rAt r (g a)):=λg hg=>⟨by rw[zD,cl],λy my=>by
  obtain⟨a,ma,rfl⟩:=zxC.mp my
  exact h1 _ (hg a (ci a ma))⟩
 have ie:=h1 e he
 have c1:1<=c:=by have:=ie.1;have:=ie.2;omega
 refine⟨c,r,⟨⟨c1,by omega,A.m1,A.m6,⟨by rw[zD,cl],λq mq=>?_⟩,ie.1,ie.2,by rw[zD];exact A.dl,λp mp=>?_, ?_⟩,cn,hl,h1,ix,λa b ha hb=>?_,λp mp i a hi ha=>?_,λp mp a ha=>?_⟩,znW A L hS hn hl h1 h2 cn⟩
 · obtain⟨a,ma,rfl⟩:=zxC.mp mq
   exact rw_ (jAt J a) λb hb=>VG A.j (ci a ma) hb
 · obtain⟨q,mq,rfl⟩:=zxC.mp mp
   have hT:=A.ds q mq
   refine⟨by rw[zD];exact hT.1,λt mt=>?_⟩
   obtain⟨s,ms,rfl⟩:=zxC.mp mt
   exact rw_ (rAt s) λb hb=>(rowAt (hT.2 s ms) hb).2
 · rw[zzZ];exact A.nd
 · obtain⟨ia,ea⟩:=ix _ (h1 a ha)
   obtain⟨ib,eb⟩:=ix _ (h1 b hb)
   rw[zvi (h1 a ha) (h1 b hb)]
   have q1:=nb.row st hR (hx _ ib).2 ia ha ea
   rw[zmY A.j ia,zmY A.j ha]at q1
   have q2:=nb.row st hR (hx _ ha).1 ib hb eb
   exact q1.trans q2
 · obtain⟨ia,ea⟩:=ix _ (h1 a ha)
   rw[zvE (A.ds p mp) hi (h1 a ha)]
   exact nb.row st hR (hd p mp i hi) ia ha ea
 · have sg:∀u v,InR n u->InR n v->rAt r u=rAt r v->u ∈ p.2->v ∈ p.2:=λu v hu hv q mu=>by
    have:=List.map_inj_left.mp (nb.sgn hu hv q) p mp
    rw[zyM mu]at this
    exact of_decide_eq_true this.symm
   obtain⟨ia,ea⟩:=ix _ (h1 a ha)
   constructor
   · intro z
     obtain⟨a',ma,q⟩:=zxC.mp z
     obtain⟨m1,m2⟩:=List.mem_filter.mp ma
     exact sg a' a (ci a' m1) ha q (of_decide_eq_true m2)
   · intro z
     refine zxC.mpr ⟨ixF r (rAt r a),List.mem_filter.mpr ⟨zxC.mpr ⟨_,Vt (h1 a ha),rfl⟩,zyM (sg a _ ha ia ea.symm z)⟩,ea⟩
theorem Ct.jn(K:Ct n m c J e Ds S r)(A:Alg n m J e Ds){l:List Int}(h:∀x ∈ l,InR n x):jn (lJ J r c) (rAt r e) (l.map (rAt r))=rAt r (jn J e l):=by
 have fo:∀(t:List Int) (w:Int),InR n w->(∀x ∈ t,InR n x)->(t.map (rAt r)).foldl (jAt (lJ J r c)) (rAt r w)=rAt r (t.foldl (jAt J) w):=by
  intro t
  induction t with
  |nil=>exact λ_ _ _=>rfl
  |cons v t ih=>
   intro w hw ht
   have hv:=ht v (zzD ..)
   show(t.map (rAt r)).foldl (jAt (lJ J r c)) (jAt (lJ J r c) (rAt r w) (rAt r v))=_
   rw[K.jc w v hw hv]
   exact ih _ (VG A.j hw hv) λx m=>ht x (zzB _ m)
 cases l with
 |nil=>rfl
 |cons x t=>exact fo t x (h x (zzD ..)) λy m=>h y (zzB _ m)
end
theorem zug{ns:List Int}{n:Nat}(hns:ns.length<=63)(hn:0<n)(hn8:n<=8):∃r:List Int,r.length<=63/\(∀x ∈ r,InR n x)/\RE (WL [(true,.lst (ns.map .int)),(true,.int n)]) (zc r):=by
 obtain⟨c,hc⟩:=X8 (ns:=ns) (k:=3) (s:=true) (t:=true) (by trivial)
 have s2:zO true 2 (zN (aC zq (aC Zc aN)) zQ) [sT (.lst (ns.map .int)),sI n,none]=some (.nx [sT (.lst (ns.map .int)),sI n,sI c]):=yz (i:=2) (Z7 (zx (za rfl) (zx zb zR)) hc) (zy rfl)
 by_cases h1:c%2=1
 · obtain⟨ds,d1,d2,d3⟩:=ziq (c:=c/128) (n:=n) (k:=(c/2%64%61).toNat) hn hn8 (by trivial)
   rw[show(((c/2%64%61).toNat:Nat):Int)=c/2%64%61 by trivial]at d3
   exact⟨ds,by trivial,d2,yW rfl (zg s2 (vB (Zm (yc (yV (yg (za rfl) zb (by decide)) zb rfl) (by show some (c%2==1)=_;simp[h1])) (yR (YM (WD.e (v9 (za rfl) zb (by decide) (ye (by decide) (by decide)))) (WD.e (za rfl)) (WD.e (yg (yg (v9 (za rfl) zb (by decide) (ye (by decide) (by decide))) zb (by decide)) zb (by decide))) d3)))))⟩
 · have f1:=yw (f:=yE (zN (aC (f2 zG (fC (.int 128)) zP) (aC zr (aC (f2 (f2 (f2 zG yN zP) (fC (.int 64)) zA) (fC (.int 61)) zA) aN))) vC)) (g:=sNx) (yc (as:=[sT (.lst (ns.map .int)),sI n,sI c]) (yV (yg (za (i:=2) rfl) (zb (x:=.int 2)) (by decide)) (zb (x:=.int 1)) rfl) (by show some (c%2==1)=some false;simp[h1])) rfl
   by_cases h4:c%8=4
   · obtain⟨xs,xl,hx,ws⟩:=stE (as:=[sT (.lst (ns.map .int)),sI n,sI c]) (a:=f2 zG Yz zP) (b:=fC (.int 60)) (c:=c/8) (m:=60) (by trivial) (WD.e (v9 (za rfl) zb (by decide) (ye (by decide) (by decide)))) (WD.e zb)
     obtain⟨r,r1,r2,r3⟩:=zfz D.int (Q:=InR n) (cap:=[none,some 1]) (g:=gN 0) (fe:=f2 zq zr zA) (zbI ws) (by rw[zD,zD];trivial) λy my=>by
      rw[zzZ]at my
      obtain⟨z,_,rfl⟩:=zxC.mp my
      exact⟨[sI z,sI n],z%n,rfl,WD.e (yg (za rfl) (za rfl) (by trivial)),Za hn⟩
     rw[zD,zD]at r1
     exact⟨r,by trivial,r2,yW rfl (zg s2 (zg f1 (vB (Zm (yc (yV (yg (za rfl) zb (by decide)) zb rfl) (by show some (c%8==4)=_;simp[h4])) (yR r3)))))⟩
   · obtain⟨ks,kl',ck⟩:=ziL D.int ns (some 4) (some 63)
     have kl:=kl'.length_le
     have sl:WE (fSl zq (oS wK) (oS (fC (.int 63))) slP) [sT (.lst (ns.map .int)),sI n,sI c] (zc ks):=
      Xc (lo:=some 4) (hi:=some 63) (WD.e (za rfl)) (Y0 zb) (Y0 zb) (by show some (R0.fl (PF.cutD (ns.map D.int) (some 4) (some 63)))=_;rw[ck])
     obtain⟨r,r1,r2,r3⟩:=zfz D.int (Q:=InR n) (cap:=[none,some 1]) (g:=gN 0) (fe:=f2 (f2 (zN (aC zq (aC yp aN)) zT) yF ixP) zr zA) (zbI sl) (by rw[zD,zD];trivial) λy my=>by
      rw[zzZ]at my
      obtain⟨z,_,rfl⟩:=zxC.mp my
      obtain⟨xs,xl,hx,ws⟩:=stE (as:=[sI z,sI n]) (a:=fV 0) (b:=fC (.int 1)) (c:=z) (m:=1) (by trivial) (WD.e (za rfl)) (WD.e zb)
      obtain⟨x0,a0,_⟩:=at2 hx (k:=0) (by trivial) (by trivial)
      exact⟨[sI z,sI n],x0%n,rfl,WD.e (yg (f2E ws (WD.e zb) a0) (za rfl) (by trivial)),Za hn⟩
     rw[zD,zD]at r1
     exact⟨r,by trivial,r2,yW rfl (zg s2 (zg f1 (zg (yw (yc (yV (yg (za rfl) zb (by decide)) zb rfl) (by show some (c%8==4)=_;simp[h4])) rfl) (yR r3))))⟩
theorem znf{n:Nat}{J:TZ}(hJ:Tab n n J):∀(t:List Int) (w:Int),InR n w->(∀x ∈ t,InR n x)->InR n (t.foldl (jAt J) w)
 | [],w,hw,_=>hw
 |v::t,w,hw,h=>znf hJ t (jAt J w v) (VG hJ hw (h v (zzD ..))) λx m=>h x (zzB _ m)
theorem zvO{n:Nat}{J:TZ}{e:Int}{r:List Int}(hJ:Tab n n J)(he:InR n e)(h:∀x ∈ r,InR n x):InR n (jn J e r):=by
 cases r with
 |nil=>exact he
 |cons x t=>exact znf hJ t x (h x (zzD ..)) λy m=>h y (zzB _ m)
abbrev joB:SF:=zO true 2 (f2 (f2 (f2 zq yN ixP) zG ixP) zV ixP)
theorem zgY{n m:Nat}{J:TZ}{e:Int}{Ds:DZ}{S:SS}{B:Option O}(hJ:Tab n n J):∀(t:List Int) (w:Int) (e3:Option O),InR n w->(∀x ∈ t,InR n x)->∃e3',forL (gN 3) joB ((t.map D.int).map λd=>(true,d)) [sT (zJ n m J e Ds S),B,sI w,e3]=some (.nx [sT (zJ n m J e Ds S),B,sI (t.foldl (jAt J) w),e3'])
 | [],w,e3,_,_=>⟨e3,rfl⟩
 |v::t,w,e3,hw,h=>by
  have hv:=h v (zzD ..)
  obtain⟨e3',hf⟩:=zgY (m:=m) (e:=e) (Ds:=Ds) (S:=S) (B:=B) hJ t (jAt J w v) (sI v) (VG hJ hw hv) λx m=>h x (zzB _ m)
  exact⟨e3',Yk (as1:=[sT (zJ n m J e Ds S),B,sI w,sI v]) rfl (yz (i:=2) (Yl hJ hw hv (yM (za (i:=0) rfl) zb rfl) (za (i:=2) rfl) (za (i:=3) rfl)) (zy rfl)) hf⟩
theorem zit{n m:Nat}{J:TZ}{e:Int}{Ds:DZ}{S:SS}{r:List Int}(A:Alg n m J e Ds)(h:∀x ∈ r,InR n x):XQ [(true,zJ n m J e Ds S),(true,zc r)]=sI (jn J e r):=by
 cases r with
 |nil=>exact zbC rfl (zcN (Yh (yc (yV (wU (zx (za rfl) zR) rfl rfl) zb rfl) rfl) (zcd (zH (za rfl) zb rfl rfl))))
 |cons x t=>
  have hx:=h x (zzD ..)
  have ht:∀y ∈ t,InR n y:=λy m=>h y (zzB _ m)
  obtain⟨e3,hf⟩:=zgY (m:=m) (e:=e) (Ds:=Ds) (S:=S) (B:=sT (.lst ((x::t).map D.int))) A.j t x none hx ht
  have hne:((((x::t).map D.int).length:Int)==0)=false:=by
   rw[zD,zzR]
   simp
   trivial
  have sl:WE (fSl zr (oS yp) oN slP) [sT (zJ n m J e Ds S),sT (.lst ((x::t).map D.int)),sI x,none] (zc t):=
   Xc (lo:=some 1) (hi:=none) (WD.e (za rfl)) (Y0 zb) rfl (zfQ (xs:=[D.int x]) (ys:=t.map D.int))
  have g0:=zeh (f:=D.int) (l:=x::t) (i:=0) rfl
  exact zbC rfl (yC (yw (yc (yV (wU (zx (za rfl) zR) rfl rfl) zb rfl) (by show some ((((x::t).map D.int).length:Int)==0)=_;rw[hne])) rfl) (yC (yz (i:=2) (zH (za rfl) zb g0 rfl) (zy rfl)) (yC (wV (zho sl) hf) (zcd (za rfl)))))
abbrev zma(p:Str×TZ):Key×D:=(.inr p.1,zF p.2)
theorem zeX:∀Ds:DZ,zbP (Ds.map yt)=some (Ds.map zma)
 | []=>rfl
 |p::Ds=>by
  show(zbP (Ds.map yt)).bind _=_
  rw[zeX Ds];rfl
theorem ziD{p:Str×TZ}:∀{Ds:DZ},p ∈ Ds->(Ds.map (·.1)).Nodup->zek (Ds.map zma) (.inr p.1)=some (zF p.2)
 | [],h,_=>nomatch h
 |q::Ds,h,nd=>by
  have nd':=zzU.mp (show(q.1::Ds.map (·.1)).Nodup from nd)
  by_cases e:q.1=p.1
  · have:p=q:=by
     rcases zzA.mp h with h|h
     · exact h
     · exact absurd (List.mem_map_of_mem (f:=λp:Str×TZ=>p.1) h) (by rw[<-e];exact nd'.1)
    subst this
    unfold zek
    simp
  · have hp:p ∈ Ds:=by
     rcases zzA.mp h with h|h
     · exact absurd (by rw[h]) e
     · exact h
    have ih:=ziD hp nd'.2
    unfold zek at ih ⊢
    rw[zyQ,List.find?_cons_of_neg (by simp[e])]
    exact ih
theorem keys_nodup{Ds:DZ}(nd:(Ds.map (·.1)).Nodup):((Ds.map zma).map (·.1)).Nodup:=by
 rw[zzZ]
 exact List.pairwise_map.mpr ((List.pairwise_map.mp nd).imp λh e=>h (Sum.inr.inj e))
theorem zpM:∀(kvs:List (Key×D)),(kvs.map (·.1)).zip (kvs.map (·.2))=kvs
 | []=>rfl
 |p::r=>congrArg (p :: ·) (zpM r)
theorem zuA{fr:AF}{as:AS}{rs:List (Bool×D)}{g:List D->Option R0}{kvs:List (Key×D)}(ha:WA fr as rs)(hg:g (rs.map (·.2))=some (.fd kvs)):fP fr g as=some (.ow (.nd (.dc (kvs.map (·.1))) ((kvs.map (·.2)).map (lfs (rs.all (·.1))))),as):=by
 unfold fP;unfold WA at ha
 rw[ha];show(views as _).bind _=_
 rw[WN];show(g _).bind _=_
 rw[hg]
 show(if((kvs.map (·.2)).all yu||(some (rs.all (·.1))).isSome)=true then _ else _:Option RV).bind _=_
 rw[if_pos (by simp)];rfl
theorem zwG{a:EF}{as:AS}{Ds:DZ}(nd:(Ds.map (·.1)).Nodup)(h:WE a as (.lst (Ds.map yt))):WE (fP (aC a aN) ziE) as (.dct (Ds.map zma)):=by
 have hg:ziE [.lst (Ds.map yt)]=some (.fd (Ds.map zma)):=by
  show(zbP (Ds.map yt)).bind _=_
  rw[zeX]
  exact if_pos (keys_nodup nd)
 have k:=zuA (g:=ziE) (XJ h (zR (as:=as))) hg
 rw[show([(true,D.lst (Ds.map yt))].all (·.1))=true from rfl,Vs]at k
 generalize Ds.map zma=kvs at k
 refine⟨_,k,zhu _, ?_⟩
 show D.dct ((kvs.map (·.1)).zip (O.toDs ((kvs.map (·.2)).map (O.lf true))))=_
 rw[zgu,zpM]
theorem ziw{fe:EF}{as0:AS}{n:Nat}{g:Int->Int}(H:∀v:Int,InR n v->∃as1,gN 0 (true,.int v) as0=some as1/\WD fe as1 true (.int (g v))):∀r:List Int,(∀x ∈ r,InR n x)->wD yh yf fe as0 ((r.map D.int).map λd=>(true,d))=some ((r.map g).map lfI)
 | [],_=>rfl
 |x::r,h=>by
  obtain⟨as1,h1,h2⟩:=H x (h x (zzD ..))
  exact znn h1 h2 (ziw H r λy m=>h y (zzB _ m))
abbrev zod(m:Nat)(T:TZ):List Int:=(T[(1%(m:Int)).toNat]?).getD []
theorem zrS{n m:Nat}{J:TZ}{e:Int}{Ds:DZ}{S:SS}{r:List Int}{p:Str×TZ}{s:Bool}(A:Alg n m J e Ds)(hp:p ∈ Ds)(hl:r.length<=1000)(h:∀x ∈ r,InR n x):Zt [(true,zJ n m J e Ds S),(true,.str p.1),(true,zc r)]=some (YD (r.map (rAt (zod m p.2)))):=by
 have m1:=A.m1
 have hT:=A.ds p hp
 have hi:InR m (1%(m:Int)):=Za m1
 obtain⟨t1,t2⟩:=ZR hT hi
 have s3:zO true 3 (f2 (fP (aC (f2 zq wK ixP) aN) ziE) zr ixP) [sT (zJ n m J e Ds S),sT (.str p.1),sT (zc r),none,none]=some (.nx [sT (zJ n m J e Ds S),sT (.str p.1),sT (zc r),sT (zF p.2),none]):=
  yz (i:=3) (f2E (zwG A.nd (WD.e (yM (za (i:=0) rfl) zb rfl))) (WD.e (za (i:=1) rfl)) (by show imR (zek (Ds.map zma) (.inr p.1))=_;rw[ziD hp A.nd];rfl)) (zy rfl)
 have s4:zO true 4 (f2 zV (f2 yp (f2 zq yp ixP) zA) ixP) [sT (zJ n m J e Ds S),sT (.str p.1),sT (zc r),sT (zF p.2),none]=some (.nx [sT (zJ n m J e Ds S),sT (.str p.1),sT (zc r),sT (zF p.2),sT (zc (zod m p.2))]):=
  yz (i:=4) (yM (za (i:=3) rfl) (yg zb (zH (za (i:=0) rfl) zb rfl rfl) (by trivial)) t1) (zy rfl)
 refine zbC rfl (yC s3 (yC s4 (W4 (Wj (cap:=[none,some 4]) (zbI (WD.e (za (i:=2) rfl))) (by rw[zD,zD];exact szs (by trivial)) (ziw (n:=n) (g:=rAt (zod m p.2)) (λv hv=>⟨[sI v,sT (zc (zod m p.2))],rfl,zH (za (i:=1) rfl) (za (i:=0) rfl) (rowAt t2 hv).1 rfl⟩) r h)) (vO _).2.1)))
theorem ztQ{n m:Nat}{J:TZ}{e:Int}{Ds:DZ}{S:SS}{k:Int}(A:Alg n m J e Ds)(sl:Sg S):∃S':SS,Sg S'/\RE (ZS [(true,zJ n m J e Ds S),(true,.int k)]) (zJ n m J e Ds S'):=by
 have n1:=A.n1
 have n8:=A.n8
 have s0:zbk zq (gT 6 (gsC (gN 2) (gsC (gN 3) (gsC V8 (gsC (gN 5) (gsC (gN 6) (gsC (gN 7) gsN))))))) [sT (zJ n m J e Ds S),sI k,none,none,none,none,none,none,none,none]=some (.nx [sT (zJ n m J e Ds S),sI k,sI n,sI m,sT (zF J),sI e,sT (.lst (Ds.map yt)),sT (.lst (S.map yU)),none,none]):=zkJ (WD.e (za (i:=0) rfl)) rfl
 have t1:WT (fT (f2 (f2 zr yN zA) yF (zY .Eq))) [sT (zJ n m J e Ds S),sI k,sI n,sI m,sT (zF J),sI e,sT (.lst (Ds.map yt)),sT (.lst (S.map yU)),none,none] (k%2==0):=yc (yV (yg (za (i:=1) rfl) zb (by decide)) zb rfl) rfl
 have t2:WT (fT (f2 v4 (xU dN) (zY .Eq))) [sT (zJ n m J e Ds S),sI k,sI n,sI m,sT (zF J),sI e,sT (.lst (Ds.map yt)),sT (.lst (S.map yU)),none,none] S.isEmpty:=yc (zjQ (WD.e (za (i:=7) rfl)) (vU (os:=[]) ym (szl rfl) rfl rfl) (q:=S.isEmpty) (by cases S<;>rfl)) rfl
 by_cases h:(k%2==0)=true
 · exact⟨S,sl,yW rfl (zg s0 (vB (Zm (zlk (l:=true) t1 (λz=>by rw[h]at z;cases z) (λ_=>rfl)) (yR (WD.e (za (i:=0) rfl))))))⟩
 cases S with
 |nil=>exact⟨[],sl,yW rfl (zg s0 (vB (Zm (zlk (l:=true) t1 (λ_=>t2) (λ_=>rfl)) (yR (WD.e (za (i:=0) rfl))))))⟩
 |cons p S=>
  have tf:WT (zgR (fT (f2 (f2 zr yN zA) yF (zY .Eq))) (fT (f2 v4 (xU dN) (zY .Eq)))) [sT (zJ n m J e Ds (p::S)),sI k,sI n,sI m,sT (zF J),sI e,sT (.lst (Ds.map yt)),sT (.lst ((p::S).map yU)),none,none] false:=zlk (l:=false) t1 (λ_=>t2) (λz=>absurd z h)
  obtain⟨ys,hl,hy,ws⟩:=stE (as:=[sT (zJ n m J e Ds (p::S)),sI k,sI n,sI m,sT (zF J),sI e,sT (.lst (Ds.map yt)),sT (.lst ((p::S).map yU)),none,none]) (a:=fV 1) (b:=fC (.int 1)) (c:=k) (m:=1) (by omega) (WD.e (za rfl)) (WD.e zb)
  obtain⟨y,a0,_⟩:=at2 hy (k:=0) (by omega) (by omega)
  have s8:=vH (p:=8) (zvn ws (WD.e (zb (x:=.int 0))) a0) (zy rfl)
  have yn:InR n (y%n):=⟨zyL _ (by omega),zyF _ (by omega)⟩
  obtain⟨r,hr⟩:=zdw (g:=gN 0) (as0:=[none,sI n,sT (zF J),sI y]) (tt:=fT (f2 (f2 (f2 zG zq ixP) (f2 zV zr zA) ixP) (f2 (f2 zV Yz zP) zr zA) (zY .Eq))) (fe:=fV 0) (xs:=vN 0 n) λw mw=>by
   obtain⟨x,rfl,b0,b1⟩:=zfx mw
   have hx:InR n x:=⟨b0,by omega⟩
   exact⟨[sI x,sI n,sT (zF J),sI y],_,x,rfl,yc (yV (Yl A.j hx yn (za (i:=2) rfl) (za (i:=0) rfl) (yg (za (i:=3) rfl) (za (i:=1) rfl) (by omega))) (yg (v9 (za (i:=3) rfl) zb (by decide) (ye (by decide) (by decide))) (za (i:=1) rfl) (by omega)) rfl) rfl,za (i:=0) rfl⟩
  have hc:=Wj (as:=[sT (zJ n m J e Ds (p::S)),sI k,sI n,sI m,sT (zF J),sI e,sT (.lst (Ds.map yt)),sT (.lst ((p::S).map yU)),sI y,none]) (cap:=[none,some 2,some 4,some 8]) (fi:=yJ Wy yK) (wZ (zx (za (i:=2) rfl) zR) (by omega) (by omega)) (by rw[xZ];exact szs (by omega)) hr
  have s9:=vH (p:=9) (⟨_,hc,(VP r).1,(VP r).2⟩:WE _ _ (zc r)) (zy rfl)
  obtain⟨o1,h1,h2,h3⟩:=Yw (as:=[sT (zJ n m J e Ds (p::S)),sI k,sI n,sI m,sT (zF J),sI e,sT (.lst (Ds.map yt)),sT (.lst ((p::S).map yU)),sI y,sT (zc r)]) (a:=f2 (f2 v4 yF ixP) yF ixP) (b:=fV 9) (x:=.str p.1) (y:=zc r) (WD.e (zH (yM (g:=ixP) (z:=yU p) (za (i:=7) rfl) (zb (x:=.int 0)) (zeh (l:=p::S) (f:=yU) (i:=0) rfl)) (zb (x:=.int 0)) rfl rfl)) (WD.e (za (i:=9) rfl))
  obtain⟨o2,g1,g2,g3⟩:=vU (x:=.lst [yU (p.1,r)]) (os:=[o1]) (Wu h1 ym) (szl rfl) (by show(o1.str&&true)=true;rw[h2];rfl) (by show D.lst [o1.toD]=_;rw[h3])
  refine⟨[(p.1,r)],⟨by show 1<=10;decide,by simp⟩,yW rfl (zg s0 (zg (yw tf rfl) (zg s8 (zg s9 (yR (zeb (os:=[lfI n,lfI m,.lf true (zF J),lfI e,.lf true (.lst (Ds.map yt)),o2]) (zp (za (i:=2) rfl) (zp (za (i:=3) rfl) (zp (za (i:=4) rfl) (zp (za (i:=5) rfl) (zp (za (i:=6) rfl) (Wu g1 ym)))))) (szl rfl) (by show(true&&(true&&(true&&(true&&(true&&(o2.str&&true))))))=true;rw[g2];rfl) (by show D.tup [.int n,.int m,zF J,.int e,.lst (Ds.map yt),o2.toD]=_;rw[g3];rfl)))))))⟩
theorem eqI{k:Nat}{a:Int}:eqF (k+1) (.int a) (.int a)=some true:=by show some (a==a)=_;simp
theorem eqS{k:Nat}{a:Str}:eqF (k+1) (.str a) (.str a)=some true:=by show some (a==a)=_;simp
theorem eqR{k:Nat}{r:List Int}:eqF (k+2) (zc r) (zc r)=some true:=by
 show eqL (eqF (k+1)) (r.map D.int) (r.map D.int)=_
 refine Zj λx m=>?_
 obtain⟨i,_,rfl⟩:=zxC.mp m
 exact eqI
theorem eqT{k:Nat}{T:TZ}:eqF (k+3) (zF T) (zF T)=some true:=by
 show eqL (eqF (k+2)) (T.map zc) (T.map zc)=_
 refine Zj λx m=>?_
 obtain⟨i,_,rfl⟩:=zxC.mp m
 exact eqR
theorem zwL{k:Nat}{p:Str×TZ}:eqF (k+4) (yt p) (yt p)=some true:=by
 show eqL (eqF (k+3)) [.str p.1,zF p.2] [.str p.1,zF p.2]=_
 refine Zj λx m=>?_
 rcases zzA.mp m with rfl|m
 · exact eqS
 rcases zzA.mp m with rfl|m
 · exact eqT
 · exact nomatch m
theorem zwT{k:Nat}{p:Str×List Int}:eqF (k+3) (yU p) (yU p)=some true:=by
 show eqL (eqF (k+2)) [.str p.1,zc p.2] [.str p.1,zc p.2]=_
 refine Zj λx m=>?_
 rcases zzA.mp m with rfl|m
 · exact eqS
 rcases zzA.mp m with rfl|m
 · exact eqR
 · exact nomatch m
theorem zwE{k:Nat}{Ds:DZ}:eqF (k+5) (.lst (Ds.map yt)) (.lst (Ds.map yt))=some true:=by
 show eqL (eqF (k+4)) (Ds.map yt) (Ds.map yt)=_
 refine Zj λx m=>?_
 obtain⟨i,_,rfl⟩:=zxC.mp m
 exact zwL
theorem zwC{k:Nat}{S:SS}:eqF (k+4) (.lst (S.map yU)) (.lst (S.map yU))=some true:=by
 show eqL (eqF (k+3)) (S.map yU) (S.map yU)=_
 refine Zj λx m=>?_
 obtain⟨i,_,rfl⟩:=zxC.mp m
 exact zwT
theorem eqA{n m:Nat}{J:TZ}{e:Int}{Ds:DZ}{S:SS}:eqF 60 (zJ n m J e Ds S) (zJ n m J e Ds S)=some true:=by
 show eqL (eqF 59) [.int n,.int m,zF J,.int e,.lst (Ds.map yt),.lst (S.map yU)] [.int n,.int m,zF J,.int e,.lst (Ds.map yt),.lst (S.map yU)]=_
 refine Zj λx m=>?_
 rcases zzA.mp m with rfl|m
 · exact eqI
 rcases zzA.mp m with rfl|m
 · exact eqI
 rcases zzA.mp m with rfl|m
 · exact eqT
 rcases zzA.mp m with rfl|m
 · exact eqI
 rcases zzA.mp m with rfl|m
 · exact zwE
 rcases zzA.mp m with rfl|m
 · exact zwC
 · exact nomatch m
theorem zva{f fh:EF}{as:AS}{r:List Int}{i:Nat}(hi:i<=r.length)(hf:WE f as (zc r))(h:WD fh as true (.int (i:Int))):WE (fSl f oN (oS fh) slP) as (zc (r.take i)):=by
 refine Xc (lo:=none) (hi:=some (i:Int)) hf rfl (Y0 h) ?_
 have:=zlJ (xs:=(r.take i).map D.int) (ys:=(r.drop i).map D.int)
 rw[<-zyK,List.take_append_drop,zD,zzQ,Nat.min_eq_left hi]at this
 exact this
theorem zvq{f fl:EF}{as:AS}{r:List Int}{i:Nat}(hi:i<=r.length)(hf:WE f as (zc r))(h:WD fl as true (.int (i:Int))):WE (fSl f (oS fl) oN slP) as (zc (r.drop i)):=by
 refine Xc (lo:=some (i:Int)) (hi:=none) hf (Y0 h) rfl ?_
 have:=zfQ (xs:=(r.take i).map D.int) (ys:=(r.drop i).map D.int)
 rw[<-zyK,List.take_append_drop,zD,zzQ,Nat.min_eq_left hi]at this
 exact this
section
variable{n m c:Nat}{J:TZ}{e:Int}{Ds:DZ}{S:SS}{r l:List Int}
abbrev sgD(v:Int)(p:Str×List Int):D:=.tup [.str p.1,.bl (decide (v ∈ p.2))]
theorem zia{v:Int}(sl:S.length<=10):RE (wX [(true,zJ n m J e Ds S),(true,.int v)]) (.lst (S.map (sgD v))):=by
 have w:=v8 (as:=[sT (zJ n m J e Ds S),sI v]) (h:=sgD v) (it:=λp:Str×List Int=>(true,yU p)) (cap:=[none,none,some 1]) (gg:=gT 2 (gsC yh (gsC (gN 1) gsN))) (fe:=yL (dC zq (dC (f2 zG zr (zY .In)) dN))) (fi:=xq (f2 zq zcK ixP)) S (Xa (g:=yU) (WD.e (yM (za (i:=0) rfl) zb rfl))) (by omega) λp mp=>⟨[sT (.str p.1),sT (zc p.2),sI v],rfl,Yw (WD.e (za (i:=0) rfl)) (WD.e (zoV (za (i:=2) rfl) (za (i:=1) rfl)))⟩
 exact yW rfl (yR w)
theorem zvz{v:Int}:eqF 60 (.lst (S.map (sgD v))) (.lst (S.map (sgD v)))=some true:=by
 show eqL (eqF 59) _ _=_
 refine Zj λx m=>?_
 obtain⟨p,_,rfl⟩:=zxC.mp m
 show eqL (eqF 58) [.str p.1,.bl (decide (v ∈ p.2))] [.str p.1,.bl (decide (v ∈ p.2))]=_
 generalize decide (v ∈ p.2)=b
 refine Zj λx m=>?_
 rcases zzA.mp m with rfl|m
 · exact eqS
 rcases zzA.mp m with rfl|m
 · cases b<;>rfl
 · exact nomatch m
theorem zsl{as:AS}{cap:List (Option Nat)}{f:EF}(hr:r.length=n)(hf:WE f as (zc l))(hc:ZQ cap as=[none,sT (zc r)])(ll:l.length<=1000)(h:∀x ∈ l,InR n x):WE (zL (xq f) cap yh yf (f2 zr zq ixP)) as (zc (l.map (rAt r))):=by
 have w:=v8 (as:=as) (h:=λx=>D.int (rAt r x)) (it:=λx:Int=>(true,D.int x)) (cap:=cap) (gg:=gN 0) (fe:=f2 zr zq ixP) (fi:=xq f) l (Xa (g:=D.int) hf) (by omega) λx mx=>by
  rw[hc]
  exact⟨[sI x,sT (zc r)],rfl,WD.e (zH (za (i:=1) rfl) (za (i:=0) rfl) (zcg hr (h x mx)) rfl)⟩
 rw[show(l.map λx=>D.int (rAt r x))=(l.map (rAt r)).map D.int from(zzZ (f:=rAt r) (g:=D.int)).symm]at w
 exact w
theorem Ct.inr(K:Ct n m c J e Ds S r)(h:∀x ∈ l,InR n x):∀x ∈ l.map (rAt r),InR c x:=λx mx=>by
 obtain⟨y,my,rfl⟩:=zxC.mp mx
 exact K.i1 y (h y my)
theorem zkq(A:Alg n m J e Ds)(K:Ct n m c J e Ds S r)(hS:Sg S)(ll:l.length<=1000)(h:∀x ∈ l,InR n x):vA [(true,zJ n m J e Ds S),(true,zJ c m (lJ J r c) (rAt r e) (lD Ds r c) (lS S r c)),(true,zc r),(true,zc l),(true,zc (l.map (rAt r)))]=sT (.bl true):=by
 have jin:=zvO A.j ⟨A.e0,A.en⟩ h
 have t1:WT (fT (f2 yD (zL (xq zV) [none,some 2] yh yf (f2 zr zq ixP)) (zY .NotEq))) [sT (zJ n m J e Ds S),sT (zJ c m (lJ J r c) (rAt r e) (lD Ds r c) (lS S r c)),sT (zc r),sT (zc l),sT (zc (l.map (rAt r))),none,none] false:=yc (ztP (q:=true) (WD.e (za (i:=4) rfl)) (zsl K.ln (WD.e (za (i:=3) rfl)) rfl ll h) ztX) rfl
 have s5:=yz (st:=true) (i:=5) (as:=[sT (zJ n m J e Ds S),sT (zJ c m (lJ J r c) (rAt r e) (lD Ds r c) (lS S r c)),sT (zc r),sT (zc l),sT (zc (l.map (rAt r))),none,none]) (zow (WD.e (za (i:=0) rfl)) (WD.e (za (i:=3) rfl)) (zit (S:=S) A h)) (zy rfl)
 have s6:=yz (st:=true) (i:=6) (as:=[sT (zJ n m J e Ds S),sT (zJ c m (lJ J r c) (rAt r e) (lD Ds r c) (lS S r c)),sT (zc r),sT (zc l),sT (zc (l.map (rAt r))),sI (jn J e l),none]) (zow (WD.e (za (i:=1) rfl)) (WD.e (za (i:=4) rfl)) (zit (S:=lS S r c) K.al (K.inr h))) (zy rfl)
 rw[K.jn A h]at s6
 have es:(lS S r c).map (sgD (rAt r (jn J e l)))=S.map (sgD (jn J e l)):=by
  rw[zzZ]
  refine List.map_congr_left λp mp=>?_
  show D.tup [.str p.1,.bl (decide (rAt r (jn J e l) ∈ lV p.2 r c))]=D.tup [.str p.1,.bl (decide (jn J e l ∈ p.2))]
  have:=K.sc p mp _ jin
  by_cases q:jn J e l ∈ p.2
  · rw[zyM q,zyM (this.mpr q)]
  · rw[zyE q,zyE λz=>q (this.mp z)]
 have l2:=zia (n:=c) (m:=m) (J:=lJ J r c) (e:=rAt r e) (Ds:=lD Ds r c) (S:=lS S r c) (v:=rAt r (jn J e l)) (by rw[zD];exact hS.1)
 rw[es]at l2
 refine zbC rfl (yC (yw t1 rfl) (yC s5 (yC s6 (zcd ?_))))
 exact ztA (k:=true) (yV (c:=true) (za (i:=6) rfl) (zH (za (i:=2) rfl) (za (i:=5) rfl) (zcg K.ln jin) rfl) eqI) (λ_=>zjQ (Y6 (WD.e (za (i:=0) rfl)) (WD.e (za (i:=5) rfl)) (zia hS.1)) (Y6 (WD.e (za (i:=1) rfl)) (WD.e (za (i:=6) rfl)) l2) zvz) (λz=>nomatch z)
end
section
variable{n m c:Nat}{J:TZ}{e:Int}{Ds:DZ}{S:SS}{r l ns:List Int}
abbrev chE(s a:Nat):EF:=f2 (f2 (fSl (fV s) oN (oS (fV 10)) slP) (zN (aC (fV a) (aC (fV 9) (aC (fSl (fV s) (oS (fV 10)) (oS xY) slP) aN))) Zt) zE) (fSl (fV s) (oS xY) oN slP) zE
abbrev chL(l:List Int)(i k:Nat)(f:Int->Int):List Int:=l.take i++((l.drop i).take k).map f++l.drop (i+k)
theorem zvf{as:AS}{s a i k:Nat}{p:Str×TZ}(A:Alg n m J e Ds)(hp:p ∈ Ds)(hl:l.length<=1000)(h:∀x ∈ l,InR n x)(hik:i+k<=l.length)(h1:as[s]? = some (sT (zc l)))(h2:as[a]? = some (sT (zJ n m J e Ds S)))(h9:as[9]? = some (sT (.str p.1)))(h10:as[10]? = some (sI i))(h11:as[11]? = some (sI ((i+k:Nat):Int))):WE (chE s a) as (zc (chL l i k (jAt p.2 (1%(m:Int))))):=by
 have qin:∀x ∈ (l.drop i).take k,InR n x:=λx mx=>h x (List.mem_of_mem_drop (List.mem_of_mem_take mx))
 have ql:((l.drop i).take k).length<=1000:=by rw[zzQ,List.length_drop];omega
 have d:=zrS (s:=true) (S:=S) A hp ql qin
 have wd:WE (zN (aC (fV a) (aC (fV 9) (aC (fSl (fV s) (oS (fV 10)) (oS xY) slP) aN))) Zt) as (zc (((l.drop i).take k).map (rAt (zod m p.2)))):=YM (WD.e (za h2)) (WD.e (za h9)) (cutE (a:=i) (n:=k) hik (za h1) (za h10) (za h11) rfl rfl) ⟨_,d,(VP _).1,(VP _).2⟩
 have w:=zpS (zpS (zva (by omega) (WD.e (za h1)) (za h10)) wd (add_lists (szs (by simp only[zD,zzQ,List.length_drop];omega)))) (zvq hik (WD.e (za h1)) (za h11)) (add_lists (szs (by simp only[zD,zzQ,List.length_drop,zzH];omega)))
 rw[<-zyK,<-zyK]at w
 exact w
theorem zsS{i k:Nat}{f:Int->Int}(hik:i+k<=l.length):(chL l i k f).length=l.length:=by simp only[zD,zzQ,List.length_drop,zzH];omega
theorem zvk{i k:Nat}{f:Int->Int}(hf:∀x,InR n x->InR n (f x))(h:∀x ∈ l,InR n x):∀x ∈ chL l i k f,InR n x:=λx mx=>by
 rcases zzK.mp mx with mx|mx
 · rcases zzK.mp mx with mx|mx
   · exact h x (List.mem_of_mem_take mx)
   · obtain⟨y,my,rfl⟩:=zxC.mp mx
     exact hf y (h y (List.mem_of_mem_drop (List.mem_of_mem_take my)))
 · exact h x (List.mem_of_mem_drop mx)
theorem ztg{i k:Nat}{f g:Int->Int}(h:∀x ∈ l,InR n x)(hg:∀x,InR n x->g (rAt r x)=rAt r (f x)):chL (l.map (rAt r)) i k g=(chL l i k f).map (rAt r):=by
 show _=(l.take i++((l.drop i).take k).map f++l.drop (i+k)).map (rAt r)
 rw[zyK,zyK]
 show(l.map (rAt r)).take i++(((l.map (rAt r)).drop i).take k).map g++(l.map (rAt r)).drop (i+k)=_
 rw[<-List.map_take,<-List.map_drop,<-List.map_drop,<-List.map_take,zzZ,zzZ]
 congr 2
 exact List.map_congr_left λx mx=>hg x (h x (List.mem_of_mem_drop (List.mem_of_mem_take mx)))
abbrev B12(ns:List Int)(A B:D)(r l:List Int)(e7 e8 e9 e10 e11:Option O):AS:=[sT (.lst (ns.map .int)),sT A,sT A,sT (zc l),sT B,sT (zc r),sT (zc (l.map (rAt r))),e7,e8,e9,e10,e11]
abbrev aB(n m:Nat)(c:Nat)(J:TZ)(e:Int)(Ds:DZ)(S:SS)(r:List Int):D:=zJ c m (lJ J r c) (rAt r e) (lD Ds r c) (lS S r c)
abbrev lwB:SF:=(zB (sIf (fT (f2 (f2 zr wK ixP) (xU dN) (zY .Eq))) (yE (f2 zr zG (zY .Eq))) sNx)
 (zB (zO true 8 (f2 v4 (f2 (fC (.int 10)) (fC (.int 40)) (W3 .Pow)) zA))
 (zB (zO true 9 (f2 (f2 (f2 zr wK ixP) (f2 (fV 8) (fP (aC (f2 zr wK ixP) aN) Zr) zA) ixP) yF ixP))
 (zB (zO true 10 (f2 (f2 (fV 8) Yz zP) (f2 (fP Xg Zr) yp zE) zA))
 (zB (zO true 11 (f2 (fV 10) (f2 (f2 (fV 8) (fC (.int 512)) zP) (f2 (f2 (fP Xg Zr) yp zE) (fV 10) YT) zA) zE))
 (zB (zO true 3 (chE 3 1))
 (zB (zO true 6 (chE 6 4))
 (sIf (zgy (fT (zN (aC zr (aC yD (aC wR (aC zV (aC vX aN))))) vA))) (yE (fC (.bl false))) sNx))))))))
theorem zvI{as:AS}{i:Nat}{l:List Int}(h:as[i]? = some (sT (zc l))):WD (fP (aC (fV i) aN) Zr) as true (.int (l.length:Int)):=by
 have:=wU (g:=Zr) (x:=.int ((l.map D.int).length:Nat)) (zx (za h) zR) rfl rfl
 rw[zD]at this
 exact this
theorem zqS(A:Alg n m J e Ds)(L:LawA n m J e Ds)(K:Ct n m c J e Ds S r)(hS:Sg S)(hd:Ds≠[])(ll:l.length<=1000)(h:∀x ∈ l,InR n x){z:Int}{e8 e9 e10 e11:Option O}:∃l' e8' e9' e10' e11',l'.length<=1000/\(∀x ∈ l',InR n x)/\lwB (B12 ns (zJ n m J e Ds S) (aB n m c J e Ds S r) r l (sI z) e8 e9 e10 e11)=some (.nx (B12 ns (zJ n m J e Ds S) (aB n m c J e Ds S r) r l' (sI z) e8' e9' e10' e11')):=by
 have m1:=A.m1
 have t0:WT (fT (f2 (f2 zr wK ixP) (xU dN) (zY .Eq))) (B12 ns (zJ n m J e Ds S) (aB n m c J e Ds S r) r l (sI z) e8 e9 e10 e11) false:=yc (zjQ (WD.e (yM (za (i:=1) rfl) zb rfl)) (vU (x:=.lst []) (os:=[]) ym (szl rfl) rfl rfl) (q:=false) (by cases Ds with
  |nil=>exact absurd rfl hd
  |cons p t=>rfl)) rfl
 obtain⟨X,s8⟩:∃X:Int,zO true 8 (f2 v4 (f2 (fC (.int 10)) (fC (.int 40)) (W3 .Pow)) zA) (B12 ns (zJ n m J e Ds S) (aB n m c J e Ds S r) r l (sI z) e8 e9 e10 e11)=some (.nx (B12 ns (zJ n m J e Ds S) (aB n m c J e Ds S r) r l (sI z) (sI X) e9 e10 e11)):=⟨_,yz (i:=8) (yg (za (i:=7) rfl) (zsP zb zb ⟨by decide,by decide,by decide⟩) (Int.pow_pos (by decide))) (zy rfl)⟩
 have dpos:0<Ds.length:=List.length_pos_iff.mpr hd
 have hk:InR Ds.length (X%Ds.length):=ziT dpos
 obtain⟨p,pa,mp⟩:=zua yt (T:=Ds) (P:=λp=>p ∈ Ds) hk.1 hk.2 λp mp=>mp
 have wl:∀as:AS,as[1]? = some (sT (zJ n m J e Ds S))->WD (fP (aC (f2 zr wK ixP) aN) Zr) as true (.int (Ds.length:Int)):=λas ha=>by
  have:=wU (g:=Zr) (x:=.int ((Ds.map yt).length:Nat)) (zx (yM (g:=ixP) (z:=.lst (Ds.map yt)) (za ha) (zb (x:=.int 4)) rfl) zR) rfl rfl
  rw[zD]at this
  exact this
 have s9:zO true 9 (f2 (f2 (f2 zr wK ixP) (f2 (fV 8) (fP (aC (f2 zr wK ixP) aN) Zr) zA) ixP) yF ixP) (B12 ns (zJ n m J e Ds S) (aB n m c J e Ds S r) r l (sI z) (sI X) e9 e10 e11)=some (.nx (B12 ns (zJ n m J e Ds S) (aB n m c J e Ds S r) r l (sI z) (sI X) (sT (.str p.1)) e10 e11)):=yz (i:=9) (zH (yM (yM (za (i:=1) rfl) zb rfl) (yg (za (i:=8) rfl) (wl _ rfl) (by omega)) pa) zb rfl rfl) (zy rfl)
 obtain⟨i,hi,ei⟩:∃i:Nat,i<=l.length/\X/8%((l.length:Int)+1)=i:=by
  have h0:=zyL (X/8) (show(l.length:Int)+1≠0 by omega)
  have h1:=zyF (X/8) (show(0:Int)<(l.length:Int)+1 by omega)
  exact⟨(X/8%((l.length:Int)+1)).toNat,by omega,by omega⟩
 obtain⟨k,hik,ek⟩:∃k:Nat,i+k<=l.length/\(i:Int)+X/512%(((l.length:Int)+1)-i)=((i+k:Nat):Int):=by
  have h0:=zyL (X/512) (show(l.length:Int)+1-i≠0 by omega)
  have h1:=zyF (X/512) (show(0:Int)<(l.length:Int)+1-i by omega)
  exact⟨(X/512%((l.length:Int)+1-i)).toNat,by omega,by omega⟩
 have s10:zO true 10 (f2 (f2 (fV 8) Yz zP) (f2 (fP Xg Zr) yp zE) zA) (B12 ns (zJ n m J e Ds S) (aB n m c J e Ds S r) r l (sI z) (sI X) (sT (.str p.1)) e10 e11)=some (.nx (B12 ns (zJ n m J e Ds S) (aB n m c J e Ds S r) r l (sI z) (sI X) (sT (.str p.1)) (sI i) e11)):=by
  rw[<-ei]
  exact yz (i:=10) (yg (v9 (za (i:=8) rfl) zb (by decide) (ye (by decide) (by decide))) (xr (zvI (i:=3) rfl) zb) (by omega)) (zy rfl)
 have s11:zO true 11 (f2 (fV 10) (f2 (f2 (fV 8) (fC (.int 512)) zP) (f2 (f2 (fP Xg Zr) yp zE) (fV 10) YT) zA) zE) (B12 ns (zJ n m J e Ds S) (aB n m c J e Ds S r) r l (sI z) (sI X) (sT (.str p.1)) (sI i) e11)=some (.nx (B12 ns (zJ n m J e Ds S) (aB n m c J e Ds S r) r l (sI z) (sI X) (sT (.str p.1)) (sI i) (sI ((i+k:Nat):Int)))):=by
  rw[<-ek]
  exact yz (i:=11) (xr (za (i:=10) rfl) (yg (v9 (za (i:=8) rfl) zb (by decide) (ye (by decide) (by decide))) (ziZ (xr (zvI (i:=3) rfl) zb) (za (i:=10) rfl)) (by omega))) (zy rfl)
 have i1:InR m (1%(m:Int)):=ziT m1
 have hf:∀x,InR n x->InR n (jAt p.2 (1%(m:Int)) x):=λx hx=>(L.ld p mp).cl _ _ i1 hx
 have s3:=vH (p:=3) (as:=B12 ns (zJ n m J e Ds S) (aB n m c J e Ds S r) r l (sI z) (sI X) (sT (.str p.1)) (sI i) (sI ((i+k:Nat):Int))) (zvf (s:=3) (a:=1) A mp ll h hik rfl rfl rfl rfl rfl) (zy rfl)
 have mp':(p.1,lT p.2 r c) ∈ lD Ds r c:=zxC.mpr ⟨p,mp,rfl⟩
 have s6:=vH (p:=6) (as:=[sT (.lst (ns.map .int)),sT (zJ n m J e Ds S),sT (zJ n m J e Ds S),sT (zc (chL l i k (jAt p.2 (1%(m:Int))))),sT (aB n m c J e Ds S r),sT (zc r),sT (zc (l.map (rAt r))),sI z,sI X,sT (.str p.1),sI i,sI ((i+k:Nat):Int)]) (zvf (s:=6) (a:=4) (p:=(p.1,lT p.2 r c)) (S:=lS S r c) K.al mp' (by rw[zD];exact ll) (K.inr h) (by rw[zD];exact hik) rfl rfl rfl rfl rfl) (zy rfl)
 rw[ztg (f:=jAt p.2 (1%(m:Int))) h λx hx=>K.dc p mp _ x i1 hx]at s6
 have ll':=zsS (f:=jAt p.2 (1%(m:Int))) hik
 have h':=zvk (i:=i) (k:=k) hf h
 exact⟨_,_,_,_,_,by rw[ll'];exact ll,h',yC (yw t0 rfl) (yC s8 (yC s9 (yC s10 (yC s11 (yC s3 (yC s6 (yw (zqy (k:=true) (yc (Z7 (zx (za (i:=1) rfl) (zx (za (i:=4) rfl) (zx (za (i:=5) rfl) (zx (za (i:=3) rfl) (zx (za (i:=6) rfl) zR))))) (zkq A K hS (by rw[ll'];exact ll) h')) rfl)) rfl)))))))⟩
theorem zmH(A:Alg n m J e Ds)(L:LawA n m J e Ds)(K:Ct n m c J e Ds S r)(hS:Sg S)(hd:Ds≠[]):∀(t l:List Int) (e7 e8 e9 e10 e11:Option O),l.length<=1000->(∀x ∈ l,InR n x)->∃l' e7' e8' e9' e10' e11',forL (gN 7) lwB ((t.map D.int).map λd=>(true,d)) (B12 ns (zJ n m J e Ds S) (aB n m c J e Ds S r) r l e7 e8 e9 e10 e11)=some (.nx (B12 ns (zJ n m J e Ds S) (aB n m c J e Ds S r) r l' e7' e8' e9' e10' e11'))
 | [],l,e7,e8,e9,e10,e11,_,_=>⟨l,e7,e8,e9,e10,e11,rfl⟩
 |z::t,l,e7,e8,e9,e10,e11,ll,h=>by
  obtain⟨l1,f8,f9,f10,f11,ll1,h1,hs⟩:=zqS (ns:=ns) (z:=z) (e8:=e8) (e9:=e9) (e10:=e10) (e11:=e11) A L K hS hd ll h
  obtain⟨l2,g7,g8,g9,g10,g11,hf⟩:=zmH A L K hS hd t l1 (sI z) f8 f9 f10 f11 ll1 h1
  exact⟨l2,g7,g8,g9,g10,g11,Yk (as1:=B12 ns (zJ n m J e Ds S) (aB n m c J e Ds S r) r l (sI z) e8 e9 e10 e11) rfl hs hf⟩
end
theorem zoy:∀ns:List Int,ns.length<=63->zgA [(true,.lst (ns.map .int))]=sT (.bl true):=λns hns=>by
 obtain⟨n,m,J,e,Ds,S0,A,L,hS0,hA⟩:=zrz (ns:=ns)
 obtain⟨c4,h4⟩:=X8 (ns:=ns) (k:=4) (s:=true) (t:=true) (by omega)
 obtain⟨S,hS,hF⟩:=ztQ (k:=c4) A hS0
 obtain⟨l,ll,hl,hR⟩:=zug (ns:=ns) (n:=n) hns A.n1 A.n8
 obtain⟨c,r,K,hL⟩:=zpQ A L hS
 have wF:∀as:AS,as[0]? = some (sT (.lst (ns.map .int)))->WE (zN (aC (zN Zd Zi) (aC (zN (aC zq (aC wK aN)) zQ) aN)) ZS) as (zJ n m J e Ds S):=λas h0=>Y6 (Xq (WD.e (za h0)) hA) (WD.e (Z7 (zx (za h0) (zx zb zR)) h4)) hF
 have s1:=vH (p:=1) (as:=[sT (.lst (ns.map .int)),none,none,none,none,none,none,none,none,none,none,none]) (wF _ rfl) (zy rfl)
 have s2:=vH (p:=2) (as:=[sT (.lst (ns.map .int)),sT (zJ n m J e Ds S),none,none,none,none,none,none,none,none,none,none]) (wF _ rfl) (zy rfl)
 have s3:=vH (p:=3) (as:=[sT (.lst (ns.map .int)),sT (zJ n m J e Ds S),sT (zJ n m J e Ds S),none,none,none,none,none,none,none,none,none]) (Y6 (WD.e (za (i:=0) rfl)) (WD.e (zH (g:=ixP) (z:=.int n) (za (i:=1) rfl) (zb (x:=.int 0)) rfl rfl)) hR) (zy rfl)
 have s4:zbk (zN wN wJ) (gT 2 (gsC V8 (gsC (gN 5) gsN))) [sT (.lst (ns.map .int)),sT (zJ n m J e Ds S),sT (zJ n m J e Ds S),sT (zc l),none,none,none,none,none,none,none,none]=some (.nx [sT (.lst (ns.map .int)),sT (zJ n m J e Ds S),sT (zJ n m J e Ds S),sT (zc l),sT (aB n m c J e Ds S r),sT (zc r),none,none,none,none,none,none]):=zkJ (Xq (WD.e (za (i:=1) rfl)) hL) rfl
 have s6:=vH (p:=6) (as:=[sT (.lst (ns.map .int)),sT (zJ n m J e Ds S),sT (zJ n m J e Ds S),sT (zc l),sT (aB n m c J e Ds S r),sT (zc r),none,none,none,none,none,none]) (zsl (cap:=[none,some 5]) K.ln (WD.e (za (i:=3) rfl)) rfl (by omega) hl) (zy rfl)
 have t7:WT (zgy (fT (zN (aC zr (aC yD (aC wR (aC zV (aC vX aN))))) vA))) (B12 ns (zJ n m J e Ds S) (aB n m c J e Ds S r) r l none none none none none) false:=zqy (k:=true) (yc (Z7 (zx (za (i:=1) rfl) (zx (za (i:=4) rfl) (zx (za (i:=5) rfl) (zx (za (i:=3) rfl) (zx (za (i:=6) rfl) zR))))) (zkq A K hS (by omega) hl)) rfl)
 obtain⟨ks,kl,ck⟩:=ziL D.int ns (some 4) (some 24)
 have sl:WE (fSl zq (oS wK) (oS (fC (.int 24))) slP) (B12 ns (zJ n m J e Ds S) (aB n m c J e Ds S r) r l none none none none none) (zc ks):=Xc (lo:=some 4) (hi:=some 24) (WD.e (za (i:=0) rfl)) (Y0 zb) (Y0 zb) (by show some (R0.fl (PF.cutD (ns.map D.int) (some 4) (some 24)))=_;rw[ck])
 have fin:∀l e7 e8 e9 e10 e11,yE (f2 zr zG (zY .Eq)) (B12 ns (zJ n m J e Ds S) (aB n m c J e Ds S r) r l e7 e8 e9 e10 e11)=some (.rt (.lf true (.bl true))):=λl e7 e8 e9 e10 e11=>zcd (yV (c:=true) (za (i:=1) rfl) (za (i:=2) rfl) eqA)
 refine zbC rfl (yC s1 (yC s2 (yC s3 (yC s4 (yC s6 (yC (yw t7 rfl) ?_))))))
 by_cases hd:Ds=[]
 · subst hd
   cases ks with
   |nil=>exact yC (wV (zho sl) rfl) (fin l none none none none none)
   |cons z t=>
    have t0:WT (fT (f2 (f2 zr wK ixP) (xU dN) (zY .Eq))) (B12 ns (zJ n m J e [] S) (aB n m c J e [] S r) r l (sI z) none none none none) true:=yc (zjQ (WD.e (yM (za (i:=1) rfl) zb rfl)) (vU (x:=.lst []) (os:=[]) ym (szl rfl) rfl rfl) (q:=true) rfl) rfl
    exact zcN (wV (zho sl) (zkl (as1:=B12 ns (zJ n m J e [] S) (aB n m c J e [] S r) r l (sI z) none none none none) rfl (zcN (Yh t0 (fin l (sI z) none none none none)))))
 · obtain⟨l',g7,g8,g9,g10,g11,hf⟩:=zmH (ns:=ns) A L K hS hd ks l none none none none none (by omega) hl
   exact yC (wV (zho sl) hf) (fin l' g7 g8 g9 g10 g11)
end G56
end
open PySem PySem.W PyProof.Rows
set_option maxRecDepth 100000 in
set_option maxHeartbeats 0 in
theorem PySem.Challenge.cw_stretchdeeds_k56_whole_least_by_rows_holds : PySem.Challenge.rw_stretchdeeds_k56_whole_least_by_rows.Holds := by
 w_on;refine holds_law G56.ws λsaid=>?_
 refine holds_open (q:=G56.qv) (loose:=[]) (Xt:=G56.Xt) (XP:=XL G56.qv []) (Yf:=Hook.obs (kHook G56.K G56.kA G56.kAe)) (Ya:=Hook.val (kHook G56.K G56.kA G56.kAe)) (YP:=Hook.says (kHook G56.K G56.kA G56.kAe)) (N:=6000) G56.hl (Hook.of (kHook G56.K G56.kA G56.kAe)) (Hook.keeps (kHook G56.K G56.kA G56.kAe)) (λs e=>xl_of s (Bool.and_eq_true_iff.mp e).1) XL.keeps (by rfl) (by rfl) (by rfl) (λs e=>recFacts_of (Bool.and_eq_true_iff.mp e).2) (by rfl) (by first|assumption|decide +kernel) (by decide +kernel) ⟨rfl,rfl,rfl,rfl,rfl,by decide +kernel⟩ ?hw ?hc
 (case hw=>w_witness2)
 k_fill
 refine G56.walk (l:=PySem.Challenge.rw_stretchdeeds_k56_whole_least_by_rows) rfl rfl (λw h Y=>PySem.W.kIn_of Y) G56.zoy ?F
 case F=>
  intro w mg fa h KX G hmg
  refine' G56.ztZ KX G hmg ?_ ?_ ?_ ?_ ?_ ?_ ?_ ?_ ?_ ?_ ?_ ?_ ?_ ?_ ?_ ?_ ?_ ?_ ?_ ?_ ?_ ?_ ?_ ?_ ?_ ?_ ?_ ?_ ?_ ?_ ?_ ?_ ?_ ?_ ?_ ?_ ?_ ?_ ?_ ?_ ?_ ?_ ?_ ?_ ?_ ?_ ?_ ?_ ?_ ?_ ?_ ?_ ?_ ?_ ?_ ?_ ?_ ?_ ?_ ?_ ?_ ?_ ?_ ?_ ?_ ?_ ?_ ?_ ?_ ?_ ?_ ?_ ?_ ?_ ?_ ?_ ?_ ?_ ?_ ?_ ?_ ?_ ?_ ?_ ?_ ?_ ?_ ?_ ?_ ?_ ?_ ?_ ?_ ?_ ?_ ?_ ?_ ?_
  all_goals try first|k_is|(change _=_;k_is)|exact⟨_,⟨_,_,_,_,_,_,_,_,_,rfl,by k_is,by k_is⟩,by k_is⟩|rfl
#print axioms PySem.Challenge.cw_stretchdeeds_k56_whole_least_by_rows_holds
