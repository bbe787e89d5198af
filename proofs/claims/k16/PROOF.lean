import PyProof.Rows.All
import Wide.All
import OpenK.AllK
import Wide.FinOn
import PyProof.EqAt
import PyProof.EqKinds
import PyProof.TupleCall
import PyProof.NeKinds
import PyProof.AutoSeq1
import KE.LcSums
import PyProof.Rows.StrWeight2
import PyProof.StrBlockG
import KE.KIntText
import PyProof.CallStr
import PyProof.WalksEnum
import PyProof.Rows.EnumRows
import PyProof.Rows.FactsT2
import KE.KRevIter
import PyProof.StrWalks
import PyProof.ReprRoads
import PyProof.StrLawsTight
import PyProof.Rows.StrItems
import PyProof.Rows.ReprOcc
import PyProof.Rows.StrJoinMade
import PyProof.ReprLen
import PyProof.ZipIter
import PyProof.Rows.SortWalk
import PyProof.ListRange
import PyProof.AttrMissHeap
import PyProof.Rows.SumAny
import PyProof.Rows.StrSplitMax
import Wide.Txt
import PyProof.StrLawsFirst
import PyProof.StrLawsRepr
import Lean
import PySem.Challenge.RW_stretchdeeds_k16_terms_in_texts
set_option Elab.async false
set_option linter.all false
set_option maxRecDepth 100000
set_option genSizeOf false
set_option bootstrap.genMatcherCode false
noncomputable section
abbrev zC:=PySem.W.Frag
abbrev zD:=@List.length_map
abbrev zI:=@List.mem_cons
abbrev zS:=@List.mem_cons_of_mem
abbrev zzA:=@List.getElem?_eq_getElem
abbrev zzB:=@List.mem_cons_self
abbrev zzC:=@List.getElem?_eq_some_iff
abbrev zzD:=@List.size_toArray
abbrev zzE:=@List.getElem?_map
abbrev zzF:=@List.length_append
abbrev zzG:=@Nat.lt_of_lt_of_le
abbrev zzH:=@List.mem_append_right
abbrev zzI:=@List.mem_append
abbrev zzJ:=@Nat.le_refl
abbrev zzK:=@Nat.le_trans
abbrev zzL:=@List.mem_append_left
abbrev zzM:=@Nat.ne_of_lt
abbrev zzN:=@List.mem_singleton
abbrev zzO:=@List.length_take
abbrev zzP:=@List.length_cons
abbrev zzQ:=@List.length_set
abbrev zzR:=@List.nodup_cons
abbrev zzS:=@List.getElem?_set_ne
abbrev zzT:=@Option.some.inj
abbrev zzU:=@List.mem_of_getElem?
abbrev zzV:=@List.map_map
abbrev zzW:=@Bool.and_eq_true
abbrev zzX:=@Bool.or_true
abbrev zzY:=@List.append_nil
abbrev zzZ:=@List.getD_eq_getElem?_getD
abbrev zyA:=@decide_eq_false
abbrev zyB:=@Int.emod_lt_of_pos
abbrev zyC:=@Int.toNat_natCast
abbrev zyD:=@List.nodup_nil
abbrev zyE:=@List.getElem?_set_self
abbrev zyF:=@Option.bind_some
abbrev zyG:=@List.map_append
abbrev zyH:=@Int.emod_nonneg
abbrev zyI:=@decide_eq_true
abbrev zyJ:=@List.getElem?_append_left
abbrev zyK:=@List.drop_eq_getElem_cons
abbrev zyL:=@List.getElem?_append_right
abbrev zyM:=@List.map_cons
abbrev zyN:=@Array.length_toList
abbrev zyO:=@List.length_range
abbrev zyP:=@Bool.false_ne_true
abbrev zyQ:=@Nat.le_succ
abbrev zyR:=@List.getElem_mem
abbrev zyS:=@Nat.lt_succ_of_lt
abbrev zyT:=@List.not_mem_nil
abbrev zyU:=@List.append_assoc
abbrev zyV:=@List.mem_map
abbrev zyW:=@List.nodup_append
abbrev zyX:=@PySem.wpAny_bind
abbrev zyY:=@PySem.wpAny_pure
abbrev zyZ:=@PySem.Heap.get?_push_of_some
abbrev QzA:=@PySem.Heap.lt_size
abbrev QzB:=@PySem.Heap.get?_push_size
abbrev QzC:=@PySem.wpAny_newObj_type
abbrev QzD:=@PySem.wpAny_holding
abbrev QzE:=@PySem.Heap.size_push
abbrev QzF:=@PySem.wpAny_mono
section
namespace L2
open PySem PySem.Spec PyProof.Rows
abbrev Key:=Sum Int Str
def ziz:Key->Value->Bool
 | .inl k,v=>Value.isInt k v
 | .inr x,v=>Value.isStrOf x v
def zyk(w:World):Key->Int
 | .inl k=>hashInt k
 | .inr x=>hashStr w x
theorem wG:∀{k:Key}{v:Value},ziz k v=true->(∃i t,k=Sum.inl i/\v=Value.int i t)\/(∃x t,k=Sum.inr x/\v=Value.str x t)
 | .inl i,v,h=>by
  obtain⟨t,e⟩:=Value.isInt_shape (k:=i) (v:=v) h;exact .inl ⟨i,t,rfl,e⟩
 | .inr x,v,h=>by
  obtain⟨t,e⟩:=Value.isStrOf_shape (x:=x) (v:=v) h;exact .inr ⟨x,t,rfl,e⟩
theorem zoU(i:Int)(t:Tok):ziz (.inl i) (.int i t)=true:=by simp[ziz,Value.isInt]
theorem zoO(x:Str)(t:Tok):ziz (.inr x) (.str x t)=true:=by simp[ziz,Value.isStrOf]
theorem zwr(a b:Int):decide ((Sum.inl a:Key)=Sum.inl b)=(a==b):=by
 by_cases e:a=b
 . subst e;simp
 . have h:¬(Sum.inl a:Key)=Sum.inl b:=λq=>e (Sum.inl.inj q);rw[zyA h];exact(beq_eq_false_iff_ne.mpr e).symm
theorem zwc(a b:Str):decide ((Sum.inr a:Key)=Sum.inr b)=decide (a=b):=by
 by_cases e:a=b
 . subst e;simp
 . have h:¬(Sum.inr a:Key)=Sum.inr b:=λq=>e (Sum.inr.inj q);rw[zyA h,zyA e]
theorem zvr(a:Int)(b:Str):decide ((Sum.inl a:Key)=Sum.inr b)=false:=zyA (λq=>nomatch q)
theorem zvv(a:Str)(b:Int):decide ((Sum.inr a:Key)=Sum.inl b)=false:=zyA (λq=>nomatch q)
def wM(prog:Program)(w:World):PySem.KeyKind prog w Key where
 is:=ziz
 hash:=zyk w
 inj:=λv a b ha hb=>by
  rcases wG ha with⟨i,t,rfl,rfl⟩|⟨x,t,rfl,rfl⟩
  . rcases wG hb with⟨j,u,rfl,e⟩|⟨y,u,rfl,e⟩
    . injection e with e1 _;rw[e1]
    . exact nomatch e
  . rcases wG hb with⟨j,u,rfl,e⟩|⟨y,u,rfl,e⟩
    . exact nomatch e
    . injection e with e1 _;rw[e1]
 byValue:=λk v h=>by
  rcases wG h with⟨i,t,rfl,rfl⟩|⟨x,t,rfl,rfl⟩<;>rfl
 pyHash:=λhv h=>by
  rcases wG hv with⟨i,t,rfl,rfl⟩|⟨x,t,rfl,rfl⟩
  . exact wpAny_pyHash_int h
  . exact wpAny_pyHash_str h
 eqBool:=λhu hv h=>by
  rcases wG hu with⟨i,t,rfl,rfl⟩|⟨x,t,rfl,rfl⟩
  . rcases wG hv with⟨j,u,rfl,rfl⟩|⟨y,u,rfl,rfl⟩
    . rw[zwr]at h;exact wpAny_eqBool_int h
    . rw[zvr]at h;exact SeqAt.EqAt.int_str i t y u _ _ _ _ h
  . rcases wG hv with⟨j,u,rfl,rfl⟩|⟨y,u,rfl,rfl⟩
    . rw[zvv]at h;exact SeqAt.EqAt.str_int x t j u _ _ _ _ h
    . rw[zwc]at h;exact wpAny_eqBool_str h
 «strs» := λk x t v h=>by
  rcases wG h with⟨i,u,rfl,e⟩|⟨y,u,rfl,e⟩
  . exact nomatch e
  . injection e with e1 _
    subst e1;cases v<;>rfl
theorem zmn(prog:Program)(w:World)(i:Int)(t:Tok):(wM prog w).is (.inl i) (.int i t)=true:=zoU i t
theorem zaE(prog:Program)(w:World)(x:Str)(t:Tok):(wM prog w).is (.inr x) (.str x t)=true:=zoO x t
end L2
namespace L2
open PySem PySem.Spec PyProof.Rows
inductive V where
 |non|bl (b:Bool)|int (i:Int)|str (x:Str)|byt (b:Array UInt8)|flt (b:UInt64)|ref (a:Addr)|ty (n:String)
 deriving DecidableEq
def RelV:V->Value->Prop
 | .non,u=>u=Value.none
 | .bl b,u=>u=Value.bool b
 | .int i,u=>∃t,u=Value.int i t
 | .str x,u=>∃t,u=Value.str x t
 | .byt b,u=>∃t,u=Value.bytes b t
 | .flt b,u=>∃t,u=Value.float b t
 | .ref a,u=>u=Value.ref a
 | .ty n,u=>u=Value.type n
abbrev Vals:List V->List Value->Prop:=Paired RelV
theorem Vals.length(r:Vals xs us):xs.length=us.length:=Paired.length r
theorem Vals.get:∀{xs:List V}{us:List Value}{i:Nat}{x:V},Vals xs us->xs[i]? = some x->∃u,us[i]? = some u/\RelV x u
 |_,_,_,_,.nil,e=>by simp at e
 |_,_,0,_,.cons r _,e=>by simp at e;subst e;exact⟨_,rfl,r⟩
 |_,_,i+1,x,.cons _ t,e=>by
  obtain⟨u,h1,h2⟩:=Vals.get (i:=i) (x:=x) t (by simpa using e);exact⟨u,by simpa using h1,h2⟩
theorem Vals.set(r:RelV x u):∀{xs:List V}{us:List Value}(i:Nat),Vals xs us->Vals (xs.set i x) (us.set i u)
 |_,_,_,.nil=>.nil
 |_,_,0,.cons _ t=>.cons r t
 |_,_,i+1,.cons q t=>.cons q (Vals.set r i t)
theorem Vals.append:∀{xs ys:List V}{us ws:List Value},Vals xs us->Vals ys ws->Vals (xs++ys) (us++ws)
 |_,_,_,_,.nil,s=>s
 |_,_,_,_,.cons r t,s=>.cons r (Vals.append t s)
theorem Vals.take:∀{xs:List V}{us:List Value}(n:Nat),Vals xs us->Vals (xs.take n) (us.take n)
 |_,_,0,_=>.nil
 |_,_,_+1,.nil=>.nil
 |_,_,n+1,.cons r t=>.cons r (Vals.take n t)
theorem Vals.drop:∀{xs:List V}{us:List Value}(n:Nat),Vals xs us->Vals (xs.drop n) (us.drop n)
 |_,_,0,r=>r
 |_,_,_+1,.nil=>.nil
 |_,_,n+1,.cons _ t=>Vals.drop n t
def zhT:Option V->Option Value->Prop
 |some v,some u=>RelV v u
 |none,none=>True
 |_,_=>False
def KV{κ:Type}:List (κ×V)->List (κ×Value)->Prop:=Paired λ(p:κ×V) (q:κ×Value)=>p.1=q.1/\RelV p.2 q.2
def kV:Key->V
 | .inl i=>.int i
 | .inr x=>.str x
inductive HO where
 |lst (xs:List V)
 |tup (xs:List V)
 |dK (kvs:List (Key×V))|dT (kvs:List (List Key×V))
 |set (S:Int->Bool) (n:Nat)
 |ins (C dx:Addr) (fs:List (Str×V))
 |own (x:Addr)
 |xd (fs:List (Str×V))
 |met (f x:Addr)
 |rng (lo hi:Int)
 |frz (o:Obj) (u:HO)
 |tbl (ps:Array Value)
 |ext (φ:Heap->Prop)
abbrev Hp:=Addr->Option HO
def upd(H:Hp)(a:Addr)(o:HO):Hp:=λb=>if b=a then some o else H b
theorem yw:upd H a o a=some o:=by unfold upd;rw[if_pos rfl]
theorem yg(h:b≠a):upd H a o b=H b:=by unfold upd;rw[if_neg h]
theorem yP{H:Hp}{a b:Addr}{o:HO}(h:H a=some o)(h':H b=none):a≠b:=by
 intro e;subst e;rw[h]at h';cases h'
section
variable(P:Program)(w:World)
def v7(H:Hp)(h:Heap)(a:Addr):HO->Prop
 | .lst xs=>xs.length<=sizeLine/\∃(its:List Value) (n:Nat),Vals xs its/\h.get? a=some {cls:=.type "list",data:=.seq its.toArray n}
 | .tup xs=>xs.length<=sizeLine/\∃its:List Value,Vals xs its/\IsTup h a its.toArray
 | .dK kvs=>kvs.length<=sizeLine/\(a==sysModules)=false/\∃vs,KV kvs vs/\h.DictOf (wM P w) a vs
 | .dT kvs=>kvs.length<=sizeLine/\(a==sysModules)=false/\∃xs:List (List Key×Addr×Value),
  Paired (λ(p:List Key×V) (q:List Key×Addr×Value)=>p.1=q.1/\H q.2.1=some (.tup (p.1.map kV))/\RelV p.2 q.2.2) kvs xs/\
  ∃o es ep,h.get? a=some o/\o.ExactDict/\o.data = .dict es ep/\es.toList=xs.map (entryOfKey (tupleKind (wM P w)))/\(xs.map (·.1)).Nodup
 | .set S n=>h.SetOf (intKind P w) a S n
 | .ins C dx fs=>H dx=some (.own a)/\fs.length<=1000/\dx≠a/\h.get? a=some (PySem.W.instObj C dx)/\
  ∃mA,h.Ns1 dx mA/\(∀f,zhT (fs.lookup f) (mA f))/\PySem.Within mA (fs.map (·.1))
 | .own _=>∃o,h.get? a=some o
 | .xd fs=>∃mA,h.Ns1 a mA/\∀f,zhT (fs.lookup f) (mA f)
 | .rng lo hi=>∃t u v,h.get? a=some {cls:=.type "range",data:=.fields #[.int lo t,.int hi u,.int 1 v]}
 | .frz o u=>h.get? a=some o/\v7 H h a u
 | .tbl ps=>h.get? a=some {cls:=.none,data:=.fields ps}
 | .met f x=>h.get? a=some (PySem.W.methodObj (.ref f) (.ref x))
 | .ext φ=>φ h/\(∃o,h.get? a=some o)/\∀h1 h2:Heap,φ h1->(∀o,h1.get? a=some o->h2.get? a=some o)->φ h2
def HOk(H:Hp)(h:Heap):Prop:=∀a o,H a=some o->v7 P w H h a o
end
section
variable{P:Program}{w:World}{H H':Hp}{h h':Heap}{a:Addr}{o:HO}
theorem v7.lt(x:v7 P w H h a o):a<h.objs.size:=by
 cases o with
 |lst xs=>obtain⟨_,_,_,_,e⟩:=x;exact QzA e
 |tup xs=>obtain⟨_,_,_,p⟩:=x;exact p.lt
 |dK kvs=>obtain⟨_,_,_,_,o,_,_,e,_⟩:=x;exact QzA e
 |dT kvs=>obtain⟨_,_,_,_,o,_,_,e,_⟩:=x;exact QzA e
 |set S n=>obtain⟨o,_,_,_,e,_⟩:=x;exact QzA e
 |ins C dx fs=>obtain⟨_,_,_,e,_⟩:=x;exact QzA e
 |own y=>obtain⟨_,e⟩:=x;exact QzA e
 |xd fs=>obtain⟨_,⟨_,_,_,e,_⟩,_⟩:=x;exact QzA e
 |rng lo hi=>obtain⟨_,_,_,e⟩:=x;exact QzA e
 |frz ob u=>obtain⟨e,_⟩:=x;exact QzA e
 |tbl ps=>exact QzA (show h.get? a=some _ from x)
 |met f y=>exact QzA (show h.get? a=some _ from x)
 |ext φ=>obtain⟨_,⟨_,e⟩,_⟩:=x;exact QzA e
theorem Paired.mapP:∀{l₁:List α}{l₂:List β},Paired F l₁ l₂->(∀a b,F a b->G a b)->Paired G l₁ l₂
 |_,_,.nil,_=>.nil
 |_,_,.cons r t,f=>.cons (f _ _ r) (Paired.mapP t f)
theorem v7.stay(x:v7 P w H h a o)(k:∀b u,(b=a\/H b=some (.own a))->h.get? b=some u->h'.get? b=some u)
 (ho:∀b,H b=some (.own a)->H' b=some (.own a)) (ht:∀b xs,H b=some (.tup xs)->H' b=some (.tup xs)):v7 P w H' h' a o:=by
 induction o with
 |lst xs=>obtain⟨z,its,n,r,e⟩:=x;exact⟨z,its,n,r,k _ _ (.inl rfl) e⟩
 |tup xs=>obtain⟨z,its,r,ob,e,c⟩:=x;exact⟨z,its,r,ob,k _ _ (.inl rfl) e,c⟩
 |dK kvs=>obtain⟨z,y,vs,r,ob,es,ep,e,c⟩:=x;exact⟨z,y,vs,r,ob,es,ep,k _ _ (.inl rfl) e,c⟩
 |dT kvs=>
  obtain⟨z,y,xs,r,ob,es,ep,e,c⟩:=x;exact⟨z,y,xs,Paired.mapP r λp q z=>⟨z.1,ht _ _ z.2.1,z.2.2⟩,ob,es,ep,k _ _ (.inl rfl) e,c⟩
 |set S n=>obtain⟨ob,es,ep,t,e,c⟩:=x;exact⟨ob,es,ep,t,k _ _ (.inl rfl) e,c⟩
 |ins C dx fs=>
  obtain⟨d,z,ne,e,mA,⟨od,es,ep,e2,c⟩,r⟩:=x;exact⟨ho _ d,z,ne,k _ _ (.inl rfl) e,mA,⟨od,es,ep,k _ _ (.inr d) e2,c⟩,r⟩
 |own y=>obtain⟨ob,e⟩:=x;exact⟨ob,k _ _ (.inl rfl) e⟩
 |xd fs=>obtain⟨mA,⟨od,es,ep,e,c⟩,r⟩:=x;exact⟨mA,⟨od,es,ep,k _ _ (.inl rfl) e,c⟩,r⟩
 |rng lo hi=>obtain⟨t,u,v,e⟩:=x;exact⟨t,u,v,k _ _ (.inl rfl) e⟩
 |frz ob u ih=>obtain⟨e,q⟩:=x;exact⟨k _ _ (.inl rfl) e,ih q⟩
 |tbl ps=>
  have e:h.get? a=some {cls:=.none,data:=.fields ps}:=x;show h'.get? a=some {cls:=.none,data:=.fields ps};exact k a _ (.inl rfl) e
 |met f y=>
  have e:h.get? a=some (PySem.W.methodObj (.ref f) (.ref y)):=x;show h'.get? a=some (PySem.W.methodObj (.ref f) (.ref y));exact k a _ (.inl rfl) e
 |ext φ=>obtain⟨p,⟨o,e⟩,st⟩:=x;exact⟨st _ _ p λo q=>k _ _ (.inl rfl) q,⟨o,k _ _ (.inl rfl) e⟩,st⟩
theorem HOk.lt(x:HOk P w H h)(e:H a=some o):a<h.objs.size:=(x a o e).lt
theorem HOk.fresh(x:HOk P w H h)(e:h.objs.size<=a):H a=none:=by
 cases q:H a with
 |none=>rfl
 |some u=>exact absurd (zzG (x.lt q) e) (Nat.lt_irrefl _)
theorem HOk.kept(x:HOk P w H h)(k:∀b u,h.get? b=some u->h'.get? b=some u):HOk P w H h':=λa o e=>
 (x a o e).stay (λb u _ q=>k b u q) (λ_ q=>q) λ_ _ q=>q
theorem HOk.laid(x:HOk P w H h)(k:∀b u,h.get? b=some u->h'.get? b=some u)(hp:h.objs.size<=a)(new:v7 P w (upd H a o) h' a o):HOk P w (upd H a o) h':=λb u e=>by
 have hn:=x.fresh hp
 by_cases hb:b=a
 . subst hb;rw[yw]at e;cases e;exact new
 . rw[yg hb]at e;exact(x b u e).stay (λc v _ q=>k c v q) (λc q=>by rw[yg (yP q hn)];exact q) λc xs q=>by rw[yg (yP q hn)];exact q
end
def Rd(H:Hp)(a:Addr)(u:HO):Prop:=H a=some u\/∃o,H a=some (.frz o u)
theorem Rd.ok(r:Rd H a u)(x:HOk P w H h):v7 P w H h a u:=by
 rcases r with r|⟨o,r⟩
 . exact x a u r
 . obtain⟨_,q⟩:=x a _ r;exact q
def Mut:Option HO->Prop
 |some (.lst _)=>True
 |some (.dK _)=>True
 |some (.dT _)=>True
 |some (.set _ _)=>True
 |some (.ins _ _ _)=>True
 |some (.ext _)=>True
 |_=>False
section
variable{P:Program}{w:World}{H:Hp}{h h':Heap}{x e:Addr}{o':HO}
theorem HOk.write(ok:HOk P w H h)(mu:Mut (H x))(he:e=x\/H e=some (.own x))(k:∀b u,b≠e->h.get? b=some u->h'.get? b=some u)(heo:∃u,h'.get? e=some u)
 (new:v7 P w (upd H x o') h' x o'):HOk P w (upd H x o') h':=λb u q=>by
 have nown:∀c y,H c=some (.own y)->c≠x:=λc y r z=>by subst z;rw[r]at mu;exact mu
 have ntup:∀c xs,H c=some (.tup xs)->c≠x:=λc xs r z=>by subst z;rw[r]at mu;exact mu
 by_cases hb:b=x
 . subst hb;rw[yw]at q;cases q;exact new
 . rw[yg hb]at q
   by_cases hbe:b=e
   . have q':H b=some (.own x):=by
      rcases he with z|z
      . exact absurd (hbe.trans z) hb
      . rw[hbe];exact z
     rw[q]at q';cases q';obtain⟨v,hv⟩:=heo;exact⟨v,by rw[hbe];exact hv⟩
   . refine(ok b u q).stay (λc v hc r=>k c v ?_ r) (λc r=>by rw[yg (nown c b r)];exact r) λc xs r=>by rw[yg (ntup c xs r)];exact r
     rcases hc with rfl|hc
     . exact hbe
     . rintro rfl
       rcases he with z|z
       . exact nown c b hc z
       . rw[hc]at z;cases z;exact hb rfl
end
structure Un(fs ex:List Addr)(H H':Hp)(h h':Heap):Prop where
 keep:∀b o,h.get? b=some o->H b=none->b ∉ fs->b ∉ ex->h'.get? b=some o
 slot:∀b o,h.get? b=some o->H b=none->b ∈ fs->b ∉ ex->∃sl,h'.get? b=some {o with slots:=sl}
 free:∀b o,h.get? b=some o->H b=none->b ∉ ex->H' b=none
 there:∀b o,h.get? b=some o->b ∉ ex->∃o',h'.get? b=some o'
 tups:∀b xs,H b=some (.tup xs)->H' b=some (.tup xs)
 frzs:∀b o u,H b=some (.frz o u)->H' b=some (.frz o u)
 tbls:∀b ps,H b=some (.tbl ps)->∃more,H' b=some (.tbl (ps++more))
section
variable{fs fs' ex ex':List Addr}{H H1 H2:Hp}{h h1 h2 h':Heap}{a x e:Addr}{o:HO}
theorem Un.any(u:Un fs ex H H1 h h1)(q:h.get? b=some ob)(n:H b=none)(hx:b ∉ ex):∃sl,h1.get? b=some {ob with slots:=sl}:=by
 by_cases hb:b ∈ fs
 . exact u.slot b ob q n hb hx
 . exact⟨ob.slots,u.keep b ob q n hb hx⟩
theorem Un.kept(k:∀b u,h.get? b=some u->h'.get? b=some u):Un fs ex H H h h':=
 ⟨λb ob q _ _ _=>k b ob q,λb ob q _ _ _=>⟨ob.slots,k b ob q⟩,λ_ _ _ n _=>n,λb ob q _=>⟨ob,k b ob q⟩,λ_ _ q=>q,λ_ _ _ q=>q,λ_ ps q=>⟨#[],by rw[q];simp⟩⟩
theorem Un.refl:Un fs ex H H h h:=Un.kept λ_ _ q=>q
theorem Un.laid(k:∀b u,h.get? b=some u->h'.get? b=some u)(hp:h.objs.size<=a)(hn:H a=none):Un fs ex H (upd H a o) h h' where
 keep:=λb u q _ _ _=>k b u q
 slot:=λb u q _ _ _=>⟨u.slots,k b u q⟩
 free:=λb u q n _=>by rw[yg (zzM (zzG (QzA q) hp))];exact n
 there:=λb u q _=>⟨u,k b u q⟩
 tups:=λb xs q=>by rw[yg (yP q hn)];exact q
 frzs:=λb u xs q=>by rw[yg (yP q hn)];exact q
 tbls:=λb ps q=>⟨#[],by rw[yg (yP q hn),q];simp⟩
theorem Un.write(mu:Mut (H x))(he:e=x\/H e=some (.own x))(k:∀b u,b≠e->h.get? b=some u->h'.get? b=some u)(heo:∃u,h'.get? e=some u):Un fs ex H (upd H x o) h h':=by
 have hx:∀b,H b=none->b≠x:=λb n z=>by subst z;rw[n]at mu;exact mu
 have hb:∀b,H b=none->b≠e:=λb n z=>by
  subst z
  rcases he with r|r
  . exact hx b n r
  . rw[n]at r;cases r
 have hm:∀b u,H b=some u->¬Mut (some u)->b≠x:=λb u q nm z=>by subst z;rw[q]at mu;exact nm mu
 refine⟨λb u q n _ _=>k b u (hb b n) q,λb u q n _ _=>⟨u.slots,k b u (hb b n) q⟩,λb u q n _=>by rw[yg (hx b n)];exact n,λb u q _=>?_,
  λb xs q=>by rw[yg (hm b _ q λz=>z)];exact q,λb u xs q=>by rw[yg (hm b _ q λz=>z)];exact q,λb ps q=>⟨#[],by rw[yg (hm b _ q λz=>z),q];simp⟩⟩
 by_cases hbe:b=e
 . subst hbe;exact heo
 . exact⟨u,k b u hbe q⟩
end
def trk(h:Heap)(H:Hp):List Addr:=(List.range h.objs.size).filter λa=>(H a).isSome
def zjC(h:Heap)(H:Hp):Heap:=PySem.W.hideAll h (trk h H)
theorem zoY(h:Heap)(H:Hp):(zjC h H).objs.size=h.objs.size:=PySem.W.hideAll_size _ _
theorem zqT(e:h.get? b=some o)(n:H b=none):(zjC h H).get? b=some o:=
 PySem.W.hideAll_get _ e λhm=>by
  have q:(H b).isSome=true:=(List.mem_filter.mp hm).2;rw[n]at q;simp at q
theorem ztH(e:(zjC h H).get? b=some o):h.get? b=some o/\H b=none:=by
 have e':h.get? b=some o:=PySem.W.of_hideAll (trk h H) e;refine⟨e', ?_⟩;cases q:H b with
 |none=>rfl
 |some x=>
  have hm:b ∈ trk h H:=List.mem_filter.mpr ⟨List.mem_range.mpr (QzA e'),by simp[q]⟩;have z:(zjC h H).get? b=none:=PySem.W.hideAll_none (trk h H) hm;rw[z]at e;cases e
end L2
namespace L2
open PySem PySem.Spec PyProof.Rows
structure Mod(K:zC)(mg:Str->Option Value)(base:Heap):Prop where
 kin:K.In base
 glob:base.Ns mainGlobals mg
 blt:∃mb,base.Ns builtinsNs mb/\∀x:Str,x≠"__name__"->mb x=bootBuiltins x
 nolimit:base.NoLimit
structure Cx where
 prog:Program
 w:World
 K:zC
 mg:Str->Option Value
 base:Heap
 A:Around
 N:List Str
 s₀:Shared
 H₀:Hp
 env:Env
 outer:List Env
 stack:List Env
 ex:List Addr
 fn:Str->Bool
 calm:Bool
 pn:List (Addr×Obj)
 xe:Value->Shared->Prop
def frs(l:List Env):List Addr:=l.filterMap (·.frame)
abbrev Cx.fs(X:Cx):List Addr:=frs X.outer
def Vis(sc:Scope)(x:Str):Prop:=sc.names.lookup x=some .local\/sc.names.lookup x=some .cell\/sc.names.lookup x=some .free
def Loc(sc:Scope)(x:Str):Prop:=sc.names.lookup x=some .local\/sc.names.lookup x=some .cell
def Look(env:Env)(h:Heap)(m:Str->Option Value)(x:Str)(u:Value):Prop:=
 (env.kindOf x=some .local/\m x=some u)\/((env.kindOf x=some .cell\/env.kindOf x=some .free)/\∃c,env.cells.lookup x=some c/\h.IsCell c (some u))
structure Cx.Ok(X:Cx):Prop where
 mod:Mod X.K X.mg X.base
 kind:X.env.scope.kind = .function
 glob:X.env.globals=mainGlobals
 blt:X.env.builtins=builtinsNs
 above:X.s₀.heap.objs.size<=X.env.locals
 inj:∀x y c,X.env.cells.lookup x=some c->X.env.cells.lookup y=some c->x=y
 has:∀x,(X.env.kindOf x=some .cell\/X.env.kindOf x=some .free)->∃c,X.env.cells.lookup x=some c
 cab:∀x c,X.fn x=true->X.env.cells.lookup x=some c->X.s₀.heap.objs.size<=c
 hd:X.calm=true->X.A.handled=none
 frames:X.A.frames=some X.stack
 stk:X.stack=X.outer\/(X.stack=X.env::X.outer/\X.env.frame=some X.env.locals)
 exf:∀b ∈ X.ex,b≠X.env.locals/\∀x c,X.env.cells.lookup x=some c->c≠b
 bs:∀b o,X.base.get? b=some o->X.s₀.heap.get? b=some o/\X.H₀ b=none
 bsz:X.base.objs.size<=X.s₀.heap.objs.size
 noex:∀b o,X.base.get? b=some o->b ∉ X.ex
 exfs:∀b ∈ X.ex,b ∉ X.fs
 funs:X.s₀.heap.FunFrames X.base X.outer
 frf:∀b ∈ X.fs,X.H₀ b=none
structure Inv(X:Cx)(pins:List (Addr×Obj))(σ:List (Option V))(H:Hp)(s:Shared):Prop where
 ok:X.Ok
 os:s.os=X.s₀.os
 bare:AllBare s.gens
 base:Un X.fs X.ex X.H₀ H X.s₀.heap s.heap
 loc:∃m,s.heap.Ns X.env.locals m/\∀(i:Nat) (x:Str) (v:V),X.N[i]? = some x->σ[i]? = some (some v)->Vis X.env.scope x->∃u,RelV v u/\Look X.env s.heap m x u
 cell:∀x c,X.env.cells.lookup x=some c->∃v,s.heap.IsCell c v
 free:H X.env.locals=none
 freeC:∀x c,X.env.cells.lookup x=some c->H c=none
 pin:∀p ∈ X.pn++pins,s.heap.get? p.1=some p.2/\H p.1=none/\p.1≠X.env.locals/\p.1 ∉ X.fs/\∀v,p.2.data ≠ .cell v
 hok:HOk X.prog X.w H s.heap
 len:σ.length=X.N.length
section
variable{X:Cx}{pins:List (Addr×Obj)}{σ:List (Option V)}{H H':Hp}{s:Shared}{h':Heap}
theorem Cx.Ok.nofr(ok:X.Ok)(e:X.base.get? b=some o):b ∉ X.fs:=λhb=>by
 have:=(ok.funs.mem hb).1;rw[e]at this;cases this
theorem Inv.bs(I:Inv X pins σ H s):∀b o,X.base.get? b=some o->s.heap.get? b=some o/\H b=none:=λb o e=>
 ⟨I.base.keep b o (I.ok.bs b o e).1 (I.ok.bs b o e).2 (I.ok.nofr e) (I.ok.noex b o e),I.base.free b o (I.ok.bs b o e).1 (I.ok.bs b o e).2 (I.ok.noex b o e)⟩
theorem Inv.bk(I:Inv X pins σ H s):∀b o,X.base.get? b=some o->s.heap.get? b=some o:=λb o e=>(I.bs b o e).1
theorem Inv.mod(I:Inv X pins σ H s):Mod X.K X.mg X.base:=I.ok.mod
theorem Inv.kIn(I:Inv X pins σ H s):X.K.In s.heap:=I.ok.mod.kin.keeps I.bk
theorem Inv.lt(I:Inv X pins σ H s):X.env.locals<s.heap.objs.size:=let⟨_,hn,_⟩:=I.loc;hn.lt
theorem Inv.sz(I:Inv X pins σ H s):X.s₀.heap.objs.size<=s.heap.objs.size:=zzK I.ok.above (Nat.le_of_lt I.lt)
theorem Inv.nofs(I:Inv X pins σ H s)(h:s.heap.objs.size<=a):a ∉ X.fs:=λhb=>by
 obtain⟨_,o,ho,_⟩:=I.ok.funs.mem hb;exact absurd (zzG (QzA ho) (zzK I.sz h)) (Nat.lt_irrefl _)
theorem Inv.cne(I:Inv X pins σ H s):∀x c,X.env.cells.lookup x=some c->c≠X.env.locals:=λx c e z=>by
 obtain⟨v,o,ho,hd⟩:=I.cell x c e;obtain⟨m,⟨o',es,ep,ho',hd',_⟩,_⟩:=I.loc;rw[z,ho']at ho;cases ho;rw[hd']at hd;cases hd
theorem Inv.funs(I:Inv X pins σ H s):s.heap.FunFrames X.base X.outer:=by
 have all:∀(l:List Env),(∀b ∈ frs l,b ∈ X.fs)->X.s₀.heap.FunFrames X.base l->s.heap.FunFrames X.base l:=by
  intro l
  induction l with
  |nil=>intro _ _;trivial
  |cons env r ih=>
   intro hs hl;obtain⟨hk,⟨L,o,hf,hn,ho,hd⟩,hr⟩:=hl;have hL:L ∈ X.fs:=hs L (by unfold frs;rw[List.filterMap_cons,hf];exact zzB);obtain⟨sl,e⟩:=I.base.slot L o ho (I.ok.frf L hL) hL λz=>I.ok.exfs L z hL;exact⟨hk,⟨L,_,hf,hn,e,hd⟩,ih (λb hb=>hs b (by unfold frs;rw[List.filterMap_cons,hf];exact zS _ hb)) hr⟩
 exact all X.outer (λ_ hb=>hb) I.ok.funs
theorem Inv.stack(I:Inv X pins σ H s):s.heap.FunFrames X.base X.stack:=by
 rcases I.ok.stk with e|⟨e,hf⟩
 . rw[e];exact I.funs
 . rw[e];obtain⟨m,hn,_⟩:=I.loc;refine .cons (by rw[I.ok.kind];decide) hf hn ?_ I.funs;exact Heap.get?_none_of_le (zzK I.ok.bsz I.ok.above)
theorem Inv.stkSub(I:Inv X pins σ H s):∀b ∈ frs X.stack,b ∈ X.env.locals::X.fs:=λb hb=>by
 rcases I.ok.stk with e|⟨e,hf⟩
 . rw[e]at hb;exact zS _ hb
 . rw[e]at hb;unfold frs at hb;rw[List.filterMap_cons,hf]at hb;exact hb
theorem Inv.stkFree(I:Inv X pins σ H s):∀b ∈ frs X.stack,H b=none:=λb hb=>by
 rcases zI.mp (I.stkSub b hb)with e|hb
 . rw[e];exact I.free
 . obtain⟨_,o,ho,_⟩:=I.ok.funs.mem hb;exact I.base.free b o ho (I.ok.frf b hb) λz=>I.ok.exfs b z hb
theorem Inv.step{g':Array GenState}{t':Nat}{d':Drawn}{ch:List Addr}(I:Inv X pins σ H s)
 (hch:∀b ∈ ch,(b ∈ X.ex\/X.s₀.heap.objs.size<=b)/\b≠X.env.locals/\(∀x c,X.env.cells.lookup x=some c->c≠b)/\∀p ∈ X.pn++pins,p.1≠b)
 (keep:∀b o,b≠X.env.locals->b ∉ X.fs->b ∉ ch->s.heap.get? b=some o->H b=none->h'.get? b=some o)
 (slot:∀b o,b≠X.env.locals->b ∈ X.fs->b ∉ ch->s.heap.get? b=some o->H b=none->∃sl,h'.get? b=some {o with slots:=sl}) (free:∀b o,b ∉ ch->s.heap.get? b=some o->H b=none->H' b=none)
 (there:∀b o,b ∉ ch->s.heap.get? b=some o->∃o',h'.get? b=some o')
 (tups:∀b xs,H b=some (.tup xs)->H' b=some (.tup xs)) (frzs:∀b o u,H b=some (.frz o u)->H' b=some (.frz o u)) (tbls:∀b ps,H b=some (.tbl ps)->∃more,H' b=some (.tbl (ps++more)))
 (ns:∀m,s.heap.Ns X.env.locals m->h'.Ns X.env.locals m) (hok:HOk X.prog X.w H' h') (hg:AllBare g'):
 Inv X pins σ H' {s with heap:=h',gens:=g',drawn:=d',toks:=t'}:=by
 have neL:∀b o,X.s₀.heap.get? b=some o->b≠X.env.locals:=λb o e=>zzM (zzG (QzA e) I.ok.above);have neC:∀b o,X.s₀.heap.get? b=some o->b ∉ X.ex->b ∉ ch:=λb o e hx hb=>by
  rcases(hch b hb).1 with z|z
  . exact hx z
  . exact absurd (zzG (QzA e) z) (Nat.lt_irrefl _)
 have cellK:∀x c,X.env.cells.lookup x=some c->∀v,s.heap.IsCell c v->h'.IsCell c v:=λx c e v ⟨o,ho,hd⟩=>by
  have nch:c ∉ ch:=λz=>(hch c z).2.2.1 x c e rfl
  by_cases hc:c ∈ X.fs
  . obtain⟨sl,q⟩:=slot c o (I.cne x c e) hc nch ho (I.freeC x c e);exact⟨_,q,hd⟩
  . exact⟨o,keep c o (I.cne x c e) hc nch ho (I.freeC x c e),hd⟩
 refine⟨I.ok,I.os,hg,⟨λb o e n hb hx=>?_,λb o e n hb hx=>?_,λb o e n hx=>?_,λb o e hx=>?_,λb xs e=>tups b xs (I.base.tups b xs e),λb o xs e=>frzs b o xs (I.base.frzs b o xs e),λb ps e=>?_⟩, ?_,λx c e=>?_, ?_,λx c e=>?_,λp hp=>?_,hok,I.len⟩
 . exact keep b o (neL b o e) hb (neC b o e hx) (I.base.keep b o e n hb hx) (I.base.free b o e n hx)
 . obtain⟨sl,e1⟩:=I.base.slot b o e n hb hx;obtain⟨sl',e2⟩:=slot b _ (neL b o e) hb (neC b o e hx) e1 (I.base.free b o e n hx);exact⟨sl',e2⟩
 . obtain⟨o',e1⟩:=I.base.there b o e hx;exact free b o' (neC b o e hx) e1 (I.base.free b o e n hx)
 . obtain⟨o',e1⟩:=I.base.there b o e hx;exact there b o' (neC b o e hx) e1
 . obtain⟨m1,e1⟩:=I.base.tbls b ps e;obtain⟨m2,e2⟩:=tbls b _ e1;exact⟨m1++m2,by rw[e2,Array.append_assoc]⟩
 . obtain⟨m,hn,hl⟩:=I.loc;refine⟨m,ns m hn,λi x v e1 e2 e3=>?_⟩;obtain⟨u,r,l⟩:=hl i x v e1 e2 e3;refine⟨u,r, ?_⟩
   rcases l with l|⟨k,c,e,z⟩
   . exact .inl l
   . exact .inr ⟨k,c,e,cellK x c e _ z⟩
 . obtain⟨v,z⟩:=I.cell x c e;exact⟨v,cellK x c e v z⟩
 . obtain⟨m,⟨o,_,_,ho,_⟩,_⟩:=I.loc;exact free _ o (λz=>(hch _ z).2.1 rfl) ho I.free
 . obtain⟨v,o,ho,hd⟩:=I.cell x c e;exact free c o (λz=>(hch c z).2.2.1 x c e rfl) ho (I.freeC x c e)
 . obtain⟨e,n,ne,nf,d⟩:=I.pin p hp;have nch:p.1 ∉ ch:=λz=>(hch p.1 z).2.2.2 p hp rfl;exact⟨keep p.1 p.2 ne nf nch e n,free p.1 p.2 nch e n,ne,nf,d⟩
theorem Inv.un{t':Nat}(I:Inv X pins σ H s)(u:Un X.fs [] H H' s.heap h')(hok:HOk X.prog X.w H' h'):Inv X pins σ H' {s with heap:=h',toks:=t'}:=by
 obtain⟨m,⟨o,es,ep,ho,r⟩,_⟩:=id I.loc;obtain⟨sl,hL⟩:=u.any ho I.free (by simp);exact I.step (g':=s.gens) (d':=s.drawn) (ch:=[]) (λ_ z=>nomatch z) (λb o _ hb _ e n=>u.keep b o e n hb (by simp)) (λb o _ hb _ e n=>u.slot b o e n hb (by simp)) (λb o _ e n=>u.free b o e n (by simp)) (λb o _ e=>u.there b o e (by simp)) u.tups u.frzs u.tbls (λm' hm=>by
  obtain⟨o',es',ep',ho',r'⟩:=hm;rw[ho]at ho';cases ho';exact⟨_,es',ep',hL,r'⟩) hok I.bare
theorem Inv.call{g':Array GenState}{t':Nat}{d':Drawn}{ch:List Addr}(I:Inv X pins σ H s)(u:Un (frs X.stack) ch H H' s.heap h')(hok:HOk X.prog X.w H' h')(hg:AllBare g')
 (hch:∀b ∈ ch,(b ∈ X.ex\/X.s₀.heap.objs.size<=b)/\b≠X.env.locals/\(∀x c,X.env.cells.lookup x=some c->c≠b)/\∀p ∈ X.pn++pins,p.1≠b):
 Inv X pins σ H' {s with heap:=h',gens:=g',drawn:=d',toks:=t'}:=by
 obtain⟨m,⟨o,es,ep,ho,r⟩,_⟩:=id I.loc;obtain⟨sl,hL⟩:=u.any ho I.free λz=>(hch _ z).2.1 rfl;exact I.step (ch:=ch) hch (λb o hL hb hc e n=>u.keep b o e n (λz=>(zI.mp (I.stkSub b z)).elim hL hb) hc) (λb o _ _ hc e n=>u.any e n hc) (λb o hc e n=>u.free b o e n hc) (λb o hc e=>u.there b o e hc) u.tups u.frzs u.tbls (λm' hm=>by
  obtain⟨o',es',ep',ho',r'⟩:=hm;rw[ho]at ho';cases ho';exact⟨_,es',ep',hL,r'⟩) hok hg
theorem Inv.turned{t':Nat}{it:Addr}(I:Inv X pins σ H s)(k:∀b o,b≠it->s.heap.get? b=some o->h'.get? b=some o)(hn:H it=none)(hL:it≠X.env.locals)
 (h1:it ∈ X.ex\/X.s₀.heap.objs.size<=it) (h2:∀x c,X.env.cells.lookup x=some c->c≠it) (h3:∀p ∈ X.pn++pins,p.1≠it):Inv X pins σ H {s with heap:=h',toks:=t'}:=by
 have nit:∀b u,H b=some u->b≠it:=λb u e z=>by rw[z,hn]at e;cases e
 refine I.step (g':=s.gens) (d':=s.drawn) (ch:=[it]) (λb hb=>?_) (λb o _ _ hc e _=>k b o (λz=>hc (by simp[z])) e) (λb o _ _ hc e _=>⟨o.slots,k b o (λz=>hc (by simp[z])) e⟩) (λ_ _ _ _ n=>n)
  (λb o hc e=>⟨o,k b o (λz=>hc (by simp[z])) e⟩) (λ_ _ e=>e) (λ_ _ _ e=>e) (λb ps e=>⟨#[],by rw[e];simp⟩) (λm hm=>?_) (λb u e=>?_) I.bare
 . have e:b=it:=by simpa using hb
   subst e;exact⟨h1,hL,h2,h3⟩
 . obtain⟨o,es,ep,ho,r⟩:=hm;exact⟨o,es,ep,k _ o (Ne.symm hL) ho,r⟩
 . refine(I.hok b u e).stay (λc v hc q=>k c v ?_ q) (λ_ q=>q) λ_ _ q=>q
   rcases hc with z|z
   . rw[z];exact nit b u e
   . exact nit c _ z
theorem Inv.tok(I:Inv X pins σ H s)(t:Nat):Inv X pins σ H {s with toks:=t}:=I.un (h':=s.heap) (t':=t) Un.refl I.hok
theorem Inv.kept(I:Inv X pins σ H s)(k:∀b u,s.heap.get? b=some u->h'.get? b=some u):Inv X pins σ H {s with heap:=h',toks:=t'}:=I.un (Un.kept k) (I.hok.kept k)
theorem Inv.laid(I:Inv X pins σ H s)(k:∀b u,s.heap.get? b=some u->h'.get? b=some u)(hp:s.heap.objs.size<=a)(new:v7 X.prog X.w (upd H a o) h' a o):
 Inv X pins σ (upd H a o) {s with heap:=h',toks:=t'}:=I.un (Un.laid k hp (I.hok.fresh hp)) (I.hok.laid k hp new)
theorem Inv.write(I:Inv X pins σ H s)(mu:Mut (H x))(he:e=x\/H e=some (.own x))(k:∀b u,b≠e->s.heap.get? b=some u->h'.get? b=some u)(heo:∃u,h'.get? e=some u)
 (new:v7 X.prog X.w (upd H x o) h' x o):Inv X pins σ (upd H x o) {s with heap:=h',toks:=t'}:=I.un (Un.write mu he k heo) (I.hok.write mu he k heo new)
theorem Inv.weak(I:Inv X pins σ H s)(hl:σ'.length=σ.length)(w:∀(i:Nat) v,σ'[i]? = some (some v)->σ[i]? = some (some v)):Inv X pins σ' H s:=
 ⟨I.ok,I.os,I.bare,I.base,let⟨m,hn,hl'⟩:=I.loc;⟨m,hn,λi x v e1 e2 e3=>hl' i x v e1 (w i v e2) e3⟩,I.cell,I.free,I.freeC,I.pin,I.hok,hl.trans I.len⟩
theorem Inv.pins_of(I:Inv X pins σ H s)(h:∀p ∈ pins',s.heap.get? p.1=some p.2/\H p.1=none/\p.1≠X.env.locals/\p.1 ∉ X.fs/\∀v,p.2.data ≠ .cell v):Inv X pins' σ H s:=
 ⟨I.ok,I.os,I.bare,I.base,I.loc,I.cell,I.free,I.freeC,λp hp=>(zzI.mp hp).elim (λz=>I.pin p (zzL _ z)) (h p),I.hok,I.len⟩
theorem zlL{N:List Str}(hN:N.Nodup){i j:Nat}{x:Str}(a:N[i]? = some x)(b:N[j]? = some x):i=j:=by
 obtain⟨h1,e1⟩:=zzC.mp a;obtain⟨h2,e2⟩:=zzC.mp b;exact(List.getElem_inj hN).mp (e1.trans e2.symm)
theorem ziA{M:Model}{A:Around}{E:Value->Shared->Prop}{i:Nat}{x:Str}{v:V}{u:Value}{Q:Unit->Shared->Prop}(I:Inv X pins σ H s)(hN:X.N.Nodup)(hi:X.N[i]? = some x)(hx:Loc X.env.scope x)(r:RelV v u)
 (h:∀s',Inv X pins (σ.set i (some v)) H s'->(∃a,Heap.SameBut a s.heap s'.heap/\(a=X.env.locals\/X.env.cells.lookup x=some a))->Q () s') (hf:X.fn x=true\/X.env.scope.names.lookup x=some .local:=by first|exact .inl rfl|exact .inr rfl|assumption):wpAny M A (storeName X.env x u) Q E s:=by
 obtain⟨m,hn,hl⟩:=id I.loc;have hcls:(X.env.scope.kind == .class||(X.env.scope.kind == .module&&X.env.locals != X.env.globals))=false:=by rw[I.ok.kind];rfl
 have hiσ:i<σ.length:=by rw[I.len];exact(zzC.mp hi).1
 have cne:=I.cne;have tracked:∀{a:Addr}{h':Heap},(∃o,s.heap.get? a=some o/\H a=none)->Heap.SameBut a s.heap h'->HOk X.prog X.w H h':=λ{a h'} ha hs b ob e=>by
  obtain⟨_,_,hfree⟩:=ha;refine(I.hok b ob e).stay (λc w' hc q=>(hs.2 c ?_).trans q) (λ_ q=>q) λ_ _ q=>q
  rintro rfl
  rcases hc with rfl|hc
  . rw[hfree]at e;cases e
  . rw[hfree]at hc;cases hc
 rcases hx with hk|hk
 . refine wpAny_storeName_local hk hn (λh' hn' hs=>?_) hcls;obtain⟨oL,_,_,hoL,_⟩:=id hn;refine h _ ⟨I.ok,I.os,I.bare,⟨λb o e n hb hx=>?_,λb o e n hb hx=>?_,I.base.free,λb o e hx=>?_,I.base.tups,I.base.frzs,I.base.tbls⟩,⟨_,hn',λj y v' e1 e2 e3=>?_⟩,λy c e=>?_,I.free,I.freeC,λp hp=>?_,tracked ⟨oL,hoL,I.free⟩ hs,by simpa using I.len⟩ ⟨_,hs,.inl rfl⟩
   . exact(hs.2 b (zzM (zzG (QzA e) I.ok.above))).trans (I.base.keep b o e n hb hx)
   . obtain⟨sl,e1⟩:=I.base.slot b o e n hb hx;exact⟨sl,(hs.2 b (zzM (zzG (QzA e) I.ok.above))).trans e1⟩
   . obtain⟨o',e1⟩:=I.base.there b o e hx;exact⟨o',(hs.2 b (zzM (zzG (QzA e) I.ok.above))).trans e1⟩
   . by_cases hj:j=i
     . subst hj;rw[hi]at e1;cases e1;rw[zyE hiσ]at e2;cases e2;exact⟨u,r,.inl ⟨hk,by simp⟩⟩
     . rw[zzS (Ne.symm hj)]at e2;obtain⟨u',r',q⟩:=hl j y v' e1 e2 e3;refine⟨u',r', ?_⟩
       rcases q with⟨k,e⟩|⟨k,c,e,z⟩
       . refine .inl ⟨k, ?_⟩;have:y≠x:=λe=>hj (zlL hN e1 (e ▸ hi));simp[this,e]
       . exact .inr ⟨k,c,e,z.sameBut hs (cne y c e)⟩
   . obtain⟨w',z⟩:=I.cell y c e;exact⟨w',z.sameBut hs (cne y c e)⟩
   . obtain⟨e,n,ne,nf,d⟩:=I.pin p hp;exact⟨(hs.2 p.1 ne).trans e,n,ne,nf,d⟩
 . have hfn:X.fn x=true:=by
    rcases hf with z|z
    . exact z
    . rw[z]at hk;cases hk
   obtain⟨c,hc⟩:=I.ok.has x (.inl hk);obtain⟨w',z⟩:=I.cell x c hc;refine wpAny_storeName_cell I.ok.kind hk hc z (λh' hc' hs=>?_);obtain⟨oc,hoc,hocd⟩:=id z;refine h {s with heap:=h'} ⟨I.ok,I.os,I.bare,⟨λb o e n hb hx=>?_,λb o e n hb hx=>?_,I.base.free,λb o e hx=>?_,I.base.tups,I.base.frzs,I.base.tbls⟩,⟨m,hn.sameBut hs (Ne.symm (cne x c hc)),λj y v' e1 e2 e3=>?_⟩,λy c' e=>?_,I.free,I.freeC,λp hp=>?_,tracked ⟨oc,hoc,I.freeC x c hc⟩ hs,by simpa using I.len⟩ ⟨c,hs,.inr hc⟩
   . exact(hs.2 b (zzM (zzG (QzA e) (I.ok.cab x c hfn hc)))).trans (I.base.keep b o e n hb hx)
   . obtain⟨sl,e1⟩:=I.base.slot b o e n hb hx;exact⟨sl,(hs.2 b (zzM (zzG (QzA e) (I.ok.cab x c hfn hc)))).trans e1⟩
   . obtain⟨o',e1⟩:=I.base.there b o e hx;exact⟨o',(hs.2 b (zzM (zzG (QzA e) (I.ok.cab x c hfn hc)))).trans e1⟩
   . by_cases hj:j=i
     . subst hj;rw[hi]at e1;cases e1;rw[zyE hiσ]at e2;cases e2;exact⟨u,r,.inr ⟨.inl hk,c,hc,hc'⟩⟩
     . rw[zzS (Ne.symm hj)]at e2;obtain⟨u',r',q⟩:=hl j y v' e1 e2 e3;refine⟨u',r', ?_⟩
       rcases q with q|⟨k,c',e,z'⟩
       . exact .inl q
       . refine .inr ⟨k,c',e,z'.sameBut hs ?_⟩
         rintro rfl
         exact hj (zlL hN e1 (I.ok.inj _ _ _ e hc ▸ hi))
   . by_cases hcc:c'=c
     . subst hcc;exact⟨_,hc'⟩
     . obtain⟨w2,z2⟩:=I.cell y c' e;exact⟨w2,z2.sameBut hs hcc⟩
   . obtain⟨e,n,ne,nf,d⟩:=I.pin p hp;refine⟨(hs.2 p.1 ?_).trans e,n,ne,nf,d⟩;intro q;rw[q,hoc]at e;have q':oc=p.2:=zzT e;exact d w' (by rw[<-q'];exact hocd)
theorem zlv(I:Inv X pins σ H s)(hN:X.N.Nodup)(hi:X.N[i]? = some x)(hx:Loc X.env.scope x)(r:RelV v u)
 (h:∀s',Inv X pins (σ.set i (some v)) H s'->Q () s') (hf:X.fn x=true\/X.env.scope.names.lookup x=some .local:=by first|exact .inl rfl|exact .inr rfl|assumption):wpAny M A (storeName X.env x u) Q E s:=
 ziA I hN hi hx r (λs' I' _=>h s' I') hf
theorem Inv.call'(I:Inv X pins σ H s)(ho:s'.os=s.os)(u:Un (frs X.stack) ch H H' s.heap s'.heap)(hok:HOk X.prog X.w H' s'.heap)(hg:AllBare s'.gens)
 (hch:∀b ∈ ch,(b ∈ X.ex\/X.s₀.heap.objs.size<=b)/\b≠X.env.locals/\(∀x c,X.env.cells.lookup x=some c->c≠b)/\∀p ∈ X.pn++pins,p.1≠b):Inv X pins σ H' s':=by
 obtain⟨h',g',d',t',o'⟩:=s';have e:o'=s.os:=ho;subst e;exact I.call (g':=g') (t':=t') (d':=d') u hok hg hch
end
abbrev XK:=Value->Option Addr->Hp->Prop
abbrev St:=List (Option V)
abbrev VK:=V->Hp->Prop
abbrev TE:=St->Hp->VK->Prop
abbrev TT:=St->Hp->(Bool->Hp->Prop)->Prop
abbrev TA:=St->Hp->(List V->Hp->Prop)->Prop
structure Ends where
 nx:St->Hp->Prop
 rt:VK
 bk:St->Hp->Prop:=λ_ _=>False
 ct:St->Hp->Prop:=λ_ _=>False
abbrev TS:=Ends->St->Hp->Prop
def EP(X:Cx)(pins:List (Addr×Obj))(σ:St)(Q:VK)(u:Value)(s':Shared):Prop:=∃v H',Inv X pins σ H' s'/\RelV v u/\Q v H'
def TP(X:Cx)(pins:List (Addr×Obj))(σ:St)(Q:Bool->Hp->Prop)(b:Bool)(s':Shared):Prop:=∃H',Inv X pins σ H' s'/\Q b H'
def AP(X:Cx)(pins:List (Addr×Obj))(σ:St)(Q:List V->Hp->Prop)(us:List Value)(s':Shared):Prop:=∃vs H',Inv X pins σ H' s'/\Vals vs us/\Q vs H'
def SP(X:Cx)(pins:List (Addr×Obj))(D:Ends)(f:Flow)(s':Shared):Prop:=
 match f with
 | .next=>∃σ' H',Inv X pins σ' H' s'/\D.nx σ' H'
 | .brk=>∃σ' H',Inv X pins σ' H' s'/\D.bk σ' H'
 | .cont=>∃σ' H',Inv X pins σ' H' s'/\D.ct σ' H'
 | .ret u=>∃v σ' H',Inv X pins σ' H' s'/\RelV v u/\D.rt v H'
def PE(X:Cx)(e:Expr)(t:TE):Prop:=
 ∀(pins:List (Addr×Obj)) (s:Shared) (σ:St) (H:Hp) (Q:VK),Inv X pins σ H s->t σ H Q->wpAny (model X.prog X.w) X.A (eval e X.env) (EP X pins σ Q) X.xe s
def PT(X:Cx)(e:Expr)(t:TT):Prop:=
 ∀(pins:List (Addr×Obj)) (s:Shared) (σ:St) (H:Hp) (Q:Bool->Hp->Prop),Inv X pins σ H s->t σ H Q->wpAny (model X.prog X.w) X.A (isTrue e X.env (eval e X.env)) (TP X pins σ Q) X.xe s
def PW(X:Cx)(e:Expr)(t:TT):Prop:=
 ∀(whole:Sem Value) (pins:List (Addr×Obj)) (s:Shared) (σ:St) (H:Hp) (Q:Bool->Hp->Prop),Inv X pins σ H s->t σ H Q->wpAny (model X.prog X.w) X.A (isTrue e X.env whole) (TP X pins σ Q) X.xe s
theorem PW.pt(h:PW X e t):PT X e t:=h _
def PA(X:Cx)(es:List Expr)(t:TA):Prop:=
 ∀(pos:Pos) (pins:List (Addr×Obj)) (s:Shared) (σ:St) (H:Hp) (Q:List V->Hp->Prop),Inv X pins σ H s->t σ H Q->wpAny (model X.prog X.w) X.A (spliced (backTo pos (starEach es X.env))) (AP X pins σ Q) X.xe s
def PS(X:Cx)(st:Stmt)(t:TS):Prop:=
 ∀(pins:List (Addr×Obj)) (s:Shared) (σ:St) (H:Hp) (D:Ends),Inv X pins σ H s->t D σ H->wpAny (model X.prog X.w) X.A (exec st X.env) (SP X pins D) X.xe s
def PSs(X:Cx)(st:List Stmt)(t:TS):Prop:=
 ∀(pins:List (Addr×Obj)) (s:Shared) (σ:St) (H:Hp) (D:Ends),Inv X pins σ H s->t D σ H->wpAny (model X.prog X.w) X.A (execs st X.env) (SP X pins D) X.xe s
theorem thn(h:wpAny M A t Q E s)(hQ:∀a s,Q a s->Q' a s):wpAny M A t Q' E s:=QzF h hQ λ_ _ x=>x
end L2
namespace L2
open PySem PySem.Spec PyProof.Rows
section
variable{X:Cx}
def zhM(i:Nat):TE:=λσ H Q=>∃v,σ[i]? = some (some v)/\Q v H
def tC(v:V):TE:=λ_ H Q=>Q v H
theorem zpY(hN:X.N[i]? = some x)(hv:Vis X.env.scope x)(hd:(x==("__debug__":Str))=false:=by decide)(hcd:(x==("__classdict__":Str))=false:=by decide):PE X (.Name x pos) (zhM i):=by
 intro pins s σ H Q I h;obtain⟨v,e,h⟩:=h;obtain⟨m,hn,hl⟩:=I.loc;obtain⟨u,r,l⟩:=hl i x v hN e hv;have fin:EP X pins σ Q u s:=⟨v,H,I,r,h⟩
 rcases l with⟨hk,hm⟩|⟨hk,c,hc,hcell⟩
 . exact wpAny_Name (wpAny_loadName_local I.ok.kind hk hn hm fin) hd
 . rcases hk with hk|hk
   . exact wpAny_Name (wpAny_loadName_cell I.ok.kind hk hc hcell fin) hd
   . exact wpAny_Name (wpAny_loadName_free I.ok.kind hk hc hcell fin hcd) hd
theorem zmS:PE X (.Constant (.int i) j pos) (tC (.int i)):=λ_ _ _ H _ I h=>wpAny_Constant_int ⟨.int i,H,I.tok _,⟨_,rfl⟩,h⟩
theorem zxl:PE X (.Constant (.bool b) j pos) (tC (.bl b)):=λ_ _ _ H _ I h=>Constant_bool ⟨.bl b,H,I,rfl,h⟩
theorem zuV:PE X (.Constant .none j pos) (tC .non):=λ_ _ _ H _ I h=>Constant_none ⟨.non,H,I,rfl,h⟩
theorem zwe:PE X (.Constant (.str x) j pos) (tC (.str x)):=λ_ _ _ H _ I h=>Calls.Constant_str ⟨.str x,H,I.tok _,⟨_,rfl⟩,h⟩
def Gl(X:Cx)(x:Str):Prop:=X.env.kindOf x=some .globalImplicit
theorem znB(I:Inv X pins σ H s)(hg:Gl X x)(hm:X.mg x=some u)(h:Q u s)
 (hd:(x==("__debug__":Str))=false:=by decide):wpAny (model X.prog X.w) X.A (eval (.Name x pos) X.env) Q E s:=
 Calls.Name_function_global I.ok.kind hg (Calls.loadGlobal_global (by rw[I.ok.glob];exact I.mod.glob.keeps I.bk) hm h) hd
theorem zcx(I:Inv X pins σ H s)(hg:Gl X x)(hm:X.mg x=none)(hv:bootBuiltins x=some u)(h:Q u s)
 (hn:x≠"__name__":=by decide) (hd:(x==("__debug__":Str))=false:=by decide):wpAny (model X.prog X.w) X.A (eval (.Name x pos) X.env) Q E s:=by
 obtain⟨mb,h1,h2⟩:=I.mod.blt;exact Calls.Name_function_global I.ok.kind hg (Calls.loadGlobal_builtin (by rw[I.ok.glob];exact I.mod.glob.keeps I.bk) hm (by rw[I.ok.blt];exact h1.keeps I.bk) ((h2 x hn).trans hv) h) hd
theorem zsy(hg:Gl X x)(hm:X.mg x=some u)(r:RelV v u)(hd:(x==("__debug__":Str))=false:=by decide):PE X (.Name x pos) (tC v):=
 λ_ _ _ H _ I h=>znB I hg hm ⟨v,H,I,r,h⟩ hd
theorem ztO(hg:Gl X x)(hm:X.mg x=none)(hv:bootBuiltins x=some u)(r:RelV v u)(hn:x≠"__name__":=by decide)(hd:(x==("__debug__":Str))=false:=by decide):PE X (.Name x pos) (tC v):=
 λ_ _ _ H _ I h=>zcx I hg hm hv ⟨v,H,I,r,h⟩ hn hd
variable{a b:Expr}{ta tb:TE}{pos:Pos}
variable{tA tB':TT}{rest:List Expr}
def zxL(t u:TT):TT:=λσ H Q=>t σ H λc H1=>if c=true then u σ H1 Q else Q false H1
def tOr(t u:TT):TT:=λσ H Q=>t σ H λc H1=>if c=true then Q true H1 else u σ H1 Q
def zxT(t:TT):TT:=λσ H Q=>t σ H λc H1=>Q (!c) H1
theorem ztB(ha:PT X a tA):PW X (.BoolOp .And [a] pos) tA:=by
 intro wh pins s σ H Q I h;refine isTrue_and (thn (ha pins s σ H Q I h) λc s1 e=>?_);cases c with
 |true=>exact isTrue_and_nil e
 |false=>exact e
theorem zvD(ha:PT X a tA):PW X (.BoolOp .Or [a] pos) tA:=by
 intro wh pins s σ H Q I h;refine isTrue_or (thn (ha pins s σ H Q I h) λc s1 e=>?_);cases c with
 |false=>exact isTrue_or_nil e
 |true=>exact e
theorem zvF(ha:PT X a tA)(hb:PW X (.BoolOp .And (b::rest) pos) tB'):PW X (.BoolOp .And (a::b::rest) pos) (zxL tA tB'):=by
 intro wh pins s σ H Q I h;refine isTrue_and (thn (ha pins s σ H _ I h) λc s1 ⟨H1,I1,q1⟩=>?_);cases c with
 |true=>exact hb wh pins s1 σ H1 Q I1 q1
 |false=>exact⟨H1,I1,q1⟩
theorem zwY(ha:PT X a tA)(hb:PW X (.BoolOp .Or (b::rest) pos) tB'):PW X (.BoolOp .Or (a::b::rest) pos) (tOr tA tB'):=by
 intro wh pins s σ H Q I h;refine isTrue_or (thn (ha pins s σ H _ I h) λc s1 ⟨H1,I1,q1⟩=>?_);cases c with
 |true=>exact⟨H1,I1,q1⟩
 |false=>exact hb wh pins s1 σ H1 Q I1 q1
theorem zuF(ha:PT X a tA):PT X (.UnaryOp .Not a pos) (zxT tA):=by
 intro pins s σ H Q I h;exact isTrue_not (ha pins s σ H (λc H1=>Q (!c) H1) I h)
def zxi(ta tb:TE):TE:=λσ H Q=>ta σ H λx H1=>∃c,x = .bl c/\if c=true then tb σ H1 Q else Q (.bl false) H1
def zym(ta tb:TE):TE:=λσ H Q=>ta σ H λx H1=>∃c,x = .bl c/\if c=true then Q (.bl true) H1 else tb σ H1 Q
theorem zvl(h:PE X a t):PE X (.BoolOp op [a] pos) t:=λpins s σ H Q I hw=>BoolOp_one (h pins s σ H Q I hw)
theorem zwl(ha:PE X a ta)(hb:PE X (.BoolOp .And (b::rest) pos) tb):PE X (.BoolOp .And (a::b::rest) pos) (zxi ta tb):=by
 intro pins s σ H Q I h;refine BoolOp_and (thn (ha pins s σ H _ I h) λv s1 ⟨x,H1,I1,r1,q1⟩=>?_);obtain⟨c,rfl,q1⟩:=q1;cases r1;refine wpAny_truthy_bool ?_;cases c with
 |true=>exact hb pins s1 σ H1 Q I1 q1
 |false=>exact⟨.bl false,H1,I1,rfl,q1⟩
theorem zwO(ha:PE X a ta)(hb:PE X (.BoolOp .Or (b::rest) pos) tb):PE X (.BoolOp .Or (a::b::rest) pos) (zym ta tb):=by
 intro pins s σ H Q I h;refine BoolOp_or (thn (ha pins s σ H _ I h) λv s1 ⟨x,H1,I1,r1,q1⟩=>?_);obtain⟨c,rfl,q1⟩:=q1;cases r1;refine wpAny_truthy_bool ?_;cases c with
 |false=>exact hb pins s1 σ H1 Q I1 q1
 |true=>exact⟨.bl true,H1,I1,rfl,q1⟩
def tIf(t:TT)(ta tb:TE):TE:=λσ H Q=>t σ H λc H1=>if c=true then ta σ H1 Q else tb σ H1 Q
theorem zqN(hc:PT X c tA)(ha:PE X a ta)(hb:PE X b tb):PE X (.IfExp c a b pos) (tIf tA ta tb):=by
 intro pins s σ H Q I h;refine wpAny_IfExp (thn (hc pins s σ H _ I h) λd s1 ⟨H1,I1,q1⟩=>?_);cases d with
 |true=>exact ha pins s1 σ H1 Q I1 q1
 |false=>exact hb pins s1 σ H1 Q I1 q1
end
end L2
namespace L2
open PySem PySem.Spec PyProof.Rows
def SqL(K:zC)(H:Hp)(a:Addr)(xs:List V):Prop:=
 Rd H a (.lst xs) \/
  ∃(o:Obj) (its:Array Value) (n:Nat),K.lookup a=some o/\o.cls = .type "list"/\o.dict=none/\o.data = .seq its n/\its.size<=sizeLine/\Vals xs its.toList
def RdL(K:zC)(H:Hp)(a:Addr)(xs:List V):Prop:=
 Rd H a (.lst xs)\/∃(its:Array Value) (n:Nat),K.lookup a=some {cls:=.type "list",data:=.seq its n}/\its.size<=sizeLine/\Vals xs its.toList
def SqT(K:zC)(H:Hp)(a:Addr)(xs:List V):Prop:=
 Rd H a (.tup xs) \/
  ∃(o:Obj) (its:Array Value) (n:Nat),K.lookup a=some o/\o.cls = .type "tuple"/\o.data = .seq its n/\its.size<=sizeLine/\Vals xs its.toList
def zye:Value->Option V
 | .none=>some .non
 | .bool b=>some (.bl b)
 | .int i _=>some (.int i)
 | .str x _=>some (.str x)
 | .bytes b _=>some (.byt b)
 | .float b _=>some (.flt b)
 | .ref a=>some (.ref a)
 | .type n=>some (.ty n)
 |_=>none
theorem RelV.abs(r:RelV x u):zye u=some x:=by
 cases x with
 |non=>cases r;rfl
 |bl _=>cases r;rfl
 |int _=>obtain⟨t,rfl⟩:=r;rfl
 |str _=>obtain⟨t,rfl⟩:=r;rfl
 |byt _=>obtain⟨t,rfl⟩:=r;rfl
 |flt _=>obtain⟨t,rfl⟩:=r;rfl
 |ref _=>cases r;rfl
 |ty _=>cases r;rfl
theorem RelV.inj(r:RelV x u)(q:RelV y u):x=y:=zzT (r.abs.symm.trans q.abs)
theorem Vals.inj:∀{xs ys:List V}{us:List Value},Vals xs us->Vals ys us->xs=ys
 |_,_,_,.nil,.nil=>rfl
 |_,_,_,.cons r t,.cons r' t'=>by rw[r.inj r',Vals.inj t t']
section
variable{X:Cx}{pins:List (Addr×Obj)}{σ:St}{H:Hp}{s:Shared}{a:Addr}{xs ys:List V}
theorem Inv.list(I:Inv X pins σ H s)(h:SqL X.K H a xs):∃its:List Value,Vals xs its/\PlainL s.heap a its.toArray/\xs.length<=sizeLine:=by
 rcases h with h|⟨o,its,n,hk,hc,hd,hs,hz,r⟩
 . obtain⟨z,its,n,r,e⟩:=h.ok I.hok;exact⟨its,r,⟨_,n,e,rfl,rfl,rfl⟩,z⟩
 . refine⟨its.toList,r,⟨o,n,I.kIn a o hk,hc,hd,by simpa using hs⟩, ?_⟩;have e:=r.length;simp only[zyN]at e;omega
theorem Inv.tuple(I:Inv X pins σ H s)(h:SqT X.K H a xs):∃its:List Value,Vals xs its/\IsTup s.heap a its.toArray/\xs.length<=sizeLine:=by
 rcases h with h|⟨o,its,n,hk,hc,hs,hz,r⟩
 . obtain⟨z,its,r,p⟩:=h.ok I.hok;exact⟨its,r,p,z⟩
 . refine⟨its.toList,r,⟨o,I.kIn a o hk,hc,n,by simpa using hs⟩, ?_⟩;have e:=r.length;simp only[zyN]at e;omega
theorem Inv.list_inj(I:Inv X pins σ H s)(h:SqL X.K H a xs)(h':SqL X.K H a ys):xs=ys:=by
 obtain⟨its,r,⟨o,n,e,_,_,d⟩,_⟩:=I.list h;obtain⟨its',r',⟨o',n',e',_,_,d'⟩,_⟩:=I.list h';rw[e]at e';cases e';rw[d]at d';injection d' with d1 _
 have:its=its':=by simpa using congrArg Array.toList d1
 subst this;exact r.inj r'
theorem Inv.tuple_inj(I:Inv X pins σ H s)(h:SqT X.K H a xs)(h':SqT X.K H a ys):xs=ys:=by
 obtain⟨its,r,⟨o,e,_,n,d⟩,_⟩:=I.tuple h;obtain⟨its',r',⟨o',e',_,n',d'⟩,_⟩:=I.tuple h';rw[e]at e';cases e';rw[d]at d';injection d' with d1 _
 have:its=its':=by simpa using congrArg Array.toList d1
 subst this;exact r.inj r'
end
abbrev Cx.wish(X:Cx)(E:Value->Shared->Prop):Cx:={X with xe:=E}
abbrev Cx.nox(X:Cx):Cx:=X.wish λ_ _=>False
theorem Cx.Ok.wish{X:Cx}(ok:X.Ok)(E:Value->Shared->Prop):(X.wish E).Ok:=
 ⟨ok.mod,ok.kind,ok.glob,ok.blt,ok.above,ok.inj,ok.has,ok.cab,ok.hd,ok.frames,ok.stk,ok.exf,ok.bs,ok.bsz,ok.noex,ok.exfs,ok.funs,ok.frf⟩
theorem Cx.Ok.unwish{X:Cx}{E:Value->Shared->Prop}(ok:(X.wish E).Ok):X.Ok:=
 ⟨ok.mod,ok.kind,ok.glob,ok.blt,ok.above,ok.inj,ok.has,ok.cab,ok.hd,ok.frames,ok.stk,ok.exf,ok.bs,ok.bsz,ok.noex,ok.exfs,ok.funs,ok.frf⟩
section
variable{X:Cx}{pins:List (Addr×Obj)}{σ:St}{H:Hp}{s:Shared}{E:Value->Shared->Prop}
theorem Inv.wish(I:Inv X pins σ H s)(E:Value->Shared->Prop):Inv (X.wish E) pins σ H s:=⟨I.ok.wish E,I.os,I.bare,I.base,I.loc,I.cell,I.free,I.freeC,I.pin,I.hok,I.len⟩
theorem Inv.unwish(I:Inv (X.wish E) pins σ H s):Inv X pins σ H s:=⟨I.ok.unwish,I.os,I.bare,I.base,I.loc,I.cell,I.free,I.freeC,I.pin,I.hok,I.len⟩
theorem SP.unwish(h:SP (X.wish E) pins D f s'):SP X pins D f s':=by
 cases f with
 |next=>obtain⟨σ',H',I,q⟩:=h;exact⟨σ',H',I.unwish,q⟩
 |brk=>obtain⟨σ',H',I,q⟩:=h;exact⟨σ',H',I.unwish,q⟩
 |cont=>obtain⟨σ',H',I,q⟩:=h;exact⟨σ',H',I.unwish,q⟩
 |ret u=>obtain⟨v,σ',H',I,r,q⟩:=h;exact⟨v,σ',H',I.unwish,r,q⟩
theorem PSs.nox{st:List Stmt}{t:TS}(h:PSs X.nox st t):PSs X st t:=λpins s σ H D I hw=>
 QzF (h pins s σ H D (I.wish _) hw) (λ_ _ q=>q.unwish) λ_ _ z=>False.elim z
end
section
variable{X:Cx}{st:Stmt}{rest:List Stmt}{t u:TS}{e:Expr}{te:TE}{pos:Pos}
def zwD:TS:=λD σ H=>D.nx σ H
def zxK(t u:TS):TS:=λD σ H=>t {D with nx:=u D} σ H
theorem zsw:PSs X [] zwD:=λ_ _ σ H _ I h=>wpAny_execs_nil ⟨σ,H,I,h⟩
theorem zqj(h1:PS X st t)(h2:PSs X rest u):PSs X (st::rest) (zxK t u):=by
 intro pins s σ H D I h;refine wpAny_execs_cons (thn (h1 pins s σ H {D with nx:=u D} I h) λf s1 q=>?_);cases f with
 |next=>
  obtain⟨σ',H',I',q⟩:=q;exact h2 pins s1 σ' H' D I' q
 |ret v=>exact q
 |brk=>exact q
 |cont=>exact q
theorem zsb(h1:PS X st t):PSs X [st] t:=by
 intro pins s σ H D I h;refine wpAny_execs_cons (thn (h1 pins s σ H D I h) λf s1 q=>?_);cases f with
 |next=>exact wpAny_execs_nil q
 |ret v=>exact q
 |brk=>exact q
 |cont=>exact q
def zwn:TS:=λD σ H=>D.bk σ H
theorem zqn:PS X (.Break pos) zwn:=λ_ _ σ H _ I h=>wpAny_Break ⟨σ,H,I,h⟩
theorem Inv.quiet(I:Inv X pins σ H s):interactive X.env=false:=by simp[interactive,I.ok.kind]
def zxk(te:TE):TS:=λD σ H=>te σ H λ_ H1=>D.nx σ H1
theorem zti(he:PE X e te)(hs:swapsWith e none pos.line X.env=pure false:=by rfl):PS X (.Expr e pos) (zxk te):=by
 intro pins s σ H D I h;exact wpAny_Expr_any (thn (he pins s σ H _ I h) λv s1 ⟨x,H1,I1,r1,q1⟩=>⟨σ,H1,I1,q1⟩) I.quiet hs
def zyo(te:TE):TS:=λD σ H=>te σ H D.rt
theorem zvP(he:PE X e te):PS X (.Return (some e) pos) (zyo te):=by
 intro pins s σ H D I h;exact wpAny_Return_some (thn (he pins s σ H _ I h) λv s1 ⟨x,H1,I1,r1,q1⟩=>⟨x,σ,H1,I1,r1,q1⟩)
def zxI(c:TT)(t u:TS):TS:=λD σ H=>c σ H λb H1=>if b=true then t D σ H1 else u D σ H1
theorem zwU(hc:PT X c tc)(ha:PSs X a t)(hb:PSs X b u):PS X (.If c a b pos) (zxI tc t u):=by
 intro pins s σ H D I h;refine wpAny_If (thn (hc pins s σ H _ I h) λd s1 ⟨H1,I1,q1⟩=>?_);cases d with
 |true=>exact ha pins s1 σ H1 D I1 q1
 |false=>exact hb pins s1 σ H1 D I1 q1
end
abbrev TG:=V->St->Hp->(St->Hp->Prop)->Prop
abbrev TGs:=List V->St->Hp->(St->Hp->Prop)->Prop
def PG(X:Cx)(target:Expr)(t:TG):Prop:=
 ∀(pins:List (Addr×Obj)) (s:Shared) (σ:St) (H:Hp) (v:V) (u:Value) (Q:St->Hp->Prop),Inv X pins σ H s->RelV v u->t v σ H Q->
  wpAny (model X.prog X.w) X.A (assign target X.env u) (λ_ s'=>∃σ' H',Inv X pins σ' H' s'/\Q σ' H') X.xe s
def PGs(X:Cx)(ts:List Expr)(t:TGs):Prop:=
 ∀(pins:List (Addr×Obj)) (s:Shared) (σ:St) (H:Hp) (vs:List V) (us:List Value) (Q:St->Hp->Prop),Inv X pins σ H s->Vals vs us->t vs σ H Q->
  wpAny (model X.prog X.w) X.A (assignInOrder ((assignEach ts X.env).map (·.2)) us) (λ_ s'=>∃σ' H',Inv X pins σ' H' s'/\Q σ' H') X.xe s
abbrev zww:=V->V->V->Hp->(Hp->Prop)->Prop
def zxu(X:Cx)(t:zww):Prop:=
 ∀(pins:List (Addr×Obj)) (s:Shared) (σ:St) (H:Hp) (o i v:V) (ov iv u:Value) (Q:Hp->Prop),Inv X pins σ H s->RelV o ov->RelV i iv->RelV v u->t o i v H Q->
  wpAny (model X.prog X.w) X.A (setItem ov iv u) (λ_ s'=>∃H',Inv X pins σ H' s'/\Q H') X.xe s
section
variable{X:Cx}{pos:Pos}
def zdA(i:Nat):TG:=λv σ H Q=>Q (σ.set i (some v)) H
theorem zoz(hN:X.N.Nodup)(hi:X.N[i]? = some x)(hx:Loc X.env.scope x)(hf:X.fn x=true\/X.env.scope.names.lookup x=some .local:=by first|exact .inl rfl|exact .inr rfl|assumption):PG X (.Name x pos) (zdA i):=by
 intro pins s σ H v u Q I r h;exact wpAny_assign_Name (zlv I hN hi hx r (λs' I'=>⟨_,H,I',h⟩) hf)
def zxR:TGs:=λvs σ H Q=>vs=[]/\Q σ H
def zwS(t:TG)(u:TGs):TGs:=λvs σ H Q=>∃v r,vs=v::r/\t v σ H λσ' H'=>u r σ' H' Q
theorem zsr:PGs X [] zxR:=by
 intro pins s σ H vs us Q I r h;obtain⟨e,h⟩:=h;subst e;cases r;exact assignInOrder_nil ⟨σ,H,I,h⟩
theorem zrP(h1:PG X e t)(h2:PGs X es u)
 (hs:(assignEach (e::es) X.env).map (·.2)=assign e X.env::(assignEach es X.env).map (·.2):=by rfl):PGs X (e::es) (zwS t u):=by
 intro pins s σ H vs us Q I r h;obtain⟨v,vr,e1,h⟩:=h;subst e1;cases r with
 |cons r rr=>
  rw[hs];refine assignInOrder_cons (thn (h1 pins s σ H _ _ _ I r h) λ_ s1 ⟨σ1,H1,I1,q1⟩=>?_);exact h2 pins s1 σ1 H1 _ _ Q I1 rr q1
def zxN(K:zC)(n:Nat)(t:TGs):TG:=λv σ H Q=>∃a xs,v = .ref a/\SqT K H a xs/\xs.length=n/\t xs σ H Q
theorem zvB(hc:X.calm=true)(h:PGs X es t)
 (hn:(assignEach es X.env).length=n:=by rfl) (hst:(assignEach es X.env).findIdx? (·.1)=none:=by rfl):PG X (.Tuple es k pos) (zxN X.K n t):=by
 intro pins s σ H v u Q I r hw;obtain⟨a,xs,e1,hq,hl,hw⟩:=hw;subst e1;cases r;obtain⟨its,rv,ht,hz⟩:=I.tuple hq;refine assign_Tuple_tuple (I.ok.hd hc) ht (by simp[hn,<-hl,rv.length]) hst λh' hx=>?_;have I1:Inv X pins σ H {s with heap:=h'}:=I.kept (t':=s.toks) λb o e=>hx b o (zzM (QzA e)) e;exact h pins _ σ H xs _ Q I1 (by simpa using rv) hw
def zyh(to ti:TE)(t:zww):TG:=λv σ H Q=>to σ H λo H1=>ti σ H1 λi H2=>t o i v H2 λH3=>Q σ H3
theorem zwb(ho:PE X o to)(hi:PE X i ti)(hs:zxu X t)
 (ha:∀v,assign (.Subscript o i pos) X.env v=(do
  let ov <-holding [v] (eval o X.env);let iv <-holding [v,ov] (eval i X.env)
  standAt pos
  holding [v,ov,iv] (setItem ov iv v)
  release [v,ov,iv] []):=by intro _;rfl):PG X (.Subscript o i pos) (zyh to ti t):=by
 intro pins s σ H v u Q I r h;rw[ha];refine zyX (QzD (thn (ho pins s σ H _ I h) λov s1 ⟨x,H1,I1,r1,q1⟩=>?_));refine zyX (QzD (thn (hi pins s1 σ H1 _ I1 q1) λiv s2 ⟨y,H2,I2,r2,q2⟩=>?_));refine zyX (wpAny_standAt (zyX (QzD (thn (hs pins s2 σ H2 x y v ov iv u _ I2 r1 r2 r q2) λ_ s3 ⟨H3,I3,q3⟩=>?_))));exact wpAny_release ⟨σ,H3,I3,q3⟩
def zvA(te:TE)(g:TG):TS:=λD σ H=>te σ H λx H1=>g x σ H1 D.nx
theorem zpS(he:PE X e te)(hg:PG X tg g)(hs:swapsWithSole [tg] e pos.line X.env=pure false:=by rfl)(hw:swappedStores [tg] e X.env=pure none:=by rfl)
 (h1:(assignEach [tg] X.env).map (·.2)=[assign tg X.env]:=by rfl):PS X (.Assign [tg] e pos) (zvA te g):=by
 intro pins s σ H D I h;refine wpAny_Assign_stores (thn (he pins s σ H _ I h) λv s1 ⟨x,H1,I1,r1,q1⟩=>?_) hs hw;rw[h1];exact thn (hg pins s1 σ H1 x v _ I1 r1 q1) λ_ s2 q=>q
theorem zvE(hN:X.N.Nodup)(hi:X.N[i]? = some x)(hx:Loc X.env.scope x)(he:PE X e te)(hs:swapsWith e (some (.Name x pos')) pos.line X.env=pure false:=by rfl)(hf:X.fn x=true\/X.env.scope.names.lookup x=some .local:=by first|exact .inl rfl|exact .inr rfl|assumption):
 PS X (.Assign [.Name x pos'] e pos) (zvA te (zdA i)):=by
 intro pins s σ H D I h;refine wpAny_Assign_Name (thn (he pins s σ H _ I h) λv s1 ⟨y,H1,I1,r1,q1⟩=>?_) hs;exact zlv I1 hN hi hx r1 (λs2 I2=>⟨_,H1,I2,q1⟩) hf
end
structure It where
 go:Nat->Hp->Prop
 yld:Nat->Hp->V->Hp->Prop
 stop:Nat->Hp->Prop
def zfy(X:Cx)(pins:List (Addr×Obj))(H:Hp)(b:Addr):Prop:=
 H b=none/\b≠X.env.locals/\b ∉ X.fs/\(b ∈ X.ex\/X.s₀.heap.objs.size<=b)/\(∀x c,X.env.cells.lookup x=some c->c≠b)/\∀p ∈ X.pn++pins,p.1≠b
theorem Inv.fpOk(I:Inv X pins σ H s)(hb:s.heap.objs.size<=b)(hn:H' b=none):zfy X pins H' b:=by
 refine⟨hn,Nat.ne_of_gt (zzG I.lt hb),I.nofs hb,.inr (zzK I.sz hb),λx c e z=>?_,λp hp z=>?_⟩
 . obtain⟨v,q⟩:=I.cell x c e;exact absurd (zzG q.lt (by rw[z];exact hb)) (Nat.lt_irrefl _)
 . exact absurd (zzG (QzA (I.pin p hp).1) (by rw[z];exact hb)) (Nat.lt_irrefl _)
structure Turn(P:Program)(w:World)(K:zC)(tg:Expr)(J:It)(fp:List Addr)(it:Addr)(tn:Nat->Heap->Prop):Prop where
 mem:it ∈ fp
 obj:∀i h,tn i h->∀b ∈ fp,∃o,h.get? b=some o/\∀v,o.data ≠ .cell v
 keep:∀i h h',tn i h->(∀b ∈ fp,∀o,h.get? b=some o->h'.get? b=some o)->tn i h'
 item:∀(X:Cx),X.prog=P->X.w=w->X.K=K->X.calm=true->∀(i:Nat) (pins:List (Addr×Obj)) (s:Shared) (σ:St) (H:Hp) (E:Value->Shared->Prop),Inv X pins σ H s->(∀b ∈ fp,zfy X pins H b)->tn i s.heap->J.go i H->
  wpAny (model P w) X.A (pyNext (.ref it)) (λr s1=>∃u,r=some u/\
   wpAny (model P w) X.A (letOwnedTupleGo tg (.ref it) u) (λ_ s2=>∃x H',Inv X pins σ H' s2/\RelV x u/\J.yld i H x H'/\tn (i+1) s2.heap/\∀b ∈ fp,H' b=none) E s1) E s
 done:∀(X:Cx),X.prog=P->X.w=w->X.K=K->X.calm=true->∀(i:Nat) (pins:List (Addr×Obj)) (s:Shared) (σ:St) (H:Hp) (E:Value->Shared->Prop),Inv X pins σ H s->(∀b ∈ fp,zfy X pins H b)->tn i s.heap->J.stop i H->
  wpAny (model P w) X.A (pyNext (.ref it)) (λr s1=>r=none/\Inv X pins σ H s1) E s
 self:∀(A:Around) (i:Nat) (s:Shared) (Q:Value->Shared->Prop) (E:Value->Shared->Prop),tn i s.heap->Q (.ref it) s->wpAny (model P w) A (pyIter (.ref it)) Q E s
abbrev TI:=St->Hp->(It->Hp->Prop)->Prop
def PIE(X:Cx)(pins:List (Addr×Obj))(σ:St)(tg:Expr)(R:It->Hp->Prop)(itv:Value)(s2:Shared):Prop:=
 ∃(it:Addr) (fp:List Addr) (tn:Nat->Heap->Prop) (J:It) (H':Hp),itv = .ref it/\Inv X pins σ H' s2/\Turn X.prog X.w X.K tg J fp it tn/\tn 0 s2.heap/\(∀b ∈ fp,zfy X pins H' b)/\R J H'
def PI(X:Cx)(tg iter:Expr)(wi:TI):Prop:=
 ∀(pins:List (Addr×Obj)) (s:Shared) (σ:St) (H:Hp) (R:It->Hp->Prop),Inv X pins σ H s->wi σ H R->
  wpAny (model X.prog X.w) X.A (eval iter X.env) (λv s1=>wpAny (model X.prog X.w) X.A (pyIter v) (PIE X pins σ tg R) X.xe s1) X.xe s
theorem zmo(ho:s.heap.get? it=some o)(hc:o.cls = .type n)(hd:o.data = .fields vs)
 (hn : ["enumerate","zip","dict_itemiterator","dict_reverseitemiterator","odict_iterator","itertools.zip_longest","itertools.pairwise"].contains n=false) (hQ:Q () s):wpAny M A (letOwnedTupleGo tg (.ref it) u) Q E s:=by
 unfold letOwnedTupleGo;cases tg<;>first
  |exact zyY hQ
  |(cases u<;>first
   |exact zyY hQ
   | (refine zyX (wpAny_load ho ?_)
      rw[hc,hd];show wpAny M A (if(["enumerate","zip","dict_itemiterator","dict_reverseitemiterator","odict_iterator","itertools.zip_longest","itertools.pairwise"].contains n&&vs[0]? == some (rawInt _))=true then _ else _) Q E s;rw[if_neg (by intro h;rw[hn,Bool.false_and]at h;cases h)];exact zyY hQ))
def Itl(K:zC)(a:Addr):It:=
 ⟨λi H=>∃xs x,SqL K H a xs/\xs[i]? = some x,λi H x H'=>H'=H/\∀xs,SqL K H a xs->xs[i]? = some x,λi H=>∃xs,SqL K H a xs/\xs.length<=i⟩
def Itt(K:zC)(a:Addr):It:=
 ⟨λi H=>∃xs x,SqT K H a xs/\xs[i]? = some x,λi H x H'=>H'=H/\∀xs,SqT K H a xs->xs[i]? = some x,λi H=>∃xs,SqT K H a xs/\xs.length<=i⟩
def Itr(lo:Int)(n:Nat):It:=⟨λi _=>i<n,λi H x H'=>H'=H/\x = .int (lo+i),λi _=>n<=i⟩
theorem zoG{P:Program}{w:World}{K:zC}{tg:Expr}(a it:Addr):Turn P w K tg (Itl K a) [it] it (λi h=>h.IsListIter it a i)where
 mem:=by simp
 obj:=λi h st b hb=>by
  have e:b=it:=by simpa using hb
  subst e;obtain⟨o,e,c,d⟩:=st;exact⟨o,e,λv z=>by rw[d]at z;cases z⟩
 keep:=λi h h' st k=>st.at λo e=>k it (by simp) o e
 item:=by
  intro X hP hw hK hc i pins s σ H E I hf st hg;subst hP hw hK;obtain⟨xs,x,hq,hx⟩:=hg;obtain⟨its,rv,p,hz⟩:=I.list hq;obtain⟨u,hu,ru⟩:=rv.get hx;obtain⟨f0,f1,f2,f3,f4,f5⟩:=hf it (by simp);refine wpAny_pyNext_list_item st p.isList (x:=u) (by simpa using hu) λh' st' sb=>?_;have I1:Inv X pins σ H {s with heap:=h'}:=I.turned (t':=s.toks) (λb o hb e=>(sb.2 b hb).trans e) f0 f1 f3 f4 f5;obtain⟨o,e,c,d⟩:=id st';exact⟨u,rfl,zmo (s:={s with heap:=h'}) e c d (by decide) ⟨x,H,I1,ru,⟨rfl,λys hy=>by rw[I.list_inj hy hq];exact hx⟩,st',λb hb=>(hf b hb).1⟩⟩
 done:=by
  intro X hP hw hK hc i pins s σ H E I hf st hg;subst hP hw hK;obtain⟨xs,hq,hx⟩:=hg;obtain⟨its,rv,p,hz⟩:=I.list hq;obtain⟨f0,f1,f2,f3,f4,f5⟩:=hf it (by simp);have hl:=rv.length;exact wpAny_pyNext_list_end (I.ok.hd hc) st p.isList (by simp;omega) λh' eb=>⟨rfl,I.turned (t':=s.toks) (λb o hb e=>eb b o hb e) f0 f1 f3 f4 f5⟩
 self:=λ_ _ _ _ _ st h=>wpAny_pyIter_listiter st h
theorem zmO{P:Program}{w:World}{K:zC}{tg:Expr}(a it:Addr):Turn P w K tg (Itt K a) [it] it (λi h=>h.IsTupleIter it a i)where
 mem:=by simp
 obj:=λi h st b hb=>by
  have e:b=it:=by simpa using hb
  subst e;obtain⟨o,e,c,d⟩:=st;exact⟨o,e,λv z=>by rw[d]at z;cases z⟩
 keep:=λi h h' st k=>st.at λo e=>k it (by simp) o e
 item:=by
  intro X hP hw hK hc i pins s σ H E I hf st hg;subst hP hw hK;obtain⟨xs,x,hq,hx⟩:=hg;obtain⟨its,rv,p,hz⟩:=I.tuple hq;obtain⟨u,hu,ru⟩:=rv.get hx;obtain⟨f0,f1,f2,f3,f4,f5⟩:=hf it (by simp);refine wpAny_pyNext_tuple_item st (show s.heap.IsTuple a its.toArray from p) (x:=u) (by simpa using hu) λh' st' sb=>?_;have I1:Inv X pins σ H {s with heap:=h'}:=I.turned (t':=s.toks) (λb o hb e=>(sb.2 b hb).trans e) f0 f1 f3 f4 f5;obtain⟨o,e,c,d⟩:=id st';exact⟨u,rfl,zmo (s:={s with heap:=h'}) e c d (by decide) ⟨x,H,I1,ru,⟨rfl,λys hy=>by rw[I.tuple_inj hy hq];exact hx⟩,st',λb hb=>(hf b hb).1⟩⟩
 done:=by
  intro X hP hw hK hc i pins s σ H E I hf st hg;subst hP hw hK;obtain⟨xs,hq,hx⟩:=hg;obtain⟨its,rv,p,hz⟩:=I.tuple hq;obtain⟨f0,f1,f2,f3,f4,f5⟩:=hf it (by simp);have hl:=rv.length;exact wpAny_pyNext_tuple_end (I.ok.hd hc) st (show s.heap.IsTuple a its.toArray from p) (by simp;omega) λh' eb=>⟨rfl,I.turned (t':=s.toks) (λb o hb e=>eb b o hb e) f0 f1 f3 f4 f5⟩
 self:=λ_ _ _ _ _ st h=>wpAny_pyIter_tupleiter st h
theorem zmH{P:Program}{w:World}{K:zC}{tg:Expr}(it:Addr)(lo:Int)(n:Nat):Turn P w K tg (Itr lo n) [it] it (λi h=>IsRangeIter h it (lo+(i:Nat)*1) ((n:Int)-(i:Nat)) 1)where
 mem:=by simp
 obj:=λi h st b hb=>by
  have e:b=it:=by simpa using hb
  subst e;exact⟨_,st,λv z=>by
   have z':Data.fields _=Data.cell v:=z;cases z'⟩
 keep:=λi h h' st k=>k it (by simp) _ st
 item:=by
  intro X hP hw hK hc i pins s σ H E I hf st hg;subst hP hw hK;obtain⟨f0,f1,f2,f3,f4,f5⟩:=hf it (by simp);have W:=Walks.range (prog:=X.prog) (w:=X.w) (I.ok.hd hc) it lo 1 n;refine W.item i s _ _ hg st λv h' tk hv st' kk=>?_;obtain⟨t,rfl⟩:=hv;have I1:Inv X pins σ H {s with heap:=h',toks:=tk}:=I.turned (λb o hb e=>kk b o (by simpa using hb) e) f0 f1 f3 f4 f5;refine⟨_,rfl,zmo (s:={s with heap:=h',toks:=tk}) (n:="range_iterator") st' rfl rfl (by decide) ⟨.int (lo+i),H,I1,⟨t, ?_⟩,⟨rfl,rfl⟩,st',λb hb=>(hf b hb).1⟩⟩;rw[Int.mul_one]
 done:=by
  intro X hP hw hK hc i pins s σ H E I hf st hg;subst hP hw hK;obtain⟨f0,f1,f2,f3,f4,f5⟩:=hf it (by simp);exact wpAny_pyNext_range_end (I.ok.hd hc) st (by have:n<=i:=hg;omega) λh' eb=>⟨rfl,I.turned (t':=s.toks) (λb o hb e=>eb b o hb e) f0 f1 f3 f4 f5⟩
 self:=λ_ _ _ _ _ st h=>wpAny_pyIter_rangeiter st h
end L2
namespace L2
open PySem PySem.Spec PyProof.Rows
section
variable{X:Cx}{tg:Expr}
def zxa(K:zC)(tl:TE):TI:=λσ H R=>tl σ H λx H1=>∃a,x = .ref a/\(∃xs,SqL K H1 a xs)/\R (Itl K a) H1
def zxG(K:zC)(tl:TE):TI:=λσ H R=>tl σ H λx H1=>∃a,x = .ref a/\(∃xs,SqT K H1 a xs)/\R (Itt K a) H1
theorem zjt{l:Expr}{tl:TE}(hl:PE X l tl):PI X tg l (zxa X.K tl):=by
 intro pins s σ H R I h;refine thn (hl pins s σ H _ I h) λv s1 ⟨x,H1,I1,r1,q1⟩=>?_;obtain⟨a,e,⟨xs,hq⟩,q⟩:=q1;subst e;cases r1;obtain⟨its,rv,p,hz⟩:=I1.list hq;refine wpAny_pyIter_list p.isList ?_;refine⟨s1.heap.objs.size,[s1.heap.objs.size],_,_,H1,rfl,I1.kept (t':=s1.toks) λb o e=>zyZ _ e,zoG a _,⟨_,QzB _ rfl,rfl,rfl⟩,λb hb=>?_,q⟩;have e:b=s1.heap.objs.size:=by simpa using hb
 subst e;exact I1.fpOk (zzJ _) (I1.hok.fresh (zzJ _))
theorem zmY{l:Expr}{tl:TE}(hl:PE X l tl):PI X tg l (zxG X.K tl):=by
 intro pins s σ H R I h;refine thn (hl pins s σ H _ I h) λv s1 ⟨x,H1,I1,r1,q1⟩=>?_;obtain⟨a,e,⟨xs,hq⟩,q⟩:=q1;subst e;cases r1;obtain⟨its,rv,p,hz⟩:=I1.tuple hq;refine wpAny_pyIter_tuple (show s1.heap.IsTuple a its.toArray from p) ?_;refine⟨s1.heap.objs.size,[s1.heap.objs.size],_,_,H1,rfl,I1.kept (t':=s1.toks) λb o e=>zyZ _ e,zmO a _,⟨_,QzB _ rfl,rfl,rfl⟩,λb hb=>?_,q⟩;have e:b=s1.heap.objs.size:=by simpa using hb
 subst e;exact I1.fpOk (zzJ _) (I1.hok.fresh (zzJ _))
theorem zlV{pins:List (Addr×Obj)}{σ:St}{H:Hp}{s:Shared}{R:It->Hp->Prop}{E:Value->Shared->Prop}{lo hi:Int}{t u v:Tok}{tk:Nat}(I:Inv X pins σ H s)(h1 : -(2 ^ 62)<=lo)(h2:lo<2 ^ 62)(h3 : -(2 ^ 62)<=hi)(h4:hi<2 ^ 62)
 (q:R (Itr lo (hi-lo).toNat) H):wpAny (model X.prog X.w) X.A (pyIter (.ref s.heap.objs.size)) (PIE X pins σ tg R) E {s with heap:=s.heap.push {cls:=.type "range",data:=.fields #[.int lo t,.int hi u,.int 1 v]},toks:=tk}:=by
 refine wpAny_pyIter_range (IsRange.new ..) (small_one h1 h2 h3 h4) ?_;have I1:Inv X pins σ H {s with heap:=s.heap.push {cls:=.type "range",data:=.fields #[.int lo t,.int hi u,.int 1 v]},toks:=tk}:=I.kept λb o e=>zyZ _ e;refine⟨(s.heap.push {cls:=.type "range",data:=.fields #[.int lo t,.int hi u,.int 1 v]}).objs.size,[(s.heap.push {cls:=.type "range",data:=.fields #[.int lo t,.int hi u,.int 1 v]}).objs.size],_,_,H,rfl,
  I1.kept (t':=tk) λb o e=>zyZ _ e,zmH _ lo (hi-lo).toNat, ?_,λb hb=>?_,q⟩
 . have e1:lo+((0:Nat):Int)*1=lo:=by simp
   have e2:(((hi-lo).toNat:Nat):Int)-((0:Nat):Int)=Builtin.Range.rangeSize lo hi 1:=by rw[rangeSize_one];split<;>omega
   show IsRangeIter _ _ (lo+((0:Nat):Int)*1) ((((hi-lo).toNat:Nat):Int)-((0:Nat):Int)) 1;rw[e1,e2];exact QzB _ rfl
 . have e:b=(s.heap.push {cls:=.type "range",data:=.fields #[.int lo t,.int hi u,.int 1 v]}).objs.size:=by simpa using hb
   subst e;exact I1.fpOk (zzJ _) (I1.hok.fresh (zzJ _))
def zuv(ta:TA):TI:=λσ H R=>ta σ H λvs H1=>∃j:Int,vs=[.int j] /\ -(2 ^ 62)<=j/\j<2 ^ 62/\R (Itr 0 j.toNat) H1
def zwQ(ta:TA):TI:=λσ H R=>ta σ H λvs H1=>∃i j:Int,vs=[.int i,.int j]/\(-(2 ^ 62)<=i/\i<2 ^ 62 /\ -(2 ^ 62)<=j/\j<2 ^ 62)/\R (Itr i (j-i).toNat) H1
theorem zei{a:Expr}{ta:TA}{p pos:Pos}(hg:Gl X "range")(hm:X.mg "range"=none)(ha:PA X [a] ta)(hs:starEach [a] X.env=[(false,eval a X.env)]:=by rfl):PI X tg (.Call (.Name "range" p) [a] [] pos) (zuv ta):=by
 intro pins s σ H R I h;refine Call_ (zcx I hg hm boot_range (PyProof.Rows.callWith_type1 (thn (ha pos pins s σ H _ I h) λus s1 ⟨vs,H1,I1,r1,q1⟩=>?_) hs rfl));obtain⟨j,e,q1,q2,q⟩:=q1;subst e;cases r1 with
 |cons r rr=>
  cases rr;obtain⟨t,rfl⟩:=r;exact call_range_1 (zlV I1 (by omega) (by omega) q1 q2 (by simpa using q))
theorem zoM(hg:Gl X "range")(hm:X.mg "range"=none)(ha:PA X [a,b] ta)(hs:starEach [a,b] X.env=[(false,eval a X.env),(false,eval b X.env)]:=by rfl)(hs2:starEach [b] X.env=[(false,eval b X.env)]:=by rfl):
 PI X tg (.Call (.Name "range" p) [a,b] [] pos) (zwQ ta):=by
 intro pins s σ H R I h;refine Call_ (zcx I hg hm boot_range (PyProof.Rows.callWith_type1 (thn (ha pos pins s σ H _ I h) λus s1 ⟨vs,H1,I1,r1,q1⟩=>?_) (by rw[hs,hs2]) (by rw[hs2];rfl)));obtain⟨i,j,e,⟨q1,q2,q3,q4⟩,q⟩:=q1;subst e;cases r1 with
 |cons r rr=>
  cases rr with
  |cons r' rr=>
   cases rr;obtain⟨t,rfl⟩:=r;obtain⟨t',rfl⟩:=r';exact call_range_2 (zlV I1 q1 q2 q3 q4 q)
def zxC(wi:TI)(g:TG)(tb:TS):TS:=λD σ H=>wi σ H λJ H1=>∃W:Nat->Nat->St->Hp->Prop,(∃m,W 0 m σ H1)/\∀i m σ H,W i m σ H->
 (J.stop i H/\D.nx σ H)\/(J.go i H/\∃N:St->Hp->Prop,(∀σ' H',N σ' H'->∃m',m'<m/\W (i+1) m' σ' H')/\∀x H',J.yld i H x H'->g x σ H' λσ2 H2=>tb {D with nx:=N,ct:=N,bk:=D.nx} σ2 H2)
def zht(fp:List Addr)(h:Heap):List (Addr×Obj):=fp.filterMap λb=>(h.get? b).map λo=>(b,o)
theorem zat(hb:b ∈ fp)(e:h.get? b=some o):(b,o) ∈ zht fp h:=List.mem_filterMap.mpr ⟨b,hb,by rw[e];rfl⟩
theorem zpq(hp:p ∈ zht fp h):p.1 ∈ fp/\h.get? p.1=some p.2:=by
 obtain⟨b,hb,e⟩:=List.mem_filterMap.mp hp;cases q:h.get? b with
 |none=>rw[q]at e;cases e
 |some o=>
  rw[q]at e;have e':(b,o)=p:=zzT e;subst e';exact⟨hb,q⟩
theorem Inv.pinned(I:Inv X pins σ H s)(hf:∀b ∈ fp,zfy X pins H b)(ho:∀b ∈ fp,∃o,s.heap.get? b=some o/\∀v,o.data ≠ .cell v):Inv X (pins++zht fp s.heap) σ H s:=
 I.pins_of λp hp=>(zzI.mp hp).elim (λz=>I.pin p (zzH _ z)) λz=>by
  obtain⟨hb,e⟩:=zpq z;obtain⟨f0,f1,f2,_⟩:=hf p.1 hb;obtain⟨o,e',d⟩:=ho p.1 hb;rw[e]at e';cases e';exact⟨e,f0,f1,f2,d⟩
theorem Inv.unpinned(I:Inv X (pins++pl) σ H s):Inv X pins σ H s:=I.pins_of λp hp=>I.pin p (zzH _ (zzL _ hp))
theorem zvR(hp:PassesOwn (model X.prog X.w) X.A X.env X.xe)(hc:X.calm=true)(hi:PI X tg iter wi)(hg:PG X tg g)(hb:PSs X body tb)
 (hs:∀x,foldedSetIterable iter X.env x=pure x:=by intro _;rfl):PS X (.For tg iter body [] pos) (zxC wi g tb):=by
 intro pins s σ H D I h;refine wpAny_For (thn (hi pins s σ H _ I h) λv s1 h1=>thn h1 λitv s2 h2=>?_) hs;obtain⟨it,fp,tn,J,H2,e,I2,T,st2,f2,W,⟨m0,w0⟩,turn⟩:=h2;subst e;have stat:∀{H':Hp},(∀b ∈ fp,H' b=none)->∀b ∈ fp,zfy X pins H' b:=λhn b hb=>⟨hn b hb,(f2 b hb).2⟩;refine codeAny_forLoop_any (λn s'=>∃i σ' H',Inv X pins σ' H' s'/\tn i s'.heap/\(∀b ∈ fp,H' b=none)/\W i n σ' H') ?_ m0 ⟨0,σ,H2,I2,st2,λb hb=>(f2 b hb).1,w0⟩
 rintro n s3 ⟨i,σ3,H3,I3,st3,fr3,w3⟩
 rcases turn i n σ3 H3 w3 with⟨stop,qn⟩|⟨go,N,hN,step⟩
 . refine wpAny_passesOwn hp (thn (T.done X rfl rfl rfl hc i pins s3 σ3 H3 X.xe I3 (stat fr3) st3 stop) λr s4 ⟨hr,I4⟩=>?_);subst hr;exact wpAny_execs_nil ⟨σ3,H3,I4,qn⟩
 . refine wpAny_passesOwn hp (thn (T.item X rfl rfl rfl hc i pins s3 σ3 H3 X.xe I3 (stat fr3) st3 go) λr s4 ⟨u,hr,h4⟩=>?_);subst hr;refine wpAny_passesOwn hp (thn h4 λ_ s5 ⟨x,H5,I5,r5,y5,st5,fr5⟩=>?_);have I5':=I5.pinned (stat fr5) (T.obj _ _ st5);refine wpAny_passesOwn hp (thn (hg _ s5 σ3 H5 x u _ I5' r5 (step x H5 y5)) λ_ s6 ⟨σ6,H6,I6,q6⟩=>?_);refine wpAny_passesOwn hp (thn (hb _ s6 σ6 H6 _ I6 q6) λf s7 q7=>?_);have again:∀{σ7:St}{H7:Hp},Inv X (pins++zht fp s5.heap) σ7 H7 s7->N σ7 H7->∃m,m<n/\∃i σ' H',Inv X pins σ' H' s7/\tn i s7.heap/\(∀b ∈ fp,H' b=none)/\W i m σ' H':=λ{σ7 H7} I7 n7=>by
    obtain⟨m',hm,w7⟩:=hN σ7 H7 n7;refine⟨m',hm,i+1,σ7,H7,I7.unpinned,T.keep _ _ _ st5 λb hb o e=>(I7.pin (b,o) (zzH _ (zzH _ (zat hb e)))).1,λb hb=>?_,w7⟩;obtain⟨o,e,d⟩:=T.obj _ _ st5 b hb;exact(I7.pin (b,o) (zzH _ (zzH _ (zat hb e)))).2.1
   cases f with
   |next=>obtain⟨σ7,H7,I7,n7⟩:=q7;exact again I7 n7
   |cont=>obtain⟨σ7,H7,I7,n7⟩:=q7;exact again I7 n7
   |brk=>obtain⟨σ7,H7,I7,q7⟩:=q7;exact⟨σ7,H7,I7.unpinned,q7⟩
   |ret v=>obtain⟨x7,σ7,H7,I7,r7,q7⟩:=q7;exact⟨x7,σ7,H7,I7.unpinned,r7,q7⟩
end
end L2
namespace L2
open PySem PySem.Spec PyProof.Rows
abbrev R2:=V->V->Hp->VK->Prop
def OpR(X:Cx)(f:Value->Value->Sem Value)(r:R2):Prop:=
 ∀(pins:List (Addr×Obj)) (s:Shared) (σ:St) (H:Hp) (x y:V) (v u:Value) (Q:VK),Inv X pins σ H s->RelV x v->RelV y u->r x y H Q->
  wpAny (model X.prog X.w) X.A (f v u) (EP X pins σ Q) X.xe s
def zbO(X:Cx)(f:Value)(r:List V->Hp->VK->Prop):Prop:=
 ∀(pins:List (Addr×Obj)) (s:Shared) (σ:St) (H:Hp) (xs:List V) (us:List Value) (Q:VK),Inv X pins σ H s->Vals xs us->r xs H Q->
  wpAny (model X.prog X.w) X.A (call f us) (EP X pins σ Q) X.xe s
def zyq(X:Cx)(r:V->Hp->(Bool->Hp->Prop)->Prop):Prop:=
 ∀(pins:List (Addr×Obj)) (s:Shared) (σ:St) (H:Hp) (x:V) (v:Value) (Q:Bool->Hp->Prop),Inv X pins σ H s->RelV x v->r x H Q->
  wpAny (model X.prog X.w) X.A (truthy v) (TP X pins σ Q) X.xe s
def tOp(r:R2)(ta tb:TE):TE:=λσ H Q=>ta σ H λx H1=>tb σ H1 λy H2=>r x y H2 Q
def rI(C:Int->Int->Prop)(g:Int->Int->V):R2:=λx y H Q=>∃i j,x = .int i/\y = .int j/\C i j/\Q (g i j) H
def rI0(g:Int->Int->V):R2:=λx y H Q=>∃i j,x = .int i/\y = .int j/\Q (g i j) H
section
variable{X:Cx}{a b c:Expr}{ta tb tc:TE}{pos:Pos}
theorem zuH(ha:PE X a ta)(hb:PE X b tb){pins:List (Addr×Obj)}{s:Shared}{σ:St}{H:Hp}{R:V->V->Hp->Prop}(I:Inv X pins σ H s)
 (h:ta σ H λx H1=>tb σ H1 λy H2=>R x y H2) {Q:Value->Shared->Prop}{f:Value->Value->Sem Value}
 (hf:∀v u s2 x y H2,Inv X pins σ H2 s2->RelV x v->RelV y u->R x y H2->wpAny (model X.prog X.w) X.A (f v u) Q X.xe s2):
 wpAny (model X.prog X.w) X.A (eval a X.env) (λv s₁=>wpAny (model X.prog X.w) X.A (eval b X.env) (λu s₂=>wpAny (model X.prog X.w) X.A (f v u) Q X.xe s₂) X.xe s₁) X.xe s:=by
 refine thn (ha pins s σ H _ I h) λv s1 ⟨x,H1,I1,r1,q1⟩=>?_;refine thn (hb pins s1 σ H1 _ I1 q1) λu s2 ⟨y,H2,I2,r2,q2⟩=>?_;exact hf v u s2 x y H2 I2 r1 r2 q2
theorem zxr{op:Operator}{r:R2}(ho:OpR X (binaryOp op) r)(ha:PE X a ta)(hb:PE X b tb):PE X (.BinOp a op b pos) (tOp r ta tb):=by
 intro pins s σ H Q I h;exact wpAny_BinOp (zuH ha hb I h λv u s2 x y H2 I2 rx ry q=>ho pins s2 σ H2 x y v u Q I2 rx ry q)
theorem opI{f:Value->Value->Sem Value}{C:Int->Int->Prop}{g:Int->Int->Int}
 (rule:∀(i j:Int) (t u:Tok) (s:Shared) (Q:Value->Shared->Prop) (E:Value->Shared->Prop),C i j->Q (.int (g i j) s.toks) {s with toks:=s.toks+1}->wpAny (model X.prog X.w) X.A (f (.int i t) (.int j u)) Q E s):
 OpR X f (rI C λi j=>.int (g i j)):=by
 intro pins s σ H x y v u Q I rx ry h;obtain⟨i,j,rfl,rfl,hc,q⟩:=h;obtain⟨t,rfl⟩:=rx;obtain⟨t',rfl⟩:=ry;exact rule i j t t' s _ _ hc ⟨.int (g i j),H,I.tok _,⟨_,rfl⟩,q⟩
theorem zxo{f:Value->Value->Sem Value}{g:Int->Int->Int}
 (rule:∀(i j:Int) (t u:Tok) (s:Shared) (Q:Value->Shared->Prop) (E:Value->Shared->Prop),Q (.int (g i j) s.toks) {s with toks:=s.toks+1}->wpAny (model X.prog X.w) X.A (f (.int i t) (.int j u)) Q E s):
 OpR X f (rI0 λi j=>.int (g i j)):=by
 intro pins s σ H x y v u Q I rx ry h;obtain⟨i,j,rfl,rfl,q⟩:=h;obtain⟨t,rfl⟩:=rx;obtain⟨t',rfl⟩:=ry;exact rule i j t t' s _ _ ⟨.int (g i j),H,I.tok _,⟨_,rfl⟩,q⟩
theorem zsF{f:Value->Value->Sem Value}{g:Int->Int->Bool}
 (rule:∀(i j:Int) (t u:Tok) (s:Shared) (Q:Value->Shared->Prop) (E:Value->Shared->Prop),Q (.bool (g i j)) s->wpAny (model X.prog X.w) X.A (f (.int i t) (.int j u)) Q E s):
 OpR X f (rI0 λi j=>.bl (g i j)):=by
 intro pins s σ H x y v u Q I rx ry h;obtain⟨i,j,rfl,rfl,q⟩:=h;obtain⟨t,rfl⟩:=rx;obtain⟨t',rfl⟩:=ry;exact rule i j t t' s _ _ ⟨.bl (g i j),H,I,rfl,q⟩
def zxV(i j:Int):Prop:=0<=j/\j<=1000000/\i.natAbs<2 ^ 64
theorem zuM:OpR X (binaryOp .Add) (rI0 λi j=>.int (i+j)):=zxo λ_ _ _ _ _ _ _ q=>add_int q
theorem zvw:OpR X (binaryOp .Sub) (rI0 λi j=>.int (i-j)):=zxo λ_ _ _ _ _ _ _ q=>sub_int q
theorem zwp:OpR X (binaryOp .Mod) (rI (λ_ j=>0<j) λi j=>.int (i%j)):=opI λi j _ _ _ _ _ hc q=>by
 have h1:(0:Int)<j:=hc;exact mod_int' (by omega) (by rw[Int.fmod_eq_emod_of_nonneg i (by omega)];exact q)
theorem zuT:OpR X (binaryOp .Pow) (rI zxV λi j=>.int (i ^ j.toNat)):=opI λ_ _ _ _ _ _ _ hc q=>pow_int_small hc.1 hc.2.1 hc.2.2 q
end
section
variable{X:Cx}{a b c:Expr}{ta tb tc:TE}{pos:Pos}
theorem Zc(I:Inv X pins σ H s)(q:Q (.bl k) H)(e:k=k'):EP X pins σ Q (.bool k') s:=by
 subst e;exact⟨.bl k,H,I,rfl,q⟩
theorem zwR:OpR X (compareOp .Lt) (rI0 λi j=>.bl (decide (i<j))):=zsF λ_ _ _ _ _ _ _ q=>lt_int q
theorem zwH:OpR X (compareOp .LtE) (rI0 λi j=>.bl (decide (i<=j))):=zsF λ_ _ _ _ _ _ _ q=>le_int q
theorem zxb:OpR X (compareOp .Gt) (rI0 λi j=>.bl (decide (j<i))):=zsF λ_ _ _ _ _ _ _ q=>gt_int q
theorem zwF:OpR X (compareOp .GtE) (rI0 λi j=>.bl (decide (j<=i))):=zsF λ_ _ _ _ _ _ _ q=>ge_int q
theorem zoT:OpR X (compareOp .In) (λx y H Q=>∃i j,x = .str i/\y = .str j/\Q (.bl (!(Builtin.Str.occurrences j i 0 j.length 1).isEmpty)) H):=by
 intro pins s σ H x y v u Q I rx ry h;obtain⟨i,j,rfl,rfl,q⟩:=h;obtain⟨t,rfl⟩:=rx;obtain⟨t',rfl⟩:=ry;exact in_str (Zc I q rfl)
theorem zuW:OpR X (compareOp .Is) (λx y H Q=>y = .non/\Q (.bl (decide (x = .non))) H):=by
 intro pins s σ H x y v u Q I rx ry h;obtain⟨rfl,q⟩:=h;cases ry;refine is_none_gen (Zc I q ?_);cases x<;>first
  |(cases rx;rfl)
  |(obtain⟨t,rfl⟩:=rx;rfl)
theorem ztl:OpR X (compareOp .IsNot) (λx y H Q=>y = .non/\Q (.bl (!decide (x = .non))) H):=by
 intro pins s σ H x y v u Q I rx ry h;obtain⟨rfl,q⟩:=h;cases ry;refine isnot_none_gen (Zc I q ?_);cases x<;>first
  |(cases rx;rfl)
  |(obtain⟨t,rfl⟩:=rx;rfl)
theorem zkr:OpR X (compareOp .NotIn) (λx y H Q=>∃i j,x = .str i/\y = .str j/\Q (.bl (!(!(Builtin.Str.occurrences j i 0 j.length 1).isEmpty))) H):=by
 intro pins s σ H x y v u Q I rx ry h;obtain⟨i,j,rfl,rfl,q⟩:=h;obtain⟨t,rfl⟩:=rx;obtain⟨t',rfl⟩:=ry;exact notIn_str (Zc I q rfl)
theorem zQ(b:Expr)(h:op ≠ .In:=by decide)(h2:op ≠ .NotIn:=by decide):behindInMarks op b=false:=by
 have e1:(op==CmpOp.In)=false:=by cases op<;>first|rfl|exact absurd rfl h
 have e2:(op==CmpOp.NotIn)=false:=by cases op<;>first|rfl|exact absurd rfl h2
 cases b<;>simp[behindInMarks,e1,e2]
theorem ztS{op:CmpOp}{r:R2}(ho:OpR X (compareOp op) r)(ha:PE X a ta)(hb:PE X b tb)(hm:behindInMarks op b=false):PE X (.Compare a [op] [b] pos) (tOp r ta tb):=by
 intro pins s σ H Q I h;exact wpAny_Compare1 (zuH ha hb I h λv u s2 x y H2 I2 rx ry q=>ho pins s2 σ H2 x y v u Q I2 rx ry q) hm
def zug(t:TE):TT:=λσ H Q=>t σ H λx H'=>∃k,x = .bl k/\Q k H'
theorem zsT(ho:OpR X (compareOp op) r)(ha:PE X a ta)(hb:PE X b tb)(hm:behindInMarks op b=false):PT X (.Compare a [op] [b] pos) (zug (tOp r ta tb)):=by
 intro pins s σ H Q I h;refine wpAny_isTrue_Compare1 (thn (ha pins s σ H _ I h) λv s1 ⟨x,H1,I1,r1,q1⟩=>thn (hb pins s1 σ H1 _ I1 q1) λu s2 ⟨y,H2,I2,r2,q2⟩=>
  thn (ho pins s2 σ H2 x y v u _ I2 r1 r2 q2) λc s3 ⟨z,H3,I3,r3,k,e,q3⟩=>?_) hm
 subst e;cases r3;exact wpAny_truthy_bool ⟨H3,I3,q3⟩
def zrq(r r':R2)(ta tb tc:TE):TE:=λσ H Q=>ta σ H λx H1=>tb σ H1 λy H2=>r x y H2 λz H3=>∃k,z = .bl k/\
 (if k=true then tc σ H3 λw' H4=>r' y w' H4 Q else Q (.bl false) H3)
theorem zri(ho:OpR X (compareOp op) r)(ho':OpR X (compareOp op') r')(ha:PE X a ta)(hb:PE X b tb)(hc:PE X c tc)
 (hm:lastMarks [op,op'] [b,c]=false:=by with_unfolding_all rfl):PT X (.Compare a [op,op'] [b,c] pos) (zug (zrq r r' ta tb tc)):=by
 intro pins s σ H Q I h;refine isTrue_chain (thn (ha pins s σ H _ I h) λv s1 ⟨x,H1,I1,r1,q1⟩=>test_link (thn (hb pins s1 σ H1 _ I1 q1) λu s2 ⟨y,H2,I2,r2,q2⟩=>
  thn (ho pins s2 σ H2 x y v u _ I2 r1 r2 q2) λd s3 ⟨z,H3,I3,r3,k,e,q3⟩=>?_)) hm
 subst e;cases r3;refine wpAny_truthy_bool ?_;cases k with
 |false=>
  obtain⟨k',e',q'⟩:=q3;cases e';exact ite_ff ⟨H3,I3,q'⟩
 |true=>
  refine ite_tt (test_last (thn (hc pins s3 σ H3 _ I3 q3) λw' s4 ⟨z',H4,I4,r4,q4⟩=>thn (ho' pins s4 σ H4 y z' u w' _ I4 r2 r4 q4) λd' s5 ⟨z2,H5,I5,r5,k2,e2,q5⟩=>?_));subst e2;cases r5;exact wpAny_truthy_bool ⟨H5,I5,q5⟩
def zvb(K:zC)(x:V)(H:Hp)(k:Bool):Prop:=
 match x with
 | .non=>k=false
 | .bl b=>k=b
 | .int i=>k=(i != 0)
 | .str y=>y.length<=sizeLine/\k=((y.length:Int) != 0)
 | .byt y=>y.size<=sizeLine/\k=((y.size:Int) != 0)
 | .ref p=>(∃xs,SqL K H p xs/\k = !xs.isEmpty)\/(∃xs,SqT K H p xs/\k = !xs.isEmpty)\/∃kvs,H p=some (.dK kvs)/\k = !kvs.isEmpty
 |_=>False
theorem zmC(r:KV kvs vs):(!vs.isEmpty) = !kvs.isEmpty:=by
 cases r<;>rfl
theorem zhD(r:Vals xs its):(!its.toArray.isEmpty) = !xs.isEmpty:=by
 cases r<;>simp
theorem zcK:(sizeLine:Nat)<2 ^ 63:=by rw[sizeLine_eq];decide
theorem zvU:zyq X (λx H Q=>∃k,zvb X.K x H k/\Q k H):=by
 intro pins s σ H x v Q I rx h;obtain⟨k,e,q⟩:=h;have hl:=zcK;have hs:sizeLine=16777216:=sizeLine_eq;cases x with
 |non=>
  cases rx;have e':k=false:=e;subst e';exact truthy_none ⟨H,I,q⟩
 |bl b=>
  cases rx;have e':k=b:=e;subst e';exact wpAny_truthy_bool ⟨H,I,q⟩
 |int i=>
  obtain⟨t,rfl⟩:=rx;have e':k=(i != 0):=e;subst e';exact PySem.P.truthy_int ⟨H,I,q⟩
 |str y=>
  obtain⟨t,rfl⟩:=rx;obtain⟨hy,e'⟩:y.length<=sizeLine/\k=((y.length:Int) != 0):=e;subst e';exact PySem.P.truthy_str (by omega) ⟨H,I.tok _,q⟩
 |byt y=>
  obtain⟨t,rfl⟩:=rx;obtain⟨hy,e'⟩:y.size<=sizeLine/\k=((y.size:Int) != 0):=e;subst e';exact PySem.W.truthy_bytes (by omega) ⟨H,I.tok _,q⟩
 |ref p=>
  cases rx;have e':(∃xs,SqL X.K H p xs/\k = !xs.isEmpty)\/(∃xs,SqT X.K H p xs/\k = !xs.isEmpty)\/∃kvs,H p=some (.dK kvs)/\k = !kvs.isEmpty:=e
  rcases e' with⟨xs,hx,e'⟩|⟨xs,hx,e'⟩|⟨kvs,hx,e'⟩
  . subst e';obtain⟨its,r,pl,hz⟩:=I.list hx;have hlen:=r.length;exact wpAny_truthy_list pl.isList (by simp only[zzD];omega) ⟨H,I.tok _,by rw[zhD r];exact q⟩
  . subst e';obtain⟨its,r,pl,hz⟩:=I.tuple hx;have hlen:=r.length;exact truthy_tuple pl (by simp only[zzD];omega) ⟨H,I.tok _,by rw[zhD r];exact q⟩
  . subst e';obtain⟨hz,hS,vs,r,m⟩:kvs.length<=sizeLine/\(p==sysModules)=false/\∃vs,KV kvs vs/\s.heap.DictOf (wM X.prog X.w) p vs:=I.hok p _ hx;have hlen:kvs.length=vs.length:=Paired.length r;exact wpAny_truthy_dict hS m (by omega) ⟨H,I.tok _,by rw[zmC r];exact q⟩
 |_=>exact(show False from e).elim
theorem zre(ha:PE X a ta)(he:∀whole,isTrue a X.env whole=(do let v <-whole;standAt a.pos;holding [v] (truthy v))):
 PT X a (λσ H Q=>ta σ H λx H'=>∃k,zvb X.K x H' k/\Q k H'):=by
 intro pins s σ H Q I h;exact isTrue_plain (thn (ha pins s σ H _ I h) λv s1 ⟨x,H1,I1,r1,q1⟩=>zvU pins s1 σ H1 x v Q I1 r1 q1) (he _)
theorem znl:OpR X (binaryOp .Add) (λx y H Q=>∃i j,x = .str i/\y = .str j/\i.length+j.length<=sizeLine/\Q (.str (i++j)) H):=by
 intro pins s σ H x y v u Q I rx ry h;obtain⟨i,j,rfl,rfl,hz,q⟩:=h;obtain⟨t,rfl⟩:=rx;obtain⟨t',rfl⟩:=ry;exact add_str (λt' tk=>⟨.str (i++j),H,I.tok _,⟨_,rfl⟩,q⟩) hz
theorem vals1(r:Vals [x] us):∃u,us=[u]/\RelV x u:=by
 cases r with
 |cons r1 r2=>cases r2;exact⟨_,rfl,r1⟩
theorem vals2(r:Vals [x,y] us):∃u w',us=[u,w']/\RelV x u/\RelV y w':=by
 cases r with
 |cons r1 r2=>
  cases r2 with
  |cons r3 r4=>cases r4;exact⟨_,_,rfl,r1,r3⟩
theorem zoJ(hc:X.calm=true):zbO X (.builtin "max") (λxs H Q=>∃i j,xs=[.int i,.int j]/\Q (.int (if j > i then j else i)) H):=by
 intro pins s σ H xs us Q I r h;obtain⟨i,j,rfl,q⟩:=h;obtain⟨u,w',rfl,⟨t,rfl⟩,⟨t',rfl⟩⟩:=vals2 r;refine max_two_ints (I.ok.hd hc) λh' tk k=>⟨_,H,I.kept k, ?_,q⟩
 by_cases hj:j > i
 . rw[if_pos hj,if_pos hj];exact⟨_,rfl⟩
 . rw[if_neg hj,if_neg hj];exact⟨_,rfl⟩
theorem zpy(hc:X.calm=true):zbO X (.builtin "min") (λxs H Q=>∃i j,xs=[.int i,.int j]/\Q (.int (if j<i then j else i)) H):=by
 intro pins s σ H xs us Q I r h;obtain⟨i,j,rfl,q⟩:=h;obtain⟨u,w',rfl,⟨t,rfl⟩,⟨t',rfl⟩⟩:=vals2 r;refine min_two_ints (I.ok.hd hc) λh' tk k=>⟨_,H,I.kept k, ?_,q⟩
 by_cases hj:j<i
 . rw[if_pos hj,if_pos hj];exact⟨_,rfl⟩
 . rw[if_neg hj,if_neg hj];exact⟨_,rfl⟩
theorem zjb:zbO X (.type "int") (λxs H Q=>(∃i,xs=[.int i]/\Q (.int i) H)\/∃k,xs=[.bl k]/\Q (.int (if k then 1 else 0)) H):=by
 intro pins s σ H xs us Q I r h
 rcases h with⟨i,rfl,q⟩|⟨k,rfl,q⟩
 . obtain⟨u,rfl,t,rfl⟩:=vals1 r;exact call_int_int ⟨.int i,H,I,⟨_,rfl⟩,q⟩
 . obtain⟨u,rfl,r1⟩:=vals1 r;cases r1;exact call_int_bool ⟨.int (if k then 1 else 0),H,I.tok _,⟨_,rfl⟩,q⟩
theorem zkz:zbO X (.type "str") (λxs H Q=>∃i,xs=[.int i]/\i.natAbs.log2<1920/\Q (.str (toString i)) H):=by
 intro pins s σ H xs us Q I r h;obtain⟨i,rfl,hz,q⟩:=h;obtain⟨u,rfl,t,rfl⟩:=vals1 r;exact PySem.P.str_of_int hz ⟨.str _,H,I.tok _,⟨_,rfl⟩,q⟩
end
end L2
namespace L2
open PySem PySem.Spec PyProof.Rows
structure ObjM(h:Heap)(x dx C:Addr)(mA:Str->Option Value):Prop where
 obj:h.get? x=some (PySem.W.instObj C dx)
 ns:h.Ns1 dx mA
 ne:dx≠x
theorem zhT.some_of(r:zhT (some v) o):∃u,o=some u/\RelV v u:=by
 cases o with
 |none=>exact(show False from r).elim
 |some u=>exact⟨u,rfl,r⟩
structure Cls(K:zC)(C:Addr):Prop where
 pg:PySem.W.plainGet K C Str.empty=true
 hd:PySem.W.hasDictIn K C=true
 po:PySem.W.plainOver K C=true
 sa:PySem.W.findIn K (.ref C) "__setattr__"=some (some (.builtin "object.__setattr__"))
structure Con(K:zC)(C:Addr)(f:Str)(v:V)(u:Value):Prop where
 at_:PySem.W.findIn K (.ref C) f=some (some u)
 rel:RelV v u
 get:PySem.W.specialIn K u "__get__"=some none
 cp:PySem.W.copiedNames.contains f=false
structure Meth(K:zC)(C:Addr)(m:Str)(f:Addr):Prop where
 at_:PySem.W.findIn K (.ref C) m=some (some (.ref f))
 fn:PySem.W.isFn K (.ref f)=true
 kp:PySem.W.keepIn K (.ref f)=true
section
variable{X:Cx}{pins:List (Addr×Obj)}{σ:St}{H:Hp}{s:Shared}{A:Around}{E:Value->Shared->Prop}{Q:Value->Shared->Prop}{c:Value}{b:Bool}
inductive TyOf(K:zC)(H:Hp):V->Value->Prop where
 |non:TyOf K H .non (.type "NoneType")
 |bl (x:Bool):TyOf K H (.bl x) (.type "bool")
 |int (i:Int):TyOf K H (.int i) (.type "int")
 |str (x:Str):TyOf K H (.str x) (.type "str")
 |flt (x:UInt64):TyOf K H (.flt x) (.type "float")
 |lst {a:Addr}{xs:List V}(e:H a=some (.lst xs)):TyOf K H (.ref a) (.type "list")
 |frz {a:Addr}{o:Obj}{xs:List V}(e:H a=some (.frz o (.lst xs))):TyOf K H (.ref a) (.type "list")
 |tup {a:Addr}{xs:List V}(e:H a=some (.tup xs)):TyOf K H (.ref a) (.type "tuple")
 |dK {a:Addr}{kvs:List (Key×V)}(e:H a=some (.dK kvs)):TyOf K H (.ref a) (.type "dict")
 |dT {a:Addr}{kvs:List (List Key×V)}(e:H a=some (.dT kvs)):TyOf K H (.ref a) (.type "dict")
 |ins {a C dx:Addr}{fs:List (Str×V)}(e:H a=some (.ins C dx fs)) (cl:Cls K C) (ha:PySem.W.findIn K (.ref C) "__class__"=some (some (.builtin "object.__class__")))
  (hn:PySem.W.specialIn K (.builtin "object.__class__") "__get__"=some (some (.builtin "getset_descriptor.__get__"))) (htk:PySem.W.takesIn K (.builtin "object.__class__")=some true)
  (hm:PySem.W.mroIn K C (.type "object")=some true):TyOf K H (.ref a) (.ref C)
end
end L2
namespace L2
open PySem PySem.Spec PyProof.Rows
structure Room(k:Nat)(A:Around):Prop where
 hd:A.handled=none
 dp:A.depth+3*k+5<recursionLimit
 un:A.units+16*k+200<cLine
 gd:A.guards=some []
theorem Room.mono(r:Room k A)(h:j<=k):Room j A:=⟨r.hd,by have:=r.dp;omega,by have:=r.un;omega,r.gd⟩
theorem Room.deeper(r:Room (k+1) A)(env:Env):Room k (A.deeper env):=
 ⟨r.hd,by have:=r.dp;show A.depth+1+3*k+5<_;omega,by have:=r.un;show A.units+3+16*k+200<_;omega,r.gd⟩
theorem Room.depth(r:Room k A):A.depth<recursionLimit:=by have:=r.dp;omega
def zxy:TA:=λ_ H Q=>Q [] H
def ztY(ta:TE)(tr:TA):TA:=λσ H Q=>ta σ H λx H1=>tr σ H1 λxs H2=>Q (x::xs) H2
section
variable{X:Cx}{e:Expr}{es:List Expr}{te:TE}{t:TA}{pos:Pos}
theorem zdQ:PA X [] zxy:=λ_ _ _ _ H Q I h=>Calls.spliced_nil ⟨[],H,I,.nil,h⟩
theorem VR(ha:PE X e te)(hr:PA X es t)(hs:starEach (e::es) X.env=(false,eval e X.env)::starEach es X.env:=by rfl):PA X (e::es) (ztY te t):=by
 intro pos pins s σ H Q I h;rw[hs];show wpAny _ _ (spliced ((false,eval e X.env)::backTo pos (starEach es X.env))) _ _ s;refine Calls.spliced_cons (thn (ha pins s σ H _ I h) λu s1 ⟨x,H1,I1,r1,q1⟩=>?_);exact thn (hr pos pins s1 σ H1 _ I1 q1) λus s2 ⟨xs,H2,I2,r2,q2⟩=>⟨x::xs,H2,I2,.cons r1 r2,q2⟩
def zxE(t:TA):TE:=λσ H Q=>t σ H λxs H1=>xs.length<=sizeLine/\∀p,H1 p=none->Q (.ref p) (upd H1 p (.tup xs))
def zxX(t:TA):TE:=λσ H Q=>t σ H λxs H1=>xs.length<=sizeLine/\∀p,H1 p=none->Q (.ref p) (upd H1 p (.lst xs))
theorem zuO(h:PA X es t):PE X (.Tuple es x1 pos) (zxE t):=by
 intro pins s σ H Q I hq;refine wpAny_Tuple_spliced (thn (h pos pins s σ H _ I hq) λus s1 ⟨xs,H1,I1,r,z,q⟩=>⟨by rw[<-r.length];exact z, ?_⟩);have hf:H1 s1.heap.objs.size=none:=I1.hok.fresh (zzJ _);refine⟨.ref s1.heap.objs.size,upd H1 s1.heap.objs.size (.tup xs),I1.laid (t':=s1.toks) (λb u e=>zyZ _ e) (zzJ _) ?_,rfl,q _ hf⟩;exact⟨z,us,r,⟨_,QzB _ rfl,rfl,_,rfl⟩⟩
theorem zuI(h:PA X es t):PE X (.List es pos) (zxX t):=by
 intro pins s σ H Q I hq;refine wpAny_List_spliced (thn (h pos pins s σ H _ I hq) λus s1 ⟨xs,H1,I1,r,z,q⟩=>⟨by rw[<-r.length];exact z, ?_⟩);have hf:H1 s1.heap.objs.size=none:=I1.hok.fresh (zzJ _);refine⟨.ref s1.heap.objs.size,upd H1 s1.heap.objs.size (.lst xs),I1.laid (t':=s1.toks) (λb u e=>zyZ _ e) (zzJ _) ?_,rfl,q _ hf⟩;exact⟨z,us,0,r,QzB _ rfl⟩
end
abbrev Sp:=List V->Hp->VK->XK->Prop
abbrev CXT:=List Env->Hp->Shared->XK->Value->Shared->Prop
structure Env0(P:Program)(w:World)(K:zC)(mg:Str->Option Value)(base:Heap)(A:Around)(outer:List Env)(s:Shared)(H:Hp):Prop where
 frames:A.frames=some outer
 mod:Mod K mg base
 bs:∀b o,base.get? b=some o->s.heap.get? b=some o/\H b=none
 bsz:base.objs.size<=s.heap.objs.size
 funs:s.heap.FunFrames base outer
 frf:∀b ∈ frs outer,H b=none
 hok:HOk P w H s.heap
 bare:AllBare s.gens
def CE(outer:List Env)(P:Program)(w:World)(H:Hp)(s:Shared)(Q:VK)(u:Value)(s':Shared):Prop:=
 ∃v H',s'.os=s.os/\AllBare s'.gens/\Un (frs outer) [] H H' s.heap s'.heap/\HOk P w H' s'.heap/\RelV v u/\Q v H'
def CR(CX:CXT)(outer:List Env)(P:Program)(w:World)(H:Hp)(s:Shared)(Q:VK)(E:XK)(r:Result)(s':Shared):Prop:=
 match r with
 | .ok (.ret u)=>CE outer P w H s Q u s'
 | .ok _=>False
 | .error e=>CX outer H s E e s'
structure FnOk(P:Program)(w:World)(K:zC)(mg:Str->Option Value)(base:Heap)(CX:CXT)(k:Nat)(f:Addr)(fd:FuncData)(ps:List Str)(sp:Sp):Prop where
 len:∀vs H Q E,sp vs H Q E->vs.length=ps.length
 run:∀(A:Around) (outer:List Env) (s:Shared) (H:Hp) (args:Args) (us:List Value) (vs:List V) (Q:VK) (E:XK),Room k A->Env0 P w K mg base A outer s H->BindsTo s fd args (ps.zip us)->Vals vs us->sp vs H Q E->
  codeAny (model P w) A (.call (.ref f) args) (CR CX outer P w H s Q E) s
theorem FnOk.imp{P:Program}{w:World}{K:zC}{mg:Str->Option Value}{base:Heap}{CX:CXT}{k:Nat}{f:Addr}{fd:FuncData}{ps:List Str}{sp sp':Sp}(F:FnOk P w K mg base CX k f fd ps sp)
 (h:∀vs H Q E,sp' vs H Q E->sp vs H Q E):FnOk P w K mg base CX k f fd ps sp':=
 ⟨λvs H Q E q=>F.len vs H Q E (h _ _ _ _ q),λA outer s H args us vs Q E hr he hb hv hs=>F.run A outer s H args us vs Q E hr he hb hv (h _ _ _ _ hs)⟩
section
variable{X:Cx}{pins:List (Addr×Obj)}{σ:St}{H:Hp}{s s':Shared}
theorem Inv.env0(I:Inv X pins σ H s):Env0 X.prog X.w X.K X.mg X.base X.A X.stack s H:=
 ⟨I.ok.frames,I.ok.mod,I.bs,zzK I.ok.bsz I.sz,I.stack,I.stkFree,I.hok,I.bare⟩
theorem Inv.after(I:Inv X pins σ H s)(h:CE X.stack X.prog X.w H s Q u s'):EP X pins σ Q u s':=by
 obtain⟨v,H',os,bare,un,hok,r,q⟩:=h;obtain⟨hh,g,d,t,os'⟩:=s';obtain rfl:os'=s.os:=os;exact⟨v,H',I.call (h':=hh) (g':=g) (d':=d) (t':=t) (ch:=[]) un hok bare (λb z=>absurd z (by simp)),r,q⟩
end
def zuC(sp:Sp)(dvs:List V)(E:XK)(t:TA):TE:=λσ H Q=>t σ H λvs H1=>sp (vs++dvs) H1 Q E
def Binds(K:zC)(fd:FuncData)(ps:List Str)(ds:List Value):Prop:=
 ∀(s:Shared) (us:List Value),K.In s.heap->(us++ds).length=ps.length->BindsTo s fd ⟨us,[]⟩ (ps.zip (us++ds))
theorem Binds.all{K:zC}{fd:FuncData}{ps:List Str}(h:∀us:List Value,us.length=ps.length->bindArgs fd ⟨us,[]⟩=pure (ps.zip us)):Binds K fd ps []:=λs us _ hl=>by
 rw[zzY]at hl ⊢;exact .of_eq (h us hl)
def zjB(CX:CXT)(X:Cx)(E:XK):Prop:=∀(pins:List (Addr×Obj)) (σ:St) (H:Hp) (s:Shared) (e:Value) (s':Shared),Inv X pins σ H s->CX X.stack H s E e s'->X.xe e s'
section
variable{X:Cx}{CX:CXT}{k:Nat}{f C:Addr}{fd:FuncData}{ps:List Str}{sp:Sp}{dvs:List V}{ds:List Value}{E:XK}{x m:Str}{p pos apos:Pos}{e o:Expr}{es:List Expr}{ta:TE}{t:TA}
theorem zvh(F:FnOk X.prog X.w X.K X.mg X.base CX k f fd ps sp)(hr:Room k X.A)(hb:Binds X.K fd ps ds)(hd:Vals dvs ds)(hx:zjB CX X E)
 (I:Inv X pins σ H s) (r:Vals vs us) (h:sp (vs++dvs) H Q E):wpAny (model X.prog X.w) X.A (call (.ref f) us) (EP X pins σ Q) X.xe s:=by
 have r2:Vals (vs++dvs) (us++ds):=r.append hd;have hl:(us++ds).length=ps.length:=by rw[<-r2.length];exact F.len _ _ _ _ h
 refine wpAny_call (codeAny_mono (F.run X.A X.stack s H ⟨us,[]⟩ (us++ds) (vs++dvs) Q E hr I.env0 (hb s us I.kIn hl) r2 h) λr s' hq=>?_);cases r with
 |error e=>exact hx pins σ H s e s' I hq
 |ok fl=>
  cases fl with
  |ret u=>exact I.after hq
  |next=>exact False.elim hq
  |brk=>exact False.elim hq
  |cont=>exact False.elim hq
theorem ztL(F:FnOk X.prog X.w X.K X.mg X.base CX k f fd ps sp)(hr:Room k X.A)(hg:Gl X x)(hm:X.mg x=some (.ref f))(hk:PySem.W.keepIn X.K (.ref f)=true)(hb:Binds X.K fd ps ds)(hd:Vals dvs ds)(hx:zjB CX X E)
 (ha:PA X (e::es) t) (hdb:(x==("__debug__":Str))=false:=by decide) (he:starEach (e::es) X.env=(false,eval e X.env)::starEach es X.env:=by rfl) (hpl:(backTo pos (starEach es X.env)).any (·.1)=false:=by rfl):
 PE X (.Call (.Name x p) (e::es) [] pos) (zuC sp dvs E t):=by
 intro pins s σ H Q I h;refine wpAny_Call_Name_kw (znB I hg hm ?_ hdb);refine PySem.W.callWith_K (h₀:=X.base) I.ok.mod.kin hk (thn (ha pos pins s σ H _ I h) λus s1 ⟨vs,H1,I1,r,q⟩=>⟨I1.kIn, ?_⟩) he hpl;exact zvh F hr hb hd hx I1 r q
structure Mk(K:zC)(C f:Addr):Prop where
 makes:PySem.W.makesIn K C=true
 init:PySem.W.findIn K (.ref C) "__init__"=some (some (.ref f))
 fn:PySem.W.isFn K (.ref f)=true
 kp:PySem.W.keepIn K (.ref C)=true
end
section
variable{X:Cx}{CX:CXT}{k:Nat}{f C:Addr}{fd:FuncData}{ps ks:List Str}{sp:Sp}{E:XK}{x m:Str}{p pos apos kpos:Pos}{e o:Expr}{es:List Expr}{kws:List Keyword}{te ta:TE}{t tk:TA}{nm:Option Str}
structure KBinds(K:zC)(fd:FuncData)(ps ks:List Str)(g:List Value->List Value->List Value)(gV:List V->List V->List V):Prop where
 to:∀(s:Shared) (us ws:List Value),K.In s.heap->(g us ws).length=ps.length->BindsTo s fd ⟨us,ks.zip ws⟩ (ps.zip (g us ws))
 rel:∀{vs:List V}{us:List Value}{zs:List V}{ws:List Value},Vals vs us->Vals zs ws->Vals (gV vs zs) (g us ws)
variable{g:List Value->List Value->List Value}{gV:List V->List V->List V}
end
structure FnScope(N P:List Str)(sc:Scope):Prop where
 kind:sc.kind = .function
 co:sc.isCoroutine=false
 gen:sc.isGenerator=false
 nd:N.Nodup
 pre:N.take P.length=P
 par:∀x ∈ P,sc.names.lookup x=some .local\/sc.names.lookup x=some .cell
 nofree:∀y ∈ sc.names,y.2 ≠ .free
theorem ziT{kindOf:Str->Option NameKind}{x:Str}:∀{binds:List (Str×Value)}{m:Str->Option Value},(∀v,(x,v) ∉ binds)->bindL kindOf binds m x=m x
 | [],_,_=>rfl
 |(n,v)::r,m,h=>by
  unfold bindL;rw[ziT λw hw=>h w (zS _ hw)]
  split
  . have:x≠n:=by rintro rfl;exact h v zzB
    simp[this]
  . rfl
theorem zim{kindOf:Str->Option NameKind}{x:Str}:∀{binds:List (Str×Value)}{m:Str->Option Value},(∀v,(x,v) ∉ binds)->bindC kindOf binds m x=m x
 | [],_,_=>rfl
 |(n,v)::r,m,h=>by
  unfold bindC;rw[zim λw hw=>h w (zS _ hw)]
  split
  . rfl
  . have:x≠n:=by rintro rfl;exact h v zzB
    simp[this]
theorem ziO{kindOf:Str->Option NameKind}{x:Str}{v:Value}:∀{P:List Str}{vs:List Value}{i:Nat}{m:Str->Option Value},P.Nodup->P[i]? = some x->vs[i]? = some v->kindOf x=some .local->
 bindL kindOf (P.zip vs) m x=some v
 | [],_,_,_,_,h,_,_=>by simp at h
 |_::_,[],_,_,_,_,h,_=>by simp at h
 |p::P,w::vs,0,m,nd,h1,h2,hk=>by
  simp at h1 h2;subst h1;subst h2;show bindL kindOf ((p,w)::P.zip vs) m p=_;unfold bindL;rw[ziT λv hv=>(zzR.mp nd).1 (List.of_mem_zip hv).1,if_pos hk];simp
 |p::P,w::vs,i+1,m,nd,h1,h2,hk=>by
  show bindL kindOf ((p,w)::P.zip vs) m x=_;unfold bindL;exact ziO (i:=i) (zzR.mp nd).2 (by simpa using h1) (by simpa using h2) hk
theorem ziG{kindOf:Str->Option NameKind}{x:Str}{v:Value}:∀{P:List Str}{vs:List Value}{i:Nat}{m:Str->Option Value},P.Nodup->P[i]? = some x->vs[i]? = some v->kindOf x≠some .local->
 bindC kindOf (P.zip vs) m x=some v
 | [],_,_,_,_,h,_,_=>by simp at h
 |_::_,[],_,_,_,_,h,_=>by simp at h
 |p::P,w::vs,0,m,nd,h1,h2,hk=>by
  simp at h1 h2;subst h1;subst h2;show bindC kindOf ((p,w)::P.zip vs) m p=_;unfold bindC;rw[zim λv hv=>(zzR.mp nd).1 (List.of_mem_zip hv).1,if_neg hk];simp
 |p::P,w::vs,i+1,m,nd,h1,h2,hk=>by
  show bindC kindOf ((p,w)::P.zip vs) m x=_;unfold bindC;exact ziG (i:=i) (zzR.mp nd).2 (by simpa using h1) (by simpa using h2) hk
def start(N:List Str)(vs:List V):St:=vs.map some++List.replicate (N.length-vs.length) none
def zmP(CX:CXT)(P:Program)(w:World)(K:zC)(mg:Str->Option Value)(base:Heap)(N:List Str)(qual:Str)(scope:Scope)(f:Addr)(cd:Value)(A:Around)(outer:List Env)(s:Shared)(H:Hp)(E:XK):Cx where
 prog:=P
 w:=w
 K:=K
 mg:=mg
 base:=base
 A:=A.deeper (envOfC qual scope s.heap.objs.size f cd)
 N:=N
 s₀:=s
 H₀:=H
 env:=envOfC qual scope s.heap.objs.size f cd
 outer:=outer
 stack:=envOfC qual scope s.heap.objs.size f cd::outer
 ex:=[]
 calm:=true
 fn:=λ_=>true
 pn:=[]
 xe:=λe s'=>wpAny (model P w) (A.deeper (envOfC qual scope s.heap.objs.size f cd)) (leaving (envOfC qual scope s.heap.objs.size f cd) e) (λ_ s''=>CX outer H s E e s'') (λe' s''=>CX outer H s E e' s'') s'
theorem zlh{sc:Scope}{n:Nat}{x:Str}(h:sc.names.lookup x=some .cell):∃c,(cellsFrom n sc.names []).lookup x=some c:=by
 have q:=PySem.W.cellsFrom_some sc.names n [] (.inl h);exact Option.isSome_iff_exists.mp q
theorem zoC{CX:CXT}{P:Program}{w:World}{K:zC}{mg:Str->Option Value}{base:Heap}{N ps:List Str}{qual:Str}{scope:Scope}{f:Addr}{cd:Value}{A:Around}{outer:List Env}{s s1:Shared}{H:Hp}{E:XK}{us:List Value}{vs:List V}
 (S:FnScope N ps scope) (hd:A.handled=none) (e0:Env0 P w K mg base A outer s H) (hl:vs.length=ps.length) (r:Vals vs us)
 (x:InCallC s s.heap.objs.size (bindL (envOfC qual scope s.heap.objs.size f cd).kindOf (ps.zip us) λ_=>none) (cellsFrom (s.heap.objs.size+1) scope.names []) (bindC (envOfC qual scope s.heap.objs.size f cd).kindOf (ps.zip us) λ_=>none) s1):
 Inv (zmP CX P w K mg base N qual scope f cd A outer s H E) [] (start N vs) H s1:=by
 have hpl:ps.length<=N.length:=by have:=congrArg List.length S.pre;rw[zzO]at this;omega
 obtain⟨h1,tk,rfl,hk⟩:=x.done;have noA:∀b:Addr,b ∉ (zmP CX P w K mg base N qual scope f cd A outer s H E).ex:=λb z=>absurd (show b ∈ ([]:List Addr)from z) (by simp);refine⟨⟨e0.mod,S.kind,rfl,rfl,zzJ _,λy z c h1 h2=>?_,λy hy=>?_,λy c _ h=>?_,λ_=>hd,Around.frames_deeper e0.frames,.inr ⟨rfl,rfl⟩,λb z=>absurd z (noA b),e0.bs,e0.bsz,λb _ _=>noA b,λb z=>absurd z (noA b),e0.funs,e0.frf⟩,
  rfl,e0.bare,Un.kept hk,⟨_,x.toInCall.ns,λi y v h1 h2 h3=>?_⟩,λy c h=>⟨_,x.cell y c h⟩,e0.hok.fresh (zzJ _),λy c h=>?_,λp hp=>absurd (show p ∈ ([]:List (Addr×Obj))from hp) (by simp),e0.hok.kept hk, ?_⟩
 . exact name_of_addr x.apart (PySem.mem_of_lookup h1) (PySem.mem_of_lookup h2)
 . have hy:scope.names.lookup y=some .cell\/scope.names.lookup y=some .free:=hy
   rcases hy with hy|hy
   . exact zlh hy
   . exact absurd rfl (S.nofree _ (PySem.mem_of_lookup hy))
 . exact Nat.le_of_lt (x.above y c (PySem.mem_of_lookup h))
 . have hi:i<vs.length:=by
    unfold start at h2
    by_cases hi:i<vs.length
    . exact hi
    . rw[zyL (by simpa using hi)]at h2;rw[List.getElem?_replicate]at h2
      split at h2<;>cases h2
   have ha:vs[i]? = some v:=by
    unfold start at h2;rw[zyJ (by simpa using hi),zzE]at h2;cases e:vs[i]? with
    |none=>rw[e]at h2;cases h2
    |some a=>rw[e]at h2;cases h2;rfl
   obtain⟨u,hu,rv⟩:=r.get ha;have hp:ps[i]? = some y:=by
    rw[<-S.pre,List.getElem?_take_of_lt (by omega)];exact h1
   have ndP:ps.Nodup:=by rw[<-S.pre];exact S.nd.sublist (List.take_sublist _ _)
   refine⟨u,rv, ?_⟩
   rcases S.par y (zzU hp)with k|k
   . exact .inl ⟨k,ziO ndP hp hu k⟩
   . obtain⟨c,e⟩:=zlh (n:=s.heap.objs.size+1) k;refine .inr ⟨.inl k,c,e, ?_⟩;have q:=x.cell y c e;rw[ziG ndP hp hu (by show scope.names.lookup y≠_;rw[k];decide)]at q;exact q
 . exact e0.hok.fresh (Nat.le_of_lt (x.above y c (PySem.mem_of_lookup h)))
 . unfold start;show _=N.length;rw[zzF,zD,List.length_replicate];omega
theorem zxe{CX:CXT}{P:Program}{w:World}{K:zC}{mg:Str->Option Value}{base:Heap}{k:Nat}{f:Addr}{name qual:Str}{params:Arguments}{body:List Stmt}{scope:Scope}{dV kV doc pm cdv ct oc:Value}{an od:Option Addr}
 {osl:Array (Option Value)}{N ps:List Str}{sp:Sp}(lk:K.lookup f=some ⟨oc,od,.func (PySem.W.fnOf name qual params body scope dV kV doc pm an cdv ct),osl⟩) (hcd:PySem.W.codeIn K cdv qual=true) (S:FnScope N ps scope)
 (len:∀vs H Q E,sp vs H Q E->vs.length=ps.length)
 (hbody:∀(A:Around) (outer:List Env) (s:Shared) (H:Hp) (vs:List V) (Q:VK) (E:XK),Room k (A.deeper (envOfC qual scope s.heap.objs.size f cdv))->sp vs H Q E->
  ∃t,PSs (zmP CX P w K mg base N qual scope f cdv A outer s H E) body t/\t {nx:=λ_ H'=>Q .non H',rt:=Q} (start N vs) H):
 FnOk P w K mg base CX (k+1) f (PySem.W.fnOf name qual params body scope dV kV doc pm an cdv ct) ps sp:=by
 refine⟨len,λA outer s H args us vs Q E hr e0 hb r hsp=>?_⟩;have hl:=len _ _ _ _ hsp;have KX:K.In s.heap:=e0.mod.kin.keeps λb o e=>(e0.bs b o e).1;have lim:s.heap.NoLimit:=e0.mod.nolimit.keeps λb o e=>(e0.bs b o e).1;have hkind:∀y ∈ ps.zip us,scope.names.lookup y.1=some .local\/(scope.names.lookup y.1=some .cell/\((cellsFrom (s.heap.objs.size+1) scope.names []).lookup y.1).isSome=true):=λ⟨n,v⟩ hy=>by
  rcases S.par n (List.of_mem_zip hy).1 with q|q
  . exact .inl q
  . exact .inr ⟨q,PySem.W.cellsFrom_some _ _ _ (.inl q)⟩
 refine codeAny_call_function hr.depth (KX _ _ lk) rfl S.co S.gen rfl (PySem.W.codeRec_of KX hcd) (hb _ _ _ _ ?_);refine wpAny_newFunctionEnv_cells S.kind hkind λenv he s1 x=>?_;subst he;refine⟨lim.keeps x.toInCall.keep,codeAny_func ?_⟩;obtain⟨t,ht,hq⟩:=hbody A outer s H vs Q E (hr.deeper _) hsp;have I:Inv (zmP CX P w K mg base N qual scope f cdv A outer s H E) [] (start N vs) H s1:=zoC S hr.hd e0 hl r x;refine QzF (ht [] s1 (start N vs) H _ I hq) (λfl s' hs=>?_) λe s' hs=>hs;have fin:∀{σ':St}{H':Hp}{v:V}{u:Value},Inv (zmP CX P w K mg base N qual scope f cdv A outer s H E) [] σ' H' s'->RelV v u->Q v H'->CE outer P w H s Q u s':=
  λ{σ' H' v u} J rv q=>⟨v,H',J.os,J.bare,J.base,J.hok,rv,q⟩
 cases fl with
 |ret u=>
  obtain⟨v,σ',H',J,rv,q⟩:=hs;exact fin J rv q
 |next=>
  obtain⟨σ',H',J,q⟩:=hs;exact fin (v:=V.non) (u:=Value.none) J rfl q
 |brk=>
  obtain⟨_,_,_,q⟩:=hs;exact False.elim q
 |cont=>
  obtain⟨_,_,_,q⟩:=hs;exact False.elim q
end L2
namespace L2
open PySem PySem.Spec PyProof.Rows
section
variable{X:Cx}{x:Str}{p pos:Pos}{e:Expr}{es:List Expr}{t:TA}{id T:String}{r:List V->Hp->VK->Prop}
def tCB(r:List V->Hp->VK->Prop)(t:TA):TE:=λσ H Q=>t σ H λvs H1=>r vs H1 Q
theorem zlc(hc:zbO X (.builtin id) r)(hg:Gl X x)(hm:X.mg x=none)(hv:bootBuiltins x=some (.builtin id))(ha:PA X (e::es) t)(hn:x≠"__name__":=by decide)(hdb:(x==("__debug__":Str))=false:=by decide)
 (he:starEach (e::es) X.env=(false,eval e X.env)::starEach es X.env:=by rfl) (hpl:(backTo pos (starEach es X.env)).any (·.1)=false:=by rfl):PE X (.Call (.Name x p) (e::es) [] pos) (tCB r t):=by
 intro pins s σ H Q I h;refine wpAny_Call_Name_kw (zcx I hg hm hv ?_ hn hdb);exact PyProof.Rows.callWith_builtin1 (thn (ha pos pins s σ H _ I h) λus s1 ⟨vs,H1,I1,r1,q1⟩=>hc pins s1 σ H1 vs us Q I1 r1 q1) he hpl
theorem zoQ(hc:zbO X (.type T) r)(hg:Gl X x)(hm:X.mg x=none)(hv:bootBuiltins x=some (.type T))(ha:PA X (e::es) t)(hn:x≠"__name__":=by decide)(hdb:(x==("__debug__":Str))=false:=by decide)
 (he:starEach (e::es) X.env=(false,eval e X.env)::starEach es X.env:=by rfl) (hpl:(backTo pos (starEach es X.env)).any (·.1)=false:=by rfl):PE X (.Call (.Name x p) (e::es) [] pos) (tCB r t):=by
 intro pins s σ H Q I h;refine wpAny_Call_Name_kw (zcx I hg hm hv ?_ hn hdb);exact PyProof.Rows.callWith_type1 (thn (ha pos pins s σ H _ I h) λus s1 ⟨vs,H1,I1,r1,q1⟩=>hc pins s1 σ H1 vs us Q I1 r1 q1) he hpl
end
end L2
namespace L2
open PySem PySem.Spec PyProof.Rows
section
variable{κ:Type}[DecidableEq κ]
def zaD(kvs:List (κ×V))(k:κ):Option V:=(kvs.find? λkv=>decide (kv.1=k)).map (·.2)
def putK(kvs:List (κ×V))(k:κ)(v:V):List (κ×V):=
 if(kvs.any λkv=>decide (kv.1=k))=true then kvs.map (λkv=>if kv.1=k then(kv.1,v)else kv)else kvs++[(k,v)]
theorem zlS{p:κ×V}{r:List (κ×V)}{k:κ}(e:p.1=k):zaD (p::r) k=some p.2:=by simp[zaD,List.find?_cons,e]
theorem zkU{p:κ×V}{r:List (κ×V)}{k:κ}(e:¬p.1=k):zaD (p::r) k=zaD r k:=by simp[zaD,List.find?_cons,e]
theorem zgI(k:κ):∀kvs:List (κ×V),(kvs.any λkv=>decide (kv.1=k))=(zaD kvs k).isSome
 | []=>rfl
 |p::r=>by
  rw[List.any_cons]
  by_cases e:p.1=k
  . simp only[zlS e,zyI e,Bool.true_or,Option.isSome_some]
  . rw[zkU e,zyA e,Bool.false_or];exact zgI k r
theorem zlY(kvs:List (κ×V))(k:κ)(v:V):(putK kvs k v).length<=kvs.length+1:=by
 unfold putK
 split
 . rw[zD];omega
 . rw[zzF,zzP,List.length_nil];omega
theorem zqf{kvs:List (κ×V)}{k:κ}(v:V)(h:zaD kvs k=none):putK kvs k v=kvs++[(k,v)]:=by
 unfold putK;rw[zgI,h];exact if_neg (by decide)
theorem zhT.isSome_eq(r:zhT o u):o.isSome=u.isSome:=by
 cases o with
 |none=>cases u with
  |none=>rfl
  |some _=>exact(show False from r).elim
 |some _=>cases u with
  |none=>exact(show False from r).elim
  |some _=>rfl
theorem zhT.getD(r:zhT o u)(rd:RelV d d'):RelV (o.getD d) (u.getD d'):=by
 cases o with
 |none=>cases u with
  |none=>exact rd
  |some _=>exact(show False from r).elim
 |some _=>cases u with
  |none=>exact(show False from r).elim
  |some _=>exact r
theorem KV.val{kvs:List (κ×V)}{vs:List (κ×Value)}(r:KV kvs vs)(k:κ):zhT (zaD kvs k) (valueAt vs k):=by
 unfold KV at r
 induction r with
 |nil=>exact True.intro
 | @cons p q ps qs h t ih=>
  obtain⟨h1,h2⟩:=h
  by_cases e:p.1=k
  . have e':q.1=k:=h1.symm.trans e;have b:valueAt (q::qs) k=some q.2:=by simp[valueAt,List.find?_cons,e']
    rw[zlS e,b];exact h2
  . have e':¬q.1=k:=λz=>e (h1.trans z);have b:valueAt (q::qs) k=valueAt qs k:=by simp[valueAt,List.find?_cons,e']
    rw[zkU e,b];exact ih
theorem KV.any(r:KV kvs vs)(k:κ):(kvs.any λkv=>decide (kv.1=k))=vs.any λkv=>decide (kv.1=k):=by
 unfold KV at r
 induction r with
 |nil=>rfl
 |cons h t ih=>rw[List.any_cons,List.any_cons,ih,h.1]
theorem KV.repl(r:KV kvs vs)(k:κ)(ry:RelV y u):
 KV (kvs.map λkv=>if kv.1=k then(kv.1,y)else kv) (vs.map λkv=>if kv.1=k then(kv.1,u)else kv):=by
 unfold KV at r ⊢
 induction r with
 |nil=>exact .nil
 | @cons p q ps qs h t ih=>
  rw[zyM,zyM];refine .cons ?_ ih;obtain⟨h1,h2⟩:=h
  by_cases e:p.1=k
  . rw[if_pos e,if_pos (h1.symm.trans e)];exact⟨h1,ry⟩
  . rw[if_neg e,if_neg (λz=>e (h1.trans z))];exact⟨h1,h2⟩
theorem KV.put(r:KV kvs vs)(k:κ)(ry:RelV y u):KV (putK kvs k y) (stored vs k u):=by
 unfold putK stored;rw[r.any k]
 by_cases e:(vs.any λkv=>decide (kv.1=k))=true
 . rw[if_pos e,if_pos e];exact r.repl k ry
 . rw[if_neg e,if_neg e];exact Paired.snoc r ⟨rfl,ry⟩
theorem KV.length(r:KV kvs vs):kvs.length=vs.length:=Paired.length r
end
theorem zib(r:RelV (kV k) u):(wM P w).is k u=true:=by
 cases k with
 |inl i=>obtain⟨t,e⟩:=(show ∃t,u=Value.int i t from r);subst e;exact zmn P w i t
 |inr x=>obtain⟨t,e⟩:=(show ∃t,u=Value.str x t from r);subst e;exact zaE P w x t
section
variable{P:Program}{w:World}{H:Hp}{h:Heap}{a:Addr}
theorem zxh(ok:HOk P w H h)(e:Rd H a u):v7 P w H h a u:=e.ok ok
theorem zub(ok:HOk P w H h)(e:Rd H a (.dK kvs)):kvs.length<=sizeLine/\(a==sysModules)=false/\∃vs,KV kvs vs/\h.DictOf (wM P w) a vs:=
 show v7 P w H h a (.dK kvs)from zxh ok e
theorem zwI(ok:HOk P w H h)(e:H a=some (.dK kvs)):kvs.length<=sizeLine/\(a==sysModules)=false/\∃vs,KV kvs vs/\h.DictOf (wM P w) a vs:=zub ok (.inl e)
end
section
variable{X:Cx}{pins:List (Addr×Obj)}{σ:St}{H:Hp}{s:Shared}{a:Addr}{y v:V}{u r:Value}{o:Option V}{A:Around}{E:Value->Shared->Prop}
theorem Inv.big(I:Inv X pins σ H s):sysModules<s.heap.objs.size:=by
 have h:mainGlobals<s.heap.objs.size:=(I.mod.glob.keeps I.bk).lt;exact Nat.lt_trans (by decide) h
theorem zta(I:Inv X pins σ H s)(mu:Mut (H a))(hs:Heap.SameBut a s.heap h')(he:∃q,h'.get? a=some q)(new:v7 X.prog X.w (upd H a ob) h' a ob):
 Inv X pins σ (upd H a ob) {s with heap:=h',toks:=t'}:=
 I.write (x:=a) (e:=a) mu (.inl rfl) (λb q hb z=>(hs.2 b hb).trans z) he new
theorem zvo(z:kvs.length<=sizeLine)(hd:(a==sysModules)=false)(rel:KV kvs vs)(dd:h'.DictOf (wM P w) a vs):
 v7 P w H' h' a (.dK kvs):=⟨z,hd,vs,rel,dd⟩
end
theorem zrS(h:Heap)(hb:sysModules<h.objs.size):v7 P w H (h.push {cls:=.type "dict",data:=.dict #[]}) h.objs.size (.dK []):=
 ⟨Nat.zero_le _,beq_eq_false_iff_ne.mpr (Ne.symm (zzM hb)),[],.nil,Heap.DictOf.new h⟩
def zkH:List (TE×TE)->St->Hp->(List (V×V)->Hp->Prop)->Prop
 | [],_,H,Q=>Q [] H
 |(tk,tv)::r,σ,H,Q=>tk σ H λx H1=>tv σ H1 λy H2=>zkH r σ H2 λps H3=>Q ((x,y)::ps) H3
abbrev VV:List (V×V)->List (Value×Value)->Prop:=Paired λp q=>RelV p.1 q.1/\RelV p.2 q.2
def PPs(X:Cx)(pos:Pos)(keys:List (Option Expr))(values:List Expr)(trs:List (TE×TE)):Prop:=
 ∀(pins:List (Addr×Obj)) (s:Shared) (σ:St) (H:Hp) (Q:List (V×V)->Hp->Prop),Inv X pins σ H s->zkH trs σ H Q->
  wpAny (model X.prog X.w) X.A (evalPairs (pairTrees keys values X.env pos)) (λvs s'=>∃ps H',Inv X pins σ H' s'/\VV ps vs/\Q ps H') X.xe s
theorem zdr:PPs X pos [] [] []:=λpins s σ H Q I h=>pairTrees_nil_walk ⟨[],H,I,.nil,h⟩
theorem zqv(hk:PE X k tk)(hv:PE X v tv)(hr:PPs X pos ks vs trs):
 PPs X pos (some k::ks) (v::vs) ((tk,tv)::trs):=λpins s σ H Q I h=>
 pairTrees_cons_walk (thn (hk pins s σ H _ I h) λu s1 ⟨x,H1,I1,rx,q1⟩=>thn (hv pins s1 σ H1 _ I1 q1) λw2 s2 ⟨y,H2,I2,ry,q2⟩=>
  thn (hr pins s2 σ H2 _ I2 q2) λws s3 ⟨ps,H3,I3,rel,q3⟩=>⟨(x,y)::ps,H3,I3,.cons ⟨rx,ry⟩ rel,q3⟩)
def zcH(kvs more:List (Key×V)):List (Key×V):=more.foldl (λacc kv=>putK acc kv.1 kv.2) kvs
theorem KV.merge:∀{more:List (Key×V)}{rs:List (Key×Value)}{kvs:List (Key×V)}{vs:List (Key×Value)},KV more rs->KV kvs vs->KV (zcH kvs more) (merged vs rs):=by
 intro more rs kvs vs r;unfold KV at r
 induction r generalizing kvs vs with
 |nil=>intro q;exact q
 | @cons p q ps qs h t ih=>
  intro r0;have e:KV (putK kvs p.1 p.2) (stored vs q.1 q.2):=by
   have:=r0.put p.1 h.2;rw[<-h.1];exact this
  exact ih e
theorem zcd:∀(more kvs:List (Key×V)),(zcH kvs more).length<=kvs.length+more.length
 | [],kvs=>by show kvs.length<=kvs.length+0;omega
 |p::r,kvs=>by
  have h1:=zcd r (putK kvs p.1 p.2);have h2:=zlY kvs p.1 p.2;show(zcH (putK kvs p.1 p.2) r).length<=_;rw[zzP];omega
theorem zgm:∀{kvs:List (Key×V)}{ws:List (Value×Value)},VV (kvs.map λkv=>(kV kv.1,kv.2)) ws->∃rs,Carries (wM P w) ws rs/\KV kvs rs
 | [],_,r=>by rw[List.map_nil]at r;cases r;exact⟨[],True.intro,.nil⟩
 |p::kvs,_,r=>by
  rw[zyM]at r;cases r with
  | @cons a b as bs h t=>
   obtain⟨rs,c,q⟩:=zgm (P:=P) (w:=w) t;obtain⟨b1,b2⟩:=b;exact⟨(p.1,b2)::rs,⟨zib h.1,rfl,c⟩,.cons ⟨rfl,h.2⟩ q⟩
def zwZ(trs:List (TE×TE)):TE:=λσ H Q=>∀p,H p=none->zkH trs σ (upd H p (.dK [])) λps H2=>H2 p=some (.dK [])/\∃kvs:List (Key×V),ps=kvs.map (λkv=>(kV kv.1,kv.2))/\kvs.length<=15/\Q (.ref p) (upd H2 p (.dK (zcH [] kvs)))
theorem zsM(h:PPs X pos keys values trs)(hall:keys.all (·.isSome)=true)(hl:keys.length=values.length)(h0:keys≠[])
 (h15:keys.length<=15):PE X (.Dict keys values pos) (zwZ trs):=by
 intro pins s σ H Q I q;have hn:=I.hok.fresh (zzJ s.heap.objs.size);have I1:=I.laid (a:=s.heap.objs.size) (o:=.dK []) (h':=s.heap.push {cls:=.type "dict",data:=.dict #[]}) (t':=s.toks) (λ_ _ q=>zyZ _ q) (zzJ _) (zrS s.heap I.big);refine wpAny_Dict_walk (knd:=wM X.prog X.w) hall hl h0 h15 (thn (h pins _ σ _ _ I1 (q _ hn)) λws s2 ⟨ps,H2,I2,rel,e,kvs,ep,lk,q2⟩=>?_);subst ep;obtain⟨rs,c,rk⟩:=zgm (P:=X.prog) (w:=X.w) rel;obtain⟨z,hd,vs0,r0,dd⟩:=zwI I2.hok e;cases r0;refine⟨rs,c,dd,λh' dd' hs=>⟨.ref s.heap.objs.size,_, ?_,rfl,q2⟩⟩;have hz:(zcH [] kvs).length<=sizeLine:=by
  have h1:=zcd kvs [];rw[List.length_nil]at h1;rw[sizeLine_eq];omega
 have he:∃q,h'.get? s.heap.objs.size=some q:=let⟨q,_,_,hq,_⟩:=dd';⟨q,hq⟩;exact zta I2 (by rw[e];exact True.intro) hs he (zvo hz hd (rk.merge .nil) dd')
structure M1(X:Cx)(o:Expr)(m:Str)(apos:Pos)(e:Expr)(cpos:Pos):Prop where
 base:attributeBase o m X.env (eval o X.env)=eval o X.env
 few:((backTo cpos (starEach [e] X.env)).all (λx=>!x.1)&&(backToKw cpos (keywordEach [] X.env)).all (λx=>x.1.isSome)
  && decide (([e]:List Expr).length+([]:List Keyword).length+(if([]:List Keyword).isEmpty then 0 else 1)<30))=true
 line:(apos.endLine==cpos.line)=true
 trees:backTo cpos (starEach [e] X.env)=[(false,eval e X.env)]
structure M2(X:Cx)(o:Expr)(m:Str)(apos:Pos)(e f:Expr)(cpos:Pos):Prop where
 base:attributeBase o m X.env (eval o X.env)=eval o X.env
 few:((backTo cpos (starEach [e,f] X.env)).all (λx=>!x.1)&&(backToKw cpos (keywordEach [] X.env)).all (λx=>x.1.isSome)
  && decide (([e,f]:List Expr).length+([]:List Keyword).length+(if([]:List Keyword).isEmpty then 0 else 1)<30))=true
 line:(apos.endLine==cpos.line)=true
 trees:backTo cpos (starEach [e,f] X.env)=[(false,eval e X.env),(false,eval f X.env)]
end L2
namespace HT
open PySem PyProof.Rows
section
variable{prog:Program}{w:World}{A:Around}{E:Value->Shared->Prop}{s:Shared}
theorem ztC(ht:IsTup s.heap t vs.toArray)(hb:IsTup s.heap b ws.toArray)(hv:vs≠[])
 (h1:ws=[]->Q (.ref t) s) (h2:ws≠[]->Q (.ref s.heap.objs.size) {s with heap:=s.heap.push {cls:=.type "tuple",data:=.seq (vs++ws).toArray}})
 (hsz:vs.length+ws.length<=sizeLine):wpAny (model prog w) A (binaryOp .Add (.ref t) (.ref b)) Q E s:=by
 obtain⟨⟨cls,dd,data,sl⟩,ho,hc,n,hd⟩:=id ht;obtain⟨⟨cls2,dd2,data2,sl2⟩,ho2,hc2,n2,hd2⟩:=id hb;simp only at hc hd hc2 hd2;subst hc hd hc2 hd2;have e:vs.toArray++ws.toArray=(vs++ws).toArray:=by simp
 by_cases hw:ws=[]
 . exact concat_meets ⟨_,ho,rfl⟩ ⟨_,ho2,rfl⟩ noFill_tuple_add seq_tuple_add PySem.F.slot_tuple_add PySem.F.entry_tuple_add (PySem.F.args_tuple_add_2 _ _)
    (tuple_addW1 t b vs.toArray ws.toArray n n2 dd dd2 sl sl2 (by simpa using hv) (by simp[hw])) ⟨ho,ho2,h1 hw⟩
 . refine concat_meets ⟨_,ho,rfl⟩ ⟨_,ho2,rfl⟩ noFill_tuple_add seq_tuple_add PySem.F.slot_tuple_add PySem.F.entry_tuple_add (PySem.F.args_tuple_add_2 _ _)
    (tuple_addW2 t b vs.toArray ws.toArray n n2 dd dd2 sl sl2 (by simpa using hv) (by simpa using hw) (by rw[zzD,zzD];exact hsz)) ⟨ho,ho2, ?_⟩
   rw[e];exact h2 hw
def sIx(n d:Nat):Option Int->Nat
 |none=>d
 |some v=>if v<0 then(v+(n:Int)).toNat else min v.toNat n
theorem zkZ(n d:Nat):sIx n d none=d:=rfl
theorem zon(n d k:Nat):sIx n d (some (k:Int))=min k n:=by
 show(if(k:Int)<0 then((k:Int)+(n:Int)).toNat else min (k:Int).toNat n)=min k n;rw[if_neg (by omega),zyC]
theorem zuL(n d:Nat)(hd:d<=n)(o:Option Int):sIx n d o<=n:=by
 cases o with
 |none=>exact hd
 |some v=>
  show(if v<0 then(v+(n:Int)).toNat else min v.toNat n)<=n
  by_cases hv:v<0
  . rw[if_pos hv];omega
  . rw[if_neg hv];exact Nat.min_le_right _ _
theorem znZ(v:Int)(n d:Nat):(if v<0 then max (v+(n:Int)) 0 else min v (n:Int))=((sIx n d (some v):Nat):Int):=by
 show(if v<0 then max (v+(n:Int)) 0 else min v (n:Int))=(((if v<0 then(v+(n:Int)).toNat else min v.toNat n):Nat):Int)
 by_cases hv:v<0
 . simp only[if_pos hv];omega
 . simp only[if_neg hv];omega
theorem zna(lo hi:Option Int)(n:Nat):Builtin.Slice.sliceAdjust lo hi 1 (n:Int)=(((sIx n 0 lo:Nat):Int),((sIx n n hi:Nat):Int)):=by
 have h1:¬((1:Int)<0):=by omega
 unfold Builtin.Slice.sliceAdjust;simp only[h1,if_false];refine Prod.ext ?_ ?_
 . cases lo with
   |none=>rfl
   |some v=>exact znZ v n 0
 . cases hi with
   |none=>rfl
   |some v=>exact znZ v n n
theorem znj(i j:Nat):Builtin.Slice.slicePlaces (i:Int) (j:Int) 1=j-i:=by
 unfold Builtin.Slice.slicePlaces;have h1:(1:Int) > 0:=by omega
 simp only[h1,if_true,Int.ediv_one]
 split<;>omega
theorem zgG(p:IsPart v o)(h:Q o s):wpAny (model prog w) A (Builtin.Slice.slicePartIndex v) Q E s:=by
 cases p with
 |none=>exact slicePart_none h
 |int i t=>exact slicePart_int h
theorem zdR{sl:Addr}{vl vu:Value}{lo hi:Option Int}{n:Nat}{Q:Int×Int×Nat->Shared->Prop}(hs:s.heap.IsSliceOf sl vl vu .none)(pl:IsPart vl lo)(pu:IsPart vu hi)
 (h:Q (((sIx n 0 lo:Nat):Int),1,sIx n n hi-sIx n 0 lo) s):wpAny (model prog w) A (Builtin.Slice.sliceApplied (.ref sl) (pure (n:Int))) Q E s:=by
 obtain⟨os,hos,hcs,hds⟩:=id hs;unfold Builtin.Slice.sliceApplied Builtin.Slice.sliceFields;refine zyX (zyX (wpAny_field hos hds (x:=vl) rfl (zyX (wpAny_field hos hds (x:=vu) rfl (zyX (wpAny_field hos hds (x:=.none) rfl (zyY ?_)))))));refine zyX (slicePart_none ?_);show wpAny _ _ (if((1:Int)==0)=true then _ else _) _ _ s;rw[if_neg (by decide)];refine zyX (zgG pl (zyX (zgG pu (zyX (zyY ?_)))));show wpAny _ _ (match Builtin.Slice.sliceAdjust lo hi 1 (n:Int)with|(lo,hi)=>pure (lo,(1:Int),Builtin.Slice.slicePlaces lo hi 1)) _ _ s;rw[zna lo hi n];show wpAny _ _ (pure (((sIx n 0 lo:Nat):Int),(1:Int),Builtin.Slice.slicePlaces ((sIx n 0 lo:Nat):Int) ((sIx n n hi:Nat):Int) 1)) _ _ s;rw[znj];exact zyY h
theorem zpW(xs:Array Value)(i k:Nat):((List.range k).filterMap λ(m:Nat)=>xs[((i:Int)+(m:Int)*1).toNat]?).toArray=((xs.toList.drop i).take k).toArray:=by
 have e:(λ(m:Nat)=>xs[((i:Int)+(m:Int)*1).toNat]?)=λm=>xs[i+m]? := by
  funext m;have:((i:Int)+(m:Int)*1).toNat=i+m:=by omega
  rw[this]
 rw[e];have:=pick_run xs i k;rw[List.filterMap_map]at this;have e2:((λx=>xs[x]?)∘λx=>i+x)=λm=>xs[i+m]? := rfl;rw[e2]at this;rw[this]
theorem zcQ{t sl:Addr}{items:Array Value}{vl vu:Value}{lo hi:Option Int}{Q:Value->Shared->Prop}(ht:IsTup s.heap t items)(hs:s.heap.IsSliceOf sl vl vu .none)(pl:IsPart vl lo)(pu:IsPart vu hi)
 (hw:¬(sIx items.size 0 lo=0/\sIx items.size items.size hi=items.size))
 (h:Q (.ref s.heap.objs.size) {s with heap:=s.heap.push {cls:=.type "tuple",data:=.seq ((items.toList.drop (sIx items.size 0 lo)).take (sIx items.size items.size hi-sIx items.size 0 lo)).toArray}})
 (hsz:items.size<=sizeLine):wpAny (model prog w) A (getItem (.ref t) (.ref sl)) Q E s:=by
 have htake:sizeOk (.seq ((items.toList.drop (sIx items.size 0 lo)).take (sIx items.size items.size hi-sIx items.size 0 lo)).toArray):=by
  show((items.toList.drop (sIx items.size 0 lo)).take (sIx items.size items.size hi-sIx items.size 0 lo)).toArray.size<=sizeLine;rw[zzD,zzO,List.length_drop,zyN];omega
 have hj:sIx items.size items.size hi<=items.size:=zuL _ _ (zzJ _) hi;obtain⟨os,hos,hcs,hds⟩:=id hs;have hTs:s.TypeIs (.ref sl) "slice":=⟨os,hos,hcs⟩;unfold getItem
 try with_reducible refine QzD ?_
 first|refine zyX (zyY ?_)|skip
 refine zyX (wpAny_sequenceKey ht.typeIs (by decide) ?_);refine zyX (wpAny_callSpecial?_slot (name:=Str.ofString "__getitem__") ht.typeIs PyProof.Rows.slot_tuple_getitem
  (wpAny_call_entry PyProof.Rows.slot_tuple_getitem ht.typeIs entry_tuple_getitem ?_ (args_tuple_getitem _ _)))
 show wpAny _ _ (Builtin.Tuple.tupleItemsOf (.ref t) >>= _) _ _ s;refine zyX (tupleItemsOf_ ht ?_);refine zyX (wpAny_typeOf hTs ?_);rw[if_pos (by decide)];refine zyX (zdR hs pl pu ?_);have hno:¬((((sIx items.size 0 lo:Nat):Int)==0&&(1:Int)==1&&(sIx items.size items.size hi-sIx items.size 0 lo)==items.size)=true):=by
  intro q;rw[zzW,zzW]at q;have q1:((sIx items.size 0 lo:Nat):Int)=0:=eq_of_beq q.1.1;have q2:sIx items.size items.size hi-sIx items.size 0 lo=items.size:=eq_of_beq q.2;exact hw ⟨by omega,by omega⟩
 show wpAny _ _ (if(((sIx items.size 0 lo:Nat):Int)==0&&(1:Int)==1&&(sIx items.size items.size hi-sIx items.size 0 lo)==items.size)=true then _ else _) _ _ s;rw[if_neg hno,zpW]
 first
  |exact zyX (m:=Builtin.Tuple.tupleExact _) (QzC (zyY ⟨_,rfl,zyY h⟩) htake)
  |exact zyX (m:=Builtin.Tuple.tupleExact _) (QzC (zyX (zyY (zyY ⟨_,rfl,zyY h⟩))) htake)
  |exact zyX (zyX (m:=Builtin.Tuple.tupleExact _) (QzC (zyY (zyY ⟨_,rfl,zyY h⟩)) htake))
  |exact zyX (zyX (m:=Builtin.Tuple.tupleExact _) (QzC (zyY ⟨_,rfl,zyY h⟩) htake))
end
end HT
namespace L2
open PySem PySem.Spec PyProof.Rows
abbrev TO:=St->Hp->(Option Int->Hp->Prop)->Prop
def PO(X:Cx)(e:Option Expr)(t:TO):Prop:=
 ∀(pins:List (Addr×Obj)) (s:Shared) (σ:St) (H:Hp) (Q:Option Int->Hp->Prop),Inv X pins σ H s->t σ H Q->
  wpAny (model X.prog X.w) X.A (evalPart e X.env) (λu s'=>∃o H',Inv X pins σ H' s'/\IsPart u o/\Q o H') X.xe s
def ztz:TO:=λ_ H Q=>Q none H
def zwv(t:TE):TO:=λσ H Q=>t σ H λx H1=>∃i,x = .int i/\Q (some i) H1
theorem intsAre_of:∀{us:List Value},Vals (ns.map V.int) us->IntsAre us ns:=by
 induction ns with
 |nil=>intro us r;rw[List.map_nil]at r;cases r;exact .nil
 |cons n ns ih=>
  intro us r;rw[zyM]at r;cases r with
  |cons r1 r2=>
   obtain⟨t,e⟩:=r1;subst e;exact .cons n t (ih r2)
section
variable{X:Cx}{e:Expr}{te:TE}{lo hi:Option Expr}{tl th:TO}{pos p2:Pos}
theorem ztm:PO X none ztz:=by
 intro pins s σ H Q I h;rw[evalPart_none];exact zyY ⟨none,H,I,.none,h⟩
theorem zts(h:PE X e te):PO X (some e) (zwv te):=by
 intro pins s σ H Q I hw;rw[evalPart_some];refine thn (h pins s σ H _ I hw) λu s1 ⟨x,H1,I1,r1,q1⟩=>?_;obtain⟨i,rfl,q⟩:=q1;obtain⟨t,rfl⟩:=r1;exact⟨some i,H1,I1,.int i t,q⟩
def SlR(X:Cx)(r:V->Option Int->Option Int->Hp->VK->Prop):Prop:=
 ∀(pins:List (Addr×Obj)) (s:Shared) (σ:St) (H:Hp) (x:V) (v vl vu:Value) (lo hi:Option Int) (sl:Addr) (Q:VK),Inv X pins σ H s->RelV x v->s.heap.IsSliceOf sl vl vu .none->IsPart vl lo->IsPart vu hi->r x lo hi H Q->
  ∃T id,typeLookup (.type T) "__getitem__"=pure (some (.builtin id))/\s.TypeIs v T/\wpAny (model X.prog X.w) X.A (getItem v (.ref sl)) (EP X pins σ Q) X.xe s
def tSl(r:V->Option Int->Option Int->Hp->VK->Prop)(te:TE)(tl th:TO):TE:=λσ H Q=>te σ H λx H1=>tl σ H1 λl H2=>th σ H2 λu H3=>r x l u H3 Q
theorem zlp(hr:SlR X r)(he:PE X e te)(hl:PO X lo tl)(hu:PO X hi th):PE X (.Subscript e (.Slice lo hi none p2) pos) (tSl r te tl th):=by
 intro pins s σ H Q I h;refine Subscript_ (thn (he pins s σ H _ I h) λv s1 ⟨x,H1,I1,r1,q1⟩=>?_);refine wpAny_Slice (thn (hl pins s1 σ H1 _ I1 q1) λvl s2 ⟨l,H2,I2,pl,q2⟩=>thn (hu pins s2 σ H2 _ I2 q2) λvu s3 ⟨u,H3,I3,pu,q3⟩=>?_);rw[evalPart_none];refine zyY ?_;have I4:Inv X pins σ H3 {s3 with heap:=s3.heap.push {cls:=.type "slice",data:=.fields #[vl,vu,.none]}}:=I3.kept (t':=s3.toks) λb ob q=>zyZ _ q;obtain⟨T,id,hT,ht,hg⟩:=hr pins {s3 with heap:=s3.heap.push {cls:=.type "slice",data:=.fields #[vl,vu,.none]}} σ H3 x v vl vu l u s3.heap.objs.size Q I4 r1 (Heap.IsSliceOf.new ..) pl pu q3;show wpAny (model X.prog X.w) X.A (subscriptTail e (.Slice lo hi none p2) v (.ref s3.heap.objs.size)) (EP X pins σ Q) X.xe {s3 with heap:=s3.heap.push {cls:=.type "slice",data:=.fields #[vl,vu,.none]}};exact tail_any (ops:=[.ref s3.heap.objs.size,v]) ht hT hg (by with_unfolding_all rfl)
def zlj(xs:List V)(lo hi:Option Int):List V:=(xs.drop (HT.sIx xs.length 0 lo)).take (HT.sIx xs.length xs.length hi-HT.sIx xs.length 0 lo)
theorem zfc(xs:List V)(lo hi:Option Int):(zlj xs lo hi).length<=xs.length:=by
 unfold zlj;rw[zzO,List.length_drop];omega
def zyi(K:zC):V->Option Int->Option Int->Hp->VK->Prop:=λx lo hi H Q=>∃a xs,x = .ref a/\SqT K H a xs/\
 ¬(HT.sIx xs.length 0 lo=0/\HT.sIx xs.length xs.length hi=xs.length)/\∀p,H p=none->Q (.ref p) (upd H p (.tup (zlj xs lo hi)))
theorem zvc:SlR X (zyi X.K):=by
 intro pins s σ H x v vl vu lo hi sl Q I rx hs pl pu h;obtain⟨a,xs,rfl,hx,hw,q⟩:=h;cases rx;obtain⟨its,r,ht,hz⟩:=I.tuple hx;have hlen:its.toArray.size=xs.length:=by rw[zzD];exact r.length.symm
 refine⟨"tuple",_,PyProof.Rows.slot_tuple_getitem.lookup,ht.typeIs, ?_⟩;refine HT.zcQ ht hs pl pu (by rw[hlen];exact hw) ?_ (by rw[hlen];exact hz);rw[hlen];refine⟨.ref s.heap.objs.size,_,I.laid (t':=s.toks) (o:=.tup (zlj xs lo hi)) (λb ob q=>zyZ _ q) (zzJ _) ?_,rfl,q _ (I.hok.fresh (zzJ _))⟩;exact⟨zzK (zfc xs lo hi) hz,_,(r.drop (HT.sIx xs.length 0 lo)).take (HT.sIx xs.length xs.length hi-HT.sIx xs.length 0 lo),IsTup.new _ _⟩
def zxs(K:zC):R2:=λx y H Q=>∃a b xs ys,x = .ref a/\y = .ref b/\SqT K H a xs/\SqT K H b ys/\xs≠[]/\xs.length+ys.length<=sizeLine/\
 (ys=[]->Q (.ref a) H)/\(ys≠[]->∀p,H p=none->Q (.ref p) (upd H p (.tup (xs++ys))))
theorem Vals.nil_iff(r:Vals xs us):us=[] ↔ xs=[]:=by
 cases r with
 |nil=>simp
 |cons _ _=>simp
theorem zsI:OpR X (binaryOp .Add) (zxs X.K):=by
 intro pins s σ H x y v u Q I rx ry h;obtain⟨a,b,xs,ys,rfl,rfl,ha,hb,hx,hz,q1,q2⟩:=h;cases rx;cases ry;obtain⟨its,r1,p1,_⟩:=I.tuple ha;obtain⟨its2,r2,p2,_⟩:=I.tuple hb;refine HT.ztC p1 p2 (λz=>hx (r1.nil_iff.mp z)) (λz=>⟨.ref a,H,I,rfl,q1 (r2.nil_iff.mp z)⟩) (λz=>?_) (by rw[<-r1.length,<-r2.length];exact hz);refine⟨.ref s.heap.objs.size,_,I.laid (t':=s.toks) (o:=.tup (xs++ys)) (λb ob q=>zyZ _ q) (zzJ _) ?_,rfl,q2 (λw=>z (r2.nil_iff.mpr w)) _ (I.hok.fresh (zzJ _))⟩;exact⟨by rw[zzF];exact hz,_,r1.append r2,IsTup.new _ _⟩
end
end L2
namespace L2
open PySem PySem.Spec PyProof.Rows
def ixN(n:Nat)(i:Int):Option Nat:=if 0<=i then(if i<n then some i.toNat else none)else if -(n:Int)<=i then some (i+n).toNat else none
def atI{α:Type}(xs:List α)(i:Int):Option α:=(ixN xs.length i).bind λj=>xs[j]?
theorem znD(h:ixN n i=some j):seqIndex? i n=some j/\j<n /\ -(n:Int)<=i/\i<n:=by
 unfold ixN at h
 by_cases h0:0<=i
 . rw[if_pos h0]at h
   by_cases h1:i<n
   . rw[if_pos h1]at h;have e:i.toNat=j:=zzT h;exact⟨by rw[seqIndex_of h0 h1,e],by omega,by omega,h1⟩
   . rw[if_neg h1]at h;cases h
 . rw[if_neg h0]at h
   by_cases h1 : -(n:Int)<=i
   . rw[if_pos h1]at h;have e:(i+n).toNat=j:=zzT h;exact⟨by rw[seqIndex_neg (by omega) h1,e],by omega,h1,by omega⟩
   . rw[if_neg h1]at h;cases h
theorem zkc(h:atI xs i=some v):∃j,seqIndex? i xs.length=some j/\xs[j]? = some v/\j<xs.length /\ -(xs.length:Int)<=i/\i<xs.length:=by
 unfold atI at h;cases e:ixN xs.length i with
 |none=>rw[e]at h;cases h
 |some j=>
  rw[e]at h;obtain⟨h1,h2,h3,h4⟩:=znD e;exact⟨j,h1,h,h2,h3,h4⟩
theorem Wr{α:Type}{xs:List α}{j:Nat}{v:α}(h:xs[j]? = some v):atI xs (j:Int)=some v:=by
 have hj:j<xs.length:=(zzC.mp h).1;have e:ixN xs.length (j:Int)=some j:=by
  unfold ixN;rw[if_pos (by omega),if_pos (by omega)];simp
 unfold atI;rw[e];exact h
def zkF(b:Expr):Prop:=∀o i,subscripted b false o i=operate [o,i] (getItem o i)
def IxR(X:Cx)(r:R2):Prop:=
 ∀(value slice:Expr) (pins:List (Addr×Obj)) (s:Shared) (σ:St) (H:Hp) (x y:V) (v u:Value) (Q:VK),Inv X pins σ H s->RelV x v->RelV y u->r x y H Q->
  subscripted slice false v u=operate [v,u] (getItem v u)->wpAny (model X.prog X.w) X.A (subscriptTail value slice v u) (EP X pins σ Q) X.xe s
def MtR(X:Cx)(id:String)(r:V->List V->Hp->VK->Prop):Prop:=
 ∀(pins:List (Addr×Obj)) (s:Shared) (σ:St) (H:Hp) (x:V) (xs:List V) (v:Value) (us:List Value) (Q:VK),Inv X pins σ H s->RelV x v->Vals xs us->r x xs H Q->
  wpAny (model X.prog X.w) X.A (call (.builtin id) (v::us)) (EP X pins σ Q) X.xe s
section
variable{X:Cx}{a b:Expr}{ta tb:TE}{pos:Pos}
theorem zxj(hr:IxR X r)(ha:PE X a ta)(hb:PE X b tb)(hs:zkF b):PE X (.Subscript a b pos) (tOp r ta tb):=by
 intro pins s σ H Q I h;exact Subscript_ (zuH ha hb I h λv u s2 x y H2 I2 rx ry q=>hr a b pins s2 σ H2 x y v u Q I2 rx ry q (hs _ _))
def zxP(K:zC):R2:=λx y H Q=>∃p xs i v,x = .ref p/\y = .int i/\SqL K H p xs/\atI xs i=some v/\Q v H
def zxM(K:zC):R2:=λx y H Q=>∃p xs i v,x = .ref p/\y = .int i/\SqT K H p xs/\atI xs i=some v/\Q v H
def zyn:R2:=λx y H Q=>∃z i c,x = .str z/\y = .int i/\z.length<=sizeLine/\atI z.cps.toList i=some c/\Q (.str ⟨#[c]⟩) H
theorem zst:IxR X (zxP X.K):=by
 intro value slice pins s σ H x y v u Q I rx ry h hs;obtain⟨p,xs,i,z,rfl,rfl,hq,he,q⟩:=h;cases rx;obtain⟨t,rfl⟩:=ry;obtain⟨its,r,pl,hz⟩:=I.list hq;obtain⟨j,h1,h2,h3,h4,h5⟩:=zkc he;obtain⟨w,ew,rw'⟩:=r.get h2;have hl:=r.length;have hn:=zcK;have fin:EP X pins σ Q w s:=⟨z,H,I,rw',q⟩
 by_cases h0:0<=i
 . have hj:i.toNat=j:=by
    rw[seqIndex_of h0 h5]at h1;exact zzT h1
   exact item_listR pl.isList h0 (by omega) (by rw[hj];simpa using ew) fin hs
 . have hj:(i+(its.toArray.size:Int)).toNat=j:=by
    rw[seqIndex_neg (by omega) h4]at h1;rw[zzD,<-hl];exact zzT h1
   exact subscriptTail_builtinR (x:=w) pl.isList.typeIs slot_list_getitem.lookup
    (wpAny_getItem_list_neg (Q:=λr s'=>r=w/\EP X pins σ Q r s') pl.isList (by omega) (by rw[zzD]<;>omega) (by omega) (by rw[hj];simpa using ew) ⟨rfl,fin⟩) hs
theorem zvZ:IxR X (zxM X.K):=by
 intro value slice pins s σ H x y v u Q I rx ry h hs;obtain⟨p,xs,i,z,rfl,rfl,hq,he,q⟩:=h;cases rx;obtain⟨t,rfl⟩:=ry;obtain⟨its,r,pl,hz⟩:=I.tuple hq;obtain⟨j,h1,h2,h3,h4,h5⟩:=zkc he;obtain⟨w,ew,rw'⟩:=r.get h2;have hl:=r.length;have hn:=zcK;have fin:EP X pins σ Q w s:=⟨z,H,I,rw',q⟩;exact subscriptTail_builtinR (x:=w) pl.typeIs slot_tuple_getitem.lookup
  (getItem_tuple (j:=j) (Q:=λr s'=>r=w/\EP X pins σ Q r s') pl (by omega) (by omega) (by rw[zzD,<-hl];exact h1) (by simpa using ew) ⟨rfl,fin⟩) hs
theorem zvJ:IxR X zyn:=by
 intro value slice pins s σ H x y v u Q I rx ry h hs;obtain⟨z,i,c,rfl,rfl,hz,he,q⟩:=h;obtain⟨t,rfl⟩:=rx;obtain⟨t',rfl⟩:=ry;obtain⟨j,h1,h2,h3,h4,h5⟩:=zkc he;have hl:z.cps.toList.length=z.length:=by simp[Str.length]
 rw[hl]at h1 h4 h5;have hn:=zcK;exact tail_any (typeIs_str s z t) slot_str_getitem.lookup (getItem_str (c:=c) (by
  have e1:decide (i < -(2 ^ 63:Int))=false:=zyA (by omega);have e2:decide (i ≥ 2 ^ 63)=false:=zyA (by omega);rw[e1,e2,Bool.or_false]) (by rw[h1];simpa using h2) ⟨.str ⟨#[c]⟩,H,I.tok _,⟨_,rfl⟩,q⟩) hs
theorem zms(its:List Value)(n j:Nat)(u:Value):Obj.mapSeq (·.setIfInBounds j u) {cls:=.type "list",data:=.seq its.toArray n}={cls:=.type "list",data:=.seq (its.set j u).toArray n}:=by
 simp[Obj.mapSeq]
theorem Inv.lst(I:Inv X pins σ H s)(h:H p=some (.lst xs)):
 ∃(its:List Value) (n:Nat),Vals xs its/\s.heap.get? p=some {cls:=.type "list",data:=.seq its.toArray n}/\xs.length<=sizeLine:=by
 obtain⟨z,its,n,r,e⟩:=I.hok p _ h;exact⟨its,n,r,e,z⟩
theorem Inv.lstUpd{pins:List (Addr×Obj)}{σ:St}{H:Hp}{s:Shared}{p:Addr}{xs ys:List V}{its its':List Value}{n n':Nat}{f:Obj->Obj}(I:Inv X pins σ H s)(h:H p=some (.lst xs))
 (ho:s.heap.get? p=some {cls:=.type "list",data:=.seq its.toArray n}) (hf:f {cls:=.type "list",data:=.seq its.toArray n}={cls:=.type "list",data:=.seq its'.toArray n'}) (r:Vals ys its') (hz:ys.length<=sizeLine) (t:Nat):
 Inv X pins σ (upd H p (.lst ys)) {s with heap:=s.heap.update p f,toks:=t}:=by
 have e:(s.heap.update p f).get? p=some {cls:=.type "list",data:=.seq its'.toArray n'}:=by
  rw[Heap.get?_update_self f ho (by rw[hf]<;>rfl),hf]
 refine I.write (x:=p) (e:=p) (by rw[h];trivial) (.inl rfl) (λb u hb q=>(Heap.get?_update_other _ _ (Ne.symm hb)).trans q) ⟨_,e⟩ ?_;exact⟨hz,its',n',r,e⟩
def zxt:V->V->V->Hp->(Hp->Prop)->Prop:=λo i v H Q=>∃p xs k j,o = .ref p/\i = .int k/\H p=some (.lst xs)/\ixN xs.length k=some j/\Q (upd H p (.lst (xs.set j v)))
theorem set_list:zxu X zxt:=by
 intro pins s σ H o i v ov iv u Q I ro ri rv h;obtain⟨p,xs,k,j,rfl,rfl,hp,hj,q⟩:=h;cases ro;obtain⟨t,rfl⟩:=ri;obtain⟨its,n,r,ho,hz⟩:=I.lst hp;obtain⟨h1,h2,h3,h4⟩:=znD hj;have hl:=r.length;have hn:=zcK;have I':Inv X pins σ (upd H p (.lst (xs.set j v))) {s with heap:=s.heap.update p (Obj.mapSeq (·.setIfInBounds j u))}:=
  I.lstUpd hp ho (zms its n j u) (r.set rv j) (by rw[zzQ];exact hz) s.toks
 by_cases h0:0<=k
 . have hk:k.toNat=j:=by
    rw[seqIndex_of h0 h4]at h1;exact zzT h1
   exact PySem.W.ki_setAt ho h0 (by omega) (by rw[zzD,<-hl];exact h4) (by rw[hk];exact⟨_,I',q⟩)
 . have hk:(k+(its.toArray.size:Int)).toNat=j:=by
    rw[seqIndex_neg (by omega) h3]at h1;rw[zzD,<-hl];exact zzT h1
   exact PySem.W.ki_setBack ho (by omega) (by rw[zzD,<-hl];exact h3) (by omega) (by rw[hk];exact⟨_,I',q⟩)
theorem zjZ(lo hi:Option Int)(n:Nat):(sliceBounds lo hi none n).1=((HT.sIx n 0 lo:Nat):Int)/\(sliceBounds lo hi none n).2.1=((HT.sIx n n hi:Nat):Int)/\(sliceBounds lo hi none n).2.2=1:=by
 refine⟨?_, ?_,rfl⟩
 . cases lo with
   |none=>simp[sliceBounds,HT.sIx]
   |some i=>
    simp only[sliceBounds,HT.sIx,Option.getD_none,show(1:Int) > 0 by decide,if_true]
    by_cases h:i<0
    . simp only[h,if_true]<;>omega
    . simp only[h,if_false]<;>omega
 . cases hi with
   |none=>simp[sliceBounds,HT.sIx]
   |some i=>
    simp only[sliceBounds,HT.sIx,Option.getD_none,show(1:Int) > 0 by decide,if_true]
    by_cases h:i<0
    . simp only[h,if_true]<;>omega
    . simp only[h,if_false]<;>omega
theorem zhJ(its:List Value)(lo hi:Option Int):slicePick its.toArray lo hi none=((its.drop (HT.sIx its.length 0 lo)).take (HT.sIx its.length its.length hi-HT.sIx its.length 0 lo)).toArray:=by
 obtain⟨h1,h2,h3⟩:=zjZ lo hi its.toArray.size;unfold slicePick;rw[h1,h2,h3];simp only[sliceRange_one,pick_run,zzD]<;>rfl
def zya(K:zC):V->Option Int->Option Int->Hp->VK->Prop:=λx lo hi H Q=>∃a xs,x = .ref a/\SqL K H a xs/\∀p,H p=none->Q (.ref p) (upd H p (.lst (zlj xs lo hi)))
theorem ztF:SlR X (zya X.K):=by
 intro pins s σ H x v vl vu lo hi sl Q I rx hs pl pu h;obtain⟨a,xs,rfl,hx,q⟩:=h;cases rx;obtain⟨its,r,ht,hz⟩:=I.list hx;have hlen:=r.length;refine⟨"list",_,slot_list_getitem.lookup,ht.isList.typeIs, ?_⟩;refine wpAny_getItem_list_slice ht.isList hs pl pu .none (by simp) ?_ (by rw[zzD]<;>omega);rw[zhJ,<-hlen];refine⟨.ref s.heap.objs.size,_,I.laid (t':=s.toks) (o:=.lst (zlj xs lo hi)) (λb ob q=>zyZ _ q) (zzJ _) ?_,rfl,q _ (I.hok.fresh (zzJ _))⟩;exact⟨zzK (zfc xs lo hi) hz,_,0,(r.drop (HT.sIx xs.length 0 lo)).take (HT.sIx xs.length xs.length hi-HT.sIx xs.length 0 lo),QzB _ rfl⟩
theorem zcW:zbO X (.builtin "len") (λxs H Q=>∃p ys,xs=[.ref p]/\(SqL X.K H p ys\/SqT X.K H p ys)/\Q (.int ys.length) H):=by
 intro pins s σ H xs us Q I r h;obtain⟨p,ys,rfl,hq,q⟩:=h;obtain⟨u,rfl,rx⟩:=vals1 r;cases rx;have hn:=zcK
 rcases hq with hq|hq
 . obtain⟨its,r',pl,hz⟩:=I.list hq;have hlen:=r'.length;exact Calls.call_len_list pl.isList (by simp only[zzD]<;>omega) ⟨.int ys.length,H,I.tok _,⟨s.toks+1,by rw[zzD,hlen]⟩,q⟩
 . obtain⟨its,r',pl,hz⟩:=I.tuple hq;have hlen:=r'.length;exact len_tuple pl (by simp only[zzD]<;>omega) ⟨.int ys.length,H,I.tok _,⟨s.toks+1,by rw[zzD,hlen]⟩,q⟩
theorem zjx:zbO X (.builtin "len") (λxs H Q=>∃z,xs=[.str z]/\z.length<=sizeLine/\Q (.int z.length) H):=by
 intro pins s σ H xs us Q I r h;obtain⟨z,rfl,hz,q⟩:=h;obtain⟨u,rfl,t,rfl⟩:=vals1 r;have hn:=zcK;exact len_str (by omega) ⟨.int z.length,H,I.tok _,⟨_,rfl⟩,q⟩
theorem zcp:zbO X (.type "tuple") (λxs H Q=>∃p ys,xs=[.ref p]/\((SqL X.K H p ys/\∀l,H l=none->Q (.ref l) (upd H l (.tup ys)))\/(SqT X.K H p ys/\Q (.ref p) H))):=by
 intro pins s σ H xs us Q I r h;obtain⟨p,ys,rfl,h⟩:=h;obtain⟨u,rfl,rx⟩:=vals1 r;cases rx
 rcases h with⟨hq,q⟩|⟨hq,q⟩
 . obtain⟨its,r',pl,hz⟩:=I.list hq;have hlen:=r'.length;refine call_tuple_list pl.isList (λh' kp=>?_) (by simp only[zzD]<;>omega);have I1:Inv X pins σ H {s with heap:=h'}:=I.kept (t':=s.toks) kp;have I2:Inv X pins σ (upd H h'.objs.size (.tup ys)) {s with heap:=h'.push {cls:=.type "tuple",data:=.seq its.toArray}}:=
    I1.laid (t':=s.toks) (λb o e=>zyZ _ e) (zzJ _) (show v7 X.prog X.w _ _ _ (.tup ys)from⟨hz,its,r',IsTup.new _ _⟩)
   exact⟨.ref h'.objs.size,_,I2,rfl,q _ (I1.hok.fresh (zzJ _))⟩
 . obtain⟨its,r',pl,hz⟩:=I.tuple hq;exact call_tuple_same pl ⟨.ref p,H,I,rfl,q⟩
def tyV(K:zC)(T:String)(x:V)(H:Hp):Prop:=match x with
 | .str _=>T="str"
 | .int _=>T="int"
 | .ref p=>(T="list"/\∃xs,SqL K H p xs)\/(T="tuple"/\∃o,K.lookup p=some o/\o.cls = .type "tuple"/\o.dict=none) \/
  (T="dict"/\((∃kvs,H p=some (.dK kvs))\/∃kvs,H p=some (.dT kvs)))\/(T="set"/\∃S n,H p=some (.set S n))
 |_=>False
theorem zqs(I:Inv X pins σ H s)(r:RelV x v)(ty:tyV X.K T x H):
 s.TypeIs v T/\∀a,v = .ref a->∃ob,s.heap.get? a=some ob/\ob.dict=none:=by
 cases x with
 |str z=>
  obtain⟨t,rfl⟩:=r;cases(show T="str" from ty);exact⟨typeIs_str s z t,λ_ e=>nomatch e⟩
 |int i=>
  obtain⟨t,rfl⟩:=r;cases(show T="int" from ty);exact⟨typeIs_int s i t,λ_ e=>nomatch e⟩
 |ref p=>
  cases r
  rcases ty with⟨rfl,xs,hq⟩|⟨rfl,o,hk,hc,hd⟩|⟨rfl,hk⟩|⟨rfl,S,n,hk⟩
  . obtain⟨its,_,pl,_⟩:=I.list hq;refine⟨pl.isList.typeIs,λa e=>?_⟩;cases e;obtain⟨o,n,e,c,hd,_⟩:=pl;exact⟨o,e,hd⟩
  . refine⟨⟨o,I.kIn p o hk,hc⟩,λa e=>?_⟩;cases e;exact⟨o,I.kIn _ o hk,hd⟩
  . have z:∃o,s.heap.get? p=some o/\o.ExactDict:=by
     rcases hk with⟨kvs,hk⟩|⟨kvs,hk⟩
     . obtain⟨_,_,_,_,o,_,_,e,ex,_⟩:=I.hok p _ hk;exact⟨o,e,ex⟩
     . obtain⟨_,_,_,_,o,_,_,e,ex,_⟩:=I.hok p _ hk;exact⟨o,e,ex⟩
    obtain⟨o,e,ex⟩:=z;refine⟨⟨o,e,ex.1⟩,λa e2=>?_⟩;cases e2;exact⟨o,e,ex.2.1⟩
  . obtain⟨o,_,_,_,e,ex,_⟩:=I.hok p _ hk;refine⟨⟨o,e,ex.1⟩,λa e2=>?_⟩;cases e2;exact⟨o,e,ex.2.1⟩
 |_=>exact False.elim ty
def zwq(K:zC)(T:String)(r:V->List V->Hp->VK->Prop)(to:TE):TE:=λσ H Q=>to σ H λx H1=>tyV K T x H1/\r x [] H1 Q
def tBM(K:zC)(T:String)(r:V->List V->Hp->VK->Prop)(to:TE)(t:TA):TE:=λσ H Q=>to σ H λx H1=>tyV K T x H1/\t σ H1 λxs H2=>r x xs H2 Q
variable{o e:Expr}{es:List Expr}{to:TE}{t:TA}{name:Str}{apos cpos:Pos}{T id:String}{r:V->List V->Hp->VK->Prop}
theorem zqQ(pa:PlainAttrs T)(slot:Slot T name id)(hty:typeOf (.builtin id)=pure (.type "method_descriptor"))(hm:MtR X id r)(ho:PE X o to)
 (hbase:attributeBase o name X.env (eval o X.env)=eval o X.env:=by rfl) (hline:(apos.endLine==cpos.line)=true:=by rfl):PE X (.Call (.Attribute o name apos) [] [] cpos) (zwq X.K T r to):=by
 intro pins s σ H Q I h;refine wpAny_Call_method0_late hbase hline (thn (ho pins s σ H _ I h) λv s1 ⟨x,H1,I1,r1,ty,q1⟩=>?_);obtain⟨h1,h2⟩:=zqs I1 r1 ty;exact⟨T,id,pa,slot,hty,h1,h2,Calls.callWith_builtin rfl (PySem.evalArgs_none (hm pins s1 σ H1 x [] v [] Q I1 r1 .nil q1))⟩
theorem zwK(pa:PlainAttrs T)(slot:Slot T name id)(hty:typeOf (.builtin id)=pure (.type "method_descriptor"))(hm:MtR X id r)(ho:PE X o to)(ha:PA X (e::es) t)
 (hbase:attributeBase o name X.env (eval o X.env)=eval o X.env:=by rfl)
 (hfew:((backTo cpos (starEach (e::es) X.env)).all (λx=>!x.1)&&(backToKw cpos (keywordEach [] X.env)).all (λx=>x.1.isSome)
  && decide ((e::es).length+([]:List Keyword).length+(if([]:List Keyword).isEmpty then 0 else 1)<30))=true:=by rfl)
 (hline:(apos.endLine==cpos.line)=true:=by rfl) (hs:starEach (e::es) X.env=(false,eval e X.env)::starEach es X.env:=by rfl) (hplain:(backTo cpos (starEach es X.env)).any (·.1)=false:=by rfl):
 PE X (.Call (.Attribute o name apos) (e::es) [] cpos) (tBM X.K T r to t):=by
 intro pins s σ H Q I h;refine wpAny_Call_method_late hbase hfew hline rfl (thn (ho pins s σ H _ I h) λv s1 ⟨x,H1,I1,r1,ty,q1⟩=>?_);obtain⟨h1,h2⟩:=zqs I1 r1 ty;refine⟨T,id,pa,slot,hty,h1,h2, ?_⟩;have hA:=ha cpos pins s1 σ H1 _ I1 q1;rw[hs]at hA ⊢;refine Calls.callWith_builtin (by show(false||(backTo cpos (starEach es X.env)).any (·.1))=false;rw[hplain]<;>rfl) (Calls.evalArgs_plain ?_);exact thn hA λus s2 ⟨vs,H2,I2,r2,q2⟩=>hm pins s2 σ H2 x vs v us Q I2 r1 r2 q2
end
end L2
namespace L2
open PySem PySem.Spec PyProof.Rows
def MtM(X:Cx)(id:String)(r:V->List V->Hp->VK->Prop):Prop:=
 ∀(pins:List (Addr×Obj)) (s:Shared) (σ:St) (H:Hp) (x:V) (xs:List V) (v:Value) (us:List Value) (Q:VK),Inv X pins σ H s->RelV x v->Vals xs us->r x xs H Q->
  wpAny (model X.prog X.w) X.A (call (.builtin id) (v::us)) (EP X pins σ Q) X.xe s
theorem Vals.one:∀{x:V}{us:List Value},Vals [x] us->∃u,us=[u]/\RelV x u
 |_,_,.cons r .nil=>⟨_,rfl,r⟩
theorem Vals.zero:∀{us:List Value},Vals [] us->us=[]
 |_,.nil=>rfl
theorem Vals.dropLast(h:Vals xs us):Vals xs.dropLast us.dropLast:=by
 induction h with
 |nil=>exact .nil
 |cons r t ih=>
  cases t with
  |nil=>exact .nil
  |cons q t'=>exact .cons r ih
theorem Vals.rep(h:Vals xs us):∀k:Nat,Vals (List.replicate k xs).flatten (List.replicate k us).flatten
 |0=>.nil
 |k+1=>by
  rw[List.replicate_succ,List.replicate_succ,List.flatten_cons,List.flatten_cons];exact Vals.append h (Vals.rep h k)
theorem zgJ(l:List α):l.eraseIdx (l.length-1)=l.dropLast:=by
 induction l with
 |nil=>rfl
 |cons a r ih=>
  cases r with
  |nil=>rfl
  |cons b r=>
   have e:(a::b::r).length-1=((b::r).length-1)+1:=by
    have h1:(a::b::r).length=r.length+2:=rfl;have h2:(b::r).length=r.length+1:=rfl;omega
   rw[e,List.eraseIdx_cons_succ,ih]
   all_goals rfl
theorem foldl_rep(its:List Value):∀(k:Nat) (acc:List Value),
 List.foldl (λx1 x2=>x1++x2) acc.toArray (List.replicate k its.toArray)=(acc++(List.replicate k its).flatten).toArray
 |0,acc=>by simp
 |k+1,acc=>by
  have e:acc.toArray++its.toArray=(acc++its).toArray:=by simp
  have e2:(acc++its)++(List.replicate k its).flatten=acc++(List.replicate (k+1) its).flatten:=by
   rw[List.replicate_succ,List.flatten_cons,zyU]
  rw[<-e2,<-foldl_rep its k (acc++its),<-e,List.replicate_succ,List.foldl_cons]
section
variable{X:Cx}{pins:List (Addr×Obj)}{σ:St}{H:Hp}{s:Shared}{l b:Addr}{xs ys zs:List V}
theorem Inv.lset{its its':List Value}{n:Nat}{f:Array Value->Array Value}{t':Nat}(I:Inv X pins σ H s)(hH:H l=some (.lst xs))
 (e:s.heap.get? l=some {cls:=.type "list",data:=.seq its.toArray n}) (hf:f its.toArray=its'.toArray) (hv:Vals ys its') (hz:ys.length<=sizeLine):
 Inv X pins σ (upd H l (.lst ys)) {s with heap:=s.heap.update l (Obj.mapSeq f),toks:=t'}:=by
 have q:=PySem.IsL.update e f;rw[hf]at q;refine I.write (x:=l) (e:=l) (by rw[hH];exact trivial) (.inl rfl) (λb' u hb hu=>(Heap.get?_update_other s.heap (Obj.mapSeq f) (Ne.symm hb)).trans hu) ⟨_,q⟩ ?_;exact⟨hz,its',_,hv,q⟩
theorem Inv.lnew(I:Inv X pins σ H s)(hv:Vals ys its)(hz:ys.length<=sizeLine):
 Inv X pins σ (upd H s.heap.objs.size (.lst ys)) {s with heap:=s.heap.push {cls:=.type "list",data:=.seq its.toArray},toks:=t'}:=
 I.laid (λ_ _ q=>zyZ _ q) (zzJ _) ⟨hz,its,0,hv,QzB _ rfl⟩
theorem Inv.fresh(I:Inv X pins σ H s):H s.heap.objs.size=none:=I.hok.fresh (zzJ _)
theorem Inv.lstM(I:Inv X pins σ H s)(hH:H l=some (.lst xs)):xs.length<=sizeLine/\∃(its:List Value) (n:Nat),Vals xs its/\xs.length=its.length/\s.heap.get? l=some {cls:=.type "list",data:=.seq its.toArray n}:=by
 obtain⟨z,its,n,r,e⟩:=I.hok l _ hH;exact⟨z,its,n,r,r.length,e⟩
theorem zlu(h:n<=sizeLine):Builtin.List.listTooLong n=false:=by
 unfold Builtin.List.listTooLong;exact zyA (by omega)
end
section
variable{X:Cx}
def znG:V->List V->Hp->VK->Prop:=λx vs H Q=>∃l xs y,x = .ref l/\vs=[y]/\H l=some (.lst xs)/\xs.length<sizeLine/\Q .non (upd H l (.lst (xs++[y])))
theorem xr:MtM X "list.append" znG:=by
 intro pins s σ H x vs v us Q I rx rv h;obtain⟨l,xs,y,rfl,rfl,hH,hz,q⟩:=h;cases rx;obtain⟨u,rfl,ru⟩:=rv.one;obtain⟨z,its,n,r,hl,e⟩:=I.lstM hH;refine call_meets F.slot_list_append ⟨_,e,rfl⟩ F.entry_list_append (F.args_list_append_2 _ _) (PySem.list_append l its.toArray n u (by rw[zzD];omega)) ⟨e, ?_⟩;refine⟨.non,_,I.lset (its':=its++[u]) hH e (by simp) (r.append (.cons ru .nil)) ?_,rfl,q⟩;rw[zzF,List.length_singleton];omega
def znM:V->List V->Hp->VK->Prop:=λx vs H Q=>∃l b xs zs,x = .ref l/\vs=[.ref b]/\H l=some (.lst xs)/\H b=some (.lst zs)/\xs.length+zs.length<=sizeLine/\Q .non (upd H l (.lst (xs++zs)))
theorem ziU:MtM X "list.extend" znM:=by
 intro pins s σ H x vs v us Q I rx rv h;obtain⟨l,b,xs,zs,rfl,rfl,hH,hB,hz,q⟩:=h;cases rx;obtain⟨u,rfl,ru⟩:=rv.one;cases ru;obtain⟨z,its,n,r,hl,e⟩:=I.lstM hH;obtain⟨z2,its2,n2,r2,hl2,e2⟩:=I.lstM hB;have hsz:its.toArray.size+its2.toArray.size<=sizeLine:=by rw[zzD,zzD];omega
 have hlong:¬(!its.toArray.isEmpty&&Builtin.List.listTooLong (its.toArray.size+its2.toArray.size))=true:=by
  rw[zlu hsz,Bool.and_false];exact zyP
 refine call_meets F.slot_list_extend ⟨_,e,rfl⟩ F.entry_list_extend (F.args_list_extend_2 _ _)
  (AutoSeq1.list_extend_list_list_0 l its.toArray n b its2.toArray n2 hlong (by rw[zzD];omega) (by omega)) ⟨e,e2, ?_⟩
 refine⟨.non,_,I.lset (its':=its++its2) hH e (by simp) (r.append r2) ?_,rfl,q⟩;rw[zzF];omega
def ztQ:V->List V->Hp->VK->Prop:=λx vs H Q=>∃l xs y,x = .ref l/\vs=[]/\H l=some (.lst xs)/\xs[xs.length-1]? = some y/\Q y (upd H l (.lst xs.dropLast))
theorem zno:MtM X "list.pop" ztQ:=by
 intro pins s σ H x vs v us Q I rx rv h;obtain⟨l,xs,y,rfl,rfl,hH,hy,q⟩:=h;cases rx;have hus:=rv.zero;subst hus;obtain⟨z,its,n,r,hl,e⟩:=I.lstM hH;obtain⟨u,hu,ru⟩:=r.get hy;have hy':its.toArray[its.toArray.size-1]? = some u:=by
  show its.toArray[its.length-1]? = some u;rw[<-Array.getElem?_toList,<-hl];exact hu
 refine call_meets F.slot_list_pop ⟨_,e,rfl⟩ F.entry_list_pop (F.args_list_pop_1 _) (MeetsSeq.list_pop_last l its.toArray n u hy' (by rw[zzD];omega)) ⟨e, ?_⟩;refine⟨y,_,I.lset (its':=its.dropLast) hH e ?_ r.dropLast ?_,ru,q⟩
 . show its.toArray.eraseIdxIfInBounds (its.toArray.size-1)=its.dropLast.toArray;rw[zzD,List.eraseIdxIfInBounds_toArray,zgJ]
 . rw[List.length_dropLast];omega
theorem len_rep(xs:List α)(k:Nat):(List.replicate k xs).flatten.length=k*xs.length:=by
 induction k with
 |zero=>simp
 |succ k ih=>rw[List.replicate_succ,List.flatten_cons,zzF,ih,Nat.succ_mul,Nat.add_comm]
end
end L2
namespace Att
open PySem PySem.W PySem.Calls PyProof.Rows
theorem zfv:∀(ns:List Int) (vs:List Value),WellAll P h vs (ns.map WData.int)->IntsAre vs ns:=by
 intro ns
 induction ns with
 |nil=>
  intro vs w;rw[List.map_nil]at w;cases w;exact .nil
 |cons n ns ih=>
  intro vs w;rw[zyM]at w;cases w with
  |cons a b=>
   cases a;exact .cons _ _ (ih _ b)
theorem zoV{l:OpenLaw}{n:Nat}(hn:l.most=some n){P:Params}{h:Heap}{args:List WData}{vals:List Value}
 (hpre:l.row.toRowW.claim.pre args=true) (hwl:WellAll P h vals args):
 ∃a vs ns,vals=[Value.ref a]/\args=[WData.list (ns.map WData.int)]/\h.get? a=some {cls:=.type "list",data:=.seq vs.toArray}/\IntsAre vs ns/\ns.length<=n:=by
 have hsh:WShape.hasAll [] args [.list .int]=true:=(pre_splitW hpre).1;have hc:l.pre.holds [] {args:=args}=true:=(pre_splitW hpre).2;obtain⟨d,r,rfl,h1,h2⟩:=hasAllW_cons hsh;obtain rfl:=hasAllW_nil h2;obtain⟨xs,rfl,h3⟩:=hasW_list h1;obtain⟨ns,rfl⟩:=items_int h3;have hlen:ns.length<=n:=by
  unfold OpenLaw.pre at hc;have h4:(WTm.not (.lt (.lit (.int (n:Int))) (.len (.arg 0)))).holds [] {args:=[.list (ns.map .int)]}=true:=by
   have h4:=(holds_andW hc).1;rw[hn]at h4;exact h4
  have h5:=condW_of h4 (w_not (w_lt w_lit (w_len_list (w_arg rfl))));rw[zD]at h5;refine Nat.le_of_not_lt λq=>?_;have q':(n:Int)<((ns.length:Nat):Int):=by omega
  first
   |(rw[zyI q']at h5;exact absurd h5 (by decide))
   |(simp at h5;omega)
 cases hwl with
 |cons w1 w2=>
  cases w2;cases w1 with
  |list ho hall=>exact⟨_,_,ns,rfl,rfl,ho,zfv ns _ hall,hlen⟩
theorem zph(l:OpenLaw)(args:List WData):l.row.toRowW.claim.post args (.bool true) args=true:=
 postW_of (r:=l.row.toRowW) (X:=(true==true))
  (show WShape.has [] (.bool true) .bool=true by first|rfl|decide|simp[WShape.has,WShape.arms,WShape.armsAll])
  (show(WTm.eq .res (.lit (.bool true))).value [] {args:=args,res:=some (.bool true),after:=args}=some (.bool (true==true))from w_eq_bool (w_res rfl) w_lit) rfl
theorem zll{l:OpenLaw}{n:Nat}{q:Program}{loose:List Str}{XP:(Str->Option Value)->Heap->Prop}{YP:World->Heap->Prop}{d:DefRec}
 (hn:l.most=some n) (hdf:d.params.defaults=[])
 (call:∀(w:World) (s₀ s₁:Shared) (mg mb:Str->Option Value) (fa:Addr) (o:Obj) (pm cd doc:Value) (a:Addr) (vs:List Value) (ns:List Int),
  Ground q loose [] XP w s₀ mg mb s₁.heap->YP w s₁.heap->
  s₁.heap.get? fa=some o->o.data = .func (docDef d.name d.params d.body d.scope pm cd doc)->s₁.heap.CodeRec cd d.name->mg d.name=some (.ref fa)->
  s₁.heap.get? a=some {cls:=.type "list",data:=.seq vs.toArray}->IntsAre vs ns->ns.length<=n->s₁.gens = #[]->
  codeAny (model l.prog w) callerA (.call (.ref fa) ⟨[.ref a],[]⟩) (λr s'=>r = .ok (.ret (.bool true))/\OldK s₁.heap s'.heap/\s'.os=s₁.os/\AllBare s'.gens) s₁):
 WalkO q loose XP YP l.row.toRowW d [] (λf vs=>PySem.call f vs):=by
 intro w s₀ s₁ mg mb G Y fa o pm cd doc dV kV ho hd hcd hD hmg hg args vals as hpre hlay hrd hwl hlo;obtain rfl:dV = .none:=Dflts.none hD hdf;obtain rfl:kV = .none:=Dflts.noKw hD;obtain⟨a,vs,ns,rfl,rfl,hobj,hints,hlen⟩:=zoV hn hpre hwl;refine enter_call (codeAny_mono (call w s₀ s₁ mg mb fa o pm cd doc a vs ns G Y ho (fd_plain hd) hcd hmg hobj hints hlen hg) λr s' hq=>?_);obtain⟨rfl,h2,h3,h4⟩:=hq;exact⟨.inl ⟨.bool true,.bool true,[],rfl,λ_=>rfl,.bool true,zph l _,λ_=>⟨List.Pairwise.nil,λ_ hm=>(nomatch hm)⟩⟩,h2,h3,h4⟩
end Att
namespace L2
open PySem PySem.Spec PyProof.Rows
theorem zio:∀{vs:List Value}{ns:List Int},IntsAre vs ns->Vals (ns.map V.int) vs
 |_,_,.nil=>.nil
 |_,_,.cons n t h=>.cons ⟨t,rfl⟩ (zio h)
def Only(H:Hp):Prop:=∀b,H b=none\/∃o xs,H b=some (.frz o (.lst xs))
theorem zrV{P:Program}{w:World}{K:zC}{mg mb:Str->Option Value}{CX:CXT}{k:Nat}{fa a:Addr}{fd:FuncData}{x:Str}{sp:Sp}{s₁:Shared}{vs:List Value}{ns:List Int}
 (KX:K.In s₁.heap) (hns:s₁.heap.Ns mainGlobals mg) (hb:s₁.heap.Ns builtinsNs mb) (hbb:∀x:Str,x≠"__name__"->mb x=bootBuiltins x) (hlim:s₁.heap.NoLimit) (hg:s₁.gens = #[])
 (ha:s₁.heap.get? a=some {cls:=.type "list",data:=.seq vs.toArray}) (hi:IntsAre vs ns) (hl:ns.length<=sizeLine) (hr:Room k callerA)
 (F:∀base:Heap,K.In base->base.Ns mainGlobals mg->FnOk P w K mg base CX k fa fd [x] sp) (hbind:∀(s:Shared) (u:Value),BindsTo s fd ⟨[u],[]⟩ [(x,u)])
 (hsp:∀H:Hp,Only H->RdL K H a (ns.map V.int)->sp [.ref a] H (λv _=>v = .bl true) λ_ _ _=>False)
 (hCX:∀H e s',CX [] H s₁ (λ_ _ _=>False) e s'->False):
 codeAny (model P w) callerA (.call (.ref fa) ⟨[.ref a],[]⟩) (λr s'=>r = .ok (.ret (.bool true))/\OldK s₁.heap s'.heap/\s'.os=s₁.os/\AllBare s'.gens) s₁:=by
 have rv:=zio hi;have lenV:=hi.length;have core:∀H:Hp,Only H->RdL K H a (ns.map V.int)->HOk P w H s₁.heap->(∀b,H b≠none->b=a)->(H a≠none->K.lookup a=none)->
  codeAny (model P w) callerA (.call (.ref fa) ⟨[.ref a],[]⟩) (λr s'=>r = .ok (.ret (.bool true))/\OldK s₁.heap s'.heap/\s'.os=s₁.os/\AllBare s'.gens) s₁:=by
  intro H hO hS hok hA hK;have base_of:∀{b:Addr}{o:Obj},s₁.heap.get? b=some o->H b=none->(zjC s₁.heap H).get? b=some o:=λe n=>zqT e n;have noA:∀{b:Addr}{o:Obj}{es:Array DictEntry}{ep:Nat},s₁.heap.get? b=some o->o.data = .dict es ep->H b=none:=λ{b o es ep} e d=>by
   cases q:H b with
   |none=>rfl
   |some u=>
    have e':b=a:=hA b (by rw[q];simp);subst e';rw[ha]at e;cases e;have d':Data.seq vs.toArray _=Data.dict es ep:=d;cases d'
  have nsK:∀{b:Addr}{m:Str->Option Value},s₁.heap.Ns b m->(zjC s₁.heap H).Ns b m:=λ{b m} ⟨o,es,ep,e,d,r⟩=>⟨o,es,ep,base_of e (noA e d),d,r⟩;have hKb:K.In (zjC s₁.heap H):=λb o e=>base_of (KX b o e) (by
   cases q:H b with
   |none=>rfl
   |some u=>
    have e':b=a:=hA b (by rw[q];simp);subst e';rw[hK (by rw[q];simp)]at e;cases e)
  have hM:Mod K mg (zjC s₁.heap H):=⟨hKb,nsK hns,⟨mb,nsK hb,hbb⟩,let⟨mc,h1,h2⟩:=hlim;⟨mc,nsK h1,h2⟩⟩;have e0:Env0 P w K mg (zjC s₁.heap H) callerA [] s₁ H:=⟨rfl,hM,λb o e=>ztH e,Nat.le_of_eq (zoY _ _),trivial,λb hb=>absurd (show b ∈ ([]:List Addr)from hb) (by simp),hok,.of_eq hg⟩;refine codeAny_mono ((F _ hKb (nsK hns)).run callerA [] s₁ H ⟨[.ref a],[]⟩ [.ref a] [.ref a] _ _ hr e0 (hbind s₁ (.ref a)) (.cons rfl .nil) (hsp H hO hS)) λr s' h=>?_;cases r with
  |error e=>exact(hCX H e s' h).elim
  |ok fl=>
   cases fl with
   |next=>exact False.elim h
   |brk=>exact False.elim h
   |cont=>exact False.elim h
   |ret u=>
    obtain⟨v,H',os,bare,un,hok',r',q⟩:=h;have q':v = .bl true:=q;subst q';obtain rfl:u=Value.bool true:=r';refine⟨rfl,OldK.of_keep λb o e=>?_,os,bare⟩;cases q:H b with
    |none=>exact un.keep b o e q (by intro z;exact absurd (show b ∈ ([]:List Addr)from z) (by simp)) (by simp)
    |some u=>
     rcases hO b with z|⟨ob,xs,z⟩
     . rw[q]at z;cases z
     . have z2:=un.frzs b ob _ z;obtain⟨e1,_⟩:=hok b _ z;obtain⟨e2,_⟩:=hok' b _ z2;rw[e]at e1;cases e1;exact e2
 cases hk:K.lookup a with
 |some o=>
  have e:=KX a o hk;rw[ha]at e;cases e;refine core (λ_=>none) (λ_=>.inl rfl) (.inr ⟨vs.toArray,_,hk,by rw[zzD,lenV];exact hl,by simpa using rv⟩) (λb u z=>by have z':(none:Option HO)=some u:=z;cases z') (λb z=>absurd rfl z) λz=>absurd rfl z
 |none=>
  refine core (λb=>if b=a then some (.frz {cls:=.type "list",data:=.seq vs.toArray} (.lst (ns.map V.int)))else none) (λb=>?_) (.inl (.inr ⟨{cls:=.type "list",data:=.seq vs.toArray},if_pos rfl⟩)) (λb u z=>?_) (λb z=>?_) λ_=>hk
  . by_cases hb:b=a
    . exact .inr ⟨_,_,if_pos hb⟩
    . exact .inl (if_neg hb)
  . by_cases hb:b=a
    . have z':=(if_pos hb).symm.trans z;cases z';subst hb;exact⟨ha,by rw[zD];exact hl,vs,_,rv,ha⟩
    . have z':=(if_neg hb).symm.trans z;cases z'
  . by_cases hb:b=a
    . exact hb
    . exact absurd (if_neg hb) z
end L2
namespace L2
open PySem PySem.Spec PyProof.Rows
theorem walk_of{l:PySem.W.OpenLaw}{n k:Nat}{q:Program}{loose:List Str}{XP:(Str->Option Value)->Heap->Prop}{YP:World->Heap->Prop}{d:DefRec}{K:Params->zC}{CX:World->CXT}{sp:World->Sp}{x:Str}
 (hn:l.most=some n) (hn2:n<=sizeLine) (hdf:d.params.defaults=[]) (hr:Room k callerA)
 (hY:∀(w:World) (h:Heap),YP w h->(K w.params).In h)
 (F:∀(w:World) (mg:Str->Option Value) (fa:Addr) (h:Heap),(K w.params).In h->h.Ns mainGlobals mg->mg d.name=some (.ref fa)->
  ∃fd:FuncData,(∀(s:Shared) (u:Value),BindsTo s fd ⟨[u],[]⟩ [(x,u)])/\
   ∀base:Heap,(K w.params).In base->base.Ns mainGlobals mg->FnOk l.prog w (K w.params) mg base (CX w) k fa fd [x] (sp w))
 (hsp:∀(w:World) (H:Hp) (a:Addr) (ns:List Int),ns.length<=n->Only H->RdL (K w.params) H a (ns.map V.int)->sp w [.ref a] H (λv _=>v = .bl true) λ_ _ _=>False)
 (hCX:∀(w:World) (H:Hp) (s:Shared) (e:Value) (s':Shared),CX w [] H s (λ_ _ _=>False) e s'->False):
 PySem.W.WalkO q loose XP YP l.row.toRowW d [] (λf vs=>PySem.call f vs):=by
 refine Att.zll hn hdf λw s₀ s₁ mg mb fa o pm cd doc a vs ns G Y ho hd hcd hmg hobj hints hlen hg=>?_;have KX:=hY w _ Y;obtain⟨fd,hb,hF⟩:=F w mg fa _ KX G.T.g hmg;exact zrV KX G.T.g G.T.b G.T.builtins G.T.nolimit hg hobj hints (zzK hlen hn2) hr hF hb (λH hO hS=>hsp w H a ns hlen hO hS) λH e s'=>hCX w H s₁ e s'
end L2
namespace L2
open PySem PySem.Spec PyProof.Rows
def zkw(s:Stmt):Arguments:=match s with
 | .FunctionDef _ a _ _ _ _ _ _ _ _=>a
 |_=>{posonlyargs:=[],args:=[],vararg:=none,kwonlyargs:=[],kw_defaults:=[],kwarg:=none,defaults:=[]}
def zdb(s:Stmt):List Stmt:=match s with
 | .FunctionDef _ _ b _ _ _ _ _ _ _=>b
 |_=>[]
def zy(s:Stmt):Scope:=match s with
 | .FunctionDef _ _ _ _ _ _ sc _ _ _=>sc
 |_=>{kind:=.function,names:=[],isGenerator:=false,isCoroutine:=false}
abbrev CX0:CXT:=λ_ _ _ _ _ _=>False
abbrev E0:XK:=λ_ _ _=>False
theorem zT:zjB CX0 X E0:=λ_ _ _ _ _ _ _ h=>h.elim
structure Fun(K:zC)(x qual:Str)(st:Stmt)(f:Addr)(fd:FuncData):Prop where
 ex:∃(oc:Value) (od:Option Addr) (kV doc pm:Value) (an:Option Addr) (cdv ct:Value) (osl:Array (Option Value)),
  fd=PySem.W.fnOf x qual (zkw st) (zdb st) (zy st) .none kV doc pm an cdv ct/\K.lookup f=some ⟨oc,od,.func fd,osl⟩/\PySem.W.codeIn K cdv qual=true
 kp:PySem.W.keepIn K (.ref f)=true
section
variable{P:Program}{w:World}{K:zC}{mg:Str->Option Value}{base:Heap}
theorem Fun.ok{x qual:Str}{st:Stmt}{f:Addr}{fd:FuncData}{N ps:List Str}{k:Nat}{sp:Sp}(F:Fun K x qual st f fd)(S:FnScope N ps (zy st))(len:∀vs H Q E,sp vs H Q E->vs.length=ps.length)
 (hbody:∀(cdv:Value) (A:Around) (outer:List Env) (s:Shared) (H:Hp) (vs:List V) (Q:VK) (E:XK),Room k (A.deeper (envOfC qual (zy st) s.heap.objs.size f cdv))->sp vs H Q E->
  ∃t,PSs (zmP CX0 P w K mg base N qual (zy st) f cdv A outer s H E).nox (zdb st) t/\t {nx:=λ_ H'=>Q .non H',rt:=Q} (start N vs) H):FnOk P w K mg base CX0 (k+1) f fd ps sp:=by
 obtain⟨oc,od,kV,doc,pm,an,cdv,ct,osl,rfl,lk,hcd⟩:=F.ex;refine zxe lk hcd S len λA outer s H vs Q E hr hsp=>?_;obtain⟨t,h,q⟩:=hbody cdv A outer s H vs Q E hr hsp;exact⟨t,h.nox,q⟩
theorem Fun.binds{x qual:Str}{st:Stmt}{f:Addr}{fd:FuncData}{ps:List Str}(F:Fun K x qual st f fd)
 (h:∀(kV doc pm:Value) (an:Option Addr) (cdv ct:Value) (us:List Value),us.length=ps.length->bindArgs (PySem.W.fnOf x qual (zkw st) (zdb st) (zy st) .none kV doc pm an cdv ct) ⟨us,[]⟩=pure (ps.zip us)):Binds K fd ps []:=by
 obtain⟨oc,od,kV,doc,pm,an,cdv,ct,osl,rfl,lk,hcd⟩:=F.ex;exact .all (h kV doc pm an cdv ct)
end
theorem xu(h:n<=1000):n<sizeLine:=Nat.lt_of_le_of_lt h (by decide)
section
variable{X:Cx}
theorem pv(i:Nat)(hN:X.N[i]? = some x:=by rfl)(hv:Vis X.env.scope x:=by first|exact Or.inl rfl|exact Or.inr (Or.inl rfl)|exact Or.inr (Or.inr rfl))(hd:(x==("__debug__":Str))=false:=by decide)
 (hcd:(x==("__classdict__":Str))=false:=by decide):PE X (.Name x pos) (zhM i):=zpY hN hv hd hcd
end
section
variable{κ:Type}[DecidableEq κ]
theorem zto{kvs:List (κ×V)}{k:κ}{v:V}(h:zaD kvs k=some v):k ∈ kvs.map (·.1):=by
 have q:(kvs.any λkv=>decide (kv.1=k))=true:=by
  rw[zgI,h]
  all_goals rfl
 obtain⟨p,hp,e⟩:=List.any_eq_true.mp q;exact zyV.mpr ⟨p,hp,of_decide_eq_true e⟩
end
end L2
end
section
namespace G16
open PySem PySem.W PyProof.Rows L2
def top(i:Nat):Stmt:=PySem.Challenge.pw_stretchdeeds_k16_terms_in_texts.main.body.getD i (.Pass ⟨0,0,0,0⟩)
abbrev zcX:Stmt:=top 8
abbrev YQ:Stmt:=top 9
abbrev zdt:Stmt:=top 10
abbrev zfM:Stmt:=top 11
abbrev Vv:Stmt:=top 19
abbrev Y7:Stmt:=top 20
abbrev Vn:Stmt:=top 21
abbrev Va:Stmt:=top 22
abbrev ZQ:Stmt:=top 26
abbrev zkx:Stmt:=top 27
abbrev YM:Stmt:=top 28
abbrev zbS:Stmt:=top 29
abbrev zbX:Stmt:=top 30
abbrev Wd:Stmt:=top 31
abbrev X8:Stmt:=top 33
abbrev Xb:Stmt:=top 34
abbrev Y0:Stmt:=top 35
abbrev wY:Stmt:=top 36
abbrev YG:Stmt:=top 37
abbrev X4:Stmt:=top 38
abbrev ZC:Stmt:=top 39
abbrev vZ:Stmt:=top 40
abbrev vK:Stmt:=top 41
abbrev vJ:Stmt:=top 42
abbrev Xq:Stmt:=top 43
abbrev Wc:Stmt:=top 44
abbrev Z0:Stmt:=top 45
abbrev zbh:Stmt:=top 46
abbrev Wu:Stmt:=top 47
abbrev Wx:Stmt:=top 48
abbrev zbW:Stmt:=top 49
abbrev zbU:Stmt:=top 50
abbrev Xj:Stmt:=top 51
abbrev Xm:Stmt:=top 52
abbrev ZR:Stmt:=top 53
abbrev YS:Stmt:=top 55
abbrev zbi:Stmt:=top 56
abbrev Xk:Stmt:=top 57
abbrev YZ:Stmt:=top 58
abbrev vd:Stmt:=top 59
abbrev Y6:Stmt:=top 60
abbrev Zo:Stmt:=top 61
abbrev Zq:Stmt:=top 62
abbrev Xo:Stmt:=top 63
abbrev XF:Stmt:=top 64
abbrev VJ:Stmt:=top 65
abbrev Wl:Stmt:=top 66
abbrev YW:Stmt:=top 67
abbrev Zy:Stmt:=top 68
abbrev zoA:Stmt:=top 69
abbrev hpg:=PySem.Challenge.pw_stretchdeeds_k16_terms_in_texts
abbrev hva:Value:=.str "stretchdeeds.errors" 187
abbrev hvb:Value:=.str "stretchdeeds.terms" 232
abbrev hvc:Value:=.str "stretchdeeds.algebras" 298
abbrev hvd:Value:=.str "stretchdeeds.termtexts" 336
abbrev hve:Value:=.str "stretchdeeds.algtexts" 396
abbrev hvf:Value:=.str "law_stretchdeeds_k16_terms_in_texts" 583
abbrev hem:List Value:=[(.type "ValueError"), (.type "Exception"), (.type "BaseException"), (.type "object")]
abbrev kF(n q:Str)(s:Stmt)(pm hcd:Value):Obj:=⟨.type "function",none,.func (fnOf n q (zkw s) (zdb s) (zy s) .none .none .none pm none hcd .none),#[]⟩
abbrev kD(es:List DictEntry)(n:Nat):Obj:=⟨.type "dict",none,.dict es.toArray n,#[]⟩
abbrev kE(P:Params)(x:Str)(t:Nat)(v:Value):DictEntry:=⟨PyData.keyHash P x,.str x t,v⟩
abbrev kR(P:Params)(x:Str)(t:Nat)(a:Addr):DictEntry:=kE P x t (.ref a)
abbrev hfl(c:Value)(l:List Value):Obj:=⟨c,none,.fields l.toArray,#[]⟩
abbrev hco(n q:Str)(t u:Nat)(l k g:Int)(b:Bool)(a:Nat)(r s v:Value):Obj:=hfl (.type "code") [.str n t,.str q (t+1),.str "/claim/cut.py" (t+2),.int l 0,.int k 0,.int 0 0,.int 0 0,.int g 0,.ref a,.bool b,.int 181 0,.ref (a+1),.none,r,s,v,.int u 0,.int l 0,.str "/claim/cut.py" (u+1)]
abbrev hc7(n q:Str)(t u:Nat)(l k:Int)(a:Nat):=hco n q t u l k 3 true a (.ref (a+2)) (.ref (a+3)) (.ref (a+4))
abbrev hc5(n q:Str)(t:Nat)(l k:Int)(a:Nat):=hco n q t (t+3) l k 3 true a .none .none (.ref (a+2))
noncomputable abbrev hen(P:Params):List DictEntry:=[kE P "__doc__" 166 .none,kE P "__package__" 167 .none,kE P "__loader__" 168 (.builtin "__main__.__loader__#opaque"),kE P "__spec__" 169 .none,kR P "__annotations__" 170 6,kR P "__builtins__" 171 4,kE P "__file__" 173 (.str "/claim/cut.py" 172),kE P "__cached__" 174 .none,kR P "StretchError" 206 24,kR P "NoText" 231 44,kE P "MOST_TERMS" 235 (.int (40) 234),kE P "MOST_WITHIN" 237 (.int (12) 236),kR P "LETTERS" 241 47,kR P "PARTS" 260 48,kR P "is_let" 268 55,kR P "parts_after" 275 62,kR P "of_two" 284 69,kR P "worth" 297 76,kE P "MOST_VALUES" 301 (.int (8) 300),kE P "MOST_AROUND" 303 (.int (6) 302),kE P "MOST_DEEDS" 305 (.int (6) 304),kE P "MOST_SIGNS" 307 (.int (4) 306),kE P "MOST_LETTERS" 309 (.int (8) 308),kE P "SMALL_LETTERS" 311 (.str "abcdefghijklmnopqrstuvwxyz" 310),kR P "is_name" 317 81,kR P "is_rising" 323 86,kR P "join_by" 329 91,kR P "rows_by" 335 96,kE P "FIGURES" 339 (.str "0123456789" 338),kE P "MOST_FIGURES" 341 (.int (60) 340),kR P "is_figures" 347 101,kR P "fits" 356 108,kR P "first_fault" 367 115,kR P "leaf_of" 374 122,kR P "term_of" 385 129,kR P "read_term" 395 136,kR P "show_row" 403 141,kR P "show_rows" 409 146,kR P "show_sign" 415 151,kR P "show_algebra" 421 156,kR P "read_number" 431 163,kR P "read_row" 437 168,kR P "read_rows" 443 173,kR P "read_some_term" 451 180,kR P "read_join_table" 461 187,kR P "read_deed_table" 472 194,kR P "read_sizes" 482 201,kR P "read_join" 491 208,kR P "read_nothing" 500 215,kR P "is_new" 506 220,kR P "read_deed" 518 227,kR P "read_sign" 529 234,kR P "line_at" 537 241,kR P "as_told" 545 248,kR P "read_deeds" 556 255,kR P "read_signs" 567 262,kR P "read_algebra" 582 269,kR P "_law_cell_at" 592 276,kR P "_law_whole" 599 283,kR P "_law_stream" 610 290,kR P "_law_names" 616 295,kR P "_law_shown_rows" 622 300,kR P "_law_lines" 628 305,kR P "_law_join_term" 637 312,kR P "_law_deed_term" 645 319,kR P "_law_digits" 655 326,kR P "_law_term" 661 331,kR P "_law_pair" 679 338,kR P "_law_worth" 688 345,kR P "_law_deeds" 694 350,kR P "_law_drawn" 700 355,kR P "law" 711 362]
def K(P:Params):Frag:=
 (nat_lit 3,kD (kE P "__name__" 165 hvf::hen P) 73)::
 (nat_lit 47,⟨(.type "tuple"),none,.seq #[(.str "a" 238),(.str "b" 239),(.str "c" 240)] 0,#[]⟩)::
 (nat_lit 48,kD [kE P "add" 242 (.int (2) 243),kE P "take" 244 (.int (2) 245),kE P "times" 246 (.int (2) 247),kE P "most" 248 (.int (2) 249),kE P "least" 250 (.int (2) 251),kE P "same" 252 (.int (4) 253)] 6)::
 (nat_lit 54,hc7 "is_let" "is_let" 261 266 14 2 49)::
 (nat_lit 55,kF "is_let" "is_let" zcX hvb (.ref 54))::
 (nat_lit 61,hc7 "parts_after" "parts_after" 269 273 16 1 56)::
 (nat_lit 62,kF "parts_after" "parts_after" YQ hvb (.ref 61))::
 (nat_lit 68,hc7 "of_two" "of_two" 276 282 18 3 63)::
 (nat_lit 69,kF "of_two" "of_two" zdt hvb (.ref 68))::
 (nat_lit 75,hc7 "worth" "worth" 285 295 28 3 70)::
 (nat_lit 76,kF "worth" "worth" zfM hvb (.ref 75))::
 (nat_lit 80,hc5 "is_name" "is_name" 312 47 1 77)::
 (nat_lit 81,kF "is_name" "is_name" Vv hvc (.ref 80))::
 (nat_lit 85,hc5 "is_rising" "is_rising" 318 51 1 82)::
 (nat_lit 86,kF "is_rising" "is_rising" Y7 hvc (.ref 85))::
 (nat_lit 90,hc5 "join_by" "join_by" 324 53 2 87)::
 (nat_lit 91,kF "join_by" "join_by" Vn hvc (.ref 90))::
 (nat_lit 95,hc5 "rows_by" "rows_by" 330 55 3 92)::
 (nat_lit 96,kF "rows_by" "rows_by" Va hvc (.ref 95))::
 (nat_lit 100,hc5 "is_figures" "is_figures" 342 60 2 97)::
 (nat_lit 101,kF "is_figures" "is_figures" ZQ hvd (.ref 100))::
 (nat_lit 107,hc7 "fits" "fits" 348 354 66 3 102)::
 (nat_lit 108,kF "fits" "fits" zkx hvd (.ref 107))::
 (nat_lit 114,hc7 "first_fault" "first_fault" 357 365 70 2 109)::
 (nat_lit 115,kF "first_fault" "first_fault" YM hvd (.ref 114))::
 (nat_lit 121,hc7 "leaf_of" "leaf_of" 368 372 79 1 116)::
 (nat_lit 122,kF "leaf_of" "leaf_of" zbS hvd (.ref 121))::
 (nat_lit 128,hc7 "term_of" "term_of" 375 383 83 1 123)::
 (nat_lit 129,kF "term_of" "term_of" zbX hvd (.ref 128))::
 (nat_lit 135,hc7 "read_term" "read_term" 386 393 90 2 130)::
 (nat_lit 136,kF "read_term" "read_term" Wd hvd (.ref 135))::
 (nat_lit 140,hc5 "show_row" "show_row" 398 97 1 137)::
 (nat_lit 141,kF "show_row" "show_row" X8 hve (.ref 140))::
 (nat_lit 145,hc5 "show_rows" "show_rows" 404 99 1 142)::
 (nat_lit 146,kF "show_rows" "show_rows" Xb hve (.ref 145))::
 (nat_lit 150,hc5 "show_sign" "show_sign" 410 101 2 147)::
 (nat_lit 151,kF "show_sign" "show_sign" Y0 hve (.ref 150))::
 (nat_lit 155,hc5 "show_algebra" "show_algebra" 416 103 1 152)::
 (nat_lit 156,kF "show_algebra" "show_algebra" wY hve (.ref 155))::
 (nat_lit 162,hc7 "read_number" "read_number" 422 429 110 3 157)::
 (nat_lit 163,kF "read_number" "read_number" YG hve (.ref 162))::
 (nat_lit 167,hc5 "read_row" "read_row" 432 115 2 164)::
 (nat_lit 168,kF "read_row" "read_row" X4 hve (.ref 167))::
 (nat_lit 172,hc5 "read_rows" "read_rows" 438 118 3 169)::
 (nat_lit 173,kF "read_rows" "read_rows" ZC hve (.ref 172))::
 (nat_lit 179,hc7 "read_some_term" "read_some_term" 444 449 123 2 174)::
 (nat_lit 180,kF "read_some_term" "read_some_term" vZ hve (.ref 179))::
 (nat_lit 186,hc7 "read_join_table" "read_join_table" 452 459 128 2 181)::
 (nat_lit 187,kF "read_join_table" "read_join_table" vK hve (.ref 186))::
 (nat_lit 193,hc7 "read_deed_table" "read_deed_table" 462 470 134 3 188)::
 (nat_lit 194,kF "read_deed_table" "read_deed_table" vJ hve (.ref 193))::
 (nat_lit 200,hc7 "read_sizes" "read_sizes" 473 480 140 1 195)::
 (nat_lit 201,kF "read_sizes" "read_sizes" Xq hve (.ref 200))::
 (nat_lit 207,hc7 "read_join" "read_join" 483 489 147 2 202)::
 (nat_lit 208,kF "read_join" "read_join" Wc hve (.ref 207))::
 (nat_lit 214,hc7 "read_nothing" "read_nothing" 492 498 150 2 209)::
 (nat_lit 215,kF "read_nothing" "read_nothing" Z0 hve (.ref 214))::
 (nat_lit 219,hc5 "is_new" "is_new" 501 155 2 216)::
 (nat_lit 220,kF "is_new" "is_new" zbh hve (.ref 219))::
 (nat_lit 226,hc7 "read_deed" "read_deed" 507 516 157 4 221)::
 (nat_lit 227,kF "read_deed" "read_deed" Wu hve (.ref 226))::
 (nat_lit 233,hc7 "read_sign" "read_sign" 519 527 163 3 228)::
 (nat_lit 234,kF "read_sign" "read_sign" Wx hve (.ref 233))::
 (nat_lit 240,hc7 "line_at" "line_at" 530 535 169 2 235)::
 (nat_lit 241,kF "line_at" "line_at" zbW hve (.ref 240))::
 (nat_lit 247,hc7 "as_told" "as_told" 538 543 173 2 242)::
 (nat_lit 248,kF "as_told" "as_told" zbU hve (.ref 247))::
 (nat_lit 254,hc7 "read_deeds" "read_deeds" 546 554 177 3 249)::
 (nat_lit 255,kF "read_deeds" "read_deeds" Xj hve (.ref 254))::
 (nat_lit 261,hc7 "read_signs" "read_signs" 557 565 184 3 256)::
 (nat_lit 262,kF "read_signs" "read_signs" Xm hve (.ref 261))::
 (nat_lit 268,hc7 "read_algebra" "read_algebra" 568 580 189 1 263)::
 (nat_lit 269,kF "read_algebra" "read_algebra" ZR hve (.ref 268))::
 (nat_lit 275,hc7 "_law_cell_at" "_law_cell_at" 585 590 200 2 270)::
 (nat_lit 276,kF "_law_cell_at" "_law_cell_at" YS hvf (.ref 275))::
 (nat_lit 282,hc7 "_law_whole" "_law_whole" 593 597 204 1 277)::
 (nat_lit 283,kF "_law_whole" "_law_whole" zbi hvf (.ref 282))::
 (nat_lit 289,hc7 "_law_stream" "_law_stream" 600 608 206 2 284)::
 (nat_lit 290,kF "_law_stream" "_law_stream" Xk hvf (.ref 289))::
 (nat_lit 294,hc5 "_law_names" "_law_names" 611 213 2 291)::
 (nat_lit 295,kF "_law_names" "_law_names" YZ hvf (.ref 294))::
 (nat_lit 299,hc5 "_law_shown_rows" "_law_shown_rows" 617 222 1 296)::
 (nat_lit 300,kF "_law_shown_rows" "_law_shown_rows" vd hvf (.ref 299))::
 (nat_lit 304,hc5 "_law_lines" "_law_lines" 623 224 1 301)::
 (nat_lit 305,kF "_law_lines" "_law_lines" Y6 hvf (.ref 304))::
 (nat_lit 311,hc7 "_law_join_term" "_law_join_term" 629 635 232 2 306)::
 (nat_lit 312,kF "_law_join_term" "_law_join_term" Zo hvf (.ref 311))::
 (nat_lit 318,hc7 "_law_deed_term" "_law_deed_term" 638 643 236 1 313)::
 (nat_lit 319,kF "_law_deed_term" "_law_deed_term" Zq hvf (.ref 318))::
 (nat_lit 325,hc7 "_law_digits" "_law_digits" 646 653 240 2 320)::
 (nat_lit 326,kF "_law_digits" "_law_digits" Xo hvf (.ref 325))::
 (nat_lit 330,hc5 "_law_term" "_law_term" 656 249 2 327)::
 (nat_lit 331,kF "_law_term" "_law_term" XF hvf (.ref 330))::
 (nat_lit 337,hc7 "_law_pair" "_law_pair" 662 677 264 3 332)::
 (nat_lit 338,kF "_law_pair" "_law_pair" VJ hvf (.ref 337))::
 (nat_lit 344,hc7 "_law_worth" "_law_worth" 680 686 282 3 339)::
 (nat_lit 345,kF "_law_worth" "_law_worth" Wl hvf (.ref 344))::
 (nat_lit 349,hc5 "_law_deeds" "_law_deeds" 689 284 4 346)::
 (nat_lit 350,kF "_law_deeds" "_law_deeds" YW hvf (.ref 349))::
 (nat_lit 354,hc5 "_law_drawn" "_law_drawn" 695 296 1 351)::
 (nat_lit 355,kF "_law_drawn" "_law_drawn" Zy hvf (.ref 354))::
 (nat_lit 361,hc7 "law" "law" 701 709 315 1 356)::
 (nat_lit 362,kF "law" "law" zoA hvf (.ref 361))::
 []
def kA:List Addr:=[3,47,48,54,55,61,62,68,69,75,76,80,81,85,86,90,91,95,96,100,101,107,108,114,115,121,122,128,129,135,136,140,141,145,146,150,151,155,156,162,163,167,168,172,173,179,180,186,187,193,194,200,201,207,208,214,215,219,220,226,227,233,234,240,241,247,248,254,255,261,262,268,269,275,276,282,283,289,290,294,295,299,300,304,305,311,312,318,319,325,326,330,331,337,338,344,345,349,350,354,355,361,362]
def qv:Program:={hpg with main:={hpg.main with body:=[1,2,4,5,6,7,8,9,10,11,13,14,15,16,17,18,19,20,21,22,24,25,26,27,28,29,30,31,33,34,35,36,37,38,39,40,41,42,43,44,45,46,47,48,49,50,51,52,53,55,56,57,58,59,60,61,62,63,64,65,66,67,68,69].map top}}
theorem kAe(P:Params):kA=(K P).map (·.1):=by kernel_rfl
set_option maxRecDepth 100000
theorem ws:PySem.Challenge.rw_stretchdeeds_k16_terms_in_texts.wellSaid=true:=by kernel_rfl
abbrev Xt(s:Shared):Bool:=xlAt qv [] s&&recOk (RowW.records (OpenRow.toRowW PySem.Challenge.rw_stretchdeeds_k16_terms_in_texts.row)) s
abbrev hk:Hook:=kHook K kA kAe
def htp(l:List Value):Obj:=⟨.type "tuple",none,.seq l.toArray 0,#[]⟩
def htx:Nat->List Str->List Value
 |_,[]=>[]
 |t,x::l=>.str x t::htx (t+1) l
noncomputable def hfO(a t:Nat)(r:Str)(v:Value)(s:Stmt):List Obj:=match s with
 | .FunctionDef n p b _ _ _ c _ _ o=>
  let q:=r++n;let S:Obj:=⟨.none,none,.func {name:=n,qualname:=q,params:=p,body:=.stmts b,scope:=c,globals:=0,closure:=[],defaults:=.none,kwdefaults:=.none},#[]⟩
  match localNames p c (.stmts b) with
  |some (x,_)=>[htp [],hfl .none [],htp (htx (t+3) x),htp [],S,hc7 n q t (t+3+x.length) o.line p.args.length a,kF n q s v (.ref (a+5))]
  |none=>[htp [],hfl .none [],S,hc5 n q t o.line p.args.length a,kF n q s v (.ref (a+3))]
 |_=>[]
noncomputable def htk(s:Stmt):Nat:=match s with
 | .FunctionDef _ p b _ _ _ c _ _ _=>match localNames p c (.stmts b) with
  |some (x,_)=>6+x.length
  |none=>6
 |_=>0
noncomputable def hms(P:Params)(c:Str)(v:Value):Nat->Nat->List Stmt->List Obj×List DictEntry×List Value×Nat
 |_,t,[]=>([],[],[],t)
 |a,t,s::r=>match s with
  | .FunctionDef n _ _ _ _ _ _ _ _ o=>let f:=hfO a t (c++".") v s;let l:=a+f.length;let u:=t+htk s;let z:=hms P c v l u r;(f++z.1,kR P n (u-1) (l-1)::z.2.1,.int o.line 0:: .int 4 0:: .ref (l-2)::z.2.2.1,z.2.2.2)
  |_=>hms P c v a t r
def hfm(a b:Addr)(v:Value):Obj:=⟨.type "frame",none,.plain,#[some (.ref a),some (.ref 3),some (.ref b),none,some v,none,some (.ref 0)]⟩
def hbf(x:String)(v:Value):Obj:=hfl (.type "builtin_function_or_method") [.builtin x,v]
def hgd(x:Str)(t:Nat)(c:Addr)(g s:Value):Obj:=hfl (.type "getset_descriptor") [.str x t,.ref c,g,s]
noncomputable def hcO(P:Params)(a t:Nat)(v:Value)(bv mr sb:List Value)(nw:String)(d:Nat)(s:Stmt):List Obj:=match s with
 | .ClassDef n _ _ b _ _ _ _ _ sa o=>
  let m:=hms P n v (a+7) (t+12) b;let e:=a+7+m.1.length;let k:=m.2.2.2+sa.length;let z:=k+1;let C:=e+2
  let x:=kE P "__module__" (t+7) v;let f:=kE P "__firstlineno__" (t+11) (.int o.line (t+10));let y:=kR P "__static_attributes__" k e
  let W:=λt:Nat=>hgd "__weakref__" t C (.builtin "ExceptionGroup.__weakref__") .none
  let D:List DictEntry×List Obj:=match d with
   |0=>([],[])
   |1=>([kR P "__weakref__" (z+1) (C+1)],[W z])
   |_=>([kR P "__dict__" (z+1) (C+1),kR P "__weakref__" (z+3) (C+2)],[hgd "__dict__" z C (.builtin "function.__dict__") (.builtin "function.__dict__#set"),W (z+2)])
  [htp bv,hbf "type.__prepare__" (.type "type"),kD (x::kE P "__qualname__" (t+9) (.str n (t+8))::f::m.2.1++[y]) (4+m.2.1.length),htp [],hfl .none m.2.2.1,hco n n (t+2) (t+5) o.line 0 0 false (a+3) .none .none .none,hfm (a+5) (a+2) v]++m.1++[htp (htx m.2.2.2 sa),kD (x::f::m.2.1++y::D.1++[kE P "__doc__" (z+2*d) .none]) (2+d),⟨.type "type",none,.cls {name:=n,bases:=if bv.isEmpty then [.type "object"] else bv,mro:=.ref C::mr,ns:=e+1,qualname:=n,hasDict:=true,slotNames:=[],subclasses:=sb},#[if bv.isEmpty then none else some (.ref a),none,some (.str n t),some (.str n (t+8)),some (.builtin nw),some (.bool true)]⟩]++D.2++[hfl (.type "super") [.ref C,.ref C,.ref C],hbf "object.__init_subclass__" (.ref C)]
 |_=>[]
def hcs:List (Int×Addr):=[(2,20),(4,33),(14,54),(16,61),(18,68),(28,75),(47,80),(51,85),(53,90),(55,95),(60,100),(66,107),(70,114),(79,121),(83,128),(90,135),(97,140),(99,145),(101,150),(103,155),(110,162),(115,167),(118,172),(123,179),(128,186),(134,193),(140,200),(147,207),(150,214),(155,219),(157,226),(163,233),(169,240),(173,247),(177,254),(184,261),(189,268),(200,275),(204,282),(206,289),(213,294),(222,299),(224,304),(232,311),(236,318),(240,325),(249,330),(264,337),(282,344),(284,349),(296,354),(315,361)]
noncomputable def hhp(P:Params)(v:Value)(g c:Nat)(l:List Obj):Heap:=⟨⟨boot_o_0 P::boot_o_1 P::boot_o_2 P::kD (kE P "__name__" 165 v::(hen P).take g) (g+1)::boot_o_4 P::boot_o_5 P::boot_o_6 P::boot_o_7 P::boot_o_8 P::boot_o_9 P::boot_o_10 P::htp []::hfl .none ((hcs.take c).flatMap λp=>[.int p.1 0,.int 0 0,.ref p.2])::hco "<module>" "<module>" 182 185 1 0 0 false 11 .none .none .none::hfm 13 3 (.str "__main__" 164)::l⟩,(boot_heap P).life⟩
abbrev hbd:=behindTheImports hpg
abbrev hev:Env:={scope:=hpg.main.scope,locals:=mainNs,globals:=mainNs,cells:=[],code:=.ref 13,frame:=some 14}
abbrev hcd:Code:=.body hbd hev
noncomputable abbrev hSh(t:Nat)(h:Heap)(o:OsState):Shared:=⟨h,⟨[]⟩,boot_drawn,t,o⟩
def hl0(P:Params):List Obj:=hcO P 15 189 hva [(.type "ValueError")] hem [(.ref 44)] "ValueError.__new__" 1 (top 1)++hcO P 28 207 hva [(.ref 24)] ((.ref 24)::hem) [] "ValueError.__new__" 0 (top 2)++[⟨(.type "tuple"),none,.seq #[(.str "a" 238),(.str "b" 239),(.str "c" 240)] 0,#[]⟩]++[kD [kE P "add" 242 (.int (2) 243),kE P "take" 244 (.int (2) 245),kE P "times" 246 (.int (2) 247),kE P "most" 248 (.int (2) 249),kE P "least" 250 (.int (2) 251),kE P "same" 252 (.int (4) 253)] 6]++hfO 49 261 "" hvb (top 8)++hfO 56 269 "" hvb (top 9)++hfO 63 276 "" hvb (top 10)++hfO 70 285 "" hvb (top 11)++hfO 77 312 "" hvc (top 19)++hfO 82 318 "" hvc (top 20)++hfO 87 324 "" hvc (top 21)++hfO 92 330 "" hvc (top 22)++hfO 97 342 "" hvd (top 26)++hfO 102 348 "" hvd (top 27)++hfO 109 357 "" hvd (top 28)
def hl1(P:Params):List Obj:=hl0 P++hfO 116 368 "" hvd (top 29)++hfO 123 375 "" hvd (top 30)++hfO 130 386 "" hvd (top 31)++hfO 137 398 "" hve (top 33)++hfO 142 404 "" hve (top 34)++hfO 147 410 "" hve (top 35)++hfO 152 416 "" hve (top 36)++hfO 157 422 "" hve (top 37)++hfO 164 432 "" hve (top 38)++hfO 169 438 "" hve (top 39)++hfO 174 444 "" hve (top 40)++hfO 181 452 "" hve (top 41)++hfO 188 462 "" hve (top 42)++hfO 195 473 "" hve (top 43)++hfO 202 483 "" hve (top 44)++hfO 209 492 "" hve (top 45)++hfO 216 501 "" hve (top 46)++hfO 221 507 "" hve (top 47)++hfO 228 519 "" hve (top 48)++hfO 235 530 "" hve (top 49)++hfO 242 538 "" hve (top 50)++hfO 249 546 "" hve (top 51)++hfO 256 557 "" hve (top 52)++hfO 263 568 "" hve (top 53)++hfO 270 585 "" hvf (top 55)++hfO 277 593 "" hvf (top 56)++hfO 284 600 "" hvf (top 57)++hfO 291 611 "" hvf (top 58)++hfO 296 617 "" hvf (top 59)++hfO 301 623 "" hvf (top 60)++hfO 306 629 "" hvf (top 61)++hfO 313 638 "" hvf (top 62)
def hl2(P:Params):List Obj:=hl1 P++hfO 320 646 "" hvf (top 63)++hfO 327 656 "" hvf (top 64)++hfO 332 662 "" hvf (top 65)++hfO 339 680 "" hvf (top 66)++hfO 346 689 "" hvf (top 67)++hfO 351 695 "" hvf (top 68)++hfO 356 701 "" hvf (top 69)
theorem hr0(w:World)(o:OsState):topGo treeTable hpg w 11 (some (.ref 6)) 12 (hSh boot_toks (boot_heap w.params) o) (topStub hpg)=some (hSh 187 (hhp w.params (.str "__main__" 164) 8 0 []) o,⟨denote treeTable hcd,hcd,⟨0,0,0,0⟩,[topFrame ⟨0,0,0,0⟩]⟩):=by kernel_rfl
theorem hr1(w:World)(o:OsState):segRun treeTable hpg w 11 (some (.ref 6)) 1 1 (hSh 187 (hhp w.params (.str "__main__" 164) 8 0 []) o) (blockOf hbd hev hcd ⟨0,0,0,0⟩ [topFrame ⟨0,0,0,0⟩])=some (.next,hSh 187 (hhp w.params (.str "__main__" 164) 8 0 []) o,hcd,⟨0,0,0,0⟩):=by kernel_rfl
theorem ht0a(w:World)(o:OsState):segRun treeTable hpg (w.withFollow "special-get-raises" false) 11 (some (.ref 6)) 1 990 (hSh 187 (hhp (w.withFollow "special-get-raises" false).params (.str "__main__" 164) 8 0 []) o) (piecesOf (hbd.take 29) hev hcd ⟨0,0,0,0⟩ [topFrame ⟨0,0,0,0⟩])=some (.next,hSh 368 (hhp (w.withFollow "special-get-raises" false).params hvd 33 13 (hl0 (w.withFollow "special-get-raises" false).params)) o,hcd,⟨70,0,78,50⟩):=by kernel_rfl
theorem ht0b(w:World)(o:OsState):segRun treeTable hpg (w.withFollow "special-get-raises" true) 11 (some (.ref 6)) 1 990 (hSh 187 (hhp (w.withFollow "special-get-raises" true).params (.str "__main__" 164) 8 0 []) o) (piecesOf (hbd.take 29) hev hcd ⟨0,0,0,0⟩ [topFrame ⟨0,0,0,0⟩])=some (.next,hSh 368 (hhp (w.withFollow "special-get-raises" true).params hvd 33 13 (hl0 (w.withFollow "special-get-raises" true).params)) o,hcd,⟨70,0,78,50⟩):=by kernel_rfl
theorem hs0(w:World)(o:OsState):segRun treeTable hpg w 11 (some (.ref 6)) 1 990 (hSh 187 (hhp w.params (.str "__main__" 164) 8 0 []) o) (piecesOf (hbd.take 29) hev hcd ⟨0,0,0,0⟩ [topFrame ⟨0,0,0,0⟩])=some (.next,hSh 368 (hhp w.params hvd 33 13 (hl0 w.params)) o,hcd,⟨70,0,78,50⟩):=by
 have z:=World.withFollow_self w "special-get-raises"
 cases hb:w.params.followText "special-get-raises"
 ·rw[hb] at z;have y:=ht0a w o;rw[z] at y;exact y
 ·rw[hb] at z;have y:=ht0b w o;rw[z] at y;exact y
abbrev hb0:=hbd.drop 29
theorem hs1(w:World)(o:OsState):segRun treeTable hpg w 11 (some (.ref 6)) 1 977 (hSh 368 (hhp w.params hvd 33 13 (hl0 w.params)) o) (piecesOf (hb0.take 34) hev hcd ⟨70,0,78,50⟩ [topFrame ⟨0,0,0,0⟩])=some (.next,hSh 646 (hhp w.params hvf 65 45 (hl1 w.params)) o,hcd,⟨236,0,239,45⟩):=by kernel_rfl
abbrev hb1:=hb0.drop 34
theorem hs2(w:World)(o:OsState):topRun treeTable hpg w 11 (some (.ref 6)) 217 (hSh 646 (hhp w.params hvf 65 45 (hl1 w.params)) o) (restOf hb1 hev hcd ⟨236,0,239,45⟩ [topFrame ⟨0,0,0,0⟩])=some (hSh 712 (hhp w.params hvf 72 52 (hl2 w.params)) o):=by kernel_rfl
theorem hpa{w:World}{n N t t':Nat}{h h':Heap}{o:OsState}{r:Shared}{b:List Stmt}(m:Nat){p p':Pos}(x:segRun treeTable hpg w 11 (some (.ref 6)) 1 n (hSh t h o) (piecesOf (b.take m) hev hcd p [topFrame ⟨0,0,0,0⟩])=some (.next,hSh t' h' o,hcd,p'))(y:topRun treeTable hpg w 11 (some (.ref 6)) N (hSh t' h' o) (restOf (b.drop m) hev hcd p' [topFrame ⟨0,0,0,0⟩])=some r):topRun treeTable hpg w 11 (some (.ref 6)) (n+N) (hSh t h o) (restOf b hev hcd p [topFrame ⟨0,0,0,0⟩])=some r:=by
 have z:=piece_app x y;rwa[List.take_append_drop] at z
theorem hhr(w:World)(o:OsState):topRun treeTable hpg w 11 (some (.ref 6)) (12+(1+(990+(977+217)))) (hSh boot_toks (boot_heap w.params) o) (topStub hpg)=some (hSh 712 (hhp w.params hvf 72 52 (hl2 w.params)) o):=go_top (hr0 w o) (piece_block (hr1 w o) (hpa _ (hs0 w o) (hpa _ (hs1 w o) (hs2 w o))))
def hhf(P:Params):Heap:=hhp P hvf 72 52 (hl2 P)
theorem hhq(w:World):(λo=>((staticsOk (importedModules hpg.main.body) (boot_heap w.params) (hhf w.params)&&namesBound hpg (hhf w.params)&&gensDone (hSh 712 (hhf w.params) o)&&laidKept (boot_heap w.params) (hhf w.params)),openSeen qv ["PARTS"] (importedModules hpg.main.body) Xt true (hSh 712 (hhf w.params) o),hk.obs (hSh 712 (hhf w.params) o)))=λ_=>(true,openGood qv ["PARTS"],hk.val w):=by kernel_rfl
theorem hl:LeftO PySem.Challenge.pw_stretchdeeds_k16_terms_in_texts qv ["PARTS"] Xt hk.obs hk.val 8000:=LeftO.of_pieces (H₀:=boot_heap) (H₁:=hhf) (boot_open (by kernel_rfl) rfl λ_=>by kernel_rfl) (λ_=>by kernel_rfl) hhr rfl hhq
end G16
end
section
namespace PF
open PySem PySem.Spec PyProof.Rows L2
abbrev St:=L2.St
structure KD where
 d:Addr->List (Key×V)->Prop
 c:Str->Addr
instance:CoeFun KD (λ_=>Addr->List (Key×V)->Prop):=⟨KD.d⟩
inductive D where
 |non|bl (b:Bool)|int (i:Int)|str (x:Str)|tup (ds:List D)|lst (ds:List D)|dct (kvs:List (Key×D))|cl (c:Str)|ob (c:Str) (ns:List Str) (ds:List D)
mutual
inductive Rp(K:zC)(kd:KD)(O:Addr->Prop)(H:Hp):V->D->Prop
 |non:Rp K kd O H .non .non
 |bl (b:Bool):Rp K kd O H (.bl b) (.bl b)
 |int (i:Int):Rp K kd O H (.int i) (.int i)
 |str (x:Str):Rp K kd O H (.str x) (.str x)
 |tup {a:Addr}{vs:List V}{ds:List D}:¬O a->Rd H a (.tup vs)->RpL K kd O H vs ds->Rp K kd O H (.ref a) (.tup ds)
 |tupK {a:Addr}{o:Obj}{its:Array Value}{n:Nat}{vs:List V}{ds:List D}:K.lookup a=some o->o.cls = .type "tuple"->o.data = .seq its n->its.size<=sizeLine->Vals vs its.toList->RpL K kd O H vs ds->Rp K kd O H (.ref a) (.tup ds)
 |lst {a:Addr}{vs:List V}{ds:List D}:¬O a->Rd H a (.lst vs)->RpL K kd O H vs ds->Rp K kd O H (.ref a) (.lst ds)
 |lstK {a:Addr}{its:Array Value}{n:Nat}{vs:List V}{ds:List D}:K.lookup a=some {cls:=.type "list",data:=.seq its n}->its.size<=sizeLine->Vals vs its.toList->RpL K kd O H vs ds->Rp K kd O H (.ref a) (.lst ds)
 |dct {a:Addr}{kvs:List (Key×V)}{ds:List (Key×D)}:¬O a->Rd H a (.dK kvs)->RpM K kd O H kvs ds->Rp K kd O H (.ref a) (.dct ds)
 |dctK {a:Addr}{kvs:List (Key×V)}{ds:List (Key×D)}:kd a kvs->RpM K kd O H kvs ds->Rp K kd O H (.ref a) (.dct ds)
 |cl (c:Str):Rp K kd O H (.ref (kd.c c)) (.cl c)
 |ob {a dx:Addr}{c:Str}{ns:List Str}{vs:List V}{ds:List D}:¬O a->H a=some (.ins (kd.c c) dx (ns.zip vs))->ns.length=vs.length->RpL K kd O H vs ds->Rp K kd O H (.ref a) (.ob c ns ds)
inductive RpL(K:zC)(kd:KD)(O:Addr->Prop)(H:Hp):List V->List D->Prop
 |nil:RpL K kd O H [] []
 |cons {v:V}{d:D}{vs:List V}{ds:List D}:Rp K kd O H v d->RpL K kd O H vs ds->RpL K kd O H (v::vs) (d::ds)
inductive RpM(K:zC)(kd:KD)(O:Addr->Prop)(H:Hp):List (Key×V)->List (Key×D)->Prop
 |nil:RpM K kd O H [] []
 |cons {k:Key}{v:V}{d:D}{vs:List (Key×V)}{ds:List (Key×D)}:Rp K kd O H v d->RpM K kd O H vs ds->RpM K kd O H ((k,v)::vs) ((k,d)::ds)
end
structure Grow(W:Addr->Prop)(H:Hp)(W':Addr->Prop)(H':Hp):Prop where
 keep:∀b o,H b=some o->¬W b->H' b=some o
 own:∀b,W' b->W b\/H b=none
theorem Grow.refl{W:Addr->Prop}{H:Hp}:Grow W H W H:=⟨λ_ _ h _=>h,λ_ h=>.inl h⟩
theorem Grow.trans{W W1 W2:Addr->Prop}{H H1 H2:Hp}(a:Grow W H W1 H1)(b:Grow W1 H1 W2 H2):Grow W H W2 H2 where
 keep:=λx o h n=>b.keep x o (a.keep x o h n) λq=>(a.own x q).elim n λz=>by rw[z]at h;cases h
 own:=λx q=>by
  rcases b.own x q with h|h
  . exact a.own x h
  . cases e:H x with
    |none=>exact .inr rfl
    |some o=>
     refine .inl (Classical.byContradiction λn=>?_);rw[a.keep x o e n]at h;cases h
theorem Grow.less{W W':Addr->Prop}{H:Hp}(h:∀a,W' a->W a):Grow W H W' H:=⟨λ_ _ q _=>q,λb q=>.inl (h b q)⟩
theorem Grow.wr{W:Addr->Prop}{H:Hp}{p:Addr}{o:HO}(h:W p):Grow W H W (upd H p o):=
 ⟨λb u q n=>by rw[yg (λe=>n (by rw[e];exact h))];exact q,λ_ q=>.inl q⟩
abbrev Un2(F W:Addr->Prop):Addr->Prop:=λa=>F a\/W a
section
variable{K:zC}{kd:KD}{F W W':Addr->Prop}{H H':Hp}
theorem zaj{a:Addr}{u:HO}(g:Grow W H W' H')(n:¬W a)(h:Rd H a u):Rd H' a u:=by
 rcases h with h|⟨o,h⟩
 . exact .inl (g.keep _ _ h n)
 . exact .inr ⟨o,g.keep _ _ h n⟩
theorem ztj{a:Addr}{u:HO}(h:Rd H a u):H a≠none:=by
 rcases h with h|⟨o,h⟩<;>(rw[h];simp)
theorem zcP{a:Addr}{u:HO}(g:Grow W H W' H')(n:¬Un2 F W a)(h:Rd H a u):¬Un2 F W' a:=λq=>
 q.elim (λz=>n (.inl z)) λz=>(g.own a z).elim (λy=>n (.inr y)) λy=>ztj h y
theorem Rp.grow(g:Grow W H W' H'){v:V}{d:D}(h:Rp K kd (Un2 F W) H v d):Rp K kd (Un2 F W') H' v d:=
 Rp.rec (motive_1:=λv d _=>Rp K kd (Un2 F W') H' v d) (motive_2:=λvs ds _=>RpL K kd (Un2 F W') H' vs ds) (motive_3:=λvs ds _=>RpM K kd (Un2 F W') H' vs ds) .non .bl .int .str (λn h _ r=>.tup (zcP g n h) (zaj g (λz=>n (.inr z)) h) r) (λa b c e f _ r=>.tupK a b c e f r) (λn h _ r=>.lst (zcP g n h) (zaj g (λz=>n (.inr z)) h) r) (λa e f _ r=>.lstK a e f r) (λn h _ r=>.dct (zcP g n h) (zaj g (λz=>n (.inr z)) h) r) (λh _ r=>.dctK h r) .cl (λn h l _ r=>.ob (zcP g n (.inl h)) (g.keep _ _ h λz=>n (.inr z)) l r) .nil (λ_ _ h r=>.cons h r) .nil (λ_ _ h r=>.cons h r) h
theorem RpL.ind{O:Addr->Prop}{P:List V->List D->Prop}(h0:P [] [])(h1:∀{v d vs ds},Rp K kd O H v d->RpL K kd O H vs ds->P vs ds->P (v::vs) (d::ds)){vs:List V}{ds:List D}(h:RpL K kd O H vs ds):P vs ds:=
 RpL.rec (motive_1:=λ_ _ _=>True) (motive_2:=λvs ds _=>P vs ds) (motive_3:=λ_ _ _=>True) ⟨⟩ (λ_=>⟨⟩) (λ_=>⟨⟩) (λ_=>⟨⟩) (λ_ _ _ _=>⟨⟩) (λ_ _ _ _ _ _ _=>⟨⟩) (λ_ _ _ _=>⟨⟩) (λ_ _ _ _ _=>⟨⟩) (λ_ _ _ _=>⟨⟩) (λ_ _ _=>⟨⟩) (λ_=>⟨⟩) (λ_ _ _ _ _=>⟨⟩) h0 (λa r _ ih=>h1 a r ih) ⟨⟩ (λ_ _ _ _=>⟨⟩) h
theorem RpM.ind{O:Addr->Prop}{P:List (Key×V)->List (Key×D)->Prop}(h0:P [] [])(h1:∀{k v d vs ds},Rp K kd O H v d->RpM K kd O H vs ds->P vs ds->P ((k,v)::vs) ((k,d)::ds)){vs:List (Key×V)}{ds:List (Key×D)}(h:RpM K kd O H vs ds):P vs ds:=
 RpM.rec (motive_1:=λ_ _ _=>True) (motive_2:=λ_ _ _=>True) (motive_3:=λvs ds _=>P vs ds) ⟨⟩ (λ_=>⟨⟩) (λ_=>⟨⟩) (λ_=>⟨⟩) (λ_ _ _ _=>⟨⟩) (λ_ _ _ _ _ _ _=>⟨⟩) (λ_ _ _ _=>⟨⟩) (λ_ _ _ _ _=>⟨⟩) (λ_ _ _ _=>⟨⟩) (λ_ _ _=>⟨⟩) (λ_=>⟨⟩) (λ_ _ _ _ _=>⟨⟩) ⟨⟩ (λ_ _ _ _=>⟨⟩) h0 (λa r _ ih=>h1 a r ih) h
theorem RpL.grow(g:Grow W H W' H'){vs:List V}{ds:List D}(h:RpL K kd (Un2 F W) H vs ds):RpL K kd (Un2 F W') H' vs ds:=RpL.ind .nil (λa _ r=>.cons (Rp.grow g a) r) h
theorem Rp.less{O O':Addr->Prop}(g:∀a,O' a->O a){v:V}{d:D}(h:Rp K kd O H v d):Rp K kd O' H v d:=
 Rp.rec (motive_1:=λv d _=>Rp K kd O' H v d) (motive_2:=λvs ds _=>RpL K kd O' H vs ds) (motive_3:=λvs ds _=>RpM K kd O' H vs ds) .non .bl .int .str (λn h _ r=>.tup (λz=>n (g _ z)) h r) (λa b c e f _ r=>.tupK a b c e f r) (λn h _ r=>.lst (λz=>n (g _ z)) h r) (λa e f _ r=>.lstK a e f r) (λn h _ r=>.dct (λz=>n (g _ z)) h r) (λh _ r=>.dctK h r) .cl (λn h l _ r=>.ob (λz=>n (g _ z)) h l r) .nil (λ_ _ h r=>.cons h r) .nil (λ_ _ h r=>.cons h r) h
theorem RpL.less{O O':Addr->Prop}(g:∀a,O' a->O a){vs:List V}{ds:List D}(h:RpL K kd O H vs ds):RpL K kd O' H vs ds:=RpL.ind .nil (λa _ r=>.cons (Rp.less g a) r) h
theorem RpM.less{O O':Addr->Prop}(g:∀a,O' a->O a){vs:List (Key×V)}{ds:List (Key×D)}(h:RpM K kd O H vs ds):RpM K kd O' H vs ds:=RpM.ind .nil (λa _ r=>.cons (Rp.less g a) r) h
theorem RpL.length{O:Addr->Prop}{vs:List V}{ds:List D}(h:RpL K kd O H vs ds):vs.length=ds.length:=RpL.ind (P:=λvs ds=>vs.length=ds.length) rfl (λ_ _ r=>congrArg (· + 1) r) h
theorem RpM.length{O:Addr->Prop}{vs:List (Key×V)}{ds:List (Key×D)}(h:RpM K kd O H vs ds):vs.length=ds.length:=RpM.ind (P:=λvs ds=>vs.length=ds.length) rfl (λ_ _ r=>congrArg (· + 1) r) h
theorem RpL.get{O:Addr->Prop}{vs:List V}{ds:List D}{i:Nat}{d:D}(h:RpL K kd O H vs ds)(e:ds[i]? = some d):∃v,vs[i]? = some v/\Rp K kd O H v d:=
 RpL.ind (P:=λvs ds=>∀i,ds[i]? = some d->∃v,vs[i]? = some v/\Rp K kd O H v d) (λi e=>by rw[List.getElem?_nil]at e;cases e) (λa _ ih i e=>by
  cases i with
  |zero=>cases e;exact⟨_,rfl,a⟩
  |succ i=>exact ih i e) h i e
theorem RpL.append{O:Addr->Prop}{vs ws:List V}{ds es:List D}(h:RpL K kd O H vs ds)(r:RpL K kd O H ws es):RpL K kd O H (vs++ws) (ds++es):=RpL.ind (P:=λvs ds=>RpL K kd O H (vs++ws) (ds++es)) r (λa _ t=>.cons a t) h
theorem RpL.take{O:Addr->Prop}{vs:List V}{ds:List D}(n:Nat)(h:RpL K kd O H vs ds):RpL K kd O H (vs.take n) (ds.take n):=
 RpL.ind (P:=λvs ds=>∀n,RpL K kd O H (vs.take n) (ds.take n)) (λn=>by rw[List.take_nil,List.take_nil];exact .nil) (λa _ ih n=>by
  cases n with
  |zero=>exact .nil
  |succ n=>exact .cons a (ih n)) h n
theorem RpL.drop{O:Addr->Prop}{vs:List V}{ds:List D}(n:Nat)(h:RpL K kd O H vs ds):RpL K kd O H (vs.drop n) (ds.drop n):=
 RpL.ind (P:=λvs ds=>∀n,RpL K kd O H (vs.drop n) (ds.drop n)) (λn=>by rw[List.drop_nil,List.drop_nil];exact .nil) (λa b ih n=>by
  cases n with
  |zero=>exact .cons a b
  |succ n=>exact ih n) h n
theorem RpL.rep{O:Addr->Prop}{vs:List V}{ds:List D}(h:RpL K kd O H vs ds):∀k:Nat,RpL K kd O H (List.replicate k vs).flatten (List.replicate k ds).flatten
 |0=>.nil
 |k+1=>by
  rw[List.replicate_succ,List.replicate_succ,List.flatten_cons,List.flatten_cons];exact h.append (RpL.rep h k)
end
inductive Vw(K:zC)(kd:KD)(O:Addr->Prop)(H:Hp):V->D->Prop
 |non:Vw K kd O H .non .non
 |bl (b:Bool):Vw K kd O H (.bl b) (.bl b)
 |int (i:Int):Vw K kd O H (.int i) (.int i)
 |str (x:Str):Vw K kd O H (.str x) (.str x)
 |tup {a:Addr}{vs:List V}{ds:List D}:Rp K kd O H (.ref a) (.tup ds)->SqT K H a vs->RpL K kd O H vs ds->Vw K kd O H (.ref a) (.tup ds)
 |lst {a:Addr}{vs:List V}{ds:List D}:RdL K H a vs->RpL K kd O H vs ds->Vw K kd O H (.ref a) (.lst ds)
 |dct {a:Addr}{kvs:List (Key×V)}{ds:List (Key×D)}:(Rd H a (.dK kvs)\/kd a kvs)->RpM K kd O H kvs ds->Vw K kd O H (.ref a) (.dct ds)
 |cl (c:Str):Vw K kd O H (.ref (kd.c c)) (.cl c)
 |ob {a dx:Addr}{c:Str}{ns:List Str}{vs:List V}{ds:List D}:H a=some (.ins (kd.c c) dx (ns.zip vs))->ns.length=vs.length->RpL K kd O H vs ds->Vw K kd O H (.ref a) (.ob c ns ds)
theorem Rp.vw{K:zC}{kd:KD}{O:Addr->Prop}{H:Hp}{v:V}{d:D}(h:Rp K kd O H v d):Vw K kd O H v d:=by
 cases h with
 |non=>exact .non
 |bl b=>exact .bl b
 |int i=>exact .int i
 |str x=>exact .str x
 |tup n h r=>exact .tup (.tup n h r) (.inl h) r
 |tupK a b c e f r=>exact .tup (.tupK a b c e f r) (.inr ⟨_,_,_,a,b,c,e,f⟩) r
 |lst n h r=>exact .lst (.inl h) r
 |lstK a e f r=>exact .lst (.inr ⟨_,_,a,e,f⟩) r
 |dct n h r=>exact .dct (.inl h) r
 |dctK h r=>exact .dct (.inr h) r
 |cl c=>exact .cl c
 |ob n h l r=>exact .ob h l r
theorem _root_.L2.RdL.sq{K:zC}{H:Hp}{a:Addr}{xs:List V}(h:RdL K H a xs):SqL K H a xs:=by
 rcases h with h|⟨its,n,k,z,r⟩
 . exact .inl h
 . exact .inr ⟨_,its,n,k,rfl,rfl,rfl,z,r⟩
theorem zmN{X:Cx}{pins:List (Addr×Obj)}{σ:St}{H:Hp}{s:Shared}{a:Addr}{xs:List V}(I:Inv X pins σ H s)(h:RdL X.K H a xs):
 xs.length<=sizeLine/\∃(its:List Value) (n:Nat),Vals xs its/\s.heap.get? a=some {cls:=.type "list",data:=.seq its.toArray n}:=by
 rcases h with h|⟨its,n,k,z,r⟩
 . exact h.ok I.hok
 . refine⟨by rw[r.length];simpa using z,its.toList,n,r,by simpa using I.kIn _ _ k⟩
theorem Rp.cl_eq{K:zC}{kd:KD}{O:Addr->Prop}{H:Hp}{C:Addr}{c:Str}(h:Rp K kd O H (.ref C) (.cl c)):C=kd.c c:=by
 cases h;rfl
def ye:D->Bool
 | .non=>true | .bl _=>true | .int _=>true | .str _=>true|_=>false
theorem Rp.flat{K:zC}{kd:KD}{O O':Addr->Prop}{H H':Hp}{v:V}{d:D}(h:Rp K kd O H v d)(e:ye d=true):Rp K kd O' H' v d:=by
 cases h with
 |non=>exact .non
 |bl b=>exact .bl b
 |int i=>exact .int i
 |str x=>exact .str x
 |_=>cases e
inductive Kind where
 |ls|tp|dc (ks:List Key)|ob (c:Str) (ns:List Str)
inductive O where
 |lf (st:Bool) (d:D)|nd (k:Kind) (os:List O)
abbrev lfs(st:Bool)(d:D):O:=.lf (ye d||st) d
mutual
inductive Ro(L:Bool->V->D->Prop)(N:Addr->Prop)(H:Hp):V->O->List Addr->Prop
 |lf {st:Bool}{v:V}{d:D}:L st v d->Ro L N H v (.lf st d) []
 |ls {a:Addr}{vs:List V}{os:List O}{fp:List Addr}:H a=some (.lst vs)->RoL L N H vs os fp->Ro L N H (.ref a) (.nd .ls os) (a::fp)
 |dc {a:Addr}{ks:List Key}{vs:List V}{os:List O}{fp:List Addr}:H a=some (.dK (ks.zip vs))->ks.length=vs.length->RoL L N H vs os fp->Ro L N H (.ref a) (.nd (.dc ks) os) (a::fp)
 |ob {a dx C:Addr}{c:Str}{ns:List Str}{vs:List V}{os:List O}{fp:List Addr}:L true (.ref C) (.cl c)->H a=some (.ins C dx (ns.zip vs))->ns.length=vs.length->RoL L N H vs os fp->Ro L N H (.ref a) (.nd (.ob c ns) os) (a::fp)
 |tp {a:Addr}{vs:List V}{os:List O}{fp:List Addr}:N a->H a=some (.tup vs)->RoL L N H vs os fp->Ro L N H (.ref a) (.nd .tp os) fp
inductive RoL(L:Bool->V->D->Prop)(N:Addr->Prop)(H:Hp):List V->List O->List Addr->Prop
 |nil:RoL L N H [] [] []
 |cons {v:V}{o:O}{vs:List V}{os:List O}{fp fq:List Addr}:Ro L N H v o fp->RoL L N H vs os fq->RoL L N H (v::vs) (o::os) (fp++fq)
end
mutual
def O.toD:O->D
 | .lf _ d=>d
 | .nd .ls os=>.lst (O.toDs os)
 | .nd .tp os=>.tup (O.toDs os)
 | .nd (.dc ks) os=>.dct (ks.zip (O.toDs os))
 | .nd (.ob c ns) os=>.ob c ns (O.toDs os)
def O.toDs:List O->List D
 | []=>[]
 |o::r=>o.toD::O.toDs r
end
mutual
def O.str:O->Bool
 | .lf st _=>st
 | .nd _ os=>O.strs os
def O.strs:List O->Bool
 | []=>true
 |o::r=>o.str&&O.strs r
end
section
variable{L L':Bool->V->D->Prop}{N N':Addr->Prop}{H H':Hp}{K:zC}{kd:KD}{Ob:Addr->Prop}
theorem Ro.mono(hL:∀st v d,L st v d->L' st v d)(hN:∀a vs,N a->H a=some (.tup vs)->N' a/\H' a=some (.tup vs)){v:V}{o:O}{fp:List Addr}(k:∀a ∈ fp,∀u,H a=some u->H' a=some u)(h:Ro L N H v o fp):Ro L' N' H' v o fp:=
 Ro.rec (motive_1:=λv o fp _=>(∀a ∈ fp,∀u,H a=some u->H' a=some u)->Ro L' N' H' v o fp) (motive_2:=λvs os fp _=>(∀a ∈ fp,∀u,H a=some u->H' a=some u)->RoL L' N' H' vs os fp)
  (λh _=>.lf (hL _ _ _ h)) (λh _ r k=>.ls (k _ zzB _ h) (r λa m=>k a (zS _ m))) (λh l _ r k=>.dc (k _ zzB _ h) l (r λa m=>k a (zS _ m))) (λc h l _ r k=>.ob (hL _ _ _ c) (k _ zzB _ h) l (r λa m=>k a (zS _ m))) (λn h _ r k=>.tp (hN _ _ n h).1 (hN _ _ n h).2 (r k))
  (λ_=>.nil) (λ_ _ h r k=>.cons (h λa m=>k a (zzL _ m)) (r λa m=>k a (zzH _ m))) h k
theorem RoL.ind{P:List V->List O->List Addr->Prop}(h0:P [] [] [])(h1:∀{v o vs os fp fq},Ro L N H v o fp->RoL L N H vs os fq->P vs os fq->P (v::vs) (o::os) (fp++fq)){vs:List V}{os:List O}{fp:List Addr}(h:RoL L N H vs os fp):P vs os fp:=
 RoL.rec (motive_1:=λ_ _ _ _=>True) (motive_2:=λvs os fp _=>P vs os fp) (λ_=>⟨⟩) (λ_ _ _=>⟨⟩) (λ_ _ _ _=>⟨⟩) (λ_ _ _ _ _=>⟨⟩) (λ_ _ _ _=>⟨⟩) h0 (λa r _ ih=>h1 a r ih) h
theorem RoL.mono(hL:∀st v d,L st v d->L' st v d)(hN:∀a vs,N a->H a=some (.tup vs)->N' a/\H' a=some (.tup vs)){vs:List V}{os:List O}{fp:List Addr}(k:∀a ∈ fp,∀u,H a=some u->H' a=some u)(h:RoL L N H vs os fp):RoL L' N' H' vs os fp:=
 RoL.ind (P:=λvs os fp=>(∀a ∈ fp,∀u,H a=some u->H' a=some u)->RoL L' N' H' vs os fp) (λ_=>.nil) (λh _ r k=>.cons (Ro.mono hL hN (λa m=>k a (zzL _ m)) h) (r λa m=>k a (zzH _ m))) h k
theorem zfL:∀{ks:List Key}{vs:List V}{ds:List D},RpL K kd Ob H vs ds->ks.length=vs.length->RpM K kd Ob H (ks.zip vs) (ks.zip ds)
 | [],_,_,_,_=>.nil
 |_::_,_,_,.nil,e=>by simp at e
 |_::_,_,_,.cons h r,e=>.cons h (zfL r (by simpa using e))
theorem Ro.rp(b:Bool)(hL:∀st v d,(b=true->st=true)->L st v d->Rp K kd Ob H v d)(hN:∀a,N a->¬Ob a){v:V}{o:O}{fp:List Addr}(s:b=true->o.str=true)(k:∀a ∈ fp,¬Ob a)(h:Ro L N H v o fp):Rp K kd Ob H v o.toD:=
 Ro.rec (motive_1:=λv o fp _=>(b=true->o.str=true)->(∀a ∈ fp,¬Ob a)->Rp K kd Ob H v o.toD) (motive_2:=λvs os fp _=>(b=true->O.strs os=true)->(∀a ∈ fp,¬Ob a)->RpL K kd Ob H vs (O.toDs os))
  (λh s _=>hL _ _ _ s h) (λh _ r s k=>.lst (k _ zzB) (.inl h) (r s λa m=>k a (zS _ m))) (λh l _ r s k=>.dct (k _ zzB) (.inl h) (zfL (r s λa m=>k a (zS _ m)) l)) (λc h l _ r s k=>by
   have e:=(hL _ _ _ (λ_=>rfl) c).cl_eq;subst e;exact .ob (k _ zzB) h l (r s λa m=>k a (zS _ m))) (λn h _ r s k=>.tup (hN _ n) (.inl h) (r s k))
  (λ_ _=>.nil) (λ_ _ h r s k=>.cons (h (λz=>((zzW _ _).mp (s z)).1) λa m=>k a (zzL _ m)) (r (λz=>((zzW _ _).mp (s z)).2) λa m=>k a (zzH _ m))) h s k
theorem RoL.rp(b:Bool)(hL:∀st v d,(b=true->st=true)->L st v d->Rp K kd Ob H v d)(hN:∀a,N a->¬Ob a){vs:List V}{os:List O}{fp:List Addr}(s:b=true->O.strs os=true)(k:∀a ∈ fp,¬Ob a)(h:RoL L N H vs os fp):RpL K kd Ob H vs (O.toDs os):=
 RoL.ind (P:=λvs os fp=>(b=true->O.strs os=true)->(∀a ∈ fp,¬Ob a)->RpL K kd Ob H vs (O.toDs os)) (λ_ _=>.nil) (λh _ r s k=>.cons (Ro.rp b hL hN (λz=>((zzW _ _).mp (s z)).1) (λa m=>k a (zzL _ m)) h) (r (λz=>((zzW _ _).mp (s z)).2) λa m=>k a (zzH _ m))) h s k
theorem RoL.length{vs:List V}{os:List O}{fp:List Addr}(h:RoL L N H vs os fp):vs.length=os.length:=RoL.ind (P:=λvs os _=>vs.length=os.length) rfl (λ_ _ r=>congrArg (· + 1) r) h
theorem zeB:∀os:List O,(O.toDs os).length=os.length
 | []=>rfl
 |_::r=>congrArg (· + 1) (zeB r)
theorem RoL.append{vs ws:List V}{os ps:List O}{f g:List Addr}(h:RoL L N H vs os f)(r:RoL L N H ws ps g):RoL L N H (vs++ws) (os++ps) (f++g):=RoL.ind (P:=λvs os f=>RoL L N H (vs++ws) (os++ps) (f++g)) r (λh _ t=>by rw[zyU];exact .cons h t) h
theorem RoL.one{v:V}{o:O}{f:List Addr}(h:Ro L N H v o f):RoL L N H [v] [o] f:=by
 have:=RoL.cons h (RoL.nil (L:=L) (N:=N) (H:=H));rw[zzY]at this;exact this
theorem RoL.at_{k:Nat}{o:O}:∀{vs:List V}{os:List O}{fp:List Addr},RoL L N H vs os fp->os[k]? = some o->∃v f fo g,vs[k]? = some v/\fp=f++(fo++g)/\Ro L N H v o fo/\RoL L N H (vs.take k) (os.take k) f/\RoL L N H (vs.drop (k+1)) (os.drop (k+1)) g:=by
 induction k with
 |zero=>
  intro vs os fp h e;cases h with
  |nil=>cases e
  |cons h r=>
   rw[List.getElem?_cons_zero]at e;cases e;exact⟨_,[],_,_,rfl,rfl,h,.nil,r⟩
 |succ k ih=>
  intro vs os fp h e;cases h with
  |nil=>cases e
  |cons h r=>
   rw[List.getElem?_cons_succ]at e;obtain⟨v,f,fo,g,e1,e2,h1,h2,h3⟩:=ih r e;subst e2;exact⟨v,_,fo,g,by rw[List.getElem?_cons_succ];exact e1,(zyU _ _ _).symm,h1,.cons h h2,h3⟩
theorem zeT{α:Type}(l:List α)(k:Nat):l.eraseIdx k=l.take k++l.drop (k+1):=List.eraseIdx_eq_take_drop_succ l k
end
abbrev AS:=List (Option O)
abbrev Ad:=Nat->List Addr
def Gw(T:List Addr)(ad:Ad):Addr->Prop:=λa=>a ∈ T\/∃i,a ∈ ad i
abbrev Lv(F B G:Addr->Prop)(st:Bool):Addr->Prop:=Un2 (λa=>(st=true/\F a)\/B a) G
abbrev Lf(K:zC)(kd:KD)(F B G:Addr->Prop)(H:Hp):Bool->V->D->Prop:=λst v d=>Rp K kd (Lv F B G st) H v d
abbrev Nf(F B G:Addr->Prop):Addr->Prop:=λa=>¬Lv F B G true a
abbrev RoS(K:zC)(kd:KD)(F B G:Addr->Prop)(H:Hp):V->O->List Addr->Prop:=Ro (Lf K kd F B G H) (Nf F B G) H
abbrev Y5(K:zC)(kd:KD)(F B G:Addr->Prop)(H:Hp):List V->List O->List Addr->Prop:=RoL (Lf K kd F B G H) (Nf F B G) H
def zgx(K:zC)(kd:KD)(F B G:Addr->Prop)(H:Hp):Option O->Option (Option V)->List Addr->Prop
 |none,_,fp=>fp=[]
 |some o,s,fp=>∃v,s=some (some v)/\RoS K kd F B G H v o fp
structure Rel(K:zC)(kd:KD)(F B:Addr->Prop)(T:List Addr)(ad:Ad)(as:AS)(σ:St)(H:Hp):Prop where
 len:as.length=σ.length
 out:∀i,as.length<=i->ad i=[]
 nd:∀i,(ad i).Nodup
 inj:∀i j a,a ∈ ad i->a ∈ ad j->i=j
 tnd:T.Nodup
 dis:∀i a,a ∈ ad i->a ∉ T
 ftr:∀a,F a->H a≠none
 btr:∀a,B a->H a≠none/\¬F a/\¬Gw T ad a
 gtr:∀a,Gw T ad a->H a≠none/\¬F a
 sl:∀i s,as[i]? = some s->zgx K kd F B (Gw T ad) H s σ[i]? (ad i)
inductive RV where
 |ow (o:O)|bo (i:Nat)
def vM(K:zC)(kd:KD)(F B:Addr->Prop)(T:List Addr)(ad:Ad)(σ:St)(H:Hp)(v:V):RV->Prop
 | .ow o=>RoS K kd F B (Gw T ad) H v o T
 | .bo i=>T=[]/\σ[i]? = some (some v)
def O.frz(o:O):O:=.lf o.str o.toD
def RV.frz:RV->RV
 | .ow o=>.ow o.frz
 | .bo i=>.bo i
def O.isLf:O->Bool
 | .lf _ _=>true
 |_=>false
def O.kl:O->Option Bool
 | .lf st _=>some st
 | .nd _ os=>if os.all O.isLf=true then some (O.strs os)else none
def RV.view(as:AS):RV->Option (D×Option Bool)
 | .ow o=>some (o.toD,some o.str)
 | .bo i=>match as[i]? with
  |some (some o)=>some (o.toD,o.kl)
  |_=>none
def Obl(F B G:Addr->Prop):Option Bool->Addr->Prop
 |some st=>Lv F B G st
 |none=>λ_=>False
section
variable{K:zC}{kd:KD}{F B F' B':Addr->Prop}{G G':Addr->Prop}{T T':List Addr}{ad ad1:Ad}{as as1:AS}{σ:St}{H H1 H':Hp}{v:V}{r:RV}{o:O}{fp:List Addr}{vs:List V}{os:List O}
theorem RoS.grow(g:Grow G H G' H')(k:∀a ∈ fp,∀u,H a=some u->H' a=some u)(h:RoS K kd F B G H v o fp):RoS K kd F B G' H' v o fp:=
 Ro.mono (λst v d r=>Rp.grow g r) (λa vs n e=>⟨λz=>z.elim (λy=>n (.inl y)) λy=>(g.own a y).elim (λw=>n (.inr w)) λw=>(by rw[w]at e;cases e),g.keep a _ e (λw=>n (.inr w))⟩) k h
theorem Y5.grow(g:Grow G H G' H')(k:∀a ∈ fp,∀u,H a=some u->H' a=some u)(h:Y5 K kd F B G H vs os fp):Y5 K kd F B G' H' vs os fp:=
 RoL.mono (λst v d r=>Rp.grow g r) (λa vs n e=>⟨λz=>z.elim (λy=>n (.inl y)) λy=>(g.own a y).elim (λw=>n (.inr w)) λw=>(by rw[w]at e;cases e),g.keep a _ e (λw=>n (.inr w))⟩) k h
theorem RoS.lv(g:∀st a,Lv F' B' G' st a->Lv F B G st a)(h:RoS K kd F B G H v o fp):RoS K kd F' B' G' H v o fp:=
 Ro.mono (λst v d r=>r.less (g st)) (λa vs n e=>⟨λz=>n (g true a z),e⟩) (λ_ _ _ e=>e) h
theorem Y5.lv(g:∀st a,Lv F' B' G' st a->Lv F B G st a)(h:Y5 K kd F B G H vs os fp):Y5 K kd F' B' G' H vs os fp:=
 RoL.mono (λst v d r=>r.less (g st)) (λa vs n e=>⟨λz=>n (g true a z),e⟩) (λ_ _ _ e=>e) h
theorem RoS.less(g:∀a,G' a->G a)(h:RoS K kd F B G H v o fp):RoS K kd F B G' H v o fp:=RoS.lv (λ_ a z=>z.elim .inl λy=>.inr (g a y)) h
theorem Gw.drop:∀a,Gw [] ad a->Gw T ad a:=λ_ h=>h.elim (λz=>nomatch z) .inr
theorem Rel.trk(R:Rel K kd F B T ad as σ H)(st:Bool):∀a,Lv F B (Gw T ad) st a->H a≠none:=λa h=>by
 rcases h with(h|h)|h
 . exact R.ftr a h.2
 . exact(R.btr a h).1
 . exact(R.gtr a h).1
theorem Rel.tr(R:Rel K kd F B T ad as σ H)(lv:Option Bool):∀a,Obl F B (Gw T ad) lv a->H a≠none:=λa h=>by
 cases lv with
 |none=>exact h.elim
 |some st=>exact R.trk st a h
theorem zgx.lv{s:Option O}{x:Option (Option V)}(g:∀st a,Lv F' B' G' st a->Lv F B G st a)(h:zgx K kd F B G H s x fp):zgx K kd F' B' G' H s x fp:=by
 cases s with
 |none=>exact h
 |some o=>obtain⟨v,e,r⟩:=h;exact⟨v,e,RoS.lv g r⟩
theorem zgx.less{s:Option O}{x:Option (Option V)}(g:∀a,G' a->G a)(h:zgx K kd F B G H s x fp):zgx K kd F B G' H s x fp:=h.lv (λ_ a z=>z.elim .inl λy=>.inr (g a y))
theorem zgx.grow{s:Option O}{x:Option (Option V)}(g:Grow G H G' H')(k:∀a ∈ fp,∀u,H a=some u->H' a=some u)(h:zgx K kd F B G H s x fp):zgx K kd F B G' H' s x fp:=by
 cases s with
 |none=>exact h
 |some o=>obtain⟨v,e,r⟩:=h;exact⟨v,e,RoS.grow g k r⟩
theorem Rel.drop(R:Rel K kd F B T ad as σ H):Rel K kd F B [] ad as σ H where
 len:=R.len
 out:=R.out
 nd:=R.nd
 inj:=R.inj
 tnd:=zyD
 dis:=λ_ _ _ z=>nomatch z
 ftr:=R.ftr
 btr:=λa h=>let⟨h1,h2,h3⟩:=R.btr a h;⟨h1,h2,λz=>h3 (Gw.drop a z)⟩
 gtr:=λa h=>R.gtr a (Gw.drop a h)
 sl:=λi s e=>(R.sl i s e).less Gw.drop
theorem zjQ(R:Rel K kd F B T ad as σ H)(h:RoS K kd F B (Gw T ad) H v o T):Rp K kd (Lv F B (Gw [] ad) o.str) H v o.toD:=
 Ro.rp o.str (λst v d hs r=>r.less λa z=>z.elim (λy=>.inl (y.elim (λx=>.inl ⟨hs x.1,x.2⟩) .inr)) λy=>.inr (Gw.drop a y))
  (λa n z=>n (z.elim (λy=>.inl (y.elim (λx=>.inl ⟨rfl,x.2⟩) .inr)) λy=>.inr (Gw.drop a y))) id
  (λa m z=>by
   rcases z with(z|z)|z|⟨i,z⟩
   . exact(R.gtr a (.inl m)).2 z.2
   . exact(R.btr a z).2.2 (.inl m)
   . cases z
   . exact R.dis i a z m) h
theorem vM.drop(R:Rel K kd F B T ad as σ H)(h:vM K kd F B T ad σ H v r):vM K kd F B [] ad σ H v r.frz:=by
 cases r with
 |ow o=>exact .lf (zjQ R h)
 |bo i=>exact⟨rfl,h.2⟩
theorem vM.grow(g:Grow (Gw [] ad) H (Gw [] ad1) H1)(h:vM K kd F B [] ad σ H v r):vM K kd F B [] ad1 σ H1 v r:=by
 cases r with
 |ow o=>exact RoS.grow g (λ_ m=>nomatch m) h
 |bo i=>exact h
theorem zqr{vs:List V}{os:List O}{fp:List Addr}(h:Y5 K kd F B G H vs os fp):os.all O.isLf=true->fp=[]:=
 RoL.ind (P:=λ_ os fp=>os.all O.isLf=true->fp=[]) (λ_=>rfl) (λh _ ih e=>by
  rw[List.all_cons,zzW]at e;rw[ih e.2,zzY];cases h with
  |lf=>rfl
  |ls=>cases e.1
  |dc=>cases e.1
  |ob=>cases e.1
  |tp=>cases e.1) h
theorem zgW{st:Bool}{b:Bool}(hs:b=true->st=true):∀a,Lv F B G b a->Lv F B G st a:=λa z=>z.elim (λy=>.inl (y.elim (λx=>.inl ⟨hs x.1,x.2⟩) .inr)) .inr
theorem zgq(h:Y5 K kd F B G H vs os fp)(e:os.all O.isLf=true):RpL K kd (Lv F B G (O.strs os)) H vs (O.toDs os):=by
 have:=zqr h e;subst this;exact RoL.rp (O.strs os) (λst v d hs r=>r.less (zgW hs)) (λa n z=>n (zgW (λ_=>rfl) a z)) id (by intro a m;cases m) h
theorem zdH(h:Y5 K kd F B G H vs os fp):RpL K kd (λ_=>False) H vs (O.toDs os):=RoL.rp false (λst v d _ r=>r.less λ_ z=>z.elim) (λ_ _ z=>z) (λz=>Bool.noConfusion z) (λ_ _ z=>z) h
theorem zkE(h:RoS K kd F B G H v o fp):Rp K kd (λ_=>False) H v o.toD:=Ro.rp false (λst v d _ r=>r.less λ_ z=>z.elim) (λ_ _ z=>z) (λz=>Bool.noConfusion z) (λ_ _ z=>z) h
theorem zhl(h:RoS K kd F B G H v o []):Rp K kd (Lv F B G o.str) H v o.toD:=
 Ro.rp o.str (λst v d hs r=>r.less (zgW hs)) (λa n z=>n (zgW (λ_=>rfl) a z)) id (by intro a m;cases m) h
theorem RoS.vw(h:RoS K kd F B G H v o fp):Vw K kd (Obl F B G o.kl) H v o.toD:=by
 cases h with
 |lf h=>exact h.vw
 |ls hH r=>
  rename_i a vs' os' fp';show Vw K kd (Obl F B G (if os'.all O.isLf=true then some (O.strs os')else none)) H _ (.lst (O.toDs os'))
  by_cases e:os'.all O.isLf=true
  . rw[if_pos e];exact .lst (.inl (.inl hH)) (zgq r e)
  . rw[if_neg e];exact .lst (.inl (.inl hH)) (zdH r)
 |dc hH l r=>
  rename_i a ks vs' os' fp';show Vw K kd (Obl F B G (if os'.all O.isLf=true then some (O.strs os')else none)) H _ (.dct (ks.zip (O.toDs os')))
  by_cases e:os'.all O.isLf=true
  . rw[if_pos e];exact .dct (.inl (.inl hH)) (zfL (zgq r e) l)
  . rw[if_neg e];exact .dct (.inl (.inl hH)) (zfL (zdH r) l)
 |ob hc hH l r=>
  rename_i a dx C c ns vs' os' fp';have ec:C=kd.c c:=hc.cl_eq;subst ec;show Vw K kd (Obl F B G (if os'.all O.isLf=true then some (O.strs os')else none)) H _ (.ob c ns (O.toDs os'))
  by_cases e:os'.all O.isLf=true
  . rw[if_pos e];exact .ob hH l (zgq r e)
  . rw[if_neg e];exact .ob hH l (zdH r)
 |tp n hH r=>
  rename_i a vs' os';show Vw K kd (Obl F B G (if os'.all O.isLf=true then some (O.strs os')else none)) H _ (.tup (O.toDs os'))
  by_cases e:os'.all O.isLf=true
  . rw[if_pos e];have rl:=zgq r e;exact .tup (.tup (λz=>n (zgW (λ_=>rfl) _ z)) (.inl hH) rl) (.inl (.inl hH)) rl
  . rw[if_neg e];exact .tup (.tup (λz=>z) (.inl hH) (zdH r)) (.inl (.inl hH)) (zdH r)
theorem vM.vw(R:Rel K kd F B [] ad as σ H)(h:vM K kd F B [] ad σ H v r){d:D}{lv:Option Bool}(e:r.view as=some (d,lv)):Vw K kd (Obl F B (Gw [] ad) lv) H v d:=by
 cases r with
 |ow o=>
  cases e;exact(zhl h).vw
 |bo i=>
  have e:(match as[i]? with|some (some o)=>some (o.toD,o.kl)|_=>none)=some (d,lv):=e;cases k:as[i]? with
  |none=>rw[k]at e;cases e
  |some s=>
   cases s with
   |none=>rw[k]at e;cases e
   |some o=>
    rw[k]at e;cases e;obtain⟨w,hw,ro⟩:=R.sl i _ k;rw[h.2]at hw;cases hw;exact ro.vw
theorem Rel.add{N:List Addr}(R:Rel K kd F B T ad as σ H)(hn:N.Nodup)(hl:∀a ∈ N,H a=none)(k:∀b u,H b=some u->H' b=some u)(h1:∀a ∈ N,H' a≠none):Rel K kd F B (N++T) ad as σ H'/\Grow (Gw T ad) H (Gw (N++T) ad) H':=by
 have g:Grow (Gw T ad) H (Gw (N++T) ad) H':=⟨λb u h _=>k b u h,λb h=>by
  rcases h with h|h
  . rcases zzI.mp h with h|h
    . exact .inr (hl b h)
    . exact .inl (.inl h)
  . exact .inl (.inr h)⟩
 have kn:∀a,H a≠none->H' a≠none:=λa z=>by
  cases e:H a with
  |none=>exact absurd e z
  |some u=>rw[k a u e];simp
 refine⟨⟨R.len,R.out,R.nd,R.inj, ?_,λi a m z=>?_,λa z=>kn a (R.ftr a z),λa z=>?_,λa z=>?_,λi s e=>(R.sl i s e).grow g λa _ u h=>k a u h⟩,g⟩
 . refine zyW.mpr ⟨hn,R.tnd,λa m b m' e=>?_⟩;subst e;exact(R.gtr a (.inl m')).1 (hl a m)
 . rcases zzI.mp z with z|z
   . exact(R.gtr a (.inr ⟨i,m⟩)).1 (hl a z)
   . exact R.dis i a m z
 . obtain⟨b1,b2,b3⟩:=R.btr a z;refine⟨kn a b1,b2,λy=>?_⟩
   rcases y with y|y
   . rcases zzI.mp y with y|y
     . exact b1 (hl a y)
     . exact b3 (.inl y)
   . exact b3 (.inr y)
 . rcases z with z|z
   . rcases zzI.mp z with z|z
     . exact⟨h1 a z,λf=>R.ftr a f (hl a z)⟩
     . exact⟨kn a (R.gtr a (.inl z)).1,(R.gtr a (.inl z)).2⟩
   . exact⟨kn a (R.gtr a (.inr z)).1,(R.gtr a (.inr z)).2⟩
theorem Rel.more(R:Rel K kd F B T ad as σ H)(k:∀b u,H b=some u->H' b=some u):Rel K kd F B T ad as σ H'/\Grow (Gw T ad) H (Gw T ad) H':=
 R.add (N:=[]) zyD (λ_ m=>nomatch m) k (λ_ m=>nomatch m)
theorem Rel.news(R:Rel K kd F B [] ad as σ H)(hn:T'.Nodup)(hl:∀a ∈ T',H a=none)(k:∀b u,H b=some u->H' b=some u)(h1:∀a ∈ T',H' a≠none):Rel K kd F B T' ad as σ H'/\Grow (Gw [] ad) H (Gw T' ad) H':=by
 have:=R.add hn hl k h1;rw[zzY]at this;exact this
end
inductive R0 where
 |im (d:D)|fl (ds:List D)|fd (kvs:List (Key×D))
def RQ(K:zC)(kd:KD)(O:Addr->Prop)(H:Hp)(Q:VK):R0->Prop
 | .im d=>∀v H',(∀b o,H b=some o->H' b=some o)->Rp K kd O H' v d->Q v H'
 | .fl ds=>∀l vs H',H l=none->(∀b o,H b=some o->H' b=some o)->H' l=some (.lst vs)->RpL K kd (Un2 O (· = l)) H' vs ds->Q (.ref l) H'
 | .fd ds=>∀l vs H',H l=none->(∀b o,H b=some o->H' b=some o)->H' l=some (.dK vs)->RpM K kd (Un2 O (· = l)) H' vs ds->Q (.ref l) H'
def wrap(lv:Option Bool):R0->Option RV
 | .im d=>if(ye d||lv.isSome)=true then some (.ow (lfs (lv.getD false) d))else none
 | .fl ds=>if(ds.all ye||lv.isSome)=true then some (.ow (.nd .ls (ds.map (lfs (lv.getD false)))))else none
 | .fd kvs=>if((kvs.map (·.2)).all ye||lv.isSome)=true then some (.ow (.nd (.dc (kvs.map (·.1))) ((kvs.map (·.2)).map (lfs (lv.getD false)))))else none
theorem bS_{α β:Type}{o:Option α}{f:α->Option β}{b:β}(h:o.bind f=some b):∃a,o=some a/\f a=some b:=by
 cases o with
 |none=>cases h
 |some a=>exact⟨a,rfl,h⟩
theorem ite_some'{α:Type}{c:Prop}[Decidable c]{a:Option α}{b:α}(h:(if c then a else none)=some b):c/\a=some b:=by
 by_cases hc:c
 . rw[if_pos hc]at h;exact⟨hc,h⟩
 . rw[if_neg hc]at h;cases h
theorem zZ{α:Type}{c:Prop}[Decidable c]{a b:α}(h:(if c then some a else none)=some b):c/\a=b:=by
 by_cases hc:c
 . rw[if_pos hc]at h;cases h;exact⟨hc,rfl⟩
 . rw[if_neg hc]at h;cases h
section
variable{K:zC}{kd:KD}{F B:Addr->Prop}{G:Addr->Prop}{ad:Ad}{as:AS}{σ:St}{H H':Hp}{v:V}{r:R0}{rv:RV}{Q:VK}{lv:Option Bool}
theorem zuj{Ob:Addr->Prop}{d:D}(h:ye d=true\/lv.isSome=true)(hO:∀st,lv=some st->∀a,Lv F B G st a->Ob a)(rp:Rp K kd Ob H v d):Lf K kd F B G H (ye d||lv.getD false) v d:=by
 cases e:ye d with
 |true=>exact rp.flat e
 |false=>
  rw[e]at h;cases lv with
  |none=>rcases h with h|h<;>cases h
  |some st=>exact rp.less (hO st rfl)
theorem zpO{Ob:Addr->Prop}{N:Addr->Prop}(hO:∀st,lv=some st->∀a,Lv F B G st a->Ob a){vs:List V}{ds:List D}(e:(ds.all ye||lv.isSome)=true)(h:RpL K kd Ob H vs ds):RoL (Lf K kd F B G H) N H vs (ds.map (lfs (lv.getD false))) []:=
 RpL.ind (P:=λvs ds=>(ds.all ye||lv.isSome)=true->RoL (Lf K kd F B G H) N H vs (ds.map (lfs (lv.getD false))) []) (λ_=>.nil) (λ{v d vs ds} h _ ih e=>by
  rw[List.all_cons]at e;have e1:ye d=true\/lv.isSome=true:=by
   cases h1:lv.isSome<;>cases h2:ye d<;>simp[h1,h2]at e ⊢
  have e2:(ds.all ye||lv.isSome)=true:=by
   cases h1:lv.isSome with
   |true=>simp
   |false=>
    rw[h1,Bool.or_false,zzW]at e;rw[Bool.or_false];exact e.2
  exact RoL.cons (.lf (zuj e1 hO h)) (ih e2)) h e
theorem zpA{O:Addr->Prop}{vs:List (Key×V)}{ds:List (Key×D)}(h:RpM K kd O H vs ds):vs=(ds.map (·.1)).zip (vs.map (·.2))/\RpL K kd O H (vs.map (·.2)) (ds.map (·.2)):=
 RpM.ind (P:=λvs ds=>vs=(ds.map (·.1)).zip (vs.map (·.2))/\RpL K kd O H (vs.map (·.2)) (ds.map (·.2))) ⟨rfl,.nil⟩ (λh _ ih=>by
  obtain⟨h1,h2⟩:=ih;refine⟨?_,.cons h h2⟩
  conv=>lhs;rw[h1]
  rfl) h
theorem zbZ(R:Rel K kd F B [] ad as σ H)(e:wrap lv r=some rv)(q:∀v T' H',Rel K kd F B T' ad as σ H'->vM K kd F B T' ad σ H' v rv->Grow (Gw [] ad) H (Gw T' ad) H'->Q v H'):RQ K kd (Obl F B (Gw [] ad) lv) H Q r:=by
 have hO:∀(l:List Addr) st,lv=some st->∀a,Lv F B (Gw l ad) st a->Un2 (Obl F B (Gw [] ad) lv) (· ∈ l) a:=by
  intro l st e a z;subst e
  rcases z with z|z|z
  . exact .inl (.inl z)
  . exact .inr z
  . exact .inl (.inr (.inr z))
 cases r with
 |im d=>
  obtain⟨c,rfl⟩:=zZ e;intro v H' k rp;obtain⟨R',g⟩:=R.more k;refine q v [] H' R' (.lf (zuj ((Bool.or_eq_true _ _).mp c) (λst e a z=>?_) rp)) g;exact(hO [] st e a z).elim id λm=>nomatch m
 |fl ds=>
  obtain⟨c,rfl⟩:=zZ e;intro l vs H' hl k hl' rp;obtain⟨R',g⟩:=R.news (T':=[l]) (by simp) (λa m=>by rw[zzN.mp m];exact hl) k (λa m=>by rw[zzN.mp m,hl'];simp);exact q _ [l] H' R' (.ls hl' (zpO (λst e a z=>(hO [l] st e a z).elim .inl λm=>.inr (zzN.mp m)) c rp)) g
 |fd ds=>
  obtain⟨c,rfl⟩:=zZ e;intro l vs H' hl k hl' rp;obtain⟨R',g⟩:=R.news (T':=[l]) (by simp) (λa m=>by rw[zzN.mp m];exact hl) k (λa m=>by rw[zzN.mp m,hl'];simp);obtain⟨e1,r1⟩:=zpA rp;refine q _ [l] H' R' (.dc (vs:=vs.map (·.2)) (by rw[hl',<-e1]) (by rw[zD,zD,rp.length]) (zpO (λst e a z=>(hO [l] st e a z).elim .inl λm=>.inr (zzN.mp m)) c r1)) g
end
abbrev EF:=AS->Option (RV×AS)
def al(K:zC)(kd:KD)(f:EF):TE:=λσ H Q=>∃F B ad as r as',Rel K kd F B [] ad as σ H/\f as=some (r,as')/\
 ∀v T' ad' H',Rel K kd F B T' ad' as' σ H'->vM K kd F B T' ad' σ H' v r->Grow (Gw [] ad) H (Gw T' ad') H'->Q v H'
@[irreducible] def AE(X:Cx)(kd:KD)(e:Expr)(f:EF):Prop:=PE X e (al X.K kd f)
theorem wB{X:Cx}{e:Expr}{t t':TE}(h:PE X e t)(k:∀σ H Q,t' σ H Q->t σ H Q):PE X e t':=λpins s σ H Q I q=>h pins s σ H Q I (k σ H Q q)
section
variable{K:zC}{kd:KD}{F B:Addr->Prop}{ad:Ad}{as as1:AS}{σ:St}{H:Hp}{r:RV}{f:EF}{P:VK}
theorem ZX(R:Rel K kd F B [] ad as σ H)(e:f as=some (r,as1))(k:∀v ad1 H1,Rel K kd F B [] ad1 as1 σ H1->vM K kd F B [] ad1 σ H1 v r.frz->Grow (Gw [] ad) H (Gw [] ad1) H1->P v H1):al K kd f σ H P:=
 ⟨F,B,ad,as,r,as1,R,e,λv T' ad' H' R' rv g=>k v ad' H' R'.drop (vM.drop R' rv) (g.trans (Grow.less Gw.drop))⟩
end
def OpD(X:Cx)(kd:KD)(f:Value->Value->Sem Value)(g:D->D->Option R0):Prop:=
 OpR X f (λx y H Q=>∃O d e r,(∀a,O a->H a≠none)/\Vw X.K kd O H x d/\Vw X.K kd O H y e/\g d e=some r/\RQ X.K kd O H Q r)
inductive VwL(K:zC)(kd:KD)(O:Addr->Prop)(H:Hp):List V->List D->Prop
 |nil:VwL K kd O H [] []
 |cons {v:V}{d:D}{vs:List V}{ds:List D}:Vw K kd O H v d->VwL K kd O H vs ds->VwL K kd O H (v::vs) (d::ds)
def CallD(X:Cx)(kd:KD)(f:Value)(g:List D->Option R0):Prop:=
 zbO X f (λxs H Q=>∃O ds r,(∀a,O a->H a≠none)/\VwL X.K kd O H xs ds/\g ds=some r/\RQ X.K kd O H Q r)
def IxD(X:Cx)(kd:KD)(g:D->D->Option R0):Prop:=
 IxR X (λx y H Q=>∃O d e r,(∀a,O a->H a≠none)/\Vw X.K kd O H x d/\Vw X.K kd O H y e/\g d e=some r/\RQ X.K kd O H Q r)
def meet:Option Bool->Option Bool->Option Bool
 |some a,some b=>some (a&&b)
 |_,_=>none
theorem Obl.meet1{F B G:Addr->Prop}{a b:Option Bool}:∀x,Obl F B G (meet a b) x->Obl F B G a x:=λx h=>by
 cases a with
 |none=>cases b<;>exact h.elim
 |some p=>
  cases b with
  |none=>exact h.elim
  |some q=>exact zgW (λz=>((zzW _ _).mp z).1) x h
theorem Obl.meet2{F B G:Addr->Prop}{a b:Option Bool}:∀x,Obl F B G (meet a b) x->Obl F B G b x:=λx h=>by
 cases a with
 |none=>cases b<;>exact h.elim
 |some p=>
  cases b with
  |none=>exact h.elim
  |some q=>exact zgW (λz=>((zzW _ _).mp z).2) x h
theorem Vw.less{K:zC}{kd:KD}{O O':Addr->Prop}{H:Hp}{v:V}{d:D}(g:∀a,O' a->O a)(h:Vw K kd O H v d):Vw K kd O' H v d:=by
 cases h with
 |non=>exact .non
 |bl b=>exact .bl b
 |int i=>exact .int i
 |str x=>exact .str x
 |tup r s l=>exact .tup (r.less g) s (l.less g)
 |lst h l=>exact .lst h (l.less g)
 |dct h l=>exact .dct h (l.less g)
 |cl c=>exact .cl c
 |ob h k l=>exact .ob h k (l.less g)
def f2(fa fb:EF)(g:D->D->Option R0):EF:=λas=>(fa as).bind λp=>(fb p.2).bind λq=>(p.1.frz.view q.2).bind λx=>(q.1.frz.view q.2).bind λy=>(g x.1 y.1).bind λr=>(wrap (meet x.2 y.2) r).bind λz=>some (z,q.2)
theorem znC{fa fb:EF}{g:D->D->Option R0}{as as':AS}{rv:RV}(h:f2 fa fb g as=some (rv,as')):
 ∃p as1 q x y lx ly r,fa as=some (p,as1)/\fb as1=some (q,as')/\p.frz.view as'=some (x,lx)/\q.frz.view as'=some (y,ly)/\g x y=some r/\wrap (meet lx ly) r=some rv:=by
 unfold f2 at h;obtain⟨⟨p,as1⟩,h1,h⟩:=bS_ h;obtain⟨⟨q,as2⟩,h2,h⟩:=bS_ h;obtain⟨⟨x,lx⟩,h3,h⟩:=bS_ h;obtain⟨⟨y,ly⟩,h4,h⟩:=bS_ h;obtain⟨r,h5,h⟩:=bS_ h;obtain⟨z,h6,h⟩:=bS_ h;cases h;exact⟨p,as1,q,x,y,lx,ly,r,h1,h2,h3,h4,h5,h6⟩
section
variable{X:Cx}{kd:KD}{a b c:Expr}{fa fb fc:EF}{pos:Pos}
theorem al2{g:D->D->Option R0}{R2':R2}(hr:∀x y H Q,(∃O d e r,(∀a,O a->H a≠none)/\Vw X.K kd O H x d/\Vw X.K kd O H y e/\g d e=some r/\RQ X.K kd O H Q r)->R2' x y H Q)
 {σ:St}{H:Hp}{Q:VK}(h:al X.K kd (f2 fa fb g) σ H Q):tOp R2' (al X.K kd fa) (al X.K kd fb) σ H Q:=by
 obtain⟨F,B,ad,as,r,as',R,e,q⟩:=h;obtain⟨p,as1,z,x,y,lx,ly,r0,h1,h2,h3,h4,h5,h6⟩:=znC e;refine ZX R h1 λv ad1 H1 R1 rv1 g1=>ZX R1 h2 λu ad2 H2 R2 rv2 g2=>hr _ _ _ _ ?_;exact⟨_,x,y,r0,R2.tr _,(vM.vw R2 (rv1.grow g2) h3).less Obl.meet1,(vM.vw R2 rv2 h4).less Obl.meet2,h5,zbZ R2 h6 λw T' H' R' rv' g'=>q w T' ad2 H' R' rv' ((g1.trans g2).trans g')⟩
theorem zq{op:Operator}{g:D->D->Option R0}(ho:OpD X kd (binaryOp op) g)(ha:AE X kd a fa)(hb':AE X kd b fb):AE X kd (.BinOp a op b pos) (f2 fa fb g):=by with_unfolding_all exact(wB (zxr ho ha hb') λσ H Q h=>al2 (λ_ _ _ _ z=>z) h)
theorem Z3{op:CmpOp}{g:D->D->Option R0}(ho:OpD X kd (compareOp op) g)(ha:AE X kd a fa)(hb':AE X kd b fb)(hm:behindInMarks op b=false):AE X kd (.Compare a [op] [b] pos) (f2 fa fb g):=by with_unfolding_all exact(wB (ztS ho ha hb' hm) λσ H Q h=>al2 (λ_ _ _ _ z=>z) h)
theorem zwM{g:D->D->Option R0}(ho:IxD X kd g)(ha:AE X kd a fa)(hb':AE X kd b fb)(hm:zkF b):AE X kd (.Subscript a b pos) (f2 fa fb g):=by with_unfolding_all exact(wB (zxj ho ha hb' hm) λσ H Q h=>al2 (λ_ _ _ _ z=>z) h)
def fC(d:D):EF:=λas=>some (.ow (.lf true d),as)
noncomputable def fV(i:Nat):EF:=λas=>match as[i]? with
 |some (some (.lf st d))=>some (.ow (.lf st d),as)
 |some (some (.nd _ _))=>some (.bo i,as)
 |_=>none
theorem zhy{v:V}{d:D}(h:PE X a (tC v))(hr:∀O H,Rp X.K kd O H v d):AE X kd a (fC d):=by with_unfolding_all exact(wB h λσ H Q h=>by
 obtain⟨F,B,ad,as,r,as',R,e,q⟩:=h;cases e;exact q v [] ad H R (.lf (hr _ _)) Grow.refl)
theorem zvK{i:Nat}(h:PE X a (zhM i)):AE X kd a (fV i):=by with_unfolding_all exact(wB h λσ H Q h=>by
 obtain⟨F,B,ad,as,r,as',R,e,q⟩:=h;unfold fV at e;cases k:as[i]? with
 |none=>rw[k]at e;cases e
 |some s=>
  rw[k]at e;cases s with
  |none=>cases e
  |some o=>
   obtain⟨v,h1,h2⟩:=R.sl i _ k;cases o with
   |lf st d=>
    cases e;have e0:ad i=[]:=by
     generalize hfp:ad i=fp at h2;cases h2;rfl
    rw[e0]at h2;exact⟨v,h1,q v [] ad H R h2 Grow.refl⟩
   |nd kk os=>
    cases e;exact⟨_,h1,q _ [] ad H R ⟨rfl,h1⟩ Grow.refl⟩)
end
def zaB(ad:Ad)(i:Nat)(x:List Addr):Ad:=λj=>if j=i then x else ad j
section
variable{K:zC}{kd:KD}{F B:Addr->Prop}{T T1 T2:List Addr}{ad ad1:Ad}{as as1:AS}{σ:St}{H H1:Hp}{v:V}{r:RV}{o:O}{i:Nat}
theorem yI{x:List Addr}:zaB ad i x i=x:=if_pos rfl
theorem yN{j:Nat}{x:List Addr}(h:j≠i):zaB ad i x j=ad j:=if_neg h
theorem Xy:∀a,Gw T (zaB ad i []) a->Gw T ad a:=λa h=>by
 rcases h with h|⟨j,h⟩
 . exact .inl h
 . by_cases e:j=i
   . subst e;rw[yI]at h;cases h
   . rw[yN e]at h;exact .inr ⟨j,h⟩
theorem zaf:∀a,Gw [] (zaB ad i T) a->Gw T ad a:=λa h=>by
 rcases h with h|⟨j,h⟩
 . cases h
 . by_cases e:j=i
   . subst e;rw[yI]at h;exact .inl h
   . rw[yN e]at h;exact .inr ⟨j,h⟩
theorem znU:∀st a,Lv F (λa=>B a\/a ∈ T) (Gw [] ad) st a->Lv F B (Gw T ad) st a:=λst a z=>by
 rcases z with(z|z|z)|z
 . exact .inl (.inl z)
 . exact .inl (.inr z)
 . exact .inr (.inl z)
 . exact .inr (Gw.drop a z)
theorem zbY:∀st a,Lv F B (Gw (T1++T2) ad) st a->Lv F (λa=>B a\/a ∈ T1) (Gw T2 ad) st a:=λst a z=>by
 rcases z with(z|z)|z|z
 . exact .inl (.inl z)
 . exact .inl (.inr (.inl z))
 . rcases zzI.mp z with z|z
   . exact .inl (.inr (.inr z))
   . exact .inr (.inl z)
 . exact .inr (.inr z)
theorem Rel.hide(R:Rel K kd F B T ad as σ H):Rel K kd F (λa=>B a\/a ∈ T) [] ad as σ H where
 len:=R.len
 out:=R.out
 nd:=R.nd
 inj:=R.inj
 tnd:=zyD
 dis:=λ_ _ _ z=>nomatch z
 ftr:=R.ftr
 btr:=λa h=>by
  rcases h with h|h
  . obtain⟨h1,h2,h3⟩:=R.btr a h;exact⟨h1,h2,λz=>h3 (Gw.drop a z)⟩
  . exact⟨(R.gtr a (.inl h)).1,(R.gtr a (.inl h)).2,λz=>z.elim (λm=>nomatch m) λ⟨j,y⟩=>R.dis j a y h⟩
 gtr:=λa h=>R.gtr a (Gw.drop a h)
 sl:=λi s e=>(R.sl i s e).lv znU
theorem Rel.unhide(hn:T1.Nodup)(hb:∀a ∈ T1,¬B a)(R:Rel K kd F (λa=>B a\/a ∈ T1) T2 ad as σ H):Rel K kd F B (T1++T2) ad as σ H where
 len:=R.len
 out:=R.out
 nd:=R.nd
 inj:=R.inj
 tnd:=zyW.mpr ⟨hn,R.tnd,λa m b m' e=>by subst e;exact(R.btr a (.inr m)).2.2 (.inl m')⟩
 dis:=λi a m z=>by
  rcases zzI.mp z with z|z
  . exact(R.btr a (.inr z)).2.2 (.inr ⟨i,m⟩)
  . exact R.dis i a m z
 ftr:=R.ftr
 btr:=λa h=>by
  obtain⟨h1,h2,h3⟩:=R.btr a (.inl h);refine⟨h1,h2,λz=>?_⟩
  rcases z with z|z
  . rcases zzI.mp z with z|z
    . exact hb a z h
    . exact h3 (.inl z)
  . exact h3 (.inr z)
 gtr:=λa h=>by
  rcases h with h|h
  . rcases zzI.mp h with h|h
    . exact⟨(R.btr a (.inr h)).1,(R.btr a (.inr h)).2.1⟩
    . exact R.gtr a (.inl h)
  . exact R.gtr a (.inr h)
 sl:=λi s e=>(R.sl i s e).lv zbY
theorem Rel.frz(R:Rel K kd F B T ad as σ H)(h:as[i]? = some (some o)):
 Rel K kd F B T (zaB ad i []) (as.set i (some o.frz)) σ H/\∃v,σ[i]? = some (some v)/\Rp K kd (Lv F B (Gw T (zaB ad i [])) o.str) H v o.toD:=by
 obtain⟨v,hv,ro⟩:=R.sl i _ h;have rp:Rp K kd (Lv F B (Gw T (zaB ad i [])) o.str) H v o.toD:=
  Ro.rp o.str (λst v d hs r=>r.less λa z=>z.elim (λy=>.inl (y.elim (λx=>.inl ⟨hs x.1,x.2⟩) .inr)) λy=>.inr (Xy a y))
   (λa n z=>n (z.elim (λy=>.inl (y.elim (λx=>.inl ⟨rfl,x.2⟩) .inr)) λy=>.inr (Xy a y))) id
   (λa m z=>by
    rcases z with(z|z)|z|⟨j,z⟩
    . exact(R.gtr a (.inr ⟨i,m⟩)).2 z.2
    . exact(R.btr a z).2.2 (.inr ⟨i,m⟩)
    . exact R.dis i a m z
    . by_cases e:j=i
      . subst e;rw[yI]at z;cases z
      . rw[yN e]at z;exact e (R.inj j i a z m)) ro
 have hi:i<as.length:=(zzC.mp h).1;refine⟨⟨by rw[zzQ];exact R.len,λj hj=>?_,λj=>?_,λj k a h1 h2=>?_,R.tnd,λj a h1=>?_,R.ftr,λa h1=>?_,λa h1=>R.gtr a (Xy a h1),λj s e=>?_⟩,v,hv,rp⟩
 . rw[zzQ]at hj;rw[yN (by omega)];exact R.out j hj
 . by_cases e:j=i
   . subst e;rw[yI];exact zyD
   . rw[yN e];exact R.nd j
 . by_cases e:j=i
   . subst e;rw[yI]at h1;cases h1
   . by_cases e':k=i
     . subst e';rw[yI]at h2;cases h2
     . rw[yN e]at h1;rw[yN e']at h2;exact R.inj j k a h1 h2
 . by_cases e:j=i
   . subst e;rw[yI]at h1;cases h1
   . rw[yN e]at h1;exact R.dis j a h1
 . obtain⟨b1,b2,b3⟩:=R.btr a h1;exact⟨b1,b2,λz=>b3 (Xy a z)⟩
 . by_cases q:j=i
   . subst q;rw[zyE hi]at e;cases e;rw[yI];exact⟨v,hv,.lf rp⟩
   . rw[zzS (Ne.symm q)]at e;rw[yN q];exact(R.sl j s e).less Xy
theorem Rel.put(R:Rel K kd F B T ad as σ H)(hi:i<as.length)(h:RoS K kd F B (Gw T ad) H v o T):Rel K kd F B [] (zaB ad i T) (as.set i (some o)) (σ.set i (some v)) H:=by
 have hi':i<σ.length:=by rw[<-R.len];exact hi
 refine⟨by rw[zzQ,zzQ];exact R.len,λj hj=>?_,λj=>?_,λj k a h1 h2=>?_,zyD,(λ_ _ _ z=>nomatch z),R.ftr,λa h1=>?_,λa h1=>R.gtr a (zaf a h1),λj s e=>?_⟩
 . rw[zzQ]at hj;rw[yN (by omega)];exact R.out j hj
 . by_cases e:j=i
   . subst e;rw[yI];exact R.tnd
   . rw[yN e];exact R.nd j
 . by_cases e:j=i
   . subst e;rw[yI]at h1
     by_cases e':k=j
     . exact e'.symm
     . rw[yN e']at h2;exact(R.dis k a h2 h1).elim
   . rw[yN e]at h1
     by_cases e':k=i
     . subst e';rw[yI]at h2;exact(R.dis j a h1 h2).elim
     . rw[yN e']at h2;exact R.inj j k a h1 h2
 . obtain⟨b1,b2,b3⟩:=R.btr a h1;exact⟨b1,b2,λz=>b3 (zaf a z)⟩
 . by_cases q:j=i
   . subst q;rw[zyE hi]at e;cases e;rw[yI,zyE hi'];exact⟨v,rfl,h.less zaf⟩
   . rw[zzS (Ne.symm q)]at e;rw[yN q,zzS (Ne.symm q)];exact(R.sl j s e).less zaf
def toO(as:AS):RV->Option (O×AS)
 | .ow o=>some (o,as)
 | .bo i=>match as[i]? with
  |some (some o)=>some (o.frz,as.set i (some o.frz))
  |_=>none
theorem zgl{as':AS}(R:Rel K kd F B T ad as σ H)(h:vM K kd F B T ad σ H v r)(e:toO as r=some (o,as')):∃ad',Rel K kd F B T ad' as' σ H/\RoS K kd F B (Gw T ad') H v o T/\∀a,Gw T ad' a->Gw T ad a:=by
 cases r with
 |ow o'=>cases e;exact⟨ad,R,h,λ_ z=>z⟩
 |bo i=>
  have e:(match as[i]? with|some (some o)=>some (o.frz,as.set i (some o.frz))|_=>none)=some (o,as'):=e;cases k:as[i]? with
  |none=>rw[k]at e;cases e
  |some s=>
   cases s with
   |none=>rw[k]at e;cases e
   |some o1=>
    rw[k]at e;cases e;obtain⟨hT,hs⟩:=h;subst hT;obtain⟨R',w,hw,rp⟩:=R.frz k;rw[hs]at hw;cases hw;exact⟨_,R',.lf rp,Xy⟩
end
abbrev TF:=AS->Option (Bool×AS)
def alT(K:zC)(kd:KD)(f:TF):TT:=λσ H Q=>∃F B ad as b as',Rel K kd F B [] ad as σ H/\f as=some (b,as')/\
 ∀ad' H',Rel K kd F B [] ad' as' σ H'->Grow (Gw [] ad) H (Gw [] ad') H'->Q b H'
@[irreducible] def AT(X:Cx)(kd:KD)(e:Expr)(f:TF):Prop:=PT X e (alT X.K kd f)
@[irreducible] def AW(X:Cx)(kd:KD)(e:Expr)(f:TF):Prop:=PW X e (alT X.K kd f)
def truth:D->Option Bool
 | .non=>some false
 | .bl b=>some b
 | .int i=>some (i != 0)
 | .str x=>if x.length<=sizeLine then some ((x.length:Int) != 0)else none
 | .tup ds=>some (!ds.isEmpty)
 | .lst ds=>some (!ds.isEmpty)
 |_=>none
def fT(f:EF):TF:=λas=>(f as).bind λp=>(p.1.frz.view p.2).bind λx=>(truth x.1).bind λb=>some (b,p.2)
def znJ(f g:TF):TF:=λas=>(f as).bind λp=>if p.1=true then g p.2 else some (false,p.2)
def Yr(f g:TF):TF:=λas=>(f as).bind λp=>if p.1=true then some (true,p.2)else g p.2
def Wo(f:TF):TF:=λas=>(f as).bind λp=>some (!p.1,p.2)
def fIf(c:TF)(f g:EF):EF:=λas=>(c as).bind λp=>if p.1=true then f p.2 else g p.2
def asI:D->Option Int
 | .int i=>some i
 |_=>none
def asS:D->Option Str
 | .str i=>some i
 |_=>none
def asL:D->Option (List D)
 | .lst i=>some i
 |_=>none
def asT:D->Option (List D)
 | .tup i=>some i
 |_=>none
theorem zqH{d:D}{i:List D}(e:asL d=some i):d = .lst i:=by
 cases d with
 |lst j=>cases e;rfl
 |_=>cases e
theorem zuQ{d:D}{i:List D}(e:asT d=some i):d = .tup i:=by
 cases d with
 |tup j=>cases e;rfl
 |_=>cases e
theorem zrY{d:D}{c:Int}(h:asI d=some c):d = .int c:=by
 cases d with
 |int i=>cases h;rfl
 |_=>cases h
def asB:D->Option Bool
 | .bl i=>some i
 |_=>none
theorem zvQ{d:D}{c:Bool}(h:asB d=some c):d = .bl c:=by
 cases d with
 |bl i=>cases h;rfl
 |_=>cases h
def rvD:RV->Option D
 | .ow (.lf _ d)=>some d
 |_=>none
theorem zne{r:RV}{d:D}(h:rvD r=some d):∃st,r = .ow (.lf st d):=by
 cases r with
 |bo i=>cases h
 |ow o=>
  cases o with
  |nd k os=>cases h
  |lf st d=>cases h;exact⟨st,rfl⟩
def rvB(r:RV):Option Bool:=(rvD r).bind asB
theorem zrb{r:RV}{c:Bool}(h:rvB r=some c):∃st,r = .ow (.lf st (.bl c)):=by
 obtain⟨d,h1,h⟩:=bS_ h;cases zvQ h;exact zne h1
def rvI(r:RV):Option Int:=(rvD r).bind asI
theorem zvd{r:RV}{c:Int}(h:rvI r=some c):∃st,r = .ow (.lf st (.int c)):=by
 obtain⟨d,h1,h⟩:=bS_ h;cases zrY h;exact zne h1
def zme(f g:EF):EF:=λas=>(f as).bind λp=>(rvB p.1).bind λc=>if c=true then g p.2 else some (.ow (.lf true (.bl false)),p.2)
def fOr(f g:EF):EF:=λas=>(f as).bind λp=>(rvB p.1).bind λc=>if c=true then some (.ow (.lf true (.bl true)),p.2)else g p.2
section
variable{X:Cx}{kd:KD}{a b c:Expr}{fa fb:EF}{ta tb:TF}{pos:Pos}{es rest:List Expr}
theorem zkI{e:Expr}{t t':TT}(h:PT X e t)(k:∀σ H Q,t' σ H Q->t σ H Q):PT X e t':=λpins s σ H Q I q=>h pins s σ H Q I (k σ H Q q)
theorem zqq{e:Expr}{t t':TT}(h:PW X e t)(k:∀σ H Q,t' σ H Q->t σ H Q):PW X e t':=λw pins s σ H Q I q=>h w pins s σ H Q I (k σ H Q q)
theorem zwj{O:Addr->Prop}{H:Hp}{v:V}{d:D}{k:Bool}(h:Vw X.K kd O H v d)(e:truth d=some k):zvb X.K v H k:=by
 cases h with
 |non=>cases e;rfl
 |bl b=>cases e;rfl
 |int i=>cases e;rfl
 |str x=>
  have e:(if x.length<=sizeLine then some ((x.length:Int) != 0)else none)=some k:=e
  by_cases hl:x.length<=sizeLine
  . rw[if_pos hl]at e;cases e;exact⟨hl,rfl⟩
  . rw[if_neg hl]at e;cases e
 |tup r hs hr=>
  cases e;refine .inr (.inl ⟨_,hs, ?_⟩);cases hr<;>rfl
 |lst hs hr=>
  cases e;refine .inl ⟨_,hs.sq, ?_⟩;cases hr<;>rfl
 |dct=>cases e
 |cl=>cases e
 |ob=>cases e
theorem Wy(ha:AE X kd a fa)(he:∀whole,isTrue a X.env whole=(do let v <-whole;standAt a.pos;holding [v] (truthy v))):AT X kd a (fT fa):=by with_unfolding_all exact(zkI (zre ha he) λσ H Q h=>by
 obtain⟨F,B,ad,as,bb,as',R,e,q⟩:=h;obtain⟨⟨p,as1⟩,h1,e⟩:=bS_ (show(fa as).bind _=_ from e);obtain⟨⟨d,lv⟩,h2,e⟩:=bS_ e;obtain⟨k,h3,e⟩:=bS_ e;cases e;exact ZX R h1 λv ad1 H1 R1 rv1 g1=>⟨_,zwj (vM.vw R1 rv1 h2) h3,q ad1 H1 R1 g1⟩)
theorem zW{op:CmpOp}{g:D->D->Option R0}(ho:OpD X kd (compareOp op) g)(hg:∀x y r,g x y=some r->∃k,r = .im (.bl k))(ha:AE X kd a fa)(hb:AE X kd b fb)(hm:behindInMarks op b=false):
 AT X kd (.Compare a [op] [b] pos) (fT (f2 fa fb g)):=by with_unfolding_all exact(zkI (zsT ho ha hb hm) λσ H Q h=>by
 obtain⟨F,B,ad,as,bb,as',R,e,q⟩:=h;obtain⟨⟨p,as1⟩,h1,e⟩:=bS_ (show(f2 fa fb g as).bind _=_ from e);obtain⟨⟨d,lv⟩,h2,e⟩:=bS_ e;obtain⟨k,h3,e⟩:=bS_ e;cases e;obtain⟨_,_,_,x,y,_,_,r0,_,_,_,_,hp,hw⟩:=znC h1;obtain⟨k',rfl⟩:=hg _ _ _ hp;cases hw;cases h2;cases h3;refine al2 (λ_ _ _ _ z=>z) ⟨F,B,ad,as,_,_,R,h1,λv T' ad' H' R' rv g'=>?_⟩;generalize hT:T'=T2 at rv R' g';cases rv with
 |lf rp=>
  cases rp;exact⟨_,rfl,q ad' H' R' g'⟩)
theorem Vz(ha:AT X kd a ta):AT X kd (.UnaryOp .Not a pos) (Wo ta):=by with_unfolding_all exact(zkI (zuF ha) λσ H Q h=>by
 obtain⟨F,B,ad,as,bb,as',R,e,q⟩:=h;obtain⟨⟨p,as1⟩,h1,e⟩:=bS_ (show(ta as).bind _=_ from e);cases e;exact⟨F,B,ad,as,p,_,R,h1,λad' H' R' g=>q ad' H' R' g⟩)
theorem znc(ha:AT X kd a ta):AW X kd (.BoolOp .And [a] pos) ta:=by with_unfolding_all exact(ztB ha)
theorem wk(ha:AT X kd a ta):AW X kd (.BoolOp .Or [a] pos) ta:=by with_unfolding_all exact(zvD ha)
theorem zuD(ha:AT X kd a ta)(hb:AW X kd (.BoolOp .And (b::rest) pos) tb):AW X kd (.BoolOp .And (a::b::rest) pos) (znJ ta tb):=by with_unfolding_all exact(zqq (zvF ha hb) λσ H Q h=>by
 obtain⟨F,B,ad,as,bb,as',R,e,q⟩:=h;obtain⟨⟨p,as1⟩,h1,e⟩:=bS_ (show(ta as).bind _=_ from e);refine⟨F,B,ad,as,p,as1,R,h1,λad' H' R' g=>?_⟩;cases p with
 |true=>exact⟨F,B,ad',as1,bb,as',R',e,λad2 H2 R2 g2=>q ad2 H2 R2 (g.trans g2)⟩
 |false=>cases e;exact q ad' H' R' g)
theorem ZZ(ha:AT X kd a ta)(hb:AW X kd (.BoolOp .Or (b::rest) pos) tb):AW X kd (.BoolOp .Or (a::b::rest) pos) (Yr ta tb):=by with_unfolding_all exact(zqq (zwY ha hb) λσ H Q h=>by
 obtain⟨F,B,ad,as,bb,as',R,e,q⟩:=h;obtain⟨⟨p,as1⟩,h1,e⟩:=bS_ (show(ta as).bind _=_ from e);refine⟨F,B,ad,as,p,as1,R,h1,λad' H' R' g=>?_⟩;cases p with
 |false=>exact⟨F,B,ad',as1,bb,as',R',e,λad2 H2 R2 g2=>q ad2 H2 R2 (g.trans g2)⟩
 |true=>cases e;exact q ad' H' R' g)
theorem AW.at_{e:Expr}(h:AW X kd e ta):AT X kd e ta:=by with_unfolding_all exact(PW.pt h)
theorem zbF(hc:AT X kd c ta)(ha:AE X kd a fa)(hb:AE X kd b fb):AE X kd (.IfExp c a b pos) (fIf ta fa fb):=by with_unfolding_all exact(wB (zqN hc ha hb) λσ H Q h=>by
 obtain⟨F,B,ad,as,r,as',R,e,q⟩:=h;obtain⟨⟨p,as1⟩,h1,e⟩:=bS_ (show(ta as).bind _=_ from e);refine⟨F,B,ad,as,p,as1,R,h1,λad' H' R' g=>?_⟩;cases p with
 |true=>exact⟨F,B,ad',as1,r,as',R',e,λv T2 ad2 H2 R2 rv g2=>q v T2 ad2 H2 R2 rv (g.trans g2)⟩
 |false=>exact⟨F,B,ad',as1,r,as',R',e,λv T2 ad2 H2 R2 rv g2=>q v T2 ad2 H2 R2 rv (g.trans g2)⟩)
theorem zup{K:zC}{F B:Addr->Prop}{T:List Addr}{ad:Ad}{σ:St}{H:Hp}{v:V}{st c:Bool}(h:vM K kd F B T ad σ H v (.ow (.lf st (.bl c)))):T=[]/\v = .bl c:=by
 have h:RoS K kd F B (Gw T ad) H v (.lf st (.bl c)) T:=h;generalize hT:Gw T ad=G at h;cases h with
 |lf rp=>cases rp;exact⟨rfl,rfl⟩
theorem zhE{op}(ha:AE X kd a fa):AE X kd (.BoolOp op [a] pos) fa:=by with_unfolding_all exact(zvl ha)
theorem zhG(ha:AE X kd a fa)(hb:AE X kd (.BoolOp .And (b::rest) pos) fb):AE X kd (.BoolOp .And (a::b::rest) pos) (zme fa fb):=by with_unfolding_all exact(wB (zwl ha hb) λσ H Q h=>by
 obtain⟨F,B,ad,as,r,as',R,e,q⟩:=h;obtain⟨⟨p,as1⟩,h1,e⟩:=bS_ (show(fa as).bind _=_ from e);refine⟨F,B,ad,as,p,as1,R,h1,λv T' ad' H' R' rv g=>?_⟩;obtain⟨k,e1,e⟩:=bS_ e;obtain⟨st,rfl⟩:=zrb e1;obtain⟨rfl,rfl⟩:=zup rv;cases k with
 |true=>exact⟨true,rfl,⟨F,B,ad',as1,r,as',R',e,λv T2 ad2 H2 R2 rv g2=>q v T2 ad2 H2 R2 rv (g.trans g2)⟩⟩
 |false=>
  cases e;exact⟨false,rfl,q _ [] ad' H' R' (.lf (.bl false)) g⟩)
theorem zwT(ha:AE X kd a fa)(hb:AE X kd (.BoolOp .Or (b::rest) pos) fb):AE X kd (.BoolOp .Or (a::b::rest) pos) (fOr fa fb):=by with_unfolding_all exact(wB (zwO ha hb) λσ H Q h=>by
 obtain⟨F,B,ad,as,r,as',R,e,q⟩:=h;obtain⟨⟨p,as1⟩,h1,e⟩:=bS_ (show(fa as).bind _=_ from e);refine⟨F,B,ad,as,p,as1,R,h1,λv T' ad' H' R' rv g=>?_⟩;obtain⟨k,e1,e⟩:=bS_ e;obtain⟨st,rfl⟩:=zrb e1;obtain⟨rfl,rfl⟩:=zup rv;cases k with
 |false=>exact⟨false,rfl,⟨F,B,ad',as1,r,as',R',e,λv T2 ad2 H2 R2 rv g2=>q v T2 ad2 H2 R2 rv (g.trans g2)⟩⟩
 |true=>
  cases e;exact⟨true,rfl,q _ [] ad' H' R' (.lf (.bl true)) g⟩)
end
abbrev AF:=AS->Option (List RV×AS)
inductive RVs(K:zC)(kd:KD)(F B:Addr->Prop)(ad:Ad)(σ:St)(H:Hp):List V->List RV->Prop
 |nil:RVs K kd F B ad σ H [] []
 |cons {v:V}{r:RV}{vs:List V}{rs:List RV}:vM K kd F B [] ad σ H v r->RVs K kd F B ad σ H vs rs->RVs K kd F B ad σ H (v::vs) (r::rs)
def alA(K:zC)(kd:KD)(f:AF):TA:=λσ H Q=>∃F B ad as rs as',Rel K kd F B [] ad as σ H/\f as=some (rs,as')/\
 ∀vs ad' H',Rel K kd F B [] ad' as' σ H'->RVs K kd F B ad' σ H' vs rs->Grow (Gw [] ad) H (Gw [] ad') H'->Q vs H'
@[irreducible] def AA(X:Cx)(kd:KD)(es:List Expr)(f:AF):Prop:=PA X es (alA X.K kd f)
def aN:AF:=λas=>some ([],as)
def aC(fa:EF)(fr:AF):AF:=λas=>(fa as).bind λp=>(fr p.2).bind λq=>some (p.1.frz::q.1,q.2)
theorem zjI{X:Cx}{e:List Expr}{t t':TA}(h:PA X e t)(k:∀σ H Q,t' σ H Q->t σ H Q):PA X e t':=λpos pins s σ H Q I q=>h pos pins s σ H Q I (k σ H Q q)
abbrev DF:=AS->Option (List O×AS)
def alD(K:zC)(kd:KD)(f:DF):TA:=λσ H Q=>∃F B ad as os as',Rel K kd F B [] ad as σ H/\f as=some (os,as')/\
 ∀vs T' ad' H',Rel K kd F B T' ad' as' σ H'->Y5 K kd F B (Gw T' ad') H' vs os T'->Grow (Gw [] ad) H (Gw T' ad') H'->Q vs H'
@[irreducible] def AD(X:Cx)(kd:KD)(es:List Expr)(f:DF):Prop:=PA X es (alD X.K kd f)
def dN:DF:=λas=>some ([],as)
def dC(fa:EF)(fr:DF):DF:=λas=>(fa as).bind λp=>(toO p.2 p.1).bind λx=>(fr x.2).bind λq=>some (x.1::q.1,q.2)
def views(as:AS):List RV->Option (List D×Option Bool)
 | []=>some ([],some true)
 |r::rs=>(r.view as).bind λx=>(views as rs).bind λy=>some (x.1::y.1,meet x.2 y.2)
def fP(fr:AF)(g:List D->Option R0):EF:=λas=>(fr as).bind λp=>(views p.2 p.1).bind λx=>(g x.1).bind λr=>(wrap x.2 r).bind λz=>some (z,p.2)
def zqW(as:AS):RV->Option (Bool×D)
 | .ow o=>some (ye o.toD||o.str,o.toD)
 | .bo i=>match as[i]? with
  |some (some o)=>some (false,o.toD)
  |_=>none
def V5(as:AS):List RV->Option (List (Bool×D))
 | []=>some []
 |r::rs=>(zqW as r).bind λx=>(V5 as rs).bind λy=>some (x::y)
def zA(fr:AF)(g:List (Bool×D)->Option O):EF:=λas=>(fr as).bind λp=>(V5 p.2 p.1).bind λx=>(g x).bind λo=>some (.ow o,p.2)
def RQO(K:zC)(kd:KD)(F:Addr->Prop)(H:Hp)(Q:VK)(o:O):Prop:=
 ∀v T H',T.Nodup->(∀a ∈ T,H a=none)->(∀b u,H b=some u->H' b=some u)->(∀a ∈ T,H' a≠none)->Ro (λ_ v d=>Rp K kd (Un2 F (· ∈ T)) H' v d) (λa=>¬Un2 F (· ∈ T) a) H' v o T->Q v H'
inductive RpA(K:zC)(kd:KD)(F:Addr->Prop)(H:Hp):List V->List (Bool×D)->Prop
 |nil:RpA K kd F H [] []
 |cons {v:V}{st:Bool}{d:D}{vs:List V}{ds:List (Bool×D)}:Rp K kd (λa=>st=true/\F a) H v d->RpA K kd F H vs ds->RpA K kd F H (v::vs) ((st,d)::ds)
def spD(K:zC)(kd:KD)(g:List (Bool×D)->Option O):Sp:=λvs H Q _=>∃F ds o,(∀a,F a->H a≠none)/\RpA K kd F H vs ds/\g ds=some o/\RQO K kd F H Q o
def Vh(os:List O):O:=if os.all O.isLf=true then .lf (O.strs os) (.tup (O.toDs os))else .nd .tp os
def Yg(fr:DF):EF:=λas=>(fr as).bind λp=>if p.1.length<=sizeLine then some (.ow (Vh p.1),p.2)else none
def xX(fr:DF):EF:=λas=>(fr as).bind λp=>if p.1.length<=sizeLine then some (.ow (.nd .ls p.1),p.2)else none
section
variable{X:Cx}{kd:KD}{a b c:Expr}{fa fb:EF}{ta tb:TF}{pos:Pos}{es rest:List Expr}{fr:AF}{fd:DF}
theorem RpA.length{K:zC}{F:Addr->Prop}{H:Hp}{vs:List V}{ds:List (Bool×D)}(h:RpA K kd F H vs ds):vs.length=ds.length:=by
 induction h with
 |nil=>rfl
 |cons _ _ ih=>exact congrArg (· + 1) ih
theorem zj:AA X kd [] aN:=by with_unfolding_all exact(zjI zdQ λσ H Q h=>by
 obtain⟨F,B,ad,as,rs,as',R,e,q⟩:=h;cases e;exact q [] ad H R .nil Grow.refl)
theorem zb(ha:AE X kd a fa)(hr:AA X kd es fr)(hs:starEach (a::es) X.env=(false,eval a X.env)::starEach es X.env):AA X kd (a::es) (aC fa fr):=by with_unfolding_all exact(zjI (VR ha hr hs) λσ H Q h=>by
 obtain⟨F,B,ad,as,rs,as',R,e,q⟩:=h;obtain⟨⟨p,as1⟩,h1,e⟩:=bS_ (show(fa as).bind _=_ from e);obtain⟨⟨z,as2⟩,h2,e⟩:=bS_ e;cases e;refine ZX R h1 λv ad1 H1 R1 rv1 g1=>⟨F,B,ad1,as1,z,_,R1,h2,λvs ad2 H2 R2 rv2 g2=>?_⟩;exact q _ ad2 H2 R2 (.cons (rv1.grow g2) rv2) (g1.trans g2))
theorem zR:AD X kd [] dN:=by with_unfolding_all exact(zjI zdQ λσ H Q h=>by
 obtain⟨F,B,ad,as,rs,as',R,e,q⟩:=h;cases e;exact q [] [] ad H R .nil Grow.refl)
theorem zm(ha:AE X kd a fa)(hr:AD X kd es fd)(hs:starEach (a::es) X.env=(false,eval a X.env)::starEach es X.env):AD X kd (a::es) (dC fa fd):=by with_unfolding_all exact(zjI (VR ha hr hs) λσ H Q h=>by
 obtain⟨F,B,ad,as,rs,as',R,e,q⟩:=h;obtain⟨⟨p,as1⟩,h1,e⟩:=bS_ (show(fa as).bind _=_ from e);obtain⟨⟨o,as2⟩,h2,e⟩:=bS_ e;obtain⟨⟨os,as3⟩,h3,e⟩:=bS_ e;cases e;refine⟨F,B,ad,as,p,as1,R,h1,λv T1 ad1 H1 R1 rv1 g1=>?_⟩;obtain⟨ad2,R2,ro2,le2⟩:=zgl R1 rv1 h2;refine⟨F,_,ad2,as2,os,_,R2.hide,h3,λvs T3 ad3 H3 R3 ro3 g3=>?_⟩;have kT:∀a ∈ T1,∀u,H1 a=some u->H3 a=some u:=λa m u e=>g3.keep a u e λz=>z.elim (λy=>nomatch y) λ⟨i,y⟩=>R2.dis i a y m;have r1:RoS X.K kd F B (Gw (T1++T3) ad3) H3 v o T1:=RoS.lv zbY (RoS.grow g3 kT (RoS.lv znU ro2));have r3:Y5 X.K kd F B (Gw (T1++T3) ad3) H3 vs os T3:=Y5.lv zbY ro3;refine q _ (T1++T3) ad3 H3 (R3.unhide R2.tnd λa m z=>(R2.btr a z).2.2 (.inl m)) (.cons r1 r3) ((g1.trans (Grow.less le2)).trans ⟨λb u e n=>g3.keep b u e λz=>n (Gw.drop b z),λb z=>?_⟩)
 rcases z with z|z
 . rcases zzI.mp z with z|z
   . exact .inl (.inl z)
   . exact(g3.own b (.inl z)).elim (λy=>.inl (Gw.drop b y)) .inr
 . exact(g3.own b (.inr z)).elim (λy=>.inl (Gw.drop b y)) .inr)
theorem Zt{x1}(h:AD X kd es fd):AE X kd (.Tuple es x1 pos) (Yg fd):=by with_unfolding_all exact(wB (zuO h) λσ H Q h=>by
 obtain⟨F,B,ad,as,r,as',R,e,q⟩:=h;obtain⟨⟨os,as1⟩,h1,e⟩:=bS_ (show(fd as).bind _=_ from e);obtain⟨hz,e⟩:=zZ e;cases e;refine⟨F,B,ad,as,os,_,R,h1,λvs T1 ad1 H1 R1 ro1 g1=>⟨by rw[ro1.length];exact hz,λp hp=>?_⟩⟩;have k:∀b o,H1 b=some o->upd H1 p (.tup vs) b=some o:=λb o hb=>by rw[yg (yP hb hp)];exact hb
 obtain⟨R2,g2⟩:=R1.more k;have ro2:=Y5.grow g2 (λa _ u h=>k a u h) ro1;have np:∀st,¬Lv F B (Gw T1 ad1) st p:=λst z=>R1.trk st p z hp;refine q _ T1 ad1 _ R2 ?_ (g1.trans g2);show RoS X.K kd F B (Gw T1 ad1) _ _ (Vh os) T1;unfold Vh
 by_cases hl:os.all O.isLf=true
 . rw[if_pos hl];have:=zqr ro2 hl;subst this;exact .lf (.tup (np _) (.inl yw) (zgq ro2 hl))
 . rw[if_neg hl];exact .tp (np _) yw ro2)
theorem yR(h:AD X kd es fd):AE X kd (.List es pos) (xX fd):=by with_unfolding_all exact(wB (zuI h) λσ H Q h=>by
 obtain⟨F,B,ad,as,r,as',R,e,q⟩:=h;obtain⟨⟨os,as1⟩,h1,e⟩:=bS_ (show(fd as).bind _=_ from e);obtain⟨hz,e⟩:=zZ e;cases e;refine⟨F,B,ad,as,os,_,R,h1,λvs T1 ad1 H1 R1 ro1 g1=>⟨by rw[ro1.length];exact hz,λp hp=>?_⟩⟩;have k:∀b o,H1 b=some o->upd H1 p (.lst vs) b=some o:=λb o hb=>by rw[yg (yP hb hp)];exact hb
 obtain⟨R2,g2⟩:=R1.add (N:=[p]) (by simp) (λa m=>by rw[zzN.mp m];exact hp) k (λa m=>by rw[zzN.mp m,yw];simp);exact q _ _ ad1 _ R2 (.ls yw (Y5.grow g2 (λa _ u h=>k a u h) ro1)) (g1.trans g2))
theorem VwL.less{K:zC}{O O':Addr->Prop}{H:Hp}(g:∀a,O' a->O a){vs:List V}{ds:List D}(h:VwL K kd O H vs ds):VwL K kd O' H vs ds:=by
 induction h with
 |nil=>exact .nil
 |cons h _ ih=>exact .cons (h.less g) ih
theorem zdf{K:zC}{F B:Addr->Prop}{ad:Ad}{as:AS}{σ:St}{H:Hp}(R:Rel K kd F B [] ad as σ H){vs:List V}{rs:List RV}{ds:List D}{lv:Option Bool}(h:RVs K kd F B ad σ H vs rs)(e:views as rs=some (ds,lv)):VwL K kd (Obl F B (Gw [] ad) lv) H vs ds:=by
 induction h generalizing ds lv with
 |nil=>cases e;exact .nil
 |cons h t ih=>
  obtain⟨⟨d,l⟩,h1,e⟩:=bS_ (show(RV.view as _).bind _=_ from e);obtain⟨⟨ds,l2⟩,h2,e⟩:=bS_ e;cases e;exact .cons ((vM.vw R h h1).less Obl.meet1) ((ih h2).less Obl.meet2)
theorem alP{g:List D->Option R0}{σ:St}{H:Hp}{Q:VK}{R':List V->Hp->VK->Prop}(hr:∀vs H Q,(∃O ds r,(∀a,O a->H a≠none)/\VwL X.K kd O H vs ds/\g ds=some r/\RQ X.K kd O H Q r)->R' vs H Q)
 (h:al X.K kd (fP fr g) σ H Q):alA X.K kd fr σ H λvs H1=>R' vs H1 Q:=by
 obtain⟨F,B,ad,as,r,as',R,e,q⟩:=h;obtain⟨⟨p,as1⟩,h1,e⟩:=bS_ (show(fr as).bind _=_ from e);obtain⟨⟨ds,lv⟩,h2,e⟩:=bS_ e;obtain⟨z,h3,e⟩:=bS_ e;obtain⟨y,h4,e⟩:=bS_ e;cases e;exact⟨F,B,ad,as,p,_,R,h1,λvs ad1 H1 R1 rv1 g1=>hr _ _ _ ⟨_,ds,z,R1.tr _,zdf R1 rv1 h2,h3,zbZ R1 h4 λw T' H' R' rv' g'=>q w T' ad1 H' R' rv' (g1.trans g')⟩⟩
theorem zsD{K:zC}{F B:Addr->Prop}{ad:Ad}{as:AS}{σ:St}{H:Hp}(R:Rel K kd F B [] ad as σ H){vs:List V}{rs:List RV}{ds:List (Bool×D)}(h:RVs K kd F B ad σ H vs rs)(e:V5 as rs=some ds):RpA K kd (Lv F B (Gw [] ad) true) H vs ds:=by
 induction h generalizing ds with
 |nil=>cases e;exact .nil
 |cons h t ih=>
  rename_i v r vs rs;obtain⟨⟨st,d⟩,h1,e⟩:=bS_ (show(zqW as r).bind _=_ from e);obtain⟨ds,h2,e⟩:=bS_ e;cases e;refine .cons ?_ (ih h2);cases r with
  |ow o=>
   cases h1;cases hf:ye o.toD with
   |true=>exact(zkE h).flat hf
   |false=>
    refine(zhl h).less λa z=>?_;have zs:o.str=true:=z.1;rw[zs];exact z.2
  |bo i=>
   have e:(match as[i]? with|some (some o)=>some (false,o.toD)|_=>none)=some (st,d):=h1;cases k:as[i]? with
   |none=>rw[k]at e;cases e
   |some s=>
    cases s with
    |none=>rw[k]at e;cases e
    |some o=>
     rw[k]at e;cases e;obtain⟨w,hw,ro⟩:=R.sl i _ k;rw[h.2]at hw;cases hw;exact(zkE ro).less λa z=>nomatch z.1
theorem zvL{K:zC}{F B:Addr->Prop}{ad:Ad}{as:AS}{σ:St}{H:Hp}{Q:VK}{o:O}(R:Rel K kd F B [] ad as σ H)(q:∀v T' H',Rel K kd F B T' ad as σ H'->vM K kd F B T' ad σ H' v (.ow o)->Grow (Gw [] ad) H (Gw T' ad) H'->Q v H'):
 RQO K kd (Lv F B (Gw [] ad) true) H Q o:=λv T H' hn hl k h1 ro=>by
 obtain⟨R',g⟩:=R.news hn hl k h1;have le:∀st a,Lv F B (Gw T ad) st a->Un2 (Lv F B (Gw [] ad) true) (· ∈ T) a:=λst a z=>by
  rcases z with(z|z)|z|z
  . exact .inl (.inl (.inl ⟨rfl,z.2⟩))
  . exact .inl (.inl (.inr z))
  . exact .inr z
  . exact .inl (.inr (.inr z))
 exact q v T H' R' (Ro.mono (λst v d r=>r.less (le st)) (λa vs n e=>⟨λz=>n (le true a z),e⟩) (λ_ _ _ e=>e) ro) g
theorem zwa{g:List (Bool×D)->Option O}{σ:St}{H:Hp}{Q:VK}{E:XK}(h:al X.K kd (zA fr g) σ H Q):zuC (spD X.K kd g) [] E (alA X.K kd fr) σ H Q:=by
 obtain⟨F,B,ad,as,r,as',R,e,q⟩:=h;obtain⟨⟨p,as1⟩,h1,e⟩:=bS_ (show(fr as).bind _=_ from e);obtain⟨ds,h2,e⟩:=bS_ e;obtain⟨o,h3,e⟩:=bS_ e;cases e;refine⟨F,B,ad,as,p,_,R,h1,λvs ad1 H1 R1 rv1 g1=>?_⟩;show spD X.K kd g (vs++[]) H1 Q E;rw[zzY];exact⟨_,ds,o,R1.trk true,zsD R1 rv1 h2,h3,zvL R1 λw T' H' R' rv' g'=>q w T' ad1 H' R' rv' (g1.trans g')⟩
end
inductive Out where
 |nx (as:AS)|rt (o:O)|bk (as:AS)|ct (as:AS)
abbrev SF:=AS->Option Out
structure RetOk(K:zC)(kd:KD)(F:Addr->Prop)(T:List Addr)(H:Hp)(v:V)(o:O):Prop where
 nd:T.Nodup
 tr:∀a ∈ T,H a≠none
 ro:Ro (λ_ v d=>Rp K kd (Un2 F (· ∈ T)) H v d) (λa=>¬Un2 F (· ∈ T) a) H v o T
def zob(K:zC)(kd:KD)(F B:Addr->Prop)(ad:Ad)(H:Hp)(D:Ends):Out->Prop
 | .nx as'=>∀σ' ad' H',Rel K kd F B [] ad' as' σ' H'->Grow (Gw [] ad) H (Gw [] ad') H'->D.nx σ' H'
 | .bk as'=>∀σ' ad' H',Rel K kd F B [] ad' as' σ' H'->Grow (Gw [] ad) H (Gw [] ad') H'->D.bk σ' H'
 | .ct as'=>∀σ' ad' H',Rel K kd F B [] ad' as' σ' H'->Grow (Gw [] ad) H (Gw [] ad') H'->D.ct σ' H'
 | .rt o=>∀v T H',RetOk K kd F T H' v o->Grow (Gw [] ad) H (· ∈ T) H'->D.rt v H'
def be(K:zC)(kd:KD)(f:SF):TS:=λD σ H=>∃F B ad as o,Rel K kd F B [] ad as σ H/\f as=some o/\zob K kd F B ad H D o
@[irreducible] def ASt(X:Cx)(kd:KD)(st:Stmt)(f:SF):Prop:=PS X st (be X.K kd f)
@[irreducible] def ASs(X:Cx)(kd:KD)(st:List Stmt)(f:SF):Prop:=PSs X st (be X.K kd f)
theorem W0{X:Cx}{e:Stmt}{t t':TS}(h:PS X e t)(k:∀D σ H,t' D σ H->t D σ H):PS X e t':=λpins s σ H D I q=>h pins s σ H D I (k D σ H q)
theorem zoq{X:Cx}{e:List Stmt}{t t':TS}(h:PSs X e t)(k:∀D σ H,t' D σ H->t D σ H):PSs X e t':=λpins s σ H D I q=>h pins s σ H D I (k D σ H q)
theorem zob.pre{K:zC}{kd:KD}{F B:Addr->Prop}{ad ad1:Ad}{H H1:Hp}{D:Ends}{o:Out}(g:Grow (Gw [] ad) H (Gw [] ad1) H1)(h:zob K kd F B ad H D o):zob K kd F B ad1 H1 D o:=by
 cases o with
 |nx as=>exact λσ' ad' H' R g'=>h σ' ad' H' R (g.trans g')
 |bk as=>exact λσ' ad' H' R g'=>h σ' ad' H' R (g.trans g')
 |ct as=>exact λσ' ad' H' R g'=>h σ' ad' H' R (g.trans g')
 |rt r=>exact λv T H' R g'=>h v T H' R (g.trans g')
noncomputable def sNx:SF:=λas=>some (.nx as)
def sBk:SF:=λas=>some (.bk as)
def zJ(f g:SF):SF:=λas=>(f as).bind λo=>match o with | .nx as'=>g as'|o=>some o
def sIf(c:TF)(f g:SF):SF:=λas=>(c as).bind λp=>if p.1=true then f p.2 else g p.2
def yV(f:EF):SF:=λas=>(f as).bind λp=>some (.nx p.2)
def zpH(as:AS):RV->Option O
 | .ow o=>if o.str=true then some o else none
 | .bo i=>match as[i]? with
  |some (some o)=>if o.str=true then some o else none
  |_=>none
def yq(f:EF):SF:=λas=>(f as).bind λp=>(zpH p.2 p.1).bind λo=>some (.rt o)
def zU(z:Bool)(i:Nat)(f:EF):SF:=λas=>(f as).bind λp=>(toO p.2 (if z=true then p.1.frz else p.1)).bind λx=>if i<x.2.length then some (.nx (x.2.set i (some x.1)))else none
theorem Ro.strong{L:Bool->V->D->Prop}{N:Addr->Prop}{H:Hp}{v:V}{o:O}{fp:List Addr}(h:Ro L N H v o fp)(e:o.str=true):Ro (λst v d=>st=true/\L st v d) N H v o fp:=
 Ro.rec (motive_1:=λv o fp _=>o.str=true->Ro (λst v d=>st=true/\L st v d) N H v o fp) (motive_2:=λvs os fp _=>O.strs os=true->RoL (λst v d=>st=true/\L st v d) N H vs os fp)
  (λh e=>.lf ⟨e,h⟩) (λh _ r e=>.ls h (r e)) (λh l _ r e=>.dc h l (r e)) (λc h l _ r e=>.ob ⟨rfl,c⟩ h l (r e)) (λn h _ r e=>.tp n h (r e)) (λ_=>.nil) (λ_ _ h r e=>.cons (h ((zzW _ _).mp e).1) (r ((zzW _ _).mp e).2)) h e
section
variable{K:zC}{kd:KD}{F B:Addr->Prop}{T:List Addr}{ad ad1:Ad}{as as1:AS}{σ:St}{H H1:Hp}{v:V}{r:RV}{o:O}
theorem zmX{T':List Addr}(R:Rel K kd F B T ad as σ H)(hn:T'.Nodup)(hs:∀a ∈ T',Gw T ad a)(h:RoS K kd F B (Gw T ad) H v o T')(e:o.str=true):RetOk K kd F T' H v o:=by
 have le:∀a,Un2 F (· ∈ T') a->Lv F B (Gw T ad) true a:=λa z=>z.elim (λy=>.inl (.inl ⟨rfl,y⟩)) λy=>.inr (hs a y);exact⟨hn,λa m=>(R.gtr a (hs a m)).1,Ro.mono (λst v d r=>by obtain⟨rfl,r⟩:=r;exact r.less le) (λa vs n e=>⟨λz=>n (le a z),e⟩) (λ_ _ _ e=>e) (Ro.strong h e)⟩
theorem Rel.ret(R:Rel K kd F B T ad as σ H)(hr:vM K kd F B T ad σ H v r)(e:zpH as r=some o):∃T',RetOk K kd F T' H v o/\∀b ∈ T',Gw T ad b:=by
 cases r with
 |ow o'=>
  obtain⟨hs,rfl⟩:=zZ e;exact⟨T,zmX R R.tnd (λa m=>.inl m) hr hs,λa m=>.inl m⟩
 |bo i=>
  have e:(match as[i]? with|some (some o)=>if o.str=true then some o else none|_=>none)=some o:=e;cases k:as[i]? with
  |none=>rw[k]at e;cases e
  |some s=>
   cases s with
   |none=>rw[k]at e;cases e
   |some o1=>
    rw[k]at e;obtain⟨hs,rfl⟩:=zZ e;obtain⟨w,hw,ro⟩:=R.sl i _ k;rw[hr.2]at hw;cases hw;exact⟨ad i,zmX R (R.nd i) (λa m=>.inr ⟨i,m⟩) ro hs,λa m=>.inr ⟨i,m⟩⟩
end
section
variable{X:Cx}{kd:KD}{st:Stmt}{sts rest:List Stmt}{a b c e:Expr}{fa fb:EF}{ta:TF}{pos:Pos}{f g:SF}
theorem zqY:ASt X kd (.Break pos) sBk:=by with_unfolding_all exact(W0 zqn λD σ H h=>by
 obtain⟨F,B,ad,as,o,R,e,q⟩:=h;cases e;exact q σ ad H R Grow.refl)
theorem yo:ASs X kd [] sNx:=by with_unfolding_all exact(zoq zsw λD σ H h=>by
 obtain⟨F,B,ad,as,o,R,e,q⟩:=h;cases e;exact q σ ad H R Grow.refl)
theorem zg(h1:ASt X kd st f)(h2:ASs X kd rest g):ASs X kd (st::rest) (zJ f g):=by with_unfolding_all exact(zoq (zqj h1 h2) λD σ H h=>by
 obtain⟨F,B,ad,as,o,R,e,q⟩:=h;obtain⟨o1,e1,e⟩:=bS_ (show(f as).bind _=_ from e);refine⟨F,B,ad,as,o1,R,e1, ?_⟩;cases o1 with
 |nx as1=>exact λσ' ad' H' R' g'=>⟨F,B,ad',as1,o,R',e,q.pre g'⟩
 |bk as1=>cases e;exact q
 |ct as1=>cases e;exact q
 |rt r=>cases e;exact q)
theorem zx(h1:ASt X kd st f):ASs X kd [st] f:=by with_unfolding_all exact(zsb h1)
def sNo:SF:=λ_=>none
theorem zql:ASt X kd st sNo:=by with_unfolding_all exact(λpins s σ H D I h=>by obtain⟨F,B,ad,as,o,R,e,q⟩:=h;cases e)
theorem xF(hc:AT X kd c ta)(ha:ASs X kd sts f)(hb:ASs X kd rest g):ASt X kd (.If c sts rest pos) (sIf ta f g):=by with_unfolding_all exact(W0 (zwU hc ha hb) λD σ H h=>by
 obtain⟨F,B,ad,as,o,R,e,q⟩:=h;obtain⟨⟨p,as1⟩,h1,e⟩:=bS_ (show(ta as).bind _=_ from e);refine⟨F,B,ad,as,p,as1,R,h1,λad' H' R' g=>?_⟩;cases p with
 |true=>exact⟨F,B,ad',as1,o,R',e,q.pre g⟩
 |false=>exact⟨F,B,ad',as1,o,R',e,q.pre g⟩)
theorem wy(he:AE X kd e fa)(hs:swapsWith e none pos.line X.env=pure false):ASt X kd (.Expr e pos) (yV fa):=by with_unfolding_all exact(W0 (zti he hs) λD σ H h=>by
 obtain⟨F,B,ad,as,o,R,e,q⟩:=h;obtain⟨⟨p,as1⟩,h1,e⟩:=bS_ (show(fa as).bind _=_ from e);cases e;exact⟨F,B,ad,as,p,as1,R,h1,λv T' ad' H' R' rv g=>q σ ad' H' R'.drop (g.trans (Grow.less Gw.drop))⟩)
theorem zL(he:AE X kd e fa):ASt X kd (.Return (some e) pos) (yq fa):=by with_unfolding_all exact(W0 (zvP he) λD σ H h=>by
 obtain⟨F,B,ad,as,o,R,e,q⟩:=h;obtain⟨⟨p,as1⟩,h1,e⟩:=bS_ (show(fa as).bind _=_ from e);obtain⟨r,h2,e⟩:=bS_ e;cases e;refine⟨F,B,ad,as,p,as1,R,h1,λv T' ad' H' R' rv g=>?_⟩;obtain⟨T2,ro,le⟩:=R'.ret rv h2;exact q v T2 H' ro (g.trans (Grow.less le)))
theorem znk{K:zC}{F B:Addr->Prop}{T:List Addr}{ad:Ad}{as as2:AS}{σ:St}{H:Hp}{v:V}{r:RV}{z:Bool}{o:O}{i:Nat}(R:Rel K kd F B T ad as σ H)(rv:vM K kd F B T ad σ H v r)
 (h2:toO as (if z=true then r.frz else r)=some (o,as2)) (hl:i<as2.length):∃ad',Rel K kd F B [] ad' (as2.set i (some o)) (σ.set i (some v)) H/\∀a,Gw [] ad' a->Gw T ad a:=by
 cases z with
 |true=>
  obtain⟨ad1,R1,ro,le⟩:=zgl R.drop (vM.drop R rv) h2;exact⟨_,R1.put hl ro,λa y=>Gw.drop a (le a (zaf a y))⟩
 |false=>
  obtain⟨ad1,R1,ro,le⟩:=zgl R rv h2;exact⟨_,R1.put hl ro,λa y=>le a (zaf a y)⟩
theorem zvf{z:Bool}{i:Nat}{x:Str}{pos':Pos}(hN:X.N.Nodup)(hi:X.N[i]? = some x)(hx:Loc X.env.scope x)(he:AE X kd e fa)(hs:swapsWith e (some (.Name x pos')) pos.line X.env=pure false)(hf:X.fn x=true\/X.env.scope.names.lookup x=some .local):
 ASt X kd (.Assign [.Name x pos'] e pos) (zU z i fa):=by with_unfolding_all exact(W0 (zvE hN hi hx he hs hf) λD σ H h=>by
 obtain⟨F,B,ad,as,o,R,e,q⟩:=h;obtain⟨⟨p,as1⟩,h1,e⟩:=bS_ (show(fa as).bind _=_ from e);obtain⟨⟨y,as2⟩,h2,e⟩:=bS_ e;obtain⟨hl,e⟩:=zZ e;cases e;refine⟨F,B,ad,as,p,as1,R,h1,λv T' ad' H' R' rv g=>?_⟩;obtain⟨ad2,R2,le⟩:=znk R' rv h2 hl;exact q _ ad2 H' R2 (g.trans (Grow.less le)))
end
def XQ(n:Nat)(ds:List (Bool×D)):AS:=ds.map (λx=>some (.lf x.1 x.2))++List.replicate (n-ds.length) none
def zxZ:Out->Option O
 | .nx _=>some (.lf true .non)
 | .rt o=>some o
 |_=>none
def fnR(n m:Nat)(f:SF)(ds:List (Bool×D)):Option O:=if ds.length=m then(f (XQ n ds)).bind zxZ else none
theorem RpA.get{K:zC}{kd:KD}{F:Addr->Prop}{H:Hp}:∀{vs:List V}{ds:List (Bool×D)}{i:Nat}{x:Bool×D},RpA K kd F H vs ds->ds[i]? = some x->∃v,vs[i]? = some v/\Rp K kd (λa=>x.1=true/\F a) H v x.2
 |_,_,_,_,.nil,e=>by simp at e
 |_,_,0,_,.cons h _,e=>by simp at e;subst e;exact⟨_,rfl,h⟩
 |_,_,i+1,_,.cons _ r,e=>by
  obtain⟨v,h1,h2⟩:=RpA.get (i:=i) r (by simpa using e);exact⟨v,by simpa using h1,h2⟩
theorem zpD{K:zC}{kd:KD}{F:Addr->Prop}{H:Hp}{N:List Str}{vs:List V}{ds:List (Bool×D)}(ht:∀a,F a->H a≠none)(rp:RpA K kd F H vs ds):
 Rel K kd F (λ_=>False) [] (λ_=>[]) (XQ N.length ds) (L2.start N vs) H:=by
 have hl:=rp.length;have no:∀a,¬Gw [] (λ_=>[]) a:=λa z=>z.elim (λy=>nomatch y) λ⟨_,y⟩=>nomatch y;refine⟨by unfold XQ L2.start;simp[hl],λ_ _=>rfl,λ_=>zyD,(λ_ _ _ z=>nomatch z),zyD,(λ_ _ _ z=>nomatch z),ht,(λ_ z=>z.elim),λa z=>(no a z).elim,λi s e=>?_⟩;unfold XQ at e;unfold L2.start
 by_cases hi:i<ds.length
 . rw[zyJ (by rw[zD];exact hi),zzE]at e;obtain⟨d,hd,ea⟩:=Option.map_eq_some_iff.mp e;subst ea;obtain⟨v,hv,rv⟩:=rp.get hd;rw[zyJ (by rw[zD,hl];exact hi),zzE,hv];refine⟨v,rfl,.lf (rv.less λa z=>?_)⟩
   rcases z with(z|z)|z
   . exact z
   . exact z.elim
   . exact(no a z).elim
 . rw[zyL (by rw[zD];omega)]at e;have:=zzU e;have ea:s=none:=(List.mem_replicate.mp this).2;subst ea;rfl
section
variable{P:Program}{w:World}{K:zC}{mg:Str->Option Value}{base:Heap}
theorem zrA{kd:KD}{F:Addr->Prop}{H H':Hp}{Q:VK}{o:O}{v:V}{T:List Addr}(q:RQO K kd F H Q o)(ro:RetOk K kd F T H' v o)(g:Grow (Gw [] λ_=>[]) H (· ∈ T) H'):Q v H':=by
 have no:∀a,¬Gw [] (λ_=>[]) a:=λa z=>z.elim (λy=>nomatch y) λ⟨_,y⟩=>nomatch y;exact q v T H' ro.nd (λa m=>(g.own a m).resolve_left (no a)) (λb u h=>g.keep b u h (no b)) ro.tr ro.ro
theorem yK{kd:KD}{x qual:Str}{st:Stmt}{f:Addr}{fd:FuncData}{N ps:List Str}{k:Nat}{c:SF}(Fn:Fun K x qual st f fd)(S:FnScope N ps (zy st))
 (hb:∀(cdv:Value) (A:Around) (outer:List Env) (s:Shared) (H:Hp) (E:XK),Room k (A.deeper (envOfC qual (zy st) s.heap.objs.size f cdv))->ASs (zmP CX0 P w K mg base N qual (zy st) f cdv A outer s H E).nox kd (zdb st) c):
 FnOk P w K mg base CX0 (k+1) f fd ps (spD K kd (fnR N.length ps.length c)):=by
 with_unfolding_all (
 refine Fn.ok S (λvs H Q E h=>?_) (λcdv A outer s H vs Q E hr h=>⟨_,hb cdv A outer s H E hr, ?_⟩)
 . obtain⟨F,ds,r,_,rp,e,_⟩:=h;unfold fnR at e
   by_cases hl:ds.length=ps.length
   . rw[rp.length,hl]
   . rw[if_neg hl]at e;cases e
 . obtain⟨F,ds,r,ht,rp,e,q⟩:=h;unfold fnR at e
   by_cases hl:ds.length=ps.length
   . rw[if_pos hl]at e;obtain⟨o,e1,e⟩:=bS_ e;refine⟨F,λ_=>False,λ_=>[],XQ N.length ds,o,zpD ht rp,e1, ?_⟩;cases o with
     |nx as=>cases e;exact λσ' ad' H' R g=>zrA q (T:=[]) ⟨zyD,(λ_ m=>nomatch m),.lf .non⟩ (g.trans (Grow.less (λ_ z=>nomatch z)))
     |rt o=>cases e;exact λv T H' ro g=>zrA q ro g
     |bk=>cases e
     |ct=>cases e
   . rw[if_neg hl]at e;cases e)
end
abbrev It1:=Bool×D
abbrev GF:=It1->AS->Option AS
abbrev GFs:=List It1->AS->Option AS
def kids(st:Bool)(ds:List D):List It1:=ds.map λd=>(ye d||st,d)
inductive RpI(K:zC)(kd:KD)(F B G:Addr->Prop)(H:Hp):List V->List It1->Prop
 |nil:RpI K kd F B G H [] []
 |cons {v:V}{x:It1}{vs:List V}{ds:List It1}:Rp K kd (Lv F B G x.1) H v x.2->RpI K kd F B G H vs ds->RpI K kd F B G H (v::vs) (x::ds)
def alG(K:zC)(kd:KD)(S:List Nat)(g:GF):TG:=λv σ H Q=>∃F B ad as x as',Rel K kd F B [] ad as σ H/\Rp K kd (Lv F B (Gw [] ad) x.1) H v x.2/\g x as=some as'/\
 ∀σ' ad' H',Rel K kd F B [] ad' as' σ' H'->Grow (Gw [] ad) H (Gw [] ad') H'->(∀j,j ∉ S->σ'[j]? = σ[j]?)->Q σ' H'
def zyl(K:zC)(kd:KD)(S:List Nat)(g:GFs):TGs:=λvs σ H Q=>∃F B ad as ds as',Rel K kd F B [] ad as σ H/\RpI K kd F B (Gw [] ad) H vs ds/\g ds as=some as'/\
 ∀σ' ad' H',Rel K kd F B [] ad' as' σ' H'->Grow (Gw [] ad) H (Gw [] ad') H'->(∀j,j ∉ S->σ'[j]? = σ[j]?)->Q σ' H'
@[irreducible] def AG(X:Cx)(kd:KD)(tg:Expr)(S:List Nat)(g:GF):Prop:=PG X tg (alG X.K kd S g)
@[irreducible] def AGs(X:Cx)(kd:KD)(tg:List Expr)(S:List Nat)(g:GFs):Prop:=PGs X tg (zyl X.K kd S g)
theorem zuS{X:Cx}{e:Expr}{t t':TG}(h:PG X e t)(k:∀v σ H Q,t' v σ H Q->t v σ H Q):PG X e t':=λpins s σ H v u Q I r q=>h pins s σ H v u Q I r (k v σ H Q q)
theorem zox{X:Cx}{e:List Expr}{t t':TGs}(h:PGs X e t)(k:∀v σ H Q,t' v σ H Q->t v σ H Q):PGs X e t':=λpins s σ H v u Q I r q=>h pins s σ H v u Q I r (k v σ H Q q)
def gN(i:Nat):GF:=λx as=>if i<as.length then some (as.set i (some (.lf x.1 x.2)))else none
def gsN:GFs:=λds as=>match ds with | []=>some as|_::_=>none
def gsC(g:GF)(gs:GFs):GFs:=λds as=>match ds with | []=>none|d::r=>(g d as).bind λas1=>gs r as1
def gT(n:Nat)(gs:GFs):GF:=λx as=>match x.2 with
 | .tup ds=>if ds.length=n then gs (kids x.1 ds) as else none
 | .lst ds=>if ds.length=n then gs (kids x.1 ds) as else none
 |_=>none
section
variable{K:zC}{kd:KD}{F B G G':Addr->Prop}{H H':Hp}
theorem RpI.length{vs:List V}{ds:List It1}(h:RpI K kd F B G H vs ds):vs.length=ds.length:=by
 induction h with
 |nil=>rfl
 |cons _ _ ih=>exact congrArg (· + 1) ih
theorem RpI.grow(g:Grow G H G' H'){vs:List V}{ds:List It1}(h:RpI K kd F B G H vs ds):RpI K kd F B G' H' vs ds:=by
 induction h with
 |nil=>exact .nil
 |cons h _ ih=>exact .cons (Rp.grow g h) ih
theorem RpI.get{vs:List V}{ds:List It1}{i:Nat}{x:It1}(h:RpI K kd F B G H vs ds)(e:ds[i]? = some x):∃v,vs[i]? = some v/\Rp K kd (Lv F B G x.1) H v x.2:=by
 induction h generalizing i with
 |nil=>simp at e
 |cons h r ih=>
  cases i with
  |zero=>simp at e;subst e;exact⟨_,rfl,h⟩
  |succ i=>
   obtain⟨v,h1,h2⟩:=ih (i:=i) (by simpa using e);exact⟨v,by simpa using h1,h2⟩
theorem zak{st:Bool}{vs:List V}{ds:List D}(h:RpL K kd (Lv F B G st) H vs ds):RpI K kd F B G H vs (kids st ds):=
 RpL.ind (P:=λvs ds=>RpI K kd F B G H vs (kids st ds)) .nil (λ{v d vs ds} h _ ih=>by
  refine .cons (x:=(ye d||st,d)) ?_ ih;cases e:ye d with
  |true=>exact h.flat e
  |false=>exact h) h
end
section
variable{prog:Program}{w:World}{A:Around}{E:Value->Shared->Prop}{s:Shared}
theorem ziH{it l:Addr}{items:Array Value}(hne:l≠it):∀(n i:Nat) (s:Shared) (Q:List Value->Shared->Prop),s.heap.IsListIter it l i->s.heap.IsList l items->i+n<=items.size->
 (∀h',h'.IsListIter it l (i+n)->Heap.SameBut it s.heap h'->Q ((items.toList.drop i).take n) {s with heap:=h'})->wpAny (model prog w) A (draw (.ref it) n) Q E s
 |0,i,s,Q,hit,_,_,hQ=>by
  show wpAny _ _ (pure []) Q E s;exact zyY (by simpa using hQ s.heap hit (Heap.SameBut.refl ..))
 |n+1,i,s,Q,hit,ht,hle,hQ=>by
  have hlt:i<items.size:=by omega
  show wpAny _ _ (pyNext (.ref it) >>= _) Q E s;refine zyX (wpAny_pyNext_list_item hit ht (x:=items[i]) (by simp[hlt]) λh₁ hit₁ hs₁=>?_);refine zyX (QzD (ziH hne n (i+1) _ _ hit₁ (ht.extBut hs₁.extBut hne) (by omega) λh₂ hit₂ hs₂=>zyY ?_));have hd:items.toList.drop i=items[i]::items.toList.drop (i+1):=by simp[zyK,hlt]
  have:=hQ h₂ (by rw[show i+(n+1)=i+1+n by omega];exact hit₂) (hs₁.trans hs₂);rw[hd,List.take_succ_cons]at this;exact this
theorem zlB{l:Addr}{items:Array Value}{targets:List (Bool×(Value->Sem Unit))}{Q:Unit->Shared->Prop}(hh:A.handled=none)(ht:s.heap.IsList l items)
 (hn:targets.length=items.size) (hstar:targets.findIdx? (·.1)=none)
 (h:∀h',Heap.ExtBut s.heap.objs.size s.heap h'->wpAny (model prog w) A (assignInOrder (targets.map (·.2)) items.toList) Q E {s with heap:=h'}):
 wpAny (model prog w) A (unpack (.ref l) targets) Q E s:=by
 unfold unpack;rw[hn,hstar];refine zyX (QzD ?_);have hlt:l≠s.heap.objs.size:=by obtain⟨o,ho,_⟩:=ht;exact zzM (QzA ho)
 unfold unpackItems;refine zyX ?_;unfold notIterableAtAll;refine zyX (wpAny_specialOf ht.typeIs PySem.F.slot_list_iter.lookup ?_);refine zyY ?_;simp only[Bool.false_eq_true,if_false];refine zyX (QzD (wpAny_pyIter_list ht ?_));refine zyX (QzD (ziH hlt items.size 0 _ _ ⟨_,QzB _ rfl,rfl,rfl⟩ (ht.push _) (by omega) λh₁ hit₁ hs₁=>?_));have hall:List.take items.size (List.drop 0 items.toList)=items.toList:=by
  rw[List.drop_zero];exact List.take_of_length_le (by simp)
 rw[hall];rw[if_neg (by simp)];have ht₁:h₁.IsList l items:=(ht.push _).extBut hs₁.extBut hlt;refine zyX (QzD (wpAny_pyNext_list_end hh hit₁ ht₁ (by simp) λh₂ he₂=>?_));simp only[Option.isSome_none,Bool.false_eq_true,if_false];exact zyY (h h₂ λb o hb e=>he₂ b o hb (hs₁.extBut b o hb (zyZ _ e)))
end
section
variable{X:Cx}{kd:KD}{a b c e tg iter:Expr}{es:List Expr}{body:List Stmt}{fa fb:EF}{pos:Pos}{g:GF}{gs:GFs}{f:SF}{ta:TF}{S S1 S2:List Nat}
def zxJ(K:zC)(n:Nat)(t:TGs):TG:=λv σ H Q=>∃a xs,v = .ref a/\SqL K H a xs/\xs.length=n/\t xs σ H Q
theorem zrn{es:List Expr}{k:Nat}{t:TGs}{n:Nat}(hc:X.calm=true)(h:PGs X es t)(hn:(assignEach es X.env).length=n)(hst:(assignEach es X.env).findIdx? (·.1)=none):PG X (.Tuple es k pos) (zxJ X.K n t):=by
 intro pins s σ H v u Q I r hw;obtain⟨a,xs,e1,hq,hl,hw⟩:=hw;subst e1;cases r;obtain⟨its,rv,ht,hz⟩:=I.list hq;rw[assign_Tuple];refine zyX (wpAny_standAt (zlB (I.ok.hd hc) ht.isList (by simp[hn,<-hl,rv.length]) hst λh' hx=>?_));have I1:Inv X pins σ H {s with heap:=h'}:=I.kept (t':=s.toks) λb o e=>hx b o (zzM (QzA e)) e;exact h pins _ σ H xs _ Q I1 (by simpa using rv) hw
theorem ztK{i:Nat}{x:Str}(hN:X.N.Nodup)(hi:X.N[i]? = some x)(hx:Loc X.env.scope x)(hf:X.fn x=true\/X.env.scope.names.lookup x=some .local):AG X kd (.Name x pos) [i] (gN i):=by with_unfolding_all exact(zuS (zoz hN hi hx hf) λv σ H Q h=>by
 obtain⟨F,B,ad,as,y,as',R,rp,e,q⟩:=h;obtain⟨hl,e⟩:=zZ e;cases e;exact q _ _ H (R.put hl (o:=.lf y.1 y.2) (.lf rp)) (Grow.less zaf) λj hj=>zzS (λz=>hj (by rw[z];simp)))
theorem Xp:AGs X kd [] [] gsN:=by with_unfolding_all exact(zox zsr λvs σ H Q h=>by
 obtain⟨F,B,ad,as,ds,as',R,rp,e,q⟩:=h;cases rp with
 |nil=>cases e;exact⟨rfl,q σ ad H R Grow.refl λ_ _=>rfl⟩
 |cons=>cases e)
theorem yO(h1:AG X kd a S1 g)(h2:AGs X kd es S2 gs)(hs:(assignEach (a::es) X.env).map (·.2)=assign a X.env::(assignEach es X.env).map (·.2)):AGs X kd (a::es) (S1++S2) (gsC g gs):=by with_unfolding_all exact(zox (zrP h1 h2 hs) λvs σ H Q h=>by
 obtain⟨F,B,ad,as,ds,as',R,rp,e,q⟩:=h;cases rp with
 |nil=>cases e
 |cons r rr=>
  obtain⟨as1,e1,e⟩:=bS_ (show(g _ as).bind _=_ from e);refine⟨_,_,rfl,F,B,ad,as,_,as1,R,r,e1,λσ' ad' H' R' g' k'=>?_⟩;exact⟨F,B,ad',as1,_,as',R',rr.grow g',e,λσ2 ad2 H2 R2 g2 k2=>q σ2 ad2 H2 R2 (g'.trans g2) λj hj=>(k2 j λz=>hj (zzH _ z)).trans (k' j λz=>hj (zzL _ z))⟩)
theorem VG{k n:Nat}(hc:X.calm=true)(h:AGs X kd es S gs)(hn:(assignEach es X.env).length=n)(hst:(assignEach es X.env).findIdx? (·.1)=none):AG X kd (.Tuple es k pos) S (gT n gs):=by
 with_unfolding_all (
 intro pins s σ H v u Q I r hw;obtain⟨F,B,ad,as,⟨st,d⟩,as',R,rp,e,q⟩:=hw;cases d with
 |tup ds=>
  have e:(if ds.length=n then gs (kids st ds) as else none)=some as':=e
  by_cases hl:ds.length=n
  . rw[if_pos hl]at e;have go:∃a xs,v = .ref a/\SqT X.K H a xs/\RpL X.K kd (Lv F B (Gw [] ad) st) H xs ds:=by
     cases rp with
     |tup n h r=>exact⟨_,_,rfl,.inl h,r⟩
     |tupK a b c e f r=>exact⟨_,_,rfl,.inr ⟨_,_,_,a,b,c,e,f⟩,r⟩
    obtain⟨a,xs,rfl,hs,rl⟩:=go;exact zvB hc h hn hst pins s σ H _ u Q I r ⟨a,xs,rfl,hs,by rw[rl.length,hl],F,B,ad,as,_,as',R,zak rl,e,q⟩
  . rw[if_neg hl]at e;cases e
 |lst ds=>
  have e:(if ds.length=n then gs (kids st ds) as else none)=some as':=e
  by_cases hl:ds.length=n
  . rw[if_pos hl]at e;cases rp with
    |lstK a b c r'=>exact zrn hc h hn hst pins s σ H _ u Q I r ⟨_,_,rfl,.inr ⟨_,_,_,a,rfl,rfl,rfl,b,c⟩,by rw[r'.length,hl],F,B,ad,as,_,as',R,zak r',e,q⟩
    |lst n h' r'=>exact zrn hc h hn hst pins s σ H _ u Q I r ⟨_,_,rfl,.inl h',by rw[r'.length,hl],F,B,ad,as,_,as',R,zak r',e,q⟩
  . rw[if_neg hl]at e;cases e
 |_=>cases e)
def zhC(as:AS)(r:RV):Option (It1×AS):=(toO as r.frz).bind λx=>match x.1 with | .lf st d=>some ((st,d),x.2)|_=>none
theorem Ve{K:zC}{F B:Addr->Prop}{T:List Addr}{ad:Ad}{as as':AS}{σ:St}{H:Hp}{v:V}{r:RV}{x:It1}(R:Rel K kd F B T ad as σ H)(h:vM K kd F B T ad σ H v r)(e:zhC as r=some (x,as')):
 ∃ad',Rel K kd F B [] ad' as' σ H/\Rp K kd (Lv F B (Gw [] ad') x.1) H v x.2/\∀a,Gw [] ad' a->Gw T ad a:=by
 obtain⟨⟨o,as1⟩,h1,e⟩:=bS_ e;obtain⟨ad1,R1,ro,le⟩:=zgl R.drop (vM.drop R h) h1;cases o with
 |lf st d=>
  cases e;refine⟨ad1,R1, ?_,λa y=>Gw.drop a (le a y)⟩;have:=zhl ro;exact this
 |nd k os=>cases e
def zkD(f:EF)(g:GF):SF:=λas=>(f as).bind λp=>(zhC p.2 p.1).bind λq=>(g q.1 q.2).bind λas'=>some (.nx as')
theorem zks(he:AE X kd e fa)(hg:AG X kd tg S g)(hs:swapsWithSole [tg] e pos.line X.env=pure false)(hw:swappedStores [tg] e X.env=pure none)(h1:(assignEach [tg] X.env).map (·.2)=[assign tg X.env]):
 ASt X kd (.Assign [tg] e pos) (zkD fa g):=by with_unfolding_all exact(W0 (zpS he hg hs hw h1) λD σ H h=>by
 obtain⟨F,B,ad,as,o,R,e,q⟩:=h;obtain⟨⟨p,as1⟩,h1,e⟩:=bS_ (show(fa as).bind _=_ from e);obtain⟨⟨x,as2⟩,h2,e⟩:=bS_ e;obtain⟨as3,h3,e⟩:=bS_ e;cases e;refine⟨F,B,ad,as,p,as1,R,h1,λv T' ad' H' R' rv g1=>?_⟩;obtain⟨ad2,R2,rp,le⟩:=Ve R' rv h2;exact⟨F,B,ad2,as2,_,as3,R2,rp,h3,λσ' ad' H' R' g' _=>q σ' ad' H' R' ((g1.trans (Grow.less le)).trans g')⟩)
structure ItOk(K:zC)(kd:KD)(F B:Addr->Prop)(ad:Ad)(H:Hp)(J:It)(ds:List It1):Prop where
 all:∀(ad2:Ad) (H2:Hp),Grow (Gw [] ad) H (Gw [] ad2) H2->(∀st a,Lv F B (Gw [] ad2) st a->H2 a≠none)->∀i,(i<ds.length->J.go i H2)/\(ds.length<=i->J.stop i H2)/\
  ∀v H3,J.yld i H2 v H3->(∀b o,H2 b=some o->H3 b=some o)/\∀x,ds[i]? = some x->Rp K kd (Lv F B (Gw [] ad2) x.1) H3 v x.2
abbrev IF:=AS->Option (List It1×AS)
def alI(K:zC)(kd:KD)(f:IF):TI:=λσ H R=>∃F B ad as ds as',Rel K kd F B [] ad as σ H/\f as=some (ds,as')/\
 ∀J ad' H',Rel K kd F B [] ad' as' σ H'->Grow (Gw [] ad) H (Gw [] ad') H'->ItOk K kd F B ad' H' J ds->R J H'
@[irreducible] def AI(X:Cx)(kd:KD)(tg iter:Expr)(f:IF):Prop:=PI X tg iter (alI X.K kd f)
def forL(g:GF)(f:SF):List It1->AS->Option Out
 | [],as=>some (.nx as)
 |d::r,as=>(g d as).bind λas1=>(f as1).bind λo=>match o with
  | .nx as'=>forL g f r as'
  | .ct as'=>forL g f r as'
  | .bk as'=>some (.nx as')
  | .rt r=>some (.rt r)
def zaX(fi:IF)(g:GF)(f:SF):SF:=λas=>(fi as).bind λp=>forL g f p.1 p.2
theorem YD{fi:IF}(hp:PassesOwn (model X.prog X.w) X.A X.env X.xe)(hc:X.calm=true)(hi:AI X kd tg iter fi)(hg:AG X kd tg S g)(hb:ASs X kd body f)(hs:∀x,foldedSetIterable iter X.env x=pure x):
 ASt X kd (.For tg iter body [] pos) (zaX fi g f):=by with_unfolding_all exact(W0 (zvR hp hc hi hg hb hs) λD σ H h=>by
 obtain⟨F,B,ad,as,o,R,e,q⟩:=h;obtain⟨⟨ds,as1⟩,h1,e⟩:=bS_ (show(fi as).bind _=_ from e);refine⟨F,B,ad,as,ds,as1,R,h1,λJ ad1 H1 R1 g1 it=>?_⟩;refine⟨λi m σ2 H2=>m+i=ds.length/\∃ad2 as2,Rel X.K kd F B [] ad2 as2 σ2 H2/\Grow (Gw [] ad1) H1 (Gw [] ad2) H2/\forL g f (ds.drop i) as2=some o,⟨ds.length,rfl,ad1,as1,R1,Grow.refl,e⟩, ?_⟩
 rintro i m σ2 H2 ⟨hm,ad2,as2,R2,g2,e2⟩
 obtain⟨k1,k2,k3⟩:=it.all ad2 H2 g2 R2.trk i
 by_cases hi:i<ds.length
 . refine .inr ⟨k1 hi,λσ3 H3=>∃ad3 as3,Rel X.K kd F B [] ad3 as3 σ3 H3/\Grow (Gw [] ad1) H1 (Gw [] ad3) H3/\forL g f (ds.drop (i+1)) as3=some o,λσ3 H3 ⟨ad3,as3,R3,g3,e3⟩=>⟨m-1,by omega,by omega,ad3,as3,R3,g3,e3⟩,λv H3 hy=>?_⟩;obtain⟨kp,rp⟩:=k3 v H3 hy;rw[zyK hi]at e2;obtain⟨as3,e3,e2⟩:=bS_ (show(g _ as2).bind _=_ from e2);obtain⟨o3,e4,e2⟩:=bS_ e2;obtain⟨R3,g3⟩:=R2.more kp;refine⟨F,B,ad2,as2,_,as3,R3,rp _ (zzA hi),e3,λσ4 ad4 H4 R4 g4 _=>?_⟩;refine⟨F,B,ad4,as3,o3,R4,e4, ?_⟩;have gg:=(g2.trans g3).trans g4;cases o3 with
   |nx as5=>exact λσ5 ad5 H5 R5 g5=>⟨ad5,as5,R5,gg.trans g5,e2⟩
   |ct as5=>exact λσ5 ad5 H5 R5 g5=>⟨ad5,as5,R5,gg.trans g5,e2⟩
   |bk as5=>
    cases e2;exact λσ5 ad5 H5 R5 g5=>q σ5 ad5 H5 R5 (g1.trans (gg.trans g5))
   |rt r=>
    cases e2;exact λv T H5 ro g5=>q v T H5 ro (g1.trans (gg.trans g5))
 . refine .inl ⟨k2 (by omega), ?_⟩;rw[List.drop_eq_nil_of_le (by omega)]at e2;cases e2;exact q σ2 ad2 H2 R2 (g1.trans g2))
def ziD:It1->Option (List It1)
 |(st,.lst ds)=>some (kids st ds)
 |(st,.tup ds)=>some (kids st ds)
 |_=>none
def zrU(f:EF):IF:=λas=>(f as).bind λp=>(zhC p.2 p.1).bind λq=>(ziD q.1).bind λds=>some (ds,q.2)
theorem znz{K:zC}{F B:Addr->Prop}{ad:Ad}{H:Hp}{a:Addr}{vs:List V}{ds:List It1}(hs:∀(ad3:Ad) (H3:Hp),Grow (Gw [] ad) H (Gw [] ad3) H3->SqL K H3 a vs)(r:RpI K kd F B (Gw [] ad) H vs ds):ItOk K kd F B ad H (Itl K a) ds:=⟨λad3 H3 g3 _ i=>by
 have hr3:=hs ad3 H3 g3;have rl3:=r.grow g3;refine⟨λhi=>?_,λhi=>⟨_,hr3,by rw[r.length];exact hi⟩,λv H4 hy=>?_⟩
 . obtain⟨u,hu,_⟩:=r.get (zzA hi);exact⟨_,u,hr3,hu⟩
 . obtain⟨rfl,hv⟩:=hy;refine⟨λ_ _ z=>z,λd hd=>?_⟩;obtain⟨u,hu,ru⟩:=rl3.get hd;have:=hv _ hr3;rw[hu]at this;cases this;exact ru⟩
theorem zvq{K:zC}{F B:Addr->Prop}{ad:Ad}{H:Hp}{a:Addr}{vs:List V}{ds:List It1}(hs:∀(ad3:Ad) (H3:Hp),Grow (Gw [] ad) H (Gw [] ad3) H3->SqT K H3 a vs)(r:RpI K kd F B (Gw [] ad) H vs ds):ItOk K kd F B ad H (Itt K a) ds:=⟨λad3 H3 g3 _ i=>by
 have hr3:=hs ad3 H3 g3;have rl3:=r.grow g3;refine⟨λhi=>?_,λhi=>⟨_,hr3,by rw[r.length];exact hi⟩,λv H4 hy=>?_⟩
 . obtain⟨u,hu,_⟩:=r.get (zzA hi);exact⟨_,u,hr3,hu⟩
 . obtain⟨rfl,hv⟩:=hy;refine⟨λ_ _ z=>z,λd hd=>?_⟩;obtain⟨u,hu,ru⟩:=rl3.get hd;have:=hv _ hr3;rw[hu]at this;cases this;exact ru⟩
theorem zrO(he:AE X kd e fa):AI X kd tg e (zrU fa):=by
 with_unfolding_all (
 intro pins s σ H R I h;obtain⟨F,B,ad,as,ds,as',Rl,e,q⟩:=h;obtain⟨⟨p,as1⟩,h1,e⟩:=bS_ (show(fa as).bind _=_ from e);obtain⟨⟨⟨st,x⟩,as2⟩,h2,e⟩:=bS_ e;obtain⟨ys,h3,e⟩:=bS_ e;cases e;cases x with
 |lst xs=>
  cases h3;refine zjt he pins s σ H R I ⟨F,B,ad,as,p,as1,Rl,h1,λv T1 ad1 H1 R1 rv1 g1=>?_⟩;obtain⟨ad2,R2,rp,le⟩:=Ve R1 rv1 h2;cases rp with
  |lst hn hr rl=>exact⟨_,rfl,⟨_,.inl hr⟩,q _ ad2 H1 R2 (g1.trans (Grow.less le)) (znz (λad3 H3 g3=>.inl (zaj g3 (λz=>hn (.inr z)) hr)) (zak rl))⟩
  |lstK a b c rl=>exact⟨_,rfl,⟨_,.inr ⟨_,_,_,a,rfl,rfl,rfl,b,c⟩⟩,q _ ad2 H1 R2 (g1.trans (Grow.less le)) (znz (λad3 H3 g3=>.inr ⟨_,_,_,a,rfl,rfl,rfl,b,c⟩) (zak rl))⟩
 |tup xs=>
  cases h3;refine zmY he pins s σ H R I ⟨F,B,ad,as,p,as1,Rl,h1,λv T1 ad1 H1 R1 rv1 g1=>?_⟩;obtain⟨ad2,R2,rp,le⟩:=Ve R1 rv1 h2;have go:∃a ys,v = .ref a/\(∀(ad3:Ad) (H3:Hp),Grow (Gw [] ad2) H1 (Gw [] ad3) H3->SqT X.K H3 a ys)/\RpL X.K kd (Lv F B (Gw [] ad2) st) H1 ys xs:=by
   cases rp with
   |tup n h r=>exact⟨_,_,rfl,λad3 H3 g3=>.inl (zaj g3 (λz=>n (.inr z)) h),r⟩
   |tupK a b c e f r=>exact⟨_,_,rfl,λad3 H3 g3=>.inr ⟨_,_,_,a,b,c,e,f⟩,r⟩
  obtain⟨a,ys,rfl,hs,rl⟩:=go;exact⟨_,rfl,⟨_,hs ad2 H1 Grow.refl⟩,q _ ad2 H1 R2 (g1.trans (Grow.less le)) (zvq hs (zak rl))⟩
 |_=>cases h3)
def vg(lo:Int)(n:Nat):List It1:=(List.range n).map λ(i:Nat)=>(true,D.int (lo+(i:Int)))
theorem zqz{K:zC}{F B:Addr->Prop}{ad:Ad}{H:Hp}(lo:Int)(n:Nat):ItOk K kd F B ad H (Itr lo n) (vg lo n):=⟨λad2 H2 g _ i=>by
 have hl:(vg lo n).length=n:=by unfold vg;simp
 refine⟨λhi=>by rw[hl]at hi;exact hi,λhi=>by rw[hl]at hi;exact hi,λv H3 hy=>?_⟩;obtain⟨rfl,rfl⟩:=hy;refine⟨λ_ _ z=>z,λd hd=>?_⟩;have hi:i<n:=by rw[<-hl];exact(zzC.mp hd).1
 unfold vg at hd;rw[zzE,List.getElem?_range hi]at hd;cases hd;exact .int _⟩
def zwL:List D->Option D
 | [x]=>some x
 |_=>none
theorem ztU{ds:List D}{d:D}(h:zwL ds=some d):ds=[d]:=by
 cases ds with
 |nil=>cases h
 |cons x r=>
  cases r with
  |nil=>cases h;rfl
  |cons _ _=>cases h
def vY(ds:List D):Option (List It1):=((zwL ds).bind asI).bind λj=>if -(2 ^ 62)<=j/\j<2 ^ 62 then some (vg 0 j.toNat)else none
theorem znP{ds:List D}{xs:List It1}(h:vY ds=some xs):∃j,ds=[.int j]/\(if -(2 ^ 62)<=j/\j<2 ^ 62 then some (vg 0 j.toNat)else none)=some xs:=by
 obtain⟨j,h1,h⟩:=bS_ h;obtain⟨d,h2,h1⟩:=bS_ h1;cases zrY h1;exact⟨j,ztU h2,h⟩
def zsk:List D->Option (List It1)
 | [.int i,.int j]=>if -(2 ^ 62)<=i/\i<2 ^ 62 /\ -(2 ^ 62)<=j/\j<2 ^ 62 then some (vg i (j-i).toNat)else none
 |_=>none
def vf(fr:AF)(h:List D->Option (List It1)):IF:=λas=>(fr as).bind λp=>(views p.2 p.1).bind λds=>(h ds.1).bind λxs=>some (xs,p.2)
theorem Yv{fr:AF}{p:Pos}(hg:Gl X "range")(hm:X.mg "range"=none)(ha:AA X kd [a] fr)(hs:starEach [a] X.env=[(false,eval a X.env)]):AI X kd tg (.Call (.Name "range" p) [a] [] pos) (vf fr vY):=by
 with_unfolding_all (
 intro pins s σ H R I h;obtain⟨F,B,ad,as,ds,as',Rl,e,q⟩:=h;obtain⟨⟨ps,as1⟩,h1,e⟩:=bS_ (show(fr as).bind _=_ from e);obtain⟨⟨xs,lv⟩,h2,e⟩:=bS_ e;obtain⟨ys,h3,e⟩:=bS_ e;cases e;obtain⟨j,rfl,h3⟩:=znP h3
 . obtain⟨hj,e3⟩:=zZ h3;cases e3;refine zei hg hm ha hs pins s σ H R I ⟨F,B,ad,as,ps,_,Rl,h1,λvs ad1 H1 R1 rv1 g1=>?_⟩;have vl:=zdf R1 rv1 h2;cases vl with
   |cons v1 v2=>
    cases v2;cases v1;exact⟨j,rfl,hj.1,hj.2,q _ ad1 H1 R1 g1 (zqz 0 _)⟩)
theorem zje{fr:AF}{p:Pos}(hg:Gl X "range")(hm:X.mg "range"=none)(ha:AA X kd [a,b] fr)(hs:starEach [a,b] X.env=[(false,eval a X.env),(false,eval b X.env)])(hs2:starEach [b] X.env=[(false,eval b X.env)]):AI X kd tg (.Call (.Name "range" p) [a,b] [] pos) (vf fr zsk):=by
 with_unfolding_all (
 intro pins s σ H R I h;obtain⟨F,B,ad,as,ds,as',Rl,e,q⟩:=h;obtain⟨⟨ps,as1⟩,h1,e⟩:=bS_ (show(fr as).bind _=_ from e);obtain⟨⟨xs,lv⟩,h2,e⟩:=bS_ e;obtain⟨ys,h3,e⟩:=bS_ e;cases e
 match xs,h3,h2 with
 | [.int i,.int j],h3,h2=>
  obtain⟨hj,e3⟩:=zZ (show(if -(2 ^ 62)<=i/\i<2 ^ 62 /\ -(2 ^ 62)<=j/\j<2 ^ 62 then some (vg i (j-i).toNat)else none)=some ds from h3);cases e3;refine zoM hg hm ha hs hs2 pins s σ H R I ⟨F,B,ad,as,ps,_,Rl,h1,λvs ad1 H1 R1 rv1 g1=>?_⟩;have vl:=zdf R1 rv1 h2;cases vl with
  |cons v1 v2=>
   cases v2 with
   |cons v2 v3=>
    cases v3;cases v1;cases v2;exact⟨i,j,rfl,hj,q _ ad1 H1 R1 g1 (zqz i _)⟩)
theorem Rel.mut{K:zC}{F B:Addr->Prop}{T fo:List Addr}{ad:Ad}{as:AS}{σ:St}{H:Hp}{i:Nat}{l:Addr}{fp fp':List Addr}{n:O}{u:HO}(R:Rel K kd F B T ad as σ H)(hi:i<as.length)(hl:ad i=l::fp)(hs:σ[i]? = some (some (.ref l)))
 (hsub:∀a ∈ fp'++fo,a ∈ fp++T) (hnd:(fp'++fo).Nodup) (hu:H l≠none)
 (ro:∀(H':Hp) (G':Addr->Prop),H' l=some u->Grow (Gw T ad) H G' H'->(∀a ∈ fp',∀w,H a=some w->H' a=some w)->RoS K kd F B G' H' (.ref l) n (l::fp')):
 Rel K kd F B fo (zaB ad i (l::fp')) (as.set i (some n)) σ (upd H l u)/\Grow (Gw T ad) H (Gw fo (zaB ad i (l::fp'))) (upd H l u):=by
 have hli:l ∈ ad i:=by rw[hl];exact zzB
 have lT:l ∉ T:=R.dis i l hli;have lfp:l ∉ fp:=by have:=R.nd i;rw[hl]at this;exact(zzR.mp this).1
 have lsub:∀a ∈ fp'++fo,a≠l:=λa m e=>by
  subst e
  rcases zzI.mp (hsub _ m)with z|z
  . exact lfp z
  . exact lT z
 have sub:∀a ∈ fp'++fo,Gw T ad a:=λa m=>by
  rcases zzI.mp (hsub a m)with z|z
  . exact .inr ⟨i,by rw[hl];exact zS _ z⟩
  . exact .inl z
 have gsub:∀a,Gw fo (zaB ad i (l::fp')) a->Gw T ad a:=λa z=>by
  rcases z with z|⟨j,z⟩
  . exact sub a (zzH _ z)
  . by_cases e:j=i
    . subst e;rw[yI]at z
      rcases zI.mp z with z|z
      . subst z;exact .inr ⟨j,hli⟩
      . exact sub a (zzL _ z)
    . rw[yN e]at z;exact .inr ⟨j,z⟩
 have g:Grow (Gw T ad) H (Gw fo (zaB ad i (l::fp'))) (upd H l u):=⟨λb w h n=>by rw[yg (λe=>n (by subst e;exact .inr ⟨i,hli⟩))];exact h,λb z=>.inl (gsub b z)⟩;have kn:∀a,H a≠none->upd H l u a≠none:=λa z=>by
  by_cases e:a=l
  . subst e;rw[yw];simp
  . rw[yg e];exact z
 obtain⟨hnd1,hnd2,hnd3⟩:=zyW.mp hnd;have inT:∀j a,j≠i->a ∈ ad j->a ∈ fp'++fo->False:=λj a hj m m'=>by
  rcases zzI.mp (hsub a m')with z|z
  . exact hj (R.inj j i a m (by rw[hl];exact zS _ z))
  . exact R.dis j a m z
 refine⟨⟨by rw[zzQ];exact R.len,λj hj=>?_,λj=>?_,λj k a h1 h2=>?_,hnd2,λj a h1 h2=>?_,λa z=>kn a (R.ftr a z),λa z=>?_,λa z=>⟨kn a (R.gtr a (gsub a z)).1,(R.gtr a (gsub a z)).2⟩,λj s e=>?_⟩,g⟩
 . rw[zzQ]at hj;rw[yN (by omega)];exact R.out j hj
 . by_cases e:j=i
   . subst e;rw[yI];exact zzR.mpr ⟨λm=>lsub l (zzL _ m) rfl,hnd1⟩
   . rw[yN e];exact R.nd j
 . by_cases e:j=i
   . subst e
     by_cases e':k=j
     . exact e'.symm
     . rw[yI]at h1;rw[yN e']at h2
       rcases zI.mp h1 with z|z
       . subst z;exact R.inj j k a hli h2
       . exact(inT k a e' h2 (zzL _ z)).elim
   . rw[yN e]at h1
     by_cases e':k=i
     . subst e';rw[yI]at h2
       rcases zI.mp h2 with z|z
       . subst z;exact R.inj j k a h1 hli
       . exact(inT j a e h1 (zzL _ z)).elim
     . rw[yN e']at h2;exact R.inj j k a h1 h2
 . by_cases e:j=i
   . subst e;rw[yI]at h1
     rcases zI.mp h1 with z|z
     . subst z;exact lsub a (zzH _ h2) rfl
     . exact hnd3 a z a h2 rfl
   . rw[yN e]at h1;exact inT j a e h1 (zzH _ h2)
 . obtain⟨b1,b2,b3⟩:=R.btr a z;exact⟨kn a b1,b2,λy=>b3 (gsub a y)⟩
 . by_cases q:j=i
   . subst q;rw[zyE hi]at e;cases e;rw[yI];refine⟨_,hs,ro _ _ yw g λa m w h=>?_⟩;rw[yg (lsub a (zzL _ m))];exact h
   . rw[zzS (Ne.symm q)]at e;rw[yN q];refine(R.sl j s e).grow g λa m w h=>?_;rw[yg (λz=>q (R.inj j i l (by rw[<-z];exact m) hli))];exact h
abbrev MG:=List O->List O->Option (List O×O)
def xY(i:Nat)(fr:DF)(g:MG):EF:=λas=>match as[i]? with
 |some (some (.nd .ls _))=>(fr as).bind λp=>match p.2[i]? with
  |some (some (.nd .ls os))=>(g os p.1).bind λz=>some (.ow z.2,p.2.set i (some (.nd .ls z.1)))
  |_=>none
 |_=>none
def MuD(X:Cx)(kd:KD)(r:V->List V->Hp->VK->Prop)(g:MG):Prop:=
 ∀(F B G:Addr->Prop) (l:Addr) (vs ws:List V) (os es os':List O) (o:O) (fp fq:List Addr) (H:Hp) (Q:VK),H l=some (.lst vs)->Y5 X.K kd F B G H vs os fp->Y5 X.K kd F B G H ws es fq->(fp++fq).Nodup->g os es=some (os',o)->
  (∀v vs' fp' fo,Y5 X.K kd F B G H vs' os' fp'->RoS X.K kd F B G H v o fo->(∀a ∈ fp'++fo,a ∈ fp++fq)->(fp'++fo).Nodup->Q v (upd H l (.lst vs')))->r (.ref l) ws H Q
theorem zuy{i:Nat}{fr:DF}{g:MG}{r:V->List V->Hp->VK->Prop}(hr:MuD X kd r g)
 {σ:St}{H:Hp}{Q:VK}(h:al X.K kd (xY i fr g) σ H Q):tBM X.K "list" r (zhM i) (alD X.K kd fr) σ H Q:=by
 obtain⟨F,B,ad,as,z,as',R,e,q⟩:=h;unfold xY at e;cases k:as[i]? with
 |none=>rw[k]at e;cases e
 |some a0=>
  rw[k]at e
  match a0,e,k with
  |some (.nd .ls os0),e,k=>
   obtain⟨⟨es,as1⟩,h1,e⟩:=bS_ (show(fr as).bind _=_ from e);obtain⟨v0,hs0,ro0⟩:=R.sl i _ k;generalize hfp0:ad i=fp0 at ro0;cases ro0 with
   |ls hH0 rl0=>
   rename_i l vs0 fp00;refine⟨_,hs0,.inl ⟨rfl,_,.inl (.inl hH0)⟩,F,B,ad,as,es,as1,R,h1,λws T1 ad1 H1 R1 ro1 g1=>?_⟩;cases k2:as1[i]? with
   |none=>rw[k2]at e;cases e
   |some a2=>
    rw[k2]at e
    match a2,e,k2 with
    |some (.nd .ls os),e,k2=>
     obtain⟨⟨os',o⟩,h3,e⟩:=bS_ (show(g os es).bind _=_ from e);cases e;obtain⟨v1,hs1,ro2⟩:=R1.sl i _ k2;rw[hs0]at hs1;cases hs1;generalize hfp:ad1 i=fp1 at ro2;cases ro2 with
     |ls hH rl=>
     rename_i vs fp;have hnd:(fp++T1).Nodup:=zyW.mpr ⟨by have:=R1.nd i;rw[hfp]at this;exact(zzR.mp this).2,R1.tnd,λa m b m' e=>by
          subst e;exact R1.dis i a (by rw[hfp];exact zS _ m) m'⟩
     refine hr F B (Gw T1 ad1) _ vs ws os es os' o fp T1 H1 Q hH rl ro1 hnd h3 λv vs' fp' fo rl' ro' hsub hnd'=>?_;obtain⟨R3,g3⟩:=R1.mut (n:=.nd .ls os') (u:=.lst vs') (zzC.mp k2).1 hfp hs0 hsub hnd' (by rw[hH];simp) λH' G' hl' gr kp=>.ls hl' (Y5.grow gr kp rl');have lno:∀a ∈ fo,∀w,H1 a=some w->upd H1 l (.lst vs') a=some w:=λa m w h=>by
          rw[yg (λe=>?_)]
          . exact h
          . subst e
            rcases zzI.mp (hsub _ (zzH _ m))with z|z
            . have:=R1.nd i;rw[hfp]at this;exact(zzR.mp this).1 z
            . exact R1.dis i _ (by rw[hfp];exact zzB) z
     exact q v fo _ _ R3 (RoS.grow g3 lno ro') (g1.trans g3)
end
end PF
end
section
set_option exponentiation.threshold 5000
namespace PF
open PySem PySem.Spec PyProof.Rows L2
section
variable{K:zC}{kd:KD}{O:Addr->Prop}{H:Hp}{Q:VK}
theorem yx{d:D}{v:V}(q:RQ K kd O H Q (.im d))(r:Rp K kd O H v d):Q v H:=q v H (λ_ _ z=>z) r
theorem znX{vs:List V}{ds:List D}{p:Addr}{o:HO}(hp:H p=none)(r:RpL K kd O H vs ds):RpL K kd (Un2 O (· = p)) (upd H p o) vs ds:=
 RpL.grow (F:=O) (W:=λ_=>False) ⟨λb u q _=>by rw[yg (yP q hp)];exact q,λb z=>.inr (by rw[z];exact hp)⟩ (r.less λa z=>z.elim id False.elim)
theorem zaF{p:Addr}{o:HO}(hp:H p=none):∀b u,H b=some u->upd H p o b=some u:=λb u q=>by rw[yg (yP q hp)];exact q
theorem zgk{vs:List V}{ds:List D}(q:RQ K kd O H Q (.fl ds))(r:RpL K kd O H vs ds):∀p,H p=none->Q (.ref p) (upd H p (.lst vs)):=λp hp=>
 q p vs _ hp (zaF hp) yw (znX hp r)
theorem zgt{vs:List V}{ds:List D}(ht:∀a,O a->H a≠none)(q:RQ K kd O H Q (.im (.tup ds)))(r:RpL K kd O H vs ds):∀p,H p=none->Q (.ref p) (upd H p (.tup vs)):=λp hp=>
 q _ _ (zaF hp) (.tup (λz=>ht p z hp) (.inl yw) ((znX hp r).less λa z=>.inl z))
end
def big:Nat:=2 ^ 4000
theorem zle{i:Int}(h:i.natAbs<big):Builtin.Int.intBits i<=2 ^ 20:=by
 unfold Builtin.Int.intBits
 split
 . exact Nat.zero_le _
 . have:i.natAbs.log2<4000:=by
    rcases Nat.eq_zero_or_pos i.natAbs with h0|hp
    . rw[h0];decide
    . exact(Nat.log2_lt (Nat.ne_of_gt hp)).mpr h
   have e:(2:Nat) ^ 20=1048576:=by decide
   omega
def onI(f:Int->Int->Option R0)(x y:D):Option R0:=(asI x).bind λi=>(asI y).bind λj=>f i j
def zxS(x y:D):Option R0:=match x with
 | .int i=>(asI y).bind λj=>some (.im (.int (i+j)))
 | .str x=>(asS y).bind λy=>if x.length+y.length<=sizeLine then some (.im (.str (x++y)))else none
 | .lst xs=>(asL y).bind λys=>if xs.length+ys.length<=sizeLine then some (.fl (xs++ys))else none
 | .tup xs=>(asT y).bind λys=>if xs.length+ys.length<=sizeLine then some (.im (.tup (xs++ys)))else none
 |_=>none
def zxO(x y:D):Option R0:=match x with
 | .int i=>(asI y).bind λj=>if i.natAbs<big/\j.natAbs<big then some (.im (.int (i*j)))else none
 | .lst xs=>(asI y).bind λk=>if -(2 ^ 63)<=k/\k<2 ^ 63/\xs.length*k.toNat<=sizeLine then some (.fl (List.replicate k.toNat xs).flatten)else none
 | .tup xs=>(asI y).bind λk=>if 1<=k/\k<2 ^ 63/\xs.length≠0/\xs.length*k.toNat<=sizeLine then some (.im (.tup (List.replicate k.toNat xs).flatten))else none
 |_=>none
def zr(o:Operator)(x y:D):Option R0:=match o with
 | .Add=>zxS x y
 | .Sub=>onI (λi j=>some (.im (.int (i-j)))) x y
 | .Mult=>zxO x y
 | .FloorDiv=>onI (λi j=>if 0<j/\j.natAbs<big then some (.im (.int (i/j)))else none) x y
 | .Mod=>onI (λi j=>if 0<j then some (.im (.int (i%j)))else none) x y
 | .Pow=>onI (λi j=>if 0<=j/\j<=1000000/\i.natAbs<2 ^ 64 then some (.im (.int (i ^ j.toNat)))else none) x y
 |_=>none
theorem zap{K:zC}{kd:KD}{O:Addr->Prop}{H:Hp}{v:V}{d:D}{i:Int}(h:Vw K kd O H v d)(e:asI d=some i):d = .int i/\v = .int i:=by
 cases h with
 |int j=>cases e;exact⟨rfl,rfl⟩
 |_=>cases e
theorem zvS{K:zC}{kd:KD}{O:Addr->Prop}{H:Hp}{v:V}{d:D}{i:Str}(h:Vw K kd O H v d)(e:asS d=some i):d = .str i/\v = .str i:=by
 cases h with
 |str j=>cases e;exact⟨rfl,rfl⟩
 |_=>cases e
theorem VH{K:zC}{kd:KD}{O:Addr->Prop}{H:Hp}{v w:V}{d e:D}{f:Int->Int->Option R0}{r:R0}(vx:Vw K kd O H v d)(vy:Vw K kd O H w e)(h:onI f d e=some r):∃i j,v = .int i/\w = .int j/\f i j=some r:=by
 obtain⟨i,h1,h⟩:=bS_ (show(asI d).bind _=_ from h);obtain⟨j,h2,h⟩:=bS_ h;exact⟨i,j,(zap vx h1).2,(zap vy h2).2,h⟩
section
variable{X:Cx}{kd:KD}
theorem zsU:OpR X (binaryOp .Add) (λx y H Q=>∃l b xs zs,x = .ref l/\y = .ref b/\RdL X.K H l xs/\RdL X.K H b zs/\xs.length+zs.length<=sizeLine/\∀p,H p=none->Q (.ref p) (upd H p (.lst (xs++zs)))):=by
 intro pins s σ H x y v u Q I rx ry h;obtain⟨l,b,xs,zs,rfl,rfl,hH,hB,hz,q⟩:=h;cases rx;cases ry;obtain⟨z,its,n,r,e⟩:=zmN I hH;obtain⟨z2,its2,n2,r2,e2⟩:=zmN I hB;have hl:=r.length;have hl2:=r2.length;refine PySem.P.add_list e e2 ?_ (by rw[zzD,zzD];omega);have ea:its.toArray++its2.toArray=(its++its2).toArray:=by simp
 rw[ea];exact⟨.ref _,_,I.lnew (t':=s.toks) (r.append r2) (by rw[zzF];omega),rfl,q _ I.fresh⟩
theorem zsH:OpR X (binaryOp .Mult) (λx y H Q=>∃l k xs,x = .ref l/\y = .int k/\RdL X.K H l xs /\ -(2 ^ 63)<=k/\k<2 ^ 63/\xs.length*k.toNat<=sizeLine/\
 ∀p,H p=none->Q (.ref p) (upd H p (.lst (List.replicate k.toNat xs).flatten))):=by
 intro pins s σ H x y v u Q I rx ry h;obtain⟨l,k,xs,rfl,rfl,hH,h1,h2,hz,q⟩:=h;cases rx;obtain⟨t,rfl⟩:=ry;obtain⟨z,its,n,r,e⟩:=zmN I hH;have hl:=r.length;have hlen:its.toArray.size*k.toNat<=sizeLine:=by rw[zzD,<-hl];exact hz
 have hcap:¬its.toArray.size*k.toNat > (2 ^ 63-1)/8:=by
  have:(sizeLine:Nat)<=(2 ^ 63-1)/8:=by decide
  omega
 have hfit:¬(!Builtin.List.listFitsIndex k)=true:=by
  rw[fitsIndex_both h1 h2];exact zyP
 have hlong:¬Builtin.List.listTooLong (its.toArray.size*k.toNat)=true:=by
  rw[zlu hlen];exact zyP
 have hnew:List.foldl (λx1 x2=>x1++x2) #[] (List.replicate (if its.toArray.isEmpty=true then 0 else k.toNat) its.toArray)=(List.replicate k.toNat its).flatten.toArray:=by
  have f0:∀m:Nat,List.foldl (λx1 x2=>x1++x2) #[] (List.replicate m its.toArray)=(List.replicate m its).flatten.toArray:=λm=>by
   have:=foldl_rep its m [];rw[List.nil_append]at this;exact this
  rw[f0];cases its with
  |nil=>simp
  |cons a r'=>rw[if_neg (by simp)]
 refine wpAny_binaryOp_repeat_ref (T:="list") (U:="int") (by decide) ⟨_,e,rfl⟩ (λs'=>typeIs_int s' k t) noFill_list_mul F.fills_int_mul F.slot_int_rmul repeat_list F.slot_int_index.lookup
  (call_meets F.slot_int_rmul (typeIs_int s k t) F.entry_int_rmul (F.args_int_rmul_2 _ _) (int___rmul___int_list k t l its.toArray n)
   ⟨e,rfl,⟨_,e,rfl⟩,call_meets F.slot_list_mul ⟨_,e,rfl⟩ F.entry_list_mul (F.args_list_mul_2 _ _) (AutoListH.list___mul___list_int_3 l its.toArray n k t hfit hcap hlong) ⟨e, ?_⟩⟩)
 rw[hnew];refine⟨.ref _,_,I.lnew (t':=s.toks) (r.rep k.toNat) ?_,rfl,q _ I.fresh⟩;rw[len_rep,Nat.mul_comm];exact hz
theorem tuple_addW0(l b:Addr)(items items2:Array Value)(n n2:Nat)(dd dd2:Option Addr)(sl sl2:Array (Option Value))(h0:items.isEmpty=true):
 Meets (Builtin.«tuple.__add__» {pos:=[.ref l,.ref b]}) (λ_ R s=>s.heap.get? l=some {cls:=.type "tuple",dict:=dd,data:=.seq items n,slots:=sl}/\s.heap.get? b=some {cls:=.type "tuple",dict:=dd2,data:=.seq items2 n2,slots:=sl2}/\R (.ok (.ret (.ref b))) s):=
 .of_wp λprog w A R s h=>by
  obtain⟨hp,g,d,tk,os⟩:=s;obtain⟨hl,hb,h⟩:=h;have f2:=AutoSeq1.sub_tuple_tuple
  wp_walk using wpAny_loadPart' hl,wpAny_loadPart' hb
  exact⟨_,rfl,h⟩
theorem zlP(l:Addr)(items:Array Value)(n:Nat)(dd:Option Addr)(sl:Array (Option Value))(u:Tok):
 Meets (Builtin.«tuple.__mul__» {pos:=[.ref l,.int 1 u]}) (λ_ R s=>s.heap.get? l=some {cls:=.type "tuple",dict:=dd,data:=.seq items n,slots:=sl}/\R (.ok (.ret (.ref l))) s):=
 .of_wp λprog w A R s h=>by
  obtain⟨hp,g,d,tk,os⟩:=s;obtain⟨hl,h⟩:=h;have f2:=AutoSeq1.sub_tuple_tuple
  wp_walk using wpAny_loadPart' hl
  exact⟨_,rfl,h⟩
theorem zlJ(l:Addr)(items its2:Array Value)(n:Nat)(dd:Option Addr)(sl:Array (Option Value))(x:Int)(u:Tok)(c1:¬(decide (x < -2 ^ 63)||decide (x ≥ 2 ^ 63))=true)(c2:¬(items.isEmpty||x==1)=true)(c3:¬(decide (x<=0)||items.isEmpty)=true)
 (hcap:¬(items.size:Int)*x > (2 ^ 63-1)/8) (ht:¬Builtin.Tuple.tupleTooMany (items.size*x)=true) (hz:¬(List.foldl (λx1 x2=>x1++x2) #[] (List.replicate x.toNat items)).size > sizeLine):
 Meets (Builtin.«tuple.__mul__» {pos:=[.ref l,.int x u]}) (λ_ R s=>s.heap.get? l=some {cls:=.type "tuple",dict:=dd,data:=.seq items n,slots:=sl}/\R (.ok (.ret (.ref s.heap.objs.size))) {s with heap:=s.heap.push {cls:=.type "tuple",data:=.seq (List.foldl (λx1 x2=>x1++x2) #[] (List.replicate x.toNat items))}}):=
 .of_wp λprog w A R s h=>by
  obtain⟨hp,g,d,tk,os⟩:=s;obtain⟨hl,h⟩:=h;have f2:=AutoSeq1.sub_tuple_tuple
  wp_walk using wpAny_loadPart' hl
  rw[if_neg c1]
  wp_walk using wpAny_loadPart' hl
  rw[if_neg hcap]
  wp_walk
  exact⟨_,rfl,h⟩
theorem zdW:fillsNumberSlot (Value.type "tuple") "mul"=pure false:=PySem.fillsNumberSlot_seq rfl rfl rfl rfl
theorem zkb:seqRepeat? (Value.type "tuple")=pure (some (Value.builtin "tuple.__mul__")):=W.of_pureOf rfl
theorem zge(a:Int)(t:Tok)(l:Addr)(items:Array Value)(n:Nat)(dd:Option Addr)(sl:Array (Option Value)):
 Meets (Builtin.«int.__rmul__» {pos:=[.int a t,.ref l]}) (λ_ R s=>s.heap.get? l=some {cls:=.type "tuple",dict:=dd,data:=.seq items n,slots:=sl}/\R (.ok (.ret .notImplemented)) s):=
 .of_wp λprog w A R s h=>by
  obtain⟨hp,g,d,tk,os⟩:=s;obtain⟨hl,h⟩:=h
  wp_walk using wpAny_load' hl,wpAny_loadPart' hl
  exact⟨_,rfl,h⟩
theorem ztP:OpR X (binaryOp .Add) (λx y H Q=>∃a b ys,x = .ref a/\y = .ref b/\SqT X.K H a []/\SqT X.K H b ys/\Q (.ref b) H):=by
 intro pins s σ H x y v u Q I rx ry h;obtain⟨a,b,ys,rfl,rfl,ha,hb,q⟩:=h;cases rx;cases ry;obtain⟨its,r1,p1,_⟩:=I.tuple ha;obtain⟨its2,r2,p2,_⟩:=I.tuple hb;cases r1;obtain⟨⟨cls,dd,data,sl⟩,ho,hc,n,hd⟩:=id p1;obtain⟨⟨cls2,dd2,data2,sl2⟩,ho2,hc2,n2,hd2⟩:=id p2;simp only at hc hd hc2 hd2;subst hc hd hc2 hd2;exact concat_meets ⟨_,ho,rfl⟩ ⟨_,ho2,rfl⟩ noFill_tuple_add seq_tuple_add PySem.F.slot_tuple_add PySem.F.entry_tuple_add (PySem.F.args_tuple_add_2 _ _) (tuple_addW0 a b _ _ n n2 dd dd2 sl sl2 rfl) ⟨ho,ho2,⟨.ref b,H,I,rfl,q⟩⟩
theorem zsi:OpR X (binaryOp .Mult) (λx y H Q=>∃l k xs,x = .ref l/\y = .int k/\SqT X.K H l xs/\xs≠[]/\1<=k/\k<2 ^ 63/\xs.length*k.toNat<=sizeLine/\(k=1->Q (.ref l) H)/\
 (2<=k->∀p,H p=none->Q (.ref p) (upd H p (.tup (List.replicate k.toNat xs).flatten)))):=by
 intro pins s σ H x y v u Q I rx ry h;obtain⟨l,k,xs,rfl,rfl,hH,hne,h1,h2,hz,q1,q2⟩:=h;cases rx;obtain⟨t,rfl⟩:=ry;obtain⟨its,r,p,_⟩:=I.tuple hH;have hl:=r.length;have hlen:its.toArray.size*k.toNat<=sizeLine:=by rw[zzD,<-hl];exact hz
 have hki:((its.toArray.size:Int)*k)=((its.toArray.size*k.toNat:Nat):Int):=by
  rw[Int.natCast_mul,Int.toNat_of_nonneg (by omega)]
 have he:its.toArray.isEmpty=false:=by
  cases its with
  |nil=>rw[List.length_nil]at hl;exact absurd (List.length_eq_zero_iff.mp hl) hne
  |cons a r'=>rfl
 have hnew:List.foldl (λx1 x2=>x1++x2) #[] (List.replicate k.toNat its.toArray)=(List.replicate k.toNat its).flatten.toArray:=by
  have:=foldl_rep its k.toNat [];rw[List.nil_append]at this;exact this
 obtain⟨⟨cls,dd,data,sl⟩,ho,hc,n,hd⟩:=id p;simp only at hc hd;subst hc hd;refine wpAny_binaryOp_repeat_ref (T:="tuple") (U:="int") (by decide) ⟨_,ho,rfl⟩ (λs'=>typeIs_int s' k t) zdW F.fills_int_mul F.slot_int_rmul zkb F.slot_int_index.lookup
  (call_meets F.slot_int_rmul (typeIs_int s k t) F.entry_int_rmul (F.args_int_rmul_2 _ _) (zge k t l its.toArray n dd sl) ⟨ho,rfl,⟨_,ho,rfl⟩, ?_⟩)
 by_cases hk:k=1
 . subst hk;exact call_meets F.slot_tuple_mul ⟨_,ho,rfl⟩ F.entry_tuple_mul (F.args_tuple_mul_2 _ _) (zlP l its.toArray n dd sl t) ⟨ho,⟨.ref l,H,I,rfl,q1 rfl⟩⟩
 . have hfl:(List.replicate k.toNat xs).flatten.length<=sizeLine:=by rw[len_rep,Nat.mul_comm];exact hz
   refine call_meets F.slot_tuple_mul ⟨_,ho,rfl⟩ F.entry_tuple_mul (F.args_tuple_mul_2 _ _) (zlJ l its.toArray #[] n dd sl k t (by simp;omega) (by rw[he];simpa using hk) (by rw[he];simp;omega) ?_ ?_ ?_) ⟨ho, ?_⟩
   . rw[hki];have:((sizeLine:Nat):Int)<=(2 ^ 63-1)/8:=by decide
     omega
   . unfold Builtin.Tuple.tupleTooMany;rw[hki];simp only[gt_iff_lt,decide_eq_true_eq];omega
   . rw[hnew,zzD,len_rep,Nat.mul_comm];rw[zzD]at hlen;omega
   . rw[hnew];refine⟨.ref s.heap.objs.size,_,I.laid (t':=s.toks) (o:=.tup (List.replicate k.toNat xs).flatten) (λb ob q=>zyZ _ q) (zzJ _) ?_,rfl,q2 (by omega) _ (I.hok.fresh (zzJ _))⟩;exact⟨hfl,_,r.rep k.toNat,IsTup.new _ _⟩
theorem zp(op:Operator):OpD X kd (binaryOp op) (zr op):=by
 intro pins s σ H x y v u Q I rx ry h;obtain⟨O,d,e,r,ht,vx,vy,he,q⟩:=h;cases op with
 |Add=>
  cases vx with
  |int i=>
   obtain⟨j,h1,he⟩:=bS_ (show(asI e).bind _=_ from he);obtain⟨rfl,rfl⟩:=zap vy h1;cases he;exact zuM pins s σ H _ _ v u Q I rx ry ⟨_,_,rfl,rfl,yx q (.int _)⟩
  |str i=>
   obtain⟨j,h1,he⟩:=bS_ (show(asS e).bind _=_ from he);obtain⟨rfl,rfl⟩:=zvS vy h1;obtain⟨c,rfl⟩:=zZ he;exact znl pins s σ H _ _ v u Q I rx ry ⟨_,_,rfl,rfl,c,yx q (.str _)⟩
  |lst hx rx'=>
   obtain⟨j,h1,he⟩:=bS_ (show(asL e).bind _=_ from he);cases zqH h1;obtain⟨c,rfl⟩:=zZ he;cases vy with
   |lst hy ry'=>exact zsU pins s σ H _ _ v u Q I rx ry ⟨_,_,_,_,rfl,rfl,hx,hy,by rw[rx'.length,ry'.length];exact c,zgk q (rx'.append ry')⟩
  | @tup a1 vs1 ds1 r1 hx rx'=>
   obtain⟨j,h1,he⟩:=bS_ (show(asT e).bind _=_ from he);cases zuQ h1;obtain⟨c,rfl⟩:=zZ he;cases vy with
   |tup r2 hy ry'=>
    by_cases h0:vs1=([]:List V)
    . subst h0;cases rx';exact ztP pins s σ H _ _ v u Q I rx ry ⟨_,_,_,rfl,rfl,hx,hy,yx q r2⟩
    refine zsI pins s σ H _ _ v u Q I rx ry ⟨_,_,_,_,rfl,rfl,hx,hy,h0,by rw[rx'.length,ry'.length];exact c,λhn=>?_,λhn=>zgt ht q (rx'.append ry')⟩
    . subst hn;cases ry';rw[zzY]at q;exact yx q r1
  |_=>cases he
 |Sub=>
  obtain⟨i,j,rfl,rfl,he⟩:=VH vx vy he;cases he;exact zvw pins s σ H _ _ v u Q I rx ry ⟨_,_,rfl,rfl,yx q (.int _)⟩
 |Mult=>
  cases vx with
  |int i=>
   obtain⟨j,h1,he⟩:=bS_ (show(asI e).bind _=_ from he);obtain⟨rfl,rfl⟩:=zap vy h1;obtain⟨c,rfl⟩:=zZ he;obtain⟨t,rfl⟩:=rx;obtain⟨t',rfl⟩:=ry;exact mul_int ⟨.int _,H,I.tok _,⟨_,rfl⟩,yx q (.int _)⟩ (IntMulOk.of_bits (zle c.1) (zle c.2))
  |lst hx rx'=>
   obtain⟨j,h1,he⟩:=bS_ (show(asI e).bind _=_ from he);obtain⟨rfl,rfl⟩:=zap vy h1;obtain⟨c,rfl⟩:=zZ he;exact zsH pins s σ H _ _ v u Q I rx ry ⟨_,_,_,rfl,rfl,hx,c.1,c.2.1,by rw[rx'.length];exact c.2.2,zgk q (rx'.rep _)⟩
  |tup r1 hx rx'=>
   obtain⟨j,h1,he⟩:=bS_ (show(asI e).bind _=_ from he);obtain⟨rfl,rfl⟩:=zap vy h1;obtain⟨c,rfl⟩:=zZ he;refine zsi pins s σ H _ _ v u Q I rx ry ⟨_,_,_,rfl,rfl,hx,λe=>?_,c.1,c.2.1,by rw[rx'.length];exact c.2.2.2,λe=>?_,λ_=>zgt ht q (rx'.rep _)⟩
   . have:=rx'.length;rw[e]at this;exact c.2.2.1 this.symm
   . subst e;refine yx q ?_;rw[show(1:Int).toNat=1 from rfl,List.replicate_one,List.flatten_cons,List.flatten_nil,zzY];exact r1
  |_=>cases he
 |FloorDiv=>
  obtain⟨i,j,rfl,rfl,he⟩:=VH vx vy he;obtain⟨c,rfl⟩:=zZ he;obtain⟨t,rfl⟩:=rx;obtain⟨t',rfl⟩:=ry;refine floordiv_int (by omega) ?_ (.inl (PyProof.noPylong_of_log2 ?_))
  . rw[Int.fdiv_eq_ediv_of_nonneg _ (by omega)];exact⟨.int _,H,I.tok _,⟨_,rfl⟩,yx q (.int _)⟩
  . exact zzG ((Nat.log2_lt (by have:=c.1;omega)).mpr (show _<2 ^ 4000 from c.2)) (by decide)
 |Mod=>
  obtain⟨i,j,rfl,rfl,he⟩:=VH vx vy he;obtain⟨c,rfl⟩:=zZ he;exact zwp pins s σ H _ _ v u Q I rx ry ⟨_,_,rfl,rfl,c,yx q (.int _)⟩
 |Pow=>
  obtain⟨i,j,rfl,rfl,he⟩:=VH vx vy he;obtain⟨c,rfl⟩:=zZ he;exact zuT pins s σ H _ _ v u Q I rx ry ⟨_,_,rfl,rfl,c,yx q (.int _)⟩
 |_=>cases he
end
def eqL(f:D->D->Option Bool):List D->List D->Option Bool
 | [],[]=>some true
 |x::r,y::t=>(f x y).bind λb=>(eqL f r t).bind λc=>some (b&&c)
 |_,_=>some false
def eqF:Nat->D->D->Option Bool
 |0,_,_=>none
 |_+1,.non,.non=>some true
 |_+1,.bl a,.bl b=>some (a==b)
 |_+1,.int a,.int b=>some (a==b)
 |_+1,.str a,.str b=>some (a==b)
 |_+1,.bl a,.int b=>some ((if a then 1 else 0)==b)
 |_+1,.int a,.bl b=>some (a==(if b then 1 else 0))
 |n+1,.lst xs,.lst ys=>eqL (eqF n) xs ys
 |n+1,.tup xs,.tup ys=>eqL (eqF n) xs ys
 |_+1,.dct _,_=>none
 |_+1,.cl _,_=>none
 |_+1,.ob _ _ _,_=>none
 |_+1,_,.dct _=>none
 |_+1,_,.cl _=>none
 |_+1,_,.ob _ _ _=>none
 |_+1,_,_=>some false
def eqJ(f:D->D->Option Bool)(xs ys:List D)(j:Nat):Bool:=match xs[j]?,ys[j]? with
 |some d,some e=>(f d e).getD false
 |_,_=>false
theorem zgA{f:D->D->Option Bool}:∀{xs ys:List D}{b:Bool},eqL f xs ys=some b->(∀(j:Nat) d e,xs[j]? = some d->ys[j]? = some e->∃c,f d e=some c)/\
 b=((List.range (min xs.length ys.length)).all (eqJ f xs ys)&&xs.length==ys.length)
 | [],[],b,h=>by cases h;exact⟨λj d e h=>by simp at h,by simp⟩
 | [],y::t,b,h=>by cases h;exact⟨λj d e h=>by simp at h,by simp⟩
 |x::r,[],b,h=>by cases h;exact⟨λj d e _ h=>by simp at h,by simp⟩
 |x::r,y::t,b,h=>by
  obtain⟨b1,h1,h⟩:=bS_ (show(f x y).bind _=_ from h);obtain⟨c1,h2,h⟩:=bS_ h;cases h;obtain⟨k1,k2⟩:=zgA h2;refine⟨λj d e hd he=>?_, ?_⟩
  . cases j with
    |zero=>simp at hd he;subst hd he;exact⟨b1,h1⟩
    |succ j=>exact k1 j d e (by simpa using hd) (by simpa using he)
  . have e0:min (x::r).length (y::t).length=min r.length t.length+1:=by simp only[zzP];omega
    rw[e0,List.range_succ_eq_map,List.all_cons,List.all_map,k2];have e1:eqJ f (x::r) (y::t) 0=b1:=by show(f x y).getD false=b1;rw[h1];rfl
    have e2:(eqJ f (x::r) (y::t)∘Nat.succ)=eqJ f r t:=by
     funext j;show eqJ f (x::r) (y::t) (j+1)=_;unfold eqJ;simp
    have e3:((x::r).length==(y::t).length)=(r.length==t.length):=by
     by_cases hh:r.length=t.length<;>simp[hh]
    rw[e1,e2,e3,Bool.and_assoc]
structure EqAll(A:Around)(s:Shared)(u v:Value)(b:Bool):Prop where
 rc:SeqAt.RcAt A s u v b
 ne:SeqAt.RcNeAt A s u v (!b)
 eq:SeqAt.EqAt A s u v b
section
variable{X:Cx}{kd:KD}{pins:List (Addr×Obj)}{σ:St}{H:Hp}{s:Shared}{O:Addr->Prop}
theorem znH(I:Inv X pins σ H s){a:Addr}{xs ys:List V}(h:SqT X.K H a xs)(h':SqL X.K H a ys):False:=by
 obtain⟨_,_,⟨o,e,c,_⟩,_⟩:=I.tuple h;obtain⟨_,_,⟨o',n,e',c',_⟩,_⟩:=I.list h';rw[e]at e';cases e';rw[c]at c';exact absurd c' (by decide)
theorem zod(I:Inv X pins σ H s):∀(n:Nat) (v:V) (d e:D) (b:Bool),Vw X.K kd O H v d->Vw X.K kd O H v e->eqF n d e=some b->b=true
 |0,_,_,_,_,_,_,h=>by cases h
 |n+1,v,d,e,b,h1,h2,h=>by
  have lst:∀(vs:List V) (ds es:List D) (b:Bool),RpL X.K kd O H vs ds->RpL X.K kd O H vs es->eqL (eqF n) ds es=some b->b=true:=by
   intro vs
   induction vs with
   |nil=>intro ds es b r1 r2 h;cases r1;cases r2;cases h;rfl
   |cons v vs ih=>
    intro ds es b r1 r2 h;cases r1 with
    |cons a1 r1=>
     cases r2 with
     |cons a2 r2=>
      obtain⟨b1,k1,h⟩:=bS_ (show(eqF n _ _).bind _=_ from h);obtain⟨c1,k2,h⟩:=bS_ h;cases h;rw[zod I n _ _ _ _ a1.vw a2.vw k1,ih _ _ _ r1 r2 k2];rfl
  cases h1 with
  |non=>cases h2;cases h;rfl
  |bl x=>cases h2;cases h;simp
  |int x=>cases h2;cases h;simp
  |str x=>cases h2;cases h;simp
  |tup r1 s1 l1=>
   cases h2 with
   |tup r2 s2 l2=>
    have:=I.tuple_inj s1 s2;subst this;exact lst _ _ _ _ l1 l2 h
   |lst s2 l2=>exact(znH I s1 s2.sq).elim
   |_=>cases h
  |lst s1 l1=>
   cases h2 with
   |tup r2 s2 l2=>exact(znH I s2 s1.sq).elim
   |lst s2 l2=>
    have:=I.list_inj s1.sq s2.sq;subst this;exact lst _ _ _ _ l1 l2 h
   |_=>cases h
  |_=>cases h
theorem zkA(I:Inv X pins σ H s):∀(n:Nat) (A:Around) (x y:V) (d e:D) (u v:Value) (b:Bool),A.units+n<cLine->Vw X.K kd O H x d->Vw X.K kd O H y e->RelV x u->RelV y v->eqF n d e=some b->EqAll A s u v b
 |0,_,_,_,_,_,_,_,_,_,_,_,_,_,h=>by cases h
 |n+1,A,x,y,d,e,u,v,b,hu,h1,h2,r1,r2,h=>by
  have hu0:A.units<cLine:=by omega
  have itm:∀{vs ws:List V}{its its2:List Value}{ds es:List D},RpL X.K kd O H vs ds->RpL X.K kd O H ws es->Vals vs its->Vals ws its2->(∀(j:Nat) d e,ds[j]? = some d->es[j]? = some e->∃c,eqF n d e=some c)->
   ∀j (h1:j<its.toArray.size) (h2:j<its2.toArray.size),SeqAt.EqAt A.in1 s its.toArray[j] its2.toArray[j] (eqJ (eqF n) ds es j):=by
   intro vs ws its its2 ds es l1 l2 v1 v2 hd j j1 j2;have q1:j<ds.length:=by rw[<-l1.length,v1.length];simpa using j1
   have q2:j<es.length:=by rw[<-l2.length,v2.length];simpa using j2
   obtain⟨a1,ha1,ra1⟩:=l1.get (zzA q1);obtain⟨a2,ha2,ra2⟩:=l2.get (zzA q2);obtain⟨u1,hu1,ru1⟩:=v1.get ha1;obtain⟨u2,hu2,ru2⟩:=v2.get ha2;obtain⟨c,hc⟩:=hd j _ _ (zzA q1) (zzA q2);have e1:its.toArray[j]=u1:=by
    have:=(zzC.mp hu1).2;simpa using this
   have e2:its2.toArray[j]=u2:=by
    have:=(zzC.mp hu2).2;simpa using this
   rw[e1,e2];have e3:eqJ (eqF n) ds es j=c:=by
    unfold eqJ;rw[zzA q1,zzA q2];show(eqF n _ _).getD false=c;rw[hc];rfl
   rw[e3];exact(zkA I n A.in1 a1 a2 _ _ u1 u2 c (by show A.units+1+n<cLine;omega) ra1.vw ra2.vw ru1 ru2 hc).eq
  have same:∀{a a':Addr},x = .ref a->y = .ref a'->a=a'->b=true:=by
   intro a a' e1 e2 e3;subst e1 e2 e3;exact zod I (n+1) _ _ _ _ h1 h2 h
  cases h1 with
  |non=>
   cases r1;cases h2 with
   |non=>cases r2;cases h;exact⟨SeqAt.RcAt.none_none,SeqAt.RcNeAt.none_none,SeqAt.EqAt.same _⟩
   |bl=>cases r2;cases h;exact⟨SeqAt.RcAt.none_bool _,SeqAt.RcNeAt.none_bool _,SeqAt.EqAt.none_bool _⟩
   |int=>obtain⟨t,rfl⟩:=r2;cases h;exact⟨SeqAt.RcAt.none_int _ _,SeqAt.RcNeAt.none_int _ _,SeqAt.EqAt.none_int _ _⟩
   |str=>obtain⟨t,rfl⟩:=r2;cases h;exact⟨SeqAt.RcAt.none_str _ _,SeqAt.RcNeAt.none_str _ _,SeqAt.EqAt.none_str _ _⟩
   |tup r s2 l2=>
    cases r2;cases h;obtain⟨its,rv,p,_⟩:=I.tuple s2;exact⟨SeqAt.RcAt.none_tuple p hu0,SeqAt.RcNeAt.none_tuple p hu0,SeqAt.EqAt.none_tuple p hu0⟩
   |lst s2 l2=>
    cases r2;cases h;obtain⟨its,rv,p,_⟩:=I.list s2.sq;exact⟨SeqAt.RcAt.none_list p.isList hu0,SeqAt.RcNeAt.none_list p.isList hu0,SeqAt.EqAt.none_list p.isList hu0⟩
   |_=>cases h
  |bl c=>
   cases r1;cases h2 with
   |non=>cases r2;cases h;exact⟨SeqAt.RcAt.bool_none _,SeqAt.RcNeAt.bool_none _,SeqAt.EqAt.bool_none _⟩
   |bl=>cases r2;cases h;exact⟨SeqAt.RcAt.bool_bool _ _,SeqAt.RcNeAt.bool_bool _ _,SeqAt.EqAt.bool_bool _ _⟩
   |int=>obtain⟨t,rfl⟩:=r2;cases h;exact⟨SeqAt.RcAt.bool_int _ _ _,SeqAt.RcNeAt.bool_int _ _ _,SeqAt.EqAt.bool_int _ _ _⟩
   |str=>obtain⟨t,rfl⟩:=r2;cases h;exact⟨SeqAt.RcAt.bool_str _ _ _,SeqAt.RcNeAt.bool_str _ _ _,SeqAt.EqAt.bool_str _ _ _⟩
   |tup r s2 l2=>
    cases r2;cases h;obtain⟨its,rv,p,_⟩:=I.tuple s2;exact⟨SeqAt.RcAt.bool_tuple _ p hu0,SeqAt.RcNeAt.bool_tuple _ p hu0,SeqAt.EqAt.bool_tuple _ p hu0⟩
   |lst s2 l2=>
    cases r2;cases h;obtain⟨its,rv,p,_⟩:=I.list s2.sq;exact⟨SeqAt.RcAt.bool_list _ p.isList hu0,SeqAt.RcNeAt.bool_list _ p.isList hu0,SeqAt.EqAt.bool_list _ p.isList hu0⟩
   |_=>cases h
  |int c=>
   obtain⟨t0,rfl⟩:=r1;cases h2 with
   |non=>cases r2;cases h;exact⟨SeqAt.RcAt.int_none _ _,SeqAt.RcNeAt.int_none _ _,SeqAt.EqAt.int_none _ _⟩
   |bl=>cases r2;cases h;exact⟨SeqAt.RcAt.int_bool _ _ _,SeqAt.RcNeAt.int_bool _ _ _,SeqAt.EqAt.int_bool _ _ _⟩
   |int=>obtain⟨t,rfl⟩:=r2;cases h;exact⟨SeqAt.RcAt.int_int _ _ _ _,SeqAt.RcNeAt.int_int _ _ _ _,SeqAt.EqAt.int_int _ _ _ _⟩
   |str=>obtain⟨t,rfl⟩:=r2;cases h;exact⟨SeqAt.RcAt.int_str _ _ _ _,SeqAt.RcNeAt.int_str _ _ _ _,SeqAt.EqAt.int_str _ _ _ _⟩
   |tup r s2 l2=>
    cases r2;cases h;obtain⟨its,rv,p,_⟩:=I.tuple s2;exact⟨SeqAt.RcAt.int_tuple _ _ p hu0,SeqAt.RcNeAt.int_tuple _ _ p hu0,SeqAt.EqAt.int_tuple _ _ p hu0⟩
   |lst s2 l2=>
    cases r2;cases h;obtain⟨its,rv,p,_⟩:=I.list s2.sq;exact⟨SeqAt.RcAt.int_list _ _ p.isList hu0,SeqAt.RcNeAt.int_list _ _ p.isList hu0,SeqAt.EqAt.int_list _ _ p.isList hu0⟩
   |_=>cases h
  |str c=>
   obtain⟨t0,rfl⟩:=r1;cases h2 with
   |non=>cases r2;cases h;exact⟨SeqAt.RcAt.str_none _ _,SeqAt.RcNeAt.str_none _ _,SeqAt.EqAt.str_none _ _⟩
   |bl=>cases r2;cases h;exact⟨SeqAt.RcAt.str_bool _ _ _,SeqAt.RcNeAt.str_bool _ _ _,SeqAt.EqAt.str_bool _ _ _⟩
   |int=>obtain⟨t,rfl⟩:=r2;cases h;exact⟨SeqAt.RcAt.str_int _ _ _ _,SeqAt.RcNeAt.str_int _ _ _ _,SeqAt.EqAt.str_int _ _ _ _⟩
   |str=>obtain⟨t,rfl⟩:=r2;cases h;exact⟨SeqAt.RcAt.str_str _ _ _ _,SeqAt.RcNeAt.str_str _ _ _ _,SeqAt.EqAt.str_str _ _ _ _⟩
   |tup r s2 l2=>
    cases r2;cases h;obtain⟨its,rv,p,_⟩:=I.tuple s2;exact⟨SeqAt.RcAt.str_tuple _ _ p hu0,SeqAt.RcNeAt.str_tuple _ _ p hu0,SeqAt.EqAt.str_tuple _ _ p hu0⟩
   |lst s2 l2=>
    cases r2;cases h;obtain⟨its,rv,p,_⟩:=I.list s2.sq;exact⟨SeqAt.RcAt.str_list _ _ p.isList hu0,SeqAt.RcNeAt.str_list _ _ p.isList hu0,SeqAt.EqAt.str_list _ _ p.isList hu0⟩
   |_=>cases h
  | @tup a1 vs1 ds1 r s1 l1=>
   cases r1;obtain⟨its1,rv1,p1,_⟩:=I.tuple s1;cases h2 with
   |non=>cases r2;cases h;exact⟨SeqAt.RcAt.tuple_none p1 hu0,SeqAt.RcNeAt.tuple_none p1 hu0,SeqAt.EqAt.tuple_none p1 hu0⟩
   |bl=>cases r2;cases h;exact⟨SeqAt.RcAt.tuple_bool _ p1 hu0,SeqAt.RcNeAt.tuple_bool _ p1 hu0,SeqAt.EqAt.tuple_bool _ p1 hu0⟩
   |int=>obtain⟨t,rfl⟩:=r2;cases h;exact⟨SeqAt.RcAt.tuple_int _ _ p1 hu0,SeqAt.RcNeAt.tuple_int _ _ p1 hu0,SeqAt.EqAt.tuple_int _ _ p1 hu0⟩
   |str=>obtain⟨t,rfl⟩:=r2;cases h;exact⟨SeqAt.RcAt.tuple_str _ _ p1 hu0,SeqAt.RcNeAt.tuple_str _ _ p1 hu0,SeqAt.EqAt.tuple_str _ _ p1 hu0⟩
   | @tup a2 vs2 ds2 r' s2 l2=>
    cases r2;obtain⟨its2,rv2,p2,_⟩:=I.tuple s2;obtain⟨k1,k2⟩:=zgA h;have he:=itm l1 l2 rv1 rv2 k1;have eb:((List.range (min its1.toArray.size its2.toArray.size)).all (eqJ (eqF n) ds1 ds2)&&its1.toArray.size==its2.toArray.size)=b:=by
     rw[k2,zzD,zzD,<-rv1.length,<-rv2.length,l1.length,l2.length]
    have b1:=SeqAt.RcAt.tuples p1 p2 hu0 he;have b2:=SeqAt.RcNeAt.tuples p1 p2 hu0 he;rw[eb]at b1 b2;refine⟨b1,b2, ?_⟩
    by_cases ha:a1=a2
    . have hb:=same rfl rfl ha;subst ha;rw[hb];exact SeqAt.EqAt.same _
    . exact SeqAt.EqAt.of_refs ha b1
   |lst s2 l2=>
    cases r2;cases h;obtain⟨its,rv,p,_⟩:=I.list s2.sq;exact⟨SeqAt.RcAt.tuple_list p1 p.isList hu0,SeqAt.RcNeAt.tuple_list p1 p.isList hu0,SeqAt.EqAt.tuple_list p1 p.isList hu0⟩
   |_=>cases h
  | @lst a1 vs1 ds1 s1 l1=>
   cases r1;obtain⟨its1,rv1,p1,_⟩:=I.list s1.sq;cases h2 with
   |non=>cases r2;cases h;exact⟨SeqAt.RcAt.list_none p1.isList hu0,SeqAt.RcNeAt.list_none p1.isList hu0,SeqAt.EqAt.list_none p1.isList hu0⟩
   |bl=>cases r2;cases h;exact⟨SeqAt.RcAt.list_bool _ p1.isList hu0,SeqAt.RcNeAt.list_bool _ p1.isList hu0,SeqAt.EqAt.list_bool _ p1.isList hu0⟩
   |int=>obtain⟨t,rfl⟩:=r2;cases h;exact⟨SeqAt.RcAt.list_int _ _ p1.isList hu0,SeqAt.RcNeAt.list_int _ _ p1.isList hu0,SeqAt.EqAt.list_int _ _ p1.isList hu0⟩
   |str=>obtain⟨t,rfl⟩:=r2;cases h;exact⟨SeqAt.RcAt.list_str _ _ p1.isList hu0,SeqAt.RcNeAt.list_str _ _ p1.isList hu0,SeqAt.EqAt.list_str _ _ p1.isList hu0⟩
   |tup r' s2 l2=>
    cases r2;cases h;obtain⟨its2,rv2,p2,_⟩:=I.tuple s2;exact⟨SeqAt.RcAt.list_tuple p1.isList p2 hu0,SeqAt.RcNeAt.list_tuple p1.isList p2 hu0,SeqAt.EqAt.list_tuple p1.isList p2 hu0⟩
   | @lst a2 vs2 ds2 s2 l2=>
    cases r2;obtain⟨its2,rv2,p2,_⟩:=I.list s2.sq;obtain⟨k1,k2⟩:=zgA h;have he:=itm l1 l2 rv1 rv2 k1;have ez1:its1.toArray.size=_:=zzD.trans (rv1.length.symm.trans l1.length);have ez2:its2.toArray.size=_:=zzD.trans (rv2.length.symm.trans l2.length);have both:SeqAt.RcAt A s (.ref a1) (.ref a2) b/\SeqAt.RcNeAt A s (.ref a1) (.ref a2) (!b):=by
     by_cases hz:its1.toArray.size=its2.toArray.size
     . have b1:=SeqAt.RcAt.lists p1.isList p2.isList hz hu0 he;have b2:=SeqAt.RcNeAt.lists p1.isList p2.isList hz hu0 he;have eb:(List.range its1.toArray.size).all (eqJ (eqF n) ds1 ds2)=b:=by
        rw[k2,<-ez1,<-ez2,<-hz,Nat.min_self];simp
       rw[eb]at b1 b2;exact⟨b1,b2⟩
     . have hz':(its1.toArray.size != its2.toArray.size)=true:=by simpa using hz
       have eb:b=false:=by
        rw[k2,<-ez1,<-ez2];have:(its1.toArray.size==its2.toArray.size)=false:=by simpa using hz
        rw[this,Bool.and_false]
       rw[eb];exact⟨SeqAt.RcAt.lists_lengths p1.isList p2.isList hz' hu0,SeqAt.RcNeAt.lists_lengths p1.isList p2.isList hz' hu0⟩
    refine⟨both.1,both.2, ?_⟩
    by_cases ha:a1=a2
    . have hb:=same rfl rfl ha;subst ha;rw[hb];exact SeqAt.EqAt.same _
    . exact SeqAt.EqAt.of_refs ha both.1
   |_=>cases h
  |_=>cases h
end
structure DkAt(P:Program)(w:World)(h:Heap)(a:Addr)(kvs:List (Key×V)):Prop where
 le:kvs.length<=sizeLine
 ns:(a==sysModules)=false
 ex:∃vs,KV kvs vs/\h.DictOf (wM P w) a vs
structure KdOk(X:Cx)(kd:KD):Prop where
 inj:∀a k k',kd a k->kd a k'->k=k'
 inK:∀a k,kd a k->∃o,X.K.lookup a=some o
 at_:∀a k h,kd a k->X.K.In h->DkAt X.prog X.w h a k
section
variable{X:Cx}{kd:KD}{pins:List (Addr×Obj)}{σ:St}{H:Hp}{s:Shared}{O:Addr->Prop}
theorem zfi(I:Inv X pins σ H s)(hk:KdOk X kd){a:Addr}{kvs:List (Key×V)}(h:Rd H a (.dK kvs)\/kd a kvs):DkAt X.prog X.w s.heap a kvs:=by
 rcases h with h|h
 . obtain⟨z,hd,vs,rel,dd⟩:=zub I.hok h;exact⟨z,hd,vs,rel,dd⟩
 . exact hk.at_ _ _ _ h I.kIn
theorem zrR(I:Inv X pins σ H s):∀(n:Nat) (v:V) (d e x:D) (b c:Bool),Vw X.K kd O H v d->Vw X.K kd O H v e->eqF n d x=some b->eqF n e x=some c->b=c
 |0,_,_,_,_,_,_,_,_,h,_=>by cases h
 |n+1,v,d,e,x,b,c,h1,h2,h,h'=>by
  have lst:∀(vs:List V) (ds es xs:List D) (b c:Bool),RpL X.K kd O H vs ds->RpL X.K kd O H vs es->eqL (eqF n) ds xs=some b->eqL (eqF n) es xs=some c->b=c:=by
   intro vs
   induction vs with
   |nil=>intro ds es xs b c r1 r2 h h';cases r1;cases r2;exact zzT (h.symm.trans h')
   |cons v vs ih=>
    intro ds es xs b c r1 r2 h h';cases r1 with
    |cons a1 r1=>
     cases r2 with
     |cons a2 r2=>
      cases xs with
      |nil=>cases h;cases h';rfl
      |cons x xs=>
       obtain⟨b1,k1,h⟩:=bS_ (show(eqF n _ _).bind _=_ from h);obtain⟨c1,k2,h⟩:=bS_ h;obtain⟨b2,k3,h'⟩:=bS_ (show(eqF n _ _).bind _=_ from h');obtain⟨c2,k4,h'⟩:=bS_ h';cases h;cases h';rw[zrR I n _ _ _ _ _ _ a1.vw a2.vw k1 k3,ih _ _ _ _ _ r1 r2 k2 k4]
  cases h1 with
  |tup r1 s1 l1=>
   cases h2 with
   |tup r2 s2 l2=>
    have:=I.tuple_inj s1 s2;subst this;cases x with
    |tup xs=>exact lst _ _ _ _ _ _ l1 l2 h h'
    |_=>exact zzT (h.symm.trans h')
   |lst s2 l2=>exact(znH I s1 s2.sq).elim
   |_=>cases h'
  |lst s1 l1=>
   cases h2 with
   |tup r2 s2 l2=>exact(znH I s2 s1.sq).elim
   |lst s2 l2=>
    have:=I.list_inj s1.sq s2.sq;subst this;cases x with
    |lst xs=>exact lst _ _ _ _ _ _ l1 l2 h h'
    |_=>exact zzT (h.symm.trans h')
   |_=>cases h'
  |dct s1 l1=>cases h
  |cl=>cases h
  |ob=>cases h
  |_=>cases h2;exact zzT (h.symm.trans h')
end
def zfB:D->Option Key
 | .int i=>some (.inl i)
 | .str x=>some (.inr x)
 |_=>none
def zbe(kvs:List (Key×D))(k:Key):Option D:=(kvs.find? λkv=>decide (kv.1=k)).map (·.2)
theorem zdG{K:zC}{kd:KD}{O:Addr->Prop}{H:Hp}(k:Key){vs:List (Key×V)}{ds:List (Key×D)}(h:RpM K kd O H vs ds):(∃v d,zaD vs k=some v/\zbe ds k=some d/\Rp K kd O H v d)\/(zaD vs k=none/\zbe ds k=none):=
 RpM.ind (P:=λvs ds=>(∃v d,zaD vs k=some v/\zbe ds k=some d/\Rp K kd O H v d)\/(zaD vs k=none/\zbe ds k=none)) (.inr ⟨rfl,rfl⟩) (λ{k' v d vs ds} a _ ih=>by
  by_cases e:k'=k
  . left;refine⟨_,_, ?_, ?_,a⟩
    . unfold zaD;simp[e]
    . unfold zbe;simp[e]
  . rcases ih with⟨v,d,h1,h2,h3⟩|⟨h1,h2⟩
    . left;refine⟨v,d, ?_, ?_,h3⟩
      . unfold zaD at h1 ⊢;simpa[e]using h1
      . unfold zbe at h2 ⊢;simpa[e]using h2
    . right;refine⟨?_, ?_⟩
      . unfold zaD at h1 ⊢;simpa[e]using h1
      . unfold zbe at h2 ⊢;simpa[e]using h2) h
def anyF(f:D->Option Bool):List D->Option Bool
 | []=>some false
 |x::r=>(f x).bind λb=>(anyF f r).bind λc=>some (b||c)
def blR(b:Bool):R0:=.im (.bl b)
def inP(x:D):D->Option Bool
 | .lst ys=>anyF (λy=>eqF 50 y x) ys
 | .tup ys=>anyF (λy=>eqF 50 y x) ys
 | .str y=>match x with | .str i=>some (!(Builtin.Str.occurrences y i 0 y.length 1).isEmpty)|_=>none
 | .dct kvs=>(zfB x).bind λk=>some (zbe kvs k).isSome
 |_=>none
def isP:D->D->Option Bool
 |d,.non=>some (match d with | .non=>true|_=>false)
 |d,.bl b=>match d with | .bl c=>some (c==b)|_=>some false
 |_,_=>none
def zmW(f:Int->Int->Bool):D->D->Option R0:=onI λi j=>some (blR (f i j))
def zY(o:CmpOp)(d e:D):Option R0:=match o with
 | .Eq=>(eqF 60 d e).bind λb=>some (blR b)
 | .NotEq=>(eqF 60 d e).bind λb=>some (blR !b)
 | .Lt=>zmW (λi j=>decide (i<j)) d e
 | .LtE=>zmW (λi j=>decide (i<=j)) d e
 | .Gt=>zmW (λi j=>decide (j<i)) d e
 | .GtE=>zmW (λi j=>decide (j<=i)) d e
 | .In=>(inP d e).bind λb=>some (blR b)
 | .NotIn=>(inP d e).bind λb=>some (blR !b)
 | .Is=>(isP d e).bind λb=>some (blR b)
 | .IsNot=>(isP d e).bind λb=>some (blR !b)
theorem zbP{o:Option Bool}{f:Bool->Bool}{r:R0}(h:(o.bind λb=>some (blR (f b)))=some r):∃k,r = .im (.bl k):=by
 obtain⟨b,_,h⟩:=bS_ h;cases h;exact⟨_,rfl⟩
theorem zfH{x y:D}{f:Int->Int->Bool}{r:R0}(h:zmW f x y=some r):∃k,r = .im (.bl k):=by
 obtain⟨i,_,h⟩:=bS_ (show(asI x).bind _=_ from h);obtain⟨j,_,h⟩:=bS_ h;cases h;exact⟨_,rfl⟩
theorem zM(op:CmpOp)(x y:D)(r:R0)(h:zY op x y=some r):∃k,r = .im (.bl k):=by
 cases op with
 |Eq=>exact zbP (f:=id) h
 |NotEq=>exact zbP (f:=not) h
 |Lt=>exact zfH h
 |LtE=>exact zfH h
 |Gt=>exact zfH h
 |GtE=>exact zfH h
 |In=>exact zbP (f:=id) h
 |NotIn=>exact zbP (f:=not) h
 |Is=>exact zbP (f:=id) h
 |IsNot=>exact zbP (f:=not) h
section
variable{X:Cx}{kd:KD}{pins:List (Addr×Obj)}{σ:St}{H:Hp}{s:Shared}{O:Addr->Prop}
noncomputable def eqW(K:zC)(kd:KD)(O:Addr->Prop)(H:Hp)(n:Nat)(x:D)(u:Value):Bool:=@decide (∃v d,RelV v u/\Rp K kd O H v d/\eqF n d x=some true) (Classical.propDecidable _)
theorem zpI(I:Inv X pins σ H s)(hk:KdOk X kd){n:Nat}{x d:D}{v:V}{u:Value}{b:Bool}(r:RelV v u)(p:Rp X.K kd O H v d)(e:eqF n d x=some b):eqW X.K kd O H n x u=b:=by
 unfold eqW;cases b with
 |true=>exact @zyI _ (Classical.propDecidable _) ⟨v,d,r,p,e⟩
 |false=>
  refine @zyA _ (Classical.propDecidable _) λ⟨v',d',r',p',e'⟩=>?_;have:=r.inj r';subst this;exact Bool.noConfusion (zrR I n _ _ _ _ _ _ p.vw p'.vw e e')
theorem zfD(I:Inv X pins σ H s)(hk:KdOk X kd){n:Nat}{x:D}{vs:List V}{us:List Value}{ds:List D}{b:Bool}(hv:Vals vs us)(h:RpL X.K kd O H vs ds)(e:anyF (λy=>eqF n y x) ds=some b):us.any (eqW X.K kd O H n x)=b:=
 RpL.ind (P:=λvs ds=>∀us b,Vals vs us->anyF (λy=>eqF n y x) ds=some b->us.any (eqW X.K kd O H n x)=b) (λus b hv e=>by cases e;cases hv;rfl) (λ{v d vs ds} a _ ih us b hv h=>by
  cases hv with
  |cons r t=>
   obtain⟨b1,h1,h⟩:=bS_ (show(eqF n _ x).bind _=_ from h);obtain⟨c1,h2,h⟩:=bS_ h;cases h;rw[List.any_cons,zpI I hk r a h1,ih _ _ t h2]) h us b hv e
theorem zbk{f:D->Option Bool}:∀{ds:List D}{b:Bool},anyF f ds=some b->∀d ∈ ds,∃c,f d=some c
 | [],_,_,d,hd=>by simp at hd
 |x::r,b,h,d,hd=>by
  obtain⟨b1,h1,h⟩:=bS_ (show(f x).bind _=_ from h);obtain⟨c1,h2,h⟩:=bS_ h
  rcases zI.mp hd with e|e
  . subst e;exact⟨b1,h1⟩
  . exact zbk h2 d e
theorem zfI(I:Inv X pins σ H s)(hk:KdOk X kd){n:Nat}{A:Around}(hu:A.units+n<cLine){x:V}{v:Value}{d:D}(vx:Vw X.K kd O H x d)(rx:RelV x v){vs:List V}{us:List Value}{ds:List D}(hv:Vals vs us)(h:RpL X.K kd O H vs ds)(k:∀e ∈ ds,∃c,eqF n e d=some c):∀u ∈ us,SeqAt.EqAt A s u v (eqW X.K kd O H n d u):=
 RpL.ind (P:=λvs ds=>∀us,Vals vs us->(∀e ∈ ds,∃c,eqF n e d=some c)->∀u ∈ us,SeqAt.EqAt A s u v (eqW X.K kd O H n d u)) (λus hv _ u hu=>by cases hv;simp at hu) (λa q ih us hv h u hm=>by
  cases hv with
  |cons r t=>
   rcases zI.mp hm with e|e
   . subst e;obtain⟨c,hc⟩:=h _ zzB;rw[zpI I hk r a hc];exact(zkA I n A _ _ _ _ _ _ _ hu a.vw vx r rx hc).eq
   . exact ih _ t (λe he=>h e (zS _ he)) u e) h us hv k
theorem zgC{A:Around}{E:Value->Shared->Prop}{x:V}{v:Value}{b c:Bool}{d:D}{Q:Bool->Shared->Prop}(vx:Vw X.K kd O H x d)(rx:RelV x v)(e:isP d (.bl b)=some c)(h:Q c s):wpAny (model X.prog X.w) A (isSame v (.bool b)) Q E s:=by
 cases vx with
 |non=>cases rx;cases e;exact zyY h
 |bl k=>
  cases rx;have e:some (k==b)=some c:=e;cases e;refine zyY ?_;cases k<;>cases b<;>exact h
 |int=>obtain⟨t,rfl⟩:=rx;cases e;exact zyY h
 |str=>obtain⟨t,rfl⟩:=rx;cases e;exact zyY h
 |tup=>cases rx;cases e;exact zyY h
 |lst=>cases rx;cases e;exact zyY h
 |dct=>cases rx;cases e;exact zyY h
 |cl=>cases rx;cases e;exact zyY h
 |ob=>cases rx;cases e;exact zyY h
theorem zN(hk:KdOk X kd)(hu:X.A.units+100<cLine)(op:CmpOp):OpD X kd (compareOp op) (zY op):=by
 intro pins s σ H x y v u Q I rx ry h;obtain⟨O,d,e,r,ht,vx,vy,he,q⟩:=h;cases op with
 |Eq=>
  obtain⟨b,h1,he⟩:=bS_ (show(eqF 60 d e).bind _=_ from he);cases he;exact(zkA I 60 X.A x y d e v u b (by omega) vx vy rx ry h1).rc _ _ _ _ (Zc I (yx q (.bl _)) rfl)
 |NotEq=>
  obtain⟨b,h1,he⟩:=bS_ (show(eqF 60 d e).bind _=_ from he);cases he;exact(zkA I 60 X.A x y d e v u b (by omega) vx vy rx ry h1).ne _ _ _ _ (Zc I (yx q (.bl _)) rfl)
 |Lt=>
  obtain⟨i,j,rfl,rfl,he⟩:=VH vx vy he;cases he;exact zwR pins s σ H _ _ v u Q I rx ry ⟨_,_,rfl,rfl,yx q (.bl _)⟩
 |LtE=>
  obtain⟨i,j,rfl,rfl,he⟩:=VH vx vy he;cases he;exact zwH pins s σ H _ _ v u Q I rx ry ⟨_,_,rfl,rfl,yx q (.bl _)⟩
 |Gt=>
  obtain⟨i,j,rfl,rfl,he⟩:=VH vx vy he;cases he;exact zxb pins s σ H _ _ v u Q I rx ry ⟨_,_,rfl,rfl,yx q (.bl _)⟩
 |GtE=>
  obtain⟨i,j,rfl,rfl,he⟩:=VH vx vy he;cases he;exact zwF pins s σ H _ _ v u Q I rx ry ⟨_,_,rfl,rfl,yx q (.bl _)⟩
 |In=>
  obtain⟨b,h1,he⟩:=bS_ (show(inP d e).bind _=_ from he);cases he;cases vy with
  |lst hs rl=>
   cases ry;obtain⟨its,rv,p,_⟩:=I.list hs.sq;refine SeqAt.in_listAt (eqW X.K kd O H 50 d) p.isList (λw hw=>zfI I hk (by show X.A.units+1+50<cLine;omega) vx rx rv rl (zbk h1) w (by simpa using hw)) ?_;have:=zfD I hk rv rl h1;rw[show its.toArray.any (eqW X.K kd O H 50 d)=b by rw[<-this];simp];exact Zc (I) (yx q (.bl _)) rfl
  |tup rp hs rl=>
   cases ry;obtain⟨its,rv,p,_⟩:=I.tuple hs;refine SeqAt.in_tupleAt (eqW X.K kd O H 50 d) p (λw hw=>zfI I hk (by show X.A.units+1+50<cLine;omega) vx rx rv rl (zbk h1) w (by simpa using hw)) ?_;have:=zfD I hk rv rl h1;rw[show its.toArray.any (eqW X.K kd O H 50 d)=b by rw[<-this];simp];exact Zc (I) (yx q (.bl _)) rfl
  |str z=>
   cases vx with
   |str i=>cases h1;exact zoT pins s σ H _ _ v u Q I rx ry ⟨_,_,rfl,rfl,yx q (.bl _)⟩
   |_=>cases h1
  |dct hs rm=>
   cases ry;obtain⟨k,k1,h1⟩:=bS_ h1;cases h1;obtain⟨z,hd,vs,rel,dd⟩:=zfi I hk hs;have ek:x=kV k:=by
    cases vx with
    |int i=>cases k1;rfl
    |str i=>cases k1;rfl
    |_=>cases k1
   subst ek;refine wpAny_in_of (zib rx) hd dd.mapOf ?_;rw[<-(rel.val k).isSome_eq]
   rcases zdG k rm with⟨v1,d1,e1,e2,_⟩|⟨e1,e2⟩
   . rw[e1];rw[e2]at q;exact Zc (I.tok _) (yx q (.bl _)) rfl
   . rw[e1];rw[e2]at q;exact Zc (I.tok _) (yx q (.bl _)) rfl
  |_=>cases h1
 |NotIn=>
  obtain⟨b,h1,he⟩:=bS_ (show(inP d e).bind _=_ from he);cases he;cases vy with
  |lst hs rl=>
   cases ry;obtain⟨its,rv,p,_⟩:=I.list hs.sq;refine SeqAt.notIn_listAt (eqW X.K kd O H 50 d) p.isList (λw hw=>zfI I hk (by show X.A.units+1+50<cLine;omega) vx rx rv rl (zbk h1) w (by simpa using hw)) ?_;have:=zfD I hk rv rl h1;rw[show its.toArray.any (eqW X.K kd O H 50 d)=b by rw[<-this];simp];exact Zc (I) (yx q (.bl _)) rfl
  |tup rp hs rl=>
   cases ry;obtain⟨its,rv,p,_⟩:=I.tuple hs;refine SeqAt.notIn_tupleAt (eqW X.K kd O H 50 d) p (λw hw=>zfI I hk (by show X.A.units+1+50<cLine;omega) vx rx rv rl (zbk h1) w (by simpa using hw)) ?_;have:=zfD I hk rv rl h1;rw[show its.toArray.any (eqW X.K kd O H 50 d)=b by rw[<-this];simp];exact Zc (I) (yx q (.bl _)) rfl
  |str z=>
   cases vx with
   |str i=>cases h1;exact zkr pins s σ H _ _ v u Q I rx ry ⟨_,_,rfl,rfl,yx q (.bl _)⟩
   |_=>cases h1
  |dct hs rm=>
   cases ry;obtain⟨k,k1,h1⟩:=bS_ h1;cases h1;obtain⟨z,hd,vs,rel,dd⟩:=zfi I hk hs;have ek:x=kV k:=by
    cases vx with
    |int i=>cases k1;rfl
    |str i=>cases k1;rfl
    |_=>cases k1
   subst ek;refine wpAny_notIn_of (zib rx) hd dd.mapOf ?_;rw[<-(rel.val k).isSome_eq]
   rcases zdG k rm with⟨v1,d1,e1,e2,_⟩|⟨e1,e2⟩
   . rw[e1];rw[e2]at q;exact Zc (I.tok _) (yx q (.bl _)) rfl
   . rw[e1];rw[e2]at q;exact Zc (I.tok _) (yx q (.bl _)) rfl
  |_=>cases h1
 |Is=>
  obtain⟨b,h1,he⟩:=bS_ (show(isP d e).bind _=_ from he);cases he;cases vy with
  |non=>
   refine zuW pins s σ H _ _ v u Q I rx ry ⟨rfl, ?_⟩;have:decide (x=V.non)=b:=by cases vx<;>(cases h1;rfl)
   rw[this];exact yx q (.bl b)
  |bl c=>
   cases ry;exact zyX (zgC vx rx h1 (zyY (Zc I (yx q (.bl _)) rfl)))
  |_=>cases h1
 |IsNot=>
  obtain⟨b,h1,he⟩:=bS_ (show(isP d e).bind _=_ from he);cases he;cases vy with
  |non=>
   refine ztl pins s σ H _ _ v u Q I rx ry ⟨rfl, ?_⟩;have:decide (x=V.non)=b:=by cases vx<;>(cases h1;rfl)
   rw[this];exact yx q (.bl _)
  |bl c=>
   cases ry;exact zyX (zgC vx rx h1 (zyY (Zc I (yx q (.bl _)) rfl)))
  |_=>cases h1
end
theorem zov{K:zC}{kd:KD}{O:Addr->Prop}{H:Hp}{vs:List V}{ds:List D}{i:Int}{d:D}(r:RpL K kd O H vs ds)(h:atI ds i=some d):∃v,atI vs i=some v/\Rp K kd O H v d:=by
 unfold atI at h ⊢;obtain⟨j,h1,h2⟩:=bS_ h;rw[r.length,h1];exact r.get h2
def imR(o:Option D):Option R0:=o.bind λd=>some (.im d)
def ixP(x y:D):Option R0:=match x with
 | .lst xs=>(asI y).bind λi=>imR (atI xs i)
 | .tup xs=>(asI y).bind λi=>imR (atI xs i)
 | .str x=>(asI y).bind λi=>if x.length<=sizeLine then(atI x.cps.toList i).bind λc=>some (.im (.str ⟨#[c]⟩))else none
 | .dct kvs=>(zfB y).bind λk=>imR (zbe kvs k)
 |_=>none
theorem zgZ{o:Option D}{r:R0}(h:imR o=some r):∃d,o=some d/\r = .im d:=by
 obtain⟨d,h1,h2⟩:=bS_ (show o.bind _=_ from h);cases h2;exact⟨d,h1,rfl⟩
section
variable{X:Cx}{kd:KD}
theorem zkd{K:zC}{O:Addr->Prop}{H:Hp}{x:V}{d:D}{k:Key}(vx:Vw K kd O H x d)(e:zfB d=some k):x=kV k:=by
 cases vx with
 |int i=>cases e;rfl
 |str i=>cases e;rfl
 |_=>cases e
theorem zyp(hk:KdOk X kd):IxD X kd ixP:=by
 intro value slice pins s σ H x y v u Q I rx ry h hs;obtain⟨O,d,e,r,ht,vx,vy,he,q⟩:=h;cases vx with
 |lst hr rl=>
  obtain⟨i,h0,he⟩:=bS_ (show(asI e).bind _=_ from he);obtain⟨rfl,rfl⟩:=zap vy h0;obtain⟨d,h1,rfl⟩:=zgZ he;obtain⟨w,hw,rw'⟩:=zov rl h1;exact zst value slice pins s σ H _ _ v u Q I rx ry ⟨_,_,_,w,rfl,rfl,hr.sq,hw,yx q rw'⟩ hs
 |tup rp hr rl=>
  obtain⟨i,h0,he⟩:=bS_ (show(asI e).bind _=_ from he);obtain⟨rfl,rfl⟩:=zap vy h0;obtain⟨d,h1,rfl⟩:=zgZ he;obtain⟨w,hw,rw'⟩:=zov rl h1;exact zvZ value slice pins s σ H _ _ v u Q I rx ry ⟨_,_,_,w,rfl,rfl,hr,hw,yx q rw'⟩ hs
 |str z=>
  obtain⟨i,h0,he⟩:=bS_ (show(asI e).bind _=_ from he);obtain⟨rfl,rfl⟩:=zap vy h0;obtain⟨hz,he⟩:=ite_some' he;obtain⟨c,h1,he⟩:=bS_ he;cases he;exact zvJ value slice pins s σ H _ _ v u Q I rx ry ⟨_,_,c,rfl,rfl,hz,h1,yx q (.str _)⟩ hs
 |dct hr rm=>
  obtain⟨k,h1,he⟩:=bS_ (show(zfB e).bind _=_ from he);obtain⟨d,h2,rfl⟩:=zgZ he;cases rx;obtain⟨z,hd,vs,rel,dd⟩:=zfi I hk hr;have:=zkd vy h1;subst this
  rcases zdG k rm with⟨v1,d1,e1,e2,rp⟩|⟨e1,e2⟩
  . rw[h2]at e2;cases e2;obtain⟨w',hw,rw'⟩:=zhT.some_of (v:=v1) (o:=valueAt vs k) (by rw[<-e1];exact rel.val k);exact tail_any dd.typeIs PySem.F.slot_dict_getitem.lookup (wpAny_getItem_of (zib ry) dd.mapOf hw ⟨v1,H,I.tok _,rw',yx q rp⟩) hs
  . rw[h2]at e2;cases e2
 |_=>cases he
def cutD(xs:List D)(lo hi:Option Int):List D:=(xs.drop (HT.sIx xs.length 0 lo)).take (HT.sIx xs.length xs.length hi-HT.sIx xs.length 0 lo)
theorem znI{K:zC}{O:Addr->Prop}{H:Hp}{vs:List V}{ds:List D}(r:RpL K kd O H vs ds)(lo hi:Option Int):RpL K kd O H (zlj vs lo hi) (cutD ds lo hi):=by
 unfold zlj cutD;rw[r.length];exact(r.drop _).take _
def slP(x:D)(lo hi:Option Int):Option R0:=match x with
 | .lst xs=>some (.fl (cutD xs lo hi))
 | .tup xs=>if HT.sIx xs.length 0 lo=0/\HT.sIx xs.length xs.length hi=xs.length then none else some (.im (.tup (cutD xs lo hi)))
 |_=>none
abbrev OF:=AS->Option (Option Int×AS)
def oN:OF:=λas=>some (none,as)
def oS(f:EF):OF:=λas=>(f as).bind λp=>(rvI p.1).bind λi=>some (some i,p.2)
def fSl(fa:EF)(fl fh:OF)(g:D->Option Int->Option Int->Option R0):EF:=λas=>(fa as).bind λp=>(fl p.2).bind λl=>(fh l.2).bind λh=>(p.1.frz.view h.2).bind λx=>(g x.1 l.1 h.1).bind λr=>(wrap x.2 r).bind λz=>some (z,h.2)
def alO(K:zC)(kd:KD)(f:OF):TO:=λσ H Q=>∃F B ad as o as',Rel K kd F B [] ad as σ H/\f as=some (o,as')/\
 ∀ad' H',Rel K kd F B [] ad' as' σ H'->Grow (Gw [] ad) H (Gw [] ad') H'->Q o H'
@[irreducible] def AO(X:Cx)(kd:KD)(e:Option Expr)(f:OF):Prop:=PO X e (alO X.K kd f)
theorem zqF{e:Option Expr}{t t':TO}(h:PO X e t)(k:∀σ H Q,t' σ H Q->t σ H Q):PO X e t':=λpins s σ H Q I q=>h pins s σ H Q I (k σ H Q q)
theorem v5:AO X kd none oN:=by with_unfolding_all exact(zqF ztm λσ H Q h=>by
 obtain⟨F,B,ad,as,o,as',R,e,q⟩:=h;cases e;exact q ad H R Grow.refl)
theorem zvO{K:zC}{F B:Addr->Prop}{T:List Addr}{ad:Ad}{σ:St}{H:Hp}{v:V}{st:Bool}{c:Int}(h:vM K kd F B T ad σ H v (.ow (.lf st (.int c)))):T=[]/\v = .int c:=by
 have h:RoS K kd F B (Gw T ad) H v (.lf st (.int c)) T:=h;generalize hT:Gw T ad=G at h;cases h with
 |lf rp=>cases rp;exact⟨rfl,rfl⟩
theorem vW{a:Expr}{fa:EF}(ha:AE X kd a fa):AO X kd (some a) (oS fa):=by with_unfolding_all exact(zqF (zts ha) λσ H Q h=>by
 obtain⟨F,B,ad,as,o,as',R,e,q⟩:=h;obtain⟨⟨p,as1⟩,h1,e⟩:=bS_ (show(fa as).bind _=_ from e);obtain⟨i,e1,e⟩:=bS_ e;obtain⟨st,rfl⟩:=zvd e1;cases e;refine⟨F,B,ad,as,_,_,R,h1,λv T' ad1 H1 R1 rv1 g1=>?_⟩;obtain⟨rfl,rfl⟩:=zvO rv1;exact⟨i,rfl,q ad1 H1 R1 g1⟩)
theorem zxA:SlR X (λx lo hi H Q=>∃O d r,(∀a,O a->H a≠none)/\Vw X.K kd O H x d/\slP d lo hi=some r/\RQ X.K kd O H Q r):=by
 intro pins s σ H x v vl vu lo hi sl Q I rx hs pl pu h;obtain⟨O,d,r,ht,vx,he,q⟩:=h;cases vx with
 |lst hr rl=>cases he;exact ztF pins s σ H _ v vl vu lo hi sl Q I rx hs pl pu ⟨_,_,rfl,hr.sq,zgk q (znI rl lo hi)⟩
 |tup rp hr rl=>
  have he:(if _ then none else some _:Option R0)=_:=he
  split at he
  . cases he
  . rename_i hw;cases he;exact zvc pins s σ H _ v vl vu lo hi sl Q I rx hs pl pu ⟨_,_,rfl,hr,by rw[rl.length];exact hw,zgt ht q (znI rl lo hi)⟩
 |_=>cases he
theorem vN{a:Expr}{lo hi:Option Expr}{fa:EF}{fl fh:OF}{pos p2:Pos}(ha:AE X kd a fa)(hl:AO X kd lo fl)(hh:AO X kd hi fh):AE X kd (.Subscript a (.Slice lo hi none p2) pos) (fSl fa fl fh slP):=by with_unfolding_all exact(wB (zlp zxA ha hl hh) λσ H Q h=>by
 obtain⟨F,B,ad,as,r,as',R,e,q⟩:=h;obtain⟨⟨p,as1⟩,h1,e⟩:=bS_ (show(fa as).bind _=_ from e);obtain⟨⟨l,as2⟩,h2,e⟩:=bS_ e;obtain⟨⟨u,as3⟩,h3,e⟩:=bS_ e;obtain⟨⟨d,lv⟩,h4,e⟩:=bS_ e;obtain⟨r',h5,e⟩:=bS_ e;obtain⟨z,h6,e⟩:=bS_ e;cases e;refine ZX R h1 λv ad1 H1 R1 rv1 g1=>⟨F,B,ad1,as1,l,as2,R1,h2,λad2 H2 R2 g2=>⟨F,B,ad2,as2,u,_,R2,h3,λad3 H3 R3 g3=>?_⟩⟩;exact⟨_,d,r',R3.tr _,vM.vw R3 ((rv1.grow g2).grow g3) h4,h5,zbZ R3 h6 λw T' H' R' rv' g'=>q w T' ad3 H' R' rv' (((g1.trans g2).trans g3).trans g')⟩)
def tyD:D->String
 | .non=>"NoneType" | .bl _=>"bool" | .int _=>"int" | .str _=>"str" | .tup _=>"tuple" | .lst _=>"list" | .dct _=>"dict"|_=>""
def znq:D->Bool
 | .cl _=>false | .ob _ _ _=>false|_=>true
def ziQ(t c:String):Bool:=t==c||(t=="bool"&&c=="int")
def zdc(c:String):Bool:=c=="int"||c=="bool"||c=="str"||c=="list"||c=="tuple"||c=="dict"
theorem zwk(K:zC)(d:D)(c:String)(h:zdc c=true)(ho:znq d=true):PySem.W.kitOne K (.type (tyD d)) (.type c)=some (ziQ (tyD d) c):=by
 have:c="int"\/c="bool"\/c="str"\/c="list"\/c="tuple"\/c="dict":=by
  unfold zdc at h;simp only[Bool.or_eq_true,beq_iff_eq]at h
  rcases h with((((h|h)|h)|h)|h)|h<;>simp[h]
 rcases this with rfl|rfl|rfl|rfl|rfl|rfl<;>cases d<;>first|rfl|cases ho
theorem zvg(hk:KdOk X kd){pins:List (Addr×Obj)}{σ:St}{H:Hp}{s:Shared}{O:Addr->Prop}{A:Around}{E:Value->Shared->Prop}{Q:Value->Shared->Prop}{c:String}{x:V}{u:Value}{d:D}(I:Inv X pins σ H s)(rx:RelV x u)(vx:Vw X.K kd O H x d)(hc:zdc c=true)(ho:znq d=true)
 (h:∀tk,Q (.bool (ziQ (tyD d) c)) {s with toks:=tk}):wpAny (model X.prog X.w) A (call (.builtin "isinstance") [u,.type c]) Q E s:=by
 have e:=zwk X.K d c hc ho;cases vx with
 |non=>cases rx;exact PySem.W.kia_one PySem.W.kitx_none I.kIn True.intro e (λz=>nomatch z) h
 |bl y=>cases rx;exact PySem.W.kia_one PySem.W.kitx_bool I.kIn True.intro e (λz=>nomatch z) h
 |int i=>obtain⟨t,rfl⟩:=rx;exact PySem.W.kia_one PySem.W.kitx_int I.kIn True.intro e (λz=>nomatch z) h
 |str y=>obtain⟨t,rfl⟩:=rx;exact PySem.W.kia_one PySem.W.kitx_str I.kIn True.intro e (λz=>nomatch z) h
 |lst hr rl=>
  cases rx;obtain⟨its,rv,⟨o,n,h1,h2,_⟩,_⟩:=I.list hr.sq;exact PySem.W.kia_one PySem.W.kitx_list I.kIn ⟨o,h1,h2⟩ e (λz=>nomatch z) h
 |tup rp hr rl=>
  cases rx;obtain⟨its,rv,⟨o,h1,h2,_⟩,_⟩:=I.tuple hr;exact PySem.W.kia_one PySem.W.kitx_tuple I.kIn ⟨o,h1,h2⟩ e (λz=>nomatch z) h
 |dct hr rm=>
  cases rx;obtain⟨z,hd,vs,rel,⟨o,es,ep,h1,h2,_⟩⟩:=zfi I hk hr;exact PySem.W.kia_one PySem.W.kitx_dict I.kIn ⟨o,h1,h2.1⟩ e (λz=>nomatch z) h
 |cl=>cases ho
 |ob=>cases ho
end
def ziS:List D->Option (List Int)
 | []=>some []
 | .int i::r=>(ziS r).bind λs=>some (i::s)
 |_::_=>none
def zvp:List Int->Int
 | []=>0
 |x::r=>r.foldl (λa b=>if a<b then b else a) x
def zuN:List Int->Int
 | []=>0
 |x::r=>r.foldl (λa b=>if b<a then b else a) x
theorem zjm:∀(r:List Int) (x:Int),r.foldl (λa b=>if a<b then b else a) x ∈ x::r/\∀a ∈ x::r,a<=r.foldl (λa b=>if a<b then b else a) x
 | [],x=>⟨by simp,by simp⟩
 |y::r,x=>by
  rw[List.foldl_cons];obtain⟨h1,h2⟩:=zjm r (if x<y then y else x);refine⟨?_,λa ha=>?_⟩
  . rcases zI.mp h1 with e|e
    . rw[e];split<;>simp
    . exact zS _ (zS _ e)
  . have h3:=h2 _ zzB
    rcases zI.mp ha with e|e
    . subst e;exact Int.le_trans (by split<;>omega) h3
    . rcases zI.mp e with e|e
      . subst e;exact Int.le_trans (by split<;>omega) h3
      . exact h2 a (zS _ e)
theorem ziw:∀(r:List Int) (x:Int),r.foldl (λa b=>if b<a then b else a) x ∈ x::r/\∀a ∈ x::r,r.foldl (λa b=>if b<a then b else a) x<=a
 | [],x=>⟨by simp,by simp⟩
 |y::r,x=>by
  rw[List.foldl_cons];obtain⟨h1,h2⟩:=ziw r (if y<x then y else x);refine⟨?_,λa ha=>?_⟩
  . rcases zI.mp h1 with e|e
    . rw[e];split<;>simp
    . exact zS _ (zS _ e)
  . have h3:=h2 _ zzB
    rcases zI.mp ha with e|e
    . subst e;exact Int.le_trans h3 (by split<;>omega)
    . rcases zI.mp e with e|e
      . subst e;exact Int.le_trans h3 (by split<;>omega)
      . exact h2 a (zS _ e)
theorem zrZ{ns:List Int}{M:Int}(h1:M ∈ ns)(h2:∀a ∈ ns,a<=M):zvp ns=M:=by
 cases ns with
 |nil=>simp at h1
 |cons x r=>
  obtain⟨k1,k2⟩:=zjm r x;have a1:=k2 M h1;have a2:=h2 _ k1;show r.foldl _ x=M;omega
theorem zsA{ns:List Int}{M:Int}(h1:M ∈ ns)(h2:∀a ∈ ns,M<=a):zuN ns=M:=by
 cases ns with
 |nil=>simp at h1
 |cons x r=>
  obtain⟨k1,k2⟩:=ziw r x;have a1:=k2 M h1;have a2:=h2 _ k1;show r.foldl _ x=M;omega
def on1(f:D->Option R0)(ds:List D):Option R0:=match ds with
 | [x]=>f x
 |_=>none
theorem zrh{K:zC}{kd:KD}{O:Addr->Prop}{H:Hp}{f:D->Option R0}{xs:List V}{ds:List D}{r:R0}(vl:VwL K kd O H xs ds)(h:on1 f ds=some r):∃x d,xs=[x]/\Vw K kd O H x d/\f d=some r:=by
 cases vl with
 |nil=>cases h
 |cons a b=>
  cases b with
  |nil=>exact⟨_,_,rfl,a,h⟩
  |cons _ _=>cases h
def zyb:D->Option R0
 | .lst ds=>some (.im (.int ds.length))
 | .tup ds=>some (.im (.int ds.length))
 | .str x=>if x.length<=sizeLine then some (.im (.int x.length))else none
 | .dct kvs=>some (.im (.int kvs.length))
 |_=>none
def wz:List D->Option R0:=on1 zyb
def zxY:D->Option R0
 | .int i=>some (.im (.int i))
 | .bl b=>some (.im (.int (if b then 1 else 0)))
 |_=>none
def zsY:List D->Option R0
 | [.int i]=>if i.natAbs.log2<1920 then some (.im (.str (toString i)))else none
 |_=>none
def tupP:List D->Option R0
 | [.lst ds]=>some (.im (.tup ds))
 | [.tup ds]=>some (.im (.tup ds))
 |_=>none
def ztp(ds:List D):Option R0:=match ds with
 | [x,y]=>onI (λi j=>some (.im (.int (if j > i then j else i)))) x y
 | [x]=>(asL x).bind λds=>(ziS ds).bind λns=>if 0<ns.length then some (.im (.int (zvp ns)))else none
 |_=>none
def ztv:List D->Option R0
 | [.int i,.int j]=>some (.im (.int (if j<i then j else i)))
 | [.lst ds]=>(ziS ds).bind λns=>if 0<ns.length then some (.im (.int (zuN ns)))else none
 |_=>none
theorem Zk{K:zC}{kd:KD}{O:Addr->Prop}{H:Hp}{xs:List V}{d:D}(h:VwL K kd O H xs [d]):∃x,xs=[x]/\Vw K kd O H x d:=by
 cases h with
 |cons a b=>cases b;exact⟨_,rfl,a⟩
theorem zsC{K:zC}{kd:KD}{O:Addr->Prop}{H:Hp}{xs:List V}{d e:D}(h:VwL K kd O H xs [d,e]):∃x y,xs=[x,y]/\Vw K kd O H x d/\Vw K kd O H y e:=by
 cases h with
 |cons a b=>
  cases b with
  |cons b c=>cases c;exact⟨_,_,rfl,a,b⟩
theorem zlb{K:zC}{kd:KD}{O:Addr->Prop}{H:Hp}{vs:List V}{ds:List D}{ns:List Int}(h:RpL K kd O H vs ds)(e:ziS ds=some ns):vs=ns.map V.int:=
 RpL.ind (P:=λvs ds=>∀ns,ziS ds=some ns->vs=ns.map V.int) (λns e=>by cases e;rfl) (λ{v d vs ds} a _ ih ns e=>by
  cases d with
  |int i=>
   obtain⟨s,h1,h2⟩:=bS_ (show(ziS _).bind _=_ from e);cases h2;cases a;rw[ih _ h1];rfl
  |_=>cases e) h ns e
section
variable{X:Cx}{kd:KD}
theorem yj(hk:KdOk X kd):CallD X kd (.builtin "len") wz:=by
 intro pins s σ H xs us Q I r h;obtain⟨O,ds,z,ht,vl,he,q⟩:=h;obtain⟨x,d,rfl,vx,he⟩:=zrh vl he;cases vx with
 |lst hr rl=>cases he;exact zcW pins s σ H _ us Q I r ⟨_,_,rfl,.inl hr.sq,by rw[rl.length];exact yx q (.int _)⟩
 |tup rp hr rl=>cases he;exact zcW pins s σ H _ us Q I r ⟨_,_,rfl,.inr hr,by rw[rl.length];exact yx q (.int _)⟩
 |str y=>
  obtain⟨c,rfl⟩:=zZ he;exact zjx pins s σ H _ us Q I r ⟨_,rfl,c,yx q (.int _)⟩
 |dct hr rm=>
  cases he;obtain⟨u,rfl,ru⟩:=vals1 r;cases ru;obtain⟨z,hd,vs,rel,dd⟩:=zfi I hk hr;refine call_len_dict hd dd (by rw[<-rel.length];rw[sizeLine_eq]at z;omega) ?_;rw[<-rel.length,rm.length];exact⟨.int _,H,I.tok _,⟨_,rfl⟩,yx q (.int _)⟩
 |_=>cases he
theorem zpv:CallD X kd (.type "str") zsY:=by
 intro pins s σ H xs us Q I r h;obtain⟨O,ds,z,ht,vl,he,q⟩:=h;unfold zsY at he
 split at he
 . obtain⟨c,rfl⟩:=zZ he;obtain⟨x,rfl,vx⟩:=Zk vl;cases vx;exact zkz pins s σ H _ us Q I r ⟨_,rfl,c,yx q (.str _)⟩
 . cases he
theorem zpe:CallD X kd (.type "tuple") tupP:=by
 intro pins s σ H xs us Q I r h;obtain⟨O,ds,z,ht,vl,he,q⟩:=h;unfold tupP at he
 split at he
 . cases he;obtain⟨x,rfl,vx⟩:=Zk vl;cases vx with
   |lst hr rl=>exact zcp pins s σ H _ us Q I r ⟨_,_,rfl,.inl ⟨hr.sq,zgt ht q rl⟩⟩
 . cases he;obtain⟨x,rfl,vx⟩:=Zk vl;cases vx with
   |tup rp hr rl=>exact zcp pins s σ H _ us Q I r ⟨_,_,rfl,.inr ⟨hr,yx q rp⟩⟩
 . cases he
theorem zja(hc:X.calm=true):CallD X kd (.builtin "max") ztp:=by
 intro pins s σ H xs us Q I r h;obtain⟨O,ds,z,ht,vl,he,q⟩:=h;cases vl with
 |nil=>cases he
 |cons vx vl=>
  cases vl with
  |nil=>
   obtain⟨ds,h0,he⟩:=bS_ (show(asL _).bind _=_ from he);cases zqH h0;obtain⟨ns,h1,he⟩:=bS_ he;obtain⟨c,rfl⟩:=zZ he;cases vx with
   |lst hr rl=>
    obtain⟨u,rfl,ru⟩:=vals1 r;cases ru;obtain⟨its,rv,p,_⟩:=I.list hr.sq;rw[zlb rl h1]at rv;have hi:=intsAre_of rv;obtain⟨ys,e⟩:=hi.allInts.items;have hns:ns=ys.toList.map (·.1):=by rw[<-hi.numsOf,<-nums_intItems,<-e]
    have hsz:0<ys.size:=by
     have h3:=c;rw[hns,zD,zyN]at h3;exact h3
    have hl:=p.isList;rw[e]at hl;refine max_intList (I.ok.hd hc) hl hsz λv h' tk hv kp=>?_;obtain⟨t,rfl⟩:=intItems_at hv;obtain⟨k1,k2⟩:=argBest_gt (numAt ys) (ys.size-1);refine⟨.int (zvp ns),H,I.kept kp,⟨t, ?_⟩,yx q (.int _)⟩
    congr 1
    refine(zrZ ?_ λa ha=>?_).symm
    . rw[hns,numAt_eq];have hlt:argBest (λi j=>decide (numAt ys i > numAt ys j)) (ys.size-1)<(ys.toList.map (·.1)).length:=by rw[zD,zyN];omega
      rw[zzZ,zzA hlt];exact zyR hlt
    . rw[hns]at ha;obtain⟨j,hj,rfl⟩:=List.getElem_of_mem ha;have hj':=hj;rw[zD,zyN]at hj;have:=k2 j (by omega);rw[numAt_eq ys j,zzZ,zzA hj']at this;exact this
  |cons vy vl=>
   cases vl with
   |nil=>
    obtain⟨i,j,rfl,rfl,he⟩:=VH vx vy he;cases he;exact zoJ hc pins s σ H _ us Q I r ⟨_,_,rfl,yx q (.int _)⟩
   |cons _ _=>cases he
theorem ziM(hc:X.calm=true):CallD X kd (.builtin "min") ztv:=by
 intro pins s σ H xs us Q I r h;obtain⟨O,ds,z,ht,vl,he,q⟩:=h;unfold ztv at he
 split at he
 . cases he;obtain⟨x,y,rfl,vx,vy⟩:=zsC vl;cases vx;cases vy;exact zpy hc pins s σ H _ us Q I r ⟨_,_,rfl,yx q (.int _)⟩
 . obtain⟨ns,h1,he⟩:=bS_ he;obtain⟨c,rfl⟩:=zZ he;obtain⟨x,rfl,vx⟩:=Zk vl;cases vx with
   |lst hr rl=>
    obtain⟨u,rfl,ru⟩:=vals1 r;cases ru;obtain⟨its,rv,p,_⟩:=I.list hr.sq;rw[zlb rl h1]at rv;have hi:=intsAre_of rv;obtain⟨ys,e⟩:=hi.allInts.items;have hns:ns=ys.toList.map (·.1):=by rw[<-hi.numsOf,<-nums_intItems,<-e]
    have hsz:0<ys.size:=by
     have h3:=c;rw[hns,zD,zyN]at h3;exact h3
    have hl:=p.isList;rw[e]at hl;refine min_intList (I.ok.hd hc) hl hsz λv h' tk hv kp=>?_;obtain⟨t,rfl⟩:=intItems_at hv;obtain⟨k1,k2⟩:=argBest_lt (numAt ys) (ys.size-1);refine⟨.int (zuN ns),H,I.kept kp,⟨t, ?_⟩,yx q (.int _)⟩
    congr 1
    refine(zsA ?_ λa ha=>?_).symm
    . rw[hns,numAt_eq];have hlt:argBest (λi j=>decide (numAt ys i<numAt ys j)) (ys.size-1)<(ys.toList.map (·.1)).length:=by rw[zD,zyN];omega
      rw[zzZ,zzA hlt];exact zyR hlt
    . rw[hns]at ha;obtain⟨j,hj,rfl⟩:=List.getElem_of_mem ha;have hj':=hj;rw[zD,zyN]at hj;have:=k2 j (by omega);rw[numAt_eq ys j,zzZ,zzA hj']at this;exact this
 . cases he
end
def v8(env:Env):List (Str×NameKind)->List (Str×Addr)->List (Str×Addr)
 | [],cs=>cs
 |(n,k)::r,cs=>v8 env r (if k == .free then((n,(env.cells.lookup n).getD 0)::cs)else cs)
theorem zco{scope:Scope}{env:Env}(h:∀x ∈ scope.names,x.2 = .free->∃c,env.cells.lookup x.1=some c):closureFor scope env=pure (v8 env scope.names []):=by
 have go:∀(names:List (Str×NameKind)) (cs:List (Str×Addr)) (f:Str×NameKind->List (Str×Addr)->Sem (ForInStep (List (Str×Addr)))),
  (∀name kind cs,f (name,kind) cs=if kind == .free then(do let a <-cellOf env name;pure (.yield ((name,a)::cs)))else pure (.yield cs))->
  (∀x ∈ names,x.2 = .free->∃c,env.cells.lookup x.1=some c)->(forIn names cs f:Sem (List (Str×Addr)))=pure (v8 env names cs):=by
  intro names
  induction names with
  |nil=>intro cs f _ _;rfl
  |cons x r ih=>
   intro cs f hf hx;obtain⟨n,k⟩:=x;rw[List.forIn_cons,hf];unfold v8
   by_cases hk:(k == .free)=true
   . obtain⟨c,hc⟩:=hx (n,k) zzB (by simpa using hk);rw[if_pos hk,if_pos hk];have e:cellOf env n=pure c:=by unfold cellOf;rw[hc]
     rw[e,hc];exact ih _ f hf λy hy=>hx y (zS _ hy)
   . rw[if_neg hk,if_neg hk];exact ih _ f hf λy hy=>hx y (zS _ hy)
 simp only[closureFor];rw[go scope.names [] _ (λname kind cs=>?_) h]
 . rfl
 . rfl
theorem ziB{env:Env}:∀(names:List (Str×NameKind)) (cs:List (Str×Addr)) (p:Str×Addr),p ∈ v8 env names cs->p ∈ cs\/((p.1,NameKind.free) ∈ names/\p.2=(env.cells.lookup p.1).getD 0)
 | [],_,_,h=>.inl h
 |(n,k)::r,cs,p,h=>by
  unfold v8 at h
  rcases ziB r _ p h with h|h
  . by_cases hk:(k == .free)=true
    . rw[if_pos hk]at h
      rcases zI.mp h with e|h
      . subst e;have:k = .free:=by simpa using hk
        subst this;exact .inr ⟨zzB,rfl⟩
      . exact .inl h
    . rw[if_neg hk]at h;exact .inl h
  . exact .inr ⟨zS _ h.1,h.2⟩
theorem zhe{env:Env}:∀(names:List (Str×NameKind)) (cs:List (Str×Addr)) (p:Str×Addr),p ∈ cs->p ∈ v8 env names cs
 | [],_,_,h=>h
 |(n,k)::r,cs,p,h=>by
  unfold v8;refine zhe r _ p ?_
  split
  . exact zS _ h
  . exact h
theorem ziI{env:Env}:∀(names:List (Str×NameKind)) (cs:List (Str×Addr)) (x:Str),(x,NameKind.free) ∈ names->(x,(env.cells.lookup x).getD 0) ∈ v8 env names cs
 |(n,k)::r,cs,x,h=>by
  unfold v8
  rcases zI.mp h with e|h
  . cases e;exact zhe r _ _ (by simp)
  . exact ziI r _ x h
theorem W7{α:Type}{x:Str}{a:α}:∀{l:List (Str×α)},(∀p ∈ l,p.1=x->p.2=a)->(∃b,(x,b) ∈ l)->l.lookup x=some a
 | [],_,h=>by obtain⟨_,h⟩:=h;cases h
 |(k,v)::r,u,h=>by
  rw[List.lookup_cons];cases hb:x==k with
  |true=>
   have:=u (k,v) zzB (beq_iff_eq.mp hb).symm;exact congrArg some this
  |false=>
   refine W7 (λp hp=>u p (zS _ hp)) ?_;obtain⟨b,h⟩:=h
   rcases zI.mp h with e|h
   . cases e;simp at hb
   . exact⟨b,h⟩
theorem zeu:∀(names:List (Str×NameKind)) (h:Heap) (acc:List (Str×Addr)) (p:Str×Addr),p ∈ cellsFrom h.objs.size names acc->
 p ∈ acc\/((p.1,NameKind.cell) ∈ names/\(pushCells h names).IsCell p.2 none/\h.objs.size<=p.2)
 | [],_,_,_,m=>.inl m
 |(n,k)::r,h,acc,p,m=>by
  unfold cellsFrom at m;unfold pushCells
  split at m
  . rename_i hk;rw[if_pos hk];have e:(h.push {cls:=.type "cell",data:=.cell none}).objs.size=h.objs.size+1:=QzE ..;rw[<-e]at m
    rcases zeu r _ _ p m with m|⟨m1,m2,m3⟩
    . rcases zI.mp m with e2|m
      . subst e2;have:k = .cell:=by simpa using hk
        subst this;refine .inr ⟨zzB, ?_,zzJ _⟩;have z:(h.push {cls:=.type "cell",data:=.cell none}).IsCell h.objs.size none:=⟨_,QzB _ rfl,rfl⟩;exact z.keeps (pushCells_keeps r _)
      . exact .inl m
    . exact .inr ⟨zS _ m1,m2,by rw[e]at m3;omega⟩
  . rename_i hk;rw[if_neg hk]
    rcases zeu r h acc p m with m|⟨m1,m2,m3⟩
    . exact .inl m
    . exact .inr ⟨zS _ m1,m2,m3⟩
theorem VM:∀(names:List (Str×NameKind)) (n:Nat) (acc:List (Str×Addr)) (p:Str×Addr),p ∈ acc->p ∈ cellsFrom n names acc
 | [],_,_,_,m=>m
 |(_,k)::r,n,acc,p,m=>by
  unfold cellsFrom
  split
  . exact VM r _ _ p (zS _ m)
  . exact VM r _ _ p m
theorem zed:∀(names:List (Str×NameKind)) (n:Nat) (acc:List (Str×Addr)) (x:Str),(x,NameKind.cell) ∈ names->∃c,(x,c) ∈ cellsFrom n names acc
 |(y,k)::r,n,acc,x,m=>by
  unfold cellsFrom
  rcases zI.mp m with e|m
  . cases e;rw[if_pos (by decide)];exact⟨n,VM r _ _ _ zzB⟩
  . split
    . exact zed r _ _ x m
    . exact zed r _ _ x m
theorem zeq:∀(names:List (Str×NameKind)) (n:Nat) (acc:List (Str×Addr)),(∀p ∈ acc,p.2<n)->(∀p ∈ acc,∀q ∈ acc,p.2=q.2->p.1=q.1)->∀p ∈ cellsFrom n names acc,∀q ∈ cellsFrom n names acc,p.2=q.2->p.1=q.1
 | [],_,_,_,h=>h
 |(y,k)::r,n,acc,lt,h=>by
  unfold cellsFrom
  split
  . refine zeq r (n+1) _ (λp m=>?_) (λp m q m' e=>?_)
    . rcases zI.mp m with z|m
      . subst z;exact Nat.lt_succ_self _
      . exact zyS (lt p m)
    . rcases zI.mp m with z|m
      . rcases zI.mp m' with z'|m'
        . rw[z,z']
        . subst z;have:=lt q m';rw[<-e]at this;exact absurd this (Nat.lt_irrefl _)
      . rcases zI.mp m' with z'|m'
        . subst z';have:=lt p m;rw[e]at this;exact absurd this (Nat.lt_irrefl _)
        . exact h p m q m' e
  . exact zeq r n acc lt h
section
variable{M:Model}{A:Around}{E:Value->Shared->Prop}{s:Shared}
def zbu(scope:Scope)(env:Env)(cl:List (Str×Addr))(L:Addr):Env:=
 {scope:=relabel scope env,locals:=L,globals:=env.globals,cells:=cellsFrom (L+1) scope.names cl,qual:=env.qual,func:=none,code:=env.code,frame:=env.frame,builtins:=env.builtins}
theorem zkK{scope:Scope}{env:Env}{cl:List (Str×Addr)}{Q:Env->Shared->Prop}
 (h:∀h' env',{env' with scope:=relabel scope env}=zbu scope env cl s.heap.objs.size->env'.locals=s.heap.objs.size->(∀b o,s.heap.get? b=some o->h'.get? b=some o)->h'.Ns s.heap.objs.size (λ_=>none)->
  (∀p ∈ cellsFrom (s.heap.objs.size+1) scope.names cl,p ∈ cl\/((p.1,NameKind.cell) ∈ scope.names/\h'.IsCell p.2 none/\s.heap.objs.size+1<=p.2))->Q env' {s with heap:=h'}):
 wpAny M A (newFunctionEnv scope env.globals cl [] env.qual none .none (some env)) Q E s:=by
 simp only[newFunctionEnv,Option.isSome_some,if_true];refine zyX (wpAny_alloc ?_);refine zyX (wpAny_layCells _ (λname kind cells=>by cases hkc:kind==NameKind.cell<;>simp[hkc]) _ _ _ _ ?_);have e:(s.heap.push {cls:=.type "dict",data:=.dict #[]}).objs.size=s.heap.objs.size+1:=QzE ..;refine zyX (zyY (zyY (h _ _ ?_ rfl (λb o q=>pushCells_keeps _ _ b o (zyZ _ q)) ((Heap.Ns.new s.heap (.type "dict")).keeps (pushCells_keeps _ _)) λp m=>?_)))
 . unfold zbu;rw[<-e]
 . rw[<-e]at m
   rcases zeu _ _ _ p m with m|⟨m1,m2,m3⟩
   . exact .inl m
   . exact .inr ⟨m1,m2,by rw[e]at m3;exact m3⟩
end
abbrev wA(X:Cx)(N:List Str)(scope:Scope)(cl:List (Str×Addr))(s:Shared)(H:Hp)(fp:List Addr):Cx:=
 {X with N:=N,s₀:=s,H₀:=H,env:=zbu scope X.env cl (s.heap.objs.size+1),outer:=X.stack,ex:=fp,fn:=λx=>scope.names.lookup x==some .cell,pn:=[],xe:=λ_ _=>False}
def ztT(σ:St):Option Nat->Option V
 |none=>none
 |some j=>(σ[j]?).getD none
def ZD(cap:List (Option Nat))(σ:St):St:=cap.map (ztT σ)
def wW(N XN:List Str)(names:List (Str×NameKind))(envNames:List (Str×NameKind))(cap:List (Option Nat)):Bool:=
 N.length==cap.length&&(N.zip cap).all (λp=>match p.2 with|none=>true|some j=>XN[j]? == some p.1&&names.contains (p.1,NameKind.free)) &&
 names.all (λp=>p.2 != .free||envNames.lookup p.1==some .cell||envNames.lookup p.1==some .free)&&decide (names.map (·.1)).Nodup
def PTs(X:Cx)(ifs:List Expr)(t:TT):Prop:=
 ∀(pins:List (Addr×Obj)) (s:Shared) (σ:St) (H:Hp) (Q:Bool->Hp->Prop),Inv X pins σ H s->t σ H Q->
  wpAny (model X.prog X.w) X.A (forIn ifs true λc r=>if r=true then do let ok <-isTrue c X.env (eval c X.env);pure (ForInStep.yield ok)else pure (ForInStep.yield r)) (TP X pins σ Q) X.xe s
theorem znQ{X:Cx}:PTs X [] (λ_ H Q=>Q true H):=λpins s σ H Q I h=>wpAny_tests_nil ⟨H,I,h⟩
theorem zsB{X:Cx}{c:Expr}{t:TT}(h:PT X c t):PTs X [c] t:=λpins s σ H Q I q=>wpAny_tests_one (h pins s σ H Q I q)
def zot(wi:TI)(cap:List (Option Nat))(g:TG)(tt:TT)(te:TE):TE:=λσ H Q=>wi σ H λJ H1=>∃W:Nat->Nat->List V->Hp->Prop,(∃m,W 0 m [] H1)/\∀i m ys H,W i m ys H->ys.length<=sizeLine/\
 ((J.stop i H/\∀p,H p=none->Q (.ref p) (upd H p (.lst ys)))\/(J.go i H/\∀x H',J.yld i H x H'->g x (ZD cap σ) H' λσ2 H2=>(∀(j:Nat) v,(ZD cap σ)[j]? = some (some v)->σ2[j]? = some (some v))/\
   tt σ2 H2 λb H3=>if b=true then ys.length<sizeLine/\te σ2 H3 λy H4=>∃m',m'<m/\W (i+1) m' (ys++[y]) H4 else ∃m',m'<m/\W (i+1) m' ys H3))
section
variable{prog:Program}{w:World}{A:Around}{E:Value->Shared->Prop}{R:Result->Shared->Prop}{s:Shared}
theorem zjJ{elt target iter:Expr}{ifs:List Expr}{scope:Scope}{pos:Pos}{it acc:Value}{env:Env}(I:Nat->Shared->Prop)
 (turn:∀n s (E:Value->Shared->Prop),I n s->wpAny (model prog w) A (pyNext it) (λr s₁=>match r with
  |none=>R (.ok .next) s₁
  |some v=>wpAny (model prog w) A (letOwnedTupleGo target it v) (λ_ s₁=>wpAny (model prog w) A (assign target env v) (λ_ s₂=>
   wpAny (model prog w) A (forIn ifs true λc r=>if r=true then do let ok <-isTrue c env (eval c env);pure (ForInStep.yield ok)else pure (ForInStep.yield r)) (λok s₃=>
    if ok=true then wpAny (model prog w) A (eval elt env) (λx s₄=>
     wpAny (model prog w) A (call (.builtin "list.append") [acc,x]) (λ_ s₅=>∃m,m<n/\I m s₅) E s₄) E s₃
    else ∃m,m<n/\I m s₃) E s₂) E s₁) E s₁) E s)
 (n:Nat) (h:I n s):
 codeAny (model prog w) A (.compLoop (.ListComp elt [⟨target,iter,ifs,0⟩] scope pos) 0 it acc env) R s:=by
 refine codeAny_loop rfl I (λn s hI=>?_) n h;show wpAny _ A ((compTurn (.ListComp elt [⟨target,iter,ifs,0⟩] scope pos) 0 it acc env).onRaise (λx=>do noteFrame x env;theTreesLotGoes x)) _ _ s;refine wpAny_noted ?_;rw[compTurn_list];refine zyX (wpAny_standAt (zyX (QzF (turn n s _ hI) (λr s₁ h₁=>?_) λ_ _ h'=>h')));cases r with
 |none=>exact zyY h₁
 |some v=>
  refine zyX (QzF h₁ (λ_ s₁ h₁=>?_) λ_ _ h'=>h');refine zyX (QzF h₁ (λ_ s₂ h₂=>zyX (QzF h₂ (λok s₃ h₃=>?_) λ_ _ h'=>h')) λ_ _ h'=>h');cases ok with
  |false=>exact zyY ⟨rfl,h₃⟩
  |true=>
   exact zyX (zyX (QzF h₃ (λx s₄ h₄=>zyX (QzF h₄ (λ_ s₅ h₅=>zyY (zyY ⟨rfl,h₅⟩)) λ_ _ h'=>h')) λ_ _ h'=>h'))
end
structure CapOk(N XN:List Str)(names:List (Str×NameKind))(envNames:List (Str×NameKind))(cap:List (Option Nat)):Prop where
 len:N.length=cap.length
 at_:∀(i:Nat) x (j:Nat),N[i]? = some x->cap[i]? = some (some j)->XN[j]? = some x/\(x,NameKind.free) ∈ names
 fr:∀p ∈ names,p.2 = .free->envNames.lookup p.1=some .cell\/envNames.lookup p.1=some .free
 nd:(names.map (·.1)).Nodup
theorem zlz{N XN:List Str}{names envNames:List (Str×NameKind)}{cap:List (Option Nat)}(h:wW N XN names envNames cap=true):CapOk N XN names envNames cap:=by
 unfold wW at h;simp only[zzW,beq_iff_eq,List.all_eq_true,decide_eq_true_eq]at h;obtain⟨⟨⟨h1,h2⟩,h3⟩,h4⟩:=h;refine⟨h1,λi x j e1 e2=>?_,λp hp e=>?_,h4⟩
 . have m:(x,some j) ∈ N.zip cap:=zzU (i:=i) (by rw[List.getElem?_zip_eq_some];exact⟨e1,e2⟩);have:=h2 _ m;simp only[zzW,beq_iff_eq]at this;exact⟨this.1,by simpa using this.2⟩
 . have:=h3 p hp;rw[e]at this;simpa using this
theorem zkM{names:List (Str×NameKind)}(h:(names.map (·.1)).Nodup){x:Str}{k k':NameKind}(m:(x,k) ∈ names)(m':(x,k') ∈ names):k=k':=by
 induction names with
 |nil=>cases m
 |cons p r ih=>
  obtain⟨h1,h2⟩:=zzR.mp (show(p.1::r.map (·.1)).Nodup from h)
  rcases zI.mp m with e|m
  . rcases zI.mp m' with e'|m'
    . rw[<-e]at e';cases e';rfl
    . exact absurd (zyV.mpr ⟨_,m',by rw[<-e]⟩) h1
  . rcases zI.mp m' with e'|m'
    . exact absurd (zyV.mpr ⟨_,m,by rw[<-e']⟩) h1
    . exact ih h2 m m'
theorem zdS{names:List (Str×NameKind)}(h:(names.map (·.1)).Nodup){x:Str}{k:NameKind}(m:(x,k) ∈ names):names.lookup x=some k:=
 W7 (λp hp e=>by obtain⟨y,k'⟩:=p;cases(show y=x from e);exact zkM h hp m) ⟨k,m⟩
theorem zaJ{env:Env}{scope:Scope}(x:Str):(relabel scope env).names.lookup x=(scope.names.lookup x).map λk=>if(k == .free&&env.scope.kind == .function&&env.kindOf x==some .cell)=true then NameKind.cell else k:=by
 unfold relabel;show(scope.names.map _).lookup x=_;generalize scope.names=names
 induction names with
 |nil=>rfl
 |cons p r ih=>
  obtain⟨n,k⟩:=p;rw[zyM,List.lookup_cons (k:=n) (as:=r)];cases hb:x==n with
  |true=>
   have e:x=n:=beq_iff_eq.mp hb;subst e;show List.lookup x ((if(k==NameKind.free&&env.scope.kind == .function&&env.kindOf x==some .cell)=true then(x,NameKind.cell)else(x,k))::_)=_;show _=some (if(k==NameKind.free&&env.scope.kind == .function&&env.kindOf x==some .cell)=true then NameKind.cell else k)
   split
   . rw[List.lookup_cons,hb]
   . rw[List.lookup_cons,hb]
  |false=>
   show List.lookup x ((if(k==NameKind.free&&env.scope.kind == .function&&env.kindOf n==some .cell)=true then(n,NameKind.cell)else(n,k))::_)=_
   split
   . rw[List.lookup_cons,hb];exact ih
   . rw[List.lookup_cons,hb];exact ih
theorem znu{X:Cx}{pins:List (Addr×Obj)}{σ:St}{H:Hp}{s:Shared}{N:List Str}{scope:Scope}{cap:List (Option Nat)}{fp:List Addr}{h':Heap}(I:Inv X pins σ H s)(C:CapOk N X.N scope.names X.env.scope.names cap)(hk:scope.kind = .function)
 (hf:∀b ∈ fp,zfy X pins H b) (ho:∀b ∈ fp,∃o,s.heap.get? b=some o)
 (old:∀b o,s.heap.get? b=some o->h'.get? b=some o) (ns:h'.Ns (s.heap.objs.size+1) (λ_=>none))
 (hc:∀p ∈ cellsFrom (s.heap.objs.size+1+1) scope.names (v8 X.env scope.names []),p ∈ v8 X.env scope.names []\/((p.1,NameKind.cell) ∈ scope.names/\h'.IsCell p.2 none/\s.heap.objs.size+1+1<=p.2)):
 Inv (wA X N scope (v8 X.env scope.names []) s H fp) [] (ZD cap σ) H {s with heap:=h'}:=by
 have has:∀x,(x,NameKind.free) ∈ scope.names->∃c,X.env.cells.lookup x=some c:=λx m=>I.ok.has x (C.fr _ m rfl);have clo:∀p ∈ v8 X.env scope.names [],X.env.cells.lookup p.1=some p.2/\(p.1,NameKind.free) ∈ scope.names:=λp m=>by
  rcases ziB _ _ p m with z|⟨z1,z2⟩
  . cases z
  . obtain⟨c,e⟩:=has _ z1;rw[e]at z2;exact⟨by rw[e];exact congrArg some z2.symm,z1⟩
 have look:∀x c,(cellsFrom (s.heap.objs.size+1+1) scope.names (v8 X.env scope.names [])).lookup x=some c->(X.env.cells.lookup x=some c/\(x,NameKind.free) ∈ scope.names)\/((x,NameKind.cell) ∈ scope.names/\h'.IsCell c none/\s.heap.objs.size+1+1<=c):=λx c e=>by
  rcases hc _ (mem_of_lookup e)with m|m
  . exact .inl (clo _ m)
  . exact .inr m
 have lt:∀x c,X.env.cells.lookup x=some c->c<s.heap.objs.size:=λx c e=>by obtain⟨v,z⟩:=I.cell x c e;exact z.lt
 have lookF:∀x,(x,NameKind.free) ∈ scope.names->∃c,(cellsFrom (s.heap.objs.size+1+1) scope.names (v8 X.env scope.names [])).lookup x=some c/\X.env.cells.lookup x=some c:=λx m=>by
  obtain⟨c,e⟩:=has x m;have m1:=VM scope.names (s.heap.objs.size+1+1) _ _ (ziI (env:=X.env) scope.names [] x m);refine⟨c,W7 (λp hp ep=>?_) ⟨_,m1⟩,e⟩
  rcases hc p hp with z|z
  . have:=(clo p z).1;rw[ep,e]at this;exact(zzT this).symm
  . rw[ep]at z;exact absurd (zkM C.nd z.1 m) (by decide)
 have kinds:∀x,((relabel scope X.env).names.lookup x=some .cell\/(relabel scope X.env).names.lookup x=some .free)->(x,NameKind.free) ∈ scope.names\/(x,NameKind.cell) ∈ scope.names:=λx h=>by
  rw[zaJ]at h;cases e:scope.names.lookup x with
  |none=>rw[e]at h;rcases h with h|h<;>cases h
  |some k=>
   have m:=mem_of_lookup e;cases k with
   |free=>exact .inl m
   |cell=>exact .inr m
   |_=>rw[e]at h;rcases h with h|h<;>(simp at h)
 have lsz:s.heap.objs.size+1<h'.objs.size:=ns.lt;refine⟨⟨I.ok.mod,hk,I.ok.glob,I.ok.blt,zyQ _, ?_, ?_, ?_,I.ok.hd,I.ok.frames,.inl rfl, ?_,I.bs,zzK I.ok.bsz I.sz, ?_, ?_,I.stack,I.stkFree⟩,rfl,I.bare,(Un.kept old),⟨_,ns, ?_⟩, ?_,I.hok.fresh (zyQ _), ?_,(λ_ z=>nomatch z),I.hok.kept old, ?_⟩
 . intro x y c e1 e2;refine zeq scope.names (s.heap.objs.size+1+1) _ (λp m=>?_) (λp m q m' e=>?_) (x,c) (mem_of_lookup e1) (y,c) (mem_of_lookup e2) rfl
   . exact zyS (zyS (lt _ _ (clo p m).1))
   . refine I.ok.inj _ _ _ (clo p m).1 ?_;rw[e];exact(clo q m').1
 . intro x h
   rcases kinds x h with m|m
   . obtain⟨c,e,_⟩:=lookF x m;exact⟨c,e⟩
   . obtain⟨c,e⟩:=zed scope.names (s.heap.objs.size+1+1) (v8 X.env scope.names []) x m;cases q:(cellsFrom (s.heap.objs.size+1+1) scope.names (v8 X.env scope.names [])).lookup x with
     |some c'=>exact⟨c',q⟩
     |none=>
      exfalso;have:=List.lookup_eq_none_iff.mp q (x,c) e;simp at this
 . intro x c hx e;have hx:(scope.names.lookup x==some .cell)=true:=hx;have m:=mem_of_lookup (beq_iff_eq.mp hx)
   rcases look x c e with z|z
   . exact absurd (zkM C.nd z.2 m) (by decide)
   . exact zzK (zzK (zyQ _) (zyQ _)) z.2.2
 . intro b hb;obtain⟨o,e⟩:=ho b hb;refine⟨zzM (zyS (QzA e)),λx c ec=>?_⟩
   rcases look x c ec with z|z
   . exact(hf b hb).2.2.2.2.1 x c z.1
   . have:=QzA e;intro q;subst q;exact absurd (zzG this (zzK (zzK (zyQ _) (zyQ _)) z.2.2)) (Nat.lt_irrefl _)
 . intro b o e hb
   rcases(hf b hb).2.2.2.1 with z|z
   . exact I.ok.noex b o e z
   . exact absurd (zzG (QzA e) (zzK I.ok.bsz z)) (Nat.lt_irrefl _)
 . intro b hb hm
   rcases zI.mp (I.stkSub b hm)with z|z
   . exact(hf b hb).2.1 z
   . exact(hf b hb).2.2.1 z
 . intro i x v e1 e2 e3;have e2:(ZD cap σ)[i]? = some (some v):=e2;unfold ZD at e2;rw[zzE]at e2;cases ec:cap[i]? with
   |none=>rw[ec]at e2;cases e2
   |some c=>
    cases c with
    |none=>rw[ec]at e2;cases e2
    |some j=>
     rw[ec]at e2;have e2:(σ[j]?).getD none=some v:=zzT e2;obtain⟨xn,m⟩:=C.at_ i x j e1 ec;have es:σ[j]? = some (some v):=by
      cases q:σ[j]? with
      |none=>rw[q]at e2;cases e2
      |some y=>rw[q]at e2;exact congrArg some e2
     have kf:=C.fr _ m rfl;obtain⟨mm,hn,hl⟩:=I.loc;obtain⟨u,r,l⟩:=hl j x v xn es (by rcases kf with k|k;exact .inr (.inl k);exact .inr (.inr k));refine⟨u,r,.inr ⟨?_, ?_⟩⟩
     . show(relabel scope X.env).names.lookup x=some .cell\/(relabel scope X.env).names.lookup x=some .free;rw[zaJ,zdS C.nd m];show some (if _ then _ else _)=_\/some (if _ then _ else _)=_
       split
       . exact .inl rfl
       . exact .inr rfl
     . obtain⟨c,ec,eo⟩:=lookF x m;refine⟨c,ec, ?_⟩
       rcases l with⟨k1,_⟩|⟨_,c2,e4,z⟩
       . have k1:X.env.scope.names.lookup x=some .local:=k1
         rcases kf with k|k<;>(rw[k1]at k;cases k)
       . rw[eo]at e4;cases e4;exact z.keeps old
 . intro x c e
   rcases look x c e with z|z
   . obtain⟨v,q⟩:=I.cell x c z.1;exact⟨v,q.keeps old⟩
   . exact⟨none,z.2.1⟩
 . intro x c e
   rcases look x c e with z|z
   . exact I.freeC x c z.1
   . exact I.hok.fresh (zzK (zzK (zyQ _) (zyQ _)) z.2.2)
 . show(ZD cap σ).length=N.length;unfold ZD;rw[zD,C.len]
abbrev lobj(its:List Value):Obj:={cls:=.type "list",data:=.seq its.toArray its.length}
section
variable{X:Cx}{pins:List (Addr×Obj)}{σ:St}{H2:Hp}{s2:Shared}{elt tg iter:Expr}{ifs:List Expr}{scope:Scope}{pos:Pos}{N:List Str}{cap:List (Option Nat)}{g:TG}{tt:TT}{te:TE}{wi:TI}
set_option maxHeartbeats 1000000
theorem zgz{J:It}{it:Addr}{fp:List Addr}{tn:Nat->Heap->Prop}{Q:VK}{R:Value->Addr->Result->Shared->Prop}{E:Value->Shared->Prop}
 (hc:X.calm=true) (C:CapOk N X.N scope.names X.env.scope.names cap) (hk:scope.kind = .function)
 (hg:∀cl s H fp,PG (wA X N scope cl s H fp) tg g) (ht:∀cl s H fp,PTs (wA X N scope cl s H fp) ifs tt) (he:∀cl s H fp,PE (wA X N scope cl s H fp) elt te)
 (I2:Inv X pins σ H2 s2) (T:Turn X.prog X.w X.K tg J fp it tn) (st2:tn 0 s2.heap) (f2:∀b ∈ fp,zfy X pins H2 b)
 (W:Nat->Nat->List V->Hp->Prop) (m0:Nat) (w0:W 0 m0 [] H2)
 (turn:∀i m ys H,W i m ys H->ys.length<=sizeLine/\((J.stop i H/\∀p,H p=none->Q (.ref p) (upd H p (.lst ys)))\/(J.go i H/\∀x H',J.yld i H x H'->g x (ZD cap σ) H' λσ2 H2=>(∀(j:Nat) v,(ZD cap σ)[j]? = some (some v)->σ2[j]? = some (some v))/\
  tt σ2 H2 λb H3=>if b=true then ys.length<sizeLine/\te σ2 H3 λy H4=>∃m',m'<m/\W (i+1) m' (ys++[y]) H4 else ∃m',m'<m/\W (i+1) m' ys H3)))
 (fin:∀ys H3 s1 m,Inv X pins σ (upd H3 s2.heap.objs.size (.lst ys)) s1->s1.heap.Ns (s2.heap.objs.size+1) m->zfy X pins (upd H3 s2.heap.objs.size (.lst ys)) (s2.heap.objs.size+1)->
  Q (.ref s2.heap.objs.size) (upd H3 s2.heap.objs.size (.lst ys))->R (.ref s2.heap.objs.size) (s2.heap.objs.size+1) (.ok .next) s1):
 wpAny (model X.prog X.w) X.A (newList []) (λacc s₃=>wpAny (model X.prog X.w) X.A (newFunctionEnv scope X.env.globals (v8 X.env scope.names []) [] X.env.qual none .none (some X.env)) (λcenv s₄=>
  codeAny (model X.prog X.w) X.A (.compStart (.ListComp elt [⟨tg,iter,ifs,0⟩] scope pos) 0 (.ref it) acc {cenv with scope:=relabel scope X.env}) (R acc cenv.locals) s₄) E s₃) E s2:=by
 refine QzC (zkK λh' env' eE eL old hns hcells=>?_);have e1:(s2.heap.push {cls:=.type "list",dict:=none,data:=.seq ([]:List Value).toArray}).objs.size=s2.heap.objs.size+1:=QzE ..;dsimp only at eE eL old hns hcells;rw[e1]at eE eL hns hcells;have hD0:(s2.heap.push {cls:=.type "list",dict:=none,data:=.seq ([]:List Value).toArray}).get? s2.heap.objs.size=some (lobj []):=QzB _ rfl;have hD:h'.get? s2.heap.objs.size=some (lobj []):=old _ _ hD0;have old':∀b o,s2.heap.get? b=some o->h'.get? b=some o:=λb o q=>old b o (zyZ _ q);have fex:∀b ∈ fp,∃o,s2.heap.get? b=some o:=λb hb=>by obtain⟨o,e,_⟩:=T.obj _ _ st2 b hb;exact⟨o,e⟩
 have flt:∀b ∈ fp,b<s2.heap.objs.size:=λb hb=>by obtain⟨o,e⟩:=fex b hb;exact QzA e
 have I':=znu I2 C hk f2 fex old' hns hcells;rw[eE,eL];generalize hX:wA X N scope (v8 X.env scope.names []) s2 H2 fp=X' at I';have xP:X'.prog=X.prog:=by rw[<-hX]
 have xw:X'.w=X.w:=by rw[<-hX]
 have xK:X'.K=X.K:=by rw[<-hX]
 have xA:X'.A=X.A:=by rw[<-hX]
 have xe:X'.env=zbu scope X.env (v8 X.env scope.names []) (s2.heap.objs.size+1):=by rw[<-hX]
 have xL:X'.env.locals=s2.heap.objs.size+1:=by rw[xe];rfl
 have xfs:X'.fs=frs X.stack:=by rw[<-hX]
 have xex:X'.ex=fp:=by rw[<-hX]
 have xs:X'.s₀=s2:=by rw[<-hX]
 have xH:X'.H₀=H2:=by rw[<-hX]
 have xpn:X'.pn=[]:=by rw[<-hX]
 have xc:X'.calm=true:=by rw[<-hX];exact hc
 have xE:X'.xe=λ_ _=>False:=by rw[<-hX]
 have hg':PG X' tg g:=by rw[<-hX];exact hg _ _ _ _
 have ht':PTs X' ifs tt:=by rw[<-hX];exact ht _ _ _ _
 have he':PE X' elt te:=by rw[<-hX];exact he _ _ _ _
 have H2D:H2 s2.heap.objs.size=none:=I2.hok.fresh (zzJ _);have Dfs:s2.heap.objs.size ∉ X'.fs:=by
  rw[xfs];intro hm
  rcases zI.mp (I2.stkSub _ hm)with z|z
  . exact absurd I2.lt (by rw[<-z];exact Nat.lt_irrefl _)
  . exact I2.nofs (zzJ _) z
 have DL:s2.heap.objs.size≠X'.env.locals:=by rw[xL];exact zzM (Nat.lt_succ_self _)
 have pinD:∀{σ':St}{H':Hp}{s':Shared}{its:List Value}{ps:List (Addr×Obj)},Inv X' ps σ' H' s'->s'.heap.get? s2.heap.objs.size=some (lobj its)->H' s2.heap.objs.size=none->Inv X' [(s2.heap.objs.size,lobj its)] σ' H' s':=λI e n=>
  I.pins_of λp hp=>by
   cases zzN.mp hp;exact⟨e,n,DL,Dfs,λv z=>by cases z⟩
 have stat:∀{H':Hp}{its:List Value},(∀b ∈ fp,H' b=none)->∀b ∈ fp,zfy X' [(s2.heap.objs.size,lobj its)] H' b:=λhn b hb=>by
  refine⟨hn b hb, ?_, ?_,.inl (by rw[xex];exact hb),(I'.ok.exf b (by rw[xex];exact hb)).2,λp hp=>?_⟩
  . exact(I'.ok.exf b (by rw[xex];exact hb)).1
  . exact I'.ok.exfs b (by rw[xex];exact hb)
  . rw[xpn,List.nil_append]at hp;cases zzN.mp hp;exact Nat.ne_of_gt (flt b hb)
 have loop:∀(n:Nat) (s':Shared),(∃i ys its H3,Inv X' [(s2.heap.objs.size,lobj its)] (ZD cap σ) H3 s'/\tn i s'.heap/\(∀b ∈ fp,H3 b=none)/\Vals ys its/\W i n ys H3)->
  codeAny (model X.prog X.w) X.A (.compLoop (.ListComp elt [⟨tg,iter,ifs,0⟩] scope pos) 0 (.ref it) (.ref s2.heap.objs.size) (zbu scope X.env (v8 X.env scope.names []) (s2.heap.objs.size+1)))
   (R (.ref s2.heap.objs.size) (s2.heap.objs.size+1)) s':=by
  intro n s' h0;refine zjJ (λn s'=>∃i ys its H3,Inv X' [(s2.heap.objs.size,lobj its)] (ZD cap σ) H3 s'/\tn i s'.heap/\(∀b ∈ fp,H3 b=none)/\Vals ys its/\W i n ys H3) ?_ n h0;clear h0 n s'
  rintro n s3 E' ⟨i,ys,its,H3,I3,st3,fr3,rv3,w3⟩
  obtain⟨hz,hstep⟩:=turn i n ys H3 w3
  rcases hstep with⟨stop,qn⟩|⟨go,step⟩
  . have:=T.done X' xP xw xK xc i _ s3 _ H3 E' I3 (stat fr3) st3 stop;rw[xA]at this;refine QzF this (λr s4 ⟨hr,I4⟩=>?_) λ_ _ z=>z;subst hr;obtain⟨gD,nD,_⟩:=I4.pin (s2.heap.objs.size,lobj its) (by rw[xpn];simp);obtain⟨m,hn,_⟩:=I4.loc;rw[xL]at hn;have b4:=I4.base;rw[xfs,xex,xH,xs]at b4;have nL:H3 (s2.heap.objs.size+1)=none:=by have:=I4.free;rw[xL]at this;exact this
    have neD:∀b o,s2.heap.get? b=some o->b≠s2.heap.objs.size:=λb o e=>zzM (QzA e);have neH:∀b u,H2 b=some u->b≠s2.heap.objs.size:=λb u e z=>by rw[z,H2D]at e;cases e
    have ne3:∀b u,H3 b=some u->b≠s2.heap.objs.size:=λb u e z=>by rw[z,nD]at e;cases e
    have hok4:=I4.hok;rw[xP,xw]at hok4;refine fin ys H3 s4 m (I2.call' (ch:=fp) ?_ ⟨b4.keep,b4.slot,λb o e n hx=>?_,b4.there,λb xs e=>?_,λb o u e=>?_,λb ps e=>?_⟩ ?_ I4.bare λb hb=>?_) hn (I2.fpOk (zyQ _) (by rw[yg (Nat.ne_of_gt (Nat.lt_succ_self _))];exact nL)) (qn _ nD)
    . have:=I4.os;rw[xs]at this;exact this
    . rw[yg (neD b o e)];exact b4.free b o e n hx
    . rw[yg (neH b _ e)];exact b4.tups b xs e
    . rw[yg (neH b _ e)];exact b4.frzs b o u e
    . rw[yg (neH b _ e)];exact b4.tbls b ps e
    . intro b u e
      by_cases hb:b=s2.heap.objs.size
      . subst hb;rw[yw]at e;cases e;exact⟨hz,its,its.length,rv3,gD⟩
      . rw[yg hb]at e;exact(hok4 b u e).stay (λc v _ q=>q) (λc q=>by rw[yg (ne3 c _ q)];exact q) λc xs q=>by rw[yg (ne3 c _ q)];exact q
    . obtain⟨f0,f1,f3,f4,f5,f6⟩:=f2 b hb;exact⟨f4,f1,f5,f6⟩
  . have:=T.item X' xP xw xK xc i _ s3 _ H3 E' I3 (stat fr3) st3 go;rw[xA]at this;refine QzF this (λr s4 ⟨u,hr,h4⟩=>?_) λ_ _ z=>z;subst hr;refine QzF h4 (λ_ s5 ⟨x,H5,I5,r5,y5,st5,fr5⟩=>?_) λ_ _ z=>z;have I5':=I5.pinned (stat fr5) (T.obj _ _ st5);have h6:=hg' _ s5 _ H5 x u _ I5' r5 (step x H5 y5);rw[xP,xw,xA,xe,xE]at h6;refine QzF h6 (λ_ s6 ⟨σ6,H6,I6,cap6,q6⟩=>?_) λ_ _ z=>z.elim;have h7:=ht' _ s6 σ6 H6 _ I6 q6;rw[xP,xw,xA,xe,xE]at h7;refine QzF h7 (λb s7 ⟨H7,I7,q7⟩=>?_) λ_ _ z=>z.elim;have keep:∀{H8:Hp}{s8:Shared},Inv X' ([(s2.heap.objs.size,lobj its)]++zht fp s5.heap) σ6 H8 s8->Inv X' [(s2.heap.objs.size,lobj its)] (ZD cap σ) H8 s8/\tn (i+1) s8.heap/\∀b ∈ fp,H8 b=none:=λ{H8 s8} I8=>by
     refine⟨I8.unpinned.weak ?_ cap6,T.keep _ _ _ st5 λb hb o e=>(I8.pin (b,o) (zzH _ (zzH _ (zat hb e)))).1,λb hb=>?_⟩
     . rw[I3.len];exact I8.len.symm
     . obtain⟨o,e,d⟩:=T.obj _ _ st5 b hb;exact(I8.pin (b,o) (zzH _ (zzH _ (zat hb e)))).2.1
    cases b with
    |false=>
     obtain⟨m',hm,w7⟩:=q7;obtain⟨k1,k2,k3⟩:=keep I7;exact⟨m',hm,i+1,ys,its,H7,k1,k2,k3,rv3,w7⟩
    |true=>
     obtain⟨hz2,q7⟩:=q7;have h8:=he' _ s7 σ6 H7 _ I7 q7;rw[xP,xw,xA,xe,xE]at h8;show wpAny _ _ _ _ _ _;refine QzF h8 (λyv s8 ⟨y,H8,I8,ry,m',hm,w8⟩=>?_) λ_ _ z=>z.elim;obtain⟨k1,k2,k3⟩:=keep I8;obtain⟨gD,nD,_⟩:=k1.pin (s2.heap.objs.size,lobj its) (by rw[xpn];simp);have hl:=rv3.length;refine append_at gD (λh9 sb gD9=>?_) (by rw[zzD];omega);have I9:Inv X' [] (ZD cap σ) H8 {s8 with heap:=h9}:=(k1.pins_of (pins':=[]) (λ_ z=>nomatch z)).turned (t':=s8.toks) (it:=s2.heap.objs.size) (λb o hb e=>(sb.2 b hb).trans e) nD DL (.inr (by rw[xs];exact zzJ _)) (λx c ec z=>by
      obtain⟨v,o,ho,hd⟩:=k1.cell x c ec;rw[z,gD]at ho;cases ho;cases hd) (λp hp=>by rw[xpn]at hp;cases hp)
     have gD9':h9.get? s2.heap.objs.size=some (lobj (its++[yv])):=by
      rw[gD9]
      congr 1
      show({cls:=.type "list",data:=.seq (its.toArray.push yv) (its.length+1)}:Obj)={cls:=.type "list",data:=.seq (its++[yv]).toArray (its++[yv]).length};rw[zzF,List.length_singleton,List.push_toArray]
     refine⟨m',hm,i+1,ys++[y],its++[yv],H8,pinD I9 gD9' nD,T.keep _ _ _ k2 λb hb o e=>(sb.2 b (zzM (flt b hb))).trans e,k3,rv3.append (.cons ry .nil),w8⟩
 have start:∃i ys its H3,Inv X' [(s2.heap.objs.size,lobj its)] (ZD cap σ) H3 {s2 with heap:=h'}/\tn i h'/\(∀b ∈ fp,H3 b=none)/\Vals ys its/\W i m0 ys H3:=
  ⟨0,[],[],H2,pinD I' hD H2D,T.keep _ _ _ st2 λb hb o e=>old' b o e,λb hb=>(f2 b hb).1,.nil,w0⟩
 exact codeAny_compStart_list (loop m0 _ start) (T.self _ 0 _ _ _ (T.keep _ _ _ st2 λb hb o e=>old' b o e) (loop m0 _ start))
theorem ztr(hc:X.calm=true)(hi:PI X tg iter wi)(hk:scope.kind = .function)(hcap:wW N X.N scope.names X.env.scope.names cap=true)
 (hg:∀cl s H fp,PG (wA X N scope cl s H fp) tg g) (ht:∀cl s H fp,PTs (wA X N scope cl s H fp) ifs tt) (he:∀cl s H fp,PE (wA X N scope cl s H fp) elt te)
 (hs:∀x,foldedSetIterable iter X.env x=pure x):PE X (.ListComp elt [⟨tg,iter,ifs,0⟩] scope pos) (zot wi cap g tt te):=by
 intro pins s σ H Q I h;have C:=zlz hcap;rw[eval_ListComp];refine wpAny_comprehension_free (use:=none) rfl hs (zco λx m e=>I.ok.has x.1 (C.fr x m e)) hk (λy m e=>zdS C.nd (by rw[<-e];exact m)) ?_;refine thn (hi pins s σ H _ I h) λv s1 h1=>thn h1 λitv s2 h2=>?_;obtain⟨it,fp,tn,J,H2,e,I2,T,st2,f2,W,⟨m0,w0⟩,turn⟩:=h2;subst e;refine zgz (R:=λacc C r s'=>compPost (model X.prog X.w) X.A X.xe none (EP X pins σ Q) acc C r s') hc C hk hg ht he I2 T st2 f2 W m0 w0 turn λys H3 s3 m I3 hn fl q=>?_;refine⟨m,hn,λh' sb=>?_⟩;obtain⟨f0,f1,f3,f4,f5,f6⟩:=fl;exact⟨.ref s2.heap.objs.size,_,I3.turned (t':=s3.toks) (λb o hb e=>(sb.2 b hb).trans e) f0 f1 f4 f5 f6,rfl,q⟩
theorem znw{i:Nat}{y:Str}{py spos:Pos}(hN:X.N.Nodup)(hiy:X.N[i]? = some y)(hy:Loc X.env.scope y)(hf:X.fn y=true\/X.env.scope.names.lookup y=some .local)
 (hsw:swapsWith (.ListComp elt [⟨tg,iter,ifs,0⟩] scope pos) (some (.Name y py)) spos.line X.env=pure true)
 (hc:X.calm=true) (hi:PI X tg iter wi) (hk:scope.kind = .function) (hcap:wW N X.N scope.names X.env.scope.names cap=true)
 (hg:∀cl s H fp,PG (wA X N scope cl s H fp) tg g) (ht:∀cl s H fp,PTs (wA X N scope cl s H fp) ifs tt) (he:∀cl s H fp,PE (wA X N scope cl s H fp) elt te)
 (hs:∀x,foldedSetIterable iter X.env x=pure x):PS X (.Assign [.Name y py] (.ListComp elt [⟨tg,iter,ifs,0⟩] scope pos) spos) (zvA (zot wi cap g tt te) (zdA i)):=by
 intro pins s σ H D I h;have C:=zlz hcap;rw[exec_Assign_Name_used _ _ _ _ hsw];refine zyX (wpAny_standAt (zyX ?_));show wpAny _ X.A (do let _ <-comprehension (.ListComp elt [⟨tg,iter,ifs,0⟩] scope pos) scope X.env _ (newList []) false (eval iter X.env) (some (assign (.Name y py) X.env))) _ _ s;refine zyX (QzF (wpAny_comprehension_free (use:=some (assign (.Name y py) X.env)) (Q:=λ_ s'=>SP X pins D .next s') rfl hs (zco λx m e=>I.ok.has x.1 (C.fr x m e)) hk (λy m e=>zdS C.nd (by rw[<-e];exact m)) ?_) (λ_ s' hq=>zyY (zyY hq)) λ_ _ e=>e);refine thn (hi pins s σ H _ I h) λv s1 h1=>thn h1 λitv s2 h2=>?_;obtain⟨it,fp,tn,J,H2,e,I2,T,st2,f2,W,⟨m0,w0⟩,turn⟩:=h2;subst e;refine zgz (Q:=λx H1=>zdA i x σ H1 D.nx) (R:=λacc C r s'=>compPost (model X.prog X.w) X.A X.xe (some (assign (.Name y py) X.env)) (λ_ s'=>SP X pins D .next s') acc C r s') hc C hk hg ht he I2 T st2 f2 W m0 w0 turn λys H3 s3 m I3 hn fl q=>?_;obtain⟨f0,f1,f3,f4,f5,f6⟩:=fl;refine wpAny_assign_Name (ziA I3 hN hiy hy (v:=.ref s2.heap.objs.size) rfl (λs4 I4 ⟨a,sb,ha⟩=>?_) hf);refine⟨m,hn.sameBut sb (λz=>?_),λh' sb'=>?_⟩
 . rcases ha with ha|ha
   . exact f1 (z.trans ha)
   . exact f5 y a ha z.symm
 . exact⟨_,_,I4.turned (t':=s4.toks) (λb o hb e=>(sb'.2 b hb).trans e) f0 f1 f4 f5 f6,q⟩
end
structure ItC(K:zC)(kd:KD)(F:Addr->Prop)(H:Hp)(J:It)(ds:List It1):Prop where
 all:∀(H2:Hp) (T:Addr->Prop),(∀b u,H b=some u->H2 b=some u)->(∀a,T a->H a=none/\H2 a≠none)->∀i,(i<ds.length->J.go i H2)/\(ds.length<=i->J.stop i H2)/\
  ∀v H3,J.yld i H2 v H3->(∀b o,H2 b=some o->H3 b=some o)/\∀x,ds[i]? = some x->Rp K kd (λa=>x.1=true/\(F a\/T a)) H3 v x.2
def alC(K:zC)(kd:KD)(f:IF):TI:=λσ H R=>∃F B ad as ds as',Rel K kd F B [] ad as σ H/\f as=some (ds,as')/\
 ∀J ad' H',Rel K kd F B [] ad' as' σ H'->Grow (Gw [] ad) H (Gw [] ad') H'->ItC K kd (Lv F B (Gw [] ad') true) H' J ds->R J H'
@[irreducible] def AIc(X:Cx)(kd:KD)(tg iter:Expr)(f:IF):Prop:=PI X tg iter (alC X.K kd f)
def zdT(os:List O):List It1:=os.map λo=>match o with | .lf st d=>(st,d)|o=>(false,o.toD)
def zyg(as:AS):RV->Option (List It1)
 | .ow o=>ziD (o.str,o.toD)
 | .bo i=>match as[i]? with
  |some (some (.nd .ls os))=>some (zdT os)
  |some (some (.nd .tp os))=>some (zdT os)
  |_=>none
def Z6(f:EF):IF:=λas=>(f as).bind λp=>(zyg p.2 p.1).bind λds=>some (ds,p.2)
section
variable{K:zC}{kd:KD}{F B:Addr->Prop}{G:Addr->Prop}{T:List Addr}{ad:Ad}{as:AS}{σ:St}{H H':Hp}
inductive RpC(K:zC)(kd:KD)(F:Addr->Prop)(H:Hp):List V->List It1->Prop
 |nil:RpC K kd F H [] []
 |cons {v:V}{x:It1}{vs:List V}{ds:List It1}:Rp K kd (λa=>x.1=true/\F a) H v x.2->RpC K kd F H vs ds->RpC K kd F H (v::vs) (x::ds)
theorem RpC.length{vs:List V}{ds:List It1}(h:RpC K kd F H vs ds):vs.length=ds.length:=by
 induction h with
 |nil=>rfl
 |cons _ _ ih=>exact congrArg (· + 1) ih
theorem RpC.get{vs:List V}{ds:List It1}{i:Nat}{x:It1}(h:RpC K kd F H vs ds)(e:ds[i]? = some x):∃v,vs[i]? = some v/\Rp K kd (λa=>x.1=true/\F a) H v x.2:=by
 induction h generalizing i with
 |nil=>simp at e
 |cons h r ih=>
  cases i with
  |zero=>simp at e;subst e;exact⟨_,rfl,h⟩
  |succ i=>
   obtain⟨v,h1,h2⟩:=ih (i:=i) (by simpa using e);exact⟨v,by simpa using h1,h2⟩
theorem Rp.since{Ob:Addr->Prop}{v:V}{d:D}{T:Addr->Prop}(k:∀b u,H b=some u->H' b=some u)(hT:∀a,T a->H a=none)(h:Rp K kd Ob H v d):Rp K kd (Un2 Ob T) H' v d:=
 Rp.grow (F:=Ob) (W:=λ_=>False) (W':=T) (H':=H') ⟨λb u q _=>k b u q,λb z=>.inr (hT b z)⟩ (h.less λa z=>z.elim id False.elim)
theorem zgN{st:Bool}{vs:List V}{ds:List D}(h:RpL K kd (Lv F B G st) H vs ds):RpC K kd (Lv F B G true) H vs (kids st ds):=
 RpL.ind (P:=λvs ds=>RpC K kd (Lv F B G true) H vs (kids st ds)) .nil (λ{v d vs ds} h _ ih=>by
  refine .cons (x:=(ye d||st,d)) ?_ ih;cases e:ye d with
  |true=>exact h.flat e
  |false=>
   refine h.less λa z=>?_;have zs:st=true:=z.1;rw[zs];exact z.2) h
theorem zud{vs:List V}{os:List O}{fp:List Addr}(h:Y5 K kd F B G H vs os fp):RpC K kd (Lv F B G true) H vs (zdT os):=
 RoL.ind (P:=λvs os _=>RpC K kd (Lv F B G true) H vs (zdT os)) .nil (λ{v o vs os fp fq} h _ ih=>by
  have ha:=zkE h;refine .cons ?_ ih;cases h with
  |lf rp=>exact rp.less λa z=>(by have zs:=z.1;dsimp only at zs;rw[zs];exact z.2)
  |ls=>exact ha.less λa z=>nomatch z.1
  |dc=>exact ha.less λa z=>nomatch z.1
  |ob=>exact ha.less λa z=>nomatch z.1
  |tp=>exact ha.less λa z=>nomatch z.1) h
theorem zhc{a:Addr}{vs:List V}{ds:List It1}(h:SqL K H a vs)(r:RpC K kd F H vs ds):ItC K kd F H (Itl K a) ds:=⟨λH3 T k hT i=>by
 have hr3:SqL K H3 a vs:=by
  rcases h with(h|⟨o,h⟩)|h
  . exact .inl (.inl (k _ _ h))
  . exact .inl (.inr ⟨o,k _ _ h⟩)
  . exact .inr h
 refine⟨λhi=>?_,λhi=>⟨_,hr3,by rw[r.length];exact hi⟩,λv H4 hy=>?_⟩
 . obtain⟨u,hu,_⟩:=r.get (zzA hi);exact⟨_,u,hr3,hu⟩
 . obtain⟨rfl,hv⟩:=hy;refine⟨λ_ _ z=>z,λd hd=>?_⟩;obtain⟨u,hu,ru⟩:=r.get hd;have:=hv _ hr3;rw[hu]at this;cases this;exact(ru.since k λa z=>(hT a z).1).less λa z=>z.2.elim (λy=>.inl ⟨z.1,y⟩) .inr⟩
theorem zog{a:Addr}{vs:List V}{ds:List It1}(h:SqT K H a vs)(r:RpC K kd F H vs ds):ItC K kd F H (Itt K a) ds:=⟨λH3 T k hT i=>by
 have hr3:SqT K H3 a vs:=by
  rcases h with(h|⟨o,h⟩)|h
  . exact .inl (.inl (k _ _ h))
  . exact .inl (.inr ⟨o,k _ _ h⟩)
  . exact .inr h
 refine⟨λhi=>?_,λhi=>⟨_,hr3,by rw[r.length];exact hi⟩,λv H4 hy=>?_⟩
 . obtain⟨u,hu,_⟩:=r.get (zzA hi);exact⟨_,u,hr3,hu⟩
 . obtain⟨rfl,hv⟩:=hy;refine⟨λ_ _ z=>z,λd hd=>?_⟩;obtain⟨u,hu,ru⟩:=r.get hd;have:=hv _ hr3;rw[hu]at this;cases this;exact(ru.since k λa z=>(hT a z).1).less λa z=>z.2.elim (λy=>.inl ⟨z.1,y⟩) .inr⟩
theorem ztA(lo:Int)(n:Nat):ItC K kd F H (Itr lo n) (vg lo n):=⟨λH2 T k hT i=>by
 have hl:(vg lo n).length=n:=by unfold vg;simp
 refine⟨λhi=>by rw[hl]at hi;exact hi,λhi=>by rw[hl]at hi;exact hi,λv H3 hy=>?_⟩;obtain⟨rfl,rfl⟩:=hy;refine⟨λ_ _ z=>z,λd hd=>?_⟩;have hi:i<n:=by rw[<-hl];exact(zzC.mp hd).1
 unfold vg at hd;rw[zzE,List.getElem?_range hi]at hd;cases hd;exact .int _⟩
end
theorem Ym{X:Cx}{kd:KD}{tg e:Expr}{fa:EF}(he:AE X kd e fa):AIc X kd tg e (Z6 fa):=by
 with_unfolding_all (
 intro pins s σ H R I h;obtain⟨F,B,ad,as,ds,as',Rl,e,q⟩:=h;obtain⟨⟨p,as1⟩,h1,e⟩:=bS_ (show(fa as).bind _=_ from e);obtain⟨ys,h2,e⟩:=bS_ e;cases e;cases p with
 |ow o=>
  have h2:ziD (o.str,o.toD)=some ds:=h2;generalize hd:o.toD=d at h2;cases d with
  |lst xs=>
   cases h2;refine zjt he pins s σ H R I ⟨F,B,ad,as,_,as1,Rl,h1,λv T1 ad1 H1 R1 rv1 g1=>?_⟩;have rp:=zjQ R1 rv1;rw[hd]at rp;cases rp with
   |lst hn hr rl=>exact⟨_,rfl,⟨_,.inl hr⟩,q _ ad1 H1 R1.drop (g1.trans (Grow.less Gw.drop)) (zhc (.inl hr) (zgN rl))⟩
   |lstK a b c rl=>exact⟨_,rfl,⟨_,.inr ⟨_,_,_,a,rfl,rfl,rfl,b,c⟩⟩,q _ ad1 H1 R1.drop (g1.trans (Grow.less Gw.drop)) (zhc (.inr ⟨_,_,_,a,rfl,rfl,rfl,b,c⟩) (zgN rl))⟩
  |tup xs=>
   cases h2;refine zmY he pins s σ H R I ⟨F,B,ad,as,_,as1,Rl,h1,λv T1 ad1 H1 R1 rv1 g1=>?_⟩;have rp:=zjQ R1 rv1;rw[hd]at rp;have go:∃a ys,v = .ref a/\SqT X.K H1 a ys/\RpL X.K kd (Lv F B (Gw [] ad1) o.str) H1 ys xs:=by
    cases rp with
    |tup n h r=>exact⟨_,_,rfl,.inl h,r⟩
    |tupK a b c e f r=>exact⟨_,_,rfl,.inr ⟨_,_,_,a,b,c,e,f⟩,r⟩
   obtain⟨a,ys,rfl,hs,rl⟩:=go;exact⟨_,rfl,⟨_,hs⟩,q _ ad1 H1 R1.drop (g1.trans (Grow.less Gw.drop)) (zog hs (zgN rl))⟩
  |_=>cases h2
 |bo i=>
  have h2:(match as1[i]? with|some (some (.nd .ls os))=>some (zdT os)|some (some (.nd .tp os))=>some (zdT os)|_=>none)=some ds:=h2;cases k:as1[i]? with
  |none=>rw[k]at h2;cases h2
  |some s0=>
   rw[k]at h2
   match s0,h2,k with
   |some (.nd .ls os),h2,k=>
    cases h2;refine zjt he pins s σ H R I ⟨F,B,ad,as,_,as1,Rl,h1,λv T1 ad1 H1 R1 rv1 g1=>?_⟩;obtain⟨rfl,hs⟩:=rv1;obtain⟨w,hw,ro⟩:=R1.sl i _ k;rw[hs]at hw;cases hw;generalize hfp:ad1 i=fp at ro;cases ro with
    |ls hH rl=>exact⟨_,rfl,⟨_,.inl (.inl hH)⟩,q _ ad1 H1 R1 g1 (zhc (.inl (.inl hH)) (zud rl))⟩
   |some (.nd .tp os),h2,k=>
    cases h2;refine zmY he pins s σ H R I ⟨F,B,ad,as,_,as1,Rl,h1,λv T1 ad1 H1 R1 rv1 g1=>?_⟩;obtain⟨rfl,hs⟩:=rv1;obtain⟨w,hw,ro⟩:=R1.sl i _ k;rw[hs]at hw;cases hw;generalize hfp:ad1 i=fp at ro;cases ro with
    |tp n hH rl=>exact⟨_,rfl,⟨_,.inl (.inl hH)⟩,q _ ad1 H1 R1 g1 (zog (.inl (.inl hH)) (zud rl))⟩)
theorem vG{X:Cx}{kd:KD}{tg a:Expr}{pos:Pos}{fr:AF}{p:Pos}(hg:Gl X "range")(hm:X.mg "range"=none)(ha:AA X kd [a] fr)(hs:starEach [a] X.env=[(false,eval a X.env)]):AIc X kd tg (.Call (.Name "range" p) [a] [] pos) (vf fr vY):=by
 with_unfolding_all (
 intro pins s σ H R I h;obtain⟨F,B,ad,as,ds,as',Rl,e,q⟩:=h;obtain⟨⟨ps,as1⟩,h1,e⟩:=bS_ (show(fr as).bind _=_ from e);obtain⟨⟨xs,lv⟩,h2,e⟩:=bS_ e;obtain⟨ys,h3,e⟩:=bS_ e;cases e;obtain⟨j,rfl,h3⟩:=znP h3
 . obtain⟨hj,e3⟩:=zZ h3;cases e3;refine zei hg hm ha hs pins s σ H R I ⟨F,B,ad,as,ps,_,Rl,h1,λvs ad1 H1 R1 rv1 g1=>?_⟩;have vl:=zdf R1 rv1 h2;cases vl with
   |cons v1 v2=>
    cases v2;cases v1;exact⟨j,rfl,hj.1,hj.2,q _ ad1 H1 R1 g1 (ztA 0 _)⟩)
def zxD(as:AS):Option Nat->Option O
 |none=>none
 |some j=>match as[j]? with
  |some (some (.lf st d))=>some (.lf st d)
  |some (some o)=>some (.lf false o.toD)
  |_=>none
def WY(cap:List (Option Nat))(as:AS):AS:=cap.map (zxD as)
def xT(g:GF)(tt:TF)(fe:EF)(as0:AS):List It1->Option (List O)
 | []=>some []
 |x::r=>(g x as0).bind λas1=>(tt as1).bind λb=>if b.1=true then(fe b.2).bind λp=>(toO p.2 p.1).bind λq=>if q.1.str=true then(xT g tt fe as0 r).bind λos=>some (q.1::os)else none
  else xT g tt fe as0 r
def yC(fi:IF)(cap:List (Option Nat))(g:GF)(tt:TF)(fe:EF):EF:=λas=>(fi as).bind λp=>if p.1.length<=sizeLine then(xT g tt fe (WY cap p.2) p.1).bind λos=>some (.ow (.nd .ls os),p.2)else none
def xf:TF:=λas=>some (true,as)
section
variable{K:zC}{kd:KD}{F B:Addr->Prop}{T:List Addr}{ad:Ad}{as:AS}{σ:St}{H H':Hp}{cap:List (Option Nat)}
theorem ztw(R:Rel K kd F B [] ad as σ H)(k:∀b u,H b=some u->H' b=some u)(hT:∀a ∈ T,H a=none)(hT':∀a ∈ T,H' a≠none):
 Rel K kd (Un2 (Lv F B (Gw [] ad) true) (· ∈ T)) (λ_=>False) [] (λ_=>[]) (WY cap as) (ZD cap σ) H':=by
 have no:∀a,¬Gw [] (λ_=>[]) a:=λa z=>z.elim (λy=>nomatch y) λ⟨_,y⟩=>nomatch y;have kn:∀a,H a≠none->H' a≠none:=λa z=>by
  cases e:H a with
  |none=>exact absurd e z
  |some u=>rw[k a u e];simp
 have up:∀{st:Bool}{v:V}{d:D},Rp K kd (λa=>st=true/\Lv F B (Gw [] ad) true a) H v d->Rp K kd (Lv (Un2 (Lv F B (Gw [] ad) true) (· ∈ T)) (λ_=>False) (Gw [] λ_=>[]) st) H' v d:=λ{st v d} h=>by
  have:=Rp.grow (F:=λa=>st=true/\Lv F B (Gw [] ad) true a) (W:=λ_=>False) (W':=(· ∈ T)) (H':=H') ⟨λb u q _=>k b u q,λb z=>.inr (hT b z)⟩ (h.less λa z=>z.elim id False.elim);refine this.less λa z=>?_
  rcases z with(⟨z1,z2⟩|z)|z
  . rcases z2 with z2|z2
    . exact .inl ⟨z1,z2⟩
    . exact .inr z2
  . exact z.elim
  . exact(no a z).elim
 refine⟨by unfold WY ZD;rw[zD,zD],λ_ _=>rfl,λ_=>zyD,(λ_ _ _ z=>nomatch z),zyD,(λ_ _ _ z=>nomatch z),λa z=>z.elim (λy=>kn a (R.trk true a y)) (hT' a),(λ_ z=>z.elim),λa z=>(no a z).elim,λi s e=>?_⟩;unfold WY at e;rw[zzE]at e;obtain⟨c,hc,rfl⟩:=Option.map_eq_some_iff.mp e;have es:(ZD cap σ)[i]? = some (ztT σ c):=by
  unfold ZD;rw[zzE,hc];rfl
 rw[es];cases c with
 |none=>rfl
 |some j=>
  show zgx _ _ _ _ _ _ (match as[j]? with|some (some (.lf st d))=>some (.lf st d)|some (some o)=>some (.lf false o.toD)|_=>none) _ _;cases k2:as[j]? with
  |none=>rfl
  |some s0=>
   cases s0 with
   |none=>rfl
   |some o=>
    obtain⟨v,hv,ro⟩:=R.sl j _ k2;cases o with
    |lf st d=>
     have e0:ad j=[]:=by
      generalize hfp:ad j=fp at ro;cases ro;rfl
     rw[e0]at ro;refine⟨v,by show some ((σ[j]?).getD none)=_;rw[hv];rfl,.lf (up ?_)⟩;exact(zhl ro).less λa z=>by have zs:st=true:=z.1;show Lv F B (Gw [] ad) st a;rw[zs];exact z.2
    |nd kk os=>exact⟨v,by show some ((σ[j]?).getD none)=_;rw[hv];rfl,.lf (up ((zkE ro).less λa z=>nomatch z.1))⟩
theorem zpK{S:List Nat}{fi:IF}{g:GF}{tt:TF}{fe:EF}{Q:VK}(hS:∀i ∈ S,cap[i]? = some none)(h:al K kd (yC fi cap g tt fe) σ H Q):
 zot (alC K kd fi) cap (alG K kd S g) (alT K kd tt) (al K kd fe) σ H Q:=by
 obtain⟨F,B,ad,as,r,as',R,e,q⟩:=h;obtain⟨⟨ds,as1⟩,h1,e⟩:=bS_ (show(fi as).bind _=_ from e)
 by_cases hz:ds.length<=sizeLine
 . have e:(if ds.length<=sizeLine then(xT g tt fe (WY cap as1) ds).bind λos=>some (RV.ow (.nd .ls os),as1)else none)=some (r,as'):=e;rw[if_pos hz]at e;obtain⟨os,h2,e⟩:=bS_ e;cases e;refine⟨F,B,ad,as,ds,as',R,h1,λJ ad1 H1 R1 g1 it=>?_⟩;refine⟨λi m ys H3=>m+i=ds.length/\∃T os1 os2,os=os1++os2/\xT g tt fe (WY cap as') (ds.drop i)=some os2/\os1.length<=i/\T.Nodup/\(∀a ∈ T,H1 a=none/\H3 a≠none)/\(∀b u,H1 b=some u->H3 b=some u)/\
    RoL (λ_ v d=>Rp K kd (Un2 (Lv F B (Gw [] ad1) true) (· ∈ T)) H3 v d) (λa=>¬Un2 (Lv F B (Gw [] ad1) true) (· ∈ T) a) H3 ys os1 T,⟨ds.length,rfl,[],[],os,rfl,h2,zzJ _,zyD,(λ_ m=>nomatch m),(λ_ _ z=>z),.nil⟩, ?_⟩
   rintro i m ys H3 ⟨hm,T,os1,os2,eo,ec,hl,tnd,tf,k3,rl⟩
   obtain⟨i1,i2,i3⟩:=it.all H3 (· ∈ T) k3 tf i;have yl:=rl.length;refine⟨by omega, ?_⟩
   by_cases hi:i<ds.length
   . refine .inr ⟨i1 hi,λv H4 hy=>?_⟩;obtain⟨k4,rp⟩:=i3 v H4 hy;rw[zyK hi]at ec;obtain⟨as2,e2,ec⟩:=bS_ (show(g _ _).bind _=_ from ec);obtain⟨⟨b,as3⟩,e3,ec⟩:=bS_ ec;have k14:∀b u,H1 b=some u->H4 b=some u:=λb u h=>k4 b u (k3 b u h);have kn4:∀a,H3 a≠none->H4 a≠none:=λa z=>by
      cases e:H3 a with
      |none=>exact absurd e z
      |some u=>rw[k4 a u e];simp
     have R4:=ztw (cap:=cap) (T:=T) R1 k14 (λa z=>(tf a z).1) (λa z=>kn4 a (tf a z).2);have no:∀a,¬Gw [] (λ_=>[]) a:=λa z=>z.elim (λy=>nomatch y) λ⟨_,y⟩=>nomatch y;refine⟨_,_,_,_,ds[i],as2,R4,(rp _ (zzA hi)).less λa z=>?_,e2,λσ5 ad5 H5 R5 g5 keep5=>⟨λj w hw=>?_,_,_,ad5,as2,b,as3,R5,e3,λad6 H6 R6 g6=>?_⟩⟩
     . rcases z with(z|z)|z
       . exact z
       . exact z.elim
       . exact(no a z).elim
     . rw[keep5 j λz=>?_]
       . exact hw
       . have:=hS j z;unfold ZD at hw;rw[zzE,this]at hw;cases hw
     . -- what stood is kept
       have g46:=g5.trans g6;have k46:∀b u,H4 b=some u->H6 b=some u:=λb u h=>g46.keep b u h (no b);have k36:∀b u,H3 b=some u->H6 b=some u:=λb u h=>k46 b u (k4 b u h);have kn6:∀a,H3 a≠none->H6 a≠none:=λa z=>by
        cases e:H3 a with
        |none=>exact absurd e z
        |some u=>rw[k36 a u e];simp
       have up:∀{H7:Hp}{T2:List Addr},(∀b u,H3 b=some u->H7 b=some u)->(∀a ∈ T2,H3 a=none)->RoL (λ_ v d=>Rp K kd (Un2 (Lv F B (Gw [] ad1) true) (· ∈ T++T2)) H7 v d) (λa=>¬Un2 (Lv F B (Gw [] ad1) true) (· ∈ T++T2) a) H7 ys os1 T:=λ{H7 T2} k7 f7=>
        RoL.mono (λst v d r=>(r.since k7 f7).less λa z=>z.elim (λy=>.inl (.inl y)) λy=>(zzI.mp y).elim (λx=>.inl (.inr x)) .inr)
         (λa vs n e=>⟨λz=>z.elim (λy=>n (.inl y)) λy=>(zzI.mp y).elim (λx=>n (.inr x)) λx=>(by have:=f7 a x;rw[this]at e;cases e),k7 _ _ e⟩) (λa _ u h=>k7 a u h) rl
       cases b with
       |false=>
        have:=up (T2:=[]) k36 (λ_ m=>nomatch m);rw[zzY]at this;exact⟨m-1,by omega,by omega,T,os1,os2,eo,ec,Nat.le_succ_of_le hl,tnd,λa z=>⟨(tf a z).1,kn6 a (tf a z).2⟩,λb u h=>k36 b u (k3 b u h),this⟩
       |true=>
        rw[if_pos rfl]at ec;obtain⟨⟨p,as7⟩,e7,ec⟩:=bS_ ec;obtain⟨⟨o,as8⟩,e8,ec⟩:=bS_ ec
        by_cases hs:o.str=true
        . have ec:(if o.str=true then(xT g tt fe (WY cap as') (ds.drop (i+1))).bind λos=>some (o::os)else none)=some os2:=ec;rw[if_pos hs]at ec;obtain⟨os3,e9,ec⟩:=bS_ ec;cases ec;refine⟨by omega,_,_,ad6,as3,p,as7,R6,e7,λy T2 ad7 H7 R7 rv7 g7=>?_⟩;obtain⟨ad8,R8,ro8,le8⟩:=zgl R7 rv7 e8;have g47:=g46.trans g7;have k47:∀b u,H4 b=some u->H7 b=some u:=λb u h=>g47.keep b u h (no b);have k37:∀b u,H3 b=some u->H7 b=some u:=λb u h=>k47 b u (k4 b u h);have f42:∀a ∈ T2,H4 a=none:=λa z=>(g47.own a (.inl z)).resolve_left (no a);have f32:∀a ∈ T2,H3 a=none:=λa z=>by
             cases e:H3 a with
             |none=>rfl
             |some u=>have:=k4 a u e;rw[f42 a z]at this;cases this
          have rt:=zmX R8 R8.tnd (λa z=>.inl z) ro8 hs;have ro9:Ro (λ_ v d=>Rp K kd (Un2 (Lv F B (Gw [] ad1) true) (· ∈ T++T2)) H7 v d) (λa=>¬Un2 (Lv F B (Gw [] ad1) true) (· ∈ T++T2) a) H7 y o T2:=
             Ro.mono (λst v d r=>r.less λa z=>z.elim (λy=>.inl (.inl y)) λy=>(zzI.mp y).elim (λx=>.inl (.inr x)) .inr)
              (λa vs n e=>⟨λz=>n (z.elim (λy=>.inl (.inl y)) λy=>(zzI.mp y).elim (λx=>.inl (.inr x)) .inr),e⟩) (λ_ _ _ h=>h) rt.ro
          refine⟨m-1,by omega,by omega,T++T2,os1++[o],os3,by rw[eo,zyU];rfl,e9,by rw[zzF,List.length_singleton];omega,zyW.mpr ⟨tnd,rt.nd,λa z b z' e=>?_⟩,λa z=>?_,λb u h=>k37 b u (k3 b u h),(up k37 f32).append (RoL.one ro9)⟩
          . subst e;exact(tf a z).2 (f32 a z')
          . rcases zzI.mp z with z|z
            . refine⟨(tf a z).1, ?_⟩;cases e:H3 a with
              |none=>exact absurd e (tf a z).2
              |some u=>rw[k37 a u e];simp
            . refine⟨?_,rt.tr a z⟩;cases e:H1 a with
              |none=>rfl
              |some u=>have:=k3 a u e;rw[f32 a z]at this;cases this
        . have ec:(if o.str=true then(xT g tt fe (WY cap as') (ds.drop (i+1))).bind λos=>some (o::os)else none)=some os2:=ec;rw[if_neg hs]at ec;cases ec
   . refine .inl ⟨i2 (by omega),λp hp=>?_⟩;rw[List.drop_eq_nil_of_le (by omega)]at ec;cases ec;rw[zzY]at eo;subst eo;have pT:p ∉ T:=λz=>(tf p z).2 hp;have H1p:H1 p=none:=by
      cases e:H1 p with
      |none=>rfl
      |some u=>have:=k3 p u e;rw[hp]at this;cases this
     have kp:∀b u,H3 b=some u->upd H3 p (.lst ys) b=some u:=λb u h=>by rw[yg (yP h hp)];exact h
     obtain⟨R9,g9⟩:=R1.news (T':=p::T) (H':=upd H3 p (.lst ys)) (zzR.mpr ⟨pT,tnd⟩) (λa z=>(zI.mp z).elim (λe=>by rw[e];exact H1p) λz=>(tf a z).1) (λb u h=>kp b u (k3 b u h)) (λa z=>by
      rcases zI.mp z with e|z
      . rw[e,yw];simp
      . cases e:H3 a with
        |none=>exact absurd e (tf a z).2
        |some u=>rw[kp a u e];simp)
     refine q _ (p::T) ad1 _ R9 (.ls yw ?_) (g1.trans g9);have le:∀st a,Lv F B (Gw (p::T) ad1) st a->Un2 (Un2 (Lv F B (Gw [] ad1) true) (· ∈ T)) (· = p) a:=λst a z=>by
      rcases z with(z|z)|z|z
      . exact .inl (.inl (.inl (.inl ⟨rfl,z.2⟩)))
      . exact .inl (.inl (.inl (.inr z)))
      . exact(zI.mp z).elim .inr λy=>.inl (.inr y)
      . exact .inl (.inl (.inr (.inr z)))
     exact RoL.mono (λst v d r=>(r.since kp (T:=(· = p)) λa z=>by rw[z];exact hp).less (le st)) (λa vs n e=>⟨λz=>(le true a z).elim n λy=>(by rw[y,hp]at e;cases e),kp _ _ e⟩) (λa _ u h=>kp a u h) rl
 . have e:(if ds.length<=sizeLine then(xT g tt fe (WY cap as1) ds).bind λos=>some (RV.ow (.nd .ls os),as1)else none)=some (r,as'):=e;rw[if_neg hz]at e;cases e
end
section
variable{X:Cx}{kd:KD}{elt tg iter e a b c:Expr}{es ifs:List Expr}{scope:Scope}{pos:Pos}{N:List Str}{cap:List (Option Nat)}{g:GF}{tt:TF}{fe fa fb:EF}{fi:IF}{S:List Nat}{fr:AF}{fd:DF}
theorem xj:PTs X [] (alT X.K kd xf):=λpins s σ H Q I h=>by
 obtain⟨F,B,ad,as,b,as',R,e,q⟩:=h;cases e;exact znQ pins s σ H Q I (q ad H R Grow.refl)
theorem zsW(h:AT X kd c tt):PTs X [c] (alT X.K kd tt):=by with_unfolding_all exact(zsB h)
theorem xQ(hc:X.calm=true)(hi:AIc X kd tg iter fi)(hk:scope.kind = .function)(hcap:wW N X.N scope.names X.env.scope.names cap=true)(hS:S.all (λi=>cap[i]? == some none)=true)
 (hg:∀cl s H fp,AG (wA X N scope cl s H fp) kd tg S g) (ht:∀cl s H fp,PTs (wA X N scope cl s H fp) ifs (alT X.K kd tt)) (he:∀cl s H fp,AE (wA X N scope cl s H fp) kd elt fe)
 (hs:∀x,foldedSetIterable iter X.env x=pure x):AE X kd (.ListComp elt [⟨tg,iter,ifs,0⟩] scope pos) (yC fi cap g tt fe):=by with_unfolding_all exact(wB (ztr (g:=alG X.K kd S g) (te:=al X.K kd fe) hc hi hk hcap hg ht he hs) λσ H Q h=>zpK (λi m=>by simpa using List.all_eq_true.mp hS i m) h)
theorem zfG{z:Bool}{i:Nat}{y:Str}{py spos:Pos}(hN:X.N.Nodup)(hiy:X.N[i]? = some y)(hy:Loc X.env.scope y)(hf:X.fn y=true\/X.env.scope.names.lookup y=some .local)
 (hsw:swapsWith (.ListComp elt [⟨tg,iter,ifs,0⟩] scope pos) (some (.Name y py)) spos.line X.env=pure true)
 (hc:X.calm=true) (hi:AIc X kd tg iter fi) (hk:scope.kind = .function) (hcap:wW N X.N scope.names X.env.scope.names cap=true) (hS:S.all (λi=>cap[i]? == some none)=true)
 (hg:∀cl s H fp,AG (wA X N scope cl s H fp) kd tg S g) (ht:∀cl s H fp,PTs (wA X N scope cl s H fp) ifs (alT X.K kd tt)) (he:∀cl s H fp,AE (wA X N scope cl s H fp) kd elt fe)
 (hs:∀x,foldedSetIterable iter X.env x=pure x):ASt X kd (.Assign [.Name y py] (.ListComp elt [⟨tg,iter,ifs,0⟩] scope pos) spos) (zU z i (yC fi cap g tt fe)):=by with_unfolding_all exact(W0 (znw (g:=alG X.K kd S g) (te:=al X.K kd fe) hN hiy hy hf hsw hc hi hk hcap hg ht he hs) λD σ H h=>by
 obtain⟨F,B,ad,as,o,R,e,q⟩:=h;obtain⟨⟨p,as1⟩,h1,e⟩:=bS_ (show(yC fi cap g tt fe as).bind _=_ from e);obtain⟨⟨y,as2⟩,h2,e⟩:=bS_ e;obtain⟨hl,e⟩:=zZ e;cases e;refine zpK (Q:=λx H1=>zdA i x σ H1 D.nx) (λi m=>by simpa using List.all_eq_true.mp hS i m) ⟨F,B,ad,as,p,as1,R,h1,λv T' ad' H' R' rv g=>?_⟩;obtain⟨ad2,R2,le⟩:=znk R' rv h2 hl;exact q _ ad2 H' R2 (g.trans (Grow.less le)))
theorem zE{k:Nat}{f:Addr}{fdt:FuncData}{ps:List Str}{gg:List (Bool×D)->Option O}{x:Str}{p:Pos}(F:FnOk X.prog X.w X.K X.mg X.base CX0 k f fdt ps (spD X.K kd gg))(hr:Room k X.A)(hg:Gl X x)(hm:X.mg x=some (.ref f))(hk:PySem.W.keepIn X.K (.ref f)=true)
 (hb:Binds X.K fdt ps []) (hx:zjB CX0 X (λ_ _ _=>False)) (ha:AA X kd (e::es) fr) (hdb:(x==("__debug__":Str))=false) (he:starEach (e::es) X.env=(false,eval e X.env)::starEach es X.env) (hpl:(backTo pos (starEach es X.env)).any (·.1)=false):
 AE X kd (.Call (.Name x p) (e::es) [] pos) (zA fr gg):=by with_unfolding_all exact(wB (ztL F hr hg hm hk hb .nil hx ha hdb he hpl) λσ H Q h=>zwa h)
theorem yE{id:String}{gg:List D->Option R0}{x:Str}{p:Pos}(hc:CallD X kd (.builtin id) gg)(hg:Gl X x)(hm:X.mg x=none)(hv:bootBuiltins x=some (.builtin id))(ha:AA X kd (e::es) fr)(hn:x≠"__name__")(hdb:(x==("__debug__":Str))=false)
 (he:starEach (e::es) X.env=(false,eval e X.env)::starEach es X.env) (hpl:(backTo pos (starEach es X.env)).any (·.1)=false):AE X kd (.Call (.Name x p) (e::es) [] pos) (fP fr gg):=by with_unfolding_all exact(wB (zlc hc hg hm hv ha hn hdb he hpl) λσ H Q h=>alP (λ_ _ _ z=>z) h)
theorem wU{T:String}{gg:List D->Option R0}{x:Str}{p:Pos}(hc:CallD X kd (.type T) gg)(hg:Gl X x)(hm:X.mg x=none)(hv:bootBuiltins x=some (.type T))(ha:AA X kd (e::es) fr)(hn:x≠"__name__")(hdb:(x==("__debug__":Str))=false)
 (he:starEach (e::es) X.env=(false,eval e X.env)::starEach es X.env) (hpl:(backTo pos (starEach es X.env)).any (·.1)=false):AE X kd (.Call (.Name x p) (e::es) [] pos) (fP fr gg):=by with_unfolding_all exact(wB (zoQ hc hg hm hv ha hn hdb he hpl) λσ H Q h=>alP (λ_ _ _ z=>z) h)
def zmQ(fa:EF)(c:String):EF:=λas=>(fa as).bind λp=>(p.1.frz.view p.2).bind λx=>if znq x.1=true then some (.ow (.lf true (.bl (ziQ (tyD x.1) c))),p.2)else none
theorem zrp(hk:KdOk X kd):zbO X (.builtin "isinstance") (λxs H Q=>∃x c O d,xs=[x,.ty c]/\zdc c=true/\Vw X.K kd O H x d/\znq d=true/\Q (.bl (ziQ (tyD d) c)) H):=by
 intro pins s σ H xs us Q I r h;obtain⟨x,c,O,d,rfl,hc,vx,ho,q⟩:=h;cases r with
 |cons r1 r2=>
  cases r2 with
  |cons r2 r3=>
   cases r3;cases(show _=Value.type c from r2);exact zvg hk I r1 vx hc ho λtk=>⟨.bl _,H,I.tok tk,rfl,q⟩
theorem znm{c:String}{x y:Str}{p p2:Pos}(hkd:KdOk X kd)(hc:zdc c=true)(hg:Gl X x)(hm:X.mg x=none)(hv:bootBuiltins x=some (.builtin "isinstance"))(hg2:Gl X y)(hm2:X.mg y=none)(hv2:bootBuiltins y=some (.type c))(ha:AE X kd a fa)
 (hn:x≠"__name__") (hdb:(x==("__debug__":Str))=false) (hn2:y≠"__name__") (hdb2:(y==("__debug__":Str))=false)
 (he:starEach [a,.Name y p2] X.env=(false,eval a X.env)::starEach [.Name y p2] X.env) (he2:starEach [.Name y p2] X.env=(false,eval (.Name y p2) X.env)::starEach [] X.env) (hpl:(backTo pos (starEach [.Name y p2] X.env)).any (·.1)=false):
 AE X kd (.Call (.Name x p) [a,.Name y p2] [] pos) (zmQ fa c):=by with_unfolding_all exact(wB (zlc (zrp hkd) hg hm hv (VR ha (VR (ztO (v:=.ty c) hg2 hm2 hv2 rfl hn2 hdb2) zdQ he2) he) hn hdb he hpl) λσ H Q h=>by
 obtain⟨F,B,ad,as,r,as',R,e,q⟩:=h;obtain⟨⟨p,as1⟩,h1,e⟩:=bS_ (show(fa as).bind _=_ from e);obtain⟨⟨d,lv⟩,h2,e⟩:=bS_ e;obtain⟨ho,e⟩:=zZ e;cases e;exact ZX R h1 λv ad1 H1 R1 rv1 g1=>⟨v,c,_,d,rfl,hc,vM.vw R1 rv1 h2,ho,q _ [] ad1 H1 R1 (.lf (.bl _)) g1⟩)
def wZ:MG:=λos es=>match es with | [o]=>if os.length<sizeLine then some (os++[o],.lf true .non)else none|_=>none
def zhz:MG:=λos es=>match es with | []=>(os[os.length-1]?).bind λo=>some (os.eraseIdx (os.length-1),o)|_=>none
def zli:MG:=λos es=>match es with | [.nd .ls ps]=>if os.length+ps.length<=sizeLine then some (os++ps,.lf true .non)else none|_=>none
theorem ztR{l f fo g:List Addr}(h:l.Nodup)(e:l=f++(fo++g)):((f++g)++fo).Nodup/\∀a ∈ (f++g)++fo,a ∈ l:=by
 subst e;have p:(f++(fo++g)).Perm ((f++g)++fo):=by
  rw[zyU];exact(List.perm_append_comm).append_left f
 exact⟨p.nodup_iff.mp h,λa m=>p.mem_iff.mpr m⟩
theorem Zd:MuD X kd znG wZ:=by
 intro F B G l vs ws os es os' o fp fq H Q hH rl rw' hn e k;unfold wZ at e
 split at e
 . obtain⟨hz,e⟩:=zZ e;cases e;cases rw' with
   |cons h1 h2=>
    cases h2;rw[zzY]at hn k;exact⟨l,vs,_,rfl,rfl,hH,by rw[rl.length];exact hz,k _ _ _ [] (rl.append (RoL.one h1)) (.lf .non) (λa m=>by rwa [zzY]at m) (by rw[zzY];exact hn)⟩
 . cases e
theorem zqX:MuD X kd ztQ zhz:=by
 intro F B G l vs ws os es os' o fp fq H Q hH rl rw' hn e k;unfold zhz at e
 split at e
 . obtain⟨o1,ho,e⟩:=bS_ e;cases e;obtain⟨v,f,fo,gg,hv,hf,ro,r1,r2⟩:=rl.at_ ho;cases rw';rw[zzY]at hn k;obtain⟨n1,n2⟩:=ztR hn hf;have hl:=rl.length;refine⟨l,vs,v,rfl,rfl,hH,by rw[hl];exact hv, ?_⟩;have:=k v (vs.eraseIdx (os.length-1)) (f++gg) fo (by rw[zeT,zeT];exact r1.append r2) ro n2 n1;rw[<-hl,zgJ]at this;exact this
 . cases e
theorem zrM:MuD X kd znM zli:=by
 intro F B G l vs ws os es os' o fp fq H Q hH rl rw' hn e k;unfold zli at e
 split at e
 . rename_i ps;obtain⟨hz,e⟩:=zZ e;cases e;cases rw' with
   |cons h1 h2=>
    cases h2;cases h1 with
    |ls hb rb=>
     rename_i b zs fz;rw[zzY]at hn k;obtain⟨n1,n2,n3⟩:=zyW.mp hn;obtain⟨n4,n5⟩:=zzR.mp n2;refine⟨l,b,vs,zs,rfl,rfl,hH,hb,by rw[rl.length,rb.length];exact hz,k .non _ _ [] (rl.append rb) (.lf .non) (λa m=>?_) ?_⟩
     . rw[zzY]at m
       rcases zzI.mp m with m|m
       . exact zzL _ m
       . exact zzH _ (zS _ m)
     . rw[zzY];exact zyW.mpr ⟨n1,n5,λa m b m'=>n3 a m b (zS _ m')⟩
 . cases e
theorem vI{i:Nat}{x:Str}{gg:MG}{r:V->List V->Hp->VK->Prop}{name:Str}{id:String}{apos cpos p:Pos}(hm:MtM X id r)(hr:MuD X kd r gg)(slot:Slot "list" name id)(hty:typeOf (.builtin id)=pure (.type "method_descriptor"))(ho:PE X (.Name x p) (zhM i))(ha:AD X kd (e::es) fd)
 (hbase:attributeBase (.Name x p) name X.env (eval (.Name x p) X.env)=eval (.Name x p) X.env)
 (hfew:((backTo cpos (starEach (e::es) X.env)).all (λx=>!x.1)&&(backToKw cpos (keywordEach [] X.env)).all (λx=>x.1.isSome)
  && decide ((e::es).length+([]:List Keyword).length+(if([]:List Keyword).isEmpty then 0 else 1)<30))=true)
 (hline:(apos.endLine==cpos.line)=true) (hs:starEach (e::es) X.env=(false,eval e X.env)::starEach es X.env) (hplain:(backTo cpos (starEach es X.env)).any (·.1)=false):
 AE X kd (.Call (.Attribute (.Name x p) name apos) (e::es) [] cpos) (xY i fd gg):=by with_unfolding_all exact(wB (zwK PySem.F.plainAttrs_list slot hty hm ho ha hbase hfew hline hs hplain) λσ H Q h=>zuy hr h)
theorem znL{i:Nat}{x:Str}{gg:MG}{r:V->List V->Hp->VK->Prop}{name:Str}{id:String}{apos cpos p:Pos}(hm:MtM X id r)(hr:MuD X kd r gg)(slot:Slot "list" name id)(hty:typeOf (.builtin id)=pure (.type "method_descriptor"))(ho:PE X (.Name x p) (zhM i))
 (hbase:attributeBase (.Name x p) name X.env (eval (.Name x p) X.env)=eval (.Name x p) X.env) (hline:(apos.endLine==cpos.line)=true):
 AE X kd (.Call (.Attribute (.Name x p) name apos) [] [] cpos) (xY i dN gg):=by with_unfolding_all exact(wB (zqQ PySem.F.plainAttrs_list slot hty hm ho hbase hline) λσ H Q h=>by
 have:=zuy hr h;obtain⟨v,h1,h2,h3⟩:=this;refine⟨v,h1,h2, ?_⟩;obtain⟨F,B,ad,as,os,as',R,e,q⟩:=h3;cases e;exact q [] [] ad H R .nil Grow.refl)
end
inductive Ty where
 |str|lst|dct|int
def Ty.nm:Ty->String
 | .str=>"str" | .lst=>"list" | .dct=>"dict" | .int=>"int"
def zhR:Ty->D->Bool
 | .str,.str _=>true
 | .lst,.lst _=>true
 | .dct,.dct _=>true
 | .int,.int _=>true
 |_,_=>false
def tyS(X:Cx)(T:String)(x:V)(H:Hp):Prop:=∀(pins:List (Addr×Obj)) (σ:St) (s:Shared) (v:Value),Inv X pins σ H s->RelV x v->s.TypeIs v T/\∀a,v = .ref a->∃ob,s.heap.get? a=some ob/\ob.dict=none
def tMD(X:Cx)(T:String)(r:V->List V->Hp->VK->Prop)(to:TE)(t:TA):TE:=λσ H Q=>to σ H λx H1=>tyS X T x H1/\t σ H1 λxs H2=>r x xs H2 Q
section
variable{X:Cx}{kd:KD}{o e:Expr}{es:List Expr}{to:TE}{t:TA}{name:Str}{apos cpos:Pos}{T id:String}{r:V->List V->Hp->VK->Prop}
theorem zxg(pa:PlainAttrs T)(slot:Slot T name id)(hty:typeOf (.builtin id)=pure (.type "method_descriptor"))(hm:MtR X id r)(ho:PE X o to)(ha:PA X (e::es) t)
 (hbase:attributeBase o name X.env (eval o X.env)=eval o X.env)
 (hfew:((backTo cpos (starEach (e::es) X.env)).all (λx=>!x.1)&&(backToKw cpos (keywordEach [] X.env)).all (λx=>x.1.isSome)
  && decide ((e::es).length+([]:List Keyword).length+(if([]:List Keyword).isEmpty then 0 else 1)<30))=true)
 (hline:(apos.endLine==cpos.line)=true) (hs:starEach (e::es) X.env=(false,eval e X.env)::starEach es X.env) (hplain:(backTo cpos (starEach es X.env)).any (·.1)=false):
 PE X (.Call (.Attribute o name apos) (e::es) [] cpos) (tMD X T r to t):=by
 intro pins s σ H Q I h;refine wpAny_Call_method_late hbase hfew hline rfl (thn (ho pins s σ H _ I h) λv s1 ⟨x,H1,I1,r1,ty,q1⟩=>?_);obtain⟨h1,h2⟩:=ty _ _ _ _ I1 r1;refine⟨T,id,pa,slot,hty,h1,h2, ?_⟩;have hA:=ha cpos pins s1 σ H1 _ I1 q1;rw[hs]at hA ⊢;refine Calls.callWith_builtin (by show(false||(backTo cpos (starEach es X.env)).any (·.1))=false;rw[hplain]<;>rfl) (Calls.evalArgs_plain ?_);exact thn hA λus s2 ⟨vs,H2,I2,r2,q2⟩=>hm pins s2 σ H2 x vs v us Q I2 r1 r2 q2
def MtD(X:Cx)(kd:KD)(id:String)(g:D->List D->Option R0):Prop:=
 MtR X id (λx xs H Q=>∃O d ds r,(∀a,O a->H a≠none)/\Vw X.K kd O H x d/\VwL X.K kd O H xs ds/\g d ds=some r/\RQ X.K kd O H Q r)
theorem zxc(hk:KdOk X kd){O:Addr->Prop}{H:Hp}{x:V}{d:D}{ty:Ty}(h:Vw X.K kd O H x d)(e:zhR ty d=true):tyS X ty.nm x H:=by
 intro pins σ s v I rx;cases h with
 |str z=>
  obtain⟨t,rfl⟩:=rx;cases ty<;>first|(cases e;done)|exact⟨typeIs_str s z t,λ_ e=>nomatch e⟩
 |int z=>
  obtain⟨t,rfl⟩:=rx;cases ty<;>first|(cases e;done)|exact⟨typeIs_int s z t,λ_ e=>nomatch e⟩
 |lst hr rl=>
  cases rx;obtain⟨its,_,pl,_⟩:=I.list hr.sq;cases ty<;>first|(cases e;done)|skip
  refine⟨pl.isList.typeIs,λa e=>?_⟩;cases e;obtain⟨o,n,e,c,hd,_⟩:=pl;exact⟨o,e,hd⟩
 |dct hr rm=>
  cases rx;obtain⟨z,hd,vs,rel,dd⟩:=zfi I hk hr;cases ty<;>first|(cases e;done)|skip
  refine⟨dd.typeIs,λb q=>?_⟩;cases q;obtain⟨ob,_,_,h1,h2,_⟩:=dd;exact⟨ob,h1,h2.2.1⟩
 |non=>cases ty<;>cases e
 |bl=>cases ty<;>cases e
 |tup=>cases ty<;>cases e
 |cl=>cases ty<;>cases e
 |ob=>cases ty<;>cases e
def yF(ty:Ty)(fa:EF)(fr:AF)(g:D->List D->Option R0):EF:=λas=>(fa as).bind λp=>(p.1.frz.view p.2).bind λw=>if zhR ty w.1=true then(fr p.2).bind λq=>(p.1.frz.view q.2).bind λx=>(views q.2 q.1).bind λy=>(g x.1 y.1).bind λr=>(wrap (meet x.2 y.2) r).bind λz=>some (z,q.2)else none
theorem zvV(hk:KdOk X kd){ty:Ty}{fa:EF}{fr:AF}{g:D->List D->Option R0}{σ:St}{H:Hp}{Q:VK}(h:al X.K kd (yF ty fa fr g) σ H Q):
 tMD X ty.nm (λx xs H Q=>∃O d ds r,(∀a,O a->H a≠none)/\Vw X.K kd O H x d/\VwL X.K kd O H xs ds/\g d ds=some r/\RQ X.K kd O H Q r) (al X.K kd fa) (alA X.K kd fr) σ H Q:=by
 obtain⟨F,B,ad,as,r,as',R,e,q⟩:=h;obtain⟨⟨p,as1⟩,h1,e⟩:=bS_ (show(fa as).bind _=_ from e);obtain⟨⟨d0,l0⟩,h0,e⟩:=bS_ e;obtain⟨hty,e⟩:=ite_some' e;obtain⟨⟨ps,as2⟩,h2,e⟩:=bS_ e;obtain⟨⟨d,lv⟩,h3,e⟩:=bS_ e;obtain⟨⟨ds,lv2⟩,h4,e⟩:=bS_ e;obtain⟨r0,h5,e⟩:=bS_ e;obtain⟨z,h6,e⟩:=bS_ e;cases e;refine ZX R h1 λv ad1 H1 R1 rv1 g1=>⟨zxc hk (vM.vw R1 rv1 h0) hty,F,B,ad1,as1,ps,_,R1,h2,λvs ad2 H2 R2 rv2 g2=>?_⟩;exact⟨_,d,ds,r0,R2.tr _,(vM.vw R2 (rv1.grow g2) h3).less Obl.meet1,(zdf R2 rv2 h4).less Obl.meet2,h5,zbZ R2 h6 λw T' H' R' rv' g'=>q w T' ad2 H' R' rv' ((g1.trans g2).trans g')⟩
theorem yL{ty:Ty}{a:Expr}{fa:EF}{fr:AF}{g:D->List D->Option R0}(hk:KdOk X kd)(hm:MtD X kd id g)(pa:PlainAttrs ty.nm)(slot:Slot ty.nm name id)(hty:typeOf (.builtin id)=pure (.type "method_descriptor"))(ho:AE X kd a fa)(ha:AA X kd (e::es) fr)
 (hbase:attributeBase a name X.env (eval a X.env)=eval a X.env)
 (hfew:((backTo cpos (starEach (e::es) X.env)).all (λx=>!x.1)&&(backToKw cpos (keywordEach [] X.env)).all (λx=>x.1.isSome)
  && decide ((e::es).length+([]:List Keyword).length+(if([]:List Keyword).isEmpty then 0 else 1)<30))=true)
 (hline:(apos.endLine==cpos.line)=true) (hs:starEach (e::es) X.env=(false,eval e X.env)::starEach es X.env) (hplain:(backTo cpos (starEach es X.env)).any (·.1)=false):
 AE X kd (.Call (.Attribute a name apos) (e::es) [] cpos) (yF ty fa fr g):=by with_unfolding_all exact(wB (zxg pa slot hty hm ho ha hbase hfew hline hs hplain) λσ H Q h=>zvV hk h)
def zwx:D->List D->Option R0
 | .dct kvs,[k]=>(zfB k).bind λk=>some (.im ((zbe kvs k).getD .non))
 | .dct kvs,[k,x]=>(zfB k).bind λk=>some (.im ((zbe kvs k).getD x))
 |_,_=>none
theorem Vw.rp_of{O:Addr->Prop}{H:Hp}{x:V}{d:D}(h:Vw X.K kd O H x d)(e:ye d=true):Rp X.K kd O H x d:=by
 cases h with
 |non=>exact .non
 |bl b=>exact .bl b
 |int i=>exact .int i
 |str x=>exact .str x
 |_=>cases e
def getP':D->List D->Option R0
 |d,[k]=>zwx d [k]
 |d,[k,x]=>if ye x=true then zwx d [k,x]else none
 |_,_=>none
theorem znr(hk:KdOk X kd):MtD X kd "dict.get" getP':=by
 intro pins s σ H x xs v us Q I rx r h;obtain⟨O,d,ds,r0,ht,vx,vl,he,q⟩:=h;unfold getP' at he
 split at he
 . rename_i k;cases vl with
   |cons vk vr=>
    cases vr;cases r with
    |cons rk rr=>
     cases rr;cases vx with
     |dct hr rm=>
      obtain⟨kk,h1,he⟩:=bS_ (show(zfB k).bind _=_ from he);cases he;cases rx;obtain⟨z,hd,vs,rel,dd⟩:=zfi I hk hr;have:=zkd vk h1;subst this;refine call_meetsIn PySem.F.slot_dict_get dd.typeIs PySem.F.entry_dict_get (PySem.F.args_dict_get_2 _ _) (meets_dict_get (wM X.prog X.w) _ (zib rk) hd) ⟨_,dd.mapOf, ?_⟩
      rcases zdG kk rm with⟨v1,d1,e1,e2,rp⟩|⟨e1,e2⟩
      . rw[e2]at q;refine⟨v1,H,I.tok _, ?_,yx q rp⟩;have:=(rel.val kk).getD (d:=.non) (d':=.none) rfl;rw[e1]at this;exact this
      . rw[e2]at q;refine⟨.non,H,I.tok _, ?_,yx q .non⟩;have:=(rel.val kk).getD (d:=.non) (d':=.none) rfl;rw[e1]at this;exact this
     |_=>cases he
 . rename_i k y;obtain⟨hf,he⟩:=ite_some' he;cases vl with
   |cons vk vr=>
    cases vr with
    |cons vy vr=>
     cases vr;cases r with
     |cons rk rr=>
      cases rr with
      |cons ry rr=>
       cases rr;cases vx with
       |dct hr rm=>
        obtain⟨kk,h1,he⟩:=bS_ (show(zfB k).bind _=_ from he);cases he;cases rx;obtain⟨z,hd,vs,rel,dd⟩:=zfi I hk hr;have:=zkd vk h1;subst this;refine call_meetsIn PySem.F.slot_dict_get dd.typeIs PySem.F.entry_dict_get (PySem.F.args_dict_get_3 _ _ _) (meets_dict_get_default (wM X.prog X.w) _ (zib rk) hd _) ⟨_,dd.mapOf, ?_⟩
        rcases zdG kk rm with⟨v1,d1,e1,e2,rp⟩|⟨e1,e2⟩
        . rw[e2]at q;refine⟨v1,H,I.tok _, ?_,yx q rp⟩;have:=(rel.val kk).getD ry;rw[e1]at this;exact this
        . rw[e2]at q;refine⟨_,H,I.tok _, ?_,yx q (vy.rp_of hf)⟩;have:=(rel.val kk).getD ry;rw[e1]at this;exact this
       |_=>cases he
 . cases he
end
section
variable{K:zC}{kd:KD}{F B G:Addr->Prop}{T:List Addr}{ad:Ad}{as:AS}{σ:St}{H H':Hp}
theorem Rel.wrT{p:Addr}{u:HO}(R:Rel K kd F B T ad as σ H)(hp:p ∈ T):Rel K kd F B T ad as σ (upd H p u)/\Grow (Gw T ad) H (Gw T ad) (upd H p u):=by
 have g:Grow (Gw T ad) H (Gw T ad) (upd H p u):=Grow.wr (.inl hp);have kn:∀a,H a≠none->upd H p u a≠none:=λa z=>by
  by_cases e:a=p
  . subst e;rw[yw];simp
  . rw[yg e];exact z
 exact⟨⟨R.len,R.out,R.nd,R.inj,R.tnd,R.dis,λa z=>kn a (R.ftr a z),λa z=>⟨kn a (R.btr a z).1,(R.btr a z).2⟩,λa z=>⟨kn a (R.gtr a z).1,(R.gtr a z).2⟩,λi s e=>(R.sl i s e).grow g λa m w h=>by
  rw[yg (λz=>R.dis i a m (by rw[z];exact hp))];exact h⟩,g⟩
inductive RPs(K:zC)(kd:KD)(F B G:Addr->Prop)(H:Hp):List (V×V)->List (Key×O)->Prop
 |nil:RPs K kd F B G H [] []
 |cons {k:Key}{v:V}{o:O}{ps:List (V×V)}{kos:List (Key×O)}:RoS K kd F B G H v o []->RPs K kd F B G H ps kos->RPs K kd F B G H ((kV k,v)::ps) ((k,o)::kos)
theorem RPs.out:∀{ps:List (V×V)}{kos:List (Key×O)},RPs K kd F B G H ps kos->∃vs,ps=((kos.map (·.1)).zip vs).map (λkv=>(kV kv.1,kv.2))/\Y5 K kd F B G H vs (kos.map (·.2)) []/\vs.length=kos.length
 |_,_,.nil=>⟨[],rfl,.nil,rfl⟩
 |_,_,.cons (v:=v) h r=>by
  obtain⟨vs,e,rl,hl⟩:=RPs.out r;subst e;exact⟨v::vs,rfl,.cons h rl,congrArg (· + 1) hl⟩
end
def VD:List (EF×EF)->AS->Option (List (Key×O)×AS)
 | [],as=>some ([],as)
 |f::r,as=>(f.1 as).bind λp=>(f.2 p.2).bind λq=>match p.1,q.1 with
  | .ow ko,.ow vo=>(zfB ko.toD).bind λk=>(VD r q.2).bind λz=>some ((k,vo.frz)::z.1,z.2)
  |_,_=>none
theorem zos{K:zC}{kd:KD}{σ:St}:∀(fs:List (EF×EF)) (H:Hp) (Q:List (V×V)->Hp->Prop),(∃F B ad as kos as',Rel K kd F B [] ad as σ H/\VD fs as=some (kos,as')/\
 ∀ps ad' H',Rel K kd F B [] ad' as' σ H'->RPs K kd F B (Gw [] ad') H' ps kos->Grow (Gw [] ad) H (Gw [] ad') H'->Q ps H')->zkH (fs.map λf=>(al K kd f.1,al K kd f.2)) σ H Q
 | [],H,Q,h=>by
  obtain⟨F,B,ad,as,kos,as',R,e,q⟩:=h;cases e;exact q [] ad H R .nil Grow.refl
 |f::r,H,Q,h=>by
  obtain⟨F,B,ad,as,kos,as',R,e,q⟩:=h;obtain⟨⟨p,as1⟩,h1,e⟩:=bS_ (show(f.1 as).bind _=_ from e);obtain⟨⟨p2,as2⟩,h2,e⟩:=bS_ e
  match p,p2,e,h1,h2 with
  | .ow ko,.ow vo,e,h1,h2=>
   obtain⟨k,hk,e⟩:=bS_ (show(zfB ko.toD).bind _=_ from e);obtain⟨⟨z,as3⟩,h3,e⟩:=bS_ e;cases e;refine ZX R h1 λv ad1 H1 R1 rv1 g1=>ZX R1 h2 λu ad2 H2 R2 rv2 g2=>zos r H2 _ ⟨F,B,ad2,as2,z,_,R2,h3,λps ad3 H3 R3 rp3 g3=>?_⟩;have rk:=zhl (show RoS K kd F B (Gw [] ad1) H1 v ko.frz []from rv1);have ek:v=kV k:=zkd rk.vw hk;rw[ek];exact q _ ad3 H3 R3 (.cons (RoS.grow g3 (λ_ m=>nomatch m) rv2) rp3) ((g1.trans g2).trans g3)
theorem zif:∀(kvs acc:List (Key×V)),((acc++kvs).map (·.1)).Nodup->zcH acc kvs=acc++kvs
 | [],acc,_=>by rw[zzY];rfl
 |p::r,acc,h=>by
  have hv:zaD acc p.1=none:=by
   cases e:zaD acc p.1 with
   |none=>rfl
   |some v=>
    exfalso;have m:=zto e;rw[zyG,zyM]at h;exact(zyW.mp h).2.2 _ m _ zzB rfl
  show zcH (putK acc p.1 p.2) r=_;rw[zqf _ hv,zif r (acc++[(p.1,p.2)]) (by rw[zyU];exact h),zyU];rfl
def Ww(fs:List (EF×EF)):EF:=λas=>(VD fs as).bind λp=>if(p.1.map (·.1)).Nodup/\p.1.length<=15 then some (.ow (.nd (.dc (p.1.map (·.1))) (p.1.map (·.2))),p.2)else none
section
variable{X:Cx}{kd:KD}{e a b c o i:Expr}{pos pos':Pos}{fa fb fk fv:EF}
theorem zdI{keys:List (Option Expr)}{values:List Expr}{fs:List (EF×EF)}(h:PPs X pos keys values (fs.map λf=>(al X.K kd f.1,al X.K kd f.2)))(hall:keys.all (·.isSome)=true)(hl:keys.length=values.length)(h0:keys≠[])(h15:keys.length<=15):
 AE X kd (.Dict keys values pos) (Ww fs):=by with_unfolding_all exact(wB (zsM h hall hl h0 h15) λσ H Q h=>by
 obtain⟨F,B,ad,as,r,as',R,e,q⟩:=h;obtain⟨⟨kos,as1⟩,h1,e⟩:=bS_ (show(VD fs as).bind _=_ from e);obtain⟨⟨hnd,hz⟩,e⟩:=zZ e;cases e;intro p hp;have k:∀b o,H b=some o->upd H p (.dK []) b=some o:=λb o hb=>by rw[yg (yP hb hp)];exact hb
 obtain⟨R2,g2⟩:=R.news (T':=[p]) (by simp) (λa m=>by rw[zzN.mp m];exact hp) k (λa m=>by rw[zzN.mp m,yw];simp);refine zos fs _ _ ⟨F,_,ad,as,kos,_,R2.hide,h1,λps ad3 H3 R3 rp3 g3=>?_⟩;have np:¬Gw [] ad p:=λz=>(R.gtr p z).1 hp;have hp3:H3 p=some (.dK []):=g3.keep p _ yw np;obtain⟨vs,ep,rl,hvl⟩:=rp3.out;have Ru:=R3.unhide (T1:=[p]) (T2:=[]) (by simp) (λa m z=>by rw[zzN.mp m]at z;exact(R.btr p z).1 hp);rw[zzY]at Ru;have rlu:Y5 X.K kd F B (Gw [p] ad3) H3 vs (kos.map (·.2)) []:=Y5.lv (zbY (T1:=[p]) (T2:=[])) rl;have ekz:(((kos.map (·.1)).zip vs).map (·.1))=kos.map (·.1):=List.map_fst_zip (by rw[zD,hvl];exact zzJ _);refine⟨hp3,(kos.map (·.1)).zip vs,ep,by rw[List.length_zip,zD,hvl];simpa using hz, ?_⟩;rw[zif _ [] (by rw[List.nil_append,ekz];exact hnd),List.nil_append];obtain⟨R4,g4⟩:=Ru.wrT (u:=.dK ((kos.map (·.1)).zip vs)) (show p ∈ [p] by simp);refine q _ [p] ad3 _ R4 (.dc (vs:=vs) yw (by rw[zD,hvl]) (Y5.grow g4 (λ_ m=>nomatch m) rlu)) ((g2.trans ⟨λb u e n=>g3.keep b u e λz=>n (Gw.drop b z),λb z=>?_⟩).trans g4)
 rcases z with z|z
 . exact .inl (.inl z)
 . exact(g3.own b (.inr z)).elim (λy=>.inl (Gw.drop b y)) .inr)
end
abbrev Fn:=List (Bool×D)->Option O
section
variable{P:Program}{w:World}{K:zC}{mg:Str->Option Value}{base:Heap}{kd:KD}
theorem zol{k:Nat}{f:Addr}{fd:FuncData}{ps:List Str}:FnOk P w K mg base CX0 k f fd ps (spD K kd λ_=>none):=
 ⟨λvs H Q E h=>(by obtain⟨_,_,_,_,_,e,_⟩:=h;cases e),λA outer s H args us vs Q E _ _ _ _ h=>(by obtain⟨_,_,_,_,_,e,_⟩:=h;cases e)⟩
theorem yc{A:Around}{k:Nat}(hr:Room k A):A.units+100<cLine:=by have:=hr.un;omega
def KD1(P:Program)(w:World)(K:zC)(kd:KD):Prop:=∀X:Cx,X.prog=P->X.w=w->X.K=K->KdOk X kd
theorem zbH{O:Addr->Prop}{H:Hp}:∀ns:List Int,RpL K kd O H (ns.map V.int) (ns.map D.int)
 | []=>.nil
 |_::r=>.cons (.int _) (zbH r)
theorem zuP{H:Hp}{a:Addr}{ns:List Int}{g:Fn}{E:XK}(hg:g [(true,.lst (ns.map D.int))]=some (.lf true (.bl true)))(hS:RdL K H a (ns.map V.int)):spD K kd g [.ref a] H (λv _=>v = .bl true) E:=by
 refine⟨λ_=>False,[(true,.lst (ns.map D.int))],.lf true (.bl true),(λ_ z=>z.elim),.cons ?_ .nil,hg,λv T H' _ _ _ _ ro=>?_⟩
 . rcases hS with h|⟨its,n,k,z,r⟩
   . exact .lst (λz=>z.2) h (zbH ns)
   . exact .lstK k z r (zbH ns)
 . cases ro with
   |lf rp=>cases rp;rfl
end
namespace Bt
theorem len:bootBuiltins "len"=some (.builtin "len"):=by decide +kernel
theorem max:bootBuiltins "max"=some (.builtin "max"):=by decide +kernel
theorem min:bootBuiltins "min"=some (.builtin "min"):=by decide +kernel
theorem repr:bootBuiltins "repr"=some (.builtin "repr"):=by decide +kernel
theorem isinstance:bootBuiltins "isinstance"=some (.builtin "isinstance"):=by decide +kernel
theorem all:bootBuiltins "all"=some (.builtin "all"):=by decide +kernel
theorem int:bootBuiltins "int"=some (.type "int"):=by decide +kernel
theorem str:bootBuiltins "str"=some (.type "str"):=by decide +kernel
theorem tuple:bootBuiltins "tuple"=some (.type "tuple"):=by decide +kernel
theorem n(x:Str)(h:(x==("__name__":Str))=false):x≠"__name__":=λe=>by subst e;simp at h
end Bt
def WD(f:EF)(as:AS)(st:Bool)(d:D):Prop:=f as=some (.ow (.lf st d),as)
def WT(f:TF)(as:AS)(b:Bool):Prop:=f as=some (b,as)
def WA(f:AF)(as:AS)(rs:List (Bool×D)):Prop:=f as=some (rs.map (λx=>.ow (.lf x.1 x.2)),as)
def WO(f:DF)(as:AS)(os:List O):Prop:=f as=some (os,as)
section
variable{as:AS}{f a b:EF}{s t:Bool}{x y z:D}{i j:Int}
theorem zf:WD (fC x) as true x:=rfl
theorem zc{i:Nat}(h:as[i]? = some (some (.lf s x))):WD (fV i) as s x:=by unfold WD fV;rw[h]
theorem zfe{g:D->D->Option R0}(ha:WD a as s x)(hb:WD b as t y)(hg:g x y=some (.im z)):WD (f2 a b g) as (ye z||(s&&t)) z:=by
 unfold WD f2 at *;rw[ha];show((b as).bind _)=_;rw[hb];show((g x y).bind _)=_;rw[hg];show(if(ye z||(meet (some s) (some t)).isSome)=true then _ else _:Option RV).bind _=_;rw[if_pos (by unfold meet;simp)];rfl
theorem zwu{g:D->D->Option R0}{oa ob:O}(ha:a as=some (.ow oa,as))(hb:b as=some (.ow ob,as))(hg:g oa.toD ob.toD=some (.im z)):WD (f2 a b g) as (ye z||(oa.str&&ob.str)) z:=by
 unfold WD f2 at *;rw[ha];show((b as).bind _)=_;rw[hb];show((g oa.toD ob.toD).bind _)=_;rw[hg];show(if(ye z||(meet (some oa.str) (some ob.str)).isSome)=true then _ else _:Option RV).bind _=_;rw[if_pos (by unfold meet;simp)];rfl
theorem yu{g:D->D->Option R0}(ha:WD a as s x)(hb:WD b as t y)(hg:g x y=some (.im z))(e:ye z=true):WD (f2 a b g) as true z:=by
 have:=zfe ha hb hg;rw[e]at this;exact this
theorem wg(ha:WD a as s (.int i))(hb:WD b as t (.int j)):WD (f2 a b (zr .Add)) as true (.int (i+j)):=yu ha hb rfl rfl
theorem zfZ(ha:WD a as s (.int i))(hb:WD b as t (.int j)):WD (f2 a b (zr .Sub)) as true (.int (i-j)):=yu ha hb rfl rfl
theorem WM(ha:WD a as s (.int i))(hb:WD b as t (.int j))(h1:i.natAbs<big)(h2:j.natAbs<big):WD (f2 a b (zr .Mult)) as true (.int (i*j)):=yu ha hb (by show(if _ then _ else _)=_;rw[if_pos ⟨h1,h2⟩]) rfl
theorem Zb(ha:WD a as s (.int i))(hb:WD b as t (.int j))(h1:0<j)(h2:j.natAbs<big):WD (f2 a b (zr .FloorDiv)) as true (.int (i/j)):=yu ha hb (by show(if _ then _ else _)=_;rw[if_pos ⟨h1,h2⟩]) rfl
theorem yJ(ha:WD a as s (.int i))(hb:WD b as t (.int j))(h1:0<j):WD (f2 a b (zr .Mod)) as true (.int (i%j)):=yu ha hb (by show(if _ then _ else _)=_;rw[if_pos h1]) rfl
theorem znh(ha:WD a as s (.int i))(hb:WD b as t (.int j))(h1:0<=j/\j<=1000000/\i.natAbs<2 ^ 64):WD (f2 a b (zr .Pow)) as true (.int (i ^ j.toNat)):=yu ha hb (by show(if _ then _ else _)=_;rw[if_pos h1]) rfl
theorem yG{c:Bool}(ha:WD a as s x)(hb:WD b as t y)(h:eqF 60 x y=some c):WD (f2 a b (zY .Eq)) as true (.bl c):=yu ha hb (by show(eqF 60 x y).bind _=_;rw[h];rfl) rfl
theorem zci{c:Bool}(ha:WD a as s x)(hb:WD b as t y)(h:eqF 60 x y=some c):WD (f2 a b (zY .NotEq)) as true (.bl (!c)):=yu ha hb (by show(eqF 60 x y).bind _=_;rw[h];rfl) rfl
theorem Wf(ha:WD a as s (.int i))(hb:WD b as t (.int j)):WD (f2 a b (zY .Lt)) as true (.bl (decide (i<j))):=yu ha hb rfl rfl
theorem zcV(ha:WD a as s (.int i))(hb:WD b as t (.int j)):WD (f2 a b (zY .Gt)) as true (.bl (decide (j<i))):=yu ha hb rfl rfl
theorem zH{c:Bool}(h:WD f as s x)(e:truth x=some c):WT (fT f) as c:=by
 unfold WT fT;unfold WD at h;rw[h];show((truth x).bind _)=_;rw[e];rfl
theorem W6{c:TF}{k:Bool}(h:WT c as k):WT (Wo c) as (!k):=by unfold WT Wo at *;rw[h];rfl
theorem zmx{c e:TF}{k l:Bool}(h:WT c as k)(h2:k=true->WT e as l)(h3:k=false->l=false):WT (znJ c e) as l:=by
 unfold WT znJ at *;rw[h];cases k with
 |true=>exact h2 rfl
 |false=>rw[h3 rfl];rfl
theorem v9{c e:TF}{k l:Bool}(h:WT c as k)(h2:k=false->WT e as l)(h3:k=true->l=true):WT (Yr c e) as l:=by
 unfold WT Yr at *;rw[h];cases k with
 |false=>exact h2 rfl
 |true=>rw[h3 rfl];rfl
theorem zmL{c:TF}(h:WT c as true)(ha:WD a as s x):WD (fIf c a b) as s x:=by unfold WD fIf;unfold WT at h;rw[h];exact ha
theorem zcy{c:TF}(h:WT c as false)(hb:WD b as s x):WD (fIf c a b) as s x:=by unfold WD fIf;unfold WT at h;rw[h];exact hb
theorem zhB{k l:Bool}(h:WD a as s (.bl k))(h2:k=true->WD b as true (.bl l))(h3:k=false->l=false):WD (zme a b) as true (.bl l):=by
 unfold WD zme at *;rw[h];cases k with
 |true=>exact h2 rfl
 |false=>rw[h3 rfl];rfl
theorem zur{k l:Bool}(h:WD a as s (.bl k))(h2:k=false->WD b as true (.bl l))(h3:k=true->l=true):WD (fOr a b) as true (.bl l):=by
 unfold WD fOr at *;rw[h];cases k with
 |false=>exact h2 rfl
 |true=>rw[h3 rfl];rfl
theorem zP:WA aN as []:=rfl
theorem zB{fr:AF}{rs:List (Bool×D)}(ha:WD a as s x)(hr:WA fr as rs):WA (aC a fr) as ((s,x)::rs):=by
 unfold WA aC at *;unfold WD at ha;rw[ha];show((fr as).bind _)=_;rw[hr];rfl
theorem zej:∀rs:List (Bool×D),V5 as (rs.map (λx=>.ow (.lf x.1 x.2)))=some (rs.map λx=>(ye x.2||x.1,x.2))
 | []=>rfl
 |r::rs=>by
  show(zqW as (.ow (.lf r.1 r.2))).bind _=_;show(V5 as (rs.map _)).bind _=_;rw[zej rs];rfl
theorem Z4:∀rs:List (Bool×D),views as (rs.map (λx=>.ow (.lf x.1 x.2)))=some (rs.map (·.2),some (rs.all (·.1)))
 | []=>rfl
 |r::rs=>by
  show(views as (rs.map _)).bind _=_;rw[Z4 rs];rfl
theorem ww{fr:AF}{rs:List (Bool×D)}{g:List (Bool×D)->Option O}(ha:WA fr as rs)(hg:g (rs.map λx=>(ye x.2||x.1,x.2))=some (.lf s x)):WD (zA fr g) as s x:=by
 unfold WD zA;unfold WA at ha;rw[ha];show(V5 as _).bind _=_;rw[zej];show(g _).bind _=_;rw[hg];rfl
theorem We{fr:AF}{rs:List (Bool×D)}{o:O}{g:List (Bool×D)->Option O}(ha:WA fr as rs)(hg:g (rs.map λx=>(ye x.2||x.1,x.2))=some o):zA fr g as=some (.ow o,as):=by
 unfold zA;unfold WA at ha;rw[ha];show(V5 as _).bind _=_;rw[zej];show(g _).bind _=_;rw[hg];rfl
theorem zom{fr:AF}{rs:List (Bool×D)}{g:List D->Option R0}(ha:WA fr as rs)(hg:g (rs.map (·.2))=some (.im x)):WD (fP fr g) as (ye x||rs.all (·.1)) x:=by
 unfold WD fP;unfold WA at ha;rw[ha];show(views as _).bind _=_;rw[Z4];show(g _).bind _=_;rw[hg];show(if(ye x||(some (rs.all (·.1))).isSome)=true then _ else _:Option RV).bind _=_;rw[if_pos (by simp)];rfl
theorem wu{fr:AF}{rs:List (Bool×D)}{g:List D->Option R0}(ha:WA fr as rs)(hg:g (rs.map (·.2))=some (.im x))(e:ye x=true):WD (fP fr g) as true x:=by
 have:=zom ha hg;rw[e]at this;exact this
theorem yp:WO dN as []:=rfl
theorem zF{fr:DF}{os:List O}(ha:WD a as s x)(hr:WO fr as os):WO (dC a fr) as (.lf s x::os):=by
 unfold WO dC at *;unfold WD at ha;rw[ha];show((fr as).bind _)=_;rw[hr];rfl
theorem Z1{fr:DF}{os:List O}(h:WO fr as os)(hl:os.length<=sizeLine):xX fr as=some (.ow (.nd .ls os),as):=by
 unfold xX;unfold WO at h;rw[h];show(if os.length<=sizeLine then _ else _)=_;rw[if_pos hl]
theorem zu{f g:SF}{as1:AS}{o:Option Out}(h1:f as=some (.nx as1))(h2:g as1=o):zJ f g as=o:=by unfold zJ;rw[h1];exact h2
theorem v6{f g:SF}{o:O}(h1:f as=some (.rt o)):zJ f g as=some (.rt o):=by unfold zJ;rw[h1];rfl
theorem wX{c:TF}{f g:SF}{o:Option Out}(h:WT c as true)(h1:f as=o):sIf c f g as=o:=by unfold sIf;unfold WT at h;rw[h];exact h1
theorem yh{c:TF}{f g:SF}{o:Option Out}(h:WT c as false)(h1:g as=o):sIf c f g as=o:=by unfold sIf;unfold WT at h;rw[h];exact h1
theorem zV{i:Nat}{st:Bool}(h:WD f as s x)(hi:i<as.length):zU st i f as=some (.nx (as.set i (some (.lf s x)))):=by
 unfold zU;unfold WD at h;rw[h];cases st<;>exact if_pos hi
theorem vL{i:Nat}{o:O}(h:f as=some (.ow o,as))(hi:i<as.length):zU false i f as=some (.nx (as.set i (some o))):=by
 unfold zU;rw[h];exact if_pos hi
theorem zsf{i:Nat}{o:O}(h:f as=some (.ow o,as))(hi:i<as.length):zU true i f as=some (.nx (as.set i (some o.frz))):=by
 unfold zU;rw[h];exact if_pos hi
theorem yf(h:WD f as true x):yq f as=some (.rt (.lf true x)):=by unfold yq;unfold WD at h;rw[h];rfl
theorem ym{n m:Nat}{c:SF}{ds:List (Bool×D)}{o:O}(hl:ds.length=m)(h:c (XQ n ds)=some (.rt o)):fnR n m c ds=some o:=by unfold fnR;rw[if_pos hl,h];rfl
theorem zkP{g:GF}{f:SF}(I:Nat->AS->Prop):∀(xs:List It1) (k:Nat) (as:AS),(∀i x as,xs[i]? = some x->I (k+i) as->∃as1,g x as=some as1/\∃as2,f as1=some (.nx as2)/\I (k+i+1) as2)->I k as->∃as',forL g f xs as=some (.nx as')/\I (k+xs.length) as'
 | [],k,as,_,h=>⟨as,rfl,h⟩
 |x::r,k,as,st,h=>by
  obtain⟨as1,h1,as2,h2,h3⟩:=st 0 x as rfl h;obtain⟨as',h4,h5⟩:=zkP I r (k+1) as2 (λi y as e q=>by
   obtain⟨u,k1,v,k2,k3⟩:=st (i+1) y as e (by rw[show k+(i+1)=k+1+i by omega];exact q);exact⟨u,k1,v,k2,by rw[show k+1+i+1=k+(i+1)+1 by omega];exact k3⟩) h3
  refine⟨as', ?_,by rw[zzP,show k+(r.length+1)=k+1+r.length by omega];exact h5⟩;show(g x as).bind _=_;rw[h1];show(f as1).bind _=_;rw[h2];exact h4
theorem ZM{fi:IF}{g:GF}{f:SF}{xs:List It1}{as':AS}{o:Option Out}(h:fi as=some (xs,as'))(h2:forL g f xs as'=o):zaX fi g f as=o:=by unfold zaX;rw[h];exact h2
theorem zlW{lo:Int}{n i:Nat}{x:It1}(h:(vg lo n)[i]? = some x):x=(true,.int (lo+i))/\i<n:=by
 unfold vg at h;rw[zzE]at h;cases e:(List.range n)[i]? with
 |none=>rw[e]at h;cases h
 |some k=>
  rw[e]at h;obtain⟨h1,h2⟩:=zzC.mp e;rw[zyO]at h1;rw[List.getElem_range]at h2;subst h2;exact⟨(zzT h).symm,h1⟩
theorem wK{fr:AF}{j:Int}{u:Bool}(h:WA fr as [(u,.int j)])(h0:0<=j)(h1:j<1000000):vf fr vY as=some (vg 0 j.toNat,as):=by
 unfold vf;unfold WA at h;rw[h];simp only[zyF,Z4];show((if -(2 ^ 62)<=j/\j<2 ^ 62 then some (vg 0 j.toNat)else none).bind _)=_;rw[if_pos ⟨by omega,by omega⟩];rfl
theorem zgV{fr:AF}{rs:List (Bool×D)}{o:O}(ha:a as=some (.ow o,as))(hr:WA fr as rs):WA (aC a fr) as ((o.str,o.toD)::rs):=by
 unfold WA aC at *;rw[ha];show((fr as).bind _)=_;rw[hr];rfl
theorem zfE{i:Nat}{o:O}(h:as[i]? = some (some o)):RV.view as (.bo i)=some (o.toD,o.kl):=by simp only[RV.view,h]
theorem zvz{i:Nat}{o:O}(h:as[i]? = some (some o)):toO as (.bo i)=some (o.frz,as.set i (some o.frz)):=by simp only[toO,h]
theorem zsn{i:Nat}{o:O}(h:as[i]? = some (some o))(hs:o.str=true):zpH as (.bo i)=some o:=by simp only[zpH,h,hs,if_true]
theorem zjj{i:Nat}{k:Kind}{os:List O}(h:as[i]? = some (some (.nd k os))):fV i as=some (.bo i,as):=by unfold fV;rw[h]
theorem zrm{i:Nat}{os:List O}(h:as[i]? = some (some (.nd .ls os))):WD (fP (aC (fV i) aN) wz) as true (.int os.length):=by
 have e:views as [.bo i]=some ([.lst (O.toDs os)],meet (O.nd .ls os).kl (some true)):=by
  show(RV.view as (.bo i)).bind _=_;rw[zfE h];rfl
 unfold WD fP aC;rw[zjj h];simp only[zyF,aN,RV.frz,e];rw[show wz [.lst (O.toDs os)]=some (.im (.int os.length)) by show some (R0.im (.int ((O.toDs os).length:Nat)))=_;rw[zeB]];rfl
theorem ixB{i:Nat}{os:List O}(h:as[i]? = some (some (.nd .ls os)))(hl:os.all O.isLf=true)(hb:WD b as t y)(hg:ixP (.lst (O.toDs os)) y=some (.im z)):WD (f2 (fV i) b ixP) as (ye z||(O.strs os&&t)) z:=by
 unfold WD f2 at *;rw[zjj h];show((b as).bind _)=_;rw[hb];show((RV.view as (.bo i)).bind _)=_;rw[zfE h];have e:(O.nd .ls os).kl=some (O.strs os):=by simp only[O.kl,hl,if_true]
 rw[e];show((ixP (.lst (O.toDs os)) y).bind _)=_;rw[hg];show(if(ye z||(meet (some (O.strs os)) (some t)).isSome)=true then _ else _:Option RV).bind _=_;rw[if_pos (by unfold meet;simp)];rfl
theorem xg{g:GF}{f:SF}{d:It1}{r:List It1}{as1 as2:AS}{o:Option Out}(h1:g d as=some as1)(h2:f as1=some (.nx as2))(h3:forL g f r as2=o):forL g f (d::r) as=o:=by
 show(g d as).bind _=_;rw[h1];show(f as1).bind _=_;rw[h2];exact h3
theorem Yo{i:Nat}{os:List O}(h:as[i]? = some (some (.nd .ls os)))(hl:os.length<sizeLine)(ha:WD a as s x):yV (xY i (dC a dN) wZ) as=some (.nx (as.set i (some (.nd .ls (os++[.lf s x]))))):=by
 unfold yV xY;rw[h];have e:dC a dN as=some ([.lf s x],as):=zF ha yp;show((dC a dN as).bind _).bind _=_;rw[e];show(Option.bind (match as[i]? with|some (some (.nd .ls os))=>_|_=>none) _)=_;rw[h];show((wZ os [.lf s x]).bind _).bind _=_;have e2:wZ os [.lf s x]=some (os++[.lf s x],.lf true .non):=by unfold wZ;exact if_pos hl
 rw[e2];rfl
theorem zjX{g:GF}{o:O}{as':AS}(h:f as=some (.ow o,as))(hg:g (o.str,o.toD) as=some as'):zkD f g as=some (.nx as'):=by
 unfold zkD;rw[h];show(g (o.str,o.toD) as).bind _=_;rw[hg];rfl
theorem zdF{i:Nat}{o:O}(h:as[i]? = some (some o))(hs:o.str=true):yq (fV i) as=some (.rt o):=by
 cases o with
 |lf st d=>unfold yq fV;rw[h];have:st=true:=hs;subst this;rfl
 |nd k os=>
  unfold yq;rw[zjj h];show(zpH as (.bo i)).bind _=_;rw[zsn h hs];rfl
theorem zmI{fr:DF}{os:List O}(h:WO fr as os)(hl:os.length<=sizeLine)(ha:os.all O.isLf=true):WD (Yg fr) as (O.strs os) (.tup (O.toDs os)):=by
 unfold WD Yg;unfold WO at h;rw[h];show(if os.length<=sizeLine then some (RV.ow (Vh os),as)else _)=_;rw[if_pos hl];unfold Vh;rw[if_pos ha]
theorem zuU{g:D->D->Option R0}{oa ob:O}{zs:List D}{as1 as2:AS}(ha:a as=some (.ow oa,as1))(hb:b as1=some (.ow ob,as2))(hg:g oa.toD ob.toD=some (.fl zs)):f2 a b g as=some (.ow (.nd .ls (zs.map (lfs (oa.str&&ob.str)))),as2):=by
 unfold f2;rw[ha];show((b as1).bind _)=_;rw[hb];show((g oa.toD ob.toD).bind _)=_;rw[hg];show(if(zs.all ye||(meet (some oa.str) (some ob.str)).isSome)=true then _ else _:Option RV).bind _=_;rw[if_pos (by unfold meet;simp)];rfl
theorem yr{g:D->D->Option R0}(ha:WD a as true x)(hb:WD b as true y)(hg:g x y=some (.im z)):WD (f2 a b g) as true z:=by
 have:=zfe ha hb hg;rw[show(ye z||(true&&true))=true by simp]at this;exact this
theorem zpr{i:Nat}{os:List O}(h:as[i]? = some (some (.nd .ls os)))(hl:os.all O.isLf=true)(hs:O.strs os=true)(hb:WD b as true y)(hg:ixP (.lst (O.toDs os)) y=some (.im z)):WD (f2 (fV i) b ixP) as true z:=by
 have:=ixB h hl hb hg;rw[hs,show(ye z||(true&&true))=true by simp]at this;exact this
theorem zbQ:∀zs:List D,zs.map (lfs true)=zs.map (O.lf true)
 | []=>rfl
 |z::r=>by
  show lfs true z::r.map (lfs true)=_;rw[zbQ r];unfold lfs;rw[zzX];rfl
theorem zsu{g:D->D->Option R0}{oa ob:O}{zs:List D}{as1 as2:AS}(ha:a as=some (.ow oa,as1))(hb:b as1=some (.ow ob,as2))(hg:g oa.toD ob.toD=some (.fl zs))(h1:oa.str=true)(h2:ob.str=true):f2 a b g as=some (.ow (.nd .ls (zs.map (O.lf true))),as2):=by
 have:=zuU ha hb hg;rw[h1,h2,show(true&&true)=true from rfl,zbQ]at this;exact this
theorem XX{fr:DF}{o:O}{os:List O}{as1 as2:AS}(ha:a as=some (.ow o,as1))(hr:fr as1=some (os,as2)):dC a fr as=some (o::os,as2):=by
 unfold dC;rw[ha];show((fr as1).bind _)=_;rw[hr];rfl
theorem zkm{i:Nat}{o:O}{as1:AS}(h:f as=some (.ow o,as1))(hi:i<as1.length):zU true i f as=some (.nx (as1.set i (some o.frz))):=by
 unfold zU;rw[h];exact if_pos hi
theorem add_lists{xs ys:List D}(h:xs.length+ys.length<=sizeLine):zr .Add (.lst xs) (.lst ys)=some (.fl (xs++ys)):=if_pos h
theorem wC(lo:Int)(n:Nat):vg lo (n+1)=(true,.int lo)::vg (lo+1) n:=by
 unfold vg;rw[List.range_succ_eq_map,zyM,zzV]
 congr 1
 . simp
 . apply List.map_congr_left;intro i _;show(true,D.int _)=(true,D.int _)
   congr 2
   show lo+((i+1:Nat):Int)=_;omega
theorem zqL{fr:AF}{rs:List (Bool×D)}{g:List D->Option R0}(ha:WA fr as rs)(hg:g (rs.map (·.2))=some (.im x))(e:rs.all (·.1)=true):WD (fP fr g) as true x:=by
 have:=zom ha hg;rw[e,zzX]at this;exact this
theorem Xl{ty:Ty}{fr:AF}{rs:List (Bool×D)}{g:D->List D->Option R0}(ha:WD a as s y)(ht:zhR ty y=true)(hr:WA fr as rs)(hg:g y (rs.map (·.2))=some (.im x))(e:ye x=true):WD (yF ty a fr g) as true x:=by
 unfold WD yF;unfold WD at ha;unfold WA at hr;rw[ha];show(if zhR ty y=true then _ else _:Option (RV×AS))=_;rw[if_pos ht,hr];simp only[zyF,Z4];show((g y (rs.map (·.2))).bind _)=_;rw[hg];show(if(ye x||_)=true then _ else _:Option RV).bind _=_;rw[if_pos (by rw[e];rfl)];show some (RV.ow (.lf (ye x||_) x),as)=_;rw[e];rfl
theorem zrK{fl fh:OF}{lo hi:Option Int}{g:D->Option Int->Option Int->Option R0}(ha:WD a as s y)(hl:fl as=some (lo,as))(hh:fh as=some (hi,as))(hg:g y lo hi=some (.im x)):WD (fSl a fl fh g) as (ye x||s) x:=by
 unfold WD fSl;unfold WD at ha;rw[ha];show((fl as).bind _)=_;rw[hl];show((fh as).bind _)=_;rw[hh];show((g y lo hi).bind _)=_;rw[hg];show(if(ye x||(some s).isSome)=true then _ else _:Option RV).bind _=_;rw[if_pos (by simp)];rfl
theorem zsh{ds:List It1}(h:WD f as s x)(e:ziD (s,x)=some ds):Z6 f as=some (ds,as):=by
 unfold Z6;unfold WD at h;rw[h];show(ziD (s,x)).bind _=_;rw[e];rfl
theorem Xu{g:GF}{fe:EF}{as0 as1:AS}{y:It1}{r:List It1}{os:List O}(h1:g y as0=some as1)(h2:WD fe as1 true x)(h3:xT g xf fe as0 r=some os):xT g xf fe as0 (y::r)=some (.lf true x::os):=by
 show(g y as0).bind _=_;rw[h1];show(fe as1).bind _=_;unfold WD at h2;rw[h2];show(xT g xf fe as0 r).bind _=_;rw[h3];rfl
theorem wN{fi:IF}{cap:List (Option Nat)}{g:GF}{tt:TF}{fe:EF}{xs:List It1}{os:List O}(h1:fi as=some (xs,as))(hl:xs.length<=sizeLine)(h2:xT g tt fe (WY cap as) xs=some os):yC fi cap g tt fe as=some (.ow (.nd .ls os),as):=by
 unfold yC;rw[h1];show(if xs.length<=sizeLine then _ else _)=_;rw[if_pos hl];show(xT g tt fe (WY cap as) xs).bind _=_;rw[h2];rfl
theorem zjY:VD [] as=some ([],as):=rfl
theorem YJ{fk fv:EF}{r:List (EF×EF)}{k:Key}{kos:List (Key×O)}(hk:WD fk as t y)(ek:zfB y=some k)(hv:WD fv as s x)(hr:VD r as=some (kos,as)):VD ((fk,fv)::r) as=some ((k,.lf s x)::kos,as):=by
 show(fk as).bind _=_;unfold WD at hk hv;rw[hk];show(fv as).bind _=_;rw[hv];show(zfB y).bind _=_;rw[ek];show(VD r as).bind _=_;rw[hr];rfl
theorem zfO{fs:List (EF×EF)}{kos:List (Key×O)}(h:VD fs as=some (kos,as))(h1:(kos.map (·.1)).Nodup)(h2:kos.length<=15):Ww fs as=some (.ow (.nd (.dc (kos.map (·.1))) (kos.map (·.2))),as):=by
 unfold Ww;rw[h];show(if _ then _ else _)=_;rw[if_pos ⟨h1,h2⟩]
theorem zlm{fr:AF}{rs:List RV}{xs:List (Bool×D)}{o:O}{g:List (Bool×D)->Option O}(ha:fr as=some (rs,as))(hx:V5 as rs=some xs)(hg:g xs=some o):zA fr g as=some (.ow o,as):=by
 unfold zA;rw[ha];show(V5 as rs).bind _=_;rw[hx];show(g xs).bind _=_;rw[hg];rfl
end
theorem szl{n:Nat}(h:Nat.ble n 1000=true):n<=sizeLine:=Nat.le_of_lt (xu (Nat.le_of_ble_eq_true h))
theorem zG{a b:Nat}(h:Nat.ble (a+1) b=true):a<b:=Nat.le_of_ble_eq_true h
theorem yW{i:Int}(h0 : -(10 ^ 200)<i)(h1:i<10 ^ 200):i.natAbs<big:=by
 have:(10:Nat) ^ 200<big:=by unfold big;decide +kernel
 have e:((10 ^ 200:Nat):Int)=(10:Int) ^ 200:=by norm_cast
 have:(i.natAbs:Int)<((10 ^ 200:Nat):Int):=by rw[e];omega
 omega
theorem zth{ns:List Int}{k:Int}(h0:0<=k)(h1:k<ns.length):∃x,ixP (.lst (ns.map D.int)) (.int k)=some (.im (.int x)):=by
 have hk:k.toNat<ns.length:=by omega
 refine⟨ns[k.toNat], ?_⟩;have h:=Wr (xs:=ns.map D.int) (j:=k.toNat) (v:=D.int ns[k.toNat]) (by rw[zzE,zzA hk];rfl);rw[show((k.toNat:Nat):Int)=k by omega]at h;show imR (atI _ _)=_;rw[h];rfl
def GC(K:zC)(kd:KD)(mg:Str->Option Value)(x:Str)(d:D):Prop:=∃v u,mg x=some u/\RelV v u/\∀(O:Addr->Prop) (H:Hp),Rp K kd O H v d
section
variable{X:Cx}{kd:KD}{K:zC}{mg:Str->Option Value}
theorem Z9{x:Str}{d:D}{pos:Pos}(h:GC X.K kd X.mg x d)(hg:Gl X x)(hd:(x==("__debug__":Str))=false):AE X kd (.Name x pos) (fC d):=by
 with_unfolding_all (
 obtain⟨v,u,h1,h2,h3⟩:=h;exact zhy (zsy hg h1 h2 hd) h3)
theorem GC.int{x:Str}{i:Int}{t:Tok}(h:mg x=some (.int i t)):GC K kd mg x (.int i):=⟨.int i,_,h,⟨t,rfl⟩,λ_ _=>.int i⟩
theorem GC.str{x y:Str}{t:Tok}(h:mg x=some (.str y t)):GC K kd mg x (.str y):=⟨.str y,_,h,⟨t,rfl⟩,λ_ _=>.str y⟩
theorem GC.tup{x:Str}{a:Addr}{od:Option Addr}{its:Array Value}{n:Nat}{sl:Array (Option Value)}{vs:List V}{ds:List D}(h:mg x=some (.ref a))(hk:K.lookup a=some ⟨.type "tuple",od,.seq its n,sl⟩)(hz:its.size<=sizeLine)(hv:Vals vs its.toList)
 (hr:∀(O:Addr->Prop) (H:Hp),RpL K kd O H vs ds):GC K kd mg x (.tup ds):=⟨.ref a,_,h,rfl,λO H=>.tupK hk rfl rfl hz hv (hr O H)⟩
def spL(K:zC)(g:Fn):Sp:=λvs H Q E=>∀kd:KD,spD K kd g vs H Q E
end
def zaW(fa fb fc:EF)(g g':D->D->Option R0):EF:=λas=>(fa as).bind λp=>(fb p.2).bind λq=>(p.1.frz.view q.2).bind λx=>(q.1.frz.view q.2).bind λy=>(g x.1 y.1).bind λr=>match r with
 | .im (.bl true)=>(fc q.2).bind λt=>(q.1.frz.view t.2).bind λy'=>(t.1.frz.view t.2).bind λz=>(g' y'.1 z.1).bind λr'=>(wrap (meet y'.2 z.2) r').bind λo=>some (o,t.2)
 | .im (.bl false)=>some (.ow (.lf true (.bl false)),q.2)
 |_=>none
def WX:List D->Option (List Bool)
 | []=>some []
 | .bl b::r=>(WX r).bind λs=>some (b::s)
 |_::_=>none
def zmK:List D->Option R0
 | [.lst ds]=>(WX ds).bind λbs=>some (.im (.bl (bs.all id)))
 |_=>none
theorem zls{K:zC}{kd:KD}{O:Addr->Prop}{H:Hp}:∀{vs:List V}{us:List Value}{ds:List D}{bs:List Bool},RpL K kd O H vs ds->Vals vs us->WX ds=some bs->LSm.BoolsAre us bs
 |_,_,_,_,.nil,.nil,e=>by cases e;exact .nil
 |_,_,_,_,.cons (d:=d) a r,.cons b t,e=>by
  cases d with
  |bl c=>
   obtain⟨s,h1,h2⟩:=bS_ (show(WX _).bind _=_ from e);cases h2;cases a;cases b;exact .cons _ (zls r t h1)
  |_=>cases e
section
variable{X:Cx}{kd:KD}
theorem zpn{h h':Heap}{ob:Obj}(hk:∀b x,b ∉ [h.objs.size]->(h.push ob).get? b=some x->h'.get? b=some x)(b:Addr)(x:Obj)(e:h.get? b=some x):h'.get? b=some x:=by
 refine hk b x (λm=>?_) (zyZ _ e);have:=QzA e;rw[zzN.mp m]at this;exact absurd this (Nat.lt_irrefl _)
theorem zbV(hc:X.calm=true):CallD X kd (.builtin "all") zmK:=by
 intro pins s σ H xs us Q I r h;obtain⟨O,ds,z,ht,vl,he,q⟩:=h;unfold zmK at he
 split at he
 . obtain⟨bs,h1,he⟩:=bS_ he;cases he;obtain⟨x,rfl,vx⟩:=Zk vl;cases vx with
   |lst hr rl=>
    rename_i l vs;obtain⟨u,rfl,ru⟩:=vals1 r;cases ru;obtain⟨its,rv,p,_⟩:=I.list hr.sq;have hb:=zls rl rv h1;have hl:=p.isList;have hlt:l<s.heap.objs.size:=by obtain⟨_,e,_⟩:=hl;exact QzA e
    refine call_all_walk (wpAny_pyIter_list hl ?_);refine⟨s.heap.objs.size,[s.heap.objs.size,l],[s.heap.objs.size],its.toArray.size,_,_,(λi=>(bs[i]?).getD true),rfl,Walks.list (A:=X.A.in1) (I.ok.hd hc) _ l (zzM hlt) its.toArray,⟨⟨_,QzB _ rfl,rfl,rfl⟩,hl.push _⟩, ?_, ?_⟩
    . intro i v s' Q' E' hP hQ;obtain⟨b,e,rfl⟩:=hb.get i v (by simpa using hP);simp only[e,Option.getD_some]at hQ;exact wpAny_truthy_bool hQ
    . intro h' tk hk;have e:((List.range its.toArray.size).all λi=>(bs[i]?).getD true)=bs.all id:=by
       rw[zzD,hb.length];exact LSm.range_all bs
      rw[e];exact⟨.bl (bs.all id),H,I.kept (zpn hk),rfl,yx q (.bl _)⟩
 . cases he
end
inductive Ents(w:World):List DictEntry->List (Key×V)->Prop
 |nil:Ents w [] []
 |str {x:Str}{t:Tok}{v:V}{u:Value}{r:List DictEntry}{s:List (Key×V)}:RelV v u->Ents w r s->Ents w (⟨PyData.keyHash w.params x,.str x t,u⟩::r) ((.inr x,v)::s)
theorem Ents.keys{P:Program}{w:World}:∀{es:List DictEntry}{kvs:List (Key×V)},Ents w es kvs->∀e ∈ es,∃k,(wM P w).is k e.key=true/\e.hash=(wM P w).hash k
 |_,_,.nil,_,m=>nomatch m
 |_,_,.str (x:=x) (t:=t) _ r,e,m=>by
  rcases zI.mp m with rfl|m
  . exact⟨.inr x,zaE P w x t,rfl⟩
  . exact r.keys e m
theorem Ents.pairs{P:Program}{w:World}:∀{es:List DictEntry}{kvs:List (Key×V)},Ents w es kvs->∃vs,KV kvs vs/\Pairs (wM P w) es vs/\vs.map (·.1)=kvs.map (·.1)
 |_,_,.nil=>⟨[],.nil,.nil,rfl⟩
 |_,_,.str (x:=x) (t:=t) (u:=u) h r=>by
  obtain⟨vs,h1,h2,h3⟩:=r.pairs (P:=P);exact⟨(.inr x,u)::vs,.cons ⟨rfl,h⟩ h1,.cons (zaE P w x t) rfl h2,by rw[zyM,zyM,h3]⟩
structure DctAt(w:World)(K:zC)(a:Addr)(kvs:List (Key×V)):Prop where
 ex:∃es ep,K.lookup a=some {cls:=.type "dict",data:=.dict es ep}/\Ents w es.toList kvs
 nd:(kvs.map (·.1)).Nodup
 le:kvs.length<=sizeLine
 ns:(a==sysModules)=false
def kdL(l:List (Addr×List (Key×V)))(c:Str->Addr:=λ_=>0):KD:=⟨λa k=>l.lookup a=some k,c⟩
theorem lookup_mem{l:List (Addr×List (Key×V))}{a:Addr}{k:List (Key×V)}(h:l.lookup a=some k):(a,k) ∈ l:=by
 induction l with
 |nil=>cases h
 |cons p r ih=>
  rw[List.lookup_cons]at h
  by_cases e:a=p.1
  . subst e;rw[beq_self_eq_true]at h;cases h;exact zzB
  . rw[show(a==p.1)=false from beq_eq_false_iff_ne.mpr e]at h;exact zS _ (ih h)
theorem zvj{P:Program}{w:World}{K:zC}{l:List (Addr×List (Key×V))}{c:Str->Addr}(h:∀p ∈ l,DctAt w K p.1 p.2):KD1 P w K (kdL l c):=λX e1 e2 e3=>by
 subst e1;subst e2;subst e3;refine⟨λa k k' h1 h2=>zzT (h1.symm.trans h2),λa k h1=>?_,λa k hp h1 hin=>?_⟩
 . obtain⟨es,ep,e,_⟩:=(h _ (lookup_mem h1)).ex;exact⟨_,e⟩
 . have q:=h _ (lookup_mem h1);obtain⟨es,ep,e,en⟩:=q.ex;obtain⟨vs,h2,h3,h4⟩:=en.pairs (P:=X.prog);refine⟨q.le,q.ns,vs,h2,_,es,ep,hin _ _ e,⟨rfl,rfl,rfl⟩,rfl,λx m=>en.keys x (by simpa using m),h3,by rw[h4];exact q.nd⟩
section
variable{K:zC}{kd:KD}{mg:Str->Option Value}
theorem GC.dct{x:Str}{a:Addr}{kvs:List (Key×V)}{ds:List (Key×D)}(h:mg x=some (.ref a))(hk:kd a kvs)(hr:∀(O:Addr->Prop) (H:Hp),RpM K kd O H kvs ds):GC K kd mg x (.dct ds):=⟨.ref a,_,h,rfl,λO H=>.dctK hk (hr O H)⟩
end
def isStar:Expr->Bool
 | .Starred .. => true
 |_=>false
theorem za{a:Expr}{es:List Expr}{env:Env}(h:isStar a=false):starEach (a::es) env=(false,eval a env)::starEach es env:=by
 cases a<;>first|rfl|cases h
theorem wD{X:Cx}{kd:KD}{pos:Pos}{k v:Expr}{ks:List (Option Expr)}{vs:List Expr}{fk fv:EF}{trs:List (TE×TE)}(hk:AE X kd k fk)(hv:AE X kd v fv)(hr:PPs X pos ks vs trs):PPs X pos (some k::ks) (v::vs) ((al X.K kd fk,al X.K kd fv)::trs):=by with_unfolding_all exact(zqv hk hv hr)
section
variable{as:AS}{f a b c:EF}{s t u:Bool}{x y z:D}{i j k:Int}
theorem zvi{cl:String}(h:WD f as s x)(ho:znq x=true:=by rfl):WD (zmQ f cl) as true (.bl (ziQ (tyD x) cl)):=by
 unfold WD zmQ at *;rw[h];show(if znq x=true then _ else _)=_;rw[if_pos ho];rfl
theorem zmG{cl:String}{q:Bool}(h:WD f as s x)(e:ziQ (tyD x) cl=q)(ho:znq x=true:=by rfl):WD (zmQ f cl) as true (.bl q):=by subst e;exact zvi h ho
theorem zjc{fl fh:OF}{lo hi:Option Int}{g:D->Option Int->Option Int->Option R0}(ha:WD a as true y)(hl:fl as=some (lo,as))(hh:fh as=some (hi,as))(hg:g y lo hi=some (.im x)):WD (fSl a fl fh g) as true x:=by
 have:=zrK ha hl hh hg;rw[zzX]at this;exact this
theorem ix0{ds:List D}:ixP (.tup (x::ds)) (.int 0)=some (.im x):=by
 show imR (atI _ _)=_;rw[show(0:Int)=((0:Nat):Int)from rfl,Wr (v:=x) rfl];rfl
theorem zpz{g:GF}{tt:TF}{fe:EF}{as0 as1:AS}{w:It1}{r:List It1}{o:Option (List O)}(h1:g w as0=some as1)(h2:WT tt as1 false)(h3:xT g tt fe as0 r=o):xT g tt fe as0 (w::r)=o:=by
 unfold WT at h2;show(g w as0).bind _=_;rw[h1];show(tt as1).bind _=_;rw[h2];exact h3
theorem zoP{g:GF}{tt:TF}{fe:EF}{as0 as1:AS}{w:It1}{r:List It1}{os:List O}(h1:g w as0=some as1)(h2:WT tt as1 true)(h3:WD fe as1 true x)(h4:xT g tt fe as0 r=some os):xT g tt fe as0 (w::r)=some (.lf true x::os):=by
 unfold WT at h2;unfold WD at h3;show(g w as0).bind _=_;rw[h1];show(tt as1).bind _=_;rw[h2];show(fe as1).bind _=_;rw[h3];show(xT g tt fe as0 r).bind _=_;rw[h4];rfl
def WE(f:EF)(as:AS)(x:D):Prop:=∃o,f as=some (.ow o,as)/\o.str=true/\o.toD=x
def RE(r:Option O)(x:D):Prop:=∃o,r=some o/\o.str=true/\o.toD=x
theorem WD.e(h:WD f as true x):WE f as x:=⟨_,h,rfl,rfl⟩
theorem RE.of(h:r=some (.lf true x)):RE r x:=⟨_,h,rfl,rfl⟩
theorem xR{fr:DF}{os:List O}(h:WO fr as os)(hl:os.length<=sizeLine)(hs:O.strs os=true)(e:D.lst (O.toDs os)=x):WE (xX fr) as x:=⟨_,Z1 h hl,hs,e⟩
theorem Yh{fr:AF}{rs:List (Bool×D)}(h:WE a as x)(hr:WA fr as rs):WA (aC a fr) as ((true,x)::rs):=by
 obtain⟨o,h1,h2,rfl⟩:=h;have:=zgV h1 hr;rw[h2]at this;exact this
theorem zvu{g:List (Bool×D)->Option O}(ha:WE a as x)(hg:RE (g [(true,x)]) z):WE (zA (aC a aN) g) as z:=by
 obtain⟨o,h1,h2,h3⟩:=hg;exact⟨o,We (Yh ha zP) (by show g [(ye x||true,x)]=_;rw[zzX];exact h1),h2,h3⟩
theorem zcE{g:List (Bool×D)->Option O}(ha:WE a as x)(hb:WE b as y)(hg:RE (g [(true,x),(true,y)]) z):WE (zA (aC a (aC b aN)) g) as z:=by
 obtain⟨o,h1,h2,h3⟩:=hg;exact⟨o,We (Yh ha (Yh hb zP)) (by show g [(ye x||true,x),(ye y||true,y)]=_;rw[zzX,zzX];exact h1),h2,h3⟩
theorem zen{w:D}{g:List (Bool×D)->Option O}(ha:WE a as x)(hb:WE b as y)(hc:WE c as w)(hg:RE (g [(true,x),(true,y),(true,w)]) z):WE (zA (aC a (aC b (aC c aN))) g) as z:=by
 obtain⟨o,h1,h2,h3⟩:=hg;exact⟨o,We (Yh ha (Yh hb (Yh hc zP))) (by show g [(ye x||true,x),(ye y||true,y),(ye w||true,w)]=_;rw[zzX,zzX,zzX];exact h1),h2,h3⟩
theorem vH{g:List (Bool×D)->Option O}(ha:WE a as x)(hg:g [(true,x)]=some (.lf s z)):WD (zA (aC a aN) g) as s z:=We (Yh ha zP) (by show g [(ye x||true,x)]=_;rw[zzX];exact hg)
theorem xW{g:List (Bool×D)->Option O}(ha:WE a as x)(hb:WE b as y)(hg:g [(true,x),(true,y)]=some (.lf s z)):WD (zA (aC a (aC b aN)) g) as s z:=We (Yh ha (Yh hb zP)) (by show g [(ye x||true,x),(ye y||true,y)]=_;rw[zzX,zzX];exact hg)
theorem zal{w:D}{g:List (Bool×D)->Option O}(ha:WE a as x)(hb:WE b as y)(hc:WE c as w)(hg:g [(true,x),(true,y),(true,w)]=some (.lf s z)):WD (zA (aC a (aC b (aC c aN))) g) as s z:=We (Yh ha (Yh hb (Yh hc zP))) (by show g [(ye x||true,x),(ye y||true,y),(ye w||true,w)]=_;rw[zzX,zzX,zzX];exact hg)
theorem f2E{g:D->D->Option R0}(ha:WE a as x)(hb:WE b as y)(hg:g x y=some (.im z)):WD (f2 a b g) as true z:=by
 obtain⟨o,h1,h2,rfl⟩:=ha;obtain⟨p,h3,h4,rfl⟩:=hb;have:=zwu h1 h3 hg;rw[h2,h4,Bool.and_true,zzX]at this;exact this
theorem f2L{g:D->D->Option R0}{zs:List D}(ha:WE a as x)(hb:WE b as y)(hg:g x y=some (.fl zs)):f2 a b g as=some (.ow (.nd .ls (zs.map (O.lf true))),as):=by
 obtain⟨o,h1,h2,rfl⟩:=ha;obtain⟨p,h3,h4,rfl⟩:=hb;exact zsu h1 h3 hg h2 h4
theorem zcq:∀zs:List D,O.strs (zs.map (O.lf true))=true
 | []=>rfl
 |_::r=>zcq r
theorem zcm:∀zs:List D,O.toDs (zs.map (O.lf true))=zs
 | []=>rfl
 |z::r=>congrArg (z :: ·) (zcm r)
theorem zhV{g:D->D->Option R0}{zs:List D}(ha:WE a as x)(hb:WE b as y)(hg:g x y=some (.fl zs)):WE (f2 a b g) as (.lst zs):=⟨_,f2L ha hb hg,zcq zs,congrArg D.lst (zcm zs)⟩
theorem Yi{p:Nat}(h:WE f as x)(hi:p<as.length):zU true p f as=some (.nx (as.set p (some (.lf true x)))):=by
 obtain⟨o,h1,h2,rfl⟩:=h;have:=zsf h1 hi;rw[show o.frz = .lf true o.toD by unfold O.frz;rw[h2]]at this;exact this
theorem zrQ{q:Bool}(ha:WE a as x)(hb:WE b as y)(h:eqF 60 x y=some q):WD (f2 a b (zY .Eq)) as true (.bl q):=f2E ha hb (by show(eqF 60 x y).bind _=_;rw[h];rfl)
theorem zjG{q:Bool}(ha:WE a as x)(hb:WE b as y)(h:eqF 60 x y=some q):WD (f2 a b (zY .NotEq)) as true (.bl (!q)):=f2E ha hb (by show(eqF 60 x y).bind _=_;rw[h];rfl)
theorem Zv{g:List D->Option R0}(ha:WE a as x)(hg:g [x]=some (.im z)):WD (fP (aC a aN) g) as true z:=zqL (Yh ha zP) hg rfl
theorem zrW{fr:DF}{o:O}{os:List O}(ha:a as=some (.ow o,as))(hr:WO fr as os):WO (dC a fr) as (o::os):=XX ha hr
theorem zuZ{fr:DF}{os:List O}(h:WO fr as os)(hl:os.length<=sizeLine):Yg fr as=some (.ow (Vh os),as):=by
 unfold Yg;unfold WO at h;rw[h];show(if os.length<=sizeLine then some (RV.ow (Vh os),as)else _)=_;rw[if_pos hl]
theorem zah{fl fh:OF}{lo hi:Option Int}{g:D->Option Int->Option Int->Option R0}{zs:List D}(ha:WE a as y)(hl:fl as=some (lo,as))(hh:fh as=some (hi,as))(hg:g y lo hi=some (.fl zs)):WE (fSl a fl fh g) as (.lst zs):=by
 obtain⟨o,h1,h2,rfl⟩:=ha;refine⟨.nd .ls (zs.map (O.lf true)), ?_,zcq zs,congrArg D.lst (zcm zs)⟩;unfold fSl;rw[h1];show((fl as).bind _)=_;rw[hl];show((fh as).bind _)=_;rw[hh];show((g o.toD lo hi).bind _)=_;rw[hg];show(if(zs.all ye||(some o.str).isSome)=true then some (RV.ow (.nd .ls (zs.map (lfs ((some o.str).getD false)))))else none:Option RV).bind _=_;rw[if_pos (by simp),h2];show some (RV.ow (.nd .ls (zs.map (lfs true))),as)=_;rw[zbQ]
theorem Vc{xs ys:List D}:slP (.lst (xs++ys)) (some (xs.length:Int)) none=some (.fl ys):=by
 show some (R0.fl (cutD (xs++ys) (some (xs.length:Int)) none))=_
 congr 2
 unfold cutD;rw[HT.zon,HT.zkZ,zzF,Nat.min_eq_left (by omega),List.drop_left,List.take_of_length_le (by omega)]
theorem zke:∀ds:List D,kids true ds=ds.map λd=>(true,d)
 | []=>rfl
 |d::r=>by show(ye d||true,d)::kids true r=_;rw[zke r,zzX];rfl
theorem zpG{ds:List D}(h:WE f as (.lst ds)):Z6 f as=some (ds.map λd=>(true,d),as):=by
 obtain⟨o,h1,h2,h3⟩:=h;unfold Z6;rw[h1];show(ziD (o.str,o.toD)).bind _=_;rw[h2,h3];show some (kids true ds,as)=_;rw[zke]
theorem zuf{ds:List D}(h:WD f as true (.lst ds)):zrU f as=some (ds.map λd=>(true,d),as):=by
 unfold zrU;unfold WD at h;rw[h];show some (kids true ds,as)=_;rw[zke]
end
def zdx:List D->Option (List Str)
 | []=>some []
 | .str x::r=>(zdx r).bind λs=>some (x::s)
 |_::_=>none
theorem ztG{K:zC}{kd:KD}{O:Addr->Prop}{H:Hp}{vs:List V}{us:List Value}{ds:List D}{ns:List Str}(h:RpL K kd O H vs ds)(hv:Vals vs us)(e:zdx ds=some ns):StrsAre us ns:=
 RpL.ind (P:=λvs ds=>∀us ns,Vals vs us->zdx ds=some ns->StrsAre us ns) (λus ns hv e=>by cases e;cases hv;exact .nil) (λ{v d vs ds} a _ ih us ns hv e=>by
  cases hv with
  |cons b t=>
   cases a with
   |str x=>
    obtain⟨ys,h1,h2⟩:=bS_ (show(zdx _).bind _=_ from e);cases h2;obtain⟨tk,rfl⟩:=b;exact .cons _ _ (ih _ _ t h1)
   |_=>cases e) h us ns hv e
def wH:D->List D->Option R0
 | .str sep,[.lst ds]=>(zdx ds).bind λys=>if(ys.map (·.length)).sum+ys.length*sep.length<=16777216 then some (.im (.str (Txt.join sep ys)))else none
 |_,_=>none
def Za:D->List D->Option R0
 | .str x,[.str y]=>if(y.length==0)=false/\x.length<=sizeLine/\(Builtin.Str.partsBetween x (Builtin.Str.occurrences x y 0 x.length (x.length+1)) y.length).length<=sizeLine then some (.fl ((Txt.split x y).map .str))else none
 |_,_=>none
section
variable{X:Cx}{kd:KD}
theorem Zr:MtD X kd "str.join" wH:=by
 intro pins s σ H x xs v us Q I rx r h;obtain⟨O,d,ds,r0,ht,vx,vl,he,q⟩:=h;unfold wH at he
 split at he
 . rename_i sep es;obtain⟨ys,h1,he⟩:=bS_ he;obtain⟨hz,he⟩:=zZ he;cases he;cases vx;obtain⟨t,rfl⟩:=rx;obtain⟨y,rfl,vy⟩:=Zk vl;cases vy with
   |lst hr rl=>
    obtain⟨u,rfl,ru⟩:=vals1 r;cases ru;obtain⟨its,rv,pl,_⟩:=I.list hr.sq;exact join_list pl.isList (ztG rl (by simpa using rv) h1) hz λt' k=>⟨.str _,H,I.tok _,⟨t',rfl⟩,yx q (.str _)⟩
 . cases he
theorem zek:∀{l:List (Str×Tok)}{ys:List Str},l.map (·.1)=ys->Vals (ys.map V.str) (strValues l)
 | [],_,e=>by cases e;exact .nil
 |(x,t)::r,_,e=>by cases e;exact .cons ⟨t,rfl⟩ (zek rfl)
theorem zhu{K:zC}{O:Addr->Prop}{H:Hp}:∀ys:List Str,RpL K kd O H (ys.map V.str) (ys.map D.str)
 | []=>.nil
 |y::r=>.cons (.str y) (zhu r)
theorem Y8:MtD X kd "str.split" Za:=by
 intro pins s σ H x xs v us Q I rx r h;obtain⟨O,d,ds,r0,ht,vx,vl,he,q⟩:=h;unfold Za at he
 split at he
 . rename_i x y;obtain⟨⟨hy,hx,hn⟩,he⟩:=zZ he;cases he;cases vx;obtain⟨t,rfl⟩:=rx;obtain⟨y',rfl,vy⟩:=Zk vl;cases vy;obtain⟨u',rfl,ru⟩:=vals1 r;obtain⟨u,rfl⟩:=ru;have fin:∀(l:List (Str×Tok)) (tk:Nat),l.map (·.1)=Txt.split x y->l.length<=sizeLine->EP X pins σ Q (.ref s.heap.objs.size) {s with heap:=s.heap.push {cls:=.type "list",data:=.seq (strValues l).toArray},toks:=tk}:=λl tk hl hz=>by
    refine⟨.ref s.heap.objs.size,_,I.laid (λb o e=>zyZ _ e) (zzJ _) (show v7 X.prog X.w _ _ _ (.lst ((Txt.split x y).map V.str))from⟨by rw[<-hl];simpa using hz,strValues l,0,zek hl,QzB _ rfl⟩),rfl,zgk q (zhu _) _ (I.hok.fresh (zzJ _))⟩
   cases h1:(decide (x.length<y.length)||decide (Builtin.Str.strKind x<Builtin.Str.strKind y))
   . cases hf:(Builtin.Str.occurrences x y 0 x.length (x.length+1)).isEmpty
     . refine call_meets PySem.F.slot_str_split (typeIs_str _ _ _) PySem.F.entry_str_split (PySem.F.args_str_split_2 _ _) (meets_str_split_sep x y t u h1 hy hf hx hn) ?_;show EP X pins σ Q (.ref s.heap.objs.size) {s with toks:=_,heap:=s.heap.push {cls:=.type "list",data:=.seq (strsFrom s.toks _).toArray}};rw[strsFrom_eq];exact fin (numbered s.toks _) _ ((numbered_texts _ _).trans ((if_neg (ne_true_of_eq_false h1)).trans (if_neg (ne_true_of_eq_false hf))).symm) (by have:=congrArg List.length (numbered_texts s.toks (Builtin.Str.partsBetween x (Builtin.Str.occurrences x y 0 x.length (x.length+1)) y.length));rw[zD]at this;omega)
     . exact call_meets PySem.F.slot_str_split (typeIs_str _ _ _) PySem.F.entry_str_split (PySem.F.args_str_split_2 _ _) (meets_str_split_not_found x y t u h1 hy hf) (fin [(x,t)] s.toks ((if_neg (ne_true_of_eq_false h1)).trans (if_pos hf)).symm (by show 1<=sizeLine;decide))
   . exact call_meets PySem.F.slot_str_split (typeIs_str _ _ _) PySem.F.entry_str_split (PySem.F.args_str_split_2 _ _) (meets_str_split_cannot_occur x y t u h1) (fin [(x,t)] s.toks (if_pos h1).symm (by show 1<=sizeLine;decide))
 . cases he
def vQ:List D->Option R0
 | [.str x]=>some (.im (.str x))
 |ds=>zsY ds
def zyr:D->Option R0
 | .str x=>if x.length<=640 then(PySem.intText? x).bind λn=>some (.im (.int n))else none
 |d=>zxY d
def zcj:List D->Option R0:=on1 zyr
theorem xm:CallD X kd (.type "str") vQ:=by
 intro pins s σ H xs us Q I r h;obtain⟨O,ds,z,ht,vl,he,q⟩:=h;unfold vQ at he
 split at he
 . cases he;obtain⟨x,rfl,vx⟩:=Zk vl;cases vx;obtain⟨u,rfl,ru⟩:=vals1 r;obtain⟨t,rfl⟩:=ru;exact PySem.P.str_of_str ⟨.str _,H,I,⟨t,rfl⟩,yx q (.str _)⟩
 . exact zpv pins s σ H _ us Q I r ⟨O,_,z,ht,vl,he,q⟩
theorem Yl:CallD X kd (.type "int") zcj:=by
 intro pins s σ H xs us Q I r h;obtain⟨O,ds,z,ht,vl,he,q⟩:=h;obtain⟨x,d,rfl,vx,he⟩:=zrh vl he;cases vx with
 |str y=>
  obtain⟨hl,he⟩:=ite_some' he;obtain⟨n,hn,he⟩:=bS_ he;cases he;obtain⟨u,rfl,ru⟩:=vals1 r;obtain⟨t,rfl⟩:=ru;exact PySem.W.KIN.call_text hn hl ⟨.int _,H,I.tok _,⟨_,rfl⟩,yx q (.int _)⟩
 |int i=>cases he;exact zjb pins s σ H _ us Q I r (.inl ⟨_,rfl,yx q (.int _)⟩)
 |bl b=>cases he;exact zjb pins s σ H _ us Q I r (.inr ⟨_,rfl,yx q (.int _)⟩)
 |_=>cases he
end
section
variable{X:Cx}{pins:List (Addr×Obj)}{σ:List (Option V)}{H:Hp}{s:Shared}{h':Heap}
theorem zjw{t':Nat}{ch:List Addr}{T:Addr}{o:HO}(I:Inv X pins σ H s)(hf:∀b ∈ ch,zfy X pins H b)(k:∀b u,b ∉ ch->s.heap.get? b=some u->h'.get? b=some u)(hp:s.heap.objs.size<=T)
 (new:v7 X.prog X.w (upd H T o) h' T o):Inv X pins σ (upd H T o) {s with heap:=h',toks:=t'}:=by
 have hn:H T=none:=I.hok.fresh hp;have nT:∀b u,s.heap.get? b=some u->b≠T:=λb u e z=>absurd (zzG (QzA e) (by rw[z];exact hp)) (Nat.lt_irrefl _);have nc:∀b u,H b=some u->b ∉ ch:=λb u e z=>by have:=(hf b z).1;rw[e]at this;cases this
 refine I.step (g':=s.gens) (d':=s.drawn) (ch:=ch) (λb hb=>?_) (λb o _ _ hc e _=>k b o hc e) (λb o _ _ hc e _=>⟨o.slots,k b o hc e⟩) (λb o _ e n=>by rw[yg (nT b o e)];exact n)
  (λb o hc e=>⟨o,k b o hc e⟩) (λb xs e=>by rw[yg (yP e hn)];exact e) (λb o u e=>by rw[yg (yP e hn)];exact e) (λb ps e=>⟨#[],by rw[yg (yP e hn),e];simp⟩) (λm hm=>?_) (λb u e=>?_) I.bare
 . obtain⟨f0,f1,f2,f3,f4,f5⟩:=hf b hb;exact⟨f3,f1,f4,f5⟩
 . obtain⟨o,es,ep,ho,r⟩:=hm;exact⟨o,es,ep,k _ o (λz=>(hf _ z).2.1 rfl) ho,r⟩
 . by_cases hb:b=T
   . subst hb;rw[yw]at e;cases e;exact new
   . rw[yg hb]at e;refine(I.hok b u e).stay (λc v hc q=>k c v ?_ q) (λc q=>by rw[yg (yP q hn)];exact q) λc xs q=>by rw[yg (yP q hn)];exact q
     rcases hc with z|z
     . rw[z];exact nc b u e
     . exact nc c _ z
end
def Ite(K:zC)(a:Addr):It:=
 ⟨λi H=>∃xs x,SqL K H a xs/\xs[i]? = some x,λi H v H'=>∃T x,H T=none/\v = .ref T/\H'=upd H T (.tup [.int i,x])/\∀xs,SqL K H a xs->xs[i]? = some x,λi H=>∃xs,SqL K H a xs/\xs.length<=i⟩
theorem zpF{P:Program}{w:World}{K:zC}{elts:List Expr}{k:Nat}{pos:Pos}(a e it:Addr)(hei:e≠it):Turn P w K (.Tuple elts k pos) (Ite K a) [e,it] e (λi h=>(∃old,IsEnum h e it i old)/\h.IsListIter it a i)where
 mem:=by simp
 obj:=λi h st b hb=>by
  obtain⟨⟨old,he⟩,⟨o,e1,c,d⟩⟩:=st
  rcases zI.mp hb with rfl|hb
  . exact⟨_,he,λv z=>by cases z⟩
  . rw[zzN.mp hb];exact⟨o,e1,λv z=>by rw[d]at z;cases z⟩
 keep:=λi h h' st kk=>⟨st.1.imp λold he=>kk e (by simp) _ he,st.2.at λo q=>kk it (by simp) o q⟩
 item:=by
  intro X hP hw hK hc i pins s σ H E I hf st hg;subst hP hw hK;obtain⟨xs,x,hq,hx⟩:=hg;obtain⟨its,rv,p,hz⟩:=I.list hq;obtain⟨u,hu,ru⟩:=rv.get hx;have hil:i<its.toArray.size:=by have:=(zzC.mp hu).1;simpa using this
  obtain⟨ol,hol,hcl,_⟩:=p.isList;have hae:a≠e:=λz=>by
   obtain⟨⟨old,he⟩,_⟩:=st;rw[z]at hol;rw[show s.heap.get? e=_ from he]at hol;cases hol;injection hcl with q;exact absurd q (by decide)
  have hai:a≠it:=λz=>by
   obtain⟨_,⟨o,e1,c,d⟩⟩:=st;rw[z,e1]at hol;cases hol;rw[c]at hcl;injection hcl with q;exact absurd q (by decide)
  have W:=WalksT.enumerate (prog:=X.prog) (w:=X.w) (A:=X.A) (I.ok.hd hc) e it a hei hae hai its.toArray;refine W.item i s _ _ hil ⟨st.1,st.2,p.isList⟩ λT vals h1 tk hP hT hTup hMid kk=>?_;obtain⟨t,v,hv,rfl⟩:=hP;have:v=u:=by rw[show its.toArray[i]? = its[i]? by simp,hu]at hv;cases hv;rfl
  subst this;refine⟨_,rfl,W.go elts k pos i T {s with heap:=h1,toks:=tk} _ _ hMid λh2 hSt kk2=>?_⟩;have hn:H T=none:=I.hok.fresh hT;have hTw:=W.apart i T h1 hMid;have k2:∀b o,b ∉ [e,it]->s.heap.get? b=some o->h2.get? b=some o:=λb o hb q=>kk2 b o hb (kk b o hb q);have hT2:IsTup h2 T #[.int i t,v]:=by
   obtain⟨o,q1,q2⟩:=hTup;exact⟨o,kk2 T o hTw q1,q2⟩
  refine⟨.ref T,upd H T (.tup [.int i,x]),zjw (s:=s) (t':=tk) (ch:=[e,it]) I hf k2 hT ⟨by show 2<=sizeLine;decide,[.int i t,v],.cons ⟨t,rfl⟩ (.cons ru .nil),hT2⟩,rfl,⟨T,x,hn,rfl,rfl,λys hy=>by rw[I.list_inj hy hq];exact hx⟩,⟨hSt.1,hSt.2.1⟩,λb hb=>?_⟩;have hbT:b≠T:=λz=>hTw (by rw[<-z];exact hb);rw[yg hbT];exact(hf b hb).1
 done:=by
  intro X hP hw hK hc i pins s σ H E I hf st hg;subst hP hw hK;obtain⟨xs,hq,hx⟩:=hg;obtain⟨its,rv,p,hz⟩:=I.list hq;have hl:=rv.length;obtain⟨⟨old,he⟩,hit⟩:=st;obtain⟨f0,f1,f2,f3,f4,f5⟩:=hf it (by simp);exact wpAny_pyNext_enum_end (I.ok.hd hc) he hit p.isList (by simp;omega) λh' eb=>⟨rfl,I.turned (t':=s.toks) (λb o hb e=>eb b o hb e) f0 f1 f3 f4 f5⟩
 self:=λ_ _ _ _ _ st h=>by
  obtain⟨⟨old,he⟩,_⟩:=st;exact wpAny_pyIter_enum he h
section
variable{X:Cx}{tg:Expr}
def zwi(K:zC)(ta:TA):TI:=λσ H R=>ta σ H λvs H1=>∃a,vs=[.ref a]/\(∃xs,SqL K H1 a xs)/\R (Ite K a) H1
theorem zsS{l:Expr}{ta:TA}{p pos pos':Pos}{elts:List Expr}{k:Nat}(hg:Gl X "enumerate")(hm:X.mg "enumerate"=none)(ha:PA X [l] ta)(hs:starEach [l] X.env=[(false,eval l X.env)]):
 PI X (.Tuple elts k pos') (.Call (.Name "enumerate" p) [l] [] pos) (zwi X.K ta):=by
 intro pins s σ H R I h;refine Call_ (zcx I hg hm boot_enumerate (PyProof.Rows.callWith_type1 (thn (ha pos pins s σ H _ I h) λus s1 ⟨vs,H1,I1,r1,q1⟩=>?_) hs rfl));obtain⟨a,rfl,⟨xs,hq⟩,q⟩:=q1;cases r1 with
 |cons r rr=>
  cases rr;cases r;obtain⟨its,rv,pl,hz⟩:=I1.list hq;refine call_enumerate_list pl.isList λh' he hit hsz hk=>?_;refine wpAny_pyIter_enum he ⟨s1.heap.objs.size+1,[s1.heap.objs.size+1,s1.heap.objs.size],_,_,H1,rfl,I1.kept (t':=s1.toks) hk,zpF a _ _ (Nat.succ_ne_self _),⟨⟨_,he⟩,hit⟩,λb hb=>?_,q⟩;have hb':s1.heap.objs.size<=b:=by
   rcases zI.mp hb with rfl|hb
   . exact zyQ _
   . rw[zzN.mp hb];exact zzJ _
  exact I1.fpOk hb' (I1.hok.fresh hb')
end
section
variable{X:Cx}{kd:KD}{tg e:Expr}{fa:EF}
def Xa(st:Bool):Nat->List D->List It1
 |_,[]=>[]
 |i,d::r=>(st,.tup [.int i,d])::Xa st (i+1) r
theorem ziW(st:Bool):∀(i:Nat) (ds:List D),(Xa st i ds).length=ds.length
 |_,[]=>rfl
 |i,_::r=>congrArg (· + 1) (ziW st (i+1) r)
theorem zjk{st:Bool}:∀{j:Nat}{ds:List D}{i:Nat}{y:It1},(Xa st j ds)[i]? = some y->∃d,ds[i]? = some d/\y=(st,.tup [.int ((j+i:Nat):Int),d])
 |_,[],_,_,h=>by simp[Xa]at h
 |j,d::r,0,y,h=>by
  simp only[Xa,List.getElem?_cons_zero]at h;cases h;exact⟨d,rfl,rfl⟩
 |j,d::r,i+1,y,h=>by
  simp only[Xa,List.getElem?_cons_succ]at h;obtain⟨d',h1,h2⟩:=zjk h;exact⟨d',by simpa using h1,by rw[h2,show j+1+i=j+(i+1) by omega]⟩
theorem zoy{K:zC}{F B:Addr->Prop}{ad:Ad}{H:Hp}{a:Addr}{vs:List V}{st:Bool}{ds:List D}(hs:∀(ad3:Ad) (H3:Hp),Grow (Gw [] ad) H (Gw [] ad3) H3->SqL K H3 a vs)(r:RpL K kd (Lv F B (Gw [] ad) st) H vs ds):ItOk K kd F B ad H (Ite K a) (Xa st 0 ds):=⟨λad3 H3 g3 tr i=>by
 have hr3:=hs ad3 H3 g3;have rl3:RpL K kd (Lv F B (Gw [] ad3) st) H3 vs ds:=RpL.grow g3 r;have hlen:=ziW st 0 ds;refine⟨λhi=>?_,λhi=>⟨_,hr3,by rw[r.length];omega⟩,λv H4 hy=>?_⟩
 . obtain⟨u,hu,_⟩:=r.get (zzA (by rw[<-hlen];exact hi));exact⟨_,u,hr3,hu⟩
 . obtain⟨T,x,hn,rfl,rfl,hv⟩:=hy;refine⟨zaF hn,λy hy=>?_⟩;obtain⟨d,hd,rfl⟩:=zjk hy;obtain⟨u,hu,ru⟩:=rl3.get hd;have:=hv _ hr3;rw[hu]at this;cases this;rw[Nat.zero_add];exact .tup (λz=>tr _ _ z hn) (.inl yw) (.cons (.int _) (.cons (Rp.grow ⟨λb o q _=>zaF hn b o q,λb z=>.inl z⟩ ru) .nil))⟩
def zty(f:EF):IF:=λas=>(f as).bind λp=>(zhC p.2 p.1).bind λq=>match q.1 with
 |(st,.lst ds)=>some (Xa st 0 ds,q.2)
 |_=>none
theorem ztN{p pos pos':Pos}{elts:List Expr}{k:Nat}(hg:Gl X "enumerate")(hm:X.mg "enumerate"=none)(he:AE X kd e fa)(hs:starEach [e] X.env=[(false,eval e X.env)]):
 AI X kd (.Tuple elts k pos') (.Call (.Name "enumerate" p) [e] [] pos) (zty fa):=by
 with_unfolding_all (
 intro pins s σ H R I h;obtain⟨F,B,ad,as,ds,as',Rl,e',q⟩:=h;obtain⟨⟨p,as1⟩,h1,e'⟩:=bS_ (show(fa as).bind _=_ from e');obtain⟨⟨⟨st,x⟩,as2⟩,h2,e'⟩:=bS_ e'
 match x,e',h2 with
 | .lst xs,e',h2=>
  cases e';refine zsS hg hm (VR he zdQ hs) hs pins s σ H R I (show al X.K kd fa σ H _ from⟨F,B,ad,as,p,as1,Rl,h1,λv T1 ad1 H1 R1 rv1 g1=>?_⟩);obtain⟨ad2,R2,rp,le⟩:=Ve R1 rv1 h2;cases rp with
  |lst hn hr rl=>exact⟨_,rfl,⟨_,.inl hr⟩,q _ ad2 H1 R2 (g1.trans (Grow.less le)) (zoy (λad3 H3 g3=>.inl (zaj g3 (λz=>hn (.inr z)) hr)) rl)⟩
  |lstK a b c rl=>exact⟨_,rfl,⟨_,.inr ⟨_,_,_,a,rfl,rfl,rfl,b,c⟩⟩,q _ ad2 H1 R2 (g1.trans (Grow.less le)) (zoy (λad3 H3 g3=>.inr ⟨_,_,_,a,rfl,rfl,rfl,b,c⟩) rl)⟩)
end
def Itv(K:zC)(a:Addr)(n:Nat):It:=
 ⟨λi H=>i<n/\∃xs,SqL K H a xs/\xs.length=n,λi H v H'=>H'=H/\∀xs,SqL K H a xs->xs[n-1-i]? = some v,λi _=>n<=i⟩
theorem zpU{P:Program}{w:World}{K:zC}{tg:Expr}(a it:Addr)(n:Nat):Turn P w K tg (Itv K a n) [it] it (λi h=>i<=n/\h.IsRevIter it a ((n:Int)-1-i))where
 mem:=by simp
 obj:=λi h st b hb=>by
  have e:b=it:=by simpa using hb
  subst e;obtain⟨_,o,e,c,d⟩:=st;exact⟨o,e,λv z=>by rw[d]at z;cases z⟩
 keep:=λi h h' st k=>⟨st.1,st.2.at λo e=>k it (by simp) o e⟩
 item:=by
  intro X hP hw hK hc i pins s σ H E I hf st hg;subst hP hw hK;obtain⟨hi,xs,hq,hl⟩:=hg;obtain⟨its,rv,p,hz⟩:=I.list hq;have hx:xs[n-1-i]? = some (xs[n-1-i]'(by omega)):=zzA _;obtain⟨u,hu,ru⟩:=rv.get hx;obtain⟨f0,f1,f2,f3,f4,f5⟩:=hf it (by simp);obtain⟨hin,hst⟩:=st;rw[show(n:Int)-1-i=((n-1-i:Nat):Int) by omega]at hst;refine wpAny_pyNext_rev_item hst p.isList (x:=u) (by simpa using hu) λh' st' sb=>?_;have I1:Inv X pins σ H {s with heap:=h'}:=I.turned (t':=s.toks) (λb o hb e=>(sb.2 b hb).trans e) f0 f1 f3 f4 f5;obtain⟨o,e,c,d⟩:=id st';refine⟨u,rfl,zmo (s:={s with heap:=h'}) e c d (by decide) ⟨_,H,I1,ru,⟨rfl,λys hy=>by rw[I.list_inj hy hq];exact hx⟩,⟨hi, ?_⟩,λb hb=>(hf b hb).1⟩⟩;rw[show(n:Int)-1-((i+1:Nat):Int)=((n-1-i:Nat):Int)-1 by omega];exact st'
 done:=by
  intro X hP hw hK hc i pins s σ H E I hf st hg;subst hP hw hK;obtain⟨hin,hst⟩:=st;obtain⟨f0,f1,f2,f3,f4,f5⟩:=hf it (by simp);rw[show(n:Int)-1-i = -1 by have:n<=i:=hg;omega]at hst;exact wpAny_pyNext_rev_end (I.ok.hd hc) hst λh' eb=>⟨rfl,I.turned (t':=s.toks) (λb o hb e=>eb b o hb e) f0 f1 f3 f4 f5⟩
 self:=λ_ _ _ _ _ st h=>wpAny_pyIter_revIter st.2 h
section
variable{X:Cx}{tg:Expr}
def zxp(K:zC)(ta:TA):TI:=λσ H R=>ta σ H λvs H1=>∃a xs,vs=[.ref a]/\SqL K H1 a xs/\R (Itv K a xs.length) H1
theorem zvY{l:Expr}{ta:TA}{p pos:Pos}(hg:Gl X "reversed")(hm:X.mg "reversed"=none)(ha:PA X [l] ta)(hs:starEach [l] X.env=[(false,eval l X.env)]):
 PI X tg (.Call (.Name "reversed" p) [l] [] pos) (zxp X.K ta):=by
 intro pins s σ H R I h;refine Call_ (zcx I hg hm boot_reversed (PyProof.Rows.callWith_type1 (thn (ha pos pins s σ H _ I h) λus s1 ⟨vs,H1,I1,r1,q1⟩=>?_) hs rfl));obtain⟨a,xs,rfl,hq,q⟩:=q1;cases r1 with
 |cons r rr=>
  cases rr;cases r;obtain⟨its,rv,pl,hz⟩:=I1.list hq;have hl:=rv.length;refine call_reversed_list pl.isList ?_;have hobj:Heap.IsRevIter (s1.heap.push (revObj a ((its.toArray.size:Int)-1))) s1.heap.objs.size a ((its.toArray.size:Int)-1):=⟨_,QzB _ rfl,rfl,rfl⟩;refine wpAny_pyIter_revIter (s:={s1 with heap:=s1.heap.push (revObj a ((its.toArray.size:Int)-1))}) hobj ⟨s1.heap.objs.size,[s1.heap.objs.size],_,_,H1,rfl,I1.kept (t':=s1.toks) λb o e=>zyZ _ e,zpU a _ xs.length,⟨Nat.zero_le _, ?_⟩,λb hb=>?_,q⟩
  . rw[show(xs.length:Int)-1-((0:Nat):Int)=(its.toArray.size:Int)-1 by rw[hl];simp];exact hobj
  . rw[zzN.mp hb];exact I1.fpOk (zzJ _) (I1.hok.fresh (zzJ _))
end
section
variable{X:Cx}{kd:KD}{tg e:Expr}{fa:EF}
theorem zrC{K:zC}{F B:Addr->Prop}{ad:Ad}{H:Hp}{a:Addr}{vs:List V}{st:Bool}{ds:List D}(hs:∀(ad3:Ad) (H3:Hp),Grow (Gw [] ad) H (Gw [] ad3) H3->SqL K H3 a vs)(r:RpL K kd (Lv F B (Gw [] ad) st) H vs ds):ItOk K kd F B ad H (Itv K a vs.length) (kids st ds.reverse):=⟨λad3 H3 g3 tr i=>by
 have hr3:=hs ad3 H3 g3;have rl3:RpI K kd F B (Gw [] ad3) H3 vs (kids st ds):=(zak r).grow g3;have hl:vs.length=ds.length:=r.length;have hlen:(kids st ds.reverse).length=ds.length:=by unfold kids;simp
 refine⟨λhi=>⟨by omega,_,hr3,rfl⟩,λhi=>by show vs.length<=i;omega,λv H4 hy=>?_⟩;obtain⟨rfl,hv⟩:=hy;refine⟨λ_ _ z=>z,λy hy=>?_⟩;have hi:i<ds.length:=by rw[<-hlen];exact(zzC.mp hy).1
 have hy2:(kids st ds)[vs.length-1-i]? = some y:=by
  unfold kids at hy ⊢;rw[zzE]at hy ⊢;rw[List.getElem?_reverse hi]at hy;rw[hl];exact hy
 obtain⟨u,hu,ru⟩:=rl3.get hy2;have:=hv _ hr3;rw[hu]at this;cases this;exact ru⟩
def ztq(f:EF):IF:=λas=>(f as).bind λp=>(zhC p.2 p.1).bind λq=>match q.1 with
 |(st,.lst ds)=>some (kids st ds.reverse,q.2)
 |_=>none
theorem zvs{p pos:Pos}(hg:Gl X "reversed")(hm:X.mg "reversed"=none)(he:AE X kd e fa)(hs:starEach [e] X.env=[(false,eval e X.env)]):
 AI X kd tg (.Call (.Name "reversed" p) [e] [] pos) (ztq fa):=by
 with_unfolding_all (
 intro pins s σ H R I h;obtain⟨F,B,ad,as,ds,as',Rl,e',q⟩:=h;obtain⟨⟨p,as1⟩,h1,e'⟩:=bS_ (show(fa as).bind _=_ from e');obtain⟨⟨⟨st,x⟩,as2⟩,h2,e'⟩:=bS_ e'
 match x,e',h2 with
 | .lst xs,e',h2=>
  cases e';refine zvY hg hm (VR he zdQ hs) hs pins s σ H R I (show al X.K kd fa σ H _ from⟨F,B,ad,as,p,as1,Rl,h1,λv T1 ad1 H1 R1 rv1 g1=>?_⟩);obtain⟨ad2,R2,rp,le⟩:=Ve R1 rv1 h2;cases rp with
  |lst hn hr rl=>exact⟨_,_,rfl,.inl hr,q _ ad2 H1 R2 (g1.trans (Grow.less le)) (zrC (λad3 H3 g3=>.inl (zaj g3 (λz=>hn (.inr z)) hr)) rl)⟩
  |lstK a b c rl=>exact⟨_,_,rfl,.inr ⟨_,_,_,a,rfl,rfl,rfl,b,c⟩,q _ ad2 H1 R2 (g1.trans (Grow.less le)) (zrC (λad3 H3 g3=>.inr ⟨_,_,_,a,rfl,rfl,rfl,b,c⟩) rl)⟩)
end
def Itc(x:Str):It:=⟨λi _=>i<x.cps.size,λi H v H'=>H'=H/\∃c,x.cps[i]? = some c/\v = .str ⟨#[c]⟩,λi _=>x.cps.size<=i⟩
theorem zlK{P:Program}{w:World}{K:zC}{tg:Expr}(it:Addr)(x:Str)(t:Tok)(ty:String)(hty : ["enumerate","zip","dict_itemiterator","dict_reverseitemiterator","odict_iterator","itertools.zip_longest","itertools.pairwise"].contains ty=false)
 (hW:∀A:Around,A.handled=none->Walks P w A it [it] [it] x.cps.size (SignAt x) (λi h=>h.IsStrIter it ty x t i))
 (hS:∀(A:Around) (i:Nat) (s:Shared) (Q:Value->Shared->Prop) (E:Value->Shared->Prop),s.heap.IsStrIter it ty x t i->Q (.ref it) s->wpAny (model P w) A (pyIter (.ref it)) Q E s):Turn P w K tg (Itc x) [it] it (λi h=>i<=x.cps.size/\h.IsStrIter it ty x t i)where
 mem:=by simp
 obj:=λi h st b hb=>by
  have e:b=it:=by simpa using hb
  subst e;obtain⟨_,o,e,c,d⟩:=st;exact⟨o,e,λv z=>by rw[d]at z;cases z⟩
 keep:=λi h h' st k=>⟨st.1,let⟨o,e,r⟩:=st.2;⟨o,k it (by simp) o e,r⟩⟩
 item:=by
  intro X hP hw hK hc i pins s σ H E I hf st hg;subst hP hw hK;obtain⟨f0,f1,f2,f3,f4,f5⟩:=hf it (by simp);refine(hW X.A (I.ok.hd hc)).item i s _ _ hg st.2 λv h' tk hv st' kk=>?_;obtain⟨c,u,hcc,rfl⟩:=hv;have I1:Inv X pins σ H {s with heap:=h',toks:=tk}:=I.turned (λb o hb e=>kk b o (by simpa using hb) e) f0 f1 f3 f4 f5;obtain⟨o,e,cl,d⟩:=id st';exact⟨_,rfl,zmo (s:={s with heap:=h',toks:=tk}) e cl d hty ⟨.str ⟨#[c]⟩,H,I1,⟨u,rfl⟩,⟨rfl,c,hcc,rfl⟩,⟨hg,st'⟩,λb hb=>(hf b hb).1⟩⟩
 done:=by
  intro X hP hw hK hc i pins s σ H E I hf st hg;subst hP hw hK;obtain⟨f0,f1,f2,f3,f4,f5⟩:=hf it (by simp);obtain⟨hin,hst⟩:=st;have:i=x.cps.size:=Nat.le_antisymm hin hg;subst this;exact(hW X.A (I.ok.hd hc)).done s _ _ hst λh' tk kk=>⟨rfl,I.turned (λb o hb e=>kk b o (by simpa using hb) e) f0 f1 f3 f4 f5⟩
 self:=λA i s Q E st h=>by
  obtain⟨_,hst⟩:=st;exact hS A i s Q E hst h
section
variable{X:Cx}{tg:Expr}
def zwA(te:TE):TI:=λσ H R=>te σ H λv H1=>∃x,v = .str x/\R (Itc x) H1
theorem zve{e:Expr}{te:TE}(he:PE X e te):PI X tg e (zwA te):=by
 intro pins s σ H R I h;refine thn (he pins s σ H _ I h) λv s1 ⟨y,H1,I1,r1,q1⟩=>?_;obtain⟨x,rfl,q⟩:=q1;obtain⟨t,rfl⟩:=r1;have fp:∀b ∈ [s1.heap.objs.size],zfy X pins H1 b:=λb hb=>by
  rw[zzN.mp hb];exact I1.fpOk (zzJ _) (I1.hok.fresh (zzJ _))
 cases ha:x.cps.all (· < 128)
 . exact wpAny_pyIter_wide ha ⟨s1.heap.objs.size,[s1.heap.objs.size],_,_,H1,rfl,I1.kept (t':=s1.toks) λb o e=>zyZ _ e,zlK _ x t "str_iterator" (by decide) (λA hA=>Walks.strWide hA _ x t) (λ_ _ _ _ _ st h=>wpAny_pyIter_striter_wide st h),⟨Nat.zero_le _,_,QzB _ rfl,rfl,rfl⟩,fp,q⟩
 . exact wpAny_pyIter_ascii ha ⟨s1.heap.objs.size,[s1.heap.objs.size],_,_,H1,rfl,I1.kept (t':=s1.toks) λb o e=>zyZ _ e,zlK _ x t "str_ascii_iterator" (by decide) (λA hA=>Walks.strAscii hA _ x t) (λ_ _ _ _ _ st h=>wpAny_pyIter_striter_ascii st h),⟨Nat.zero_le _,_,QzB _ rfl,rfl,rfl⟩,fp,q⟩
end
section
variable{X:Cx}{kd:KD}{tg e:Expr}{fa:EF}
def Xe(x:Str):List It1:=x.cps.toList.map λc=>(true,.str ⟨#[c]⟩)
theorem zsm{K:zC}{F:Addr->Prop}{H:Hp}(x:Str):ItC K kd F H (Itc x) (Xe x):=⟨λH2 T k hT i=>by
 have hl:(Xe x).length=x.cps.size:=by unfold Xe;simp
 refine⟨λhi=>by rw[hl]at hi;exact hi,λhi=>by rw[hl]at hi;exact hi,λv H3 hy=>?_⟩;obtain⟨rfl,c,hc,rfl⟩:=hy;refine⟨λ_ _ z=>z,λd hd=>?_⟩;unfold Xe at hd;rw[zzE]at hd;rw[show x.cps.toList[i]? = x.cps[i]? by simp,hc]at hd;cases hd;exact .str _⟩
def zqK(f:EF):IF:=λas=>(f as).bind λp=>match p.1 with
 | .ow (.lf _ (.str x))=>some (Xe x,p.2)
 |_=>none
theorem zrk(he:AE X kd e fa):AIc X kd tg e (zqK fa):=by
 with_unfolding_all (
 intro pins s σ H R I h;obtain⟨F,B,ad,as,ds,as',Rl,e',q⟩:=h;obtain⟨⟨p,as1⟩,h1,e'⟩:=bS_ (show(fa as).bind _=_ from e')
 match p,e',h1 with
 | .ow (.lf st (.str x)),e',h1=>
  cases e';refine zve he pins s σ H R I ⟨F,B,ad,as,_,as1,Rl,h1,λv T1 ad1 H1 R1 rv1 g1=>?_⟩;have rp:=zjQ R1 rv1;cases rp;exact⟨x,rfl,q _ ad1 H1 R1.drop (g1.trans (Grow.less Gw.drop)) (zsm x)⟩)
end
mutual
def pyD:D->Option PyData
 | .non=>some .none
 | .bl b=>some (.bool b)
 | .int i=>some (.int i)
 | .str x=>some (.str x)
 | .tup ds=>(zkl ds).bind λps=>some (.tuple ps)
 | .lst ds=>(zkl ds).bind λps=>some (.list ps)
 | .dct _=>none
 | .cl _=>none
 | .ob _ _ _=>none
def zkl:List D->Option (List PyData)
 | []=>some []
 |d::r=>(pyD d).bind λp=>(zkl r).bind λps=>some (p::ps)
end
section
variable{X:Cx}{kd:KD}{pins:List (Addr×Obj)}{σ:St}{H:Hp}{s:Shared}{O:Addr->Prop}
mutual
theorem zkR(I:Inv X pins σ H s):∀{v:V}{d:D}{u:Value}{p:PyData},Rp X.K kd O H v d->RelV v u->pyD d=some p->∃as,Reads s.heap u p as
 |_,_,u,p,.non,r,e=>by unfold pyD at e;cases e;cases r;exact⟨_,.none⟩
 |_,_,u,p,.bl b,r,e=>by unfold pyD at e;cases e;cases r;exact⟨_,.bool b⟩
 |_,_,u,p,.int i,r,e=>by unfold pyD at e;cases e;obtain⟨t,rfl⟩:=r;exact⟨_,.int i t⟩
 |_,_,u,p,.str x,r,e=>by unfold pyD at e;cases e;obtain⟨t,rfl⟩:=r;exact⟨_,.str x t⟩
 |_,_,u,p,.tup hn hr rl,r,e=>by
  unfold pyD at e;obtain⟨ps,h1,h2⟩:=bS_ e;cases h2;cases r;obtain⟨its,rv,⟨o,e1,c,n,dd⟩,_⟩:=I.tuple (.inl hr);obtain⟨as,ra⟩:=Vd I rl rv h1;exact⟨_,.tuple e1 c dd (by simpa using ra)⟩
 |_,_,u,p,.tupK hk hc hd hz hv rl,r,e=>by
  unfold pyD at e;obtain⟨ps,h1,h2⟩:=bS_ e;cases h2;cases r;obtain⟨as,ra⟩:=Vd I rl hv h1;exact⟨_,.tuple (I.kIn _ _ hk) hc hd ra⟩
 |_,_,u,p,.lst hn hr rl,r,e=>by
  unfold pyD at e;obtain⟨ps,h1,h2⟩:=bS_ e;cases h2;cases r;obtain⟨its,rv,⟨o,n,e1,c,_,dd⟩,_⟩:=I.list (.inl hr);obtain⟨as,ra⟩:=Vd I rl rv h1;exact⟨_,.list e1 c dd (by simpa using ra)⟩
 |_,_,u,p,.lstK hk hz hv rl,r,e=>by
  unfold pyD at e;obtain⟨ps,h1,h2⟩:=bS_ e;cases h2;cases r;obtain⟨as,ra⟩:=Vd I rl hv h1;exact⟨_,.list (I.kIn _ _ hk) rfl rfl ra⟩
 |_,_,u,p,.dct _ _ _,r,e=>by unfold pyD at e;cases e
 |_,_,u,p,.cl _,r,e=>by unfold pyD at e;cases e
 |_,_,u,p,.ob _ _ _ _,r,e=>by unfold pyD at e;cases e
 |_,_,u,p,.dctK _ _,r,e=>by unfold pyD at e;cases e
theorem Vd(I:Inv X pins σ H s):∀{vs:List V}{ds:List D}{us:List Value}{ps:List PyData},RpL X.K kd O H vs ds->Vals vs us->zkl ds=some ps->∃as,ReadsAll s.heap us ps as
 |_,_,_,_,.nil,.nil,e=>by unfold zkl at e;cases e;exact⟨_,.nil⟩
 |_,_,_,_,.cons a r,.cons b t,e=>by
  unfold zkl at e;obtain⟨p,h1,e⟩:=bS_ e;obtain⟨ps,h2,e⟩:=bS_ e;cases e;obtain⟨as,x⟩:=zkR I a b h1;obtain⟨bs,y⟩:=Vd I r t h2;exact⟨_,.cons x y⟩
end
def zlD:List D->Option R0
 | [.tup ds]=>(pyD (.tup ds)).bind λp=>if p.showable=true/\p.hasDict=false/\p.depth<=60/\p.shown.length<=sizeLine then some (.im (.str p.shown))else none
 |_=>none
theorem zhn(hg:X.A.guards=some [])(hu:X.A.units+100<cLine):CallD X kd (.builtin "repr") zlD:=by
 intro pins s σ H xs us Q I r h;obtain⟨O,ds,z,ht,vl,he,q⟩:=h;unfold zlD at he
 split at he
 . obtain⟨p,h1,he⟩:=bS_ he;obtain⟨⟨hs,hd,hp,hz⟩,he⟩:=zZ he;cases he;obtain⟨x,rfl,vx⟩:=Zk vl;obtain⟨u,rfl,ru⟩:=vals1 r;cases vx with
   |tup rp hr rl=>
    obtain⟨as,rd⟩:=zkR I rp ru h1;cases ru;exact repr_of_reads' rd hs (PyData.noDict_hsm hd) hg (by omega) (λ_ _ e=>e) (λh' u tk hk=>⟨.str _,H,I.kept hk,⟨u,rfl⟩,yx q (.str _)⟩) hz
 . cases he
end
abbrev tx(v:Int):Str:=Str.ofString (toString v)
abbrev bl1:Str:=⟨#[32]⟩
def NB(x:Str):Prop:=32 ∉ x.cps.toList
theorem Wb{a b:Str}(h:a.cps.toList=b.cps.toList):a=b:=Str.ext' (Array.toList_inj.mp h)
theorem app_list(a b:Str):(a++b).cps.toList=a.cps.toList++b.cps.toList:=by rw[Str.cps_append,Array.toList_append]
theorem ztJ{A B:List Nat}{a b:List Nat}(ha:32 ∉ a)(hb:32 ∉ b):a++32::A=b++32::B->a=b/\A=B:=by
 induction a generalizing b with
 |nil=>
  intro h;cases b with
  |nil=>simp at h;exact⟨rfl,h⟩
  |cons y t=>simp at h;exact absurd h.1.symm (by intro e;exact hb (by simp[e]))
 |cons x r ih=>
  intro h;cases b with
  |nil=>simp at h;exact absurd h.1 (by intro e;exact ha (by simp[e]))
  |cons y t=>
   simp at h;obtain⟨h1,h2⟩:=ih (b:=t) (λm=>ha (zS _ m)) (λm=>hb (zS _ m)) h.2;exact⟨by rw[h.1,h1],h2⟩
theorem Xw(a b:Str)(r:List Str):(Str.join bl1 (a::b::r)).cps.toList=a.cps.toList++32::(Str.join bl1 (b::r)).cps.toList:=by
 show(a++bl1++Str.join bl1 (b::r)).cps.toList=_;rw[app_list,app_list,zyU];rfl
theorem join_one(a:Str):Str.join bl1 [a]=a:=rfl
theorem zmd:∀(xs ys:List Str),xs≠[]->ys≠[]->(∀x ∈ xs,NB x)->(∀y ∈ ys,NB y)->Str.join bl1 xs=Str.join bl1 ys->xs=ys
 | [],_,h,_,_,_,_=>absurd rfl h
 |_,[],_,h,_,_,_=>absurd rfl h
 | [a],[b],_,_,_,_,e=>by rw[join_one,join_one]at e;rw[e]
 | [a],b::c::r,_,_,hx,hy,e=>by
  have:=congrArg (λs:Str=>s.cps.toList) e;simp only[join_one,Xw]at this;exact absurd (show 32 ∈ a.cps.toList by rw[this];simp) (hx a (by simp))
 |a::c::r,[b],_,_,hx,hy,e=>by
  have:=congrArg (λs:Str=>s.cps.toList) e;simp only[join_one,Xw]at this;exact absurd (show 32 ∈ b.cps.toList by rw[<-this];simp) (hy b (by simp))
 |a::c::r,b::d::t,_,_,hx,hy,e=>by
  have:=congrArg (λs:Str=>s.cps.toList) e;simp only[Xw]at this;obtain⟨h1,h2⟩:=ztJ (hx a (by simp)) (hy b (by simp)) this;have ih:=zmd (c::r) (d::t) (by simp) (by simp) (λx m=>hx x (zS _ m)) (λy m=>hy y (zS _ m)) (Wb h2);rw[Wb h1,ih]
theorem zmv{xs:List Str}(hn:xs≠[])(hx:∀x ∈ xs,NB x):Txt.split (Str.join bl1 xs) bl1=xs:=by
 refine zmd _ _ (λe=>?_) hn (StrLaws.split_free _ 32) hx (StrLaws.join_split _ _);have:=split_pos (Str.join bl1 xs) bl1;rw[e]at this;exact absurd this (by decide)
theorem Vb{v:Int}(h0:0<=v):∀c ∈ (tx v).cps.toList,48<=c/\c<=57:=by
 obtain⟨m,rfl⟩:=Int.eq_ofNat_of_zero_le h0;intro c hc;rw[PySem.W.KIN.signs_num]at hc;obtain⟨ch,hch,e⟩:=zyV.mp hc;have r:=digit_range (Nat.isDigit_of_mem_toDigits (by decide) (by decide) hch);rw[<-e];exact r
theorem zuk{v:Int}(h0:0<=v):(tx v).cps.toList≠[]:=by
 obtain⟨m,rfl⟩:=Int.eq_ofNat_of_zero_le h0;rw[PySem.W.KIN.signs_num];intro e;have h:=toDigits_len_ge 10 m;rw[List.map_eq_nil_iff.mp e]at h;exact absurd h (by decide)
theorem xZ{v:Int}(h0:0<=v)(h1:v<10 ^ 60):(tx v).length<=60:=toString_length_le h0 (by decide) h1
theorem zgS{v:Int}(h0:0<=v)(h1:v<10 ^ 60):PySem.intText? (tx v)=some v:=by
 have hl:=xZ h0 h1;have hd:=Vb h0;have hne:=zuk h0;obtain⟨m,rfl⟩:=Int.eq_ofNat_of_zero_le h0;have e:=intText_digits (x:=tx ((m:Nat):Int)) (λc hc=>hd c hc) hne (zzK hl (by decide));rw[PySem.W.KIN.signs_num,PySem.W.KIN.val_back]at e;exact e
theorem blank_eq:(" ":Str)=bl1:=by decide +kernel
theorem zmh:∀m:Nat,0<m->∃d r,Nat.toDigits 10 m=Nat.digitChar d::r/\1<=d/\d<10:=λm=>by
 induction m using Nat.strongRecOn with
 |_ m ih=>
  intro h0
  by_cases h:m<10
  . exact⟨m,[],by rw[Nat.toDigits_of_lt_base h],h0,h⟩
  . have hm:m%10<10:=Nat.mod_lt m (by decide);have t:Nat.toDigits 10 (m/10)++Nat.toDigits 10 (m%10)=Nat.toDigits 10 (10*(m/10)+m%10):=Nat.toDigits_append_toDigits (by decide) (by omega) hm;rw[Nat.div_add_mod]at t;obtain⟨d,r,e,h1,h2⟩:=ih (m/10) (by omega) (by omega);exact⟨d,r++Nat.toDigits 10 (m%10),by rw[<-t,e];rfl,h1,h2⟩
theorem zpf:∀d:Nat,d<10->(Nat.digitChar d).toNat=48+d:=by decide
theorem zqB{v:Int}(h0:0<v):∃c r,(tx v).cps.toList=c::r/\c≠48:=by
 obtain⟨m,rfl⟩:=Int.eq_ofNat_of_zero_le (Int.le_of_lt h0);obtain⟨d,r,e,h1,h2⟩:=zmh m (by omega);refine⟨(Nat.digitChar d).toNat,r.map Char.toNat, ?_,by rw[zpf d h2];omega⟩;show(tx ((m:Nat):Int)).cps.toList=_;rw[PySem.W.KIN.signs_num,e];rfl
theorem ztf:tx 0=("0":Str):=by decide +kernel
theorem zqa{c:Nat}(h:48<=c/\c<=57):inP (.str ⟨#[c]⟩) (.str "0123456789")=some true:=by
 have:c=48\/c=49\/c=50\/c=51\/c=52\/c=53\/c=54\/c=55\/c=56\/c=57:=by omega
 rcases this with rfl|rfl|rfl|rfl|rfl|rfl|rfl|rfl|rfl|rfl<;>exact congrArg some (by decide +kernel)
theorem ziC{v:Int}:NB (tx v):=int_text_free' 32 ⟨by decide,by decide⟩ v
theorem Ze{v:Int}{w:Str}(h0:0<=v)(hw:∃c ∈ w.cps.toList,57<c):tx v≠w:=λe=>by
 obtain⟨c,hc,h⟩:=hw;rw[<-e]at hc;have:=(Vb h0 c hc).2;omega
theorem log2_small{n:Nat}(h:n<2 ^ 300):n.log2<1920:=by
 by_cases e:n=0
 . subst e;decide
 . exact zzG ((Nat.log2_lt e).mpr h) (by decide)
theorem zrB{v:Int}(h0:0<=v)(h1:v<10 ^ 60):v.natAbs.log2<1920:=by
 refine log2_small ?_;have:(10:Nat) ^ 60<2 ^ 300:=by decide +kernel
 have:(v.natAbs:Int)<((10 ^ 60:Nat):Int):=by
  have e:((10 ^ 60:Nat):Int)=(10:Int) ^ 60:=by norm_cast
  rw[e];omega
 omega
theorem len_eq(x:Str):x.length=x.cps.toList.length:=by simp[Str.length]
theorem zlk(sep:Str)(ys:List Str):Txt.join sep ys=Str.join sep ys:=StrLaws.glued_eq_join sep ys
theorem Vi:∀(xs ys:List Str),xs≠[]->ys≠[]->Str.join bl1 (xs++ys)=Str.join bl1 xs++bl1++Str.join bl1 ys
 | [],_,h,_=>absurd rfl h
 | [a],[],_,h=>absurd rfl h
 | [a],b::r,_,_=>rfl
 |a::b::r,ys,_,hy=>by
  have ih:=Vi (b::r) ys (by simp) hy;refine Wb ?_;have e1:(Str.join bl1 (a::b::r++ys)).cps.toList=a.cps.toList++32::(Str.join bl1 (b::r++ys)).cps.toList:=Xw a b (r++ys);rw[e1,ih];simp only[app_list,Xw,zyU,List.cons_append]
theorem zmk:∀(xs:List Str) (n:Nat),(∀x ∈ xs,x.length<=n)->(Str.join bl1 xs).length<=(n+1)*xs.length
 | [],n,_=>by show 0<=_;omega
 | [a],n,h=>by have:=h a (by simp);show a.length<=(n+1)*1;omega
 |a::b::r,n,h=>by
  have ih:=zmk (b::r) n (λx m=>h x (zS _ m));have ha:=h a (by simp);rw[len_eq,Xw,zzF,zzP,<-len_eq,<-len_eq];have e:(n+1)*(a::b::r).length=(n+1)*(b::r).length+(n+1):=by rw[zzP,Nat.mul_add,Nat.mul_one]
  omega
section
variable{as:AS}{f a b:EF}{s t:Bool}{x y z:D}
theorem zjR{ty:Ty}{g:D->List D->Option R0}{zs:List D}(ha:WD a as true y)(ht:zhR ty y=true)(hb:WE b as x)(hg:g y [x]=some (.fl zs)):WE (yF ty a (aC b aN) g) as (.lst zs):=by
 have hr:WA (aC b aN) as [(true,x)]:=Yh hb zP;refine⟨.nd .ls (zs.map (O.lf true)), ?_,zcq zs,congrArg D.lst (zcm zs)⟩;unfold yF;unfold WD at ha;unfold WA at hr;rw[ha];show(if zhR ty y=true then _ else _:Option (RV×AS))=_;rw[if_pos ht,hr];simp only[zyF,Z4];show((g y [x]).bind _)=_;rw[hg];show(if(zs.all ye||true)=true then some (RV.ow (.nd .ls (zs.map (lfs true))))else none:Option RV).bind _=_;rw[if_pos (by simp),zbQ];rfl
theorem zrr{x:Str}(h:WD f as s (.str x)):zqK f as=some (Xe x,as):=by
 unfold zqK;unfold WD at h;rw[h];rfl
theorem zwV{ds:List D}(h:WD f as true (.lst ds)):zty f as=some (Xa true 0 ds,as):=by
 unfold zty;unfold WD at h;rw[h];rfl
theorem zwN{ds:List D}(h:WD f as true (.lst ds)):ztq f as=some (ds.reverse.map λd=>(true,d),as):=by
 unfold ztq;unfold WD at h;rw[h];show some (kids true ds.reverse,as)=_;rw[zke]
theorem zmr{xs ys:List D}:slP (.lst (xs++ys)) none (some (xs.length:Int))=some (.fl xs):=by
 show some (R0.fl (cutD (xs++ys) none (some (xs.length:Int))))=_
 congr 2
 unfold cutD;rw[HT.zon,HT.zkZ,zzF,Nat.min_eq_left (by omega),List.drop_zero,Nat.sub_zero,List.take_left]
end
theorem zok{L:Bool->V->D->Prop}{N:Addr->Prop}{H:Hp}:∀(ls:List O) {vs:List V}{fp:List Addr},ls.all O.isLf=true->RoL L N H vs ls fp->fp=[]
 | [],_,_,_,r=>by cases r;rfl
 |o::ls,_,_,h,r=>by
  rw[List.all_cons,zzW]at h;cases r with
  |cons a r=>
   cases a with
   |lf _=>rw[zok ls h.2 r];rfl
   |_=>exact absurd h.1 (by simp[O.isLf])
theorem zop{L:Bool->V->D->Prop}{N:Addr->Prop}{H:Hp}{vs:List V}{ls:List O}{fp:List Addr}(h:RoL L N H vs ls fp):vs.length=ls.length:=RoL.length h
def zgb(s k:Nat):EF:=λas=>match as[s]? with
 |some (some (.nd .ls os))=>if k<=os.length/\k<=1000/\os.all O.isLf=true then some (.ow (.nd .ls (os.reverse.take k)),as.set s (some (.nd .ls (os.take (os.length-k)))))else none
 |_=>none
theorem zvI{H:Hp}{l:Addr}{u:HO}(h:H l=some u):upd H l u=H:=by
 funext a
 by_cases e:a=l
 . subst e;rw[yw,h]
 . rw[yg e]
theorem zsO{H:Hp}{l:Addr}{u w:HO}:upd (upd H l u) l w=upd H l w:=by
 funext a
 by_cases e:a=l
 . subst e;rw[yw,yw]
 . rw[yg e,yg e,yg e]
section
variable{L:Bool->V->D->Prop}{N:Addr->Prop}{H:Hp}
theorem zhv:∀(os:List O) {vs:List V}{fp:List Addr}(j:Nat),os.all O.isLf=true->RoL L N H vs os fp->RoL L N H (vs.take j) (os.take j) []
 |os,_,_,0,_,_=>by simp;exact .nil
 | [],_,_,j+1,_,r=>by cases r;exact .nil
 |o::os,_,_,j+1,h,r=>by
  rw[List.all_cons,zzW]at h;cases r with
  |cons a r=>
   cases a with
   |lf z=>exact .cons (fp:=[]) (.lf z) (zhv os j h.2 r)
   |_=>exact absurd h.1 (by simp[O.isLf])
theorem zoj:∀(os:List O) {vs:List V}{fp:List Addr},os.all O.isLf=true->RoL L N H vs os fp->RoL L N H vs.reverse os.reverse []
 | [],_,_,_,r=>by cases r;exact .nil
 |o::os,_,_,h,r=>by
  rw[List.all_cons,zzW]at h;cases r with
  |cons a r=>
   cases a with
   |lf z=>
    rw[List.reverse_cons,List.reverse_cons];exact RoL.append (f:=[]) (g:=[]) (zoj os h.2 r) (.cons (fp:=[]) (.lf z) .nil)
   |_=>exact absurd h.1 (by simp[O.isLf])
end
theorem zpx{vs:List V}{i:Nat}(hi:i<vs.length):∃y,(vs.take (vs.length-i))[(vs.take (vs.length-i)).length-1]? = some y/\(vs.take (vs.length-i)).dropLast=vs.take (vs.length-(i+1))/\vs.reverse.take i++[y]=vs.reverse.take (i+1):=by
 have hl:(vs.take (vs.length-i)).length=vs.length-i:=by rw[zzO];omega
 have hy:vs.length-i-1<vs.length:=by omega
 refine⟨vs[vs.length-i-1], ?_, ?_, ?_⟩
 . rw[hl,List.getElem?_take,if_pos (by omega),zzA hy]
 . rw[List.dropLast_eq_take,hl,List.take_take]
   congr 1
   omega
 . have hr:vs.reverse[i]? = some vs[vs.length-i-1]:=by
    rw[List.getElem?_reverse hi,show vs.length-1-i=vs.length-i-1 by omega,zzA hy]
   rw[List.take_add_one,hr];rfl
theorem zwm{K:zC}{kd:KD}{F B:Addr->Prop}{ad:Ad}{as:AS}{σ:St}{H:Hp}{s k:Nat}{os:List O}{Q:VK}(R:Rel K kd F B [] ad as σ H)(ks:as[s]? = some (some (.nd .ls os)))(hk:k<=os.length)(hk2:k<=1000)(hlf:os.all O.isLf=true)
 (q:∀v T' ad' H',Rel K kd F B T' ad' (as.set s (some (.nd .ls (os.take (os.length-k))))) σ H'->vM K kd F B T' ad' σ H' v (.ow (.nd .ls (os.reverse.take k)))->Grow (Gw [] ad) H (Gw T' ad') H'->Q v H'):
 zot (zuv (ztY (tC (.int k)) zxy)) [none,some s] (zdA 0) (λ_ H Q=>Q true H) (zwq K "list" ztQ (zhM 1)) σ H Q:=by
 obtain⟨v,hv,ro⟩:=R.sl s _ ks;have hi:s<as.length:=(zzC.mp ks).1;generalize hfp:ad s=fp0 at ro;cases ro with
 |ls hH rl=>
  rename_i l vs fp;have hfe:fp=[]:=zok os hlf rl;subst hfe;have hlen:vs.length=os.length:=zop rl;refine⟨(k:Int),rfl,by omega,by omega,λi m ys H'=>m+i=k/\i<=k/\ys=vs.reverse.take i/\H'=upd H l (.lst (vs.take (vs.length-i))),⟨k,rfl,Nat.zero_le _,by simp, ?_⟩, ?_⟩
  . rw[Nat.sub_zero,List.take_length,zvI hH]
  rintro i m ys H' ⟨hm,hik,rfl,rfl⟩
  have hyl:(vs.reverse.take i).length<=i:=by rw[zzO];omega
  refine⟨Nat.le_of_lt (xu (by omega)), ?_⟩
  by_cases hlt:i<k
  . refine .inr ⟨by show i<(k:Int).toNat;omega,λx H'' hy=>?_⟩;obtain⟨rfl,rfl⟩:=hy;obtain⟨y,t1,t2,t3⟩:=zpx (vs:=vs) (i:=i) (by omega);refine⟨λj w hw=>?_,xu (by omega),.ref l, ?_,.inl ⟨rfl,_,.inl (.inl yw)⟩,l,_,y,rfl,rfl,yw,t1,m-1,by omega,by omega,hlt,t3, ?_⟩
    . cases j with
      |zero=>cases hw
      |succ j=>simpa using hw
    . show((ZD [none,some s] σ).set 0 _)[1]? = _;have:ztT σ (some s)=some (.ref l):=by show(σ[s]?).getD none=_;rw[hv];rfl
      show some (ztT σ (some s))=_;rw[this]
    . rw[zsO,t2]
  . have hike:i=k:=by omega
    subst hike;refine .inl ⟨by show(i:Int).toNat<=i;omega,λp hp=>?_⟩;obtain⟨R3,g3⟩:=R.mut (n:=.nd .ls (os.take (os.length-i))) (u:=.lst (vs.take (vs.length-i))) (fp':=[]) (fo:=[]) hi hfp hv (λa m=>nomatch m) zyD (by rw[hH];simp) (λH' G' hl' gr kp=>.ls hl' (by rw[hlen];exact Y5.grow gr (λa m=>nomatch m) (zhv os (os.length-i) hlf rl)));obtain⟨R4,g4⟩:=R3.news (T':=[p]) (H':=upd (upd H l (.lst (vs.take (vs.length-i)))) p (.lst (vs.reverse.take i))) (by simp) (λa m=>by rw[zzN.mp m];exact hp) (zaF hp) (λa m=>by rw[zzN.mp m,yw];simp);have gg:=g3.trans g4;refine q _ [p] _ _ R4 ?_ gg;exact .ls yw (Y5.grow gg (λa m=>nomatch m) (zhv os.reverse i (by rw[List.all_reverse];exact hlf) (zoj os hlf rl)))
theorem ztg{X:Cx}{kd:KD}{z:Bool}{i s k:Nat}{y x j:Str}{N:List Str}{py spos pos px pj ap cp rp rpos:Pos}{scope:Scope}{ec:Expr}(hN:X.N.Nodup)(hiy:X.N[i]? = some y)(hy:Loc X.env.scope y)(hf:X.fn y=true\/X.env.scope.names.lookup y=some .local)
 (hsw:swapsWith (.ListComp (.Call (.Attribute (.Name x px) "pop" ap) [] [] cp) [⟨.Name j pj,.Call (.Name "range" rp) [ec] [] rpos,[],0⟩] scope pos) (some (.Name y py)) spos.line X.env=pure true)
 (hc:X.calm=true) (hgl:Gl X "range") (hm:X.mg "range"=none) (hec:PE X ec (tC (.int k))) (hst:starEach [ec] X.env=[(false,eval ec X.env)]) (hk:scope.kind = .function) (hcap:wW N X.N scope.names X.env.scope.names [none,some s]=true)
 (hg:∀cl s H fp,PG (wA X N scope cl s H fp) (.Name j pj) (zdA 0)) (hx:∀cl s H fp,PE (wA X N scope cl s H fp) (.Name x px) (zhM 1))
 (hb:∀cl s H fp,attributeBase (.Name x px) "pop" (wA X N scope cl s H fp).env (eval (.Name x px) (wA X N scope cl s H fp).env)=eval (.Name x px) (wA X N scope cl s H fp).env) (hline:(ap.endLine==cp.line)=true)
 (hs:∀x,foldedSetIterable (.Call (.Name "range" rp) [ec] [] rpos) X.env x=pure x):
 ASt X kd (.Assign [.Name y py] (.ListComp (.Call (.Attribute (.Name x px) "pop" ap) [] [] cp) [⟨.Name j pj,.Call (.Name "range" rp) [ec] [] rpos,[],0⟩] scope pos) spos) (zU z i (zgb s k)):=by
 with_unfolding_all exact(W0 (znw (g:=zdA 0) (te:=zwq X.K "list" ztQ (zhM 1)) (tt:=λ_ H Q=>Q true H) (cap:=[none,some s]) hN hiy hy hf hsw hc (zei hgl hm (VR hec zdQ hst) hst) hk hcap hg (λcl s H fp=>znQ) (λcl s H fp=>zqQ PySem.F.plainAttrs_list PySem.F.slot_list_pop PySem.F.type_list_pop zno (hx cl s H fp) (hb cl s H fp) hline) hs) λD σ H h=>by
  obtain⟨F,B,ad,as,o,R,e,q⟩:=h;obtain⟨⟨p,as1⟩,h1,e⟩:=bS_ (show(zgb s k as).bind _=_ from e);obtain⟨⟨y,as2⟩,h2,e⟩:=bS_ e;obtain⟨hl,e⟩:=zZ e;cases e;unfold zgb at h1;cases k1:as[s]? with
  |none=>rw[k1]at h1;cases h1
  |some a0=>
   rw[k1]at h1
   match a0,h1,k1 with
   |some (.nd .ls os),h1,k1=>
    obtain⟨⟨b1,b2,b3⟩,e1⟩:=zZ h1;cases e1;refine zwm (Q:=λx H1=>zdA i x σ H1 D.nx) R k1 b1 b2 b3 λv T' ad' H' R' rv g=>?_;obtain⟨ad2,R2,le⟩:=znk R' rv h2 hl;exact q _ ad2 H' R2 (g.trans (Grow.less le)))
section
variable{K:zC}{kd:KD}{F B G:Addr->Prop}{H:Hp}
theorem zmi{p:Addr}{u:HO}(hp:G p):Grow G H G (upd H p u):=⟨λb w h n=>by rw[yg (λe=>n (by subst e;exact hp))];exact h,λb z=>.inl z⟩
theorem zjf{L:Bool->V->D->Prop}{N:Addr->Prop}{v:V}{st':Bool}{d':D}(h:L st' v d'):∀(os:List O) {vs:List V}{fp:List Addr}{n:Nat}{st:Bool}{d:D},RoL L N H vs os fp->os[n]? = some (.lf st d)->RoL L N H (vs.set n v) (os.set n (.lf st' d')) fp
 | [],_,_,_,_,_,_,e=>by simp at e
 |o1::os,_,_,n,st,d,r,e=>by
  cases r with
  |cons a r=>
   cases n with
   |zero=>
    simp at e;subst e;cases a with
    |lf _=>exact .cons (.lf h) r
   |succ n=>exact .cons a (zjf h os (n:=n) (st:=st) (d:=d) r (by simpa using e))
end
section
variable{K:zC}{kd:KD}{F B:Addr->Prop}{ad:Ad}{as:AS}{σ:St}{H:Hp}{i:Nat}{o:O}
theorem Rel.slotU(R:Rel K kd F B [] ad as σ H)(k:as[i]? = some (some o)):
 ∃v,σ[i]? = some (some v)/\RoS K kd F B (Gw [] ad) H v o (ad i)/\(ad i).Nodup/\(∀a ∈ ad i,Gw [] ad a)/\
  ∀(p:Addr) (u:HO) (o':O),p ∈ ad i->RoS K kd F B (Gw [] ad) (upd H p u) v o' (ad i)->Rel K kd F B [] ad (as.set i (some o')) σ (upd H p u)/\Grow (Gw [] ad) H (Gw [] ad) (upd H p u):=by
 obtain⟨v,hv,ro⟩:=R.sl i _ k;have hi:i<as.length:=(zzC.mp k).1;refine⟨v,hv,ro,R.nd i,λa m=>.inr ⟨i,m⟩,λp u o' hp ro'=>?_⟩;have g:Grow (Gw [] ad) H (Gw [] ad) (upd H p u):=zmi (.inr ⟨i,hp⟩);have kn:∀a,H a≠none->upd H p u a≠none:=λa z=>by
  by_cases e:a=p
  . subst e;rw[yw];simp
  . rw[yg e];exact z
 refine⟨⟨by rw[zzQ];exact R.len,λj hj=>R.out j (by rw[zzQ]at hj;exact hj),R.nd,R.inj,R.tnd,R.dis,λa z=>kn a (R.ftr a z),λa z=>⟨kn a (R.btr a z).1,(R.btr a z).2⟩,λa z=>⟨kn a (R.gtr a z).1,(R.gtr a z).2⟩,λj s e=>?_⟩,g⟩
 by_cases q:j=i
 . subst q;rw[zyE hi]at e;cases e;exact⟨v,hv,ro'⟩
 . rw[zzS (Ne.symm q)]at e;exact(R.sl j s e).grow g λa m u h=>by rw[yg (λe=>q (R.inj j i a m (by rw[e];exact hp)))];exact h
end
abbrev IXF:=AS->Option Int
def tSt(K:zC)(kd:KD)(f:IXF):TE:=λσ H Q=>∃F B ad as k,Rel K kd F B [] ad as σ H/\f as=some k/\Q (.int k) H
@[irreducible] def AK(X:Cx)(kd:KD)(e:Expr)(f:IXF):Prop:=PE X e (tSt X.K kd f)
def xC(c:Int):IXF:=λ_=>some c
def zrx:O->Option (List O)
 | .nd .ls os=>some os
 |_=>none
def zqD:O->Option D
 | .lf _ d=>some d
 |_=>none
def atO{α:Type}(f:O->Option α)(os:List O)(k:Nat):Option α:=os[k]?.bind f
def slO{α:Type}(f:O->Option α)(as:AS)(i:Nat):Option α:=as[i]?.bind λs=>s.bind f
theorem ztM{o:O}{os:List O}(h:zrx o=some os):o = .nd .ls os:=by
 cases o with
 |lf s d=>cases h
 |nd k os=>cases k<;>cases h;rfl
theorem zsj{o:O}{d:D}(h:zqD o=some d):∃st,o = .lf st d:=by
 cases o with
 |lf s d=>cases h;exact⟨s,rfl⟩
 |nd k os=>cases h
theorem zuJ{α:Type}{f:O->Option α}{os:List O}{k:Nat}{a:α}(h:atO f os k=some a):∃o,os[k]? = some o/\f o=some a:=bS_ h
theorem zvk{α:Type}{f:O->Option α}{as:AS}{k:Nat}{a:α}(h:slO f as k=some a):∃o,as[k]? = some (some o)/\f o=some a:=by
 obtain⟨s,h1,h⟩:=bS_ h;obtain⟨o,rfl,h⟩:=bS_ h;exact⟨o,h1,h⟩
theorem zys{os:List O}{d:D}{k:Nat}(h:atO zqD os k=some d):∃st,os[k]? = some (.lf st d):=by
 obtain⟨o,h1,h⟩:=zuJ h;obtain⟨st,rfl⟩:=zsj h;exact⟨st,h1⟩
theorem zyc{as:AS}{inner:List O}{k:Nat}(h:slO zrx as k=some inner):as[k]? = some (some (.nd .ls inner)):=by
 obtain⟨o,h1,h⟩:=zvk h;cases ztM h;exact h1
section
variable{X:Cx}{kd:KD}{f g:IXF}{a b:Expr}
theorem zvT{c:Int}{j pos}:AK X kd (.Constant (.int c) j pos) (xC c):=by
 with_unfolding_all exact(wB zmS λσ H Q h=>by
  obtain⟨F,B,ad,as,k,R,e,q⟩:=h;cases e;exact q)
end
theorem zsc{n j:Nat}(h:j<n):ixN n (j:Int)=some j:=by
 unfold ixN;rw[if_pos (by omega),if_pos (by omega)];simp
theorem zse{n:Nat}{k:Int}(h0:0<=k)(h:k.toNat<n):ixN n k=some k.toNat:=by
 have:=zsc h;rw[show((k.toNat:Nat):Int)=k by omega]at this;exact this
section
variable{X:Cx}{kd:KD}
theorem zuY:SlR X (λx lo hi H Q=>∃z,x = .str z/\z.length<=sizeLine/\Q (.str (Txt.slice z lo hi)) H):=by
 intro pins s σ H x v vl vu lo hi sl Q I rx hs pl pu h;obtain⟨z,rfl,hz,q⟩:=h;obtain⟨t,rfl⟩:=rx;refine⟨"str",_,F.slot_str_getitem.lookup,typeIs_str _ _ _, ?_⟩;cases pl with
 |none=>
  cases pu with
  |none=>exact wpAny_getItem_str_slice (l:=none) (u:=none) (st:=none) hs rfl (post_val_or_str ⟨zzK (Txt.slice_le z _ _) hz,λt' k=>⟨.str _,H,I.kept (λ_ _ e=>e),⟨_,rfl⟩,q⟩⟩)
  |int j uj=>exact wpAny_getItem_str_slice (l:=none) (u:=some (j,uj)) (st:=none) hs rfl (post_val_or_str ⟨zzK (Txt.slice_le z _ _) hz,λt' k=>⟨.str _,H,I.kept (λ_ _ e=>e),⟨_,rfl⟩,q⟩⟩)
 |int i ui=>
  cases pu with
  |none=>exact wpAny_getItem_str_slice (l:=some (i,ui)) (u:=none) (st:=none) hs rfl (post_val_or_str ⟨zzK (Txt.slice_le z _ _) hz,λt' k=>⟨.str _,H,I.kept (λ_ _ e=>e),⟨_,rfl⟩,q⟩⟩)
  |int j uj=>exact wpAny_getItem_str_slice (l:=some (i,ui)) (u:=some (j,uj)) (st:=none) hs rfl (post_val_or_str ⟨zzK (Txt.slice_le z _ _) hz,λt' k=>⟨.str _,H,I.kept (λ_ _ e=>e),⟨_,rfl⟩,q⟩⟩)
def slS:D->Option Int->Option Int->Option R0
 | .str z,lo,hi=>if z.length<=sizeLine then some (.im (.str (Txt.slice z lo hi)))else none
 |_,_,_=>none
theorem zwJ:SlR X (λx lo hi H Q=>∃O d r,(∀a,O a->H a≠none)/\Vw X.K kd O H x d/\slS d lo hi=some r/\RQ X.K kd O H Q r):=by
 intro pins s σ H x v vl vu lo hi sl Q I rx hs pl pu h;obtain⟨O,d,r,ht,vx,he,q⟩:=h;unfold slS at he
 split at he
 . obtain⟨c,rfl⟩:=zZ he;cases vx;exact zuY pins s σ H _ v vl vu lo hi sl Q I rx hs pl pu ⟨_,rfl,c,yx q (.str _)⟩
 . cases he
theorem zin{a:Expr}{lo hi:Option Expr}{fa:EF}{fl fh:OF}{pos p2:Pos}(ha:AE X kd a fa)(hl:AO X kd lo fl)(hh:AO X kd hi fh):AE X kd (.Subscript a (.Slice lo hi none p2) pos) (fSl fa fl fh slS):=by with_unfolding_all exact(wB (zlp zwJ ha hl hh) λσ H Q h=>by
 obtain⟨F,B,ad,as,r,as',R,e,q⟩:=h;obtain⟨⟨p,as1⟩,h1,e⟩:=bS_ (show(fa as).bind _=_ from e);obtain⟨⟨l,as2⟩,h2,e⟩:=bS_ e;obtain⟨⟨u,as3⟩,h3,e⟩:=bS_ e;obtain⟨⟨d,lv⟩,h4,e⟩:=bS_ e;obtain⟨r',h5,e⟩:=bS_ e;obtain⟨z,h6,e⟩:=bS_ e;cases e;refine ZX R h1 λv ad1 H1 R1 rv1 g1=>⟨F,B,ad1,as1,l,as2,R1,h2,λad2 H2 R2 g2=>⟨F,B,ad2,as2,u,_,R2,h3,λad3 H3 R3 g3=>?_⟩⟩;exact⟨_,d,r',R3.tr _,vM.vw R3 ((rv1.grow g2).grow g3) h4,h5,zbZ R3 h6 λw T' H' R' rv' g'=>q w T' ad3 H' R' rv' (((g1.trans g2).trans g3).trans g')⟩)
end
theorem l1_{α:Type}{P:List α->Prop}(h:∀a,P [a]):∀us:List α,us.length=1->P us
 | [a],_=>h a
theorem l2_{α:Type}{P:List α->Prop}(h:∀a b,P [a,b]):∀us:List α,us.length=2->P us
 | [a,b],_=>h a b
theorem l3_{α:Type}{P:List α->Prop}(h:∀a b c,P [a,b,c]):∀us:List α,us.length=3->P us
 | [a,b,c],_=>h a b c
theorem l4_{α:Type}{P:List α->Prop}(h:∀a b c d,P [a,b,c,d]):∀us:List α,us.length=4->P us
 | [a,b,c,d],_=>h a b c d
section
variable{X:Cx}{kd:KD}
theorem aI{c:Int}{j pos}:AE X kd (.Constant (.int c) j pos) (fC (.int c)):=zhy zmS λ_ _=>.int _
theorem aS{c:Str}{j pos}:AE X kd (.Constant (.str c) j pos) (fC (.str c)):=zhy zwe λ_ _=>.str _
theorem aZ{j pos}:AE X kd (.Constant .none j pos) (fC .non):=zhy zuV λ_ _=>.non
theorem aB{c:Bool}{j pos}:AE X kd (.Constant (.bool c) j pos) (fC (.bl c)):=zhy zxl λ_ _=>.bl _
theorem ax{P:Program}{w:World}{K:zC}{a b:Expr}{fa fb:EF}{pos:Pos}(hkd:KD1 P w K kd)(ha:AE X kd a fa)(hb:AE X kd b fb)(h1:X.prog=P:=by rfl)(h2:X.w=w:=by rfl)(h3:X.K=K:=by rfl)(hm:zkF b:=by exact λ_ _=>rfl):AE X kd (.Subscript a b pos) (f2 fa fb ixP):=zwM (zyp (hkd _ h1 h2 h3)) ha hb hm
theorem sv(z:Bool)(i:Nat){x:Str}{pos pos':Pos}{e:Expr}{fa:EF}(hN:X.N.Nodup)(he:AE X kd e fa)(hi:X.N[i]? = some x:=by rfl)(hx:Loc X.env.scope x:=by first|exact Or.inl rfl|exact Or.inr rfl)(hs:swapsWith e (some (.Name x pos')) pos.line X.env=pure false:=by rfl)(hf:X.fn x=true\/X.env.scope.names.lookup x=some .local:=by first|exact Or.inl rfl|exact Or.inr rfl):
 ASt X kd (.Assign [.Name x pos'] e pos) (zU z i fa):=zvf hN hi hx he hs hf
theorem an(i:Nat){x:Str}{pos:Pos}(hN:X.N.Nodup)(hi:X.N[i]? = some x:=by rfl)(hx:Loc X.env.scope x:=by first|exact Or.inl rfl|exact Or.inr rfl)(hf:X.fn x=true\/X.env.scope.names.lookup x=some .local:=by first|exact Or.inl rfl|exact Or.inr rfl):AG X kd (.Name x pos) [i] (gN i):=ztK hN hi hx hf
theorem av(i:Nat){x:Str}{pos:Pos}(hN:X.N[i]? = some x:=by rfl)(hv:Vis X.env.scope x:=by first|exact Or.inl rfl|exact Or.inr (Or.inl rfl)|exact Or.inr (Or.inr rfl))(hd:(x==("__debug__":Str))=false:=by decide)
 (hcd:(x==("__classdict__":Str))=false:=by decide):AE X kd (.Name x pos) (fV i):=zvK (zpY hN hv hd hcd)
end
structure CI(K:zC)(kd:KD)(mg:Str->Option Value)(c:Str)(C:Addr):Prop where
 eq:kd.c c=C
 cl:Cls K C
 mks:PySem.W.makesIn K C=true
 kp:PySem.W.keepIn K (.ref C)=true
 mg:mg c=some (.ref C)
section
variable{as:AS}{f fo a b:EF}{fr:AF}{s t:Bool}{x y z d:D}{c m:Str}{ns cs:List Str}{ds:List D}{tbl:List (Str×Fn)}{g:Fn}{o:O}
inductive SqD:D->List D->Prop
 |l (ds:List D):SqD (.lst ds) ds
 |t (ds:List D):SqD (.tup ds) ds
end
open AutoSeq1 (wpAny_loadPart')
def zji:D->List D->Option R0
 | .str x,[.str y]=>if(y.length==0)=false/\x.length<=sizeLine then some (.im (.tup [.str (Txt.partition x y).1,.str (Txt.partition x y).2.1,.str (Txt.partition x y).2.2]))else none
 |_,_=>none
def swP:D->List D->Option R0
 | .str x,[.str y]=>some (.im (.bl (Txt.startswith x y)))
 |_,_=>none
def zrN:D->List D->Option R0
 | .str x,[.str y,.int k]=>if(y.length==0)=false/\x.length<=sizeLine/\(decide (k < -(2 ^ 63:Int))||decide (k ≥ 2 ^ 63))=false/\(Builtin.Str.partsBetween x (Builtin.Str.occurrences x y 0 x.length (limitOf x k)) y.length).length<=sizeLine then some (.fl ((Txt.splitMax x y k).map .str))else none
 |_,_=>none
section
variable{X:Cx}{kd:KD}
theorem zhZ:MtD X kd "str.startswith" swP:=by
 intro pins s σ H x xs v us Q I rx r h;obtain⟨O,d,ds,r0,ht,vx,vl,he,q⟩:=h;unfold swP at he
 split at he
 . cases he;cases vx;obtain⟨t,rfl⟩:=rx;obtain⟨y',rfl,vy⟩:=Zk vl;cases vy;obtain⟨u',rfl,ru⟩:=vals1 r;obtain⟨u,rfl⟩:=ru;exact call_gives PySem.F.slot_str_startswith (typeIs_str _ _ _) PySem.F.entry_str_startswith (PySem.F.args_str_startswith_2 _ _) (gives_str_startswith _ _ t u) ⟨.bl _,H,I,rfl,yx q (.bl _)⟩
 . cases he
theorem V2:MtD X kd "str.partition" zji:=by
 intro pins s σ H x xs v us Q I rx r h;obtain⟨O,d,ds,r0,ht,vx,vl,he,q⟩:=h;unfold zji at he
 split at he
 . rename_i x y;obtain⟨⟨hy,hx⟩,he⟩:=zZ he;cases he;cases vx;obtain⟨t,rfl⟩:=rx;obtain⟨y',rfl,vy⟩:=Zk vl;cases vy;obtain⟨u',rfl,ru⟩:=vals1 r;obtain⟨u,rfl⟩:=ru;refine call_meets PySem.F.slot_str_partition (typeIs_str _ _ _) PySem.F.entry_str_partition (PySem.F.args_str_partition_2 _ _) (meets_str_partition x y t u hy hx) ?_;have fin:∀(p q' r':Str) (a b c:Nat) (tk:Nat),Txt.partition x y=(p,q',r')->EP X pins σ Q (.ref s.heap.objs.size) {s with heap:=s.heap.push {cls:=.type "tuple",data:=.seq [Value.str p a,.str q' b,.str r' c].toArray},toks:=tk}:=λp q' r' a b c tk e=>by
    rw[e]at q;exact⟨.ref s.heap.objs.size,_,I.laid (λb o e=>zyZ _ e) (zzJ _) (show v7 X.prog X.w _ _ _ (.tup [.str p,.str q',.str r'])from⟨by show 3<=sizeLine;decide,_,.cons ⟨a,rfl⟩ (.cons ⟨b,rfl⟩ (.cons ⟨c,rfl⟩ .nil)),IsTup.new _ _⟩),rfl,zgt ht q (.cons (.str _) (.cons (.str _) (.cons (.str _) .nil))) _ (I.hok.fresh (zzJ _))⟩
   show EP X pins σ Q (.ref s.heap.objs.size) (match Builtin.Str.occurrences x y 0 x.length 1 with
    |i::_=>{s with toks:=s.toks+1+1,heap:=s.heap.push {cls:=.type "tuple",data:=.seq [Value.str (Builtin.Str.strSub x 0 i) s.toks,.str y u,.str (Builtin.Str.strSub x (i+y.length) x.length) (s.toks+1)].toArray}}
    | []=>{s with toks:=s.toks+1,heap:=s.heap.push {cls:=.type "tuple",data:=.seq [Value.str x t,.str Str.empty s.toks,.str Str.empty s.toks].toArray}})
   have e:Txt.partition x y=_:=rfl;cases ho:Builtin.Str.occurrences x y 0 x.length 1 with
   |nil=>exact fin _ _ _ _ _ _ _ (by unfold Txt.partition;rw[ho])
   |cons i r=>exact fin _ _ _ _ _ _ _ (by unfold Txt.partition;rw[ho])
 . cases he
theorem zkQ:MtD X kd "str.split" zrN:=by
 intro pins s σ H x xs v us Q I rx r h;obtain⟨O,d,ds,r0,ht,vx,vl,he,q⟩:=h;unfold zrN at he
 split at he
 . rename_i x y k;obtain⟨⟨hy,hx,hk,hn⟩,he⟩:=zZ he;cases he;cases vx;obtain⟨t,rfl⟩:=rx;cases vl with
   |cons vy vl=>
   obtain⟨z',rfl,vz⟩:=Zk vl;cases vy;cases vz;cases r with
   |cons ry r=>
   obtain⟨w',rfl,rw'⟩:=vals1 r;obtain⟨u,rfl⟩:=ry;obtain⟨v,rfl⟩:=rw';have fin:∀(l:List (Str×Tok)) (tk:Nat),l.map (·.1)=Txt.splitMax x y k->l.length<=sizeLine->EP X pins σ Q (.ref s.heap.objs.size) {s with heap:=s.heap.push {cls:=.type "list",data:=.seq (strValues l).toArray},toks:=tk}:=λl tk hl hz=>by
    refine⟨.ref s.heap.objs.size,_,I.laid (λb o e=>zyZ _ e) (zzJ _) (show v7 X.prog X.w _ _ _ (.lst ((Txt.splitMax x y k).map V.str))from⟨by rw[<-hl];simpa using hz,strValues l,0,zek hl,QzB _ rfl⟩),rfl,zgk q (zhu _) _ (I.hok.fresh (zzJ _))⟩
   cases h1:(decide (x.length<y.length)||decide (Builtin.Str.strKind x<Builtin.Str.strKind y))
   . cases hf:(Builtin.Str.occurrences x y 0 x.length (limitOf x k)).isEmpty
     . refine call_meets PySem.F.slot_str_split (typeIs_str _ _ _) PySem.F.entry_str_split (PySem.F.args_str_split_3 _ _ _) (meets_str_split_sep_max x y k t u v hk h1 hy hf hx hn) ?_;show EP X pins σ Q (.ref s.heap.objs.size) {s with toks:=_,heap:=s.heap.push {cls:=.type "list",data:=.seq (strsFrom s.toks _).toArray}};rw[strsFrom_eq];exact fin (numbered s.toks _) _ ((numbered_texts _ _).trans ((if_neg (ne_true_of_eq_false h1)).trans (if_neg (ne_true_of_eq_false hf))).symm) (by have:=congrArg List.length (numbered_texts s.toks (Builtin.Str.partsBetween x (Builtin.Str.occurrences x y 0 x.length (limitOf x k)) y.length));rw[zD]at this;omega)
     . exact call_meets PySem.F.slot_str_split (typeIs_str _ _ _) PySem.F.entry_str_split (PySem.F.args_str_split_3 _ _ _) (meets_str_split_max_not_found x y k t u v hk h1 hy hf) (fin [(x,t)] s.toks ((if_neg (ne_true_of_eq_false h1)).trans (if_pos hf)).symm (by show 1<=sizeLine;decide))
   . exact call_meets PySem.F.slot_str_split (typeIs_str _ _ _) PySem.F.entry_str_split (PySem.F.args_str_split_3 _ _ _) (meets_str_split_max_cannot_occur x y k t u v hk h1) (fin [(x,t)] s.toks (if_pos h1).symm (by show 1<=sizeLine;decide))
 . cases he
theorem zsa{b:List Stmt}{h0:ExceptHandler}{hs:List ExceptHandler}{pos:Pos}{g:SF}(h:ASs X kd b g)(hnx:∀v s,¬X.xe v s):ASt X kd (.Try b (h0::hs) [] [] pos) g:=by
 with_unfolding_all (
 intro pins s σ H D I z;exact wpAny_Try_except (QzF (h pins s σ H D I z) (λf s q=>by cases f<;>first|exact q|exact wpAny_execs_nil q) λ_ _ e=>(hnx _ _ e).elim))
end
def zxz:D->Option Str
 | .str x=>some x
 |_=>none
def rvS(r:RV):Option Str:=(rvD r).bind zxz
theorem zvt{r:RV}{c:Str}(h:rvS r=some c):∃st,r = .ow (.lf st (.str c)):=by
 obtain⟨d,h1,h⟩:=bS_ h;cases d<;>cases h;exact zne h1
def ziZ(i:Nat)(f:IXF)(fv:EF):SF:=λas=>(fv as).bind λp=>(rvS p.1).bind λc=>(f p.2).bind λk=>if 0<=k then(slO zrx p.2 i).bind λos=>(atO zqD os k.toNat).bind λ_=>some (.nx (p.2.set i (some (.nd .ls (os.set k.toNat (.lf true (.str c)))))))else none
section
variable{K:zC}{kd:KD}{F B G:Addr->Prop}{H:Hp}
theorem zsV{v:V}{inner:List O}{fp:List Addr}{n:Nat}{st:Bool}{d:D}(c:Str)(r:RoS K kd F B G H v (.nd .ls inner) fp)(hn:fp.Nodup)(hG:∀a ∈ fp,G a)(e:inner[n]? = some (.lf st d)):
 ∃p ivs,v = .ref p/\p ∈ fp/\H p=some (.lst ivs)/\n<ivs.length/\RoS K kd F B G (upd H p (.lst (ivs.set n (.str c)))) v (.nd .ls (inner.set n (.lf true (.str c)))) fp:=by
 cases r with
 |ls hp ir=>
  rename_i p ivs ifp;have hpfp:p ∉ ifp:=(zzR.mp hn).1;refine⟨p,ivs,rfl,zzB ..,hp,by rw[zop ir];exact(zzC.mp e).1,.ls yw (zjf (.str c) inner (Y5.grow (zmi (hG p (zzB ..))) (λx m w h=>by rw[yg (λe=>hpfp (by subst e;exact m))];exact h) ir) e)⟩
end
section
variable{X:Cx}{kd:KD}{f f1 f2:IXF}{fv:EF}{e1 e2 ev:Expr}{i:Nat}
theorem zss{x:Str}{p tpos pos:Pos}(ho:PE X (.Name x p) (zhM i))(h1:AK X kd e1 f)(hv:AE X kd ev fv)
 (ha:∀v,assign (.Subscript (.Name x p) e1 tpos) X.env v=(do
  let ov <-holding [v] (eval (.Name x p) X.env);let iv <-holding [v,ov] (eval e1 X.env)
  standAt tpos
  holding [v,ov,iv] (setItem ov iv v)
  release [v,ov,iv] []))
 (hs:swapsWithSole [.Subscript (.Name x p) e1 tpos] ev pos.line X.env=pure false) (hw:swappedStores [.Subscript (.Name x p) e1 tpos] ev X.env=pure none)
 (hm:(assignEach [.Subscript (.Name x p) e1 tpos] X.env).map (·.2)=[assign (.Subscript (.Name x p) e1 tpos) X.env]):
 ASt X kd (.Assign [.Subscript (.Name x p) e1 tpos] ev pos) (ziZ i f fv):=by
 with_unfolding_all exact(W0 (zpS hv (zwb ho h1 set_list ha) hs hw hm) λD σ H h=>by
  obtain⟨F,B,ad,as,o,R,e,q⟩:=h;obtain⟨⟨pv,as1⟩,h1,e1⟩:=bS_ (show(fv as).bind _=_ from e);obtain⟨c,j2,e2⟩:=bS_ e1;obtain⟨k,j1,e3⟩:=bS_ e2;obtain⟨hk,e4⟩:=ite_some' e3;obtain⟨os,e5,e6⟩:=bS_ e4;obtain⟨d,e7,e8⟩:=bS_ e6;have k1:=zyc e5;obtain⟨st,k2⟩:=zys e7;cases e8;obtain⟨st',rfl⟩:=zvt j2;refine ZX R h1 λu ad1 H1 R1 rv1 g1=>?_;have hv:RoS X.K kd F B (Gw [] ad1) H1 u (.lf st' (.str c)) []:=rv1;cases hv with
  |lf rp=>
   cases rp;obtain⟨v,sv,ro,hn,hG,up⟩:=R1.slotU k1;obtain⟨p,ivs,rfl,hp,hH,hl,ro'⟩:=zsV c ro hn hG k2;obtain⟨R2,g2⟩:=up p _ _ hp ro';exact⟨_,sv,F,B,ad1,as1,k,R1,j1,p,ivs,k,k.toNat,rfl,rfl,hH,zse hk hl,q σ ad1 _ R2 (g1.trans g2)⟩)
end
open PySem PySem.Spec PyProof.Rows L2 PySem.StrLaws PySem.Builtin PySem.Builtin.Str
section
variable{x y:Str}{h:Nat}{t:List Nat}
theorem zjV(hy:y.cps.toList=h::t){n k:Nat}(ha:At x y n k):x.cps.toList[k]? = some h:=by
 have e:=ha.2;rw[subAt_eq,len_eq y,hy]at e;have e:=eq_of_beq e;have z:=congrArg (·[0]?) e;simpa using z
theorem zeX{pre post:List Nat}(hx:x.cps.toList=pre++y.cps.toList++post):At x y x.length pre.length:=by
 refine⟨by rw[len_eq x,len_eq y,hx];simp, ?_⟩;rw[subAt_eq,hx,len_eq y,zyU,List.drop_left,List.take_left];simp
theorem zfK{pre p post:List Nat}(hx:x.cps.toList=pre++p++post):strSub x pre.length (pre.length+p.length)=⟨p.toArray⟩:=Wb (by
 rw[strSub_toList,hx,zyU,List.drop_left,show pre.length+p.length-pre.length=p.length by omega,List.take_left])
theorem zjo{pre p:List Nat}(hx:x.cps.toList=pre++p):strSub x pre.length x.length=⟨p.toArray⟩:=Wb (by
 rw[strSub_toList,len_eq x,hx,List.drop_left,show(pre++p).length-pre.length=p.length by simp,List.take_length])
theorem VL(a:Str):(⟨a.cps.toList.toArray⟩:Str)=a:=Wb (by simp)
theorem Vy(y a b:Str)(r:List Str):(Str.join y (a::b::r)).cps.toList=a.cps.toList++y.cps.toList++(Str.join y (b::r)).cps.toList:=by
 show(a++y++Str.join y (b::r)).cps.toList=_;rw[app_list,app_list]
theorem znK(hy:y.cps.toList=h::t){pre p post:List Nat}(hx:x.cps.toList=pre++p++post)(hp:h ∉ p){k n:Nat}(h1:pre.length<=k)(h2:k<pre.length+p.length):¬At x y n k:=λha=>by
 have e:=zjV hy ha;rw[hx,zyU,zyL h1,zyJ (by omega)]at e;exact hp (zzU e)
theorem zgv(hy:y.cps.toList=h::t):∀(ps:List Str) (pre:List Nat) (cuts:List Nat) (f:Nat),ps≠[]->(∀p ∈ ps,h ∉ p.cps.toList)->x.cps.toList=pre++(Str.join y ps).cps.toList->
 ChainG x y x.length pre.length cuts f->(∀k,f<=k->¬At x y x.length k)->partsFrom x y.length pre.length cuts=ps
 | [],_,_,_,hn,_,_,_,_=>absurd rfl hn
 | [p],pre,cuts,f,_,hp,hx,hc,hf=>by
  have hx:x.cps.toList=pre++p.cps.toList:=hx;cases cuts with
  |nil=>
   show[strSub x pre.length x.length]=_;rw[zjo hx,VL]
  |cons c r=>
   refine absurd hc.2.1 (znK hy (post:=[]) (by rw[zzY];exact hx) (hp p (by simp)) hc.1 ?_);have:=hc.2.1.1;rw[len_eq x,hx,zzF]at this;have:0<y.length:=by rw[len_eq,hy];simp
   omega
 |p::q::r,pre,cuts,f,_,hp,hx,hc,hf=>by
  have hx:x.cps.toList=pre++p.cps.toList++y.cps.toList++(Str.join y (q::r)).cps.toList:=by rw[hx,Vy];simp
  have hA:At x y x.length (pre.length+p.cps.toList.length):=by
   have:=zeX hx
   rwa [zzF]at this
  have hx2:x.cps.toList=pre++p.cps.toList++(y.cps.toList++(Str.join y (q::r)).cps.toList):=by rw[hx];simp
  cases cuts with
  |nil=>
   have e:f=pre.length:=hc;exact absurd hA (hf _ (by omega))
  |cons c cs=>
   obtain⟨h1,h2,h3,h4⟩:=hc;have e:c=pre.length+p.cps.toList.length:=by
    rcases Nat.lt_trichotomy c (pre.length+p.cps.toList.length)with z|z|z
    . exact absurd h2 (znK hy hx2 (hp p (by simp)) h1 z)
    . exact z
    . exact absurd hA (h3 _ (by omega) z)
   subst e;show strSub x pre.length (pre.length+p.cps.toList.length)::partsFrom x y.length (pre.length+p.cps.toList.length+y.length) cs=_;rw[zfK hx2,VL];have l:pre.length+p.cps.toList.length+y.length=(pre++p.cps.toList++y.cps.toList).length:=by rw[len_eq y];simp;omega
   rw[l]at h4 ⊢;rw[zgv hy (q::r) (pre++p.cps.toList++y.cps.toList) cs f (by simp) (λz m=>hp z (zS _ m)) hx h4 hf]
theorem zbn(x y:Str):Txt.split x y=partsBetween x (occurrences x y 0 x.length (x.length+1)) y.length:=by
 unfold Txt.split;have nil:partsBetween x [] y.length=[x]:=by rw[partsBetween_eq];show[strSub x 0 x.length]=_;rw[sub_whole]
 split
 . rename_i h;rw[PySem.W.occ_nil_of_no x y _ λi hi=>?_,nil]
   rcases Bool.or_eq_true_iff.mp h with h|h
   . have:=of_decide_eq_true h;omega
   . cases e:subAt x y i
     . rfl
     . have:=PySem.W.kind_le x y e;have:=of_decide_eq_true h;omega
 . split
   . rename_i h;rw[List.isEmpty_iff.mp h,nil]
   . rfl
theorem zet(hy:y.cps.toList=h::t){ps:List Str}(hn:ps≠[])(hp:∀p ∈ ps,h ∉ p.cps.toList):Txt.split (Str.join y ps) y=ps:=by
 obtain⟨f,hG,hf⟩:=occ_tight (Str.join y ps) y (by rw[len_eq,hy];simp);rw[zbn,partsBetween_eq];exact zgv hy ps [] _ f hn hp rfl hG hf
theorem zkj(s sub:Str)(hi limit lo:Nat)(hw:1<=sub.length):∀(m cur:Nat) (st:Array Nat×Nat),ChainG s sub hi lo st.fst.toList st.snd->(st.fst.size=limit\/∀k,st.snd<=k->k<cur->¬At s sub hi k)->st.fst.size<=limit->
 ChainG s sub hi lo (forIn (List.range' cur m) st (occBody s sub hi limit)).run.fst.toList (forIn (List.range' cur m) st (occBody s sub hi limit)).run.snd/\
 ((forIn (List.range' cur m) st (occBody s sub hi limit)).run.fst.size=limit\/∀k,(forIn (List.range' cur m) st (occBody s sub hi limit)).run.snd<=k->k<cur+m->¬At s sub hi k)/\(forIn (List.range' cur m) st (occBody s sub hi limit)).run.fst.size<=limit
 |0,cur,st,h,hn,hl=>⟨h,hn,hl⟩
 |m+1,cur,st,h,hn,hl=>by
  rw[List.range'_succ,List.forIn_cons];unfold occBody;have e:cur+(m+1)=(cur+1)+m:=by omega
  rw[e]
  split
  . rename_i hc;have hn':∀k,st.snd<=k->k<cur->¬At s sub hi k:=hn.resolve_left (by have:=hc.1.1.1;omega);refine zkj s sub hi limit lo hw m (cur+1) _ ?_ (.inr ?_) ?_
    . show ChainG s sub hi lo (st.fst.push cur).toList (cur+sub.length);rw[Array.toList_push];exact chainG_snoc h hc.1.1.2 ⟨hc.1.2,hc.2⟩ hn'
    . intro k h1 h2;have h1':cur+sub.length<=k:=h1;omega
    . show(st.fst.push cur).size<=limit;rw[Array.size_push];have:=hc.1.1.1;omega
  . rename_i hc;refine zkj s sub hi limit lo hw m (cur+1) _ h ?_ hl
    by_cases hz:st.fst.size=limit
    . exact .inl hz
    . have hn':=hn.resolve_left hz;refine .inr λk h1 h2 hA=>?_
      by_cases hk:k<cur
      . exact hn' k h1 hk hA
      . have ek:k=cur:=by omega
        subst ek;exact hc ⟨⟨⟨by show st.fst.size<limit;omega,h1⟩,hA.1⟩,hA.2⟩
theorem zsR(x y:Str)(limit:Nat)(hw:1<=y.length):∃f,ChainG x y x.length 0 (occurrences x y 0 x.length limit) f/\((occurrences x y 0 x.length limit).length=limit\/∀k,f<=k->¬At x y x.length k)/\(occurrences x y 0 x.length limit).length<=limit:=by
 rw[occ_eq];have key:=zkj x y x.length limit 0 hw (x.length+1-0) 0 ((#[]:Array Nat),0) rfl (.inr λk _ h=>by omega) (by simp);refine⟨_,key.1, ?_,by simpa using key.2.2⟩
 rcases key.2.1 with z|z
 . exact .inl (by simpa using z)
 . exact .inr λk hk hA=>z k hk (by have:=hA.1;omega) hA
theorem zmJ(hy:y.cps.toList=h::t){pre p post cuts:List Nat}{c f n:Nat}(hx:x.cps.toList=pre++p++y.cps.toList++post)(hp:h ∉ p)(hc:ChainG x y x.length pre.length (c::cuts) f):c=pre.length+p.length:=by
 have hA:At x y x.length (pre.length+p.length):=by have:=zeX hx;rwa [zzF]at this
 have hx2:x.cps.toList=pre++p++(y.cps.toList++post):=by rw[hx];simp
 rcases Nat.lt_trichotomy c (pre.length+p.length)with z|z|z
 . exact absurd hc.2.1 (znK hy hx2 hp hc.1 z)
 . exact z
 . exact absurd hA (hc.2.2.1 _ (by omega) z)
theorem zuh{pre post:List Nat}(hx:x.cps.toList=pre++y.cps.toList++post):(decide (x.length<y.length)||decide (strKind x<strKind y))=false:=by
 have hA:=zeX hx;have:=PySem.W.kind_le x y hA.2;have:=hA.1;simp only[Bool.or_eq_false_iff,decide_eq_false_iff_not];omega
theorem zoI(hy:y.cps.toList=h::t){a b c:Str}(ha:h ∉ a.cps.toList)(hb:h ∉ b.cps.toList):Txt.splitMax (a++y++b++y++c) y 2=[a,b,c]:=by
 have ex:(a++y++b++y++c).cps.toList=[]++a.cps.toList++y.cps.toList++(b.cps.toList++y.cps.toList++c.cps.toList):=by simp only[app_list];simp
 have ex2:(a++y++b++y++c).cps.toList=(a.cps.toList++y.cps.toList)++b.cps.toList++y.cps.toList++c.cps.toList:=by simp only[app_list]
 have ex3:(a++y++b++y++c).cps.toList=(a.cps.toList++y.cps.toList++b.cps.toList++y.cps.toList)++c.cps.toList:=ex2;generalize hX:a++y++b++y++c=X at ex ex2 ex3;unfold Txt.splitMax;have l2:limitOf X 2=2:=rfl;rw[if_neg (by rw[zuh ex];nofun),l2];obtain⟨f,hG,hn,hl⟩:=zsR X y 2 (by rw[len_eq,hy];simp);generalize occurrences X y 0 X.length 2=cuts at hG hn hl;have A1:At X y X.length a.cps.toList.length:=zeX (pre:=a.cps.toList) (post:=b.cps.toList++y.cps.toList++c.cps.toList) (by rw[ex];simp);have A2:At X y X.length (a.cps.toList++y.cps.toList++b.cps.toList).length:=zeX ex2
 match cuts,hG,hn,hl with
 | [],hG,hn,_=>
  have e:f=0:=hG
  rcases hn with z|z
  . cases z
  . exact absurd A1 (z _ (by omega))
 | [c1],hG,hn,_=>
  have e1:=zmJ (n:=0) hy (pre:=[]) ex ha hG;have e:f=c1+y.length:=hG.2.2.2
  rcases hn with z|z
  . cases z
  . refine absurd A2 (z _ ?_);rw[e,e1,len_eq y];simp
 | [c1,c2],hG,_,_=>
  have e1:=zmJ (n:=0) hy (pre:=[]) ex ha hG;have hG2:=hG.2.2.2;have e1':c1+y.length=(a.cps.toList++y.cps.toList).length:=by rw[e1,len_eq y];simp
  rw[e1']at hG2;have e2:=zmJ (n:=0) hy ex2 hb hG2;rw[if_neg (by simp),partsBetween_eq];show[strSub X 0 c1,strSub X (c1+y.length) c2,strSub X (c2+y.length) X.length]=_;have e2':c2+y.length=(a.cps.toList++y.cps.toList++b.cps.toList++y.cps.toList).length:=by rw[e2,len_eq y];simp;omega
  rw[e1',e2',zjo ex3,e2,zfK (p:=b.cps.toList) (post:=y.cps.toList++c.cps.toList) (by rw[ex2];simp)];have e1'':c1=([]:List Nat).length+a.cps.toList.length:=e1;rw[e1'',show(0:Nat)=([]:List Nat).length from rfl,zfK (p:=a.cps.toList) (post:=y.cps.toList++(b.cps.toList++y.cps.toList++c.cps.toList)) (by rw[ex];simp),VL,VL,VL]
 |_::_::_::_,_,_,hl=>exact absurd hl (by simp)
theorem zcI(hy:y.cps.toList=h::t){a b:Str}(ha:h ∉ a.cps.toList):Txt.partition (a++y++b) y=(a,y,b):=by
 have ex:(a++y++b).cps.toList=[]++a.cps.toList++y.cps.toList++b.cps.toList:=by simp only[app_list];simp
 generalize hX:a++y++b=X at ex;have A1:At X y X.length a.cps.toList.length:=zeX (pre:=a.cps.toList) (post:=b.cps.toList) (by rw[ex];simp);unfold Txt.partition
 rcases occ_head X y 1 (by decide)with⟨e,hn⟩|⟨i,r,e,hA,hn⟩
 . exact absurd A1 (hn _)
 . rw[e];have ei:i=a.cps.toList.length:=by
    rcases Nat.lt_trichotomy i a.cps.toList.length with z|z|z
    . exact absurd hA (znK hy (pre:=[]) (p:=a.cps.toList) (post:=y.cps.toList++b.cps.toList) (by rw[ex];simp) ha (Nat.zero_le _) (by simpa using z))
    . exact z
    . exact absurd A1 (hn _ z)
   show(strSub X 0 i,y,strSub X (i+y.length) X.length)=_;have e2:i+y.length=(a.cps.toList++y.cps.toList).length:=by rw[ei,len_eq y];simp
   rw[e2,zjo (p:=b.cps.toList) (by rw[ex];simp),ei];have:=zfK (x:=X) (pre:=[]) (p:=a.cps.toList) (post:=y.cps.toList++b.cps.toList) (by rw[ex];simp);rw[show([]:List Nat).length+a.cps.toList.length=a.cps.toList.length by simp]at this;rw[show(0:Nat)=([]:List Nat).length from rfl,this,VL,VL]
theorem zjD(hy:y.cps.toList=h::t){a:Str}(ha:h ∉ a.cps.toList):Txt.partition a y=(a,Str.empty,Str.empty):=by
 unfold Txt.partition
 rcases occ_head a y 1 (by decide)with⟨e,hn⟩|⟨i,r,e,hA,hn⟩
 . rw[e]
 . exact absurd (zzU (zjV hy hA)) ha
theorem zmu(a b:Str):Txt.startswith (a++b) a=true:=by
 have:=zeX (x:=a++b) (y:=a) (pre:=[]) (post:=b.cps.toList) (by rw[app_list];simp);unfold Txt.startswith;simp only[zzW,decide_eq_true_eq];exact this
theorem zoN{a y:Str}(hy:y.cps.toList=h::t)(ha:a.cps.toList.head? ≠ some h):Txt.startswith a y=false:=by
 cases e:Txt.startswith a y
 . rfl
 . unfold Txt.startswith at e;simp only[zzW,decide_eq_true_eq]at e;have:=zjV hy (n:=a.length) (k:=0) e;exact absurd (by rw[List.head?_eq_getElem?];exact this) ha
end
section
variable{X:Cx}{kd:KD}{a b c:Expr}{fa fb fc:EF}{pos:Pos}{g g':D->D->Option R0}
theorem zqg{K:zC}{kd:KD}{σ:St}{H:Hp}{Q:VK}(h:al K kd (zaW fa fb fc g g') σ H Q):zrq (λx y H Q=>∃O d e r,(∀a,O a->H a≠none)/\Vw K kd O H x d/\Vw K kd O H y e/\g d e=some r/\RQ K kd O H Q r) (λx y H Q=>∃O d e r,(∀a,O a->H a≠none)/\Vw K kd O H x d/\Vw K kd O H y e/\g' d e=some r/\RQ K kd O H Q r) (al K kd fa) (al K kd fb) (al K kd fc) σ H Q:=by
 obtain⟨F,B,ad,as,r,as',R,e,q⟩:=h;obtain⟨⟨p,as1⟩,h1,e⟩:=bS_ (show(fa as).bind _=_ from e);obtain⟨⟨z,as2⟩,h2,e⟩:=bS_ e;obtain⟨⟨x,lx⟩,h3,e⟩:=bS_ e;obtain⟨⟨y,ly⟩,h4,e⟩:=bS_ e;obtain⟨r0,h5,e⟩:=bS_ e;refine ZX R h1 λv ad1 H1 R1 rv1 g1=>ZX R1 h2 λu ad2 H2 R2 rv2 g2=>⟨_,x,y,r0,R2.tr (meet lx ly),(vM.vw R2 (rv1.grow g2) h3).less Obl.meet1,(vM.vw R2 rv2 h4).less Obl.meet2,h5, ?_⟩
 match r0,e with
 | .im (.bl true),e=>
  obtain⟨⟨t,as3⟩,h6,e⟩:=bS_ (show(fc as2).bind _=_ from e);obtain⟨⟨y',ly'⟩,h7,e⟩:=bS_ e;obtain⟨⟨z',lz'⟩,h8,e⟩:=bS_ e;obtain⟨r1,h9,e⟩:=bS_ e;obtain⟨o,h10,e⟩:=bS_ e;cases e;intro w H3 kp rp;cases rp;obtain⟨R3,g3⟩:=R2.more kp;refine⟨true,rfl, ?_⟩;rw[if_pos rfl];refine ZX R3 h6 λw' ad4 H4 R4 rv4 g4=>⟨_,y',z',r1,R4.tr (meet ly' lz'),(vM.vw R4 ((rv2.grow g3).grow g4) h7).less Obl.meet1,(vM.vw R4 rv4 h8).less Obl.meet2,h9, ?_⟩;exact zbZ R4 h10 λw T' H' R' rv' g'=>q w T' ad4 H' R' rv' ((((g1.trans g2).trans g3).trans g4).trans g')
 | .im (.bl false),e=>
  cases e;intro w H3 kp rp;cases rp;obtain⟨R3,g3⟩:=R2.more kp;refine⟨false,rfl, ?_⟩;rw[if_neg zyP];exact q _ [] ad2 H3 R3 (.lf (.bl _)) ((g1.trans g2).trans g3)
theorem zqb(hg:∀x y r,g' x y=some r->∃k,r = .im (.bl k)){as as1:AS}{p:RV}(h:zaW fa fb fc g g' as=some (p,as1)):∃k,p = .ow (.lf true (.bl k)):=by
 obtain⟨_,_,h⟩:=bS_ (show(fa as).bind _=_ from h);obtain⟨_,_,h⟩:=bS_ h;obtain⟨_,_,h⟩:=bS_ h;obtain⟨_,_,h⟩:=bS_ h;obtain⟨r0,_,h⟩:=bS_ h
 match r0,h with
 | .im (.bl true),h=>
  obtain⟨_,_,h⟩:=bS_ h;obtain⟨_,_,h⟩:=bS_ h;obtain⟨_,_,h⟩:=bS_ h;obtain⟨r1,h1,h⟩:=bS_ h;obtain⟨o,h2,h⟩:=bS_ h;cases h;obtain⟨k,rfl⟩:=hg _ _ _ h1;cases h2;exact⟨k,rfl⟩
 | .im (.bl false),h=>cases h;exact⟨false,rfl⟩
theorem zrv{op op':CmpOp}(ho:OpD X kd (compareOp op) g)(ho':OpD X kd (compareOp op') g')(hg:∀x y r,g' x y=some r->∃k,r = .im (.bl k))(ha:AE X kd a fa)(hb:AE X kd b fb)(hc:AE X kd c fc)(hm:lastMarks [op,op'] [b,c]=false):
 AT X kd (.Compare a [op,op'] [b,c] pos) (fT (zaW fa fb fc g g')):=by with_unfolding_all exact(zkI (zri ho ho' ha hb hc hm) λσ H Q h=>by
 obtain⟨F,B,ad,as,bb,as',R,e,q⟩:=h;obtain⟨⟨p,as1⟩,h1,e⟩:=bS_ (show(zaW fa fb fc g g' as).bind _=_ from e);obtain⟨⟨d,lv⟩,h2,e⟩:=bS_ e;obtain⟨k,h3,e⟩:=bS_ e;cases e;obtain⟨k',rfl⟩:=zqb hg h1;cases h2;cases h3;refine zqg ⟨F,B,ad,as,_,_,R,h1,λv T' ad' H' R' rv g'=>?_⟩;generalize hT:T'=T2 at rv R' g';cases rv with
 |lf rp=>
  cases rp;exact⟨_,rfl,q ad' H' R' g'⟩)
end
end PF
end
section
namespace G16
open PySem PySem.Spec PyProof.Rows L2 PF
abbrev zlA:List Str:=["thing","names"]
theorem zoD:FnScope zlA ["thing","names"] (zy zcX):=⟨rfl,rfl,rfl,by decide +kernel,rfl,by decide +kernel,by decide +kernel⟩
def zlx:SF:=
 (yq (zme (zmQ (fV 0) "str") (zme (f2 (fV 0) (fC (.tup [(.str "a"),(.str "b"),(.str "c")])) (zY .In)) (f2 (fV 0) (fV 1) (zY .In)))))
def Vm:Fn:=fnR 2 2 zlx
abbrev zct:List Str:=["word"]
theorem zgh:FnScope zct ["word"] (zy YQ):=⟨rfl,rfl,rfl,by decide +kernel,rfl,by decide +kernel,by decide +kernel⟩
def zcn:SF:=
 (yq (yF .dct (fC (.dct [(.inr "add",(.int 2)),(.inr "take",(.int 2)),(.inr "times",(.int 2)),(.inr "most",(.int 2)),(.inr "least",(.int 2)),(.inr "same",(.int 4))])) (aC (fV 0) (aC (fC (.int 0)) aN)) getP'))
def yd:Fn:=fnR 1 1 zcn
abbrev zly:List Str:=["word","one","other"]
theorem zpi:FnScope zly ["word","one","other"] (zy zdt):=⟨rfl,rfl,rfl,by decide +kernel,rfl,by decide +kernel,by decide +kernel⟩
def zln:SF:=
 (zJ (sIf (fT (f2 (fV 0) (fC (.str "add")) (zY .Eq))) (yq (f2 (fV 1) (fV 2) (zr .Add))) sNx)
  (zJ (sIf (fT (f2 (fV 0) (fC (.str "take")) (zY .Eq))) (yq (f2 (fV 1) (fV 2) (zr .Sub))) sNx)
  (zJ (sIf (fT (f2 (fV 0) (fC (.str "times")) (zY .Eq))) (yq (f2 (fV 1) (fV 2) (zr .Mult))) sNx)
  (zJ (sIf (fT (f2 (fV 0) (fC (.str "most")) (zY .Eq))) (yq (fP (aC (fV 1) (aC (fV 2) aN)) ztp)) sNx)
  (yq (fP (aC (fV 1) (aC (fV 2) aN)) ztv))))))
def zbm:Fn:=fnR 3 3 zln
abbrev znN:List Str:=["term","n","numbers","word","one","other","chosen"]
theorem zbI:FnScope znN ["term","n","numbers"] (zy zfM):=⟨rfl,rfl,rfl,by decide +kernel,rfl,by decide +kernel,by decide +kernel⟩
def zoe(self:Fn):SF:=
 (zJ (zU true 3 (f2 (fV 0) (fC (.int 0)) ixP))
  (zJ (sIf (fT (f2 (fV 3) (fC (.str "number")) (zY .Eq))) (yq (f2 (f2 (fV 0) (fC (.int 1)) ixP) (fV 1) (zr .Mod))) sNx)
  (zJ (sIf (fT (f2 (fV 3) (fC (.str "name")) (zY .Eq))) (yq (f2 (f2 (fV 2) (f2 (fV 0) (fC (.int 1)) ixP) ixP) (fV 1) (zr .Mod))) sNx)
  (zJ (zU true 4 (zA (aC (f2 (fV 0) (fC (.int 1)) ixP) (aC (fV 1) (aC (fV 2) aN))) self))
  (zJ (zU true 5 (zA (aC (f2 (fV 0) (fC (.int 2)) ixP) (aC (fV 1) (aC (fV 2) aN))) self))
  (zJ (sIf (fT (f2 (fV 3) (fC (.str "same")) (zY .Eq))) (zJ (zU true 6 (fIf (fT (f2 (fV 4) (fV 5) (zY .Eq))) (f2 (fV 0) (fC (.int 3)) ixP) (f2 (fV 0) (fC (.int 4)) ixP)))
  (yq (zA (aC (fV 6) (aC (fV 1) (aC (fV 2) aN))) self))) sNx)
  (yq (f2 (zA (aC (fV 3) (aC (fV 4) (aC (fV 5) aN))) zbm) (fV 1) (zr .Mod)))))))))
def Zn:Nat->Fn
 |0=>λ_=>none
 |n+1=>fnR 7 3 (zoe (Zn n))
abbrev zdP:List Str:=["thing"]
theorem zmV:FnScope zdP ["thing"] (zy Vv):=⟨rfl,rfl,rfl,by decide +kernel,rfl,by decide +kernel,by decide +kernel⟩
theorem zjT:(["letter"]:List Str).Nodup:=by decide +kernel
def ziX:SF:=
 (zJ (sIf (Yr (Wo (fT (zmQ (fV 0) "str"))) (Yr (fT (f2 (fP (aC (fV 0) aN) wz) (fC (.int 1)) (zY .Lt))) (fT (f2 (fP (aC (fV 0) aN) wz) (fC (.int 8)) (zY .Gt))))) (yq (fC (.bl false))) sNx)
  (yq (fP (aC (yC (zqK (fV 0)) [none] (gN 0) xf (f2 (fV 0) (fC (.str "abcdefghijklmnopqrstuvwxyz")) (zY .In))) aN) zmK)))
def Vk:Fn:=fnR 1 1 ziX
abbrev zbB:List Str:=["row"]
theorem zjK:FnScope zbB ["row"] (zy Y7):=⟨rfl,rfl,rfl,by decide +kernel,rfl,by decide +kernel,by decide +kernel⟩
theorem zgU:(["k","row"]:List Str).Nodup:=by decide +kernel
def zeE:SF:=
 (yq (fP (aC (yC (vf (aC (f2 (fP (aC (fV 0) aN) wz) (fC (.int 1)) (zr .Sub)) aN) vY) [none,some 0] (gN 0) xf (f2 (f2 (fV 1) (fV 0) ixP) (f2 (fV 1) (f2 (fV 0) (fC (.int 1)) (zr .Add)) ixP) (zY .Lt))) aN) zmK))
def Y9:Fn:=fnR 1 1 zeE
abbrev zea:List Str:=["n","term"]
theorem zmt:FnScope zea ["n","term"] (zy Vn):=⟨rfl,rfl,rfl,by decide +kernel,rfl,by decide +kernel,by decide +kernel⟩
theorem zkh:(["a","term","n"]:List Str).Nodup:=by decide +kernel
theorem zkt:(["b","term","n","a"]:List Str).Nodup:=by decide +kernel
def zjh:SF:=
 (yq (yC (vf (aC (fV 0) aN) vY) [none,some 1,some 0] (gN 0) xf (yC (vf (aC (fV 2) aN) vY) [none,some 1,some 2,some 0] (gN 0) xf (zA (aC (fV 1) (aC (fV 2) (aC (Ww [((fC (.str "a")),(fV 3)),((fC (.str "b")),(fV 0))]) aN))) (Zn 20)))))
def Vp:Fn:=fnR 2 2 zjh
abbrev zdO:List Str:=["n","m","term"]
theorem zng:FnScope zdO ["n","m","term"] (zy Va):=⟨rfl,rfl,rfl,by decide +kernel,rfl,by decide +kernel,by decide +kernel⟩
theorem zjN:(["c","term","n"]:List Str).Nodup:=by decide +kernel
theorem zjp:(["a","term","n","c"]:List Str).Nodup:=by decide +kernel
def ziV:SF:=
 (yq (yC (vf (aC (fV 1) aN) vY) [none,some 2,some 0] (gN 0) xf (yC (vf (aC (fV 2) aN) vY) [none,some 1,some 2,some 0] (gN 0) xf (zA (aC (fV 1) (aC (fV 2) (aC (Ww [((fC (.str "a")),(fV 0)),((fC (.str "c")),(fV 3))]) aN))) (Zn 20)))))
def Vg:Fn:=fnR 3 3 ziV
abbrev zao:List Str:=["word","most"]
theorem zhK:FnScope zao ["word","most"] (zy ZQ):=⟨rfl,rfl,rfl,by decide +kernel,rfl,by decide +kernel,by decide +kernel⟩
theorem zfw:(["sign"]:List Str).Nodup:=by decide +kernel
def zdm:SF:=
 (zJ (sIf (Yr (fT (f2 (fV 0) (fC (.str "")) (zY .Eq))) (fT (f2 (fP (aC (fV 0) aN) wz) (fV 1) (zY .Gt)))) (yq (fC (.bl false))) sNx)
  (zJ (sIf (znJ (fT (f2 (f2 (fV 0) (fC (.int 0)) ixP) (fC (.str "0")) (zY .Eq))) (fT (f2 (fV 0) (fC (.str "0")) (zY .NotEq)))) (yq (fC (.bl false))) sNx)
  (yq (fP (aC (yC (zqK (fV 0)) [none] (gN 0) xf (f2 (fV 0) (fC (.str "0123456789")) (zY .In))) aN) zmK))))
def xq:Fn:=fnR 2 2 zdm
abbrev zqS:List Str:=["word","within","names"]
theorem zsZ:FnScope zqS ["word","within","names"] (zy zkx):=⟨rfl,rfl,rfl,by decide +kernel,rfl,by decide +kernel,by decide +kernel⟩
def zpT:SF:=
 (zJ (sIf (fT (f2 (zA (aC (fV 0) aN) yd) (fC (.int 0)) (zY .Gt))) (yq (f2 (fV 1) (fC (.int 12)) (zY .Lt))) sNx)
  (yq (fOr (zA (aC (fV 0) (aC (fC (.int 60)) aN)) xq) (zA (aC (fV 0) (aC (fV 2) aN)) Vm))))
def WP:Fn:=fnR 3 3 zpT
abbrev zcr:List Str:=["words","names","wanted","at","word"]
theorem vO:FnScope zcr ["words","names"] (zy YM):=⟨rfl,rfl,rfl,by decide +kernel,rfl,by decide +kernel,by decide +kernel⟩
def zcf:SF:=
 (zJ (zU true 2 (xX (dC (fC (.int 0)) dN)))
  (zJ (zaX (zty (fV 0)) (gT 2 (gsC (gN 3) (gsC (gN 4) gsN))) (zJ (sIf (Yr (fT (f2 (fP (aC (fV 2) aN) wz) (fC (.int 0)) (zY .Eq))) (Wo (fT (zA (aC (fV 4) (aC (f2 (fV 2) (fC (.int 0)) ixP) (aC (fV 1) aN))) WP)))) (yq (fV 3)) sNx)
  (zJ (zU true 2 (f2 (f2 (xX (dC (f2 (f2 (fV 2) (fC (.int 0)) ixP) (fC (.int 1)) (zr .Add)) dN)) (zA (aC (fV 4) aN) yd) (zr .Mult)) (fSl (fV 2) (oS (fC (.int 1))) oN slP) (zr .Add)))
  (sIf (fT (f2 (f2 (f2 (fV 3) (fC (.int 1)) (zr .Add)) (fP (aC (fV 2) aN) wz) (zr .Add)) (fC (.int 40)) (zY .Gt))) (yq (fV 3)) sNx))))
  (yq (fIf (fT (f2 (fP (aC (fV 2) aN) wz) (fC (.int 0)) (zY .Gt))) (fP (aC (fV 0) aN) wz) (fC .non)))))
def Zi:Fn:=fnR 5 2 zcf
abbrev ziy:List Str:=["word"]
theorem zmT:FnScope ziy ["word"] (zy zbS):=⟨rfl,rfl,rfl,by decide +kernel,rfl,by decide +kernel,by decide +kernel⟩
def ziL:SF:=
 (zJ (sIf (fT (zA (aC (fV 0) (aC (fC (.int 60)) aN)) xq)) (yq (Yg (dC (fC (.str "number")) (dC (fP (aC (fV 0) aN) zcj) dN)))) sNx)
  (yq (Yg (dC (fC (.str "name")) (dC (fV 0) dN)))))
def ZG:Fn:=fnR 1 1 ziL
abbrev zia:List Str:=["words","ready","word","many","term"]
theorem Yn:FnScope zia ["words"] (zy zbX):=⟨rfl,rfl,rfl,by decide +kernel,rfl,by decide +kernel,by decide +kernel⟩
def ziJ:SF:=
 (zJ (zU true 1 (xX dN))
  (zJ (zaX (ztq (fV 0)) (gN 2) (zJ (zU true 3 (zA (aC (fV 2) aN) yd))
  (zJ (zU true 4 (fIf (fT (f2 (fV 3) (fC (.int 0)) (zY .Eq))) (zA (aC (fV 2) aN) ZG) (fP (aC (f2 (xX (dC (fV 2) dN)) (fSl (fV 1) oN (oS (fV 3)) slP) (zr .Add)) aN) tupP)))
  (zU true 1 (f2 (xX (dC (fV 4) dN)) (fSl (fV 1) (oS (fV 3)) oN slP) (zr .Add))))))
  (yq (f2 (fV 1) (fC (.int 0)) ixP))))
def Vu:Fn:=fnR 5 1 ziJ
abbrev zfl:List Str:=["text","names","words","fault"]
theorem zaq:FnScope zfl ["text","names"] (zy Wd):=⟨rfl,rfl,rfl,by decide +kernel,rfl,by decide +kernel,by decide +kernel⟩
def zey:SF:=
 (zJ (zU true 2 (yF .str (fV 0) (aC (fC (.str " ")) aN) Za))
  (zJ (zU true 3 (zA (aC (fV 2) (aC (fV 1) aN)) Zi))
  (zJ (sIf (fT (f2 (fV 3) (fC .non) (zY .IsNot))) sNo sNx)
  (yq (zA (aC (fV 2) aN) Vu)))))
def YX:Fn:=fnR 4 2 zey
abbrev zcL:List Str:=["row"]
theorem zlw:FnScope zcL ["row"] (zy X8):=⟨rfl,rfl,rfl,by decide +kernel,rfl,by decide +kernel,by decide +kernel⟩
theorem zhY:(["value"]:List Str).Nodup:=by decide +kernel
def zgR:SF:=
 (yq (yF .str (fC (.str " ")) (aC (yC (Z6 (fV 0)) [none] (gN 0) xf (fP (aC (fV 0) aN) vQ)) aN) wH))
def X7:Fn:=fnR 1 1 zgR
abbrev zbs:List Str:=["rows"]
theorem zkC:FnScope zbs ["rows"] (zy Xb):=⟨rfl,rfl,rfl,by decide +kernel,rfl,by decide +kernel,by decide +kernel⟩
theorem zgu:(["row"]:List Str).Nodup:=by decide +kernel
def zfn:SF:=
 (yq (f2 (fC (.str "rows ")) (yF .str (fC (.str ", ")) (aC (yC (Z6 (fV 0)) [none] (gN 0) xf (zA (aC (fV 0) aN) X7)) aN) wH) (zr .Add)))
def vh:Fn:=fnR 1 1 zfn
abbrev zbj:List Str:=["name","values"]
theorem zjH:FnScope zbj ["name","values"] (zy Y0):=⟨rfl,rfl,rfl,by decide +kernel,rfl,by decide +kernel,by decide +kernel⟩
theorem zgd:(["value"]:List Str).Nodup:=by decide +kernel
def zeZ:SF:=
 (yq (yF .str (fC (.str " ")) (aC (f2 (xX (dC (fC (.str "sign")) (dC (fV 0) dN))) (yC (Z6 (fV 1)) [none] (gN 0) xf (fP (aC (fV 0) aN) vQ)) (zr .Add)) aN) wH))
def ZJ:Fn:=fnR 2 2 zeZ
abbrev Yd:List Str:=["algebra","lines"]
theorem zaz:FnScope Yd ["algebra"] (zy wY):=⟨rfl,rfl,rfl,by decide +kernel,rfl,by decide +kernel,by decide +kernel⟩
theorem Wh:(["name","rows"]:List Str).Nodup:=by decide +kernel
theorem Wj:(["name","values"]:List Str).Nodup:=by decide +kernel
def zbd:SF:=
 (zJ (zU false 1 (xX (dC (f2 (f2 (f2 (fC (.str "values ")) (fP (aC (f2 (fV 0) (fC (.int 0)) ixP) aN) vQ) (zr .Add)) (fC (.str " around ")) (zr .Add)) (fP (aC (f2 (fV 0) (fC (.int 1)) ixP) aN) vQ) (zr .Add)) dN)))
  (zJ (yV (xY 1 (dC (f2 (fC (.str "join ")) (zA (aC (f2 (fV 0) (fC (.int 2)) ixP) aN) vh) (zr .Add)) dN) wZ))
  (zJ (yV (xY 1 (dC (f2 (fC (.str "nothing ")) (fP (aC (f2 (fV 0) (fC (.int 3)) ixP) aN) vQ) (zr .Add)) dN) wZ))
  (zJ (yV (xY 1 (dC (yC (Z6 (f2 (fV 0) (fC (.int 4)) ixP)) [none,none] (gT 2 (gsC (gN 0) (gsC (gN 1) gsN))) xf (f2 (f2 (f2 (fC (.str "deed ")) (fV 0) (zr .Add)) (fC (.str " ")) (zr .Add)) (zA (aC (fV 1) aN) vh) (zr .Add))) dN) zli))
  (zJ (yV (xY 1 (dC (yC (Z6 (f2 (fV 0) (fC (.int 5)) ixP)) [none,none] (gT 2 (gsC (gN 0) (gsC (gN 1) gsN))) xf (zA (aC (fV 0) (aC (fV 1) aN)) ZJ)) dN) zli))
  (yq (yF .str (fC (.str "\n")) (aC (fV 1) aN) wH)))))))
def vU:Fn:=fnR 2 1 zbd
abbrev zck:List Str:=["word","least","most","number"]
theorem zaT:FnScope zck ["word","least","most"] (zy YG):=⟨rfl,rfl,rfl,by decide +kernel,rfl,by decide +kernel,by decide +kernel⟩
def zcg:SF:=
 (zJ (sIf (Wo (fT (zA (aC (fV 0) (aC (fC (.int 60)) aN)) xq))) (yq (fC .non)) sNx)
  (zJ (zU true 3 (fP (aC (fV 0) aN) zcj))
  (yq (fIf (fT (zaW (fV 1) (fV 3) (fV 2) (zY .LtE) (zY .LtE))) (fV 3) (fC .non)))))
def yU:Fn:=fnR 4 3 zcg
abbrev zcC:List Str:=["words","n","row"]
theorem zeL:FnScope zcC ["words","n"] (zy X4):=⟨rfl,rfl,rfl,by decide +kernel,rfl,by decide +kernel,by decide +kernel⟩
theorem zhO:(["word","n"]:List Str).Nodup:=by decide +kernel
def zhx:SF:=
 (zJ (zU true 2 (yC (Z6 (fV 0)) [none,some 1] (gN 0) xf (zA (aC (fV 0) (aC (fC (.int 0)) (aC (f2 (fV 1) (fC (.int 1)) (zr .Sub)) aN))) yU)))
  (yq (fIf (fT (f2 (fC .non) (fV 2) (zY .In))) (fC .non) (fV 2))))
def vP:Fn:=fnR 3 2 zhx
abbrev Wn:List Str:=["text","many","n","rows"]
theorem zdy:FnScope Wn ["text","many","n"] (zy ZC):=⟨rfl,rfl,rfl,by decide +kernel,rfl,by decide +kernel,by decide +kernel⟩
theorem zfU:(["row","n"]:List Str).Nodup:=by decide +kernel
theorem zgP:(["row","n"]:List Str).Nodup:=by decide +kernel
def zeG:SF:=
 (zJ (zU true 3 (yC (Z6 (yF .str (fV 0) (aC (fC (.str ", ")) aN) Za)) [none,some 2] (gN 0) xf (zA (aC (yF .str (fV 0) (aC (fC (.str " ")) aN) Za) (aC (fV 1) aN)) vP)))
  (zJ (sIf (Yr (fT (f2 (fP (aC (fV 3) aN) wz) (fV 1) (zY .NotEq))) (Wo (fT (fP (aC (yC (Z6 (fV 3)) [none,some 2] (gN 0) xf (zme (f2 (fV 0) (fC .non) (zY .IsNot)) (f2 (fP (aC (fV 0) aN) wz) (fV 1) (zY .Eq)))) aN) zmK)))) (yq (fC .non)) sNx)
  (yq (fV 3))))
def vR:Fn:=fnR 4 3 zeG
abbrev Vl:List Str:=["text","names"]
theorem zdn:FnScope Vl ["text","names"] (zy vZ):=⟨rfl,rfl,rfl,by decide +kernel,rfl,by decide +kernel,by decide +kernel⟩
def Vj:SF:=
 (yq (zA (aC (fV 0) (aC (fV 1) aN)) YX))
def xN:Fn:=fnR 2 2 Vj
abbrev Ws:List Str:=["text","n","parts","term"]
theorem Zx:FnScope Ws ["text","n"] (zy vK):=⟨rfl,rfl,rfl,by decide +kernel,rfl,by decide +kernel,by decide +kernel⟩
def Wk:SF:=
 (zJ (zU true 2 (yF .str (fV 0) (aC (fC (.str " ")) aN) zji))
  (zJ (sIf (fT (f2 (f2 (fV 2) (fC (.int 0)) ixP) (fC (.str "rows")) (zY .Eq))) (yq (zA (aC (f2 (fV 2) (fC (.int 2)) ixP) (aC (fV 1) (aC (fV 1) aN))) vR)) sNx)
  (zJ (zU true 3 (zA (aC (fV 0) (aC (xX (dC (fC (.str "a")) (dC (fC (.str "b")) dN))) aN)) xN))
  (yq (fIf (fT (f2 (fV 3) (fC .non) (zY .Is))) (fC .non) (zA (aC (fV 1) (aC (fV 3) aN)) Vp))))))
def wL:Fn:=fnR 4 2 Wk
abbrev Wg:List Str:=["text","n","m","parts","term"]
theorem Zw:FnScope Wg ["text","n","m"] (zy vJ):=⟨rfl,rfl,rfl,by decide +kernel,rfl,by decide +kernel,by decide +kernel⟩
def Wi:SF:=
 (zJ (zU true 3 (yF .str (fV 0) (aC (fC (.str " ")) aN) zji))
  (zJ (sIf (fT (f2 (f2 (fV 3) (fC (.int 0)) ixP) (fC (.str "rows")) (zY .Eq))) (yq (zA (aC (f2 (fV 3) (fC (.int 2)) ixP) (aC (fV 2) (aC (fV 1) aN))) vR)) sNx)
  (zJ (zU true 4 (zA (aC (fV 0) (aC (xX (dC (fC (.str "a")) (dC (fC (.str "c")) dN))) aN)) xN))
  (yq (fIf (fT (f2 (fV 4) (fC .non) (zY .Is))) (fC .non) (zA (aC (fV 1) (aC (fV 2) (aC (fV 4) aN))) Vg))))))
def wJ:Fn:=fnR 5 3 Wi
abbrev zdj:List Str:=["line","words","n","m"]
theorem YK:FnScope zdj ["line"] (zy Xq):=⟨rfl,rfl,rfl,by decide +kernel,rfl,by decide +kernel,by decide +kernel⟩
def zdE:SF:=
 (zJ (zU true 1 (yF .str (fV 0) (aC (fC (.str " ")) aN) Za))
  (zJ (sIf (Yr (fT (f2 (fP (aC (fV 1) aN) wz) (fC (.int 4)) (zY .NotEq))) (Yr (fT (f2 (f2 (fV 1) (fC (.int 0)) ixP) (fC (.str "values")) (zY .NotEq))) (fT (f2 (f2 (fV 1) (fC (.int 2)) ixP) (fC (.str "around")) (zY .NotEq))))) (yq (fC .non)) sNx)
  (zJ (zU true 2 (zA (aC (f2 (fV 1) (fC (.int 1)) ixP) (aC (fC (.int 1)) (aC (fC (.int 8)) aN))) yU))
  (zJ (zU true 3 (zA (aC (f2 (fV 1) (fC (.int 3)) ixP) (aC (fC (.int 1)) (aC (fC (.int 6)) aN))) yU))
  (yq (fIf (Yr (fT (f2 (fV 2) (fC .non) (zY .Is))) (fT (f2 (fV 3) (fC .non) (zY .Is)))) (fC .non) (Yg (dC (fV 2) (dC (fV 3) dN)))))))))
def Z8:Fn:=fnR 4 1 zdE
abbrev zfo:List Str:=["line","n","parts"]
theorem zcU:FnScope zfo ["line","n"] (zy Wc):=⟨rfl,rfl,rfl,by decide +kernel,rfl,by decide +kernel,by decide +kernel⟩
def zeU:SF:=
 (zJ (zU true 2 (yF .str (fV 0) (aC (fC (.str " ")) aN) zji))
  (yq (fIf (fT (f2 (f2 (fV 2) (fC (.int 0)) ixP) (fC (.str "join")) (zY .Eq))) (zA (aC (f2 (fV 2) (fC (.int 2)) ixP) (aC (fV 1) aN)) wL) (fC .non))))
def Y4:Fn:=fnR 3 2 zeU
abbrev zaN:List Str:=["line","n","words"]
theorem zau:FnScope zaN ["line","n"] (zy Z0):=⟨rfl,rfl,rfl,by decide +kernel,rfl,by decide +kernel,by decide +kernel⟩
def zbc:SF:=
 (zJ (zU true 2 (yF .str (fV 0) (aC (fC (.str " ")) aN) Za))
  (zJ (sIf (Yr (fT (f2 (fP (aC (fV 2) aN) wz) (fC (.int 2)) (zY .NotEq))) (fT (f2 (f2 (fV 2) (fC (.int 0)) ixP) (fC (.str "nothing")) (zY .NotEq)))) (yq (fC .non)) sNx)
  (yq (zA (aC (f2 (fV 2) (fC (.int 1)) ixP) (aC (fC (.int 0)) (aC (f2 (fV 1) (fC (.int 1)) (zr .Sub)) aN))) yU))))
def vV:Fn:=fnR 3 2 zbc
abbrev zfW:List Str:=["name","told"]
theorem zpm:FnScope zfW ["name","told"] (zy zbh):=⟨rfl,rfl,rfl,by decide +kernel,rfl,by decide +kernel,by decide +kernel⟩
theorem zmf:(["one"]:List Str).Nodup:=by decide +kernel
def zkW:SF:=
 (yq (zme (zA (aC (fV 0) aN) Vk) (f2 (fV 0) (yC (Z6 (fV 1)) [none] (gN 0) xf (f2 (fV 0) (fC (.int 0)) ixP)) (zY .NotIn))))
def vC:Fn:=fnR 2 2 zkW
abbrev zfm:List Str:=["line","n","m","told","words","rows"]
theorem V0:FnScope zfm ["line","n","m","told"] (zy Wu):=⟨rfl,rfl,rfl,by decide +kernel,rfl,by decide +kernel,by decide +kernel⟩
def zeV:SF:=
 (zJ (zU true 4 (yF .str (fV 0) (aC (fC (.str " ")) (aC (fC (.int 2)) aN)) zrN))
  (zJ (sIf (Yr (fT (f2 (fP (aC (fV 4) aN) wz) (fC (.int 3)) (zY .NotEq))) (Yr (Wo (fT (zA (aC (f2 (fV 4) (fC (.int 1)) ixP) (aC (fV 3) aN)) vC))) (fT (f2 (fP (aC (fV 3) aN) wz) (fC (.int 6)) (zY .Eq))))) (yq (fC .non)) sNx)
  (zJ (zU true 5 (zA (aC (f2 (fV 4) (fC (.int 2)) ixP) (aC (fV 1) (aC (fV 2) aN))) wJ))
  (yq (fIf (fT (f2 (fV 5) (fC .non) (zY .Is))) (fC .non) (Yg (dC (f2 (fV 4) (fC (.int 1)) ixP) (dC (fV 5) dN))))))))
def vp:Fn:=fnR 6 4 zeV
abbrev zfg:List Str:=["line","n","told","words","values"]
theorem zac:FnScope zfg ["line","n","told"] (zy Wx):=⟨rfl,rfl,rfl,by decide +kernel,rfl,by decide +kernel,by decide +kernel⟩
def zew:SF:=
 (zJ (zU true 3 (yF .str (fV 0) (aC (fC (.str " ")) aN) Za))
  (zJ (sIf (Yr (fT (f2 (fP (aC (fV 3) aN) wz) (fC (.int 2)) (zY .Lt))) (Yr (fT (f2 (f2 (fV 3) (fC (.int 0)) ixP) (fC (.str "sign")) (zY .NotEq))) (Yr (Wo (fT (zA (aC (f2 (fV 3) (fC (.int 1)) ixP) (aC (fV 2) aN)) vC))) (fT (f2 (fP (aC (fV 2) aN) wz) (fC (.int 4)) (zY .Eq)))))) (yq (fC .non)) sNx)
  (zJ (zU true 4 (zA (aC (fSl (fV 3) (oS (fC (.int 2))) oN slP) (aC (fV 1) aN)) vP))
  (yq (fIf (Yr (fT (f2 (fV 4) (fC .non) (zY .Is))) (Wo (fT (zA (aC (fV 4) aN) Y9)))) (fC .non) (Yg (dC (f2 (fV 3) (fC (.int 1)) ixP) (dC (fV 4) dN))))))))
def vq:Fn:=fnR 5 3 zew
abbrev zjg:List Str:=["lines","at"]
theorem zmM:FnScope zjg ["lines","at"] (zy zbW):=⟨rfl,rfl,rfl,by decide +kernel,rfl,by decide +kernel,by decide +kernel⟩
def ziP:SF:=
 (zJ (sIf (fT (f2 (fV 1) (fP (aC (fV 0) aN) wz) (zY .Eq))) sNo sNx)
  (yq (f2 (fV 0) (fV 1) ixP)))
def Yx:Fn:=fnR 2 2 ziP
abbrev ziR:List Str:=["thing","at"]
theorem znp:FnScope ziR ["thing","at"] (zy zbU):=⟨rfl,rfl,rfl,by decide +kernel,rfl,by decide +kernel,by decide +kernel⟩
def zis:SF:=
 (zJ (sIf (fT (f2 (fV 0) (fC .non) (zY .Is))) sNo sNx)
  (yq (fV 0)))
def xO:Fn:=fnR 2 2 zis
abbrev zcR:List Str:=["lines","n","m","deeds","at"]
theorem W3:FnScope zcR ["lines","n","m"] (zy Xj):=⟨rfl,rfl,rfl,by decide +kernel,rfl,by decide +kernel,by decide +kernel⟩
def zdv:SF:=
 (zJ (zU false 3 (xX dN))
  (zJ (zaX (vf (aC (fC (.int 3)) (aC (fP (aC (fV 0) aN) wz) aN)) zsk) (gN 4) (zJ (sIf (Wo (fT (yF .str (f2 (fV 0) (fV 4) ixP) (aC (fC (.str "deed ")) aN) swP))) sBk sNx)
  (yV (xY 3 (dC (zA (aC (zA (aC (f2 (fV 0) (fV 4) ixP) (aC (fV 1) (aC (fV 2) (aC (fV 3) aN)))) vp) (aC (fV 4) aN)) xO) dN) wZ))))
  (yq (fV 3))))
def Z5:Fn:=fnR 5 3 zdv
abbrev zcY:List Str:=["lines","start","n","signs","at"]
theorem W8:FnScope zcY ["lines","start","n"] (zy Xm):=⟨rfl,rfl,rfl,by decide +kernel,rfl,by decide +kernel,by decide +kernel⟩
def zdB:SF:=
 (zJ (zU false 3 (xX dN))
  (zJ (zaX (vf (aC (fV 1) (aC (fP (aC (fV 0) aN) wz) aN)) zsk) (gN 4) (yV (xY 3 (dC (zA (aC (zA (aC (f2 (fV 0) (fV 4) ixP) (aC (fV 2) (aC (fV 3) aN))) vq) (aC (fV 4) aN)) xO) dN) wZ)))
  (yq (fV 3))))
def Yb:Fn:=fnR 5 3 zdB
abbrev zaS:List Str:=["text","lines","sizes","n","m","join","nothing","deeds","signs"]
theorem yZ:FnScope zaS ["text"] (zy ZR):=⟨rfl,rfl,rfl,by decide +kernel,rfl,by decide +kernel,by decide +kernel⟩
def zaR:SF:=
 (zJ (zU true 1 (yF .str (fV 0) (aC (fC (.str "\n")) aN) Za))
  (zJ (zU true 2 (zA (aC (zA (aC (f2 (fV 1) (fC (.int 0)) ixP) aN) Z8) (aC (fC (.int 0)) aN)) xO))
  (zJ (zU true 3 (f2 (fV 2) (fC (.int 0)) ixP))
  (zJ (zU true 4 (f2 (fV 2) (fC (.int 1)) ixP))
  (zJ (zU true 5 (zA (aC (zA (aC (zA (aC (fV 1) (aC (fC (.int 1)) aN)) Yx) (aC (fV 3) aN)) Y4) (aC (fC (.int 1)) aN)) xO))
  (zJ (zU true 6 (zA (aC (zA (aC (zA (aC (fV 1) (aC (fC (.int 2)) aN)) Yx) (aC (fV 3) aN)) vV) (aC (fC (.int 2)) aN)) xO))
  (zJ (zU true 7 (zA (aC (fV 1) (aC (fV 3) (aC (fV 4) aN))) Z5))
  (zJ (zU true 8 (zA (aC (fV 1) (aC (f2 (fC (.int 3)) (fP (aC (fV 7) aN) wz) (zr .Add)) (aC (fV 3) aN))) Yb))
  (yq (Yg (dC (fV 3) (dC (fV 4) (dC (fV 5) (dC (fV 6) (dC (fV 7) (dC (fV 8) dN))))))))))))))))
def yM:Fn:=fnR 9 1 zaR
abbrev zch:List Str:=["_law_script","_law_k"]
theorem zfR:FnScope zch ["_law_script","_law_k"] (zy YS):=⟨rfl,rfl,rfl,by decide +kernel,rfl,by decide +kernel,by decide +kernel⟩
def zce:SF:=
 (zJ (sIf (fT (f2 (fV 1) (fP (aC (fV 0) aN) wz) (zY .Lt))) (yq (f2 (fV 0) (fV 1) ixP)) sNx)
  (yq (fC (.int 0))))
def zK:Fn:=fnR 2 2 zce
abbrev zdJ:List Str:=["_law_cell","_law_many","_law_found","_law_number","_law_k"]
theorem Zh:FnScope zdJ ["_law_cell","_law_many"] (zy Xk):=⟨rfl,rfl,rfl,by decide +kernel,rfl,by decide +kernel,by decide +kernel⟩
def zde:SF:=
 (zJ (zU false 2 (xX dN))
  (zJ (zU true 3 (f2 (f2 (fV 0) (fC (.int 2147483647)) (zr .Mod)) (fC (.int 48271)) (zr .Add)))
  (zJ (zaX (vf (aC (f2 (fV 1) (fC (.int 1)) (zr .Add)) aN) vY) (gN 4) (zJ (zU true 3 (f2 (f2 (f2 (f2 (fV 3) (fV 3) (zr .Mult)) (f2 (fC (.int 48271)) (fV 3) (zr .Mult)) (zr .Add)) (fV 4) (zr .Add)) (fC (.int 2147483647)) (zr .Mod)))
  (yV (xY 2 (dC (f2 (f2 (f2 (fV 3) (fC (.int 40692)) (zr .Mult)) (f2 (fC (.int 7)) (fV 4) (zr .Mult)) (zr .Add)) (fC (.int 2147483399)) (zr .Mod)) dN) wZ))))
  (yq (fSl (fV 2) (oS (fC (.int 1))) oN slP)))))
def yt:Fn:=fnR 5 2 zde
abbrev zbN:List Str:=["_law_cell","_law_many","_law_letters","_law_xs","_law_base","_law_at","_law_found","_law_k"]
theorem vB:FnScope zbN ["_law_cell","_law_many"] (zy YZ):=⟨rfl,rfl,rfl,by decide +kernel,rfl,by decide +kernel,by decide +kernel⟩
theorem zfQ:(["_law_x","_law_letters"]:List Str).Nodup:=by decide +kernel
def zeS:SF:=
 (zJ (zU true 2 (fC (.str "abcdefghijklmnopqrstuvwxyz")))
  (zJ (zU true 3 (zA (aC (fV 0) (aC (fC (.int 9)) aN)) yt))
  (zJ (zU true 4 (yF .str (fC (.str "")) (aC (yC (Z6 (fSl (fV 3) oN (oS (f2 (fC (.int 1)) (f2 (fV 0) (fC (.int 8)) (zr .Mod)) (zr .Add))) slP)) [none,some 2] (gN 0) xf (f2 (fV 1) (f2 (fV 0) (fC (.int 26)) (zr .Mod)) ixP)) aN) wH))
  (zJ (zU true 5 (f2 (f2 (fV 0) (fC (.int 8)) (zr .FloorDiv)) (fP (aC (fV 4) aN) wz) (zr .Mod)))
  (zJ (zU false 6 (xX dN))
  (zJ (zaX (vf (aC (fV 1) aN) vY) (gN 7) (yV (xY 6 (dC (f2 (f2 (fSl (fV 4) oN (oS (fV 5)) slS) (f2 (fV 2) (f2 (f2 (f2 (fV 3) (fC (.int 8)) ixP) (f2 (fC (.int 3)) (fV 7) (zr .Mult)) (zr .Add)) (fC (.int 26)) (zr .Mod)) ixP) (zr .Add)) (fSl (fV 4) (oS (f2 (fV 5) (fC (.int 1)) (zr .Add))) oN slS) (zr .Add)) dN) wZ)))
  (yq (fV 6))))))))
def ZF:Fn:=fnR 8 2 zeS
abbrev Yy:List Str:=["_law_rows"]
theorem zdw:FnScope Yy ["_law_rows"] (zy vd):=⟨rfl,rfl,rfl,by decide +kernel,rfl,by decide +kernel,by decide +kernel⟩
theorem zcc:(["_law_row"]:List Str).Nodup:=by decide +kernel
theorem zcb:(["_law_value"]:List Str).Nodup:=by decide +kernel
def Vr:SF:=
 (yq (yF .str (fC (.str ", ")) (aC (yC (Z6 (fV 0)) [none] (gN 0) xf (yF .str (fC (.str " ")) (aC (yC (Z6 (fV 0)) [none] (gN 0) xf (fP (aC (fV 0) aN) vQ)) aN) wH)) aN) wH))
def yz:Fn:=fnR 1 1 Vr
abbrev zbt:List Str:=["_law_algebra","_law_n","_law_m","_law_join","_law_nothing","_law_deeds_here","_law_signs","_law_lines_here","_law_name","_law_rows","_law_values"]
theorem yX:FnScope zbt ["_law_algebra"] (zy Y6):=⟨rfl,rfl,rfl,by decide +kernel,rfl,by decide +kernel,by decide +kernel⟩
theorem zgE:(["_law_value"]:List Str).Nodup:=by decide +kernel
def zfq:SF:=
 (zJ (zkD (fV 0) (gT 6 (gsC (gN 1) (gsC (gN 2) (gsC (gN 3) (gsC (gN 4) (gsC (gN 5) (gsC (gN 6) gsN))))))))
  (zJ (zU false 7 (xX (dC (f2 (f2 (f2 (fC (.str "values ")) (fP (aC (fV 1) aN) vQ) (zr .Add)) (fC (.str " around ")) (zr .Add)) (fP (aC (fV 2) aN) vQ) (zr .Add)) (dC (f2 (fC (.str "join rows ")) (zA (aC (fV 3) aN) yz) (zr .Add)) (dC (f2 (fC (.str "nothing ")) (fP (aC (fV 4) aN) vQ) (zr .Add)) dN)))))
  (zJ (zaX (zrU (fV 5)) (gT 2 (gsC (gN 8) (gsC (gN 9) gsN))) (yV (xY 7 (dC (f2 (f2 (f2 (fC (.str "deed ")) (fV 8) (zr .Add)) (fC (.str " rows ")) (zr .Add)) (zA (aC (fV 9) aN) yz) (zr .Add)) dN) wZ)))
  (zJ (zaX (zrU (fV 6)) (gT 2 (gsC (gN 8) (gsC (gN 10) gsN))) (yV (xY 7 (dC (yF .str (fC (.str " ")) (aC (f2 (xX (dC (f2 (fC (.str "sign ")) (fV 8) (zr .Add)) dN)) (yC (Z6 (fV 10)) [none] (gN 0) xf (fP (aC (fV 0) aN) vQ)) (zr .Add)) aN) wH) dN) wZ)))
  (yq (fV 7))))))
def vA:Fn:=fnR 11 1 zfq
abbrev zaC:List Str:=["_law_x","_law_n","_law_some"]
theorem Yt:FnScope zaC ["_law_x","_law_n"] (zy Zo):=⟨rfl,rfl,rfl,by decide +kernel,rfl,by decide +kernel,by decide +kernel⟩
def zay:SF:=
 (zJ (zU true 2 (xX (dC (fC (.str "add a b")) (dC (fC (.str "most a b")) (dC (fC (.str "least a b")) (dC (fC (.str "same b 0 a b")) (dC (fC (.str "same a 0 b a")) (dC (fC (.str "times a b")) (dC (fC (.str "take a b")) dN)))))))))
  (zJ (zU true 2 (f2 (fV 2) (xX (dC (fC (.str "a")) (dC (fC (.str "b")) (dC (f2 (f2 (fC (.str "add a times ")) (fP (aC (f2 (f2 (fV 0) (fC (.int 9)) (zr .FloorDiv)) (fC (.int 1000)) (zr .Mod)) aN) vQ) (zr .Add)) (fC (.str " b")) (zr .Add)) (dC (fC (.str "same a b add a 1 most a b")) dN))))) (zr .Add)))
  (yq (f2 (fV 2) (f2 (fV 0) (fP (aC (fV 2) aN) wz) (zr .Mod)) ixP))))
def wF:Fn:=fnR 3 2 zay
abbrev zaA:List Str:=["_law_x","_law_some"]
theorem Yp:FnScope zaA ["_law_x"] (zy Zq):=⟨rfl,rfl,rfl,by decide +kernel,rfl,by decide +kernel,by decide +kernel⟩
def zax:SF:=
 (zJ (zU true 1 (xX (dC (f2 (f2 (f2 (f2 (fC (.str "add times ")) (fP (aC (f2 (f2 (fV 0) (fC (.int 9)) (zr .FloorDiv)) (fC (.int 9)) (zr .Mod)) aN) vQ) (zr .Add)) (fC (.str " a times ")) (zr .Add)) (fP (aC (f2 (f2 (fV 0) (fC (.int 99)) (zr .FloorDiv)) (f2 (fC (.int 10)) (fC (.int 9)) (zr .Pow)) (zr .Mod)) aN) vQ) (zr .Add)) (fC (.str " c")) (zr .Add)) (dC (fC (.str "a")) (dC (fC (.str "add a c")) (dC (fC (.str "most a c")) dN))))))
  (zJ (zU true 1 (f2 (fV 1) (xX (dC (fC (.str "same c 1 add a 1 a")) (dC (fC (.str "least a 3")) (dC (fC (.str "times a a")) (dC (fC (.str "take c a")) (dC (fC (.str "same a 0 0 add a 0")) dN)))))) (zr .Add)))
  (yq (f2 (fV 1) (f2 (fV 0) (fP (aC (fV 1) aN) wz) (zr .Mod)) ixP))))
def xV:Fn:=fnR 2 1 zax
abbrev zcT:List Str:=["_law_cell","_law_many","_law_found","_law_k"]
theorem Zg:FnScope zcT ["_law_cell","_law_many"] (zy Xo):=⟨rfl,rfl,rfl,by decide +kernel,rfl,by decide +kernel,by decide +kernel⟩
def zdl:SF:=
 (zJ (sIf (fT (f2 (f2 (fV 0) (fC (.int 2)) (zr .Mod)) (fC (.int 0)) (zY .Eq))) (yq (zA (aC (f2 (fV 0) (fC (.int 2)) (zr .FloorDiv)) (aC (fV 1) aN)) yt)) sNx)
  (zJ (zU false 2 (xX dN))
  (zJ (zU true 0 (f2 (fV 0) (fC (.int 2)) (zr .FloorDiv)))
  (zJ (zaX (vf (aC (fV 1) aN) vY) (gN 3) (zJ (yV (xY 2 (dC (f2 (fV 0) (f2 (fC (.int 9)) (f2 (fC (.int 10)) (fC (.int 60)) (zr .Pow)) (zr .Mult)) (zr .Mod)) dN) wZ))
  (zU true 0 (f2 (fV 0) (f2 (fC (.int 9)) (f2 (fC (.int 10)) (fC (.int 60)) (zr .Pow)) (zr .Mult)) (zr .FloorDiv)))))
  (yq (fV 2))))))
def Z2:Fn:=fnR 4 2 zdl
abbrev zcO:List Str:=["_law_cell","_law_names_here","_law_xs","_law_done","_law_k","_law_kind","_law_other","_law_word","_law_four"]
theorem vm:FnScope zcO ["_law_cell","_law_names_here"] (zy XF):=⟨rfl,rfl,rfl,by decide +kernel,rfl,by decide +kernel,by decide +kernel⟩
theorem zhS:(["_law_j","_law_done"]:List Str).Nodup:=by decide +kernel
def zho:SF:=
 (zJ (zU true 2 (zA (aC (fV 0) (aC (fC (.int 48)) aN)) Z2))
  (zJ (zU false 3 (xX dN))
  (zJ (zaX (vf (aC (f2 (fC (.int 1)) (f2 (f2 (fV 0) (fC (.int 2)) (zr .FloorDiv)) (fC (.int 20)) (zr .Mod)) (zr .Add)) aN) vY) (gN 4) (zJ (zU true 5 (f2 (f2 (fV 2) (f2 (fC (.int 2)) (fV 4) (zr .Mult)) ixP) (fC (.int 9)) (zr .Mod)))
  (sIf (Yr (fT (f2 (fV 5) (fC (.int 3)) (zY .Lt))) (fT (f2 (fP (aC (fV 3) aN) wz) (fC (.int 2)) (zY .Lt)))) (yV (xY 3 (dC (f2 (xX (dC (fP (aC (f2 (f2 (f2 (fV 2) (f2 (f2 (fC (.int 2)) (fV 4) (zr .Mult)) (fC (.int 1)) (zr .Add)) ixP) (fC (.int 2)) (zr .FloorDiv)) (f2 (fC (.int 10)) (fC (.int 60)) (zr .Pow)) (zr .Mod)) aN) vQ) (dC (f2 (fV 1) (f2 (f2 (fV 2) (f2 (f2 (fC (.int 2)) (fV 4) (zr .Mult)) (fC (.int 1)) (zr .Add)) ixP) (fC (.int 2)) (zr .Mod)) ixP) dN))) (fP (aC (f2 (fV 5) (fC (.int 1)) (zY .NotEq)) aN) zcj) ixP) dN) wZ)) (sIf (Yr (fT (f2 (fV 5) (fC (.int 8)) (zY .Lt))) (fT (f2 (fP (aC (fV 3) aN) wz) (fC (.int 4)) (zY .Lt)))) (zJ (zU true 6 (xY 3 dN zhz))
  (zJ (zU true 7 (f2 (xX (dC (fC (.str "add")) (dC (fC (.str "take")) (dC (fC (.str "times")) (dC (fC (.str "most")) (dC (fC (.str "least")) dN)))))) (f2 (fV 5) (fC (.int 5)) (zr .Mod)) ixP))
  (yV (xY 3 (dC (f2 (f2 (f2 (f2 (fV 7) (fC (.str " ")) (zr .Add)) (xY 3 dN zhz) (zr .Add)) (fC (.str " ")) (zr .Add)) (fV 6) (zr .Add)) dN) wZ)))) (zJ (zU true 8 (zgb 3 4))
  (yV (xY 3 (dC (f2 (fC (.str "same ")) (yF .str (fC (.str " ")) (aC (fV 8) aN) wH) (zr .Add)) dN) wZ)))))))
  (yq (f2 (fV 3) (f2 (f2 (fV 2) (fC (.int 0)) ixP) (fP (aC (fV 3) aN) wz) (zr .Mod)) ixP)))))
def wQ:Fn:=fnR 9 2 zho
abbrev zgp:List Str:=["_law_words","_law_n","_law_numbers","_law_word","_law_number","_law_parts","_law_rest","_law_k","_law_part","_law_one","_law_other","_law_some"]
theorem xG:FnScope zgp ["_law_words","_law_n","_law_numbers"] (zy VJ):=⟨rfl,rfl,rfl,by decide +kernel,rfl,by decide +kernel,by decide +kernel⟩
def zgY(self:Fn):SF:=
 (zJ (zU true 3 (f2 (fV 0) (fC (.int 0)) ixP))
  (zJ (sIf (fT (f2 (fV 3) (Yg (dC (fC (.str "add")) (dC (fC (.str "take")) (dC (fC (.str "times")) (dC (fC (.str "most")) (dC (fC (.str "least")) (dC (fC (.str "same")) dN))))))) (zY .NotIn))) (zJ (zU true 4 (yF .dct (fV 2) (aC (fV 3) aN) getP'))
  (zJ (sIf (fT (f2 (fV 4) (fC .non) (zY .Is))) (zU true 4 (fP (aC (fV 3) aN) zcj)) sNx)
  (yq (Yg (dC (f2 (fV 4) (fV 1) (zr .Mod)) (dC (fSl (fV 0) (oS (fC (.int 1))) oN slP) dN)))))) sNx)
  (zJ (zU false 5 (xX dN))
  (zJ (zU true 6 (fSl (fV 0) (oS (fC (.int 1))) oN slP))
  (zJ (zaX (vf (aC (f2 (xX (dC (fC (.int 2)) (dC (fC (.int 4)) dN))) (fP (aC (f2 (fV 3) (fC (.str "same")) (zY .Eq)) aN) zcj) ixP) aN) vY) (gN 7) (zJ (zkD (zA (aC (fV 6) (aC (fV 1) (aC (fV 2) aN))) self) (gT 2 (gsC (gN 8) (gsC (gN 6) gsN))))
  (yV (xY 5 (dC (fV 8) dN) wZ))))
  (zJ (zU true 9 (f2 (fV 5) (fC (.int 0)) ixP))
  (zJ (zU true 10 (f2 (fV 5) (fC (.int 1)) ixP))
  (zJ (sIf (fT (f2 (fV 3) (fC (.str "same")) (zY .Eq))) (yq (Yg (dC (f2 (fV 5) (f2 (fC (.int 2)) (fP (aC (f2 (fV 9) (fV 10) (zY .NotEq)) aN) zcj) (zr .Add)) ixP) (dC (fV 6) dN)))) sNx)
  (zJ (zU true 11 (Ww [((fC (.str "add")),(f2 (fV 9) (fV 10) (zr .Add))),((fC (.str "take")),(f2 (fV 9) (fV 10) (zr .Sub))),((fC (.str "times")),(f2 (fV 9) (fV 10) (zr .Mult))),((fC (.str "most")),(fP (aC (fV 9) (aC (fV 10) aN)) ztp))]))
  (yq (Yg (dC (f2 (yF .dct (fV 11) (aC (fV 3) (aC (fP (aC (fV 9) (aC (fV 10) aN)) ztv) aN)) getP') (fV 1) (zr .Mod)) (dC (fV 6) dN)))))))))))))
def yQ:Nat->Fn
 |0=>λ_=>none
 |n+1=>fnR 12 3 (zgY (yQ n))
abbrev zeI:List Str:=["_law_text","_law_n","_law_numbers"]
theorem zkG:FnScope zeI ["_law_text","_law_n","_law_numbers"] (zy Wl):=⟨rfl,rfl,rfl,by decide +kernel,rfl,by decide +kernel,by decide +kernel⟩
def zfa:SF:=
 (yq (f2 (zA (aC (yF .str (fV 0) (aC (fC (.str " ")) aN) Za) (aC (fV 1) (aC (fV 2) aN))) (yQ 20)) (fC (.int 0)) ixP))
def xx:Fn:=fnR 3 3 zfa
abbrev zbr:List Str:=["_law_script","_law_n","_law_m","_law_names_here","_law_deeds_here","_law_lines_here","_law_k","_law_x","_law_term_here","_law_rows"]
theorem wI:FnScope zbr ["_law_script","_law_n","_law_m","_law_names_here"] (zy YW):=⟨rfl,rfl,rfl,by decide +kernel,rfl,by decide +kernel,by decide +kernel⟩
theorem zga:(["_law_c","_law_term_here","_law_n"]:List Str).Nodup:=by decide +kernel
theorem zhp:(["_law_a","_law_term_here","_law_n","_law_c"]:List Str).Nodup:=by decide +kernel
def zeK:SF:=
 (zJ (zU false 4 (xX dN))
  (zJ (zU false 5 (xX dN))
  (zJ (zaX (vf (aC (fP (aC (fV 3) aN) wz) aN) vY) (gN 6) (zJ (zU true 7 (f2 (zA (aC (zA (aC (fV 0) (aC (f2 (fC (.int 3)) (fV 6) (zr .Add)) aN)) zK) (aC (fC (.int 1)) aN)) yt) (fC (.int 0)) ixP))
  (zJ (zU true 8 (zA (aC (f2 (fV 7) (fC (.int 2)) (zr .FloorDiv)) aN) xV))
  (zJ (sIf (fT (f2 (f2 (f2 (fV 7) (fC (.int 2)) (zr .FloorDiv)) (fC (.int 2)) (zr .Mod)) (fC (.int 1)) (zY .Eq))) (zU true 8 (zA (aC (zA (aC (fV 0) (aC (f2 (fC (.int 3)) (fV 6) (zr .Add)) aN)) zK) (aC (xX (dC (fC (.str "a")) (dC (fC (.str "c")) dN))) aN)) wQ)) sNx)
  (zJ (zU true 9 (yC (vf (aC (fV 2) aN) vY) [none,some 8,some 1] (gN 0) xf (yC (vf (aC (fV 2) aN) vY) [none,some 1,some 2,some 0] (gN 0) xf (zA (aC (fV 1) (aC (fV 2) (aC (Ww [((fC (.str "a")),(fV 0)),((fC (.str "c")),(fV 3))]) aN))) xx))))
  (zJ (yV (xY 4 (dC (Yg (dC (f2 (fV 3) (fV 6) ixP) (dC (fV 9) dN))) dN) wZ))
  (yV (xY 5 (dC (f2 (f2 (f2 (fC (.str "deed ")) (f2 (fV 3) (fV 6) ixP) (zr .Add)) (fC (.str " ")) (zr .Add)) (f2 (xX (dC (fV 8) (dC (f2 (fC (.str "rows ")) (zA (aC (fV 9) aN) yz) (zr .Add)) dN))) (f2 (fV 7) (fC (.int 2)) (zr .Mod)) ixP) (zr .Add)) dN) wZ))))))))
  (yq (Yg (dC (fV 4) (dC (fV 5) dN)))))))
def ZL:Fn:=fnR 10 4 zeK
abbrev Wt:List Str:=["_law_script","_law_cell","_law_n","_law_m","_law_xs","_law_names_here","_law_term_here","_law_join","_law_deeds_here","_law_lines_here","_law_signs","_law_k","_law_algebra","_law_told"]
theorem yD:FnScope Wt ["_law_script"] (zy Zy):=⟨rfl,rfl,rfl,by decide +kernel,rfl,by decide +kernel,by decide +kernel⟩
theorem zgK:(["_law_a","_law_term_here","_law_n"]:List Str).Nodup:=by decide +kernel
theorem zhk:(["_law_b","_law_term_here","_law_n","_law_a"]:List Str).Nodup:=by decide +kernel
theorem zgg:(["_law_v","_law_xs","_law_k"]:List Str).Nodup:=by decide +kernel
def zeY:SF:=
 (zJ (zU true 1 (zA (aC (fV 0) (aC (fC (.int 0)) aN)) zK))
  (zJ (zU true 2 (f2 (fC (.int 1)) (f2 (fV 1) (fC (.int 8)) (zr .Mod)) (zr .Add)))
  (zJ (zU true 3 (f2 (fC (.int 1)) (f2 (f2 (fV 1) (fC (.int 8)) (zr .FloorDiv)) (fC (.int 6)) (zr .Mod)) (zr .Add)))
  (zJ (zU true 4 (zA (aC (f2 (fV 1) (fC (.int 48)) (zr .FloorDiv)) (aC (fC (.int 7)) aN)) yt))
  (zJ (zU true 5 (zA (aC (zA (aC (fV 0) (aC (fC (.int 1)) aN)) zK) (aC (fC (.int 10)) aN)) ZF))
  (zJ (zU true 6 (zA (aC (f2 (zA (aC (zA (aC (fV 0) (aC (fC (.int 2)) aN)) zK) (aC (fC (.int 1)) aN)) yt) (fC (.int 0)) ixP) (aC (fV 2) aN)) wF))
  (zJ (sIf (fT (f2 (f2 (zA (aC (fV 0) (aC (fC (.int 2)) aN)) zK) (fC (.int 4)) (zr .Mod)) (fC (.int 1)) (zY .Gt))) (zU true 6 (zA (aC (f2 (zA (aC (fV 0) (aC (fC (.int 2)) aN)) zK) (fC (.int 4)) (zr .FloorDiv)) (aC (xX (dC (fC (.str "a")) (dC (fC (.str "b")) dN))) aN)) wQ)) sNx)
  (zJ (zU true 7 (yC (vf (aC (fV 2) aN) vY) [none,some 6,some 2] (gN 0) xf (yC (vf (aC (fV 2) aN) vY) [none,some 1,some 2,some 0] (gN 0) xf (zA (aC (fV 1) (aC (fV 2) (aC (Ww [((fC (.str "a")),(fV 3)),((fC (.str "b")),(fV 0))]) aN))) xx))))
  (zJ (zkD (zA (aC (fV 0) (aC (fV 2) (aC (fV 3) (aC (fSl (fV 5) oN (oS (f2 (f2 (fV 4) (fC (.int 0)) ixP) (fC (.int 7)) (zr .Mod))) slP) aN)))) ZL) (gT 2 (gsC (gN 8) (gsC (gN 9) gsN))))
  (zJ (zU false 10 (xX dN))
  (zJ (zaX (vf (aC (f2 (f2 (fV 4) (fC (.int 1)) ixP) (fC (.int 5)) (zr .Mod)) aN) vY) (gN 11) (yV (xY 10 (dC (Yg (dC (f2 (fV 5) (f2 (fC (.int 6)) (fV 11) (zr .Add)) ixP) (dC (yC (vf (aC (fV 2) aN) vY) [none,some 4,some 11] (gN 0) (fT (f2 (f2 (f2 (f2 (fV 1) (f2 (fC (.int 2)) (fV 2) (zr .Add)) ixP) (f2 (xX (dC (fC (.int 1)) (dC (fC (.int 2)) (dC (fC (.int 4)) (dC (fC (.int 8)) (dC (fC (.int 16)) (dC (fC (.int 32)) (dC (fC (.int 64)) (dC (fC (.int 128)) dN))))))))) (fV 0) ixP) (zr .FloorDiv)) (fC (.int 2)) (zr .Mod)) (fC (.int 1)) (zY .Eq))) (fV 0)) dN))) dN) wZ)))
  (zJ (zU true 12 (Yg (dC (fV 2) (dC (fV 3) (dC (fV 7) (dC (f2 (f2 (fV 4) (fC (.int 6)) ixP) (fV 2) (zr .Mod)) (dC (fV 8) (dC (fV 10) dN))))))))
  (zJ (zU false 13 (zA (aC (fV 12) aN) vA))
  (zJ (sIf (fT (f2 (f2 (f2 (f2 (fV 4) (fC (.int 6)) ixP) (fC (.int 8)) (zr .FloorDiv)) (fC (.int 2)) (zr .Mod)) (fC (.int 0)) (zY .Eq))) (ziZ 13 (xC 1) (f2 (fC (.str "join ")) (fV 6) (zr .Add))) sNx)
  (yq (Yg (dC (fV 12) (dC (f2 (f2 (fSl (fV 13) oN (oS (fC (.int 3))) slP) (fV 9) (zr .Add)) (fSl (fV 13) (oS (f2 (fC (.int 3)) (fP (aC (fV 9) aN) wz) (zr .Add))) oN slP) (zr .Add)) dN))))))))))))))))))
def Xc:Fn:=fnR 14 1 zeY
abbrev zul:List Str:=["_law_script","_law_due","_law_lines_here","_law_found","_law_text"]
theorem zgD:FnScope zul ["_law_script"] (zy zoA):=⟨rfl,rfl,rfl,by decide +kernel,rfl,by decide +kernel,by decide +kernel⟩
def zuA:SF:=
 (zJ (zkD (zA (aC (fV 0) aN) Xc) (gT 2 (gsC (gN 1) (gsC (gN 2) gsN))))
  (zJ (zU true 3 (zA (aC (yF .str (fC (.str "\n")) (aC (fV 2) aN) wH) aN) yM))
  (zJ (sIf (Yr (Wo (fT (zmQ (fV 3) "tuple"))) (Yr (fT (f2 (fV 3) (fV 1) (zY .NotEq))) (fT (f2 (fP (aC (fV 3) aN) zlD) (fP (aC (fV 1) aN) zlD) (zY .NotEq))))) (yq (fC (.bl false))) sNx)
  (zJ (zU true 4 (zA (aC (fV 3) aN) vU))
  (zJ (sIf (fT (f2 (fV 4) (yF .str (fC (.str "\n")) (aC (zA (aC (fV 1) aN) vA) aN) wH) (zY .NotEq))) (yq (fC (.bl false))) sNx)
  (yq (zme (f2 (zA (aC (fV 4) aN) yM) (fV 1) (zY .Eq)) (f2 (zA (aC (yF .str (fC (.str "\n")) (aC (fV 2) aN) wH) aN) yM) (fV 1) (zY .Eq)))))))))
def zhw:Fn:=fnR 5 1 zuA
set_option genInjectivity false in
set_option genSizeOf false in
structure Adr where
 zgw:Addr
 zhi:FuncData
 WK:Addr
 WF:FuncData
 zgc:Addr
 zhm:FuncData
 zkn:Addr
 zjS:FuncData
 zeo:Addr
 zeg:FuncData
 zbg:Addr
 zby:FuncData
 zec:Addr
 zeh:FuncData
 zer:Addr
 zem:FuncData
 zai:Addr
 zae:FuncData
 znb:Addr
 zmz:FuncData
 W4:Addr
 WN:FuncData
 zdV:Addr
 zdU:FuncData
 zep:Addr
 zdZ:FuncData
 zaY:Addr
 zaM:FuncData
 zcu:Addr
 zcM:FuncData
 zaK:Addr
 zbz:FuncData
 zbM:Addr
 zbL:FuncData
 XH:Addr
 X5:FuncData
 WL:Addr
 WW:FuncData
 zcw:Addr
 zcF:FuncData
 zaP:Addr
 zaL:FuncData
 Yq:Addr
 YC:FuncData
 Z7:Addr
 ZS:FuncData
 Ye:Addr
 ZP:FuncData
 zab:Addr
 V9:FuncData
 zaV:Addr
 zbf:FuncData
 XR:Addr
 XS:FuncData
 zfT:Addr
 zgs:FuncData
 zbK:Addr
 zaG:FuncData
 zaI:Addr
 zbD:FuncData
 zef:Addr
 zeb:FuncData
 zdY:Addr
 zes:FuncData
 V7:Addr
 zaa:FuncData
 V4:Addr
 V3:FuncData
 XJ:Addr
 X3:FuncData
 WQ:Addr
 Wz:FuncData
 zeM:Addr
 zfj:FuncData
 zam:Addr
 VF:FuncData
 zbA:Addr
 zbv:FuncData
 Yu:Addr
 Yz:FuncData
 zbo:Addr
 zaU:FuncData
 Xg:Addr
 Xf:FuncData
 Xd:Addr
 Xh:FuncData
 VB:Addr
 V6:FuncData
 zcJ:Addr
 zcA:FuncData
 zcv:Addr
 zcG:FuncData
 zaZ:Addr
 zbE:FuncData
 zaQ:Addr
 zbC:FuncData
 zbq:Addr
 zba:FuncData
 zqu:Addr
 zqo:FuncData
structure Txt(K:zC)(kd:KD)(mg:Str->Option Value)(t:Adr):Prop where
 zmm:Fun K "is_let" "is_let" zcX t.zgw t.zhi
 zrt:Binds K t.zhi ["thing","names"] []
 Vm:mg "is_let"=some (.ref t.zgw)
 YL:Fun K "parts_after" "parts_after" YQ t.WK t.WF
 WR:Binds K t.WF ["word"] []
 yd:mg "parts_after"=some (.ref t.WK)
 zld:Fun K "of_two" "of_two" zdt t.zgc t.zhm
 zrd:Binds K t.zhm ["word","one","other"] []
 zbm:mg "of_two"=some (.ref t.zgc)
 zbR:Fun K "worth" "worth" zfM t.zkn t.zjS
 zcZ:Binds K t.zjS ["term","n","numbers"] []
 Zn:mg "worth"=some (.ref t.zkn)
 zit:Fun K "is_name" "is_name" Vv t.zeo t.zeg
 zpg:Binds K t.zeg ["thing"] []
 Vk:mg "is_name"=some (.ref t.zeo)
 zfh:Fun K "is_rising" "is_rising" Y7 t.zbg t.zby
 zlE:Binds K t.zby ["row"] []
 Y9:mg "is_rising"=some (.ref t.zbg)
 ziv:Fun K "join_by" "join_by" Vn t.zec t.zeh
 zpE:Binds K t.zeh ["n","term"] []
 Vp:mg "join_by"=some (.ref t.zec)
 zii:Fun K "rows_by" "rows_by" Va t.zer t.zem
 zoW:Binds K t.zem ["n","m","term"] []
 Vg:mg "rows_by"=some (.ref t.zer)
 Xn:Fun K "is_figures" "is_figures" ZQ t.zai t.zae
 zag:Binds K t.zae ["word","most"] []
 xq:mg "is_figures"=some (.ref t.zai)
 zpJ:Fun K "fits" "fits" zkx t.znb t.zmz
 zwf:Binds K t.zmz ["word","within","names"] []
 WP:mg "fits"=some (.ref t.znb)
 zcl:Fun K "first_fault" "first_fault" YM t.W4 t.WN
 zhW:Binds K t.WN ["words","names"] []
 Zi:mg "first_fault"=some (.ref t.W4)
 zig:Fun K "leaf_of" "leaf_of" zbS t.zdV t.zdU
 zpl:Binds K t.zdU ["word"] []
 ZG:mg "leaf_of"=some (.ref t.zdV)
 ziF:Fun K "term_of" "term_of" zbX t.zep t.zdZ
 zpk:Binds K t.zdZ ["words"] []
 Vu:mg "term_of"=some (.ref t.zep)
 zeF:Fun K "read_term" "read_term" Wd t.zaY t.zaM
 zml:Binds K t.zaM ["text","names"] []
 YX:mg "read_term"=some (.ref t.zaY)
 zgo:Fun K "show_row" "show_row" X8 t.zcu t.zcM
 znn:Binds K t.zcM ["row"] []
 X7:mg "show_row"=some (.ref t.zcu)
 zaH:Fun K "show_rows" "show_rows" Xb t.zaK t.zbz
 zff:Binds K t.zbz ["rows"] []
 vh:mg "show_rows"=some (.ref t.zaK)
 zeH:Fun K "show_sign" "show_sign" Y0 t.zbM t.zbL
 zlN:Binds K t.zbL ["name","values"] []
 ZJ:mg "show_sign"=some (.ref t.zbM)
 zbl:Fun K "show_algebra" "show_algebra" wY t.XH t.X5
 zgO:Binds K t.X5 ["algebra"] []
 vU:mg "show_algebra"=some (.ref t.XH)
 Zf:Fun K "read_number" "read_number" YG t.WL t.WW
 YF:Binds K t.WW ["word","least","most"] []
 yU:mg "read_number"=some (.ref t.WL)
 zcB:Fun K "read_row" "read_row" X4 t.zcw t.zcF
 zhd:Binds K t.zcF ["words","n"] []
 vP:mg "read_row"=some (.ref t.zcw)
 zbJ:Fun K "read_rows" "read_rows" ZC t.zaP t.zaL
 zfk:Binds K t.zaL ["text","many","n"] []
 vR:mg "read_rows"=some (.ref t.zaP)
 Yw:Fun K "read_some_term" "read_some_term" vZ t.Yq t.YC
 Vq:Binds K t.YC ["text","names"] []
 xN:mg "read_some_term"=some (.ref t.Yq)
 Wv:Fun K "read_join_table" "read_join_table" vK t.Z7 t.ZS
 zdk:Binds K t.ZS ["text","n"] []
 wL:mg "read_join_table"=some (.ref t.Z7)
 Wa:Fun K "read_deed_table" "read_deed_table" vJ t.Ye t.ZP
 zdL:Binds K t.ZP ["text","n","m"] []
 wJ:mg "read_deed_table"=some (.ref t.Ye)
 zda:Fun K "read_sizes" "read_sizes" Xq t.zab t.V9
 zjE:Binds K t.V9 ["line"] []
 Z8:mg "read_sizes"=some (.ref t.zab)
 zeP:Fun K "read_join" "read_join" Wc t.zaV t.zbf
 zlR:Binds K t.zbf ["line","n"] []
 Y4:mg "read_join"=some (.ref t.zaV)
 zbp:Fun K "read_nothing" "read_nothing" Z0 t.XR t.XS
 zgT:Binds K t.XS ["line","n"] []
 vV:mg "read_nothing"=some (.ref t.XR)
 zhq:Fun K "is_new" "is_new" zbh t.zfT t.zgs
 zlq:Binds K t.zgs ["name","told"] []
 vC:mg "is_new"=some (.ref t.zfT)
 zeD:Fun K "read_deed" "read_deed" Wu t.zbK t.zaG
 zlC:Binds K t.zaG ["line","n","m","told"] []
 vp:mg "read_deed"=some (.ref t.zbK)
 zeN:Fun K "read_sign" "read_sign" Wx t.zaI t.zbD
 zkS:Binds K t.zbD ["line","n","told"] []
 vq:mg "read_sign"=some (.ref t.zaI)
 zdX:Fun K "line_at" "line_at" zbW t.zef t.zeb
 zid:Binds K t.zeb ["lines","at"] []
 Yx:mg "line_at"=some (.ref t.zef)
 Xr:Fun K "as_told" "as_told" zbU t.zdY t.zes
 Vo:Binds K t.zes ["thing","at"] []
 xO:mg "as_told"=some (.ref t.zdY)
 zdK:Fun K "read_deeds" "read_deeds" Xj t.V7 t.zaa
 zjO:Binds K t.zaa ["lines","n","m"] []
 Z5:mg "read_deeds"=some (.ref t.V7)
 zdh:Fun K "read_signs" "read_signs" Xm t.V4 t.V3
 zjs:Binds K t.V3 ["lines","start","n"] []
 Yb:mg "read_signs"=some (.ref t.V4)
 ZV:Fun K "read_algebra" "read_algebra" ZR t.XJ t.X3
 Xz:Binds K t.X3 ["text"] []
 yM:mg "read_algebra"=some (.ref t.XJ)
 wj:Fun K "_law_cell_at" "_law_cell_at" YS t.WQ t.Wz
 wV:Binds K t.Wz ["_law_script","_law_k"] []
 zK:mg "_law_cell_at"=some (.ref t.WQ)
 zua:Fun K "_law_whole" "_law_whole" zbi t.zeM t.zfj
 zuc:Binds K t.zfj ["_law_found"] []
 ztX:mg "_law_whole"=some (.ref t.zeM)
 v4:Fun K "_law_stream" "_law_stream" Xk t.zam t.VF
 ZW:Binds K t.VF ["_law_cell","_law_many"] []
 yt:mg "_law_stream"=some (.ref t.zam)
 zeJ:Fun K "_law_names" "_law_names" YZ t.zbA t.zbv
 zlf:Binds K t.zbv ["_law_cell","_law_many"] []
 ZF:mg "_law_names"=some (.ref t.zbA)
 vX:Fun K "_law_shown_rows" "_law_shown_rows" vd t.Yu t.Yz
 Yk:Binds K t.Yz ["_law_rows"] []
 yz:mg "_law_shown_rows"=some (.ref t.Yu)
 zbG:Fun K "_law_lines" "_law_lines" Y6 t.zbo t.zaU
 zfb:Binds K t.zaU ["_law_algebra"] []
 vA:mg "_law_lines"=some (.ref t.zbo)
 zaw:Fun K "_law_join_term" "_law_join_term" Zo t.Xg t.Xf
 zfr:Binds K t.Xf ["_law_x","_law_n"] []
 wF:mg "_law_join_term"=some (.ref t.Xg)
 zav:Fun K "_law_deed_term" "_law_deed_term" Zq t.Xd t.Xh
 zfA:Binds K t.Xh ["_law_x"] []
 xV:mg "_law_deed_term"=some (.ref t.Xd)
 zdp:Fun K "_law_digits" "_law_digits" Xo t.VB t.V6
 zkq:Binds K t.V6 ["_law_cell","_law_many"] []
 Z2:mg "_law_digits"=some (.ref t.VB)
 zcz:Fun K "_law_term" "_law_term" XF t.zcJ t.zcA
 zhj:Binds K t.zcA ["_law_cell","_law_names_here"] []
 wQ:mg "_law_term"=some (.ref t.zcJ)
 zcN:Fun K "_law_pair" "_law_pair" VJ t.zcv t.zcG
 zhr:Binds K t.zcG ["_law_words","_law_n","_law_numbers"] []
 yQ:mg "_law_pair"=some (.ref t.zcv)
 zaO:Fun K "_law_worth" "_law_worth" Wl t.zaZ t.zbE
 zeA:Binds K t.zbE ["_law_text","_law_n","_law_numbers"] []
 xx:mg "_law_worth"=some (.ref t.zaZ)
 zfd:Fun K "_law_deeds" "_law_deeds" YW t.zaQ t.zbC
 zmp:Binds K t.zbC ["_law_script","_law_n","_law_m","_law_names_here"] []
 ZL:mg "_law_deeds"=some (.ref t.zaQ)
 zeW:Fun K "_law_drawn" "_law_drawn" Zy t.zbq t.zba
 zlU:Binds K t.zba ["_law_script"] []
 Xc:mg "_law_drawn"=some (.ref t.zbq)
 zwC:Fun K "law" "law" zoA t.zqu t.zqo
 zyt:Binds K t.zqo ["_law_script"] []
 zhw:mg "law"=some (.ref t.zqu)
 zpw:GC K kd mg "FIGURES" (.str "0123456789")
 zoR:GC K kd mg "LETTERS" (.tup [(.str "a"),(.str "b"),(.str "c")])
 zhU:GC K kd mg "MOST_AROUND" (.int 6)
 zjq:GC K kd mg "MOST_DEEDS" (.int 6)
 XM:GC K kd mg "MOST_FIGURES" (.int 60)
 zgy:GC K kd mg "MOST_LETTERS" (.int 8)
 zjW:GC K kd mg "MOST_SIGNS" (.int 4)
 zkJ:GC K kd mg "MOST_TERMS" (.int 40)
 zhL:GC K kd mg "MOST_VALUES" (.int 8)
 zhX:GC K kd mg "MOST_WITHIN" (.int 12)
 zsX:GC K kd mg "PARTS" (.dct [(.inr "add",(.int 2)),(.inr "take",(.int 2)),(.inr "times",(.int 2)),(.inr "most",(.int 2)),(.inr "least",(.int 2)),(.inr "same",(.int 4))])
 zfx:GC K kd mg "SMALL_LETTERS" (.str "abcdefghijklmnopqrstuvwxyz")
 znV:mg "all"=none
 zxF:mg "bool"=none
 zkY:mg "enumerate"=none
 ziu:mg "int"=none
 VN:mg "isinstance"=none
 wO:mg "len"=none
 zuB:mg "max"=none
 zuu:mg "min"=none
 xU:mg "range"=none
 zpL:mg "repr"=none
 zmB:mg "reversed"=none
 Xi:mg "str"=none
 zoo:mg "tuple"=none
set_option maxHeartbeats 8000000
section
variable{P:Program}{w:World}{K:zC}{mg:Str->Option Value}{base:Heap}{kd:KD}{t:Adr}
theorem zqt(T:Txt K kd mg t)(hkd:KD1 P w K kd):FnOk P w K mg base CX0 1 t.zgw t.zhi ["thing","names"] (spD K kd Vm):=by
 refine yK (N:=zlA) (ps:=["thing","names"]) (k:=0) (c:=zlx) T.zmm zoD λcdv A outer s H E hr=>?_;exact(zx (zL (zhG (znm (hkd _ rfl rfl rfl) rfl rfl T.VN Bt.isinstance rfl T.Xi Bt.str (av 0) (Bt.n _ rfl) (by decide) (Bt.n _ rfl) (by decide) rfl rfl rfl) (zhG (Z3 (zN (hkd _ rfl rfl rfl) (yc hr) .In) (av 0) (Z9 T.zoR rfl (by decide)) rfl) (zhE (Z3 (zN (hkd _ rfl rfl rfl) (yc hr) .In) (av 0) (av 1) rfl))))))
theorem W9(T:Txt K kd mg t)(hkd:KD1 P w K kd):FnOk P w K mg base CX0 1 t.WK t.WF ["word"] (spD K kd yd):=by
 refine yK (N:=zct) (ps:=["word"]) (k:=0) (c:=zcn) T.YL zgh λcdv A outer s H E hr=>?_;exact(zx (zL (yL (ty:=.dct) (hkd _ rfl rfl rfl) (znr (hkd _ rfl rfl rfl)) PySem.F.plainAttrs_dict PySem.F.slot_dict_get PySem.F.type_dict_get (Z9 T.zsX rfl (by decide)) (zb (av 0) (zb aI zj (za rfl)) (za rfl)) rfl rfl rfl rfl rfl)))
theorem zqh(T:Txt K kd mg t)(hkd:KD1 P w K kd):FnOk P w K mg base CX0 1 t.zgc t.zhm ["word","one","other"] (spD K kd zbm):=by
 refine yK (N:=zly) (ps:=["word","one","other"]) (k:=0) (c:=zln) T.zld zpi λcdv A outer s H E hr=>?_;exact(by
  refine zg ?_ ?_;exact(xF (zW (zN (hkd _ rfl rfl rfl) (yc hr) .Eq) (zM .Eq) (av 0) aS (zQ _)) (zx (zL (zq (zp .Add) (av 1) (av 2)))) yo);refine zg ?_ ?_;exact(xF (zW (zN (hkd _ rfl rfl rfl) (yc hr) .Eq) (zM .Eq) (av 0) aS (zQ _)) (zx (zL (zq (zp .Sub) (av 1) (av 2)))) yo);refine zg ?_ ?_;exact(xF (zW (zN (hkd _ rfl rfl rfl) (yc hr) .Eq) (zM .Eq) (av 0) aS (zQ _)) (zx (zL (zq (zp .Mult) (av 1) (av 2)))) yo);refine zg ?_ ?_;exact(xF (zW (zN (hkd _ rfl rfl rfl) (yc hr) .Eq) (zM .Eq) (av 0) aS (zQ _)) (zx (zL (yE (zja rfl) rfl T.zuB Bt.max (zb (av 1) (zb (av 2) zj (za rfl)) (za rfl)) (Bt.n _ rfl) (by decide) rfl rfl))) yo);exact zx (zL (yE (ziM rfl) rfl T.zuu Bt.min (zb (av 1) (zb (av 2) zj (za rfl)) (za rfl)) (Bt.n _ rfl) (by decide) rfl rfl)))
theorem zkk(T:Txt K kd mg t)(hkd:KD1 P w K kd):∀n:Nat,FnOk P w K mg base CX0 (1+n) t.zkn t.zjS ["term","n","numbers"] (spD K kd (Zn n))
 |0=>zol
 |n+1=>by
  have G:=zkk T hkd n;refine yK (N:=znN) (ps:=["term","n","numbers"]) (k:=1+n) (c:=zoe (Zn n)) T.zbR zbI λcdv A outer s H E hr=>?_;exact(by
  refine zg ?_ ?_;exact(by refine sv true 3 zbI.nd ?_;exact(ax hkd (av 0) aI));refine zg ?_ ?_;exact(xF (zW (zN (hkd _ rfl rfl rfl) (yc hr) .Eq) (zM .Eq) (av 3) aS (zQ _)) (zx (zL (zq (zp .Mod) (ax hkd (av 0) aI) (av 1)))) yo);refine zg ?_ ?_;exact(xF (zW (zN (hkd _ rfl rfl rfl) (yc hr) .Eq) (zM .Eq) (av 3) aS (zQ _)) (zx (zL (zq (zp .Mod) (ax hkd (av 2) (ax hkd (av 0) aI)) (av 1)))) yo);refine zg ?_ ?_;exact(by refine sv true 4 zbI.nd ?_;exact(zE G (hr.mono (by omega)) rfl T.Zn T.zbR.kp T.zcZ zT (by refine zb ?_ ?_ ?_;exact(ax hkd (av 0) aI);refine zb ?_ ?_ ?_;exact(av 1);refine zb ?_ ?_ ?_;exact(av 2);exact zj;exact za rfl;exact za rfl;exact za rfl) (by decide) rfl rfl));refine zg ?_ ?_;exact(by refine sv true 5 zbI.nd ?_;exact(zE G (hr.mono (by omega)) rfl T.Zn T.zbR.kp T.zcZ zT (by refine zb ?_ ?_ ?_;exact(ax hkd (av 0) aI);refine zb ?_ ?_ ?_;exact(av 1);refine zb ?_ ?_ ?_;exact(av 2);exact zj;exact za rfl;exact za rfl;exact za rfl) (by decide) rfl rfl));refine zg ?_ ?_;exact(xF (zW (zN (hkd _ rfl rfl rfl) (yc hr) .Eq) (zM .Eq) (av 3) aS (zQ _)) (by
  refine zg ?_ ?_;exact(by refine sv true 6 zbI.nd ?_;exact(zbF (zW (zN (hkd _ rfl rfl rfl) (yc hr) .Eq) (zM .Eq) (av 4) (av 5) (zQ _)) (ax hkd (av 0) aI) (ax hkd (av 0) aI)));exact zx (zL (zE G (hr.mono (by omega)) rfl T.Zn T.zbR.kp T.zcZ zT (by refine zb ?_ ?_ ?_;exact(av 6);refine zb ?_ ?_ ?_;exact(av 1);refine zb ?_ ?_ ?_;exact(av 2);exact zj;exact za rfl;exact za rfl;exact za rfl) (by decide) rfl rfl))) yo)
  exact zx (zL (zq (zp .Mod) (zE (zqh T hkd) (hr.mono (by omega)) rfl T.zbm T.zld.kp T.zrd zT (by refine zb ?_ ?_ ?_;exact(av 3);refine zb ?_ ?_ ?_;exact(av 4);refine zb ?_ ?_ ?_;exact(av 5);exact zj;exact za rfl;exact za rfl;exact za rfl) (by decide) rfl rfl) (av 1))))
theorem zpa(T:Txt K kd mg t)(hkd:KD1 P w K kd):FnOk P w K mg base CX0 1 t.zeo t.zeg ["thing"] (spD K kd Vk):=by
 refine yK (N:=zdP) (ps:=["thing"]) (k:=0) (c:=ziX) T.zit zmV λcdv A outer s H E hr=>?_;exact(by
  refine zg ?_ ?_;exact(xF (AW.at_ (ZZ (Vz (Wy (znm (hkd _ rfl rfl rfl) rfl rfl T.VN Bt.isinstance rfl T.Xi Bt.str (av 0) (Bt.n _ rfl) (by decide) (Bt.n _ rfl) (by decide) rfl rfl rfl) (λ_=>rfl))) (ZZ (zW (zN (hkd _ rfl rfl rfl) (yc hr) .Lt) (zM .Lt) (yE (yj (hkd _ rfl rfl rfl)) rfl T.wO Bt.len (zb (av 0) zj (za rfl)) (Bt.n _ rfl) (by decide) rfl rfl) aI (zQ _)) (wk (zW (zN (hkd _ rfl rfl rfl) (yc hr) .Gt) (zM .Gt) (yE (yj (hkd _ rfl rfl rfl)) rfl T.wO Bt.len (zb (av 0) zj (za rfl)) (Bt.n _ rfl) (by decide) rfl rfl) (Z9 T.zgy rfl (by decide)) (zQ _)))))) (zx (zL aB)) yo);exact zx (zL (yE (zbV rfl) rfl T.znV Bt.all (zb (xQ (N:=["letter"]) (cap:=[none]) (S:=[0]) rfl (zrk (av 0)) rfl (by change wW _ zdP _ (zy Vv).names _=true;decide +kernel) (by decide) (λcl s H fp=>(an 0 zjT)) (λcl s H fp=>xj) (λcl s H fp=>(Z3 (zN (hkd _ rfl rfl rfl) (yc hr) .In) (av 0) (Z9 T.zfx rfl (by decide)) rfl)) (λ_=>rfl)) zj (za rfl)) (Bt.n _ rfl) (by decide) rfl rfl)))
theorem zlG(T:Txt K kd mg t)(hkd:KD1 P w K kd):FnOk P w K mg base CX0 1 t.zbg t.zby ["row"] (spD K kd Y9):=by
 refine yK (N:=zbB) (ps:=["row"]) (k:=0) (c:=zeE) T.zfh zjK λcdv A outer s H E hr=>?_;exact(zx (zL (yE (zbV rfl) rfl T.znV Bt.all (zb (xQ (N:=["k","row"]) (cap:=[none,some 0]) (S:=[0]) rfl (vG rfl T.xU (zb (zq (zp .Sub) (yE (yj (hkd _ rfl rfl rfl)) rfl T.wO Bt.len (zb (av 0) zj (za rfl)) (Bt.n _ rfl) (by decide) rfl rfl) aI) zj (za rfl)) rfl) rfl (by change wW _ zbB _ (zy Y7).names _=true;decide +kernel) (by decide) (λcl s H fp=>(an 0 zgU)) (λcl s H fp=>xj) (λcl s H fp=>(Z3 (zN (hkd _ rfl rfl rfl) (yc hr) .Lt) (ax hkd (av 1) (av 0)) (ax hkd (av 1) (zq (zp .Add) (av 0) aI)) (zQ _))) (λ_=>rfl)) zj (za rfl)) (Bt.n _ rfl) (by decide) rfl rfl)))
theorem zoE(T:Txt K kd mg t)(hkd:KD1 P w K kd):FnOk P w K mg base CX0 22 t.zec t.zeh ["n","term"] (spD K kd Vp):=by
 refine yK (N:=zea) (ps:=["n","term"]) (k:=21) (c:=zjh) T.ziv zmt λcdv A outer s H E hr=>?_;exact(zx (zL (xQ (N:=["a","term","n"]) (cap:=[none,some 1,some 0]) (S:=[0]) rfl (vG rfl T.xU (zb (av 0) zj (za rfl)) rfl) rfl (by change wW _ zea _ (zy Vn).names _=true;decide +kernel) (by decide) (λcl s H fp=>(an 0 zkh)) (λcl s H fp=>xj) (λcl s H fp=>(xQ (N:=["b","term","n","a"]) (cap:=[none,some 1,some 2,some 0]) (S:=[0]) rfl (vG rfl T.xU (zb (av 2) zj (za rfl)) rfl) rfl (by with_unfolding_all rfl) (by decide) (λcl s H fp=>(an 0 zkt)) (λcl s H fp=>xj) (λcl s H fp=>(zE (zkk T hkd 20) (hr.mono (by omega)) rfl T.Zn T.zbR.kp T.zcZ zT (by refine zb ?_ ?_ ?_;exact(av 1);refine zb ?_ ?_ ?_;exact(av 2);refine zb ?_ ?_ ?_;exact(zdI (fs:=[((fC (.str "a")),(fV 3)),((fC (.str "b")),(fV 0))]) (wD aS (av 3) (wD aS (av 0) zdr)) rfl rfl (by simp) (by decide));exact zj;exact za rfl;exact za rfl;exact za rfl) (by decide) rfl rfl)) (λ_=>rfl))) (λ_=>rfl))))
theorem zpB(T:Txt K kd mg t)(hkd:KD1 P w K kd):FnOk P w K mg base CX0 22 t.zer t.zem ["n","m","term"] (spD K kd Vg):=by
 refine yK (N:=zdO) (ps:=["n","m","term"]) (k:=21) (c:=ziV) T.zii zng λcdv A outer s H E hr=>?_;exact(zx (zL (xQ (N:=["c","term","n"]) (cap:=[none,some 2,some 0]) (S:=[0]) rfl (vG rfl T.xU (zb (av 1) zj (za rfl)) rfl) rfl (by change wW _ zdO _ (zy Va).names _=true;decide +kernel) (by decide) (λcl s H fp=>(an 0 zjN)) (λcl s H fp=>xj) (λcl s H fp=>(xQ (N:=["a","term","n","c"]) (cap:=[none,some 1,some 2,some 0]) (S:=[0]) rfl (vG rfl T.xU (zb (av 2) zj (za rfl)) rfl) rfl (by with_unfolding_all rfl) (by decide) (λcl s H fp=>(an 0 zjp)) (λcl s H fp=>xj) (λcl s H fp=>(zE (zkk T hkd 20) (hr.mono (by omega)) rfl T.Zn T.zbR.kp T.zcZ zT (by refine zb ?_ ?_ ?_;exact(av 1);refine zb ?_ ?_ ?_;exact(av 2);refine zb ?_ ?_ ?_;exact(zdI (fs:=[((fC (.str "a")),(fV 0)),((fC (.str "c")),(fV 3))]) (wD aS (av 0) (wD aS (av 3) zdr)) rfl rfl (by simp) (by decide));exact zj;exact za rfl;exact za rfl;exact za rfl) (by decide) rfl rfl)) (λ_=>rfl))) (λ_=>rfl))))
theorem VP(T:Txt K kd mg t)(hkd:KD1 P w K kd):FnOk P w K mg base CX0 1 t.zai t.zae ["word","most"] (spD K kd xq):=by
 refine yK (N:=zao) (ps:=["word","most"]) (k:=0) (c:=zdm) T.Xn zhK λcdv A outer s H E hr=>?_;exact(by
  refine zg ?_ ?_;exact(xF (AW.at_ (ZZ (zW (zN (hkd _ rfl rfl rfl) (yc hr) .Eq) (zM .Eq) (av 0) aS (zQ _)) (wk (zW (zN (hkd _ rfl rfl rfl) (yc hr) .Gt) (zM .Gt) (yE (yj (hkd _ rfl rfl rfl)) rfl T.wO Bt.len (zb (av 0) zj (za rfl)) (Bt.n _ rfl) (by decide) rfl rfl) (av 1) (zQ _))))) (zx (zL aB)) yo);refine zg ?_ ?_;exact(xF (AW.at_ (zuD (zW (zN (hkd _ rfl rfl rfl) (yc hr) .Eq) (zM .Eq) (ax hkd (av 0) aI) aS (zQ _)) (znc (zW (zN (hkd _ rfl rfl rfl) (yc hr) .NotEq) (zM .NotEq) (av 0) aS (zQ _))))) (zx (zL aB)) yo);exact zx (zL (yE (zbV rfl) rfl T.znV Bt.all (zb (xQ (N:=["sign"]) (cap:=[none]) (S:=[0]) rfl (zrk (av 0)) rfl (by change wW _ zao _ (zy ZQ).names _=true;decide +kernel) (by decide) (λcl s H fp=>(an 0 zfw)) (λcl s H fp=>xj) (λcl s H fp=>(Z3 (zN (hkd _ rfl rfl rfl) (yc hr) .In) (av 0) (Z9 T.zpw rfl (by decide)) rfl)) (λ_=>rfl)) zj (za rfl)) (Bt.n _ rfl) (by decide) rfl rfl)))
theorem zva(T:Txt K kd mg t)(hkd:KD1 P w K kd):FnOk P w K mg base CX0 2 t.znb t.zmz ["word","within","names"] (spD K kd WP):=by
 refine yK (N:=zqS) (ps:=["word","within","names"]) (k:=1) (c:=zpT) T.zpJ zsZ λcdv A outer s H E hr=>?_;exact(by
  refine zg ?_ ?_;exact(xF (zW (zN (hkd _ rfl rfl rfl) (yc hr) .Gt) (zM .Gt) (zE (W9 T hkd) (hr.mono (by omega)) rfl T.yd T.YL.kp T.WR zT (zb (av 0) zj (za rfl)) (by decide) rfl rfl) aI (zQ _)) (zx (zL (Z3 (zN (hkd _ rfl rfl rfl) (yc hr) .Lt) (av 1) (Z9 T.zhX rfl (by decide)) (zQ _)))) yo);exact zx (zL (zwT (zE (VP T hkd) (hr.mono (by omega)) rfl T.xq T.Xn.kp T.zag zT (zb (av 0) (zb (Z9 T.XM rfl (by decide)) zj (za rfl)) (za rfl)) (by decide) rfl rfl) (zhE (zE (zqt T hkd) (hr.mono (by omega)) rfl T.Vm T.zmm.kp T.zrt zT (zb (av 0) (zb (av 2) zj (za rfl)) (za rfl)) (by decide) rfl rfl)))))
theorem zhN(T:Txt K kd mg t)(hkd:KD1 P w K kd):FnOk P w K mg base CX0 3 t.W4 t.WN ["words","names"] (spD K kd Zi):=by
 refine yK (N:=zcr) (ps:=["words","names"]) (k:=2) (c:=zcf) T.zcl vO λcdv A outer s H E hr=>?_;exact(by
  refine zg ?_ ?_;exact(by refine sv true 2 vO.nd ?_;exact(yR (zm aI zR (za rfl))));refine zg ?_ ?_;exact(YD PassesOwn.never rfl (ztN rfl T.zkY (av 0) rfl) (VG rfl (yO (an 3 vO.nd) (yO (an 4 vO.nd) Xp rfl) rfl) rfl rfl) (by
  refine zg ?_ ?_;exact(xF (AW.at_ (ZZ (zW (zN (hkd _ rfl rfl rfl) (yc hr) .Eq) (zM .Eq) (yE (yj (hkd _ rfl rfl rfl)) rfl T.wO Bt.len (zb (av 2) zj (za rfl)) (Bt.n _ rfl) (by decide) rfl rfl) aI (zQ _)) (wk (Vz (Wy (zE (zva T hkd) (hr.mono (by omega)) rfl T.WP T.zpJ.kp T.zwf zT (by refine zb ?_ ?_ ?_;exact(av 4);refine zb ?_ ?_ ?_;exact(ax hkd (av 2) aI);refine zb ?_ ?_ ?_;exact(av 1);exact zj;exact za rfl;exact za rfl;exact za rfl) (by decide) rfl rfl) (λ_=>rfl)))))) (zx (zL (av 3))) yo);refine zg ?_ ?_;exact(by refine sv true 2 vO.nd ?_;exact(zq (zp .Add) (zq (zp .Mult) (yR (zm (zq (zp .Add) (ax hkd (av 2) aI) aI) zR (za rfl))) (zE (W9 T hkd) (hr.mono (by omega)) rfl T.yd T.YL.kp T.WR zT (zb (av 4) zj (za rfl)) (by decide) rfl rfl)) (vN (av 2) (vW aI) v5)));exact zx (xF (zW (zN (hkd _ rfl rfl rfl) (yc hr) .Gt) (zM .Gt) (zq (zp .Add) (zq (zp .Add) (av 3) aI) (yE (yj (hkd _ rfl rfl rfl)) rfl T.wO Bt.len (zb (av 2) zj (za rfl)) (Bt.n _ rfl) (by decide) rfl rfl)) (Z9 T.zkJ rfl (by decide)) (zQ _)) (zx (zL (av 3))) yo)) (λ_=>rfl))
  exact zx (zL (zbF (zW (zN (hkd _ rfl rfl rfl) (yc hr) .Gt) (zM .Gt) (yE (yj (hkd _ rfl rfl rfl)) rfl T.wO Bt.len (zb (av 2) zj (za rfl)) (Bt.n _ rfl) (by decide) rfl rfl) aI (zQ _)) (yE (yj (hkd _ rfl rfl rfl)) rfl T.wO Bt.len (zb (av 0) zj (za rfl)) (Bt.n _ rfl) (by decide) rfl rfl) aZ)))
theorem zpb(T:Txt K kd mg t)(hkd:KD1 P w K kd):FnOk P w K mg base CX0 2 t.zdV t.zdU ["word"] (spD K kd ZG):=by
 refine yK (N:=ziy) (ps:=["word"]) (k:=1) (c:=ziL) T.zig zmT λcdv A outer s H E hr=>?_;exact(by
  refine zg ?_ ?_;exact(xF (Wy (zE (VP T hkd) (hr.mono (by omega)) rfl T.xq T.Xn.kp T.zag zT (zb (av 0) (zb (Z9 T.XM rfl (by decide)) zj (za rfl)) (za rfl)) (by decide) rfl rfl) (λ_=>rfl)) (zx (zL (Zt (zm aS (zm (wU Yl rfl T.ziu Bt.int (zb (av 0) zj (za rfl)) (Bt.n _ rfl) (by decide) rfl rfl) zR (za rfl)) (za rfl))))) yo);exact zx (zL (Zt (zm aS (zm (av 0) zR (za rfl)) (za rfl)))))
theorem zoF(T:Txt K kd mg t)(hkd:KD1 P w K kd):FnOk P w K mg base CX0 3 t.zep t.zdZ ["words"] (spD K kd Vu):=by
 refine yK (N:=zia) (ps:=["words"]) (k:=2) (c:=ziJ) T.ziF Yn λcdv A outer s H E hr=>?_;exact(by
  refine zg ?_ ?_;exact(by refine sv true 1 Yn.nd ?_;exact(yR zR));refine zg ?_ ?_;exact(YD PassesOwn.never rfl (zvs rfl T.zmB (av 0) rfl) (an 2 Yn.nd) (by
  refine zg ?_ ?_;exact(by refine sv true 3 Yn.nd ?_;exact(zE (W9 T hkd) (hr.mono (by omega)) rfl T.yd T.YL.kp T.WR zT (zb (av 2) zj (za rfl)) (by decide) rfl rfl));refine zg ?_ ?_;exact(by refine sv true 4 Yn.nd ?_;exact(zbF (zW (zN (hkd _ rfl rfl rfl) (yc hr) .Eq) (zM .Eq) (av 3) aI (zQ _)) (zE (zpb T hkd) (hr.mono (by omega)) rfl T.ZG T.zig.kp T.zpl zT (zb (av 2) zj (za rfl)) (by decide) rfl rfl) (wU zpe rfl T.zoo Bt.tuple (zb (zq (zp .Add) (yR (zm (av 2) zR (za rfl))) (vN (av 1) v5 (vW (av 3)))) zj (za rfl)) (Bt.n _ rfl) (by decide) rfl rfl)));exact zx (by refine sv true 1 Yn.nd ?_;exact(zq (zp .Add) (yR (zm (av 4) zR (za rfl))) (vN (av 1) (vW (av 3)) v5)))) (λ_=>rfl))
  exact zx (zL (ax hkd (av 1) aI)))
theorem zlX(T:Txt K kd mg t)(hkd:KD1 P w K kd):FnOk P w K mg base CX0 4 t.zaY t.zaM ["text","names"] (spD K kd YX):=by
 refine yK (N:=zfl) (ps:=["text","names"]) (k:=3) (c:=zey) T.zeF zaq λcdv A outer s H E hr=>?_;exact(by
  refine zg ?_ ?_;exact(by refine sv true 2 zaq.nd ?_;exact(yL (ty:=.str) (hkd _ rfl rfl rfl) Y8 PySem.F.plainAttrs_str PySem.F.slot_str_split PySem.F.type_str_split (av 0) (zb aS zj (za rfl)) rfl rfl rfl rfl rfl));refine zg ?_ ?_;exact(by refine sv true 3 zaq.nd ?_;exact(zE (zhN T hkd) (hr.mono (by omega)) rfl T.Zi T.zcl.kp T.zhW zT (zb (av 2) (zb (av 1) zj (za rfl)) (za rfl)) (by decide) rfl rfl));refine zg ?_ ?_;exact(xF (zW (zN (hkd _ rfl rfl rfl) (yc hr) .IsNot) (zM .IsNot) (av 3) aZ (zQ _)) (zx zql) yo);exact zx (zL (zE (zoF T hkd) (hr.mono (by omega)) rfl T.Vu T.ziF.kp T.zpk zT (zb (av 2) zj (za rfl)) (by decide) rfl rfl)))
theorem zmy(T:Txt K kd mg t)(hkd:KD1 P w K kd):FnOk P w K mg base CX0 1 t.zcu t.zcM ["row"] (spD K kd X7):=by
 refine yK (N:=zcL) (ps:=["row"]) (k:=0) (c:=zgR) T.zgo zlw λcdv A outer s H E hr=>?_;exact(zx (zL (yL (ty:=.str) (hkd _ rfl rfl rfl) Zr PySem.F.plainAttrs_str PySem.F.slot_str_join PySem.F.type_str_join aS (zb (xQ (N:=["value"]) (cap:=[none]) (S:=[0]) rfl (Ym (av 0)) rfl (by change wW _ zcL _ (zy X8).names _=true;decide +kernel) (by decide) (λcl s H fp=>(an 0 zhY)) (λcl s H fp=>xj) (λcl s H fp=>(wU xm rfl T.Xi Bt.str (zb (av 0) zj (za rfl)) (Bt.n _ rfl) (by decide) rfl rfl)) (λ_=>rfl)) zj (za rfl)) rfl rfl rfl rfl rfl)))
theorem zeO(T:Txt K kd mg t)(hkd:KD1 P w K kd):FnOk P w K mg base CX0 2 t.zaK t.zbz ["rows"] (spD K kd vh):=by
 refine yK (N:=zbs) (ps:=["rows"]) (k:=1) (c:=zfn) T.zaH zkC λcdv A outer s H E hr=>?_;exact(zx (zL (zq (zp .Add) aS (yL (ty:=.str) (hkd _ rfl rfl rfl) Zr PySem.F.plainAttrs_str PySem.F.slot_str_join PySem.F.type_str_join aS (zb (xQ (N:=["row"]) (cap:=[none]) (S:=[0]) rfl (Ym (av 0)) rfl (by change wW _ zbs _ (zy Xb).names _=true;decide +kernel) (by decide) (λcl s H fp=>(an 0 zgu)) (λcl s H fp=>xj) (λcl s H fp=>(zE (zmy T hkd) (hr.mono (by omega)) rfl T.X7 T.zgo.kp T.znn zT (zb (av 0) zj (za rfl)) (by decide) rfl rfl)) (λ_=>rfl)) zj (za rfl)) rfl rfl rfl rfl rfl))))
theorem zkO(T:Txt K kd mg t)(hkd:KD1 P w K kd):FnOk P w K mg base CX0 1 t.zbM t.zbL ["name","values"] (spD K kd ZJ):=by
 refine yK (N:=zbj) (ps:=["name","values"]) (k:=0) (c:=zeZ) T.zeH zjH λcdv A outer s H E hr=>?_;exact(zx (zL (yL (ty:=.str) (hkd _ rfl rfl rfl) Zr PySem.F.plainAttrs_str PySem.F.slot_str_join PySem.F.type_str_join aS (zb (zq (zp .Add) (yR (zm aS (zm (av 0) zR (za rfl)) (za rfl))) (xQ (N:=["value"]) (cap:=[none]) (S:=[0]) rfl (Ym (av 1)) rfl (by change wW _ zbj _ (zy Y0).names _=true;decide +kernel) (by decide) (λcl s H fp=>(an 0 zgd)) (λcl s H fp=>xj) (λcl s H fp=>(wU xm rfl T.Xi Bt.str (zb (av 0) zj (za rfl)) (Bt.n _ rfl) (by decide) rfl rfl)) (λ_=>rfl))) zj (za rfl)) rfl rfl rfl rfl rfl)))
theorem zgB(T:Txt K kd mg t)(hkd:KD1 P w K kd):FnOk P w K mg base CX0 3 t.XH t.X5 ["algebra"] (spD K kd vU):=by
 refine yK (N:=Yd) (ps:=["algebra"]) (k:=2) (c:=zbd) T.zbl zaz λcdv A outer s H E hr=>?_;exact(by
  refine zg ?_ ?_;exact(by refine sv false 1 zaz.nd ?_;exact(yR (zm (zq (zp .Add) (zq (zp .Add) (zq (zp .Add) aS (wU xm rfl T.Xi Bt.str (zb (ax hkd (av 0) aI) zj (za rfl)) (Bt.n _ rfl) (by decide) rfl rfl)) aS) (wU xm rfl T.Xi Bt.str (zb (ax hkd (av 0) aI) zj (za rfl)) (Bt.n _ rfl) (by decide) rfl rfl)) zR (za rfl))));refine zg ?_ ?_;exact(wy (vI xr Zd PySem.F.slot_list_append PySem.F.type_list_append (pv 1) (zm (zq (zp .Add) aS (zE (zeO T hkd) (hr.mono (by omega)) rfl T.vh T.zaH.kp T.zff zT (zb (ax hkd (av 0) aI) zj (za rfl)) (by decide) rfl rfl)) zR (za rfl)) rfl rfl rfl rfl rfl) rfl);refine zg ?_ ?_;exact(wy (vI xr Zd PySem.F.slot_list_append PySem.F.type_list_append (pv 1) (zm (zq (zp .Add) aS (wU xm rfl T.Xi Bt.str (zb (ax hkd (av 0) aI) zj (za rfl)) (Bt.n _ rfl) (by decide) rfl rfl)) zR (za rfl)) rfl rfl rfl rfl rfl) rfl);refine zg ?_ ?_;exact(wy (vI ziU zrM PySem.F.slot_list_extend PySem.F.type_list_extend (pv 1) (zm (xQ (N:=["name","rows"]) (cap:=[none,none]) (S:=[0,1]) rfl (Ym (ax hkd (av 0) aI)) rfl (by change wW _ Yd _ (zy wY).names _=true;decide +kernel) (by decide) (λcl s H fp=>(VG rfl (yO (an 0 Wh) (yO (an 1 Wh) Xp rfl) rfl) rfl rfl)) (λcl s H fp=>xj) (λcl s H fp=>(zq (zp .Add) (zq (zp .Add) (zq (zp .Add) aS (av 0)) aS) (zE (zeO T hkd) (hr.mono (by omega)) rfl T.vh T.zaH.kp T.zff zT (zb (av 1) zj (za rfl)) (by decide) rfl rfl))) (λ_=>rfl)) zR (za rfl)) rfl rfl rfl rfl rfl) rfl);refine zg ?_ ?_;exact(wy (vI ziU zrM PySem.F.slot_list_extend PySem.F.type_list_extend (pv 1) (zm (xQ (N:=["name","values"]) (cap:=[none,none]) (S:=[0,1]) rfl (Ym (ax hkd (av 0) aI)) rfl (by change wW _ Yd _ (zy wY).names _=true;decide +kernel) (by decide) (λcl s H fp=>(VG rfl (yO (an 0 Wj) (yO (an 1 Wj) Xp rfl) rfl) rfl rfl)) (λcl s H fp=>xj) (λcl s H fp=>(zE (zkO T hkd) (hr.mono (by omega)) rfl T.ZJ T.zeH.kp T.zlN zT (zb (av 0) (zb (av 1) zj (za rfl)) (za rfl)) (by decide) rfl rfl)) (λ_=>rfl)) zR (za rfl)) rfl rfl rfl rfl rfl) rfl);exact zx (zL (yL (ty:=.str) (hkd _ rfl rfl rfl) Zr PySem.F.plainAttrs_str PySem.F.slot_str_join PySem.F.type_str_join aS (zb (av 1) zj (za rfl)) rfl rfl rfl rfl rfl)))
theorem YH(T:Txt K kd mg t)(hkd:KD1 P w K kd):FnOk P w K mg base CX0 2 t.WL t.WW ["word","least","most"] (spD K kd yU):=by
 refine yK (N:=zck) (ps:=["word","least","most"]) (k:=1) (c:=zcg) T.Zf zaT λcdv A outer s H E hr=>?_;exact(by
  refine zg ?_ ?_;exact(xF (Vz (Wy (zE (VP T hkd) (hr.mono (by omega)) rfl T.xq T.Xn.kp T.zag zT (zb (av 0) (zb (Z9 T.XM rfl (by decide)) zj (za rfl)) (za rfl)) (by decide) rfl rfl) (λ_=>rfl))) (zx (zL aZ)) yo);refine zg ?_ ?_;exact(by refine sv true 3 zaT.nd ?_;exact(wU Yl rfl T.ziu Bt.int (zb (av 0) zj (za rfl)) (Bt.n _ rfl) (by decide) rfl rfl));exact zx (zL (zbF (zrv (zN (hkd _ rfl rfl rfl) (yc hr) .LtE) (zN (hkd _ rfl rfl rfl) (yc hr) .LtE) (zM .LtE) (av 1) (av 3) (av 2) (by with_unfolding_all rfl)) (av 3) aZ)))
theorem zhF(T:Txt K kd mg t)(hkd:KD1 P w K kd):FnOk P w K mg base CX0 3 t.zcw t.zcF ["words","n"] (spD K kd vP):=by
 refine yK (N:=zcC) (ps:=["words","n"]) (k:=2) (c:=zhx) T.zcB zeL λcdv A outer s H E hr=>?_;exact(by
  refine zg ?_ ?_;exact(zfG (z:=true) (i:=2) (N:=["word","n"]) (cap:=[none,some 1]) (S:=[0]) zeL.nd rfl (by exact Or.inl rfl) (by exact Or.inr rfl) rfl rfl (Ym (av 0)) rfl (by change wW _ zcC _ (zy X4).names _=true;decide +kernel) (by decide) (λcl s H fp=>(an 0 zhO)) (λcl s H fp=>xj) (λcl s H fp=>(zE (YH T hkd) (hr.mono (by omega)) rfl T.yU T.Zf.kp T.YF zT (by refine zb ?_ ?_ ?_;exact(av 0);refine zb ?_ ?_ ?_;exact aI;refine zb ?_ ?_ ?_;exact(zq (zp .Sub) (av 1) aI);exact zj;exact za rfl;exact za rfl;exact za rfl) (by decide) rfl rfl)) (λ_=>rfl));exact zx (zL (zbF (zW (zN (hkd _ rfl rfl rfl) (yc hr) .In) (zM .In) aZ (av 2) rfl) aZ (av 2))))
theorem zeQ(T:Txt K kd mg t)(hkd:KD1 P w K kd):FnOk P w K mg base CX0 4 t.zaP t.zaL ["text","many","n"] (spD K kd vR):=by
 refine yK (N:=Wn) (ps:=["text","many","n"]) (k:=3) (c:=zeG) T.zbJ zdy λcdv A outer s H E hr=>?_;exact(by
  refine zg ?_ ?_;exact(zfG (z:=true) (i:=3) (N:=["row","n"]) (cap:=[none,some 2]) (S:=[0]) zdy.nd rfl (by exact Or.inl rfl) (by exact Or.inr rfl) rfl rfl (Ym (yL (ty:=.str) (hkd _ rfl rfl rfl) Y8 PySem.F.plainAttrs_str PySem.F.slot_str_split PySem.F.type_str_split (av 0) (zb aS zj (za rfl)) rfl rfl rfl rfl rfl)) rfl (by change wW _ Wn _ (zy ZC).names _=true;decide +kernel) (by decide) (λcl s H fp=>(an 0 zfU)) (λcl s H fp=>xj) (λcl s H fp=>(zE (zhF T hkd) (hr.mono (by omega)) rfl T.vP T.zcB.kp T.zhd zT (zb (yL (ty:=.str) (hkd _ rfl rfl rfl) Y8 PySem.F.plainAttrs_str PySem.F.slot_str_split PySem.F.type_str_split (av 0) (zb aS zj (za rfl)) rfl rfl rfl rfl rfl) (zb (av 1) zj (za rfl)) (za rfl)) (by decide) rfl rfl)) (λ_=>rfl));refine zg ?_ ?_;exact(xF (AW.at_ (ZZ (zW (zN (hkd _ rfl rfl rfl) (yc hr) .NotEq) (zM .NotEq) (yE (yj (hkd _ rfl rfl rfl)) rfl T.wO Bt.len (zb (av 3) zj (za rfl)) (Bt.n _ rfl) (by decide) rfl rfl) (av 1) (zQ _)) (wk (Vz (Wy (yE (zbV rfl) rfl T.znV Bt.all (zb (xQ (N:=["row","n"]) (cap:=[none,some 2]) (S:=[0]) rfl (Ym (av 3)) rfl (by change wW _ Wn _ (zy ZC).names _=true;decide +kernel) (by decide) (λcl s H fp=>(an 0 zgP)) (λcl s H fp=>xj) (λcl s H fp=>(zhG (Z3 (zN (hkd _ rfl rfl rfl) (yc hr) .IsNot) (av 0) aZ (zQ _)) (zhE (Z3 (zN (hkd _ rfl rfl rfl) (yc hr) .Eq) (yE (yj (hkd _ rfl rfl rfl)) rfl T.wO Bt.len (zb (av 0) zj (za rfl)) (Bt.n _ rfl) (by decide) rfl rfl) (av 1) (zQ _))))) (λ_=>rfl)) zj (za rfl)) (Bt.n _ rfl) (by decide) rfl rfl) (λ_=>rfl)))))) (zx (zL aZ)) yo);exact zx (zL (av 3)))
theorem Vt(T:Txt K kd mg t)(hkd:KD1 P w K kd):FnOk P w K mg base CX0 5 t.Yq t.YC ["text","names"] (spD K kd xN):=by
 refine yK (N:=Vl) (ps:=["text","names"]) (k:=4) (c:=Vj) T.Yw zdn λcdv A outer s H E hr=>?_;exact(zx (zsa (zx (zL (zE (zlX T hkd) (hr.mono (by omega)) rfl T.YX T.zeF.kp T.zml zT (zb (av 0) (zb (av 1) zj (za rfl)) (za rfl)) (by decide) rfl rfl))) (λ_ _ z=>z)))
theorem zdd(T:Txt K kd mg t)(hkd:KD1 P w K kd):FnOk P w K mg base CX0 23 t.Z7 t.ZS ["text","n"] (spD K kd wL):=by
 refine yK (N:=Ws) (ps:=["text","n"]) (k:=22) (c:=Wk) T.Wv Zx λcdv A outer s H E hr=>?_;exact(by
  refine zg ?_ ?_;exact(by refine sv true 2 Zx.nd ?_;exact(yL (ty:=.str) (hkd _ rfl rfl rfl) V2 PySem.F.plainAttrs_str PySem.F.slot_str_partition PySem.F.type_str_partition (av 0) (zb aS zj (za rfl)) rfl rfl rfl rfl rfl));refine zg ?_ ?_;exact(xF (zW (zN (hkd _ rfl rfl rfl) (yc hr) .Eq) (zM .Eq) (ax hkd (av 2) aI) aS (zQ _)) (zx (zL (zE (zeQ T hkd) (hr.mono (by omega)) rfl T.vR T.zbJ.kp T.zfk zT (by refine zb ?_ ?_ ?_;exact(ax hkd (av 2) aI);refine zb ?_ ?_ ?_;exact(av 1);refine zb ?_ ?_ ?_;exact(av 1);exact zj;exact za rfl;exact za rfl;exact za rfl) (by decide) rfl rfl))) yo);refine zg ?_ ?_;exact(by refine sv true 3 Zx.nd ?_;exact(zE (Vt T hkd) (hr.mono (by omega)) rfl T.xN T.Yw.kp T.Vq zT (by refine zb ?_ ?_ ?_;exact(av 0);refine zb ?_ ?_ ?_;exact(yR (zm aS (zm aS zR (za rfl)) (za rfl)));exact zj;exact za rfl;exact za rfl) (by decide) rfl rfl));exact zx (zL (zbF (zW (zN (hkd _ rfl rfl rfl) (yc hr) .Is) (zM .Is) (av 3) aZ (zQ _)) aZ (zE (zoE T hkd) (hr.mono (by omega)) rfl T.Vp T.ziv.kp T.zpE zT (zb (av 1) (zb (av 3) zj (za rfl)) (za rfl)) (by decide) rfl rfl))))
theorem zdi(T:Txt K kd mg t)(hkd:KD1 P w K kd):FnOk P w K mg base CX0 23 t.Ye t.ZP ["text","n","m"] (spD K kd wJ):=by
 refine yK (N:=Wg) (ps:=["text","n","m"]) (k:=22) (c:=Wi) T.Wa Zw λcdv A outer s H E hr=>?_;exact(by
  refine zg ?_ ?_;exact(by refine sv true 3 Zw.nd ?_;exact(yL (ty:=.str) (hkd _ rfl rfl rfl) V2 PySem.F.plainAttrs_str PySem.F.slot_str_partition PySem.F.type_str_partition (av 0) (zb aS zj (za rfl)) rfl rfl rfl rfl rfl));refine zg ?_ ?_;exact(xF (zW (zN (hkd _ rfl rfl rfl) (yc hr) .Eq) (zM .Eq) (ax hkd (av 3) aI) aS (zQ _)) (zx (zL (zE (zeQ T hkd) (hr.mono (by omega)) rfl T.vR T.zbJ.kp T.zfk zT (by refine zb ?_ ?_ ?_;exact(ax hkd (av 3) aI);refine zb ?_ ?_ ?_;exact(av 2);refine zb ?_ ?_ ?_;exact(av 1);exact zj;exact za rfl;exact za rfl;exact za rfl) (by decide) rfl rfl))) yo);refine zg ?_ ?_;exact(by refine sv true 4 Zw.nd ?_;exact(zE (Vt T hkd) (hr.mono (by omega)) rfl T.xN T.Yw.kp T.Vq zT (by refine zb ?_ ?_ ?_;exact(av 0);refine zb ?_ ?_ ?_;exact(yR (zm aS (zm aS zR (za rfl)) (za rfl)));exact zj;exact za rfl;exact za rfl) (by decide) rfl rfl));exact zx (zL (zbF (zW (zN (hkd _ rfl rfl rfl) (yc hr) .Is) (zM .Is) (av 4) aZ (zQ _)) aZ (zE (zpB T hkd) (hr.mono (by omega)) rfl T.Vg T.zii.kp T.zoW zT (by refine zb ?_ ?_ ?_;exact(av 1);refine zb ?_ ?_ ?_;exact(av 2);refine zb ?_ ?_ ?_;exact(av 4);exact zj;exact za rfl;exact za rfl;exact za rfl) (by decide) rfl rfl))))
theorem zjM(T:Txt K kd mg t)(hkd:KD1 P w K kd):FnOk P w K mg base CX0 3 t.zab t.V9 ["line"] (spD K kd Z8):=by
 refine yK (N:=zdj) (ps:=["line"]) (k:=2) (c:=zdE) T.zda YK λcdv A outer s H E hr=>?_;exact(by
  refine zg ?_ ?_;exact(by refine sv true 1 YK.nd ?_;exact(yL (ty:=.str) (hkd _ rfl rfl rfl) Y8 PySem.F.plainAttrs_str PySem.F.slot_str_split PySem.F.type_str_split (av 0) (zb aS zj (za rfl)) rfl rfl rfl rfl rfl));refine zg ?_ ?_;exact(xF (AW.at_ (ZZ (zW (zN (hkd _ rfl rfl rfl) (yc hr) .NotEq) (zM .NotEq) (yE (yj (hkd _ rfl rfl rfl)) rfl T.wO Bt.len (zb (av 1) zj (za rfl)) (Bt.n _ rfl) (by decide) rfl rfl) aI (zQ _)) (ZZ (zW (zN (hkd _ rfl rfl rfl) (yc hr) .NotEq) (zM .NotEq) (ax hkd (av 1) aI) aS (zQ _)) (wk (zW (zN (hkd _ rfl rfl rfl) (yc hr) .NotEq) (zM .NotEq) (ax hkd (av 1) aI) aS (zQ _)))))) (zx (zL aZ)) yo);refine zg ?_ ?_;exact(by refine sv true 2 YK.nd ?_;exact(zE (YH T hkd) (hr.mono (by omega)) rfl T.yU T.Zf.kp T.YF zT (by refine zb ?_ ?_ ?_;exact(ax hkd (av 1) aI);refine zb ?_ ?_ ?_;exact aI;refine zb ?_ ?_ ?_;exact(Z9 T.zhL rfl (by decide));exact zj;exact za rfl;exact za rfl;exact za rfl) (by decide) rfl rfl));refine zg ?_ ?_;exact(by refine sv true 3 YK.nd ?_;exact(zE (YH T hkd) (hr.mono (by omega)) rfl T.yU T.Zf.kp T.YF zT (by refine zb ?_ ?_ ?_;exact(ax hkd (av 1) aI);refine zb ?_ ?_ ?_;exact aI;refine zb ?_ ?_ ?_;exact(Z9 T.zhU rfl (by decide));exact zj;exact za rfl;exact za rfl;exact za rfl) (by decide) rfl rfl));exact zx (zL (zbF (AW.at_ (ZZ (zW (zN (hkd _ rfl rfl rfl) (yc hr) .Is) (zM .Is) (av 2) aZ (zQ _)) (wk (zW (zN (hkd _ rfl rfl rfl) (yc hr) .Is) (zM .Is) (av 3) aZ (zQ _))))) aZ (Zt (zm (av 2) (zm (av 3) zR (za rfl)) (za rfl))))))
theorem zlZ(T:Txt K kd mg t)(hkd:KD1 P w K kd):FnOk P w K mg base CX0 24 t.zaV t.zbf ["line","n"] (spD K kd Y4):=by
 refine yK (N:=zfo) (ps:=["line","n"]) (k:=23) (c:=zeU) T.zeP zcU λcdv A outer s H E hr=>?_;exact(by
  refine zg ?_ ?_;exact(by refine sv true 2 zcU.nd ?_;exact(yL (ty:=.str) (hkd _ rfl rfl rfl) V2 PySem.F.plainAttrs_str PySem.F.slot_str_partition PySem.F.type_str_partition (av 0) (zb aS zj (za rfl)) rfl rfl rfl rfl rfl));exact zx (zL (zbF (zW (zN (hkd _ rfl rfl rfl) (yc hr) .Eq) (zM .Eq) (ax hkd (av 2) aI) aS (zQ _)) (zE (zdd T hkd) (hr.mono (by omega)) rfl T.wL T.Wv.kp T.zdk zT (zb (ax hkd (av 2) aI) (zb (av 1) zj (za rfl)) (za rfl)) (by decide) rfl rfl) aZ)))
theorem zgn(T:Txt K kd mg t)(hkd:KD1 P w K kd):FnOk P w K mg base CX0 3 t.XR t.XS ["line","n"] (spD K kd vV):=by
 refine yK (N:=zaN) (ps:=["line","n"]) (k:=2) (c:=zbc) T.zbp zau λcdv A outer s H E hr=>?_;exact(by
  refine zg ?_ ?_;exact(by refine sv true 2 zau.nd ?_;exact(yL (ty:=.str) (hkd _ rfl rfl rfl) Y8 PySem.F.plainAttrs_str PySem.F.slot_str_split PySem.F.type_str_split (av 0) (zb aS zj (za rfl)) rfl rfl rfl rfl rfl));refine zg ?_ ?_;exact(xF (AW.at_ (ZZ (zW (zN (hkd _ rfl rfl rfl) (yc hr) .NotEq) (zM .NotEq) (yE (yj (hkd _ rfl rfl rfl)) rfl T.wO Bt.len (zb (av 2) zj (za rfl)) (Bt.n _ rfl) (by decide) rfl rfl) aI (zQ _)) (wk (zW (zN (hkd _ rfl rfl rfl) (yc hr) .NotEq) (zM .NotEq) (ax hkd (av 2) aI) aS (zQ _))))) (zx (zL aZ)) yo);exact zx (zL (zE (YH T hkd) (hr.mono (by omega)) rfl T.yU T.Zf.kp T.YF zT (by refine zb ?_ ?_ ?_;exact(ax hkd (av 2) aI);refine zb ?_ ?_ ?_;exact aI;refine zb ?_ ?_ ?_;exact(zq (zp .Sub) (av 1) aI);exact zj;exact za rfl;exact za rfl;exact za rfl) (by decide) rfl rfl)))
theorem zlr(T:Txt K kd mg t)(hkd:KD1 P w K kd):FnOk P w K mg base CX0 2 t.zfT t.zgs ["name","told"] (spD K kd vC):=by
 refine yK (N:=zfW) (ps:=["name","told"]) (k:=1) (c:=zkW) T.zhq zpm λcdv A outer s H E hr=>?_;exact(zx (zL (zhG (zE (zpa T hkd) (hr.mono (by omega)) rfl T.Vk T.zit.kp T.zpg zT (zb (av 0) zj (za rfl)) (by decide) rfl rfl) (zhE (Z3 (zN (hkd _ rfl rfl rfl) (yc hr) .NotIn) (av 0) (xQ (N:=["one"]) (cap:=[none]) (S:=[0]) rfl (Ym (av 1)) rfl (by change wW _ zfW _ (zy zbh).names _=true;decide +kernel) (by decide) (λcl s H fp=>(an 0 zmf)) (λcl s H fp=>xj) (λcl s H fp=>(ax hkd (av 0) aI)) (λ_=>rfl)) rfl)))))
theorem zlT(T:Txt K kd mg t)(hkd:KD1 P w K kd):FnOk P w K mg base CX0 24 t.zbK t.zaG ["line","n","m","told"] (spD K kd vp):=by
 refine yK (N:=zfm) (ps:=["line","n","m","told"]) (k:=23) (c:=zeV) T.zeD V0 λcdv A outer s H E hr=>?_;exact(by
  refine zg ?_ ?_;exact(by refine sv true 4 V0.nd ?_;exact(yL (ty:=.str) (hkd _ rfl rfl rfl) zkQ PySem.F.plainAttrs_str PySem.F.slot_str_split PySem.F.type_str_split (av 0) (zb aS (zb aI zj (za rfl)) (za rfl)) rfl rfl rfl rfl rfl));refine zg ?_ ?_;exact(xF (AW.at_ (ZZ (zW (zN (hkd _ rfl rfl rfl) (yc hr) .NotEq) (zM .NotEq) (yE (yj (hkd _ rfl rfl rfl)) rfl T.wO Bt.len (zb (av 4) zj (za rfl)) (Bt.n _ rfl) (by decide) rfl rfl) aI (zQ _)) (ZZ (Vz (Wy (zE (zlr T hkd) (hr.mono (by omega)) rfl T.vC T.zhq.kp T.zlq zT (zb (ax hkd (av 4) aI) (zb (av 3) zj (za rfl)) (za rfl)) (by decide) rfl rfl) (λ_=>rfl))) (wk (zW (zN (hkd _ rfl rfl rfl) (yc hr) .Eq) (zM .Eq) (yE (yj (hkd _ rfl rfl rfl)) rfl T.wO Bt.len (zb (av 3) zj (za rfl)) (Bt.n _ rfl) (by decide) rfl rfl) (Z9 T.zjq rfl (by decide)) (zQ _)))))) (zx (zL aZ)) yo);refine zg ?_ ?_;exact(by refine sv true 5 V0.nd ?_;exact(zE (zdi T hkd) (hr.mono (by omega)) rfl T.wJ T.Wa.kp T.zdL zT (by refine zb ?_ ?_ ?_;exact(ax hkd (av 4) aI);refine zb ?_ ?_ ?_;exact(av 1);refine zb ?_ ?_ ?_;exact(av 2);exact zj;exact za rfl;exact za rfl;exact za rfl) (by decide) rfl rfl));exact zx (zL (zbF (zW (zN (hkd _ rfl rfl rfl) (yc hr) .Is) (zM .Is) (av 5) aZ (zQ _)) aZ (Zt (zm (ax hkd (av 4) aI) (zm (av 5) zR (za rfl)) (za rfl))))))
theorem zmb(T:Txt K kd mg t)(hkd:KD1 P w K kd):FnOk P w K mg base CX0 4 t.zaI t.zbD ["line","n","told"] (spD K kd vq):=by
 refine yK (N:=zfg) (ps:=["line","n","told"]) (k:=3) (c:=zew) T.zeN zac λcdv A outer s H E hr=>?_;exact(by
  refine zg ?_ ?_;exact(by refine sv true 3 zac.nd ?_;exact(yL (ty:=.str) (hkd _ rfl rfl rfl) Y8 PySem.F.plainAttrs_str PySem.F.slot_str_split PySem.F.type_str_split (av 0) (zb aS zj (za rfl)) rfl rfl rfl rfl rfl));refine zg ?_ ?_;exact(xF (AW.at_ (ZZ (zW (zN (hkd _ rfl rfl rfl) (yc hr) .Lt) (zM .Lt) (yE (yj (hkd _ rfl rfl rfl)) rfl T.wO Bt.len (zb (av 3) zj (za rfl)) (Bt.n _ rfl) (by decide) rfl rfl) aI (zQ _)) (ZZ (zW (zN (hkd _ rfl rfl rfl) (yc hr) .NotEq) (zM .NotEq) (ax hkd (av 3) aI) aS (zQ _)) (ZZ (Vz (Wy (zE (zlr T hkd) (hr.mono (by omega)) rfl T.vC T.zhq.kp T.zlq zT (zb (ax hkd (av 3) aI) (zb (av 2) zj (za rfl)) (za rfl)) (by decide) rfl rfl) (λ_=>rfl))) (wk (zW (zN (hkd _ rfl rfl rfl) (yc hr) .Eq) (zM .Eq) (yE (yj (hkd _ rfl rfl rfl)) rfl T.wO Bt.len (zb (av 2) zj (za rfl)) (Bt.n _ rfl) (by decide) rfl rfl) (Z9 T.zjW rfl (by decide)) (zQ _))))))) (zx (zL aZ)) yo);refine zg ?_ ?_;exact(by refine sv true 4 zac.nd ?_;exact(zE (zhF T hkd) (hr.mono (by omega)) rfl T.vP T.zcB.kp T.zhd zT (zb (vN (av 3) (vW aI) v5) (zb (av 1) zj (za rfl)) (za rfl)) (by decide) rfl rfl));exact zx (zL (zbF (AW.at_ (ZZ (zW (zN (hkd _ rfl rfl rfl) (yc hr) .Is) (zM .Is) (av 4) aZ (zQ _)) (wk (Vz (Wy (zE (zlG T hkd) (hr.mono (by omega)) rfl T.Y9 T.zfh.kp T.zlE zT (zb (av 4) zj (za rfl)) (by decide) rfl rfl) (λ_=>rfl)))))) aZ (Zt (zm (ax hkd (av 3) aI) (zm (av 4) zR (za rfl)) (za rfl))))))
theorem ziN(T:Txt K kd mg t)(hkd:KD1 P w K kd):FnOk P w K mg base CX0 1 t.zef t.zeb ["lines","at"] (spD K kd Yx):=by
 refine yK (N:=zjg) (ps:=["lines","at"]) (k:=0) (c:=ziP) T.zdX zmM λcdv A outer s H E hr=>?_;exact(by
  refine zg ?_ ?_;exact(xF (zW (zN (hkd _ rfl rfl rfl) (yc hr) .Eq) (zM .Eq) (av 1) (yE (yj (hkd _ rfl rfl rfl)) rfl T.wO Bt.len (zb (av 0) zj (za rfl)) (Bt.n _ rfl) (by decide) rfl rfl) (zQ _)) (zx zql) yo);exact zx (zL (ax hkd (av 0) (av 1))))
theorem Vf(T:Txt K kd mg t)(hkd:KD1 P w K kd):FnOk P w K mg base CX0 1 t.zdY t.zes ["thing","at"] (spD K kd xO):=by
 refine yK (N:=ziR) (ps:=["thing","at"]) (k:=0) (c:=zis) T.Xr znp λcdv A outer s H E hr=>?_;exact(by
  refine zg ?_ ?_;exact(xF (zW (zN (hkd _ rfl rfl rfl) (yc hr) .Is) (zM .Is) (av 0) aZ (zQ _)) (zx zql) yo);exact zx (zL (av 0)))
theorem zkg(T:Txt K kd mg t)(hkd:KD1 P w K kd):FnOk P w K mg base CX0 25 t.V7 t.zaa ["lines","n","m"] (spD K kd Z5):=by
 refine yK (N:=zcR) (ps:=["lines","n","m"]) (k:=24) (c:=zdv) T.zdK W3 λcdv A outer s H E hr=>?_;exact(by
  refine zg ?_ ?_;exact(by refine sv false 3 W3.nd ?_;exact(yR zR));refine zg ?_ ?_;exact(YD PassesOwn.never rfl (zje rfl T.xU (zb aI (zb (yE (yj (hkd _ rfl rfl rfl)) rfl T.wO Bt.len (zb (av 0) zj (za rfl)) (Bt.n _ rfl) (by decide) rfl rfl) zj (za rfl)) (za rfl)) rfl rfl) (an 4 W3.nd) (by
  refine zg ?_ ?_;exact(xF (Vz (Wy (yL (ty:=.str) (hkd _ rfl rfl rfl) zhZ PySem.F.plainAttrs_str PySem.F.slot_str_startswith PySem.F.type_str_startswith (ax hkd (av 0) (av 4)) (zb aS zj (za rfl)) rfl rfl rfl rfl rfl) (λ_=>rfl))) (zx zqY) yo);exact zx (wy (vI xr Zd PySem.F.slot_list_append PySem.F.type_list_append (pv 3) (zm (zE (Vf T hkd) (hr.mono (by omega)) rfl T.xO T.Xr.kp T.Vo zT (zb (zE (zlT T hkd) (hr.mono (by omega)) rfl T.vp T.zeD.kp T.zlC zT (by refine zb ?_ ?_ ?_;exact(ax hkd (av 0) (av 4));refine zb ?_ ?_ ?_;exact(av 1);refine zb ?_ ?_ ?_;exact(av 2);refine zb ?_ ?_ ?_;exact(av 3);exact zj;exact za rfl;exact za rfl;exact za rfl;exact za rfl) (by decide) rfl rfl) (zb (av 4) zj (za rfl)) (za rfl)) (by decide) rfl rfl) zR (za rfl)) rfl rfl rfl rfl rfl) rfl)) (λ_=>rfl))
  exact zx (zL (av 3)))
theorem zkf(T:Txt K kd mg t)(hkd:KD1 P w K kd):FnOk P w K mg base CX0 5 t.V4 t.V3 ["lines","start","n"] (spD K kd Yb):=by
 refine yK (N:=zcY) (ps:=["lines","start","n"]) (k:=4) (c:=zdB) T.zdh W8 λcdv A outer s H E hr=>?_;exact(by
  refine zg ?_ ?_;exact(by refine sv false 3 W8.nd ?_;exact(yR zR));refine zg ?_ ?_;exact(YD PassesOwn.never rfl (zje rfl T.xU (zb (av 1) (zb (yE (yj (hkd _ rfl rfl rfl)) rfl T.wO Bt.len (zb (av 0) zj (za rfl)) (Bt.n _ rfl) (by decide) rfl rfl) zj (za rfl)) (za rfl)) rfl rfl) (an 4 W8.nd) (zx (wy (vI xr Zd PySem.F.slot_list_append PySem.F.type_list_append (pv 3) (zm (zE (Vf T hkd) (hr.mono (by omega)) rfl T.xO T.Xr.kp T.Vo zT (zb (zE (zmb T hkd) (hr.mono (by omega)) rfl T.vq T.zeN.kp T.zkS zT (by refine zb ?_ ?_ ?_;exact(ax hkd (av 0) (av 4));refine zb ?_ ?_ ?_;exact(av 2);refine zb ?_ ?_ ?_;exact(av 3);exact zj;exact za rfl;exact za rfl;exact za rfl) (by decide) rfl rfl) (zb (av 4) zj (za rfl)) (za rfl)) (by decide) rfl rfl) zR (za rfl)) rfl rfl rfl rfl rfl) rfl)) (λ_=>rfl));exact zx (zL (av 3)))
theorem X6(T:Txt K kd mg t)(hkd:KD1 P w K kd):FnOk P w K mg base CX0 26 t.XJ t.X3 ["text"] (spD K kd yM):=by
 refine yK (N:=zaS) (ps:=["text"]) (k:=25) (c:=zaR) T.ZV yZ λcdv A outer s H E hr=>?_;exact(by
  refine zg ?_ ?_;exact(by refine sv true 1 yZ.nd ?_;exact(yL (ty:=.str) (hkd _ rfl rfl rfl) Y8 PySem.F.plainAttrs_str PySem.F.slot_str_split PySem.F.type_str_split (av 0) (zb aS zj (za rfl)) rfl rfl rfl rfl rfl));refine zg ?_ ?_;exact(by refine sv true 2 yZ.nd ?_;exact(zE (Vf T hkd) (hr.mono (by omega)) rfl T.xO T.Xr.kp T.Vo zT (zb (zE (zjM T hkd) (hr.mono (by omega)) rfl T.Z8 T.zda.kp T.zjE zT (zb (ax hkd (av 1) aI) zj (za rfl)) (by decide) rfl rfl) (zb aI zj (za rfl)) (za rfl)) (by decide) rfl rfl));refine zg ?_ ?_;exact(by refine sv true 3 yZ.nd ?_;exact(ax hkd (av 2) aI));refine zg ?_ ?_;exact(by refine sv true 4 yZ.nd ?_;exact(ax hkd (av 2) aI));refine zg ?_ ?_;exact(by refine sv true 5 yZ.nd ?_;exact(zE (Vf T hkd) (hr.mono (by omega)) rfl T.xO T.Xr.kp T.Vo zT (zb (zE (zlZ T hkd) (hr.mono (by omega)) rfl T.Y4 T.zeP.kp T.zlR zT (zb (zE (ziN T hkd) (hr.mono (by omega)) rfl T.Yx T.zdX.kp T.zid zT (zb (av 1) (zb aI zj (za rfl)) (za rfl)) (by decide) rfl rfl) (zb (av 3) zj (za rfl)) (za rfl)) (by decide) rfl rfl) (zb aI zj (za rfl)) (za rfl)) (by decide) rfl rfl));refine zg ?_ ?_;exact(by refine sv true 6 yZ.nd ?_;exact(zE (Vf T hkd) (hr.mono (by omega)) rfl T.xO T.Xr.kp T.Vo zT (zb (zE (zgn T hkd) (hr.mono (by omega)) rfl T.vV T.zbp.kp T.zgT zT (zb (zE (ziN T hkd) (hr.mono (by omega)) rfl T.Yx T.zdX.kp T.zid zT (zb (av 1) (zb aI zj (za rfl)) (za rfl)) (by decide) rfl rfl) (zb (av 3) zj (za rfl)) (za rfl)) (by decide) rfl rfl) (zb aI zj (za rfl)) (za rfl)) (by decide) rfl rfl));refine zg ?_ ?_;exact(by refine sv true 7 yZ.nd ?_;exact(zE (zkg T hkd) (hr.mono (by omega)) rfl T.Z5 T.zdK.kp T.zjO zT (by refine zb ?_ ?_ ?_;exact(av 1);refine zb ?_ ?_ ?_;exact(av 3);refine zb ?_ ?_ ?_;exact(av 4);exact zj;exact za rfl;exact za rfl;exact za rfl) (by decide) rfl rfl));refine zg ?_ ?_;exact(by refine sv true 8 yZ.nd ?_;exact(zE (zkf T hkd) (hr.mono (by omega)) rfl T.Yb T.zdh.kp T.zjs zT (by refine zb ?_ ?_ ?_;exact(av 1);refine zb ?_ ?_ ?_;exact(zq (zp .Add) aI (yE (yj (hkd _ rfl rfl rfl)) rfl T.wO Bt.len (zb (av 7) zj (za rfl)) (Bt.n _ rfl) (by decide) rfl rfl));refine zb ?_ ?_ ?_;exact(av 3);exact zj;exact za rfl;exact za rfl;exact za rfl) (by decide) rfl rfl));exact zx (zL (Zt (by refine zm ?_ ?_ ?_;exact(av 3);refine zm ?_ ?_ ?_;exact(av 4);refine zm ?_ ?_ ?_;exact(av 5);refine zm ?_ ?_ ?_;exact(av 6);refine zm ?_ ?_ ?_;exact(av 7);refine zm ?_ ?_ ?_;exact(av 8);exact zR;exact za rfl;exact za rfl;exact za rfl;exact za rfl;exact za rfl;exact za rfl))))
theorem wR(T:Txt K kd mg t)(hkd:KD1 P w K kd):FnOk P w K mg base CX0 1 t.WQ t.Wz ["_law_script","_law_k"] (spD K kd zK):=by
 refine yK (N:=zch) (ps:=["_law_script","_law_k"]) (k:=0) (c:=zce) T.wj zfR λcdv A outer s H E hr=>?_;exact(by
  refine zg ?_ ?_;exact(xF (zW (zN (hkd _ rfl rfl rfl) (yc hr) .Lt) (zM .Lt) (av 1) (yE (yj (hkd _ rfl rfl rfl)) rfl T.wO Bt.len (zb (av 0) zj (za rfl)) (Bt.n _ rfl) (by decide) rfl rfl) (zQ _)) (zx (zL (ax hkd (av 0) (av 1)))) yo);exact zx (zL aI))
theorem Yc(T:Txt K kd mg t)(hkd:KD1 P w K kd):FnOk P w K mg base CX0 1 t.zam t.VF ["_law_cell","_law_many"] (spD K kd yt):=by
 refine yK (N:=zdJ) (ps:=["_law_cell","_law_many"]) (k:=0) (c:=zde) T.v4 Zh λcdv A outer s H E hr=>?_;exact(by
  refine zg ?_ ?_;exact(by refine sv false 2 Zh.nd ?_;exact(yR zR));refine zg ?_ ?_;exact(by refine sv true 3 Zh.nd ?_;exact(zq (zp .Add) (zq (zp .Mod) (av 0) aI) aI));refine zg ?_ ?_;exact(YD PassesOwn.never rfl (Yv rfl T.xU (zb (zq (zp .Add) (av 1) aI) zj (za rfl)) rfl) (an 4 Zh.nd) (by
  refine zg ?_ ?_;exact(by refine sv true 3 Zh.nd ?_;exact(zq (zp .Mod) (zq (zp .Add) (zq (zp .Add) (zq (zp .Mult) (av 3) (av 3)) (zq (zp .Mult) aI (av 3))) (av 4)) aI));exact zx (wy (vI xr Zd PySem.F.slot_list_append PySem.F.type_list_append (pv 2) (zm (zq (zp .Mod) (zq (zp .Add) (zq (zp .Mult) (av 3) aI) (zq (zp .Mult) aI (av 4))) aI) zR (za rfl)) rfl rfl rfl rfl rfl) rfl)) (λ_=>rfl))
  exact zx (zL (vN (av 2) (vW aI) v5)))
theorem zmg(T:Txt K kd mg t)(hkd:KD1 P w K kd):FnOk P w K mg base CX0 2 t.zbA t.zbv ["_law_cell","_law_many"] (spD K kd ZF):=by
 refine yK (N:=zbN) (ps:=["_law_cell","_law_many"]) (k:=1) (c:=zeS) T.zeJ vB λcdv A outer s H E hr=>?_;exact(by
  refine zg ?_ ?_;exact(by refine sv true 2 vB.nd ?_;exact aS);refine zg ?_ ?_;exact(by refine sv true 3 vB.nd ?_;exact(zE (Yc T hkd) (hr.mono (by omega)) rfl T.yt T.v4.kp T.ZW zT (zb (av 0) (zb aI zj (za rfl)) (za rfl)) (by decide) rfl rfl));refine zg ?_ ?_;exact(by refine sv true 4 vB.nd ?_;exact(yL (ty:=.str) (hkd _ rfl rfl rfl) Zr PySem.F.plainAttrs_str PySem.F.slot_str_join PySem.F.type_str_join aS (zb (xQ (N:=["_law_x","_law_letters"]) (cap:=[none,some 2]) (S:=[0]) rfl (Ym (vN (av 3) v5 (vW (zq (zp .Add) aI (zq (zp .Mod) (av 0) aI))))) rfl (by change wW _ zbN _ (zy YZ).names _=true;decide +kernel) (by decide) (λcl s H fp=>(an 0 zfQ)) (λcl s H fp=>xj) (λcl s H fp=>(ax hkd (av 1) (zq (zp .Mod) (av 0) aI))) (λ_=>rfl)) zj (za rfl)) rfl rfl rfl rfl rfl));refine zg ?_ ?_;exact(by refine sv true 5 vB.nd ?_;exact(zq (zp .Mod) (zq (zp .FloorDiv) (av 0) aI) (yE (yj (hkd _ rfl rfl rfl)) rfl T.wO Bt.len (zb (av 4) zj (za rfl)) (Bt.n _ rfl) (by decide) rfl rfl)));refine zg ?_ ?_;exact(by refine sv false 6 vB.nd ?_;exact(yR zR));refine zg ?_ ?_;exact(YD PassesOwn.never rfl (Yv rfl T.xU (zb (av 1) zj (za rfl)) rfl) (an 7 vB.nd) (zx (wy (vI xr Zd PySem.F.slot_list_append PySem.F.type_list_append (pv 6) (zm (zq (zp .Add) (zq (zp .Add) (zin (av 4) v5 (vW (av 5))) (ax hkd (av 2) (zq (zp .Mod) (zq (zp .Add) (ax hkd (av 3) aI) (zq (zp .Mult) aI (av 7))) aI))) (zin (av 4) (vW (zq (zp .Add) (av 5) aI)) v5)) zR (za rfl)) rfl rfl rfl rfl rfl) rfl)) (λ_=>rfl));exact zx (zL (av 6)))
theorem YB(T:Txt K kd mg t)(hkd:KD1 P w K kd):FnOk P w K mg base CX0 1 t.Yu t.Yz ["_law_rows"] (spD K kd yz):=by
 refine yK (N:=Yy) (ps:=["_law_rows"]) (k:=0) (c:=Vr) T.vX zdw λcdv A outer s H E hr=>?_;exact(zx (zL (yL (ty:=.str) (hkd _ rfl rfl rfl) Zr PySem.F.plainAttrs_str PySem.F.slot_str_join PySem.F.type_str_join aS (zb (xQ (N:=["_law_row"]) (cap:=[none]) (S:=[0]) rfl (Ym (av 0)) rfl (by change wW _ Yy _ (zy vd).names _=true;decide +kernel) (by decide) (λcl s H fp=>(an 0 zcc)) (λcl s H fp=>xj) (λcl s H fp=>(yL (ty:=.str) (hkd _ rfl rfl rfl) Zr PySem.F.plainAttrs_str PySem.F.slot_str_join PySem.F.type_str_join aS (zb (xQ (N:=["_law_value"]) (cap:=[none]) (S:=[0]) rfl (Ym (av 0)) rfl (by with_unfolding_all rfl) (by decide) (λcl s H fp=>(an 0 zcb)) (λcl s H fp=>xj) (λcl s H fp=>(wU xm rfl T.Xi Bt.str (zb (av 0) zj (za rfl)) (Bt.n _ rfl) (by decide) rfl rfl)) (λ_=>rfl)) zj (za rfl)) rfl rfl rfl rfl rfl)) (λ_=>rfl)) zj (za rfl)) rfl rfl rfl rfl rfl)))
theorem zeC(T:Txt K kd mg t)(hkd:KD1 P w K kd):FnOk P w K mg base CX0 2 t.zbo t.zaU ["_law_algebra"] (spD K kd vA):=by
 refine yK (N:=zbt) (ps:=["_law_algebra"]) (k:=1) (c:=zfq) T.zbG yX λcdv A outer s H E hr=>?_;exact(by
  refine zg ?_ ?_;exact(zks (av 0) (VG rfl (yO (an 1 yX.nd) (yO (an 2 yX.nd) (yO (an 3 yX.nd) (yO (an 4 yX.nd) (yO (an 5 yX.nd) (yO (an 6 yX.nd) Xp rfl) rfl) rfl) rfl) rfl) rfl) rfl rfl) rfl rfl rfl);refine zg ?_ ?_;exact(by refine sv false 7 yX.nd ?_;exact(yR (by refine zm ?_ ?_ ?_;exact(zq (zp .Add) (zq (zp .Add) (zq (zp .Add) aS (wU xm rfl T.Xi Bt.str (zb (av 1) zj (za rfl)) (Bt.n _ rfl) (by decide) rfl rfl)) aS) (wU xm rfl T.Xi Bt.str (zb (av 2) zj (za rfl)) (Bt.n _ rfl) (by decide) rfl rfl));refine zm ?_ ?_ ?_;exact(zq (zp .Add) aS (zE (YB T hkd) (hr.mono (by omega)) rfl T.yz T.vX.kp T.Yk zT (zb (av 3) zj (za rfl)) (by decide) rfl rfl));refine zm ?_ ?_ ?_;exact(zq (zp .Add) aS (wU xm rfl T.Xi Bt.str (zb (av 4) zj (za rfl)) (Bt.n _ rfl) (by decide) rfl rfl));exact zR;exact za rfl;exact za rfl;exact za rfl)));refine zg ?_ ?_;exact(YD PassesOwn.never rfl (zrO (av 5)) (VG rfl (yO (an 8 yX.nd) (yO (an 9 yX.nd) Xp rfl) rfl) rfl rfl) (zx (wy (vI xr Zd PySem.F.slot_list_append PySem.F.type_list_append (pv 7) (zm (zq (zp .Add) (zq (zp .Add) (zq (zp .Add) aS (av 8)) aS) (zE (YB T hkd) (hr.mono (by omega)) rfl T.yz T.vX.kp T.Yk zT (zb (av 9) zj (za rfl)) (by decide) rfl rfl)) zR (za rfl)) rfl rfl rfl rfl rfl) rfl)) (λ_=>rfl));refine zg ?_ ?_;exact(YD PassesOwn.never rfl (zrO (av 6)) (VG rfl (yO (an 8 yX.nd) (yO (an 10 yX.nd) Xp rfl) rfl) rfl rfl) (zx (wy (vI xr Zd PySem.F.slot_list_append PySem.F.type_list_append (pv 7) (zm (yL (ty:=.str) (hkd _ rfl rfl rfl) Zr PySem.F.plainAttrs_str PySem.F.slot_str_join PySem.F.type_str_join aS (zb (zq (zp .Add) (yR (zm (zq (zp .Add) aS (av 8)) zR (za rfl))) (xQ (N:=["_law_value"]) (cap:=[none]) (S:=[0]) rfl (Ym (av 10)) rfl (by change wW _ zbt _ (zy Y6).names _=true;decide +kernel) (by decide) (λcl s H fp=>(an 0 zgE)) (λcl s H fp=>xj) (λcl s H fp=>(wU xm rfl T.Xi Bt.str (zb (av 0) zj (za rfl)) (Bt.n _ rfl) (by decide) rfl rfl)) (λ_=>rfl))) zj (za rfl)) rfl rfl rfl rfl rfl) zR (za rfl)) rfl rfl rfl rfl rfl) rfl)) (λ_=>rfl));exact zx (zL (av 7)))
theorem zfu(T:Txt K kd mg t)(hkd:KD1 P w K kd):FnOk P w K mg base CX0 1 t.Xg t.Xf ["_law_x","_law_n"] (spD K kd wF):=by
 refine yK (N:=zaC) (ps:=["_law_x","_law_n"]) (k:=0) (c:=zay) T.zaw Yt λcdv A outer s H E hr=>?_;exact(by
  refine zg ?_ ?_;exact(by refine sv true 2 Yt.nd ?_;exact(yR (by refine zm ?_ ?_ ?_;exact aS;refine zm ?_ ?_ ?_;exact aS;refine zm ?_ ?_ ?_;exact aS;refine zm ?_ ?_ ?_;exact aS;refine zm ?_ ?_ ?_;exact aS;refine zm ?_ ?_ ?_;exact aS;refine zm ?_ ?_ ?_;exact aS;exact zR;exact za rfl;exact za rfl;exact za rfl;exact za rfl;exact za rfl;exact za rfl;exact za rfl)));refine zg ?_ ?_;exact(by refine sv true 2 Yt.nd ?_;exact(zq (zp .Add) (av 2) (yR (by refine zm ?_ ?_ ?_;exact aS;refine zm ?_ ?_ ?_;exact aS;refine zm ?_ ?_ ?_;exact(zq (zp .Add) (zq (zp .Add) aS (wU xm rfl T.Xi Bt.str (zb (zq (zp .Mod) (zq (zp .FloorDiv) (av 0) aI) aI) zj (za rfl)) (Bt.n _ rfl) (by decide) rfl rfl)) aS);refine zm ?_ ?_ ?_;exact aS;exact zR;exact za rfl;exact za rfl;exact za rfl;exact za rfl))));exact zx (zL (ax hkd (av 2) (zq (zp .Mod) (av 0) (yE (yj (hkd _ rfl rfl rfl)) rfl T.wO Bt.len (zb (av 2) zj (za rfl)) (Bt.n _ rfl) (by decide) rfl rfl)))))
theorem zfz(T:Txt K kd mg t)(hkd:KD1 P w K kd):FnOk P w K mg base CX0 1 t.Xd t.Xh ["_law_x"] (spD K kd xV):=by
 refine yK (N:=zaA) (ps:=["_law_x"]) (k:=0) (c:=zax) T.zav Yp λcdv A outer s H E hr=>?_;exact(by
  refine zg ?_ ?_;exact(by refine sv true 1 Yp.nd ?_;exact(yR (by refine zm ?_ ?_ ?_;exact(zq (zp .Add) (zq (zp .Add) (zq (zp .Add) (zq (zp .Add) aS (wU xm rfl T.Xi Bt.str (zb (zq (zp .Mod) (zq (zp .FloorDiv) (av 0) aI) aI) zj (za rfl)) (Bt.n _ rfl) (by decide) rfl rfl)) aS) (wU xm rfl T.Xi Bt.str (zb (zq (zp .Mod) (zq (zp .FloorDiv) (av 0) aI) (zq (zp .Pow) aI aI)) zj (za rfl)) (Bt.n _ rfl) (by decide) rfl rfl)) aS);refine zm ?_ ?_ ?_;exact aS;refine zm ?_ ?_ ?_;exact aS;refine zm ?_ ?_ ?_;exact aS;exact zR;exact za rfl;exact za rfl;exact za rfl;exact za rfl)));refine zg ?_ ?_;exact(by refine sv true 1 Yp.nd ?_;exact(zq (zp .Add) (av 1) (yR (by refine zm ?_ ?_ ?_;exact aS;refine zm ?_ ?_ ?_;exact aS;refine zm ?_ ?_ ?_;exact aS;refine zm ?_ ?_ ?_;exact aS;refine zm ?_ ?_ ?_;exact aS;exact zR;exact za rfl;exact za rfl;exact za rfl;exact za rfl;exact za rfl))));exact zx (zL (ax hkd (av 1) (zq (zp .Mod) (av 0) (yE (yj (hkd _ rfl rfl rfl)) rfl T.wO Bt.len (zb (av 1) zj (za rfl)) (Bt.n _ rfl) (by decide) rfl rfl)))))
theorem zju(T:Txt K kd mg t)(hkd:KD1 P w K kd):FnOk P w K mg base CX0 2 t.VB t.V6 ["_law_cell","_law_many"] (spD K kd Z2):=by
 refine yK (N:=zcT) (ps:=["_law_cell","_law_many"]) (k:=1) (c:=zdl) T.zdp Zg λcdv A outer s H E hr=>?_;exact(by
  refine zg ?_ ?_;exact(xF (zW (zN (hkd _ rfl rfl rfl) (yc hr) .Eq) (zM .Eq) (zq (zp .Mod) (av 0) aI) aI (zQ _)) (zx (zL (zE (Yc T hkd) (hr.mono (by omega)) rfl T.yt T.v4.kp T.ZW zT (zb (zq (zp .FloorDiv) (av 0) aI) (zb (av 1) zj (za rfl)) (za rfl)) (by decide) rfl rfl))) yo);refine zg ?_ ?_;exact(by refine sv false 2 Zg.nd ?_;exact(yR zR));refine zg ?_ ?_;exact(by refine sv true 0 Zg.nd ?_;exact(zq (zp .FloorDiv) (av 0) aI));refine zg ?_ ?_;exact(YD PassesOwn.never rfl (Yv rfl T.xU (zb (av 1) zj (za rfl)) rfl) (an 3 Zg.nd) (by
  refine zg ?_ ?_;exact(wy (vI xr Zd PySem.F.slot_list_append PySem.F.type_list_append (pv 2) (zm (zq (zp .Mod) (av 0) (zq (zp .Mult) aI (zq (zp .Pow) aI aI))) zR (za rfl)) rfl rfl rfl rfl rfl) rfl);exact zx (by refine sv true 0 Zg.nd ?_;exact(zq (zp .FloorDiv) (av 0) (zq (zp .Mult) aI (zq (zp .Pow) aI aI))))) (λ_=>rfl))
  exact zx (zL (av 2)))
theorem zhh(T:Txt K kd mg t)(hkd:KD1 P w K kd):FnOk P w K mg base CX0 3 t.zcJ t.zcA ["_law_cell","_law_names_here"] (spD K kd wQ):=by
 refine yK (N:=zcO) (ps:=["_law_cell","_law_names_here"]) (k:=2) (c:=zho) T.zcz vm λcdv A outer s H E hr=>?_;exact(by
  refine zg ?_ ?_;exact(by refine sv true 2 vm.nd ?_;exact(zE (zju T hkd) (hr.mono (by omega)) rfl T.Z2 T.zdp.kp T.zkq zT (zb (av 0) (zb aI zj (za rfl)) (za rfl)) (by decide) rfl rfl));refine zg ?_ ?_;exact(by refine sv false 3 vm.nd ?_;exact(yR zR));refine zg ?_ ?_;exact(YD PassesOwn.never rfl (Yv rfl T.xU (zb (zq (zp .Add) aI (zq (zp .Mod) (zq (zp .FloorDiv) (av 0) aI) aI)) zj (za rfl)) rfl) (an 4 vm.nd) (by
  refine zg ?_ ?_;exact(by refine sv true 5 vm.nd ?_;exact(zq (zp .Mod) (ax hkd (av 2) (zq (zp .Mult) aI (av 4))) aI));exact zx (xF (AW.at_ (ZZ (zW (zN (hkd _ rfl rfl rfl) (yc hr) .Lt) (zM .Lt) (av 5) aI (zQ _)) (wk (zW (zN (hkd _ rfl rfl rfl) (yc hr) .Lt) (zM .Lt) (yE (yj (hkd _ rfl rfl rfl)) rfl T.wO Bt.len (zb (av 3) zj (za rfl)) (Bt.n _ rfl) (by decide) rfl rfl) aI (zQ _))))) (zx (wy (vI xr Zd PySem.F.slot_list_append PySem.F.type_list_append (pv 3) (zm (ax hkd (yR (zm (wU xm rfl T.Xi Bt.str (zb (zq (zp .Mod) (zq (zp .FloorDiv) (ax hkd (av 2) (zq (zp .Add) (zq (zp .Mult) aI (av 4)) aI)) aI) (zq (zp .Pow) aI aI)) zj (za rfl)) (Bt.n _ rfl) (by decide) rfl rfl) (zm (ax hkd (av 1) (zq (zp .Mod) (ax hkd (av 2) (zq (zp .Add) (zq (zp .Mult) aI (av 4)) aI)) aI)) zR (za rfl)) (za rfl))) (wU Yl rfl T.ziu Bt.int (zb (Z3 (zN (hkd _ rfl rfl rfl) (yc hr) .NotEq) (av 5) aI (zQ _)) zj (za rfl)) (Bt.n _ rfl) (by decide) rfl rfl)) zR (za rfl)) rfl rfl rfl rfl rfl) rfl)) (zx (xF (AW.at_ (ZZ (zW (zN (hkd _ rfl rfl rfl) (yc hr) .Lt) (zM .Lt) (av 5) aI (zQ _)) (wk (zW (zN (hkd _ rfl rfl rfl) (yc hr) .Lt) (zM .Lt) (yE (yj (hkd _ rfl rfl rfl)) rfl T.wO Bt.len (zb (av 3) zj (za rfl)) (Bt.n _ rfl) (by decide) rfl rfl) aI (zQ _))))) (by
  refine zg ?_ ?_;exact(by refine sv true 6 vm.nd ?_;exact(znL zno zqX PySem.F.slot_list_pop PySem.F.type_list_pop (pv 3) rfl rfl));refine zg ?_ ?_;exact(by refine sv true 7 vm.nd ?_;exact(ax hkd (yR (by refine zm ?_ ?_ ?_;exact aS;refine zm ?_ ?_ ?_;exact aS;refine zm ?_ ?_ ?_;exact aS;refine zm ?_ ?_ ?_;exact aS;refine zm ?_ ?_ ?_;exact aS;exact zR;exact za rfl;exact za rfl;exact za rfl;exact za rfl;exact za rfl)) (zq (zp .Mod) (av 5) aI)));exact zx (wy (vI xr Zd PySem.F.slot_list_append PySem.F.type_list_append (pv 3) (zm (zq (zp .Add) (zq (zp .Add) (zq (zp .Add) (zq (zp .Add) (av 7) aS) (znL zno zqX PySem.F.slot_list_pop PySem.F.type_list_pop (pv 3) rfl rfl)) aS) (av 6)) zR (za rfl)) rfl rfl rfl rfl rfl) rfl)) (by
  refine zg ?_ ?_;exact(ztg (z:=true) (i:=8) (s:=3) (k:=4) (N:=["_law_j","_law_done"]) vm.nd rfl (by exact Or.inl rfl) (by exact Or.inr rfl) rfl rfl rfl T.xU zmS rfl rfl (by change wW _ zcO _ (zy XF).names _=true;decide +kernel) (λcl s H fp=>zoz zhS rfl (by exact Or.inl rfl) (by exact Or.inr rfl)) (λcl s H fp=>pv 1) (λcl s H fp=>rfl) rfl (λ_=>rfl));exact zx (wy (vI xr Zd PySem.F.slot_list_append PySem.F.type_list_append (pv 3) (zm (zq (zp .Add) aS (yL (ty:=.str) (hkd _ rfl rfl rfl) Zr PySem.F.plainAttrs_str PySem.F.slot_str_join PySem.F.type_str_join aS (zb (av 8) zj (za rfl)) rfl rfl rfl rfl rfl)) zR (za rfl)) rfl rfl rfl rfl rfl) rfl)))))) (λ_=>rfl))
  exact zx (zL (ax hkd (av 3) (zq (zp .Mod) (ax hkd (av 2) aI) (yE (yj (hkd _ rfl rfl rfl)) rfl T.wO Bt.len (zb (av 3) zj (za rfl)) (Bt.n _ rfl) (by decide) rfl rfl)))))
theorem zhH(T:Txt K kd mg t)(hkd:KD1 P w K kd):∀n:Nat,FnOk P w K mg base CX0 (0+n) t.zcv t.zcG ["_law_words","_law_n","_law_numbers"] (spD K kd (yQ n))
 |0=>zol
 |n+1=>by
  have G:=zhH T hkd n;refine yK (N:=zgp) (ps:=["_law_words","_law_n","_law_numbers"]) (k:=0+n) (c:=zgY (yQ n)) T.zcN xG λcdv A outer s H E hr=>?_;exact(by
  refine zg ?_ ?_;exact(by refine sv true 3 xG.nd ?_;exact(ax hkd (av 0) aI));refine zg ?_ ?_;exact(xF (zW (zN (hkd _ rfl rfl rfl) (yc hr) .NotIn) (zM .NotIn) (av 3) (Zt (by refine zm ?_ ?_ ?_;exact aS;refine zm ?_ ?_ ?_;exact aS;refine zm ?_ ?_ ?_;exact aS;refine zm ?_ ?_ ?_;exact aS;refine zm ?_ ?_ ?_;exact aS;refine zm ?_ ?_ ?_;exact aS;exact zR;exact za rfl;exact za rfl;exact za rfl;exact za rfl;exact za rfl;exact za rfl)) rfl) (by
  refine zg ?_ ?_;exact(by refine sv true 4 xG.nd ?_;exact(yL (ty:=.dct) (hkd _ rfl rfl rfl) (znr (hkd _ rfl rfl rfl)) PySem.F.plainAttrs_dict PySem.F.slot_dict_get PySem.F.type_dict_get (av 2) (zb (av 3) zj (za rfl)) rfl rfl rfl rfl rfl));refine zg ?_ ?_;exact(xF (zW (zN (hkd _ rfl rfl rfl) (yc hr) .Is) (zM .Is) (av 4) aZ (zQ _)) (zx (by refine sv true 4 xG.nd ?_;exact(wU Yl rfl T.ziu Bt.int (zb (av 3) zj (za rfl)) (Bt.n _ rfl) (by decide) rfl rfl))) yo);exact zx (zL (Zt (zm (zq (zp .Mod) (av 4) (av 1)) (zm (vN (av 0) (vW aI) v5) zR (za rfl)) (za rfl))))) yo)
  refine zg ?_ ?_;exact(by refine sv false 5 xG.nd ?_;exact(yR zR));refine zg ?_ ?_;exact(by refine sv true 6 xG.nd ?_;exact(vN (av 0) (vW aI) v5));refine zg ?_ ?_;exact(YD PassesOwn.never rfl (Yv rfl T.xU (zb (ax hkd (yR (zm aI (zm aI zR (za rfl)) (za rfl))) (wU Yl rfl T.ziu Bt.int (zb (Z3 (zN (hkd _ rfl rfl rfl) (yc hr) .Eq) (av 3) aS (zQ _)) zj (za rfl)) (Bt.n _ rfl) (by decide) rfl rfl)) zj (za rfl)) rfl) (an 7 xG.nd) (by
  refine zg ?_ ?_;exact(zks (zE G (hr.mono (by omega)) rfl T.yQ T.zcN.kp T.zhr zT (by refine zb ?_ ?_ ?_;exact(av 6);refine zb ?_ ?_ ?_;exact(av 1);refine zb ?_ ?_ ?_;exact(av 2);exact zj;exact za rfl;exact za rfl;exact za rfl) (by decide) rfl rfl) (VG rfl (yO (an 8 xG.nd) (yO (an 6 xG.nd) Xp rfl) rfl) rfl rfl) rfl rfl rfl);exact zx (wy (vI xr Zd PySem.F.slot_list_append PySem.F.type_list_append (pv 5) (zm (av 8) zR (za rfl)) rfl rfl rfl rfl rfl) rfl)) (λ_=>rfl))
  refine zg ?_ ?_;exact(by refine sv true 9 xG.nd ?_;exact(ax hkd (av 5) aI));refine zg ?_ ?_;exact(by refine sv true 10 xG.nd ?_;exact(ax hkd (av 5) aI));refine zg ?_ ?_;exact(xF (zW (zN (hkd _ rfl rfl rfl) (yc hr) .Eq) (zM .Eq) (av 3) aS (zQ _)) (zx (zL (Zt (zm (ax hkd (av 5) (zq (zp .Add) aI (wU Yl rfl T.ziu Bt.int (zb (Z3 (zN (hkd _ rfl rfl rfl) (yc hr) .NotEq) (av 9) (av 10) (zQ _)) zj (za rfl)) (Bt.n _ rfl) (by decide) rfl rfl))) (zm (av 6) zR (za rfl)) (za rfl))))) yo);refine zg ?_ ?_;exact(by refine sv true 11 xG.nd ?_;exact(zdI (fs:=[((fC (.str "add")),(f2 (fV 9) (fV 10) (zr .Add))),((fC (.str "take")),(f2 (fV 9) (fV 10) (zr .Sub))),((fC (.str "times")),(f2 (fV 9) (fV 10) (zr .Mult))),((fC (.str "most")),(fP (aC (fV 9) (aC (fV 10) aN)) ztp))]) (wD aS (zq (zp .Add) (av 9) (av 10)) (wD aS (zq (zp .Sub) (av 9) (av 10)) (wD aS (zq (zp .Mult) (av 9) (av 10)) (wD aS (yE (zja rfl) rfl T.zuB Bt.max (zb (av 9) (zb (av 10) zj (za rfl)) (za rfl)) (Bt.n _ rfl) (by decide) rfl rfl) zdr)))) rfl rfl (by simp) (by decide)));exact zx (zL (Zt (zm (zq (zp .Mod) (yL (ty:=.dct) (hkd _ rfl rfl rfl) (znr (hkd _ rfl rfl rfl)) PySem.F.plainAttrs_dict PySem.F.slot_dict_get PySem.F.type_dict_get (av 11) (zb (av 3) (zb (yE (ziM rfl) rfl T.zuu Bt.min (zb (av 9) (zb (av 10) zj (za rfl)) (za rfl)) (Bt.n _ rfl) (by decide) rfl rfl) zj (za rfl)) (za rfl)) rfl rfl rfl rfl rfl) (av 1)) (zm (av 6) zR (za rfl)) (za rfl)))))
theorem zez(T:Txt K kd mg t)(hkd:KD1 P w K kd):FnOk P w K mg base CX0 21 t.zaZ t.zbE ["_law_text","_law_n","_law_numbers"] (spD K kd xx):=by
 refine yK (N:=zeI) (ps:=["_law_text","_law_n","_law_numbers"]) (k:=20) (c:=zfa) T.zaO zkG λcdv A outer s H E hr=>?_;exact(zx (zL (ax hkd (zE (zhH T hkd 20) (hr.mono (by omega)) rfl T.yQ T.zcN.kp T.zhr zT (by refine zb ?_ ?_ ?_;exact(yL (ty:=.str) (hkd _ rfl rfl rfl) Y8 PySem.F.plainAttrs_str PySem.F.slot_str_split PySem.F.type_str_split (av 0) (zb aS zj (za rfl)) rfl rfl rfl rfl rfl);refine zb ?_ ?_ ?_;exact(av 1);refine zb ?_ ?_ ?_;exact(av 2);exact zj;exact za rfl;exact za rfl;exact za rfl) (by decide) rfl rfl) aI)))
theorem zkN(T:Txt K kd mg t)(hkd:KD1 P w K kd):FnOk P w K mg base CX0 22 t.zaQ t.zbC ["_law_script","_law_n","_law_m","_law_names_here"] (spD K kd ZL):=by
 refine yK (N:=zbr) (ps:=["_law_script","_law_n","_law_m","_law_names_here"]) (k:=21) (c:=zeK) T.zfd wI λcdv A outer s H E hr=>?_;exact(by
  refine zg ?_ ?_;exact(by refine sv false 4 wI.nd ?_;exact(yR zR));refine zg ?_ ?_;exact(by refine sv false 5 wI.nd ?_;exact(yR zR));refine zg ?_ ?_;exact(YD PassesOwn.never rfl (Yv rfl T.xU (zb (yE (yj (hkd _ rfl rfl rfl)) rfl T.wO Bt.len (zb (av 3) zj (za rfl)) (Bt.n _ rfl) (by decide) rfl rfl) zj (za rfl)) rfl) (an 6 wI.nd) (by
  refine zg ?_ ?_;exact(by refine sv true 7 wI.nd ?_;exact(ax hkd (zE (Yc T hkd) (hr.mono (by omega)) rfl T.yt T.v4.kp T.ZW zT (zb (zE (wR T hkd) (hr.mono (by omega)) rfl T.zK T.wj.kp T.wV zT (zb (av 0) (zb (zq (zp .Add) aI (av 6)) zj (za rfl)) (za rfl)) (by decide) rfl rfl) (zb aI zj (za rfl)) (za rfl)) (by decide) rfl rfl) aI));refine zg ?_ ?_;exact(by refine sv true 8 wI.nd ?_;exact(zE (zfz T hkd) (hr.mono (by omega)) rfl T.xV T.zav.kp T.zfA zT (zb (zq (zp .FloorDiv) (av 7) aI) zj (za rfl)) (by decide) rfl rfl));refine zg ?_ ?_;exact(xF (zW (zN (hkd _ rfl rfl rfl) (yc hr) .Eq) (zM .Eq) (zq (zp .Mod) (zq (zp .FloorDiv) (av 7) aI) aI) aI (zQ _)) (zx (by refine sv true 8 wI.nd ?_;exact(zE (zhh T hkd) (hr.mono (by omega)) rfl T.wQ T.zcz.kp T.zhj zT (by refine zb ?_ ?_ ?_;exact(zE (wR T hkd) (hr.mono (by omega)) rfl T.zK T.wj.kp T.wV zT (zb (av 0) (zb (zq (zp .Add) aI (av 6)) zj (za rfl)) (za rfl)) (by decide) rfl rfl);refine zb ?_ ?_ ?_;exact(yR (zm aS (zm aS zR (za rfl)) (za rfl)));exact zj;exact za rfl;exact za rfl) (by decide) rfl rfl))) yo);refine zg ?_ ?_;exact(zfG (z:=true) (i:=9) (N:=["_law_c","_law_term_here","_law_n"]) (cap:=[none,some 8,some 1]) (S:=[0]) wI.nd rfl (by exact Or.inl rfl) (by exact Or.inr rfl) rfl rfl (vG rfl T.xU (zb (av 2) zj (za rfl)) rfl) rfl (by change wW _ zbr _ (zy YW).names _=true;decide +kernel) (by decide) (λcl s H fp=>(an 0 zga)) (λcl s H fp=>xj) (λcl s H fp=>(xQ (N:=["_law_a","_law_term_here","_law_n","_law_c"]) (cap:=[none,some 1,some 2,some 0]) (S:=[0]) rfl (vG rfl T.xU (zb (av 2) zj (za rfl)) rfl) rfl (by with_unfolding_all rfl) (by decide) (λcl s H fp=>(an 0 zhp)) (λcl s H fp=>xj) (λcl s H fp=>(zE (zez T hkd) (hr.mono (by omega)) rfl T.xx T.zaO.kp T.zeA zT (by refine zb ?_ ?_ ?_;exact(av 1);refine zb ?_ ?_ ?_;exact(av 2);refine zb ?_ ?_ ?_;exact(zdI (fs:=[((fC (.str "a")),(fV 0)),((fC (.str "c")),(fV 3))]) (wD aS (av 0) (wD aS (av 3) zdr)) rfl rfl (by simp) (by decide));exact zj;exact za rfl;exact za rfl;exact za rfl) (by decide) rfl rfl)) (λ_=>rfl))) (λ_=>rfl));refine zg ?_ ?_;exact(wy (vI xr Zd PySem.F.slot_list_append PySem.F.type_list_append (pv 4) (by refine zm ?_ ?_ ?_;exact(Zt (zm (ax hkd (av 3) (av 6)) (zm (av 9) zR (za rfl)) (za rfl)));exact zR;exact za rfl) rfl rfl rfl rfl rfl) rfl);exact zx (wy (vI xr Zd PySem.F.slot_list_append PySem.F.type_list_append (pv 5) (zm (zq (zp .Add) (zq (zp .Add) (zq (zp .Add) aS (ax hkd (av 3) (av 6))) aS) (ax hkd (yR (zm (av 8) (zm (zq (zp .Add) aS (zE (YB T hkd) (hr.mono (by omega)) rfl T.yz T.vX.kp T.Yk zT (zb (av 9) zj (za rfl)) (by decide) rfl rfl)) zR (za rfl)) (za rfl))) (zq (zp .Mod) (av 7) aI))) zR (za rfl)) rfl rfl rfl rfl rfl) rfl)) (λ_=>rfl))
  exact zx (zL (Zt (zm (av 4) (zm (av 5) zR (za rfl)) (za rfl)))))
theorem zlQ(T:Txt K kd mg t)(hkd:KD1 P w K kd):FnOk P w K mg base CX0 23 t.zbq t.zba ["_law_script"] (spD K kd Xc):=by
 refine yK (N:=Wt) (ps:=["_law_script"]) (k:=22) (c:=zeY) T.zeW yD λcdv A outer s H E hr=>?_;exact(by
  refine zg ?_ ?_;exact(by refine sv true 1 yD.nd ?_;exact(zE (wR T hkd) (hr.mono (by omega)) rfl T.zK T.wj.kp T.wV zT (zb (av 0) (zb aI zj (za rfl)) (za rfl)) (by decide) rfl rfl));refine zg ?_ ?_;exact(by refine sv true 2 yD.nd ?_;exact(zq (zp .Add) aI (zq (zp .Mod) (av 1) aI)));refine zg ?_ ?_;exact(by refine sv true 3 yD.nd ?_;exact(zq (zp .Add) aI (zq (zp .Mod) (zq (zp .FloorDiv) (av 1) aI) aI)));refine zg ?_ ?_;exact(by refine sv true 4 yD.nd ?_;exact(zE (Yc T hkd) (hr.mono (by omega)) rfl T.yt T.v4.kp T.ZW zT (zb (zq (zp .FloorDiv) (av 1) aI) (zb aI zj (za rfl)) (za rfl)) (by decide) rfl rfl));refine zg ?_ ?_;exact(by refine sv true 5 yD.nd ?_;exact(zE (zmg T hkd) (hr.mono (by omega)) rfl T.ZF T.zeJ.kp T.zlf zT (zb (zE (wR T hkd) (hr.mono (by omega)) rfl T.zK T.wj.kp T.wV zT (zb (av 0) (zb aI zj (za rfl)) (za rfl)) (by decide) rfl rfl) (zb aI zj (za rfl)) (za rfl)) (by decide) rfl rfl));refine zg ?_ ?_;exact(by refine sv true 6 yD.nd ?_;exact(zE (zfu T hkd) (hr.mono (by omega)) rfl T.wF T.zaw.kp T.zfr zT (zb (ax hkd (zE (Yc T hkd) (hr.mono (by omega)) rfl T.yt T.v4.kp T.ZW zT (zb (zE (wR T hkd) (hr.mono (by omega)) rfl T.zK T.wj.kp T.wV zT (zb (av 0) (zb aI zj (za rfl)) (za rfl)) (by decide) rfl rfl) (zb aI zj (za rfl)) (za rfl)) (by decide) rfl rfl) aI) (zb (av 2) zj (za rfl)) (za rfl)) (by decide) rfl rfl));refine zg ?_ ?_;exact(xF (zW (zN (hkd _ rfl rfl rfl) (yc hr) .Gt) (zM .Gt) (zq (zp .Mod) (zE (wR T hkd) (hr.mono (by omega)) rfl T.zK T.wj.kp T.wV zT (zb (av 0) (zb aI zj (za rfl)) (za rfl)) (by decide) rfl rfl) aI) aI (zQ _)) (zx (by refine sv true 6 yD.nd ?_;exact(zE (zhh T hkd) (hr.mono (by omega)) rfl T.wQ T.zcz.kp T.zhj zT (by refine zb ?_ ?_ ?_;exact(zq (zp .FloorDiv) (zE (wR T hkd) (hr.mono (by omega)) rfl T.zK T.wj.kp T.wV zT (zb (av 0) (zb aI zj (za rfl)) (za rfl)) (by decide) rfl rfl) aI);refine zb ?_ ?_ ?_;exact(yR (zm aS (zm aS zR (za rfl)) (za rfl)));exact zj;exact za rfl;exact za rfl) (by decide) rfl rfl))) yo);refine zg ?_ ?_;exact(zfG (z:=true) (i:=7) (N:=["_law_a","_law_term_here","_law_n"]) (cap:=[none,some 6,some 2]) (S:=[0]) yD.nd rfl (by exact Or.inl rfl) (by exact Or.inr rfl) rfl rfl (vG rfl T.xU (zb (av 2) zj (za rfl)) rfl) rfl (by change wW _ Wt _ (zy Zy).names _=true;decide +kernel) (by decide) (λcl s H fp=>(an 0 zgK)) (λcl s H fp=>xj) (λcl s H fp=>(xQ (N:=["_law_b","_law_term_here","_law_n","_law_a"]) (cap:=[none,some 1,some 2,some 0]) (S:=[0]) rfl (vG rfl T.xU (zb (av 2) zj (za rfl)) rfl) rfl (by with_unfolding_all rfl) (by decide) (λcl s H fp=>(an 0 zhk)) (λcl s H fp=>xj) (λcl s H fp=>(zE (zez T hkd) (hr.mono (by omega)) rfl T.xx T.zaO.kp T.zeA zT (by refine zb ?_ ?_ ?_;exact(av 1);refine zb ?_ ?_ ?_;exact(av 2);refine zb ?_ ?_ ?_;exact(zdI (fs:=[((fC (.str "a")),(fV 3)),((fC (.str "b")),(fV 0))]) (wD aS (av 3) (wD aS (av 0) zdr)) rfl rfl (by simp) (by decide));exact zj;exact za rfl;exact za rfl;exact za rfl) (by decide) rfl rfl)) (λ_=>rfl))) (λ_=>rfl));refine zg ?_ ?_;exact(zks (zE (zkN T hkd) (hr.mono (by omega)) rfl T.ZL T.zfd.kp T.zmp zT (by refine zb ?_ ?_ ?_;exact(av 0);refine zb ?_ ?_ ?_;exact(av 2);refine zb ?_ ?_ ?_;exact(av 3);refine zb ?_ ?_ ?_;exact(vN (av 5) v5 (vW (zq (zp .Mod) (ax hkd (av 4) aI) aI)));exact zj;exact za rfl;exact za rfl;exact za rfl;exact za rfl) (by decide) rfl rfl) (VG rfl (yO (an 8 yD.nd) (yO (an 9 yD.nd) Xp rfl) rfl) rfl rfl) rfl rfl rfl);refine zg ?_ ?_;exact(by refine sv false 10 yD.nd ?_;exact(yR zR));refine zg ?_ ?_;exact(YD PassesOwn.never rfl (Yv rfl T.xU (zb (zq (zp .Mod) (ax hkd (av 4) aI) aI) zj (za rfl)) rfl) (an 11 yD.nd) (zx (wy (vI xr Zd PySem.F.slot_list_append PySem.F.type_list_append (pv 10) (by refine zm ?_ ?_ ?_;exact(Zt (zm (ax hkd (av 5) (zq (zp .Add) aI (av 11))) (zm (xQ (N:=["_law_v","_law_xs","_law_k"]) (cap:=[none,some 4,some 11]) (S:=[0]) rfl (vG rfl T.xU (zb (av 2) zj (za rfl)) rfl) rfl (by change wW _ Wt _ (zy Zy).names _=true;decide +kernel) (by decide) (λcl s H fp=>(an 0 zgg)) (λcl s H fp=>(zsW (zW (zN (hkd _ rfl rfl rfl) (yc hr) .Eq) (zM .Eq) (zq (zp .Mod) (zq (zp .FloorDiv) (ax hkd (av 1) (zq (zp .Add) aI (av 2))) (ax hkd (yR (by refine zm ?_ ?_ ?_;exact aI;refine zm ?_ ?_ ?_;exact aI;refine zm ?_ ?_ ?_;exact aI;refine zm ?_ ?_ ?_;exact aI;refine zm ?_ ?_ ?_;exact aI;refine zm ?_ ?_ ?_;exact aI;refine zm ?_ ?_ ?_;exact aI;refine zm ?_ ?_ ?_;exact aI;exact zR;exact za rfl;exact za rfl;exact za rfl;exact za rfl;exact za rfl;exact za rfl;exact za rfl;exact za rfl)) (av 0))) aI) aI (zQ _)))) (λcl s H fp=>(av 0)) (λ_=>rfl)) zR (za rfl)) (za rfl)));exact zR;exact za rfl) rfl rfl rfl rfl rfl) rfl)) (λ_=>rfl));refine zg ?_ ?_;exact(by refine sv true 12 yD.nd ?_;exact(Zt (by refine zm ?_ ?_ ?_;exact(av 2);refine zm ?_ ?_ ?_;exact(av 3);refine zm ?_ ?_ ?_;exact(av 7);refine zm ?_ ?_ ?_;exact(zq (zp .Mod) (ax hkd (av 4) aI) (av 2));refine zm ?_ ?_ ?_;exact(av 8);refine zm ?_ ?_ ?_;exact(av 10);exact zR;exact za rfl;exact za rfl;exact za rfl;exact za rfl;exact za rfl;exact za rfl)));refine zg ?_ ?_;exact(by refine sv false 13 yD.nd ?_;exact(zE (zeC T hkd) (hr.mono (by omega)) rfl T.vA T.zbG.kp T.zfb zT (zb (av 12) zj (za rfl)) (by decide) rfl rfl));refine zg ?_ ?_;exact(xF (zW (zN (hkd _ rfl rfl rfl) (yc hr) .Eq) (zM .Eq) (zq (zp .Mod) (zq (zp .FloorDiv) (ax hkd (av 4) aI) aI) aI) aI (zQ _)) (zx (zss (pv 13) zvT (zq (zp .Add) aS (av 6)) (λ_=>rfl) rfl rfl rfl)) yo);exact zx (zL (Zt (zm (av 12) (zm (zq (zp .Add) (zq (zp .Add) (vN (av 13) v5 (vW aI)) (av 9)) (vN (av 13) (vW (zq (zp .Add) aI (yE (yj (hkd _ rfl rfl rfl)) rfl T.wO Bt.len (zb (av 9) zj (za rfl)) (Bt.n _ rfl) (by decide) rfl rfl))) v5)) zR (za rfl)) (za rfl)))))
theorem o_law(T:Txt K kd mg t)(hkd:KD1 P w K kd):FnOk P w K mg base CX0 27 t.zqu t.zqo ["_law_script"] (spD K kd zhw):=by
 refine yK (N:=zul) (ps:=["_law_script"]) (k:=26) (c:=zuA) T.zwC zgD λcdv A outer s H E hr=>?_;exact(by
  refine zg ?_ ?_;exact(zks (zE (zlQ T hkd) (hr.mono (by omega)) rfl T.Xc T.zeW.kp T.zlU zT (zb (av 0) zj (za rfl)) (by decide) rfl rfl) (VG rfl (yO (an 1 zgD.nd) (yO (an 2 zgD.nd) Xp rfl) rfl) rfl rfl) rfl rfl rfl);refine zg ?_ ?_;exact(by refine sv true 3 zgD.nd ?_;exact(zE (X6 T hkd) (hr.mono (by omega)) rfl T.yM T.ZV.kp T.Xz zT (zb (yL (ty:=.str) (hkd _ rfl rfl rfl) Zr PySem.F.plainAttrs_str PySem.F.slot_str_join PySem.F.type_str_join aS (zb (av 2) zj (za rfl)) rfl rfl rfl rfl rfl) zj (za rfl)) (by decide) rfl rfl));refine zg ?_ ?_;exact(xF (AW.at_ (ZZ (Vz (Wy (znm (hkd _ rfl rfl rfl) rfl rfl T.VN Bt.isinstance rfl T.zoo Bt.tuple (av 3) (Bt.n _ rfl) (by decide) (Bt.n _ rfl) (by decide) rfl rfl rfl) (λ_=>rfl))) (ZZ (zW (zN (hkd _ rfl rfl rfl) (yc hr) .NotEq) (zM .NotEq) (av 3) (av 1) (zQ _)) (wk (zW (zN (hkd _ rfl rfl rfl) (yc hr) .NotEq) (zM .NotEq) (yE (zhn hr.gd (yc hr)) rfl T.zpL Bt.repr (zb (av 3) zj (za rfl)) (Bt.n _ rfl) (by decide) rfl rfl) (yE (zhn hr.gd (yc hr)) rfl T.zpL Bt.repr (zb (av 1) zj (za rfl)) (Bt.n _ rfl) (by decide) rfl rfl) (zQ _)))))) (zx (zL aB)) yo);refine zg ?_ ?_;exact(by refine sv true 4 zgD.nd ?_;exact(zE (zgB T hkd) (hr.mono (by omega)) rfl T.vU T.zbl.kp T.zgO zT (zb (av 3) zj (za rfl)) (by decide) rfl rfl));refine zg ?_ ?_;exact(xF (zW (zN (hkd _ rfl rfl rfl) (yc hr) .NotEq) (zM .NotEq) (av 4) (yL (ty:=.str) (hkd _ rfl rfl rfl) Zr PySem.F.plainAttrs_str PySem.F.slot_str_join PySem.F.type_str_join aS (zb (zE (zeC T hkd) (hr.mono (by omega)) rfl T.vA T.zbG.kp T.zfb zT (zb (av 1) zj (za rfl)) (by decide) rfl rfl) zj (za rfl)) rfl rfl rfl rfl rfl) (zQ _)) (zx (zL aB)) yo);exact zx (zL (zhG (Z3 (zN (hkd _ rfl rfl rfl) (yc hr) .Eq) (zE (X6 T hkd) (hr.mono (by omega)) rfl T.yM T.ZV.kp T.Xz zT (zb (av 4) zj (za rfl)) (by decide) rfl rfl) (av 1) (zQ _)) (zhE (Z3 (zN (hkd _ rfl rfl rfl) (yc hr) .Eq) (zE (X6 T hkd) (hr.mono (by omega)) rfl T.yM T.ZV.kp T.Xz zT (zb (yL (ty:=.str) (hkd _ rfl rfl rfl) Zr PySem.F.plainAttrs_str PySem.F.slot_str_join PySem.F.type_str_join aS (zb (av 2) zj (za rfl)) rfl rfl rfl rfl rfl) zj (za rfl)) (by decide) rfl rfl) (av 1) (zQ _))))))
end
abbrev NsR(K:zC)(x:Str)(f:Addr):Prop:=PySem.W.nsIn K mainGlobals x=some (some (.ref f))
abbrev FnAt(K:zC)(x q:Str)(s:Stmt)(f:Addr):Prop:=∃d,Fun K x q s f d
theorem zvN{l:PySem.W.OpenLaw}{w:World}{K:zC}{h:Heap}{mg:Str->Option Value}{fa:Addr}(X:K.In h)(G:h.Ns mainGlobals mg)(hfa:mg "law"=some (.ref fa))
 {f0 f1 f2 f3 f4 f5 f6 f7 f8 f9 f10 f11 f12 f13 f14 f15 f16 f17 f18 f19 f20 f21 f22 f23 f24 f25 f26 f27 f28 f29 f30 f31 f32 f33 f34 f35 f36 f37 f38 f39 f40 f41 f42 f43 f44 f45 f46 f47 f48 f49:Addr}
 {tk0_0:Tok}
 {q1:Addr}{go1:Option Addr}{gn1:Nat}{gs1:Array (Option Value)}{tk1_0:Tok}{tk1_1:Tok}{tk1_2:Tok}
 {tk2_0:Tok}
 {tk3_0:Tok}
 {tk4_0:Tok}
 {tk5_0:Tok}
 {tk6_0:Tok}
 {tk7_0:Tok}
 {tk8_0:Tok}
 {tk9_0:Tok}
 {q10:Addr}{gn10:Nat}{tk10_0:Tok}{tx10_0:Tok}{tk10_1:Tok}{tx10_1:Tok}{tk10_2:Tok}{tx10_2:Tok}{tk10_3:Tok}{tx10_3:Tok}{tk10_4:Tok}{tx10_4:Tok}{tk10_5:Tok}{tx10_5:Tok}
 {tk11_0:Tok}
 (a0:NsR K "is_let" f0) (l0:FnAt K "is_let" "is_let" zcX f0)
 (a1:NsR K "parts_after" f1) (l1:FnAt K "parts_after" "parts_after" YQ f1)
 (a2:NsR K "of_two" f2) (l2:FnAt K "of_two" "of_two" zdt f2)
 (a3:NsR K "worth" f3) (l3:FnAt K "worth" "worth" zfM f3)
 (a4:NsR K "is_name" f4) (l4:FnAt K "is_name" "is_name" Vv f4)
 (a5:NsR K "is_rising" f5) (l5:FnAt K "is_rising" "is_rising" Y7 f5)
 (a6:NsR K "join_by" f6) (l6:FnAt K "join_by" "join_by" Vn f6)
 (a7:NsR K "rows_by" f7) (l7:FnAt K "rows_by" "rows_by" Va f7)
 (a8:NsR K "is_figures" f8) (l8:FnAt K "is_figures" "is_figures" ZQ f8)
 (a9:NsR K "fits" f9) (l9:FnAt K "fits" "fits" zkx f9)
 (a10:NsR K "first_fault" f10) (l10:FnAt K "first_fault" "first_fault" YM f10)
 (a11:NsR K "leaf_of" f11) (l11:FnAt K "leaf_of" "leaf_of" zbS f11)
 (a12:NsR K "term_of" f12) (l12:FnAt K "term_of" "term_of" zbX f12)
 (a13:NsR K "read_term" f13) (l13:FnAt K "read_term" "read_term" Wd f13)
 (a14:NsR K "show_row" f14) (l14:FnAt K "show_row" "show_row" X8 f14)
 (a15:NsR K "show_rows" f15) (l15:FnAt K "show_rows" "show_rows" Xb f15)
 (a16:NsR K "show_sign" f16) (l16:FnAt K "show_sign" "show_sign" Y0 f16)
 (a17:NsR K "show_algebra" f17) (l17:FnAt K "show_algebra" "show_algebra" wY f17)
 (a18:NsR K "read_number" f18) (l18:FnAt K "read_number" "read_number" YG f18)
 (a19:NsR K "read_row" f19) (l19:FnAt K "read_row" "read_row" X4 f19)
 (a20:NsR K "read_rows" f20) (l20:FnAt K "read_rows" "read_rows" ZC f20)
 (a21:NsR K "read_some_term" f21) (l21:FnAt K "read_some_term" "read_some_term" vZ f21)
 (a22:NsR K "read_join_table" f22) (l22:FnAt K "read_join_table" "read_join_table" vK f22)
 (a23:NsR K "read_deed_table" f23) (l23:FnAt K "read_deed_table" "read_deed_table" vJ f23)
 (a24:NsR K "read_sizes" f24) (l24:FnAt K "read_sizes" "read_sizes" Xq f24)
 (a25:NsR K "read_join" f25) (l25:FnAt K "read_join" "read_join" Wc f25)
 (a26:NsR K "read_nothing" f26) (l26:FnAt K "read_nothing" "read_nothing" Z0 f26)
 (a27:NsR K "is_new" f27) (l27:FnAt K "is_new" "is_new" zbh f27)
 (a28:NsR K "read_deed" f28) (l28:FnAt K "read_deed" "read_deed" Wu f28)
 (a29:NsR K "read_sign" f29) (l29:FnAt K "read_sign" "read_sign" Wx f29)
 (a30:NsR K "line_at" f30) (l30:FnAt K "line_at" "line_at" zbW f30)
 (a31:NsR K "as_told" f31) (l31:FnAt K "as_told" "as_told" zbU f31)
 (a32:NsR K "read_deeds" f32) (l32:FnAt K "read_deeds" "read_deeds" Xj f32)
 (a33:NsR K "read_signs" f33) (l33:FnAt K "read_signs" "read_signs" Xm f33)
 (a34:NsR K "read_algebra" f34) (l34:FnAt K "read_algebra" "read_algebra" ZR f34)
 (a35:NsR K "_law_cell_at" f35) (l35:FnAt K "_law_cell_at" "_law_cell_at" YS f35)
 (a36:NsR K "_law_whole" f36) (l36:FnAt K "_law_whole" "_law_whole" zbi f36)
 (a37:NsR K "_law_stream" f37) (l37:FnAt K "_law_stream" "_law_stream" Xk f37)
 (a38:NsR K "_law_names" f38) (l38:FnAt K "_law_names" "_law_names" YZ f38)
 (a39:NsR K "_law_shown_rows" f39) (l39:FnAt K "_law_shown_rows" "_law_shown_rows" vd f39)
 (a40:NsR K "_law_lines" f40) (l40:FnAt K "_law_lines" "_law_lines" Y6 f40)
 (a41:NsR K "_law_join_term" f41) (l41:FnAt K "_law_join_term" "_law_join_term" Zo f41)
 (a42:NsR K "_law_deed_term" f42) (l42:FnAt K "_law_deed_term" "_law_deed_term" Zq f42)
 (a43:NsR K "_law_digits" f43) (l43:FnAt K "_law_digits" "_law_digits" Xo f43)
 (a44:NsR K "_law_term" f44) (l44:FnAt K "_law_term" "_law_term" XF f44)
 (a45:NsR K "_law_pair" f45) (l45:FnAt K "_law_pair" "_law_pair" VJ f45)
 (a46:NsR K "_law_worth" f46) (l46:FnAt K "_law_worth" "_law_worth" Wl f46)
 (a47:NsR K "_law_deeds" f47) (l47:FnAt K "_law_deeds" "_law_deeds" YW f47)
 (a48:NsR K "_law_drawn" f48) (l48:FnAt K "_law_drawn" "_law_drawn" Zy f48)
 (a49:NsR K "law" f49) (l49:FnAt K "law" "law" zoA f49)
 (cg0:PySem.W.nsIn K mainGlobals "FIGURES"=some (some (.str "0123456789" tk0_0)))
 (cg1:PySem.W.nsIn K mainGlobals "LETTERS"=some (some (.ref q1))) (ch1:K.lookup q1=some ⟨.type "tuple",go1,.seq #[.str "a" tk1_0,.str "b" tk1_1,.str "c" tk1_2] gn1,gs1⟩)
 (cg2:PySem.W.nsIn K mainGlobals "MOST_AROUND"=some (some (.int 6 tk2_0)))
 (cg3:PySem.W.nsIn K mainGlobals "MOST_DEEDS"=some (some (.int 6 tk3_0)))
 (cg4:PySem.W.nsIn K mainGlobals "MOST_FIGURES"=some (some (.int 60 tk4_0)))
 (cg5:PySem.W.nsIn K mainGlobals "MOST_LETTERS"=some (some (.int 8 tk5_0)))
 (cg6:PySem.W.nsIn K mainGlobals "MOST_SIGNS"=some (some (.int 4 tk6_0)))
 (cg7:PySem.W.nsIn K mainGlobals "MOST_TERMS"=some (some (.int 40 tk7_0)))
 (cg8:PySem.W.nsIn K mainGlobals "MOST_VALUES"=some (some (.int 8 tk8_0)))
 (cg9:PySem.W.nsIn K mainGlobals "MOST_WITHIN"=some (some (.int 12 tk9_0)))
 (cg10:PySem.W.nsIn K mainGlobals "PARTS"=some (some (.ref q10))) (ch10:K.lookup q10=some {cls:=.type "dict",data:=.dict #[⟨PyData.keyHash w.params "add",.str "add" tx10_0,.int 2 tk10_0⟩,⟨PyData.keyHash w.params "take",.str "take" tx10_1,.int 2 tk10_1⟩,⟨PyData.keyHash w.params "times",.str "times" tx10_2,.int 2 tk10_2⟩,⟨PyData.keyHash w.params "most",.str "most" tx10_3,.int 2 tk10_3⟩,⟨PyData.keyHash w.params "least",.str "least" tx10_4,.int 2 tk10_4⟩,⟨PyData.keyHash w.params "same",.str "same" tx10_5,.int 4 tk10_5⟩] gn10})
 (cg11:PySem.W.nsIn K mainGlobals "SMALL_LETTERS"=some (some (.str "abcdefghijklmnopqrstuvwxyz" tk11_0)))
 (s10:(q10==sysModules)=false)
 (z0:PySem.W.nsIn K mainGlobals "all"=some none) (z1:PySem.W.nsIn K mainGlobals "bool"=some none) (z2:PySem.W.nsIn K mainGlobals "enumerate"=some none) (z3:PySem.W.nsIn K mainGlobals "int"=some none) (z4:PySem.W.nsIn K mainGlobals "isinstance"=some none) (z5:PySem.W.nsIn K mainGlobals "len"=some none) (z6:PySem.W.nsIn K mainGlobals "max"=some none) (z7:PySem.W.nsIn K mainGlobals "min"=some none) (z8:PySem.W.nsIn K mainGlobals "range"=some none) (z9:PySem.W.nsIn K mainGlobals "repr"=some none) (z10:PySem.W.nsIn K mainGlobals "reversed"=some none) (z11:PySem.W.nsIn K mainGlobals "str"=some none) (z12:PySem.W.nsIn K mainGlobals "tuple"=some none):
 ∃fd:FuncData,(∀(s:Shared) (v:Value),BindsTo s fd ⟨[v],[]⟩ [("_law_script",v)])/\∀base:Heap,K.In base->base.Ns mainGlobals mg->FnOk l.prog w K mg base CX0 27 fa fd ["_law_script"] (spL K zhw):=by
 have e:=hfa.symm.trans (PySem.W.mg_of X G a49);cases e;obtain⟨_,F0⟩:=l0;have b0:=F0.binds (ps:=["thing","names"]) λ_ _ _ _ _ _=>l2_ λ_ _=>rfl;obtain⟨_,F1⟩:=l1;have b1:=F1.binds (ps:=["word"]) λ_ _ _ _ _ _=>l1_ λ_=>rfl;obtain⟨_,F2⟩:=l2;have b2:=F2.binds (ps:=["word","one","other"]) λ_ _ _ _ _ _=>l3_ λ_ _ _=>rfl;obtain⟨_,F3⟩:=l3;have b3:=F3.binds (ps:=["term","n","numbers"]) λ_ _ _ _ _ _=>l3_ λ_ _ _=>rfl;obtain⟨_,F4⟩:=l4;have b4:=F4.binds (ps:=["thing"]) λ_ _ _ _ _ _=>l1_ λ_=>rfl;obtain⟨_,F5⟩:=l5;have b5:=F5.binds (ps:=["row"]) λ_ _ _ _ _ _=>l1_ λ_=>rfl;obtain⟨_,F6⟩:=l6;have b6:=F6.binds (ps:=["n","term"]) λ_ _ _ _ _ _=>l2_ λ_ _=>rfl;obtain⟨_,F7⟩:=l7;have b7:=F7.binds (ps:=["n","m","term"]) λ_ _ _ _ _ _=>l3_ λ_ _ _=>rfl;obtain⟨_,F8⟩:=l8;have b8:=F8.binds (ps:=["word","most"]) λ_ _ _ _ _ _=>l2_ λ_ _=>rfl;obtain⟨_,F9⟩:=l9;have b9:=F9.binds (ps:=["word","within","names"]) λ_ _ _ _ _ _=>l3_ λ_ _ _=>rfl;obtain⟨_,F10⟩:=l10;have b10:=F10.binds (ps:=["words","names"]) λ_ _ _ _ _ _=>l2_ λ_ _=>rfl;obtain⟨_,F11⟩:=l11;have b11:=F11.binds (ps:=["word"]) λ_ _ _ _ _ _=>l1_ λ_=>rfl;obtain⟨_,F12⟩:=l12;have b12:=F12.binds (ps:=["words"]) λ_ _ _ _ _ _=>l1_ λ_=>rfl;obtain⟨_,F13⟩:=l13;have b13:=F13.binds (ps:=["text","names"]) λ_ _ _ _ _ _=>l2_ λ_ _=>rfl;obtain⟨_,F14⟩:=l14;have b14:=F14.binds (ps:=["row"]) λ_ _ _ _ _ _=>l1_ λ_=>rfl;obtain⟨_,F15⟩:=l15;have b15:=F15.binds (ps:=["rows"]) λ_ _ _ _ _ _=>l1_ λ_=>rfl;obtain⟨_,F16⟩:=l16;have b16:=F16.binds (ps:=["name","values"]) λ_ _ _ _ _ _=>l2_ λ_ _=>rfl;obtain⟨_,F17⟩:=l17;have b17:=F17.binds (ps:=["algebra"]) λ_ _ _ _ _ _=>l1_ λ_=>rfl;obtain⟨_,F18⟩:=l18;have b18:=F18.binds (ps:=["word","least","most"]) λ_ _ _ _ _ _=>l3_ λ_ _ _=>rfl;obtain⟨_,F19⟩:=l19;have b19:=F19.binds (ps:=["words","n"]) λ_ _ _ _ _ _=>l2_ λ_ _=>rfl;obtain⟨_,F20⟩:=l20;have b20:=F20.binds (ps:=["text","many","n"]) λ_ _ _ _ _ _=>l3_ λ_ _ _=>rfl;obtain⟨_,F21⟩:=l21;have b21:=F21.binds (ps:=["text","names"]) λ_ _ _ _ _ _=>l2_ λ_ _=>rfl;obtain⟨_,F22⟩:=l22;have b22:=F22.binds (ps:=["text","n"]) λ_ _ _ _ _ _=>l2_ λ_ _=>rfl;obtain⟨_,F23⟩:=l23;have b23:=F23.binds (ps:=["text","n","m"]) λ_ _ _ _ _ _=>l3_ λ_ _ _=>rfl;obtain⟨_,F24⟩:=l24;have b24:=F24.binds (ps:=["line"]) λ_ _ _ _ _ _=>l1_ λ_=>rfl;obtain⟨_,F25⟩:=l25;have b25:=F25.binds (ps:=["line","n"]) λ_ _ _ _ _ _=>l2_ λ_ _=>rfl;obtain⟨_,F26⟩:=l26;have b26:=F26.binds (ps:=["line","n"]) λ_ _ _ _ _ _=>l2_ λ_ _=>rfl;obtain⟨_,F27⟩:=l27;have b27:=F27.binds (ps:=["name","told"]) λ_ _ _ _ _ _=>l2_ λ_ _=>rfl;obtain⟨_,F28⟩:=l28;have b28:=F28.binds (ps:=["line","n","m","told"]) λ_ _ _ _ _ _=>l4_ λ_ _ _ _=>rfl;obtain⟨_,F29⟩:=l29;have b29:=F29.binds (ps:=["line","n","told"]) λ_ _ _ _ _ _=>l3_ λ_ _ _=>rfl;obtain⟨_,F30⟩:=l30;have b30:=F30.binds (ps:=["lines","at"]) λ_ _ _ _ _ _=>l2_ λ_ _=>rfl;obtain⟨_,F31⟩:=l31;have b31:=F31.binds (ps:=["thing","at"]) λ_ _ _ _ _ _=>l2_ λ_ _=>rfl;obtain⟨_,F32⟩:=l32;have b32:=F32.binds (ps:=["lines","n","m"]) λ_ _ _ _ _ _=>l3_ λ_ _ _=>rfl;obtain⟨_,F33⟩:=l33;have b33:=F33.binds (ps:=["lines","start","n"]) λ_ _ _ _ _ _=>l3_ λ_ _ _=>rfl;obtain⟨_,F34⟩:=l34;have b34:=F34.binds (ps:=["text"]) λ_ _ _ _ _ _=>l1_ λ_=>rfl;obtain⟨_,F35⟩:=l35;have b35:=F35.binds (ps:=["_law_script","_law_k"]) λ_ _ _ _ _ _=>l2_ λ_ _=>rfl;obtain⟨_,F36⟩:=l36;have b36:=F36.binds (ps:=["_law_found"]) λ_ _ _ _ _ _=>l1_ λ_=>rfl;obtain⟨_,F37⟩:=l37;have b37:=F37.binds (ps:=["_law_cell","_law_many"]) λ_ _ _ _ _ _=>l2_ λ_ _=>rfl;obtain⟨_,F38⟩:=l38;have b38:=F38.binds (ps:=["_law_cell","_law_many"]) λ_ _ _ _ _ _=>l2_ λ_ _=>rfl;obtain⟨_,F39⟩:=l39;have b39:=F39.binds (ps:=["_law_rows"]) λ_ _ _ _ _ _=>l1_ λ_=>rfl;obtain⟨_,F40⟩:=l40;have b40:=F40.binds (ps:=["_law_algebra"]) λ_ _ _ _ _ _=>l1_ λ_=>rfl;obtain⟨_,F41⟩:=l41;have b41:=F41.binds (ps:=["_law_x","_law_n"]) λ_ _ _ _ _ _=>l2_ λ_ _=>rfl;obtain⟨_,F42⟩:=l42;have b42:=F42.binds (ps:=["_law_x"]) λ_ _ _ _ _ _=>l1_ λ_=>rfl;obtain⟨_,F43⟩:=l43;have b43:=F43.binds (ps:=["_law_cell","_law_many"]) λ_ _ _ _ _ _=>l2_ λ_ _=>rfl;obtain⟨_,F44⟩:=l44;have b44:=F44.binds (ps:=["_law_cell","_law_names_here"]) λ_ _ _ _ _ _=>l2_ λ_ _=>rfl;obtain⟨_,F45⟩:=l45;have b45:=F45.binds (ps:=["_law_words","_law_n","_law_numbers"]) λ_ _ _ _ _ _=>l3_ λ_ _ _=>rfl;obtain⟨_,F46⟩:=l46;have b46:=F46.binds (ps:=["_law_text","_law_n","_law_numbers"]) λ_ _ _ _ _ _=>l3_ λ_ _ _=>rfl;obtain⟨_,F47⟩:=l47;have b47:=F47.binds (ps:=["_law_script","_law_n","_law_m","_law_names_here"]) λ_ _ _ _ _ _=>l4_ λ_ _ _ _=>rfl;obtain⟨_,F48⟩:=l48;have b48:=F48.binds (ps:=["_law_script"]) λ_ _ _ _ _ _=>l1_ λ_=>rfl;obtain⟨_,F49⟩:=l49;obtain⟨_,_,_,_,_,_,_,_,_,rfl,_,_⟩:=F49.ex;have b49:=F49.binds (ps:=["_law_script"]) λ_ _ _ _ _ _=>l1_ λ_=>rfl;let KL:List (Addr×List (Key×V)):=[(q10,[(.inr "add",(.int 2)),(.inr "take",(.int 2)),(.inr "times",(.int 2)),(.inr "most",(.int 2)),(.inr "least",(.int 2)),(.inr "same",(.int 4))])];have hkd:KD1 l.prog w K (kdL KL):=zvj λp m=>by
  rw[zzN.mp m];exact⟨⟨_,_,ch10,(.str ⟨_,rfl⟩ (.str ⟨_,rfl⟩ (.str ⟨_,rfl⟩ (.str ⟨_,rfl⟩ (.str ⟨_,rfl⟩ (.str ⟨_,rfl⟩ .nil))))))⟩,show([.inr "add",.inr "take",.inr "times",.inr "most",.inr "least",.inr "same"]:List Key).Nodup by decide +kernel,show 6<=sizeLine by decide,s10⟩
 have LK10:KL.lookup q10=some ([(.inr "add",(.int 2)),(.inr "take",(.int 2)),(.inr "times",(.int 2)),(.inr "most",(.int 2)),(.inr "least",(.int 2)),(.inr "same",(.int 4))]:List (Key×V)):=by
  show List.lookup q10 ([(q10,[(.inr "add",(.int 2)),(.inr "take",(.int 2)),(.inr "times",(.int 2)),(.inr "most",(.int 2)),(.inr "least",(.int 2)),(.inr "same",(.int 4))])]:List (Addr×List (Key×V)))=_;rw[List.lookup_cons,beq_self_eq_true]
 have T:Txt K (kdL KL) mg ⟨_,_,_,_,_,_,_,_,_,_,_,_,_,_,_,_,_,_,_,_,_,_,_,_,_,_,_,_,_,_,_,_,_,_,_,_,_,_,_,_,_,_,_,_,_,_,_,_,_,_,_,_,_,_,_,_,_,_,_,_,_,_,_,_,_,_,_,_,_,_,_,_,_,_,_,_,_,_,_,_,_,_,_,_,_,_,_,_,_,_,_,_,_,_,_,_,_,_,_,_⟩:=⟨F0,b0,PySem.W.mg_of X G a0,F1,b1,PySem.W.mg_of X G a1,F2,b2,PySem.W.mg_of X G a2,F3,b3,PySem.W.mg_of X G a3,F4,b4,PySem.W.mg_of X G a4,F5,b5,PySem.W.mg_of X G a5,F6,b6,PySem.W.mg_of X G a6,F7,b7,PySem.W.mg_of X G a7,F8,b8,PySem.W.mg_of X G a8,F9,b9,PySem.W.mg_of X G a9,F10,b10,PySem.W.mg_of X G a10,F11,b11,PySem.W.mg_of X G a11,F12,b12,PySem.W.mg_of X G a12,F13,b13,PySem.W.mg_of X G a13,F14,b14,PySem.W.mg_of X G a14,F15,b15,PySem.W.mg_of X G a15,F16,b16,PySem.W.mg_of X G a16,F17,b17,PySem.W.mg_of X G a17,F18,b18,PySem.W.mg_of X G a18,F19,b19,PySem.W.mg_of X G a19,F20,b20,PySem.W.mg_of X G a20,F21,b21,PySem.W.mg_of X G a21,F22,b22,PySem.W.mg_of X G a22,F23,b23,PySem.W.mg_of X G a23,F24,b24,PySem.W.mg_of X G a24,F25,b25,PySem.W.mg_of X G a25,F26,b26,PySem.W.mg_of X G a26,F27,b27,PySem.W.mg_of X G a27,F28,b28,PySem.W.mg_of X G a28,F29,b29,PySem.W.mg_of X G a29,F30,b30,PySem.W.mg_of X G a30,F31,b31,PySem.W.mg_of X G a31,F32,b32,PySem.W.mg_of X G a32,F33,b33,PySem.W.mg_of X G a33,F34,b34,PySem.W.mg_of X G a34,F35,b35,PySem.W.mg_of X G a35,F36,b36,PySem.W.mg_of X G a36,F37,b37,PySem.W.mg_of X G a37,F38,b38,PySem.W.mg_of X G a38,F39,b39,PySem.W.mg_of X G a39,F40,b40,PySem.W.mg_of X G a40,F41,b41,PySem.W.mg_of X G a41,F42,b42,PySem.W.mg_of X G a42,F43,b43,PySem.W.mg_of X G a43,F44,b44,PySem.W.mg_of X G a44,F45,b45,PySem.W.mg_of X G a45,F46,b46,PySem.W.mg_of X G a46,F47,b47,PySem.W.mg_of X G a47,F48,b48,PySem.W.mg_of X G a48,F49,b49,PySem.W.mg_of X G a49,GC.str (PySem.W.mg_of X G cg0),GC.tup (vs:=[(.str "a"),(.str "b"),(.str "c")]) (PySem.W.mg_of X G cg1) ch1 (show 3<=sizeLine by decide) (.cons ⟨_,rfl⟩ (.cons ⟨_,rfl⟩ (.cons ⟨_,rfl⟩ .nil))) (λ_ _=>(.cons (.str _) (.cons (.str _) (.cons (.str _) .nil)))),GC.int (PySem.W.mg_of X G cg2),GC.int (PySem.W.mg_of X G cg3),GC.int (PySem.W.mg_of X G cg4),GC.int (PySem.W.mg_of X G cg5),GC.int (PySem.W.mg_of X G cg6),GC.int (PySem.W.mg_of X G cg7),GC.int (PySem.W.mg_of X G cg8),GC.int (PySem.W.mg_of X G cg9),GC.dct (PySem.W.mg_of X G cg10) LK10 (λ_ _=>(.cons (.int _) (.cons (.int _) (.cons (.int _) (.cons (.int _) (.cons (.int _) (.cons (.int _) .nil))))))),GC.str (PySem.W.mg_of X G cg11),PySem.W.mg_none_of X G z0,PySem.W.mg_none_of X G z1,PySem.W.mg_none_of X G z2,PySem.W.mg_none_of X G z3,PySem.W.mg_none_of X G z4,PySem.W.mg_none_of X G z5,PySem.W.mg_none_of X G z6,PySem.W.mg_none_of X G z7,PySem.W.mg_none_of X G z8,PySem.W.mg_none_of X G z9,PySem.W.mg_none_of X G z10,PySem.W.mg_none_of X G z11,PySem.W.mg_none_of X G z12⟩;exact⟨_,λs v=>.of_eq rfl,λbase _ _=>(o_law T hkd).imp λvs H Q E h=>h _⟩
theorem walk{l:PySem.W.OpenLaw}{q:Program}{loose:List Str}{XP:(Str->Option Value)->Heap->Prop}{YP:World->Heap->Prop}{d:DefRec}{K:Params->zC}(hn:l.most=some 63)(hdf:d.params.defaults=[])
 (hY:∀(w:World) (h:Heap),YP w h->(K w.params).In h) (hm:∀ns:List Int,ns.length<=63->zhw [(true,.lst (ns.map D.int))]=some (.lf true (.bl true)))
 (F:∀(w:World) (mg:Str->Option Value) (fa:Addr) (h:Heap),(K w.params).In h->h.Ns mainGlobals mg->mg d.name=some (.ref fa)->
  ∃fd:FuncData,(∀(s:Shared) (u:Value),BindsTo s fd ⟨[u],[]⟩ [("_law_script",u)])/\∀base:Heap,(K w.params).In base->base.Ns mainGlobals mg->FnOk l.prog w (K w.params) mg base CX0 27 fa fd ["_law_script"] (spL (K w.params) zhw)):
 PySem.W.WalkO q loose XP YP l.row.toRowW d [] (λf vs=>PySem.call f vs):=
 L2.walk_of (n:=63) (k:=27) (x:="_law_script") (CX:=λ_=>CX0) (sp:=λw=>spL (K w.params) zhw) hn (by decide) hdf ⟨rfl,by decide,by decide,rfl⟩ hY F (λ_ _ a ns hl _ hS kd=>zuP (hm ns hl) hS) λ_ _ _ _ _ z=>z
abbrev lfI(x:Int):O:=.lf true (.int x)
theorem zdz{f:EF}{as as1:AS}{o:O}(h:f as=some (.ow o,as1))(hs:o.str=true):yq f as=some (.rt o):=by
 unfold yq;rw[h];show((if o.str=true then some o else none).bind _)=_;rw[if_pos hs];rfl
theorem szs{n:Nat}(h:n<=1000000):n<=sizeLine:=zzK h (by decide)
theorem yS:∀xs:List Int,(xs.map lfI).all O.isLf=true/\O.strs (xs.map lfI)=true/\O.toDs (xs.map lfI)=xs.map D.int
 | []=>⟨rfl,rfl,rfl⟩
 |x::r=>⟨(yS r).1,(yS r).2.1,congrArg (D.int x :: ·) (yS r).2.2⟩
theorem ztt(xs:List Int):(xs.map D.int).map (O.lf true)=xs.map lfI:=by rw[zzV];rfl
theorem znd{as:AS}{i:Nat}{os:List O}{fl fh:OF}{lo hi:Option Int}(h:as[i]? = some (some (.nd .ls os)))(hl:os.all O.isLf=true)(hs:O.strs os=true)(h1:fl as=some (lo,as))(h2:fh as=some (hi,as)):
 fSl (fV i) fl fh slP as=some (.ow (.nd .ls ((cutD (O.toDs os) lo hi).map (O.lf true))),as):=by
 unfold fSl;rw[zjj h];show((fl as).bind _)=_;rw[h1];show((fh as).bind _)=_;rw[h2];show((RV.view as (.bo i)).bind _)=_;rw[zfE h];have e:(O.nd .ls os).kl=some true:=by simp only[O.kl,hl,if_true,hs]
 rw[e];show(wrap (some true) (.fl (cutD (O.toDs os) lo hi))).bind _=_;show(if((cutD (O.toDs os) lo hi).all ye||true)=true then some (RV.ow (.nd .ls ((cutD (O.toDs os) lo hi).map (lfs true))))else none:Option RV).bind _=_;rw[if_pos (by simp),zbQ];rfl
theorem zoS{x:D}{xs:List D}:cutD (x::xs) (some 1) none=xs:=by
 have:=Vc (xs:=[x]) (ys:=xs);have e:slP (.lst ([x]++xs)) (some (([x]:List D).length:Int)) none=some (.fl (cutD (x::xs) (some 1) none)):=rfl;rw[e]at this;injection this with this
 injection this
abbrev stB:SF:=(zJ (zU true 3 (f2 (f2 (f2 (f2 (fV 3) (fV 3) (zr .Mult)) (f2 (fC (.int 48271)) (fV 3) (zr .Mult)) (zr .Add)) (fV 4) (zr .Add)) (fC (.int 2147483647)) (zr .Mod)))
 (yV (xY 2 (dC (f2 (f2 (f2 (fV 3) (fC (.int 40692)) (zr .Mult)) (f2 (fC (.int 7)) (fV 4) (zr .Mult)) (zr .Add)) (fC (.int 2147483399)) (zr .Mod)) dN) wZ)))
theorem zlH(ys:List Int)(w:Int):(ys++[w]).map lfI=ys.map lfI++[O.lf true (.int w)]:=by rw[zyG];rfl
theorem zhI{A B:Option O}:∀(n:Nat) (k x:Int) (ys:List Int) (e4:Option O),0<=k->k+n<=1000->0<=x->x<2 ^ 40->ys.length+n<=1000->(∀y ∈ ys,0<=y/\y<2147483399)->∃(x':Int) (zs:List Int) (e4':Option O),zs.length=ys.length+n/\(∀z ∈ zs,0<=z/\z<2147483399)/\
 forL (gN 4) stB (vg k n) [A,B,some (.nd .ls (ys.map lfI)),some (lfI x),e4]=some (.nx [A,B,some (.nd .ls (zs.map lfI)),some (lfI x'),e4'])
 |0,k,x,ys,e4,_,_,_,_,_,h=>⟨x,ys,e4,rfl,h,rfl⟩
 |n+1,k,x,ys,e4,hk,hkn,hx0,hx1,hl,h=>by
  have y0:=zyH (x*x+48271*x+k) (show(2147483647:Int)≠0 by decide);have y1:=zyB (x*x+48271*x+k) (show(0:Int)<2147483647 by decide);have w0:=zyH ((x*x+48271*x+k)%2147483647*40692+7*k) (show(2147483399:Int)≠0 by decide);have w1:=zyB ((x*x+48271*x+k)%2147483647*40692+7*k) (show(0:Int)<2147483399 by decide);obtain⟨x',zs,e4',h1,h2,h3⟩:=zhI (A:=A) (B:=B) n (k+1) ((x*x+48271*x+k)%2147483647) (ys++[((x*x+48271*x+k)%2147483647*40692+7*k)%2147483399]) (some (lfI k)) (by omega) (by omega) y0 (Int.lt_trans y1 (by decide)) (by rw[zzF];show ys.length+1+n<=_;omega) (λz m=>by
   rcases zzI.mp m with m|m
   . exact h z m
   . rw[zzN.mp m];exact⟨w0,w1⟩)
  refine⟨x',zs,e4',by rw[h1,zzF];show ys.length+1+n=_;omega,h2, ?_⟩;rw[zlH]at h3;rw[wC];have bx:x.natAbs<big:=yW (Int.lt_of_lt_of_le (by decide) hx0) (Int.lt_trans hx1 (by decide));have bk:k.natAbs<big:=yW (by omega) (by omega);exact xg (as1:=[A,B,some (.nd .ls (ys.map lfI)),some (lfI x),some (lfI k)]) rfl (zu (zV (i:=3) (yJ (wg (wg (WM (zc rfl) (zc rfl) bx bx) (WM zf (zc rfl) (yW (by decide) (by decide)) bx)) (zc rfl)) zf (by decide)) (zG rfl))
   (Yo (i:=2) rfl (by rw[zD];exact xu (by omega)) (yJ (wg (WM (zc rfl) zf (yW (Int.lt_of_lt_of_le (by decide) y0) (Int.lt_trans y1 (by decide))) (yW (by decide) (by decide))) (WM zf (zc rfl) (yW (by decide) (by decide)) bk)) zf (by decide)))) h3
theorem ziY{s:Bool}{c m:Int}(h0:0<=m)(h1:m<=900):∃xs:List Int,(xs.length:Int)=m/\(∀x ∈ xs,0<=x/\x<2147483399)/\yt [(true,.int c),(true,.int m)]=some (.nd .ls (xs.map lfI)):=by
 have y0:=zyH c (show(2147483647:Int)≠0 by decide);have y1:=zyB c (show(0:Int)<2147483647 by decide);obtain⟨x',zs,e4,z1,z2,hf⟩:=zhI (A:=some (lfI c)) (B:=some (lfI m)) (m+1).toNat 0 (c%2147483647+48271) [] none (by omega) (by omega) (by omega) (by omega) (by show 0+_<=_;omega) (λ_ m=>nomatch m);cases zs with
 |nil=>rw[List.length_nil]at z1;simp at z1;omega
 |cons z r=>
  refine⟨r,by rw[zzP]at z1;simp at z1;omega,λx hx=>z2 x (zS _ hx), ?_⟩;obtain⟨i1,i2,i3⟩:=yS (z::r);have hs:=znd (as:=[some (lfI c),some (lfI m),some (.nd .ls ((z::r).map lfI)),some (lfI x'),e4]) (i:=2) (fl:=oS (fC (.int 1))) (fh:=oN) (lo:=some 1) (hi:=none) rfl i1 i2 rfl rfl;rw[i3]at hs;have hc:cutD ((z::r).map D.int) (some 1) none=r.map D.int:=zoS;rw[hc,ztt]at hs;refine ym rfl (zu (vL (i:=2) (Z1 yp (szl rfl)) (zG rfl)) (zu (zV (i:=3) (wg (yJ (zc rfl) zf (by decide)) zf) (zG rfl)) (zu (ZM (wK (zB (wg (zc rfl) zf) zP) (by omega) (by omega)) hf) ?_)));exact zdz hs (yS r).2.1
inductive Tm where
 |num (v:Int)|nam (x:Str)|op (w:Str) (x y:Tm)|sm (x y z u:Tm)
def Tm.toD:Tm->D
 | .num v=>.tup [.str "number",.int v]
 | .nam x=>.tup [.str "name",.str x]
 | .op w x y=>.tup [.str w,x.toD,y.toD]
 | .sm x y z u=>.tup [.str "same",x.toD,y.toD,z.toD,u.toD]
def Tm.ht:Tm->Nat
 | .num _=>1
 | .nam _=>1
 | .op _ x y=>max x.ht y.ht+1
 | .sm x y z u=>max (max x.ht y.ht) (max z.ht u.ht)+1
theorem zgL:∀t:Tm,1<=t.ht
 | .num _=>by show 1<=1;decide
 | .nam _=>by show 1<=1;decide
 | .op _ x y=>by show 1<=max _ _+1;omega
 | .sm x y z u=>by show 1<=max _ _+1;omega
def zbb(x:Str):Prop:=x="add"\/x="take"\/x="times"\/x="most"\/x="least"
def Tm.ok(p:Str):Tm->Prop
 | .num v=>0<=v/\v<10 ^ 60
 | .nam x=>x="a"\/x=p
 | .op w x y=>zbb w/\x.ok p/\y.ok p
 | .sm x y z u=>x.ok p/\y.ok p/\z.ok p/\u.ok p
abbrev dN2(p:Str)(a b:Int):D:=.dct [(.inr "a",.int a),(.inr p,.int b)]
def at2(a b:Int)(x:Str):Int:=if x="a" then a else b
def two(w:Str)(X Y:Int):Int:=if w="add" then X+Y else if w="take" then X-Y else if w="times" then X*Y else if w="most" then(if Y > X then Y else X)else(if Y<X then Y else X)
def val(n a b:Int):Tm->Int
 | .num v=>v%n
 | .nam x=>at2 a b x%n
 | .op w x y=>two w (val n a b x) (val n a b y)%n
 | .sm x y z u=>if val n a b x=val n a b y then val n a b z else val n a b u
theorem ZK{n a b:Int}(hn:0<n):∀t:Tm,0<=val n a b t/\val n a b t<n
 | .num v=>⟨zyH _ (by omega),zyB _ hn⟩
 | .nam x=>⟨zyH _ (by omega),zyB _ hn⟩
 | .op w x y=>⟨zyH _ (by omega),zyB _ hn⟩
 | .sm x y z u=>by
  unfold val
  split
  . exact ZK hn z
  . exact ZK hn u
theorem zvy{w:Str}{X Y:Int}{s t u:Bool}(hw:zbb w)(hX:0<=X/\X<100)(hY:0<=Y/\Y<100):zbm [(s,.str w),(t,.int X),(u,.int Y)]=some (.lf true (.int (two w X Y))):=by
 have bX:X.natAbs<big:=yW (by omega) (by omega);have bY:Y.natAbs<big:=yW (by omega) (by omega)
 rcases hw with rfl|rfl|rfl|rfl|rfl
 . exact ym rfl (v6 (wX (zH (yG (zc rfl) zf rfl) rfl) (yf (wg (zc rfl) (zc rfl)))))
 . exact ym rfl (zu (yh (zH (yG (zc rfl) zf rfl) rfl) rfl) (v6 (wX (zH (yG (zc rfl) zf rfl) rfl) (yf (zfZ (zc rfl) (zc rfl))))))
 . exact ym rfl (zu (yh (zH (yG (zc rfl) zf rfl) rfl) rfl) (zu (yh (zH (yG (zc rfl) zf rfl) rfl) rfl) (v6 (wX (zH (yG (zc rfl) zf rfl) rfl) (yf (WM (zc rfl) (zc rfl) bX bY))))))
 . exact ym rfl (zu (yh (zH (yG (zc rfl) zf rfl) rfl) rfl) (zu (yh (zH (yG (zc rfl) zf rfl) rfl) rfl) (zu (yh (zH (yG (zc rfl) zf rfl) rfl) rfl) (v6 (wX (zH (yG (zc rfl) zf rfl) rfl) (yf (wu (zB (zc rfl) (zB (zc rfl) zP)) rfl rfl)))))))
 . exact ym rfl (zu (yh (zH (yG (zc rfl) zf rfl) rfl) rfl) (zu (yh (zH (yG (zc rfl) zf rfl) rfl) rfl) (zu (yh (zH (yG (zc rfl) zf rfl) rfl) rfl) (zu (yh (zH (yG (zc rfl) zf rfl) rfl) rfl) (yf (wu (zB (zc rfl) (zB (zc rfl) zP)) rfl rfl))))))
def isP(p:Str):Prop:=p="b"\/p="c"
theorem zsN{p x:Str}{a b:Int}(hp:isP p)(h:x="a"\/x=p):ixP (dN2 p a b) (.str x)=some (.im (.int (at2 a b x))):=by
 rcases hp with rfl|rfl<;>rcases h with rfl|rfl<;>rfl
theorem zuo{w:Str}(h:zbb w):eqF 60 (.str w) (.str "number")=some false/\eqF 60 (.str w) (.str "name")=some false/\eqF 60 (.str w) (.str "same")=some false:=by
 rcases h with rfl|rfl|rfl|rfl|rfl<;>exact⟨rfl,rfl,rfl⟩
theorem YT{n a b:Int}{p:Str}(hp:isP p)(hn:0<n)(hn2:n<=50):∀(h:Nat) (t:Tm) (s q u:Bool),t.ok p->t.ht<=h->Zn h [(s,t.toD),(q,.int n),(u,dN2 p a b)]=some (.lf true (.int (val n a b t)))
 |0,t,s,q,u,_,hh=>by have:=zgL t;omega
 |h+1,.num v,s,q,u,ok,hh=>ym rfl (zu (zV (i:=3) (yu (zc rfl) zf rfl rfl) (zG rfl)) (v6 (wX (zH (yG (zc rfl) zf rfl) rfl) (yf (yJ (yu (zc rfl) zf rfl rfl) (zc rfl) hn)))))
 |h+1,.nam x,s,q,u,ok,hh=>ym rfl (zu (zV (i:=3) (yu (zc rfl) zf rfl rfl) (zG rfl)) (zu (yh (zH (yG (zc rfl) zf rfl) rfl) rfl) (v6 (wX (zH (yG (zc rfl) zf rfl) rfl) (yf (yJ (yu (zc rfl) (yu (zc rfl) zf rfl rfl) (zsN hp ok) rfl) (zc rfl) hn))))))
 |h+1,.op w x y,s,q,u,ok,hh=>by
  have hx:x.ht<=h:=by unfold Tm.ht at hh;omega
  have hy:y.ht<=h:=by unfold Tm.ht at hh;omega
  obtain⟨n1,n2,n3⟩:=zuo ok.1;have rx:=ZK (a:=a) (b:=b) hn x;have ry:=ZK (a:=a) (b:=b) hn y;exact ym rfl (zu (zV (i:=3) (yu (zc rfl) zf rfl rfl) (zG rfl)) (zu (yh (zH (yG (zc rfl) zf n1) rfl) rfl) (zu (yh (zH (yG (zc rfl) zf n2) rfl) rfl)
   (zu (zV (i:=4) (ww (zB (zfe (zc rfl) zf rfl) (zB (zc rfl) (zB (zc rfl) zP))) (YT hp hn hn2 h x _ _ _ ok.2.1 hx)) (zG rfl))
   (zu (zV (i:=5) (ww (zB (zfe (zc rfl) zf rfl) (zB (zc rfl) (zB (zc rfl) zP))) (YT hp hn hn2 h y _ _ _ ok.2.2 hy)) (zG rfl))
   (zu (yh (zH (yG (zc rfl) zf n3) rfl) rfl)
   (yf (yJ (ww (zB (zc rfl) (zB (zc rfl) (zB (zc rfl) zP))) (zvy ok.1 ⟨rx.1,by omega⟩ ⟨ry.1,by omega⟩)) (zc rfl) hn))))))))
 |h+1,.sm x y z v,s,q,u,ok,hh=>by
  have hx:x.ht<=h:=by unfold Tm.ht at hh;omega
  have hy:y.ht<=h:=by unfold Tm.ht at hh;omega
  have hz:z.ht<=h:=by unfold Tm.ht at hh;omega
  have hv:v.ht<=h:=by unfold Tm.ht at hh;omega
  obtain⟨ox,oy,oz,ov⟩:=ok;refine ym rfl (zu (zV (i:=3) (yu (zc rfl) zf rfl rfl) (zG rfl)) (zu (yh (zH (yG (zc rfl) zf rfl) rfl) rfl) (zu (yh (zH (yG (zc rfl) zf rfl) rfl) rfl)
   (zu (zV (i:=4) (ww (zB (zfe (zc rfl) zf rfl) (zB (zc rfl) (zB (zc rfl) zP))) (YT hp hn hn2 h x _ _ _ ox hx)) (zG rfl))
   (zu (zV (i:=5) (ww (zB (zfe (zc rfl) zf rfl) (zB (zc rfl) (zB (zc rfl) zP))) (YT hp hn hn2 h y _ _ _ oy hy)) (zG rfl))
   (v6 (wX (zH (yG (zc rfl) zf rfl) rfl) ?_)))))))
  by_cases e:val n a b x=val n a b y
  . have ev:val n a b (.sm x y z v)=val n a b z:=if_pos e;rw[ev];exact zu (zV (i:=6) (zmL (zH (yG (zc rfl) (zc rfl) rfl) (by show some (val n a b x==val n a b y)=_;rw[e];simp)) (zfe (zc rfl) zf rfl)) (zG rfl)) (yf (ww (zB (zc rfl) (zB (zc rfl) (zB (zc rfl) zP))) (YT hp hn hn2 h z _ _ _ oz hz)))
  . have ev:val n a b (.sm x y z v)=val n a b v:=if_neg e;rw[ev];exact zu (zV (i:=6) (zcy (zH (yG (zc rfl) (zc rfl) rfl) (by show some (val n a b x==val n a b y)=_;simp[e])) (zfe (zc rfl) zf rfl)) (zG rfl)) (yf (ww (zB (zc rfl) (zB (zc rfl) (zB (zc rfl) zP))) (YT hp hn hn2 h v _ _ _ ov hv)))
def Tm.cnt:Tm->Nat
 | .num _=>1
 | .nam _=>1
 | .op _ x y=>x.cnt+y.cnt+1
 | .sm x y z u=>x.cnt+y.cnt+z.cnt+u.cnt+1
def isNm(x:Str):Prop:=x="a"\/x="b"\/x="c"
def Tm.ko:Tm->Prop
 | .num v=>0<=v/\v<10 ^ 60
 | .nam x=>isNm x
 | .op w x y=>zbb w/\x.ko/\y.ko
 | .sm x y z u=>x.ko/\y.ko/\z.ko/\u.ko
abbrev nl(nm:List Str):D:=.lst (nm.map .str)
theorem Zj:∀t:Tm,1<=t.cnt
 | .num _=>by show 1<=1;decide
 | .nam _=>by show 1<=1;decide
 | .op _ x y=>by show 1<=_+_+1;omega
 | .sm x y z u=>by show 1<=_+1;omega
def wds:Tm->List Str
 | .num v=>[tx v]
 | .nam x=>[x]
 | .op w x y=>w::(wds x++wds y)
 | .sm x y z u=>"same"::(wds x++(wds y++(wds z++wds u)))
theorem XC:∀t:Tm,wds t≠[]
 | .num _=>by simp[wds]
 | .nam _=>by simp[wds]
 | .op _ _ _=>by simp[wds]
 | .sm _ _ _ _=>by simp[wds]
theorem zfJ:∀t:Tm,(wds t).length=t.cnt
 | .num _=>rfl
 | .nam _=>rfl
 | .op _ x y=>by show(wds x++wds y).length+1=x.cnt+y.cnt+1;rw[zzF,zfJ x,zfJ y]
 | .sm x y z u=>by show(wds x++(wds y++(wds z++wds u))).length+1=x.cnt+y.cnt+z.cnt+u.cnt+1;simp only[zzF,zfJ];omega
theorem zof{w:Str}(h:zbb w):NB w/\w.length<=60:=by
 rcases h with rfl|rfl|rfl|rfl|rfl<;>exact⟨by unfold NB;decide +kernel,by decide +kernel⟩
theorem zsE{w:Str}(h:isNm w):NB w/\w.length<=60:=by
 rcases h with rfl|rfl|rfl<;>exact⟨by unfold NB;decide +kernel,by decide +kernel⟩
theorem zpC:NB ("same":Str)/\("same":Str).length<=60:=⟨by unfold NB;decide +kernel,by decide +kernel⟩
theorem zar:∀{t:Tm},t.ko->∀w ∈ wds t,NB w/\w.length<=60
 | .num v,h,w,m=>by rw[zzN.mp m];exact⟨ziC,xZ h.1 h.2⟩
 | .nam x,h,w,m=>by rw[zzN.mp m];exact zsE h
 | .op o x y,h,w,m=>by
  rcases zI.mp m with rfl|m
  . exact zof h.1
  rcases zzI.mp m with m|m
  . exact zar h.2.1 w m
  . exact zar h.2.2 w m
 | .sm x y z u,h,w,m=>by
  rcases zI.mp m with rfl|m
  . exact zpC
  rcases zzI.mp m with m|m
  . exact zar h.1 w m
  rcases zzI.mp m with m|m
  . exact zar h.2.1 w m
  rcases zzI.mp m with m|m
  . exact zar h.2.2.1 w m
  . exact zar h.2.2.2 w m
def S(t:Tm):Str:=Str.join bl1 (wds t)
theorem zix{t:Tm}(h:t.ko):(S t).length<=61*t.cnt:=by
 have:=zmk (wds t) 60 (λw m=>(zar h w m).2);rw[zfJ]at this;exact this
theorem zmF(a:Str)(r:List Str)(h:r≠[]):Str.join bl1 (a::r)=a++bl1++Str.join bl1 r:=Vi [a] r (by simp) h
theorem zpd(w:Str)(x y:Tm):S (.op w x y)=w++bl1++S x++bl1++S y:=by
 show Str.join bl1 (w::(wds x++wds y))=_;rw[zmF _ _ (by simp[XC]),Vi _ _ (XC x) (XC y)];refine Wb ?_;simp only[app_list,zyU];rfl
theorem zxB(x y z u:Tm):S (.sm x y z u)=("same":Str)++bl1++S x++bl1++S y++bl1++S z++bl1++S u:=by
 show Str.join bl1 ("same"::(wds x++(wds y++(wds z++wds u))))=_;rw[zmF _ _ (by simp[XC]),Vi _ _ (XC x) (by simp[XC]),Vi _ _ (XC y) (by simp[XC]),Vi _ _ (XC z) (XC u)];refine Wb ?_;simp only[app_list,zyU];rfl
theorem zds{x y:Str}(h:x.length+y.length<=sizeLine):zr .Add (.str x) (.str y)=some (.im (.str (x++y))):=if_pos h
theorem zX(x y:Str):(x++y).length=x.length+y.length:=by rw[len_eq,app_list,zzF,<-len_eq,<-len_eq]
theorem zku(d e:D):zY .In d e=(inP d e).bind λb=>some (blR b):=rfl
theorem zmU{x:Str}(h:∀c ∈ x.cps.toList,48<=c/\c<=57):xT (gN 0) xf (f2 (fV 0) (fC (.str "0123456789")) (zY .In)) [none] (Xe x)=some ((x.cps.toList.map λ_=>D.bl true).map (O.lf true)):=by
 unfold Xe;generalize x.cps.toList=l at h
 induction l with
 |nil=>rfl
 |cons c r ih=>exact Xu (as1:=[some (.lf true (.str ⟨#[c]⟩))]) rfl (yu (zc rfl) zf (by rw[zku,zqa (h c (by simp))];rfl) rfl) (ih λd m=>h d (zS _ m))
theorem zhb:∀l:List Nat,WX (l.map λ_=>D.bl true)=some (l.map λ_=>true)
 | []=>rfl
 |_::r=>by show(WX (r.map _)).bind _=_;rw[zhb r];rfl
theorem zlM:∀l:List Nat,(l.map λ_=>true).all id=true
 | []=>rfl
 |_::r=>zlM r
theorem str_beq{a b:Str}(h:a≠b):(a==b)=false:=beq_eq_false_iff_ne.mpr h
theorem zmR{s u:Bool}{v:Int}(h0:0<=v)(h1:v<10 ^ 60):xq [(s,.str (tx v)),(u,.int 60)]=some (.lf true (.bl true)):=by
 have hl:=xZ h0 h1;have hne:=zuk h0;have hd:=Vb h0;have hlen:wz [.str (tx v)]=some (.im (.int (tx v).length)):=if_pos (szs (by omega));have ne0:tx v≠("":Str):=λe=>hne (by rw[e];rfl);refine ym rfl (zu (yh (v9 (k:=false) (zH (yG (c:=false) (zc rfl) zf (congrArg some (str_beq ne0))) rfl) (λ_=>zH (zcV (wu (zB (zc rfl) zP) hlen rfl) (zc rfl)) ?_) (λh=>nomatch h)) rfl) (zu (yh ?_ rfl) (yf (Zv (x:=.lst ((tx v).cps.toList.map λ_=>D.bl true)) ⟨_,wN (zrr (zc rfl)) (by unfold Xe;rw[zD,<-len_eq];exact szs (by omega)) (zmU hd),zcq _,congrArg D.lst (zcm _)⟩ ?_))))
 . exact congrArg some (zyA (by show ¬(60:Int)<((tx v).length:Int);omega))
 . -- no nought ahead
   have hat:∃c r,(tx v).cps.toList=c::r:=by
    cases e:(tx v).cps.toList with
    |nil=>exact absurd e hne
    |cons c r=>exact⟨c,r,rfl⟩
   obtain⟨c,r,ec⟩:=hat;have hix:ixP (.str (tx v)) (.int 0)=some (.im (.str ⟨#[c]⟩)):=by
    show(if(tx v).length<=sizeLine then(atI (tx v).cps.toList 0).bind _ else none)=_;rw[if_pos (szs (by omega)),show(0:Int)=((0:Nat):Int)from rfl,Wr (v:=c) (by rw[ec];rfl)];rfl
   by_cases hz:v=0
   . subst hz;refine zmx (k:=((⟨#[c]⟩:Str)=="0")) (l:=false) (zH (yG (yu (zc rfl) zf hix rfl) zf rfl) rfl) (λ_=>?_) (λ_=>rfl);exact zH (zci (c:=true) (zc rfl) zf (by rw[ztf];exact congrArg some (by decide +kernel))) rfl
   . obtain⟨c',r',e',hc'⟩:=zqB (v:=v) (by omega);have:c=c':=by rw[ec]at e';exact(List.cons.inj e').1
     subst this;refine zmx (k:=false) (l:=false) (zH (yG (c:=false) (yu (zc rfl) zf hix rfl) zf ?_) rfl) (λh=>nomatch h) (λ_=>rfl);show some ((⟨#[c]⟩:Str)==("0":Str))=_;refine congrArg some (str_beq λe=>hc' ?_);have:=congrArg (λq:Str=>q.cps.toList) e;have e2:(("0":Str)).cps.toList=[48]:=by decide +kernel
     simp only[e2]at this;simpa using this
 . show(WX _).bind _=_;rw[zhb];show some (R0.im (.bl ((List.map (λ_=>true) (tx v).cps.toList).all id)))=_;rw[zlM]
theorem zjy{s u:Bool}{c:Nat}(hc:c≠48)(hn:inP (.str ⟨#[c]⟩) (.str "0123456789")=some false):xq [(s,.str ⟨#[c]⟩),(u,.int 60)]=some (.lf true (.bl false)):=by
 have e0:((⟨#[c]⟩:Str)==("":Str))=false:=str_beq λe=>by
  have:=congrArg (λq:Str=>q.cps.toList.length) e;exact absurd this (by show ¬(1=_);decide +kernel)
 have e1:((⟨#[c]⟩:Str)==("0":Str))=false:=str_beq λe=>hc (by
  have:=congrArg (λq:Str=>q.cps.toList) e;have e2:(("0":Str)).cps.toList=[48]:=by decide +kernel
  simp only[e2]at this;simpa using this)
 have hix:ixP (.str (⟨#[c]⟩:Str)) (.int 0)=some (.im (.str ⟨#[c]⟩)):=by
  rfl
 have hlen:wz [.str (⟨#[c]⟩:Str)]=some (.im (.int 1)):=rfl;refine ym rfl (zu (yh (v9 (k:=false) (zH (yG (c:=false) (zc rfl) zf (congrArg some e0)) rfl) (λ_=>zH (zcV (wu (zB (zc rfl) zP) hlen rfl) (zc rfl)) rfl) (λh=>nomatch h)) rfl) (zu (yh (zmx (k:=false) (l:=false) (zH (yG (c:=false) (yu (zc rfl) zf hix rfl) zf (congrArg some e1)) rfl) (λh=>nomatch h) (λ_=>rfl)) rfl) (yf (Zv (x:=.lst [.bl false]) ⟨_,wN (zrr (zc rfl)) (szl rfl) (Xu (as1:=[some (.lf true (.str ⟨#[c]⟩))]) rfl (yu (zc rfl) zf (by rw[zku,hn];rfl) rfl) rfl),rfl,rfl⟩ rfl))))
theorem zqU{s u:Bool}{x:Str}(h:isNm x):xq [(s,.str x),(u,.int 60)]=some (.lf true (.bl false)):=by
 rcases h with rfl|rfl|rfl
 . rw[show("a":Str)=⟨#[97]⟩ by decide +kernel];exact zjy (by decide) (congrArg some (by decide +kernel))
 . rw[show("b":Str)=⟨#[98]⟩ by decide +kernel];exact zjy (by decide) (congrArg some (by decide +kernel))
 . rw[show("c":Str)=⟨#[99]⟩ by decide +kernel];exact zjy (by decide) (congrArg some (by decide +kernel))
theorem zrI{s:Bool}{w:Str}(h:zbb w):yd [(s,.str w)]=some (.lf true (.int 2)):=by
 rcases h with rfl|rfl|rfl|rfl|rfl<;>exact ym rfl (yf (Xl zf rfl (zB (zc rfl) (zB zf zP)) rfl rfl))
theorem zkL{s:Bool}:yd [(s,.str "same")]=some (.lf true (.int 4)):=ym rfl (yf (Xl zf rfl (zB (zc rfl) (zB zf zP)) rfl rfl))
theorem zrD{s:Bool}{w:Str}(h:isNm w):yd [(s,.str w)]=some (.lf true (.int 0)):=by
 rcases h with rfl|rfl|rfl<;>exact ym rfl (yf (Xl zf rfl (zB (zc rfl) (zB zf zP)) rfl rfl))
theorem key_ne{a b:Str}(h:a≠b):decide ((Sum.inr a:Key)=Sum.inr b)=false:=zyA λe=>h (Sum.inr.inj e)
theorem zqO{s:Bool}{v:Int}(h0:0<=v):yd [(s,.str (tx v))]=some (.lf true (.int 0)):=by
 have n1:("add":Str)≠tx v:=λe=>Ze h0 (w:="add") ⟨97,by decide +kernel,by decide⟩ e.symm;have n2:("take":Str)≠tx v:=λe=>Ze h0 (w:="take") ⟨97,by decide +kernel,by decide⟩ e.symm;have n3:("times":Str)≠tx v:=λe=>Ze h0 (w:="times") ⟨101,by decide +kernel,by decide⟩ e.symm;have n4:("most":Str)≠tx v:=λe=>Ze h0 (w:="most") ⟨116,by decide +kernel,by decide⟩ e.symm;have n5:("least":Str)≠tx v:=λe=>Ze h0 (w:="least") ⟨97,by decide +kernel,by decide⟩ e.symm;have n6:("same":Str)≠tx v:=λe=>Ze h0 (w:="same") ⟨97,by decide +kernel,by decide⟩ e.symm;refine ym rfl (yf (Xl zf rfl (zB (zc rfl) (zB zf zP)) ?_ rfl));show some (R0.im ((zbe [(.inr "add",(.int 2)),(.inr "take",(.int 2)),(.inr "times",(.int 2)),(.inr "most",(.int 2)),(.inr "least",(.int 2)),(.inr "same",(.int 4))] (.inr (tx v))).getD (.int 0)))=_;have e:zbe [(.inr "add",(.int 2)),(.inr "take",(.int 2)),(.inr "times",(.int 2)),(.inr "most",(.int 2)),(.inr "least",(.int 2)),(.inr "same",(.int 4))] (.inr (tx v))=none:=by
  unfold zbe;simp only[List.find?_cons,key_ne n1,key_ne n2,key_ne n3,key_ne n4,key_ne n5,key_ne n6,List.find?_nil,Option.map_none]
 rw[e];rfl
theorem zcS(x:Str):∀nm:List Str,anyF (λy=>eqF 50 y (.str x)) (nm.map .str)=some (nm.any (· == x))
 | []=>rfl
 |n::r=>by
  show(some (n==x)).bind (λb=>(anyF _ (r.map .str)).bind _)=_;rw[zyF,zcS x r];rfl
theorem zwo{s u:Bool}{x:Str}{nm:List Str}(h:isNm x):Vm [(s,.str x),(u,nl nm)]=some (.lf true (.bl (nm.any (· == x)))):=by
 have e:WD (f2 (fV 0) (fC (.tup [(.str "a"),(.str "b"),(.str "c")])) (zY .In)) [some (.lf s (.str x)),some (.lf u (nl nm))] true (.bl true):=
  yu (zc rfl) zf (by rcases h with rfl|rfl|rfl<;>rfl) rfl
 exact ym rfl (yf (zhB (k:=true) (zmG (zc rfl) rfl) (λ_=>zhB (k:=true) e (λ_=>yu (zc rfl) (zc rfl) (by show(anyF _ (nm.map .str)).bind _=_;rw[zcS];rfl) rfl) (λh=>nomatch h)) (λh=>nomatch h)))
theorem zik{s u q:Bool}{w:Str}{d k:Int}{n:D}(hk:0<k)(hd:d<12)(hp:∀s,yd [(s,.str w)]=some (.lf true (.int k))):WP [(s,.str w),(u,.int d),(q,n)]=some (.lf true (.bl true)):=by
 refine ym rfl (v6 (wX (zH (zcV (ww (zB (zc rfl) zP) (hp _)) zf) (congrArg some (zyI hk))) (yf ?_)));have:=Wf (as:=XQ 3 [(s,.str w),(u,.int d),(q,n)]) (zc (i:=1) rfl) (zf (x:=.int 12));rw[zyI hd]at this;exact this
theorem zsx{s u q:Bool}{v d:Int}{n:D}(h0:0<=v)(h1:v<10 ^ 60):WP [(s,.str (tx v)),(u,.int d),(q,n)]=some (.lf true (.bl true)):=
 ym rfl (zu (yh (zH (zcV (ww (zB (zc rfl) zP) (zqO h0)) zf) rfl) rfl) (yf (zur (k:=true) (ww (zB (zc rfl) (zB zf zP)) (zmR h0 h1)) (λh=>nomatch h) (λ_=>rfl))))
theorem zsg{s u q:Bool}{x:Str}{d:Int}{nm:List Str}(h:isNm x)(hn:nm.any (· == x)=true):WP [(s,.str x),(u,.int d),(q,nl nm)]=some (.lf true (.bl true)):=
 have hl:∀s u:Bool,Vm [(s,.str x),(u,nl nm)]=some (.lf true (.bl true)):=λs u=>by rw[zwo h,hn]
 ym rfl (zu (yh (zH (zcV (ww (zB (zc rfl) zP) (zrD h)) zf) rfl) rfl) (yf (zur (k:=false) (ww (zB (zc rfl) (zB zf zP)) (zqU h)) (λ_=>ww (zB (zc rfl) (zB (zc rfl) zP)) (hl _ _)) (λh=>nomatch h))))
def good(nm:List Str):Tm->Bool
 | .num _=>true
 | .nam x=>nm.any (· == x)
 | .op _ x y=>good nm x&&good nm y
 | .sm x y z u=>(good nm x&&good nm y)&&(good nm z&&good nm u)
abbrev fG:GF:=(gT 2 (gsC (gN 3) (gsC (gN 4) gsN)))
abbrev fB:SF:=(zJ (sIf (Yr (fT (f2 (fP (aC (fV 2) aN) wz) (fC (.int 0)) (zY .Eq))) (Wo (fT (zA (aC (fV 4) (aC (f2 (fV 2) (fC (.int 0)) ixP) (aC (fV 1) aN))) WP)))) (yq (fV 3)) sNx)
 (zJ (zU true 2 (f2 (f2 (xX (dC (f2 (f2 (fV 2) (fC (.int 0)) ixP) (fC (.int 1)) (zr .Add)) dN)) (zA (aC (fV 4) aN) yd) (zr .Mult)) (fSl (fV 2) (oS (fC (.int 1))) oN slP) (zr .Add)))
 (sIf (fT (f2 (f2 (f2 (fV 3) (fC (.int 1)) (zr .Add)) (fP (aC (fV 2) aN) wz) (zr .Add)) (fC (.int 40)) (zY .Gt))) (yq (fV 3)) sNx)))
abbrev FS(W N:D)(ws:List Int)(e3 e4:Option O):AS:=[some (.lf true W),some (.lf true N),some (.lf true (.lst (ws.map .int))),e3,e4]
theorem mul_list{xs:List D}{k:Int}(h : -(2 ^ 63)<=k/\k<2 ^ 63/\xs.length*k.toNat<=sizeLine):zr .Mult (.lst xs) (.int k)=some (.fl (List.replicate k.toNat xs).flatten):=by
 exact if_pos h
theorem zyf{x:D}{ds:List D}:ixP (.lst (x::ds)) (.int 0)=some (.im x):=by
 show imR (atI _ _)=_;rw[show(0:Int)=((0:Nat):Int)from rfl,Wr (v:=x) rfl];rfl
theorem zsz{W N:D}{w:Str}{i:Nat}{d:Int}{r:List Int}{k:Nat}(hk:k<=4)(hi:i+1+k+r.length<=40)(hp:yd [(true,.str w)]=some (.lf true (.int k)))(hf:WP [(true,.str w),(true,.int d),(true,N)]=some (.lf true (.bl true))):
 fB (FS W N (d::r) (some (lfI i)) (some (.lf true (.str w))))=some (.nx (FS W N (List.replicate k (d+1)++r) (some (lfI i)) (some (.lf true (.str w))))):=by
 have hix:WD (f2 (fV 2) (fC (.int 0)) ixP) (FS W N (d::r) (some (lfI i)) (some (.lf true (.str w)))) true (.int d):=yu (zc rfl) zf zyf rfl;refine zu (yh (v9 (k:=false) (zH (yG (c:=false) (wu (zB (zc rfl) zP) rfl rfl) zf ?_) rfl) (λ_=>W6 (k:=true) (zH (zal (WD.e (zc rfl)) (WD.e hix) (WD.e (zc rfl)) hf) rfl)) (λh=>nomatch h)) rfl) ?_
 . show some ((((d::r).map D.int).length:Int)==0)=_;refine congrArg some (beq_eq_false_iff_ne.mpr ?_);rw[zD,zzP];omega
 refine zu (as1:=FS W N (List.replicate k (d+1)++r) (some (lfI i)) (some (.lf true (.str w)))) ?_ ?_
 . have hm:zr .Mult (.lst [.int (d+1)]) (.int (k:Int))=some (.fl (List.replicate (k:Int).toNat [D.int (d+1)]).flatten):=by
    have c : -(2 ^ 63)<=(k:Int)/\(k:Int)<2 ^ 63/\([D.int (d+1)]:List D).length*(k:Int).toNat<=sizeLine:=⟨by omega,by omega,szs (by rw[zyC];show 1*k<=_;omega)⟩;exact mul_list c
   have e1:(List.replicate (k:Int).toNat [D.int (d+1)]).flatten=(List.replicate k (d+1)).map D.int:=by
    rw[zyC];clear hm hp hi hk
    induction k with
    |zero=>rfl
    |succ k ih=>rw[List.replicate_succ,List.flatten_cons,ih];rfl
   rw[e1]at hm;have hs:slP (.lst ((d::r).map D.int)) (some 1) none=some (.fl (r.map D.int)):=Vc (xs:=[.int d]) (ys:=r.map D.int);have:=Yi (p:=2) (as:=FS W N (d::r) (some (lfI i)) (some (.lf true (.str w)))) (zhV (zhV (xR (x:=.lst [.int (d+1)]) (zF (wg hix (zf (x:=.int 1))) yp) (szl rfl) rfl rfl) (WD.e (vH (WD.e (zc (i:=4) rfl)) hp)) hm) (zah (fl:=oS (fC (.int 1))) (fh:=oN) (WD.e (zc (i:=2) rfl)) (lo:=some 1) (hi:=none) rfl rfl hs) (add_lists (szs (by simp only[zD,List.length_replicate];omega)))) (zG rfl);rw[<-zyG]at this;exact this
 . refine yh (zH (zcV (wg (wg (zc rfl) zf) (wu (zB (zc rfl) zP) rfl rfl)) zf) ?_) rfl;refine congrArg some (zyA ?_);show ¬(40:Int)<(i:Int)+1+(((List.replicate k (d+1)++r).map D.int).length:Nat);rw[zD,zzF,List.length_replicate];omega
theorem zfN{W N:D}{w:Str}{i:Nat}{d:Int}{r:List Int}{k:Nat}{more:List D}{e3 e4:Option O}{P:Option Out->Prop}(hk:k<=4)(hi:i+1+k+r.length<=40)(hp:yd [(true,.str w)]=some (.lf true (.int k)))(hf:WP [(true,.str w),(true,.int d),(true,N)]=some (.lf true (.bl true)))
 (h:∀e3 e4,P (forL fG fB (Xa true (i+1) more) (FS W N (List.replicate k (d+1)++r) e3 e4))):P (forL fG fB (Xa true i (.str w::more)) (FS W N (d::r) e3 e4)):=by
 have e:forL fG fB (Xa true i (.str w::more)) (FS W N (d::r) e3 e4)=forL fG fB (Xa true (i+1) more) (FS W N (List.replicate k (d+1)++r) (some (lfI i)) (some (.lf true (.str w)))):=by
  show forL fG fB ((true,.tup [.int i,.str w])::Xa true (i+1) more) _=_;exact xg (as1:=FS W N (d::r) (some (lfI i)) (some (.lf true (.str w)))) rfl (zsz hk hi hp hf) rfl
 rw[e];exact h _ _
theorem zan{W:D}{nm:List Str}{P:Option Out->Prop}:∀(t:Tm) (i:Nat) (d:Int) (r:List Int) (more:List D) (e3 e4:Option O),t.ko->good nm t=true->d+t.ht<=13->i+t.cnt+r.length<=40->
 (∀e3 e4,P (forL fG fB (Xa true (i+t.cnt) more) (FS W (nl nm) r e3 e4)))->P (forL fG fB (Xa true i ((wds t).map .str++more)) (FS W (nl nm) (d::r) e3 e4))
 | .num v,i,d,r,more,e3,e4,ok,hg,hh,hc,h=>zfN (k:=0) (by decide) (by have:i+1+r.length<=40:=hc;omega) (zqO ok.1) (zsx ok.1 ok.2) h
 | .nam x,i,d,r,more,e3,e4,ok,hg,hh,hc,h=>zfN (k:=0) (by decide) (by have:i+1+r.length<=40:=hc;omega) (zrD ok) (zsg ok hg) h
 | .op w x y,i,d,r,more,e3,e4,ok,hg,hh,hc,h=>by
  have hx:=zgL x;have hy:=zgL y;have cx:=Zj x;have cy:=Zj y;have hh1:d+((max x.ht y.ht+1:Nat):Int)<=13:=hh;have hc1:i+(x.cnt+y.cnt+1)+r.length<=40:=hc;have hg1:(good nm x&&good nm y)=true:=hg;rw[zzW]at hg1;have e:(wds (.op w x y)).map D.str++more = .str w::((wds x).map .str++((wds y).map .str++more)):=by
   show .str w::(wds x++wds y).map D.str++more=_;rw[zyG,List.cons_append,zyU]
  rw[e];refine zfN (k:=2) (by decide) (by omega) (zrI ok.1) (zik (k:=2) (by decide) (by omega) (λs=>zrI ok.1)) λe3 e4=>?_;show P (forL fG fB _ (FS W (nl nm) ((d+1)::(d+1)::r) e3 e4));refine zan x (i+1) (d+1) ((d+1)::r) _ e3 e4 ok.2.1 hg1.1 (by omega) (by rw[zzP];omega) λe3 e4=>?_;refine zan y (i+1+x.cnt) (d+1) r more e3 e4 ok.2.2 hg1.2 (by omega) (by omega) λe3 e4=>?_;rw[show i+1+x.cnt+y.cnt=i+(Tm.op w x y).cnt by show _=i+(x.cnt+y.cnt+1);omega];exact h e3 e4
 | .sm x y z u,i,d,r,more,e3,e4,ok,hg,hh,hc,h=>by
  have hx:=zgL x;have cx:=Zj x;have cy:=Zj y;have cz:=Zj z;have cu:=Zj u;have hh1:d+((max (max x.ht y.ht) (max z.ht u.ht)+1:Nat):Int)<=13:=hh;have hc1:i+(x.cnt+y.cnt+z.cnt+u.cnt+1)+r.length<=40:=hc;have hg1:((good nm x&&good nm y)&&(good nm z&&good nm u))=true:=hg;rw[zzW,zzW,zzW]at hg1;have e:(wds (.sm x y z u)).map D.str++more = .str "same"::((wds x).map .str++((wds y).map .str++((wds z).map .str++((wds u).map .str++more)))):=by
   show .str "same"::(wds x++(wds y++(wds z++wds u))).map D.str++more=_;simp only[zyG,List.cons_append,zyU]
  rw[e];refine zfN (k:=4) (by decide) (by omega) zkL (zik (k:=4) (by decide) (by omega) (λs=>zkL)) λe3 e4=>?_;show P (forL fG fB _ (FS W (nl nm) ((d+1)::(d+1)::(d+1)::(d+1)::r) e3 e4));refine zan x (i+1) (d+1) _ _ e3 e4 ok.1 hg1.1.1 (by omega) (by simp only[zzP];omega) λe3 e4=>?_;refine zan y (i+1+x.cnt) (d+1) _ _ e3 e4 ok.2.1 hg1.1.2 (by omega) (by simp only[zzP];omega) λe3 e4=>?_;refine zan z (i+1+x.cnt+y.cnt) (d+1) _ _ e3 e4 ok.2.2.1 hg1.2.1 (by omega) (by simp only[zzP];omega) λe3 e4=>?_;refine zan u (i+1+x.cnt+y.cnt+z.cnt) (d+1) r more e3 e4 ok.2.2.2 hg1.2.2 (by omega) (by omega) λe3 e4=>?_;rw[show i+1+x.cnt+y.cnt+z.cnt+u.cnt=i+(Tm.sm x y z u).cnt by show _=i+(x.cnt+y.cnt+z.cnt+u.cnt+1);omega];exact h e3 e4
theorem zqI{nm:List Str}{t:Tm}(ok:t.ko)(hg:good nm t=true)(hh:t.ht<=13)(hc:t.cnt<=40):Zi [(true,nl (wds t)),(true,nl nm)]=some (.lf true .non):=by
 have hl:∃e3 e4,forL fG fB (Xa true 0 ((wds t).map .str)) (FS (nl (wds t)) (nl nm) [0] none none)=some (Out.nx (FS (nl (wds t)) (nl nm) [] e3 e4)):=by
  have:=zan (W:=nl (wds t)) (nm:=nm) (P:=λo=>∃e3 e4,o=some (Out.nx (FS (nl (wds t)) (nl nm) [] e3 e4))) t 0 0 [] [] none none ok hg (by omega) (by show 0+_+0<=_;omega) (λe3 e4=>⟨e3,e4,rfl⟩);rw[zzY]at this;exact this
 obtain⟨e3,e4,hl⟩:=hl;exact ym rfl (zu (Yi (p:=2) (xR (zF zf yp) (szl rfl) rfl rfl) (zG rfl)) (zu (ZM (zwV (zc rfl)) hl) (yf (zcy (zH (zcV (wu (zB (zc rfl) zP) rfl rfl) zf) rfl) zf))))
theorem zrj{s:Bool}{v:Int}(h0:0<=v)(h1:v<10 ^ 60):ZG [(s,.str (tx v))]=some (.lf true (Tm.num v).toD):=
 ym rfl (v6 (wX (zH (ww (zB (zc rfl) (zB zf zP)) (zmR h0 h1)) rfl) (yf (zmI (os:=[.lf true (.str "number"),lfI v]) (zF zf (zF (wu (zB (zc rfl) zP) (by
  show(if(tx v).length<=640 then(PySem.intText? (tx v)).bind _ else none)=_;rw[if_pos (by have:=xZ h0 h1;omega),zgS h0 h1];rfl) rfl) yp)) (szl rfl) rfl))))
theorem zpX{x:Str}(h:isNm x):ZG [(true,.str x)]=some (.lf true (Tm.nam x).toD):=
 ym rfl (zu (yh (zH (ww (zB (zc rfl) (zB zf zP)) (zqU h)) rfl) rfl) (yf (zmI (os:=[.lf true (.str "name"),.lf true (.str x)]) (zF zf (zF (zc rfl) yp)) (szl rfl) rfl)))
abbrev oB:SF:=(zJ (zU true 3 (zA (aC (fV 2) aN) yd))
 (zJ (zU true 4 (fIf (fT (f2 (fV 3) (fC (.int 0)) (zY .Eq))) (zA (aC (fV 2) aN) ZG) (fP (aC (f2 (xX (dC (fV 2) dN)) (fSl (fV 1) oN (oS (fV 3)) slP) (zr .Add)) aN) tupP)))
 (zU true 1 (f2 (xX (dC (fV 4) dN)) (fSl (fV 1) (oS (fV 3)) oN slP) (zr .Add)))))
abbrev OS(W:D)(rs:List Tm)(e2 e3 e4:Option O):AS:=[some (.lf true W),some (.lf true (.lst (rs.map Tm.toD))),e2,e3,e4]
theorem zpR{W:D}{w:Str}{rs more:List Tm}{t:Tm}{k:Nat}{e4:Option O}(hk:rs.length=k)(hl:rs.length+more.length<=500):
 zU true 1 (f2 (xX (dC (fV 4) dN)) (fSl (fV 1) (oS (fV 3)) oN slP) (zr .Add)) (OS W (rs++more) (some (.lf true (.str w))) (some (lfI k)) (some (.lf true t.toD)))=some (.nx (OS W (t::more) (some (.lf true (.str w))) (some (lfI k)) (some (.lf true t.toD)))):=by
 subst hk;have hs:slP (.lst ((rs++more).map Tm.toD)) (some (rs.length:Int)) none=some (.fl (more.map Tm.toD)):=by
  have:=Vc (xs:=rs.map Tm.toD) (ys:=more.map Tm.toD);rw[zD,<-zyG]at this;exact this
 have:=Yi (p:=1) (as:=OS W (rs++more) (some (.lf true (.str w))) (some (lfI rs.length)) (some (.lf true t.toD))) (zhV (xR (x:=.lst [t.toD]) (zF (zc (i:=4) rfl) yp) (szl rfl) rfl rfl) (zah (fl:=oS (fV 3)) (fh:=oN) (WD.e (zc (i:=1) rfl)) (lo:=some (rs.length:Int)) (hi:=none) rfl rfl hs) (add_lists (xs:=[t.toD]) (szs (by rw[zD];show 1+_<=_;omega)))) (zG rfl);exact this
theorem zny{W:D}{w:Str}{rs:List Tm}{t:Tm}{e3 e4:Option O}(hl:rs.length<=400)(hp:yd [(true,.str w)]=some (.lf true (.int 0)))(ht:ZG [(true,.str w)]=some (.lf true t.toD)):
 ∃e3' e4',oB (OS W rs (some (.lf true (.str w))) e3 e4)=some (.nx (OS W (t::rs) (some (.lf true (.str w))) e3' e4')):=
 ⟨_,_,zu (zV (i:=3) (vH (WD.e (zc rfl)) hp) (zG rfl)) (zu (zV (i:=4) (zmL (zH (yG (zc rfl) zf rfl) rfl) (vH (WD.e (zc rfl)) ht)) (zG rfl)) (zpR (rs:=[]) (k:=0) (e4:=none) rfl (by show 0+_<=_;omega)))⟩
theorem znT{W:D}{w:Str}{rs more:List Tm}{t:Tm}{k:Nat}{e3 e4:Option O}(hk:rs.length=k)(hk0:0<k)(hl:rs.length+more.length<=400)(hp:yd [(true,.str w)]=some (.lf true (.int k)))(ht:t.toD = .tup (.str w::rs.map Tm.toD)):
 ∃e3' e4',oB (OS W (rs++more) (some (.lf true (.str w))) e3 e4)=some (.nx (OS W (t::more) (some (.lf true (.str w))) e3' e4')):=by
 refine⟨_,_,zu (zV (i:=3) (vH (WD.e (zc rfl)) hp) (zG rfl)) (zu (zV (i:=4) (x:=t.toD) (s:=true) (zcy (zH (yG (c:=false) (zc rfl) zf ?_) rfl) ?_) (zG rfl)) (zpR (e4:=none) hk (by omega)))⟩
 . show some ((k:Int)==0)=_;exact congrArg some (beq_eq_false_iff_ne.mpr (by omega))
 . have hs:slP (.lst ((rs++more).map Tm.toD)) none (some (k:Int))=some (.fl (rs.map Tm.toD)):=by
    have:=zmr (xs:=rs.map Tm.toD) (ys:=more.map Tm.toD);rw[zD,<-zyG,hk]at this;exact this
   rw[ht];exact Zv (zhV (xR (x:=.lst [.str w]) (zF (zc (i:=2) rfl) yp) (szl rfl) rfl rfl) (zah (fl:=oN) (fh:=oS (fV 3)) (WD.e (zc (i:=1) rfl)) (lo:=none) (hi:=some (k:Int)) rfl rfl hs) (add_lists (xs:=[.str w]) (szs (by rw[zD];show 1+_<=_;omega)))) rfl
abbrev its(ws:List Str):List It1:=(ws.map D.str).map λd=>(true,d)
theorem zjU(a b:List Str):its (a++b)=its a++its b:=by simp[its]
theorem zfP{W:D}{w:Str}{rs rs':List Tm}{more:List It1}{e2 e3 e4:Option O}{P:Option Out->Prop}(hs:∀e3 e4,∃e3' e4',oB (OS W rs (some (.lf true (.str w))) e3 e4)=some (.nx (OS W rs' (some (.lf true (.str w))) e3' e4')))
 (h:∀e2 e3 e4,P (forL (gN 2) oB more (OS W rs' e2 e3 e4))):P (forL (gN 2) oB (its [w]++more) (OS W rs e2 e3 e4)):=by
 obtain⟨e3',e4',q⟩:=hs e3 e4;have e:forL (gN 2) oB (its [w]++more) (OS W rs e2 e3 e4)=forL (gN 2) oB more (OS W rs' (some (.lf true (.str w))) e3' e4'):=xg (as1:=OS W rs (some (.lf true (.str w))) e3 e4) rfl q rfl;rw[e];exact h _ _ _
theorem zad{W:D}{P:Option Out->Prop}:∀(t:Tm) (rs:List Tm) (more:List It1) (e2 e3 e4:Option O),t.ko->t.cnt+rs.length<=300->(∀e2 e3 e4,P (forL (gN 2) oB more (OS W (t::rs) e2 e3 e4)))->P (forL (gN 2) oB (its (wds t).reverse++more) (OS W rs e2 e3 e4))
 | .num v,rs,more,e2,e3,e4,ok,hl,h=>zfP (λe3 e4=>zny (by omega) (zqO ok.1) (zrj ok.1 ok.2)) h
 | .nam x,rs,more,e2,e3,e4,ok,hl,h=>zfP (λe3 e4=>zny (by omega) (zrD ok) (zpX ok)) h
 | .op w x y,rs,more,e2,e3,e4,ok,hl,h=>by
  have cx:=Zj x;have cy:=Zj y;have hl1:x.cnt+y.cnt+1+rs.length<=300:=hl;have e:its (wds (.op w x y)).reverse++more=its (wds y).reverse++(its (wds x).reverse++(its [w]++more)):=by
   show its (w::(wds x++wds y)).reverse++more=_;rw[List.reverse_cons,List.reverse_append,zjU,zjU,zyU,zyU]
  rw[e];refine zad y rs _ e2 e3 e4 ok.2.2 (by omega) λe2 e3 e4=>?_;refine zad x (y::rs) _ e2 e3 e4 ok.2.1 (by rw[zzP];omega) λe2 e3 e4=>?_;exact zfP (λe3 e4=>znT (rs:=[x,y]) (more:=rs) (t:=.op w x y) (k:=2) rfl (by decide) (by show 2+_<=_;omega) (zrI ok.1) rfl) h
 | .sm x y z u,rs,more,e2,e3,e4,ok,hl,h=>by
  have cx:=Zj x;have cy:=Zj y;have cz:=Zj z;have cu:=Zj u;have hl1:x.cnt+y.cnt+z.cnt+u.cnt+1+rs.length<=300:=hl;have e:its (wds (.sm x y z u)).reverse++more=its (wds u).reverse++(its (wds z).reverse++(its (wds y).reverse++(its (wds x).reverse++(its ["same"]++more)))):=by
   show its (("same":Str)::(wds x++(wds y++(wds z++wds u)))).reverse++more=_;simp only[List.reverse_cons,List.reverse_append,zjU,zyU]
  rw[e];refine zad u rs _ e2 e3 e4 ok.2.2.2 (by omega) λe2 e3 e4=>?_;refine zad z (u::rs) _ e2 e3 e4 ok.2.2.1 (by simp only[zzP];omega) λe2 e3 e4=>?_;refine zad y (z::u::rs) _ e2 e3 e4 ok.2.1 (by simp only[zzP];omega) λe2 e3 e4=>?_;refine zad x (y::z::u::rs) _ e2 e3 e4 ok.1 (by simp only[zzP];omega) λe2 e3 e4=>?_;exact zfP (λe3 e4=>znT (rs:=[x,y,z,u]) (more:=rs) (t:=.sm x y z u) (k:=4) rfl (by decide) (by show 4+_<=_;omega) zkL rfl) h
theorem of_ok{t:Tm}(ok:t.ko)(hc:t.cnt<=40):Vu [(true,nl (wds t))]=some (.lf true t.toD):=by
 have hl:∃e2 e3 e4,forL (gN 2) oB (its (wds t).reverse) (OS (nl (wds t)) [] none none none)=some (Out.nx (OS (nl (wds t)) [t] e2 e3 e4)):=by
  have:=zad (W:=nl (wds t)) (P:=λo=>∃e2 e3 e4,o=some (Out.nx (OS (nl (wds t)) [t] e2 e3 e4))) t [] [] none none none ok (by show _+0<=_;omega) (λe2 e3 e4=>⟨e2,e3,e4,rfl⟩);rw[zzY]at this;exact this
 obtain⟨e2,e3,e4,hl⟩:=hl;have hrev:its (wds t).reverse=((wds t).map D.str).reverse.map λd=>(true,d):=by unfold its;rw[List.map_reverse]
 rw[hrev]at hl;exact ym rfl (zu (Yi (p:=1) (xR yp (szl rfl) rfl rfl) (zG rfl)) (zu (ZM (zwN (zc rfl)) hl) (yf (yr (zc rfl) zf rfl))))
theorem zlI{t:Tm}(ok:t.ko)(hc:t.cnt<=1000):Za (.str (S t)) [.str " "]=some (.fl ((wds t).map .str)):=by
 have hl:=zix ok;have e:Txt.split (S t) (" ":Str)=wds t:=by rw[blank_eq];exact zmv (XC t) (λw m=>(zar ok w m).1)
 show(if _ then some (R0.fl ((Txt.split (S t) " ").map .str))else none)=_;rw[if_pos,e];refine⟨by decide +kernel,szs (by omega), ?_⟩;rw[PyProof.Rows.len_partsBetween];have:=StrLaws.occ_length_le (S t) (" ":Str) 0 (S t).length ((S t).length+1);exact szs (by omega)
theorem ztV{nm:List Str}{t:Tm}(ok:t.ko)(hg:good nm t=true)(hh:t.ht<=13)(hc:t.cnt<=40):YX [(true,.str (S t)),(true,nl nm)]=some (.lf true t.toD):=
 ym rfl (zu (Yi (p:=2) (zjR (zc rfl) rfl (WD.e zf) (zlI ok (by omega))) (zG rfl)) (zu (zV (i:=3) (xW (WD.e (zc rfl)) (WD.e (zc rfl)) (zqI ok hg hh hc)) (zG rfl)) (zu (yh (zH (yu (z:=.bl false) (zc rfl) zf rfl rfl) rfl) rfl) (yf (vH (WD.e (zc rfl)) (of_ok ok hc))))))
def row(g:Int->Int):Nat->Int->List Int
 |0,_=>[]
 |n+1,k=>g k::row g n (k+1)
def tab(h:Int->List Int):Nat->Int->List (List Int)
 |0,_=>[]
 |n+1,k=>h k::tab h n (k+1)
theorem zky(g:Int->Int):∀(n:Nat) (k:Int),(row g n k).length=n
 |0,_=>rfl
 |n+1,k=>congrArg (· + 1) (zky g n (k+1))
theorem zkB(h:Int->List Int):∀(n:Nat) (k:Int),(tab h n k).length=n
 |0,_=>rfl
 |n+1,k=>congrArg (· + 1) (zkB h n (k+1))
theorem zkp{h:Int->List Int}{P:List Int->Prop}(hp:∀k,P (h k)):∀(n:Nat) (k:Int),∀r ∈ tab h n k,P r
 |0,_,r,m=>nomatch m
 |n+1,k,r,m=>by
  rcases zI.mp m with e|m
  . rw[e];exact hp k
  . exact zkp hp n (k+1) r m
abbrev zfC(r:List Int):O:=.nd .ls (r.map lfI)
abbrev zO(r:List Int):D:=.lst (r.map D.int)
theorem Zm:∀T:List (List Int),O.strs (T.map zfC)=true/\O.toDs (T.map zfC)=T.map zO
 | []=>⟨rfl,rfl⟩
 |r::T=>⟨by show(O.strs (r.map lfI)&&O.strs (T.map zfC))=true;rw[(yS r).2.1,(Zm T).1];rfl,by
  show D.lst (O.toDs (r.map lfI))::O.toDs (T.map zfC)=_;rw[(yS r).2.2,(Zm T).2];rfl⟩
theorem zdg{g:GF}{fe:EF}{as0 as1:AS}{y:It1}{r:List It1}{o:O}{os:List O}(h1:g y as0=some as1)(h2:fe as1=some (.ow o,as1))(hs:o.str=true)(h3:xT g xf fe as0 r=some os):xT g xf fe as0 (y::r)=some (o::os):=by
 unfold xT;rw[h1];show((fe as1).bind _)=_;rw[h2];show(if o.str=true then _ else _)=_;rw[if_pos hs,h3];rfl
theorem zdN{fe:EF}{as0:AS}{g:Int->Int}(H:∀b:Int,∃as1,gN 0 (true,.int b) as0=some as1/\WD fe as1 true (.int (g b))):∀(n:Nat) (k:Int),xT (gN 0) xf fe as0 (vg k n)=some ((row g n k).map lfI)
 |0,k=>rfl
 |n+1,k=>by
  obtain⟨as1,h1,h2⟩:=H k;rw[wC];exact Xu h1 h2 (zdN H n (k+1))
theorem tab_run{fe:EF}{as0:AS}{h:Int->List Int}(H:∀a:Int,∃as1,gN 0 (true,.int a) as0=some as1/\fe as1=some (.ow (zfC (h a)),as1)):∀(n:Nat) (k:Int),xT (gN 0) xf fe as0 (vg k n)=some ((tab h n k).map zfC)
 |0,k=>rfl
 |n+1,k=>by
  obtain⟨as1,h1,h2⟩:=H k;rw[wC];exact zdg h1 h2 (yS (h k)).2.1 (tab_run H n (k+1))
theorem vD:∀(n:Nat) (k:Int),(vg k n).length=n
 |0,_=>rfl
 |n+1,k=>by rw[wC];exact congrArg (· + 1) (vD n (k+1))
abbrev xJ(n:Int)(t:Tm):List (List Int):=tab (λa=>row (λb=>val n a b t) n.toNat 0) n.toNat 0
abbrev Yj(n m:Int)(t:Tm):List (List Int):=tab (λc=>row (λa=>val n a c t) n.toNat 0) m.toNat 0
abbrev feJ(w:Fn):EF:=(yC (vf (aC (fV 2) aN) vY) [none,some 1,some 2,some 0] (gN 0) xf (zA (aC (fV 1) (aC (fV 2) (aC (Ww [((fC (.str "a")),(fV 3)),((fC (.str "b")),(fV 0))]) aN))) w))
abbrev feR(w:Fn):EF:=(yC (vf (aC (fV 2) aN) vY) [none,some 1,some 2,some 0] (gN 0) xf (zA (aC (fV 1) (aC (fV 2) (aC (Ww [((fC (.str "a")),(fV 0)),((fC (.str "c")),(fV 3))]) aN))) w))
theorem zqy{w:Fn}{n:Int}{t:Tm}{s q:Bool}(hn:0<n)(hn2:n<=50)(hw:∀(a b:Int) (s q u:Bool),w [(s,t.toD),(q,.int n),(u,dN2 "b" a b)]=some (lfI (val n a b t)))(N:Nat)(k:Int):
 xT (gN 0) xf (feJ w) [none,some (.lf s t.toD),some (.lf q (.int n))] (vg k N)=some ((tab (λa=>row (λb=>val n a b t) n.toNat 0) N k).map zfC):=
 tab_run (λa=>⟨[some (lfI a),some (.lf s t.toD),some (.lf q (.int n))],rfl,wN (wK (zB (zc rfl) zP) (by omega) (by omega)) (by rw[vD];exact szs (by omega)) (zdN (λb=>⟨[some (lfI b),some (.lf s t.toD),some (.lf q (.int n)),some (lfI a)],rfl,ww (zB (zc rfl) (zB (zc rfl) (zgV (zfO (YJ zf rfl (zc rfl) (YJ zf rfl (zc rfl) zjY)) (show(([.inr "a",.inr "b"]:List Key)).Nodup by decide) (show(2:Nat)<=15 by decide)) zP))) (hw a b _ _ _)⟩) n.toNat 0)⟩) N k
theorem zqk{w:Fn}{n:Int}{t:Tm}{s q:Bool}(hn:0<n)(hn2:n<=50)(hw:∀(a b:Int) (s q u:Bool),w [(s,t.toD),(q,.int n),(u,dN2 "c" a b)]=some (lfI (val n a b t)))(N:Nat)(k:Int):
 xT (gN 0) xf (feR w) [none,some (.lf s t.toD),some (.lf q (.int n))] (vg k N)=some ((tab (λc=>row (λa=>val n a c t) n.toNat 0) N k).map zfC):=
 tab_run (λc=>⟨[some (lfI c),some (.lf s t.toD),some (.lf q (.int n))],rfl,wN (wK (zB (zc rfl) zP) (by omega) (by omega)) (by rw[vD];exact szs (by omega)) (zdN (λa=>⟨[some (lfI a),some (.lf s t.toD),some (.lf q (.int n)),some (lfI c)],rfl,ww (zB (zc rfl) (zB (zc rfl) (zgV (zfO (YJ zf rfl (zc rfl) (YJ zf rfl (zc rfl) zjY)) (show(([.inr "a",.inr "c"]:List Key)).Nodup by decide) (show(2:Nat)<=15 by decide)) zP))) (hw a c _ _ _)⟩) n.toNat 0)⟩) N k
theorem zsQ{n:Int}{t:Tm}{s q:Bool}(hn:0<n)(hn2:n<=50)(ht:t.ok "b")(hh:t.ht<=20):Vp [(s,.int n),(q,t.toD)]=some (.nd .ls ((xJ n t).map zfC)):=
 ym rfl (zdz (wN (wK (zB (zc rfl) zP) (by omega) (by omega)) (by rw[vD];exact szs (by omega)) (zqy (s:=q) (q:=s) hn hn2 (λa b _ _ _=>YT (.inl rfl) hn hn2 20 t _ _ _ ht (by omega)) n.toNat 0)) (Zm _).1)
theorem ztu{n m:Int}{t:Tm}{s r q:Bool}(hn:0<n)(hn2:n<=50)(hm:0<=m)(hm2:m<=50)(ht:t.ok "c")(hh:t.ht<=20):Vg [(s,.int n),(r,.int m),(q,t.toD)]=some (.nd .ls ((Yj n m t).map zfC)):=
 ym rfl (zdz (wN (wK (zB (zc rfl) zP) (by omega) (by omega)) (by rw[vD];exact szs (by omega)) (zqk (s:=q) (q:=s) hn hn2 (λa b _ _ _=>YT (.inr rfl) hn hn2 20 t _ _ _ ht (by omega)) m.toNat 0)) (Zm _).1)
theorem zha{f:D->D->Option Bool}:∀{xs:List D},(∀x ∈ xs,f x x=some true)->eqL f xs xs=some true
 | [],_=>rfl
 |x::r,h=>by
  show(f x x).bind _=_;rw[h x (zzB),zyF,zha (xs:=r) λy m=>h y (zS _ m)];rfl
theorem zqA(w:Bool)(ds:List D):(kids w ds).length=ds.length:=by unfold kids;rw[zD]
section
variable{as:AS}{a b f:EF}{x y z:D}
theorem ve{i:Nat}(h:as[i]? = some (some (.lf true x))):WE (fV i) as x:=(zc h).e
theorem ce:WE (fC x) as x:=zf.e
theorem zuG{fi:IF}{cap:List (Option Nat)}{g:GF}{fe:EF}{xs:List It1}{F:It1->D}(h1:fi as=some (xs,as))(hl:xs.length<=sizeLine)(H:∀x ∈ xs,∃as1,g x (WY cap as)=some as1/\WE fe as1 (F x)):WE (yC fi cap g xf fe) as (.lst (xs.map F)):=by
 have key:∀l:List It1,(∀x ∈ l,x ∈ xs)->∃os,xT g xf fe (WY cap as) l=some os/\O.strs os=true/\O.toDs os=l.map F:=λl=>by
  induction l with
  |nil=>intro _;exact⟨[],rfl,rfl,rfl⟩
  |cons d r ih=>
   intro hs;obtain⟨os,e1,e2,e3⟩:=ih λx m=>hs x (zS _ m);obtain⟨as1,g1,o,g2,g3,g4⟩:=H d (hs d (by simp));exact⟨o::os,zdg g1 g2 g3 e1,by show(o.str&&O.strs os)=true;rw[g3,e2];rfl,by show o.toD::O.toDs os=_;rw[g4,e3];rfl⟩
 obtain⟨os,e1,e2,e3⟩:=key xs λ_ m=>m;exact⟨_,wN h1 hl e1,e2,congrArg D.lst e3⟩
theorem zir{α:Type}{cap:List (Option Nat)}{fe fi:EF}{l:List α}{e F:α->D}(h:WE fi as (.lst (l.map e)))(hl:l.length<=1000)(H:∀v ∈ l,∃as1,gN 0 (true,e v) (WY cap as)=some as1/\WE fe as1 (F v)):WE (yC (Z6 fi) cap (gN 0) xf fe) as (.lst (l.map F)):=by
 have key:∀l':List α,(∀x ∈ l',x ∈ l)->∃os,xT (gN 0) xf fe (WY cap as) ((l'.map e).map λd=>(true,d))=some os/\O.strs os=true/\O.toDs os=l'.map F:=λl'=>by
  induction l' with
  |nil=>intro _;exact⟨[],rfl,rfl,rfl⟩
  |cons d r ih=>
   intro hs;obtain⟨os,e1,e2,e3⟩:=ih λx m=>hs x (zS _ m);obtain⟨as1,g1,o,g2,g3,g4⟩:=H d (hs d (by simp));exact⟨o::os,zdg g1 g2 g3 e1,by show(o.str&&O.strs os)=true;rw[g3,e2];rfl,by show o.toD::O.toDs os=_;rw[g4,e3];rfl⟩
 obtain⟨os,e1,e2,e3⟩:=key l λ_ m=>m;exact⟨_,wN (zpG h) (by rw[zD,zD];exact szs (by omega)) e1,e2,congrArg D.lst e3⟩
theorem Zu{u v:Str}(ha:WE a as (.str u))(hb:WE b as (.str v))(h:u.length+v.length<=1000000):WD (f2 a b (zr .Add)) as true (.str (u++v)):=f2E ha hb (zds (szs h))
theorem zfX:∀ps:List Str,zdx (ps.map D.str)=some ps
 | []=>rfl
 |p::r=>by show(zdx (r.map D.str)).bind _=_;rw[zfX r];rfl
theorem zgX{sep:Str}{ps:List Str}(h:(ps.map (·.length)).sum+ps.length*sep.length<=16777216):wH (.str sep) [.lst (ps.map D.str)]=some (.im (.str (Str.join sep ps))):=by
 show(zdx (ps.map D.str)).bind _=_;rw[zfX];show(if _ then some (R0.im (.str (Txt.join sep ps)))else none)=_;rw[if_pos h,zlk]
theorem zjr{n:Nat}:∀{ps:List Str},(∀p ∈ ps,p.length<=n)->(ps.map (·.length)).sum<=ps.length*n
 | [],_=>by simp
 |p::r,h=>by
  have:=zjr λp m=>h p (zS _ m);have:=h p (by simp);rw[zyM,List.sum_cons,zzP,Nat.succ_mul];omega
theorem Xx(sep:Str){n:Nat}:∀{ps:List Str},(∀p ∈ ps,p.length<=n)->(Str.join sep ps).length<=ps.length*(n+sep.length)
 | [],_=>Nat.zero_le _
 | [p],h=>by have:=h p (by simp);show p.length<=1*_;omega
 |p::q::r,h=>by
  have ih:=Xx sep (ps:=q::r) λp m=>h p (zS _ m);have:=h p (by simp);rw[len_eq,Vy,zzF,zzF,<-len_eq,<-len_eq,<-len_eq,zzP (a:=p),Nat.succ_mul];omega
theorem joinM{α:Type}{fr:EF}{sep:Str}{l:List α}{g:α->Str}{n:Nat}(h:WE fr as (.lst (l.map λv=>D.str (g v))))(hp:∀v ∈ l,(g v).length<=n)(hl:l.length*(n+sep.length)<=1000000):WD (yF .str (fC (.str sep)) (aC fr aN) wH) as true (.str (Str.join sep (l.map g))):=by
 have e:(l.map λv=>D.str (g v))=(l.map g).map D.str:=by rw[zzV];rfl
 rw[e]at h;have:=zjr (ps:=l.map g) (n:=n) λp m=>by obtain⟨v,mv,rfl⟩:=zyV.mp m;exact hp v mv
 rw[zD]at this;exact Xl zf rfl (Yh h zP) (zgX (by rw[zD];rw[Nat.mul_add]at hl;omega)) rfl
theorem zgF{v:Int}(h:WE a as (.int v))(h0:0<=v)(h1:v<10 ^ 60):WD (fP (aC a aN) vQ) as true (.str (tx v)):=Zv h (by show zsY [.int v]=_;exact if_pos (zrB h0 h1))
theorem zca{ds:List D}{k:Nat}(h:ds[k]? = some x):ixP (.lst ds) (.int (k:Int))=some (.im x):=by
 have e:=Wr h;show imR (atI _ _)=_;rw[e];rfl
theorem zoX{x y:Str}{ps:List Str}(hy:(y.length==0)=false)(e:Txt.split x y=ps)(hx:x.length<=1000000)(hl:ps.length<=1000000):Za (.str x) [.str y]=some (.fl (ps.map .str)):=by
 have z:(Builtin.Str.partsBetween x (Builtin.Str.occurrences x y 0 x.length (x.length+1)) y.length).length<=sizeLine:=by rw[<-zbn,e];exact szs hl
 show(if _ then some (R0.fl ((Txt.split x y).map .str))else none)=_;rw[if_pos ⟨hy,szs hx,z⟩,e]
theorem zfY{x y:Str}{ps:List Str}(h:WE a as (.str x))(hy:(y.length==0)=false)(e:Txt.split x y=ps)(hx:x.length<=1000000)(hl:ps.length<=1000000)(hd:WD a as true (.str x)):WE (yF .str a (aC (fC (.str y)) aN) Za) as (.lst (ps.map .str)):=
 zjR hd rfl ce (zoX hy e hx hl)
end
abbrev sb:Str:=" "
abbrev sc:Str:=", "
abbrev sn:Str:="\n"
theorem zhA:sb.cps.toList=32::[]:=by decide +kernel
theorem zwW:sc.cps.toList=44::[32]:=by decide +kernel
theorem zxU:sn.cps.toList=10::[]:=by decide +kernel
theorem zhP:(sb.length==0)=false:=by decide +kernel
theorem zyj:(sc.length==0)=false:=by decide +kernel
theorem zxQ:(sn.length==0)=false:=by decide +kernel
theorem zhQ:sb.length=1:=by decide +kernel
theorem zvn:sc.length=2:=by decide +kernel
theorem zvH:sn.length=1:=by decide +kernel
def rT(r:List Int):Str:=Str.join sb (r.map tx)
def tT(T:List (List Int)):Str:=Str.join sc (T.map rT)
def Vs(r:List Int):Prop:=r.length<=8/\∀v ∈ r,0<=v/\v<10 ^ 60
def Ts(T:List (List Int)):Prop:=T.length<=8/\∀r ∈ T,Vs r
theorem zjA{r:List Int}(h:Vs r):(rT r).length<=500:=by
 have:=Xx sb (ps:=r.map tx) (n:=60) λp m=>by obtain⟨v,mv,rfl⟩:=zyV.mp m;exact xZ (h.2 v mv).1 (h.2 v mv).2
 rw[zD,zhQ]at this;have:=h.1;unfold rT;omega
theorem XD{T:List (List Int)}(h:Ts T):(tT T).length<=5000:=by
 have:=Xx sc (ps:=T.map rT) (n:=500) λp m=>by obtain⟨v,mv,rfl⟩:=zyV.mp m;exact zjA (h.2 v mv)
 rw[zD,zvn]at this;have:=h.1;unfold tT;omega
theorem zgj{as:AS}{fi:EF}{r:List Int}(hr:Vs r)(h:WE fi as (zO r)):WE (yC (Z6 fi) [none] (gN 0) xf (fP (aC (fV 0) aN) vQ)) as (.lst (r.map λv=>D.str (tx v))):=
 zir h (by have:=hr.1;omega) λv m=>⟨_,rfl,(zgF (ve rfl) (hr.2 v m).1 (hr.2 v m).2).e⟩
theorem znv{as:AS}{fi:EF}{r:List Int}(hr:Vs r)(h:WE fi as (zO r)):WD (yF .str (fC (.str " ")) (aC (yC (Z6 fi) [none] (gN 0) xf (fP (aC (fV 0) aN) vQ)) aN) wH) as true (.str (rT r)):=
 joinM (n:=60) (zgj hr h) (λv m=>xZ (hr.2 v m).1 (hr.2 v m).2) (by have:=hr.1;show _*(60+sb.length)<=_;rw[zhQ];omega)
theorem zma{r:List Int}(hr:Vs r):X7 [(true,zO r)]=some (.lf true (.str (rT r))):=ym rfl (yf (znv hr (ve rfl)))
theorem zdu{T:List (List Int)}(hT:Ts T):vh [(true,.lst (T.map zO))]=some (.lf true (.str (("rows ":Str)++tT T))):=
 ym rfl (yf (Zu ce (joinM (n:=500) (zir (ve rfl) (by have:=hT.1;omega) λr m=>⟨_,rfl,(vH (ve rfl) (zma (hT.2 r m))).e⟩) (λr m=>zjA (hT.2 r m)) (by have:=hT.1;show _*(500+sc.length)<=_;rw[zvn];omega)).e (by have:=XD hT;have:("rows ":Str).length=5:=(by decide +kernel);show _+(tT T).length<=_;omega)))
theorem zhg{T:List (List Int)}(hT:Ts T):yz [(true,.lst (T.map zO))]=some (.lf true (.str (tT T))):=
 ym rfl (yf (joinM (n:=500) (zir (ve rfl) (by have:=hT.1;omega) λr m=>⟨_,rfl,(znv (hT.2 r m) (ve rfl)).e⟩) (λr m=>zjA (hT.2 r m)) (by have:=hT.1;show _*(500+sc.length)<=_;rw[zvn];omega)))
section
variable{as:AS}{a b c:EF}{s t u:Bool}{i j k:Int}
theorem zsq(ha:WD a as s (.int i))(hb:WD b as t (.int j))(hc:WD c as u (.int k)):WD (zaW a b c (zY .LtE) (zY .LtE)) as true (.bl (decide (i<=j)&&decide (j<=k))):=by
 unfold WD at *
 by_cases h:i<=j
 . unfold zaW;rw[ha];simp only[zyF];rw[hb];simp only[zyF];simp only[RV.frz,O.frz,RV.view,O.toD,O.str,zyF,zY,zmW,onI,asI,blR,h,decide_true,hc,Bool.true_and];rfl
 . unfold zaW;rw[ha];simp only[zyF];rw[hb];simp only[zyF];simp only[RV.frz,O.frz,RV.view,O.toD,O.str,zyF,zY,zmW,onI,asI,blR,h,decide_false,Bool.false_and]
end
theorem zjv{v lo hi:Int}(h0:0<=v)(h1:v<10 ^ 60)(hl:lo<=v)(hh:v<=hi):yU [(true,.str (tx v)),(true,.int lo),(true,.int hi)]=some (.lf true (.int v)):=by
 have hi2:zcj [.str (tx v)]=some (.im (.int v)):=by
  show(if(tx v).length<=640 then(PySem.intText? (tx v)).bind _ else none)=_;rw[if_pos (by have:=xZ h0 h1;omega),zgS h0 h1];rfl
 exact ym rfl (zu (yh (W6 (k:=true) (zH (xW (ve rfl) ce (zmR h0 h1)) rfl)) rfl) (zu (zV (i:=3) (Zv (ve rfl) hi2) (zG rfl)) (yf (zmL (zH (zsq (zc rfl) (zc rfl) (zc rfl)) (by rw[zyI hl,zyI hh];rfl)) (zc rfl)))))
def In(n:Int)(r:List Int):Prop:=∀v ∈ r,0<=v/\v<n
theorem zoa:∀r:List Int,anyF (λy=>eqF 50 y .non) (r.map D.int)=some false
 | []=>rfl
 |v::r=>by show(anyF _ (r.map D.int)).bind _=_;rw[zoa r];rfl
theorem zqR{n:Int}{r:List Int}(hn:n<=8)(hl:r.length<=100)(hr:In n r):vP [(true,.lst (r.map λv=>D.str (tx v))),(true,.int n)]=some (.lf true (zO r)):=
 ym rfl (zu (Yi (p:=2) (zir (F:=D.int) (ve rfl) (by omega) λv m=>⟨_,rfl,(zal (ve rfl) ce (zfZ (zc rfl) zf).e (zjv (hr v m).1 (by have:=(hr v m).2;omega) (hr v m).1 (by have:=(hr v m).2;omega))).e⟩) (zG rfl))
  (yf (zcy (zH (f2E ce (ve rfl) (z:=.bl false) (by rw[zku];show(anyF _ (r.map D.int)).bind _=_;rw[zoa];rfl)) rfl) (zc rfl))))
theorem mem_join{y:Str}{c:Nat}:∀{ps:List Str},c ∈ (Str.join y ps).cps.toList->c ∈ y.cps.toList\/∃p ∈ ps,c ∈ p.cps.toList
 | [],h=>by cases h
 | [p],h=>.inr ⟨p,by simp,h⟩
 |p::q::r,h=>by
  rw[Vy]at h
  rcases zzI.mp h with h|h
  . rcases zzI.mp h with h|h
    . exact .inr ⟨p,by simp,h⟩
    . exact .inl h
  . rcases mem_join h with h|⟨z,m,h⟩
    . exact .inl h
    . exact .inr ⟨z,zS _ m,h⟩
theorem znE{n:Int}{r:List Int}(hr:In n r){c:Nat}(h:c ∈ (rT r).cps.toList):c=32\/(48<=c/\c<=57):=by
 rcases mem_join h with h|⟨p,m,h⟩
 . rw[zhA]at h;exact .inl (zzN.mp h)
 . obtain⟨v,mv,rfl⟩:=zyV.mp m;exact .inr (Vb (hr v mv).1 c h)
theorem zoc{n:Int}{T:List (List Int)}(hT:∀r ∈ T,In n r){c:Nat}(h:c ∈ (tT T).cps.toList):c=44\/c=32\/(48<=c/\c<=57):=by
 rcases mem_join h with h|⟨p,m,h⟩
 . rw[zwW]at h;rcases zI.mp h with h|h
   . exact .inl h
   . exact .inr (.inl (zzN.mp h))
 . obtain⟨r,mr,rfl⟩:=zyV.mp m;exact .inr (znE (hT r mr) h)
theorem zps{r:List Int}(hn:r≠[]):Txt.split (rT r) sb=r.map tx:=zet zhA (by simpa using hn) λp m=>by
 obtain⟨v,mv,rfl⟩:=zyV.mp m;exact ziC
theorem zpu{n:Int}{T:List (List Int)}(hn:T≠[])(hT:∀r ∈ T,In n r):Txt.split (tT T) sc=T.map rT:=zet zwW (by simpa using hn) λp m h=>by
 obtain⟨r,mr,rfl⟩:=zyV.mp m;have:=znE (hT r mr) h;omega
theorem zor{n:Int}{r:List Int}(hn:n<=8)(hl:r.length<=8)(h:In n r):Vs r:=⟨hl,λv m=>⟨(h v m).1,by have:=(h v m).2;omega⟩⟩
theorem zte{α:Type}(l:List α)(g:α->Str):(l.map g).map D.str=l.map λv=>D.str (g v):=by rw[zzV];rfl
theorem zsL{as:AS}{fa fn:EF}{n:Int}{r:List Int}(hn:n<=8)(hr:In n r)(hl:r.length<=8)(hne:r≠[])(ha:WD fa as true (.str (rT r)))(hb:WE fn as (.int n)):WD (zA (aC (yF .str fa (aC (fC (.str " ")) aN) Za) (aC fn aN)) vP) as true (zO r):=by
 have h:=zfY (y:=sb) ha.e zhP (zps hne) (by have:=zjA (zor hn hl hr);omega) (by rw[zD];omega) ha;rw[zte]at h;exact xW h hb (zqR hn (by omega) hr)
def Tb(n:Int)(m:Nat)(T:List (List Int)):Prop:=T.length=m/\∀r ∈ T,(r.length:Int)=n/\In n r
theorem zjd{α:Type}:∀l:List α,WX (l.map λ_=>D.bl true)=some (l.map λ_=>true)
 | []=>rfl
 |_::r=>by show(WX (r.map _)).bind _=_;rw[zjd r];rfl
theorem zou{α:Type}:∀l:List α,(l.map λ_=>true).all id=true
 | []=>rfl
 |_::r=>zou r
theorem zjz{α:Type}(l:List α):zmK [.lst (l.map λ_=>D.bl true)]=some (.im (.bl true)):=by
 show(WX _).bind _=_;rw[zjd];show some (R0.im (.bl _))=_;rw[zou]
theorem zgM{as:AS}{f:EF}{ds:List D}(h:WE f as (.lst ds)):WD (fP (aC f aN) wz) as true (.int ds.length):=Zv h rfl
theorem zjn{n:Int}{m:Nat}{T:List (List Int)}(hn:1<=n)(hn2:n<=8)(hm:1<=m)(hm2:m<=8)(hT:Tb n m T):vR [(true,.str (tT T)),(true,.int m),(true,.int n)]=some (.lf true (.lst (T.map zO))):=by
 have hne:T≠[]:=λe=>by have:=hT.1;rw[e]at this;simp at this;omega
 have hI:∀r ∈ T,In n r:=λr mr=>(hT.2 r mr).2;have hl8:∀r ∈ T,r.length<=8:=λr mr=>by have:=(hT.2 r mr).1;omega
 have hTs:Ts T:=⟨by have:=hT.1;omega,λr mr=>zor hn2 (hl8 r mr) (hI r mr)⟩;have hs:WE (yF .str (fV 0) (aC (fC (.str ", ")) aN) Za) [some (.lf true (.str (tT T))),some (.lf true (.int m)),some (.lf true (.int n)),none] (.lst (T.map λr=>D.str (rT r))):=by
  have h:=zfY (as:=[some (.lf true (.str (tT T))),some (.lf true (.int m)),some (.lf true (.int n)),none]) (a:=fV 0) (y:=sc) (ve rfl) zyj (zpu hne hI) (by have:=XD hTs;omega) (by rw[zD];have:=hT.1;omega) (zc rfl)
  rwa [zte]at h
 refine ym rfl (zu (Yi (p:=3) (zir (F:=zO) hs (by have:=hT.1;omega) λr mr=>⟨_,rfl,(zsL hn2 (hI r mr) (hl8 r mr) (λe=>by have:=(hT.2 r mr).1;rw[e]at this;simp at this;omega) (zc rfl) (ve rfl)).e⟩) (zG rfl)) (zu (yh (v9 (k:=false) (zH (zjG (q:=true) (zgM (ve rfl)).e (ve rfl) ?_) rfl) (λ_=>W6 (k:=true) (zH (Zv (zir (e:=zO) (F:=λ_=>D.bl true) (ve rfl) (by have:=hT.1;omega) λr mr=>⟨_,rfl,(zhB (k:=true) (f2E (ve rfl) ce (z:=.bl true) rfl) (λ_=>zrQ (zgM (ve rfl)).e (ve rfl) ?_) (λh=>nomatch h)).e⟩) (zjz T)) rfl)) (λh=>nomatch h)) rfl) (yf (zc rfl))))
 . show some (((T.map zO).length:Int)==(m:Int))=_;rw[zD,hT.1];simp
 . show some (((r.map D.int).length:Int)==n)=_;rw[zD,(hT.2 r mr).1];simp
section
variable{as:AS}{a b:EF}{x y z:D}
theorem zdq{ty:Ty}{g:D->List D->Option R0}(ha:WD a as true y)(ht:zhR ty y=true)(hb:WE b as x)(hg:g y [x]=some (.im z)):WD (yF ty a (aC b aN) g) as true z:=by
 have hr:WA (aC b aN) as [(true,x)]:=Yh hb zP;unfold WD yF;unfold WD at ha;unfold WA at hr;rw[ha];show(if zhR ty y=true then _ else _:Option (RV×AS))=_;rw[if_pos ht,hr];simp only[zyF,Z4];show((g y [x]).bind _)=_;rw[hg];show(if(ye z||true)=true then some (RV.ow (lfs true z))else none:Option RV).bind _=_;rw[if_pos (by simp)];show some (RV.ow (.lf (ye z||true) z),as)=_;rw[zzX]
theorem zun{c:TF}(h:WT c as false)(hb:WE b as x):WE (fIf c a b) as x:=by
 obtain⟨o,e1,e2,e3⟩:=hb;exact⟨o,by unfold fIf;unfold WT at h;rw[h];exact e1,e2,e3⟩
theorem zxf{c:TF}(h:WT c as true)(ha:WE a as x):WE (fIf c a b) as x:=by
 obtain⟨o,e1,e2,e3⟩:=ha;exact⟨o,by unfold fIf;unfold WT at h;rw[h];exact e1,e2,e3⟩
def RS(r:Option Out)(x:D):Prop:=∃o,r=some (.rt o)/\o.str=true/\o.toD=x
theorem RS.seq{f g:SF}{as1:AS}(h1:f as=some (.nx as1))(h2:RS (g as1) x):RS (zJ f g as) x:=by
 obtain⟨o,e1,e2⟩:=h2;exact⟨o,zu h1 e1,e2⟩
theorem RS.seqR{f g:SF}(h1:RS (f as) x):RS (zJ f g as) x:=by
 obtain⟨o,e1,e2⟩:=h1;exact⟨o,v6 e1,e2⟩
theorem RS.ifT{c:TF}{f g:SF}(h:WT c as true)(h1:RS (f as) x):RS (sIf c f g as) x:=by
 obtain⟨o,e1,e2⟩:=h1;exact⟨o,wX h e1,e2⟩
theorem RS.ret(h:WE a as x):RS (yq a as) x:=by
 obtain⟨o,e1,e2,e3⟩:=h;exact⟨o,zdz e1 e2,e2,e3⟩
theorem RS.fn{n m:Nat}{c:SF}{ds:List (Bool×D)}(hl:ds.length=m)(h:RS (c (XQ n ds)) x):RE (fnR n m c ds) x:=by
 obtain⟨o,e1,e2⟩:=h;exact⟨o,ym hl e1,e2⟩
end
theorem zbw{x y p q r:Str}(hy:(y.length==0)=false)(hx:x.length<=1000000)(e:Txt.partition x y=(p,q,r)):zji (.str x) [.str y]=some (.im (.tup [.str p,.str q,.str r])):=by
 show(if _ then some (R0.im (.tup [.str (Txt.partition x y).1,.str (Txt.partition x y).2.1,.str (Txt.partition x y).2.2]))else none)=_;rw[if_pos ⟨hy,szs hx⟩,e]
theorem zso(x:Str):("rows ":Str)++x=("rows":Str)++sb++x:=by
 rw[show("rows ":Str)=("rows":Str)++sb by decide +kernel]
theorem zic{X:Str}:Txt.partition (("rows ":Str)++X) sb=(("rows":Str),sb,X):=by
 rw[zso];exact zcI zhA (by decide +kernel)
def hd:Tm->Str
 | .num v=>tx v
 | .nam x=>x
 | .op w _ _=>w
 | .sm _ _ _ _=>"same"
theorem zvX:∀t:Tm,∃ws,wds t=hd t::ws
 | .num _=>⟨_,rfl⟩
 | .nam _=>⟨_,rfl⟩
 | .op _ _ _=>⟨_,rfl⟩
 | .sm _ _ _ _=>⟨_,rfl⟩
theorem zxw{t:Tm}(ok:t.ko):hd t≠("rows":Str):=by
 cases t with
 |num v=>exact Ze ok.1 ⟨114,by decide +kernel,by decide⟩
 |nam x=>
  have key:∀w:Str,isNm w->w≠("rows":Str):=λw h=>by rcases h with rfl|rfl|rfl<;>decide +kernel
  exact key x ok
 |op w x y=>
  have key:∀w:Str,zbb w->w≠("rows":Str):=λw h=>by rcases h with rfl|rfl|rfl|rfl|rfl<;>decide +kernel
  exact key w ok.1
 |sm x y z u=>exact(show("same":Str)≠"rows" by decide +kernel)
theorem ziq{t:Tm}(ok:t.ko):∃q r,Txt.partition (S t) sb=(hd t,q,r):=by
 obtain⟨ws,e⟩:=zvX t;have nb:NB (hd t):=(zar ok (hd t) (by rw[e];simp)).1;cases ws with
 |nil=>
  refine⟨Str.empty,Str.empty, ?_⟩;unfold S;rw[e,PF.join_one];exact zjD zhA nb
 |cons w ws=>
  refine⟨sb,Str.join bl1 (w::ws), ?_⟩;unfold S;rw[e,zmF _ _ (by simp),<-blank_eq];exact zcI zhA nb
theorem zkT{t:Tm}(ok:t.ko):eqF 60 (.str (hd t)) (.str "rows")=some false:=congrArg some (str_beq (zxw ok))
theorem Wm{p:Str}(hp:isP p):∀{t:Tm},t.ok p->t.ko
 | .num _,h=>h
 | .nam x,h=>by
  show isNm x
  rcases h with rfl|rfl
  . exact .inl rfl
  . rcases hp with rfl|rfl
    . exact .inr (.inl rfl)
    . exact .inr (.inr rfl)
 | .op _ _ _,h=>⟨h.1,Wm hp h.2.1,Wm hp h.2.2⟩
 | .sm _ _ _ _,h=>⟨Wm hp h.1,Wm hp h.2.1,Wm hp h.2.2.1,Wm hp h.2.2.2⟩
theorem Vx{p:Str}:∀{t:Tm},t.ok p->good [("a":Str),p] t=true
 | .num _,_=>rfl
 | .nam x,h=>by
  show(([("a":Str),p]:List Str).any (· == x))=true
  rcases h with rfl|rfl<;>simp
 | .op _ _ _,h=>by show(good _ _&&good _ _)=true;rw[Vx h.2.1,Vx h.2.2];rfl
 | .sm _ _ _ _,h=>by show((good _ _&&good _ _)&&(good _ _&&good _ _))=true;rw[Vx h.1,Vx h.2.1,Vx h.2.2.1,Vx h.2.2.2];rfl
theorem zeR{p:Str}{t:Tm}(hp:isP p)(ok:t.ok p)(hh:t.ht<=13)(hc:t.cnt<=40):xN [(true,.str (S t)),(true,.lst [.str "a",.str p])]=some (.lf true t.toD):=
 ym rfl (yf (xW (ve rfl) (ve rfl) (ztV (nm:=[("a":Str),p]) (Wm hp ok) (Vx ok) hh hc)))
theorem znF:∀t:Tm,zY .Is t.toD .non=some (.im (.bl false))
 | .num _=>rfl
 | .nam _=>rfl
 | .op _ _ _=>rfl
 | .sm _ _ _ _=>rfl
def JT(n:Int)(X:Str)(T:List (List Int)):Prop:=RE (wL [(true,.str X),(true,.int n)]) (.lst (T.map zO))
def DT(n:Int)(m:Nat)(X:Str)(T:List (List Int)):Prop:=RE (wJ [(true,.str X),(true,.int n),(true,.int m)]) (.lst (T.map zO))
theorem zfp{n:Int}{m:Nat}{T:List (List Int)}(hn:n<=8)(hm:m<=8)(hT:Tb n m T):Ts T:=⟨by have:=hT.1;omega,λr mr=>zor hn (by have:=(hT.2 r mr).1;omega) (hT.2 r mr).2⟩
theorem zsd{n:Int}{T:List (List Int)}(hn:1<=n)(hn2:n<=8)(hT:Tb n n.toNat T):JT n (("rows ":Str)++tT T) T:=by
 have hl:=XD (zfp hn2 (by omega) hT);have lr:("rows ":Str).length=5:=(by decide +kernel);have e:=zjn hn hn2 (by omega) (by omega) hT;rw[show((n.toNat:Nat):Int)=n by omega]at e;exact .of (ym rfl (zu (zV (i:=2) (zdq (zc rfl) rfl ce (zbw zhP (by rw[zX];omega) zic)) (zG rfl)) (v6 (wX (zH (yG (yr (zc rfl) zf rfl) zf rfl) rfl) (yf (zal (yr (zc rfl) zf rfl).e (ve rfl) (ve rfl) e))))))
theorem zow{n:Int}{m:Nat}{T:List (List Int)}(hn:1<=n)(hn2:n<=8)(hm:1<=m)(hm2:m<=8)(hT:Tb n m T):DT n m (("rows ":Str)++tT T) T:=by
 have hl:=XD (zfp hn2 (by omega) hT);have lr:("rows ":Str).length=5:=(by decide +kernel);exact .of (ym rfl (zu (zV (i:=3) (zdq (zc rfl) rfl ce (zbw zhP (by rw[zX];omega) zic)) (zG rfl)) (v6 (wX (zH (yG (yr (zc rfl) zf rfl) zf rfl) rfl) (yf (zal (yr (zc rfl) zf rfl).e (ve rfl) (ve rfl) (zjn hn hn2 hm hm2 hT)))))))
theorem zsp{n:Int}{t:Tm}(hn:1<=n)(hn2:n<=8)(ok:t.ok "b")(hh:t.ht<=13)(hc:t.cnt<=40):JT n (S t) (xJ n t):=by
 have ko:=Wm (.inl rfl) ok;have hl:=zix ko;obtain⟨q,r,e⟩:=ziq ko;have hj:=zsQ (s:=true) (q:=true) (n:=n) (by omega) (by omega) ok (by omega);exact RS.fn rfl (.seq (zV (i:=2) (zdq (zc rfl) rfl ce (zbw zhP (by omega) e)) (zG rfl)) (.seq (yh (zH (yG (yr (zc rfl) zf rfl) zf (zkT ko)) rfl) rfl)
  (.seq (zV (i:=3) (xW (ve rfl) (xR (zF zf (zF zf yp)) (by decide) rfl rfl) (zeR (.inl rfl) ok hh hc)) (zG rfl))
  (.ret (zun (zH (f2E (ve rfl) ce (znF t)) rfl) (zcE (ve rfl) (ve rfl) ⟨_,hj,(Zm _).1,congrArg D.lst (Zm _).2⟩))))))
theorem ztc{n:Int}{m:Nat}{t:Tm}(hn:1<=n)(hn2:n<=8)(hm:m<=8)(ok:t.ok "c")(hh:t.ht<=13)(hc:t.cnt<=40):DT n m (S t) (Yj n m t):=by
 have ko:=Wm (.inr rfl) ok;have hl:=zix ko;obtain⟨q,r,e⟩:=ziq ko;have hj:=ztu (s:=true) (r:=true) (q:=true) (n:=n) (m:=m) (by omega) (by omega) (by omega) (by omega) ok (by omega);exact RS.fn rfl (.seq (zV (i:=3) (zdq (zc rfl) rfl ce (zbw zhP (by omega) e)) (zG rfl)) (.seq (yh (zH (yG (yr (zc rfl) zf rfl) zf (zkT ko)) rfl) rfl)
  (.seq (zV (i:=4) (xW (ve rfl) (xR (zF zf (zF zf yp)) (by decide) rfl rfl) (zeR (.inr rfl) ok hh hc)) (zG rfl))
  (.ret (zun (zH (f2E (ve rfl) ce (znF t)) rfl) (zen (ve rfl) (ve rfl) (ve rfl) ⟨_,hj,(Zm _).1,congrArg D.lst (Zm _).2⟩))))))
theorem zdC{x:D}{k:Int}(h:zY .Is x .non=some (.im (.bl false))):xO [(true,x),(true,.int k)]=some (.lf true x):=
 ym rfl (zu (yh (zH (f2E (ve rfl) ce h) rfl) rfl) (yf (zc rfl)))
theorem zbT{as:AS}{fr:DF}{os:List O}{ds:List D}(h:WO fr as os)(hl:os.length<=sizeLine)(ha:os.all O.isLf=true)(hs:O.strs os=true)(e:O.toDs os=ds):WD (Yg fr) as true (.tup ds):=by
 have:=zmI h hl ha
 rwa [hs,e]at this
theorem ap3(a b c:Str):a++b++c=a++(b++c):=Str.append_assoc a b c
def lV(n m:Int):Str:=("values ":Str)++tx n++(" around ":Str)++tx m
def lE(e:Int):Str:=("nothing ":Str)++tx e
def lJ(X:Str):Str:=("join ":Str)++X
theorem zxd(n m:Int):lV n m=Str.join sb [("values":Str),tx n,("around":Str),tx m]:=by
 show("values ":Str)++tx n++(" around ":Str)++tx m=("values":Str)++sb++(tx n++sb++(("around":Str)++sb++tx m));rw[show("values ":Str)=("values":Str)++sb by decide +kernel,show(" around ":Str)=sb++(("around":Str)++sb) by decide +kernel];simp only[ap3]
theorem zxm(e:Int):lE e=Str.join sb [("nothing":Str),tx e]:=by
 show("nothing ":Str)++tx e=("nothing":Str)++sb++tx e;rw[show("nothing ":Str)=("nothing":Str)++sb by decide +kernel]
theorem zwX(X:Str):lJ X=("join":Str)++sb++X:=by
 show("join ":Str)++X=_;rw[show("join ":Str)=("join":Str)++sb by decide +kernel]
theorem zqw{n m:Int}(h0:0<=n/\n<10 ^ 60)(h1:0<=m/\m<10 ^ 60):(lV n m).length<=200:=by
 have:=xZ h0.1 h0.2;have:=xZ h1.1 h1.2;have e1:("values ":Str).length=7:=by decide +kernel
 have e2:(" around ":Str).length=8:=by decide +kernel
 unfold lV;simp only[zX];omega
theorem zqc{e:Int}(h0:0<=e/\e<10 ^ 60):(lE e).length<=200:=by
 have:=xZ h0.1 h0.2;have e1:("nothing ":Str).length=8:=by decide +kernel
 unfold lE;simp only[zX];omega
theorem zqZ{n m:Int}(hn:1<=n/\n<=8)(hm:1<=m/\m<=6):Z8 [(true,.str (lV n m))]=some (.lf true (.tup [.int n,.int m])):=by
 have hs:Txt.split (lV n m) sb=[("values":Str),tx n,("around":Str),tx m]:=by
  rw[zxd];exact zet zhA (by simp) λp mp=>by
   simp only[zI,zyT,or_false]at mp
   rcases mp with rfl|rfl|rfl|rfl
   . decide +kernel
   . exact ziC
   . decide +kernel
   . exact ziC
 have hl:=zqw (n:=n) (m:=m) ⟨by omega,by omega⟩ ⟨by omega,by omega⟩;exact ym rfl (zu (Yi (p:=1) (zfY (ve rfl) zhP hs (by omega) (Nat.le_of_ble_eq_true rfl) (zc rfl)) (zG rfl)) (zu (yh (v9 (k:=false) (zH (zjG (q:=true) (zgM (ve rfl)).e ce rfl) rfl) (λ_=>v9 (k:=false) (zH (zci (c:=true) (yr (zc rfl) zf rfl) zf rfl) rfl) (λ_=>zH (zci (c:=true) (yr (zc rfl) zf rfl) zf rfl) rfl) (λh=>nomatch h)) (λh=>nomatch h)) rfl)
  (zu (zV (i:=2) (zal (yr (zc rfl) zf rfl).e ce ce (zjv (v:=n) (by omega) (by omega) (by omega) (by omega))) (zG rfl))
  (zu (zV (i:=3) (zal (yr (zc rfl) zf rfl).e ce ce (zjv (v:=m) (by omega) (by omega) (by omega) (by omega))) (zG rfl))
  (yf (zcy (v9 (k:=false) (zH (f2E (ve rfl) ce rfl) rfl) (λ_=>zH (f2E (ve rfl) ce rfl) rfl) (λh=>nomatch h)) (zbT (os:=[.lf true (.int n),.lf true (.int m)]) (zF (zc rfl) (zF (zc rfl) yp)) (szl rfl) rfl rfl rfl)))))))
theorem znt{n e:Int}(hn:1<=n/\n<=8)(he:0<=e/\e<n):vV [(true,.str (lE e)),(true,.int n)]=some (.lf true (.int e)):=by
 have hs:Txt.split (lE e) sb=[("nothing":Str),tx e]:=by
  rw[zxm];exact zet zhA (by simp) λp mp=>by
   simp only[zI,zyT,or_false]at mp
   rcases mp with rfl|rfl
   . decide +kernel
   . exact ziC
 have hl:=zqc (e:=e) ⟨by omega,by omega⟩;exact ym rfl (zu (Yi (p:=2) (zfY (ve rfl) zhP hs (by omega) (Nat.le_of_ble_eq_true rfl) (zc rfl)) (zG rfl)) (zu (yh (v9 (k:=false) (zH (zjG (q:=true) (zgM (ve rfl)).e ce rfl) rfl) (λ_=>zH (zci (c:=true) (yr (zc rfl) zf rfl) zf rfl) rfl) (λh=>nomatch h)) rfl)
  (yf (zal (yr (zc rfl) zf rfl).e ce (zfZ (zc rfl) zf).e (zjv (v:=e) (by omega) (by omega) (by omega) (by omega))))))
theorem zrg{n:Int}{X:Str}{T:List (List Int)}(hX:X.length<=100000)(h:JT n X T):RE (Y4 [(true,.str (lJ X)),(true,.int n)]) (.lst (T.map zO)):=by
 have hp:Txt.partition (lJ X) sb=(("join":Str),sb,X):=by rw[zwX];exact zcI zhA (by decide +kernel)
 have lj:("join ":Str).length=5:=by decide +kernel
 exact RS.fn rfl (.seq (zV (i:=2) (zdq (zc rfl) rfl ce (zbw zhP (by unfold lJ;rw[zX];omega) hp)) (zG rfl)) (.ret (zxf (zH (yG (yr (zc rfl) zf rfl) zf rfl) rfl) (zcE (yr (zc rfl) zf rfl).e (ve rfl) h))))
def Nm(x:Str):Prop:=1<=x.length/\x.length<=8/\∀c ∈ x.cps.toList,97<=c/\c<=122
theorem zoK{c:Nat}(h:97<=c/\c<=122):inP (.str ⟨#[c]⟩) (.str "abcdefghijklmnopqrstuvwxyz")=some true:=by
 have key:∀k:Fin 26,(Builtin.Str.occurrences ("abcdefghijklmnopqrstuvwxyz":Str) ⟨#[97+k.val]⟩ 0 ("abcdefghijklmnopqrstuvwxyz":Str).length 1).isEmpty=false:=by decide +kernel
 have:=key ⟨c-97,by omega⟩;rw[show 97+(⟨c-97,by omega⟩:Fin 26).val=c by show 97+(c-97)=c;omega]at this;show some (!_)=_;rw[this];rfl
theorem zjF{x:Str}(h:∀c ∈ x.cps.toList,97<=c/\c<=122):xT (gN 0) xf (f2 (fV 0) (fC (.str "abcdefghijklmnopqrstuvwxyz")) (zY .In)) [none] (Xe x)=some ((x.cps.toList.map λ_=>D.bl true).map (O.lf true)):=by
 unfold Xe;generalize x.cps.toList=l at h
 induction l with
 |nil=>rfl
 |cons c r ih=>exact Xu (as1:=[some (.lf true (.str ⟨#[c]⟩))]) rfl (yu (zc rfl) zf (by rw[zku,zoK (h c (by simp))];rfl) rfl) (ih λd m=>h d (zS _ m))
theorem ztI{s:Bool}{x:Str}(h:Nm x):Vk [(s,.str x)]=some (.lf true (.bl true)):=by
 have hlen:wz [.str x]=some (.im (.int x.length)):=if_pos (szs (by have:=h.2.1;omega));have h1:=h.1;have h2:=h.2.1;exact ym rfl (zu (yh (v9 (k:=false) (W6 (k:=true) (zH (zmG (zc rfl) rfl) rfl)) (λ_=>v9 (k:=false) (zH (Wf (wu (zB (zc rfl) zP) hlen rfl) zf) (congrArg some (zyA (by show ¬((x.length:Int)<1);omega)))) (λ_=>zH (zcV (wu (zB (zc rfl) zP) hlen rfl) zf) (congrArg some (zyA (by show ¬((8:Int)<(x.length:Int));omega)))) (λh=>nomatch h)) (λh=>nomatch h)) rfl)
  (yf (Zv (x:=.lst (x.cps.toList.map λ_=>D.bl true)) ⟨_,wN (zrr (zc rfl)) (by unfold Xe;rw[zD,<-len_eq];exact szs (by omega)) (zjF h.2.2),zcq _,congrArg D.lst (zcm _)⟩ (zjz _))))
theorem zqC{α:Type}{s:Bool}{x:Str}{l:List α}{f:α->Str}{g:α->List D}(h:Nm x)(hl:l.length<=100)(hx:∀p ∈ l,f p≠x):vC [(true,.str x),(s,.lst (l.map λp=>.tup (.str (f p)::g p)))]=some (.lf true (.bl true)):=by
 have key:∀l':List α,xT (gN 0) xf (f2 (fV 0) (fC (.int 0)) ixP) [none] (kids s (l'.map λp=>.tup (.str (f p)::g p)))=some (((l'.map f).map D.str).map (O.lf true)):=λl'=>by
  induction l' with
  |nil=>rfl
  |cons p r ih=>exact Xu rfl (yu (zc rfl) zf ix0 rfl) ih
 have hc:WE (yC (Z6 (fV 1)) [none] (gN 0) xf (f2 (fV 0) (fC (.int 0)) ixP)) [some (.lf true (.str x)),some (.lf s (.lst (l.map λp=>.tup (.str (f p)::g p))))] (.lst ((l.map f).map D.str)):=
  ⟨_,wN (zsh (zc rfl) rfl) (by rw[zqA,zD];exact szs (by omega)) (key l),zcq _,congrArg D.lst (zcm _)⟩
 refine ym rfl (yf (zhB (k:=true) (vH (ve rfl) (ztI h)) (λ_=>f2E (ve rfl) hc (z:=.bl true) ?_) (λh=>nomatch h)));show(inP (.str x) (.lst ((l.map f).map D.str))).bind _=_;show(anyF (λy=>eqF 50 y (.str x)) ((l.map f).map .str)).bind _=_;rw[zcS];have:((l.map f).any (· == x))=false:=by
  rw[List.any_eq_false];intro y my;obtain⟨p,mp,rfl⟩:=zyV.mp my;simpa using hx p mp
 rw[this];rfl
section
variable{as:AS}{a b c:EF}{x y z:D}
theorem zuX{ty:Ty}{g:D->List D->Option R0}{zs:List D}(ha:WD a as true y)(ht:zhR ty y=true)(hb:WE b as x)(hc:WE c as z)(hg:g y [x,z]=some (.fl zs)):WE (yF ty a (aC b (aC c aN)) g) as (.lst zs):=by
 have hr:WA (aC b (aC c aN)) as [(true,x),(true,z)]:=Yh hb (Yh hc zP);refine⟨.nd .ls (zs.map (O.lf true)), ?_,zcq zs,congrArg D.lst (zcm zs)⟩;unfold yF;unfold WD at ha;unfold WA at hr;rw[ha];show(if zhR ty y=true then _ else _:Option (RV×AS))=_;rw[if_pos ht,hr];simp only[zyF,Z4];show((g y [x,z]).bind _)=_;rw[hg];show(if(zs.all ye||true)=true then some (RV.ow (.nd .ls (zs.map (lfs true))))else none:Option RV).bind _=_;rw[if_pos (by simp),zbQ];rfl
end
abbrev Dd:=Str×Str×List (List Int)
abbrev Sd:=Str×List Int
abbrev yH(p:Dd):D:=.tup [.str p.1,.lst (p.2.2.map zO)]
abbrev xM(p:Sd):D:=.tup [.str p.1,zO p.2]
def lD(p:Dd):Str:=("deed ":Str)++p.1++(" ":Str)++p.2.1
def lS(p:Sd):Str:=Str.join sb (("sign":Str)::p.1::p.2.map tx)
theorem zux(p:Dd):lD p=("deed":Str)++sb++p.1++sb++p.2.1:=by
 unfold lD;rw[show("deed ":Str)=("deed":Str)++sb by decide +kernel]
def zft(n:Int)(m:Nat)(p:Dd):Prop:=Nm p.1/\p.2.1.length<=10000/\Tb n m p.2.2/\DT n m p.2.1 p.2.2
def zfs(n:Int)(p:Sd):Prop:=Nm p.1/\p.2.length<=8/\In n p.2/\∀(k:Nat) (h:k+1<p.2.length),p.2[k]<p.2[k+1]
theorem zoi{x:Str}(h:Nm x){c:Nat}(hc:c<97):c ∉ x.cps.toList:=λm=>by have:=(h.2.2 c m).1;omega
theorem zqP{n:Int}{m:Nat}{p:Dd}(h:zft n m p):(lD p).length<=10020:=by
 have:=h.1.2.1;have:=h.2.1;have e1:("deed ":Str).length=5:=by decide +kernel
 have e2:(" ":Str).length=1:=zhQ;unfold lD;simp only[zX];omega
theorem zvm{x y:Str}{k:Int}{ps:List Str}(hy:(y.length==0)=false)(hk:0<=k/\k<1000)(h1:(decide (x.length<y.length)||decide (Builtin.Str.strKind x<Builtin.Str.strKind y))=false)(hf:(Builtin.Str.occurrences x y 0 x.length (limitOf x k)).isEmpty=false)(e:Txt.splitMax x y k=ps)(hx:x.length<=1000000)(hl:ps.length<=1000000):zrN (.str x) [.str y,.int k]=some (.fl (ps.map .str)):=by
 have z:Builtin.Str.partsBetween x (Builtin.Str.occurrences x y 0 x.length (limitOf x k)) y.length=ps:=by
  rw[<-e];unfold Txt.splitMax;rw[if_neg (by rw[h1];nofun),if_neg (by rw[hf];nofun)]
 show(if _ then some (R0.fl ((Txt.splitMax x y k).map .str))else none)=_;rw[if_pos ⟨hy,szs hx,by simp only[Bool.or_eq_false_iff,decide_eq_false_iff_not];omega,by rw[z];exact szs hl⟩,e]
theorem zyd{a b c:Str}(ha:32 ∉ a.cps.toList)(hb:32 ∉ b.cps.toList)(hl:(a++sb++b++sb++c).length<=1000000):zrN (.str (a++sb++b++sb++c)) [.str sb,.int 2]=some (.fl [.str a,.str b,.str c]):=by
 have e:=zoI (y:=sb) (c:=c) zhA ha hb;have ex:(a++sb++b++sb++c).cps.toList=a.cps.toList++sb.cps.toList++(b.cps.toList++sb.cps.toList++c.cps.toList):=by simp only[app_list];simp
 refine zvm zhP ⟨by decide,by decide⟩ (zuh ex) ?_ e hl (by show 3<=_;decide)
 rcases StrLaws.occ_head (a++sb++b++sb++c) sb 2 (by decide)with⟨_,hn⟩|⟨i,r,ei,_⟩
 . exact absurd (zeX ex) (hn _)
 . show(Builtin.Str.occurrences _ sb 0 _ 2).isEmpty=false;rw[ei];rfl
theorem zex{as:AS}{i:Nat}{s:Bool}{ds:List D}(h:as[i]? = some (some (.lf s (.lst ds)))):WD (fP (aC (fV i) aN) wz) as true (.int ds.length):=wu (zB (zc h) zP) rfl rfl
theorem zuq{as:AS}{i:Nat}{s:Bool}{fa:EF}{x:Str}{T:D}{r:O}(h:as[i]? = some (some (.lf s T)))(ha:WE fa as (.str x))(hn:∀q,vC [(true,.str x),(q,T)]=some (.lf true (.bl true))):WD (zA (aC fa (aC (fV i) aN)) vC) as true (.bl true):=
 ww (Yh ha (zB (zc h) zP)) (by show vC [(ye (.str x)||true,.str x),(ye T||s,T)]=_;exact hn _)
theorem ztb{s:Bool}{n:Int}{m:Nat}{p:Dd}{done:List Dd}(h:zft n m p)(hd:done.length<6)(hx:∀q ∈ done,q.1≠p.1):vp [(true,.str (lD p)),(true,.int n),(true,.int m),(s,.lst (done.map yH))]=some (.lf true (yH p)):=by
 have hl:=zqP h;have hn:∀q,vC [(true,.str p.1),(q,.lst (done.map yH))]=some (.lf true (.bl true)):=λq=>zqC (f:=λp:Dd=>p.1) (g:=λp:Dd=>[.lst (p.2.2.map zO)]) h.1 (by omega) hx;have hs:=zyd (a:=("deed":Str)) (b:=p.1) (c:=p.2.1) (by decide +kernel) (zoi h.1 (by decide)) (by rw[<-zux];omega);rw[<-zux]at hs;refine ym rfl (zu (Yi (p:=4) (zuX (zc rfl) rfl ce ce hs) (zG rfl)) (zu (yh (v9 (k:=false) (zH (zjG (q:=true) (zgM (ve rfl)).e ce rfl) rfl) (λ_=>v9 (k:=false) (W6 (k:=true) (zH (zuq (r:=.lf true .non) rfl (yr (zc rfl) zf rfl).e hn) rfl)) (λ_=>zH (yG (c:=false) (zex rfl) zf ?_) rfl) (λh=>nomatch h)) (λh=>nomatch h)) rfl)
  (zu (Yi (p:=5) (zen (yr (zc rfl) zf rfl).e (ve rfl) (ve rfl) h.2.2.2) (zG rfl))
  (yf (zcy (zH (f2E (ve rfl) ce rfl) rfl) (zbT (os:=[.lf true (.str p.1),.lf true (.lst (p.2.2.map zO))]) (zF (yr (zc rfl) zf rfl) (zF (zc rfl) yp)) (szl rfl) rfl rfl rfl))))))
 show some (((done.map yH).length:Int)==6)=_;rw[zD];exact congrArg some (beq_eq_false_iff_ne.mpr (by omega))
theorem zqV{as:AS}{fr:AF}{j:Int}{u:Bool}(h:WA fr as [(u,.int j)])(h0 : -1000<=j)(h1:j<1000000):vf fr vY as=some (vg 0 j.toNat,as):=by
 unfold vf;unfold WA at h;rw[h];simp only[zyF,Z4];show((if -(2 ^ 62)<=j/\j<2 ^ 62 then some (vg 0 j.toNat)else none).bind _)=_;rw[if_pos ⟨by omega,by omega⟩];rfl
theorem zpM{r:List Int}{k:Nat}(h:k<r.length):ixP (zO r) (.int (k:Int))=some (.im (.int r[k])):=zca (by rw[zzE,zzA h];rfl)
theorem zpt{r:List Int}(hl:r.length<=100)(h:∀(k:Nat) (h:k+1<r.length),r[k]<r[k+1]):Y9 [(true,zO r)]=some (.lf true (.bl true)):=by
 have hc:WE (yC (vf (aC (f2 (fP (aC (fV 0) aN) wz) (fC (.int 1)) (zr .Sub)) aN) vY) [none,some 0] (gN 0) xf (f2 (f2 (fV 1) (fV 0) ixP) (f2 (fV 1) (f2 (fV 0) (fC (.int 1)) (zr .Add)) ixP) (zY .Lt))) [some (.lf true (zO r))] (.lst ((vg 0 ((r.length:Int)-1).toNat).map λ_=>D.bl true)):=by
  refine zuG (zqV (j:=(r.length:Int)-1) (u:=true) (zB (by have:=zfZ (as:=[some (.lf true (zO r))]) (zex (i:=0) (ds:=r.map D.int) rfl) (zf (x:=.int 1));rw[zD]at this;exact this) zP) (by omega) (by omega)) (by rw[vD];exact szs (by omega)) λx mx=>?_;obtain⟨i,hi⟩:=List.getElem?_of_mem mx;obtain⟨rfl,hk⟩:=zlW hi;refine⟨[some (.lf true (.int (0+(i:Int)))),some (.lf true (zO r))],rfl, ?_⟩;have e0:(0:Int)+(i:Int)=(i:Int):=by omega
  have e1:(i:Int)+1=((i+1:Nat):Int):=by omega
  rw[e0];have z:=Wf (as:=[some (.lf true (.int (i:Int))),some (.lf true (zO r))]) (yu (zc (i:=1) rfl) (zc (i:=0) rfl) (zpM (r:=r) (k:=i) (by omega)) rfl) (yu (zc (i:=1) rfl) (wg (zc (i:=0) rfl) (zf (x:=.int 1))) (by rw[e1];exact zpM (r:=r) (k:=i+1) (by omega)) rfl);rw[zyI (h i (by omega))]at z;exact z.e
 exact ym rfl (yf (Zv hc (zjz _)))
theorem zro{n:Int}{p:Sd}(hn:n<=8)(h:zfs n p):(lS p).length<=1000:=by
 have:=Xx sb (ps:=("sign":Str)::p.1::p.2.map tx) (n:=60) λq mq=>by
  rcases zI.mp mq with rfl|mq
  . decide +kernel
  rcases zI.mp mq with rfl|mq
  . have:=h.1.2.1;omega
  . obtain⟨v,mv,rfl⟩:=zyV.mp mq;have:=h.2.2.1 v mv;exact xZ this.1 (by omega)
 rw[zhQ,zzP,zzP,zD]at this;have:=h.2.1;unfold lS;omega
theorem zsl{s:Bool}{n:Int}{p:Sd}{done:List Sd}(hn:n<=8)(h:zfs n p)(hd:done.length<4)(hx:∀q ∈ done,q.1≠p.1):vq [(true,.str (lS p)),(true,.int n),(s,.lst (done.map xM))]=some (.lf true (xM p)):=by
 have hl:=zro hn h;have hn2:∀q,vC [(true,.str p.1),(q,.lst (done.map xM))]=some (.lf true (.bl true)):=λq=>zqC (f:=λp:Sd=>p.1) (g:=λp:Sd=>[zO p.2]) h.1 (by omega) hx;have hs:Txt.split (lS p) sb=("sign":Str)::p.1::p.2.map tx:=zet zhA (by simp) λq mq=>by
  rcases zI.mp mq with rfl|mq
  . decide +kernel
  rcases zI.mp mq with rfl|mq
  . exact zoi h.1 (by decide)
  . obtain⟨v,mv,rfl⟩:=zyV.mp mq;exact ziC
 have hc:slP (.lst (.str ("sign":Str) :: .str p.1::p.2.map λv=>D.str (tx v))) (some 2) none=some (.fl (p.2.map λv=>D.str (tx v))):=Vc (xs:=[.str ("sign":Str),.str p.1]);have e0:(("sign":Str)::p.1::p.2.map tx).map D.str = .str ("sign":Str) :: .str p.1::p.2.map λv=>D.str (tx v):=by rw[zyM,zyM,zte]
 have hsp:=zfY (as:=XQ 5 [(true,.str (lS p)),(true,.int n),(s,.lst (done.map xM))]) (a:=fV 0) (ve rfl) zhP hs (by omega) (by rw[zzP,zzP,zD];have:=h.2.1;omega) (zc rfl);rw[e0]at hsp;refine ym rfl (zu (Yi (p:=3) hsp (zG rfl)) (zu (yh (v9 (k:=false) (zH (Wf (zgM (ve rfl)) zf) ?_) (λ_=>v9 (k:=false) (zH (zci (c:=true) (yr (zc rfl) zf (zca (k:=0) rfl)) zf rfl) rfl) (λ_=>v9 (k:=false) (W6 (k:=true) (zH (zuq (r:=.lf true .non) rfl (yr (zc rfl) zf (zca (k:=1) rfl)).e hn2) rfl)) (λ_=>zH (yG (c:=false) (zex rfl) zf ?_) rfl) (λh=>nomatch h)) (λh=>nomatch h)) (λh=>nomatch h)) rfl)
  (zu (zV (i:=4) (xW (zah (ve rfl) rfl rfl hc) (ve rfl) (zqR hn (by have:=h.2.1;omega) h.2.2.1)) (zG rfl))
  (yf (zcy (v9 (k:=false) (zH (f2E (ve rfl) ce rfl) rfl) (λ_=>W6 (k:=true) (zH (vH (ve rfl) (zpt (by have:=h.2.1;omega) h.2.2.2)) rfl)) (λh=>nomatch h)) (zbT (os:=[.lf true (.str p.1),.lf true (zO p.2)]) (zF (yr (zc rfl) zf (zca (k:=1) rfl)) (zF (zc rfl) yp)) (szl rfl) rfl rfl rfl))))))
 . refine congrArg some (zyA ?_);simp only[zzP];omega
 . show some (((done.map xM).length:Int)==4)=_;rw[zD];exact congrArg some (beq_eq_false_iff_ne.mpr (by omega))
section
variable{as as1 as2:AS}
theorem zmE{a:EF}{fr:AF}{r:RV}{rs:List RV}(ha:a as=some (r,as1))(hf:fr as1=some (rs,as2)):aC a fr as=some (r.frz::rs,as2):=by
 unfold aC;rw[ha];show(fr as1).bind _=_;rw[hf];rfl
theorem zsJ{g:GF}{f:SF}{d:It1}{r:List It1}(h1:g d as=some as1)(h2:f as1=some (.bk as2)):forL g f (d::r) as=some (.nx as2):=by
 unfold forL;rw[h1];show(f as1).bind _=_;rw[h2];rfl
theorem zsv{f g:SF}(h:f as=some (.bk as1)):zJ f g as=some (.bk as1):=by unfold zJ;rw[h];rfl
theorem zkX{fr:AF}{i j:Int}{u v:Bool}(h:WA fr as [(u,.int i),(v,.int j)])(h0:0<=i)(h1:i<100000)(h2:0<=j)(h3:j<100000):vf fr zsk as=some (vg i (j-i).toNat,as):=by
 unfold vf;unfold WA at h;rw[h];simp only[zyF,Z4];show((if -(2 ^ 62)<=i/\i<2 ^ 62 /\ -(2 ^ 62)<=j/\j<2 ^ 62 then some (vg i (j-i).toNat)else none).bind _)=_;rw[if_pos ⟨by omega,by omega,by omega,by omega⟩];rfl
end
theorem zcs{α:Type}(f:α->D):∀l:List α,O.toDs (l.map λp=>O.lf true (f p))=l.map f
 | []=>rfl
 |p::r=>congrArg (f p :: ·) (zcs f r)
theorem Wq{α:Type}(f:α->D):∀l:List α,O.strs (l.map λp=>O.lf true (f p))=true
 | []=>rfl
 |p::r=>by show(true&&O.strs _)=true;rw[Wq f r];rfl
abbrev lsD(L:List Str):D:=.lst (L.map D.str)
theorem zhf{L pre post:List Str}{q:Str}(h:L=pre++q::post):(L.map D.str)[pre.length]? = some (.str q):=by
 rw[h,zzE,zyL (zzJ _)];simp
abbrev A5(L:List Str)(n:Int)(m:Nat)(done:List Dd)(e4:Option O):AS:=[some (.lf true (lsD L)),some (.lf true (.int n)),some (.lf true (.int m)),some (.nd .ls (done.map λp=>O.lf true (yH p))),e4]
abbrev dB:SF:=(zJ (sIf (Wo (fT (yF .str (f2 (fV 0) (fV 4) ixP) (aC (fC (.str "deed ")) aN) swP))) sBk sNx)
 (yV (xY 3 (dC (zA (aC (zA (aC (f2 (fV 0) (fV 4) ixP) (aC (fV 1) (aC (fV 2) (aC (fV 3) aN)))) vp) (aC (fV 4) aN)) xO) dN) wZ)))
theorem zla(p:Dd):Txt.startswith (lD p) ("deed ":Str)=true:=by
 unfold lD;rw[ap3,ap3];exact zmu _ _
theorem zpo{L pre post:List Str}{n:Int}{m:Nat}{p:Dd}{done:List Dd}(hL:L=pre++lD p::post)(h:zft n m p)(hd:done.length<6)(hx:∀q ∈ done,q.1≠p.1):
 dB (A5 L n m done (some (.lf true (.int pre.length))))=some (.nx (A5 L n m (done++[p]) (some (.lf true (.int pre.length))))):=by
 have hk:=zhf hL;have hw:WD (f2 (fV 0) (fV 4) ixP) (A5 L n m done (some (.lf true (.int pre.length)))) true (.str (lD p)):=yr (zc rfl) (zc rfl) (zca hk);have hc:WD (zA (aC (f2 (fV 0) (fV 4) ixP) (aC (fV 1) (aC (fV 2) (aC (fV 3) aN)))) vp) (A5 L n m done (some (.lf true (.int pre.length)))) true (yH p):=by
  refine zlm (rs:=[.ow (.lf true (.str (lD p))),.ow (.lf true (.int n)),.ow (.lf true (.int m)),.bo 3]) (xs:=[(true,.str (lD p)),(true,.int n),(true,.int m),(false,(O.nd .ls (done.map λp=>O.lf true (yH p))).toD)]) (zmE hw rfl) rfl ?_;show vp [(true,.str (lD p)),(true,.int n),(true,.int m),(false,.lst (O.toDs (done.map λp=>O.lf true (yH p))))]=_;rw[zcs];exact ztb h hd hx
 have e:done.map (λp=>O.lf true (yH p))++[O.lf true (yH p)]=(done++[p]).map λp=>O.lf true (yH p):=by rw[zyG];rfl
 refine zu (yh (W6 (k:=true) (zH (zdq hw rfl ce (z:=.bl true) (by show some (R0.im (.bl (Txt.startswith (lD p) ("deed ":Str))))=_;rw[zla])) rfl)) rfl) ?_;rw[Yo (i:=3) (os:=done.map λp=>O.lf true (yH p)) rfl (by rw[zD];exact xu (by omega)) (xW hc.e (ve rfl) (zdC (x:=yH p) rfl))];rw[e];rfl
theorem ziK{L:List Str}{n:Int}{m:Nat}{post:List Str}(hp:post=[]\/∃q r,post=q::r/\q.cps.toList.head? ≠ some 100):∀(ps done:List Dd) (pre:List Str) (e4:Option O),L=pre++(ps.map lD++post)->(∀p ∈ ps,zft n m p)->((done++ps).map (·.1)).Nodup->done.length+ps.length<=6->
 ∃e4',forL (gN 4) dB (vg pre.length (ps.length+post.length)) (A5 L n m done e4)=some (.nx (A5 L n m (done++ps) e4'))
 | [],done,pre,e4,hL,_,_,_=>by
  rw[zzY]
  rcases hp with rfl|⟨q,r,rfl,hq⟩
  . exact⟨e4,rfl⟩
  . refine⟨some (.lf true (.int pre.length)), ?_⟩;have hk:=zhf (q:=q) (post:=r) (by simpa using hL);have hw:WD (f2 (fV 0) (fV 4) ixP) (A5 L n m done (some (.lf true (.int pre.length)))) true (.str q):=yr (zc rfl) (zc rfl) (zca hk);rw[show([]:List Dd).length+(q::r).length=r.length+1 by simp,wC];refine zsJ (as1:=A5 L n m done (some (.lf true (.int pre.length)))) rfl (zsv (wX (W6 (k:=false) (zH (zdq hw rfl ce (z:=.bl false) ?_) rfl)) rfl));show some (R0.im (.bl (Txt.startswith q ("deed ":Str))))=_;rw[zoN (h:=100) (t:=[101,101,100,32]) (by decide +kernel) hq]
 |p::ps,done,pre,e4,hL,ho,hn,hl=>by
  have hL':L=pre++lD p::(ps.map lD++post):=by simpa using hL
  have hx:∀q ∈ done,q.1≠p.1:=λq mq e=>by
   rw[zyG,zyW]at hn;exact hn.2.2 q.1 (List.mem_map_of_mem mq) p.1 (by simp) e
  have s1:=zpo hL' (ho p (by simp)) (by have:(p::ps).length=ps.length+1:=rfl;omega) hx;obtain⟨e4',s2⟩:=ziK (L:=L) (n:=n) (m:=m) hp ps (done++[p]) (pre++[lD p]) (some (.lf true (.int pre.length))) (by rw[hL'];simp) (λq mq=>ho q (zS _ mq)) (by simpa using hn) (by simp at hl ⊢;omega);refine⟨e4', ?_⟩;rw[show(p::ps).length+post.length=(ps.length+post.length)+1 by simp;omega,wC];refine xg (as1:=A5 L n m done (some (.lf true (.int pre.length)))) rfl s1 ?_;rw[show((pre++[lD p]).length:Nat)=pre.length+1 by simp,show(((pre.length+1:Nat)):Int)=(pre.length:Int)+1 by omega]at s2;rw[s2];simp
theorem zmA{L:List Str}{n:Int}{m:Nat}{Ds:List Dd}{post:List Str}{x y z:Str}(hL:L=x::y::z::(Ds.map lD++post))(hp:post=[]\/∃q r,post=q::r/\q.cps.toList.head? ≠ some 100)(hpl:post.length<=100)(ho:∀p ∈ Ds,zft n m p)(hn:(Ds.map (·.1)).Nodup)(hl:Ds.length<=6):
 RE (Z5 [(true,lsD L),(true,.int n),(true,.int m)]) (.lst (Ds.map yH)):=by
 obtain⟨e4,hf⟩:=ziK (L:=L) (n:=n) (m:=m) hp Ds [] [x,y,z] none hL ho (by simpa using hn) (by simpa using hl);have len:L.length=3+(Ds.length+post.length):=by rw[hL];simp;omega
 refine⟨.nd .ls (Ds.map λp=>O.lf true (yH p)),ym rfl (zu (vL (i:=3) (Z1 yp (by decide)) (zG rfl)) (zu (as1:=A5 L n m Ds e4) (ZM (zkX (i:=3) (j:=(L.map D.str).length) (zB zf (zB (zex rfl) zP)) (by decide) (by decide) (by omega) (by rw[zD];omega)) ?_) (zdF (i:=3) rfl (Wq _ _)))),Wq _ _,congrArg D.lst (zcs _ _)⟩
 . rw[zD,len,show(((3+(Ds.length+post.length):Nat):Int)-3).toNat=Ds.length+post.length by omega];exact hf
abbrev B5(L:List Str)(k n:Int)(done:List Sd)(e4:Option O):AS:=[some (.lf true (lsD L)),some (.lf true (.int k)),some (.lf true (.int n)),some (.nd .ls (done.map λp=>O.lf true (xM p))),e4]
abbrev sB:SF:=(yV (xY 3 (dC (zA (aC (zA (aC (f2 (fV 0) (fV 4) ixP) (aC (fV 2) (aC (fV 3) aN))) vq) (aC (fV 4) aN)) xO) dN) wZ))
theorem zpc{L pre post:List Str}{k n:Int}{p:Sd}{done:List Sd}(hn8:n<=8)(hL:L=pre++lS p::post)(h:zfs n p)(hd:done.length<4)(hx:∀q ∈ done,q.1≠p.1):
 sB (B5 L k n done (some (.lf true (.int pre.length))))=some (.nx (B5 L k n (done++[p]) (some (.lf true (.int pre.length))))):=by
 have hk:=zhf hL;have hw:WD (f2 (fV 0) (fV 4) ixP) (B5 L k n done (some (.lf true (.int pre.length)))) true (.str (lS p)):=yr (zc rfl) (zc rfl) (zca hk);have hc:WD (zA (aC (f2 (fV 0) (fV 4) ixP) (aC (fV 2) (aC (fV 3) aN))) vq) (B5 L k n done (some (.lf true (.int pre.length)))) true (xM p):=by
  refine zlm (rs:=[.ow (.lf true (.str (lS p))),.ow (.lf true (.int n)),.bo 3]) (xs:=[(true,.str (lS p)),(true,.int n),(false,(O.nd .ls (done.map λp=>O.lf true (xM p))).toD)]) (zmE hw rfl) rfl ?_;show vq [(true,.str (lS p)),(true,.int n),(false,.lst (O.toDs (done.map λp=>O.lf true (xM p))))]=_;rw[zcs];exact zsl hn8 h hd hx
 have e:done.map (λp=>O.lf true (xM p))++[O.lf true (xM p)]=(done++[p]).map λp=>O.lf true (xM p):=by rw[zyG];rfl
 show sB _=_;rw[show sB=yV _ from rfl,Yo (i:=3) (os:=done.map λp=>O.lf true (xM p)) rfl (by rw[zD];exact xu (by omega)) (xW hc.e (ve rfl) (zdC (x:=xM p) rfl))];rw[e];rfl
theorem zij{L:List Str}{k n:Int}(hn8:n<=8):∀(ps done:List Sd) (pre:List Str) (e4:Option O),L=pre++ps.map lS->(∀p ∈ ps,zfs n p)->((done++ps).map (·.1)).Nodup->done.length+ps.length<=4->
 ∃e4',forL (gN 4) sB (vg pre.length ps.length) (B5 L k n done e4)=some (.nx (B5 L k n (done++ps) e4'))
 | [],done,pre,e4,hL,_,_,_=>by
  rw[zzY];exact⟨e4,rfl⟩
 |p::ps,done,pre,e4,hL,ho,hn,hl=>by
  have hL':L=pre++lS p::(ps.map lS):=by simpa using hL
  have hx:∀q ∈ done,q.1≠p.1:=λq mq e=>by
   rw[zyG,zyW]at hn;exact hn.2.2 q.1 (List.mem_map_of_mem mq) p.1 (by simp) e
  have s1:=zpc (k:=k) hn8 hL' (ho p (by simp)) (by have:(p::ps).length=ps.length+1:=rfl;omega) hx;obtain⟨e4',s2⟩:=zij (L:=L) (k:=k) hn8 ps (done++[p]) (pre++[lS p]) (some (.lf true (.int pre.length))) (by rw[hL'];simp) (λq mq=>ho q (zS _ mq)) (by simpa using hn) (by simp at hl ⊢;omega);refine⟨e4', ?_⟩;rw[show(p::ps).length=ps.length+1 by simp,wC];refine xg (as1:=B5 L k n done (some (.lf true (.int pre.length)))) rfl s1 ?_;rw[show((pre++[lS p]).length:Nat)=pre.length+1 by simp,show(((pre.length+1:Nat)):Int)=(pre.length:Int)+1 by omega]at s2;rw[s2];simp
theorem zni{L pre:List Str}{n:Int}{Ss:List Sd}(hn8:n<=8)(hL:L=pre++Ss.map lS)(hpl:pre.length<=100)(ho:∀p ∈ Ss,zfs n p)(hn:(Ss.map (·.1)).Nodup)(hl:Ss.length<=4):
 RE (Yb [(true,lsD L),(true,.int pre.length),(true,.int n)]) (.lst (Ss.map xM)):=by
 obtain⟨e4,hf⟩:=zij (L:=L) (k:=pre.length) hn8 Ss [] pre none hL ho (by simpa using hn) (by simpa using hl);have len:L.length=pre.length+Ss.length:=by rw[hL];simp
 refine⟨.nd .ls (Ss.map λp=>O.lf true (xM p)),ym rfl (zu (vL (i:=3) (Z1 yp (by decide)) (zG rfl)) (zu (as1:=B5 L pre.length n Ss e4) (ZM (zkX (i:=pre.length) (j:=(L.map D.str).length) (zB (zc rfl) (zB (zex rfl) zP)) (by omega) (by omega) (by omega) (by rw[zD];omega)) ?_) (zdF (i:=3) rfl (Wq _ _)))),Wq _ _,congrArg D.lst (zcs _ _)⟩;rw[zD,len,show(((pre.length+Ss.length:Nat):Int)-pre.length).toNat=Ss.length by omega];exact hf
abbrev Ys(n:Int)(m:Nat)(T:List (List Int))(e:Int)(Ds:List Dd)(Ss:List Sd):D:=.tup [.int n,.int m,.lst (T.map zO),.int e,.lst (Ds.map yH),.lst (Ss.map xM)]
def lns(n:Int)(m:Nat)(X:Str)(e:Int)(Ds:List Dd)(Ss:List Sd):List Str:=lV n m::lJ X::lE e::(Ds.map lD++Ss.map lS)
structure AOk(n:Int)(m:Nat)(X:Str)(T:List (List Int))(e:Int)(Ds:List Dd)(Ss:List Sd):Prop where
 n1:1<=n
 n8:n<=8
 m1:1<=m
 m6:m<=6
 tb:Tb n n.toNat T
 jt:JT n X T
 xl:X.length<=10000
 xn:10 ∉ X.cps.toList
 e0:0<=e
 e1:e<n
 d6:Ds.length<=6
 dk:∀p ∈ Ds,zft n m p/\10 ∉ p.2.1.cps.toList
 dn:(Ds.map (·.1)).Nodup
 s4:Ss.length<=4
 sk:∀p ∈ Ss,zfs n p
 sn:(Ss.map (·.1)).Nodup
theorem zkV{v:Int}(h:0<=v){c:Nat}(hc:c<48):c ∉ (tx v).cps.toList:=λm=>by have:=(Vb h c m).1;omega
theorem W5{a b:Str}{c:Nat}(ha:c ∉ a.cps.toList)(hb:c ∉ b.cps.toList):c ∉ (a++b).cps.toList:=by
 rw[app_list];exact λm=>(zzI.mp m).elim ha hb
theorem ztn(p:Sd):(lS p).cps.toList.head? ≠ some 100:=by
 have e:(lS p).cps.toList=("sign":Str).cps.toList++sb.cps.toList++(Str.join sb (p.1::p.2.map tx)).cps.toList:=Vy sb _ _ _;have e2:("sign":Str).cps.toList=[115,105,103,110]:=by decide +kernel
 rw[e,e2];simp
section
variable{n e:Int}{m:Nat}{X:Str}{T:List (List Int)}{Ds:List Dd}{Ss:List Sd}
theorem zvx(h:AOk n m X T e Ds Ss):∀l ∈ lns n m X e Ds Ss,10 ∉ l.cps.toList:=λl ml=>by
 have n1:=h.n1;have e0:=h.e0;unfold lns at ml
 rcases zI.mp ml with rfl|ml
 . exact W5 (W5 (W5 (by decide +kernel) (zkV (by omega) (by decide))) (by decide +kernel)) (zkV (by omega) (by decide))
 rcases zI.mp ml with rfl|ml
 . exact W5 (by decide +kernel) h.xn
 rcases zI.mp ml with rfl|ml
 . exact W5 (by decide +kernel) (zkV e0 (by decide))
 rcases zzI.mp ml with ml|ml
 . obtain⟨p,mp,rfl⟩:=zyV.mp ml;exact W5 (W5 (W5 (by decide +kernel) (zoi (h.dk p mp).1.1 (by decide))) (by decide +kernel)) (h.dk p mp).2
 . obtain⟨p,mp,rfl⟩:=zyV.mp ml;intro hm
   rcases mem_join hm with hm|⟨q,mq,hm⟩
   . rw[zhA]at hm;exact absurd (zzN.mp hm) (by decide)
   rcases zI.mp mq with rfl|mq
   . revert hm;decide +kernel
   rcases zI.mp mq with rfl|mq
   . exact zoi (h.sk p mp).1 (by decide) hm
   . obtain⟨v,mv,rfl⟩:=zyV.mp mq;exact zkV ((h.sk p mp).2.2.1 v mv).1 (by decide) hm
theorem zas(h:AOk n m X T e Ds Ss):(lns n m X e Ds Ss).length<=13/\∀l ∈ lns n m X e Ds Ss,l.length<=10020:=by
 have n1:=h.n1;have n8:=h.n8;have m1:=h.m1;have m6:=h.m6;have e0:=h.e0;have e1:=h.e1;have d6:=h.d6;have s4:=h.s4;refine⟨by unfold lns;simp;omega,λl ml=>?_⟩;unfold lns at ml
 rcases zI.mp ml with rfl|ml
 . have:=zqw (n:=n) (m:=(m:Int)) ⟨by omega,by omega⟩ ⟨by omega,by omega⟩;omega
 rcases zI.mp ml with rfl|ml
 . have:=h.xl;have lj:("join ":Str).length=5:=by decide +kernel
   unfold lJ;rw[zX];omega
 rcases zI.mp ml with rfl|ml
 . have:=zqc (e:=e) ⟨by omega,by omega⟩;omega
 rcases zzI.mp ml with ml|ml
 . obtain⟨p,mp,rfl⟩:=zyV.mp ml;exact zqP (h.dk p mp).1
 . obtain⟨p,mp,rfl⟩:=zyV.mp ml;have:=zro n8 (h.sk p mp);omega
theorem text_len(h:AOk n m X T e Ds Ss):(Str.join sn (lns n m X e Ds Ss)).length<=200000:=by
 have:=Xx sn (zas h).2;have:=(zas h).1;have:=zvH;have z:(lns n m X e Ds Ss).length*(10020+sn.length)<=13*(10020+sn.length):=Nat.mul_le_mul_right _ (zas h).1;omega
theorem zxW{k:Nat}(h:k<=200000):k<=sizeLine:=zzK h (by decide)
theorem zui{L:List Str}{k:Nat}{q:Str}(h:(L.map D.str)[k]? = some (.str q))(hk:k<L.length):Yx [(true,lsD L),(true,.int k)]=some (.lf true (.str q)):=
 ym rfl (zu (yh (zH (zrQ (q:=false) (ve rfl) (zgM (ve rfl)).e (by
  show some ((k:Int)==((L.map D.str).length:Int))=_;rw[zD];exact congrArg some (beq_eq_false_iff_ne.mpr (by omega)))) rfl) rfl) (yf (yr (zc rfl) (zc rfl) (zca h))))
theorem zlt(h:AOk n m X T e Ds Ss):yM [(true,.str (Str.join sn (lns n m X e Ds Ss)))]=some (.lf true (Ys n m T e Ds Ss)):=by
 have n1:=h.n1;have n8:=h.n8;have m1:=h.m1;have m6:=h.m6;have e0:=h.e0;have e1:=h.e1;have d6:=h.d6;have s4:=h.s4;have hs:Txt.split (Str.join sn (lns n m X e Ds Ss)) sn=lns n m X e Ds Ss:=zet zxU (by unfold lns;simp) (zvx h);have hsp:Za (.str (Str.join sn (lns n m X e Ds Ss))) [.str sn]=some (.fl ((lns n m X e Ds Ss).map .str)):=by
  have z:(Builtin.Str.partsBetween (Str.join sn (lns n m X e Ds Ss)) (Builtin.Str.occurrences (Str.join sn (lns n m X e Ds Ss)) sn 0 (Str.join sn (lns n m X e Ds Ss)).length ((Str.join sn (lns n m X e Ds Ss)).length+1)) sn.length).length<=sizeLine:=by rw[<-zbn,hs];exact szs (by have:=(zas h).1;omega)
  show(if _ then some (R0.fl ((Txt.split (Str.join sn (lns n m X e Ds Ss)) sn).map .str))else none)=_;rw[if_pos ⟨zxQ,zxW (text_len h),z⟩,hs]
 generalize hL:lns n m X e Ds Ss=L at hs hsp;have hL':L=lV n m::lJ X::lE e::(Ds.map lD++Ss.map lS):=hL.symm;have len:L.length=3+(Ds.length+Ss.length):=by rw[hL'];simp;omega
 have g0:(L.map D.str)[0]? = some (.str (lV n m)):=by rw[hL'];rfl
 have g1:(L.map D.str)[1]? = some (.str (lJ X)):=by rw[hL'];rfl
 have g2:(L.map D.str)[2]? = some (.str (lE e)):=by rw[hL'];rfl
 have hd:=zmA (n:=n) (m:=m) (L:=L) hL' (by
  cases Ss with
  |nil=>exact .inl rfl
  |cons p r=>exact .inr ⟨lS p,r.map lS,rfl,ztn p⟩) (by rw[zD];omega) (λp mp=>(h.dk p mp).1) h.dn d6
 have hsg:=zni (n:=n) (L:=L) (pre:=lV n m::lJ X::lE e::Ds.map lD) n8 (by rw[hL'];simp) (by simp;omega) h.sk h.sn s4;have ep:((lV n m::lJ X::lE e::Ds.map lD).length:Int)=3+(((Ds.map yH).length:Nat):Int):=by simp;omega
 rw[ep]at hsg;refine ym rfl (zu (Yi (p:=1) (zjR (zc rfl) rfl ce hsp) (zG rfl))
  (zu (zV (i:=2) (xW (vH (yr (zc rfl) zf (zca (k:=0) g0)).e (zqZ (n:=n) (m:=(m:Int)) ⟨n1,n8⟩ ⟨by omega,by omega⟩)).e ce (zdC rfl)) (zG rfl))
  (zu (zV (i:=3) (yr (zc rfl) zf rfl) (zG rfl))
  (zu (zV (i:=4) (yr (zc rfl) zf rfl) (zG rfl))
  (zu (zV (i:=5) (xW (zcE (xW (ve rfl) ce (zui (k:=1) g1 (by omega))).e (ve rfl) (zrg (by have:=h.xl;omega) h.jt)) ce (zdC rfl)) (zG rfl))
  (zu (zV (i:=6) (xW (xW (xW (ve rfl) ce (zui (k:=2) g2 (by omega))).e (ve rfl) (znt ⟨n1,n8⟩ ⟨e0,e1⟩)).e ce (zdC rfl)) (zG rfl))
  (zu (Yi (p:=7) (zen (ve rfl) (ve rfl) (ve rfl) hd) (zG rfl))
  (zu (Yi (p:=8) (zen (ve rfl) (wg zf (zgM (ve rfl))).e (ve rfl) hsg) (zG rfl))
  (yf (zbT (os:=[.lf true (.int n),.lf true (.int m),.lf true (.lst (T.map zO)),.lf true (.int e),.lf true (.lst (Ds.map yH)),.lf true (.lst (Ss.map xM))]) (zF (zc rfl) (zF (zc rfl) (zF (zc rfl) (zF (zc rfl) (zF (zc rfl) (zF (zc rfl) yp)))))) (szl rfl) rfl rfl rfl))))))))))
end
section
variable{as:AS}{a:EF}
theorem zpV{p:Nat}{os ps:List O}(h:as[p]? = some (some (.nd .ls os)))(hl:os.length+ps.length<=sizeLine)(ha:a as=some (.ow (.nd .ls ps),as)):yV (xY p (dC a dN) zli) as=some (.nx (as.set p (some (.nd .ls (os++ps))))):=by
 unfold yV xY;rw[h];have e:dC a dN as=some ([.nd .ls ps],as):=zrW ha yp;show((dC a dN as).bind _).bind _=_;rw[e];show(Option.bind (match as[p]? with|some (some (.nd .ls os))=>_|_=>none) _)=_;rw[h];show((zli os [.nd .ls ps]).bind _).bind _=_;have e2:zli os [.nd .ls ps]=some (os++ps,.lf true .non):=by unfold zli;exact if_pos hl
 rw[e2];rfl
theorem zxn{i:Nat}{sep:Str}{ps:List Str}(h:as[i]? = some (some (.nd .ls (ps.map λs=>O.lf true (.str s)))))(hj:wH (.str sep) [.lst (ps.map D.str)]=some (.im (.str (Str.join sep ps)))):WD (yF .str (fC (.str sep)) (aC (fV i) aN) wH) as true (.str (Str.join sep ps)):=by
 have hv:RV.view as (.bo i)=some (.lst (ps.map D.str),some true):=by
  rw[zfE h];have e1:(ps.map λs=>O.lf true (.str s)).all O.isLf=true:=by simp[O.isLf]
  show some (D.lst (O.toDs _),(if _ then some (O.strs _)else none))=_;rw[if_pos e1,zcs,Wq]
 have hr:aC (fV i) aN as=some ([.bo i],as):=zmE (r:=.bo i) (zjj h) rfl;unfold WD yF;rw[show fC (.str sep) as=some (.ow (.lf true (.str sep)),as)from rfl];show((aC (fV i) aN as).bind (λq=>(RV.view q.2 (RV.ow (O.lf true (.str sep)))).bind λx=>(views q.2 q.1).bind λy=>(wH x.1 y.1).bind λr=>(wrap (meet x.2 y.2) r).bind λz=>some (z,q.2)))=_;rw[hr];show((views as [.bo i]).bind _)=_;have hvs:views as [.bo i]=some ([.lst (ps.map D.str)],some true):=by
  unfold views;rw[hv];rfl
 rw[hvs];show((wH (.str sep) [.lst (ps.map D.str)]).bind _)=_;rw[hj];rfl
theorem zum{α:Type}{cap:List (Option Nat)}{g:GF}{fe fi:EF}{l:List α}{e:α->D}{F:α->D}(h:WE fi as (.lst (l.map e)))(hl:l.length<=1000)(H:∀v ∈ l,∃as1,g (true,e v) (WY cap as)=some as1/\WD fe as1 true (F v)):yC (Z6 fi) cap g xf fe as=some (.ow (.nd .ls (l.map λv=>O.lf true (F v))),as):=by
 have key:∀l':List α,(∀x ∈ l',x ∈ l)->xT g xf fe (WY cap as) ((l'.map e).map λd=>(true,d))=some (l'.map λv=>O.lf true (F v)):=λl'=>by
  induction l' with
  |nil=>intro _;rfl
  |cons d r ih=>
   intro hs;obtain⟨as1,g1,g2⟩:=H d (hs d (by simp));exact Xu g1 g2 (ih λx m=>hs x (zS _ m))
 exact wN (zpG h) (by rw[zD,zD];exact szs (by omega)) (key l λ_ m=>m)
end
abbrev rw1(p:Dd):Dd:=(p.1,("rows ":Str)++tT p.2.2,p.2.2)
section
variable{n e:Int}{m:Nat}{X:Str}{T:List (List Int)}{Ds:List Dd}{Ss:List Sd}
theorem zrE{p:Sd}(hn:n<=8)(h:zfs n p):Vs p.2:=zor hn h.2.1 h.2.2.1
theorem zjL{p:Sd}(hn:n<=8)(h:zfs n p):ZJ [(true,.str p.1),(true,zO p.2)]=some (.lf true (.str (lS p))):=by
 have hv:=zrE hn h;have hl:=hv.1;have e0:([.str ("sign":Str),.str p.1]:List D)++(p.2.map λv=>D.str (tx v))=((("sign":Str)::p.1::p.2.map tx).map λs=>D.str s):=by
  rw[zyM,zyM,zzV];rfl
 have hc:WE (f2 (xX (dC (fC (.str "sign")) (dC (fV 0) dN))) (yC (Z6 (fV 1)) [none] (gN 0) xf (fP (aC (fV 0) aN) vQ)) (zr .Add)) [some (.lf true (.str p.1)),some (.lf true (zO p.2))] (.lst ((("sign":Str)::p.1::p.2.map tx).map λs=>D.str s)):=by
  rw[<-e0];exact zhV (xR (os:=[.lf true (.str ("sign":Str)),.lf true (.str p.1)]) (zF zf (zF (zc rfl) yp)) (szl rfl) rfl rfl) (zgj hv (ve rfl)) (add_lists (by show 2+(p.2.map _).length<=sizeLine;rw[zD];exact szs (by omega)))
 have:=joinM (sep:=sb) (n:=60) hc (λs ms=>by
  rcases zI.mp ms with rfl|ms
  . decide +kernel
  rcases zI.mp ms with rfl|ms
  . have:=h.1.2.1;omega
  . obtain⟨v,mv,rfl⟩:=zyV.mp ms;exact xZ (hv.2 v mv).1 (hv.2 v mv).2) (by rw[zhQ];simp;omega)
 rw[List.map_id']at this;exact ym rfl (yf this)
abbrev tO(s:Str):O:=.lf true (.str s)
theorem zih{p:Dd}(hn:n<=8)(hm:m<=6)(h:zft n m p):Ts p.2.2:=zfp hn (by omega) h.2.2.1
theorem AOk.rows(h:AOk n m X T e Ds Ss):AOk n m (("rows ":Str)++tT T) T e (Ds.map rw1) Ss:=by
 have n1:=h.n1;have n8:=h.n8;have m1:=h.m1;have m6:=h.m6;have lr:("rows ":Str).length=5:=by decide +kernel
 have nn:∀T:List (List Int),(∀r ∈ T,In n r)->10 ∉ (("rows ":Str)++tT T).cps.toList:=λT hT=>W5 (by decide +kernel) λhm=>by have:=zoc hT hm;omega
 refine⟨n1,n8,m1,m6,h.tb,zsd n1 n8 h.tb, ?_,nn T λr mr=>(h.tb.2 r mr).2,h.e0,h.e1,by rw[zD];exact h.d6, ?_, ?_,h.s4,h.sk,h.sn⟩
 . have:=XD (zfp n8 (by omega) h.tb);rw[zX];omega
 . intro q mq;obtain⟨p,mp,rfl⟩:=zyV.mp mq;have hp:=(h.dk p mp).1;refine⟨⟨hp.1, ?_,hp.2.2.1,zow n1 n8 m1 (by omega) hp.2.2.1⟩,nn p.2.2 λr mr=>(hp.2.2.1.2 r mr).2⟩;have:=XD (zih n8 m6 hp);show(("rows ":Str)++tT p.2.2).length<=_;rw[zX];omega
 . rw[zzV];exact h.dn
theorem zrf(h:AOk n m X T e Ds Ss):vU [(true,Ys n m T e Ds Ss)]=some (.lf true (.str (Str.join sn (lns n m (("rows ":Str)++tT T) e (Ds.map rw1) Ss)))):=by
 have n1:=h.n1;have n8:=h.n8;have m1:=h.m1;have m6:=h.m6;have e0:=h.e0;have e1:=h.e1;have d6:=h.d6;have s4:=h.s4;have hT:=zfp n8 (by omega) h.tb;have lr:("rows ":Str).length=5:=by decide +kernel
 have l1:("values ":Str).length=7:=by decide +kernel
 have l2:(" around ":Str).length=8:=by decide +kernel
 have l3:("join ":Str).length=5:=by decide +kernel
 have l4:("nothing ":Str).length=8:=by decide +kernel
 have l5:("deed ":Str).length=5:=by decide +kernel
 have l6:(" ":Str).length=1:=by decide +kernel
 have tn:=xZ (v:=n) (by omega) (by omega);have tm:=xZ (v:=(m:Int)) (by omega) (by omega);have te:=xZ (v:=e) (by omega) (by omega);have tt:=XD hT;have hD:∀as:AS,WE (f2 (fV 0) (fC (.int 4)) ixP) as (.lst (Ds.map yH))->yC (Z6 (f2 (fV 0) (fC (.int 4)) ixP)) [none,none] (gT 2 (gsC (gN 0) (gsC (gN 1) gsN))) xf (f2 (f2 (f2 (fC (.str "deed ")) (fV 0) (zr .Add)) (fC (.str " ")) (zr .Add)) (zA (aC (fV 1) aN) vh) (zr .Add)) as=some (.ow (.nd .ls (Ds.map λp=>tO (lD (rw1 p)))),as):=λas hw=>
  zum (F:=λp=>.str (lD (rw1 p))) hw (by omega) λp mp=>⟨[some (.lf true (.str p.1)),some (.lf true (.lst (p.2.2.map zO)))],rfl,Zu (Zu (Zu ce (ve rfl) (by have z:(rw1 p).1.length<=8:=(h.dk p mp).1.1.2.1;omega)).e ce (by have z:(rw1 p).1.length<=8:=(h.dk p mp).1.1.2.1;rw[zX];omega)).e (vH (ve rfl) (zdu (zih n8 m6 (h.dk p mp).1))).e (by have z:(rw1 p).1.length<=8:=(h.dk p mp).1.1.2.1;have z2:p.1.length<=8:=z;have:=XD (zih n8 m6 (h.dk p mp).1);show _+(("rows ":Str)++tT p.2.2).length<=_;simp only[zX];omega)⟩
 have hS:∀as:AS,WE (f2 (fV 0) (fC (.int 5)) ixP) as (.lst (Ss.map xM))->yC (Z6 (f2 (fV 0) (fC (.int 5)) ixP)) [none,none] (gT 2 (gsC (gN 0) (gsC (gN 1) gsN))) xf (zA (aC (fV 0) (aC (fV 1) aN)) ZJ) as=some (.ow (.nd .ls (Ss.map λp=>tO (lS p))),as):=λas hw=>
  zum (F:=λp=>.str (lS p)) hw (by omega) λp mp=>⟨[some (.lf true (.str p.1)),some (.lf true (zO p.2))],rfl,xW (ve rfl) (ve rfl) (zjL n8 (h.sk p mp))⟩
 have ho:=zas h.rows;have eo:([tO (lV n m),tO (lJ (("rows ":Str)++tT T)),tO (lE e)]++Ds.map λp=>tO (lD (rw1 p)))++(Ss.map λp=>tO (lS p))=(lns n m (("rows ":Str)++tT T) e (Ds.map rw1) Ss).map tO:=by
  unfold lns;simp[zyG,zzV,Function.comp_def]
 have hj:wH (.str sn) [.lst ((lns n m (("rows ":Str)++tT T) e (Ds.map rw1) Ss).map D.str)]=some (.im (.str (Str.join sn (lns n m (("rows ":Str)++tT T) e (Ds.map rw1) Ss)))):=zgX (by
  have z:=zjr ho.2;have z2:=Nat.mul_le_mul_right 10020 ho.1;rw[zvH];have:=ho.1;omega)
 refine ym rfl (zu (vL (i:=1) (Z1 (os:=[tO (lV n m)]) (zF (Zu (Zu (Zu ce (zgF (v:=n) (yr (zc rfl) zf rfl).e (by omega) (by omega)).e (by omega)).e ce (by rw[zX];omega)).e (zgF (v:=(m:Int)) (yr (zc rfl) zf rfl).e (by omega) (by omega)).e (by simp only[zX];omega)) yp) (szl rfl)) (zG rfl))
  (zu (Yo (i:=1) rfl (xu (by show 1<=1000;decide)) (Zu ce (vH (yr (zc rfl) zf rfl).e (zdu hT)).e (by rw[zX];omega)))
  (zu (Yo (i:=1) rfl (xu (by show 2<=1000;decide)) (Zu ce (zgF (v:=e) (yr (zc rfl) zf rfl).e e0 (by omega)).e (by omega)))
  (zu (zpV (p:=1) rfl (by rw[zD];exact szs (by show 3+_<=_;omega)) (hD _ (yr (zc rfl) zf rfl).e))
  (zu (zpV (p:=1) rfl (by rw[zD,zzF,zD];exact szs (by show 3+_+_<=_;omega)) (hS _ (yr (zc rfl) zf rfl).e))
  (yf (zxn (i:=1) (ps:=lns n m (("rows ":Str)++tT T) e (Ds.map rw1) Ss) ?_ hj)))))))
 show some (some (O.nd .ls (([tO (lV n m),tO (lJ (("rows ":Str)++tT T)),tO (lE e)]++Ds.map λp=>tO (lD (rw1 p)))++(Ss.map λp=>tO (lS p)))))=_;rw[eo]
end
abbrev W11(d1 d2 d3 d4 d5 d6 d0:D)(L:List Str)(e8 e9 e10:Option O):AS:=[some (.lf true d0),some (.lf true d1),some (.lf true d2),some (.lf true d3),some (.lf true d4),some (.lf true d5),some (.lf true d6),some (.nd .ls (L.map tO)),e8,e9,e10]
abbrev ldB:SF:=(yV (xY 7 (dC (f2 (f2 (f2 (fC (.str "deed ")) (fV 8) (zr .Add)) (fC (.str " rows ")) (zr .Add)) (zA (aC (fV 9) aN) yz) (zr .Add)) dN) wZ))
abbrev lsB:SF:=(yV (xY 7 (dC (yF .str (fC (.str " ")) (aC (f2 (xX (dC (f2 (fC (.str "sign ")) (fV 8) (zr .Add)) dN)) (yC (Z6 (fV 10)) [none] (gN 0) xf (fP (aC (fV 0) aN) vQ)) (zr .Add)) aN) wH) dN) wZ))
theorem zxv(p:Dd):("deed ":Str)++p.1++(" rows ":Str)++tT p.2.2=lD (rw1 p):=by
 show _=("deed ":Str)++p.1++(" ":Str)++(("rows ":Str)++tT p.2.2);rw[show(" rows ":Str)=(" ":Str)++("rows ":Str) by decide +kernel];simp only[ap3]
theorem zxq(x:Str):("join rows ":Str)++x=lJ (("rows ":Str)++x):=by
 unfold lJ;rw[show("join rows ":Str)=("join ":Str)++("rows ":Str) by decide +kernel,ap3]
theorem ls_eq(p:Sd):Str.join sb ((("sign ":Str)++p.1)::p.2.map tx)=lS p:=by
 rw[show("sign ":Str)=("sign":Str)++sb by decide +kernel,StrLaws.join_shift];rfl
section
variable{n e:Int}{m:Nat}{X:Str}{T:List (List Int)}{Ds:List Dd}{Ss:List Sd}{d0 d1 d2 d3 d4 d5 d6:D}
theorem zgr(n8:n<=8)(m6:m<=6):∀(ps:List Dd) (L:List Str) (e8 e9 e10:Option O),(∀p ∈ ps,zft n m p)->L.length+ps.length<=100->
 ∃e8' e9',forL (gT 2 (gsC (gN 8) (gsC (gN 9) gsN))) ldB ((ps.map yH).map λd=>(true,d)) (W11 d1 d2 d3 d4 d5 d6 d0 L e8 e9 e10)=some (.nx (W11 d1 d2 d3 d4 d5 d6 d0 (L++ps.map λp=>lD (rw1 p)) e8' e9' e10))
 | [],L,e8,e9,e10,_,_=>⟨e8,e9,by rw[show L++([]:List Dd).map (λp=>lD (rw1 p))=L from zzY L];rfl⟩
 |p::ps,L,e8,e9,e10,ho,hl=>by
  have hp:=ho p (by simp);have tt:=XD (zih n8 m6 hp);have l5:("deed ":Str).length=5:=by decide +kernel
  have l6:(" rows ":Str).length=6:=by decide +kernel
  have hz:=hp.1.2.1;obtain⟨e8',e9',ih⟩:=zgr n8 m6 ps (L++[lD (rw1 p)]) (some (.lf true (.str p.1))) (some (.lf true (.lst (p.2.2.map zO)))) e10 (λq mq=>ho q (zS _ mq)) (by simp at hl ⊢;omega);refine⟨e8',e9',xg (as1:=W11 d1 d2 d3 d4 d5 d6 d0 L (some (.lf true (.str p.1))) (some (.lf true (.lst (p.2.2.map zO)))) e10) (as2:=W11 d1 d2 d3 d4 d5 d6 d0 (L++[lD (rw1 p)]) (some (.lf true (.str p.1))) (some (.lf true (.lst (p.2.2.map zO)))) e10) rfl ?_ (by rw[ih];simp)⟩;have:=Yo (as:=W11 d1 d2 d3 d4 d5 d6 d0 L (some (.lf true (.str p.1))) (some (.lf true (.lst (p.2.2.map zO)))) e10) (i:=7) (os:=L.map tO) rfl (by rw[zD];exact xu (by simp at hl;omega)) (Zu (Zu (Zu (u:=("deed ":Str)) (v:=p.1) ce (ve (i:=8) rfl) (by omega)).e (ce (x:=.str (" rows ":Str))) (by rw[zX];omega)).e (vH (ve (i:=9) rfl) (zhg (zih n8 m6 hp))).e (by simp only[zX];omega));rw[zxv]at this;rw[show ldB=yV _ from rfl,this];have e:L.map tO++[O.lf true (.str (lD (rw1 p)))]=(L++[lD (rw1 p)]).map tO:=by rw[zyG];rfl
  rw[e];rfl
theorem zfV(n8:n<=8):∀(ps:List Sd) (L:List Str) (e8 e9 e10:Option O),(∀p ∈ ps,zfs n p)->L.length+ps.length<=100->
 ∃e8' e10',forL (gT 2 (gsC (gN 8) (gsC (gN 10) gsN))) lsB ((ps.map xM).map λd=>(true,d)) (W11 d1 d2 d3 d4 d5 d6 d0 L e8 e9 e10)=some (.nx (W11 d1 d2 d3 d4 d5 d6 d0 (L++ps.map lS) e8' e9 e10'))
 | [],L,e8,e9,e10,_,_=>⟨e8,e10,by rw[show L++([]:List Sd).map lS=L from zzY L];rfl⟩
 |p::ps,L,e8,e9,e10,ho,hl=>by
  have hp:=ho p (by simp);have hv:=zrE n8 hp;have hlv:=hv.1;have l5:("sign ":Str).length=5:=by decide +kernel
  have hz:=hp.1.2.1;obtain⟨e8',e10',ih⟩:=zfV n8 ps (L++[lS p]) (some (.lf true (.str p.1))) e9 (some (.lf true (zO p.2))) (λq mq=>ho q (zS _ mq)) (by simp at hl ⊢;omega);refine⟨e8',e10',xg (as1:=W11 d1 d2 d3 d4 d5 d6 d0 L (some (.lf true (.str p.1))) e9 (some (.lf true (zO p.2)))) (as2:=W11 d1 d2 d3 d4 d5 d6 d0 (L++[lS p]) (some (.lf true (.str p.1))) e9 (some (.lf true (zO p.2)))) rfl ?_ (by rw[ih];simp)⟩;have e0:([.str (("sign ":Str)++p.1)]:List D)++(p.2.map λv=>D.str (tx v))=(((("sign ":Str)++p.1)::p.2.map tx).map λs=>D.str s):=by
   rw[zyM,zzV];rfl
  have hc:WE (f2 (xX (dC (f2 (fC (.str "sign ")) (fV 8) (zr .Add)) dN)) (yC (Z6 (fV 10)) [none] (gN 0) xf (fP (aC (fV 0) aN) vQ)) (zr .Add)) (W11 d1 d2 d3 d4 d5 d6 d0 L (some (.lf true (.str p.1))) e9 (some (.lf true (zO p.2)))) (.lst (((("sign ":Str)++p.1)::p.2.map tx).map λs=>D.str s)):=by
   rw[<-e0];exact zhV (xR (os:=[.lf true (.str (("sign ":Str)++p.1))]) (zF (Zu ce (ve (i:=8) rfl) (by omega)) yp) (szl rfl) rfl rfl) (zgj hv (ve (i:=10) rfl)) (add_lists (by show 1+(p.2.map _).length<=sizeLine;rw[zD];exact szs (by omega)))
  have hj:=joinM (sep:=sb) (n:=60) hc (λs ms=>by
   rcases zI.mp ms with rfl|ms
   . rw[zX];omega
   . obtain⟨v,mv,rfl⟩:=zyV.mp ms;exact xZ (hv.2 v mv).1 (hv.2 v mv).2) (by rw[zhQ];simp;omega)
  rw[List.map_id',ls_eq]at hj;rw[show lsB=yV _ from rfl,Yo (i:=7) (os:=L.map tO) rfl (by rw[zD];exact xu (by simp at hl;omega)) hj];have e:L.map tO++[O.lf true (.str (lS p))]=(L++[lS p]).map tO:=by rw[zyG];rfl
  rw[e];rfl
theorem zlF(h:AOk n m X T e Ds Ss):vA [(true,Ys n m T e Ds Ss)]=some (.nd .ls ((lns n m (("rows ":Str)++tT T) e (Ds.map rw1) Ss).map tO)):=by
 have n1:=h.n1;have n8:=h.n8;have m1:=h.m1;have m6:=h.m6;have e0:=h.e0;have e1:=h.e1;have d6:=h.d6;have s4:=h.s4;have hT:=zfp n8 (by omega) h.tb;have l1:("values ":Str).length=7:=by decide +kernel
 have l2:(" around ":Str).length=8:=by decide +kernel
 have l3:("join rows ":Str).length=10:=by decide +kernel
 have l4:("nothing ":Str).length=8:=by decide +kernel
 have tn:=xZ (v:=n) (by omega) (by omega);have tm:=xZ (v:=(m:Int)) (by omega) (by omega);have te:=xZ (v:=e) (by omega) (by omega);have tt:=XD hT;obtain⟨a8,a9,f1⟩:=zgr (d0:=Ys n m T e Ds Ss) (d1:=.int n) (d2:=.int m) (d3:=.lst (T.map zO)) (d4:=.int e) (d5:=.lst (Ds.map yH)) (d6:=.lst (Ss.map xM)) n8 m6 Ds [lV n m,lJ (("rows ":Str)++tT T),lE e] none none none (λp mp=>(h.dk p mp).1) (by simp;omega);obtain⟨b8,b10,f2⟩:=zfV (d0:=Ys n m T e Ds Ss) (d1:=.int n) (d2:=.int m) (d3:=.lst (T.map zO)) (d4:=.int e) (d5:=.lst (Ds.map yH)) (d6:=.lst (Ss.map xM)) n8 Ss ([lV n m,lJ (("rows ":Str)++tT T),lE e]++Ds.map λp=>lD (rw1 p)) a8 a9 none h.sk (by simp;omega);have eo:([lV n m,lJ (("rows ":Str)++tT T),lE e]++Ds.map λp=>lD (rw1 p))++Ss.map lS=lns n m (("rows ":Str)++tT T) e (Ds.map rw1) Ss:=by
  unfold lns;simp[zzV,Function.comp_def]
 rw[eo]at f2;have hjw:=Zu (as:=[some (.lf true (Ys n m T e Ds Ss)),some (.lf true (.int n)),some (.lf true (.int m)),some (.lf true (.lst (T.map zO))),some (.lf true (.int e)),some (.lf true (.lst (Ds.map yH))),some (.lf true (.lst (Ss.map xM))),none,none,none,none]) (u:=("join rows ":Str)) ce (vH (ve (i:=3) rfl) (zhg hT)).e (by omega);rw[zxq]at hjw;exact ym rfl (zu (zjX (o:=.lf true (Ys n m T e Ds Ss)) (zc rfl) rfl)
  (zu (vL (i:=7) (Z1 (os:=[tO (lV n m),tO (lJ (("rows ":Str)++tT T)),tO (lE e)]) (zF (Zu (Zu (Zu ce (zgF (v:=n) (ve rfl) (by omega) (by omega)).e (by omega)).e ce (by rw[zX];omega)).e (zgF (v:=(m:Int)) (ve rfl) (by omega) (by omega)).e (by simp only[zX];omega)) (zF hjw (zF (Zu ce (zgF (v:=e) (ve rfl) e0 (by omega)).e (by omega)) yp))) (szl rfl)) (zG rfl))
  (zu (ZM (zuf (zc rfl)) f1)
  (zu (ZM (zuf (zc rfl)) f2)
  (zdF (i:=7) rfl (Wq (λs=>D.str s) _))))))
end
abbrev P12(W:D)(n:Int)(d:D)(w:Str)(e4:Option O)(xs:List Int)(rest:List Str)(e7 e8:Option O):AS:=
 [some (.lf true W),some (.lf true (.int n)),some (.lf true d),some (.lf true (.str w)),e4,some (.nd .ls (xs.map lfI)),some (.lf true (lsD rest)),e7,e8,none,none,none]
abbrev pB(self:Fn):SF:=(zJ (zkD (zA (aC (fV 6) (aC (fV 1) (aC (fV 2) aN))) self) (gT 2 (gsC (gN 8) (gsC (gN 6) gsN)))) (yV (xY 5 (dC (fV 8) dN) wZ)))
theorem Xv{self:Fn}{W d:D}{n v:Int}{w:Str}{e4 e7 e8:Option O}{xs:List Int}{ws rest:List Str}(hl:xs.length<=100)(hs:RE (self [(true,lsD ws),(true,.int n),(true,d)]) (.tup [.int v,lsD rest])):
 pB self (P12 W n d w e4 xs ws e7 e8)=some (.nx (P12 W n d w e4 (xs++[v]) rest e7 (some (.lf true (.int v))))):=by
 obtain⟨o,h1,h2,h3⟩:=zen (as:=P12 W n d w e4 xs ws e7 e8) (ve (i:=6) rfl) (ve (i:=1) rfl) (ve (i:=2) rfl) hs;refine zu (as1:=P12 W n d w e4 xs rest e7 (some (.lf true (.int v)))) (zjX (o:=o) h1 (by rw[h2,h3];rfl)) ?_;rw[Yo (i:=5) (os:=xs.map lfI) rfl (by rw[zD];exact xu (by omega)) (zc (i:=8) rfl)];have e:xs.map lfI++[O.lf true (.int v)]=(xs++[v]).map lfI:=by rw[zyG];rfl
 rw[e];rfl
abbrev six:D:=.tup [.str "add",.str "take",.str "times",.str "most",.str "least",.str "same"]
theorem znO{as:AS}:WD (Yg (dC (fC (.str "add")) (dC (fC (.str "take")) (dC (fC (.str "times")) (dC (fC (.str "most")) (dC (fC (.str "least")) (dC (fC (.str "same")) dN))))))) as true six:=
 zbT (os:=[.lf true (.str "add"),.lf true (.str "take"),.lf true (.str "times"),.lf true (.str "most"),.lf true (.str "least"),.lf true (.str "same")]) (zF zf (zF zf (zF zf (zF zf (zF zf (zF zf yp)))))) (szl rfl) rfl rfl rfl
theorem zrF{w:Str}(h:zbb w\/w=("same":Str)):zY .NotIn (.str w) six=some (.im (.bl false)):=by
 rcases h with(rfl|rfl|rfl|rfl|rfl)|rfl<;>rfl
theorem ztd{w:Str}(h:∀q:Str,zbb q\/q=("same":Str)->q≠w):zY .NotIn (.str w) six=some (.im (.bl true)):=by
 have c0:zY .NotIn (.str w) six=(inP (.str w) six).bind λb=>some (blR !b):=rfl;rw[c0];have e0:inP (.str w) six=anyF (λy=>eqF 50 y (.str w)) ((["add","take","times","most","least","same"]:List Str).map D.str):=rfl;rw[e0,zcS];have e:((["add","take","times","most","least","same"]:List Str).any (· == w))=false:=by
  rw[List.any_eq_false];intro q mq;have:zbb q\/q=("same":Str):=by
   simp only[zI,zyT,or_false]at mq;unfold zbb
   rcases mq with h|h|h|h|h|h
   . exact .inl (.inl h)
   . exact .inl (.inr (.inl h))
   . exact .inl (.inr (.inr (.inl h)))
   . exact .inl (.inr (.inr (.inr (.inl h))))
   . exact .inl (.inr (.inr (.inr (.inr h))))
   . exact .inr h
  simpa using h q this
 rw[e];rfl
theorem zuK{x:Str}(h:isNm x):zY .NotIn (.str x) six=some (.im (.bl true)):=by
 rcases h with rfl|rfl|rfl<;>rfl
theorem zws{v:Int}(h:0<=v):zY .NotIn (.str (tx v)) six=some (.im (.bl true)):=ztd λq hq e=>by
 rcases hq with(rfl|rfl|rfl|rfl|rfl)|rfl
 . exact Ze h (w:="add") ⟨97,by decide +kernel,by decide⟩ e.symm
 . exact Ze h (w:="take") ⟨97,by decide +kernel,by decide⟩ e.symm
 . exact Ze h (w:="times") ⟨101,by decide +kernel,by decide⟩ e.symm
 . exact Ze h (w:="most") ⟨116,by decide +kernel,by decide⟩ e.symm
 . exact Ze h (w:="least") ⟨97,by decide +kernel,by decide⟩ e.symm
 . exact Ze h (w:="same") ⟨97,by decide +kernel,by decide⟩ e.symm
theorem zvW{p:Str}{a b v:Int}(hp:isP p)(h:0<=v):getP' (dN2 p a b) [.str (tx v)]=some (.im .non):=by
 have n1:("a":Str)≠tx v:=λe=>Ze h (w:="a") ⟨97,by decide +kernel,by decide⟩ e.symm;have n2:p≠tx v:=λe=>by
  rcases hp with rfl|rfl
  . exact Ze h (w:="b") ⟨98,by decide +kernel,by decide⟩ e.symm
  . exact Ze h (w:="c") ⟨99,by decide +kernel,by decide⟩ e.symm
 have e:zbe [(.inr ("a":Str),.int a),(.inr p,.int b)] (.inr (tx v))=none:=by
  unfold zbe;simp only[List.find?_cons,key_ne n1,key_ne n2,List.find?_nil,Option.map_none]
 show some (R0.im ((zbe [(.inr ("a":Str),.int a),(.inr p,.int b)] (.inr (tx v))).getD .non))=_;rw[e];rfl
theorem zwh{p x:Str}{a b:Int}(hp:isP p)(h:x=("a":Str)\/x=p):getP' (dN2 p a b) [.str x]=some (.im (.int (at2 a b x))):=by
 rcases hp with rfl|rfl<;>rcases h with rfl|rfl<;>rfl
theorem sl1{w:Str}{ws:List Str}:slP (lsD (w::ws)) (some 1) none=some (.fl (ws.map D.str)):=Vc (xs:=[.str w])
theorem zoh{w:Str}{ws:List Str}:ixP (lsD (w::ws)) (.int 0)=some (.im (.str w)):=zca (k:=0) rfl
theorem oS1{as:AS}:oS (fC (.int 1)) as=some (some 1,as):=rfl
theorem znA{as:AS}{w:Str}{ws:List Str}(h:as[0]? = some (some (.lf true (lsD (w::ws))))):WE (fSl (fV 0) (oS (fC (.int 1))) oN slP) as (lsD ws):=zah (ve h) oS1 rfl sl1
theorem znf(os:List O):(Vh os).str=O.strs os:=by unfold Vh;split<;>rfl
theorem zqd(os:List O):(Vh os).toD = .tup (O.toDs os):=by unfold Vh;split<;>rfl
theorem zoL{as:AS}{fa fb:EF}{x y:D}(ha:WD fa as true x)(hb:WE fb as y):WE (Yg (dC fa (dC fb dN))) as (.tup [x,y]):=by
 obtain⟨o,h1,h2,h3⟩:=hb;have hw:WO (dC fa (dC fb dN)) as [.lf true x,o]:=zF ha (zrW h1 yp);refine⟨_,zuZ hw (szl rfl), ?_, ?_⟩
 . rw[znf];show(true&&(o.str&&true))=true;rw[h2];rfl
 . rw[zqd];show D.tup [x,o.toD]=_;rw[h3]
theorem zee{xs:List Int}{k:Nat}{v:Int}(h:xs[k]? = some v):ixP (.lst (O.toDs (xs.map lfI))) (.int (k:Int))=some (.im (.int v)):=by
 rw[(yS xs).2.2];exact zca (by rw[zzE,h];rfl)
theorem V8{n a b:Int}{p:Str}(hp:isP p)(hn:0<n)(hn2:n<=50):∀(h:Nat) (t:Tm) (rest:List Str),t.ok p->t.ht<=h->RE (yQ h [(true,lsD (wds t++rest)),(true,.int n),(true,dN2 p a b)]) (.tup [.int (val n a b t),lsD rest])
 |0,t,_,_,hh=>by have:=zgL t;omega
 |h+1,.num v,rest,ok,hh=>by
  have hi2:zcj [.str (tx v)]=some (.im (.int v)):=by
   show(if(tx v).length<=640 then(PySem.intText? (tx v)).bind _ else none)=_;rw[if_pos (by have:=xZ ok.1 ok.2;omega),zgS ok.1 ok.2];rfl
  exact RS.fn rfl (.seq (zV (i:=3) (yr (zc rfl) zf zoh) (zG rfl)) (.seqR (.ifT (zH (f2E (ve rfl) znO.e (zws ok.1)) rfl) (.seq (zV (i:=4) (Xl (zc rfl) rfl (zB (zc rfl) zP) (zvW hp ok.1) rfl) (zG rfl)) (.seq (wX (zH (f2E (ve rfl) ce rfl) rfl) (zV (i:=4) (Zv (ve rfl) hi2) (zG rfl))) (.ret (zoL (yJ (zc rfl) (zc rfl) hn) (znA rfl))))))))
 |h+1,.nam x,rest,ok,hh=>by
  have hx:isNm x:=Wm hp (t:=.nam x) ok;exact RS.fn rfl (.seq (zV (i:=3) (yr (zc rfl) zf zoh) (zG rfl)) (.seqR (.ifT (zH (f2E (ve rfl) znO.e (zuK hx)) rfl) (.seq (zV (i:=4) (Xl (zc rfl) rfl (zB (zc rfl) zP) (zwh hp ok) rfl) (zG rfl)) (.seq (yh (zH (f2E (ve rfl) ce rfl) rfl) rfl) (.ret (zoL (yJ (zc rfl) (zc rfl) hn) (znA rfl))))))))
 |h+1,.op w x y,rest,ok,hh=>by
  have hx:x.ht<=h:=by unfold Tm.ht at hh;omega
  have hy:y.ht<=h:=by unfold Tm.ht at hh;omega
  have rx:=ZK (a:=a) (b:=b) hn x;have ry:=ZK (a:=a) (b:=b) hn y;have e0:wds (.op w x y)++rest=w::(wds x++(wds y++rest)):=by show w::(wds x++wds y)++rest=_;simp
  rw[e0];have s1:=Xv (self:=yQ h) (W:=lsD (w::(wds x++(wds y++rest)))) (w:=w) (e4:=none) (e7:=some (.lf true (.int (0+(0:Nat))))) (e8:=none) (xs:=[]) (by decide) (V8 (a:=a) (b:=b) hp hn hn2 h x (wds y++rest) ok.2.1 hx);have s2:=Xv (self:=yQ h) (W:=lsD (w::(wds x++(wds y++rest)))) (w:=w) (e4:=none) (e7:=some (.lf true (.int (0+(1:Nat))))) (e8:=some (.lf true (.int (val n a b x)))) (xs:=[val n a b x]) (by show 1<=100;decide) (V8 (a:=a) (b:=b) hp hn hn2 h y rest ok.2.2 hy);have n3:eqF 60 (.str w) (.str "same")=some false:=(zuo ok.1).2.2;have f1:forL (gN 7) (pB (yQ h)) (vg 0 2) (P12 (lsD (w::(wds x++(wds y++rest)))) n (dN2 p a b) w none [] (wds x++(wds y++rest)) none none)=some (.nx (P12 (lsD (w::(wds x++(wds y++rest)))) n (dN2 p a b) w none [val n a b x,val n a b y] rest (some (.lf true (.int (0+(1:Nat))))) (some (.lf true (.int (val n a b y)))))):=
   xg rfl s1 (xg rfl s2 rfl)
  have bx:(val n a b x).natAbs<big:=yW (by omega) (by omega);have by':(val n a b y).natAbs<big:=yW (by omega) (by omega);refine RS.fn rfl (.seq (zV (i:=3) (yr (zc rfl) zf zoh) (zG rfl)) (.seq (yh (zH (f2E (ve rfl) znO.e (zrF (.inl ok.1))) rfl) rfl) (.seq (vL (i:=5) (Z1 yp (by decide)) (zG rfl)) (.seq (Yi (p:=6) (znA rfl) (zG rfl)) (.seq (ZM (wK (j:=2) (zB (f2E (xR (os:=[lfI 2,lfI 4]) (zF zf (zF zf yp)) (szl rfl) rfl rfl) (Zv (yG (zc rfl) zf n3).e rfl).e rfl) zP) (by decide) (by decide)) f1)
   (.seq (zV (i:=9) (zpr (i:=5) rfl (yS _).1 (yS _).2.1 zf (zee (k:=0) rfl)) (zG rfl)) (.seq (zV (i:=10) (zpr (i:=5) rfl (yS _).1 (yS _).2.1 zf (zee (k:=1) rfl)) (zG rfl)) (.seq (yh (zH (yG (zc rfl) zf n3) rfl) rfl)
   (.seq (Yi (p:=11) ⟨_,zfO (YJ zf rfl (wg (zc (i:=9) rfl) (zc (i:=10) rfl)) (YJ zf rfl (zfZ (zc (i:=9) rfl) (zc (i:=10) rfl)) (YJ zf rfl (WM (zc (i:=9) rfl) (zc (i:=10) rfl) bx by') (YJ zf rfl (wu (zB (zc (i:=9) rfl) (zB (zc (i:=10) rfl) zP)) rfl rfl) zjY)))) (show(([.inr "add",.inr "take",.inr "times",.inr "most"]:List Key)).Nodup by decide) (show(4:Nat)<=15 by decide),rfl,rfl⟩ (zG rfl))
   (.ret (zoL (yJ (i:=two w (val n a b x) (val n a b y)) (Xl (zc (i:=11) rfl) rfl (zB (zc (i:=3) rfl) (zB (wu (zB (zc (i:=9) rfl) (zB (zc (i:=10) rfl) zP)) rfl rfl) zP)) ?_ rfl) (zc (i:=1) rfl) hn) (ve (i:=6) rfl))))))))))))
  rcases ok.1 with rfl|rfl|rfl|rfl|rfl<;>rfl
 |h+1,.sm x y z u,rest,ok,hh=>by
  have hx:x.ht<=h:=by unfold Tm.ht at hh;omega
  have hy:y.ht<=h:=by unfold Tm.ht at hh;omega
  have hz:z.ht<=h:=by unfold Tm.ht at hh;omega
  have hu:u.ht<=h:=by unfold Tm.ht at hh;omega
  obtain⟨ox,oy,oz,ou⟩:=ok;have e0:wds (.sm x y z u)++rest=("same":Str)::(wds x++(wds y++(wds z++(wds u++rest)))):=by show("same":Str)::(wds x++(wds y++(wds z++wds u)))++rest=_;simp
  rw[e0];generalize hW:lsD (("same":Str)::(wds x++(wds y++(wds z++(wds u++rest)))))=W;have s1:=Xv (self:=yQ h) (W:=W) (w:="same") (e4:=none) (e7:=some (.lf true (.int (0+(0:Nat))))) (e8:=none) (xs:=[]) (by decide) (V8 (a:=a) (b:=b) hp hn hn2 h x (wds y++(wds z++(wds u++rest))) ox hx);have s2:=Xv (self:=yQ h) (W:=W) (w:="same") (e4:=none) (e7:=some (.lf true (.int (0+(1:Nat))))) (e8:=some (.lf true (.int (val n a b x)))) (xs:=[val n a b x]) (by show 1<=100;decide) (V8 (a:=a) (b:=b) hp hn hn2 h y (wds z++(wds u++rest)) oy hy);have s3:=Xv (self:=yQ h) (W:=W) (w:="same") (e4:=none) (e7:=some (.lf true (.int (0+(2:Nat))))) (e8:=some (.lf true (.int (val n a b y)))) (xs:=[val n a b x,val n a b y]) (by show 2<=100;decide) (V8 (a:=a) (b:=b) hp hn hn2 h z (wds u++rest) oz hz);have s4:=Xv (self:=yQ h) (W:=W) (w:="same") (e4:=none) (e7:=some (.lf true (.int (0+(3:Nat))))) (e8:=some (.lf true (.int (val n a b z)))) (xs:=[val n a b x,val n a b y,val n a b z]) (by show 3<=100;decide) (V8 (a:=a) (b:=b) hp hn hn2 h u rest ou hu);have f1:forL (gN 7) (pB (yQ h)) (vg 0 4) (P12 W n (dN2 p a b) "same" none [] (wds x++(wds y++(wds z++(wds u++rest)))) none none)=some (.nx (P12 W n (dN2 p a b) "same" none [val n a b x,val n a b y,val n a b z,val n a b u] rest (some (.lf true (.int (0+(3:Nat))))) (some (.lf true (.int (val n a b u)))))):=
   xg rfl s1 (xg rfl s2 (xg rfl s3 (xg rfl s4 rfl)))
  have hq:∃q:Bool,eqF 60 (.int (val n a b x)) (.int (val n a b y))=some q/\val n a b (.sm x y z u)=if q=true then val n a b z else val n a b u:=by
   refine⟨val n a b x==val n a b y,rfl, ?_⟩;show(if val n a b x=val n a b y then _ else _)=_
   by_cases e:val n a b x=val n a b y
   . rw[if_pos e,if_pos (by rw[e];simp)]
   . rw[if_neg e,if_neg (by simpa using e)]
  obtain⟨q,hq,hv⟩:=hq;rw[hv];subst hW;refine RS.fn rfl (.seq (zV (i:=3) (yr (zc rfl) zf zoh) (zG rfl)) (.seq (yh (zH (f2E (ve rfl) znO.e (zrF (.inr rfl))) rfl) rfl) (.seq (vL (i:=5) (Z1 yp (by decide)) (zG rfl)) (.seq (Yi (p:=6) (znA rfl) (zG rfl)) (.seq (ZM (wK (j:=4) (zB (f2E (xR (os:=[lfI 2,lfI 4]) (zF zf (zF zf yp)) (szl rfl) rfl rfl) (Zv (yG (c:=true) (zc rfl) zf rfl).e rfl).e rfl) zP) (by decide) (by decide)) f1)
   (.seq (zV (i:=9) (zpr (i:=5) rfl (yS _).1 (yS _).2.1 zf (zee (k:=0) rfl)) (zG rfl)) (.seq (zV (i:=10) (zpr (i:=5) rfl (yS _).1 (yS _).2.1 zf (zee (k:=1) rfl)) (zG rfl)) (.seqR (.ifT (zH (yG (c:=true) (zc rfl) zf rfl) rfl)
   (.ret (zoL (zpr (i:=5) rfl (yS _).1 (yS _).2.1 (wg zf (Zv (x:=.bl (!q)) (z:=.int (if(!q)=true then 1 else 0)) (zci (zc (i:=9) rfl) (zc (i:=10) rfl) hq).e ?_)) ?_) (ve (i:=6) rfl))))))))))))
  . cases q<;>rfl
  . cases q
    . exact zee (k:=3) rfl
    . exact zee (k:=2) rfl
theorem zpN{n a b:Int}{p:Str}{t:Tm}(hp:isP p)(hn:0<n)(hn2:n<=50)(ok:t.ok p)(hh:t.ht<=20)(hc:t.cnt<=1000):xx [(true,.str (S t)),(true,.int n),(true,dN2 p a b)]=some (.lf true (.int (val n a b t))):=by
 have h:=V8 (a:=a) (b:=b) hp hn hn2 20 t [] ok hh;rw[zzY]at h;exact ym rfl (yf (f2E (zen (zjR (zc rfl) rfl ce (zlI (Wm hp ok) hc)) (ve rfl) (ve rfl) h) ce rfl))
theorem zus{as:AS}{fa fb:EF}{p:Str}{a b:Int}(hp:isP p)(ha:WD fa as true (.int a))(hb:WD fb as true (.int b)):WE (Ww [((fC (.str "a")),fa),((fC (.str p)),fb)]) as (dN2 p a b):=by
 have nd:([.inr ("a":Str),.inr p]:List Key).Nodup:=by rcases hp with rfl|rfl<;>decide
 exact⟨_,zfO (YJ zf rfl ha (YJ zf rfl hb zjY)) nd (show(2:Nat)<=15 by decide),rfl,rfl⟩
theorem zrl{as:AS}{cap:List (Option Nat)}{i:Nat}{n:Int}{t:Tm}{fn:EF}(hn:1<=n)(hn2:n<=8)(ok:t.ok "b")(hh:t.ht<=20)(hc:t.cnt<=1000)(hf:WE fn as (.int n))(hcap:WY cap as=[none,some (.lf true (.str (S t))),some (.lf true (.int n))]):
 WE (yC (vf (aC fn aN) vY) cap (gN 0) xf (feJ xx)) as (.lst ((xJ n t).map zO)):=by
 have hr:∀a:Int,yC (vf (aC (fV 2) aN) vY) [none,some 1,some 2,some 0] (gN 0) xf (zA (aC (fV 1) (aC (fV 2) (aC (Ww [((fC (.str "a")),(fV 3)),((fC (.str "b")),(fV 0))]) aN))) xx) [some (lfI a),some (.lf true (.str (S t))),some (.lf true (.int n))]=some (.ow (zfC (row (λb=>val n a b t) n.toNat 0)),[some (lfI a),some (.lf true (.str (S t))),some (.lf true (.int n))]):=λa=>
  wN (wK (zB (zc (i:=2) rfl) zP) (by omega) (by omega)) (by rw[vD];exact szs (by omega)) (zdN (λb=>⟨[some (lfI b),some (.lf true (.str (S t))),some (.lf true (.int n)),some (lfI a)],rfl,zal (ve (i:=1) rfl) (ve (i:=2) rfl) (zus (.inl rfl) (zc (i:=3) rfl) (zc (i:=0) rfl)) (zpN (.inl rfl) (by omega) (by omega) ok hh hc)⟩) n.toNat 0)
 refine⟨_,wN (wK (Yh hf zP) (by omega) (by omega)) (by rw[vD];exact szs (by omega)) (by rw[hcap];exact tab_run (h:=λa=>row (λb=>val n a b t) n.toNat 0) (λa=>⟨_,rfl,hr a⟩) n.toNat 0),(Zm _).1,congrArg D.lst (Zm _).2⟩
theorem zrT{as:AS}{cap:List (Option Nat)}{n:Int}{m:Nat}{t:Tm}{fm:EF}(hn:1<=n)(hn2:n<=8)(hm:m<=8)(ok:t.ok "c")(hh:t.ht<=20)(hc:t.cnt<=1000)(hf:WE fm as (.int m))(hcap:WY cap as=[none,some (.lf true (.str (S t))),some (.lf true (.int n))]):
 WE (yC (vf (aC fm aN) vY) cap (gN 0) xf (feR xx)) as (.lst ((Yj n m t).map zO)):=by
 have hr:∀c:Int,yC (vf (aC (fV 2) aN) vY) [none,some 1,some 2,some 0] (gN 0) xf (zA (aC (fV 1) (aC (fV 2) (aC (Ww [((fC (.str "a")),(fV 0)),((fC (.str "c")),(fV 3))]) aN))) xx) [some (lfI c),some (.lf true (.str (S t))),some (.lf true (.int n))]=some (.ow (zfC (row (λa=>val n a c t) n.toNat 0)),[some (lfI c),some (.lf true (.str (S t))),some (.lf true (.int n))]):=λc=>
  wN (wK (zB (zc (i:=2) rfl) zP) (by omega) (by omega)) (by rw[vD];exact szs (by omega)) (zdN (λa=>⟨[some (lfI a),some (.lf true (.str (S t))),some (.lf true (.int n)),some (lfI c)],rfl,zal (ve (i:=1) rfl) (ve (i:=2) rfl) (zus (.inr rfl) (zc (i:=0) rfl) (zc (i:=3) rfl)) (zpN (.inr rfl) (by omega) (by omega) ok hh hc)⟩) n.toNat 0)
 refine⟨_,wN (wK (Yh hf zP) (by omega) (by omega)) (by rw[vD];exact szs (by omega)) (by rw[hcap];exact tab_run (h:=λc=>row (λa=>val n a c t) n.toNat 0) (λc=>⟨_,rfl,hr c⟩) (m:Int).toNat 0),(Zm _).1,congrArg D.lst (Zm _).2⟩
theorem zmw{n:Int}(hn:0<n)(g:Int->Int)(hg:∀x,0<=g x/\g x<n):∀(k:Nat) (j:Int),In n (row g k j)
 |0,_=>λ_ h=>nomatch h
 |k+1,j=>λv hv=>by
  rcases zI.mp hv with rfl|hv
  . exact hg j
  . exact zmw hn g hg k (j+1) v hv
theorem zra{n:Int}{t:Tm}(hn:1<=n):Tb n n.toNat (xJ n t):=
 ⟨zkB _ _ _,λr mr=>zkp (P:=λr=>(r.length:Int)=n/\In n r) (λa=>⟨by rw[zky];omega,zmw (by omega) _ (λb=>ZK (by omega) t) _ _⟩) _ _ r mr⟩
theorem zrw{n:Int}{m:Nat}{t:Tm}(hn:1<=n):Tb n m (Yj n m t):=
 ⟨by rw[zkB];omega,λr mr=>zkp (P:=λr=>(r.length:Int)=n/\In n r) (λa=>⟨by rw[zky];omega,zmw (by omega) _ (λb=>ZK (by omega) t) _ _⟩) _ _ r mr⟩
abbrev nine:Int:=9*10 ^ (60:Int).toNat
theorem zgf:(0:Int)<nine:=by decide
theorem zrH{as:AS}:WD (f2 (fC (.int 9)) (f2 (fC (.int 10)) (fC (.int 60)) (zr .Pow)) (zr .Mult)) as true (.int nine):=WM zf (znh zf zf ⟨by decide,by decide,by decide⟩) (yW (by decide) (by decide)) (yW (by decide +kernel) (by decide +kernel))
abbrev dgB:SF:=(zJ (yV (xY 2 (dC (f2 (fV 0) (f2 (fC (.int 9)) (f2 (fC (.int 10)) (fC (.int 60)) (zr .Pow)) (zr .Mult)) (zr .Mod)) dN) wZ)) (zU true 0 (f2 (fV 0) (f2 (fC (.int 9)) (f2 (fC (.int 10)) (fC (.int 60)) (zr .Pow)) (zr .Mult)) (zr .FloorDiv))))
theorem zhs{B:Option O}:∀(n:Nat) (k x:Int) (ys:List Int) (e3:Option O),ys.length+n<=1000->(∀y ∈ ys,0<=y/\y<nine)->∃(x':Int) (zs:List Int) (e3':Option O),zs.length=ys.length+n/\(∀z ∈ zs,0<=z/\z<nine)/\
 forL (gN 3) dgB (vg k n) [some (lfI x),B,some (.nd .ls (ys.map lfI)),e3]=some (.nx [some (lfI x'),B,some (.nd .ls (zs.map lfI)),e3'])
 |0,k,x,ys,e3,_,h=>⟨x,ys,e3,rfl,h,rfl⟩
 |n+1,k,x,ys,e3,hl,h=>by
  have w0:=zyH x (show nine≠0 by decide);have w1:=zyB x zgf;obtain⟨x',zs,e3',h1,h2,h3⟩:=zhs (B:=B) n (k+1) (x/nine) (ys++[x%nine]) (some (lfI k)) (by rw[zzF];show ys.length+1+n<=_;omega) (λz m=>by
   rcases zzI.mp m with m|m
   . exact h z m
   . rw[zzN.mp m];exact⟨w0,w1⟩)
  refine⟨x',zs,e3',by rw[h1,zzF];show ys.length+1+n=_;omega,h2, ?_⟩;rw[zlH]at h3;rw[wC];exact xg (as1:=[some (lfI x),B,some (.nd .ls (ys.map lfI)),some (lfI k)]) rfl (zu (Yo (i:=2) rfl (by rw[zD];exact xu (by omega)) (yJ (zc (i:=0) rfl) zrH zgf)) (zV (i:=0) (Zb (zc (i:=0) rfl) zrH zgf (yW (by decide +kernel) (by decide +kernel))) (zG rfl))) h3
theorem zdM(xs:List Int):(O.nd .ls (xs.map lfI)).str=true/\(O.nd .ls (xs.map lfI)).toD = .lst (xs.map D.int):=⟨(yS xs).2.1,congrArg D.lst (yS xs).2.2⟩
theorem zoH{c:Int}{m:Nat}(hm:m<=900):∃xs:List Int,xs.length=m/\(∀x ∈ xs,0<=x/\x<nine)/\RE (Z2 [(true,.int c),(true,.int m)]) (zO xs):=by
 by_cases h:c%2=0
 . obtain⟨xs,h1,h2,h3⟩:=ziY (s:=true) (c:=c/2) (m:=m) (by omega) (by omega);exact⟨xs,by omega,λx mx=>⟨(h2 x mx).1,Int.lt_trans (h2 x mx).2 (by decide +kernel)⟩,RS.fn rfl (.seqR (.ifT (zH (yG (c:=true) (yJ (zc rfl) zf (by decide)) zf (by show some (c%2==0)=_;rw[h];rfl)) rfl) (.ret (zcE (Zb (zc rfl) zf (by decide) (yW (by decide) (by decide))).e (ve rfl) ⟨_,h3,(zdM xs).1,(zdM xs).2⟩))))⟩
 . obtain⟨x',zs,e3',h1,h2,h3⟩:=zhs (B:=some (.lf true (.int m))) m 0 (c/2) [] none (by simp;omega) (λy hy=>nomatch hy);refine⟨zs,by rw[h1];simp,h2,⟨.nd .ls (zs.map lfI),ym rfl (zu (yh (zH (yG (c:=false) (yJ (zc rfl) zf (by decide)) zf (by show some (c%2==0)=_;simp[h])) rfl) rfl) (zu (vL (i:=2) (Z1 yp (by decide)) (zG rfl)) (zu (zV (i:=0) (Zb (zc rfl) zf (by decide) (yW (by decide) (by decide))) (zG rfl)) (zu (ZM (wK (j:=m) (zB (zc (i:=1) rfl) zP) (by omega) (by omega)) (by rw[show(m:Int).toNat=m by omega];exact h3)) (zdF (i:=2) rfl (zdM zs).1))))),(zdM zs).1,(zdM zs).2⟩⟩
def TmT(p:Str)(s:Str):Prop:=∃t:Tm,t.ok p/\t.ht<=13/\t.cnt<=40/\s=S t
theorem zbx:∀t:Tm,1<=t.cnt/\2*t.ht<=t.cnt+1
 | .num _=>by simp[Tm.cnt,Tm.ht]
 | .nam _=>by simp[Tm.cnt,Tm.ht]
 | .op _ x y=>by
  have:=zbx x;have:=zbx y;simp only[Tm.cnt,Tm.ht];omega
 | .sm x y z u=>by
  have:=zbx x;have:=zbx y;have:=zbx z;have:=zbx u;simp only[Tm.cnt,Tm.ht];omega
abbrev sO(t:Tm):O:=.lf true (.str (S t))
def V1:List Tm->Nat
 | []=>0
 |t::r=>t.cnt+V1 r
theorem zdo:∀a b:List Tm,V1 (a++b)=V1 a+V1 b
 | [],b=>by show V1 b=0+V1 b;omega
 |t::r,b=>by show t.cnt+V1 (r++b)=t.cnt+V1 r+V1 b;rw[zdo r b];omega
theorem zfS:∀l:List Tm,l.length<=V1 l
 | []=>zzJ _
 |t::r=>by have:=zfS r;have:=(zbx t).1;show r.length+1<=t.cnt+V1 r;omega
theorem zdD:∀{l:List Tm}{t:Tm},t ∈ l->t.cnt<=V1 l
 |t::r,u,h=>by
  show u.cnt<=t.cnt+V1 r
  rcases zI.mp h with rfl|h
  . omega
  . have:=zdD h;omega
theorem zcD:∀ts:List Tm,(ts.map sO).all O.isLf=true/\O.strs (ts.map sO)=true/\O.toDs (ts.map sO)=ts.map λt=>D.str (S t)
 | []=>⟨rfl,rfl,rfl⟩
 |t::r=>⟨(zcD r).1,(zcD r).2.1,congrArg (D.str (S t) :: ·) (zcD r).2.2⟩
theorem zrs(r ts:List Tm):(r++ts).map sO=r.map sO++ts.map sO:=zyG
theorem zqp{as:AS}{i:Nat}{os:List O}{o:O}(h:as[i]? = some (some (.nd .ls (os++[o])))):xY i dN zhz as=some (.ow o,as.set i (some (.nd .ls os))):=by
 unfold xY;rw[h];show(match as[i]? with|some (some (.nd .ls os))=>_|_=>none)=_;rw[h];show((zhz (os++[o]) []).bind _)=_;have e:zhz (os++[o]) []=some (os,o):=by
  unfold zhz;show((os++[o])[(os++[o]).length-1]?).bind _=_;rw[zzF];show((os++[o])[os.length]?).bind _=_;rw[zyL (zzJ _),Nat.sub_self];show some ((os++[o]).eraseIdx os.length,o)=_;rw[List.eraseIdx_append_of_length_le (zzJ _),Nat.sub_self];show some (os++[],o)=_;rw[zzY]
 rw[e];rfl
theorem znW{as as1:AS}{a:EF}{i:Nat}{os0 os:List O}{o:O}(h:as[i]? = some (some (.nd .ls os0)))(ha:a as=some (.ow o,as1))(h1:as1[i]? = some (some (.nd .ls os)))(hl:os.length<sizeLine):yV (xY i (dC a dN) wZ) as=some (.nx (as1.set i (some (.nd .ls (os++[o]))))):=by
 unfold yV xY;rw[h];have e:dC a dN as=some ([o],as1):=XX ha rfl;show((dC a dN as).bind _).bind _=_;rw[e];show(Option.bind (match as1[i]? with|some (some (.nd .ls os))=>_|_=>none) _)=_;rw[h1];show((wZ os [o]).bind _).bind _=_;have e2:wZ os [o]=some (os++[o],.lf true .non):=by unfold wZ;exact if_pos hl
 rw[e2];rfl
theorem ztW{as:AS}{s:Nat}{os:List O}{a b c d:O}(h:as[s]? = some (some (.nd .ls (os++[a,b,c,d]))))(hl:(os++[a,b,c,d]).all O.isLf=true):zgb s 4 as=some (.ow (.nd .ls [d,c,b,a]),as.set s (some (.nd .ls os))):=by
 unfold zgb;rw[h];show(if 4<=(os++[a,b,c,d]).length/\4<=1000/\(os++[a,b,c,d]).all O.isLf=true then _ else _)=_;have e1:(os++[a,b,c,d]).length=os.length+4:=by rw[zzF];rfl
 rw[if_pos ⟨by omega,by decide,hl⟩,List.reverse_append,e1,Nat.add_sub_cancel,List.take_append_of_le_length (zzJ _),List.take_length];rfl
theorem xat{xs:List Int}{k:Int}(h0:0<=k)(h1:k<xs.length)(hb:∀x ∈ xs,0<=x/\x<nine):∃x,ixP (.lst (xs.map D.int)) (.int k)=some (.im (.int x))/\0<=x/\x<nine:=by
 have hk:k.toNat<xs.length:=by omega
 refine⟨xs[k.toNat], ?_,hb _ (zyR hk)⟩;have h:=Wr (xs:=xs.map D.int) (j:=k.toNat) (v:=D.int xs[k.toNat]) (by rw[zzE,zzA hk];rfl);rw[show((k.toNat:Nat):Int)=k by omega]at h;show imR (atI _ _)=_;rw[h];rfl
theorem zqG{p:Str}{x:Int}:∃nm:Str,(nm="a"\/nm=p)/\ixP (.lst [.str "a",.str p]) (.int (x%2))=some (.im (.str nm)):=by
 rcases(show x%2=0\/x%2=1 by omega)with e|e<;>rw[e]
 . exact⟨"a",.inl rfl,rfl⟩
 . exact⟨p,.inr rfl,rfl⟩
theorem zpQ{α:Type}:∀{ts:List α},2<=ts.length->∃r a b,ts=r++[a,b]
 | [a,b],_=>⟨[],a,b,rfl⟩
 |x::y::z::r,_=>by
  obtain⟨r',a,b,e⟩:=zpQ (ts:=y::z::r) (by simp);exact⟨x::r',a,b,by rw[e];rfl⟩
theorem zqx{α:Type}:∀{ts:List α},4<=ts.length->∃r a b c d,ts=r++[a,b,c,d]
 | [a,b,c,d],_=>⟨[],a,b,c,d,rfl⟩
 |x::y::z::u::v::r,_=>by
  obtain⟨r',a,b,c,d,e⟩:=zqx (ts:=y::z::u::v::r) (by simp);exact⟨x::r',a,b,c,d,by rw[e];rfl⟩
abbrev S9(c:Int)(p:Str)(xs:List Int)(ts:List Tm)(e4 e5 e6 e7 e8:Option O):AS:=
 [some (lfI c),some (.lf true (.lst [.str "a",.str p])),some (.lf true (zO xs)),some (.nd .ls (ts.map sO)),e4,e5,e6,e7,e8]
abbrev tB:SF:=(zJ (zU true 5 (f2 (f2 (fV 2) (f2 (fC (.int 2)) (fV 4) (zr .Mult)) ixP) (fC (.int 9)) (zr .Mod)))
 (sIf (Yr (fT (f2 (fV 5) (fC (.int 3)) (zY .Lt))) (fT (f2 (fP (aC (fV 3) aN) wz) (fC (.int 2)) (zY .Lt)))) (yV (xY 3 (dC (f2 (xX (dC (fP (aC (f2 (f2 (f2 (fV 2) (f2 (f2 (fC (.int 2)) (fV 4) (zr .Mult)) (fC (.int 1)) (zr .Add)) ixP) (fC (.int 2)) (zr .FloorDiv)) (f2 (fC (.int 10)) (fC (.int 60)) (zr .Pow)) (zr .Mod)) aN) vQ) (dC (f2 (fV 1) (f2 (f2 (fV 2) (f2 (f2 (fC (.int 2)) (fV 4) (zr .Mult)) (fC (.int 1)) (zr .Add)) ixP) (fC (.int 2)) (zr .Mod)) ixP) dN))) (fP (aC (f2 (fV 5) (fC (.int 1)) (zY .NotEq)) aN) zcj) ixP) dN) wZ)) (sIf (Yr (fT (f2 (fV 5) (fC (.int 8)) (zY .Lt))) (fT (f2 (fP (aC (fV 3) aN) wz) (fC (.int 4)) (zY .Lt)))) (zJ (zU true 6 (xY 3 dN zhz))
 (zJ (zU true 7 (f2 (xX (dC (fC (.str "add")) (dC (fC (.str "take")) (dC (fC (.str "times")) (dC (fC (.str "most")) (dC (fC (.str "least")) dN)))))) (f2 (fV 5) (fC (.int 5)) (zr .Mod)) ixP))
 (yV (xY 3 (dC (f2 (f2 (f2 (f2 (fV 7) (fC (.str " ")) (zr .Add)) (xY 3 dN zhz) (zr .Add)) (fC (.str " ")) (zr .Add)) (fV 6) (zr .Add)) dN) wZ)))) (zJ (zU true 8 (zgb 3 4))
 (yV (xY 3 (dC (f2 (fC (.str "same ")) (yF .str (fC (.str " ")) (aC (fV 8) aN) wH) (zr .Add)) dN) wZ))))))
theorem f2M{as as1 as2:AS}{a b:EF}{g:D->D->Option R0}{oa ob:O}{z:D}(ha:a as=some (.ow oa,as1))(hb:b as1=some (.ow ob,as2))(hg:g oa.toD ob.toD=some (.im z))(e:ye z=true):f2 a b g as=some (.ow (.lf true z),as2):=by
 unfold f2;rw[ha];show((b as1).bind _)=_;rw[hb];show((g oa.toD ob.toD).bind _)=_;rw[hg];show(if(ye z||(meet (some oa.str) (some ob.str)).isSome)=true then some (RV.ow (lfs ((meet (some oa.str) (some ob.str)).getD false) z))else _:Option RV).bind _=_;rw[if_pos (by unfold meet;simp)];show some (RV.ow (.lf (ye z||_) z),as2)=_;rw[e];rfl
theorem zxH{y:Int}:∃w:Str,zbb w/\ixP (.lst [.str "add",.str "take",.str "times",.str "most",.str "least"]) (.int (y%5))=some (.im (.str w)):=by
 rcases(show y%5=0\/y%5=1\/y%5=2\/y%5=3\/y%5=4 by omega)with e|e|e|e|e<;>rw[e]
 . exact⟨"add",.inl rfl,rfl⟩
 . exact⟨"take",.inr (.inl rfl),rfl⟩
 . exact⟨"times",.inr (.inr (.inl rfl)),rfl⟩
 . exact⟨"most",.inr (.inr (.inr (.inl rfl))),rfl⟩
 . exact⟨"least",.inr (.inr (.inr (.inr rfl))),rfl⟩
theorem zjP{c:Int}{p:Str}{xs:List Int}{ts:List Tm}{t:Tm}{e4 e5 e6 e7 e8:Option O}:S9 c p xs (ts++[t]) e4 e5 e6 e7 e8=[some (lfI c),some (.lf true (.lst [.str "a",.str p])),some (.lf true (zO xs)),some (.nd .ls (ts.map sO++[sO t])),e4,e5,e6,e7,e8]:=by
 show[_,_,_,some (O.nd .ls ((ts++[t]).map sO)),_,_,_,_,_]=_;rw[zrs];rfl
theorem ztZ:(0:Int)<10 ^ (60:Int).toNat:=by decide +kernel
theorem zoZ{c:Int}{p:Str}{xs:List Int}{ts:List Tm}{k:Nat}{e5 e6 e7 e8:Option O}(hp:isP p)(hx:xs.length=48)(hb:∀x ∈ xs,0<=x/\x<nine)(hk:k<20)(ht:∀t ∈ ts,t.ok p)(hc:V1 ts=k):
 ∃(ts':List Tm) (f5 f6 f7 f8:Option O),ts'≠[]/\(∀t ∈ ts',t.ok p)/\V1 ts'=k+1/\tB (S9 c p xs ts (some (lfI k)) e5 e6 e7 e8)=some (.nx (S9 c p xs ts' (some (lfI k)) f5 f6 f7 f8)):=by
 obtain⟨x0,g0,_⟩:=xat (xs:=xs) (k:=2*(k:Int)) (by omega) (by omega) hb;obtain⟨x1,g1,b1⟩:=xat (xs:=xs) (k:=2*(k:Int)+1) (by omega) (by omega) hb;have b3:(2:Int).natAbs<big:=yW (by decide) (by decide);have bk:(k:Int).natAbs<big:=yW (by omega) (by omega);have hl:ts.length<=k:=by have:=zfS ts;omega
 have h0:zU true 5 (f2 (f2 (fV 2) (f2 (fC (.int 2)) (fV 4) (zr .Mult)) ixP) (fC (.int 9)) (zr .Mod)) (S9 c p xs ts (some (lfI k)) e5 e6 e7 e8)=some (.nx (S9 c p xs ts (some (lfI k)) (some (lfI (x0%9))) e6 e7 e8)):=zV (i:=5) (yJ (yu (zc rfl) (WM zf (zc rfl) b3 bk) g0 rfl) zf (by decide)) (zG rfl);have y0:0<=x0%9/\x0%9<9:=⟨by omega,by omega⟩;generalize x0%9=y at h0 y0;have hsz:∀ts:List Tm,ts.length<=k->(ts.map sO).length<sizeLine:=λts h=>by rw[zD];exact xu (by omega)
 have kos:∀t ∈ ts,(S t).length<=61*20:=λt mt=>by
  have:=zix (Wm hp (ht t mt));have:=zdD mt;omega
 by_cases h1:y<3\/ts.length<2
 . obtain⟨nm,hnm,g3⟩:=zqG (p:=p) (x:=x1);have v0:0<=x1/2%10 ^ (60:Int).toNat:=zyH _ (by decide +kernel);have v1:x1/2%10 ^ (60:Int).toNat<10 ^ 60:=zyB _ ztZ;generalize hv:x1/2%10 ^ (60:Int).toNat=v at v0 v1;refine⟨ts++[if y=1 then .num v else .nam nm],some (lfI y),e6,e7,e8,by simp,λt m=>?_, ?_,zu h0 (wX ?_ ?_)⟩
   . rcases zzI.mp m with m|m
     . exact ht t m
     . rw[zzN.mp m]
       split
       . exact⟨v0,v1⟩
       . exact hnm
   . rw[zdo,hc]
     split<;>rfl
   . refine v9 (zH (Wf (zc rfl) zf) rfl) (λe=>zH (Wf (zrm rfl) zf) ?_) (λ_=>rfl);have e:=of_decide_eq_false e;show some (decide (((ts.map sO).length:Int)<2))=_;rw[zD,zyI (by omega)]
   . rw[zjP];have hx1:∀as:AS,as=S9 c p xs ts (some (lfI k)) (some (lfI y)) e6 e7 e8->WD (f2 (fV 2) (f2 (f2 (fC (.int 2)) (fV 4) (zr .Mult)) (fC (.int 1)) (zr .Add)) ixP) as true (.int x1):=λas e=>by subst e;exact yu (zc rfl) (wg (WM zf (zc rfl) b3 bk) zf) g1 rfl
     have hm:=yJ (Zb (hx1 _ rfl) (zf (x:=.int 2)) (by decide) (yW (by decide) (by decide))) (znh (zf (x:=.int 10)) (zf (x:=.int 60)) ⟨by decide,by decide,by decide⟩) ztZ;rw[hv]at hm;refine Yo (i:=3) rfl (hsz ts hl) (f2E (xR (os:=[O.lf true (.str (tx v)),O.lf true (.str nm)]) (zF (zgF hm.e v0 v1) (zF (yu (zc rfl) (yJ (hx1 _ rfl) zf (by decide)) g3 rfl) yp)) (szl rfl) rfl rfl) (WD.e (wu (zB (zci (zc rfl) zf rfl) zP) rfl rfl)) ?_);show ixP _ (.int (if(!(y==1))=true then 1 else 0))=_
     by_cases e:y=1
     . rw[if_pos e,e];rfl
     . rw[if_neg e,show(y==1)=false by simp[e]];rfl
 . have n1:¬y<3:=λz=>h1 (.inl z);have n2:¬ts.length<2:=λz=>h1 (.inr z);have hF:WT (Yr (fT (f2 (fV 5) (fC (.int 3)) (zY .Lt))) (fT (f2 (fP (aC (fV 3) aN) wz) (fC (.int 2)) (zY .Lt)))) (S9 c p xs ts (some (lfI k)) (some (lfI y)) e6 e7 e8) false:=by
    refine v9 (k:=false) (zH (Wf (zc rfl) zf) (congrArg some (zyA n1))) (λ_=>zH (Wf (zrm rfl) zf) ?_) (λh=>nomatch h);show some (decide (((ts.map sO).length:Int)<2))=_;rw[zD,zyA (by omega)]
   by_cases h2:y<8\/ts.length<4
   . obtain⟨r,a,b,rfl⟩:=zpQ (ts:=ts) (by omega);obtain⟨w,hw,g3⟩:=zxH (y:=y);have oa:=ht a (by simp);have ob:=ht b (by simp);have sa:=kos a (by simp);have sb':=kos b (by simp);have lw:=(zof hw).2;have e1:(r++[a,b]).map sO=(r.map sO++[sO a])++[sO b]:=by rw[zrs,zyU];rfl
     have lr:r.length+2<=k:=by rw[zzF]at hl;exact hl
     have l1:(" ":Str).length=1:=zhQ;refine⟨r++[.op w a b],some (lfI y),some (sO b),some (.lf true (.str w)),e8,by simp,λt m=>?_, ?_,zu h0 (yh hF (wX ?_ (zu (as1:=S9 c p xs (r++[a]) (some (lfI k)) (some (lfI y)) (some (sO b)) e7 e8) ?_ (zu (as1:=S9 c p xs (r++[a]) (some (lfI k)) (some (lfI y)) (some (sO b)) (some (.lf true (.str w))) e8) (zV (i:=7) (f2E (xR (zF zf (zF zf (zF zf (zF zf (zF zf yp))))) (szl rfl) rfl rfl) (yJ (zc (i:=5) rfl) zf (by decide)).e g3) (zG rfl)) ?_))))⟩
     . rcases zzI.mp m with m|m
       . exact ht t (zzL _ m)
       . rw[zzN.mp m];exact⟨hw,oa,ob⟩
     . rw[zdo]at hc ⊢;simp only[V1,Tm.cnt]at hc ⊢;omega
     . refine v9 (zH (Wf (zc rfl) zf) rfl) (λe=>zH (Wf (zrm rfl) zf) ?_) (λ_=>rfl);have e:=of_decide_eq_false e;show some (decide ((((r++[a,b]).map sO).length:Int)<4))=_;rw[zD,zyI (by have:=h2.resolve_left e;omega)]
     . have:=zkm (i:=6) (zqp (as:=S9 c p xs (r++[a,b]) (some (lfI k)) (some (lfI y)) e6 e7 e8) (i:=3) (os:=r.map sO++[sO a]) (o:=sO b) (by rw[<-e1];rfl)) (zG rfl);rw[show r.map sO++[sO a]=(r++[a]).map sO by rw[zrs];rfl]at this;exact this
     . have hpop:xY 3 dN zhz (S9 c p xs (r++[a]) (some (lfI k)) (some (lfI y)) (some (sO b)) (some (.lf true (.str w))) e8)=some (.ow (sO a),S9 c p xs r (some (lfI k)) (some (lfI y)) (some (sO b)) (some (.lf true (.str w))) e8):=zqp (i:=3) (os:=r.map sO) (o:=sO a) (by rw[show r.map sO++[sO a]=(r++[a]).map sO by rw[zrs];rfl];rfl);have q:=znW (as:=S9 c p xs (r++[a]) (some (lfI k)) (some (lfI y)) (some (sO b)) (some (.lf true (.str w))) e8) (i:=3) rfl (f2M (f2M (f2M (Zu (ve (i:=7) rfl) (ce (x:=.str (" ":Str))) (by omega)) hpop (zds (szs (by rw[zX];omega))) rfl) (zf (x:=.str (" ":Str))) (zds (szs (by simp only[zX];omega))) rfl) (zc (i:=6) rfl) (zds (szs (by simp only[zX];omega))) rfl) rfl (hsz r (by omega));have es:w++(" ":Str)++S a++(" ":Str)++S b=S (.op w a b):=by rw[zpd,blank_eq]
       rw[es]at q;rw[zjP (ts:=r) (t:=.op w a b)];exact q
   . have n3:¬y<8:=λz=>h2 (.inl z);have n4:¬ts.length<4:=λz=>h2 (.inr z);have hF2:WT (Yr (fT (f2 (fV 5) (fC (.int 8)) (zY .Lt))) (fT (f2 (fP (aC (fV 3) aN) wz) (fC (.int 4)) (zY .Lt)))) (S9 c p xs ts (some (lfI k)) (some (lfI y)) e6 e7 e8) false:=by
      refine v9 (k:=false) (zH (Wf (zc rfl) zf) (congrArg some (zyA n3))) (λ_=>zH (Wf (zrm rfl) zf) ?_) (λh=>nomatch h);show some (decide (((ts.map sO).length:Int)<4))=_;rw[zD,zyA (by omega)]
     obtain⟨r,a,b,d,e,rfl⟩:=zqx (ts:=ts) (by omega);have oa:=ht a (by simp);have ob:=ht b (by simp);have od:=ht d (by simp);have oe:=ht e (by simp);have sa:=kos a (by simp);have sb':=kos b (by simp);have sd:=kos d (by simp);have se:=kos e (by simp);have lr:r.length+4<=k:=by rw[zzF]at hl;exact hl
     have l5:("same ":Str).length=5:=by decide +kernel
     have e1:(r++[a,b,d,e]).map sO=r.map sO++[sO a,sO b,sO d,sO e]:=by rw[zrs];rfl
     refine⟨r++[.sm e d b a],some (lfI y),e6,e7,some (.lf true (.lst [.str (S e),.str (S d),.str (S b),.str (S a)])),by simp,λt m=>?_, ?_,zu h0 (yh hF (yh hF2 (zu (as1:=S9 c p xs r (some (lfI k)) (some (lfI y)) e6 e7 (some (.lf true (.lst [.str (S e),.str (S d),.str (S b),.str (S a)])))) ?_ ?_)))⟩
     . rcases zzI.mp m with m|m
       . exact ht t (zzL _ m)
       . rw[zzN.mp m];exact⟨oe,od,ob,oa⟩
     . rw[zdo]at hc ⊢;simp only[V1,Tm.cnt]at hc ⊢;omega
     . exact zkm (i:=8) (ztW (as:=S9 c p xs (r++[a,b,d,e]) (some (lfI k)) (some (lfI y)) e6 e7 e8) (s:=3) (os:=r.map sO) (by rw[<-e1];rfl) (by rw[<-e1];exact(zcD _).1)) (zG rfl)
     . rw[zjP];have hj:=joinM (as:=S9 c p xs r (some (lfI k)) (some (lfI y)) e6 e7 (some (.lf true (.lst [.str (S e),.str (S d),.str (S b),.str (S a)])))) (fr:=fV 8) (sep:=sb) (l:=[e,d,b,a]) (g:=S) (n:=61*20) (ve rfl) (λt mt=>by
        simp only[zI,zyT,or_false]at mt
        rcases mt with rfl|rfl|rfl|rfl<;>assumption) (by show 4*(61*20+sb.length)<=_;rw[zhQ];decide)
       have ej:("same ":Str)++Str.join sb ([e,d,b,a].map S)=S (.sm e d b a):=by
        rw[zxB];show("same ":Str)++(S e++sb++(S d++sb++(S b++sb++S a)))=_;rw[show("same ":Str)=("same":Str)++bl1 by decide +kernel,<-blank_eq];simp only[ap3]
       have hz:=Xx sb (ps:=[e,d,b,a].map S) (n:=61*20) (λs ms=>by
        simp only[zyM,List.map_nil,zI,zyT,or_false]at ms
        rcases ms with rfl|rfl|rfl|rfl<;>assumption)
       rw[zhQ]at hz;have hz':(Str.join sb ([e,d,b,a].map S)).length<=4*(61*20+1):=hz;have ha:=Zu (ce (x:=.str ("same ":Str))) hj.e (by omega);rw[ej]at ha;exact Yo (i:=3) rfl (hsz r (by omega)) ha
theorem zlO{c:Int}{p:Str}{xs:List Int}(hp:isP p)(hx:xs.length=48)(hb:∀x ∈ xs,0<=x/\x<nine):∀(n k:Nat) (ts:List Tm) (e4 e5 e6 e7 e8:Option O),k+n<=20->(∀t ∈ ts,t.ok p)->V1 ts=k->(0<n\/ts≠[])->
 ∃(ts':List Tm) (f4 f5 f6 f7 f8:Option O),ts'≠[]/\(∀t ∈ ts',t.ok p)/\V1 ts'=k+n/\forL (gN 4) tB (vg k n) (S9 c p xs ts e4 e5 e6 e7 e8)=some (.nx (S9 c p xs ts' f4 f5 f6 f7 f8))
 |0,k,ts,e4,e5,e6,e7,e8,h,ht,hn,hp'=>⟨ts,e4,e5,e6,e7,e8,hp'.resolve_left (by omega),ht,hn,rfl⟩
 |n+1,k,ts,e4,e5,e6,e7,e8,h,ht,hn,hp'=>by
  obtain⟨t1,f5,f6,f7,f8,a1,a2,a3,a4⟩:=zoZ (c:=c) (e5:=e5) (e6:=e6) (e7:=e7) (e8:=e8) (k:=k) hp hx hb (by omega) ht hn;obtain⟨t2,g4,g5,g6,g7,g8,b1,b2,b3,b4⟩:=zlO (c:=c) hp hx hb n (k+1) t1 (some (lfI k)) f5 f6 f7 f8 (by omega) a2 a3 (.inr a1);refine⟨t2,g4,g5,g6,g7,g8,b1,b2,by omega, ?_⟩;rw[wC];exact xg (as1:=S9 c p xs ts (some (lfI k)) e5 e6 e7 e8) rfl a4 b4
theorem zoB{c:Int}{p:Str}(hp:isP p):∃s,TmT p s/\wQ [(true,.int c),(true,.lst [.str "a",.str p])]=some (.lf true (.str s)):=by
 obtain⟨xs,h1,h2,h3⟩:=zoH (c:=c) (m:=48) (by decide);have r0:0<=c/2%20/\c/2%20<20:=⟨by omega,by omega⟩;obtain⟨ts,f4,f5,f6,f7,f8,a1,a2,a3,a4⟩:=zlO (c:=c) hp h1 h2 (1+(c/2%20)).toNat 0 [] none none none none none (by omega) (λt m=>nomatch m) rfl (.inl (by omega));obtain⟨x0,g0,z0⟩:=xat (xs:=xs) (k:=0) (by decide) (by omega) h2;have hl:0<ts.length:=List.length_pos_iff.mpr a1;have hlk:ts.length<=20:=by have:=zfS ts;omega
 have i0:0<=x0%(ts.length:Int):=zyH _ (by omega);have i1:x0%(ts.length:Int)<ts.length:=zyB _ (by omega);have hj:(x0%(ts.length:Int)).toNat<ts.length:=by omega
 refine⟨S ts[(x0%(ts.length:Int)).toNat],⟨_,a2 _ (zyR hj), ?_, ?_,rfl⟩, ?_⟩
 . have:=(zbx ts[(x0%(ts.length:Int)).toNat]).2;have:=zdD (zyR hj);omega
 . have:=zdD (zyR hj);omega
 . refine ym rfl (zu (Yi (p:=2) (zcE (ve rfl) ce h3) (zG rfl)) (zu (vL (i:=3) (Z1 yp (by decide)) (zG rfl)) (zu (as1:=S9 c p xs ts f4 f5 f6 f7 f8) (ZM (wK (j:=1+c/2%20) (zB (wg zf (yJ (Zb (zc (i:=0) rfl) zf (by decide) (yW (by decide) (by decide))) zf (by decide))) zP) (by omega) (by omega)) a4) (yf (zpr (i:=3) rfl (zcD ts).1 (zcD ts).2.1 (yJ (yu (zc (i:=2) rfl) zf g0 rfl) (zrm (i:=3) rfl) (by rw[zD];omega)) ?_)))));rw[(zcD ts).2.2,zD];have:=zca (ds:=ts.map λt=>D.str (S t)) (k:=(x0%(ts.length:Int)).toNat) (x:=D.str (S ts[(x0%(ts.length:Int)).toNat])) (by rw[zzE,zzA hj];rfl);rw[show(((x0%(ts.length:Int)).toNat:Nat):Int)=x0%(ts.length:Int) by omega]at this;exact this
theorem zuz{L:List Str}{k:Int}(h0:0<=k)(h1:k<L.length):∃s ∈ L,ixP (lsD L) (.int k)=some (.im (.str s)):=by
 have hk:k.toNat<L.length:=by omega
 refine⟨L[k.toNat],zyR hk, ?_⟩;have:=zca (ds:=L.map D.str) (k:=k.toNat) (x:=D.str L[k.toNat]) (by rw[zzE,zzA hk];rfl)
 rwa [show((k.toNat:Nat):Int)=k by omega]at this
abbrev na:Tm:=.nam "a"
abbrev nb:Tm:=.nam "b"
abbrev nc:Tm:=.nam "c"
theorem okA{p:Str}:na.ok p:=.inl rfl
theorem n0{p:Str}:(Tm.num 0).ok p:=⟨by decide,by decide +kernel⟩
theorem n1{p:Str}:(Tm.num 1).ok p:=⟨by decide,by decide +kernel⟩
theorem n3{p:Str}:(Tm.num 3).ok p:=⟨by decide,by decide +kernel⟩
theorem zmq:zbb ("add":Str):=.inl rfl
theorem zut:zbb ("take":Str):=.inr (.inl rfl)
theorem zgH:zbb ("times":Str):=.inr (.inr (.inl rfl))
theorem zqM:zbb ("most":Str):=.inr (.inr (.inr (.inl rfl)))
theorem zqi:zbb ("least":Str):=.inr (.inr (.inr (.inr rfl)))
theorem okB:nb.ok "b":=.inr rfl
theorem okC:nc.ok "c":=.inr rfl
theorem tmT{p s:Str}(t:Tm)(h:t.ok p)(h1:t.ht<=13)(h2:t.cnt<=40)(e:s=S t):TmT p s:=⟨t,h,h1,h2,e⟩
theorem zrG(v:Int):S (.num v)=tx v:=rfl
theorem znS(x:Str):S (.nam x)=x:=rfl
theorem zpp(v:Int):("add a times ":Str)++tx v++(" b":Str)=S (.op "add" na (.op "times" (.num v) nb)):=by
 rw[zpd,zpd,zrG,znS,znS,show("add a times ":Str)=("add":Str)++(bl1++(("a":Str)++(bl1++(("times":Str)++bl1)))) by decide +kernel,show(" b":Str)=bl1++("b":Str) by decide +kernel];simp only[ap3]
theorem zlg(u v:Int):("add times ":Str)++tx u++(" a times ":Str)++tx v++(" c":Str)=S (.op "add" (.op "times" (.num u) na) (.op "times" (.num v) nc)):=by
 rw[zpd,zpd,zpd,zrG,zrG,znS,znS,show("add times ":Str)=("add":Str)++(bl1++(("times":Str)++bl1)) by decide +kernel,show(" a times ":Str)=bl1++(("a":Str)++(bl1++(("times":Str)++bl1))) by decide +kernel,show(" c":Str)=bl1++("c":Str) by decide +kernel];simp only[ap3]
abbrev L11(v:Int):List Str:=["add a b","most a b","least a b","same b 0 a b","same a 0 b a","times a b","take a b","a","b",("add a times ":Str)++tx v++(" b":Str),"same a b add a 1 most a b"]
theorem zvG{v:Int}(h0:0<=v)(h1:v<10 ^ 60):∀s ∈ L11 v,TmT "b" s:=λs ms=>by
 simp only[zI,zyT,or_false]at ms
 rcases ms with rfl|rfl|rfl|rfl|rfl|rfl|rfl|rfl|rfl|rfl|rfl
 . exact tmT (.op "add" na nb) ⟨zmq,okA,okB⟩ (by decide) (by decide) (by decide +kernel)
 . exact tmT (.op "most" na nb) ⟨zqM,okA,okB⟩ (by decide) (by decide) (by decide +kernel)
 . exact tmT (.op "least" na nb) ⟨zqi,okA,okB⟩ (by decide) (by decide) (by decide +kernel)
 . exact tmT (.sm nb (.num 0) na nb) ⟨okB,n0,okA,okB⟩ (by decide) (by decide) (by decide +kernel)
 . exact tmT (.sm na (.num 0) nb na) ⟨okA,n0,okB,okA⟩ (by decide) (by decide) (by decide +kernel)
 . exact tmT (.op "times" na nb) ⟨zgH,okA,okB⟩ (by decide) (by decide) (by decide +kernel)
 . exact tmT (.op "take" na nb) ⟨zut,okA,okB⟩ (by decide) (by decide) (by decide +kernel)
 . exact tmT na okA (by decide) (by decide) (by decide +kernel)
 . exact tmT nb okB (by decide) (by decide) (by decide +kernel)
 . exact tmT (.op "add" na (.op "times" (.num v) nb)) ⟨zmq,okA,zgH,⟨h0,h1⟩,okB⟩ (by show 3<=13;decide) (by show 5<=40;decide) (zpp v)
 . exact tmT (.sm na nb (.op "add" na (.num 1)) (.op "most" na nb)) ⟨okA,okB,⟨zmq,okA,n1⟩,⟨zqM,okA,okB⟩⟩ (by decide) (by decide) (by decide +kernel)
theorem zko{x:Int}{n:D}:∃s,TmT "b" s/\wF [(true,.int x),(true,n)]=some (.lf true (.str s)):=by
 have v0:0<=x/9%1000:=zyH _ (by decide);have v1:x/9%1000<1000:=zyB _ (by decide);have w0:0<=x%11:=zyH _ (by decide);have w1:x%11<11:=zyB _ (by decide);have tl:=xZ (v:=x/9%1000) v0 (by omega);have l1:("add a times ":Str).length=12:=by decide +kernel
 have l2:(" b":Str).length=2:=by decide +kernel
 obtain⟨s,ms,e⟩:=zuz (L:=L11 (x/9%1000)) (k:=x%11) w0 (by show x%11<11;omega);refine⟨s,zvG v0 (by omega) s ms,ym rfl (zu (Yi (p:=2) (xR (os:=[tO "add a b",tO "most a b",tO "least a b",tO "same b 0 a b",tO "same a 0 b a",tO "times a b",tO "take a b"]) (zF zf (zF zf (zF zf (zF zf (zF zf (zF zf (zF zf yp))))))) (szl rfl) rfl rfl) (zG rfl))
  (zu (Yi (p:=2) (x:=lsD (L11 (x/9%1000))) (zhV (ve (i:=2) rfl) (xR (os:=[tO "a",tO "b",tO (("add a times ":Str)++tx (x/9%1000)++(" b":Str)),tO "same a b add a 1 most a b"]) (zF zf (zF zf (zF (Zu (Zu ce (zgF (v:=x/9%1000) (yJ (Zb (zc (i:=0) rfl) zf (by decide) (yW (by decide) (by decide))) zf (by decide)).e v0 (by omega)).e (by omega)).e ce (by rw[zX];omega)) (zF zf yp)))) (szl rfl) rfl rfl) (add_lists (szl rfl))) (zG rfl))
  (yf (yr (zc (i:=2) rfl) (yJ (zc (i:=0) rfl) (zgM (ve (i:=2) rfl)) (by show(0:Int)<11;decide)) e))))⟩
abbrev L9(u v:Int):List Str:=[("add times ":Str)++tx u++(" a times ":Str)++tx v++(" c":Str),"a","add a c","most a c","same c 1 add a 1 a","least a 3","times a a","take c a","same a 0 0 add a 0"]
theorem zwG{u v:Int}(g0:0<=u)(g1:u<10 ^ 60)(h0:0<=v)(h1:v<10 ^ 60):∀s ∈ L9 u v,TmT "c" s:=λs ms=>by
 simp only[zI,zyT,or_false]at ms
 rcases ms with rfl|rfl|rfl|rfl|rfl|rfl|rfl|rfl|rfl
 . exact tmT (.op "add" (.op "times" (.num u) na) (.op "times" (.num v) nc)) ⟨zmq,⟨zgH,⟨g0,g1⟩,okA⟩,zgH,⟨h0,h1⟩,okC⟩ (by show 3<=13;decide) (by show 7<=40;decide) (zlg u v)
 . exact tmT na okA (by decide) (by decide) (by decide +kernel)
 . exact tmT (.op "add" na nc) ⟨zmq,okA,okC⟩ (by decide) (by decide) (by decide +kernel)
 . exact tmT (.op "most" na nc) ⟨zqM,okA,okC⟩ (by decide) (by decide) (by decide +kernel)
 . exact tmT (.sm nc (.num 1) (.op "add" na (.num 1)) na) ⟨okC,n1,⟨zmq,okA,n1⟩,okA⟩ (by decide) (by decide) (by decide +kernel)
 . exact tmT (.op "least" na (.num 3)) ⟨zqi,okA,n3⟩ (by decide) (by decide) (by decide +kernel)
 . exact tmT (.op "times" na na) ⟨zgH,okA,okA⟩ (by decide) (by decide) (by decide +kernel)
 . exact tmT (.op "take" nc na) ⟨zut,okC,okA⟩ (by decide) (by decide) (by decide +kernel)
 . exact tmT (.sm na (.num 0) (.num 0) (.op "add" na (.num 0))) ⟨okA,n0,n0,⟨zmq,okA,n0⟩⟩ (by decide) (by decide) (by decide +kernel)
theorem zkv{x:Int}:∃s,TmT "c" s/\xV [(true,.int x)]=some (.lf true (.str s)):=by
 have u0:0<=x/9%9:=zyH _ (by decide);have u1:x/9%9<9:=zyB _ (by decide);have v0:0<=x/99%10 ^ (9:Int).toNat:=zyH _ (by decide);have v1:x/99%10 ^ (9:Int).toNat<10 ^ 9:=zyB _ (by decide);have w0:0<=x%9:=zyH _ (by decide);have w1:x%9<9:=zyB _ (by decide);have l1:("add times ":Str).length=10:=by decide +kernel
 have l2:(" a times ":Str).length=9:=by decide +kernel
 have l3:(" c":Str).length=2:=by decide +kernel
 have hv:∀as:AS,as[0]? = some (some (lfI x))->WD (f2 (f2 (fV 0) (fC (.int 99)) (zr .FloorDiv)) (f2 (fC (.int 10)) (fC (.int 9)) (zr .Pow)) (zr .Mod)) as true (.int (x/99%10 ^ (9:Int).toNat)):=λas h=>yJ (Zb (zc h) zf (by decide) (yW (by decide) (by decide))) (znh zf zf ⟨by decide,by decide,by decide⟩) (by decide);generalize x/99%10 ^ (9:Int).toNat=v at v0 v1 hv;have tl:=xZ (v:=x/9%9) u0 (by omega);have tl2:=xZ (v:=v) v0 (by omega);obtain⟨s,ms,e⟩:=zuz (L:=L9 (x/9%9) v) (k:=x%9) w0 (by show x%9<9;omega);refine⟨s,zwG u0 (by omega) v0 (by omega) s ms,ym rfl (zu (Yi (p:=1) (xR (os:=[tO (("add times ":Str)++tx (x/9%9)++(" a times ":Str)++tx v++(" c":Str)),tO "a",tO "add a c",tO "most a c"]) (zF (Zu (Zu (Zu (Zu ce (zgF (v:=x/9%9) (yJ (Zb (zc (i:=0) rfl) zf (by decide) (yW (by decide) (by decide))) zf (by decide)).e u0 (by omega)).e (by omega)).e ce (by rw[zX];omega)).e (zgF (v:=v) (hv _ rfl).e v0 (by omega)).e (by simp only[zX];omega)).e ce (by simp only[zX];omega)) (zF zf (zF zf (zF zf yp)))) (szl rfl) rfl rfl) (zG rfl))
  (zu (Yi (p:=1) (x:=lsD (L9 (x/9%9) v)) (zhV (ve (i:=1) rfl) (xR (os:=[tO "same c 1 add a 1 a",tO "least a 3",tO "times a a",tO "take c a",tO "same a 0 0 add a 0"]) (zF zf (zF zf (zF zf (zF zf (zF zf yp))))) (szl rfl) rfl rfl) (add_lists (szl rfl))) (zG rfl))
  (yf (yr (zc (i:=1) rfl) (yJ (zc (i:=0) rfl) (zgM (ve (i:=1) rfl)) (by show(0:Int)<9;decide)) e))))⟩
abbrev sI(x:Int):Option O:=some (lfI x)
abbrev sT(d:D):Option O:=some (.lf true d)
abbrev sN(os:List O):Option O:=some (.nd .ls os)
theorem ziE{α:Type}(toD:α->D){Q:α->Prop}{g:GF}{fe:EF}{as0:AS}:∀{xs:List It1},(∀y ∈ xs,∃as1 a,g y as0=some as1/\WE fe as1 (toD a)/\Q a)->∃(os:List O) (l:List α),xT g xf fe as0 xs=some os/\O.strs os=true/\O.toDs os=l.map toD/\l.length=xs.length/\∀a ∈ l,Q a
 | [],_=>⟨[],[],rfl,rfl,rfl,rfl,λ_ m=>nomatch m⟩
 |y::xs,H=>by
  obtain⟨as1,a,h1,⟨o,h2,h3,h4⟩,h5⟩:=H y (zzB ..);obtain⟨os,l,a1,a2,a3,a4,a5⟩:=ziE toD (Q:=Q) (g:=g) (fe:=fe) (as0:=as0) (xs:=xs) λz m=>H z (zS _ m);refine⟨o::os,a::l,zdg h1 h2 h3 a1,by show(o.str&&O.strs os)=true;rw[h3,a2];rfl,by show o.toD::O.toDs os=_;rw[h4,a3];rfl,congrArg (· + 1) a4,λb m=>?_⟩
  rcases zI.mp m with rfl|m
  . exact h5
  . exact a5 b m
theorem zsG{α:Type}(toD:α->D){Q:α->Prop}{fi:IF}{cap:List (Option Nat)}{g:GF}{fe:EF}{as:AS}{xs:List It1}(h1:fi as=some (xs,as))(hl:xs.length<=1000)(H:∀y ∈ xs,∃as1 a,g y (WY cap as)=some as1/\WE fe as1 (toD a)/\Q a):
 ∃l:List α,l.length=xs.length/\(∀a ∈ l,Q a)/\WE (yC fi cap g xf fe) as (.lst (l.map toD)):=by
 obtain⟨os,l,a1,a2,a3,a4,a5⟩:=ziE toD H;exact⟨l,a4,a5,_,wN h1 (szs (by omega)) a1,a2,congrArg D.lst a3⟩
theorem zwB{n m:Nat}{c:SF}{ds:List (Bool×D)}{x:D}(hl:ds.length=m)(h:∃o,c (XQ n ds)=some (.rt o)/\o.str=true/\o.toD=x):RE (fnR n m c ds) x:=by
 obtain⟨o,h1,h2,h3⟩:=h;exact⟨o,ym hl h1,h2,h3⟩
abbrev Rt(r:Option Out)(x:D):Prop:=∃o,r=some (.rt o)/\o.str=true/\o.toD=x
theorem zel{f g:SF}{as as1:AS}{x:D}(h1:f as=some (.nx as1))(h2:Rt (g as1) x):Rt (zJ f g as) x:=by
 obtain⟨o,a,b,c⟩:=h2;exact⟨o,zu h1 a,b,c⟩
theorem zvM{r:List Int}{P:Int->Prop}{k:Int}(h0:0<=k)(h1:k<r.length)(hp:∀x ∈ r,P x):∃x,ixP (zO r) (.int k)=some (.im (.int x))/\P x:=by
 have hk:k.toNat<r.length:=by omega
 refine⟨r[k.toNat], ?_,hp _ (zyR hk)⟩;have h:=Wr (xs:=r.map D.int) (j:=k.toNat) (v:=D.int r[k.toNat]) (by rw[zzE,zzA hk];rfl);rw[show((k.toNat:Nat):Int)=k by omega]at h;show imR (atI _ _)=_;rw[h];rfl
abbrev St(x:Int):Prop:=0<=x/\x<2147483399
theorem stE{a b:EF}{as:AS}{c:Int}{m:Nat}(hm:m<=900)(ha:WE a as (.int c))(hb:WE b as (.int m)):∃xs:List Int,xs.length=m/\(∀x ∈ xs,St x)/\WE (zA (aC a (aC b aN)) yt) as (zO xs):=by
 obtain⟨xs,h1,h2,h3⟩:=ziY (s:=true) (c:=c) (m:=m) (by omega) (by omega);exact⟨xs,by omega,h2,zcE ha hb ⟨_,h3,(zdM xs).1,(zdM xs).2⟩⟩
theorem strs_snoc:∀(os:List O) (o:O),O.strs os=true->o.str=true->O.strs (os++[o])=true
 | [],o,_,h=>by show(o.str&&true)=true;rw[h];rfl
 |p::r,o,h,h'=>by
  have h:=(zzW _ _).mp (show(p.str&&O.strs r)=true from h);show(p.str&&O.strs (r++[o]))=true;rw[h.1,strs_snoc r o h.2 h'];rfl
theorem zjl:∀(os:List O) (o:O),O.toDs (os++[o])=O.toDs os++[o.toD]
 | [],o=>rfl
 |p::r,o=>congrArg (p.toD :: ·) (zjl r o)
structure Ows{α:Type}(toD:α->D)(Q:α->Prop)(os:List O)(l:List α):Prop where
 st:O.strs os=true
 ds:O.toDs os=l.map toD
 al:∀a ∈ l,Q a
 ln:os.length=l.length
theorem Ows.nil{α:Type}{toD:α->D}{Q:α->Prop}:Ows toD Q [] []:=⟨rfl,rfl,(λ_ m=>nomatch m),rfl⟩
theorem Ows.snoc{α:Type}{toD:α->D}{Q:α->Prop}{os:List O}{l:List α}{o:O}{a:α}(h:Ows toD Q os l)(h1:o.str=true)(h2:o.toD=toD a)(h3:Q a):Ows toD Q (os++[o]) (l++[a]):=
 ⟨strs_snoc os o h.st h1,(by rw[zjl,h.ds,h2,zyG];rfl),(λb m=>(zzI.mp m).elim (h.al b) λm=>(by rw[zzN.mp m];exact h3)),(by rw[zzF,zzF,h.ln];rfl)⟩
theorem zwE{α:Type}{toD:α->D}{Q:α->Prop}{as:AS}{a:EF}{i:Nat}{os:List O}{l:List α}{x:α}(h:as[i]? = some (sN os))(ho:Ows toD Q os l)(hl:l.length<1000)(ha:WE a as (toD x))(hx:Q x):
 ∃os',Ows toD Q os' (l++[x])/\yV (xY i (dC a dN) wZ) as=some (.nx (as.set i (sN os'))):=by
 obtain⟨o,h1,h2,h3⟩:=ha;exact⟨os++[o],ho.snoc h2 h3 hx,znW h h1 h (by rw[ho.ln];exact xu (by omega))⟩
theorem Ows.retB{α:Type}{toD:α->D}{Q:α->Prop}{as:AS}{i:Nat}{os:List O}{l:List α}(h:as[i]? = some (sN os))(ho:Ows toD Q os l):Rt (yq (fV i) as) (.lst (l.map toD)):=
 ⟨_,zdF h ho.st,ho.st,congrArg D.lst ho.ds⟩
theorem atS{xs:List Int}(h:∀x ∈ xs,St x){k:Int}(h0:0<=k)(h1:k<xs.length):∃x,ixP (zO xs) (.int k)=some (.im (.int x))/\St x:=zvM h0 h1 h
abbrev abc:Str:="abcdefghijklmnopqrstuvwxyz"
theorem ztE:∀k,k<26->abc.cps.toList[k]? = some (97+k):=by decide +kernel
theorem zrz{i:Int}(h0:0<=i)(h1:i<26):ixP (.str abc) (.int i)=some (.im (.str ⟨#[97+i.toNat]⟩)):=by
 show(if abc.length<=sizeLine then(atI abc.cps.toList i).bind (λc=>some (R0.im (.str ⟨#[c]⟩)))else none)=_;rw[if_pos (show abc.length<=sizeLine by decide +kernel)];have:=Wr (ztE i.toNat (by omega));rw[show((i.toNat:Nat):Int)=i by omega]at this;rw[this];rfl
theorem zwt:∀l:List Str,(∀s ∈ l,s.length=1)->(l.map (·.length)).sum=l.length
 | [],_=>rfl
 |x::r,h=>by
  show x.length+(r.map (·.length)).sum=r.length+1;rw[h x (zzB ..),zwt r λs m=>h s (zS _ m)];omega
theorem len_app(a b:Str):(a++b).length=a.length+b.length:=by
 show(a++b).cps.size=a.cps.size+b.cps.size;rw[Str.cps_append,Array.size_append]
theorem zie:∀l:List Str,(∀s ∈ l,s.length=1)->(Str.join "" l).length=l.length
 | [],_=>rfl
 | [x],h=>h x (zzB ..)
 |x::y::r,h=>by
  show(x++""++Str.join "" (y::r)).length=_;rw[len_app,len_app,h x (zzB ..),zie (y::r) λs m=>h s (zS _ m)];show 1+0+(r.length+1)=r.length+1+1;omega
theorem add_str{a b:Str}(h:a.length+b.length<=1000):zr .Add (.str a) (.str b)=some (.im (.str (a++b))):=if_pos (szs (by omega))
abbrev nm(A B:Str)(x:Int)(k:Nat):Str:=A++⟨#[97+((x+3*(k:Int))%26).toNat]⟩++B
theorem zvC{A B:Str}{x:Int}{k j:Nat}(hk:k<10)(hj:j<10)(h:nm A B x k=nm A B x j):k=j:=by
 have h:=congrArg (λs:Str=>s.cps.toList) h;simp only[Str.cps_append,Array.toList_append,zyU,List.append_cancel_left_eq]at h;have h:=(List.append_cancel_right h);injection h with h
 omega
abbrev Lt(s:Str):Prop:=∀c ∈ s.cps.toList,97<=c/\c<123
abbrev zwP(s:Str):Prop:=1<=s.length/\s.length<=8/\Lt s
theorem Lt.app{a b:Str}(h:Lt a)(g:Lt b):Lt (a++b):=λc m=>by
 rw[Str.cps_append,Array.toList_append]at m;exact(zzI.mp m).elim (h c) (g c)
theorem znx:∀l:List Str,(∀s ∈ l,Lt s)->Lt (Str.join "" l)
 | [],_=>λ_ z=>nomatch z
 | [x],h=>h x (zzB ..)
 |x::y::r,h=>Lt.app (Lt.app (h x (zzB ..)) λ_ z=>nomatch z) (znx (y::r) λs m=>h s (zS _ m))
theorem Lt.slice{x:Str}(h:Lt x)(l u:Option Int):Lt (Txt.slice x l u):=by
 unfold Txt.slice
 split
 . exact h
 . intro c m;obtain⟨i,_,hi⟩:=List.mem_filterMap.mp (by simpa using m);exact h c (by rw[<-Array.getElem?_toList]at hi;exact zzU hi)
theorem zmc(x:Str)(l u:Option Int):(Txt.slice x l u).length<=(Builtin.Str.strSliceIndices l u 1 x.length).length:=by
 unfold Txt.slice
 split
 . rename_i h;simp at h;omega
 . show(List.filterMap _ (Builtin.Str.strSliceIndices l u 1 x.length)).toArray.size<=_;rw[zzD];exact List.length_filterMap_le _ _
theorem zwz{k:Int}{n:Nat}(h0:0<=k)(h1:k<n):(Builtin.Str.strSliceIndices none (some k) 1 n).length=k.toNat:=by
 unfold Builtin.Str.strSliceIndices sliceRange;simp only[show(1:Int) > 0 by decide,if_true,zD,zyO]
 split<;>(try split)<;>(try split)<;>(try simp only[Int.ediv_one])<;>omega
theorem ztD{k:Int}{n:Nat}(h0:0<=k)(h1:k<n):(Builtin.Str.strSliceIndices (some (k+1)) none 1 n).length=(n-k-1).toNat:=by
 unfold Builtin.Str.strSliceIndices sliceRange;simp only[show(1:Int) > 0 by decide,if_true,zD,zyO]
 split<;>(try split)<;>(try split)<;>(try simp only[Int.ediv_one])<;>omega
theorem zry{c:Int}:∃ss:List Str,ss.length=10/\ss.Nodup/\(∀s ∈ ss,zwP s)/\RE (ZF [(true,.int c),(true,.int (10:Nat))]) (.lst (ss.map D.str)):=by
 obtain⟨xs,hl,hx,ws⟩:=stE (as:=[sI c,sI (10:Nat),sT (.str abc),none,none,none,none,none]) (a:=fV 0) (b:=fC (.int 9)) (c:=c) (m:=9) (by omega) (WD.e (zc rfl)) (WD.e zf);obtain⟨x8,a8,_⟩:=atS hx (k:=8) (by omega) (by omega);have hk:(1+c%8).toNat<=9:=by omega
 have sl:WE (fSl (fV 3) oN (oS (f2 (fC (.int 1)) (f2 (fV 0) (fC (.int 8)) (zr .Mod)) (zr .Add))) slP) [sI c,sI (10:Nat),sT (.str abc),sT (zO xs),none,none,none,none] (.lst ((xs.take (1+c%8).toNat).map D.int)):=by
  refine zah (lo:=none) (hi:=some (1+c%8)) (WD.e (zc rfl)) rfl ?_ ?_
  . have:=wg (as:=[sI c,sI (10:Nat),sT (.str abc),sT (zO xs),none,none,none,none]) (zf (x:=.int 1)) (yJ (zc (i:=0) rfl) (zf (x:=.int 8)) (by decide));unfold oS;unfold WD at this;rw[this];rfl
  . have:=zmr (xs:=(xs.take (1+c%8).toNat).map D.int) (ys:=(xs.drop (1+c%8).toNat).map D.int);rw[<-zyG,List.take_append_drop,zD,zzO,Nat.min_eq_left (by omega),show(((1+c%8).toNat:Nat):Int)=1+c%8 by omega]at this;exact this
 obtain⟨l,l1,l2,l3⟩:=zsG D.str (Q:=λs=>s.length=1/\Lt s) (cap:=[none,some 2]) (g:=gN 0) (fe:=f2 (fV 1) (f2 (fV 0) (fC (.int 26)) (zr .Mod)) ixP) (zpG sl) (by rw[zD,zD,zzO];omega) λy m=>by
  rw[zzV]at m;obtain⟨z,_,rfl⟩:=zyV.mp m;exact⟨[sI z,sT (.str abc)],⟨#[97+(z%26).toNat]⟩,rfl,WD.e (yu (zc rfl) (yJ (zc rfl) zf (by decide)) (zrz (by omega) (by omega)) rfl),rfl,λq mq=>by
   rw[zzN.mp mq];have h0:=zyH z (show(26:Int)≠0 by decide);have h1:=zyB z (show(0:Int)<26 by decide);exact⟨by omega,by omega⟩⟩
 rw[zD,zD,zzO]at l1;have hb:(Str.join "" l).length=l.length:=zie l λs m=>(l2 s m).1;have hlt:Lt (Str.join "" l):=znx l λs m=>(l2 s m).2;have hm:WD (yF .str (fC (.str "")) (aC (yC (Z6 (fSl (fV 3) oN (oS (f2 (fC (.int 1)) (f2 (fV 0) (fC (.int 8)) (zr .Mod)) (zr .Add))) slP)) [none,some 2] (gN 0) xf (f2 (fV 1) (f2 (fV 0) (fC (.int 26)) (zr .Mod)) ixP)) aN) wH) [sI c,sI (10:Nat),sT (.str abc),sT (zO xs),none,none,none,none] true (.str (Str.join "" l)):=
  Xl zf rfl (Yh l3 zP) (by
   show(zdx (l.map D.str)).bind _=_;rw[zfX];show(if(l.map (·.length)).sum+l.length*0<=16777216 then some (R0.im (.str (Txt.join "" l)))else none)=_;rw[if_pos (by rw[zwt l λs m=>(l2 s m).1];omega),zlk]) rfl
 generalize Str.join "" l=base at hb hm hlt;have lb:(0:Int)<(base.length:Int):=by omega
 have lz:base.length<=sizeLine:=szs (by omega);have z0:=zyH (c/8) (show(base.length:Int)≠0 by omega);have z1:=zyB (c/8) lb;generalize hat:c/8%(base.length:Int)=at_ at z0 z1
 have lA:=Txt.slice_le base none (some at_);have lB:=Txt.slice_le base (some (at_+1)) none;have mA:=zmc base none (some at_);have mB:=zmc base (some (at_+1)) none;rw[zwz z0 z1]at mA;rw[ztD z0 z1]at mB;have tA:=hlt.slice none (some at_);have tB:=hlt.slice (some (at_+1)) none;have eA:slS (.str base) none (some at_)=some (.im (.str (Txt.slice base none (some at_)))):=if_pos lz;have eB:slS (.str base) (some (at_+1)) none=some (.im (.str (Txt.slice base (some (at_+1)) none))):=if_pos lz;generalize Txt.slice base none (some at_)=A at lA eA mA tA;generalize Txt.slice base (some (at_+1)) none=B at lB eB mB tB;have lo1:∀(f:EF) (as:AS) (k:Int),WD f as true (.int k)->oS f as=some (some k,as):=λf as k h=>by
  unfold oS;unfold WD at h;rw[h];rfl
 obtain⟨as',hf,os,e7,rfl,ho⟩:=zkP (g:=gN 7) (f:=yV (xY 6 (dC (f2 (f2 (fSl (fV 4) oN (oS (fV 5)) slS) (f2 (fV 2) (f2 (f2 (f2 (fV 3) (fC (.int 8)) ixP) (f2 (fC (.int 3)) (fV 7) (zr .Mult)) (zr .Add)) (fC (.int 26)) (zr .Mod)) ixP) (zr .Add)) (fSl (fV 4) (oS (f2 (fV 5) (fC (.int 1)) (zr .Add))) oN slS) (zr .Add)) dN) wZ))
  (λi as=>∃(os:List O) (e7:Option O),as=[sI c,sI (10:Nat),sT (.str abc),sT (zO xs),sT (.str base),sI at_,sN os,e7]/\Ows D.str (λ_=>True) os ((List.range i).map (nm A B x8)))
  (vg 0 10) 0 [sI c,sI (10:Nat),sT (.str abc),sT (zO xs),sT (.str base),sI at_,sN [],none] (λi x as hx' hI=>by
   obtain⟨os,e7,rfl,ho⟩:=hI;obtain⟨rfl,hi⟩:=zlW hx';rw[Nat.zero_add]at ho;have d1:=zrz (i:=(x8+3*((0:Int)+i))%26) (by omega) (by omega);have e0:(x8+3*((0:Int)+i))%26=(x8+3*(i:Int))%26:=by rw[Int.zero_add]
   obtain⟨os',o1,o2⟩:=zwE (as:=[sI c,sI (10:Nat),sT (.str abc),sT (zO xs),sT (.str base),sI at_,sN os,sI (0+i)]) (x:=nm A B x8 i) (i:=6) (toD:=D.str) (Q:=λ_=>True) (a:=f2 (f2 (fSl (fV 4) oN (oS (fV 5)) slS) (f2 (fV 2) (f2 (f2 (f2 (fV 3) (fC (.int 8)) ixP) (f2 (fC (.int 3)) (fV 7) (zr .Mult)) (zr .Add)) (fC (.int 26)) (zr .Mod)) ixP) (zr .Add)) (fSl (fV 4) (oS (f2 (fV 5) (fC (.int 1)) (zr .Add))) oN slS) (zr .Add)) rfl ho (by rw[zD,zyO];omega)
    (WD.e (yr (yr (zjc (zc (i:=4) rfl) rfl (lo1 _ _ _ (zc (i:=5) rfl)) eA) (yu (zc (i:=2) rfl) (yJ (wg (yu (zc (i:=3) rfl) zf a8 rfl) (WM zf (zc (i:=7) rfl) (yW (by decide) (by decide)) (yW (by omega) (by omega)))) zf (by decide)) d1 rfl) (add_str (by show A.length+1<=_;omega))) (zjc (zc (i:=4) rfl) (lo1 _ _ _ (wg (zc (i:=5) rfl) zf)) rfl eB) (by
     rw[e0];exact add_str (by rw[len_app];show A.length+1+B.length<=_;omega)))) trivial
   refine⟨[sI c,sI (10:Nat),sT (.str abc),sT (zO xs),sT (.str base),sI at_,sN os,sI (0+i)],rfl,_,o2,os',_,rfl, ?_⟩;rw[show 0+i+1=i+1 by omega,List.range_succ,zyG];exact o1)
  ⟨[],none,rfl,Ows.nil⟩
 rw[vD,Nat.zero_add]at ho;have s5:=zV (st:=true) (i:=5) (as:=[sI c,sI (10:Nat),sT (.str abc),sT (zO xs),sT (.str base),none,none,none]) (yJ (Zb (zc (i:=0) rfl) (zf (x:=.int 8)) (by decide) (yW (by decide) (by decide))) (wu (g:=wz) (x:=.int base.length) (zB (zc (i:=4) rfl) zP) (if_pos lz) rfl) lb) (zG rfl);rw[hat]at s5;refine⟨(List.range 10).map (nm A B x8),by rw[zD,zyO], ?_,λs ms=>?_,zwB rfl (zel (zV (i:=2) zf (zG rfl)) (zel (Yi (p:=3) ws (zG rfl)) (zel (zV (i:=4) hm (zG rfl)) (zel s5 (zel (vL (i:=6) (Z1 yp (szl rfl)) (zG rfl)) (zel (ZM (wK (zB (zc rfl) zP) (by decide) (by decide)) hf) (Ows.retB (i:=6) rfl ho)))))))⟩
 . exact List.pairwise_map.mpr ((List.nodup_range (n:=10)).imp_of_mem λha hb hne he=>hne (zvC (List.mem_range.mp ha) (List.mem_range.mp hb) he))
 . obtain⟨i,_,rfl⟩:=zyV.mp ms;have h0:=zyH (x8+3*(i:Int)) (show(26:Int)≠0 by decide);have h1:=zyB (x8+3*(i:Int)) (show(0:Int)<26 by decide);refine⟨?_, ?_,Lt.app (Lt.app tA λq mq=>by rw[zzN.mp mq];exact⟨by omega,by omega⟩) tB⟩
   . rw[len_app,len_app];show 1<=A.length+1+B.length;omega
   . rw[len_app,len_app];show A.length+1+B.length<=8;omega
theorem znR{as as1:AS}{fr:DF}{os:List O}(h:fr as=some (os,as1))(hl:os.length<=sizeLine):Yg fr as=some (.ow (Vh os),as1):=by
 unfold Yg;rw[h];show(if os.length<=sizeLine then _ else _)=_;rw[if_pos hl]
theorem zfF{ns:List Int}{k:Int}{s t:Bool}(hk:0<=k):∃x,zK [(s,.lst (ns.map .int)),(t,.int k)]=some (.lf true (.int x)):=by
 by_cases h:k<ns.length
 . obtain⟨x,e⟩:=zth hk h;exact⟨x,ym rfl (v6 (wX (zH (Wf (zc rfl) (zex rfl)) (by rw[zD,zyI h];rfl)) (yf (yu (zc rfl) (zc rfl) e rfl))))⟩
 . exact⟨0,ym rfl (zu (yh (zH (Wf (zc rfl) (zex rfl)) (by rw[zD,zyA h];rfl)) rfl) (yf zf))⟩
abbrev D10(ns:List Int)(n:Int)(m:Nat)(nm:List Str)(Ds:List Dd)(e6 e7 e8 e9:Option O):AS:=
 [some (.lf true (zO ns)),some (.lf true (.int n)),some (.lf true (.int m)),some (.lf true (lsD nm)),some (.nd .ls (Ds.map λp=>O.lf true (yH p))),some (.nd .ls (Ds.map λp=>tO (lD p))),e6,e7,e8,e9]
abbrev deB:SF:=(zJ (zU true 7 (f2 (zA (aC (zA (aC (fV 0) (aC (f2 (fC (.int 3)) (fV 6) (zr .Add)) aN)) zK) (aC (fC (.int 1)) aN)) yt) (fC (.int 0)) ixP))
 (zJ (zU true 8 (zA (aC (f2 (fV 7) (fC (.int 2)) (zr .FloorDiv)) aN) xV))
 (zJ (sIf (fT (f2 (f2 (f2 (fV 7) (fC (.int 2)) (zr .FloorDiv)) (fC (.int 2)) (zr .Mod)) (fC (.int 1)) (zY .Eq))) (zU true 8 (zA (aC (zA (aC (fV 0) (aC (f2 (fC (.int 3)) (fV 6) (zr .Add)) aN)) zK) (aC (xX (dC (fC (.str "a")) (dC (fC (.str "c")) dN))) aN)) wQ)) sNx)
 (zJ (zU true 9 (yC (vf (aC (fV 2) aN) vY) [none,some 8,some 1] (gN 0) xf (yC (vf (aC (fV 2) aN) vY) [none,some 1,some 2,some 0] (gN 0) xf (zA (aC (fV 1) (aC (fV 2) (aC (Ww [((fC (.str "a")),(fV 0)),((fC (.str "c")),(fV 3))]) aN))) xx))))
 (zJ (yV (xY 4 (dC (Yg (dC (f2 (fV 3) (fV 6) ixP) (dC (fV 9) dN))) dN) wZ))
 (yV (xY 5 (dC (f2 (f2 (f2 (fC (.str "deed ")) (f2 (fV 3) (fV 6) ixP) (zr .Add)) (fC (.str " ")) (zr .Add)) (f2 (xX (dC (fV 8) (dC (f2 (fC (.str "rows ")) (zA (aC (fV 9) aN) yz) (zr .Add)) dN))) (f2 (fV 7) (fC (.int 2)) (zr .Mod)) ixP) (zr .Add)) dN) wZ)))))))
theorem zwy{t:Tm}(ok:t.ko):10 ∉ (S t).cps.toList:=λhm=>by
 rcases mem_join hm with hm|⟨w,mw,hm⟩
 . exact absurd hm (by decide)
 . have key:∀{t:Tm},t.ko->∀w ∈ wds t,10 ∉ w.cps.toList:=by
    intro t
    induction t with
    |num v=>intro ok w mw;rw[zzN.mp mw];exact zkV ok.1 (by decide)
    |nam x=>
     intro ok w mw;rw[zzN.mp mw];have ok:isNm x:=ok
     rcases ok with rfl|rfl|rfl<;>decide +kernel
    |op o x y ix iy=>
     intro ok w mw
     rcases zI.mp mw with rfl|mw
     . have ok:=ok.1
       rcases ok with rfl|rfl|rfl|rfl|rfl<;>decide +kernel
     . rcases zzI.mp mw with mw|mw
       . exact ix ok.2.1 w mw
       . exact iy ok.2.2 w mw
    |sm x y z u ix iy iz iu=>
     intro ok w mw
     rcases zI.mp mw with rfl|mw
     . decide +kernel
     . rcases zzI.mp mw with mw|mw
       . exact ix ok.1 w mw
       rcases zzI.mp mw with mw|mw
       . exact iy ok.2.1 w mw
       rcases zzI.mp mw with mw|mw
       . exact iz ok.2.2.1 w mw
       . exact iu ok.2.2.2 w mw
   exact key ok w mw hm
theorem ztx{n:Int}{T:List (List Int)}(hT:∀r ∈ T,In n r):10 ∉ (("rows ":Str)++tT T).cps.toList:=W5 (by decide +kernel) λhm=>by have:=zoc hT hm;omega
theorem zxx{s t:Str}{x:Int}:∃X,(X=s\/X=t)/\ixP (.lst [.str s,.str t]) (.int (x%2))=some (.im (.str X)):=by
 rcases(show x%2=0\/x%2=1 by omega)with e|e<;>rw[e]
 . exact⟨s,.inl rfl,rfl⟩
 . exact⟨t,.inr rfl,rfl⟩
theorem zpj{ns:List Int}{n:Int}{m:Nat}{nm:List Str}{Ds:List Dd}{k:Nat}{x:Str}{e7 e8 e9:Option O}(hn:1<=n)(hn2:n<=8)(hm:1<=m)(hm2:m<=6)(hk:nm[k]? = some x)(hN:Nm x)(hk9:k<=9)(hl:Ds.length=k):
 ∃(p:Dd) (f7 f8 f9:Option O),p.1=x/\zft n m p/\10 ∉ p.2.1.cps.toList/\deB (D10 ns n m nm Ds (some (lfI k)) e7 e8 e9)=some (.nx (D10 ns n m nm (Ds++[p]) (some (lfI k)) f7 f8 f9)):=by
 obtain⟨c,hc⟩:=zfF (ns:=ns) (k:=3+(k:Int)) (s:=true) (t:=true) (by omega);have hcw:∀as:AS,as[0]? = some (some (.lf true (zO ns)))->as[6]? = some (some (lfI k))->WD (zA (aC (fV 0) (aC (f2 (fC (.int 3)) (fV 6) (zr .Add)) aN)) zK) as true (.int c):=λas h0 h6=>xW (ve h0) (wg zf (zc h6)).e hc;obtain⟨xs,h1,h2,h3⟩:=stE (as:=D10 ns n m nm Ds (some (lfI k)) e7 e8 e9) (c:=c) (m:=1) (by decide) (hcw _ rfl rfl).e (ce (x:=.int (1:Nat)));obtain⟨y,g0,_⟩:=atS h2 (k:=0) (by decide) (by omega);have s7:zU true 7 (f2 (zA (aC (zA (aC (fV 0) (aC (f2 (fC (.int 3)) (fV 6) (zr .Add)) aN)) zK) (aC (fC (.int 1)) aN)) yt) (fC (.int 0)) ixP) (D10 ns n m nm Ds (some (lfI k)) e7 e8 e9)=some (.nx (D10 ns n m nm Ds (some (lfI k)) (some (lfI y)) e8 e9)):=zV (i:=7) (f2E h3 ce g0) (zG rfl);obtain⟨s,hs,e8'⟩:=zkv (x:=y/2);have s8:zU true 8 (zA (aC (f2 (fV 7) (fC (.int 2)) (zr .FloorDiv)) aN) xV) (D10 ns n m nm Ds (some (lfI k)) (some (lfI y)) e8 e9)=some (.nx (D10 ns n m nm Ds (some (lfI k)) (some (lfI y)) (some (tO s)) e9)):=zV (i:=8) (vH (Zb (zc (i:=7) rfl) zf (by decide) (yW (by decide) (by decide))).e e8') (zG rfl);have s9:∃t:Tm,t.ok "c"/\t.ht<=13/\t.cnt<=40/\sIf (fT (f2 (f2 (f2 (fV 7) (fC (.int 2)) (zr .FloorDiv)) (fC (.int 2)) (zr .Mod)) (fC (.int 1)) (zY .Eq))) (zU true 8 (zA (aC (zA (aC (fV 0) (aC (f2 (fC (.int 3)) (fV 6) (zr .Add)) aN)) zK) (aC (xX (dC (fC (.str "a")) (dC (fC (.str "c")) dN))) aN)) wQ)) sNx (D10 ns n m nm Ds (some (lfI k)) (some (lfI y)) (some (tO s)) e9)=some (.nx (D10 ns n m nm Ds (some (lfI k)) (some (lfI y)) (some (tO (S t))) e9)):=by
  have hw:WD (f2 (f2 (f2 (fV 7) (fC (.int 2)) (zr .FloorDiv)) (fC (.int 2)) (zr .Mod)) (fC (.int 1)) (zY .Eq)) (D10 ns n m nm Ds (some (lfI k)) (some (lfI y)) (some (tO s)) e9) true (.bl (y/2%2==1)):=yG (yJ (Zb (zc (i:=7) rfl) zf (by decide) (yW (by decide) (by decide))) zf (by decide)) zf rfl;cases hq:(y/2%2==1)
  . obtain⟨t,t1,t2,t3,rfl⟩:=hs;rw[hq]at hw;exact⟨t,t1,t2,t3,yh (zH hw rfl) rfl⟩
  . rw[hq]at hw;obtain⟨s',⟨t,t1,t2,t3,rfl⟩,e⟩:=zoB (c:=c) (p:="c") (.inr rfl);exact⟨t,t1,t2,t3,wX (zH hw rfl) (zV (i:=8) (xW (hcw _ rfl rfl).e (xR (zF zf (zF zf yp)) (szl rfl) rfl rfl) e) (zG rfl))⟩
 obtain⟨t,t1,t2,t3,s9⟩:=s9;have hT:=zrw (n:=n) (m:=m) (t:=t) hn;have hTs:=zfp hn2 (by omega) hT;have s10:=Yi (p:=9) (zrT (as:=D10 ns n m nm Ds (some (lfI k)) (some (lfI y)) (some (tO (S t))) e9) (cap:=[none,some 8,some 1]) (m:=m) (fm:=fV 2) hn hn2 (by omega) t1 (by omega) (by omega) (ve rfl) rfl) (zG rfl);obtain⟨X,hX,gX⟩:=zxx (s:=S t) (t:=("rows ":Str)++tT (Yj n m t)) (x:=y);have ko:=Wm (.inr rfl) t1;have lS:=zix ko;have lT:=XD hTs;have lr:("rows ":Str).length=5:=by decide +kernel
 have lXr:(("rows ":Str)++tT (Yj n m t)).length<=5005:=by rw[zX];omega
 have lX:X.length<=10000:=by rcases hX with rfl|rfl<;>omega
 have hD:DT n m X (Yj n m t):=by
  rcases hX with rfl|rfl
  . exact ztc hn hn2 (by omega) t1 t2 t3
  . exact zow hn hn2 hm (by omega) hT
 have nX:10 ∉ X.cps.toList:=by
  rcases hX with rfl|rfl
  . exact zwy ko
  . exact ztx λr mr=>(hT.2 r mr).2
 have l5:("deed ":Str).length=5:=by decide +kernel
 have l6:(" ":Str).length=1:=zhQ;have lN:=hN.2.1;have hnm:∀as:AS,as[3]? = some (some (.lf true (lsD nm)))->as[6]? = some (some (lfI k))->WD (f2 (fV 3) (fV 6) ixP) as true (.str x):=λas h3 h6=>yr (zc h3) (zc h6) (zca (by rw[zzE,hk];rfl));refine⟨(x,X,Yj n m t),some (lfI y),some (tO (S t)),some (.lf true (.lst ((Yj n m t).map zO))),rfl,⟨hN,lX,hT,hD⟩,nX, ?_⟩;have a1:=Yo (as:=D10 ns n m nm Ds (some (lfI k)) (some (lfI y)) (some (tO (S t))) (some (.lf true (.lst ((Yj n m t).map zO))))) (i:=4) (os:=Ds.map λp=>O.lf true (yH p)) rfl (by rw[zD];exact xu (by omega)) (zbT (ds:=[.str x,.lst ((Yj n m t).map zO)]) (os:=[.lf true (.str x),.lf true (.lst ((Yj n m t).map zO))]) (zF (hnm _ rfl rfl) (zF (zc (i:=9) rfl) yp)) (szl rfl) rfl rfl rfl);have z1:(Ds.map λp=>O.lf true (yH p))++[O.lf true (.tup [.str x,.lst ((Yj n m t).map zO)])]=(Ds++[(x,X,Yj n m t)]).map λp=>O.lf true (yH p):=by rw[zyG];rfl
 rw[z1]at a1;have a2:=Yo (as:=[some (.lf true (zO ns)),some (.lf true (.int n)),some (.lf true (.int m)),some (.lf true (lsD nm)),some (.nd .ls ((Ds++[(x,X,Yj n m t)]).map λp=>O.lf true (yH p))),some (.nd .ls (Ds.map λp=>tO (lD p))),some (lfI k),some (lfI y),some (tO (S t)),some (.lf true (.lst ((Yj n m t).map zO)))]) (i:=5) (os:=Ds.map λp=>tO (lD p)) rfl (by rw[zD];exact xu (by omega))
  (Zu (Zu (Zu (u:=("deed ":Str)) (v:=x) ce (hnm _ rfl rfl).e (by omega)).e (ce (x:=.str (" ":Str))) (by rw[zX];omega)).e (f2E (xR (os:=[tO (S t),tO (("rows ":Str)++tT (Yj n m t))]) (zF (zc (i:=8) rfl) (zF (Zu ce (vH (ve (i:=9) rfl) (zhg hTs)).e (by omega)) yp)) (szl rfl) rfl rfl) (yJ (zc (i:=7) rfl) zf (by decide)).e gX).e (by simp only[zX];omega))
 have z2:(Ds.map λp=>tO (lD p))++[O.lf true (.str (("deed ":Str)++x++(" ":Str)++X))]=(Ds++[(x,X,Yj n m t)]).map λp=>tO (lD p):=by rw[zyG];rfl
 rw[z2]at a2;exact zu s7 (zu s8 (zu s9 (zu s10 (zu a1 a2))))
theorem zgQ{ns:List Int}{n:Int}{m:Nat}{nm:List Str}(hn:1<=n)(hn2:n<=8)(hm:1<=m)(hm2:m<=6)(hN:∀x ∈ nm,Nm x)(hl:nm.length<=6):∀(j:Nat) (Ds:List Dd) (e6 e7 e8 e9:Option O),Ds.length+j=nm.length->Ds.map (·.1)=nm.take Ds.length->(∀p ∈ Ds,zft n m p/\10 ∉ p.2.1.cps.toList)->
 ∃(Ds':List Dd) (f6 f7 f8 f9:Option O),Ds'.map (·.1)=nm/\(∀p ∈ Ds',zft n m p/\10 ∉ p.2.1.cps.toList)/\forL (gN 6) deB (vg Ds.length j) (D10 ns n m nm Ds e6 e7 e8 e9)=some (.nx (D10 ns n m nm Ds' f6 f7 f8 f9))
 |0,Ds,e6,e7,e8,e9,h,hm1,ho=>⟨Ds,e6,e7,e8,e9,by rw[hm1,List.take_of_length_le (by omega)],ho,rfl⟩
 |j+1,Ds,e6,e7,e8,e9,h,hm1,ho=>by
  have hk:Ds.length<nm.length:=by omega
  obtain⟨p,f7,f8,f9,q1,q2,q3,q4⟩:=zpj (ns:=ns) (m:=m) (nm:=nm) (Ds:=Ds) (k:=Ds.length) (e7:=e7) (e8:=e8) (e9:=e9) hn hn2 hm hm2 (zzA hk) (hN _ (zyR hk)) (by omega) rfl;obtain⟨Ds',g6,g7,g8,g9,r1,r2,r3⟩:=zgQ (ns:=ns) (m:=m) hn hn2 hm hm2 hN hl j (Ds++[p]) (some (lfI Ds.length)) f7 f8 f9 (by simp;omega) (by rw[zyG,hm1,zzF];show _++[p.1]=nm.take (Ds.length+1);rw[q1,List.take_add_one,zzA hk];rfl) (λq mq=>by
   rcases zzI.mp mq with mq|mq
   . exact ho q mq
   . rw[zzN.mp mq];exact⟨q2,q3⟩)
  refine⟨Ds',g6,g7,g8,g9,r1,r2, ?_⟩;rw[wC];rw[show((Ds++[p]).length:Int)=(Ds.length:Int)+1 by simp]at r3;exact xg (as1:=D10 ns n m nm Ds (some (lfI Ds.length)) e7 e8 e9) rfl q4 r3
theorem zrJ{ns:List Int}{n:Int}{m:Nat}{nm:List Str}(hn:1<=n)(hn2:n<=8)(hm:1<=m)(hm2:m<=6)(hN:∀x ∈ nm,Nm x)(hl:nm.length<=6):∃Ds:List Dd,Ds.map (·.1)=nm/\(∀p ∈ Ds,zft n m p/\10 ∉ p.2.1.cps.toList)/\RE (ZL [(true,zO ns),(true,.int n),(true,.int m),(true,lsD nm)]) (.tup [.lst (Ds.map yH),lsD (Ds.map lD)]):=by
 obtain⟨Ds,f6,f7,f8,f9,r1,r2,r3⟩:=zgQ (ns:=ns) (m:=m) (nm:=nm) hn hn2 hm hm2 hN hl nm.length [] none none none none (by simp) rfl (λp mp=>nomatch mp);refine⟨Ds,r1,r2,⟨Vh [.lf (O.strs (Ds.map λp=>O.lf true (yH p))) (.lst (O.toDs (Ds.map λp=>O.lf true (yH p)))),.lf (O.strs (Ds.map λp=>tO (lD p))) (.lst (O.toDs (Ds.map λp=>tO (lD p))))],ym rfl (zu (vL (i:=4) (Z1 yp (by decide)) (zG rfl)) (zu (vL (i:=5) (Z1 yp (by decide)) (zG rfl)) (zu (as1:=D10 ns n m nm Ds f6 f7 f8 f9) (ZM (wK (j:=(nm.map D.str).length) (zB (zex rfl) zP) (by omega) (by rw[zD];omega)) ?_) (zdz (znR (os:=[.lf (O.strs (Ds.map λp=>O.lf true (yH p))) (.lst (O.toDs (Ds.map λp=>O.lf true (yH p)))),.lf (O.strs (Ds.map λp=>tO (lD p))) (.lst (O.toDs (Ds.map λp=>tO (lD p))))]) rfl (szl rfl)) ?_)))), ?_, ?_⟩⟩
 . rw[zD,show((nm.length:Nat):Int).toNat=nm.length by omega];exact r3
 . rw[znf];show(O.strs _&&(O.strs _&&true))=true;rw[Wq yH,Wq (λp=>D.str (lD p))];rfl
 . rw[znf];show(O.strs _&&(O.strs _&&true))=true;rw[Wq yH,Wq (λp=>D.str (lD p))];rfl
 . rw[zqd];show D.tup [.lst (O.toDs _),.lst (O.toDs _)]=_;rw[zcs yH,zcs (λp=>D.str (lD p)),<-zte]
def rI:Nat->Int->List Int
 |0,_=>[]
 |n+1,k=>k::rI n (k+1)
theorem zns:∀{n:Nat}{k v:Int},v ∈ rI n k->k<=v/\v<k+n
 |n+1,k,v,h=>by
  rcases zI.mp h with rfl|h
  . exact⟨by omega,by omega⟩
  . have:=zns h;exact⟨by omega,by omega⟩
theorem zuw:∀(n:Nat) (k:Int),(rI n k).Pairwise (· < ·)
 |0,_=>.nil
 |n+1,k=>.cons (λv h=>by have:=zns h;omega) (zuw n (k+1))
theorem zqJ:∀(n:Nat) (k:Int),(rI n k).length=n
 |0,_=>rfl
 |n+1,k=>congrArg (· + 1) (zqJ n (k+1))
theorem zil{tt:TF}{as0:AS}{P:Int->Bool}{hi:Int}(H:∀v:Int,0<=v->v<hi->∃as1,gN 0 (true,.int v) as0=some as1/\WT tt as1 (P v)/\as1[0]? = some (some (lfI v))):∀(n:Nat) (k:Int),0<=k->k+n<=hi->xT (gN 0) tt (fV 0) as0 (vg k n)=some (((rI n k).filter P).map lfI)
 |0,_,_,_=>rfl
 |n+1,k,h0,h1=>by
  obtain⟨as1,g1,g2,g3⟩:=H k h0 (by omega);rw[wC];have ih:=zil H n (k+1) (by omega) (by omega);show xT _ _ _ _ _=some (((k::rI n (k+1)).filter P).map lfI);cases hp:P k
  . rw[hp]at g2;rw[List.filter_cons_of_neg (by rw[hp];decide)];exact zpz g1 g2 ih
  . rw[hp]at g2;rw[List.filter_cons_of_pos hp];exact zoP g1 g2 (zc g3) ih
abbrev L8:List Int:=[1,2,4,8,16,32,64,128]
theorem zwd{v:Int}(h0:0<=v)(h1:v<8):∃d:Int,0<d/\d<=128/\L8[v.toNat]? = some d/\ixP (.lst (L8.map D.int)) (.int v)=some (.im (.int d)):=by
 have hk:v.toNat<L8.length:=by show v.toNat<8;omega
 have e:=zzA hk;have hm:∀d ∈ L8,0<d/\d<=128:=by decide
 refine⟨L8[v.toNat],(hm _ (zyR hk)).1,(hm _ (zyR hk)).2,e, ?_⟩;have:=zca (ds:=L8.map D.int) (k:=v.toNat) (x:=D.int L8[v.toNat]) (by rw[zzE,e];rfl)
 rwa [show((v.toNat:Nat):Int)=v by omega]at this
abbrev zwg:TF:=(fT (f2 (f2 (f2 (f2 (fV 1) (f2 (fC (.int 2)) (fV 2) (zr .Add)) ixP) (f2 (xX (dC (fC (.int 1)) (dC (fC (.int 2)) (dC (fC (.int 4)) (dC (fC (.int 8)) (dC (fC (.int 16)) (dC (fC (.int 32)) (dC (fC (.int 64)) (dC (fC (.int 128)) dN))))))))) (fV 0) ixP) (zr .FloorDiv)) (fC (.int 2)) (zr .Mod)) (fC (.int 1)) (zY .Eq)))
theorem zsP{as:AS}{cap:List (Option Nat)}{fn:EF}{n:Int}{k:Nat}{xs:List Int}{x:Int}(hn:1<=n)(hn2:n<=8)(hf:WE fn as (.int n))(hcap:WY cap as=[none,some (.lf true (zO xs)),some (lfI k)])(hx:ixP (zO xs) (.int (2+(k:Int)))=some (.im (.int x))):
 ∃r:List Int,r.length<=8/\In n r/\(∀(j:Nat) (h:j+1<r.length),r[j]<r[j+1])/\WE (yC (vf (aC fn aN) vY) cap (gN 0) zwg (fV 0)) as (zO r):=by
 let P:Int->Bool:=λv=>x/((L8[v.toNat]?).getD 1)%2==1;have hc:=zil (tt:=zwg) (as0:=[none,some (.lf true (zO xs)),some (lfI k)]) (P:=P) (hi:=n) (λv h0 h1=>by
  obtain⟨d,d0,d1,d2,d3⟩:=zwd (v:=v) h0 (by omega);refine⟨[some (lfI v),some (.lf true (zO xs)),some (lfI k)],rfl, ?_,rfl⟩;have hw:=yG (as:=[some (lfI v),some (.lf true (zO xs)),some (lfI k)]) (yJ (Zb (yu (zc (i:=1) rfl) (wg zf (zc (i:=2) rfl)) hx rfl) (f2E (xR (os:=L8.map lfI) (zF zf (zF zf (zF zf (zF zf (zF zf (zF zf (zF zf (zF zf yp)))))))) (szl rfl) rfl rfl) (ve (i:=0) rfl) d3) d0 (yW (by omega) (by omega))) (zf (x:=.int 2)) (by decide)) (zf (x:=.int 1)) rfl;have e:P v=(x/d%2==1):=by show(x/((L8[v.toNat]?).getD 1)%2==1)=_;rw[d2];rfl
  rw[e];exact zH hw rfl) n.toNat 0 (by omega) (by omega)
 have hsub:((rI n.toNat 0).filter P).Sublist (rI n.toNat 0):=List.filter_sublist;refine⟨(rI n.toNat 0).filter P, ?_,λv mv=>?_,λj hj=>?_,⟨_,wN (wK (Yh hf zP) (by omega) (by omega)) (by rw[vD];exact szs (by omega)) (by rw[hcap];exact hc),(zdM _).1,(zdM _).2⟩⟩
 . have:=hsub.length_le;rw[zqJ]at this;omega
 . have:=zns (hsub.subset mv);exact⟨by omega,by omega⟩
 . exact List.pairwise_iff_getElem.mp ((zuw n.toNat 0).sublist hsub) j (j+1) (by omega) hj (by omega)
abbrev sgB:SF:=(yV (xY 10 (dC (Yg (dC (f2 (fV 5) (f2 (fC (.int 6)) (fV 11) (zr .Add)) ixP) (dC (yC (vf (aC (fV 2) aN) vY) [none,some 4,some 11] (gN 0) zwg (fV 0)) dN))) dN) wZ))
abbrev Y14(ns:List Int)(c n:Int)(m:Nat)(xs:List Int)(nm:List Str)(X:Str)(T:List (List Int))(Ds:List Dd)(os:List O)(e11:Option O):AS:=
 [some (.lf true (zO ns)),some (lfI c),some (lfI n),some (lfI m),some (.lf true (zO xs)),some (.lf true (lsD nm)),some (tO X),some (.lf true (.lst (T.map zO))),some (.lf true (.lst (Ds.map yH))),some (.lf true (lsD (Ds.map lD))),some (.nd .ls os),e11,none,none]
theorem zgi{ns:List Int}{c n:Int}{m:Nat}{xs:List Int}{nm:List Str}{X:Str}{T:List (List Int)}{Ds:List Dd}(hn:1<=n)(hn2:n<=8)(hx:∀x ∈ xs,St x)(hxl:xs.length=7)(hnl:nm.length=10)(hN:∀x ∈ nm,Nm x):∀(j:Nat) (Ss:List Sd) (os:List O) (e11:Option O),Ss.length+j<=4->Ows xM (zfs n) os Ss->Ss.map (·.1)=(nm.drop 6).take Ss.length->
 ∃(Ss':List Sd) (os':List O) (f11:Option O),Ss'.length=Ss.length+j/\Ows xM (zfs n) os' Ss'/\Ss'.map (·.1)=(nm.drop 6).take Ss'.length/\forL (gN 11) sgB (vg Ss.length j) (Y14 ns c n m xs nm X T Ds os e11)=some (.nx (Y14 ns c n m xs nm X T Ds os' f11))
 |0,Ss,os,e11,h,ho,hm1=>⟨Ss,os,e11,rfl,ho,hm1,rfl⟩
 |j+1,Ss,os,e11,h,ho,hm1=>by
  obtain⟨x,gx,_⟩:=atS hx (k:=2+(Ss.length:Int)) (by omega) (by omega);obtain⟨r,r1,r2,r3,r4⟩:=zsP (as:=Y14 ns c n m xs nm X T Ds os (some (lfI Ss.length))) (cap:=[none,some 4,some 11]) (fn:=fV 2) (k:=Ss.length) hn hn2 (ve rfl) rfl gx;have hk:6+Ss.length<nm.length:=by omega
  have e6:(6:Int)+(Ss.length:Int)=((6+Ss.length:Nat):Int):=by omega
  have hw:WD (f2 (fV 5) (f2 (fC (.int 6)) (fV 11) (zr .Add)) ixP) (Y14 ns c n m xs nm X T Ds os (some (lfI Ss.length))) true (.str nm[6+Ss.length]):=yr (zc rfl) (wg zf (zc rfl)) (by rw[e6];exact zca (by rw[zzE,zzA hk];rfl));obtain⟨os',o1,o2⟩:=zwE (as:=Y14 ns c n m xs nm X T Ds os (some (lfI Ss.length))) (i:=10) (toD:=xM) (Q:=zfs n) (x:=(nm[6+Ss.length],r)) rfl ho (by omega) (zoL hw r4) ⟨hN _ (zyR hk),r1,r2,r3⟩;obtain⟨Ss',os2,f11,q1,q2,q3,q4⟩:=zgi (ns:=ns) (c:=c) (m:=m) (X:=X) (T:=T) (Ds:=Ds) hn hn2 hx hxl hnl hN j (Ss++[(nm[6+Ss.length],r)]) os' (some (lfI Ss.length)) (by simp;omega) o1 (by
   rw[zyG,hm1,zzF];show _++[nm[6+Ss.length]]=(nm.drop 6).take (Ss.length+1);rw[List.take_add_one,List.getElem?_drop,zzA hk];rfl)
  refine⟨Ss',os2,f11,by rw[q1];simp;omega,q2,q3, ?_⟩;rw[wC];rw[show((Ss++[(nm[6+Ss.length],r)]).length:Int)=(Ss.length:Int)+1 by simp]at q4;exact xg (as1:=Y14 ns c n m xs nm X T Ds os (some (lfI Ss.length))) rfl o2 q4
section
variable{as:AS}{a b c d:EF}{x y z w:D}
theorem zuE{v:D}{g:List (Bool×D)->Option O}(ha:WE a as x)(hb:WE b as y)(hc:WE c as w)(hd:WE d as z)(hg:RE (g [(true,x),(true,y),(true,w),(true,z)]) v):WE (zA (aC a (aC b (aC c (aC d aN)))) g) as v:=by
 obtain⟨o,h1,h2,h3⟩:=hg;exact⟨o,We (Yh ha (Yh hb (Yh hc (Yh hd zP)))) (by show g [(ye x||true,x),(ye y||true,y),(ye w||true,w),(ye z||true,z)]=_;simp only[zzX];exact h1),h2,h3⟩
theorem zpP{o:O}{g:List (Bool×D)->Option O}(ha:WE a as x)(hg:g [(true,x)]=some o):zA (aC a aN) g as=some (.ow o,as):=
 We (Yh ha zP) (by show g [(ye x||true,x)]=_;rw[zzX];exact hg)
theorem dcB{i:Nat}{os:List O}{ds:List D}(h:as[i]? = some (some (.nd .ls os)))(h1:O.strs os=true)(h2:O.toDs os=ds):dC (fV i) dN as=some ([.lf true (.lst ds)],as.set i (some (.lf true (.lst ds)))):=by
 have e:(O.nd .ls os).frz = .lf true (.lst ds):=by show O.lf (O.strs os) (.lst (O.toDs os))=_;rw[h1,h2]
 unfold dC;rw[zjj h];show(toO as (.bo i)).bind _=_;rw[zvz h,e];rfl
theorem oSE{f:EF}{k:Int}(h:WD f as true (.int k)):oS f as=some (some k,as):=by
 unfold oS;unfold WD at h;rw[h];rfl
theorem ztk{i:Nat}{k:Nat}{f:EF}{s:Str}{os:List O}{o:D}{st:Bool}(hf:WD f as true (.str s))(h:as[i]? = some (some (.nd .ls os)))(hk:os[k]? = some (.lf st o)):ziZ i (xC k) f as=some (.nx (as.set i (some (.nd .ls (os.set k (.lf true (.str s))))))):=by
 unfold ziZ;unfold WD at hf;rw[hf];show(if(0:Int)<=(k:Int)then(slO zrx as i).bind _ else none)=_;rw[if_pos (by omega)];have e1:slO zrx as i=some os:=by unfold slO;rw[h];rfl
 rw[e1];show(atO zqD os (k:Int).toNat).bind _=_;have e2:atO zqD os (k:Int).toNat=some o:=by unfold atO;rw[show(k:Int).toNat=k by omega,hk];rfl
 rw[e2];show some (Out.nx (as.set i (some (.nd .ls (os.set (k:Int).toNat _)))))=_;rw[show(k:Int).toNat=k by omega]
end
theorem zmj{l:List D}{k:Nat}(h:k<=l.length):cutD l none (some (k:Int))=l.take k:=by
 have:=zmr (xs:=l.take k) (ys:=l.drop k);rw[List.take_append_drop,zzO,Nat.min_eq_left h]at this;injection this with this
 injection this
theorem zrc{l:List D}{k:Nat}(h:k<=l.length):cutD l (some (k:Int)) none=l.drop k:=by
 have:=Vc (xs:=l.take k) (ys:=l.drop k);rw[List.take_append_drop,zzO,Nat.min_eq_left h]at this;injection this with this
 injection this
theorem zue{s:Str}(h:zwP s):Nm s:=⟨h.1,h.2.1,λc mc=>⟨(h.2.2 c mc).1,by have:=(h.2.2 c mc).2;omega⟩⟩
theorem zsK(n:Int)(m:Nat)(X:Str)(e:Int)(Ds:List Dd)(Ss:List Sd):(lns n m X e (Ds.map rw1) Ss).take 3++Ds.map lD++(lns n m X e (Ds.map rw1) Ss).drop (3+Ds.length)=lns n m X e Ds Ss:=by
 have e1:(lns n m X e (Ds.map rw1) Ss).drop (3+Ds.length)=Ss.map lS:=by
  unfold lns;rw[show 3+Ds.length=Ds.length+1+1+1 by omega,List.drop_succ_cons,List.drop_succ_cons,List.drop_succ_cons,List.drop_append_of_le_length (by simp),List.drop_of_length_le (by simp)];rfl
 rw[e1];unfold lns;simp
theorem zqm(ns:List Int):∃(n:Int) (m:Nat) (X:Str) (T:List (List Int)) (e:Int) (Ds:List Dd) (Ss:List Sd),AOk n m X T e Ds Ss/\RE (Xc [(true,zO ns)]) (.tup [Ys n m T e Ds Ss,lsD (lns n m X e Ds Ss)]):=by
 obtain⟨c,hc⟩:=zfF (ns:=ns) (k:=0) (s:=true) (t:=true) (by decide);obtain⟨c1,hc1⟩:=zfF (ns:=ns) (k:=1) (s:=true) (t:=true) (by decide);obtain⟨c2,hc2⟩:=zfF (ns:=ns) (k:=2) (s:=true) (t:=true) (by decide);obtain⟨n,hn⟩:∃n:Int,n=1+c%8:=⟨_,rfl⟩;obtain⟨m,hm⟩:∃m:Nat,(m:Int)=1+c/8%6:=⟨(1+c/8%6).toNat,by omega⟩;have n1:1<=n:=by omega
 have n8:n<=8:=by omega
 have m1:1<=m:=by omega
 have m6:m<=6:=by omega
 have s1:zU true 1 (zA (aC (fV 0) (aC (fC (.int 0)) aN)) zK) (XQ 14 [(true,zO ns)])=some (.nx [some (.lf true (zO ns)),some (lfI c),none,none,none,none,none,none,none,none,none,none,none,none]):=zV (i:=1) (xW (ve rfl) ce hc) (zG rfl);have s2:zU true 2 (f2 (fC (.int 1)) (f2 (fV 1) (fC (.int 8)) (zr .Mod)) (zr .Add)) [some (.lf true (zO ns)),some (lfI c),none,none,none,none,none,none,none,none,none,none,none,none]=some (.nx [some (.lf true (zO ns)),some (lfI c),some (lfI n),none,none,none,none,none,none,none,none,none,none,none]):=by
  rw[hn];exact zV (i:=2) (wg zf (yJ (zc (i:=1) rfl) zf (by decide))) (zG rfl)
 have s3:zU true 3 (f2 (fC (.int 1)) (f2 (f2 (fV 1) (fC (.int 8)) (zr .FloorDiv)) (fC (.int 6)) (zr .Mod)) (zr .Add)) [some (.lf true (zO ns)),some (lfI c),some (lfI n),none,none,none,none,none,none,none,none,none,none,none]=some (.nx [some (.lf true (zO ns)),some (lfI c),some (lfI n),some (lfI m),none,none,none,none,none,none,none,none,none,none]):=by
  rw[hm];exact zV (i:=3) (wg zf (yJ (Zb (zc (i:=1) rfl) zf (by decide) (yW (by decide) (by decide))) zf (by decide))) (zG rfl)
 obtain⟨xs,xl,xb,w4⟩:=stE (as:=[some (.lf true (zO ns)),some (lfI c),some (lfI n),some (lfI m),none,none,none,none,none,none,none,none,none,none]) (c:=c/48) (m:=7) (by decide) (Zb (zc (i:=1) rfl) (zf (x:=.int 48)) (by decide) (yW (by decide) (by decide))).e (ce (x:=.int (7:Nat)));have s4:=Yi (p:=4) w4 (zG rfl);obtain⟨nm,nl,nd,nN,w5⟩:=zry (c:=c1);have s5:zU true 5 (zA (aC (zA (aC (fV 0) (aC (fC (.int 1)) aN)) zK) (aC (fC (.int 10)) aN)) ZF) [some (.lf true (zO ns)),some (lfI c),some (lfI n),some (lfI m),some (.lf true (zO xs)),none,none,none,none,none,none,none,none,none]=some (.nx [some (.lf true (zO ns)),some (lfI c),some (lfI n),some (lfI m),some (.lf true (zO xs)),some (.lf true (lsD nm)),none,none,none,none,none,none,none,none]):=Yi (p:=5) (zcE (xW (ve (i:=0) rfl) ce hc1).e ce w5) (zG rfl);obtain⟨ys,yl,yb,w6⟩:=stE (as:=[some (.lf true (zO ns)),some (lfI c),some (lfI n),some (lfI m),some (.lf true (zO xs)),some (.lf true (lsD nm)),none,none,none,none,none,none,none,none]) (c:=c2) (m:=1) (by decide) (xW (ve (i:=0) rfl) (ce (x:=.int 2)) hc2).e (ce (x:=.int (1:Nat)));obtain⟨y,gy,_⟩:=atS yb (k:=0) (by decide) (by omega);obtain⟨s,hs,e6⟩:=zko (x:=y) (n:=.int n);have s6:zU true 6 (zA (aC (f2 (zA (aC (zA (aC (fV 0) (aC (fC (.int 2)) aN)) zK) (aC (fC (.int 1)) aN)) yt) (fC (.int 0)) ixP) (aC (fV 2) aN)) wF) [some (.lf true (zO ns)),some (lfI c),some (lfI n),some (lfI m),some (.lf true (zO xs)),some (.lf true (lsD nm)),none,none,none,none,none,none,none,none]=some (.nx [some (.lf true (zO ns)),some (lfI c),some (lfI n),some (lfI m),some (.lf true (zO xs)),some (.lf true (lsD nm)),some (tO s),none,none,none,none,none,none,none]):=zV (i:=6) (xW (f2E w6 ce gy).e (ve (i:=2) rfl) e6) (zG rfl);have s7:∃t:Tm,t.ok "b"/\t.ht<=13/\t.cnt<=40/\sIf (fT (f2 (f2 (zA (aC (fV 0) (aC (fC (.int 2)) aN)) zK) (fC (.int 4)) (zr .Mod)) (fC (.int 1)) (zY .Gt))) (zU true 6 (zA (aC (f2 (zA (aC (fV 0) (aC (fC (.int 2)) aN)) zK) (fC (.int 4)) (zr .FloorDiv)) (aC (xX (dC (fC (.str "a")) (dC (fC (.str "b")) dN))) aN)) wQ)) sNx [some (.lf true (zO ns)),some (lfI c),some (lfI n),some (lfI m),some (.lf true (zO xs)),some (.lf true (lsD nm)),some (tO s),none,none,none,none,none,none,none]=some (.nx [some (.lf true (zO ns)),some (lfI c),some (lfI n),some (lfI m),some (.lf true (zO xs)),some (.lf true (lsD nm)),some (tO (S t)),none,none,none,none,none,none,none]):=by
  have hw:WD (f2 (f2 (zA (aC (fV 0) (aC (fC (.int 2)) aN)) zK) (fC (.int 4)) (zr .Mod)) (fC (.int 1)) (zY .Gt)) [some (.lf true (zO ns)),some (lfI c),some (lfI n),some (lfI m),some (.lf true (zO xs)),some (.lf true (lsD nm)),some (tO s),none,none,none,none,none,none,none] true (.bl (decide (1<c2%4))):=zcV (yJ (xW (ve (i:=0) rfl) ce hc2) zf (by decide)) zf
  by_cases hq:1<c2%4
  . rw[zyI hq]at hw;obtain⟨s',⟨t,t1,t2,t3,rfl⟩,e⟩:=zoB (c:=c2/4) (p:="b") (.inl rfl);exact⟨t,t1,t2,t3,wX (zH hw rfl) (zV (i:=6) (xW (Zb (xW (ve (i:=0) rfl) ce hc2) zf (by decide) (yW (by decide) (by decide))).e (xR (zF zf (zF zf yp)) (szl rfl) rfl rfl) e) (zG rfl))⟩
  . rw[zyA hq]at hw;obtain⟨t,t1,t2,t3,rfl⟩:=hs;exact⟨t,t1,t2,t3,yh (zH hw rfl) rfl⟩
 obtain⟨t,t1,t2,t3,s7⟩:=s7;have s8:=Yi (p:=7) (zrl (as:=[some (.lf true (zO ns)),some (lfI c),some (lfI n),some (lfI m),some (.lf true (zO xs)),some (.lf true (lsD nm)),some (tO (S t)),none,none,none,none,none,none,none]) (cap:=[none,some 6,some 2]) (i:=0) (fn:=fV 2) n1 n8 t1 (by omega) (by omega) (ve rfl) rfl) (zG rfl);obtain⟨x0,g0,_⟩:=atS xb (k:=0) (by decide) (by omega);obtain⟨x1,g1,_⟩:=atS xb (k:=1) (by decide) (by omega);obtain⟨x6,g6,b6⟩:=atS xb (k:=6) (by decide) (by omega);obtain⟨q,hq⟩:∃q:Nat,(q:Int)=x0%7:=⟨(x0%7).toNat,by omega⟩;have q6:q<=6:=by omega
 obtain⟨Ds,dn,dk,w9⟩:=zrJ (ns:=ns) (n:=n) (m:=m) (nm:=nm.take q) n1 n8 m1 m6 (λx mx=>zue (nN x (List.mem_of_mem_take mx))) (by rw[zzO];omega);have dl:Ds.length=q:=by have:=congrArg List.length dn;rw[zD,zzO]at this;omega
 obtain⟨o9,i1,i2,i3⟩:=zuE (as:=[some (.lf true (zO ns)),some (lfI c),some (lfI n),some (lfI m),some (.lf true (zO xs)),some (.lf true (lsD nm)),some (tO (S t)),some (.lf true (.lst ((xJ n t).map zO))),none,none,none,none,none,none]) (ve (i:=0) rfl) (ve (i:=2) rfl) (ve (i:=3) rfl) (zah (lo:=none) (hi:=some (x0%7)) (fl:=oN) (fh:=oS (f2 (f2 (fV 4) (fC (.int 0)) ixP) (fC (.int 7)) (zr .Mod))) (g:=slP) (zs:=(nm.take q).map D.str) (ve (i:=5) rfl) rfl (oSE (yJ (yu (zc (i:=4) rfl) zf g0 rfl) zf (by decide))) (by
  show some (R0.fl (cutD (nm.map D.str) none (some (x0%7))))=_;rw[<-hq,zmj (by rw[zD];omega),List.map_take])) w9
 have s9:zkD (zA (aC (fV 0) (aC (fV 2) (aC (fV 3) (aC (fSl (fV 5) oN (oS (f2 (f2 (fV 4) (fC (.int 0)) ixP) (fC (.int 7)) (zr .Mod))) slP) aN)))) ZL) (gT 2 (gsC (gN 8) (gsC (gN 9) gsN))) [some (.lf true (zO ns)),some (lfI c),some (lfI n),some (lfI m),some (.lf true (zO xs)),some (.lf true (lsD nm)),some (tO (S t)),some (.lf true (.lst ((xJ n t).map zO))),none,none,none,none,none,none]=some (.nx [some (.lf true (zO ns)),some (lfI c),some (lfI n),some (lfI m),some (.lf true (zO xs)),some (.lf true (lsD nm)),some (tO (S t)),some (.lf true (.lst ((xJ n t).map zO))),some (.lf true (.lst (Ds.map yH))),some (.lf true (lsD (Ds.map lD))),none,none,none,none]):=zjX (o:=o9) i1 (by rw[i2,i3];rfl);have k5:0<=x1%5/\x1%5<5:=⟨by omega,by omega⟩;obtain⟨Ss,os,f11,sl,so,sm,s11⟩:=zgi (ns:=ns) (c:=c) (n:=n) (m:=m) (xs:=xs) (nm:=nm) (X:=S t) (T:=xJ n t) (Ds:=Ds) n1 n8 xb xl nl (λx mx=>zue (nN x mx)) (x1%5).toNat [] [] none (by simp;omega) Ows.nil rfl;have sl4:Ss.length<=4:=by rw[sl];simp;omega
 have s10:zU false 10 (xX dN) [some (.lf true (zO ns)),some (lfI c),some (lfI n),some (lfI m),some (.lf true (zO xs)),some (.lf true (lsD nm)),some (tO (S t)),some (.lf true (.lst ((xJ n t).map zO))),some (.lf true (.lst (Ds.map yH))),some (.lf true (lsD (Ds.map lD))),none,none,none,none]=some (.nx (Y14 ns c n m xs nm (S t) (xJ n t) Ds [] none)):=vL (i:=10) (Z1 yp (by decide)) (zG rfl);have s11':zaX (vf (aC (f2 (f2 (fV 4) (fC (.int 1)) ixP) (fC (.int 5)) (zr .Mod)) aN) vY) (gN 11) sgB (Y14 ns c n m xs nm (S t) (xJ n t) Ds [] none)=some (.nx (Y14 ns c n m xs nm (S t) (xJ n t) Ds os f11)):=ZM (wK (j:=x1%5) (zB (yJ (yu (zc (i:=4) rfl) zf g1 rfl) zf (by decide)) zP) (by omega) (by omega)) s11;obtain⟨e,he⟩:∃e:Int,e=x6%n:=⟨_,rfl⟩;have e0:0<=e:=by rw[he];exact zyH _ (by omega)
 have e1:e<n:=by rw[he];exact zyB _ (by omega)
 have ko:=Wm (.inl rfl) t1;have lS':=zix ko;have hA:AOk n m (S t) (xJ n t) e Ds Ss:=⟨n1,n8,m1,m6,zra n1,zsp n1 n8 t1 t2 t3,by omega,zwy ko,e0,e1,by omega,dk,by rw[dn];exact nd.sublist (List.take_sublist _ _),sl4,so.al,by rw[sm];exact nd.sublist ((List.take_sublist _ _).trans (List.drop_sublist _ _))⟩;have s12:zU true 12 (Yg (dC (fV 2) (dC (fV 3) (dC (fV 7) (dC (f2 (f2 (fV 4) (fC (.int 6)) ixP) (fV 2) (zr .Mod)) (dC (fV 8) (dC (fV 10) dN))))))) (Y14 ns c n m xs nm (S t) (xJ n t) Ds os f11)=some (.nx [some (.lf true (zO ns)),some (lfI c),some (lfI n),some (lfI m),some (.lf true (zO xs)),some (.lf true (lsD nm)),some (tO (S t)),some (.lf true (.lst ((xJ n t).map zO))),some (.lf true (.lst (Ds.map yH))),some (.lf true (lsD (Ds.map lD))),some (.lf true (.lst (Ss.map xM))),f11,some (.lf true (Ys n m (xJ n t) e Ds Ss)),none]):=by
  have he':WD (f2 (f2 (fV 4) (fC (.int 6)) ixP) (fV 2) (zr .Mod)) (Y14 ns c n m xs nm (S t) (xJ n t) Ds os f11) true (.int e):=by rw[he];exact yJ (yu (zc (i:=4) rfl) zf g6 rfl) (zc (i:=2) rfl) (by omega)
  exact zkm (i:=12) (znR (XX (zc (i:=2) rfl) (XX (zc (i:=3) rfl) (XX (zc (i:=7) rfl) (XX he' (XX (zc (i:=8) rfl) (dcB (i:=10) rfl so.st so.ds)))))) (szl rfl)) (zG rfl)
 have s13:=vL (i:=13) (zpP (as:=[some (.lf true (zO ns)),some (lfI c),some (lfI n),some (lfI m),some (.lf true (zO xs)),some (.lf true (lsD nm)),some (tO (S t)),some (.lf true (.lst ((xJ n t).map zO))),some (.lf true (.lst (Ds.map yH))),some (.lf true (lsD (Ds.map lD))),some (.lf true (.lst (Ss.map xM))),f11,some (.lf true (Ys n m (xJ n t) e Ds Ss)),none]) (ve (i:=12) rfl) (zlF hA)) (zG rfl);have s14:∃X,AOk n m X (xJ n t) e Ds Ss/\sIf (fT (f2 (f2 (f2 (f2 (fV 4) (fC (.int 6)) ixP) (fC (.int 8)) (zr .FloorDiv)) (fC (.int 2)) (zr .Mod)) (fC (.int 0)) (zY .Eq))) (ziZ 13 (xC 1) (f2 (fC (.str "join ")) (fV 6) (zr .Add))) sNx [some (.lf true (zO ns)),some (lfI c),some (lfI n),some (lfI m),some (.lf true (zO xs)),some (.lf true (lsD nm)),some (tO (S t)),some (.lf true (.lst ((xJ n t).map zO))),some (.lf true (.lst (Ds.map yH))),some (.lf true (lsD (Ds.map lD))),some (.lf true (.lst (Ss.map xM))),f11,some (.lf true (Ys n m (xJ n t) e Ds Ss)),some (.nd .ls ((lns n m (("rows ":Str)++tT (xJ n t)) e (Ds.map rw1) Ss).map tO))]=some (.nx [some (.lf true (zO ns)),some (lfI c),some (lfI n),some (lfI m),some (.lf true (zO xs)),some (.lf true (lsD nm)),some (tO (S t)),some (.lf true (.lst ((xJ n t).map zO))),some (.lf true (.lst (Ds.map yH))),some (.lf true (lsD (Ds.map lD))),some (.lf true (.lst (Ss.map xM))),f11,some (.lf true (Ys n m (xJ n t) e Ds Ss)),some (.nd .ls ((lns n m X e (Ds.map rw1) Ss).map tO))]):=by
  have hw:WD (f2 (f2 (f2 (f2 (fV 4) (fC (.int 6)) ixP) (fC (.int 8)) (zr .FloorDiv)) (fC (.int 2)) (zr .Mod)) (fC (.int 0)) (zY .Eq)) [some (.lf true (zO ns)),some (lfI c),some (lfI n),some (lfI m),some (.lf true (zO xs)),some (.lf true (lsD nm)),some (tO (S t)),some (.lf true (.lst ((xJ n t).map zO))),some (.lf true (.lst (Ds.map yH))),some (.lf true (lsD (Ds.map lD))),some (.lf true (.lst (Ss.map xM))),f11,some (.lf true (Ys n m (xJ n t) e Ds Ss)),some (.nd .ls ((lns n m (("rows ":Str)++tT (xJ n t)) e (Ds.map rw1) Ss).map tO))] true (.bl (x6/8%2==0)):=yG (yJ (Zb (yu (zc (i:=4) rfl) zf g6 rfl) zf (by decide) (yW (by decide) (by decide))) zf (by decide)) zf rfl;cases hq:(x6/8%2==0)
  . rw[hq]at hw;exact⟨("rows ":Str)++tT (xJ n t),{hA.rows with d6:=hA.d6,dk:=hA.dk,dn:=hA.dn},yh (zH hw rfl) rfl⟩
  . rw[hq]at hw;have lj:("join ":Str).length=5:=by decide +kernel
    exact⟨S t,hA,wX (zH hw rfl) (by
     show ziZ 13 (xC ((1:Nat):Int)) _ _=_;rw[ztk (i:=13) (k:=1) (os:=(lns n m (("rows ":Str)++tT (xJ n t)) e (Ds.map rw1) Ss).map tO) (o:=.str (lJ (("rows ":Str)++tT (xJ n t)))) (st:=true) (Zu (u:=("join ":Str)) (v:=S t) ce (ve (i:=6) rfl) (by omega)) rfl rfl];rfl)⟩
 obtain⟨X,hX,s14⟩:=s14;have d6:=hX.d6;have so':=zas hX.rows;have tL:(lns n m X e (Ds.map rw1) Ss).length=3+(Ds.length+Ss.length):=by unfold lns;simp;omega
 have all:((lns n m X e (Ds.map rw1) Ss).map tO).all O.isLf=true:=by simp[O.isLf]
 have ds:O.toDs ((lns n m X e (Ds.map rw1) Ss).map tO)=(lns n m X e (Ds.map rw1) Ss).map D.str:=zcs (λs=>D.str s) _;refine⟨n,m,X,xJ n t,e,Ds,Ss,hX,RS.fn rfl (.seq s1 (.seq s2 (.seq s3 (.seq s4 (.seq s5 (.seq s6 (.seq s7 (.seq s8 (.seq s9 (.seq s10 (.seq s11' (.seq s12 (.seq s13 (.seq s14 (.ret (zoL (zc (i:=12) rfl) ?_))))))))))))))))⟩;have w1:=znd (as:=[some (.lf true (zO ns)),some (lfI c),some (lfI n),some (lfI m),some (.lf true (zO xs)),some (.lf true (lsD nm)),some (tO (S t)),some (.lf true (.lst ((xJ n t).map zO))),some (.lf true (.lst (Ds.map yH))),some (.lf true (lsD (Ds.map lD))),some (.lf true (.lst (Ss.map xM))),f11,some (.lf true (Ys n m (xJ n t) e Ds Ss)),some (.nd .ls ((lns n m X e (Ds.map rw1) Ss).map tO))]) (i:=13) (fl:=oN) (fh:=oS (fC (.int 3))) (lo:=none) (hi:=some ((3:Nat):Int)) rfl all (Wq (λs=>D.str s) _) rfl (oSE zf);have w2:=znd (as:=[some (.lf true (zO ns)),some (lfI c),some (lfI n),some (lfI m),some (.lf true (zO xs)),some (.lf true (lsD nm)),some (tO (S t)),some (.lf true (.lst ((xJ n t).map zO))),some (.lf true (.lst (Ds.map yH))),some (.lf true (lsD (Ds.map lD))),some (.lf true (.lst (Ss.map xM))),f11,some (.lf true (Ys n m (xJ n t) e Ds Ss)),some (.nd .ls ((lns n m X e (Ds.map rw1) Ss).map tO))]) (i:=13) (fl:=oS (f2 (fC (.int 3)) (fP (aC (fV 9) aN) wz) (zr .Add))) (fh:=oN) (lo:=some (((3+Ds.length:Nat)):Int)) (hi:=none) rfl all (Wq (λs=>D.str s) _) (oSE (by
  have:=wg (as:=[some (.lf true (zO ns)),some (lfI c),some (lfI n),some (lfI m),some (.lf true (zO xs)),some (.lf true (lsD nm)),some (tO (S t)),some (.lf true (.lst ((xJ n t).map zO))),some (.lf true (.lst (Ds.map yH))),some (.lf true (lsD (Ds.map lD))),some (.lf true (.lst (Ss.map xM))),f11,some (.lf true (Ys n m (xJ n t) e Ds Ss)),some (.nd .ls ((lns n m X e (Ds.map rw1) Ss).map tO))]) (zf (x:=.int 3)) (zgM (ve (i:=9) (x:=lsD (Ds.map lD)) rfl));rw[zD,zD,show(3:Int)+(Ds.length:Int)=((3+Ds.length:Nat):Int) by omega]at this;exact this)) rfl
 rw[ds,zmj (by rw[zD];omega)]at w1;rw[ds,zrc (by rw[zD];omega)]at w2;have f:=zhV (zhV ⟨_,w1,zcq _,congrArg D.lst (zcm _)⟩ (ve (i:=9) (x:=lsD (Ds.map lD)) rfl) (add_lists (szs (by simp;omega)))) ⟨_,w2,zcq _,congrArg D.lst (zcm _)⟩ (add_lists (szs (by simp;omega)));have eq:List.take 3 ((lns n m X e (Ds.map rw1) Ss).map D.str)++(Ds.map lD).map D.str++List.drop (3+Ds.length) ((lns n m X e (Ds.map rw1) Ss).map D.str)=(lns n m X e Ds Ss).map D.str:=by
  rw[<-zsK n m X e Ds Ss,zyG,zyG,List.map_take,List.map_drop]
 rw[eq]at f;exact f
def Sh(k l:Nat)(d:D):Prop:=∃p,pyD d=some p/\p.showable=true/\p.hasDict=false/\p.depth<=k/\p.shown.length<=l
def ShL(k l:Nat)(ds:List D):Prop:=∃ps,zkl ds=some ps/\PyData.showableAll ps=true/\PyData.hasDictAll ps=false/\PyData.depthAll ps<=k/\((PyData.shownAll ps).map (·.length)).sum<=l/\ps.length=ds.length
theorem ShL.nil{k:Nat}:ShL k 0 []:=⟨[],by simp[zkl],by simp[PyData.showableAll],by simp[PyData.hasDictAll],by simp[PyData.depthAll],by simp[PyData.shownAll],rfl⟩
theorem ShL.cons{k l m:Nat}{d:D}{r:List D}(h:Sh k l d)(g:ShL k m r):ShL k (l+m) (d::r):=by
 obtain⟨p,h1,h2,h3,h4,h5⟩:=h;obtain⟨ps,g1,g2,g3,g4,g5,g6⟩:=g;exact⟨p::ps,by simp[zkl,h1,g1],by simp[PyData.showableAll,h2,g2],by simp[PyData.hasDictAll,h3,g3],by simp only[PyData.depthAll];omega,by simp only[PyData.shownAll,zyM,List.sum_cons];omega,congrArg (· + 1) g6⟩
theorem ShL.map{α:Type}{k l:Nat}{f:α->D}:∀{xs:List α},(∀x ∈ xs,Sh k l (f x))->ShL k (xs.length*l) (xs.map f)
 | [],_=>by rw[List.length_nil,Nat.zero_mul];exact ShL.nil
 |x::r,h=>by
  have:=ShL.cons (h x (by simp)) (ShL.map (xs:=r) λy m=>h y (zS _ m));rw[zzP,Nat.succ_mul,Nat.add_comm];exact this
theorem ShL.lst{k l c:Nat}{ds:List D}(h:ShL k l ds)(hc:ds.length<=c):Sh (k+1) (l+2*c+3) (.lst ds):=by
 obtain⟨ps,g1,g2,g3,g4,g5,g6⟩:=h;have z:=listText_len_le (PyData.shownAll ps);rw[PyData.shownAll_length]at z;refine⟨.list ps,by simp[pyD,g1],by simp[PyData.showable,g2],by simp[PyData.hasDict,g3],by simp only[PyData.depth];omega, ?_⟩;simp only[PyData.shown];omega
theorem ShL.tup{k l c:Nat}{ds:List D}(h:ShL k l ds)(hc:ds.length<=c):Sh (k+1) (l+2*c+3) (.tup ds):=by
 obtain⟨ps,g1,g2,g3,g4,g5,g6⟩:=h;have z:=tupleText_len_le (PyData.shownAll ps);rw[PyData.shownAll_length]at z;refine⟨.tuple ps,by simp[pyD,g1],by simp[PyData.showable,g2],by simp[PyData.hasDict,g3],by simp only[PyData.depth];omega, ?_⟩;simp only[PyData.shown];omega
theorem Sh.mono{k l k' l':Nat}{d:D}(h:Sh k l d)(hk:k<=k')(hl:l<=l'):Sh k' l' d:=by
 obtain⟨p,h1,h2,h3,h4,h5⟩:=h;exact⟨p,h1,h2,h3,by omega,by omega⟩
theorem zka{v:Int}(h0:0<=v)(h1:v<10 ^ 60):Sh 0 60 (.int v):=⟨.int v,by simp[pyD],by simp[PyData.showable,zrB h0 h1],by simp[PyData.hasDict],by simp[PyData.depth],by simp only[PyData.shown];exact xZ h0 h1⟩
theorem zqE{x:Str}(h:Nm x):Sh 0 90 (.str x):=⟨.str x,by simp[pyD],by simp[PyData.showable],by simp[PyData.hasDict],by simp[PyData.depth],by
 simp only[PyData.shown];have:=StrLaws.reprText_len x (λc mc=>Nat.lt_of_le_of_lt (h.2.2 c mc).2 (by decide));have:=h.2.1;omega⟩
theorem zqe{r:List Int}(h:Vs r):Sh 1 600 (zO r):=by
 have:=(ShL.map (k:=0) (l:=60) (f:=D.int) λv m=>zka (h.2 v m).1 (h.2 v m).2).lst (c:=8) (by rw[zD];exact h.1);have:=h.1;exact Sh.mono ‹Sh _ _ _› (zzJ _) (by omega)
theorem zru{T:List (List Int)}(h:Ts T):Sh 2 5000 (.lst (T.map zO)):=by
 have z:=(ShL.map (k:=1) (l:=600) (f:=zO) λr m=>zqe (h.2 r m)).lst (c:=8) (by rw[zD];exact h.1);have:=h.1;exact z.mono (zzJ _) (by omega)
section
variable{n e:Int}{m:Nat}{X:Str}{T:List (List Int)}{Ds:List Dd}{Ss:List Sd}
theorem zuR(h:AOk n m X T e Ds Ss):Sh 5 100000 (Ys n m T e Ds Ss):=by
 have n1:=h.n1;have n8:=h.n8;have m6:=h.m6;have e0:=h.e0;have e1:=h.e1;have d6:=h.d6;have s4:=h.s4;have hD:Sh 4 40000 (.lst (Ds.map yH)):=by
  have z:=(ShL.map (k:=3) (l:=5200) (f:=yH) λp mp=>((ShL.cons ((zqE (h.dk p mp).1.1).mono (Nat.zero_le _) (zzJ _)) (ShL.cons (zru (zih n8 m6 (h.dk p mp).1)) ShL.nil)).tup (c:=2) (zzJ 2)).mono (zzJ _) (by omega)).lst (c:=6) (by rw[zD];exact d6);exact z.mono (zzJ _) (by omega)
 have hS:Sh 3 5000 (.lst (Ss.map xM)):=by
  have z:=(ShL.map (k:=2) (l:=800) (f:=xM) λp mp=>((ShL.cons ((zqE (h.sk p mp).1).mono (Nat.zero_le _) (zzJ _)) (ShL.cons (zqe (zrE n8 (h.sk p mp))) ShL.nil)).tup (c:=2) (zzJ 2)).mono (zzJ _) (by omega)).lst (c:=4) (by rw[zD];exact s4);exact z.mono (zzJ _) (by omega)
 have z:=(ShL.cons ((zka (v:=n) (by omega) (by omega)).mono (Nat.zero_le 4) (zzJ _)) (ShL.cons ((zka (v:=(m:Int)) (by omega) (by omega)).mono (Nat.zero_le 4) (zzJ _)) (ShL.cons ((zru (zfp n8 (by omega) h.tb)).mono (by decide:2<=4) (zzJ _)) (ShL.cons ((zka (v:=e) e0 (by omega)).mono (Nat.zero_le 4) (zzJ _)) (ShL.cons hD (ShL.cons (hS.mono (by decide) (zzJ _)) ShL.nil)))))).tup (c:=6) (zzJ 6);exact z.mono (zzJ _) (by omega)
theorem zpZ(h:AOk n m X T e Ds Ss):∃s,zlD [Ys n m T e Ds Ss]=some (.im (.str s)):=by
 obtain⟨p,h1,h2,h3,h4,h5⟩:=zuR h;refine⟨p.shown, ?_⟩;show(pyD (Ys n m T e Ds Ss)).bind _=_;rw[h1];show(if _ then some (R0.im (.str p.shown))else none)=_;rw[if_pos ⟨h2,h3,by omega,szs (by omega)⟩]
theorem eq_int(k:Nat)(v:Int):eqF (k+1) (.int v) (.int v)=some true:=by show some (v==v)=_;simp
theorem eq_str(k:Nat)(v:Str):eqF (k+1) (.str v) (.str v)=some true:=by show some (v==v)=_;simp
theorem zki{k:Nat}{ds:List D}(h:∀d ∈ ds,eqF k d d=some true):eqF (k+1) (.lst ds) (.lst ds)=some true:=by show eqL (eqF k) ds ds=_;exact zha h
theorem zmZ{k:Nat}{ds:List D}(h:∀d ∈ ds,eqF k d d=some true):eqF (k+1) (.tup ds) (.tup ds)=some true:=by show eqL (eqF k) ds ds=_;exact zha h
theorem znY(k:Nat)(r:List Int):eqF (k+2) (zO r) (zO r)=some true:=zki λd md=>by obtain⟨v,_,rfl⟩:=zyV.mp md;exact eq_int k v
theorem zrL(k:Nat)(T:List (List Int)):eqF (k+3) (.lst (T.map zO)) (.lst (T.map zO))=some true:=zki λd md=>by obtain⟨r,_,rfl⟩:=zyV.mp md;exact znY k r
theorem zmD:eqF 60 (Ys n m T e Ds Ss) (Ys n m T e Ds Ss)=some true:=zmZ (k:=59) λd md=>by
 simp only[zI,zyT,or_false]at md
 rcases md with rfl|rfl|rfl|rfl|rfl|rfl
 . exact eq_int 58 _
 . exact eq_int 58 _
 . exact zrL 56 _
 . exact eq_int 58 _
 . exact zki λd md=>by
    obtain⟨p,_,rfl⟩:=zyV.mp md;exact zmZ (k:=57) λd md=>by
     simp only[zI,zyT,or_false]at md
     rcases md with rfl|rfl
     . exact eq_str 56 _
     . exact zrL 54 _
 . exact zki λd md=>by
    obtain⟨p,_,rfl⟩:=zyV.mp md;exact zmZ (k:=57) λd md=>by
     simp only[zI,zyT,or_false]at md
     rcases md with rfl|rfl
     . exact eq_str 56 _
     . exact znY 55 _
theorem zlo(h:AOk n m X T e Ds Ss):wH (.str sn) [lsD (lns n m X e Ds Ss)]=some (.im (.str (Str.join sn (lns n m X e Ds Ss)))):=zgX (by
 have ho:=zas h;have z:=zjr ho.2;have z2:=Nat.mul_le_mul_right 10020 ho.1;rw[zvH];have:=ho.1;omega)
end
theorem zrX(ns:List Int)(_:ns.length<=63):zhw [(true,.lst (ns.map .int))]=some (.lf true (.bl true)):=by
 obtain⟨n,m,X,T,e,Ds,Ss,h,hd⟩:=zqm ns;obtain⟨o,i1,i2,i3⟩:=zvu (as:=[some (.lf true (zO ns)),none,none,none,none]) (a:=fV 0) (ve rfl) hd;obtain⟨rp,hr⟩:=zpZ h;have hR:=h.rows;have hj:∀as:AS,as[2]? = some (some (.lf true (lsD (lns n m X e Ds Ss))))->WD (yF .str (fC (.str "\n")) (aC (fV 2) aN) wH) as true (.str (Str.join sn (lns n m X e Ds Ss))):=λas h2=>zdq zf rfl (ve h2) (zlo h);have hrd:∀as:AS,as[2]? = some (some (.lf true (lsD (lns n m X e Ds Ss))))->WD (zA (aC (yF .str (fC (.str "\n")) (aC (fV 2) aN) wH) aN) yM) as true (Ys n m T e Ds Ss):=λas h2=>vH (hj as h2).e (zlt h);have eR:Ys n m T e (Ds.map rw1) Ss=Ys n m T e Ds Ss:=by
  show D.tup [.int n,.int m,.lst (T.map zO),.int e,.lst ((Ds.map rw1).map yH),.lst (Ss.map xM)]=_;rw[zzV];rfl
 have rd2:yM [(true,.str (Str.join sn (lns n m (("rows ":Str)++tT T) e (Ds.map rw1) Ss)))]=some (.lf true (Ys n m T e Ds Ss)):=by rw[zlt hR,eR]
 have hl:∀as:AS,as[1]? = some (some (.lf true (Ys n m T e Ds Ss)))->WD (yF .str (fC (.str "\n")) (aC (zA (aC (fV 1) aN) vA) aN) wH) as true (.str (Str.join sn (lns n m (("rows ":Str)++tT T) e (Ds.map rw1) Ss))):=λas h1=>
  zdq zf rfl (x:=lsD (lns n m (("rows ":Str)++tT T) e (Ds.map rw1) Ss)) ⟨_,zpP (ve h1) (zlF h),Wq (λs=>D.str s) _,congrArg D.lst (zcs (λs=>D.str s) _)⟩ (zlo hR)
 refine ym rfl (zu (as1:=[some (.lf true (zO ns)),some (.lf true (Ys n m T e Ds Ss)),some (.lf true (lsD (lns n m X e Ds Ss))),none,none]) (zjX (o:=o) i1 (by rw[i2,i3];rfl))
  (zu (zV (i:=3) (hrd _ rfl) (zG rfl))
  (zu (yh (v9 (k:=false) (W6 (k:=true) (zH (zmG (zc (i:=3) rfl) rfl) rfl)) (λ_=>v9 (k:=false) (zH (zci (c:=true) (zc (i:=3) rfl) (zc (i:=1) rfl) zmD) rfl) (λ_=>zH (zci (c:=true) (Zv (ve (i:=3) rfl) hr) (Zv (ve (i:=1) rfl) hr) (eq_str 59 rp)) rfl) (λh=>nomatch h)) (λh=>nomatch h)) rfl)
  (zu (zV (i:=4) (vH (ve (i:=3) rfl) (zrf h)) (zG rfl))
  (zu (yh (zH (zci (c:=true) (zc (i:=4) rfl) (hl _ rfl) (eq_str 59 _)) rfl) rfl)
  (yf (zhB (k:=true) (yG (c:=true) (vH (ve (i:=4) rfl) rd2) (zc (i:=1) rfl) zmD) (λ_=>yG (c:=true) (hrd _ rfl) (zc (i:=1) rfl) zmD) (λh=>nomatch h))))))))
end G16
end
end
open PySem PySem.W PyProof.Rows
set_option maxRecDepth 100000 in
set_option maxHeartbeats 0 in
theorem PySem.Challenge.cw_stretchdeeds_k16_terms_in_texts_holds : PySem.Challenge.rw_stretchdeeds_k16_terms_in_texts.Holds := by
 w_on;refine holds_law G16.ws λsaid=>?_
 refine holds_open (q:=G16.qv) (loose:=["PARTS"]) (Xt:=G16.Xt) (XP:=XL G16.qv []) (Yf:=Hook.obs (kHook G16.K G16.kA G16.kAe)) (Ya:=Hook.val (kHook G16.K G16.kA G16.kAe)) (YP:=Hook.says (kHook G16.K G16.kA G16.kAe)) (N:=8000) G16.hl (Hook.of (kHook G16.K G16.kA G16.kAe)) (Hook.keeps (kHook G16.K G16.kA G16.kAe)) (λs e=>xl_of s (Bool.and_eq_true_iff.mp e).1) XL.keeps (by rfl) (by rfl) (by rfl) (λs e=>recFacts_of (Bool.and_eq_true_iff.mp e).2) (by rfl) (by first|assumption|decide +kernel) (by decide +kernel) ⟨rfl,rfl,rfl,rfl,rfl,by decide +kernel⟩ ?hw ?hc
 (case hw=>w_witness2)
 k_fill
 refine G16.walk (l:=PySem.Challenge.rw_stretchdeeds_k16_terms_in_texts) rfl rfl (λw h Y=>PySem.W.kIn_of Y) G16.zrX ?F
 case F=>
  intro w mg fa h KX G hmg;refine' G16.zvN KX G hmg ?_ ?_ ?_ ?_ ?_ ?_ ?_ ?_ ?_ ?_ ?_ ?_ ?_ ?_ ?_ ?_ ?_ ?_ ?_ ?_ ?_ ?_ ?_ ?_ ?_ ?_ ?_ ?_ ?_ ?_ ?_ ?_ ?_ ?_ ?_ ?_ ?_ ?_ ?_ ?_ ?_ ?_ ?_ ?_ ?_ ?_ ?_ ?_ ?_ ?_ ?_ ?_ ?_ ?_ ?_ ?_ ?_ ?_ ?_ ?_ ?_ ?_ ?_ ?_ ?_ ?_ ?_ ?_ ?_ ?_ ?_ ?_ ?_ ?_ ?_ ?_ ?_ ?_ ?_ ?_ ?_ ?_ ?_ ?_ ?_ ?_ ?_ ?_ ?_ ?_ ?_ ?_ ?_ ?_ ?_ ?_ ?_ ?_ ?_ ?_ ?_ ?_ ?_ ?_ ?_ ?_ ?_ ?_ ?_ ?_ ?_ ?_ ?_ ?_ ?_ ?_ ?_ ?_ ?_ ?_ ?_ ?_ ?_ ?_ ?_ ?_ ?_ ?_
  all_goals try first|k_is|(change _=_;k_is)|exact⟨_,⟨_,_,_,_,_,_,_,_,_,rfl,by k_is,by k_is⟩,by k_is⟩|rfl
#print axioms PySem.Challenge.cw_stretchdeeds_k16_terms_in_texts_holds
